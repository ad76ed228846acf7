/- Crash of a device. | How many files a device has, and how many bytes; a new device; what is handed to its calls out of new memory; conversions of bytes. | A device of no file, or of one: what each call makes of it; and the live question of the layer's statements is answered true. | The document's own answer on names (R.Name): it is the program's. | The statement DeviceGrows, its walk: whatever the name, the parts and what is kept, the call answers true and turns nothing that was there. | Great: it ends, and where it answers false the calls are no more than three hundred. | The contracts on slices.Sorted(maps.Keys(..)) here (made by the kit's tools: lay-iter.mjs, lay-plain.mjs). -/
import Derived.Test.YtdpbnacabinlgaaGreatDoorM2
import Derived.IntWalk
import Derived.Lib.MinMax
import Derived.BigRegion
import Derived.Lib.ConvBytes
import Derived.Laws.BytesArg
import Derived.Lib.SlBytesConst
import Derived.Deep.QuietTactic
import Derived.BigQuiet
import Derived.Shelf.SlGeneric
import Derived.Shelf.SlIter.Nil
import Derived.Shelf.SortM.Plain
import Derived.Shelf.SortM.SortNone
import Derived.Ground.GgzProg
import Derived.Ground.SlgmProg
import Derived.Test.YtdpbnacabinlgaaGreatDoorProg
namespace Go.Proofs.YtdpbnacabinlgaaGreatDoor
open Go.RowKit Go.Lib Go.Maps Go.ChangeMaps

section
variable {S : Prop} {w w' : World} {own own' : Owner} {db fb rb : Nat} {D D' E E' : DataW Unit} {n n' : Nat} {m : DevM}

theorem FirstAt.turn {H : Type} {P : Program} {kt : TypeId} {R : Value → Option (DataW H × List MemPlace)} {b r nn cnt : Nat} {DD : DataW H} {left : Lit → Bool} {B bx : Nat} {ks : List (ByteArray × Int)}
    (h : FirstAt w B bx ks) (hrg : w.ranges P kt R b r nn DD left cnt) (hg : w.grownBy w' (some r)) : FirstAt w' B bx ks := by
  obtain ⟨mb, c, D, h1, h2, hx, hown, h3⟩ := h
  obtain ⟨es, clock, since, seen, c0, _, _, _, _, hr, _⟩ := hrg
  refine ⟨mb, c, D, h1, h2, hg.cell hx (fun e => ?_), hown.kept hg (fun e => ?_), h3⟩
  · injection e with e
    change bx = r at e
    subst e
    simp [World.cell?, hr] at hx
  · injection e with e
    subst e
    obtain ⟨es', clock', h5, _⟩ := hown
    rw [hr] at h5
    cases h5

theorem drew_below (w : World) : Below w.heap.size w w.drew := (Below.refl _ _).drew
theorem drew_grown (w : World) : w.grownBy w.drew none := ⟨(drew_below w).os, (drew_below w).tape, (drew_below w).output, (drew_below w).size, fun k hk _ => (drew_below w).block k hk⟩
theorem drew_step (own : Owner) (w : World) : Step own own w w.drew := Step.of_fr (Fr.of_below (drew_below w))
theorem Dev.drew (h : Dev S w own db fb rb D E n m) : Dev S w.drew own db fb rb D E n m := h.fr (T := fun _ => False) (Fr.of_below (drew_below w)) (fun _ _ h => h)

theorem Dev.weak (h : Dev S w own db fb rb D E n m) : Dev False w own db fb rb D E n m where
  blk := h.blk
  fmap := h.fmap
  rmap := h.rmap
  cnt := h.cnt
  dom := h.dom
  rdom := h.rdom
  rback := fun hF => hF.elim
  fil := h.fil
  rem := h.rem
  odb := h.odb
  ofb := h.ofb
  orb := h.orb
  old := h.old
  rroom := h.rroom
  rfuse := h.rfuse
  racts := h.racts

theorem Dev.fmap_sz (h : Dev S w own db fb rb D E n m) : ∃ c, w.ownsMap Tryz.prog 9 ptrR fb c D ∧ c = Maps.size D := by
  obtain ⟨c0, es, clock, h1, h2, h3, h4⟩ := h.fmap
  exact ⟨es.size, ⟨es, clock, h1, h2, Nat.le_refl _, h4⟩, by rw [h4]; simp [Maps.size, length_sorted]⟩

set_option maxHeartbeats 2000000 in
set_option maxRecDepth 100000 in
theorem Dev.crash (h : Dev S w own db fb rb D E n m) (hS : S) (hn : n ≤ 1000000000000) {kv : Value} {ks : List (ByteArray × Int)} (hk : KArg w own kv ks) (hkl : ks.length ≤ 1000000000000) :
    Calls Tryz.prog 21 #[.pointer (some ⟨db, 0, none⟩), kv] w fun e w' => e = .returned (.tuple #[]) ∧ ∃ own' D', Dev S w' own' db fb rb D' (.map []) n (crashM ks m) ∧ Step own own' w w' := by
  have H0 : Hid (Dev S w own db fb rb D E n m) := h
  have Hold : Hid (∀ b, w.heap.size ≤ b → own b = none) := h.old
  have Hk := Lib.hid hk
  clear h hk
  go_enter Tryz.func21, Tryz.ntmps21
  go_wp2_with fail
  refine (firstOf_calls Hk.out hkl).mono ?_
  rintro e w1 ⟨bx, rfl, hfa, hb1⟩
  have HF1 := Lib.hid hfa
  have H1 : Hid (Dev S w1 own db fb rb D E n m) := H0.out.fr (T := fun _ => False) (Fr.of_below hb1) (fun _ _ h => h)
  have ST1 : Hid (Step own own w w1) := Step.of_fr (Fr.of_below hb1)
  clear hfa hb1
  have c1 := H1.out.c1
  obtain ⟨c, hc⟩ := H1.out.fmap
  go_wp2_with (first
    | (at_range; refine wpList_range_own _ rfl _ 72 rfl 9 71 lawS Tryz.underlying72 _ fb c _ rfl hc ?_; intro w0 hrg0 hg0 hs0)
    | fail)
  clear hc c1
  go_frame
  go_loopw [5] (fun _ wr => ∃ (left : Lit → Bool) (cnt : Nat) (D1 : DataW Unit), wr.ranges Tryz.prog 9 ptrR fb w1.heap.size c D1 left cnt ∧ Hid (Dev S wr own db fb rb D1 E n { m with files := crashL ks left m.files }) ∧ Hid (Step own own w wr) ∧ Hid (∀ k, left (.string k) = true → Maps.has D1 (.string k) = true) ∧ Hid (FirstAt wr w.heap.size bx ks))
    (fun _ wr => wr.rangeLeft fb w1.heap.size)
  case atStart =>
    have e1 : crashL ks (Maps.has D) m.files = m.files := by
      funext k
      cases hk : m.files k with
      | none => simp [crashL, hk]
      | some f => simp [crashL, hk, H1.out.dom k]
    have st0 : Step own own w1 w0 := Step.of_fr ((Fr.refl _ _).grown hg0 (fun k hk _ => by cases hk))
    refine ⟨_, _, D, hrg0, ?_, ST1.out.trans st0, fun k hk => hk, HF1.out.step st0 Hold.out⟩
    rw [e1]
    exact H1.out.kept hg0.size (fun b hb => hg0.block b (H1.out.lt hb) (by simp))
  case round =>
    obtain ⟨left, cnt, D1, hrg, HD, HS, Hl, HF⟩ := hrel
    go_wp2_with (first
      | (at_next; refine wpList_next_files _ rfl _ rfl fb w1.heap.size c _ _ _ rfl hrg (fun k hk => HD.out.ptrs k (Hl.out _ hk)) ?_ ?_)
      | fail)
    · intro _ hl0
      have Hl0 := Lib.hid hl0
      clear hl0
      have d2 := HD.out.c2
      obtain ⟨c2, hc2⟩ := HD.out.rmap
      go_wp2_with (first
        | (at_range; refine wpList_range_own _ rfl _ 73 rfl 9 49 lawS Tryz.underlying73 _ rb c2 _ rfl hc2 ?_; intro w3 hrg3 hg3 hs3)
        | fail)
      clear hc2 d2
      have HD0 : Hid (Dev False w3 own db fb rb D1 E n { m with files := crash1 ks m.files }) := by
        have h5 := HD.out.weak
        have e1 : crashL ks left m.files = crash1 ks m.files := by
          funext k
          simp [crashL, crash1, Hl0.out]
        simp only [e1] at h5
        exact h5.kept hg3.size (fun b hb => hg3.block b (h5.lt hb) (by simp))
      have HS0 : Hid (Step own own w w3) := HS.out.trans (Step.of_fr ((Fr.refl _ _).grown hg3 (fun k hk _ => by cases hk)))
      have Hrz : Hid (w.heap.size ≤ wr.heap.size) := HS.out.fr.size
      have Hr0 : Hid (own wr.heap.size = none) := HD.out.old _ (Nat.le_refl _)
      clear hrg
      go_frame
      go_loopw [8] (fun _ wq => ∃ (left2 : Lit → Bool) (cnt2 : Nat) (own2 : Owner) (D2 : DataW Unit) (nn : Nat), wq.ranges Tryz.prog 9 slR rb wr.heap.size c2 E left2 cnt2 ∧ Hid (Dev False wq own2 db fb rb D2 E nn { m with files := backL left2 m.gone (crash1 ks m.files), gone := goneL left2 m.gone }) ∧
          Hid (Step own own2 w wq) ∧ Hid (∀ k, left2 (.string k) = true → Maps.has E (.string k) = true) ∧ Hid (Maps.size D2 + cnt2 ≤ n) ∧ Hid (own2 wr.heap.size = none) ∧ Hid (wr.heap.size < wq.heap.size))
        (fun _ wq => wq.rangeLeft rb wr.heap.size)
      case atStart =>
        have e1 : backL (Maps.has E) m.gone (crash1 ks m.files) = crash1 ks m.files := by
          funext k
          cases hk : m.gone k with
          | none => simp [backL, hk]
          | some d => simp [backL, H0.out.rdom k (by simp [hk])]
        have e2 : goneL (Maps.has E) m.gone = m.gone := by
          funext k
          cases hk : m.gone k with
          | none => simp [goneL, hk]
          | some d => simp [goneL, hk, H0.out.rdom k (by simp [hk])]
        refine ⟨_, _, own, D1, n, hrg3, ?_, HS0, fun k hk => hk, HD.out.cnt, Hr0, by show wr.heap.size < w3.heap.size; omega⟩
        rw [e1, e2]
        exact HD0
      case round =>
        obtain ⟨left2, cnt2, own2, D2, nn, hrg2, HD2, HS2, Hl2, Hc2, Hr2, Hlt2⟩ := hrel
        have d1 := HD2.out.c1
        go_wp2_with (first
          | (at_next; refine wpList_next_rem _ rfl _ rfl rb _ c2 _ _ _ rfl hrg2 ?_ ?_)
          | fail)
        · intro _ hl2
          have e1 : backL left2 m.gone (crash1 ks m.files) = crashFiles ks m := by
            funext k
            simp [backL, hl2, crashFiles, crash1]
          have e2 : goneL left2 m.gone = fun _ => none := by
            funext k
            simp [goneL, hl2]
          have h5 := HD2.out
          simp only [e1, e2] at h5
          have hset := h5.settle (S' := S)
          have Hc0 := Lib.hid Hc2.out
          clear h5 e1 e2 hl2
          go_wp2_with fail
          refine hset.mono ?_
          rintro e w6 ⟨rfl, h6, st6⟩
          have f4 := h6.c4
          have f5 := h6.c5
          have g4 := h6.f 4
          have g5 := h6.f 5
          have H6 := Lib.hid h6
          have ST6 := Lib.hid st6
          clear h6 st6
          go_wp2_with fail
          go_end0
          refine ⟨rfl, own2, D2, ?_, (HS2.out.trans ST6.out).trans (Step.of_fr (((Fr.refl _ _).setCell _ _ (fun _ => by simp [H6.out.odb])).setCell _ _ (fun _ => by simp [H6.out.odb])))⟩
          have h7 := H6.out.setBlk (w' := (w6.setCell ⟨db, 4, none⟩ (.int .i64 (-1))).setCell ⟨db, 5, none⟩ (.bool false)) (acts := m.acts) (fuse := -1) (down := false) (by simp [World.setCell]) (fun b _ hne => (Below.heap_setCell _ _ _ _ hne).trans (Below.heap_setCell _ _ _ _ hne)) (setCell_blk (setCell_blk H6.out.blk _) _) H6.out.racts (by omega)
          exact { h7 with cnt := by have := Hc0.out; simp [Maps.size] at this ⊢; omega }
        · intro x sa sl sc w4 cnt3 hx hlx hslR hat hrg4 hlt4 hg4 hs4 hen4
          have hhas := Hl2.out _ hlx
          obtain ⟨d, hgd⟩ := Option.isSome_iff_exists.1 (H0.out.rback hS _ hhas)
          have HD4 : Hid (Dev False w4 own2 db fb rb D2 E nn { m with files := backL left2 m.gone (crash1 ks m.files), gone := goneL left2 m.gone }) := HD2.out.kept hg4.size (fun b hb => hg4.block b (HD2.out.lt hb) (fun e => by injection e with e; subst e; exact hb Hr2.out))
          have HS4 : Hid (Step own own2 w w4) := ⟨⟨hg4.os.trans HS2.out.fr.os, hg4.tape.trans HS2.out.fr.tape, hg4.output.trans HS2.out.fr.output, by rw [hs4]; exact HS2.out.fr.size, fun i hi hn => (hg4.block i (Nat.lt_of_lt_of_le hi HS2.out.fr.size) (fun e => by injection e with e; have := Hrz.out; omega)).trans (HS2.out.fr.block i hi hn)⟩, HS2.out.own⟩
          have d4 := HD4.out.c1
          have d4' : (w4.alloc (.cells #[.slice sa sl sc, .int .i64 0, .bool false] 78)).cell? ⟨db, 1, none⟩ = some (.map (some fb)) := by rw [World.cell?_alloc_lt _ _ _ (World.block_lt_of_cell? _ _ d4)]; exact d4
          obtain ⟨cc, hcc, hcs⟩ := HD4.out.fmap_sz
          have hccn : cc < maxLen := by have := Hc2.out; unfold maxLen; omega
          have hcc2 := hcc.alloc (.cells #[.slice sa sl sc, .int .i64 0, .bool false] 78)
          have hkey := WideMaps.keyOf_string_mk Tryz.underlying9 hx
          have Hcc2 := Lib.hid hcc2
          have Hcs := Lib.hid hcs
          have Hgd := Lib.hid hgd
          have Hat := Lib.hid hat
          have Hsl := Lib.hid hslR
          have Hb4 := Lib.hid (step_back hgd hlx (files := crash1 ks m.files))
          have Hfb : Hid (fb < w4.heap.size) := hcc.lt
          have Hg4 := Lib.hid hg4
          have Hs4 := Lib.hid hs4
          clear hcc hcc2 hcs hgd hat hslR hhas d1 hg4 hs4
          go_wp2_with (first
            | (at_mapUpdate; refine wpList_mapUpdate_own _ rfl _ _ _ 72 rfl 9 71 lawS Tryz.underlying72 ptrR fb cc D2 rfl Hcc2.out hccn (.string x) (.pointer (some ⟨w4.heap.size, 0, none⟩)) _ rfl rfl hkey (.lit (.int .u64 (w4.heap.size : Nat))) [] rfl ?_; intro w5 hown5 hg5; go_frame)
            | fail)
          have hp4 : w5.heap[w4.heap.size]? = some (.cells #[.slice sa sl sc, .int .i64 0, .bool false] 78 (0, 0)) := by
            rw [hg5.block _ (by simp) (by have := Hfb.out; simp; omega)]
            exact heap_alloc_new w4 _
          have hW5 : ∀ b, b < w4.heap.size → b ≠ fb → w5.heap[b]? = w4.heap[b]? := fun b hb hne => by
            rw [hg5.block b (by simp; omega) (by simpa using hne)]
            exact Below.heap_alloc w4 _ _ hb
          have hz5 : w4.heap.size < w5.heap.size := by have := hg5.size; simp at this; omega
          obtain ⟨own5, h5, hown5', hsz5⟩ := HD4.out.restore (n' := nn + 1) Hb4.out.1 rfl Hat.out Hsl.out hW5 hz5 hp4 hown5 (Nat.lt_succ_self _)
          have st5 : Step own2 own5 w4 w5 := ⟨⟨hg5.os, hg5.tape, hg5.output, by omega, fun i hi hn' => hW5 i hi (fun e => hn' (by subst e; simp [HD4.out.ofb]))⟩, hown5'⟩
          have H5 : Hid (Dev False w5 own5 db fb rb (D2.put (.string x.data.toList) (.lit (.int .u64 (w4.heap.size : Nat)))) E (nn + 1) { m with files := backL (fun z => left2 z && !z.sameKey (.string x.data.toList)) m.gone (crash1 ks m.files), gone := goneL (fun z => left2 z && !z.sameKey (.string x.data.toList)) m.gone }) := by
            have e1 := Hb4.out.2
            have e2 := goneL_step (left := left2) (gone := m.gone) (k := x.data.toList)
            simp only [e1, e2] at h5
            exact h5
          have HS5 := Lib.hid (HS4.out.trans st5)
          have hrb4 := HD4.out.orb
          have hrg5 : w5.ranges Tryz.prog 9 slR rb _ c2 E _ cnt3 := (hrg4.alloc (.cells #[.slice sa sl sc, .int .i64 0, .bool false] 78)).kept hg5 (fun e => by injection e with e; rw [e, HD4.out.ofb] at hrb4; simp at hrb4) (fun e => by injection e with e; have h9 := HD4.out.ofb; rw [← e, Hr2.out] at h9; cases h9)
          have Hc5 : Hid (Maps.size (D2.put (.string x.data.toList) (.lit (.int .u64 (w4.heap.size : Nat)))) + cnt3 ≤ n) := by have := Hc2.out; show _ ≤ _; omega
          have Hr5 := Lib.hid (hown5' _ (by have := Hlt2.out; have := Hs4.out; omega) Hr2.out)
          have Hl5 : Hid (∀ k, (left2 (.string k) && !(Lit.string k).sameKey (.string x.data.toList)) = true → Maps.has E (.string k) = true) := fun k hk => by
            simp only [Bool.and_eq_true] at hk
            exact Hl2.out k hk.1
          clear h5 hp4 hW5 hown5' st5 hrb4
          go_roundw
          case rel => exact ⟨_, cnt3, own5, _, nn + 1, hrg5, H5, HS5, Hl5, Hc5, Hr5, by have := Hlt2.out; have := Hs4.out; show _ < _; omega⟩
          case measure => rw [hrg5.left_eq, hrg2.left_eq]; exact hlt4
    · intro x p w2 cnt1 hx hlx hat hrg1 hlt hg1 hs1 hen
      have hrfree : own w1.heap.size = none := H1.out.old _ (Nat.le_refl _)
      have HD1 : Hid (Dev S w2 own db fb rb D1 E n { m with files := crashL ks left m.files }) := HD.out.kept hg1.size (fun b hb => hg1.block b (HD.out.lt hb) (fun e => by injection e with e; subst e; exact hb hrfree))
      have HS1 : Hid (Step own own w w2) := ⟨⟨hg1.os.trans HS.out.fr.os, hg1.tape.trans HS.out.fr.tape, hg1.output.trans HS.out.fr.output, by rw [hs1]; exact HS.out.fr.size, fun i hi hn => (hg1.block i (Nat.lt_of_lt_of_le hi HS.out.fr.size) (fun e => by injection e with e; have := ST1.out.fr.size; omega)).trans (HS.out.fr.block i hi hn)⟩, fun _ _ h => h⟩
      have HF2 : Hid (FirstAt w2 w.heap.size bx ks) := HF.out.turn hrg hg1
      have hhas := Hl.out _ hlx
      have hsome := HD.out.dom x.data.toList
      rw [hhas] at hsome
      obtain ⟨f, hfl⟩ := Option.isSome_iff_exists.1 hsome.symm
      have hfl2 : crashL ks left m.files x.data.toList = some f := hfl
      have hf : m.files x.data.toList = some f := by simpa [crashL, hlx] using hfl2
      obtain ⟨p', dv, h1, hfa, hp, hg⟩ := HD1.out.fil _ _ hfl
      obtain rfl : p' = p := by
        have := (h1 .nil).symm.trans (hat .nil)
        simp at this
        omega
      obtain ⟨a, l, c', rfl⟩ : ∃ a l c, dv = .slice a l c := by
        rcases hfa.2.1.2 with ⟨rfl, _⟩ | ⟨g, cap, cur, rfl, _⟩ <;> exact ⟨_, _, _, rfl⟩
      obtain ⟨hll, hlc, _⟩ := take_row (k := f.synced) hfa.2.1 hfa.2.2.1
      subst hll
      have p0 : w2.cell? ⟨p', 0, none⟩ = some (.slice a f.data.length c') := cell_of_blk hfa.1 rfl
      have p1 : w2.cell? ⟨p', 1, none⟩ = some (.int .i64 f.synced) := cell_of_blk hfa.1 rfl
      have p2 : w2.cell? ⟨p', 2, none⟩ = some (.bool f.fresh) := cell_of_blk hfa.1 rfl
      have q0 : w2.frozen? ⟨p', 0, none⟩ = false := frozen_of_blk hfa.1
      have hsl := hfa.2.2.1
      have hl18 := hfa.2.2.2
      have hcut := cutK_le ks x.data.toList f hsl
      obtain ⟨h5, st5⟩ := HD1.out.cut h1 hfa hp hg hcut.1 hcut.2
      have H5 := Lib.hid h5
      have ST5 := Lib.hid st5
      have d1 := HD1.out.c1
      have hkey := WideMaps.keyOf_string_mk Tryz.underlying9 hx
      have hrp : w1.heap.size ≠ p' := fun e => by rw [← e, hrfree] at hp; cases hp
      have hfp : fb ≠ p' := fun e => by have h9 := H1.out.ofb; rw [e, hp] at h9; simp at h9
      have hmany := many_calls HF2.out hx
      have HC : Hid (cutK ks x.data.toList f = f.synced + (min (max (manyK ks x.data.toList) 0) ((f.data.length : Int) - (f.synced : Int))).toNat) := rfl
      have HCF : Hid (crashF ks x.data.toList f = if f.fresh = true ∧ manyK ks x.data.toList < 0 then none else some ⟨f.data.take (cutK ks x.data.toList f), f.synced, f.fresh⟩) := rfl
      obtain ⟨M, hM⟩ : ∃ M, manyK ks x.data.toList = M := ⟨_, rfl⟩
      rw [hM] at hmany HC HCF
      have HM := Lib.hid hM
      have Hst := Lib.hid (crashL_step (ks := ks) (left := left) hf hlx)
      have Hfl := Lib.hid hfl2
      clear h5 st5 hfa hp hg hcut hM hfl hfl2 hsome hf hat h1
      obtain ⟨l, hl⟩ : ∃ l, f.data.length = l := ⟨_, rfl⟩
      obtain ⟨sy, hsy⟩ : ∃ sy, f.synced = sy := ⟨_, rfl⟩
      obtain ⟨fr, hfr⟩ : ∃ fr, f.fresh = fr := ⟨_, rfl⟩
      rw [hl, hsy] at HC
      rw [hl] at p0 hlc hl18 hsl
      rw [hsy] at p1 hsl
      rw [hfr] at p2 HCF
      have Hl2 := Lib.hid hl
      have Hsy := Lib.hid hsy
      have Hfr := Lib.hid hfr
      clear hl hsy hfr
      by_cases hdrop : fr = true ∧ M < 0
      · obtain ⟨rfl, hM0⟩ := hdrop
        have Hnone : Hid (crashF ks x.data.toList f = none) := HCF.out.trans (if_pos ⟨rfl, hM0⟩)
        go_wp2_with fail
        refine hmany.mono ?_
        rintro e w3 ⟨rfl, rfl⟩
        go_wp2_with (first
          | (at_delete; refine wpList_delete_ranges _ rfl _ _ 72 9 rfl 71 lawS Tryz.underlying72 _ fb w1.heap.size c _ _ _ rfl hrg1 _ _ rfl hkey ?_; intro w3 cnt2 hrg2 hle hturn; go_frame)
          | fail)
        rw [strike_twice] at hrg2
        have h6 := (HD1.out.del (k := x.data.toList) (by show (crashL ks left m.files x.data.toList).isSome = true; rw [Hfl.out]; rfl) hrg2.owns hturn).1
        have st6 : Step own own w2 w3 := Step.of_fr ((Fr.refl _ _).grown hturn.grown (fun k hk _ => by injection hk with hk; subst hk; simp [H1.out.ofb]))
        have H6 : Hid (Dev S w3 own db fb rb (D1.del (.string x.data.toList)) E n { m with files := crashL ks (fun z => left z && !z.sameKey (.string x.data.toList)) m.files }) := by
          have e1 := Hst.out
          rw [Hnone.out] at e1
          simp only [e1] at h6
          exact h6
        have Hl6 : Hid (∀ k, (left (.string k) && !(Lit.string k).sameKey (.string x.data.toList)) = true → Maps.has (D1.del (.string x.data.toList)) (.string k) = true) := fun k hk => by
          simp only [Bool.and_eq_true, Bool.not_eq_true'] at hk
          rw [Maps.has_del_other (fun e => by rw [e] at hk; simp [Lit.sameKey] at hk)]
          exact Hl.out k hk.1
        have HF6 := Lib.hid (HF2.out.step st6 Hold.out)
        have HS6 := Lib.hid (HS1.out.trans st6)
        clear h6 st6
        go_roundw
        case rel => exact ⟨_, cnt2, _, hrg2, H6, HS6, Hl6, HF6⟩
        case measure => rw [hrg2.left_eq, hrg.left_eq]; omega
      · have hnot : fr = false ∨ (fr = true ∧ 0 ≤ M) := by
          cases fr
          · exact Or.inl rfl
          · exact Or.inr ⟨rfl, by
              have : ¬ M < 0 := fun h => hdrop ⟨rfl, h⟩
              omega⟩
        have Hsome : Hid (crashF ks x.data.toList f = some ⟨f.data.take (cutK ks x.data.toList f), f.synced, f.fresh⟩) := (HCF.out.trans (if_neg hdrop)).trans (by rw [Hfr.out])
        have hT0 : (0 : Int) ≤ min (max M 0) ((l : Int) - (sy : Int)) := by omega
        have hT1 : (sy : Int) + min (max M 0) ((l : Int) - (sy : Int)) ≤ (l : Int) := by omega
        have hw1 : IntKind.i64.wrap ((l : Int) - (sy : Int)) = (l : Int) - (sy : Int) := IntWalk.i64_in _ (by omega)
        have hw2 : IntKind.i64.wrap ((sy : Int) + min (max M 0) ((l : Int) - (sy : Int))) = (sy : Int) + min (max M 0) ((l : Int) - (sy : Int)) := IntWalk.i64_in _ (by omega)
        clear hdrop
        have hN : cutK ks x.data.toList f = ((sy : Int) + min (max M 0) ((l : Int) - (sy : Int))).toNat := by rw [HC.out]; omega
        have Hrg6 : Hid ((w2.setCell ⟨p', 0, none⟩ (.slice a ((sy : Int) + min (max M 0) ((l : Int) - (sy : Int))).toNat c')).ranges Tryz.prog 9 ptrR fb w1.heap.size c D1 (fun z => left z && !z.sameKey (.string x.data.toList)) cnt1) :=
          hrg1.kept (grownBy_setCell w2 p' 0 _) (by simpa using hfp) (by simpa using hrp)
        have H6 : Hid (Dev S (w2.setCell ⟨p', 0, none⟩ (.slice a ((sy : Int) + min (max M 0) ((l : Int) - (sy : Int))).toNat c')) own db fb rb D1 E n { m with files := crashL ks (fun z => left z && !z.sameKey (.string x.data.toList)) m.files }) := by
          have e1 := Hst.out
          rw [Hsome.out] at e1
          have h6 := H5.out
          simp only [e1] at h6
          rw [hN] at h6
          exact h6
        have st6 := ST5.out
        rw [hN] at st6
        have HF6 := Lib.hid (HF2.out.step st6 Hold.out)
        have HS6 := Lib.hid (HS1.out.trans st6)
        have Hl6 : Hid (∀ k, (left (.string k) && !(Lit.string k).sameKey (.string x.data.toList)) = true → Maps.has D1 (.string k) = true) := fun k hk => by
          simp only [Bool.and_eq_true] at hk
          exact Hl.out k hk.1
        clear hN st6
        rcases hnot with rfl | ⟨rfl, hM0⟩
        all_goals
          go_wp2_with fail
          refine hmany.mono ?_
          rintro e w3 ⟨rfl, rfl⟩
          go_wp2_with fail
          go_region
          clear hw1 hw2
          go_roundw
          case rel =>
            have h7 := H6.out.drew
            have h8 := HS6.out.trans (drew_step own _)
            have h9 := HF6.out.step (drew_step own _) Hold.out
            repeat apply Exists.intro
            exact ⟨⟨_, cnt1, D1, Hrg6.out.kept (drew_grown _) (by simp) (by simp), h7, h8, Hl6, h9⟩, rfl⟩
          case measure =>
            have e6 := (Hrg6.out.kept (drew_grown _) (by simp) (by simp)).left_eq
            rw [e6, hrg.left_eq]
            exact hlt

end
end Go.Proofs.YtdpbnacabinlgaaGreatDoor
namespace Go.Proofs.YtdpbnacabinlgaaGreatDoor
open Go.RowKit Go.Lib Go.Maps Go.ChangeMaps
open Go.WideElems (rd_key rg_of)

def keyS : Lit → List UInt8
  | .string k => k
  | _ => []

set_option maxRecDepth 100000 in
theorem ownsMap_strs {w : World} {R : Value → Option (DataW Unit × List MemPlace)} {b n : Nat} {es : List (Lit × DataW Unit)} (h : w.ownsMap Tryz.prog 9 R b n (.map es)) : ∀ p ∈ es, p.1 = .string (keyS p.1) := by
  obtain ⟨es', clock, _, F, _, hD⟩ := h
  injection hD with hD
  subst hD
  intro p hp
  obtain ⟨x, hx, rfl⟩ := List.mem_map.1 (mem_sorted.1 hp)
  obtain ⟨y, hy⟩ := F.reads x hx
  have h5 : keyOf Tryz.prog 9 x.key = some y.1 := rd_key hy
  obtain ⟨s, _, h2, _⟩ := keyOf_str_inv h5
  rw [rg_of hy, h2]
  rfl

section
variable {S : Prop} {w w' : World} {own own' : Owner} {db fb rb : Nat} {D D' E E' : DataW Unit} {n n' : Nat} {m : DevM}

/-- The names of a device's files, told as a list, give how many they are, and how many bytes. -/
theorem Dev.size_of (h : Dev S w own db fb rb D E n m) (names : List (List UInt8)) (hnd : names.Nodup) (hm : ∀ k, (m.files k).isSome = true ↔ k ∈ names) :
    Maps.size D = names.length ∧ usedD D m.files = (names.map fun k => flen m.files (.string k)).sum := by
  obtain ⟨c, hc⟩ := h.fmap
  obtain ⟨es, rfl, hap, _⟩ := hc.entries lawS
  have hst := ownsMap_strs hc
  have hdom := h.dom
  have hk : es.map (·.1) = (es.map fun p => keyS p.1).map Lit.string := by
    rw [List.map_map]
    exact List.map_congr_left (fun p hp => hst p hp)
  have hnd2 : (es.map fun p => keyS p.1).Nodup := by
    rw [List.nodup_iff_pairwise_ne, List.pairwise_map]
    refine hap.imp_of_mem (fun {p q} hp hq hne e => hne ?_)
    rw [hst p hp, hst q hq, e]
  have hmem : ∀ k, k ∈ (es.map fun p => keyS p.1) ↔ k ∈ names := fun k => by
    rw [← hm k, ← hdom k]
    constructor
    · intro hk1
      obtain ⟨p, hp, rfl⟩ := List.mem_map.1 hk1
      refine List.any_eq_true.2 ⟨p, hp, ?_⟩
      rw [← hst p hp]
      rw [hst p hp]
      exact WideAt.sameKey_self trivial
    · intro hk1
      obtain ⟨p, hp, hpk⟩ := List.any_eq_true.1 hk1
      exact List.mem_map.2 ⟨p, hp, by rw [WideAt.sameKey_eq hpk]; rfl⟩
  have hperm : (es.map fun p => keyS p.1).Perm names := (List.perm_ext_iff_of_nodup hnd2 hnd).2 hmem
  refine ⟨?_, ?_⟩
  · have := hperm.length_eq
    simpa [Maps.size] using this
  · have e1 : usedD (.map es) m.files = ((es.map fun p => keyS p.1).map fun k => flen m.files (.string k)).sum := by
      rw [List.map_map]
      simp only [usedD, sumL, entsOf]
      congr 1
      exact List.map_congr_left (fun p hp => by rw [hst p hp]; rfl)
    rw [e1]
    exact (hperm.map _).sum_nat

theorem Dev.alloc (h : Dev S w own db fb rb D E n m) (o : Obj) : Dev S (w.alloc o) own db fb rb D E n m := h.fr (T := fun _ => False) (Fr.of_below ((Below.refl _ _).alloc (Nat.le_refl _) _)) (fun _ _ h => h)
theorem alloc_step (own : Owner) (w : World) (o : Obj) : Step own own w (w.alloc o) := Step.of_fr (Fr.of_below ((Below.refl _ _).alloc (Nat.le_refl _) _))
theorem Dev.below (h : Dev S w own db fb rb D E n m) (hb : Below w.heap.size w w') : Dev S w' own db fb rb D E n m := h.fr (T := fun _ => False) (Fr.of_below hb) (fun _ _ h => h)
theorem below_step (own : Owner) (hb : Below w.heap.size w w') : Step own own w w' := Step.of_fr (Fr.of_below hb)

/-- Bytes in a new block. -/
theorem BArg.new {cs : Array Value} {t : TypeId} {fz : Nat × Nat} {bs : List UInt8} (c : Nat) (ho : own w.heap.size = none) (hc : ∀ (j : Nat) (x : UInt8), bs[j]? = some x → cs[j]? = some (Value.int .u8 x.toNat)) : BArg (w.alloc (.cells cs t fz)) own (.slice (some ⟨w.heap.size, 0, none⟩) bs.length c) bs := by
  refine Or.inr ⟨_, c, rfl, fun _ => ho, fun j x hx => ?_⟩
  have hadd : (⟨w.heap.size, 0, none⟩ : Addr).add j = ⟨w.heap.size, j, none⟩ := by unfold Addr.add; split <;> simp_all
  rw [hadd]
  exact cell_of_blk (heap_alloc_new w _) (hc j x hx)

/-- Names and numbers in a new block. -/
theorem KArg.new {cs : Array Value} {t : TypeId} {ks : List (ByteArray × Int)} (c : Nat) (ho : own w.heap.size = none) (hc : ∀ (j : Nat) (s : ByteArray) (m : Int), ks[j]? = some (s, m) → cs[j * 2]? = some (Value.string s) ∧ cs[j * 2 + 1]? = some (Value.int .i64 m) ∧ s.size ≤ maxLen ∧ (Lit.int .i64 m).wf = true) :
    KArg (w.alloc (.cells cs t)) own (.slice (some ⟨w.heap.size, 0, none⟩) ks.length c) ks := by
  refine Or.inr ⟨_, c, rfl, fun _ => ho, fun j s m hj => ?_⟩
  have hadd : ∀ i, (⟨w.heap.size, 0, none⟩ : Addr).add i = ⟨w.heap.size, i, none⟩ := fun i => by unfold Addr.add; split <;> simp_all
  obtain ⟨h1, h2, h3⟩ := hc j s m hj
  rw [hadd, hadd]
  exact ⟨cell_of_blk (heap_alloc_new w _) h1, cell_of_blk (heap_alloc_new w _) h2, h3⟩

def newM (room : Int) : DevM := { room := room, acts := 0, fuse := -1, down := false, files := fun _ => none, gone := fun _ => none }

/-- 'New'. -/
theorem Dev.new (S : Prop) (w : World) (room : Int) (hr : -9223372036854775808 ≤ room ∧ room ≤ 9223372036854775807) :
    Calls Tryz.prog 34 #[.int .i64 room] w fun e w' => e = .returned (.pointer (some ⟨w.heap.size + 2, 0, none⟩)) ∧ ∃ own, Dev S w' own (w.heap.size + 2) w.heap.size (w.heap.size + 1) (.map []) (.map []) 0 (newM room) ∧ Step (fun _ => none) own w w' := by
  refine (new_calls room w).mono ?_
  rintro e w' ⟨rfl, rfl⟩
  refine ⟨rfl, fun b => if b = w.heap.size + 2 then some (0, []) else if b = w.heap.size then some (1, []) else if b = w.heap.size + 1 then some (2, []) else none, ?_, ?_⟩
  · have h0 := World.ownsMap_made w Tryz.prog 9 ptrR
    have h1 := World.ownsMap_made (w.alloc (.map #[] 0)) Tryz.prog 9 slR
    have e1 : (w.alloc (.map #[] 0)).heap.size = w.heap.size + 1 := by simp
    rw [e1] at h1
    exact {
      blk := by
        have h := heap_alloc_new ((w.alloc (.map #[] 0)).alloc (.map #[] 0)) (.cells #[.int .i64 room, .map (some w.heap.size), .map (some (w.heap.size + 1)), .int .i64 0, .int .i64 (-1), .bool false] 75)
        have e2 : ((w.alloc (.map #[] 0)).alloc (.map #[] 0)).heap.size = w.heap.size + 2 := by simp
        rw [e2] at h
        exact h
      fmap := ⟨0, (h0.alloc _).alloc _⟩
      rmap := ⟨0, h1.alloc _⟩
      cnt := by simp [Maps.size]
      dom := fun k => rfl
      rdom := fun k hk => by cases hk
      rback := fun _ k hk => by cases hk
      fil := fun k f hf => by cases hf
      rem := fun k d hd => by cases hd
      odb := by simp
      ofb := by simp
      orb := by simp
      old := fun b hb => by
        simp at hb
        show (if b = w.heap.size + 2 then _ else if b = w.heap.size then _ else if b = w.heap.size + 1 then _ else _) = _
        rw [if_neg (by omega), if_neg (by omega), if_neg (by omega)]
      rroom := hr
      rfuse := by simp [newM]
      racts := by simp [newM] }
  · refine ⟨Fr.of_below ((((Below.refl _ _).alloc (Nat.le_refl _) _).alloc (by simp) _).alloc (by simp; omega) _), fun b hb _ => ?_⟩
    show (if b = w.heap.size + 2 then _ else if b = w.heap.size then _ else if b = w.heap.size + 1 then _ else _) = _
    rw [if_neg (by omega), if_neg (by omega), if_neg (by omega)]

end

set_option maxRecDepth 100000 in
/-- 'string(b)' of bytes that are owned. -/
theorem conv_row {w : World} {base : Nat} {v : Value} {d : List UInt8} (h : w.ownsRow base 5 1 v d.length (byteCells d)) : (convert 49 9 v).run Tryz.prog w = .ok (.string ⟨d.toArray⟩) w := by
  have hcells := fun g hg => h.cells (g := g) hg
  rcases h.2 with ⟨rfl, h0⟩ | ⟨g, cap, cur, rfl, _⟩
  · obtain rfl : d = [] := List.eq_nil_of_length_eq_zero h0
    exact run_convert_bytes_nil w 49 5 Tryz.underlying49 Tryz.underlying5 0 0 9 Tryz.underlying9
  · have hr := run_convert_bytes_arg w 49 5 Tryz.underlying49 Tryz.underlying5 g 0 d.length cap (d.map fun b => (b.toNat : Int)) (by simp) (fun i hi => by
      have h1 := hcells g rfl i (.int .u8 (d[i]).toNat) (by simp [byteCells, hi])
      have hadd : (⟨g, 0, none⟩ : Addr).add i = ⟨g, i, none⟩ := by unfold Addr.add; split <;> simp_all
      rw [hadd] at h1
      rw [Nat.zero_add, h1]
      simp [List.getD, hi]) 9 Tryz.underlying9
    rw [hr]
    congr 2
    apply ByteArray.ext
    simp only [strOfNums]
    congr 1
    rw [List.map_map]
    exact (List.map_congr_left (fun b _ => by simp)).trans (List.map_id _)

/-- '[]byte(s)'. -/
theorem conv_str (w : World) (s : ByteArray) : (convert 9 49 (.string s)).run Tryz.prog w = .ok (.slice (some ⟨w.heap.size, 0, none⟩) s.size (grownCap w s.size 0 5)) (bytesWorld w 5 s) :=
  Lib.run_convert_string_bytes w 9 49 5 s Tryz.underlying9 Tryz.underlying49 Tryz.underlying5

theorem bytesWorld_below' (w : World) (s : ByteArray) : Below w.heap.size w (bytesWorld w 5 s) :=
  ⟨rfl, rfl, rfl, by rw [bytesWorld_size]; omega, fun k hk => bytesWorld_at_old w _ s k hk⟩

theorem BArg.conv {own : Owner} (w : World) (s : ByteArray) (c : Nat) (ho : own w.heap.size = none) : BArg (bytesWorld w 5 s) own (.slice (some ⟨w.heap.size, 0, none⟩) s.size c) s.data.toList := by
  refine Or.inr ⟨⟨w.heap.size, 0, none⟩, c, by simp, fun _ => ho, fun j x hx => ?_⟩
  have hadd : (⟨w.heap.size, 0, none⟩ : Addr).add j = ⟨w.heap.size, j, none⟩ := by unfold Addr.add; split <;> simp_all
  obtain ⟨hj, rfl⟩ := List.getElem?_eq_some_iff.1 hx
  have hj' : j < s.data.size := by simpa using hj
  rw [hadd, bytesWorld_cell w 5 s j hj']
  have e1 : s.data.toList.getD j 0 = s.data.toList[j] := by rw [List.getD_eq_getElem?_getD, List.getElem?_eq_getElem hj]; rfl
  rw [e1]

end Go.Proofs.YtdpbnacabinlgaaGreatDoor
namespace Go.Proofs.YtdpbnacabinlgaaGreatDoor
open Go.RowKit Go.Lib Go.Maps Go.ChangeMaps

def emptyM (room acts : Int) : DevM := { room := room, acts := acts, fuse := -1, down := false, files := fun _ => none, gone := fun _ => none }
def oneM (room acts : Int) (k : List UInt8) (f : FileM) : DevM := { room := room, acts := acts, fuse := -1, down := false, files := setF (fun _ => none) k (some f), gone := fun _ => none }

theorem newM_eq (room : Int) : newM room = emptyM room 0 := rfl

theorem append_empty {room acts : Int} {k bs : List UInt8} (hn : nameOk k = true) (hl : bs.length ≤ 262144) (hr : (bs.length : Int) ≤ room) : appendM (emptyM room acts) 0 0 k bs = (oneM room (acts + 1) k ⟨bs, 0, true⟩, 0) := by
  have h1 : ¬ room < (bs.length : Int) := by omega
  simp [appendM, emptyM, oneM, hn, holdsI, hl, h1, fuseLess]

theorem append_bad {room acts : Int} {k bs : List UInt8} {sz used : Nat} (hn : nameOk k = false) : appendM (emptyM room acts) sz used k bs = (emptyM room acts, 1) := by
  simp [appendM, emptyM, hn]

theorem append_one {room acts : Int} {k bs : List UInt8} {f : FileM} (hn : nameOk k = true) (hl : f.data.length + bs.length ≤ 262144) (hr : (f.data.length : Int) + (bs.length : Int) ≤ room) :
    appendM (oneM room acts k f) 1 f.data.length k bs = (oneM room (acts + 1) k ⟨f.data ++ bs, f.synced, f.fresh⟩, 0) := by
  have h1 : ¬ room < (f.data.length : Int) + (bs.length : Int) := by omega
  have h2 : bs.length + f.data.length ≤ 262144 := by omega
  simp [appendM, oneM, hn, holdsI, setF_same, h2, h1, fuseLess, setF_twice]

theorem append_one_full {room acts : Int} {k k' bs : List UInt8} {f : FileM} (hn : nameOk k' = true) (hne : k' ≠ k) (hl : bs.length ≤ 262144) (hr : room < (f.data.length : Int) + (bs.length : Int)) :
    appendM (oneM room acts k f) 1 f.data.length k' bs = (oneM room acts k f, 11) := by
  simp [appendM, oneM, hn, holdsI, setF_other _ _ hne, hl, hr]

theorem sync_one {room acts : Int} {k : List UInt8} {f : FileM} : syncM (oneM room acts k f) = (oneM room (acts + 1) k (settleF f), 0) := by
  have e1 : (fun k' => (setF (fun _ => none) k (some f) k').map settleF) = setF (fun _ => none) k (some (settleF f)) := by
    funext k'
    by_cases e : k' = k
    · subst e; simp [setF_same]
    · simp [setF_other _ _ e]
  simp [syncM, oneM, settleM, fuseLess, e1]

theorem sync_empty {room acts : Int} : syncM (emptyM room acts) = (emptyM room (acts + 1), 0) := by
  simp [syncM, emptyM, settleM, fuseLess]

theorem remove_one_none {room acts : Int} {k k' : List UInt8} {f : FileM} (hn : nameOk k' = true) (hne : k' ≠ k) : removeM (oneM room acts k f) k' = (oneM room acts k f, 12) := by
  simp [removeM, oneM, hn, setF_other _ _ hne]

theorem crash_one {room acts : Int} {k : List UInt8} {f f' : FileM} {ks : List (ByteArray × Int)} (h : crashF ks k f = some f') : crashM ks (oneM room acts k f) = oneM room acts k (settleF f') := by
  have e1 : (fun k' => (crashFiles ks (oneM room acts k f) k').map settleF) = setF (fun _ => none) k (some (settleF f')) := by
    funext k'
    by_cases e : k' = k
    · subst e; simp [setF_same, crashFiles, oneM, h]
    · simp [setF_other _ _ e, crashFiles, oneM]
  simp [crashM, e1]
  simp [oneM]

theorem crash_empty {room acts : Int} {ks : List (ByteArray × Int)} : crashM ks (emptyM room acts) = emptyM room acts := by
  simp [crashM, emptyM, crashFiles]

theorem read_one {room acts : Int} {k : List UInt8} {f : FileM} (hn : nameOk k = true) : readM (oneM room acts k f) k = (f.data, 0) := by
  simp [readM, oneM, hn, setF_same]
theorem read_empty {room acts : Int} {k : List UInt8} (hn : nameOk k = true) : readM (emptyM room acts) k = ([], 12) := by simp [readM, emptyM, hn]
theorem read_bad {room acts : Int} {k : List UInt8} (hn : nameOk k = false) : readM (emptyM room acts) k = ([], 1) := by simp [readM, emptyM, hn]

section
variable {S : Prop} {w w' : World} {own own' : Owner} {db fb rb : Nat} {D D' E E' : DataW Unit} {n n' : Nat} {m : DevM}

theorem Dev.size_one {room acts : Int} {k : List UInt8} {f : FileM} (h : Dev S w own db fb rb D E n (oneM room acts k f)) : Maps.size D = 1 ∧ usedD D (oneM room acts k f).files = f.data.length ∧ f.data.length ≤ 262144 := by
  have h1 := h.size_of [k] (by simp) (fun k' => by
    by_cases e : k' = k
    · subst e; simp [oneM, setF_same]
    · simp [oneM, setF_other _ _ e, e])
  obtain ⟨p, dv, _, hfa, _⟩ := h.fil k f (by simp [oneM, setF_same])
  have h2 := hfa.2.2.2
  refine ⟨h1.1, h1.2.trans ?_, h2⟩
  simp [flen, oneM, setF_same]
  omega

theorem Dev.size_empty {room acts : Int} (h : Dev S w own db fb rb D E n (emptyM room acts)) : Maps.size D = 0 ∧ usedD D (emptyM room acts).files = 0 := by
  have h1 := h.size_of [] (by simp) (fun k' => by simp [emptyM])
  exact ⟨h1.1, h1.2⟩

end

theorem mk7 (w : World) : (Instr.makeSlice 49 (.int .i64 7) (.int .i64 7)).run Tryz.prog w = .ok (.slice (some ⟨w.heap.size, 0, none⟩) 7 7) (w.alloc (.cells #[.int .u8 0, .int .u8 0, .int .u8 0, .int .u8 0, .int .u8 0, .int .u8 0, .int .u8 0] 5)) := by kernel_rfl

end Go.Proofs.YtdpbnacabinlgaaGreatDoor
namespace Go.Proofs.YtdpbnacabinlgaaGreatDoor
open Go.RowKit Go.Lib

set_option maxHeartbeats 1000000 in
theorem rname_calls (s : ByteArray) (w : World) (hs : s.size ≤ maxLen) :
    Calls Tryz.prog 40 #[.string s] w fun e w' => e = .returned (.bool (nameOk s.data.toList)) ∧ w = w' := by
  unfold maxLen at hs
  have hsl : s.data.toList.length = s.size := by simp
  generalize hr : nameOk s.data.toList = r
  have Hr : Hid (nameOk s.data.toList = r) := hr
  have Hsl : Hid (s.data.toList.length = s.size) := hsl
  clear hr hsl
  go_enter Tryz.func40, Tryz.ntmps40
  go_wp2
  go_loop [3] (fun i => ∃ k : Nat, k ≤ s.size ∧ i = .int .i64 k ∧ Hid (∀ j, j < k → chOk (s.data.toList.getD j 0) = true)) (fun i => s.size - (intOf i).toNat)
  case atStart => exact ⟨0, Nat.zero_le _, rfl, fun j hj => absurd hj (Nat.not_lt_zero j)⟩
  case round =>
    obtain ⟨k, hk, rfl, hall⟩ := hrel
    by_cases hlt : k < s.size
    · have hg := getD_bytes s k hlt
      by_cases hc : chOk s[k] = true
      · have hall' : Hid (∀ j, j < k + 1 → chOk (s.data.toList.getD j 0) = true) := fun j hj => by
          rcases Nat.lt_succ_iff_lt_or_eq.1 hj with h | h
          · exact hall.out j h
          · subst h; rw [hg]; exact hc
        have hcc := (chOk_iff _).1 hc
        have hb : s[k].toNat < 256 := s[k].toNat_lt
        clear hc hg hall
        rcases hcc with ⟨ha, hb2⟩ | ⟨ha, hb2⟩ | ha
        · have ht : ((s[k].toNat : Int) != 45) = true := by rw [bne_iff_ne]; omega
          go_wp2
          all_goals
            go_round
            case rel => exact ⟨k + 1, by omega, by go_num, hall'⟩
            case measure => simp [intOf]; omega
        · have ht : ((s[k].toNat : Int) != 45) = true := by rw [bne_iff_ne]; omega
          go_wp2
          all_goals
            go_round
            case rel => exact ⟨k + 1, by omega, by go_num, hall'⟩
            case measure => simp [intOf]; omega
        · have ha' : 45 ≤ s[k].toNat ∧ s[k].toNat ≤ 45 := by omega
          obtain ⟨ha1, ha2⟩ := ha'
          have ht : ((s[k].toNat : Int) != 45) = false := by rw [bne_eq_false_iff_eq]; omega
          clear ha
          go_wp2
          all_goals
            go_round
            case rel => exact ⟨k + 1, by omega, by go_num, hall'⟩
            case measure => simp [intOf]; omega
      · have hbad : nameOk s.data.toList = false := nameOk_bad (k := k) (by rw [Hsl.out]; exact hlt) (by rw [hg]; simpa using hc)
        have hcc : ¬ (97 ≤ s[k].toNat ∧ s[k].toNat ≤ 122 ∨ 48 ≤ s[k].toNat ∧ s[k].toNat ≤ 57 ∨ s[k].toNat = 45) := fun h => hc ((chOk_iff _).2 h)
        have hb : s[k].toNat < 256 := s[k].toNat_lt
        have ht : ((s[k].toNat : Int) != 45) = true := by rw [bne_iff_ne]; omega
        obtain rfl : r = false := Hr.out.symm.trans hbad
        have h3 : (s[k].toNat < 48) ∨ (57 < s[k].toNat ∧ s[k].toNat < 97) ∨ 122 < s[k].toNat := by omega
        clear hc hg hall hcc hbad
        rcases h3 with h3 | ⟨h3, h4⟩ | h3
        all_goals
          go_wp2
          go_ret
          exact ⟨rfl, rfl⟩
    · by_cases h1 : s.size < 1
      · obtain rfl : r = false := Hr.out.symm.trans (nameOk_short (by rw [Hsl.out]; exact h1))
        go_wp2
        go_ret
        exact ⟨rfl, rfl⟩
      by_cases h2 : 20 < s.size
      · obtain rfl : r = false := Hr.out.symm.trans (nameOk_long (by rw [Hsl.out]; exact h2))
        have hd : decide ((s.size : Int) ≤ 20) = false := by simp; omega
        go_wp2
        go_ret
        exact ⟨rfl, rfl⟩
      obtain rfl : r = true := Hr.out.symm.trans (nameOk_all (by rw [Hsl.out]; omega) (by rw [Hsl.out]; omega) (fun j hj => hall.out j (by rw [Hsl.out] at hj; omega)))
      have hd : decide ((s.size : Int) ≤ 20) = true := by simp; omega
      go_wp2
      go_ret
      exact ⟨rfl, rfl⟩

end Go.Proofs.YtdpbnacabinlgaaGreatDoor
namespace Go.Proofs.YtdpbnacabinlgaaGreatDoor
open Go.RowKit Go.Lib Go.Maps Go.ChangeMaps

/-- A row of texts that was handed in. -/
def SRow (w : World) (a : Option Addr) (ps : List ByteArray) : Prop := ∀ j s, ps[j]? = some s → ∃ ad, a = some ad ∧ ad.block < w.heap.size ∧ w.cell? (ad.add j) = some (.string s) ∧ s.size ≤ maxLen

theorem SRow.below {w w' : World} {a : Option Addr} {ps : List ByteArray} (h : SRow w a ps) (hb : Below w.heap.size w w') : SRow w' a ps := fun j s hj => by
  obtain ⟨ad, h1, h2, h3, h4⟩ := h j s hj
  exact ⟨ad, h1, Nat.lt_of_lt_of_le h2 hb.size, (hb.cell (by rw [add_block]; exact h2)).trans h3, h4⟩

def catB (ps : List ByteArray) (k : Nat) : List UInt8 := ((ps.take k).map fun s => s.data.toList).flatten
def sizeN (n0 : Nat) (ps : List ByteArray) : Nat → Nat
  | 0 => n0
  | k + 1 => sizeN n0 ps k + 1 + min ((ps[k]?.map fun s => s.size).getD 0) 20000

theorem catB_zero (ps : List ByteArray) : catB ps 0 = [] := by simp [catB]
theorem catB_succ {ps : List ByteArray} {k : Nat} {s : ByteArray} (h : ps[k]? = some s) : catB ps (k + 1) = catB ps k ++ s.data.toList := by
  simp [catB, List.take_add_one, h]
theorem sizeN_succ {ps : List ByteArray} {k n0 : Nat} {s : ByteArray} (h : ps[k]? = some s) : sizeN n0 ps (k + 1) = sizeN n0 ps k + 1 + min s.size 20000 := by simp [sizeN, h]
theorem catB_step (ps : List ByteArray) (k : Nat) : (catB ps k).length ≤ (catB ps (k + 1)).length := by
  cases h : ps[k]? with
  | none => simp [catB, List.take_add_one, h]
  | some s => rw [catB_succ h, List.length_append]; omega
theorem catB_mono (ps : List ByteArray) (k : Nat) : ∀ d : Nat, (catB ps k).length ≤ (catB ps (k + d)).length
  | 0 => Nat.le_refl _
  | d + 1 => Nat.le_trans (catB_mono ps k d) (catB_step ps (k + d))
theorem catB_le {n0 : Nat} {ps : List ByteArray} : ∀ (k : Nat), k ≤ ps.length → sizeN n0 ps k < 20000 → (catB ps k).length + k ≤ sizeN n0 ps k
  | 0, _, _ => by simp [catB_zero]
  | k + 1, hk, h => by
    have hs : ps[k]? = some ps[k] := List.getElem?_eq_getElem (by omega)
    rw [sizeN_succ hs] at h ⊢
    have ih := catB_le (n0 := n0) (ps := ps) k (by omega) (by omega)
    rw [catB_succ hs, List.length_append]
    have : (ps[k]).data.toList.length = (ps[k]).size := by simp
    omega

/-- The device that the parts are put to, with a right name. -/
def gM (nm : List UInt8) (ps : List ByteArray) (k : Nat) : DevM := if k = 0 then emptyM 4194304 0 else oneM 4194304 k nm ⟨catB ps k, 0, true⟩

section
variable {w w' : World} {own own' : Owner} {db fb rb : Nat} {D D' E E' : DataW Unit} {n n' : Nat} {m : DevM}

theorem gM_append {nm : List UInt8} {ps : List ByteArray} {k : Nat} {s : ByteArray} (h : Dev True w own db fb rb D E n (gM nm ps k)) (hn : nameOk nm = true) (hs : ps[k]? = some s) (hl : (catB ps (k + 1)).length < 20000) :
    appendM (gM nm ps k) (Maps.size D) (usedD D (gM nm ps k).files) nm s.data.toList = (gM nm ps (k + 1), 0) := by
  rw [catB_succ hs, List.length_append] at hl
  by_cases hk : k = 0
  · subst hk
    have e0 : gM nm ps 0 = emptyM 4194304 0 := rfl
    rw [e0] at h ⊢
    rw [(h.size_empty).1, (h.size_empty).2, append_empty hn (by omega) (by omega)]
    simp [gM, catB_succ hs, catB_zero]
  · have e0 : gM nm ps k = oneM 4194304 k nm ⟨catB ps k, 0, true⟩ := if_neg hk
    rw [e0] at h ⊢
    have h3 := (h.size_one).2.1
    rw [(h.size_one).1, h3, append_one hn (by simp only; omega) (by simp only; omega)]
    have e1 : gM nm ps (k + 1) = oneM 4194304 ((k + 1 : Nat) : Int) nm ⟨catB ps (k + 1), 0, true⟩ := if_neg (by omega)
    rw [e1, catB_succ hs]
    rfl

end

theorem crashF_settled (ks : List (ByteArray × Int)) (k d : List UInt8) : crashF ks k ⟨d, d.length, false⟩ = some ⟨d, d.length, false⟩ := by
  have e1 : cutK ks k ⟨d, d.length, false⟩ = d.length := by simp only [cutK]; omega
  simp [crashF, e1]

theorem Step.below {own : Owner} {w w' : World} (h : Step (fun _ => none) own w w') : Below w.heap.size w w' := h.fr.to_below (Nat.le_refl _) (fun k _ => by simp)

/-- What the law's call leaves. -/
def Fine (w : World) (e : Ending) (w' : World) : Prop := e = .returned (.bool true) ∧ Below w.heap.size w w'

end Go.Proofs.YtdpbnacabinlgaaGreatDoor
namespace Go.Proofs.YtdpbnacabinlgaaGreatDoor
open Go.RowKit Go.Lib Go.Maps Go.ChangeMaps

/-- A call, as it was handed in. -/
structure OpV where
  what : Int
  name : ByteArray
  ba : Option Addr
  bc : Nat
  bs : List UInt8
  n : Int
  ka : Option Addr
  kc : Nat
  ks : List (ByteArray × Int)

/-- The field f of the struct at place j of a row of structs of s cells. -/
def fld (A : Addr) (s j f : Nat) : Addr := ⟨(A.add (j * s)).block, (A.add (j * s)).off + f, none⟩

structure OAt (w : World) (A : Addr) (j : Nat) (o : OpV) : Prop where
  c0 : w.cell? (A.add (j * 5)) = some (.int .i64 o.what)
  c1 : w.cell? (fld A 5 j 1) = some (.string o.name)
  c2 : w.cell? (fld A 5 j 2) = some (.slice o.ba o.bs.length o.bc)
  c3 : w.cell? (fld A 5 j 3) = some (.int .i64 o.n)
  c4 : w.cell? (fld A 5 j 4) = some (.slice o.ka o.ks.length o.kc)
  hname : o.name.size ≤ maxLen
  hwhat : (Lit.int .i64 o.what).wf = true
  hn : (Lit.int .i64 o.n).wf = true
  hbl : o.bs.length ≤ maxLen
  hkl : o.ks.length ≤ maxLen
  hb : BArg w (fun _ => none) (.slice o.ba o.bs.length o.bc) o.bs
  hk : KArg w (fun _ => none) (.slice o.ka o.ks.length o.kc) o.ks

def ORow (w : World) (a : Option Addr) (os : List OpV) : Prop := ∀ j o, os[j]? = some o → ∃ A, a = some A ∧ OAt w A j o

theorem OAt.below {w w' : World} {A : Addr} {j : Nat} {o : OpV} (h : OAt w A j o) (hb : Below w.heap.size w w') : OAt w' A j o where
  c0 := (hb.cell (World.block_lt_of_cell? _ _ h.c0)).trans h.c0
  c1 := (hb.cell (World.block_lt_of_cell? _ _ h.c1)).trans h.c1
  c2 := (hb.cell (World.block_lt_of_cell? _ _ h.c2)).trans h.c2
  c3 := (hb.cell (World.block_lt_of_cell? _ _ h.c3)).trans h.c3
  c4 := (hb.cell (World.block_lt_of_cell? _ _ h.c4)).trans h.c4
  hname := h.hname
  hwhat := h.hwhat
  hn := h.hn
  hbl := h.hbl
  hkl := h.hkl
  hb := h.hb.step (below_step _ hb)
  hk := h.hk.step (below_step _ hb)

theorem ORow.below {w w' : World} {a : Option Addr} {os : List OpV} (h : ORow w a os) (hb : Below w.heap.size w w') : ORow w' a os := fun j o hj => by
  obtain ⟨A, h1, h2⟩ := h j o hj
  exact ⟨A, h1, h2.below hb⟩

/-- What Great leaves. -/
def GreatPost (w : World) (l : Nat) (e : Ending) (w' : World) : Prop := ∃ g, e = .returned (.bool g) ∧ (g = false → l ≤ 300) ∧ Below w.heap.size w w'

end Go.Proofs.YtdpbnacabinlgaaGreatDoor
namespace Go.Proofs
open Go.Shelf
def Tryz.keys70_ren : Go.Shelf.Ren := ⟨fun | 7 => 70 | 10 => 95 | n => n, fun | 23 => 72 | 26 => 9 | 3 => 71 | 28 => 117 | 0 => 0 | 27 => 116 | 33 => 70 | 4 => 4 | n => n, fun | n => n⟩
theorem Tryz.keys70 : Go.Proofs.SlLaysZ.n7 Tryz.prog Tryz.keys70_ren := {
  mixed := by kernel_rfl
  f7 := ⟨Tryz.f70.name, by decide, Tryz.func70.trans (congrArg some (by kernel_rfl))⟩
  f10 := ⟨Tryz.f95.name, by decide, Tryz.func95.trans (congrArg some (by kernel_rfl))⟩
  t0 := Tryz.underlying0
  a0 := Tryz.isAgg0
  z0 := Tryz.sizeOf0
  v0 := Tryz.zeroValue0
  t4 := Tryz.underlying4
  a4 := Tryz.isAgg4
  z4 := Tryz.sizeOf4
  v4 := Tryz.zeroValue4
  t23 := Tryz.underlying72
  a23 := Tryz.isAgg72
  z23 := Tryz.sizeOf72
  v23 := Tryz.zeroValue72
  t26 := Tryz.underlying9
  a26 := Tryz.isAgg9
  z26 := Tryz.sizeOf9
  v26 := Tryz.zeroValue9
  t27 := Tryz.underlying116
  a27 := Tryz.isAgg116
  z27 := Tryz.sizeOf116
  v27 := Tryz.zeroValue116
  t28 := Tryz.underlying117
  a28 := Tryz.isAgg117
  z28 := Tryz.sizeOf117
  v28 := Tryz.zeroValue117
  t33 := Tryz.underlying70
  a33 := Tryz.isAgg70
  z33 := Tryz.sizeOf70
  v33 := Tryz.zeroValue70 }
def Tryz.sorted69_ren : Go.Shelf.Ren := ⟨fun | 6 => 69 | 8 => 93 | 9 => 94 | 11 => 106 | 13 => 100 | 12 => 107 | 23 => 119 | 24 => 120 | 14 => 123 | 15 => 124 | 16 => 125 | 17 => 126 | 18 => 127 | 19 => 128 | 20 => 129 | 21 => 130 | 22 => 131 | 25 => 145 | 26 => 136 | 27 => 137 | 28 => 146 | 29 => 147 | 30 => 148 | 31 => 160 | n => n, fun | 26 => 9 | 28 => 117 | 24 => 32 | 0 => 0 | 3 => 3 | 37 => 137 | 48 => 162 | 50 => 164 | 4 => 4 | 40 => 155 | 39 => 154 | 45 => 108 | 5 => 5 | 9 => 9 | 51 => 173 | 55 => 177 | 57 => 191 | 58 => 192 | 33 => 70 | n => n, fun | n => n⟩
theorem Tryz.sorted69 : Go.Proofs.SlLaysZ.n6 Tryz.prog Tryz.sorted69_ren := {
  mixed := by kernel_rfl
  f6 := ⟨Tryz.f69.name, by decide, Tryz.func69.trans (congrArg some (by kernel_rfl))⟩
  f8 := ⟨Tryz.f93.name, by decide, Tryz.func93.trans (congrArg some (by kernel_rfl))⟩
  f11 := ⟨Tryz.f106.name, by decide, Tryz.func106.trans (congrArg some (by kernel_rfl))⟩
  t0 := Tryz.underlying0
  a0 := Tryz.isAgg0
  z0 := Tryz.sizeOf0
  v0 := Tryz.zeroValue0
  t24 := Tryz.underlying32
  a24 := Tryz.isAgg32
  z24 := Tryz.sizeOf32
  v24 := Tryz.zeroValue32
  t26 := Tryz.underlying9
  a26 := Tryz.isAgg9
  z26 := Tryz.sizeOf9
  v26 := Tryz.zeroValue9
  t28 := Tryz.underlying117
  a28 := Tryz.isAgg117
  z28 := Tryz.sizeOf117
  v28 := Tryz.zeroValue117
  i26 := by kernel_rfl }
def Tryz.sort94_ren : Go.Shelf.Ren := ⟨fun | 6 => 94 | 8 => 100 | 9 => 107 | 19 => 119 | 20 => 120 | 21 => 123 | 22 => 124 | 23 => 125 | 24 => 126 | 25 => 127 | 26 => 128 | 27 => 129 | 28 => 130 | 29 => 131 | 36 => 145 | 31 => 136 | 32 => 137 | 37 => 146 | 38 => 147 | 39 => 148 | 41 => 160 | n => n, fun | 27 => 32 | 29 => 9 | 3 => 3 | 32 => 137 | 26 => 32 | 0 => 0 | 44 => 162 | 46 => 164 | 4 => 4 | 36 => 155 | 35 => 154 | 41 => 108 | 5 => 5 | 9 => 9 | 53 => 173 | 57 => 177 | 63 => 191 | 64 => 192 | n => n, fun | n => n⟩
theorem Tryz.sort94 : Go.Proofs.SlLaysM.n6 Tryz.prog Tryz.sort94_ren := {
  mixed := by kernel_rfl
  f6 := ⟨Tryz.f94.name, by decide, Tryz.func94.trans (congrArg some (by kernel_rfl))⟩
  f8 := Tryz.func100.trans (congrArg some (by kernel_rfl))
  f9 := ⟨Tryz.f107.name, by decide, Tryz.func107.trans (congrArg some (by kernel_rfl))⟩
  f19 := Tryz.func119.trans (congrArg some (by kernel_rfl))
  f20 := Tryz.func120.trans (congrArg some (by kernel_rfl))
  f21 := ⟨Tryz.f123.name, by decide, Tryz.func123.trans (congrArg some (by kernel_rfl))⟩
  f22 := ⟨Tryz.f124.name, by decide, Tryz.func124.trans (congrArg some (by kernel_rfl))⟩
  f23 := ⟨Tryz.f125.name, by decide, Tryz.func125.trans (congrArg some (by kernel_rfl))⟩
  f24 := ⟨Tryz.f126.name, by decide, Tryz.func126.trans (congrArg some (by kernel_rfl))⟩
  f25 := ⟨Tryz.f127.name, by decide, Tryz.func127.trans (congrArg some (by kernel_rfl))⟩
  f26 := ⟨Tryz.f128.name, by decide, Tryz.func128.trans (congrArg some (by kernel_rfl))⟩
  f27 := ⟨Tryz.f129.name, by decide, Tryz.func129.trans (congrArg some (by kernel_rfl))⟩
  f28 := ⟨Tryz.f130.name, by decide, Tryz.func130.trans (congrArg some (by kernel_rfl))⟩
  f29 := ⟨Tryz.f131.name, by decide, Tryz.func131.trans (congrArg some (by kernel_rfl))⟩
  f31 := Tryz.func136.trans (congrArg some (by kernel_rfl))
  f32 := Tryz.func137.trans (congrArg some (by kernel_rfl))
  f36 := ⟨Tryz.f145.name, by decide, Tryz.func145.trans (congrArg some (by kernel_rfl))⟩
  f37 := ⟨Tryz.f146.name, by decide, Tryz.func146.trans (congrArg some (by kernel_rfl))⟩
  f38 := ⟨Tryz.f147.name, by decide, Tryz.func147.trans (congrArg some (by kernel_rfl))⟩
  f39 := ⟨Tryz.f148.name, by decide, Tryz.func148.trans (congrArg some (by kernel_rfl))⟩
  f41 := ⟨Tryz.f160.name, by decide, Tryz.func160.trans (congrArg some (by kernel_rfl))⟩
  t0 := Tryz.underlying0
  a0 := Tryz.isAgg0
  z0 := Tryz.sizeOf0
  v0 := Tryz.zeroValue0
  t3 := Tryz.underlying3
  a3 := Tryz.isAgg3
  z3 := Tryz.sizeOf3
  v3 := Tryz.zeroValue3
  t4 := Tryz.underlying4
  a4 := Tryz.isAgg4
  z4 := Tryz.sizeOf4
  v4 := Tryz.zeroValue4
  t5 := Tryz.underlying5
  a5 := Tryz.isAgg5
  z5 := Tryz.sizeOf5
  v5 := Tryz.zeroValue5
  t9 := Tryz.underlying9
  a9 := Tryz.isAgg9
  z9 := Tryz.sizeOf9
  v9 := Tryz.zeroValue9
  t26 := Tryz.underlying32
  a26 := Tryz.isAgg32
  z26 := Tryz.sizeOf32
  v26 := Tryz.zeroValue32
  t27 := Tryz.underlying32
  a27 := Tryz.isAgg32
  z27 := Tryz.sizeOf32
  v27 := Tryz.zeroValue32
  t29 := Tryz.underlying9
  a29 := Tryz.isAgg9
  z29 := Tryz.sizeOf9
  v29 := Tryz.zeroValue9
  t32 := Tryz.underlying137
  a32 := Tryz.isAgg137
  z32 := Tryz.sizeOf137
  v32 := Tryz.zeroValue137
  t35 := Tryz.underlying154
  a35 := Tryz.isAgg154
  z35 := Tryz.sizeOf154
  v35 := Tryz.zeroValue154
  t36 := Tryz.underlying155
  a36 := Tryz.isAgg155
  z36 := Tryz.sizeOf155
  v36 := Tryz.zeroValue155
  t41 := Tryz.underlying108
  a41 := Tryz.isAgg108
  z41 := Tryz.sizeOf108
  v41 := Tryz.zeroValue108
  t44 := Tryz.underlying162
  a44 := Tryz.isAgg162
  z44 := Tryz.sizeOf162
  v44 := Tryz.zeroValue162
  t46 := Tryz.underlying164
  a46 := Tryz.isAgg164
  z46 := Tryz.sizeOf164
  v46 := Tryz.zeroValue164
  t53 := Tryz.underlying173
  a53 := Tryz.isAgg173
  z53 := Tryz.sizeOf173
  v53 := Tryz.zeroValue173
  t57 := Tryz.underlying177
  a57 := Tryz.isAgg177
  z57 := Tryz.sizeOf177
  v57 := Tryz.zeroValue177
  t63 := Tryz.underlying191
  a63 := Tryz.isAgg191
  z63 := Tryz.sizeOf191
  v63 := Tryz.zeroValue191
  t64 := Tryz.underlying192
  a64 := Tryz.isAgg192
  z64 := Tryz.sizeOf192
  v64 := Tryz.zeroValue192 }
open Go.RowKit Go.Maps Go.Sort Go.Shelf


theorem Tryz.sorts69 (m : Nat) : AnyZ.SortsIn Tryz.prog Tryz.sorted69_ren Fence.wide m :=
  ⟨fun blk off cap ss W hH hblk hsz => callsIn_wide.2 (AnyM.slices_Sort_string Tryz.sort94 blk off cap ss W hH hblk hsz),
   fun p cap W => callsIn_wide.2 (AnyM.slices_Sort_string_none Tryz.sort94 p cap W)⟩

theorem Tryz.maps_Keys_70 (mb : Option Nat) (W : World) : CallsIn Fence.wide 5 Tryz.prog 70 #[.map mb] W fun e w' => e = .returned (.func (.func 95) #[] #[.pointer (some ⟨W.heap.size, 0, none⟩)]) ∧ w' = W.alloc (.cells #[.map mb] 72) :=
  AnyZ.keys_in Tryz.keys70 Fence.wide 5 trivial rfl mb W

set_option maxHeartbeats 1000000 in
theorem Tryz.slices_Sorted_keys_69_70 {H : Type} (b nn : Nat) (D0 : DataW H) (R : Value → Option (DataW H × List MemPlace)) (w : World) (hown : w.ownsMap Tryz.prog 9 R b nn D0) (hmax : Maps.size D0 ≤ maxLen) (hbytes : Maps.size D0 * 16 ≤ 140737488355328) :
    CallsIn Fence.wide 5 Tryz.prog 69 #[.func (.func 95) #[] #[.pointer (some ⟨w.heap.size, 0, none⟩)]] (w.alloc (.cells #[.map (some b)] 72)) fun e w' => ∃ (v : Value) (ss : List (List UInt8)), e = .returned v ∧ ss.Perm (strKeys D0) ∧
      w'.ownsRow (w.alloc (.cells #[.map (some b)] 72)).heap.size 9 1 v ss.length ((ss.mergeSort (fun x y => decide (x ≤ y))).map encStr) ∧ (v = .slice none 0 0 ↔ ss = []) ∧ Below (w.alloc (.cells #[.map (some b)] 72)).heap.size (w.alloc (.cells #[.map (some b)] 72)) w' := by
  have hbl := hown.lt
  have hseq : SeqGives Fence.wide 2 Tryz.prog 95 #[.pointer (some ⟨w.heap.size, 0, none⟩)] encStr (fun ss => ss.Perm (strKeys D0)) (Maps.size D0) (w.alloc (.cells #[.map (some b)] 72)) :=
    AnyZ.keys_gives (ρ := Tryz.keys70_ren) { Tryz.keys70 with } Fence.wide _ trivial rfl (by omega) w.heap.size b nn D0 _ (by simp) (by simp) (by
      obtain ⟨es, clock, hb, Ft, hs, hD⟩ := hown
      exact ⟨es, clock, (Below.heap_alloc _ _ b hbl).trans hb, Ft, hs, hD⟩)
  exact AnyZ.sorted_in Tryz.sorted69 Fence.wide 5 trivial trivial trivial trivial rfl (by omega) (Tryz.sorts69 _) (enters_of Tryz.func94 (by kernel_rfl) rfl) 95 #[.pointer (some ⟨w.heap.size, 0, none⟩)] trivial (enters_of Tryz.func95 (by kernel_rfl) rfl) _ _ hmax hbytes _ hseq

set_option maxHeartbeats 1000000 in
theorem Tryz.slices_Sorted_keys_nil_69_70 (w : World) :
    CallsIn Fence.wide 5 Tryz.prog 69 #[.func (.func 95) #[] #[.pointer (some ⟨w.heap.size, 0, none⟩)]] (w.alloc (.cells #[.map none] 72)) fun e w' => ∃ (v : Value) (ss : List (List UInt8)), e = .returned v ∧ ss = [] ∧
      w'.ownsRow (w.alloc (.cells #[.map none] 72)).heap.size 9 1 v ss.length ((ss.mergeSort (fun x y => decide (x ≤ y))).map encStr) ∧ (v = .slice none 0 0 ↔ ss = []) ∧ Below (w.alloc (.cells #[.map none] 72)).heap.size (w.alloc (.cells #[.map none] 72)) w' := by
  have hseq : SeqGives Fence.wide 2 Tryz.prog 95 #[.pointer (some ⟨w.heap.size, 0, none⟩)] encStr (fun ss : List (List UInt8) => ss = []) 0 (w.alloc (.cells #[.map none] 72)) :=
    AnyZ.keys_gives_nil (ρ := Tryz.keys70_ren) { Tryz.keys70 with } Fence.wide _ trivial rfl w.heap.size _ (by simp) (by simp)
  exact AnyZ.sorted_in Tryz.sorted69 Fence.wide 5 trivial trivial trivial trivial rfl (by omega) (Tryz.sorts69 _) (enters_of Tryz.func94 (by kernel_rfl) rfl) 95 #[.pointer (some ⟨w.heap.size, 0, none⟩)] trivial (enters_of Tryz.func95 (by kernel_rfl) rfl) _ 0 (Nat.zero_le _) (by omega) _ hseq



end Go.Proofs
