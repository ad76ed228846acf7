/- Crash of a device. | How many files a device has, and how many bytes; a new device; what is handed to its calls out of new memory; conversions of bytes. | A device of no file, or of one: what each call makes of it; and the live question of the layer's statements is answered true. | The document's own answer on names (R.Name): it is the program's. | The statement DeviceGrows, its walk: whatever the name, the parts and what is kept, the call answers true and turns nothing that was there. | Great: it ends, and where it answers false the calls are no more than three hundred. -/
import Derived.Test.YteonkojfnmbpoaaK2
import Derived.IntWalk
import Derived.Lib.MinMax
import Derived.BigRegion
import Derived.Lib.ConvBytes
import Derived.Laws.BytesArg
import Derived.Lib.SlBytesConst
import Derived.Deep.QuietTactic
import Derived.BigQuiet
namespace Go.Proofs.Yteonkojfnmbpoaa
open Go.RowKit Go.Lib Go.Maps Go.ChangeMaps

section
variable {S : Prop} {w w' : World} {own own' : Owner} {db fb rb : Nat} {D D' E E' : DataW Unit} {n n' : Nat} {m : DevM}

theorem FirstAt.turn {H : Type} {P : Program} {kt : TypeId} {R : Value → Option (DataW H × List MemPlace)} {b r nn cnt : Nat} {DD : DataW H} {left : Lit → Bool} {B bx : Nat} {ks : List (ByteArray × Int)}
    (h : FirstAt w B bx ks) (hrg : w.ranges P kt R b r nn DD left cnt) (hg : w.grownBy w' (some r)) : FirstAt w' B bx ks := by
  obtain ⟨mb, c, D, h1, h2, hx, hown, h3⟩ := h
  obtain ⟨es, clock, since, seen, c0, _, _, _, _, hr, _⟩ := hrg
  refine ⟨mb, c, D, h1, h2, hg.cell hx (fun e => ?_), hown.kept hg (fun e => ?_), h3⟩
  · injection e with e
    change bx = r at e
    subst e
    simp [World.cell?, hr] at hx
  · injection e with e
    subst e
    obtain ⟨es', clock', h5, _⟩ := hown
    rw [hr] at h5
    cases h5

theorem drew_below (w : World) : Below w.heap.size w w.drew := (Below.refl _ _).drew
theorem drew_grown (w : World) : w.grownBy w.drew none := ⟨(drew_below w).os, (drew_below w).tape, (drew_below w).output, (drew_below w).size, fun k hk _ => (drew_below w).block k hk⟩
theorem drew_step (own : Owner) (w : World) : Step own own w w.drew := Step.of_fr (Fr.of_below (drew_below w))
theorem Dev.drew (h : Dev S w own db fb rb D E n m) : Dev S w.drew own db fb rb D E n m := h.fr (T := fun _ => False) (Fr.of_below (drew_below w)) (fun _ _ h => h)

theorem Dev.weak (h : Dev S w own db fb rb D E n m) : Dev False w own db fb rb D E n m where
  blk := h.blk
  fmap := h.fmap
  rmap := h.rmap
  cnt := h.cnt
  dom := h.dom
  rdom := h.rdom
  rback := fun hF => hF.elim
  fil := h.fil
  rem := h.rem
  odb := h.odb
  ofb := h.ofb
  orb := h.orb
  old := h.old
  rroom := h.rroom
  rfuse := h.rfuse
  racts := h.racts

theorem Dev.fmap_sz (h : Dev S w own db fb rb D E n m) : ∃ c, w.ownsMap Try.prog 9 ptrR fb c D ∧ c = Maps.size D := by
  obtain ⟨c0, es, clock, h1, h2, h3, h4⟩ := h.fmap
  exact ⟨es.size, ⟨es, clock, h1, h2, Nat.le_refl _, h4⟩, by rw [h4]; simp [Maps.size, length_sorted]⟩

set_option maxHeartbeats 2000000 in
set_option maxRecDepth 100000 in
theorem Dev.crash (h : Dev S w own db fb rb D E n m) (hS : S) (hn : n ≤ 1000000000000) {kv : Value} {ks : List (ByteArray × Int)} (hk : KArg w own kv ks) (hkl : ks.length ≤ 1000000000000) :
    Calls Try.prog 19 #[.pointer (some ⟨db, 0, none⟩), kv] w fun e w' => e = .returned (.tuple #[]) ∧ ∃ own' D', Dev S w' own' db fb rb D' (.map []) n (crashM ks m) ∧ Step own own' w w' := by
  have H0 : Hid (Dev S w own db fb rb D E n m) := h
  have Hold : Hid (∀ b, w.heap.size ≤ b → own b = none) := h.old
  have Hk := Lib.hid hk
  clear h hk
  go_enter Try.func19, Try.ntmps19
  go_wp2_with fail
  refine (firstOf_calls Hk.out hkl).mono ?_
  rintro e w1 ⟨bx, rfl, hfa, hb1⟩
  have HF1 := Lib.hid hfa
  have H1 : Hid (Dev S w1 own db fb rb D E n m) := H0.out.fr (T := fun _ => False) (Fr.of_below hb1) (fun _ _ h => h)
  have ST1 : Hid (Step own own w w1) := Step.of_fr (Fr.of_below hb1)
  clear hfa hb1
  have c1 := H1.out.c1
  obtain ⟨c, hc⟩ := H1.out.fmap
  go_wp2_with (first
    | (at_range; refine wpList_range_own _ rfl _ 53 rfl 9 52 lawS Try.underlying53 _ fb c _ rfl hc ?_; intro w0 hrg0 hg0 hs0)
    | fail)
  clear hc c1
  go_frame
  go_loopw [5] (fun _ wr => ∃ (left : Lit → Bool) (cnt : Nat) (D1 : DataW Unit), wr.ranges Try.prog 9 ptrR fb w1.heap.size c D1 left cnt ∧ Hid (Dev S wr own db fb rb D1 E n { m with files := crashL ks left m.files }) ∧ Hid (Step own own w wr) ∧ Hid (∀ k, left (.string k) = true → Maps.has D1 (.string k) = true) ∧ Hid (FirstAt wr w.heap.size bx ks))
    (fun _ wr => wr.rangeLeft fb w1.heap.size)
  case atStart =>
    have e1 : crashL ks (Maps.has D) m.files = m.files := by
      funext k
      cases hk : m.files k with
      | none => simp [crashL, hk]
      | some f => simp [crashL, hk, H1.out.dom k]
    have st0 : Step own own w1 w0 := Step.of_fr ((Fr.refl _ _).grown hg0 (fun k hk _ => by cases hk))
    refine ⟨_, _, D, hrg0, ?_, ST1.out.trans st0, fun k hk => hk, HF1.out.step st0 Hold.out⟩
    rw [e1]
    exact H1.out.kept hg0.size (fun b hb => hg0.block b (H1.out.lt hb) (by simp))
  case round =>
    obtain ⟨left, cnt, D1, hrg, HD, HS, Hl, HF⟩ := hrel
    go_wp2_with (first
      | (at_next; refine wpList_next_files _ rfl _ rfl fb w1.heap.size c _ _ _ rfl hrg (fun k hk => HD.out.ptrs k (Hl.out _ hk)) ?_ ?_)
      | fail)
    · intro _ hl0
      have Hl0 := Lib.hid hl0
      clear hl0
      have d2 := HD.out.c2
      obtain ⟨c2, hc2⟩ := HD.out.rmap
      go_wp2_with (first
        | (at_range; refine wpList_range_own _ rfl _ 54 rfl 9 31 lawS Try.underlying54 _ rb c2 _ rfl hc2 ?_; intro w3 hrg3 hg3 hs3)
        | fail)
      clear hc2 d2
      have HD0 : Hid (Dev False w3 own db fb rb D1 E n { m with files := crash1 ks m.files }) := by
        have h5 := HD.out.weak
        have e1 : crashL ks left m.files = crash1 ks m.files := by
          funext k
          simp [crashL, crash1, Hl0.out]
        simp only [e1] at h5
        exact h5.kept hg3.size (fun b hb => hg3.block b (h5.lt hb) (by simp))
      have HS0 : Hid (Step own own w w3) := HS.out.trans (Step.of_fr ((Fr.refl _ _).grown hg3 (fun k hk _ => by cases hk)))
      have Hrz : Hid (w.heap.size ≤ wr.heap.size) := HS.out.fr.size
      have Hr0 : Hid (own wr.heap.size = none) := HD.out.old _ (Nat.le_refl _)
      clear hrg
      go_frame
      go_loopw [8] (fun _ wq => ∃ (left2 : Lit → Bool) (cnt2 : Nat) (own2 : Owner) (D2 : DataW Unit) (nn : Nat), wq.ranges Try.prog 9 slR rb wr.heap.size c2 E left2 cnt2 ∧ Hid (Dev False wq own2 db fb rb D2 E nn { m with files := backL left2 m.gone (crash1 ks m.files), gone := goneL left2 m.gone }) ∧
          Hid (Step own own2 w wq) ∧ Hid (∀ k, left2 (.string k) = true → Maps.has E (.string k) = true) ∧ Hid (Maps.size D2 + cnt2 ≤ n) ∧ Hid (own2 wr.heap.size = none) ∧ Hid (wr.heap.size < wq.heap.size))
        (fun _ wq => wq.rangeLeft rb wr.heap.size)
      case atStart =>
        have e1 : backL (Maps.has E) m.gone (crash1 ks m.files) = crash1 ks m.files := by
          funext k
          cases hk : m.gone k with
          | none => simp [backL, hk]
          | some d => simp [backL, H0.out.rdom k (by simp [hk])]
        have e2 : goneL (Maps.has E) m.gone = m.gone := by
          funext k
          cases hk : m.gone k with
          | none => simp [goneL, hk]
          | some d => simp [goneL, hk, H0.out.rdom k (by simp [hk])]
        refine ⟨_, _, own, D1, n, hrg3, ?_, HS0, fun k hk => hk, HD.out.cnt, Hr0, by show wr.heap.size < w3.heap.size; omega⟩
        rw [e1, e2]
        exact HD0
      case round =>
        obtain ⟨left2, cnt2, own2, D2, nn, hrg2, HD2, HS2, Hl2, Hc2, Hr2, Hlt2⟩ := hrel
        have d1 := HD2.out.c1
        go_wp2_with (first
          | (at_next; refine wpList_next_rem _ rfl _ rfl rb _ c2 _ _ _ rfl hrg2 ?_ ?_)
          | fail)
        · intro _ hl2
          have e1 : backL left2 m.gone (crash1 ks m.files) = crashFiles ks m := by
            funext k
            simp [backL, hl2, crashFiles, crash1]
          have e2 : goneL left2 m.gone = fun _ => none := by
            funext k
            simp [goneL, hl2]
          have h5 := HD2.out
          simp only [e1, e2] at h5
          have hset := h5.settle (S' := S)
          have Hc0 := Lib.hid Hc2.out
          clear h5 e1 e2 hl2
          go_wp2_with fail
          refine hset.mono ?_
          rintro e w6 ⟨rfl, h6, st6⟩
          have f4 := h6.c4
          have f5 := h6.c5
          have g4 := h6.f 4
          have g5 := h6.f 5
          have H6 := Lib.hid h6
          have ST6 := Lib.hid st6
          clear h6 st6
          go_wp2_with fail
          go_end0
          refine ⟨rfl, own2, D2, ?_, (HS2.out.trans ST6.out).trans (Step.of_fr (((Fr.refl _ _).setCell _ _ (fun _ => by simp [H6.out.odb])).setCell _ _ (fun _ => by simp [H6.out.odb])))⟩
          have h7 := H6.out.setBlk (w' := (w6.setCell ⟨db, 4, none⟩ (.int .i64 (-1))).setCell ⟨db, 5, none⟩ (.bool false)) (acts := m.acts) (fuse := -1) (down := false) (by simp [World.setCell]) (fun b _ hne => (Below.heap_setCell _ _ _ _ hne).trans (Below.heap_setCell _ _ _ _ hne)) (setCell_blk (setCell_blk H6.out.blk _) _) H6.out.racts (by omega)
          exact { h7 with cnt := by have := Hc0.out; simp [Maps.size] at this ⊢; omega }
        · intro x sa sl sc w4 cnt3 hx hlx hslR hat hrg4 hlt4 hg4 hs4 hen4
          have hhas := Hl2.out _ hlx
          obtain ⟨d, hgd⟩ := Option.isSome_iff_exists.1 (H0.out.rback hS _ hhas)
          have HD4 : Hid (Dev False w4 own2 db fb rb D2 E nn { m with files := backL left2 m.gone (crash1 ks m.files), gone := goneL left2 m.gone }) := HD2.out.kept hg4.size (fun b hb => hg4.block b (HD2.out.lt hb) (fun e => by injection e with e; subst e; exact hb Hr2.out))
          have HS4 : Hid (Step own own2 w w4) := ⟨⟨hg4.os.trans HS2.out.fr.os, hg4.tape.trans HS2.out.fr.tape, hg4.output.trans HS2.out.fr.output, by rw [hs4]; exact HS2.out.fr.size, fun i hi hn => (hg4.block i (Nat.lt_of_lt_of_le hi HS2.out.fr.size) (fun e => by injection e with e; have := Hrz.out; omega)).trans (HS2.out.fr.block i hi hn)⟩, HS2.out.own⟩
          have d4 := HD4.out.c1
          have d4' : (w4.alloc (.cells #[.slice sa sl sc, .int .i64 0, .bool false] 59)).cell? ⟨db, 1, none⟩ = some (.map (some fb)) := by rw [World.cell?_alloc_lt _ _ _ (World.block_lt_of_cell? _ _ d4)]; exact d4
          obtain ⟨cc, hcc, hcs⟩ := HD4.out.fmap_sz
          have hccn : cc < maxLen := by have := Hc2.out; unfold maxLen; omega
          have hcc2 := hcc.alloc (.cells #[.slice sa sl sc, .int .i64 0, .bool false] 59)
          have hkey := WideMaps.keyOf_string_mk Try.underlying9 hx
          have Hcc2 := Lib.hid hcc2
          have Hcs := Lib.hid hcs
          have Hgd := Lib.hid hgd
          have Hat := Lib.hid hat
          have Hsl := Lib.hid hslR
          have Hb4 := Lib.hid (step_back hgd hlx (files := crash1 ks m.files))
          have Hfb : Hid (fb < w4.heap.size) := hcc.lt
          have Hg4 := Lib.hid hg4
          have Hs4 := Lib.hid hs4
          clear hcc hcc2 hcs hgd hat hslR hhas d1 hg4 hs4
          go_wp2_with (first
            | (at_mapUpdate; refine wpList_mapUpdate_own _ rfl _ _ _ 53 rfl 9 52 lawS Try.underlying53 ptrR fb cc D2 rfl Hcc2.out hccn (.string x) (.pointer (some ⟨w4.heap.size, 0, none⟩)) _ rfl rfl hkey (.lit (.int .u64 (w4.heap.size : Nat))) [] rfl ?_; intro w5 hown5 hg5; go_frame)
            | fail)
          have hp4 : w5.heap[w4.heap.size]? = some (.cells #[.slice sa sl sc, .int .i64 0, .bool false] 59 (0, 0)) := by
            rw [hg5.block _ (by simp) (by have := Hfb.out; simp; omega)]
            exact heap_alloc_new w4 _
          have hW5 : ∀ b, b < w4.heap.size → b ≠ fb → w5.heap[b]? = w4.heap[b]? := fun b hb hne => by
            rw [hg5.block b (by simp; omega) (by simpa using hne)]
            exact Below.heap_alloc w4 _ _ hb
          have hz5 : w4.heap.size < w5.heap.size := by have := hg5.size; simp at this; omega
          obtain ⟨own5, h5, hown5', hsz5⟩ := HD4.out.restore (n' := nn + 1) Hb4.out.1 rfl Hat.out Hsl.out hW5 hz5 hp4 hown5 (Nat.lt_succ_self _)
          have st5 : Step own2 own5 w4 w5 := ⟨⟨hg5.os, hg5.tape, hg5.output, by omega, fun i hi hn' => hW5 i hi (fun e => hn' (by subst e; simp [HD4.out.ofb]))⟩, hown5'⟩
          have H5 : Hid (Dev False w5 own5 db fb rb (D2.put (.string x.data.toList) (.lit (.int .u64 (w4.heap.size : Nat)))) E (nn + 1) { m with files := backL (fun z => left2 z && !z.sameKey (.string x.data.toList)) m.gone (crash1 ks m.files), gone := goneL (fun z => left2 z && !z.sameKey (.string x.data.toList)) m.gone }) := by
            have e1 := Hb4.out.2
            have e2 := goneL_step (left := left2) (gone := m.gone) (k := x.data.toList)
            simp only [e1, e2] at h5
            exact h5
          have HS5 := Lib.hid (HS4.out.trans st5)
          have hrb4 := HD4.out.orb
          have hrg5 : w5.ranges Try.prog 9 slR rb _ c2 E _ cnt3 := (hrg4.alloc (.cells #[.slice sa sl sc, .int .i64 0, .bool false] 59)).kept hg5 (fun e => by injection e with e; rw [e, HD4.out.ofb] at hrb4; simp at hrb4) (fun e => by injection e with e; have h9 := HD4.out.ofb; rw [← e, Hr2.out] at h9; cases h9)
          have Hc5 : Hid (Maps.size (D2.put (.string x.data.toList) (.lit (.int .u64 (w4.heap.size : Nat)))) + cnt3 ≤ n) := by have := Hc2.out; show _ ≤ _; omega
          have Hr5 := Lib.hid (hown5' _ (by have := Hlt2.out; have := Hs4.out; omega) Hr2.out)
          have Hl5 : Hid (∀ k, (left2 (.string k) && !(Lit.string k).sameKey (.string x.data.toList)) = true → Maps.has E (.string k) = true) := fun k hk => by
            simp only [Bool.and_eq_true] at hk
            exact Hl2.out k hk.1
          clear h5 hp4 hW5 hown5' st5 hrb4
          go_roundw
          case rel => exact ⟨_, cnt3, own5, _, nn + 1, hrg5, H5, HS5, Hl5, Hc5, Hr5, by have := Hlt2.out; have := Hs4.out; show _ < _; omega⟩
          case measure => rw [hrg5.left_eq, hrg2.left_eq]; exact hlt4
    · intro x p w2 cnt1 hx hlx hat hrg1 hlt hg1 hs1 hen
      have hrfree : own w1.heap.size = none := H1.out.old _ (Nat.le_refl _)
      have HD1 : Hid (Dev S w2 own db fb rb D1 E n { m with files := crashL ks left m.files }) := HD.out.kept hg1.size (fun b hb => hg1.block b (HD.out.lt hb) (fun e => by injection e with e; subst e; exact hb hrfree))
      have HS1 : Hid (Step own own w w2) := ⟨⟨hg1.os.trans HS.out.fr.os, hg1.tape.trans HS.out.fr.tape, hg1.output.trans HS.out.fr.output, by rw [hs1]; exact HS.out.fr.size, fun i hi hn => (hg1.block i (Nat.lt_of_lt_of_le hi HS.out.fr.size) (fun e => by injection e with e; have := ST1.out.fr.size; omega)).trans (HS.out.fr.block i hi hn)⟩, fun _ _ h => h⟩
      have HF2 : Hid (FirstAt w2 w.heap.size bx ks) := HF.out.turn hrg hg1
      have hhas := Hl.out _ hlx
      have hsome := HD.out.dom x.data.toList
      rw [hhas] at hsome
      obtain ⟨f, hfl⟩ := Option.isSome_iff_exists.1 hsome.symm
      have hfl2 : crashL ks left m.files x.data.toList = some f := hfl
      have hf : m.files x.data.toList = some f := by simpa [crashL, hlx] using hfl2
      obtain ⟨p', dv, h1, hfa, hp, hg⟩ := HD1.out.fil _ _ hfl
      obtain rfl : p' = p := by
        have := (h1 .nil).symm.trans (hat .nil)
        simp at this
        omega
      obtain ⟨a, l, c', rfl⟩ : ∃ a l c, dv = .slice a l c := by
        rcases hfa.2.1.2 with ⟨rfl, _⟩ | ⟨g, cap, cur, rfl, _⟩ <;> exact ⟨_, _, _, rfl⟩
      obtain ⟨hll, hlc, _⟩ := take_row (k := f.synced) hfa.2.1 hfa.2.2.1
      subst hll
      have p0 : w2.cell? ⟨p', 0, none⟩ = some (.slice a f.data.length c') := cell_of_blk hfa.1 rfl
      have p1 : w2.cell? ⟨p', 1, none⟩ = some (.int .i64 f.synced) := cell_of_blk hfa.1 rfl
      have p2 : w2.cell? ⟨p', 2, none⟩ = some (.bool f.fresh) := cell_of_blk hfa.1 rfl
      have q0 : w2.frozen? ⟨p', 0, none⟩ = false := frozen_of_blk hfa.1
      have hsl := hfa.2.2.1
      have hl18 := hfa.2.2.2
      have hcut := cutK_le ks x.data.toList f hsl
      obtain ⟨h5, st5⟩ := HD1.out.cut h1 hfa hp hg hcut.1 hcut.2
      have H5 := Lib.hid h5
      have ST5 := Lib.hid st5
      have d1 := HD1.out.c1
      have hkey := WideMaps.keyOf_string_mk Try.underlying9 hx
      have hrp : w1.heap.size ≠ p' := fun e => by rw [← e, hrfree] at hp; cases hp
      have hfp : fb ≠ p' := fun e => by have h9 := H1.out.ofb; rw [e, hp] at h9; simp at h9
      have hmany := many_calls HF2.out hx
      have HC : Hid (cutK ks x.data.toList f = f.synced + (min (max (manyK ks x.data.toList) 0) ((f.data.length : Int) - (f.synced : Int))).toNat) := rfl
      have HCF : Hid (crashF ks x.data.toList f = if f.fresh = true ∧ manyK ks x.data.toList < 0 then none else some ⟨f.data.take (cutK ks x.data.toList f), f.synced, f.fresh⟩) := rfl
      obtain ⟨M, hM⟩ : ∃ M, manyK ks x.data.toList = M := ⟨_, rfl⟩
      rw [hM] at hmany HC HCF
      have HM := Lib.hid hM
      have Hst := Lib.hid (crashL_step (ks := ks) (left := left) hf hlx)
      have Hfl := Lib.hid hfl2
      clear h5 st5 hfa hp hg hcut hM hfl hfl2 hsome hf hat h1
      obtain ⟨l, hl⟩ : ∃ l, f.data.length = l := ⟨_, rfl⟩
      obtain ⟨sy, hsy⟩ : ∃ sy, f.synced = sy := ⟨_, rfl⟩
      obtain ⟨fr, hfr⟩ : ∃ fr, f.fresh = fr := ⟨_, rfl⟩
      rw [hl, hsy] at HC
      rw [hl] at p0 hlc hl18 hsl
      rw [hsy] at p1 hsl
      rw [hfr] at p2 HCF
      have Hl2 := Lib.hid hl
      have Hsy := Lib.hid hsy
      have Hfr := Lib.hid hfr
      clear hl hsy hfr
      by_cases hdrop : fr = true ∧ M < 0
      · obtain ⟨rfl, hM0⟩ := hdrop
        have Hnone : Hid (crashF ks x.data.toList f = none) := HCF.out.trans (if_pos ⟨rfl, hM0⟩)
        go_wp2_with fail
        refine hmany.mono ?_
        rintro e w3 ⟨rfl, rfl⟩
        go_wp2_with (first
          | (at_delete; refine wpList_delete_ranges _ rfl _ _ 53 9 rfl 52 lawS Try.underlying53 _ fb w1.heap.size c _ _ _ rfl hrg1 _ _ rfl hkey ?_; intro w3 cnt2 hrg2 hle hturn; go_frame)
          | fail)
        rw [strike_twice] at hrg2
        have h6 := (HD1.out.del (k := x.data.toList) (by show (crashL ks left m.files x.data.toList).isSome = true; rw [Hfl.out]; rfl) hrg2.owns hturn).1
        have st6 : Step own own w2 w3 := Step.of_fr ((Fr.refl _ _).grown hturn.grown (fun k hk _ => by injection hk with hk; subst hk; simp [H1.out.ofb]))
        have H6 : Hid (Dev S w3 own db fb rb (D1.del (.string x.data.toList)) E n { m with files := crashL ks (fun z => left z && !z.sameKey (.string x.data.toList)) m.files }) := by
          have e1 := Hst.out
          rw [Hnone.out] at e1
          simp only [e1] at h6
          exact h6
        have Hl6 : Hid (∀ k, (left (.string k) && !(Lit.string k).sameKey (.string x.data.toList)) = true → Maps.has (D1.del (.string x.data.toList)) (.string k) = true) := fun k hk => by
          simp only [Bool.and_eq_true, Bool.not_eq_true'] at hk
          rw [Maps.has_del_other (fun e => by rw [e] at hk; simp [Lit.sameKey] at hk)]
          exact Hl.out k hk.1
        have HF6 := Lib.hid (HF2.out.step st6 Hold.out)
        have HS6 := Lib.hid (HS1.out.trans st6)
        clear h6 st6
        go_roundw
        case rel => exact ⟨_, cnt2, _, hrg2, H6, HS6, Hl6, HF6⟩
        case measure => rw [hrg2.left_eq, hrg.left_eq]; omega
      · have hnot : fr = false ∨ (fr = true ∧ 0 ≤ M) := by
          cases fr
          · exact Or.inl rfl
          · exact Or.inr ⟨rfl, by
              have : ¬ M < 0 := fun h => hdrop ⟨rfl, h⟩
              omega⟩
        have Hsome : Hid (crashF ks x.data.toList f = some ⟨f.data.take (cutK ks x.data.toList f), f.synced, f.fresh⟩) := (HCF.out.trans (if_neg hdrop)).trans (by rw [Hfr.out])
        have hT0 : (0 : Int) ≤ min (max M 0) ((l : Int) - (sy : Int)) := by omega
        have hT1 : (sy : Int) + min (max M 0) ((l : Int) - (sy : Int)) ≤ (l : Int) := by omega
        have hw1 : IntKind.i64.wrap ((l : Int) - (sy : Int)) = (l : Int) - (sy : Int) := IntWalk.i64_in _ (by omega)
        have hw2 : IntKind.i64.wrap ((sy : Int) + min (max M 0) ((l : Int) - (sy : Int))) = (sy : Int) + min (max M 0) ((l : Int) - (sy : Int)) := IntWalk.i64_in _ (by omega)
        clear hdrop
        have hN : cutK ks x.data.toList f = ((sy : Int) + min (max M 0) ((l : Int) - (sy : Int))).toNat := by rw [HC.out]; omega
        have Hrg6 : Hid ((w2.setCell ⟨p', 0, none⟩ (.slice a ((sy : Int) + min (max M 0) ((l : Int) - (sy : Int))).toNat c')).ranges Try.prog 9 ptrR fb w1.heap.size c D1 (fun z => left z && !z.sameKey (.string x.data.toList)) cnt1) :=
          hrg1.kept (grownBy_setCell w2 p' 0 _) (by simpa using hfp) (by simpa using hrp)
        have H6 : Hid (Dev S (w2.setCell ⟨p', 0, none⟩ (.slice a ((sy : Int) + min (max M 0) ((l : Int) - (sy : Int))).toNat c')) own db fb rb D1 E n { m with files := crashL ks (fun z => left z && !z.sameKey (.string x.data.toList)) m.files }) := by
          have e1 := Hst.out
          rw [Hsome.out] at e1
          have h6 := H5.out
          simp only [e1] at h6
          rw [hN] at h6
          exact h6
        have st6 := ST5.out
        rw [hN] at st6
        have HF6 := Lib.hid (HF2.out.step st6 Hold.out)
        have HS6 := Lib.hid (HS1.out.trans st6)
        have Hl6 : Hid (∀ k, (left (.string k) && !(Lit.string k).sameKey (.string x.data.toList)) = true → Maps.has D1 (.string k) = true) := fun k hk => by
          simp only [Bool.and_eq_true] at hk
          exact Hl.out k hk.1
        clear hN st6
        rcases hnot with rfl | ⟨rfl, hM0⟩
        all_goals
          go_wp2_with fail
          refine hmany.mono ?_
          rintro e w3 ⟨rfl, rfl⟩
          go_wp2_with fail
          go_region
          clear hw1 hw2
          go_roundw
          case rel =>
            have h7 := H6.out.drew
            have h8 := HS6.out.trans (drew_step own _)
            have h9 := HF6.out.step (drew_step own _) Hold.out
            repeat apply Exists.intro
            exact ⟨⟨_, cnt1, D1, Hrg6.out.kept (drew_grown _) (by simp) (by simp), h7, h8, Hl6, h9⟩, rfl⟩
          case measure =>
            have e6 := (Hrg6.out.kept (drew_grown _) (by simp) (by simp)).left_eq
            rw [e6, hrg.left_eq]
            exact hlt

end
end Go.Proofs.Yteonkojfnmbpoaa
namespace Go.Proofs.Yteonkojfnmbpoaa
open Go.RowKit Go.Lib Go.Maps Go.ChangeMaps
open Go.WideElems (rd_key rg_of)

def keyS : Lit → List UInt8
  | .string k => k
  | _ => []

set_option maxRecDepth 100000 in
theorem ownsMap_strs {w : World} {R : Value → Option (DataW Unit × List MemPlace)} {b n : Nat} {es : List (Lit × DataW Unit)} (h : w.ownsMap Try.prog 9 R b n (.map es)) : ∀ p ∈ es, p.1 = .string (keyS p.1) := by
  obtain ⟨es', clock, _, F, _, hD⟩ := h
  injection hD with hD
  subst hD
  intro p hp
  obtain ⟨x, hx, rfl⟩ := List.mem_map.1 (mem_sorted.1 hp)
  obtain ⟨y, hy⟩ := F.reads x hx
  have h5 : keyOf Try.prog 9 x.key = some y.1 := rd_key hy
  obtain ⟨s, _, h2, _⟩ := keyOf_str_inv h5
  rw [rg_of hy, h2]
  rfl

section
variable {S : Prop} {w w' : World} {own own' : Owner} {db fb rb : Nat} {D D' E E' : DataW Unit} {n n' : Nat} {m : DevM}

/-- The names of a device's files, told as a list, give how many they are, and how many bytes. -/
theorem Dev.size_of (h : Dev S w own db fb rb D E n m) (names : List (List UInt8)) (hnd : names.Nodup) (hm : ∀ k, (m.files k).isSome = true ↔ k ∈ names) :
    Maps.size D = names.length ∧ usedD D m.files = (names.map fun k => flen m.files (.string k)).sum := by
  obtain ⟨c, hc⟩ := h.fmap
  obtain ⟨es, rfl, hap, _⟩ := hc.entries lawS
  have hst := ownsMap_strs hc
  have hdom := h.dom
  have hk : es.map (·.1) = (es.map fun p => keyS p.1).map Lit.string := by
    rw [List.map_map]
    exact List.map_congr_left (fun p hp => hst p hp)
  have hnd2 : (es.map fun p => keyS p.1).Nodup := by
    rw [List.nodup_iff_pairwise_ne, List.pairwise_map]
    refine hap.imp_of_mem (fun {p q} hp hq hne e => hne ?_)
    rw [hst p hp, hst q hq, e]
  have hmem : ∀ k, k ∈ (es.map fun p => keyS p.1) ↔ k ∈ names := fun k => by
    rw [← hm k, ← hdom k]
    constructor
    · intro hk1
      obtain ⟨p, hp, rfl⟩ := List.mem_map.1 hk1
      refine List.any_eq_true.2 ⟨p, hp, ?_⟩
      rw [← hst p hp]
      rw [hst p hp]
      exact WideAt.sameKey_self trivial
    · intro hk1
      obtain ⟨p, hp, hpk⟩ := List.any_eq_true.1 hk1
      exact List.mem_map.2 ⟨p, hp, by rw [WideAt.sameKey_eq hpk]; rfl⟩
  have hperm : (es.map fun p => keyS p.1).Perm names := (List.perm_ext_iff_of_nodup hnd2 hnd).2 hmem
  refine ⟨?_, ?_⟩
  · have := hperm.length_eq
    simpa [Maps.size] using this
  · have e1 : usedD (.map es) m.files = ((es.map fun p => keyS p.1).map fun k => flen m.files (.string k)).sum := by
      rw [List.map_map]
      simp only [usedD, sumL, entsOf]
      congr 1
      exact List.map_congr_left (fun p hp => by rw [hst p hp]; rfl)
    rw [e1]
    exact (hperm.map _).sum_nat

theorem Dev.alloc (h : Dev S w own db fb rb D E n m) (o : Obj) : Dev S (w.alloc o) own db fb rb D E n m := h.fr (T := fun _ => False) (Fr.of_below ((Below.refl _ _).alloc (Nat.le_refl _) _)) (fun _ _ h => h)
theorem alloc_step (own : Owner) (w : World) (o : Obj) : Step own own w (w.alloc o) := Step.of_fr (Fr.of_below ((Below.refl _ _).alloc (Nat.le_refl _) _))
theorem Dev.below (h : Dev S w own db fb rb D E n m) (hb : Below w.heap.size w w') : Dev S w' own db fb rb D E n m := h.fr (T := fun _ => False) (Fr.of_below hb) (fun _ _ h => h)
theorem below_step (own : Owner) (hb : Below w.heap.size w w') : Step own own w w' := Step.of_fr (Fr.of_below hb)

/-- Bytes in a new block. -/
theorem BArg.new {cs : Array Value} {t : TypeId} {fz : Nat × Nat} {bs : List UInt8} (c : Nat) (ho : own w.heap.size = none) (hc : ∀ (j : Nat) (x : UInt8), bs[j]? = some x → cs[j]? = some (Value.int .u8 x.toNat)) : BArg (w.alloc (.cells cs t fz)) own (.slice (some ⟨w.heap.size, 0, none⟩) bs.length c) bs := by
  refine Or.inr ⟨_, c, rfl, fun _ => ho, fun j x hx => ?_⟩
  have hadd : (⟨w.heap.size, 0, none⟩ : Addr).add j = ⟨w.heap.size, j, none⟩ := by unfold Addr.add; split <;> simp_all
  rw [hadd]
  exact cell_of_blk (heap_alloc_new w _) (hc j x hx)

/-- Names and numbers in a new block. -/
theorem KArg.new {cs : Array Value} {t : TypeId} {ks : List (ByteArray × Int)} (c : Nat) (ho : own w.heap.size = none) (hc : ∀ (j : Nat) (s : ByteArray) (m : Int), ks[j]? = some (s, m) → cs[j * 2]? = some (Value.string s) ∧ cs[j * 2 + 1]? = some (Value.int .i64 m) ∧ s.size ≤ maxLen ∧ (Lit.int .i64 m).wf = true) :
    KArg (w.alloc (.cells cs t)) own (.slice (some ⟨w.heap.size, 0, none⟩) ks.length c) ks := by
  refine Or.inr ⟨_, c, rfl, fun _ => ho, fun j s m hj => ?_⟩
  have hadd : ∀ i, (⟨w.heap.size, 0, none⟩ : Addr).add i = ⟨w.heap.size, i, none⟩ := fun i => by unfold Addr.add; split <;> simp_all
  obtain ⟨h1, h2, h3⟩ := hc j s m hj
  rw [hadd, hadd]
  exact ⟨cell_of_blk (heap_alloc_new w _) h1, cell_of_blk (heap_alloc_new w _) h2, h3⟩

def newM (room : Int) : DevM := { room := room, acts := 0, fuse := -1, down := false, files := fun _ => none, gone := fun _ => none }

/-- 'New'. -/
theorem Dev.new (S : Prop) (w : World) (room : Int) (hr : -9223372036854775808 ≤ room ∧ room ≤ 9223372036854775807) :
    Calls Try.prog 22 #[.int .i64 room] w fun e w' => e = .returned (.pointer (some ⟨w.heap.size + 2, 0, none⟩)) ∧ ∃ own, Dev S w' own (w.heap.size + 2) w.heap.size (w.heap.size + 1) (.map []) (.map []) 0 (newM room) ∧ Step (fun _ => none) own w w' := by
  refine (new_calls room w).mono ?_
  rintro e w' ⟨rfl, rfl⟩
  refine ⟨rfl, fun b => if b = w.heap.size + 2 then some (0, []) else if b = w.heap.size then some (1, []) else if b = w.heap.size + 1 then some (2, []) else none, ?_, ?_⟩
  · have h0 := World.ownsMap_made w Try.prog 9 ptrR
    have h1 := World.ownsMap_made (w.alloc (.map #[] 0)) Try.prog 9 slR
    have e1 : (w.alloc (.map #[] 0)).heap.size = w.heap.size + 1 := by simp
    rw [e1] at h1
    exact {
      blk := by
        have h := heap_alloc_new ((w.alloc (.map #[] 0)).alloc (.map #[] 0)) (.cells #[.int .i64 room, .map (some w.heap.size), .map (some (w.heap.size + 1)), .int .i64 0, .int .i64 (-1), .bool false] 56)
        have e2 : ((w.alloc (.map #[] 0)).alloc (.map #[] 0)).heap.size = w.heap.size + 2 := by simp
        rw [e2] at h
        exact h
      fmap := ⟨0, (h0.alloc _).alloc _⟩
      rmap := ⟨0, h1.alloc _⟩
      cnt := by simp [Maps.size]
      dom := fun k => rfl
      rdom := fun k hk => by cases hk
      rback := fun _ k hk => by cases hk
      fil := fun k f hf => by cases hf
      rem := fun k d hd => by cases hd
      odb := by simp
      ofb := by simp
      orb := by simp
      old := fun b hb => by
        simp at hb
        show (if b = w.heap.size + 2 then _ else if b = w.heap.size then _ else if b = w.heap.size + 1 then _ else _) = _
        rw [if_neg (by omega), if_neg (by omega), if_neg (by omega)]
      rroom := hr
      rfuse := by simp [newM]
      racts := by simp [newM] }
  · refine ⟨Fr.of_below ((((Below.refl _ _).alloc (Nat.le_refl _) _).alloc (by simp) _).alloc (by simp; omega) _), fun b hb _ => ?_⟩
    show (if b = w.heap.size + 2 then _ else if b = w.heap.size then _ else if b = w.heap.size + 1 then _ else _) = _
    rw [if_neg (by omega), if_neg (by omega), if_neg (by omega)]

end

set_option maxRecDepth 100000 in
/-- 'string(b)' of bytes that are owned. -/
theorem conv_row {w : World} {base : Nat} {v : Value} {d : List UInt8} (h : w.ownsRow base 5 1 v d.length (byteCells d)) : (convert 31 9 v).run Try.prog w = .ok (.string ⟨d.toArray⟩) w := by
  have hcells := fun g hg => h.cells (g := g) hg
  rcases h.2 with ⟨rfl, h0⟩ | ⟨g, cap, cur, rfl, _⟩
  · obtain rfl : d = [] := List.eq_nil_of_length_eq_zero h0
    exact run_convert_bytes_nil w 31 5 Try.underlying31 Try.underlying5 0 0 9 Try.underlying9
  · have hr := run_convert_bytes_arg w 31 5 Try.underlying31 Try.underlying5 g 0 d.length cap (d.map fun b => (b.toNat : Int)) (by simp) (fun i hi => by
      have h1 := hcells g rfl i (.int .u8 (d[i]).toNat) (by simp [byteCells, hi])
      have hadd : (⟨g, 0, none⟩ : Addr).add i = ⟨g, i, none⟩ := by unfold Addr.add; split <;> simp_all
      rw [hadd] at h1
      rw [Nat.zero_add, h1]
      simp [List.getD, hi]) 9 Try.underlying9
    rw [hr]
    congr 2
    apply ByteArray.ext
    simp only [strOfNums]
    congr 1
    rw [List.map_map]
    exact (List.map_congr_left (fun b _ => by simp)).trans (List.map_id _)

/-- '[]byte(s)'. -/
theorem conv_str (w : World) (s : ByteArray) : (convert 9 31 (.string s)).run Try.prog w = .ok (.slice (some ⟨w.heap.size, 0, none⟩) s.size (grownCap w s.size 0 5)) (bytesWorld w 5 s) :=
  Lib.run_convert_string_bytes w 9 31 5 s Try.underlying9 Try.underlying31 Try.underlying5

theorem bytesWorld_below' (w : World) (s : ByteArray) : Below w.heap.size w (bytesWorld w 5 s) :=
  ⟨rfl, rfl, rfl, by rw [bytesWorld_size]; omega, fun k hk => bytesWorld_at_old w _ s k hk⟩

theorem BArg.conv {own : Owner} (w : World) (s : ByteArray) (c : Nat) (ho : own w.heap.size = none) : BArg (bytesWorld w 5 s) own (.slice (some ⟨w.heap.size, 0, none⟩) s.size c) s.data.toList := by
  refine Or.inr ⟨⟨w.heap.size, 0, none⟩, c, by simp, fun _ => ho, fun j x hx => ?_⟩
  have hadd : (⟨w.heap.size, 0, none⟩ : Addr).add j = ⟨w.heap.size, j, none⟩ := by unfold Addr.add; split <;> simp_all
  obtain ⟨hj, rfl⟩ := List.getElem?_eq_some_iff.1 hx
  have hj' : j < s.data.size := by simpa using hj
  rw [hadd, bytesWorld_cell w 5 s j hj']
  have e1 : s.data.toList.getD j 0 = s.data.toList[j] := by rw [List.getD_eq_getElem?_getD, List.getElem?_eq_getElem hj]; rfl
  rw [e1]

end Go.Proofs.Yteonkojfnmbpoaa
namespace Go.Proofs.Yteonkojfnmbpoaa
open Go.RowKit Go.Lib Go.Maps Go.ChangeMaps

def emptyM (room acts : Int) : DevM := { room := room, acts := acts, fuse := -1, down := false, files := fun _ => none, gone := fun _ => none }
def oneM (room acts : Int) (k : List UInt8) (f : FileM) : DevM := { room := room, acts := acts, fuse := -1, down := false, files := setF (fun _ => none) k (some f), gone := fun _ => none }

theorem newM_eq (room : Int) : newM room = emptyM room 0 := rfl

theorem append_empty {room acts : Int} {k bs : List UInt8} (hn : nameOk k = true) (hl : bs.length ≤ 262144) (hr : (bs.length : Int) ≤ room) : appendM (emptyM room acts) 0 0 k bs = (oneM room (acts + 1) k ⟨bs, 0, true⟩, 0) := by
  have h1 : ¬ room < (bs.length : Int) := by omega
  simp [appendM, emptyM, oneM, hn, holdsI, hl, h1, fuseLess]

theorem append_bad {room acts : Int} {k bs : List UInt8} {sz used : Nat} (hn : nameOk k = false) : appendM (emptyM room acts) sz used k bs = (emptyM room acts, 1) := by
  simp [appendM, emptyM, hn]

theorem append_one {room acts : Int} {k bs : List UInt8} {f : FileM} (hn : nameOk k = true) (hl : f.data.length + bs.length ≤ 262144) (hr : (f.data.length : Int) + (bs.length : Int) ≤ room) :
    appendM (oneM room acts k f) 1 f.data.length k bs = (oneM room (acts + 1) k ⟨f.data ++ bs, f.synced, f.fresh⟩, 0) := by
  have h1 : ¬ room < (f.data.length : Int) + (bs.length : Int) := by omega
  have h2 : bs.length + f.data.length ≤ 262144 := by omega
  simp [appendM, oneM, hn, holdsI, setF_same, h2, h1, fuseLess, setF_twice]

theorem append_one_full {room acts : Int} {k k' bs : List UInt8} {f : FileM} (hn : nameOk k' = true) (hne : k' ≠ k) (hl : bs.length ≤ 262144) (hr : room < (f.data.length : Int) + (bs.length : Int)) :
    appendM (oneM room acts k f) 1 f.data.length k' bs = (oneM room acts k f, 11) := by
  simp [appendM, oneM, hn, holdsI, setF_other _ _ hne, hl, hr]

theorem sync_one {room acts : Int} {k : List UInt8} {f : FileM} : syncM (oneM room acts k f) = (oneM room (acts + 1) k (settleF f), 0) := by
  have e1 : (fun k' => (setF (fun _ => none) k (some f) k').map settleF) = setF (fun _ => none) k (some (settleF f)) := by
    funext k'
    by_cases e : k' = k
    · subst e; simp [setF_same]
    · simp [setF_other _ _ e]
  simp [syncM, oneM, settleM, fuseLess, e1]

theorem sync_empty {room acts : Int} : syncM (emptyM room acts) = (emptyM room (acts + 1), 0) := by
  simp [syncM, emptyM, settleM, fuseLess]

theorem remove_one_none {room acts : Int} {k k' : List UInt8} {f : FileM} (hn : nameOk k' = true) (hne : k' ≠ k) : removeM (oneM room acts k f) k' = (oneM room acts k f, 12) := by
  simp [removeM, oneM, hn, setF_other _ _ hne]

theorem crash_one {room acts : Int} {k : List UInt8} {f f' : FileM} {ks : List (ByteArray × Int)} (h : crashF ks k f = some f') : crashM ks (oneM room acts k f) = oneM room acts k (settleF f') := by
  have e1 : (fun k' => (crashFiles ks (oneM room acts k f) k').map settleF) = setF (fun _ => none) k (some (settleF f')) := by
    funext k'
    by_cases e : k' = k
    · subst e; simp [setF_same, crashFiles, oneM, h]
    · simp [setF_other _ _ e, crashFiles, oneM]
  simp [crashM, e1]
  simp [oneM]

theorem crash_empty {room acts : Int} {ks : List (ByteArray × Int)} : crashM ks (emptyM room acts) = emptyM room acts := by
  simp [crashM, emptyM, crashFiles]

theorem read_one {room acts : Int} {k : List UInt8} {f : FileM} (hn : nameOk k = true) : readM (oneM room acts k f) k = (f.data, 0) := by
  simp [readM, oneM, hn, setF_same]
theorem read_empty {room acts : Int} {k : List UInt8} (hn : nameOk k = true) : readM (emptyM room acts) k = ([], 12) := by simp [readM, emptyM, hn]
theorem read_bad {room acts : Int} {k : List UInt8} (hn : nameOk k = false) : readM (emptyM room acts) k = ([], 1) := by simp [readM, emptyM, hn]

section
variable {S : Prop} {w w' : World} {own own' : Owner} {db fb rb : Nat} {D D' E E' : DataW Unit} {n n' : Nat} {m : DevM}

theorem Dev.size_one {room acts : Int} {k : List UInt8} {f : FileM} (h : Dev S w own db fb rb D E n (oneM room acts k f)) : Maps.size D = 1 ∧ usedD D (oneM room acts k f).files = f.data.length ∧ f.data.length ≤ 262144 := by
  have h1 := h.size_of [k] (by simp) (fun k' => by
    by_cases e : k' = k
    · subst e; simp [oneM, setF_same]
    · simp [oneM, setF_other _ _ e, e])
  obtain ⟨p, dv, _, hfa, _⟩ := h.fil k f (by simp [oneM, setF_same])
  have h2 := hfa.2.2.2
  refine ⟨h1.1, h1.2.trans ?_, h2⟩
  simp [flen, oneM, setF_same]
  omega

theorem Dev.size_empty {room acts : Int} (h : Dev S w own db fb rb D E n (emptyM room acts)) : Maps.size D = 0 ∧ usedD D (emptyM room acts).files = 0 := by
  have h1 := h.size_of [] (by simp) (fun k' => by simp [emptyM])
  exact ⟨h1.1, h1.2⟩

end

theorem mk7 (w : World) : (Instr.makeSlice 31 (.int .i64 7) (.int .i64 7)).run Try.prog w = .ok (.slice (some ⟨w.heap.size, 0, none⟩) 7 7) (w.alloc (.cells #[.int .u8 0, .int .u8 0, .int .u8 0, .int .u8 0, .int .u8 0, .int .u8 0, .int .u8 0] 5)) := by kernel_rfl

set_option maxHeartbeats 4000000 in
set_option maxRecDepth 100000 in
theorem head_calls (w : World) : Calls Try.prog 4 #[] w fun e w' => e = .returned (.bool true) ∧ Below w.heap.size w w' := by
  have hmk := mk7
  have hcv := fun (w : World) (C : Array Value) (n c : Nat) => Lib.run_convert_bytes_const (P := Try.prog) w 31 5 C n c Try.underlying31 Try.underlying5
  go_enter Try.func4, Try.ntmps4
  go_wp2_with fail
  refine (Dev.new True w 10 (by omega)).mono ?_
  rintro e w1 ⟨rfl, own1, h1, st1⟩
  rw [newM_eq] at h1
  have H1 := Lib.hid h1
  have ST1 := Lib.hid st1
  clear h1 st1
  go_wp2_with fail
  -- Append ab
  have ho1 := H1.out.old _ (Nat.le_refl _)
  have b1 : BArg (w1.alloc (.cells #[.int .u8 97, .int .u8 98] 5 (2, 3))) own1 (.slice (some ⟨w1.heap.size, 0, none⟩) [(97 : UInt8), 98].length 2) [97, 98] := BArg.new 2 ho1 (fun j x hj => by
    match j, hj with
    | 0, hj => simp at hj; subst hj; rfl
    | 1, hj => simp at hj; subst hj; rfl)
  have a1 := (H1.out.alloc (.cells #[.int .u8 97, .int .u8 98] 5 (2, 3))).append (by omega) (by simp [emptyM]) (s := ⟨#[97]⟩) (by unfold maxLen; decide) b1
  rw [(H1.out.size_empty).1, (H1.out.size_empty).2, append_empty (by decide) (by decide) (by decide)] at a1
  dsimp only at a1
  refine a1.mono ?_
  rintro e w2 ⟨rfl, own2, D2, h2, st2⟩
  have H2 := Lib.hid h2
  have ST2 := Lib.hid ((ST1.out.trans (alloc_step own1 w1 _)).trans st2)
  clear h2 st2 a1 b1 ho1 H1 ST1
  go_wp2_with fail
  -- Sync
  have a2 := H2.out.sync (by simp [oneM])
  rw [sync_one] at a2
  dsimp only at a2
  refine a2.mono ?_
  rintro e w3 ⟨rfl, E3, h3, st3⟩
  have H3 := Lib.hid h3
  have ST3 := Lib.hid (ST2.out.trans st3)
  clear h3 st3 a2 H2 ST2
  go_wp2_with fail
  -- Append cd
  have ho3 := H3.out.old _ (Nat.le_refl _)
  have b3 : BArg (w3.alloc (.cells #[.int .u8 99, .int .u8 100] 5 (2, 3))) own2 (.slice (some ⟨w3.heap.size, 0, none⟩) [(99 : UInt8), 100].length 2) [99, 100] := BArg.new 2 ho3 (fun j x hj => by
    match j, hj with
    | 0, hj => simp at hj; subst hj; rfl
    | 1, hj => simp at hj; subst hj; rfl)
  have a3 := (H3.out.alloc (.cells #[.int .u8 99, .int .u8 100] 5 (2, 3))).append (by omega) (by simp [oneM]) (s := ⟨#[97]⟩) (by unfold maxLen; decide) b3
  rw [(H3.out.size_one).1, (H3.out.size_one).2.1, append_one (by decide) (by decide) (by decide)] at a3
  dsimp only at a3
  refine a3.mono ?_
  rintro e w4 ⟨rfl, own4, D4, h4, st4⟩
  have H4 := Lib.hid h4
  have ST4 := Lib.hid ((ST3.out.trans (alloc_step own2 w3 _)).trans st4)
  clear h4 st4 a3 b3 ho3 H3 ST3
  go_wp2_with fail
  -- Append of seven bytes
  have ho4 := H4.out.old _ (Nat.le_refl _)
  have b4 : BArg (w4.alloc (.cells #[.int .u8 0, .int .u8 0, .int .u8 0, .int .u8 0, .int .u8 0, .int .u8 0, .int .u8 0] 5)) own4 (.slice (some ⟨w4.heap.size, 0, none⟩) [(0 : UInt8), 0, 0, 0, 0, 0, 0].length 7) [0, 0, 0, 0, 0, 0, 0] := BArg.new 7 ho4 (fun j x hj => by
    match j, hj with
    | 0, hj => simp at hj; subst hj; rfl
    | 1, hj => simp at hj; subst hj; rfl
    | 2, hj => simp at hj; subst hj; rfl
    | 3, hj => simp at hj; subst hj; rfl
    | 4, hj => simp at hj; subst hj; rfl
    | 5, hj => simp at hj; subst hj; rfl
    | 6, hj => simp at hj; subst hj; rfl)
  have a4 := (H4.out.alloc (.cells #[.int .u8 0, .int .u8 0, .int .u8 0, .int .u8 0, .int .u8 0, .int .u8 0, .int .u8 0] 5)).append (by omega) (by simp [oneM]) (s := ⟨#[98]⟩) (by unfold maxLen; decide) b4
  rw [(H4.out.size_one).1, (H4.out.size_one).2.1, append_one_full (by decide) (by decide) (by decide) (by decide)] at a4
  dsimp only at a4
  refine a4.mono ?_
  rintro e w5 ⟨rfl, own5, D5, h5, st5⟩
  have H5 := Lib.hid h5
  have ST5 := Lib.hid ((ST4.out.trans (alloc_step own4 w4 _)).trans st5)
  clear h5 st5 a4 b4 ho4 H4 ST4
  go_wp2_with fail
  -- Remove of a name that none has
  have a5 := H5.out.remove (by omega) (by simp [oneM]) (s := ⟨#[99]⟩) (by unfold maxLen; decide)
  rw [remove_one_none (by decide) (by decide)] at a5
  dsimp only at a5
  refine a5.mono ?_
  rintro e w6 ⟨rfl, own6, D6, E6, h6, st6⟩
  have H6 := Lib.hid h6
  have ST6 := Lib.hid (ST5.out.trans st6)
  clear h6 st6 a5 H5 ST5
  go_wp2_with fail
  -- Crash
  have ho6 := H6.out.old _ (Nat.le_refl _)
  have k6 : KArg (w6.alloc (.cells #[.string ⟨#[97]⟩, .int .i64 1] 47)) own6 (.slice (some ⟨w6.heap.size, 0, none⟩) [((⟨#[97]⟩ : ByteArray), (1 : Int))].length 1) [(⟨#[97]⟩, 1)] := KArg.new 1 ho6 (fun j s m hj => by
    match j, hj with
    | 0, hj => simp at hj; obtain ⟨rfl, rfl⟩ := hj; exact ⟨rfl, rfl, by unfold maxLen; decide, by decide⟩)
  have a6 := (H6.out.alloc (.cells #[.string ⟨#[97]⟩, .int .i64 1] 47)).crash trivial (by omega) k6 (by simp)
  have hcf : crashF [((⟨#[97]⟩ : ByteArray), (1 : Int))] (⟨#[97]⟩ : ByteArray).data.toList ⟨(settleF ⟨[97, 98], 0, true⟩).data ++ [99, 100], (settleF ⟨[97, 98], 0, true⟩).synced, (settleF ⟨[97, 98], 0, true⟩).fresh⟩ = some ⟨[97, 98, 99], 2, false⟩ := rfl
  rw [crash_one hcf] at a6
  refine a6.mono ?_
  rintro e w7 ⟨rfl, own7, D7, h7, st7⟩
  have H7 := Lib.hid h7
  have ST7 := Lib.hid ((ST6.out.trans (alloc_step own6 w6 _)).trans st7)
  clear h7 st7 a6 k6 ho6 hcf H6 ST6
  go_wp2_with fail
  -- Read
  have a7 := H7.out.read (s := ⟨#[97]⟩) (by unfold maxLen; decide)
  rw [read_one (by decide)] at a7
  dsimp only at a7
  refine a7.mono ?_
  rintro e w8 ⟨v, rfl, hrow, hb8⟩
  have H8 := Lib.hid (H7.out.below hb8)
  have ST8 := Lib.hid (ST7.out.trans (below_step own7 hb8))
  have hcr := conv_row hrow
  have hcr2 : (convert 31 9 v).run Try.prog w8 = .ok (.string ⟨#[97, 98, 99]⟩) w8 := hcr
  have c3 : w8.cell? ⟨w.heap.size + 2, 3, none⟩ = some (.int .i64 3) := H8.out.c3
  clear a7 hb8 hcr hrow H7 ST7
  go_wp2_with fail
  refine (acts_calls _ 3 w8 c3).mono ?_
  rintro e w9 ⟨rfl, rfl⟩
  clear c3
  go_wp2_with fail
  have a8 := H8.out.used (by omega)
  rw [(H8.out.size_one).2.1] at a8
  refine a8.mono ?_
  rintro e w9 ⟨rfl, hb9⟩
  have ST9 := ST8.out.trans (below_step own7 hb9)
  go_wp2_with fail
  go_ret
  exact ⟨rfl, ST9.fr.to_below (Nat.le_refl _) (fun k _ => by simp)⟩

end Go.Proofs.Yteonkojfnmbpoaa
namespace Go.Proofs.Yteonkojfnmbpoaa
open Go.RowKit Go.Lib

set_option maxHeartbeats 1000000 in
theorem rname_calls (s : ByteArray) (w : World) (hs : s.size ≤ maxLen) :
    Calls Try.prog 30 #[.string s] w fun e w' => e = .returned (.bool (nameOk s.data.toList)) ∧ w = w' := by
  unfold maxLen at hs
  have hsl : s.data.toList.length = s.size := by simp
  generalize hr : nameOk s.data.toList = r
  have Hr : Hid (nameOk s.data.toList = r) := hr
  have Hsl : Hid (s.data.toList.length = s.size) := hsl
  clear hr hsl
  go_enter Try.func30, Try.ntmps30
  go_wp2
  go_loop [3] (fun i => ∃ k : Nat, k ≤ s.size ∧ i = .int .i64 k ∧ Hid (∀ j, j < k → chOk (s.data.toList.getD j 0) = true)) (fun i => s.size - (intOf i).toNat)
  case atStart => exact ⟨0, Nat.zero_le _, rfl, fun j hj => absurd hj (Nat.not_lt_zero j)⟩
  case round =>
    obtain ⟨k, hk, rfl, hall⟩ := hrel
    by_cases hlt : k < s.size
    · have hg := getD_bytes s k hlt
      by_cases hc : chOk s[k] = true
      · have hall' : Hid (∀ j, j < k + 1 → chOk (s.data.toList.getD j 0) = true) := fun j hj => by
          rcases Nat.lt_succ_iff_lt_or_eq.1 hj with h | h
          · exact hall.out j h
          · subst h; rw [hg]; exact hc
        have hcc := (chOk_iff _).1 hc
        have hb : s[k].toNat < 256 := s[k].toNat_lt
        clear hc hg hall
        rcases hcc with ⟨ha, hb2⟩ | ⟨ha, hb2⟩ | ha
        · have ht : ((s[k].toNat : Int) != 45) = true := by rw [bne_iff_ne]; omega
          go_wp2
          all_goals
            go_round
            case rel => exact ⟨k + 1, by omega, by go_num, hall'⟩
            case measure => simp [intOf]; omega
        · have ht : ((s[k].toNat : Int) != 45) = true := by rw [bne_iff_ne]; omega
          go_wp2
          all_goals
            go_round
            case rel => exact ⟨k + 1, by omega, by go_num, hall'⟩
            case measure => simp [intOf]; omega
        · have ha' : 45 ≤ s[k].toNat ∧ s[k].toNat ≤ 45 := by omega
          obtain ⟨ha1, ha2⟩ := ha'
          have ht : ((s[k].toNat : Int) != 45) = false := by rw [bne_eq_false_iff_eq]; omega
          clear ha
          go_wp2
          all_goals
            go_round
            case rel => exact ⟨k + 1, by omega, by go_num, hall'⟩
            case measure => simp [intOf]; omega
      · have hbad : nameOk s.data.toList = false := nameOk_bad (k := k) (by rw [Hsl.out]; exact hlt) (by rw [hg]; simpa using hc)
        have hcc : ¬ (97 ≤ s[k].toNat ∧ s[k].toNat ≤ 122 ∨ 48 ≤ s[k].toNat ∧ s[k].toNat ≤ 57 ∨ s[k].toNat = 45) := fun h => hc ((chOk_iff _).2 h)
        have hb : s[k].toNat < 256 := s[k].toNat_lt
        have ht : ((s[k].toNat : Int) != 45) = true := by rw [bne_iff_ne]; omega
        obtain rfl : r = false := Hr.out.symm.trans hbad
        have h3 : (s[k].toNat < 48) ∨ (57 < s[k].toNat ∧ s[k].toNat < 97) ∨ 122 < s[k].toNat := by omega
        clear hc hg hall hcc hbad
        rcases h3 with h3 | ⟨h3, h4⟩ | h3
        all_goals
          go_wp2
          go_ret
          exact ⟨rfl, rfl⟩
    · by_cases h1 : s.size < 1
      · obtain rfl : r = false := Hr.out.symm.trans (nameOk_short (by rw [Hsl.out]; exact h1))
        go_wp2
        go_ret
        exact ⟨rfl, rfl⟩
      by_cases h2 : 20 < s.size
      · obtain rfl : r = false := Hr.out.symm.trans (nameOk_long (by rw [Hsl.out]; exact h2))
        have hd : decide ((s.size : Int) ≤ 20) = false := by simp; omega
        go_wp2
        go_ret
        exact ⟨rfl, rfl⟩
      obtain rfl : r = true := Hr.out.symm.trans (nameOk_all (by rw [Hsl.out]; omega) (by rw [Hsl.out]; omega) (fun j hj => hall.out j (by rw [Hsl.out] at hj; omega)))
      have hd : decide ((s.size : Int) ≤ 20) = true := by simp; omega
      go_wp2
      go_ret
      exact ⟨rfl, rfl⟩

end Go.Proofs.Yteonkojfnmbpoaa
namespace Go.Proofs.Yteonkojfnmbpoaa
open Go.RowKit Go.Lib Go.Maps Go.ChangeMaps

/-- A row of texts that was handed in. -/
def SRow (w : World) (a : Option Addr) (ps : List ByteArray) : Prop := ∀ j s, ps[j]? = some s → ∃ ad, a = some ad ∧ ad.block < w.heap.size ∧ w.cell? (ad.add j) = some (.string s) ∧ s.size ≤ maxLen

theorem SRow.below {w w' : World} {a : Option Addr} {ps : List ByteArray} (h : SRow w a ps) (hb : Below w.heap.size w w') : SRow w' a ps := fun j s hj => by
  obtain ⟨ad, h1, h2, h3, h4⟩ := h j s hj
  exact ⟨ad, h1, Nat.lt_of_lt_of_le h2 hb.size, (hb.cell (by rw [add_block]; exact h2)).trans h3, h4⟩

def catB (ps : List ByteArray) (k : Nat) : List UInt8 := ((ps.take k).map fun s => s.data.toList).flatten
def sizeN (n0 : Nat) (ps : List ByteArray) : Nat → Nat
  | 0 => n0
  | k + 1 => sizeN n0 ps k + 1 + min ((ps[k]?.map fun s => s.size).getD 0) 20000

theorem catB_zero (ps : List ByteArray) : catB ps 0 = [] := by simp [catB]
theorem catB_succ {ps : List ByteArray} {k : Nat} {s : ByteArray} (h : ps[k]? = some s) : catB ps (k + 1) = catB ps k ++ s.data.toList := by
  simp [catB, List.take_add_one, h]
theorem sizeN_succ {ps : List ByteArray} {k n0 : Nat} {s : ByteArray} (h : ps[k]? = some s) : sizeN n0 ps (k + 1) = sizeN n0 ps k + 1 + min s.size 20000 := by simp [sizeN, h]
theorem catB_step (ps : List ByteArray) (k : Nat) : (catB ps k).length ≤ (catB ps (k + 1)).length := by
  cases h : ps[k]? with
  | none => simp [catB, List.take_add_one, h]
  | some s => rw [catB_succ h, List.length_append]; omega
theorem catB_mono (ps : List ByteArray) (k : Nat) : ∀ d : Nat, (catB ps k).length ≤ (catB ps (k + d)).length
  | 0 => Nat.le_refl _
  | d + 1 => Nat.le_trans (catB_mono ps k d) (catB_step ps (k + d))
theorem catB_le {n0 : Nat} {ps : List ByteArray} : ∀ (k : Nat), k ≤ ps.length → sizeN n0 ps k < 20000 → (catB ps k).length + k ≤ sizeN n0 ps k
  | 0, _, _ => by simp [catB_zero]
  | k + 1, hk, h => by
    have hs : ps[k]? = some ps[k] := List.getElem?_eq_getElem (by omega)
    rw [sizeN_succ hs] at h ⊢
    have ih := catB_le (n0 := n0) (ps := ps) k (by omega) (by omega)
    rw [catB_succ hs, List.length_append]
    have : (ps[k]).data.toList.length = (ps[k]).size := by simp
    omega

/-- The device that the parts are put to, with a right name. -/
def gM (nm : List UInt8) (ps : List ByteArray) (k : Nat) : DevM := if k = 0 then emptyM 4194304 0 else oneM 4194304 k nm ⟨catB ps k, 0, true⟩

section
variable {w w' : World} {own own' : Owner} {db fb rb : Nat} {D D' E E' : DataW Unit} {n n' : Nat} {m : DevM}

theorem gM_append {nm : List UInt8} {ps : List ByteArray} {k : Nat} {s : ByteArray} (h : Dev True w own db fb rb D E n (gM nm ps k)) (hn : nameOk nm = true) (hs : ps[k]? = some s) (hl : (catB ps (k + 1)).length < 20000) :
    appendM (gM nm ps k) (Maps.size D) (usedD D (gM nm ps k).files) nm s.data.toList = (gM nm ps (k + 1), 0) := by
  rw [catB_succ hs, List.length_append] at hl
  by_cases hk : k = 0
  · subst hk
    have e0 : gM nm ps 0 = emptyM 4194304 0 := rfl
    rw [e0] at h ⊢
    rw [(h.size_empty).1, (h.size_empty).2, append_empty hn (by omega) (by omega)]
    simp [gM, catB_succ hs, catB_zero]
  · have e0 : gM nm ps k = oneM 4194304 k nm ⟨catB ps k, 0, true⟩ := if_neg hk
    rw [e0] at h ⊢
    have h3 := (h.size_one).2.1
    rw [(h.size_one).1, h3, append_one hn (by simp only; omega) (by simp only; omega)]
    have e1 : gM nm ps (k + 1) = oneM 4194304 ((k + 1 : Nat) : Int) nm ⟨catB ps (k + 1), 0, true⟩ := if_neg (by omega)
    rw [e1, catB_succ hs]
    rfl

end

theorem crashF_settled (ks : List (ByteArray × Int)) (k d : List UInt8) : crashF ks k ⟨d, d.length, false⟩ = some ⟨d, d.length, false⟩ := by
  have e1 : cutK ks k ⟨d, d.length, false⟩ = d.length := by simp only [cutK]; omega
  simp [crashF, e1]

theorem Step.below {own : Owner} {w w' : World} (h : Step (fun _ => none) own w w') : Below w.heap.size w w' := h.fr.to_below (Nat.le_refl _) (fun k _ => by simp)

/-- What the law's call leaves. -/
def Fine (w : World) (e : Ending) (w' : World) : Prop := e = .returned (.bool true) ∧ Below w.heap.size w w'

end Go.Proofs.Yteonkojfnmbpoaa
namespace Go.Proofs.Yteonkojfnmbpoaa
open Go.RowKit Go.Lib Go.Maps Go.ChangeMaps

/-- A call, as it was handed in. -/
structure OpV where
  what : Int
  name : ByteArray
  ba : Option Addr
  bc : Nat
  bs : List UInt8
  n : Int
  ka : Option Addr
  kc : Nat
  ks : List (ByteArray × Int)

/-- The field f of the struct at place j of a row of structs of s cells. -/
def fld (A : Addr) (s j f : Nat) : Addr := ⟨(A.add (j * s)).block, (A.add (j * s)).off + f, none⟩

structure OAt (w : World) (A : Addr) (j : Nat) (o : OpV) : Prop where
  c0 : w.cell? (A.add (j * 5)) = some (.int .i64 o.what)
  c1 : w.cell? (fld A 5 j 1) = some (.string o.name)
  c2 : w.cell? (fld A 5 j 2) = some (.slice o.ba o.bs.length o.bc)
  c3 : w.cell? (fld A 5 j 3) = some (.int .i64 o.n)
  c4 : w.cell? (fld A 5 j 4) = some (.slice o.ka o.ks.length o.kc)
  hname : o.name.size ≤ maxLen
  hwhat : (Lit.int .i64 o.what).wf = true
  hn : (Lit.int .i64 o.n).wf = true
  hbl : o.bs.length ≤ maxLen
  hkl : o.ks.length ≤ maxLen
  hb : BArg w (fun _ => none) (.slice o.ba o.bs.length o.bc) o.bs
  hk : KArg w (fun _ => none) (.slice o.ka o.ks.length o.kc) o.ks

def ORow (w : World) (a : Option Addr) (os : List OpV) : Prop := ∀ j o, os[j]? = some o → ∃ A, a = some A ∧ OAt w A j o

theorem OAt.below {w w' : World} {A : Addr} {j : Nat} {o : OpV} (h : OAt w A j o) (hb : Below w.heap.size w w') : OAt w' A j o where
  c0 := (hb.cell (World.block_lt_of_cell? _ _ h.c0)).trans h.c0
  c1 := (hb.cell (World.block_lt_of_cell? _ _ h.c1)).trans h.c1
  c2 := (hb.cell (World.block_lt_of_cell? _ _ h.c2)).trans h.c2
  c3 := (hb.cell (World.block_lt_of_cell? _ _ h.c3)).trans h.c3
  c4 := (hb.cell (World.block_lt_of_cell? _ _ h.c4)).trans h.c4
  hname := h.hname
  hwhat := h.hwhat
  hn := h.hn
  hbl := h.hbl
  hkl := h.hkl
  hb := h.hb.step (below_step _ hb)
  hk := h.hk.step (below_step _ hb)

theorem ORow.below {w w' : World} {a : Option Addr} {os : List OpV} (h : ORow w a os) (hb : Below w.heap.size w w') : ORow w' a os := fun j o hj => by
  obtain ⟨A, h1, h2⟩ := h j o hj
  exact ⟨A, h1, h2.below hb⟩

/-- What Great leaves. -/
def GreatPost (w : World) (l : Nat) (e : Ending) (w' : World) : Prop := ∃ g, e = .returned (.bool g) ∧ (g = false → l ≤ 300) ∧ Below w.heap.size w w'

set_option maxHeartbeats 2000000 in
set_option maxRecDepth 100000 in
theorem great_calls (a : Option Addr) (c : Nat) (os : List OpV) (w : World) (hos : ORow w a os) (hl : os.length ≤ maxLen) :
    Calls Try.prog 5 #[.slice a os.length c] w (GreatPost w os.length) := by
  have Hos := Lib.hid hos
  obtain ⟨l, hll⟩ : ∃ l, os.length = l := ⟨_, rfl⟩
  rw [hll] at hl ⊢
  have Hl := Lib.hid hll
  unfold maxLen at hl
  clear hos hll
  go_enter Try.func5, Try.ntmps5
  go_wp2_with fail
  go_loopw [3, 4] (fun n i wr => ∃ (k : Nat) (x : Int), k ≤ l ∧ i = .int .i64 k ∧ n = .int .i64 x ∧ Hid (Below w.heap.size w wr)) (fun _ i _ => l - (intOf i).toNat)
  case atStart => exact ⟨0, l, Nat.zero_le _, rfl, rfl, Below.refl _ _⟩
  case round =>
    obtain ⟨k, x, hk, rfl, rfl, Hb⟩ := hrel
    by_cases hgo : k < l ∧ x < 20000
    · obtain ⟨hlt, hx⟩ := hgo
      obtain ⟨o, ho⟩ : ∃ o, os[k]? = some o := ⟨_, List.getElem?_eq_getElem (by rw [Hl.out]; exact hlt)⟩
      obtain ⟨what, name, ba, bc, bs, on, ka, kc, ks⟩ := o
      obtain ⟨A, rfl, hat0⟩ := Hos.out k _ ho
      have hat := hat0.below Hb.out
      have c1 := hat.c1
      have c2 := hat.c2
      dsimp only at c1 c2
      have hd : decide (x < 20000) = true := by simpa using hx
      have Hat := Lib.hid hat
      unfold fld at c1 c2
      clear ho hat0 hat
      have hk0 : (0 : Int) ≤ (k : Int) := by omega
      have hk1 : (k : Int) < (l : Int) := by omega
      go_wp2_with fail
      go_quiet (fail)
      have Hb1 : Hid (Below w.heap.size w (wr.drewN nq)) := below_drewN Hb.out _
      have hatq := Hat.out.below (below_drewN (Below.refl _ wr) nq)
      have c4q := hatq.c4
      unfold fld at c4q
      dsimp only at c4q
      have HK := Lib.hid hatq.hk
      have hkl := hatq.hkl
      unfold maxLen at hkl
      dsimp only at hkl HK
      obtain ⟨lk, hlk⟩ : ∃ lk, ks.length = lk := ⟨_, rfl⟩
      rw [hlk] at c4q hkl HK
      have Hlk := Lib.hid hlk
      clear hatq c1 c2 hlk
      go_wp2_with fail
      go_loop [3, 5] (fun n i => ∃ (q : Nat) (y : Int), q ≤ lk ∧ i = .int .i64 q ∧ n = .int .i64 y) (fun _ i => lk - (intOf i).toNat)
      case atStart => exact ⟨0, _, Nat.zero_le _, rfl, rfl⟩
      case round =>
        obtain ⟨q, y, hq, rfl, rfl⟩ := hrel
        by_cases hgo2 : q < lk ∧ y < 20000
        · obtain ⟨hlt2, hy⟩ := hgo2
          obtain ⟨KA, rfl, hks⟩ : ∃ KA, ka = some KA ∧ KRow (wr.drewN nq) KA ks := by
            rcases HK.out with ⟨_, e⟩ | ⟨KA, kc', e, _, h⟩
            · rw [e] at Hlk
              have := Hlk.out
              simp at this
              omega
            · injection e with e1 e2 e3
              exact ⟨KA, e1, h⟩
          obtain ⟨⟨s, v⟩, hqs⟩ : ∃ z, ks[q]? = some z := ⟨_, List.getElem?_eq_getElem (by rw [Hlk.out]; exact hlt2)⟩
          have g0 := (hks q s v hqs).1
          have hdy : decide (y < 20000) = true := by simpa using hy
          clear hqs hks
          go_wp2
          go_round
          case rel => exact ⟨q + 1, _, by omega, by go_num, rfl⟩
          case measure => simp [intOf]; omega
        · by_cases hlt2 : q < lk
          · have hdy : decide (y < 20000) = false := by simp; omega
            go_wp2
            go_roundw
            case rel => exact ⟨k + 1, _, by omega, by go_num, rfl, Hb1⟩
            case measure => simp [intOf]; omega
          · go_wp2
            go_roundw
            case rel => exact ⟨k + 1, _, by omega, by go_num, rfl, Hb1⟩
            case measure => simp [intOf]; omega
    · by_cases hbig : 20000 ≤ x
      · have hd2 : decide (x < 20000) = false := by simp; omega
        have hd3 : decide ((20000 : Int) ≤ x) = true := by simpa using hbig
        by_cases hlt : k < l
        all_goals
          go_wp2
          go_ret
          exact ⟨true, rfl, fun h => Bool.noConfusion h, Hb.out⟩
      · have hd3 : decide ((20000 : Int) ≤ x) = false := by simp; omega
        by_cases h300 : 300 < l
        · have hd4 : decide ((300 : Int) < (l : Int)) = true := by simp; omega
          go_wp2
          go_ret
          exact ⟨true, rfl, fun h => Bool.noConfusion h, Hb.out⟩
        · have hd4 : decide ((300 : Int) < (l : Int)) = false := by simp; omega
          go_wp2
          go_ret
          exact ⟨false, rfl, fun _ => by omega, Hb.out⟩

end Go.Proofs.Yteonkojfnmbpoaa
