/- Crash of a device. -/
import Derived.Test.YtgkhnimdlkdaaaaDE
import Derived.IntWalk
import Derived.Lib.MinMax
import Derived.BigRegion
namespace Go.Proofs.Ytgkhnimdlkdaaaa
open Go.RowKit Go.Lib Go.Maps Go.ChangeMaps

section
variable {S : Prop} {w w' : World} {own own' : Owner} {db fb rb : Nat} {D D' E E' : DataW Unit} {n n' : Nat} {m : DevM}

theorem FirstAt.turn {H : Type} {P : Program} {kt : TypeId} {R : Value → Option (DataW H × List MemPlace)} {b r nn cnt : Nat} {DD : DataW H} {left : Lit → Bool} {B bx : Nat} {ks : List (ByteArray × Int)}
    (h : FirstAt w B bx ks) (hrg : w.ranges P kt R b r nn DD left cnt) (hg : w.grownBy w' (some r)) : FirstAt w' B bx ks := by
  obtain ⟨mb, c, D, h1, h2, hx, hown, h3⟩ := h
  obtain ⟨es, clock, since, seen, c0, _, _, _, _, hr, _⟩ := hrg
  refine ⟨mb, c, D, h1, h2, hg.cell hx (fun e => ?_), hown.kept hg (fun e => ?_), h3⟩
  · injection e with e
    change bx = r at e
    subst e
    simp [World.cell?, hr] at hx
  · injection e with e
    subst e
    obtain ⟨es', clock', h5, _⟩ := hown
    rw [hr] at h5
    cases h5

theorem drew_below (w : World) : Below w.heap.size w w.drew := (Below.refl _ _).drew
theorem drew_grown (w : World) : w.grownBy w.drew none := ⟨(drew_below w).os, (drew_below w).tape, (drew_below w).output, (drew_below w).size, fun k hk _ => (drew_below w).block k hk⟩
theorem drew_step (own : Owner) (w : World) : Step own own w w.drew := Step.of_fr (Fr.of_below (drew_below w))
theorem Dev.drew (h : Dev S w own db fb rb D E n m) : Dev S w.drew own db fb rb D E n m := h.fr (T := fun _ => False) (Fr.of_below (drew_below w)) (fun _ _ h => h)

theorem Dev.weak (h : Dev S w own db fb rb D E n m) : Dev False w own db fb rb D E n m where
  blk := h.blk
  fmap := h.fmap
  rmap := h.rmap
  cnt := h.cnt
  dom := h.dom
  rdom := h.rdom
  rback := fun hF => hF.elim
  fil := h.fil
  rem := h.rem
  odb := h.odb
  ofb := h.ofb
  orb := h.orb
  old := h.old
  rroom := h.rroom
  rfuse := h.rfuse
  racts := h.racts

theorem Dev.fmap_sz (h : Dev S w own db fb rb D E n m) : ∃ c, w.ownsMap Try.prog 9 ptrR fb c D ∧ c = Maps.size D := by
  obtain ⟨c0, es, clock, h1, h2, h3, h4⟩ := h.fmap
  exact ⟨es.size, ⟨es, clock, h1, h2, Nat.le_refl _, h4⟩, by rw [h4]; simp [Maps.size, length_sorted]⟩

set_option maxHeartbeats 2000000 in
set_option maxRecDepth 100000 in
theorem Dev.crash (h : Dev S w own db fb rb D E n m) (hS : S) (hn : n ≤ 1000000000000) {kv : Value} {ks : List (ByteArray × Int)} (hk : KArg w own kv ks) (hkl : ks.length ≤ 1000000000000) :
    Calls Try.prog 26 #[.pointer (some ⟨db, 0, none⟩), kv] w fun e w' => e = .returned (.tuple #[]) ∧ ∃ own' D', Dev S w' own' db fb rb D' (.map []) n (crashM ks m) ∧ Step own own' w w' := by
  have H0 : Hid (Dev S w own db fb rb D E n m) := h
  have Hold : Hid (∀ b, w.heap.size ≤ b → own b = none) := h.old
  have Hk := Lib.hid hk
  clear h hk
  go_enter Try.func26, Try.ntmps26
  go_wp2_with fail
  refine (firstOf_calls Hk.out hkl).mono ?_
  rintro e w1 ⟨bx, rfl, hfa, hb1⟩
  have HF1 := Lib.hid hfa
  have H1 : Hid (Dev S w1 own db fb rb D E n m) := H0.out.fr (T := fun _ => False) (Fr.of_below hb1) (fun _ _ h => h)
  have ST1 : Hid (Step own own w w1) := Step.of_fr (Fr.of_below hb1)
  clear hfa hb1
  have c1 := H1.out.c1
  obtain ⟨c, hc⟩ := H1.out.fmap
  go_wp2_with (first
    | (at_range; refine wpList_range_own _ rfl _ 62 rfl 9 61 lawS Try.underlying62 _ fb c _ rfl hc ?_; intro w0 hrg0 hg0 hs0)
    | fail)
  clear hc c1
  go_frame
  go_loopw [5] (fun _ wr => ∃ (left : Lit → Bool) (cnt : Nat) (D1 : DataW Unit), wr.ranges Try.prog 9 ptrR fb w1.heap.size c D1 left cnt ∧ Hid (Dev S wr own db fb rb D1 E n { m with files := crashL ks left m.files }) ∧ Hid (Step own own w wr) ∧ Hid (∀ k, left (.string k) = true → Maps.has D1 (.string k) = true) ∧ Hid (FirstAt wr w.heap.size bx ks))
    (fun _ wr => wr.rangeLeft fb w1.heap.size)
  case atStart =>
    have e1 : crashL ks (Maps.has D) m.files = m.files := by
      funext k
      cases hk : m.files k with
      | none => simp [crashL, hk]
      | some f => simp [crashL, hk, H1.out.dom k]
    have st0 : Step own own w1 w0 := Step.of_fr ((Fr.refl _ _).grown hg0 (fun k hk _ => by cases hk))
    refine ⟨_, _, D, hrg0, ?_, ST1.out.trans st0, fun k hk => hk, HF1.out.step st0 Hold.out⟩
    rw [e1]
    exact H1.out.kept hg0.size (fun b hb => hg0.block b (H1.out.lt hb) (by simp))
  case round =>
    obtain ⟨left, cnt, D1, hrg, HD, HS, Hl, HF⟩ := hrel
    go_wp2_with (first
      | (at_next; refine wpList_next_files _ rfl _ rfl fb w1.heap.size c _ _ _ rfl hrg (fun k hk => HD.out.ptrs k (Hl.out _ hk)) ?_ ?_)
      | fail)
    · intro _ hl0
      have Hl0 := Lib.hid hl0
      clear hl0
      have d2 := HD.out.c2
      obtain ⟨c2, hc2⟩ := HD.out.rmap
      go_wp2_with (first
        | (at_range; refine wpList_range_own _ rfl _ 63 rfl 9 31 lawS Try.underlying63 _ rb c2 _ rfl hc2 ?_; intro w3 hrg3 hg3 hs3)
        | fail)
      clear hc2 d2
      have HD0 : Hid (Dev False w3 own db fb rb D1 E n { m with files := crash1 ks m.files }) := by
        have h5 := HD.out.weak
        have e1 : crashL ks left m.files = crash1 ks m.files := by
          funext k
          simp [crashL, crash1, Hl0.out]
        simp only [e1] at h5
        exact h5.kept hg3.size (fun b hb => hg3.block b (h5.lt hb) (by simp))
      have HS0 : Hid (Step own own w w3) := HS.out.trans (Step.of_fr ((Fr.refl _ _).grown hg3 (fun k hk _ => by cases hk)))
      have Hrz : Hid (w.heap.size ≤ wr.heap.size) := HS.out.fr.size
      have Hr0 : Hid (own wr.heap.size = none) := HD.out.old _ (Nat.le_refl _)
      clear hrg
      go_frame
      go_loopw [8] (fun _ wq => ∃ (left2 : Lit → Bool) (cnt2 : Nat) (own2 : Owner) (D2 : DataW Unit) (nn : Nat), wq.ranges Try.prog 9 slR rb wr.heap.size c2 E left2 cnt2 ∧ Hid (Dev False wq own2 db fb rb D2 E nn { m with files := backL left2 m.gone (crash1 ks m.files), gone := goneL left2 m.gone }) ∧
          Hid (Step own own2 w wq) ∧ Hid (∀ k, left2 (.string k) = true → Maps.has E (.string k) = true) ∧ Hid (Maps.size D2 + cnt2 ≤ n) ∧ Hid (own2 wr.heap.size = none) ∧ Hid (wr.heap.size < wq.heap.size))
        (fun _ wq => wq.rangeLeft rb wr.heap.size)
      case atStart =>
        have e1 : backL (Maps.has E) m.gone (crash1 ks m.files) = crash1 ks m.files := by
          funext k
          cases hk : m.gone k with
          | none => simp [backL, hk]
          | some d => simp [backL, H0.out.rdom k (by simp [hk])]
        have e2 : goneL (Maps.has E) m.gone = m.gone := by
          funext k
          cases hk : m.gone k with
          | none => simp [goneL, hk]
          | some d => simp [goneL, hk, H0.out.rdom k (by simp [hk])]
        refine ⟨_, _, own, D1, n, hrg3, ?_, HS0, fun k hk => hk, HD.out.cnt, Hr0, by show wr.heap.size < w3.heap.size; omega⟩
        rw [e1, e2]
        exact HD0
      case round =>
        obtain ⟨left2, cnt2, own2, D2, nn, hrg2, HD2, HS2, Hl2, Hc2, Hr2, Hlt2⟩ := hrel
        have d1 := HD2.out.c1
        go_wp2_with (first
          | (at_next; refine wpList_next_rem _ rfl _ rfl rb _ c2 _ _ _ rfl hrg2 ?_ ?_)
          | fail)
        · intro _ hl2
          have e1 : backL left2 m.gone (crash1 ks m.files) = crashFiles ks m := by
            funext k
            simp [backL, hl2, crashFiles, crash1]
          have e2 : goneL left2 m.gone = fun _ => none := by
            funext k
            simp [goneL, hl2]
          have h5 := HD2.out
          simp only [e1, e2] at h5
          have hset := h5.settle (S' := S)
          have Hc0 := Lib.hid Hc2.out
          clear h5 e1 e2 hl2
          go_wp2_with fail
          refine hset.mono ?_
          rintro e w6 ⟨rfl, h6, st6⟩
          have f4 := h6.c4
          have f5 := h6.c5
          have g4 := h6.f 4
          have g5 := h6.f 5
          have H6 := Lib.hid h6
          have ST6 := Lib.hid st6
          clear h6 st6
          go_wp2_with fail
          go_end0
          refine ⟨rfl, own2, D2, ?_, (HS2.out.trans ST6.out).trans (Step.of_fr (((Fr.refl _ _).setCell _ _ (fun _ => by simp [H6.out.odb])).setCell _ _ (fun _ => by simp [H6.out.odb])))⟩
          have h7 := H6.out.setBlk (w' := (w6.setCell ⟨db, 4, none⟩ (.int .i64 (-1))).setCell ⟨db, 5, none⟩ (.bool false)) (acts := m.acts) (fuse := -1) (down := false) (by simp [World.setCell]) (fun b _ hne => (Below.heap_setCell _ _ _ _ hne).trans (Below.heap_setCell _ _ _ _ hne)) (setCell_blk (setCell_blk H6.out.blk _) _) H6.out.racts (by omega)
          exact { h7 with cnt := by have := Hc0.out; simp [Maps.size] at this ⊢; omega }
        · intro x sa sl sc w4 cnt3 hx hlx hslR hat hrg4 hlt4 hg4 hs4 hen4
          have hhas := Hl2.out _ hlx
          obtain ⟨d, hgd⟩ := Option.isSome_iff_exists.1 (H0.out.rback hS _ hhas)
          have HD4 : Hid (Dev False w4 own2 db fb rb D2 E nn { m with files := backL left2 m.gone (crash1 ks m.files), gone := goneL left2 m.gone }) := HD2.out.kept hg4.size (fun b hb => hg4.block b (HD2.out.lt hb) (fun e => by injection e with e; subst e; exact hb Hr2.out))
          have HS4 : Hid (Step own own2 w w4) := ⟨⟨hg4.os.trans HS2.out.fr.os, hg4.tape.trans HS2.out.fr.tape, hg4.output.trans HS2.out.fr.output, by rw [hs4]; exact HS2.out.fr.size, fun i hi hn => (hg4.block i (Nat.lt_of_lt_of_le hi HS2.out.fr.size) (fun e => by injection e with e; have := Hrz.out; omega)).trans (HS2.out.fr.block i hi hn)⟩, HS2.out.own⟩
          have d4 := HD4.out.c1
          have d4' : (w4.alloc (.cells #[.slice sa sl sc, .int .i64 0, .bool false] 68)).cell? ⟨db, 1, none⟩ = some (.map (some fb)) := by rw [World.cell?_alloc_lt _ _ _ (World.block_lt_of_cell? _ _ d4)]; exact d4
          obtain ⟨cc, hcc, hcs⟩ := HD4.out.fmap_sz
          have hccn : cc < maxLen := by have := Hc2.out; unfold maxLen; omega
          have hcc2 := hcc.alloc (.cells #[.slice sa sl sc, .int .i64 0, .bool false] 68)
          have hkey := WideMaps.keyOf_string_mk Try.underlying9 hx
          have Hcc2 := Lib.hid hcc2
          have Hcs := Lib.hid hcs
          have Hgd := Lib.hid hgd
          have Hat := Lib.hid hat
          have Hsl := Lib.hid hslR
          have Hb4 := Lib.hid (step_back hgd hlx (files := crash1 ks m.files))
          have Hfb : Hid (fb < w4.heap.size) := hcc.lt
          have Hg4 := Lib.hid hg4
          have Hs4 := Lib.hid hs4
          clear hcc hcc2 hcs hgd hat hslR hhas d1 hg4 hs4
          go_wp2_with (first
            | (at_mapUpdate; refine wpList_mapUpdate_own _ rfl _ _ _ 62 rfl 9 61 lawS Try.underlying62 ptrR fb cc D2 rfl Hcc2.out hccn (.string x) (.pointer (some ⟨w4.heap.size, 0, none⟩)) _ rfl rfl hkey (.lit (.int .u64 (w4.heap.size : Nat))) [] rfl ?_; intro w5 hown5 hg5; go_frame)
            | fail)
          have hp4 : w5.heap[w4.heap.size]? = some (.cells #[.slice sa sl sc, .int .i64 0, .bool false] 68 (0, 0)) := by
            rw [hg5.block _ (by simp) (by have := Hfb.out; simp; omega)]
            exact heap_alloc_new w4 _
          have hW5 : ∀ b, b < w4.heap.size → b ≠ fb → w5.heap[b]? = w4.heap[b]? := fun b hb hne => by
            rw [hg5.block b (by simp; omega) (by simpa using hne)]
            exact Below.heap_alloc w4 _ _ hb
          have hz5 : w4.heap.size < w5.heap.size := by have := hg5.size; simp at this; omega
          obtain ⟨own5, h5, hown5', hsz5⟩ := HD4.out.restore (n' := nn + 1) Hb4.out.1 rfl Hat.out Hsl.out hW5 hz5 hp4 hown5 (Nat.lt_succ_self _)
          have st5 : Step own2 own5 w4 w5 := ⟨⟨hg5.os, hg5.tape, hg5.output, by omega, fun i hi hn' => hW5 i hi (fun e => hn' (by subst e; simp [HD4.out.ofb]))⟩, hown5'⟩
          have H5 : Hid (Dev False w5 own5 db fb rb (D2.put (.string x.data.toList) (.lit (.int .u64 (w4.heap.size : Nat)))) E (nn + 1) { m with files := backL (fun z => left2 z && !z.sameKey (.string x.data.toList)) m.gone (crash1 ks m.files), gone := goneL (fun z => left2 z && !z.sameKey (.string x.data.toList)) m.gone }) := by
            have e1 := Hb4.out.2
            have e2 := goneL_step (left := left2) (gone := m.gone) (k := x.data.toList)
            simp only [e1, e2] at h5
            exact h5
          have HS5 := Lib.hid (HS4.out.trans st5)
          have hrb4 := HD4.out.orb
          have hrg5 : w5.ranges Try.prog 9 slR rb _ c2 E _ cnt3 := (hrg4.alloc (.cells #[.slice sa sl sc, .int .i64 0, .bool false] 68)).kept hg5 (fun e => by injection e with e; rw [e, HD4.out.ofb] at hrb4; simp at hrb4) (fun e => by injection e with e; have h9 := HD4.out.ofb; rw [← e, Hr2.out] at h9; cases h9)
          have Hc5 : Hid (Maps.size (D2.put (.string x.data.toList) (.lit (.int .u64 (w4.heap.size : Nat)))) + cnt3 ≤ n) := by have := Hc2.out; show _ ≤ _; omega
          have Hr5 := Lib.hid (hown5' _ (by have := Hlt2.out; have := Hs4.out; omega) Hr2.out)
          have Hl5 : Hid (∀ k, (left2 (.string k) && !(Lit.string k).sameKey (.string x.data.toList)) = true → Maps.has E (.string k) = true) := fun k hk => by
            simp only [Bool.and_eq_true] at hk
            exact Hl2.out k hk.1
          clear h5 hp4 hW5 hown5' st5 hrb4
          go_roundw
          case rel => exact ⟨_, cnt3, own5, _, nn + 1, hrg5, H5, HS5, Hl5, Hc5, Hr5, by have := Hlt2.out; have := Hs4.out; show _ < _; omega⟩
          case measure => rw [hrg5.left_eq, hrg2.left_eq]; exact hlt4
    · intro x p w2 cnt1 hx hlx hat hrg1 hlt hg1 hs1 hen
      have hrfree : own w1.heap.size = none := H1.out.old _ (Nat.le_refl _)
      have HD1 : Hid (Dev S w2 own db fb rb D1 E n { m with files := crashL ks left m.files }) := HD.out.kept hg1.size (fun b hb => hg1.block b (HD.out.lt hb) (fun e => by injection e with e; subst e; exact hb hrfree))
      have HS1 : Hid (Step own own w w2) := ⟨⟨hg1.os.trans HS.out.fr.os, hg1.tape.trans HS.out.fr.tape, hg1.output.trans HS.out.fr.output, by rw [hs1]; exact HS.out.fr.size, fun i hi hn => (hg1.block i (Nat.lt_of_lt_of_le hi HS.out.fr.size) (fun e => by injection e with e; have := ST1.out.fr.size; omega)).trans (HS.out.fr.block i hi hn)⟩, fun _ _ h => h⟩
      have HF2 : Hid (FirstAt w2 w.heap.size bx ks) := HF.out.turn hrg hg1
      have hhas := Hl.out _ hlx
      have hsome := HD.out.dom x.data.toList
      rw [hhas] at hsome
      obtain ⟨f, hfl⟩ := Option.isSome_iff_exists.1 hsome.symm
      have hfl2 : crashL ks left m.files x.data.toList = some f := hfl
      have hf : m.files x.data.toList = some f := by simpa [crashL, hlx] using hfl2
      obtain ⟨p', dv, h1, hfa, hp, hg⟩ := HD1.out.fil _ _ hfl
      obtain rfl : p' = p := by
        have := (h1 .nil).symm.trans (hat .nil)
        simp at this
        omega
      obtain ⟨a, l, c', rfl⟩ : ∃ a l c, dv = .slice a l c := by
        rcases hfa.2.1.2 with ⟨rfl, _⟩ | ⟨g, cap, cur, rfl, _⟩ <;> exact ⟨_, _, _, rfl⟩
      obtain ⟨hll, hlc, _⟩ := take_row (k := f.synced) hfa.2.1 hfa.2.2.1
      subst hll
      have p0 : w2.cell? ⟨p', 0, none⟩ = some (.slice a f.data.length c') := cell_of_blk hfa.1 rfl
      have p1 : w2.cell? ⟨p', 1, none⟩ = some (.int .i64 f.synced) := cell_of_blk hfa.1 rfl
      have p2 : w2.cell? ⟨p', 2, none⟩ = some (.bool f.fresh) := cell_of_blk hfa.1 rfl
      have q0 : w2.frozen? ⟨p', 0, none⟩ = false := frozen_of_blk hfa.1
      have hsl := hfa.2.2.1
      have hl18 := hfa.2.2.2
      have hcut := cutK_le ks x.data.toList f hsl
      obtain ⟨h5, st5⟩ := HD1.out.cut h1 hfa hp hg hcut.1 hcut.2
      have H5 := Lib.hid h5
      have ST5 := Lib.hid st5
      have d1 := HD1.out.c1
      have hkey := WideMaps.keyOf_string_mk Try.underlying9 hx
      have hrp : w1.heap.size ≠ p' := fun e => by rw [← e, hrfree] at hp; cases hp
      have hfp : fb ≠ p' := fun e => by have h9 := H1.out.ofb; rw [e, hp] at h9; simp at h9
      have hmany := many_calls HF2.out hx
      have HC : Hid (cutK ks x.data.toList f = f.synced + (min (max (manyK ks x.data.toList) 0) ((f.data.length : Int) - (f.synced : Int))).toNat) := rfl
      have HCF : Hid (crashF ks x.data.toList f = if f.fresh = true ∧ manyK ks x.data.toList < 0 then none else some ⟨f.data.take (cutK ks x.data.toList f), f.synced, f.fresh⟩) := rfl
      obtain ⟨M, hM⟩ : ∃ M, manyK ks x.data.toList = M := ⟨_, rfl⟩
      rw [hM] at hmany HC HCF
      have HM := Lib.hid hM
      have Hst := Lib.hid (crashL_step (ks := ks) (left := left) hf hlx)
      have Hfl := Lib.hid hfl2
      clear h5 st5 hfa hp hg hcut hM hfl hfl2 hsome hf hat h1
      obtain ⟨l, hl⟩ : ∃ l, f.data.length = l := ⟨_, rfl⟩
      obtain ⟨sy, hsy⟩ : ∃ sy, f.synced = sy := ⟨_, rfl⟩
      obtain ⟨fr, hfr⟩ : ∃ fr, f.fresh = fr := ⟨_, rfl⟩
      rw [hl, hsy] at HC
      rw [hl] at p0 hlc hl18 hsl
      rw [hsy] at p1 hsl
      rw [hfr] at p2 HCF
      have Hl2 := Lib.hid hl
      have Hsy := Lib.hid hsy
      have Hfr := Lib.hid hfr
      clear hl hsy hfr
      by_cases hdrop : fr = true ∧ M < 0
      · obtain ⟨rfl, hM0⟩ := hdrop
        have Hnone : Hid (crashF ks x.data.toList f = none) := HCF.out.trans (if_pos ⟨rfl, hM0⟩)
        go_wp2_with fail
        refine hmany.mono ?_
        rintro e w3 ⟨rfl, rfl⟩
        go_wp2_with (first
          | (at_delete; refine wpList_delete_ranges _ rfl _ _ 62 9 rfl 61 lawS Try.underlying62 _ fb w1.heap.size c _ _ _ rfl hrg1 _ _ rfl hkey ?_; intro w3 cnt2 hrg2 hle hturn; go_frame)
          | fail)
        rw [strike_twice] at hrg2
        have h6 := (HD1.out.del (k := x.data.toList) (by show (crashL ks left m.files x.data.toList).isSome = true; rw [Hfl.out]; rfl) hrg2.owns hturn).1
        have st6 : Step own own w2 w3 := Step.of_fr ((Fr.refl _ _).grown hturn.grown (fun k hk _ => by injection hk with hk; subst hk; simp [H1.out.ofb]))
        have H6 : Hid (Dev S w3 own db fb rb (D1.del (.string x.data.toList)) E n { m with files := crashL ks (fun z => left z && !z.sameKey (.string x.data.toList)) m.files }) := by
          have e1 := Hst.out
          rw [Hnone.out] at e1
          simp only [e1] at h6
          exact h6
        have Hl6 : Hid (∀ k, (left (.string k) && !(Lit.string k).sameKey (.string x.data.toList)) = true → Maps.has (D1.del (.string x.data.toList)) (.string k) = true) := fun k hk => by
          simp only [Bool.and_eq_true, Bool.not_eq_true'] at hk
          rw [Maps.has_del_other (fun e => by rw [e] at hk; simp [Lit.sameKey] at hk)]
          exact Hl.out k hk.1
        have HF6 := Lib.hid (HF2.out.step st6 Hold.out)
        have HS6 := Lib.hid (HS1.out.trans st6)
        clear h6 st6
        go_roundw
        case rel => exact ⟨_, cnt2, _, hrg2, H6, HS6, Hl6, HF6⟩
        case measure => rw [hrg2.left_eq, hrg.left_eq]; omega
      · have hnot : fr = false ∨ (fr = true ∧ 0 ≤ M) := by
          cases fr
          · exact Or.inl rfl
          · exact Or.inr ⟨rfl, by
              have : ¬ M < 0 := fun h => hdrop ⟨rfl, h⟩
              omega⟩
        have Hsome : Hid (crashF ks x.data.toList f = some ⟨f.data.take (cutK ks x.data.toList f), f.synced, f.fresh⟩) := (HCF.out.trans (if_neg hdrop)).trans (by rw [Hfr.out])
        have hT0 : (0 : Int) ≤ min (max M 0) ((l : Int) - (sy : Int)) := by omega
        have hT1 : (sy : Int) + min (max M 0) ((l : Int) - (sy : Int)) ≤ (l : Int) := by omega
        have hw1 : IntKind.i64.wrap ((l : Int) - (sy : Int)) = (l : Int) - (sy : Int) := IntWalk.i64_in _ (by omega)
        have hw2 : IntKind.i64.wrap ((sy : Int) + min (max M 0) ((l : Int) - (sy : Int))) = (sy : Int) + min (max M 0) ((l : Int) - (sy : Int)) := IntWalk.i64_in _ (by omega)
        clear hdrop
        have hN : cutK ks x.data.toList f = ((sy : Int) + min (max M 0) ((l : Int) - (sy : Int))).toNat := by rw [HC.out]; omega
        have Hrg6 : Hid ((w2.setCell ⟨p', 0, none⟩ (.slice a ((sy : Int) + min (max M 0) ((l : Int) - (sy : Int))).toNat c')).ranges Try.prog 9 ptrR fb w1.heap.size c D1 (fun z => left z && !z.sameKey (.string x.data.toList)) cnt1) :=
          hrg1.kept (grownBy_setCell w2 p' 0 _) (by simpa using hfp) (by simpa using hrp)
        have H6 : Hid (Dev S (w2.setCell ⟨p', 0, none⟩ (.slice a ((sy : Int) + min (max M 0) ((l : Int) - (sy : Int))).toNat c')) own db fb rb D1 E n { m with files := crashL ks (fun z => left z && !z.sameKey (.string x.data.toList)) m.files }) := by
          have e1 := Hst.out
          rw [Hsome.out] at e1
          have h6 := H5.out
          simp only [e1] at h6
          rw [hN] at h6
          exact h6
        have st6 := ST5.out
        rw [hN] at st6
        have HF6 := Lib.hid (HF2.out.step st6 Hold.out)
        have HS6 := Lib.hid (HS1.out.trans st6)
        have Hl6 : Hid (∀ k, (left (.string k) && !(Lit.string k).sameKey (.string x.data.toList)) = true → Maps.has D1 (.string k) = true) := fun k hk => by
          simp only [Bool.and_eq_true] at hk
          exact Hl.out k hk.1
        clear hN st6
        rcases hnot with rfl | ⟨rfl, hM0⟩
        all_goals
          go_wp2_with fail
          refine hmany.mono ?_
          rintro e w3 ⟨rfl, rfl⟩
          go_wp2_with fail
          go_region
          clear hw1 hw2
          go_roundw
          case rel =>
            have h7 := H6.out.drew
            have h8 := HS6.out.trans (drew_step own _)
            have h9 := HF6.out.step (drew_step own _) Hold.out
            repeat apply Exists.intro
            exact ⟨⟨_, cnt1, D1, Hrg6.out.kept (drew_grown _) (by simp) (by simp), h7, h8, Hl6, h9⟩, rfl⟩
          case measure =>
            have e6 := (Hrg6.out.kept (drew_grown _) (by simp) (by simp)).left_eq
            rw [e6, hrg.left_eq]
            exact hlt

end
end Go.Proofs.Ytgkhnimdlkdaaaa
