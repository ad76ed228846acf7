/- Events: Equal of bytes; Get. -/
import Derived.Test.YtppgecbjdkfohaaECe
namespace Go.Proofs.Ytppgecbjdkfohaa
open Go.RowKit Go.Lib Go.Op

theorem strB_beq (a b : List UInt8) : ((strB a).toList == (strB b).toList) = decide (a = b) := by
  rw [strB_toL, strB_toL]
  by_cases h : a = b
  · rw [decide_eq_true h, beq_iff_eq]; exact h
  · rw [decide_eq_false h, beq_eq_false_iff_ne]; exact h

set_option maxRecDepth 100000 in
theorem bequal_calls (w : World) (u v : Value) (xs ys : List UInt8) (hu : BRow w u xs) (hv : BRow w v ys) :
    Calls Try.prog 62 #[u, v] w fun e w' => e = .returned (.bool (decide (xs = ys))) ∧ w = w' := by
  have h1 := conv_brow hu
  have h2 := conv_brow hv
  have h3 := strB_beq xs ys
  generalize strB xs = a at *
  generalize strB ys = b at *
  generalize decide (xs = ys) = r at *
  clear hu hv
  go_enter Try.func62, Try.ntmps62
  go_wp2
  go_ret
  exact ⟨rfl, rfl⟩

theorem pe_eq {p : PEv} {n : ByteArray} {vs : List VIn} (h1 : n.data.toList = p.name) (h2 : vs.map pv = p.vals) : pe p.ts p.dep p.seq n vs = p := by
  cases p
  simp only at h1 h2
  simp only [pe, h1, h2]

theorem readE_vals (b : List UInt8) : (readE b).vals.length ≤ 8 := by
  unfold readE
  simp only [valsD_len]
  omega

/-- What Get leaves of an event's bytes, and of what is none. -/
def GotPost (w : World) (p : PEv) (e : Ending) (w' : World) : Prop := ∃ (n : ByteArray) (a : Option Addr) (c : Nat) (vs : List VIn), e = .returned (.tuple #[evV p.ts p.dep p.seq n (.slice a vs.length c), .bool true]) ∧ n.data.toList = p.name ∧ n.size ≤ 16 ∧ vs.map pv = p.vals ∧ VRow w' a vs ∧ Below w.heap.size w w'
def NotPost (w : World) (e : Ending) (w' : World) : Prop := e = .returned (.tuple #[evV 0 0 0 ⟨#[]⟩ (.slice none 0 0), .bool false]) ∧ Below w.heap.size w w'
def GetE (w : World) (o : Option PEv) (e : Ending) (w' : World) : Prop := match o with
  | some p => GotPost w p e w'
  | none => NotPost w e w'

theorem GetE.none {w w' : World} {o : Option PEv} (h : o = none) (hb : Below w.heap.size w w') : GetE w o (.returned (.tuple #[evV 0 0 0 ⟨#[]⟩ (.slice none 0 0), .bool false])) w' := by
  rw [h]; exact ⟨rfl, hb⟩
theorem GetE.some {w w' : World} {o : Option PEv} {p : PEv} {n : ByteArray} {a : Option Addr} {c q : Nat} {vs : List VIn} (h : o = some p) (hq : vs.length = q) (h1 : n.data.toList = p.name ∧ n.size ≤ 16 ∧ vs.map pv = p.vals) (hr : VRow w' a vs) (hb : Below w.heap.size w w') : GetE w o (.returned (.tuple #[evV p.ts p.dep p.seq n (.slice a q c), .bool true])) w' := by
  rw [h, ← hq]; exact ⟨n, a, c, vs, rfl, h1.1, h1.2.1, h1.2.2, hr, hb⟩

theorem VRow.set {w : World} {a : Option Addr} {vs : List VIn} (h : VRow w a vs) {b i : Nat} (x : Value) (hs : ∀ A, a = some A → A.block ≠ b) : VRow (w.setCell ⟨b, i, none⟩ x) a vs := fun j y hj => by
  obtain ⟨A, h1, h2, h3, h4, h5⟩ := h j y hj
  have hne := hs A h1
  have key : ∀ q : Addr, q.block = A.block → (w.setCell ⟨b, i, none⟩ x).cell? q = w.cell? q := fun q hq => World.cell?_setCell_other _ _ _ _ (fun e => hne (by rw [← hq, ← e]))
  exact ⟨A, h1, (key _ (fadd_block _ _)).trans h2, (key (efld A 3 j 1) (fadd_block _ _)).trans h3, (key (efld A 3 j 2) (fadd_block _ _)).trans h4, h5⟩

theorem getE_of {bs : List UInt8} (h1 : rightE (readE bs) = true) (h2 : putE (readE bs) = bs) : getE bs = some (readE bs) := by
  unfold getE; rw [h1, h2]; simp
theorem getE_wrong {bs : List UInt8} (h : rightE (readE bs) = false) : getE bs = none := by
  unfold getE; rw [h]; rfl
theorem getE_unlike {bs : List UInt8} (h : putE (readE bs) ≠ bs) : getE bs = none := by
  unfold getE; rw [decide_eq_false h, Bool.and_false]; rfl

theorem le_of_size {w W : World} {o : Obj} (h : Below (w.heap.size + 1) (w.alloc o) W) : w.heap.size + 1 ≤ W.heap.size := by have := h.size; simpa using this

theorem zkeep {w W : World} (hb : Below (w.heap.size + 1) (w.alloc (.cells zeroC 25)) W) :
    W.cell? ⟨w.heap.size, 0, none⟩ = some (.int .i64 0) ∧ W.cell? ⟨w.heap.size, 1, none⟩ = some (.int .i64 0) ∧ W.cell? ⟨w.heap.size, 2, none⟩ = some (.int .i64 0) ∧ W.cell? ⟨w.heap.size, 3, none⟩ = some (.string ⟨#[]⟩) ∧ W.cell? ⟨w.heap.size, 4, none⟩ = some (.slice none 0 0) ∧ ∀ i : Nat, W.frozen? ⟨w.heap.size, i, none⟩ = false := by
  have k : ∀ {i : Nat} {x : Value}, zeroC[i]? = some x → W.cell? ⟨w.heap.size, i, none⟩ = some x := fun {i x} hx => (hb.cell (p := ⟨w.heap.size, i, none⟩) (by dsimp only; omega)).trans (new_cell _ _ _ rfl hx)
  exact ⟨k rfl, k rfl, k rfl, k rfl, k rfl, fun i => (hb.frozen (p := ⟨w.heap.size, i, none⟩) (by dsimp only; omega)).trans (new_frozen _ _ _ rfl)⟩

set_option maxHeartbeats 4000000 in
set_option maxRecDepth 100000 in
theorem eget_calls (w : World) (v : Value) (bs : List UInt8) (h : BRow w v bs) : Calls Try.prog 30 #[v] w (GetE w (getE bs)) := by
  obtain ⟨av, cv, rfl, hcl, hcm⟩ := h.len
  have hb0 : Below w.heap.size w (w.alloc (.cells zeroC 25)) := (Below.refl _ _).alloc (Nat.le_refl _) _
  have HRd := Lib.hid (eread_calls (w.alloc (.cells zeroC 25)) _ bs (h.below hb0))
  have HRow := Lib.hid h
  have HB0 := Lib.hid hb0
  have hwrong := fun h => getE_wrong (bs := bs) h
  have hof := fun h1 h2 => getE_of (bs := bs) h1 h2
  have hun := fun h => getE_unlike (bs := bs) h
  have h8 := readE_vals bs
  generalize readE bs = p at *
  obtain ⟨l, hl⟩ : ∃ l, bs.length = l := ⟨_, rfl⟩
  rw [hl] at HRd HRow ⊢
  clear h hb0 hcl hcm hl
  go_enter Try.func30, Try.ntmps30
  go_wp2_with fail
  refine HRd.out.mono ?_
  rintro _ w1 ⟨n, a, c, vs, rfl, hn1, hn2, hvs, hrow, hsep, hb1⟩
  have HSep : Hid (∀ A, a = some A → A.block ≠ w.heap.size) := fun A hA => by have := hsep A hA; simp at this; omega
  have hpe := pe_eq hn1 hvs
  have hv8 : vs.length ≤ 8 := by
    have := congrArg List.length hvs
    rw [List.length_map] at this
    omega
  have hvl : vs.length ≤ maxLen := by unfold maxLen; omega
  have hnl : n.size ≤ maxLen := by unfold maxLen; omega
  have HR := Lib.hid (eright_calls p.ts p.dep p.seq n a c vs (w1.alloc (.cells #[.int .i64 p.ts, .int .i64 p.dep, .int .i64 p.seq, .string n, .slice a vs.length c] 25)) hnl (hrow.below ((Below.refl _ _).alloc (Nat.le_refl _) _)) hvl)
  have HPt := Lib.hid (fun (W : World) (hb : Below w1.heap.size w1 W) => eput_calls p.ts p.dep p.seq n a c vs W hnl (hrow.below hb) hvl)
  rw [hpe] at HR HPt
  have HVr := Lib.hid hrow
  have HN := Lib.hid (And.intro hn1 (And.intro hn2 hvs))
  obtain ⟨q, hq⟩ : ∃ q, vs.length = q := ⟨_, rfl⟩
  have Hq := Lib.hid hq
  rw [hq] at HR HPt ⊢
  have HX1 : Hid (Below (w.heap.size + 1) (w.alloc (.cells zeroC 25)) (w1.alloc (.cells #[.int .i64 p.ts, .int .i64 p.dep, .int .i64 p.seq, .string n, .slice a q c] 25))) := (show Below (w.heap.size + 1) (w.alloc (.cells zeroC 25)) w1 by simpa using hb1).alloc (by have := hb1.size; simpa using this) _
  have HB1 : Hid (Below w.heap.size w w1) := HB0.out.trans (hb1.mono HB0.out.size)
  clear hrow hsep hn1 hn2 hvs hq hb1 hpe h8 hv8 hvl hnl
  cases hr : rightE p with
  | false =>
    have HE := Lib.hid (hwrong hr)
    rw [hr] at HR
    clear hwrong hof hun hr
    rw [HE.out]
    go_wp2_with (go_at_call 52; refine HR.out.mono ?_; rintro e w3 ⟨rfl, hb3⟩; have HX3 : Hid (Below (w.heap.size + 1) (w.alloc (.cells zeroC 25)) w3) := (HX1.out.trans (hb3.mono (le_of_size HX1.out))); obtain ⟨r0, r1, r2, r3, r4, rf⟩ := zkeep HX3.out; have f0 := rf 0; have f1 := rf 1; have f2 := rf 2; have f3 := rf 3; have f4 := rf 4; clear rf; have HB3 : Hid (Below w.heap.size w w3) := ((HB1.out.alloc HB1.out.size _).trans (hb3.mono (by have := HB1.out.size; simp; omega))); clear hb3)
    refine bodyPost_ret (v := .tuple #[evV 0 0 0 ⟨#[]⟩ (.slice none 0 0), .bool false]) (by simp [results, Try.results30, go_sem, r0, r1, r2, r3, r4]) rfl (GetE.none HE.out ?_)
    exact below5 HB3.out (Nat.le_refl _) _ _ _ _ _
  | true =>
    obtain ⟨y, hy⟩ : ∃ y, putE p = y := ⟨_, rfl⟩
    rw [hr] at HR
    rw [hy] at HPt hof hun
    have HHof := Lib.hid (hof hr)
    have HHun := Lib.hid hun
    clear hwrong hof hun hr hy
    go_wp2_with (first
      | (go_at_call 52; refine HR.out.mono ?_; rintro e w3 ⟨rfl, hb3⟩; have HX3 : Hid (Below (w.heap.size + 1) (w.alloc (.cells zeroC 25)) w3) := (HX1.out.trans (hb3.mono (le_of_size HX1.out))); have HB3 : Hid (Below w1.heap.size w1 w3) := (((Below.refl _ _).alloc (Nat.le_refl _) _).trans (hb3.mono (by simp))); have t0 : w3.cell? ⟨w1.heap.size, 0, none⟩ = some (.int .i64 p.ts) := ekeep hb3 (new_cell _ _ _ rfl rfl); have t1 : w3.cell? ⟨w1.heap.size, 1, none⟩ = some (.int .i64 p.dep) := ekeep hb3 (new_cell _ _ _ rfl rfl); have t2 : w3.cell? ⟨w1.heap.size, 2, none⟩ = some (.int .i64 p.seq) := ekeep hb3 (new_cell _ _ _ rfl rfl); have t3 : w3.cell? ⟨w1.heap.size, 3, none⟩ = some (.string n) := ekeep hb3 (new_cell _ _ _ rfl rfl); have t4 : w3.cell? ⟨w1.heap.size, 4, none⟩ = some (.slice a q c) := ekeep hb3 (new_cell _ _ _ rfl rfl); clear hb3)
      | (go_at_call 26; refine (HPt.out _ HB3.out).mono ?_; rintro e w4 ⟨v4, rfl, hown4, hb4⟩; have HX4 : Hid (Below (w.heap.size + 1) (w.alloc (.cells zeroC 25)) w4) := (HX3.out.trans (hb4.mono (le_of_size HX3.out))); have HB4 : Hid (Below w1.heap.size w1 w4) := (HB3.out.trans (hb4.mono HB3.out.size)); have HBW : Hid (Below w.heap.size w w4) := (HB1.out.trans (HB4.out.mono HB1.out.size)); have HEql := Lib.hid (bequal_calls w4 v4 _ y bs (BRow.of_owns hown4) (HRow.out.below HBW.out)); have u0 := ekeep hb4 t0; have u1 := ekeep hb4 t1; have u2 := ekeep hb4 t2; have u3 := ekeep hb4 t3; have u4 := ekeep hb4 t4; obtain ⟨r0, r1, r2, r3, r4, rf⟩ := zkeep HX4.out; have f0 := rf 0; have f1 := rf 1; have f2 := rf 2; have f3 := rf 3; have f4 := rf 4; clear rf hown4 hb4))
    by_cases he : y = bs
    · have HE := Lib.hid (HHof.out he)
      rw [decide_eq_true he] at HEql
      refine HEql.out.mono ?_
      rintro _ w5 ⟨rfl, rfl⟩
      have HV4 := Lib.hid (HVr.out.below HB4.out)
      go_wp2
      refine bodyPost_ret (v := .tuple #[evV p.ts p.dep p.seq n (.slice a q c), .bool true]) (by simp [results, Try.results30, go_sem, r0, r1, r2, r3, r4]) rfl (GetE.some HE.out Hq.out HN.out ?_ ?_)
      · iterate 5 (refine VRow.set ?_ _ HSep.out)
        exact HV4.out
      · exact below5 HBW.out (Nat.le_refl _) _ _ _ _ _
    · have HE := Lib.hid (HHun.out he)
      rw [decide_eq_false he] at HEql
      refine HEql.out.mono ?_
      rintro _ w5 ⟨rfl, rfl⟩
      go_wp2
      refine bodyPost_ret (v := .tuple #[evV 0 0 0 ⟨#[]⟩ (.slice none 0 0), .bool false]) (by simp [results, Try.results30, go_sem, r0, r1, r2, r3, r4]) rfl (GetE.none HE.out ?_)
      exact below5 HBW.out (Nat.le_refl _) _ _ _ _ _

end Go.Proofs.Ytppgecbjdkfohaa
