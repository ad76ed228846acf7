/- Events: Schema. -/
import Derived.Test.YtppgecbjdkfohaaE6e
namespace Go.Proofs.Ytppgecbjdkfohaa
open Go.RowKit Go.Lib Go.Op

/-- May that field be one, at its place? -/
def fieldOk (fs : List FIn) (i : Nat) : Bool := match fs[i]? with
  | some f => wordB f.1.data.toList && (decide (1 ≤ f.2 ∧ f.2 ≤ 3) && decide ((fieldI fs f.1).1 = (i : Int)))
  | none => true
def schemaB (nm : ByteArray) (fs : List FIn) : Bool := wordB nm.data.toList && (decide (fs.length ≤ 8) && (List.range fs.length).all (fieldOk fs))

theorem fieldOk_at {fs : List FIn} {i : Nat} {f : FIn} (h : fs[i]? = some f) : fieldOk fs i = (wordB f.1.data.toList && (decide (1 ≤ f.2 ∧ f.2 ≤ 3) && decide ((fieldI fs f.1).1 = (i : Int)))) := by unfold fieldOk; rw [h]

def OkTo (fs : List FIn) (k : Nat) : Prop := ∀ j, j < k → fieldOk fs j = true
theorem OkTo.step {fs : List FIn} {k : Nat} (h : OkTo fs k) (hk : fieldOk fs k = true) : OkTo fs (k + 1) := fun j hj => by
  by_cases e : j = k
  · rw [e]; exact hk
  · exact h j (by omega)
theorem OkTo.all {fs : List FIn} (h : OkTo fs fs.length) : (List.range fs.length).all (fieldOk fs) = true := by
  rw [List.all_eq_true]
  intro j hj
  exact h j (List.mem_range.1 hj)
theorem notOk {fs : List FIn} {k : Nat} (hk : k < fs.length) (h : fieldOk fs k = false) : (List.range fs.length).all (fieldOk fs) = false := by
  rw [List.all_eq_false]
  exact ⟨k, List.mem_range.2 hk, by simp [h]⟩

set_option maxHeartbeats 4000000 in
set_option maxRecDepth 100000 in
theorem schema_calls (nm : ByteArray) (a : Option Addr) (c : Nat) (fs : List FIn) (w : World) (hn : nm.size ≤ maxLen) (hf : FRow w a fs) (hl : fs.length ≤ maxLen) :
    Calls Try.prog 21 #[.agg #[.string nm, .slice a fs.length c]] w fun e w' => e = .returned (.bool (schemaB nm fs)) ∧ Below w.heap.size w w' := by
  have hb0 : Below w.heap.size w (w.alloc (.cells #[.string nm, .slice a fs.length c] 31)) := (Below.refl _ _).alloc (Nat.le_refl _) _
  have HW := Lib.hid (word_calls nm (w.alloc (.cells #[.string nm, .slice a fs.length c] 31)) hn)
  have HFd := Lib.hid (fun (name : ByteArray) (W : World) (hb : Below w.heap.size w W) => field_calls nm a c fs name W (hf.below hb) hl)
  have HF := Lib.hid hf
  unfold schemaB
  obtain ⟨l, hll⟩ : ∃ l, fs.length = l := ⟨_, rfl⟩
  have Hl := Lib.hid hll
  rw [hll] at HW HFd hl hb0 ⊢
  have HB0 := Lib.hid hb0
  unfold maxLen at hl
  clear hf hll hb0
  cases h1 : wordB nm.data.toList with
  | false =>
    rw [h1] at HW
    go_enter Try.func21, Try.ntmps21
    go_wp2_with (go_at_call 28; refine HW.out.mono ?_; rintro e w1 ⟨rfl, hb1⟩)
    go_ret
    exact ⟨rfl, HB0.out.trans (hb1.mono HB0.out.size)⟩
  | true =>
  rw [h1] at HW
  by_cases h8 : 8 < l
  · rw [decide_eq_false (show ¬ l ≤ 8 by omega)]
    go_enter Try.func21, Try.ntmps21
    go_wp2_with (go_at_call 28; refine HW.out.mono ?_; rintro e w1 ⟨rfl, hb1⟩; have x1 : w1.cell? ⟨w.heap.size, 1, none⟩ = some (.slice a l c) := ekeep hb1 (by simp))
    go_ret
    exact ⟨rfl, HB0.out.trans (hb1.mono HB0.out.size)⟩
  rw [decide_eq_true (show l ≤ 8 by omega), Bool.true_and, Bool.true_and]
  obtain ⟨res, hres⟩ : ∃ res, (List.range l).all (fieldOk fs) = res := ⟨_, rfl⟩
  have Hres := Lib.hid hres
  rw [hres]
  clear hres
  go_enter Try.func21, Try.ntmps21
  go_wp2_with (go_at_call 28; refine HW.out.mono ?_; rintro e w1 ⟨rfl, hb1⟩; have x0 : w1.cell? ⟨w.heap.size, 0, none⟩ = some (.string nm) := ekeep hb1 (by simp); have x1 : w1.cell? ⟨w.heap.size, 1, none⟩ = some (.slice a l c) := ekeep hb1 (by simp))
  have HB1 : Hid (Below w.heap.size w w1) := HB0.out.trans (hb1.mono HB0.out.size)
  have HX0 := Lib.hid x0
  have HX1 := Lib.hid x1
  clear hb1 x0 x1
  go_loopw [3, 4, 5, 6, 20] (fun y z u v i wr => ∃ k : Nat, i = .int .i64 k ∧ k ≤ l ∧ Hid (OkTo fs k) ∧ Hid (Below w1.heap.size w1 wr)) (fun _ _ _ _ i _ => l - (intOf i).toNat)
  case atStart => exact ⟨0, rfl, Nat.zero_le _, fun j hj => by omega, Below.refl _ _⟩
  case round =>
    obtain ⟨k, rfl, hk, HR, HB⟩ := hrel
    have HBw : Hid (Below w.heap.size w wr) := HB1.out.trans (HB.out.mono HB1.out.size)
    by_cases hlt : k < l
    · obtain ⟨x, hx⟩ : ∃ x, fs[k]? = some x := ⟨_, List.getElem?_eq_getElem (by rw [Hl.out]; exact hlt)⟩
      obtain ⟨A, rfl, c0, c1, hns⟩ := (HF.out.below HBw.out) k x hx
      have hok := fieldOk_at hx
      have HWx := Lib.hid (word_calls x.1 (wr.alloc (.cells #[.string x.1, .int .i64 x.2] 55)) hns)
      have HBx : Hid (Below w.heap.size w (wr.alloc (.cells #[.string x.1, .int .i64 x.2] 55))) := HBw.out.alloc HBw.out.size _
      unfold efld at c1
      have hstep := fun h => Lib.hid (HR.out.step (k := k) h)
      have hfail := fun h => Lib.hid ((notOk (fs := fs) (k := k) (by rw [Hl.out]; exact hlt) h).symm.trans (show _ = res by rw [Hl.out]; exact Hres.out))
      rw [hok] at hstep hfail
      obtain ⟨fn, kd⟩ := x
      dsimp only at c0 c1 HWx HBx hstep hfail
      have X0 := ekeep HB.out HX0.out
      have X1 := ekeep HB.out HX1.out
      have hlx0 := ekeepAl (.cells #[.string fn, .int .i64 kd] 55) X0
      have hlx1 := ekeepAl (.cells #[.string fn, .int .i64 kd] 55) X1
      have HFx := Lib.hid (HFd.out fn)
      generalize (fieldI fs fn) = fi at HFx hstep hfail
      obtain ⟨f1, f2⟩ := fi
      dsimp only at HFx hstep hfail
      clear hx hok hns
      cases hw : wordB fn.data.toList with
      | false =>
        have hno := hfail (by rw [hw]; rfl)
        rw [hw] at HWx
        clear hstep hfail
        go_wp2_with (go_at_call 28; refine HWx.out.mono ?_; rintro e w2 ⟨rfl, hb2⟩)
        go_ret
        exact ⟨by rw [← hno.out]; rfl, HBx.out.trans (hb2.mono HBx.out.size)⟩
      | true =>
      rw [hw] at HWx
      by_cases hkd : 1 ≤ kd ∧ kd ≤ 3
      · obtain ⟨hk1, hk3⟩ := hkd
        by_cases hfi : f1 = (k : Int)
        · have hst := hstep (by rw [hw, decide_eq_true ⟨hk1, hk3⟩, decide_eq_true hfi]; rfl)
          subst hfi
          clear hstep hfail
          go_wp2_with (first
            | (go_at_call 28; refine HWx.out.mono ?_; rintro e w2 ⟨rfl, hb2⟩; have z0 : w2.cell? ⟨wr.heap.size, 0, none⟩ = some (.string fn) := ekeep hb2 (by simp); have z1 : w2.cell? ⟨wr.heap.size, 1, none⟩ = some (.int .i64 kd) := ekeep hb2 (by simp); have z2 := ekeep hb2 hlx0; have z3 := ekeep hb2 hlx1; have HB2 : Hid (Below w.heap.size w w2) := HBx.out.trans (hb2.mono HBx.out.size); have HB2' : Hid (Below w1.heap.size w1 w2) := (HB.out.alloc HB.out.size _).trans (hb2.mono (by have := HB.out.size; simp; omega)); clear hb2)
            | (go_at_call 19; refine (HFx.out _ HB2.out).mono ?_; rintro e w3 ⟨rfl, hb3⟩))
          have HB3 : Hid (Below w1.heap.size w1 w3) := HB2'.out.trans (hb3.mono HB2'.out.size)
          go_roundw
          case rel => exact ⟨k + 1, by go_num, by omega, hst, HB3⟩
          case measure => simp [intOf]; omega
        · have hno := hfail (by rw [hw, decide_eq_true ⟨hk1, hk3⟩, decide_eq_false hfi]; rfl)
          have hd : (f1 != (k : Int)) = true := by rw [bne_iff_ne]; exact hfi
          clear hstep hfail
          go_wp2_with (first
            | (go_at_call 28; refine HWx.out.mono ?_; rintro e w2 ⟨rfl, hb2⟩; have z0 : w2.cell? ⟨wr.heap.size, 0, none⟩ = some (.string fn) := ekeep hb2 (by simp); have z1 : w2.cell? ⟨wr.heap.size, 1, none⟩ = some (.int .i64 kd) := ekeep hb2 (by simp); have z2 := ekeep hb2 hlx0; have z3 := ekeep hb2 hlx1; have HB2 : Hid (Below w.heap.size w w2) := HBx.out.trans (hb2.mono HBx.out.size); clear hb2)
            | (go_at_call 19; refine (HFx.out _ HB2.out).mono ?_; rintro e w3 ⟨rfl, hb3⟩))
          go_ret
          exact ⟨by rw [← hno.out]; rfl, HB2.out.trans (hb3.mono HB2.out.size)⟩
      · have hno := hfail (by rw [hw, decide_eq_false hkd]; rfl)
        clear hstep hfail
        by_cases hk1 : kd < 1
        · go_wp2_with (go_at_call 28; refine HWx.out.mono ?_; rintro e w2 ⟨rfl, hb2⟩; have z0 : w2.cell? ⟨wr.heap.size, 0, none⟩ = some (.string fn) := ekeep hb2 (by simp); have z1 : w2.cell? ⟨wr.heap.size, 1, none⟩ = some (.int .i64 kd) := ekeep hb2 (by simp))
          go_ret
          exact ⟨by rw [← hno.out]; rfl, HBx.out.trans (hb2.mono HBx.out.size)⟩
        · have hk3 : 3 < kd := by omega
          clear hkd
          go_wp2_with (go_at_call 28; refine HWx.out.mono ?_; rintro e w2 ⟨rfl, hb2⟩; have z0 : w2.cell? ⟨wr.heap.size, 0, none⟩ = some (.string fn) := ekeep hb2 (by simp); have z1 : w2.cell? ⟨wr.heap.size, 1, none⟩ = some (.int .i64 kd) := ekeep hb2 (by simp))
          go_ret
          exact ⟨by rw [← hno.out]; rfl, HBx.out.trans (hb2.mono HBx.out.size)⟩
    · obtain rfl : k = l := by omega
      have hall := Lib.hid ((OkTo.all (fs := fs) (by rw [Hl.out]; exact HR.out)).symm.trans (show _ = res by rw [Hl.out]; exact Hres.out))
      go_wp2
      go_ret
      exact ⟨by rw [← hall.out]; rfl, HBw.out⟩

end Go.Proofs.Ytppgecbjdkfohaa
