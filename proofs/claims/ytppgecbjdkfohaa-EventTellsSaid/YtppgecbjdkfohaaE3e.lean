/- Events: rows of values; right. -/
import Derived.Test.YtppgecbjdkfohaaE2e
import Derived.Deep.QuietTactic
import Derived.BigQuiet
namespace Go.Proofs.Ytppgecbjdkfohaa
open Go.RowKit Go.Lib Go.Op

/-- The field f of the struct at place j of a row of structs of s cells. -/
def efld (A : Addr) (s j f : Nat) : Addr := ⟨(A.add (j * s)).block, (A.add (j * s)).off + f, none⟩

/-- A value, as it was handed in. -/
abbrev VIn := Int × Int × ByteArray
def pv (x : VIn) : PVal := ⟨x.1, x.2.1, x.2.2.data.toList⟩

/-- Values in a row. -/
def VRow (w : World) (a : Option Addr) (vs : List VIn) : Prop := ∀ j x, vs[j]? = some x → ∃ A, a = some A ∧ w.cell? (A.add (j * 3)) = some (.int .i64 x.1) ∧ w.cell? (efld A 3 j 1) = some (.int .i64 x.2.1) ∧ w.cell? (efld A 3 j 2) = some (.string x.2.2) ∧ x.2.2.size ≤ maxLen

theorem ekeep {w w' : World} (hb : Below w.heap.size w w') {p : Addr} {v : Value} (h : w.cell? p = some v) : w'.cell? p = some v := (hb.cell (World.block_lt_of_cell? _ _ h)).trans h

theorem VRow.below {w w' : World} {a : Option Addr} {vs : List VIn} (h : VRow w a vs) (hb : Below w.heap.size w w') : VRow w' a vs := fun j x hj => by
  obtain ⟨A, h1, h2, h3, h4, h5⟩ := h j x hj
  exact ⟨A, h1, ekeep hb h2, ekeep hb h3, ekeep hb h4, h5⟩

set_option maxRecDepth 100000 in
theorem right1_calls (k n : Int) (s : ByteArray) (w : World) (hs : s.size ≤ maxLen) :
    Calls Try.prog 80 #[.agg #[.int .i64 k, .int .i64 n, .string s]] w fun e w' => e = .returned (.bool (!rightV k n s)) ∧ Below w.heap.size w w' := by
  go_enter Try.func80, Try.ntmps80
  go_wp2_with (go_at_call 81; refine (vright_calls _ _ _ _ (by assumption)).mono ?_; rintro e w1 ⟨rfl, rfl⟩)
  go_ret
  exact ⟨rfl, by repeat' (first | exact Below.refl _ _ | refine Below.alloc ?_ (by simp <;> omega) _)⟩

/-- All that were looked at are right. -/
def RightTo (vs : List VIn) (k : Nat) : Prop := ∀ j x, j < k → vs[j]? = some x → rightB (pv x) = true

theorem RightTo.step {vs : List VIn} {k : Nat} (h : RightTo vs k) {x : VIn} (hk : vs[k]? = some x) (hx : rightB (pv x) = true) : RightTo vs (k + 1) := fun j y hj hy => by
  by_cases e : j = k
  · subst e
    rw [hk] at hy
    injection hy with hy
    rw [← hy]; exact hx
  · exact h j y (by omega) hy

theorem RightTo.all {vs : List VIn} (h : RightTo vs vs.length) : (vs.map pv).all rightB = true := by
  rw [List.all_eq_true]
  intro y hy
  obtain ⟨x, hx, rfl⟩ := List.mem_map.1 hy
  obtain ⟨j, hj, rfl⟩ := List.mem_iff_getElem.1 hx
  exact h j _ hj (List.getElem?_eq_getElem hj)

theorem notRight {vs : List VIn} {k : Nat} {x : VIn} (hk : vs[k]? = some x) (hx : rightB (pv x) = false) : (vs.map pv).all rightB = false := by
  rw [List.all_eq_false]
  exact ⟨pv x, List.mem_map_of_mem (List.mem_of_getElem? hk), by simp [hx]⟩

/-- What IndexFunc answers of them. -/
def IdxPost (w : World) (b : Bool) (e : Ending) (w' : World) : Prop := ∃ z : Int, e = .returned (.int .i64 z) ∧ decide (0 ≤ z) = b ∧ Below w.heap.size w w'

set_option maxHeartbeats 2000000 in
set_option maxRecDepth 100000 in
theorem indexV_calls (a : Option Addr) (c : Nat) (vs : List VIn) (w : World) (hv : VRow w a vs) (hl : vs.length ≤ maxLen) :
    Calls Try.prog 95 #[.slice a vs.length c, .func (.func 80) #[] #[]] w (IdxPost w (!(vs.map pv).all rightB)) := by
  have HV := Lib.hid hv
  obtain ⟨l, hll⟩ : ∃ l, vs.length = l := ⟨_, rfl⟩
  rw [hll] at hl ⊢
  have Hl := Lib.hid hll
  unfold maxLen at hl
  clear hv hll
  go_enter Try.func95, Try.ntmps95
  go_wp2
  go_loopw [5, 8] (fun x i wr => ∃ k : Nat, i = .int .i64 k ∧ k ≤ l ∧ Hid (RightTo vs k) ∧ Hid (Below w.heap.size w wr)) (fun _ i _ => l - (intOf i).toNat)
  case atStart => exact ⟨0, rfl, Nat.zero_le _, fun j x hj => by omega, Below.refl _ _⟩
  case round =>
    obtain ⟨k, rfl, hk, HR, HB⟩ := hrel
    by_cases hlt : k < l
    · obtain ⟨x, hx⟩ : ∃ x, vs[k]? = some x := ⟨_, List.getElem?_eq_getElem (by rw [Hl.out]; exact hlt)⟩
      obtain ⟨A, rfl, c0, c1, c2, hs⟩ := (HV.out.below HB.out) k x hx
      have hcall := right1_calls x.1 x.2.1 x.2.2 wr hs
      unfold efld at c1 c2
      have hrv : rightV x.1 x.2.1 x.2.2 = rightB (pv x) := rfl
      rw [hrv] at hcall
      cases hr : rightB (pv x) with
      | true =>
        have hst := Lib.hid (HR.out.step hx hr)
        rw [hr] at hcall
        obtain ⟨k1, n1, s1⟩ := x
        dsimp only at c0 c1 c2 hcall
        clear hx hrv hr
        go_wp2_with (go_at_call 80; refine hcall.mono ?_; rintro e w1 ⟨rfl, hb1⟩)
        have HB1 : Hid (Below w.heap.size w w1) := HB.out.trans (hb1.mono HB.out.size)
        clear hcall
        go_roundw
        case rel => exact ⟨k + 1, by go_num, by omega, hst, HB1⟩
        case measure => simp [intOf]; omega
      | false =>
        have hno := Lib.hid (notRight hx hr)
        rw [hr] at hcall
        obtain ⟨k1, n1, s1⟩ := x
        dsimp only at c0 c1 c2 hcall
        clear hx hrv hr
        go_wp2_with (go_at_call 80; refine hcall.mono ?_; rintro e w1 ⟨rfl, hb1⟩)
        have HB1 : Hid (Below w.heap.size w w1) := HB.out.trans (hb1.mono HB.out.size)
        go_ret
        exact ⟨k, rfl, by rw [hno.out]; simp, HB1.out⟩
    · obtain rfl : k = l := by omega
      have hall : Hid ((vs.map pv).all rightB = true) := RightTo.all (by rw [Hl.out]; exact HR.out)
      go_wp2
      go_ret
      exact ⟨-1, rfl, by rw [hall.out]; rfl, HB.out⟩

set_option maxRecDepth 100000 in
theorem contains_calls' (a : Option Addr) (c : Nat) (vs : List VIn) (w : World) (hv : VRow w a vs) (hl : vs.length ≤ maxLen) :
    Calls Try.prog 82 #[.slice a vs.length c, .func (.func 80) #[] #[]] w fun e w' => e = .returned (.bool (!(vs.map pv).all rightB)) ∧ Below w.heap.size w w' := by
  have hc := indexV_calls a c vs w hv hl
  obtain ⟨l, hll⟩ : ∃ l, vs.length = l := ⟨_, rfl⟩
  rw [hll] at hc ⊢
  generalize (!(vs.map pv).all rightB) = b at hc ⊢
  clear hv hl hll
  go_enter Try.func82, Try.ntmps82
  go_wp2_with (go_at_call 95; refine hc.mono ?_; rintro e w1 ⟨z, rfl, hz, hb1⟩)
  go_ret
  exact ⟨rfl, hb1⟩

end Go.Proofs.Ytppgecbjdkfohaa
