/- Values: Compare. -/
import Derived.Test.YtppgecbjdkfohaaV5
namespace Go.Proofs.Ytppgecbjdkfohaa
open Go.RowKit Go.Lib Go.Op

/-- The table of comparisons, in memory. -/
def HoldsTab (w : World) : Prop := ∀ o i : Nat, 1 ≤ o → o ≤ 6 → i < 3 → w.cell? ⟨0, o * 3 + i, none⟩ = some (.bool (holdsV o i))

theorem HoldsTab.below {w w' : World} (h : HoldsTab w) (hb : Below w.heap.size w w') : HoldsTab w' := fun o i h1 h2 h3 => by
  have h4 := h o i h1 h2 h3
  exact (hb.cell (World.block_lt_of_cell? _ _ h4)).trans h4

/-- What Compare leaves. -/
def CmpPost (w : World) (z : Bool × Int) (e : Ending) (w' : World) : Prop := e = .returned (.tuple #[.bool z.1, .int .i64 z.2]) ∧ Below w.heap.size w w'

theorem cmpV_arg {op : Int} {a b : PVal} (h : rightB a = false ∨ rightB b = false ∨ op < 1 ∨ 6 < op) : cmpV op a b = (false, 1) := by unfold cmpV; rw [if_pos h]
theorem cmpV_kind {op : Int} {a b : PVal} (h1 : rightB a = true) (h2 : rightB b = true) (h3 : 1 ≤ op) (h4 : op ≤ 6) (h : a.k ≠ b.k ∨ a.k = 3 ∧ op ≠ 1 ∧ op ≠ 2) : cmpV op a b = (false, 42) := by
  unfold cmpV; rw [if_neg (by simp [h1, h2]; omega), if_pos h]
theorem cmpV_ok {op : Int} {a b : PVal} (h1 : rightB a = true) (h2 : rightB b = true) (h3 : 1 ≤ op) (h4 : op ≤ 6) (h5 : a.k = b.k) (h : a.k ≠ 3 ∨ op = 1 ∨ op = 2) : cmpV op a b = (holdsV op (1 + signV a b), 0) := by
  unfold cmpV; rw [if_neg (by simp [h1, h2]; omega), if_neg (by omega)]

section
variable (k1 n1 : Int) (s1 : ByteArray) (k2 n2 : Int) (s2 : ByteArray) (w : World)

end

end Go.Proofs.Ytppgecbjdkfohaa
