/- The sum of a record: rest, step, Sum. -/
import Derived.Test.YtefcbgnckgapgaaRows
import Derived.Test.YtefcbgnckgapgaaF0
import Derived.WalkKit
import Derived.WalkSpells
import Derived.WalkLawsBesides
import Derived.ScopeJumps
import Derived.Lib.Hide
import Derived.Lib.Strings
namespace Go.Proofs.Ytefcbgnckgapgaa
open Go.RowKit Go.Lib

def flOf : Value → Nat
  | .float _ b => ((floatToIntVal .f64 b .i64).getD 0).toNat
  | _ => 0

theorem flOf_fl {k : Nat} (h : k < 1024) : flOf (.float .f64 (fl k)) = k := by
  simp only [flOf, fl_back k h, Option.getD_some]
  omega

/-- One byte more. -/
def sumStep (p : Nat × Nat) (c : UInt8) : Nat × Nat := ((p.1 + c.toNat + 1) % 251, (p.2 + (p.1 + c.toNat + 1) % 251) % 241)

theorem sumStep_lt (p : Nat × Nat) (c : UInt8) : (sumStep p c).1 < 251 ∧ (sumStep p c).2 < 241 := ⟨Nat.mod_lt _ (by omega), Nat.mod_lt _ (by omega)⟩

/-- Both numbers of a sum. -/
def sumP (l : List UInt8) : Nat × Nat := l.foldl sumStep (1, 1)
/-- A record's sum. -/
def sumN (l : List UInt8) : Nat := (sumP l).1 + 256 * (sumP l).2

theorem sumP_nil : sumP [] = (1, 1) := rfl
theorem sumP_snoc (l : List UInt8) (c : UInt8) : sumP (l ++ [c]) = sumStep (sumP l) c := by simp [sumP, List.foldl_append]
theorem foldl_lt : ∀ (l : List UInt8) (p : Nat × Nat), p.1 < 251 ∧ p.2 < 241 → (l.foldl sumStep p).1 < 251 ∧ (l.foldl sumStep p).2 < 241
  | [], _, h => h
  | c :: l, p, _ => foldl_lt l (sumStep p c) (sumStep_lt p c)
theorem sumP_lt (l : List UInt8) : (sumP l).1 < 251 ∧ (sumP l).2 < 241 := foldl_lt l (1, 1) ⟨by decide, by decide⟩
theorem sumN_lt (l : List UInt8) : sumN l < 65536 := by
  have := sumP_lt l
  unfold sumN
  omega

theorem take_snoc (s : ByteArray) (k : Nat) (h : k < s.size) : s.data.toList.take (k + 1) = s.data.toList.take k ++ [s[k]] := by
  rw [List.take_succ_eq_append_getElem (by simpa using h)]; rfl

end Go.Proofs.Ytefcbgnckgapgaa
