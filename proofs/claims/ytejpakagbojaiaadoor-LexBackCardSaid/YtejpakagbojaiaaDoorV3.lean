/- Values: Right, written, and cmp's functions. -/
import Derived.Test.YtejpakagbojaiaaDoorV2
import Derived.WalkKit
import Derived.WalkSpells
import Derived.WalkLawsBesides
import Derived.Lib.Hide
import Derived.Lib.Strings
namespace Go.Proofs.YtejpakagbojaiaaDoor
open Go.RowKit Go.Lib Go.Op

/-- Is that right, of a value's three parts? -/
def rightV (k n : Int) (s : ByteArray) : Bool := rightB ⟨k, n, s.data.toList⟩

theorem rightV_1 (n : Int) (s : ByteArray) : rightV 1 n s = decide (-1099511627776 ≤ n ∧ n ≤ 1099511627776 ∧ s.data.toList = []) := rfl
theorem rightV_2 (n : Int) (s : ByteArray) : rightV 2 n s = decide (n = 0 ∧ s.data.toList.length ≤ 64) := rfl
theorem rightV_3 (n : Int) (s : ByteArray) : rightV 3 n s = decide (0 ≤ n ∧ n ≤ 1 ∧ s.data.toList = []) := rfl
theorem rightV_not {k n : Int} {s : ByteArray} (h1 : k ≠ 1) (h2 : k ≠ 2) (h3 : k ≠ 3) : rightV k n s = false := by
  unfold rightV rightB; rw [if_neg h1, if_neg h2, if_neg h3]

theorem vtoL (a : ByteArray) : a.toList = a.data.toList := ByteArray.toList_eq a

theorem vret_bool {a b : Bool} (h : a = b) : Ending.returned (.bool a) = .returned (.bool b) := by rw [h]

theorem vempty {s : ByteArray} (h : s.data.toList = []) : s = ⟨#[]⟩ := by
  apply ByteArray.ext
  apply Array.ext'
  rw [h]

theorem vret_num {k : IntKind} {a b : Int} (h : a = b) : Ending.returned (.int k a) = .returned (.int k b) := by rw [h]

/-- What stands behind a right value's kind, as a number. -/
def writtenV (k n : Int) (s : ByteArray) : Nat := if k = 2 then s.size else if k = 3 then n.toNat else zigN n

end Go.Proofs.YtejpakagbojaiaaDoor
