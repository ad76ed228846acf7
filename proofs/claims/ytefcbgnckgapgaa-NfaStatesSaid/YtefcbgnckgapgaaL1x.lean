/- Words: what single bytes and digits are. -/
import Derived.Test.YtefcbgnckgapgaaL0x
import Derived.Test.YtefcbgnckgapgaaV3
import Derived.Test.YtefcbgnckgapgaaD2
import Derived.Test.YtefcbgnckgapgaaLS
import Derived.Lib.Hide
namespace Go.Proofs.Ytefcbgnckgapgaa
open Go.RowKit Go.Lib Go.Op

theorem xbool {a b : Bool} (h : a = b) : Ending.returned (.bool a) = .returned (.bool b) := by rw [h]

theorem xeq (n k : Nat) : (((n : Int) == (k : Int)) : Bool) = decide (n = k) := by
  by_cases h : n = k <;> simp [h] <;> omega

/-- The library's variables that wrong numbers are told with. -/
structure XVars (w : World) : Prop where
  esyn : ∃ tp p, w.var? Try.prog "strconv.ErrSyntax" = some #[.iface tp p]
  eran : ∃ tp p, w.var? Try.prog "strconv.ErrRange" = some #[.iface tp p]

theorem xvar_keep {w w' : World} (hb : Below w.heap.size w w') {n : String} {g : Nat} (hg : Try.prog.globalNamed n = some g) {x : Array Value} (h : w.var? Try.prog n = some x) : w'.var? Try.prog n = some x := by
  simp only [World.var?, hg, Option.bind_some] at h ⊢
  cases hh : w.heap[g]? with
  | none => rw [hh] at h; simp at h
  | some o =>
    have hlt := (Array.getElem?_eq_some_iff.1 hh).1
    rw [hb.block g hlt]
    exact h
theorem xbytesWorld {w w' : World} {t : TypeId} (h : w' = w ∨ ∃ s, w' = bytesWorld w t s) : Below w.heap.size w w' := by
  rcases h with rfl | ⟨s, rfl⟩
  · exact Below.refl _ _
  · exact ⟨rfl, rfl, rfl, by rw [bytesWorld_size]; omega, fun k hk => bytesWorld_at_old w t s k hk⟩

end Go.Proofs.Ytefcbgnckgapgaa
