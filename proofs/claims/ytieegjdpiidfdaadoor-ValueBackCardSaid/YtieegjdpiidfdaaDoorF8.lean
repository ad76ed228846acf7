/- The statement FrameBack, its walk. -/
import Derived.Test.YtieegjdpiidfdaaDoorF7
namespace Go.Proofs.YtieegjdpiidfdaaDoor
open Go.RowKit Go.Lib

theorem owns_below {w w' : World} {B : Nat} {e : TypeId} {s : Nat} {v : Value} {n : Nat} {xs : List Value} (h : w.ownsRow B e s v n xs) (hb : Below w.heap.size w w') : w'.ownsRow B e s v n xs :=
  h.kept (row := none) ⟨hb.os, hb.tape, hb.output, hb.size, fun q hq _ => hb.block q hq⟩ (by cases Value.ownBlock _ <;> simp)

/-- What the law's call leaves. -/
def FFine (w : World) (e : Ending) (w' : World) : Prop := e = .returned (.bool true) ∧ Below w.heap.size w w'

theorem okR_take {rs : List (List UInt8)} {k : Nat} {r : List UInt8} (h : rs[k]? = some r) : okR (rs.take (k + 1)) = if r.length ≤ 4096 then okR (rs.take k) ++ [r] else okR (rs.take k) := by
  rw [List.take_add_one, h]
  simp only [okR, List.filter_append, Option.toList_some]
  split
  · rename_i h1; simp [h1]
  · rename_i h1; simp [h1]
theorem okR_le (rs : List (List UInt8)) : (okR rs).length ≤ rs.length := List.length_filter_le _ _

theorem mem_maxLen {w : World} {a : Option Addr} {rs : List (List UInt8)} (h : TRow w a rs) : ∀ r ∈ rs, r.length ≤ maxLen := fun r hr => by
  obtain ⟨j, hj, rfl⟩ := List.mem_iff_getElem.1 hr
  obtain ⟨_, _, _, h3⟩ := h j _ (List.getElem?_eq_getElem hj)
  exact h3

end Go.Proofs.YtieegjdpiidfdaaDoor
