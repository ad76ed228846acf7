/- The live question of the layer's statements is answered true. -/
import Derived.Test.YtppgecbjdkfohaaF6
import Derived.Lib.SlBytesConst
namespace Go.Proofs.Ytppgecbjdkfohaa
open Go.RowKit Go.Lib

theorem BRow.new (w : World) (bs : List UInt8) (cs : Array Value) (t : TypeId) (fr : Nat × Nat) (h : cs.toList = byteCells bs) (c : Nat) (h1 : bs.length ≤ c) (h2 : c ≤ maxLen) : BRow (w.alloc (.cells cs t fr)) (.slice (some ⟨w.heap.size, 0, none⟩) bs.length c) bs :=
  ⟨_, c, rfl, h1, h2, (fun e => by cases e), fun j x hj => ⟨_, rfl, cells_new w bs cs t fr h j _ (by simp [byteCells, hj])⟩⟩

theorem ownsRow_empty (w : World) (t : TypeId) {B : Nat} (hB : B ≤ w.heap.size) : (w.alloc (.cells #[] t)).ownsRow B t 1 (.slice (some ⟨w.heap.size, 0, none⟩) 0 0) 0 (byteCells []) :=
  ⟨rfl, .inr ⟨w.heap.size, 0, #[], rfl, hB, by show (w.heap.push _)[w.heap.size]? = _; simp, Nat.le_refl _, by unfold maxLen; omega, rfl, rfl⟩⟩

theorem frame_a : putB [97] = [82, 0, 1, 100, 99, 97] := by decide +kernel
theorem cut_a : cutB [82, 0, 1, 100, 99, 97, 82, 0, 1] = [[97]] := by
  rw [cutB_some (r := [97]) (by decide +kernel), cutB_none (by decide +kernel)]
theorem cut_e : cutB [82, 0, 0, 1, 1, 82] = [[]] := by
  rw [cutB_some (r := []) (by decide +kernel), cutB_none (by decide +kernel)]

end Go.Proofs.Ytppgecbjdkfohaa
