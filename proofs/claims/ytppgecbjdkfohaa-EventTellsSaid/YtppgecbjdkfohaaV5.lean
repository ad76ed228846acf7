/- Values: Add, Sub, Compare. -/
import Derived.Test.YtppgecbjdkfohaaV4
namespace Go.Proofs.Ytppgecbjdkfohaa
open Go.RowKit Go.Lib Go.Op

/-- What Add and Sub leave. -/
def SumPost (w : World) (p : PVal × Int) (e : Ending) (w' : World) : Prop := e = .returned (.tuple #[.agg #[.int .i64 p.1.k, .int .i64 p.1.n, .string ⟨#[]⟩], .int .i64 p.2]) ∧ Below w.heap.size w w'

theorem sumV_arg {a b : PVal} {t : Int} (h : rightB a = false ∨ rightB b = false) : sumV a b t = (⟨0, 0, []⟩, 1) := by unfold sumV; rw [if_pos h]
theorem sumV_kind {a b : PVal} {t : Int} (h1 : rightB a = true) (h2 : rightB b = true) (h : a.k ≠ 1 ∨ b.k ≠ 1) : sumV a b t = (⟨0, 0, []⟩, 42) := by
  unfold sumV; rw [if_neg (by simp [h1, h2]), if_pos h]
theorem sumV_big {a b : PVal} {t : Int} (h1 : rightB a = true) (h2 : rightB b = true) (h3 : a.k = 1) (h4 : b.k = 1) (h : rightB ⟨1, a.n + t * b.n, []⟩ = false) : sumV a b t = (⟨0, 0, []⟩, 41) := by
  unfold sumV; rw [if_neg (by simp [h1, h2]), if_neg (by simp [h3, h4]), if_neg (by simp [h])]
theorem sumV_ok {a b : PVal} {t : Int} (h1 : rightB a = true) (h2 : rightB b = true) (h3 : a.k = 1) (h4 : b.k = 1) (h : rightB ⟨1, a.n + t * b.n, []⟩ = true) : sumV a b t = (⟨1, a.n + t * b.n, []⟩, 0) := by
  unfold sumV; rw [if_neg (by simp [h1, h2]), if_neg (by simp [h3, h4]), if_pos h]

theorem vbcell {W w1 : World} (hb : Below W.heap.size W w1) : (∀ b o, b < W.heap.size → w1.cell? ⟨b, o, none⟩ = W.cell? ⟨b, o, none⟩) ∧ (∀ b o, b < W.heap.size → w1.frozen? ⟨b, o, none⟩ = W.frozen? ⟨b, o, none⟩) :=
  ⟨fun b o h => hb.cell (p := ⟨b, o, none⟩) h, fun b o h => hb.frozen (p := ⟨b, o, none⟩) h⟩

section
variable (k1 n1 : Int) (s1 : ByteArray) (k2 n2 : Int) (s2 : ByteArray) (w : World)

end

end Go.Proofs.Ytppgecbjdkfohaa
