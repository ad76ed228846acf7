/- Events: bytes that came in. -/
import Derived.Test.YtppgecbjdkfohaaEKe
namespace Go.Proofs.Ytppgecbjdkfohaa
open Go.ChangeShapes Go.WideShapes Go.ChangeAt Go.RowKit Go.Lib Go.Deep

section
variable {H : Type} {enc : TypeId × Value → H} {w : World} {base : Nat} {spare : Nat → Bool} {held : Bool}

/-- Bytes that came in. -/
theorem open_erow {fuel : Nat} {a : Option Addr} {len cap : Nat} {x : DataW H × List MemPlace} (h : DataW.trod enc Try.prog w base spare held fuel 40 [.slice a len cap] = some x) :
    ∃ bs : List UInt8, len = bs.length ∧ BRow w (.slice a bs.length cap) bs := by
  rcases open_slice1 Try.underlying40 (by kernel_rfl) h with ⟨hcs, _⟩ | ⟨A, l, c, m, n, V, D, Pl, hcs, _, hl, hm, hmm, _, hx⟩
  · simp at hcs
    obtain ⟨rfl, rfl, rfl⟩ := hcs
    exact ⟨[], rfl, none, 0, rfl, Nat.le_refl _, Nat.zero_le _, fun _ => rfl, fun j x hj => by simp at hj⟩
  · simp at hcs
    obtain ⟨rfl, rfl, rfl⟩ := hcs
    have hlm : len ≤ m := by rw [hmm]; split <;> omega
    have hall : ∀ i, i < len → ∃ q : UInt8, w.cell? (A.add i) = some (.int .u8 q.toNat) := fun i hi => by
      obtain ⟨e0, t0⟩ := hx i (by omega)
      obtain ⟨v, h4, _, h6⟩ := DataW.trod_int Try.underlying5 t0
      simp at h4
      have h7 : (0 : Int) ≤ v ∧ v ≤ 255 := by
        have h8 : (decide ((0 : Int) ≤ v) && decide (v ≤ 255)) = true := h6
        simpa using h8
      refine ⟨UInt8.ofNat v.toNat, ?_⟩
      rw [e0, h4]
      congr 2
      simp
      omega
    obtain ⟨q, hq⟩ := choose_lt hall
    refine ⟨(List.range len).map q, by simp, some A, cap, rfl, by simpa using hl, hm, (fun e => by cases e), fun j y hj => ⟨A, rfl, ?_⟩⟩
    obtain ⟨hjl, rfl⟩ := List.getElem?_eq_some_iff.1 hj
    simp at hjl ⊢
    exact hq j hjl
end
end Go.Proofs.Ytppgecbjdkfohaa
