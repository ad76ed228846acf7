/- A list of files that came in; what Of's device holds. -/
import Derived.Test.YtgkhnimdlkdaaaaDQ
namespace Go.Proofs.Ytgkhnimdlkdaaaa
open Go.ChangeShapes Go.WideShapes Go.ChangeAt Go.RowKit Go.Lib Go.Deep

section
variable {H : Type} {enc : TypeId × Value → H} {w : World} {base : Nat} {spare : Nat → Bool} {held : Bool}

set_option maxRecDepth 100000 in
/-- A list of files that came in. -/
theorem open_logs {fuel : Nat} {a : Option Addr} {len cap : Nat} {x : DataW H × List MemPlace} (h : DataW.trod enc Try.prog w base spare held fuel 22 [.slice a len cap] = some x) :
    ∃ ls : List LogV, len = ls.length ∧ ls.length ≤ maxLen ∧ LRow w a ls := by
  rcases open_slice_pairs Try.underlying22 Try.underlying55 (by kernel_rfl) rfl rfl (by kernel_rfl) (by kernel_rfl) h with ⟨hcs, _⟩ | ⟨A, l, c, m, n, V0, V1, D0, D1, P0, P1, hcs, _, hl, hm, hmm, _, hx⟩
  · simp at hcs
    obtain ⟨rfl, rfl, rfl⟩ := hcs
    exact ⟨[], rfl, Nat.zero_le _, fun j s hj => by simp at hj⟩
  · simp at hcs
    obtain ⟨rfl, rfl, rfl⟩ := hcs
    have hlm : len ≤ m := by rw [hmm]; split <;> omega
    have hall : ∀ i, i < len → ∃ q : LogV, LAt w A i q := fun i hi => by
      obtain ⟨e0, e1, t0, t1⟩ := hx i (by omega)
      obtain ⟨s1, hv1, _, hs1⟩ := DataW.trod_string Try.underlying9 t0
      obtain ⟨a2, l2, c2, hv2⟩ : ∃ a l c, V1 i = .slice a l c := by
        rcases DataW.trod_slice Try.underlying31 t1 with ⟨h, _⟩ | ⟨a, l, c, _, _, _, _, h, _⟩
        · simp at h; exact ⟨_, _, _, h⟩
        · simp at h; exact ⟨_, _, _, h⟩
      simp at hv1
      rw [hv2] at t1 e1
      rw [hv1] at e0
      obtain ⟨bs, rfl, hbl, hb⟩ := open_bytes t1
      have e1' : w.cell? (fld A 2 i 1) = some (.slice a2 bs.length c2) := by
        rw [← e1, ← Go.Deep.add_add]
        rfl
      exact ⟨⟨s1, a2, c2, bs⟩, e0, e1', hs1, hbl, hb w (Below.refl _ _) _ (fun _ _ => rfl)⟩
    obtain ⟨q, hq⟩ := choose_lt hall
    refine ⟨(List.range len).map q, by simp, by simp; omega, fun j o hj => ⟨A, rfl, ?_⟩⟩
    obtain ⟨hjl, rfl⟩ := List.getElem?_eq_some_iff.1 hj
    simp at hjl ⊢
    exact hq j hjl

end

/-- A right list's names are all different. -/
theorem OfOk.nodup {ls : List LogV} (h : OfOk ls) {i j : Nat} {p q : LogV} (hi : ls[i]? = some p) (hj : ls[j]? = some q) (hij : i < j) : p.name.data.toList ≠ q.name.data.toList := fun e => by
  have h1 := (h.2 j q hj).2.1
  have hm : p ∈ ls.take j := by
    rw [List.mem_take_iff_getElem]
    obtain ⟨hi1, hi2⟩ := List.getElem?_eq_some_iff.1 hi
    exact ⟨i, by omega, hi2⟩
  cases h2 : (ls.take j).find? fun o => o.name.data.toList == q.name.data.toList with
  | none =>
    have := List.find?_eq_none.1 h2 p hm
    simp [e] at this
  | some z =>
    unfold ofF at h1
    rw [h2] at h1
    cases h1

end Go.Proofs.Ytgkhnimdlkdaaaa
