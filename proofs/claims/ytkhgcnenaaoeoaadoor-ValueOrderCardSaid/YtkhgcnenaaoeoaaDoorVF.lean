/- The statement ValueOrder, its walk, whole. -/
import Derived.Test.YtkhgcnenaaoeoaaDoorVD
import Derived.Test.YtkhgcnenaaoeoaaDoorVE
namespace Go.Proofs.YtkhgcnenaaoeoaaDoor
open Go.RowKit Go.Lib Go.Op

theorem cmpV_same {op k n1 n2 : Int} {s1 s2 : List UInt8} {z : Int} (hr : rightB ⟨k, n1, s1⟩ = true) (hr2 : rightB ⟨k, n2, s2⟩ = true) (h1 : 1 ≤ op) (h2 : op ≤ 6) (h : k ≠ 3 ∨ op = 1 ∨ op = 2) (hz : signV ⟨k, n1, s1⟩ ⟨k, n2, s2⟩ = z) : cmpV op ⟨k, n1, s1⟩ ⟨k, n2, s2⟩ = (holdsV op (1 + z), 0) := by
  rw [cmpV_ok hr hr2 h1 h2 rfl h, hz]
theorem cmpV_bool {op n1 n2 : Int} {s1 s2 : List UInt8} (hr : rightB ⟨3, n1, s1⟩ = true) (hr2 : rightB ⟨3, n2, s2⟩ = true) (h1 : 3 ≤ op) (h2 : op ≤ 6) : cmpV op ⟨3, n1, s1⟩ ⟨3, n2, s2⟩ = (false, 42) :=
  cmpV_kind hr hr2 (by omega) h2 (.inr ⟨rfl, by omega, by omega⟩)

theorem sign_of (k n1 n2 : Int) (s1 s2 : List UInt8) : (signV ⟨k, n1, s1⟩ ⟨k, n2, s2⟩ = -1 ∧ signV ⟨k, n2, s2⟩ ⟨k, n1, s1⟩ = 1 ∧ (n1 ≠ n2 ∨ n1 = n2 ∧ s1 ≠ s2)) ∨ (signV ⟨k, n1, s1⟩ ⟨k, n2, s2⟩ = 1 ∧ signV ⟨k, n2, s2⟩ ⟨k, n1, s1⟩ = -1 ∧ (n1 ≠ n2 ∨ n1 = n2 ∧ s1 ≠ s2)) ∨ (signV ⟨k, n1, s1⟩ ⟨k, n2, s2⟩ = 0 ∧ signV ⟨k, n2, s2⟩ ⟨k, n1, s1⟩ = 0 ∧ n1 = n2 ∧ s1 = s2) := by
  have hd : sameV ⟨k, n1, s1⟩ ⟨k, n2, s2⟩ = false → n1 ≠ n2 ∨ n1 = n2 ∧ s1 ≠ s2 := fun h => by
    simp only [sameV, Bool.and_eq_false_iff, decide_eq_false_iff_not] at h
    by_cases e : n1 = n2
    · exact .inr ⟨e, h.resolve_left (fun f => f e)⟩
    · exact .inl e
  rcases signV_cases ⟨k, n1, s1⟩ ⟨k, n2, s2⟩ with ⟨a, b, c, d⟩ | ⟨a, b, c, d⟩ | ⟨a, b, c, d⟩ <;> rcases signV_cases ⟨k, n2, s2⟩ ⟨k, n1, s1⟩ with ⟨a', b', c', d'⟩ | ⟨a', b', c', d'⟩ | ⟨a', b', c', d'⟩
  all_goals first
    | (rw [a] at c'; cases c'; done)
    | (rw [c] at a'; cases a'; done)
    | exact .inl ⟨d, d', hd b⟩
    | exact .inr (.inl ⟨d, d', hd b⟩)
    | skip
  simp only [sameV, Bool.and_eq_true, decide_eq_true_eq] at b
  exact .inr (.inr ⟨d, d', b.1, b.2⟩)

theorem order_walk (w : World) (hT : HoldsTab w) (k1 n1 : Int) (s1 : ByteArray) (k2 n2 : Int) (s2 : ByteArray) (hs1 : s1.size ≤ maxLen) (hs2 : s2.size ≤ maxLen) :
    Calls Tryd.prog 6 #[.agg #[.int .i64 k1, .int .i64 n1, .string s1], .agg #[.int .i64 k2, .int .i64 n2, .string s2]] w (VFine w) := by
  by_cases g1 : 9000 < s1.size
  · exact order_great w hT k1 n1 s1 k2 n2 s2 hs1 hs2 (.inl g1)
  by_cases g2 : 9000 < s2.size
  · exact order_great w hT k1 n1 s1 k2 n2 s2 hs1 hs2 (.inr ⟨by omega, g2⟩)
  cases hr : rightV k1 n1 s1 with
  | false => exact order_wrong1 w hT k1 n1 s1 k2 n2 s2 hs1 hs2 g1 g2 hr
  | true =>
  cases hr2 : rightV k2 n2 s2 with
  | false => exact order_wrong2 w hT k1 n1 s1 k2 n2 s2 hs1 hs2 g1 g2 hr hr2
  | true =>
  by_cases hk : k1 = k2
  rotate_left
  · exact order_kinds w hT k1 n1 s1 k2 n2 s2 hs1 hs2 g1 g2 hr hr2 hk
  subst hk
  have bf : ∀ {a b : Int}, a ≠ b → (a == b) = false := fun h => by rw [beq_eq_false_iff_ne]; exact h
  have bt : ∀ {a b : Int}, a = b → (a == b) = true := fun h => by rw [beq_iff_eq]; exact h
  have sf : s1.data.toList ≠ s2.data.toList → (s1.toList == s2.toList) = false := fun h => by rw [beq_eq_false_iff_ne, vtoL, vtoL]; exact h
  have st : s1.data.toList = s2.data.toList → (s1.toList == s2.toList) = true := fun h => by rw [beq_iff_eq, vtoL, vtoL]; exact h
  have cs := sign_of k1 n1 n2 s1.data.toList s2.data.toList
  by_cases h3 : k1 = 3
  · subst h3
    obtain ⟨_, _, e1⟩ := rightB_3.1 hr
    obtain ⟨_, _, e2⟩ := rightB_3.1 hr2
    have hs12 : s1.data.toList = s2.data.toList := e1.trans e2.symm
    have c1 := fun z hz => cmpV_same (op := 1) (z := z) hr hr2 (by decide) (by decide) (.inr (.inl rfl)) hz
    have c2 := fun z hz => cmpV_same (op := 2) (z := z) hr hr2 (by decide) (by decide) (.inr (.inr rfl)) hz
    have d3 := cmpV_bool (op := 3) hr hr2 (by decide) (by decide)
    have d4 := cmpV_bool (op := 4) hr hr2 (by decide) (by decide)
    have d5 := cmpV_bool (op := 5) hr hr2 (by decide) (by decide)
    have d6 := cmpV_bool (op := 6) hr hr2 (by decide) (by decide)
    have d7 := cmpV_bool (op := 5) hr2 hr (by decide) (by decide)
    rcases cs with ⟨q, q', hd⟩ | ⟨q, q', hd⟩ | ⟨q, q', hn, hs⟩
    · exact order_b_diff w hT 3 n1 s1 n2 s2 hs1 hs2 g1 g2 hr hr2 (by decide) (bf (hd.resolve_right (fun h => h.2 hs12))) (c1 _ q) (c2 _ q) d3 d4 d5 d6 d7
    · exact order_b_diff w hT 3 n1 s1 n2 s2 hs1 hs2 g1 g2 hr hr2 (by decide) (bf (hd.resolve_right (fun h => h.2 hs12))) (c1 _ q) (c2 _ q) d3 d4 d5 d6 d7
    · exact order_b_same w hT 3 n1 s1 n2 s2 hs1 hs2 g1 g2 hr hr2 (by decide) (bt hn) (st hs) (c1 _ q) (c2 _ q) d3 d4 d5 d6 d7
  · have hkf : (k1 == 3) = false := bf h3
    have c1 := fun z hz => cmpV_same (op := 1) (z := z) hr hr2 (by decide) (by decide) (.inl h3) hz
    have c2 := fun z hz => cmpV_same (op := 2) (z := z) hr hr2 (by decide) (by decide) (.inl h3) hz
    have c3 := fun z hz => cmpV_same (op := 3) (z := z) hr hr2 (by decide) (by decide) (.inl h3) hz
    have c4 := fun z hz => cmpV_same (op := 4) (z := z) hr hr2 (by decide) (by decide) (.inl h3) hz
    have c5 := fun z hz => cmpV_same (op := 5) (z := z) hr hr2 (by decide) (by decide) (.inl h3) hz
    have c6 := fun z hz => cmpV_same (op := 6) (z := z) hr hr2 (by decide) (by decide) (.inl h3) hz
    have c7 := fun z hz => cmpV_same (op := 5) (z := z) hr2 hr (by decide) (by decide) (.inl h3) hz
    rcases cs with ⟨q, q', hd⟩ | ⟨q, q', hd⟩ | ⟨q, q', hn, hs⟩
    · rcases hd with hn | ⟨hn, hs⟩
      · exact order_less_n w hT k1 n1 s1 n2 s2 hs1 hs2 g1 g2 hr hr2 hkf (bf hn) (c1 _ q) (c2 _ q) (c3 _ q) (c4 _ q) (c5 _ q) (c6 _ q) (c7 _ q')
      · exact order_less_s w hT k1 n1 s1 n2 s2 hs1 hs2 g1 g2 hr hr2 hkf (bt hn) (sf hs) (c1 _ q) (c2 _ q) (c3 _ q) (c4 _ q) (c5 _ q) (c6 _ q) (c7 _ q')
    · rcases hd with hn | ⟨hn, hs⟩
      · exact order_more_n w hT k1 n1 s1 n2 s2 hs1 hs2 g1 g2 hr hr2 hkf (bf hn) (c1 _ q) (c2 _ q) (c3 _ q) (c4 _ q) (c5 _ q) (c6 _ q) (c7 _ q')
      · exact order_more_s w hT k1 n1 s1 n2 s2 hs1 hs2 g1 g2 hr hr2 hkf (bt hn) (sf hs) (c1 _ q) (c2 _ q) (c3 _ q) (c4 _ q) (c5 _ q) (c6 _ q) (c7 _ q')
    · exact order_same w hT k1 n1 s1 n2 s2 hs1 hs2 g1 g2 hr hr2 hkf (bt hn) (st hs) (c1 _ q) (c2 _ q) (c3 _ q) (c4 _ q) (c5 _ q) (c6 _ q) (c7 _ q')

end Go.Proofs.YtkhgcnenaaoeoaaDoor
