/- Values compared and reckoned with, in plain words. -/
import Derived.Test.YtefcbgnckgapgaaV1
namespace Go.Proofs.Ytefcbgnckgapgaa
open Go Go.Op

theorem less_irrefl : ∀ l : List UInt8, bytesLess l l = false
  | [] => rfl
  | c :: l => by simp [bytesLess, less_irrefl l]
theorem less_asymm : ∀ a b : List UInt8, bytesLess a b = true → bytesLess b a = false
  | [], [], h => by cases h
  | [], _ :: _, _ => rfl
  | _ :: _, [], h => by cases h
  | c :: a, d :: b, h => by
    simp only [bytesLess, Bool.or_eq_true, Bool.and_eq_true, decide_eq_true_eq, beq_iff_eq] at h
    rcases h with h | ⟨rfl, h⟩
    · have h1 : ¬ d < c := by rw [UInt8.lt_iff_toNat_lt] at h ⊢; omega
      have h2 : (d == c) = false := by rw [beq_eq_false_iff_ne]; rintro rfl; rw [UInt8.lt_iff_toNat_lt] at h; omega
      simp [bytesLess, h1, h2]
    · simp [bytesLess, less_asymm a b h]
theorem less_tri : ∀ a b : List UInt8, bytesLess a b = false → bytesLess b a = false → a = b
  | [], [], _, _ => rfl
  | [], _ :: _, h, _ => by cases h
  | _ :: _, [], _, h => by cases h
  | c :: a, d :: b, h1, h2 => by
    simp only [bytesLess, Bool.or_eq_false_iff, Bool.and_eq_false_iff, decide_eq_false_iff_not, beq_eq_false_iff_ne] at h1 h2
    have e : c = d := by
      apply UInt8.toNat_inj.1
      have h3 := h1.1
      have h4 := h2.1
      rw [UInt8.lt_iff_toNat_lt] at h3 h4
      omega
    subst e
    rw [less_tri a b (h1.2.resolve_left (fun h => h rfl)) (h2.2.resolve_left (fun h => h rfl))]
theorem less_more : ∀ (a t : List UInt8), bytesLess a (a ++ t) = !t.isEmpty
  | [], [] => rfl
  | [], _ :: _ => rfl
  | c :: a, t => by simp [bytesLess, less_more a t]

/-- What cmp.Compare tells of two texts. -/
def cmpS (a b : List UInt8) : Int := if bytesLess a b then -1 else if bytesLess b a then 1 else 0
/-- What it tells of two numbers. -/
def cmpN (a b : Int) : Int := if a < b then -1 else if b < a then 1 else 0
/-- The sign of two values. -/
def signV (a b : PVal) : Int := if cmpN a.n b.n ≠ 0 then cmpN a.n b.n else cmpS a.s b.s

theorem cmpN_cases (a b : Int) : (a < b ∧ cmpN a b = -1) ∨ (b < a ∧ cmpN a b = 1) ∨ (a = b ∧ cmpN a b = 0) := by
  unfold cmpN
  by_cases h1 : a < b
  · exact .inl ⟨h1, if_pos h1⟩
  · rw [if_neg h1]
    by_cases h2 : b < a
    · exact .inr (.inl ⟨h2, if_pos h2⟩)
    · exact .inr (.inr ⟨by omega, if_neg h2⟩)
theorem cmpS_cases (a b : List UInt8) : (bytesLess a b = true ∧ cmpS a b = -1) ∨ (bytesLess b a = true ∧ cmpS a b = 1) ∨ (a = b ∧ cmpS a b = 0) := by
  unfold cmpS
  cases h1 : bytesLess a b
  · cases h2 : bytesLess b a
    · exact .inr (.inr ⟨less_tri a b h1 h2, by simp⟩)
    · exact .inr (.inl ⟨rfl, by simp⟩)
  · exact .inl ⟨rfl, by simp⟩

/-- Is a value less? -/
def lessV (a b : PVal) : Bool := decide (a.n < b.n) || (decide (a.n = b.n) && bytesLess a.s b.s)
/-- Are two alike, but for their kinds? -/
def sameV (a b : PVal) : Bool := decide (a.n = b.n) && decide (a.s = b.s)

theorem signV_cases (a b : PVal) : (lessV a b = true ∧ sameV a b = false ∧ lessV b a = false ∧ signV a b = -1) ∨ (lessV a b = false ∧ sameV a b = false ∧ lessV b a = true ∧ signV a b = 1) ∨ (lessV a b = false ∧ sameV a b = true ∧ lessV b a = false ∧ signV a b = 0) := by
  unfold lessV sameV signV
  rcases cmpN_cases a.n b.n with ⟨h1, h2⟩ | ⟨h1, h2⟩ | ⟨h1, h2⟩
  · refine .inl ?_
    rw [h2, if_pos (by decide)]
    have e1 : ¬ b.n < a.n := by omega
    have e2 : ¬ a.n = b.n := by omega
    have e3 : ¬ b.n = a.n := by omega
    simp [h1, e1, e2, e3]
  · refine .inr (.inl ?_)
    rw [h2, if_pos (by decide)]
    have e1 : ¬ a.n < b.n := by omega
    have e2 : ¬ a.n = b.n := by omega
    simp [h1, e1, e2]
  · rw [h2, if_neg (by decide), h1]
    simp only [Int.lt_irrefl, decide_false, Bool.false_or, decide_true, Bool.true_and]
    rcases cmpS_cases a.s b.s with ⟨h3, h4⟩ | ⟨h3, h4⟩ | ⟨h3, h4⟩
    · refine .inl ⟨h3, ?_, less_asymm _ _ h3, h4⟩
      rw [decide_eq_false_iff_not]
      intro e
      rw [e, less_irrefl] at h3
      cases h3
    · refine .inr (.inl ⟨less_asymm _ _ h3, ?_, h3, h4⟩)
      rw [decide_eq_false_iff_not]
      intro e
      rw [e, less_irrefl] at h3
      cases h3
    · refine .inr (.inr ⟨?_, decide_eq_true h3, ?_, h4⟩)
      · rw [h3, less_irrefl]
      · rw [h3, less_irrefl]

/-- Whether a comparison is so, of what is less (0), equal (1), greater (2). -/
def holdsV (op : Int) (i : Int) : Bool :=
  if op = 1 then decide (i = 1) else if op = 2 then decide (i ≠ 1) else if op = 3 then decide (i = 0) else if op = 4 then decide (i ≠ 2) else if op = 5 then decide (i = 2) else decide (i ≠ 0)

/-- What Compare answers. -/
def cmpV (op : Int) (a b : PVal) : Bool × Int :=
  if rightB a = false ∨ rightB b = false ∨ op < 1 ∨ 6 < op then (false, 1)
  else if a.k ≠ b.k ∨ a.k = 3 ∧ op ≠ 1 ∧ op ≠ 2 then (false, 42)
  else (holdsV op (1 + signV a b), 0)

/-- What the document's does. -/
def refC (op : Int) (a b : PVal) : Bool :=
  if op = 1 then sameV a b else if op = 2 then !sameV a b else if op = 3 then lessV a b else if op = 4 then lessV a b || sameV a b else if op = 5 then !lessV a b && !sameV a b else !lessV a b

theorem holdsV_ref (op : Int) (a b : PVal) : holdsV op (1 + signV a b) = refC op a b := by
  unfold holdsV refC
  rcases signV_cases a b with ⟨h1, h2, _, h3⟩ | ⟨h1, h2, _, h3⟩ | ⟨h1, h2, _, h3⟩ <;> rw [h1, h2, h3] <;> simp

/-- What Add (t = 1) and Sub (t = -1) answer. -/
def sumV (a b : PVal) (t : Int) : PVal × Int :=
  if rightB a = false ∨ rightB b = false then (⟨0, 0, []⟩, 1)
  else if a.k ≠ 1 ∨ b.k ≠ 1 then (⟨0, 0, []⟩, 42)
  else if rightB ⟨1, a.n + t * b.n, []⟩ = true then (⟨1, a.n + t * b.n, []⟩, 0) else (⟨0, 0, []⟩, 41)

end Go.Proofs.Ytefcbgnckgapgaa
