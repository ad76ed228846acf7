/- Events in plain words: words, what is right, bytes there and back, what is ahead. -/
import Derived.Test.YtefcbgnckgapgaaV1
namespace Go.Proofs.Ytefcbgnckgapgaa

def letterB (c : UInt8) : Bool := decide (97 ≤ c.toNat ∧ c.toNat ≤ 122)
def charB (c : UInt8) : Bool := letterB c || (decide (c.toNat = 95) || decide (48 ≤ c.toNat ∧ c.toNat ≤ 57))

/-- A word. -/
def wordB : List UInt8 → Bool
  | [] => false
  | c :: t => letterB c && (decide (t.length ≤ 15) && t.all charB)

/-- An event in plain words. -/
structure PEv where
  ts : Int
  dep : Int
  seq : Int
  name : List UInt8
  vals : List PVal

/-- The least and the greatest that may be. -/
def numB (n : Int) : Bool := decide (0 ≤ n ∧ n ≤ 1099511627776)

/-- Is an event right? -/
def rightE (e : PEv) : Bool := numB e.ts && (numB e.seq && (decide (0 ≤ e.dep ∧ e.dep ≤ 3) && (wordB e.name && (decide (e.vals.length ≤ 8) && e.vals.all rightB))))

theorem numB_iff {n : Int} : numB n = true ↔ 0 ≤ n ∧ n ≤ 1099511627776 := by simp [numB]
theorem rightE_iff {e : PEv} : rightE e = true ↔ (0 ≤ e.ts ∧ e.ts ≤ 1099511627776) ∧ (0 ≤ e.seq ∧ e.seq ≤ 1099511627776) ∧ (0 ≤ e.dep ∧ e.dep ≤ 3) ∧ wordB e.name = true ∧ e.vals.length ≤ 8 ∧ e.vals.all rightB = true := by
  simp only [rightE, numB, Bool.and_eq_true, decide_eq_true_eq]

theorem wordB_len {l : List UInt8} (h : wordB l = true) : 1 ≤ l.length ∧ l.length ≤ 16 := by
  cases l with
  | nil => cases h
  | cons c t =>
    simp only [wordB, Bool.and_eq_true, decide_eq_true_eq] at h
    simp only [List.length_cons]
    omega

/-- Values' bytes, one behind the other. -/
def putVs : List PVal → List UInt8
  | [] => []
  | v :: l => putV v ++ putVs l

/-- An event's bytes, if it is right. -/
def bodyE (e : PEv) : List UInt8 := digsN e.ts.toNat ++ (digsN e.dep.toNat ++ (digsN e.seq.toNat ++ (digsN e.name.length ++ (e.name ++ (digsN e.vals.length ++ putVs e.vals)))))
def putE (e : PEv) : List UInt8 := if rightE e then bodyE e else []

/-- A number of digits, however they are written: it and how many bytes were looked at. -/
def fstD : List UInt8 → Nat → Nat → Nat × Nat
  | [], i, n => (n, i)
  | c :: l, i, n => if c.toNat < 128 then (n + c.toNat % 128 * 128 ^ i, i + 1) else fstD l (i + 1) (n + c.toNat % 128 * 128 ^ i)
def firstD (l : List UInt8) : Nat × Nat := fstD (l.take 6) 0 0

theorem fstD_digs : ∀ (n : Nat) (K i a : Nat) (t : List UInt8), (digsN n).length ≤ K → fstD ((digsN n ++ t).take K) i a = (a + n * 128 ^ i, i + (digsN n).length) := by
  intro n
  induction n using Nat.strongRecOn with
  | _ n ih =>
    intro K i a t hK
    by_cases h : n < 128
    · rw [digsN_lt h] at hK ⊢
      simp at hK
      obtain ⟨K', rfl⟩ : ∃ K', K = K' + 1 := ⟨K - 1, by omega⟩
      have e : (UInt8.ofNat n).toNat = n := u8_ofNat (by omega)
      simp only [List.cons_append, List.take_succ_cons, fstD, e]
      rw [if_pos h, Nat.mod_eq_of_lt h]
      rfl
    · rw [digsN_ge (by omega)] at hK ⊢
      simp at hK
      obtain ⟨K', rfl⟩ : ∃ K', K = K' + 1 := ⟨K - 1, by omega⟩
      have e : (UInt8.ofNat (128 + n % 128)).toNat = 128 + n % 128 := u8_ofNat (by omega)
      simp only [List.cons_append, List.take_succ_cons, fstD, e]
      rw [if_neg (by omega), ih (n / 128) (by omega) K' (i + 1) _ t (by omega)]
      have e2 : (128 + n % 128) % 128 = n % 128 := by omega
      have e3 : n = n / 128 * 128 + n % 128 := by omega
      refine Prod.ext ?_ ?_
      · show a + (128 + n % 128) % 128 * 128 ^ i + n / 128 * 128 ^ (i + 1) = a + n * 128 ^ i
        rw [e2, Nat.pow_succ]
        have e4 : n * 128 ^ i = (n / 128 * 128 + n % 128) * 128 ^ i := by rw [← e3]
        rw [e4, Nat.add_mul, Nat.mul_assoc, Nat.mul_comm 128]
        omega
      · show i + 1 + (digsN (n / 128)).length = i + (digsN (n / 128)).length.succ
        omega

theorem firstD_digs {n : Nat} (h : n < 4398046511104) (t : List UInt8) : firstD (digsN n ++ t) = (n, (digsN n).length) := by
  unfold firstD
  rw [fstD_digs n 6 0 0 t (digsN_six h)]
  simp

theorem fstD_le : ∀ (l : List UInt8) (i a : Nat), (fstD l i a).2 ≤ i + l.length
  | [], i, a => by simp [fstD]
  | c :: l, i, a => by
    rw [fstD]
    split
    · simp
    · have := fstD_le l (i + 1) (a + c.toNat % 128 * 128 ^ i)
      simp only [List.length_cons]
      omega
theorem firstD_le (l : List UInt8) : (firstD l).2 ≤ l.length ∧ (firstD l).2 ≤ 6 := by
  have := fstD_le (l.take 6) 0 0
  rw [List.length_take] at this
  unfold firstD
  omega

theorem fstD_lt : ∀ (l : List UInt8) (i a : Nat), a < 128 ^ i → (fstD l i a).1 < 128 ^ (i + l.length)
  | [], i, a, h => by simpa [fstD] using h
  | c :: l, i, a, h => by
    have h5 := Nat.mod_lt c.toNat (show 0 < 128 by omega)
    have h6 : c.toNat % 128 * 128 ^ i ≤ 127 * 128 ^ i := Nat.mul_le_mul_right _ (by omega)
    have h7 : a + c.toNat % 128 * 128 ^ i < 128 ^ (i + 1) := by rw [Nat.pow_succ]; omega
    rw [fstD]
    split
    · exact Nat.lt_of_lt_of_le h7 (Nat.pow_le_pow_right (by omega) (by simp))
    · have := fstD_lt l (i + 1) _ h7
      rw [show i + (c :: l).length = i + 1 + l.length by simp; omega]
      exact this
theorem firstD_lt (l : List UInt8) : (firstD l).1 < 4398046511104 := by
  have h := fstD_lt (l.take 6) 0 0 (by simp)
  have h2 : 128 ^ (0 + (l.take 6).length) ≤ 128 ^ 6 := Nat.pow_le_pow_right (by omega) (by rw [List.length_take]; omega)
  unfold firstD
  exact Nat.lt_of_lt_of_le h (by simpa using h2)

/-- Values that are read, and the bytes that are left. -/
def valsD : Nat → List UInt8 → List PVal × List UInt8
  | 0, b => ([], b)
  | k + 1, b => match getV b with
    | some (v, m) => (v :: (valsD k (b.drop m)).1, (valsD k (b.drop m)).2)
    | none => (⟨0, 0, []⟩ :: (valsD k b).1, (valsD k b).2)

theorem valsD_len : ∀ (k : Nat) (b : List UInt8), (valsD k b).1.length = k
  | 0, b => rfl
  | k + 1, b => by
    rw [valsD]
    cases getV b with
    | none => simp [valsD_len]
    | some x => simp [valsD_len]

theorem valsD_put : ∀ (l : List PVal) (t : List UInt8), l.all rightB = true → valsD l.length (putVs l ++ t) = (l, t)
  | [], t, _ => rfl
  | v :: l, t, h => by
    simp only [List.all_cons, Bool.and_eq_true] at h
    have e := getV_reads.there v (putVs l ++ t) h.1
    simp only [putVs, List.append_assoc, List.length_cons, valsD, e, List.drop_left, valsD_put l t h.2]

/-- What the program reads of any bytes. -/
def readE (b : List UInt8) : PEv :=
  let b1 := b.drop (firstD b).2
  let b2 := b1.drop (firstD b1).2
  let b3 := b2.drop (firstD b2).2
  let b4 := b3.drop (firstD b3).2
  let m := min (firstD b3).1 16
  let b5 := b4.drop m
  let b6 := b5.drop (firstD b5).2
  ⟨(firstD b).1, (firstD b1).1, (firstD b2).1, b4.take m, (valsD (min (firstD b5).1 8) b6).1⟩

theorem readE_body {e : PEv} (h : rightE e = true) (t : List UInt8) : readE (bodyE e ++ t) = e := by
  obtain ⟨⟨h1, h2⟩, ⟨h3, h4⟩, ⟨h5, h6⟩, h7, h8, h9⟩ := rightE_iff.1 h
  have hw := wordB_len h7
  have f : ∀ {n : Nat} (t : List UInt8), n < 4398046511104 → firstD (digsN n ++ t) = (n, (digsN n).length) := fun t h => firstD_digs h t
  unfold readE bodyE
  simp only [List.append_assoc]
  rw [f _ (by omega)]
  simp only [List.drop_left]
  rw [f _ (by omega)]
  simp only [List.drop_left]
  rw [f _ (by omega)]
  simp only [List.drop_left]
  rw [f _ (by omega)]
  simp only [List.drop_left, Nat.min_eq_left hw.2, List.take_left]
  rw [f _ (by omega)]
  simp only [List.drop_left, Nat.min_eq_left h8]
  rw [valsD_put _ _ h9]
  cases e
  simp only [PEv.mk.injEq, and_true]
  simp only at h1 h3 h5
  refine ⟨?_, ?_, ?_⟩ <;> omega

theorem putE_right {e : PEv} (h : rightE e = true) : putE e = bodyE e := by unfold putE; rw [if_pos h]
theorem putE_not {e : PEv} (h : rightE e = false) : putE e = [] := by unfold putE; rw [h]; rfl
theorem digs_ne (n : Nat) (t : List UInt8) : digsN n ++ t ≠ [] := by
  have := digsN_pos n
  intro e
  rw [List.append_eq_nil_iff] at e
  rw [e.1] at this
  simp at this
theorem putE_ne {e : PEv} (h : rightE e = true) : putE e ≠ [] := by rw [putE_right h]; exact digs_ne _ _

/-- What Get reads. -/
def getE (b : List UInt8) : Option PEv := if rightE (readE b) && decide (putE (readE b) = b) then some (readE b) else none

theorem getE_put {e : PEv} (h : rightE e = true) : getE (putE e) = some e := by
  have h1 : readE (putE e) = e := by
    have := readE_body h []
    rwa [List.append_nil, ← putE_right h] at this
  unfold getE
  rw [h1, h]
  simp

theorem getE_some {b : List UInt8} {e : PEv} (h : getE b = some e) : rightE e = true ∧ putE e = b ∧ e = readE b := by
  unfold getE at h
  split at h
  · rename_i hc
    simp only [Bool.and_eq_true, decide_eq_true_eq] at hc
    injection h with h
    rw [← h]
    exact ⟨hc.1, hc.2, rfl⟩
  · cases h

/-- Of an event's bytes with any behind none are another's. -/
theorem putE_front {e f : PEv} (h : rightE e = true) (h' : rightE f = true) {t : List UInt8} (ht : putE f = putE e ++ t) : e = f ∧ t = [] := by
  have h1 : readE (putE f) = f := by
    have := readE_body h' []
    rwa [List.append_nil, ← putE_right h'] at this
  have h2 : readE (putE e ++ t) = e := by rw [putE_right h]; exact readE_body h t
  have h3 : e = f := by rw [← h2, ← ht, h1]
  refine ⟨h3, ?_⟩
  rw [h3] at ht
  have := congrArg List.length ht
  rw [List.length_append] at this
  exact List.length_eq_zero_iff.1 (by omega)

theorem getE_cut {e : PEv} (h : rightE e = true) {m : Nat} (hm : m < (putE e).length) : getE ((putE e).take m) = none := by
  cases hx : getE ((putE e).take m) with
  | none => rfl
  | some f =>
    exfalso
    obtain ⟨h1, h2, _⟩ := getE_some hx
    have h3 : putE e = putE f ++ (putE e).drop m := by rw [h2, List.take_append_drop]
    have h4 := (putE_front h1 h h3).2
    have := congrArg List.length h4
    rw [List.length_drop] at this
    simp at this
    omega

theorem getE_more {e : PEv} (h : rightE e = true) (c : UInt8) : getE (putE e ++ [c]) = none := by
  cases hx : getE (putE e ++ [c]) with
  | none => rfl
  | some f =>
    exfalso
    obtain ⟨h1, h2, _⟩ := getE_some hx
    have h4 := (putE_front h h1 h2).2
    cases h4

/-- Is one ahead of another? -/
def lessE (t d s t' d' s' : Int) : Bool := decide (t < t' ∨ t = t' ∧ (d < d' ∨ d = d' ∧ s < s'))

end Go.Proofs.Ytefcbgnckgapgaa
