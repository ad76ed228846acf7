/- Values in plain words: numbers as digits of base 128, put and read; a value's bytes, there and back. -/
import Derived.Test.YtefcbgnckgapgaaRows
namespace Go.Proofs.Ytefcbgnckgapgaa

/-- A number's digits of base 128, the lowest first; 128 is added to all but the last. -/
def digsN (n : Nat) : List UInt8 := if n < 128 then [UInt8.ofNat n] else UInt8.ofNat (128 + n % 128) :: digsN (n / 128)
termination_by n
decreasing_by omega

theorem digsN_lt {n : Nat} (h : n < 128) : digsN n = [UInt8.ofNat n] := by rw [digsN, if_pos h]
theorem digsN_ge {n : Nat} (h : 128 ≤ n) : digsN n = UInt8.ofNat (128 + n % 128) :: digsN (n / 128) := by rw [digsN, if_neg (by omega)]

theorem u8_ofNat {n : Nat} (h : n < 256) : (UInt8.ofNat n).toNat = n := by simp; omega

/-- Digits read: what is left, how many were read, what they are so far. -/
def dgo : List UInt8 → Nat → Nat → Nat × Nat
  | [], _, _ => (0, 0)
  | c :: l, i, n => if c.toNat < 128 then (if c.toNat = 0 ∧ 0 < i then (0, 0) else (n + c.toNat % 128 * 128 ^ i, i + 1)) else dgo l (i + 1) (n + c.toNat % 128 * 128 ^ i)

theorem digsN_pos (n : Nat) : 0 < (digsN n).length := by
  by_cases h : n < 128
  · rw [digsN_lt h]; simp
  · rw [digsN_ge (by omega)]; simp

/-- A number's digits are read as that number. -/
theorem dgo_digs : ∀ (n : Nat) (K i a : Nat) (t : List UInt8), (digsN n).length ≤ K → (i = 0 ∨ 0 < n) → dgo ((digsN n ++ t).take K) i a = (a + n * 128 ^ i, i + (digsN n).length) := by
  intro n
  induction n using Nat.strongRecOn with
  | _ n ih =>
    intro K i a t hK hi
    by_cases h : n < 128
    · rw [digsN_lt h] at hK ⊢
      simp at hK
      obtain ⟨K', rfl⟩ : ∃ K', K = K' + 1 := ⟨K - 1, by omega⟩
      have e : (UInt8.ofNat n).toNat = n := u8_ofNat (by omega)
      simp only [List.cons_append, List.take_succ_cons, dgo, e]
      rw [if_pos h, if_neg (by omega), Nat.mod_eq_of_lt h]
      rfl
    · rw [digsN_ge (by omega)] at hK ⊢
      simp at hK
      obtain ⟨K', rfl⟩ : ∃ K', K = K' + 1 := ⟨K - 1, by omega⟩
      have e : (UInt8.ofNat (128 + n % 128)).toNat = 128 + n % 128 := u8_ofNat (by omega)
      simp only [List.cons_append, List.take_succ_cons, dgo, e]
      rw [if_neg (by omega), ih (n / 128) (by omega) K' (i + 1) _ t (by omega) (.inr (by omega))]
      have e2 : (128 + n % 128) % 128 = n % 128 := by omega
      have e3 : n = n / 128 * 128 + n % 128 := by omega
      refine Prod.ext ?_ ?_
      · show a + (128 + n % 128) % 128 * 128 ^ i + n / 128 * 128 ^ (i + 1) = a + n * 128 ^ i
        rw [e2, Nat.pow_succ]
        have e4 : n * 128 ^ i = (n / 128 * 128 + n % 128) * 128 ^ i := by rw [← e3]
        rw [e4, Nat.add_mul, Nat.mul_assoc, Nat.mul_comm 128]
        omega
      · show i + 1 + (digsN (n / 128)).length = i + (digsN (n / 128)).length.succ
        omega

/-- What is read as a number begins with its digits. -/
theorem dgo_back : ∀ (l : List UInt8) (i a n k : Nat), dgo l i a = (n, k) → 0 < k → ∃ m d : Nat, n = a + m * 128 ^ i ∧ k = i + d ∧ d ≤ l.length ∧ digsN m = l.take d ∧ (0 < i → 0 < m) ∧ 0 < d
  | [], i, a, n, k, h, hk => by simp [dgo] at h; omega
  | c :: l, i, a, n, k, h, hk => by
    rw [dgo] at h
    have hc := c.toNat_lt
    split at h
    · rename_i hlt
      split at h
      · simp at h; omega
      · rename_i h0
        simp only [Prod.mk.injEq] at h
        obtain ⟨rfl, rfl⟩ := h
        refine ⟨c.toNat, 1, by rw [Nat.mod_eq_of_lt hlt], rfl, by simp, ?_, fun hi => by omega, by omega⟩
        rw [digsN_lt hlt]
        simp
    · rename_i hge
      obtain ⟨m, d, rfl, rfl, hd, hm, hp, hd0⟩ := dgo_back l (i + 1) _ n k h hk
      have hmp := hp (by omega)
      refine ⟨m * 128 + c.toNat % 128, d + 1, ?_, by omega, by simp; omega, ?_, fun _ => by omega, by omega⟩
      · rw [Nat.pow_succ, Nat.add_mul, Nat.mul_assoc, Nat.mul_comm 128]
        omega
      · rw [digsN_ge (by omega), show (m * 128 + c.toNat % 128) / 128 = m by omega, hm, List.take_succ_cons]
        congr 1
        apply UInt8.toNat_inj.1
        rw [u8_ofNat (by omega)]
        omega

theorem digsN_len : ∀ (k n : Nat), 0 < k → n < 128 ^ k → (digsN n).length ≤ k
  | 0, n, h, _ => by omega
  | k + 1, n, _, h => by
    by_cases hn : n < 128
    · rw [digsN_lt hn]; simp
    · rw [digsN_ge (by omega)]
      have hk : 0 < k := by
        rcases Nat.eq_zero_or_pos k with rfl | h0
        · simp at h; omega
        · exact h0
      have h2 : n / 128 < 128 ^ k := by
        rw [Nat.pow_succ] at h
        omega
      have := digsN_len k (n / 128) hk h2
      simp; omega

/-- Of a number up to 2 ^ 42. -/
theorem digsN_six {n : Nat} (h : n < 4398046511104) : (digsN n).length ≤ 6 := digsN_len 6 n (by omega) (by simpa using h)

/-- What stands behind a right Int's kind. -/
def zigN (n : Int) : Nat := if n < 0 then (-2 * n - 1).toNat else (2 * n).toNat
/-- The other way about. -/
def zagN (n : Nat) : Int := if n % 2 = 1 then -((n / 2 : Nat) : Int) - 1 else ((n / 2 : Nat) : Int)
theorem zag_zig (n : Int) : zagN (zigN n) = n := by unfold zagN zigN; split <;> split <;> omega
theorem zig_zag (n : Nat) : zigN (zagN n) = n := by unfold zagN zigN; split <;> split <;> omega
theorem zig_lt {n : Int} (h1 : -1099511627776 ≤ n) (h2 : n ≤ 1099511627776) : zigN n ≤ 2199023255552 := by unfold zigN; split <;> omega
theorem zag_lt {n : Nat} (h2 : n < 4398046511104) : -2199023255552 ≤ zagN n ∧ zagN n < 2199023255552 := by unfold zagN; split <;> omega

/-- A value in plain words: its kind, its number, its text. -/
structure PVal where
  k : Int
  n : Int
  s : List UInt8

instance : DecidableEq PVal := fun a b =>
  if h : a.k = b.k ∧ a.n = b.n ∧ a.s = b.s then isTrue (by cases a; cases b; simp_all) else isFalse (fun e => h (by rw [e]; exact ⟨rfl, rfl, rfl⟩))

/-- Is a value right? -/
def rightB (v : PVal) : Bool :=
  if v.k = 1 then decide (-1099511627776 ≤ v.n ∧ v.n ≤ 1099511627776 ∧ v.s = [])
  else if v.k = 2 then decide (v.n = 0 ∧ v.s.length ≤ 64)
  else if v.k = 3 then decide (0 ≤ v.n ∧ v.n ≤ 1 ∧ v.s = [])
  else false

theorem rightB_kind {v : PVal} (h : rightB v = true) : v.k = 1 ∨ v.k = 2 ∨ v.k = 3 := by
  unfold rightB at h
  split at h
  · exact .inl ‹_›
  · split at h
    · exact .inr (.inl ‹_›)
    · split at h
      · exact .inr (.inr ‹_›)
      · cases h
theorem rightB_1 {n : Int} {s : List UInt8} : rightB ⟨1, n, s⟩ = true ↔ -1099511627776 ≤ n ∧ n ≤ 1099511627776 ∧ s = [] := by simp [rightB]
theorem rightB_2 {n : Int} {s : List UInt8} : rightB ⟨2, n, s⟩ = true ↔ n = 0 ∧ s.length ≤ 64 := by simp [rightB]
theorem rightB_3 {n : Int} {s : List UInt8} : rightB ⟨3, n, s⟩ = true ↔ 0 ≤ n ∧ n ≤ 1 ∧ s = [] := by simp [rightB]

/-- A right value's bytes. -/
def putV (v : PVal) : List UInt8 :=
  if rightB v then
    (if v.k = 1 then 1 :: digsN (zigN v.n) else if v.k = 2 then 2 :: UInt8.ofNat v.s.length :: v.s else [3, UInt8.ofNat v.n.toNat])
  else []

theorem putV_1 {n : Int} (h1 : -1099511627776 ≤ n) (h2 : n ≤ 1099511627776) : putV ⟨1, n, []⟩ = 1 :: digsN (zigN n) := by
  unfold putV; rw [if_pos (rightB_1.2 ⟨h1, h2, rfl⟩)]; rfl
theorem putV_2 {s : List UInt8} (h : s.length ≤ 64) : putV ⟨2, 0, s⟩ = 2 :: UInt8.ofNat s.length :: s := by
  unfold putV; rw [if_pos (rightB_2.2 ⟨rfl, h⟩)]; rfl
theorem putV_3 {n : Int} (h1 : 0 ≤ n) (h2 : n ≤ 1) : putV ⟨3, n, []⟩ = [3, UInt8.ofNat n.toNat] := by
  unfold putV; rw [if_pos (rightB_3.2 ⟨h1, h2, rfl⟩)]; rfl
theorem putV_not {v : PVal} (h : rightB v = false) : putV v = [] := by unfold putV; rw [h]; rfl

/-- What a way of reading values must tell. -/
structure Reads (g : List UInt8 → Option (PVal × Nat)) : Prop where
  there : ∀ v t, rightB v = true → g (putV v ++ t) = some (v, (putV v).length)
  back : ∀ l v k, g l = some (v, k) → rightB v = true ∧ k ≤ l.length ∧ putV v = l.take k

/-- Two ways that do tell the same. -/
theorem Reads.same {g g' : List UInt8 → Option (PVal × Nat)} (h : Reads g) (h' : Reads g') (l : List UInt8) : g l = g' l := by
  have key : ∀ {g g' : List UInt8 → Option (PVal × Nat)}, Reads g → Reads g' → ∀ v k, g l = some (v, k) → g' l = some (v, k) := fun {g g'} h h' v k e => by
    obtain ⟨h1, h2, h3⟩ := h.back l v k e
    have e2 := h'.there v (l.drop k) h1
    rw [h3, List.take_append_drop, List.length_take, Nat.min_eq_left h2] at e2
    exact e2
  cases e : g l with
  | some x => exact (key h h' x.1 x.2 e).symm
  | none =>
    cases e' : g' l with
    | none => rfl
    | some x => rw [key h' h x.1 x.2 e'] at e; cases e

/-- Bytes that begin no value's, but for their last. -/
theorem Reads.cut {g : List UInt8 → Option (PVal × Nat)} (h : Reads g) {v : PVal} (hv : rightB v = true) {m : Nat} (hm : m < (putV v).length) : g ((putV v).take m) = none := by
  cases e : g ((putV v).take m) with
  | none => rfl
  | some x =>
    exfalso
    obtain ⟨h1, h2, h3⟩ := h.back _ x.1 x.2 e
    rw [List.length_take] at h2
    rw [List.take_take, Nat.min_eq_left (by omega)] at h3
    have e1 := h.there x.1 ((putV v).drop x.2) h1
    rw [h3, List.take_append_drop] at e1
    have e2 := h.there v [] hv
    rw [List.append_nil, e1] at e2
    simp only [Option.some.injEq, Prod.mk.injEq, List.length_take] at e2
    omega

/-- What the program's Get reads. -/
def getV (l : List UInt8) : Option (PVal × Nat) :=
  match l with
  | [] => none
  | c :: l =>
    let d := dgo (l.take 6) 0 0
    if d.2 = 0 then none else
    if c.toNat = 2 then (if min (l.drop d.2).length 64 < d.1 then none else some (⟨2, 0, (l.drop d.2).take d.1⟩, 1 + d.2 + d.1))
    else if c.toNat = 3 then (if d.1 ≤ 1 then some (⟨3, d.1, []⟩, 1 + d.2) else none)
    else if c.toNat = 1 then (if -1099511627776 ≤ zagN d.1 ∧ zagN d.1 ≤ 1099511627776 then some (⟨1, zagN d.1, []⟩, 1 + d.2) else none)
    else none

end Go.Proofs.Ytefcbgnckgapgaa
