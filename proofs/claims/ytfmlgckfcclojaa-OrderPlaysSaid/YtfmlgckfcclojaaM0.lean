/- Values in plain words: numbers as digits of base 128, put and read; a value's bytes, there and back. | The program's way of reading a value, and the document's, tell what a way must. | Events in plain words: words, what is right, bytes there and back, what is ahead. | Values compared and reckoned with, in plain words. | Values: Right, written, and cmp's functions. | Whole numbers below 1024 as floats of 64 bits: sums, differences, comparisons and the way back to whole numbers are exact. | The sum of a record: rest, step, Sum. | Bytes that can be read; two bytes of a number, put and read. -/
import Derived.Test.YtfmlgckfcclojaaRows
import Derived.WalkKit
import Derived.WalkSpells
import Derived.WalkLawsBesides
import Derived.Lib.Hide
import Derived.Lib.Strings
import Derived.Laws.FloatArith
import Derived.ScopeJumps
import Derived.Lib.ConvBytes
import Derived.Laws.BytesArg
import Derived.Lib.AppendStr
import Derived.Laws.MakeOwn
import Derived.Maps.AppendAt
import Derived.Deep.QuietTactic
import Derived.BigQuiet
import Derived.IntWalk
import Derived.Lib.BufferWrite
namespace Go.Proofs.Ytfmlgckfcclojaa

/-- A number's digits of base 128, the lowest first; 128 is added to all but the last. -/
def digsN (n : Nat) : List UInt8 := if n < 128 then [UInt8.ofNat n] else UInt8.ofNat (128 + n % 128) :: digsN (n / 128)
termination_by n
decreasing_by omega

theorem digsN_lt {n : Nat} (h : n < 128) : digsN n = [UInt8.ofNat n] := by rw [digsN, if_pos h]
theorem digsN_ge {n : Nat} (h : 128 ≤ n) : digsN n = UInt8.ofNat (128 + n % 128) :: digsN (n / 128) := by rw [digsN, if_neg (by omega)]

theorem u8_ofNat {n : Nat} (h : n < 256) : (UInt8.ofNat n).toNat = n := by simp; omega

/-- Digits read: what is left, how many were read, what they are so far. -/
def dgo : List UInt8 → Nat → Nat → Nat × Nat
  | [], _, _ => (0, 0)
  | c :: l, i, n => if c.toNat < 128 then (if c.toNat = 0 ∧ 0 < i then (0, 0) else (n + c.toNat % 128 * 128 ^ i, i + 1)) else dgo l (i + 1) (n + c.toNat % 128 * 128 ^ i)

theorem digsN_pos (n : Nat) : 0 < (digsN n).length := by
  by_cases h : n < 128
  · rw [digsN_lt h]; simp
  · rw [digsN_ge (by omega)]; simp

/-- A number's digits are read as that number. -/
theorem dgo_digs : ∀ (n : Nat) (K i a : Nat) (t : List UInt8), (digsN n).length ≤ K → (i = 0 ∨ 0 < n) → dgo ((digsN n ++ t).take K) i a = (a + n * 128 ^ i, i + (digsN n).length) := by
  intro n
  induction n using Nat.strongRecOn with
  | _ n ih =>
    intro K i a t hK hi
    by_cases h : n < 128
    · rw [digsN_lt h] at hK ⊢
      simp at hK
      obtain ⟨K', rfl⟩ : ∃ K', K = K' + 1 := ⟨K - 1, by omega⟩
      have e : (UInt8.ofNat n).toNat = n := u8_ofNat (by omega)
      simp only [List.cons_append, List.take_succ_cons, dgo, e]
      rw [if_pos h, if_neg (by omega), Nat.mod_eq_of_lt h]
      rfl
    · rw [digsN_ge (by omega)] at hK ⊢
      simp at hK
      obtain ⟨K', rfl⟩ : ∃ K', K = K' + 1 := ⟨K - 1, by omega⟩
      have e : (UInt8.ofNat (128 + n % 128)).toNat = 128 + n % 128 := u8_ofNat (by omega)
      simp only [List.cons_append, List.take_succ_cons, dgo, e]
      rw [if_neg (by omega), ih (n / 128) (by omega) K' (i + 1) _ t (by omega) (.inr (by omega))]
      have e2 : (128 + n % 128) % 128 = n % 128 := by omega
      have e3 : n = n / 128 * 128 + n % 128 := by omega
      refine Prod.ext ?_ ?_
      · show a + (128 + n % 128) % 128 * 128 ^ i + n / 128 * 128 ^ (i + 1) = a + n * 128 ^ i
        rw [e2, Nat.pow_succ]
        have e4 : n * 128 ^ i = (n / 128 * 128 + n % 128) * 128 ^ i := by rw [← e3]
        rw [e4, Nat.add_mul, Nat.mul_assoc, Nat.mul_comm 128]
        omega
      · show i + 1 + (digsN (n / 128)).length = i + (digsN (n / 128)).length.succ
        omega

/-- What is read as a number begins with its digits. -/
theorem dgo_back : ∀ (l : List UInt8) (i a n k : Nat), dgo l i a = (n, k) → 0 < k → ∃ m d : Nat, n = a + m * 128 ^ i ∧ k = i + d ∧ d ≤ l.length ∧ digsN m = l.take d ∧ (0 < i → 0 < m) ∧ 0 < d
  | [], i, a, n, k, h, hk => by simp [dgo] at h; omega
  | c :: l, i, a, n, k, h, hk => by
    rw [dgo] at h
    have hc := c.toNat_lt
    split at h
    · rename_i hlt
      split at h
      · simp at h; omega
      · rename_i h0
        simp only [Prod.mk.injEq] at h
        obtain ⟨rfl, rfl⟩ := h
        refine ⟨c.toNat, 1, by rw [Nat.mod_eq_of_lt hlt], rfl, by simp, ?_, fun hi => by omega, by omega⟩
        rw [digsN_lt hlt]
        simp
    · rename_i hge
      obtain ⟨m, d, rfl, rfl, hd, hm, hp, hd0⟩ := dgo_back l (i + 1) _ n k h hk
      have hmp := hp (by omega)
      refine ⟨m * 128 + c.toNat % 128, d + 1, ?_, by omega, by simp; omega, ?_, fun _ => by omega, by omega⟩
      · rw [Nat.pow_succ, Nat.add_mul, Nat.mul_assoc, Nat.mul_comm 128]
        omega
      · rw [digsN_ge (by omega), show (m * 128 + c.toNat % 128) / 128 = m by omega, hm, List.take_succ_cons]
        congr 1
        apply UInt8.toNat_inj.1
        rw [u8_ofNat (by omega)]
        omega

theorem digsN_len : ∀ (k n : Nat), 0 < k → n < 128 ^ k → (digsN n).length ≤ k
  | 0, n, h, _ => by omega
  | k + 1, n, _, h => by
    by_cases hn : n < 128
    · rw [digsN_lt hn]; simp
    · rw [digsN_ge (by omega)]
      have hk : 0 < k := by
        rcases Nat.eq_zero_or_pos k with rfl | h0
        · simp at h; omega
        · exact h0
      have h2 : n / 128 < 128 ^ k := by
        rw [Nat.pow_succ] at h
        omega
      have := digsN_len k (n / 128) hk h2
      simp; omega

/-- Of a number up to 2 ^ 42. -/
theorem digsN_six {n : Nat} (h : n < 4398046511104) : (digsN n).length ≤ 6 := digsN_len 6 n (by omega) (by simpa using h)

/-- What stands behind a right Int's kind. -/
def zigN (n : Int) : Nat := if n < 0 then (-2 * n - 1).toNat else (2 * n).toNat
/-- The other way about. -/
def zagN (n : Nat) : Int := if n % 2 = 1 then -((n / 2 : Nat) : Int) - 1 else ((n / 2 : Nat) : Int)
theorem zag_zig (n : Int) : zagN (zigN n) = n := by unfold zagN zigN; split <;> split <;> omega
theorem zig_zag (n : Nat) : zigN (zagN n) = n := by unfold zagN zigN; split <;> split <;> omega
theorem zig_lt {n : Int} (h1 : -1099511627776 ≤ n) (h2 : n ≤ 1099511627776) : zigN n ≤ 2199023255552 := by unfold zigN; split <;> omega
theorem zag_lt {n : Nat} (h2 : n < 4398046511104) : -2199023255552 ≤ zagN n ∧ zagN n < 2199023255552 := by unfold zagN; split <;> omega

/-- A value in plain words: its kind, its number, its text. -/
structure PVal where
  k : Int
  n : Int
  s : List UInt8

instance : DecidableEq PVal := fun a b =>
  if h : a.k = b.k ∧ a.n = b.n ∧ a.s = b.s then isTrue (by cases a; cases b; simp_all) else isFalse (fun e => h (by rw [e]; exact ⟨rfl, rfl, rfl⟩))

/-- Is a value right? -/
def rightB (v : PVal) : Bool :=
  if v.k = 1 then decide (-1099511627776 ≤ v.n ∧ v.n ≤ 1099511627776 ∧ v.s = [])
  else if v.k = 2 then decide (v.n = 0 ∧ v.s.length ≤ 64)
  else if v.k = 3 then decide (0 ≤ v.n ∧ v.n ≤ 1 ∧ v.s = [])
  else false

theorem rightB_kind {v : PVal} (h : rightB v = true) : v.k = 1 ∨ v.k = 2 ∨ v.k = 3 := by
  unfold rightB at h
  split at h
  · exact .inl ‹_›
  · split at h
    · exact .inr (.inl ‹_›)
    · split at h
      · exact .inr (.inr ‹_›)
      · cases h
theorem rightB_1 {n : Int} {s : List UInt8} : rightB ⟨1, n, s⟩ = true ↔ -1099511627776 ≤ n ∧ n ≤ 1099511627776 ∧ s = [] := by simp [rightB]
theorem rightB_2 {n : Int} {s : List UInt8} : rightB ⟨2, n, s⟩ = true ↔ n = 0 ∧ s.length ≤ 64 := by simp [rightB]
theorem rightB_3 {n : Int} {s : List UInt8} : rightB ⟨3, n, s⟩ = true ↔ 0 ≤ n ∧ n ≤ 1 ∧ s = [] := by simp [rightB]

/-- A right value's bytes. -/
def putV (v : PVal) : List UInt8 :=
  if rightB v then
    (if v.k = 1 then 1 :: digsN (zigN v.n) else if v.k = 2 then 2 :: UInt8.ofNat v.s.length :: v.s else [3, UInt8.ofNat v.n.toNat])
  else []

theorem putV_1 {n : Int} (h1 : -1099511627776 ≤ n) (h2 : n ≤ 1099511627776) : putV ⟨1, n, []⟩ = 1 :: digsN (zigN n) := by
  unfold putV; rw [if_pos (rightB_1.2 ⟨h1, h2, rfl⟩)]; rfl
theorem putV_2 {s : List UInt8} (h : s.length ≤ 64) : putV ⟨2, 0, s⟩ = 2 :: UInt8.ofNat s.length :: s := by
  unfold putV; rw [if_pos (rightB_2.2 ⟨rfl, h⟩)]; rfl
theorem putV_3 {n : Int} (h1 : 0 ≤ n) (h2 : n ≤ 1) : putV ⟨3, n, []⟩ = [3, UInt8.ofNat n.toNat] := by
  unfold putV; rw [if_pos (rightB_3.2 ⟨h1, h2, rfl⟩)]; rfl
theorem putV_not {v : PVal} (h : rightB v = false) : putV v = [] := by unfold putV; rw [h]; rfl

/-- What a way of reading values must tell. -/
structure Reads (g : List UInt8 → Option (PVal × Nat)) : Prop where
  there : ∀ v t, rightB v = true → g (putV v ++ t) = some (v, (putV v).length)
  back : ∀ l v k, g l = some (v, k) → rightB v = true ∧ k ≤ l.length ∧ putV v = l.take k

/-- Two ways that do tell the same. -/
theorem Reads.same {g g' : List UInt8 → Option (PVal × Nat)} (h : Reads g) (h' : Reads g') (l : List UInt8) : g l = g' l := by
  have key : ∀ {g g' : List UInt8 → Option (PVal × Nat)}, Reads g → Reads g' → ∀ v k, g l = some (v, k) → g' l = some (v, k) := fun {g g'} h h' v k e => by
    obtain ⟨h1, h2, h3⟩ := h.back l v k e
    have e2 := h'.there v (l.drop k) h1
    rw [h3, List.take_append_drop, List.length_take, Nat.min_eq_left h2] at e2
    exact e2
  cases e : g l with
  | some x => exact (key h h' x.1 x.2 e).symm
  | none =>
    cases e' : g' l with
    | none => rfl
    | some x => rw [key h' h x.1 x.2 e'] at e; cases e

/-- Bytes that begin no value's, but for their last. -/
theorem Reads.cut {g : List UInt8 → Option (PVal × Nat)} (h : Reads g) {v : PVal} (hv : rightB v = true) {m : Nat} (hm : m < (putV v).length) : g ((putV v).take m) = none := by
  cases e : g ((putV v).take m) with
  | none => rfl
  | some x =>
    exfalso
    obtain ⟨h1, h2, h3⟩ := h.back _ x.1 x.2 e
    rw [List.length_take] at h2
    rw [List.take_take, Nat.min_eq_left (by omega)] at h3
    have e1 := h.there x.1 ((putV v).drop x.2) h1
    rw [h3, List.take_append_drop] at e1
    have e2 := h.there v [] hv
    rw [List.append_nil, e1] at e2
    simp only [Option.some.injEq, Prod.mk.injEq, List.length_take] at e2
    omega

/-- What the program's Get reads. -/
def getV (l : List UInt8) : Option (PVal × Nat) :=
  match l with
  | [] => none
  | c :: l =>
    let d := dgo (l.take 6) 0 0
    if d.2 = 0 then none else
    if c.toNat = 2 then (if min (l.drop d.2).length 64 < d.1 then none else some (⟨2, 0, (l.drop d.2).take d.1⟩, 1 + d.2 + d.1))
    else if c.toNat = 3 then (if d.1 ≤ 1 then some (⟨3, d.1, []⟩, 1 + d.2) else none)
    else if c.toNat = 1 then (if -1099511627776 ≤ zagN d.1 ∧ zagN d.1 ≤ 1099511627776 then some (⟨1, zagN d.1, []⟩, 1 + d.2) else none)
    else none

end Go.Proofs.Ytfmlgckfcclojaa
namespace Go.Proofs.Ytfmlgckfcclojaa

theorem dgo_there {n K : Nat} (t : List UInt8) (h : (digsN n).length ≤ K) : dgo ((digsN n ++ t).take K) 0 0 = (n, (digsN n).length) := by
  rw [dgo_digs n K 0 0 t h (.inl rfl)]
  simp

theorem dgo_said {l : List UInt8} {K : Nat} (h : (dgo (l.take K) 0 0).2 ≠ 0) : (dgo (l.take K) 0 0).2 ≤ l.length ∧ (dgo (l.take K) 0 0).2 ≤ K ∧ digsN (dgo (l.take K) 0 0).1 = l.take (dgo (l.take K) 0 0).2 := by
  obtain ⟨m, d, h1, h2, h3, h4, _, _⟩ := dgo_back (l.take K) 0 0 _ _ rfl (Nat.pos_of_ne_zero h)
  simp only [Nat.zero_add, Nat.pow_zero, Nat.mul_one] at h1 h2
  rw [List.length_take] at h3
  rw [List.take_take, Nat.min_eq_left (by omega)] at h4
  rw [h1, h2]
  exact ⟨by omega, by omega, h4⟩

theorem digsN_lt_pow : ∀ (n : Nat), n < 128 ^ (digsN n).length := by
  intro n
  induction n using Nat.strongRecOn with
  | _ n ih =>
    by_cases h : n < 128
    · rw [digsN_lt h]; simpa using h
    · rw [digsN_ge (by omega)]
      have := ih (n / 128) (by omega)
      simp only [List.length_cons, Nat.pow_succ]
      omega

theorem dgo_six {l : List UInt8} (h : (dgo (l.take 6) 0 0).2 ≠ 0) : (dgo (l.take 6) 0 0).1 < 4398046511104 := by
  obtain ⟨h1, h2, h3⟩ := dgo_said h
  have h4 := digsN_lt_pow (dgo (l.take 6) 0 0).1
  have h5 : (digsN (dgo (l.take 6) 0 0).1).length ≤ 6 := by rw [h3, List.length_take]; omega
  exact Nat.lt_of_lt_of_le h4 (Nat.pow_le_pow_right (by omega) h5)

theorem dgo_one {l : List UInt8} {K : Nat} (h : (dgo (l.take K) 0 0).2 ≠ 0) (hn : (dgo (l.take K) 0 0).1 < 128) : (dgo (l.take K) 0 0).2 = 1 ∧ l.take 1 = [UInt8.ofNat (dgo (l.take K) 0 0).1] := by
  obtain ⟨h1, h2, h3⟩ := dgo_said h
  rw [digsN_lt hn] at h3
  have h4 := congrArg List.length h3
  rw [List.length_take] at h4
  simp at h4
  have h5 : (dgo (l.take K) 0 0).2 = 1 := by omega
  exact ⟨h5, by rw [← h5]; exact h3.symm⟩

theorem u8_eq {c : UInt8} {n : Nat} (h : c.toNat = n) : c = UInt8.ofNat n := by
  apply UInt8.toNat_inj.1
  have := c.toNat_lt
  rw [u8_ofNat (by omega), h]

theorem getV_reads : Reads getV where
  there v t hv := by
    obtain ⟨k, n, s⟩ := v
    rcases rightB_kind hv with h | h | h
    · obtain rfl : k = 1 := h
      obtain ⟨h1, h2, rfl⟩ := rightB_1.1 hv
      rw [putV_1 h1 h2]
      have hz := zig_lt h1 h2
      have hd := dgo_there (n := zigN n) (K := 6) t (digsN_six (by omega))
      have hp := digsN_pos (zigN n)
      show getV ((1 : UInt8) :: (digsN (zigN n) ++ t)) = _
      unfold getV
      simp only [hd]
      rw [if_neg (by omega), if_neg (by decide), if_neg (by decide), if_pos (by decide), zag_zig, if_pos ⟨h1, h2⟩]
      simp [Nat.add_comm]
    · obtain rfl : k = 2 := h
      obtain ⟨rfl, h2⟩ := rightB_2.1 hv
      rw [putV_2 h2]
      have hd := dgo_there (n := s.length) (K := 6) (s ++ t) (digsN_six (by omega))
      rw [digsN_lt (by omega)] at hd
      show getV ((2 : UInt8) :: ([UInt8.ofNat s.length] ++ (s ++ t))) = _
      unfold getV
      simp only [hd]
      have e : ([UInt8.ofNat s.length] ++ (s ++ t)).drop [UInt8.ofNat s.length].length = s ++ t := List.drop_left
      rw [e, if_neg (by simp), if_pos (by decide), if_neg (by simp; omega)]
      simp
      omega
    · obtain rfl : k = 3 := h
      obtain ⟨h1, h2, rfl⟩ := rightB_3.1 hv
      rw [putV_3 h1 h2]
      have hd := dgo_there (n := n.toNat) (K := 6) t (digsN_six (by omega))
      rw [digsN_lt (by omega)] at hd
      show getV ((3 : UInt8) :: ([UInt8.ofNat n.toNat] ++ t)) = _
      unfold getV
      simp only [hd]
      rw [if_neg (by simp), if_neg (by decide), if_pos (by decide), if_pos (by omega)]
      simp
      omega
  back l v k h := by
    cases l with
    | nil => simp [getV] at h
    | cons c l =>
      unfold getV at h
      simp only at h
      split at h
      · cases h
      rename_i h0
      obtain ⟨h1, h2, h3⟩ := dgo_said h0
      have h6 := dgo_six h0
      split at h
      · rename_i hc
        obtain rfl : c = 2 := u8_eq hc
        split at h
        · cases h
        rename_i hm
        simp only [Option.some.injEq, Prod.mk.injEq] at h
        obtain ⟨rfl, rfl⟩ := h
        obtain ⟨d1, d2⟩ := dgo_one h0 (by omega)
        rw [d1] at hm ⊢
        generalize dgo (l.take 6) 0 0 = d at *
        rw [List.length_drop] at hm
        have hl : ((l.drop 1).take d.1).length = d.1 := by rw [List.length_take, List.length_drop]; omega
        have hr : rightB ⟨2, 0, (l.drop 1).take d.1⟩ = true := rightB_2.2 ⟨rfl, by omega⟩
        refine ⟨hr, by simp; omega, ?_⟩
        rw [putV_2 (by omega), hl, show 1 + 1 + d.1 = (1 + d.1) + 1 by omega, List.take_succ_cons, List.take_add, d2]
        rfl
      split at h
      · rename_i hc
        obtain rfl : c = 3 := u8_eq hc
        split at h
        · rename_i hle
          simp only [Option.some.injEq, Prod.mk.injEq] at h
          obtain ⟨rfl, rfl⟩ := h
          obtain ⟨d1, d2⟩ := dgo_one h0 (by omega)
          have hr : rightB ⟨3, ((dgo (l.take 6) 0 0).1 : Nat), []⟩ = true := rightB_3.2 ⟨by omega, by omega, rfl⟩
          refine ⟨hr, by simp; omega, ?_⟩
          rw [putV_3 (by omega) (by omega), d1, List.take_succ_cons, d2]
          simp
        · cases h
      split at h
      · rename_i hc
        obtain rfl : c = 1 := u8_eq hc
        split at h
        · rename_i hz
          simp only [Option.some.injEq, Prod.mk.injEq] at h
          obtain ⟨rfl, rfl⟩ := h
          refine ⟨rightB_1.2 ⟨hz.1, hz.2, rfl⟩, by simp; omega, ?_⟩
          rw [putV_1 hz.1 hz.2, zig_zag, h3, Nat.add_comm, List.take_succ_cons]
        · cases h
      · cases h

/-- The document's number of digits. -/
def numR (l : List UInt8) : Option (Nat × Nat) :=
  if (dgo (l.take 7) 0 0).2 = 0 ∨ 2199023255552 < (dgo (l.take 7) 0 0).1 then none else some (dgo (l.take 7) 0 0)

/-- What the document's Get reads. -/
def refV (l : List UInt8) : Option (PVal × Nat) :=
  match l with
  | c :: d :: t =>
    if c.toNat = 1 then
      (match numR (d :: t) with
      | none => none
      | some x => if rightB ⟨1, zagN x.1, []⟩ then some (⟨1, zagN x.1, []⟩, 1 + x.2) else none)
    else if c.toNat = 2 then (if t.length < d.toNat then none else if rightB ⟨2, 0, t.take d.toNat⟩ then some (⟨2, 0, t.take d.toNat⟩, 2 + d.toNat) else none)
    else if c.toNat = 3 then (if rightB ⟨3, d.toNat, []⟩ then some (⟨3, d.toNat, []⟩, 2) else none)
    else none
  | _ => none

theorem refV_reads : Reads refV where
  there v t hv := by
    obtain ⟨k, n, s⟩ := v
    rcases rightB_kind hv with h | h | h
    · obtain rfl : k = 1 := h
      obtain ⟨h1, h2, rfl⟩ := rightB_1.1 hv
      have hz := zig_lt h1 h2
      have hd := dgo_there (n := zigN n) (K := 7) t (Nat.le_trans (digsN_six (by omega)) (by omega))
      have hp := digsN_pos (zigN n)
      rw [putV_1 h1 h2]
      have hnum : numR (digsN (zigN n) ++ t) = some (zigN n, (digsN (zigN n)).length) := by
        unfold numR
        rw [hd, if_neg (fun h => by rcases h with h | h <;> (dsimp only at h; omega))]
      cases hl : digsN (zigN n) with
      | nil => rw [hl] at hp; simp at hp
      | cons d r =>
        rw [hl] at hnum
        show refV ((1 : UInt8) :: d :: (r ++ t)) = _
        have hnum' : numR (d :: (r ++ t)) = some (zigN n, (d :: r).length) := hnum
        unfold refV
        simp only [hnum']
        rw [if_pos (by decide), zag_zig, if_pos hv]
        simp
        omega
    · obtain rfl : k = 2 := h
      obtain ⟨rfl, h2⟩ := rightB_2.1 hv
      rw [putV_2 h2]
      show refV ((2 : UInt8) :: UInt8.ofNat s.length :: (s ++ t)) = _
      have e : (UInt8.ofNat s.length).toNat = s.length := u8_ofNat (by omega)
      have e2 : (s ++ t).take s.length = s := List.take_left
      unfold refV
      simp only [e, e2]
      rw [if_neg (by decide), if_pos (by decide), if_neg (by simp), if_pos hv]
      simp
      omega
    · obtain rfl : k = 3 := h
      obtain ⟨h1, h2, rfl⟩ := rightB_3.1 hv
      rw [putV_3 h1 h2]
      show refV ((3 : UInt8) :: UInt8.ofNat n.toNat :: t) = _
      have e : ((UInt8.ofNat n.toNat).toNat : Int) = n := by rw [u8_ofNat (by omega)]; omega
      unfold refV
      simp only [e]
      rw [if_neg (by decide), if_neg (by decide), if_pos (by decide), if_pos hv]
      rfl
  back l v k h := by
    match l, h with
    | [], h => simp [refV] at h
    | [_], h => simp [refV] at h
    | c :: d :: t, h =>
      unfold refV at h
      simp only at h
      have hd := d.toNat_lt
      split at h
      · rename_i hc
        obtain rfl : c = 1 := u8_eq hc
        cases hn : numR (d :: t) with
        | none => rw [hn] at h; cases h
        | some x =>
          rw [hn] at h
          simp only at h
          split at h
          · rename_i hr
            simp only [Option.some.injEq, Prod.mk.injEq] at h
            obtain ⟨rfl, rfl⟩ := h
            unfold numR at hn
            split at hn
            · cases hn
            rename_i hx
            rw [not_or] at hx
            obtain ⟨h1, h2, h3⟩ := dgo_said hx.1
            injection hn with hn
            rw [hn] at h1 h2 h3
            have hr' := rightB_1.1 hr
            refine ⟨hr, by simp at h1 ⊢; omega, ?_⟩
            rw [putV_1 hr'.1 hr'.2.1, zig_zag, h3, Nat.add_comm, List.take_succ_cons]
          · cases h
      split at h
      · rename_i hc
        obtain rfl : c = 2 := u8_eq hc
        split at h
        · cases h
        split at h
        · rename_i hlt hr
          simp only [Option.some.injEq, Prod.mk.injEq] at h
          obtain ⟨rfl, rfl⟩ := h
          have hl : (t.take d.toNat).length = d.toNat := by rw [List.length_take]; omega
          have hr' := rightB_2.1 hr
          refine ⟨hr, by simp; omega, ?_⟩
          rw [putV_2 hr'.2, hl, show 2 + d.toNat = d.toNat + 1 + 1 by omega, List.take_succ_cons, List.take_succ_cons, ← u8_eq rfl]
        · cases h
      split at h
      · rename_i hc
        obtain rfl : c = 3 := u8_eq hc
        split at h
        · rename_i hr
          simp only [Option.some.injEq, Prod.mk.injEq] at h
          obtain ⟨rfl, rfl⟩ := h
          have hr' := rightB_3.1 hr
          refine ⟨hr, by simp, ?_⟩
          rw [putV_3 hr'.1 hr'.2.1]
          simp
        · cases h
      · cases h

/-- The program reads what the document reads. -/
theorem getV_ref (l : List UInt8) : getV l = refV l := getV_reads.same refV_reads l

end Go.Proofs.Ytfmlgckfcclojaa
namespace Go.Proofs.Ytfmlgckfcclojaa

def letterB (c : UInt8) : Bool := decide (97 ≤ c.toNat ∧ c.toNat ≤ 122)
def charB (c : UInt8) : Bool := letterB c || (decide (c.toNat = 95) || decide (48 ≤ c.toNat ∧ c.toNat ≤ 57))

/-- A word. -/
def wordB : List UInt8 → Bool
  | [] => false
  | c :: t => letterB c && (decide (t.length ≤ 15) && t.all charB)

/-- An event in plain words. -/
structure PEv where
  ts : Int
  dep : Int
  seq : Int
  name : List UInt8
  vals : List PVal

/-- The least and the greatest that may be. -/
def numB (n : Int) : Bool := decide (0 ≤ n ∧ n ≤ 1099511627776)

/-- Is an event right? -/
def rightE (e : PEv) : Bool := numB e.ts && (numB e.seq && (decide (0 ≤ e.dep ∧ e.dep ≤ 3) && (wordB e.name && (decide (e.vals.length ≤ 8) && e.vals.all rightB))))

theorem numB_iff {n : Int} : numB n = true ↔ 0 ≤ n ∧ n ≤ 1099511627776 := by simp [numB]
theorem rightE_iff {e : PEv} : rightE e = true ↔ (0 ≤ e.ts ∧ e.ts ≤ 1099511627776) ∧ (0 ≤ e.seq ∧ e.seq ≤ 1099511627776) ∧ (0 ≤ e.dep ∧ e.dep ≤ 3) ∧ wordB e.name = true ∧ e.vals.length ≤ 8 ∧ e.vals.all rightB = true := by
  simp only [rightE, numB, Bool.and_eq_true, decide_eq_true_eq]

theorem wordB_len {l : List UInt8} (h : wordB l = true) : 1 ≤ l.length ∧ l.length ≤ 16 := by
  cases l with
  | nil => cases h
  | cons c t =>
    simp only [wordB, Bool.and_eq_true, decide_eq_true_eq] at h
    simp only [List.length_cons]
    omega

/-- Values' bytes, one behind the other. -/
def putVs : List PVal → List UInt8
  | [] => []
  | v :: l => putV v ++ putVs l

/-- An event's bytes, if it is right. -/
def bodyE (e : PEv) : List UInt8 := digsN e.ts.toNat ++ (digsN e.dep.toNat ++ (digsN e.seq.toNat ++ (digsN e.name.length ++ (e.name ++ (digsN e.vals.length ++ putVs e.vals)))))
def putE (e : PEv) : List UInt8 := if rightE e then bodyE e else []

/-- A number of digits, however they are written: it and how many bytes were looked at. -/
def fstD : List UInt8 → Nat → Nat → Nat × Nat
  | [], i, n => (n, i)
  | c :: l, i, n => if c.toNat < 128 then (n + c.toNat % 128 * 128 ^ i, i + 1) else fstD l (i + 1) (n + c.toNat % 128 * 128 ^ i)
def firstD (l : List UInt8) : Nat × Nat := fstD (l.take 6) 0 0

theorem fstD_digs : ∀ (n : Nat) (K i a : Nat) (t : List UInt8), (digsN n).length ≤ K → fstD ((digsN n ++ t).take K) i a = (a + n * 128 ^ i, i + (digsN n).length) := by
  intro n
  induction n using Nat.strongRecOn with
  | _ n ih =>
    intro K i a t hK
    by_cases h : n < 128
    · rw [digsN_lt h] at hK ⊢
      simp at hK
      obtain ⟨K', rfl⟩ : ∃ K', K = K' + 1 := ⟨K - 1, by omega⟩
      have e : (UInt8.ofNat n).toNat = n := u8_ofNat (by omega)
      simp only [List.cons_append, List.take_succ_cons, fstD, e]
      rw [if_pos h, Nat.mod_eq_of_lt h]
      rfl
    · rw [digsN_ge (by omega)] at hK ⊢
      simp at hK
      obtain ⟨K', rfl⟩ : ∃ K', K = K' + 1 := ⟨K - 1, by omega⟩
      have e : (UInt8.ofNat (128 + n % 128)).toNat = 128 + n % 128 := u8_ofNat (by omega)
      simp only [List.cons_append, List.take_succ_cons, fstD, e]
      rw [if_neg (by omega), ih (n / 128) (by omega) K' (i + 1) _ t (by omega)]
      have e2 : (128 + n % 128) % 128 = n % 128 := by omega
      have e3 : n = n / 128 * 128 + n % 128 := by omega
      refine Prod.ext ?_ ?_
      · show a + (128 + n % 128) % 128 * 128 ^ i + n / 128 * 128 ^ (i + 1) = a + n * 128 ^ i
        rw [e2, Nat.pow_succ]
        have e4 : n * 128 ^ i = (n / 128 * 128 + n % 128) * 128 ^ i := by rw [← e3]
        rw [e4, Nat.add_mul, Nat.mul_assoc, Nat.mul_comm 128]
        omega
      · show i + 1 + (digsN (n / 128)).length = i + (digsN (n / 128)).length.succ
        omega

theorem firstD_digs {n : Nat} (h : n < 4398046511104) (t : List UInt8) : firstD (digsN n ++ t) = (n, (digsN n).length) := by
  unfold firstD
  rw [fstD_digs n 6 0 0 t (digsN_six h)]
  simp

theorem fstD_le : ∀ (l : List UInt8) (i a : Nat), (fstD l i a).2 ≤ i + l.length
  | [], i, a => by simp [fstD]
  | c :: l, i, a => by
    rw [fstD]
    split
    · simp
    · have := fstD_le l (i + 1) (a + c.toNat % 128 * 128 ^ i)
      simp only [List.length_cons]
      omega
theorem firstD_le (l : List UInt8) : (firstD l).2 ≤ l.length ∧ (firstD l).2 ≤ 6 := by
  have := fstD_le (l.take 6) 0 0
  rw [List.length_take] at this
  unfold firstD
  omega

theorem fstD_lt : ∀ (l : List UInt8) (i a : Nat), a < 128 ^ i → (fstD l i a).1 < 128 ^ (i + l.length)
  | [], i, a, h => by simpa [fstD] using h
  | c :: l, i, a, h => by
    have h5 := Nat.mod_lt c.toNat (show 0 < 128 by omega)
    have h6 : c.toNat % 128 * 128 ^ i ≤ 127 * 128 ^ i := Nat.mul_le_mul_right _ (by omega)
    have h7 : a + c.toNat % 128 * 128 ^ i < 128 ^ (i + 1) := by rw [Nat.pow_succ]; omega
    rw [fstD]
    split
    · exact Nat.lt_of_lt_of_le h7 (Nat.pow_le_pow_right (by omega) (by simp))
    · have := fstD_lt l (i + 1) _ h7
      rw [show i + (c :: l).length = i + 1 + l.length by simp; omega]
      exact this
theorem firstD_lt (l : List UInt8) : (firstD l).1 < 4398046511104 := by
  have h := fstD_lt (l.take 6) 0 0 (by simp)
  have h2 : 128 ^ (0 + (l.take 6).length) ≤ 128 ^ 6 := Nat.pow_le_pow_right (by omega) (by rw [List.length_take]; omega)
  unfold firstD
  exact Nat.lt_of_lt_of_le h (by simpa using h2)

/-- Values that are read, and the bytes that are left. -/
def valsD : Nat → List UInt8 → List PVal × List UInt8
  | 0, b => ([], b)
  | k + 1, b => match getV b with
    | some (v, m) => (v :: (valsD k (b.drop m)).1, (valsD k (b.drop m)).2)
    | none => (⟨0, 0, []⟩ :: (valsD k b).1, (valsD k b).2)

theorem valsD_len : ∀ (k : Nat) (b : List UInt8), (valsD k b).1.length = k
  | 0, b => rfl
  | k + 1, b => by
    rw [valsD]
    cases getV b with
    | none => simp [valsD_len]
    | some x => simp [valsD_len]

theorem valsD_put : ∀ (l : List PVal) (t : List UInt8), l.all rightB = true → valsD l.length (putVs l ++ t) = (l, t)
  | [], t, _ => rfl
  | v :: l, t, h => by
    simp only [List.all_cons, Bool.and_eq_true] at h
    have e := getV_reads.there v (putVs l ++ t) h.1
    simp only [putVs, List.append_assoc, List.length_cons, valsD, e, List.drop_left, valsD_put l t h.2]

/-- What the program reads of any bytes. -/
def readE (b : List UInt8) : PEv :=
  let b1 := b.drop (firstD b).2
  let b2 := b1.drop (firstD b1).2
  let b3 := b2.drop (firstD b2).2
  let b4 := b3.drop (firstD b3).2
  let m := min (firstD b3).1 16
  let b5 := b4.drop m
  let b6 := b5.drop (firstD b5).2
  ⟨(firstD b).1, (firstD b1).1, (firstD b2).1, b4.take m, (valsD (min (firstD b5).1 8) b6).1⟩

theorem readE_body {e : PEv} (h : rightE e = true) (t : List UInt8) : readE (bodyE e ++ t) = e := by
  obtain ⟨⟨h1, h2⟩, ⟨h3, h4⟩, ⟨h5, h6⟩, h7, h8, h9⟩ := rightE_iff.1 h
  have hw := wordB_len h7
  have f : ∀ {n : Nat} (t : List UInt8), n < 4398046511104 → firstD (digsN n ++ t) = (n, (digsN n).length) := fun t h => firstD_digs h t
  unfold readE bodyE
  simp only [List.append_assoc]
  rw [f _ (by omega)]
  simp only [List.drop_left]
  rw [f _ (by omega)]
  simp only [List.drop_left]
  rw [f _ (by omega)]
  simp only [List.drop_left]
  rw [f _ (by omega)]
  simp only [List.drop_left, Nat.min_eq_left hw.2, List.take_left]
  rw [f _ (by omega)]
  simp only [List.drop_left, Nat.min_eq_left h8]
  rw [valsD_put _ _ h9]
  cases e
  simp only [PEv.mk.injEq, and_true]
  simp only at h1 h3 h5
  refine ⟨?_, ?_, ?_⟩ <;> omega

theorem putE_right {e : PEv} (h : rightE e = true) : putE e = bodyE e := by unfold putE; rw [if_pos h]
theorem putE_not {e : PEv} (h : rightE e = false) : putE e = [] := by unfold putE; rw [h]; rfl
theorem digs_ne (n : Nat) (t : List UInt8) : digsN n ++ t ≠ [] := by
  have := digsN_pos n
  intro e
  rw [List.append_eq_nil_iff] at e
  rw [e.1] at this
  simp at this
theorem putE_ne {e : PEv} (h : rightE e = true) : putE e ≠ [] := by rw [putE_right h]; exact digs_ne _ _

/-- What Get reads. -/
def getE (b : List UInt8) : Option PEv := if rightE (readE b) && decide (putE (readE b) = b) then some (readE b) else none

theorem getE_put {e : PEv} (h : rightE e = true) : getE (putE e) = some e := by
  have h1 : readE (putE e) = e := by
    have := readE_body h []
    rwa [List.append_nil, ← putE_right h] at this
  unfold getE
  rw [h1, h]
  simp

theorem getE_some {b : List UInt8} {e : PEv} (h : getE b = some e) : rightE e = true ∧ putE e = b ∧ e = readE b := by
  unfold getE at h
  split at h
  · rename_i hc
    simp only [Bool.and_eq_true, decide_eq_true_eq] at hc
    injection h with h
    rw [← h]
    exact ⟨hc.1, hc.2, rfl⟩
  · cases h

/-- Of an event's bytes with any behind none are another's. -/
theorem putE_front {e f : PEv} (h : rightE e = true) (h' : rightE f = true) {t : List UInt8} (ht : putE f = putE e ++ t) : e = f ∧ t = [] := by
  have h1 : readE (putE f) = f := by
    have := readE_body h' []
    rwa [List.append_nil, ← putE_right h'] at this
  have h2 : readE (putE e ++ t) = e := by rw [putE_right h]; exact readE_body h t
  have h3 : e = f := by rw [← h2, ← ht, h1]
  refine ⟨h3, ?_⟩
  rw [h3] at ht
  have := congrArg List.length ht
  rw [List.length_append] at this
  exact List.length_eq_zero_iff.1 (by omega)

theorem getE_cut {e : PEv} (h : rightE e = true) {m : Nat} (hm : m < (putE e).length) : getE ((putE e).take m) = none := by
  cases hx : getE ((putE e).take m) with
  | none => rfl
  | some f =>
    exfalso
    obtain ⟨h1, h2, _⟩ := getE_some hx
    have h3 : putE e = putE f ++ (putE e).drop m := by rw [h2, List.take_append_drop]
    have h4 := (putE_front h1 h h3).2
    have := congrArg List.length h4
    rw [List.length_drop] at this
    simp at this
    omega

theorem getE_more {e : PEv} (h : rightE e = true) (c : UInt8) : getE (putE e ++ [c]) = none := by
  cases hx : getE (putE e ++ [c]) with
  | none => rfl
  | some f =>
    exfalso
    obtain ⟨h1, h2, _⟩ := getE_some hx
    have h4 := (putE_front h h1 h2).2
    cases h4

/-- Is one ahead of another? -/
def lessE (t d s t' d' s' : Int) : Bool := decide (t < t' ∨ t = t' ∧ (d < d' ∨ d = d' ∧ s < s'))

end Go.Proofs.Ytfmlgckfcclojaa
namespace Go.Proofs.Ytfmlgckfcclojaa
open Go Go.Op

theorem less_irrefl : ∀ l : List UInt8, bytesLess l l = false
  | [] => rfl
  | c :: l => by simp [bytesLess, less_irrefl l]
theorem less_asymm : ∀ a b : List UInt8, bytesLess a b = true → bytesLess b a = false
  | [], [], h => by cases h
  | [], _ :: _, _ => rfl
  | _ :: _, [], h => by cases h
  | c :: a, d :: b, h => by
    simp only [bytesLess, Bool.or_eq_true, Bool.and_eq_true, decide_eq_true_eq, beq_iff_eq] at h
    rcases h with h | ⟨rfl, h⟩
    · have h1 : ¬ d < c := by rw [UInt8.lt_iff_toNat_lt] at h ⊢; omega
      have h2 : (d == c) = false := by rw [beq_eq_false_iff_ne]; rintro rfl; rw [UInt8.lt_iff_toNat_lt] at h; omega
      simp [bytesLess, h1, h2]
    · simp [bytesLess, less_asymm a b h]
theorem less_tri : ∀ a b : List UInt8, bytesLess a b = false → bytesLess b a = false → a = b
  | [], [], _, _ => rfl
  | [], _ :: _, h, _ => by cases h
  | _ :: _, [], _, h => by cases h
  | c :: a, d :: b, h1, h2 => by
    simp only [bytesLess, Bool.or_eq_false_iff, Bool.and_eq_false_iff, decide_eq_false_iff_not, beq_eq_false_iff_ne] at h1 h2
    have e : c = d := by
      apply UInt8.toNat_inj.1
      have h3 := h1.1
      have h4 := h2.1
      rw [UInt8.lt_iff_toNat_lt] at h3 h4
      omega
    subst e
    rw [less_tri a b (h1.2.resolve_left (fun h => h rfl)) (h2.2.resolve_left (fun h => h rfl))]
theorem less_more : ∀ (a t : List UInt8), bytesLess a (a ++ t) = !t.isEmpty
  | [], [] => rfl
  | [], _ :: _ => rfl
  | c :: a, t => by simp [bytesLess, less_more a t]

/-- What cmp.Compare tells of two texts. -/
def cmpS (a b : List UInt8) : Int := if bytesLess a b then -1 else if bytesLess b a then 1 else 0
/-- What it tells of two numbers. -/
def cmpN (a b : Int) : Int := if a < b then -1 else if b < a then 1 else 0
/-- The sign of two values. -/
def signV (a b : PVal) : Int := if cmpN a.n b.n ≠ 0 then cmpN a.n b.n else cmpS a.s b.s

theorem cmpN_cases (a b : Int) : (a < b ∧ cmpN a b = -1) ∨ (b < a ∧ cmpN a b = 1) ∨ (a = b ∧ cmpN a b = 0) := by
  unfold cmpN
  by_cases h1 : a < b
  · exact .inl ⟨h1, if_pos h1⟩
  · rw [if_neg h1]
    by_cases h2 : b < a
    · exact .inr (.inl ⟨h2, if_pos h2⟩)
    · exact .inr (.inr ⟨by omega, if_neg h2⟩)
theorem cmpS_cases (a b : List UInt8) : (bytesLess a b = true ∧ cmpS a b = -1) ∨ (bytesLess b a = true ∧ cmpS a b = 1) ∨ (a = b ∧ cmpS a b = 0) := by
  unfold cmpS
  cases h1 : bytesLess a b
  · cases h2 : bytesLess b a
    · exact .inr (.inr ⟨less_tri a b h1 h2, by simp⟩)
    · exact .inr (.inl ⟨rfl, by simp⟩)
  · exact .inl ⟨rfl, by simp⟩

/-- Is a value less? -/
def lessV (a b : PVal) : Bool := decide (a.n < b.n) || (decide (a.n = b.n) && bytesLess a.s b.s)
/-- Are two alike, but for their kinds? -/
def sameV (a b : PVal) : Bool := decide (a.n = b.n) && decide (a.s = b.s)

theorem signV_cases (a b : PVal) : (lessV a b = true ∧ sameV a b = false ∧ lessV b a = false ∧ signV a b = -1) ∨ (lessV a b = false ∧ sameV a b = false ∧ lessV b a = true ∧ signV a b = 1) ∨ (lessV a b = false ∧ sameV a b = true ∧ lessV b a = false ∧ signV a b = 0) := by
  unfold lessV sameV signV
  rcases cmpN_cases a.n b.n with ⟨h1, h2⟩ | ⟨h1, h2⟩ | ⟨h1, h2⟩
  · refine .inl ?_
    rw [h2, if_pos (by decide)]
    have e1 : ¬ b.n < a.n := by omega
    have e2 : ¬ a.n = b.n := by omega
    have e3 : ¬ b.n = a.n := by omega
    simp [h1, e1, e2, e3]
  · refine .inr (.inl ?_)
    rw [h2, if_pos (by decide)]
    have e1 : ¬ a.n < b.n := by omega
    have e2 : ¬ a.n = b.n := by omega
    simp [h1, e1, e2]
  · rw [h2, if_neg (by decide), h1]
    simp only [Int.lt_irrefl, decide_false, Bool.false_or, decide_true, Bool.true_and]
    rcases cmpS_cases a.s b.s with ⟨h3, h4⟩ | ⟨h3, h4⟩ | ⟨h3, h4⟩
    · refine .inl ⟨h3, ?_, less_asymm _ _ h3, h4⟩
      rw [decide_eq_false_iff_not]
      intro e
      rw [e, less_irrefl] at h3
      cases h3
    · refine .inr (.inl ⟨less_asymm _ _ h3, ?_, h3, h4⟩)
      rw [decide_eq_false_iff_not]
      intro e
      rw [e, less_irrefl] at h3
      cases h3
    · refine .inr (.inr ⟨?_, decide_eq_true h3, ?_, h4⟩)
      · rw [h3, less_irrefl]
      · rw [h3, less_irrefl]

/-- Whether a comparison is so, of what is less (0), equal (1), greater (2). -/
def holdsV (op : Int) (i : Int) : Bool :=
  if op = 1 then decide (i = 1) else if op = 2 then decide (i ≠ 1) else if op = 3 then decide (i = 0) else if op = 4 then decide (i ≠ 2) else if op = 5 then decide (i = 2) else decide (i ≠ 0)

/-- What Compare answers. -/
def cmpV (op : Int) (a b : PVal) : Bool × Int :=
  if rightB a = false ∨ rightB b = false ∨ op < 1 ∨ 6 < op then (false, 1)
  else if a.k ≠ b.k ∨ a.k = 3 ∧ op ≠ 1 ∧ op ≠ 2 then (false, 42)
  else (holdsV op (1 + signV a b), 0)

/-- What the document's does. -/
def refC (op : Int) (a b : PVal) : Bool :=
  if op = 1 then sameV a b else if op = 2 then !sameV a b else if op = 3 then lessV a b else if op = 4 then lessV a b || sameV a b else if op = 5 then !lessV a b && !sameV a b else !lessV a b

theorem holdsV_ref (op : Int) (a b : PVal) : holdsV op (1 + signV a b) = refC op a b := by
  unfold holdsV refC
  rcases signV_cases a b with ⟨h1, h2, _, h3⟩ | ⟨h1, h2, _, h3⟩ | ⟨h1, h2, _, h3⟩ <;> rw [h1, h2, h3] <;> simp

/-- What Add (t = 1) and Sub (t = -1) answer. -/
def sumV (a b : PVal) (t : Int) : PVal × Int :=
  if rightB a = false ∨ rightB b = false then (⟨0, 0, []⟩, 1)
  else if a.k ≠ 1 ∨ b.k ≠ 1 then (⟨0, 0, []⟩, 42)
  else if rightB ⟨1, a.n + t * b.n, []⟩ = true then (⟨1, a.n + t * b.n, []⟩, 0) else (⟨0, 0, []⟩, 41)

end Go.Proofs.Ytfmlgckfcclojaa
namespace Go.Proofs.Ytfmlgckfcclojaa
open Go.RowKit Go.Lib Go.Op

/-- Is that right, of a value's three parts? -/
def rightV (k n : Int) (s : ByteArray) : Bool := rightB ⟨k, n, s.data.toList⟩

theorem rightV_1 (n : Int) (s : ByteArray) : rightV 1 n s = decide (-1099511627776 ≤ n ∧ n ≤ 1099511627776 ∧ s.data.toList = []) := rfl
theorem rightV_2 (n : Int) (s : ByteArray) : rightV 2 n s = decide (n = 0 ∧ s.data.toList.length ≤ 64) := rfl
theorem rightV_3 (n : Int) (s : ByteArray) : rightV 3 n s = decide (0 ≤ n ∧ n ≤ 1 ∧ s.data.toList = []) := rfl
theorem rightV_not {k n : Int} {s : ByteArray} (h1 : k ≠ 1) (h2 : k ≠ 2) (h3 : k ≠ 3) : rightV k n s = false := by
  unfold rightV rightB; rw [if_neg h1, if_neg h2, if_neg h3]

theorem vtoL (a : ByteArray) : a.toList = a.data.toList := ByteArray.toList_eq a

theorem vret_bool {a b : Bool} (h : a = b) : Ending.returned (.bool a) = .returned (.bool b) := by rw [h]

theorem vempty {s : ByteArray} (h : s.data.toList = []) : s = ⟨#[]⟩ := by
  apply ByteArray.ext
  apply Array.ext'
  rw [h]

set_option maxHeartbeats 1000000 in
set_option maxRecDepth 100000 in
theorem vright_calls (k n : Int) (s : ByteArray) (w : World) (hs : s.size ≤ maxLen) :
    Calls Try.prog 81 #[.agg #[.int .i64 k, .int .i64 n, .string s]] w fun e w' => e = .returned (.bool (rightV k n s)) ∧ w' = w.alloc (.cells #[.int .i64 k, .int .i64 n, .string s] 52) := by
  unfold maxLen at hs
  have hsl : s.data.toList.length = s.size := by simp
  by_cases hse : s.data.toList = []
  · obtain rfl := vempty hse
    clear hsl hse hs
    by_cases h3 : k = 3
    · subst h3
      rw [rightV_3]
      go_enter Try.func81, Try.ntmps81
      go_wp2
      all_goals (go_ret; exact ⟨vret_bool (by simp; omega), rfl⟩)
    by_cases h1 : k = 1
    · subst h1
      rw [rightV_1]
      go_enter Try.func81, Try.ntmps81
      go_wp2
      all_goals (go_ret; exact ⟨vret_bool (by simp; omega), rfl⟩)
    by_cases h2 : k = 2
    · subst h2
      rw [rightV_2]
      by_cases hn : n = 0
      · subst hn
        go_enter Try.func81, Try.ntmps81
        go_wp2
        all_goals (go_ret; exact ⟨vret_bool (by simp), rfl⟩)
      · go_enter Try.func81, Try.ntmps81
        go_wp2
        all_goals (go_ret; exact ⟨vret_bool (by simp; omega), rfl⟩)
    · rw [rightV_not h1 h2 h3]
      go_enter Try.func81, Try.ntmps81
      go_wp2
      all_goals (go_ret; exact ⟨vret_bool (by simp), rfl⟩)
  · have ha : (s.toList == []) = false := by rw [beq_eq_false_iff_ne, vtoL]; exact hse
    have hb : (!s.toList.isEmpty) = true := by rw [vtoL]; simpa using hse
    have hc : s.toList.isEmpty = false := by rw [vtoL]; simpa using hse
    by_cases h3 : k = 3
    · subst h3
      rw [rightV_3]
      go_enter Try.func81, Try.ntmps81
      go_wp2
      all_goals (go_ret; exact ⟨vret_bool (by first | rfl | (simp [hse]) | (simp; omega)), rfl⟩)
    by_cases h1 : k = 1
    · subst h1
      rw [rightV_1]
      go_enter Try.func81, Try.ntmps81
      go_wp2
      all_goals (go_ret; exact ⟨vret_bool (by first | rfl | (simp [hse]) | (simp; omega)), rfl⟩)
    by_cases h2 : k = 2
    · subst h2
      rw [rightV_2]
      by_cases hn : n = 0
      · subst hn
        clear ha hb hc
        go_enter Try.func81, Try.ntmps81
        go_wp2
        all_goals (go_ret; exact ⟨vret_bool (by simp [hsl]; try omega), rfl⟩)
      · clear ha hb hc
        go_enter Try.func81, Try.ntmps81
        go_wp2
        all_goals (go_ret; exact ⟨vret_bool (by simp; omega), rfl⟩)
    · rw [rightV_not h1 h2 h3]
      go_enter Try.func81, Try.ntmps81
      go_wp2
      all_goals (go_ret; exact ⟨vret_bool (by simp), rfl⟩)

theorem nanN_calls (a : Int) (w : World) : Calls Try.prog 98 #[.int .i64 a] w fun e w' => e = .returned (.bool false) ∧ w = w' := by
  go_enter Try.func98, Try.ntmps98
  go_wp2
  go_ret
  exact ⟨rfl, rfl⟩

theorem vret_num {k : IntKind} {a b : Int} (h : a = b) : Ending.returned (.int k a) = .returned (.int k b) := by rw [h]

set_option maxRecDepth 100000 in
theorem cmpN_calls (a b : Int) (w : World) : Calls Try.prog 89 #[.int .i64 a, .int .i64 b] w fun e w' => e = .returned (.int .i64 (cmpN a b)) ∧ w = w' := by
  rcases cmpN_cases a b with ⟨h1, h2⟩ | ⟨h1, h2⟩ | ⟨h1, h2⟩
  · rw [h2]
    clear h2
    go_enter Try.func89, Try.ntmps89
    go_wp2_with (first | (go_at_call 98; refine (nanN_calls _ _).mono ?_; rintro e w' ⟨rfl, rfl⟩))
    go_ret
    exact ⟨rfl, rfl⟩
  · rw [h2]
    clear h2
    have h3 : ¬ a < b := by omega
    go_enter Try.func89, Try.ntmps89
    go_wp2_with (first | (go_at_call 98; refine (nanN_calls _ _).mono ?_; rintro e w' ⟨rfl, rfl⟩))
    go_ret
    exact ⟨rfl, rfl⟩
  · rw [h2]
    subst h1
    clear h2
    go_enter Try.func89, Try.ntmps89
    go_wp2_with (first | (go_at_call 98; refine (nanN_calls _ _).mono ?_; rintro e w' ⟨rfl, rfl⟩))
    go_ret
    exact ⟨rfl, rfl⟩

/-- What stands behind a right value's kind, as a number. -/
def writtenV (k n : Int) (s : ByteArray) : Nat := if k = 2 then s.size else if k = 3 then n.toNat else zigN n

set_option maxRecDepth 100000 in
theorem written_calls (k n : Int) (s : ByteArray) (w : World) (_hs : s.size ≤ maxLen) (hr : rightV k n s = true) :
    Calls Try.prog 84 #[.agg #[.int .i64 k, .int .i64 n, .string s]] w fun e w' => e = .returned (.int .i64 (writtenV k n s)) ∧ w' = w.alloc (.cells #[.int .i64 k, .int .i64 n, .string s] 52) := by
  unfold maxLen at _hs
  rcases rightB_kind hr with h | h | h
  · obtain rfl : k = 1 := h
    obtain ⟨h1, h2, _⟩ := rightB_1.1 hr
    have e : (writtenV 1 n s : Int) = if n < 0 then -2 * n - 1 else 2 * n := by
      show ((zigN n : Nat) : Int) = _
      unfold zigN
      split <;> omega
    rw [e]
    clear hr e
    by_cases hn : n < 0
    · rw [if_pos hn]
      go_enter Try.func84, Try.ntmps84
      go_wp2
      go_ret
      exact ⟨vret_num (by omega), rfl⟩
    · rw [if_neg hn]
      go_enter Try.func84, Try.ntmps84
      go_wp2
      go_ret
      exact ⟨vret_num (by omega), rfl⟩
  · obtain rfl : k = 2 := h
    obtain ⟨h1, h2⟩ := rightB_2.1 hr
    have e : (writtenV 2 n s : Int) = s.size := rfl
    rw [e]
    obtain rfl : n = 0 := h1
    clear hr e h2
    go_enter Try.func84, Try.ntmps84
    go_wp2
    go_ret
    exact ⟨rfl, rfl⟩
  · obtain rfl : k = 3 := h
    obtain ⟨h1, h2, _⟩ := rightB_3.1 hr
    have e : (writtenV 3 n s : Int) = n := by show ((n.toNat : Nat) : Int) = n; omega
    rw [e]
    clear hr e
    go_enter Try.func84, Try.ntmps84
    go_wp2
    go_ret
    exact ⟨rfl, rfl⟩

end Go.Proofs.Ytfmlgckfcclojaa
namespace Go.Proofs.Ytfmlgckfcclojaa

/-- A whole number's float. -/
def fl (n : Nat) : Nat := floatOfInt .f64 (n : Int)

def flPlace (k : Nat) : Nat := if k = 0 then 1074 else 52 - k.log2

theorem fl_read : ∀ k, k < 1024 → FloatKind.f64.format.read (fl k) = .number false (k * 2 ^ flPlace k) (-(flPlace k : Int)) := by decide +kernel

theorem flPlace_le (k : Nat) : flPlace k ≤ 1074 := by unfold flPlace; split <;> omega

theorem log2_shift (k d : Nat) (hk : 0 < k) : (k * 2 ^ d).log2 = k.log2 + d := by
  have hp : 0 < 2 ^ d := Nat.two_pow_pos d
  have h0 : k * 2 ^ d ≠ 0 := Nat.mul_ne_zero (by omega) (by omega)
  have h1 : 2 ^ k.log2 ≤ k := Nat.log2_self_le (by omega)
  have h2 : k < 2 ^ (k.log2 + 1) := Nat.lt_log2_self
  apply Nat.le_antisymm
  · have h3 : k * 2 ^ d < 2 ^ (k.log2 + d + 1) := by
      rw [show k.log2 + d + 1 = (k.log2 + 1) + d by omega, Nat.pow_add]
      exact Nat.mul_lt_mul_of_pos_right h2 hp
    have h4 := (Nat.log2_lt h0).2 h3
    omega
  · apply (Nat.le_log2 h0).2
    rw [Nat.pow_add]
    exact Nat.mul_le_mul_right _ h1

theorem cut_zero (n : Nat) : Ieee.Toward.even.cut false n 0 = n := by
  simp [Ieee.Toward.cut, Nat.mod_one]

theorem cut_exact (m e : Nat) (hm : 0 < m) : Ieee.Toward.even.cut false (m * 2 ^ e) e = m := by
  have hp : 0 < 2 ^ e := Nat.two_pow_pos e
  have hl : (m * 2 ^ e).log2 = m.log2 + e := log2_shift m e hm
  have hmin : min e ((m * 2 ^ e).log2 + 2) = e := by rw [hl]; omega
  simp only [Ieee.Toward.cut, hmin, Nat.one_shiftLeft, Nat.mul_mod_left, Nat.mul_div_cancel _ hp]
  have h1 : ¬ (2 ^ e < 2 * 0) := by omega
  have h2 : (2 ^ e == 2 * 0) = false := by simp
  simp [h2]

def flWord (k : Nat) : Nat := Ieee.double.word false (min ((k.log2 + 1022) * Ieee.double.binade + k * 2 ^ (52 - k.log2)) Ieee.double.infRung)

theorem nearest_exact (k d : Nat) (hk : 0 < k) (hk2 : k < 1024) (_hd : d ≤ 1074) : Ieee.double.nearest false (k * 2 ^ d) (-(d : Int)) = flWord k := by
  have hp : 0 < 2 ^ d := Nat.two_pow_pos d
  have h0 : k * 2 ^ d ≠ 0 := Nat.mul_ne_zero (by omega) (by omega)
  have hL : k.log2 < 10 := (Nat.log2_lt (by omega)).2 hk2
  have hl := log2_shift k d hk
  have hlp : Ieee.double.leastPlace = -1074 := by decide
  have hfb : Ieee.double.fractionBits = 52 := rfl
  unfold Ieee.Format.nearest
  rw [if_neg h0]
  simp only [hl, hlp, hfb]
  have hlast : max (-(d : Int) + ((k.log2 + d : Nat) : Int) - ((52 : Nat) : Int)) (-1074) = (k.log2 : Int) - 52 := by omega
  rw [hlast]
  have hk1 : Ieee.Toward.even.cut false ((k * 2 ^ d) <<< (-(d : Int) - ((k.log2 : Int) - 52)).toNat) ((k.log2 : Int) - 52 - -(d : Int)).toNat = k * 2 ^ (52 - k.log2) := by
    by_cases hc : d ≤ 52 - k.log2
    · have e1 : (-(d : Int) - ((k.log2 : Int) - 52)).toNat = 52 - k.log2 - d := by omega
      have e2 : ((k.log2 : Int) - 52 - -(d : Int)).toNat = 0 := by omega
      rw [e1, e2, cut_zero, Nat.shiftLeft_eq, Nat.mul_assoc, ← Nat.pow_add, show d + (52 - k.log2 - d) = 52 - k.log2 by omega]
    · have e1 : (-(d : Int) - ((k.log2 : Int) - 52)).toNat = 0 := by omega
      have e2 : ((k.log2 : Int) - 52 - -(d : Int)).toNat = d - (52 - k.log2) := by omega
      rw [e1, e2, Nat.shiftLeft_zero]
      have e3 : k * 2 ^ d = (k * 2 ^ (52 - k.log2)) * 2 ^ (d - (52 - k.log2)) := by
        rw [Nat.mul_assoc, ← Nat.pow_add, show 52 - k.log2 + (d - (52 - k.log2)) = d by omega]
      rw [e3]
      exact cut_exact _ _ (Nat.mul_pos hk (Nat.two_pow_pos _))
  rw [hk1]
  have e4 : ((k.log2 : Int) - 52 - -1074).toNat = k.log2 + 1022 := by omega
  rw [e4]
  rfl

theorem fl_write (k d : Nat) (hk2 : k < 1024) (hd : d ≤ 1074) : FloatKind.f64.format.write (.number false (k * 2 ^ d) (-(d : Int))) = fl k := by
  show Ieee.double.nearest false (k * 2 ^ d) (-(d : Int)) = Ieee.double.nearest (decide ((k : Int) < 0)) (k : Int).natAbs 0
  have e0 : decide ((k : Int) < 0) = false := by simp
  rw [e0]
  have e1 : (k : Int).natAbs = k := by omega
  rw [e1]
  by_cases hk : k = 0
  · subst hk
    simp [Ieee.Format.nearest]
  · rw [nearest_exact k d (by omega) hk2 hd]
    have h := nearest_exact k 0 (by omega) hk2 (by omega)
    simpa using h.symm

theorem signed_pos (m up : Nat) : Ieee.signed false m up = ((m * 2 ^ up : Nat) : Int) := by simp [Ieee.signed, Nat.shiftLeft_eq]
theorem signed_neg (m up : Nat) : Ieee.signed true m up = -((m * 2 ^ up : Nat) : Int) := by simp [Ieee.signed, Nat.shiftLeft_eq]

theorem up_pow (k p q : Nat) (h : p ≤ q) : k * 2 ^ p * 2 ^ (-(p : Int) - -(q : Int)).toNat = k * 2 ^ q := by
  have e : (-(p : Int) - -(q : Int)).toNat = q - p := by omega
  rw [e, Nat.mul_assoc, ← Nat.pow_add, show p + (q - p) = q by omega]

theorem fl_add (a b : Nat) (h : a + b < 1024) : floatBits .add .f64 (fl a) (fl b) = some (fl (a + b)) := by
  show ((FloatKind.f64.format.read (fl a)).sum (FloatKind.f64.format.read (fl b))).map FloatKind.f64.format.write = _
  rw [fl_read a (by omega), fl_read b (by omega)]
  have hb : min (-(flPlace a : Int)) (-(flPlace b : Int)) = -((max (flPlace a) (flPlace b) : Nat) : Int) := by omega
  have ha1 := flPlace_le a
  have hb1 := flPlace_le b
  simp only [Ieee.Datum.sum, hb, signed_pos, Option.map_some]
  rw [up_pow _ _ _ (Nat.le_max_left _ _), up_pow _ _ _ (Nat.le_max_right _ _)]
  have ht : ((a * 2 ^ max (flPlace a) (flPlace b) : Nat) : Int) + ((b * 2 ^ max (flPlace a) (flPlace b) : Nat) : Int) = (((a + b) * 2 ^ max (flPlace a) (flPlace b) : Nat) : Int) := by
    rw [← Int.natCast_add, Nat.add_mul]
  rw [ht]
  have hs : (if (((a + b) * 2 ^ max (flPlace a) (flPlace b) : Nat) : Int) = 0 then false && false else decide ((((a + b) * 2 ^ max (flPlace a) (flPlace b) : Nat) : Int) < 0)) = false := by
    split
    · rfl
    · simp only [decide_eq_false_iff_not]; exact Int.not_lt.2 (Int.natCast_nonneg _)
  rw [hs, Int.natAbs_natCast]
  rw [fl_write (a + b) _ h (by omega)]

theorem fl_sub (a b : Nat) (h : a < 1024) (hb0 : b ≤ a) : floatBits .sub .f64 (fl a) (fl b) = some (fl (a - b)) := by
  show ((FloatKind.f64.format.read (fl a)).sum (FloatKind.f64.format.read (fl b)).opposite).map FloatKind.f64.format.write = _
  rw [fl_read a (by omega), fl_read b (by omega)]
  have hb : min (-(flPlace a : Int)) (-(flPlace b : Int)) = -((max (flPlace a) (flPlace b) : Nat) : Int) := by omega
  have ha1 := flPlace_le a
  have hb1 := flPlace_le b
  simp only [Ieee.Datum.sum, Ieee.Datum.opposite, Bool.not_false, hb, signed_pos, signed_neg, Option.map_some]
  rw [up_pow _ _ _ (Nat.le_max_left _ _), up_pow _ _ _ (Nat.le_max_right _ _)]
  have hle : b * 2 ^ max (flPlace a) (flPlace b) ≤ a * 2 ^ max (flPlace a) (flPlace b) := Nat.mul_le_mul_right _ hb0
  have ht : ((a * 2 ^ max (flPlace a) (flPlace b) : Nat) : Int) + -((b * 2 ^ max (flPlace a) (flPlace b) : Nat) : Int) = (((a - b) * 2 ^ max (flPlace a) (flPlace b) : Nat) : Int) := by
    rw [Nat.sub_mul]
    omega
  rw [ht]
  have hs : (if (((a - b) * 2 ^ max (flPlace a) (flPlace b) : Nat) : Int) = 0 then false && true else decide ((((a - b) * 2 ^ max (flPlace a) (flPlace b) : Nat) : Int) < 0)) = false := by
    split
    · rfl
    · simp only [decide_eq_false_iff_not]; exact Int.not_lt.2 (Int.natCast_nonneg _)
  rw [hs, Int.natAbs_natCast]
  rw [fl_write (a - b) _ (by omega) (by omega)]

theorem fl_order (a b : Nat) (ha : a < 1024) (hb : b < 1024) : FloatKind.f64.format.order (fl a) (fl b) = some (compare (a : Int) (b : Int)) := by
  show (FloatKind.f64.format.read (fl a)).order (FloatKind.f64.format.read (fl b)) = _
  rw [fl_read a ha, fl_read b hb]
  have hb2 : min (-(flPlace a : Int)) (-(flPlace b : Int)) = -((max (flPlace a) (flPlace b) : Nat) : Int) := by omega
  simp only [Ieee.Datum.order, hb2, signed_pos]
  rw [up_pow _ _ _ (Nat.le_max_left _ _), up_pow _ _ _ (Nat.le_max_right _ _)]
  have hp : (0 : Int) < ((2 ^ max (flPlace a) (flPlace b) : Nat) : Int) := by exact_mod_cast Nat.two_pow_pos _
  congr 1
  simp only [compare, compareOfLessAndEq, Int.natCast_mul]
  by_cases h1 : (a : Int) < b
  · rw [if_pos (Int.mul_lt_mul_of_pos_right h1 hp), if_pos h1]
  · rw [if_neg (fun h => h1 (Int.lt_of_mul_lt_mul_right h (Int.le_of_lt hp))), if_neg h1]
    by_cases h2 : (a : Int) = b
    · rw [if_pos (by rw [h2]), if_pos h2]
    · rw [if_neg (fun h => h2 (Int.eq_of_mul_eq_mul_right (by omega) h)), if_neg h2]

theorem fl_geq (a b : Nat) (ha : a < 1024) (hb : b < 1024) : (FloatKind.f64.format.order (fl a) (fl b) == some .gt || FloatKind.f64.format.order (fl a) (fl b) == some .eq) = decide (b ≤ a) := by
  rw [fl_order a b ha hb]
  by_cases h1 : a < b
  · have e : compare (a : Int) (b : Int) = .lt := by simp [compare, compareOfLessAndEq, h1]
    rw [e]
    have : ¬ b ≤ a := by omega
    simp [this]
  · by_cases h2 : a = b
    · subst h2
      have e : compare (a : Int) (a : Int) = .eq := by simp [compare, compareOfLessAndEq]
      rw [e]
      simp
    · have e : compare (a : Int) (b : Int) = .gt := by
        have h3 : ¬ (a : Int) < b := by omega
        have h4 : ¬ (a : Int) = b := by omega
        simp [compare, compareOfLessAndEq, h3, h4]
      rw [e]
      have : b ≤ a := by omega
      simp [this]

theorem fl_back : ∀ k, k < 1024 → floatToIntVal .f64 (fl k) .i64 = some (k : Int) := by decide +kernel

theorem fl_one : fl 1 = 4607182418800017408 := by decide +kernel
theorem fl_251 : fl 251 = 4643035293958537216 := by decide +kernel
theorem fl_241 : fl 241 = 4642683450237648896 := by decide +kernel

end Go.Proofs.Ytfmlgckfcclojaa
namespace Go.Proofs.Ytfmlgckfcclojaa
open Go.RowKit Go.Lib

def flOf : Value → Nat
  | .float _ b => ((floatToIntVal .f64 b .i64).getD 0).toNat
  | _ => 0

theorem flOf_fl {k : Nat} (h : k < 1024) : flOf (.float .f64 (fl k)) = k := by
  simp only [flOf, fl_back k h, Option.getD_some]
  omega

/-- One byte more. -/
def sumStep (p : Nat × Nat) (c : UInt8) : Nat × Nat := ((p.1 + c.toNat + 1) % 251, (p.2 + (p.1 + c.toNat + 1) % 251) % 241)

theorem sumStep_lt (p : Nat × Nat) (c : UInt8) : (sumStep p c).1 < 251 ∧ (sumStep p c).2 < 241 := ⟨Nat.mod_lt _ (by omega), Nat.mod_lt _ (by omega)⟩

/-- Both numbers of a sum. -/
def sumP (l : List UInt8) : Nat × Nat := l.foldl sumStep (1, 1)
/-- A record's sum. -/
def sumN (l : List UInt8) : Nat := (sumP l).1 + 256 * (sumP l).2

theorem sumP_nil : sumP [] = (1, 1) := rfl
theorem sumP_snoc (l : List UInt8) (c : UInt8) : sumP (l ++ [c]) = sumStep (sumP l) c := by simp [sumP, List.foldl_append]
theorem foldl_lt : ∀ (l : List UInt8) (p : Nat × Nat), p.1 < 251 ∧ p.2 < 241 → (l.foldl sumStep p).1 < 251 ∧ (l.foldl sumStep p).2 < 241
  | [], _, h => h
  | c :: l, p, _ => foldl_lt l (sumStep p c) (sumStep_lt p c)
theorem sumP_lt (l : List UInt8) : (sumP l).1 < 251 ∧ (sumP l).2 < 241 := foldl_lt l (1, 1) ⟨by decide, by decide⟩
theorem sumN_lt (l : List UInt8) : sumN l < 65536 := by
  have := sumP_lt l
  unfold sumN
  omega

theorem take_snoc (s : ByteArray) (k : Nat) (h : k < s.size) : s.data.toList.take (k + 1) = s.data.toList.take k ++ [s[k]] := by
  rw [List.take_succ_eq_append_getElem (by simpa using h)]; rfl

end Go.Proofs.Ytfmlgckfcclojaa
namespace Go.Proofs.Ytfmlgckfcclojaa
open Go.RowKit Go.Lib

theorem infoB8 : (Try.prog.info? 5).map (fun i => (i.zero, i.size, i.bytes)) = some (some (.int .u8 0), 1, 1) := by kernel_rfl

/-- Bytes that can be read. -/
def BRow (w : World) (v : Value) (bs : List UInt8) : Prop :=
  ∃ a c, v = .slice a bs.length c ∧ bs.length ≤ c ∧ c ≤ maxLen ∧ (a = none → c = 0) ∧ ∀ j x, bs[j]? = some x → ∃ A, a = some A ∧ w.cell? (A.add j) = some (.int .u8 x.toNat)

theorem fadd_block (a : Addr) (n : Nat) : (a.add n).block = a.block := by unfold Addr.add; split <;> rfl
theorem BRow.below {w w' : World} {v : Value} {bs : List UInt8} (h : BRow w v bs) (hb : Below w.heap.size w w') : BRow w' v bs := by
  obtain ⟨a, c, h1, h2, h3, h4, h5⟩ := h
  refine ⟨a, c, h1, h2, h3, h4, fun j x hj => ?_⟩
  obtain ⟨A, e1, e2⟩ := h5 j x hj
  exact ⟨A, e1, (hb.cell (World.block_lt_of_cell? _ _ e2)).trans e2⟩

theorem fcell_of_blk {w : World} {b k : Nat} {cs : Array Value} {e : TypeId} {fr : Nat × Nat} (h : w.heap[b]? = some (.cells cs e fr)) {v : Value} (hv : cs[k]? = some v) : w.cell? ⟨b, k, none⟩ = some v := by simp [World.cell?, h, hv]

theorem ret_num {k : IntKind} {a b : Int} (h : a = b) : Ending.returned (.int k a) = .returned (.int k b) := by rw [h]

theorem ofNat_toNat {n : Nat} (h : n < 256) : (UInt8.ofNat n).toNat = n := by simp; omega

theorem cells_new (w : World) (bs : List UInt8) (cs : Array Value) (t : TypeId) (fr : Nat × Nat) (h : cs.toList = byteCells bs) : ∀ j u, (byteCells bs)[j]? = some u → (w.alloc (.cells cs t fr)).cell? ((⟨w.heap.size, 0, none⟩ : Addr).add j) = some u := by
  intro j u hu
  have hadd : (⟨w.heap.size, 0, none⟩ : Addr).add j = ⟨w.heap.size, j, none⟩ := by unfold Addr.add; split <;> simp_all
  rw [hadd]
  refine fcell_of_blk (heap_alloc_new w _) ?_
  rw [← h] at hu
  simpa using hu

/-- A record's frame. -/
def frameB (l : List UInt8) : List UInt8 := [82] ++ [UInt8.ofNat (l.length / 256), UInt8.ofNat (l.length % 256)] ++ [UInt8.ofNat (sumN l / 256), UInt8.ofNat (sumN l % 256)] ++ l

theorem frameB_length (l : List UInt8) : (frameB l).length = l.length + 5 := by simp [frameB]

/-- What Put gives. -/
def putB (l : List UInt8) : List UInt8 := if 4096 < l.length then [] else frameB l

end Go.Proofs.Ytfmlgckfcclojaa
