/- Whole numbers below 1024 as floats of 64 bits: sums, differences, comparisons and the way back to whole numbers are exact. -/
import Derived.Laws.FloatArith
namespace Go.Proofs.Ytefcbgnckgapgaa

/-- A whole number's float. -/
def fl (n : Nat) : Nat := floatOfInt .f64 (n : Int)

def flPlace (k : Nat) : Nat := if k = 0 then 1074 else 52 - k.log2

theorem fl_read : ∀ k, k < 1024 → FloatKind.f64.format.read (fl k) = .number false (k * 2 ^ flPlace k) (-(flPlace k : Int)) := by decide +kernel

theorem flPlace_le (k : Nat) : flPlace k ≤ 1074 := by unfold flPlace; split <;> omega

theorem log2_shift (k d : Nat) (hk : 0 < k) : (k * 2 ^ d).log2 = k.log2 + d := by
  have hp : 0 < 2 ^ d := Nat.two_pow_pos d
  have h0 : k * 2 ^ d ≠ 0 := Nat.mul_ne_zero (by omega) (by omega)
  have h1 : 2 ^ k.log2 ≤ k := Nat.log2_self_le (by omega)
  have h2 : k < 2 ^ (k.log2 + 1) := Nat.lt_log2_self
  apply Nat.le_antisymm
  · have h3 : k * 2 ^ d < 2 ^ (k.log2 + d + 1) := by
      rw [show k.log2 + d + 1 = (k.log2 + 1) + d by omega, Nat.pow_add]
      exact Nat.mul_lt_mul_of_pos_right h2 hp
    have h4 := (Nat.log2_lt h0).2 h3
    omega
  · apply (Nat.le_log2 h0).2
    rw [Nat.pow_add]
    exact Nat.mul_le_mul_right _ h1

theorem cut_zero (n : Nat) : Ieee.Toward.even.cut false n 0 = n := by
  simp [Ieee.Toward.cut, Nat.mod_one]

theorem cut_exact (m e : Nat) (hm : 0 < m) : Ieee.Toward.even.cut false (m * 2 ^ e) e = m := by
  have hp : 0 < 2 ^ e := Nat.two_pow_pos e
  have hl : (m * 2 ^ e).log2 = m.log2 + e := log2_shift m e hm
  have hmin : min e ((m * 2 ^ e).log2 + 2) = e := by rw [hl]; omega
  simp only [Ieee.Toward.cut, hmin, Nat.one_shiftLeft, Nat.mul_mod_left, Nat.mul_div_cancel _ hp]
  have h1 : ¬ (2 ^ e < 2 * 0) := by omega
  have h2 : (2 ^ e == 2 * 0) = false := by simp
  simp [h2]

def flWord (k : Nat) : Nat := Ieee.double.word false (min ((k.log2 + 1022) * Ieee.double.binade + k * 2 ^ (52 - k.log2)) Ieee.double.infRung)

theorem nearest_exact (k d : Nat) (hk : 0 < k) (hk2 : k < 1024) (_hd : d ≤ 1074) : Ieee.double.nearest false (k * 2 ^ d) (-(d : Int)) = flWord k := by
  have hp : 0 < 2 ^ d := Nat.two_pow_pos d
  have h0 : k * 2 ^ d ≠ 0 := Nat.mul_ne_zero (by omega) (by omega)
  have hL : k.log2 < 10 := (Nat.log2_lt (by omega)).2 hk2
  have hl := log2_shift k d hk
  have hlp : Ieee.double.leastPlace = -1074 := by decide
  have hfb : Ieee.double.fractionBits = 52 := rfl
  unfold Ieee.Format.nearest
  rw [if_neg h0]
  simp only [hl, hlp, hfb]
  have hlast : max (-(d : Int) + ((k.log2 + d : Nat) : Int) - ((52 : Nat) : Int)) (-1074) = (k.log2 : Int) - 52 := by omega
  rw [hlast]
  have hk1 : Ieee.Toward.even.cut false ((k * 2 ^ d) <<< (-(d : Int) - ((k.log2 : Int) - 52)).toNat) ((k.log2 : Int) - 52 - -(d : Int)).toNat = k * 2 ^ (52 - k.log2) := by
    by_cases hc : d ≤ 52 - k.log2
    · have e1 : (-(d : Int) - ((k.log2 : Int) - 52)).toNat = 52 - k.log2 - d := by omega
      have e2 : ((k.log2 : Int) - 52 - -(d : Int)).toNat = 0 := by omega
      rw [e1, e2, cut_zero, Nat.shiftLeft_eq, Nat.mul_assoc, ← Nat.pow_add, show d + (52 - k.log2 - d) = 52 - k.log2 by omega]
    · have e1 : (-(d : Int) - ((k.log2 : Int) - 52)).toNat = 0 := by omega
      have e2 : ((k.log2 : Int) - 52 - -(d : Int)).toNat = d - (52 - k.log2) := by omega
      rw [e1, e2, Nat.shiftLeft_zero]
      have e3 : k * 2 ^ d = (k * 2 ^ (52 - k.log2)) * 2 ^ (d - (52 - k.log2)) := by
        rw [Nat.mul_assoc, ← Nat.pow_add, show 52 - k.log2 + (d - (52 - k.log2)) = d by omega]
      rw [e3]
      exact cut_exact _ _ (Nat.mul_pos hk (Nat.two_pow_pos _))
  rw [hk1]
  have e4 : ((k.log2 : Int) - 52 - -1074).toNat = k.log2 + 1022 := by omega
  rw [e4]
  rfl

theorem fl_write (k d : Nat) (hk2 : k < 1024) (hd : d ≤ 1074) : FloatKind.f64.format.write (.number false (k * 2 ^ d) (-(d : Int))) = fl k := by
  show Ieee.double.nearest false (k * 2 ^ d) (-(d : Int)) = Ieee.double.nearest (decide ((k : Int) < 0)) (k : Int).natAbs 0
  have e0 : decide ((k : Int) < 0) = false := by simp
  rw [e0]
  have e1 : (k : Int).natAbs = k := by omega
  rw [e1]
  by_cases hk : k = 0
  · subst hk
    simp [Ieee.Format.nearest]
  · rw [nearest_exact k d (by omega) hk2 hd]
    have h := nearest_exact k 0 (by omega) hk2 (by omega)
    simpa using h.symm

theorem signed_pos (m up : Nat) : Ieee.signed false m up = ((m * 2 ^ up : Nat) : Int) := by simp [Ieee.signed, Nat.shiftLeft_eq]
theorem signed_neg (m up : Nat) : Ieee.signed true m up = -((m * 2 ^ up : Nat) : Int) := by simp [Ieee.signed, Nat.shiftLeft_eq]

theorem up_pow (k p q : Nat) (h : p ≤ q) : k * 2 ^ p * 2 ^ (-(p : Int) - -(q : Int)).toNat = k * 2 ^ q := by
  have e : (-(p : Int) - -(q : Int)).toNat = q - p := by omega
  rw [e, Nat.mul_assoc, ← Nat.pow_add, show p + (q - p) = q by omega]

theorem fl_add (a b : Nat) (h : a + b < 1024) : floatBits .add .f64 (fl a) (fl b) = some (fl (a + b)) := by
  show ((FloatKind.f64.format.read (fl a)).sum (FloatKind.f64.format.read (fl b))).map FloatKind.f64.format.write = _
  rw [fl_read a (by omega), fl_read b (by omega)]
  have hb : min (-(flPlace a : Int)) (-(flPlace b : Int)) = -((max (flPlace a) (flPlace b) : Nat) : Int) := by omega
  have ha1 := flPlace_le a
  have hb1 := flPlace_le b
  simp only [Ieee.Datum.sum, hb, signed_pos, Option.map_some]
  rw [up_pow _ _ _ (Nat.le_max_left _ _), up_pow _ _ _ (Nat.le_max_right _ _)]
  have ht : ((a * 2 ^ max (flPlace a) (flPlace b) : Nat) : Int) + ((b * 2 ^ max (flPlace a) (flPlace b) : Nat) : Int) = (((a + b) * 2 ^ max (flPlace a) (flPlace b) : Nat) : Int) := by
    rw [← Int.natCast_add, Nat.add_mul]
  rw [ht]
  have hs : (if (((a + b) * 2 ^ max (flPlace a) (flPlace b) : Nat) : Int) = 0 then false && false else decide ((((a + b) * 2 ^ max (flPlace a) (flPlace b) : Nat) : Int) < 0)) = false := by
    split
    · rfl
    · simp only [decide_eq_false_iff_not]; exact Int.not_lt.2 (Int.natCast_nonneg _)
  rw [hs, Int.natAbs_natCast]
  rw [fl_write (a + b) _ h (by omega)]

theorem fl_sub (a b : Nat) (h : a < 1024) (hb0 : b ≤ a) : floatBits .sub .f64 (fl a) (fl b) = some (fl (a - b)) := by
  show ((FloatKind.f64.format.read (fl a)).sum (FloatKind.f64.format.read (fl b)).opposite).map FloatKind.f64.format.write = _
  rw [fl_read a (by omega), fl_read b (by omega)]
  have hb : min (-(flPlace a : Int)) (-(flPlace b : Int)) = -((max (flPlace a) (flPlace b) : Nat) : Int) := by omega
  have ha1 := flPlace_le a
  have hb1 := flPlace_le b
  simp only [Ieee.Datum.sum, Ieee.Datum.opposite, Bool.not_false, hb, signed_pos, signed_neg, Option.map_some]
  rw [up_pow _ _ _ (Nat.le_max_left _ _), up_pow _ _ _ (Nat.le_max_right _ _)]
  have hle : b * 2 ^ max (flPlace a) (flPlace b) ≤ a * 2 ^ max (flPlace a) (flPlace b) := Nat.mul_le_mul_right _ hb0
  have ht : ((a * 2 ^ max (flPlace a) (flPlace b) : Nat) : Int) + -((b * 2 ^ max (flPlace a) (flPlace b) : Nat) : Int) = (((a - b) * 2 ^ max (flPlace a) (flPlace b) : Nat) : Int) := by
    rw [Nat.sub_mul]
    omega
  rw [ht]
  have hs : (if (((a - b) * 2 ^ max (flPlace a) (flPlace b) : Nat) : Int) = 0 then false && true else decide ((((a - b) * 2 ^ max (flPlace a) (flPlace b) : Nat) : Int) < 0)) = false := by
    split
    · rfl
    · simp only [decide_eq_false_iff_not]; exact Int.not_lt.2 (Int.natCast_nonneg _)
  rw [hs, Int.natAbs_natCast]
  rw [fl_write (a - b) _ (by omega) (by omega)]

theorem fl_order (a b : Nat) (ha : a < 1024) (hb : b < 1024) : FloatKind.f64.format.order (fl a) (fl b) = some (compare (a : Int) (b : Int)) := by
  show (FloatKind.f64.format.read (fl a)).order (FloatKind.f64.format.read (fl b)) = _
  rw [fl_read a ha, fl_read b hb]
  have hb2 : min (-(flPlace a : Int)) (-(flPlace b : Int)) = -((max (flPlace a) (flPlace b) : Nat) : Int) := by omega
  simp only [Ieee.Datum.order, hb2, signed_pos]
  rw [up_pow _ _ _ (Nat.le_max_left _ _), up_pow _ _ _ (Nat.le_max_right _ _)]
  have hp : (0 : Int) < ((2 ^ max (flPlace a) (flPlace b) : Nat) : Int) := by exact_mod_cast Nat.two_pow_pos _
  congr 1
  simp only [compare, compareOfLessAndEq, Int.natCast_mul]
  by_cases h1 : (a : Int) < b
  · rw [if_pos (Int.mul_lt_mul_of_pos_right h1 hp), if_pos h1]
  · rw [if_neg (fun h => h1 (Int.lt_of_mul_lt_mul_right h (Int.le_of_lt hp))), if_neg h1]
    by_cases h2 : (a : Int) = b
    · rw [if_pos (by rw [h2]), if_pos h2]
    · rw [if_neg (fun h => h2 (Int.eq_of_mul_eq_mul_right (by omega) h)), if_neg h2]

theorem fl_geq (a b : Nat) (ha : a < 1024) (hb : b < 1024) : (FloatKind.f64.format.order (fl a) (fl b) == some .gt || FloatKind.f64.format.order (fl a) (fl b) == some .eq) = decide (b ≤ a) := by
  rw [fl_order a b ha hb]
  by_cases h1 : a < b
  · have e : compare (a : Int) (b : Int) = .lt := by simp [compare, compareOfLessAndEq, h1]
    rw [e]
    have : ¬ b ≤ a := by omega
    simp [this]
  · by_cases h2 : a = b
    · subst h2
      have e : compare (a : Int) (a : Int) = .eq := by simp [compare, compareOfLessAndEq]
      rw [e]
      simp
    · have e : compare (a : Int) (b : Int) = .gt := by
        have h3 : ¬ (a : Int) < b := by omega
        have h4 : ¬ (a : Int) = b := by omega
        simp [compare, compareOfLessAndEq, h3, h4]
      rw [e]
      have : b ≤ a := by omega
      simp [this]

theorem fl_back : ∀ k, k < 1024 → floatToIntVal .f64 (fl k) .i64 = some (k : Int) := by decide +kernel

theorem fl_one : fl 1 = 4607182418800017408 := by decide +kernel
theorem fl_251 : fl 251 = 4643035293958537216 := by decide +kernel
theorem fl_241 : fl 241 = 4642683450237648896 := by decide +kernel

end Go.Proofs.Ytefcbgnckgapgaa
