/- Whole numbers below 1024 as floats of 64 bits: sums, differences, comparisons and the way back to whole numbers are exact. | The sum of a record: rest, step, Sum. | Bytes that can be read; two bytes of a number, put and read. | The record of the first frame: first. | Words of a query's text, in plain words. | Values in plain words: numbers as digits of base 128, put and read; a value's bytes, there and back. | The program's way of reading a value, and the document's, tell what a way must. -/
import Derived.Laws.FloatArith
import Derived.Test.YtndmbljpfpnehaaGreatDoorRows
import Derived.WalkKit
import Derived.WalkSpells
import Derived.WalkLawsBesides
import Derived.ScopeJumps
import Derived.Lib.Hide
import Derived.Lib.Strings
import Derived.Lib.ConvBytes
import Derived.Laws.BytesArg
import Derived.Lib.AppendStr
import Derived.Laws.MakeOwn
import Derived.Maps.AppendAt
import Derived.Deep.QuietTactic
import Derived.BigQuiet
import Derived.IntWalk
import Derived.Lib.BufferWrite
import Derived.Lib.ParseIntBTie
import Derived.Lib.Bytealg
namespace Go.Proofs.YtndmbljpfpnehaaGreatDoor

/-- A whole number's float. -/
def fl (n : Nat) : Nat := floatOfInt .f64 (n : Int)

def flPlace (k : Nat) : Nat := if k = 0 then 1074 else 52 - k.log2

theorem fl_read : ∀ k, k < 1024 → FloatKind.f64.format.read (fl k) = .number false (k * 2 ^ flPlace k) (-(flPlace k : Int)) := by decide +kernel

theorem flPlace_le (k : Nat) : flPlace k ≤ 1074 := by unfold flPlace; split <;> omega

theorem log2_shift (k d : Nat) (hk : 0 < k) : (k * 2 ^ d).log2 = k.log2 + d := by
  have hp : 0 < 2 ^ d := Nat.two_pow_pos d
  have h0 : k * 2 ^ d ≠ 0 := Nat.mul_ne_zero (by omega) (by omega)
  have h1 : 2 ^ k.log2 ≤ k := Nat.log2_self_le (by omega)
  have h2 : k < 2 ^ (k.log2 + 1) := Nat.lt_log2_self
  apply Nat.le_antisymm
  · have h3 : k * 2 ^ d < 2 ^ (k.log2 + d + 1) := by
      rw [show k.log2 + d + 1 = (k.log2 + 1) + d by omega, Nat.pow_add]
      exact Nat.mul_lt_mul_of_pos_right h2 hp
    have h4 := (Nat.log2_lt h0).2 h3
    omega
  · apply (Nat.le_log2 h0).2
    rw [Nat.pow_add]
    exact Nat.mul_le_mul_right _ h1

theorem cut_zero (n : Nat) : Ieee.Toward.even.cut false n 0 = n := by
  simp [Ieee.Toward.cut, Nat.mod_one]

theorem cut_exact (m e : Nat) (hm : 0 < m) : Ieee.Toward.even.cut false (m * 2 ^ e) e = m := by
  have hp : 0 < 2 ^ e := Nat.two_pow_pos e
  have hl : (m * 2 ^ e).log2 = m.log2 + e := log2_shift m e hm
  have hmin : min e ((m * 2 ^ e).log2 + 2) = e := by rw [hl]; omega
  simp only [Ieee.Toward.cut, hmin, Nat.one_shiftLeft, Nat.mul_mod_left, Nat.mul_div_cancel _ hp]
  have h1 : ¬ (2 ^ e < 2 * 0) := by omega
  have h2 : (2 ^ e == 2 * 0) = false := by simp
  simp [h2]

def flWord (k : Nat) : Nat := Ieee.double.word false (min ((k.log2 + 1022) * Ieee.double.binade + k * 2 ^ (52 - k.log2)) Ieee.double.infRung)

theorem nearest_exact (k d : Nat) (hk : 0 < k) (hk2 : k < 1024) (_hd : d ≤ 1074) : Ieee.double.nearest false (k * 2 ^ d) (-(d : Int)) = flWord k := by
  have hp : 0 < 2 ^ d := Nat.two_pow_pos d
  have h0 : k * 2 ^ d ≠ 0 := Nat.mul_ne_zero (by omega) (by omega)
  have hL : k.log2 < 10 := (Nat.log2_lt (by omega)).2 hk2
  have hl := log2_shift k d hk
  have hlp : Ieee.double.leastPlace = -1074 := by decide
  have hfb : Ieee.double.fractionBits = 52 := rfl
  unfold Ieee.Format.nearest
  rw [if_neg h0]
  simp only [hl, hlp, hfb]
  have hlast : max (-(d : Int) + ((k.log2 + d : Nat) : Int) - ((52 : Nat) : Int)) (-1074) = (k.log2 : Int) - 52 := by omega
  rw [hlast]
  have hk1 : Ieee.Toward.even.cut false ((k * 2 ^ d) <<< (-(d : Int) - ((k.log2 : Int) - 52)).toNat) ((k.log2 : Int) - 52 - -(d : Int)).toNat = k * 2 ^ (52 - k.log2) := by
    by_cases hc : d ≤ 52 - k.log2
    · have e1 : (-(d : Int) - ((k.log2 : Int) - 52)).toNat = 52 - k.log2 - d := by omega
      have e2 : ((k.log2 : Int) - 52 - -(d : Int)).toNat = 0 := by omega
      rw [e1, e2, cut_zero, Nat.shiftLeft_eq, Nat.mul_assoc, ← Nat.pow_add, show d + (52 - k.log2 - d) = 52 - k.log2 by omega]
    · have e1 : (-(d : Int) - ((k.log2 : Int) - 52)).toNat = 0 := by omega
      have e2 : ((k.log2 : Int) - 52 - -(d : Int)).toNat = d - (52 - k.log2) := by omega
      rw [e1, e2, Nat.shiftLeft_zero]
      have e3 : k * 2 ^ d = (k * 2 ^ (52 - k.log2)) * 2 ^ (d - (52 - k.log2)) := by
        rw [Nat.mul_assoc, ← Nat.pow_add, show 52 - k.log2 + (d - (52 - k.log2)) = d by omega]
      rw [e3]
      exact cut_exact _ _ (Nat.mul_pos hk (Nat.two_pow_pos _))
  rw [hk1]
  have e4 : ((k.log2 : Int) - 52 - -1074).toNat = k.log2 + 1022 := by omega
  rw [e4]
  rfl

theorem fl_write (k d : Nat) (hk2 : k < 1024) (hd : d ≤ 1074) : FloatKind.f64.format.write (.number false (k * 2 ^ d) (-(d : Int))) = fl k := by
  show Ieee.double.nearest false (k * 2 ^ d) (-(d : Int)) = Ieee.double.nearest (decide ((k : Int) < 0)) (k : Int).natAbs 0
  have e0 : decide ((k : Int) < 0) = false := by simp
  rw [e0]
  have e1 : (k : Int).natAbs = k := by omega
  rw [e1]
  by_cases hk : k = 0
  · subst hk
    simp [Ieee.Format.nearest]
  · rw [nearest_exact k d (by omega) hk2 hd]
    have h := nearest_exact k 0 (by omega) hk2 (by omega)
    simpa using h.symm

theorem signed_pos (m up : Nat) : Ieee.signed false m up = ((m * 2 ^ up : Nat) : Int) := by simp [Ieee.signed, Nat.shiftLeft_eq]
theorem signed_neg (m up : Nat) : Ieee.signed true m up = -((m * 2 ^ up : Nat) : Int) := by simp [Ieee.signed, Nat.shiftLeft_eq]

theorem up_pow (k p q : Nat) (h : p ≤ q) : k * 2 ^ p * 2 ^ (-(p : Int) - -(q : Int)).toNat = k * 2 ^ q := by
  have e : (-(p : Int) - -(q : Int)).toNat = q - p := by omega
  rw [e, Nat.mul_assoc, ← Nat.pow_add, show p + (q - p) = q by omega]

theorem fl_add (a b : Nat) (h : a + b < 1024) : floatBits .add .f64 (fl a) (fl b) = some (fl (a + b)) := by
  show ((FloatKind.f64.format.read (fl a)).sum (FloatKind.f64.format.read (fl b))).map FloatKind.f64.format.write = _
  rw [fl_read a (by omega), fl_read b (by omega)]
  have hb : min (-(flPlace a : Int)) (-(flPlace b : Int)) = -((max (flPlace a) (flPlace b) : Nat) : Int) := by omega
  have ha1 := flPlace_le a
  have hb1 := flPlace_le b
  simp only [Ieee.Datum.sum, hb, signed_pos, Option.map_some]
  rw [up_pow _ _ _ (Nat.le_max_left _ _), up_pow _ _ _ (Nat.le_max_right _ _)]
  have ht : ((a * 2 ^ max (flPlace a) (flPlace b) : Nat) : Int) + ((b * 2 ^ max (flPlace a) (flPlace b) : Nat) : Int) = (((a + b) * 2 ^ max (flPlace a) (flPlace b) : Nat) : Int) := by
    rw [← Int.natCast_add, Nat.add_mul]
  rw [ht]
  have hs : (if (((a + b) * 2 ^ max (flPlace a) (flPlace b) : Nat) : Int) = 0 then false && false else decide ((((a + b) * 2 ^ max (flPlace a) (flPlace b) : Nat) : Int) < 0)) = false := by
    split
    · rfl
    · simp only [decide_eq_false_iff_not]; exact Int.not_lt.2 (Int.natCast_nonneg _)
  rw [hs, Int.natAbs_natCast]
  rw [fl_write (a + b) _ h (by omega)]

theorem fl_sub (a b : Nat) (h : a < 1024) (hb0 : b ≤ a) : floatBits .sub .f64 (fl a) (fl b) = some (fl (a - b)) := by
  show ((FloatKind.f64.format.read (fl a)).sum (FloatKind.f64.format.read (fl b)).opposite).map FloatKind.f64.format.write = _
  rw [fl_read a (by omega), fl_read b (by omega)]
  have hb : min (-(flPlace a : Int)) (-(flPlace b : Int)) = -((max (flPlace a) (flPlace b) : Nat) : Int) := by omega
  have ha1 := flPlace_le a
  have hb1 := flPlace_le b
  simp only [Ieee.Datum.sum, Ieee.Datum.opposite, Bool.not_false, hb, signed_pos, signed_neg, Option.map_some]
  rw [up_pow _ _ _ (Nat.le_max_left _ _), up_pow _ _ _ (Nat.le_max_right _ _)]
  have hle : b * 2 ^ max (flPlace a) (flPlace b) ≤ a * 2 ^ max (flPlace a) (flPlace b) := Nat.mul_le_mul_right _ hb0
  have ht : ((a * 2 ^ max (flPlace a) (flPlace b) : Nat) : Int) + -((b * 2 ^ max (flPlace a) (flPlace b) : Nat) : Int) = (((a - b) * 2 ^ max (flPlace a) (flPlace b) : Nat) : Int) := by
    rw [Nat.sub_mul]
    omega
  rw [ht]
  have hs : (if (((a - b) * 2 ^ max (flPlace a) (flPlace b) : Nat) : Int) = 0 then false && true else decide ((((a - b) * 2 ^ max (flPlace a) (flPlace b) : Nat) : Int) < 0)) = false := by
    split
    · rfl
    · simp only [decide_eq_false_iff_not]; exact Int.not_lt.2 (Int.natCast_nonneg _)
  rw [hs, Int.natAbs_natCast]
  rw [fl_write (a - b) _ (by omega) (by omega)]

theorem fl_order (a b : Nat) (ha : a < 1024) (hb : b < 1024) : FloatKind.f64.format.order (fl a) (fl b) = some (compare (a : Int) (b : Int)) := by
  show (FloatKind.f64.format.read (fl a)).order (FloatKind.f64.format.read (fl b)) = _
  rw [fl_read a ha, fl_read b hb]
  have hb2 : min (-(flPlace a : Int)) (-(flPlace b : Int)) = -((max (flPlace a) (flPlace b) : Nat) : Int) := by omega
  simp only [Ieee.Datum.order, hb2, signed_pos]
  rw [up_pow _ _ _ (Nat.le_max_left _ _), up_pow _ _ _ (Nat.le_max_right _ _)]
  have hp : (0 : Int) < ((2 ^ max (flPlace a) (flPlace b) : Nat) : Int) := by exact_mod_cast Nat.two_pow_pos _
  congr 1
  simp only [compare, compareOfLessAndEq, Int.natCast_mul]
  by_cases h1 : (a : Int) < b
  · rw [if_pos (Int.mul_lt_mul_of_pos_right h1 hp), if_pos h1]
  · rw [if_neg (fun h => h1 (Int.lt_of_mul_lt_mul_right h (Int.le_of_lt hp))), if_neg h1]
    by_cases h2 : (a : Int) = b
    · rw [if_pos (by rw [h2]), if_pos h2]
    · rw [if_neg (fun h => h2 (Int.eq_of_mul_eq_mul_right (by omega) h)), if_neg h2]

theorem fl_geq (a b : Nat) (ha : a < 1024) (hb : b < 1024) : (FloatKind.f64.format.order (fl a) (fl b) == some .gt || FloatKind.f64.format.order (fl a) (fl b) == some .eq) = decide (b ≤ a) := by
  rw [fl_order a b ha hb]
  by_cases h1 : a < b
  · have e : compare (a : Int) (b : Int) = .lt := by simp [compare, compareOfLessAndEq, h1]
    rw [e]
    have : ¬ b ≤ a := by omega
    simp [this]
  · by_cases h2 : a = b
    · subst h2
      have e : compare (a : Int) (a : Int) = .eq := by simp [compare, compareOfLessAndEq]
      rw [e]
      simp
    · have e : compare (a : Int) (b : Int) = .gt := by
        have h3 : ¬ (a : Int) < b := by omega
        have h4 : ¬ (a : Int) = b := by omega
        simp [compare, compareOfLessAndEq, h3, h4]
      rw [e]
      have : b ≤ a := by omega
      simp [this]

theorem fl_back : ∀ k, k < 1024 → floatToIntVal .f64 (fl k) .i64 = some (k : Int) := by decide +kernel

theorem fl_one : fl 1 = 4607182418800017408 := by decide +kernel
theorem fl_251 : fl 251 = 4643035293958537216 := by decide +kernel
theorem fl_241 : fl 241 = 4642683450237648896 := by decide +kernel

end Go.Proofs.YtndmbljpfpnehaaGreatDoor
namespace Go.Proofs.YtndmbljpfpnehaaGreatDoor
open Go.RowKit Go.Lib

def flOf : Value → Nat
  | .float _ b => ((floatToIntVal .f64 b .i64).getD 0).toNat
  | _ => 0

theorem flOf_fl {k : Nat} (h : k < 1024) : flOf (.float .f64 (fl k)) = k := by
  simp only [flOf, fl_back k h, Option.getD_some]
  omega

/-- One byte more. -/
def sumStep (p : Nat × Nat) (c : UInt8) : Nat × Nat := ((p.1 + c.toNat + 1) % 251, (p.2 + (p.1 + c.toNat + 1) % 251) % 241)

theorem sumStep_lt (p : Nat × Nat) (c : UInt8) : (sumStep p c).1 < 251 ∧ (sumStep p c).2 < 241 := ⟨Nat.mod_lt _ (by omega), Nat.mod_lt _ (by omega)⟩

/-- Both numbers of a sum. -/
def sumP (l : List UInt8) : Nat × Nat := l.foldl sumStep (1, 1)
/-- A record's sum. -/
def sumN (l : List UInt8) : Nat := (sumP l).1 + 256 * (sumP l).2

theorem sumP_nil : sumP [] = (1, 1) := rfl
theorem sumP_snoc (l : List UInt8) (c : UInt8) : sumP (l ++ [c]) = sumStep (sumP l) c := by simp [sumP, List.foldl_append]
theorem foldl_lt : ∀ (l : List UInt8) (p : Nat × Nat), p.1 < 251 ∧ p.2 < 241 → (l.foldl sumStep p).1 < 251 ∧ (l.foldl sumStep p).2 < 241
  | [], _, h => h
  | c :: l, p, _ => foldl_lt l (sumStep p c) (sumStep_lt p c)
theorem sumP_lt (l : List UInt8) : (sumP l).1 < 251 ∧ (sumP l).2 < 241 := foldl_lt l (1, 1) ⟨by decide, by decide⟩
theorem sumN_lt (l : List UInt8) : sumN l < 65536 := by
  have := sumP_lt l
  unfold sumN
  omega

theorem take_snoc (s : ByteArray) (k : Nat) (h : k < s.size) : s.data.toList.take (k + 1) = s.data.toList.take k ++ [s[k]] := by
  rw [List.take_succ_eq_append_getElem (by simpa using h)]; rfl

end Go.Proofs.YtndmbljpfpnehaaGreatDoor
namespace Go.Proofs.YtndmbljpfpnehaaGreatDoor
open Go.RowKit Go.Lib

theorem infoB8 : (Tryz.prog.info? 5).map (fun i => (i.zero, i.size, i.bytes)) = some (some (.int .u8 0), 1, 1) := by kernel_rfl

/-- Bytes that can be read. -/
def BRow (w : World) (v : Value) (bs : List UInt8) : Prop :=
  ∃ a c, v = .slice a bs.length c ∧ bs.length ≤ c ∧ c ≤ maxLen ∧ (a = none → c = 0) ∧ ∀ j x, bs[j]? = some x → ∃ A, a = some A ∧ w.cell? (A.add j) = some (.int .u8 x.toNat)

theorem fadd_block (a : Addr) (n : Nat) : (a.add n).block = a.block := by unfold Addr.add; split <;> rfl
theorem BRow.below {w w' : World} {v : Value} {bs : List UInt8} (h : BRow w v bs) (hb : Below w.heap.size w w') : BRow w' v bs := by
  obtain ⟨a, c, h1, h2, h3, h4, h5⟩ := h
  refine ⟨a, c, h1, h2, h3, h4, fun j x hj => ?_⟩
  obtain ⟨A, e1, e2⟩ := h5 j x hj
  exact ⟨A, e1, (hb.cell (World.block_lt_of_cell? _ _ e2)).trans e2⟩

theorem fcell_of_blk {w : World} {b k : Nat} {cs : Array Value} {e : TypeId} {fr : Nat × Nat} (h : w.heap[b]? = some (.cells cs e fr)) {v : Value} (hv : cs[k]? = some v) : w.cell? ⟨b, k, none⟩ = some v := by simp [World.cell?, h, hv]

theorem ret_num {k : IntKind} {a b : Int} (h : a = b) : Ending.returned (.int k a) = .returned (.int k b) := by rw [h]

theorem ofNat_toNat {n : Nat} (h : n < 256) : (UInt8.ofNat n).toNat = n := by simp; omega

theorem cells_new (w : World) (bs : List UInt8) (cs : Array Value) (t : TypeId) (fr : Nat × Nat) (h : cs.toList = byteCells bs) : ∀ j u, (byteCells bs)[j]? = some u → (w.alloc (.cells cs t fr)).cell? ((⟨w.heap.size, 0, none⟩ : Addr).add j) = some u := by
  intro j u hu
  have hadd : (⟨w.heap.size, 0, none⟩ : Addr).add j = ⟨w.heap.size, j, none⟩ := by unfold Addr.add; split <;> simp_all
  rw [hadd]
  refine fcell_of_blk (heap_alloc_new w _) ?_
  rw [← h] at hu
  simpa using hu

/-- A record's frame. -/
def frameB (l : List UInt8) : List UInt8 := [82] ++ [UInt8.ofNat (l.length / 256), UInt8.ofNat (l.length % 256)] ++ [UInt8.ofNat (sumN l / 256), UInt8.ofNat (sumN l % 256)] ++ l

theorem frameB_length (l : List UInt8) : (frameB l).length = l.length + 5 := by simp [frameB]

/-- What Put gives. -/
def putB (l : List UInt8) : List UInt8 := if 4096 < l.length then [] else frameB l

end Go.Proofs.YtndmbljpfpnehaaGreatDoor
namespace Go.Proofs.YtndmbljpfpnehaaGreatDoor
open Go.RowKit Go.Lib

/-- Bytes as a text. -/
def strB (l : List UInt8) : ByteArray := ⟨l.toArray⟩
theorem strB_list (l : List UInt8) : (strB l).data.toList = l := by simp [strB]
theorem strB_size (l : List UInt8) : (strB l).size = l.length := by simp [strB, ByteArray.size]

def byteN (l : List UInt8) (i : Nat) : Nat := (l.getD i 0).toNat
/-- How long the record is that a frame says. -/
def saysN (l : List UInt8) : Nat := 256 * byteN l 1 + byteN l 2

/-- The record of the frame that bytes begin with. -/
def firstB (l : List UInt8) : Option (List UInt8) :=
  if l.length < 5 then none
  else if byteN l 0 ≠ 82 then none
  else if 4096 < saysN l then none
  else if l.length - 5 < saysN l then none
  else if sumN ((l.drop 5).take (saysN l)) ≠ 256 * byteN l 3 + byteN l 4 then none
  else some ((l.drop 5).take (saysN l))

theorem byteN_lt (l : List UInt8) (i : Nat) : byteN l i < 256 := (l.getD i 0).toNat_lt

/-- A text of bytes that can be read. -/
theorem conv_brow {w : World} {v : Value} {bs : List UInt8} (h : BRow w v bs) : (convert 144 9 v).run Tryz.prog w = .ok (.string (strB bs)) w := by
  obtain ⟨a, c, rfl, _, _, _, hx⟩ := h
  cases a with
  | none =>
    cases bs with
    | nil => exact run_convert_bytes_nil w 144 5 Tryz.underlying144 Tryz.underlying5 0 c 9 Tryz.underlying9
    | cons x l =>
      obtain ⟨A, h1, _⟩ := hx 0 x rfl
      cases h1
  | some A =>
    have hl : (loadCells A bs.length).run Tryz.prog w = .ok ((bs.map fun b => (b.toNat : Int)).map (Value.int .u8)).toArray w := by
      have h := run_loadCells_list (P := Tryz.prog) w A ((bs.map fun b => (b.toNat : Int)).map (Value.int .u8)) (fun j v hj => by
        rw [List.map_map, List.getElem?_map, Option.map_eq_some_iff] at hj
        obtain ⟨x, hx1, rfl⟩ := hj
        obtain ⟨A', h1, h2⟩ := hx j x hx1
        injection h1 with h1
        rw [h1]
        exact h2)
      simpa using h
    rw [run_convert_bytes_string w 144 9 5 (some A) bs.length c Tryz.underlying144 Tryz.underlying5 Tryz.underlying9, run_bytesToString w A bs.length c (bs.map fun b => (b.toNat : Int)) hl, foldl_push_bytes]
    congr 2
    apply ByteArray.ext
    simp [strB, ByteArray.empty, ByteArray.emptyWithCapacity]
    rw [List.map_congr_left (g := id) (fun b _ => by simp)]
    simp
    rfl

/-- Bytes from a place on. -/
theorem BRow.drop {w : World} {v : Value} {bs : List UInt8} (h : BRow w v bs) {k : Nat} (hk : k ≤ bs.length) :
    ∃ v', (∀ W : World, (Instr.slice 144 v (some (.int .i64 k)) none none).run Tryz.prog W = .ok v' W) ∧ BRow w v' (bs.drop k) := by
  obtain ⟨a, c, rfl, h1, h2, h3, hx⟩ := h
  refine ⟨.slice (if c = k then a else a.map (·.add k)) (bs.length - k) (c - k), fun W => ?_, ?_⟩
  · have hz : (sizeOf 5).run Tryz.prog W = .ok 1 W := by kernel_rfl
    rw [run_slice_l (P := Tryz.prog) W 144 a bs.length c (by kernel_rfl) .i64 (k : Int) (by omega) (by omega)]
    have he : Tryz.prog.elem 144 = 5 := by kernel_rfl
    rw [he, hz]
    simp [Result.andThen, sliced]
  · refine ⟨_, c - k, by rw [List.length_drop], by rw [List.length_drop]; omega, by omega, fun hn => ?_, fun j x hj => ?_⟩
    · split at hn
      · omega
      · cases a with
        | none => have := h3 rfl; omega
        | some A => cases hn
    · rw [List.getElem?_drop] at hj
      obtain ⟨A, rfl, h5⟩ := hx (k + j) x hj
      have hlt : k + j < bs.length := (List.getElem?_eq_some_iff.1 hj).1
      have hck : c ≠ k := by omega
      refine ⟨A.add k, by simp [hck], ?_⟩
      rw [Addr.add_add]
      exact h5

/-- Bytes from a place on, up to another one. -/
theorem BRow.cut {w : World} {v : Value} {bs : List UInt8} (h : BRow w v bs) {k m : Nat} (hk : k ≤ m) (hm : m ≤ bs.length) :
    ∃ v', (∀ W : World, (Instr.slice 144 v (some (.int .i64 k)) (some (.int .i64 m)) none).run Tryz.prog W = .ok v' W) ∧ BRow w v' ((bs.drop k).take (m - k)) := by
  obtain ⟨a, c, rfl, h1, h2, h3, hx⟩ := h
  have hlen : ((bs.drop k).take (m - k)).length = m - k := by rw [List.length_take, List.length_drop]; omega
  refine ⟨.slice (if c = k then a else a.map (·.add k)) (m - k) (c - k), fun W => ?_, ?_⟩
  · have hz : (sizeOf 5).run Tryz.prog W = .ok 1 W := by kernel_rfl
    rw [run_slice_lh (P := Tryz.prog) W 144 a bs.length c (by kernel_rfl) .i64 .i64 (k : Int) (m : Int) (by omega) (by omega) (by omega)]
    have he : Tryz.prog.elem 144 = 5 := by kernel_rfl
    rw [he, hz]
    simp [Result.andThen, sliced]
  · refine ⟨_, c - k, by rw [hlen], by rw [hlen]; omega, by omega, fun hn => ?_, fun j x hj => ?_⟩
    · split at hn
      · omega
      · cases a with
        | none => have := h3 rfl; omega
        | some A => cases hn
    · have hjm : j < m - k := by
        have := (List.getElem?_eq_some_iff.1 hj).1
        omega
      rw [List.getElem?_take_of_lt hjm, List.getElem?_drop] at hj
      obtain ⟨A, rfl, h5⟩ := hx (k + j) x hj
      have hck : c ≠ k := by omega
      refine ⟨A.add k, by simp [hck], ?_⟩
      rw [Addr.add_add]
      exact h5

/-- Bytes up to a place. -/
theorem BRow.upto {w : World} {v : Value} {bs : List UInt8} (h : BRow w v bs) {m : Nat} (hm : m ≤ bs.length) :
    ∃ v', (∀ W : World, (Instr.slice 144 v none (some (.int .i64 m)) none).run Tryz.prog W = .ok v' W) ∧ BRow w v' (bs.take m) := by
  obtain ⟨a, c, rfl, h1, h2, h3, hx⟩ := h
  have hlen : (bs.take m).length = m := by rw [List.length_take]; omega
  refine ⟨.slice a m c, fun W => ?_, ?_⟩
  · have hz : (sizeOf 5).run Tryz.prog W = .ok 1 W := by kernel_rfl
    rw [run_slice_h (P := Tryz.prog) W 144 a bs.length c (by kernel_rfl) .i64 (m : Int) (by omega) (by omega)]
    have he : Tryz.prog.elem 144 = 5 := by kernel_rfl
    rw [he, hz]
    cases a <;> simp [Result.andThen, sliced, Addr.add]
  · refine ⟨_, c, by rw [hlen], by rw [hlen]; omega, h2, h3, fun j x hj => ?_⟩
    have hjm : j < m := by
      have := (List.getElem?_eq_some_iff.1 hj).1
      omega
    rw [List.getElem?_take_of_lt hjm] at hj
    exact hx j x hj

/-- Of a row that is owned. -/
theorem BRow.of_owns {w : World} {base l : Nat} {v : Value} {bs : List UInt8} (h : w.ownsRow base 5 1 v l (byteCells bs)) : BRow w v bs := by
  have hl : l = bs.length := by have := h.1; simp [byteCells] at this; omega
  subst hl
  have hc := fun g hg => h.cells (g := g) hg
  rcases h.2 with ⟨rfl, h0⟩ | ⟨g, cap, cur, rfl, _, _, h1, h2, _⟩
  · obtain rfl : bs = [] := List.eq_nil_of_length_eq_zero h0
    exact ⟨none, 0, rfl, Nat.le_refl _, by unfold maxLen; omega, fun _ => rfl, fun j x hj => by simp at hj⟩
  · refine ⟨_, cap, rfl, h1, h2, (fun e => by cases e), fun j x hj => ⟨_, rfl, hc g rfl j _ (by simp [byteCells, hj])⟩⟩

theorem BRow.len {w : World} {v : Value} {bs : List UInt8} (h : BRow w v bs) : ∃ a c, v = .slice a bs.length c ∧ bs.length ≤ c ∧ c ≤ maxLen := by
  obtain ⟨a, c, h1, h2, h3, _⟩ := h
  exact ⟨a, c, h1, h2, h3⟩

theorem firstB_short {l : List UInt8} (h : l.length < 5) : firstB l = none := if_pos h
theorem firstB_mark {l : List UInt8} (h : ¬ l.length < 5) (h0 : byteN l 0 ≠ 82) : firstB l = none := by unfold firstB; rw [if_neg h, if_pos h0]
theorem firstB_big {l : List UInt8} (h : ¬ l.length < 5) (h0 : byteN l 0 = 82) (h1 : 4096 < saysN l) : firstB l = none := by
  unfold firstB; rw [if_neg h, if_neg (by omega), if_pos h1]
theorem firstB_more {l : List UInt8} (h : ¬ l.length < 5) (h0 : byteN l 0 = 82) (h1 : ¬ 4096 < saysN l) (h2 : l.length - 5 < saysN l) : firstB l = none := by
  unfold firstB; rw [if_neg h, if_neg (by omega), if_neg h1, if_pos h2]
theorem firstB_sum {l : List UInt8} (h : ¬ l.length < 5) (h0 : byteN l 0 = 82) (h1 : ¬ 4096 < saysN l) (h2 : ¬ l.length - 5 < saysN l) (h3 : sumN ((l.drop 5).take (saysN l)) ≠ 256 * byteN l 3 + byteN l 4) : firstB l = none := by
  unfold firstB; rw [if_neg h, if_neg (by omega), if_neg h1, if_neg h2, if_pos h3]
theorem firstB_some {l : List UInt8} (h : ¬ l.length < 5) (h0 : byteN l 0 = 82) (h1 : ¬ 4096 < saysN l) (h2 : ¬ l.length - 5 < saysN l) (h3 : sumN ((l.drop 5).take (saysN l)) = 256 * byteN l 3 + byteN l 4) : firstB l = some ((l.drop 5).take (saysN l)) := by
  unfold firstB; rw [if_neg h, if_neg (by omega), if_neg h1, if_neg h2, if_neg (by omega)]

theorem BRow.at {w : World} {A : Addr} {l c : Nat} {bs : List UInt8} (h : BRow w (.slice (some A) l c) bs) {i : Nat} (hi : i < bs.length) : w.cell? (A.add i) = some (.int .u8 (byteN bs i : Nat)) := by
  obtain ⟨a, c', h1, _, _, _, hx⟩ := h
  injection h1 with h1
  subst h1
  obtain ⟨A', e1, e2⟩ := hx i bs[i] (List.getElem?_eq_getElem hi)
  injection e1 with e1
  rw [e1, e2]
  simp [byteN, List.getD, List.getElem?_eq_getElem hi]

theorem BRow.drewN {w : World} {v : Value} {bs : List UInt8} (h : BRow w v bs) (n : Nat) : BRow (w.drewN n) v bs := h

/-- What 'first' answers. -/
def FirstPost (w : World) (bs : List UInt8) (e : Ending) (w' : World) : Prop :=
  e = .returned (.tuple #[.string (strB ((firstB bs).getD [])), .bool (firstB bs).isSome]) ∧ ∃ n, w' = w.drewN n

theorem FirstPost.none {w w' : World} {bs : List UInt8} (h : firstB bs = none) (hw : ∃ n, w' = w.drewN n) : FirstPost w bs (.returned (.tuple #[.string ⟨#[]⟩, .bool false])) w' := ⟨by rw [h]; rfl, hw⟩

end Go.Proofs.YtndmbljpfpnehaaGreatDoor
namespace Go.Proofs.YtndmbljpfpnehaaGreatDoor
open Go.Lib

def xblank (c : UInt8) : Bool := decide (c.toNat = 32) || decide (c.toNat = 10)
def xletter (c : UInt8) : Bool := decide (97 ≤ c.toNat) && decide (c.toNat ≤ 122)
def xdigit (c : UInt8) : Bool := decide (48 ≤ c.toNat) && decide (c.toNat ≤ 57)
def xin (c : UInt8) : Bool := xletter c || (xdigit c || decide (c.toNat = 95))
def xquot (c : UInt8) : Bool := decide (32 ≤ c.toNat) && (decide (c.toNat ≤ 126) && !decide (c.toNat = 39))

/-- How many are of a kind, from the front. -/
def manyL (p : UInt8 → Bool) (l : List UInt8) : Nat := (l.takeWhile p).length
theorem manyL_le (p : UInt8 → Bool) (l : List UInt8) : manyL p l ≤ l.length := (List.takeWhile_prefix _).length_le
theorem manyL_nil (p : UInt8 → Bool) : manyL p [] = 0 := rfl
theorem manyL_cons (p : UInt8 → Bool) (c : UInt8) (l : List UInt8) : manyL p (c :: l) = if p c then manyL p l + 1 else 0 := by
  unfold manyL
  rw [List.takeWhile_cons]
  cases p c <;> simp
theorem manyL_take (p : UInt8 → Bool) : ∀ (l : List UInt8), ∀ c ∈ l.take (manyL p l), p c = true
  | [], c, h => by simp at h
  | x :: l, c, h => by
    rw [manyL_cons] at h
    split at h
    · rename_i hx
      simp at h
      rcases h with rfl | h
      · exact hx
      · exact manyL_take p l c h
    · simp at h
theorem manyL_next (p : UInt8 → Bool) : ∀ (l : List UInt8) (c : UInt8), l[manyL p l]? = some c → p c = false
  | [], c, h => by simp at h
  | x :: l, c, h => by
    rw [manyL_cons] at h
    split at h
    · exact manyL_next p l c (by simpa using h)
    · rename_i hx
      simp at h
      subst h
      simpa using hx
/-- It is the first that is of another kind, or the end. -/
theorem manyL_is (p : UInt8 → Bool) : ∀ (l : List UInt8) (n : Nat), n ≤ l.length → (∀ c ∈ l.take n, p c = true) → (∀ c, l[n]? = some c → p c = false) → manyL p l = n
  | [], n, hn, _, _ => by simp at hn; subst hn; rfl
  | x :: l, 0, _, _, h2 => by rw [manyL_cons, if_neg (by simp [h2 x rfl])]
  | x :: l, n + 1, hn, h1, h2 => by
    rw [manyL_cons, if_pos (h1 x (by simp)), manyL_is p l n (by simpa using hn) (fun c hc => h1 c (by simp [hc])) (fun c hc => h2 c (by simpa using hc))]
/-- With something behind that begins with another kind, or nothing, nothing changes. -/
theorem manyL_append (p : UInt8 → Bool) {l m : List UInt8} (h : ∀ c, m[0]? = some c → p c = false) : manyL p (l ++ m) = manyL p l := by
  refine manyL_is p _ _ (by have := manyL_le p l; rw [List.length_append]; omega) ?_ ?_
  · intro c hc
    rw [List.take_append_of_le_length (manyL_le p l)] at hc
    exact manyL_take p l c hc
  · intro c hc
    by_cases hlt : manyL p l < l.length
    · rw [List.getElem?_append_left hlt] at hc
      exact manyL_next p l c hc
    · have he : manyL p l = l.length := by have := manyL_le p l; omega
      rw [List.getElem?_append_right (by omega), he, Nat.sub_self] at hc
      exact h c hc
/-- Likewise if it ends ahead of what is behind. -/
theorem manyL_append_lt (p : UInt8 → Bool) {l m : List UInt8} (h : manyL p l < l.length) : manyL p (l ++ m) = manyL p l := by
  refine manyL_is p _ _ (by rw [List.length_append]; omega) ?_ ?_
  · intro c hc
    rw [List.take_append_of_le_length (by omega)] at hc
    exact manyL_take p l c hc
  · intro c hc
    rw [List.getElem?_append_left h] at hc
    exact manyL_next p l c hc

/-- Are digits a number? -/
def rightN (l : List UInt8) : Bool :=
  match parseIntB 64 l with
  | .ok v => decide (v ≤ 1099511627776) && (!(l.head?.map (·.toNat) == some 48) || l.length == 1)
  | _ => false

def amongL (l : List UInt8) (c : UInt8) : Bool := decide (0 ≤ indexByte l c)
def signsL : List UInt8 := [61, 60, 62, 43, 45, 40, 41, 46, 63]
def beforeL : List UInt8 := [33, 60, 62]

/-- The kind of the token that bytes begin with, and how many it has. -/
def firstC (c : UInt8) (t : List UInt8) : Nat × Nat :=
  if xletter c then (if 16 < manyL xin (c :: t) then (0, 0) else (1, manyL xin (c :: t)))
  else if xdigit c then (if rightN ((c :: t).take (manyL xdigit (c :: t))) then (2, manyL xdigit (c :: t)) else (0, 0))
  else if c.toNat = 39 then (if 65 < 1 + manyL xquot t ∨ manyL xquot t = t.length ∨ ¬ t[manyL xquot t]? = some 39 then (0, 0) else (3, 1 + manyL xquot t + 1))
  else if (t[0]? = some 61 ∧ amongL beforeL c = true) then (4, 2)
  else if amongL signsL c then (4, 1)
  else (0, 0)
def firstX : List UInt8 → Nat × Nat
  | [] => (0, 0)
  | c :: t => firstC c t

/-- A token: its kind, its text, its place. -/
structure XTok where
  k : Nat
  b : List UInt8
  at_ : Nat

def textX (k : Nat) (bs : List UInt8) : List UInt8 := if k = 3 then (bs.drop 1).take (bs.length - 2) else bs
def saidX (t : XTok) : List UInt8 := if t.k = 3 then 39 :: (t.b ++ [39]) else t.b

def consX (t : XTok) (r : List XTok × Nat × Nat) : List XTok × Nat × Nat := if r.2.1 = 0 then (t :: r.1, 0, 0) else r
def appX (acc : List XTok) (r : List XTok × Nat × Nat) : List XTok × Nat × Nat := if r.2.1 = 0 then (acc ++ r.1, 0, 0) else r
theorem appX_nil (r : List XTok × Nat × Nat) (h : r.2.1 = 0 → r.2.2 = 0) : appX [] r = r := by
  unfold appX
  split
  · rename_i h0
    obtain ⟨l, e, p⟩ := r
    dsimp only at h h0
    rw [h h0, h0]; rfl
  · rfl
theorem appX_cons (acc : List XTok) (t : XTok) (r : List XTok × Nat × Nat) : appX acc (consX t r) = appX (acc ++ [t]) r := by
  unfold appX consX
  by_cases h : r.2.1 = 0 <;> simp [h]

/-- The tokens of what is left, which begins at a place; so many are there. -/
def lexX : Nat → List UInt8 → Nat → Nat → List XTok × Nat × Nat
  | 0, _, _, _ => ([], 71, 0)
  | f + 1, l, a, n =>
    if l.length ≤ manyL xblank l then ([], 0, 0)
    else if (firstX (l.drop (manyL xblank l))).2 = 0 then ([], 71, a + manyL xblank l)
    else if n = 128 then ([], 2, a + manyL xblank l)
    else consX ⟨(firstX (l.drop (manyL xblank l))).1, textX (firstX (l.drop (manyL xblank l))).1 ((l.drop (manyL xblank l)).take (firstX (l.drop (manyL xblank l))).2), a + manyL xblank l⟩
      (lexX f ((l.drop (manyL xblank l)).drop (firstX (l.drop (manyL xblank l))).2) (a + manyL xblank l + (firstX (l.drop (manyL xblank l))).2) (n + 1))

def readX (l : List UInt8) : List XTok × Nat × Nat := if 512 < l.length then ([], 2, 0) else lexX (l.length + 1) l 0 0

/-- With nothing wrong there is no place; with something there are no tokens. -/
theorem lexX_form : ∀ (f : Nat) (l : List UInt8) (a n : Nat), ((lexX f l a n).2.1 = 0 → (lexX f l a n).2.2 = 0) ∧ ((lexX f l a n).2.1 ≠ 0 → (lexX f l a n).1 = [])
  | 0, l, a, n => by simp [lexX]
  | f + 1, l, a, n => by
    rw [lexX]
    split
    · simp
    · split
      · simp
      · split
        · simp
        · have ih := lexX_form f ((l.drop (manyL xblank l)).drop (firstX (l.drop (manyL xblank l))).2) (a + manyL xblank l + (firstX (l.drop (manyL xblank l))).2) (n + 1)
          unfold consX
          split
          · simp
          · rename_i h
            exact ⟨fun e => absurd e h, ih.2⟩
theorem readX_form (l : List UInt8) : ((readX l).2.1 = 0 → (readX l).2.2 = 0) ∧ ((readX l).2.1 ≠ 0 → (readX l).1 = []) := by
  unfold readX
  split
  · simp
  · exact lexX_form _ _ _ _

/-- What begins with a token has as many bytes as it. -/
theorem firstX_le (l : List UInt8) : (firstX l).2 ≤ l.length := by
  cases l with
  | nil => simp [firstX]
  | cons c t =>
    have h1 := manyL_le xin (c :: t)
    have h2 := manyL_le xdigit (c :: t)
    have h3 := manyL_le xquot t
    simp only [List.length_cons] at h1 h2 ⊢
    show (firstC c t).2 ≤ _
    unfold firstC
    split
    · split
      · simp
      · exact h1
    · split
      · split
        · exact h2
        · simp
      · split
        · split
          · simp
          · rename_i h
            have : manyL xquot t ≠ t.length := fun e => h (.inr (.inl e))
            show 1 + manyL xquot t + 1 ≤ t.length + 1
            omega
        · split
          · rename_i h
            have := (List.getElem?_eq_some_iff.1 h.1).1
            show 2 ≤ t.length + 1
            omega
          · split
            · show 1 ≤ t.length + 1; omega
            · simp
theorem firstX_size {l : List UInt8} (h : (firstX l).2 ≠ 0) : 0 < (firstX l).2 ∧ (firstX l).2 ≤ l.length := ⟨Nat.pos_of_ne_zero h, firstX_le l⟩

/-- What a token's bytes say. -/
theorem saidX_text {l : List UInt8} (h : (firstX l).2 ≠ 0) (a : Nat) : saidX ⟨(firstX l).1, textX (firstX l).1 (l.take (firstX l).2), a⟩ = l.take (firstX l).2 := by
  cases l with
  | nil => simp [firstX] at h
  | cons c t =>
    unfold saidX textX
    dsimp only
    by_cases h3 : (firstX (c :: t)).1 = 3
    · rw [if_pos h3, if_pos h3]
      have h3' : (firstC c t).1 = 3 := h3
      unfold firstC at h3'
      split at h3'
      · split at h3' <;> cases h3'
      · split at h3'
        · split at h3' <;> cases h3'
        · split at h3'
          · split at h3'
            · cases h3'
            · rename_i n1 n2 hc hq
              have e : firstX (c :: t) = (3, 1 + manyL xquot t + 1) := by
                show firstC c t = _
                unfold firstC
                rw [if_neg n1, if_neg n2, if_pos hc, if_neg hq]
              have hle := manyL_le xquot t
              have hne : manyL xquot t ≠ t.length := fun e => hq (.inr (.inl e))
              have h39 : t[manyL xquot t]? = some 39 := Classical.byContradiction fun e => hq (.inr (.inr e))
              rw [e]
              have hc39 : c = 39 := UInt8.toNat_inj.1 hc
              rw [hc39, show 1 + manyL xquot t + 1 = (manyL xquot t + 1) + 1 by omega, List.take_succ_cons, List.drop_succ_cons, List.drop_zero]
              have hl : (t.take (manyL xquot t + 1)).length = manyL xquot t + 1 := by rw [List.length_take]; omega
              rw [List.length_cons, hl, List.take_take, show min (manyL xquot t + 1 + 1 - 2) (manyL xquot t + 1) = manyL xquot t by omega]
              congr 1
              rw [List.take_add_one, h39]
              rfl
          · split at h3'
            · cases h3'
            · split at h3' <;> cases h3'
    · rw [if_neg h3, if_neg h3]

end Go.Proofs.YtndmbljpfpnehaaGreatDoor
namespace Go.Proofs.YtndmbljpfpnehaaGreatDoor

/-- A number's digits of base 128, the lowest first; 128 is added to all but the last. -/
def digsN (n : Nat) : List UInt8 := if n < 128 then [UInt8.ofNat n] else UInt8.ofNat (128 + n % 128) :: digsN (n / 128)
termination_by n
decreasing_by omega

theorem digsN_lt {n : Nat} (h : n < 128) : digsN n = [UInt8.ofNat n] := by rw [digsN, if_pos h]
theorem digsN_ge {n : Nat} (h : 128 ≤ n) : digsN n = UInt8.ofNat (128 + n % 128) :: digsN (n / 128) := by rw [digsN, if_neg (by omega)]

theorem u8_ofNat {n : Nat} (h : n < 256) : (UInt8.ofNat n).toNat = n := by simp; omega

/-- Digits read: what is left, how many were read, what they are so far. -/
def dgo : List UInt8 → Nat → Nat → Nat × Nat
  | [], _, _ => (0, 0)
  | c :: l, i, n => if c.toNat < 128 then (if c.toNat = 0 ∧ 0 < i then (0, 0) else (n + c.toNat % 128 * 128 ^ i, i + 1)) else dgo l (i + 1) (n + c.toNat % 128 * 128 ^ i)

theorem digsN_pos (n : Nat) : 0 < (digsN n).length := by
  by_cases h : n < 128
  · rw [digsN_lt h]; simp
  · rw [digsN_ge (by omega)]; simp

/-- A number's digits are read as that number. -/
theorem dgo_digs : ∀ (n : Nat) (K i a : Nat) (t : List UInt8), (digsN n).length ≤ K → (i = 0 ∨ 0 < n) → dgo ((digsN n ++ t).take K) i a = (a + n * 128 ^ i, i + (digsN n).length) := by
  intro n
  induction n using Nat.strongRecOn with
  | _ n ih =>
    intro K i a t hK hi
    by_cases h : n < 128
    · rw [digsN_lt h] at hK ⊢
      simp at hK
      obtain ⟨K', rfl⟩ : ∃ K', K = K' + 1 := ⟨K - 1, by omega⟩
      have e : (UInt8.ofNat n).toNat = n := u8_ofNat (by omega)
      simp only [List.cons_append, List.take_succ_cons, dgo, e]
      rw [if_pos h, if_neg (by omega), Nat.mod_eq_of_lt h]
      rfl
    · rw [digsN_ge (by omega)] at hK ⊢
      simp at hK
      obtain ⟨K', rfl⟩ : ∃ K', K = K' + 1 := ⟨K - 1, by omega⟩
      have e : (UInt8.ofNat (128 + n % 128)).toNat = 128 + n % 128 := u8_ofNat (by omega)
      simp only [List.cons_append, List.take_succ_cons, dgo, e]
      rw [if_neg (by omega), ih (n / 128) (by omega) K' (i + 1) _ t (by omega) (.inr (by omega))]
      have e2 : (128 + n % 128) % 128 = n % 128 := by omega
      have e3 : n = n / 128 * 128 + n % 128 := by omega
      refine Prod.ext ?_ ?_
      · show a + (128 + n % 128) % 128 * 128 ^ i + n / 128 * 128 ^ (i + 1) = a + n * 128 ^ i
        rw [e2, Nat.pow_succ]
        have e4 : n * 128 ^ i = (n / 128 * 128 + n % 128) * 128 ^ i := by rw [← e3]
        rw [e4, Nat.add_mul, Nat.mul_assoc, Nat.mul_comm 128]
        omega
      · show i + 1 + (digsN (n / 128)).length = i + (digsN (n / 128)).length.succ
        omega

/-- What is read as a number begins with its digits. -/
theorem dgo_back : ∀ (l : List UInt8) (i a n k : Nat), dgo l i a = (n, k) → 0 < k → ∃ m d : Nat, n = a + m * 128 ^ i ∧ k = i + d ∧ d ≤ l.length ∧ digsN m = l.take d ∧ (0 < i → 0 < m) ∧ 0 < d
  | [], i, a, n, k, h, hk => by simp [dgo] at h; omega
  | c :: l, i, a, n, k, h, hk => by
    rw [dgo] at h
    have hc := c.toNat_lt
    split at h
    · rename_i hlt
      split at h
      · simp at h; omega
      · rename_i h0
        simp only [Prod.mk.injEq] at h
        obtain ⟨rfl, rfl⟩ := h
        refine ⟨c.toNat, 1, by rw [Nat.mod_eq_of_lt hlt], rfl, by simp, ?_, fun hi => by omega, by omega⟩
        rw [digsN_lt hlt]
        simp
    · rename_i hge
      obtain ⟨m, d, rfl, rfl, hd, hm, hp, hd0⟩ := dgo_back l (i + 1) _ n k h hk
      have hmp := hp (by omega)
      refine ⟨m * 128 + c.toNat % 128, d + 1, ?_, by omega, by simp; omega, ?_, fun _ => by omega, by omega⟩
      · rw [Nat.pow_succ, Nat.add_mul, Nat.mul_assoc, Nat.mul_comm 128]
        omega
      · rw [digsN_ge (by omega), show (m * 128 + c.toNat % 128) / 128 = m by omega, hm, List.take_succ_cons]
        congr 1
        apply UInt8.toNat_inj.1
        rw [u8_ofNat (by omega)]
        omega

theorem digsN_len : ∀ (k n : Nat), 0 < k → n < 128 ^ k → (digsN n).length ≤ k
  | 0, n, h, _ => by omega
  | k + 1, n, _, h => by
    by_cases hn : n < 128
    · rw [digsN_lt hn]; simp
    · rw [digsN_ge (by omega)]
      have hk : 0 < k := by
        rcases Nat.eq_zero_or_pos k with rfl | h0
        · simp at h; omega
        · exact h0
      have h2 : n / 128 < 128 ^ k := by
        rw [Nat.pow_succ] at h
        omega
      have := digsN_len k (n / 128) hk h2
      simp; omega

/-- Of a number up to 2 ^ 42. -/
theorem digsN_six {n : Nat} (h : n < 4398046511104) : (digsN n).length ≤ 6 := digsN_len 6 n (by omega) (by simpa using h)

/-- What stands behind a right Int's kind. -/
def zigN (n : Int) : Nat := if n < 0 then (-2 * n - 1).toNat else (2 * n).toNat
/-- The other way about. -/
def zagN (n : Nat) : Int := if n % 2 = 1 then -((n / 2 : Nat) : Int) - 1 else ((n / 2 : Nat) : Int)
theorem zag_zig (n : Int) : zagN (zigN n) = n := by unfold zagN zigN; split <;> split <;> omega
theorem zig_zag (n : Nat) : zigN (zagN n) = n := by unfold zagN zigN; split <;> split <;> omega
theorem zig_lt {n : Int} (h1 : -1099511627776 ≤ n) (h2 : n ≤ 1099511627776) : zigN n ≤ 2199023255552 := by unfold zigN; split <;> omega
theorem zag_lt {n : Nat} (h2 : n < 4398046511104) : -2199023255552 ≤ zagN n ∧ zagN n < 2199023255552 := by unfold zagN; split <;> omega

/-- A value in plain words: its kind, its number, its text. -/
structure PVal where
  k : Int
  n : Int
  s : List UInt8

instance : DecidableEq PVal := fun a b =>
  if h : a.k = b.k ∧ a.n = b.n ∧ a.s = b.s then isTrue (by cases a; cases b; simp_all) else isFalse (fun e => h (by rw [e]; exact ⟨rfl, rfl, rfl⟩))

/-- Is a value right? -/
def rightB (v : PVal) : Bool :=
  if v.k = 1 then decide (-1099511627776 ≤ v.n ∧ v.n ≤ 1099511627776 ∧ v.s = [])
  else if v.k = 2 then decide (v.n = 0 ∧ v.s.length ≤ 64)
  else if v.k = 3 then decide (0 ≤ v.n ∧ v.n ≤ 1 ∧ v.s = [])
  else false

theorem rightB_kind {v : PVal} (h : rightB v = true) : v.k = 1 ∨ v.k = 2 ∨ v.k = 3 := by
  unfold rightB at h
  split at h
  · exact .inl ‹_›
  · split at h
    · exact .inr (.inl ‹_›)
    · split at h
      · exact .inr (.inr ‹_›)
      · cases h
theorem rightB_1 {n : Int} {s : List UInt8} : rightB ⟨1, n, s⟩ = true ↔ -1099511627776 ≤ n ∧ n ≤ 1099511627776 ∧ s = [] := by simp [rightB]
theorem rightB_2 {n : Int} {s : List UInt8} : rightB ⟨2, n, s⟩ = true ↔ n = 0 ∧ s.length ≤ 64 := by simp [rightB]
theorem rightB_3 {n : Int} {s : List UInt8} : rightB ⟨3, n, s⟩ = true ↔ 0 ≤ n ∧ n ≤ 1 ∧ s = [] := by simp [rightB]

/-- A right value's bytes. -/
def putV (v : PVal) : List UInt8 :=
  if rightB v then
    (if v.k = 1 then 1 :: digsN (zigN v.n) else if v.k = 2 then 2 :: UInt8.ofNat v.s.length :: v.s else [3, UInt8.ofNat v.n.toNat])
  else []

theorem putV_1 {n : Int} (h1 : -1099511627776 ≤ n) (h2 : n ≤ 1099511627776) : putV ⟨1, n, []⟩ = 1 :: digsN (zigN n) := by
  unfold putV; rw [if_pos (rightB_1.2 ⟨h1, h2, rfl⟩)]; rfl
theorem putV_2 {s : List UInt8} (h : s.length ≤ 64) : putV ⟨2, 0, s⟩ = 2 :: UInt8.ofNat s.length :: s := by
  unfold putV; rw [if_pos (rightB_2.2 ⟨rfl, h⟩)]; rfl
theorem putV_3 {n : Int} (h1 : 0 ≤ n) (h2 : n ≤ 1) : putV ⟨3, n, []⟩ = [3, UInt8.ofNat n.toNat] := by
  unfold putV; rw [if_pos (rightB_3.2 ⟨h1, h2, rfl⟩)]; rfl
theorem putV_not {v : PVal} (h : rightB v = false) : putV v = [] := by unfold putV; rw [h]; rfl

/-- What a way of reading values must tell. -/
structure Reads (g : List UInt8 → Option (PVal × Nat)) : Prop where
  there : ∀ v t, rightB v = true → g (putV v ++ t) = some (v, (putV v).length)
  back : ∀ l v k, g l = some (v, k) → rightB v = true ∧ k ≤ l.length ∧ putV v = l.take k

/-- Two ways that do tell the same. -/
theorem Reads.same {g g' : List UInt8 → Option (PVal × Nat)} (h : Reads g) (h' : Reads g') (l : List UInt8) : g l = g' l := by
  have key : ∀ {g g' : List UInt8 → Option (PVal × Nat)}, Reads g → Reads g' → ∀ v k, g l = some (v, k) → g' l = some (v, k) := fun {g g'} h h' v k e => by
    obtain ⟨h1, h2, h3⟩ := h.back l v k e
    have e2 := h'.there v (l.drop k) h1
    rw [h3, List.take_append_drop, List.length_take, Nat.min_eq_left h2] at e2
    exact e2
  cases e : g l with
  | some x => exact (key h h' x.1 x.2 e).symm
  | none =>
    cases e' : g' l with
    | none => rfl
    | some x => rw [key h' h x.1 x.2 e'] at e; cases e

/-- Bytes that begin no value's, but for their last. -/
theorem Reads.cut {g : List UInt8 → Option (PVal × Nat)} (h : Reads g) {v : PVal} (hv : rightB v = true) {m : Nat} (hm : m < (putV v).length) : g ((putV v).take m) = none := by
  cases e : g ((putV v).take m) with
  | none => rfl
  | some x =>
    exfalso
    obtain ⟨h1, h2, h3⟩ := h.back _ x.1 x.2 e
    rw [List.length_take] at h2
    rw [List.take_take, Nat.min_eq_left (by omega)] at h3
    have e1 := h.there x.1 ((putV v).drop x.2) h1
    rw [h3, List.take_append_drop] at e1
    have e2 := h.there v [] hv
    rw [List.append_nil, e1] at e2
    simp only [Option.some.injEq, Prod.mk.injEq, List.length_take] at e2
    omega

/-- What the program's Get reads. -/
def getV (l : List UInt8) : Option (PVal × Nat) :=
  match l with
  | [] => none
  | c :: l =>
    let d := dgo (l.take 6) 0 0
    if d.2 = 0 then none else
    if c.toNat = 2 then (if min (l.drop d.2).length 64 < d.1 then none else some (⟨2, 0, (l.drop d.2).take d.1⟩, 1 + d.2 + d.1))
    else if c.toNat = 3 then (if d.1 ≤ 1 then some (⟨3, d.1, []⟩, 1 + d.2) else none)
    else if c.toNat = 1 then (if -1099511627776 ≤ zagN d.1 ∧ zagN d.1 ≤ 1099511627776 then some (⟨1, zagN d.1, []⟩, 1 + d.2) else none)
    else none

end Go.Proofs.YtndmbljpfpnehaaGreatDoor
namespace Go.Proofs.YtndmbljpfpnehaaGreatDoor

theorem dgo_there {n K : Nat} (t : List UInt8) (h : (digsN n).length ≤ K) : dgo ((digsN n ++ t).take K) 0 0 = (n, (digsN n).length) := by
  rw [dgo_digs n K 0 0 t h (.inl rfl)]
  simp

theorem dgo_said {l : List UInt8} {K : Nat} (h : (dgo (l.take K) 0 0).2 ≠ 0) : (dgo (l.take K) 0 0).2 ≤ l.length ∧ (dgo (l.take K) 0 0).2 ≤ K ∧ digsN (dgo (l.take K) 0 0).1 = l.take (dgo (l.take K) 0 0).2 := by
  obtain ⟨m, d, h1, h2, h3, h4, _, _⟩ := dgo_back (l.take K) 0 0 _ _ rfl (Nat.pos_of_ne_zero h)
  simp only [Nat.zero_add, Nat.pow_zero, Nat.mul_one] at h1 h2
  rw [List.length_take] at h3
  rw [List.take_take, Nat.min_eq_left (by omega)] at h4
  rw [h1, h2]
  exact ⟨by omega, by omega, h4⟩

theorem digsN_lt_pow : ∀ (n : Nat), n < 128 ^ (digsN n).length := by
  intro n
  induction n using Nat.strongRecOn with
  | _ n ih =>
    by_cases h : n < 128
    · rw [digsN_lt h]; simpa using h
    · rw [digsN_ge (by omega)]
      have := ih (n / 128) (by omega)
      simp only [List.length_cons, Nat.pow_succ]
      omega

theorem dgo_six {l : List UInt8} (h : (dgo (l.take 6) 0 0).2 ≠ 0) : (dgo (l.take 6) 0 0).1 < 4398046511104 := by
  obtain ⟨h1, h2, h3⟩ := dgo_said h
  have h4 := digsN_lt_pow (dgo (l.take 6) 0 0).1
  have h5 : (digsN (dgo (l.take 6) 0 0).1).length ≤ 6 := by rw [h3, List.length_take]; omega
  exact Nat.lt_of_lt_of_le h4 (Nat.pow_le_pow_right (by omega) h5)

theorem dgo_one {l : List UInt8} {K : Nat} (h : (dgo (l.take K) 0 0).2 ≠ 0) (hn : (dgo (l.take K) 0 0).1 < 128) : (dgo (l.take K) 0 0).2 = 1 ∧ l.take 1 = [UInt8.ofNat (dgo (l.take K) 0 0).1] := by
  obtain ⟨h1, h2, h3⟩ := dgo_said h
  rw [digsN_lt hn] at h3
  have h4 := congrArg List.length h3
  rw [List.length_take] at h4
  simp at h4
  have h5 : (dgo (l.take K) 0 0).2 = 1 := by omega
  exact ⟨h5, by rw [← h5]; exact h3.symm⟩

theorem u8_eq {c : UInt8} {n : Nat} (h : c.toNat = n) : c = UInt8.ofNat n := by
  apply UInt8.toNat_inj.1
  have := c.toNat_lt
  rw [u8_ofNat (by omega), h]

theorem getV_reads : Reads getV where
  there v t hv := by
    obtain ⟨k, n, s⟩ := v
    rcases rightB_kind hv with h | h | h
    · obtain rfl : k = 1 := h
      obtain ⟨h1, h2, rfl⟩ := rightB_1.1 hv
      rw [putV_1 h1 h2]
      have hz := zig_lt h1 h2
      have hd := dgo_there (n := zigN n) (K := 6) t (digsN_six (by omega))
      have hp := digsN_pos (zigN n)
      show getV ((1 : UInt8) :: (digsN (zigN n) ++ t)) = _
      unfold getV
      simp only [hd]
      rw [if_neg (by omega), if_neg (by decide), if_neg (by decide), if_pos (by decide), zag_zig, if_pos ⟨h1, h2⟩]
      simp [Nat.add_comm]
    · obtain rfl : k = 2 := h
      obtain ⟨rfl, h2⟩ := rightB_2.1 hv
      rw [putV_2 h2]
      have hd := dgo_there (n := s.length) (K := 6) (s ++ t) (digsN_six (by omega))
      rw [digsN_lt (by omega)] at hd
      show getV ((2 : UInt8) :: ([UInt8.ofNat s.length] ++ (s ++ t))) = _
      unfold getV
      simp only [hd]
      have e : ([UInt8.ofNat s.length] ++ (s ++ t)).drop [UInt8.ofNat s.length].length = s ++ t := List.drop_left
      rw [e, if_neg (by simp), if_pos (by decide), if_neg (by simp; omega)]
      simp
      omega
    · obtain rfl : k = 3 := h
      obtain ⟨h1, h2, rfl⟩ := rightB_3.1 hv
      rw [putV_3 h1 h2]
      have hd := dgo_there (n := n.toNat) (K := 6) t (digsN_six (by omega))
      rw [digsN_lt (by omega)] at hd
      show getV ((3 : UInt8) :: ([UInt8.ofNat n.toNat] ++ t)) = _
      unfold getV
      simp only [hd]
      rw [if_neg (by simp), if_neg (by decide), if_pos (by decide), if_pos (by omega)]
      simp
      omega
  back l v k h := by
    cases l with
    | nil => simp [getV] at h
    | cons c l =>
      unfold getV at h
      simp only at h
      split at h
      · cases h
      rename_i h0
      obtain ⟨h1, h2, h3⟩ := dgo_said h0
      have h6 := dgo_six h0
      split at h
      · rename_i hc
        obtain rfl : c = 2 := u8_eq hc
        split at h
        · cases h
        rename_i hm
        simp only [Option.some.injEq, Prod.mk.injEq] at h
        obtain ⟨rfl, rfl⟩ := h
        obtain ⟨d1, d2⟩ := dgo_one h0 (by omega)
        rw [d1] at hm ⊢
        generalize dgo (l.take 6) 0 0 = d at *
        rw [List.length_drop] at hm
        have hl : ((l.drop 1).take d.1).length = d.1 := by rw [List.length_take, List.length_drop]; omega
        have hr : rightB ⟨2, 0, (l.drop 1).take d.1⟩ = true := rightB_2.2 ⟨rfl, by omega⟩
        refine ⟨hr, by simp; omega, ?_⟩
        rw [putV_2 (by omega), hl, show 1 + 1 + d.1 = (1 + d.1) + 1 by omega, List.take_succ_cons, List.take_add, d2]
        rfl
      split at h
      · rename_i hc
        obtain rfl : c = 3 := u8_eq hc
        split at h
        · rename_i hle
          simp only [Option.some.injEq, Prod.mk.injEq] at h
          obtain ⟨rfl, rfl⟩ := h
          obtain ⟨d1, d2⟩ := dgo_one h0 (by omega)
          have hr : rightB ⟨3, ((dgo (l.take 6) 0 0).1 : Nat), []⟩ = true := rightB_3.2 ⟨by omega, by omega, rfl⟩
          refine ⟨hr, by simp; omega, ?_⟩
          rw [putV_3 (by omega) (by omega), d1, List.take_succ_cons, d2]
          simp
        · cases h
      split at h
      · rename_i hc
        obtain rfl : c = 1 := u8_eq hc
        split at h
        · rename_i hz
          simp only [Option.some.injEq, Prod.mk.injEq] at h
          obtain ⟨rfl, rfl⟩ := h
          refine ⟨rightB_1.2 ⟨hz.1, hz.2, rfl⟩, by simp; omega, ?_⟩
          rw [putV_1 hz.1 hz.2, zig_zag, h3, Nat.add_comm, List.take_succ_cons]
        · cases h
      · cases h

/-- The document's number of digits. -/
def numR (l : List UInt8) : Option (Nat × Nat) :=
  if (dgo (l.take 7) 0 0).2 = 0 ∨ 2199023255552 < (dgo (l.take 7) 0 0).1 then none else some (dgo (l.take 7) 0 0)

/-- What the document's Get reads. -/
def refV (l : List UInt8) : Option (PVal × Nat) :=
  match l with
  | c :: d :: t =>
    if c.toNat = 1 then
      (match numR (d :: t) with
      | none => none
      | some x => if rightB ⟨1, zagN x.1, []⟩ then some (⟨1, zagN x.1, []⟩, 1 + x.2) else none)
    else if c.toNat = 2 then (if t.length < d.toNat then none else if rightB ⟨2, 0, t.take d.toNat⟩ then some (⟨2, 0, t.take d.toNat⟩, 2 + d.toNat) else none)
    else if c.toNat = 3 then (if rightB ⟨3, d.toNat, []⟩ then some (⟨3, d.toNat, []⟩, 2) else none)
    else none
  | _ => none

theorem refV_reads : Reads refV where
  there v t hv := by
    obtain ⟨k, n, s⟩ := v
    rcases rightB_kind hv with h | h | h
    · obtain rfl : k = 1 := h
      obtain ⟨h1, h2, rfl⟩ := rightB_1.1 hv
      have hz := zig_lt h1 h2
      have hd := dgo_there (n := zigN n) (K := 7) t (Nat.le_trans (digsN_six (by omega)) (by omega))
      have hp := digsN_pos (zigN n)
      rw [putV_1 h1 h2]
      have hnum : numR (digsN (zigN n) ++ t) = some (zigN n, (digsN (zigN n)).length) := by
        unfold numR
        rw [hd, if_neg (fun h => by rcases h with h | h <;> (dsimp only at h; omega))]
      cases hl : digsN (zigN n) with
      | nil => rw [hl] at hp; simp at hp
      | cons d r =>
        rw [hl] at hnum
        show refV ((1 : UInt8) :: d :: (r ++ t)) = _
        have hnum' : numR (d :: (r ++ t)) = some (zigN n, (d :: r).length) := hnum
        unfold refV
        simp only [hnum']
        rw [if_pos (by decide), zag_zig, if_pos hv]
        simp
        omega
    · obtain rfl : k = 2 := h
      obtain ⟨rfl, h2⟩ := rightB_2.1 hv
      rw [putV_2 h2]
      show refV ((2 : UInt8) :: UInt8.ofNat s.length :: (s ++ t)) = _
      have e : (UInt8.ofNat s.length).toNat = s.length := u8_ofNat (by omega)
      have e2 : (s ++ t).take s.length = s := List.take_left
      unfold refV
      simp only [e, e2]
      rw [if_neg (by decide), if_pos (by decide), if_neg (by simp), if_pos hv]
      simp
      omega
    · obtain rfl : k = 3 := h
      obtain ⟨h1, h2, rfl⟩ := rightB_3.1 hv
      rw [putV_3 h1 h2]
      show refV ((3 : UInt8) :: UInt8.ofNat n.toNat :: t) = _
      have e : ((UInt8.ofNat n.toNat).toNat : Int) = n := by rw [u8_ofNat (by omega)]; omega
      unfold refV
      simp only [e]
      rw [if_neg (by decide), if_neg (by decide), if_pos (by decide), if_pos hv]
      rfl
  back l v k h := by
    match l, h with
    | [], h => simp [refV] at h
    | [_], h => simp [refV] at h
    | c :: d :: t, h =>
      unfold refV at h
      simp only at h
      have hd := d.toNat_lt
      split at h
      · rename_i hc
        obtain rfl : c = 1 := u8_eq hc
        cases hn : numR (d :: t) with
        | none => rw [hn] at h; cases h
        | some x =>
          rw [hn] at h
          simp only at h
          split at h
          · rename_i hr
            simp only [Option.some.injEq, Prod.mk.injEq] at h
            obtain ⟨rfl, rfl⟩ := h
            unfold numR at hn
            split at hn
            · cases hn
            rename_i hx
            rw [not_or] at hx
            obtain ⟨h1, h2, h3⟩ := dgo_said hx.1
            injection hn with hn
            rw [hn] at h1 h2 h3
            have hr' := rightB_1.1 hr
            refine ⟨hr, by simp at h1 ⊢; omega, ?_⟩
            rw [putV_1 hr'.1 hr'.2.1, zig_zag, h3, Nat.add_comm, List.take_succ_cons]
          · cases h
      split at h
      · rename_i hc
        obtain rfl : c = 2 := u8_eq hc
        split at h
        · cases h
        split at h
        · rename_i hlt hr
          simp only [Option.some.injEq, Prod.mk.injEq] at h
          obtain ⟨rfl, rfl⟩ := h
          have hl : (t.take d.toNat).length = d.toNat := by rw [List.length_take]; omega
          have hr' := rightB_2.1 hr
          refine ⟨hr, by simp; omega, ?_⟩
          rw [putV_2 hr'.2, hl, show 2 + d.toNat = d.toNat + 1 + 1 by omega, List.take_succ_cons, List.take_succ_cons, ← u8_eq rfl]
        · cases h
      split at h
      · rename_i hc
        obtain rfl : c = 3 := u8_eq hc
        split at h
        · rename_i hr
          simp only [Option.some.injEq, Prod.mk.injEq] at h
          obtain ⟨rfl, rfl⟩ := h
          have hr' := rightB_3.1 hr
          refine ⟨hr, by simp, ?_⟩
          rw [putV_3 hr'.1 hr'.2.1]
          simp
        · cases h
      · cases h

/-- The program reads what the document reads. -/
theorem getV_ref (l : List UInt8) : getV l = refV l := getV_reads.same refV_reads l

end Go.Proofs.YtndmbljpfpnehaaGreatDoor
