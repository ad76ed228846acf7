/- The record of the first frame: first. -/
import Derived.Test.YtefcbgnckgapgaaF2
namespace Go.Proofs.Ytefcbgnckgapgaa
open Go.RowKit Go.Lib

/-- Bytes as a text. -/
def strB (l : List UInt8) : ByteArray := ⟨l.toArray⟩
theorem strB_list (l : List UInt8) : (strB l).data.toList = l := by simp [strB]
theorem strB_size (l : List UInt8) : (strB l).size = l.length := by simp [strB, ByteArray.size]

def byteN (l : List UInt8) (i : Nat) : Nat := (l.getD i 0).toNat
/-- How long the record is that a frame says. -/
def saysN (l : List UInt8) : Nat := 256 * byteN l 1 + byteN l 2

/-- The record of the frame that bytes begin with. -/
def firstB (l : List UInt8) : Option (List UInt8) :=
  if l.length < 5 then none
  else if byteN l 0 ≠ 82 then none
  else if 4096 < saysN l then none
  else if l.length - 5 < saysN l then none
  else if sumN ((l.drop 5).take (saysN l)) ≠ 256 * byteN l 3 + byteN l 4 then none
  else some ((l.drop 5).take (saysN l))

theorem byteN_lt (l : List UInt8) (i : Nat) : byteN l i < 256 := (l.getD i 0).toNat_lt

/-- A text of bytes that can be read. -/
theorem conv_brow {w : World} {v : Value} {bs : List UInt8} (h : BRow w v bs) : (convert 95 9 v).run Try.prog w = .ok (.string (strB bs)) w := by
  obtain ⟨a, c, rfl, _, _, _, hx⟩ := h
  cases a with
  | none =>
    cases bs with
    | nil => exact run_convert_bytes_nil w 95 5 Try.underlying95 Try.underlying5 0 c 9 Try.underlying9
    | cons x l =>
      obtain ⟨A, h1, _⟩ := hx 0 x rfl
      cases h1
  | some A =>
    have hl : (loadCells A bs.length).run Try.prog w = .ok ((bs.map fun b => (b.toNat : Int)).map (Value.int .u8)).toArray w := by
      have h := run_loadCells_list (P := Try.prog) w A ((bs.map fun b => (b.toNat : Int)).map (Value.int .u8)) (fun j v hj => by
        rw [List.map_map, List.getElem?_map, Option.map_eq_some_iff] at hj
        obtain ⟨x, hx1, rfl⟩ := hj
        obtain ⟨A', h1, h2⟩ := hx j x hx1
        injection h1 with h1
        rw [h1]
        exact h2)
      simpa using h
    rw [run_convert_bytes_string w 95 9 5 (some A) bs.length c Try.underlying95 Try.underlying5 Try.underlying9, run_bytesToString w A bs.length c (bs.map fun b => (b.toNat : Int)) hl, foldl_push_bytes]
    congr 2
    apply ByteArray.ext
    simp [strB, ByteArray.empty, ByteArray.emptyWithCapacity]
    rw [List.map_congr_left (g := id) (fun b _ => by simp)]
    simp
    rfl

/-- Bytes from a place on. -/
theorem BRow.drop {w : World} {v : Value} {bs : List UInt8} (h : BRow w v bs) {k : Nat} (hk : k ≤ bs.length) :
    ∃ v', (∀ W : World, (Instr.slice 95 v (some (.int .i64 k)) none none).run Try.prog W = .ok v' W) ∧ BRow w v' (bs.drop k) := by
  obtain ⟨a, c, rfl, h1, h2, h3, hx⟩ := h
  refine ⟨.slice (if c = k then a else a.map (·.add k)) (bs.length - k) (c - k), fun W => ?_, ?_⟩
  · have hz : (sizeOf 5).run Try.prog W = .ok 1 W := by kernel_rfl
    rw [run_slice_l (P := Try.prog) W 95 a bs.length c (by kernel_rfl) .i64 (k : Int) (by omega) (by omega)]
    have he : Try.prog.elem 95 = 5 := by kernel_rfl
    rw [he, hz]
    simp [Result.andThen, sliced]
  · refine ⟨_, c - k, by rw [List.length_drop], by rw [List.length_drop]; omega, by omega, fun hn => ?_, fun j x hj => ?_⟩
    · split at hn
      · omega
      · cases a with
        | none => have := h3 rfl; omega
        | some A => cases hn
    · rw [List.getElem?_drop] at hj
      obtain ⟨A, rfl, h5⟩ := hx (k + j) x hj
      have hlt : k + j < bs.length := (List.getElem?_eq_some_iff.1 hj).1
      have hck : c ≠ k := by omega
      refine ⟨A.add k, by simp [hck], ?_⟩
      rw [Addr.add_add]
      exact h5

/-- Bytes from a place on, up to another one. -/
theorem BRow.cut {w : World} {v : Value} {bs : List UInt8} (h : BRow w v bs) {k m : Nat} (hk : k ≤ m) (hm : m ≤ bs.length) :
    ∃ v', (∀ W : World, (Instr.slice 95 v (some (.int .i64 k)) (some (.int .i64 m)) none).run Try.prog W = .ok v' W) ∧ BRow w v' ((bs.drop k).take (m - k)) := by
  obtain ⟨a, c, rfl, h1, h2, h3, hx⟩ := h
  have hlen : ((bs.drop k).take (m - k)).length = m - k := by rw [List.length_take, List.length_drop]; omega
  refine ⟨.slice (if c = k then a else a.map (·.add k)) (m - k) (c - k), fun W => ?_, ?_⟩
  · have hz : (sizeOf 5).run Try.prog W = .ok 1 W := by kernel_rfl
    rw [run_slice_lh (P := Try.prog) W 95 a bs.length c (by kernel_rfl) .i64 .i64 (k : Int) (m : Int) (by omega) (by omega) (by omega)]
    have he : Try.prog.elem 95 = 5 := by kernel_rfl
    rw [he, hz]
    simp [Result.andThen, sliced]
  · refine ⟨_, c - k, by rw [hlen], by rw [hlen]; omega, by omega, fun hn => ?_, fun j x hj => ?_⟩
    · split at hn
      · omega
      · cases a with
        | none => have := h3 rfl; omega
        | some A => cases hn
    · have hjm : j < m - k := by
        have := (List.getElem?_eq_some_iff.1 hj).1
        omega
      rw [List.getElem?_take_of_lt hjm, List.getElem?_drop] at hj
      obtain ⟨A, rfl, h5⟩ := hx (k + j) x hj
      have hck : c ≠ k := by omega
      refine ⟨A.add k, by simp [hck], ?_⟩
      rw [Addr.add_add]
      exact h5

/-- Bytes up to a place. -/
theorem BRow.upto {w : World} {v : Value} {bs : List UInt8} (h : BRow w v bs) {m : Nat} (hm : m ≤ bs.length) :
    ∃ v', (∀ W : World, (Instr.slice 95 v none (some (.int .i64 m)) none).run Try.prog W = .ok v' W) ∧ BRow w v' (bs.take m) := by
  obtain ⟨a, c, rfl, h1, h2, h3, hx⟩ := h
  have hlen : (bs.take m).length = m := by rw [List.length_take]; omega
  refine ⟨.slice a m c, fun W => ?_, ?_⟩
  · have hz : (sizeOf 5).run Try.prog W = .ok 1 W := by kernel_rfl
    rw [run_slice_h (P := Try.prog) W 95 a bs.length c (by kernel_rfl) .i64 (m : Int) (by omega) (by omega)]
    have he : Try.prog.elem 95 = 5 := by kernel_rfl
    rw [he, hz]
    cases a <;> simp [Result.andThen, sliced, Addr.add]
  · refine ⟨_, c, by rw [hlen], by rw [hlen]; omega, h2, h3, fun j x hj => ?_⟩
    have hjm : j < m := by
      have := (List.getElem?_eq_some_iff.1 hj).1
      omega
    rw [List.getElem?_take_of_lt hjm] at hj
    exact hx j x hj

/-- Of a row that is owned. -/
theorem BRow.of_owns {w : World} {base l : Nat} {v : Value} {bs : List UInt8} (h : w.ownsRow base 5 1 v l (byteCells bs)) : BRow w v bs := by
  have hl : l = bs.length := by have := h.1; simp [byteCells] at this; omega
  subst hl
  have hc := fun g hg => h.cells (g := g) hg
  rcases h.2 with ⟨rfl, h0⟩ | ⟨g, cap, cur, rfl, _, _, h1, h2, _⟩
  · obtain rfl : bs = [] := List.eq_nil_of_length_eq_zero h0
    exact ⟨none, 0, rfl, Nat.le_refl _, by unfold maxLen; omega, fun _ => rfl, fun j x hj => by simp at hj⟩
  · refine ⟨_, cap, rfl, h1, h2, (fun e => by cases e), fun j x hj => ⟨_, rfl, hc g rfl j _ (by simp [byteCells, hj])⟩⟩

theorem BRow.len {w : World} {v : Value} {bs : List UInt8} (h : BRow w v bs) : ∃ a c, v = .slice a bs.length c ∧ bs.length ≤ c ∧ c ≤ maxLen := by
  obtain ⟨a, c, h1, h2, h3, _⟩ := h
  exact ⟨a, c, h1, h2, h3⟩

theorem firstB_short {l : List UInt8} (h : l.length < 5) : firstB l = none := if_pos h
theorem firstB_mark {l : List UInt8} (h : ¬ l.length < 5) (h0 : byteN l 0 ≠ 82) : firstB l = none := by unfold firstB; rw [if_neg h, if_pos h0]
theorem firstB_big {l : List UInt8} (h : ¬ l.length < 5) (h0 : byteN l 0 = 82) (h1 : 4096 < saysN l) : firstB l = none := by
  unfold firstB; rw [if_neg h, if_neg (by omega), if_pos h1]
theorem firstB_more {l : List UInt8} (h : ¬ l.length < 5) (h0 : byteN l 0 = 82) (h1 : ¬ 4096 < saysN l) (h2 : l.length - 5 < saysN l) : firstB l = none := by
  unfold firstB; rw [if_neg h, if_neg (by omega), if_neg h1, if_pos h2]
theorem firstB_sum {l : List UInt8} (h : ¬ l.length < 5) (h0 : byteN l 0 = 82) (h1 : ¬ 4096 < saysN l) (h2 : ¬ l.length - 5 < saysN l) (h3 : sumN ((l.drop 5).take (saysN l)) ≠ 256 * byteN l 3 + byteN l 4) : firstB l = none := by
  unfold firstB; rw [if_neg h, if_neg (by omega), if_neg h1, if_neg h2, if_pos h3]
theorem firstB_some {l : List UInt8} (h : ¬ l.length < 5) (h0 : byteN l 0 = 82) (h1 : ¬ 4096 < saysN l) (h2 : ¬ l.length - 5 < saysN l) (h3 : sumN ((l.drop 5).take (saysN l)) = 256 * byteN l 3 + byteN l 4) : firstB l = some ((l.drop 5).take (saysN l)) := by
  unfold firstB; rw [if_neg h, if_neg (by omega), if_neg h1, if_neg h2, if_neg (by omega)]

theorem BRow.at {w : World} {A : Addr} {l c : Nat} {bs : List UInt8} (h : BRow w (.slice (some A) l c) bs) {i : Nat} (hi : i < bs.length) : w.cell? (A.add i) = some (.int .u8 (byteN bs i : Nat)) := by
  obtain ⟨a, c', h1, _, _, _, hx⟩ := h
  injection h1 with h1
  subst h1
  obtain ⟨A', e1, e2⟩ := hx i bs[i] (List.getElem?_eq_getElem hi)
  injection e1 with e1
  rw [e1, e2]
  simp [byteN, List.getD, List.getElem?_eq_getElem hi]

theorem BRow.drewN {w : World} {v : Value} {bs : List UInt8} (h : BRow w v bs) (n : Nat) : BRow (w.drewN n) v bs := h

/-- What 'first' answers. -/
def FirstPost (w : World) (bs : List UInt8) (e : Ending) (w' : World) : Prop :=
  e = .returned (.tuple #[.string (strB ((firstB bs).getD [])), .bool (firstB bs).isSome]) ∧ ∃ n, w' = w.drewN n

theorem FirstPost.none {w w' : World} {bs : List UInt8} (h : firstB bs = none) (hw : ∃ n, w' = w.drewN n) : FirstPost w bs (.returned (.tuple #[.string ⟨#[]⟩, .bool false])) w' := ⟨by rw [h]; rfl, hw⟩

end Go.Proofs.Ytefcbgnckgapgaa
