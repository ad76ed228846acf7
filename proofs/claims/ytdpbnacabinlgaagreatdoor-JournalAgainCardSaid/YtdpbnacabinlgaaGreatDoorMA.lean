/- The record of the first frame: first. | All records of the frames that bytes begin with: Cut. | Frames, put and cut, in plain words: what is put is cut to the same records; torn ends; whatever stands behind. | A journal: Add. | A journal: Add's rows of steps. | A journal: Add. -/
import Derived.Test.YtdpbnacabinlgaaGreatDoorM9
namespace Go.Proofs.YtdpbnacabinlgaaGreatDoor
open Go.RowKit Go.Lib

/-- Bytes as a text. -/
def strB (l : List UInt8) : ByteArray := ⟨l.toArray⟩
theorem strB_list (l : List UInt8) : (strB l).data.toList = l := by simp [strB]
theorem strB_size (l : List UInt8) : (strB l).size = l.length := by simp [strB, ByteArray.size]

def byteN (l : List UInt8) (i : Nat) : Nat := (l.getD i 0).toNat
/-- How long the record is that a frame says. -/
def saysN (l : List UInt8) : Nat := 256 * byteN l 1 + byteN l 2

/-- The record of the frame that bytes begin with. -/
def firstB (l : List UInt8) : Option (List UInt8) :=
  if l.length < 5 then none
  else if byteN l 0 ≠ 82 then none
  else if 4096 < saysN l then none
  else if l.length - 5 < saysN l then none
  else if sumN ((l.drop 5).take (saysN l)) ≠ 256 * byteN l 3 + byteN l 4 then none
  else some ((l.drop 5).take (saysN l))

theorem byteN_lt (l : List UInt8) (i : Nat) : byteN l i < 256 := (l.getD i 0).toNat_lt

/-- A text of bytes that can be read. -/
theorem conv_brow {w : World} {v : Value} {bs : List UInt8} (h : BRow w v bs) : (convert 49 9 v).run Tryz.prog w = .ok (.string (strB bs)) w := by
  obtain ⟨a, c, rfl, _, _, _, hx⟩ := h
  cases a with
  | none =>
    cases bs with
    | nil => exact run_convert_bytes_nil w 49 5 Tryz.underlying49 Tryz.underlying5 0 c 9 Tryz.underlying9
    | cons x l =>
      obtain ⟨A, h1, _⟩ := hx 0 x rfl
      cases h1
  | some A =>
    have hl : (loadCells A bs.length).run Tryz.prog w = .ok ((bs.map fun b => (b.toNat : Int)).map (Value.int .u8)).toArray w := by
      have h := run_loadCells_list (P := Tryz.prog) w A ((bs.map fun b => (b.toNat : Int)).map (Value.int .u8)) (fun j v hj => by
        rw [List.map_map, List.getElem?_map, Option.map_eq_some_iff] at hj
        obtain ⟨x, hx1, rfl⟩ := hj
        obtain ⟨A', h1, h2⟩ := hx j x hx1
        injection h1 with h1
        rw [h1]
        exact h2)
      simpa using h
    rw [run_convert_bytes_string w 49 9 5 (some A) bs.length c Tryz.underlying49 Tryz.underlying5 Tryz.underlying9, run_bytesToString w A bs.length c (bs.map fun b => (b.toNat : Int)) hl, foldl_push_bytes]
    congr 2
    apply ByteArray.ext
    simp [strB, ByteArray.empty, ByteArray.emptyWithCapacity]
    rw [List.map_congr_left (g := id) (fun b _ => by simp)]
    simp
    rfl

/-- Bytes from a place on. -/
theorem BRow.drop {w : World} {v : Value} {bs : List UInt8} (h : BRow w v bs) {k : Nat} (hk : k ≤ bs.length) :
    ∃ v', (∀ W : World, (Instr.slice 49 v (some (.int .i64 k)) none none).run Tryz.prog W = .ok v' W) ∧ BRow w v' (bs.drop k) := by
  obtain ⟨a, c, rfl, h1, h2, h3, hx⟩ := h
  refine ⟨.slice (if c = k then a else a.map (·.add k)) (bs.length - k) (c - k), fun W => ?_, ?_⟩
  · have hz : (sizeOf 5).run Tryz.prog W = .ok 1 W := by kernel_rfl
    rw [run_slice_l (P := Tryz.prog) W 49 a bs.length c (by kernel_rfl) .i64 (k : Int) (by omega) (by omega)]
    have he : Tryz.prog.elem 49 = 5 := by kernel_rfl
    rw [he, hz]
    simp [Result.andThen, sliced]
  · refine ⟨_, c - k, by rw [List.length_drop], by rw [List.length_drop]; omega, by omega, fun hn => ?_, fun j x hj => ?_⟩
    · split at hn
      · omega
      · cases a with
        | none => have := h3 rfl; omega
        | some A => cases hn
    · rw [List.getElem?_drop] at hj
      obtain ⟨A, rfl, h5⟩ := hx (k + j) x hj
      have hlt : k + j < bs.length := (List.getElem?_eq_some_iff.1 hj).1
      have hck : c ≠ k := by omega
      refine ⟨A.add k, by simp [hck], ?_⟩
      rw [Addr.add_add]
      exact h5

/-- Bytes from a place on, up to another one. -/
theorem BRow.cut {w : World} {v : Value} {bs : List UInt8} (h : BRow w v bs) {k m : Nat} (hk : k ≤ m) (hm : m ≤ bs.length) :
    ∃ v', (∀ W : World, (Instr.slice 49 v (some (.int .i64 k)) (some (.int .i64 m)) none).run Tryz.prog W = .ok v' W) ∧ BRow w v' ((bs.drop k).take (m - k)) := by
  obtain ⟨a, c, rfl, h1, h2, h3, hx⟩ := h
  have hlen : ((bs.drop k).take (m - k)).length = m - k := by rw [List.length_take, List.length_drop]; omega
  refine ⟨.slice (if c = k then a else a.map (·.add k)) (m - k) (c - k), fun W => ?_, ?_⟩
  · have hz : (sizeOf 5).run Tryz.prog W = .ok 1 W := by kernel_rfl
    rw [run_slice_lh (P := Tryz.prog) W 49 a bs.length c (by kernel_rfl) .i64 .i64 (k : Int) (m : Int) (by omega) (by omega) (by omega)]
    have he : Tryz.prog.elem 49 = 5 := by kernel_rfl
    rw [he, hz]
    simp [Result.andThen, sliced]
  · refine ⟨_, c - k, by rw [hlen], by rw [hlen]; omega, by omega, fun hn => ?_, fun j x hj => ?_⟩
    · split at hn
      · omega
      · cases a with
        | none => have := h3 rfl; omega
        | some A => cases hn
    · have hjm : j < m - k := by
        have := (List.getElem?_eq_some_iff.1 hj).1
        omega
      rw [List.getElem?_take_of_lt hjm, List.getElem?_drop] at hj
      obtain ⟨A, rfl, h5⟩ := hx (k + j) x hj
      have hck : c ≠ k := by omega
      refine ⟨A.add k, by simp [hck], ?_⟩
      rw [Addr.add_add]
      exact h5

/-- Bytes up to a place. -/
theorem BRow.upto {w : World} {v : Value} {bs : List UInt8} (h : BRow w v bs) {m : Nat} (hm : m ≤ bs.length) :
    ∃ v', (∀ W : World, (Instr.slice 49 v none (some (.int .i64 m)) none).run Tryz.prog W = .ok v' W) ∧ BRow w v' (bs.take m) := by
  obtain ⟨a, c, rfl, h1, h2, h3, hx⟩ := h
  have hlen : (bs.take m).length = m := by rw [List.length_take]; omega
  refine ⟨.slice a m c, fun W => ?_, ?_⟩
  · have hz : (sizeOf 5).run Tryz.prog W = .ok 1 W := by kernel_rfl
    rw [run_slice_h (P := Tryz.prog) W 49 a bs.length c (by kernel_rfl) .i64 (m : Int) (by omega) (by omega)]
    have he : Tryz.prog.elem 49 = 5 := by kernel_rfl
    rw [he, hz]
    cases a <;> simp [Result.andThen, sliced, Addr.add]
  · refine ⟨_, c, by rw [hlen], by rw [hlen]; omega, h2, h3, fun j x hj => ?_⟩
    have hjm : j < m := by
      have := (List.getElem?_eq_some_iff.1 hj).1
      omega
    rw [List.getElem?_take_of_lt hjm] at hj
    exact hx j x hj

/-- Of a row that is owned. -/
theorem BRow.of_owns {w : World} {base l : Nat} {v : Value} {bs : List UInt8} (h : w.ownsRow base 5 1 v l (byteCells bs)) : BRow w v bs := by
  have hl : l = bs.length := by have := h.1; simp [byteCells] at this; omega
  subst hl
  have hc := fun g hg => h.cells (g := g) hg
  rcases h.2 with ⟨rfl, h0⟩ | ⟨g, cap, cur, rfl, _, _, h1, h2, _⟩
  · obtain rfl : bs = [] := List.eq_nil_of_length_eq_zero h0
    exact ⟨none, 0, rfl, Nat.le_refl _, by unfold maxLen; omega, fun _ => rfl, fun j x hj => by simp at hj⟩
  · refine ⟨_, cap, rfl, h1, h2, (fun e => by cases e), fun j x hj => ⟨_, rfl, hc g rfl j _ (by simp [byteCells, hj])⟩⟩

theorem BRow.len {w : World} {v : Value} {bs : List UInt8} (h : BRow w v bs) : ∃ a c, v = .slice a bs.length c ∧ bs.length ≤ c ∧ c ≤ maxLen := by
  obtain ⟨a, c, h1, h2, h3, _⟩ := h
  exact ⟨a, c, h1, h2, h3⟩

theorem firstB_short {l : List UInt8} (h : l.length < 5) : firstB l = none := if_pos h
theorem firstB_mark {l : List UInt8} (h : ¬ l.length < 5) (h0 : byteN l 0 ≠ 82) : firstB l = none := by unfold firstB; rw [if_neg h, if_pos h0]
theorem firstB_big {l : List UInt8} (h : ¬ l.length < 5) (h0 : byteN l 0 = 82) (h1 : 4096 < saysN l) : firstB l = none := by
  unfold firstB; rw [if_neg h, if_neg (by omega), if_pos h1]
theorem firstB_more {l : List UInt8} (h : ¬ l.length < 5) (h0 : byteN l 0 = 82) (h1 : ¬ 4096 < saysN l) (h2 : l.length - 5 < saysN l) : firstB l = none := by
  unfold firstB; rw [if_neg h, if_neg (by omega), if_neg h1, if_pos h2]
theorem firstB_sum {l : List UInt8} (h : ¬ l.length < 5) (h0 : byteN l 0 = 82) (h1 : ¬ 4096 < saysN l) (h2 : ¬ l.length - 5 < saysN l) (h3 : sumN ((l.drop 5).take (saysN l)) ≠ 256 * byteN l 3 + byteN l 4) : firstB l = none := by
  unfold firstB; rw [if_neg h, if_neg (by omega), if_neg h1, if_neg h2, if_pos h3]
theorem firstB_some {l : List UInt8} (h : ¬ l.length < 5) (h0 : byteN l 0 = 82) (h1 : ¬ 4096 < saysN l) (h2 : ¬ l.length - 5 < saysN l) (h3 : sumN ((l.drop 5).take (saysN l)) = 256 * byteN l 3 + byteN l 4) : firstB l = some ((l.drop 5).take (saysN l)) := by
  unfold firstB; rw [if_neg h, if_neg (by omega), if_neg h1, if_neg h2, if_neg (by omega)]

theorem BRow.at {w : World} {A : Addr} {l c : Nat} {bs : List UInt8} (h : BRow w (.slice (some A) l c) bs) {i : Nat} (hi : i < bs.length) : w.cell? (A.add i) = some (.int .u8 (byteN bs i : Nat)) := by
  obtain ⟨a, c', h1, _, _, _, hx⟩ := h
  injection h1 with h1
  subst h1
  obtain ⟨A', e1, e2⟩ := hx i bs[i] (List.getElem?_eq_getElem hi)
  injection e1 with e1
  rw [e1, e2]
  simp [byteN, List.getD, List.getElem?_eq_getElem hi]

theorem BRow.drewN {w : World} {v : Value} {bs : List UInt8} (h : BRow w v bs) (n : Nat) : BRow (w.drewN n) v bs := h

/-- What 'first' answers. -/
def FirstPost (w : World) (bs : List UInt8) (e : Ending) (w' : World) : Prop :=
  e = .returned (.tuple #[.string (strB ((firstB bs).getD [])), .bool (firstB bs).isSome]) ∧ ∃ n, w' = w.drewN n

theorem FirstPost.none {w w' : World} {bs : List UInt8} (h : firstB bs = none) (hw : ∃ n, w' = w.drewN n) : FirstPost w bs (.returned (.tuple #[.string ⟨#[]⟩, .bool false])) w' := ⟨by rw [h]; rfl, hw⟩

set_option maxHeartbeats 2000000 in
set_option maxRecDepth 100000 in
theorem first_calls (w : World) (v : Value) (bs : List UInt8) (h : BRow w v bs) : Calls Tryz.prog 83 #[v] w (FirstPost w bs) := by
  obtain ⟨a, c, rfl, hc, hcm⟩ := h.len
  have H := Lib.hid h
  obtain ⟨l, hl⟩ : ∃ l, bs.length = l := ⟨_, rfl⟩
  have Hl := Lib.hid hl
  rw [hl] at hc ⊢
  unfold maxLen at hcm
  by_cases h5 : l < 5
  · have hn := Lib.hid (firstB_short (l := bs) (by rw [hl]; exact h5))
    clear hl h
    go_enter Tryz.func83, Tryz.ntmps83
    go_wp2
    go_ret2
    exact FirstPost.none hn.out ⟨0, rfl⟩
  obtain ⟨A, rfl⟩ : ∃ A, a = some A := by
    obtain ⟨a', c', e1, _, _, _, hx⟩ := h
    injection e1 with e1
    subst e1
    obtain ⟨A, e2, _⟩ := hx 0 bs[0] (List.getElem?_eq_getElem (by omega))
    exact ⟨A, e2⟩
  rw [hl] at h
  have h50 : ¬ bs.length < 5 := by omega
  have H50 := Lib.hid h50
  have k0 : w.cell? A = some (.int .u8 (byteN bs 0 : Nat)) := by have h1 := h.at (i := 0) (by omega); rwa [Addr.add_zero'] at h1
  have hx0 := byteN_lt bs 0
  by_cases h82 : byteN bs 0 = 82
  rotate_left
  · have hn := Lib.hid (firstB_mark h50 h82)
    have ht : ((byteN bs 0 : Int) != 82) = true := by rw [bne_iff_ne]; omega
    obtain ⟨x0, hx⟩ : ∃ x0, x0 = byteN bs 0 := ⟨_, rfl⟩
    rw [← hx] at k0 ht hx0
    clear hl h h82 h50 hx
    have hi0 : (0 : Int) < l := by omega
    go_enter Tryz.func83, Tryz.ntmps83
    go_wp2
    go_ret2
    exact FirstPost.none hn.out ⟨0, rfl⟩
  have H82 := Lib.hid h82
  rw [h82] at k0
  have hs1 : ∀ W : World, (Instr.slice 49 (.slice (some A) l c) (some (.int .i64 1)) none none).run Tryz.prog W = .ok (.slice (some ⟨A.block, A.off + 1, none⟩) (l - 1) (c - 1)) W := fun W => by
    rw [run_slice_l (P := Tryz.prog) W 49 _ l c (by kernel_rfl) .i64 1 (by omega) (by omega), show Tryz.prog.elem 49 = 5 by kernel_rfl, show (sizeOf 5).run Tryz.prog W = .ok 1 W by kernel_rfl]
    have : c ≠ 1 := by omega
    simp [Result.andThen, sliced, this, Addr.add]
  have hs3 : ∀ W : World, (Instr.slice 49 (.slice (some A) l c) (some (.int .i64 3)) none none).run Tryz.prog W = .ok (.slice (some ⟨A.block, A.off + 3, none⟩) (l - 3) (c - 3)) W := fun W => by
    rw [run_slice_l (P := Tryz.prog) W 49 _ l c (by kernel_rfl) .i64 3 (by omega) (by omega), show Tryz.prog.elem 49 = 5 by kernel_rfl, show (sizeOf 5).run Tryz.prog W = .ok 1 W by kernel_rfl]
    have : c ≠ 3 := by omega
    simp [Result.andThen, sliced, this, Addr.add]
  have hadd : ∀ i, A.add (i + 1) = ⟨A.block, A.off + (i + 1), none⟩ := fun i => rfl
  have k1 : w.cell? ⟨A.block, A.off + 1, none⟩ = some (.int .u8 (byteN bs 1 : Nat)) := h.at (i := 1) (by omega)
  have k2 : w.cell? ⟨A.block, A.off + 1 + 1, none⟩ = some (.int .u8 (byteN bs 2 : Nat)) := h.at (i := 2) (by omega)
  have k3 : w.cell? ⟨A.block, A.off + 3, none⟩ = some (.int .u8 (byteN bs 3 : Nat)) := h.at (i := 3) (by omega)
  have k4 : w.cell? ⟨A.block, A.off + 3 + 1, none⟩ = some (.int .u8 (byteN bs 4 : Nat)) := h.at (i := 4) (by omega)
  have hp1 := pair_calls w A.block (A.off + 1) (l - 1) (c - 1) _ _ (by omega) k1 k2 (byteN_lt bs 1) (byteN_lt bs 2)
  have hp3 : ∀ n : Nat, Calls Tryz.prog 103 #[.slice (some ⟨A.block, A.off + 3, none⟩) (l - 3) (c - 3)] (w.drewN n) fun e w' => e = .returned (.int .i64 (256 * byteN bs 3 + byteN bs 4 : Nat)) ∧ ∃ m, w' = (w.drewN n).drewN m :=
    fun n => pair_calls (w.drewN n) A.block (A.off + 3) (l - 3) (c - 3) _ _ (by omega) k3 k4 (byteN_lt bs 3) (byteN_lt bs 4)
  have hsays : saysN bs = 256 * byteN bs 1 + byteN bs 2 := rfl
  have hsl : 256 * byteN bs 1 + byteN bs 2 < 65536 := by have := byteN_lt bs 1; have := byteN_lt bs 2; omega
  rw [← hsays] at hp1 hsl
  obtain ⟨q, hq⟩ : ∃ q, saysN bs = q := ⟨_, rfl⟩
  rw [hq] at hp1 hsl
  have Hsays := Lib.hid hq
  have HP3 := Lib.hid hp3
  have hi0 : (0 : Int) < l := by omega
  clear k1 k2 k3 k4 hadd h82 hp3 h hl h50 hx0 hq hsays
  go_enter Tryz.func83, Tryz.ntmps83
  go_wp2_with fail
  refine hp1.mono ?_
  rintro e w1 ⟨rfl, hd1⟩
  have HD1 := Lib.hid hd1
  by_cases hbig : 4096 < q
  · have hn := Lib.hid (firstB_big H50.out H82.out (by rw [Hsays.out]; exact hbig))
    have hd2 : decide ((4096 : Int) < (q : Int)) = true := by simp; omega
    clear hd1
    go_wp2_with fail
    go_ret2
    exact FirstPost.none hn.out HD1.out
  have hd2 : decide ((4096 : Int) < (q : Int)) = false := by simp; omega
  by_cases hmore : l - 5 < q
  · have hn := Lib.hid (firstB_more H50.out H82.out (by rw [Hsays.out]; exact hbig) (by rw [Hsays.out, Hl.out]; exact hmore))
    clear hd1
    go_wp2_with fail
    go_ret2
    exact FirstPost.none hn.out HD1.out
  have hm5 : 5 + q ≤ bs.length := by rw [Hl.out]; omega
  obtain ⟨v5, hv5, hb5⟩ := H.out.cut (k := 5) (m := 5 + q) (by omega) hm5
  rw [show 5 + q - 5 = q by omega] at hb5
  have hv5' : ∀ W : World, (Instr.slice 49 (.slice (some A) l c) (some (.int .i64 5)) (some (.int .i64 (5 + (q : Int)))) none).run Tryz.prog W = .ok v5 W := fun W => by
    have h1 := hv5 W
    rwa [show ((5 + q : Nat) : Int) = 5 + (q : Int) by omega, Hl.out] at h1
  obtain ⟨r, hr⟩ : ∃ r, (bs.drop 5).take q = r := ⟨_, rfl⟩
  rw [hr] at hb5
  have Hr := Lib.hid hr
  have hcv : (convert 49 9 v5).run Tryz.prog w1 = .ok (.string (strB r)) w1 := by
    refine conv_brow ?_
    obtain ⟨n, rfl⟩ := hd1
    exact hb5.drewN n
  have hrl : r.length ≤ q := by rw [← hr]; exact List.length_take_le _ _
  have hsum : ∀ W, Calls Tryz.prog 89 #[.string (strB r)] W fun e w' => e = .returned (.int .i64 (sumN r)) ∧ W = w' := fun W => by
    have h1 := sum_calls (strB r) W (by rw [strB_size]; unfold maxLen; omega)
    rwa [strB_list] at h1
  have hp3 : ∀ n, Calls Tryz.prog 103 #[.slice (some ⟨A.block, A.off + 3, none⟩) (l - 3) (c - 3)] (w1.drewN n) fun e w' => e = .returned (.int .i64 (256 * byteN bs 3 + byteN bs 4 : Nat)) ∧ ∃ m, w' = (w1.drewN n).drewN m := fun n => by
    obtain ⟨n1, rfl⟩ := hd1
    have h1 := HP3.out (n1 + n)
    rwa [← World.drewN_drewN] at h1
  obtain ⟨sm, hsm⟩ : ∃ sm, 256 * byteN bs 3 + byteN bs 4 = sm := ⟨_, rfl⟩
  rw [hsm] at hp3
  have Hsm := Lib.hid hsm
  obtain ⟨sr, hsr⟩ : ∃ sr, sumN r = sr := ⟨_, rfl⟩
  rw [hsr] at hsum
  have Hsr := Lib.hid hsr
  have hd3 : decide ((l : Int) - 5 < (q : Int)) = false := by simp; omega
  have hsr1 : sumN ((bs.drop 5).take (saysN bs)) = sr := by rw [Hsays.out, Hr.out, Hsr.out]
  have hb1 : ¬ 4096 < saysN bs := by rw [Hsays.out]; exact hbig
  have hb2 : ¬ bs.length - 5 < saysN bs := by rw [Hsays.out, Hl.out]; exact hmore
  by_cases heq : sr = sm
  · have hn := firstB_some H50.out H82.out hb1 hb2 (by rw [hsr1, Hsm.out]; exact heq)
    rw [Hsays.out, Hr.out] at hn
    have Hn := Lib.hid hn
    have ht : ((sr : Int) != (sm : Int)) = false := by rw [bne_eq_false_iff_eq]; omega
    clear hd1 hv5 hb5 hr hsm hsr hm5 hsr1 hb1 hb2 hn heq
    go_wp2_with fail
    go_quiet ((first | (go_at_call 89; refine (hsum _).mono ?_; rintro e w' ⟨he, rfl⟩; exact ⟨he, _, rfl⟩) | (go_at_call 103; refine (hp3 _).mono ?_; rintro e w' ⟨he, m, rfl⟩; exact ⟨he, _, World.drewN_drewN _ _ _⟩)))
    go_wp2
    go_ret2
    refine ⟨?_, ?_⟩
    · rw [Hn.out]; rfl
    · obtain ⟨n, e⟩ := HD1.out
      rw [e]
      exact ⟨_, World.drewN_drewN _ _ _⟩
  · have hn := Lib.hid (firstB_sum H50.out H82.out hb1 hb2 (by rw [hsr1, Hsm.out]; exact heq))
    have ht : ((sr : Int) != (sm : Int)) = true := by rw [bne_iff_ne]; omega
    clear hd1 hv5 hb5 hr hsm hsr hm5 hsr1 hb1 hb2 heq
    go_wp2_with fail
    go_quiet ((first | (go_at_call 89; refine (hsum _).mono ?_; rintro e w' ⟨he, rfl⟩; exact ⟨he, _, rfl⟩) | (go_at_call 103; refine (hp3 _).mono ?_; rintro e w' ⟨he, m, rfl⟩; exact ⟨he, _, World.drewN_drewN _ _ _⟩)))
    go_wp2
    go_ret2
    refine FirstPost.none hn.out ?_
    obtain ⟨n, e⟩ := HD1.out
    rw [e]
    exact ⟨_, World.drewN_drewN _ _ _⟩

end Go.Proofs.YtdpbnacabinlgaaGreatDoor
namespace Go.Proofs.YtdpbnacabinlgaaGreatDoor
open Go.RowKit Go.Lib

theorem wp_scope_jumps_at {P : Program} {a : Act} {w : World} {Q : Exit → Act → World → Prop} {c rest : Code} (a1 : Act) (l : Nat) (J : Act → World → Prop) (μ : Act → World → Nat) (hf : findLabel c l = some (.seq .skip rest))
    (hfirst : ∀ R : Exit → Act → World → Prop, rest.wp P R a1 w → c.wp P R a w) (hJ : J a1 w)
    (pass : ∀ a w, J a w → rest.wp P (Exit.jump l (fun a' w' => J a' w' ∧ μ a' w' < μ a w) Q) a w) : (Code.scope c).wp P Q a w :=
  wp_scope_jumps l J μ hf (hfirst _ (Code.wp_mono (fun e a w q => by
    cases e with
    | goto l' => exact ⟨q.1, q.2.1⟩
    | _ => exact q) (pass a1 w hJ))) (fun a w h => wp_seq (wp_skip (pass a w h)))

theorem firstB_le {l r : List UInt8} (h : firstB l = some r) : r.length + 5 ≤ l.length ∧ r.length ≤ 4096 ∧ l.take (r.length + 5) = frameB r := by
  unfold firstB at h
  split at h; · cases h
  rename_i h5
  split at h; · cases h
  rename_i h82
  split at h; · cases h
  rename_i hbig
  split at h; · cases h
  rename_i hmore
  split at h; · cases h
  rename_i hsum
  injection h with h
  have hlen : r.length = saysN l := by rw [← h, List.length_take, List.length_drop]; omega
  refine ⟨by omega, by omega, ?_⟩
  obtain ⟨x0, x1, x2, x3, x4, t, rfl⟩ : ∃ x0 x1 x2 x3 x4 t, l = x0 :: x1 :: x2 :: x3 :: x4 :: t := by
    match l, h5 with
    | x0 :: x1 :: x2 :: x3 :: x4 :: t, _ => exact ⟨_, _, _, _, _, _, rfl⟩
    | [], h => simp at h
    | [_], h => simp at h
    | [_, _], h => simp at h
    | [_, _, _], h => simp at h
    | [_, _, _, _], h => simp at h
  have e0 : x0 = 82 := by
    have : x0.toNat = 82 := by simpa [byteN] using h82
    exact UInt8.toNat_inj.1 this
  have hs : saysN (x0 :: x1 :: x2 :: x3 :: x4 :: t) = 256 * x1.toNat + x2.toNat := rfl
  have h3 : byteN (x0 :: x1 :: x2 :: x3 :: x4 :: t) 3 = x3.toNat := rfl
  have h4 : byteN (x0 :: x1 :: x2 :: x3 :: x4 :: t) 4 = x4.toNat := rfl
  rw [h3, h4] at hsum
  have b1 := x1.toNat_lt
  have b2 := x2.toNat_lt
  have b3 := x3.toNat_lt
  have b4 := x4.toNat_lt
  have hr : sumN r = 256 * x3.toNat + x4.toNat := by rw [← h]; omega
  have e1 : UInt8.ofNat (r.length / 256) = x1 := by
    rw [hlen, hs, show (256 * x1.toNat + x2.toNat) / 256 = x1.toNat by omega]; simp
  have e2 : UInt8.ofNat (r.length % 256) = x2 := by
    rw [hlen, hs, show (256 * x1.toNat + x2.toNat) % 256 = x2.toNat by omega]; simp
  have e3 : UInt8.ofNat (sumN r / 256) = x3 := by
    rw [hr, show (256 * x3.toNat + x4.toNat) / 256 = x3.toNat by omega]; simp
  have e4 : UInt8.ofNat (sumN r % 256) = x4 := by
    rw [hr, show (256 * x3.toNat + x4.toNat) % 256 = x4.toNat by omega]; simp
  have h' : t.take (saysN (x0 :: x1 :: x2 :: x3 :: x4 :: t)) = r := h
  rw [frameB, e1, e2, e3, e4, e0, hlen]
  show 82 :: x1 :: x2 :: x3 :: x4 :: t.take (saysN (x0 :: x1 :: x2 :: x3 :: x4 :: t)) = _
  rw [h']
  rfl

/-- The records of the frames that bytes begin with. -/
def cutB (l : List UInt8) : List (List UInt8) :=
  match h : firstB l with
  | none => []
  | some r => r :: cutB (l.drop (r.length + 5))
termination_by l.length
decreasing_by
  have := (firstB_le h).1
  rw [List.length_drop]
  omega

theorem cutB_none {l : List UInt8} (h : firstB l = none) : cutB l = [] := by
  rw [cutB]; split
  · rfl
  · rename_i r hr; rw [h] at hr; cases hr
theorem cutB_some {l r : List UInt8} (h : firstB l = some r) : cutB l = r :: cutB (l.drop (r.length + 5)) := by
  rw [cutB]; split
  · rename_i hr; rw [h] at hr; cases hr
  · rename_i r' hr; rw [h] at hr; injection hr with hr; rw [hr]

/-- How many bytes records' frames have. -/
def lensN (rs : List (List UInt8)) : Nat := (rs.map fun r => r.length + 5).sum
def cutN (l : List UInt8) : Nat := lensN (cutB l)

theorem lensN_append (a b : List (List UInt8)) : lensN (a ++ b) = lensN a + lensN b := by simp [lensN]
theorem lensN_one (r : List UInt8) : lensN [r] = r.length + 5 := by simp [lensN]
theorem lensN_ge (rs : List (List UInt8)) : rs.length * 5 ≤ lensN rs := by
  induction rs with
  | nil => simp [lensN]
  | cons r rs ih => simp only [lensN, List.map_cons, List.sum_cons, List.length_cons] at *; omega

theorem cutN_le : ∀ (n : Nat) (l : List UInt8), l.length = n → cutN l ≤ l.length := by
  intro n
  induction n using Nat.strongRecOn with
  | _ n ih =>
    intro l hl
    cases h : firstB l with
    | none => simp [cutN, cutB_none h, lensN]
    | some r =>
      have h1 := (firstB_le h).1
      have h2 := ih (l.drop (r.length + 5)).length (by rw [List.length_drop]; omega) _ rfl
      rw [List.length_drop] at h2
      simp only [cutN, cutB_some h, lensN, List.map_cons, List.sum_cons] at h2 ⊢
      omega

theorem infoS16 : (Tryz.prog.info? 9).map (fun i => (i.zero, i.size, i.bytes)) = some (some (.string .empty), 1, 16) := by kernel_rfl

/-- Texts as cells. -/
def recCells (rs : List (List UInt8)) : List Value := rs.map fun r => Value.string (strB r)
theorem recCells_one (rs : List (List UInt8)) : ∀ u ∈ recCells rs, u.oneCell' = true := by
  intro u hu
  simp only [recCells, List.mem_map] at hu
  obtain ⟨r, _, rfl⟩ := hu
  rfl
theorem recCells_length (rs : List (List UInt8)) : (recCells rs).length = rs.length := by simp [recCells]

/-- What Cut answers. -/
def CutPost (w : World) (bs : List UInt8) (e : Ending) (w' : World) : Prop :=
  ∃ v, e = .returned (.tuple #[v, .int .i64 (cutN bs)]) ∧ w'.ownsRow w.heap.size 9 1 v (cutB bs).length (recCells (cutB bs)) ∧ Below w.heap.size w w'

theorem ret_two {v : Value} {a b : Int} (h : a = b) : Ending.returned (.tuple #[v, .int .i64 a]) = .returned (.tuple #[v, .int .i64 b]) := by rw [h]

theorem fbelow_drewN {B : Nat} {a w : World} (h : Below B a w) (n : Nat) : Below B a (w.drewN n) := ⟨h.os, h.tape, h.output, h.size, h.block⟩

theorem vals_new (w : World) (vs : List Value) (cs : Array Value) (t : TypeId) (fr : Nat × Nat) (h : cs.toList = vs) : ∀ j u, vs[j]? = some u → (w.alloc (.cells cs t fr)).cell? ((⟨w.heap.size, 0, none⟩ : Addr).add j) = some u := by
  intro j u hu
  have hadd : (⟨w.heap.size, 0, none⟩ : Addr).add j = ⟨w.heap.size, j, none⟩ := by unfold Addr.add; split <;> simp_all
  rw [hadd]
  refine fcell_of_blk (heap_alloc_new w _) ?_
  rw [← h] at hu
  simpa using hu

set_option maxHeartbeats 2000000 in
set_option maxRecDepth 100000 in
theorem cut_calls (w : World) (bv : Value) (bs : List UInt8) (h : BRow w bv bs) (hlen : bs.length ≤ 100000000) : Calls Tryz.prog 50 #[bv] w (CutPost w bs) := by
  obtain ⟨i0, hi, hz0, hz1, hz2⟩ := info_parts infoS16
  have H := Lib.hid h
  have Hlen := Lib.hid hlen
  clear h hlen
  go_enter Tryz.func50, Tryz.ntmps50
  go_wp2
  refine wp_scope_jumps_at { tmps := #[bv, undef, .slice none 0 0, .int .i64 0, .slice none 0 0, .int .i64 0, undef, undef, undef, undef, undef, undef, undef, undef, undef, undef, undef, undef, undef, undef, undef, undef, undef, undef, undef, undef, undef], defers := [] } 0 (fun a' w' => ∃ (k : Nat) (rs : List (List UInt8)) (v n5 u6 u7 u8 u9 u10 u11 u12 u13 u14 u15 u16 u17 u18 u19 u20 u21 u22 u23 u24 : Value), a' = { tmps := #[bv, undef, .slice none 0 0, .int .i64 0, v, n5, u6, u7, u8, u9, u10, u11, u12, u13, u14, u15, u16, u17, u18, u19, u20, u21, u22, u23, u24, undef, undef], defers := [] } ∧ n5 = .int .i64 k ∧ Hid (k ≤ bs.length) ∧ Hid (k = lensN rs) ∧ Hid (cutB bs = rs ++ cutB (bs.drop k)) ∧ Hid (w'.ownsRow w.heap.size 9 1 v rs.length (recCells rs)) ∧ Hid (Below w.heap.size w w')) (fun a' _ => bs.length - (intOf (a'.tmps.getD 5 undef)).toNat) rfl ?_ ?_ ?_
  · intro R hR
    go_wp2
    go_step3
    rename_i K hK
    exact hK _ _ hR
  · exact ⟨0, [], _, _, _, _, _, _, _, _, _, _, _, _, _, _, _, _, _, _, _, _, _, rfl, rfl, Nat.zero_le _, rfl, rfl, World.ownsRow_nil _ _ _ _, Below.refl _ _⟩
  · rintro a' w1 ⟨k, rs, v, n5, u6, u7, u8, u9, u10, u11, u12, u13, u14, u15, u16, u17, u18, u19, u20, u21, u22, u23, u24, rfl, rfl, Hk, Hkn, Hcut, Hown, Hb⟩
    obtain ⟨bv', hsl, hbv'⟩ := (H.out.below Hb.out).drop Hk.out
    have hf := first_calls w1 bv' _ hbv'
    have hkl : (k : Int) ≤ 100000000 := by have := Hk.out; have := Hlen.out; omega
    clear hbv'
    cases hr : firstB (bs.drop k) with
    | none =>
      have Hr := Lib.hid hr
      have hf' : Calls Tryz.prog 83 #[bv'] w1 fun e w' => e = .returned (.tuple #[.string ⟨#[]⟩, .bool false]) ∧ ∃ n, w' = w1.drewN n := hf.mono fun e w' ⟨h1, h2⟩ => ⟨by rw [h1, hr]; rfl, h2⟩
      clear hf hr
      go_wp2_with fail
      refine hf'.mono ?_
      rintro e w2 ⟨rfl, n, rfl⟩
      clear hf'
      have hfin : cutB bs = rs := by have := Hcut.out; rw [cutB_none Hr.out, List.append_nil] at this; exact this
      have hcn : cutN bs = k := by rw [cutN, hfin]; exact Hkn.out.symm
      have Hfin := Lib.hid hfin
      have Hcn := Lib.hid hcn
      clear hfin hcn
      go_wp2_with fail
      simp only [Exit.jump]
      go_ret2
      exact ⟨v, ret_two (by rw [Hcn.out]), by rw [Hfin.out]; exact Hown.out, fbelow_drewN Hb.out n⟩
    | some r =>
      have Hr := Lib.hid hr
      have hf' : Calls Tryz.prog 83 #[bv'] w1 fun e w' => e = .returned (.tuple #[.string (strB r), .bool true]) ∧ ∃ n, w' = w1.drewN n := hf.mono fun e w' ⟨h1, h2⟩ => ⟨by rw [h1, hr]; rfl, h2⟩
      clear hf hr
      go_wp2_with fail
      refine hf'.mono ?_
      rintro e w2 ⟨rfl, n, rfl⟩
      clear hf'
      have hf1 := firstB_le Hr.out
      obtain ⟨hrl, hr4, hrf⟩ := hf1
      rw [List.length_drop] at hrl
      have hsz := strB_size r
      have Hsz := Lib.hid hsz
      have hg := lensN_ge rs
      have hk1 := Hkn.out
      have hk2 := Hlen.out
      have hk3 := Hk.out
      have hrs : (rs.length + 1) * 16 ≤ 140737488355328 := by omega
      have hrs1 : rs.length + 1 ≤ maxLen := by unfold maxLen; omega
      have hkr : Hid (k + (r.length + 5) ≤ bs.length) := by show _ ≤ _; omega
      have hkk : Hid (k + (r.length + 5) = lensN (rs ++ [r])) := by show _ = _; rw [lensN_append, lensN_one, ← Hkn.out]
      have hcc : Hid (cutB bs = (rs ++ [r]) ++ cutB (bs.drop (k + (r.length + 5)))) := by show _ = _; rw [Hcut.out, cutB_some Hr.out, List.drop_drop]; simp
      have hlt := Lib.hid Hown.out.lt
      have hstl : (strB r).size ≤ 4096 := by omega
      have HB1 : Hid (Below w.heap.size w ((w1.drewN n).alloc (.cells #[.string (strB r)] 9))) := (fbelow_drewN Hb.out n).alloc Hb.out.size _
      have HO1 : Hid (((w1.drewN n).alloc (.cells #[.string (strB r)] 9)).ownsRow w.heap.size 9 1 v rs.length (recCells rs)) := World.ownsRow.alloc (w := w1.drewN n) Hown.out _
      have hws := Hb.out.size
      clear hrf hsz hg hk1 hk2 hk3
      go_wp2_with (first
        | (at_builtin; refine wpList_append_own _ rfl (.tmp 16) (.tmp 18) 32 rfl w.heap.size 9 i0 (.string .empty) 1 16 Tryz.underlying32 hi hz0 hz1 hz2 rfl (by decide) _ _ _ rfl HO1.out ⟨w1.heap.size, 0, none⟩ 1 1 (recCells [r]) rfl rfl (vals_new (w1.drewN n) _ _ _ _ rfl) (recCells_one _) hrs1 hrs HB1.out.size ?_; intro v2 w2 hown2 hgrow2 hnil2))
      have HB2 := Lib.hid (HB1.out.grown hgrow2 HB1.out.size (fun q hq => (hlt.out q hq).1))
      have hown3 : w2.ownsRow w.heap.size 9 1 v2 (rs ++ [r]).length (recCells (rs ++ [r])) := by
        rw [List.length_append]
        have h1 := hown2
        simpa [recCells] using h1
      have HO2 := Lib.hid hown3
      clear hown2 hgrow2 hnil2 hown3
      go_wp2_with fail
      go_step3
      refine ⟨rfl, ⟨k + (r.length + 5), rs ++ [r], v2, _, _, _, _, _, _, _, _, _, _, _, _, _, _, _, _, _, _, _, _, rfl, by rw [Hsz.out]; congr 1; omega, hkr, hkk, hcc, HO2, HB2⟩, ?_⟩
      · simp [intOf]
        omega

end Go.Proofs.YtdpbnacabinlgaaGreatDoor
namespace Go.Proofs.YtdpbnacabinlgaaGreatDoor
open Go.RowKit Go.Lib

theorem strB_inj {a b : List UInt8} (h : strB a = strB b) : a = b := by rw [← strB_list a, ← strB_list b, h]
theorem strB_of (s : ByteArray) : strB s.data.toList = s := by apply ByteArray.ext; simp [strB]

theorem toNat_ofNat {n : Nat} (h : n < 256) : (UInt8.ofNat n).toNat = n := by simp; omega

theorem frameB_says (r t : List UInt8) (hr : r.length ≤ 4096) : saysN (frameB r ++ t) = r.length := by
  have h1 : byteN (frameB r ++ t) 1 = (UInt8.ofNat (r.length / 256)).toNat := rfl
  have h2 : byteN (frameB r ++ t) 2 = (UInt8.ofNat (r.length % 256)).toNat := rfl
  rw [saysN, h1, h2, toNat_ofNat (by omega), toNat_ofNat (by omega)]
  omega

theorem firstB_frame (r t : List UInt8) (hr : r.length ≤ 4096) : firstB (frameB r ++ t) = some r := by
  have hs := frameB_says r t hr
  have hsn := sumN_lt r
  have hl : (frameB r ++ t).length = r.length + 5 + t.length := by rw [List.length_append, frameB_length]
  have hd : (frameB r ++ t).drop 5 = r ++ t := rfl
  have ht : ((frameB r ++ t).drop 5).take (saysN (frameB r ++ t)) = r := by rw [hd, hs]; exact List.take_left
  have h3 : byteN (frameB r ++ t) 3 = (UInt8.ofNat (sumN r / 256)).toNat := rfl
  have h4 : byteN (frameB r ++ t) 4 = (UInt8.ofNat (sumN r % 256)).toNat := rfl
  have h := firstB_some (l := frameB r ++ t) (by omega) rfl (by omega) (by omega) (by rw [ht, h3, h4, toNat_ofNat (by omega), toNat_ofNat (by omega)]; omega)
  rw [ht] at h
  exact h

theorem drop_frame (r t : List UInt8) : (frameB r ++ t).drop (r.length + 5) = t := by
  rw [← frameB_length r]; exact List.drop_left

theorem cutB_frame (r t : List UInt8) (hr : r.length ≤ 4096) : cutB (frameB r ++ t) = r :: cutB t := by
  rw [cutB_some (firstB_frame r t hr), drop_frame]

/-- Of a frame that is torn nothing is left. -/
theorem firstB_torn (r : List UInt8) (k : Nat) (hk : k < r.length + 5) (hr : r.length ≤ 4096) : firstB ((frameB r).take k) = none := by
  have hl : ((frameB r).take k).length = k := by rw [List.length_take, frameB_length]; omega
  by_cases h5 : k < 5
  · exact firstB_short (by omega)
  · have hs : saysN ((frameB r).take k) = r.length := by
      have h0 := frameB_says r [] hr
      rw [List.append_nil] at h0
      have hb : ∀ i, i < 5 → byteN ((frameB r).take k) i = byteN (frameB r) i := fun i hi => by
        unfold byteN
        rw [List.getD_eq_getElem?_getD, List.getElem?_take_of_lt (by omega), ← List.getD_eq_getElem?_getD]
      rw [← h0, saysN, saysN, hb 1 (by omega), hb 2 (by omega)]
    have h0 : byteN ((frameB r).take k) 0 = 82 := by
      unfold byteN
      rw [List.getD_eq_getElem?_getD, List.getElem?_take_of_lt (by omega), ← List.getD_eq_getElem?_getD]
      rfl
    exact firstB_more (by omega) h0 (by omega) (by omega)

/-- Records that have frames. -/
def okR (rs : List (List UInt8)) : List (List UInt8) := rs.filter fun r => decide (r.length ≤ 4096)

/-- Records' frames, one behind the other. -/
def allB (rs : List (List UInt8)) : List UInt8 := (rs.map putB).flatten

theorem putB_long {r : List UInt8} (h : 4096 < r.length) : putB r = [] := if_pos h
theorem putB_ok {r : List UInt8} (h : r.length ≤ 4096) : putB r = frameB r := if_neg (by omega)
theorem putB_length (r : List UInt8) : (putB r).length = if 4096 < r.length then 0 else r.length + 5 := by
  unfold putB; split
  · rfl
  · exact frameB_length r
theorem putB_le (r : List UInt8) : (putB r).length ≤ r.length + 5 := by rw [putB_length]; split <;> omega

theorem allB_nil : allB [] = [] := rfl
theorem allB_cons (r : List UInt8) (rs : List (List UInt8)) : allB (r :: rs) = putB r ++ allB rs := rfl
theorem allB_append (a b : List (List UInt8)) : allB (a ++ b) = allB a ++ allB b := by simp [allB]
theorem allB_snoc (rs : List (List UInt8)) (r : List UInt8) : allB (rs ++ [r]) = allB rs ++ putB r := by simp [allB]

/-- What stands behind records' frames is cut behind them. -/
theorem cutB_all : ∀ (rs : List (List UInt8)) (t : List UInt8), cutB (allB rs ++ t) = okR rs ++ cutB t
  | [], t => rfl
  | r :: rs, t => by
    have ih := cutB_all rs t
    by_cases h : r.length ≤ 4096
    · have e1 : okR (r :: rs) = r :: okR rs := by simp [okR, h]
      rw [allB_cons, putB_ok h, List.append_assoc, cutB_frame r _ h, ih, e1]
      rfl
    · have e1 : okR (r :: rs) = okR rs := by simp [okR, h]
      rw [allB_cons, putB_long (by omega), List.nil_append, ih, e1]

theorem cutB_nil : cutB [] = [] := cutB_none (firstB_short (by simp))
theorem cutB_all' (rs : List (List UInt8)) : cutB (allB rs) = okR rs := by
  have := cutB_all rs []
  rwa [List.append_nil, cutB_nil, List.append_nil] at this

theorem lensN_okR : ∀ rs : List (List UInt8), lensN (okR rs) = (allB rs).length
  | [] => rfl
  | r :: rs => by
    have ih := lensN_okR rs
    rw [allB_cons, List.length_append, ← ih]
    by_cases h : r.length ≤ 4096
    · have e1 : okR (r :: rs) = r :: okR rs := by simp [okR, h]
      rw [e1, putB_ok h, frameB_length]
      simp [lensN]
    · have e1 : okR (r :: rs) = okR rs := by simp [okR, h]
      rw [e1, putB_long (by omega)]
      simp

theorem cutN_all (rs : List (List UInt8)) : cutN (allB rs) = (allB rs).length := by rw [cutN, cutB_all', lensN_okR]

/-- What is cut, put again, is what it was cut of. -/
theorem all_cutB : ∀ (n : Nat) (l : List UInt8), l.length = n → allB (cutB l) = l.take (cutN l) ∧ firstB (l.drop (cutN l)) = none := by
  intro n
  induction n using Nat.strongRecOn with
  | _ n ih =>
    intro l hl
    cases h : firstB l with
    | none =>
      have e1 : cutN l = 0 := by rw [cutN, cutB_none h]; rfl
      rw [e1, cutB_none h]
      exact ⟨rfl, h⟩
    | some r =>
      obtain ⟨h1, h2, h3⟩ := firstB_le h
      obtain ⟨i1, i2⟩ := ih (l.drop (r.length + 5)).length (by rw [List.length_drop]; omega) _ rfl
      have e1 : cutN l = (r.length + 5) + cutN (l.drop (r.length + 5)) := by simp [cutN, cutB_some h, lensN]
      rw [e1, cutB_some h, allB_cons, putB_ok h2, i1, ← h3]
      obtain ⟨d, hd⟩ : ∃ d, r.length + 5 = d := ⟨_, rfl⟩
      rw [hd] at i2 ⊢
      rw [List.take_add, ← List.drop_drop]
      exact ⟨rfl, i2⟩

theorem okR_cut (l : List UInt8) : okR (cutB l) = cutB l := by
  have : ∀ (n : Nat) (l : List UInt8), l.length = n → ∀ r ∈ cutB l, r.length ≤ 4096 := by
    intro n
    induction n using Nat.strongRecOn with
    | _ n ih =>
      intro l hl r hr
      cases h : firstB l with
      | none => rw [cutB_none h] at hr; cases hr
      | some r' =>
        obtain ⟨h1, h2, h3⟩ := firstB_le h
        rw [cutB_some h] at hr
        rcases List.mem_cons.1 hr with rfl | hr
        · exact h2
        · exact ih (l.drop (r'.length + 5)).length (by rw [List.length_drop]; omega) _ rfl r hr
  unfold okR
  rw [List.filter_eq_self]
  intro r hr
  simpa using this _ l rfl r hr

end Go.Proofs.YtdpbnacabinlgaaGreatDoor
namespace Go.Proofs.YtdpbnacabinlgaaGreatDoor
open Go.RowKit Go.Lib Go.Maps Go.ChangeMaps Go.Sort Go.Shelf

/-- The steps of a journal's calls, as what they make of its state. -/
def putJ (mark : List UInt8) (k : Nat) (b : List UInt8) (j : JM) : JM × Int := (⟨(appP j.r (nameB mark k) b).1, j.last, j.wr⟩, (appP j.r (nameB mark k) b).2)
def finJ (j : JM) : JM × Int := (⟨(finR j.r j.wr).1, j.last, j.wr⟩, (finR j.r j.wr).2)
def turnJ (k : Nat) (nw : Bool) (j : JM) : JM × Int := (⟨j.r, k, nw⟩, 0)
def syncJ (j : JM) : JM × Int := (⟨(syncR j.r).1, j.last, j.wr⟩, (syncR j.r).2)

/-- Add, in plain words. -/
def addJ (j : JM) (rec : List UInt8) : JM × Int :=
  if 4096 < rec.length then (j, 1)
  else if (j.wr && decide ((bytesR j.r (numName logM j.last)).length + (frameB rec).length ≤ 1024)) = true then seqS [putJ logM j.last (frameB rec)] j
  else seqS [finJ, putJ logM (j.last + 1) (frameB rec), turnJ (j.last + 1) true] j

theorem finR_acts (r : RDm) (wr : Bool) : (finR r wr).1.acts ≤ r.acts + 1 := by
  unfold finR
  split
  · exact syncR_acts r
  · show r.acts ≤ _
    omega

theorem BArg.of_jo {w : World} {own : Owner} {jb : Nat} {bv : Value} {bs : List UInt8} (h : BArg w (jo own jb) bv bs) : BArg w own bv bs := by
  rcases h with h | ⟨A, c, h1, h2, h3⟩
  · exact Or.inl h
  · exact Or.inr ⟨A, c, h1, fun e => (jo_none.1 (h2 e)).2, h3⟩

/-- A journal's state behind k steps of a row. -/
def JK (jb db fb gb n : Nat) (a : Int) (k : Nat) (w : World) (own : Owner) (j : JM) : Prop := JDev w own jb db fb gb (n + k) j ∧ j.r.acts ≤ a + k
def JQ (jb : Nat) (own own' : Owner) (w w' : World) : Prop := Step (jo own jb) (jo own' jb) w w'

section
variable {w W : World} {own o : Owner} {jb db fb gb n k : Nat} {a : Int} {j y : JM}

theorem JK.up {k' : Nat} (h : JK jb db fb gb n a k w own j) (hk : k ≤ k') : JK jb db fb gb n a k' w own j := ⟨h.1.mono (by omega), by have := h.2; omega⟩

theorem JK.put (h : JK jb db fb gb n a k W o y) (hq : JQ jb own o w W) (hn : n + k ≤ 1000000) (ha : a + k ≤ 1000000000000) {x0 x1 x2 x3 q c : Nat} {s : ByteArray} {ba : Option Addr} {bs : List UInt8} (hs : s.size ≤ 1000) (hk : q ≤ 9223372036854775807)
    (y0 : w.cell? ⟨x0, 0, none⟩ = some (.pointer (some ⟨jb, 0, none⟩))) (y1 : w.cell? ⟨x1, 0, none⟩ = some (.string s)) (y2 : w.cell? ⟨x2, 0, none⟩ = some (.int .i64 q)) (y3 : w.cell? ⟨x3, 0, none⟩ = some (.slice ba bs.length c))
    (o0 : jo own jb x0 = none) (o1 : jo own jb x1 = none) (o2 : jo own jb x2 = none) (o3 : jo own jb x3 = none) (hb : BArg w (jo own jb) (.slice ba bs.length c) bs) :
    Calls Tryz.prog 90 #[.pointer (some ⟨x0, 0, none⟩), .pointer (some ⟨x1, 0, none⟩), .pointer (some ⟨x2, 0, none⟩), .pointer (some ⟨x3, 0, none⟩)] W (SPost (JK jb db fb gb n a) (JQ jb) (k + 1) o W (putJ s.data.toList q bs y)) := by
  have kp : ∀ {b : Nat} {v : Value}, jo own jb b = none → w.cell? ⟨b, 0, none⟩ = some v → W.cell? ⟨b, 0, none⟩ = some v := fun ho hv => hq.fr.cell hv (by simp [ho])
  have kn : ∀ {b : Nat} {v : Value}, jo own jb b = none → w.cell? ⟨b, 0, none⟩ = some v → o b = none := fun ho hv => (jo_none.1 (hq.own _ (World.block_lt_of_cell? _ _ hv) ho)).2
  have hac := h.2
  refine (h.1.dev.put1 h.1.vars (by omega) (by omega) hs hk (kp o0 y0) (kp o1 y1) (kp o2 y2) (kp o3 y3) h.1.jat.c0 (kn o0 y0) (kn o1 y1) (kn o2 y2) (kn o3 y3) h.1.free (hb.step hq).of_jo).mono ?_
  intro e w' hp
  obtain ⟨he, own', hd, st⟩ := h.1.act hp
  refine ⟨he, own', ⟨hd, ?_⟩, st⟩
  have := appendR_acts y.r (nameB s.data.toList q).data.toList bs.length { fileR y.r (nameB s.data.toList q) with data := (fileR y.r (nameB s.data.toList q)).data ++ bs }
  show (appP y.r (nameB s.data.toList q) bs).1.acts ≤ _
  unfold appP
  omega

theorem JK.fin (h : JK jb db fb gb n a k W o y) (ha : a + k ≤ 1000000000000) :
    Calls Tryz.prog 65 #[.pointer (some ⟨jb, 0, none⟩)] W (SPost (JK jb db fb gb n a) (JQ jb) (k + 1) o W (finJ y)) := by
  have hac := h.2
  refine (h.1.dev.finish (by omega) h.1.jat).mono ?_
  intro e w' hp
  obtain ⟨he, own', hd, st⟩ := h.1.act hp
  refine ⟨he, own', ⟨hd.mono (by omega), ?_⟩, st⟩
  have := finR_acts y.r y.wr
  show (finR y.r y.wr).1.acts ≤ _
  omega

theorem JK.turn (h : JK jb db fb gb n a k W o y) (hq : JQ jb own o w W) (hjb : 2 < jb) {x0 x1 x2 q : Nat} {nw : Bool}
    (y0 : w.cell? ⟨x0, 0, none⟩ = some (.int .i64 q)) (y1 : w.cell? ⟨x1, 0, none⟩ = some (.bool nw)) (y2 : w.cell? ⟨x2, 0, none⟩ = some (.pointer (some ⟨jb, 0, none⟩)))
    (o0 : jo own jb x0 = none) (o1 : jo own jb x1 = none) (o2 : jo own jb x2 = none) :
    Calls Tryz.prog 92 #[.pointer (some ⟨x0, 0, none⟩), .pointer (some ⟨x1, 0, none⟩), .pointer (some ⟨x2, 0, none⟩)] W (SPost (JK jb db fb gb n a) (JQ jb) (k + 1) o W (turnJ q nw y)) := by
  have kp : ∀ {b : Nat} {v : Value}, jo own jb b = none → w.cell? ⟨b, 0, none⟩ = some v → W.cell? ⟨b, 0, none⟩ = some v := fun ho hv => hq.fr.cell hv (by simp [ho])
  have hac := h.2
  refine (turn1_calls h.1.jat (kp o0 y0) (kp o1 y1) (kp o2 y2) (Ne.symm (jo_none.1 o0).1) (Ne.symm (jo_none.1 o1).1) (Ne.symm (jo_none.1 o2).1)).mono ?_
  rintro e w' ⟨rfl, hj, hf⟩
  obtain ⟨hd, st⟩ := h.1.turn hjb hj hf
  exact ⟨rfl, o, ⟨hd.mono (by omega), by show y.r.acts ≤ _; omega⟩, st⟩
end

end Go.Proofs.YtdpbnacabinlgaaGreatDoor
namespace Go.Proofs.YtdpbnacabinlgaaGreatDoor
open Go.RowKit Go.Lib Go.Maps Go.ChangeMaps Go.Sort Go.Shelf

theorem JQ.refl (jb : Nat) (own : Owner) (w : World) : JQ jb own own w w := Step.refl _ _
theorem JQ.trans {jb : Nat} {o o1 o2 : Owner} {a b c : World} (h : JQ jb o o1 a b) (k : JQ jb o1 o2 b c) : JQ jb o o2 a c := Step.trans h k

theorem SPost.jpost {w W w' : World} {own : Owner} {jb db fb gb n k : Nat} {a : Int} {z : JM × Int} {e : Ending} (h : SPost (JK jb db fb gb n a) (JQ jb) k own W z e w') (hb : Below w.heap.size w W) : JPost w own jb db fb gb (n + k) z e w' := by
  obtain ⟨he, own', hp, hq⟩ := h
  exact ⟨he, own', hp.1, (below_step _ hb).trans hq⟩

/-- A row of steps in a block of its own. -/
theorem steps_at {w : World} {B : Nat} {ps : List StepV} {cs : Array Value} {t : TypeId} {fr : Nat × Nat} (h : w.heap[B]? = some (.cells cs t fr)) (hc : cs.toList = ps.map StepV.val) : ∀ j p, ps[j]? = some p → w.cell? ((⟨B, 0, none⟩ : Addr).add j) = some p.val := fun j p hp => by
  have hadd : (⟨B, 0, none⟩ : Addr).add j = ⟨B, j, none⟩ := by unfold Addr.add; split <;> simp_all
  rw [hadd]
  refine cell_of_blk h ?_
  have h1 : cs.toList[j]? = some p.val := by rw [hc, List.getElem?_map, hp]; rfl
  simpa using h1

theorem ent_put1 : Enters Tryz.prog 90 := enters_of Tryz.func90 (by kernel_rfl) rfl
theorem ent_turn1 : Enters Tryz.prog 92 := enters_of Tryz.func92 (by kernel_rfl) rfl
theorem ent_finish : Enters Tryz.prog 65 := enters_of Tryz.func65 (by kernel_rfl) rfl
theorem ent_sync : Enters Tryz.prog 49 := enters_of Tryz.func49 (by kernel_rfl) rfl
theorem ent_leave1 : Enters Tryz.prog 76 := enters_of Tryz.func76 (by kernel_rfl) rfl
theorem ent_leave11 : Enters Tryz.prog 78 := enters_of Tryz.func78 (by kernel_rfl) rfl

section
variable {w : World} {own : Owner} {jb db fb gb n : Nat} {j : JM}

/-- What stands behind a world's end is nobody's. -/
theorem JDev.new (h : JDev w own jb db fb gb n j) {b : Nat} (hb : w.heap.size ≤ b) : jo own jb b = none := jo_none.2 ⟨fun e => by have := h.jat.lt; omega, h.dev.old b hb⟩

theorem JDev.row_same (h : JDev w own jb db fb gb n j) (hn : n ≤ 900000) (ha : j.r.acts ≤ 900000000000) {q c : Nat} {ba : Option Addr} {bs : List UInt8} (hq : q ≤ 9223372036854775807) (hb : BArg w (jo own jb) (.slice ba bs.length c) bs) :
    Calls Tryz.prog 46 #[.slice (some ⟨w.heap.size + 4, 0, none⟩) 1 1] (allocs w [.cells #[.pointer (some ⟨jb, 0, none⟩)] 31, .cells #[.string ⟨#[108, 111, 103, 45]⟩] 9, .cells #[.int .i64 q] 2, .cells #[.slice ba bs.length c] 49,
      .cells #[.func (.func 90) #[] #[.pointer (some ⟨w.heap.size, 0, none⟩), .pointer (some ⟨w.heap.size + 1, 0, none⟩), .pointer (some ⟨w.heap.size + 2, 0, none⟩), .pointer (some ⟨w.heap.size + 3, 0, none⟩)]] 47])
      (JPost w own jb db fb gb (n + 1) (seqS [putJ logM q bs] j)) := by
  obtain ⟨os, hos⟩ : ∃ os : List Obj, os = [.cells #[.pointer (some ⟨jb, 0, none⟩)] 31, .cells #[.string ⟨#[108, 111, 103, 45]⟩] 9, .cells #[.int .i64 q] 2, .cells #[.slice ba bs.length c] 49,
      .cells #[.func (.func 90) #[] #[.pointer (some ⟨w.heap.size, 0, none⟩), .pointer (some ⟨w.heap.size + 1, 0, none⟩), .pointer (some ⟨w.heap.size + 2, 0, none⟩), .pointer (some ⟨w.heap.size + 3, 0, none⟩)]] 47] := ⟨_, rfl⟩
  rw [← hos]
  have hbl := allocs_below os w
  have at_ := allocs_at os w
  have b0 : (allocs w os).cell? ⟨w.heap.size, 0, none⟩ = some (.pointer (some ⟨jb, 0, none⟩)) := cell_of_blk (at_ 0 _ (by rw [hos]; rfl)) rfl
  have b1 : (allocs w os).cell? ⟨w.heap.size + 1, 0, none⟩ = some (.string ⟨#[108, 111, 103, 45]⟩) := cell_of_blk (at_ 1 _ (by rw [hos]; rfl)) rfl
  have b2 : (allocs w os).cell? ⟨w.heap.size + 2, 0, none⟩ = some (.int .i64 q) := cell_of_blk (at_ 2 _ (by rw [hos]; rfl)) rfl
  have b3 : (allocs w os).cell? ⟨w.heap.size + 3, 0, none⟩ = some (.slice ba bs.length c) := cell_of_blk (at_ 3 _ (by rw [hos]; rfl)) rfl
  have b4 := at_ 4 _ (by rw [hos]; rfl)
  have hst := steps_at (ps := [⟨90, #[], #[.pointer (some ⟨w.heap.size, 0, none⟩), .pointer (some ⟨w.heap.size + 1, 0, none⟩), .pointer (some ⟨w.heap.size + 2, 0, none⟩), .pointer (some ⟨w.heap.size + 3, 0, none⟩)]⟩]) b4 rfl
  have hW := h.below hbl
  refine (inRow_seq (JK jb db fb gb n j.r.acts) (JQ jb) (JQ.refl jb) JQ.trans (allocs w os) own j ⟨w.heap.size + 4, 0, none⟩ 1 1 _ [putJ logM q bs] rfl rfl (by omega) ⟨hW, by omega⟩
    (fun W o hq j p hp => hq.fr.cell (hst j p hp) (by rw [add_block]; simp [h.new])) (fun p hp => by obtain rfl := List.mem_singleton.1 hp; exact ent_put1) (fun k W o y hk hp => hp.up hk) ?_).mono (fun e w' hp => hp.jpost hbl)
  rintro k p f W o y hp hf hQ hP
  match k, hp, hf with
  | 0, hp, hf =>
    injection hp with hp
    injection hf with hf
    subst hp
    subst hf
    have hac := hP.2
    exact hP.put hQ (by omega) (by omega) (s := ⟨#[108, 111, 103, 45]⟩) (by decide) hq b0 b1 b2 b3 (h.new (by omega)) (h.new (by omega)) (h.new (by omega)) (h.new (by omega)) (hb.step (below_step _ hbl))
  | k + 1, hp, _ => simp at hp

theorem JDev.row_next (h : JDev w own jb db fb gb n j) (hjb : 2 < jb) (hn : n ≤ 900000) (ha : j.r.acts ≤ 900000000000) {q c : Nat} {ba : Option Addr} {bs : List UInt8} (hq : q ≤ 9223372036854775807) (hb : BArg w (jo own jb) (.slice ba bs.length c) bs) :
    Calls Tryz.prog 46 #[.slice (some ⟨w.heap.size + 7, 0, none⟩) 3 3] (allocs w [.cells #[.pointer (some ⟨jb, 0, none⟩)] 31, .cells #[.string ⟨#[108, 111, 103, 45]⟩] 9, .cells #[.int .i64 q] 2, .cells #[.slice ba bs.length c] 49,
      .cells #[.pointer (some ⟨jb, 0, none⟩)] 31, .cells #[.int .i64 q] 2, .cells #[.bool true] 4,
      .cells #[.func (.func 65) #[.pointer (some ⟨jb, 0, none⟩)] #[], .func (.func 90) #[] #[.pointer (some ⟨w.heap.size, 0, none⟩), .pointer (some ⟨w.heap.size + 1, 0, none⟩), .pointer (some ⟨w.heap.size + 2, 0, none⟩), .pointer (some ⟨w.heap.size + 3, 0, none⟩)],
        .func (.func 92) #[] #[.pointer (some ⟨w.heap.size + 5, 0, none⟩), .pointer (some ⟨w.heap.size + 6, 0, none⟩), .pointer (some ⟨w.heap.size + 4, 0, none⟩)]] 47])
      (JPost w own jb db fb gb (n + 3) (seqS [finJ, putJ logM q bs, turnJ q true] j)) := by
  obtain ⟨os, hos⟩ : ∃ os : List Obj, os = [.cells #[.pointer (some ⟨jb, 0, none⟩)] 31, .cells #[.string ⟨#[108, 111, 103, 45]⟩] 9, .cells #[.int .i64 q] 2, .cells #[.slice ba bs.length c] 49,
      .cells #[.pointer (some ⟨jb, 0, none⟩)] 31, .cells #[.int .i64 q] 2, .cells #[.bool true] 4,
      .cells #[.func (.func 65) #[.pointer (some ⟨jb, 0, none⟩)] #[], .func (.func 90) #[] #[.pointer (some ⟨w.heap.size, 0, none⟩), .pointer (some ⟨w.heap.size + 1, 0, none⟩), .pointer (some ⟨w.heap.size + 2, 0, none⟩), .pointer (some ⟨w.heap.size + 3, 0, none⟩)],
        .func (.func 92) #[] #[.pointer (some ⟨w.heap.size + 5, 0, none⟩), .pointer (some ⟨w.heap.size + 6, 0, none⟩), .pointer (some ⟨w.heap.size + 4, 0, none⟩)]] 47] := ⟨_, rfl⟩
  rw [← hos]
  have hbl := allocs_below os w
  have at_ := allocs_at os w
  have b0 : (allocs w os).cell? ⟨w.heap.size, 0, none⟩ = some (.pointer (some ⟨jb, 0, none⟩)) := cell_of_blk (at_ 0 _ (by rw [hos]; rfl)) rfl
  have b1 : (allocs w os).cell? ⟨w.heap.size + 1, 0, none⟩ = some (.string ⟨#[108, 111, 103, 45]⟩) := cell_of_blk (at_ 1 _ (by rw [hos]; rfl)) rfl
  have b2 : (allocs w os).cell? ⟨w.heap.size + 2, 0, none⟩ = some (.int .i64 q) := cell_of_blk (at_ 2 _ (by rw [hos]; rfl)) rfl
  have b3 : (allocs w os).cell? ⟨w.heap.size + 3, 0, none⟩ = some (.slice ba bs.length c) := cell_of_blk (at_ 3 _ (by rw [hos]; rfl)) rfl
  have b4 : (allocs w os).cell? ⟨w.heap.size + 4, 0, none⟩ = some (.pointer (some ⟨jb, 0, none⟩)) := cell_of_blk (at_ 4 _ (by rw [hos]; rfl)) rfl
  have b5 : (allocs w os).cell? ⟨w.heap.size + 5, 0, none⟩ = some (.int .i64 q) := cell_of_blk (at_ 5 _ (by rw [hos]; rfl)) rfl
  have b6 : (allocs w os).cell? ⟨w.heap.size + 6, 0, none⟩ = some (.bool true) := cell_of_blk (at_ 6 _ (by rw [hos]; rfl)) rfl
  have b7 := at_ 7 _ (by rw [hos]; rfl)
  have hst := steps_at (ps := [⟨65, #[.pointer (some ⟨jb, 0, none⟩)], #[]⟩, ⟨90, #[], #[.pointer (some ⟨w.heap.size, 0, none⟩), .pointer (some ⟨w.heap.size + 1, 0, none⟩), .pointer (some ⟨w.heap.size + 2, 0, none⟩), .pointer (some ⟨w.heap.size + 3, 0, none⟩)]⟩,
    ⟨92, #[], #[.pointer (some ⟨w.heap.size + 5, 0, none⟩), .pointer (some ⟨w.heap.size + 6, 0, none⟩), .pointer (some ⟨w.heap.size + 4, 0, none⟩)]⟩]) b7 rfl
  have hW := h.below hbl
  refine (inRow_seq (JK jb db fb gb n j.r.acts) (JQ jb) (JQ.refl jb) JQ.trans (allocs w os) own j ⟨w.heap.size + 7, 0, none⟩ 3 3 _ [finJ, putJ logM q bs, turnJ q true] rfl rfl (by omega) ⟨hW, by omega⟩
    (fun W o hq j p hp => hq.fr.cell (hst j p hp) (by rw [add_block]; simp [h.new])) (fun p hp => by
      rcases List.mem_cons.1 hp with rfl | hp
      · exact ent_finish
      rcases List.mem_cons.1 hp with rfl | hp
      · exact ent_put1
      · obtain rfl := List.mem_singleton.1 hp; exact ent_turn1) (fun k W o y hk hp => hp.up hk) ?_).mono (fun e w' hp => hp.jpost hbl)
  rintro k p f W o y hp hf hQ hP
  have hac := hP.2
  match k, hp, hf with
  | 0, hp, hf =>
    injection hp with hp
    injection hf with hf
    subst hp
    subst hf
    exact hP.fin (by omega)
  | 1, hp, hf =>
    injection hp with hp
    injection hf with hf
    subst hp
    subst hf
    exact hP.put hQ (by omega) (by omega) (s := ⟨#[108, 111, 103, 45]⟩) (by decide) hq b0 b1 b2 b3 (h.new (by omega)) (h.new (by omega)) (h.new (by omega)) (h.new (by omega)) (hb.step (below_step _ hbl))
  | 2, hp, hf =>
    injection hp with hp
    injection hf with hf
    subst hp
    subst hf
    exact hP.turn hQ hjb b5 b6 b4 (h.new (by omega)) (h.new (by omega)) (h.new (by omega))
  | k + 3, hp, _ => simp at hp
end

end Go.Proofs.YtdpbnacabinlgaaGreatDoor
namespace Go.Proofs.YtdpbnacabinlgaaGreatDoor
open Go.RowKit Go.Lib Go.Maps Go.ChangeMaps Go.Sort Go.Shelf

theorem putJ_ok {rec : List UInt8} (h : ¬ 4096 < rec.length) : putB rec = frameB rec := if_neg h

section
variable {w : World} {own : Owner} {jb db fb gb n : Nat} {j : JM}

theorem JPost.up {n' : Nat} {w w0 w' : World} {z : JM × Int} {e : Ending} (h : JPost w own jb db fb gb n z e w') (hb : Below w0.heap.size w0 w) (hn : n ≤ n') : JPost w0 own jb db fb gb n' z e w' := by
  obtain ⟨he, own', hd, st⟩ := h
  exact ⟨he, own', hd.mono hn, (below_step _ hb).trans st⟩

set_option maxHeartbeats 4000000 in
set_option maxRecDepth 100000 in
theorem JDev.add (h : JDev w own jb db fb gb n j) (hjb : 2 < jb) (hn : n ≤ 900000) (ha : j.r.acts ≤ 900000000000) (hl : j.last ≤ 1000000000000000000) {s : ByteArray} (hs : s.size ≤ maxLen) :
    Calls Tryz.prog 23 #[.pointer (some ⟨jb, 0, none⟩), .string s] w (JPost w own jb db fb gb (n + 3) (addJ j s.data.toList)) := by
  have hsl : s.data.toList.length = s.size := by simp
  by_cases hbig : 4096 < s.size
  · have e1 : addJ j s.data.toList = (j, 1) := by unfold addJ; rw [if_pos (by rw [hsl]; exact hbig)]
    rw [e1]
    have hd : decide ((4096 : Int) < (s.size : Int)) = true := by simp; omega
    have H := Lib.hid h
    clear h e1 hsl
    go_enter Tryz.func23, Tryz.ntmps23
    go_wp2_with fail
    go_ret
    exact ⟨rfl, own, H.out.mono (by omega), Step.refl _ _⟩
  have hd : decide ((4096 : Int) < (s.size : Int)) = false := by simp; omega
  have hpb : putB s.data.toList = frameB s.data.toList := putJ_ok (by rw [hsl]; exact hbig)
  have hfl : (frameB s.data.toList).length ≤ 5000 := by rw [frameB_length, hsl]; omega
  have HPUT := Lib.hid (put_calls s w hs)
  rw [hpb] at HPUT
  obtain ⟨bs, hbs⟩ : ∃ bs, frameB s.data.toList = bs := ⟨_, rfl⟩
  have e0 : addJ j s.data.toList = if (j.wr && decide ((bytesR j.r (numName logM j.last)).length + bs.length ≤ 1024)) = true then seqS [putJ logM j.last bs] j else seqS [finJ, putJ logM (j.last + 1) bs, turnJ (j.last + 1) true] j := by
    unfold addJ
    rw [if_neg (by rw [hsl]; exact hbig), hbs]
  rw [e0]
  rw [hbs] at HPUT hfl
  obtain ⟨t, ht⟩ : ∃ t, (j.wr && decide ((bytesR j.r (numName logM j.last)).length + bs.length ≤ 1024)) = t := ⟨_, rfl⟩
  rw [ht]
  obtain ⟨z, hz⟩ : ∃ z, (if t = true then seqS [putJ logM j.last bs] j else seqS [finJ, putJ logM (j.last + 1) bs, turnJ (j.last + 1) true] j) = z := ⟨_, rfl⟩
  rw [hz]
  have HZ := Lib.hid hz
  have HT : Hid (∀ W, Below w.heap.size w W → Calls Tryz.prog 63 #[.pointer (some ⟨jb, 0, none⟩), .int .i64 bs.length] W fun e w' => e = .returned (.bool t) ∧ Below W.heap.size W w') := fun W hW => by
    rw [← ht]
    exact (h.below hW).dev.takes (h.below hW).vars (h.below hW).jat (by omega) bs.length (by omega)
  have H := Lib.hid h
  obtain ⟨bl, hbl⟩ : ∃ bl, bs.length = bl := ⟨_, rfl⟩
  have HBL := Lib.hid hbl
  clear h e0 hpb hbs hsl ht hs hz
  rw [hbl] at HT HPUT hfl
  go_enter Tryz.func23, Tryz.ntmps23
  go_wp2_with fail
  refine HPUT.out.mono ?_
  rintro e w1 ⟨v, rfl, hrow, hb1⟩
  obtain ⟨ba, c, rfl⟩ := row_slice hrow
  have HB1 := Lib.hid hb1
  have hba : BArg w1 (jo own jb) (.slice ba bl c) bs := by
    rw [← hbl] at hrow ⊢
    exact BArg.of_row hrow (fun b hb => H.out.new hb)
  have HBA := Lib.hid hba
  clear hrow hb1 hba HPUT hbl
  go_wp2_with fail
  refine (HT.out w1 HB1.out).mono ?_
  rintro e w2 ⟨rfl, hb2⟩
  have HB2 := Lib.hid (HB1.out.trans (hb2.mono HB1.out.size))
  have H2 := Lib.hid (H.out.below HB2.out)
  have HBA2 : Hid (BArg w2 (jo own jb) (.slice ba bs.length c) bs) := by rw [HBL.out]; exact HBA.out.step (below_step _ hb2)
  have c1 := H2.out.jat.c1
  clear hb2 HT HBA
  cases t with
  | true =>
    have hz := HZ.out
    rw [if_pos rfl] at hz
    have HROW := Lib.hid (H2.out.row_same hn ha (q := j.last) (by omega) HBA2.out)
    rw [hz] at HROW
    clear hz
    rw [HBL.out] at HROW
    unfold allocs at HROW
    clear c1
    have c1 := H2.out.jat.c1
    go_wp2_with fail
    refine (jput_calls _ _ _ _ _).mono ?_
    rintro e w3 ⟨rfl, rfl⟩
    go_wp2_with fail
    refine HROW.out.mono ?_
    rintro e w4 hp
    have HP := Lib.hid (hp.up HB2.out (show n + 1 ≤ n + 3 by omega))
    obtain ⟨rfl, _⟩ := hp
    go_wp2_with fail
    go_ret
    exact HP.out
  | false =>
    have hz := HZ.out
    rw [if_neg (by simp)] at hz
    have HROW := Lib.hid (H2.out.row_next hjb hn ha (q := j.last + 1) (by omega) HBA2.out)
    rw [hz] at HROW
    clear hz
    rw [HBL.out, show ((j.last + 1 : Nat) : Int) = (j.last : Int) + 1 from rfl] at HROW
    unfold allocs at HROW
    have hwr : IntKind.i64.wrap ((j.last : Int) + 1) = (j.last : Int) + 1 := IntWalk.i64_in _ ⟨by omega, by omega⟩
    go_wp2_with fail
    refine (jput_calls _ _ _ _ _).mono ?_
    rintro e w3 ⟨rfl, rfl⟩
    go_wp2_with fail
    refine (jturn_calls _).mono ?_
    rintro e w3 ⟨rfl, rfl⟩
    go_wp2_with fail
    refine HROW.out.mono ?_
    rintro e w4 hp
    have HP := Lib.hid (hp.up HB2.out (show n + 3 ≤ n + 3 by omega))
    obtain ⟨rfl, _⟩ := hp
    go_wp2_with fail
    go_ret
    exact HP.out
end

end Go.Proofs.YtdpbnacabinlgaaGreatDoor
