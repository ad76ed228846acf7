/- The record of the first frame: first. -/
import Derived.Test.YtmecpgnmeefpjaaF2
namespace Go.Proofs.Ytmecpgnmeefpjaa
open Go.RowKit Go.Lib

/-- Bytes as a text. -/
def strB (l : List UInt8) : ByteArray := ⟨l.toArray⟩
theorem strB_list (l : List UInt8) : (strB l).data.toList = l := by simp [strB]
theorem strB_size (l : List UInt8) : (strB l).size = l.length := by simp [strB, ByteArray.size]

def byteN (l : List UInt8) (i : Nat) : Nat := (l.getD i 0).toNat
/-- How long the record is that a frame says. -/
def saysN (l : List UInt8) : Nat := 256 * byteN l 1 + byteN l 2

/-- The record of the frame that bytes begin with. -/
def firstB (l : List UInt8) : Option (List UInt8) :=
  if l.length < 5 then none
  else if byteN l 0 ≠ 82 then none
  else if 4096 < saysN l then none
  else if l.length - 5 < saysN l then none
  else if sumN ((l.drop 5).take (saysN l)) ≠ 256 * byteN l 3 + byteN l 4 then none
  else some ((l.drop 5).take (saysN l))

theorem byteN_lt (l : List UInt8) (i : Nat) : byteN l i < 256 := (l.getD i 0).toNat_lt

/-- A text of bytes that can be read. -/
theorem conv_brow {w : World} {v : Value} {bs : List UInt8} (h : BRow w v bs) : (convert 22 9 v).run Try.prog w = .ok (.string (strB bs)) w := by
  obtain ⟨a, c, rfl, _, _, _, hx⟩ := h
  cases a with
  | none =>
    cases bs with
    | nil => exact run_convert_bytes_nil w 22 5 Try.underlying22 Try.underlying5 0 c 9 Try.underlying9
    | cons x l =>
      obtain ⟨A, h1, _⟩ := hx 0 x rfl
      cases h1
  | some A =>
    have hl : (loadCells A bs.length).run Try.prog w = .ok ((bs.map fun b => (b.toNat : Int)).map (Value.int .u8)).toArray w := by
      have h := run_loadCells_list (P := Try.prog) w A ((bs.map fun b => (b.toNat : Int)).map (Value.int .u8)) (fun j v hj => by
        rw [List.map_map, List.getElem?_map, Option.map_eq_some_iff] at hj
        obtain ⟨x, hx1, rfl⟩ := hj
        obtain ⟨A', h1, h2⟩ := hx j x hx1
        injection h1 with h1
        rw [h1]
        exact h2)
      simpa using h
    rw [run_convert_bytes_string w 22 9 5 (some A) bs.length c Try.underlying22 Try.underlying5 Try.underlying9, run_bytesToString w A bs.length c (bs.map fun b => (b.toNat : Int)) hl, foldl_push_bytes]
    congr 2
    apply ByteArray.ext
    simp [strB, ByteArray.empty, ByteArray.emptyWithCapacity]
    rw [List.map_congr_left (g := id) (fun b _ => by simp)]
    simp
    rfl

/-- Bytes from a place on. -/
theorem BRow.drop {w : World} {v : Value} {bs : List UInt8} (h : BRow w v bs) {k : Nat} (hk : k ≤ bs.length) :
    ∃ v', (∀ W : World, (Instr.slice 22 v (some (.int .i64 k)) none none).run Try.prog W = .ok v' W) ∧ BRow w v' (bs.drop k) := by
  obtain ⟨a, c, rfl, h1, h2, h3, hx⟩ := h
  refine ⟨.slice (if c = k then a else a.map (·.add k)) (bs.length - k) (c - k), fun W => ?_, ?_⟩
  · have hz : (sizeOf 5).run Try.prog W = .ok 1 W := by kernel_rfl
    rw [run_slice_l (P := Try.prog) W 22 a bs.length c (by kernel_rfl) .i64 (k : Int) (by omega) (by omega)]
    have he : Try.prog.elem 22 = 5 := by kernel_rfl
    rw [he, hz]
    simp [Result.andThen, sliced]
  · refine ⟨_, c - k, by rw [List.length_drop], by rw [List.length_drop]; omega, by omega, fun hn => ?_, fun j x hj => ?_⟩
    · split at hn
      · omega
      · cases a with
        | none => have := h3 rfl; omega
        | some A => cases hn
    · rw [List.getElem?_drop] at hj
      obtain ⟨A, rfl, h5⟩ := hx (k + j) x hj
      have hlt : k + j < bs.length := (List.getElem?_eq_some_iff.1 hj).1
      have hck : c ≠ k := by omega
      refine ⟨A.add k, by simp [hck], ?_⟩
      rw [Addr.add_add]
      exact h5

/-- Bytes from a place on, up to another one. -/
theorem BRow.cut {w : World} {v : Value} {bs : List UInt8} (h : BRow w v bs) {k m : Nat} (hk : k ≤ m) (hm : m ≤ bs.length) :
    ∃ v', (∀ W : World, (Instr.slice 22 v (some (.int .i64 k)) (some (.int .i64 m)) none).run Try.prog W = .ok v' W) ∧ BRow w v' ((bs.drop k).take (m - k)) := by
  obtain ⟨a, c, rfl, h1, h2, h3, hx⟩ := h
  have hlen : ((bs.drop k).take (m - k)).length = m - k := by rw [List.length_take, List.length_drop]; omega
  refine ⟨.slice (if c = k then a else a.map (·.add k)) (m - k) (c - k), fun W => ?_, ?_⟩
  · have hz : (sizeOf 5).run Try.prog W = .ok 1 W := by kernel_rfl
    rw [run_slice_lh (P := Try.prog) W 22 a bs.length c (by kernel_rfl) .i64 .i64 (k : Int) (m : Int) (by omega) (by omega) (by omega)]
    have he : Try.prog.elem 22 = 5 := by kernel_rfl
    rw [he, hz]
    simp [Result.andThen, sliced]
  · refine ⟨_, c - k, by rw [hlen], by rw [hlen]; omega, by omega, fun hn => ?_, fun j x hj => ?_⟩
    · split at hn
      · omega
      · cases a with
        | none => have := h3 rfl; omega
        | some A => cases hn
    · have hjm : j < m - k := by
        have := (List.getElem?_eq_some_iff.1 hj).1
        omega
      rw [List.getElem?_take_of_lt hjm, List.getElem?_drop] at hj
      obtain ⟨A, rfl, h5⟩ := hx (k + j) x hj
      have hck : c ≠ k := by omega
      refine ⟨A.add k, by simp [hck], ?_⟩
      rw [Addr.add_add]
      exact h5

/-- Bytes up to a place. -/
theorem BRow.upto {w : World} {v : Value} {bs : List UInt8} (h : BRow w v bs) {m : Nat} (hm : m ≤ bs.length) :
    ∃ v', (∀ W : World, (Instr.slice 22 v none (some (.int .i64 m)) none).run Try.prog W = .ok v' W) ∧ BRow w v' (bs.take m) := by
  obtain ⟨a, c, rfl, h1, h2, h3, hx⟩ := h
  have hlen : (bs.take m).length = m := by rw [List.length_take]; omega
  refine ⟨.slice a m c, fun W => ?_, ?_⟩
  · have hz : (sizeOf 5).run Try.prog W = .ok 1 W := by kernel_rfl
    rw [run_slice_h (P := Try.prog) W 22 a bs.length c (by kernel_rfl) .i64 (m : Int) (by omega) (by omega)]
    have he : Try.prog.elem 22 = 5 := by kernel_rfl
    rw [he, hz]
    cases a <;> simp [Result.andThen, sliced, Addr.add]
  · refine ⟨_, c, by rw [hlen], by rw [hlen]; omega, h2, h3, fun j x hj => ?_⟩
    have hjm : j < m := by
      have := (List.getElem?_eq_some_iff.1 hj).1
      omega
    rw [List.getElem?_take_of_lt hjm] at hj
    exact hx j x hj

/-- Of a row that is owned. -/
theorem BRow.of_owns {w : World} {base l : Nat} {v : Value} {bs : List UInt8} (h : w.ownsRow base 5 1 v l (byteCells bs)) : BRow w v bs := by
  have hl : l = bs.length := by have := h.1; simp [byteCells] at this; omega
  subst hl
  have hc := fun g hg => h.cells (g := g) hg
  rcases h.2 with ⟨rfl, h0⟩ | ⟨g, cap, cur, rfl, _, _, h1, h2, _⟩
  · obtain rfl : bs = [] := List.eq_nil_of_length_eq_zero h0
    exact ⟨none, 0, rfl, Nat.le_refl _, by unfold maxLen; omega, fun _ => rfl, fun j x hj => by simp at hj⟩
  · refine ⟨_, cap, rfl, h1, h2, (fun e => by cases e), fun j x hj => ⟨_, rfl, hc g rfl j _ (by simp [byteCells, hj])⟩⟩

theorem BRow.len {w : World} {v : Value} {bs : List UInt8} (h : BRow w v bs) : ∃ a c, v = .slice a bs.length c ∧ bs.length ≤ c ∧ c ≤ maxLen := by
  obtain ⟨a, c, h1, h2, h3, _⟩ := h
  exact ⟨a, c, h1, h2, h3⟩

theorem firstB_short {l : List UInt8} (h : l.length < 5) : firstB l = none := if_pos h
theorem firstB_mark {l : List UInt8} (h : ¬ l.length < 5) (h0 : byteN l 0 ≠ 82) : firstB l = none := by unfold firstB; rw [if_neg h, if_pos h0]
theorem firstB_big {l : List UInt8} (h : ¬ l.length < 5) (h0 : byteN l 0 = 82) (h1 : 4096 < saysN l) : firstB l = none := by
  unfold firstB; rw [if_neg h, if_neg (by omega), if_pos h1]
theorem firstB_more {l : List UInt8} (h : ¬ l.length < 5) (h0 : byteN l 0 = 82) (h1 : ¬ 4096 < saysN l) (h2 : l.length - 5 < saysN l) : firstB l = none := by
  unfold firstB; rw [if_neg h, if_neg (by omega), if_neg h1, if_pos h2]
theorem firstB_sum {l : List UInt8} (h : ¬ l.length < 5) (h0 : byteN l 0 = 82) (h1 : ¬ 4096 < saysN l) (h2 : ¬ l.length - 5 < saysN l) (h3 : sumN ((l.drop 5).take (saysN l)) ≠ 256 * byteN l 3 + byteN l 4) : firstB l = none := by
  unfold firstB; rw [if_neg h, if_neg (by omega), if_neg h1, if_neg h2, if_pos h3]
theorem firstB_some {l : List UInt8} (h : ¬ l.length < 5) (h0 : byteN l 0 = 82) (h1 : ¬ 4096 < saysN l) (h2 : ¬ l.length - 5 < saysN l) (h3 : sumN ((l.drop 5).take (saysN l)) = 256 * byteN l 3 + byteN l 4) : firstB l = some ((l.drop 5).take (saysN l)) := by
  unfold firstB; rw [if_neg h, if_neg (by omega), if_neg h1, if_neg h2, if_neg (by omega)]

theorem BRow.at {w : World} {A : Addr} {l c : Nat} {bs : List UInt8} (h : BRow w (.slice (some A) l c) bs) {i : Nat} (hi : i < bs.length) : w.cell? (A.add i) = some (.int .u8 (byteN bs i : Nat)) := by
  obtain ⟨a, c', h1, _, _, _, hx⟩ := h
  injection h1 with h1
  subst h1
  obtain ⟨A', e1, e2⟩ := hx i bs[i] (List.getElem?_eq_getElem hi)
  injection e1 with e1
  rw [e1, e2]
  simp [byteN, List.getD, List.getElem?_eq_getElem hi]

theorem BRow.drewN {w : World} {v : Value} {bs : List UInt8} (h : BRow w v bs) (n : Nat) : BRow (w.drewN n) v bs := h

/-- What 'first' answers. -/
def FirstPost (w : World) (bs : List UInt8) (e : Ending) (w' : World) : Prop :=
  e = .returned (.tuple #[.string (strB ((firstB bs).getD [])), .bool (firstB bs).isSome]) ∧ ∃ n, w' = w.drewN n

theorem FirstPost.none {w w' : World} {bs : List UInt8} (h : firstB bs = none) (hw : ∃ n, w' = w.drewN n) : FirstPost w bs (.returned (.tuple #[.string ⟨#[]⟩, .bool false])) w' := ⟨by rw [h]; rfl, hw⟩

set_option maxHeartbeats 2000000 in
theorem first_calls (w : World) (v : Value) (bs : List UInt8) (h : BRow w v bs) : Calls Try.prog 19 #[v] w (FirstPost w bs) := by
  obtain ⟨a, c, rfl, hc, hcm⟩ := h.len
  have H := Lib.hid h
  obtain ⟨l, hl⟩ : ∃ l, bs.length = l := ⟨_, rfl⟩
  have Hl := Lib.hid hl
  rw [hl] at hc ⊢
  unfold maxLen at hcm
  by_cases h5 : l < 5
  · have hn := Lib.hid (firstB_short (l := bs) (by rw [hl]; exact h5))
    clear hl h
    go_enter Try.func19, Try.ntmps19
    go_wp2
    go_ret2
    exact FirstPost.none hn.out ⟨0, rfl⟩
  obtain ⟨A, rfl⟩ : ∃ A, a = some A := by
    obtain ⟨a', c', e1, _, _, _, hx⟩ := h
    injection e1 with e1
    subst e1
    obtain ⟨A, e2, _⟩ := hx 0 bs[0] (List.getElem?_eq_getElem (by omega))
    exact ⟨A, e2⟩
  rw [hl] at h
  have h50 : ¬ bs.length < 5 := by omega
  have H50 := Lib.hid h50
  have k0 : w.cell? A = some (.int .u8 (byteN bs 0 : Nat)) := by have h1 := h.at (i := 0) (by omega); rwa [Addr.add_zero'] at h1
  have hx0 := byteN_lt bs 0
  by_cases h82 : byteN bs 0 = 82
  rotate_left
  · have hn := Lib.hid (firstB_mark h50 h82)
    have ht : ((byteN bs 0 : Int) != 82) = true := by rw [bne_iff_ne]; omega
    obtain ⟨x0, hx⟩ : ∃ x0, x0 = byteN bs 0 := ⟨_, rfl⟩
    rw [← hx] at k0 ht hx0
    clear hl h h82 h50 hx
    have hi0 : (0 : Int) < l := by omega
    go_enter Try.func19, Try.ntmps19
    go_wp2
    go_ret2
    exact FirstPost.none hn.out ⟨0, rfl⟩
  have H82 := Lib.hid h82
  rw [h82] at k0
  have hs1 : ∀ W : World, (Instr.slice 22 (.slice (some A) l c) (some (.int .i64 1)) none none).run Try.prog W = .ok (.slice (some ⟨A.block, A.off + 1, none⟩) (l - 1) (c - 1)) W := fun W => by
    rw [run_slice_l (P := Try.prog) W 22 _ l c (by kernel_rfl) .i64 1 (by omega) (by omega), show Try.prog.elem 22 = 5 by kernel_rfl, show (sizeOf 5).run Try.prog W = .ok 1 W by kernel_rfl]
    have : c ≠ 1 := by omega
    simp [Result.andThen, sliced, this, Addr.add]
  have hs3 : ∀ W : World, (Instr.slice 22 (.slice (some A) l c) (some (.int .i64 3)) none none).run Try.prog W = .ok (.slice (some ⟨A.block, A.off + 3, none⟩) (l - 3) (c - 3)) W := fun W => by
    rw [run_slice_l (P := Try.prog) W 22 _ l c (by kernel_rfl) .i64 3 (by omega) (by omega), show Try.prog.elem 22 = 5 by kernel_rfl, show (sizeOf 5).run Try.prog W = .ok 1 W by kernel_rfl]
    have : c ≠ 3 := by omega
    simp [Result.andThen, sliced, this, Addr.add]
  have hadd : ∀ i, A.add (i + 1) = ⟨A.block, A.off + (i + 1), none⟩ := fun i => rfl
  have k1 : w.cell? ⟨A.block, A.off + 1, none⟩ = some (.int .u8 (byteN bs 1 : Nat)) := h.at (i := 1) (by omega)
  have k2 : w.cell? ⟨A.block, A.off + 1 + 1, none⟩ = some (.int .u8 (byteN bs 2 : Nat)) := h.at (i := 2) (by omega)
  have k3 : w.cell? ⟨A.block, A.off + 3, none⟩ = some (.int .u8 (byteN bs 3 : Nat)) := h.at (i := 3) (by omega)
  have k4 : w.cell? ⟨A.block, A.off + 3 + 1, none⟩ = some (.int .u8 (byteN bs 4 : Nat)) := h.at (i := 4) (by omega)
  have hp1 := pair_calls w A.block (A.off + 1) (l - 1) (c - 1) _ _ (by omega) k1 k2 (byteN_lt bs 1) (byteN_lt bs 2)
  have hp3 : ∀ n : Nat, Calls Try.prog 22 #[.slice (some ⟨A.block, A.off + 3, none⟩) (l - 3) (c - 3)] (w.drewN n) fun e w' => e = .returned (.int .i64 (256 * byteN bs 3 + byteN bs 4 : Nat)) ∧ ∃ m, w' = (w.drewN n).drewN m :=
    fun n => pair_calls (w.drewN n) A.block (A.off + 3) (l - 3) (c - 3) _ _ (by omega) k3 k4 (byteN_lt bs 3) (byteN_lt bs 4)
  have hsays : saysN bs = 256 * byteN bs 1 + byteN bs 2 := rfl
  have hsl : 256 * byteN bs 1 + byteN bs 2 < 65536 := by have := byteN_lt bs 1; have := byteN_lt bs 2; omega
  rw [← hsays] at hp1 hsl
  obtain ⟨q, hq⟩ : ∃ q, saysN bs = q := ⟨_, rfl⟩
  rw [hq] at hp1 hsl
  have Hsays := Lib.hid hq
  have HP3 := Lib.hid hp3
  have hi0 : (0 : Int) < l := by omega
  clear k1 k2 k3 k4 hadd h82 hp3 h hl h50 hx0 hq hsays
  go_enter Try.func19, Try.ntmps19
  go_wp2_with fail
  refine hp1.mono ?_
  rintro e w1 ⟨rfl, hd1⟩
  have HD1 := Lib.hid hd1
  by_cases hbig : 4096 < q
  · have hn := Lib.hid (firstB_big H50.out H82.out (by rw [Hsays.out]; exact hbig))
    have hd2 : decide ((4096 : Int) < (q : Int)) = true := by simp; omega
    clear hd1
    go_wp2_with fail
    go_ret2
    exact FirstPost.none hn.out HD1.out
  have hd2 : decide ((4096 : Int) < (q : Int)) = false := by simp; omega
  by_cases hmore : l - 5 < q
  · have hn := Lib.hid (firstB_more H50.out H82.out (by rw [Hsays.out]; exact hbig) (by rw [Hsays.out, Hl.out]; exact hmore))
    clear hd1
    go_wp2_with fail
    go_ret2
    exact FirstPost.none hn.out HD1.out
  have hm5 : 5 + q ≤ bs.length := by rw [Hl.out]; omega
  obtain ⟨v5, hv5, hb5⟩ := H.out.cut (k := 5) (m := 5 + q) (by omega) hm5
  rw [show 5 + q - 5 = q by omega] at hb5
  have hv5' : ∀ W : World, (Instr.slice 22 (.slice (some A) l c) (some (.int .i64 5)) (some (.int .i64 (5 + (q : Int)))) none).run Try.prog W = .ok v5 W := fun W => by
    have h1 := hv5 W
    rwa [show ((5 + q : Nat) : Int) = 5 + (q : Int) by omega, Hl.out] at h1
  obtain ⟨r, hr⟩ : ∃ r, (bs.drop 5).take q = r := ⟨_, rfl⟩
  rw [hr] at hb5
  have Hr := Lib.hid hr
  have hcv : (convert 22 9 v5).run Try.prog w1 = .ok (.string (strB r)) w1 := by
    refine conv_brow ?_
    obtain ⟨n, rfl⟩ := hd1
    exact hb5.drewN n
  have hrl : r.length ≤ q := by rw [← hr]; exact List.length_take_le _ _
  have hsum : ∀ W, Calls Try.prog 12 #[.string (strB r)] W fun e w' => e = .returned (.int .i64 (sumN r)) ∧ W = w' := fun W => by
    have h1 := sum_calls (strB r) W (by rw [strB_size]; unfold maxLen; omega)
    rwa [strB_list] at h1
  have hp3 : ∀ n, Calls Try.prog 22 #[.slice (some ⟨A.block, A.off + 3, none⟩) (l - 3) (c - 3)] (w1.drewN n) fun e w' => e = .returned (.int .i64 (256 * byteN bs 3 + byteN bs 4 : Nat)) ∧ ∃ m, w' = (w1.drewN n).drewN m := fun n => by
    obtain ⟨n1, rfl⟩ := hd1
    have h1 := HP3.out (n1 + n)
    rwa [← World.drewN_drewN] at h1
  obtain ⟨sm, hsm⟩ : ∃ sm, 256 * byteN bs 3 + byteN bs 4 = sm := ⟨_, rfl⟩
  rw [hsm] at hp3
  have Hsm := Lib.hid hsm
  obtain ⟨sr, hsr⟩ : ∃ sr, sumN r = sr := ⟨_, rfl⟩
  rw [hsr] at hsum
  have Hsr := Lib.hid hsr
  have hd3 : decide ((l : Int) - 5 < (q : Int)) = false := by simp; omega
  have hsr1 : sumN ((bs.drop 5).take (saysN bs)) = sr := by rw [Hsays.out, Hr.out, Hsr.out]
  have hb1 : ¬ 4096 < saysN bs := by rw [Hsays.out]; exact hbig
  have hb2 : ¬ bs.length - 5 < saysN bs := by rw [Hsays.out, Hl.out]; exact hmore
  by_cases heq : sr = sm
  · have hn := firstB_some H50.out H82.out hb1 hb2 (by rw [hsr1, Hsm.out]; exact heq)
    rw [Hsays.out, Hr.out] at hn
    have Hn := Lib.hid hn
    have ht : ((sr : Int) != (sm : Int)) = false := by rw [bne_eq_false_iff_eq]; omega
    clear hd1 hv5 hb5 hr hsm hsr hm5 hsr1 hb1 hb2 hn heq
    go_wp2_with fail
    go_quiet ((first | (go_at_call 12; refine (hsum _).mono ?_; rintro e w' ⟨he, rfl⟩; exact ⟨he, _, rfl⟩) | (go_at_call 22; refine (hp3 _).mono ?_; rintro e w' ⟨he, m, rfl⟩; exact ⟨he, _, World.drewN_drewN _ _ _⟩)))
    go_wp2
    go_ret2
    refine ⟨?_, ?_⟩
    · rw [Hn.out]; rfl
    · obtain ⟨n, e⟩ := HD1.out
      rw [e]
      exact ⟨_, World.drewN_drewN _ _ _⟩
  · have hn := Lib.hid (firstB_sum H50.out H82.out hb1 hb2 (by rw [hsr1, Hsm.out]; exact heq))
    have ht : ((sr : Int) != (sm : Int)) = true := by rw [bne_iff_ne]; omega
    clear hd1 hv5 hb5 hr hsm hsr hm5 hsr1 hb1 hb2 heq
    go_wp2_with fail
    go_quiet ((first | (go_at_call 12; refine (hsum _).mono ?_; rintro e w' ⟨he, rfl⟩; exact ⟨he, _, rfl⟩) | (go_at_call 22; refine (hp3 _).mono ?_; rintro e w' ⟨he, m, rfl⟩; exact ⟨he, _, World.drewN_drewN _ _ _⟩)))
    go_wp2
    go_ret2
    refine FirstPost.none hn.out ?_
    obtain ⟨n, e⟩ := HD1.out
    rw [e]
    exact ⟨_, World.drewN_drewN _ _ _⟩

end Go.Proofs.Ytmecpgnmeefpjaa
