/- The document's own device: Append of a new file; Append in one word. | The document's own device: Append in one word. | The document's own device: put and without, in plain words. | Both devices: what they agree on, and that each call keeps it, in plain words. | Both devices: Remove, Sync, Read, New keep what they agree on. | Both devices: how many files, how many bytes, which names. | Great, with what it says of each op's bytes. | Both devices: a crash keeps what they agree on. | A journal: a device and what it holds as a list; each call on it in plain words. -/
import Derived.Test.YtdpbnacabinlgaaGreatDoorM7
namespace Go.Proofs.YtdpbnacabinlgaaGreatDoor
open Go.RowKit Go.Lib Go.Maps Go.ChangeMaps Go.Sort

section
variable {w w' : World} {d o : Owner} {rb n lc : Nat} {la : Option Addr} {gv : Value} {r : RDm}

set_option maxHeartbeats 4000000 in
set_option maxRecDepth 100000 in
theorem RD.appendn_many (h : RD w d o rb n r) (hn : n ≤ 1000000) (hd : isOff r = false) {s : ByteArray} (hs : s.size ≤ maxLen) (hk : nameOk s.data.toList = true) (hf : findI r.L s.data.toList = -1) (ba : Option Addr) (bc : Nat) {bl : Nat} (_hbl : bl ≤ 1000000000000) (hm : 64 ≤ r.L.length) :
    Calls Tryz.prog 68 #[.pointer (some ⟨rb, 0, none⟩), .string s, .slice ba bl bc] w (RPost w d o rb n (powerR r, 2)) := by
  have hpw := h.power
  rw [hd] at hpw
  have HP := Lib.hid hpw
  have HN : Hid (∀ w, Calls Tryz.prog 40 #[.string s] w fun e w' => e = .returned (.bool true) ∧ w = w') := fun w => by rw [← hk]; exact rname_calls s w hs
  have HF := Lib.hid hf
  clear h hd hpw hk hf
  go_enter Tryz.func68, Tryz.ntmps68
  go_wp2_with fail
  refine HP.out.mono ?_
  rintro e w1 ⟨rfl, h1, st1⟩
  have ST1 := Lib.hid st1
  have H1 := Lib.hid h1
  obtain ⟨la, lc, gv, h2⟩ := h1
  have b0 : w1.cell? ⟨rb, 0, none⟩ = some (.slice la r.L.length lc) := h2.c0
  have hcnt : r.L.length + r.Gone.length ≤ n := h2.cnt
  have hd3 : decide ((64 : Int) ≤ (r.L.length : Int)) = true := by simp; omega
  have HBL := Lib.hid ((Below.refl w1.heap.size w1).alloc (Nat.le_refl _) (.cells #[.string s, .slice none 0 0, .int .i64 0, .bool false] 87))
  have d0 := (HBL.out.cell (p := ⟨rb, 0, none⟩) (World.block_lt_of_cell? _ _ b0)).trans b0
  have hfc := rfind_calls w1 _ la lc r.L s h2.rowL (by omega)
  rw [HF.out] at hfc
  have HFC := Lib.hid hfc
  clear h2 hfc st1
  go_wp2_with fail
  refine (HN.out w1).mono ?_
  rintro e w2 ⟨rfl, rfl⟩
  go_wp2_with fail
  refine HFC.out.mono ?_
  rintro e w2 ⟨rfl, rfl⟩
  go_wp2_with fail
  go_ret
  exact ⟨rfl, o, H1.out.below HBL.out, ST1.out.trans (RStep.below HBL.out)⟩

set_option maxHeartbeats 4000000 in
set_option maxRecDepth 100000 in
theorem RD.appendn_long (h : RD w d o rb n r) (_hn : n ≤ 1000000) (hd : isOff r = false) {s : ByteArray} (hs : s.size ≤ maxLen) (hk : nameOk s.data.toList = true) (hf : findI r.L s.data.toList = -1) (ba : Option Addr) (bc : Nat) {bl : Nat} (hbl : bl ≤ 1000000000000) (hm : r.L.length < 64) (hm2 : 262144 < bl) :
    Calls Tryz.prog 68 #[.pointer (some ⟨rb, 0, none⟩), .string s, .slice ba bl bc] w (RPost w d o rb n (powerR r, 2)) := by
  have hpw := h.power
  rw [hd] at hpw
  have HP := Lib.hid hpw
  have HN : Hid (∀ w, Calls Tryz.prog 40 #[.string s] w fun e w' => e = .returned (.bool true) ∧ w = w') := fun w => by rw [← hk]; exact rname_calls s w hs
  have HF := Lib.hid hf
  clear h hd hpw hk hf
  go_enter Tryz.func68, Tryz.ntmps68
  go_wp2_with fail
  refine HP.out.mono ?_
  rintro e w1 ⟨rfl, h1, st1⟩
  have ST1 := Lib.hid st1
  have H1 := Lib.hid h1
  obtain ⟨la, lc, gv, h2⟩ := h1
  have b0 : w1.cell? ⟨rb, 0, none⟩ = some (.slice la r.L.length lc) := h2.c0
  have hcnt : r.L.length + r.Gone.length ≤ n := h2.cnt
  have hd1 : decide ((262144 : Int) < (bl : Int)) = true := by simp; omega
  have hd3 : decide ((64 : Int) ≤ (r.L.length : Int)) = false := by simp; omega
  have HBL := Lib.hid ((Below.refl w1.heap.size w1).alloc (Nat.le_refl _) (.cells #[.string s, .slice none 0 0, .int .i64 0, .bool false] 87))
  have d0 := (HBL.out.cell (p := ⟨rb, 0, none⟩) (World.block_lt_of_cell? _ _ b0)).trans b0
  have hfc := rfind_calls w1 _ la lc r.L s h2.rowL (by omega)
  rw [HF.out] at hfc
  have HFC := Lib.hid hfc
  clear h2 hfc st1
  go_wp2_with fail
  refine (HN.out w1).mono ?_
  rintro e w2 ⟨rfl, rfl⟩
  go_wp2_with fail
  refine HFC.out.mono ?_
  rintro e w2 ⟨rfl, rfl⟩
  go_wp2_with fail
  go_ret
  exact ⟨rfl, o, H1.out.below HBL.out, ST1.out.trans (RStep.below HBL.out)⟩

set_option maxHeartbeats 4000000 in
set_option maxRecDepth 100000 in
theorem RD.appendn_full (h : RD w d o rb n r) (_hn : n ≤ 1000000) (hd : isOff r = false) {s : ByteArray} (hs : s.size ≤ maxLen) (hk : nameOk s.data.toList = true) (hf : findI r.L s.data.toList = -1) (ba : Option Addr) (bc : Nat) {bl : Nat} (hbl : bl ≤ 1000000000000) (hm : r.L.length < 64) (hm2 : bl ≤ 262144) (hu : r.room < (usedL r.L : Int) + (bl : Int)) :
    Calls Tryz.prog 68 #[.pointer (some ⟨rb, 0, none⟩), .string s, .slice ba bl bc] w (RPost w d o rb n (powerR r, 11)) := by
  have hpw := h.power
  rw [hd] at hpw
  have HP := Lib.hid hpw
  have HN : Hid (∀ w, Calls Tryz.prog 40 #[.string s] w fun e w' => e = .returned (.bool true) ∧ w = w') := fun w => by rw [← hk]; exact rname_calls s w hs
  have HF := Lib.hid hf
  clear h hd hpw hk hf
  go_enter Tryz.func68, Tryz.ntmps68
  go_wp2_with fail
  refine HP.out.mono ?_
  rintro e w1 ⟨rfl, h1, st1⟩
  have ST1 := Lib.hid st1
  have H1 := Lib.hid h1
  obtain ⟨la, lc, gv, h2⟩ := h1
  have b0 : w1.cell? ⟨rb, 0, none⟩ = some (.slice la r.L.length lc) := h2.c0
  have hcnt : r.L.length + r.Gone.length ≤ n := h2.cnt
  have hd1 : decide ((262144 : Int) < (bl : Int)) = false := by simp; omega
  have hd3 : decide ((64 : Int) ≤ (r.L.length : Int)) = false := by simp; omega
  have HBL := Lib.hid ((Below.refl w1.heap.size w1).alloc (Nat.le_refl _) (.cells #[.string s, .slice none 0 0, .int .i64 0, .bool false] 87))
  have d0 := (HBL.out.cell (p := ⟨rb, 0, none⟩) (World.block_lt_of_cell? _ _ b0)).trans b0
  have hfc := rfind_calls w1 _ la lc r.L s h2.rowL (by omega)
  rw [HF.out] at hfc
  have HFC := Lib.hid hfc
  have hul := usedL_le h2.rowL
  have hul2 : usedL r.L ≤ 262144000000 := by show usedL (powerR r).L ≤ _; have h9 : (powerR r).L.length = r.L.length := rfl; omega
  have HU : Hid (∀ W, Below w1.heap.size w1 W → Calls Tryz.prog 58 #[.pointer (some ⟨rb, 0, none⟩)] W fun e w' => e = .returned (.int .i64 (usedL r.L : Nat)) ∧ w' = W) := fun W hW => (rused_calls W (both d o) rb la lc r.L (h2.rowL.below hW) ((hW.cell (p := ⟨rb, 0, none⟩) (World.block_lt_of_cell? _ _ b0)).trans b0) (by omega)).mono fun _ _ ⟨h8, h9⟩ => ⟨h8, h9.symm⟩
  have b2 : w1.cell? ⟨rb, 2, none⟩ = some (.int .i64 r.room) := h2.c2
  have d2 := (HBL.out.cell (p := ⟨rb, 2, none⟩) (World.block_lt_of_cell? _ _ b2)).trans b2
  have hrr := h2.rroom
  obtain ⟨u, hue⟩ : ∃ u, usedL r.L = u := ⟨_, rfl⟩
  rw [hue] at hu HU hul2
  have hd2 : decide (r.room < (u : Int) + (bl : Int)) = true := by simpa using hu
  clear hul hue
  clear h2 hfc st1
  go_wp2_with fail
  refine (HN.out w1).mono ?_
  rintro e w2 ⟨rfl, rfl⟩
  go_wp2_with fail
  refine HFC.out.mono ?_
  rintro e w2 ⟨rfl, rfl⟩
  go_wp2_with fail
  go_quiet ((go_at_call 58; refine Calls.quiet_of_same (HU.out _ (below_drewN HBL.out _))))
  go_wp2_with fail
  go_ret
  exact ⟨rfl, o, H1.out.below (below_drewN HBL.out _), ST1.out.trans (RStep.below (below_drewN HBL.out _))⟩

set_option maxHeartbeats 4000000 in
set_option maxRecDepth 100000 in
theorem RD.appendn_ok (h : RD w d o rb n r) (_hn : n ≤ 1000000) (hd : isOff r = false) {s : ByteArray} (hs : s.size ≤ maxLen) (hk : nameOk s.data.toList = true) (hf : findI r.L s.data.toList = -1) (ba : Option Addr) (bc : Nat) {bl : Nat} (hbl : bl ≤ 1000000000000) (hm : r.L.length < 64) (hm2 : bl ≤ 262144) (hu : ¬ r.room < (usedL r.L : Int) + (bl : Int)) (hac : r.acts ≤ 1000000000000) {bs : List UInt8} (hb : BArg w (both d o) (.slice ba bl bc) bs) (hbe : bs.length = bl) :
    Calls Tryz.prog 68 #[.pointer (some ⟨rb, 0, none⟩), .string s, .slice ba bl bc] w (AppPost w d o rb (n + 1) r ⟨s, none, 0, [], 0, false⟩ bs) := by
  have hpw := h.power
  rw [hd] at hpw
  have HP := Lib.hid hpw
  have HN : Hid (∀ w, Calls Tryz.prog 40 #[.string s] w fun e w' => e = .returned (.bool true) ∧ w = w') := fun w => by rw [← hk]; exact rname_calls s w hs
  have HF := Lib.hid hf
  have HBS := Lib.hid hb
  have Hbe := Lib.hid hbe
  have HL := Lib.hid (isOff_left hd)
  clear hb hbe
  clear h hd hpw hk hf
  go_enter Tryz.func68, Tryz.ntmps68
  go_wp2_with fail
  refine HP.out.mono ?_
  rintro e w1 ⟨rfl, h1, st1⟩
  have ST1 := Lib.hid st1
  have H1 := Lib.hid h1
  obtain ⟨la, lc, gv, h2⟩ := h1
  have b0 : w1.cell? ⟨rb, 0, none⟩ = some (.slice la r.L.length lc) := h2.c0
  have hcnt : r.L.length + r.Gone.length ≤ n := h2.cnt
  have hd1 : decide ((262144 : Int) < (bl : Int)) = false := by simp; omega
  have hd3 : decide ((64 : Int) ≤ (r.L.length : Int)) = false := by simp; omega
  have HBL := Lib.hid ((Below.refl w1.heap.size w1).alloc (Nat.le_refl _) (.cells #[.string s, .slice none 0 0, .int .i64 0, .bool false] 87))
  have d0 := (HBL.out.cell (p := ⟨rb, 0, none⟩) (World.block_lt_of_cell? _ _ b0)).trans b0
  have hfc := rfind_calls w1 _ la lc r.L s h2.rowL (by omega)
  rw [HF.out] at hfc
  have HFC := Lib.hid hfc
  have hul := usedL_le h2.rowL
  have hul2 : usedL r.L ≤ 262144000000 := by show usedL (powerR r).L ≤ _; have h9 : (powerR r).L.length = r.L.length := rfl; omega
  have HU : Hid (∀ W, Below w1.heap.size w1 W → Calls Tryz.prog 58 #[.pointer (some ⟨rb, 0, none⟩)] W fun e w' => e = .returned (.int .i64 (usedL r.L : Nat)) ∧ w' = W) := fun W hW => (rused_calls W (both d o) rb la lc r.L (h2.rowL.below hW) ((hW.cell (p := ⟨rb, 0, none⟩) (World.block_lt_of_cell? _ _ b0)).trans b0) (by omega)).mono fun _ _ ⟨h8, h9⟩ => ⟨h8, h9.symm⟩
  have b2 : w1.cell? ⟨rb, 2, none⟩ = some (.int .i64 r.room) := h2.c2
  have d2 := (HBL.out.cell (p := ⟨rb, 2, none⟩) (World.block_lt_of_cell? _ _ b2)).trans b2
  have hrr := h2.rroom
  obtain ⟨u, hue⟩ : ∃ u, usedL r.L = u := ⟨_, rfl⟩
  rw [hue] at hu HU hul2
  have hd2 : decide (r.room < (u : Int) + (bl : Int)) = false := by simpa using hu
  clear hul hue
  have H2 := Lib.hid h2
  clear h2 hfc st1
  go_wp2_with fail
  refine (HN.out w1).mono ?_
  rintro e w2 ⟨rfl, rfl⟩
  go_wp2_with fail
  refine HFC.out.mono ?_
  rintro e w2 ⟨rfl, rfl⟩
  go_wp2_with fail
  go_quiet ((go_at_call 58; refine Calls.quiet_of_same (HU.out _ (below_drewN HBL.out _))))
  obtain ⟨w4, hw4⟩ : ∃ w4, w4 = (w1.alloc (.cells #[.string s, .slice none 0 0, .int .i64 0, .bool false] 87)).drewN nq := ⟨_, rfl⟩
  rw [← hw4]
  have HB4 : Hid (Below w1.heap.size w1 w4) := by rw [hw4]; exact below_drewN HBL.out _
  have HX4 : Hid (w4.heap[w1.heap.size]? = some (.cells #[.string s, .slice none 0 0, .int .i64 0, .bool false] 87 (0, 0))) := by rw [hw4]; exact heap_alloc_new w1 _
  have Hlt4 : Hid (w1.heap.size < w4.heap.size) := (Array.getElem?_eq_some_iff.1 HX4.out).1
  have HB5 := Lib.hid ((Below.refl w4.heap.size w4).alloc (Nat.le_refl _) (.cells #[] 5))
  have x1 : w4.cell? ⟨w1.heap.size, 1, none⟩ = some (.slice none 0 0) := cell_of_blk HX4.out rfl
  have x2 := (HB5.out.cell (p := ⟨w1.heap.size, 1, none⟩) Hlt4.out).trans x1
  have HO5 := Lib.hid (hown_empty w4)
  have HBF := Lib.hid ((Or.inl ⟨rfl, rfl⟩ : BArg (w4.alloc (.cells #[] 5)) (both d o) (.slice none 0 0) []))
  clear hw4 d0 d2 b2
  go_wp2_with (first
    | (at_builtin; refine wpList_append_bargB rfl (.tmp 63) (.tmp 65) rfl HBF.out HO5.out (by simp) (by simp) rfl rfl ?_; intro a6 c6 w6 hown6 hgrow6; have HB6 := Lib.hid (((Below.refl w4.heap.size w4).alloc (Nat.le_refl _) (.cells #[] 5)).grown hgrow6 (by simp) (fun k hk => by simp [Value.ownBlock] at hk; omega)); (simp only [List.length_nil, Nat.add_zero, List.nil_append] at hown6); have HO6 := Lib.hid hown6; have HBB := Lib.hid (((HBS.out.step (ST1.out.both d)).step (below_step _ HB4.out)).step (below_step _ HB6.out)); clear hown6 hgrow6 HBF HO5 x1 x2)
    | (at_builtin; refine wpList_append_bargB rfl (.tmp 66) (.tmp 67) rfl HBB.out HO6.out HB6.out.size (by rw [Hbe.out]; omega) rfl rfl ?_; intro a7 c7 w7 hown7 hgrow7; have HB7 := Lib.hid (HB6.out.grown hgrow7 HB6.out.size (fun q hq => (HO6.out.lt q hq).1)); (simp only [Nat.zero_add, byteCells, List.map_nil, List.nil_append] at hown7); have HO7 := Lib.hid hown7; have x3 : w7.cell? ⟨w1.heap.size, 1, none⟩ = some (.slice none 0 0) := (HB7.out.cell (p := ⟨w1.heap.size, 1, none⟩) Hlt4.out).trans (cell_of_blk HX4.out rfl); have x4 : w7.frozen? ⟨w1.heap.size, 1, none⟩ = false := frozen_of_blk ((HB7.out.block _ Hlt4.out).trans HX4.out); clear hown7 hgrow7 HBB HO6 HB6))
  obtain ⟨W8, hW8⟩ : ∃ W8, W8 = w7.setCell ⟨w1.heap.size, 1, none⟩ (.slice a7 (bs.length) c7) := ⟨_, rfl⟩
  rw [← hW8]
  have hB7 : Below w1.heap.size w1 w7 := HB4.out.trans (HB7.out.mono (Nat.le_of_lt Hlt4.out))
  have HB8 : Hid (Below w1.heap.size w1 W8) := by
    rw [hW8]
    exact hB7.trans (((Fr.refl (fun b => b = w1.heap.size) w7).setCell _ _ (fun _ => rfl)).to_below hB7.size (fun k hk e => by omega))
  have hblk : W8.heap[w1.heap.size]? = some (.cells #[.string s, .slice a7 (bs.length) c7, .int .i64 0, .bool false] 87 (0, 0)) := by
    rw [hW8]
    exact setCell_blk ((HB7.out.block _ Hlt4.out).trans HX4.out) _
  have y0 : W8.cell? ⟨w1.heap.size, 0, none⟩ = some (.string s) := cell_of_blk hblk rfl
  have y1 : W8.cell? ⟨w1.heap.size, 1, none⟩ = some (.slice a7 (bs.length) c7) := cell_of_blk hblk rfl
  have y2 : W8.cell? ⟨w1.heap.size, 2, none⟩ = some (.int .i64 0) := cell_of_blk hblk rfl
  have y3 : W8.cell? ⟨w1.heap.size, 3, none⟩ = some (.bool false) := cell_of_blk hblk rfl
  have y4 := (HB8.out.cell (p := ⟨rb, 0, none⟩) (World.block_lt_of_cell? _ _ b0)).trans b0
  have hlen7 : (bs).length = bs.length := rfl
  have hrow8 : W8.ownsRow w4.heap.size 5 1 (.slice a7 (bs).length c7) (bs).length (byteCells (bs)) := by
    rw [hW8]
    exact ownsRow_of_block HO7.out (fun g hg => Below.heap_setCell _ _ _ _ (fun e => by have h8 := (HO7.out.lt g hg).1; have h9 := Hlt4.out; dsimp only at e; omega))
  have hcap8 : (bs).length ≤ c7 := by
    rcases hrow8.2 with ⟨e, h0⟩ | ⟨g, cap, cur, e, _, _, h1, _⟩
    · rw [h0]; exact Nat.zero_le _
    · injection e with _ _ e
      rw [e]; exact h1
  obtain ⟨x, hx⟩ : ∃ x, x = (⟨s, a7, c7, bs, 0, false⟩ : RF) := ⟨_, rfl⟩
  have hgx : FGood W8.drew (both d o) x := by
    rw [hx]
    have h8 : FGood W8 (both d o) ⟨s, a7, c7, bs, 0, false⟩ := ⟨hs, BArg.of_row hrow8 (fun b hb => both_none.2 (H2.out.old b (by have := Hlt4.out; omega))), hcap8, by show bs.length ≤ _; rw [Hbe.out]; exact hm2, Nat.zero_le _⟩
    exact h8.step (below_step _ (Below.refl _ _).drew)
  have hput := rput_calls W8.drew (both d o) la lc r.L x (H2.out.rowL.below HB8.out.drew) (by omega) hgx (fun b hb => both_none.2 (H2.out.old b (Nat.le_trans HB8.out.drew.size hb)))
  rw [show rfVal x = .agg #[.string s, .slice a7 (bs.length) c7, .int .i64 0, .bool false] by rw [hx]; simp [rfVal]] at hput
  have HPUT := Lib.hid hput
  have Hx := Lib.hid hx
  clear hput hgx hcap8 hrow8 hlen7 hblk hB7 hx x3 x4 HO7 hW8
  go_region_with (go_at_call 42; refine HPUT.out.mono ?_; rintro e w9 ⟨a9, c9, rfl, hr9, hb9⟩; have HB9 := Lib.hid (HB8.out.drew.trans (hb9.mono HB8.out.drew.size)); have z0 := (HB9.out.cell (p := ⟨rb, 0, none⟩) (World.block_lt_of_cell? _ _ b0)).trans b0; have z1 : w9.frozen? ⟨rb, 0, none⟩ = false := frozen_of_blk ((HB9.out.block rb (H2.out.lt (by simp [H2.out.orb]))).trans H2.out.blk); have HR9 := Lib.hid hr9; clear hr9 hb9)
  all_goals
    obtain ⟨h4, st4⟩ := H2.out.setL (n' := n + 1) HB9.out (lc' := c9) HR9.out (by have := putL_len r.L x; have h9 : (powerR r).Gone.length = r.Gone.length := rfl; omega)
    have hdid := RD.did (w := w9.setCell ⟨rb, 0, none⟩ (.slice a9 (putL r.L x).length c9)) ⟨_, _, _, h4⟩ (by show r.acts ≤ _; omega) (fun e => by have h5 := HL.out e; have h6 := H2.out.rleft; show 0 < (powerR r).left; omega)
    have HD := Lib.hid hdid
    have ST5 := Lib.hid st4
    clear h4 st4 hdid
    go_wp2_with fail
    refine HD.out.mono ?_
    rintro e w5 ⟨rfl, h5, st5⟩
    have H5 := Lib.hid h5
    clear h5
    go_wp2_with fail
    go_ret
    exact ⟨a7, c7, rfl, o, by rw [← Hx.out]; exact H5.out, (ST1.out.trans ST5.out).trans st5⟩
end

end Go.Proofs.YtdpbnacabinlgaaGreatDoor
namespace Go.Proofs.YtdpbnacabinlgaaGreatDoor
open Go.RowKit Go.Lib Go.Maps Go.ChangeMaps Go.Sort

/-- The file of a name, as Append finds it. -/
def fileR (r : RDm) (s : ByteArray) : RF := (r.L.find? (fun f => f.nm == s.data.toList)).getD ⟨s, none, 0, [], 0, false⟩
/-- Is it too much? -/
def tooR (r : RDm) (nm : List UInt8) (bl : Nat) : Prop := (r.L.find? (fun f => f.nm == nm) = none ∧ 64 ≤ r.L.length) ∨ 262144 < ((r.L.find? (fun f => f.nm == nm)).map (·.data.length)).getD 0 + bl
instance (r : RDm) (nm : List UInt8) (bl : Nat) : Decidable (tooR r nm bl) := by unfold tooR; exact inferInstance
/-- What Append answers, and what the device is then; x: the file with its new bytes. -/
def appendR (r : RDm) (nm : List UInt8) (bl : Nat) (x : RF) : RDm × Int :=
  if isOff r then (powerR r, 13)
  else if nameOk nm = false then (powerR r, 1)
  else if tooR r nm bl then (powerR r, 2)
  else if r.room < (usedL r.L : Int) + (bl : Int) then (powerR r, 11)
  else (didR { powerR r with L := putL r.L x }, 0)

/-- A file with other bytes, wherever they lie. -/
structure Grown (f : RF) (bs : List UInt8) (x : RF) : Prop where
  name : x.name = f.name
  data : x.data = f.data ++ bs
  done : x.done = f.done
  there : x.there = f.there

section
variable {w w' : World} {d o : Owner} {rb n lc : Nat} {la : Option Addr} {gv : Value} {r : RDm}

theorem RD.append (h : RD w d o rb n r) (hn : n ≤ 1000000) (hac : r.acts ≤ 1000000000000) {s : ByteArray} (hs : s.size ≤ maxLen) {bv : Value} {bs : List UInt8} (hb : BArg w (both d o) bv bs) (hbl : bs.length ≤ 1000000000000) :
    Calls Tryz.prog 68 #[.pointer (some ⟨rb, 0, none⟩), .string s, bv] w fun e w' => ∃ x, Grown (fileR r s) bs x ∧ RPost w d o rb (n + 1) (appendR r s.data.toList bs.length x) e w' := by
  have up : ∀ {y : RDm × Int} {e : Ending} {w' : World}, RPost w d o rb n y e w' → RPost w d o rb (n + 1) y e w' := fun ⟨h1, o', h2, h3⟩ => ⟨h1, o', h2.mono (Nat.le_succ _), h3⟩
  obtain ⟨ba, bc, rfl⟩ := hb.len
  have any : Grown (fileR r s) bs { fileR r s with data := (fileR r s).data ++ bs } := ⟨rfl, rfl, rfl, rfl⟩
  cases hd : isOff r with
  | true =>
    refine (h.append_off hd s _).mono fun e w' hp => ⟨_, any, ?_⟩
    unfold appendR
    rw [if_pos hd]
    exact up hp
  | false =>
  have hd' : ¬ isOff r = true := by rw [hd]; simp
  cases hk : nameOk s.data.toList with
  | false =>
    refine (h.append_bad hd hs hk _).mono fun e w' hp => ⟨_, any, ?_⟩
    unfold appendR
    rw [if_neg hd', if_pos hk]
    exact up hp
  | true =>
  have hk' : ¬ nameOk s.data.toList = false := by rw [hk]; simp
  rcases findI_cases r.L s.data.toList with ⟨hf, hfi⟩ | ⟨k, f, hf, hkf, _, hfi⟩
  · have hfile : fileR r s = ⟨s, none, 0, [], 0, false⟩ := by unfold fileR; rw [hfi]; rfl
    by_cases h1 : 64 ≤ r.L.length
    · refine (h.appendn_many hn hd hs hk hf ba bc hbl h1).mono fun e w' hp => ⟨_, any, ?_⟩
      unfold appendR
      rw [if_neg hd', if_neg hk', if_pos (show tooR r s.data.toList bs.length from Or.inl ⟨hfi, h1⟩)]
      exact up hp
    by_cases h2 : 262144 < bs.length
    · refine (h.appendn_long hn hd hs hk hf ba bc hbl (by omega) h2).mono fun e w' hp => ⟨_, any, ?_⟩
      unfold appendR
      rw [if_neg hd', if_neg hk', if_pos (show tooR r s.data.toList bs.length from Or.inr (by rw [hfi]; simpa using h2))]
      exact up hp
    have h3 : ¬ tooR r s.data.toList bs.length := by
      rintro (⟨_, h4⟩ | h4)
      · exact h1 h4
      · rw [hfi] at h4
        simp at h4
        omega
    by_cases hu : r.room < (usedL r.L : Int) + (bs.length : Int)
    · refine (h.appendn_full hn hd hs hk hf ba bc hbl (by omega) (by omega) hu).mono fun e w' hp => ⟨_, any, ?_⟩
      unfold appendR
      rw [if_neg hd', if_neg hk', if_neg h3, if_pos hu]
      exact up hp
    · refine (h.appendn_ok hn hd hs hk hf ba bc hbl (by omega) (by omega) hu hac hb rfl).mono ?_
      rintro e w' ⟨da, dc, hp⟩
      refine ⟨⟨s, da, dc, bs, 0, false⟩, by rw [hfile]; exact ⟨rfl, rfl, rfl, rfl⟩, ?_⟩
      unfold appendR
      rw [if_neg hd', if_neg hk', if_neg h3, if_neg hu]
      exact hp
  · have hfile : fileR r s = f := by unfold fileR; rw [hfi]; rfl
    by_cases h2 : 262144 < f.data.length + bs.length
    · refine (h.append_many hn hd hs hk hf hkf ba bc hbl h2).mono fun e w' hp => ⟨_, any, ?_⟩
      unfold appendR
      rw [if_neg hd', if_neg hk', if_pos (show tooR r s.data.toList bs.length from Or.inr (by rw [hfi]; simpa using h2))]
      exact up hp
    have h3 : ¬ tooR r s.data.toList bs.length := by
      rintro (⟨h4, _⟩ | h4)
      · rw [hfi] at h4
        cases h4
      · rw [hfi] at h4
        simp at h4
        omega
    by_cases hu : r.room < (usedL r.L : Int) + (bs.length : Int)
    · refine (h.append_full hn hd hs hk hf hkf ba bc hbl (by omega) hu).mono fun e w' hp => ⟨_, any, ?_⟩
      unfold appendR
      rw [if_neg hd', if_neg hk', if_neg h3, if_pos hu]
      exact up hp
    · refine (h.append_ok hn hd hs hk hf hkf ba bc hbl (by omega) hu hac hb rfl).mono ?_
      rintro e w' ⟨da, dc, hp⟩
      refine ⟨⟨f.name, da, dc, f.data ++ bs, f.done, f.there⟩, by rw [hfile]; exact ⟨rfl, rfl, rfl, rfl⟩, ?_⟩
      unfold appendR
      rw [if_neg hd', if_neg hk', if_neg h3, if_neg hu]
      exact hp
end

end Go.Proofs.YtdpbnacabinlgaaGreatDoor
namespace Go.Proofs.YtdpbnacabinlgaaGreatDoor
open Go.RowKit Go.Lib Go.Maps Go.ChangeMaps Go.Sort

theorem foldl_true (x : RF) : ∀ (fs acc : List RF), fs.foldl (stepP x) (acc, true) = (acc ++ fs.filter (fun f => !(f.nm == x.nm)), true)
  | [], acc => by simp
  | f :: fs, acc => by
    rw [List.foldl_cons, stepP_keep (Or.inl rfl)]
    by_cases h : f.nm = x.nm
    · rw [if_pos h, foldl_true x fs acc, List.filter_cons_of_neg (by simp [h])]
    · rw [if_neg h, foldl_true x fs (acc ++ [f]), List.filter_cons_of_pos (by simp [h])]
      simp

theorem foldl_false (x : RF) : ∀ (fs acc : List RF), (if (fs.foldl (stepP x) (acc, false)).2 then (fs.foldl (stepP x) (acc, false)).1 else (fs.foldl (stepP x) (acc, false)).1 ++ [x]) = acc ++ (fs.takeWhile (fun f => decide (f.nm < x.nm)) ++ x :: (fs.dropWhile (fun f => decide (f.nm < x.nm))).filter (fun f => !(f.nm == x.nm)))
  | [], acc => by simp
  | f :: fs, acc => by
    rw [List.foldl_cons]
    by_cases h : f.nm < x.nm
    · have hne : ¬ f.nm = x.nm := fun e => by rw [e] at h; exact List.lt_irrefl _ h
      rw [stepP_keep (Or.inr h), if_neg hne]
      have ih := foldl_false x fs (acc ++ [f])
      rw [ih, List.takeWhile_cons_of_pos (by simpa using h), List.dropWhile_cons_of_pos (by simpa using h)]
      simp
    · rw [stepP_ins rfl h, List.takeWhile_cons_of_neg (by simpa using h), List.dropWhile_cons_of_neg (by simpa using h)]
      by_cases he : f.nm = x.nm
      · rw [if_pos he, foldl_true, List.filter_cons_of_neg (by simp [he])]
        simp
      · rw [if_neg he, foldl_true, List.filter_cons_of_pos (by simp [he])]
        simp

theorem putL_eq (fs : List RF) (x : RF) : putL fs x = fs.takeWhile (fun f => decide (f.nm < x.nm)) ++ x :: (fs.dropWhile (fun f => decide (f.nm < x.nm))).filter (fun f => !(f.nm == x.nm)) := by
  have h := foldl_false x fs []
  rw [List.nil_append] at h
  exact h

theorem find_other {fs : List RF} {nm k : List UInt8} (h : k ≠ nm) : (fs.filter (fun f => !(f.nm == nm))).find? (fun f => f.nm == k) = fs.find? (fun f => f.nm == k) := by
  rw [List.find?_filter]
  congr 1
  funext f
  by_cases e : f.nm = k
  · simp [e, h]
  · simp [e]

theorem find_withoutL_other {fs : List RF} {nm k : List UInt8} (h : k ≠ nm) : (withoutL fs nm).find? (fun f => f.nm == k) = fs.find? (fun f => f.nm == k) := find_other h
theorem find_withoutL_same (fs : List RF) (nm : List UInt8) : (withoutL fs nm).find? (fun f => f.nm == nm) = none := by
  rw [List.find?_eq_none]
  intro f hf
  have := (List.mem_filter.1 hf).2
  simpa using this

theorem find_putL_same (fs : List RF) (x : RF) : (putL fs x).find? (fun f => f.nm == x.nm) = some x := by
  rw [putL_eq, List.find?_append, List.find?_cons]
  have h1 : (fs.takeWhile (fun f => decide (f.nm < x.nm))).find? (fun f => f.nm == x.nm) = none := by
    rw [List.find?_eq_none]
    intro f hf
    have h2 := List.all_eq_true.1 (List.all_takeWhile (l := fs) (p := fun f => decide (f.nm < x.nm))) f hf
    have h3 : f.nm < x.nm := by simpa using h2
    intro e
    have e1 : f.nm = x.nm := by simpa using e
    rw [e1] at h3
    exact List.lt_irrefl _ h3
  rw [h1]
  simp

theorem find_putL_other {fs : List RF} {x : RF} {k : List UInt8} (h : k ≠ x.nm) : (putL fs x).find? (fun f => f.nm == k) = fs.find? (fun f => f.nm == k) := by
  have hx : (x.nm == k) = false := beq_eq_false_iff_ne.2 (Ne.symm h)
  rw [putL_eq, List.find?_append, List.find?_cons, hx]
  dsimp only
  rw [find_other h]
  conv => rhs; rw [← List.takeWhile_append_dropWhile (p := fun f : RF => decide (f.nm < x.nm)) (l := fs)]
  rw [List.find?_append]

/-- Names rise strictly. -/
def Rising (fs : List RF) : Prop := fs.Pairwise (fun a b => a.nm < b.nm)

theorem Rising.without {fs : List RF} (h : Rising fs) (nm : List UInt8) : Rising (withoutL fs nm) := h.sublist List.filter_sublist

theorem lt_of_not {a b : List UInt8} (h1 : ¬ a < b) (h2 : a ≠ b) : b < a := by
  rcases Decidable.em (b < a) with h | h
  · exact h
  · exact absurd (List.le_antisymm h h1) h2

theorem Rising.put {fs : List RF} (h : Rising fs) (x : RF) : Rising (putL fs x) := by
  rw [putL_eq]
  unfold Rising
  rw [List.pairwise_append, List.pairwise_cons]
  have hd : ∀ f ∈ (fs.dropWhile (fun f => decide (f.nm < x.nm))).filter (fun f => !(f.nm == x.nm)), x.nm < f.nm := by
    intro f hf
    obtain ⟨h1, h2⟩ := List.mem_filter.1 hf
    have hne : f.nm ≠ x.nm := by simpa using h2
    have hs : (fs.dropWhile (fun f => decide (f.nm < x.nm))).Pairwise (fun a b => a.nm < b.nm) := h.sublist (List.dropWhile_sublist _)
    refine lt_of_not (fun hlt => ?_) hne
    cases hdw : fs.dropWhile (fun f => decide (f.nm < x.nm)) with
    | nil => rw [hdw] at h1; cases h1
    | cons g gs =>
      have hg : ¬ g.nm < x.nm := by
        have := List.head_dropWhile_not (fun f : RF => decide (f.nm < x.nm)) (show fs.dropWhile (fun f => decide (f.nm < x.nm)) ≠ [] by rw [hdw]; simp)
        simp only [hdw, List.head_cons] at this
        simpa using this
      rw [hdw] at h1 hs
      rcases List.mem_cons.1 h1 with e | e
      · rw [e] at hlt; exact hg hlt
      · exact hg (List.lt_trans ((List.pairwise_cons.1 hs).1 f e) hlt)
  refine ⟨h.sublist (List.takeWhile_sublist _), ⟨hd, (h.sublist (List.dropWhile_sublist _)).sublist List.filter_sublist⟩, ?_⟩
  intro a ha b hb
  have h2 := List.all_eq_true.1 (List.all_takeWhile (l := fs) (p := fun f => decide (f.nm < x.nm))) a ha
  have h3 : a.nm < x.nm := by simpa using h2
  rcases List.mem_cons.1 hb with e | e
  · rw [e]; exact h3
  · exact List.lt_trans h3 (hd b e)

theorem Rising.sync {fs : List RF} (h : Rising fs) : Rising (fs.map syncF) := by
  unfold Rising
  rw [List.pairwise_map]
  exact h

theorem find_sync (fs : List RF) (k : List UInt8) : (fs.map syncF).find? (fun f => f.nm == k) = (fs.find? (fun f => f.nm == k)).map syncF := by
  rw [List.find?_map]
  rfl

end Go.Proofs.YtdpbnacabinlgaaGreatDoor
namespace Go.Proofs.YtdpbnacabinlgaaGreatDoor
open Go.RowKit Go.Lib Go.Maps Go.ChangeMaps Go.Sort

def toF (f : RF) : FileM := ⟨f.data, f.done, !f.there⟩

/-- The program's device and the document's are the same. -/
structure Agree (m : DevM) (r : RDm) : Prop where
  files : ∀ k, m.files k = (r.L.find? (fun f => f.nm == k)).map toF
  gone : ∀ k, m.gone k = (r.Gone.find? (fun f => f.nm == k)).map (fun f => f.data.take f.done)
  once : ∀ f ∈ r.Gone, ∀ g ∈ r.L, g.nm = f.nm → g.there = false
  rising : Rising r.L
  room : m.room = r.room
  acts : m.acts = r.acts
  down : m.down = r.off
  fused : r.fused = decide (0 ≤ m.fuse)
  left : r.left = max m.fuse 0

section
variable {m : DevM} {r : RDm}

theorem Agree.off (h : Agree m r) : (m.down || m.fuse == 0) = isOff r := by
  unfold isOff
  rw [h.down, h.fused, h.left]
  congr 1
  by_cases h1 : m.fuse = 0
  · rw [h1]; rfl
  · have e1 : (m.fuse == 0) = false := by simpa using h1
    rw [e1]
    by_cases h2 : 0 ≤ m.fuse
    · have e2 : (max m.fuse 0 == 0) = false := by simp; omega
      rw [e2]; simp
    · have e2 : decide (0 ≤ m.fuse) = false := by simpa using h2
      rw [e2]; rfl

theorem Agree.power (h : Agree m r) : Agree { m with down := isOff r } (powerR r) := ⟨h.files, h.gone, h.once, h.rising, h.room, h.acts, rfl, h.fused, h.left⟩

theorem Agree.did (h : Agree m r) (h0 : m.fuse ≠ 0) : Agree { m with acts := m.acts + 1, fuse := fuseLess m.fuse } (didR r) where
  files := h.files
  gone := h.gone
  once := h.once
  rising := h.rising
  room := h.room
  acts := by show m.acts + 1 = r.acts + 1; rw [h.acts]
  down := h.down
  fused := by
    show r.fused = decide (0 ≤ fuseLess m.fuse)
    rw [h.fused]
    unfold fuseLess
    split
    · have e1 : decide (0 ≤ m.fuse) = true := by simp; omega
      have e2 : decide (0 ≤ m.fuse - 1) = true := by simp; omega
      rw [e1, e2]
    · rfl
  left := by
    show (if r.fused = true then r.left - 1 else r.left) = max (fuseLess m.fuse) 0
    rw [h.fused, h.left]
    unfold fuseLess
    by_cases h1 : 0 < m.fuse
    · rw [if_pos h1, if_pos (by simp; omega)]
      omega
    · rw [if_neg h1, if_neg (by simp; omega)]

theorem Agree.fuse (h : Agree m r) (x : Int) : Agree { m with fuse := x } (fuseR r x) := ⟨h.files, h.gone, h.once, h.rising, h.room, h.acts, h.down, rfl, rfl⟩

/-- A file is put. -/
theorem Agree.put (h : Agree m r) {x : RF} (hx : x.there = true → ∀ f ∈ r.Gone, f.nm ≠ x.nm) : Agree { m with files := setF m.files x.nm (some (toF x)) } { r with L := putL r.L x } where
  files k := by
    by_cases e : k = x.nm
    · subst e
      show setF m.files x.nm _ x.nm = _
      rw [setF_same, find_putL_same]
      rfl
    · show setF m.files x.nm _ k = _
      rw [setF_other _ _ e, find_putL_other e]
      exact h.files k
  gone := h.gone
  once f hf g hg e := by
    rcases putL_mem g hg with rfl | hg
    · cases ht : g.there with
      | false => rfl
      | true => exact absurd e.symm (hx ht f hf)
    · exact h.once f hf g hg e
  rising := h.rising.put x
  room := h.room
  acts := h.acts
  down := h.down
  fused := h.fused
  left := h.left

theorem find_name {fs : List RF} {k : List UInt8} {f : RF} (h : fs.find? (fun f => f.nm == k) = some f) : f.nm = k ∧ f ∈ fs := ⟨by simpa using List.find?_some h, List.mem_of_find?_eq_some h⟩

theorem Agree.append (h : Agree m r) {sz used : Nat} (hsz : sz = r.L.length) (hus : used = usedL r.L) {s : ByteArray} {bs : List UInt8} {x : RF} (hx : Grown (fileR r s) bs x) :
    (appendM m sz used s.data.toList bs).2 = (appendR r s.data.toList bs.length x).2 ∧ Agree (appendM m sz used s.data.toList bs).1 (appendR r s.data.toList bs.length x).1 := by
  unfold appendM appendR
  rw [h.off]
  by_cases hd : isOff r = true
  · rw [if_pos hd, if_pos hd]
    have := h.power
    rw [hd] at this
    exact ⟨rfl, this⟩
  have hd' : isOff r = false := by simpa using hd
  have hp := h.power
  rw [hd'] at hp
  rw [if_neg hd, if_neg hd]
  by_cases hk : nameOk s.data.toList = false
  · rw [if_pos hk, if_pos hk]
    exact ⟨rfl, hp⟩
  rw [if_neg hk, if_neg hk]
  have hh : holdsI sz (m.files s.data.toList) bs.length = true ↔ ¬ tooR r s.data.toList bs.length := by
    rw [h.files, hsz]
    unfold holdsI tooR
    cases hf : r.L.find? (fun f => f.nm == s.data.toList) with
    | none => first | (simp; done) | (simp; omega)
    | some f => first | (simp [toF]; done) | (simp [toF]; omega)
  by_cases ht : tooR r s.data.toList bs.length
  · rw [if_pos (Bool.eq_false_iff.2 (fun e => (hh.1 e) ht)), if_pos ht]
    exact ⟨rfl, hp⟩
  rw [if_neg (by rw [hh.2 ht]; simp), if_neg ht]
  by_cases hu : r.room < (usedL r.L : Int) + (bs.length : Int)
  · rw [if_pos (by rw [h.room, hus]; exact hu), if_pos hu]
    exact ⟨rfl, hp⟩
  rw [if_neg (by rw [h.room, hus]; exact hu), if_neg hu]
  refine ⟨rfl, ?_⟩
  have h0 : m.fuse ≠ 0 := fun e => by
    have := h.off
    rw [hd', e] at this
    simp at this
  have hnm : x.nm = s.data.toList := by
    unfold RF.nm
    rw [hx.name]
    unfold fileR
    cases hf : r.L.find? (fun f => f.nm == s.data.toList) with
    | none => rfl
    | some f => exact (find_name hf).1
  have hto : toF x = ⟨((m.files s.data.toList).getD ⟨[], 0, true⟩).data ++ bs, ((m.files s.data.toList).getD ⟨[], 0, true⟩).synced, ((m.files s.data.toList).getD ⟨[], 0, true⟩).fresh⟩ := by
    unfold toF
    rw [hx.data, hx.done, hx.there, h.files]
    unfold fileR
    cases hf : r.L.find? (fun f => f.nm == s.data.toList) with
    | none => rfl
    | some f => rfl
  have hg : x.there = true → ∀ f ∈ r.Gone, f.nm ≠ x.nm := fun e f hf he => by
    rw [hx.there] at e
    unfold fileR at e
    cases hf2 : r.L.find? (fun f => f.nm == s.data.toList) with
    | none => rw [hf2] at e; cases e
    | some g =>
      rw [hf2] at e
      have h2 := h.once f hf g (find_name hf2).2 ((find_name hf2).1.trans (hnm.symm.trans he.symm))
      rw [show g.there = true from e] at h2
      cases h2
  have h1 := (hp.put (x := x) hg).did h0
  rw [hnm, hto] at h1
  exact h1
end

end Go.Proofs.YtdpbnacabinlgaaGreatDoor
namespace Go.Proofs.YtdpbnacabinlgaaGreatDoor
open Go.RowKit Go.Lib Go.Maps Go.ChangeMaps Go.Sort

section
variable {m : DevM} {r : RDm}

theorem Agree.fuse_ne (h : Agree m r) (hd : isOff r = false) : m.fuse ≠ 0 := fun e => by
  have := h.off
  rw [hd, e] at this
  simp at this

theorem Agree.del (h : Agree m r) {k : List UInt8} {f : RF} (hf : r.L.find? (fun f => f.nm == k) = some f) :
    Agree { m with files := setF m.files k none, gone := if (toF f).fresh then m.gone else setF m.gone k (some ((toF f).data.take (toF f).synced)) } { r with Gone := if f.there then r.Gone ++ [f] else r.Gone, L := withoutL r.L k } where
  files k' := by
    show setF m.files k none k' = ((withoutL r.L k).find? (fun f => f.nm == k')).map toF
    by_cases e : k' = k
    · subst e
      rw [setF_same, find_withoutL_same]
      rfl
    · rw [setF_other _ _ e, find_withoutL_other e]
      exact h.files k'
  gone k' := by
    obtain ⟨hk, hm⟩ := find_name hf
    show (if (toF f).fresh = true then m.gone else setF m.gone k (some ((toF f).data.take (toF f).synced))) k' = ((if f.there = true then r.Gone ++ [f] else r.Gone).find? (fun f => f.nm == k')).map (fun f => f.data.take f.done)
    cases ht : f.there with
    | false =>
      have e1 : (toF f).fresh = true := by simp [toF, ht]
      rw [if_pos e1, if_neg (by simp)]
      exact h.gone k'
    | true =>
      have e1 : ¬ (toF f).fresh = true := by simp [toF, ht]
      rw [if_neg e1, if_pos rfl, List.find?_append]
      by_cases e : k' = k
      · subst e
        have hno : r.Gone.find? (fun f => f.nm == k') = none := by
          rw [List.find?_eq_none]
          intro g hg e2
          have e3 : g.nm = k' := by simpa using e2
          have := h.once g hg f hm (hk.trans e3.symm)
          rw [ht] at this
          cases this
        rw [setF_same, hno]
        simp [hk, toF]
      · have hne : (f.nm == k') = false := beq_eq_false_iff_ne.2 (fun e2 => e (by rw [← e2]; exact hk))
        rw [setF_other _ _ e, h.gone k']
        simp [hne]
  once g hg g' hg' e := by
    obtain ⟨h1, h2⟩ := List.mem_filter.1 hg'
    have hne : g'.nm ≠ k := by simpa using h2
    have hold : g ∈ r.Gone ∨ g = f := by
      cases ht : f.there with
      | false => dsimp only at hg; rw [ht, if_neg (by simp)] at hg; exact Or.inl hg
      | true =>
        dsimp only at hg
        rw [ht, if_pos rfl] at hg
        rcases List.mem_append.1 hg with h3 | h3
        · exact Or.inl h3
        · exact Or.inr (by simpa using h3)
    rcases hold with h3 | h3
    · exact h.once g h3 g' h1 e
    · subst h3
      exact absurd (e.trans (find_name hf).1) hne
  rising := h.rising.without k
  room := h.room
  acts := h.acts
  down := h.down
  fused := h.fused
  left := h.left

theorem Agree.remove (h : Agree m r) (k : List UInt8) : (removeM m k).2 = (removeR r k).2 ∧ Agree (removeM m k).1 (removeR r k).1 := by
  unfold removeM removeR
  rw [h.off]
  by_cases hd : isOff r = true
  · rw [if_pos hd, if_pos hd]
    have := h.power
    rw [hd] at this
    exact ⟨rfl, this⟩
  have hd' : isOff r = false := by simpa using hd
  have hp := h.power
  rw [hd'] at hp
  rw [if_neg hd, if_neg hd]
  by_cases hk : nameOk k = false
  · rw [if_pos hk, if_pos hk]
    exact ⟨rfl, hp⟩
  rw [if_neg hk, if_neg hk]
  have hf := h.files k
  cases hfr : r.L.find? (fun f => f.nm == k) with
  | none =>
    rw [hfr] at hf
    have hf' : m.files k = none := hf
    rw [hf']
    exact ⟨rfl, hp⟩
  | some f =>
    rw [hfr] at hf
    have hf' : m.files k = some (toF f) := hf
    rw [hf']
    exact ⟨rfl, (hp.del (k := k) (f := f) hfr).did (h.fuse_ne hd')⟩

theorem Agree.settle (h : Agree m r) : Agree (settleM m) { r with L := r.L.map syncF, Gone := [] } where
  files k := by
    show (m.files k).map settleF = ((r.L.map syncF).find? (fun f => f.nm == k)).map toF
    rw [find_sync, h.files k]
    cases r.L.find? (fun f => f.nm == k) <;> rfl
  gone k := rfl
  once f hf := by cases hf
  rising := h.rising.sync
  room := h.room
  acts := h.acts
  down := h.down
  fused := h.fused
  left := h.left

theorem Agree.sync (h : Agree m r) : (syncM m).2 = (syncR r).2 ∧ Agree (syncM m).1 (syncR r).1 := by
  unfold syncM syncR
  rw [h.off]
  by_cases hd : isOff r = true
  · rw [if_pos hd, if_pos hd]
    have := h.power
    rw [hd] at this
    exact ⟨rfl, this⟩
  have hd' : isOff r = false := by simpa using hd
  have hp := h.power
  rw [hd'] at hp
  rw [if_neg hd, if_neg hd]
  exact ⟨rfl, hp.settle.did (h.fuse_ne hd')⟩

theorem Agree.read (h : Agree m r) (k : List UInt8) : readM m k = readR r k := by
  unfold readM readR
  rw [h.down, h.files k]
  cases r.L.find? (fun f => f.nm == k) <;> rfl

theorem Agree.new (room : Int) : Agree (newM room) (newR room) := ⟨fun _ => rfl, fun _ => rfl, (fun f hf => by cases hf), List.Pairwise.nil, rfl, rfl, rfl, rfl, rfl⟩
end

end Go.Proofs.YtdpbnacabinlgaaGreatDoor
namespace Go.Proofs.YtdpbnacabinlgaaGreatDoor
open Go.RowKit Go.Lib Go.Maps Go.ChangeMaps Go.Sort

theorem Rising.nodup {fs : List RF} (h : Rising fs) : (fs.map RF.nm).Nodup := by
  rw [List.nodup_iff_pairwise_ne, List.pairwise_map]
  exact h.imp (fun {a b} hab e => by rw [e] at hab; exact List.lt_irrefl _ hab)

theorem Rising.find {fs : List RF} (h : Rising fs) {f : RF} (hf : f ∈ fs) : fs.find? (fun g => g.nm == f.nm) = some f := by
  cases hg : fs.find? (fun g => g.nm == f.nm) with
  | none =>
    rw [List.find?_eq_none] at hg
    exact absurd (beq_self_eq_true f.nm) (hg f hf)
  | some g =>
    obtain ⟨h1, h2⟩ := find_name hg
    obtain ⟨i, hi, rfl⟩ := List.mem_iff_getElem.1 hf
    obtain ⟨j, hj, rfl⟩ := List.mem_iff_getElem.1 h2
    have hp := List.pairwise_iff_getElem.1 h
    rcases Nat.lt_trichotomy i j with e | e | e
    · have h3 := hp i j hi hj e
      rw [h1] at h3
      exact absurd h3 (List.lt_irrefl _)
    · subst e; rfl
    · have h3 := hp j i hj hi e
      rw [h1] at h3
      exact absurd h3 (List.lt_irrefl _)

section
variable {S : Prop} {w : World} {own : Owner} {db fb rb : Nat} {D E : DataW Unit} {n : Nat} {m : DevM} {r : RDm}

theorem Agree.mem (ha : Agree m r) (k : List UInt8) : (m.files k).isSome = true ↔ k ∈ r.L.map RF.nm := by
  rw [ha.files k, List.mem_map]
  constructor
  · intro h
    cases hf : r.L.find? (fun f => f.nm == k) with
    | none => rw [hf] at h; cases h
    | some f => exact ⟨f, (find_name hf).2, (find_name hf).1⟩
  · rintro ⟨f, hf, rfl⟩
    rw [ha.rising.find hf]
    rfl

theorem Agree.count (ha : Agree m r) (h : Dev S w own db fb rb D E n m) (hl : ∀ f ∈ r.L, f.data.length ≤ 262144) : Maps.size D = r.L.length ∧ usedD D m.files = usedL r.L ∧ (strKeys D).Perm (r.L.map RF.nm) := by
  obtain ⟨h1, h2⟩ := h.size_of (r.L.map RF.nm) ha.rising.nodup ha.mem
  obtain ⟨h3, h4⟩ := h.keys
  refine ⟨by rw [h1, List.length_map], ?_, (List.perm_ext_iff_of_nodup h3 ha.rising.nodup).2 fun k => by rw [h4 k]; exact ha.mem k⟩
  rw [h2, List.map_map]
  unfold usedL
  congr 1
  refine List.map_congr_left fun f hf => ?_
  show flen m.files (.string f.nm) = _
  unfold flen
  dsimp only
  rw [ha.files, ha.rising.find hf]
  exact Nat.min_eq_left (hl f hf)

/-- All names, as they rise. -/
theorem Agree.names (ha : Agree m r) (h : Dev S w own db fb rb D E n m) (hl : ∀ f ∈ r.L, f.data.length ≤ 262144) {ss : List (List UInt8)} (hp : ss.Perm (strKeys D)) : ss.mergeSort (fun x y => decide (x ≤ y)) = r.L.map RF.nm := by
  have hp2 := (hp.trans (ha.count h hl).2.2)
  have h1 : (ss.mergeSort (fun x y => decide (x ≤ y))).Pairwise (fun x y => x ≤ y) := by
    have h2 := List.pairwise_mergeSort (le := fun x y : List UInt8 => decide (x ≤ y)) (fun a b c h3 h4 => by simp at h3 h4 ⊢; exact List.le_trans h3 h4) (fun a b => by simpa using List.le_total a b) ss
    exact h2.imp (fun {a b} h5 => by simpa using h5)
  have h2 : (r.L.map RF.nm).Pairwise (fun x y => x ≤ y) := by
    rw [List.pairwise_map]
    exact ha.rising.imp (fun {a b} h3 => List.le_of_lt h3)
  exact List.Perm.eq_of_pairwise (fun a b _ _ h3 h4 => List.le_antisymm h3 h4) h1 h2 ((List.mergeSort_perm ss _).trans hp2)
end

end Go.Proofs.YtdpbnacabinlgaaGreatDoor
namespace Go.Proofs.YtdpbnacabinlgaaGreatDoor
open Go.RowKit Go.Lib Go.Maps Go.ChangeMaps Go.Sort

/-- What Great leaves, with the ops' bytes. -/
def Great2Post (w : World) (os : List OpV) (e : Ending) (w' : World) : Prop := ∃ g, e = .returned (.bool g) ∧ (g = false → os.length ≤ 300 ∧ ∀ o ∈ os, o.bs.length ≤ 20000 ∧ o.ks.length ≤ 20000) ∧ Below w.heap.size w w'

end Go.Proofs.YtdpbnacabinlgaaGreatDoor
namespace Go.Proofs.YtdpbnacabinlgaaGreatDoor
open Go.RowKit Go.Lib Go.Maps Go.ChangeMaps Go.Sort

/-- No name was removed twice. -/
def OnceGone (r : RDm) : Prop := r.Gone.Pairwise (fun a b => a.nm ≠ b.nm)

/-- What is left of a file. -/
def keepF (ks : List (ByteArray × Int)) (f : RF) : Option FileM := (crashF ks f.nm (toF f)).map settleF
/-- What comes back. -/
def backF (f : RF) : FileM := ⟨f.data.take f.done, (f.data.take f.done).length, false⟩

/-- The files behind a crash. -/
structure Crashed (ks : List (ByteArray × Int)) (r : RDm) (L' : List RF) : Prop where
  rising : Rising L'
  files : ∀ k, (L'.find? (fun f => f.nm == k)).map toF = match r.Gone.find? (fun f => f.nm == k) with | some g => some (backF g) | none => (r.L.find? (fun f => f.nm == k)).bind (keepF ks)

/-- Behind a crash. -/
def crashR (r : RDm) (L' : List RF) : RDm := { r with L := L', Gone := [], fused := false, left := 0, off := false }

section
variable {m : DevM} {r : RDm}

theorem Agree.crash (h : Agree m r) {ks : List (ByteArray × Int)} {L' : List RF} (hc : Crashed ks r L') : Agree (crashM ks m) (crashR r L') where
  files k := by
    show (crashFiles ks m k).map settleF = (L'.find? (fun f => f.nm == k)).map toF
    rw [hc.files k]
    unfold crashFiles
    rw [h.gone k]
    cases hg : r.Gone.find? (fun f => f.nm == k) with
    | some g => rfl
    | none =>
      show ((m.files k).bind (crashF ks k)).map settleF = (r.L.find? (fun f => f.nm == k)).bind (keepF ks)
      rw [h.files k]
      cases hf : r.L.find? (fun f => f.nm == k) with
      | none => rfl
      | some f =>
        have hk := (find_name hf).1
        show (crashF ks k (toF f)).map settleF = (crashF ks f.nm (toF f)).map settleF
        rw [hk]
  gone k := rfl
  once f hf := by cases hf
  rising := hc.rising
  room := h.room
  acts := h.acts
  down := rfl
  fused := rfl
  left := rfl

theorem OnceGone.remove (h : Agree m r) (ho : OnceGone r) (k : List UInt8) : OnceGone (removeR r k).1 := by
  unfold removeR
  split
  · exact ho
  split
  · exact ho
  cases hf : r.L.find? (fun f => f.nm == k) with
  | none => exact ho
  | some f =>
    obtain ⟨hk, hm⟩ := find_name hf
    show (if f.there = true then r.Gone ++ [f] else r.Gone).Pairwise (fun a b => a.nm ≠ b.nm)
    cases ht : f.there with
    | false => rw [if_neg (by simp)]; exact ho
    | true =>
      rw [if_pos rfl, List.pairwise_append]
      refine ⟨ho, List.pairwise_singleton _ _, fun a ha b hb e => ?_⟩
      obtain rfl : b = f := by simpa using hb
      have := h.once a ha b hm e.symm
      rw [ht] at this
      cases this
theorem OnceGone.append (ho : OnceGone r) (nm : List UInt8) (bl : Nat) (x : RF) : OnceGone (appendR r nm bl x).1 := by
  unfold appendR
  repeat' split
  all_goals exact ho
theorem OnceGone.sync (ho : OnceGone r) : OnceGone (syncR r).1 := by
  unfold syncR
  split
  · exact ho
  · exact List.Pairwise.nil
theorem OnceGone.fuse (ho : OnceGone r) (x : Int) : OnceGone (fuseR r x) := ho
theorem OnceGone.crash (r : RDm) (L' : List RF) : OnceGone (crashR r L') := List.Pairwise.nil
theorem OnceGone.new (room : Int) : OnceGone (newR room) := List.Pairwise.nil
end

theorem appendR_acts (r : RDm) (nm : List UInt8) (bl : Nat) (x : RF) : (appendR r nm bl x).1.acts ≤ r.acts + 1 := by
  unfold appendR
  repeat' split
  all_goals simp only [powerR, didR] <;> omega
theorem removeR_acts (r : RDm) (nm : List UInt8) : (removeR r nm).1.acts ≤ r.acts + 1 := by
  unfold removeR
  repeat' split
  all_goals simp only [powerR, didR] <;> omega
theorem syncR_acts (r : RDm) : (syncR r).1.acts ≤ r.acts + 1 := by
  unfold syncR
  repeat' split
  all_goals simp only [powerR, didR] <;> omega

/-- All names are right ones. -/
def NamesOk (r : RDm) : Prop := (∀ f ∈ r.L, nameOk f.nm = true) ∧ ∀ f ∈ r.Gone, nameOk f.nm = true

section
variable {r : RDm}
theorem NamesOk.append (h : NamesOk r) {s : ByteArray} {bs : List UInt8} {x : RF} (bl : Nat) (hx : Grown (fileR r s) bs x) : NamesOk (appendR r s.data.toList bl x).1 := by
  unfold appendR
  split
  · exact h
  split
  · exact h
  rename_i hk
  split
  · exact h
  split
  · exact h
  refine ⟨fun f hf => ?_, h.2⟩
  rcases putL_mem f hf with rfl | hf
  · have hnm : f.nm = s.data.toList := by
      unfold RF.nm
      rw [hx.name]
      unfold fileR
      cases hq : r.L.find? (fun f => f.nm == s.data.toList) with
      | none => rfl
      | some g => exact (find_name hq).1
    rw [hnm]
    simpa using hk
  · exact h.1 f hf
theorem NamesOk.remove (h : NamesOk r) (nm : List UInt8) : NamesOk (removeR r nm).1 := by
  unfold removeR
  split
  · exact h
  split
  · exact h
  split
  · exact h
  rename_i f hf
  refine ⟨fun g hg => h.1 g (List.mem_filter.1 hg).1, fun g hg => ?_⟩
  have hg' : g ∈ (if f.there = true then r.Gone ++ [f] else r.Gone) := hg
  split at hg'
  · rcases List.mem_append.1 hg' with h1 | h1
    · exact h.2 g h1
    · obtain rfl : g = f := by simpa using h1
      exact h.1 g (find_name hf).2
  · exact h.2 g hg'
theorem NamesOk.sync (h : NamesOk r) : NamesOk (syncR r).1 := by
  unfold syncR
  split
  · exact h
  · refine ⟨fun g hg => ?_, fun g hg => by cases hg⟩
    obtain ⟨f, hf, rfl⟩ := List.mem_map.1 (show g ∈ r.L.map syncF from hg)
    exact h.1 f hf
theorem NamesOk.crash (h : NamesOk r) {ks : List (ByteArray × Int)} {L' : List RF} (hc : Crashed ks r L') : NamesOk (crashR r L') := by
  refine ⟨fun f hf => ?_, fun g hg => by cases hg⟩
  have h1 := hc.files f.nm
  rw [hc.rising.find hf] at h1
  cases hg : r.Gone.find? (fun g => g.nm == f.nm) with
  | some g =>
    obtain ⟨e, hm⟩ := find_name hg
    rw [← e]
    exact h.2 g hm
  | none =>
    rw [hg] at h1
    cases hl : r.L.find? (fun g => g.nm == f.nm) with
    | none => rw [hl] at h1; cases h1
    | some g =>
      obtain ⟨e, hm⟩ := find_name hl
      rw [← e]
      exact h.1 g hm
end

end Go.Proofs.YtdpbnacabinlgaaGreatDoor
namespace Go.Proofs.YtdpbnacabinlgaaGreatDoor
open Go.RowKit Go.Lib Go.Maps Go.ChangeMaps Go.Sort Go.Shelf

/-- What Append answers, and what the device is then, in plain words. -/
def appP (r : RDm) (s : ByteArray) (bs : List UInt8) : RDm × Int := appendR r s.data.toList bs.length { fileR r s with data := (fileR r s).data ++ bs }

/-- A device in memory, its files as a list that rises. -/
def LDev (w : World) (own : Owner) (db fb gb n : Nat) (r : RDm) : Prop := ∃ (D E : DataW Unit) (m : DevM), Dev True w own db fb gb D E n m ∧ Agree m r ∧ (∀ f ∈ r.L, f.data.length ≤ 262144) ∧ NamesOk r

section
variable {w w' : World} {own own' : Owner} {db fb gb n : Nat} {r : RDm}

theorem LDev.of {D E : DataW Unit} {m : DevM} (h : Dev True w own db fb gb D E n m) (ha : Agree m r) (hk : NamesOk r) : LDev w own db fb gb n r := ⟨D, E, m, h, ha, fun f hf => by
  have h1 := ha.files f.nm
  rw [ha.rising.find hf] at h1
  obtain ⟨p, dv, _, hfa, _⟩ := h.fil _ _ h1
  exact hfa.2.2.2, hk⟩

theorem LDev.below (h : LDev w own db fb gb n r) (hb : Below w.heap.size w w') : LDev w' own db fb gb n r := by
  obtain ⟨D, E, m, h1, h2, h3, h9⟩ := h
  exact ⟨D, E, m, h1.below hb, h2, h3, h9⟩
theorem LDev.mono {n' : Nat} (h : LDev w own db fb gb n r) (hn : n ≤ n') : LDev w own db fb gb n' r := by
  obtain ⟨D, E, m, h1, h2, h3, h9⟩ := h
  exact ⟨D, E, m, h1.mono hn, h2, h3, h9⟩
theorem LDev.old (h : LDev w own db fb gb n r) : ∀ b, w.heap.size ≤ b → own b = none := by
  obtain ⟨D, E, m, h1, h2, h3, h9⟩ := h
  exact h1.old
theorem LDev.fr {T : Nat → Prop} (h : LDev w own db fb gb n r) (hf : Fr T w w') (hS : ∀ b, own b ≠ none → ¬ T b) : LDev w' own db fb gb n r := by
  obtain ⟨D, E, m, h1, h2, h3, h9⟩ := h
  exact ⟨D, E, m, h1.fr hf hS, h2, h3, h9⟩

/-- What an act leaves. -/
def LPost (w : World) (own : Owner) (db fb gb n : Nat) (r : RDm × Int) (e : Ending) (w' : World) : Prop := e = .returned (.int .i64 r.2) ∧ ∃ own', LDev w' own' db fb gb n r.1 ∧ Step own own' w w'

theorem LDev.append (h : LDev w own db fb gb n r) (hn : n ≤ 1000000) (ha : r.acts ≤ 1000000000000) {s : ByteArray} (hs : s.size ≤ maxLen) {bv : Value} {bs : List UInt8} (hb : BArg w own bv bs) :
    Calls Tryz.prog 91 #[.pointer (some ⟨db, 0, none⟩), .string s, bv] w (LPost w own db fb gb (n + 1) (appP r s bs)) := by
  obtain ⟨D, E, m, h1, h2, h3, h9⟩ := h
  obtain ⟨e1, e2, _⟩ := h2.count h1 h3
  refine (h1.append (by omega) (by rw [h2.acts]; exact ha) hs hb).mono ?_
  rintro e w' ⟨rfl, own', D', h4, st⟩
  obtain ⟨ec, ha2⟩ := h2.append e1 e2 (s := s) (bs := bs) (x := { fileR r s with data := (fileR r s).data ++ bs }) ⟨rfl, rfl, rfl, rfl⟩
  exact ⟨by rw [ec]; rfl, own', LDev.of h4 ha2 (h9.append _ ⟨rfl, rfl, rfl, rfl⟩), st⟩

theorem LDev.remove (h : LDev w own db fb gb n r) (hn : n ≤ 1000000) (ha : r.acts ≤ 1000000000000) {s : ByteArray} (hs : s.size ≤ maxLen) :
    Calls Tryz.prog 79 #[.pointer (some ⟨db, 0, none⟩), .string s] w (LPost w own db fb gb n (removeR r s.data.toList)) := by
  obtain ⟨D, E, m, h1, h2, h3, h9⟩ := h
  refine (h1.remove (by omega) (by rw [h2.acts]; exact ha) hs).mono ?_
  rintro e w' ⟨rfl, own', D', E', h4, st⟩
  obtain ⟨ec, ha2⟩ := h2.remove s.data.toList
  exact ⟨by rw [ec], own', LDev.of h4 ha2 (h9.remove _), st⟩

theorem LDev.sync (h : LDev w own db fb gb n r) (ha : r.acts ≤ 1000000000000) :
    Calls Tryz.prog 49 #[.pointer (some ⟨db, 0, none⟩)] w (LPost w own db fb gb n (syncR r)) := by
  obtain ⟨D, E, m, h1, h2, h3, h9⟩ := h
  refine (h1.sync (by rw [h2.acts]; exact ha)).mono ?_
  rintro e w' ⟨rfl, E', h4, st⟩
  obtain ⟨ec, ha2⟩ := h2.sync
  exact ⟨by rw [ec], own, LDev.of h4 ha2 h9.sync, st⟩

theorem LDev.down (h : LDev w own db fb gb n r) : Calls Tryz.prog 43 #[.pointer (some ⟨db, 0, none⟩)] w fun e w' => e = .returned (.bool r.off) ∧ w' = w := by
  obtain ⟨D, E, m, h1, h2, h3, h9⟩ := h
  rw [← h2.down]
  exact (down_calls db m.down w h1.c5).mono fun _ _ h => ⟨h.1, h.2.symm⟩

/-- A file's bytes; none, if it is not there, or cannot be read. -/
def bytesR (r : RDm) (nm : List UInt8) : List UInt8 := (readR r nm).1

theorem bytesR_le (h : LDev w own db fb gb n r) (nm : List UInt8) : (bytesR r nm).length ≤ 262144 := by
  obtain ⟨D, E, m, h1, h2, h3, h9⟩ := h
  unfold bytesR
  rw [← h2.read]
  exact read_le h1 nm

theorem LDev.bytesOf (h : LDev w own db fb gb n r) (hv : Vars w own) (s : ByteArray) (k : Nat) (hs : s.size ≤ 1000) (hk : k ≤ 9223372036854775807) :
    Calls Tryz.prog 51 #[.pointer (some ⟨db, 0, none⟩), .string s, .int .i64 k] w (BytesPost w (bytesR r (numName s.data.toList k))) := by
  obtain ⟨D, E, m, h1, h2, h3, h9⟩ := h
  unfold bytesR
  rw [← h2.read]
  exact h1.bytesOf hv s k hs hk

theorem LDev.takes {jb last : Nat} (h : LDev w own db fb gb n r) (hv : Vars w own) {wr : Bool} (hj : JAt w jb db last wr) (hl : last ≤ 9223372036854775807) (k : Nat) (hk : k ≤ 1000000) :
    Calls Tryz.prog 63 #[.pointer (some ⟨jb, 0, none⟩), .int .i64 k] w fun e w' => e = .returned (.bool (wr && decide ((bytesR r (numName logM last)).length + k ≤ 1024))) ∧ Below w.heap.size w w' := by
  obtain ⟨D, E, m, h1, h2, h3, h9⟩ := h
  unfold bytesR
  rw [← h2.read]
  exact h1.takes hv hj hl k hk

/-- What Names leaves. -/
theorem LDev.names (h : LDev w own db fb gb n r) (hn : n ≤ 1000000) :
    Calls Tryz.prog 30 #[.pointer (some ⟨db, 0, none⟩)] w fun e w' => ∃ (a : Option Addr) (c : Nat), e = .returned (.slice a r.L.length c) ∧ NRow w' (fun _ => none) a (r.L.map RF.nm) ∧ w'.ownsRow w.heap.size 9 1 (.slice a r.L.length c) r.L.length ((r.L.map RF.nm).map encStr) ∧ Below w.heap.size w w' := by
  obtain ⟨D, E, m, h1, h2, h3, h9⟩ := h
  obtain ⟨hc1, _, _⟩ := h2.count h1 h3
  refine (h1.names (by omega)).mono ?_
  rintro e w' ⟨v, ss, rfl, hperm, hrow, hb⟩
  have hsl : ss.length = r.L.length := by rw [h1.names_len hperm, hc1]
  rw [h2.names h1 h3 hperm, hsl] at hrow
  obtain ⟨a, c, rfl⟩ := row_slice hrow
  have hlm : (r.L.map RF.nm).length = r.L.length := List.length_map _
  have hrow' : w'.ownsRow w.heap.size 9 1 (.slice a r.L.length c) (r.L.map RF.nm).length ((r.L.map RF.nm).map encStr) := by rw [hlm]; exact hrow
  obtain ⟨a1, c1, he, hnr⟩ := NRow.of_owns (own := fun _ => none) hrow' (fun _ _ => rfl)
  injection he with ha _ hc
  subst ha
  exact ⟨a, c, rfl, hnr, hrow, hb⟩
end

end Go.Proofs.YtdpbnacabinlgaaGreatDoor
