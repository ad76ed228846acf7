/- The document's own device: Sync. | The document's own device: Append. | The document's own device: Append, where it is full. | The document's own device: Append, where it is done. | The document's own device: Append of a new file; Append in one word. | The document's own device: Append in one word. | The document's own device: put and without, in plain words. -/
import Derived.Test.YteonkojfnmbpoaaK6
namespace Go.Proofs.Yteonkojfnmbpoaa
open Go.RowKit Go.Lib Go.Maps Go.ChangeMaps Go.Sort

/-- A file behind a Sync. -/
def syncF (f : RF) : RF := { f with done := f.data.length, there := true }
theorem FGood.sync {w : World} {own : Owner} {f : RF} (h : FGood w own f) : FGood w own (syncF f) := ⟨h.hname, h.hb, h.hcap, h.hl, Nat.le_refl _⟩

theorem syncL_take {fs : List RF} {k : Nat} {f : RF} (h : fs[k]? = some f) : (fs.take (k + 1)).map syncF = (fs.take k).map syncF ++ [syncF f] := by
  rw [List.take_add_one, h]
  simp

/-- What Sync answers, and what the device is then. -/
def syncR (r : RDm) : RDm × Int :=
  if isOff r then (powerR r, 13) else (didR { powerR r with L := r.L.map syncF, Gone := [] }, 0)

section
variable {w w' : World} {d o : Owner} {rb n lc : Nat} {la : Option Addr} {gv : Value} {r : RDm}

set_option maxHeartbeats 2000000 in
set_option maxRecDepth 100000 in
theorem RD.sync_off (h : RD w d o rb n r) (hd : isOff r = true) :
    Calls Try.prog 14 #[.pointer (some ⟨rb, 0, none⟩)] w (RPost w d o rb n (powerR r, 13)) := by
  have hpw := h.power
  rw [hd] at hpw
  have HP := Lib.hid hpw
  clear h hd hpw
  go_enter Try.func14, Try.ntmps14
  go_wp2_with fail
  refine HP.out.mono ?_
  rintro e w1 ⟨rfl, h1, st1⟩
  have H1 := Lib.hid h1
  clear h1
  go_wp2_with fail
  go_ret
  exact ⟨rfl, o, H1.out, st1⟩

set_option maxHeartbeats 4000000 in
set_option maxRecDepth 100000 in
theorem RD.sync_on (h : RD w d o rb n r) (hn : n ≤ 1000000) (hac : r.acts ≤ 1000000000000) (hd : isOff r = false) :
    Calls Try.prog 14 #[.pointer (some ⟨rb, 0, none⟩)] w (RPost w d o rb n (didR { powerR r with L := r.L.map syncF, Gone := [] }, 0)) := by
  obtain ⟨i0, hi, hz0, hz1, hz2⟩ := info_parts infoRF
  have hpw := h.power
  rw [hd] at hpw
  have HP := Lib.hid hpw
  have HL := Lib.hid (isOff_left hd)
  clear h hd hpw
  go_enter Try.func14, Try.ntmps14
  go_wp2_with fail
  refine HP.out.mono ?_
  rintro e w1 ⟨rfl, h1, st1⟩
  have ST1 := Lib.hid st1
  obtain ⟨la, lc, gv, h2⟩ := h1
  have H2 := Lib.hid h2
  have H : Hid (FRow w1 (both d o) la r.L) := h2.rowL
  have hcnt : r.L.length + r.Gone.length ≤ n := h2.cnt
  have b0 : w1.cell? ⟨rb, 0, none⟩ = some (.slice la r.L.length lc) := h2.c0
  obtain ⟨l, hll⟩ : ∃ l, r.L.length = l := ⟨_, rfl⟩
  rw [hll] at hcnt b0
  have Hl := Lib.hid hll
  have B0 := Lib.hid b0
  clear h2 hll st1 b0
  go_wp2_with fail
  go_loopw [4, 5] (fun v i wr => ∃ k : Nat, k ≤ l ∧ i = .int .i64 k ∧ Hid (wr.ownsRow w1.heap.size 68 4 v ((r.L.take k).map syncF).length (rfCells ((r.L.take k).map syncF))) ∧ Hid (Below w1.heap.size w1 wr)) (fun _ i _ => l - (intOf i).toNat)
  case atStart => exact ⟨0, Nat.zero_le _, rfl, World.ownsRow_nil _ _ _ _, Below.refl _ _⟩
  case round =>
    obtain ⟨k, hk, rfl, Hown, Hb⟩ := hrel
    have b0 := (Hb.out.cell (p := ⟨rb, 0, none⟩) (World.block_lt_of_cell? _ _ B0.out)).trans B0.out
    by_cases hlt : k < l
    · obtain ⟨f, hf⟩ : ∃ f, r.L[k]? = some f := ⟨_, List.getElem?_eq_getElem (by rw [Hl.out]; exact hlt)⟩
      obtain ⟨A, rfl, _, hat⟩ := (H.out.below Hb.out) k f hf
      have Hw := Lib.hid (syncL_take hf)
      have c0 := hat.c0
      have c1 := hat.c1
      have c2 := hat.c2
      have c3 := hat.c3
      unfold fld at c1 c2 c3
      have hcnt2 : ((r.L.take k).map syncF).length + 1 ≤ 1000001 := by
        rw [List.length_map]
        have h2 := List.length_take_le k r.L
        omega
      have HO2 := Lib.hid ((Hown.out.alloc (.cells #[.string f.name, .slice f.da f.data.length f.dc, .int .i64 f.data.length, .bool true] 68)).alloc (.cells #[.string f.name, .slice f.da f.data.length f.dc, .int .i64 f.data.length, .bool true] 68))
      have HB1 := Lib.hid (Hb.out.alloc Hb.out.size (.cells #[.string f.name, .slice f.da f.data.length f.dc, .int .i64 f.data.length, .bool true] 68))
      have HB2 := Lib.hid (HB1.out.alloc HB1.out.size (.cells #[.string f.name, .slice f.da f.data.length f.dc, .int .i64 f.data.length, .bool true] 68))
      have hA : ∀ j u, (syncF f).cells[j]? = some u → ((wr.alloc (.cells #[.string f.name, .slice f.da f.data.length f.dc, .int .i64 f.data.length, .bool true] 68)).alloc (.cells #[.string f.name, .slice f.da f.data.length f.dc, .int .i64 f.data.length, .bool true] 68)).cell? ((⟨wr.heap.size + 1, 0, none⟩ : Addr).add j) = some u := by
        intro j u hu
        have h4 := rf_new (wr.alloc (.cells #[.string f.name, .slice f.da f.data.length f.dc, .int .i64 f.data.length, .bool true] 68)) (syncF f) j u hu
        simpa [syncF] using h4
      have HA := Lib.hid hA
      clear hf hat hA
      go_wp2_with (first
        | (at_builtin; refine wpList_append_own _ rfl (.tmp 32) (.tmp 34) 63 rfl w1.heap.size 68 i0 (.agg #[.string .empty, .slice none 0 0, .int .i64 0, .bool false]) 4 56 Try.underlying63 hi hz0 hz1 hz2 rfl (by decide) _ _ _ rfl HO2.out ⟨wr.heap.size + 1, 0, none⟩ 1 1 (syncF f).cells rfl rfl HA.out (rf_oneCell _) (by unfold maxLen; omega) (by omega) HB2.out.size ?_; intro v3 w3 hown3 hgrow3 hnil3))
      have HB3 := Lib.hid (HB2.out.grown hgrow3 HB2.out.size (fun q hq => (HO2.out.lt q hq).1))
      have HO4 : Hid (w3.ownsRow w1.heap.size 68 4 v3 ((r.L.take (k + 1)).map syncF).length (rfCells ((r.L.take (k + 1)).map syncF))) := by
        rw [Hw.out, List.length_append, rfCells_append, rfCells_one]
        exact hown3
      clear hown3 hgrow3 hnil3
      go_wp2_with fail
      go_roundw
      case rel => exact ⟨k + 1, by omega, by go_num, HO4, HB3⟩
      case measure => simp [intOf]; omega
    · have hfin : r.L.take k = r.L := by rw [show k = l by omega, ← Hl.out]; exact List.take_length
      have h1 := Hown.out
      rw [hfin] at h1
      have hgood := (H.out.below Hb.out).good
      obtain ⟨a1, c1, hv, hrow, _⟩ := FRow.of_owns (own := both d o) h1 (fun b hb => both_none.2 (H2.out.old b hb)) (fun f hf => by
        obtain ⟨g, hg, rfl⟩ := List.mem_map.1 hf
        exact (hgood g hg).sync)
      subst hv
      obtain ⟨h4, st4⟩ := H2.out.setL (n' := n) Hb.out (lc' := c1) hrow (by rw [List.length_map]; exact H2.out.cnt)
      obtain ⟨o2, h5, st5⟩ := h4.setG (n' := n) (a' := none) (c' := 0) (G' := []) (Fr.refl _ _) (World.ownsRow_nil _ _ _ _) (fun g hg => by simp [Value.ownBlock] at hg) (fun f hf => by simp at hf) (by have h9 := H2.out.cnt; show (r.L.map syncF).length + 0 ≤ n; rw [List.length_map]; have h10 : (powerR r).L.length = r.L.length := rfl; omega)
      have hblk := (Hb.out.block rb (H2.out.lt (by simp [H2.out.orb]))).trans H2.out.blk
      have b1 : wr.cell? ⟨rb, 1, none⟩ = some gv := cell_of_blk hblk rfl
      have f0 : wr.frozen? ⟨rb, 0, none⟩ = false := frozen_of_blk hblk
      have f1 : wr.frozen? ⟨rb, 1, none⟩ = false := frozen_of_blk hblk
      have hdid := RD.did (w := (wr.setCell ⟨rb, 0, none⟩ (.slice a1 (r.L.map syncF).length c1)).setCell ⟨rb, 1, none⟩ (.slice none 0 0)) ⟨_, _, _, h5⟩ (by show r.acts ≤ _; omega) (fun e => by have h5 := HL.out e; have h6 := H2.out.rleft; show 0 < (powerR r).left; omega)
      have st6 : RStep o o2 w1 ((wr.setCell ⟨rb, 0, none⟩ (.slice a1 (r.L.map syncF).length c1)).setCell ⟨rb, 1, none⟩ (.slice none 0 0)) := st4.trans st5
      rw [List.length_map] at hdid st6
      have HD := Lib.hid hdid
      have ST5 := Lib.hid st6
      clear h1 hgood hrow hfin h4 st4 h5 st5 hblk hdid st6
      go_wp2_with fail
      refine HD.out.mono ?_
      rintro e w5 ⟨rfl, h5, st5⟩
      have H5 := Lib.hid h5
      clear h5
      go_wp2_with fail
      go_ret
      exact ⟨rfl, o2, H5.out, (ST1.out.trans ST5.out).trans st5⟩

theorem RD.sync (h : RD w d o rb n r) (hn : n ≤ 1000000) (hac : r.acts ≤ 1000000000000) :
    Calls Try.prog 14 #[.pointer (some ⟨rb, 0, none⟩)] w (RPost w d o rb n (syncR r)) := by
  unfold syncR
  cases hd : isOff r with
  | true =>
    rw [if_pos rfl]
    exact h.sync_off hd
  | false =>
    rw [if_neg (by simp)]
    exact h.sync_on hn hac hd
end

end Go.Proofs.Yteonkojfnmbpoaa
namespace Go.Proofs.Yteonkojfnmbpoaa
open Go.RowKit Go.Lib Go.Maps Go.ChangeMaps Go.Sort

theorem usedL_le {w : World} {own : Owner} {a : Option Addr} {fs : List RF} (h : FRow w own a fs) : usedL fs ≤ fs.length * 262144 := by
  have hg := h.good
  clear h
  induction fs with
  | nil => simp [usedL]
  | cons f fs ih =>
    have h1 := (hg f (by simp)).hl
    have h2 := ih (fun g hg' => hg g (by simp [hg']))
    simp only [usedL, List.map_cons, List.sum_cons, List.length_cons, Nat.add_mul] at h2 ⊢
    omega

section
variable {w w' : World} {d o : Owner} {rb n lc : Nat} {la : Option Addr} {gv : Value} {r : RDm}

set_option maxHeartbeats 2000000 in
set_option maxRecDepth 100000 in
theorem RD.append_off (h : RD w d o rb n r) (hd : isOff r = true) (s : ByteArray) (bv : Value) :
    Calls Try.prog 10 #[.pointer (some ⟨rb, 0, none⟩), .string s, bv] w (RPost w d o rb n (powerR r, 13)) := by
  have hpw := h.power
  rw [hd] at hpw
  have HP := Lib.hid hpw
  clear h hd hpw
  go_enter Try.func10, Try.ntmps10
  go_wp2_with fail
  refine HP.out.mono ?_
  rintro e w1 ⟨rfl, h1, st1⟩
  have H1 := Lib.hid h1
  clear h1
  go_wp2_with fail
  go_ret
  exact ⟨rfl, o, H1.out, st1⟩

set_option maxHeartbeats 2000000 in
set_option maxRecDepth 100000 in
theorem RD.append_bad (h : RD w d o rb n r) (hd : isOff r = false) {s : ByteArray} (hs : s.size ≤ maxLen) (hk : nameOk s.data.toList = false) (bv : Value) :
    Calls Try.prog 10 #[.pointer (some ⟨rb, 0, none⟩), .string s, bv] w (RPost w d o rb n (powerR r, 1)) := by
  have hpw := h.power
  rw [hd] at hpw
  have HP := Lib.hid hpw
  have HN : Hid (∀ w, Calls Try.prog 30 #[.string s] w fun e w' => e = .returned (.bool false) ∧ w = w') := fun w => by rw [← hk]; exact rname_calls s w hs
  clear h hd hpw hk
  go_enter Try.func10, Try.ntmps10
  go_wp2_with fail
  refine HP.out.mono ?_
  rintro e w1 ⟨rfl, h1, st1⟩
  have H1 := Lib.hid h1
  clear h1
  go_wp2_with fail
  refine (HN.out w1).mono ?_
  rintro e w2 ⟨rfl, rfl⟩
  go_wp2_with fail
  go_ret
  exact ⟨rfl, o, H1.out, st1⟩

set_option maxHeartbeats 4000000 in
set_option maxRecDepth 100000 in
theorem RD.append_many (h : RD w d o rb n r) (hn : n ≤ 1000000) (hd : isOff r = false) {s : ByteArray} (hs : s.size ≤ maxLen) (hk : nameOk s.data.toList = true) {k : Nat} {f : RF} (hf : findI r.L s.data.toList = k) (hkf : r.L[k]? = some f) (ba : Option Addr) (bc : Nat) {bl : Nat} (hbl : bl ≤ 1000000000000) (hm : 262144 < f.data.length + bl) :
    Calls Try.prog 10 #[.pointer (some ⟨rb, 0, none⟩), .string s, .slice ba bl bc] w (RPost w d o rb n (powerR r, 2)) := by
  have hpw := h.power
  rw [hd] at hpw
  have HP := Lib.hid hpw
  have HN : Hid (∀ w, Calls Try.prog 30 #[.string s] w fun e w' => e = .returned (.bool true) ∧ w = w') := fun w => by rw [← hk]; exact rname_calls s w hs
  have HF := Lib.hid hf
  have HK := Lib.hid hkf
  clear h hd hpw hk hf hkf
  go_enter Try.func10, Try.ntmps10
  go_wp2_with fail
  refine HP.out.mono ?_
  rintro e w1 ⟨rfl, h1, st1⟩
  have ST1 := Lib.hid st1
  have H1 := Lib.hid h1
  obtain ⟨la, lc, gv, h2⟩ := h1
  obtain ⟨A, hA, _, hat⟩ := h2.rowL k f HK.out
  subst hA
  have b0 : w1.cell? ⟨rb, 0, none⟩ = some (.slice (some A) r.L.length lc) := h2.c0
  have hcnt : r.L.length + r.Gone.length ≤ n := h2.cnt
  have hkl : k < r.L.length := (List.getElem?_eq_some_iff.1 HK.out).1
  have hfl := hat.hl
  have hd1 : decide ((262144 : Int) < ((f.data.length : Int) + (bl : Int))) = true := by simp; omega
  have d0 := (((Below.refl w1.heap.size w1).alloc (Nat.le_refl _) (.cells #[.string s, .slice none 0 0, .int .i64 0, .bool false] 68)).cell (p := ⟨rb, 0, none⟩) (World.block_lt_of_cell? _ _ b0)).trans b0
  have hat2 := (h2.rowL.below ((Below.refl w1.heap.size w1).alloc (Nat.le_refl _) (.cells #[.string s, .slice none 0 0, .int .i64 0, .bool false] 68))).at HK.out
  have c0 := hat2.c0
  have c1 := hat2.c1
  have c2 := hat2.c2
  have c3 := hat2.c3
  unfold fld at c1 c2 c3
  have hfc := rfind_calls w1 _ (some A) lc r.L s h2.rowL (by omega)
  rw [HF.out] at hfc
  have HFC := Lib.hid hfc
  clear h2 hfc hat hat2 st1
  go_wp2_with fail
  refine (HN.out w1).mono ?_
  rintro e w2 ⟨rfl, rfl⟩
  go_wp2_with fail
  refine HFC.out.mono ?_
  rintro e w2 ⟨rfl, rfl⟩
  go_wp2_with fail
  go_ret
  exact ⟨rfl, o, H1.out.below ((Below.refl _ _).alloc (Nat.le_refl _) _), ST1.out.trans (RStep.below ((Below.refl _ _).alloc (Nat.le_refl _) _))⟩
end

end Go.Proofs.Yteonkojfnmbpoaa
namespace Go.Proofs.Yteonkojfnmbpoaa
open Go.RowKit Go.Lib Go.Maps Go.ChangeMaps Go.Sort

section
variable {w w' : World} {d o : Owner} {rb n lc : Nat} {la : Option Addr} {gv : Value} {r : RDm}

set_option maxHeartbeats 4000000 in
set_option maxRecDepth 100000 in
theorem RD.append_full (h : RD w d o rb n r) (hn : n ≤ 1000000) (hd : isOff r = false) {s : ByteArray} (hs : s.size ≤ maxLen) (hk : nameOk s.data.toList = true) {k : Nat} {f : RF} (hf : findI r.L s.data.toList = k) (hkf : r.L[k]? = some f) (ba : Option Addr) (bc : Nat) {bl : Nat} (hbl : bl ≤ 1000000000000) (hm : f.data.length + bl ≤ 262144) (hu : r.room < (usedL r.L : Int) + (bl : Int)) :
    Calls Try.prog 10 #[.pointer (some ⟨rb, 0, none⟩), .string s, .slice ba bl bc] w (RPost w d o rb n (powerR r, 11)) := by
  have hpw := h.power
  rw [hd] at hpw
  have HP := Lib.hid hpw
  have HN : Hid (∀ w, Calls Try.prog 30 #[.string s] w fun e w' => e = .returned (.bool true) ∧ w = w') := fun w => by rw [← hk]; exact rname_calls s w hs
  have HF := Lib.hid hf
  have HK := Lib.hid hkf
  clear h hd hpw hk hf hkf
  go_enter Try.func10, Try.ntmps10
  go_wp2_with fail
  refine HP.out.mono ?_
  rintro e w1 ⟨rfl, h1, st1⟩
  have ST1 := Lib.hid st1
  have H1 := Lib.hid h1
  obtain ⟨la, lc, gv, h2⟩ := h1
  obtain ⟨A, hA, _, hat⟩ := h2.rowL k f HK.out
  subst hA
  have b0 : w1.cell? ⟨rb, 0, none⟩ = some (.slice (some A) r.L.length lc) := h2.c0
  have hcnt : r.L.length + r.Gone.length ≤ n := h2.cnt
  have hkl : k < r.L.length := (List.getElem?_eq_some_iff.1 HK.out).1
  have hfl := hat.hl
  have hd1 : decide ((262144 : Int) < ((f.data.length : Int) + (bl : Int))) = false := by simp; omega
  have hul := usedL_le h2.rowL
  have hul2 : usedL r.L ≤ 262144000000 := by show usedL (powerR r).L ≤ _; have h9 : (powerR r).L.length = r.L.length := rfl; omega
  have HU : Hid (∀ W, Below w1.heap.size w1 W → Calls Try.prog 37 #[.pointer (some ⟨rb, 0, none⟩)] W fun e w' => e = .returned (.int .i64 (usedL r.L : Nat)) ∧ w' = W) := fun W hW => (rused_calls W (both d o) rb (some A) lc r.L (h2.rowL.below hW) ((hW.cell (p := ⟨rb, 0, none⟩) (World.block_lt_of_cell? _ _ b0)).trans b0) (by omega)).mono fun _ _ ⟨h8, h9⟩ => ⟨h8, h9.symm⟩
  have HBL := Lib.hid ((Below.refl w1.heap.size w1).alloc (Nat.le_refl _) (.cells #[.string f.name, .slice f.da f.data.length f.dc, .int .i64 f.done, .bool f.there] 68))
  have b2 : w1.cell? ⟨rb, 2, none⟩ = some (.int .i64 r.room) := h2.c2
  have d2 := (HBL.out.cell (p := ⟨rb, 2, none⟩) (World.block_lt_of_cell? _ _ b2)).trans b2
  have hrr := h2.rroom
  obtain ⟨u, hue⟩ : ∃ u, usedL r.L = u := ⟨_, rfl⟩
  rw [hue] at hu HU hul2
  have hd2 : decide (r.room < (u : Int) + (bl : Int)) = true := by simpa using hu
  clear hul hue
  have d0 := (((Below.refl w1.heap.size w1).alloc (Nat.le_refl _) (.cells #[.string s, .slice none 0 0, .int .i64 0, .bool false] 68)).cell (p := ⟨rb, 0, none⟩) (World.block_lt_of_cell? _ _ b0)).trans b0
  have hat2 := (h2.rowL.below ((Below.refl w1.heap.size w1).alloc (Nat.le_refl _) (.cells #[.string s, .slice none 0 0, .int .i64 0, .bool false] 68))).at HK.out
  have c0 := hat2.c0
  have c1 := hat2.c1
  have c2 := hat2.c2
  have c3 := hat2.c3
  unfold fld at c1 c2 c3
  have hfc := rfind_calls w1 _ (some A) lc r.L s h2.rowL (by omega)
  rw [HF.out] at hfc
  have HFC := Lib.hid hfc
  clear h2 hfc hat hat2 st1
  go_wp2_with fail
  refine (HN.out w1).mono ?_
  rintro e w2 ⟨rfl, rfl⟩
  go_wp2_with fail
  refine HFC.out.mono ?_
  rintro e w2 ⟨rfl, rfl⟩
  go_wp2_with fail
  go_quiet ((go_at_call 37; refine Calls.quiet_of_same (HU.out _ (below_drewN HBL.out _))))
  go_wp2_with fail
  go_ret
  exact ⟨rfl, o, H1.out.below (below_drewN HBL.out _), ST1.out.trans (RStep.below (below_drewN HBL.out _))⟩
end

end Go.Proofs.Yteonkojfnmbpoaa
namespace Go.Proofs.Yteonkojfnmbpoaa
open Go.RowKit Go.Lib Go.Maps Go.ChangeMaps Go.Sort

/-- What Append leaves where it is done. -/
def AppPost (w : World) (d o : Owner) (rb n : Nat) (r : RDm) (f : RF) (data : List UInt8) (e : Ending) (w' : World) : Prop :=
  ∃ da dc, RPost w d o rb n (didR { powerR r with L := putL r.L ⟨f.name, da, dc, data, f.done, f.there⟩ }, 0) e w'

theorem BArg.of_row {w : World} {own : Owner} {B : Nat} {v : Value} {bs : List UInt8} (h : w.ownsRow B 5 1 v bs.length (byteCells bs)) (ho : ∀ b, B ≤ b → own b = none) : BArg w own v bs := by
  have hc := fun g hg => h.cells (g := g) hg
  rcases h.2 with ⟨rfl, h0⟩ | ⟨g, cap, cur, rfl, hB, _⟩
  · exact Or.inl ⟨rfl, List.eq_nil_of_length_eq_zero h0⟩
  · refine Or.inr ⟨_, cap, rfl, fun _ => ho g hB, fun j x hx => hc g rfl _ _ ?_⟩
    simp [byteCells, hx]

def cntP (p : List RF × Bool) : Nat := if p.2 then 1 else 0
theorem stepP_len2 (x : RF) (p : List RF × Bool) (f : RF) : (stepP x p f).1.length + cntP p ≤ p.1.length + 1 + cntP (stepP x p f) := by
  by_cases h : p.2 = true ∨ f.nm < x.nm
  · rw [stepP_keep h]
    split
    · omega
    · simp [cntP]
  · have h1 : p.2 = false := Bool.eq_false_iff.2 (fun e => h (Or.inl e))
    have h2 : ¬ f.nm < x.nm := fun e => h (Or.inr e)
    rw [stepP_ins h1 h2]
    split <;> simp [cntP, h1]
theorem putP_len2 (x : RF) : ∀ (fs : List RF) (p : List RF × Bool), (fs.foldl (stepP x) p).1.length + cntP p ≤ p.1.length + fs.length + cntP (fs.foldl (stepP x) p)
  | [], p => by simp
  | f :: fs, p => by
    have h1 := stepP_len2 x p f
    have h2 := putP_len2 x fs (stepP x p f)
    simp only [List.foldl_cons, List.length_cons]
    omega
theorem putL_len (fs : List RF) (x : RF) : (putL fs x).length ≤ fs.length + 1 := by
  have h := putP_len2 x fs ([], false)
  unfold putL
  show (if (putP x fs).2 = true then _ else _ : List RF).length ≤ _
  have h' : (putP x fs).1.length + 0 ≤ 0 + fs.length + cntP (putP x fs) := h
  split
  · rename_i h2
    simp only [cntP, h2, if_true] at h'
    omega
  · rename_i h2
    simp only [cntP, h2] at h'
    simp at h' ⊢
    omega

section
variable {w w' : World} {d o : Owner} {rb n lc : Nat} {la : Option Addr} {gv : Value} {r : RDm}

set_option maxHeartbeats 4000000 in
set_option maxRecDepth 100000 in
theorem RD.append_ok (h : RD w d o rb n r) (hn : n ≤ 1000000) (hd : isOff r = false) {s : ByteArray} (hs : s.size ≤ maxLen) (hk : nameOk s.data.toList = true) {k : Nat} {f : RF} (hf : findI r.L s.data.toList = k) (hkf : r.L[k]? = some f) (ba : Option Addr) (bc : Nat) {bl : Nat} (hbl : bl ≤ 1000000000000) (hm : f.data.length + bl ≤ 262144) (hu : ¬ r.room < (usedL r.L : Int) + (bl : Int)) (hac : r.acts ≤ 1000000000000) {bs : List UInt8} (hb : BArg w (both d o) (.slice ba bl bc) bs) (hbe : bs.length = bl) :
    Calls Try.prog 10 #[.pointer (some ⟨rb, 0, none⟩), .string s, .slice ba bl bc] w (AppPost w d o rb (n + 1) r f (f.data ++ bs)) := by
  have hpw := h.power
  rw [hd] at hpw
  have HP := Lib.hid hpw
  have HN : Hid (∀ w, Calls Try.prog 30 #[.string s] w fun e w' => e = .returned (.bool true) ∧ w = w') := fun w => by rw [← hk]; exact rname_calls s w hs
  have HF := Lib.hid hf
  have HBS := Lib.hid hb
  have Hbe := Lib.hid hbe
  have HL := Lib.hid (isOff_left hd)
  have HK := Lib.hid hkf
  clear h hd hpw hk hf hkf hb hbe
  go_enter Try.func10, Try.ntmps10
  go_wp2_with fail
  refine HP.out.mono ?_
  rintro e w1 ⟨rfl, h1, st1⟩
  have ST1 := Lib.hid st1
  have H1 := Lib.hid h1
  obtain ⟨la, lc, gv, h2⟩ := h1
  obtain ⟨A, hA, _, hat⟩ := h2.rowL k f HK.out
  subst hA
  have b0 : w1.cell? ⟨rb, 0, none⟩ = some (.slice (some A) r.L.length lc) := h2.c0
  have hcnt : r.L.length + r.Gone.length ≤ n := h2.cnt
  have hkl : k < r.L.length := (List.getElem?_eq_some_iff.1 HK.out).1
  have hfl := hat.hl
  have hd1 : decide ((262144 : Int) < ((f.data.length : Int) + (bl : Int))) = false := by simp; omega
  have hul := usedL_le h2.rowL
  have hul2 : usedL r.L ≤ 262144000000 := by show usedL (powerR r).L ≤ _; have h9 : (powerR r).L.length = r.L.length := rfl; omega
  have HU : Hid (∀ W, Below w1.heap.size w1 W → Calls Try.prog 37 #[.pointer (some ⟨rb, 0, none⟩)] W fun e w' => e = .returned (.int .i64 (usedL r.L : Nat)) ∧ w' = W) := fun W hW => (rused_calls W (both d o) rb (some A) lc r.L (h2.rowL.below hW) ((hW.cell (p := ⟨rb, 0, none⟩) (World.block_lt_of_cell? _ _ b0)).trans b0) (by omega)).mono fun _ _ ⟨h8, h9⟩ => ⟨h8, h9.symm⟩
  have HBL := Lib.hid ((Below.refl w1.heap.size w1).alloc (Nat.le_refl _) (.cells #[.string f.name, .slice f.da f.data.length f.dc, .int .i64 f.done, .bool f.there] 68))
  have b2 : w1.cell? ⟨rb, 2, none⟩ = some (.int .i64 r.room) := h2.c2
  have d2 := (HBL.out.cell (p := ⟨rb, 2, none⟩) (World.block_lt_of_cell? _ _ b2)).trans b2
  have hrr := h2.rroom
  obtain ⟨u, hue⟩ : ∃ u, usedL r.L = u := ⟨_, rfl⟩
  rw [hue] at hu HU hul2
  have hd2 : decide (r.room < (u : Int) + (bl : Int)) = false := by simpa using hu
  clear hul hue
  have d0 := (((Below.refl w1.heap.size w1).alloc (Nat.le_refl _) (.cells #[.string s, .slice none 0 0, .int .i64 0, .bool false] 68)).cell (p := ⟨rb, 0, none⟩) (World.block_lt_of_cell? _ _ b0)).trans b0
  have hat2 := (h2.rowL.below ((Below.refl w1.heap.size w1).alloc (Nat.le_refl _) (.cells #[.string s, .slice none 0 0, .int .i64 0, .bool false] 68))).at HK.out
  have c0 := hat2.c0
  have c1 := hat2.c1
  have c2 := hat2.c2
  have c3 := hat2.c3
  unfold fld at c1 c2 c3
  have hfc := rfind_calls w1 _ (some A) lc r.L s h2.rowL (by omega)
  rw [HF.out] at hfc
  have HFC := Lib.hid hfc
  have H2 := Lib.hid h2
  have HG := Lib.hid hat.good
  clear h2 hfc hat hat2 st1
  go_wp2_with fail
  refine (HN.out w1).mono ?_
  rintro e w2 ⟨rfl, rfl⟩
  go_wp2_with fail
  refine HFC.out.mono ?_
  rintro e w2 ⟨rfl, rfl⟩
  go_wp2_with fail
  go_quiet ((go_at_call 37; refine Calls.quiet_of_same (HU.out _ (below_drewN HBL.out _))))
  obtain ⟨w4, hw4⟩ : ∃ w4, w4 = (w1.alloc (.cells #[.string f.name, .slice f.da f.data.length f.dc, .int .i64 f.done, .bool f.there] 68)).drewN nq := ⟨_, rfl⟩
  rw [← hw4]
  have HB4 : Hid (Below w1.heap.size w1 w4) := by rw [hw4]; exact below_drewN HBL.out _
  have HX4 : Hid (w4.heap[w1.heap.size]? = some (.cells #[.string f.name, .slice f.da f.data.length f.dc, .int .i64 f.done, .bool f.there] 68 (0, 0))) := by rw [hw4]; exact heap_alloc_new w1 _
  have Hlt4 : Hid (w1.heap.size < w4.heap.size) := (Array.getElem?_eq_some_iff.1 HX4.out).1
  have HB5 := Lib.hid ((Below.refl w4.heap.size w4).alloc (Nat.le_refl _) (.cells #[] 5))
  have x1 : w4.cell? ⟨w1.heap.size, 1, none⟩ = some (.slice f.da f.data.length f.dc) := cell_of_blk HX4.out rfl
  have x2 := (HB5.out.cell (p := ⟨w1.heap.size, 1, none⟩) Hlt4.out).trans x1
  have HO5 := Lib.hid (hown_empty w4)
  have HBF := Lib.hid ((HG.out.hb.step (below_step (both d o) HB4.out)).step (below_step _ HB5.out))
  clear hw4 c0 c1 c2 c3 d0 d2 b2
  go_wp2_with (first
    | (at_builtin; refine wpList_append_bargB rfl (.tmp 63) (.tmp 65) rfl HBF.out HO5.out (by simp) (by omega) rfl rfl ?_; intro a6 c6 w6 hown6 hgrow6; have HB6 := Lib.hid (((Below.refl w4.heap.size w4).alloc (Nat.le_refl _) (.cells #[] 5)).grown hgrow6 (by simp) (fun k hk => by simp [Value.ownBlock] at hk; omega)); (rw [Nat.zero_add, List.nil_append] at hown6); have HO6 := Lib.hid hown6; have HBB := Lib.hid (((HBS.out.step (ST1.out.both d)).step (below_step _ HB4.out)).step (below_step _ HB6.out)); clear hown6 hgrow6 HBF HO5 x1 x2)
    | (at_builtin; refine wpList_append_bargB rfl (.tmp 66) (.tmp 67) rfl HBB.out HO6.out HB6.out.size (by rw [Hbe.out]; omega) rfl rfl ?_; intro a7 c7 w7 hown7 hgrow7; have HB7 := Lib.hid (HB6.out.grown hgrow7 HB6.out.size (fun q hq => (HO6.out.lt q hq).1)); have HO7 := Lib.hid hown7; have x3 : w7.cell? ⟨w1.heap.size, 1, none⟩ = some (.slice f.da f.data.length f.dc) := (HB7.out.cell (p := ⟨w1.heap.size, 1, none⟩) Hlt4.out).trans (cell_of_blk HX4.out rfl); have x4 : w7.frozen? ⟨w1.heap.size, 1, none⟩ = false := frozen_of_blk ((HB7.out.block _ Hlt4.out).trans HX4.out); clear hown7 hgrow7 HBB HO6 HB6))
  obtain ⟨W8, hW8⟩ : ∃ W8, W8 = w7.setCell ⟨w1.heap.size, 1, none⟩ (.slice a7 (f.data.length + bs.length) c7) := ⟨_, rfl⟩
  rw [← hW8]
  have hB7 : Below w1.heap.size w1 w7 := HB4.out.trans (HB7.out.mono (Nat.le_of_lt Hlt4.out))
  have HB8 : Hid (Below w1.heap.size w1 W8) := by
    rw [hW8]
    exact hB7.trans (((Fr.refl (fun b => b = w1.heap.size) w7).setCell _ _ (fun _ => rfl)).to_below hB7.size (fun k hk e => by omega))
  have hblk : W8.heap[w1.heap.size]? = some (.cells #[.string f.name, .slice a7 (f.data.length + bs.length) c7, .int .i64 f.done, .bool f.there] 68 (0, 0)) := by
    rw [hW8]
    exact setCell_blk ((HB7.out.block _ Hlt4.out).trans HX4.out) _
  have y0 : W8.cell? ⟨w1.heap.size, 0, none⟩ = some (.string f.name) := cell_of_blk hblk rfl
  have y1 : W8.cell? ⟨w1.heap.size, 1, none⟩ = some (.slice a7 (f.data.length + bs.length) c7) := cell_of_blk hblk rfl
  have y2 : W8.cell? ⟨w1.heap.size, 2, none⟩ = some (.int .i64 f.done) := cell_of_blk hblk rfl
  have y3 : W8.cell? ⟨w1.heap.size, 3, none⟩ = some (.bool f.there) := cell_of_blk hblk rfl
  have y4 := (HB8.out.cell (p := ⟨rb, 0, none⟩) (World.block_lt_of_cell? _ _ b0)).trans b0
  have hlen7 : (f.data ++ bs).length = f.data.length + bs.length := List.length_append
  have hrow8 : W8.ownsRow w4.heap.size 5 1 (.slice a7 (f.data ++ bs).length c7) (f.data ++ bs).length (byteCells (f.data ++ bs)) := by
    rw [hlen7, hW8, show byteCells (f.data ++ bs) = byteCells f.data ++ byteCells bs by simp [byteCells]]
    exact ownsRow_of_block HO7.out (fun g hg => Below.heap_setCell _ _ _ _ (fun e => by have h8 := (HO7.out.lt g hg).1; have h9 := Hlt4.out; dsimp only at e; omega))
  have hcap8 : (f.data ++ bs).length ≤ c7 := by
    rcases hrow8.2 with ⟨e, h0⟩ | ⟨g, cap, cur, e, _, _, h1, _⟩
    · rw [h0]; exact Nat.zero_le _
    · injection e with _ _ e
      rw [e]; exact h1
  obtain ⟨x, hx⟩ : ∃ x, x = (⟨f.name, a7, c7, f.data ++ bs, f.done, f.there⟩ : RF) := ⟨_, rfl⟩
  have hgx : FGood W8.drew (both d o) x := by
    rw [hx]
    have h8 : FGood W8 (both d o) ⟨f.name, a7, c7, f.data ++ bs, f.done, f.there⟩ := ⟨HG.out.hname, BArg.of_row hrow8 (fun b hb => both_none.2 (H2.out.old b (by have := Hlt4.out; omega))), hcap8, by show (f.data ++ bs).length ≤ _; rw [hlen7, Hbe.out]; exact hm, by have := HG.out.hdone; show f.done ≤ (f.data ++ bs).length; rw [hlen7]; omega⟩
    exact h8.step (below_step _ (Below.refl _ _).drew)
  have hput := rput_calls W8.drew (both d o) (some A) lc r.L x (H2.out.rowL.below HB8.out.drew) (by omega) hgx (fun b hb => both_none.2 (H2.out.old b (Nat.le_trans HB8.out.drew.size hb)))
  rw [show rfVal x = .agg #[.string f.name, .slice a7 (f.data.length + bs.length) c7, .int .i64 f.done, .bool f.there] by rw [hx]; simp [rfVal]] at hput
  have HPUT := Lib.hid hput
  have Hx := Lib.hid hx
  clear hput hgx hcap8 hrow8 hlen7 hblk hB7 hx x3 x4 HO7 hW8
  go_region_with (go_at_call 32; refine HPUT.out.mono ?_; rintro e w9 ⟨a9, c9, rfl, hr9, hb9⟩; have HB9 := Lib.hid (HB8.out.drew.trans (hb9.mono HB8.out.drew.size)); have z0 := (HB9.out.cell (p := ⟨rb, 0, none⟩) (World.block_lt_of_cell? _ _ b0)).trans b0; have z1 : w9.frozen? ⟨rb, 0, none⟩ = false := frozen_of_blk ((HB9.out.block rb (H2.out.lt (by simp [H2.out.orb]))).trans H2.out.blk); have HR9 := Lib.hid hr9; clear hr9 hb9)
  all_goals
    obtain ⟨h4, st4⟩ := H2.out.setL (n' := n + 1) HB9.out (lc' := c9) HR9.out (by have := putL_len r.L x; have h9 : (powerR r).Gone.length = r.Gone.length := rfl; omega)
    have hdid := RD.did (w := w9.setCell ⟨rb, 0, none⟩ (.slice a9 (putL r.L x).length c9)) ⟨_, _, _, h4⟩ (by show r.acts ≤ _; omega) (fun e => by have h5 := HL.out e; have h6 := H2.out.rleft; show 0 < (powerR r).left; omega)
    have HD := Lib.hid hdid
    have ST5 := Lib.hid st4
    clear h4 st4 hdid
    go_wp2_with fail
    refine HD.out.mono ?_
    rintro e w5 ⟨rfl, h5, st5⟩
    have H5 := Lib.hid h5
    clear h5
    go_wp2_with fail
    go_ret
    exact ⟨a7, c7, rfl, o, by rw [← Hx.out]; exact H5.out, (ST1.out.trans ST5.out).trans st5⟩
end

end Go.Proofs.Yteonkojfnmbpoaa
namespace Go.Proofs.Yteonkojfnmbpoaa
open Go.RowKit Go.Lib Go.Maps Go.ChangeMaps Go.Sort

section
variable {w w' : World} {d o : Owner} {rb n lc : Nat} {la : Option Addr} {gv : Value} {r : RDm}

set_option maxHeartbeats 4000000 in
set_option maxRecDepth 100000 in
theorem RD.appendn_many (h : RD w d o rb n r) (hn : n ≤ 1000000) (hd : isOff r = false) {s : ByteArray} (hs : s.size ≤ maxLen) (hk : nameOk s.data.toList = true) (hf : findI r.L s.data.toList = -1) (ba : Option Addr) (bc : Nat) {bl : Nat} (hbl : bl ≤ 1000000000000) (hm : 64 ≤ r.L.length) :
    Calls Try.prog 10 #[.pointer (some ⟨rb, 0, none⟩), .string s, .slice ba bl bc] w (RPost w d o rb n (powerR r, 2)) := by
  have hpw := h.power
  rw [hd] at hpw
  have HP := Lib.hid hpw
  have HN : Hid (∀ w, Calls Try.prog 30 #[.string s] w fun e w' => e = .returned (.bool true) ∧ w = w') := fun w => by rw [← hk]; exact rname_calls s w hs
  have HF := Lib.hid hf
  clear h hd hpw hk hf
  go_enter Try.func10, Try.ntmps10
  go_wp2_with fail
  refine HP.out.mono ?_
  rintro e w1 ⟨rfl, h1, st1⟩
  have ST1 := Lib.hid st1
  have H1 := Lib.hid h1
  obtain ⟨la, lc, gv, h2⟩ := h1
  have b0 : w1.cell? ⟨rb, 0, none⟩ = some (.slice la r.L.length lc) := h2.c0
  have hcnt : r.L.length + r.Gone.length ≤ n := h2.cnt
  have hd3 : decide ((64 : Int) ≤ (r.L.length : Int)) = true := by simp; omega
  have HBL := Lib.hid ((Below.refl w1.heap.size w1).alloc (Nat.le_refl _) (.cells #[.string s, .slice none 0 0, .int .i64 0, .bool false] 68))
  have d0 := (HBL.out.cell (p := ⟨rb, 0, none⟩) (World.block_lt_of_cell? _ _ b0)).trans b0
  have hfc := rfind_calls w1 _ la lc r.L s h2.rowL (by omega)
  rw [HF.out] at hfc
  have HFC := Lib.hid hfc
  clear h2 hfc st1
  go_wp2_with fail
  refine (HN.out w1).mono ?_
  rintro e w2 ⟨rfl, rfl⟩
  go_wp2_with fail
  refine HFC.out.mono ?_
  rintro e w2 ⟨rfl, rfl⟩
  go_wp2_with fail
  go_ret
  exact ⟨rfl, o, H1.out.below HBL.out, ST1.out.trans (RStep.below HBL.out)⟩

set_option maxHeartbeats 4000000 in
set_option maxRecDepth 100000 in
theorem RD.appendn_long (h : RD w d o rb n r) (hn : n ≤ 1000000) (hd : isOff r = false) {s : ByteArray} (hs : s.size ≤ maxLen) (hk : nameOk s.data.toList = true) (hf : findI r.L s.data.toList = -1) (ba : Option Addr) (bc : Nat) {bl : Nat} (hbl : bl ≤ 1000000000000) (hm : r.L.length < 64) (hm2 : 262144 < bl) :
    Calls Try.prog 10 #[.pointer (some ⟨rb, 0, none⟩), .string s, .slice ba bl bc] w (RPost w d o rb n (powerR r, 2)) := by
  have hpw := h.power
  rw [hd] at hpw
  have HP := Lib.hid hpw
  have HN : Hid (∀ w, Calls Try.prog 30 #[.string s] w fun e w' => e = .returned (.bool true) ∧ w = w') := fun w => by rw [← hk]; exact rname_calls s w hs
  have HF := Lib.hid hf
  clear h hd hpw hk hf
  go_enter Try.func10, Try.ntmps10
  go_wp2_with fail
  refine HP.out.mono ?_
  rintro e w1 ⟨rfl, h1, st1⟩
  have ST1 := Lib.hid st1
  have H1 := Lib.hid h1
  obtain ⟨la, lc, gv, h2⟩ := h1
  have b0 : w1.cell? ⟨rb, 0, none⟩ = some (.slice la r.L.length lc) := h2.c0
  have hcnt : r.L.length + r.Gone.length ≤ n := h2.cnt
  have hd1 : decide ((262144 : Int) < (bl : Int)) = true := by simp; omega
  have hd3 : decide ((64 : Int) ≤ (r.L.length : Int)) = false := by simp; omega
  have HBL := Lib.hid ((Below.refl w1.heap.size w1).alloc (Nat.le_refl _) (.cells #[.string s, .slice none 0 0, .int .i64 0, .bool false] 68))
  have d0 := (HBL.out.cell (p := ⟨rb, 0, none⟩) (World.block_lt_of_cell? _ _ b0)).trans b0
  have hfc := rfind_calls w1 _ la lc r.L s h2.rowL (by omega)
  rw [HF.out] at hfc
  have HFC := Lib.hid hfc
  clear h2 hfc st1
  go_wp2_with fail
  refine (HN.out w1).mono ?_
  rintro e w2 ⟨rfl, rfl⟩
  go_wp2_with fail
  refine HFC.out.mono ?_
  rintro e w2 ⟨rfl, rfl⟩
  go_wp2_with fail
  go_ret
  exact ⟨rfl, o, H1.out.below HBL.out, ST1.out.trans (RStep.below HBL.out)⟩

set_option maxHeartbeats 4000000 in
set_option maxRecDepth 100000 in
theorem RD.appendn_full (h : RD w d o rb n r) (hn : n ≤ 1000000) (hd : isOff r = false) {s : ByteArray} (hs : s.size ≤ maxLen) (hk : nameOk s.data.toList = true) (hf : findI r.L s.data.toList = -1) (ba : Option Addr) (bc : Nat) {bl : Nat} (hbl : bl ≤ 1000000000000) (hm : r.L.length < 64) (hm2 : bl ≤ 262144) (hu : r.room < (usedL r.L : Int) + (bl : Int)) :
    Calls Try.prog 10 #[.pointer (some ⟨rb, 0, none⟩), .string s, .slice ba bl bc] w (RPost w d o rb n (powerR r, 11)) := by
  have hpw := h.power
  rw [hd] at hpw
  have HP := Lib.hid hpw
  have HN : Hid (∀ w, Calls Try.prog 30 #[.string s] w fun e w' => e = .returned (.bool true) ∧ w = w') := fun w => by rw [← hk]; exact rname_calls s w hs
  have HF := Lib.hid hf
  clear h hd hpw hk hf
  go_enter Try.func10, Try.ntmps10
  go_wp2_with fail
  refine HP.out.mono ?_
  rintro e w1 ⟨rfl, h1, st1⟩
  have ST1 := Lib.hid st1
  have H1 := Lib.hid h1
  obtain ⟨la, lc, gv, h2⟩ := h1
  have b0 : w1.cell? ⟨rb, 0, none⟩ = some (.slice la r.L.length lc) := h2.c0
  have hcnt : r.L.length + r.Gone.length ≤ n := h2.cnt
  have hd1 : decide ((262144 : Int) < (bl : Int)) = false := by simp; omega
  have hd3 : decide ((64 : Int) ≤ (r.L.length : Int)) = false := by simp; omega
  have HBL := Lib.hid ((Below.refl w1.heap.size w1).alloc (Nat.le_refl _) (.cells #[.string s, .slice none 0 0, .int .i64 0, .bool false] 68))
  have d0 := (HBL.out.cell (p := ⟨rb, 0, none⟩) (World.block_lt_of_cell? _ _ b0)).trans b0
  have hfc := rfind_calls w1 _ la lc r.L s h2.rowL (by omega)
  rw [HF.out] at hfc
  have HFC := Lib.hid hfc
  have hul := usedL_le h2.rowL
  have hul2 : usedL r.L ≤ 262144000000 := by show usedL (powerR r).L ≤ _; have h9 : (powerR r).L.length = r.L.length := rfl; omega
  have HU : Hid (∀ W, Below w1.heap.size w1 W → Calls Try.prog 37 #[.pointer (some ⟨rb, 0, none⟩)] W fun e w' => e = .returned (.int .i64 (usedL r.L : Nat)) ∧ w' = W) := fun W hW => (rused_calls W (both d o) rb la lc r.L (h2.rowL.below hW) ((hW.cell (p := ⟨rb, 0, none⟩) (World.block_lt_of_cell? _ _ b0)).trans b0) (by omega)).mono fun _ _ ⟨h8, h9⟩ => ⟨h8, h9.symm⟩
  have b2 : w1.cell? ⟨rb, 2, none⟩ = some (.int .i64 r.room) := h2.c2
  have d2 := (HBL.out.cell (p := ⟨rb, 2, none⟩) (World.block_lt_of_cell? _ _ b2)).trans b2
  have hrr := h2.rroom
  obtain ⟨u, hue⟩ : ∃ u, usedL r.L = u := ⟨_, rfl⟩
  rw [hue] at hu HU hul2
  have hd2 : decide (r.room < (u : Int) + (bl : Int)) = true := by simpa using hu
  clear hul hue
  clear h2 hfc st1
  go_wp2_with fail
  refine (HN.out w1).mono ?_
  rintro e w2 ⟨rfl, rfl⟩
  go_wp2_with fail
  refine HFC.out.mono ?_
  rintro e w2 ⟨rfl, rfl⟩
  go_wp2_with fail
  go_quiet ((go_at_call 37; refine Calls.quiet_of_same (HU.out _ (below_drewN HBL.out _))))
  go_wp2_with fail
  go_ret
  exact ⟨rfl, o, H1.out.below (below_drewN HBL.out _), ST1.out.trans (RStep.below (below_drewN HBL.out _))⟩

set_option maxHeartbeats 4000000 in
set_option maxRecDepth 100000 in
theorem RD.appendn_ok (h : RD w d o rb n r) (hn : n ≤ 1000000) (hd : isOff r = false) {s : ByteArray} (hs : s.size ≤ maxLen) (hk : nameOk s.data.toList = true) (hf : findI r.L s.data.toList = -1) (ba : Option Addr) (bc : Nat) {bl : Nat} (hbl : bl ≤ 1000000000000) (hm : r.L.length < 64) (hm2 : bl ≤ 262144) (hu : ¬ r.room < (usedL r.L : Int) + (bl : Int)) (hac : r.acts ≤ 1000000000000) {bs : List UInt8} (hb : BArg w (both d o) (.slice ba bl bc) bs) (hbe : bs.length = bl) :
    Calls Try.prog 10 #[.pointer (some ⟨rb, 0, none⟩), .string s, .slice ba bl bc] w (AppPost w d o rb (n + 1) r ⟨s, none, 0, [], 0, false⟩ bs) := by
  have hpw := h.power
  rw [hd] at hpw
  have HP := Lib.hid hpw
  have HN : Hid (∀ w, Calls Try.prog 30 #[.string s] w fun e w' => e = .returned (.bool true) ∧ w = w') := fun w => by rw [← hk]; exact rname_calls s w hs
  have HF := Lib.hid hf
  have HBS := Lib.hid hb
  have Hbe := Lib.hid hbe
  have HL := Lib.hid (isOff_left hd)
  clear hb hbe
  clear h hd hpw hk hf
  go_enter Try.func10, Try.ntmps10
  go_wp2_with fail
  refine HP.out.mono ?_
  rintro e w1 ⟨rfl, h1, st1⟩
  have ST1 := Lib.hid st1
  have H1 := Lib.hid h1
  obtain ⟨la, lc, gv, h2⟩ := h1
  have b0 : w1.cell? ⟨rb, 0, none⟩ = some (.slice la r.L.length lc) := h2.c0
  have hcnt : r.L.length + r.Gone.length ≤ n := h2.cnt
  have hd1 : decide ((262144 : Int) < (bl : Int)) = false := by simp; omega
  have hd3 : decide ((64 : Int) ≤ (r.L.length : Int)) = false := by simp; omega
  have HBL := Lib.hid ((Below.refl w1.heap.size w1).alloc (Nat.le_refl _) (.cells #[.string s, .slice none 0 0, .int .i64 0, .bool false] 68))
  have d0 := (HBL.out.cell (p := ⟨rb, 0, none⟩) (World.block_lt_of_cell? _ _ b0)).trans b0
  have hfc := rfind_calls w1 _ la lc r.L s h2.rowL (by omega)
  rw [HF.out] at hfc
  have HFC := Lib.hid hfc
  have hul := usedL_le h2.rowL
  have hul2 : usedL r.L ≤ 262144000000 := by show usedL (powerR r).L ≤ _; have h9 : (powerR r).L.length = r.L.length := rfl; omega
  have HU : Hid (∀ W, Below w1.heap.size w1 W → Calls Try.prog 37 #[.pointer (some ⟨rb, 0, none⟩)] W fun e w' => e = .returned (.int .i64 (usedL r.L : Nat)) ∧ w' = W) := fun W hW => (rused_calls W (both d o) rb la lc r.L (h2.rowL.below hW) ((hW.cell (p := ⟨rb, 0, none⟩) (World.block_lt_of_cell? _ _ b0)).trans b0) (by omega)).mono fun _ _ ⟨h8, h9⟩ => ⟨h8, h9.symm⟩
  have b2 : w1.cell? ⟨rb, 2, none⟩ = some (.int .i64 r.room) := h2.c2
  have d2 := (HBL.out.cell (p := ⟨rb, 2, none⟩) (World.block_lt_of_cell? _ _ b2)).trans b2
  have hrr := h2.rroom
  obtain ⟨u, hue⟩ : ∃ u, usedL r.L = u := ⟨_, rfl⟩
  rw [hue] at hu HU hul2
  have hd2 : decide (r.room < (u : Int) + (bl : Int)) = false := by simpa using hu
  clear hul hue
  have H2 := Lib.hid h2
  clear h2 hfc st1
  go_wp2_with fail
  refine (HN.out w1).mono ?_
  rintro e w2 ⟨rfl, rfl⟩
  go_wp2_with fail
  refine HFC.out.mono ?_
  rintro e w2 ⟨rfl, rfl⟩
  go_wp2_with fail
  go_quiet ((go_at_call 37; refine Calls.quiet_of_same (HU.out _ (below_drewN HBL.out _))))
  obtain ⟨w4, hw4⟩ : ∃ w4, w4 = (w1.alloc (.cells #[.string s, .slice none 0 0, .int .i64 0, .bool false] 68)).drewN nq := ⟨_, rfl⟩
  rw [← hw4]
  have HB4 : Hid (Below w1.heap.size w1 w4) := by rw [hw4]; exact below_drewN HBL.out _
  have HX4 : Hid (w4.heap[w1.heap.size]? = some (.cells #[.string s, .slice none 0 0, .int .i64 0, .bool false] 68 (0, 0))) := by rw [hw4]; exact heap_alloc_new w1 _
  have Hlt4 : Hid (w1.heap.size < w4.heap.size) := (Array.getElem?_eq_some_iff.1 HX4.out).1
  have HB5 := Lib.hid ((Below.refl w4.heap.size w4).alloc (Nat.le_refl _) (.cells #[] 5))
  have x1 : w4.cell? ⟨w1.heap.size, 1, none⟩ = some (.slice none 0 0) := cell_of_blk HX4.out rfl
  have x2 := (HB5.out.cell (p := ⟨w1.heap.size, 1, none⟩) Hlt4.out).trans x1
  have HO5 := Lib.hid (hown_empty w4)
  have HBF := Lib.hid ((Or.inl ⟨rfl, rfl⟩ : BArg (w4.alloc (.cells #[] 5)) (both d o) (.slice none 0 0) []))
  clear hw4 d0 d2 b2
  go_wp2_with (first
    | (at_builtin; refine wpList_append_bargB rfl (.tmp 63) (.tmp 65) rfl HBF.out HO5.out (by simp) (by simp) rfl rfl ?_; intro a6 c6 w6 hown6 hgrow6; have HB6 := Lib.hid (((Below.refl w4.heap.size w4).alloc (Nat.le_refl _) (.cells #[] 5)).grown hgrow6 (by simp) (fun k hk => by simp [Value.ownBlock] at hk; omega)); (simp only [List.length_nil, Nat.add_zero, List.nil_append] at hown6); have HO6 := Lib.hid hown6; have HBB := Lib.hid (((HBS.out.step (ST1.out.both d)).step (below_step _ HB4.out)).step (below_step _ HB6.out)); clear hown6 hgrow6 HBF HO5 x1 x2)
    | (at_builtin; refine wpList_append_bargB rfl (.tmp 66) (.tmp 67) rfl HBB.out HO6.out HB6.out.size (by rw [Hbe.out]; omega) rfl rfl ?_; intro a7 c7 w7 hown7 hgrow7; have HB7 := Lib.hid (HB6.out.grown hgrow7 HB6.out.size (fun q hq => (HO6.out.lt q hq).1)); (simp only [Nat.zero_add, byteCells, List.map_nil, List.nil_append] at hown7); have HO7 := Lib.hid hown7; have x3 : w7.cell? ⟨w1.heap.size, 1, none⟩ = some (.slice none 0 0) := (HB7.out.cell (p := ⟨w1.heap.size, 1, none⟩) Hlt4.out).trans (cell_of_blk HX4.out rfl); have x4 : w7.frozen? ⟨w1.heap.size, 1, none⟩ = false := frozen_of_blk ((HB7.out.block _ Hlt4.out).trans HX4.out); clear hown7 hgrow7 HBB HO6 HB6))
  obtain ⟨W8, hW8⟩ : ∃ W8, W8 = w7.setCell ⟨w1.heap.size, 1, none⟩ (.slice a7 (bs.length) c7) := ⟨_, rfl⟩
  rw [← hW8]
  have hB7 : Below w1.heap.size w1 w7 := HB4.out.trans (HB7.out.mono (Nat.le_of_lt Hlt4.out))
  have HB8 : Hid (Below w1.heap.size w1 W8) := by
    rw [hW8]
    exact hB7.trans (((Fr.refl (fun b => b = w1.heap.size) w7).setCell _ _ (fun _ => rfl)).to_below hB7.size (fun k hk e => by omega))
  have hblk : W8.heap[w1.heap.size]? = some (.cells #[.string s, .slice a7 (bs.length) c7, .int .i64 0, .bool false] 68 (0, 0)) := by
    rw [hW8]
    exact setCell_blk ((HB7.out.block _ Hlt4.out).trans HX4.out) _
  have y0 : W8.cell? ⟨w1.heap.size, 0, none⟩ = some (.string s) := cell_of_blk hblk rfl
  have y1 : W8.cell? ⟨w1.heap.size, 1, none⟩ = some (.slice a7 (bs.length) c7) := cell_of_blk hblk rfl
  have y2 : W8.cell? ⟨w1.heap.size, 2, none⟩ = some (.int .i64 0) := cell_of_blk hblk rfl
  have y3 : W8.cell? ⟨w1.heap.size, 3, none⟩ = some (.bool false) := cell_of_blk hblk rfl
  have y4 := (HB8.out.cell (p := ⟨rb, 0, none⟩) (World.block_lt_of_cell? _ _ b0)).trans b0
  have hlen7 : (bs).length = bs.length := rfl
  have hrow8 : W8.ownsRow w4.heap.size 5 1 (.slice a7 (bs).length c7) (bs).length (byteCells (bs)) := by
    rw [hW8]
    exact ownsRow_of_block HO7.out (fun g hg => Below.heap_setCell _ _ _ _ (fun e => by have h8 := (HO7.out.lt g hg).1; have h9 := Hlt4.out; dsimp only at e; omega))
  have hcap8 : (bs).length ≤ c7 := by
    rcases hrow8.2 with ⟨e, h0⟩ | ⟨g, cap, cur, e, _, _, h1, _⟩
    · rw [h0]; exact Nat.zero_le _
    · injection e with _ _ e
      rw [e]; exact h1
  obtain ⟨x, hx⟩ : ∃ x, x = (⟨s, a7, c7, bs, 0, false⟩ : RF) := ⟨_, rfl⟩
  have hgx : FGood W8.drew (both d o) x := by
    rw [hx]
    have h8 : FGood W8 (both d o) ⟨s, a7, c7, bs, 0, false⟩ := ⟨hs, BArg.of_row hrow8 (fun b hb => both_none.2 (H2.out.old b (by have := Hlt4.out; omega))), hcap8, by show bs.length ≤ _; rw [Hbe.out]; exact hm2, Nat.zero_le _⟩
    exact h8.step (below_step _ (Below.refl _ _).drew)
  have hput := rput_calls W8.drew (both d o) la lc r.L x (H2.out.rowL.below HB8.out.drew) (by omega) hgx (fun b hb => both_none.2 (H2.out.old b (Nat.le_trans HB8.out.drew.size hb)))
  rw [show rfVal x = .agg #[.string s, .slice a7 (bs.length) c7, .int .i64 0, .bool false] by rw [hx]; simp [rfVal]] at hput
  have HPUT := Lib.hid hput
  have Hx := Lib.hid hx
  clear hput hgx hcap8 hrow8 hlen7 hblk hB7 hx x3 x4 HO7 hW8
  go_region_with (go_at_call 32; refine HPUT.out.mono ?_; rintro e w9 ⟨a9, c9, rfl, hr9, hb9⟩; have HB9 := Lib.hid (HB8.out.drew.trans (hb9.mono HB8.out.drew.size)); have z0 := (HB9.out.cell (p := ⟨rb, 0, none⟩) (World.block_lt_of_cell? _ _ b0)).trans b0; have z1 : w9.frozen? ⟨rb, 0, none⟩ = false := frozen_of_blk ((HB9.out.block rb (H2.out.lt (by simp [H2.out.orb]))).trans H2.out.blk); have HR9 := Lib.hid hr9; clear hr9 hb9)
  all_goals
    obtain ⟨h4, st4⟩ := H2.out.setL (n' := n + 1) HB9.out (lc' := c9) HR9.out (by have := putL_len r.L x; have h9 : (powerR r).Gone.length = r.Gone.length := rfl; omega)
    have hdid := RD.did (w := w9.setCell ⟨rb, 0, none⟩ (.slice a9 (putL r.L x).length c9)) ⟨_, _, _, h4⟩ (by show r.acts ≤ _; omega) (fun e => by have h5 := HL.out e; have h6 := H2.out.rleft; show 0 < (powerR r).left; omega)
    have HD := Lib.hid hdid
    have ST5 := Lib.hid st4
    clear h4 st4 hdid
    go_wp2_with fail
    refine HD.out.mono ?_
    rintro e w5 ⟨rfl, h5, st5⟩
    have H5 := Lib.hid h5
    clear h5
    go_wp2_with fail
    go_ret
    exact ⟨a7, c7, rfl, o, by rw [← Hx.out]; exact H5.out, (ST1.out.trans ST5.out).trans st5⟩
end

end Go.Proofs.Yteonkojfnmbpoaa
namespace Go.Proofs.Yteonkojfnmbpoaa
open Go.RowKit Go.Lib Go.Maps Go.ChangeMaps Go.Sort

/-- The file of a name, as Append finds it. -/
def fileR (r : RDm) (s : ByteArray) : RF := (r.L.find? (fun f => f.nm == s.data.toList)).getD ⟨s, none, 0, [], 0, false⟩
/-- Is it too much? -/
def tooR (r : RDm) (nm : List UInt8) (bl : Nat) : Prop := (r.L.find? (fun f => f.nm == nm) = none ∧ 64 ≤ r.L.length) ∨ 262144 < ((r.L.find? (fun f => f.nm == nm)).map (·.data.length)).getD 0 + bl
instance (r : RDm) (nm : List UInt8) (bl : Nat) : Decidable (tooR r nm bl) := by unfold tooR; exact inferInstance
/-- What Append answers, and what the device is then; x: the file with its new bytes. -/
def appendR (r : RDm) (nm : List UInt8) (bl : Nat) (x : RF) : RDm × Int :=
  if isOff r then (powerR r, 13)
  else if nameOk nm = false then (powerR r, 1)
  else if tooR r nm bl then (powerR r, 2)
  else if r.room < (usedL r.L : Int) + (bl : Int) then (powerR r, 11)
  else (didR { powerR r with L := putL r.L x }, 0)

/-- A file with other bytes, wherever they lie. -/
structure Grown (f : RF) (bs : List UInt8) (x : RF) : Prop where
  name : x.name = f.name
  data : x.data = f.data ++ bs
  done : x.done = f.done
  there : x.there = f.there

section
variable {w w' : World} {d o : Owner} {rb n lc : Nat} {la : Option Addr} {gv : Value} {r : RDm}

theorem RD.append (h : RD w d o rb n r) (hn : n ≤ 1000000) (hac : r.acts ≤ 1000000000000) {s : ByteArray} (hs : s.size ≤ maxLen) {bv : Value} {bs : List UInt8} (hb : BArg w (both d o) bv bs) (hbl : bs.length ≤ 1000000000000) :
    Calls Try.prog 10 #[.pointer (some ⟨rb, 0, none⟩), .string s, bv] w fun e w' => ∃ x, Grown (fileR r s) bs x ∧ RPost w d o rb (n + 1) (appendR r s.data.toList bs.length x) e w' := by
  have up : ∀ {y : RDm × Int} {e : Ending} {w' : World}, RPost w d o rb n y e w' → RPost w d o rb (n + 1) y e w' := fun ⟨h1, o', h2, h3⟩ => ⟨h1, o', h2.mono (Nat.le_succ _), h3⟩
  obtain ⟨ba, bc, rfl⟩ := hb.len
  have any : Grown (fileR r s) bs { fileR r s with data := (fileR r s).data ++ bs } := ⟨rfl, rfl, rfl, rfl⟩
  cases hd : isOff r with
  | true =>
    refine (h.append_off hd s _).mono fun e w' hp => ⟨_, any, ?_⟩
    unfold appendR
    rw [if_pos hd]
    exact up hp
  | false =>
  have hd' : ¬ isOff r = true := by rw [hd]; simp
  cases hk : nameOk s.data.toList with
  | false =>
    refine (h.append_bad hd hs hk _).mono fun e w' hp => ⟨_, any, ?_⟩
    unfold appendR
    rw [if_neg hd', if_pos hk]
    exact up hp
  | true =>
  have hk' : ¬ nameOk s.data.toList = false := by rw [hk]; simp
  rcases findI_cases r.L s.data.toList with ⟨hf, hfi⟩ | ⟨k, f, hf, hkf, _, hfi⟩
  · have hfile : fileR r s = ⟨s, none, 0, [], 0, false⟩ := by unfold fileR; rw [hfi]; rfl
    by_cases h1 : 64 ≤ r.L.length
    · refine (h.appendn_many hn hd hs hk hf ba bc hbl h1).mono fun e w' hp => ⟨_, any, ?_⟩
      unfold appendR
      rw [if_neg hd', if_neg hk', if_pos (show tooR r s.data.toList bs.length from Or.inl ⟨hfi, h1⟩)]
      exact up hp
    by_cases h2 : 262144 < bs.length
    · refine (h.appendn_long hn hd hs hk hf ba bc hbl (by omega) h2).mono fun e w' hp => ⟨_, any, ?_⟩
      unfold appendR
      rw [if_neg hd', if_neg hk', if_pos (show tooR r s.data.toList bs.length from Or.inr (by rw [hfi]; simpa using h2))]
      exact up hp
    have h3 : ¬ tooR r s.data.toList bs.length := by
      rintro (⟨_, h4⟩ | h4)
      · exact h1 h4
      · rw [hfi] at h4
        simp at h4
        omega
    by_cases hu : r.room < (usedL r.L : Int) + (bs.length : Int)
    · refine (h.appendn_full hn hd hs hk hf ba bc hbl (by omega) (by omega) hu).mono fun e w' hp => ⟨_, any, ?_⟩
      unfold appendR
      rw [if_neg hd', if_neg hk', if_neg h3, if_pos hu]
      exact up hp
    · refine (h.appendn_ok hn hd hs hk hf ba bc hbl (by omega) (by omega) hu hac hb rfl).mono ?_
      rintro e w' ⟨da, dc, hp⟩
      refine ⟨⟨s, da, dc, bs, 0, false⟩, by rw [hfile]; exact ⟨rfl, rfl, rfl, rfl⟩, ?_⟩
      unfold appendR
      rw [if_neg hd', if_neg hk', if_neg h3, if_neg hu]
      exact hp
  · have hfile : fileR r s = f := by unfold fileR; rw [hfi]; rfl
    by_cases h2 : 262144 < f.data.length + bs.length
    · refine (h.append_many hn hd hs hk hf hkf ba bc hbl h2).mono fun e w' hp => ⟨_, any, ?_⟩
      unfold appendR
      rw [if_neg hd', if_neg hk', if_pos (show tooR r s.data.toList bs.length from Or.inr (by rw [hfi]; simpa using h2))]
      exact up hp
    have h3 : ¬ tooR r s.data.toList bs.length := by
      rintro (⟨h4, _⟩ | h4)
      · rw [hfi] at h4
        cases h4
      · rw [hfi] at h4
        simp at h4
        omega
    by_cases hu : r.room < (usedL r.L : Int) + (bs.length : Int)
    · refine (h.append_full hn hd hs hk hf hkf ba bc hbl (by omega) hu).mono fun e w' hp => ⟨_, any, ?_⟩
      unfold appendR
      rw [if_neg hd', if_neg hk', if_neg h3, if_pos hu]
      exact up hp
    · refine (h.append_ok hn hd hs hk hf hkf ba bc hbl (by omega) hu hac hb rfl).mono ?_
      rintro e w' ⟨da, dc, hp⟩
      refine ⟨⟨f.name, da, dc, f.data ++ bs, f.done, f.there⟩, by rw [hfile]; exact ⟨rfl, rfl, rfl, rfl⟩, ?_⟩
      unfold appendR
      rw [if_neg hd', if_neg hk', if_neg h3, if_neg hu]
      exact hp
end

end Go.Proofs.Yteonkojfnmbpoaa
namespace Go.Proofs.Yteonkojfnmbpoaa
open Go.RowKit Go.Lib Go.Maps Go.ChangeMaps Go.Sort

theorem foldl_true (x : RF) : ∀ (fs acc : List RF), fs.foldl (stepP x) (acc, true) = (acc ++ fs.filter (fun f => !(f.nm == x.nm)), true)
  | [], acc => by simp
  | f :: fs, acc => by
    rw [List.foldl_cons, stepP_keep (Or.inl rfl)]
    by_cases h : f.nm = x.nm
    · rw [if_pos h, foldl_true x fs acc, List.filter_cons_of_neg (by simp [h])]
    · rw [if_neg h, foldl_true x fs (acc ++ [f]), List.filter_cons_of_pos (by simp [h])]
      simp

theorem foldl_false (x : RF) : ∀ (fs acc : List RF), (if (fs.foldl (stepP x) (acc, false)).2 then (fs.foldl (stepP x) (acc, false)).1 else (fs.foldl (stepP x) (acc, false)).1 ++ [x]) = acc ++ (fs.takeWhile (fun f => decide (f.nm < x.nm)) ++ x :: (fs.dropWhile (fun f => decide (f.nm < x.nm))).filter (fun f => !(f.nm == x.nm)))
  | [], acc => by simp
  | f :: fs, acc => by
    rw [List.foldl_cons]
    by_cases h : f.nm < x.nm
    · have hne : ¬ f.nm = x.nm := fun e => by rw [e] at h; exact List.lt_irrefl _ h
      rw [stepP_keep (Or.inr h), if_neg hne]
      have ih := foldl_false x fs (acc ++ [f])
      rw [ih, List.takeWhile_cons_of_pos (by simpa using h), List.dropWhile_cons_of_pos (by simpa using h)]
      simp
    · rw [stepP_ins rfl h, List.takeWhile_cons_of_neg (by simpa using h), List.dropWhile_cons_of_neg (by simpa using h)]
      by_cases he : f.nm = x.nm
      · rw [if_pos he, foldl_true, List.filter_cons_of_neg (by simp [he])]
        simp
      · rw [if_neg he, foldl_true, List.filter_cons_of_pos (by simp [he])]
        simp

theorem putL_eq (fs : List RF) (x : RF) : putL fs x = fs.takeWhile (fun f => decide (f.nm < x.nm)) ++ x :: (fs.dropWhile (fun f => decide (f.nm < x.nm))).filter (fun f => !(f.nm == x.nm)) := by
  have h := foldl_false x fs []
  rw [List.nil_append] at h
  exact h

theorem find_other {fs : List RF} {nm k : List UInt8} (h : k ≠ nm) : (fs.filter (fun f => !(f.nm == nm))).find? (fun f => f.nm == k) = fs.find? (fun f => f.nm == k) := by
  rw [List.find?_filter]
  congr 1
  funext f
  by_cases e : f.nm = k
  · simp [e, h]
  · simp [e]

theorem find_withoutL_other {fs : List RF} {nm k : List UInt8} (h : k ≠ nm) : (withoutL fs nm).find? (fun f => f.nm == k) = fs.find? (fun f => f.nm == k) := find_other h
theorem find_withoutL_same (fs : List RF) (nm : List UInt8) : (withoutL fs nm).find? (fun f => f.nm == nm) = none := by
  rw [List.find?_eq_none]
  intro f hf
  have := (List.mem_filter.1 hf).2
  simpa using this

theorem find_putL_same (fs : List RF) (x : RF) : (putL fs x).find? (fun f => f.nm == x.nm) = some x := by
  rw [putL_eq, List.find?_append, List.find?_cons]
  have h1 : (fs.takeWhile (fun f => decide (f.nm < x.nm))).find? (fun f => f.nm == x.nm) = none := by
    rw [List.find?_eq_none]
    intro f hf
    have h2 := List.all_eq_true.1 (List.all_takeWhile (l := fs) (p := fun f => decide (f.nm < x.nm))) f hf
    have h3 : f.nm < x.nm := by simpa using h2
    intro e
    have e1 : f.nm = x.nm := by simpa using e
    rw [e1] at h3
    exact List.lt_irrefl _ h3
  rw [h1]
  simp

theorem find_putL_other {fs : List RF} {x : RF} {k : List UInt8} (h : k ≠ x.nm) : (putL fs x).find? (fun f => f.nm == k) = fs.find? (fun f => f.nm == k) := by
  have hx : (x.nm == k) = false := beq_eq_false_iff_ne.2 (Ne.symm h)
  rw [putL_eq, List.find?_append, List.find?_cons, hx]
  dsimp only
  rw [find_other h]
  conv => rhs; rw [← List.takeWhile_append_dropWhile (p := fun f : RF => decide (f.nm < x.nm)) (l := fs)]
  rw [List.find?_append]

/-- Names rise strictly. -/
def Rising (fs : List RF) : Prop := fs.Pairwise (fun a b => a.nm < b.nm)

theorem Rising.without {fs : List RF} (h : Rising fs) (nm : List UInt8) : Rising (withoutL fs nm) := h.sublist List.filter_sublist

theorem lt_of_not {a b : List UInt8} (h1 : ¬ a < b) (h2 : a ≠ b) : b < a := by
  rcases Decidable.em (b < a) with h | h
  · exact h
  · exact absurd (List.le_antisymm h h1) h2

theorem Rising.put {fs : List RF} (h : Rising fs) (x : RF) : Rising (putL fs x) := by
  rw [putL_eq]
  unfold Rising
  rw [List.pairwise_append, List.pairwise_cons]
  have hd : ∀ f ∈ (fs.dropWhile (fun f => decide (f.nm < x.nm))).filter (fun f => !(f.nm == x.nm)), x.nm < f.nm := by
    intro f hf
    obtain ⟨h1, h2⟩ := List.mem_filter.1 hf
    have hne : f.nm ≠ x.nm := by simpa using h2
    have hs : (fs.dropWhile (fun f => decide (f.nm < x.nm))).Pairwise (fun a b => a.nm < b.nm) := h.sublist (List.dropWhile_sublist _)
    refine lt_of_not (fun hlt => ?_) hne
    cases hdw : fs.dropWhile (fun f => decide (f.nm < x.nm)) with
    | nil => rw [hdw] at h1; cases h1
    | cons g gs =>
      have hg : ¬ g.nm < x.nm := by
        have := List.head_dropWhile_not (fun f : RF => decide (f.nm < x.nm)) (show fs.dropWhile (fun f => decide (f.nm < x.nm)) ≠ [] by rw [hdw]; simp)
        simp only [hdw, List.head_cons] at this
        simpa using this
      rw [hdw] at h1 hs
      rcases List.mem_cons.1 h1 with e | e
      · rw [e] at hlt; exact hg hlt
      · exact hg (List.lt_trans ((List.pairwise_cons.1 hs).1 f e) hlt)
  refine ⟨h.sublist (List.takeWhile_sublist _), ⟨hd, (h.sublist (List.dropWhile_sublist _)).sublist List.filter_sublist⟩, ?_⟩
  intro a ha b hb
  have h2 := List.all_eq_true.1 (List.all_takeWhile (l := fs) (p := fun f => decide (f.nm < x.nm))) a ha
  have h3 : a.nm < x.nm := by simpa using h2
  rcases List.mem_cons.1 hb with e | e
  · rw [e]; exact h3
  · exact List.lt_trans h3 (hd b e)

theorem Rising.sync {fs : List RF} (h : Rising fs) : Rising (fs.map syncF) := by
  unfold Rising
  rw [List.pairwise_map]
  exact h

theorem find_sync (fs : List RF) (k : List UInt8) : (fs.map syncF).find? (fun f => f.nm == k) = (fs.find? (fun f => f.nm == k)).map syncF := by
  rw [List.find?_map]
  rfl

end Go.Proofs.Yteonkojfnmbpoaa
