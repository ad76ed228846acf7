/- The document's own answer on the records of any bytes: Cut. -/
import Derived.Test.YtmecpgnmeefpjaaFG
namespace Go.Proofs.Ytmecpgnmeefpjaa
open Go.RowKit Go.Lib

theorem byteN_drop (bs : List UInt8) (k i : Nat) : byteN (bs.drop k) i = byteN bs (k + i) := by
  unfold byteN
  rw [List.getD_eq_getElem?_getD, List.getElem?_drop, ← List.getD_eq_getElem?_getD]

set_option maxHeartbeats 4000000 in
set_option maxRecDepth 100000 in
theorem rcut_calls (w : World) (bv : Value) (bs : List UInt8) (h : BRow w bv bs) (hlen : bs.length ≤ 100000000) : Calls Try.prog 11 #[bv] w (CutPost w bs) := by
  obtain ⟨i0, hi, hz0, hz1, hz2⟩ := info_parts infoS16
  obtain ⟨a, c, rfl, hlc, hcm⟩ := h.len
  obtain ⟨l, hl⟩ : ∃ l, bs.length = l := ⟨_, rfl⟩
  rw [hl] at h hlc hlen ⊢
  unfold maxLen at hcm
  have H := Lib.hid h
  have Hl := Lib.hid hl
  clear h hl
  go_enter Try.func11, Try.ntmps11
  go_wp2
  go_loopw [4, 5] (fun v at_ wr => ∃ (k : Nat) (rs : List (List UInt8)), at_ = .int .i64 k ∧ k ≤ l ∧ Hid (k = lensN rs) ∧ Hid (cutB bs = rs ++ cutB (bs.drop k)) ∧ Hid (wr.ownsRow w.heap.size 9 1 v rs.length (recCells rs)) ∧ Hid (Below w.heap.size w wr)) (fun _ at_ _ => l - (intOf at_).toNat)
  case atStart => exact ⟨0, [], rfl, Nat.zero_le _, rfl, rfl, World.ownsRow_nil _ _ _ _, Below.refl _ _⟩
  case round =>
    obtain ⟨k, rs, rfl, hk, Hkn, Hcut, Hown, Hb⟩ := hrel
    have hlt : (bs.drop k).length = l - k := by rw [List.length_drop, Hl.out]
    have Hlt := Lib.hid hlt
    have hkl : (k : Int) ≤ l := by omega
    have Htail : Hid (firstB (bs.drop k) = none → ∀ W, Below wr.heap.size wr W → CutPost w bs (.returned (.tuple #[_, .int .i64 k])) W) := fun hr W hW => by
      have hfin : cutB bs = rs := by have := Hcut.out; rw [cutB_none hr, List.append_nil] at this; exact this
      have hcn : cutN bs = k := by rw [cutN, hfin]; exact Hkn.out.symm
      exact ⟨_, ret_two (by rw [hcn]), by rw [hfin]; exact owns_below Hown.out hW, Hb.out.trans (hW.mono Hb.out.size)⟩
    by_cases h5 : l - k < 5
    · have hd : decide ((5 : Int) ≤ (l : Int) - (k : Int)) = false := by simp; omega
      have Hr := Lib.hid (firstB_short (l := bs.drop k) (by omega))
      clear hlt
      go_wp2
      go_ret2
      exact Htail.out Hr.out _ (Below.refl _ _)
    have hd5 : decide ((5 : Int) ≤ (l : Int) - (k : Int)) = true := by simp; omega
    obtain ⟨A, rfl⟩ : ∃ A, a = some A := by
      obtain ⟨a', c', e1, _, _, _, hx⟩ := H.out
      injection e1 with e1
      subst e1
      obtain ⟨A, e2, _⟩ := hx 0 (bs[0]'(by have := Hl.out; omega)) (List.getElem?_eq_getElem (by have := Hl.out; omega))
      exact ⟨A, e2⟩
    have hat := fun i (hi : i < l) => (H.out.below Hb.out).at (i := i) (by rw [Hl.out]; exact hi)
    have k0 : wr.cell? (A.add k) = some (.int .u8 (byteN (bs.drop k) 0 : Nat)) := by rw [byteN_drop]; exact hat k (by omega)
    have k1 : wr.cell? ⟨A.block, A.off + (k + 1), none⟩ = some (.int .u8 (byteN (bs.drop k) 1 : Nat)) := by rw [byteN_drop]; exact hat (k + 1) (by omega)
    have k2 : wr.cell? ⟨A.block, A.off + (k + 2), none⟩ = some (.int .u8 (byteN (bs.drop k) 2 : Nat)) := by rw [byteN_drop]; exact hat (k + 2) (by omega)
    have k3 : wr.cell? ⟨A.block, A.off + (k + 3), none⟩ = some (.int .u8 (byteN (bs.drop k) 3 : Nat)) := by rw [byteN_drop]; exact hat (k + 3) (by omega)
    have k4 : wr.cell? ⟨A.block, A.off + (k + 4), none⟩ = some (.int .u8 (byteN (bs.drop k) 4 : Nat)) := by rw [byteN_drop]; exact hat (k + 4) (by omega)
    have b0 := byteN_lt (bs.drop k) 0
    have b1 := byteN_lt (bs.drop k) 1
    have b2 := byteN_lt (bs.drop k) 2
    have b3 := byteN_lt (bs.drop k) 3
    have b4 := byteN_lt (bs.drop k) 4
    have hkl2 : (k : Int) < l := by omega
    have h50 : ¬ (bs.drop k).length < 5 := by omega
    by_cases h82 : byteN (bs.drop k) 0 = 82
    rotate_left
    · have Hr := Lib.hid (firstB_mark h50 h82)
      obtain ⟨x0, hx0⟩ : ∃ x0, byteN (bs.drop k) 0 = x0 := ⟨_, rfl⟩
      rw [hx0] at k0 b0 h82
      have ht : ((x0 : Int) == 82) = false := by rw [beq_eq_false_iff_ne]; omega
      clear hlt hat k1 k2 k3 k4 b1 b2 b3 b4 h82 hx0 h50
      go_wp2
      go_ret2
      exact Htail.out Hr.out _ (Below.refl _ _)
    rw [h82] at k0
    have H50 := Lib.hid h50
    have H82 := Lib.hid h82
    have hsays : saysN (bs.drop k) = 256 * byteN (bs.drop k) 1 + byteN (bs.drop k) 2 := rfl
    obtain ⟨x1, hx1⟩ : ∃ x1, byteN (bs.drop k) 1 = x1 := ⟨_, rfl⟩
    obtain ⟨x2, hx2⟩ : ∃ x2, byteN (bs.drop k) 2 = x2 := ⟨_, rfl⟩
    obtain ⟨x3, hx3⟩ : ∃ x3, byteN (bs.drop k) 3 = x3 := ⟨_, rfl⟩
    obtain ⟨x4, hx4⟩ : ∃ x4, byteN (bs.drop k) 4 = x4 := ⟨_, rfl⟩
    obtain ⟨q, hq⟩ : ∃ q, saysN (bs.drop k) = q := ⟨_, rfl⟩
    rw [hx1, hx2, hq] at hsays
    have HX3 := Lib.hid hx3
    have HX4 := Lib.hid hx4
    have Hq := Lib.hid hq
    have he : (x1 : Int) * 256 + (x2 : Int) = (q : Int) := by omega
    have He := Lib.hid he
    rw [hx1] at k1 b1
    rw [hx2] at k2 b2
    rw [hx3] at k3 b3
    rw [hx4] at k4 b4
    have hq65 : q < 65536 := by omega
    have K3 := Lib.hid k3
    have K4 := Lib.hid k4
    have wr1 : IntKind.i64.wrap ((k : Int) + 1) = (k : Int) + 1 := IntWalk.i64_in _ (by omega)
    have wr2 : IntKind.i64.wrap ((k : Int) + 2) = (k : Int) + 2 := IntWalk.i64_in _ (by omega)
    have n1 : ((k : Int) + 1).toNat = k + 1 := by omega
    have n2 : ((k : Int) + 2).toNat = k + 2 := by omega
    have p1 : (0 : Int) ≤ (k : Int) + 1 := by omega
    have p2 : (0 : Int) ≤ (k : Int) + 2 := by omega
    have q1 : (k : Int) + 1 < l := by omega
    have q2 : (k : Int) + 2 < l := by omega
    clear hlt hat h82 b0 k3 k4 h50 hsays hx1 hx2 hx3 hx4 hq he
    go_wp2
    go_quiet (fail)
    rw [He.out]
    obtain ⟨w1, hw1⟩ : ∃ w1, w1 = wr.drewN nq := ⟨_, rfl⟩
    rw [← hw1]
    have HB1 : Hid (Below wr.heap.size wr w1) := by rw [hw1]; exact fbelow_drewN (Below.refl _ _) _
    have k3 : w1.cell? ⟨A.block, A.off + (k + 3), none⟩ = some (.int .u8 (x3 : Nat)) := by rw [hw1]; exact K3.out
    have k4 : w1.cell? ⟨A.block, A.off + (k + 4), none⟩ = some (.int .u8 (x4 : Nat)) := by rw [hw1]; exact K4.out
    clear wr1 wr2 n1 n2 p1 p2 q1 q2 k0 k1 k2 hw1
    by_cases hbig : 4096 < q
    · have hd6 : decide ((4096 : Int) < (q : Int)) = true := by simp; omega
      have Hr := Lib.hid (firstB_big H50.out H82.out (by rw [Hq.out]; exact hbig))
      clear hbig
      go_wp2
      go_ret2
      exact Htail.out Hr.out _ HB1.out
    have hd6 : decide ((4096 : Int) < (q : Int)) = false := by simp; omega
    have hb1 : ¬ 4096 < saysN (bs.drop k) := by rw [Hq.out]; exact hbig
    by_cases hmore : l - k - 5 < q
    · have hd7 : decide ((l : Int) - (k : Int) - 5 < (q : Int)) = true := by simp; omega
      have Hr := Lib.hid (firstB_more H50.out H82.out hb1 (by rw [Hq.out, Hlt.out]; exact hmore))
      clear hbig hb1 hmore
      go_wp2
      go_ret2
      exact Htail.out Hr.out _ HB1.out
    have hd7 : decide ((l : Int) - (k : Int) - 5 < (q : Int)) = false := by simp; omega
    have hb2 : ¬ (bs.drop k).length - 5 < saysN (bs.drop k) := by rw [Hq.out, Hlt.out]; exact hmore
    obtain ⟨v5, hv5, hb5⟩ := (((H.out.below Hb.out).below HB1.out)).cut (k := k + 5) (m := k + 5 + q) (by omega) (by rw [Hl.out]; omega)
    rw [show k + 5 + q - (k + 5) = q by omega] at hb5
    have hv5' : ∀ W : World, (Instr.slice 22 (.slice (some A) l c) (some (.int .i64 ((k : Int) + 5))) (some (.int .i64 ((k : Int) + 5 + (q : Int)))) none).run Try.prog W = .ok v5 W := fun W => by
      have h1 := hv5 W
      rwa [show ((k + 5 : Nat) : Int) = (k : Int) + 5 by omega, show ((k + 5 + q : Nat) : Int) = (k : Int) + 5 + (q : Int) by omega] at h1
    obtain ⟨r, hr⟩ : ∃ r, ((bs.drop k).drop 5).take q = r := ⟨_, rfl⟩
    have hr1 : (bs.drop (k + 5)).take q = r := by rw [← hr, List.drop_drop]
    rw [hr1] at hb5
    have hrl : r.length = q := by have h9 : (bs.drop k).length = l - k := Hlt.out; rw [← hr, List.length_take, List.length_drop, h9]; omega
    have hcv : (convert 22 9 v5).run Try.prog w1 = .ok (.string (strB r)) w1 := conv_brow hb5
    have hsum : ∀ W, Calls Try.prog 13 #[.string (strB r)] W fun e w' => e = .returned (.int .i64 (sumN r)) ∧ W = w' := fun W => by
      have h1 := rsum_calls (strB r) W (by rw [strB_size]; unfold maxLen; omega)
      rwa [strB_list] at h1
    obtain ⟨sm, hsm⟩ : ∃ sm, 256 * x3 + x4 = sm := ⟨_, rfl⟩
    have hsm' : (x3 : Int) * 256 + (x4 : Int) = (sm : Int) := by omega
    obtain ⟨sr, hsr⟩ : ∃ sr, sumN r = sr := ⟨_, rfl⟩
    rw [hsr] at hsum
    have hsr1 : sumN (((bs.drop k).drop 5).take (saysN (bs.drop k))) = sr := by rw [Hq.out, hr, hsr]
    have hsm1 : 256 * byteN (bs.drop k) 3 + byteN (bs.drop k) 4 = sm := by rw [HX3.out, HX4.out, hsm]
    have wr3 : IntKind.i64.wrap ((k : Int) + 3) = (k : Int) + 3 := IntWalk.i64_in _ (by omega)
    have wr4 : IntKind.i64.wrap ((k : Int) + 4) = (k : Int) + 4 := IntWalk.i64_in _ (by omega)
    have n3 : ((k : Int) + 3).toNat = k + 3 := by omega
    have n4 : ((k : Int) + 4).toNat = k + 4 := by omega
    have p3 : (0 : Int) ≤ (k : Int) + 3 := by omega
    have p4 : (0 : Int) ≤ (k : Int) + 4 := by omega
    have q3 : (k : Int) + 3 < l := by omega
    have q4 : (k : Int) + 4 < l := by omega
    by_cases heq : sr = sm
    rotate_left
    · have Hr := Lib.hid (firstB_sum H50.out H82.out hb1 hb2 (by rw [hsr1, hsm1]; exact heq))
      have ht : ((sr : Int) != (sm : Int)) = true := by rw [bne_iff_ne]; omega
      clear hbig hb1 hmore hb2 hv5 hb5 hr hr1 hrl hsm hsr hsr1 hsm1 heq
      go_wp2
      go_quiet ((first | (go_at_call 13; refine (hsum _).mono ?_; rintro e w' ⟨he, rfl⟩; exact ⟨he, _, rfl⟩)))
      go_wp2
      go_ret2
      exact Htail.out Hr.out _ (fbelow_drewN HB1.out _)
    have hfr := firstB_some H50.out H82.out hb1 hb2 (by rw [hsr1, hsm1]; exact heq)
    rw [Hq.out, hr] at hfr
    have ht : ((sr : Int) != (sm : Int)) = false := by rw [bne_eq_false_iff_eq]; omega
    have Hr := Lib.hid hfr
    have hg := lensN_ge rs
    have hk1 := Hkn.out
    have hrs : (rs.length + 1) * 16 ≤ 140737488355328 := by omega
    have hrs1 : rs.length + 1 ≤ maxLen := by unfold maxLen; omega
    have Hkk : Hid (k + 5 + q = lensN (rs ++ [r])) := by show _ = _; rw [lensN_append, lensN_one, ← Hkn.out, hrl]; omega
    have Hcc : Hid (cutB bs = (rs ++ [r]) ++ cutB (bs.drop (k + 5 + q))) := by show _ = _; rw [Hcut.out, cutB_some hfr, List.drop_drop, hrl, show k + (q + 5) = k + 5 + q by omega]; simp
    clear hbig hb1 hb2 hv5 hb5 hr hr1 hsm hsr hsr1 hsm1 heq hfr hg hk1 hrl
    go_wp2
    go_quiet ((first | (go_at_call 13; refine (hsum _).mono ?_; rintro e w' ⟨he, rfl⟩; exact ⟨he, _, rfl⟩)))

    obtain ⟨w2, hw2⟩ : ∃ w2, w2 = w1.drewN nq := ⟨_, rfl⟩
    rw [← hw2]
    have hb2 : Below w.heap.size w w2 := by rw [hw2]; exact fbelow_drewN (Hb.out.trans (HB1.out.mono Hb.out.size)) _
    have hb21 : Below wr.heap.size wr w2 := by rw [hw2]; exact fbelow_drewN HB1.out _
    have HO2 := Lib.hid ((owns_below Hown.out hb21).alloc (.cells #[.string (strB r)] 9))
    have HB2 := Lib.hid (hb2.alloc hb2.size (.cells #[.string (strB r)] 9))
    have hlto := Lib.hid HO2.out.lt
    clear hw2 hb2 hb21 k3 k4 hcv wr3 wr4 n3 n4 p3 p4 q3 q4
    go_wp2_with (first
      | (at_builtin; refine wpList_append_own _ rfl (.tmp 71) (.tmp 73) 24 rfl w.heap.size 9 i0 (.string .empty) 1 16 Try.underlying24 hi hz0 hz1 hz2 rfl (by decide) _ _ _ rfl HO2.out ⟨w2.heap.size, 0, none⟩ 1 1 (recCells [r]) rfl rfl (vals_new w2 _ _ _ _ rfl) (recCells_one _) hrs1 hrs HB2.out.size ?_; intro v3 w3 hown3 hgrow3 hnil3))
    have HB3 := Lib.hid (HB2.out.grown hgrow3 HB2.out.size (fun q hq => (hlto.out q hq).1))
    have hown4 : w3.ownsRow w.heap.size 9 1 v3 (rs ++ [r]).length (recCells (rs ++ [r])) := by
      rw [List.length_append]
      simpa [recCells] using hown3
    have HO3 := Lib.hid hown4
    clear hown3 hgrow3 hnil3 hown4
    go_roundw
    case rel => exact ⟨k + 5 + q, rs ++ [r], by go_num, by omega, Hkk, Hcc, HO3, HB3⟩
    case measure => simp [intOf]; omega

end Go.Proofs.Ytmecpgnmeefpjaa
