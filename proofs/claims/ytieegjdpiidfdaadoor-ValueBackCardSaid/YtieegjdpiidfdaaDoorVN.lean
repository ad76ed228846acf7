/- The statement ValueBack, its walk. -/
import Derived.Test.YtieegjdpiidfdaaDoorVM
import Derived.Test.YtieegjdpiidfdaaDoorF8
import Derived.Deep.RegionHeld
namespace Go.Proofs.YtieegjdpiidfdaaDoor
open Go.RowKit Go.Lib Go.Op

theorem put_len_pos {v : PVal} (h : rightB v = true) : 0 < (putV v).length ∧ (putV v).length ≤ 80 := by
  obtain ⟨k, n, s⟩ := v
  have h2 := putV_written (k := k) (n := n) (s := strB s) (by unfold rightV; rw [strB_list]; exact h)
  rw [strB_list] at h2
  rw [h2]
  obtain ⟨a1, a2, _, _⟩ := writtenV_le (k := k) (n := n) (s := strB s) (by unfold rightV; rw [strB_list]; exact h)
  have h3 := digsN_six (n := writtenV k n (strB s)) (by omega)
  rw [strB_size] at a2
  simp only [List.length_cons, List.length_append]
  omega

set_option maxHeartbeats 8000000 in
set_option maxRecDepth 100000 in
theorem vback_big (w : World) (hT : HoldsTab w) (k n : Int) (s : ByteArray) (hs : s.size ≤ maxLen) (a : Option Addr) (c : Nat) (ms : List UInt8) (hb : BRow w (.slice a ms.length c) ms) (hbig : 9000 < s.size ∨ 9000 < ms.length) :
    Calls Tryd.prog 5 #[.agg #[.int .i64 k, .int .i64 n, .string s], .slice a ms.length c] w (RFine w) := by
  obtain ⟨a', c', e1, hc, hcm⟩ := hb.len
  injection e1 with ea el ec
  subst ea
  subst ec
  clear el hb
  obtain ⟨l, hl⟩ : ∃ l, ms.length = l := ⟨_, rfl⟩
  rw [hl] at hc hbig ⊢
  have hlm : l ≤ maxLen := Nat.le_trans hc hcm
  unfold maxLen at hlm hs
  clear hl hc hcm
  have HT := Lib.hid hT
  clear hT
  by_cases h1 : 9000 < s.size
  · go_enter Tryd.func5, Tryd.ntmps5
    go_wp2_with fail
    refine (vhead_calls _ (HT.out.below (by repeat' (first | exact Below.refl _ _ | refine Below.alloc ?_ (by simp <;> omega) _)))).mono ?_
    rintro _ w1 ⟨rfl, hb1⟩
    have HB1 : Hid (Below w.heap.size w w1) := ((Below.refl _ _).alloc (Nat.le_refl _) _).trans (hb1.mono (by simp))
    obtain ⟨y0, y1, y2, y3⟩ := cellsN (by simpa using hb1)
    clear hb1
    go_wp2
    go_ret
    exact ⟨rfl, HB1.out⟩
  · have h2 : 9000 < l := by omega
    go_enter Tryd.func5, Tryd.ntmps5
    go_wp2_with fail
    refine (vhead_calls _ (HT.out.below (by repeat' (first | exact Below.refl _ _ | refine Below.alloc ?_ (by simp <;> omega) _)))).mono ?_
    rintro _ w1 ⟨rfl, hb1⟩
    have HB1 : Hid (Below w.heap.size w w1) := ((Below.refl _ _).alloc (Nat.le_refl _) _).trans (hb1.mono (by simp))
    obtain ⟨y0, y1, y2, y3⟩ := cellsN (by simpa using hb1)
    clear hb1
    go_wp2
    go_ret
    exact ⟨rfl, HB1.out⟩

set_option maxHeartbeats 8000000 in
set_option maxRecDepth 100000 in
theorem vback_fn (w : World) (hT : HoldsTab w) (k n : Int) (s : ByteArray) (hs : s.size ≤ maxLen) (a : Option Addr) (c : Nat) (ms : List UInt8) (hb : BRow w (.slice a ms.length c) ms) (hsm : ¬ 9000 < s.size) (hlm : ¬ 9000 < ms.length) (hr : rightV k n s = false) (hg : getV ms = none) :
    Calls Tryd.prog 5 #[.agg #[.int .i64 k, .int .i64 n, .string s], .slice a ms.length c] w (RFine w) := by
  obtain ⟨a', c', e1, hc, hcm⟩ := hb.len
  injection e1 with ea el ec
  subst ea
  subst ec
  clear el
  obtain ⟨l, hl⟩ : ∃ l, ms.length = l := ⟨_, rfl⟩
  have HL := Lib.hid hl
  rw [hl] at hc hlm hb ⊢
  have H := Lib.hid hb
  unfold maxLen at hcm
  have HP := Lib.hid (fun W => vput_calls k n s W hs)
  have HRt : Hid (∀ W, Calls Tryd.prog 16 #[.agg #[.int .i64 k, .int .i64 n, .string s]] W fun e w' => e = .returned (.bool false) ∧ w' = W.alloc (.cells #[.int .i64 k, .int .i64 n, .string s] 23)) := fun W => hr ▸ vright_calls k n s W hs
  have HO := Lib.hid hg
  have HT := Lib.hid hT
  have Hr := Lib.hid hr
  clear hb hl hT hs hg hr
  go_enter Tryd.func5, Tryd.ntmps5
  go_wp2_with fail
  refine (vhead_calls _ (HT.out.below (by repeat' (first | exact Below.refl _ _ | refine Below.alloc ?_ (by simp <;> omega) _)))).mono ?_
  rintro _ w1 ⟨rfl, hb1⟩
  have HB1 : Hid (Below w.heap.size w w1) := ((Below.refl _ _).alloc (Nat.le_refl _) _).trans (hb1.mono (by simp))
  have HY1 : Hid (Below (w.heap.size + 1) (w.alloc (.cells #[.int .i64 k, .int .i64 n, .string s] 23)) w1) := by show Below _ _ _; simpa using hb1
  obtain ⟨y0, y1, y2, y3⟩ := cellsN HY1.out
  clear hb1
  go_wp2_with fail
  refine (HP.out _).mono ?_
  rintro e w2 ⟨v2, rfl, hown2, hb2⟩
  have HB2 : Hid (Below w.heap.size w w2) := HB1.out.trans (hb2.mono HB1.out.size)
  have HY2 : Hid (Below (w.heap.size + 1) (w.alloc (.cells #[.int .i64 k, .int .i64 n, .string s] 23)) w2) := HY1.out.trans (hb2.mono (by have := HY1.out.size; simpa using this))
  have hrow2 := BRow.of_owns hown2
  obtain ⟨x0, x1, x2, x3⟩ := cellsN HY2.out
  clear hb2 y0 y1 y2 y3 HB1 HY1 hown2
  rw [putV_not Hr.out] at hrow2
  obtain ⟨a2, c2, rfl, hc2, hcm2⟩ := hrow2.len
  rw [show ([] : List UInt8).length = 0 from rfl] at hc2 ⊢
  clear hrow2
  go_wp2_with (go_at_call 16; refine (HRt.out _).mono ?_; rintro e wq ⟨rfl, rfl⟩)
  have HB5 : Hid (Below w.heap.size w (w2.alloc (.cells #[.int .i64 k, .int .i64 n, .string s] 23))) := HB2.out.alloc HB2.out.size _
  obtain ⟨w5, hw5⟩ : ∃ w5, w5 = w2.alloc (.cells #[.int .i64 k, .int .i64 n, .string s] 23) := ⟨_, rfl⟩
  rw [← hw5] at HB5
  try rw [← hw5]
  clear hw5
  have HM5 := Lib.hid (H.out.below HB5.out)
  go_wp2_with fail
  (with_reducible refine (vget_none HM5.out HO.out).mono ?_)
  rintro _ w6 ⟨rfl, hb6⟩
  have HB6 : Hid (Below w.heap.size w w6) := HB5.out.trans (hb6.mono HB5.out.size)
  clear hb6
  go_wp2
  go_ret
  exact ⟨rfl, by repeat' (first | exact HB6.out | refine Below.alloc ?_ (by have := HB6.out.size; simp at this ⊢; omega) _)⟩

set_option maxHeartbeats 8000000 in
set_option maxRecDepth 100000 in
theorem vback_fs (w : World) (hT : HoldsTab w) (k n : Int) (s : ByteArray) (hs : s.size ≤ maxLen) (a : Option Addr) (c : Nat) (ms : List UInt8) (hb : BRow w (.slice a ms.length c) ms) (hsm : ¬ 9000 < s.size) (hlm : ¬ 9000 < ms.length) (hr : rightV k n s = false) (k2 n2 : Int) (s2 : List UInt8) (m : Nat) (hg : getV ms = some (⟨k2, n2, s2⟩, m)) :
    Calls Tryd.prog 5 #[.agg #[.int .i64 k, .int .i64 n, .string s], .slice a ms.length c] w (RFine w) := by
  obtain ⟨a', c', e1, hc, hcm⟩ := hb.len
  injection e1 with ea el ec
  subst ea
  subst ec
  clear el
  obtain ⟨l, hl⟩ : ∃ l, ms.length = l := ⟨_, rfl⟩
  have HL := Lib.hid hl
  rw [hl] at hc hlm hb ⊢
  have H := Lib.hid hb
  unfold maxLen at hcm
  have HP := Lib.hid (fun W => vput_calls k n s W hs)
  have HRt : Hid (∀ W, Calls Tryd.prog 16 #[.agg #[.int .i64 k, .int .i64 n, .string s]] W fun e w' => e = .returned (.bool false) ∧ w' = W.alloc (.cells #[.int .i64 k, .int .i64 n, .string s] 23)) := fun W => hr ▸ vright_calls k n s W hs
  have HO := Lib.hid hg
  have HT := Lib.hid hT
  have Hr := Lib.hid hr
  clear hb hl hT hs hg hr
  go_enter Tryd.func5, Tryd.ntmps5
  go_wp2_with fail
  refine (vhead_calls _ (HT.out.below (by repeat' (first | exact Below.refl _ _ | refine Below.alloc ?_ (by simp <;> omega) _)))).mono ?_
  rintro _ w1 ⟨rfl, hb1⟩
  have HB1 : Hid (Below w.heap.size w w1) := ((Below.refl _ _).alloc (Nat.le_refl _) _).trans (hb1.mono (by simp))
  have HY1 : Hid (Below (w.heap.size + 1) (w.alloc (.cells #[.int .i64 k, .int .i64 n, .string s] 23)) w1) := by show Below _ _ _; simpa using hb1
  obtain ⟨y0, y1, y2, y3⟩ := cellsN HY1.out
  clear hb1
  go_wp2_with fail
  refine (HP.out _).mono ?_
  rintro e w2 ⟨v2, rfl, hown2, hb2⟩
  have HB2 : Hid (Below w.heap.size w w2) := HB1.out.trans (hb2.mono HB1.out.size)
  have HY2 : Hid (Below (w.heap.size + 1) (w.alloc (.cells #[.int .i64 k, .int .i64 n, .string s] 23)) w2) := HY1.out.trans (hb2.mono (by have := HY1.out.size; simpa using this))
  have hrow2 := BRow.of_owns hown2
  obtain ⟨x0, x1, x2, x3⟩ := cellsN HY2.out
  clear hb2 y0 y1 y2 y3 HB1 HY1 hown2
  rw [putV_not Hr.out] at hrow2
  obtain ⟨a2, c2, rfl, hc2, hcm2⟩ := hrow2.len
  rw [show ([] : List UInt8).length = 0 from rfl] at hc2 ⊢
  clear hrow2
  go_wp2_with (go_at_call 16; refine (HRt.out _).mono ?_; rintro e wq ⟨rfl, rfl⟩)
  have HB5 : Hid (Below w.heap.size w (w2.alloc (.cells #[.int .i64 k, .int .i64 n, .string s] 23))) := HB2.out.alloc HB2.out.size _
  obtain ⟨w5, hw5⟩ : ∃ w5, w5 = w2.alloc (.cells #[.int .i64 k, .int .i64 n, .string s] 23) := ⟨_, rfl⟩
  rw [← hw5] at HB5
  try rw [← hw5]
  clear hw5
  have HM5 := Lib.hid (H.out.below HB5.out)
  obtain ⟨b1, b2, b3⟩ := getV_reads.back _ _ _ HO.out
  have b4 := put_len_pos b1
  rw [b3, List.length_take, Nat.min_eq_left b2] at b4
  rw [HL.out] at b2
  obtain ⟨hm0, hm80⟩ := b4
  have HR2 := Lib.hid b1
  have HP2 := Lib.hid b3
  clear b1 b3
  go_wp2_with fail
  (with_reducible refine (vget_some (sB := strB s2) HM5.out HO.out rfl).mono ?_)
  rintro _ w6 ⟨rfl, hb6⟩
  have HB6 : Hid (Below w.heap.size w w6) := HB5.out.trans (hb6.mono HB5.out.size)
  clear hb6 
  go_upto_region 15 with fail
  obtain ⟨W7, hW7⟩ : ∃ W7, W7 = w6.alloc (.cells #[.int .i64 k2, .int .i64 n2, .string (strB s2)] 23) := ⟨_, rfl⟩
  have HB7 : Hid (Below w.heap.size w W7) := by show Below _ _ _; rw [hW7]; exact HB6.out.alloc HB6.out.size _
  obtain ⟨Y, hY⟩ : ∃ Y, Y = w6.heap.size := ⟨_, rfl⟩
  have c0 : W7.drew.cell? ⟨Y, 0, none⟩ = some (.int .i64 k2) := by rw [hW7, hY]; simp
  have c1 : W7.drew.cell? ⟨Y, 1, none⟩ = some (.int .i64 n2) := by rw [hW7, hY]; simp
  have c2 : W7.drew.cell? ⟨Y, 2, none⟩ = some (.string (strB s2)) := by rw [hW7, hY]; simp
  rw [← hW7, ← hY]
  clear hW7 hY HM5 HB6 HB5
  have hbm : BRow W7.drew (.slice a m c) (ms.take m) := (H.out.below HB7.out).first (by rw [HL.out]; exact b2)
  have hcv := conv_brow hbm
  have Hbm := Lib.hid hbm
  have Hbb : Hid (Below w.heap.size w W7.drew) := vbelow_drew HB7.out
  have hsz : (strB s2).size ≤ maxLen := by
    have h9 := (writtenV_le (k := k2) (n := n2) (s := strB s2) (by unfold rightV; rw [strB_list]; exact HR2.out)).2.1
    exact size_small (by omega)
  have HCR : Hid (∀ W : World, (W.cell? ⟨Y, 0, none⟩ = some (.int .i64 k2) ∧ W.cell? ⟨Y, 1, none⟩ = some (.int .i64 n2) ∧ W.cell? ⟨Y, 2, none⟩ = some (.string (strB s2)) ∧ (convert 31 9 (.slice a m c)).run Tryd.prog W = .ok (.string (strB (ms.take m))) W ∧ Hid (BRow W (.slice a m c) (ms.take m)) ∧ Hid (Below w.heap.size w W)) → Calls Tryd.prog 16 #[.agg #[.int .i64 k2, .int .i64 n2, .string (strB s2)]] W fun e W' => e = .returned (.bool true) ∧ W'.cell? ⟨Y, 0, none⟩ = some (.int .i64 k2) ∧ W'.cell? ⟨Y, 1, none⟩ = some (.int .i64 n2) ∧ W'.cell? ⟨Y, 2, none⟩ = some (.string (strB s2)) ∧ (convert 31 9 (.slice a m c)).run Tryd.prog W' = .ok (.string (strB (ms.take m))) W' ∧ Hid (BRow W' (.slice a m c) (ms.take m)) ∧ Hid (Below w.heap.size w W')) := by
    intro W ⟨q0, q1, q2, q3, q4, q5⟩
    have hr9 : rightV k2 n2 (strB s2) = true := by unfold rightV; rw [strB_list]; exact HR2.out
    refine (hr9 ▸ vright_calls k2 n2 (strB s2) W hsz).mono ?_
    rintro e W' ⟨he, hw⟩
    have hb : Below W.heap.size W W' := by rw [hw]; exact (Below.refl _ _).alloc (Nat.le_refl _) _
    have kk : ∀ {p : Addr} {v : Value}, W.cell? p = some v → W'.cell? p = some v := fun hp => (hb.cell (World.block_lt_of_cell? _ _ hp)).trans hp
    exact ⟨he, kk q0, kk q1, kk q2, conv_brow (q4.out.below hb), q4.out.below hb, q5.out.trans (hb.mono q5.out.size)⟩
  have HCP : Hid (∀ W : World, (W.cell? ⟨Y, 0, none⟩ = some (.int .i64 k2) ∧ W.cell? ⟨Y, 1, none⟩ = some (.int .i64 n2) ∧ W.cell? ⟨Y, 2, none⟩ = some (.string (strB s2)) ∧ (convert 31 9 (.slice a m c)).run Tryd.prog W = .ok (.string (strB (ms.take m))) W ∧ Hid (BRow W (.slice a m c) (ms.take m)) ∧ Hid (Below w.heap.size w W)) → Calls Tryd.prog 18 #[.agg #[.int .i64 k2, .int .i64 n2, .string (strB s2)]] W fun e W' => ∃ va, e = .returned va ∧ (convert 31 9 va).run Tryd.prog W' = .ok (.string (strB (ms.take m))) W' ∧ W'.cell? ⟨Y, 0, none⟩ = some (.int .i64 k2) ∧ W'.cell? ⟨Y, 1, none⟩ = some (.int .i64 n2) ∧ W'.cell? ⟨Y, 2, none⟩ = some (.string (strB s2)) ∧ (convert 31 9 (.slice a m c)).run Tryd.prog W' = .ok (.string (strB (ms.take m))) W' ∧ Hid (BRow W' (.slice a m c) (ms.take m)) ∧ Hid (Below w.heap.size w W')) := by
    intro W ⟨q0, q1, q2, q3, q4, q5⟩
    refine (vput_calls k2 n2 (strB s2) W hsz).mono ?_
    rintro e W' ⟨va, he, ho, hb⟩
    have kk : ∀ {p : Addr} {v : Value}, W.cell? p = some v → W'.cell? p = some v := fun hp => (hb.cell (World.block_lt_of_cell? _ _ hp)).trans hp
    have hr := BRow.of_owns ho
    rw [strB_list, HP2.out] at hr
    exact ⟨va, he, conv_brow hr, kk q0, kk q1, kk q2, conv_brow (q4.out.below hb), q4.out.below hb, q5.out.trans (hb.mono q5.out.size)⟩
  generalize strB (ms.take m) = xs at *
  clear hbm hsz HB7
  go_region_held (fun W => W.cell? ⟨Y, 0, none⟩ = some (.int .i64 k2) ∧ W.cell? ⟨Y, 1, none⟩ = some (.int .i64 n2) ∧ W.cell? ⟨Y, 2, none⟩ = some (.string (strB s2)) ∧ (convert 31 9 (.slice a m c)).run Tryd.prog W = .ok (.string xs) W ∧ Hid (BRow W (.slice a m c) (ms.take m)) ∧ Hid (Below w.heap.size w W))
    ((refine ⟨?_, ?_, ?_, ?_, ?_, ?_⟩ <;> assumption))
    (first
      | (go_at_call 16; refine (HCR.out _ ?_).mono ?_; (refine ⟨?_, ?_, ?_, ?_, ?_, ?_⟩ <;> assumption); rintro e w8 ⟨rfl, q0, q1, q2, q3, q4, q5⟩)
      | (go_at_call 18; refine (HCP.out _ ?_).mono ?_; (refine ⟨?_, ?_, ?_, ?_, ?_, ?_⟩ <;> assumption); rintro e w9 ⟨va, rfl, hva, p0, p1, p2, p3, p4, p5⟩))
  all_goals
    go_wp2
    go_ret
    exact ⟨rfl, p5.out⟩

set_option maxHeartbeats 8000000 in
set_option maxRecDepth 100000 in
theorem vback_tn (w : World) (hT : HoldsTab w) (k n : Int) (s : ByteArray) (hs : s.size ≤ maxLen) (a : Option Addr) (c : Nat) (ms : List UInt8) (hb : BRow w (.slice a ms.length c) ms) (hsm : ¬ 9000 < s.size) (hlm : ¬ 9000 < ms.length) (hr : rightV k n s = true) (hg : getV ms = none) :
    Calls Tryd.prog 5 #[.agg #[.int .i64 k, .int .i64 n, .string s], .slice a ms.length c] w (RFine w) := by
  obtain ⟨a', c', e1, hc, hcm⟩ := hb.len
  injection e1 with ea el ec
  subst ea
  subst ec
  clear el
  obtain ⟨l, hl⟩ : ∃ l, ms.length = l := ⟨_, rfl⟩
  have HL := Lib.hid hl
  rw [hl] at hc hlm hb ⊢
  have H := Lib.hid hb
  unfold maxLen at hcm
  have HP := Lib.hid (fun W => vput_calls k n s W hs)
  have HRt : Hid (∀ W, Calls Tryd.prog 16 #[.agg #[.int .i64 k, .int .i64 n, .string s]] W fun e w' => e = .returned (.bool true) ∧ w' = W.alloc (.cells #[.int .i64 k, .int .i64 n, .string s] 23)) := fun W => hr ▸ vright_calls k n s W hs
  have HO := Lib.hid hg
  have HT := Lib.hid hT
  have Hr := Lib.hid hr
  clear hb hl hT hs hg hr
  go_enter Tryd.func5, Tryd.ntmps5
  go_wp2_with fail
  refine (vhead_calls _ (HT.out.below (by repeat' (first | exact Below.refl _ _ | refine Below.alloc ?_ (by simp <;> omega) _)))).mono ?_
  rintro _ w1 ⟨rfl, hb1⟩
  have HB1 : Hid (Below w.heap.size w w1) := ((Below.refl _ _).alloc (Nat.le_refl _) _).trans (hb1.mono (by simp))
  have HY1 : Hid (Below (w.heap.size + 1) (w.alloc (.cells #[.int .i64 k, .int .i64 n, .string s] 23)) w1) := by show Below _ _ _; simpa using hb1
  obtain ⟨y0, y1, y2, y3⟩ := cellsN HY1.out
  clear hb1
  go_wp2_with fail
  refine (HP.out _).mono ?_
  rintro e w2 ⟨v2, rfl, hown2, hb2⟩
  have HB2 : Hid (Below w.heap.size w w2) := HB1.out.trans (hb2.mono HB1.out.size)
  have HY2 : Hid (Below (w.heap.size + 1) (w.alloc (.cells #[.int .i64 k, .int .i64 n, .string s] 23)) w2) := HY1.out.trans (hb2.mono (by have := HY1.out.size; simpa using this))
  have hrow2 := BRow.of_owns hown2
  obtain ⟨x0, x1, x2, x3⟩ := cellsN HY2.out
  clear hb2 y0 y1 y2 y3 HB1 HY1 hown2
  have hpp := put_len_pos Hr.out
  have hge := getV_reads.there ⟨k, n, s.data.toList⟩ ms Hr.out
  have hct := getV_reads.cut Hr.out (m := (putV ⟨k, n, s.data.toList⟩).length - 1) (by omega)
  obtain ⟨bs, hbs⟩ : ∃ bs, putV ⟨k, n, s.data.toList⟩ = bs := ⟨_, rfl⟩
  rw [hbs] at hrow2 hpp hge hct
  obtain ⟨m1, hm1⟩ : ∃ m1, bs.length = m1 + 1 := ⟨bs.length - 1, by omega⟩
  obtain ⟨L, hL⟩ : ∃ L, bs.length = L := ⟨_, rfl⟩
  rw [hL] at hge hct hm1 hpp
  obtain ⟨a2, c2, rfl, hc2, hcm2⟩ := hrow2.len
  rw [hL] at hrow2 hc2 ⊢
  have hct' : getV (bs.take m1) = none := by rw [show m1 = L - 1 by omega]; exact hct
  have hbc := hrow2.first (m := m1) (by rw [hL]; omega)
  have H2 := Lib.hid hrow2
  have HL2 := Lib.hid hL
  have HGE := Lib.hid hge
  have HCT := Lib.hid hct'
  have HBC := Lib.hid hbc
  have hLm : ((L : Int) - 1) = (m1 : Int) := by omega
  have hL0 : 0 < L := by omega
  have hL80 : L ≤ 80 := hpp.2
  have hoe := ownsRow_empty (w2.alloc (.cells #[.int .i64 k, .int .i64 n, .string s] 23)) 5 (B := w2.heap.size) (by simp)
  rw [show (w2.alloc (.cells #[.int .i64 k, .int .i64 n, .string s] 23)).heap.size = w2.heap.size + 1 by simp] at hoe
  have HOE := Lib.hid hoe
  clear hoe
  have HBB := Lib.hid (((Below.refl _ w2).alloc (Nat.le_refl _) (.cells #[.int .i64 k, .int .i64 n, .string s] 23)).alloc (by simp) (.cells #[] 5))
  clear hrow2 hL hge hct hct' hbc hpp hm1 hbs
  unfold maxLen at hcm2
  go_wp2_with (first
    | (go_at_call 16; refine (HRt.out _).mono ?_; rintro e wq ⟨rfl, rfl⟩)
    | (at_builtin; refine wpList_append_brow rfl (.tmp 39) (.tmp 40) rfl (H2.out.below HBB.out) HOE.out (by rw [HL2.out]; omega) HBB.out.size rfl rfl ?_; intro v3 w3 hown3 hgrow3; have HB3 := Lib.hid (HBB.out.grown hgrow3 HBB.out.size (fun q hq => (HOE.out.lt q hq).1)); rw [Nat.zero_add, List.nil_append] at hown3; have HO3 := Lib.hid hown3; clear hown3 hgrow3)
    | (at_builtin; refine wpList_append_brow rfl (.tmp 41) (.tmp 42) rfl (H.out.below (HB2.out.trans (HB3.out.mono HB2.out.size))) HO3.out (by rw [HL.out, HL2.out]; omega) HB3.out.size rfl rfl ?_; intro v4 w4 hown4 hgrow4; have HB4 := Lib.hid (HB3.out.grown hgrow4 HB3.out.size (fun q hq => (HO3.out.lt q hq).1)); have HO4 := Lib.hid (BRow.of_owns hown4); clear hown4 hgrow4))
  clear HO3 HB3 HOE HBB
  go_wp2_with fail
  (with_reducible refine (vget_some (sB := s) HO4.out HGE.out (strB_of s)).mono ?_)
  rintro _ w5 ⟨rfl, hb5⟩
  have HB5a : Hid (Below w2.heap.size w2 w5) := HB4.out.trans (hb5.mono HB4.out.size)
  have HBC5 := Lib.hid ((HBC.out.below HB5a.out).below ((Below.refl _ w5).alloc (Nat.le_refl _) (.cells #[.int .i64 k, .int .i64 n, .string s] 23)))
  clear hb5 HB4 HO4 HBC
  go_wp2_with fail
  (with_reducible refine (vget_none HBC5.out HCT.out).mono ?_)
  rintro _ w7 ⟨rfl, hb7⟩
  have HB7a : Hid (Below w2.heap.size w2 w7) := (HB5a.out.alloc HB5a.out.size _).trans (hb7.mono (by have := HB5a.out.size; simp; omega))
  obtain ⟨z0, z1, z2, z3⟩ := cellsN (by simpa using hb7)
  have x0' : w7.cell? ⟨w.heap.size, 0, none⟩ = some (.int .i64 k) := (HB7a.out.cell (World.block_lt_of_cell? _ _ x0)).trans x0
  have x1' : w7.cell? ⟨w.heap.size, 1, none⟩ = some (.int .i64 n) := (HB7a.out.cell (World.block_lt_of_cell? _ _ x1)).trans x1
  have x2' : w7.cell? ⟨w.heap.size, 2, none⟩ = some (.string s) := (HB7a.out.cell (World.block_lt_of_cell? _ _ x2)).trans x2
  have HB7 : Hid (Below w.heap.size w w7) := HB2.out.trans (HB7a.out.mono HB2.out.size)
  have X0 : (w7.alloc (.cells #[.int .i64 0, .int .i64 0, .string ⟨#[]⟩] 23)).cell? ⟨w.heap.size, 0, none⟩ = some (.int .i64 k) := (World.cell?_alloc_lt _ _ _ (World.block_lt_of_cell? _ _ x0')).trans x0'
  have X1 : (w7.alloc (.cells #[.int .i64 0, .int .i64 0, .string ⟨#[]⟩] 23)).cell? ⟨w.heap.size, 1, none⟩ = some (.int .i64 n) := (World.cell?_alloc_lt _ _ _ (World.block_lt_of_cell? _ _ x1')).trans x1'
  have X2 : (w7.alloc (.cells #[.int .i64 0, .int .i64 0, .string ⟨#[]⟩] 23)).cell? ⟨w.heap.size, 2, none⟩ = some (.string s) := (World.cell?_alloc_lt _ _ _ (World.block_lt_of_cell? _ _ x2')).trans x2'
  have HB5 : Hid (Below w.heap.size w (w7.alloc (.cells #[.int .i64 0, .int .i64 0, .string ⟨#[]⟩] 23))) := HB7.out.alloc HB7.out.size _
  clear hb7 HB5a HB7a x0 x1 x2 x3 x0' x1' x2'
  have HM5 := Lib.hid (H.out.below HB5.out)
  go_wp2_with fail
  (with_reducible refine (vget_none HM5.out HO.out).mono ?_)
  rintro _ w6 ⟨rfl, hb6⟩
  have HB6 : Hid (Below w.heap.size w w6) := HB5.out.trans (hb6.mono HB5.out.size)
  clear hb6
  go_wp2
  go_ret
  exact ⟨rfl, by repeat' (first | exact HB6.out | refine Below.alloc ?_ (by have := HB6.out.size; simp at this ⊢; omega) _)⟩

set_option maxHeartbeats 8000000 in
set_option maxRecDepth 100000 in
theorem vback_ts (w : World) (hT : HoldsTab w) (k n : Int) (s : ByteArray) (hs : s.size ≤ maxLen) (a : Option Addr) (c : Nat) (ms : List UInt8) (hb : BRow w (.slice a ms.length c) ms) (hsm : ¬ 9000 < s.size) (hlm : ¬ 9000 < ms.length) (hr : rightV k n s = true) (k2 n2 : Int) (s2 : List UInt8) (m : Nat) (hg : getV ms = some (⟨k2, n2, s2⟩, m)) :
    Calls Tryd.prog 5 #[.agg #[.int .i64 k, .int .i64 n, .string s], .slice a ms.length c] w (RFine w) := by
  obtain ⟨a', c', e1, hc, hcm⟩ := hb.len
  injection e1 with ea el ec
  subst ea
  subst ec
  clear el
  obtain ⟨l, hl⟩ : ∃ l, ms.length = l := ⟨_, rfl⟩
  have HL := Lib.hid hl
  rw [hl] at hc hlm hb ⊢
  have H := Lib.hid hb
  unfold maxLen at hcm
  have HP := Lib.hid (fun W => vput_calls k n s W hs)
  have HRt : Hid (∀ W, Calls Tryd.prog 16 #[.agg #[.int .i64 k, .int .i64 n, .string s]] W fun e w' => e = .returned (.bool true) ∧ w' = W.alloc (.cells #[.int .i64 k, .int .i64 n, .string s] 23)) := fun W => hr ▸ vright_calls k n s W hs
  have HO := Lib.hid hg
  have HT := Lib.hid hT
  have Hr := Lib.hid hr
  clear hb hl hT hs hg hr
  go_enter Tryd.func5, Tryd.ntmps5
  go_wp2_with fail
  refine (vhead_calls _ (HT.out.below (by repeat' (first | exact Below.refl _ _ | refine Below.alloc ?_ (by simp <;> omega) _)))).mono ?_
  rintro _ w1 ⟨rfl, hb1⟩
  have HB1 : Hid (Below w.heap.size w w1) := ((Below.refl _ _).alloc (Nat.le_refl _) _).trans (hb1.mono (by simp))
  have HY1 : Hid (Below (w.heap.size + 1) (w.alloc (.cells #[.int .i64 k, .int .i64 n, .string s] 23)) w1) := by show Below _ _ _; simpa using hb1
  obtain ⟨y0, y1, y2, y3⟩ := cellsN HY1.out
  clear hb1
  go_wp2_with fail
  refine (HP.out _).mono ?_
  rintro e w2 ⟨v2, rfl, hown2, hb2⟩
  have HB2 : Hid (Below w.heap.size w w2) := HB1.out.trans (hb2.mono HB1.out.size)
  have HY2 : Hid (Below (w.heap.size + 1) (w.alloc (.cells #[.int .i64 k, .int .i64 n, .string s] 23)) w2) := HY1.out.trans (hb2.mono (by have := HY1.out.size; simpa using this))
  have hrow2 := BRow.of_owns hown2
  obtain ⟨x0, x1, x2, x3⟩ := cellsN HY2.out
  clear hb2 y0 y1 y2 y3 HB1 HY1 hown2
  have hpp := put_len_pos Hr.out
  have hge := getV_reads.there ⟨k, n, s.data.toList⟩ ms Hr.out
  have hct := getV_reads.cut Hr.out (m := (putV ⟨k, n, s.data.toList⟩).length - 1) (by omega)
  obtain ⟨bs, hbs⟩ : ∃ bs, putV ⟨k, n, s.data.toList⟩ = bs := ⟨_, rfl⟩
  rw [hbs] at hrow2 hpp hge hct
  obtain ⟨m1, hm1⟩ : ∃ m1, bs.length = m1 + 1 := ⟨bs.length - 1, by omega⟩
  obtain ⟨L, hL⟩ : ∃ L, bs.length = L := ⟨_, rfl⟩
  rw [hL] at hge hct hm1 hpp
  obtain ⟨a2, c2, rfl, hc2, hcm2⟩ := hrow2.len
  rw [hL] at hrow2 hc2 ⊢
  have hct' : getV (bs.take m1) = none := by rw [show m1 = L - 1 by omega]; exact hct
  have hbc := hrow2.first (m := m1) (by rw [hL]; omega)
  have H2 := Lib.hid hrow2
  have HL2 := Lib.hid hL
  have HGE := Lib.hid hge
  have HCT := Lib.hid hct'
  have HBC := Lib.hid hbc
  have hLm : ((L : Int) - 1) = (m1 : Int) := by omega
  have hL0 : 0 < L := by omega
  have hL80 : L ≤ 80 := hpp.2
  have hoe := ownsRow_empty (w2.alloc (.cells #[.int .i64 k, .int .i64 n, .string s] 23)) 5 (B := w2.heap.size) (by simp)
  rw [show (w2.alloc (.cells #[.int .i64 k, .int .i64 n, .string s] 23)).heap.size = w2.heap.size + 1 by simp] at hoe
  have HOE := Lib.hid hoe
  clear hoe
  have HBB := Lib.hid (((Below.refl _ w2).alloc (Nat.le_refl _) (.cells #[.int .i64 k, .int .i64 n, .string s] 23)).alloc (by simp) (.cells #[] 5))
  clear hrow2 hL hge hct hct' hbc hpp hm1 hbs
  unfold maxLen at hcm2
  go_wp2_with (first
    | (go_at_call 16; refine (HRt.out _).mono ?_; rintro e wq ⟨rfl, rfl⟩)
    | (at_builtin; refine wpList_append_brow rfl (.tmp 39) (.tmp 40) rfl (H2.out.below HBB.out) HOE.out (by rw [HL2.out]; omega) HBB.out.size rfl rfl ?_; intro v3 w3 hown3 hgrow3; have HB3 := Lib.hid (HBB.out.grown hgrow3 HBB.out.size (fun q hq => (HOE.out.lt q hq).1)); rw [Nat.zero_add, List.nil_append] at hown3; have HO3 := Lib.hid hown3; clear hown3 hgrow3)
    | (at_builtin; refine wpList_append_brow rfl (.tmp 41) (.tmp 42) rfl (H.out.below (HB2.out.trans (HB3.out.mono HB2.out.size))) HO3.out (by rw [HL.out, HL2.out]; omega) HB3.out.size rfl rfl ?_; intro v4 w4 hown4 hgrow4; have HB4 := Lib.hid (HB3.out.grown hgrow4 HB3.out.size (fun q hq => (HO3.out.lt q hq).1)); have HO4 := Lib.hid (BRow.of_owns hown4); clear hown4 hgrow4))
  clear HO3 HB3 HOE HBB
  go_wp2_with fail
  (with_reducible refine (vget_some (sB := s) HO4.out HGE.out (strB_of s)).mono ?_)
  rintro _ w5 ⟨rfl, hb5⟩
  have HB5a : Hid (Below w2.heap.size w2 w5) := HB4.out.trans (hb5.mono HB4.out.size)
  have HBC5 := Lib.hid ((HBC.out.below HB5a.out).below ((Below.refl _ w5).alloc (Nat.le_refl _) (.cells #[.int .i64 k, .int .i64 n, .string s] 23)))
  clear hb5 HB4 HO4 HBC
  go_wp2_with fail
  (with_reducible refine (vget_none HBC5.out HCT.out).mono ?_)
  rintro _ w7 ⟨rfl, hb7⟩
  have HB7a : Hid (Below w2.heap.size w2 w7) := (HB5a.out.alloc HB5a.out.size _).trans (hb7.mono (by have := HB5a.out.size; simp; omega))
  obtain ⟨z0, z1, z2, z3⟩ := cellsN (by simpa using hb7)
  have x0' : w7.cell? ⟨w.heap.size, 0, none⟩ = some (.int .i64 k) := (HB7a.out.cell (World.block_lt_of_cell? _ _ x0)).trans x0
  have x1' : w7.cell? ⟨w.heap.size, 1, none⟩ = some (.int .i64 n) := (HB7a.out.cell (World.block_lt_of_cell? _ _ x1)).trans x1
  have x2' : w7.cell? ⟨w.heap.size, 2, none⟩ = some (.string s) := (HB7a.out.cell (World.block_lt_of_cell? _ _ x2)).trans x2
  have HB7 : Hid (Below w.heap.size w w7) := HB2.out.trans (HB7a.out.mono HB2.out.size)
  have X0 : (w7.alloc (.cells #[.int .i64 0, .int .i64 0, .string ⟨#[]⟩] 23)).cell? ⟨w.heap.size, 0, none⟩ = some (.int .i64 k) := (World.cell?_alloc_lt _ _ _ (World.block_lt_of_cell? _ _ x0')).trans x0'
  have X1 : (w7.alloc (.cells #[.int .i64 0, .int .i64 0, .string ⟨#[]⟩] 23)).cell? ⟨w.heap.size, 1, none⟩ = some (.int .i64 n) := (World.cell?_alloc_lt _ _ _ (World.block_lt_of_cell? _ _ x1')).trans x1'
  have X2 : (w7.alloc (.cells #[.int .i64 0, .int .i64 0, .string ⟨#[]⟩] 23)).cell? ⟨w.heap.size, 2, none⟩ = some (.string s) := (World.cell?_alloc_lt _ _ _ (World.block_lt_of_cell? _ _ x2')).trans x2'
  have HB5 : Hid (Below w.heap.size w (w7.alloc (.cells #[.int .i64 0, .int .i64 0, .string ⟨#[]⟩] 23))) := HB7.out.alloc HB7.out.size _
  clear hb7 HB5a HB7a x0 x1 x2 x3 x0' x1' x2'
  have HM5 := Lib.hid (H.out.below HB5.out)
  obtain ⟨b1, b2, b3⟩ := getV_reads.back _ _ _ HO.out
  have b4 := put_len_pos b1
  rw [b3, List.length_take, Nat.min_eq_left b2] at b4
  rw [HL.out] at b2
  obtain ⟨hm0, hm80⟩ := b4
  have HR2 := Lib.hid b1
  have HP2 := Lib.hid b3
  clear b1 b3
  go_wp2_with fail
  (with_reducible refine (vget_some (sB := strB s2) HM5.out HO.out rfl).mono ?_)
  rintro _ w6 ⟨rfl, hb6⟩
  have HB6 : Hid (Below w.heap.size w w6) := HB5.out.trans (hb6.mono HB5.out.size)
  clear hb6 X0 X1 X2 z0 z1 z2 z3 H2 HGE HCT HBC5
  go_upto_region 15 with fail
  obtain ⟨W7, hW7⟩ : ∃ W7, W7 = w6.alloc (.cells #[.int .i64 k2, .int .i64 n2, .string (strB s2)] 23) := ⟨_, rfl⟩
  have HB7 : Hid (Below w.heap.size w W7) := by show Below _ _ _; rw [hW7]; exact HB6.out.alloc HB6.out.size _
  obtain ⟨Y, hY⟩ : ∃ Y, Y = w6.heap.size := ⟨_, rfl⟩
  have c0 : W7.drew.cell? ⟨Y, 0, none⟩ = some (.int .i64 k2) := by rw [hW7, hY]; simp
  have c1 : W7.drew.cell? ⟨Y, 1, none⟩ = some (.int .i64 n2) := by rw [hW7, hY]; simp
  have c2 : W7.drew.cell? ⟨Y, 2, none⟩ = some (.string (strB s2)) := by rw [hW7, hY]; simp
  rw [← hW7, ← hY]
  clear hW7 hY HM5 HB6 HB5
  have hbm : BRow W7.drew (.slice a m c) (ms.take m) := (H.out.below HB7.out).first (by rw [HL.out]; exact b2)
  have hcv := conv_brow hbm
  have Hbm := Lib.hid hbm
  have Hbb : Hid (Below w.heap.size w W7.drew) := vbelow_drew HB7.out
  have hsz : (strB s2).size ≤ maxLen := by
    have h9 := (writtenV_le (k := k2) (n := n2) (s := strB s2) (by unfold rightV; rw [strB_list]; exact HR2.out)).2.1
    exact size_small (by omega)
  have HCR : Hid (∀ W : World, (W.cell? ⟨Y, 0, none⟩ = some (.int .i64 k2) ∧ W.cell? ⟨Y, 1, none⟩ = some (.int .i64 n2) ∧ W.cell? ⟨Y, 2, none⟩ = some (.string (strB s2)) ∧ (convert 31 9 (.slice a m c)).run Tryd.prog W = .ok (.string (strB (ms.take m))) W ∧ Hid (BRow W (.slice a m c) (ms.take m)) ∧ Hid (Below w.heap.size w W)) → Calls Tryd.prog 16 #[.agg #[.int .i64 k2, .int .i64 n2, .string (strB s2)]] W fun e W' => e = .returned (.bool true) ∧ W'.cell? ⟨Y, 0, none⟩ = some (.int .i64 k2) ∧ W'.cell? ⟨Y, 1, none⟩ = some (.int .i64 n2) ∧ W'.cell? ⟨Y, 2, none⟩ = some (.string (strB s2)) ∧ (convert 31 9 (.slice a m c)).run Tryd.prog W' = .ok (.string (strB (ms.take m))) W' ∧ Hid (BRow W' (.slice a m c) (ms.take m)) ∧ Hid (Below w.heap.size w W')) := by
    intro W ⟨q0, q1, q2, q3, q4, q5⟩
    have hr9 : rightV k2 n2 (strB s2) = true := by unfold rightV; rw [strB_list]; exact HR2.out
    refine (hr9 ▸ vright_calls k2 n2 (strB s2) W hsz).mono ?_
    rintro e W' ⟨he, hw⟩
    have hb : Below W.heap.size W W' := by rw [hw]; exact (Below.refl _ _).alloc (Nat.le_refl _) _
    have kk : ∀ {p : Addr} {v : Value}, W.cell? p = some v → W'.cell? p = some v := fun hp => (hb.cell (World.block_lt_of_cell? _ _ hp)).trans hp
    exact ⟨he, kk q0, kk q1, kk q2, conv_brow (q4.out.below hb), q4.out.below hb, q5.out.trans (hb.mono q5.out.size)⟩
  have HCP : Hid (∀ W : World, (W.cell? ⟨Y, 0, none⟩ = some (.int .i64 k2) ∧ W.cell? ⟨Y, 1, none⟩ = some (.int .i64 n2) ∧ W.cell? ⟨Y, 2, none⟩ = some (.string (strB s2)) ∧ (convert 31 9 (.slice a m c)).run Tryd.prog W = .ok (.string (strB (ms.take m))) W ∧ Hid (BRow W (.slice a m c) (ms.take m)) ∧ Hid (Below w.heap.size w W)) → Calls Tryd.prog 18 #[.agg #[.int .i64 k2, .int .i64 n2, .string (strB s2)]] W fun e W' => ∃ va, e = .returned va ∧ (convert 31 9 va).run Tryd.prog W' = .ok (.string (strB (ms.take m))) W' ∧ W'.cell? ⟨Y, 0, none⟩ = some (.int .i64 k2) ∧ W'.cell? ⟨Y, 1, none⟩ = some (.int .i64 n2) ∧ W'.cell? ⟨Y, 2, none⟩ = some (.string (strB s2)) ∧ (convert 31 9 (.slice a m c)).run Tryd.prog W' = .ok (.string (strB (ms.take m))) W' ∧ Hid (BRow W' (.slice a m c) (ms.take m)) ∧ Hid (Below w.heap.size w W')) := by
    intro W ⟨q0, q1, q2, q3, q4, q5⟩
    refine (vput_calls k2 n2 (strB s2) W hsz).mono ?_
    rintro e W' ⟨va, he, ho, hb⟩
    have kk : ∀ {p : Addr} {v : Value}, W.cell? p = some v → W'.cell? p = some v := fun hp => (hb.cell (World.block_lt_of_cell? _ _ hp)).trans hp
    have hr := BRow.of_owns ho
    rw [strB_list, HP2.out] at hr
    exact ⟨va, he, conv_brow hr, kk q0, kk q1, kk q2, conv_brow (q4.out.below hb), q4.out.below hb, q5.out.trans (hb.mono q5.out.size)⟩
  generalize strB (ms.take m) = xs at *
  clear hbm hsz HB7
  go_region_held (fun W => W.cell? ⟨Y, 0, none⟩ = some (.int .i64 k2) ∧ W.cell? ⟨Y, 1, none⟩ = some (.int .i64 n2) ∧ W.cell? ⟨Y, 2, none⟩ = some (.string (strB s2)) ∧ (convert 31 9 (.slice a m c)).run Tryd.prog W = .ok (.string xs) W ∧ Hid (BRow W (.slice a m c) (ms.take m)) ∧ Hid (Below w.heap.size w W))
    ((refine ⟨?_, ?_, ?_, ?_, ?_, ?_⟩ <;> assumption))
    (first
      | (go_at_call 16; refine (HCR.out _ ?_).mono ?_; (refine ⟨?_, ?_, ?_, ?_, ?_, ?_⟩ <;> assumption); rintro e w8 ⟨rfl, q0, q1, q2, q3, q4, q5⟩)
      | (go_at_call 18; refine (HCP.out _ ?_).mono ?_; (refine ⟨?_, ?_, ?_, ?_, ?_, ?_⟩ <;> assumption); rintro e w9 ⟨va, rfl, hva, p0, p1, p2, p3, p4, p5⟩))
  all_goals
    go_wp2
    go_ret
    exact ⟨rfl, p5.out⟩

theorem vback_walk (w : World) (hT : HoldsTab w) (k n : Int) (s : ByteArray) (hs : s.size ≤ maxLen) (a : Option Addr) (c : Nat) (ms : List UInt8) (hb : BRow w (.slice a ms.length c) ms) :
    Calls Tryd.prog 5 #[.agg #[.int .i64 k, .int .i64 n, .string s], .slice a ms.length c] w (RFine w) := by
  by_cases hbig : 9000 < s.size ∨ 9000 < ms.length
  · exact vback_big w hT k n s hs a c ms hb hbig
  have h1 : ¬ 9000 < s.size := fun h => hbig (.inl h)
  have h2 : ¬ 9000 < ms.length := fun h => hbig (.inr h)
  cases hr : rightV k n s with
  | false =>
    cases ho : getV ms with
    | none => exact vback_fn w hT k n s hs a c ms hb h1 h2 hr ho
    | some o => obtain ⟨⟨k2, n2, s2⟩, m⟩ := o; exact vback_fs w hT k n s hs a c ms hb h1 h2 hr k2 n2 s2 m ho
  | true =>
    cases ho : getV ms with
    | none => exact vback_tn w hT k n s hs a c ms hb h1 h2 hr ho
    | some o => obtain ⟨⟨k2, n2, s2⟩, m⟩ := o; exact vback_ts w hT k n s hs a c ms hb h1 h2 hr k2 n2 s2 m ho

end Go.Proofs.YtieegjdpiidfdaaDoor
