/- Queries: the text of a value. | Queries: texts of expressions. -/
import Derived.Test.YtndmbljpfpnehaaGreatDoorM8
import Derived.Lib.AppendIntMem
import Derived.Lib.ItoaLen
namespace Go.Proofs.YtndmbljpfpnehaaGreatDoor
open Go.RowKit Go.Lib Go.Op Go.Shelf Go.Sort

/-- The variables that texts are made with. -/
structure PVars (w : World) : Prop where
  tab : TabIs Tryz.prog w "internal/strconv.uint64pow10" .u64 pow10Tab
  t0 : w.cell? ⟨1, 0, none⟩ = some (.string ⟨#[102, 97, 108, 115, 101]⟩)
  t1 : w.cell? ⟨1, 1, none⟩ = some (.string ⟨#[116, 114, 117, 101]⟩)
theorem tgTab : Tryz.prog.globalNamed "internal/strconv.uint64pow10" = some 2 := by kernel_rfl
theorem PVars.below {w w' : World} (h : PVars w) (hb : Below w.heap.size w w') : PVars w' := ⟨by
  have ht := h.tab
  unfold TabIs at ht ⊢
  exact xvar_keep hb tgTab ht, tkeep hb h.t0, tkeep hb h.t1⟩
theorem tgrow_below {w w' : World} (h : ∃ k os, w' = grow (w.drewN k) os) : Below w.heap.size w w' := by
  obtain ⟨k, os, rfl⟩ := h
  exact below_grow _ w (Nat.le_refl _) k os

set_option maxHeartbeats 1000000 in
set_option maxRecDepth 100000 in
theorem valText_calls {w : World} (hv : PVars w) (v : PVal) (hr : rightB v = true) : Calls Tryz.prog 154 #[.agg #[.int .i64 v.k, .int .i64 v.n, .string (strB v.s)]] w fun e w' => e = .returned (.string (strB (valTx v))) ∧ Below w.heap.size w w' := by
  have hb0 := (Below.refl w.heap.size w).alloc (Nat.le_refl _) (.cells #[.int .i64 v.k, .int .i64 v.n, .string (strB v.s)] 35)
  have HB0 := Lib.hid hb0
  obtain ⟨k, n, s⟩ := v
  rcases rightB_kind hr with hk | hk | hk
  · dsimp only at hk
    subst hk
    have hn : -1099511627776 ≤ n ∧ n ≤ 1099511627776 := by
      unfold rightB at hr
      simp only [if_true, decide_eq_true_eq] at hr
      exact ⟨hr.1, hr.2.1⟩
    have HF := Lib.hid (Tryz.strconv_FormatInt_10 n (by omega) (by omega) _ (hv.below hb0).tab)
    have e1 : valTx ⟨1, n, s⟩ = itoa n := rfl
    rw [e1]
    clear hv hr hb0 e1 hn
    go_enter Tryz.func154, Tryz.ntmps154
    go_wp2_with (go_at_call 51; (with_reducible refine HF.out.mono ?_); rintro e w1 ⟨rfl, hb1⟩; have HB1 := Lib.hid (HB0.out.trans ((tgrow_below hb1).mono HB0.out.size)); clear hb1)
    go_ret
    exact ⟨rfl, HB1.out⟩
  · dsimp only at hk
    subst hk
    have hs : s.length ≤ 64 := by
      unfold rightB at hr
      rw [if_neg (by simp), if_pos rfl, decide_eq_true_eq] at hr
      exact hr.2
    have hsz : (strB s).size ≤ 64 := by rw [strB_size]; exact hs
    have he : (⟨#[39]⟩ : ByteArray) ++ strB s ++ ⟨#[39]⟩ = strB (valTx ⟨2, n, s⟩) := by
      show strB [39] ++ strB s ++ strB [39] = strB (39 :: (s ++ [39]))
      apply ByteArray.ext
      apply Array.ext'
      simp [strB]
    have HE := Lib.hid he
    have hc1 : (⟨#[39]⟩ : ByteArray).size = 1 := rfl
    clear hv hr hb0 hs he
    go_enter Tryz.func154, Tryz.ntmps154
    go_wp2
    go_ret
    exact ⟨by rw [← HE.out]; rfl, HB0.out⟩
  · dsimp only at hk
    subst hk
    have hn : n = 0 ∨ n = 1 := by
      unfold rightB at hr
      rw [if_neg (by simp), if_neg (by simp), if_pos rfl, decide_eq_true_eq] at hr
      dsimp only at hr
      omega
    have hv0 := (hv.below hb0)
    have t0 := hv0.t0
    have t1 := hv0.t1
    clear hv hr hb0 hv0
    rcases hn with rfl | rfl
    · go_enter Tryz.func154, Tryz.ntmps154
      go_wp2
      go_ret
      exact ⟨rfl, HB0.out⟩
    · go_enter Tryz.func154, Tryz.ntmps154
      go_wp2
      go_ret
      exact ⟨rfl, HB0.out⟩

end Go.Proofs.YtndmbljpfpnehaaGreatDoor
namespace Go.Proofs.YtndmbljpfpnehaaGreatDoor
open Go.RowKit Go.Lib Go.Op

theorem catT (a b : List UInt8) : strB a ++ strB b = strB (a ++ b) := by
  apply ByteArray.ext
  apply Array.ext'
  simp [strB]
theorem double_calls (k : Int) (w : World) : Calls Tryz.prog 93 #[.int .i64 k] w fun e w' => e = .returned (.bool (decide (k = 7 ∨ k = 8))) ∧ w = w' := by
  by_cases h7 : k = 7
  · subst h7
    go_enter Tryz.func93, Tryz.ntmps93
    go_wp2
    go_ret
    exact ⟨rfl, rfl⟩
  · have t7 : (k == 7) = false := by rw [beq_eq_false_iff_ne]; exact h7
    by_cases h8 : k = 8
    · subst h8
      go_enter Tryz.func93, Tryz.ntmps93
      go_wp2
      go_ret
      exact ⟨rfl, rfl⟩
    · have t8 : (k == 8) = false := by rw [beq_eq_false_iff_ne]; exact h8
      have hd : decide (k = 7 ∨ k = 8) = false := decide_eq_false (fun e => e.elim h7 h8)
      rw [hd]
      clear h7 h8 hd
      go_enter Tryz.func93, Tryz.ntmps93
      go_wp2
      go_ret
      exact ⟨rfl, rfl⟩

section
variable {w : World} {a : Option Addr} {c n : Nat} {v : PVal} {x f : List UInt8}

set_option maxHeartbeats 2000000 in
set_option maxRecDepth 100000 in
theorem xt_val (hv : PVars w) (hr : rightB v = true) : Calls Tryz.prog 106 #[.agg #[.int .i64 1, .int .i64 v.k, .int .i64 v.n, .string (strB v.s), .string (strB x), .string (strB f), .slice a n c]] w fun e w' => e = .returned (.string (strB (valTx v))) ∧ Below w.heap.size w w' := by
  have hb0 := (Below.refl w.heap.size w).alloc (Nat.le_refl _) (.cells #[.int .i64 1, .int .i64 v.k, .int .i64 v.n, .string (strB v.s), .string (strB x), .string (strB f), .slice a n c] 38)
  have HB0 := Lib.hid hb0
  have HV := Lib.hid (valText_calls (hv.below hb0) v hr)
  clear hv hr hb0
  go_enter Tryz.func106, Tryz.ntmps106
  go_wp2_with (go_at_call 154; (with_reducible refine HV.out.mono ?_); rintro e w1 ⟨rfl, hb1⟩; have HB1 := Lib.hid (HB0.out.trans (hb1.mono HB0.out.size)); clear hb1)
  go_ret
  exact ⟨rfl, HB1.out⟩
set_option maxHeartbeats 2000000 in
set_option maxRecDepth 100000 in
theorem xt_field (hx : x.length ≤ 100) (hf : f.length ≤ 100) : Calls Tryz.prog 106 #[.agg #[.int .i64 2, .int .i64 v.k, .int .i64 v.n, .string (strB v.s), .string (strB x), .string (strB f), .slice a n c]] w fun e w' => e = .returned (.string (strB (x ++ 46 :: f))) ∧ Below w.heap.size w w' := by
  have hb0 := (Below.refl w.heap.size w).alloc (Nat.le_refl _) (.cells #[.int .i64 2, .int .i64 v.k, .int .i64 v.n, .string (strB v.s), .string (strB x), .string (strB f), .slice a n c] 38)
  have HB0 := Lib.hid hb0
  have hsx : (strB x).size ≤ 100 := by rw [strB_size]; exact hx
  have hsf : (strB f).size ≤ 100 := by rw [strB_size]; exact hf
  have z1 : (⟨#[46]⟩ : ByteArray).size = 1 := rfl
  have HR : Hid (strB x ++ ⟨#[46]⟩ ++ strB f = strB (x ++ 46 :: f)) := by
    show strB x ++ strB [46] ++ strB f = _
    rw [catT, catT]
    simp only [List.append_assoc, List.cons_append, List.nil_append]
  clear hb0 hx hf
  go_enter Tryz.func106, Tryz.ntmps106
  go_wp2
  go_ret
  exact ⟨by rw [← HR.out]; rfl, HB0.out⟩
set_option maxHeartbeats 2000000 in
set_option maxRecDepth 100000 in
theorem xt_count (hx : x.length ≤ 100) : Calls Tryz.prog 106 #[.agg #[.int .i64 3, .int .i64 v.k, .int .i64 v.n, .string (strB v.s), .string (strB x), .string (strB f), .slice a n c]] w fun e w' => e = .returned (.string (strB (atL callsL 3 ++ 40 :: (x ++ [41])))) ∧ Below w.heap.size w w' := by
  have hb0 := (Below.refl w.heap.size w).alloc (Nat.le_refl _) (.cells #[.int .i64 3, .int .i64 v.k, .int .i64 v.n, .string (strB v.s), .string (strB x), .string (strB f), .slice a n c] 38)
  have HB0 := Lib.hid hb0
  have hsx : (strB x).size ≤ 100 := by rw [strB_size]; exact hx
  have hix : ∀ W : World, (Instr.index 99 (textsV callsL) (.int .i64 3)).run Tryz.prog W = .ok (.string ⟨#[99, 111, 117, 110, 116]⟩) W := fun W => by kernel_rfl
  have HR : Hid ((⟨#[99, 111, 117, 110, 116]⟩ : ByteArray) ++ ⟨#[40]⟩ ++ strB x ++ ⟨#[41]⟩ = strB (atL callsL 3 ++ 40 :: (x ++ [41]))) := by
    show strB [99, 111, 117, 110, 116] ++ strB [40] ++ strB x ++ strB [41] = _
    rw [catT, catT, catT]
    show strB _ = strB ([99, 111, 117, 110, 116] ++ 40 :: (x ++ [41]))
    simp only [List.cons_append, List.nil_append]
  have HC := Lib.hid (fun W => calls_calls W)
  have z0 : (⟨#[99, 111, 117, 110, 116]⟩ : ByteArray).size = 5 := rfl
  have z1 : (⟨#[40]⟩ : ByteArray).size = 1 := rfl
  have z2 : (⟨#[41]⟩ : ByteArray).size = 1 := rfl
  have z3 : (⟨#[46]⟩ : ByteArray).size = 1 := rfl
  have d0 : (w.alloc (.cells #[.int .i64 3, .int .i64 v.k, .int .i64 v.n, .string (strB v.s), .string (strB x), .string (strB f), .slice a n c] 38)).drew.cell? ⟨w.heap.size, 0, none⟩ = some (.int .i64 3) := tnew w _ _ 0 rfl
  have d4 : (w.alloc (.cells #[.int .i64 3, .int .i64 v.k, .int .i64 v.n, .string (strB v.s), .string (strB x), .string (strB f), .slice a n c] 38)).drew.cell? ⟨w.heap.size, 4, none⟩ = some (.string (strB x)) := tnew w _ _ 4 rfl
  clear hb0 hx
  go_enter Tryz.func106, Tryz.ntmps106
  go_wp2_with fail
  refine wp_region_held_drew (S := fun W => W.cell? ⟨w.heap.size, 0, none⟩ = some (.int .i64 3) ∧ W.cell? ⟨w.heap.size, 4, none⟩ = some (.string (strB x)) ∧ True) (by kernel_rfl) ⟨d0, d4, trivial⟩ (fun hHeld => ?_)
  refine ttakeH 1 22 (v := ?va1) rfl (by kernel_rfl) (by kernel_rfl) (by kernel_rfl) rfl (fun _ _ _ h => h) (by rfl) ?ya1 (by assumption) ?ra1
  case ya1 => (intro W hSw; (try dsimp only at hSw); (try obtain ⟨hS0, hS1, hS2⟩ := hSw); go_simp; (try rw [if_neg (by omega)]); try with_reducible rfl)
  try simp only [Act.put, List.setIfInBounds_toArray, List.set_cons_zero, List.set_cons_succ]
  refine ttakeH 2 23 (v := ?va2) rfl (by kernel_rfl) (by kernel_rfl) (by kernel_rfl) rfl (fun _ _ _ h => h) (by rfl) ?ya2 (by assumption) ?ra2
  case ya2 => (intro W hSw; (try dsimp only at hSw); (try obtain ⟨hS0, hS1, hS2⟩ := hSw); go_simp; (try rw [if_neg (by omega)]); try with_reducible rfl)
  try simp only [Act.put, List.setIfInBounds_toArray, List.set_cons_zero, List.set_cons_succ]
  refine ttakeH 5 26 (v := ?va5) rfl (by kernel_rfl) (by kernel_rfl) (by kernel_rfl) rfl (fun _ _ _ h => h) (by rfl) ?ya5 (by assumption) ?ra5
  case ya5 => (intro W hSw; (try dsimp only at hSw); (try obtain ⟨hS0, hS1, hS2⟩ := hSw); go_simp; (try rw [if_neg (by omega)]); try with_reducible rfl)
  try simp only [Act.put, List.setIfInBounds_toArray, List.set_cons_zero, List.set_cons_succ]
  refine ttakeH 6 27 (v := ?va6) rfl (by kernel_rfl) (by kernel_rfl) (by kernel_rfl) rfl (fun _ _ _ h => h) (by rfl) ?ya6 (by assumption) ?ra6
  case ya6 => (intro W hSw; (try dsimp only at hSw); (try obtain ⟨hS0, hS1, hS2⟩ := hSw); go_simp; (try rw [if_neg (by omega)]); try with_reducible rfl)
  try simp only [Act.put, List.setIfInBounds_toArray, List.set_cons_zero, List.set_cons_succ]
  refine wpAnyH_ready (rs := [0]) (by kernel_rfl) (by simp) ?_
  refine AllReadyH.cons (o := _) rfl (fun K hK => ?_) AllReadyH.nil
  dsimp only [List.getElem_toArray, List.getElem_cons_succ, List.getElem_cons_zero]
  go_simp
  go_at_call 155
  (with_reducible refine (HC.out _).mono ?_)
  rintro e w1 ⟨rfl, hb1⟩
  have HB1 := Lib.hid ((vbelow_drew HB0.out).trans (hb1.mono (show _ ≤ (w.alloc (.cells #[.int .i64 3, .int .i64 v.k, .int .i64 v.n, .string (strB v.s), .string (strB x), .string (strB f), .slice a n c] 38)).drew.heap.size from HB0.out.size)))
  have e0 := tkeep hb1 d0
  have e4 := tkeep hb1 d4
  clear hb1
  go_wp2_with fail
  refine hK.out _ _ ⟨e0, e4, trivial⟩ (fun hHelda0 => ?_)
  clear hK K
  try simp only [Act.put, List.setIfInBounds_toArray, List.set_cons_zero, List.set_cons_succ]
  refine ttakeH 3 24 (v := ?va3) rfl (by kernel_rfl) (by kernel_rfl) (by kernel_rfl) rfl (fun _ _ _ h => h) (by rfl) ?ya3 (by assumption) ?ra3
  case ya3 => (intro W hSw; (try dsimp only at hSw); (try obtain ⟨hS0, hS1, hS2⟩ := hSw); go_simp; (try rw [if_neg (by omega)]); try with_reducible rfl)
  try simp only [Act.put, List.setIfInBounds_toArray, List.set_cons_zero, List.set_cons_succ]
  refine ttakeH 4 25 (v := ?va4) rfl (by kernel_rfl) (by kernel_rfl) (by kernel_rfl) rfl (fun _ _ _ h => h) (by rfl) ?ya4 (by assumption) ?ra4
  case ya4 => (intro W hSw; (try dsimp only at hSw); (try obtain ⟨hS0, hS1, hS2⟩ := hSw); go_simp; (try rw [if_neg (by omega)]); try with_reducible rfl)
  try simp only [Act.put, List.setIfInBounds_toArray, List.set_cons_zero, List.set_cons_succ]
  refine ttakeH 7 28 (v := ?va7) rfl (by kernel_rfl) (by kernel_rfl) (by kernel_rfl) rfl (fun _ _ _ h => h) (by rfl) ?ya7 (by assumption) ?ra7
  case ya7 => (intro W hSw; (try dsimp only at hSw); (try obtain ⟨hS0, hS1, hS2⟩ := hSw); go_simp; (try rw [if_neg (by omega)]); try with_reducible rfl)
  try simp only [Act.put, List.setIfInBounds_toArray, List.set_cons_zero, List.set_cons_succ]
  refine ttakeH 8 29 (v := ?va8) rfl (by kernel_rfl) (by kernel_rfl) (by kernel_rfl) rfl (fun _ _ _ h => h) (by rfl) ?ya8 (by assumption) ?ra8
  case ya8 => (intro W hSw; (try dsimp only at hSw); (try obtain ⟨hS0, hS1, hS2⟩ := hSw); go_simp; (try rw [if_neg (by omega)]); try with_reducible rfl)
  try simp only [Act.put, List.setIfInBounds_toArray, List.set_cons_zero, List.set_cons_succ]
  refine ttakeH 9 2 (v := ?va9) rfl (by kernel_rfl) (by kernel_rfl) (by kernel_rfl) rfl (fun _ _ _ h => h) (by rfl) ?ya9 (by assumption) ?ra9
  case ya9 => (intro W hSw; (try dsimp only at hSw); (try obtain ⟨hS0, hS1, hS2⟩ := hSw); go_simp; (try rw [if_neg (by omega)]); try with_reducible rfl)
  try simp only [Act.put, List.setIfInBounds_toArray, List.set_cons_zero, List.set_cons_succ]
  refine wpAnyH_done (by kernel_rfl) ?_ _
  go_wp2
  go_ret
  exact ⟨by rw [← HR.out]; rfl, HB1.out⟩
set_option maxHeartbeats 2000000 in
set_option maxRecDepth 100000 in
theorem xt_sum (hx : x.length ≤ 100) (hf : f.length ≤ 100) : Calls Tryz.prog 106 #[.agg #[.int .i64 4, .int .i64 v.k, .int .i64 v.n, .string (strB v.s), .string (strB x), .string (strB f), .slice a n c]] w fun e w' => e = .returned (.string (strB (atL callsL 4 ++ 40 :: (x ++ 46 :: (f ++ [41]))))) ∧ Below w.heap.size w w' := by
  have hb0 := (Below.refl w.heap.size w).alloc (Nat.le_refl _) (.cells #[.int .i64 4, .int .i64 v.k, .int .i64 v.n, .string (strB v.s), .string (strB x), .string (strB f), .slice a n c] 38)
  have HB0 := Lib.hid hb0
  have hsx : (strB x).size ≤ 100 := by rw [strB_size]; exact hx
  have hsf : (strB f).size ≤ 100 := by rw [strB_size]; exact hf
  have hix : ∀ W : World, (Instr.index 99 (textsV callsL) (.int .i64 4)).run Tryz.prog W = .ok (.string ⟨#[115, 117, 109]⟩) W := fun W => by kernel_rfl
  have HR : Hid ((⟨#[115, 117, 109]⟩ : ByteArray) ++ ⟨#[40]⟩ ++ strB x ++ ⟨#[46]⟩ ++ strB f ++ ⟨#[41]⟩ = strB (atL callsL 4 ++ 40 :: (x ++ 46 :: (f ++ [41])))) := by
    show strB [115, 117, 109] ++ strB [40] ++ strB x ++ strB [46] ++ strB f ++ strB [41] = _
    rw [catT, catT, catT, catT, catT]
    show strB _ = strB ([115, 117, 109] ++ 40 :: (x ++ 46 :: (f ++ [41])))
    simp only [List.append_assoc, List.cons_append, List.nil_append]
  have HC := Lib.hid (fun W => calls_calls W)
  have z0 : (⟨#[115, 117, 109]⟩ : ByteArray).size = 3 := rfl
  have z1 : (⟨#[40]⟩ : ByteArray).size = 1 := rfl
  have z2 : (⟨#[41]⟩ : ByteArray).size = 1 := rfl
  have z3 : (⟨#[46]⟩ : ByteArray).size = 1 := rfl
  have d0 : (w.alloc (.cells #[.int .i64 4, .int .i64 v.k, .int .i64 v.n, .string (strB v.s), .string (strB x), .string (strB f), .slice a n c] 38)).drew.cell? ⟨w.heap.size, 0, none⟩ = some (.int .i64 4) := tnew w _ _ 0 rfl
  have d4 : (w.alloc (.cells #[.int .i64 4, .int .i64 v.k, .int .i64 v.n, .string (strB v.s), .string (strB x), .string (strB f), .slice a n c] 38)).drew.cell? ⟨w.heap.size, 4, none⟩ = some (.string (strB x)) := tnew w _ _ 4 rfl
  have d5 : (w.alloc (.cells #[.int .i64 4, .int .i64 v.k, .int .i64 v.n, .string (strB v.s), .string (strB x), .string (strB f), .slice a n c] 38)).drew.cell? ⟨w.heap.size, 5, none⟩ = some (.string (strB f)) := tnew w _ _ 5 rfl
  clear hb0 hx hf
  go_enter Tryz.func106, Tryz.ntmps106
  go_wp2_with fail
  refine wp_region_held_drew (S := fun W => W.cell? ⟨w.heap.size, 0, none⟩ = some (.int .i64 4) ∧ W.cell? ⟨w.heap.size, 4, none⟩ = some (.string (strB x)) ∧ W.cell? ⟨w.heap.size, 5, none⟩ = some (.string (strB f))) (by kernel_rfl) ⟨d0, d4, d5⟩ (fun hHeld => ?_)
  refine ttakeH 1 35 (v := ?va1) rfl (by kernel_rfl) (by kernel_rfl) (by kernel_rfl) rfl (fun _ _ _ h => h) (by rfl) ?ya1 (by assumption) ?ra1
  case ya1 => (intro W hSw; (try dsimp only at hSw); (try obtain ⟨hS0, hS1, hS2⟩ := hSw); go_simp; (try rw [if_neg (by omega)]); try with_reducible rfl)
  try simp only [Act.put, List.setIfInBounds_toArray, List.set_cons_zero, List.set_cons_succ]
  refine ttakeH 2 36 (v := ?va2) rfl (by kernel_rfl) (by kernel_rfl) (by kernel_rfl) rfl (fun _ _ _ h => h) (by rfl) ?ya2 (by assumption) ?ra2
  case ya2 => (intro W hSw; (try dsimp only at hSw); (try obtain ⟨hS0, hS1, hS2⟩ := hSw); go_simp; (try rw [if_neg (by omega)]); try with_reducible rfl)
  try simp only [Act.put, List.setIfInBounds_toArray, List.set_cons_zero, List.set_cons_succ]
  refine ttakeH 5 39 (v := ?va5) rfl (by kernel_rfl) (by kernel_rfl) (by kernel_rfl) rfl (fun _ _ _ h => h) (by rfl) ?ya5 (by assumption) ?ra5
  case ya5 => (intro W hSw; (try dsimp only at hSw); (try obtain ⟨hS0, hS1, hS2⟩ := hSw); go_simp; (try rw [if_neg (by omega)]); try with_reducible rfl)
  try simp only [Act.put, List.setIfInBounds_toArray, List.set_cons_zero, List.set_cons_succ]
  refine ttakeH 6 40 (v := ?va6) rfl (by kernel_rfl) (by kernel_rfl) (by kernel_rfl) rfl (fun _ _ _ h => h) (by rfl) ?ya6 (by assumption) ?ra6
  case ya6 => (intro W hSw; (try dsimp only at hSw); (try obtain ⟨hS0, hS1, hS2⟩ := hSw); go_simp; (try rw [if_neg (by omega)]); try with_reducible rfl)
  try simp only [Act.put, List.setIfInBounds_toArray, List.set_cons_zero, List.set_cons_succ]
  refine ttakeH 9 43 (v := ?va9) rfl (by kernel_rfl) (by kernel_rfl) (by kernel_rfl) rfl (fun _ _ _ h => h) (by rfl) ?ya9 (by assumption) ?ra9
  case ya9 => (intro W hSw; (try dsimp only at hSw); (try obtain ⟨hS0, hS1, hS2⟩ := hSw); go_simp; (try rw [if_neg (by omega)]); try with_reducible rfl)
  try simp only [Act.put, List.setIfInBounds_toArray, List.set_cons_zero, List.set_cons_succ]
  refine ttakeH 10 44 (v := ?va10) rfl (by kernel_rfl) (by kernel_rfl) (by kernel_rfl) rfl (fun _ _ _ h => h) (by rfl) ?ya10 (by assumption) ?ra10
  case ya10 => (intro W hSw; (try dsimp only at hSw); (try obtain ⟨hS0, hS1, hS2⟩ := hSw); go_simp; (try rw [if_neg (by omega)]); try with_reducible rfl)
  try simp only [Act.put, List.setIfInBounds_toArray, List.set_cons_zero, List.set_cons_succ]
  refine wpAnyH_ready (rs := [0]) (by kernel_rfl) (by simp) ?_
  refine AllReadyH.cons (o := _) rfl (fun K hK => ?_) AllReadyH.nil
  dsimp only [List.getElem_toArray, List.getElem_cons_succ, List.getElem_cons_zero]
  go_simp
  go_at_call 155
  (with_reducible refine (HC.out _).mono ?_)
  rintro e w1 ⟨rfl, hb1⟩
  have HB1 := Lib.hid ((vbelow_drew HB0.out).trans (hb1.mono (show _ ≤ (w.alloc (.cells #[.int .i64 4, .int .i64 v.k, .int .i64 v.n, .string (strB v.s), .string (strB x), .string (strB f), .slice a n c] 38)).drew.heap.size from HB0.out.size)))
  have e0 := tkeep hb1 d0
  have e4 := tkeep hb1 d4
  have e5 := tkeep hb1 d5
  clear hb1
  go_wp2_with fail
  refine hK.out _ _ ⟨e0, e4, e5⟩ (fun hHelda0 => ?_)
  clear hK K
  try simp only [Act.put, List.setIfInBounds_toArray, List.set_cons_zero, List.set_cons_succ]
  refine ttakeH 3 37 (v := ?va3) rfl (by kernel_rfl) (by kernel_rfl) (by kernel_rfl) rfl (fun _ _ _ h => h) (by rfl) ?ya3 (by assumption) ?ra3
  case ya3 => (intro W hSw; (try dsimp only at hSw); (try obtain ⟨hS0, hS1, hS2⟩ := hSw); go_simp; (try rw [if_neg (by omega)]); try with_reducible rfl)
  try simp only [Act.put, List.setIfInBounds_toArray, List.set_cons_zero, List.set_cons_succ]
  refine ttakeH 4 38 (v := ?va4) rfl (by kernel_rfl) (by kernel_rfl) (by kernel_rfl) rfl (fun _ _ _ h => h) (by rfl) ?ya4 (by assumption) ?ra4
  case ya4 => (intro W hSw; (try dsimp only at hSw); (try obtain ⟨hS0, hS1, hS2⟩ := hSw); go_simp; (try rw [if_neg (by omega)]); try with_reducible rfl)
  try simp only [Act.put, List.setIfInBounds_toArray, List.set_cons_zero, List.set_cons_succ]
  refine ttakeH 7 41 (v := ?va7) rfl (by kernel_rfl) (by kernel_rfl) (by kernel_rfl) rfl (fun _ _ _ h => h) (by rfl) ?ya7 (by assumption) ?ra7
  case ya7 => (intro W hSw; (try dsimp only at hSw); (try obtain ⟨hS0, hS1, hS2⟩ := hSw); go_simp; (try rw [if_neg (by omega)]); try with_reducible rfl)
  try simp only [Act.put, List.setIfInBounds_toArray, List.set_cons_zero, List.set_cons_succ]
  refine ttakeH 8 42 (v := ?va8) rfl (by kernel_rfl) (by kernel_rfl) (by kernel_rfl) rfl (fun _ _ _ h => h) (by rfl) ?ya8 (by assumption) ?ra8
  case ya8 => (intro W hSw; (try dsimp only at hSw); (try obtain ⟨hS0, hS1, hS2⟩ := hSw); go_simp; (try rw [if_neg (by omega)]); try with_reducible rfl)
  try simp only [Act.put, List.setIfInBounds_toArray, List.set_cons_zero, List.set_cons_succ]
  refine ttakeH 11 45 (v := ?va11) rfl (by kernel_rfl) (by kernel_rfl) (by kernel_rfl) rfl (fun _ _ _ h => h) (by rfl) ?ya11 (by assumption) ?ra11
  case ya11 => (intro W hSw; (try dsimp only at hSw); (try obtain ⟨hS0, hS1, hS2⟩ := hSw); go_simp; (try rw [if_neg (by omega)]); try with_reducible rfl)
  try simp only [Act.put, List.setIfInBounds_toArray, List.set_cons_zero, List.set_cons_succ]
  refine ttakeH 12 46 (v := ?va12) rfl (by kernel_rfl) (by kernel_rfl) (by kernel_rfl) rfl (fun _ _ _ h => h) (by rfl) ?ya12 (by assumption) ?ra12
  case ya12 => (intro W hSw; (try dsimp only at hSw); (try obtain ⟨hS0, hS1, hS2⟩ := hSw); go_simp; (try rw [if_neg (by omega)]); try with_reducible rfl)
  try simp only [Act.put, List.setIfInBounds_toArray, List.set_cons_zero, List.set_cons_succ]
  refine ttakeH 13 2 (v := ?va13) rfl (by kernel_rfl) (by kernel_rfl) (by kernel_rfl) rfl (fun _ _ _ h => h) (by rfl) ?ya13 (by assumption) ?ra13
  case ya13 => (intro W hSw; (try dsimp only at hSw); (try obtain ⟨hS0, hS1, hS2⟩ := hSw); go_simp; (try rw [if_neg (by omega)]); try with_reducible rfl)
  try simp only [Act.put, List.setIfInBounds_toArray, List.set_cons_zero, List.set_cons_succ]
  refine wpAnyH_done (by kernel_rfl) ?_ _
  go_wp2
  go_ret
  exact ⟨by rw [← HR.out]; rfl, HB1.out⟩
set_option maxHeartbeats 2000000 in
set_option maxRecDepth 100000 in
theorem xt_min (hx : x.length ≤ 100) (hf : f.length ≤ 100) : Calls Tryz.prog 106 #[.agg #[.int .i64 5, .int .i64 v.k, .int .i64 v.n, .string (strB v.s), .string (strB x), .string (strB f), .slice a n c]] w fun e w' => e = .returned (.string (strB (atL callsL 5 ++ 40 :: (x ++ 46 :: (f ++ [41]))))) ∧ Below w.heap.size w w' := by
  have hb0 := (Below.refl w.heap.size w).alloc (Nat.le_refl _) (.cells #[.int .i64 5, .int .i64 v.k, .int .i64 v.n, .string (strB v.s), .string (strB x), .string (strB f), .slice a n c] 38)
  have HB0 := Lib.hid hb0
  have hsx : (strB x).size ≤ 100 := by rw [strB_size]; exact hx
  have hsf : (strB f).size ≤ 100 := by rw [strB_size]; exact hf
  have hix : ∀ W : World, (Instr.index 99 (textsV callsL) (.int .i64 5)).run Tryz.prog W = .ok (.string ⟨#[109, 105, 110]⟩) W := fun W => by kernel_rfl
  have HR : Hid ((⟨#[109, 105, 110]⟩ : ByteArray) ++ ⟨#[40]⟩ ++ strB x ++ ⟨#[46]⟩ ++ strB f ++ ⟨#[41]⟩ = strB (atL callsL 5 ++ 40 :: (x ++ 46 :: (f ++ [41])))) := by
    show strB [109, 105, 110] ++ strB [40] ++ strB x ++ strB [46] ++ strB f ++ strB [41] = _
    rw [catT, catT, catT, catT, catT]
    show strB _ = strB ([109, 105, 110] ++ 40 :: (x ++ 46 :: (f ++ [41])))
    simp only [List.append_assoc, List.cons_append, List.nil_append]
  have HC := Lib.hid (fun W => calls_calls W)
  have z0 : (⟨#[109, 105, 110]⟩ : ByteArray).size = 3 := rfl
  have z1 : (⟨#[40]⟩ : ByteArray).size = 1 := rfl
  have z2 : (⟨#[41]⟩ : ByteArray).size = 1 := rfl
  have z3 : (⟨#[46]⟩ : ByteArray).size = 1 := rfl
  have d0 : (w.alloc (.cells #[.int .i64 5, .int .i64 v.k, .int .i64 v.n, .string (strB v.s), .string (strB x), .string (strB f), .slice a n c] 38)).drew.cell? ⟨w.heap.size, 0, none⟩ = some (.int .i64 5) := tnew w _ _ 0 rfl
  have d4 : (w.alloc (.cells #[.int .i64 5, .int .i64 v.k, .int .i64 v.n, .string (strB v.s), .string (strB x), .string (strB f), .slice a n c] 38)).drew.cell? ⟨w.heap.size, 4, none⟩ = some (.string (strB x)) := tnew w _ _ 4 rfl
  have d5 : (w.alloc (.cells #[.int .i64 5, .int .i64 v.k, .int .i64 v.n, .string (strB v.s), .string (strB x), .string (strB f), .slice a n c] 38)).drew.cell? ⟨w.heap.size, 5, none⟩ = some (.string (strB f)) := tnew w _ _ 5 rfl
  clear hb0 hx hf
  go_enter Tryz.func106, Tryz.ntmps106
  go_wp2_with fail
  refine wp_region_held_drew (S := fun W => W.cell? ⟨w.heap.size, 0, none⟩ = some (.int .i64 5) ∧ W.cell? ⟨w.heap.size, 4, none⟩ = some (.string (strB x)) ∧ W.cell? ⟨w.heap.size, 5, none⟩ = some (.string (strB f))) (by kernel_rfl) ⟨d0, d4, d5⟩ (fun hHeld => ?_)
  refine ttakeH 1 35 (v := ?va1) rfl (by kernel_rfl) (by kernel_rfl) (by kernel_rfl) rfl (fun _ _ _ h => h) (by rfl) ?ya1 (by assumption) ?ra1
  case ya1 => (intro W hSw; (try dsimp only at hSw); (try obtain ⟨hS0, hS1, hS2⟩ := hSw); go_simp; (try rw [if_neg (by omega)]); try with_reducible rfl)
  try simp only [Act.put, List.setIfInBounds_toArray, List.set_cons_zero, List.set_cons_succ]
  refine ttakeH 2 36 (v := ?va2) rfl (by kernel_rfl) (by kernel_rfl) (by kernel_rfl) rfl (fun _ _ _ h => h) (by rfl) ?ya2 (by assumption) ?ra2
  case ya2 => (intro W hSw; (try dsimp only at hSw); (try obtain ⟨hS0, hS1, hS2⟩ := hSw); go_simp; (try rw [if_neg (by omega)]); try with_reducible rfl)
  try simp only [Act.put, List.setIfInBounds_toArray, List.set_cons_zero, List.set_cons_succ]
  refine ttakeH 5 39 (v := ?va5) rfl (by kernel_rfl) (by kernel_rfl) (by kernel_rfl) rfl (fun _ _ _ h => h) (by rfl) ?ya5 (by assumption) ?ra5
  case ya5 => (intro W hSw; (try dsimp only at hSw); (try obtain ⟨hS0, hS1, hS2⟩ := hSw); go_simp; (try rw [if_neg (by omega)]); try with_reducible rfl)
  try simp only [Act.put, List.setIfInBounds_toArray, List.set_cons_zero, List.set_cons_succ]
  refine ttakeH 6 40 (v := ?va6) rfl (by kernel_rfl) (by kernel_rfl) (by kernel_rfl) rfl (fun _ _ _ h => h) (by rfl) ?ya6 (by assumption) ?ra6
  case ya6 => (intro W hSw; (try dsimp only at hSw); (try obtain ⟨hS0, hS1, hS2⟩ := hSw); go_simp; (try rw [if_neg (by omega)]); try with_reducible rfl)
  try simp only [Act.put, List.setIfInBounds_toArray, List.set_cons_zero, List.set_cons_succ]
  refine ttakeH 9 43 (v := ?va9) rfl (by kernel_rfl) (by kernel_rfl) (by kernel_rfl) rfl (fun _ _ _ h => h) (by rfl) ?ya9 (by assumption) ?ra9
  case ya9 => (intro W hSw; (try dsimp only at hSw); (try obtain ⟨hS0, hS1, hS2⟩ := hSw); go_simp; (try rw [if_neg (by omega)]); try with_reducible rfl)
  try simp only [Act.put, List.setIfInBounds_toArray, List.set_cons_zero, List.set_cons_succ]
  refine ttakeH 10 44 (v := ?va10) rfl (by kernel_rfl) (by kernel_rfl) (by kernel_rfl) rfl (fun _ _ _ h => h) (by rfl) ?ya10 (by assumption) ?ra10
  case ya10 => (intro W hSw; (try dsimp only at hSw); (try obtain ⟨hS0, hS1, hS2⟩ := hSw); go_simp; (try rw [if_neg (by omega)]); try with_reducible rfl)
  try simp only [Act.put, List.setIfInBounds_toArray, List.set_cons_zero, List.set_cons_succ]
  refine wpAnyH_ready (rs := [0]) (by kernel_rfl) (by simp) ?_
  refine AllReadyH.cons (o := _) rfl (fun K hK => ?_) AllReadyH.nil
  dsimp only [List.getElem_toArray, List.getElem_cons_succ, List.getElem_cons_zero]
  go_simp
  go_at_call 155
  (with_reducible refine (HC.out _).mono ?_)
  rintro e w1 ⟨rfl, hb1⟩
  have HB1 := Lib.hid ((vbelow_drew HB0.out).trans (hb1.mono (show _ ≤ (w.alloc (.cells #[.int .i64 5, .int .i64 v.k, .int .i64 v.n, .string (strB v.s), .string (strB x), .string (strB f), .slice a n c] 38)).drew.heap.size from HB0.out.size)))
  have e0 := tkeep hb1 d0
  have e4 := tkeep hb1 d4
  have e5 := tkeep hb1 d5
  clear hb1
  go_wp2_with fail
  refine hK.out _ _ ⟨e0, e4, e5⟩ (fun hHelda0 => ?_)
  clear hK K
  try simp only [Act.put, List.setIfInBounds_toArray, List.set_cons_zero, List.set_cons_succ]
  refine ttakeH 3 37 (v := ?va3) rfl (by kernel_rfl) (by kernel_rfl) (by kernel_rfl) rfl (fun _ _ _ h => h) (by rfl) ?ya3 (by assumption) ?ra3
  case ya3 => (intro W hSw; (try dsimp only at hSw); (try obtain ⟨hS0, hS1, hS2⟩ := hSw); go_simp; (try rw [if_neg (by omega)]); try with_reducible rfl)
  try simp only [Act.put, List.setIfInBounds_toArray, List.set_cons_zero, List.set_cons_succ]
  refine ttakeH 4 38 (v := ?va4) rfl (by kernel_rfl) (by kernel_rfl) (by kernel_rfl) rfl (fun _ _ _ h => h) (by rfl) ?ya4 (by assumption) ?ra4
  case ya4 => (intro W hSw; (try dsimp only at hSw); (try obtain ⟨hS0, hS1, hS2⟩ := hSw); go_simp; (try rw [if_neg (by omega)]); try with_reducible rfl)
  try simp only [Act.put, List.setIfInBounds_toArray, List.set_cons_zero, List.set_cons_succ]
  refine ttakeH 7 41 (v := ?va7) rfl (by kernel_rfl) (by kernel_rfl) (by kernel_rfl) rfl (fun _ _ _ h => h) (by rfl) ?ya7 (by assumption) ?ra7
  case ya7 => (intro W hSw; (try dsimp only at hSw); (try obtain ⟨hS0, hS1, hS2⟩ := hSw); go_simp; (try rw [if_neg (by omega)]); try with_reducible rfl)
  try simp only [Act.put, List.setIfInBounds_toArray, List.set_cons_zero, List.set_cons_succ]
  refine ttakeH 8 42 (v := ?va8) rfl (by kernel_rfl) (by kernel_rfl) (by kernel_rfl) rfl (fun _ _ _ h => h) (by rfl) ?ya8 (by assumption) ?ra8
  case ya8 => (intro W hSw; (try dsimp only at hSw); (try obtain ⟨hS0, hS1, hS2⟩ := hSw); go_simp; (try rw [if_neg (by omega)]); try with_reducible rfl)
  try simp only [Act.put, List.setIfInBounds_toArray, List.set_cons_zero, List.set_cons_succ]
  refine ttakeH 11 45 (v := ?va11) rfl (by kernel_rfl) (by kernel_rfl) (by kernel_rfl) rfl (fun _ _ _ h => h) (by rfl) ?ya11 (by assumption) ?ra11
  case ya11 => (intro W hSw; (try dsimp only at hSw); (try obtain ⟨hS0, hS1, hS2⟩ := hSw); go_simp; (try rw [if_neg (by omega)]); try with_reducible rfl)
  try simp only [Act.put, List.setIfInBounds_toArray, List.set_cons_zero, List.set_cons_succ]
  refine ttakeH 12 46 (v := ?va12) rfl (by kernel_rfl) (by kernel_rfl) (by kernel_rfl) rfl (fun _ _ _ h => h) (by rfl) ?ya12 (by assumption) ?ra12
  case ya12 => (intro W hSw; (try dsimp only at hSw); (try obtain ⟨hS0, hS1, hS2⟩ := hSw); go_simp; (try rw [if_neg (by omega)]); try with_reducible rfl)
  try simp only [Act.put, List.setIfInBounds_toArray, List.set_cons_zero, List.set_cons_succ]
  refine ttakeH 13 2 (v := ?va13) rfl (by kernel_rfl) (by kernel_rfl) (by kernel_rfl) rfl (fun _ _ _ h => h) (by rfl) ?ya13 (by assumption) ?ra13
  case ya13 => (intro W hSw; (try dsimp only at hSw); (try obtain ⟨hS0, hS1, hS2⟩ := hSw); go_simp; (try rw [if_neg (by omega)]); try with_reducible rfl)
  try simp only [Act.put, List.setIfInBounds_toArray, List.set_cons_zero, List.set_cons_succ]
  refine wpAnyH_done (by kernel_rfl) ?_ _
  go_wp2
  go_ret
  exact ⟨by rw [← HR.out]; rfl, HB1.out⟩
set_option maxHeartbeats 2000000 in
set_option maxRecDepth 100000 in
theorem xt_max (hx : x.length ≤ 100) (hf : f.length ≤ 100) : Calls Tryz.prog 106 #[.agg #[.int .i64 6, .int .i64 v.k, .int .i64 v.n, .string (strB v.s), .string (strB x), .string (strB f), .slice a n c]] w fun e w' => e = .returned (.string (strB (atL callsL 6 ++ 40 :: (x ++ 46 :: (f ++ [41]))))) ∧ Below w.heap.size w w' := by
  have hb0 := (Below.refl w.heap.size w).alloc (Nat.le_refl _) (.cells #[.int .i64 6, .int .i64 v.k, .int .i64 v.n, .string (strB v.s), .string (strB x), .string (strB f), .slice a n c] 38)
  have HB0 := Lib.hid hb0
  have hsx : (strB x).size ≤ 100 := by rw [strB_size]; exact hx
  have hsf : (strB f).size ≤ 100 := by rw [strB_size]; exact hf
  have hix : ∀ W : World, (Instr.index 99 (textsV callsL) (.int .i64 6)).run Tryz.prog W = .ok (.string ⟨#[109, 97, 120]⟩) W := fun W => by kernel_rfl
  have HR : Hid ((⟨#[109, 97, 120]⟩ : ByteArray) ++ ⟨#[40]⟩ ++ strB x ++ ⟨#[46]⟩ ++ strB f ++ ⟨#[41]⟩ = strB (atL callsL 6 ++ 40 :: (x ++ 46 :: (f ++ [41])))) := by
    show strB [109, 97, 120] ++ strB [40] ++ strB x ++ strB [46] ++ strB f ++ strB [41] = _
    rw [catT, catT, catT, catT, catT]
    show strB _ = strB ([109, 97, 120] ++ 40 :: (x ++ 46 :: (f ++ [41])))
    simp only [List.append_assoc, List.cons_append, List.nil_append]
  have HC := Lib.hid (fun W => calls_calls W)
  have z0 : (⟨#[109, 97, 120]⟩ : ByteArray).size = 3 := rfl
  have z1 : (⟨#[40]⟩ : ByteArray).size = 1 := rfl
  have z2 : (⟨#[41]⟩ : ByteArray).size = 1 := rfl
  have z3 : (⟨#[46]⟩ : ByteArray).size = 1 := rfl
  have d0 : (w.alloc (.cells #[.int .i64 6, .int .i64 v.k, .int .i64 v.n, .string (strB v.s), .string (strB x), .string (strB f), .slice a n c] 38)).drew.cell? ⟨w.heap.size, 0, none⟩ = some (.int .i64 6) := tnew w _ _ 0 rfl
  have d4 : (w.alloc (.cells #[.int .i64 6, .int .i64 v.k, .int .i64 v.n, .string (strB v.s), .string (strB x), .string (strB f), .slice a n c] 38)).drew.cell? ⟨w.heap.size, 4, none⟩ = some (.string (strB x)) := tnew w _ _ 4 rfl
  have d5 : (w.alloc (.cells #[.int .i64 6, .int .i64 v.k, .int .i64 v.n, .string (strB v.s), .string (strB x), .string (strB f), .slice a n c] 38)).drew.cell? ⟨w.heap.size, 5, none⟩ = some (.string (strB f)) := tnew w _ _ 5 rfl
  clear hb0 hx hf
  go_enter Tryz.func106, Tryz.ntmps106
  go_wp2_with fail
  refine wp_region_held_drew (S := fun W => W.cell? ⟨w.heap.size, 0, none⟩ = some (.int .i64 6) ∧ W.cell? ⟨w.heap.size, 4, none⟩ = some (.string (strB x)) ∧ W.cell? ⟨w.heap.size, 5, none⟩ = some (.string (strB f))) (by kernel_rfl) ⟨d0, d4, d5⟩ (fun hHeld => ?_)
  refine ttakeH 1 35 (v := ?va1) rfl (by kernel_rfl) (by kernel_rfl) (by kernel_rfl) rfl (fun _ _ _ h => h) (by rfl) ?ya1 (by assumption) ?ra1
  case ya1 => (intro W hSw; (try dsimp only at hSw); (try obtain ⟨hS0, hS1, hS2⟩ := hSw); go_simp; (try rw [if_neg (by omega)]); try with_reducible rfl)
  try simp only [Act.put, List.setIfInBounds_toArray, List.set_cons_zero, List.set_cons_succ]
  refine ttakeH 2 36 (v := ?va2) rfl (by kernel_rfl) (by kernel_rfl) (by kernel_rfl) rfl (fun _ _ _ h => h) (by rfl) ?ya2 (by assumption) ?ra2
  case ya2 => (intro W hSw; (try dsimp only at hSw); (try obtain ⟨hS0, hS1, hS2⟩ := hSw); go_simp; (try rw [if_neg (by omega)]); try with_reducible rfl)
  try simp only [Act.put, List.setIfInBounds_toArray, List.set_cons_zero, List.set_cons_succ]
  refine ttakeH 5 39 (v := ?va5) rfl (by kernel_rfl) (by kernel_rfl) (by kernel_rfl) rfl (fun _ _ _ h => h) (by rfl) ?ya5 (by assumption) ?ra5
  case ya5 => (intro W hSw; (try dsimp only at hSw); (try obtain ⟨hS0, hS1, hS2⟩ := hSw); go_simp; (try rw [if_neg (by omega)]); try with_reducible rfl)
  try simp only [Act.put, List.setIfInBounds_toArray, List.set_cons_zero, List.set_cons_succ]
  refine ttakeH 6 40 (v := ?va6) rfl (by kernel_rfl) (by kernel_rfl) (by kernel_rfl) rfl (fun _ _ _ h => h) (by rfl) ?ya6 (by assumption) ?ra6
  case ya6 => (intro W hSw; (try dsimp only at hSw); (try obtain ⟨hS0, hS1, hS2⟩ := hSw); go_simp; (try rw [if_neg (by omega)]); try with_reducible rfl)
  try simp only [Act.put, List.setIfInBounds_toArray, List.set_cons_zero, List.set_cons_succ]
  refine ttakeH 9 43 (v := ?va9) rfl (by kernel_rfl) (by kernel_rfl) (by kernel_rfl) rfl (fun _ _ _ h => h) (by rfl) ?ya9 (by assumption) ?ra9
  case ya9 => (intro W hSw; (try dsimp only at hSw); (try obtain ⟨hS0, hS1, hS2⟩ := hSw); go_simp; (try rw [if_neg (by omega)]); try with_reducible rfl)
  try simp only [Act.put, List.setIfInBounds_toArray, List.set_cons_zero, List.set_cons_succ]
  refine ttakeH 10 44 (v := ?va10) rfl (by kernel_rfl) (by kernel_rfl) (by kernel_rfl) rfl (fun _ _ _ h => h) (by rfl) ?ya10 (by assumption) ?ra10
  case ya10 => (intro W hSw; (try dsimp only at hSw); (try obtain ⟨hS0, hS1, hS2⟩ := hSw); go_simp; (try rw [if_neg (by omega)]); try with_reducible rfl)
  try simp only [Act.put, List.setIfInBounds_toArray, List.set_cons_zero, List.set_cons_succ]
  refine wpAnyH_ready (rs := [0]) (by kernel_rfl) (by simp) ?_
  refine AllReadyH.cons (o := _) rfl (fun K hK => ?_) AllReadyH.nil
  dsimp only [List.getElem_toArray, List.getElem_cons_succ, List.getElem_cons_zero]
  go_simp
  go_at_call 155
  (with_reducible refine (HC.out _).mono ?_)
  rintro e w1 ⟨rfl, hb1⟩
  have HB1 := Lib.hid ((vbelow_drew HB0.out).trans (hb1.mono (show _ ≤ (w.alloc (.cells #[.int .i64 6, .int .i64 v.k, .int .i64 v.n, .string (strB v.s), .string (strB x), .string (strB f), .slice a n c] 38)).drew.heap.size from HB0.out.size)))
  have e0 := tkeep hb1 d0
  have e4 := tkeep hb1 d4
  have e5 := tkeep hb1 d5
  clear hb1
  go_wp2_with fail
  refine hK.out _ _ ⟨e0, e4, e5⟩ (fun hHelda0 => ?_)
  clear hK K
  try simp only [Act.put, List.setIfInBounds_toArray, List.set_cons_zero, List.set_cons_succ]
  refine ttakeH 3 37 (v := ?va3) rfl (by kernel_rfl) (by kernel_rfl) (by kernel_rfl) rfl (fun _ _ _ h => h) (by rfl) ?ya3 (by assumption) ?ra3
  case ya3 => (intro W hSw; (try dsimp only at hSw); (try obtain ⟨hS0, hS1, hS2⟩ := hSw); go_simp; (try rw [if_neg (by omega)]); try with_reducible rfl)
  try simp only [Act.put, List.setIfInBounds_toArray, List.set_cons_zero, List.set_cons_succ]
  refine ttakeH 4 38 (v := ?va4) rfl (by kernel_rfl) (by kernel_rfl) (by kernel_rfl) rfl (fun _ _ _ h => h) (by rfl) ?ya4 (by assumption) ?ra4
  case ya4 => (intro W hSw; (try dsimp only at hSw); (try obtain ⟨hS0, hS1, hS2⟩ := hSw); go_simp; (try rw [if_neg (by omega)]); try with_reducible rfl)
  try simp only [Act.put, List.setIfInBounds_toArray, List.set_cons_zero, List.set_cons_succ]
  refine ttakeH 7 41 (v := ?va7) rfl (by kernel_rfl) (by kernel_rfl) (by kernel_rfl) rfl (fun _ _ _ h => h) (by rfl) ?ya7 (by assumption) ?ra7
  case ya7 => (intro W hSw; (try dsimp only at hSw); (try obtain ⟨hS0, hS1, hS2⟩ := hSw); go_simp; (try rw [if_neg (by omega)]); try with_reducible rfl)
  try simp only [Act.put, List.setIfInBounds_toArray, List.set_cons_zero, List.set_cons_succ]
  refine ttakeH 8 42 (v := ?va8) rfl (by kernel_rfl) (by kernel_rfl) (by kernel_rfl) rfl (fun _ _ _ h => h) (by rfl) ?ya8 (by assumption) ?ra8
  case ya8 => (intro W hSw; (try dsimp only at hSw); (try obtain ⟨hS0, hS1, hS2⟩ := hSw); go_simp; (try rw [if_neg (by omega)]); try with_reducible rfl)
  try simp only [Act.put, List.setIfInBounds_toArray, List.set_cons_zero, List.set_cons_succ]
  refine ttakeH 11 45 (v := ?va11) rfl (by kernel_rfl) (by kernel_rfl) (by kernel_rfl) rfl (fun _ _ _ h => h) (by rfl) ?ya11 (by assumption) ?ra11
  case ya11 => (intro W hSw; (try dsimp only at hSw); (try obtain ⟨hS0, hS1, hS2⟩ := hSw); go_simp; (try rw [if_neg (by omega)]); try with_reducible rfl)
  try simp only [Act.put, List.setIfInBounds_toArray, List.set_cons_zero, List.set_cons_succ]
  refine ttakeH 12 46 (v := ?va12) rfl (by kernel_rfl) (by kernel_rfl) (by kernel_rfl) rfl (fun _ _ _ h => h) (by rfl) ?ya12 (by assumption) ?ra12
  case ya12 => (intro W hSw; (try dsimp only at hSw); (try obtain ⟨hS0, hS1, hS2⟩ := hSw); go_simp; (try rw [if_neg (by omega)]); try with_reducible rfl)
  try simp only [Act.put, List.setIfInBounds_toArray, List.set_cons_zero, List.set_cons_succ]
  refine ttakeH 13 2 (v := ?va13) rfl (by kernel_rfl) (by kernel_rfl) (by kernel_rfl) rfl (fun _ _ _ h => h) (by rfl) ?ya13 (by assumption) ?ra13
  case ya13 => (intro W hSw; (try dsimp only at hSw); (try obtain ⟨hS0, hS1, hS2⟩ := hSw); go_simp; (try rw [if_neg (by omega)]); try with_reducible rfl)
  try simp only [Act.put, List.setIfInBounds_toArray, List.set_cons_zero, List.set_cons_succ]
  refine wpAnyH_done (by kernel_rfl) ?_ _
  go_wp2
  go_ret
  exact ⟨by rw [← HR.out]; rfl, HB1.out⟩
end

end Go.Proofs.YtndmbljpfpnehaaGreatDoor
