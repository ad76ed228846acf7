/- Queries: texts of expressions of two. -/
import Derived.Test.YtifacoompbngaaaGreatDoorMA
namespace Go.Proofs.YtifacoompbngaaaGreatDoor
open Go.RowKit Go.Lib Go.Op

section
variable {w : World} {c : Nat} {v : PVal} {x f : List UInt8}

set_option maxHeartbeats 2000000 in
set_option maxRecDepth 100000 in
theorem xt_two7 {g o : Nat} {y z : PEx} {ay az : Option Addr} {qy cy qz cz : Nat} {t0 t1 : List UInt8} (hl0 : t0.length ≤ 1000000) (hl1 : t1.length ≤ 1000000) (yc0 : w.cell? ⟨g, o, none⟩ = some (.int .i64 y.k)) (yc1 : w.cell? ⟨g, o + 1, none⟩ = some (.int .i64 y.v.k)) (yc2 : w.cell? ⟨g, o + 2, none⟩ = some (.int .i64 y.v.n)) (yc3 : w.cell? ⟨g, o + 3, none⟩ = some (.string (strB y.v.s))) (yc4 : w.cell? ⟨g, o + 4, none⟩ = some (.string (strB y.x))) (yc5 : w.cell? ⟨g, o + 5, none⟩ = some (.string (strB y.f))) (yc6 : w.cell? ⟨g, o + 6, none⟩ = some (.slice ay qy cy)) (zc0 : w.cell? ⟨g, o + 7, none⟩ = some (.int .i64 z.k)) (zc1 : w.cell? ⟨g, o + 8, none⟩ = some (.int .i64 z.v.k)) (zc2 : w.cell? ⟨g, o + 9, none⟩ = some (.int .i64 z.v.n)) (zc3 : w.cell? ⟨g, o + 10, none⟩ = some (.string (strB z.v.s))) (zc4 : w.cell? ⟨g, o + 11, none⟩ = some (.string (strB z.x))) (zc5 : w.cell? ⟨g, o + 12, none⟩ = some (.string (strB z.f))) (zc6 : w.cell? ⟨g, o + 13, none⟩ = some (.slice az qz cz))
    (h0 : ∀ W, Below w.heap.size w W → Calls Tryz.prog 127 #[exV y (.slice ay qy cy)] W fun e w' => e = .returned (.string (strB t0)) ∧ Below W.heap.size W w') (h1 : ∀ W, Below w.heap.size w W → Calls Tryz.prog 127 #[exV z (.slice az qz cz)] W fun e w' => e = .returned (.string (strB t1)) ∧ Below W.heap.size W w') :
    Calls Tryz.prog 127 #[.agg #[.int .i64 7, .int .i64 v.k, .int .i64 v.n, .string (strB v.s), .string (strB x), .string (strB f), .slice (some ⟨g, o, none⟩) 2 c]] w fun e w' => e = .returned (.string (strB (t0 ++ 32 :: (atL sumsL 7 ++ 32 :: (if z.k = 7 ∨ z.k = 8 then 40 :: (t1 ++ [41]) else t1))))) ∧ Below w.heap.size w w' := by
  have hb0 := (Below.refl w.heap.size w).alloc (Nat.le_refl _) (.cells #[.int .i64 7, .int .i64 v.k, .int .i64 v.n, .string (strB v.s), .string (strB x), .string (strB f), .slice (some ⟨g, o, none⟩) 2 c] 38)
  have HB0 := Lib.hid hb0
  have hs0 : (strB t0).size ≤ 1000000 := by rw [strB_size]; exact hl0
  have hs1 : (strB t1).size ≤ 1000000 := by rw [strB_size]; exact hl1
  have hix : ∀ W : World, (Instr.index 117 (textsV sumsL) (.int .i64 7)).run Tryz.prog W = .ok (.string ⟨#[43]⟩) W := fun W => by kernel_rfl
  have HC := Lib.hid (fun W => sums_calls W)
  have H0 := Lib.hid h0
  have H1 := Lib.hid h1
  simp only [xexV] at H0 H1
  have y32 : (⟨#[32]⟩ : ByteArray).size = 1 := rfl
  have y40 : (⟨#[40]⟩ : ByteArray).size = 1 := rfl
  have y41 : (⟨#[41]⟩ : ByteArray).size = 1 := rfl
  have ysg : (⟨#[43]⟩ : ByteArray).size = 1 := rfl
  have HD := Lib.hid (fun W => double_calls z.k W)
  by_cases hz : z.k = 7 ∨ z.k = 8
  · have HR : Hid (strB t0 ++ ⟨#[32]⟩ ++ ⟨#[43]⟩ ++ ⟨#[32]⟩ ++ ((⟨#[40]⟩ : ByteArray) ++ strB t1 ++ ⟨#[41]⟩) = strB (t0 ++ 32 :: (atL sumsL 7 ++ 32 :: (40 :: (t1 ++ [41]))))) := by
      show strB t0 ++ strB [32] ++ strB [43] ++ strB [32] ++ (strB [40] ++ strB t1 ++ strB [41]) = _
      rw [catT, catT, catT, catT, catT, catT]
      show strB _ = strB (t0 ++ 32 :: ([43] ++ 32 :: (40 :: (t1 ++ [41]))))
      simp only [List.append_assoc, List.cons_append, List.nil_append]
    rw [if_pos hz]
    rw [decide_eq_true hz] at HD
    clear h0 h1 hl0 hl1 hz
    have zz0 : (w.alloc (.cells #[.int .i64 7, .int .i64 v.k, .int .i64 v.n, .string (strB v.s), .string (strB x), .string (strB f), .slice (some ⟨g, o, none⟩) 2 c] 38)).cell? ⟨g, o + 7, none⟩ = some (.int .i64 z.k) := tkeep hb0 zc0
    have zz1 : (w.alloc (.cells #[.int .i64 7, .int .i64 v.k, .int .i64 v.n, .string (strB v.s), .string (strB x), .string (strB f), .slice (some ⟨g, o, none⟩) 2 c] 38)).cell? ⟨g, o + 7 + 1, none⟩ = some (.int .i64 z.v.k) := tkeep hb0 zc1
    have zz2 : (w.alloc (.cells #[.int .i64 7, .int .i64 v.k, .int .i64 v.n, .string (strB v.s), .string (strB x), .string (strB f), .slice (some ⟨g, o, none⟩) 2 c] 38)).cell? ⟨g, o + 7 + 2, none⟩ = some (.int .i64 z.v.n) := tkeep hb0 zc2
    have zz3 : (w.alloc (.cells #[.int .i64 7, .int .i64 v.k, .int .i64 v.n, .string (strB v.s), .string (strB x), .string (strB f), .slice (some ⟨g, o, none⟩) 2 c] 38)).cell? ⟨g, o + 7 + 3, none⟩ = some (.string (strB z.v.s)) := tkeep hb0 zc3
    have zz4 : (w.alloc (.cells #[.int .i64 7, .int .i64 v.k, .int .i64 v.n, .string (strB v.s), .string (strB x), .string (strB f), .slice (some ⟨g, o, none⟩) 2 c] 38)).cell? ⟨g, o + 7 + 4, none⟩ = some (.string (strB z.x)) := tkeep hb0 zc4
    have zz5 : (w.alloc (.cells #[.int .i64 7, .int .i64 v.k, .int .i64 v.n, .string (strB v.s), .string (strB x), .string (strB f), .slice (some ⟨g, o, none⟩) 2 c] 38)).cell? ⟨g, o + 7 + 5, none⟩ = some (.string (strB z.f)) := tkeep hb0 zc5
    have zz6 : (w.alloc (.cells #[.int .i64 7, .int .i64 v.k, .int .i64 v.n, .string (strB v.s), .string (strB x), .string (strB f), .slice (some ⟨g, o, none⟩) 2 c] 38)).cell? ⟨g, o + 7 + 6, none⟩ = some (.slice az qz cz) := tkeep hb0 zc6
    go_enter Tryz.func127, Tryz.ntmps127
    go_wp2_with fail
    clear zz0 zz1 zz2 zz3 zz4 zz5 zz6
    (with_reducible refine (H1.out _ HB0.out).mono ?_)
    rintro e w1 ⟨rfl, hb1⟩
    have m0 := tkeep hb1 (tnew w #[.int .i64 7, .int .i64 v.k, .int .i64 v.n, .string (strB v.s), .string (strB x), .string (strB f), .slice (some ⟨g, o, none⟩) 2 c] 38 0 rfl)
    have m6 := tkeep hb1 (tnew w #[.int .i64 7, .int .i64 v.k, .int .i64 v.n, .string (strB v.s), .string (strB x), .string (strB f), .slice (some ⟨g, o, none⟩) 2 c] 38 6 rfl)
    have z0 : w1.cell? ⟨g, o + 7, none⟩ = some (.int .i64 z.k) := tkeep hb1 (tkeep hb0 zc0)
    have y0 := tkeep hb1 (tkeep hb0 yc0)
    have y1 := tkeep hb1 (tkeep hb0 yc1)
    have y2 := tkeep hb1 (tkeep hb0 yc2)
    have y3 := tkeep hb1 (tkeep hb0 yc3)
    have y4 := tkeep hb1 (tkeep hb0 yc4)
    have y5 := tkeep hb1 (tkeep hb0 yc5)
    have y6 := tkeep hb1 (tkeep hb0 yc6)
    have HB1 := Lib.hid (HB0.out.trans (hb1.mono HB0.out.size))
    clear hb1
    go_wp2_with fail
    (with_reducible refine (HD.out _).mono ?_)
    rintro e w2 ⟨rfl, rfl⟩
    clear yc0 zc0 yc1 zc1 yc2 zc2 yc3 zc3 yc4 zc4 yc5 zc5 yc6 zc6 hb0
    have q0 : w1.drew.cell? ⟨w.heap.size, 0, none⟩ = some (.int .i64 7) := m0
    have q6 : w1.drew.cell? ⟨w.heap.size, 6, none⟩ = some (.slice (some ⟨g, o, none⟩) 2 c) := m6
    have d0 : w1.drew.cell? ⟨g, o, none⟩ = some (.int .i64 y.k) := y0
    have d1 : w1.drew.cell? ⟨g, o + 1, none⟩ = some (.int .i64 y.v.k) := y1
    have d2 : w1.drew.cell? ⟨g, o + 2, none⟩ = some (.int .i64 y.v.n) := y2
    have d3 : w1.drew.cell? ⟨g, o + 3, none⟩ = some (.string (strB y.v.s)) := y3
    have d4 : w1.drew.cell? ⟨g, o + 4, none⟩ = some (.string (strB y.x)) := y4
    have d5 : w1.drew.cell? ⟨g, o + 5, none⟩ = some (.string (strB y.f)) := y5
    have d6 : w1.drew.cell? ⟨g, o + 6, none⟩ = some (.slice ay qy cy) := y6
    go_wp2_with fail
    clear m0 m6 z0 y0 y1 y2 y3 y4 y5 y6
    refine wp_region_held_drew (S := fun W => W.cell? ⟨w.heap.size, 0, none⟩ = some (.int .i64 7) ∧ W.cell? ⟨w.heap.size, 6, none⟩ = some (.slice (some ⟨g, o, none⟩) 2 c) ∧ W.cell? ⟨g, o, none⟩ = some (.int .i64 y.k) ∧ W.cell? ⟨g, o + 1, none⟩ = some (.int .i64 y.v.k) ∧ W.cell? ⟨g, o + 2, none⟩ = some (.int .i64 y.v.n) ∧ W.cell? ⟨g, o + 3, none⟩ = some (.string (strB y.v.s)) ∧ W.cell? ⟨g, o + 4, none⟩ = some (.string (strB y.x)) ∧ W.cell? ⟨g, o + 5, none⟩ = some (.string (strB y.f)) ∧ W.cell? ⟨g, o + 6, none⟩ = some (.slice ay qy cy)) (by kernel_rfl) ⟨q0, q6, d0, d1, d2, d3, d4, d5, d6⟩ (fun hHeld => ?_)
    refine ttakeH 0 61 (v := ?va0) rfl (by kernel_rfl) (by kernel_rfl) (by kernel_rfl) rfl (fun _ _ _ h => h) (by rfl) ?ya0 (by assumption) ?ra0
    case ya0 => (intro W hSw; (try dsimp only at hSw); (try obtain ⟨hS0, hS1, hS2, hS3, hS4, hS5, hS6, hS7, hS8⟩ := hSw); go_simp; (try rw [if_neg (by omega)]); try with_reducible rfl)
    try simp only [Act.put, List.setIfInBounds_toArray, List.set_cons_zero, List.set_cons_succ]
    refine ttakeH 1 62 (v := ?va1) rfl (by kernel_rfl) (by kernel_rfl) (by kernel_rfl) rfl (fun _ _ _ h => h) (by rfl) ?ya1 (by assumption) ?ra1
    case ya1 => (intro W hSw; (try dsimp only at hSw); (try obtain ⟨hS0, hS1, hS2, hS3, hS4, hS5, hS6, hS7, hS8⟩ := hSw); go_simp; (try rw [if_neg (by omega)]); try with_reducible rfl)
    try simp only [Act.put, List.setIfInBounds_toArray, List.set_cons_zero, List.set_cons_succ]
    refine ttakeH 2 63 (v := ?va2) rfl (by kernel_rfl) (by kernel_rfl) (by kernel_rfl) rfl (fun _ _ _ h => h) (by rfl) ?ya2 (by assumption) ?ra2
    case ya2 => (intro W hSw; (try dsimp only at hSw); (try obtain ⟨hS0, hS1, hS2, hS3, hS4, hS5, hS6, hS7, hS8⟩ := hSw); go_simp; (try rw [if_neg (by omega)]); try with_reducible rfl)
    try simp only [Act.put, List.setIfInBounds_toArray, List.set_cons_zero, List.set_cons_succ]
    refine ttakeH 3 64 (v := ?va3) rfl (by kernel_rfl) (by kernel_rfl) (by kernel_rfl) rfl (fun _ _ _ h => h) (by rfl) ?ya3 (by assumption) ?ra3
    case ya3 => (intro W hSw; (try dsimp only at hSw); (try obtain ⟨hS0, hS1, hS2, hS3, hS4, hS5, hS6, hS7, hS8⟩ := hSw); go_simp; (try rw [if_neg (by omega)]); try with_reducible rfl)
    try simp only [Act.put, List.setIfInBounds_toArray, List.set_cons_zero, List.set_cons_succ]
    refine ttakeH 7 68 (v := ?va7) rfl (by kernel_rfl) (by kernel_rfl) (by kernel_rfl) rfl (fun _ _ _ h => h) (by rfl) ?ya7 (by assumption) ?ra7
    case ya7 => (intro W hSw; (try dsimp only at hSw); (try obtain ⟨hS0, hS1, hS2, hS3, hS4, hS5, hS6, hS7, hS8⟩ := hSw); go_simp; (try rw [if_neg (by omega)]); try with_reducible rfl)
    try simp only [Act.put, List.setIfInBounds_toArray, List.set_cons_zero, List.set_cons_succ]
    refine ttakeH 8 69 (v := ?va8) rfl (by kernel_rfl) (by kernel_rfl) (by kernel_rfl) rfl (fun _ _ _ h => h) (by rfl) ?ya8 (by assumption) ?ra8
    case ya8 => (intro W hSw; (try dsimp only at hSw); (try obtain ⟨hS0, hS1, hS2, hS3, hS4, hS5, hS6, hS7, hS8⟩ := hSw); go_simp; (try rw [if_neg (by omega)]); try with_reducible rfl)
    try simp only [Act.put, List.setIfInBounds_toArray, List.set_cons_zero, List.set_cons_succ]
    refine ttakeH 12 73 (v := ?va12) rfl (by kernel_rfl) (by kernel_rfl) (by kernel_rfl) rfl (fun _ _ _ h => h) (by rfl) ?ya12 (by assumption) ?ra12
    case ya12 => (intro W hSw; (try dsimp only at hSw); (try obtain ⟨hS0, hS1, hS2, hS3, hS4, hS5, hS6, hS7, hS8⟩ := hSw); go_simp; (try rw [if_neg (by omega)]); try with_reducible rfl)
    try simp only [Act.put, List.setIfInBounds_toArray, List.set_cons_zero, List.set_cons_succ]
    refine wpAnyH_ready (rs := [4]) (by kernel_rfl) (by simp) ?_
    refine AllReadyH.cons (o := _) rfl (fun K hK => ?_) AllReadyH.nil
    dsimp only [List.getElem_toArray, List.getElem_cons_succ, List.getElem_cons_zero]
    go_simp
    go_at_call 127
    (with_reducible refine (H0.out _ (vbelow_drew HB1.out)).mono ?_)
    rintro e w3 ⟨rfl, hb3⟩
    have HB3 := Lib.hid ((vbelow_drew HB1.out).trans (hb3.mono (show _ ≤ w1.drew.heap.size from HB1.out.size)))
    have p0 := tkeep hb3 q0
    have p6 := tkeep hb3 q6
    have u0 := tkeep hb3 d0
    have u1 := tkeep hb3 d1
    have u2 := tkeep hb3 d2
    have u3 := tkeep hb3 d3
    have u4 := tkeep hb3 d4
    have u5 := tkeep hb3 d5
    have u6 := tkeep hb3 d6
    clear hb3
    go_wp2_with fail
    refine hK.out _ _ ⟨p0, p6, u0, u1, u2, u3, u4, u5, u6⟩ (fun hHelda4 => ?_)
    clear hK K
    try simp only [Act.put, List.setIfInBounds_toArray, List.set_cons_zero, List.set_cons_succ]
    refine ttakeH 5 66 (v := ?va5) rfl (by kernel_rfl) (by kernel_rfl) (by kernel_rfl) rfl (fun _ _ _ h => h) (by rfl) ?ya5 (by assumption) ?ra5
    case ya5 => (intro W hSw; (try dsimp only at hSw); (try obtain ⟨hS0, hS1, hS2, hS3, hS4, hS5, hS6, hS7, hS8⟩ := hSw); go_simp; (try rw [if_neg (by omega)]); try with_reducible rfl)
    try simp only [Act.put, List.setIfInBounds_toArray, List.set_cons_zero, List.set_cons_succ]
    refine wpAnyH_ready (rs := [6]) (by kernel_rfl) (by simp) ?_
    refine AllReadyH.cons (o := _) rfl (fun K hK => ?_) AllReadyH.nil
    dsimp only [List.getElem_toArray, List.getElem_cons_succ, List.getElem_cons_zero]
    go_simp
    go_at_call 200
    (with_reducible refine (HC.out _).mono ?_)
    rintro e w4 ⟨rfl, hb4⟩
    have HB4 := Lib.hid (HB3.out.trans (hb4.mono HB3.out.size))
    have p0' := tkeep hb4 p0
    have p6' := tkeep hb4 p6
    have u0' := tkeep hb4 u0
    have u1' := tkeep hb4 u1
    have u2' := tkeep hb4 u2
    have u3' := tkeep hb4 u3
    have u4' := tkeep hb4 u4
    have u5' := tkeep hb4 u5
    have u6' := tkeep hb4 u6
    clear hb4
    go_wp2_with fail
    refine hK.out _ _ ⟨p0', p6', u0', u1', u2', u3', u4', u5', u6'⟩ (fun hHelda6 => ?_)
    clear hK K
    try simp only [Act.put, List.setIfInBounds_toArray, List.set_cons_zero, List.set_cons_succ]
    refine ttakeH 9 70 (v := ?va9) rfl (by kernel_rfl) (by kernel_rfl) (by kernel_rfl) rfl (fun _ _ _ h => h) (by rfl) ?ya9 (by assumption) ?ra9
    case ya9 => (intro W hSw; (try dsimp only at hSw); (try obtain ⟨hS0, hS1, hS2, hS3, hS4, hS5, hS6, hS7, hS8⟩ := hSw); go_simp; (try rw [if_neg (by omega)]); try with_reducible rfl)
    try simp only [Act.put, List.setIfInBounds_toArray, List.set_cons_zero, List.set_cons_succ]
    refine ttakeH 10 71 (v := ?va10) rfl (by kernel_rfl) (by kernel_rfl) (by kernel_rfl) rfl (fun _ _ _ h => h) (by rfl) ?ya10 (by assumption) ?ra10
    case ya10 => (intro W hSw; (try dsimp only at hSw); (try obtain ⟨hS0, hS1, hS2, hS3, hS4, hS5, hS6, hS7, hS8⟩ := hSw); go_simp; (try rw [if_neg (by omega)]); try with_reducible rfl)
    try simp only [Act.put, List.setIfInBounds_toArray, List.set_cons_zero, List.set_cons_succ]
    refine ttakeH 11 72 (v := ?va11) rfl (by kernel_rfl) (by kernel_rfl) (by kernel_rfl) rfl (fun _ _ _ h => h) (by rfl) ?ya11 (by assumption) ?ra11
    case ya11 => (intro W hSw; (try dsimp only at hSw); (try obtain ⟨hS0, hS1, hS2, hS3, hS4, hS5, hS6, hS7, hS8⟩ := hSw); go_simp; (try rw [if_neg (by omega)]); try with_reducible rfl)
    try simp only [Act.put, List.setIfInBounds_toArray, List.set_cons_zero, List.set_cons_succ]
    refine ttakeH 13 74 (v := ?va13) rfl (by kernel_rfl) (by kernel_rfl) (by kernel_rfl) rfl (fun _ _ _ h => h) (by rfl) ?ya13 (by assumption) ?ra13
    case ya13 => (intro W hSw; (try dsimp only at hSw); (try obtain ⟨hS0, hS1, hS2, hS3, hS4, hS5, hS6, hS7, hS8⟩ := hSw); go_simp; (try rw [if_neg (by omega)]); try with_reducible rfl)
    try simp only [Act.put, List.setIfInBounds_toArray, List.set_cons_zero, List.set_cons_succ]
    refine ttakeH 14 2 (v := ?va14) rfl (by kernel_rfl) (by kernel_rfl) (by kernel_rfl) rfl (fun _ _ _ h => h) (by rfl) ?ya14 (by assumption) ?ra14
    case ya14 => (intro W hSw; (try dsimp only at hSw); (try obtain ⟨hS0, hS1, hS2, hS3, hS4, hS5, hS6, hS7, hS8⟩ := hSw); go_simp; (try rw [if_neg (by omega)]); try with_reducible rfl)
    try simp only [Act.put, List.setIfInBounds_toArray, List.set_cons_zero, List.set_cons_succ]
    refine wpAnyH_done (by kernel_rfl) ?_ _
    go_wp2
    go_ret
    exact ⟨by rw [← HR.out]; rfl, HB4.out⟩
  · have HR : Hid (strB t0 ++ ⟨#[32]⟩ ++ ⟨#[43]⟩ ++ ⟨#[32]⟩ ++ strB t1 = strB (t0 ++ 32 :: (atL sumsL 7 ++ 32 :: t1))) := by
      show strB t0 ++ strB [32] ++ strB [43] ++ strB [32] ++ strB t1 = _
      rw [catT, catT, catT, catT]
      show strB _ = strB (t0 ++ 32 :: ([43] ++ 32 :: t1))
      simp only [List.append_assoc, List.cons_append, List.nil_append]
    rw [if_neg hz]
    rw [decide_eq_false hz] at HD
    clear h0 h1 hl0 hl1 hz
    have zz0 : (w.alloc (.cells #[.int .i64 7, .int .i64 v.k, .int .i64 v.n, .string (strB v.s), .string (strB x), .string (strB f), .slice (some ⟨g, o, none⟩) 2 c] 38)).cell? ⟨g, o + 7, none⟩ = some (.int .i64 z.k) := tkeep hb0 zc0
    have zz1 : (w.alloc (.cells #[.int .i64 7, .int .i64 v.k, .int .i64 v.n, .string (strB v.s), .string (strB x), .string (strB f), .slice (some ⟨g, o, none⟩) 2 c] 38)).cell? ⟨g, o + 7 + 1, none⟩ = some (.int .i64 z.v.k) := tkeep hb0 zc1
    have zz2 : (w.alloc (.cells #[.int .i64 7, .int .i64 v.k, .int .i64 v.n, .string (strB v.s), .string (strB x), .string (strB f), .slice (some ⟨g, o, none⟩) 2 c] 38)).cell? ⟨g, o + 7 + 2, none⟩ = some (.int .i64 z.v.n) := tkeep hb0 zc2
    have zz3 : (w.alloc (.cells #[.int .i64 7, .int .i64 v.k, .int .i64 v.n, .string (strB v.s), .string (strB x), .string (strB f), .slice (some ⟨g, o, none⟩) 2 c] 38)).cell? ⟨g, o + 7 + 3, none⟩ = some (.string (strB z.v.s)) := tkeep hb0 zc3
    have zz4 : (w.alloc (.cells #[.int .i64 7, .int .i64 v.k, .int .i64 v.n, .string (strB v.s), .string (strB x), .string (strB f), .slice (some ⟨g, o, none⟩) 2 c] 38)).cell? ⟨g, o + 7 + 4, none⟩ = some (.string (strB z.x)) := tkeep hb0 zc4
    have zz5 : (w.alloc (.cells #[.int .i64 7, .int .i64 v.k, .int .i64 v.n, .string (strB v.s), .string (strB x), .string (strB f), .slice (some ⟨g, o, none⟩) 2 c] 38)).cell? ⟨g, o + 7 + 5, none⟩ = some (.string (strB z.f)) := tkeep hb0 zc5
    have zz6 : (w.alloc (.cells #[.int .i64 7, .int .i64 v.k, .int .i64 v.n, .string (strB v.s), .string (strB x), .string (strB f), .slice (some ⟨g, o, none⟩) 2 c] 38)).cell? ⟨g, o + 7 + 6, none⟩ = some (.slice az qz cz) := tkeep hb0 zc6
    go_enter Tryz.func127, Tryz.ntmps127
    go_wp2_with fail
    clear zz0 zz1 zz2 zz3 zz4 zz5 zz6
    (with_reducible refine (H1.out _ HB0.out).mono ?_)
    rintro e w1 ⟨rfl, hb1⟩
    have m0 := tkeep hb1 (tnew w #[.int .i64 7, .int .i64 v.k, .int .i64 v.n, .string (strB v.s), .string (strB x), .string (strB f), .slice (some ⟨g, o, none⟩) 2 c] 38 0 rfl)
    have m6 := tkeep hb1 (tnew w #[.int .i64 7, .int .i64 v.k, .int .i64 v.n, .string (strB v.s), .string (strB x), .string (strB f), .slice (some ⟨g, o, none⟩) 2 c] 38 6 rfl)
    have z0 : w1.cell? ⟨g, o + 7, none⟩ = some (.int .i64 z.k) := tkeep hb1 (tkeep hb0 zc0)
    have y0 := tkeep hb1 (tkeep hb0 yc0)
    have y1 := tkeep hb1 (tkeep hb0 yc1)
    have y2 := tkeep hb1 (tkeep hb0 yc2)
    have y3 := tkeep hb1 (tkeep hb0 yc3)
    have y4 := tkeep hb1 (tkeep hb0 yc4)
    have y5 := tkeep hb1 (tkeep hb0 yc5)
    have y6 := tkeep hb1 (tkeep hb0 yc6)
    have HB1 := Lib.hid (HB0.out.trans (hb1.mono HB0.out.size))
    clear hb1
    go_wp2_with fail
    (with_reducible refine (HD.out _).mono ?_)
    rintro e w2 ⟨rfl, rfl⟩
    clear yc0 zc0 yc1 zc1 yc2 zc2 yc3 zc3 yc4 zc4 yc5 zc5 yc6 zc6 hb0
    have q0 : w1.drew.cell? ⟨w.heap.size, 0, none⟩ = some (.int .i64 7) := m0
    have q6 : w1.drew.cell? ⟨w.heap.size, 6, none⟩ = some (.slice (some ⟨g, o, none⟩) 2 c) := m6
    have d0 : w1.drew.cell? ⟨g, o, none⟩ = some (.int .i64 y.k) := y0
    have d1 : w1.drew.cell? ⟨g, o + 1, none⟩ = some (.int .i64 y.v.k) := y1
    have d2 : w1.drew.cell? ⟨g, o + 2, none⟩ = some (.int .i64 y.v.n) := y2
    have d3 : w1.drew.cell? ⟨g, o + 3, none⟩ = some (.string (strB y.v.s)) := y3
    have d4 : w1.drew.cell? ⟨g, o + 4, none⟩ = some (.string (strB y.x)) := y4
    have d5 : w1.drew.cell? ⟨g, o + 5, none⟩ = some (.string (strB y.f)) := y5
    have d6 : w1.drew.cell? ⟨g, o + 6, none⟩ = some (.slice ay qy cy) := y6
    go_wp2_with fail
    clear m0 m6 z0 y0 y1 y2 y3 y4 y5 y6
    refine wp_region_held_drew (S := fun W => W.cell? ⟨w.heap.size, 0, none⟩ = some (.int .i64 7) ∧ W.cell? ⟨w.heap.size, 6, none⟩ = some (.slice (some ⟨g, o, none⟩) 2 c) ∧ W.cell? ⟨g, o, none⟩ = some (.int .i64 y.k) ∧ W.cell? ⟨g, o + 1, none⟩ = some (.int .i64 y.v.k) ∧ W.cell? ⟨g, o + 2, none⟩ = some (.int .i64 y.v.n) ∧ W.cell? ⟨g, o + 3, none⟩ = some (.string (strB y.v.s)) ∧ W.cell? ⟨g, o + 4, none⟩ = some (.string (strB y.x)) ∧ W.cell? ⟨g, o + 5, none⟩ = some (.string (strB y.f)) ∧ W.cell? ⟨g, o + 6, none⟩ = some (.slice ay qy cy)) (by kernel_rfl) ⟨q0, q6, d0, d1, d2, d3, d4, d5, d6⟩ (fun hHeld => ?_)
    refine ttakeH 0 61 (v := ?vb0) rfl (by kernel_rfl) (by kernel_rfl) (by kernel_rfl) rfl (fun _ _ _ h => h) (by rfl) ?yb0 (by assumption) ?rb0
    case yb0 => (intro W hSw; (try dsimp only at hSw); (try obtain ⟨hS0, hS1, hS2, hS3, hS4, hS5, hS6, hS7, hS8⟩ := hSw); go_simp; (try rw [if_neg (by omega)]); try with_reducible rfl)
    try simp only [Act.put, List.setIfInBounds_toArray, List.set_cons_zero, List.set_cons_succ]
    refine ttakeH 1 62 (v := ?vb1) rfl (by kernel_rfl) (by kernel_rfl) (by kernel_rfl) rfl (fun _ _ _ h => h) (by rfl) ?yb1 (by assumption) ?rb1
    case yb1 => (intro W hSw; (try dsimp only at hSw); (try obtain ⟨hS0, hS1, hS2, hS3, hS4, hS5, hS6, hS7, hS8⟩ := hSw); go_simp; (try rw [if_neg (by omega)]); try with_reducible rfl)
    try simp only [Act.put, List.setIfInBounds_toArray, List.set_cons_zero, List.set_cons_succ]
    refine ttakeH 2 63 (v := ?vb2) rfl (by kernel_rfl) (by kernel_rfl) (by kernel_rfl) rfl (fun _ _ _ h => h) (by rfl) ?yb2 (by assumption) ?rb2
    case yb2 => (intro W hSw; (try dsimp only at hSw); (try obtain ⟨hS0, hS1, hS2, hS3, hS4, hS5, hS6, hS7, hS8⟩ := hSw); go_simp; (try rw [if_neg (by omega)]); try with_reducible rfl)
    try simp only [Act.put, List.setIfInBounds_toArray, List.set_cons_zero, List.set_cons_succ]
    refine ttakeH 3 64 (v := ?vb3) rfl (by kernel_rfl) (by kernel_rfl) (by kernel_rfl) rfl (fun _ _ _ h => h) (by rfl) ?yb3 (by assumption) ?rb3
    case yb3 => (intro W hSw; (try dsimp only at hSw); (try obtain ⟨hS0, hS1, hS2, hS3, hS4, hS5, hS6, hS7, hS8⟩ := hSw); go_simp; (try rw [if_neg (by omega)]); try with_reducible rfl)
    try simp only [Act.put, List.setIfInBounds_toArray, List.set_cons_zero, List.set_cons_succ]
    refine ttakeH 7 68 (v := ?vb7) rfl (by kernel_rfl) (by kernel_rfl) (by kernel_rfl) rfl (fun _ _ _ h => h) (by rfl) ?yb7 (by assumption) ?rb7
    case yb7 => (intro W hSw; (try dsimp only at hSw); (try obtain ⟨hS0, hS1, hS2, hS3, hS4, hS5, hS6, hS7, hS8⟩ := hSw); go_simp; (try rw [if_neg (by omega)]); try with_reducible rfl)
    try simp only [Act.put, List.setIfInBounds_toArray, List.set_cons_zero, List.set_cons_succ]
    refine ttakeH 8 69 (v := ?vb8) rfl (by kernel_rfl) (by kernel_rfl) (by kernel_rfl) rfl (fun _ _ _ h => h) (by rfl) ?yb8 (by assumption) ?rb8
    case yb8 => (intro W hSw; (try dsimp only at hSw); (try obtain ⟨hS0, hS1, hS2, hS3, hS4, hS5, hS6, hS7, hS8⟩ := hSw); go_simp; (try rw [if_neg (by omega)]); try with_reducible rfl)
    try simp only [Act.put, List.setIfInBounds_toArray, List.set_cons_zero, List.set_cons_succ]
    refine ttakeH 12 73 (v := ?vb12) rfl (by kernel_rfl) (by kernel_rfl) (by kernel_rfl) rfl (fun _ _ _ h => h) (by rfl) ?yb12 (by assumption) ?rb12
    case yb12 => (intro W hSw; (try dsimp only at hSw); (try obtain ⟨hS0, hS1, hS2, hS3, hS4, hS5, hS6, hS7, hS8⟩ := hSw); go_simp; (try rw [if_neg (by omega)]); try with_reducible rfl)
    try simp only [Act.put, List.setIfInBounds_toArray, List.set_cons_zero, List.set_cons_succ]
    refine wpAnyH_ready (rs := [4]) (by kernel_rfl) (by simp) ?_
    refine AllReadyH.cons (o := _) rfl (fun K hK => ?_) AllReadyH.nil
    dsimp only [List.getElem_toArray, List.getElem_cons_succ, List.getElem_cons_zero]
    go_simp
    go_at_call 127
    (with_reducible refine (H0.out _ (vbelow_drew HB1.out)).mono ?_)
    rintro e w3 ⟨rfl, hb3⟩
    have HB3 := Lib.hid ((vbelow_drew HB1.out).trans (hb3.mono (show _ ≤ w1.drew.heap.size from HB1.out.size)))
    have p0 := tkeep hb3 q0
    have p6 := tkeep hb3 q6
    have u0 := tkeep hb3 d0
    have u1 := tkeep hb3 d1
    have u2 := tkeep hb3 d2
    have u3 := tkeep hb3 d3
    have u4 := tkeep hb3 d4
    have u5 := tkeep hb3 d5
    have u6 := tkeep hb3 d6
    clear hb3
    go_wp2_with fail
    refine hK.out _ _ ⟨p0, p6, u0, u1, u2, u3, u4, u5, u6⟩ (fun hHeldb4 => ?_)
    clear hK K
    try simp only [Act.put, List.setIfInBounds_toArray, List.set_cons_zero, List.set_cons_succ]
    refine ttakeH 5 66 (v := ?vb5) rfl (by kernel_rfl) (by kernel_rfl) (by kernel_rfl) rfl (fun _ _ _ h => h) (by rfl) ?yb5 (by assumption) ?rb5
    case yb5 => (intro W hSw; (try dsimp only at hSw); (try obtain ⟨hS0, hS1, hS2, hS3, hS4, hS5, hS6, hS7, hS8⟩ := hSw); go_simp; (try rw [if_neg (by omega)]); try with_reducible rfl)
    try simp only [Act.put, List.setIfInBounds_toArray, List.set_cons_zero, List.set_cons_succ]
    refine wpAnyH_ready (rs := [6]) (by kernel_rfl) (by simp) ?_
    refine AllReadyH.cons (o := _) rfl (fun K hK => ?_) AllReadyH.nil
    dsimp only [List.getElem_toArray, List.getElem_cons_succ, List.getElem_cons_zero]
    go_simp
    go_at_call 200
    (with_reducible refine (HC.out _).mono ?_)
    rintro e w4 ⟨rfl, hb4⟩
    have HB4 := Lib.hid (HB3.out.trans (hb4.mono HB3.out.size))
    have p0' := tkeep hb4 p0
    have p6' := tkeep hb4 p6
    have u0' := tkeep hb4 u0
    have u1' := tkeep hb4 u1
    have u2' := tkeep hb4 u2
    have u3' := tkeep hb4 u3
    have u4' := tkeep hb4 u4
    have u5' := tkeep hb4 u5
    have u6' := tkeep hb4 u6
    clear hb4
    go_wp2_with fail
    refine hK.out _ _ ⟨p0', p6', u0', u1', u2', u3', u4', u5', u6'⟩ (fun hHeldb6 => ?_)
    clear hK K
    try simp only [Act.put, List.setIfInBounds_toArray, List.set_cons_zero, List.set_cons_succ]
    refine ttakeH 9 70 (v := ?vb9) rfl (by kernel_rfl) (by kernel_rfl) (by kernel_rfl) rfl (fun _ _ _ h => h) (by rfl) ?yb9 (by assumption) ?rb9
    case yb9 => (intro W hSw; (try dsimp only at hSw); (try obtain ⟨hS0, hS1, hS2, hS3, hS4, hS5, hS6, hS7, hS8⟩ := hSw); go_simp; (try rw [if_neg (by omega)]); try with_reducible rfl)
    try simp only [Act.put, List.setIfInBounds_toArray, List.set_cons_zero, List.set_cons_succ]
    refine ttakeH 10 71 (v := ?vb10) rfl (by kernel_rfl) (by kernel_rfl) (by kernel_rfl) rfl (fun _ _ _ h => h) (by rfl) ?yb10 (by assumption) ?rb10
    case yb10 => (intro W hSw; (try dsimp only at hSw); (try obtain ⟨hS0, hS1, hS2, hS3, hS4, hS5, hS6, hS7, hS8⟩ := hSw); go_simp; (try rw [if_neg (by omega)]); try with_reducible rfl)
    try simp only [Act.put, List.setIfInBounds_toArray, List.set_cons_zero, List.set_cons_succ]
    refine ttakeH 11 72 (v := ?vb11) rfl (by kernel_rfl) (by kernel_rfl) (by kernel_rfl) rfl (fun _ _ _ h => h) (by rfl) ?yb11 (by assumption) ?rb11
    case yb11 => (intro W hSw; (try dsimp only at hSw); (try obtain ⟨hS0, hS1, hS2, hS3, hS4, hS5, hS6, hS7, hS8⟩ := hSw); go_simp; (try rw [if_neg (by omega)]); try with_reducible rfl)
    try simp only [Act.put, List.setIfInBounds_toArray, List.set_cons_zero, List.set_cons_succ]
    refine ttakeH 13 74 (v := ?vb13) rfl (by kernel_rfl) (by kernel_rfl) (by kernel_rfl) rfl (fun _ _ _ h => h) (by rfl) ?yb13 (by assumption) ?rb13
    case yb13 => (intro W hSw; (try dsimp only at hSw); (try obtain ⟨hS0, hS1, hS2, hS3, hS4, hS5, hS6, hS7, hS8⟩ := hSw); go_simp; (try rw [if_neg (by omega)]); try with_reducible rfl)
    try simp only [Act.put, List.setIfInBounds_toArray, List.set_cons_zero, List.set_cons_succ]
    refine ttakeH 14 2 (v := ?vb14) rfl (by kernel_rfl) (by kernel_rfl) (by kernel_rfl) rfl (fun _ _ _ h => h) (by rfl) ?yb14 (by assumption) ?rb14
    case yb14 => (intro W hSw; (try dsimp only at hSw); (try obtain ⟨hS0, hS1, hS2, hS3, hS4, hS5, hS6, hS7, hS8⟩ := hSw); go_simp; (try rw [if_neg (by omega)]); try with_reducible rfl)
    try simp only [Act.put, List.setIfInBounds_toArray, List.set_cons_zero, List.set_cons_succ]
    refine wpAnyH_done (by kernel_rfl) ?_ _
    go_wp2
    go_ret
    exact ⟨by rw [← HR.out]; rfl, HB4.out⟩
set_option maxHeartbeats 2000000 in
set_option maxRecDepth 100000 in
theorem xt_two8 {g o : Nat} {y z : PEx} {ay az : Option Addr} {qy cy qz cz : Nat} {t0 t1 : List UInt8} (hl0 : t0.length ≤ 1000000) (hl1 : t1.length ≤ 1000000) (yc0 : w.cell? ⟨g, o, none⟩ = some (.int .i64 y.k)) (yc1 : w.cell? ⟨g, o + 1, none⟩ = some (.int .i64 y.v.k)) (yc2 : w.cell? ⟨g, o + 2, none⟩ = some (.int .i64 y.v.n)) (yc3 : w.cell? ⟨g, o + 3, none⟩ = some (.string (strB y.v.s))) (yc4 : w.cell? ⟨g, o + 4, none⟩ = some (.string (strB y.x))) (yc5 : w.cell? ⟨g, o + 5, none⟩ = some (.string (strB y.f))) (yc6 : w.cell? ⟨g, o + 6, none⟩ = some (.slice ay qy cy)) (zc0 : w.cell? ⟨g, o + 7, none⟩ = some (.int .i64 z.k)) (zc1 : w.cell? ⟨g, o + 8, none⟩ = some (.int .i64 z.v.k)) (zc2 : w.cell? ⟨g, o + 9, none⟩ = some (.int .i64 z.v.n)) (zc3 : w.cell? ⟨g, o + 10, none⟩ = some (.string (strB z.v.s))) (zc4 : w.cell? ⟨g, o + 11, none⟩ = some (.string (strB z.x))) (zc5 : w.cell? ⟨g, o + 12, none⟩ = some (.string (strB z.f))) (zc6 : w.cell? ⟨g, o + 13, none⟩ = some (.slice az qz cz))
    (h0 : ∀ W, Below w.heap.size w W → Calls Tryz.prog 127 #[exV y (.slice ay qy cy)] W fun e w' => e = .returned (.string (strB t0)) ∧ Below W.heap.size W w') (h1 : ∀ W, Below w.heap.size w W → Calls Tryz.prog 127 #[exV z (.slice az qz cz)] W fun e w' => e = .returned (.string (strB t1)) ∧ Below W.heap.size W w') :
    Calls Tryz.prog 127 #[.agg #[.int .i64 8, .int .i64 v.k, .int .i64 v.n, .string (strB v.s), .string (strB x), .string (strB f), .slice (some ⟨g, o, none⟩) 2 c]] w fun e w' => e = .returned (.string (strB (t0 ++ 32 :: (atL sumsL 8 ++ 32 :: (if z.k = 7 ∨ z.k = 8 then 40 :: (t1 ++ [41]) else t1))))) ∧ Below w.heap.size w w' := by
  have hb0 := (Below.refl w.heap.size w).alloc (Nat.le_refl _) (.cells #[.int .i64 8, .int .i64 v.k, .int .i64 v.n, .string (strB v.s), .string (strB x), .string (strB f), .slice (some ⟨g, o, none⟩) 2 c] 38)
  have HB0 := Lib.hid hb0
  have hs0 : (strB t0).size ≤ 1000000 := by rw [strB_size]; exact hl0
  have hs1 : (strB t1).size ≤ 1000000 := by rw [strB_size]; exact hl1
  have hix : ∀ W : World, (Instr.index 117 (textsV sumsL) (.int .i64 8)).run Tryz.prog W = .ok (.string ⟨#[45]⟩) W := fun W => by kernel_rfl
  have HC := Lib.hid (fun W => sums_calls W)
  have H0 := Lib.hid h0
  have H1 := Lib.hid h1
  simp only [xexV] at H0 H1
  have y32 : (⟨#[32]⟩ : ByteArray).size = 1 := rfl
  have y40 : (⟨#[40]⟩ : ByteArray).size = 1 := rfl
  have y41 : (⟨#[41]⟩ : ByteArray).size = 1 := rfl
  have ysg : (⟨#[45]⟩ : ByteArray).size = 1 := rfl
  have HD := Lib.hid (fun W => double_calls z.k W)
  by_cases hz : z.k = 7 ∨ z.k = 8
  · have HR : Hid (strB t0 ++ ⟨#[32]⟩ ++ ⟨#[45]⟩ ++ ⟨#[32]⟩ ++ ((⟨#[40]⟩ : ByteArray) ++ strB t1 ++ ⟨#[41]⟩) = strB (t0 ++ 32 :: (atL sumsL 8 ++ 32 :: (40 :: (t1 ++ [41]))))) := by
      show strB t0 ++ strB [32] ++ strB [45] ++ strB [32] ++ (strB [40] ++ strB t1 ++ strB [41]) = _
      rw [catT, catT, catT, catT, catT, catT]
      show strB _ = strB (t0 ++ 32 :: ([45] ++ 32 :: (40 :: (t1 ++ [41]))))
      simp only [List.append_assoc, List.cons_append, List.nil_append]
    rw [if_pos hz]
    rw [decide_eq_true hz] at HD
    clear h0 h1 hl0 hl1 hz
    have zz0 : (w.alloc (.cells #[.int .i64 8, .int .i64 v.k, .int .i64 v.n, .string (strB v.s), .string (strB x), .string (strB f), .slice (some ⟨g, o, none⟩) 2 c] 38)).cell? ⟨g, o + 7, none⟩ = some (.int .i64 z.k) := tkeep hb0 zc0
    have zz1 : (w.alloc (.cells #[.int .i64 8, .int .i64 v.k, .int .i64 v.n, .string (strB v.s), .string (strB x), .string (strB f), .slice (some ⟨g, o, none⟩) 2 c] 38)).cell? ⟨g, o + 7 + 1, none⟩ = some (.int .i64 z.v.k) := tkeep hb0 zc1
    have zz2 : (w.alloc (.cells #[.int .i64 8, .int .i64 v.k, .int .i64 v.n, .string (strB v.s), .string (strB x), .string (strB f), .slice (some ⟨g, o, none⟩) 2 c] 38)).cell? ⟨g, o + 7 + 2, none⟩ = some (.int .i64 z.v.n) := tkeep hb0 zc2
    have zz3 : (w.alloc (.cells #[.int .i64 8, .int .i64 v.k, .int .i64 v.n, .string (strB v.s), .string (strB x), .string (strB f), .slice (some ⟨g, o, none⟩) 2 c] 38)).cell? ⟨g, o + 7 + 3, none⟩ = some (.string (strB z.v.s)) := tkeep hb0 zc3
    have zz4 : (w.alloc (.cells #[.int .i64 8, .int .i64 v.k, .int .i64 v.n, .string (strB v.s), .string (strB x), .string (strB f), .slice (some ⟨g, o, none⟩) 2 c] 38)).cell? ⟨g, o + 7 + 4, none⟩ = some (.string (strB z.x)) := tkeep hb0 zc4
    have zz5 : (w.alloc (.cells #[.int .i64 8, .int .i64 v.k, .int .i64 v.n, .string (strB v.s), .string (strB x), .string (strB f), .slice (some ⟨g, o, none⟩) 2 c] 38)).cell? ⟨g, o + 7 + 5, none⟩ = some (.string (strB z.f)) := tkeep hb0 zc5
    have zz6 : (w.alloc (.cells #[.int .i64 8, .int .i64 v.k, .int .i64 v.n, .string (strB v.s), .string (strB x), .string (strB f), .slice (some ⟨g, o, none⟩) 2 c] 38)).cell? ⟨g, o + 7 + 6, none⟩ = some (.slice az qz cz) := tkeep hb0 zc6
    go_enter Tryz.func127, Tryz.ntmps127
    go_wp2_with fail
    clear zz0 zz1 zz2 zz3 zz4 zz5 zz6
    (with_reducible refine (H1.out _ HB0.out).mono ?_)
    rintro e w1 ⟨rfl, hb1⟩
    have m0 := tkeep hb1 (tnew w #[.int .i64 8, .int .i64 v.k, .int .i64 v.n, .string (strB v.s), .string (strB x), .string (strB f), .slice (some ⟨g, o, none⟩) 2 c] 38 0 rfl)
    have m6 := tkeep hb1 (tnew w #[.int .i64 8, .int .i64 v.k, .int .i64 v.n, .string (strB v.s), .string (strB x), .string (strB f), .slice (some ⟨g, o, none⟩) 2 c] 38 6 rfl)
    have z0 : w1.cell? ⟨g, o + 7, none⟩ = some (.int .i64 z.k) := tkeep hb1 (tkeep hb0 zc0)
    have y0 := tkeep hb1 (tkeep hb0 yc0)
    have y1 := tkeep hb1 (tkeep hb0 yc1)
    have y2 := tkeep hb1 (tkeep hb0 yc2)
    have y3 := tkeep hb1 (tkeep hb0 yc3)
    have y4 := tkeep hb1 (tkeep hb0 yc4)
    have y5 := tkeep hb1 (tkeep hb0 yc5)
    have y6 := tkeep hb1 (tkeep hb0 yc6)
    have HB1 := Lib.hid (HB0.out.trans (hb1.mono HB0.out.size))
    clear hb1
    go_wp2_with fail
    (with_reducible refine (HD.out _).mono ?_)
    rintro e w2 ⟨rfl, rfl⟩
    clear yc0 zc0 yc1 zc1 yc2 zc2 yc3 zc3 yc4 zc4 yc5 zc5 yc6 zc6 hb0
    have q0 : w1.drew.cell? ⟨w.heap.size, 0, none⟩ = some (.int .i64 8) := m0
    have q6 : w1.drew.cell? ⟨w.heap.size, 6, none⟩ = some (.slice (some ⟨g, o, none⟩) 2 c) := m6
    have d0 : w1.drew.cell? ⟨g, o, none⟩ = some (.int .i64 y.k) := y0
    have d1 : w1.drew.cell? ⟨g, o + 1, none⟩ = some (.int .i64 y.v.k) := y1
    have d2 : w1.drew.cell? ⟨g, o + 2, none⟩ = some (.int .i64 y.v.n) := y2
    have d3 : w1.drew.cell? ⟨g, o + 3, none⟩ = some (.string (strB y.v.s)) := y3
    have d4 : w1.drew.cell? ⟨g, o + 4, none⟩ = some (.string (strB y.x)) := y4
    have d5 : w1.drew.cell? ⟨g, o + 5, none⟩ = some (.string (strB y.f)) := y5
    have d6 : w1.drew.cell? ⟨g, o + 6, none⟩ = some (.slice ay qy cy) := y6
    go_wp2_with fail
    clear m0 m6 z0 y0 y1 y2 y3 y4 y5 y6
    refine wp_region_held_drew (S := fun W => W.cell? ⟨w.heap.size, 0, none⟩ = some (.int .i64 8) ∧ W.cell? ⟨w.heap.size, 6, none⟩ = some (.slice (some ⟨g, o, none⟩) 2 c) ∧ W.cell? ⟨g, o, none⟩ = some (.int .i64 y.k) ∧ W.cell? ⟨g, o + 1, none⟩ = some (.int .i64 y.v.k) ∧ W.cell? ⟨g, o + 2, none⟩ = some (.int .i64 y.v.n) ∧ W.cell? ⟨g, o + 3, none⟩ = some (.string (strB y.v.s)) ∧ W.cell? ⟨g, o + 4, none⟩ = some (.string (strB y.x)) ∧ W.cell? ⟨g, o + 5, none⟩ = some (.string (strB y.f)) ∧ W.cell? ⟨g, o + 6, none⟩ = some (.slice ay qy cy)) (by kernel_rfl) ⟨q0, q6, d0, d1, d2, d3, d4, d5, d6⟩ (fun hHeld => ?_)
    refine ttakeH 0 61 (v := ?va0) rfl (by kernel_rfl) (by kernel_rfl) (by kernel_rfl) rfl (fun _ _ _ h => h) (by rfl) ?ya0 (by assumption) ?ra0
    case ya0 => (intro W hSw; (try dsimp only at hSw); (try obtain ⟨hS0, hS1, hS2, hS3, hS4, hS5, hS6, hS7, hS8⟩ := hSw); go_simp; (try rw [if_neg (by omega)]); try with_reducible rfl)
    try simp only [Act.put, List.setIfInBounds_toArray, List.set_cons_zero, List.set_cons_succ]
    refine ttakeH 1 62 (v := ?va1) rfl (by kernel_rfl) (by kernel_rfl) (by kernel_rfl) rfl (fun _ _ _ h => h) (by rfl) ?ya1 (by assumption) ?ra1
    case ya1 => (intro W hSw; (try dsimp only at hSw); (try obtain ⟨hS0, hS1, hS2, hS3, hS4, hS5, hS6, hS7, hS8⟩ := hSw); go_simp; (try rw [if_neg (by omega)]); try with_reducible rfl)
    try simp only [Act.put, List.setIfInBounds_toArray, List.set_cons_zero, List.set_cons_succ]
    refine ttakeH 2 63 (v := ?va2) rfl (by kernel_rfl) (by kernel_rfl) (by kernel_rfl) rfl (fun _ _ _ h => h) (by rfl) ?ya2 (by assumption) ?ra2
    case ya2 => (intro W hSw; (try dsimp only at hSw); (try obtain ⟨hS0, hS1, hS2, hS3, hS4, hS5, hS6, hS7, hS8⟩ := hSw); go_simp; (try rw [if_neg (by omega)]); try with_reducible rfl)
    try simp only [Act.put, List.setIfInBounds_toArray, List.set_cons_zero, List.set_cons_succ]
    refine ttakeH 3 64 (v := ?va3) rfl (by kernel_rfl) (by kernel_rfl) (by kernel_rfl) rfl (fun _ _ _ h => h) (by rfl) ?ya3 (by assumption) ?ra3
    case ya3 => (intro W hSw; (try dsimp only at hSw); (try obtain ⟨hS0, hS1, hS2, hS3, hS4, hS5, hS6, hS7, hS8⟩ := hSw); go_simp; (try rw [if_neg (by omega)]); try with_reducible rfl)
    try simp only [Act.put, List.setIfInBounds_toArray, List.set_cons_zero, List.set_cons_succ]
    refine ttakeH 7 68 (v := ?va7) rfl (by kernel_rfl) (by kernel_rfl) (by kernel_rfl) rfl (fun _ _ _ h => h) (by rfl) ?ya7 (by assumption) ?ra7
    case ya7 => (intro W hSw; (try dsimp only at hSw); (try obtain ⟨hS0, hS1, hS2, hS3, hS4, hS5, hS6, hS7, hS8⟩ := hSw); go_simp; (try rw [if_neg (by omega)]); try with_reducible rfl)
    try simp only [Act.put, List.setIfInBounds_toArray, List.set_cons_zero, List.set_cons_succ]
    refine ttakeH 8 69 (v := ?va8) rfl (by kernel_rfl) (by kernel_rfl) (by kernel_rfl) rfl (fun _ _ _ h => h) (by rfl) ?ya8 (by assumption) ?ra8
    case ya8 => (intro W hSw; (try dsimp only at hSw); (try obtain ⟨hS0, hS1, hS2, hS3, hS4, hS5, hS6, hS7, hS8⟩ := hSw); go_simp; (try rw [if_neg (by omega)]); try with_reducible rfl)
    try simp only [Act.put, List.setIfInBounds_toArray, List.set_cons_zero, List.set_cons_succ]
    refine ttakeH 12 73 (v := ?va12) rfl (by kernel_rfl) (by kernel_rfl) (by kernel_rfl) rfl (fun _ _ _ h => h) (by rfl) ?ya12 (by assumption) ?ra12
    case ya12 => (intro W hSw; (try dsimp only at hSw); (try obtain ⟨hS0, hS1, hS2, hS3, hS4, hS5, hS6, hS7, hS8⟩ := hSw); go_simp; (try rw [if_neg (by omega)]); try with_reducible rfl)
    try simp only [Act.put, List.setIfInBounds_toArray, List.set_cons_zero, List.set_cons_succ]
    refine wpAnyH_ready (rs := [4]) (by kernel_rfl) (by simp) ?_
    refine AllReadyH.cons (o := _) rfl (fun K hK => ?_) AllReadyH.nil
    dsimp only [List.getElem_toArray, List.getElem_cons_succ, List.getElem_cons_zero]
    go_simp
    go_at_call 127
    (with_reducible refine (H0.out _ (vbelow_drew HB1.out)).mono ?_)
    rintro e w3 ⟨rfl, hb3⟩
    have HB3 := Lib.hid ((vbelow_drew HB1.out).trans (hb3.mono (show _ ≤ w1.drew.heap.size from HB1.out.size)))
    have p0 := tkeep hb3 q0
    have p6 := tkeep hb3 q6
    have u0 := tkeep hb3 d0
    have u1 := tkeep hb3 d1
    have u2 := tkeep hb3 d2
    have u3 := tkeep hb3 d3
    have u4 := tkeep hb3 d4
    have u5 := tkeep hb3 d5
    have u6 := tkeep hb3 d6
    clear hb3
    go_wp2_with fail
    refine hK.out _ _ ⟨p0, p6, u0, u1, u2, u3, u4, u5, u6⟩ (fun hHelda4 => ?_)
    clear hK K
    try simp only [Act.put, List.setIfInBounds_toArray, List.set_cons_zero, List.set_cons_succ]
    refine ttakeH 5 66 (v := ?va5) rfl (by kernel_rfl) (by kernel_rfl) (by kernel_rfl) rfl (fun _ _ _ h => h) (by rfl) ?ya5 (by assumption) ?ra5
    case ya5 => (intro W hSw; (try dsimp only at hSw); (try obtain ⟨hS0, hS1, hS2, hS3, hS4, hS5, hS6, hS7, hS8⟩ := hSw); go_simp; (try rw [if_neg (by omega)]); try with_reducible rfl)
    try simp only [Act.put, List.setIfInBounds_toArray, List.set_cons_zero, List.set_cons_succ]
    refine wpAnyH_ready (rs := [6]) (by kernel_rfl) (by simp) ?_
    refine AllReadyH.cons (o := _) rfl (fun K hK => ?_) AllReadyH.nil
    dsimp only [List.getElem_toArray, List.getElem_cons_succ, List.getElem_cons_zero]
    go_simp
    go_at_call 200
    (with_reducible refine (HC.out _).mono ?_)
    rintro e w4 ⟨rfl, hb4⟩
    have HB4 := Lib.hid (HB3.out.trans (hb4.mono HB3.out.size))
    have p0' := tkeep hb4 p0
    have p6' := tkeep hb4 p6
    have u0' := tkeep hb4 u0
    have u1' := tkeep hb4 u1
    have u2' := tkeep hb4 u2
    have u3' := tkeep hb4 u3
    have u4' := tkeep hb4 u4
    have u5' := tkeep hb4 u5
    have u6' := tkeep hb4 u6
    clear hb4
    go_wp2_with fail
    refine hK.out _ _ ⟨p0', p6', u0', u1', u2', u3', u4', u5', u6'⟩ (fun hHelda6 => ?_)
    clear hK K
    try simp only [Act.put, List.setIfInBounds_toArray, List.set_cons_zero, List.set_cons_succ]
    refine ttakeH 9 70 (v := ?va9) rfl (by kernel_rfl) (by kernel_rfl) (by kernel_rfl) rfl (fun _ _ _ h => h) (by rfl) ?ya9 (by assumption) ?ra9
    case ya9 => (intro W hSw; (try dsimp only at hSw); (try obtain ⟨hS0, hS1, hS2, hS3, hS4, hS5, hS6, hS7, hS8⟩ := hSw); go_simp; (try rw [if_neg (by omega)]); try with_reducible rfl)
    try simp only [Act.put, List.setIfInBounds_toArray, List.set_cons_zero, List.set_cons_succ]
    refine ttakeH 10 71 (v := ?va10) rfl (by kernel_rfl) (by kernel_rfl) (by kernel_rfl) rfl (fun _ _ _ h => h) (by rfl) ?ya10 (by assumption) ?ra10
    case ya10 => (intro W hSw; (try dsimp only at hSw); (try obtain ⟨hS0, hS1, hS2, hS3, hS4, hS5, hS6, hS7, hS8⟩ := hSw); go_simp; (try rw [if_neg (by omega)]); try with_reducible rfl)
    try simp only [Act.put, List.setIfInBounds_toArray, List.set_cons_zero, List.set_cons_succ]
    refine ttakeH 11 72 (v := ?va11) rfl (by kernel_rfl) (by kernel_rfl) (by kernel_rfl) rfl (fun _ _ _ h => h) (by rfl) ?ya11 (by assumption) ?ra11
    case ya11 => (intro W hSw; (try dsimp only at hSw); (try obtain ⟨hS0, hS1, hS2, hS3, hS4, hS5, hS6, hS7, hS8⟩ := hSw); go_simp; (try rw [if_neg (by omega)]); try with_reducible rfl)
    try simp only [Act.put, List.setIfInBounds_toArray, List.set_cons_zero, List.set_cons_succ]
    refine ttakeH 13 74 (v := ?va13) rfl (by kernel_rfl) (by kernel_rfl) (by kernel_rfl) rfl (fun _ _ _ h => h) (by rfl) ?ya13 (by assumption) ?ra13
    case ya13 => (intro W hSw; (try dsimp only at hSw); (try obtain ⟨hS0, hS1, hS2, hS3, hS4, hS5, hS6, hS7, hS8⟩ := hSw); go_simp; (try rw [if_neg (by omega)]); try with_reducible rfl)
    try simp only [Act.put, List.setIfInBounds_toArray, List.set_cons_zero, List.set_cons_succ]
    refine ttakeH 14 2 (v := ?va14) rfl (by kernel_rfl) (by kernel_rfl) (by kernel_rfl) rfl (fun _ _ _ h => h) (by rfl) ?ya14 (by assumption) ?ra14
    case ya14 => (intro W hSw; (try dsimp only at hSw); (try obtain ⟨hS0, hS1, hS2, hS3, hS4, hS5, hS6, hS7, hS8⟩ := hSw); go_simp; (try rw [if_neg (by omega)]); try with_reducible rfl)
    try simp only [Act.put, List.setIfInBounds_toArray, List.set_cons_zero, List.set_cons_succ]
    refine wpAnyH_done (by kernel_rfl) ?_ _
    go_wp2
    go_ret
    exact ⟨by rw [← HR.out]; rfl, HB4.out⟩
  · have HR : Hid (strB t0 ++ ⟨#[32]⟩ ++ ⟨#[45]⟩ ++ ⟨#[32]⟩ ++ strB t1 = strB (t0 ++ 32 :: (atL sumsL 8 ++ 32 :: t1))) := by
      show strB t0 ++ strB [32] ++ strB [45] ++ strB [32] ++ strB t1 = _
      rw [catT, catT, catT, catT]
      show strB _ = strB (t0 ++ 32 :: ([45] ++ 32 :: t1))
      simp only [List.append_assoc, List.cons_append, List.nil_append]
    rw [if_neg hz]
    rw [decide_eq_false hz] at HD
    clear h0 h1 hl0 hl1 hz
    have zz0 : (w.alloc (.cells #[.int .i64 8, .int .i64 v.k, .int .i64 v.n, .string (strB v.s), .string (strB x), .string (strB f), .slice (some ⟨g, o, none⟩) 2 c] 38)).cell? ⟨g, o + 7, none⟩ = some (.int .i64 z.k) := tkeep hb0 zc0
    have zz1 : (w.alloc (.cells #[.int .i64 8, .int .i64 v.k, .int .i64 v.n, .string (strB v.s), .string (strB x), .string (strB f), .slice (some ⟨g, o, none⟩) 2 c] 38)).cell? ⟨g, o + 7 + 1, none⟩ = some (.int .i64 z.v.k) := tkeep hb0 zc1
    have zz2 : (w.alloc (.cells #[.int .i64 8, .int .i64 v.k, .int .i64 v.n, .string (strB v.s), .string (strB x), .string (strB f), .slice (some ⟨g, o, none⟩) 2 c] 38)).cell? ⟨g, o + 7 + 2, none⟩ = some (.int .i64 z.v.n) := tkeep hb0 zc2
    have zz3 : (w.alloc (.cells #[.int .i64 8, .int .i64 v.k, .int .i64 v.n, .string (strB v.s), .string (strB x), .string (strB f), .slice (some ⟨g, o, none⟩) 2 c] 38)).cell? ⟨g, o + 7 + 3, none⟩ = some (.string (strB z.v.s)) := tkeep hb0 zc3
    have zz4 : (w.alloc (.cells #[.int .i64 8, .int .i64 v.k, .int .i64 v.n, .string (strB v.s), .string (strB x), .string (strB f), .slice (some ⟨g, o, none⟩) 2 c] 38)).cell? ⟨g, o + 7 + 4, none⟩ = some (.string (strB z.x)) := tkeep hb0 zc4
    have zz5 : (w.alloc (.cells #[.int .i64 8, .int .i64 v.k, .int .i64 v.n, .string (strB v.s), .string (strB x), .string (strB f), .slice (some ⟨g, o, none⟩) 2 c] 38)).cell? ⟨g, o + 7 + 5, none⟩ = some (.string (strB z.f)) := tkeep hb0 zc5
    have zz6 : (w.alloc (.cells #[.int .i64 8, .int .i64 v.k, .int .i64 v.n, .string (strB v.s), .string (strB x), .string (strB f), .slice (some ⟨g, o, none⟩) 2 c] 38)).cell? ⟨g, o + 7 + 6, none⟩ = some (.slice az qz cz) := tkeep hb0 zc6
    go_enter Tryz.func127, Tryz.ntmps127
    go_wp2_with fail
    clear zz0 zz1 zz2 zz3 zz4 zz5 zz6
    (with_reducible refine (H1.out _ HB0.out).mono ?_)
    rintro e w1 ⟨rfl, hb1⟩
    have m0 := tkeep hb1 (tnew w #[.int .i64 8, .int .i64 v.k, .int .i64 v.n, .string (strB v.s), .string (strB x), .string (strB f), .slice (some ⟨g, o, none⟩) 2 c] 38 0 rfl)
    have m6 := tkeep hb1 (tnew w #[.int .i64 8, .int .i64 v.k, .int .i64 v.n, .string (strB v.s), .string (strB x), .string (strB f), .slice (some ⟨g, o, none⟩) 2 c] 38 6 rfl)
    have z0 : w1.cell? ⟨g, o + 7, none⟩ = some (.int .i64 z.k) := tkeep hb1 (tkeep hb0 zc0)
    have y0 := tkeep hb1 (tkeep hb0 yc0)
    have y1 := tkeep hb1 (tkeep hb0 yc1)
    have y2 := tkeep hb1 (tkeep hb0 yc2)
    have y3 := tkeep hb1 (tkeep hb0 yc3)
    have y4 := tkeep hb1 (tkeep hb0 yc4)
    have y5 := tkeep hb1 (tkeep hb0 yc5)
    have y6 := tkeep hb1 (tkeep hb0 yc6)
    have HB1 := Lib.hid (HB0.out.trans (hb1.mono HB0.out.size))
    clear hb1
    go_wp2_with fail
    (with_reducible refine (HD.out _).mono ?_)
    rintro e w2 ⟨rfl, rfl⟩
    clear yc0 zc0 yc1 zc1 yc2 zc2 yc3 zc3 yc4 zc4 yc5 zc5 yc6 zc6 hb0
    have q0 : w1.drew.cell? ⟨w.heap.size, 0, none⟩ = some (.int .i64 8) := m0
    have q6 : w1.drew.cell? ⟨w.heap.size, 6, none⟩ = some (.slice (some ⟨g, o, none⟩) 2 c) := m6
    have d0 : w1.drew.cell? ⟨g, o, none⟩ = some (.int .i64 y.k) := y0
    have d1 : w1.drew.cell? ⟨g, o + 1, none⟩ = some (.int .i64 y.v.k) := y1
    have d2 : w1.drew.cell? ⟨g, o + 2, none⟩ = some (.int .i64 y.v.n) := y2
    have d3 : w1.drew.cell? ⟨g, o + 3, none⟩ = some (.string (strB y.v.s)) := y3
    have d4 : w1.drew.cell? ⟨g, o + 4, none⟩ = some (.string (strB y.x)) := y4
    have d5 : w1.drew.cell? ⟨g, o + 5, none⟩ = some (.string (strB y.f)) := y5
    have d6 : w1.drew.cell? ⟨g, o + 6, none⟩ = some (.slice ay qy cy) := y6
    go_wp2_with fail
    clear m0 m6 z0 y0 y1 y2 y3 y4 y5 y6
    refine wp_region_held_drew (S := fun W => W.cell? ⟨w.heap.size, 0, none⟩ = some (.int .i64 8) ∧ W.cell? ⟨w.heap.size, 6, none⟩ = some (.slice (some ⟨g, o, none⟩) 2 c) ∧ W.cell? ⟨g, o, none⟩ = some (.int .i64 y.k) ∧ W.cell? ⟨g, o + 1, none⟩ = some (.int .i64 y.v.k) ∧ W.cell? ⟨g, o + 2, none⟩ = some (.int .i64 y.v.n) ∧ W.cell? ⟨g, o + 3, none⟩ = some (.string (strB y.v.s)) ∧ W.cell? ⟨g, o + 4, none⟩ = some (.string (strB y.x)) ∧ W.cell? ⟨g, o + 5, none⟩ = some (.string (strB y.f)) ∧ W.cell? ⟨g, o + 6, none⟩ = some (.slice ay qy cy)) (by kernel_rfl) ⟨q0, q6, d0, d1, d2, d3, d4, d5, d6⟩ (fun hHeld => ?_)
    refine ttakeH 0 61 (v := ?vb0) rfl (by kernel_rfl) (by kernel_rfl) (by kernel_rfl) rfl (fun _ _ _ h => h) (by rfl) ?yb0 (by assumption) ?rb0
    case yb0 => (intro W hSw; (try dsimp only at hSw); (try obtain ⟨hS0, hS1, hS2, hS3, hS4, hS5, hS6, hS7, hS8⟩ := hSw); go_simp; (try rw [if_neg (by omega)]); try with_reducible rfl)
    try simp only [Act.put, List.setIfInBounds_toArray, List.set_cons_zero, List.set_cons_succ]
    refine ttakeH 1 62 (v := ?vb1) rfl (by kernel_rfl) (by kernel_rfl) (by kernel_rfl) rfl (fun _ _ _ h => h) (by rfl) ?yb1 (by assumption) ?rb1
    case yb1 => (intro W hSw; (try dsimp only at hSw); (try obtain ⟨hS0, hS1, hS2, hS3, hS4, hS5, hS6, hS7, hS8⟩ := hSw); go_simp; (try rw [if_neg (by omega)]); try with_reducible rfl)
    try simp only [Act.put, List.setIfInBounds_toArray, List.set_cons_zero, List.set_cons_succ]
    refine ttakeH 2 63 (v := ?vb2) rfl (by kernel_rfl) (by kernel_rfl) (by kernel_rfl) rfl (fun _ _ _ h => h) (by rfl) ?yb2 (by assumption) ?rb2
    case yb2 => (intro W hSw; (try dsimp only at hSw); (try obtain ⟨hS0, hS1, hS2, hS3, hS4, hS5, hS6, hS7, hS8⟩ := hSw); go_simp; (try rw [if_neg (by omega)]); try with_reducible rfl)
    try simp only [Act.put, List.setIfInBounds_toArray, List.set_cons_zero, List.set_cons_succ]
    refine ttakeH 3 64 (v := ?vb3) rfl (by kernel_rfl) (by kernel_rfl) (by kernel_rfl) rfl (fun _ _ _ h => h) (by rfl) ?yb3 (by assumption) ?rb3
    case yb3 => (intro W hSw; (try dsimp only at hSw); (try obtain ⟨hS0, hS1, hS2, hS3, hS4, hS5, hS6, hS7, hS8⟩ := hSw); go_simp; (try rw [if_neg (by omega)]); try with_reducible rfl)
    try simp only [Act.put, List.setIfInBounds_toArray, List.set_cons_zero, List.set_cons_succ]
    refine ttakeH 7 68 (v := ?vb7) rfl (by kernel_rfl) (by kernel_rfl) (by kernel_rfl) rfl (fun _ _ _ h => h) (by rfl) ?yb7 (by assumption) ?rb7
    case yb7 => (intro W hSw; (try dsimp only at hSw); (try obtain ⟨hS0, hS1, hS2, hS3, hS4, hS5, hS6, hS7, hS8⟩ := hSw); go_simp; (try rw [if_neg (by omega)]); try with_reducible rfl)
    try simp only [Act.put, List.setIfInBounds_toArray, List.set_cons_zero, List.set_cons_succ]
    refine ttakeH 8 69 (v := ?vb8) rfl (by kernel_rfl) (by kernel_rfl) (by kernel_rfl) rfl (fun _ _ _ h => h) (by rfl) ?yb8 (by assumption) ?rb8
    case yb8 => (intro W hSw; (try dsimp only at hSw); (try obtain ⟨hS0, hS1, hS2, hS3, hS4, hS5, hS6, hS7, hS8⟩ := hSw); go_simp; (try rw [if_neg (by omega)]); try with_reducible rfl)
    try simp only [Act.put, List.setIfInBounds_toArray, List.set_cons_zero, List.set_cons_succ]
    refine ttakeH 12 73 (v := ?vb12) rfl (by kernel_rfl) (by kernel_rfl) (by kernel_rfl) rfl (fun _ _ _ h => h) (by rfl) ?yb12 (by assumption) ?rb12
    case yb12 => (intro W hSw; (try dsimp only at hSw); (try obtain ⟨hS0, hS1, hS2, hS3, hS4, hS5, hS6, hS7, hS8⟩ := hSw); go_simp; (try rw [if_neg (by omega)]); try with_reducible rfl)
    try simp only [Act.put, List.setIfInBounds_toArray, List.set_cons_zero, List.set_cons_succ]
    refine wpAnyH_ready (rs := [4]) (by kernel_rfl) (by simp) ?_
    refine AllReadyH.cons (o := _) rfl (fun K hK => ?_) AllReadyH.nil
    dsimp only [List.getElem_toArray, List.getElem_cons_succ, List.getElem_cons_zero]
    go_simp
    go_at_call 127
    (with_reducible refine (H0.out _ (vbelow_drew HB1.out)).mono ?_)
    rintro e w3 ⟨rfl, hb3⟩
    have HB3 := Lib.hid ((vbelow_drew HB1.out).trans (hb3.mono (show _ ≤ w1.drew.heap.size from HB1.out.size)))
    have p0 := tkeep hb3 q0
    have p6 := tkeep hb3 q6
    have u0 := tkeep hb3 d0
    have u1 := tkeep hb3 d1
    have u2 := tkeep hb3 d2
    have u3 := tkeep hb3 d3
    have u4 := tkeep hb3 d4
    have u5 := tkeep hb3 d5
    have u6 := tkeep hb3 d6
    clear hb3
    go_wp2_with fail
    refine hK.out _ _ ⟨p0, p6, u0, u1, u2, u3, u4, u5, u6⟩ (fun hHeldb4 => ?_)
    clear hK K
    try simp only [Act.put, List.setIfInBounds_toArray, List.set_cons_zero, List.set_cons_succ]
    refine ttakeH 5 66 (v := ?vb5) rfl (by kernel_rfl) (by kernel_rfl) (by kernel_rfl) rfl (fun _ _ _ h => h) (by rfl) ?yb5 (by assumption) ?rb5
    case yb5 => (intro W hSw; (try dsimp only at hSw); (try obtain ⟨hS0, hS1, hS2, hS3, hS4, hS5, hS6, hS7, hS8⟩ := hSw); go_simp; (try rw [if_neg (by omega)]); try with_reducible rfl)
    try simp only [Act.put, List.setIfInBounds_toArray, List.set_cons_zero, List.set_cons_succ]
    refine wpAnyH_ready (rs := [6]) (by kernel_rfl) (by simp) ?_
    refine AllReadyH.cons (o := _) rfl (fun K hK => ?_) AllReadyH.nil
    dsimp only [List.getElem_toArray, List.getElem_cons_succ, List.getElem_cons_zero]
    go_simp
    go_at_call 200
    (with_reducible refine (HC.out _).mono ?_)
    rintro e w4 ⟨rfl, hb4⟩
    have HB4 := Lib.hid (HB3.out.trans (hb4.mono HB3.out.size))
    have p0' := tkeep hb4 p0
    have p6' := tkeep hb4 p6
    have u0' := tkeep hb4 u0
    have u1' := tkeep hb4 u1
    have u2' := tkeep hb4 u2
    have u3' := tkeep hb4 u3
    have u4' := tkeep hb4 u4
    have u5' := tkeep hb4 u5
    have u6' := tkeep hb4 u6
    clear hb4
    go_wp2_with fail
    refine hK.out _ _ ⟨p0', p6', u0', u1', u2', u3', u4', u5', u6'⟩ (fun hHeldb6 => ?_)
    clear hK K
    try simp only [Act.put, List.setIfInBounds_toArray, List.set_cons_zero, List.set_cons_succ]
    refine ttakeH 9 70 (v := ?vb9) rfl (by kernel_rfl) (by kernel_rfl) (by kernel_rfl) rfl (fun _ _ _ h => h) (by rfl) ?yb9 (by assumption) ?rb9
    case yb9 => (intro W hSw; (try dsimp only at hSw); (try obtain ⟨hS0, hS1, hS2, hS3, hS4, hS5, hS6, hS7, hS8⟩ := hSw); go_simp; (try rw [if_neg (by omega)]); try with_reducible rfl)
    try simp only [Act.put, List.setIfInBounds_toArray, List.set_cons_zero, List.set_cons_succ]
    refine ttakeH 10 71 (v := ?vb10) rfl (by kernel_rfl) (by kernel_rfl) (by kernel_rfl) rfl (fun _ _ _ h => h) (by rfl) ?yb10 (by assumption) ?rb10
    case yb10 => (intro W hSw; (try dsimp only at hSw); (try obtain ⟨hS0, hS1, hS2, hS3, hS4, hS5, hS6, hS7, hS8⟩ := hSw); go_simp; (try rw [if_neg (by omega)]); try with_reducible rfl)
    try simp only [Act.put, List.setIfInBounds_toArray, List.set_cons_zero, List.set_cons_succ]
    refine ttakeH 11 72 (v := ?vb11) rfl (by kernel_rfl) (by kernel_rfl) (by kernel_rfl) rfl (fun _ _ _ h => h) (by rfl) ?yb11 (by assumption) ?rb11
    case yb11 => (intro W hSw; (try dsimp only at hSw); (try obtain ⟨hS0, hS1, hS2, hS3, hS4, hS5, hS6, hS7, hS8⟩ := hSw); go_simp; (try rw [if_neg (by omega)]); try with_reducible rfl)
    try simp only [Act.put, List.setIfInBounds_toArray, List.set_cons_zero, List.set_cons_succ]
    refine ttakeH 13 74 (v := ?vb13) rfl (by kernel_rfl) (by kernel_rfl) (by kernel_rfl) rfl (fun _ _ _ h => h) (by rfl) ?yb13 (by assumption) ?rb13
    case yb13 => (intro W hSw; (try dsimp only at hSw); (try obtain ⟨hS0, hS1, hS2, hS3, hS4, hS5, hS6, hS7, hS8⟩ := hSw); go_simp; (try rw [if_neg (by omega)]); try with_reducible rfl)
    try simp only [Act.put, List.setIfInBounds_toArray, List.set_cons_zero, List.set_cons_succ]
    refine ttakeH 14 2 (v := ?vb14) rfl (by kernel_rfl) (by kernel_rfl) (by kernel_rfl) rfl (fun _ _ _ h => h) (by rfl) ?yb14 (by assumption) ?rb14
    case yb14 => (intro W hSw; (try dsimp only at hSw); (try obtain ⟨hS0, hS1, hS2, hS3, hS4, hS5, hS6, hS7, hS8⟩ := hSw); go_simp; (try rw [if_neg (by omega)]); try with_reducible rfl)
    try simp only [Act.put, List.setIfInBounds_toArray, List.set_cons_zero, List.set_cons_succ]
    refine wpAnyH_done (by kernel_rfl) ?_ _
    go_wp2
    go_ret
    exact ⟨by rw [← HR.out]; rfl, HB4.out⟩
end

end Go.Proofs.YtifacoompbngaaaGreatDoor
