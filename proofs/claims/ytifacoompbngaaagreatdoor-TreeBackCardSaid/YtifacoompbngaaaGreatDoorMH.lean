/- Queries: the document's Same of expressions. | Queries: the document's Same of items. -/
import Derived.Test.YtifacoompbngaaaGreatDoorMG
namespace Go.Proofs.YtifacoompbngaaaGreatDoor
open Go.RowKit Go.Lib Go.Op

noncomputable def sameB {α : Type} (x y : α) : Bool := @decide (x = y) (Classical.propDecidable _)
theorem sameB_yes {α : Type} {x y : α} (h : x = y) : sameB x y = true := @decide_eq_true _ (Classical.propDecidable _) h
theorem sameB_no {α : Type} {x y : α} (h : x ≠ y) : sameB x y = false := @decide_eq_false _ (Classical.propDecidable _) h
theorem sameB_of {α : Type} {x y : α} (h : sameB x y = true) : x = y := @of_decide_eq_true _ (Classical.propDecidable _) h

theorem below_drew2 {n : Nat} {w W : World} (h : Below n w W) : Below n w W.drew := ⟨h.os, h.tape, h.output, h.size, h.block⟩
section
variable {w : World} {a a' : Option Addr} {c c' n n' : Nat} {k k' vk vk' vn vn' : Int} {vs vs' xx xx' f f' : List UInt8}
set_option maxHeartbeats 2000000 in
set_option maxRecDepth 100000 in
theorem sx_no (h : ¬ (k = k' ∧ vk = vk' ∧ vn = vn' ∧ vs = vs' ∧ xx = xx' ∧ f = f' ∧ n = n')) :
    Calls Tryz.prog 115 #[.agg #[.int .i64 k, .int .i64 vk, .int .i64 vn, .string (strB vs), .string (strB xx), .string (strB f), .slice a n c], .agg #[.int .i64 k', .int .i64 vk', .int .i64 vn', .string (strB vs'), .string (strB xx'), .string (strB f'), .slice a' n' c']] w fun e w' => e = .returned (.bool false) ∧ Below w.heap.size w w' := by
  have HB0 := Lib.hid (((Below.refl w.heap.size w).alloc (Nat.le_refl _) (.cells #[.int .i64 k, .int .i64 vk, .int .i64 vn, .string (strB vs), .string (strB xx), .string (strB f), .slice a n c] 38)).alloc (by simp) (.cells #[.int .i64 k', .int .i64 vk', .int .i64 vn', .string (strB vs'), .string (strB xx'), .string (strB f'), .slice a' n' c'] 38))
  have H := Lib.hid h
  clear h
  go_enter Tryz.func115, Tryz.ntmps115
  go_wp2
  all_goals first
    | (go_ret; exact ⟨rfl, ((Below.refl w.heap.size w).alloc (Nat.le_refl _) _).alloc (by simp) _⟩)
    | (exfalso; have H1 := H.out; simp_all [tB_list]; omega)
end
set_option maxHeartbeats 2000000 in
set_option maxRecDepth 100000 in
theorem sx_step {w : World} {a a' : Option Addr} {c c' n : Nat} {k vk vn : Int} {vs xx f : List UInt8} {ks ks' : List PEx} (h1 : ks.length = n) (h2 : ks'.length = n) (hn : n ≤ maxLen)
    (hk : ∀ j y z, ks[j]? = some y → ks'[j]? = some z → ∃ g o a1 c1 g' o' a2 c2, a = some ⟨g, o, none⟩ ∧ a' = some ⟨g', o', none⟩ ∧ (w.cell? ⟨g, o + j * 7, none⟩ = some (.int .i64 y.k) ∧ w.cell? ⟨g, o + j * 7 + 1, none⟩ = some (.int .i64 y.v.k) ∧ w.cell? ⟨g, o + j * 7 + 2, none⟩ = some (.int .i64 y.v.n) ∧ w.cell? ⟨g, o + j * 7 + 3, none⟩ = some (.string (strB y.v.s)) ∧ w.cell? ⟨g, o + j * 7 + 4, none⟩ = some (.string (strB y.x)) ∧ w.cell? ⟨g, o + j * 7 + 5, none⟩ = some (.string (strB y.f)) ∧ w.cell? ⟨g, o + j * 7 + 6, none⟩ = some (.slice a1 y.ks.length c1)) ∧ (w.cell? ⟨g', o' + j * 7, none⟩ = some (.int .i64 z.k) ∧ w.cell? ⟨g', o' + j * 7 + 1, none⟩ = some (.int .i64 z.v.k) ∧ w.cell? ⟨g', o' + j * 7 + 2, none⟩ = some (.int .i64 z.v.n) ∧ w.cell? ⟨g', o' + j * 7 + 3, none⟩ = some (.string (strB z.v.s)) ∧ w.cell? ⟨g', o' + j * 7 + 4, none⟩ = some (.string (strB z.x)) ∧ w.cell? ⟨g', o' + j * 7 + 5, none⟩ = some (.string (strB z.f)) ∧ w.cell? ⟨g', o' + j * 7 + 6, none⟩ = some (.slice a2 z.ks.length c2)) ∧
      ∀ W, Below w.heap.size w W → Calls Tryz.prog 115 #[exV y (.slice a1 y.ks.length c1), exV z (.slice a2 z.ks.length c2)] W fun e w' => e = .returned (.bool (sameB y z)) ∧ Below W.heap.size W w') :
    Calls Tryz.prog 115 #[.agg #[.int .i64 k, .int .i64 vk, .int .i64 vn, .string (strB vs), .string (strB xx), .string (strB f), .slice a n c], .agg #[.int .i64 k, .int .i64 vk, .int .i64 vn, .string (strB vs), .string (strB xx), .string (strB f), .slice a' n c']] w fun e w' => e = .returned (.bool (sameB ks ks')) ∧ Below w.heap.size w w' := by
  have HK := Lib.hid hk
  obtain ⟨sx, hsx⟩ : ∃ s, strB xx = s := ⟨_, rfl⟩
  obtain ⟨sf, hsf⟩ : ∃ s, strB f = s := ⟨_, rfl⟩
  obtain ⟨ss, hss⟩ : ∃ s, strB vs = s := ⟨_, rfl⟩
  rw [hsx, hsf, hss]
  have H1 := Lib.hid h1
  have H2 := Lib.hid h2
  have hb0 := ((Below.refl w.heap.size w).alloc (Nat.le_refl _) (.cells #[.int .i64 k, .int .i64 vk, .int .i64 vn, .string ss, .string sx, .string sf, .slice a n c] 38)).alloc (by simp) (.cells #[.int .i64 k, .int .i64 vk, .int .i64 vn, .string ss, .string sx, .string sf, .slice a' n c'] 38)
  have HB0 := Lib.hid hb0
  have HX1 : Hid (XBlk ((w.alloc (.cells #[.int .i64 k, .int .i64 vk, .int .i64 vn, .string ss, .string sx, .string sf, .slice a n c] 38)).alloc (.cells #[.int .i64 k, .int .i64 vk, .int .i64 vn, .string ss, .string sx, .string sf, .slice a' n c'] 38)) w.heap.size (.int .i64 k) (.int .i64 vk) (.int .i64 vn) (.string ss) (.string sx) (.string sf) (.slice a n c)) := (((Below.refl (w.alloc (.cells #[.int .i64 k, .int .i64 vk, .int .i64 vn, .string ss, .string sx, .string sf, .slice a n c] 38)).heap.size (w.alloc (.cells #[.int .i64 k, .int .i64 vk, .int .i64 vn, .string ss, .string sx, .string sf, .slice a n c] 38))).alloc (Nat.le_refl _) (.cells #[.int .i64 k, .int .i64 vk, .int .i64 vn, .string ss, .string sx, .string sf, .slice a' n c'] 38)).block w.heap.size (by simp)).trans (XBlk.new w (.int .i64 k) (.int .i64 vk) (.int .i64 vn) (.string ss) (.string sx) (.string sf) (.slice a n c))
  have HX2 : Hid (XBlk ((w.alloc (.cells #[.int .i64 k, .int .i64 vk, .int .i64 vn, .string ss, .string sx, .string sf, .slice a n c] 38)).alloc (.cells #[.int .i64 k, .int .i64 vk, .int .i64 vn, .string ss, .string sx, .string sf, .slice a' n c'] 38)) (w.heap.size + 1) (.int .i64 k) (.int .i64 vk) (.int .i64 vn) (.string ss) (.string sx) (.string sf) (.slice a' n c')) := by
    have h9 := XBlk.new (w.alloc (.cells #[.int .i64 k, .int .i64 vk, .int .i64 vn, .string ss, .string sx, .string sf, .slice a n c] 38)) (.int .i64 k) (.int .i64 vk) (.int .i64 vn) (.string ss) (.string sx) (.string sf) (.slice a' n c')
    have e9 : (w.alloc (.cells #[.int .i64 k, .int .i64 vk, .int .i64 vn, .string ss, .string sx, .string sf, .slice a n c] 38)).heap.size = w.heap.size + 1 := by simp
    rw [e9] at h9
    exact h9
  obtain ⟨z, hz⟩ : ∃ z, sameB ks ks' = z := ⟨_, rfl⟩
  rw [hz]
  have HZ := Lib.hid hz
  unfold maxLen at hn
  clear hk hz hsx hsf hss h1 h2 hb0
  go_enter Tryz.func115, Tryz.ntmps115
  go_wp2
  go_loopw [5] (fun i wr => ∃ (j : Nat), i = .int .i64 j ∧ j ≤ n ∧ Hid (ks.take j = ks'.take j) ∧ Hid (Below (w.heap.size + 2) ((w.alloc (.cells #[.int .i64 k, .int .i64 vk, .int .i64 vn, .string ss, .string sx, .string sf, .slice a n c] 38)).alloc (.cells #[.int .i64 k, .int .i64 vk, .int .i64 vn, .string ss, .string sx, .string sf, .slice a' n c'] 38)) wr)) (fun i _ => n - (RowKit.intOf i).toNat)
  case atStart => exact ⟨0, rfl, Nat.zero_le _, rfl, Below.refl _ _⟩
  case round =>
    obtain ⟨j, rfl, hj, HG, HB⟩ := hrel
    have hx1 := (HB.out.block w.heap.size (by omega)).trans HX1.out
    have hx2 := (HB.out.block (w.heap.size + 1) (by omega)).trans HX2.out
    obtain ⟨_, _, _, _, _, _, x6, _, _, _, _, _, _, _⟩ := XBlk.all hx1
    obtain ⟨_, _, _, _, _, _, y6, _, _, _, _, _, _, _⟩ := XBlk.all hx2
    have HBw := Lib.hid (HB0.out.trans (HB.out.mono (by omega)))
    have hsz : w.heap.size + 2 ≤ wr.heap.size := by
      have := HB.out.size
      simpa using this
    by_cases hlt : j < n
    · obtain ⟨y, hy⟩ : ∃ y, ks[j]? = some y := ⟨_, List.getElem?_eq_getElem (by rw [H1.out]; exact hlt)⟩
      obtain ⟨u, hu⟩ : ∃ u, ks'[j]? = some u := ⟨_, List.getElem?_eq_getElem (by rw [H2.out]; exact hlt)⟩
      obtain ⟨g, o, a1, c1, g', o', a2, c2, rfl, rfl, ⟨e0, e1, e2, e3, e4, e5, e6⟩, ⟨i0, i1, i2, i3, i4, i5, i6⟩, hcall⟩ := HK.out j y u hy hu
      have d0 := tkeep HBw.out e0
      have d1 := tkeep HBw.out e1
      have d2 := tkeep HBw.out e2
      have d3 := tkeep HBw.out e3
      have d4 := tkeep HBw.out e4
      have d5 := tkeep HBw.out e5
      have d6 := tkeep HBw.out e6
      have f0 := tkeep HBw.out i0
      have f1 := tkeep HBw.out i1
      have f2 := tkeep HBw.out i2
      have f3 := tkeep HBw.out i3
      have f4 := tkeep HBw.out i4
      have f5 := tkeep HBw.out i5
      have f6 := tkeep HBw.out i6
      obtain ⟨n1, hn1⟩ : ∃ n1, y.ks.length = n1 := ⟨_, rfl⟩
      obtain ⟨n2, hn2⟩ : ∃ n2, u.ks.length = n2 := ⟨_, rfl⟩
      rw [hn1] at d6 hcall
      rw [hn2] at f6 hcall
      have HC := hcall wr.drew (vbelow_drew HBw.out)
      have x6 : wr.drew.cell? _ = _ := x6
      have y6 : wr.drew.cell? _ = _ := y6
      have d0 : wr.drew.cell? _ = _ := d0
      have d1 : wr.drew.cell? _ = _ := d1
      have d2 : wr.drew.cell? _ = _ := d2
      have d3 : wr.drew.cell? _ = _ := d3
      have d4 : wr.drew.cell? _ = _ := d4
      have d5 : wr.drew.cell? _ = _ := d5
      have d6 : wr.drew.cell? _ = _ := d6
      have f0 : wr.drew.cell? _ = _ := f0
      have f1 : wr.drew.cell? _ = _ := f1
      have f2 : wr.drew.cell? _ = _ := f2
      have f3 : wr.drew.cell? _ = _ := f3
      have f4 : wr.drew.cell? _ = _ := f4
      have f5 : wr.drew.cell? _ = _ := f5
      have f6 : wr.drew.cell? _ = _ := f6
      simp only [xexV] at HC
      have HY := Lib.hid hy
      have HU := Lib.hid hu
      cases hr : sameB y u with
      | true =>
        rw [hr] at HC
        have HC := Lib.hid HC
        have HN : Hid (ks.take (j + 1) = ks'.take (j + 1)) := by
          show _ = _
          have hyu : y = u := by
            exact sameB_of hr
          rw [List.take_add_one, List.take_add_one, HY.out, HU.out, HG.out, hyu]
        clear hy hu hcall hn1 hn2 e0 e1 e2 e3 e4 e5 e6 i0 i1 i2 i3 i4 i5 i6 hx1 hx2 hr
        go_wp2_with fail
        refine wp_region_held_drew (S := fun W => W.cell? ⟨w.heap.size, 6, none⟩ = some (.slice (some ⟨g, o, none⟩) n c) ∧ W.cell? ⟨w.heap.size + 1, 6, none⟩ = some (.slice (some ⟨g', o', none⟩) n c') ∧ W.cell? ⟨g, o + j * 7, none⟩ = some (.int .i64 y.k) ∧ W.cell? ⟨g, o + j * 7 + 1, none⟩ = some (.int .i64 y.v.k) ∧ W.cell? ⟨g, o + j * 7 + 2, none⟩ = some (.int .i64 y.v.n) ∧ W.cell? ⟨g, o + j * 7 + 3, none⟩ = some (.string (strB y.v.s)) ∧ W.cell? ⟨g, o + j * 7 + 4, none⟩ = some (.string (strB y.x)) ∧ W.cell? ⟨g, o + j * 7 + 5, none⟩ = some (.string (strB y.f)) ∧ W.cell? ⟨g, o + j * 7 + 6, none⟩ = some (.slice a1 n1 c1) ∧ W.cell? ⟨g', o' + j * 7, none⟩ = some (.int .i64 u.k) ∧ W.cell? ⟨g', o' + j * 7 + 1, none⟩ = some (.int .i64 u.v.k) ∧ W.cell? ⟨g', o' + j * 7 + 2, none⟩ = some (.int .i64 u.v.n) ∧ W.cell? ⟨g', o' + j * 7 + 3, none⟩ = some (.string (strB u.v.s)) ∧ W.cell? ⟨g', o' + j * 7 + 4, none⟩ = some (.string (strB u.x)) ∧ W.cell? ⟨g', o' + j * 7 + 5, none⟩ = some (.string (strB u.f)) ∧ W.cell? ⟨g', o' + j * 7 + 6, none⟩ = some (.slice a2 n2 c2)) (by kernel_rfl) ⟨x6, y6, d0, d1, d2, d3, d4, d5, d6, f0, f1, f2, f3, f4, f5, f6⟩ (fun hHeld => ?_)
        refine ttakeH 0 48 (v := ?va0) rfl (by kernel_rfl) (by kernel_rfl) (by kernel_rfl) rfl (fun _ _ _ h => h) (by rfl) ?ya0 (by assumption) ?ra0
        case ya0 => (intro W hSw; (try dsimp only at hSw); (try obtain ⟨hS0, hS1, hS2, hS3, hS4, hS5, hS6, hS7, hS8, hS9, hS10, hS11, hS12, hS13, hS14, hS15⟩ := hSw); go_simp; (try rw [if_neg (by omega)]); try with_reducible rfl)
        try simp only [Act.put, List.setIfInBounds_toArray, List.set_cons_zero, List.set_cons_succ]
        refine ttakeH 1 49 (v := ?va1) rfl (by kernel_rfl) (by kernel_rfl) (by kernel_rfl) rfl (fun _ _ _ h => h) (by rfl) ?ya1 (by assumption) ?ra1
        case ya1 => (intro W hSw; (try dsimp only at hSw); (try obtain ⟨hS0, hS1, hS2, hS3, hS4, hS5, hS6, hS7, hS8, hS9, hS10, hS11, hS12, hS13, hS14, hS15⟩ := hSw); go_simp; (try rw [if_neg (by omega)]); try with_reducible rfl)
        try simp only [Act.put, List.setIfInBounds_toArray, List.set_cons_zero, List.set_cons_succ]
        refine ttakeH 2 50 (v := ?va2) rfl (by kernel_rfl) (by kernel_rfl) (by kernel_rfl) rfl (fun _ _ _ h => h) (by rfl) ?ya2 (by assumption) ?ra2
        case ya2 => (intro W hSw; (try dsimp only at hSw); (try obtain ⟨hS0, hS1, hS2, hS3, hS4, hS5, hS6, hS7, hS8, hS9, hS10, hS11, hS12, hS13, hS14, hS15⟩ := hSw); go_simp; (try rw [if_neg (by omega)]); try with_reducible rfl)
        try simp only [Act.put, List.setIfInBounds_toArray, List.set_cons_zero, List.set_cons_succ]
        refine ttakeH 3 51 (v := ?va3) rfl (by kernel_rfl) (by kernel_rfl) (by kernel_rfl) rfl (fun _ _ _ h => h) (by rfl) ?ya3 (by assumption) ?ra3
        case ya3 => (intro W hSw; (try dsimp only at hSw); (try obtain ⟨hS0, hS1, hS2, hS3, hS4, hS5, hS6, hS7, hS8, hS9, hS10, hS11, hS12, hS13, hS14, hS15⟩ := hSw); go_simp; (try rw [if_neg (by omega)]); try with_reducible rfl)
        try simp only [Act.put, List.setIfInBounds_toArray, List.set_cons_zero, List.set_cons_succ]
        refine ttakeH 4 52 (v := ?va4) rfl (by kernel_rfl) (by kernel_rfl) (by kernel_rfl) rfl (fun _ _ _ h => h) (by rfl) ?ya4 (by assumption) ?ra4
        case ya4 => (intro W hSw; (try dsimp only at hSw); (try obtain ⟨hS0, hS1, hS2, hS3, hS4, hS5, hS6, hS7, hS8, hS9, hS10, hS11, hS12, hS13, hS14, hS15⟩ := hSw); go_simp; (try rw [if_neg (by omega)]); try with_reducible rfl)
        try simp only [Act.put, List.setIfInBounds_toArray, List.set_cons_zero, List.set_cons_succ]
        refine ttakeH 5 53 (v := ?va5) rfl (by kernel_rfl) (by kernel_rfl) (by kernel_rfl) rfl (fun _ _ _ h => h) (by rfl) ?ya5 (by assumption) ?ra5
        case ya5 => (intro W hSw; (try dsimp only at hSw); (try obtain ⟨hS0, hS1, hS2, hS3, hS4, hS5, hS6, hS7, hS8, hS9, hS10, hS11, hS12, hS13, hS14, hS15⟩ := hSw); go_simp; (try rw [if_neg (by omega)]); try with_reducible rfl)
        try simp only [Act.put, List.setIfInBounds_toArray, List.set_cons_zero, List.set_cons_succ]
        refine ttakeH 6 54 (v := ?va6) rfl (by kernel_rfl) (by kernel_rfl) (by kernel_rfl) rfl (fun _ _ _ h => h) (by rfl) ?ya6 (by assumption) ?ra6
        case ya6 => (intro W hSw; (try dsimp only at hSw); (try obtain ⟨hS0, hS1, hS2, hS3, hS4, hS5, hS6, hS7, hS8, hS9, hS10, hS11, hS12, hS13, hS14, hS15⟩ := hSw); go_simp; (try rw [if_neg (by omega)]); try with_reducible rfl)
        try simp only [Act.put, List.setIfInBounds_toArray, List.set_cons_zero, List.set_cons_succ]
        refine ttakeH 7 55 (v := ?va7) rfl (by kernel_rfl) (by kernel_rfl) (by kernel_rfl) rfl (fun _ _ _ h => h) (by rfl) ?ya7 (by assumption) ?ra7
        case ya7 => (intro W hSw; (try dsimp only at hSw); (try obtain ⟨hS0, hS1, hS2, hS3, hS4, hS5, hS6, hS7, hS8, hS9, hS10, hS11, hS12, hS13, hS14, hS15⟩ := hSw); go_simp; (try rw [if_neg (by omega)]); try with_reducible rfl)
        try simp only [Act.put, List.setIfInBounds_toArray, List.set_cons_zero, List.set_cons_succ]
        refine ttakeH 8 56 (v := ?va8) rfl (by kernel_rfl) (by kernel_rfl) (by kernel_rfl) rfl (fun _ _ _ h => h) (by rfl) ?ya8 (by assumption) ?ra8
        case ya8 => (intro W hSw; (try dsimp only at hSw); (try obtain ⟨hS0, hS1, hS2, hS3, hS4, hS5, hS6, hS7, hS8, hS9, hS10, hS11, hS12, hS13, hS14, hS15⟩ := hSw); go_simp; (try rw [if_neg (by omega)]); try with_reducible rfl)
        try simp only [Act.put, List.setIfInBounds_toArray, List.set_cons_zero, List.set_cons_succ]
        refine ttakeH 9 57 (v := ?va9) rfl (by kernel_rfl) (by kernel_rfl) (by kernel_rfl) rfl (fun _ _ _ h => h) (by rfl) ?ya9 (by assumption) ?ra9
        case ya9 => (intro W hSw; (try dsimp only at hSw); (try obtain ⟨hS0, hS1, hS2, hS3, hS4, hS5, hS6, hS7, hS8, hS9, hS10, hS11, hS12, hS13, hS14, hS15⟩ := hSw); go_simp; (try rw [if_neg (by omega)]); try with_reducible rfl)
        try simp only [Act.put, List.setIfInBounds_toArray, List.set_cons_zero, List.set_cons_succ]
        refine wpAnyH_ready (rs := [10]) (by kernel_rfl) (by simp) ?_
        refine AllReadyH.cons (o := _) rfl (fun K hK => ?_) AllReadyH.nil
        dsimp only [List.getElem_toArray, List.getElem_cons_succ, List.getElem_cons_zero]
        go_simp
        go_at_call 115
        (with_reducible refine HC.out.mono ?_)
        rintro e w1 ⟨rfl, hb1⟩
        have HB1 := Lib.hid ((below_drew2 HB.out).trans (hb1.mono (show _ ≤ wr.drew.heap.size from hsz)))
        have qx6 := tkeep hb1 x6
        have qy6 := tkeep hb1 y6
        have qd0 := tkeep hb1 d0
        have qd1 := tkeep hb1 d1
        have qd2 := tkeep hb1 d2
        have qd3 := tkeep hb1 d3
        have qd4 := tkeep hb1 d4
        have qd5 := tkeep hb1 d5
        have qd6 := tkeep hb1 d6
        have qf0 := tkeep hb1 f0
        have qf1 := tkeep hb1 f1
        have qf2 := tkeep hb1 f2
        have qf3 := tkeep hb1 f3
        have qf4 := tkeep hb1 f4
        have qf5 := tkeep hb1 f5
        have qf6 := tkeep hb1 f6
        clear hb1
        go_wp2_with fail
        refine hK.out _ _ ⟨qx6, qy6, qd0, qd1, qd2, qd3, qd4, qd5, qd6, qf0, qf1, qf2, qf3, qf4, qf5, qf6⟩ (fun hHelda0 => ?_)
        clear hK K
        try simp only [Act.put, List.setIfInBounds_toArray, List.set_cons_zero, List.set_cons_succ]
        refine ttakeH 11 59 (v := ?va11) rfl (by kernel_rfl) (by kernel_rfl) (by kernel_rfl) rfl (fun _ _ _ h => h) (by rfl) ?ya11 (by assumption) ?ra11
        case ya11 => (intro W hSw; (try dsimp only at hSw); (try obtain ⟨hS0, hS1, hS2, hS3, hS4, hS5, hS6, hS7, hS8, hS9, hS10, hS11, hS12, hS13, hS14, hS15⟩ := hSw); go_simp; (try rw [if_neg (by omega)]); try with_reducible rfl)
        try simp only [Act.put, List.setIfInBounds_toArray, List.set_cons_zero, List.set_cons_succ]
        refine wpAnyH_done (by kernel_rfl) ?_ _
        go_wp2_with fail
        go_roundw
        case rel => exact ⟨j + 1, by go_num, by omega, HN, HB1⟩
        case measure => simp [RowKit.intOf]; omega
      | false =>
        rw [hr] at HC
        have HC := Lib.hid HC
        have HE : Hid (z = false) := by
          show _ = _
          rw [← HZ.out]
          refine sameB_no (fun e => ?_)
          have hyu : y = u := by
            have h3 := HY.out
            have h4 := HU.out
            rw [e, h4] at h3
            exact (Option.some.inj h3).symm
          rw [sameB_yes hyu] at hr
          cases hr
        clear hy hu hcall hn1 hn2 e0 e1 e2 e3 e4 e5 e6 i0 i1 i2 i3 i4 i5 i6 hx1 hx2 hr
        go_wp2_with fail
        refine wp_region_held_drew (S := fun W => W.cell? ⟨w.heap.size, 6, none⟩ = some (.slice (some ⟨g, o, none⟩) n c) ∧ W.cell? ⟨w.heap.size + 1, 6, none⟩ = some (.slice (some ⟨g', o', none⟩) n c') ∧ W.cell? ⟨g, o + j * 7, none⟩ = some (.int .i64 y.k) ∧ W.cell? ⟨g, o + j * 7 + 1, none⟩ = some (.int .i64 y.v.k) ∧ W.cell? ⟨g, o + j * 7 + 2, none⟩ = some (.int .i64 y.v.n) ∧ W.cell? ⟨g, o + j * 7 + 3, none⟩ = some (.string (strB y.v.s)) ∧ W.cell? ⟨g, o + j * 7 + 4, none⟩ = some (.string (strB y.x)) ∧ W.cell? ⟨g, o + j * 7 + 5, none⟩ = some (.string (strB y.f)) ∧ W.cell? ⟨g, o + j * 7 + 6, none⟩ = some (.slice a1 n1 c1) ∧ W.cell? ⟨g', o' + j * 7, none⟩ = some (.int .i64 u.k) ∧ W.cell? ⟨g', o' + j * 7 + 1, none⟩ = some (.int .i64 u.v.k) ∧ W.cell? ⟨g', o' + j * 7 + 2, none⟩ = some (.int .i64 u.v.n) ∧ W.cell? ⟨g', o' + j * 7 + 3, none⟩ = some (.string (strB u.v.s)) ∧ W.cell? ⟨g', o' + j * 7 + 4, none⟩ = some (.string (strB u.x)) ∧ W.cell? ⟨g', o' + j * 7 + 5, none⟩ = some (.string (strB u.f)) ∧ W.cell? ⟨g', o' + j * 7 + 6, none⟩ = some (.slice a2 n2 c2)) (by kernel_rfl) ⟨x6, y6, d0, d1, d2, d3, d4, d5, d6, f0, f1, f2, f3, f4, f5, f6⟩ (fun hHeld => ?_)
        refine ttakeH 0 48 (v := ?vb0) rfl (by kernel_rfl) (by kernel_rfl) (by kernel_rfl) rfl (fun _ _ _ h => h) (by rfl) ?yb0 (by assumption) ?rb0
        case yb0 => (intro W hSw; (try dsimp only at hSw); (try obtain ⟨hS0, hS1, hS2, hS3, hS4, hS5, hS6, hS7, hS8, hS9, hS10, hS11, hS12, hS13, hS14, hS15⟩ := hSw); go_simp; (try rw [if_neg (by omega)]); try with_reducible rfl)
        try simp only [Act.put, List.setIfInBounds_toArray, List.set_cons_zero, List.set_cons_succ]
        refine ttakeH 1 49 (v := ?vb1) rfl (by kernel_rfl) (by kernel_rfl) (by kernel_rfl) rfl (fun _ _ _ h => h) (by rfl) ?yb1 (by assumption) ?rb1
        case yb1 => (intro W hSw; (try dsimp only at hSw); (try obtain ⟨hS0, hS1, hS2, hS3, hS4, hS5, hS6, hS7, hS8, hS9, hS10, hS11, hS12, hS13, hS14, hS15⟩ := hSw); go_simp; (try rw [if_neg (by omega)]); try with_reducible rfl)
        try simp only [Act.put, List.setIfInBounds_toArray, List.set_cons_zero, List.set_cons_succ]
        refine ttakeH 2 50 (v := ?vb2) rfl (by kernel_rfl) (by kernel_rfl) (by kernel_rfl) rfl (fun _ _ _ h => h) (by rfl) ?yb2 (by assumption) ?rb2
        case yb2 => (intro W hSw; (try dsimp only at hSw); (try obtain ⟨hS0, hS1, hS2, hS3, hS4, hS5, hS6, hS7, hS8, hS9, hS10, hS11, hS12, hS13, hS14, hS15⟩ := hSw); go_simp; (try rw [if_neg (by omega)]); try with_reducible rfl)
        try simp only [Act.put, List.setIfInBounds_toArray, List.set_cons_zero, List.set_cons_succ]
        refine ttakeH 3 51 (v := ?vb3) rfl (by kernel_rfl) (by kernel_rfl) (by kernel_rfl) rfl (fun _ _ _ h => h) (by rfl) ?yb3 (by assumption) ?rb3
        case yb3 => (intro W hSw; (try dsimp only at hSw); (try obtain ⟨hS0, hS1, hS2, hS3, hS4, hS5, hS6, hS7, hS8, hS9, hS10, hS11, hS12, hS13, hS14, hS15⟩ := hSw); go_simp; (try rw [if_neg (by omega)]); try with_reducible rfl)
        try simp only [Act.put, List.setIfInBounds_toArray, List.set_cons_zero, List.set_cons_succ]
        refine ttakeH 4 52 (v := ?vb4) rfl (by kernel_rfl) (by kernel_rfl) (by kernel_rfl) rfl (fun _ _ _ h => h) (by rfl) ?yb4 (by assumption) ?rb4
        case yb4 => (intro W hSw; (try dsimp only at hSw); (try obtain ⟨hS0, hS1, hS2, hS3, hS4, hS5, hS6, hS7, hS8, hS9, hS10, hS11, hS12, hS13, hS14, hS15⟩ := hSw); go_simp; (try rw [if_neg (by omega)]); try with_reducible rfl)
        try simp only [Act.put, List.setIfInBounds_toArray, List.set_cons_zero, List.set_cons_succ]
        refine ttakeH 5 53 (v := ?vb5) rfl (by kernel_rfl) (by kernel_rfl) (by kernel_rfl) rfl (fun _ _ _ h => h) (by rfl) ?yb5 (by assumption) ?rb5
        case yb5 => (intro W hSw; (try dsimp only at hSw); (try obtain ⟨hS0, hS1, hS2, hS3, hS4, hS5, hS6, hS7, hS8, hS9, hS10, hS11, hS12, hS13, hS14, hS15⟩ := hSw); go_simp; (try rw [if_neg (by omega)]); try with_reducible rfl)
        try simp only [Act.put, List.setIfInBounds_toArray, List.set_cons_zero, List.set_cons_succ]
        refine ttakeH 6 54 (v := ?vb6) rfl (by kernel_rfl) (by kernel_rfl) (by kernel_rfl) rfl (fun _ _ _ h => h) (by rfl) ?yb6 (by assumption) ?rb6
        case yb6 => (intro W hSw; (try dsimp only at hSw); (try obtain ⟨hS0, hS1, hS2, hS3, hS4, hS5, hS6, hS7, hS8, hS9, hS10, hS11, hS12, hS13, hS14, hS15⟩ := hSw); go_simp; (try rw [if_neg (by omega)]); try with_reducible rfl)
        try simp only [Act.put, List.setIfInBounds_toArray, List.set_cons_zero, List.set_cons_succ]
        refine ttakeH 7 55 (v := ?vb7) rfl (by kernel_rfl) (by kernel_rfl) (by kernel_rfl) rfl (fun _ _ _ h => h) (by rfl) ?yb7 (by assumption) ?rb7
        case yb7 => (intro W hSw; (try dsimp only at hSw); (try obtain ⟨hS0, hS1, hS2, hS3, hS4, hS5, hS6, hS7, hS8, hS9, hS10, hS11, hS12, hS13, hS14, hS15⟩ := hSw); go_simp; (try rw [if_neg (by omega)]); try with_reducible rfl)
        try simp only [Act.put, List.setIfInBounds_toArray, List.set_cons_zero, List.set_cons_succ]
        refine ttakeH 8 56 (v := ?vb8) rfl (by kernel_rfl) (by kernel_rfl) (by kernel_rfl) rfl (fun _ _ _ h => h) (by rfl) ?yb8 (by assumption) ?rb8
        case yb8 => (intro W hSw; (try dsimp only at hSw); (try obtain ⟨hS0, hS1, hS2, hS3, hS4, hS5, hS6, hS7, hS8, hS9, hS10, hS11, hS12, hS13, hS14, hS15⟩ := hSw); go_simp; (try rw [if_neg (by omega)]); try with_reducible rfl)
        try simp only [Act.put, List.setIfInBounds_toArray, List.set_cons_zero, List.set_cons_succ]
        refine ttakeH 9 57 (v := ?vb9) rfl (by kernel_rfl) (by kernel_rfl) (by kernel_rfl) rfl (fun _ _ _ h => h) (by rfl) ?yb9 (by assumption) ?rb9
        case yb9 => (intro W hSw; (try dsimp only at hSw); (try obtain ⟨hS0, hS1, hS2, hS3, hS4, hS5, hS6, hS7, hS8, hS9, hS10, hS11, hS12, hS13, hS14, hS15⟩ := hSw); go_simp; (try rw [if_neg (by omega)]); try with_reducible rfl)
        try simp only [Act.put, List.setIfInBounds_toArray, List.set_cons_zero, List.set_cons_succ]
        refine wpAnyH_ready (rs := [10]) (by kernel_rfl) (by simp) ?_
        refine AllReadyH.cons (o := _) rfl (fun K hK => ?_) AllReadyH.nil
        dsimp only [List.getElem_toArray, List.getElem_cons_succ, List.getElem_cons_zero]
        go_simp
        go_at_call 115
        (with_reducible refine HC.out.mono ?_)
        rintro e w1 ⟨rfl, hb1⟩
        have HB1 := Lib.hid ((vbelow_drew HBw.out).trans (hb1.mono (show _ ≤ wr.drew.heap.size from HBw.out.size)))
        have qx6 := tkeep hb1 x6
        have qy6 := tkeep hb1 y6
        have qd0 := tkeep hb1 d0
        have qd1 := tkeep hb1 d1
        have qd2 := tkeep hb1 d2
        have qd3 := tkeep hb1 d3
        have qd4 := tkeep hb1 d4
        have qd5 := tkeep hb1 d5
        have qd6 := tkeep hb1 d6
        have qf0 := tkeep hb1 f0
        have qf1 := tkeep hb1 f1
        have qf2 := tkeep hb1 f2
        have qf3 := tkeep hb1 f3
        have qf4 := tkeep hb1 f4
        have qf5 := tkeep hb1 f5
        have qf6 := tkeep hb1 f6
        clear hb1
        go_wp2_with fail
        refine hK.out _ _ ⟨qx6, qy6, qd0, qd1, qd2, qd3, qd4, qd5, qd6, qf0, qf1, qf2, qf3, qf4, qf5, qf6⟩ (fun hHelda0 => ?_)
        clear hK K
        try simp only [Act.put, List.setIfInBounds_toArray, List.set_cons_zero, List.set_cons_succ]
        refine ttakeH 11 59 (v := ?vb11) rfl (by kernel_rfl) (by kernel_rfl) (by kernel_rfl) rfl (fun _ _ _ h => h) (by rfl) ?yb11 (by assumption) ?rb11
        case yb11 => (intro W hSw; (try dsimp only at hSw); (try obtain ⟨hS0, hS1, hS2, hS3, hS4, hS5, hS6, hS7, hS8, hS9, hS10, hS11, hS12, hS13, hS14, hS15⟩ := hSw); go_simp; (try rw [if_neg (by omega)]); try with_reducible rfl)
        try simp only [Act.put, List.setIfInBounds_toArray, List.set_cons_zero, List.set_cons_succ]
        refine wpAnyH_done (by kernel_rfl) ?_ _
        go_wp2
        go_ret
        rw [HE.out]
        exact ⟨rfl, HB1.out⟩
    · have HE : Hid (z = true) := by
        show _ = _
        rw [← HZ.out]
        have h3 := HG.out
        rw [List.take_of_length_le (by rw [H1.out]; omega), List.take_of_length_le (by rw [H2.out]; omega)] at h3
        exact sameB_yes h3
      clear hx1 hx2
      go_wp2
      go_ret
      rw [HE.out]
      exact ⟨rfl, HBw.out⟩
theorem sameX_calls {K K' : Nat → Prop} : ∀ (d : Nat) (x : PEx) (_ : XLn x) (e : Nat) (y : PEx) (w : World) (a : Option Addr) (c : Nat) (_ : ExK K w d (.slice a x.ks.length c) x.ks) (a' : Option Addr) (c' : Nat) (_ : ExK K' w e (.slice a' y.ks.length c') y.ks), Calls Tryz.prog 115 #[exV x (.slice a x.ks.length c), exV y (.slice a' y.ks.length c')] w fun e w' => e = .returned (.bool (sameB x y)) ∧ Below w.heap.size w w' := fun d => by
  induction d with
  | zero =>
    intro x hx e y w a c h a' c' h'
    obtain ⟨k, v, xx, f, ks, lv, lx, lf, lk, _⟩ := hx
    obtain ⟨k', v', xx', f', ks'⟩ := y
    obtain ⟨_, h0⟩ := h
    have h0 : ks = [] := h0
    by_cases hall : k = k' ∧ v.k = v'.k ∧ v.n = v'.n ∧ v.s = v'.s ∧ xx = xx' ∧ f = f' ∧ ks.length = ks'.length
    · obtain ⟨rfl, hv1, hv2, hv3, rfl, rfl, hn⟩ := hall
      have hv : v = v' := by cases v; cases v'; cases hv1; cases hv2; cases hv3; rfl
      subst hv
      have := sx_step (w := w) (a := a) (a' := a') (c := c) (c' := c') (k := k) (vk := v.k) (vn := v.n) (vs := v.s) (xx := xx) (f := f) (ks := ks) (ks' := ks') rfl hn.symm lk (fun j y z hy hz => by
        rw [h0] at hy
        simp at hy)
      have e2 : sameB (PEx.mk k v xx f ks) (PEx.mk k v xx f ks') = sameB ks ks' := by
        by_cases hk : ks = ks'
        · rw [sameB_yes hk, sameB_yes (by rw [hk])]
        · rw [sameB_no hk, sameB_no (fun e => hk (by injection e))]
      rw [e2]
      show Calls Tryz.prog 115 #[_, .agg #[.int .i64 k, .int .i64 v.k, .int .i64 v.n, .string (strB v.s), .string (strB xx), .string (strB f), .slice a' ks'.length c']] w _
      rw [← hn]
      exact this
    · have e2 : sameB (PEx.mk k v xx f ks) (PEx.mk k' v' xx' f' ks') = false := sameB_no (fun e => hall (by cases e; exact ⟨rfl, rfl, rfl, rfl, rfl, rfl, rfl⟩))
      rw [e2]
      exact sx_no hall
  | succ d ih =>
    intro x hx e y w a c h a' c' h'
    obtain ⟨k, v, xx, f, ks, lv, lx, lf, lk, hks⟩ := hx
    obtain ⟨k', v', xx', f', ks'⟩ := y
    by_cases hall : k = k' ∧ v.k = v'.k ∧ v.n = v'.n ∧ v.s = v'.s ∧ xx = xx' ∧ f = f' ∧ ks.length = ks'.length
    · obtain ⟨rfl, hv1, hv2, hv3, rfl, rfl, hn⟩ := hall
      have hv : v = v' := by cases v; cases v'; cases hv1; cases hv2; cases hv3; rfl
      subst hv
      have := sx_step (w := w) (a := a) (a' := a') (c := c) (c' := c') (k := k) (vk := v.k) (vn := v.n) (vs := v.s) (xx := xx) (f := f) (ks := ks) (ks' := ks') rfl hn.symm lk (fun j y z hy hz => by
        obtain ⟨b, cb, eb, hh⟩ := h
        injection eb with e1 e3 e4
        subst e1 e4
        obtain ⟨g, o, kv, ea, _, hc, hkk⟩ := hh j y hy
        obtain ⟨a2, c2, rfl⟩ := hkk.slice
        cases e with
        | zero =>
          obtain ⟨_, h0⟩ := h'
          have h0 : ks' = [] := h0
          rw [h0] at hz
          simp at hz
        | succ e =>
          obtain ⟨b', cb', eb', hh'⟩ := h'
          injection eb' with e1' e3' e4'
          subst e1' e4'
          obtain ⟨g', o', kv', ea', _, hc', hkk'⟩ := hh' j z hz
          obtain ⟨a2', c2', rfl⟩ := hkk'.slice
          exact ⟨g, o, a2, c2, g', o', a2', c2', ea, ea', hc, hc', fun W hW => ih y (hks y (List.mem_of_getElem? hy)) e z W a2 c2 (hkk.keep (TFr.of_below (K := K) hW)) a2' c2' (hkk'.keep (TFr.of_below (K := K') hW))⟩)
      have e2 : sameB (PEx.mk k v xx f ks) (PEx.mk k v xx f ks') = sameB ks ks' := by
        by_cases hk : ks = ks'
        · rw [sameB_yes hk, sameB_yes (by rw [hk])]
        · rw [sameB_no hk, sameB_no (fun e => hk (by injection e))]
      rw [e2]
      show Calls Tryz.prog 115 #[_, .agg #[.int .i64 k, .int .i64 v.k, .int .i64 v.n, .string (strB v.s), .string (strB xx), .string (strB f), .slice a' ks'.length c']] w _
      rw [← hn]
      exact this
    · have e2 : sameB (PEx.mk k v xx f ks) (PEx.mk k' v' xx' f' ks') = false := sameB_no (fun e => hall (by cases e; exact ⟨rfl, rfl, rfl, rfl, rfl, rfl, rfl⟩))
      rw [e2]
      exact sx_no hall
end Go.Proofs.YtifacoompbngaaaGreatDoor
namespace Go.Proofs.YtifacoompbngaaaGreatDoor
open Go.RowKit Go.Lib Go.Op

/-- An item in a block of its own. -/
def IBlk (w : World) (b : Nat) (t0 t1 t2 t3 : Value) : Prop := w.heap[b]? = some (.cells #[t0, t1, t2, t3] 62 (0, 0))
theorem IBlk.new (w : World) (t0 t1 t2 t3 : Value) : IBlk (w.alloc (.cells #[t0, t1, t2, t3] 62)) w.heap.size t0 t1 t2 t3 := heap_alloc_new w _
section
variable {w : World} {a a' : Option Addr} {c c' n n' : Nat} {no no' : Bool} {m m' : Int} {x x' : List UInt8}
set_option maxHeartbeats 2000000 in
set_option maxRecDepth 100000 in
theorem si_no (h : ¬ (no = no' ∧ x = x' ∧ m = m' ∧ n = n')) :
    Calls Tryz.prog 46 #[.agg #[.bool no, .slice a n c, .string (strB x), .int .i64 m], .agg #[.bool no', .slice a' n' c', .string (strB x'), .int .i64 m']] w fun e w' => e = .returned (.bool false) ∧ Below w.heap.size w w' := by
  have H := Lib.hid h
  clear h
  go_enter Tryz.func46, Tryz.ntmps46
  go_wp2
  all_goals first
    | (go_ret; exact ⟨rfl, ((Below.refl w.heap.size w).alloc (Nat.le_refl _) _).alloc (by simp) _⟩)
    | (exfalso; have H1 := H.out; simp_all [tB_list]; omega)
    | (exfalso; have H1 := H.out; simp_all [tB_list])
end
set_option maxHeartbeats 2000000 in
set_option maxRecDepth 100000 in
theorem si_step {K K' : Nat → Prop} {w : World} {a a' : Option Addr} {c c' n : Nat} {no : Bool} {m : Int} {x : List UInt8} {ns ns' : List (List UInt8)} (h1 : ns.length = n) (h2 : ns'.length = n) (hn : n ≤ maxLen) (hr : RowK nameD K w (.slice a n c) ns) (hr' : RowK nameD K' w (.slice a' n c') ns') :
    Calls Tryz.prog 46 #[.agg #[.bool no, .slice a n c, .string (strB x), .int .i64 m], .agg #[.bool no, .slice a' n c', .string (strB x), .int .i64 m]] w fun e w' => e = .returned (.bool (sameB ns ns')) ∧ Below w.heap.size w w' := by
  obtain ⟨sx, hsx⟩ : ∃ s, strB x = s := ⟨_, rfl⟩
  rw [hsx]
  have H1 := Lib.hid h1
  have H2 := Lib.hid h2
  have HR := Lib.hid hr
  have HR' := Lib.hid hr'
  have HB0 := Lib.hid (((Below.refl w.heap.size w).alloc (Nat.le_refl _) (.cells #[.bool no, .slice a n c, .string sx, .int .i64 m] 62)).alloc (by simp) (.cells #[.bool no, .slice a' n c', .string sx, .int .i64 m] 62))
  have HX1 : Hid (IBlk ((w.alloc (.cells #[.bool no, .slice a n c, .string sx, .int .i64 m] 62)).alloc (.cells #[.bool no, .slice a' n c', .string sx, .int .i64 m] 62)) w.heap.size (.bool no) (.slice a n c) (.string sx) (.int .i64 m)) := (((Below.refl (w.alloc (.cells #[.bool no, .slice a n c, .string sx, .int .i64 m] 62)).heap.size (w.alloc (.cells #[.bool no, .slice a n c, .string sx, .int .i64 m] 62))).alloc (Nat.le_refl _) (.cells #[.bool no, .slice a' n c', .string sx, .int .i64 m] 62)).block w.heap.size (by simp)).trans (IBlk.new w (.bool no) (.slice a n c) (.string sx) (.int .i64 m))
  have HX2 : Hid (IBlk ((w.alloc (.cells #[.bool no, .slice a n c, .string sx, .int .i64 m] 62)).alloc (.cells #[.bool no, .slice a' n c', .string sx, .int .i64 m] 62)) (w.heap.size + 1) (.bool no) (.slice a' n c') (.string sx) (.int .i64 m)) := by
    have h9 := IBlk.new (w.alloc (.cells #[.bool no, .slice a n c, .string sx, .int .i64 m] 62)) (.bool no) (.slice a' n c') (.string sx) (.int .i64 m)
    have e9 : (w.alloc (.cells #[.bool no, .slice a n c, .string sx, .int .i64 m] 62)).heap.size = w.heap.size + 1 := by simp
    rw [e9] at h9
    exact h9
  obtain ⟨z, hz⟩ : ∃ z, sameB ns ns' = z := ⟨_, rfl⟩
  rw [hz]
  have HZ := Lib.hid hz
  unfold maxLen at hn
  clear hz hsx h1 h2 hr hr'
  go_enter Tryz.func46, Tryz.ntmps46
  go_wp2
  go_loopw [5] (fun i wr => ∃ (j : Nat), i = .int .i64 j ∧ j ≤ n ∧ Hid (ns.take j = ns'.take j) ∧ Hid (Below (w.heap.size + 2) ((w.alloc (.cells #[.bool no, .slice a n c, .string sx, .int .i64 m] 62)).alloc (.cells #[.bool no, .slice a' n c', .string sx, .int .i64 m] 62)) wr)) (fun i _ => n - (RowKit.intOf i).toNat)
  case atStart => exact ⟨0, rfl, Nat.zero_le _, rfl, Below.refl _ _⟩
  case round =>
    obtain ⟨j, rfl, hj, HG, HB⟩ := hrel
    have hx1 := (HB.out.block w.heap.size (by omega)).trans HX1.out
    have hx2 := (HB.out.block (w.heap.size + 1) (by omega)).trans HX2.out
    have x1 := tcell_of_blk hx1 (k := 1) rfl
    have y1 := tcell_of_blk hx2 (k := 1) rfl
    have HBw := Lib.hid (HB0.out.trans (HB.out.mono (by omega)))
    by_cases hlt : j < n
    · obtain ⟨y, hy⟩ : ∃ y, ns[j]? = some y := ⟨_, List.getElem?_eq_getElem (by rw [H1.out]; exact hlt)⟩
      obtain ⟨u, hu⟩ : ∃ u, ns'[j]? = some u := ⟨_, List.getElem?_eq_getElem (by rw [H2.out]; exact hlt)⟩
      obtain ⟨g, o, rfl, e0⟩ := HR.out.nameAt3 hy
      obtain ⟨g', o', rfl, i0⟩ := HR'.out.nameAt3 hu
      have d0 := tkeep HBw.out e0
      have f0 := tkeep HBw.out i0
      have HY := Lib.hid hy
      have HU := Lib.hid hu
      have hk0 : (0 : Int) ≤ (j : Int) := by omega
      have hk1 : (j : Int) < (n : Int) := by omega
      by_cases hr : y = u
      · subst hr
        have HN : Hid (ns.take (j + 1) = ns'.take (j + 1)) := by
          show _ = _
          rw [List.take_add_one, List.take_add_one, HY.out, HU.out, HG.out]
        clear hy hu e0 i0 hx1 hx2
        go_wp2_with fail
        go_quiet (fail)
        have HB1 : Hid (Below (w.heap.size + 2) ((w.alloc (.cells #[.bool no, .slice (some ⟨g, o, none⟩) n c, .string sx, .int .i64 m] 62)).alloc (.cells #[.bool no, .slice (some ⟨g', o', none⟩) n c', .string sx, .int .i64 m] 62)) (wr.drewN nq)) := ⟨HB.out.os, HB.out.tape, HB.out.output, HB.out.size, HB.out.block⟩
        go_wp2_with fail
        go_roundw
        case rel => exact ⟨j + 1, by go_num, by omega, HN, HB1⟩
        case measure => simp [RowKit.intOf]; omega
      · have HE : Hid (z = false) := by
          show _ = _
          rw [← HZ.out]
          refine sameB_no (fun e => hr ?_)
          have h3 := HY.out
          have h4 := HU.out
          rw [e, h4] at h3
          exact (Option.some.inj h3).symm
        have t0 : ((strB y).toList == (strB u).toList) = false := by simp [tB_list, hr]
        clear hy hu e0 i0 hx1 hx2 hr
        go_wp2_with fail
        go_quiet (fail)
        have HB1 : Hid (Below w.heap.size w (wr.drewN nq)) := vbelow_drewN HBw.out _
        go_wp2
        go_ret
        rw [HE.out]
        exact ⟨rfl, HB1.out⟩
    · have HE : Hid (z = true) := by
        show _ = _
        rw [← HZ.out]
        have h3 := HG.out
        rw [List.take_of_length_le (by rw [H1.out]; omega), List.take_of_length_le (by rw [H2.out]; omega)] at h3
        exact sameB_yes h3
      clear hx1 hx2
      go_wp2
      go_ret
      rw [HE.out]
      exact ⟨rfl, HBw.out⟩
theorem sameI_calls {K K' : Nat → Prop} {w : World} {a a' : Option Addr} {c c' : Nat} (i j : PIt) (hr : RowK nameD K w (.slice a i.ns.length c) i.ns) (hr' : RowK nameD K' w (.slice a' j.ns.length c') j.ns) (hl : i.ns.length ≤ maxLen) :
    Calls Tryz.prog 46 #[.agg #[.bool i.no, .slice a i.ns.length c, .string (strB i.x), .int .i64 i.mode], .agg #[.bool j.no, .slice a' j.ns.length c', .string (strB j.x), .int .i64 j.mode]] w fun e w' => e = .returned (.bool (sameB i j)) ∧ Below w.heap.size w w' := by
  obtain ⟨no, ns, x, m⟩ := i
  obtain ⟨no', ns', x', m'⟩ := j
  dsimp only at hr hr' hl ⊢
  by_cases hall : no = no' ∧ x = x' ∧ m = m' ∧ ns.length = ns'.length
  · obtain ⟨rfl, rfl, rfl, hn⟩ := hall
    have e2 : sameB (PIt.mk no ns x m) (PIt.mk no ns' x m) = sameB ns ns' := by
      by_cases hk : ns = ns'
      · rw [sameB_yes hk, sameB_yes (by rw [hk])]
      · rw [sameB_no hk, sameB_no (fun e => hk (by injection e))]
    rw [e2, ← hn]
    rw [← hn] at hr'
    exact si_step rfl hn.symm hl hr hr'
  · have e2 : sameB (PIt.mk no ns x m) (PIt.mk no' ns' x' m') = false := sameB_no (fun e => hall (by cases e; exact ⟨rfl, rfl, rfl, rfl⟩))
    rw [e2]
    exact si_no hall
end Go.Proofs.YtifacoompbngaaaGreatDoor
