/- Queries: the document's Same. -/
import Derived.Test.YtifacoompbngaaaGreatDoorMI
namespace Go.Proofs.YtifacoompbngaaaGreatDoor
open Go.RowKit Go.Lib Go.Op

def QBlk (w : World) (b : Nat) (t0 t1 t2 t3 t4 : Value) : Prop := w.heap[b]? = some (.cells #[t0, t1, t2, t3, t4] 26 (0, 0))
theorem QBlk.new (w : World) (t0 t1 t2 t3 t4 : Value) : QBlk (w.alloc (.cells #[t0, t1, t2, t3, t4] 26)) w.heap.size t0 t1 t2 t3 t4 := heap_alloc_new w _
/-- How long what is compared may be. -/
def QLs (p : PQu) : Prop := (∀ i ∈ p.its, i.ns.length ≤ maxLen) ∧ ∀ x ∈ p.prs, XLn x.l ∧ XLn x.r
section
variable {w : World} {a b a' b' : Option Addr} {q c r d q' c' r' d' : Nat} {wi wi' pk pk' : Int} {by_ by_' : List UInt8}
set_option maxHeartbeats 4000000 in
set_option maxRecDepth 100000 in
theorem sq_no (h : ¬ (q = q' ∧ r = r' ∧ wi = wi' ∧ by_ = by_' ∧ pk = pk')) :
    Calls Tryz.prog 18 #[.agg #[.slice a q c, .slice b r d, .int .i64 wi, .string (strB by_), .int .i64 pk], .agg #[.slice a' q' c', .slice b' r' d', .int .i64 wi', .string (strB by_'), .int .i64 pk']] w fun e w' => e = .returned (.bool false) ∧ Below w.heap.size w w' := by
  have H := Lib.hid h
  clear h
  go_enter Tryz.func18, Tryz.ntmps18
  go_wp2
  all_goals first
    | (go_ret; exact ⟨rfl, ((Below.refl w.heap.size w).alloc (Nat.le_refl _) _).alloc (by simp) _⟩)
    | (exfalso; have H1 := H.out; simp_all [tB_list]; omega)
    | (exfalso; have H1 := H.out; simp_all [tB_list])
end
set_option maxHeartbeats 4000000 in
set_option maxRecDepth 100000 in
theorem sq_step {K K' : Nat → Prop} {w : World} {a b a' b' : Option Addr} {q c r d c' d' : Nat} {wi pk : Int} {by_ : List UInt8} {its its' : List PIt} {prs prs' : List PPr} (hq : QuAt K w a q c b r d ⟨its, prs, wi, by_, pk⟩) (hq' : QuAt K' w a' q c' b' r d' ⟨its', prs', wi, by_, pk⟩) (h1 : its.length = q) (h2 : its'.length = q) (h3 : prs.length = r) (h4 : prs'.length = r) (lq : q ≤ maxLen) (lr : r ≤ maxLen) (hl : QLs ⟨its, prs, wi, by_, pk⟩) :
    Calls Tryz.prog 18 #[.agg #[.slice a q c, .slice b r d, .int .i64 wi, .string (strB by_), .int .i64 pk], .agg #[.slice a' q c', .slice b' r d', .int .i64 wi, .string (strB by_), .int .i64 pk]] w fun e w' => e = .returned (.bool (sameB (PQu.mk its prs wi by_ pk) (PQu.mk its' prs' wi by_ pk))) ∧ Below w.heap.size w w' := by
  obtain ⟨z, hz⟩ : ∃ z, sameB (PQu.mk its prs wi by_ pk) (PQu.mk its' prs' wi by_ pk) = z := ⟨_, rfl⟩
  rw [hz]
  have HZ := Lib.hid hz
  have HQ : Hid (RowK itemD K w (.slice a q c) its ∧ RowK predD K w (.slice b r d) prs) := hq
  have HQ' : Hid (RowK itemD K' w (.slice a' q c') its' ∧ RowK predD K' w (.slice b' r d') prs') := hq'
  have HL : Hid ((∀ i ∈ its, i.ns.length ≤ maxLen) ∧ ∀ x ∈ prs, XLn x.l ∧ XLn x.r) := hl
  obtain ⟨sb, hsb⟩ : ∃ s, strB by_ = s := ⟨_, rfl⟩
  rw [hsb]
  have H1 := Lib.hid h1
  have H2 := Lib.hid h2
  have H3 := Lib.hid h3
  have H4 := Lib.hid h4
  have HB0 := Lib.hid (((Below.refl w.heap.size w).alloc (Nat.le_refl _) (.cells #[.slice a q c, .slice b r d, .int .i64 wi, .string sb, .int .i64 pk] 26)).alloc (by simp) (.cells #[.slice a' q c', .slice b' r d', .int .i64 wi, .string sb, .int .i64 pk] 26))
  have HX1 : Hid (QBlk ((w.alloc (.cells #[.slice a q c, .slice b r d, .int .i64 wi, .string sb, .int .i64 pk] 26)).alloc (.cells #[.slice a' q c', .slice b' r d', .int .i64 wi, .string sb, .int .i64 pk] 26)) w.heap.size (.slice a q c) (.slice b r d) (.int .i64 wi) (.string sb) (.int .i64 pk)) := (((Below.refl (w.alloc (.cells #[.slice a q c, .slice b r d, .int .i64 wi, .string sb, .int .i64 pk] 26)).heap.size (w.alloc (.cells #[.slice a q c, .slice b r d, .int .i64 wi, .string sb, .int .i64 pk] 26))).alloc (Nat.le_refl _) (.cells #[.slice a' q c', .slice b' r d', .int .i64 wi, .string sb, .int .i64 pk] 26)).block w.heap.size (by simp)).trans (QBlk.new w (.slice a q c) (.slice b r d) (.int .i64 wi) (.string sb) (.int .i64 pk))
  have HX2 : Hid (QBlk ((w.alloc (.cells #[.slice a q c, .slice b r d, .int .i64 wi, .string sb, .int .i64 pk] 26)).alloc (.cells #[.slice a' q c', .slice b' r d', .int .i64 wi, .string sb, .int .i64 pk] 26)) (w.heap.size + 1) (.slice a' q c') (.slice b' r d') (.int .i64 wi) (.string sb) (.int .i64 pk)) := by
    have h9 := QBlk.new (w.alloc (.cells #[.slice a q c, .slice b r d, .int .i64 wi, .string sb, .int .i64 pk] 26)) (.slice a' q c') (.slice b' r d') (.int .i64 wi) (.string sb) (.int .i64 pk)
    have e9 : (w.alloc (.cells #[.slice a q c, .slice b r d, .int .i64 wi, .string sb, .int .i64 pk] 26)).heap.size = w.heap.size + 1 := by simp
    rw [e9] at h9
    exact h9
  unfold maxLen at lq lr
  clear hz hsb h1 h2 h3 h4 hq hq' hl
  go_enter Tryz.func18, Tryz.ntmps18
  go_wp2
  go_loopw [5] (fun i wr => ∃ (j : Nat), i = .int .i64 j ∧ j ≤ q ∧ Hid (its.take j = its'.take j) ∧ Hid (Below (w.heap.size + 2) ((w.alloc (.cells #[.slice a q c, .slice b r d, .int .i64 wi, .string sb, .int .i64 pk] 26)).alloc (.cells #[.slice a' q c', .slice b' r d', .int .i64 wi, .string sb, .int .i64 pk] 26)) wr)) (fun i _ => q - (RowKit.intOf i).toNat)
  case atStart => exact ⟨0, rfl, Nat.zero_le _, rfl, Below.refl _ _⟩
  case round =>
    obtain ⟨j, rfl, hj, HG, HB⟩ := hrel
    have hx1 := (HB.out.block w.heap.size (by omega)).trans HX1.out
    have hx2 := (HB.out.block (w.heap.size + 1) (by omega)).trans HX2.out
    have x0 := tcell_of_blk hx1 (k := 0) rfl
    have y0 := tcell_of_blk hx2 (k := 0) rfl
    have HBw := Lib.hid (HB0.out.trans (HB.out.mono (by omega)))
    have hsz : w.heap.size + 2 ≤ wr.heap.size := by
      have := HB.out.size
      simpa using this
    by_cases hlt : j < q
    · obtain ⟨y, hy⟩ : ∃ y, its[j]? = some y := ⟨_, List.getElem?_eq_getElem (by rw [H1.out]; exact hlt)⟩
      obtain ⟨u, hu⟩ : ∃ u, its'[j]? = some u := ⟨_, List.getElem?_eq_getElem (by rw [H2.out]; exact hlt)⟩
      obtain ⟨g, o, a1, c1, rfl, e0, e1, e2, e3, hk1⟩ := HQ.out.1.itemAt hy
      obtain ⟨g', o', a2, c2, rfl, i0, i1, i2, i3, hk2⟩ := HQ'.out.1.itemAt hu
      have HC := sameI_calls (w := wr.drew) y u (hk1.keep (TFr.of_below (K := K) (vbelow_drew HBw.out))) (hk2.keep (TFr.of_below (K := K') (vbelow_drew HBw.out))) (HL.out.1 y (List.mem_of_getElem? hy))
      obtain ⟨n1, hn1⟩ : ∃ n1, y.ns.length = n1 := ⟨_, rfl⟩
      obtain ⟨n2, hn2⟩ : ∃ n2, u.ns.length = n2 := ⟨_, rfl⟩
      rw [hn1] at e1
      rw [hn2] at i1
      rw [hn1, hn2] at HC
      have x0 : wr.drew.cell? _ = _ := x0
      have y0 : wr.drew.cell? _ = _ := y0
      have d0 : wr.drew.cell? _ = _ := tkeep HBw.out e0
      have f0 : wr.drew.cell? _ = _ := tkeep HBw.out i0
      have d1 : wr.drew.cell? _ = _ := tkeep HBw.out e1
      have f1 : wr.drew.cell? _ = _ := tkeep HBw.out i1
      have d2 : wr.drew.cell? _ = _ := tkeep HBw.out e2
      have f2 : wr.drew.cell? _ = _ := tkeep HBw.out i2
      have d3 : wr.drew.cell? _ = _ := tkeep HBw.out e3
      have f3 : wr.drew.cell? _ = _ := tkeep HBw.out i3
      have HY := Lib.hid hy
      have HU := Lib.hid hu
      cases hr : sameB y u with
      | true =>
        rw [hr] at HC
        have HC := Lib.hid HC
        have HN : Hid (its.take (j + 1) = its'.take (j + 1)) := by
          show _ = _
          have hyu : y = u := sameB_of hr
          rw [List.take_add_one, List.take_add_one, HY.out, HU.out, HG.out, hyu]
        clear hy hu hn1 hn2 hk1 hk2 e0 e1 e2 e3 i0 i1 i2 i3 hx1 hx2 hr
        go_wp2_with fail
        refine wp_region_held_drew (S := fun W => W.cell? ⟨w.heap.size, 0, none⟩ = some (.slice (some ⟨g, o, none⟩) q c) ∧ W.cell? ⟨w.heap.size + 1, 0, none⟩ = some (.slice (some ⟨g', o', none⟩) q c') ∧ W.cell? ⟨g, o + j * 4, none⟩ = some (.bool y.no) ∧ W.cell? ⟨g, o + j * 4 + 1, none⟩ = some (.slice a1 n1 c1) ∧ W.cell? ⟨g, o + j * 4 + 2, none⟩ = some (.string (strB y.x)) ∧ W.cell? ⟨g, o + j * 4 + 3, none⟩ = some (.int .i64 y.mode) ∧ W.cell? ⟨g', o' + j * 4, none⟩ = some (.bool u.no) ∧ W.cell? ⟨g', o' + j * 4 + 1, none⟩ = some (.slice a2 n2 c2) ∧ W.cell? ⟨g', o' + j * 4 + 2, none⟩ = some (.string (strB u.x)) ∧ W.cell? ⟨g', o' + j * 4 + 3, none⟩ = some (.int .i64 u.mode)) (by kernel_rfl) ⟨x0, y0, d0, d1, d2, d3, f0, f1, f2, f3⟩ (fun hHeld => ?_)
        refine ttakeH 0 51 (v := ?vat0) rfl (by kernel_rfl) (by kernel_rfl) (by kernel_rfl) rfl (fun _ _ _ h => h) (by rfl) ?yat0 (by assumption) ?rat0
        case yat0 => (intro W hSw; (try dsimp only at hSw); (try obtain ⟨hS0, hS1, hS2, hS3, hS4, hS5, hS6, hS7, hS8, hS9⟩ := hSw); go_simp; (try rw [if_neg (by omega)]); try with_reducible rfl)
        try simp only [Act.put, List.setIfInBounds_toArray, List.set_cons_zero, List.set_cons_succ]
        refine ttakeH 1 52 (v := ?vat1) rfl (by kernel_rfl) (by kernel_rfl) (by kernel_rfl) rfl (fun _ _ _ h => h) (by rfl) ?yat1 (by assumption) ?rat1
        case yat1 => (intro W hSw; (try dsimp only at hSw); (try obtain ⟨hS0, hS1, hS2, hS3, hS4, hS5, hS6, hS7, hS8, hS9⟩ := hSw); go_simp; (try rw [if_neg (by omega)]); try with_reducible rfl)
        try simp only [Act.put, List.setIfInBounds_toArray, List.set_cons_zero, List.set_cons_succ]
        refine ttakeH 2 53 (v := ?vat2) rfl (by kernel_rfl) (by kernel_rfl) (by kernel_rfl) rfl (fun _ _ _ h => h) (by rfl) ?yat2 (by assumption) ?rat2
        case yat2 => (intro W hSw; (try dsimp only at hSw); (try obtain ⟨hS0, hS1, hS2, hS3, hS4, hS5, hS6, hS7, hS8, hS9⟩ := hSw); go_simp; (try rw [if_neg (by omega)]); try with_reducible rfl)
        try simp only [Act.put, List.setIfInBounds_toArray, List.set_cons_zero, List.set_cons_succ]
        refine ttakeH 3 54 (v := ?vat3) rfl (by kernel_rfl) (by kernel_rfl) (by kernel_rfl) rfl (fun _ _ _ h => h) (by rfl) ?yat3 (by assumption) ?rat3
        case yat3 => (intro W hSw; (try dsimp only at hSw); (try obtain ⟨hS0, hS1, hS2, hS3, hS4, hS5, hS6, hS7, hS8, hS9⟩ := hSw); go_simp; (try rw [if_neg (by omega)]); try with_reducible rfl)
        try simp only [Act.put, List.setIfInBounds_toArray, List.set_cons_zero, List.set_cons_succ]
        refine ttakeH 4 55 (v := ?vat4) rfl (by kernel_rfl) (by kernel_rfl) (by kernel_rfl) rfl (fun _ _ _ h => h) (by rfl) ?yat4 (by assumption) ?rat4
        case yat4 => (intro W hSw; (try dsimp only at hSw); (try obtain ⟨hS0, hS1, hS2, hS3, hS4, hS5, hS6, hS7, hS8, hS9⟩ := hSw); go_simp; (try rw [if_neg (by omega)]); try with_reducible rfl)
        try simp only [Act.put, List.setIfInBounds_toArray, List.set_cons_zero, List.set_cons_succ]
        refine ttakeH 5 56 (v := ?vat5) rfl (by kernel_rfl) (by kernel_rfl) (by kernel_rfl) rfl (fun _ _ _ h => h) (by rfl) ?yat5 (by assumption) ?rat5
        case yat5 => (intro W hSw; (try dsimp only at hSw); (try obtain ⟨hS0, hS1, hS2, hS3, hS4, hS5, hS6, hS7, hS8, hS9⟩ := hSw); go_simp; (try rw [if_neg (by omega)]); try with_reducible rfl)
        try simp only [Act.put, List.setIfInBounds_toArray, List.set_cons_zero, List.set_cons_succ]
        refine ttakeH 6 57 (v := ?vat6) rfl (by kernel_rfl) (by kernel_rfl) (by kernel_rfl) rfl (fun _ _ _ h => h) (by rfl) ?yat6 (by assumption) ?rat6
        case yat6 => (intro W hSw; (try dsimp only at hSw); (try obtain ⟨hS0, hS1, hS2, hS3, hS4, hS5, hS6, hS7, hS8, hS9⟩ := hSw); go_simp; (try rw [if_neg (by omega)]); try with_reducible rfl)
        try simp only [Act.put, List.setIfInBounds_toArray, List.set_cons_zero, List.set_cons_succ]
        refine ttakeH 7 58 (v := ?vat7) rfl (by kernel_rfl) (by kernel_rfl) (by kernel_rfl) rfl (fun _ _ _ h => h) (by rfl) ?yat7 (by assumption) ?rat7
        case yat7 => (intro W hSw; (try dsimp only at hSw); (try obtain ⟨hS0, hS1, hS2, hS3, hS4, hS5, hS6, hS7, hS8, hS9⟩ := hSw); go_simp; (try rw [if_neg (by omega)]); try with_reducible rfl)
        try simp only [Act.put, List.setIfInBounds_toArray, List.set_cons_zero, List.set_cons_succ]
        refine ttakeH 8 59 (v := ?vat8) rfl (by kernel_rfl) (by kernel_rfl) (by kernel_rfl) rfl (fun _ _ _ h => h) (by rfl) ?yat8 (by assumption) ?rat8
        case yat8 => (intro W hSw; (try dsimp only at hSw); (try obtain ⟨hS0, hS1, hS2, hS3, hS4, hS5, hS6, hS7, hS8, hS9⟩ := hSw); go_simp; (try rw [if_neg (by omega)]); try with_reducible rfl)
        try simp only [Act.put, List.setIfInBounds_toArray, List.set_cons_zero, List.set_cons_succ]
        refine ttakeH 9 60 (v := ?vat9) rfl (by kernel_rfl) (by kernel_rfl) (by kernel_rfl) rfl (fun _ _ _ h => h) (by rfl) ?yat9 (by assumption) ?rat9
        case yat9 => (intro W hSw; (try dsimp only at hSw); (try obtain ⟨hS0, hS1, hS2, hS3, hS4, hS5, hS6, hS7, hS8, hS9⟩ := hSw); go_simp; (try rw [if_neg (by omega)]); try with_reducible rfl)
        try simp only [Act.put, List.setIfInBounds_toArray, List.set_cons_zero, List.set_cons_succ]
        refine wpAnyH_ready (rs := [10]) (by kernel_rfl) (by simp) ?_
        refine AllReadyH.cons (o := _) rfl (fun K hK => ?_) AllReadyH.nil
        dsimp only [List.getElem_toArray, List.getElem_cons_succ, List.getElem_cons_zero]
        go_simp
        go_at_call 46
        (with_reducible refine HC.out.mono ?_)
        rintro e w1 ⟨rfl, hb1⟩
        have HB1 := Lib.hid ((below_drew2 HB.out).trans (hb1.mono (show _ ≤ wr.drew.heap.size from hsz)))
        have qx0 := tkeep hb1 x0
        have qy0 := tkeep hb1 y0
        have qd0 := tkeep hb1 d0
        have qd1 := tkeep hb1 d1
        have qd2 := tkeep hb1 d2
        have qd3 := tkeep hb1 d3
        have qf0 := tkeep hb1 f0
        have qf1 := tkeep hb1 f1
        have qf2 := tkeep hb1 f2
        have qf3 := tkeep hb1 f3
        clear hb1
        go_wp2_with fail
        refine hK.out _ _ ⟨qx0, qy0, qd0, qd1, qd2, qd3, qf0, qf1, qf2, qf3⟩ (fun hHelda0 => ?_)
        clear hK K
        try simp only [Act.put, List.setIfInBounds_toArray, List.set_cons_zero, List.set_cons_succ]
        refine ttakeH 11 62 (v := ?vat11) rfl (by kernel_rfl) (by kernel_rfl) (by kernel_rfl) rfl (fun _ _ _ h => h) (by rfl) ?yat11 (by assumption) ?rat11
        case yat11 => (intro W hSw; (try dsimp only at hSw); (try obtain ⟨hS0, hS1, hS2, hS3, hS4, hS5, hS6, hS7, hS8, hS9⟩ := hSw); go_simp; (try rw [if_neg (by omega)]); try with_reducible rfl)
        try simp only [Act.put, List.setIfInBounds_toArray, List.set_cons_zero, List.set_cons_succ]
        refine wpAnyH_done (by kernel_rfl) ?_ _
        go_wp2_with fail
        go_roundw
        case rel => exact ⟨j + 1, by go_num, by omega, HN, HB1⟩
        case measure => simp [RowKit.intOf]; omega
      | false =>
        rw [hr] at HC
        have HC := Lib.hid HC
        have HE : Hid (z = false) := by
          show _ = _
          rw [← HZ.out]
          refine sameB_no (fun e => ?_)
          injection e with e1 e2
          have hyu : y = u := by
            have h3 := HY.out
            have h4 := HU.out
            rw [e1, h4] at h3
            exact (Option.some.inj h3).symm
          rw [sameB_yes hyu] at hr
          cases hr
        clear hy hu hn1 hn2 hk1 hk2 e0 e1 e2 e3 i0 i1 i2 i3 hx1 hx2 hr
        go_wp2_with fail
        refine wp_region_held_drew (S := fun W => W.cell? ⟨w.heap.size, 0, none⟩ = some (.slice (some ⟨g, o, none⟩) q c) ∧ W.cell? ⟨w.heap.size + 1, 0, none⟩ = some (.slice (some ⟨g', o', none⟩) q c') ∧ W.cell? ⟨g, o + j * 4, none⟩ = some (.bool y.no) ∧ W.cell? ⟨g, o + j * 4 + 1, none⟩ = some (.slice a1 n1 c1) ∧ W.cell? ⟨g, o + j * 4 + 2, none⟩ = some (.string (strB y.x)) ∧ W.cell? ⟨g, o + j * 4 + 3, none⟩ = some (.int .i64 y.mode) ∧ W.cell? ⟨g', o' + j * 4, none⟩ = some (.bool u.no) ∧ W.cell? ⟨g', o' + j * 4 + 1, none⟩ = some (.slice a2 n2 c2) ∧ W.cell? ⟨g', o' + j * 4 + 2, none⟩ = some (.string (strB u.x)) ∧ W.cell? ⟨g', o' + j * 4 + 3, none⟩ = some (.int .i64 u.mode)) (by kernel_rfl) ⟨x0, y0, d0, d1, d2, d3, f0, f1, f2, f3⟩ (fun hHeld => ?_)
        refine ttakeH 0 51 (v := ?vaf0) rfl (by kernel_rfl) (by kernel_rfl) (by kernel_rfl) rfl (fun _ _ _ h => h) (by rfl) ?yaf0 (by assumption) ?raf0
        case yaf0 => (intro W hSw; (try dsimp only at hSw); (try obtain ⟨hS0, hS1, hS2, hS3, hS4, hS5, hS6, hS7, hS8, hS9⟩ := hSw); go_simp; (try rw [if_neg (by omega)]); try with_reducible rfl)
        try simp only [Act.put, List.setIfInBounds_toArray, List.set_cons_zero, List.set_cons_succ]
        refine ttakeH 1 52 (v := ?vaf1) rfl (by kernel_rfl) (by kernel_rfl) (by kernel_rfl) rfl (fun _ _ _ h => h) (by rfl) ?yaf1 (by assumption) ?raf1
        case yaf1 => (intro W hSw; (try dsimp only at hSw); (try obtain ⟨hS0, hS1, hS2, hS3, hS4, hS5, hS6, hS7, hS8, hS9⟩ := hSw); go_simp; (try rw [if_neg (by omega)]); try with_reducible rfl)
        try simp only [Act.put, List.setIfInBounds_toArray, List.set_cons_zero, List.set_cons_succ]
        refine ttakeH 2 53 (v := ?vaf2) rfl (by kernel_rfl) (by kernel_rfl) (by kernel_rfl) rfl (fun _ _ _ h => h) (by rfl) ?yaf2 (by assumption) ?raf2
        case yaf2 => (intro W hSw; (try dsimp only at hSw); (try obtain ⟨hS0, hS1, hS2, hS3, hS4, hS5, hS6, hS7, hS8, hS9⟩ := hSw); go_simp; (try rw [if_neg (by omega)]); try with_reducible rfl)
        try simp only [Act.put, List.setIfInBounds_toArray, List.set_cons_zero, List.set_cons_succ]
        refine ttakeH 3 54 (v := ?vaf3) rfl (by kernel_rfl) (by kernel_rfl) (by kernel_rfl) rfl (fun _ _ _ h => h) (by rfl) ?yaf3 (by assumption) ?raf3
        case yaf3 => (intro W hSw; (try dsimp only at hSw); (try obtain ⟨hS0, hS1, hS2, hS3, hS4, hS5, hS6, hS7, hS8, hS9⟩ := hSw); go_simp; (try rw [if_neg (by omega)]); try with_reducible rfl)
        try simp only [Act.put, List.setIfInBounds_toArray, List.set_cons_zero, List.set_cons_succ]
        refine ttakeH 4 55 (v := ?vaf4) rfl (by kernel_rfl) (by kernel_rfl) (by kernel_rfl) rfl (fun _ _ _ h => h) (by rfl) ?yaf4 (by assumption) ?raf4
        case yaf4 => (intro W hSw; (try dsimp only at hSw); (try obtain ⟨hS0, hS1, hS2, hS3, hS4, hS5, hS6, hS7, hS8, hS9⟩ := hSw); go_simp; (try rw [if_neg (by omega)]); try with_reducible rfl)
        try simp only [Act.put, List.setIfInBounds_toArray, List.set_cons_zero, List.set_cons_succ]
        refine ttakeH 5 56 (v := ?vaf5) rfl (by kernel_rfl) (by kernel_rfl) (by kernel_rfl) rfl (fun _ _ _ h => h) (by rfl) ?yaf5 (by assumption) ?raf5
        case yaf5 => (intro W hSw; (try dsimp only at hSw); (try obtain ⟨hS0, hS1, hS2, hS3, hS4, hS5, hS6, hS7, hS8, hS9⟩ := hSw); go_simp; (try rw [if_neg (by omega)]); try with_reducible rfl)
        try simp only [Act.put, List.setIfInBounds_toArray, List.set_cons_zero, List.set_cons_succ]
        refine ttakeH 6 57 (v := ?vaf6) rfl (by kernel_rfl) (by kernel_rfl) (by kernel_rfl) rfl (fun _ _ _ h => h) (by rfl) ?yaf6 (by assumption) ?raf6
        case yaf6 => (intro W hSw; (try dsimp only at hSw); (try obtain ⟨hS0, hS1, hS2, hS3, hS4, hS5, hS6, hS7, hS8, hS9⟩ := hSw); go_simp; (try rw [if_neg (by omega)]); try with_reducible rfl)
        try simp only [Act.put, List.setIfInBounds_toArray, List.set_cons_zero, List.set_cons_succ]
        refine ttakeH 7 58 (v := ?vaf7) rfl (by kernel_rfl) (by kernel_rfl) (by kernel_rfl) rfl (fun _ _ _ h => h) (by rfl) ?yaf7 (by assumption) ?raf7
        case yaf7 => (intro W hSw; (try dsimp only at hSw); (try obtain ⟨hS0, hS1, hS2, hS3, hS4, hS5, hS6, hS7, hS8, hS9⟩ := hSw); go_simp; (try rw [if_neg (by omega)]); try with_reducible rfl)
        try simp only [Act.put, List.setIfInBounds_toArray, List.set_cons_zero, List.set_cons_succ]
        refine ttakeH 8 59 (v := ?vaf8) rfl (by kernel_rfl) (by kernel_rfl) (by kernel_rfl) rfl (fun _ _ _ h => h) (by rfl) ?yaf8 (by assumption) ?raf8
        case yaf8 => (intro W hSw; (try dsimp only at hSw); (try obtain ⟨hS0, hS1, hS2, hS3, hS4, hS5, hS6, hS7, hS8, hS9⟩ := hSw); go_simp; (try rw [if_neg (by omega)]); try with_reducible rfl)
        try simp only [Act.put, List.setIfInBounds_toArray, List.set_cons_zero, List.set_cons_succ]
        refine ttakeH 9 60 (v := ?vaf9) rfl (by kernel_rfl) (by kernel_rfl) (by kernel_rfl) rfl (fun _ _ _ h => h) (by rfl) ?yaf9 (by assumption) ?raf9
        case yaf9 => (intro W hSw; (try dsimp only at hSw); (try obtain ⟨hS0, hS1, hS2, hS3, hS4, hS5, hS6, hS7, hS8, hS9⟩ := hSw); go_simp; (try rw [if_neg (by omega)]); try with_reducible rfl)
        try simp only [Act.put, List.setIfInBounds_toArray, List.set_cons_zero, List.set_cons_succ]
        refine wpAnyH_ready (rs := [10]) (by kernel_rfl) (by simp) ?_
        refine AllReadyH.cons (o := _) rfl (fun K hK => ?_) AllReadyH.nil
        dsimp only [List.getElem_toArray, List.getElem_cons_succ, List.getElem_cons_zero]
        go_simp
        go_at_call 46
        (with_reducible refine HC.out.mono ?_)
        rintro e w1 ⟨rfl, hb1⟩
        have HB1 := Lib.hid ((vbelow_drew HBw.out).trans (hb1.mono (show _ ≤ wr.drew.heap.size from HBw.out.size)))
        have qx0 := tkeep hb1 x0
        have qy0 := tkeep hb1 y0
        have qd0 := tkeep hb1 d0
        have qd1 := tkeep hb1 d1
        have qd2 := tkeep hb1 d2
        have qd3 := tkeep hb1 d3
        have qf0 := tkeep hb1 f0
        have qf1 := tkeep hb1 f1
        have qf2 := tkeep hb1 f2
        have qf3 := tkeep hb1 f3
        clear hb1
        go_wp2_with fail
        refine hK.out _ _ ⟨qx0, qy0, qd0, qd1, qd2, qd3, qf0, qf1, qf2, qf3⟩ (fun hHelda0 => ?_)
        clear hK K
        try simp only [Act.put, List.setIfInBounds_toArray, List.set_cons_zero, List.set_cons_succ]
        refine ttakeH 11 62 (v := ?vaf11) rfl (by kernel_rfl) (by kernel_rfl) (by kernel_rfl) rfl (fun _ _ _ h => h) (by rfl) ?yaf11 (by assumption) ?raf11
        case yaf11 => (intro W hSw; (try dsimp only at hSw); (try obtain ⟨hS0, hS1, hS2, hS3, hS4, hS5, hS6, hS7, hS8, hS9⟩ := hSw); go_simp; (try rw [if_neg (by omega)]); try with_reducible rfl)
        try simp only [Act.put, List.setIfInBounds_toArray, List.set_cons_zero, List.set_cons_succ]
        refine wpAnyH_done (by kernel_rfl) ?_ _
        go_wp2
        go_ret
        rw [HE.out]
        exact ⟨rfl, HB1.out⟩
    · have HIt : Hid (its = its') := by
        show _ = _
        have h3 := HG.out
        rw [List.take_of_length_le (by rw [H1.out]; omega), List.take_of_length_le (by rw [H2.out]; omega)] at h3
        exact h3
      have HBo := HB
      clear hx1 hx2 HBw hsz HG HB
      rename_i wo
      go_wp2
      go_loopw [6] (fun i wr => ∃ (j : Nat), i = .int .i64 j ∧ j ≤ r ∧ Hid (prs.take j = prs'.take j) ∧ Hid (Below (w.heap.size + 2) ((w.alloc (.cells #[.slice a q c, .slice b r d, .int .i64 wi, .string sb, .int .i64 pk] 26)).alloc (.cells #[.slice a' q c', .slice b' r d', .int .i64 wi, .string sb, .int .i64 pk] 26)) wr)) (fun i _ => r - (RowKit.intOf i).toNat)
      case atStart => exact ⟨0, rfl, Nat.zero_le _, rfl, HBo.out⟩
      case round =>
        obtain ⟨j, rfl, hj, HG, HB⟩ := hrel
        have hx1 := (HB.out.block w.heap.size (by omega)).trans HX1.out
        have hx2 := (HB.out.block (w.heap.size + 1) (by omega)).trans HX2.out
        have x0 := tcell_of_blk hx1 (k := 1) rfl
        have y0 := tcell_of_blk hx2 (k := 1) rfl
        have HBw := Lib.hid (HB0.out.trans (HB.out.mono (by omega)))
        have hsz : w.heap.size + 2 ≤ wr.heap.size := by
          have := HB.out.size
          simpa using this
        by_cases hlt : j < r
        · obtain ⟨y, hy⟩ : ∃ y, prs[j]? = some y := ⟨_, List.getElem?_eq_getElem (by rw [H3.out]; exact hlt)⟩
          obtain ⟨u, hu⟩ : ∃ u, prs'[j]? = some u := ⟨_, List.getElem?_eq_getElem (by rw [H4.out]; exact hlt)⟩
          obtain ⟨g, o, a1, q1, c1, b1, r1, dd1, ed, rfl, hcell, hq1, hr1, hk1, hk2⟩ := HQ.out.2.predAt hy
          obtain ⟨g', o', a2, q2, c2, b2, r2, dd2, ed', rfl, hcell', hq2, hr2, hk3, hk4⟩ := HQ'.out.2.predAt hu
          have hll := HL.out.2 y (List.mem_of_getElem? hy)
          have HC := sameP_calls (w := wr.drew) (p := y) (p' := u) hll.1 hll.2 (hk1.keep (TFr.of_below (K := K) (vbelow_drew HBw.out))) (hk2.keep (TFr.of_below (K := K) (vbelow_drew HBw.out))) (hk3.keep (TFr.of_below (K := K') (vbelow_drew HBw.out))) (hk4.keep (TFr.of_below (K := K') (vbelow_drew HBw.out))) hq1 hr1 hq2 hr2
          have x0 : wr.drew.cell? _ = _ := x0
          have y0 : wr.drew.cell? _ = _ := y0
          have d0 : wr.drew.cell? ⟨g, o + j * 15, none⟩ = some (.int .i64 y.cmp) := tkeep HBw.out (hcell 0 _ rfl)
          have f0 : wr.drew.cell? ⟨g', o' + j * 15, none⟩ = some (.int .i64 u.cmp) := tkeep HBw.out (hcell' 0 _ rfl)
          have d1 : wr.drew.cell? ⟨g, o + j * 15 + 1, none⟩ = some (.int .i64 y.l.k) := tkeep HBw.out (hcell 1 _ rfl)
          have f1 : wr.drew.cell? ⟨g', o' + j * 15 + 1, none⟩ = some (.int .i64 u.l.k) := tkeep HBw.out (hcell' 1 _ rfl)
          have d2 : wr.drew.cell? ⟨g, o + j * 15 + 2, none⟩ = some (.int .i64 y.l.v.k) := tkeep HBw.out (hcell 2 _ rfl)
          have f2 : wr.drew.cell? ⟨g', o' + j * 15 + 2, none⟩ = some (.int .i64 u.l.v.k) := tkeep HBw.out (hcell' 2 _ rfl)
          have d3 : wr.drew.cell? ⟨g, o + j * 15 + 3, none⟩ = some (.int .i64 y.l.v.n) := tkeep HBw.out (hcell 3 _ rfl)
          have f3 : wr.drew.cell? ⟨g', o' + j * 15 + 3, none⟩ = some (.int .i64 u.l.v.n) := tkeep HBw.out (hcell' 3 _ rfl)
          have d4 : wr.drew.cell? ⟨g, o + j * 15 + 4, none⟩ = some (.string (strB y.l.v.s)) := tkeep HBw.out (hcell 4 _ rfl)
          have f4 : wr.drew.cell? ⟨g', o' + j * 15 + 4, none⟩ = some (.string (strB u.l.v.s)) := tkeep HBw.out (hcell' 4 _ rfl)
          have d5 : wr.drew.cell? ⟨g, o + j * 15 + 5, none⟩ = some (.string (strB y.l.x)) := tkeep HBw.out (hcell 5 _ rfl)
          have f5 : wr.drew.cell? ⟨g', o' + j * 15 + 5, none⟩ = some (.string (strB u.l.x)) := tkeep HBw.out (hcell' 5 _ rfl)
          have d6 : wr.drew.cell? ⟨g, o + j * 15 + 6, none⟩ = some (.string (strB y.l.f)) := tkeep HBw.out (hcell 6 _ rfl)
          have f6 : wr.drew.cell? ⟨g', o' + j * 15 + 6, none⟩ = some (.string (strB u.l.f)) := tkeep HBw.out (hcell' 6 _ rfl)
          have d7 : wr.drew.cell? ⟨g, o + j * 15 + 7, none⟩ = some (.slice a1 q1 c1) := tkeep HBw.out (hcell 7 _ rfl)
          have f7 : wr.drew.cell? ⟨g', o' + j * 15 + 7, none⟩ = some (.slice a2 q2 c2) := tkeep HBw.out (hcell' 7 _ rfl)
          have d8 : wr.drew.cell? ⟨g, o + j * 15 + 8, none⟩ = some (.int .i64 y.r.k) := tkeep HBw.out (hcell 8 _ rfl)
          have f8 : wr.drew.cell? ⟨g', o' + j * 15 + 8, none⟩ = some (.int .i64 u.r.k) := tkeep HBw.out (hcell' 8 _ rfl)
          have d9 : wr.drew.cell? ⟨g, o + j * 15 + 9, none⟩ = some (.int .i64 y.r.v.k) := tkeep HBw.out (hcell 9 _ rfl)
          have f9 : wr.drew.cell? ⟨g', o' + j * 15 + 9, none⟩ = some (.int .i64 u.r.v.k) := tkeep HBw.out (hcell' 9 _ rfl)
          have d10 : wr.drew.cell? ⟨g, o + j * 15 + 10, none⟩ = some (.int .i64 y.r.v.n) := tkeep HBw.out (hcell 10 _ rfl)
          have f10 : wr.drew.cell? ⟨g', o' + j * 15 + 10, none⟩ = some (.int .i64 u.r.v.n) := tkeep HBw.out (hcell' 10 _ rfl)
          have d11 : wr.drew.cell? ⟨g, o + j * 15 + 11, none⟩ = some (.string (strB y.r.v.s)) := tkeep HBw.out (hcell 11 _ rfl)
          have f11 : wr.drew.cell? ⟨g', o' + j * 15 + 11, none⟩ = some (.string (strB u.r.v.s)) := tkeep HBw.out (hcell' 11 _ rfl)
          have d12 : wr.drew.cell? ⟨g, o + j * 15 + 12, none⟩ = some (.string (strB y.r.x)) := tkeep HBw.out (hcell 12 _ rfl)
          have f12 : wr.drew.cell? ⟨g', o' + j * 15 + 12, none⟩ = some (.string (strB u.r.x)) := tkeep HBw.out (hcell' 12 _ rfl)
          have d13 : wr.drew.cell? ⟨g, o + j * 15 + 13, none⟩ = some (.string (strB y.r.f)) := tkeep HBw.out (hcell 13 _ rfl)
          have f13 : wr.drew.cell? ⟨g', o' + j * 15 + 13, none⟩ = some (.string (strB u.r.f)) := tkeep HBw.out (hcell' 13 _ rfl)
          have d14 : wr.drew.cell? ⟨g, o + j * 15 + 14, none⟩ = some (.slice b1 r1 dd1) := tkeep HBw.out (hcell 14 _ rfl)
          have f14 : wr.drew.cell? ⟨g', o' + j * 15 + 14, none⟩ = some (.slice b2 r2 dd2) := tkeep HBw.out (hcell' 14 _ rfl)
          have HY := Lib.hid hy
          have HU := Lib.hid hu
          cases hr : sameB y u with
          | true =>
            rw [hr] at HC
            have HC := Lib.hid HC
            have HN : Hid (prs.take (j + 1) = prs'.take (j + 1)) := by
              show _ = _
              have hyu : y = u := sameB_of hr
              rw [List.take_add_one, List.take_add_one, HY.out, HU.out, HG.out, hyu]
            clear hy hu hcell hcell' hq1 hr1 hq2 hr2 hk1 hk2 hk3 hk4 hll hx1 hx2 hr
            go_wp2_with fail
            refine wp_region_held_drew (S := fun W => W.cell? ⟨w.heap.size, 1, none⟩ = some (.slice (some ⟨g, o, none⟩) r d) ∧ W.cell? ⟨w.heap.size + 1, 1, none⟩ = some (.slice (some ⟨g', o', none⟩) r d') ∧ W.cell? ⟨g, o + j * 15, none⟩ = some (.int .i64 y.cmp) ∧ W.cell? ⟨g, o + j * 15 + 1, none⟩ = some (.int .i64 y.l.k) ∧ W.cell? ⟨g, o + j * 15 + 2, none⟩ = some (.int .i64 y.l.v.k) ∧ W.cell? ⟨g, o + j * 15 + 3, none⟩ = some (.int .i64 y.l.v.n) ∧ W.cell? ⟨g, o + j * 15 + 4, none⟩ = some (.string (strB y.l.v.s)) ∧ W.cell? ⟨g, o + j * 15 + 5, none⟩ = some (.string (strB y.l.x)) ∧ W.cell? ⟨g, o + j * 15 + 6, none⟩ = some (.string (strB y.l.f)) ∧ W.cell? ⟨g, o + j * 15 + 7, none⟩ = some (.slice a1 q1 c1) ∧ W.cell? ⟨g, o + j * 15 + 8, none⟩ = some (.int .i64 y.r.k) ∧ W.cell? ⟨g, o + j * 15 + 9, none⟩ = some (.int .i64 y.r.v.k) ∧ W.cell? ⟨g, o + j * 15 + 10, none⟩ = some (.int .i64 y.r.v.n) ∧ W.cell? ⟨g, o + j * 15 + 11, none⟩ = some (.string (strB y.r.v.s)) ∧ W.cell? ⟨g, o + j * 15 + 12, none⟩ = some (.string (strB y.r.x)) ∧ W.cell? ⟨g, o + j * 15 + 13, none⟩ = some (.string (strB y.r.f)) ∧ W.cell? ⟨g, o + j * 15 + 14, none⟩ = some (.slice b1 r1 dd1) ∧ W.cell? ⟨g', o' + j * 15, none⟩ = some (.int .i64 u.cmp) ∧ W.cell? ⟨g', o' + j * 15 + 1, none⟩ = some (.int .i64 u.l.k) ∧ W.cell? ⟨g', o' + j * 15 + 2, none⟩ = some (.int .i64 u.l.v.k) ∧ W.cell? ⟨g', o' + j * 15 + 3, none⟩ = some (.int .i64 u.l.v.n) ∧ W.cell? ⟨g', o' + j * 15 + 4, none⟩ = some (.string (strB u.l.v.s)) ∧ W.cell? ⟨g', o' + j * 15 + 5, none⟩ = some (.string (strB u.l.x)) ∧ W.cell? ⟨g', o' + j * 15 + 6, none⟩ = some (.string (strB u.l.f)) ∧ W.cell? ⟨g', o' + j * 15 + 7, none⟩ = some (.slice a2 q2 c2) ∧ W.cell? ⟨g', o' + j * 15 + 8, none⟩ = some (.int .i64 u.r.k) ∧ W.cell? ⟨g', o' + j * 15 + 9, none⟩ = some (.int .i64 u.r.v.k) ∧ W.cell? ⟨g', o' + j * 15 + 10, none⟩ = some (.int .i64 u.r.v.n) ∧ W.cell? ⟨g', o' + j * 15 + 11, none⟩ = some (.string (strB u.r.v.s)) ∧ W.cell? ⟨g', o' + j * 15 + 12, none⟩ = some (.string (strB u.r.x)) ∧ W.cell? ⟨g', o' + j * 15 + 13, none⟩ = some (.string (strB u.r.f)) ∧ W.cell? ⟨g', o' + j * 15 + 14, none⟩ = some (.slice b2 r2 dd2)) (by kernel_rfl) ⟨x0, y0, d0, d1, d2, d3, d4, d5, d6, d7, d8, d9, d10, d11, d12, d13, d14, f0, f1, f2, f3, f4, f5, f6, f7, f8, f9, f10, f11, f12, f13, f14⟩ (fun hHeld => ?_)
            refine ttakeH 0 70 (v := ?vbt0) rfl (by kernel_rfl) (by kernel_rfl) (by kernel_rfl) rfl (fun _ _ _ h => h) (by rfl) ?ybt0 (by assumption) ?rbt0
            case ybt0 => (intro W hSw; (try dsimp only at hSw); (try obtain ⟨hS0, hS1, hS2, hS3, hS4, hS5, hS6, hS7, hS8, hS9, hS10, hS11, hS12, hS13, hS14, hS15, hS16, hS17, hS18, hS19, hS20, hS21, hS22, hS23, hS24, hS25, hS26, hS27, hS28, hS29, hS30, hS31⟩ := hSw); go_simp; (try rw [if_neg (by omega)]); try with_reducible rfl)
            try simp only [Act.put, List.setIfInBounds_toArray, List.set_cons_zero, List.set_cons_succ]
            refine ttakeH 1 71 (v := ?vbt1) rfl (by kernel_rfl) (by kernel_rfl) (by kernel_rfl) rfl (fun _ _ _ h => h) (by rfl) ?ybt1 (by assumption) ?rbt1
            case ybt1 => (intro W hSw; (try dsimp only at hSw); (try obtain ⟨hS0, hS1, hS2, hS3, hS4, hS5, hS6, hS7, hS8, hS9, hS10, hS11, hS12, hS13, hS14, hS15, hS16, hS17, hS18, hS19, hS20, hS21, hS22, hS23, hS24, hS25, hS26, hS27, hS28, hS29, hS30, hS31⟩ := hSw); go_simp; (try rw [if_neg (by omega)]); try with_reducible rfl)
            try simp only [Act.put, List.setIfInBounds_toArray, List.set_cons_zero, List.set_cons_succ]
            refine ttakeH 2 72 (v := ?vbt2) rfl (by kernel_rfl) (by kernel_rfl) (by kernel_rfl) rfl (fun _ _ _ h => h) (by rfl) ?ybt2 (by assumption) ?rbt2
            case ybt2 => (intro W hSw; (try dsimp only at hSw); (try obtain ⟨hS0, hS1, hS2, hS3, hS4, hS5, hS6, hS7, hS8, hS9, hS10, hS11, hS12, hS13, hS14, hS15, hS16, hS17, hS18, hS19, hS20, hS21, hS22, hS23, hS24, hS25, hS26, hS27, hS28, hS29, hS30, hS31⟩ := hSw); go_simp; (try rw [if_neg (by omega)]); try with_reducible rfl)
            try simp only [Act.put, List.setIfInBounds_toArray, List.set_cons_zero, List.set_cons_succ]
            refine ttakeH 3 73 (v := ?vbt3) rfl (by kernel_rfl) (by kernel_rfl) (by kernel_rfl) rfl (fun _ _ _ h => h) (by rfl) ?ybt3 (by assumption) ?rbt3
            case ybt3 => (intro W hSw; (try dsimp only at hSw); (try obtain ⟨hS0, hS1, hS2, hS3, hS4, hS5, hS6, hS7, hS8, hS9, hS10, hS11, hS12, hS13, hS14, hS15, hS16, hS17, hS18, hS19, hS20, hS21, hS22, hS23, hS24, hS25, hS26, hS27, hS28, hS29, hS30, hS31⟩ := hSw); go_simp; (try rw [if_neg (by omega)]); try with_reducible rfl)
            try simp only [Act.put, List.setIfInBounds_toArray, List.set_cons_zero, List.set_cons_succ]
            refine ttakeH 4 74 (v := ?vbt4) rfl (by kernel_rfl) (by kernel_rfl) (by kernel_rfl) rfl (fun _ _ _ h => h) (by rfl) ?ybt4 (by assumption) ?rbt4
            case ybt4 => (intro W hSw; (try dsimp only at hSw); (try obtain ⟨hS0, hS1, hS2, hS3, hS4, hS5, hS6, hS7, hS8, hS9, hS10, hS11, hS12, hS13, hS14, hS15, hS16, hS17, hS18, hS19, hS20, hS21, hS22, hS23, hS24, hS25, hS26, hS27, hS28, hS29, hS30, hS31⟩ := hSw); go_simp; (try rw [if_neg (by omega)]); try with_reducible rfl)
            try simp only [Act.put, List.setIfInBounds_toArray, List.set_cons_zero, List.set_cons_succ]
            refine ttakeH 5 75 (v := ?vbt5) rfl (by kernel_rfl) (by kernel_rfl) (by kernel_rfl) rfl (fun _ _ _ h => h) (by rfl) ?ybt5 (by assumption) ?rbt5
            case ybt5 => (intro W hSw; (try dsimp only at hSw); (try obtain ⟨hS0, hS1, hS2, hS3, hS4, hS5, hS6, hS7, hS8, hS9, hS10, hS11, hS12, hS13, hS14, hS15, hS16, hS17, hS18, hS19, hS20, hS21, hS22, hS23, hS24, hS25, hS26, hS27, hS28, hS29, hS30, hS31⟩ := hSw); go_simp; (try rw [if_neg (by omega)]); try with_reducible rfl)
            try simp only [Act.put, List.setIfInBounds_toArray, List.set_cons_zero, List.set_cons_succ]
            refine ttakeH 6 76 (v := ?vbt6) rfl (by kernel_rfl) (by kernel_rfl) (by kernel_rfl) rfl (fun _ _ _ h => h) (by rfl) ?ybt6 (by assumption) ?rbt6
            case ybt6 => (intro W hSw; (try dsimp only at hSw); (try obtain ⟨hS0, hS1, hS2, hS3, hS4, hS5, hS6, hS7, hS8, hS9, hS10, hS11, hS12, hS13, hS14, hS15, hS16, hS17, hS18, hS19, hS20, hS21, hS22, hS23, hS24, hS25, hS26, hS27, hS28, hS29, hS30, hS31⟩ := hSw); go_simp; (try rw [if_neg (by omega)]); try with_reducible rfl)
            try simp only [Act.put, List.setIfInBounds_toArray, List.set_cons_zero, List.set_cons_succ]
            refine ttakeH 7 77 (v := ?vbt7) rfl (by kernel_rfl) (by kernel_rfl) (by kernel_rfl) rfl (fun _ _ _ h => h) (by rfl) ?ybt7 (by assumption) ?rbt7
            case ybt7 => (intro W hSw; (try dsimp only at hSw); (try obtain ⟨hS0, hS1, hS2, hS3, hS4, hS5, hS6, hS7, hS8, hS9, hS10, hS11, hS12, hS13, hS14, hS15, hS16, hS17, hS18, hS19, hS20, hS21, hS22, hS23, hS24, hS25, hS26, hS27, hS28, hS29, hS30, hS31⟩ := hSw); go_simp; (try rw [if_neg (by omega)]); try with_reducible rfl)
            try simp only [Act.put, List.setIfInBounds_toArray, List.set_cons_zero, List.set_cons_succ]
            refine ttakeH 8 78 (v := ?vbt8) rfl (by kernel_rfl) (by kernel_rfl) (by kernel_rfl) rfl (fun _ _ _ h => h) (by rfl) ?ybt8 (by assumption) ?rbt8
            case ybt8 => (intro W hSw; (try dsimp only at hSw); (try obtain ⟨hS0, hS1, hS2, hS3, hS4, hS5, hS6, hS7, hS8, hS9, hS10, hS11, hS12, hS13, hS14, hS15, hS16, hS17, hS18, hS19, hS20, hS21, hS22, hS23, hS24, hS25, hS26, hS27, hS28, hS29, hS30, hS31⟩ := hSw); go_simp; (try rw [if_neg (by omega)]); try with_reducible rfl)
            try simp only [Act.put, List.setIfInBounds_toArray, List.set_cons_zero, List.set_cons_succ]
            refine ttakeH 9 79 (v := ?vbt9) rfl (by kernel_rfl) (by kernel_rfl) (by kernel_rfl) rfl (fun _ _ _ h => h) (by rfl) ?ybt9 (by assumption) ?rbt9
            case ybt9 => (intro W hSw; (try dsimp only at hSw); (try obtain ⟨hS0, hS1, hS2, hS3, hS4, hS5, hS6, hS7, hS8, hS9, hS10, hS11, hS12, hS13, hS14, hS15, hS16, hS17, hS18, hS19, hS20, hS21, hS22, hS23, hS24, hS25, hS26, hS27, hS28, hS29, hS30, hS31⟩ := hSw); go_simp; (try rw [if_neg (by omega)]); try with_reducible rfl)
            try simp only [Act.put, List.setIfInBounds_toArray, List.set_cons_zero, List.set_cons_succ]
            refine wpAnyH_ready (rs := [10]) (by kernel_rfl) (by simp) ?_
            refine AllReadyH.cons (o := _) rfl (fun K hK => ?_) AllReadyH.nil
            dsimp only [List.getElem_toArray, List.getElem_cons_succ, List.getElem_cons_zero]
            go_simp
            go_at_call 47
            (with_reducible refine HC.out.mono ?_)
            rintro e w1 ⟨rfl, hb1⟩
            have HB1 := Lib.hid ((below_drew2 HB.out).trans (hb1.mono (show _ ≤ wr.drew.heap.size from hsz)))
            have qx0 := tkeep hb1 x0
            have qy0 := tkeep hb1 y0
            have qd0 := tkeep hb1 d0
            have qd1 := tkeep hb1 d1
            have qd2 := tkeep hb1 d2
            have qd3 := tkeep hb1 d3
            have qd4 := tkeep hb1 d4
            have qd5 := tkeep hb1 d5
            have qd6 := tkeep hb1 d6
            have qd7 := tkeep hb1 d7
            have qd8 := tkeep hb1 d8
            have qd9 := tkeep hb1 d9
            have qd10 := tkeep hb1 d10
            have qd11 := tkeep hb1 d11
            have qd12 := tkeep hb1 d12
            have qd13 := tkeep hb1 d13
            have qd14 := tkeep hb1 d14
            have qf0 := tkeep hb1 f0
            have qf1 := tkeep hb1 f1
            have qf2 := tkeep hb1 f2
            have qf3 := tkeep hb1 f3
            have qf4 := tkeep hb1 f4
            have qf5 := tkeep hb1 f5
            have qf6 := tkeep hb1 f6
            have qf7 := tkeep hb1 f7
            have qf8 := tkeep hb1 f8
            have qf9 := tkeep hb1 f9
            have qf10 := tkeep hb1 f10
            have qf11 := tkeep hb1 f11
            have qf12 := tkeep hb1 f12
            have qf13 := tkeep hb1 f13
            have qf14 := tkeep hb1 f14
            clear hb1
            go_wp2_with fail
            refine hK.out _ _ ⟨qx0, qy0, qd0, qd1, qd2, qd3, qd4, qd5, qd6, qd7, qd8, qd9, qd10, qd11, qd12, qd13, qd14, qf0, qf1, qf2, qf3, qf4, qf5, qf6, qf7, qf8, qf9, qf10, qf11, qf12, qf13, qf14⟩ (fun hHelda0 => ?_)
            clear hK K
            try simp only [Act.put, List.setIfInBounds_toArray, List.set_cons_zero, List.set_cons_succ]
            refine ttakeH 11 81 (v := ?vbt11) rfl (by kernel_rfl) (by kernel_rfl) (by kernel_rfl) rfl (fun _ _ _ h => h) (by rfl) ?ybt11 (by assumption) ?rbt11
            case ybt11 => (intro W hSw; (try dsimp only at hSw); (try obtain ⟨hS0, hS1, hS2, hS3, hS4, hS5, hS6, hS7, hS8, hS9, hS10, hS11, hS12, hS13, hS14, hS15, hS16, hS17, hS18, hS19, hS20, hS21, hS22, hS23, hS24, hS25, hS26, hS27, hS28, hS29, hS30, hS31⟩ := hSw); go_simp; (try rw [if_neg (by omega)]); try with_reducible rfl)
            try simp only [Act.put, List.setIfInBounds_toArray, List.set_cons_zero, List.set_cons_succ]
            refine wpAnyH_done (by kernel_rfl) ?_ _
            go_wp2_with fail
            go_roundw
            case rel => exact ⟨j + 1, by go_num, by omega, HN, HB1⟩
            case measure => simp [RowKit.intOf]; omega
          | false =>
            rw [hr] at HC
            have HC := Lib.hid HC
            have HE : Hid (z = false) := by
              show _ = _
              rw [← HZ.out]
              refine sameB_no (fun e => ?_)
              injection e with e1 e2
              have hyu : y = u := by
                have h3 := HY.out
                have h4 := HU.out
                rw [e2, h4] at h3
                exact (Option.some.inj h3).symm
              rw [sameB_yes hyu] at hr
              cases hr
            clear hy hu hcell hcell' hq1 hr1 hq2 hr2 hk1 hk2 hk3 hk4 hll hx1 hx2 hr
            go_wp2_with fail
            refine wp_region_held_drew (S := fun W => W.cell? ⟨w.heap.size, 1, none⟩ = some (.slice (some ⟨g, o, none⟩) r d) ∧ W.cell? ⟨w.heap.size + 1, 1, none⟩ = some (.slice (some ⟨g', o', none⟩) r d') ∧ W.cell? ⟨g, o + j * 15, none⟩ = some (.int .i64 y.cmp) ∧ W.cell? ⟨g, o + j * 15 + 1, none⟩ = some (.int .i64 y.l.k) ∧ W.cell? ⟨g, o + j * 15 + 2, none⟩ = some (.int .i64 y.l.v.k) ∧ W.cell? ⟨g, o + j * 15 + 3, none⟩ = some (.int .i64 y.l.v.n) ∧ W.cell? ⟨g, o + j * 15 + 4, none⟩ = some (.string (strB y.l.v.s)) ∧ W.cell? ⟨g, o + j * 15 + 5, none⟩ = some (.string (strB y.l.x)) ∧ W.cell? ⟨g, o + j * 15 + 6, none⟩ = some (.string (strB y.l.f)) ∧ W.cell? ⟨g, o + j * 15 + 7, none⟩ = some (.slice a1 q1 c1) ∧ W.cell? ⟨g, o + j * 15 + 8, none⟩ = some (.int .i64 y.r.k) ∧ W.cell? ⟨g, o + j * 15 + 9, none⟩ = some (.int .i64 y.r.v.k) ∧ W.cell? ⟨g, o + j * 15 + 10, none⟩ = some (.int .i64 y.r.v.n) ∧ W.cell? ⟨g, o + j * 15 + 11, none⟩ = some (.string (strB y.r.v.s)) ∧ W.cell? ⟨g, o + j * 15 + 12, none⟩ = some (.string (strB y.r.x)) ∧ W.cell? ⟨g, o + j * 15 + 13, none⟩ = some (.string (strB y.r.f)) ∧ W.cell? ⟨g, o + j * 15 + 14, none⟩ = some (.slice b1 r1 dd1) ∧ W.cell? ⟨g', o' + j * 15, none⟩ = some (.int .i64 u.cmp) ∧ W.cell? ⟨g', o' + j * 15 + 1, none⟩ = some (.int .i64 u.l.k) ∧ W.cell? ⟨g', o' + j * 15 + 2, none⟩ = some (.int .i64 u.l.v.k) ∧ W.cell? ⟨g', o' + j * 15 + 3, none⟩ = some (.int .i64 u.l.v.n) ∧ W.cell? ⟨g', o' + j * 15 + 4, none⟩ = some (.string (strB u.l.v.s)) ∧ W.cell? ⟨g', o' + j * 15 + 5, none⟩ = some (.string (strB u.l.x)) ∧ W.cell? ⟨g', o' + j * 15 + 6, none⟩ = some (.string (strB u.l.f)) ∧ W.cell? ⟨g', o' + j * 15 + 7, none⟩ = some (.slice a2 q2 c2) ∧ W.cell? ⟨g', o' + j * 15 + 8, none⟩ = some (.int .i64 u.r.k) ∧ W.cell? ⟨g', o' + j * 15 + 9, none⟩ = some (.int .i64 u.r.v.k) ∧ W.cell? ⟨g', o' + j * 15 + 10, none⟩ = some (.int .i64 u.r.v.n) ∧ W.cell? ⟨g', o' + j * 15 + 11, none⟩ = some (.string (strB u.r.v.s)) ∧ W.cell? ⟨g', o' + j * 15 + 12, none⟩ = some (.string (strB u.r.x)) ∧ W.cell? ⟨g', o' + j * 15 + 13, none⟩ = some (.string (strB u.r.f)) ∧ W.cell? ⟨g', o' + j * 15 + 14, none⟩ = some (.slice b2 r2 dd2)) (by kernel_rfl) ⟨x0, y0, d0, d1, d2, d3, d4, d5, d6, d7, d8, d9, d10, d11, d12, d13, d14, f0, f1, f2, f3, f4, f5, f6, f7, f8, f9, f10, f11, f12, f13, f14⟩ (fun hHeld => ?_)
            refine ttakeH 0 70 (v := ?vbf0) rfl (by kernel_rfl) (by kernel_rfl) (by kernel_rfl) rfl (fun _ _ _ h => h) (by rfl) ?ybf0 (by assumption) ?rbf0
            case ybf0 => (intro W hSw; (try dsimp only at hSw); (try obtain ⟨hS0, hS1, hS2, hS3, hS4, hS5, hS6, hS7, hS8, hS9, hS10, hS11, hS12, hS13, hS14, hS15, hS16, hS17, hS18, hS19, hS20, hS21, hS22, hS23, hS24, hS25, hS26, hS27, hS28, hS29, hS30, hS31⟩ := hSw); go_simp; (try rw [if_neg (by omega)]); try with_reducible rfl)
            try simp only [Act.put, List.setIfInBounds_toArray, List.set_cons_zero, List.set_cons_succ]
            refine ttakeH 1 71 (v := ?vbf1) rfl (by kernel_rfl) (by kernel_rfl) (by kernel_rfl) rfl (fun _ _ _ h => h) (by rfl) ?ybf1 (by assumption) ?rbf1
            case ybf1 => (intro W hSw; (try dsimp only at hSw); (try obtain ⟨hS0, hS1, hS2, hS3, hS4, hS5, hS6, hS7, hS8, hS9, hS10, hS11, hS12, hS13, hS14, hS15, hS16, hS17, hS18, hS19, hS20, hS21, hS22, hS23, hS24, hS25, hS26, hS27, hS28, hS29, hS30, hS31⟩ := hSw); go_simp; (try rw [if_neg (by omega)]); try with_reducible rfl)
            try simp only [Act.put, List.setIfInBounds_toArray, List.set_cons_zero, List.set_cons_succ]
            refine ttakeH 2 72 (v := ?vbf2) rfl (by kernel_rfl) (by kernel_rfl) (by kernel_rfl) rfl (fun _ _ _ h => h) (by rfl) ?ybf2 (by assumption) ?rbf2
            case ybf2 => (intro W hSw; (try dsimp only at hSw); (try obtain ⟨hS0, hS1, hS2, hS3, hS4, hS5, hS6, hS7, hS8, hS9, hS10, hS11, hS12, hS13, hS14, hS15, hS16, hS17, hS18, hS19, hS20, hS21, hS22, hS23, hS24, hS25, hS26, hS27, hS28, hS29, hS30, hS31⟩ := hSw); go_simp; (try rw [if_neg (by omega)]); try with_reducible rfl)
            try simp only [Act.put, List.setIfInBounds_toArray, List.set_cons_zero, List.set_cons_succ]
            refine ttakeH 3 73 (v := ?vbf3) rfl (by kernel_rfl) (by kernel_rfl) (by kernel_rfl) rfl (fun _ _ _ h => h) (by rfl) ?ybf3 (by assumption) ?rbf3
            case ybf3 => (intro W hSw; (try dsimp only at hSw); (try obtain ⟨hS0, hS1, hS2, hS3, hS4, hS5, hS6, hS7, hS8, hS9, hS10, hS11, hS12, hS13, hS14, hS15, hS16, hS17, hS18, hS19, hS20, hS21, hS22, hS23, hS24, hS25, hS26, hS27, hS28, hS29, hS30, hS31⟩ := hSw); go_simp; (try rw [if_neg (by omega)]); try with_reducible rfl)
            try simp only [Act.put, List.setIfInBounds_toArray, List.set_cons_zero, List.set_cons_succ]
            refine ttakeH 4 74 (v := ?vbf4) rfl (by kernel_rfl) (by kernel_rfl) (by kernel_rfl) rfl (fun _ _ _ h => h) (by rfl) ?ybf4 (by assumption) ?rbf4
            case ybf4 => (intro W hSw; (try dsimp only at hSw); (try obtain ⟨hS0, hS1, hS2, hS3, hS4, hS5, hS6, hS7, hS8, hS9, hS10, hS11, hS12, hS13, hS14, hS15, hS16, hS17, hS18, hS19, hS20, hS21, hS22, hS23, hS24, hS25, hS26, hS27, hS28, hS29, hS30, hS31⟩ := hSw); go_simp; (try rw [if_neg (by omega)]); try with_reducible rfl)
            try simp only [Act.put, List.setIfInBounds_toArray, List.set_cons_zero, List.set_cons_succ]
            refine ttakeH 5 75 (v := ?vbf5) rfl (by kernel_rfl) (by kernel_rfl) (by kernel_rfl) rfl (fun _ _ _ h => h) (by rfl) ?ybf5 (by assumption) ?rbf5
            case ybf5 => (intro W hSw; (try dsimp only at hSw); (try obtain ⟨hS0, hS1, hS2, hS3, hS4, hS5, hS6, hS7, hS8, hS9, hS10, hS11, hS12, hS13, hS14, hS15, hS16, hS17, hS18, hS19, hS20, hS21, hS22, hS23, hS24, hS25, hS26, hS27, hS28, hS29, hS30, hS31⟩ := hSw); go_simp; (try rw [if_neg (by omega)]); try with_reducible rfl)
            try simp only [Act.put, List.setIfInBounds_toArray, List.set_cons_zero, List.set_cons_succ]
            refine ttakeH 6 76 (v := ?vbf6) rfl (by kernel_rfl) (by kernel_rfl) (by kernel_rfl) rfl (fun _ _ _ h => h) (by rfl) ?ybf6 (by assumption) ?rbf6
            case ybf6 => (intro W hSw; (try dsimp only at hSw); (try obtain ⟨hS0, hS1, hS2, hS3, hS4, hS5, hS6, hS7, hS8, hS9, hS10, hS11, hS12, hS13, hS14, hS15, hS16, hS17, hS18, hS19, hS20, hS21, hS22, hS23, hS24, hS25, hS26, hS27, hS28, hS29, hS30, hS31⟩ := hSw); go_simp; (try rw [if_neg (by omega)]); try with_reducible rfl)
            try simp only [Act.put, List.setIfInBounds_toArray, List.set_cons_zero, List.set_cons_succ]
            refine ttakeH 7 77 (v := ?vbf7) rfl (by kernel_rfl) (by kernel_rfl) (by kernel_rfl) rfl (fun _ _ _ h => h) (by rfl) ?ybf7 (by assumption) ?rbf7
            case ybf7 => (intro W hSw; (try dsimp only at hSw); (try obtain ⟨hS0, hS1, hS2, hS3, hS4, hS5, hS6, hS7, hS8, hS9, hS10, hS11, hS12, hS13, hS14, hS15, hS16, hS17, hS18, hS19, hS20, hS21, hS22, hS23, hS24, hS25, hS26, hS27, hS28, hS29, hS30, hS31⟩ := hSw); go_simp; (try rw [if_neg (by omega)]); try with_reducible rfl)
            try simp only [Act.put, List.setIfInBounds_toArray, List.set_cons_zero, List.set_cons_succ]
            refine ttakeH 8 78 (v := ?vbf8) rfl (by kernel_rfl) (by kernel_rfl) (by kernel_rfl) rfl (fun _ _ _ h => h) (by rfl) ?ybf8 (by assumption) ?rbf8
            case ybf8 => (intro W hSw; (try dsimp only at hSw); (try obtain ⟨hS0, hS1, hS2, hS3, hS4, hS5, hS6, hS7, hS8, hS9, hS10, hS11, hS12, hS13, hS14, hS15, hS16, hS17, hS18, hS19, hS20, hS21, hS22, hS23, hS24, hS25, hS26, hS27, hS28, hS29, hS30, hS31⟩ := hSw); go_simp; (try rw [if_neg (by omega)]); try with_reducible rfl)
            try simp only [Act.put, List.setIfInBounds_toArray, List.set_cons_zero, List.set_cons_succ]
            refine ttakeH 9 79 (v := ?vbf9) rfl (by kernel_rfl) (by kernel_rfl) (by kernel_rfl) rfl (fun _ _ _ h => h) (by rfl) ?ybf9 (by assumption) ?rbf9
            case ybf9 => (intro W hSw; (try dsimp only at hSw); (try obtain ⟨hS0, hS1, hS2, hS3, hS4, hS5, hS6, hS7, hS8, hS9, hS10, hS11, hS12, hS13, hS14, hS15, hS16, hS17, hS18, hS19, hS20, hS21, hS22, hS23, hS24, hS25, hS26, hS27, hS28, hS29, hS30, hS31⟩ := hSw); go_simp; (try rw [if_neg (by omega)]); try with_reducible rfl)
            try simp only [Act.put, List.setIfInBounds_toArray, List.set_cons_zero, List.set_cons_succ]
            refine wpAnyH_ready (rs := [10]) (by kernel_rfl) (by simp) ?_
            refine AllReadyH.cons (o := _) rfl (fun K hK => ?_) AllReadyH.nil
            dsimp only [List.getElem_toArray, List.getElem_cons_succ, List.getElem_cons_zero]
            go_simp
            go_at_call 47
            (with_reducible refine HC.out.mono ?_)
            rintro e w1 ⟨rfl, hb1⟩
            have HB1 := Lib.hid ((vbelow_drew HBw.out).trans (hb1.mono (show _ ≤ wr.drew.heap.size from HBw.out.size)))
            have qx0 := tkeep hb1 x0
            have qy0 := tkeep hb1 y0
            have qd0 := tkeep hb1 d0
            have qd1 := tkeep hb1 d1
            have qd2 := tkeep hb1 d2
            have qd3 := tkeep hb1 d3
            have qd4 := tkeep hb1 d4
            have qd5 := tkeep hb1 d5
            have qd6 := tkeep hb1 d6
            have qd7 := tkeep hb1 d7
            have qd8 := tkeep hb1 d8
            have qd9 := tkeep hb1 d9
            have qd10 := tkeep hb1 d10
            have qd11 := tkeep hb1 d11
            have qd12 := tkeep hb1 d12
            have qd13 := tkeep hb1 d13
            have qd14 := tkeep hb1 d14
            have qf0 := tkeep hb1 f0
            have qf1 := tkeep hb1 f1
            have qf2 := tkeep hb1 f2
            have qf3 := tkeep hb1 f3
            have qf4 := tkeep hb1 f4
            have qf5 := tkeep hb1 f5
            have qf6 := tkeep hb1 f6
            have qf7 := tkeep hb1 f7
            have qf8 := tkeep hb1 f8
            have qf9 := tkeep hb1 f9
            have qf10 := tkeep hb1 f10
            have qf11 := tkeep hb1 f11
            have qf12 := tkeep hb1 f12
            have qf13 := tkeep hb1 f13
            have qf14 := tkeep hb1 f14
            clear hb1
            go_wp2_with fail
            refine hK.out _ _ ⟨qx0, qy0, qd0, qd1, qd2, qd3, qd4, qd5, qd6, qd7, qd8, qd9, qd10, qd11, qd12, qd13, qd14, qf0, qf1, qf2, qf3, qf4, qf5, qf6, qf7, qf8, qf9, qf10, qf11, qf12, qf13, qf14⟩ (fun hHelda0 => ?_)
            clear hK K
            try simp only [Act.put, List.setIfInBounds_toArray, List.set_cons_zero, List.set_cons_succ]
            refine ttakeH 11 81 (v := ?vbf11) rfl (by kernel_rfl) (by kernel_rfl) (by kernel_rfl) rfl (fun _ _ _ h => h) (by rfl) ?ybf11 (by assumption) ?rbf11
            case ybf11 => (intro W hSw; (try dsimp only at hSw); (try obtain ⟨hS0, hS1, hS2, hS3, hS4, hS5, hS6, hS7, hS8, hS9, hS10, hS11, hS12, hS13, hS14, hS15, hS16, hS17, hS18, hS19, hS20, hS21, hS22, hS23, hS24, hS25, hS26, hS27, hS28, hS29, hS30, hS31⟩ := hSw); go_simp; (try rw [if_neg (by omega)]); try with_reducible rfl)
            try simp only [Act.put, List.setIfInBounds_toArray, List.set_cons_zero, List.set_cons_succ]
            refine wpAnyH_done (by kernel_rfl) ?_ _
            go_wp2
            go_ret
            rw [HE.out]
            exact ⟨rfl, HB1.out⟩
        · have HE : Hid (z = true) := by
            show _ = _
            rw [← HZ.out]
            have h3 := HG.out
            rw [List.take_of_length_le (by rw [H3.out]; omega), List.take_of_length_le (by rw [H4.out]; omega)] at h3
            exact sameB_yes (by rw [h3, HIt.out])
          clear hx1 hx2
          go_wp2
          go_ret
          rw [HE.out]
          exact ⟨rfl, HBw.out⟩
theorem same_calls {K K' : Nat → Prop} {w : World} {a b a' b' : Option Addr} {q c r d q' c' r' d' : Nat} (p p' : PQu) (hq : QuAt K w a q c b r d p) (hq' : QuAt K' w a' q' c' b' r' d' p') (lq : p.its.length ≤ maxLen) (lr : p.prs.length ≤ maxLen) (hl : QLs p) :
    Calls Tryz.prog 18 #[.agg #[.slice a q c, .slice b r d, .int .i64 p.within, .string (strB p.by_), .int .i64 p.pick], .agg #[.slice a' q' c', .slice b' r' d', .int .i64 p'.within, .string (strB p'.by_), .int .i64 p'.pick]] w fun e w' => e = .returned (.bool (sameB p p')) ∧ Below w.heap.size w w' := by
  obtain ⟨its, prs, wi, by_, pk⟩ := p
  obtain ⟨its', prs', wi', by_', pk'⟩ := p'
  have n1 : q = its.length := hq.1.len
  have n2 : r = prs.length := hq.2.len
  have n3 : q' = its'.length := hq'.1.len
  have n4 : r' = prs'.length := hq'.2.len
  by_cases hall : q = q' ∧ r = r' ∧ wi = wi' ∧ by_ = by_' ∧ pk = pk'
  · obtain ⟨rfl, rfl, rfl, rfl, rfl⟩ := hall
    exact sq_step hq hq' n1.symm n3.symm n2.symm n4.symm (by rw [n1]; exact lq) (by rw [n2]; exact lr) hl
  · rw [sameB_no (fun e => hall (by cases e; exact ⟨n1.trans n3.symm, n2.trans n4.symm, rfl, rfl, rfl⟩))]
    exact sq_no hall
end Go.Proofs.YtifacoompbngaaaGreatDoor
