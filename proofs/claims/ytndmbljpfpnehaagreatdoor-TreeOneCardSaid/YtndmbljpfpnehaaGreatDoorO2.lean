/- The statement TreeOne: its walk. -/
import Derived.Test.YtndmbljpfpnehaaGreatDoorO1
namespace Go.Proofs.YtndmbljpfpnehaaGreatDoor
open Go.Lib

theorem print_inj {p q : PQu} (hp : rightQ p = true) (hq : rightQ q = true) (h : printQ p = printQ q) : p = q := by
  have h1 := lx_query p hp
  rw [h] at h1
  have h2 : tokQ p = tokQ q := h1.one (lx_query q hq)
  have h3 : ((tokQ p).map fun t => (⟨t.1, t.2, 0⟩ : XTok)).map bare = tokQ p := by
    rw [List.map_map]
    exact List.map_id'' (fun x => rfl) _
  have h4 := query_of (E := 0) p hp _ h3 (Nat.le_refl _)
  have h5 := query_of (E := 0) q hq _ (h3.trans h2) (Nat.le_refl _)
  rw [h4] at h5
  exact congrArg Prod.fst h5
theorem parse_right {l : List UInt8} (h : (parseI l).2.1 = 0) : rightQ (parseI l).1 = true := by
  unfold parseI at h ⊢
  split at h
  · rename_i hn
    dsimp only at h
    exact absurd (by exact_mod_cast h) hn
  · rename_i hn
    rw [if_neg hn]
    split at h
    · cases h
    · rename_i hn2
      rw [if_neg hn2]
      split at h
      · rename_i hr
        rw [if_pos hr]
        exact hr
      · cases h
theorem ln_of_right : ∀ (d : Nat) (x : PEx), rightX d x = true → XBd x → XLn x
  | 0, x, h, _ => by
    cases x
    rw [rightX] at h
    cases h
  | d + 1, x, h, hb => by
    obtain ⟨k, v, x, f, ks, hv, hx, hf, hk⟩ := hb
    have hM : 1000000 ≤ maxLen := by unfold maxLen; decide
    rcases rightX_kinds h with h0 | h0 | h0 | ⟨_, y, z, rfl, h1, h2⟩
    all_goals first
      | (refine .mk _ _ _ _ _ (by omega) (by omega) (by omega) (by simp only [List.length_cons, List.length_nil]; omega) (fun t ht => ?_)
         rcases List.mem_cons.1 ht with rfl | ht
         · exact ln_of_right d _ h1 (hk _ List.mem_cons_self)
         · obtain rfl := List.mem_singleton.1 ht
           exact ln_of_right d _ h2 (hk _ (List.mem_cons_of_mem _ List.mem_cons_self)))
      | (have hks : ks = [] := by
           by_cases h1 : k = 1
           · subst h1
             rw [rightX_one] at h
             simp only [Bool.and_eq_true, decide_eq_true_eq] at h
             exact List.eq_nil_of_length_eq_zero h.1.2.2
           · by_cases h3 : k = 3
             · subst h3
               rw [rightX_three] at h
               simp only [Bool.and_eq_true, decide_eq_true_eq] at h
               exact List.eq_nil_of_length_eq_zero h.1.2.2
             · have h5 : k = 2 ∨ k = 4 ∨ k = 5 ∨ k = 6 := by omega
               rw [rightX_field _ _ h5] at h
               simp only [Bool.and_eq_true, decide_eq_true_eq] at h
               exact List.eq_nil_of_length_eq_zero h.1.2
         subst hks
         exact .mk _ _ _ _ _ (by omega) (by omega) (by omega) (Nat.zero_le _) (fun t ht => by cases ht))
theorem ln_query {p : PQu} (h : rightQ p = true) (hb : QuB p) : p.its.length ≤ maxLen ∧ p.prs.length ≤ maxLen ∧ QLs p := by
  obtain ⟨h1, h2, h3, _⟩ := rightQ_parts h
  have hM : 1000000 ≤ maxLen := by unfold maxLen; decide
  have h4 := (rightIs_parts h1).2.1
  refine ⟨by omega, by omega, fun i hi => ?_, fun x hx => ?_⟩
  · have := (rightI_parts ((rightIs_parts h1).2.2 i hi).1).2.2.1
    omega
  · have h5 := h3 x hx
    unfold rightP at h5
    simp only [Bool.and_eq_true, decide_eq_true_eq] at h5
    exact ⟨ln_of_right 6 _ h5.2.1 (hb.2.1 x hx).1, ln_of_right 6 _ h5.2.2 (hb.2.1 x hx).2⟩
end Go.Proofs.YtndmbljpfpnehaaGreatDoor
namespace Go.Proofs.YtndmbljpfpnehaaGreatDoor
open Go.RowKit Go.Lib Go.Op

theorem one_is (p q : PQu) (hp : rightQ p = true) (hq : rightQ q = true) : (sameB p q == ((strB (printQ p)).toList == (strB (printQ q)).toList)) = true := by
  rw [tB_list, tB_list]
  by_cases h : p = q
  · rw [sameB_yes h, h]
    simp
  · have h2 : printQ p ≠ printQ q := fun e => h (print_inj hp hq e)
    rw [sameB_no h]
    simp [h2]
set_option maxHeartbeats 4000000 in
set_option maxRecDepth 100000 in
theorem tone_walk (w : World) (hv : TVars w) (hp : PVars w) (s t : ByteArray) (hs : s.size ≤ maxLen) (ht : t.size ≤ maxLen) : Calls Tryz.prog 7 #[.string s, .string t] w fun e w' => e = .returned (.bool true) ∧ Below w.heap.size w w' := by
  have HH := Lib.hid (thead_calls hv hp)
  have HV := Lib.hid hv
  have HPV := Lib.hid hp
  unfold maxLen at hs ht
  clear hv hp
  go_enter Tryz.func7, Tryz.ntmps7
  go_wp2_with fail
  with_reducible refine HH.out.mono ?_
  rintro e w1 ⟨rfl, hb1⟩
  have HB1 := Lib.hid hb1
  clear HH hb1
  by_cases h3 : 3000 < s.size
  · go_wp2
    go_ret
    exact ⟨rfl, HB1.out⟩
  by_cases h4 : 3000 < t.size
  · go_wp2
    go_ret
    exact ⟨rfl, HB1.out⟩
  have hl1 : s.data.toList.length = s.size := by simp
  have hl2 : t.data.toList.length = t.size := by simp
  have hpa := parse_calls (HV.out.below HB1.out) s.data.toList (by rw [hl1]; omega)
  rw [strB_eq'] at hpa
  have hbd1 := parse_bd s.data.toList (by rw [hl1]; omega)
  have hrt1 := parse_right (l := s.data.toList)
  obtain ⟨⟨p, er, at_⟩, hr⟩ : ∃ z, parseI s.data.toList = z := ⟨_, rfl⟩
  rw [hr] at hpa hbd1 hrt1
  dsimp only at hbd1 hrt1
  have HP := Lib.hid hpa
  have HBD1 := Lib.hid hbd1
  have HRT1 := Lib.hid hrt1
  clear hpa hr hl1 hbd1 hrt1
  go_wp2_with fail
  with_reducible refine HP.out.mono ?_
  rintro e w2 ⟨a, m, c, b, r, d, rfl, hQ2, hb2⟩
  dsimp only at hQ2
  have HB2 := Lib.hid (HB1.out.trans (hb2.mono HB1.out.size))
  have hba := (Below.refl w2.heap.size w2).alloc (Nat.le_refl _) (.cells #[.slice a m c, .slice b r d, .int .i64 p.within, .string (strB p.by_), .int .i64 p.pick] 26)
  have HBA := Lib.hid hba
  have HB2a := Lib.hid (HB2.out.trans (hba.mono HB2.out.size))
  have HQ2 := Lib.hid hQ2
  clear HP hb2 hba hQ2
  have hpa := parse_calls (HV.out.below HB2a.out) t.data.toList (by rw [hl2]; omega)
  rw [strB_eq'] at hpa
  have hbd2 := parse_bd t.data.toList (by rw [hl2]; omega)
  have hrt2 := parse_right (l := t.data.toList)
  obtain ⟨⟨q, er2, at2⟩, hr⟩ : ∃ z, parseI t.data.toList = z := ⟨_, rfl⟩
  rw [hr] at hpa hbd2 hrt2
  dsimp only at hbd2 hrt2
  have HP := Lib.hid hpa
  have HBD2 := Lib.hid hbd2
  have HRT2 := Lib.hid hrt2
  clear hpa hr hl2 hbd2 hrt2
  go_wp2_with fail
  with_reducible refine HP.out.mono ?_
  rintro e w3 ⟨a3, m3, c3, b3, r3, d3, rfl, hQ3, hb3⟩
  dsimp only at hQ3
  have HB3 := Lib.hid (HB2a.out.trans (hb3.mono HB2a.out.size))
  have hbb := (Below.refl w3.heap.size w3).alloc (Nat.le_refl _) (.cells #[.slice a3 m3 c3, .slice b3 r3 d3, .int .i64 q.within, .string (strB q.by_), .int .i64 q.pick] 26)
  have HB3a := Lib.hid (HB3.out.trans (hbb.mono HB3.out.size))
  by_cases he : er = 0
  · by_cases he2 : er2 = 0
    · subst he he2
      have hp1 := HRT1.out rfl
      have hq1 := HRT2.out rfl
      have HA : ∀ W, Below w2.heap.size w2 W → QuAt (· < w1.heap.size) W a m c b r d p := fun W hW => ⟨HQ2.out.1.low hW, HQ2.out.2.low hW⟩
      have HBq : ∀ W, Below w3.heap.size w3 W → QuAt (· < (w2.alloc (.cells #[.slice a m c, .slice b r d, .int .i64 p.within, .string (strB p.by_), .int .i64 p.pick] 26)).heap.size) W a3 m3 c3 b3 r3 d3 q := fun W hW => ⟨hQ3.1.low hW, hQ3.2.low hW⟩
      have hw3 : Below w3.heap.size w3 ((w3.alloc (.cells #[.slice a3 m3 c3, .slice b3 r3 d3, .int .i64 q.within, .string (strB q.by_), .int .i64 q.pick] 26)).drew) := vbelow_drew hbb
      have hw2 : Below w2.heap.size w2 ((w3.alloc (.cells #[.slice a3 m3 c3, .slice b3 r3 d3, .int .i64 q.within, .string (strB q.by_), .int .i64 q.pick] 26)).drew) := HBA.out.trans ((hb3.trans (hw3.mono hb3.size)).mono (by simp))
      have HW : Hid (Below w.heap.size w ((w3.alloc (.cells #[.slice a3 m3 c3, .slice b3 r3 d3, .int .i64 q.within, .string (strB q.by_), .int .i64 q.pick] 26)).drew)) := vbelow_drew HB3a.out
      obtain ⟨l1, l2, l3⟩ := ln_query hp1 HBD1.out
      obtain ⟨z, hz⟩ : ∃ z, sameB p q = z := ⟨_, rfl⟩
      obtain ⟨s1, hs1⟩ : ∃ s, strB (printQ p) = s := ⟨_, rfl⟩
      obtain ⟨s2, hs2⟩ : ∃ s, strB (printQ q) = s := ⟨_, rfl⟩
      have HT := one_is p q hp1 hq1
      rw [hz, hs1, hs2] at HT
      have HT := Lib.hid HT
      have C0 : Hid (∀ W, Below ((w3.alloc (.cells #[.slice a3 m3 c3, .slice b3 r3 d3, .int .i64 q.within, .string (strB q.by_), .int .i64 q.pick] 26)).drew).heap.size ((w3.alloc (.cells #[.slice a3 m3 c3, .slice b3 r3 d3, .int .i64 q.within, .string (strB q.by_), .int .i64 q.pick] 26)).drew) W → Calls Tryz.prog 17 #[.agg #[.slice a m c, .slice b r d, .int .i64 p.within, .string (strB p.by_), .int .i64 p.pick], .agg #[.slice a3 m3 c3, .slice b3 r3 d3, .int .i64 q.within, .string (strB q.by_), .int .i64 q.pick]] W fun e w' => e = .returned (.bool z) ∧ Below W.heap.size W w') := fun W hW => by
        rw [← hz]
        exact same_calls p q (HA W (hw2.trans (hW.mono hw2.size))) (HBq W (hw3.trans (hW.mono hw3.size))) l1 l2 l3
      have C1 : Hid (∀ W, Below ((w3.alloc (.cells #[.slice a3 m3 c3, .slice b3 r3 d3, .int .i64 q.within, .string (strB q.by_), .int .i64 q.pick] 26)).drew).heap.size ((w3.alloc (.cells #[.slice a3 m3 c3, .slice b3 r3 d3, .int .i64 q.within, .string (strB q.by_), .int .i64 q.pick] 26)).drew) W → Calls Tryz.prog 23 #[.agg #[.slice a m c, .slice b r d, .int .i64 p.within, .string (strB p.by_), .int .i64 p.pick]] W fun e w' => e = .returned (.string s1) ∧ Below W.heap.size W w') := fun W hW => by
        rw [← hs1]
        exact print_calls (HA W (hw2.trans (hW.mono hw2.size))) HBD1.out (HPV.out.below (HW.out.trans (hW.mono HW.out.size)))
      have C2 : Hid (∀ W, Below ((w3.alloc (.cells #[.slice a3 m3 c3, .slice b3 r3 d3, .int .i64 q.within, .string (strB q.by_), .int .i64 q.pick] 26)).drew).heap.size ((w3.alloc (.cells #[.slice a3 m3 c3, .slice b3 r3 d3, .int .i64 q.within, .string (strB q.by_), .int .i64 q.pick] 26)).drew) W → Calls Tryz.prog 23 #[.agg #[.slice a3 m3 c3, .slice b3 r3 d3, .int .i64 q.within, .string (strB q.by_), .int .i64 q.pick]] W fun e w' => e = .returned (.string s2) ∧ Below W.heap.size W w') := fun W hW => by
        rw [← hs2]
        exact print_calls (HBq W (hw3.trans (hW.mono hw3.size))) HBD2.out (HPV.out.below (HW.out.trans (hW.mono HW.out.size)))
      have HB0 : Hid (Below ((w3.alloc (.cells #[.slice a3 m3 c3, .slice b3 r3 d3, .int .i64 q.within, .string (strB q.by_), .int .i64 q.pick] 26)).drew).heap.size ((w3.alloc (.cells #[.slice a3 m3 c3, .slice b3 r3 d3, .int .i64 q.within, .string (strB q.by_), .int .i64 q.pick] 26)).drew) ((w3.alloc (.cells #[.slice a3 m3 c3, .slice b3 r3 d3, .int .i64 q.within, .string (strB q.by_), .int .i64 q.pick] 26)).drew)) := Below.refl _ _
      have h0_0 : ((w3.alloc (.cells #[.slice a3 m3 c3, .slice b3 r3 d3, .int .i64 q.within, .string (strB q.by_), .int .i64 q.pick] 26)).drew).cell? ⟨w2.heap.size, 0, none⟩ = some (.slice a m c) := tkeep hbb (tkeep hb3 (tnew w2 #[.slice a m c, .slice b r d, .int .i64 p.within, .string (strB p.by_), .int .i64 p.pick] 26 0 rfl))
      have h0_1 : ((w3.alloc (.cells #[.slice a3 m3 c3, .slice b3 r3 d3, .int .i64 q.within, .string (strB q.by_), .int .i64 q.pick] 26)).drew).cell? ⟨w2.heap.size, 1, none⟩ = some (.slice b r d) := tkeep hbb (tkeep hb3 (tnew w2 #[.slice a m c, .slice b r d, .int .i64 p.within, .string (strB p.by_), .int .i64 p.pick] 26 1 rfl))
      have h0_2 : ((w3.alloc (.cells #[.slice a3 m3 c3, .slice b3 r3 d3, .int .i64 q.within, .string (strB q.by_), .int .i64 q.pick] 26)).drew).cell? ⟨w2.heap.size, 2, none⟩ = some (.int .i64 p.within) := tkeep hbb (tkeep hb3 (tnew w2 #[.slice a m c, .slice b r d, .int .i64 p.within, .string (strB p.by_), .int .i64 p.pick] 26 2 rfl))
      have h0_3 : ((w3.alloc (.cells #[.slice a3 m3 c3, .slice b3 r3 d3, .int .i64 q.within, .string (strB q.by_), .int .i64 q.pick] 26)).drew).cell? ⟨w2.heap.size, 3, none⟩ = some (.string (strB p.by_)) := tkeep hbb (tkeep hb3 (tnew w2 #[.slice a m c, .slice b r d, .int .i64 p.within, .string (strB p.by_), .int .i64 p.pick] 26 3 rfl))
      have h0_4 : ((w3.alloc (.cells #[.slice a3 m3 c3, .slice b3 r3 d3, .int .i64 q.within, .string (strB q.by_), .int .i64 q.pick] 26)).drew).cell? ⟨w2.heap.size, 4, none⟩ = some (.int .i64 p.pick) := tkeep hbb (tkeep hb3 (tnew w2 #[.slice a m c, .slice b r d, .int .i64 p.within, .string (strB p.by_), .int .i64 p.pick] 26 4 rfl))
      have h0_5 : ((w3.alloc (.cells #[.slice a3 m3 c3, .slice b3 r3 d3, .int .i64 q.within, .string (strB q.by_), .int .i64 q.pick] 26)).drew).cell? ⟨w3.heap.size, 0, none⟩ = some (.slice a3 m3 c3) := tnew w3 #[.slice a3 m3 c3, .slice b3 r3 d3, .int .i64 q.within, .string (strB q.by_), .int .i64 q.pick] 26 0 rfl
      have h0_6 : ((w3.alloc (.cells #[.slice a3 m3 c3, .slice b3 r3 d3, .int .i64 q.within, .string (strB q.by_), .int .i64 q.pick] 26)).drew).cell? ⟨w3.heap.size, 1, none⟩ = some (.slice b3 r3 d3) := tnew w3 #[.slice a3 m3 c3, .slice b3 r3 d3, .int .i64 q.within, .string (strB q.by_), .int .i64 q.pick] 26 1 rfl
      have h0_7 : ((w3.alloc (.cells #[.slice a3 m3 c3, .slice b3 r3 d3, .int .i64 q.within, .string (strB q.by_), .int .i64 q.pick] 26)).drew).cell? ⟨w3.heap.size, 2, none⟩ = some (.int .i64 q.within) := tnew w3 #[.slice a3 m3 c3, .slice b3 r3 d3, .int .i64 q.within, .string (strB q.by_), .int .i64 q.pick] 26 2 rfl
      have h0_8 : ((w3.alloc (.cells #[.slice a3 m3 c3, .slice b3 r3 d3, .int .i64 q.within, .string (strB q.by_), .int .i64 q.pick] 26)).drew).cell? ⟨w3.heap.size, 3, none⟩ = some (.string (strB q.by_)) := tnew w3 #[.slice a3 m3 c3, .slice b3 r3 d3, .int .i64 q.within, .string (strB q.by_), .int .i64 q.pick] 26 3 rfl
      have h0_9 : ((w3.alloc (.cells #[.slice a3 m3 c3, .slice b3 r3 d3, .int .i64 q.within, .string (strB q.by_), .int .i64 q.pick] 26)).drew).cell? ⟨w3.heap.size, 4, none⟩ = some (.int .i64 q.pick) := tnew w3 #[.slice a3 m3 c3, .slice b3 r3 d3, .int .i64 q.within, .string (strB q.by_), .int .i64 q.pick] 26 4 rfl
      clear hQ3 hb3 hbb hw2 hw3 HA HBq l1 l2 l3 hz hs1 hs2 hp1 hq1
      go_wp2_with fail
      refine wp_region_held_drew (S := fun W => W.cell? ⟨w2.heap.size, 0, none⟩ = some (.slice a m c) ∧ W.cell? ⟨w2.heap.size, 1, none⟩ = some (.slice b r d) ∧ W.cell? ⟨w2.heap.size, 2, none⟩ = some (.int .i64 p.within) ∧ W.cell? ⟨w2.heap.size, 3, none⟩ = some (.string (strB p.by_)) ∧ W.cell? ⟨w2.heap.size, 4, none⟩ = some (.int .i64 p.pick) ∧ W.cell? ⟨w3.heap.size, 0, none⟩ = some (.slice a3 m3 c3) ∧ W.cell? ⟨w3.heap.size, 1, none⟩ = some (.slice b3 r3 d3) ∧ W.cell? ⟨w3.heap.size, 2, none⟩ = some (.int .i64 q.within) ∧ W.cell? ⟨w3.heap.size, 3, none⟩ = some (.string (strB q.by_)) ∧ W.cell? ⟨w3.heap.size, 4, none⟩ = some (.int .i64 q.pick)) (by kernel_rfl) ⟨h0_0, h0_1, h0_2, h0_3, h0_4, h0_5, h0_6, h0_7, h0_8, h0_9⟩ (fun hHeld0 => ?_)
      refine ttakeH 0 41 (v := ?vs0) rfl (by kernel_rfl) (by kernel_rfl) (by kernel_rfl) rfl (fun _ _ _ h => h) (by rfl) ?ys0 (by assumption) ?rs0
      case ys0 => (intro W hSw; (try dsimp only at hSw); (try obtain ⟨hS0, hS1, hS2, hS3, hS4, hS5, hS6, hS7, hS8, hS9⟩ := hSw); go_simp; (try rw [if_neg (by omega)]); try with_reducible rfl)
      try simp only [Act.put, List.setIfInBounds_toArray, List.set_cons_zero, List.set_cons_succ]
      refine ttakeH 1 42 (v := ?vs1) rfl (by kernel_rfl) (by kernel_rfl) (by kernel_rfl) rfl (fun _ _ _ h => h) (by rfl) ?ys1 (by assumption) ?rs1
      case ys1 => (intro W hSw; (try dsimp only at hSw); (try obtain ⟨hS0, hS1, hS2, hS3, hS4, hS5, hS6, hS7, hS8, hS9⟩ := hSw); go_simp; (try rw [if_neg (by omega)]); try with_reducible rfl)
      try simp only [Act.put, List.setIfInBounds_toArray, List.set_cons_zero, List.set_cons_succ]
      refine ttakeH 2 43 (v := ?vs2) rfl (by kernel_rfl) (by kernel_rfl) (by kernel_rfl) rfl (fun _ _ _ h => h) (by rfl) ?ys2 (by assumption) ?rs2
      case ys2 => (intro W hSw; (try dsimp only at hSw); (try obtain ⟨hS0, hS1, hS2, hS3, hS4, hS5, hS6, hS7, hS8, hS9⟩ := hSw); go_simp; (try rw [if_neg (by omega)]); try with_reducible rfl)
      try simp only [Act.put, List.setIfInBounds_toArray, List.set_cons_zero, List.set_cons_succ]
      refine ttakeH 3 44 (v := ?vs3) rfl (by kernel_rfl) (by kernel_rfl) (by kernel_rfl) rfl (fun _ _ _ h => h) (by rfl) ?ys3 (by assumption) ?rs3
      case ys3 => (intro W hSw; (try dsimp only at hSw); (try obtain ⟨hS0, hS1, hS2, hS3, hS4, hS5, hS6, hS7, hS8, hS9⟩ := hSw); go_simp; (try rw [if_neg (by omega)]); try with_reducible rfl)
      try simp only [Act.put, List.setIfInBounds_toArray, List.set_cons_zero, List.set_cons_succ]
      refine ttakeH 5 46 (v := ?vs5) rfl (by kernel_rfl) (by kernel_rfl) (by kernel_rfl) rfl (fun _ _ _ h => h) (by rfl) ?ys5 (by assumption) ?rs5
      case ys5 => (intro W hSw; (try dsimp only at hSw); (try obtain ⟨hS0, hS1, hS2, hS3, hS4, hS5, hS6, hS7, hS8, hS9⟩ := hSw); go_simp; (try rw [if_neg (by omega)]); try with_reducible rfl)
      try simp only [Act.put, List.setIfInBounds_toArray, List.set_cons_zero, List.set_cons_succ]
      refine ttakeH 7 48 (v := ?vs7) rfl (by kernel_rfl) (by kernel_rfl) (by kernel_rfl) rfl (fun _ _ _ h => h) (by rfl) ?ys7 (by assumption) ?rs7
      case ys7 => (intro W hSw; (try dsimp only at hSw); (try obtain ⟨hS0, hS1, hS2, hS3, hS4, hS5, hS6, hS7, hS8, hS9⟩ := hSw); go_simp; (try rw [if_neg (by omega)]); try with_reducible rfl)
      try simp only [Act.put, List.setIfInBounds_toArray, List.set_cons_zero, List.set_cons_succ]
      refine wpAnyH_ready (rs := [4]) (by kernel_rfl) (by simp) ?_
      refine AllReadyH.cons (o := _) rfl (fun K hK => ?_) AllReadyH.nil
      dsimp only [List.getElem_toArray, List.getElem_cons_succ, List.getElem_cons_zero]
      go_simp
      go_at_call 17
      (with_reducible refine (C0.out _ HB0.out).mono ?_)
      rintro e v1 ⟨rfl, hb⟩
      have HB1 := Lib.hid (HB0.out.trans (hb.mono HB0.out.size))
      have h1_0 := tkeep hb h0_0
      have h1_1 := tkeep hb h0_1
      have h1_2 := tkeep hb h0_2
      have h1_3 := tkeep hb h0_3
      have h1_4 := tkeep hb h0_4
      have h1_5 := tkeep hb h0_5
      have h1_6 := tkeep hb h0_6
      have h1_7 := tkeep hb h0_7
      have h1_8 := tkeep hb h0_8
      have h1_9 := tkeep hb h0_9
      clear hb
      go_wp2_with fail
      refine hK.out _ _ ⟨h1_0, h1_1, h1_2, h1_3, h1_4, h1_5, h1_6, h1_7, h1_8, h1_9⟩ (fun hHeld1 => ?_)
      clear hK K
      try simp only [Act.put, List.setIfInBounds_toArray, List.set_cons_zero, List.set_cons_succ]
      refine wpAnyH_ready (rs := [6]) (by kernel_rfl) (by simp) ?_
      refine AllReadyH.cons (o := _) rfl (fun K hK => ?_) AllReadyH.nil
      dsimp only [List.getElem_toArray, List.getElem_cons_succ, List.getElem_cons_zero]
      go_simp
      go_at_call 23
      (with_reducible refine (C1.out _ HB1.out).mono ?_)
      rintro e v2 ⟨rfl, hb⟩
      have HB2 := Lib.hid (HB1.out.trans (hb.mono HB1.out.size))
      have h2_0 := tkeep hb h1_0
      have h2_1 := tkeep hb h1_1
      have h2_2 := tkeep hb h1_2
      have h2_3 := tkeep hb h1_3
      have h2_4 := tkeep hb h1_4
      have h2_5 := tkeep hb h1_5
      have h2_6 := tkeep hb h1_6
      have h2_7 := tkeep hb h1_7
      have h2_8 := tkeep hb h1_8
      have h2_9 := tkeep hb h1_9
      clear hb
      go_wp2_with fail
      refine hK.out _ _ ⟨h2_0, h2_1, h2_2, h2_3, h2_4, h2_5, h2_6, h2_7, h2_8, h2_9⟩ (fun hHeld2 => ?_)
      clear hK K
      try simp only [Act.put, List.setIfInBounds_toArray, List.set_cons_zero, List.set_cons_succ]
      refine wpAnyH_ready (rs := [8]) (by kernel_rfl) (by simp) ?_
      refine AllReadyH.cons (o := _) rfl (fun K hK => ?_) AllReadyH.nil
      dsimp only [List.getElem_toArray, List.getElem_cons_succ, List.getElem_cons_zero]
      go_simp
      go_at_call 23
      (with_reducible refine (C2.out _ HB2.out).mono ?_)
      rintro e v3 ⟨rfl, hb⟩
      have HB3 := Lib.hid (HB2.out.trans (hb.mono HB2.out.size))
      have h3_0 := tkeep hb h2_0
      have h3_1 := tkeep hb h2_1
      have h3_2 := tkeep hb h2_2
      have h3_3 := tkeep hb h2_3
      have h3_4 := tkeep hb h2_4
      have h3_5 := tkeep hb h2_5
      have h3_6 := tkeep hb h2_6
      have h3_7 := tkeep hb h2_7
      have h3_8 := tkeep hb h2_8
      have h3_9 := tkeep hb h2_9
      clear hb
      go_wp2_with fail
      refine hK.out _ _ ⟨h3_0, h3_1, h3_2, h3_3, h3_4, h3_5, h3_6, h3_7, h3_8, h3_9⟩ (fun hHeld3 => ?_)
      clear hK K
      try simp only [Act.put, List.setIfInBounds_toArray, List.set_cons_zero, List.set_cons_succ]
      refine ttakeH 9 50 (v := ?ve1_9) rfl (by kernel_rfl) (by kernel_rfl) (by kernel_rfl) rfl (fun _ _ _ h => h) (by rfl) ?ye1_9 (by assumption) ?re1_9
      case ye1_9 => (intro W hSw; (try dsimp only at hSw); (try obtain ⟨hS0, hS1, hS2, hS3, hS4, hS5, hS6, hS7, hS8, hS9⟩ := hSw); go_simp; (try rw [if_neg (by omega)]); try with_reducible rfl)
      try simp only [Act.put, List.setIfInBounds_toArray, List.set_cons_zero, List.set_cons_succ]
      refine ttakeH 10 51 (v := ?ve1_10) rfl (by kernel_rfl) (by kernel_rfl) (by kernel_rfl) rfl (fun _ _ _ h => h) (by rfl) ?ye1_10 (by assumption) ?re1_10
      case ye1_10 => (intro W hSw; (try dsimp only at hSw); (try obtain ⟨hS0, hS1, hS2, hS3, hS4, hS5, hS6, hS7, hS8, hS9⟩ := hSw); go_simp; (try rw [if_neg (by omega)]); try with_reducible rfl)
      try simp only [Act.put, List.setIfInBounds_toArray, List.set_cons_zero, List.set_cons_succ]
      refine ttakeH 11 52 (v := ?ve1_11) rfl (by kernel_rfl) (by kernel_rfl) (by kernel_rfl) rfl (fun _ _ _ h => h) (by rfl) ?ye1_11 (by assumption) ?re1_11
      case ye1_11 => (intro W hSw; (try dsimp only at hSw); (try obtain ⟨hS0, hS1, hS2, hS3, hS4, hS5, hS6, hS7, hS8, hS9⟩ := hSw); go_simp; (try rw [if_neg (by omega)]); try with_reducible rfl)
      try simp only [Act.put, List.setIfInBounds_toArray, List.set_cons_zero, List.set_cons_succ]
      refine ttakeH 12 4 (v := ?ve1_12) rfl (by kernel_rfl) (by kernel_rfl) (by kernel_rfl) rfl (fun _ _ _ h => h) (by rfl) ?ye1_12 (by assumption) ?re1_12
      case ye1_12 => (intro W hSw; (try dsimp only at hSw); (try obtain ⟨hS0, hS1, hS2, hS3, hS4, hS5, hS6, hS7, hS8, hS9⟩ := hSw); go_simp; (try rw [if_neg (by omega)]); try with_reducible rfl)
      try simp only [Act.put, List.setIfInBounds_toArray, List.set_cons_zero, List.set_cons_succ]
      refine wpAnyH_done (by kernel_rfl) ?_ _
      go_wp2
      go_ret
      first
        | exact ⟨tbool HT.out, HW.out.trans (HB3.out.mono HW.out.size)⟩
        | exact ⟨rfl, HW.out.trans (HB3.out.mono HW.out.size)⟩
    · have t2 : (er2 != 0) = true := by rw [bne_iff_ne]; exact he2
      subst he
      go_wp2
      go_ret
      exact ⟨rfl, HB3a.out⟩
  · have t2 : (er != 0) = true := by rw [bne_iff_ne]; exact he
    go_wp2
    go_ret
    exact ⟨rfl, HB3a.out⟩
end Go.Proofs.YtndmbljpfpnehaaGreatDoor
