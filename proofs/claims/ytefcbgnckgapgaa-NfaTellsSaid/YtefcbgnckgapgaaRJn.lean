/- Rows of states that are alike. -/
import Derived.Test.YtefcbgnckgapgaaMI
namespace Go.Proofs.Ytefcbgnckgapgaa
open Go.RowKit Go.Lib Go.Op

set_option maxHeartbeats 4000000 in
set_option maxRecDepth 100000 in
theorem nrsame_calls {K : Nat → Prop} {w : World} {a b : Option Addr} {c d : Nat} {l : List PSt} (h : RowK stateD K w (.slice a l.length c) l) (h2 : RowK stateD K w (.slice b l.length d) l) (hl : l.length ≤ 1000) (hs : ∀ s ∈ l, s.nx.length ≤ 1000 ∧ s.gd.length ≤ 1000) :
    Calls Try.prog 12 #[.slice a l.length c, .slice b l.length d] w fun e w' => e = .returned (.bool true) ∧ Below w.heap.size w w' := by
  have H := Lib.hid h
  have H2 := Lib.hid h2
  have HSB := Lib.hid hs
  obtain ⟨q, hq⟩ : ∃ q, l.length = q := ⟨_, rfl⟩
  have HQ := Lib.hid hq
  rw [hq] at hl ⊢
  have t1 : ((q : Int) != (q : Int)) = false := by simp
  have HS0 : Hid (Below w.heap.size w w) := Below.refl _ _
  clear h h2 hq hs
  go_enter Try.func12, Try.ntmps12
  go_wp2
  clear t1
  go_loopw [5] (fun i wr => ∃ j : Nat, i = .int .i64 j ∧ j ≤ q ∧ Hid (Below w.heap.size w wr)) (fun i _ => q - (RowKit.intOf i).toNat)
  case atStart => exact ⟨0, rfl, Nat.zero_le _, HS0⟩
  case round =>
    obtain ⟨j, rfl, hj, HB⟩ := hrel
    by_cases hlt : j < q
    · obtain ⟨s, hs⟩ : ∃ s, l[j]? = some s := ⟨_, List.getElem?_eq_getElem (by rw [HQ.out]; exact hlt)⟩
      obtain ⟨g, o, a1, c1, b1, d1, rfl, e0, e1, e2, r1, r2⟩ := (H.out.low HB.out).stateAt hs
      obtain ⟨g2, o2, a3, c3, b3, d3, rfl, k0, k1, k2, r3, r4⟩ := (H2.out.low HB.out).stateAt hs
      obtain ⟨sl1, sl2⟩ := HSB.out s (List.mem_of_getElem? hs)
      have hd := vbelow_drew (Below.refl wr.heap.size wr)
      obtain ⟨n1, hn1⟩ : ∃ n1, s.nx.length = n1 := ⟨_, rfl⟩
      obtain ⟨n2, hn2⟩ : ∃ n2, s.gd.length = n2 := ⟨_, rfl⟩
      have HC1 : Hid (∀ W, Below wr.drew.heap.size wr.drew W → Calls Try.prog 20 #[.slice a1 n1 c1, .slice a3 n1 c3] W fun e w' => e = .returned (.bool true) ∧ Below W.heap.size W w') := fun W hW => by
        rw [← hn1]
        exact nrsameInts_calls ((r1.low hd).low hW) ((r3.low hd).low hW) sl1
      have HC2 : Hid (∀ W, Below wr.drew.heap.size wr.drew W → Calls Try.prog 20 #[.slice b1 n2 d1, .slice b3 n2 d3] W fun e w' => e = .returned (.bool true) ∧ Below W.heap.size W w') := fun W hW => by
        rw [← hn2]
        exact nrsameInts_calls ((r2.low hd).low hW) ((r4.low hd).low hW) sl2
      rw [hn1] at e0 k0
      rw [hn2] at e1 k1
      have hw : IntKind.i64.wrap ((j : Int) + 1) = ((j + 1 : Nat) : Int) := by rw [IntWalk.i64_in _ (by omega)]; omega
      have t0 : (s.fin != s.fin) = false := by cases s.fin <;> rfl
      have HBd := Lib.hid (vbelow_drew HB.out)
      have HW : Hid (Below wr.drew.heap.size wr.drew wr.drew) := Below.refl _ _
      have f0 : wr.drew.cell? ⟨g, o + j * 3, none⟩ = some (.slice a1 n1 c1) := e0
      have f1 : wr.drew.cell? ⟨g, o + j * 3 + 1, none⟩ = some (.slice b1 n2 d1) := e1
      have f2 : wr.drew.cell? ⟨g, o + j * 3 + 2, none⟩ = some (.bool s.fin) := e2
      have f3 : wr.drew.cell? ⟨g2, o2 + j * 3, none⟩ = some (.slice a3 n1 c3) := k0
      have f4 : wr.drew.cell? ⟨g2, o2 + j * 3 + 1, none⟩ = some (.slice b3 n2 d3) := k1
      have f5 : wr.drew.cell? ⟨g2, o2 + j * 3 + 2, none⟩ = some (.bool s.fin) := k2
      clear hs r1 r2 r3 r4 sl1 sl2 hd hn1 hn2
      go_wp2_with fail
      clear e0 e1 e2 k0 k1 k2
      refine wp_region_held_drew (S := fun W => W.cell? ⟨g, o + j * 3, none⟩ = some (.slice a1 n1 c1) ∧ W.cell? ⟨g, o + j * 3 + 1, none⟩ = some (.slice b1 n2 d1) ∧ W.cell? ⟨g, o + j * 3 + 2, none⟩ = some (.bool s.fin) ∧ W.cell? ⟨g2, o2 + j * 3, none⟩ = some (.slice a3 n1 c3) ∧ W.cell? ⟨g2, o2 + j * 3 + 1, none⟩ = some (.slice b3 n2 d3) ∧ W.cell? ⟨g2, o2 + j * 3 + 2, none⟩ = some (.bool s.fin)) (by kernel_rfl) ⟨by assumption, by assumption, by assumption, by assumption, by assumption, by assumption⟩ (fun hHeld => ?_)
      refine ttakeH 0 17 (v := ?vs0) rfl (by kernel_rfl) (by kernel_rfl) (by kernel_rfl) rfl (fun _ _ _ h => h) (by rfl) ?ys0 (by assumption) ?rs0
      case ys0 => (intro W hSw; (try dsimp only at hSw); (try obtain ⟨hS0, hS1, hS2, hS3, hS4, hS5⟩ := hSw); go_simp; (try rw [if_neg (by omega)]); try with_reducible rfl)
      try simp only [Act.put, List.setIfInBounds_toArray, List.set_cons_zero, List.set_cons_succ]
      refine ttakeH 1 18 (v := ?vs1) rfl (by kernel_rfl) (by kernel_rfl) (by kernel_rfl) rfl (fun _ _ _ h => h) (by rfl) ?ys1 (by assumption) ?rs1
      case ys1 => (intro W hSw; (try dsimp only at hSw); (try obtain ⟨hS0, hS1, hS2, hS3, hS4, hS5⟩ := hSw); go_simp; (try rw [if_neg (by omega)]); try with_reducible rfl)
      try simp only [Act.put, List.setIfInBounds_toArray, List.set_cons_zero, List.set_cons_succ]
      refine ttakeH 2 19 (v := ?vs2) rfl (by kernel_rfl) (by kernel_rfl) (by kernel_rfl) rfl (fun _ _ _ h => h) (by rfl) ?ys2 (by assumption) ?rs2
      case ys2 => (intro W hSw; (try dsimp only at hSw); (try obtain ⟨hS0, hS1, hS2, hS3, hS4, hS5⟩ := hSw); go_simp; (try rw [if_neg (by omega)]); try with_reducible rfl)
      try simp only [Act.put, List.setIfInBounds_toArray, List.set_cons_zero, List.set_cons_succ]
      refine ttakeH 3 20 (v := ?vs3) rfl (by kernel_rfl) (by kernel_rfl) (by kernel_rfl) rfl (fun _ _ _ h => h) (by rfl) ?ys3 (by assumption) ?rs3
      case ys3 => (intro W hSw; (try dsimp only at hSw); (try obtain ⟨hS0, hS1, hS2, hS3, hS4, hS5⟩ := hSw); go_simp; (try rw [if_neg (by omega)]); try with_reducible rfl)
      try simp only [Act.put, List.setIfInBounds_toArray, List.set_cons_zero, List.set_cons_succ]
      refine ttakeH 4 21 (v := ?vs4) rfl (by kernel_rfl) (by kernel_rfl) (by kernel_rfl) rfl (fun _ _ _ h => h) (by rfl) ?ys4 (by assumption) ?rs4
      case ys4 => (intro W hSw; (try dsimp only at hSw); (try obtain ⟨hS0, hS1, hS2, hS3, hS4, hS5⟩ := hSw); go_simp; (try rw [if_neg (by omega)]); try with_reducible rfl)
      try simp only [Act.put, List.setIfInBounds_toArray, List.set_cons_zero, List.set_cons_succ]
      refine ttakeH 5 22 (v := ?vs5) rfl (by kernel_rfl) (by kernel_rfl) (by kernel_rfl) rfl (fun _ _ _ h => h) (by rfl) ?ys5 (by assumption) ?rs5
      case ys5 => (intro W hSw; (try dsimp only at hSw); (try obtain ⟨hS0, hS1, hS2, hS3, hS4, hS5⟩ := hSw); go_simp; (try rw [if_neg (by omega)]); try with_reducible rfl)
      try simp only [Act.put, List.setIfInBounds_toArray, List.set_cons_zero, List.set_cons_succ]
      refine ttakeH 6 23 (v := ?vs6) rfl (by kernel_rfl) (by kernel_rfl) (by kernel_rfl) rfl (fun _ _ _ h => h) (by rfl) ?ys6 (by assumption) ?rs6
      case ys6 => (intro W hSw; (try dsimp only at hSw); (try obtain ⟨hS0, hS1, hS2, hS3, hS4, hS5⟩ := hSw); go_simp; (try rw [if_neg (by omega)]); try with_reducible rfl)
      try simp only [Act.put, List.setIfInBounds_toArray, List.set_cons_zero, List.set_cons_succ]
      refine ttakeH 7 24 (v := ?vs7) rfl (by kernel_rfl) (by kernel_rfl) (by kernel_rfl) rfl (fun _ _ _ h => h) (by rfl) ?ys7 (by assumption) ?rs7
      case ys7 => (intro W hSw; (try dsimp only at hSw); (try obtain ⟨hS0, hS1, hS2, hS3, hS4, hS5⟩ := hSw); go_simp; (try rw [if_neg (by omega)]); try with_reducible rfl)
      try simp only [Act.put, List.setIfInBounds_toArray, List.set_cons_zero, List.set_cons_succ]
      refine ttakeH 8 25 (v := ?vs8) rfl (by kernel_rfl) (by kernel_rfl) (by kernel_rfl) rfl (fun _ _ _ h => h) (by rfl) ?ys8 (by assumption) ?rs8
      case ys8 => (intro W hSw; (try dsimp only at hSw); (try obtain ⟨hS0, hS1, hS2, hS3, hS4, hS5⟩ := hSw); go_simp; (try rw [if_neg (by omega)]); try with_reducible rfl)
      try simp only [Act.put, List.setIfInBounds_toArray, List.set_cons_zero, List.set_cons_succ]
      refine ttakeH 9 26 (v := ?vs9) rfl (by kernel_rfl) (by kernel_rfl) (by kernel_rfl) rfl (fun _ _ _ h => h) (by rfl) ?ys9 (by assumption) ?rs9
      case ys9 => (intro W hSw; (try dsimp only at hSw); (try obtain ⟨hS0, hS1, hS2, hS3, hS4, hS5⟩ := hSw); go_simp; (try rw [if_neg (by omega)]); try with_reducible rfl)
      try simp only [Act.put, List.setIfInBounds_toArray, List.set_cons_zero, List.set_cons_succ]
      refine ttakeH 10 27 (v := .bool false) rfl (by kernel_rfl) (by kernel_rfl) (by kernel_rfl) rfl (fun _ _ _ h => h) (by rfl) ?ys10 (by assumption) ?rs10
      case ys10 => (intro W hSw; (try dsimp only at hSw); (try obtain ⟨hS0, hS1, hS2, hS3, hS4, hS5⟩ := hSw); go_simp; (try rw [if_neg (by omega)]); try with_reducible rfl)
      try simp only [Act.put, List.setIfInBounds_toArray, List.set_cons_zero, List.set_cons_succ]
      refine ttakeH 11 28 (v := ?vs11) rfl (by kernel_rfl) (by kernel_rfl) (by kernel_rfl) rfl (fun _ _ _ h => h) (by rfl) ?ys11 (by assumption) ?rs11
      case ys11 => (intro W hSw; (try dsimp only at hSw); (try obtain ⟨hS0, hS1, hS2, hS3, hS4, hS5⟩ := hSw); go_simp; (try rw [if_neg (by omega)]); try with_reducible rfl)
      try simp only [Act.put, List.setIfInBounds_toArray, List.set_cons_zero, List.set_cons_succ]
      refine ttakeH 12 29 (v := ?vs12) rfl (by kernel_rfl) (by kernel_rfl) (by kernel_rfl) rfl (fun _ _ _ h => h) (by rfl) ?ys12 (by assumption) ?rs12
      case ys12 => (intro W hSw; (try dsimp only at hSw); (try obtain ⟨hS0, hS1, hS2, hS3, hS4, hS5⟩ := hSw); go_simp; (try rw [if_neg (by omega)]); try with_reducible rfl)
      try simp only [Act.put, List.setIfInBounds_toArray, List.set_cons_zero, List.set_cons_succ]
      refine ttakeH 13 30 (v := ?vs13) rfl (by kernel_rfl) (by kernel_rfl) (by kernel_rfl) rfl (fun _ _ _ h => h) (by rfl) ?ys13 (by assumption) ?rs13
      case ys13 => (intro W hSw; (try dsimp only at hSw); (try obtain ⟨hS0, hS1, hS2, hS3, hS4, hS5⟩ := hSw); go_simp; (try rw [if_neg (by omega)]); try with_reducible rfl)
      try simp only [Act.put, List.setIfInBounds_toArray, List.set_cons_zero, List.set_cons_succ]
      refine ttakeH 14 31 (v := ?vs14) rfl (by kernel_rfl) (by kernel_rfl) (by kernel_rfl) rfl (fun _ _ _ h => h) (by rfl) ?ys14 (by assumption) ?rs14
      case ys14 => (intro W hSw; (try dsimp only at hSw); (try obtain ⟨hS0, hS1, hS2, hS3, hS4, hS5⟩ := hSw); go_simp; (try rw [if_neg (by omega)]); try with_reducible rfl)
      try simp only [Act.put, List.setIfInBounds_toArray, List.set_cons_zero, List.set_cons_succ]
      refine ttakeH 15 32 (v := ?vs15) rfl (by kernel_rfl) (by kernel_rfl) (by kernel_rfl) rfl (fun _ _ _ h => h) (by rfl) ?ys15 (by assumption) ?rs15
      case ys15 => (intro W hSw; (try dsimp only at hSw); (try obtain ⟨hS0, hS1, hS2, hS3, hS4, hS5⟩ := hSw); go_simp; (try rw [if_neg (by omega)]); try with_reducible rfl)
      try simp only [Act.put, List.setIfInBounds_toArray, List.set_cons_zero, List.set_cons_succ]
      refine ttakeH 16 33 (v := ?vs16) rfl (by kernel_rfl) (by kernel_rfl) (by kernel_rfl) rfl (fun _ _ _ h => h) (by rfl) ?ys16 (by assumption) ?rs16
      case ys16 => (intro W hSw; (try dsimp only at hSw); (try obtain ⟨hS0, hS1, hS2, hS3, hS4, hS5⟩ := hSw); go_simp; (try rw [if_neg (by omega)]); try with_reducible rfl)
      try simp only [Act.put, List.setIfInBounds_toArray, List.set_cons_zero, List.set_cons_succ]
      refine ttakeH 17 34 (v := ?vs17) rfl (by kernel_rfl) (by kernel_rfl) (by kernel_rfl) rfl (fun _ _ _ h => h) (by rfl) ?ys17 (by assumption) ?rs17
      case ys17 => (intro W hSw; (try dsimp only at hSw); (try obtain ⟨hS0, hS1, hS2, hS3, hS4, hS5⟩ := hSw); go_simp; (try rw [if_neg (by omega)]); try with_reducible rfl)
      try simp only [Act.put, List.setIfInBounds_toArray, List.set_cons_zero, List.set_cons_succ]
      refine ttakeH 18 35 (v := ?vs18) rfl (by kernel_rfl) (by kernel_rfl) (by kernel_rfl) rfl (fun _ _ _ h => h) (by rfl) ?ys18 (by assumption) ?rs18
      case ys18 => (intro W hSw; (try dsimp only at hSw); (try obtain ⟨hS0, hS1, hS2, hS3, hS4, hS5⟩ := hSw); go_simp; (try rw [if_neg (by omega)]); try with_reducible rfl)
      try simp only [Act.put, List.setIfInBounds_toArray, List.set_cons_zero, List.set_cons_succ]
      refine ttakeH 19 36 (v := ?vs19) rfl (by kernel_rfl) (by kernel_rfl) (by kernel_rfl) rfl (fun _ _ _ h => h) (by rfl) ?ys19 (by assumption) ?rs19
      case ys19 => (intro W hSw; (try dsimp only at hSw); (try obtain ⟨hS0, hS1, hS2, hS3, hS4, hS5⟩ := hSw); go_simp; (try rw [if_neg (by omega)]); try with_reducible rfl)
      try simp only [Act.put, List.setIfInBounds_toArray, List.set_cons_zero, List.set_cons_succ]
      refine ttakeH 20 37 (v := ?vs20) rfl (by kernel_rfl) (by kernel_rfl) (by kernel_rfl) rfl (fun _ _ _ h => h) (by rfl) ?ys20 (by assumption) ?rs20
      case ys20 => (intro W hSw; (try dsimp only at hSw); (try obtain ⟨hS0, hS1, hS2, hS3, hS4, hS5⟩ := hSw); go_simp; (try rw [if_neg (by omega)]); try with_reducible rfl)
      try simp only [Act.put, List.setIfInBounds_toArray, List.set_cons_zero, List.set_cons_succ]
      refine ttakeH 21 38 (v := ?vs21) rfl (by kernel_rfl) (by kernel_rfl) (by kernel_rfl) rfl (fun _ _ _ h => h) (by rfl) ?ys21 (by assumption) ?rs21
      case ys21 => (intro W hSw; (try dsimp only at hSw); (try obtain ⟨hS0, hS1, hS2, hS3, hS4, hS5⟩ := hSw); go_simp; (try rw [if_neg (by omega)]); try with_reducible rfl)
      try simp only [Act.put, List.setIfInBounds_toArray, List.set_cons_zero, List.set_cons_succ]
      refine wpAnyH_ready (rs := [22]) (by kernel_rfl) (by simp) ?_
      refine AllReadyH.cons (o := _) rfl (fun K hK => ?_) AllReadyH.nil
      dsimp only [List.getElem_toArray, List.getElem_cons_succ, List.getElem_cons_zero]
      go_simp
      go_at_call 20
      (with_reducible refine (HC1.out _ HW.out).mono ?_)
      rintro e w7 ⟨rfl, hb⟩
      have HW2 := Lib.hid (HW.out.trans (hb.mono HW.out.size))
      have p0 := tkeep hb f0
      have p1 := tkeep hb f1
      have p2 := tkeep hb f2
      have p3 := tkeep hb f3
      have p4 := tkeep hb f4
      have p5 := tkeep hb f5
      clear hb
      go_wp2_with fail
      refine hK.out _ _ ⟨p0, p1, p2, p3, p4, p5⟩ (fun hHeld => ?_)
      clear hK K
      try simp only [Act.put, List.setIfInBounds_toArray, List.set_cons_zero, List.set_cons_succ]
      refine ttakeH 23 40 (v := ?vs23) rfl (by kernel_rfl) (by kernel_rfl) (by kernel_rfl) rfl (fun _ _ _ h => h) (by rfl) ?ys23 (by assumption) ?rs23
      case ys23 => (intro W hSw; (try dsimp only at hSw); (try obtain ⟨hS0, hS1, hS2, hS3, hS4, hS5⟩ := hSw); go_simp; (try rw [if_neg (by omega)]); try with_reducible rfl)
      try simp only [Act.put, List.setIfInBounds_toArray, List.set_cons_zero, List.set_cons_succ]
      refine ttakeH 24 41 (v := ?vs24) rfl (by kernel_rfl) (by kernel_rfl) (by kernel_rfl) rfl (fun _ _ _ h => h) (by rfl) ?ys24 (by assumption) ?rs24
      case ys24 => (intro W hSw; (try dsimp only at hSw); (try obtain ⟨hS0, hS1, hS2, hS3, hS4, hS5⟩ := hSw); go_simp; (try rw [if_neg (by omega)]); try with_reducible rfl)
      try simp only [Act.put, List.setIfInBounds_toArray, List.set_cons_zero, List.set_cons_succ]
      refine ttakeH 25 42 (v := ?vs25) rfl (by kernel_rfl) (by kernel_rfl) (by kernel_rfl) rfl (fun _ _ _ h => h) (by rfl) ?ys25 (by assumption) ?rs25
      case ys25 => (intro W hSw; (try dsimp only at hSw); (try obtain ⟨hS0, hS1, hS2, hS3, hS4, hS5⟩ := hSw); go_simp; (try rw [if_neg (by omega)]); try with_reducible rfl)
      try simp only [Act.put, List.setIfInBounds_toArray, List.set_cons_zero, List.set_cons_succ]
      refine ttakeH 26 43 (v := ?vs26) rfl (by kernel_rfl) (by kernel_rfl) (by kernel_rfl) rfl (fun _ _ _ h => h) (by rfl) ?ys26 (by assumption) ?rs26
      case ys26 => (intro W hSw; (try dsimp only at hSw); (try obtain ⟨hS0, hS1, hS2, hS3, hS4, hS5⟩ := hSw); go_simp; (try rw [if_neg (by omega)]); try with_reducible rfl)
      try simp only [Act.put, List.setIfInBounds_toArray, List.set_cons_zero, List.set_cons_succ]
      refine ttakeH 27 44 (v := ?vs27) rfl (by kernel_rfl) (by kernel_rfl) (by kernel_rfl) rfl (fun _ _ _ h => h) (by rfl) ?ys27 (by assumption) ?rs27
      case ys27 => (intro W hSw; (try dsimp only at hSw); (try obtain ⟨hS0, hS1, hS2, hS3, hS4, hS5⟩ := hSw); go_simp; (try rw [if_neg (by omega)]); try with_reducible rfl)
      try simp only [Act.put, List.setIfInBounds_toArray, List.set_cons_zero, List.set_cons_succ]
      refine ttakeH 28 45 (v := ?vs28) rfl (by kernel_rfl) (by kernel_rfl) (by kernel_rfl) rfl (fun _ _ _ h => h) (by rfl) ?ys28 (by assumption) ?rs28
      case ys28 => (intro W hSw; (try dsimp only at hSw); (try obtain ⟨hS0, hS1, hS2, hS3, hS4, hS5⟩ := hSw); go_simp; (try rw [if_neg (by omega)]); try with_reducible rfl)
      try simp only [Act.put, List.setIfInBounds_toArray, List.set_cons_zero, List.set_cons_succ]
      refine ttakeH 29 46 (v := ?vs29) rfl (by kernel_rfl) (by kernel_rfl) (by kernel_rfl) rfl (fun _ _ _ h => h) (by rfl) ?ys29 (by assumption) ?rs29
      case ys29 => (intro W hSw; (try dsimp only at hSw); (try obtain ⟨hS0, hS1, hS2, hS3, hS4, hS5⟩ := hSw); go_simp; (try rw [if_neg (by omega)]); try with_reducible rfl)
      try simp only [Act.put, List.setIfInBounds_toArray, List.set_cons_zero, List.set_cons_succ]
      refine ttakeH 30 47 (v := ?vs30) rfl (by kernel_rfl) (by kernel_rfl) (by kernel_rfl) rfl (fun _ _ _ h => h) (by rfl) ?ys30 (by assumption) ?rs30
      case ys30 => (intro W hSw; (try dsimp only at hSw); (try obtain ⟨hS0, hS1, hS2, hS3, hS4, hS5⟩ := hSw); go_simp; (try rw [if_neg (by omega)]); try with_reducible rfl)
      try simp only [Act.put, List.setIfInBounds_toArray, List.set_cons_zero, List.set_cons_succ]
      refine ttakeH 31 48 (v := ?vs31) rfl (by kernel_rfl) (by kernel_rfl) (by kernel_rfl) rfl (fun _ _ _ h => h) (by rfl) ?ys31 (by assumption) ?rs31
      case ys31 => (intro W hSw; (try dsimp only at hSw); (try obtain ⟨hS0, hS1, hS2, hS3, hS4, hS5⟩ := hSw); go_simp; (try rw [if_neg (by omega)]); try with_reducible rfl)
      try simp only [Act.put, List.setIfInBounds_toArray, List.set_cons_zero, List.set_cons_succ]
      refine ttakeH 32 49 (v := ?vs32) rfl (by kernel_rfl) (by kernel_rfl) (by kernel_rfl) rfl (fun _ _ _ h => h) (by rfl) ?ys32 (by assumption) ?rs32
      case ys32 => (intro W hSw; (try dsimp only at hSw); (try obtain ⟨hS0, hS1, hS2, hS3, hS4, hS5⟩ := hSw); go_simp; (try rw [if_neg (by omega)]); try with_reducible rfl)
      try simp only [Act.put, List.setIfInBounds_toArray, List.set_cons_zero, List.set_cons_succ]
      refine ttakeH 33 50 (v := ?vs33) rfl (by kernel_rfl) (by kernel_rfl) (by kernel_rfl) rfl (fun _ _ _ h => h) (by rfl) ?ys33 (by assumption) ?rs33
      case ys33 => (intro W hSw; (try dsimp only at hSw); (try obtain ⟨hS0, hS1, hS2, hS3, hS4, hS5⟩ := hSw); go_simp; (try rw [if_neg (by omega)]); try with_reducible rfl)
      try simp only [Act.put, List.setIfInBounds_toArray, List.set_cons_zero, List.set_cons_succ]
      refine ttakeH 34 51 (v := ?vs34) rfl (by kernel_rfl) (by kernel_rfl) (by kernel_rfl) rfl (fun _ _ _ h => h) (by rfl) ?ys34 (by assumption) ?rs34
      case ys34 => (intro W hSw; (try dsimp only at hSw); (try obtain ⟨hS0, hS1, hS2, hS3, hS4, hS5⟩ := hSw); go_simp; (try rw [if_neg (by omega)]); try with_reducible rfl)
      try simp only [Act.put, List.setIfInBounds_toArray, List.set_cons_zero, List.set_cons_succ]
      refine ttakeH 35 52 (v := ?vs35) rfl (by kernel_rfl) (by kernel_rfl) (by kernel_rfl) rfl (fun _ _ _ h => h) (by rfl) ?ys35 (by assumption) ?rs35
      case ys35 => (intro W hSw; (try dsimp only at hSw); (try obtain ⟨hS0, hS1, hS2, hS3, hS4, hS5⟩ := hSw); go_simp; (try rw [if_neg (by omega)]); try with_reducible rfl)
      try simp only [Act.put, List.setIfInBounds_toArray, List.set_cons_zero, List.set_cons_succ]
      refine wpAnyH_ready (rs := [36]) (by kernel_rfl) (by simp) ?_
      refine AllReadyH.cons (o := _) rfl (fun K hK => ?_) AllReadyH.nil
      dsimp only [List.getElem_toArray, List.getElem_cons_succ, List.getElem_cons_zero]
      go_simp
      go_at_call 20
      (with_reducible refine (HC2.out _ HW2.out).mono ?_)
      rintro e w8 ⟨rfl, hb⟩
      have HW3 := Lib.hid (HW2.out.trans (hb.mono HW2.out.size))
      have u0 := tkeep hb p0
      have u1 := tkeep hb p1
      have u2 := tkeep hb p2
      have u3 := tkeep hb p3
      have u4 := tkeep hb p4
      have u5 := tkeep hb p5
      clear hb
      go_wp2_with fail
      refine hK.out _ _ ⟨u0, u1, u2, u3, u4, u5⟩ (fun hHeld => ?_)
      clear hK K
      try simp only [Act.put, List.setIfInBounds_toArray, List.set_cons_zero, List.set_cons_succ]
      refine ttakeH 37 54 (v := ?vs37) rfl (by kernel_rfl) (by kernel_rfl) (by kernel_rfl) rfl (fun _ _ _ h => h) (by rfl) ?ys37 (by assumption) ?rs37
      case ys37 => (intro W hSw; (try dsimp only at hSw); (try obtain ⟨hS0, hS1, hS2, hS3, hS4, hS5⟩ := hSw); go_simp; (try rw [if_neg (by omega)]); try with_reducible rfl)
      try simp only [Act.put, List.setIfInBounds_toArray, List.set_cons_zero, List.set_cons_succ]
      refine ttakeH 38 55 (v := ?vs38) rfl (by kernel_rfl) (by kernel_rfl) (by kernel_rfl) rfl (fun _ _ _ h => h) (by rfl) ?ys38 (by assumption) ?rs38
      case ys38 => (intro W hSw; (try dsimp only at hSw); (try obtain ⟨hS0, hS1, hS2, hS3, hS4, hS5⟩ := hSw); go_simp; (try rw [if_neg (by omega)]); try with_reducible rfl)
      try simp only [Act.put, List.setIfInBounds_toArray, List.set_cons_zero, List.set_cons_succ]
      refine wpAnyH_done (by kernel_rfl) ?_ _
      go_wp2
      exact ⟨⟨j + 1, rfl, hlt, HBd.out.trans (HW3.out.mono HBd.out.size)⟩, by simp [RowKit.intOf]; omega⟩
    · have hjq : j = q := by omega
      go_wp2
      go_ret
      exact ⟨rfl, HB.out⟩
end Go.Proofs.Ytefcbgnckgapgaa
