/- Queries: which predicates, and which queries, are right. | Queries: which queries are right. -/
import Derived.Test.YtndmbljpfpnehaaGreatDoorM6
namespace Go.Proofs.YtndmbljpfpnehaaGreatDoor
open Go.RowKit Go.Lib Go.Op

def PrB (p : PPr) : Prop := XBd p.l ∧ XBd p.r
def QuB (q : PQu) : Prop := (∀ i ∈ q.its, ItB i) ∧ (∀ p ∈ q.prs, PrB p) ∧ q.by_.length ≤ 1000000

section
variable {w : World} {a b : Option Addr} {q c r d : Nat} {p : PPr}

set_option maxHeartbeats 1000000 in
set_option maxRecDepth 100000 in
theorem wp_low (h1 : p.cmp < 1) : Calls Tryz.prog 96 #[.agg #[.int .i64 p.cmp, .int .i64 p.l.k, .int .i64 p.l.v.k, .int .i64 p.l.v.n, .string (strB p.l.v.s), .string (strB p.l.x), .string (strB p.l.f), .slice a q c, .int .i64 p.r.k, .int .i64 p.r.v.k, .int .i64 p.r.v.n, .string (strB p.r.v.s), .string (strB p.r.x), .string (strB p.r.f), .slice b r d]] w fun e w' => e = .returned (.bool true) ∧ Below w.heap.size w w' := by
  have hb0 := (Below.refl w.heap.size w).alloc (Nat.le_refl _) (.cells #[.int .i64 p.cmp, .int .i64 p.l.k, .int .i64 p.l.v.k, .int .i64 p.l.v.n, .string (strB p.l.v.s), .string (strB p.l.x), .string (strB p.l.f), .slice a q c, .int .i64 p.r.k, .int .i64 p.r.v.k, .int .i64 p.r.v.n, .string (strB p.r.v.s), .string (strB p.r.x), .string (strB p.r.f), .slice b r d] 40)
  have HB0 := Lib.hid hb0
  have t1 : decide (p.cmp < 1) = true := decide_eq_true h1
  clear h1 hb0
  go_enter Tryz.func96, Tryz.ntmps96
  go_wp2
  go_ret
  exact ⟨rfl, HB0.out⟩
set_option maxHeartbeats 1000000 in
set_option maxRecDepth 100000 in
theorem wp_high (h1 : ¬ p.cmp < 1) (h2 : 6 < p.cmp) : Calls Tryz.prog 96 #[.agg #[.int .i64 p.cmp, .int .i64 p.l.k, .int .i64 p.l.v.k, .int .i64 p.l.v.n, .string (strB p.l.v.s), .string (strB p.l.x), .string (strB p.l.f), .slice a q c, .int .i64 p.r.k, .int .i64 p.r.v.k, .int .i64 p.r.v.n, .string (strB p.r.v.s), .string (strB p.r.x), .string (strB p.r.f), .slice b r d]] w fun e w' => e = .returned (.bool true) ∧ Below w.heap.size w w' := by
  have hb0 := (Below.refl w.heap.size w).alloc (Nat.le_refl _) (.cells #[.int .i64 p.cmp, .int .i64 p.l.k, .int .i64 p.l.v.k, .int .i64 p.l.v.n, .string (strB p.l.v.s), .string (strB p.l.x), .string (strB p.l.f), .slice a q c, .int .i64 p.r.k, .int .i64 p.r.v.k, .int .i64 p.r.v.n, .string (strB p.r.v.s), .string (strB p.r.x), .string (strB p.r.f), .slice b r d] 40)
  have HB0 := Lib.hid hb0
  have t1 : decide (p.cmp < 1) = false := decide_eq_false h1
  have t2 : decide (6 < p.cmp) = true := decide_eq_true h2
  clear h1 h2 hb0
  go_enter Tryz.func96, Tryz.ntmps96
  go_wp2
  go_ret
  exact ⟨rfl, HB0.out⟩
set_option maxHeartbeats 1000000 in
set_option maxRecDepth 100000 in
theorem wp_sides (h1 : ¬ p.cmp < 1) (h2 : ¬ 6 < p.cmp) (z1 z2 : Bool) (hl : ∀ W, Below w.heap.size w W → Calls Tryz.prog 97 #[exV p.l (.slice a q c), .int .i64 6] W fun e w' => e = .returned (.bool z1) ∧ Below W.heap.size W w') (hr : ∀ W, Below w.heap.size w W → Calls Tryz.prog 97 #[exV p.r (.slice b r d), .int .i64 6] W fun e w' => e = .returned (.bool z2) ∧ Below W.heap.size W w') : Calls Tryz.prog 96 #[.agg #[.int .i64 p.cmp, .int .i64 p.l.k, .int .i64 p.l.v.k, .int .i64 p.l.v.n, .string (strB p.l.v.s), .string (strB p.l.x), .string (strB p.l.f), .slice a q c, .int .i64 p.r.k, .int .i64 p.r.v.k, .int .i64 p.r.v.n, .string (strB p.r.v.s), .string (strB p.r.x), .string (strB p.r.f), .slice b r d]] w fun e w' => e = .returned (.bool (!(z1 && z2))) ∧ Below w.heap.size w w' := by
  have hb0 := (Below.refl w.heap.size w).alloc (Nat.le_refl _) (.cells #[.int .i64 p.cmp, .int .i64 p.l.k, .int .i64 p.l.v.k, .int .i64 p.l.v.n, .string (strB p.l.v.s), .string (strB p.l.x), .string (strB p.l.f), .slice a q c, .int .i64 p.r.k, .int .i64 p.r.v.k, .int .i64 p.r.v.n, .string (strB p.r.v.s), .string (strB p.r.x), .string (strB p.r.f), .slice b r d] 40)
  have HB0 := Lib.hid hb0
  have t1 : decide (p.cmp < 1) = false := decide_eq_false h1
  have t2 : decide (6 < p.cmp) = false := decide_eq_false h2
  have H1 := Lib.hid (hl _ hb0)
  have H2 := Lib.hid hr
  simp only [xexV] at H1 H2
  clear h1 h2 hb0 hl hr
  cases z1 with
  | false =>
    go_enter Tryz.func96, Tryz.ntmps96
    go_wp2_with (go_at_call 97; (with_reducible refine H1.out.mono ?_); rintro e w1 ⟨rfl, hb1⟩; have HB1 := Lib.hid (HB0.out.trans (hb1.mono HB0.out.size)); clear hb1)
    go_ret
    exact ⟨rfl, HB1.out⟩
  | true =>
    go_enter Tryz.func96, Tryz.ntmps96
    go_wp2_with (first
      | (go_at_call 97; (with_reducible refine H1.out.mono ?_); rintro e w1 ⟨rfl, hb1⟩; have m8 := tkeep hb1 (tnew w #[.int .i64 p.cmp, .int .i64 p.l.k, .int .i64 p.l.v.k, .int .i64 p.l.v.n, .string (strB p.l.v.s), .string (strB p.l.x), .string (strB p.l.f), .slice a q c, .int .i64 p.r.k, .int .i64 p.r.v.k, .int .i64 p.r.v.n, .string (strB p.r.v.s), .string (strB p.r.x), .string (strB p.r.f), .slice b r d] 40 8 rfl); have m9 := tkeep hb1 (tnew w #[.int .i64 p.cmp, .int .i64 p.l.k, .int .i64 p.l.v.k, .int .i64 p.l.v.n, .string (strB p.l.v.s), .string (strB p.l.x), .string (strB p.l.f), .slice a q c, .int .i64 p.r.k, .int .i64 p.r.v.k, .int .i64 p.r.v.n, .string (strB p.r.v.s), .string (strB p.r.x), .string (strB p.r.f), .slice b r d] 40 9 rfl); have m10 := tkeep hb1 (tnew w #[.int .i64 p.cmp, .int .i64 p.l.k, .int .i64 p.l.v.k, .int .i64 p.l.v.n, .string (strB p.l.v.s), .string (strB p.l.x), .string (strB p.l.f), .slice a q c, .int .i64 p.r.k, .int .i64 p.r.v.k, .int .i64 p.r.v.n, .string (strB p.r.v.s), .string (strB p.r.x), .string (strB p.r.f), .slice b r d] 40 10 rfl); have m11 := tkeep hb1 (tnew w #[.int .i64 p.cmp, .int .i64 p.l.k, .int .i64 p.l.v.k, .int .i64 p.l.v.n, .string (strB p.l.v.s), .string (strB p.l.x), .string (strB p.l.f), .slice a q c, .int .i64 p.r.k, .int .i64 p.r.v.k, .int .i64 p.r.v.n, .string (strB p.r.v.s), .string (strB p.r.x), .string (strB p.r.f), .slice b r d] 40 11 rfl); have m12 := tkeep hb1 (tnew w #[.int .i64 p.cmp, .int .i64 p.l.k, .int .i64 p.l.v.k, .int .i64 p.l.v.n, .string (strB p.l.v.s), .string (strB p.l.x), .string (strB p.l.f), .slice a q c, .int .i64 p.r.k, .int .i64 p.r.v.k, .int .i64 p.r.v.n, .string (strB p.r.v.s), .string (strB p.r.x), .string (strB p.r.f), .slice b r d] 40 12 rfl); have m13 := tkeep hb1 (tnew w #[.int .i64 p.cmp, .int .i64 p.l.k, .int .i64 p.l.v.k, .int .i64 p.l.v.n, .string (strB p.l.v.s), .string (strB p.l.x), .string (strB p.l.f), .slice a q c, .int .i64 p.r.k, .int .i64 p.r.v.k, .int .i64 p.r.v.n, .string (strB p.r.v.s), .string (strB p.r.x), .string (strB p.r.f), .slice b r d] 40 13 rfl); have m14 := tkeep hb1 (tnew w #[.int .i64 p.cmp, .int .i64 p.l.k, .int .i64 p.l.v.k, .int .i64 p.l.v.n, .string (strB p.l.v.s), .string (strB p.l.x), .string (strB p.l.f), .slice a q c, .int .i64 p.r.k, .int .i64 p.r.v.k, .int .i64 p.r.v.n, .string (strB p.r.v.s), .string (strB p.r.x), .string (strB p.r.f), .slice b r d] 40 14 rfl); have HB1 := Lib.hid (HB0.out.trans (hb1.mono HB0.out.size)); clear hb1)
      | (go_at_call 97; (with_reducible refine (H2.out _ HB1.out).mono ?_); rintro e w2 ⟨rfl, hb2⟩; have HB2 := Lib.hid (HB1.out.trans (hb2.mono HB1.out.size)); clear hb2))
    go_ret
    exact ⟨tbool (by cases z2 <;> rfl), HB2.out⟩

theorem rightP1_calls {K : Nat → Prop} {e1 e2 : Nat} (hb : PrB p) (h1 : ExK K w e1 (.slice a p.l.ks.length c) p.l.ks) (h2 : ExK K w e2 (.slice b p.r.ks.length d) p.r.ks) (hq : q = p.l.ks.length) (hr : r = p.r.ks.length) :
    Calls Tryz.prog 96 #[.agg #[.int .i64 p.cmp, .int .i64 p.l.k, .int .i64 p.l.v.k, .int .i64 p.l.v.n, .string (strB p.l.v.s), .string (strB p.l.x), .string (strB p.l.f), .slice a q c, .int .i64 p.r.k, .int .i64 p.r.v.k, .int .i64 p.r.v.n, .string (strB p.r.v.s), .string (strB p.r.x), .string (strB p.r.f), .slice b r d]] w fun e w' => e = .returned (.bool (!rightP p)) ∧ Below w.heap.size w w' := by
  subst hq hr
  unfold rightP
  by_cases l1 : p.cmp < 1
  · rw [show decide (1 ≤ p.cmp ∧ p.cmp ≤ 6) = false by simp; omega]
    exact wp_low l1
  by_cases l2 : 6 < p.cmp
  · rw [show decide (1 ≤ p.cmp ∧ p.cmp ≤ 6) = false by simp; omega]
    exact wp_high l1 l2
  rw [show decide (1 ≤ p.cmp ∧ p.cmp ≤ 6) = true by simp; omega, Bool.true_and]
  exact wp_sides l1 l2 _ _ (fun W hW => rightE_calls 6 (by decide) p.l hb.1 W e1 a c (h1.keep (TFr.of_below hW))) (fun W hW => rightE_calls 6 (by decide) p.r hb.2 W e2 b d (h2.keep (TFr.of_below hW)))
end

/-- The cells of a row of predicates. -/
theorem RowK.predAt {K : Nat → Prop} {w : World} {a : Option Addr} {n c : Nat} {l : List PPr} (h : RowK predD K w (.slice a n c) l) {j : Nat} {p : PPr} (hj : l[j]? = some p) : ∃ g o a1 q c1 b1 r d1 e, a = some ⟨g, o, none⟩ ∧ (∀ k u, (#[.int .i64 p.cmp, .int .i64 p.l.k, .int .i64 p.l.v.k, .int .i64 p.l.v.n, .string (strB p.l.v.s), .string (strB p.l.x), .string (strB p.l.f), .slice a1 q c1, .int .i64 p.r.k, .int .i64 p.r.v.k, .int .i64 p.r.v.n, .string (strB p.r.v.s), .string (strB p.r.x), .string (strB p.r.f), .slice b1 r d1] : Array Value)[k]? = some u → w.cell? ⟨g, o + j * 15 + k, none⟩ = some u) ∧ q = p.l.ks.length ∧ r = p.r.ks.length ∧ ExK K w e (.slice a1 p.l.ks.length c1) p.l.ks ∧ ExK K w e (.slice b1 p.r.ks.length d1) p.r.ks := by
  obtain ⟨a', c', e, _, h⟩ := h
  injection e with e1 e2 e3
  obtain ⟨g, o, cs, ea, hg, ⟨a1, q, c1, b1, r, d1, e, hcs, hl, hr⟩, hc⟩ := h j p hj
  subst hcs
  obtain ⟨a2, c2, e4⟩ := hl.slice
  obtain ⟨a3, c3, e5⟩ := hr.slice
  injection e4 with e41 e42 e43
  injection e5 with e51 e52 e53
  rw [e42] at hl
  rw [e52] at hr
  exact ⟨g, o, a1, q, c1, b1, r, d1, e, e1.trans ea, fun k u hu => hc k u (by simpa [exL] using hu), e42, e52, hl, hr⟩

set_option maxHeartbeats 1000000 in
set_option maxRecDepth 100000 in
theorem indexP_calls {K : Nat → Prop} {w : World} {a : Option Addr} {c : Nat} {l : List PPr} (h : RowK predD K w (.slice a l.length c) l) (hl : l.length ≤ 1000000) (hbd : ∀ p ∈ l, PrB p) :
    Calls Tryz.prog 149 #[.slice a l.length c, .func (.func 96) #[] #[]] w fun e w' => ∃ i : Int, e = .returned (.int .i64 i) ∧ (0 ≤ i ↔ l.all rightP = false) ∧ Below w.heap.size w w' := by
  have H := Lib.hid h
  obtain ⟨n, hn⟩ : ∃ n, l.length = n := ⟨_, rfl⟩
  have HN := Lib.hid hn
  have HBD := Lib.hid hbd
  obtain ⟨z, hz⟩ : ∃ z, l.all rightP = z := ⟨_, rfl⟩
  have HZ := Lib.hid hz
  rw [hz]
  rw [hn] at hl ⊢
  clear h hn hbd hz
  go_enter Tryz.func149, Tryz.ntmps149
  go_wp2
  go_loopw [8] (fun k wr => ∃ j : Nat, k = .int .i64 j ∧ j ≤ n ∧ Hid (∀ p ∈ l.take j, rightP p = true) ∧ Hid (Below w.heap.size w wr)) (fun k _ => n - (RowKit.intOf k).toNat)
  case atStart => exact ⟨0, rfl, Nat.zero_le _, fun p hp => (by simp at hp), Below.refl _ _⟩
  case round =>
    obtain ⟨j, rfl, hj, HA, HB⟩ := hrel
    by_cases hlt : j < n
    · obtain ⟨p, hp⟩ : ∃ p, l[j]? = some p := ⟨_, List.getElem?_eq_getElem (by rw [HN.out]; exact hlt)⟩
      obtain ⟨g, o, a1, q, c1, b1, r, d1, ed, rfl, hcell, hq, hr, h1, h2⟩ := (H.out.low HB.out).predAt hp
      have HP := Lib.hid (rightP1_calls (w := wr) (q := q) (r := r) (HBD.out p (List.mem_of_getElem? hp)) h1 h2 hq hr)
      have m0 := hcell 0 _ rfl
      have m1 := hcell 1 _ rfl
      have m2 := hcell 2 _ rfl
      have m3 := hcell 3 _ rfl
      have m4 := hcell 4 _ rfl
      have m5 := hcell 5 _ rfl
      have m6 := hcell 6 _ rfl
      have m7 := hcell 7 _ rfl
      have m8 := hcell 8 _ rfl
      have m9 := hcell 9 _ rfl
      have m10 := hcell 10 _ rfl
      have m11 := hcell 11 _ rfl
      have m12 := hcell 12 _ rfl
      have m13 := hcell 13 _ rfl
      have m14 := hcell 14 _ rfl
      have HJ := Lib.hid hp
      obtain ⟨t, ht⟩ : ∃ t, rightP p = t := ⟨_, rfl⟩
      rw [ht] at HP
      have HT := Lib.hid ht
      clear hp hcell hq hr h1 h2 ht
      simp only [Nat.add_zero] at m0
      cases t with
      | false =>
        have hz0 : z = false := HZ.out.symm.trans (List.all_eq_false.2 ⟨p, List.mem_of_getElem? HJ.out, by rw [HT.out]; simp⟩)
        subst hz0
        go_wp2_with (go_at_call 96; (with_reducible refine HP.out.mono ?_); rintro e w1 ⟨rfl, hb1⟩; have HB1 := Lib.hid (HB.out.trans (hb1.mono HB.out.size)); clear hb1)
        go_ret
        exact ⟨_, rfl, by simp, HB1.out⟩
      | true =>
        have HA2 : Hid (∀ p ∈ l.take (j + 1), rightP p = true) := fun x hx => by
          rw [List.take_add_one, HJ.out] at hx
          rcases List.mem_append.1 hx with hx | hx
          · exact HA.out x hx
          · obtain rfl : x = p := by simpa using hx
            exact HT.out
        go_wp2_with (go_at_call 96; (with_reducible refine HP.out.mono ?_); rintro e w1 ⟨rfl, hb1⟩; have HB1 := Lib.hid (HB.out.trans (hb1.mono HB.out.size)); clear hb1)
        go_round
        case rel => exact ⟨j + 1, by go_num, by omega, HA2, HB1⟩
        case measure => simp [RowKit.intOf]; omega
    · have hz2 : z = true := by
        rw [← HZ.out]
        exact List.all_eq_true.2 (fun p hp => HA.out p (by rw [show j = l.length by rw [HN.out]; omega, List.take_length]; exact hp))
      subst hz2
      go_wp2
      go_ret
      exact ⟨-1, rfl, by simp, HB.out⟩

end Go.Proofs.YtndmbljpfpnehaaGreatDoor
namespace Go.Proofs.YtndmbljpfpnehaaGreatDoor
open Go.RowKit Go.Lib Go.Op

set_option maxHeartbeats 1000000 in
set_option maxRecDepth 100000 in
theorem containsP_calls {K : Nat → Prop} {w : World} {a : Option Addr} {c : Nat} {l : List PPr} (h : RowK predD K w (.slice a l.length c) l) (hl : l.length ≤ 1000000) (hbd : ∀ p ∈ l, PrB p) :
    Calls Tryz.prog 98 #[.slice a l.length c, .func (.func 96) #[] #[]] w fun e w' => e = .returned (.bool (!(l.all rightP))) ∧ Below w.heap.size w w' := by
  have HI := Lib.hid (indexP_calls h hl hbd)
  obtain ⟨n, hn⟩ : ∃ n, l.length = n := ⟨_, rfl⟩
  obtain ⟨z, hz⟩ : ∃ z, l.all rightP = z := ⟨_, rfl⟩
  rw [hz] at HI ⊢
  rw [hn] at HI ⊢
  clear h hl hbd hn hz
  go_enter Tryz.func98, Tryz.ntmps98
  go_wp2_with fail
  with_reducible refine HI.out.mono ?_
  rintro e w1 ⟨i, rfl, hi, hb⟩
  have HB := Lib.hid hb
  cases z with
  | false =>
    have t0 : decide (0 ≤ i) = true := decide_eq_true (hi.2 rfl)
    clear hb hi
    go_wp2
    go_ret
    exact ⟨rfl, HB.out⟩
  | true =>
    have t0 : decide (0 ≤ i) = false := decide_eq_false (fun h => by have := hi.1 h; simp at this)
    clear hb hi
    go_wp2
    go_ret
    exact ⟨rfl, HB.out⟩

set_option maxHeartbeats 1000000 in
set_option maxRecDepth 100000 in
theorem rightPreds_calls {K : Nat → Prop} {w : World} {a : Option Addr} {c : Nat} {l : List PPr} (h : RowK predD K w (.slice a l.length c) l) (hbd : ∀ p ∈ l, PrB p) :
    Calls Tryz.prog 42 #[.slice a l.length c] w fun e w' => e = .returned (.bool (decide (l.length ≤ 8) && l.all rightP)) ∧ Below w.heap.size w w' := by
  by_cases h8 : l.length ≤ 8
  · have HC := Lib.hid (containsP_calls h (by omega) hbd)
    rw [decide_eq_true h8, Bool.true_and]
    obtain ⟨n, hn⟩ : ∃ n, l.length = n := ⟨_, rfl⟩
    obtain ⟨z, hz⟩ : ∃ z, l.all rightP = z := ⟨_, rfl⟩
    rw [hz] at HC ⊢
    rw [hn] at HC h8 ⊢
    have t0 : decide ((n : Int) ≤ 8) = true := decide_eq_true (by omega)
    clear h hbd hn hz
    go_enter Tryz.func42, Tryz.ntmps42
    go_wp2_with (go_at_call 98; (with_reducible refine HC.out.mono ?_); rintro e w1 ⟨rfl, hb⟩; have HB := Lib.hid hb; clear hb)
    go_ret
    exact ⟨tbool (by cases z <;> rfl), HB.out⟩
  · rw [decide_eq_false h8, Bool.false_and]
    obtain ⟨n, hn⟩ : ∃ n, l.length = n := ⟨_, rfl⟩
    rw [hn] at h8 ⊢
    have t0 : decide ((n : Int) ≤ 8) = false := decide_eq_false (by omega)
    clear h hbd hn
    go_enter Tryz.func42, Tryz.ntmps42
    go_wp2
    go_ret
    exact ⟨rfl, Below.refl _ _⟩

section
variable {w : World} {a b : Option Addr} {q c r d : Nat} {wi pk : Int} {bb : List UInt8}

set_option maxHeartbeats 1000000 in
set_option maxRecDepth 100000 in
theorem rq_items (hI : ∀ W, Below w.heap.size w W → Calls Tryz.prog 41 #[.slice a q c] W fun e w' => e = .returned (.bool false) ∧ Below W.heap.size W w') : Calls Tryz.prog 21 #[.agg #[.slice a q c, .slice b r d, .int .i64 wi, .string (strB bb), .int .i64 pk]] w fun e w' => e = .returned (.bool false) ∧ Below w.heap.size w w' := by
  have hb0 := (Below.refl w.heap.size w).alloc (Nat.le_refl _) (.cells #[.slice a q c, .slice b r d, .int .i64 wi, .string (strB bb), .int .i64 pk] 26)
  have HB0 := Lib.hid hb0
  have HI := Lib.hid (hI _ hb0)
  clear hI hb0
  go_enter Tryz.func21, Tryz.ntmps21
  go_wp2_with (go_at_call 41; (with_reducible refine HI.out.mono ?_); rintro e w1 ⟨rfl, hb1⟩; have m1 := tkeep hb1 (tnew w #[.slice a q c, .slice b r d, .int .i64 wi, .string (strB bb), .int .i64 pk] 26 1 rfl); have m2 := tkeep hb1 (tnew w #[.slice a q c, .slice b r d, .int .i64 wi, .string (strB bb), .int .i64 pk] 26 2 rfl); have m3 := tkeep hb1 (tnew w #[.slice a q c, .slice b r d, .int .i64 wi, .string (strB bb), .int .i64 pk] 26 3 rfl); have m4 := tkeep hb1 (tnew w #[.slice a q c, .slice b r d, .int .i64 wi, .string (strB bb), .int .i64 pk] 26 4 rfl); have HB1 := Lib.hid (HB0.out.trans (hb1.mono HB0.out.size)); clear hb1)
  go_ret
  exact ⟨rfl, HB1.out⟩
set_option maxHeartbeats 1000000 in
set_option maxRecDepth 100000 in
theorem rq_preds (hI : ∀ W, Below w.heap.size w W → Calls Tryz.prog 41 #[.slice a q c] W fun e w' => e = .returned (.bool true) ∧ Below W.heap.size W w') (hP : ∀ W, Below w.heap.size w W → Calls Tryz.prog 42 #[.slice b r d] W fun e w' => e = .returned (.bool false) ∧ Below W.heap.size W w') : Calls Tryz.prog 21 #[.agg #[.slice a q c, .slice b r d, .int .i64 wi, .string (strB bb), .int .i64 pk]] w fun e w' => e = .returned (.bool false) ∧ Below w.heap.size w w' := by
  have hb0 := (Below.refl w.heap.size w).alloc (Nat.le_refl _) (.cells #[.slice a q c, .slice b r d, .int .i64 wi, .string (strB bb), .int .i64 pk] 26)
  have HB0 := Lib.hid hb0
  have HI := Lib.hid (hI _ hb0)
  have HP := Lib.hid hP
  clear hI hb0 hP
  go_enter Tryz.func21, Tryz.ntmps21
  go_wp2_with (first
    | (go_at_call 41; (with_reducible refine HI.out.mono ?_); rintro e w1 ⟨rfl, hb1⟩; have m1 := tkeep hb1 (tnew w #[.slice a q c, .slice b r d, .int .i64 wi, .string (strB bb), .int .i64 pk] 26 1 rfl); have m2 := tkeep hb1 (tnew w #[.slice a q c, .slice b r d, .int .i64 wi, .string (strB bb), .int .i64 pk] 26 2 rfl); have m3 := tkeep hb1 (tnew w #[.slice a q c, .slice b r d, .int .i64 wi, .string (strB bb), .int .i64 pk] 26 3 rfl); have m4 := tkeep hb1 (tnew w #[.slice a q c, .slice b r d, .int .i64 wi, .string (strB bb), .int .i64 pk] 26 4 rfl); have HB1 := Lib.hid (HB0.out.trans (hb1.mono HB0.out.size)); clear hb1)
    | (go_at_call 42; (with_reducible refine (HP.out _ HB1.out).mono ?_); rintro e w2 ⟨rfl, hb2⟩; have n1 := tkeep hb2 m1; have n2 := tkeep hb2 m2; have n3 := tkeep hb2 m3; have n4 := tkeep hb2 m4; have HB2 := Lib.hid (HB1.out.trans (hb2.mono HB1.out.size)); clear hb2))
  go_ret
  exact ⟨rfl, HB2.out⟩
set_option maxHeartbeats 1000000 in
set_option maxRecDepth 100000 in
theorem rq_neg (hI : ∀ W, Below w.heap.size w W → Calls Tryz.prog 41 #[.slice a q c] W fun e w' => e = .returned (.bool true) ∧ Below W.heap.size W w') (hP : ∀ W, Below w.heap.size w W → Calls Tryz.prog 42 #[.slice b r d] W fun e w' => e = .returned (.bool true) ∧ Below W.heap.size W w') (h1 : ¬ 0 ≤ wi) : Calls Tryz.prog 21 #[.agg #[.slice a q c, .slice b r d, .int .i64 wi, .string (strB bb), .int .i64 pk]] w fun e w' => e = .returned (.bool false) ∧ Below w.heap.size w w' := by
  have hb0 := (Below.refl w.heap.size w).alloc (Nat.le_refl _) (.cells #[.slice a q c, .slice b r d, .int .i64 wi, .string (strB bb), .int .i64 pk] 26)
  have HB0 := Lib.hid hb0
  have HI := Lib.hid (hI _ hb0)
  have HP := Lib.hid hP
  have t1 : decide (0 ≤ wi) = false := decide_eq_false h1
  clear h1
  clear hI hb0 hP
  go_enter Tryz.func21, Tryz.ntmps21
  go_wp2_with (first
    | (go_at_call 41; (with_reducible refine HI.out.mono ?_); rintro e w1 ⟨rfl, hb1⟩; have m1 := tkeep hb1 (tnew w #[.slice a q c, .slice b r d, .int .i64 wi, .string (strB bb), .int .i64 pk] 26 1 rfl); have m2 := tkeep hb1 (tnew w #[.slice a q c, .slice b r d, .int .i64 wi, .string (strB bb), .int .i64 pk] 26 2 rfl); have m3 := tkeep hb1 (tnew w #[.slice a q c, .slice b r d, .int .i64 wi, .string (strB bb), .int .i64 pk] 26 3 rfl); have m4 := tkeep hb1 (tnew w #[.slice a q c, .slice b r d, .int .i64 wi, .string (strB bb), .int .i64 pk] 26 4 rfl); have HB1 := Lib.hid (HB0.out.trans (hb1.mono HB0.out.size)); clear hb1)
    | (go_at_call 42; (with_reducible refine (HP.out _ HB1.out).mono ?_); rintro e w2 ⟨rfl, hb2⟩; have n1 := tkeep hb2 m1; have n2 := tkeep hb2 m2; have n3 := tkeep hb2 m3; have n4 := tkeep hb2 m4; have HB2 := Lib.hid (HB1.out.trans (hb2.mono HB1.out.size)); clear hb2))
  go_ret
  exact ⟨rfl, HB2.out⟩
set_option maxHeartbeats 1000000 in
set_option maxRecDepth 100000 in
theorem rq_long (hI : ∀ W, Below w.heap.size w W → Calls Tryz.prog 41 #[.slice a q c] W fun e w' => e = .returned (.bool true) ∧ Below W.heap.size W w') (hP : ∀ W, Below w.heap.size w W → Calls Tryz.prog 42 #[.slice b r d] W fun e w' => e = .returned (.bool true) ∧ Below W.heap.size W w') (h1 : 0 ≤ wi) (h2 : ¬ wi ≤ 1099511627776) : Calls Tryz.prog 21 #[.agg #[.slice a q c, .slice b r d, .int .i64 wi, .string (strB bb), .int .i64 pk]] w fun e w' => e = .returned (.bool false) ∧ Below w.heap.size w w' := by
  have hb0 := (Below.refl w.heap.size w).alloc (Nat.le_refl _) (.cells #[.slice a q c, .slice b r d, .int .i64 wi, .string (strB bb), .int .i64 pk] 26)
  have HB0 := Lib.hid hb0
  have HI := Lib.hid (hI _ hb0)
  have HP := Lib.hid hP
  have t1 : decide (0 ≤ wi) = true := decide_eq_true h1
  have t2 : decide (wi ≤ 1099511627776) = false := decide_eq_false h2
  clear h1 h2
  clear hI hb0 hP
  go_enter Tryz.func21, Tryz.ntmps21
  go_wp2_with (first
    | (go_at_call 41; (with_reducible refine HI.out.mono ?_); rintro e w1 ⟨rfl, hb1⟩; have m1 := tkeep hb1 (tnew w #[.slice a q c, .slice b r d, .int .i64 wi, .string (strB bb), .int .i64 pk] 26 1 rfl); have m2 := tkeep hb1 (tnew w #[.slice a q c, .slice b r d, .int .i64 wi, .string (strB bb), .int .i64 pk] 26 2 rfl); have m3 := tkeep hb1 (tnew w #[.slice a q c, .slice b r d, .int .i64 wi, .string (strB bb), .int .i64 pk] 26 3 rfl); have m4 := tkeep hb1 (tnew w #[.slice a q c, .slice b r d, .int .i64 wi, .string (strB bb), .int .i64 pk] 26 4 rfl); have HB1 := Lib.hid (HB0.out.trans (hb1.mono HB0.out.size)); clear hb1)
    | (go_at_call 42; (with_reducible refine (HP.out _ HB1.out).mono ?_); rintro e w2 ⟨rfl, hb2⟩; have n1 := tkeep hb2 m1; have n2 := tkeep hb2 m2; have n3 := tkeep hb2 m3; have n4 := tkeep hb2 m4; have HB2 := Lib.hid (HB1.out.trans (hb2.mono HB1.out.size)); clear hb2))
  go_ret
  exact ⟨rfl, HB2.out⟩
set_option maxHeartbeats 1000000 in
set_option maxRecDepth 100000 in
theorem rq_name (hI : ∀ W, Below w.heap.size w W → Calls Tryz.prog 41 #[.slice a q c] W fun e w' => e = .returned (.bool true) ∧ Below W.heap.size W w') (hP : ∀ W, Below w.heap.size w W → Calls Tryz.prog 42 #[.slice b r d] W fun e w' => e = .returned (.bool true) ∧ Below W.heap.size W w') (hN : ∀ W, Calls Tryz.prog 43 #[.string (strB bb)] W fun e w' => e = .returned (.bool false) ∧ Below W.heap.size W w') (h1 : 0 ≤ wi) (h2 : wi ≤ 1099511627776) (h3 : bb ≠ []) : Calls Tryz.prog 21 #[.agg #[.slice a q c, .slice b r d, .int .i64 wi, .string (strB bb), .int .i64 pk]] w fun e w' => e = .returned (.bool false) ∧ Below w.heap.size w w' := by
  have hb0 := (Below.refl w.heap.size w).alloc (Nat.le_refl _) (.cells #[.slice a q c, .slice b r d, .int .i64 wi, .string (strB bb), .int .i64 pk] 26)
  have HB0 := Lib.hid hb0
  have HI := Lib.hid (hI _ hb0)
  have HP := Lib.hid hP
  have HN := Lib.hid hN
  have t1 : decide (0 ≤ wi) = true := decide_eq_true h1
  have t2 : decide (wi ≤ 1099511627776) = true := decide_eq_true h2
  clear h1 h2
  have t3 : ((strB bb).toList == []) = false := by rw [tB_list, beq_eq_false_iff_ne]; exact h3
  clear h3
  clear hI hb0 hP hN
  go_enter Tryz.func21, Tryz.ntmps21
  go_wp2_with (first
    | (go_at_call 41; (with_reducible refine HI.out.mono ?_); rintro e w1 ⟨rfl, hb1⟩; have m1 := tkeep hb1 (tnew w #[.slice a q c, .slice b r d, .int .i64 wi, .string (strB bb), .int .i64 pk] 26 1 rfl); have m2 := tkeep hb1 (tnew w #[.slice a q c, .slice b r d, .int .i64 wi, .string (strB bb), .int .i64 pk] 26 2 rfl); have m3 := tkeep hb1 (tnew w #[.slice a q c, .slice b r d, .int .i64 wi, .string (strB bb), .int .i64 pk] 26 3 rfl); have m4 := tkeep hb1 (tnew w #[.slice a q c, .slice b r d, .int .i64 wi, .string (strB bb), .int .i64 pk] 26 4 rfl); have HB1 := Lib.hid (HB0.out.trans (hb1.mono HB0.out.size)); clear hb1)
    | (go_at_call 42; (with_reducible refine (HP.out _ HB1.out).mono ?_); rintro e w2 ⟨rfl, hb2⟩; have n1 := tkeep hb2 m1; have n2 := tkeep hb2 m2; have n3 := tkeep hb2 m3; have n4 := tkeep hb2 m4; have HB2 := Lib.hid (HB1.out.trans (hb2.mono HB1.out.size)); clear hb2)
    | (go_at_call 43; (with_reducible refine (HN.out _).mono ?_); rintro e w3 ⟨rfl, hb3⟩; have k4 := tkeep hb3 n4; have HB3 := Lib.hid (HB2.out.trans (hb3.mono HB2.out.size)); clear hb3))
  go_ret
  exact ⟨rfl, HB3.out⟩
set_option maxHeartbeats 1000000 in
set_option maxRecDepth 100000 in
theorem rq_low0 (hI : ∀ W, Below w.heap.size w W → Calls Tryz.prog 41 #[.slice a q c] W fun e w' => e = .returned (.bool true) ∧ Below W.heap.size W w') (hP : ∀ W, Below w.heap.size w W → Calls Tryz.prog 42 #[.slice b r d] W fun e w' => e = .returned (.bool true) ∧ Below W.heap.size W w') (h1 : 0 ≤ wi) (h2 : wi ≤ 1099511627776) (h3 : bb = []) (h4 : ¬ 1 ≤ pk) : Calls Tryz.prog 21 #[.agg #[.slice a q c, .slice b r d, .int .i64 wi, .string (strB bb), .int .i64 pk]] w fun e w' => e = .returned (.bool false) ∧ Below w.heap.size w w' := by
  have hb0 := (Below.refl w.heap.size w).alloc (Nat.le_refl _) (.cells #[.slice a q c, .slice b r d, .int .i64 wi, .string (strB bb), .int .i64 pk] 26)
  have HB0 := Lib.hid hb0
  have HI := Lib.hid (hI _ hb0)
  have HP := Lib.hid hP
  have t1 : decide (0 ≤ wi) = true := decide_eq_true h1
  have t2 : decide (wi ≤ 1099511627776) = true := decide_eq_true h2
  clear h1 h2
  have t3 : ((strB bb).toList == []) = true := by rw [tB_list, h3]; rfl
  clear h3
  have t4 : decide (1 ≤ pk) = false := decide_eq_false h4
  clear h4
  clear hI hb0 hP
  go_enter Tryz.func21, Tryz.ntmps21
  go_wp2_with (first
    | (go_at_call 41; (with_reducible refine HI.out.mono ?_); rintro e w1 ⟨rfl, hb1⟩; have m1 := tkeep hb1 (tnew w #[.slice a q c, .slice b r d, .int .i64 wi, .string (strB bb), .int .i64 pk] 26 1 rfl); have m2 := tkeep hb1 (tnew w #[.slice a q c, .slice b r d, .int .i64 wi, .string (strB bb), .int .i64 pk] 26 2 rfl); have m3 := tkeep hb1 (tnew w #[.slice a q c, .slice b r d, .int .i64 wi, .string (strB bb), .int .i64 pk] 26 3 rfl); have m4 := tkeep hb1 (tnew w #[.slice a q c, .slice b r d, .int .i64 wi, .string (strB bb), .int .i64 pk] 26 4 rfl); have HB1 := Lib.hid (HB0.out.trans (hb1.mono HB0.out.size)); clear hb1)
    | (go_at_call 42; (with_reducible refine (HP.out _ HB1.out).mono ?_); rintro e w2 ⟨rfl, hb2⟩; have n1 := tkeep hb2 m1; have n2 := tkeep hb2 m2; have n3 := tkeep hb2 m3; have n4 := tkeep hb2 m4; have HB2 := Lib.hid (HB1.out.trans (hb2.mono HB1.out.size)); clear hb2))
  go_ret
  exact ⟨rfl, HB2.out⟩
set_option maxHeartbeats 1000000 in
set_option maxRecDepth 100000 in
theorem rq_high0 (hI : ∀ W, Below w.heap.size w W → Calls Tryz.prog 41 #[.slice a q c] W fun e w' => e = .returned (.bool true) ∧ Below W.heap.size W w') (hP : ∀ W, Below w.heap.size w W → Calls Tryz.prog 42 #[.slice b r d] W fun e w' => e = .returned (.bool true) ∧ Below W.heap.size W w') (h1 : 0 ≤ wi) (h2 : wi ≤ 1099511627776) (h3 : bb = []) (h4 : 1 ≤ pk) (h5 : ¬ pk ≤ 3) : Calls Tryz.prog 21 #[.agg #[.slice a q c, .slice b r d, .int .i64 wi, .string (strB bb), .int .i64 pk]] w fun e w' => e = .returned (.bool false) ∧ Below w.heap.size w w' := by
  have hb0 := (Below.refl w.heap.size w).alloc (Nat.le_refl _) (.cells #[.slice a q c, .slice b r d, .int .i64 wi, .string (strB bb), .int .i64 pk] 26)
  have HB0 := Lib.hid hb0
  have HI := Lib.hid (hI _ hb0)
  have HP := Lib.hid hP
  have t1 : decide (0 ≤ wi) = true := decide_eq_true h1
  have t2 : decide (wi ≤ 1099511627776) = true := decide_eq_true h2
  clear h1 h2
  have t3 : ((strB bb).toList == []) = true := by rw [tB_list, h3]; rfl
  clear h3
  have t4 : decide (1 ≤ pk) = true := decide_eq_true h4
  have t5 : decide (pk ≤ 3) = false := decide_eq_false h5
  clear h4 h5
  clear hI hb0 hP
  go_enter Tryz.func21, Tryz.ntmps21
  go_wp2_with (first
    | (go_at_call 41; (with_reducible refine HI.out.mono ?_); rintro e w1 ⟨rfl, hb1⟩; have m1 := tkeep hb1 (tnew w #[.slice a q c, .slice b r d, .int .i64 wi, .string (strB bb), .int .i64 pk] 26 1 rfl); have m2 := tkeep hb1 (tnew w #[.slice a q c, .slice b r d, .int .i64 wi, .string (strB bb), .int .i64 pk] 26 2 rfl); have m3 := tkeep hb1 (tnew w #[.slice a q c, .slice b r d, .int .i64 wi, .string (strB bb), .int .i64 pk] 26 3 rfl); have m4 := tkeep hb1 (tnew w #[.slice a q c, .slice b r d, .int .i64 wi, .string (strB bb), .int .i64 pk] 26 4 rfl); have HB1 := Lib.hid (HB0.out.trans (hb1.mono HB0.out.size)); clear hb1)
    | (go_at_call 42; (with_reducible refine (HP.out _ HB1.out).mono ?_); rintro e w2 ⟨rfl, hb2⟩; have n1 := tkeep hb2 m1; have n2 := tkeep hb2 m2; have n3 := tkeep hb2 m3; have n4 := tkeep hb2 m4; have HB2 := Lib.hid (HB1.out.trans (hb2.mono HB1.out.size)); clear hb2))
  go_ret
  exact ⟨rfl, HB2.out⟩
set_option maxHeartbeats 1000000 in
set_option maxRecDepth 100000 in
theorem rq_ok0 (hI : ∀ W, Below w.heap.size w W → Calls Tryz.prog 41 #[.slice a q c] W fun e w' => e = .returned (.bool true) ∧ Below W.heap.size W w') (hP : ∀ W, Below w.heap.size w W → Calls Tryz.prog 42 #[.slice b r d] W fun e w' => e = .returned (.bool true) ∧ Below W.heap.size W w') (h1 : 0 ≤ wi) (h2 : wi ≤ 1099511627776) (h3 : bb = []) (h4 : 1 ≤ pk) (h5 : pk ≤ 3) : Calls Tryz.prog 21 #[.agg #[.slice a q c, .slice b r d, .int .i64 wi, .string (strB bb), .int .i64 pk]] w fun e w' => e = .returned (.bool true) ∧ Below w.heap.size w w' := by
  have hb0 := (Below.refl w.heap.size w).alloc (Nat.le_refl _) (.cells #[.slice a q c, .slice b r d, .int .i64 wi, .string (strB bb), .int .i64 pk] 26)
  have HB0 := Lib.hid hb0
  have HI := Lib.hid (hI _ hb0)
  have HP := Lib.hid hP
  have t1 : decide (0 ≤ wi) = true := decide_eq_true h1
  have t2 : decide (wi ≤ 1099511627776) = true := decide_eq_true h2
  clear h1 h2
  have t3 : ((strB bb).toList == []) = true := by rw [tB_list, h3]; rfl
  clear h3
  have t4 : decide (1 ≤ pk) = true := decide_eq_true h4
  have t5 : decide (pk ≤ 3) = true := decide_eq_true h5
  clear h4 h5
  clear hI hb0 hP
  go_enter Tryz.func21, Tryz.ntmps21
  go_wp2_with (first
    | (go_at_call 41; (with_reducible refine HI.out.mono ?_); rintro e w1 ⟨rfl, hb1⟩; have m1 := tkeep hb1 (tnew w #[.slice a q c, .slice b r d, .int .i64 wi, .string (strB bb), .int .i64 pk] 26 1 rfl); have m2 := tkeep hb1 (tnew w #[.slice a q c, .slice b r d, .int .i64 wi, .string (strB bb), .int .i64 pk] 26 2 rfl); have m3 := tkeep hb1 (tnew w #[.slice a q c, .slice b r d, .int .i64 wi, .string (strB bb), .int .i64 pk] 26 3 rfl); have m4 := tkeep hb1 (tnew w #[.slice a q c, .slice b r d, .int .i64 wi, .string (strB bb), .int .i64 pk] 26 4 rfl); have HB1 := Lib.hid (HB0.out.trans (hb1.mono HB0.out.size)); clear hb1)
    | (go_at_call 42; (with_reducible refine (HP.out _ HB1.out).mono ?_); rintro e w2 ⟨rfl, hb2⟩; have n1 := tkeep hb2 m1; have n2 := tkeep hb2 m2; have n3 := tkeep hb2 m3; have n4 := tkeep hb2 m4; have HB2 := Lib.hid (HB1.out.trans (hb2.mono HB1.out.size)); clear hb2))
  go_ret
  exact ⟨rfl, HB2.out⟩
set_option maxHeartbeats 1000000 in
set_option maxRecDepth 100000 in
theorem rq_low1 (hI : ∀ W, Below w.heap.size w W → Calls Tryz.prog 41 #[.slice a q c] W fun e w' => e = .returned (.bool true) ∧ Below W.heap.size W w') (hP : ∀ W, Below w.heap.size w W → Calls Tryz.prog 42 #[.slice b r d] W fun e w' => e = .returned (.bool true) ∧ Below W.heap.size W w') (hN : ∀ W, Calls Tryz.prog 43 #[.string (strB bb)] W fun e w' => e = .returned (.bool true) ∧ Below W.heap.size W w') (h1 : 0 ≤ wi) (h2 : wi ≤ 1099511627776) (h3 : bb ≠ []) (h4 : ¬ 1 ≤ pk) : Calls Tryz.prog 21 #[.agg #[.slice a q c, .slice b r d, .int .i64 wi, .string (strB bb), .int .i64 pk]] w fun e w' => e = .returned (.bool false) ∧ Below w.heap.size w w' := by
  have hb0 := (Below.refl w.heap.size w).alloc (Nat.le_refl _) (.cells #[.slice a q c, .slice b r d, .int .i64 wi, .string (strB bb), .int .i64 pk] 26)
  have HB0 := Lib.hid hb0
  have HI := Lib.hid (hI _ hb0)
  have HP := Lib.hid hP
  have HN := Lib.hid hN
  have t1 : decide (0 ≤ wi) = true := decide_eq_true h1
  have t2 : decide (wi ≤ 1099511627776) = true := decide_eq_true h2
  clear h1 h2
  have t3 : ((strB bb).toList == []) = false := by rw [tB_list, beq_eq_false_iff_ne]; exact h3
  clear h3
  have t4 : decide (1 ≤ pk) = false := decide_eq_false h4
  clear h4
  clear hI hb0 hP hN
  go_enter Tryz.func21, Tryz.ntmps21
  go_wp2_with (first
    | (go_at_call 41; (with_reducible refine HI.out.mono ?_); rintro e w1 ⟨rfl, hb1⟩; have m1 := tkeep hb1 (tnew w #[.slice a q c, .slice b r d, .int .i64 wi, .string (strB bb), .int .i64 pk] 26 1 rfl); have m2 := tkeep hb1 (tnew w #[.slice a q c, .slice b r d, .int .i64 wi, .string (strB bb), .int .i64 pk] 26 2 rfl); have m3 := tkeep hb1 (tnew w #[.slice a q c, .slice b r d, .int .i64 wi, .string (strB bb), .int .i64 pk] 26 3 rfl); have m4 := tkeep hb1 (tnew w #[.slice a q c, .slice b r d, .int .i64 wi, .string (strB bb), .int .i64 pk] 26 4 rfl); have HB1 := Lib.hid (HB0.out.trans (hb1.mono HB0.out.size)); clear hb1)
    | (go_at_call 42; (with_reducible refine (HP.out _ HB1.out).mono ?_); rintro e w2 ⟨rfl, hb2⟩; have n1 := tkeep hb2 m1; have n2 := tkeep hb2 m2; have n3 := tkeep hb2 m3; have n4 := tkeep hb2 m4; have HB2 := Lib.hid (HB1.out.trans (hb2.mono HB1.out.size)); clear hb2)
    | (go_at_call 43; (with_reducible refine (HN.out _).mono ?_); rintro e w3 ⟨rfl, hb3⟩; have k4 := tkeep hb3 n4; have HB3 := Lib.hid (HB2.out.trans (hb3.mono HB2.out.size)); clear hb3))
  go_ret
  exact ⟨rfl, HB3.out⟩
set_option maxHeartbeats 1000000 in
set_option maxRecDepth 100000 in
theorem rq_high1 (hI : ∀ W, Below w.heap.size w W → Calls Tryz.prog 41 #[.slice a q c] W fun e w' => e = .returned (.bool true) ∧ Below W.heap.size W w') (hP : ∀ W, Below w.heap.size w W → Calls Tryz.prog 42 #[.slice b r d] W fun e w' => e = .returned (.bool true) ∧ Below W.heap.size W w') (hN : ∀ W, Calls Tryz.prog 43 #[.string (strB bb)] W fun e w' => e = .returned (.bool true) ∧ Below W.heap.size W w') (h1 : 0 ≤ wi) (h2 : wi ≤ 1099511627776) (h3 : bb ≠ []) (h4 : 1 ≤ pk) (h5 : ¬ pk ≤ 3) : Calls Tryz.prog 21 #[.agg #[.slice a q c, .slice b r d, .int .i64 wi, .string (strB bb), .int .i64 pk]] w fun e w' => e = .returned (.bool false) ∧ Below w.heap.size w w' := by
  have hb0 := (Below.refl w.heap.size w).alloc (Nat.le_refl _) (.cells #[.slice a q c, .slice b r d, .int .i64 wi, .string (strB bb), .int .i64 pk] 26)
  have HB0 := Lib.hid hb0
  have HI := Lib.hid (hI _ hb0)
  have HP := Lib.hid hP
  have HN := Lib.hid hN
  have t1 : decide (0 ≤ wi) = true := decide_eq_true h1
  have t2 : decide (wi ≤ 1099511627776) = true := decide_eq_true h2
  clear h1 h2
  have t3 : ((strB bb).toList == []) = false := by rw [tB_list, beq_eq_false_iff_ne]; exact h3
  clear h3
  have t4 : decide (1 ≤ pk) = true := decide_eq_true h4
  have t5 : decide (pk ≤ 3) = false := decide_eq_false h5
  clear h4 h5
  clear hI hb0 hP hN
  go_enter Tryz.func21, Tryz.ntmps21
  go_wp2_with (first
    | (go_at_call 41; (with_reducible refine HI.out.mono ?_); rintro e w1 ⟨rfl, hb1⟩; have m1 := tkeep hb1 (tnew w #[.slice a q c, .slice b r d, .int .i64 wi, .string (strB bb), .int .i64 pk] 26 1 rfl); have m2 := tkeep hb1 (tnew w #[.slice a q c, .slice b r d, .int .i64 wi, .string (strB bb), .int .i64 pk] 26 2 rfl); have m3 := tkeep hb1 (tnew w #[.slice a q c, .slice b r d, .int .i64 wi, .string (strB bb), .int .i64 pk] 26 3 rfl); have m4 := tkeep hb1 (tnew w #[.slice a q c, .slice b r d, .int .i64 wi, .string (strB bb), .int .i64 pk] 26 4 rfl); have HB1 := Lib.hid (HB0.out.trans (hb1.mono HB0.out.size)); clear hb1)
    | (go_at_call 42; (with_reducible refine (HP.out _ HB1.out).mono ?_); rintro e w2 ⟨rfl, hb2⟩; have n1 := tkeep hb2 m1; have n2 := tkeep hb2 m2; have n3 := tkeep hb2 m3; have n4 := tkeep hb2 m4; have HB2 := Lib.hid (HB1.out.trans (hb2.mono HB1.out.size)); clear hb2)
    | (go_at_call 43; (with_reducible refine (HN.out _).mono ?_); rintro e w3 ⟨rfl, hb3⟩; have k4 := tkeep hb3 n4; have HB3 := Lib.hid (HB2.out.trans (hb3.mono HB2.out.size)); clear hb3))
  go_ret
  exact ⟨rfl, HB3.out⟩
set_option maxHeartbeats 1000000 in
set_option maxRecDepth 100000 in
theorem rq_ok1 (hI : ∀ W, Below w.heap.size w W → Calls Tryz.prog 41 #[.slice a q c] W fun e w' => e = .returned (.bool true) ∧ Below W.heap.size W w') (hP : ∀ W, Below w.heap.size w W → Calls Tryz.prog 42 #[.slice b r d] W fun e w' => e = .returned (.bool true) ∧ Below W.heap.size W w') (hN : ∀ W, Calls Tryz.prog 43 #[.string (strB bb)] W fun e w' => e = .returned (.bool true) ∧ Below W.heap.size W w') (h1 : 0 ≤ wi) (h2 : wi ≤ 1099511627776) (h3 : bb ≠ []) (h4 : 1 ≤ pk) (h5 : pk ≤ 3) : Calls Tryz.prog 21 #[.agg #[.slice a q c, .slice b r d, .int .i64 wi, .string (strB bb), .int .i64 pk]] w fun e w' => e = .returned (.bool true) ∧ Below w.heap.size w w' := by
  have hb0 := (Below.refl w.heap.size w).alloc (Nat.le_refl _) (.cells #[.slice a q c, .slice b r d, .int .i64 wi, .string (strB bb), .int .i64 pk] 26)
  have HB0 := Lib.hid hb0
  have HI := Lib.hid (hI _ hb0)
  have HP := Lib.hid hP
  have HN := Lib.hid hN
  have t1 : decide (0 ≤ wi) = true := decide_eq_true h1
  have t2 : decide (wi ≤ 1099511627776) = true := decide_eq_true h2
  clear h1 h2
  have t3 : ((strB bb).toList == []) = false := by rw [tB_list, beq_eq_false_iff_ne]; exact h3
  clear h3
  have t4 : decide (1 ≤ pk) = true := decide_eq_true h4
  have t5 : decide (pk ≤ 3) = true := decide_eq_true h5
  clear h4 h5
  clear hI hb0 hP hN
  go_enter Tryz.func21, Tryz.ntmps21
  go_wp2_with (first
    | (go_at_call 41; (with_reducible refine HI.out.mono ?_); rintro e w1 ⟨rfl, hb1⟩; have m1 := tkeep hb1 (tnew w #[.slice a q c, .slice b r d, .int .i64 wi, .string (strB bb), .int .i64 pk] 26 1 rfl); have m2 := tkeep hb1 (tnew w #[.slice a q c, .slice b r d, .int .i64 wi, .string (strB bb), .int .i64 pk] 26 2 rfl); have m3 := tkeep hb1 (tnew w #[.slice a q c, .slice b r d, .int .i64 wi, .string (strB bb), .int .i64 pk] 26 3 rfl); have m4 := tkeep hb1 (tnew w #[.slice a q c, .slice b r d, .int .i64 wi, .string (strB bb), .int .i64 pk] 26 4 rfl); have HB1 := Lib.hid (HB0.out.trans (hb1.mono HB0.out.size)); clear hb1)
    | (go_at_call 42; (with_reducible refine (HP.out _ HB1.out).mono ?_); rintro e w2 ⟨rfl, hb2⟩; have n1 := tkeep hb2 m1; have n2 := tkeep hb2 m2; have n3 := tkeep hb2 m3; have n4 := tkeep hb2 m4; have HB2 := Lib.hid (HB1.out.trans (hb2.mono HB1.out.size)); clear hb2)
    | (go_at_call 43; (with_reducible refine (HN.out _).mono ?_); rintro e w3 ⟨rfl, hb3⟩; have k4 := tkeep hb3 n4; have HB3 := Lib.hid (HB2.out.trans (hb3.mono HB2.out.size)); clear hb3))
  go_ret
  exact ⟨rfl, HB3.out⟩
end

/-- A query as a value: its rows in memory. -/
def QuAt (K : Nat → Prop) (w : World) (a : Option Addr) (q c : Nat) (b : Option Addr) (r d : Nat) (p : PQu) : Prop := RowK itemD K w (.slice a q c) p.its ∧ RowK predD K w (.slice b r d) p.prs
theorem RowK.len {α : Type} {D : RowD α} {K : Nat → Prop} {w : World} {a : Option Addr} {n c : Nat} {l : List α} (h : RowK D K w (.slice a n c) l) : n = l.length := by
  obtain ⟨a', c', e⟩ := h.slice
  injection e with e1 e2 e3
theorem right_calls {K : Nat → Prop} {w : World} {a b : Option Addr} {q c r d : Nat} {p : PQu} (h : QuAt K w a q c b r d p) (hb : QuB p) :
    Calls Tryz.prog 21 #[.agg #[.slice a q c, .slice b r d, .int .i64 p.within, .string (strB p.by_), .int .i64 p.pick]] w fun e w' => e = .returned (.bool (rightQ p)) ∧ Below w.heap.size w w' := by
  obtain ⟨h1, h2⟩ := h
  obtain rfl := h1.len
  obtain rfl := h2.len
  have hI := fun W (hW : Below w.heap.size w W) => rightItems_calls (h1.low hW) hb.1
  have hP := fun W (hW : Below w.heap.size w W) => rightPreds_calls (h2.low hW) hb.2.1
  have hN := fun W => nameOk_calls p.by_ W hb.2.2
  unfold rightQ
  cases b1 : rightIs p.its with
  | false =>
    rw [b1] at hI
    exact rq_items hI
  | true =>
  rw [b1] at hI
  rw [Bool.true_and, ← Bool.and_assoc]
  cases b2 : (decide (p.prs.length ≤ 8) && p.prs.all rightP) with
  | false =>
    rw [b2] at hP
    exact rq_preds hI hP
  | true =>
  rw [b2] at hP
  rw [Bool.true_and]
  by_cases w1 : ¬ (0 ≤ p.within)
  · rw [show decide (0 ≤ p.within ∧ p.within ≤ 1099511627776) = false from decide_eq_false (fun e => w1 e.1)]
    exact rq_neg hI hP w1
  have w1 := Decidable.not_not.1 w1
  by_cases w2 : ¬ (p.within ≤ 1099511627776)
  · rw [show decide (0 ≤ p.within ∧ p.within ≤ 1099511627776) = false from decide_eq_false (fun e => w2 e.2)]
    exact rq_long hI hP w1 w2
  have w2 := Decidable.not_not.1 w2
  rw [show decide (0 ≤ p.within ∧ p.within ≤ 1099511627776) = true from decide_eq_true ⟨w1, w2⟩, Bool.true_and]
  by_cases h0 : p.by_ = []
  · rw [show (decide (p.by_ = []) || nameB p.by_) = true by rw [decide_eq_true h0]; rfl, Bool.true_and]
    by_cases p1 : ¬ (1 ≤ p.pick)
    · rw [show decide (1 ≤ p.pick ∧ p.pick ≤ 3) = false from decide_eq_false (fun e => p1 e.1)]
      exact rq_low0 hI hP w1 w2 h0 p1
    have p1 := Decidable.not_not.1 p1
    by_cases p2 : p.pick ≤ 3
    · rw [show decide (1 ≤ p.pick ∧ p.pick ≤ 3) = true from decide_eq_true ⟨p1, p2⟩]
      exact rq_ok0 hI hP w1 w2 h0 p1 p2
    · rw [show decide (1 ≤ p.pick ∧ p.pick ≤ 3) = false from decide_eq_false (fun e => p2 e.2)]
      exact rq_high0 hI hP w1 w2 h0 p1 p2
  · rw [show (decide (p.by_ = []) || nameB p.by_) = nameB p.by_ by rw [decide_eq_false h0]; rfl]
    cases b3 : nameB p.by_ with
    | false =>
      rw [b3] at hN
      rw [Bool.false_and]
      exact rq_name hI hP hN w1 w2 h0
    | true =>
    rw [b3] at hN
    rw [Bool.true_and]
    by_cases p1 : ¬ (1 ≤ p.pick)
    · rw [show decide (1 ≤ p.pick ∧ p.pick ≤ 3) = false from decide_eq_false (fun e => p1 e.1)]
      exact rq_low1 hI hP hN w1 w2 h0 p1
    have p1 := Decidable.not_not.1 p1
    by_cases p2 : p.pick ≤ 3
    · rw [show decide (1 ≤ p.pick ∧ p.pick ≤ 3) = true from decide_eq_true ⟨p1, p2⟩]
      exact rq_ok1 hI hP hN w1 w2 h0 p1 p2
    · rw [show decide (1 ≤ p.pick ∧ p.pick ≤ 3) = false from decide_eq_false (fun e => p2 e.2)]
      exact rq_high1 hI hP hN w1 w2 h0 p1 p2

end Go.Proofs.YtndmbljpfpnehaaGreatDoor
