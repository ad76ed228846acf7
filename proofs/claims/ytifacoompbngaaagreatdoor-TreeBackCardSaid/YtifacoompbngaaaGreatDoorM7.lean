/- Queries: which predicates, and which queries, are right. | Queries: which queries are right. | Queries in plain words: what is left is an end of what was; texts are no longer than tokens. -/
import Derived.Test.YtifacoompbngaaaGreatDoorM6
namespace Go.Proofs.YtifacoompbngaaaGreatDoor
open Go.RowKit Go.Lib Go.Op

def PrB (p : PPr) : Prop := XBd p.l ∧ XBd p.r
def QuB (q : PQu) : Prop := (∀ i ∈ q.its, ItB i) ∧ (∀ p ∈ q.prs, PrB p) ∧ q.by_.length ≤ 1000000

section
variable {w : World} {a b : Option Addr} {q c r d : Nat} {p : PPr}

set_option maxHeartbeats 1000000 in
set_option maxRecDepth 100000 in
theorem wp_low (h1 : p.cmp < 1) : Calls Tryz.prog 119 #[.agg #[.int .i64 p.cmp, .int .i64 p.l.k, .int .i64 p.l.v.k, .int .i64 p.l.v.n, .string (strB p.l.v.s), .string (strB p.l.x), .string (strB p.l.f), .slice a q c, .int .i64 p.r.k, .int .i64 p.r.v.k, .int .i64 p.r.v.n, .string (strB p.r.v.s), .string (strB p.r.x), .string (strB p.r.f), .slice b r d]] w fun e w' => e = .returned (.bool true) ∧ Below w.heap.size w w' := by
  have hb0 := (Below.refl w.heap.size w).alloc (Nat.le_refl _) (.cells #[.int .i64 p.cmp, .int .i64 p.l.k, .int .i64 p.l.v.k, .int .i64 p.l.v.n, .string (strB p.l.v.s), .string (strB p.l.x), .string (strB p.l.f), .slice a q c, .int .i64 p.r.k, .int .i64 p.r.v.k, .int .i64 p.r.v.n, .string (strB p.r.v.s), .string (strB p.r.x), .string (strB p.r.f), .slice b r d] 40)
  have HB0 := Lib.hid hb0
  have t1 : decide (p.cmp < 1) = true := decide_eq_true h1
  clear h1 hb0
  go_enter Tryz.func119, Tryz.ntmps119
  go_wp2
  go_ret
  exact ⟨rfl, HB0.out⟩
set_option maxHeartbeats 1000000 in
set_option maxRecDepth 100000 in
theorem wp_high (h1 : ¬ p.cmp < 1) (h2 : 6 < p.cmp) : Calls Tryz.prog 119 #[.agg #[.int .i64 p.cmp, .int .i64 p.l.k, .int .i64 p.l.v.k, .int .i64 p.l.v.n, .string (strB p.l.v.s), .string (strB p.l.x), .string (strB p.l.f), .slice a q c, .int .i64 p.r.k, .int .i64 p.r.v.k, .int .i64 p.r.v.n, .string (strB p.r.v.s), .string (strB p.r.x), .string (strB p.r.f), .slice b r d]] w fun e w' => e = .returned (.bool true) ∧ Below w.heap.size w w' := by
  have hb0 := (Below.refl w.heap.size w).alloc (Nat.le_refl _) (.cells #[.int .i64 p.cmp, .int .i64 p.l.k, .int .i64 p.l.v.k, .int .i64 p.l.v.n, .string (strB p.l.v.s), .string (strB p.l.x), .string (strB p.l.f), .slice a q c, .int .i64 p.r.k, .int .i64 p.r.v.k, .int .i64 p.r.v.n, .string (strB p.r.v.s), .string (strB p.r.x), .string (strB p.r.f), .slice b r d] 40)
  have HB0 := Lib.hid hb0
  have t1 : decide (p.cmp < 1) = false := decide_eq_false h1
  have t2 : decide (6 < p.cmp) = true := decide_eq_true h2
  clear h1 h2 hb0
  go_enter Tryz.func119, Tryz.ntmps119
  go_wp2
  go_ret
  exact ⟨rfl, HB0.out⟩
set_option maxHeartbeats 1000000 in
set_option maxRecDepth 100000 in
theorem wp_sides (h1 : ¬ p.cmp < 1) (h2 : ¬ 6 < p.cmp) (z1 z2 : Bool) (hl : ∀ W, Below w.heap.size w W → Calls Tryz.prog 120 #[exV p.l (.slice a q c), .int .i64 6] W fun e w' => e = .returned (.bool z1) ∧ Below W.heap.size W w') (hr : ∀ W, Below w.heap.size w W → Calls Tryz.prog 120 #[exV p.r (.slice b r d), .int .i64 6] W fun e w' => e = .returned (.bool z2) ∧ Below W.heap.size W w') : Calls Tryz.prog 119 #[.agg #[.int .i64 p.cmp, .int .i64 p.l.k, .int .i64 p.l.v.k, .int .i64 p.l.v.n, .string (strB p.l.v.s), .string (strB p.l.x), .string (strB p.l.f), .slice a q c, .int .i64 p.r.k, .int .i64 p.r.v.k, .int .i64 p.r.v.n, .string (strB p.r.v.s), .string (strB p.r.x), .string (strB p.r.f), .slice b r d]] w fun e w' => e = .returned (.bool (!(z1 && z2))) ∧ Below w.heap.size w w' := by
  have hb0 := (Below.refl w.heap.size w).alloc (Nat.le_refl _) (.cells #[.int .i64 p.cmp, .int .i64 p.l.k, .int .i64 p.l.v.k, .int .i64 p.l.v.n, .string (strB p.l.v.s), .string (strB p.l.x), .string (strB p.l.f), .slice a q c, .int .i64 p.r.k, .int .i64 p.r.v.k, .int .i64 p.r.v.n, .string (strB p.r.v.s), .string (strB p.r.x), .string (strB p.r.f), .slice b r d] 40)
  have HB0 := Lib.hid hb0
  have t1 : decide (p.cmp < 1) = false := decide_eq_false h1
  have t2 : decide (6 < p.cmp) = false := decide_eq_false h2
  have H1 := Lib.hid (hl _ hb0)
  have H2 := Lib.hid hr
  simp only [xexV] at H1 H2
  clear h1 h2 hb0 hl hr
  cases z1 with
  | false =>
    go_enter Tryz.func119, Tryz.ntmps119
    go_wp2_with (go_at_call 120; (with_reducible refine H1.out.mono ?_); rintro e w1 ⟨rfl, hb1⟩; have HB1 := Lib.hid (HB0.out.trans (hb1.mono HB0.out.size)); clear hb1)
    go_ret
    exact ⟨rfl, HB1.out⟩
  | true =>
    go_enter Tryz.func119, Tryz.ntmps119
    go_wp2_with (first
      | (go_at_call 120; (with_reducible refine H1.out.mono ?_); rintro e w1 ⟨rfl, hb1⟩; have m8 := tkeep hb1 (tnew w #[.int .i64 p.cmp, .int .i64 p.l.k, .int .i64 p.l.v.k, .int .i64 p.l.v.n, .string (strB p.l.v.s), .string (strB p.l.x), .string (strB p.l.f), .slice a q c, .int .i64 p.r.k, .int .i64 p.r.v.k, .int .i64 p.r.v.n, .string (strB p.r.v.s), .string (strB p.r.x), .string (strB p.r.f), .slice b r d] 40 8 rfl); have m9 := tkeep hb1 (tnew w #[.int .i64 p.cmp, .int .i64 p.l.k, .int .i64 p.l.v.k, .int .i64 p.l.v.n, .string (strB p.l.v.s), .string (strB p.l.x), .string (strB p.l.f), .slice a q c, .int .i64 p.r.k, .int .i64 p.r.v.k, .int .i64 p.r.v.n, .string (strB p.r.v.s), .string (strB p.r.x), .string (strB p.r.f), .slice b r d] 40 9 rfl); have m10 := tkeep hb1 (tnew w #[.int .i64 p.cmp, .int .i64 p.l.k, .int .i64 p.l.v.k, .int .i64 p.l.v.n, .string (strB p.l.v.s), .string (strB p.l.x), .string (strB p.l.f), .slice a q c, .int .i64 p.r.k, .int .i64 p.r.v.k, .int .i64 p.r.v.n, .string (strB p.r.v.s), .string (strB p.r.x), .string (strB p.r.f), .slice b r d] 40 10 rfl); have m11 := tkeep hb1 (tnew w #[.int .i64 p.cmp, .int .i64 p.l.k, .int .i64 p.l.v.k, .int .i64 p.l.v.n, .string (strB p.l.v.s), .string (strB p.l.x), .string (strB p.l.f), .slice a q c, .int .i64 p.r.k, .int .i64 p.r.v.k, .int .i64 p.r.v.n, .string (strB p.r.v.s), .string (strB p.r.x), .string (strB p.r.f), .slice b r d] 40 11 rfl); have m12 := tkeep hb1 (tnew w #[.int .i64 p.cmp, .int .i64 p.l.k, .int .i64 p.l.v.k, .int .i64 p.l.v.n, .string (strB p.l.v.s), .string (strB p.l.x), .string (strB p.l.f), .slice a q c, .int .i64 p.r.k, .int .i64 p.r.v.k, .int .i64 p.r.v.n, .string (strB p.r.v.s), .string (strB p.r.x), .string (strB p.r.f), .slice b r d] 40 12 rfl); have m13 := tkeep hb1 (tnew w #[.int .i64 p.cmp, .int .i64 p.l.k, .int .i64 p.l.v.k, .int .i64 p.l.v.n, .string (strB p.l.v.s), .string (strB p.l.x), .string (strB p.l.f), .slice a q c, .int .i64 p.r.k, .int .i64 p.r.v.k, .int .i64 p.r.v.n, .string (strB p.r.v.s), .string (strB p.r.x), .string (strB p.r.f), .slice b r d] 40 13 rfl); have m14 := tkeep hb1 (tnew w #[.int .i64 p.cmp, .int .i64 p.l.k, .int .i64 p.l.v.k, .int .i64 p.l.v.n, .string (strB p.l.v.s), .string (strB p.l.x), .string (strB p.l.f), .slice a q c, .int .i64 p.r.k, .int .i64 p.r.v.k, .int .i64 p.r.v.n, .string (strB p.r.v.s), .string (strB p.r.x), .string (strB p.r.f), .slice b r d] 40 14 rfl); have HB1 := Lib.hid (HB0.out.trans (hb1.mono HB0.out.size)); clear hb1)
      | (go_at_call 120; (with_reducible refine (H2.out _ HB1.out).mono ?_); rintro e w2 ⟨rfl, hb2⟩; have HB2 := Lib.hid (HB1.out.trans (hb2.mono HB1.out.size)); clear hb2))
    go_ret
    exact ⟨tbool (by cases z2 <;> rfl), HB2.out⟩

theorem rightP1_calls {K : Nat → Prop} {e1 e2 : Nat} (hb : PrB p) (h1 : ExK K w e1 (.slice a p.l.ks.length c) p.l.ks) (h2 : ExK K w e2 (.slice b p.r.ks.length d) p.r.ks) (hq : q = p.l.ks.length) (hr : r = p.r.ks.length) :
    Calls Tryz.prog 119 #[.agg #[.int .i64 p.cmp, .int .i64 p.l.k, .int .i64 p.l.v.k, .int .i64 p.l.v.n, .string (strB p.l.v.s), .string (strB p.l.x), .string (strB p.l.f), .slice a q c, .int .i64 p.r.k, .int .i64 p.r.v.k, .int .i64 p.r.v.n, .string (strB p.r.v.s), .string (strB p.r.x), .string (strB p.r.f), .slice b r d]] w fun e w' => e = .returned (.bool (!rightP p)) ∧ Below w.heap.size w w' := by
  subst hq hr
  unfold rightP
  by_cases l1 : p.cmp < 1
  · rw [show decide (1 ≤ p.cmp ∧ p.cmp ≤ 6) = false by simp; omega]
    exact wp_low l1
  by_cases l2 : 6 < p.cmp
  · rw [show decide (1 ≤ p.cmp ∧ p.cmp ≤ 6) = false by simp; omega]
    exact wp_high l1 l2
  rw [show decide (1 ≤ p.cmp ∧ p.cmp ≤ 6) = true by simp; omega, Bool.true_and]
  exact wp_sides l1 l2 _ _ (fun W hW => rightE_calls 6 (by decide) p.l hb.1 W e1 a c (h1.keep (TFr.of_below hW))) (fun W hW => rightE_calls 6 (by decide) p.r hb.2 W e2 b d (h2.keep (TFr.of_below hW)))
end

/-- The cells of a row of predicates. -/
theorem RowK.predAt {K : Nat → Prop} {w : World} {a : Option Addr} {n c : Nat} {l : List PPr} (h : RowK predD K w (.slice a n c) l) {j : Nat} {p : PPr} (hj : l[j]? = some p) : ∃ g o a1 q c1 b1 r d1 e, a = some ⟨g, o, none⟩ ∧ (∀ k u, (#[.int .i64 p.cmp, .int .i64 p.l.k, .int .i64 p.l.v.k, .int .i64 p.l.v.n, .string (strB p.l.v.s), .string (strB p.l.x), .string (strB p.l.f), .slice a1 q c1, .int .i64 p.r.k, .int .i64 p.r.v.k, .int .i64 p.r.v.n, .string (strB p.r.v.s), .string (strB p.r.x), .string (strB p.r.f), .slice b1 r d1] : Array Value)[k]? = some u → w.cell? ⟨g, o + j * 15 + k, none⟩ = some u) ∧ q = p.l.ks.length ∧ r = p.r.ks.length ∧ ExK K w e (.slice a1 p.l.ks.length c1) p.l.ks ∧ ExK K w e (.slice b1 p.r.ks.length d1) p.r.ks := by
  obtain ⟨a', c', e, _, h⟩ := h
  injection e with e1 e2 e3
  obtain ⟨g, o, cs, ea, hg, ⟨a1, q, c1, b1, r, d1, e, hcs, hl, hr⟩, hc⟩ := h j p hj
  subst hcs
  obtain ⟨a2, c2, e4⟩ := hl.slice
  obtain ⟨a3, c3, e5⟩ := hr.slice
  injection e4 with e41 e42 e43
  injection e5 with e51 e52 e53
  rw [e42] at hl
  rw [e52] at hr
  exact ⟨g, o, a1, q, c1, b1, r, d1, e, e1.trans ea, fun k u hu => hc k u (by simpa [exL] using hu), e42, e52, hl, hr⟩

set_option maxHeartbeats 1000000 in
set_option maxRecDepth 100000 in
theorem indexP_calls {K : Nat → Prop} {w : World} {a : Option Addr} {c : Nat} {l : List PPr} (h : RowK predD K w (.slice a l.length c) l) (hl : l.length ≤ 1000000) (hbd : ∀ p ∈ l, PrB p) :
    Calls Tryz.prog 168 #[.slice a l.length c, .func (.func 119) #[] #[]] w fun e w' => ∃ i : Int, e = .returned (.int .i64 i) ∧ (0 ≤ i ↔ l.all rightP = false) ∧ Below w.heap.size w w' := by
  have H := Lib.hid h
  obtain ⟨n, hn⟩ : ∃ n, l.length = n := ⟨_, rfl⟩
  have HN := Lib.hid hn
  have HBD := Lib.hid hbd
  obtain ⟨z, hz⟩ : ∃ z, l.all rightP = z := ⟨_, rfl⟩
  have HZ := Lib.hid hz
  rw [hz]
  rw [hn] at hl ⊢
  clear h hn hbd hz
  go_enter Tryz.func168, Tryz.ntmps168
  go_wp2
  go_loopw [8] (fun k wr => ∃ j : Nat, k = .int .i64 j ∧ j ≤ n ∧ Hid (∀ p ∈ l.take j, rightP p = true) ∧ Hid (Below w.heap.size w wr)) (fun k _ => n - (RowKit.intOf k).toNat)
  case atStart => exact ⟨0, rfl, Nat.zero_le _, fun p hp => (by simp at hp), Below.refl _ _⟩
  case round =>
    obtain ⟨j, rfl, hj, HA, HB⟩ := hrel
    by_cases hlt : j < n
    · obtain ⟨p, hp⟩ : ∃ p, l[j]? = some p := ⟨_, List.getElem?_eq_getElem (by rw [HN.out]; exact hlt)⟩
      obtain ⟨g, o, a1, q, c1, b1, r, d1, ed, rfl, hcell, hq, hr, h1, h2⟩ := (H.out.low HB.out).predAt hp
      have HP := Lib.hid (rightP1_calls (w := wr) (q := q) (r := r) (HBD.out p (List.mem_of_getElem? hp)) h1 h2 hq hr)
      have m0 := hcell 0 _ rfl
      have m1 := hcell 1 _ rfl
      have m2 := hcell 2 _ rfl
      have m3 := hcell 3 _ rfl
      have m4 := hcell 4 _ rfl
      have m5 := hcell 5 _ rfl
      have m6 := hcell 6 _ rfl
      have m7 := hcell 7 _ rfl
      have m8 := hcell 8 _ rfl
      have m9 := hcell 9 _ rfl
      have m10 := hcell 10 _ rfl
      have m11 := hcell 11 _ rfl
      have m12 := hcell 12 _ rfl
      have m13 := hcell 13 _ rfl
      have m14 := hcell 14 _ rfl
      have HJ := Lib.hid hp
      obtain ⟨t, ht⟩ : ∃ t, rightP p = t := ⟨_, rfl⟩
      rw [ht] at HP
      have HT := Lib.hid ht
      clear hp hcell hq hr h1 h2 ht
      simp only [Nat.add_zero] at m0
      cases t with
      | false =>
        have hz0 : z = false := HZ.out.symm.trans (List.all_eq_false.2 ⟨p, List.mem_of_getElem? HJ.out, by rw [HT.out]; simp⟩)
        subst hz0
        go_wp2_with (go_at_call 119; (with_reducible refine HP.out.mono ?_); rintro e w1 ⟨rfl, hb1⟩; have HB1 := Lib.hid (HB.out.trans (hb1.mono HB.out.size)); clear hb1)
        go_ret
        exact ⟨_, rfl, by simp, HB1.out⟩
      | true =>
        have HA2 : Hid (∀ p ∈ l.take (j + 1), rightP p = true) := fun x hx => by
          rw [List.take_add_one, HJ.out] at hx
          rcases List.mem_append.1 hx with hx | hx
          · exact HA.out x hx
          · obtain rfl : x = p := by simpa using hx
            exact HT.out
        go_wp2_with (go_at_call 119; (with_reducible refine HP.out.mono ?_); rintro e w1 ⟨rfl, hb1⟩; have HB1 := Lib.hid (HB.out.trans (hb1.mono HB.out.size)); clear hb1)
        go_round
        case rel => exact ⟨j + 1, by go_num, by omega, HA2, HB1⟩
        case measure => simp [RowKit.intOf]; omega
    · have hz2 : z = true := by
        rw [← HZ.out]
        exact List.all_eq_true.2 (fun p hp => HA.out p (by rw [show j = l.length by rw [HN.out]; omega, List.take_length]; exact hp))
      subst hz2
      go_wp2
      go_ret
      exact ⟨-1, rfl, by simp, HB.out⟩

end Go.Proofs.YtifacoompbngaaaGreatDoor
namespace Go.Proofs.YtifacoompbngaaaGreatDoor
open Go.RowKit Go.Lib Go.Op

set_option maxHeartbeats 1000000 in
set_option maxRecDepth 100000 in
theorem containsP_calls {K : Nat → Prop} {w : World} {a : Option Addr} {c : Nat} {l : List PPr} (h : RowK predD K w (.slice a l.length c) l) (hl : l.length ≤ 1000000) (hbd : ∀ p ∈ l, PrB p) :
    Calls Tryz.prog 87 #[.slice a l.length c, .func (.func 119) #[] #[]] w fun e w' => e = .returned (.bool (!(l.all rightP))) ∧ Below w.heap.size w w' := by
  have HI := Lib.hid (indexP_calls h hl hbd)
  obtain ⟨n, hn⟩ : ∃ n, l.length = n := ⟨_, rfl⟩
  obtain ⟨z, hz⟩ : ∃ z, l.all rightP = z := ⟨_, rfl⟩
  rw [hz] at HI ⊢
  rw [hn] at HI ⊢
  clear h hl hbd hn hz
  go_enter Tryz.func87, Tryz.ntmps87
  go_wp2_with fail
  with_reducible refine HI.out.mono ?_
  rintro e w1 ⟨i, rfl, hi, hb⟩
  have HB := Lib.hid hb
  cases z with
  | false =>
    have t0 : decide (0 ≤ i) = true := decide_eq_true (hi.2 rfl)
    clear hb hi
    go_wp2
    go_ret
    exact ⟨rfl, HB.out⟩
  | true =>
    have t0 : decide (0 ≤ i) = false := decide_eq_false (fun h => by have := hi.1 h; simp at this)
    clear hb hi
    go_wp2
    go_ret
    exact ⟨rfl, HB.out⟩

set_option maxHeartbeats 1000000 in
set_option maxRecDepth 100000 in
theorem rightPreds_calls {K : Nat → Prop} {w : World} {a : Option Addr} {c : Nat} {l : List PPr} (h : RowK predD K w (.slice a l.length c) l) (hbd : ∀ p ∈ l, PrB p) :
    Calls Tryz.prog 53 #[.slice a l.length c] w fun e w' => e = .returned (.bool (decide (l.length ≤ 8) && l.all rightP)) ∧ Below w.heap.size w w' := by
  by_cases h8 : l.length ≤ 8
  · have HC := Lib.hid (containsP_calls h (by omega) hbd)
    rw [decide_eq_true h8, Bool.true_and]
    obtain ⟨n, hn⟩ : ∃ n, l.length = n := ⟨_, rfl⟩
    obtain ⟨z, hz⟩ : ∃ z, l.all rightP = z := ⟨_, rfl⟩
    rw [hz] at HC ⊢
    rw [hn] at HC h8 ⊢
    have t0 : decide ((n : Int) ≤ 8) = true := decide_eq_true (by omega)
    clear h hbd hn hz
    go_enter Tryz.func53, Tryz.ntmps53
    go_wp2_with (go_at_call 87; (with_reducible refine HC.out.mono ?_); rintro e w1 ⟨rfl, hb⟩; have HB := Lib.hid hb; clear hb)
    go_ret
    exact ⟨tbool (by cases z <;> rfl), HB.out⟩
  · rw [decide_eq_false h8, Bool.false_and]
    obtain ⟨n, hn⟩ : ∃ n, l.length = n := ⟨_, rfl⟩
    rw [hn] at h8 ⊢
    have t0 : decide ((n : Int) ≤ 8) = false := decide_eq_false (by omega)
    clear h hbd hn
    go_enter Tryz.func53, Tryz.ntmps53
    go_wp2
    go_ret
    exact ⟨rfl, Below.refl _ _⟩

section
variable {w : World} {a b : Option Addr} {q c r d : Nat} {wi pk : Int} {bb : List UInt8}

set_option maxHeartbeats 1000000 in
set_option maxRecDepth 100000 in
theorem rq_items (hI : ∀ W, Below w.heap.size w W → Calls Tryz.prog 52 #[.slice a q c] W fun e w' => e = .returned (.bool false) ∧ Below W.heap.size W w') : Calls Tryz.prog 22 #[.agg #[.slice a q c, .slice b r d, .int .i64 wi, .string (strB bb), .int .i64 pk]] w fun e w' => e = .returned (.bool false) ∧ Below w.heap.size w w' := by
  have hb0 := (Below.refl w.heap.size w).alloc (Nat.le_refl _) (.cells #[.slice a q c, .slice b r d, .int .i64 wi, .string (strB bb), .int .i64 pk] 26)
  have HB0 := Lib.hid hb0
  have HI := Lib.hid (hI _ hb0)
  clear hI hb0
  go_enter Tryz.func22, Tryz.ntmps22
  go_wp2_with (go_at_call 52; (with_reducible refine HI.out.mono ?_); rintro e w1 ⟨rfl, hb1⟩; have m1 := tkeep hb1 (tnew w #[.slice a q c, .slice b r d, .int .i64 wi, .string (strB bb), .int .i64 pk] 26 1 rfl); have m2 := tkeep hb1 (tnew w #[.slice a q c, .slice b r d, .int .i64 wi, .string (strB bb), .int .i64 pk] 26 2 rfl); have m3 := tkeep hb1 (tnew w #[.slice a q c, .slice b r d, .int .i64 wi, .string (strB bb), .int .i64 pk] 26 3 rfl); have m4 := tkeep hb1 (tnew w #[.slice a q c, .slice b r d, .int .i64 wi, .string (strB bb), .int .i64 pk] 26 4 rfl); have HB1 := Lib.hid (HB0.out.trans (hb1.mono HB0.out.size)); clear hb1)
  go_ret
  exact ⟨rfl, HB1.out⟩
set_option maxHeartbeats 1000000 in
set_option maxRecDepth 100000 in
theorem rq_preds (hI : ∀ W, Below w.heap.size w W → Calls Tryz.prog 52 #[.slice a q c] W fun e w' => e = .returned (.bool true) ∧ Below W.heap.size W w') (hP : ∀ W, Below w.heap.size w W → Calls Tryz.prog 53 #[.slice b r d] W fun e w' => e = .returned (.bool false) ∧ Below W.heap.size W w') : Calls Tryz.prog 22 #[.agg #[.slice a q c, .slice b r d, .int .i64 wi, .string (strB bb), .int .i64 pk]] w fun e w' => e = .returned (.bool false) ∧ Below w.heap.size w w' := by
  have hb0 := (Below.refl w.heap.size w).alloc (Nat.le_refl _) (.cells #[.slice a q c, .slice b r d, .int .i64 wi, .string (strB bb), .int .i64 pk] 26)
  have HB0 := Lib.hid hb0
  have HI := Lib.hid (hI _ hb0)
  have HP := Lib.hid hP
  clear hI hb0 hP
  go_enter Tryz.func22, Tryz.ntmps22
  go_wp2_with (first
    | (go_at_call 52; (with_reducible refine HI.out.mono ?_); rintro e w1 ⟨rfl, hb1⟩; have m1 := tkeep hb1 (tnew w #[.slice a q c, .slice b r d, .int .i64 wi, .string (strB bb), .int .i64 pk] 26 1 rfl); have m2 := tkeep hb1 (tnew w #[.slice a q c, .slice b r d, .int .i64 wi, .string (strB bb), .int .i64 pk] 26 2 rfl); have m3 := tkeep hb1 (tnew w #[.slice a q c, .slice b r d, .int .i64 wi, .string (strB bb), .int .i64 pk] 26 3 rfl); have m4 := tkeep hb1 (tnew w #[.slice a q c, .slice b r d, .int .i64 wi, .string (strB bb), .int .i64 pk] 26 4 rfl); have HB1 := Lib.hid (HB0.out.trans (hb1.mono HB0.out.size)); clear hb1)
    | (go_at_call 53; (with_reducible refine (HP.out _ HB1.out).mono ?_); rintro e w2 ⟨rfl, hb2⟩; have n1 := tkeep hb2 m1; have n2 := tkeep hb2 m2; have n3 := tkeep hb2 m3; have n4 := tkeep hb2 m4; have HB2 := Lib.hid (HB1.out.trans (hb2.mono HB1.out.size)); clear hb2))
  go_ret
  exact ⟨rfl, HB2.out⟩
set_option maxHeartbeats 1000000 in
set_option maxRecDepth 100000 in
theorem rq_neg (hI : ∀ W, Below w.heap.size w W → Calls Tryz.prog 52 #[.slice a q c] W fun e w' => e = .returned (.bool true) ∧ Below W.heap.size W w') (hP : ∀ W, Below w.heap.size w W → Calls Tryz.prog 53 #[.slice b r d] W fun e w' => e = .returned (.bool true) ∧ Below W.heap.size W w') (h1 : ¬ 0 ≤ wi) : Calls Tryz.prog 22 #[.agg #[.slice a q c, .slice b r d, .int .i64 wi, .string (strB bb), .int .i64 pk]] w fun e w' => e = .returned (.bool false) ∧ Below w.heap.size w w' := by
  have hb0 := (Below.refl w.heap.size w).alloc (Nat.le_refl _) (.cells #[.slice a q c, .slice b r d, .int .i64 wi, .string (strB bb), .int .i64 pk] 26)
  have HB0 := Lib.hid hb0
  have HI := Lib.hid (hI _ hb0)
  have HP := Lib.hid hP
  have t1 : decide (0 ≤ wi) = false := decide_eq_false h1
  clear h1
  clear hI hb0 hP
  go_enter Tryz.func22, Tryz.ntmps22
  go_wp2_with (first
    | (go_at_call 52; (with_reducible refine HI.out.mono ?_); rintro e w1 ⟨rfl, hb1⟩; have m1 := tkeep hb1 (tnew w #[.slice a q c, .slice b r d, .int .i64 wi, .string (strB bb), .int .i64 pk] 26 1 rfl); have m2 := tkeep hb1 (tnew w #[.slice a q c, .slice b r d, .int .i64 wi, .string (strB bb), .int .i64 pk] 26 2 rfl); have m3 := tkeep hb1 (tnew w #[.slice a q c, .slice b r d, .int .i64 wi, .string (strB bb), .int .i64 pk] 26 3 rfl); have m4 := tkeep hb1 (tnew w #[.slice a q c, .slice b r d, .int .i64 wi, .string (strB bb), .int .i64 pk] 26 4 rfl); have HB1 := Lib.hid (HB0.out.trans (hb1.mono HB0.out.size)); clear hb1)
    | (go_at_call 53; (with_reducible refine (HP.out _ HB1.out).mono ?_); rintro e w2 ⟨rfl, hb2⟩; have n1 := tkeep hb2 m1; have n2 := tkeep hb2 m2; have n3 := tkeep hb2 m3; have n4 := tkeep hb2 m4; have HB2 := Lib.hid (HB1.out.trans (hb2.mono HB1.out.size)); clear hb2))
  go_ret
  exact ⟨rfl, HB2.out⟩
set_option maxHeartbeats 1000000 in
set_option maxRecDepth 100000 in
theorem rq_long (hI : ∀ W, Below w.heap.size w W → Calls Tryz.prog 52 #[.slice a q c] W fun e w' => e = .returned (.bool true) ∧ Below W.heap.size W w') (hP : ∀ W, Below w.heap.size w W → Calls Tryz.prog 53 #[.slice b r d] W fun e w' => e = .returned (.bool true) ∧ Below W.heap.size W w') (h1 : 0 ≤ wi) (h2 : ¬ wi ≤ 1099511627776) : Calls Tryz.prog 22 #[.agg #[.slice a q c, .slice b r d, .int .i64 wi, .string (strB bb), .int .i64 pk]] w fun e w' => e = .returned (.bool false) ∧ Below w.heap.size w w' := by
  have hb0 := (Below.refl w.heap.size w).alloc (Nat.le_refl _) (.cells #[.slice a q c, .slice b r d, .int .i64 wi, .string (strB bb), .int .i64 pk] 26)
  have HB0 := Lib.hid hb0
  have HI := Lib.hid (hI _ hb0)
  have HP := Lib.hid hP
  have t1 : decide (0 ≤ wi) = true := decide_eq_true h1
  have t2 : decide (wi ≤ 1099511627776) = false := decide_eq_false h2
  clear h1 h2
  clear hI hb0 hP
  go_enter Tryz.func22, Tryz.ntmps22
  go_wp2_with (first
    | (go_at_call 52; (with_reducible refine HI.out.mono ?_); rintro e w1 ⟨rfl, hb1⟩; have m1 := tkeep hb1 (tnew w #[.slice a q c, .slice b r d, .int .i64 wi, .string (strB bb), .int .i64 pk] 26 1 rfl); have m2 := tkeep hb1 (tnew w #[.slice a q c, .slice b r d, .int .i64 wi, .string (strB bb), .int .i64 pk] 26 2 rfl); have m3 := tkeep hb1 (tnew w #[.slice a q c, .slice b r d, .int .i64 wi, .string (strB bb), .int .i64 pk] 26 3 rfl); have m4 := tkeep hb1 (tnew w #[.slice a q c, .slice b r d, .int .i64 wi, .string (strB bb), .int .i64 pk] 26 4 rfl); have HB1 := Lib.hid (HB0.out.trans (hb1.mono HB0.out.size)); clear hb1)
    | (go_at_call 53; (with_reducible refine (HP.out _ HB1.out).mono ?_); rintro e w2 ⟨rfl, hb2⟩; have n1 := tkeep hb2 m1; have n2 := tkeep hb2 m2; have n3 := tkeep hb2 m3; have n4 := tkeep hb2 m4; have HB2 := Lib.hid (HB1.out.trans (hb2.mono HB1.out.size)); clear hb2))
  go_ret
  exact ⟨rfl, HB2.out⟩
set_option maxHeartbeats 1000000 in
set_option maxRecDepth 100000 in
theorem rq_name (hI : ∀ W, Below w.heap.size w W → Calls Tryz.prog 52 #[.slice a q c] W fun e w' => e = .returned (.bool true) ∧ Below W.heap.size W w') (hP : ∀ W, Below w.heap.size w W → Calls Tryz.prog 53 #[.slice b r d] W fun e w' => e = .returned (.bool true) ∧ Below W.heap.size W w') (hN : ∀ W, Calls Tryz.prog 54 #[.string (strB bb)] W fun e w' => e = .returned (.bool false) ∧ Below W.heap.size W w') (h1 : 0 ≤ wi) (h2 : wi ≤ 1099511627776) (h3 : bb ≠ []) : Calls Tryz.prog 22 #[.agg #[.slice a q c, .slice b r d, .int .i64 wi, .string (strB bb), .int .i64 pk]] w fun e w' => e = .returned (.bool false) ∧ Below w.heap.size w w' := by
  have hb0 := (Below.refl w.heap.size w).alloc (Nat.le_refl _) (.cells #[.slice a q c, .slice b r d, .int .i64 wi, .string (strB bb), .int .i64 pk] 26)
  have HB0 := Lib.hid hb0
  have HI := Lib.hid (hI _ hb0)
  have HP := Lib.hid hP
  have HN := Lib.hid hN
  have t1 : decide (0 ≤ wi) = true := decide_eq_true h1
  have t2 : decide (wi ≤ 1099511627776) = true := decide_eq_true h2
  clear h1 h2
  have t3 : ((strB bb).toList == []) = false := by rw [tB_list, beq_eq_false_iff_ne]; exact h3
  clear h3
  clear hI hb0 hP hN
  go_enter Tryz.func22, Tryz.ntmps22
  go_wp2_with (first
    | (go_at_call 52; (with_reducible refine HI.out.mono ?_); rintro e w1 ⟨rfl, hb1⟩; have m1 := tkeep hb1 (tnew w #[.slice a q c, .slice b r d, .int .i64 wi, .string (strB bb), .int .i64 pk] 26 1 rfl); have m2 := tkeep hb1 (tnew w #[.slice a q c, .slice b r d, .int .i64 wi, .string (strB bb), .int .i64 pk] 26 2 rfl); have m3 := tkeep hb1 (tnew w #[.slice a q c, .slice b r d, .int .i64 wi, .string (strB bb), .int .i64 pk] 26 3 rfl); have m4 := tkeep hb1 (tnew w #[.slice a q c, .slice b r d, .int .i64 wi, .string (strB bb), .int .i64 pk] 26 4 rfl); have HB1 := Lib.hid (HB0.out.trans (hb1.mono HB0.out.size)); clear hb1)
    | (go_at_call 53; (with_reducible refine (HP.out _ HB1.out).mono ?_); rintro e w2 ⟨rfl, hb2⟩; have n1 := tkeep hb2 m1; have n2 := tkeep hb2 m2; have n3 := tkeep hb2 m3; have n4 := tkeep hb2 m4; have HB2 := Lib.hid (HB1.out.trans (hb2.mono HB1.out.size)); clear hb2)
    | (go_at_call 54; (with_reducible refine (HN.out _).mono ?_); rintro e w3 ⟨rfl, hb3⟩; have k4 := tkeep hb3 n4; have HB3 := Lib.hid (HB2.out.trans (hb3.mono HB2.out.size)); clear hb3))
  go_ret
  exact ⟨rfl, HB3.out⟩
set_option maxHeartbeats 1000000 in
set_option maxRecDepth 100000 in
theorem rq_low0 (hI : ∀ W, Below w.heap.size w W → Calls Tryz.prog 52 #[.slice a q c] W fun e w' => e = .returned (.bool true) ∧ Below W.heap.size W w') (hP : ∀ W, Below w.heap.size w W → Calls Tryz.prog 53 #[.slice b r d] W fun e w' => e = .returned (.bool true) ∧ Below W.heap.size W w') (h1 : 0 ≤ wi) (h2 : wi ≤ 1099511627776) (h3 : bb = []) (h4 : ¬ 1 ≤ pk) : Calls Tryz.prog 22 #[.agg #[.slice a q c, .slice b r d, .int .i64 wi, .string (strB bb), .int .i64 pk]] w fun e w' => e = .returned (.bool false) ∧ Below w.heap.size w w' := by
  have hb0 := (Below.refl w.heap.size w).alloc (Nat.le_refl _) (.cells #[.slice a q c, .slice b r d, .int .i64 wi, .string (strB bb), .int .i64 pk] 26)
  have HB0 := Lib.hid hb0
  have HI := Lib.hid (hI _ hb0)
  have HP := Lib.hid hP
  have t1 : decide (0 ≤ wi) = true := decide_eq_true h1
  have t2 : decide (wi ≤ 1099511627776) = true := decide_eq_true h2
  clear h1 h2
  have t3 : ((strB bb).toList == []) = true := by rw [tB_list, h3]; rfl
  clear h3
  have t4 : decide (1 ≤ pk) = false := decide_eq_false h4
  clear h4
  clear hI hb0 hP
  go_enter Tryz.func22, Tryz.ntmps22
  go_wp2_with (first
    | (go_at_call 52; (with_reducible refine HI.out.mono ?_); rintro e w1 ⟨rfl, hb1⟩; have m1 := tkeep hb1 (tnew w #[.slice a q c, .slice b r d, .int .i64 wi, .string (strB bb), .int .i64 pk] 26 1 rfl); have m2 := tkeep hb1 (tnew w #[.slice a q c, .slice b r d, .int .i64 wi, .string (strB bb), .int .i64 pk] 26 2 rfl); have m3 := tkeep hb1 (tnew w #[.slice a q c, .slice b r d, .int .i64 wi, .string (strB bb), .int .i64 pk] 26 3 rfl); have m4 := tkeep hb1 (tnew w #[.slice a q c, .slice b r d, .int .i64 wi, .string (strB bb), .int .i64 pk] 26 4 rfl); have HB1 := Lib.hid (HB0.out.trans (hb1.mono HB0.out.size)); clear hb1)
    | (go_at_call 53; (with_reducible refine (HP.out _ HB1.out).mono ?_); rintro e w2 ⟨rfl, hb2⟩; have n1 := tkeep hb2 m1; have n2 := tkeep hb2 m2; have n3 := tkeep hb2 m3; have n4 := tkeep hb2 m4; have HB2 := Lib.hid (HB1.out.trans (hb2.mono HB1.out.size)); clear hb2))
  go_ret
  exact ⟨rfl, HB2.out⟩
set_option maxHeartbeats 1000000 in
set_option maxRecDepth 100000 in
theorem rq_high0 (hI : ∀ W, Below w.heap.size w W → Calls Tryz.prog 52 #[.slice a q c] W fun e w' => e = .returned (.bool true) ∧ Below W.heap.size W w') (hP : ∀ W, Below w.heap.size w W → Calls Tryz.prog 53 #[.slice b r d] W fun e w' => e = .returned (.bool true) ∧ Below W.heap.size W w') (h1 : 0 ≤ wi) (h2 : wi ≤ 1099511627776) (h3 : bb = []) (h4 : 1 ≤ pk) (h5 : ¬ pk ≤ 3) : Calls Tryz.prog 22 #[.agg #[.slice a q c, .slice b r d, .int .i64 wi, .string (strB bb), .int .i64 pk]] w fun e w' => e = .returned (.bool false) ∧ Below w.heap.size w w' := by
  have hb0 := (Below.refl w.heap.size w).alloc (Nat.le_refl _) (.cells #[.slice a q c, .slice b r d, .int .i64 wi, .string (strB bb), .int .i64 pk] 26)
  have HB0 := Lib.hid hb0
  have HI := Lib.hid (hI _ hb0)
  have HP := Lib.hid hP
  have t1 : decide (0 ≤ wi) = true := decide_eq_true h1
  have t2 : decide (wi ≤ 1099511627776) = true := decide_eq_true h2
  clear h1 h2
  have t3 : ((strB bb).toList == []) = true := by rw [tB_list, h3]; rfl
  clear h3
  have t4 : decide (1 ≤ pk) = true := decide_eq_true h4
  have t5 : decide (pk ≤ 3) = false := decide_eq_false h5
  clear h4 h5
  clear hI hb0 hP
  go_enter Tryz.func22, Tryz.ntmps22
  go_wp2_with (first
    | (go_at_call 52; (with_reducible refine HI.out.mono ?_); rintro e w1 ⟨rfl, hb1⟩; have m1 := tkeep hb1 (tnew w #[.slice a q c, .slice b r d, .int .i64 wi, .string (strB bb), .int .i64 pk] 26 1 rfl); have m2 := tkeep hb1 (tnew w #[.slice a q c, .slice b r d, .int .i64 wi, .string (strB bb), .int .i64 pk] 26 2 rfl); have m3 := tkeep hb1 (tnew w #[.slice a q c, .slice b r d, .int .i64 wi, .string (strB bb), .int .i64 pk] 26 3 rfl); have m4 := tkeep hb1 (tnew w #[.slice a q c, .slice b r d, .int .i64 wi, .string (strB bb), .int .i64 pk] 26 4 rfl); have HB1 := Lib.hid (HB0.out.trans (hb1.mono HB0.out.size)); clear hb1)
    | (go_at_call 53; (with_reducible refine (HP.out _ HB1.out).mono ?_); rintro e w2 ⟨rfl, hb2⟩; have n1 := tkeep hb2 m1; have n2 := tkeep hb2 m2; have n3 := tkeep hb2 m3; have n4 := tkeep hb2 m4; have HB2 := Lib.hid (HB1.out.trans (hb2.mono HB1.out.size)); clear hb2))
  go_ret
  exact ⟨rfl, HB2.out⟩
set_option maxHeartbeats 1000000 in
set_option maxRecDepth 100000 in
theorem rq_ok0 (hI : ∀ W, Below w.heap.size w W → Calls Tryz.prog 52 #[.slice a q c] W fun e w' => e = .returned (.bool true) ∧ Below W.heap.size W w') (hP : ∀ W, Below w.heap.size w W → Calls Tryz.prog 53 #[.slice b r d] W fun e w' => e = .returned (.bool true) ∧ Below W.heap.size W w') (h1 : 0 ≤ wi) (h2 : wi ≤ 1099511627776) (h3 : bb = []) (h4 : 1 ≤ pk) (h5 : pk ≤ 3) : Calls Tryz.prog 22 #[.agg #[.slice a q c, .slice b r d, .int .i64 wi, .string (strB bb), .int .i64 pk]] w fun e w' => e = .returned (.bool true) ∧ Below w.heap.size w w' := by
  have hb0 := (Below.refl w.heap.size w).alloc (Nat.le_refl _) (.cells #[.slice a q c, .slice b r d, .int .i64 wi, .string (strB bb), .int .i64 pk] 26)
  have HB0 := Lib.hid hb0
  have HI := Lib.hid (hI _ hb0)
  have HP := Lib.hid hP
  have t1 : decide (0 ≤ wi) = true := decide_eq_true h1
  have t2 : decide (wi ≤ 1099511627776) = true := decide_eq_true h2
  clear h1 h2
  have t3 : ((strB bb).toList == []) = true := by rw [tB_list, h3]; rfl
  clear h3
  have t4 : decide (1 ≤ pk) = true := decide_eq_true h4
  have t5 : decide (pk ≤ 3) = true := decide_eq_true h5
  clear h4 h5
  clear hI hb0 hP
  go_enter Tryz.func22, Tryz.ntmps22
  go_wp2_with (first
    | (go_at_call 52; (with_reducible refine HI.out.mono ?_); rintro e w1 ⟨rfl, hb1⟩; have m1 := tkeep hb1 (tnew w #[.slice a q c, .slice b r d, .int .i64 wi, .string (strB bb), .int .i64 pk] 26 1 rfl); have m2 := tkeep hb1 (tnew w #[.slice a q c, .slice b r d, .int .i64 wi, .string (strB bb), .int .i64 pk] 26 2 rfl); have m3 := tkeep hb1 (tnew w #[.slice a q c, .slice b r d, .int .i64 wi, .string (strB bb), .int .i64 pk] 26 3 rfl); have m4 := tkeep hb1 (tnew w #[.slice a q c, .slice b r d, .int .i64 wi, .string (strB bb), .int .i64 pk] 26 4 rfl); have HB1 := Lib.hid (HB0.out.trans (hb1.mono HB0.out.size)); clear hb1)
    | (go_at_call 53; (with_reducible refine (HP.out _ HB1.out).mono ?_); rintro e w2 ⟨rfl, hb2⟩; have n1 := tkeep hb2 m1; have n2 := tkeep hb2 m2; have n3 := tkeep hb2 m3; have n4 := tkeep hb2 m4; have HB2 := Lib.hid (HB1.out.trans (hb2.mono HB1.out.size)); clear hb2))
  go_ret
  exact ⟨rfl, HB2.out⟩
set_option maxHeartbeats 1000000 in
set_option maxRecDepth 100000 in
theorem rq_low1 (hI : ∀ W, Below w.heap.size w W → Calls Tryz.prog 52 #[.slice a q c] W fun e w' => e = .returned (.bool true) ∧ Below W.heap.size W w') (hP : ∀ W, Below w.heap.size w W → Calls Tryz.prog 53 #[.slice b r d] W fun e w' => e = .returned (.bool true) ∧ Below W.heap.size W w') (hN : ∀ W, Calls Tryz.prog 54 #[.string (strB bb)] W fun e w' => e = .returned (.bool true) ∧ Below W.heap.size W w') (h1 : 0 ≤ wi) (h2 : wi ≤ 1099511627776) (h3 : bb ≠ []) (h4 : ¬ 1 ≤ pk) : Calls Tryz.prog 22 #[.agg #[.slice a q c, .slice b r d, .int .i64 wi, .string (strB bb), .int .i64 pk]] w fun e w' => e = .returned (.bool false) ∧ Below w.heap.size w w' := by
  have hb0 := (Below.refl w.heap.size w).alloc (Nat.le_refl _) (.cells #[.slice a q c, .slice b r d, .int .i64 wi, .string (strB bb), .int .i64 pk] 26)
  have HB0 := Lib.hid hb0
  have HI := Lib.hid (hI _ hb0)
  have HP := Lib.hid hP
  have HN := Lib.hid hN
  have t1 : decide (0 ≤ wi) = true := decide_eq_true h1
  have t2 : decide (wi ≤ 1099511627776) = true := decide_eq_true h2
  clear h1 h2
  have t3 : ((strB bb).toList == []) = false := by rw [tB_list, beq_eq_false_iff_ne]; exact h3
  clear h3
  have t4 : decide (1 ≤ pk) = false := decide_eq_false h4
  clear h4
  clear hI hb0 hP hN
  go_enter Tryz.func22, Tryz.ntmps22
  go_wp2_with (first
    | (go_at_call 52; (with_reducible refine HI.out.mono ?_); rintro e w1 ⟨rfl, hb1⟩; have m1 := tkeep hb1 (tnew w #[.slice a q c, .slice b r d, .int .i64 wi, .string (strB bb), .int .i64 pk] 26 1 rfl); have m2 := tkeep hb1 (tnew w #[.slice a q c, .slice b r d, .int .i64 wi, .string (strB bb), .int .i64 pk] 26 2 rfl); have m3 := tkeep hb1 (tnew w #[.slice a q c, .slice b r d, .int .i64 wi, .string (strB bb), .int .i64 pk] 26 3 rfl); have m4 := tkeep hb1 (tnew w #[.slice a q c, .slice b r d, .int .i64 wi, .string (strB bb), .int .i64 pk] 26 4 rfl); have HB1 := Lib.hid (HB0.out.trans (hb1.mono HB0.out.size)); clear hb1)
    | (go_at_call 53; (with_reducible refine (HP.out _ HB1.out).mono ?_); rintro e w2 ⟨rfl, hb2⟩; have n1 := tkeep hb2 m1; have n2 := tkeep hb2 m2; have n3 := tkeep hb2 m3; have n4 := tkeep hb2 m4; have HB2 := Lib.hid (HB1.out.trans (hb2.mono HB1.out.size)); clear hb2)
    | (go_at_call 54; (with_reducible refine (HN.out _).mono ?_); rintro e w3 ⟨rfl, hb3⟩; have k4 := tkeep hb3 n4; have HB3 := Lib.hid (HB2.out.trans (hb3.mono HB2.out.size)); clear hb3))
  go_ret
  exact ⟨rfl, HB3.out⟩
set_option maxHeartbeats 1000000 in
set_option maxRecDepth 100000 in
theorem rq_high1 (hI : ∀ W, Below w.heap.size w W → Calls Tryz.prog 52 #[.slice a q c] W fun e w' => e = .returned (.bool true) ∧ Below W.heap.size W w') (hP : ∀ W, Below w.heap.size w W → Calls Tryz.prog 53 #[.slice b r d] W fun e w' => e = .returned (.bool true) ∧ Below W.heap.size W w') (hN : ∀ W, Calls Tryz.prog 54 #[.string (strB bb)] W fun e w' => e = .returned (.bool true) ∧ Below W.heap.size W w') (h1 : 0 ≤ wi) (h2 : wi ≤ 1099511627776) (h3 : bb ≠ []) (h4 : 1 ≤ pk) (h5 : ¬ pk ≤ 3) : Calls Tryz.prog 22 #[.agg #[.slice a q c, .slice b r d, .int .i64 wi, .string (strB bb), .int .i64 pk]] w fun e w' => e = .returned (.bool false) ∧ Below w.heap.size w w' := by
  have hb0 := (Below.refl w.heap.size w).alloc (Nat.le_refl _) (.cells #[.slice a q c, .slice b r d, .int .i64 wi, .string (strB bb), .int .i64 pk] 26)
  have HB0 := Lib.hid hb0
  have HI := Lib.hid (hI _ hb0)
  have HP := Lib.hid hP
  have HN := Lib.hid hN
  have t1 : decide (0 ≤ wi) = true := decide_eq_true h1
  have t2 : decide (wi ≤ 1099511627776) = true := decide_eq_true h2
  clear h1 h2
  have t3 : ((strB bb).toList == []) = false := by rw [tB_list, beq_eq_false_iff_ne]; exact h3
  clear h3
  have t4 : decide (1 ≤ pk) = true := decide_eq_true h4
  have t5 : decide (pk ≤ 3) = false := decide_eq_false h5
  clear h4 h5
  clear hI hb0 hP hN
  go_enter Tryz.func22, Tryz.ntmps22
  go_wp2_with (first
    | (go_at_call 52; (with_reducible refine HI.out.mono ?_); rintro e w1 ⟨rfl, hb1⟩; have m1 := tkeep hb1 (tnew w #[.slice a q c, .slice b r d, .int .i64 wi, .string (strB bb), .int .i64 pk] 26 1 rfl); have m2 := tkeep hb1 (tnew w #[.slice a q c, .slice b r d, .int .i64 wi, .string (strB bb), .int .i64 pk] 26 2 rfl); have m3 := tkeep hb1 (tnew w #[.slice a q c, .slice b r d, .int .i64 wi, .string (strB bb), .int .i64 pk] 26 3 rfl); have m4 := tkeep hb1 (tnew w #[.slice a q c, .slice b r d, .int .i64 wi, .string (strB bb), .int .i64 pk] 26 4 rfl); have HB1 := Lib.hid (HB0.out.trans (hb1.mono HB0.out.size)); clear hb1)
    | (go_at_call 53; (with_reducible refine (HP.out _ HB1.out).mono ?_); rintro e w2 ⟨rfl, hb2⟩; have n1 := tkeep hb2 m1; have n2 := tkeep hb2 m2; have n3 := tkeep hb2 m3; have n4 := tkeep hb2 m4; have HB2 := Lib.hid (HB1.out.trans (hb2.mono HB1.out.size)); clear hb2)
    | (go_at_call 54; (with_reducible refine (HN.out _).mono ?_); rintro e w3 ⟨rfl, hb3⟩; have k4 := tkeep hb3 n4; have HB3 := Lib.hid (HB2.out.trans (hb3.mono HB2.out.size)); clear hb3))
  go_ret
  exact ⟨rfl, HB3.out⟩
set_option maxHeartbeats 1000000 in
set_option maxRecDepth 100000 in
theorem rq_ok1 (hI : ∀ W, Below w.heap.size w W → Calls Tryz.prog 52 #[.slice a q c] W fun e w' => e = .returned (.bool true) ∧ Below W.heap.size W w') (hP : ∀ W, Below w.heap.size w W → Calls Tryz.prog 53 #[.slice b r d] W fun e w' => e = .returned (.bool true) ∧ Below W.heap.size W w') (hN : ∀ W, Calls Tryz.prog 54 #[.string (strB bb)] W fun e w' => e = .returned (.bool true) ∧ Below W.heap.size W w') (h1 : 0 ≤ wi) (h2 : wi ≤ 1099511627776) (h3 : bb ≠ []) (h4 : 1 ≤ pk) (h5 : pk ≤ 3) : Calls Tryz.prog 22 #[.agg #[.slice a q c, .slice b r d, .int .i64 wi, .string (strB bb), .int .i64 pk]] w fun e w' => e = .returned (.bool true) ∧ Below w.heap.size w w' := by
  have hb0 := (Below.refl w.heap.size w).alloc (Nat.le_refl _) (.cells #[.slice a q c, .slice b r d, .int .i64 wi, .string (strB bb), .int .i64 pk] 26)
  have HB0 := Lib.hid hb0
  have HI := Lib.hid (hI _ hb0)
  have HP := Lib.hid hP
  have HN := Lib.hid hN
  have t1 : decide (0 ≤ wi) = true := decide_eq_true h1
  have t2 : decide (wi ≤ 1099511627776) = true := decide_eq_true h2
  clear h1 h2
  have t3 : ((strB bb).toList == []) = false := by rw [tB_list, beq_eq_false_iff_ne]; exact h3
  clear h3
  have t4 : decide (1 ≤ pk) = true := decide_eq_true h4
  have t5 : decide (pk ≤ 3) = true := decide_eq_true h5
  clear h4 h5
  clear hI hb0 hP hN
  go_enter Tryz.func22, Tryz.ntmps22
  go_wp2_with (first
    | (go_at_call 52; (with_reducible refine HI.out.mono ?_); rintro e w1 ⟨rfl, hb1⟩; have m1 := tkeep hb1 (tnew w #[.slice a q c, .slice b r d, .int .i64 wi, .string (strB bb), .int .i64 pk] 26 1 rfl); have m2 := tkeep hb1 (tnew w #[.slice a q c, .slice b r d, .int .i64 wi, .string (strB bb), .int .i64 pk] 26 2 rfl); have m3 := tkeep hb1 (tnew w #[.slice a q c, .slice b r d, .int .i64 wi, .string (strB bb), .int .i64 pk] 26 3 rfl); have m4 := tkeep hb1 (tnew w #[.slice a q c, .slice b r d, .int .i64 wi, .string (strB bb), .int .i64 pk] 26 4 rfl); have HB1 := Lib.hid (HB0.out.trans (hb1.mono HB0.out.size)); clear hb1)
    | (go_at_call 53; (with_reducible refine (HP.out _ HB1.out).mono ?_); rintro e w2 ⟨rfl, hb2⟩; have n1 := tkeep hb2 m1; have n2 := tkeep hb2 m2; have n3 := tkeep hb2 m3; have n4 := tkeep hb2 m4; have HB2 := Lib.hid (HB1.out.trans (hb2.mono HB1.out.size)); clear hb2)
    | (go_at_call 54; (with_reducible refine (HN.out _).mono ?_); rintro e w3 ⟨rfl, hb3⟩; have k4 := tkeep hb3 n4; have HB3 := Lib.hid (HB2.out.trans (hb3.mono HB2.out.size)); clear hb3))
  go_ret
  exact ⟨rfl, HB3.out⟩
end

/-- A query as a value: its rows in memory. -/
def QuAt (K : Nat → Prop) (w : World) (a : Option Addr) (q c : Nat) (b : Option Addr) (r d : Nat) (p : PQu) : Prop := RowK itemD K w (.slice a q c) p.its ∧ RowK predD K w (.slice b r d) p.prs
theorem RowK.len {α : Type} {D : RowD α} {K : Nat → Prop} {w : World} {a : Option Addr} {n c : Nat} {l : List α} (h : RowK D K w (.slice a n c) l) : n = l.length := by
  obtain ⟨a', c', e⟩ := h.slice
  injection e with e1 e2 e3
theorem right_calls {K : Nat → Prop} {w : World} {a b : Option Addr} {q c r d : Nat} {p : PQu} (h : QuAt K w a q c b r d p) (hb : QuB p) :
    Calls Tryz.prog 22 #[.agg #[.slice a q c, .slice b r d, .int .i64 p.within, .string (strB p.by_), .int .i64 p.pick]] w fun e w' => e = .returned (.bool (rightQ p)) ∧ Below w.heap.size w w' := by
  obtain ⟨h1, h2⟩ := h
  obtain rfl := h1.len
  obtain rfl := h2.len
  have hI := fun W (hW : Below w.heap.size w W) => rightItems_calls (h1.low hW) hb.1
  have hP := fun W (hW : Below w.heap.size w W) => rightPreds_calls (h2.low hW) hb.2.1
  have hN := fun W => nameOk_calls p.by_ W hb.2.2
  unfold rightQ
  cases b1 : rightIs p.its with
  | false =>
    rw [b1] at hI
    exact rq_items hI
  | true =>
  rw [b1] at hI
  rw [Bool.true_and, ← Bool.and_assoc]
  cases b2 : (decide (p.prs.length ≤ 8) && p.prs.all rightP) with
  | false =>
    rw [b2] at hP
    exact rq_preds hI hP
  | true =>
  rw [b2] at hP
  rw [Bool.true_and]
  by_cases w1 : ¬ (0 ≤ p.within)
  · rw [show decide (0 ≤ p.within ∧ p.within ≤ 1099511627776) = false from decide_eq_false (fun e => w1 e.1)]
    exact rq_neg hI hP w1
  have w1 := Decidable.not_not.1 w1
  by_cases w2 : ¬ (p.within ≤ 1099511627776)
  · rw [show decide (0 ≤ p.within ∧ p.within ≤ 1099511627776) = false from decide_eq_false (fun e => w2 e.2)]
    exact rq_long hI hP w1 w2
  have w2 := Decidable.not_not.1 w2
  rw [show decide (0 ≤ p.within ∧ p.within ≤ 1099511627776) = true from decide_eq_true ⟨w1, w2⟩, Bool.true_and]
  by_cases h0 : p.by_ = []
  · rw [show (decide (p.by_ = []) || nameB p.by_) = true by rw [decide_eq_true h0]; rfl, Bool.true_and]
    by_cases p1 : ¬ (1 ≤ p.pick)
    · rw [show decide (1 ≤ p.pick ∧ p.pick ≤ 3) = false from decide_eq_false (fun e => p1 e.1)]
      exact rq_low0 hI hP w1 w2 h0 p1
    have p1 := Decidable.not_not.1 p1
    by_cases p2 : p.pick ≤ 3
    · rw [show decide (1 ≤ p.pick ∧ p.pick ≤ 3) = true from decide_eq_true ⟨p1, p2⟩]
      exact rq_ok0 hI hP w1 w2 h0 p1 p2
    · rw [show decide (1 ≤ p.pick ∧ p.pick ≤ 3) = false from decide_eq_false (fun e => p2 e.2)]
      exact rq_high0 hI hP w1 w2 h0 p1 p2
  · rw [show (decide (p.by_ = []) || nameB p.by_) = nameB p.by_ by rw [decide_eq_false h0]; rfl]
    cases b3 : nameB p.by_ with
    | false =>
      rw [b3] at hN
      rw [Bool.false_and]
      exact rq_name hI hP hN w1 w2 h0
    | true =>
    rw [b3] at hN
    rw [Bool.true_and]
    by_cases p1 : ¬ (1 ≤ p.pick)
    · rw [show decide (1 ≤ p.pick ∧ p.pick ≤ 3) = false from decide_eq_false (fun e => p1 e.1)]
      exact rq_low1 hI hP hN w1 w2 h0 p1
    have p1 := Decidable.not_not.1 p1
    by_cases p2 : p.pick ≤ 3
    · rw [show decide (1 ≤ p.pick ∧ p.pick ≤ 3) = true from decide_eq_true ⟨p1, p2⟩]
      exact rq_ok1 hI hP hN w1 w2 h0 p1 p2
    · rw [show decide (1 ≤ p.pick ∧ p.pick ≤ 3) = false from decide_eq_false (fun e => p2 e.2)]
      exact rq_high1 hI hP hN w1 w2 h0 p1 p2

end Go.Proofs.YtifacoompbngaaaGreatDoor
namespace Go.Proofs.YtifacoompbngaaaGreatDoor
open Go.Lib

section
variable {E : Nat} {s : RS}
theorem takeT_suf (k : Nat) (b : List UInt8) : (takeT E s k b).2.l <:+ s.l := by
  unfold takeT
  split
  · exact List.tail_suffix _
  · exact List.suffix_refl _
theorem failT_suf : (failT E s).l <:+ s.l := List.nil_suffix
theorem needT_suf (k : Nat) (b : List UInt8) : (needT E s k b).l <:+ s.l := by
  unfold needT
  split
  · exact takeT_suf k b
  · exact List.nil_suffix
theorem ofT_suf (k : Nat) : (ofT E s k).2.l <:+ s.l := by
  unfold ofT
  split
  · exact List.tail_suffix _
  · exact failT_suf
theorem numberT_suf : (numberT E s).2.l <:+ s.l := ofT_suf 2
theorem nameT_suf : (nameT E s).2.l <:+ s.l := by
  unfold nameT
  refine (ofT_suf 1).trans ?_
  split
  · exact failT_suf
  · exact List.suffix_refl _
theorem amongT_suf (k : Nat) : ∀ (l : List (List UInt8)) (n : Nat), (amongT E s k n l).2.l <:+ s.l
  | [], n => List.suffix_refl _
  | b :: r, n => by
    rw [amongT]
    split
    · exact takeT_suf k b
    · exact amongT_suf k r (n + 1)
theorem chooseT_suf (k : Nat) (l : List (List UInt8)) : (chooseT E s k l).2.l <:+ s.l := by
  unfold chooseT
  split
  · exact List.nil_suffix
  · exact amongT_suf k l 0
theorem fieldT_suf (k : Int) : (fieldT E s k).2.l <:+ s.l := by
  unfold fieldT
  exact nameT_suf.trans ((needT_suf _ _).trans nameT_suf)
theorem callT_suf (k : Int) : (callT E s k).2.l <:+ s.l := by
  unfold callT
  refine (needT_suf _ _).trans ?_
  split
  · exact nameT_suf.trans (needT_suf _ _)
  · exact (fieldT_suf _).trans (needT_suf _ _)
theorem valT_suf : (valT E s).2.2.l <:+ s.l := by
  unfold valT
  split
  · exact numberT_suf
  · split
    · exact numberT_suf.trans (takeT_suf _ _)
    · split
      · exact ofT_suf 3
      · split
        · exact takeT_suf _ _
        · split
          · exact takeT_suf _ _
          · exact List.suffix_refl _
theorem sumsT_suf {E : Nat} {tm : RS → PEx × RS} (ht : ∀ s, (tm s).2.l <:+ s.l) : ∀ (n : Nat) (x : PEx) (s : RS), (sumsT E tm n x s).2.l <:+ s.l
  | 0, x, s => List.suffix_refl _
  | n + 1, x, s => by
    rw [sumsT]
    split
    · exact amongT_suf _ _ _
    · exact (sumsT_suf ht n _ _).trans ((ht _).trans (amongT_suf _ _ _))
theorem exprT_suf {E : Nat} {tm : RS → PEx × RS} (ht : ∀ s, (tm s).2.l <:+ s.l) (n : Nat) (s : RS) : (exprT E tm n s).2.l <:+ s.l := (sumsT_suf ht n _ _).trans (ht s)
theorem innerT_suf {E : Nat} {tm : RS → PEx × RS} (ht : ∀ s, (tm s).2.l <:+ s.l) (n : Nat) (s : RS) : (innerT E tm n s).2.l <:+ s.l := by
  unfold innerT
  refine (needT_suf _ _).trans ?_
  refine (exprT_suf ht n _).trans ?_
  refine (needT_suf _ _).trans ?_
  split
  · exact failT_suf
  · exact List.suffix_refl _
theorem termT_suf {E : Nat} : ∀ (n : Nat) (s : RS), (termT E n s).2.l <:+ s.l
  | 0, s => List.suffix_refl _
  | n + 1, s => by
    rw [termT]
    split
    · exact valT_suf
    · split
      · exact innerT_suf (termT_suf n) n s
      · split
        · exact (fieldT_suf _).trans (amongT_suf _ _ _)
        · exact (callT_suf _).trans (amongT_suf _ _ _)
theorem rowT_suf {α : Type} {b : List UInt8} {one : RS → α × RS} (hle : ∀ s, (one s).2.l <:+ s.l) : ∀ (n : Nat) (l : List α) (s : RS), (rowT E b one n l s).2.l <:+ s.l
  | 0, l, s => List.suffix_refl _
  | n + 1, l, s => by
    rw [rowT]
    split
    · exact (rowT_suf hle n _ _).trans ((hle _).trans (takeT_suf _ _))
    · exact List.suffix_refl _
theorem row1T_suf {α : Type} {b : List UInt8} {one : RS → α × RS} (hle : ∀ s, (one s).2.l <:+ s.l) (n : Nat) (s : RS) : (row1T E b one n s).2.l <:+ s.l := (rowT_suf hle n _ _).trans (hle s)
theorem itemT_suf (n : Nat) : (itemT E n s).2.l <:+ s.l := by
  unfold itemT
  exact (amongT_suf _ _ _).trans (nameT_suf.trans ((row1T_suf (fun _ => nameT_suf) n _).trans (takeT_suf _ _)))
theorem predT_suf (n : Nat) : (predT E n s).2.l <:+ s.l := by
  unfold predT
  exact (exprT_suf (termT_suf n) n _).trans ((chooseT_suf _ _).trans (exprT_suf (termT_suf n) n _))
end

/-- So long are tokens. -/
def SB (s : RS) : Prop := (∀ t ∈ s.l, t.b.length ≤ 1000) ∧ s.l.length ≤ 500
theorem SB.suf {s s' : RS} (h : SB s) (hs : s'.l <:+ s.l) : SB s' := ⟨fun t ht => h.1 t (hs.subset ht), Nat.le_trans hs.length_le h.2⟩

section
variable {E : Nat} {s : RS}
theorem nextT_sb (h : SB s) : (nextT E s).b.length ≤ 1000 := by
  unfold nextT
  split
  · simp
  · rename_i t r hl
    exact h.1 t (by rw [hl]; exact List.mem_cons_self)
theorem ofT_sb (h : SB s) (k : Nat) : (ofT E s k).1.length ≤ 1000 := by
  unfold ofT
  split
  · exact nextT_sb h
  · simp
theorem nameT_sb (h : SB s) : (nameT E s).1.length ≤ 1000 := by
  unfold nameT
  refine ofT_sb ?_ 1
  split
  · exact h.suf failT_suf
  · exact h
theorem fieldT_sb (h : SB s) (k : Int) : XBd (fieldT E s k).1 := by
  unfold fieldT
  have h1 := nameT_sb (E := E) h
  have h2 := nameT_sb (E := E) (s := needT E (nameT E s).2 4 [46]) ((h.suf nameT_suf).suf (needT_suf _ _))
  exact .mk _ _ _ _ _ (by simp [noV]) (by omega) (by omega) (fun y hy => by cases hy)
theorem callT_sb (h : SB s) (k : Int) : XBd (callT E s k).1 := by
  unfold callT
  dsimp only
  split
  · have h1 := nameT_sb (E := E) (s := needT E s 4 [40]) (h.suf (needT_suf _ _))
    exact .mk _ _ _ _ _ (by simp [noV]) (by omega) (by simp) (fun y hy => by cases hy)
  · exact fieldT_sb (h.suf (needT_suf _ _)) k
theorem valT_sb (h : SB s) : (valT E s).1.s.length ≤ 1000 := by
  unfold valT
  split
  · simp
  · split
    · simp
    · split
      · exact ofT_sb h 3
      · split
        · simp
        · split
          · simp
          · simp [noV]
theorem sumsT_sb {E : Nat} {tm : RS → PEx × RS} (ht : ∀ s, (tm s).2.l <:+ s.l) (hb : ∀ s, SB s → XBd (tm s).1) : ∀ (n : Nat) (x : PEx) (s : RS), XBd x → SB s → XBd (sumsT E tm n x s).1
  | 0, x, s, hx, _ => hx
  | n + 1, x, s, hx, h => by
    rw [sumsT]
    split
    · exact hx
    · have h1 : SB (amongT E s 4 0 sumsL).2 := h.suf (amongT_suf _ _ _)
      refine sumsT_sb ht hb n _ _ (.mk _ _ _ _ _ (by simp [noV]) (by simp) (by simp) (fun y hy => ?_)) (h1.suf (ht _))
      rcases List.mem_cons.1 hy with rfl | hy
      · exact hx
      · rw [List.mem_singleton.1 hy]
        exact hb _ h1
theorem exprT_sb {E : Nat} {tm : RS → PEx × RS} (ht : ∀ s, (tm s).2.l <:+ s.l) (hb : ∀ s, SB s → XBd (tm s).1) (n : Nat) {s : RS} (h : SB s) : XBd (exprT E tm n s).1 := sumsT_sb ht hb n _ _ (hb s h) (h.suf (ht s))
theorem innerT_sb {E : Nat} {tm : RS → PEx × RS} (ht : ∀ s, (tm s).2.l <:+ s.l) (hb : ∀ s, SB s → XBd (tm s).1) (n : Nat) {s : RS} (h : SB s) : XBd (innerT E tm n s).1 := by
  unfold innerT
  refine exprT_sb ht hb n ?_
  refine SB.suf ?_ (needT_suf (E := E) 4 [40])
  split
  · exact h.suf failT_suf
  · exact h
theorem termT_sb {E : Nat} : ∀ (n : Nat) (s : RS), SB s → XBd (termT E n s).1
  | 0, s, _ => .mk _ _ _ _ _ (by simp [noV]) (by simp) (by simp) (fun y hy => by cases hy)
  | n + 1, s, h => by
    rw [termT]
    split
    · exact .mk _ _ _ _ _ (by have := valT_sb (E := E) h; omega) (by simp) (by simp) (fun y hy => by cases hy)
    · split
      · exact innerT_sb (termT_suf n) (termT_sb n) n h
      · split
        · exact fieldT_sb (h.suf (amongT_suf _ _ _)) _
        · exact callT_sb (h.suf (amongT_suf _ _ _)) _
theorem rowT_sb {α : Type} {Q : α → Prop} {b : List UInt8} {one : RS → α × RS} (hs : ∀ s, (one s).2.l <:+ s.l) (hb : ∀ s, SB s → Q (one s).1) : ∀ (n : Nat) (l : List α) (s : RS), (∀ x ∈ l, Q x) → SB s → ∀ x ∈ (rowT E b one n l s).1, Q x
  | 0, l, s, hl, _ => hl
  | n + 1, l, s, hl, h => by
    rw [rowT]
    split
    · have h1 : SB (takeT E s 1 b).2 := h.suf (takeT_suf _ _)
      refine rowT_sb hs hb n _ _ (fun x hx => ?_) (h1.suf (hs _))
      rcases List.mem_append.1 hx with hx | hx
      · exact hl x hx
      · rw [List.mem_singleton.1 hx]
        exact hb _ h1
    · exact hl
theorem row1T_sb {α : Type} {Q : α → Prop} {b : List UInt8} {one : RS → α × RS} (hs : ∀ s, (one s).2.l <:+ s.l) (hb : ∀ s, SB s → Q (one s).1) (n : Nat) {s : RS} (h : SB s) : ∀ x ∈ (row1T E b one n s).1, Q x :=
  rowT_sb hs hb n _ _ (fun x hx => by rw [List.mem_singleton.1 hx]; exact hb s h) (h.suf (hs s))
theorem rowT_len {α : Type} {b : List UInt8} {one : RS → α × RS} (hs : ∀ s, (one s).2.l.length ≤ s.l.length) : ∀ (n : Nat) (l : List α) (s : RS), (rowT E b one n l s).1.length ≤ l.length + s.l.length
  | 0, l, s => by show l.length ≤ _; omega
  | n + 1, l, s => by
    rw [rowT]
    split
    · rename_i hc
      have h1 := takeT_lt hc (by decide)
      have h2 := hs (takeT E s 1 b).2
      have h3 := rowT_len (b := b) hs n (l ++ [(one (takeT E s 1 b).2).1]) (one (takeT E s 1 b).2).2
      rw [List.length_append, List.length_singleton] at h3
      omega
    · show l.length ≤ _; omega
theorem itemT_sb (n : Nat) (h : SB s) : ItB (itemT E n s).1 := by
  unfold itemT
  have h5 := h.2
  have h1 : SB (takeT E s 1 wNot).2 := h.suf (takeT_suf _ _)
  have hl := takeT_le (E := E) (s := s) 1 wNot
  refine ⟨?_, fun b hb => ?_, ?_⟩
  · have h2 := rowT_len (E := E) (b := wOr) (one := nameT E) (fun _ => nameT_le) n [(nameT E (takeT E s 1 wNot).2).1] (nameT E (takeT E s 1 wNot).2).2
    have h3 := nameT_le (E := E) (s := (takeT E s 1 wNot).2)
    show (row1T E wOr (nameT E) n (takeT E s 1 wNot).2).1.length ≤ _
    unfold row1T
    rw [List.length_singleton] at h2
    omega
  · have := row1T_sb (E := E) (Q := fun b => b.length ≤ 1000) (b := wOr) (fun _ => nameT_suf) (fun _ hs => nameT_sb hs) n h1 b hb
    omega
  · have := nameT_sb (E := E) (s := (row1T E wOr (nameT E) n (takeT E s 1 wNot).2).2) (h1.suf (row1T_suf (fun _ => nameT_suf) n _))
    show (nameT E _).1.length ≤ _
    omega
theorem predT_sb (n : Nat) (h : SB s) : PrB (predT E n s).1 := by
  unfold predT
  exact ⟨exprT_sb (termT_suf n) (termT_sb n) n h, exprT_sb (termT_suf n) (termT_sb n) n ((h.suf (exprT_suf (termT_suf n) n s)).suf (chooseT_suf _ _))⟩
theorem queryT_sb (n : Nat) (h : SB s) : QuB (queryT E n s).1 := by
  have h0 : SB (needT E s 1 wSeq) := h.suf (needT_suf _ _)
  obtain ⟨a, ha⟩ : ∃ a, row1T E wThen (itemT E n) n (needT E s 1 wSeq) = a := ⟨_, rfl⟩
  have h1 : SB a.2 := by rw [← ha]; exact h0.suf (row1T_suf (fun _ => itemT_suf n) n _)
  obtain ⟨p, hp⟩ : ∃ p, (if isT E a.2 1 wWhere then row1T E wAnd (predT E n) n (takeT E a.2 1 wWhere).2 else ([], a.2)) = p := ⟨_, rfl⟩
  have hp1 : (∀ x ∈ p.1, PrB x) ∧ SB p.2 := by
    rw [← hp]
    split
    · exact ⟨row1T_sb (fun _ => predT_suf n) (fun _ hs => predT_sb n hs) n (h1.suf (takeT_suf _ _)), (h1.suf (takeT_suf _ _)).suf (row1T_suf (fun _ => predT_suf n) n _)⟩
    · exact ⟨fun x hx => (by cases hx), h1⟩
  obtain ⟨c, hc⟩ : ∃ c, numberT E (needT E p.2 1 wWithin) = c := ⟨_, rfl⟩
  have h2 : SB c.2 := by rw [← hc]; exact (hp1.2.suf (needT_suf _ _)).suf numberT_suf
  obtain ⟨b, hb⟩ : ∃ b, (if isT E c.2 1 wBy then nameT E (takeT E c.2 1 wBy).2 else ([], c.2)) = b := ⟨_, rfl⟩
  have hb1 : b.1.length ≤ 1000 := by
    rw [← hb]
    split
    · exact nameT_sb (h2.suf (takeT_suf _ _))
    · simp
  have e : (queryT E n s).1.its = a.1 ∧ (queryT E n s).1.prs = p.1 ∧ (queryT E n s).1.by_ = b.1 := by
    unfold queryT
    rw [ha]
    try dsimp only
    rw [hp]
    try dsimp only
    rw [hc]
    try dsimp only
    rw [hb]
    exact ⟨rfl, rfl, rfl⟩
  refine ⟨?_, ?_, ?_⟩
  · rw [e.1, ← ha]
    exact row1T_sb (fun _ => itemT_suf n) (fun _ hs => itemT_sb n hs) n h0
  · rw [e.2.1]
    exact hp1.1
  · rw [e.2.2]
    omega
end

end Go.Proofs.YtifacoompbngaaaGreatDoor
