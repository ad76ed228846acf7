/- The statement ValueOrder, its walk. -/
import Derived.Test.YtfllemgoldicpaaDoorVA
import Derived.Deep.DeepCutAuto
namespace Go.Proofs.YtfllemgoldicpaaDoor
open Go.RowKit Go.Lib Go.Op

/-- What a law's call leaves. -/
def VFine (w : World) (e : Ending) (w' : World) : Prop := e = .returned (.bool true) ∧ Below w.heap.size w w'

/-- Two values in their blocks. -/
structure TwoV (X : Nat) (k1 n1 : Int) (s1 : ByteArray) (k2 n2 : Int) (s2 : ByteArray) (w W : World) : Prop where
  c0 : W.cell? ⟨X, 0, none⟩ = some (.int .i64 k1)
  c1 : W.cell? ⟨X, 1, none⟩ = some (.int .i64 n1)
  c2 : W.cell? ⟨X, 2, none⟩ = some (.string s1)
  d0 : W.cell? ⟨X + 1, 0, none⟩ = some (.int .i64 k2)
  d1 : W.cell? ⟨X + 1, 1, none⟩ = some (.int .i64 n2)
  d2 : W.cell? ⟨X + 1, 2, none⟩ = some (.string s2)
  hb : Below w.heap.size w W
  tab : HoldsTab W

theorem TwoV.below {X : Nat} {k1 n1 : Int} {s1 : ByteArray} {k2 n2 : Int} {s2 : ByteArray} {w W W' : World} (h : TwoV X k1 n1 s1 k2 n2 s2 w W) (hb : Below W.heap.size W W') : TwoV X k1 n1 s1 k2 n2 s2 w W' := by
  have k : ∀ {p : Addr} {v : Value}, W.cell? p = some v → W'.cell? p = some v := fun hp => (hb.cell (World.block_lt_of_cell? _ _ hp)).trans hp
  exact ⟨k h.c0, k h.c1, k h.c2, k h.d0, k h.d1, k h.d2, h.hb.trans (hb.mono h.hb.size), h.tab.below hb⟩

theorem TwoV.start (w : World) (hT : HoldsTab w) (k1 n1 : Int) (s1 : ByteArray) (k2 n2 : Int) (s2 : ByteArray) :
    TwoV w.heap.size k1 n1 s1 k2 n2 s2 w ((w.alloc (.cells #[.int .i64 k1, .int .i64 n1, .string s1] 23)).alloc (.cells #[.int .i64 k2, .int .i64 n2, .string s2] 23)) := by
  have hb : Below w.heap.size w ((w.alloc (.cells #[.int .i64 k1, .int .i64 n1, .string s1] 23)).alloc (.cells #[.int .i64 k2, .int .i64 n2, .string s2] 23)) := ((Below.refl _ _).alloc (Nat.le_refl _) _).alloc (by simp) _
  exact ⟨by simp, by simp, by simp, by simp, by simp, by simp, hb, hT.below hb⟩

theorem two_allocs {W : World} (o p : Obj) : Below W.heap.size W ((W.alloc o).alloc p) := ((Below.refl _ _).alloc (Nat.le_refl _) _).alloc (by simp) _
theorem one_alloc {W : World} (o : Obj) : Below W.heap.size W (W.alloc o) := (Below.refl _ _).alloc (Nat.le_refl _) _


set_option maxHeartbeats 4000000 in
set_option maxRecDepth 100000 in
theorem order_great (w : World) (hT : HoldsTab w) (k1 n1 : Int) (s1 : ByteArray) (k2 n2 : Int) (s2 : ByteArray) (hs1 : s1.size ≤ maxLen) (hs2 : s2.size ≤ maxLen) (hg : 9000 < s1.size ∨ s1.size ≤ 9000 ∧ 9000 < s2.size) : Calls Tryd.prog 6 #[.agg #[.int .i64 k1, .int .i64 n1, .string s1], .agg #[.int .i64 k2, .int .i64 n2, .string s2]] w (VFine w) := by
  have H0 := Lib.hid (TwoV.start w hT k1 n1 s1 k2 n2 s2)
  unfold maxLen at hs1 hs2
  have Hs1 : Hid (s1.size ≤ maxLen) := hs1
  have Hs2 : Hid (s2.size ≤ maxLen) := hs2
  clear hT
  have hq : (9000 < s1.size) ∨ (¬ 9000 < s1.size ∧ 9000 < s2.size) := by omega
  clear hg
  rcases hq with hq | ⟨hq, hq2⟩
  all_goals
  go_enter Tryd.func6, Tryd.ntmps6
  go_wp2_with fail
  refine (vhead_calls _ H0.out.tab).mono ?_
  rintro _ w1 ⟨rfl, hb1⟩
  have H1 := Lib.hid (H0.out.below hb1)
  obtain ⟨c0, c1, c2, d0, d1, d2, _, _⟩ := H0.out.below hb1
  have hX := World.block_lt_of_cell? _ _ c0
  have hX1 := World.block_lt_of_cell? _ _ d0
  clear hb1 H0
  go_wp2_with (first | (go_at_call 16; (with_reducible refine (vright_calls k1 n1 s1 _ Hs1.out).mono ?_); rintro e wq ⟨rfl, rfl⟩) | (go_at_call 16; (with_reducible refine (vright_calls k2 n2 s2 _ Hs2.out).mono ?_); rintro e wq ⟨rfl, rfl⟩))
  go_ret
  exact ⟨rfl, H1.out.hb⟩

set_option maxHeartbeats 4000000 in
set_option maxRecDepth 100000 in
theorem order_wrong1 (w : World) (hT : HoldsTab w) (k1 n1 : Int) (s1 : ByteArray) (k2 n2 : Int) (s2 : ByteArray) (hs1 : s1.size ≤ maxLen) (hs2 : s2.size ≤ maxLen) (h1 : ¬ 9000 < s1.size) (h2 : ¬ 9000 < s2.size) (hr : rightV k1 n1 s1 = false) : Calls Tryd.prog 6 #[.agg #[.int .i64 k1, .int .i64 n1, .string s1], .agg #[.int .i64 k2, .int .i64 n2, .string s2]] w (VFine w) := by
  have H0 := Lib.hid (TwoV.start w hT k1 n1 s1 k2 n2 s2)
  unfold maxLen at hs1 hs2
  have Hs1 : Hid (s1.size ≤ maxLen) := hs1
  have Hs2 : Hid (s2.size ≤ maxLen) := hs2
  clear hT
  go_enter Tryd.func6, Tryd.ntmps6
  go_wp2_with fail
  refine (vhead_calls _ H0.out.tab).mono ?_
  rintro _ w1 ⟨rfl, hb1⟩
  have H1 := Lib.hid (H0.out.below hb1)
  obtain ⟨c0, c1, c2, d0, d1, d2, _, _⟩ := H0.out.below hb1
  have hX := World.block_lt_of_cell? _ _ c0
  have hX1 := World.block_lt_of_cell? _ _ d0
  clear hb1 H0
  go_wp2_with (first | (go_at_call 16; (with_reducible refine (vright_calls k1 n1 s1 _ Hs1.out).mono ?_); rintro e wq ⟨rfl, rfl⟩) | (go_at_call 16; (with_reducible refine (vright_calls k2 n2 s2 _ Hs2.out).mono ?_); rintro e wq ⟨rfl, rfl⟩))
  go_ret
  exact ⟨rfl, (H1.out.below (one_alloc _)).hb⟩

set_option maxHeartbeats 4000000 in
set_option maxRecDepth 100000 in
theorem order_wrong2 (w : World) (hT : HoldsTab w) (k1 n1 : Int) (s1 : ByteArray) (k2 n2 : Int) (s2 : ByteArray) (hs1 : s1.size ≤ maxLen) (hs2 : s2.size ≤ maxLen) (h1 : ¬ 9000 < s1.size) (h2 : ¬ 9000 < s2.size) (hr : rightV k1 n1 s1 = true) (hr2 : rightV k2 n2 s2 = false) : Calls Tryd.prog 6 #[.agg #[.int .i64 k1, .int .i64 n1, .string s1], .agg #[.int .i64 k2, .int .i64 n2, .string s2]] w (VFine w) := by
  have H0 := Lib.hid (TwoV.start w hT k1 n1 s1 k2 n2 s2)
  unfold maxLen at hs1 hs2
  have Hs1 : Hid (s1.size ≤ maxLen) := hs1
  have Hs2 : Hid (s2.size ≤ maxLen) := hs2
  clear hT
  go_enter Tryd.func6, Tryd.ntmps6
  go_wp2_with fail
  refine (vhead_calls _ H0.out.tab).mono ?_
  rintro _ w1 ⟨rfl, hb1⟩
  have H1 := Lib.hid (H0.out.below hb1)
  obtain ⟨c0, c1, c2, d0, d1, d2, _, _⟩ := H0.out.below hb1
  have hX := World.block_lt_of_cell? _ _ c0
  have hX1 := World.block_lt_of_cell? _ _ d0
  clear hb1 H0
  go_wp2_with (first | (go_at_call 16; (with_reducible refine (vright_calls k1 n1 s1 _ Hs1.out).mono ?_); rintro e wq ⟨rfl, rfl⟩) | (go_at_call 16; (with_reducible refine (vright_calls k2 n2 s2 _ Hs2.out).mono ?_); rintro e wq ⟨rfl, rfl⟩))
  go_ret
  exact ⟨rfl, (H1.out.below (two_allocs _ _)).hb⟩

set_option maxHeartbeats 4000000 in
set_option maxRecDepth 100000 in
theorem order_kinds (w : World) (hT : HoldsTab w) (k1 n1 : Int) (s1 : ByteArray) (k2 n2 : Int) (s2 : ByteArray) (hs1 : s1.size ≤ maxLen) (hs2 : s2.size ≤ maxLen) (h1 : ¬ 9000 < s1.size) (h2 : ¬ 9000 < s2.size) (hr : rightV k1 n1 s1 = true) (hr2 : rightV k2 n2 s2 = true) (hk : k1 ≠ k2) : Calls Tryd.prog 6 #[.agg #[.int .i64 k1, .int .i64 n1, .string s1], .agg #[.int .i64 k2, .int .i64 n2, .string s2]] w (VFine w) := by
  have Z1 := Lib.hid (cmpV_kind (op := 1) (a := ⟨k1, n1, s1.data.toList⟩) (b := ⟨k2, n2, s2.data.toList⟩) hr hr2 (by decide) (by decide) (.inl hk))
  have Z2 := Lib.hid (cmpV_kind (op := 2) (a := ⟨k1, n1, s1.data.toList⟩) (b := ⟨k2, n2, s2.data.toList⟩) hr hr2 (by decide) (by decide) (.inl hk))
  have hk1 : (k1 != k2) = true := by rw [bne_iff_ne]; exact hk
  have H0 := Lib.hid (TwoV.start w hT k1 n1 s1 k2 n2 s2)
  unfold maxLen at hs1 hs2
  have Hs1 : Hid (s1.size ≤ maxLen) := hs1
  have Hs2 : Hid (s2.size ≤ maxLen) := hs2
  clear hT
  go_enter Tryd.func6, Tryd.ntmps6
  go_wp2_with fail
  refine (vhead_calls _ H0.out.tab).mono ?_
  rintro _ w1 ⟨rfl, hb1⟩
  have H1 := Lib.hid (H0.out.below hb1)
  obtain ⟨c0, c1, c2, d0, d1, d2, _, _⟩ := H0.out.below hb1
  have hX := World.block_lt_of_cell? _ _ c0
  have hX1 := World.block_lt_of_cell? _ _ d0
  clear hb1 H0
  go_upto_region 4 with (first | (go_at_call 16; (with_reducible refine (vright_calls k1 n1 s1 _ Hs1.out).mono ?_); rintro e wq ⟨rfl, rfl⟩) | (go_at_call 16; (with_reducible refine (vright_calls k2 n2 s2 _ Hs2.out).mono ?_); rintro e wq ⟨rfl, rfl⟩))
  obtain ⟨w2, hw2⟩ : ∃ w2, w2 = ((w1.alloc (.cells #[.int .i64 k1, .int .i64 n1, .string s1] 23)).alloc (.cells #[.int .i64 k2, .int .i64 n2, .string s2] 23)) := ⟨_, rfl⟩
  have H2 : Hid (TwoV w.heap.size k1 n1 s1 k2 n2 s2 w w2) := by rw [hw2]; exact H1.out.below (two_allocs _ _)
  rw [← hw2]
  clear hw2 H1 c0 c1 c2 d0 d1 d2 hX hX1
  obtain ⟨c0, c1, c2, d0, d1, d2, _, _⟩ := H2.out
  go_wp2_with fail
  refine (vcmp_of 1 k1 n1 s1 k2 n2 s2 Hs1.out Hs2.out Z1.out w2 H2.out.tab).mono ?_
  rintro _ w3 ⟨rfl, hb3⟩
  have H3 := Lib.hid (H2.out.below hb3)
  obtain ⟨c0, c1, c2, d0, d1, d2, _, _⟩ := H2.out.below hb3
  clear hb3 H2
  go_wp2_with fail
  refine (vcmp_of 2 k1 n1 s1 k2 n2 s2 Hs1.out Hs2.out Z2.out w3 H3.out.tab).mono ?_
  rintro _ w4 ⟨rfl, hb4⟩
  have H4 := Lib.hid (H3.out.below hb4)
  obtain ⟨c0, c1, c2, d0, d1, d2, _, _⟩ := H3.out.below hb4
  clear hb4 H3
  go_wp2
  go_ret
  exact ⟨rfl, H4.out.hb⟩

end Go.Proofs.YtfllemgoldicpaaDoor
