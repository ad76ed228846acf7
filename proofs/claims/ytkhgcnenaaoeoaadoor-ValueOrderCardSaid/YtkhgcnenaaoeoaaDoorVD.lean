/- ValueOrder's walk: two of one kind, less or greater by their numbers. -/
import Derived.Test.YtkhgcnenaaoeoaaDoorVC
namespace Go.Proofs.YtkhgcnenaaoeoaaDoor
open Go.RowKit Go.Lib Go.Op


set_option maxHeartbeats 4000000 in
set_option maxRecDepth 100000 in
theorem order_less_n (w : World) (hT : HoldsTab w) (k1 n1 : Int) (s1 : ByteArray) (n2 : Int) (s2 : ByteArray) (hs1 : s1.size ≤ maxLen) (hs2 : s2.size ≤ maxLen) (h1 : ¬ 9000 < s1.size) (h2 : ¬ 9000 < s2.size) (hr : rightV k1 n1 s1 = true) (hr2 : rightV k1 n2 s2 = true) (hk : (k1 == 3) = false) (hn : (n1 == n2) = false) (z1 : cmpV 1 ⟨k1, n1, s1.data.toList⟩ ⟨k1, n2, s2.data.toList⟩ = (false, 0)) (z2 : cmpV 2 ⟨k1, n1, s1.data.toList⟩ ⟨k1, n2, s2.data.toList⟩ = (true, 0)) (z3 : cmpV 3 ⟨k1, n1, s1.data.toList⟩ ⟨k1, n2, s2.data.toList⟩ = (true, 0)) (z4 : cmpV 4 ⟨k1, n1, s1.data.toList⟩ ⟨k1, n2, s2.data.toList⟩ = (true, 0)) (z5 : cmpV 5 ⟨k1, n1, s1.data.toList⟩ ⟨k1, n2, s2.data.toList⟩ = (false, 0)) (z6 : cmpV 6 ⟨k1, n1, s1.data.toList⟩ ⟨k1, n2, s2.data.toList⟩ = (false, 0)) (z7 : cmpV 5 ⟨k1, n2, s2.data.toList⟩ ⟨k1, n1, s1.data.toList⟩ = (true, 0)) : Calls Tryd.prog 6 #[.agg #[.int .i64 k1, .int .i64 n1, .string s1], .agg #[.int .i64 k1, .int .i64 n2, .string s2]] w (VFine w) := by
  have Z1 := Lib.hid z1
  have Z2 := Lib.hid z2
  have Z3 := Lib.hid z3
  have Z4 := Lib.hid z4
  have Z5 := Lib.hid z5
  have Z6 := Lib.hid z6
  have Z7 := Lib.hid z7
  clear z1 z2 z3 z4 z5 z6 z7
  have H0 := Lib.hid (TwoV.start w hT k1 n1 s1 k1 n2 s2)
  unfold maxLen at hs1 hs2
  have Hs1 : Hid (s1.size ≤ maxLen) := hs1
  have Hs2 : Hid (s2.size ≤ maxLen) := hs2
  clear hT
  go_enter Tryd.func6, Tryd.ntmps6
  go_wp2_with fail
  refine (vhead_calls _ H0.out.tab).mono ?_
  rintro _ w1 ⟨rfl, hb1⟩
  have H1 := Lib.hid (H0.out.below hb1)
  obtain ⟨c0, c1, c2, d0, d1, d2, _, _⟩ := H0.out.below hb1
  have hX := World.block_lt_of_cell? _ _ c0
  have hX1 := World.block_lt_of_cell? _ _ d0
  clear hb1 H0
  go_upto_region 4 with (first | (go_at_call 15; (with_reducible refine (vright_calls k1 n1 s1 _ Hs1.out).mono ?_); rintro e wq ⟨rfl, rfl⟩) | (go_at_call 15; (with_reducible refine (vright_calls k1 n2 s2 _ Hs2.out).mono ?_); rintro e wq ⟨rfl, rfl⟩))
  obtain ⟨w2, hw2⟩ : ∃ w2, w2 = ((w1.alloc (.cells #[.int .i64 k1, .int .i64 n1, .string s1] 23)).alloc (.cells #[.int .i64 k1, .int .i64 n2, .string s2] 23)) := ⟨_, rfl⟩
  have H2 : Hid (TwoV w.heap.size k1 n1 s1 k1 n2 s2 w w2) := by rw [hw2]; exact H1.out.below (two_allocs _ _)
  rw [← hw2]
  clear hw2 H1 c0 c1 c2 d0 d1 d2 hX hX1
  obtain ⟨c0, c1, c2, d0, d1, d2, _, _⟩ := H2.out
  go_wp2_with fail
  refine (vcmp_of 1 k1 n1 s1 k1 n2 s2 Hs1.out Hs2.out Z1.out w2 H2.out.tab).mono ?_
  rintro _ w3 ⟨rfl, hb3⟩
  have H3 := Lib.hid (H2.out.below hb3)
  obtain ⟨c0, c1, c2, d0, d1, d2, _, _⟩ := H2.out.below hb3
  clear hb3 H2
  go_wp2_with fail
  refine (vcmp_of 2 k1 n1 s1 k1 n2 s2 Hs1.out Hs2.out Z2.out w3 H3.out.tab).mono ?_
  rintro _ w4 ⟨rfl, hb4⟩
  have H4 := Lib.hid (H3.out.below hb4)
  obtain ⟨c0, c1, c2, d0, d1, d2, _, _⟩ := H3.out.below hb4
  clear hb4 H3
  go_wp2_with fail
  refine (vcmp_of 3 k1 n1 s1 k1 n2 s2 Hs1.out Hs2.out Z3.out w4 H4.out.tab).mono ?_
  rintro _ w5 ⟨rfl, hb5⟩
  have H5 := Lib.hid (H4.out.below hb5)
  obtain ⟨c0, c1, c2, d0, d1, d2, _, _⟩ := H4.out.below hb5
  clear hb5 H4
  go_wp2_with fail
  refine (vcmp_of 4 k1 n1 s1 k1 n2 s2 Hs1.out Hs2.out Z4.out w5 H5.out.tab).mono ?_
  rintro _ w6 ⟨rfl, hb6⟩
  have H6 := Lib.hid (H5.out.below hb6)
  obtain ⟨c0, c1, c2, d0, d1, d2, _, _⟩ := H5.out.below hb6
  clear hb6 H5
  go_wp2_with fail
  refine (vcmp_of 5 k1 n1 s1 k1 n2 s2 Hs1.out Hs2.out Z5.out w6 H6.out.tab).mono ?_
  rintro _ w7 ⟨rfl, hb7⟩
  have H7 := Lib.hid (H6.out.below hb7)
  obtain ⟨c0, c1, c2, d0, d1, d2, _, _⟩ := H6.out.below hb7
  clear hb7 H6
  go_wp2_with fail
  refine (vcmp_of 6 k1 n1 s1 k1 n2 s2 Hs1.out Hs2.out Z6.out w7 H7.out.tab).mono ?_
  rintro _ w8 ⟨rfl, hb8⟩
  have H8 := Lib.hid (H7.out.below hb8)
  obtain ⟨c0, c1, c2, d0, d1, d2, _, _⟩ := H7.out.below hb8
  clear hb8 H7
  go_wp2_with fail
  refine (vcmp_of 5 k1 n2 s2 k1 n1 s1 Hs2.out Hs1.out Z7.out w8 H8.out.tab).mono ?_
  rintro _ w9 ⟨rfl, hb9⟩
  have H9 := Lib.hid (H8.out.below hb9)
  obtain ⟨c0, c1, c2, d0, d1, d2, _, _⟩ := H8.out.below hb9
  clear hb9 H8
  go_wp2
  go_ret
  exact ⟨rfl, H9.out.hb⟩

set_option maxHeartbeats 4000000 in
set_option maxRecDepth 100000 in
theorem order_more_n (w : World) (hT : HoldsTab w) (k1 n1 : Int) (s1 : ByteArray) (n2 : Int) (s2 : ByteArray) (hs1 : s1.size ≤ maxLen) (hs2 : s2.size ≤ maxLen) (h1 : ¬ 9000 < s1.size) (h2 : ¬ 9000 < s2.size) (hr : rightV k1 n1 s1 = true) (hr2 : rightV k1 n2 s2 = true) (hk : (k1 == 3) = false) (hn : (n1 == n2) = false) (z1 : cmpV 1 ⟨k1, n1, s1.data.toList⟩ ⟨k1, n2, s2.data.toList⟩ = (false, 0)) (z2 : cmpV 2 ⟨k1, n1, s1.data.toList⟩ ⟨k1, n2, s2.data.toList⟩ = (true, 0)) (z3 : cmpV 3 ⟨k1, n1, s1.data.toList⟩ ⟨k1, n2, s2.data.toList⟩ = (false, 0)) (z4 : cmpV 4 ⟨k1, n1, s1.data.toList⟩ ⟨k1, n2, s2.data.toList⟩ = (false, 0)) (z5 : cmpV 5 ⟨k1, n1, s1.data.toList⟩ ⟨k1, n2, s2.data.toList⟩ = (true, 0)) (z6 : cmpV 6 ⟨k1, n1, s1.data.toList⟩ ⟨k1, n2, s2.data.toList⟩ = (true, 0)) (z7 : cmpV 5 ⟨k1, n2, s2.data.toList⟩ ⟨k1, n1, s1.data.toList⟩ = (false, 0)) : Calls Tryd.prog 6 #[.agg #[.int .i64 k1, .int .i64 n1, .string s1], .agg #[.int .i64 k1, .int .i64 n2, .string s2]] w (VFine w) := by
  have Z1 := Lib.hid z1
  have Z2 := Lib.hid z2
  have Z3 := Lib.hid z3
  have Z4 := Lib.hid z4
  have Z5 := Lib.hid z5
  have Z6 := Lib.hid z6
  have Z7 := Lib.hid z7
  clear z1 z2 z3 z4 z5 z6 z7
  have H0 := Lib.hid (TwoV.start w hT k1 n1 s1 k1 n2 s2)
  unfold maxLen at hs1 hs2
  have Hs1 : Hid (s1.size ≤ maxLen) := hs1
  have Hs2 : Hid (s2.size ≤ maxLen) := hs2
  clear hT
  go_enter Tryd.func6, Tryd.ntmps6
  go_wp2_with fail
  refine (vhead_calls _ H0.out.tab).mono ?_
  rintro _ w1 ⟨rfl, hb1⟩
  have H1 := Lib.hid (H0.out.below hb1)
  obtain ⟨c0, c1, c2, d0, d1, d2, _, _⟩ := H0.out.below hb1
  have hX := World.block_lt_of_cell? _ _ c0
  have hX1 := World.block_lt_of_cell? _ _ d0
  clear hb1 H0
  go_upto_region 4 with (first | (go_at_call 15; (with_reducible refine (vright_calls k1 n1 s1 _ Hs1.out).mono ?_); rintro e wq ⟨rfl, rfl⟩) | (go_at_call 15; (with_reducible refine (vright_calls k1 n2 s2 _ Hs2.out).mono ?_); rintro e wq ⟨rfl, rfl⟩))
  obtain ⟨w2, hw2⟩ : ∃ w2, w2 = ((w1.alloc (.cells #[.int .i64 k1, .int .i64 n1, .string s1] 23)).alloc (.cells #[.int .i64 k1, .int .i64 n2, .string s2] 23)) := ⟨_, rfl⟩
  have H2 : Hid (TwoV w.heap.size k1 n1 s1 k1 n2 s2 w w2) := by rw [hw2]; exact H1.out.below (two_allocs _ _)
  rw [← hw2]
  clear hw2 H1 c0 c1 c2 d0 d1 d2 hX hX1
  obtain ⟨c0, c1, c2, d0, d1, d2, _, _⟩ := H2.out
  go_wp2_with fail
  refine (vcmp_of 1 k1 n1 s1 k1 n2 s2 Hs1.out Hs2.out Z1.out w2 H2.out.tab).mono ?_
  rintro _ w3 ⟨rfl, hb3⟩
  have H3 := Lib.hid (H2.out.below hb3)
  obtain ⟨c0, c1, c2, d0, d1, d2, _, _⟩ := H2.out.below hb3
  clear hb3 H2
  go_wp2_with fail
  refine (vcmp_of 2 k1 n1 s1 k1 n2 s2 Hs1.out Hs2.out Z2.out w3 H3.out.tab).mono ?_
  rintro _ w4 ⟨rfl, hb4⟩
  have H4 := Lib.hid (H3.out.below hb4)
  obtain ⟨c0, c1, c2, d0, d1, d2, _, _⟩ := H3.out.below hb4
  clear hb4 H3
  go_wp2_with fail
  refine (vcmp_of 3 k1 n1 s1 k1 n2 s2 Hs1.out Hs2.out Z3.out w4 H4.out.tab).mono ?_
  rintro _ w5 ⟨rfl, hb5⟩
  have H5 := Lib.hid (H4.out.below hb5)
  obtain ⟨c0, c1, c2, d0, d1, d2, _, _⟩ := H4.out.below hb5
  clear hb5 H4
  go_wp2_with fail
  refine (vcmp_of 4 k1 n1 s1 k1 n2 s2 Hs1.out Hs2.out Z4.out w5 H5.out.tab).mono ?_
  rintro _ w6 ⟨rfl, hb6⟩
  have H6 := Lib.hid (H5.out.below hb6)
  obtain ⟨c0, c1, c2, d0, d1, d2, _, _⟩ := H5.out.below hb6
  clear hb6 H5
  go_wp2_with fail
  refine (vcmp_of 5 k1 n1 s1 k1 n2 s2 Hs1.out Hs2.out Z5.out w6 H6.out.tab).mono ?_
  rintro _ w7 ⟨rfl, hb7⟩
  have H7 := Lib.hid (H6.out.below hb7)
  obtain ⟨c0, c1, c2, d0, d1, d2, _, _⟩ := H6.out.below hb7
  clear hb7 H6
  go_wp2_with fail
  refine (vcmp_of 6 k1 n1 s1 k1 n2 s2 Hs1.out Hs2.out Z6.out w7 H7.out.tab).mono ?_
  rintro _ w8 ⟨rfl, hb8⟩
  have H8 := Lib.hid (H7.out.below hb8)
  obtain ⟨c0, c1, c2, d0, d1, d2, _, _⟩ := H7.out.below hb8
  clear hb8 H7
  go_wp2_with fail
  refine (vcmp_of 5 k1 n2 s2 k1 n1 s1 Hs2.out Hs1.out Z7.out w8 H8.out.tab).mono ?_
  rintro _ w9 ⟨rfl, hb9⟩
  have H9 := Lib.hid (H8.out.below hb9)
  obtain ⟨c0, c1, c2, d0, d1, d2, _, _⟩ := H8.out.below hb9
  clear hb9 H8
  go_wp2
  go_ret
  exact ⟨rfl, H9.out.hb⟩

set_option maxHeartbeats 4000000 in
set_option maxRecDepth 100000 in
theorem order_b_diff (w : World) (hT : HoldsTab w) (k1 n1 : Int) (s1 : ByteArray) (n2 : Int) (s2 : ByteArray) (hs1 : s1.size ≤ maxLen) (hs2 : s2.size ≤ maxLen) (h1 : ¬ 9000 < s1.size) (h2 : ¬ 9000 < s2.size) (hr : rightV k1 n1 s1 = true) (hr2 : rightV k1 n2 s2 = true) (hk : (k1 == 3) = true) (hn : (n1 == n2) = false) (z1 : cmpV 1 ⟨k1, n1, s1.data.toList⟩ ⟨k1, n2, s2.data.toList⟩ = (false, 0)) (z2 : cmpV 2 ⟨k1, n1, s1.data.toList⟩ ⟨k1, n2, s2.data.toList⟩ = (true, 0)) (z3 : cmpV 3 ⟨k1, n1, s1.data.toList⟩ ⟨k1, n2, s2.data.toList⟩ = (false, 42)) (z4 : cmpV 4 ⟨k1, n1, s1.data.toList⟩ ⟨k1, n2, s2.data.toList⟩ = (false, 42)) (z5 : cmpV 5 ⟨k1, n1, s1.data.toList⟩ ⟨k1, n2, s2.data.toList⟩ = (false, 42)) (z6 : cmpV 6 ⟨k1, n1, s1.data.toList⟩ ⟨k1, n2, s2.data.toList⟩ = (false, 42)) (z7 : cmpV 5 ⟨k1, n2, s2.data.toList⟩ ⟨k1, n1, s1.data.toList⟩ = (false, 42)) : Calls Tryd.prog 6 #[.agg #[.int .i64 k1, .int .i64 n1, .string s1], .agg #[.int .i64 k1, .int .i64 n2, .string s2]] w (VFine w) := by
  have Z1 := Lib.hid z1
  have Z2 := Lib.hid z2
  have Z3 := Lib.hid z3
  have Z4 := Lib.hid z4
  have Z5 := Lib.hid z5
  have Z6 := Lib.hid z6
  have Z7 := Lib.hid z7
  clear z1 z2 z3 z4 z5 z6 z7
  have H0 := Lib.hid (TwoV.start w hT k1 n1 s1 k1 n2 s2)
  unfold maxLen at hs1 hs2
  have Hs1 : Hid (s1.size ≤ maxLen) := hs1
  have Hs2 : Hid (s2.size ≤ maxLen) := hs2
  clear hT
  go_enter Tryd.func6, Tryd.ntmps6
  go_wp2_with fail
  refine (vhead_calls _ H0.out.tab).mono ?_
  rintro _ w1 ⟨rfl, hb1⟩
  have H1 := Lib.hid (H0.out.below hb1)
  obtain ⟨c0, c1, c2, d0, d1, d2, _, _⟩ := H0.out.below hb1
  have hX := World.block_lt_of_cell? _ _ c0
  have hX1 := World.block_lt_of_cell? _ _ d0
  clear hb1 H0
  go_upto_region 4 with (first | (go_at_call 15; (with_reducible refine (vright_calls k1 n1 s1 _ Hs1.out).mono ?_); rintro e wq ⟨rfl, rfl⟩) | (go_at_call 15; (with_reducible refine (vright_calls k1 n2 s2 _ Hs2.out).mono ?_); rintro e wq ⟨rfl, rfl⟩))
  obtain ⟨w2, hw2⟩ : ∃ w2, w2 = ((w1.alloc (.cells #[.int .i64 k1, .int .i64 n1, .string s1] 23)).alloc (.cells #[.int .i64 k1, .int .i64 n2, .string s2] 23)) := ⟨_, rfl⟩
  have H2 : Hid (TwoV w.heap.size k1 n1 s1 k1 n2 s2 w w2) := by rw [hw2]; exact H1.out.below (two_allocs _ _)
  rw [← hw2]
  clear hw2 H1 c0 c1 c2 d0 d1 d2 hX hX1
  obtain ⟨c0, c1, c2, d0, d1, d2, _, _⟩ := H2.out
  go_wp2_with fail
  refine (vcmp_of 1 k1 n1 s1 k1 n2 s2 Hs1.out Hs2.out Z1.out w2 H2.out.tab).mono ?_
  rintro _ w3 ⟨rfl, hb3⟩
  have H3 := Lib.hid (H2.out.below hb3)
  obtain ⟨c0, c1, c2, d0, d1, d2, _, _⟩ := H2.out.below hb3
  clear hb3 H2
  go_wp2_with fail
  refine (vcmp_of 2 k1 n1 s1 k1 n2 s2 Hs1.out Hs2.out Z2.out w3 H3.out.tab).mono ?_
  rintro _ w4 ⟨rfl, hb4⟩
  have H4 := Lib.hid (H3.out.below hb4)
  obtain ⟨c0, c1, c2, d0, d1, d2, _, _⟩ := H3.out.below hb4
  clear hb4 H3
  go_wp2_with fail
  refine (vcmp_of 3 k1 n1 s1 k1 n2 s2 Hs1.out Hs2.out Z3.out w4 H4.out.tab).mono ?_
  rintro _ w5 ⟨rfl, hb5⟩
  have H5 := Lib.hid (H4.out.below hb5)
  obtain ⟨c0, c1, c2, d0, d1, d2, _, _⟩ := H4.out.below hb5
  clear hb5 H4
  go_wp2_with fail
  refine (vcmp_of 4 k1 n1 s1 k1 n2 s2 Hs1.out Hs2.out Z4.out w5 H5.out.tab).mono ?_
  rintro _ w6 ⟨rfl, hb6⟩
  have H6 := Lib.hid (H5.out.below hb6)
  obtain ⟨c0, c1, c2, d0, d1, d2, _, _⟩ := H5.out.below hb6
  clear hb6 H5
  go_wp2_with fail
  refine (vcmp_of 5 k1 n1 s1 k1 n2 s2 Hs1.out Hs2.out Z5.out w6 H6.out.tab).mono ?_
  rintro _ w7 ⟨rfl, hb7⟩
  have H7 := Lib.hid (H6.out.below hb7)
  obtain ⟨c0, c1, c2, d0, d1, d2, _, _⟩ := H6.out.below hb7
  clear hb7 H6
  go_wp2_with fail
  refine (vcmp_of 6 k1 n1 s1 k1 n2 s2 Hs1.out Hs2.out Z6.out w7 H7.out.tab).mono ?_
  rintro _ w8 ⟨rfl, hb8⟩
  have H8 := Lib.hid (H7.out.below hb8)
  obtain ⟨c0, c1, c2, d0, d1, d2, _, _⟩ := H7.out.below hb8
  clear hb8 H7
  go_wp2_with fail
  refine (vcmp_of 5 k1 n2 s2 k1 n1 s1 Hs2.out Hs1.out Z7.out w8 H8.out.tab).mono ?_
  rintro _ w9 ⟨rfl, hb9⟩
  have H9 := Lib.hid (H8.out.below hb9)
  obtain ⟨c0, c1, c2, d0, d1, d2, _, _⟩ := H8.out.below hb9
  clear hb9 H8
  go_wp2
  go_ret
  exact ⟨rfl, H9.out.hb⟩
end Go.Proofs.YtkhgcnenaaoeoaaDoor
