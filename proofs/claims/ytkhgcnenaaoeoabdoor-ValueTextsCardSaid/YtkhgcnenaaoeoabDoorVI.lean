/- The statement ValueTexts, its walk. -/
import Derived.Test.YtkhgcnenaaoeoabDoorVA
import Derived.Deep.DeepCutAuto
namespace Go.Proofs.YtkhgcnenaaoeoabDoor
open Go.RowKit Go.Lib Go.Op

/-- What a law's call leaves. -/
def TFine (w : World) (e : Ending) (w' : World) : Prop := e = .returned (.bool true) ∧ Below w.heap.size w w'

/-- Two texts in their blocks. -/
structure TwoT (X Y : Nat) (s1 s2 : ByteArray) (w W : World) : Prop where
  c0 : W.cell? ⟨X, 0, none⟩ = some (.int .i64 2)
  c1 : W.cell? ⟨X, 1, none⟩ = some (.int .i64 0)
  c2 : W.cell? ⟨X, 2, none⟩ = some (.string s1)
  d0 : W.cell? ⟨Y, 0, none⟩ = some (.int .i64 2)
  d1 : W.cell? ⟨Y, 1, none⟩ = some (.int .i64 0)
  d2 : W.cell? ⟨Y, 2, none⟩ = some (.string s2)
  hb : Below w.heap.size w W
  tab : HoldsTab W

theorem TwoT.below {X Y : Nat} {s1 s2 : ByteArray} {w W W' : World} (h : TwoT X Y s1 s2 w W) (hb : Below W.heap.size W W') : TwoT X Y s1 s2 w W' := by
  have k : ∀ {p : Addr} {v : Value}, W.cell? p = some v → W'.cell? p = some v := fun hp => (hb.cell (World.block_lt_of_cell? _ _ hp)).trans hp
  exact ⟨k h.c0, k h.c1, k h.c2, k h.d0, k h.d1, k h.d2, h.hb.trans (hb.mono h.hb.size), h.tab.below hb⟩

theorem TwoT.start {w w1 : World} (hb : Below w.heap.size w w1) (hT : HoldsTab w1) (s1 s2 : ByteArray) :
    TwoT (w1.heap.size + 1) (w1.heap.size + 1 + 1 + 1) s1 s2 w ((((w1.alloc (.cells #[.int .i64 2, .int .i64 0, .string s1] 24)).alloc (.cells #[.int .i64 2, .int .i64 0, .string s1] 24)).alloc (.cells #[.int .i64 2, .int .i64 0, .string s2] 24)).alloc (.cells #[.int .i64 2, .int .i64 0, .string s2] 24)) := by
  have h2 : Below w1.heap.size w1 ((w1.alloc (.cells #[.int .i64 2, .int .i64 0, .string s1] 24)).alloc (.cells #[.int .i64 2, .int .i64 0, .string s1] 24)) := ((Below.refl _ _).alloc (Nat.le_refl _) _).alloc (by simp) _
  have h4 : Below ((w1.alloc (.cells #[.int .i64 2, .int .i64 0, .string s1] 24)).alloc (.cells #[.int .i64 2, .int .i64 0, .string s1] 24)).heap.size ((w1.alloc (.cells #[.int .i64 2, .int .i64 0, .string s1] 24)).alloc (.cells #[.int .i64 2, .int .i64 0, .string s1] 24)) ((((w1.alloc (.cells #[.int .i64 2, .int .i64 0, .string s1] 24)).alloc (.cells #[.int .i64 2, .int .i64 0, .string s1] 24)).alloc (.cells #[.int .i64 2, .int .i64 0, .string s2] 24)).alloc (.cells #[.int .i64 2, .int .i64 0, .string s2] 24)) := ((Below.refl _ _).alloc (Nat.le_refl _) _).alloc (by simp) _
  have ht := h2.trans (h4.mono h2.size)
  have hn := heap_alloc_new (((w1.alloc (.cells #[.int .i64 2, .int .i64 0, .string s1] 24)).alloc (.cells #[.int .i64 2, .int .i64 0, .string s1] 24)).alloc (.cells #[.int .i64 2, .int .i64 0, .string s2] 24)) (.cells #[.int .i64 2, .int .i64 0, .string s2] 24)
  rw [show (((w1.alloc (.cells #[.int .i64 2, .int .i64 0, .string s1] 24)).alloc (.cells #[.int .i64 2, .int .i64 0, .string s1] 24)).alloc (.cells #[.int .i64 2, .int .i64 0, .string s2] 24)).heap.size = w1.heap.size + 1 + 1 + 1 by simp] at hn
  exact ⟨(h4.cell (p := ⟨w1.heap.size + 1, 0, none⟩) (by simp)).trans (by simp), (h4.cell (p := ⟨w1.heap.size + 1, 1, none⟩) (by simp)).trans (by simp), (h4.cell (p := ⟨w1.heap.size + 1, 2, none⟩) (by simp)).trans (by simp), fcell_of_blk hn rfl, fcell_of_blk hn rfl, fcell_of_blk hn rfl, hb.trans (ht.mono hb.size), hT.below ht⟩

theorem texts_sign (s t : List UInt8) : signV ⟨2, 0, s⟩ ⟨2, 0, s ++ t⟩ = if t = [] then 0 else -1 := by
  have e1 : cmpN 0 0 = 0 := by decide
  show (if cmpN 0 0 ≠ 0 then cmpN 0 0 else cmpS s (s ++ t)) = _
  rw [e1, if_neg (by decide)]
  unfold cmpS
  rw [less_more]
  cases t with
  | nil => rw [List.append_nil, less_irrefl]; simp
  | cons c t => simp

theorem rightB_text {s : List UInt8} (h : s.length ≤ 64) : rightB ⟨2, 0, s⟩ = true := rightB_2.2 ⟨rfl, h⟩

theorem app_list (s m : ByteArray) : (s ++ m).data.toList = s.data.toList ++ m.data.toList := by simp

set_option maxHeartbeats 4000000 in
set_option maxRecDepth 100000 in
theorem texts_walk (w : World) (hT : HoldsTab w) (s m : ByteArray) (hs : s.size ≤ 140737488351232) (hm : m.size ≤ 140737488351232) :
    Calls Tryd.prog 3 #[.string s, .string m] w (TFine w) := by
  by_cases hg : 64 < s.size + m.size
  · go_enter Tryd.func3, Tryd.ntmps3
    go_wp2_with fail
    refine (vhead_calls _ hT).mono ?_
    rintro _ w1 ⟨rfl, hb1⟩
    have HB1 := Lib.hid hb1
    clear hb1
    go_wp2
    go_ret
    exact ⟨rfl, HB1.out⟩
  have hsm : s.size ≤ 64 := by omega
  have hss : (s ++ m).size ≤ maxLen := by rw [ByteArray.size_append]; unfold maxLen; omega
  have hsz : s.size ≤ maxLen := by unfold maxLen; omega
  have hl1 : s.data.toList.length = s.size := by simp
  have hl2 : m.data.toList.length = m.size := by simp
  have r1 : rightB ⟨2, 0, s.data.toList⟩ = true := rightB_text (by omega)
  have r2 : rightB ⟨2, 0, (s ++ m).data.toList⟩ = true := rightB_text (by rw [app_list, List.length_append]; omega)
  have hsg := texts_sign s.data.toList m.data.toList
  rw [← app_list] at hsg
  have z3 : cmpV 3 ⟨2, 0, s.data.toList⟩ ⟨2, 0, (s ++ m).data.toList⟩ = (decide (m.data.toList ≠ []), 0) := by
    rw [cmpV_ok r1 r2 (by decide) (by decide) rfl (.inl (show (2 : Int) ≠ 3 by decide)), hsg]
    by_cases h : m.data.toList = []
    · rw [if_pos h, decide_eq_false (fun f => f h)]; rfl
    · rw [if_neg h, decide_eq_true h]; rfl
  have z6 : cmpV 6 ⟨2, 0, s.data.toList⟩ ⟨2, 0, (s ++ m).data.toList⟩ = (decide (m.data.toList = []), 0) := by
    rw [cmpV_ok r1 r2 (by decide) (by decide) rfl (.inl (show (2 : Int) ≠ 3 by decide)), hsg]
    by_cases h : m.data.toList = []
    · rw [if_pos h, decide_eq_true h]; rfl
    · rw [if_neg h, decide_eq_false h]; rfl
  have hput : putV ⟨2, 0, (s ++ m).data.toList⟩ = 2 :: UInt8.ofNat (s.size + m.size) :: (s ++ m).data.toList := by
    have e : (s ++ m).data.toList.length = s.size + m.size := by rw [app_list, List.length_append]; omega
    rw [putV_2 (by omega), e]
  have hpl : (putV ⟨2, 0, (s ++ m).data.toList⟩).length = 2 + s.size + m.size := by
    rw [hput]; simp only [List.length_cons, app_list, List.length_append]; omega
  have hp := fun W => vput_calls 2 0 (s ++ m) W hss
  have Hput := Lib.hid hput
  have Hpl := Lib.hid hpl
  have HP := Lib.hid hp
  have Hss := Lib.hid hss
  have Hsz := Lib.hid hsz
  have hsum : s.size + m.size ≤ 64 := by omega
  have hb8 : ((UInt8.ofNat (s.size + m.size)).toNat : Nat) = s.size + m.size := u8_ofNat (by omega)
  have Hb8 := Lib.hid hb8
  have hem : (cmpV 3 ⟨2, 0, s.data.toList⟩ ⟨2, 0, (s ++ m).data.toList⟩ = (false, 0) ∧ cmpV 6 ⟨2, 0, s.data.toList⟩ ⟨2, 0, (s ++ m).data.toList⟩ = (true, 0) ∧ (m.toList == []) = true ∧ m.toList.isEmpty = true ∧ m.toList = []) ∨
      (cmpV 3 ⟨2, 0, s.data.toList⟩ ⟨2, 0, (s ++ m).data.toList⟩ = (true, 0) ∧ cmpV 6 ⟨2, 0, s.data.toList⟩ ⟨2, 0, (s ++ m).data.toList⟩ = (false, 0) ∧ (m.toList == []) = false ∧ m.toList.isEmpty = false ∧ m.toList ≠ []) := by
    by_cases h : m.data.toList = []
    · exact .inl ⟨by rw [z3, decide_eq_false (fun f => f h)], by rw [z6, decide_eq_true h], by rw [beq_iff_eq, vtoL]; exact h, by rw [vtoL]; simpa using h, by rw [vtoL]; exact h⟩
    · exact .inr ⟨by rw [z3, decide_eq_true h], by rw [z6, decide_eq_false h], by rw [beq_eq_false_iff_ne, vtoL]; exact h, by rw [vtoL]; simpa using h, by rw [vtoL]; exact h⟩
  clear hput hpl hp z3 z6 hss hsz hb8 hl1 hl2 r1 r2 hsg
  rcases hem with ⟨z3, z6, e1, e2, e3⟩ | ⟨z3, z6, e1, e2, e3⟩
  all_goals
  have Z3 := Lib.hid z3
  have Z6 := Lib.hid z6
  clear z3 z6
  go_enter Tryd.func3, Tryd.ntmps3
  go_wp2_with fail
  refine (vhead_calls _ hT).mono ?_
  rintro _ w1 ⟨rfl, hb1⟩
  have hst := TwoT.start hb1 (hT.below hb1) s (s ++ m)
  have Hst := Lib.hid hst
  clear hb1 hT hst
  go_upto_region 6 with (first | (go_at_call 5; refine (text_calls _ _).mono ?_; rintro e wq ⟨rfl, rfl⟩))
  generalize w1.heap.size + 1 + 1 + 1 = Y at Hst ⊢
  generalize w1.heap.size + 1 = X at Hst ⊢
  obtain ⟨w2, hw2⟩ : ∃ w2, w2 = ((((w1.alloc (.cells #[.int .i64 2, .int .i64 0, .string s] 24)).alloc (.cells #[.int .i64 2, .int .i64 0, .string s] 24)).alloc (.cells #[.int .i64 2, .int .i64 0, .string (s ++ m)] 24)).alloc (.cells #[.int .i64 2, .int .i64 0, .string (s ++ m)] 24)) := ⟨_, rfl⟩
  rw [← hw2] at Hst ⊢
  have H2 := Lib.hid Hst.out
  clear hw2 Hst
  obtain ⟨c0, c1, c2, d0, d1, d2, _, _⟩ := H2.out
  go_wp2_with fail
  refine (vcmp_of 3 2 0 s 2 0 (s ++ m) Hsz.out Hss.out Z3.out w2 H2.out.tab).mono ?_
  rintro _ w3 ⟨rfl, hb3⟩
  have H3 := Lib.hid (H2.out.below hb3)
  obtain ⟨c0, c1, c2, d0, d1, d2, _, _⟩ := H2.out.below hb3
  clear hb3 H2
  go_wp2_with fail
  refine (vcmp_of 6 2 0 s 2 0 (s ++ m) Hsz.out Hss.out Z6.out w3 H3.out.tab).mono ?_
  rintro _ w4 ⟨rfl, hb4⟩
  have H4 := Lib.hid (H3.out.below hb4)
  obtain ⟨c0, c1, c2, d0, d1, d2, _, _⟩ := H3.out.below hb4
  clear hb4 H3
  go_wp2_with fail
  refine (HP.out w4).mono ?_
  rintro _ w5 ⟨v5, rfl, hown5, hb5⟩
  rw [Hpl.out] at hown5
  have H5 := Lib.hid (H4.out.below hb5)
  have hbr := BRow.of_owns hown5
  have hlen := owns_len hown5
  obtain ⟨g, c, rfl, hc1, hc2, hg1, hg2, hgc⟩ := owns_at hown5 (by omega)
  have k1 : w5.cell? ⟨g, 1, none⟩ = some (.int .u8 ((s.size + m.size : Nat) : Int)) := by
    have h9 := hgc 1 (UInt8.ofNat (s.size + m.size)) (by rw [Hput.out]; rfl)
    rw [Hb8.out] at h9
    exact h9
  clear hown5 hbr hlen hgc hg1 hb5 H4
  have t1 : ¬ ((2 : Int) + s.size + m.size < 2) := by omega
  have t2 : decide (((2 + s.size + m.size : Nat) : Int) < 2) = false := by simp; omega
  go_wp2
  go_ret
  exact ⟨rfl, H5.out.hb⟩

end Go.Proofs.YtkhgcnenaaoeoabDoor
