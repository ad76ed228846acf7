/- Values: Add, Sub, Compare. -/
import Derived.Test.YtfllemgoldicpaaDoorV4
namespace Go.Proofs.YtfllemgoldicpaaDoor
open Go.RowKit Go.Lib Go.Op

/-- What Add and Sub leave. -/
def SumPost (w : World) (p : PVal × Int) (e : Ending) (w' : World) : Prop := e = .returned (.tuple #[.agg #[.int .i64 p.1.k, .int .i64 p.1.n, .string ⟨#[]⟩], .int .i64 p.2]) ∧ Below w.heap.size w w'

theorem sumV_arg {a b : PVal} {t : Int} (h : rightB a = false ∨ rightB b = false) : sumV a b t = (⟨0, 0, []⟩, 1) := by unfold sumV; rw [if_pos h]
theorem sumV_kind {a b : PVal} {t : Int} (h1 : rightB a = true) (h2 : rightB b = true) (h : a.k ≠ 1 ∨ b.k ≠ 1) : sumV a b t = (⟨0, 0, []⟩, 42) := by
  unfold sumV; rw [if_neg (by simp [h1, h2]), if_pos h]
theorem sumV_big {a b : PVal} {t : Int} (h1 : rightB a = true) (h2 : rightB b = true) (h3 : a.k = 1) (h4 : b.k = 1) (h : rightB ⟨1, a.n + t * b.n, []⟩ = false) : sumV a b t = (⟨0, 0, []⟩, 41) := by
  unfold sumV; rw [if_neg (by simp [h1, h2]), if_neg (by simp [h3, h4]), if_neg (by simp [h])]
theorem sumV_ok {a b : PVal} {t : Int} (h1 : rightB a = true) (h2 : rightB b = true) (h3 : a.k = 1) (h4 : b.k = 1) (h : rightB ⟨1, a.n + t * b.n, []⟩ = true) : sumV a b t = (⟨1, a.n + t * b.n, []⟩, 0) := by
  unfold sumV; rw [if_neg (by simp [h1, h2]), if_neg (by simp [h3, h4]), if_pos h]

set_option maxHeartbeats 4000000 in
set_option maxRecDepth 100000 in
theorem reckon_calls (k1 n1 : Int) (s1 : ByteArray) (k2 n2 : Int) (s2 : ByteArray) (t : Int) (w : World) (hs1 : s1.size ≤ maxLen) (hs2 : s2.size ≤ maxLen) (ht : t = 1 ∨ t = -1) :
    Calls Tryd.prog 24 #[.agg #[.int .i64 k1, .int .i64 n1, .string s1], .agg #[.int .i64 k2, .int .i64 n2, .string s2], .int .i64 t] w (SumPost w (sumV ⟨k1, n1, s1.data.toList⟩ ⟨k2, n2, s2.data.toList⟩ t)) := by
  cases h1 : rightV k1 n1 s1 with
  | false =>
    rw [sumV_arg (.inl h1)]
    go_enter Tryd.func24, Tryd.ntmps24
    go_wp2_with (go_at_call 16; refine (vright_calls _ _ _ _ (by assumption)).mono ?_; rintro e w1 ⟨rfl, rfl⟩)
    exact bodyPost_ret (v := .tuple #[.agg #[.int .i64 0, .int .i64 0, .string ⟨#[]⟩], .int .i64 1]) (by simp [results, Tryd.results24, go_sem]) rfl ⟨rfl, (by repeat' (first | exact Below.refl _ _ | refine Below.alloc ?_ (by simp <;> omega) _ | refine Below.setCell ?_ (by simp) _))⟩
  | true =>
  cases h2 : rightV k2 n2 s2 with
  | false =>
    rw [sumV_arg (.inr h2)]
    go_enter Tryd.func24, Tryd.ntmps24
    go_wp2_with (go_at_call 16; refine (vright_calls _ _ _ _ (by assumption)).mono ?_; rintro e w1 ⟨rfl, rfl⟩)
    exact bodyPost_ret (v := .tuple #[.agg #[.int .i64 0, .int .i64 0, .string ⟨#[]⟩], .int .i64 1]) (by simp [results, Tryd.results24, go_sem]) rfl ⟨rfl, (by repeat' (first | exact Below.refl _ _ | refine Below.alloc ?_ (by simp <;> omega) _ | refine Below.setCell ?_ (by simp) _))⟩
  | true =>
  by_cases e1 : k1 = 1
  rotate_left
  · rw [sumV_kind h1 h2 (.inl e1)]
    go_enter Tryd.func24, Tryd.ntmps24
    go_wp2_with (go_at_call 16; refine (vright_calls _ _ _ _ (by assumption)).mono ?_; rintro e w1 ⟨rfl, rfl⟩)
    exact bodyPost_ret (v := .tuple #[.agg #[.int .i64 0, .int .i64 0, .string ⟨#[]⟩], .int .i64 42]) (by simp [results, Tryd.results24, go_sem]) rfl ⟨rfl, (by repeat' (first | exact Below.refl _ _ | refine Below.alloc ?_ (by simp <;> omega) _ | refine Below.setCell ?_ (by simp) _))⟩
  by_cases e2 : k2 = 1
  rotate_left
  · rw [sumV_kind h1 h2 (.inr e2)]
    subst e1
    go_enter Tryd.func24, Tryd.ntmps24
    go_wp2_with (go_at_call 16; refine (vright_calls _ _ _ _ (by assumption)).mono ?_; rintro e w1 ⟨rfl, rfl⟩)
    exact bodyPost_ret (v := .tuple #[.agg #[.int .i64 0, .int .i64 0, .string ⟨#[]⟩], .int .i64 42]) (by simp [results, Tryd.results24, go_sem]) rfl ⟨rfl, (by repeat' (first | exact Below.refl _ _ | refine Below.alloc ?_ (by simp <;> omega) _ | refine Below.setCell ?_ (by simp) _))⟩
  subst e1
  subst e2
  obtain ⟨b1, b2, _⟩ := rightB_1.1 h1
  obtain ⟨b3, b4, _⟩ := rightB_1.1 h2
  have hse : (⟨#[]⟩ : ByteArray).size ≤ maxLen := by unfold maxLen; decide
  cases h3 : rightV 1 (n1 + t * n2) ⟨#[]⟩ with
  | false =>
    rw [sumV_big h1 h2 rfl rfl h3]
    rcases ht with rfl | rfl
    · have h4 : rightV 1 (n1 + n2) ⟨#[]⟩ = false := by rw [← h3, show n1 + 1 * n2 = n1 + n2 by omega]
      clear h3
      go_enter Tryd.func24, Tryd.ntmps24
      go_wp2_with (go_at_call 16; refine (vright_calls _ _ _ _ (by assumption)).mono ?_; rintro e w1 ⟨rfl, rfl⟩)
      exact bodyPost_ret (v := .tuple #[.agg #[.int .i64 0, .int .i64 0, .string ⟨#[]⟩], .int .i64 41]) (by simp [results, Tryd.results24, go_sem]) rfl ⟨rfl, (by repeat' (first | exact Below.refl _ _ | refine Below.alloc ?_ (by simp <;> omega) _ | refine Below.setCell ?_ (by simp) _))⟩
    · have h4 : rightV 1 (n1 + -n2) ⟨#[]⟩ = false := by rw [← h3, show n1 + -1 * n2 = n1 + -n2 by omega]
      clear h3
      go_enter Tryd.func24, Tryd.ntmps24
      go_wp2_with (go_at_call 16; refine (vright_calls _ _ _ _ (by assumption)).mono ?_; rintro e w1 ⟨rfl, rfl⟩)
      exact bodyPost_ret (v := .tuple #[.agg #[.int .i64 0, .int .i64 0, .string ⟨#[]⟩], .int .i64 41]) (by simp [results, Tryd.results24, go_sem]) rfl ⟨rfl, (by repeat' (first | exact Below.refl _ _ | refine Below.alloc ?_ (by simp <;> omega) _ | refine Below.setCell ?_ (by simp) _))⟩
  | true =>
    rw [sumV_ok h1 h2 rfl rfl h3]
    rcases ht with rfl | rfl
    · have e5 : n1 + 1 * n2 = n1 + n2 := by omega
      have h4 : rightV 1 (n1 + n2) ⟨#[]⟩ = true := by rw [← h3, e5]
      simp only [e5]
      clear h3 e5
      go_enter Tryd.func24, Tryd.ntmps24
      go_wp2_with (go_at_call 16; refine (vright_calls _ _ _ _ (by assumption)).mono ?_; rintro e w1 ⟨rfl, rfl⟩)
      exact bodyPost_ret (v := .tuple #[.agg #[.int .i64 1, .int .i64 (n1 + n2), .string ⟨#[]⟩], .int .i64 0]) (by simp [results, Tryd.results24, go_sem]) rfl ⟨rfl, (by repeat' (first | exact Below.refl _ _ | refine Below.alloc ?_ (by simp <;> omega) _ | refine Below.setCell ?_ (by simp) _))⟩
    · have e5 : n1 + -1 * n2 = n1 + -n2 := by omega
      have h4 : rightV 1 (n1 + -n2) ⟨#[]⟩ = true := by rw [← h3, e5]
      simp only [e5]
      clear h3 e5
      go_enter Tryd.func24, Tryd.ntmps24
      go_wp2_with (go_at_call 16; refine (vright_calls _ _ _ _ (by assumption)).mono ?_; rintro e w1 ⟨rfl, rfl⟩)
      exact bodyPost_ret (v := .tuple #[.agg #[.int .i64 1, .int .i64 (n1 + -n2), .string ⟨#[]⟩], .int .i64 0]) (by simp [results, Tryd.results24, go_sem]) rfl ⟨rfl, (by repeat' (first | exact Below.refl _ _ | refine Below.alloc ?_ (by simp <;> omega) _ | refine Below.setCell ?_ (by simp) _))⟩

theorem vbcell {W w1 : World} (hb : Below W.heap.size W w1) : (∀ b o, b < W.heap.size → w1.cell? ⟨b, o, none⟩ = W.cell? ⟨b, o, none⟩) ∧ (∀ b o, b < W.heap.size → w1.frozen? ⟨b, o, none⟩ = W.frozen? ⟨b, o, none⟩) :=
  ⟨fun b o h => hb.cell (p := ⟨b, o, none⟩) h, fun b o h => hb.frozen (p := ⟨b, o, none⟩) h⟩

section
variable (k1 n1 : Int) (s1 : ByteArray) (k2 n2 : Int) (s2 : ByteArray) (w : World)

set_option maxRecDepth 100000 in
theorem vadd_calls (hs1 : s1.size ≤ maxLen) (hs2 : s2.size ≤ maxLen) :
    Calls Tryd.prog 10 #[.agg #[.int .i64 k1, .int .i64 n1, .string s1], .agg #[.int .i64 k2, .int .i64 n2, .string s2]] w (SumPost w (sumV ⟨k1, n1, s1.data.toList⟩ ⟨k2, n2, s2.data.toList⟩ 1)) := by
  have h := fun W => reckon_calls k1 n1 s1 k2 n2 s2 1 W hs1 hs2 (.inl rfl)
  generalize sumV ⟨k1, n1, s1.data.toList⟩ ⟨k2, n2, s2.data.toList⟩ 1 = z at h ⊢
  obtain ⟨⟨zk, zn, zs⟩, ze⟩ := z
  have H := Lib.hid h
  clear h
  go_enter Tryd.func10, Tryd.ntmps10
  go_wp2_with fail
  refine (H.out _).mono ?_
  rintro e w1 ⟨rfl, hb⟩
  have HB := Lib.hid hb
  obtain ⟨hc, hf⟩ := vbcell hb
  clear hb
  go_wp2
  refine bodyPost_ret (v := .tuple #[.agg #[.int .i64 zk, .int .i64 zn, .string ⟨#[]⟩], .int .i64 ze]) (by simp [results, Tryd.results10, go_sem, hc]) rfl ⟨rfl, ?_⟩
  refine Below.setCell (Below.setCell (Below.setCell (Below.trans (b := ((w.alloc (.cells #[.int .i64 k1, .int .i64 n1, .string s1] 23)).alloc (.cells #[.int .i64 k2, .int .i64 n2, .string s2] 23)).alloc (.cells #[.int .i64 0, .int .i64 0, .string ⟨#[]⟩] 23)) ?_ (HB.out.mono (by simp <;> omega))) (by simp <;> omega) _) (by simp <;> omega) _) (by simp <;> omega) _
  repeat' (first | exact Below.refl _ _ | refine Below.alloc ?_ (by simp <;> omega) _)

set_option maxRecDepth 100000 in
theorem vsub_calls (hs1 : s1.size ≤ maxLen) (hs2 : s2.size ≤ maxLen) :
    Calls Tryd.prog 12 #[.agg #[.int .i64 k1, .int .i64 n1, .string s1], .agg #[.int .i64 k2, .int .i64 n2, .string s2]] w (SumPost w (sumV ⟨k1, n1, s1.data.toList⟩ ⟨k2, n2, s2.data.toList⟩ (-1))) := by
  have h := fun W => reckon_calls k1 n1 s1 k2 n2 s2 (-1) W hs1 hs2 (.inr rfl)
  generalize sumV ⟨k1, n1, s1.data.toList⟩ ⟨k2, n2, s2.data.toList⟩ (-1) = z at h ⊢
  obtain ⟨⟨zk, zn, zs⟩, ze⟩ := z
  have H := Lib.hid h
  clear h
  go_enter Tryd.func12, Tryd.ntmps12
  go_wp2_with fail
  refine (H.out _).mono ?_
  rintro e w1 ⟨rfl, hb⟩
  have HB := Lib.hid hb
  obtain ⟨hc, hf⟩ := vbcell hb
  clear hb
  go_wp2
  refine bodyPost_ret (v := .tuple #[.agg #[.int .i64 zk, .int .i64 zn, .string ⟨#[]⟩], .int .i64 ze]) (by simp [results, Tryd.results12, go_sem, hc]) rfl ⟨rfl, ?_⟩
  refine Below.setCell (Below.setCell (Below.setCell (Below.trans (b := ((w.alloc (.cells #[.int .i64 k1, .int .i64 n1, .string s1] 23)).alloc (.cells #[.int .i64 k2, .int .i64 n2, .string s2] 23)).alloc (.cells #[.int .i64 0, .int .i64 0, .string ⟨#[]⟩] 23)) ?_ (HB.out.mono (by simp <;> omega))) (by simp <;> omega) _) (by simp <;> omega) _) (by simp <;> omega) _
  repeat' (first | exact Below.refl _ _ | refine Below.alloc ?_ (by simp <;> omega) _)
end

end Go.Proofs.YtfllemgoldicpaaDoor
