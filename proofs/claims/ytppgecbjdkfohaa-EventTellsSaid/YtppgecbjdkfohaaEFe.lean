/- The statement EventWords, its walk. -/
import Derived.Test.YtppgecbjdkfohaaEEe
namespace Go.Proofs.Ytppgecbjdkfohaa
open Go.RowKit Go.Lib Go.Op

/-- What a law's call leaves. -/
def EFine (w : World) (e : Ending) (w' : World) : Prop := e = .returned (.bool true) ∧ Below w.heap.size w w'

theorem app_list (a b : ByteArray) : (a ++ b).data.toList = a.data.toList ++ b.data.toList := by simp

theorem word_one (c : UInt8) : wordB [c] = letterB c := by simp [wordB]
theorem word_parts {l : List UInt8} (h : wordB l = true) : ∃ x t, l = x :: t ∧ letterB x = true ∧ t.length ≤ 15 ∧ t.all charB = true := by
  cases l with
  | nil => cases h
  | cons x t =>
    simp only [wordB, Bool.and_eq_true, decide_eq_true_eq] at h
    exact ⟨x, t, rfl, h.1, h.2.1, h.2.2⟩
theorem letter_char {c : UInt8} (h : letterB c = true) : charB c = true := by unfold charB; rw [h]; rfl
theorem word_behind {l : List UInt8} (h : wordB l = true) (c : UInt8) : wordB (l ++ [c]) = (charB c && decide (l.length < 16)) := by
  obtain ⟨x, t, rfl, h1, h2, h3⟩ := word_parts h
  simp only [List.cons_append, wordB, h1, Bool.true_and, List.length_append, List.length_cons, List.length_nil, List.all_append, h3, List.all_cons, List.all_nil, Bool.and_true]
  rw [Bool.and_comm]
  congr 1
  rw [Bool.eq_iff_iff]
  simp only [decide_eq_true_eq]
  omega
theorem word_ahead {l : List UInt8} (h : wordB l = true) (c : UInt8) : wordB ([c] ++ l) = (letterB c && decide (l.length < 16)) := by
  obtain ⟨x, t, rfl, h1, h2, h3⟩ := word_parts h
  simp only [List.cons_append, List.nil_append, wordB, List.all_cons, letter_char h1, h3, Bool.and_self, Bool.and_true, List.length_cons]
  congr 1
  rw [Bool.eq_iff_iff]
  simp only [decide_eq_true_eq]
  omega

theorem word_of {w : World} {s : ByteArray} {b : Bool} (hs : s.size ≤ 100000) (h : wordB s.data.toList = b) : Calls Try.prog 28 #[.string s] w fun e w' => e = .returned (.bool b) ∧ Below w.heap.size w w' := by
  have h1 := word_calls s w (by unfold maxLen; omega)
  rwa [h] at h1

set_option maxHeartbeats 8000000 in
set_option maxRecDepth 100000 in
theorem words_walk (w : World) (s : ByteArray) (c : UInt8) (hs : s.size ≤ maxLen) : Calls Try.prog 8 #[.string s, .int .u8 c.toNat] w (EFine w) := by
  unfold maxLen at hs
  by_cases hbig : 1000 < s.size
  · go_enter Try.func8, Try.ntmps8
    go_wp2_with fail
    refine (ehead_calls w).mono ?_
    rintro _ w1 ⟨rfl, hb1⟩
    go_wp2
    go_ret
    exact ⟨rfl, hb1⟩
  have hl : s.data.toList.length = s.size := by simp
  have hsm : s.size ≤ 1000 := by omega
  have hcv := fun W : World => conv_brow (brow_new W [c] #[.int .u8 c.toNat] 5 (0, 0) rfl 1 (Nat.le_refl 1) (by unfold maxLen; decide))
  obtain ⟨o, ho⟩ : ∃ o, strB [c] = o := ⟨_, rfl⟩
  have hol : o.data.toList = [c] := by rw [← ho, strB_list]
  have hos : o.size = 1 := by rw [← ho]; exact strB_size _
  have hcv' : ∀ W : World, (convert 40 9 (.slice (some ⟨W.heap.size, 0, none⟩) 1 1)).run Try.prog (W.alloc (.cells #[.int .u8 c.toNat] 5)) = .ok (.string o) (W.alloc (.cells #[.int .u8 c.toNat] 5)) := fun W => ho ▸ hcv W
  have hc8 := c.toNat_lt
  have HCV := Lib.hid hcv'
  have hlt : letterB c = decide (97 ≤ c.toNat ∧ c.toNat ≤ 122) := rfl
  have hch : charB c = (decide (97 ≤ c.toNat ∧ c.toNat ≤ 122) || (decide (c.toNat = 95) || decide (48 ≤ c.toNat ∧ c.toNat ≤ 57))) := rfl
  have K1 := Lib.hid (fun W : World => word_of (w := W) (s := o) (by omega) ((congrArg wordB hol).trans ((word_one c).trans hlt)))
  have hcase : (97 ≤ c.toNat ∧ c.toNat ≤ 122) ∨ (48 ≤ c.toNat ∧ c.toNat ≤ 57) ∨ c.toNat = 95 ∨ c.toNat < 48 ∨ (57 < c.toNat ∧ c.toNat < 97 ∧ c.toNat ≠ 95) ∨ 122 < c.toNat := by omega
  cases hw : wordB s.data.toList with
  | false =>
    have K0 := Lib.hid (fun W : World => word_of (w := W) (s := s) (by omega) hw)
    clear hcv hcv' ho hol hos hl hw hlt hch
    generalize c.toNat = cn at *
    rcases hcase with ⟨h1, h2⟩ | ⟨h1, h2⟩ | h1 | h1 | ⟨h1, h2, h3⟩ | h1
    · rw [decide_eq_true (show 97 ≤ cn ∧ cn ≤ 122 by omega)] at K1
      go_enter Try.func8, Try.ntmps8
      go_wp2_with fail
      refine (ehead_calls w).mono ?_
      rintro _ w1 ⟨rfl, hb1⟩
      have HB : Hid (Below w.heap.size w (w1.alloc (.cells #[.int .u8 cn] 5))) := hb1.alloc hb1.size _
      have HB1 := Lib.hid hb1
      have hcw := HCV.out w1
      clear hb1
      go_wp2_with (go_at_call 28; (first | (with_reducible refine (K0.out _).mono ?_) | (with_reducible refine (K1.out _).mono ?_)); rintro e wq ⟨rfl, hbq⟩; have HB := Lib.hid (HB.out.trans (hbq.mono HB.out.size)); clear hbq)
      go_ret
      exact ⟨by first | rfl | (simp; done) | (simp; omega), HB.out⟩
    · rw [decide_eq_false (show ¬ (97 ≤ cn ∧ cn ≤ 122) by omega)] at K1
      go_enter Try.func8, Try.ntmps8
      go_wp2_with fail
      refine (ehead_calls w).mono ?_
      rintro _ w1 ⟨rfl, hb1⟩
      have HB : Hid (Below w.heap.size w (w1.alloc (.cells #[.int .u8 cn] 5))) := hb1.alloc hb1.size _
      have HB1 := Lib.hid hb1
      have hcw := HCV.out w1
      clear hb1
      go_wp2_with (go_at_call 28; (first | (with_reducible refine (K0.out _).mono ?_) | (with_reducible refine (K1.out _).mono ?_)); rintro e wq ⟨rfl, hbq⟩; have HB := Lib.hid (HB.out.trans (hbq.mono HB.out.size)); clear hbq)
      go_ret
      exact ⟨by first | rfl | (simp; done) | (simp; omega), HB.out⟩
    · rw [decide_eq_false (show ¬ (97 ≤ cn ∧ cn ≤ 122) by omega)] at K1
      subst h1
      go_enter Try.func8, Try.ntmps8
      go_wp2_with fail
      refine (ehead_calls w).mono ?_
      rintro _ w1 ⟨rfl, hb1⟩
      have HB : Hid (Below w.heap.size w (w1.alloc (.cells #[.int .u8 95] 5))) := hb1.alloc hb1.size _
      have HB1 := Lib.hid hb1
      have hcw : (convert 40 9 (.slice (some ⟨w1.heap.size, 0, none⟩) 1 1)).run Try.prog (w1.alloc (.cells #[.int .u8 95] 5)) = .ok (.string o) (w1.alloc (.cells #[.int .u8 95] 5)) := HCV.out w1
      clear hb1
      go_wp2_with (go_at_call 28; (first | (with_reducible refine (K0.out _).mono ?_) | (with_reducible refine (K1.out _).mono ?_)); rintro e wq ⟨rfl, hbq⟩; have HB := Lib.hid (HB.out.trans (hbq.mono HB.out.size)); clear hbq)
      go_ret
      exact ⟨by first | rfl | (simp; done) | (simp; omega), HB.out⟩
    · rw [decide_eq_false (show ¬ (97 ≤ cn ∧ cn ≤ 122) by omega)] at K1
      have h4 : ((cn : Int) == 95) = false := by rw [beq_eq_false_iff_ne]; omega
      go_enter Try.func8, Try.ntmps8
      go_wp2_with fail
      refine (ehead_calls w).mono ?_
      rintro _ w1 ⟨rfl, hb1⟩
      have HB : Hid (Below w.heap.size w (w1.alloc (.cells #[.int .u8 cn] 5))) := hb1.alloc hb1.size _
      have HB1 := Lib.hid hb1
      have hcw := HCV.out w1
      clear hb1
      go_wp2_with (go_at_call 28; (first | (with_reducible refine (K0.out _).mono ?_) | (with_reducible refine (K1.out _).mono ?_)); rintro e wq ⟨rfl, hbq⟩; have HB := Lib.hid (HB.out.trans (hbq.mono HB.out.size)); clear hbq)
      go_ret
      exact ⟨by first | rfl | (simp; done) | (simp; omega), HB.out⟩
    · rw [decide_eq_false (show ¬ (97 ≤ cn ∧ cn ≤ 122) by omega)] at K1
      have h4 : ((cn : Int) == 95) = false := by rw [beq_eq_false_iff_ne]; omega
      go_enter Try.func8, Try.ntmps8
      go_wp2_with fail
      refine (ehead_calls w).mono ?_
      rintro _ w1 ⟨rfl, hb1⟩
      have HB : Hid (Below w.heap.size w (w1.alloc (.cells #[.int .u8 cn] 5))) := hb1.alloc hb1.size _
      have HB1 := Lib.hid hb1
      have hcw := HCV.out w1
      clear hb1
      go_wp2_with (go_at_call 28; (first | (with_reducible refine (K0.out _).mono ?_) | (with_reducible refine (K1.out _).mono ?_)); rintro e wq ⟨rfl, hbq⟩; have HB := Lib.hid (HB.out.trans (hbq.mono HB.out.size)); clear hbq)
      go_ret
      exact ⟨by first | rfl | (simp; done) | (simp; omega), HB.out⟩
    · rw [decide_eq_false (show ¬ (97 ≤ cn ∧ cn ≤ 122) by omega)] at K1
      have h4 : ((cn : Int) == 95) = false := by rw [beq_eq_false_iff_ne]; omega
      go_enter Try.func8, Try.ntmps8
      go_wp2_with fail
      refine (ehead_calls w).mono ?_
      rintro _ w1 ⟨rfl, hb1⟩
      have HB : Hid (Below w.heap.size w (w1.alloc (.cells #[.int .u8 cn] 5))) := hb1.alloc hb1.size _
      have HB1 := Lib.hid hb1
      have hcw := HCV.out w1
      clear hb1
      go_wp2_with (go_at_call 28; (first | (with_reducible refine (K0.out _).mono ?_) | (with_reducible refine (K1.out _).mono ?_)); rintro e wq ⟨rfl, hbq⟩; have HB := Lib.hid (HB.out.trans (hbq.mono HB.out.size)); clear hbq)
      go_ret
      exact ⟨by first | rfl | (simp; done) | (simp; omega), HB.out⟩
  | true =>
    have K0 := Lib.hid (fun W : World => word_of (w := W) (s := s) (by omega) hw)
    have k2 : wordB (s ++ o).data.toList = (charB c && decide (s.size < 16)) := by rw [app_list, hol, word_behind hw, hl]
    have k3 : wordB (o ++ s).data.toList = (letterB c && decide (s.size < 16)) := by rw [app_list, hol, word_ahead hw, hl]
    have k4 : wordB (s ++ ⟨#[65]⟩).data.toList = false := by rw [app_list, show (⟨#[65]⟩ : ByteArray).data.toList = [65] from rfl, word_behind hw]; rfl
    have k5 : wordB (s ++ ⟨#[32]⟩).data.toList = false := by rw [app_list, show (⟨#[32]⟩ : ByteArray).data.toList = [32] from rfl, word_behind hw]; rfl
    rw [hch] at k2
    rw [hlt] at k3
    have K2 := Lib.hid (fun W : World => word_of (w := W) (s := s ++ o) (by rw [ByteArray.size_append]; omega) k2)
    have K3 := Lib.hid (fun W : World => word_of (w := W) (s := o ++ s) (by rw [ByteArray.size_append]; omega) k3)
    have K4 := Lib.hid (fun W : World => word_of (w := W) (s := s ++ ⟨#[65]⟩) (by rw [ByteArray.size_append, show (⟨#[65]⟩ : ByteArray).size = 1 from rfl]; omega) k4)
    have K5 := Lib.hid (fun W : World => word_of (w := W) (s := s ++ ⟨#[32]⟩) (by rw [ByteArray.size_append, show (⟨#[32]⟩ : ByteArray).size = 1 from rfl]; omega) k5)
    clear hcv hcv' ho hol hl hw hlt hch k2 k3 k4 k5
    generalize c.toNat = cn at *
    by_cases h16 : s.size < 16
    · rw [decide_eq_true h16] at K2 K3
      rcases hcase with ⟨h1, h2⟩ | ⟨h1, h2⟩ | h1 | h1 | ⟨h1, h2, h3⟩ | h1
      · rw [decide_eq_true (show 97 ≤ cn ∧ cn ≤ 122 by omega)] at K1 K3
        rw [decide_eq_true (show 97 ≤ cn ∧ cn ≤ 122 by omega), decide_eq_false (show ¬ cn = 95 by omega), decide_eq_false (show ¬ (48 ≤ cn ∧ cn ≤ 57) by omega)] at K2
        simp only [Bool.true_and, Bool.or_false, Bool.or_self] at K2 K3
        go_enter Try.func8, Try.ntmps8
        go_wp2_with fail
        refine (ehead_calls w).mono ?_
        rintro _ w1 ⟨rfl, hb1⟩
        have HB : Hid (Below w.heap.size w (w1.alloc (.cells #[.int .u8 cn] 5))) := hb1.alloc hb1.size _
        have HB1 := Lib.hid hb1
        have hcw := HCV.out w1
        clear hb1
        go_wp2_with (go_at_call 28; (first | (with_reducible refine (K0.out _).mono ?_) | (with_reducible refine (K1.out _).mono ?_) | (with_reducible refine (K2.out _).mono ?_) | (with_reducible refine (K3.out _).mono ?_) | (with_reducible refine (K4.out _).mono ?_) | (with_reducible refine (K5.out _).mono ?_)); rintro e wq ⟨rfl, hbq⟩; have HB := Lib.hid (HB.out.trans (hbq.mono HB.out.size)); clear hbq)
        go_ret
        exact ⟨by first | rfl | (simp; done) | (simp; omega), HB.out⟩
      · rw [decide_eq_false (show ¬ (97 ≤ cn ∧ cn ≤ 122) by omega)] at K1 K3
        rw [decide_eq_false (show ¬ (97 ≤ cn ∧ cn ≤ 122) by omega), decide_eq_false (show ¬ cn = 95 by omega), decide_eq_true (show 48 ≤ cn ∧ cn ≤ 57 by omega)] at K2
        simp only [Bool.true_and, Bool.false_and, Bool.or_true] at K2 K3
        go_enter Try.func8, Try.ntmps8
        go_wp2_with fail
        refine (ehead_calls w).mono ?_
        rintro _ w1 ⟨rfl, hb1⟩
        have HB : Hid (Below w.heap.size w (w1.alloc (.cells #[.int .u8 cn] 5))) := hb1.alloc hb1.size _
        have HB1 := Lib.hid hb1
        have hcw := HCV.out w1
        clear hb1
        go_wp2_with (go_at_call 28; (first | (with_reducible refine (K0.out _).mono ?_) | (with_reducible refine (K1.out _).mono ?_) | (with_reducible refine (K2.out _).mono ?_) | (with_reducible refine (K3.out _).mono ?_) | (with_reducible refine (K4.out _).mono ?_) | (with_reducible refine (K5.out _).mono ?_)); rintro e wq ⟨rfl, hbq⟩; have HB := Lib.hid (HB.out.trans (hbq.mono HB.out.size)); clear hbq)
        go_ret
        exact ⟨by first | rfl | (simp; done) | (simp; omega), HB.out⟩
      · rw [decide_eq_false (show ¬ (97 ≤ cn ∧ cn ≤ 122) by omega)] at K1 K3
        rw [decide_eq_false (show ¬ (97 ≤ cn ∧ cn ≤ 122) by omega), decide_eq_true (show cn = 95 by omega), decide_eq_false (show ¬ (48 ≤ cn ∧ cn ≤ 57) by omega)] at K2
        simp only [Bool.true_and, Bool.false_and, Bool.or_true, Bool.or_false] at K2 K3
        subst h1
        go_enter Try.func8, Try.ntmps8
        go_wp2_with fail
        refine (ehead_calls w).mono ?_
        rintro _ w1 ⟨rfl, hb1⟩
        have HB : Hid (Below w.heap.size w (w1.alloc (.cells #[.int .u8 95] 5))) := hb1.alloc hb1.size _
        have HB1 := Lib.hid hb1
        have hcw : (convert 40 9 (.slice (some ⟨w1.heap.size, 0, none⟩) 1 1)).run Try.prog (w1.alloc (.cells #[.int .u8 95] 5)) = .ok (.string o) (w1.alloc (.cells #[.int .u8 95] 5)) := HCV.out w1
        clear hb1
        go_wp2_with (go_at_call 28; (first | (with_reducible refine (K0.out _).mono ?_) | (with_reducible refine (K1.out _).mono ?_) | (with_reducible refine (K2.out _).mono ?_) | (with_reducible refine (K3.out _).mono ?_) | (with_reducible refine (K4.out _).mono ?_) | (with_reducible refine (K5.out _).mono ?_)); rintro e wq ⟨rfl, hbq⟩; have HB := Lib.hid (HB.out.trans (hbq.mono HB.out.size)); clear hbq)
        go_ret
        exact ⟨by first | rfl | (simp; done) | (simp; omega), HB.out⟩
      · rw [decide_eq_false (show ¬ (97 ≤ cn ∧ cn ≤ 122) by omega)] at K1 K3
        rw [decide_eq_false (show ¬ (97 ≤ cn ∧ cn ≤ 122) by omega), decide_eq_false (show ¬ cn = 95 by omega), decide_eq_false (show ¬ (48 ≤ cn ∧ cn ≤ 57) by omega)] at K2
        simp only [Bool.false_and, Bool.or_self] at K2 K3
        have h4 : ((cn : Int) == 95) = false := by rw [beq_eq_false_iff_ne]; omega
        go_enter Try.func8, Try.ntmps8
        go_wp2_with fail
        refine (ehead_calls w).mono ?_
        rintro _ w1 ⟨rfl, hb1⟩
        have HB : Hid (Below w.heap.size w (w1.alloc (.cells #[.int .u8 cn] 5))) := hb1.alloc hb1.size _
        have HB1 := Lib.hid hb1
        have hcw := HCV.out w1
        clear hb1
        go_wp2_with (go_at_call 28; (first | (with_reducible refine (K0.out _).mono ?_) | (with_reducible refine (K1.out _).mono ?_) | (with_reducible refine (K2.out _).mono ?_) | (with_reducible refine (K3.out _).mono ?_) | (with_reducible refine (K4.out _).mono ?_) | (with_reducible refine (K5.out _).mono ?_)); rintro e wq ⟨rfl, hbq⟩; have HB := Lib.hid (HB.out.trans (hbq.mono HB.out.size)); clear hbq)
        go_ret
        exact ⟨by first | rfl | (simp; done) | (simp; omega), HB.out⟩
      · rw [decide_eq_false (show ¬ (97 ≤ cn ∧ cn ≤ 122) by omega)] at K1 K3
        rw [decide_eq_false (show ¬ (97 ≤ cn ∧ cn ≤ 122) by omega), decide_eq_false (show ¬ cn = 95 by omega), decide_eq_false (show ¬ (48 ≤ cn ∧ cn ≤ 57) by omega)] at K2
        simp only [Bool.false_and, Bool.or_self] at K2 K3
        have h4 : ((cn : Int) == 95) = false := by rw [beq_eq_false_iff_ne]; omega
        go_enter Try.func8, Try.ntmps8
        go_wp2_with fail
        refine (ehead_calls w).mono ?_
        rintro _ w1 ⟨rfl, hb1⟩
        have HB : Hid (Below w.heap.size w (w1.alloc (.cells #[.int .u8 cn] 5))) := hb1.alloc hb1.size _
        have HB1 := Lib.hid hb1
        have hcw := HCV.out w1
        clear hb1
        go_wp2_with (go_at_call 28; (first | (with_reducible refine (K0.out _).mono ?_) | (with_reducible refine (K1.out _).mono ?_) | (with_reducible refine (K2.out _).mono ?_) | (with_reducible refine (K3.out _).mono ?_) | (with_reducible refine (K4.out _).mono ?_) | (with_reducible refine (K5.out _).mono ?_)); rintro e wq ⟨rfl, hbq⟩; have HB := Lib.hid (HB.out.trans (hbq.mono HB.out.size)); clear hbq)
        go_ret
        exact ⟨by first | rfl | (simp; done) | (simp; omega), HB.out⟩
      · rw [decide_eq_false (show ¬ (97 ≤ cn ∧ cn ≤ 122) by omega)] at K1 K3
        rw [decide_eq_false (show ¬ (97 ≤ cn ∧ cn ≤ 122) by omega), decide_eq_false (show ¬ cn = 95 by omega), decide_eq_false (show ¬ (48 ≤ cn ∧ cn ≤ 57) by omega)] at K2
        simp only [Bool.false_and, Bool.or_self] at K2 K3
        have h4 : ((cn : Int) == 95) = false := by rw [beq_eq_false_iff_ne]; omega
        go_enter Try.func8, Try.ntmps8
        go_wp2_with fail
        refine (ehead_calls w).mono ?_
        rintro _ w1 ⟨rfl, hb1⟩
        have HB : Hid (Below w.heap.size w (w1.alloc (.cells #[.int .u8 cn] 5))) := hb1.alloc hb1.size _
        have HB1 := Lib.hid hb1
        have hcw := HCV.out w1
        clear hb1
        go_wp2_with (go_at_call 28; (first | (with_reducible refine (K0.out _).mono ?_) | (with_reducible refine (K1.out _).mono ?_) | (with_reducible refine (K2.out _).mono ?_) | (with_reducible refine (K3.out _).mono ?_) | (with_reducible refine (K4.out _).mono ?_) | (with_reducible refine (K5.out _).mono ?_)); rintro e wq ⟨rfl, hbq⟩; have HB := Lib.hid (HB.out.trans (hbq.mono HB.out.size)); clear hbq)
        go_ret
        exact ⟨by first | rfl | (simp; done) | (simp; omega), HB.out⟩
    · rw [decide_eq_false h16] at K2 K3
      rcases hcase with ⟨h1, h2⟩ | ⟨h1, h2⟩ | h1 | h1 | ⟨h1, h2, h3⟩ | h1
      · rw [decide_eq_true (show 97 ≤ cn ∧ cn ≤ 122 by omega)] at K1 K3
        rw [decide_eq_true (show 97 ≤ cn ∧ cn ≤ 122 by omega), decide_eq_false (show ¬ cn = 95 by omega), decide_eq_false (show ¬ (48 ≤ cn ∧ cn ≤ 57) by omega)] at K2
        simp only [Bool.true_and, Bool.or_false, Bool.or_self] at K2 K3
        go_enter Try.func8, Try.ntmps8
        go_wp2_with fail
        refine (ehead_calls w).mono ?_
        rintro _ w1 ⟨rfl, hb1⟩
        have HB : Hid (Below w.heap.size w (w1.alloc (.cells #[.int .u8 cn] 5))) := hb1.alloc hb1.size _
        have HB1 := Lib.hid hb1
        have hcw := HCV.out w1
        clear hb1
        go_wp2_with (go_at_call 28; (first | (with_reducible refine (K0.out _).mono ?_) | (with_reducible refine (K1.out _).mono ?_) | (with_reducible refine (K2.out _).mono ?_) | (with_reducible refine (K3.out _).mono ?_) | (with_reducible refine (K4.out _).mono ?_) | (with_reducible refine (K5.out _).mono ?_)); rintro e wq ⟨rfl, hbq⟩; have HB := Lib.hid (HB.out.trans (hbq.mono HB.out.size)); clear hbq)
        go_ret
        exact ⟨by first | rfl | (simp; done) | (simp; omega), HB.out⟩
      · rw [decide_eq_false (show ¬ (97 ≤ cn ∧ cn ≤ 122) by omega)] at K1 K3
        rw [decide_eq_false (show ¬ (97 ≤ cn ∧ cn ≤ 122) by omega), decide_eq_false (show ¬ cn = 95 by omega), decide_eq_true (show 48 ≤ cn ∧ cn ≤ 57 by omega)] at K2
        simp only [Bool.true_and, Bool.false_and, Bool.or_true] at K2 K3
        go_enter Try.func8, Try.ntmps8
        go_wp2_with fail
        refine (ehead_calls w).mono ?_
        rintro _ w1 ⟨rfl, hb1⟩
        have HB : Hid (Below w.heap.size w (w1.alloc (.cells #[.int .u8 cn] 5))) := hb1.alloc hb1.size _
        have HB1 := Lib.hid hb1
        have hcw := HCV.out w1
        clear hb1
        go_wp2_with (go_at_call 28; (first | (with_reducible refine (K0.out _).mono ?_) | (with_reducible refine (K1.out _).mono ?_) | (with_reducible refine (K2.out _).mono ?_) | (with_reducible refine (K3.out _).mono ?_) | (with_reducible refine (K4.out _).mono ?_) | (with_reducible refine (K5.out _).mono ?_)); rintro e wq ⟨rfl, hbq⟩; have HB := Lib.hid (HB.out.trans (hbq.mono HB.out.size)); clear hbq)
        go_ret
        exact ⟨by first | rfl | (simp; done) | (simp; omega), HB.out⟩
      · rw [decide_eq_false (show ¬ (97 ≤ cn ∧ cn ≤ 122) by omega)] at K1 K3
        rw [decide_eq_false (show ¬ (97 ≤ cn ∧ cn ≤ 122) by omega), decide_eq_true (show cn = 95 by omega), decide_eq_false (show ¬ (48 ≤ cn ∧ cn ≤ 57) by omega)] at K2
        simp only [Bool.true_and, Bool.false_and, Bool.or_true, Bool.or_false] at K2 K3
        subst h1
        go_enter Try.func8, Try.ntmps8
        go_wp2_with fail
        refine (ehead_calls w).mono ?_
        rintro _ w1 ⟨rfl, hb1⟩
        have HB : Hid (Below w.heap.size w (w1.alloc (.cells #[.int .u8 95] 5))) := hb1.alloc hb1.size _
        have HB1 := Lib.hid hb1
        have hcw : (convert 40 9 (.slice (some ⟨w1.heap.size, 0, none⟩) 1 1)).run Try.prog (w1.alloc (.cells #[.int .u8 95] 5)) = .ok (.string o) (w1.alloc (.cells #[.int .u8 95] 5)) := HCV.out w1
        clear hb1
        go_wp2_with (go_at_call 28; (first | (with_reducible refine (K0.out _).mono ?_) | (with_reducible refine (K1.out _).mono ?_) | (with_reducible refine (K2.out _).mono ?_) | (with_reducible refine (K3.out _).mono ?_) | (with_reducible refine (K4.out _).mono ?_) | (with_reducible refine (K5.out _).mono ?_)); rintro e wq ⟨rfl, hbq⟩; have HB := Lib.hid (HB.out.trans (hbq.mono HB.out.size)); clear hbq)
        go_ret
        exact ⟨by first | rfl | (simp; done) | (simp; omega), HB.out⟩
      · rw [decide_eq_false (show ¬ (97 ≤ cn ∧ cn ≤ 122) by omega)] at K1 K3
        rw [decide_eq_false (show ¬ (97 ≤ cn ∧ cn ≤ 122) by omega), decide_eq_false (show ¬ cn = 95 by omega), decide_eq_false (show ¬ (48 ≤ cn ∧ cn ≤ 57) by omega)] at K2
        simp only [Bool.false_and, Bool.or_self] at K2 K3
        have h4 : ((cn : Int) == 95) = false := by rw [beq_eq_false_iff_ne]; omega
        go_enter Try.func8, Try.ntmps8
        go_wp2_with fail
        refine (ehead_calls w).mono ?_
        rintro _ w1 ⟨rfl, hb1⟩
        have HB : Hid (Below w.heap.size w (w1.alloc (.cells #[.int .u8 cn] 5))) := hb1.alloc hb1.size _
        have HB1 := Lib.hid hb1
        have hcw := HCV.out w1
        clear hb1
        go_wp2_with (go_at_call 28; (first | (with_reducible refine (K0.out _).mono ?_) | (with_reducible refine (K1.out _).mono ?_) | (with_reducible refine (K2.out _).mono ?_) | (with_reducible refine (K3.out _).mono ?_) | (with_reducible refine (K4.out _).mono ?_) | (with_reducible refine (K5.out _).mono ?_)); rintro e wq ⟨rfl, hbq⟩; have HB := Lib.hid (HB.out.trans (hbq.mono HB.out.size)); clear hbq)
        go_ret
        exact ⟨by first | rfl | (simp; done) | (simp; omega), HB.out⟩
      · rw [decide_eq_false (show ¬ (97 ≤ cn ∧ cn ≤ 122) by omega)] at K1 K3
        rw [decide_eq_false (show ¬ (97 ≤ cn ∧ cn ≤ 122) by omega), decide_eq_false (show ¬ cn = 95 by omega), decide_eq_false (show ¬ (48 ≤ cn ∧ cn ≤ 57) by omega)] at K2
        simp only [Bool.false_and, Bool.or_self] at K2 K3
        have h4 : ((cn : Int) == 95) = false := by rw [beq_eq_false_iff_ne]; omega
        go_enter Try.func8, Try.ntmps8
        go_wp2_with fail
        refine (ehead_calls w).mono ?_
        rintro _ w1 ⟨rfl, hb1⟩
        have HB : Hid (Below w.heap.size w (w1.alloc (.cells #[.int .u8 cn] 5))) := hb1.alloc hb1.size _
        have HB1 := Lib.hid hb1
        have hcw := HCV.out w1
        clear hb1
        go_wp2_with (go_at_call 28; (first | (with_reducible refine (K0.out _).mono ?_) | (with_reducible refine (K1.out _).mono ?_) | (with_reducible refine (K2.out _).mono ?_) | (with_reducible refine (K3.out _).mono ?_) | (with_reducible refine (K4.out _).mono ?_) | (with_reducible refine (K5.out _).mono ?_)); rintro e wq ⟨rfl, hbq⟩; have HB := Lib.hid (HB.out.trans (hbq.mono HB.out.size)); clear hbq)
        go_ret
        exact ⟨by first | rfl | (simp; done) | (simp; omega), HB.out⟩
      · rw [decide_eq_false (show ¬ (97 ≤ cn ∧ cn ≤ 122) by omega)] at K1 K3
        rw [decide_eq_false (show ¬ (97 ≤ cn ∧ cn ≤ 122) by omega), decide_eq_false (show ¬ cn = 95 by omega), decide_eq_false (show ¬ (48 ≤ cn ∧ cn ≤ 57) by omega)] at K2
        simp only [Bool.false_and, Bool.or_self] at K2 K3
        have h4 : ((cn : Int) == 95) = false := by rw [beq_eq_false_iff_ne]; omega
        go_enter Try.func8, Try.ntmps8
        go_wp2_with fail
        refine (ehead_calls w).mono ?_
        rintro _ w1 ⟨rfl, hb1⟩
        have HB : Hid (Below w.heap.size w (w1.alloc (.cells #[.int .u8 cn] 5))) := hb1.alloc hb1.size _
        have HB1 := Lib.hid hb1
        have hcw := HCV.out w1
        clear hb1
        go_wp2_with (go_at_call 28; (first | (with_reducible refine (K0.out _).mono ?_) | (with_reducible refine (K1.out _).mono ?_) | (with_reducible refine (K2.out _).mono ?_) | (with_reducible refine (K3.out _).mono ?_) | (with_reducible refine (K4.out _).mono ?_) | (with_reducible refine (K5.out _).mono ?_)); rintro e wq ⟨rfl, hbq⟩; have HB := Lib.hid (HB.out.trans (hbq.mono HB.out.size)); clear hbq)
        go_ret
        exact ⟨by first | rfl | (simp; done) | (simp; omega), HB.out⟩

end Go.Proofs.Ytppgecbjdkfohaa
