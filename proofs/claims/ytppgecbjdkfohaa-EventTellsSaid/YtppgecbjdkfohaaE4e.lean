/- Events: right. -/
import Derived.Test.YtppgecbjdkfohaaE3e
namespace Go.Proofs.Ytppgecbjdkfohaa
open Go.RowKit Go.Lib Go.Op

/-- An event as it was handed in, in plain words. -/
def pe (t d s : Int) (n : ByteArray) (vs : List VIn) : PEv := ⟨t, d, s, n.data.toList, vs.map pv⟩

theorem rightE_parts (t d s : Int) (n : ByteArray) (vs : List VIn) : rightE (pe t d s n vs) = (numB t && (numB s && (decide (0 ≤ d ∧ d ≤ 3) && (wordB n.data.toList && (decide (vs.length ≤ 8) && (vs.map pv).all rightB))))) := by
  unfold rightE pe
  simp only [List.length_map]

set_option maxHeartbeats 2000000 in
set_option maxRecDepth 100000 in
theorem eright_calls (t d s : Int) (n : ByteArray) (a : Option Addr) (c : Nat) (vs : List VIn) (w : World) (hn : n.size ≤ maxLen) (hv : VRow w a vs) (hl : vs.length ≤ maxLen) :
    Calls Try.prog 52 #[evV t d s n (.slice a vs.length c)] w fun e w' => e = .returned (.bool (rightE (pe t d s n vs))) ∧ Below w.heap.size w w' := by
  rw [rightE_parts]
  have hw := fun W => word_calls n W hn
  have hc := fun W (hb : Below w.heap.size w W) => contains_calls' a c vs W (hv.below hb) hl
  have HN1 := Lib.hid (fun W => number_calls' t W)
  have HN2 := Lib.hid (fun W => number_calls' s W)
  obtain ⟨l, hll⟩ : ∃ l, vs.length = l := ⟨_, rfl⟩
  rw [hll] at hc hl ⊢
  have HC := Lib.hid hc
  generalize (vs.map pv).all rightB = ball at HC ⊢
  unfold maxLen at hl
  clear hv hc hll
  cases h1 : numB t with
  | false =>
    rw [h1] at HN1
    go_enter Try.func52, Try.ntmps52
    go_wp2_with (go_at_call 79; refine (HN1.out _).mono ?_; rintro e w1 ⟨rfl, rfl⟩)
    go_ret
    exact ⟨rfl, (Below.refl _ _).alloc (Nat.le_refl _) _⟩
  | true =>
  cases h2 : numB s with
  | false =>
    rw [h1] at HN1
    rw [h2] at HN2
    go_enter Try.func52, Try.ntmps52
    go_wp2_with (go_at_call 79; (first | (with_reducible refine (HN1.out _).mono ?_) | (with_reducible refine (HN2.out _).mono ?_)); rintro e w1 ⟨rfl, rfl⟩)
    go_ret
    exact ⟨rfl, (Below.refl _ _).alloc (Nat.le_refl _) _⟩
  | true =>
  rw [h1] at HN1
  rw [h2] at HN2
  by_cases h3 : d < 0
  · rw [decide_eq_false (show ¬ (0 ≤ d ∧ d ≤ 3) by omega)]
    go_enter Try.func52, Try.ntmps52
    go_wp2_with (go_at_call 79; (first | (with_reducible refine (HN1.out _).mono ?_) | (with_reducible refine (HN2.out _).mono ?_)); rintro e w1 ⟨rfl, rfl⟩)
    go_ret
    exact ⟨rfl, (Below.refl _ _).alloc (Nat.le_refl _) _⟩
  by_cases h4 : 3 < d
  · rw [decide_eq_false (show ¬ (0 ≤ d ∧ d ≤ 3) by omega)]
    go_enter Try.func52, Try.ntmps52
    go_wp2_with (go_at_call 79; (first | (with_reducible refine (HN1.out _).mono ?_) | (with_reducible refine (HN2.out _).mono ?_)); rintro e w1 ⟨rfl, rfl⟩)
    go_ret
    exact ⟨rfl, (Below.refl _ _).alloc (Nat.le_refl _) _⟩
  rw [decide_eq_true (show 0 ≤ d ∧ d ≤ 3 by omega)]
  have HW := Lib.hid (hw (w.alloc (.cells #[.int .i64 t, .int .i64 d, .int .i64 s, .string n, .slice a l c] 25)))
  clear hw
  cases h5 : wordB n.data.toList with
  | false =>
    rw [h5] at HW
    go_enter Try.func52, Try.ntmps52
    go_wp2_with (first | (go_at_call 79; (first | (with_reducible refine (HN1.out _).mono ?_) | (with_reducible refine (HN2.out _).mono ?_)); rintro e w1 ⟨rfl, rfl⟩) | (go_at_call 28; refine HW.out.mono ?_; rintro e w1 ⟨rfl, hb1⟩))
    go_ret
    exact ⟨rfl, ((Below.refl _ _).alloc (Nat.le_refl _) _).trans (hb1.mono (by simp))⟩
  | true =>
  rw [h5] at HW
  by_cases h6 : 8 < l
  · rw [decide_eq_false (show ¬ l ≤ 8 by omega)]
    go_enter Try.func52, Try.ntmps52
    go_wp2_with (first | (go_at_call 79; (first | (with_reducible refine (HN1.out _).mono ?_) | (with_reducible refine (HN2.out _).mono ?_)); rintro e w1 ⟨rfl, rfl⟩) | (go_at_call 28; refine HW.out.mono ?_; rintro e w1 ⟨rfl, hb1⟩; have x4 : w1.cell? ⟨w.heap.size, 4, none⟩ = some (.slice a l c) := ekeep hb1 (by simp)))
    go_ret
    exact ⟨rfl, ((Below.refl _ _).alloc (Nat.le_refl _) _).trans (hb1.mono (by simp))⟩
  · rw [decide_eq_true (show l ≤ 8 by omega)]
    go_enter Try.func52, Try.ntmps52
    go_wp2_with (first
      | (go_at_call 79; (first | (with_reducible refine (HN1.out _).mono ?_) | (with_reducible refine (HN2.out _).mono ?_)); rintro e w1 ⟨rfl, rfl⟩)
      | (go_at_call 28; refine HW.out.mono ?_; rintro e w1 ⟨rfl, hb1⟩; have x4 : w1.cell? ⟨w.heap.size, 4, none⟩ = some (.slice a l c) := ekeep hb1 (by simp); have HB1 : Hid (Below w.heap.size w w1) := ((Below.refl _ _).alloc (Nat.le_refl _) _).trans (hb1.mono (by simp)); clear hb1)
      | (go_at_call 82; refine (HC.out _ HB1.out).mono ?_; rintro e w2 ⟨rfl, hb2⟩))
    go_ret
    exact ⟨by simp, HB1.out.trans (hb2.mono HB1.out.size)⟩

end Go.Proofs.Ytppgecbjdkfohaa
