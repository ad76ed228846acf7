/- Values: Right, written, and cmp's functions. -/
import Derived.Test.YtifacoompbngaaaGreatDoorV2
import Derived.WalkKit
import Derived.WalkSpells
import Derived.WalkLawsBesides
import Derived.Lib.Hide
import Derived.Lib.Strings
namespace Go.Proofs.YtifacoompbngaaaGreatDoor
open Go.RowKit Go.Lib Go.Op

/-- Is that right, of a value's three parts? -/
def rightV (k n : Int) (s : ByteArray) : Bool := rightB ⟨k, n, s.data.toList⟩

theorem rightV_1 (n : Int) (s : ByteArray) : rightV 1 n s = decide (-1099511627776 ≤ n ∧ n ≤ 1099511627776 ∧ s.data.toList = []) := rfl
theorem rightV_2 (n : Int) (s : ByteArray) : rightV 2 n s = decide (n = 0 ∧ s.data.toList.length ≤ 64) := rfl
theorem rightV_3 (n : Int) (s : ByteArray) : rightV 3 n s = decide (0 ≤ n ∧ n ≤ 1 ∧ s.data.toList = []) := rfl
theorem rightV_not {k n : Int} {s : ByteArray} (h1 : k ≠ 1) (h2 : k ≠ 2) (h3 : k ≠ 3) : rightV k n s = false := by
  unfold rightV rightB; rw [if_neg h1, if_neg h2, if_neg h3]

theorem vtoL (a : ByteArray) : a.toList = a.data.toList := ByteArray.toList_eq a

theorem vret_bool {a b : Bool} (h : a = b) : Ending.returned (.bool a) = .returned (.bool b) := by rw [h]

theorem vempty {s : ByteArray} (h : s.data.toList = []) : s = ⟨#[]⟩ := by
  apply ByteArray.ext
  apply Array.ext'
  rw [h]

set_option maxHeartbeats 1000000 in
set_option maxRecDepth 100000 in
theorem vright_calls (k n : Int) (s : ByteArray) (w : World) (hs : s.size ≤ maxLen) :
    Calls Tryz.prog 231 #[.agg #[.int .i64 k, .int .i64 n, .string s]] w fun e w' => e = .returned (.bool (rightV k n s)) ∧ w' = w.alloc (.cells #[.int .i64 k, .int .i64 n, .string s] 35) := by
  unfold maxLen at hs
  have hsl : s.data.toList.length = s.size := by simp
  by_cases hse : s.data.toList = []
  · obtain rfl := vempty hse
    clear hsl hse hs
    by_cases h3 : k = 3
    · subst h3
      rw [rightV_3]
      go_enter Tryz.func231, Tryz.ntmps231
      go_wp2
      all_goals (go_ret; exact ⟨vret_bool (by simp; omega), rfl⟩)
    by_cases h1 : k = 1
    · subst h1
      rw [rightV_1]
      go_enter Tryz.func231, Tryz.ntmps231
      go_wp2
      all_goals (go_ret; exact ⟨vret_bool (by simp; omega), rfl⟩)
    by_cases h2 : k = 2
    · subst h2
      rw [rightV_2]
      by_cases hn : n = 0
      · subst hn
        go_enter Tryz.func231, Tryz.ntmps231
        go_wp2
        all_goals (go_ret; exact ⟨vret_bool (by simp), rfl⟩)
      · go_enter Tryz.func231, Tryz.ntmps231
        go_wp2
        all_goals (go_ret; exact ⟨vret_bool (by simp; omega), rfl⟩)
    · rw [rightV_not h1 h2 h3]
      go_enter Tryz.func231, Tryz.ntmps231
      go_wp2
      all_goals (go_ret; exact ⟨vret_bool (by simp), rfl⟩)
  · have ha : (s.toList == []) = false := by rw [beq_eq_false_iff_ne, vtoL]; exact hse
    have hb : (!s.toList.isEmpty) = true := by rw [vtoL]; simpa using hse
    have hc : s.toList.isEmpty = false := by rw [vtoL]; simpa using hse
    by_cases h3 : k = 3
    · subst h3
      rw [rightV_3]
      go_enter Tryz.func231, Tryz.ntmps231
      go_wp2
      all_goals (go_ret; exact ⟨vret_bool (by first | rfl | (simp [hse]) | (simp; omega)), rfl⟩)
    by_cases h1 : k = 1
    · subst h1
      rw [rightV_1]
      go_enter Tryz.func231, Tryz.ntmps231
      go_wp2
      all_goals (go_ret; exact ⟨vret_bool (by first | rfl | (simp [hse]) | (simp; omega)), rfl⟩)
    by_cases h2 : k = 2
    · subst h2
      rw [rightV_2]
      by_cases hn : n = 0
      · subst hn
        clear ha hb hc
        go_enter Tryz.func231, Tryz.ntmps231
        go_wp2
        all_goals (go_ret; exact ⟨vret_bool (by simp [hsl]; try omega), rfl⟩)
      · clear ha hb hc
        go_enter Tryz.func231, Tryz.ntmps231
        go_wp2
        all_goals (go_ret; exact ⟨vret_bool (by simp; omega), rfl⟩)
    · rw [rightV_not h1 h2 h3]
      go_enter Tryz.func231, Tryz.ntmps231
      go_wp2
      all_goals (go_ret; exact ⟨vret_bool (by simp), rfl⟩)

theorem nanN_calls (a : Int) (w : World) : Calls Tryz.prog 306 #[.int .i64 a] w fun e w' => e = .returned (.bool false) ∧ w = w' := by
  go_enter Tryz.func306, Tryz.ntmps306
  go_wp2
  go_ret
  exact ⟨rfl, rfl⟩

theorem nanS_calls (a : ByteArray) (w : World) : Calls Tryz.prog 221 #[.string a] w fun e w' => e = .returned (.bool false) ∧ w = w' := by
  go_enter Tryz.func221, Tryz.ntmps221
  go_wp2
  go_ret
  exact ⟨rfl, rfl⟩

theorem vret_num {k : IntKind} {a b : Int} (h : a = b) : Ending.returned (.int k a) = .returned (.int k b) := by rw [h]

set_option maxRecDepth 100000 in
theorem cmpN_calls (a b : Int) (w : World) : Calls Tryz.prog 265 #[.int .i64 a, .int .i64 b] w fun e w' => e = .returned (.int .i64 (cmpN a b)) ∧ w = w' := by
  rcases cmpN_cases a b with ⟨h1, h2⟩ | ⟨h1, h2⟩ | ⟨h1, h2⟩
  · rw [h2]
    clear h2
    go_enter Tryz.func265, Tryz.ntmps265
    go_wp2_with (first | (go_at_call 306; refine (nanN_calls _ _).mono ?_; rintro e w' ⟨rfl, rfl⟩))
    go_ret
    exact ⟨rfl, rfl⟩
  · rw [h2]
    clear h2
    have h3 : ¬ a < b := by omega
    go_enter Tryz.func265, Tryz.ntmps265
    go_wp2_with (first | (go_at_call 306; refine (nanN_calls _ _).mono ?_; rintro e w' ⟨rfl, rfl⟩))
    go_ret
    exact ⟨rfl, rfl⟩
  · rw [h2]
    subst h1
    clear h2
    go_enter Tryz.func265, Tryz.ntmps265
    go_wp2_with (first | (go_at_call 306; refine (nanN_calls _ _).mono ?_; rintro e w' ⟨rfl, rfl⟩))
    go_ret
    exact ⟨rfl, rfl⟩

set_option maxRecDepth 100000 in
theorem cmpS_calls (a b : ByteArray) (w : World) : Calls Tryz.prog 156 #[.string a, .string b] w fun e w' => e = .returned (.int .i64 (cmpS a.data.toList b.data.toList)) ∧ w = w' := by
  rcases cmpS_cases a.data.toList b.data.toList with ⟨h1, h2⟩ | ⟨h1, h2⟩ | ⟨h1, h2⟩
  · rw [h2]
    rw [← vtoL, ← vtoL] at h1
    clear h2
    go_enter Tryz.func156, Tryz.ntmps156
    go_wp2_with (first | (go_at_call 221; refine (nanS_calls _ _).mono ?_; rintro e w' ⟨rfl, rfl⟩))
    go_ret
    exact ⟨rfl, rfl⟩
  · rw [h2]
    have h3 := less_asymm _ _ h1
    have h4 : (a.toList == b.toList) = false := by
      rw [beq_eq_false_iff_ne, vtoL, vtoL]
      intro e
      rw [e, less_irrefl] at h1
      cases h1
    rw [← vtoL, ← vtoL] at h1 h3
    clear h2
    go_enter Tryz.func156, Tryz.ntmps156
    go_wp2_with (first | (go_at_call 221; refine (nanS_calls _ _).mono ?_; rintro e w' ⟨rfl, rfl⟩))
    go_ret
    exact ⟨rfl, rfl⟩
  · rw [h2]
    have h5 : a = b := by
      apply ByteArray.ext
      exact Array.ext' h1
    subst h5
    have h3 : bytesLess a.toList a.toList = false := less_irrefl _
    have h4 : (a.toList == a.toList) = true := by simp
    clear h2 h1
    go_enter Tryz.func156, Tryz.ntmps156
    go_wp2_with (first | (go_at_call 221; refine (nanS_calls _ _).mono ?_; rintro e w' ⟨rfl, rfl⟩))
    go_ret
    exact ⟨rfl, rfl⟩

/-- What stands behind a right value's kind, as a number. -/
def writtenV (k n : Int) (s : ByteArray) : Nat := if k = 2 then s.size else if k = 3 then n.toNat else zigN n

end Go.Proofs.YtifacoompbngaaaGreatDoor
