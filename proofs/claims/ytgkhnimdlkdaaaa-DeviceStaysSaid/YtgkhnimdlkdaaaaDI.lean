/- The document's own answer on names (R.Name): it is the program's. -/
import Derived.Test.YtgkhnimdlkdaaaaDH
namespace Go.Proofs.Ytgkhnimdlkdaaaa
open Go.RowKit Go.Lib

set_option maxHeartbeats 1000000 in
theorem rname_calls (s : ByteArray) (w : World) (hs : s.size ≤ maxLen) :
    Calls Try.prog 33 #[.string s] w fun e w' => e = .returned (.bool (nameOk s.data.toList)) ∧ w = w' := by
  unfold maxLen at hs
  have hsl : s.data.toList.length = s.size := by simp
  generalize hr : nameOk s.data.toList = r
  have Hr : Hid (nameOk s.data.toList = r) := hr
  have Hsl : Hid (s.data.toList.length = s.size) := hsl
  clear hr hsl
  go_enter Try.func33, Try.ntmps33
  go_wp2
  go_loop [3] (fun i => ∃ k : Nat, k ≤ s.size ∧ i = .int .i64 k ∧ Hid (∀ j, j < k → chOk (s.data.toList.getD j 0) = true)) (fun i => s.size - (intOf i).toNat)
  case atStart => exact ⟨0, Nat.zero_le _, rfl, fun j hj => absurd hj (Nat.not_lt_zero j)⟩
  case round =>
    obtain ⟨k, hk, rfl, hall⟩ := hrel
    by_cases hlt : k < s.size
    · have hg := getD_bytes s k hlt
      by_cases hc : chOk s[k] = true
      · have hall' : Hid (∀ j, j < k + 1 → chOk (s.data.toList.getD j 0) = true) := fun j hj => by
          rcases Nat.lt_succ_iff_lt_or_eq.1 hj with h | h
          · exact hall.out j h
          · subst h; rw [hg]; exact hc
        have hcc := (chOk_iff _).1 hc
        have hb : s[k].toNat < 256 := s[k].toNat_lt
        clear hc hg hall
        rcases hcc with ⟨ha, hb2⟩ | ⟨ha, hb2⟩ | ha
        · have ht : ((s[k].toNat : Int) != 45) = true := by rw [bne_iff_ne]; omega
          go_wp2
          all_goals
            go_round
            case rel => exact ⟨k + 1, by omega, by go_num, hall'⟩
            case measure => simp [intOf]; omega
        · have ht : ((s[k].toNat : Int) != 45) = true := by rw [bne_iff_ne]; omega
          go_wp2
          all_goals
            go_round
            case rel => exact ⟨k + 1, by omega, by go_num, hall'⟩
            case measure => simp [intOf]; omega
        · have ha' : 45 ≤ s[k].toNat ∧ s[k].toNat ≤ 45 := by omega
          obtain ⟨ha1, ha2⟩ := ha'
          have ht : ((s[k].toNat : Int) != 45) = false := by rw [bne_eq_false_iff_eq]; omega
          clear ha
          go_wp2
          all_goals
            go_round
            case rel => exact ⟨k + 1, by omega, by go_num, hall'⟩
            case measure => simp [intOf]; omega
      · have hbad : nameOk s.data.toList = false := nameOk_bad (k := k) (by rw [Hsl.out]; exact hlt) (by rw [hg]; simpa using hc)
        have hcc : ¬ (97 ≤ s[k].toNat ∧ s[k].toNat ≤ 122 ∨ 48 ≤ s[k].toNat ∧ s[k].toNat ≤ 57 ∨ s[k].toNat = 45) := fun h => hc ((chOk_iff _).2 h)
        have hb : s[k].toNat < 256 := s[k].toNat_lt
        have ht : ((s[k].toNat : Int) != 45) = true := by rw [bne_iff_ne]; omega
        obtain rfl : r = false := Hr.out.symm.trans hbad
        have h3 : (s[k].toNat < 48) ∨ (57 < s[k].toNat ∧ s[k].toNat < 97) ∨ 122 < s[k].toNat := by omega
        clear hc hg hall hcc hbad
        rcases h3 with h3 | ⟨h3, h4⟩ | h3
        all_goals
          go_wp2
          go_ret
          exact ⟨rfl, rfl⟩
    · by_cases h1 : s.size < 1
      · obtain rfl : r = false := Hr.out.symm.trans (nameOk_short (by rw [Hsl.out]; exact h1))
        go_wp2
        go_ret
        exact ⟨rfl, rfl⟩
      by_cases h2 : 20 < s.size
      · obtain rfl : r = false := Hr.out.symm.trans (nameOk_long (by rw [Hsl.out]; exact h2))
        have hd : decide ((s.size : Int) ≤ 20) = false := by simp; omega
        go_wp2
        go_ret
        exact ⟨rfl, rfl⟩
      obtain rfl : r = true := Hr.out.symm.trans (nameOk_all (by rw [Hsl.out]; omega) (by rw [Hsl.out]; omega) (fun j hj => hall.out j (by rw [Hsl.out] at hj; omega)))
      have hd : decide ((s.size : Int) ≤ 20) = true := by simp; omega
      go_wp2
      go_ret
      exact ⟨rfl, rfl⟩

end Go.Proofs.Ytgkhnimdlkdaaaa
