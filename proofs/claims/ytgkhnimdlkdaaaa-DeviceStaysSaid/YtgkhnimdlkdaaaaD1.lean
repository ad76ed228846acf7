/- The small functions of a device that touch its own block alone (powerless, done, New, Acts, Down, Fuse) and isName: what each call gives back and what it leaves, whatever the block holds. -/
import Derived.Test.YtgkhnimdlkdaaaaRows
import Derived.Test.YtgkhnimdlkdaaaaD0
import Derived.WalkKit
import Derived.WalkSpells
import Derived.WalkLawsBesides
namespace Go.Proofs.Ytgkhnimdlkdaaaa
open Go.RowKit Go.Lib

set_option maxHeartbeats 400000 in
theorem acts_calls (db : Nat) (acts : Int) (w : World) (c3 : w.cell? ⟨db, 3, none⟩ = some (.int .i64 acts)) :
    Calls Try.prog 32 #[.pointer (some ⟨db, 0, none⟩)] w fun e w' => e = .returned (.int .i64 acts) ∧ w = w' := by
  go_enter Try.func32, Try.ntmps32
  go_wp2
  go_ret
  exact ⟨rfl, rfl⟩

set_option maxHeartbeats 400000 in
theorem down_calls (db : Nat) (down : Bool) (w : World) (c5 : w.cell? ⟨db, 5, none⟩ = some (.bool down)) :
    Calls Try.prog 35 #[.pointer (some ⟨db, 0, none⟩)] w fun e w' => e = .returned (.bool down) ∧ w = w' := by
  go_enter Try.func35, Try.ntmps35
  go_wp2
  go_ret
  exact ⟨rfl, rfl⟩

set_option maxHeartbeats 400000 in
theorem fuse_calls (db : Nat) (n : Int) (fuse : Int) (w : World) (c4 : w.cell? ⟨db, 4, none⟩ = some (.int .i64 fuse)) (f4 : w.frozen? ⟨db, 4, none⟩ = false) :
    Calls Try.prog 24 #[.pointer (some ⟨db, 0, none⟩), .int .i64 n] w fun e w' => e = .returned (.tuple #[]) ∧ w.setCell ⟨db, 4, none⟩ (.int .i64 n) = w' := by
  go_enter Try.func24, Try.ntmps24
  go_wp2
  go_end0
  exact ⟨rfl, rfl⟩

set_option maxHeartbeats 400000 in
theorem powerless_calls (db : Nat) (fuse : Int) (down : Bool) (w : World) (c4 : w.cell? ⟨db, 4, none⟩ = some (.int .i64 fuse)) (c5 : w.cell? ⟨db, 5, none⟩ = some (.bool down)) (f5 : w.frozen? ⟨db, 5, none⟩ = false) :
    Calls Try.prog 43 #[.pointer (some ⟨db, 0, none⟩)] w fun e w' => e = .returned (.bool (down || fuse == 0)) ∧ w.setCell ⟨db, 5, none⟩ (.bool (down || fuse == 0)) = w' := by
  cases down
  · by_cases h : fuse = 0
    · subst h
      go_enter Try.func43, Try.ntmps43
      go_wp2
      go_ret
      exact ⟨rfl, rfl⟩
    · have hb : (fuse == 0) = false := by simpa using h
      simp only [Bool.false_or, hb]
      go_enter Try.func43, Try.ntmps43
      go_wp2
      go_ret
      exact ⟨rfl, rfl⟩
  · go_enter Try.func43, Try.ntmps43
    go_wp2
    go_ret
    exact ⟨rfl, rfl⟩

/-- What 'done' leaves of a fuse. -/
def fuseLess (f : Int) : Int := if 0 < f then f - 1 else f

set_option maxHeartbeats 400000 in
theorem done_calls (db : Nat) (acts fuse : Int) (w : World) (c3 : w.cell? ⟨db, 3, none⟩ = some (.int .i64 acts)) (c4 : w.cell? ⟨db, 4, none⟩ = some (.int .i64 fuse)) (f3 : w.frozen? ⟨db, 3, none⟩ = false) (f4 : w.frozen? ⟨db, 4, none⟩ = false)
    (ha : 0 ≤ acts) (ha2 : acts ≤ 9223372036854775000) (hf : fuse ≤ 9223372036854775807) :
    Calls Try.prog 45 #[.pointer (some ⟨db, 0, none⟩)] w fun e w' => e = .returned (.int .i64 0) ∧ (if 0 < fuse then (w.setCell ⟨db, 3, none⟩ (.int .i64 (acts + 1))).setCell ⟨db, 4, none⟩ (.int .i64 (fuse - 1)) else w.setCell ⟨db, 3, none⟩ (.int .i64 (acts + 1))) = w' := by
  by_cases h : 0 < fuse
  · rw [if_pos h]
    go_enter Try.func45, Try.ntmps45
    go_wp2
    go_ret
    exact ⟨rfl, rfl⟩
  · rw [if_neg h]
    go_enter Try.func45, Try.ntmps45
    go_wp2
    go_ret
    exact ⟨rfl, rfl⟩

set_option maxHeartbeats 400000 in
theorem new_calls (room : Int) (w : World) :
    Calls Try.prog 34 #[.int .i64 room] w fun e w' => e = .returned (.pointer (some ⟨w.heap.size + 2, 0, none⟩)) ∧
      ((w.alloc (.map #[] 0)).alloc (.map #[] 0)).alloc (.cells #[.int .i64 room, .map (some w.heap.size), .map (some (w.heap.size + 1)), .int .i64 0, .int .i64 (-1), .bool false] 65) = w' := by
  have hmm := @run_makeMap Try.prog
  go_enter Try.func34, Try.ntmps34
  go_wp2
  go_ret
  exact ⟨rfl, rfl⟩

set_option maxHeartbeats 1000000 in
theorem isName_calls (s : ByteArray) (w : World) (hs : s.size ≤ maxLen) :
    Calls Try.prog 36 #[.string s] w fun e w' => e = .returned (.bool (nameOk s.data.toList)) ∧ w = w' := by
  unfold maxLen at hs
  by_cases h1 : s.size < 1
  · rw [nameOk_short (by simpa using h1)]
    go_enter Try.func36, Try.ntmps36
    go_wp2
    go_ret
    exact ⟨rfl, rfl⟩
  by_cases h2 : 20 < s.size
  · rw [nameOk_long (by simpa using h2)]
    go_enter Try.func36, Try.ntmps36
    go_wp2
    go_ret
    exact ⟨rfl, rfl⟩
  have hsl : s.data.toList.length = s.size := by simp
  generalize hr : nameOk s.data.toList = r
  have Hr : Hid (nameOk s.data.toList = r) := hr
  have Hsl : Hid (s.data.toList.length = s.size) := hsl
  clear hr hsl
  go_enter Try.func36, Try.ntmps36
  go_wp2
  go_loop [15] (fun i => ∃ k : Nat, k ≤ s.size ∧ i = .int .i64 k ∧ Hid (∀ j, j < k → chOk (s.data.toList.getD j 0) = true)) (fun i => s.size - (intOf i).toNat)
  case atStart => exact ⟨0, Nat.zero_le _, rfl, fun j hj => absurd hj (Nat.not_lt_zero j)⟩
  case round =>
    obtain ⟨k, hk, rfl, hall⟩ := hrel
    by_cases hlt : k < s.size
    · have hg := getD_bytes s k hlt
      by_cases hc : chOk s[k] = true
      · have hall' : Hid (∀ j, j < k + 1 → chOk (s.data.toList.getD j 0) = true) := fun j hj => by
          rcases Nat.lt_succ_iff_lt_or_eq.1 hj with h | h
          · exact hall.out j h
          · subst h; rw [hg]; exact hc
        have hcc := (chOk_iff _).1 hc
        have hb : s[k].toNat < 256 := s[k].toNat_lt
        clear hc hg hall
        rcases hcc with ⟨ha, hb2⟩ | ⟨ha, hb2⟩ | ha
        · go_wp2
          all_goals
            go_round
            case rel => exact ⟨k + 1, by omega, by go_num, hall'⟩
            case measure => simp [intOf]; omega
        · go_wp2
          all_goals
            go_round
            case rel => exact ⟨k + 1, by omega, by go_num, hall'⟩
            case measure => simp [intOf]; omega
        · have ha' : 45 ≤ s[k].toNat ∧ s[k].toNat ≤ 45 := by omega
          obtain ⟨ha1, ha2⟩ := ha'
          have ht : ((s[k].toNat : Int) != 45) = false := by rw [bne_eq_false_iff_eq]; omega
          clear ha
          go_wp2
          all_goals
            go_round
            case rel => exact ⟨k + 1, by omega, by go_num, hall'⟩
            case measure => simp [intOf]; omega
      · have hbad : nameOk s.data.toList = false := nameOk_bad (k := k) (by rw [Hsl.out]; exact hlt) (by rw [hg]; simpa using hc)
        have hcc : ¬ (97 ≤ s[k].toNat ∧ s[k].toNat ≤ 122 ∨ 48 ≤ s[k].toNat ∧ s[k].toNat ≤ 57 ∨ s[k].toNat = 45) := fun h => hc ((chOk_iff _).2 h)
        have hb : s[k].toNat < 256 := s[k].toNat_lt
        have ht : ((s[k].toNat : Int) != 45) = true := by rw [bne_iff_ne]; omega
        obtain rfl : r = false := Hr.out.symm.trans hbad
        have h3 : (s[k].toNat < 48) ∨ (57 < s[k].toNat ∧ s[k].toNat < 97) ∨ 122 < s[k].toNat := by omega
        clear hc hg hall hcc hbad
        rcases h3 with h3 | ⟨h3, h4⟩ | h3
        all_goals
          go_wp2
          go_ret
          exact ⟨rfl, rfl⟩
    · obtain rfl : r = true := Hr.out.symm.trans (nameOk_all (by rw [Hsl.out]; omega) (by rw [Hsl.out]; omega) (fun j hj => hall.out j (by rw [Hsl.out] at hj; omega)))
      go_wp2
      go_ret
      exact ⟨rfl, rfl⟩

end Go.Proofs.Ytgkhnimdlkdaaaa
