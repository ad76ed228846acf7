/- Values: the sign of two. -/
import Derived.Test.YtifacoompbngaaaGreatDoorV3
import Derived.Deep.QuietTactic
import Derived.BigQuiet
import Derived.Deep.RegionHeld3
import Derived.IntWalk
import Derived.Deep.RegionLaw
namespace Go.Proofs.YtifacoompbngaaaGreatDoor
open Go.RowKit Go.Lib Go.Op

set_option maxRecDepth 100000 in
theorem or_calls (x y : Int) (b c : Nat) (w : World) (hx : w.cell? ⟨b, 0, none⟩ = some (.int .i64 x)) (hy : w.cell? ⟨b, 1, none⟩ = some (.int .i64 y)) :
    Calls Tryz.prog 154 #[.slice (some ⟨b, 0, none⟩) 2 c] w fun e w' => e = .returned (.int .i64 (if x ≠ 0 then x else y)) ∧ w = w' := by
  by_cases h : x = 0
  · rw [if_neg (fun e => e h)]
    subst h
    by_cases h2 : y = 0
    · subst h2
      go_enter Tryz.func154, Tryz.ntmps154
      go_wp2
      go_loop [8] (fun i => ∃ k : Nat, k ≤ 2 ∧ i = .int .i64 k) (fun i => 2 - (intOf i).toNat)
      case atStart => exact ⟨0, by omega, rfl⟩
      case round =>
        obtain ⟨k, hk, rfl⟩ := hrel
        obtain rfl | rfl | rfl : k = 0 ∨ k = 1 ∨ k = 2 := by omega
        · go_wp2
          go_round
          case rel => exact ⟨1, by omega, by go_num⟩
          case measure => simp [intOf]
        · go_wp2
          go_round
          case rel => exact ⟨2, by omega, by go_num⟩
          case measure => simp [intOf]
        · go_wp2
          go_ret
          exact ⟨rfl, rfl⟩
    · go_enter Tryz.func154, Tryz.ntmps154
      go_wp2
      go_loop [8] (fun i => ∃ k : Nat, k ≤ 1 ∧ i = .int .i64 k) (fun i => 2 - (intOf i).toNat)
      case atStart => exact ⟨0, by omega, rfl⟩
      case round =>
        obtain ⟨k, hk, rfl⟩ := hrel
        obtain rfl | rfl : k = 0 ∨ k = 1 := by omega
        · go_wp2
          go_round
          case rel => exact ⟨1, by omega, by go_num⟩
          case measure => simp [intOf]
        · go_wp2
          go_ret
          exact ⟨rfl, rfl⟩
  · rw [if_pos h]
    go_enter Tryz.func154, Tryz.ntmps154
    go_wp2
    go_loop [8] (fun i => i = .int .i64 0) (fun i => 2 - (intOf i).toNat)
    case atStart => exact rfl
    case round =>
      subst hrel
      go_wp2
      go_ret
      exact ⟨rfl, rfl⟩

theorem vbelow_drewN {w w' : World} (h : Below w.heap.size w w') (n : Nat) : Below w.heap.size w (w'.drewN n) := ⟨h.os, h.tape, h.output, h.size, h.block⟩
theorem vbelow_drew {w w' : World} (h : Below w.heap.size w w') : Below w.heap.size w w'.drew := ⟨h.os, h.tape, h.output, h.size, h.block⟩

/-- The parts of a value, as the model has it. -/
abbrev aggV (k n : Int) (s : ByteArray) : Value := .agg #[.int .i64 k, .int .i64 n, .string s]
def cellsV (k n : Int) (s : ByteArray) : Obj := .cells #[.int .i64 k, .int .i64 n, .string s] 35

def SignPost (w : World) (z : Int) (e : Ending) (w' : World) : Prop := e = .returned (.int .i64 z) ∧ Below w.heap.size w w'

set_option maxHeartbeats 1000000 in
set_option maxRecDepth 100000 in
theorem sign_calls (k1 n1 : Int) (s1 : ByteArray) (k2 n2 : Int) (s2 : ByteArray) (w : World) :
    Calls Tryz.prog 232 #[.agg #[.int .i64 k1, .int .i64 n1, .string s1], .agg #[.int .i64 k2, .int .i64 n2, .string s2]] w (SignPost w (signV ⟨k1, n1, s1.data.toList⟩ ⟨k2, n2, s2.data.toList⟩)) := by
  have ho := fun (b : Nat) (c : Nat) (W : World) => or_calls (cmpN n1 n2) (cmpS s1.data.toList s2.data.toList) b c W
  have e1 : signV ⟨k1, n1, s1.data.toList⟩ ⟨k2, n2, s2.data.toList⟩ = if cmpN n1 n2 ≠ 0 then cmpN n1 n2 else cmpS s1.data.toList s2.data.toList := rfl
  rw [e1]
  obtain ⟨z, hz⟩ : ∃ z, (if cmpN n1 n2 ≠ 0 then cmpN n1 n2 else cmpS s1.data.toList s2.data.toList) = z := ⟨_, rfl⟩
  rw [hz] at ho ⊢
  have hn : ∀ W, Calls Tryz.prog 265 #[.int .i64 n1, .int .i64 n2] W fun e w' => e = .returned (.int .i64 (cmpN n1 n2)) ∧ W = w' := fun W => cmpN_calls n1 n2 W
  have hs : ∀ W, Calls Tryz.prog 156 #[.string s1, .string s2] W fun e w' => e = .returned (.int .i64 (cmpS s1.data.toList s2.data.toList)) ∧ W = w' := fun W => cmpS_calls s1 s2 W
  obtain ⟨x, hx⟩ : ∃ x, cmpN n1 n2 = x := ⟨_, rfl⟩
  obtain ⟨y, hy⟩ : ∃ y, cmpS s1.data.toList s2.data.toList = y := ⟨_, rfl⟩
  rw [hx] at hn ho
  rw [hy] at hs ho
  have HO := Lib.hid ho
  have HN := Lib.hid hn
  have HS := Lib.hid hs
  clear e1 hz hx hy ho hn hs
  go_enter Tryz.func232, Tryz.ntmps232
  go_wp2_with fail
  obtain ⟨W0, hW0⟩ : ∃ W0, W0 = (w.alloc (.cells #[.int .i64 k1, .int .i64 n1, .string s1] 35)).alloc (.cells #[.int .i64 k2, .int .i64 n2, .string s2] 35) := ⟨_, rfl⟩
  have c1 : W0.cell? ⟨w.heap.size, 1, none⟩ = some (.int .i64 n1) := by rw [hW0]; simp
  have c2 : W0.cell? ⟨w.heap.size, 2, none⟩ = some (.string s1) := by rw [hW0]; simp
  have d1 : W0.cell? ⟨w.heap.size + 1, 1, none⟩ = some (.int .i64 n2) := by rw [hW0]; simp
  have d2 : W0.cell? ⟨w.heap.size + 1, 2, none⟩ = some (.string s2) := by rw [hW0]; simp
  have hb : Below w.heap.size w W0 := by rw [hW0]; exact ((Below.refl _ _).alloc (Nat.le_refl _) _).alloc (by simp) _
  have HB := Lib.hid hb
  have HB1 := Lib.hid (vbelow_drew hb)
  have HB2 := Lib.hid (vbelow_drew (hb.alloc hb.size (.cells #[.int .i64 x, .int .i64 y] 3)))
  rw [← hW0]
  clear hW0 hb
  have m1 := World.new_ne W0 _ c1
  have m2 := World.new_ne W0 _ c2
  have m3 := World.new_ne W0 _ d1
  have m4 := World.new_ne W0 _ d2
  go_region_held3 (fun W => W.cell? ⟨w.heap.size, 1, none⟩ = some (.int .i64 n1) ∧ W.cell? ⟨w.heap.size, 2, none⟩ = some (.string s1) ∧ W.cell? ⟨w.heap.size + 1, 1, none⟩ = some (.int .i64 n2) ∧ W.cell? ⟨w.heap.size + 1, 2, none⟩ = some (.string s2))
    (go_keep)
    (first
      | (go_at_call 265; refine (HN.out _).mono ?_; rintro e w3 ⟨rfl, rfl⟩)
      | (go_at_call 156; refine (HS.out _).mono ?_; rintro e w3 ⟨rfl, rfl⟩)
      | (go_at_call 154; refine (HO.out _ _ _ (by simp) (by simp)).mono ?_; rintro e w3 ⟨rfl, rfl⟩))
  all_goals
    go_wp2
    go_ret
    exact ⟨rfl, HB2.out⟩

end Go.Proofs.YtifacoompbngaaaGreatDoor
