/- Events: what the statements compare: Same, SameOne. -/
import Derived.Test.YtppgecbjdkfohaaE7e
namespace Go.Proofs.Ytppgecbjdkfohaa
open Go.RowKit Go.Lib Go.Op

set_option maxHeartbeats 2000000 in
set_option maxRecDepth 100000 in
theorem vsame_calls (a : Option Addr) (c : Nat) (b : Option Addr) (d : Nat) (vs : List VIn) (w : World) (ha : VRow w a vs) (hb : VRow w b vs) (hl : vs.length ≤ maxLen) :
    Calls Try.prog 65 #[.slice a vs.length c, .slice b vs.length d] w fun e w' => e = .returned (.bool true) ∧ Below w.heap.size w w' := by
  have HA := Lib.hid ha
  have HB := Lib.hid hb
  obtain ⟨l, hll⟩ : ∃ l, vs.length = l := ⟨_, rfl⟩
  rw [hll] at hl ⊢
  have Hl := Lib.hid hll
  unfold maxLen at hl
  clear ha hb hll
  go_enter Try.func65, Try.ntmps65
  go_wp2
  go_loopw [5] (fun i wr => ∃ k : Nat, i = .int .i64 k ∧ k ≤ l ∧ Hid (Below w.heap.size w wr)) (fun i _ => l - (intOf i).toNat)
  case atStart => exact ⟨0, rfl, Nat.zero_le _, Below.refl _ _⟩
  case round =>
    obtain ⟨k, rfl, hk, HBl⟩ := hrel
    by_cases hlt : k < l
    · obtain ⟨x, hx⟩ : ∃ x, vs[k]? = some x := ⟨_, List.getElem?_eq_getElem (by rw [Hl.out]; exact hlt)⟩
      obtain ⟨A, rfl, c0, c1, c2, _⟩ := (HA.out.below HBl.out) k x hx
      obtain ⟨B, rfl, d0, d1, d2, _⟩ := (HB.out.below HBl.out) k x hx
      obtain ⟨k1, n1, s1⟩ := x
      dsimp only at c0 c1 c2 d0 d1 d2
      unfold efld at c1 c2 d1 d2
      have hk0 : (0 : Int) ≤ (k : Int) := by omega
      have hk1 : (k : Int) < (l : Int) := by omega
      clear hx
      go_wp2_with fail
      go_quiet (fail)
      have HB1 : Hid (Below w.heap.size w (wr.drewN nq)) := vbelow_drewN HBl.out _
      go_wp2_with fail
      go_roundw
      case rel => exact ⟨k + 1, by go_num, by omega, HB1⟩
      case measure => simp [intOf]; omega
    · go_wp2
      go_ret
      exact ⟨rfl, HBl.out⟩

set_option maxHeartbeats 2000000 in
set_option maxRecDepth 100000 in
theorem sameOne_calls (t d s : Int) (n : ByteArray) (a : Option Addr) (c : Nat) (b : Option Addr) (c' : Nat) (vs : List VIn) (w : World) (ha : VRow w a vs) (hb : VRow w b vs) (hl : vs.length ≤ maxLen) :
    Calls Try.prog 32 #[evV t d s n (.slice a vs.length c), evV t d s n (.slice b vs.length c')] w fun e w' => e = .returned (.bool true) ∧ Below w.heap.size w w' := by
  have hB0 : Below w.heap.size w ((w.alloc (.cells #[.int .i64 t, .int .i64 d, .int .i64 s, .string n, .slice a vs.length c] 25)).alloc (.cells #[.int .i64 t, .int .i64 d, .int .i64 s, .string n, .slice b vs.length c'] 25)) := ((Below.refl _ _).alloc (Nat.le_refl _) _).alloc (by simp) _
  have HS := Lib.hid (vsame_calls a c b c' vs _ (ha.below hB0) (hb.below hB0) hl)
  obtain ⟨l, hll⟩ : ∃ l, vs.length = l := ⟨_, rfl⟩
  rw [hll] at hB0 HS ⊢
  have HB0 := Lib.hid hB0
  clear ha hb hll hB0 hl
  go_enter Try.func32, Try.ntmps32
  go_wp2_with (go_at_call 65; refine HS.out.mono ?_; rintro e w1 ⟨rfl, hb1⟩)
  go_ret
  exact ⟨by simp, HB0.out.trans (hb1.mono HB0.out.size)⟩

end Go.Proofs.Ytppgecbjdkfohaa
