/- Events: GreatSchemas; schemas that came in; cells that are held. -/
import Derived.Test.YtppgecbjdkfohaaENe
import Derived.Test.YtppgecbjdkfohaaEGe
namespace Go.Proofs.Ytppgecbjdkfohaa
open Go.RowKit Go.Lib Go.Op

set_option maxHeartbeats 4000000 in
set_option maxRecDepth 100000 in
theorem greatS_calls (a : Option Addr) (c : Nat) (xs : List SIn) (w : World) (hv : SRow w a xs) (hl : xs.length ≤ maxLen) :
    Calls Try.prog 15 #[.slice a xs.length c] w (GreatP w) := by
  have HV := Lib.hid hv
  obtain ⟨l, hll⟩ : ∃ l, xs.length = l := ⟨_, rfl⟩
  rw [hll] at hl ⊢
  have Hl := Lib.hid hll
  unfold maxLen at hl
  clear hv hll
  go_enter Try.func15, Try.ntmps15
  go_wp2
  go_loopw [3, 4, 5] (fun n i j wr => ∃ (k : Nat) (m : Int), i = .int .i64 k ∧ k ≤ l ∧ n = .int .i64 m ∧ Hid (Below w.heap.size w wr)) (fun _ i _ _ => l - (intOf i).toNat)
  case atStart => exact ⟨0, _, rfl, Nat.zero_le _, rfl, Below.refl _ _⟩
  case round =>
    obtain ⟨k, m, rfl, hk, rfl, HB⟩ := hrel
    by_cases hlt : k < l
    · by_cases hm : m < 9000
      · obtain ⟨x, hx⟩ : ∃ x, xs[k]? = some x := ⟨_, List.getElem?_eq_getElem (by rw [Hl.out]; exact hlt)⟩
        obtain ⟨A, rfl, c0, c1, hfr, hfl, hs⟩ := (HV.out.below HB.out) k x hx
        obtain ⟨nm, fa, fc, fs⟩ := x
        dsimp only at c0 c1 hs hfr hfl
        unfold efld at c1
        have HFr := Lib.hid hfr
        obtain ⟨f, hff⟩ : ∃ f, fs.length = f := ⟨_, rfl⟩
        have Hf := Lib.hid hff
        rw [hff] at c1 hfl
        have hd : decide (m < 9000) = true := by simpa using hm
        have hk0 : (0 : Int) ≤ (k : Int) := by omega
        have hk1 : (k : Int) < (l : Int) := by omega
        unfold maxLen at hfl hs
        have Hx := Lib.hid hx
        clear hx hff hfr
        go_upto_region 5 with fail
        go_quiet (fail)
        go_wp2
        go_loopw [3, 5] (fun n j wr => ∃ (k2 : Nat) (m2 : Int), j = .int .i64 k2 ∧ k2 ≤ f ∧ n = .int .i64 m2 ∧ Hid (Below w.heap.size w wr)) (fun _ j _ => f - (intOf j).toNat)
        case atStart => exact ⟨0, _, rfl, Nat.zero_le _, rfl, vbelow_drewN HB.out _⟩
        case round =>
          obtain ⟨k2, m2, rfl, hk2, rfl, HB2⟩ := hrel
          clear c0 c1
          obtain ⟨A', e1, c0, c1, hfr2, _⟩ := (HV.out.below HB2.out) k _ Hx.out
          injection e1 with e1
          subst e1
          dsimp only at c0 c1 hfr2
          unfold efld at c1
          rw [Hf.out] at c1
          by_cases hlt2 : k2 < f
          · by_cases hm2 : m2 < 9000
            · obtain ⟨y, hy⟩ : ∃ y, fs[k2]? = some y := ⟨_, List.getElem?_eq_getElem (by rw [Hf.out]; exact hlt2)⟩
              obtain ⟨Bf, rfl, d0, d1, hs2⟩ := hfr2 k2 y hy
              have hd2 : decide (m2 < 9000) = true := by simpa using hm2
              have hj0 : (0 : Int) ≤ (k2 : Int) := by omega
              have hj1 : (k2 : Int) < (f : Int) := by omega
              clear hy hfr2
              unfold maxLen at hs2
              go_wp2
              go_roundw
              case rel => exact ⟨k2 + 1, _, by go_num, by omega, rfl, HB2⟩
              case measure => simp [intOf]; omega
            · have hd2 : decide (m2 < 9000) = false := by simpa using hm2
              clear hfr2
              go_wp2
              go_roundw
              case rel => exact ⟨k + 1, _, by go_num, by omega, rfl, HB2⟩
              case measure => simp [intOf]; omega
          · clear hfr2
            go_wp2
            go_roundw
            case rel => exact ⟨k + 1, _, by go_num, by omega, rfl, HB2⟩
            case measure => simp [intOf]; omega
      · have hd : decide (m < 9000) = false := by simpa using hm
        go_wp2
        go_ret
        exact ⟨_, rfl, HB.out⟩
    · go_wp2
      go_ret
      exact ⟨_, rfl, HB.out⟩

end Go.Proofs.Ytppgecbjdkfohaa
