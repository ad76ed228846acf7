/- The sum of a record: rest, step, Sum. -/
import Derived.Test.YtmecpgnmeefpjaaRows
import Derived.Test.YtmecpgnmeefpjaaF0
import Derived.WalkKit
import Derived.WalkSpells
import Derived.WalkLawsBesides
import Derived.ScopeJumps
import Derived.Lib.Hide
import Derived.Lib.Strings
namespace Go.Proofs.Ytmecpgnmeefpjaa
open Go.RowKit Go.Lib

def flOf : Value → Nat
  | .float _ b => ((floatToIntVal .f64 b .i64).getD 0).toNat
  | _ => 0

theorem flOf_fl {k : Nat} (h : k < 1024) : flOf (.float .f64 (fl k)) = k := by
  simp only [flOf, fl_back k h, Option.getD_some]
  omega

set_option maxHeartbeats 400000 in
theorem rest_calls (x m : Nat) (w : World) (hx : x < 1024) (hm : 0 < m) (hm2 : m < 1024) :
    Calls Try.prog 23 #[.float .f64 (fl x), .float .f64 (fl m)] w fun e w' => e = .returned (.float .f64 (fl (x % m))) ∧ w = w' := by
  go_enter Try.func23, Try.ntmps23
  go_wp2
  go_loop [0] (fun v => ∃ k : Nat, k < 1024 ∧ v = .float .f64 (fl k) ∧ Hid (k % m = x % m)) (fun v => flOf v)
  case atStart => exact ⟨x, hx, rfl, rfl⟩
  case round =>
    obtain ⟨k, hk, rfl, Hk⟩ := hrel
    by_cases hge : m ≤ k
    · have h0 := fl_geq k m hk hm2
      have h1 : (FloatKind.f64.format.order (fl k) (fl m) == some .gt || FloatKind.f64.format.order (fl k) (fl m) == some .eq) = true := by rw [h0]; simpa using hge
      have hs : ∀ w : World, (binOp .sub 42 (.float .f64 (fl k)) (.float .f64 (fl m))).run Try.prog w = .ok (.float .f64 (fl (k - m))) w := fun w => run_float_arith w .sub _ .f64 _ _ _ (fl_sub k m hk hge)
      clear h0
      go_wp2
      go_round
      case rel => exact ⟨k - m, by omega, rfl, (Nat.mod_eq_sub_mod hge).symm.trans Hk.out⟩
      case measure => rw [flOf_fl (by omega), flOf_fl hk]; omega
    · have h0 := fl_geq k m hk hm2
      have h1 : (FloatKind.f64.format.order (fl k) (fl m) == some .gt || FloatKind.f64.format.order (fl k) (fl m) == some .eq) = false := by rw [h0]; simpa using hge
      have h2 : x % m = k := by rw [← Hk.out]; exact Nat.mod_eq_of_lt (by omega)
      clear h0
      have H2 := Lib.hid h2
      clear h2
      go_wp2
      go_ret
      exact ⟨congrArg (fun n => Ending.returned (.float .f64 (fl n))) H2.out.symm, rfl⟩

/-- One byte more. -/
def sumStep (p : Nat × Nat) (c : UInt8) : Nat × Nat := ((p.1 + c.toNat + 1) % 251, (p.2 + (p.1 + c.toNat + 1) % 251) % 241)

theorem sumStep_lt (p : Nat × Nat) (c : UInt8) : (sumStep p c).1 < 251 ∧ (sumStep p c).2 < 241 := ⟨Nat.mod_lt _ (by omega), Nat.mod_lt _ (by omega)⟩

set_option maxHeartbeats 1000000 in
theorem step_calls (a b : Nat) (c : UInt8) (w : World) (ha : a < 251) (hb : b < 241) :
    Calls Try.prog 20 #[.complex .f64 (fl a) (fl b), .int .u8 c.toNat] w fun e w' => e = .returned (.complex .f64 (fl (sumStep (a, b) c).1) (fl (sumStep (a, b) c).2)) ∧ w = w' := by
  have hc : c.toNat < 256 := c.toNat_lt
  have e1 : floatOfInt .f64 ((c.toNat : Nat) : Int) = fl c.toNat := rfl
  have hs1 : ∀ w : World, (binOp .add 42 (.float .f64 (fl a)) (.float .f64 (floatOfInt .f64 ((c.toNat : Nat) : Int)))).run Try.prog w = .ok (.float .f64 (fl (a + c.toNat))) w := fun w => run_float_arith w .add _ .f64 _ _ _ (fl_add a c.toNat (by omega))
  have hs2 : ∀ w : World, (binOp .add 42 (.float .f64 (fl (a + c.toNat))) (.float .f64 4607182418800017408)).run Try.prog w = .ok (.float .f64 (fl (a + c.toNat + 1))) w := fun w => run_float_arith w .add _ .f64 _ _ _ (fl_one ▸ fl_add (a + c.toNat) 1 (by omega))
  have hr1 := rest_calls (a + c.toNat + 1) 251 w (by omega) (by omega) (by omega)
  rw [fl_251] at hr1
  obtain ⟨a', ha'⟩ : ∃ a', a' = (a + c.toNat + 1) % 251 := ⟨_, rfl⟩
  have hal : a' < 251 := by rw [ha']; exact Nat.mod_lt _ (by omega)
  have hs3 : ∀ w : World, (binOp .add 42 (.float .f64 (fl b)) (.float .f64 (fl a'))).run Try.prog w = .ok (.float .f64 (fl (b + a'))) w := fun w => run_float_arith w .add _ .f64 _ _ _ (fl_add b a' (by omega))
  have hr2 := rest_calls (b + a') 241 w (by omega) (by omega) (by omega)
  rw [fl_241] at hr2
  have e2 : sumStep (a, b) c = (a', (b + a') % 241) := by rw [ha']; rfl
  rw [e2]
  rw [← ha'] at hr1
  clear ha' e2 e1
  go_enter Try.func20, Try.ntmps20
  go_wp2_with fail
  refine hr1.mono ?_
  rintro e w1 ⟨rfl, rfl⟩
  go_wp2_with fail
  refine hr2.mono ?_
  rintro e w1 ⟨rfl, rfl⟩
  go_wp2_with fail
  go_ret
  exact ⟨rfl, rfl⟩

/-- Both numbers of a sum. -/
def sumP (l : List UInt8) : Nat × Nat := l.foldl sumStep (1, 1)
/-- A record's sum. -/
def sumN (l : List UInt8) : Nat := (sumP l).1 + 256 * (sumP l).2

theorem sumP_nil : sumP [] = (1, 1) := rfl
theorem sumP_snoc (l : List UInt8) (c : UInt8) : sumP (l ++ [c]) = sumStep (sumP l) c := by simp [sumP, List.foldl_append]
theorem foldl_lt : ∀ (l : List UInt8) (p : Nat × Nat), p.1 < 251 ∧ p.2 < 241 → (l.foldl sumStep p).1 < 251 ∧ (l.foldl sumStep p).2 < 241
  | [], _, h => h
  | c :: l, p, _ => foldl_lt l (sumStep p c) (sumStep_lt p c)
theorem sumP_lt (l : List UInt8) : (sumP l).1 < 251 ∧ (sumP l).2 < 241 := foldl_lt l (1, 1) ⟨by decide, by decide⟩
theorem sumN_lt (l : List UInt8) : sumN l < 65536 := by
  have := sumP_lt l
  unfold sumN
  omega

theorem take_snoc (s : ByteArray) (k : Nat) (h : k < s.size) : s.data.toList.take (k + 1) = s.data.toList.take k ++ [s[k]] := by
  rw [List.take_succ_eq_append_getElem (by simpa using h)]; rfl

set_option maxHeartbeats 1000000 in
theorem sum_calls (s : ByteArray) (w : World) (hs : s.size ≤ maxLen) :
    Calls Try.prog 12 #[.string s] w fun e w' => e = .returned (.int .i64 (sumN s.data.toList)) ∧ w = w' := by
  unfold maxLen at hs
  go_enter Try.func12, Try.ntmps12
  go_wp2
  refine wp_scope_jumps 0 (fun a' w' => w = w' ∧ ∃ (k a b : Nat) (u5 u6 u7 u8 u9 u10 u11 u12 u13 u14 u15 : Value), a' = { tmps := #[.string s, undef, .int .i64 0, .complex .f64 (fl a) (fl b), .int .i64 k, u5, u6, u7, u8, u9, u10, u11, u12, u13, u14, u15, undef, undef, undef, undef, undef, undef, undef, undef], defers := [] } ∧ k ≤ s.size ∧ Hid (sumP (s.data.toList.take k) = (a, b)) ∧ a < 251 ∧ b < 241) (fun a' _ => s.size - (intOf (a'.tmps.getD 4 undef)).toNat) rfl ?_ ?_
  · by_cases hlt : 0 < s.size
    · have hst := step_calls 1 1 s[0] w (by omega) (by omega)
      rw [fl_one] at hst
      have hp : sumP (s.data.toList.take 1) = ((sumStep (1, 1) s[0]).1, (sumStep (1, 1) s[0]).2) := by rw [take_snoc s 0 hlt, sumP_snoc]; rfl
      have Hp := Lib.hid hp
      have hl := sumStep_lt (1, 1) s[0]
      obtain ⟨hl1, hl2⟩ := hl
      clear hp
      go_wp2
      go_step3
      go_wp2_with fail
      refine hst.mono ?_
      rintro e w1 ⟨rfl, rfl⟩
      go_wp2_with fail
      go_step3
      exact ⟨rfl, rfl, 1, _, _, _, _, _, _, _, _, _, _, _, _, _, rfl, by omega, Hp, hl1, hl2⟩
    · have h0 : s.data.toList = [] := by
        have : s.data.toList.length = s.size := by simp
        exact List.eq_nil_of_length_eq_zero (by omega)
      have hn : sumN s.data.toList = 257 := by rw [h0]; rfl
      have hb : ∀ w : World, (convert 42 3 (.float .f64 4607182418800017408)).run Try.prog w = .ok (.int .i64 1) w := fun w => run_convert_float_int w _ _ _ .i64 _ _ (by kernel_rfl) Try.underlying3 (fl_one ▸ fl_back 1 (by omega))
      have Hn := Lib.hid hn
      clear hn h0
      go_wp2
      go_step3
      go_wp2
      simp only [Exit.jump]
      go_ret
      exact ⟨congrArg (fun n : Nat => Ending.returned (.int .i64 n)) Hn.out.symm, rfl⟩
  · rintro a' w' ⟨rfl, k, a, b, u5, u6, u7, u8, u9, u10, u11, u12, u13, u14, u15, rfl, hk, Hp, ha, hb⟩
    by_cases hlt : k < s.size
    · have hst := step_calls a b s[k] w ha hb
      have hp : sumP (s.data.toList.take (k + 1)) = ((sumStep (a, b) s[k]).1, (sumStep (a, b) s[k]).2) := by rw [take_snoc s k hlt, sumP_snoc, Hp.out]
      have Hp1 := Lib.hid hp
      have hl := sumStep_lt (a, b) s[k]
      obtain ⟨hl1, hl2⟩ := hl
      clear hp
      go_wp2_with fail
      refine hst.mono ?_
      rintro e w1 ⟨rfl, rfl⟩
      go_wp2_with fail
      go_step3
      refine ⟨rfl, ⟨rfl, k + 1, _, _, _, _, _, _, _, _, _, _, _, _, _, rfl, by omega, Hp1, hl1, hl2⟩, ?_⟩
      simp [intOf]
      omega
    · obtain rfl : k = s.size := by omega
      have hn : sumN s.data.toList = a + 256 * b := by
        have h1 := Hp.out
        rw [List.take_of_length_le (by simp)] at h1
        unfold sumN
        rw [h1]
      have hb1 : ∀ w : World, (convert 42 3 (.float .f64 (fl a))).run Try.prog w = .ok (.int .i64 a) w := fun w => run_convert_float_int w _ _ _ .i64 _ _ (by kernel_rfl) Try.underlying3 (fl_back a (by omega))
      have hb2 : ∀ w : World, (convert 42 3 (.float .f64 (fl b))).run Try.prog w = .ok (.int .i64 b) w := fun w => run_convert_float_int w _ _ _ .i64 _ _ (by kernel_rfl) Try.underlying3 (fl_back b (by omega))
      have Hn := Lib.hid hn
      clear hn
      go_wp2
      simp only [Exit.jump]
      go_ret
      exact ⟨by rw [Hn.out]; go_num, rfl⟩

end Go.Proofs.Ytmecpgnmeefpjaa
