/- Events: sign, Or of floats, Less. -/
import Derived.Test.YtppgecbjdkfohaaE1e
import Derived.Test.YtppgecbjdkfohaaV4
import Derived.Test.YtppgecbjdkfohaaF0
import Derived.Deep.RegionHeld
import Derived.Deep.DeepCutAuto
namespace Go.Proofs.Ytppgecbjdkfohaa
open Go.RowKit Go.Lib Go.Op

/-- A sign as a float. -/
def fsg (k : Int) := floatOfInt .f64 k

theorem sgn_cases (a b : Int) : cmpN a b = -1 ∨ cmpN a b = 0 ∨ cmpN a b = 1 := by
  rcases cmpN_cases a b with ⟨_, h⟩ | ⟨_, h⟩ | ⟨_, h⟩ <;> simp [h]

theorem fsg_lt {k : Int} (h : k = -1 ∨ k = 0 ∨ k = 1) : (FloatKind.f64.format.order (fsg k) 0 == some .lt) = decide (k < 0) := by
  rcases h with rfl | rfl | rfl <;> decide +kernel
theorem fsg_eq {k : Int} (h : k = -1 ∨ k = 0 ∨ k = 1) : (FloatKind.f64.format.order (fsg k) 0 == some .eq) = decide (k = 0) := by
  rcases h with rfl | rfl | rfl <;> decide +kernel

theorem fsg_ne {k : Int} (h : k = -1 ∨ k = 0 ∨ k = 1) : (FloatKind.f64.format.order (fsg k) 0 != some .eq) = !decide (k = 0) := by
  rcases h with rfl | rfl | rfl <;> decide +kernel

set_option maxRecDepth 100000 in
theorem esign_calls (a b : Int) (w : World) : Calls Try.prog 66 #[.int .i64 a, .int .i64 b] w fun e w' => e = .returned (.float .f64 (fsg (cmpN a b))) ∧ w = w' := by
  have hc := fun W => cmpN_calls a b W
  unfold fsg
  generalize cmpN a b = k at hc ⊢
  go_enter Try.func66, Try.ntmps66
  go_wp2_with (go_at_call 89; refine (hc _).mono ?_; rintro e w' ⟨rfl, rfl⟩)
  go_ret
  exact ⟨rfl, rfl⟩

set_option maxRecDepth 100000 in
theorem eor_calls (x y : Int) (b c : Nat) (w : World) (hx1 : x = -1 ∨ x = 0 ∨ x = 1) (hy1 : y = -1 ∨ y = 0 ∨ y = 1) (hx : w.cell? ⟨b, 0, none⟩ = some (.float .f64 (fsg x))) (hy : w.cell? ⟨b, 1, none⟩ = some (.float .f64 (fsg y))) :
    Calls Try.prog 67 #[.slice (some ⟨b, 0, none⟩) 2 c] w fun e w' => e = .returned (.float .f64 (fsg (if x ≠ 0 then x else y))) ∧ w = w' := by
  have e0 : fsg 0 = 0 := by decide +kernel
  have fx := fsg_ne hx1
  have fy := fsg_ne hy1
  by_cases h : x = 0
  · rw [if_neg (fun e => e h)]
    rw [decide_eq_true h, Bool.not_true] at fx
    generalize hA : fsg x = A at hx fx
    by_cases h2 : y = 0
    · rw [decide_eq_true h2, Bool.not_true] at fy
      rw [h2, e0]
      generalize hB : fsg y = B at hy fy
      clear h h2 hx1 hy1 hA hB
      go_enter Try.func67, Try.ntmps67
      go_wp2
      go_loop [8] (fun i => ∃ k : Nat, k ≤ 2 ∧ i = .int .i64 k) (fun i => 2 - (intOf i).toNat)
      case atStart => exact ⟨0, by omega, rfl⟩
      case round =>
        obtain ⟨k, hk, rfl⟩ := hrel
        obtain rfl | rfl | rfl : k = 0 ∨ k = 1 ∨ k = 2 := by omega
        · go_wp2
          go_round
          case rel => exact ⟨1, by omega, by go_num⟩
          case measure => simp [intOf]
        · go_wp2
          go_round
          case rel => exact ⟨2, by omega, by go_num⟩
          case measure => simp [intOf]
        · go_wp2
          go_ret
          exact ⟨rfl, rfl⟩
    · rw [decide_eq_false h2, Bool.not_false] at fy
      generalize fsg y = B at hy fy ⊢
      clear h h2 hx1 hy1 hA
      go_enter Try.func67, Try.ntmps67
      go_wp2
      go_loop [8] (fun i => ∃ k : Nat, k ≤ 1 ∧ i = .int .i64 k) (fun i => 2 - (intOf i).toNat)
      case atStart => exact ⟨0, by omega, rfl⟩
      case round =>
        obtain ⟨k, hk, rfl⟩ := hrel
        obtain rfl | rfl : k = 0 ∨ k = 1 := by omega
        · go_wp2
          go_round
          case rel => exact ⟨1, by omega, by go_num⟩
          case measure => simp [intOf]
        · go_wp2
          go_ret
          exact ⟨rfl, rfl⟩
  · rw [if_pos h]
    rw [decide_eq_false h, Bool.not_false] at fx
    generalize fsg x = A at hx fx ⊢
    clear h hx1 hy1 fy
    go_enter Try.func67, Try.ntmps67
    go_wp2
    go_loop [8] (fun i => i = .int .i64 0) (fun i => 2 - (intOf i).toNat)
    case atStart => exact rfl
    case round =>
      subst hrel
      go_wp2
      go_ret
      exact ⟨rfl, rfl⟩

theorem ekeepAl {W : World} {p : Addr} {v : Value} (o : Obj) (h : W.cell? p = some v) : (W.alloc o).cell? p = some v := (World.cell?_alloc_lt _ _ _ (World.block_lt_of_cell? _ _ h)).trans h

theorem ekeepAd {W : World} {p : Addr} {v : Value} (o : Obj) (h : W.drew.cell? p = some v) : ((W.alloc o).drew).cell? p = some v := (World.cell?_alloc_lt _ _ _ (World.block_lt_of_cell? W _ h)).trans h

/-- An event, as the model has it. -/
abbrev evV (t d s : Int) (n : ByteArray) (v : Value) : Value := .agg #[.int .i64 t, .int .i64 d, .int .i64 s, .string n, v]

theorem cmpN_lt {a b : Int} (h : a < b) : cmpN a b = -1 := by
  rcases cmpN_cases a b with ⟨h1, h2⟩ | ⟨h1, h2⟩ | ⟨h1, h2⟩
  · exact h2
  · omega
  · omega
theorem cmpN_gt {a b : Int} (h : b < a) : cmpN a b = 1 := by
  rcases cmpN_cases a b with ⟨h1, h2⟩ | ⟨h1, h2⟩ | ⟨h1, h2⟩
  · omega
  · exact h2
  · omega
theorem cmpN_eq {a b : Int} (h : a = b) : cmpN a b = 0 := by
  rcases cmpN_cases a b with ⟨h1, h2⟩ | ⟨h1, h2⟩ | ⟨h1, h2⟩
  · omega
  · omega
  · exact h2

theorem lessE_lt {t d s t' d' s' : Int} (h : t < t') : lessE t d s t' d' s' = true := decide_eq_true (.inl h)
theorem lessE_gt {t d s t' d' s' : Int} (h : t' < t) : lessE t d s t' d' s' = false := decide_eq_false (by omega)
theorem lessE_eq {t d s t' d' s' z : Int} (h : t = t') (hz : (if cmpN d d' ≠ 0 then cmpN d d' else cmpN s s') = z) : lessE t d s t' d' s' = decide (z < 0) := by
  rw [← hz]
  unfold lessE
  rcases Int.lt_trichotomy d d' with h1 | h1 | h1
  · rw [cmpN_lt h1, if_pos (by decide), decide_eq_true (by omega)]; rfl
  · rw [cmpN_eq h1, if_neg (by decide)]
    rcases Int.lt_trichotomy s s' with h2 | h2 | h2
    · rw [cmpN_lt h2, decide_eq_true (by omega)]; rfl
    · rw [cmpN_eq h2, decide_eq_false (by omega)]; rfl
    · rw [cmpN_gt h2, decide_eq_false (by omega)]; rfl
  · rw [cmpN_gt h1, if_pos (by decide), decide_eq_false (by omega)]; rfl

set_option maxHeartbeats 4000000 in
set_option maxRecDepth 100000 in
theorem less_calls (t d s : Int) (n : ByteArray) (v : Value) (t' d' s' : Int) (n' : ByteArray) (v' : Value) (w : World) :
    Calls Try.prog 33 #[evV t d s n v, evV t' d' s' n' v'] w fun e w' => e = .returned (.bool (lessE t d s t' d' s')) ∧ Below w.heap.size w w' := by
  have S1 := Lib.hid (fun W => esign_calls d d' W)
  have S2 := Lib.hid (fun W => esign_calls t t' W)
  have S3 := Lib.hid (fun W => esign_calls s s' W)
  have c1 := sgn_cases d d'
  have c2 := sgn_cases t t'
  have c3 := sgn_cases s s'
  go_enter Try.func33, Try.ntmps33
  go_upto_region 2 with (go_at_call 66; refine (S1.out _).mono ?_; rintro e w' ⟨rfl, rfl⟩)
  obtain ⟨W2, hW2⟩ : ∃ W2, W2 = (w.alloc (.cells #[.int .i64 t, .int .i64 d, .int .i64 s, .string n, v] 25)).alloc (.cells #[.int .i64 t', .int .i64 d', .int .i64 s', .string n', v'] 25) := ⟨_, rfl⟩
  have HB2 : Hid (Below w.heap.size w W2) := by show Below _ _ _; rw [hW2]; repeat' (first | exact Below.refl _ _ | refine Below.alloc ?_ (by simp <;> omega) _)
  have a0 : W2.drew.cell? ⟨w.heap.size, 0, none⟩ = some (.int .i64 t) := by rw [hW2]; simp
  have a2 : W2.drew.cell? ⟨w.heap.size, 2, none⟩ = some (.int .i64 s) := by rw [hW2]; simp
  have b0 : W2.drew.cell? ⟨w.heap.size + 1, 0, none⟩ = some (.int .i64 t') := by rw [hW2]; simp
  have b2 : W2.drew.cell? ⟨w.heap.size + 1, 2, none⟩ = some (.int .i64 s') := by rw [hW2]; simp
  rw [← hW2]
  clear hW2
  have HO : Hid (Calls Try.prog 67 #[.slice (some ⟨W2.heap.size, 0, none⟩) 2 2] ((W2.alloc (.cells #[.float .f64 (fsg (cmpN d d')), .float .f64 (fsg (cmpN s s'))] 96)).drew) fun e w' => e = .returned (.float .f64 (fsg (if cmpN d d' ≠ 0 then cmpN d d' else cmpN s s'))) ∧ (W2.alloc (.cells #[.float .f64 (fsg (cmpN d d')), .float .f64 (fsg (cmpN s s'))] 96)).drew = w') :=
    eor_calls _ _ _ _ ((W2.alloc (.cells #[.float .f64 (fsg (cmpN d d')), .float .f64 (fsg (cmpN s s'))] 96)).drew) c1 c3 (by show (W2.alloc _).cell? _ = _; simp) (by show (W2.alloc _).cell? _ = _; simp)
  obtain ⟨z, hz⟩ : ∃ z, (if cmpN d d' ≠ 0 then cmpN d d' else cmpN s s') = z := ⟨_, rfl⟩
  rw [hz] at HO
  have hz3 : z = -1 ∨ z = 0 ∨ z = 1 := by rw [← hz]; split <;> assumption
  have Hz := Lib.hid hz
  obtain ⟨A, hA⟩ : ∃ A, fsg (cmpN t t') = A := ⟨_, rfl⟩
  obtain ⟨Bz, hBz⟩ : ∃ B, fsg z = B := ⟨_, rfl⟩
  have hA1 := fsg_lt c2
  have hA2 := fsg_eq c2
  have hB1 := fsg_lt hz3
  rw [hA] at S2 hA1 hA2
  rw [hBz] at HO hB1
  clear S1 hz hz3 c1 c2 c3 hA hBz
  go_region_held3 (fun W => W.cell? ⟨w.heap.size, 0, none⟩ = some (.int .i64 t) ∧ W.cell? ⟨w.heap.size, 2, none⟩ = some (.int .i64 s) ∧ W.cell? ⟨w.heap.size + 1, 0, none⟩ = some (.int .i64 t') ∧ W.cell? ⟨w.heap.size + 1, 2, none⟩ = some (.int .i64 s'))
    (first | (refine ⟨?_, ?_, ?_, ?_⟩ <;> with_reducible assumption) | ((with_reducible refine ⟨ekeepAl _ ?_, ekeepAl _ ?_, ekeepAl _ ?_, ekeepAl _ ?_⟩) <;> with_reducible assumption) | ((with_reducible refine ⟨ekeepAd _ ?_, ekeepAd _ ?_, ekeepAd _ ?_, ekeepAd _ ?_⟩) <;> with_reducible assumption))
    (first
      | (go_at_call 66; (with_reducible refine (S2.out _).mono ?_); rintro e w' ⟨rfl, rfl⟩)
      | (go_at_call 66; (with_reducible refine (S3.out _).mono ?_); rintro e w' ⟨rfl, rfl⟩)
      | (go_at_call 67; refine HO.out.mono ?_; rintro e w' ⟨rfl, rfl⟩))
  all_goals
    clear S2 S3 HO a0 a2 b0 b2
    rcases Int.lt_trichotomy t t' with h1 | h1 | h1
    · rw [cmpN_lt h1] at hA1 hA2
      have e1 : (FloatKind.f64.format.order A 0 == some .lt) = true := hA1
      clear hA1 hA2 hB1
      go_wp2
      go_ret
      exact ⟨vret_bool (lessE_lt h1).symm, vbelow_drew (HB2.out.alloc HB2.out.size _)⟩
    · rw [cmpN_eq h1] at hA1 hA2
      have e1 : (FloatKind.f64.format.order A 0 == some .lt) = false := hA1
      have e2 : (FloatKind.f64.format.order A 0 == some .eq) = true := hA2
      have HB1 := Lib.hid hB1.symm
      clear hA1 hA2 hB1
      go_wp2
      go_ret
      exact ⟨vret_bool (HB1.out.symm.trans (lessE_eq h1 Hz.out).symm), vbelow_drew (HB2.out.alloc HB2.out.size _)⟩
    · rw [cmpN_gt h1] at hA1 hA2
      have e1 : (FloatKind.f64.format.order A 0 == some .lt) = false := hA1
      have e2 : (FloatKind.f64.format.order A 0 == some .eq) = false := hA2
      clear hA1 hA2 hB1
      go_wp2
      go_ret
      exact ⟨vret_bool (lessE_gt h1).symm, vbelow_drew (HB2.out.alloc HB2.out.size _)⟩

end Go.Proofs.Ytppgecbjdkfohaa
