/- Events: letter, number, Word. | Values: the sign of two. | Events: sign, Or of floats, Less. | Events: rows of values; right. | Events: right. | Events: rows of fields and of schemas; place, Field. | Events: EqualFunc of values and fields; Fits. -/
import Derived.Test.YtfmlgckfcclojaaM0
import Derived.Lib.ConvBytes
import Derived.Deep.QuietTactic
import Derived.BigQuiet
import Derived.IntWalk
import Derived.Deep.RegionHeld3
import Derived.Deep.RegionLaw
import Derived.Deep.RegionHeld
import Derived.Deep.DeepCutAuto
namespace Go.Proofs.Ytfmlgckfcclojaa
open Go.RowKit Go.Lib Go.Op

set_option maxRecDepth 100000 in
theorem letter_calls (n : Nat) (w : World) (hn : n < 256) : Calls Try.prog 60 #[.int .u8 n] w fun e w' => e = .returned (.bool (decide (97 ≤ n ∧ n ≤ 122))) ∧ w = w' := by
  by_cases h1 : 97 ≤ n
  all_goals
    go_enter Try.func60, Try.ntmps60
    go_wp2
    go_ret
    exact ⟨vret_bool (by first | (simp; done) | (simp; omega) | (rw [Bool.eq_iff_iff]; simp; omega)), rfl⟩

set_option maxRecDepth 100000 in
theorem number_calls' (n : Int) (w : World) : Calls Try.prog 79 #[.int .i64 n] w fun e w' => e = .returned (.bool (numB n)) ∧ w = w' := by
  unfold numB
  by_cases h1 : 0 ≤ n
  all_goals
    go_enter Try.func79, Try.ntmps79
    go_wp2
    go_ret
    exact ⟨vret_bool (by first | (simp; done) | (simp; omega) | (rw [Bool.eq_iff_iff]; simp; omega)), rfl⟩

theorem wordB_not {l : List UInt8} {k : Nat} {c : UInt8} (hk : l[k]? = some c) (h : charB c = false) : wordB l = false := by
  cases l with
  | nil => rfl
  | cons x t =>
    cases k with
    | zero =>
      have e : x = c := by simpa using hk
      subst e
      have : letterB x = false := by
        unfold charB at h
        simp only [Bool.or_eq_false_iff] at h
        exact h.1
      simp [wordB, this]
    | succ k =>
      have : t.all charB = false := by
        rw [List.all_eq_false]
        exact ⟨c, List.mem_of_getElem? (by simpa using hk), by simp [h]⟩
      simp [wordB, this]

theorem wordB_yes {l : List UInt8} {c : UInt8} (h0 : l[0]? = some c) (hc : letterB c = true) (hl : l.length ≤ 16) (ha : ∀ (k : Nat) (x : UInt8), l[k]? = some x → charB x = true) : wordB l = true := by
  cases l with
  | nil => cases h0
  | cons x t =>
    have e : x = c := by simpa using h0
    subst e
    have : t.all charB = true := by
      rw [List.all_eq_true]
      intro y hy
      obtain ⟨j, hj, rfl⟩ := List.mem_iff_getElem.1 hy
      exact ha (j + 1) _ (by simp [hj])
    simp only [List.length_cons] at hl
    simp only [wordB, hc, this, Bool.true_and, Bool.and_true, decide_eq_true_eq]
    omega

theorem wordB_long {l : List UInt8} (h : 16 < l.length) : wordB l = false := by
  cases hw : wordB l with
  | false => rfl
  | true => have := wordB_len hw; omega
theorem wordB_first {l : List UInt8} {c : UInt8} (h0 : l[0]? = some c) (hc : letterB c = false) : wordB l = false := by
  cases l with
  | nil => rfl
  | cons x t =>
    have e : x = c := by simpa using h0
    subst e
    simp [wordB, hc]

/-- So far all are a word's. -/
def CharsTo (l : List UInt8) (k : Nat) : Prop := ∀ j x, j < k → l[j]? = some x → charB x = true

theorem CharsTo.step {l : List UInt8} {k : Nat} (h : CharsTo l k) {c : UInt8} (hk : l[k]? = some c) (hc : charB c = true) : CharsTo l (k + 1) := fun j x hj hx => by
  by_cases e : j = k
  · subst e
    rw [hk] at hx
    injection hx with hx
    rw [← hx]; exact hc
  · exact h j x (by omega) hx

theorem charB_of {c : UInt8} : charB c = (decide (97 ≤ c.toNat ∧ c.toNat ≤ 122) || (decide (c.toNat = 95) || decide (48 ≤ c.toNat ∧ c.toNat ≤ 57))) := rfl

/-- A string's bytes, in a row of their own. -/
theorem conv_bytes (w : World) (s : ByteArray) : ∃ (W : World) (c : Nat), (convert 9 40 (.string s)).run Try.prog w = .ok (.slice (some ⟨w.heap.size, 0, none⟩) s.size c) W ∧ Below w.heap.size w W ∧ ∀ j x, s.data.toList[j]? = some x → W.cell? ⟨w.heap.size, j, none⟩ = some (.int .u8 x.toNat) := by
  refine ⟨_, _, Go.Lib.run_convert_string_bytes w 9 40 5 s Try.underlying9 Try.underlying40 Try.underlying5, ⟨?_, ?_, ?_, by rw [bytesWorld_size]; omega, fun q hq => bytesWorld_at_old w _ s q hq⟩, fun j x hx => ?_⟩
  · simp [bytesWorld, World.freeze, World.alloc, World.drew, -World.alloc_eq, -World.drew_eq]
  · simp [bytesWorld, World.freeze, World.alloc, World.drew, -World.alloc_eq, -World.drew_eq]
  · simp [bytesWorld, World.freeze, World.alloc, World.drew, -World.alloc_eq, -World.drew_eq]
  · have hj : j < s.size := by
      have := (List.getElem?_eq_some_iff.1 hx).1
      simpa using this
    rw [bytesWorld_cell w _ s j hj]
    simp [List.getD, hx]

set_option maxHeartbeats 2000000 in
set_option maxRecDepth 100000 in
theorem word_calls (s : ByteArray) (w : World) (hs : s.size ≤ maxLen) :
    Calls Try.prog 28 #[.string s] w fun e w' => e = .returned (.bool (wordB s.data.toList)) ∧ Below w.heap.size w w' := by
  unfold maxLen at hs
  have hsl : s.data.toList.length = s.size := by simp
  by_cases h0 : s.size = 0
  · obtain rfl : s = ⟨#[]⟩ := vempty (List.eq_nil_of_length_eq_zero (by omega))
    clear hsl hs
    go_enter Try.func28, Try.ntmps28
    go_wp2
    go_ret
    exact ⟨rfl, Below.refl _ _⟩
  have hse : s.data.toList ≠ [] := fun e => by rw [e] at hsl; simp at hsl; omega
  have ha : (s.toList == []) = false := by rw [beq_eq_false_iff_ne, vtoL]; exact hse
  have hb : (!s.toList.isEmpty) = true := by rw [vtoL]; simpa using hse
  have hc : s.toList.isEmpty = false := by rw [vtoL]; simpa using hse
  by_cases h16 : 16 < s.size
  · have hf : wordB s.data.toList = false := wordB_long (by omega)
    rw [hf]
    clear hf hse
    go_enter Try.func28, Try.ntmps28
    go_wp2
    go_ret
    exact ⟨rfl, Below.refl _ _⟩
  have h00 : 0 < s.size := by omega
  have hfst : s.data.toList[0]? = some s[0] := by
    rw [List.getElem?_eq_getElem (by omega)]
    rfl
  obtain ⟨c0, hc0⟩ : ∃ c0, s[0] = c0 := ⟨_, rfl⟩
  rw [hc0] at hfst
  have hc8 := c0.toNat_lt
  have Hfst := Lib.hid hfst
  have Hsl := Lib.hid hsl
  cases hl : letterB c0 with
  | false =>
    rw [wordB_first hfst hl]
    have hl' : decide (97 ≤ c0.toNat ∧ c0.toNat ≤ 122) = false := hl
    have HL : Hid (∀ W, Calls Try.prog 60 #[.int .u8 c0.toNat] W fun e w' => e = .returned (.bool false) ∧ W = w') := fun W => hl' ▸ letter_calls c0.toNat W hc8
    clear hfst hl hl' hse hsl
    go_enter Try.func28, Try.ntmps28
    go_wp2_with (go_at_call 60; (first | (refine (HL.out _).mono ?_) | (rw [hc0]; refine (HL.out _).mono ?_)); rintro e wq ⟨rfl, rfl⟩)
    go_ret
    exact ⟨rfl, Below.refl _ _⟩
  | true =>
    have hl' : decide (97 ≤ c0.toNat ∧ c0.toNat ≤ 122) = true := hl
    have HL : Hid (∀ W, Calls Try.prog 60 #[.int .u8 c0.toNat] W fun e w' => e = .returned (.bool true) ∧ W = w') := fun W => hl' ▸ letter_calls c0.toNat W hc8
    have Hl0 := Lib.hid hl
    obtain ⟨W, c, hcv, hbW, hcell⟩ := conv_bytes w s
    have HC := Lib.hid hcell
    have HB := Lib.hid hbW
    have H0 : Hid (CharsTo s.data.toList 0) := fun j x hj => by omega
    clear hfst hl hl' hse hsl hcell hbW
    go_enter Try.func28, Try.ntmps28
    go_wp2_with (go_at_call 60; (first | (refine (HL.out _).mono ?_) | (rw [hc0]; refine (HL.out _).mono ?_)); rintro e wq ⟨rfl, rfl⟩)
    go_loop [4, 21] (fun x i => ∃ k : Nat, i = .int .i64 k ∧ k ≤ s.size ∧ Hid (CharsTo s.data.toList k)) (fun _ i => 16 - (intOf i).toNat)
    case atStart => exact ⟨0, rfl, Nat.zero_le _, H0⟩
    case round =>
      obtain ⟨k, rfl, hk, HK⟩ := hrel
      by_cases hlt : k < s.size
      · obtain ⟨x, hx⟩ : ∃ x, s.data.toList[k]? = some x := ⟨_, List.getElem?_eq_getElem (by rw [Hsl.out]; exact hlt)⟩
        have hcx := HC.out k x hx
        have Hx := Lib.hid hx
        have hx8 := x.toNat_lt
        have HLx := fun W => letter_calls x.toNat W hx8
        have hstep := fun hch : charB x = true => Lib.hid (HK.out.step hx hch)
        have hfail := fun hch : charB x = false => Lib.hid (wordB_not hx hch)
        rw [charB_of] at hstep hfail
        clear hx
        generalize x.toNat = n at *
        have go1 : ∀ (_ : n = 95 ∨ (48 ≤ n ∧ n ≤ 57) ∨ (97 ≤ n ∧ n ≤ 122)), Hid (CharsTo s.data.toList (k + 1)) := fun h => hstep (by simp; omega)
        have go0 : ∀ (_ : ¬ n = 95) (_ : ¬ (48 ≤ n ∧ n ≤ 57)) (_ : ¬ (97 ≤ n ∧ n ≤ 122)), Hid (wordB s.data.toList = false) := fun h1 h2 h3 => hfail (by simp; omega)
        clear hstep hfail
        by_cases a1 : 97 ≤ n ∧ n ≤ 122
        · have hst := go1 (.inr (.inr a1))
          have HLb : Hid (∀ W, Calls Try.prog 60 #[.int .u8 n] W fun e w' => e = .returned (.bool true) ∧ W = w') := fun W => by have := HLx W; rwa [decide_eq_true a1] at this
          clear go1 go0 HLx
          go_wp2_with (go_at_call 60; refine (HLb.out _).mono ?_; rintro e wq ⟨rfl, rfl⟩)
          go_round
          case rel => exact ⟨k + 1, by go_num, by omega, hst⟩
          case measure => simp [intOf]; omega
        have HLb : Hid (∀ W, Calls Try.prog 60 #[.int .u8 n] W fun e w' => e = .returned (.bool false) ∧ W = w') := fun W => by have := HLx W; rwa [decide_eq_false a1] at this
        clear HLx
        by_cases a2 : n = 95
        · have hst := go1 (.inl a2)
          subst a2
          clear go1 go0
          go_wp2_with (go_at_call 60; refine (HLb.out _).mono ?_; rintro e wq ⟨rfl, rfl⟩)
          go_round
          case rel => exact ⟨k + 1, by go_num, by omega, hst⟩
          case measure => simp [intOf]; omega
        have a5 : ((n : Int) != 95) = true := by rw [bne_iff_ne]; omega
        by_cases a3 : n < 48
        · have hst := go0 a2 (by omega) a1
          clear go1 go0
          go_wp2_with (go_at_call 60; refine (HLb.out _).mono ?_; rintro e wq ⟨rfl, rfl⟩)
          go_ret
          exact ⟨vret_bool hst.out.symm, HB.out⟩
        by_cases a4 : 57 < n
        · have hst := go0 a2 (by omega) a1
          clear go1 go0
          go_wp2_with (go_at_call 60; refine (HLb.out _).mono ?_; rintro e wq ⟨rfl, rfl⟩)
          go_ret
          exact ⟨vret_bool hst.out.symm, HB.out⟩
        · have hst := go1 (.inr (.inl ⟨by omega, by omega⟩))
          clear go1 go0
          go_wp2_with (go_at_call 60; refine (HLb.out _).mono ?_; rintro e wq ⟨rfl, rfl⟩)
          go_round
          case rel => exact ⟨k + 1, by go_num, by omega, hst⟩
          case measure => simp [intOf]; omega
      · have hyes := Lib.hid (wordB_yes Hfst.out Hl0.out (by rw [Hsl.out]; omega) fun j x hx => HK.out j x (by have := (List.getElem?_eq_some_iff.1 hx).1; rw [Hsl.out] at this; omega) hx)
        go_wp2
        go_ret
        exact ⟨vret_bool hyes.out.symm, HB.out⟩

end Go.Proofs.Ytfmlgckfcclojaa
namespace Go.Proofs.Ytfmlgckfcclojaa
open Go.RowKit Go.Lib Go.Op

theorem vbelow_drewN {w w' : World} (h : Below w.heap.size w w') (n : Nat) : Below w.heap.size w (w'.drewN n) := ⟨h.os, h.tape, h.output, h.size, h.block⟩
theorem vbelow_drew {w w' : World} (h : Below w.heap.size w w') : Below w.heap.size w w'.drew := ⟨h.os, h.tape, h.output, h.size, h.block⟩

/-- The parts of a value, as the model has it. -/
abbrev aggV (k n : Int) (s : ByteArray) : Value := .agg #[.int .i64 k, .int .i64 n, .string s]
def cellsV (k n : Int) (s : ByteArray) : Obj := .cells #[.int .i64 k, .int .i64 n, .string s] 52

def SignPost (w : World) (z : Int) (e : Ending) (w' : World) : Prop := e = .returned (.int .i64 z) ∧ Below w.heap.size w w'

end Go.Proofs.Ytfmlgckfcclojaa
namespace Go.Proofs.Ytfmlgckfcclojaa
open Go.RowKit Go.Lib Go.Op

/-- A sign as a float. -/
def fsg (k : Int) := floatOfInt .f64 k

theorem sgn_cases (a b : Int) : cmpN a b = -1 ∨ cmpN a b = 0 ∨ cmpN a b = 1 := by
  rcases cmpN_cases a b with ⟨_, h⟩ | ⟨_, h⟩ | ⟨_, h⟩ <;> simp [h]

theorem fsg_lt {k : Int} (h : k = -1 ∨ k = 0 ∨ k = 1) : (FloatKind.f64.format.order (fsg k) 0 == some .lt) = decide (k < 0) := by
  rcases h with rfl | rfl | rfl <;> decide +kernel
theorem fsg_eq {k : Int} (h : k = -1 ∨ k = 0 ∨ k = 1) : (FloatKind.f64.format.order (fsg k) 0 == some .eq) = decide (k = 0) := by
  rcases h with rfl | rfl | rfl <;> decide +kernel

theorem fsg_ne {k : Int} (h : k = -1 ∨ k = 0 ∨ k = 1) : (FloatKind.f64.format.order (fsg k) 0 != some .eq) = !decide (k = 0) := by
  rcases h with rfl | rfl | rfl <;> decide +kernel

set_option maxRecDepth 100000 in
theorem esign_calls (a b : Int) (w : World) : Calls Try.prog 66 #[.int .i64 a, .int .i64 b] w fun e w' => e = .returned (.float .f64 (fsg (cmpN a b))) ∧ w = w' := by
  have hc := fun W => cmpN_calls a b W
  unfold fsg
  generalize cmpN a b = k at hc ⊢
  go_enter Try.func66, Try.ntmps66
  go_wp2_with (go_at_call 89; refine (hc _).mono ?_; rintro e w' ⟨rfl, rfl⟩)
  go_ret
  exact ⟨rfl, rfl⟩

set_option maxRecDepth 100000 in
theorem eor_calls (x y : Int) (b c : Nat) (w : World) (hx1 : x = -1 ∨ x = 0 ∨ x = 1) (hy1 : y = -1 ∨ y = 0 ∨ y = 1) (hx : w.cell? ⟨b, 0, none⟩ = some (.float .f64 (fsg x))) (hy : w.cell? ⟨b, 1, none⟩ = some (.float .f64 (fsg y))) :
    Calls Try.prog 67 #[.slice (some ⟨b, 0, none⟩) 2 c] w fun e w' => e = .returned (.float .f64 (fsg (if x ≠ 0 then x else y))) ∧ w = w' := by
  have e0 : fsg 0 = 0 := by decide +kernel
  have fx := fsg_ne hx1
  have fy := fsg_ne hy1
  by_cases h : x = 0
  · rw [if_neg (fun e => e h)]
    rw [decide_eq_true h, Bool.not_true] at fx
    generalize hA : fsg x = A at hx fx
    by_cases h2 : y = 0
    · rw [decide_eq_true h2, Bool.not_true] at fy
      rw [h2, e0]
      generalize hB : fsg y = B at hy fy
      clear h h2 hx1 hy1 hA hB
      go_enter Try.func67, Try.ntmps67
      go_wp2
      go_loop [8] (fun i => ∃ k : Nat, k ≤ 2 ∧ i = .int .i64 k) (fun i => 2 - (intOf i).toNat)
      case atStart => exact ⟨0, by omega, rfl⟩
      case round =>
        obtain ⟨k, hk, rfl⟩ := hrel
        obtain rfl | rfl | rfl : k = 0 ∨ k = 1 ∨ k = 2 := by omega
        · go_wp2
          go_round
          case rel => exact ⟨1, by omega, by go_num⟩
          case measure => simp [intOf]
        · go_wp2
          go_round
          case rel => exact ⟨2, by omega, by go_num⟩
          case measure => simp [intOf]
        · go_wp2
          go_ret
          exact ⟨rfl, rfl⟩
    · rw [decide_eq_false h2, Bool.not_false] at fy
      generalize fsg y = B at hy fy ⊢
      clear h h2 hx1 hy1 hA
      go_enter Try.func67, Try.ntmps67
      go_wp2
      go_loop [8] (fun i => ∃ k : Nat, k ≤ 1 ∧ i = .int .i64 k) (fun i => 2 - (intOf i).toNat)
      case atStart => exact ⟨0, by omega, rfl⟩
      case round =>
        obtain ⟨k, hk, rfl⟩ := hrel
        obtain rfl | rfl : k = 0 ∨ k = 1 := by omega
        · go_wp2
          go_round
          case rel => exact ⟨1, by omega, by go_num⟩
          case measure => simp [intOf]
        · go_wp2
          go_ret
          exact ⟨rfl, rfl⟩
  · rw [if_pos h]
    rw [decide_eq_false h, Bool.not_false] at fx
    generalize fsg x = A at hx fx ⊢
    clear h hx1 hy1 fy
    go_enter Try.func67, Try.ntmps67
    go_wp2
    go_loop [8] (fun i => i = .int .i64 0) (fun i => 2 - (intOf i).toNat)
    case atStart => exact rfl
    case round =>
      subst hrel
      go_wp2
      go_ret
      exact ⟨rfl, rfl⟩

theorem ekeepAl {W : World} {p : Addr} {v : Value} (o : Obj) (h : W.cell? p = some v) : (W.alloc o).cell? p = some v := (World.cell?_alloc_lt _ _ _ (World.block_lt_of_cell? _ _ h)).trans h

theorem ekeepAd {W : World} {p : Addr} {v : Value} (o : Obj) (h : W.drew.cell? p = some v) : ((W.alloc o).drew).cell? p = some v := (World.cell?_alloc_lt _ _ _ (World.block_lt_of_cell? W _ h)).trans h

/-- An event, as the model has it. -/
abbrev evV (t d s : Int) (n : ByteArray) (v : Value) : Value := .agg #[.int .i64 t, .int .i64 d, .int .i64 s, .string n, v]

theorem cmpN_lt {a b : Int} (h : a < b) : cmpN a b = -1 := by
  rcases cmpN_cases a b with ⟨h1, h2⟩ | ⟨h1, h2⟩ | ⟨h1, h2⟩
  · exact h2
  · omega
  · omega
theorem cmpN_gt {a b : Int} (h : b < a) : cmpN a b = 1 := by
  rcases cmpN_cases a b with ⟨h1, h2⟩ | ⟨h1, h2⟩ | ⟨h1, h2⟩
  · omega
  · exact h2
  · omega
theorem cmpN_eq {a b : Int} (h : a = b) : cmpN a b = 0 := by
  rcases cmpN_cases a b with ⟨h1, h2⟩ | ⟨h1, h2⟩ | ⟨h1, h2⟩
  · omega
  · omega
  · exact h2

theorem lessE_lt {t d s t' d' s' : Int} (h : t < t') : lessE t d s t' d' s' = true := decide_eq_true (.inl h)
theorem lessE_gt {t d s t' d' s' : Int} (h : t' < t) : lessE t d s t' d' s' = false := decide_eq_false (by omega)
theorem lessE_eq {t d s t' d' s' z : Int} (h : t = t') (hz : (if cmpN d d' ≠ 0 then cmpN d d' else cmpN s s') = z) : lessE t d s t' d' s' = decide (z < 0) := by
  rw [← hz]
  unfold lessE
  rcases Int.lt_trichotomy d d' with h1 | h1 | h1
  · rw [cmpN_lt h1, if_pos (by decide), decide_eq_true (by omega)]; rfl
  · rw [cmpN_eq h1, if_neg (by decide)]
    rcases Int.lt_trichotomy s s' with h2 | h2 | h2
    · rw [cmpN_lt h2, decide_eq_true (by omega)]; rfl
    · rw [cmpN_eq h2, decide_eq_false (by omega)]; rfl
    · rw [cmpN_gt h2, decide_eq_false (by omega)]; rfl
  · rw [cmpN_gt h1, if_pos (by decide), decide_eq_false (by omega)]; rfl

set_option maxHeartbeats 4000000 in
set_option maxRecDepth 100000 in
theorem less_calls (t d s : Int) (n : ByteArray) (v : Value) (t' d' s' : Int) (n' : ByteArray) (v' : Value) (w : World) :
    Calls Try.prog 33 #[evV t d s n v, evV t' d' s' n' v'] w fun e w' => e = .returned (.bool (lessE t d s t' d' s')) ∧ Below w.heap.size w w' := by
  have S1 := Lib.hid (fun W => esign_calls d d' W)
  have S2 := Lib.hid (fun W => esign_calls t t' W)
  have S3 := Lib.hid (fun W => esign_calls s s' W)
  have c1 := sgn_cases d d'
  have c2 := sgn_cases t t'
  have c3 := sgn_cases s s'
  go_enter Try.func33, Try.ntmps33
  go_upto_region 2 with (go_at_call 66; refine (S1.out _).mono ?_; rintro e w' ⟨rfl, rfl⟩)
  obtain ⟨W2, hW2⟩ : ∃ W2, W2 = (w.alloc (.cells #[.int .i64 t, .int .i64 d, .int .i64 s, .string n, v] 25)).alloc (.cells #[.int .i64 t', .int .i64 d', .int .i64 s', .string n', v'] 25) := ⟨_, rfl⟩
  have HB2 : Hid (Below w.heap.size w W2) := by show Below _ _ _; rw [hW2]; repeat' (first | exact Below.refl _ _ | refine Below.alloc ?_ (by simp <;> omega) _)
  have a0 : W2.drew.cell? ⟨w.heap.size, 0, none⟩ = some (.int .i64 t) := by rw [hW2]; simp
  have a2 : W2.drew.cell? ⟨w.heap.size, 2, none⟩ = some (.int .i64 s) := by rw [hW2]; simp
  have b0 : W2.drew.cell? ⟨w.heap.size + 1, 0, none⟩ = some (.int .i64 t') := by rw [hW2]; simp
  have b2 : W2.drew.cell? ⟨w.heap.size + 1, 2, none⟩ = some (.int .i64 s') := by rw [hW2]; simp
  rw [← hW2]
  clear hW2
  have HO : Hid (Calls Try.prog 67 #[.slice (some ⟨W2.heap.size, 0, none⟩) 2 2] ((W2.alloc (.cells #[.float .f64 (fsg (cmpN d d')), .float .f64 (fsg (cmpN s s'))] 96)).drew) fun e w' => e = .returned (.float .f64 (fsg (if cmpN d d' ≠ 0 then cmpN d d' else cmpN s s'))) ∧ (W2.alloc (.cells #[.float .f64 (fsg (cmpN d d')), .float .f64 (fsg (cmpN s s'))] 96)).drew = w') :=
    eor_calls _ _ _ _ ((W2.alloc (.cells #[.float .f64 (fsg (cmpN d d')), .float .f64 (fsg (cmpN s s'))] 96)).drew) c1 c3 (by show (W2.alloc _).cell? _ = _; simp) (by show (W2.alloc _).cell? _ = _; simp)
  obtain ⟨z, hz⟩ : ∃ z, (if cmpN d d' ≠ 0 then cmpN d d' else cmpN s s') = z := ⟨_, rfl⟩
  rw [hz] at HO
  have hz3 : z = -1 ∨ z = 0 ∨ z = 1 := by rw [← hz]; split <;> assumption
  have Hz := Lib.hid hz
  obtain ⟨A, hA⟩ : ∃ A, fsg (cmpN t t') = A := ⟨_, rfl⟩
  obtain ⟨Bz, hBz⟩ : ∃ B, fsg z = B := ⟨_, rfl⟩
  have hA1 := fsg_lt c2
  have hA2 := fsg_eq c2
  have hB1 := fsg_lt hz3
  rw [hA] at S2 hA1 hA2
  rw [hBz] at HO hB1
  clear S1 hz hz3 c1 c2 c3 hA hBz
  go_region_held3 (fun W => W.cell? ⟨w.heap.size, 0, none⟩ = some (.int .i64 t) ∧ W.cell? ⟨w.heap.size, 2, none⟩ = some (.int .i64 s) ∧ W.cell? ⟨w.heap.size + 1, 0, none⟩ = some (.int .i64 t') ∧ W.cell? ⟨w.heap.size + 1, 2, none⟩ = some (.int .i64 s'))
    (first | (refine ⟨?_, ?_, ?_, ?_⟩ <;> with_reducible assumption) | ((with_reducible refine ⟨ekeepAl _ ?_, ekeepAl _ ?_, ekeepAl _ ?_, ekeepAl _ ?_⟩) <;> with_reducible assumption) | ((with_reducible refine ⟨ekeepAd _ ?_, ekeepAd _ ?_, ekeepAd _ ?_, ekeepAd _ ?_⟩) <;> with_reducible assumption))
    (first
      | (go_at_call 66; (with_reducible refine (S2.out _).mono ?_); rintro e w' ⟨rfl, rfl⟩)
      | (go_at_call 66; (with_reducible refine (S3.out _).mono ?_); rintro e w' ⟨rfl, rfl⟩)
      | (go_at_call 67; refine HO.out.mono ?_; rintro e w' ⟨rfl, rfl⟩))
  all_goals
    clear S2 S3 HO a0 a2 b0 b2
    rcases Int.lt_trichotomy t t' with h1 | h1 | h1
    · rw [cmpN_lt h1] at hA1 hA2
      have e1 : (FloatKind.f64.format.order A 0 == some .lt) = true := hA1
      clear hA1 hA2 hB1
      go_wp2
      go_ret
      exact ⟨vret_bool (lessE_lt h1).symm, vbelow_drew (HB2.out.alloc HB2.out.size _)⟩
    · rw [cmpN_eq h1] at hA1 hA2
      have e1 : (FloatKind.f64.format.order A 0 == some .lt) = false := hA1
      have e2 : (FloatKind.f64.format.order A 0 == some .eq) = true := hA2
      have HB1 := Lib.hid hB1.symm
      clear hA1 hA2 hB1
      go_wp2
      go_ret
      exact ⟨vret_bool (HB1.out.symm.trans (lessE_eq h1 Hz.out).symm), vbelow_drew (HB2.out.alloc HB2.out.size _)⟩
    · rw [cmpN_gt h1] at hA1 hA2
      have e1 : (FloatKind.f64.format.order A 0 == some .lt) = false := hA1
      have e2 : (FloatKind.f64.format.order A 0 == some .eq) = false := hA2
      clear hA1 hA2 hB1
      go_wp2
      go_ret
      exact ⟨vret_bool (lessE_gt h1).symm, vbelow_drew (HB2.out.alloc HB2.out.size _)⟩

end Go.Proofs.Ytfmlgckfcclojaa
namespace Go.Proofs.Ytfmlgckfcclojaa
open Go.RowKit Go.Lib Go.Op

/-- The field f of the struct at place j of a row of structs of s cells. -/
def efld (A : Addr) (s j f : Nat) : Addr := ⟨(A.add (j * s)).block, (A.add (j * s)).off + f, none⟩

/-- A value, as it was handed in. -/
abbrev VIn := Int × Int × ByteArray
def pv (x : VIn) : PVal := ⟨x.1, x.2.1, x.2.2.data.toList⟩

/-- Values in a row. -/
def VRow (w : World) (a : Option Addr) (vs : List VIn) : Prop := ∀ j x, vs[j]? = some x → ∃ A, a = some A ∧ w.cell? (A.add (j * 3)) = some (.int .i64 x.1) ∧ w.cell? (efld A 3 j 1) = some (.int .i64 x.2.1) ∧ w.cell? (efld A 3 j 2) = some (.string x.2.2) ∧ x.2.2.size ≤ maxLen

theorem ekeep {w w' : World} (hb : Below w.heap.size w w') {p : Addr} {v : Value} (h : w.cell? p = some v) : w'.cell? p = some v := (hb.cell (World.block_lt_of_cell? _ _ h)).trans h

theorem VRow.below {w w' : World} {a : Option Addr} {vs : List VIn} (h : VRow w a vs) (hb : Below w.heap.size w w') : VRow w' a vs := fun j x hj => by
  obtain ⟨A, h1, h2, h3, h4, h5⟩ := h j x hj
  exact ⟨A, h1, ekeep hb h2, ekeep hb h3, ekeep hb h4, h5⟩

set_option maxRecDepth 100000 in
theorem right1_calls (k n : Int) (s : ByteArray) (w : World) (hs : s.size ≤ maxLen) :
    Calls Try.prog 80 #[.agg #[.int .i64 k, .int .i64 n, .string s]] w fun e w' => e = .returned (.bool (!rightV k n s)) ∧ Below w.heap.size w w' := by
  go_enter Try.func80, Try.ntmps80
  go_wp2_with (go_at_call 81; refine (vright_calls _ _ _ _ (by assumption)).mono ?_; rintro e w1 ⟨rfl, rfl⟩)
  go_ret
  exact ⟨rfl, by repeat' (first | exact Below.refl _ _ | refine Below.alloc ?_ (by simp <;> omega) _)⟩

/-- All that were looked at are right. -/
def RightTo (vs : List VIn) (k : Nat) : Prop := ∀ j x, j < k → vs[j]? = some x → rightB (pv x) = true

theorem RightTo.step {vs : List VIn} {k : Nat} (h : RightTo vs k) {x : VIn} (hk : vs[k]? = some x) (hx : rightB (pv x) = true) : RightTo vs (k + 1) := fun j y hj hy => by
  by_cases e : j = k
  · subst e
    rw [hk] at hy
    injection hy with hy
    rw [← hy]; exact hx
  · exact h j y (by omega) hy

theorem RightTo.all {vs : List VIn} (h : RightTo vs vs.length) : (vs.map pv).all rightB = true := by
  rw [List.all_eq_true]
  intro y hy
  obtain ⟨x, hx, rfl⟩ := List.mem_map.1 hy
  obtain ⟨j, hj, rfl⟩ := List.mem_iff_getElem.1 hx
  exact h j _ hj (List.getElem?_eq_getElem hj)

theorem notRight {vs : List VIn} {k : Nat} {x : VIn} (hk : vs[k]? = some x) (hx : rightB (pv x) = false) : (vs.map pv).all rightB = false := by
  rw [List.all_eq_false]
  exact ⟨pv x, List.mem_map_of_mem (List.mem_of_getElem? hk), by simp [hx]⟩

/-- What IndexFunc answers of them. -/
def IdxPost (w : World) (b : Bool) (e : Ending) (w' : World) : Prop := ∃ z : Int, e = .returned (.int .i64 z) ∧ decide (0 ≤ z) = b ∧ Below w.heap.size w w'

set_option maxHeartbeats 2000000 in
set_option maxRecDepth 100000 in
theorem indexV_calls (a : Option Addr) (c : Nat) (vs : List VIn) (w : World) (hv : VRow w a vs) (hl : vs.length ≤ maxLen) :
    Calls Try.prog 95 #[.slice a vs.length c, .func (.func 80) #[] #[]] w (IdxPost w (!(vs.map pv).all rightB)) := by
  have HV := Lib.hid hv
  obtain ⟨l, hll⟩ : ∃ l, vs.length = l := ⟨_, rfl⟩
  rw [hll] at hl ⊢
  have Hl := Lib.hid hll
  unfold maxLen at hl
  clear hv hll
  go_enter Try.func95, Try.ntmps95
  go_wp2
  go_loopw [5, 8] (fun x i wr => ∃ k : Nat, i = .int .i64 k ∧ k ≤ l ∧ Hid (RightTo vs k) ∧ Hid (Below w.heap.size w wr)) (fun _ i _ => l - (intOf i).toNat)
  case atStart => exact ⟨0, rfl, Nat.zero_le _, fun j x hj => by omega, Below.refl _ _⟩
  case round =>
    obtain ⟨k, rfl, hk, HR, HB⟩ := hrel
    by_cases hlt : k < l
    · obtain ⟨x, hx⟩ : ∃ x, vs[k]? = some x := ⟨_, List.getElem?_eq_getElem (by rw [Hl.out]; exact hlt)⟩
      obtain ⟨A, rfl, c0, c1, c2, hs⟩ := (HV.out.below HB.out) k x hx
      have hcall := right1_calls x.1 x.2.1 x.2.2 wr hs
      unfold efld at c1 c2
      have hrv : rightV x.1 x.2.1 x.2.2 = rightB (pv x) := rfl
      rw [hrv] at hcall
      cases hr : rightB (pv x) with
      | true =>
        have hst := Lib.hid (HR.out.step hx hr)
        rw [hr] at hcall
        obtain ⟨k1, n1, s1⟩ := x
        dsimp only at c0 c1 c2 hcall
        clear hx hrv hr
        go_wp2_with (go_at_call 80; refine hcall.mono ?_; rintro e w1 ⟨rfl, hb1⟩)
        have HB1 : Hid (Below w.heap.size w w1) := HB.out.trans (hb1.mono HB.out.size)
        clear hcall
        go_roundw
        case rel => exact ⟨k + 1, by go_num, by omega, hst, HB1⟩
        case measure => simp [intOf]; omega
      | false =>
        have hno := Lib.hid (notRight hx hr)
        rw [hr] at hcall
        obtain ⟨k1, n1, s1⟩ := x
        dsimp only at c0 c1 c2 hcall
        clear hx hrv hr
        go_wp2_with (go_at_call 80; refine hcall.mono ?_; rintro e w1 ⟨rfl, hb1⟩)
        have HB1 : Hid (Below w.heap.size w w1) := HB.out.trans (hb1.mono HB.out.size)
        go_ret
        exact ⟨k, rfl, by rw [hno.out]; simp, HB1.out⟩
    · obtain rfl : k = l := by omega
      have hall : Hid ((vs.map pv).all rightB = true) := RightTo.all (by rw [Hl.out]; exact HR.out)
      go_wp2
      go_ret
      exact ⟨-1, rfl, by rw [hall.out]; rfl, HB.out⟩

set_option maxRecDepth 100000 in
theorem contains_calls' (a : Option Addr) (c : Nat) (vs : List VIn) (w : World) (hv : VRow w a vs) (hl : vs.length ≤ maxLen) :
    Calls Try.prog 82 #[.slice a vs.length c, .func (.func 80) #[] #[]] w fun e w' => e = .returned (.bool (!(vs.map pv).all rightB)) ∧ Below w.heap.size w w' := by
  have hc := indexV_calls a c vs w hv hl
  obtain ⟨l, hll⟩ : ∃ l, vs.length = l := ⟨_, rfl⟩
  rw [hll] at hc ⊢
  generalize (!(vs.map pv).all rightB) = b at hc ⊢
  clear hv hl hll
  go_enter Try.func82, Try.ntmps82
  go_wp2_with (go_at_call 95; refine hc.mono ?_; rintro e w1 ⟨z, rfl, hz, hb1⟩)
  go_ret
  exact ⟨rfl, hb1⟩

end Go.Proofs.Ytfmlgckfcclojaa
namespace Go.Proofs.Ytfmlgckfcclojaa
open Go.RowKit Go.Lib Go.Op

/-- An event as it was handed in, in plain words. -/
def pe (t d s : Int) (n : ByteArray) (vs : List VIn) : PEv := ⟨t, d, s, n.data.toList, vs.map pv⟩

theorem rightE_parts (t d s : Int) (n : ByteArray) (vs : List VIn) : rightE (pe t d s n vs) = (numB t && (numB s && (decide (0 ≤ d ∧ d ≤ 3) && (wordB n.data.toList && (decide (vs.length ≤ 8) && (vs.map pv).all rightB))))) := by
  unfold rightE pe
  simp only [List.length_map]

set_option maxHeartbeats 2000000 in
set_option maxRecDepth 100000 in
theorem eright_calls (t d s : Int) (n : ByteArray) (a : Option Addr) (c : Nat) (vs : List VIn) (w : World) (hn : n.size ≤ maxLen) (hv : VRow w a vs) (hl : vs.length ≤ maxLen) :
    Calls Try.prog 52 #[evV t d s n (.slice a vs.length c)] w fun e w' => e = .returned (.bool (rightE (pe t d s n vs))) ∧ Below w.heap.size w w' := by
  rw [rightE_parts]
  have hw := fun W => word_calls n W hn
  have hc := fun W (hb : Below w.heap.size w W) => contains_calls' a c vs W (hv.below hb) hl
  have HN1 := Lib.hid (fun W => number_calls' t W)
  have HN2 := Lib.hid (fun W => number_calls' s W)
  obtain ⟨l, hll⟩ : ∃ l, vs.length = l := ⟨_, rfl⟩
  rw [hll] at hc hl ⊢
  have HC := Lib.hid hc
  generalize (vs.map pv).all rightB = ball at HC ⊢
  unfold maxLen at hl
  clear hv hc hll
  cases h1 : numB t with
  | false =>
    rw [h1] at HN1
    go_enter Try.func52, Try.ntmps52
    go_wp2_with (go_at_call 79; refine (HN1.out _).mono ?_; rintro e w1 ⟨rfl, rfl⟩)
    go_ret
    exact ⟨rfl, (Below.refl _ _).alloc (Nat.le_refl _) _⟩
  | true =>
  cases h2 : numB s with
  | false =>
    rw [h1] at HN1
    rw [h2] at HN2
    go_enter Try.func52, Try.ntmps52
    go_wp2_with (go_at_call 79; (first | (with_reducible refine (HN1.out _).mono ?_) | (with_reducible refine (HN2.out _).mono ?_)); rintro e w1 ⟨rfl, rfl⟩)
    go_ret
    exact ⟨rfl, (Below.refl _ _).alloc (Nat.le_refl _) _⟩
  | true =>
  rw [h1] at HN1
  rw [h2] at HN2
  by_cases h3 : d < 0
  · rw [decide_eq_false (show ¬ (0 ≤ d ∧ d ≤ 3) by omega)]
    go_enter Try.func52, Try.ntmps52
    go_wp2_with (go_at_call 79; (first | (with_reducible refine (HN1.out _).mono ?_) | (with_reducible refine (HN2.out _).mono ?_)); rintro e w1 ⟨rfl, rfl⟩)
    go_ret
    exact ⟨rfl, (Below.refl _ _).alloc (Nat.le_refl _) _⟩
  by_cases h4 : 3 < d
  · rw [decide_eq_false (show ¬ (0 ≤ d ∧ d ≤ 3) by omega)]
    go_enter Try.func52, Try.ntmps52
    go_wp2_with (go_at_call 79; (first | (with_reducible refine (HN1.out _).mono ?_) | (with_reducible refine (HN2.out _).mono ?_)); rintro e w1 ⟨rfl, rfl⟩)
    go_ret
    exact ⟨rfl, (Below.refl _ _).alloc (Nat.le_refl _) _⟩
  rw [decide_eq_true (show 0 ≤ d ∧ d ≤ 3 by omega)]
  have HW := Lib.hid (hw (w.alloc (.cells #[.int .i64 t, .int .i64 d, .int .i64 s, .string n, .slice a l c] 25)))
  clear hw
  cases h5 : wordB n.data.toList with
  | false =>
    rw [h5] at HW
    go_enter Try.func52, Try.ntmps52
    go_wp2_with (first | (go_at_call 79; (first | (with_reducible refine (HN1.out _).mono ?_) | (with_reducible refine (HN2.out _).mono ?_)); rintro e w1 ⟨rfl, rfl⟩) | (go_at_call 28; refine HW.out.mono ?_; rintro e w1 ⟨rfl, hb1⟩))
    go_ret
    exact ⟨rfl, ((Below.refl _ _).alloc (Nat.le_refl _) _).trans (hb1.mono (by simp))⟩
  | true =>
  rw [h5] at HW
  by_cases h6 : 8 < l
  · rw [decide_eq_false (show ¬ l ≤ 8 by omega)]
    go_enter Try.func52, Try.ntmps52
    go_wp2_with (first | (go_at_call 79; (first | (with_reducible refine (HN1.out _).mono ?_) | (with_reducible refine (HN2.out _).mono ?_)); rintro e w1 ⟨rfl, rfl⟩) | (go_at_call 28; refine HW.out.mono ?_; rintro e w1 ⟨rfl, hb1⟩; have x4 : w1.cell? ⟨w.heap.size, 4, none⟩ = some (.slice a l c) := ekeep hb1 (by simp)))
    go_ret
    exact ⟨rfl, ((Below.refl _ _).alloc (Nat.le_refl _) _).trans (hb1.mono (by simp))⟩
  · rw [decide_eq_true (show l ≤ 8 by omega)]
    go_enter Try.func52, Try.ntmps52
    go_wp2_with (first
      | (go_at_call 79; (first | (with_reducible refine (HN1.out _).mono ?_) | (with_reducible refine (HN2.out _).mono ?_)); rintro e w1 ⟨rfl, rfl⟩)
      | (go_at_call 28; refine HW.out.mono ?_; rintro e w1 ⟨rfl, hb1⟩; have x4 : w1.cell? ⟨w.heap.size, 4, none⟩ = some (.slice a l c) := ekeep hb1 (by simp); have HB1 : Hid (Below w.heap.size w w1) := ((Below.refl _ _).alloc (Nat.le_refl _) _).trans (hb1.mono (by simp)); clear hb1)
      | (go_at_call 82; refine (HC.out _ HB1.out).mono ?_; rintro e w2 ⟨rfl, hb2⟩))
    go_ret
    exact ⟨by simp, HB1.out.trans (hb2.mono HB1.out.size)⟩

end Go.Proofs.Ytfmlgckfcclojaa
namespace Go.Proofs.Ytfmlgckfcclojaa
open Go.RowKit Go.Lib Go.Op

/-- A field, as it was handed in. -/
abbrev FIn := ByteArray × Int
def FRow (w : World) (a : Option Addr) (fs : List FIn) : Prop := ∀ j x, fs[j]? = some x → ∃ A, a = some A ∧ w.cell? (A.add (j * 2)) = some (.string x.1) ∧ w.cell? (efld A 2 j 1) = some (.int .i64 x.2) ∧ x.1.size ≤ maxLen

theorem FRow.below {w w' : World} {a : Option Addr} {fs : List FIn} (h : FRow w a fs) (hb : Below w.heap.size w w') : FRow w' a fs := fun j x hj => by
  obtain ⟨A, h1, h2, h3, h4⟩ := h j x hj
  exact ⟨A, h1, ekeep hb h2, ekeep hb h3, h4⟩

/-- A schema, as it was handed in. -/
structure SIn where
  name : ByteArray
  fa : Option Addr
  fc : Nat
  fs : List FIn

def SRow (w : World) (a : Option Addr) (l : List SIn) : Prop := ∀ j x, l[j]? = some x → ∃ A, a = some A ∧ w.cell? (A.add (j * 2)) = some (.string x.name) ∧ w.cell? (efld A 2 j 1) = some (.slice x.fa x.fs.length x.fc) ∧ FRow w x.fa x.fs ∧ x.fs.length ≤ maxLen ∧ x.name.size ≤ maxLen

theorem SRow.below {w w' : World} {a : Option Addr} {l : List SIn} (h : SRow w a l) (hb : Below w.heap.size w w') : SRow w' a l := fun j x hj => by
  obtain ⟨A, h1, h2, h3, h4, h5⟩ := h j x hj
  exact ⟨A, h1, ekeep hb h2, ekeep hb h3, h4.below hb, h5⟩

/-- The place of the first one, -1 if there is none. -/
def idxI {α : Type} (xs : List α) (q : α → Bool) : Int := match xs.findIdx? q with
  | some k => (k : Int)
  | none => -1

/-- None of those that were looked at. -/
def NoneTo {α : Type} (xs : List α) (q : α → Bool) (k : Nat) : Prop := ∀ j y, j < k → xs[j]? = some y → q y = false
theorem NoneTo.step {α : Type} {xs : List α} {q : α → Bool} {k : Nat} (h : NoneTo xs q k) {x : α} (hk : xs[k]? = some x) (hx : q x = false) : NoneTo xs q (k + 1) := fun j y hj hy => by
  by_cases e : j = k
  · subst e
    rw [hk] at hy
    injection hy with hy
    rw [← hy]; exact hx
  · exact h j y (by omega) hy

theorem idx_hit {α : Type} {xs : List α} {q : α → Bool} {k : Nat} {x : α} (h : xs[k]? = some x) (hq : q x = true) (hb : NoneTo xs q k) : xs.findIdx? q = some k := by
  obtain ⟨hk, rfl⟩ := List.getElem?_eq_some_iff.1 h
  rw [List.findIdx?_eq_some_iff_getElem]
  exact ⟨hk, hq, fun j hj => by simp [hb j _ hj (List.getElem?_eq_getElem (by omega))]⟩
theorem idx_miss {α : Type} {xs : List α} {q : α → Bool} (hb : NoneTo xs q xs.length) : xs.findIdx? q = none := by
  rw [List.findIdx?_eq_none_iff]
  intro x hx
  obtain ⟨j, hj, rfl⟩ := List.mem_iff_getElem.1 hx
  exact hb j _ hj (List.getElem?_eq_getElem hj)
theorem idxI_some {α : Type} {xs : List α} {q : α → Bool} {k : Nat} (h : xs.findIdx? q = some k) : idxI xs q = k := by unfold idxI; rw [h]
theorem idxI_none {α : Type} {xs : List α} {q : α → Bool} (h : xs.findIdx? q = none) : idxI xs q = -1 := by unfold idxI; rw [h]

/-- Is that its name? -/
def nameIs (name s : ByteArray) : Bool := s.toList == name.toList

set_option maxRecDepth 100000 in
theorem place1_calls (name s : ByteArray) (fv : Value) (nb : Nat) (w : World) (hc : w.cell? ⟨nb, 0, none⟩ = some (.string name)) :
    Calls Try.prog 78 #[.agg #[.string s, fv], .pointer (some ⟨nb, 0, none⟩)] w fun e w' => e = .returned (.bool (nameIs name s)) ∧ Below w.heap.size w w' := by
  have hc2 := ekeepAl (.cells #[.string s, fv] 31) hc
  go_enter Try.func78, Try.ntmps78
  go_wp2
  go_ret
  exact ⟨rfl, (Below.refl _ _).alloc (Nat.le_refl _) _⟩

set_option maxRecDepth 100000 in
theorem field1_calls (name s : ByteArray) (k : Int) (nb : Nat) (w : World) (hc : w.cell? ⟨nb, 0, none⟩ = some (.string name)) :
    Calls Try.prog 51 #[.agg #[.string s, .int .i64 k], .pointer (some ⟨nb, 0, none⟩)] w fun e w' => e = .returned (.bool (nameIs name s)) ∧ Below w.heap.size w w' := by
  have hc2 := ekeepAl (.cells #[.string s, .int .i64 k] 55) hc
  go_enter Try.func51, Try.ntmps51
  go_wp2
  go_ret
  exact ⟨rfl, (Below.refl _ _).alloc (Nat.le_refl _) _⟩

set_option maxHeartbeats 2000000 in
set_option maxRecDepth 100000 in
theorem indexS_calls (a : Option Addr) (c : Nat) (xs : List SIn) (name : ByteArray) (nb : Nat) (w : World) (hv : SRow w a xs) (hl : xs.length ≤ maxLen) (hc : w.cell? ⟨nb, 0, none⟩ = some (.string name)) :
    Calls Try.prog 77 #[.slice a xs.length c, .func (.func 78) #[] #[.pointer (some ⟨nb, 0, none⟩)]] w fun e w' => e = .returned (.int .i64 (idxI xs fun x => nameIs name x.name)) ∧ Below w.heap.size w w' := by
  have HV := Lib.hid hv
  have HC := Lib.hid hc
  obtain ⟨l, hll⟩ : ∃ l, xs.length = l := ⟨_, rfl⟩
  rw [hll] at hl ⊢
  have Hl := Lib.hid hll
  unfold maxLen at hl
  clear hv hll hc
  go_enter Try.func77, Try.ntmps77
  go_wp2
  go_loopw [5, 8] (fun x i wr => ∃ k : Nat, i = .int .i64 k ∧ k ≤ l ∧ Hid (NoneTo xs (fun x => nameIs name x.name) k) ∧ Hid (Below w.heap.size w wr)) (fun _ i _ => l - (intOf i).toNat)
  case atStart => exact ⟨0, rfl, Nat.zero_le _, fun j x hj => by omega, Below.refl _ _⟩
  case round =>
    obtain ⟨k, rfl, hk, HR, HB⟩ := hrel
    by_cases hlt : k < l
    · obtain ⟨x, hx⟩ : ∃ x, xs[k]? = some x := ⟨_, List.getElem?_eq_getElem (by rw [Hl.out]; exact hlt)⟩
      obtain ⟨A, rfl, c0, c1, _, _, _⟩ := (HV.out.below HB.out) k x hx
      have hcall := place1_calls name x.name (.slice x.fa x.fs.length x.fc) nb wr (ekeep HB.out HC.out)
      unfold efld at c1
      cases hr : nameIs name x.name with
      | false =>
        have hst := Lib.hid (HR.out.step hx hr)
        rw [hr] at hcall
        obtain ⟨nm, fa, fc, fs⟩ := x
        dsimp only at c0 c1 hcall
        clear hx hr
        go_wp2_with (go_at_call 78; refine hcall.mono ?_; rintro e w1 ⟨rfl, hb1⟩)
        have HB1 : Hid (Below w.heap.size w w1) := HB.out.trans (hb1.mono HB.out.size)
        clear hcall
        go_roundw
        case rel => exact ⟨k + 1, by go_num, by omega, hst, HB1⟩
        case measure => simp [intOf]; omega
      | true =>
        have hno := Lib.hid (idxI_some (idx_hit (q := fun x => nameIs name x.name) hx hr HR.out))
        rw [hr] at hcall
        obtain ⟨nm, fa, fc, fs⟩ := x
        dsimp only at c0 c1 hcall
        clear hx hr
        go_wp2_with (go_at_call 78; refine hcall.mono ?_; rintro e w1 ⟨rfl, hb1⟩)
        have HB1 : Hid (Below w.heap.size w w1) := HB.out.trans (hb1.mono HB.out.size)
        go_ret
        exact ⟨by rw [hno.out]; rfl, HB1.out⟩
    · obtain rfl : k = l := by omega
      have hall := Lib.hid (idxI_none (idx_miss (q := fun x => nameIs name x.name) (xs := xs) (by rw [Hl.out]; exact HR.out)))
      go_wp2
      go_ret
      exact ⟨by rw [hall.out]; rfl, HB.out⟩

set_option maxHeartbeats 2000000 in
set_option maxRecDepth 100000 in
theorem indexF_calls (a : Option Addr) (c : Nat) (xs : List FIn) (name : ByteArray) (nb : Nat) (w : World) (hv : FRow w a xs) (hl : xs.length ≤ maxLen) (hc : w.cell? ⟨nb, 0, none⟩ = some (.string name)) :
    Calls Try.prog 50 #[.slice a xs.length c, .func (.func 51) #[] #[.pointer (some ⟨nb, 0, none⟩)]] w fun e w' => e = .returned (.int .i64 (idxI xs fun x => nameIs name x.1)) ∧ Below w.heap.size w w' := by
  have HV := Lib.hid hv
  have HC := Lib.hid hc
  obtain ⟨l, hll⟩ : ∃ l, xs.length = l := ⟨_, rfl⟩
  rw [hll] at hl ⊢
  have Hl := Lib.hid hll
  unfold maxLen at hl
  clear hv hll hc
  go_enter Try.func50, Try.ntmps50
  go_wp2
  go_loopw [5, 8] (fun x i wr => ∃ k : Nat, i = .int .i64 k ∧ k ≤ l ∧ Hid (NoneTo xs (fun x => nameIs name x.1) k) ∧ Hid (Below w.heap.size w wr)) (fun _ i _ => l - (intOf i).toNat)
  case atStart => exact ⟨0, rfl, Nat.zero_le _, fun j x hj => by omega, Below.refl _ _⟩
  case round =>
    obtain ⟨k, rfl, hk, HR, HB⟩ := hrel
    by_cases hlt : k < l
    · obtain ⟨x, hx⟩ : ∃ x, xs[k]? = some x := ⟨_, List.getElem?_eq_getElem (by rw [Hl.out]; exact hlt)⟩
      obtain ⟨A, rfl, c0, c1, _⟩ := (HV.out.below HB.out) k x hx
      have hcall := field1_calls name x.1 x.2 nb wr (ekeep HB.out HC.out)
      unfold efld at c1
      cases hr : nameIs name x.1 with
      | false =>
        have hst := Lib.hid (HR.out.step hx hr)
        rw [hr] at hcall
        obtain ⟨nm, kd⟩ := x
        dsimp only at c0 c1 hcall
        clear hx hr
        go_wp2_with (go_at_call 51; refine hcall.mono ?_; rintro e w1 ⟨rfl, hb1⟩)
        have HB1 : Hid (Below w.heap.size w w1) := HB.out.trans (hb1.mono HB.out.size)
        clear hcall
        go_roundw
        case rel => exact ⟨k + 1, by go_num, by omega, hst, HB1⟩
        case measure => simp [intOf]; omega
      | true =>
        have hno := Lib.hid (idxI_some (idx_hit (q := fun x => nameIs name x.1) hx hr HR.out))
        rw [hr] at hcall
        obtain ⟨nm, kd⟩ := x
        dsimp only at c0 c1 hcall
        clear hx hr
        go_wp2_with (go_at_call 51; refine hcall.mono ?_; rintro e w1 ⟨rfl, hb1⟩)
        have HB1 : Hid (Below w.heap.size w w1) := HB.out.trans (hb1.mono HB.out.size)
        go_ret
        exact ⟨by rw [hno.out]; rfl, HB1.out⟩
    · obtain rfl : k = l := by omega
      have hall := Lib.hid (idxI_none (idx_miss (q := fun x => nameIs name x.1) (xs := xs) (by rw [Hl.out]; exact HR.out)))
      go_wp2
      go_ret
      exact ⟨by rw [hall.out]; rfl, HB.out⟩

set_option maxRecDepth 100000 in
theorem place_calls (a : Option Addr) (c : Nat) (xs : List SIn) (name : ByteArray) (w : World) (hv : SRow w a xs) (hl : xs.length ≤ maxLen) :
    Calls Try.prog 48 #[.slice a xs.length c, .string name] w fun e w' => e = .returned (.int .i64 (idxI xs fun x => nameIs name x.name)) ∧ Below w.heap.size w w' := by
  have hc := indexS_calls a c xs name w.heap.size (w.alloc (.cells #[.string name] 9)) (hv.below ((Below.refl _ _).alloc (Nat.le_refl _) _)) hl (by simp)
  generalize (idxI xs fun x => nameIs name x.name) = z at hc ⊢
  go_enter Try.func48, Try.ntmps48
  go_wp2_with (go_at_call 77; refine hc.mono ?_; rintro e w1 ⟨rfl, hb1⟩)
  go_ret
  exact ⟨rfl, ((Below.refl _ _).alloc (Nat.le_refl _) _).trans (hb1.mono (by simp))⟩

/-- What Field answers. -/
def fieldI (fs : List FIn) (name : ByteArray) : Int × Int := match fs.findIdx? fun x => nameIs name x.1 with
  | some k => ((k : Int), (fs[k]?.map (·.2)).getD 0)
  | none => (-1, 0)

theorem fieldI_none {fs : List FIn} {name : ByteArray} (h : fs.findIdx? (fun x => nameIs name x.1) = none) : fieldI fs name = (-1, 0) := by unfold fieldI; rw [h]
theorem fieldI_some {fs : List FIn} {name : ByteArray} {k : Nat} {x : FIn} (h : fs.findIdx? (fun x => nameIs name x.1) = some k) (hx : fs[k]? = some x) : fieldI fs name = ((k : Int), x.2) := by unfold fieldI; rw [h]; simp [hx]
theorem find_at {α : Type} {xs : List α} {q : α → Bool} {k : Nat} (h : xs.findIdx? q = some k) : ∃ x, xs[k]? = some x ∧ k < xs.length ∧ q x = true := by
  rw [List.findIdx?_eq_some_iff_getElem] at h
  obtain ⟨hk, hq, _⟩ := h
  exact ⟨_, List.getElem?_eq_getElem hk, hk, hq⟩

set_option maxHeartbeats 2000000 in
set_option maxRecDepth 100000 in
theorem field_calls (nm : ByteArray) (a : Option Addr) (c : Nat) (xs : List FIn) (name : ByteArray) (w : World) (hv : FRow w a xs) (hl : xs.length ≤ maxLen) :
    Calls Try.prog 19 #[.agg #[.string nm, .slice a xs.length c], .string name] w fun e w' => e = .returned (.tuple #[.int .i64 (fieldI xs name).1, .int .i64 (fieldI xs name).2]) ∧ Below w.heap.size w w' := by
  have hc := indexF_calls a c xs name (w.heap.size + 1) ((w.alloc (.cells #[.string nm, .slice a xs.length c] 31)).alloc (.cells #[.string name] 9)) (hv.below (by repeat' (first | exact Below.refl _ _ | refine Below.alloc ?_ (by simp <;> omega) _))) hl (by simp)
  have HV := Lib.hid hv
  obtain ⟨l, hll⟩ : ∃ l, xs.length = l := ⟨_, rfl⟩
  rw [hll] at hl hc ⊢
  have Hl := Lib.hid hll
  unfold maxLen at hl
  clear hv hll
  cases hf : xs.findIdx? (fun x => nameIs name x.1) with
  | none =>
    rw [idxI_none hf] at hc
    rw [fieldI_none hf]
    clear hf
    go_enter Try.func19, Try.ntmps19
    go_wp2_with (go_at_call 50; refine hc.mono ?_; rintro e w1 ⟨rfl, hb1⟩)
    refine bodyPost_ret (v := .tuple #[.int .i64 (-1), .int .i64 0]) (by simp [results, Try.results19, go_sem]) rfl ⟨rfl, ?_⟩
    exact (show Below w.heap.size w _ by repeat' (first | exact Below.refl _ _ | refine Below.alloc ?_ (by simp <;> omega) _)).trans (hb1.mono (by simp <;> omega))
  | some k =>
    obtain ⟨x, hx, hk, _⟩ := find_at hf
    rw [idxI_some hf] at hc
    rw [fieldI_some hf hx]
    rw [Hl.out] at hk
    have Hx := Lib.hid hx
    clear hf hx
    go_enter Try.func19, Try.ntmps19
    go_upto_region 4 with (go_at_call 50; refine hc.mono ?_; rintro e w1 ⟨rfl, hb1⟩)
    have x1 : w1.cell? ⟨w.heap.size, 1, none⟩ = some (.slice a l c) := ekeep hb1 (by simp)
    have hB1 : Below w.heap.size w w1 := (show Below w.heap.size w _ by repeat' (first | exact Below.refl _ _ | refine Below.alloc ?_ (by simp <;> omega) _)).trans (hb1.mono (by simp <;> omega))
    obtain ⟨A, rfl, c0, c1, _⟩ := (HV.out.below hB1) k x Hx.out
    have HB1 := Lib.hid hB1
    obtain ⟨xn, xk⟩ := x
    dsimp only at c0 c1
    unfold efld at c1
    clear hc hb1 hB1
    have hk0 : (0 : Int) ≤ (k : Int) := by omega
    have hk1 : (k : Int) < (l : Int) := by omega
    go_quiet (fail)
    go_wp2_with fail
    refine bodyPost_ret (v := .tuple #[.int .i64 k, .int .i64 xk]) (by simp [results, Try.results19, go_sem]) rfl ⟨rfl, ?_⟩
    exact vbelow_drewN HB1.out _

end Go.Proofs.Ytfmlgckfcclojaa
namespace Go.Proofs.Ytfmlgckfcclojaa
open Go.RowKit Go.Lib Go.Op

set_option maxRecDepth 100000 in
theorem fits1_calls (k n : Int) (s nm : ByteArray) (kd : Int) (w : World) :
    Calls Try.prog 53 #[.agg #[.int .i64 k, .int .i64 n, .string s], .agg #[.string nm, .int .i64 kd]] w fun e w' => e = .returned (.bool (k == kd)) ∧ Below w.heap.size w w' := by
  go_enter Try.func53, Try.ntmps53
  go_wp2
  go_ret
  exact ⟨rfl, by repeat' (first | exact Below.refl _ _ | refine Below.alloc ?_ (by simp <;> omega) _)⟩

/-- Are they as many, each of its field's kind? -/
def kindsB (vs : List VIn) (fs : List FIn) : Bool := decide (vs.map (·.1) = fs.map (·.2))

/-- So far they are. -/
def KindsTo (vs : List VIn) (fs : List FIn) (k : Nat) : Prop := ∀ j x y, j < k → vs[j]? = some x → fs[j]? = some y → x.1 = y.2
theorem KindsTo.step {vs : List VIn} {fs : List FIn} {k : Nat} (h : KindsTo vs fs k) {x : VIn} {y : FIn} (hx : vs[k]? = some x) (hy : fs[k]? = some y) (he : x.1 = y.2) : KindsTo vs fs (k + 1) := fun j x' y' hj hx' hy' => by
  by_cases e : j = k
  · subst e
    rw [hx] at hx'
    rw [hy] at hy'
    injection hx' with hx'
    injection hy' with hy'
    rw [← hx', ← hy']; exact he
  · exact h j x' y' (by omega) hx' hy'
theorem KindsTo.all {vs : List VIn} {fs : List FIn} (h : KindsTo vs fs vs.length) (hl : vs.length = fs.length) : kindsB vs fs = true := by
  refine decide_eq_true (List.ext_getElem (by simpa using hl) fun j h1 h2 => ?_)
  simp only [List.length_map] at h1 h2
  simp only [List.getElem_map]
  exact h j _ _ h1 (List.getElem?_eq_getElem h1) (List.getElem?_eq_getElem h2)
theorem kindsB_len {vs : List VIn} {fs : List FIn} (h : vs.length ≠ fs.length) : kindsB vs fs = false := by
  refine decide_eq_false fun e => h ?_
  have := congrArg List.length e
  simpa using this
theorem kindsB_at {vs : List VIn} {fs : List FIn} {k : Nat} {x : VIn} {y : FIn} (hx : vs[k]? = some x) (hy : fs[k]? = some y) (he : x.1 ≠ y.2) : kindsB vs fs = false := by
  refine decide_eq_false fun e => he ?_
  have := congrArg (·[k]?) e
  simp only [List.getElem?_map, hx, hy, Option.map_some, Option.some.injEq] at this
  exact this

set_option maxHeartbeats 2000000 in
set_option maxRecDepth 100000 in
theorem equalF_calls (va : Option Addr) (vc : Nat) (vs : List VIn) (fa : Option Addr) (fc : Nat) (fs : List FIn) (w : World) (hv : VRow w va vs) (hvl : vs.length ≤ maxLen) (hf : FRow w fa fs) (hfl : fs.length ≤ maxLen) :
    Calls Try.prog 54 #[.slice va vs.length vc, .slice fa fs.length fc, .func (.func 53) #[] #[]] w fun e w' => e = .returned (.bool (kindsB vs fs)) ∧ Below w.heap.size w w' := by
  have HV := Lib.hid hv
  have HF := Lib.hid hf
  obtain ⟨l, hll⟩ : ∃ l, vs.length = l := ⟨_, rfl⟩
  obtain ⟨m, hmm⟩ : ∃ m, fs.length = m := ⟨_, rfl⟩
  have Hl := Lib.hid hll
  have Hm := Lib.hid hmm
  rw [hll] at hvl ⊢
  rw [hmm] at hfl ⊢
  unfold maxLen at hvl hfl
  clear hv hf hll hmm
  by_cases hlm : l = m
  · subst hlm
    clear hfl
    go_enter Try.func54, Try.ntmps54
    go_wp2
    go_loopw [7, 8, 9, 17] (fun x y z i wr => ∃ k : Nat, i = .int .i64 k ∧ k ≤ l ∧ Hid (KindsTo vs fs k) ∧ Hid (Below w.heap.size w wr)) (fun _ _ _ i _ => l - (intOf i).toNat)
    case atStart => exact ⟨0, rfl, Nat.zero_le _, fun j x y hj => by omega, Below.refl _ _⟩
    case round =>
      obtain ⟨k, rfl, hk, HR, HB⟩ := hrel
      by_cases hlt : k < l
      · obtain ⟨x, hx⟩ : ∃ x, vs[k]? = some x := ⟨_, List.getElem?_eq_getElem (by rw [Hl.out]; exact hlt)⟩
        obtain ⟨y, hy⟩ : ∃ y, fs[k]? = some y := ⟨_, List.getElem?_eq_getElem (by rw [Hm.out]; exact hlt)⟩
        obtain ⟨A, rfl, c0, c1, c2, _⟩ := (HV.out.below HB.out) k x hx
        have HFb := Lib.hid ((HF.out.below HB.out).below ((Below.refl _ wr).alloc (Nat.le_refl _) (.cells #[.int .i64 x.1, .int .i64 x.2.1, .string x.2.2] 52)))
        obtain ⟨B, rfl, d0, d1, _⟩ := HFb.out k y hy
        unfold efld at c1 c2 d1
        have hst := fun h => Lib.hid (HR.out.step hx hy h)
        have hno := fun h => Lib.hid (kindsB_at hx hy h)
        obtain ⟨k1, n1, s1⟩ := x
        obtain ⟨nm, kd⟩ := y
        dsimp only at c0 c1 c2 d0 d1 hst hno HFb
        have hbb : Hid (Below w.heap.size w ((wr.alloc (.cells #[.int .i64 k1, .int .i64 n1, .string s1] 52)).alloc (.cells #[.string nm, .int .i64 kd] 55))) := (HB.out.alloc HB.out.size _).alloc (by have := HB.out.size; simp; omega) _
        have HCall := Lib.hid (fits1_calls k1 n1 s1 nm kd ((wr.alloc (.cells #[.int .i64 k1, .int .i64 n1, .string s1] 52)).alloc (.cells #[.string nm, .int .i64 kd] 55)))
        clear hx hy HFb
        by_cases he : k1 = kd
        · have Hst := hst he
          have h1 : (k1 == kd) = true := by simpa using he
          rw [h1] at HCall
          clear hst hno he h1
          go_wp2_with (go_at_call 53; refine HCall.out.mono ?_; rintro e w1 ⟨rfl, hb1⟩)
          have HB1 : Hid (Below w.heap.size w w1) := hbb.out.trans (hb1.mono hbb.out.size)
          go_roundw
          case rel => exact ⟨k + 1, by go_num, by omega, Hst, HB1⟩
          case measure => simp [intOf]; omega
        · have Hno := hno he
          have h1 : (k1 == kd) = false := by simpa using he
          rw [h1] at HCall
          clear hst hno he h1
          go_wp2_with (go_at_call 53; refine HCall.out.mono ?_; rintro e w1 ⟨rfl, hb1⟩)
          have HB1 : Hid (Below w.heap.size w w1) := hbb.out.trans (hb1.mono hbb.out.size)
          go_ret
          exact ⟨by rw [Hno.out]; rfl, HB1.out⟩
      · obtain rfl : k = l := by omega
        have hall := Lib.hid (KindsTo.all (vs := vs) (fs := fs) (by rw [Hl.out]; exact HR.out) (by rw [Hl.out, Hm.out]))
        go_wp2
        go_ret
        exact ⟨by rw [hall.out]; rfl, HB.out⟩
  · have hno := Lib.hid (kindsB_len (vs := vs) (fs := fs) (by rw [Hl.out, Hm.out]; exact hlm))
    have hd : ((l : Int) != (m : Int)) = true := by rw [bne_iff_ne]; omega
    go_enter Try.func54, Try.ntmps54
    go_wp2
    go_ret
    exact ⟨by rw [hno.out]; rfl, Below.refl _ _⟩

/-- What Fits answers. -/
def fitsI (xs : List SIn) (nm : ByteArray) (vs : List VIn) : Int := match xs.findIdx? fun x => nameIs nm x.name with
  | none => 12
  | some k => if kindsB vs ((xs[k]?.map (·.fs)).getD []) then 0 else 42
theorem fitsI_none {xs : List SIn} {nm : ByteArray} {vs : List VIn} (h : xs.findIdx? (fun x => nameIs nm x.name) = none) : fitsI xs nm vs = 12 := by unfold fitsI; rw [h]
theorem fitsI_some {xs : List SIn} {nm : ByteArray} {vs : List VIn} {k : Nat} {x : SIn} (h : xs.findIdx? (fun x => nameIs nm x.name) = some k) (hx : xs[k]? = some x) : fitsI xs nm vs = if kindsB vs x.fs then 0 else 42 := by unfold fitsI; rw [h]; simp [hx]

set_option maxHeartbeats 4000000 in
set_option maxRecDepth 100000 in
theorem fits_calls (sa : Option Addr) (sc : Nat) (xs : List SIn) (t d s : Int) (n : ByteArray) (a : Option Addr) (c : Nat) (vs : List VIn) (w : World) (hs : SRow w sa xs) (hsl : xs.length ≤ maxLen) (hn : n.size ≤ maxLen) (hv : VRow w a vs) (hl : vs.length ≤ maxLen) :
    Calls Try.prog 24 #[.slice sa xs.length sc, evV t d s n (.slice a vs.length c)] w fun e w' => e = .returned (.int .i64 (if rightE (pe t d s n vs) then fitsI xs n vs else 1)) ∧ Below w.heap.size w w' := by
  have hb0 : Below w.heap.size w (w.alloc (.cells #[.int .i64 t, .int .i64 d, .int .i64 s, .string n, .slice a vs.length c] 25)) := (Below.refl _ _).alloc (Nat.le_refl _) _
  have HR := Lib.hid (eright_calls t d s n a c vs (w.alloc (.cells #[.int .i64 t, .int .i64 d, .int .i64 s, .string n, .slice a vs.length c] 25)) hn (hv.below hb0) hl)
  have HP := Lib.hid (fun W (hb : Below w.heap.size w W) => place_calls sa sc xs n W (hs.below hb) hsl)
  have HE := Lib.hid (fun W (hb : Below w.heap.size w W) (x : SIn) (hx : FRow W x.fa x.fs) (hxl : x.fs.length ≤ maxLen) => equalF_calls a c vs x.fa x.fc x.fs W (hv.below hb) hl hx hxl)
  have HS := Lib.hid hs
  obtain ⟨l, hll⟩ : ∃ l, vs.length = l := ⟨_, rfl⟩
  obtain ⟨m, hmm⟩ : ∃ m, xs.length = m := ⟨_, rfl⟩
  have Hm := Lib.hid hmm
  rw [hll] at HR HE hl hb0 ⊢
  rw [hmm] at HP hsl ⊢
  have HB0 := Lib.hid hb0
  unfold maxLen at hl hsl
  clear hv hs hll hmm hb0
  cases hr : rightE (pe t d s n vs) with
  | false =>
    rw [hr] at HR
    go_enter Try.func24, Try.ntmps24
    go_wp2_with (go_at_call 52; refine HR.out.mono ?_; rintro e w1 ⟨rfl, hb1⟩)
    go_ret
    exact ⟨rfl, HB0.out.trans (hb1.mono HB0.out.size)⟩
  | true =>
  rw [hr] at HR
  cases hf : xs.findIdx? (fun x => nameIs n x.name) with
  | none =>
    rw [idxI_none hf] at HP
    have HN := Lib.hid (fitsI_none (vs := vs) hf)
    clear hf
    go_enter Try.func24, Try.ntmps24
    go_wp2_with (first
      | (go_at_call 52; refine HR.out.mono ?_; rintro e w1 ⟨rfl, hb1⟩; have x3 : w1.cell? ⟨w.heap.size, 3, none⟩ = some (.string n) := ekeep hb1 (by simp); have HB1 : Hid (Below w.heap.size w w1) := HB0.out.trans (hb1.mono HB0.out.size); clear hb1)
      | (go_at_call 48; refine (HP.out _ HB1.out).mono ?_; rintro e w2 ⟨rfl, hb2⟩))
    go_ret
    exact ⟨by rw [HN.out]; rfl, HB1.out.trans (hb2.mono HB1.out.size)⟩
  | some k =>
    obtain ⟨x, hx, hk, _⟩ := find_at hf
    rw [idxI_some hf] at HP
    have HN := Lib.hid (fitsI_some (vs := vs) hf hx)
    have Hx := Lib.hid hx
    rw [Hm.out] at hk
    clear hf hx
    go_enter Try.func24, Try.ntmps24
    go_upto_region 7 with (first
      | (go_at_call 52; refine HR.out.mono ?_; rintro e w1 ⟨rfl, hb1⟩; have x3 : w1.cell? ⟨w.heap.size, 3, none⟩ = some (.string n) := ekeep hb1 (by simp); have x4 : w1.cell? ⟨w.heap.size, 4, none⟩ = some (.slice a l c) := ekeep hb1 (by simp); have HB1 : Hid (Below w.heap.size w w1) := HB0.out.trans (hb1.mono HB0.out.size); clear hb1)
      | (go_at_call 48; refine (HP.out _ HB1.out).mono ?_; rintro e w2 ⟨rfl, hb2⟩))
    have HB2 : Hid (Below w.heap.size w w2) := HB1.out.trans (hb2.mono HB1.out.size)
    have y4 : w2.drew.cell? ⟨w.heap.size, 4, none⟩ = some (.slice a l c) := ekeep hb2 x4
    obtain ⟨A, rfl, c0, c1, hfr, hfl, _⟩ := (HS.out.below HB2.out) k x Hx.out
    have HCall := Lib.hid (HE.out w2.drew (vbelow_drew HB2.out) x hfr hfl)
    obtain ⟨nm, fa, fc, fs⟩ := x
    dsimp only at c0 c1 hfr hfl HCall HN
    unfold efld at c1
    have c1' : w2.drew.cell? ⟨(A.add (k * 2)).block, (A.add (k * 2)).off + 1, none⟩ = some (.slice fa fs.length fc) := c1
    have hk0 : (0 : Int) ≤ (k : Int) := by omega
    have hk1 : (k : Int) < (m : Int) := by omega
    have HB2d : Hid (Below w.heap.size w w2.drew) := vbelow_drew HB2.out
    clear c0 c1 hfr hb2 x3 x4
    cases hkb : kindsB vs fs with
    | true =>
      rw [hkb] at HCall HN
      go_region_held3 (fun W => W.cell? ⟨w.heap.size, 4, none⟩ = some (.slice a l c) ∧ W.cell? ⟨(A.add (k * 2)).block, (A.add (k * 2)).off + 1, none⟩ = some (.slice fa fs.length fc))
        ((refine ⟨?_, ?_⟩ <;> with_reducible assumption))
        (first | (go_at_call 54; refine HCall.out.mono ?_; rintro e w4 ⟨rfl, hb4⟩; have z0 := ekeep hb4 y4; have z1 := ekeep hb4 c1'))
      all_goals
        go_wp2
        go_ret
        exact ⟨by rw [HN.out]; rfl, HB2d.out.trans (hb4.mono HB2d.out.size)⟩
    | false =>
      rw [hkb] at HCall HN
      go_region_held3 (fun W => W.cell? ⟨w.heap.size, 4, none⟩ = some (.slice a l c) ∧ W.cell? ⟨(A.add (k * 2)).block, (A.add (k * 2)).off + 1, none⟩ = some (.slice fa fs.length fc))
        ((refine ⟨?_, ?_⟩ <;> with_reducible assumption))
        (first | (go_at_call 54; refine HCall.out.mono ?_; rintro e w4 ⟨rfl, hb4⟩; have z0 := ekeep hb4 y4; have z1 := ekeep hb4 c1'))
      all_goals
        go_wp2
        go_ret
        exact ⟨by rw [HN.out]; rfl, HB2d.out.trans (hb4.mono HB2d.out.size)⟩

end Go.Proofs.Ytfmlgckfcclojaa
