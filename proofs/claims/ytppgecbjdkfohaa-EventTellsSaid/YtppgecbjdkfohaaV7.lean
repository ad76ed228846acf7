/- Values: appendDigits, Put. -/
import Derived.Test.YtppgecbjdkfohaaV6
import Derived.Test.YtppgecbjdkfohaaF3
namespace Go.Proofs.Ytppgecbjdkfohaa
open Go.RowKit Go.Lib Go.Op

theorem byteCells_append (a b : List UInt8) : byteCells (a ++ b) = byteCells a ++ byteCells b := by simp [byteCells]

theorem owns_len {w : World} {B l : Nat} {v : Value} {xs : List UInt8} (h : w.ownsRow B 5 1 v l (byteCells xs)) : l = xs.length := by
  have := h.1
  simp [byteCells] at this
  omega

theorem digsN_size (n : Nat) (h : n ≤ 9223372036854775807) : (digsN n).length ≤ 9 := digsN_len 9 n (by omega) (by omega)

/-- What is left to write, and what is written. -/
def DigsDone (n m : Nat) (ys : List UInt8) : Prop := digsN n = ys ++ digsN m ∧ m ≤ n

theorem DigsDone.step {n m : Nat} {ys : List UInt8} (h : DigsDone n m ys) (hm : 128 ≤ m) : DigsDone n (m / 128) (ys ++ [UInt8.ofNat (128 + m % 128)]) := by
  obtain ⟨h1, h2⟩ := h
  refine ⟨?_, by omega⟩
  rw [h1, digsN_ge hm]
  simp

set_option maxHeartbeats 1000000 in
set_option maxRecDepth 100000 in
theorem appendDigits_calls (w : World) (B l : Nat) (v : Value) (xs : List UInt8) (n : Nat) (hn : n ≤ 9223372036854775807) (hown : w.ownsRow B 5 1 v l (byteCells xs)) (hl : l ≤ 10000) (hB : B ≤ w.heap.size) :
    Calls Try.prog 83 #[v, .int .i64 n] w fun e w' => ∃ v', e = .returned v' ∧ w'.ownsRow B 5 1 v' (l + (digsN n).length) (byteCells (xs ++ digsN n)) ∧ Below B w w' := by
  obtain ⟨i0, hi, hz0, hz1, hz2⟩ := info_parts infoB8
  have hdl := digsN_size n hn
  have Hown := Lib.hid hown
  obtain rfl := owns_len hown
  clear hown
  go_enter Try.func83, Try.ntmps83
  go_wp2
  go_loopw [0, 1] (fun v i wr => ∃ (m : Nat) (ys : List UInt8), i = .int .i64 m ∧ m ≤ 9223372036854775807 ∧ Hid (DigsDone n m ys) ∧ Hid (wr.ownsRow B 5 1 v (xs ++ ys).length (byteCells (xs ++ ys))) ∧ Hid (Below B w wr)) (fun _ i _ => (intOf i).toNat)
  case atStart => exact ⟨n, [], rfl, hn, ⟨rfl, Nat.le_refl _⟩, by show w.ownsRow _ _ _ _ _ _; rw [List.append_nil]; exact Hown.out, Below.refl _ _⟩
  case round =>
    obtain ⟨m, ys, rfl, hm, HD, HO, HB⟩ := hrel
    have hlt := Lib.hid HO.out.lt
    have hys : ys.length ≤ 9 := by
      have h1 := congrArg List.length HD.out.1
      rw [List.length_append] at h1
      omega
    have hxy : (xs ++ ys).length ≤ 10009 := by rw [List.length_append]; omega
    generalize hq : (xs ++ ys).length = q at *
    have hB2 : B ≤ wr.heap.size := Nat.le_trans hB HB.out.size
    by_cases hge : 128 ≤ m
    · have hcs : (#[Value.int .u8 (128 + (m : Int) % 128)] : Array Value).toList = byteCells [UInt8.ofNat (128 + m % 128)] := by
        simp [byteCells]
        omega
      have Hcs := Lib.hid hcs
      have HD2 := Lib.hid (HD.out.step hge)
      clear hdl hcs
      go_wp2_with (at_builtin; refine wpList_append_own _ rfl (.tmp 7) (.tmp 12) 40 rfl B 5 i0 (.int .u8 0) 1 1 Try.underlying40 hi hz0 hz1 hz2 rfl (by decide) _ _ _ rfl (HO.out.alloc _) ⟨wr.heap.size, 0, none⟩ 1 1 (byteCells [UInt8.ofNat (128 + m % 128)]) rfl rfl (cells_new wr [UInt8.ofNat (128 + m % 128)] _ _ _ Hcs.out) (byteCells_one _) (by unfold maxLen; omega) (by omega) (by simp; omega) ?_; intro v2 w2 hown2 hgrow2 hnil2)
      have HB2 := Lib.hid ((HB.out.alloc hB2 _).grown hgrow2 (by simp; omega) (fun k hk => (hlt.out k hk).1))
      have HO2 : Hid (w2.ownsRow B 5 1 v2 (xs ++ (ys ++ [UInt8.ofNat (128 + m % 128)])).length (byteCells (xs ++ (ys ++ [UInt8.ofNat (128 + m % 128)])))) := by
        show w2.ownsRow _ _ _ _ _ _
        have h9 := hown2
        rw [← byteCells_append, List.append_assoc] at h9
        have e9 : (xs ++ (ys ++ [UInt8.ofNat (128 + m % 128)])).length = q + 1 := by rw [← hq]; simp; omega
        rw [e9]
        exact h9
      clear hown2 hgrow2 hnil2
      go_wp2
      go_roundw
      case rel => exact ⟨m / 128, _, by go_num, by omega, HD2, HO2, HB2⟩
      case measure => simp [intOf]; omega
    · have hcs : (#[Value.int .u8 (m : Int)] : Array Value).toList = byteCells [UInt8.ofNat m] := by
        simp [byteCells]
        omega
      have Hcs := Lib.hid hcs
      have hfin : digsN n = ys ++ [UInt8.ofNat m] := by rw [HD.out.1, digsN_lt (by omega)]
      have Hfin := Lib.hid hfin
      clear hdl hcs hfin
      go_wp2_with (at_builtin; refine wpList_append_own _ rfl (.tmp 16) (.tmp 19) 40 rfl B 5 i0 (.int .u8 0) 1 1 Try.underlying40 hi hz0 hz1 hz2 rfl (by decide) _ _ _ rfl (HO.out.alloc _) ⟨wr.heap.size, 0, none⟩ 1 1 (byteCells [UInt8.ofNat m]) rfl rfl (cells_new wr [UInt8.ofNat m] _ _ _ Hcs.out) (byteCells_one _) (by unfold maxLen; omega) (by omega) (by simp; omega) ?_; intro v2 w2 hown2 hgrow2 hnil2)
      go_wp2
      go_ret
      refine ⟨_, rfl, ?_, (HB.out.alloc hB2 _).grown hgrow2 (by simp; omega) (fun k hk => (hlt.out k hk).1)⟩
      have h9 := hown2
      rw [← byteCells_append, List.append_assoc, ← Hfin.out] at h9
      have e9 : xs.length + (digsN n).length = q + 1 := by rw [Hfin.out, ← hq]; simp; omega
      rw [e9]
      exact h9

/-- What Put leaves. -/
def PutPost (w : World) (bs : List UInt8) (e : Ending) (w' : World) : Prop := ∃ v, e = .returned v ∧ w'.ownsRow w.heap.size 5 1 v bs.length (byteCells bs) ∧ Below w.heap.size w w'

theorem putV_written {k n : Int} {s : ByteArray} (h : rightV k n s = true) : putV ⟨k, n, s.data.toList⟩ = UInt8.ofNat k.toNat :: (digsN (writtenV k n s) ++ s.data.toList) := by
  rcases rightB_kind h with h1 | h1 | h1
  · obtain rfl : k = 1 := h1
    obtain ⟨h2, h3, h4⟩ := rightB_1.1 h
    rw [h4, putV_1 h2 h3, List.append_nil]
    rfl
  · obtain rfl : k = 2 := h1
    obtain ⟨rfl, h3⟩ := rightB_2.1 h
    rw [putV_2 h3]
    have e : writtenV 2 0 s = s.data.toList.length := by show s.size = _; simp
    rw [e, digsN_lt (by omega)]
    rfl
  · obtain rfl : k = 3 := h1
    obtain ⟨h2, h3, h4⟩ := rightB_3.1 h
    rw [h4, putV_3 h2 h3, List.append_nil]
    have e : writtenV 3 n s = n.toNat := rfl
    rw [e, digsN_lt (by omega)]
    rfl

theorem writtenV_le {k n : Int} {s : ByteArray} (h : rightV k n s = true) : writtenV k n s ≤ 2199023255552 ∧ s.size ≤ 64 ∧ 1 ≤ k ∧ k ≤ 3 := by
  have hsl : s.data.toList.length = s.size := by simp
  rcases rightB_kind h with h1 | h1 | h1
  · obtain rfl : k = 1 := h1
    obtain ⟨h2, h3, h4⟩ := rightB_1.1 h
    rw [h4] at hsl
    simp at hsl
    exact ⟨zig_lt h2 h3, by omega, by omega, by omega⟩
  · obtain rfl : k = 2 := h1
    obtain ⟨_, h3⟩ := rightB_2.1 h
    refine ⟨?_, by omega, by omega, by omega⟩
    show s.size ≤ _
    omega
  · obtain rfl : k = 3 := h1
    obtain ⟨h2, h3, h4⟩ := rightB_3.1 h
    rw [h4] at hsl
    simp at hsl
    refine ⟨?_, by omega, by omega, by omega⟩
    show n.toNat ≤ _
    omega

theorem ownsRow_new (w : World) (bs : List UInt8) (cs : Array Value) {B : Nat} (hB : B ≤ w.heap.size) (hm : bs.length ≤ maxLen) (h : cs.toList = byteCells bs) : (w.alloc (.cells cs 5)).ownsRow B 5 1 (.slice (some ⟨w.heap.size, 0, none⟩) bs.length bs.length) bs.length (byteCells bs) := by
  have hsz : cs.size = bs.length := by
    have := congrArg List.length h
    simpa [byteCells] using this
  exact ⟨by simp [byteCells], .inr ⟨w.heap.size, bs.length, cs, rfl, hB, heap_alloc_new w _, Nat.le_refl _, hm, by omega, by rw [← hsz, Nat.mul_one, ← h]; exact List.take_length⟩⟩

theorem ownsRow_base {w : World} {B B' : Nat} {t : TypeId} {s n : Nat} {v : Value} {xs : List Value} (h : w.ownsRow B t s v n xs) (hb : B' ≤ B) : w.ownsRow B' t s v n xs :=
  ⟨h.1, h.2.imp id fun ⟨g, cap, cur, h1, h2, h3⟩ => ⟨g, cap, cur, h1, Nat.le_trans hb h2, h3⟩⟩

set_option maxHeartbeats 4000000 in
set_option maxRecDepth 100000 in
theorem vput_calls (k n : Int) (s : ByteArray) (w : World) (hs : s.size ≤ maxLen) :
    Calls Try.prog 57 #[.agg #[.int .i64 k, .int .i64 n, .string s]] w (PutPost w (putV ⟨k, n, s.data.toList⟩)) := by
  cases h1 : rightV k n s with
  | false =>
    rw [putV_not h1]
    go_enter Try.func57, Try.ntmps57
    go_wp2_with (go_at_call 81; refine (vright_calls _ _ _ _ (by assumption)).mono ?_; rintro e w1 ⟨rfl, rfl⟩)
    go_ret
    exact ⟨_, rfl, World.ownsRow_nil _ _ _ _, by repeat' (first | exact Below.refl _ _ | refine Below.alloc ?_ (by simp <;> omega) _)⟩
  | true =>
    rw [putV_written h1]
    obtain ⟨hw1, hw2, hw3, hw4⟩ := writtenV_le h1
    have hdl := digsN_six (n := writtenV k n s) (by omega)
    have HW := Lib.hid (fun W => written_calls k n s W hs h1)
    obtain ⟨q, hq⟩ : ∃ q, writtenV k n s = q := ⟨_, rfl⟩
    rw [hq] at HW hdl hw1 ⊢
    have hsc : strCells s = byteCells s.data.toList := rfl
    have Hsc := Lib.hid hsc
    have hcs : (#[Value.int .u8 k] : Array Value).toList = byteCells [UInt8.ofNat k.toNat] := by
      simp [byteCells]
      omega
    have hsl : s.data.toList.length = s.size := by simp
    have Hsl := Lib.hid hsl
    obtain ⟨i0, hi, hz0, hz1, hz2⟩ := info_parts infoB8
    have HA : Hid (∀ W, W.cell? ⟨w.heap.size, 0, none⟩ = some (.int .i64 k) → W.cell? ⟨w.heap.size, 1, none⟩ = some (.int .i64 n) → W.cell? ⟨w.heap.size, 2, none⟩ = some (.string s) → Below w.heap.size w W → w.heap.size + 1 ≤ W.heap.size → ∀ v, W.ownsRow (w.heap.size + 1) 5 1 v 1 (byteCells [UInt8.ofNat k.toNat]) →
        Calls Try.prog 83 #[v, .int .i64 q] W fun e w' => ∃ v', e = .returned v' ∧ w'.cell? ⟨w.heap.size, 0, none⟩ = some (.int .i64 k) ∧ w'.cell? ⟨w.heap.size, 1, none⟩ = some (.int .i64 n) ∧ w'.cell? ⟨w.heap.size, 2, none⟩ = some (.string s) ∧ Hid (w'.ownsRow (w.heap.size + 1) 5 1 v' (1 + (digsN q).length) (byteCells ([UInt8.ofNat k.toNat] ++ digsN q))) ∧ Hid (Below w.heap.size w w') ∧ Hid (w.heap.size + 1 ≤ w'.heap.size)) :=
      fun W c0 c1 c2 hb hz v hv => (appendDigits_calls W (w.heap.size + 1) 1 v [UInt8.ofNat k.toNat] q (by omega) hv (by omega) hz).mono fun e w' ⟨v', e1, e2, e3⟩ => by
        have kk : ∀ {o : Nat} {x : Value}, W.cell? ⟨w.heap.size, o, none⟩ = some x → w'.cell? ⟨w.heap.size, o, none⟩ = some x := fun hx => (e3.cell (by simp)).trans hx
        exact ⟨v', e1, kk c0, kk c1, kk c2, e2, hb.trans (e3.mono (by omega)), Nat.le_trans hz e3.size⟩
    go_enter Try.func57, Try.ntmps57
    go_wp2_with (go_at_call 81; refine (vright_calls _ _ _ _ (by assumption)).mono ?_; rintro e w1 ⟨rfl, rfl⟩)
    obtain ⟨W0, hW0⟩ : ∃ W0, W0 = (w.alloc (.cells #[.int .i64 k, .int .i64 n, .string s] 52)).alloc (.cells #[.int .i64 k, .int .i64 n, .string s] 52) := ⟨_, rfl⟩
    have c0 : W0.cell? ⟨w.heap.size, 0, none⟩ = some (.int .i64 k) := by rw [hW0]; simp
    have c1 : W0.cell? ⟨w.heap.size, 1, none⟩ = some (.int .i64 n) := by rw [hW0]; simp
    have c2 : W0.cell? ⟨w.heap.size, 2, none⟩ = some (.string s) := by rw [hW0]; simp
    have hb : Below w.heap.size w W0 := by rw [hW0]; repeat' (first | exact Below.refl _ _ | refine Below.alloc ?_ (by simp <;> omega) _)
    have hz : w.heap.size + 1 < W0.heap.size := by rw [hW0]; simp
    have m0 := World.new_ne W0 _ c0
    have m1 := World.new_ne W0 _ c1
    have m2 := World.new_ne W0 _ c2
    have hbW : Below W0.heap.size W0 (((W0.alloc (.cells #[.int .u8 k] 5)).alloc (.cells #[.int .i64 k, .int .i64 n, .string s] 52)).drew) := vbelow_drew (((Below.refl _ _).alloc (Nat.le_refl _) _).alloc (by simp) _)
    have HAA := Lib.hid (HA.out _ ((hbW.cell (World.block_lt_of_cell? _ _ c0)).trans c0) ((hbW.cell (World.block_lt_of_cell? _ _ c1)).trans c1) ((hbW.cell (World.block_lt_of_cell? _ _ c2)).trans c2) (hb.trans (hbW.mono hb.size)) (Nat.le_trans (Nat.le_of_lt hz) hbW.size) _
      (show (((W0.alloc (.cells #[.int .u8 k] 5)).alloc (.cells #[.int .i64 k, .int .i64 n, .string s] 52)).drew).ownsRow (w.heap.size + 1) 5 1 (.slice (some ⟨W0.heap.size, 0, none⟩) 1 1) 1 (byteCells [UInt8.ofNat k.toNat]) from
        (ownsRow_new W0 [UInt8.ofNat k.toNat] #[.int .u8 k] (Nat.le_of_lt hz) (by unfold maxLen; simp) hcs).alloc _))
    have hbW2 : Below W0.heap.size W0 (((W0.alloc (.cells #[.int .i64 k, .int .i64 n, .string s] 52)).alloc (.cells #[.int .u8 k] 5)).drew) := vbelow_drew (((Below.refl _ _).alloc (Nat.le_refl _) _).alloc (by simp) _)
    have HAB := Lib.hid (HA.out _ ((hbW2.cell (World.block_lt_of_cell? _ _ c0)).trans c0) ((hbW2.cell (World.block_lt_of_cell? _ _ c1)).trans c1) ((hbW2.cell (World.block_lt_of_cell? _ _ c2)).trans c2) (hb.trans (hbW2.mono hb.size)) (Nat.le_trans (Nat.le_of_lt hz) hbW2.size) (.slice (some ⟨W0.heap.size + 1, 0, none⟩) 1 1)
      (show (((W0.alloc (.cells #[.int .i64 k, .int .i64 n, .string s] 52)).alloc (.cells #[.int .u8 k] 5)).drew).ownsRow (w.heap.size + 1) 5 1 (.slice (some ⟨W0.heap.size + 1, 0, none⟩) 1 1) 1 (byteCells [UInt8.ofNat k.toNat]) by
        have h9 := ownsRow_new (W0.alloc (.cells #[.int .i64 k, .int .i64 n, .string s] 52)) [UInt8.ofNat k.toNat] #[.int .u8 k] (B := w.heap.size + 1) (by simp; omega) (by unfold maxLen; simp) hcs
        rw [show (W0.alloc (.cells #[.int .i64 k, .int .i64 n, .string s] 52)).heap.size = W0.heap.size + 1 by simp] at h9
        exact h9))
    rw [← hW0]
    clear hW0 hb hz hcs hsc hsl h1 hq hbW HA hbW2
    have hwr : IntKind.u8.wrap k = k := IntWalk.u8_in _ (by omega)
    go_region_held3 (fun W => W.cell? ⟨w.heap.size, 0, none⟩ = some (.int .i64 k) ∧ W.cell? ⟨w.heap.size, 1, none⟩ = some (.int .i64 n) ∧ W.cell? ⟨w.heap.size, 2, none⟩ = some (.string s))
      (first | (refine ⟨?_, ?_, ?_⟩ <;> assumption) | go_keep)
      (first
        | (go_at_call 84; refine (HW.out _).mono ?_; rintro e w3 ⟨rfl, rfl⟩)
        | (go_at_call 83; (with_reducible refine HAA.out.mono ?_); rintro e w3 ⟨v3, rfl, x0, x1, x2, x3, x4, x5⟩)
        | (go_at_call 83; (with_reducible refine HAB.out.mono ?_); rintro e w3 ⟨v3, rfl, x0, x1, x2, x3, x4, x5⟩))
    all_goals
      clear hwr HAA HAB m0 m1 m2
      go_wp2_with (at_builtin; refine wpList_append_own_string _ rfl (.tmp 14) (.tmp 16) 40 9 rfl (w.heap.size + 1) 5 i0 Try.underlying40 Try.underlying9 hi hz0 hz1 hz2 _ _ _ rfl x3.out s rfl (by unfold maxLen; omega) (by omega) x5.out ?_; intro v6 w6 hown6 hgrow6 hnil6)
      go_wp2
      go_ret
      refine ⟨_, rfl, ?_, x4.out.grown hgrow6 x4.out.size (fun g hg => Nat.le_trans (Nat.le_succ _) (x3.out.lt g hg).1)⟩
      have h9 := ownsRow_base hown6 (Nat.le_succ w.heap.size)
      rw [Hsc.out, ← byteCells_append] at h9
      have e9 : (UInt8.ofNat k.toNat :: (digsN q ++ s.data.toList)).length = 1 + (digsN q).length + s.size := by
        rw [List.length_cons, List.length_append, Hsl.out]; omega
      rw [e9]
      exact h9

end Go.Proofs.Ytppgecbjdkfohaa
