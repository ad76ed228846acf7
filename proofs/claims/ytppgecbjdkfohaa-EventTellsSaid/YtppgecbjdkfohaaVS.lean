/- The document's Digits and Put of values. -/
import Derived.Test.YtppgecbjdkfohaaVK
import Derived.Test.YtppgecbjdkfohaaF6
import Derived.Deep.RegionHeld3
namespace Go.Proofs.Ytppgecbjdkfohaa
open Go.RowKit Go.Lib Go.Op

set_option maxHeartbeats 2000000 in
set_option maxRecDepth 100000 in
theorem rdigits_calls (w : World) (n : Nat) (hn : n ≤ 9223372036854775807) :
    Calls Try.prog 58 #[.int .i64 n] w (PutPost w (digsN n)) := by
  obtain ⟨i0, hi, hz0, hz1, hz2⟩ := info_parts infoB8
  have hdl := digsN_size n hn
  go_enter Try.func58, Try.ntmps58
  go_wp2
  go_loopw [0, 3] (fun i v wr => ∃ (m : Nat) (ys : List UInt8), i = .int .i64 m ∧ m ≤ 9223372036854775807 ∧ Hid (DigsDone n m ys) ∧ Hid (wr.ownsRow w.heap.size 5 1 v ys.length (byteCells ys)) ∧ Hid (Below w.heap.size w wr)) (fun i _ _ => (intOf i).toNat)
  case atStart => exact ⟨n, [], rfl, hn, ⟨rfl, Nat.le_refl _⟩, World.ownsRow_nil _ _ _ _, Below.refl _ _⟩
  case round =>
    obtain ⟨m, ys, rfl, hm, HD, HO, HB⟩ := hrel
    have hlt := Lib.hid HO.out.lt
    have hys : ys.length ≤ 9 := by
      have h1 := congrArg List.length HD.out.1
      rw [List.length_append] at h1
      omega
    generalize hq : ys.length = q at *
    have hB2 : w.heap.size ≤ wr.heap.size := HB.out.size
    by_cases hge : 128 ≤ m
    · have hcs : (#[Value.int .u8 ((m : Int) % 128 + 128)] : Array Value).toList = byteCells [UInt8.ofNat (128 + m % 128)] := by
        simp [byteCells]
        omega
      have Hcs := Lib.hid hcs
      have HD2 := Lib.hid (HD.out.step hge)
      clear hdl hcs
      go_wp2_with (at_builtin; refine wpList_append_own _ rfl (.tmp 6) (.tmp 11) 40 rfl w.heap.size 5 i0 (.int .u8 0) 1 1 Try.underlying40 hi hz0 hz1 hz2 rfl (by decide) _ _ _ rfl (HO.out.alloc _) ⟨wr.heap.size, 0, none⟩ 1 1 (byteCells [UInt8.ofNat (128 + m % 128)]) rfl rfl (cells_new wr [UInt8.ofNat (128 + m % 128)] _ _ _ Hcs.out) (byteCells_one _) (by unfold maxLen; omega) (by omega) (by simp; omega) ?_; intro v2 w2 hown2 hgrow2 hnil2)
      have HB2 := Lib.hid ((HB.out.alloc hB2 _).grown hgrow2 (by simp; omega) (fun k hk => (hlt.out k hk).1))
      have HO2 : Hid (w2.ownsRow w.heap.size 5 1 v2 (ys ++ [UInt8.ofNat (128 + m % 128)]).length (byteCells (ys ++ [UInt8.ofNat (128 + m % 128)]))) := by
        show w2.ownsRow _ _ _ _ _ _
        have h9 := hown2
        rw [← byteCells_append] at h9
        have e9 : (ys ++ [UInt8.ofNat (128 + m % 128)]).length = q + 1 := by rw [← hq]; simp
        rw [e9]
        exact h9
      clear hown2 hgrow2 hnil2
      go_wp2
      go_roundw
      case rel => exact ⟨m / 128, _, by go_num, by omega, HD2, HO2, HB2⟩
      case measure => simp [intOf]; omega
    · have hcs : (#[Value.int .u8 (m : Int)] : Array Value).toList = byteCells [UInt8.ofNat m] := by
        simp [byteCells]
        omega
      have Hcs := Lib.hid hcs
      have hfin : digsN n = ys ++ [UInt8.ofNat m] := by rw [HD.out.1, digsN_lt (by omega)]
      have Hfin := Lib.hid hfin
      clear hdl hcs hfin
      go_wp2_with (at_builtin; refine wpList_append_own _ rfl (.tmp 15) (.tmp 18) 40 rfl w.heap.size 5 i0 (.int .u8 0) 1 1 Try.underlying40 hi hz0 hz1 hz2 rfl (by decide) _ _ _ rfl (HO.out.alloc _) ⟨wr.heap.size, 0, none⟩ 1 1 (byteCells [UInt8.ofNat m]) rfl rfl (cells_new wr [UInt8.ofNat m] _ _ _ Hcs.out) (byteCells_one _) (by unfold maxLen; omega) (by omega) (by simp; omega) ?_; intro v2 w2 hown2 hgrow2 hnil2)
      go_wp2
      go_ret
      refine ⟨_, rfl, ?_, (HB.out.alloc hB2 _).grown hgrow2 (by simp; omega) (fun k hk => (hlt.out k hk).1)⟩
      have h9 := hown2
      rw [← byteCells_append, ← Hfin.out] at h9
      have e9 : (digsN n).length = q + 1 := by rw [Hfin.out, ← hq]; simp
      rw [e9]
      exact h9

theorem keep_owns {w w' : World} {B : Nat} {e : TypeId} {q n : Nat} {v : Value} {xs : List Value} (h : w.ownsRow B e q v n xs) (hb : Below w.heap.size w w') : w'.ownsRow B e q v n xs :=
  h.kept (row := none) ⟨hb.os, hb.tape, hb.output, hb.size, fun q hq _ => hb.block q hq⟩ (by cases Value.ownBlock _ <;> simp)

/-- The builtin append of bytes, and of a string, as steps of a region that draws its order. -/
theorem vstep_append_brow {w : World} {ops : Array Oper} {o : Oper} {a : Act} {K : Act → World → Prop} {Q : Exit → Act → World → Prop} {E : Prop} (hgd : o.guard = none) (s x : Operand)
    (ho : o.op = .call { callee := .builtin .append, args := #[s, x], argTypes := #[40, 40] })
    {B : Nat} {bv : Value} {bs : List UInt8} (hb : BRow w bv bs) {v : Value} {l : Nat} {xs : List UInt8} (hown : w.ownsRow B 5 1 v l (byteCells xs)) (h63 : l + bs.length ≤ 140737488355328) (hB : B ≤ w.heap.size)
    (hs : a.eval s = v) (hx : a.eval x = bv)
    (h : ∀ v' w', w'.ownsRow B 5 1 v' (l + bs.length) (byteCells (xs ++ bs)) → w.grownBy w' v.ownBlock → K (a.put o.dst v') w') :
    if Region.wanted o (yielded ops a.tmps) = true then Oper.wp Try.prog o a w K Q else E := by
  have hw : Region.wanted o (yielded ops a.tmps) = true := by simp [Region.wanted, hgd]
  rw [if_pos hw]
  obtain ⟨v', w', hr, h2, h3⟩ := run_append_brow hb hown h63 hB o.type
  unfold Oper.wp execOp
  simp only [ho, resolve, invoke, builtin, Sem.run_bind, Sem.run_pure, Result.andThen_ok, List.map_toArray, List.map_cons, List.map_nil, hs, hx, hr]
  exact h v' w' h2 h3
theorem vstep_append_bstr {w : World} {ops : Array Oper} {o : Oper} {a : Act} {K : Act → World → Prop} {Q : Exit → Act → World → Prop} {E : Prop} (hgd : o.guard = none) (s x : Operand)
    (ho : o.op = .call { callee := .builtin .append, args := #[s, x], argTypes := #[40, 9] })
    {B : Nat} {t : ByteArray} {v : Value} {l : Nat} {xs : List UInt8} (hown : w.ownsRow B 5 1 v l (byteCells xs)) (h63 : l + t.size ≤ 140737488355328) (hB : B ≤ w.heap.size)
    (hs : a.eval s = v) (hx : a.eval x = .string t)
    (h : ∀ v' w', w'.ownsRow B 5 1 v' (l + t.size) (byteCells (xs ++ t.data.toList)) → w.grownBy w' v.ownBlock → K (a.put o.dst v') w') :
    if Region.wanted o (yielded ops a.tmps) = true then Oper.wp Try.prog o a w K Q else E := by
  have hw : Region.wanted o (yielded ops a.tmps) = true := by simp [Region.wanted, hgd]
  rw [if_pos hw]
  obtain ⟨i0, hi, hz0, hz1, hz2⟩ := info_parts infoB8
  obtain ⟨v', w', hr, h2, h3, _⟩ := run_append_own_string (P := Try.prog) w B 40 9 o.type 5 i0 Try.underlying40 Try.underlying9 hi hz0 hz1 hz2 v l _ hown t (by unfold maxLen; omega) h63 hB
  unfold Oper.wp execOp
  simp only [ho, resolve, invoke, builtin, Sem.run_bind, Sem.run_pure, Result.andThen_ok, List.map_toArray, List.map_cons, List.map_nil, hs, hx, hr]
  refine h v' w' ?_ h3
  rw [byteCells_append]
  exact h2

set_option maxHeartbeats 4000000 in
set_option maxRecDepth 100000 in
theorem rput_calls (k n : Int) (s : ByteArray) (w : World) (hs : s.size ≤ maxLen) :
    Calls Try.prog 59 #[.agg #[.int .i64 k, .int .i64 n, .string s]] w (PutPost w (putV ⟨k, n, s.data.toList⟩)) := by
  have HS := Lib.hid hs
  cases h1 : rightV k n s with
  | false =>
    rw [putV_not h1]
    clear hs
    go_enter Try.func59, Try.ntmps59
    go_wp2_with (go_at_call 35; (with_reducible refine (rright_calls k n s _ HS.out).mono ?_); rintro e w1 ⟨rfl, rfl⟩)
    go_ret
    exact ⟨_, rfl, World.ownsRow_nil _ _ _ _, by repeat' (first | exact Below.refl _ _ | refine Below.alloc ?_ (by simp <;> omega) _)⟩
  | true =>
  have hW0 : Below w.heap.size w ((w.alloc (.cells #[.int .i64 k, .int .i64 n, .string s] 52)).alloc (.cells #[.int .i64 k, .int .i64 n, .string s] 52)) := ((Below.refl _ _).alloc (Nat.le_refl _) _).alloc (by simp) _
  have hz0' : ((w.alloc (.cells #[.int .i64 k, .int .i64 n, .string s] 52)).alloc (.cells #[.int .i64 k, .int .i64 n, .string s] 52)).heap.size = w.heap.size + 2 := by simp
  have hc1 : ((w.alloc (.cells #[.int .i64 k, .int .i64 n, .string s] 52)).alloc (.cells #[.int .i64 k, .int .i64 n, .string s] 52)).cell? ⟨w.heap.size, 1, none⟩ = some (.int .i64 n) := by simp
  have hc2 : ((w.alloc (.cells #[.int .i64 k, .int .i64 n, .string s] 52)).alloc (.cells #[.int .i64 k, .int .i64 n, .string s] 52)).cell? ⟨w.heap.size, 2, none⟩ = some (.string s) := by simp
  have hc0 : ((w.alloc (.cells #[.int .i64 k, .int .i64 n, .string s] 52)).alloc (.cells #[.int .i64 k, .int .i64 n, .string s] 52)).cell? ⟨w.heap.size, 0, none⟩ = some (.int .i64 k) := by simp
  have hk3 := rightB_kind (v := ⟨k, n, s.data.toList⟩) h1
  dsimp only at hk3
  have HB0 := Lib.hid hW0
  rcases hk3 with rfl | rfl | rfl
  · obtain ⟨n1, n2, hse⟩ := rightB_1.1 h1
    rw [hse, putV_1 n1 n2]
    have hq := zig_lt n1 n2
    obtain ⟨q, hqe⟩ : ∃ q, zigN n = q := ⟨_, rfl⟩
    rw [hqe] at hq ⊢
    have hdl := digsN_six (n := q) (by omega)
    have hz : (if n < 0 then -2 * n - 1 else 2 * n) = (q : Int) := by rw [← hqe]; unfold zigN; split <;> omega
    have hcs : (#[Value.int .u8 1] : Array Value).toList = byteCells [1] := rfl
    have hse' : s = ⟨#[]⟩ := vempty hse
    subst hse'
    clear hse hqe hs hc2
    generalize hWe : (w.alloc (.cells #[.int .i64 1, .int .i64 n, .string ⟨#[]⟩] 52)).alloc (.cells #[.int .i64 1, .int .i64 n, .string ⟨#[]⟩] 52) = W0 at *
    have HO1 := Lib.hid ((ownsRow_new W0 [1] #[.int .u8 1] (B := w.heap.size) hW0.size (by unfold maxLen; simp) hcs))
    rw [hz0'] at HO1
    have HB1 := Lib.hid ((hW0.alloc hW0.size (.cells #[.int .u8 1] 5)))
    have HD := Lib.hid (rdigits_calls (W0.alloc (.cells #[.int .u8 1] 5)) q (by omega))
    have n1' : ∀ o, (W0.alloc o).cell? ⟨w.heap.size, 1, none⟩ = some (.int .i64 n) := fun o => (((Below.refl _ _).alloc (Nat.le_refl _) o).cell (World.block_lt_of_cell? _ _ hc1)).trans hc1
    have HLq : Hid (1 + (digsN q).length ≤ 140737488355328) := by show _ ≤ _; omega
    have hw2 : IntKind.i64.wrap (2 * n) = 2 * n := IntWalk.i64_in _ (by omega)
    have hw3 : IntKind.i64.wrap (-2 * n) = -2 * n := IntWalk.i64_in _ (by omega)
    have hw4 : IntKind.i64.wrap (-2 * n - 1) = -2 * n - 1 := IntWalk.i64_in _ (by omega)
    clear hW0 hcs
    by_cases hneg : n < 0
    · rw [if_pos hneg] at hz
      go_enter Try.func59, Try.ntmps59
      go_wp2_with (go_at_call 35; (with_reducible refine (rright_calls 1 n ⟨#[]⟩ _ HS.out).mono ?_); rintro e w1 ⟨rfl, rfl⟩)
      refine HD.out.mono ?_
      rintro _ w2 ⟨v2, rfl, hown2, hb2⟩
      have HP := Lib.hid (BRow.of_owns hown2)
      have HO2 := Lib.hid (keep_owns HO1.out hb2)
      have HB2 := Lib.hid (HB1.out.trans (hb2.mono HB1.out.size))
      clear hown2 hb2
      go_wp2_with ((at_builtin; refine wpList_append_brow rfl (.tmp 26) (.tmp 28) rfl HP.out HO2.out HLq.out HB2.out.size rfl rfl ?_; intro v3 w3 hown3 hgrow3; have HB3 := Lib.hid (HB2.out.grown hgrow3 HB2.out.size (fun q hq => (HO2.out.lt q hq).1)); have HO3 := Lib.hid hown3; clear hown3 hgrow3))
      go_wp2
      go_ret
      refine ⟨_, rfl, ?_, HB3.out⟩
      have h9 := HO3.out
      have e9 : (1 :: digsN q).length = 1 + (digsN q).length := by simp [Nat.add_comm]
      rw [e9]
      exact h9
    · rw [if_neg hneg] at hz
      go_enter Try.func59, Try.ntmps59
      go_wp2_with (go_at_call 35; (with_reducible refine (rright_calls 1 n ⟨#[]⟩ _ HS.out).mono ?_); rintro e w1 ⟨rfl, rfl⟩)
      refine HD.out.mono ?_
      rintro _ w2 ⟨v2, rfl, hown2, hb2⟩
      have HP := Lib.hid (BRow.of_owns hown2)
      have HO2 := Lib.hid (keep_owns HO1.out hb2)
      have HB2 := Lib.hid (HB1.out.trans (hb2.mono HB1.out.size))
      clear hown2 hb2
      go_wp2_with ((at_builtin; refine wpList_append_brow rfl (.tmp 26) (.tmp 28) rfl HP.out HO2.out HLq.out HB2.out.size rfl rfl ?_; intro v3 w3 hown3 hgrow3; have HB3 := Lib.hid (HB2.out.grown hgrow3 HB2.out.size (fun q hq => (HO2.out.lt q hq).1)); have HO3 := Lib.hid hown3; clear hown3 hgrow3))
      go_wp2
      go_ret
      refine ⟨_, rfl, ?_, HB3.out⟩
      have h9 := HO3.out
      have e9 : (1 :: digsN q).length = 1 + (digsN q).length := by simp [Nat.add_comm]
      rw [e9]
      exact h9
  · obtain ⟨rfl, h64⟩ := rightB_2.1 h1
    rw [putV_2 h64]
    have hsl : s.data.toList.length = s.size := by simp
    rw [hsl] at h64 ⊢
    have Hsl := Lib.hid hsl
    have hcs : (#[Value.int .u8 2] : Array Value).toList = byteCells [2] := rfl
    have hcs2 : (#[Value.int .u8 (s.size : Int)] : Array Value).toList = byteCells [UInt8.ofNat s.size] := by
      simp [byteCells]
      omega
    have hwu : IntKind.u8.wrap (s.size : Int) = (s.size : Int) := IntWalk.u8_in _ (by omega)
    clear hc1 hs hsl
    generalize hWe : (w.alloc (.cells #[.int .i64 2, .int .i64 0, .string s] 52)).alloc (.cells #[.int .i64 2, .int .i64 0, .string s] 52) = W0 at *
    have HO1 := Lib.hid ((ownsRow_new W0 [2] #[.int .u8 2] (B := w.heap.size + 1) (by omega) (by unfold maxLen; simp) hcs))
    rw [hz0'] at HO1
    have hk : ∀ (W : World) (o : Obj), Below W.heap.size W (W.alloc o) := fun W o => (Below.refl _ _).alloc (Nat.le_refl _) _
    have hc2' := ((hk W0 (.cells #[.int .u8 2] 5)).cell (World.block_lt_of_cell? _ _ hc2)).trans hc2
    have HB1 := Lib.hid (hW0.trans ((hk W0 (.cells #[.int .u8 2] 5)).mono hW0.size))
    have Hcs2 := Lib.hid hcs2
    clear hcs hcs2
    go_enter Try.func59, Try.ntmps59
    go_upto_region 11 with (go_at_call 35; (with_reducible refine (rright_calls 2 0 s _ HS.out).mono ?_); rintro e w1 ⟨rfl, rfl⟩)
    generalize hW1e : W0.alloc (.cells #[.int .u8 2] 5) = W1 at *
    have hz1' : W1.heap.size = w.heap.size + 3 := by rw [← hW1e]; simp; omega
    clear hW1e
    have HR := Lib.hid ((brow_new W1 [UInt8.ofNat s.size] #[.int .u8 (s.size : Int)] 5 (0, 0) Hcs2.out 1 (Nat.le_refl 1) (by unfold maxLen; simp)).below (vbelow_drew (Below.refl _ _)))
    have HOd : Hid ((W1.alloc (.cells #[.int .u8 (s.size : Int)] 5)).drew.ownsRow (w.heap.size + 1) 5 1 (.slice (some ⟨w.heap.size + 2, 0, none⟩) 1 1) 1 (byteCells [2])) := World.ownsRow.alloc HO1.out _
    rw [hz1'] at HR
    have HBd : Hid (Below w.heap.size w (W1.alloc (.cells #[.int .u8 (s.size : Int)] 5)).drew) := HB1.out.trans ((vbelow_drew (hk W1 _)).mono HB1.out.size)
    have hzd : w.heap.size + 1 ≤ (W1.alloc (.cells #[.int .u8 (s.size : Int)] 5)).drew.heap.size := by show _ ≤ (W1.alloc _).heap.size; simp; omega
    have HZd := Lib.hid hzd
    have m2 : W1.drew.cell? ⟨w.heap.size, 2, none⟩ = some (.string s) := hc2'
    have m3 : (W1.alloc (.cells #[.int .u8 (s.size : Int)] 5)).drew.cell? ⟨w.heap.size, 2, none⟩ = some (.string s) := ((hk W1 _).cell (World.block_lt_of_cell? _ _ hc2')).trans hc2'
    clear hzd hW0 hc0 hc2 hWe hz0' HB1 HO1 hk
    go_region_held3 (fun W => W.cell? ⟨w.heap.size, 2, none⟩ = some (.string s))
      (with_reducible assumption)
      (first
        | (refine vstep_append_brow rfl (.tmp 32) (.tmp 37) rfl HR.out HOd.out ?_ HZd.out ?_ ?_ ?_; (simp); (simp [Act.eval]); (simp [Act.eval]); intro v8 w8 hown8 hgrow8; have hb8 := (Below.refl (w.heap.size + 1) _).grown hgrow8 HZd.out (fun q hq => (HOd.out.lt q hq).1); have m4 := (hb8.cell (p := ⟨w.heap.size, 2, none⟩) (by dsimp only; omega)).trans m3; have HO8 := Lib.hid hown8; have HB8 := Lib.hid (HBd.out.trans (hb8.mono (Nat.le_succ _))); have HZ8 := Lib.hid (Nat.le_trans HZd.out hb8.size); clear hown8 hgrow8 hb8)
        | (refine vstep_append_bstr rfl (.tmp 38) (.tmp 40) rfl (t := s) HO8.out ?_ HZ8.out ?_ ?_ ?_; (simp; omega); (simp [Act.eval]); (simp [Act.eval]); intro v9 w9 hown9 hgrow9; have hb9 := (Below.refl (w.heap.size + 1) _).grown hgrow9 HZ8.out (fun q hq => (HO8.out.lt q hq).1); have m5 := (hb9.cell (p := ⟨w.heap.size, 2, none⟩) (by dsimp only; omega)).trans m4; have HO9 := Lib.hid hown9; have HB9 := Lib.hid (HB8.out.trans (hb9.mono (Nat.le_succ _))); clear hown9 hgrow9 hb9))
    all_goals
      go_wp2
      go_ret
      refine ⟨_, rfl, ?_, HB9.out⟩
      have h9 := ownsRow_base HO9.out (Nat.le_succ w.heap.size)
      have e9 : (2 :: UInt8.ofNat s.size :: s.data.toList).length = 1 + [UInt8.ofNat s.size].length + s.size := by simp; omega
      rw [e9]
      exact h9
  · obtain ⟨n1, n2, hse⟩ := rightB_3.1 h1
    rw [hse, putV_3 n1 n2]
    have hse' : s = ⟨#[]⟩ := vempty hse
    subst hse'
    have hcs : (#[Value.int .u8 3] : Array Value).toList = byteCells [3] := rfl
    obtain ⟨q, rfl⟩ : ∃ q : Nat, n = q := ⟨n.toNat, by omega⟩
    have hcs2 : (#[Value.int .u8 (q : Int)] : Array Value).toList = byteCells [UInt8.ofNat q] := by
      simp [byteCells]
      omega
    have hwu : IntKind.u8.wrap (q : Int) = (q : Int) := IntWalk.u8_in _ (by omega)
    rw [Int.toNat_natCast]
    clear hse hs hc2
    generalize hWe : (w.alloc (.cells #[.int .i64 3, .int .i64 (q : Int), .string ⟨#[]⟩] 52)).alloc (.cells #[.int .i64 3, .int .i64 (q : Int), .string ⟨#[]⟩] 52) = W0 at *
    have hk : ∀ (W : World) (o : Obj), Below W.heap.size W (W.alloc o) := fun W o => (Below.refl _ _).alloc (Nat.le_refl _) _
    have HO1 := Lib.hid ((ownsRow_new W0 [3] #[.int .u8 3] (B := w.heap.size) hW0.size (by unfold maxLen; simp) hcs))
    rw [hz0'] at HO1
    have hc1' := ((hk W0 (.cells #[.int .u8 3] 5)).cell (World.block_lt_of_cell? _ _ hc1)).trans hc1
    have HB1 := Lib.hid (hW0.trans ((hk W0 (.cells #[.int .u8 3] 5)).mono hW0.size))
    have hz1' : (W0.alloc (.cells #[.int .u8 3] 5)).heap.size = w.heap.size + 3 := by simp; omega
    have HP := Lib.hid (brow_new (W0.alloc (.cells #[.int .u8 3] 5)) [UInt8.ofNat q] #[.int .u8 (q : Int)] 5 (0, 0) hcs2 1 (Nat.le_refl 1) (by unfold maxLen; simp))
    have HO2 := Lib.hid (HO1.out.alloc (.cells #[.int .u8 (q : Int)] 5))
    have HB2 := Lib.hid (HB1.out.trans ((hk (W0.alloc (.cells #[.int .u8 3] 5)) (.cells #[.int .u8 (q : Int)] 5)).mono HB1.out.size))
    rw [hz1'] at HP
    clear hcs hcs2 hW0 hk
    go_enter Try.func59, Try.ntmps59
    go_wp2_with (first
      | (go_at_call 35; (with_reducible refine (rright_calls 3 q ⟨#[]⟩ _ HS.out).mono ?_); rintro e w1 ⟨rfl, rfl⟩)
      | (at_builtin; refine wpList_append_brow rfl (.tmp 44) (.tmp 48) rfl HP.out HO2.out (by simp) HB2.out.size rfl rfl ?_; intro v3 w3 hown3 hgrow3; have HB3 := Lib.hid (HB2.out.grown hgrow3 HB2.out.size (fun q hq => (HO2.out.lt q hq).1)); have HO3 := Lib.hid hown3; clear hown3 hgrow3))
    go_ret
    exact ⟨_, rfl, HO3.out, HB3.out⟩

end Go.Proofs.Ytppgecbjdkfohaa
