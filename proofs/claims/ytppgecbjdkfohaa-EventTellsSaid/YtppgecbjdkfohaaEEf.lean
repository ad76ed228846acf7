/- The document's Put of events. -/
import Derived.Test.YtppgecbjdkfohaaEUe
import Derived.Test.YtppgecbjdkfohaaEAe
import Derived.Test.YtppgecbjdkfohaaECe
import Derived.Test.YtppgecbjdkfohaaVS
namespace Go.Proofs.Ytppgecbjdkfohaa
open Go.RowKit Go.Lib Go.Op

/-- Bytes that grow beside an event's box. -/
structure PO (w : World) (t d s : Int) (n : ByteArray) (u : Value) (v : Value) (xs : List UInt8) (W : World) : Prop where
  c0 : W.cell? ⟨w.heap.size, 0, none⟩ = some (.int .i64 t)
  c1 : W.cell? ⟨w.heap.size, 1, none⟩ = some (.int .i64 d)
  c2 : W.cell? ⟨w.heap.size, 2, none⟩ = some (.int .i64 s)
  c3 : W.cell? ⟨w.heap.size, 3, none⟩ = some (.string n)
  c4 : W.cell? ⟨w.heap.size, 4, none⟩ = some u
  own : W.ownsRow (w.heap.size + 1) 5 1 v xs.length (byteCells xs)
  hb : Below w.heap.size w W
  lt : w.heap.size + 1 ≤ W.heap.size

theorem PO.below {w : World} {t d s : Int} {n : ByteArray} {u v : Value} {xs : List UInt8} {W W' : World} (h : PO w t d s n u v xs W) (hb : Below W.heap.size W W') : PO w t d s n u v xs W' :=
  ⟨ekeep hb h.c0, ekeep hb h.c1, ekeep hb h.c2, ekeep hb h.c3, ekeep hb h.c4, eowns_of_block h.own (fun g hg => hb.block g (h.own.lt g hg).2), h.hb.trans (hb.mono h.hb.size), Nat.le_trans h.lt hb.size⟩
theorem PO.app {w : World} {t d s : Int} {n : ByteArray} {u v : Value} {xs : List UInt8} {W W' : World} (h : PO w t d s n u v xs W) {v' : Value} {bs : List UInt8} {l : Nat} (ho : W'.ownsRow (w.heap.size + 1) 5 1 v' (xs.length + l) (byteCells (xs ++ bs))) (hg : W.grownBy W' v.ownBlock) (hl : bs.length = l) : PO w t d s n u v' (xs ++ bs) W' := by
  have hb : Below (w.heap.size + 1) W W' := (Below.refl _ _).grown hg h.lt (fun q hq => (h.own.lt q hq).1)
  have k : ∀ {i : Nat} {x : Value}, W.cell? ⟨w.heap.size, i, none⟩ = some x → W'.cell? ⟨w.heap.size, i, none⟩ = some x := fun hx => (hb.cell (by dsimp only; omega)).trans hx
  refine ⟨k h.c0, k h.c1, k h.c2, k h.c3, k h.c4, ?_, h.hb.trans (hb.mono (Nat.le_succ _)), Nat.le_trans h.lt hb.size⟩
  rw [List.length_append, hl]
  exact ho
theorem PO.start (w : World) (t d s : Int) (n : ByteArray) (u : Value) : PO w t d s n u (.slice none 0 0) [] (w.alloc (.cells #[.int .i64 t, .int .i64 d, .int .i64 s, .string n, u] 25)) :=
  ⟨new_cell _ _ _ rfl rfl, new_cell _ _ _ rfl rfl, new_cell _ _ _ rfl rfl, new_cell _ _ _ rfl rfl, new_cell _ _ _ rfl rfl, World.ownsRow_nil _ _ _ _, (Below.refl _ _).alloc (Nat.le_refl _) _, by simp⟩
theorem PO.first {w : World} {t d s : Int} {n : ByteArray} {u v v' : Value} {bs : List UInt8} {W W' : World} (h : PO w t d s n u v [] W) (hb : Below W.heap.size W W') (ho : W'.ownsRow W.heap.size 5 1 v' bs.length (byteCells bs)) : PO w t d s n u v' bs W' :=
  ⟨ekeep hb h.c0, ekeep hb h.c1, ekeep hb h.c2, ekeep hb h.c3, ekeep hb h.c4, ownsRow_base ho h.lt, h.hb.trans (hb.mono h.hb.size), Nat.le_trans h.lt hb.size⟩

theorem body_left {t d s : Nat} {n : ByteArray} {vs : List VIn} : bodyE (pe t d s n vs) = ((((((digsN t ++ digsN d) ++ digsN s) ++ digsN n.size) ++ n.data.toList) ++ digsN vs.length) ++ putVs ((vs.take vs.length).map pv)) := by
  have hn : n.data.toList.length = n.size := by simp
  unfold bodyE pe
  simp only [List.length_map, hn, List.append_assoc, List.take_length, Int.toNat_natCast]

set_option maxHeartbeats 8000000 in
set_option maxRecDepth 100000 in
theorem reput_calls (t d s : Int) (n : ByteArray) (a : Option Addr) (c : Nat) (vs : List VIn) (w : World) (hn : n.size ≤ maxLen) (hv : VRow w a vs) (hl : vs.length ≤ maxLen) :
    Calls Try.prog 27 #[evV t d s n (.slice a vs.length c)] w (PutPost w (putE (pe t d s n vs))) := by
  have hb0 : Below w.heap.size w (w.alloc (.cells #[.int .i64 t, .int .i64 d, .int .i64 s, .string n, .slice a vs.length c] 25)) := (Below.refl _ _).alloc (Nat.le_refl _) _
  have HR := Lib.hid (rrightE_calls t d s n a c vs (w.alloc (.cells #[.int .i64 t, .int .i64 d, .int .i64 s, .string n, .slice a vs.length c] 25)) hn (hv.below hb0) hl)
  cases hr : rightE (pe t d s n vs) with
  | false =>
    rw [hr] at HR
    rw [putE_not hr]
    have HB0 := Lib.hid hb0
    clear hv hb0 hr
    go_enter Try.func27, Try.ntmps27
    go_wp2_with (go_at_call 55; (with_reducible refine HR.out.mono ?_); rintro e w1 ⟨rfl, hb1⟩)
    go_ret
    exact ⟨_, rfl, World.ownsRow_nil _ _ _ _, HB0.out.trans (hb1.mono HB0.out.size)⟩
  | true =>
  rw [hr] at HR
  rw [putE_right hr]
  obtain ⟨⟨t1, t2⟩, ⟨s1, s2⟩, ⟨d1, d2⟩, hw, h8, hall⟩ := rightE_iff.1 hr
  have hn16 := (wordB_len hw).2
  dsimp only [pe] at t1 t2 s1 s2 d1 d2 hn16 h8
  rw [List.length_map] at h8
  have hnn : n.data.toList.length = n.size := by simp
  rw [hnn] at hn16
  obtain ⟨t, rfl⟩ : ∃ q : Nat, t = q := ⟨t.toNat, by omega⟩
  obtain ⟨d, rfl⟩ : ∃ q : Nat, d = q := ⟨d.toNat, by omega⟩
  obtain ⟨s, rfl⟩ : ∃ q : Nat, s = q := ⟨s.toNat, by omega⟩
  have HV := Lib.hid hv
  obtain ⟨i0, hi, hz0, hz1, hz2⟩ := info_parts infoB8
  obtain ⟨l, hll⟩ : ∃ l, vs.length = l := ⟨_, rfl⟩
  have Hl := Lib.hid hll
  have Hbody := Lib.hid (body_left (t := t) (d := d) (s := s) (n := n) (vs := vs))
  have HP0 := Lib.hid (PO.start w t d s n (.slice a vs.length c))
  rw [hll] at HR hb0 h8 HP0 ⊢
  have hdt := digsN_six (n := t) (by omega)
  have hdd := digsN_six (n := d) (by omega)
  have hds := digsN_six (n := s) (by omega)
  have hdn := digsN_six (n := n.size) (by omega)
  have hdl := digsN_six (n := l) (by omega)
  have Hnn := Lib.hid hnn
  have Hsc : Hid (strCells n = byteCells n.data.toList) := rfl
  clear hr hw hall hll hb0 hv hl hnn
  go_enter Try.func27, Try.ntmps27
  go_wp2_with (go_at_call 55; (with_reducible refine HR.out.mono ?_); rintro e w1 ⟨rfl, hb1⟩; have HP := Lib.hid (HP0.out.below hb1); have p0 := HP.out.c0; clear hb1)
  refine (rdigits_calls _ t (by omega)).mono ?_
  rintro _ w2 ⟨v2, rfl, hown2, hb2⟩
  have HP := Lib.hid (HP.out.first hb2 hown2)
  have p1 := HP.out.c1
  clear hb2 hown2 p0 HR HP0
  go_wp2_with fail
  refine (rdigits_calls _ d (by omega)).mono ?_
  rintro _ w3 ⟨v3, rfl, hown3, hb3⟩
  have HP := Lib.hid (HP.out.below hb3)
  have HRw := Lib.hid (BRow.of_owns hown3)
  have HL : Hid ((digsN t).length + (digsN d).length ≤ 140737488355328) := by show _ ≤ _; omega
  clear hb3 hown3 p1
  go_wp2_with (at_builtin; refine wpList_append_brow rfl (.tmp 11) (.tmp 14) rfl HRw.out HP.out.own HL.out HP.out.lt rfl rfl ?_; intro v4 w4 hown4 hgrow4; have HP := Lib.hid (HP.out.app hown4 hgrow4 rfl); have p2 := HP.out.c2; clear hown4 hgrow4)
  refine (rdigits_calls _ s (by omega)).mono ?_
  rintro _ w5 ⟨v5, rfl, hown5, hb5⟩
  have HP := Lib.hid (HP.out.below hb5)
  have HRw := Lib.hid (BRow.of_owns hown5)
  have HL : Hid ((digsN t ++ digsN d).length + (digsN s).length ≤ 140737488355328) := by show _ ≤ _; have h9 := Hnn.out; (try simp only [List.length_append]); omega
  clear p2
  clear hb5 hown5
  go_wp2_with (first
    | (at_builtin; refine wpList_append_brow rfl (.tmp 16) (.tmp 19) rfl HRw.out HP.out.own HL.out HP.out.lt rfl rfl ?_; intro v6 w6 hown6 hgrow6; have HP := Lib.hid (HP.out.app hown6 hgrow6 rfl); have p3 := HP.out.c3; clear hown6 hgrow6))
  refine (rdigits_calls _ n.size (by omega)).mono ?_
  rintro _ w7 ⟨v7, rfl, hown7, hb7⟩
  have HP := Lib.hid (HP.out.below hb7)
  have HRw := Lib.hid (BRow.of_owns hown7)
  have HL : Hid ((digsN t ++ digsN d ++ digsN s).length + (digsN n.size).length ≤ 140737488355328) := by show _ ≤ _; have h9 := Hnn.out; (try simp only [List.length_append]); omega
  clear p3
  have HL2 : Hid ((digsN t ++ digsN d ++ digsN s ++ digsN n.size).length + n.size ≤ 140737488355328) := by show _ ≤ _; simp only [List.length_append]; omega
  have HL3 : Hid ((digsN t ++ digsN d ++ digsN s ++ digsN n.size).length + n.size ≤ maxLen) := by show _ ≤ _; unfold maxLen; simp only [List.length_append]; omega
  clear hb7 hown7
  go_wp2_with (first
    | (at_builtin; refine wpList_append_brow rfl (.tmp 21) (.tmp 25) rfl HRw.out HP.out.own HL.out HP.out.lt rfl rfl ?_; intro v8 w8 hown8 hgrow8; have HP := Lib.hid (HP.out.app hown8 hgrow8 rfl); have p3 := HP.out.c3; clear hown8 hgrow8)
    | (at_builtin; refine wpList_append_own_string _ rfl (.tmp 27) (.tmp 29) 40 9 rfl (w.heap.size + 1) 5 i0 Try.underlying40 Try.underlying9 hi hz0 hz1 hz2 _ _ _ rfl HP.out.own n rfl HL3.out HL2.out HP.out.lt ?_; intro v9 w9 hown9 hgrow9 hnil9; rw [Hsc.out, ← byteCells_append] at hown9; have HP := Lib.hid (HP.out.app hown9 hgrow9 Hnn.out); have p4 := HP.out.c4; clear hown9 hgrow9 hnil9))
  refine (rdigits_calls _ l (by omega)).mono ?_
  rintro _ w10 ⟨v10, rfl, hown10, hb10⟩
  have HP := Lib.hid (HP.out.below hb10)
  have HRw := Lib.hid (BRow.of_owns hown10)
  have HL : Hid ((digsN t ++ digsN d ++ digsN s ++ digsN n.size ++ n.data.toList).length + (digsN l).length ≤ 140737488355328) := by show _ ≤ _; have h9 := Hnn.out; (try simp only [List.length_append]); omega
  clear p3 p4
  clear hb10 hown10
  go_wp2_with (first
    | (at_builtin; refine wpList_append_brow rfl (.tmp 31) (.tmp 35) rfl HRw.out HP.out.own HL.out HP.out.lt rfl rfl ?_; intro v11 w11 hown11 hgrow11; have HP := Lib.hid (HP.out.app hown11 hgrow11 rfl); skip; clear hown11 hgrow11))
  obtain ⟨b1, hb1⟩ : ∃ b1, (digsN t ++ digsN d ++ digsN s ++ digsN n.size ++ n.data.toList) ++ digsN l = b1 := ⟨_, rfl⟩
  have hb1l : b1.length ≤ 100 := by rw [← hb1]; simp only [List.length_append, Hnn.out]; omega
  rw [Hl.out, hb1] at Hbody
  have HP : Hid (PO w t d s n (.slice a l c) v11 (b1 ++ putVs ((vs.take 0).map pv)) w11) := by show PO _ _ _ _ _ _ _ _ _; simpa [putVs, ← hb1] using HP.out
  clear hb1 hdt hdd hds hdn hdl
  go_loopw [3, 4] (fun v i wr => ∃ k : Nat, i = .int .i64 k ∧ k ≤ l ∧ Hid (PO w t d s n (.slice a l c) v (b1 ++ putVs ((vs.take k).map pv)) wr)) (fun _ i _ => l - (intOf i).toNat)
  case atStart => exact ⟨0, rfl, Nat.zero_le _, HP⟩
  case round =>
    obtain ⟨k, rfl, hk, HPk⟩ := hrel
    have p4 := HPk.out.c4
    by_cases hlt : k < l
    · obtain ⟨x, hx⟩ : ∃ x, vs[k]? = some x := ⟨_, List.getElem?_eq_getElem (by rw [Hl.out]; exact hlt)⟩
      obtain ⟨A, rfl, c0, c1, c2, hss⟩ := (HV.out.below HPk.out.hb) k x hx
      unfold efld at c1 c2
      have Htk := Lib.hid (putVs_take hx)
      obtain ⟨k1, n1, s1⟩ := x
      dsimp only at c0 c1 c2 hss
      have HPut := Lib.hid (rput_calls k1 n1 s1 wr hss)
      have hlp := putV_len (v := ⟨k1, n1, s1.data.toList⟩)
      have hlq : (b1 ++ putVs ((vs.take k).map pv)).length ≤ 2000 := by
        have h1 := putVs_len ((vs.take k).map pv)
        rw [List.length_map, List.length_take] at h1
        rw [List.length_append]
        omega
      have HLL : Hid ((b1 ++ putVs ((vs.take k).map pv)).length + (putV ⟨k1, n1, s1.data.toList⟩).length ≤ 140737488355328) := by show _ ≤ _; omega
      have hk0 : (0 : Int) ≤ (k : Int) := by omega
      have hk1 : (k : Int) < (l : Int) := by omega
      clear hx hlp hlq
      go_wp2_with (first
        | (go_at_call 59; (with_reducible refine HPut.out.mono ?_); rintro e w5 ⟨v5, rfl, hown5, hb5⟩; have HR5 := Lib.hid (BRow.of_owns hown5); have HP5 := Lib.hid (HPk.out.below hb5); clear hown5 hb5)
        | (at_builtin; refine wpList_append_brow rfl (.tmp 44) (.tmp 50) rfl HR5.out HP5.out.own HLL.out HP5.out.lt rfl rfl ?_; intro v6 w6 hown6 hgrow6; have HP6 := Lib.hid (HP5.out.app hown6 hgrow6 rfl); clear hown6 hgrow6))
      have HP7 : Hid (PO w t d s n (.slice (some A) l c) v6 (b1 ++ putVs ((vs.take (k + 1)).map pv)) w6) := by
        show PO _ _ _ _ _ _ _ _ _
        rw [Htk.out, ← List.append_assoc]
        exact HP6.out
      go_roundw
      case rel => exact ⟨k + 1, by go_num, by omega, HP7⟩
      case measure => simp [intOf]; omega
    · obtain rfl : k = l := by omega
      go_wp2
      go_ret
      refine ⟨_, rfl, ?_, HPk.out.hb⟩
      rw [Hbody.out]
      exact ownsRow_base HPk.out.own (Nat.le_succ _)

end Go.Proofs.Ytppgecbjdkfohaa
