/- Events: Put. -/
import Derived.Test.YtppgecbjdkfohaaE9e
import Derived.Test.YtppgecbjdkfohaaF6
import Derived.Deep.RegionLaw
namespace Go.Proofs.Ytppgecbjdkfohaa
open Go.RowKit Go.Lib Go.Op

/-- The builtin append of bytes, as a step of a region that draws its order. -/
theorem step_append_brow {w : World} {ops : Array Oper} {o : Oper} {a : Act} {K : Act → World → Prop} {Q : Exit → Act → World → Prop} {E : Prop} (hgd : o.guard = none) (s x : Operand)
    (ho : o.op = .call { callee := .builtin .append, args := #[s, x], argTypes := #[40, 40] })
    {B : Nat} {bv : Value} {bs : List UInt8} (hb : BRow w bv bs) {v : Value} {l : Nat} {xs : List UInt8} (hown : w.ownsRow B 5 1 v l (byteCells xs)) (h63 : l + bs.length ≤ 140737488355328) (hB : B ≤ w.heap.size)
    (hs : a.eval s = v) (hx : a.eval x = bv)
    (h : ∀ v' w', w'.ownsRow B 5 1 v' (l + bs.length) (byteCells (xs ++ bs)) → w.grownBy w' v.ownBlock → K (a.put o.dst v') w') :
    if Region.wanted o (yielded ops a.tmps) = true then Oper.wp Try.prog o a w K Q else E := by
  have hw : Region.wanted o (yielded ops a.tmps) = true := by simp [Region.wanted, hgd]
  rw [if_pos hw]
  obtain ⟨v', w', hr, h2, h3⟩ := run_append_brow hb hown h63 hB o.type
  unfold Oper.wp execOp
  simp only [ho, resolve, invoke, builtin, Sem.run_bind, Sem.run_pure, Result.andThen_ok, List.map_toArray, List.map_cons, List.map_nil, hs, hx, hr]
  exact h v' w' h2 h3

theorem PB.below {w : World} {B bb : Nat} {v : Value} {xs : List UInt8} {W W' : World} (h : PB w B bb v xs W) (hb : Below W.heap.size W W') : PB w B bb v xs W' where
  c := ekeep hb h.c
  f := (hb.frozen (p := ⟨bb, 0, none⟩) (Nat.lt_of_lt_of_le h.lt h.le)).trans h.f
  own := eowns_of_block h.own (fun g hg => hb.block g (h.own.lt g hg).2)
  hb := h.hb.trans (hb.mono (Nat.le_trans (Nat.le_of_lt h.lt) h.le))
  lt := h.lt
  le := Nat.le_trans h.le hb.size

theorem putVs_append : ∀ (l m : List PVal), putVs (l ++ m) = putVs l ++ putVs m
  | [], m => rfl
  | v :: l, m => by simp [putVs, putVs_append l m]
theorem putVs_take {l : List VIn} {k : Nat} {x : VIn} (h : l[k]? = some x) : putVs ((l.take (k + 1)).map pv) = putVs ((l.take k).map pv) ++ putV (pv x) := by
  rw [List.take_add_one, h, List.map_append, putVs_append]
  simp [putVs]

theorem putV_len {v : PVal} : (putV v).length ≤ 80 := by
  cases h : rightB v with
  | false => rw [putV_not h]; simp
  | true =>
    obtain ⟨k, n, s⟩ := v
    have h2 := putV_written (k := k) (n := n) (s := strB s) (by unfold rightV; rw [strB_list]; exact h)
    rw [strB_list] at h2
    rw [h2]
    obtain ⟨a1, a2, _, _⟩ := writtenV_le (k := k) (n := n) (s := strB s) (by unfold rightV; rw [strB_list]; exact h)
    have h3 := digsN_six (n := writtenV k n (strB s)) (by omega)
    rw [strB_size] at a2
    simp only [List.length_cons, List.length_append]
    omega
theorem putVs_len : ∀ l : List PVal, (putVs l).length ≤ 80 * l.length
  | [] => by simp [putVs]
  | v :: l => by
    have h1 := putV_len (v := v)
    have h2 := putVs_len l
    simp only [putVs, List.length_append, List.length_cons]
    omega

theorem body_parts {t d s : Nat} {n : ByteArray} {vs : List VIn} : bodyE (pe t d s n vs) = ([] ++ digsAll [t, d, s, n.size] ++ n.data.toList) ++ digsAll [vs.length] ++ putVs ((vs.take vs.length).map pv) := by
  have hn : n.data.toList.length = n.size := by simp
  unfold bodyE pe
  simp only [List.length_map, hn, digsAll, List.append_nil, List.nil_append, List.append_assoc, List.take_length, Int.toNat_natCast]

/-- Put behind its test: the closure's first call. -/
theorem pb_start (w1 : World) (o : Obj) : PB w1 (w1.heap.size + 2) w1.heap.size (.slice none 0 0) [] ((w1.alloc (.cells #[.slice none 0 0] 40)).alloc o) where
  c := by simp
  f := by simp
  own := World.ownsRow_nil _ _ _ _
  hb := ((Below.refl _ _).alloc (Nat.le_refl _) _).alloc (by simp) _
  lt := by omega
  le := by simp

set_option maxHeartbeats 8000000 in
set_option maxRecDepth 100000 in
theorem eput_calls (t d s : Int) (n : ByteArray) (a : Option Addr) (c : Nat) (vs : List VIn) (w : World) (hn : n.size ≤ maxLen) (hv : VRow w a vs) (hl : vs.length ≤ maxLen) :
    Calls Try.prog 26 #[evV t d s n (.slice a vs.length c)] w (PutPost w (putE (pe t d s n vs))) := by
  have hb0 : Below w.heap.size w (w.alloc (.cells #[.int .i64 t, .int .i64 d, .int .i64 s, .string n, .slice a vs.length c] 25)) := (Below.refl _ _).alloc (Nat.le_refl _) _
  have HR := Lib.hid (eright_calls t d s n a c vs (w.alloc (.cells #[.int .i64 t, .int .i64 d, .int .i64 s, .string n, .slice a vs.length c] 25)) hn (hv.below hb0) hl)
  cases hr : rightE (pe t d s n vs) with
  | false =>
    rw [hr] at HR
    rw [putE_not hr]
    have HB0 := Lib.hid hb0
    clear hv hb0 hr
    go_enter Try.func26, Try.ntmps26
    go_wp2_with (go_at_call 52; refine HR.out.mono ?_; rintro e w1 ⟨rfl, hb1⟩)
    go_ret
    exact ⟨_, rfl, World.ownsRow_nil _ _ _ _, HB0.out.trans (hb1.mono HB0.out.size)⟩
  | true =>
  rw [hr] at HR
  rw [putE_right hr]
  obtain ⟨⟨t1, t2⟩, ⟨s1, s2⟩, ⟨d1, d2⟩, hw, h8, hall⟩ := rightE_iff.1 hr
  have hn16 := (wordB_len hw).2
  dsimp only [pe] at t1 t2 s1 s2 d1 d2 hn16 h8
  rw [List.length_map] at h8
  have hnn : n.data.toList.length = n.size := by simp
  rw [hnn] at hn16
  obtain ⟨t, rfl⟩ : ∃ q : Nat, t = q := ⟨t.toNat, by omega⟩
  obtain ⟨d, rfl⟩ : ∃ q : Nat, d = q := ⟨d.toNat, by omega⟩
  obtain ⟨s, rfl⟩ : ∃ q : Nat, s = q := ⟨s.toNat, by omega⟩
  have HV := Lib.hid hv
  obtain ⟨i0, hi, hz0, hz1, hz2⟩ := info_parts infoB8
  obtain ⟨l, hll⟩ : ∃ l, vs.length = l := ⟨_, rfl⟩
  have Hl := Lib.hid hll
  have Hbody := Lib.hid (body_parts (t := t) (d := d) (s := s) (n := n) (vs := vs))
  rw [hll] at HR hb0 h8 ⊢
  have HB0 := Lib.hid hb0
  have Hnn := Lib.hid hnn
  have hdl : (digsAll [t, d, s, n.size]).length ≤ 36 := digsAll_len [t, d, s, n.size] (by simp; omega)
  clear hr hw hall hll hb0 hv hl hnn
  go_enter Try.func26, Try.ntmps26
  go_wp2_with (go_at_call 52; refine HR.out.mono ?_; rintro e w1 ⟨rfl, hb1⟩; have x0 : w1.cell? ⟨w.heap.size, 0, none⟩ = some (.int .i64 t) := ekeep hb1 (by simp); have x1 : w1.cell? ⟨w.heap.size, 1, none⟩ = some (.int .i64 d) := ekeep hb1 (by simp); have x2 : w1.cell? ⟨w.heap.size, 2, none⟩ = some (.int .i64 s) := ekeep hb1 (by simp); have x3 : w1.cell? ⟨w.heap.size, 3, none⟩ = some (.string n) := ekeep hb1 (by simp); have x4 : w1.cell? ⟨w.heap.size, 4, none⟩ = some (.slice a l c) := ekeep hb1 (by simp); have y0 := ekeepAl (.cells #[.slice none 0 0] 40) x0; have y1 := ekeepAl (.cells #[.slice none 0 0] 40) x1; have y2 := ekeepAl (.cells #[.slice none 0 0] 40) x2; have y3 := ekeepAl (.cells #[.slice none 0 0] 40) x3; have y4 := ekeepAl (.cells #[.slice none 0 0] 40) x4; have hBX : Below w.heap.size w w1 := HB0.out.trans (hb1.mono HB0.out.size); have HBX := Lib.hid hBX; have hX : w.heap.size < w1.heap.size := World.block_lt_of_cell? _ _ x0; clear hBX hb1)
  have hc1 := put1_calls w1 _ (w1.heap.size + 2) w1.heap.size (w1.heap.size + 1) 4 (.slice none 0 0) [] [t, d, s, n.size] (pb_start w1 (.cells #[.int .i64 t, .int .i64 d, .int .i64 s, .int .i64 n.size] 2)) (by simp; omega) (fun j q _ hq => by
    match j, hq with
    | 0, hq => simp at hq; subst hq; simp
    | 1, hq => simp at hq; subst hq; simp
    | 2, hq => simp at hq; subst hq; simp
    | 3, hq => simp at hq; subst hq; simp
    | j + 4, hq => simp at hq) (.inl (by omega)) (by omega) (by simp) (by simp)
  refine hc1.mono ?_
  rintro e w2 ⟨rfl, v2, hP2⟩
  obtain ⟨b0, hb0⟩ : ∃ b0, [] ++ digsAll [t, d, s, n.size] = b0 := ⟨_, rfl⟩
  have hb0l : b0.length ≤ 36 := by rw [← hb0]; simpa using hdl
  rw [hb0] at hP2 Hbody
  have HP2 := Lib.hid hP2
  have c2 := hP2.c
  have f2 := hP2.f
  have z3 := (hP2.hb.cell (p := ⟨w.heap.size, 3, none⟩) hX).trans x3
  have z4 := (hP2.hb.cell (p := ⟨w.heap.size, 4, none⟩) hX).trans x4
  have Hsc : Hid (strCells n = byteCells n.data.toList) := rfl
  clear hb0 hdl hP2 hc1 x0 x1 x2 y0 y1 y2 y3 y4 HR
  generalize hbb : w1.heap.size = bb at *
  go_wp2_with (at_builtin; refine wpList_append_own_string _ rfl (.tmp 23) (.tmp 25) 40 9 rfl (bb + 2) 5 i0 Try.underlying40 Try.underlying9 hi hz0 hz1 hz2 _ _ _ rfl HP2.out.own n rfl (by unfold maxLen; omega) (by omega) HP2.out.le ?_; intro v3 w3 hown3 hgrow3 hnil3; have hB3 : Below (bb + 2) w2 w3 := (Below.refl (bb + 2) _).grown hgrow3 HP2.out.le (fun g hg => (HP2.out.own.lt g hg).1); obtain ⟨e0, f0⟩ := HP2.out.cellB hB3; rw [Hsc.out, ← byteCells_append] at hown3; obtain ⟨sa3, q3, sc3, rfl⟩ := owns_slice hown3; have HP3 := Lib.hid (HP2.out.fin hB3 hown3); have z4' := (HP3.out.hb.cell (p := ⟨w.heap.size, 4, none⟩) hX).trans x4; have c3 := HP3.out.c; have f3 := HP3.out.f; clear hown3 hgrow3 hnil3 hB3)
  have hle3 : bb + 2 ≤ w3.heap.size := by have := HP3.out.le; simpa using this
  have hsz3 : (w3.setCell ⟨bb, 0, none⟩ (.slice sa3 q3 sc3)).heap.size = w3.heap.size := by simp
  have hb1l : (b0 ++ n.data.toList).length ≤ 52 := by rw [List.length_append, Hnn.out]; omega
  have hc2 := put1_calls w1 _ (bb + 2) bb w3.heap.size 1 (.slice sa3 q3 sc3) (b0 ++ n.data.toList) [l] (HP3.out.alloc (.cells #[.int .i64 l] 2)) (by simp; omega) (fun j q _ hq => by
    match j, hq with
    | 0, hq => simp at hq; subst hq; exact fcell_of_blk (b := w3.heap.size) (by rw [← hsz3]; exact heap_alloc_new _ _) rfl
    | j + 1, hq => simp at hq) (.inr (by simp)) (by omega) (by simp) (by omega)
  refine hc2.mono ?_
  rintro e w4 ⟨rfl, v4, hP4⟩
  have hbase : ((b0 ++ n.data.toList) ++ digsAll [l]).length ≤ 61 := by
    rw [List.length_append]
    have := digsAll_len [l] (by simp; omega)
    simp at this
    omega
  rw [Hl.out] at Hbody
  obtain ⟨b1, hb1⟩ : ∃ b1, (b0 ++ n.data.toList) ++ digsAll [l] = b1 := ⟨_, rfl⟩
  rw [hb1] at hP4 hbase Hbody
  have HP4 : Hid (PB w1 (bb + 2) bb v4 (b1 ++ putVs ((vs.take 0).map pv)) w4) := by show PB _ _ _ _ _ _; simpa [putVs] using hP4
  have z5 := (hP4.hb.cell (p := ⟨w.heap.size, 4, none⟩) hX).trans x4
  clear hb1 hP4 hc2 HP2 HP3 c2 f2 c3 f3 e0 f0 z3 z4 z4' hb1l hle3 x3 x4
  go_wp2
  go_loopw [6, 36] (fun y i wr => ∃ (k : Nat) (v : Value), i = .int .i64 k ∧ k ≤ l ∧ Hid (PB w1 (bb + 2) bb v (b1 ++ putVs ((vs.take k).map pv)) wr)) (fun _ i _ => l - (intOf i).toNat)
  case atStart => exact ⟨0, v4, rfl, Nat.zero_le _, HP4⟩
  case round =>
    obtain ⟨k, v, rfl, hk, HPk⟩ := hrel
    by_cases hlt : k < l
    · obtain ⟨x, hx⟩ : ∃ x, vs[k]? = some x := ⟨_, List.getElem?_eq_getElem (by rw [Hl.out]; exact hlt)⟩
      have HBr : Hid (Below w.heap.size w wr) := HBX.out.trans ((by rw [← hbb] at HPk; exact HPk.out.hb : Below w1.heap.size w1 wr).mono HBX.out.size)
      obtain ⟨A, rfl, c0, c1, c2, hss⟩ := (HV.out.below HBr.out) k x hx
      unfold efld at c1 c2
      have Htk := Lib.hid (putVs_take hx)
      obtain ⟨k1, n1, s1⟩ := x
      dsimp only at c0 c1 c2 hss
      clear hx
      go_upto_region 11 with fail
      have hpa := HPk.out.alloc (.cells #[.int .i64 k1, .int .i64 n1, .string s1] 52)
      have hpd : PB w1 (bb + 2) bb v (b1 ++ putVs ((vs.take k).map pv)) (wr.alloc (.cells #[.int .i64 k1, .int .i64 n1, .string s1] 52)).drew := hpa.below (vbelow_drew (Below.refl _ _))
      have cb := hpd.c
      have fb := hpd.f
      have HPd := Lib.hid hpd
      have HPut := Lib.hid (vput_calls k1 n1 s1 (wr.alloc (.cells #[.int .i64 k1, .int .i64 n1, .string s1] 52)).drew hss)
      have g0 : (wr.alloc (.cells #[.int .i64 k1, .int .i64 n1, .string s1] 52)).drew.cell? ⟨wr.heap.size, 0, none⟩ = some (.int .i64 k1) := by show (wr.alloc _).cell? _ = _; simp
      have g1 : (wr.alloc (.cells #[.int .i64 k1, .int .i64 n1, .string s1] 52)).drew.cell? ⟨wr.heap.size, 1, none⟩ = some (.int .i64 n1) := by show (wr.alloc _).cell? _ = _; simp
      have g2 : (wr.alloc (.cells #[.int .i64 k1, .int .i64 n1, .string s1] 52)).drew.cell? ⟨wr.heap.size, 2, none⟩ = some (.string s1) := by show (wr.alloc _).cell? _ = _; simp
      have hlen : (b1 ++ putVs ((vs.take k).map pv)).length ≤ 2000 := by
        have h1 := putVs_len ((vs.take k).map pv)
        rw [List.length_map, List.length_take] at h1
        rw [List.length_append]
        omega
      have hlp := putV_len (v := ⟨k1, n1, s1.data.toList⟩)
      have Hpv : Hid (pv (k1, n1, s1) = ⟨k1, n1, s1.data.toList⟩) := rfl
      clear hpa hpd c0 c1 c2
      go_region_law (first
        | (refine step_append_brow rfl (.tmp 40) (.tmp 42) rfl HR5.out HP5.out.own ?_ HP5.out.le ?_ ?_ ?_; (omega); (simp [Act.eval]); (simp [Act.eval]); intro v6 w6 hown6 hgrow6; have hB6 : Below (bb + 2) w5 w6 := (Below.refl (bb + 2) _).grown hgrow6 HP5.out.le (fun g hg => (HP5.out.own.lt g hg).1); obtain ⟨e0, f0⟩ := HP5.out.cellB hB6; obtain ⟨sa6, q6, sc6, rfl⟩ := owns_slice hown6; have HP6 := Lib.hid (HP5.out.fin hB6 hown6); clear hown6 hgrow6 hB6)
        | (go_simp; go_at_call 57; refine HPut.out.mono ?_; rintro e w5 ⟨v5, rfl, hown5, hb5⟩; have HR5 := Lib.hid (BRow.of_owns hown5); have HP5 := Lib.hid (HPd.out.below hb5); have cb5 := HP5.out.c; have fb5 := HP5.out.f; clear hown5 hb5))
      all_goals
        have HP7 : Hid (PB w1 (bb + 2) bb (.slice sa6 q6 sc6) (b1 ++ putVs ((vs.take (k + 1)).map pv)) (w6.setCell ⟨bb, 0, none⟩ (.slice sa6 q6 sc6))) := by
          rw [Htk.out, ← List.append_assoc]
          exact HP6
        clear HP6 HP5 HR5 HPd HPut
        go_wp2
        go_roundw
        case rel => exact ⟨k + 1, _, by go_num, by omega, HP7⟩
        case measure => simp [intOf]; omega
    · obtain rfl : k = l := by omega
      have HF := Lib.hid HPk.out
      have hc := HPk.out.c
      go_wp2
      go_ret
      refine ⟨v, rfl, ?_, ?_⟩
      · rw [Hbody.out]
        exact ownsRow_base HF.out.own (by rw [← hbb]; omega)
      · exact HBX.out.trans ((by rw [← hbb] at HF; exact HF.out.hb : Below w1.heap.size w1 _).mono HBX.out.size)

end Go.Proofs.Ytppgecbjdkfohaa
