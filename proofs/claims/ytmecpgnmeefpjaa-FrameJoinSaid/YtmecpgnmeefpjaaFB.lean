/- The statement FrameJoin, its walk. -/
import Derived.Test.YtmecpgnmeefpjaaF8
namespace Go.Proofs.Ytmecpgnmeefpjaa
open Go.RowKit Go.Lib

/-- The builtin append of texts onto a row that is owned. -/
theorem run_append_trow {w : World} {B : Nat} {a : Option Addr} {c : Nat} {rs : List (List UInt8)} (ht : TRow w a rs) (hn : a = none → c = 0) {v : Value} {l : Nat} {xs : List (List UInt8)} (hown : w.ownsRow B 9 1 v l (recCells xs)) (h63 : (l + rs.length) * 16 ≤ 140737488355328) (hB : B ≤ w.heap.size) (ty : TypeId) :
    ∃ v' w', (Builtin.append_ #[24, 24] ty #[v, .slice a rs.length c]).run Try.prog w = .ok v' w' ∧ w'.ownsRow B 9 1 v' (l + rs.length) (recCells (xs ++ rs)) ∧ w.grownBy w' v.ownBlock := by
  obtain ⟨i0, hi, hz0, hz1, hz2⟩ := info_parts infoS16
  have hap : recCells (xs ++ rs) = recCells xs ++ recCells rs := by simp [recCells]
  rw [hap]
  cases a with
  | none =>
    obtain rfl : rs = [] := by
      cases rs with
      | nil => rfl
      | cons x l =>
        obtain ⟨A, e, _⟩ := ht 0 x rfl
        cases e
    have hc := hn rfl
    subst hc
    refine ⟨v, w, run_append_owned_none w B 24 ty 9 i0 1 Try.underlying24 hi v l _ hown, ?_, ⟨rfl, rfl, rfl, Nat.le_refl _, fun _ _ _ => rfl⟩⟩
    simpa [recCells] using hown
  | some A =>
    obtain ⟨v', w', h4, h5, h6, _⟩ := run_append_own (P := Try.prog) w B 24 ty 9 i0 (.string .empty) 1 16 Try.underlying24 hi hz0 hz1 hz2 rfl (by decide) v l _ hown A rs.length c (recCells rs) (by simp [recCells_length])
      (fun j u hu => by
        simp only [recCells, List.getElem?_map, Option.map_eq_some_iff] at hu
        obtain ⟨x, hx1, rfl⟩ := hu
        obtain ⟨A', e, h, _⟩ := ht j x hx1
        injection e with e
        rw [e]
        exact h) (recCells_one rs) (by unfold maxLen; omega) (by omega) hB
    exact ⟨v', w', h4, h5, h6⟩

theorem wpList_append_trow {w : World} {ops : Array Oper} {rest : List Oper} {o : Oper} {ac : Act} {Q : Exit → Act → World → Prop} (hgd : o.guard = none) (s x : Operand)
    (ho : o.op = .call { callee := .builtin .append, args := #[s, x], argTypes := #[24, 24] })
    {B : Nat} {a : Option Addr} {n c : Nat} {rs : List (List UInt8)} (ht : TRow w a rs) (hna : a = none → c = 0) (hn : n = rs.length) {v : Value} {l : Nat} {xs : List (List UInt8)} (hown : w.ownsRow B 9 1 v l (recCells xs)) (h63 : (l + n) * 16 ≤ 140737488355328) (hB : B ≤ w.heap.size)
    (hs : ac.eval s = v) (hx : ac.eval x = .slice a n c)
    (h : ∀ v' w', w'.ownsRow B 9 1 v' (l + n) (recCells (xs ++ rs)) → w.grownBy w' v.ownBlock → wpList Try.prog ops Q rest (ac.put o.dst v') w') :
    wpList Try.prog ops Q (o :: rest) ac w := by
  subst hn
  refine wpList_plain hgd fun K hK => ?_
  obtain ⟨v', w', hr, h2, h3⟩ := run_append_trow ht hna hown h63 hB o.type
  unfold Oper.wp execOp
  simp only [ho, resolve, invoke, builtin, Sem.run_bind, Sem.run_pure, Result.andThen_ok, List.map_toArray, List.map_cons, List.map_nil, hs, hx, hr]
  exact hK _ _ (h v' w' h2 h3)

theorem ownsRow_emptyT (w : World) (t : TypeId) {B : Nat} (hB : B ≤ w.heap.size) : (w.alloc (.cells #[] t)).ownsRow B t 1 (.slice (some ⟨w.heap.size, 0, none⟩) 0 0) 0 (recCells []) :=
  ⟨rfl, .inr ⟨w.heap.size, 0, #[], rfl, hB, by show (w.heap.push _)[w.heap.size]? = _; simp, Nat.le_refl _, by unfold maxLen; omega, rfl, rfl⟩⟩

/-- A row that is owned: its form, its texts, and no room without memory. -/
theorem TRow.form {w : World} {base : Nat} {v : Value} {n : Nat} {rs : List (List UInt8)} (h : w.ownsRow base 9 1 v n (recCells rs)) (hs : ∀ r ∈ rs, r.length ≤ maxLen) : ∃ a c, v = .slice a rs.length c ∧ TRow w a rs ∧ (a = none → c = 0) := by
  obtain ⟨a, c, rfl, ht, _⟩ := TRow.of_owns h hs
  refine ⟨a, c, rfl, ht, fun e => ?_⟩
  rcases h.2 with ⟨h1, _⟩ | ⟨g, cap, cur, h1, _⟩
  · injection h1
  · rw [e] at h1; injection h1 with h1; cases h1

theorem cutB_other {x : UInt8} {t : List UInt8} (hx : x ≠ 82) : cutB (x :: t) = [] := by
  refine cutB_none ?_
  by_cases h : (x :: t).length < 5
  · exact firstB_short h
  · refine firstB_mark h ?_
    show x.toNat ≠ 82
    intro e
    exact hx (UInt8.toNat_inj.1 e)

set_option maxHeartbeats 8000000 in
set_option maxRecDepth 100000 in
theorem join_walk (w : World) (a b : Option Addr) (ca cb : Nat) (rs ss : List (List UInt8)) (t : Nat) (htn : t < 256) (hx : TRow w a rs) (hxl : rs.length ≤ maxLen) (hy : TRow w b ss) (hyl : ss.length ≤ maxLen) :
    Calls Try.prog 8 #[.slice a rs.length ca, .slice b ss.length cb, .int .u8 t] w (FFine w) := by
  obtain ⟨i0, hi, hz0, hz1, hz2⟩ := info_parts infoB8
  have Hx := Lib.hid hx
  have Hy := Lib.hid hy
  have Hml := Lib.hid (mem_maxLen hx)
  have Hmk := Lib.hid (mem_maxLen hy)
  have hgr := fun (w1 : World) (hb : Below w.heap.size w w1) => great_calls w1 a ca rs (hx.below hb) hxl
  have hgs := fun (w1 : World) (hb : Below w.heap.size w w1) => great_calls w1 b cb ss (hy.below hb) hyl
  obtain ⟨l, hn⟩ : ∃ l, rs.length = l := ⟨_, rfl⟩
  obtain ⟨m, hm⟩ : ∃ m, ss.length = m := ⟨_, rfl⟩
  rw [hn] at hgr ⊢
  rw [hm] at hgs ⊢
  have Hl := Lib.hid hn
  have Hm := Lib.hid hm
  clear hn hx hxl hy hyl hm
  go_enter Try.func8, Try.ntmps8
  go_wp2_with fail
  refine (fhead_calls w).mono ?_
  rintro e w1 ⟨rfl, hb1⟩
  have HB1 := Lib.hid hb1
  have hg1 := hgr w1 hb1
  have hg2 := hgs w1 hb1
  clear hgr hgs
  cases hg : greatB rs with
  | true =>
    rw [hg] at hg1
    clear hb1 hg hg2
    go_wp2_with fail
    refine hg1.mono ?_
    rintro e w2 ⟨rfl, rfl⟩
    go_wp2_with fail
    go_ret
    exact ⟨rfl, HB1.out⟩
  | false =>
  rw [hg] at hg1
  have Hsm := Lib.hid (small_of hg)
  cases hgg : greatB ss with
  | true =>
    rw [hgg] at hg2
    clear hb1 hg hgg
    go_wp2_with fail
    refine hg1.mono ?_
    rintro e w2 ⟨rfl, rfl⟩
    clear hg1
    go_wp2_with fail
    refine hg2.mono ?_
    rintro e w2 ⟨rfl, rfl⟩
    go_wp2_with fail
    go_ret
    exact ⟨rfl, HB1.out⟩
  | false =>
  rw [hgg] at hg2
  have Hsn := Lib.hid (small_of hgg)
  have ha := all_calls w1 a ca rs (Hx.out.below hb1) (by have := Hsm.out; omega)
  rw [Hl.out] at ha
  have hallb : (allB rs).length ≤ 1000000 := by have := allB_le rs; have := Hsm.out; omega
  have hallc : (allB ss).length ≤ 1000000 := by have := allB_le ss; have := Hsn.out; omega
  have Hallb := Lib.hid hallb
  have Hallc := Lib.hid hallc
  have hokx : (okR rs).length ≤ 100000 := by have := okR_le rs; have := Hsm.out; omega
  have hoky : (okR ss).length ≤ 100000 := by have := okR_le ss; have := Hsn.out; omega
  have Hmx : Hid (∀ r ∈ okR rs, r.length ≤ maxLen) := fun r hr => Hml.out r (List.mem_filter.1 hr).1
  have Hmy : Hid (∀ r ∈ okR ss, r.length ≤ maxLen) := fun r hr => Hmk.out r (List.mem_filter.1 hr).1
  obtain ⟨na, hna⟩ : ∃ na, (allB rs).length = na := ⟨_, rfl⟩
  obtain ⟨nb, hnb⟩ : ∃ nb, (allB ss).length = nb := ⟨_, rfl⟩
  obtain ⟨ox, hox⟩ : ∃ ox, (okR rs).length = ox := ⟨_, rfl⟩
  obtain ⟨oy, hoy⟩ : ∃ oy, (okR ss).length = oy := ⟨_, rfl⟩
  rw [hna] at hallb
  rw [hnb] at hallc
  rw [hox] at hokx
  rw [hoy] at hoky
  have Hna := Lib.hid hna
  have Hnb := Lib.hid hnb
  have Hox := Lib.hid hox
  have Hoy := Lib.hid hoy
  clear hb1 hg hgg hna hnb hox hoy
  go_wp2_with fail
  refine hg1.mono ?_
  rintro e w2 ⟨rfl, rfl⟩
  clear hg1
  go_wp2_with fail
  refine hg2.mono ?_
  rintro e w2 ⟨rfl, rfl⟩
  clear hg2
  go_wp2_with fail
  refine ha.mono ?_
  rintro e w2 ⟨vx, rfl, hownx, hb2⟩
  have HB2 := Lib.hid (HB1.out.trans (hb2.mono HB1.out.size))
  have hbx := BRow.of_owns hownx
  obtain ⟨ax, cx, rfl, _, _⟩ := hbx.len
  rw [Hna.out] at hbx ⊢
  have HX2 := Lib.hid hbx
  have ha2 := all_calls w2 b cb ss (Hy.out.below HB2.out) (by have := Hsn.out; omega)
  rw [Hm.out] at ha2
  clear ha hownx hb2 hbx
  go_wp2_with fail
  refine ha2.mono ?_
  rintro e w3 ⟨vy, rfl, howny, hb3⟩
  have HB3 := Lib.hid (HB2.out.trans (hb3.mono HB2.out.size))
  have hby := BRow.of_owns howny
  have HX3 := Lib.hid (HX2.out.below hb3)
  obtain ⟨ay, cy, rfl, _, _⟩ := hby.len
  rw [Hnb.out] at hby ⊢
  have HY3 := Lib.hid hby
  have hc1 := cut_calls w3 _ (allB rs) HX3.out (by have := Hallb.out; omega)
  clear ha2 howny hb3 HX2 hby
  go_wp2_with fail
  refine hc1.mono ?_
  rintro e w4 ⟨vl, rfl, hownl, hb4⟩
  rw [cutB_all'] at hownl
  rw [cutN_all, Hna.out]
  obtain ⟨al, cl, rfl, htl, hal⟩ := TRow.form hownl Hmx.out
  rw [Hox.out]
  have HB4 := Lib.hid (HB3.out.trans (hb4.mono HB3.out.size))
  have HX4 := Lib.hid (HX3.out.below hb4)
  have HY4 := Lib.hid (HY3.out.below hb4)
  have HL4 := Lib.hid htl
  have Hal := Lib.hid hal
  have hc2 := cut_calls w4 _ (allB ss) HY4.out (by have := Hallc.out; omega)
  clear hc1 hownl hb4 htl HX3 HY3 hal
  go_wp2_with fail
  refine hc2.mono ?_
  rintro e w5 ⟨vm, rfl, hownm, hb5⟩
  rw [cutB_all'] at hownm
  rw [cutN_all, Hnb.out]
  obtain ⟨am, cm, rfl, htm, ham⟩ := TRow.form hownm Hmy.out
  rw [Hoy.out]
  have HB5 := Lib.hid (HB4.out.trans (hb5.mono HB4.out.size))
  have HX5 := Lib.hid (HX4.out.below hb5)
  have HY5 := Lib.hid (HY4.out.below hb5)
  have HL5 := Lib.hid (HL4.out.below hb5)
  have HM5 := Lib.hid htm
  have Ham := Lib.hid ham
  clear hc2 hownm hb5 htm HX4 HY4 HL4 ham
  -- x and y behind one another
  have E6 := Lib.hid (ownsRow_empty w5 5 (B := w5.heap.size) (Nat.le_refl _))
  have X6 := Lib.hid (HX5.out.below ((Below.refl _ _).alloc (Nat.le_refl _) (.cells #[] 5)))
  have hla := Hallb.out
  have hlb := Hallc.out
  go_wp2_with (first
    | (at_builtin; refine wpList_append_brow rfl (.tmp 41) (.tmp 42) rfl X6.out E6.out (by omega) (by simp) rfl rfl ?_; intro v6 w6 hown6 hgrow6; have Y6 := Lib.hid (HY5.out.below (((Below.refl _ w5).alloc (Nat.le_refl _) (.cells #[] 5)).grown hgrow6 (by simp) (fun q hq => (E6.out.lt q hq).1))))
    | (at_builtin; refine wpList_append_brow rfl (.tmp 43) (.tmp 44) rfl Y6.out hown6 (by simp; omega) (by have := hgrow6.size; simp at this; omega) rfl rfl ?_; intro v7 w7 hown7 hgrow7))
  have hb6 : Below w5.heap.size w5 w6 := ((Below.refl _ w5).alloc (Nat.le_refl _) (.cells #[] 5)).grown hgrow6 (by simp) (fun q hq => (E6.out.lt q hq).1)
  have hb7 : Below w5.heap.size w5 w7 := hb6.grown hgrow7 hb6.size (fun q hq => (hown6.lt q hq).1)
  have HB7 := Lib.hid (HB5.out.trans (hb7.mono HB5.out.size))
  have HX7 := Lib.hid (HX5.out.below hb7)
  have HY7 := Lib.hid (HY5.out.below hb7)
  have HL7 := Lib.hid (HL5.out.below hb7)
  have HM7 := Lib.hid (HM5.out.below hb7)
  have hr7 := BRow.of_owns hown7
  have hc3 := cut_calls w7 v7 _ hr7 (by simp; omega)
  clear hb6 hb7 hown6 hgrow6 hown7 hgrow7 hr7 E6 X6 Y6 HX5 HY5 HL5 HM5
  go_wp2_with fail
  refine hc3.mono ?_
  rintro e w8 ⟨vn, rfl, hownn, hb8⟩
  have hcut : cutB ([] ++ allB rs ++ allB ss) = okR rs ++ okR ss := by rw [List.nil_append, cutB_all, cutB_all']
  have hcn : cutN ([] ++ allB rs ++ allB ss) = na + nb := by rw [cutN, hcut, lensN_append, lensN_okR, lensN_okR, Hna.out, Hnb.out]
  rw [hcut] at hownn
  rw [hcn]
  have hmxy : ∀ r ∈ okR rs ++ okR ss, r.length ≤ maxLen := fun r hr => by
    rcases List.mem_append.1 hr with h | h
    · exact Hmx.out r h
    · exact Hmy.out r h
  obtain ⟨an, cn, rfl, htn, _⟩ := TRow.form hownn hmxy
  have Hmxy := Lib.hid hmxy
  rw [List.length_append, Hox.out, Hoy.out]
  have HB8 := Lib.hid (HB7.out.trans (hb8.mono HB7.out.size))
  have HX8 := Lib.hid (HX7.out.below hb8)
  have HY8 := Lib.hid (HY7.out.below hb8)
  have HL8 := Lib.hid (HL7.out.below hb8)
  have HM8 := Lib.hid (HM7.out.below hb8)
  have HN8 := Lib.hid htn
  clear hc3 hownn hb8 hcut hcn htn HX7 HY7 HL7 HM7 hmxy
  have E9 := Lib.hid (ownsRow_emptyT w8 9 (B := w8.heap.size) (Nat.le_refl _))
  have L9 := Lib.hid (HL8.out.below ((Below.refl _ w8).alloc (Nat.le_refl _) (.cells #[] 9)))
  go_wp2_with (first
    | (at_builtin; refine wpList_append_trow rfl (.tmp 50) (.tmp 51) rfl L9.out Hal.out Hox.out.symm E9.out (by omega) (by simp) rfl rfl ?_; intro v9 w9 hown9 hgrow9; have M9 := Lib.hid (HM8.out.below (((Below.refl _ w8).alloc (Nat.le_refl _) (.cells #[] 9)).grown hgrow9 (by simp) (fun q hq => (E9.out.lt q hq).1))))
    | (at_builtin; refine wpList_append_trow rfl (.tmp 52) (.tmp 53) rfl M9.out Ham.out Hoy.out.symm hown9 (by omega) (by have := hgrow9.size; simp at this; omega) rfl rfl ?_; intro v10 w10 hown10 hgrow10))
  have hb9 : Below w8.heap.size w8 w9 := ((Below.refl _ w8).alloc (Nat.le_refl _) (.cells #[] 9)).grown hgrow9 (by simp) (fun q hq => (E9.out.lt q hq).1)
  have hb10 : Below w8.heap.size w8 w10 := hb9.grown hgrow10 hb9.size (fun q hq => (hown9.lt q hq).1)
  have HB10 := Lib.hid (HB8.out.trans (hb10.mono HB8.out.size))
  have HX10 := Lib.hid (HX8.out.below hb10)
  have HY10 := Lib.hid (HY8.out.below hb10)
  have HL10 := Lib.hid (HL8.out.below hb10)
  have HN10 := HN8.out.below hb10
  have hown10' : w10.ownsRow w8.heap.size 9 1 v10 (0 + ox + oy) (recCells (okR rs ++ okR ss)) := by simpa using hown10
  obtain ⟨a10, c10, rfl, ht10, _⟩ := TRow.form hown10' Hmxy.out
  have hsa := same_calls w10 an a10 cn c10 _ _ HN10 ht10 (by rw [List.length_append, Hox.out, Hoy.out]; unfold maxLen; omega) (by rw [List.length_append, Hox.out, Hoy.out]; unfold maxLen; omega)
  rw [List.length_append, Hox.out, Hoy.out] at hsa
  rw [List.length_append, Hox.out, Hoy.out]
  have hsa' : Calls Try.prog 16 #[.slice an (ox + oy) cn, .slice a10 (ox + oy) c10] w10 fun e w' => e = .returned (.bool true) ∧ ∃ n, w' = w10.drewN n := hsa.mono fun e w' ⟨h1, h2⟩ => ⟨by rw [h1, decide_eq_true rfl], h2⟩
  clear hb9 hb10 hown9 hgrow9 hown10 hgrow10 hown10' ht10 hsa E9 L9 M9 HX8 HY8 HL8 HN8 HN10 HM8
  go_wp2_with fail
  refine hsa'.mono ?_
  rintro e w11 ⟨rfl, n11, rfl⟩
  obtain ⟨w11, hw11⟩ : ∃ w11, w11 = w10.drewN n11 := ⟨_, rfl⟩
  rw [← hw11]
  have HX11 : Hid (BRow w11 (.slice ax na cx) (allB rs)) := by rw [hw11]; exact HX10.out
  have HY11 : Hid (BRow w11 (.slice ay nb cy) (allB ss)) := by rw [hw11]; exact HY10.out
  have HL11 : Hid (TRow w11 al (okR rs)) := by rw [hw11]; exact HL10.out
  have HB11 : Hid (Below w.heap.size w w11) := by rw [hw11]; exact fbelow_drewN HB10.out _
  have hcmp : ((na + nb : Nat) : Int) = (na : Int) + nb := by omega
  clear hsa' hw11 HX10 HY10 HL10
  -- a torn end between
  have E12 := Lib.hid (ownsRow_empty w11 5 (B := w11.heap.size) (Nat.le_refl _))
  have X12 := Lib.hid (HX11.out.below ((Below.refl _ _).alloc (Nat.le_refl _) (.cells #[] 5)))
  obtain ⟨x, hxx⟩ : ∃ x, x = UInt8.ofNat (t % 82) := ⟨_, rfl⟩
  have hx82 : x ≠ 82 := by
    intro e
    have h1 : x.toNat = t % 82 := by rw [hxx]; simp; omega
    rw [e] at h1
    simp at h1
    omega
  have htc : ([Value.int .u8 ((t : Int) % 82)] : List Value) = byteCells [x] := by
    have h1 : x.toNat = t % 82 := by rw [hxx]; simp; omega
    simp [byteCells, h1]
  have Htc := Lib.hid htc
  clear htc hxx
  go_wp2_with (first
    | (at_builtin; refine wpList_append_brow rfl (.tmp 67) (.tmp 68) rfl X12.out E12.out (by omega) (by simp) rfl rfl ?_; intro v12 w12 hown12 hgrow12; have b12 := ((Below.refl _ w11).alloc (Nat.le_refl _) (.cells #[] 5)).grown hgrow12 (by simp) (fun q hq => (E12.out.lt q hq).1); have b12a := b12.alloc b12.size (.cells #[.int .u8 ((t : Int) % 82)] 5); have o12 := hown12.alloc (.cells #[.int .u8 ((t : Int) % 82)] 5); have n12 := BRow.new w12 [x] #[.int .u8 ((t : Int) % 82)] 5 (0, 0) Htc.out 1 (by simp) (by unfold maxLen; simp))
    | (at_builtin; refine wpList_append_brow rfl (.tmp 69) (.tmp 72) rfl n12 o12 (by simp; omega) b12a.size rfl rfl ?_; intro v13 w13 hown13 hgrow13; have b13 := b12a.grown hgrow13 b12a.size (fun q hq => (o12.lt q hq).1); have Y13 := HY11.out.below b13)
    | (at_builtin; refine wpList_append_brow rfl (.tmp 73) (.tmp 74) rfl Y13 hown13 (by simp; omega) b13.size rfl rfl ?_; intro v14 w14 hown14 hgrow14))
  have hb14 := b13.grown hgrow14 b13.size (fun q hq => (hown13.lt q hq).1)
  have HB14 := Lib.hid (HB11.out.trans (hb14.mono HB11.out.size))
  have HX14 := Lib.hid (HX11.out.below hb14)
  have HL14 := Lib.hid (HL11.out.below hb14)
  have hr14 := BRow.of_owns hown14
  have hc4 := cut_calls w14 v14 _ hr14 (by simp; omega)
  clear b12 b12a o12 n12 b13 Y13 hown12 hgrow12 hown13 hgrow13 hown14 hgrow14 hb14 hr14 E12 X12 HX11 HY11 HL11
  go_wp2_with fail
  refine hc4.mono ?_
  rintro e w15 ⟨vo, rfl, howno, hb15⟩
  have hcut : cutB ([] ++ allB rs ++ [x] ++ allB ss) = okR rs := by rw [List.nil_append, List.append_assoc, cutB_all]; rw [show [x] ++ allB ss = x :: allB ss from rfl, cutB_other hx82, List.append_nil]
  have hcn : cutN ([] ++ allB rs ++ [x] ++ allB ss) = na := by rw [cutN, hcut, lensN_okR, Hna.out]
  rw [hcut] at howno
  rw [hcn]
  obtain ⟨ao, co, rfl, hto, _⟩ := TRow.form howno Hmx.out
  rw [Hox.out]
  have HB15 := Lib.hid (HB14.out.trans (hb15.mono HB14.out.size))
  have hsb := same_calls w15 ao al co cl _ _ hto (HL14.out.below hb15) (by rw [Hox.out]; unfold maxLen; omega) (by rw [Hox.out]; unfold maxLen; omega)
  rw [Hox.out] at hsb
  have hsb' : Calls Try.prog 16 #[.slice ao ox co, .slice al ox cl] w15 fun e w' => e = .returned (.bool true) ∧ ∃ n, w' = w15.drewN n := hsb.mono fun e w' ⟨h1, h2⟩ => ⟨by rw [h1, decide_eq_true rfl], h2⟩
  clear hc4 howno hb15 hcut hcn hto hsb HX14 HL14
  go_wp2_with fail
  refine hsb'.mono ?_
  rintro e w16 ⟨rfl, n16, rfl⟩
  go_wp2_with fail
  go_ret
  exact ⟨rfl, fbelow_drewN HB15.out _⟩

end Go.Proofs.Ytmecpgnmeefpjaa
