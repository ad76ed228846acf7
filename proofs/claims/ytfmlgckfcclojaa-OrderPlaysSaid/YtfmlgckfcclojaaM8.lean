/- Order: the iterator of those that wait. | Order: the small functions. | Order: how many that wait are ahead of an event. | Order: events in a row of one's own; those that are told. | Order: those that are told. -/
import Derived.Test.YtfmlgckfcclojaaM7
namespace Go.Proofs.Ytfmlgckfcclojaa
open Go.RowKit Go.Lib Go.Op Go.Shelf

attribute [local go_sem] Oper.semAt_some

theorem takeWhile_all {α : Type} {q : α → Bool} : ∀ {l : List α}, (∀ y ∈ l, q y = true) → l.takeWhile q = l
  | [], _ => rfl
  | y :: l, h => by rw [List.takeWhile_cons, if_pos (h y (by simp)), takeWhile_all (fun z hz => h z (by simp [hz]))]

set_option maxRecDepth 100000 in
set_option maxHeartbeats 4000000 in
theorem first1_inc {W : World} (n : Nat) (hn : 1 ≤ n) (l : Nat) (T : Nat → Obj → Prop) {x0 x1 bb : Nat} {a : Option Addr} {c : Nat} {L : List EIn} {fI : FuncId} {cv : Value} (q : EIn → Bool)
    (y0 : W.cell? ⟨x0, 0, none⟩ = some (.pointer (some ⟨bb, 0, none⟩))) (y1 : W.cell? ⟨x1, 0, none⟩ = some (.func (.func fI) #[] #[cv])) (yw : W.cell? ⟨bb, 1, none⟩ = some (.slice a L.length c)) (hr : ECells W a L) (hL : L.length ≤ 1000)
    (hT1 : ∀ o, W.heap[x1]? = some o → ¬ T x1 o) (hTr : ∀ A o, a = some A → W.heap[A.block]? = some o → ¬ T A.block o)
    (hen : Enters Try.prog fI) (HI : ∀ W', OKp T W W' → ∀ x ∈ L, Calls Try.prog fI #[x.v, cv] W' fun e w' => e = .returned (.bool (q x)) ∧ Below W'.heap.size W' w')
    (J Jx : List EIn → World → Prop) (hJ : AbidesFrom W.heap.size J)
    (hY : ∀ pre (x : EIn) W1, J pre W1 → pre.length < (L.takeWhile q).length → x ∈ L → YieldAt Fence.wide (n - 1) Try.prog l #[x.v] W1 fun e W' =>
      (e = .returned (.bool true) ∧ J (pre ++ [x]) W' ∧ OKp T W1 W') ∨ (e = .returned (.bool false) ∧ Jx (pre ++ [x]) W')) (h0 : J [] W) :
    CallsIn Fence.wide n Try.prog 99 #[.func (.yield l) #[] #[], .pointer (some ⟨x0, 0, none⟩), .pointer (some ⟨x1, 0, none⟩)] W fun e W' => (∃ v, e = .returned v) ∧
      ((∃ ys, ys = L.takeWhile q ∧ J ys W') ∨ (∃ pre, pre <+: L.takeWhile q ∧ Jx pre W')) := by
  obtain ⟨m, hm⟩ : ∃ m, L.length = m := ⟨_, rfl⟩
  have HM := Lib.hid hm
  rw [hm] at yw hL
  have Y1 := Lib.hid y1
  have HR := Lib.hid hr
  have HTr := Lib.hid hTr
  have HJ := Lib.hid hJ
  have HY := Lib.hid hY
  have HIs := Lib.hid HI
  have H0 : Hid (J [] W) := h0
  clear hr hJ hY h0 HI hm hTr y1
  refine callsIn_of_wp Try.func99 rfl trivial ?_ rfl
  simp only [Try.ntmps99, List.size_toArray, List.length_cons, List.length_nil, Nat.reduceAdd, Nat.reduceSub, Array.replicate_succ, Array.replicate_zero, List.push_toArray, List.append_toArray, List.nil_append, List.cons_append]
  gi_wp2
  gi_loopw [11] (fun i wr => ∃ k : Nat, k ≤ m ∧ i = .int .i64 k ∧ Hid (∀ y ∈ L.take k, q y = true) ∧ Hid (J (L.take k) wr) ∧ Hid (OKp T W wr)) (fun i _ => m - (intOf i).toNat)
  case atStart => exact ⟨0, Nat.zero_le _, rfl, (fun y hy => by simp at hy), H0, OKp.refl T W⟩
  case round =>
    obtain ⟨k, hk, rfl, HQ, HJk, HK⟩ := hrel
    by_cases hlt : k < m
    · obtain ⟨x, hx⟩ : ∃ x, L[k]? = some x := ⟨_, List.getElem?_eq_getElem (by rw [HM.out]; exact hlt)⟩
      have HX := Lib.hid hx
      obtain ⟨A, rfl, c0, c1, c2, c3, c4⟩ := (ECells.kept HK.out HR.out HTr.out) k x hx
      unfold efld at c1 c2 c3 c4
      have y1 := HK.out.cell Y1.out hT1
      have hxm := List.mem_of_getElem? hx
      have hk0 : (0 : Int) ≤ (k : Int) := by omega
      have hk1 : (k : Int) < (m : Int) := by omega
      have hwk : wrap64 ((k : Int) + 1) = (k : Int) + 1 := by unfold wrap64; omega
      have hpc := Lib.hid (takeWhile_at (q := q) hx HQ.out)
      have htk := Lib.hid (List.take_add_one (l := L) (i := k))
      rw [hx] at htk
      have y2 : (wr.alloc (.cells #[.int .i64 x.ts, .int .i64 x.dep, .int .i64 x.seq, .string x.nm, .slice x.a x.vs.length x.c] 25)).cell? ⟨x1, 0, none⟩ = some (.func (.func fI) #[] #[cv]) := ekeepAl _ y1
      have HB1 : Hid (Below wr.heap.size wr (wr.alloc (.cells #[.int .i64 x.ts, .int .i64 x.dep, .int .i64 x.seq, .string x.nm, .slice x.a x.vs.length x.c] 25))) := (Below.refl _ _).alloc (Nat.le_refl _) _
      clear hx
      have HIx : Hid (Calls Try.prog fI #[.agg #[.int .i64 x.ts, .int .i64 x.dep, .int .i64 x.seq, .string x.nm, .slice x.a x.vs.length x.c], cv] (wr.alloc (.cells #[.int .i64 x.ts, .int .i64 x.dep, .int .i64 x.seq, .string x.nm, .slice x.a x.vs.length x.c] 25)) fun e w' => e = .returned (.bool (q x)) ∧ Below (wr.alloc (.cells #[.int .i64 x.ts, .int .i64 x.dep, .int .i64 x.seq, .string x.nm, .slice x.a x.vs.length x.c] 25)).heap.size (wr.alloc (.cells #[.int .i64 x.ts, .int .i64 x.dep, .int .i64 x.seq, .string x.nm, .slice x.a x.vs.length x.c] 25)) w') := HIs.out _ (HK.out.trans (OKp.of_below HB1.out)) x hxm
      gi_wp2
      refine ⟨trivial, ?_⟩
      rw [hen]
      refine ⟨fun _ => hn, (callsIn_wide.2 HIx.out).mono ?_⟩
      rintro e w2 ⟨rfl, hb2⟩
      have HB2 : Hid (Below wr.heap.size wr w2) := HB1.out.trans (hb2.mono HB1.out.size)
      have HJ2 : Hid (J (L.take k) w2) := HJ.out _ wr w2 none HJk.out (ogrown_of_below HB2.out) (fun r e => by cases e)
      have HK2 : Hid (OKp T W w2) := HK.out.trans (OKp.of_below HB2.out)
      have e0 := ekeep hb2 (new_cell wr #[.int .i64 x.ts, .int .i64 x.dep, .int .i64 x.seq, .string x.nm, .slice x.a x.vs.length x.c] 25 (b := wr.heap.size) (i := 0) rfl rfl)
      have e1 := ekeep hb2 (new_cell wr #[.int .i64 x.ts, .int .i64 x.dep, .int .i64 x.seq, .string x.nm, .slice x.a x.vs.length x.c] 25 (b := wr.heap.size) (i := 1) rfl rfl)
      have e2 := ekeep hb2 (new_cell wr #[.int .i64 x.ts, .int .i64 x.dep, .int .i64 x.seq, .string x.nm, .slice x.a x.vs.length x.c] 25 (b := wr.heap.size) (i := 2) rfl rfl)
      have e3 := ekeep hb2 (new_cell wr #[.int .i64 x.ts, .int .i64 x.dep, .int .i64 x.seq, .string x.nm, .slice x.a x.vs.length x.c] 25 (b := wr.heap.size) (i := 3) rfl rfl)
      have e4 := ekeep hb2 (new_cell wr #[.int .i64 x.ts, .int .i64 x.dep, .int .i64 x.seq, .string x.nm, .slice x.a x.vs.length x.c] 25 (b := wr.heap.size) (i := 4) rfl rfl)
      clear hb2 HIx HB1 y1 y2 c0 c1 c2 c3 c4
      cases hq : q x with
      | false =>
        have hfin := Lib.hid ((hpc.out.2 hq).symm)
        clear hq
        gi_wp2
        refine ⟨fun _ h => (by cases h), ?_⟩
        gi_wp2
        refine bodyPost_ret (results_none rfl _ _ _) rfl ?_
        exact ⟨⟨_, rfl⟩, .inl ⟨_, hfin.out, HJ2.out⟩⟩
      | true =>
        obtain ⟨hlen, hpre⟩ := hpc.out.1 hq
        obtain ⟨fn, tmps, assign, body, hy, hR⟩ := HY.out _ x w2 HJ2.out (by rw [List.length_take]; have := HM.out; omega) hxm
        simp only [EIn.v, evV] at hy
        have HPRE := Lib.hid hpre
        have HQ2 : Hid (∀ y ∈ L.take (k + 1), q y = true) := by
          intro y hy2
          rw [htk.out] at hy2
          rcases List.mem_append.1 hy2 with h | h
          · exact HQ.out y h
          · simp at h; rw [h]; exact hq
        clear hlen hpre hq
        gi_wp2
        refine hR.mono ?_
        rintro e w3 (⟨rfl, hJ4, hk4⟩ | ⟨rfl, hJx⟩)
        · have HJ4 : Hid (J (L.take (k + 1)) w3) := by
            show J _ _
            rw [htk.out]
            simpa using hJ4
          have HK4 : Hid (OKp T W w3) := HK2.out.trans hk4
          clear hJ4 hk4
          gi_wp2
          try (refine ⟨fun _ h => (by cases h), ?_⟩)
          gi_wp2
          go_roundw
          case rel => exact ⟨k + 1, by omega, by go_num, HQ2, HJ4, HK4⟩
          case measure => simp [intOf]; omega
        · have HJX : Hid (Jx (L.take (k + 1)) w3) := by
            show Jx _ _
            rw [htk.out]
            simpa using hJx
          clear hJx
          gi_wp2
          try (refine ⟨fun _ h => (by cases h), ?_⟩)
          gi_wp2
          refine bodyPost_ret (results_none rfl _ _ _) rfl ?_
          exact ⟨⟨_, rfl⟩, .inr ⟨_, HPRE.out, HJX.out⟩⟩
    · have hall : L.take k = L := by rw [show k = m by omega, ← HM.out]; exact List.take_length
      rw [hall] at HJk HQ
      have hfin := Lib.hid (takeWhile_all HQ.out)
      clear hall
      gi_wp2
      go_end0
      exact ⟨⟨_, rfl⟩, .inl ⟨_, hfin.out.symm, HJk.out⟩⟩

set_option maxRecDepth 100000 in
set_option maxHeartbeats 4000000 in
theorem first1_inn {W : World} (n : Nat) (hn : 1 ≤ n) (l : Nat) (T : Nat → Obj → Prop) {x0 x1 bb : Nat} {a : Option Addr} {c : Nat} {L : List EIn} {fI : FuncId} (q : EIn → Bool)
    (y0 : W.cell? ⟨x0, 0, none⟩ = some (.pointer (some ⟨bb, 0, none⟩))) (y1 : W.cell? ⟨x1, 0, none⟩ = some (.func (.func fI) #[] #[])) (yw : W.cell? ⟨bb, 1, none⟩ = some (.slice a L.length c)) (hr : ECells W a L) (hL : L.length ≤ 1000)
    (hT1 : ∀ o, W.heap[x1]? = some o → ¬ T x1 o) (hTr : ∀ A o, a = some A → W.heap[A.block]? = some o → ¬ T A.block o)
    (hen : Enters Try.prog fI) (HI : ∀ W', OKp T W W' → ∀ x ∈ L, Calls Try.prog fI #[x.v] W' fun e w' => e = .returned (.bool (q x)) ∧ Below W'.heap.size W' w')
    (J Jx : List EIn → World → Prop) (hJ : AbidesFrom W.heap.size J)
    (hY : ∀ pre (x : EIn) W1, J pre W1 → pre.length < (L.takeWhile q).length → x ∈ L → YieldAt Fence.wide (n - 1) Try.prog l #[x.v] W1 fun e W' =>
      (e = .returned (.bool true) ∧ J (pre ++ [x]) W' ∧ OKp T W1 W') ∨ (e = .returned (.bool false) ∧ Jx (pre ++ [x]) W')) (h0 : J [] W) :
    CallsIn Fence.wide n Try.prog 99 #[.func (.yield l) #[] #[], .pointer (some ⟨x0, 0, none⟩), .pointer (some ⟨x1, 0, none⟩)] W fun e W' => (∃ v, e = .returned v) ∧
      ((∃ ys, ys = L.takeWhile q ∧ J ys W') ∨ (∃ pre, pre <+: L.takeWhile q ∧ Jx pre W')) := by
  obtain ⟨m, hm⟩ : ∃ m, L.length = m := ⟨_, rfl⟩
  have HM := Lib.hid hm
  rw [hm] at yw hL
  have Y1 := Lib.hid y1
  have HR := Lib.hid hr
  have HTr := Lib.hid hTr
  have HJ := Lib.hid hJ
  have HY := Lib.hid hY
  have HIs := Lib.hid HI
  have H0 : Hid (J [] W) := h0
  clear hr hJ hY h0 HI hm hTr y1
  refine callsIn_of_wp Try.func99 rfl trivial ?_ rfl
  simp only [Try.ntmps99, List.size_toArray, List.length_cons, List.length_nil, Nat.reduceAdd, Nat.reduceSub, Array.replicate_succ, Array.replicate_zero, List.push_toArray, List.append_toArray, List.nil_append, List.cons_append]
  gi_wp2
  gi_loopw [11] (fun i wr => ∃ k : Nat, k ≤ m ∧ i = .int .i64 k ∧ Hid (∀ y ∈ L.take k, q y = true) ∧ Hid (J (L.take k) wr) ∧ Hid (OKp T W wr)) (fun i _ => m - (intOf i).toNat)
  case atStart => exact ⟨0, Nat.zero_le _, rfl, (fun y hy => by simp at hy), H0, OKp.refl T W⟩
  case round =>
    obtain ⟨k, hk, rfl, HQ, HJk, HK⟩ := hrel
    by_cases hlt : k < m
    · obtain ⟨x, hx⟩ : ∃ x, L[k]? = some x := ⟨_, List.getElem?_eq_getElem (by rw [HM.out]; exact hlt)⟩
      have HX := Lib.hid hx
      obtain ⟨A, rfl, c0, c1, c2, c3, c4⟩ := (ECells.kept HK.out HR.out HTr.out) k x hx
      unfold efld at c1 c2 c3 c4
      have y1 := HK.out.cell Y1.out hT1
      have hxm := List.mem_of_getElem? hx
      have hk0 : (0 : Int) ≤ (k : Int) := by omega
      have hk1 : (k : Int) < (m : Int) := by omega
      have hwk : wrap64 ((k : Int) + 1) = (k : Int) + 1 := by unfold wrap64; omega
      have hpc := Lib.hid (takeWhile_at (q := q) hx HQ.out)
      have htk := Lib.hid (List.take_add_one (l := L) (i := k))
      rw [hx] at htk
      have y2 : (wr.alloc (.cells #[.int .i64 x.ts, .int .i64 x.dep, .int .i64 x.seq, .string x.nm, .slice x.a x.vs.length x.c] 25)).cell? ⟨x1, 0, none⟩ = some (.func (.func fI) #[] #[]) := ekeepAl _ y1
      have HB1 : Hid (Below wr.heap.size wr (wr.alloc (.cells #[.int .i64 x.ts, .int .i64 x.dep, .int .i64 x.seq, .string x.nm, .slice x.a x.vs.length x.c] 25))) := (Below.refl _ _).alloc (Nat.le_refl _) _
      clear hx
      have HIx : Hid (Calls Try.prog fI #[.agg #[.int .i64 x.ts, .int .i64 x.dep, .int .i64 x.seq, .string x.nm, .slice x.a x.vs.length x.c]] (wr.alloc (.cells #[.int .i64 x.ts, .int .i64 x.dep, .int .i64 x.seq, .string x.nm, .slice x.a x.vs.length x.c] 25)) fun e w' => e = .returned (.bool (q x)) ∧ Below (wr.alloc (.cells #[.int .i64 x.ts, .int .i64 x.dep, .int .i64 x.seq, .string x.nm, .slice x.a x.vs.length x.c] 25)).heap.size (wr.alloc (.cells #[.int .i64 x.ts, .int .i64 x.dep, .int .i64 x.seq, .string x.nm, .slice x.a x.vs.length x.c] 25)) w') := HIs.out _ (HK.out.trans (OKp.of_below HB1.out)) x hxm
      gi_wp2
      refine ⟨trivial, ?_⟩
      rw [hen]
      refine ⟨fun _ => hn, (callsIn_wide.2 HIx.out).mono ?_⟩
      rintro e w2 ⟨rfl, hb2⟩
      have HB2 : Hid (Below wr.heap.size wr w2) := HB1.out.trans (hb2.mono HB1.out.size)
      have HJ2 : Hid (J (L.take k) w2) := HJ.out _ wr w2 none HJk.out (ogrown_of_below HB2.out) (fun r e => by cases e)
      have HK2 : Hid (OKp T W w2) := HK.out.trans (OKp.of_below HB2.out)
      have e0 := ekeep hb2 (new_cell wr #[.int .i64 x.ts, .int .i64 x.dep, .int .i64 x.seq, .string x.nm, .slice x.a x.vs.length x.c] 25 (b := wr.heap.size) (i := 0) rfl rfl)
      have e1 := ekeep hb2 (new_cell wr #[.int .i64 x.ts, .int .i64 x.dep, .int .i64 x.seq, .string x.nm, .slice x.a x.vs.length x.c] 25 (b := wr.heap.size) (i := 1) rfl rfl)
      have e2 := ekeep hb2 (new_cell wr #[.int .i64 x.ts, .int .i64 x.dep, .int .i64 x.seq, .string x.nm, .slice x.a x.vs.length x.c] 25 (b := wr.heap.size) (i := 2) rfl rfl)
      have e3 := ekeep hb2 (new_cell wr #[.int .i64 x.ts, .int .i64 x.dep, .int .i64 x.seq, .string x.nm, .slice x.a x.vs.length x.c] 25 (b := wr.heap.size) (i := 3) rfl rfl)
      have e4 := ekeep hb2 (new_cell wr #[.int .i64 x.ts, .int .i64 x.dep, .int .i64 x.seq, .string x.nm, .slice x.a x.vs.length x.c] 25 (b := wr.heap.size) (i := 4) rfl rfl)
      clear hb2 HIx HB1 y1 y2 c0 c1 c2 c3 c4
      cases hq : q x with
      | false =>
        have hfin := Lib.hid ((hpc.out.2 hq).symm)
        clear hq
        gi_wp2
        refine ⟨fun _ h => (by cases h), ?_⟩
        gi_wp2
        refine bodyPost_ret (results_none rfl _ _ _) rfl ?_
        exact ⟨⟨_, rfl⟩, .inl ⟨_, hfin.out, HJ2.out⟩⟩
      | true =>
        obtain ⟨hlen, hpre⟩ := hpc.out.1 hq
        obtain ⟨fn, tmps, assign, body, hy, hR⟩ := HY.out _ x w2 HJ2.out (by rw [List.length_take]; have := HM.out; omega) hxm
        simp only [EIn.v, evV] at hy
        have HPRE := Lib.hid hpre
        have HQ2 : Hid (∀ y ∈ L.take (k + 1), q y = true) := by
          intro y hy2
          rw [htk.out] at hy2
          rcases List.mem_append.1 hy2 with h | h
          · exact HQ.out y h
          · simp at h; rw [h]; exact hq
        clear hlen hpre hq
        gi_wp2
        refine hR.mono ?_
        rintro e w3 (⟨rfl, hJ4, hk4⟩ | ⟨rfl, hJx⟩)
        · have HJ4 : Hid (J (L.take (k + 1)) w3) := by
            show J _ _
            rw [htk.out]
            simpa using hJ4
          have HK4 : Hid (OKp T W w3) := HK2.out.trans hk4
          clear hJ4 hk4
          gi_wp2
          try (refine ⟨fun _ h => (by cases h), ?_⟩)
          gi_wp2
          go_roundw
          case rel => exact ⟨k + 1, by omega, by go_num, HQ2, HJ4, HK4⟩
          case measure => simp [intOf]; omega
        · have HJX : Hid (Jx (L.take (k + 1)) w3) := by
            show Jx _ _
            rw [htk.out]
            simpa using hJx
          clear hJx
          gi_wp2
          try (refine ⟨fun _ h => (by cases h), ?_⟩)
          gi_wp2
          refine bodyPost_ret (results_none rfl _ _ _) rfl ?_
          exact ⟨⟨_, rfl⟩, .inr ⟨_, HPRE.out, HJX.out⟩⟩
    · have hall : L.take k = L := by rw [show k = m by omega, ← HM.out]; exact List.take_length
      rw [hall] at HJk HQ
      have hfin := Lib.hid (takeWhile_all HQ.out)
      clear hall
      gi_wp2
      go_end0
      exact ⟨⟨_, rfl⟩, .inl ⟨_, hfin.out.symm, HJk.out⟩⟩

end Go.Proofs.Ytfmlgckfcclojaa
namespace Go.Proofs.Ytfmlgckfcclojaa
open Go.RowKit Go.Lib Go.Op

/-- Is an event ahead? -/
def lessX (x y : EIn) : Bool := lessE x.ts x.dep x.seq y.ts y.dep y.seq

set_option maxRecDepth 100000 in
theorem oright_calls (x : EIn) (w : World) (hn : x.nm.size ≤ maxLen) (hv : VRow w x.a x.vs) (hl : x.vs.length ≤ maxLen) :
    Calls Try.prog 71 #[x.v] w fun e w' => e = .returned (.bool (rightE x.p)) ∧ Below w.heap.size w w' := by
  obtain ⟨t, d, s, n, a, c, vs⟩ := x
  dsimp only [EIn.v, EIn.p] at hn hv hl ⊢
  have hb0 : Below w.heap.size w (w.alloc (.cells #[.int .i64 t, .int .i64 d, .int .i64 s, .string n, .slice a vs.length c] 25)) := (Below.refl _ _).alloc (Nat.le_refl _) _
  have HF : Hid (Calls Try.prog 24 #[.slice none 0 0, evV t d s n (.slice a vs.length c)] (w.alloc (.cells #[.int .i64 t, .int .i64 d, .int .i64 s, .string n, .slice a vs.length c] 25)) fun e w' => e = .returned (.int .i64 (if rightE (pe t d s n vs) then fitsI [] n vs else 1)) ∧ Below (w.alloc (.cells #[.int .i64 t, .int .i64 d, .int .i64 s, .string n, .slice a vs.length c] 25)).heap.size (w.alloc (.cells #[.int .i64 t, .int .i64 d, .int .i64 s, .string n, .slice a vs.length c] 25)) w') := (fits_calls none 0 [] t d s n a c vs _ (fun j y hj => by simp at hj) (Nat.zero_le _) hn (hv.below hb0) hl)
  have HB0 := Lib.hid hb0
  obtain ⟨z, hz⟩ : ∃ z : Int, (if rightE (pe t d s n vs) then fitsI [] n vs else 1) = z := ⟨_, rfl⟩
  rw [hz] at HF
  have hz2 : rightE (pe t d s n vs) = !(decide (z = 1)) := by
    rw [← hz]
    cases rightE (pe t d s n vs) <;> simp [fitsI]
  rw [hz2]
  clear hv hb0 hz hz2
  go_enter Try.func71, Try.ntmps71
  go_wp2_with (go_at_call 24; (with_reducible refine HF.out.mono ?_); rintro e w1 ⟨rfl, hb1⟩)
  go_ret
  exact ⟨by by_cases h : z = 1 <;> simp [h], HB0.out.trans (hb1.mono HB0.out.size)⟩

set_option maxRecDepth 100000 in
theorem oplace1_calls (x y : EIn) (g : Nat) (w : World) (c0 : w.cell? ⟨g, 0, none⟩ = some (.int .i64 y.ts)) (c1 : w.cell? ⟨g, 1, none⟩ = some (.int .i64 y.dep)) (c2 : w.cell? ⟨g, 2, none⟩ = some (.int .i64 y.seq)) (c3 : w.cell? ⟨g, 3, none⟩ = some (.string y.nm)) (c4 : w.cell? ⟨g, 4, none⟩ = some (.slice y.a y.vs.length y.c)) :
    Calls Try.prog 91 #[x.v, .pointer (some ⟨g, 0, none⟩)] w fun e w' => e = .returned (.bool (lessX x y)) ∧ Below w.heap.size w w' := by
  obtain ⟨t, d, s, n, a, c, vs⟩ := x
  obtain ⟨t', d', s', n', a', c', vs'⟩ := y
  dsimp only [EIn.v, lessX] at c0 c1 c2 c3 c4 ⊢
  have HL := Lib.hid (fun W => less_calls t d s n (.slice a vs.length c) t' d' s' n' (.slice a' vs'.length c') W)
  have HB0 : Hid (Below w.heap.size w (w.alloc (.cells #[.int .i64 t, .int .i64 d, .int .i64 s, .string n, .slice a vs.length c] 25))) := (Below.refl _ _).alloc (Nat.le_refl _) _
  have k0 := ekeepAl (.cells #[.int .i64 t, .int .i64 d, .int .i64 s, .string n, .slice a vs.length c] 25) c0
  have k1 := ekeepAl (.cells #[.int .i64 t, .int .i64 d, .int .i64 s, .string n, .slice a vs.length c] 25) c1
  have k2 := ekeepAl (.cells #[.int .i64 t, .int .i64 d, .int .i64 s, .string n, .slice a vs.length c] 25) c2
  have k3 := ekeepAl (.cells #[.int .i64 t, .int .i64 d, .int .i64 s, .string n, .slice a vs.length c] 25) c3
  have k4 := ekeepAl (.cells #[.int .i64 t, .int .i64 d, .int .i64 s, .string n, .slice a vs.length c] 25) c4
  go_enter Try.func91, Try.ntmps91
  go_wp2_with (go_at_call 33; (with_reducible refine (HL.out _).mono ?_); rintro e w1 ⟨rfl, hb1⟩)
  go_ret
  exact ⟨rfl, HB0.out.trans (hb1.mono HB0.out.size)⟩

set_option maxRecDepth 100000 in
theorem oadvance1_calls (x : EIn) (g : Nat) (T : Int) (w : World) (c0 : w.cell? ⟨g, 0, none⟩ = some (.int .i64 T)) :
    Calls Try.prog 69 #[x.v, .pointer (some ⟨g, 0, none⟩)] w fun e w' => e = .returned (.bool (decide (x.ts ≤ T))) ∧ Below w.heap.size w w' := by
  obtain ⟨t, d, s, n, a, c, vs⟩ := x
  dsimp only [EIn.v]
  have HB0 : Hid (Below w.heap.size w (w.alloc (.cells #[.int .i64 t, .int .i64 d, .int .i64 s, .string n, .slice a vs.length c] 25))) := (Below.refl _ _).alloc (Nat.le_refl _) _
  have k0 := ekeepAl (.cells #[.int .i64 t, .int .i64 d, .int .i64 s, .string n, .slice a vs.length c] 25) c0
  go_enter Try.func69, Try.ntmps69
  go_wp2
  go_ret
  exact ⟨by simp, HB0.out⟩

set_option maxRecDepth 100000 in
theorem owaiting1_calls (x : EIn) (w : World) :
    Calls Try.prog 76 #[x.v] w fun e w' => e = .returned (.bool true) ∧ Below w.heap.size w w' := by
  obtain ⟨t, d, s, n, a, c, vs⟩ := x
  dsimp only [EIn.v]
  have HB0 : Hid (Below w.heap.size w (w.alloc (.cells #[.int .i64 t, .int .i64 d, .int .i64 s, .string n, .slice a vs.length c] 25))) := (Below.refl _ _).alloc (Nat.le_refl _) _
  go_enter Try.func76, Try.ntmps76
  go_wp2
  go_ret
  exact ⟨rfl, HB0.out⟩

set_option maxRecDepth 100000 in
theorem ofirst_calls (bb : Nat) (fI : FuncId) (caps : Array Value) (w : World) :
    Calls Try.prog 90 #[.pointer (some ⟨bb, 0, none⟩), .func (.func fI) #[] caps] w fun e w' => e = .returned (.func (.func 99) #[] #[.pointer (some ⟨w.heap.size, 0, none⟩), .pointer (some ⟨w.heap.size + 1, 0, none⟩)]) ∧ w' = (w.alloc (.cells #[.pointer (some ⟨bb, 0, none⟩)] 59)).alloc (.cells #[.func (.func fI) #[] caps] 28) := by
  go_enter Try.func90, Try.ntmps90
  go_wp2
  go_ret
  exact ⟨rfl, rfl⟩

end Go.Proofs.Ytfmlgckfcclojaa
namespace Go.Proofs.Ytfmlgckfcclojaa
open Go.RowKit Go.Lib Go.Op Go.Shelf

attribute [local go_sem] Oper.semAt_some

theorem OKp.setCell {T : Nat → Obj → Prop} {W W' : World} (h : OKp T W W') {p : Addr} (hp : ∀ o, T p.block o) (u : Value) : OKp T W (W'.setCell p u) :=
  ⟨by simp [World.setCell]; exact h.1, fun b o hb ho hT => (Below.heap_setCell _ _ _ _ (fun e => by subst e; exact hT (hp o))).trans (h.2 b o hb ho hT)⟩
theorem OKp.drew {T : Nat → Obj → Prop} {W W' : World} (h : OKp T W W') : OKp T W W'.drew := ⟨h.1, h.2⟩

theorem first_stopsc {w : World} (n : Nat) (hn : 1 ≤ n) (T : Nat → Obj → Prop) {x0 x1 bb : Nat} {a : Option Addr} {c : Nat} {L : List EIn} {fI : FuncId} {cv : Value} (q : EIn → Bool)
    (y0 : w.cell? ⟨x0, 0, none⟩ = some (.pointer (some ⟨bb, 0, none⟩))) (y1 : w.cell? ⟨x1, 0, none⟩ = some (.func (.func fI) #[] #[cv])) (yw : w.cell? ⟨bb, 1, none⟩ = some (.slice a L.length c)) (hr : ECells w a L) (hL : L.length ≤ 1000)
    (hT1 : ∀ o, w.heap[x1]? = some o → ¬ T x1 o) (hTr : ∀ A o, a = some A → ¬ T A.block o)
    (hen : Enters Try.prog fI) (HI : ∀ W W', Below w.heap.size w W → OKp T W W' → ∀ x ∈ L, Calls Try.prog fI #[x.v, cv] W' fun e w' => e = .returned (.bool (q x)) ∧ Below W'.heap.size W' w') :
    SeqStopsK Fence.wide n Try.prog 99 #[.pointer (some ⟨x0, 0, none⟩), .pointer (some ⟨x1, 0, none⟩)] (fun x : EIn => #[x.v]) (OKp T) (fun ys => ys = L.takeWhile q) (fun pre => pre <+: L.takeWhile q) (L.takeWhile q).length w := fun l J Jx W hW hJ _ hY h0 =>
  have hr' : ECells W a L := ECells.kept (T := fun _ _ => False) (OKp.of_below hW) hr (fun _ _ _ _ h => h)
  first1_inc n hn l T q ((hW.cell (World.block_lt_of_cell? _ _ y0)).trans y0) ((hW.cell (World.block_lt_of_cell? _ _ y1)).trans y1) ((hW.cell (World.block_lt_of_cell? _ _ yw)).trans yw) hr' hL
    (fun o ho => hT1 o ((hW.block x1 (World.block_lt_of_cell? _ _ y1)).symm.trans ho)) (fun A o hA _ => hTr A o hA) hen (fun W' hk => HI W W' hW hk) J Jx hJ (fun pre x W1 h1 h2 _ => hY pre x W1 h1 h2) h0

set_option maxRecDepth 100000 in
set_option maxHeartbeats 4000000 in
theorem oplace_calls {w : World} {bb : Nat} {a : Option Addr} {c : Nat} {L : List EIn} (y : EIn) (yw : w.cell? ⟨bb, 1, none⟩ = some (.slice a L.length c)) (hr : ECells w a L) (hL : L.length ≤ 1000) (hA : ∀ A, a = some A → A.block < w.heap.size) :
    Calls Try.prog 72 #[.pointer (some ⟨bb, 0, none⟩), y.v] w fun e w' => e = .returned (.int .i64 (L.takeWhile fun x => lessX x y).length) ∧ Below w.heap.size w w' := by
  obtain ⟨t, d, s, nm, ya, yc, yvs⟩ := y
  have HYW := Lib.hid yw
  have HR := Lib.hid hr
  have HA := Lib.hid hA
  clear yw hr hA
  refine (callsIn_wide (n := 3)).1 ?_
  refine callsIn_of_wp_marks Try.func72 rfl trivial ?_ rfl
  simp only [Try.ntmps72, List.size_toArray, List.length_cons, List.length_nil, Nat.reduceAdd, Nat.reduceSub, Array.replicate_succ, Array.replicate_zero, List.push_toArray, List.append_toArray, List.nil_append, List.cons_append]
  dsimp only [EIn.v]
  gi_wp2
  refine ⟨trivial, (callsIn_wide.2 (ofirst_calls _ _ _ _)).mono ?_⟩
  rintro e w1 ⟨rfl, rfl⟩
  gi_wp2
  simp only [Nat.add_assoc, Nat.reduceAdd]
  obtain ⟨W0, hW0⟩ : ∃ W0, W0 = (((w.alloc (.cells #[.int .i64 t, .int .i64 d, .int .i64 s, .string nm, .slice ya yvs.length yc] 25)).alloc (.cells #[.int .i64 0] 3)).alloc (.cells #[.pointer (some ⟨bb, 0, none⟩)] 59)).alloc (.cells #[.func (.func 91) #[] #[.pointer (some ⟨w.heap.size, 0, none⟩)]] 28) := ⟨_, rfl⟩
  rw [← hW0]
  have hb0 : Below w.heap.size w W0 := by rw [hW0]; exact ((((Below.refl _ w).alloc (Nat.le_refl _) _).alloc (by simp) _).alloc (by simp only [World.size_alloc]; omega) _).alloc (by simp only [World.size_alloc]; omega) _
  have hsz : W0.heap.size = w.heap.size + 4 := by rw [hW0]; simp
  have e0 : W0.cell? ⟨w.heap.size, 0, none⟩ = some (.int .i64 t) := by rw [hW0]; exact ekeepAl _ (ekeepAl _ (ekeepAl _ (new_cell _ _ _ rfl rfl)))
  have e1 : W0.cell? ⟨w.heap.size, 1, none⟩ = some (.int .i64 d) := by rw [hW0]; exact ekeepAl _ (ekeepAl _ (ekeepAl _ (new_cell _ _ _ rfl rfl)))
  have e2 : W0.cell? ⟨w.heap.size, 2, none⟩ = some (.int .i64 s) := by rw [hW0]; exact ekeepAl _ (ekeepAl _ (ekeepAl _ (new_cell _ _ _ rfl rfl)))
  have e3 : W0.cell? ⟨w.heap.size, 3, none⟩ = some (.string nm) := by rw [hW0]; exact ekeepAl _ (ekeepAl _ (ekeepAl _ (new_cell _ _ _ rfl rfl)))
  have e4 : W0.cell? ⟨w.heap.size, 4, none⟩ = some (.slice ya yvs.length yc) := by rw [hW0]; exact ekeepAl _ (ekeepAl _ (ekeepAl _ (new_cell _ _ _ rfl rfl)))
  have k1 : W0.cell? ⟨w.heap.size + 1, 0, none⟩ = some (.int .i64 ((0 : Nat) : Int)) := by rw [hW0]; exact ekeepAl _ (ekeepAl _ (new_cell _ _ _ (by simp) rfl))
  have f1 : W0.frozen? ⟨w.heap.size + 1, 0, none⟩ = false := by rw [hW0]; exact keep_frozen _ _ (by simp) (keep_frozen _ _ (by simp) (new_frozen _ _ _ (by simp)))
  have k2 : W0.cell? ⟨w.heap.size + 2, 0, none⟩ = some (.pointer (some ⟨bb, 0, none⟩)) := by rw [hW0]; exact ekeepAl _ (new_cell _ _ _ (by simp) rfl)
  have k3 : W0.cell? ⟨w.heap.size + 3, 0, none⟩ = some (.func (.func 91) #[] #[.pointer (some ⟨w.heap.size, 0, none⟩)]) := by rw [hW0]; exact new_cell _ _ _ (by simp) rfl
  clear hW0
  refine wpIn_rangeFunc_ownG rfl (by omega) (gf := 99) (lb := #[.pointer (some ⟨w.heap.size + 2, 0, none⟩), .pointer (some ⟨w.heap.size + 3, 0, none⟩)]) rfl trivial (enters_of Try.func99 (by kernel_rfl) rfl)
    (first_stopsc (3 - 1) (by omega) (fun b _ => b = w.heap.size + 1) (fun x => lessX x ⟨t, d, s, nm, ya, yc, yvs⟩) k2 k3 (ekeep hb0 HYW.out) (ECells.kept (T := fun _ _ => False) (OKp.of_below hb0) HR.out (fun _ _ _ _ h => h)) hL (fun _ _ => by omega) (fun A _ hA e => by have := HA.out A hA; omega) (enters_of Try.func91 (by kernel_rfl) rfl) ?hI)
    OKp.trans ?hKb (Below.refl _ _) (fun _ => rfl)
    (fun pre W => (W.cell? ⟨w.heap.size + 1, 0, none⟩ = some (.int .i64 (pre.length : Nat)) ∧ W.frozen? ⟨w.heap.size + 1, 0, none⟩ = false) ∧ Below w.heap.size w W)
    (fun _ _ _ => False)
    (OwnFrom.and (Own.from (fun s A B row hs hg hr => ⟨cell_kept hs.1 hg hr, (frozen_kept hs.1 hg hr).trans hs.2⟩) _) (ownFrom_below (Nat.le_refl _) (by omega)))
    (fun _ _ _ _ _ hs _ _ => hs)
    ⟨⟨k1, f1⟩, hb0⟩
    (fun x => { tmps := #[.pointer (some ⟨bb, 0, none⟩), evV t d s nm (.slice ya yvs.length yc), undef, .pointer (some ⟨w.heap.size, 0, none⟩), .int .i64 0, .pointer (some ⟨w.heap.size + 1, 0, none⟩), .pointer (some ⟨bb, 0, none⟩), .func (.func 91) #[] #[.pointer (some ⟨w.heap.size, 0, none⟩)], .func (.func 99) #[] #[.pointer (some ⟨w.heap.size + 2, 0, none⟩), .pointer (some ⟨w.heap.size + 3, 0, none⟩)], x.v, undef, undef, undef], defers := [] })
    ?assign ?body ?done ?stop
  case hI =>
    intro W W' hW hk x _
    have k : ∀ {i : Nat} {v : Value}, W0.cell? ⟨w.heap.size, i, none⟩ = some v → W'.cell? ⟨w.heap.size, i, none⟩ = some v := fun hx => hk.cell (ekeep hW hx) (fun _ _ h => by dsimp only at h; omega)
    exact oplace1_calls x ⟨t, d, s, nm, ya, yc, yvs⟩ w.heap.size W' (k e0) (k e1) (k e2) (k e3) (k e4)
  case hKb =>
    intro W l o o' hl ho hc _
    refine ⟨by simp, fun b o2 hb hoc hT => ?_⟩
    rw [World.putObj_heap_other (fun e => by subst e; rw [ho] at hb; injection hb with hb; subst hb; rw [hc] at hoc; cases hoc)]
    exact hb
  case assign =>
    intro l x W K hK
    gi_wp2
    simpa [Array.zip] using hK
  case stop =>
    rintro D c pre W _ _ h _
    exact h.elim
  case body =>
    rintro l pre x W ⟨⟨h1, h2⟩, hB⟩ hlt
    have HB := Lib.hid hB
    have hpl : pre.length < 1000 := Nat.lt_of_lt_of_le hlt (Nat.le_trans (List.takeWhile_prefix _).length_le hL)
    have hwk : wrap64 ((pre.length : Int) + 1) = (pre.length : Int) + 1 := by unfold wrap64; omega
    have hcell : (W.setCell ⟨w.heap.size + 1, 0, none⟩ (.int .i64 ((pre.length : Int) + 1))).cell? ⟨w.heap.size + 1, 0, none⟩ = some (.int .i64 (((pre ++ [x]).length : Nat) : Int)) := by
      rw [World.cell?_setCell_same _ _ _ h1]; simp
    have HC := Lib.hid hcell
    clear hB hcell hlt hb0
    gi_wp2
    exact ⟨(KeepsOthers.setCell _ _ _).from _, (OKp.refl _ W).setCell (fun _ => rfl) _, ⟨HC.out, by simp [h2]⟩, HB.out.setCell (by show w.heap.size ≤ w.heap.size + 1; omega) _⟩
  case done =>
    rintro D ys W hD rfl ⟨⟨h1, h2⟩, hB⟩ hK
    gi_wp2
    refine ⟨by simp, .inl ⟨_, _, rfl, run_takeDeferred hK, ?_⟩⟩
    refine ⟨.int .i64 (L.takeWhile fun x => lessX x ⟨t, d, s, nm, ya, yc, yvs⟩).length, ?_, rfl, ?_⟩
    · simp [results, go_sem]
    · exact hB.trans (belowK_b (w := w) (Nat.le_refl _) W D _ _ (by omega) hK rfl rfl)

end Go.Proofs.Ytfmlgckfcclojaa
namespace Go.Proofs.Ytfmlgckfcclojaa
open Go.RowKit Go.Lib Go.Op Go.Shelf

attribute [local go_sem] Oper.semAt_some

/-- What an event says, wherever its values lie. -/
def EIn.core (x : EIn) : Int × Int × Int × ByteArray × List VIn := (x.ts, x.dep, x.seq, x.nm, x.vs)
def flat : List EIn → List Value
  | [] => []
  | x :: l => x.cells ++ flat l
theorem flat_append : ∀ (l m : List EIn), flat (l ++ m) = flat l ++ flat m
  | [], _ => rfl
  | x :: l, m => by rw [List.cons_append, flat, flat, flat_append l m, List.append_assoc]
theorem flat_len : ∀ (l : List EIn), (flat l).length = l.length * 5
  | [] => rfl
  | x :: l => by rw [flat, List.length_append, flat_len l, List.length_cons]; simp [EIn.cells, evC]; omega
theorem flat_one : ∀ (l : List EIn), ∀ u ∈ flat l, u.oneCell' = true
  | [], u, h => by cases h
  | x :: l, u, h => by
    rw [flat, List.mem_append] at h
    rcases h with h | h
    · simp only [EIn.cells, evC, List.mem_cons, List.not_mem_nil, or_false] at h
      rcases h with rfl | rfl | rfl | rfl | rfl <;> rfl
    · exact flat_one l u h

/-- Events in a row of one's own, each of whose values lie in a row behind. -/
structure EOwn (w : World) (B : Nat) (v : Value) (es : List EIn) : Prop where
  own : w.ownsRow B 25 5 v es.length (flat es)
  vals : ∀ x ∈ es, VRow w x.a x.vs ∧ ∀ A, x.a = some A → B ≤ A.block ∧ A.block < w.heap.size ∧ v.ownBlock ≠ some A.block

theorem EOwn.nil (w : World) (B : Nat) : EOwn w B (.slice none 0 0) [] := ⟨World.ownsRow_nil _ _ _ _, fun x hx => by cases hx⟩
theorem EOwn.below {w w' : World} {B : Nat} {v : Value} {es : List EIn} (h : EOwn w B v es) (hb : Below w.heap.size w w') : EOwn w' B v es :=
  ⟨eowns_of_block h.own (fun g hg => hb.block g (h.own.lt g hg).2), fun x hx => ⟨(h.vals x hx).1.below hb, fun A hA => by obtain ⟨h1, h2, h3⟩ := (h.vals x hx).2 A hA; exact ⟨h1, Nat.lt_of_lt_of_le h2 hb.size, h3⟩⟩⟩

/-- An event appended to such a row, run. -/
theorem EOwn.append {w : World} {B : Nat} {v : Value} {es : List EIn} (h : EOwn w B v es) (hB : B ≤ w.heap.size) (hl : es.length ≤ 1000) (x : EIn) (hx : VRow w x.a x.vs) (hA : ∀ A, x.a = some A → B ≤ A.block ∧ A.block < w.heap.size ∧ v.ownBlock ≠ some A.block) (vb : Nat) (hvb : w.heap[vb]? = some (.cells x.cells.toArray 25 (0, 0))) (ty : TypeId) :
    ∃ v' w', (Builtin.append_ #[66, 66] ty #[v, .slice (some ⟨vb, 0, none⟩) 1 1]).run Try.prog w = .ok v' w' ∧ EOwn w' B v' (es ++ [x]) ∧ w.grownBy w' v.ownBlock := by
  obtain ⟨i0, hi, hz0, hz1, hz2⟩ := info_parts infoE
  obtain ⟨v', w', hr, h2, h3, _, h5⟩ := run_append_own_at (P := Try.prog) w B 66 ty 25 i0 _ 5 64 Try.underlying66 hi hz0 hz1 hz2 rfl (by decide) v es.length (flat es) h.own ⟨vb, 0, none⟩ 1 1 x.cells (by simp [EIn.cells, evC]) (by have := one_src hvb; simpa using this) (fun u hu => flat_one [x] u (by simpa [flat] using hu)) (by unfold maxLen; omega) (by omega) hB
  have hb : ∀ A : Addr, A.block < w.heap.size → v.ownBlock ≠ some A.block → w'.heap[A.block]? = w.heap[A.block]? := fun A h7 h8 => h3.block _ h7 (fun e => h8 e.symm)
  have key : ∀ y : EIn, VRow w y.a y.vs → (∀ A, y.a = some A → B ≤ A.block ∧ A.block < w.heap.size ∧ v.ownBlock ≠ some A.block) → VRow w' y.a y.vs ∧ ∀ A, y.a = some A → B ≤ A.block ∧ A.block < w'.heap.size ∧ v'.ownBlock ≠ some A.block := by
    intro y h6 h7
    refine ⟨fun j z hj => ?_, fun A hA => ?_⟩
    · obtain ⟨A, e, c0, c1, c2, c3⟩ := h6 j z hj
      obtain ⟨_, h8, h9⟩ := h7 A e
      have hk : ∀ {p : Addr} {u : Value}, p.block = A.block → w.cell? p = some u → w'.cell? p = some u := fun {p u} hp hc => (World.cell?_of_block (by rw [hp]; exact hb A h8 h9)).trans hc
      exact ⟨A, e, hk (oadd_block _ _) c0, hk (oadd_block A _) c1, hk (oadd_block A _) c2, c3⟩
    · obtain ⟨h0, h8, h9⟩ := h7 A hA
      refine ⟨h0, Nat.lt_of_lt_of_le h8 h3.size, ?_⟩
      rcases h5 with h5 | h5
      · rw [h5]; exact h9
      · rw [h5]
        intro e
        injection e with e
        omega
  refine ⟨v', w', hr, ⟨?_, fun y hy => ?_⟩, h3⟩
  · rw [flat_append, List.length_append]
    simpa [flat] using h2
  · rcases List.mem_append.1 hy with hy | hy
    · exact key y (h.vals y hy).1 (h.vals y hy).2
    · simp at hy
      subst hy
      exact key y hx hA

end Go.Proofs.Ytfmlgckfcclojaa
namespace Go.Proofs.Ytfmlgckfcclojaa
open Go.RowKit Go.Lib Go.Op Go.Shelf

attribute [local go_sem] Oper.semAt_some
attribute [-go_sem] Go.Builtin.append_

/-- What is held while they are told. -/
def TI (w : World) (ys : List EIn) (W : World) : Prop := ∃ v es, (∃ cs, W.heap[w.heap.size]? = some (.cells cs 66 (0, 0))) ∧ W.cell? ⟨w.heap.size, 0, none⟩ = some v ∧ W.frozen? ⟨w.heap.size, 0, none⟩ = false ∧ EOwn W (w.heap.size + 1) v es ∧ es.map EIn.core = ys.map EIn.core ∧ Below w.heap.size w W

theorem EOwn.kept {W W' : World} {B : Nat} {v : Value} {es : List EIn} {row : Option Nat} (h : EOwn W B v es) (hg : W.grownBy W' row) (hr : ∀ r, row = some r → ∃ o : Obj, W.heap[r]? = some o ∧ o.isCells = false) : EOwn W' B v es := by
  refine ⟨eowns_of_block h.own (fun g hgv => hg.block g (h.own.lt g hgv).2 (fun e => ?_)), fun x hx => ⟨fun j z hj => ?_, fun A hA => ?_⟩⟩
  · obtain ⟨o, ho, hc⟩ := hr g e.symm
    rcases h.own.2 with ⟨h1, _⟩ | ⟨g', cap, cur, h1, _, h2, _⟩
    · rw [h1] at hgv; cases hgv
    · rw [h1] at hgv
      injection hgv with hgv
      subst hgv
      rw [show W.heap[g']? = _ from h2] at ho
      injection ho with ho
      subst ho
      cases hc
  · obtain ⟨A, e, c0, c1, c2, c3⟩ := (h.vals x hx).1 j z hj
    exact ⟨A, e, cell_kept c0 hg hr, cell_kept c1 hg hr, cell_kept c2 hg hr, c3⟩
  · obtain ⟨h1, h2, h3⟩ := (h.vals x hx).2 A hA
    exact ⟨h1, Nat.lt_of_lt_of_le h2 hg.size, h3⟩

theorem TI.kept {w W W' : World} {ys : List EIn} {row : Option Nat} (h : TI w ys W) (hg : W.grownBy W' row) (hr : ∀ r, row = some r → w.heap.size ≤ r ∧ ∃ o : Obj, W.heap[r]? = some o ∧ o.isCells = false) : TI w ys W' := by
  obtain ⟨v, es, ⟨cs, hc⟩, h1, h2, h3, h4, h5⟩ := h
  have hc' : ∃ cs, W'.heap[w.heap.size]? = some (.cells cs 66 (0, 0)) := ⟨cs, (hg.block _ (Array.getElem?_eq_some_iff.1 hc).1 (fun e => by
    obtain ⟨_, o, ho, hn⟩ := hr _ e.symm
    rw [hc] at ho
    injection ho with ho
    subst ho
    cases hn)).trans hc⟩
  exact ⟨v, es, hc', cell_kept h1 hg (fun r e => (hr r e).2), (frozen_kept h1 hg (fun r e => (hr r e).2)).trans h2, h3.kept hg (fun r e => (hr r e).2), h4, h5.trans ((Below.refl w.heap.size W).grown hg h5.size (fun r e => (hr r e).1))⟩

/-- As first_stopsc, of each that is told it is known that it waits. -/
theorem first_stopsv {w : World} (n : Nat) (hn : 1 ≤ n) (T : Nat → Obj → Prop) {x0 x1 bb : Nat} {a : Option Addr} {c : Nat} {L : List EIn} {fI : FuncId} {cv : Value} (q : EIn → Bool)
    (y0 : w.cell? ⟨x0, 0, none⟩ = some (.pointer (some ⟨bb, 0, none⟩))) (y1 : w.cell? ⟨x1, 0, none⟩ = some (.func (.func fI) #[] #[cv])) (yw : w.cell? ⟨bb, 1, none⟩ = some (.slice a L.length c)) (hr : ECells w a L) (hL : L.length ≤ 1000)
    (hT1 : ∀ o, w.heap[x1]? = some o → ¬ T x1 o) (hTr : ∀ A o, a = some A → ¬ T A.block o)
    (hen : Enters Try.prog fI) (HI : ∀ W W', Below w.heap.size w W → OKp T W W' → ∀ x ∈ L, Calls Try.prog fI #[x.v, cv] W' fun e w' => e = .returned (.bool (q x)) ∧ Below W'.heap.size W' w') :
    SeqStopsK Fence.wide n Try.prog 99 #[.pointer (some ⟨x0, 0, none⟩), .pointer (some ⟨x1, 0, none⟩)] (fun x : { x : EIn // x ∈ L } => #[x.1.v]) (OKp T) (fun ys => ys.map (·.1) = L.takeWhile q) (fun pre => pre.map (·.1) <+: L.takeWhile q) (L.takeWhile q).length w := fun l J Jx W hW hJ _ hY h0 =>
  have hr' : ECells W a L := ECells.kept (T := fun _ _ => False) (OKp.of_below hW) hr (fun _ _ _ _ h => h)
  (first1_inc n hn l T q ((hW.cell (World.block_lt_of_cell? _ _ y0)).trans y0) ((hW.cell (World.block_lt_of_cell? _ _ y1)).trans y1) ((hW.cell (World.block_lt_of_cell? _ _ yw)).trans yw) hr' hL
    (fun o ho => hT1 o ((hW.block x1 (World.block_lt_of_cell? _ _ y1)).symm.trans ho)) (fun A o hA _ => hTr A o hA) hen (fun W' hk => HI W W' hW hk)
    (fun ys V => ∃ zs : List { x : EIn // x ∈ L }, zs.map (·.1) = ys ∧ J zs V) (fun ys V => ∃ zs : List { x : EIn // x ∈ L }, zs.map (·.1) = ys ∧ Jx zs V)
    (fun s A B row hs hg hr => by obtain ⟨zs, h1, h2⟩ := hs; exact ⟨zs, h1, hJ zs A B row h2 hg hr⟩)
    (fun pre x W1 h1 h2 hx => by
      obtain ⟨zs, h3, h4⟩ := h1
      obtain ⟨fn, tmps, assign, body, hy, hR⟩ := hY zs ⟨x, hx⟩ W1 h4 (by rw [← List.length_map (f := (·.1)), h3]; exact h2)
      refine ⟨fn, tmps, assign, body, hy, hR.mono ?_⟩
      rintro e V (⟨h5, h6, h7⟩ | ⟨h5, h6⟩)
      · exact .inl ⟨h5, ⟨zs ++ [⟨x, hx⟩], by simp [h3], h6⟩, h7⟩
      · exact .inr ⟨h5, ⟨zs ++ [⟨x, hx⟩], by simp [h3], h6⟩⟩)
    ⟨[], rfl, h0⟩).mono (by
      rintro e V ⟨h1, ⟨ys, rfl, zs, h2, h3⟩ | ⟨pre, h4, zs, h2, h3⟩⟩
      · exact ⟨h1, .inl ⟨zs, h2, h3⟩⟩
      · exact ⟨h1, .inr ⟨zs, by show zs.map (·.1) <+: _; rw [h2]; exact h4, h3⟩⟩)

/-- The loop's own variable. -/
def TA (w : World) (fr : Value → Array Value) (x : EIn) (a' : Act) (W : World) : Prop := ∃ p, a' = { tmps := fr (.pointer (some ⟨p, 0, none⟩)), defers := [] } ∧ w.heap.size + 1 ≤ p ∧ ∀ i u, x.cells[i]? = some u → W.cell? ⟨p, i, none⟩ = some u

theorem TA.kept {w W W' : World} {fr : Value → Array Value} {x : EIn} {a' : Act} {row : Option Nat} (h : TA w fr x a' W) (hg : W.grownBy W' row) (hr : ∀ r, row = some r → ∃ o : Obj, W.heap[r]? = some o ∧ o.isCells = false) : TA w fr x a' W' := by
  obtain ⟨p, h1, h2, h3⟩ := h
  exact ⟨p, h1, h2, fun i u hu => cell_kept (h3 i u hu) hg hr⟩

/-- What a round of them leaves. -/
def TStep (w : World) (B : Nat) (W : World) (ys : List EIn) (W' : World) : Prop := KeepsFrom B W W' ∧ OKp (fun b o => w.heap.size ≤ b ∧ ∃ cs fr, o = .cells cs 66 fr ∨ o = .cells cs 25 fr) W W' ∧ TI w ys W'

theorem told_step {w W w2 w3 : World} {B : Nat} {ys : List EIn} {v v' : Value} {es : List EIn} {x x' : EIn} {o : Obj} (lc : ∃ cs, W.heap[w.heap.size]? = some (.cells cs 66 (0, 0))) (h1 : W.cell? ⟨w.heap.size, 0, none⟩ = some v) (h2 : W.frozen? ⟨w.heap.size, 0, none⟩ = false) (h3 : EOwn W (w.heap.size + 1) v es) (h4 : es.map EIn.core = ys.map EIn.core) (h5 : Below w.heap.size w W)
    (hb : Below W.heap.size W w2) (hE : EOwn w3 (w.heap.size + 1) v' (es ++ [x'])) (hg : (w2.alloc o).grownBy w3 v.ownBlock) (hx : x'.core = x.core) : TStep w B W (ys ++ [x]) (w3.setCell ⟨w.heap.size, 0, none⟩ v') := by
  have hb2 : Below W.heap.size W (w2.alloc o) := hb.alloc hb.size o
  have hl : w.heap.size < W.heap.size := World.block_lt_of_cell? _ _ h1
  have hblk : ∀ k, k < W.heap.size → v.ownBlock ≠ some k → w3.heap[k]? = W.heap[k]? := fun k hk hn => (hg.block k (Nat.lt_of_lt_of_le hk hb2.size) (fun e => hn e.symm)).trans (hb2.block k hk)
  have hsz : W.heap.size ≤ w3.heap.size := Nat.le_trans hb2.size hg.size
  have hno : v.ownBlock ≠ some w.heap.size := fun e => by have := (h3.own.lt _ e).1; omega
  have hkind : ∀ g, v.ownBlock = some g → ∃ cs fr, W.heap[g]? = some (.cells cs 25 fr) := fun g hgv => by
    rcases h3.own.2 with ⟨e1, _⟩ | ⟨g', cap, cur, e1, _, e2, _⟩
    · rw [e1] at hgv; cases hgv
    · rw [e1] at hgv
      injection hgv with hgv
      subst hgv
      exact ⟨_, _, e2⟩
  have hl3 : w3.heap[w.heap.size]? = W.heap[w.heap.size]? := hblk _ hl hno
  have hc3 : w3.cell? ⟨w.heap.size, 0, none⟩ = some v := (World.cell?_of_block hl3).trans h1
  have hB3 : Below w.heap.size w w3 := h5.trans ((hb2.mono h5.size).trans ((Below.refl _ _).grown hg (by have := hb2.size; omega) (fun g e => by have := (h3.own.lt g e).1; omega)))
  have hset : ∀ k, k ≠ w.heap.size → (w3.setCell ⟨w.heap.size, 0, none⟩ v').heap[k]? = w3.heap[k]? := fun k hk => heap_setCell_other _ _ _ _ hk
  refine ⟨⟨by simpa using hsz, fun k o' _ ho hc => ?_⟩, ⟨by simpa using hsz, fun b o' ho hc hT => ?_⟩, v', es ++ [x'], ⟨_, heap_setCell_same _ _ _ _ _ _ (hl3.trans lc.choose_spec)⟩, World.cell?_setCell_same _ _ _ hc3, by simp [(World.frozen?_of_block hl3).trans h2], ?_, ?_, hB3.setCell (Nat.le_refl _) _⟩
  · have hk := (Array.getElem?_eq_some_iff.1 ho).1
    have hne : k ≠ w.heap.size := fun e => by
      obtain ⟨cs, hcs⟩ := lc
      subst e
      rw [hcs] at ho
      injection ho with ho
      subst ho
      cases hc
    rw [hset k hne, hblk k hk (fun e => ?_)]
    · exact ho
    · obtain ⟨cs, fr, hcs⟩ := hkind k e
      rw [hcs] at ho
      injection ho with ho
      subst ho
      cases hc
  · have hk := (Array.getElem?_eq_some_iff.1 ho).1
    have hne : b ≠ w.heap.size := fun e => by
      obtain ⟨cs, hcs⟩ := lc
      subst e
      rw [hcs] at ho
      injection ho with ho
      exact hT ⟨Nat.le_refl _, cs, _, .inl ho.symm⟩
    rw [hset b hne, hblk b hk (fun e => ?_)]
    · exact ho
    · obtain ⟨cs, fr, hcs⟩ := hkind b e
      rw [hcs] at ho
      injection ho with ho
      exact hT ⟨by have := (h3.own.lt b e).1; omega, cs, fr, .inr ho.symm⟩
  · exact ⟨eowns_set hE.own v' (by omega), fun y hy => ⟨fun j z hj => by
      obtain ⟨A, e, c0, c1, c2, c3⟩ := (hE.vals y hy).1 j z hj
      have hA := ((hE.vals y hy).2 A e).1
      have hk : ∀ {p : Addr} {u : Value}, p.block = A.block → w3.cell? p = some u → (w3.setCell ⟨w.heap.size, 0, none⟩ v').cell? p = some u := fun {p u} hp hc => (World.cell?_of_block (hset _ (by rw [hp]; omega))).trans hc
      exact ⟨A, e, hk (oadd_block _ _) c0, hk (oadd_block A _) c1, hk (oadd_block A _) c2, c3⟩, fun A hA => by
      obtain ⟨e1, e2, e3⟩ := (hE.vals y hy).2 A hA
      exact ⟨e1, by simpa using e2, e3⟩⟩⟩
  · simp [h4, hx]

set_option maxRecDepth 100000 in
set_option maxHeartbeats 4000000 in
theorem told_callsc {w : World} {bb : Nat} {a : Option Addr} {c : Nat} {L : List EIn} {fI : FuncId} {cv : Value} (q : EIn → Bool) (yw : w.cell? ⟨bb, 1, none⟩ = some (.slice a L.length c)) (hr : ECells w a L) (hL : L.length ≤ 900) (hA : ∀ A, a = some A → A.block < w.heap.size)
    (hv : ∀ x ∈ L, VRow w x.a x.vs ∧ x.nm.size ≤ 281474976710656 ∧ x.vs.length ≤ 900 ∧ ∀ z ∈ x.vs, z.2.2.size ≤ 281474976710656)
    (hen : Enters Try.prog fI) (HI : ∀ W', OKp (fun b _ => w.heap.size ≤ b) w W' → ∀ x ∈ L, Calls Try.prog fI #[x.v, cv] W' fun e w' => e = .returned (.bool (q x)) ∧ Below W'.heap.size W' w') :
    Calls Try.prog 68 #[.pointer (some ⟨bb, 0, none⟩), .func (.func fI) #[] #[cv]] w fun e w' => ∃ v es, e = .returned v ∧ EOwn w' (w.heap.size + 1) v es ∧ es.map EIn.core = (L.takeWhile q).map EIn.core ∧ Below w.heap.size w w' := by
  have HYW := Lib.hid yw
  have HR := Lib.hid hr
  have HA := Lib.hid hA
  have HV := Lib.hid hv
  have HIs := Lib.hid HI
  clear yw hr hA hv HI
  refine (callsIn_wide (n := 3)).1 ?_
  refine callsIn_of_wp_marks Try.func68 rfl trivial ?_ rfl
  simp only [Try.ntmps68, List.size_toArray, List.length_cons, List.length_nil, Nat.reduceAdd, Nat.reduceSub, Array.replicate_succ, Array.replicate_zero, List.push_toArray, List.append_toArray, List.nil_append, List.cons_append]
  gi_wp2
  refine ⟨trivial, (callsIn_wide.2 (ofirst_calls _ _ _ _)).mono ?_⟩
  rintro e w1 ⟨rfl, rfl⟩
  gi_wp2
  simp only [Nat.add_assoc, Nat.reduceAdd]
  obtain ⟨W0, hW0⟩ : ∃ W0, W0 = ((w.alloc (.cells #[.slice none 0 0] 66)).alloc (.cells #[.pointer (some ⟨bb, 0, none⟩)] 59)).alloc (.cells #[.func (.func fI) #[] #[cv]] 28) := ⟨_, rfl⟩
  rw [← hW0]
  have hb0 : Below w.heap.size w W0 := by rw [hW0]; exact (((Below.refl _ w).alloc (Nat.le_refl _) _).alloc (by simp) _).alloc (by simp only [World.size_alloc]; omega) _
  have hsz : W0.heap.size = w.heap.size + 3 := by rw [hW0]; simp
  have k0 : W0.cell? ⟨w.heap.size, 0, none⟩ = some (.slice none 0 0) := by rw [hW0]; exact ekeepAl _ (ekeepAl _ (new_cell _ _ _ rfl rfl))
  have f0 : W0.frozen? ⟨w.heap.size, 0, none⟩ = false := by rw [hW0]; exact keep_frozen _ _ (by simp only [World.size_alloc]; omega) (keep_frozen _ _ (by simp) (new_frozen _ _ _ rfl))
  have k1 : W0.cell? ⟨w.heap.size + 1, 0, none⟩ = some (.pointer (some ⟨bb, 0, none⟩)) := by rw [hW0]; exact ekeepAl _ (new_cell _ _ _ (by simp) rfl)
  have k2 : W0.cell? ⟨w.heap.size + 2, 0, none⟩ = some (.func (.func fI) #[] #[cv]) := by rw [hW0]; exact new_cell _ _ _ (by simp) rfl
  have g0 : W0.heap[w.heap.size]? = some (.cells #[.slice none 0 0] 66) := by rw [hW0, heap_alloc_old _ _ (by simp only [World.size_alloc]; omega), heap_alloc_old _ _ (by simp)]; exact heap_alloc_new _ _
  have g2 : W0.heap[w.heap.size + 2]? = some (.cells #[.func (.func fI) #[] #[cv]] 28) := by rw [hW0]; have := heap_alloc_new ((w.alloc (.cells #[.slice none 0 0] 66)).alloc (.cells #[.pointer (some ⟨bb, 0, none⟩)] 59)) (.cells #[.func (.func fI) #[] #[cv]] 28); simpa using this
  clear hW0
  refine wpIn_rangeFunc_ownH rfl (by omega) (gf := 99) (lb := #[.pointer (some ⟨w.heap.size + 1, 0, none⟩), .pointer (some ⟨w.heap.size + 2, 0, none⟩)]) rfl trivial (enters_of Try.func99 (by kernel_rfl) rfl)
    (first_stopsv (3 - 1) (by omega) (fun b o => w.heap.size ≤ b ∧ ∃ cs fr, o = .cells cs 66 fr ∨ o = .cells cs 25 fr) q k1 k2 (ekeep hb0 HYW.out) (ECells.kept (T := fun _ _ => False) (OKp.of_below hb0) HR.out (fun _ _ _ _ h => h)) (by omega) ?hT1 (fun A _ hA e => by have := HA.out A hA; omega) hen ?hI)
    OKp.trans ?hKb (Below.refl _ _) (fun _ => rfl)
    (fun (zs : List { x : EIn // x ∈ L }) W => TI w (zs.map (·.1)) W)
    (fun _ _ _ => False)
    (fun s A B row hs hg hr => TI.kept (show TI w (s.map (·.1)) A from hs) hg (fun r e => ⟨by have := (hr r e).1; omega, (hr r e).2⟩))
    (fun _ _ _ _ _ hs _ _ => hs)
    ⟨_, [], ⟨_, g0⟩, k0, f0, EOwn.nil _ _, rfl, hb0⟩
    (fun x : { x : EIn // x ∈ L } => TA w (fun p => #[.pointer (some ⟨bb, 0, none⟩), .func (.func fI) #[] #[cv], undef, undef, .slice none 0 0, .pointer (some ⟨w.heap.size, 0, none⟩), p, .pointer (some ⟨bb, 0, none⟩), .func (.func fI) #[] #[cv], .func (.func 99) #[] #[.pointer (some ⟨w.heap.size + 1, 0, none⟩), .pointer (some ⟨w.heap.size + 2, 0, none⟩)], x.1.v, undef, undef, undef, undef, undef, undef]) x.1)
    (fun x a' _ A B row hs hg hr => TA.kept hs hg (fun r e => (hr r e).2))
    ?assign ?body ?done ?stop
  case hT1 =>
    intro o ho
    rw [g2] at ho
    injection ho with ho
    subst ho
    rintro ⟨_, cs, fr, h | h⟩ <;> (injection h with _ h; cases h)
  case hI =>
    intro W W' hW hk x hx
    refine HIs.out W' ⟨Nat.le_trans hb0.size (Nat.le_trans hW.size hk.1), fun b o hb hc hT => ?_⟩ x hx
    have hlt := (Array.getElem?_eq_some_iff.1 hb).1
    refine hk.2 b o ?_ hc (fun h => hT h.1)
    exact (hW.block b (by omega)).trans ((hb0.block b hlt).trans hb)
  case hKb =>
    intro W l o o' hl ho hc _
    refine ⟨by simp, fun b o2 hb hoc hT => ?_⟩
    rw [World.putObj_heap_other (fun e => by subst e; rw [ho] at hb; injection hb with hb; subst hb; rw [hc] at hoc; cases hoc)]
    exact hb
  case assign =>
    rintro l pre ⟨x, hxL⟩ W K hI hK
    simp [Array.zip, EIn.v, evV]
    gi_wp2
    have hb : Below W.heap.size W (W.alloc (.cells #[.int .i64 x.ts, .int .i64 x.dep, .int .i64 x.seq, .string x.nm, .slice x.a x.vs.length x.c] 25)) := (Below.refl _ _).alloc (Nat.le_refl _) _
    refine hK _ _ (KeepsFrom.of_grownBy (ogrown_of_below hb) (fun j e => by cases e)) (OKp.of_below hb) (TI.kept hI (ogrown_of_below hb) (fun r e => by cases e)) ⟨W.heap.size, ?_, ?_, fun i u hu => new_cell _ _ _ rfl (by rw [← hu]; simp [EIn.cells, evC])⟩
    · rfl
    · obtain ⟨_, _, _, h1, _⟩ := hI
      exact World.block_lt_of_cell? _ _ h1
  case stop =>
    rintro D c pre W _ _ h _
    exact h.elim
  case body =>
    rintro l pre ⟨x, hxL⟩ a' W hl hrl ⟨v, es, hlc, h1, h2, h3, h4, h5⟩ ⟨p, rfl, h6, h7⟩ hlt
    have c0 := h7 0 _ rfl
    have c1 := h7 1 _ rfl
    have c2 := h7 2 _ rfl
    have c3 := h7 3 _ rfl
    have c4 := h7 4 _ rfl
    have hxv := HV.out x hxL
    have hlen : es.length ≤ 1000 := by
      have e1 := congrArg List.length h4
      simp only [List.length_map] at e1
      have := (List.takeWhile_prefix (p := q) (l := L)).length_le
      omega
    have HAp : Hid (∀ V, Below W.heap.size W V → Calls Try.prog 74 #[.agg #[.int .i64 x.ts, .int .i64 x.dep, .int .i64 x.seq, .string x.nm, .slice x.a x.vs.length x.c]] V (ApartPost x.ts x.dep x.seq x.nm x.vs V)) := fun V hV => apart_calls x.ts x.dep x.seq x.nm x.a x.c x.vs V hxv.2.1 ((hxv.1.below h5).below hV) hxv.2.2.1 hxv.2.2.2
    have HL := Lib.hid hlen
    have HAPP : Hid (∀ (w2 : World) (a8 : Option Addr) (c8 : Nat), Below W.heap.size W w2 → VRow w2 a8 x.vs → (∀ A, a8 = some A → W.heap.size ≤ A.block ∧ A.block < w2.heap.size) →
        ∃ a9 l9 c9 w9, (Builtin.append_ #[66, 66] 66 #[v, .slice (some ⟨w2.heap.size, 0, none⟩) 1 1]).run Try.prog (w2.alloc (.cells #[.int .i64 x.ts, .int .i64 x.dep, .int .i64 x.seq, .string x.nm, .slice a8 x.vs.length c8] 25)) = .ok (.slice a9 l9 c9) w9 ∧ w9.cell? ⟨w.heap.size, 0, none⟩ = some v ∧ w9.frozen? ⟨w.heap.size, 0, none⟩ = false ∧ Hid (TStep w W0.heap.size W (pre.map (·.1) ++ [x]) (w9.setCell ⟨w.heap.size, 0, none⟩ (.slice a9 l9 c9)))) := by
      intro w2 a8 c8 hb8 hv8 hA8
      have hlW : w.heap.size < W.heap.size := World.block_lt_of_cell? _ _ h1
      have hsz2 := hb8.size
      have hbal := hb8.alloc hb8.size (.cells #[.int .i64 x.ts, .int .i64 x.dep, .int .i64 x.seq, .string x.nm, .slice a8 x.vs.length c8] 25)
      obtain ⟨v9, w9, hr9, hE9, hg9⟩ := (h3.below hbal).append (by simp; omega) hlen ⟨x.ts, x.dep, x.seq, x.nm, a8, c8, x.vs⟩ (hv8.below ((Below.refl _ _).alloc (Nat.le_refl _) _)) (fun A hA => by
        have e1 := hA8 A hA
        exact ⟨by omega, by simp; omega, fun e => by have := (h3.own.lt _ e).2; omega⟩) w2.heap.size (heap_alloc_new w2 _) 66
      have e9 : w9.heap[w.heap.size]? = W.heap[w.heap.size]? := (hg9.block _ (by simp; omega) (fun e => by have := (h3.own.lt _ e.symm).1; omega)).trans (hbal.block _ hlW)
      obtain ⟨a9, c9, rfl⟩ := vowns_slice hE9.own
      exact ⟨a9, _, c9, w9, hr9, (World.cell?_of_block e9).trans h1, (World.frozen?_of_block e9).trans h2, told_step hlc h1 h2 h3 h4 h5 hb8 hE9 hg9 rfl⟩
    clear h3 h5 hlen hxv h4 hlc h7 hb0 g0 g2 k0 k1 k2 f0
    gi_wp2
    gi_region_with (
      refine ⟨trivial, (CallsIn.inRound l (callsIn_wide.2 (HAp.out _ (vbelow_drew (Below.refl _ _))))).mono ?_⟩
      rintro e w2 ⟨a8, c8, rfl, hv8, hA8, hb8⟩
      have HB8 : Hid (Below W.heap.size W w2) := ⟨hb8.os, hb8.tape, hb8.output, hb8.size, hb8.block⟩
      have d1 := ekeep HB8.out h1
      have d2 := ekeepAl (.cells #[.int .i64 x.ts, .int .i64 x.dep, .int .i64 x.seq, .string x.nm, .slice a8 x.vs.length c8] 25) d1
      have k0 := ekeep HB8.out c0
      have k1 := ekeep HB8.out c1
      have k2 := ekeep HB8.out c2
      have k3 := ekeep HB8.out c3
      have k4 := ekeep HB8.out c4
      obtain ⟨a9, l9, c9, w9, hr9, d9, f9, HF⟩ := HAPP.out w2 a8 c8 HB8.out hv8 hA8
      clear hv8 hA8 hb8)
    all_goals
      (gi_wp2
       obtain ⟨hf1, hf2, hf3⟩ := HF.out
       refine ⟨hf1, hf2, ?_⟩
       show TI w ((pre ++ [(⟨x, hxL⟩ : { x : EIn // x ∈ L })]).map (fun z => z.1)) _
       rw [List.map_append]
       exact hf3)
  case done =>
    rintro D ys W hD hys ⟨v, es, hlc, h1, h2, h3, h4, h5⟩ hK
    gi_wp2
    refine ⟨by simp, .inl ⟨_, _, rfl, run_takeDeferred hK, ?_⟩⟩
    refine ⟨v, ?_, v, es, rfl, ?_, by rw [h4, hys], ?_⟩
    · simp [results, Try.func68, go_sem]
    · exact h3.kept (row := some D) ⟨rfl, rfl, rfl, by simp, fun k _ hk => World.putObj_heap_other (fun e => hk (by rw [e]))⟩ (fun r e => by injection e with e; subst e; exact ⟨_, hK, rfl⟩)
    · exact h5.trans (belowK_b (w := w) (Nat.le_refl _) W D _ _ (by omega) hK rfl rfl)

end Go.Proofs.Ytfmlgckfcclojaa
