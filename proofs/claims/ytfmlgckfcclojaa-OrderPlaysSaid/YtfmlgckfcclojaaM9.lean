/- Order: those that are told, all of them. | Order in plain words: a list that rises, with one more; what goes. | Order: the buffer; Put. | Order: Put: what is put in. | Order: Put. -/
import Derived.Test.YtfmlgckfcclojaaM8
import Derived.Deep.RegionHeld3
namespace Go.Proofs.Ytfmlgckfcclojaa
open Go.RowKit Go.Lib Go.Op Go.Shelf

attribute [local go_sem] Oper.semAt_some
attribute [-go_sem] Go.Builtin.append_

theorem first_stopsw {w : World} (n : Nat) (hn : 1 ≤ n) (T : Nat → Obj → Prop) {x0 x1 bb : Nat} {a : Option Addr} {c : Nat} {L : List EIn} {fI : FuncId} (q : EIn → Bool)
    (y0 : w.cell? ⟨x0, 0, none⟩ = some (.pointer (some ⟨bb, 0, none⟩))) (y1 : w.cell? ⟨x1, 0, none⟩ = some (.func (.func fI) #[] #[])) (yw : w.cell? ⟨bb, 1, none⟩ = some (.slice a L.length c)) (hr : ECells w a L) (hL : L.length ≤ 1000)
    (hT1 : ∀ o, w.heap[x1]? = some o → ¬ T x1 o) (hTr : ∀ A o, a = some A → ¬ T A.block o)
    (hen : Enters Try.prog fI) (HI : ∀ W W', Below w.heap.size w W → OKp T W W' → ∀ x ∈ L, Calls Try.prog fI #[x.v] W' fun e w' => e = .returned (.bool (q x)) ∧ Below W'.heap.size W' w') :
    SeqStopsK Fence.wide n Try.prog 99 #[.pointer (some ⟨x0, 0, none⟩), .pointer (some ⟨x1, 0, none⟩)] (fun x : { x : EIn // x ∈ L } => #[x.1.v]) (OKp T) (fun ys => ys.map (·.1) = L.takeWhile q) (fun pre => pre.map (·.1) <+: L.takeWhile q) (L.takeWhile q).length w := fun l J Jx W hW hJ _ hY h0 =>
  have hr' : ECells W a L := ECells.kept (T := fun _ _ => False) (OKp.of_below hW) hr (fun _ _ _ _ h => h)
  (first1_inn n hn l T q ((hW.cell (World.block_lt_of_cell? _ _ y0)).trans y0) ((hW.cell (World.block_lt_of_cell? _ _ y1)).trans y1) ((hW.cell (World.block_lt_of_cell? _ _ yw)).trans yw) hr' hL
    (fun o ho => hT1 o ((hW.block x1 (World.block_lt_of_cell? _ _ y1)).symm.trans ho)) (fun A o hA _ => hTr A o hA) hen (fun W' hk => HI W W' hW hk)
    (fun ys V => ∃ zs : List { x : EIn // x ∈ L }, zs.map (·.1) = ys ∧ J zs V) (fun ys V => ∃ zs : List { x : EIn // x ∈ L }, zs.map (·.1) = ys ∧ Jx zs V)
    (fun s A B row hs hg hr => by obtain ⟨zs, h1, h2⟩ := hs; exact ⟨zs, h1, hJ zs A B row h2 hg hr⟩)
    (fun pre x W1 h1 h2 hx => by
      obtain ⟨zs, h3, h4⟩ := h1
      obtain ⟨fn, tmps, assign, body, hy, hR⟩ := hY zs ⟨x, hx⟩ W1 h4 (by rw [← List.length_map (f := (·.1)), h3]; exact h2)
      refine ⟨fn, tmps, assign, body, hy, hR.mono ?_⟩
      rintro e V (⟨h5, h6, h7⟩ | ⟨h5, h6⟩)
      · exact .inl ⟨h5, ⟨zs ++ [⟨x, hx⟩], by simp [h3], h6⟩, h7⟩
      · exact .inr ⟨h5, ⟨zs ++ [⟨x, hx⟩], by simp [h3], h6⟩⟩)
    ⟨[], rfl, h0⟩).mono (by
      rintro e V ⟨h1, ⟨ys, rfl, zs, h2, h3⟩ | ⟨pre, h4, zs, h2, h3⟩⟩
      · exact ⟨h1, .inl ⟨zs, h2, h3⟩⟩
      · exact ⟨h1, .inr ⟨zs, by show zs.map (·.1) <+: _; rw [h2]; exact h4, h3⟩⟩)

set_option maxRecDepth 100000 in
set_option maxHeartbeats 4000000 in
theorem told_callsn {w : World} {bb : Nat} {a : Option Addr} {c : Nat} {L : List EIn} {fI : FuncId} (q : EIn → Bool) (yw : w.cell? ⟨bb, 1, none⟩ = some (.slice a L.length c)) (hr : ECells w a L) (hL : L.length ≤ 900) (hA : ∀ A, a = some A → A.block < w.heap.size)
    (hv : ∀ x ∈ L, VRow w x.a x.vs ∧ x.nm.size ≤ 281474976710656 ∧ x.vs.length ≤ 900 ∧ ∀ z ∈ x.vs, z.2.2.size ≤ 281474976710656)
    (hen : Enters Try.prog fI) (HI : ∀ W', OKp (fun b _ => w.heap.size ≤ b) w W' → ∀ x ∈ L, Calls Try.prog fI #[x.v] W' fun e w' => e = .returned (.bool (q x)) ∧ Below W'.heap.size W' w') :
    Calls Try.prog 68 #[.pointer (some ⟨bb, 0, none⟩), .func (.func fI) #[] #[]] w fun e w' => ∃ v es, e = .returned v ∧ EOwn w' (w.heap.size + 1) v es ∧ es.map EIn.core = (L.takeWhile q).map EIn.core ∧ Below w.heap.size w w' := by
  have HYW := Lib.hid yw
  have HR := Lib.hid hr
  have HA := Lib.hid hA
  have HV := Lib.hid hv
  have HIs := Lib.hid HI
  clear yw hr hA hv HI
  refine (callsIn_wide (n := 3)).1 ?_
  refine callsIn_of_wp_marks Try.func68 rfl trivial ?_ rfl
  simp only [Try.ntmps68, List.size_toArray, List.length_cons, List.length_nil, Nat.reduceAdd, Nat.reduceSub, Array.replicate_succ, Array.replicate_zero, List.push_toArray, List.append_toArray, List.nil_append, List.cons_append]
  gi_wp2
  refine ⟨trivial, (callsIn_wide.2 (ofirst_calls _ _ _ _)).mono ?_⟩
  rintro e w1 ⟨rfl, rfl⟩
  gi_wp2
  simp only [Nat.add_assoc, Nat.reduceAdd]
  obtain ⟨W0, hW0⟩ : ∃ W0, W0 = ((w.alloc (.cells #[.slice none 0 0] 66)).alloc (.cells #[.pointer (some ⟨bb, 0, none⟩)] 59)).alloc (.cells #[.func (.func fI) #[] #[]] 28) := ⟨_, rfl⟩
  rw [← hW0]
  have hb0 : Below w.heap.size w W0 := by rw [hW0]; exact (((Below.refl _ w).alloc (Nat.le_refl _) _).alloc (by simp) _).alloc (by simp only [World.size_alloc]; omega) _
  have hsz : W0.heap.size = w.heap.size + 3 := by rw [hW0]; simp
  have k0 : W0.cell? ⟨w.heap.size, 0, none⟩ = some (.slice none 0 0) := by rw [hW0]; exact ekeepAl _ (ekeepAl _ (new_cell _ _ _ rfl rfl))
  have f0 : W0.frozen? ⟨w.heap.size, 0, none⟩ = false := by rw [hW0]; exact keep_frozen _ _ (by simp only [World.size_alloc]; omega) (keep_frozen _ _ (by simp) (new_frozen _ _ _ rfl))
  have k1 : W0.cell? ⟨w.heap.size + 1, 0, none⟩ = some (.pointer (some ⟨bb, 0, none⟩)) := by rw [hW0]; exact ekeepAl _ (new_cell _ _ _ (by simp) rfl)
  have k2 : W0.cell? ⟨w.heap.size + 2, 0, none⟩ = some (.func (.func fI) #[] #[]) := by rw [hW0]; exact new_cell _ _ _ (by simp) rfl
  have g0 : W0.heap[w.heap.size]? = some (.cells #[.slice none 0 0] 66) := by rw [hW0, heap_alloc_old _ _ (by simp only [World.size_alloc]; omega), heap_alloc_old _ _ (by simp)]; exact heap_alloc_new _ _
  have g2 : W0.heap[w.heap.size + 2]? = some (.cells #[.func (.func fI) #[] #[]] 28) := by rw [hW0]; have := heap_alloc_new ((w.alloc (.cells #[.slice none 0 0] 66)).alloc (.cells #[.pointer (some ⟨bb, 0, none⟩)] 59)) (.cells #[.func (.func fI) #[] #[]] 28); simpa using this
  clear hW0
  refine wpIn_rangeFunc_ownH rfl (by omega) (gf := 99) (lb := #[.pointer (some ⟨w.heap.size + 1, 0, none⟩), .pointer (some ⟨w.heap.size + 2, 0, none⟩)]) rfl trivial (enters_of Try.func99 (by kernel_rfl) rfl)
    (first_stopsw (3 - 1) (by omega) (fun b o => w.heap.size ≤ b ∧ ∃ cs fr, o = .cells cs 66 fr ∨ o = .cells cs 25 fr) q k1 k2 (ekeep hb0 HYW.out) (ECells.kept (T := fun _ _ => False) (OKp.of_below hb0) HR.out (fun _ _ _ _ h => h)) (by omega) ?hT1 (fun A _ hA e => by have := HA.out A hA; omega) hen ?hI)
    OKp.trans ?hKb (Below.refl _ _) (fun _ => rfl)
    (fun (zs : List { x : EIn // x ∈ L }) W => TI w (zs.map (·.1)) W)
    (fun _ _ _ => False)
    (fun s A B row hs hg hr => TI.kept (show TI w (s.map (·.1)) A from hs) hg (fun r e => ⟨by have := (hr r e).1; omega, (hr r e).2⟩))
    (fun _ _ _ _ _ hs _ _ => hs)
    ⟨_, [], ⟨_, g0⟩, k0, f0, EOwn.nil _ _, rfl, hb0⟩
    (fun x : { x : EIn // x ∈ L } => TA w (fun p => #[.pointer (some ⟨bb, 0, none⟩), .func (.func fI) #[] #[], undef, undef, .slice none 0 0, .pointer (some ⟨w.heap.size, 0, none⟩), p, .pointer (some ⟨bb, 0, none⟩), .func (.func fI) #[] #[], .func (.func 99) #[] #[.pointer (some ⟨w.heap.size + 1, 0, none⟩), .pointer (some ⟨w.heap.size + 2, 0, none⟩)], x.1.v, undef, undef, undef, undef, undef, undef]) x.1)
    (fun x a' _ A B row hs hg hr => TA.kept hs hg (fun r e => (hr r e).2))
    ?assign ?body ?done ?stop
  case hT1 =>
    intro o ho
    rw [g2] at ho
    injection ho with ho
    subst ho
    rintro ⟨_, cs, fr, h | h⟩ <;> (injection h with _ h; cases h)
  case hI =>
    intro W W' hW hk x hx
    refine HIs.out W' ⟨Nat.le_trans hb0.size (Nat.le_trans hW.size hk.1), fun b o hb hc hT => ?_⟩ x hx
    have hlt := (Array.getElem?_eq_some_iff.1 hb).1
    refine hk.2 b o ?_ hc (fun h => hT h.1)
    exact (hW.block b (by omega)).trans ((hb0.block b hlt).trans hb)
  case hKb =>
    intro W l o o' hl ho hc _
    refine ⟨by simp, fun b o2 hb hoc hT => ?_⟩
    rw [World.putObj_heap_other (fun e => by subst e; rw [ho] at hb; injection hb with hb; subst hb; rw [hc] at hoc; cases hoc)]
    exact hb
  case assign =>
    rintro l pre ⟨x, hxL⟩ W K hI hK
    simp [Array.zip, EIn.v, evV]
    gi_wp2
    have hb : Below W.heap.size W (W.alloc (.cells #[.int .i64 x.ts, .int .i64 x.dep, .int .i64 x.seq, .string x.nm, .slice x.a x.vs.length x.c] 25)) := (Below.refl _ _).alloc (Nat.le_refl _) _
    refine hK _ _ (KeepsFrom.of_grownBy (ogrown_of_below hb) (fun j e => by cases e)) (OKp.of_below hb) (TI.kept hI (ogrown_of_below hb) (fun r e => by cases e)) ⟨W.heap.size, ?_, ?_, fun i u hu => new_cell _ _ _ rfl (by rw [← hu]; simp [EIn.cells, evC])⟩
    · rfl
    · obtain ⟨_, _, _, h1, _⟩ := hI
      exact World.block_lt_of_cell? _ _ h1
  case stop =>
    rintro D c pre W _ _ h _
    exact h.elim
  case body =>
    rintro l pre ⟨x, hxL⟩ a' W hl hrl ⟨v, es, hlc, h1, h2, h3, h4, h5⟩ ⟨p, rfl, h6, h7⟩ hlt
    have c0 := h7 0 _ rfl
    have c1 := h7 1 _ rfl
    have c2 := h7 2 _ rfl
    have c3 := h7 3 _ rfl
    have c4 := h7 4 _ rfl
    have hxv := HV.out x hxL
    have hlen : es.length ≤ 1000 := by
      have e1 := congrArg List.length h4
      simp only [List.length_map] at e1
      have := (List.takeWhile_prefix (p := q) (l := L)).length_le
      omega
    have HAp : Hid (∀ V, Below W.heap.size W V → Calls Try.prog 74 #[.agg #[.int .i64 x.ts, .int .i64 x.dep, .int .i64 x.seq, .string x.nm, .slice x.a x.vs.length x.c]] V (ApartPost x.ts x.dep x.seq x.nm x.vs V)) := fun V hV => apart_calls x.ts x.dep x.seq x.nm x.a x.c x.vs V hxv.2.1 ((hxv.1.below h5).below hV) hxv.2.2.1 hxv.2.2.2
    have HL := Lib.hid hlen
    have HAPP : Hid (∀ (w2 : World) (a8 : Option Addr) (c8 : Nat), Below W.heap.size W w2 → VRow w2 a8 x.vs → (∀ A, a8 = some A → W.heap.size ≤ A.block ∧ A.block < w2.heap.size) →
        ∃ a9 l9 c9 w9, (Builtin.append_ #[66, 66] 66 #[v, .slice (some ⟨w2.heap.size, 0, none⟩) 1 1]).run Try.prog (w2.alloc (.cells #[.int .i64 x.ts, .int .i64 x.dep, .int .i64 x.seq, .string x.nm, .slice a8 x.vs.length c8] 25)) = .ok (.slice a9 l9 c9) w9 ∧ w9.cell? ⟨w.heap.size, 0, none⟩ = some v ∧ w9.frozen? ⟨w.heap.size, 0, none⟩ = false ∧ Hid (TStep w W0.heap.size W (pre.map (·.1) ++ [x]) (w9.setCell ⟨w.heap.size, 0, none⟩ (.slice a9 l9 c9)))) := by
      intro w2 a8 c8 hb8 hv8 hA8
      have hlW : w.heap.size < W.heap.size := World.block_lt_of_cell? _ _ h1
      have hsz2 := hb8.size
      have hbal := hb8.alloc hb8.size (.cells #[.int .i64 x.ts, .int .i64 x.dep, .int .i64 x.seq, .string x.nm, .slice a8 x.vs.length c8] 25)
      obtain ⟨v9, w9, hr9, hE9, hg9⟩ := (h3.below hbal).append (by simp; omega) hlen ⟨x.ts, x.dep, x.seq, x.nm, a8, c8, x.vs⟩ (hv8.below ((Below.refl _ _).alloc (Nat.le_refl _) _)) (fun A hA => by
        have e1 := hA8 A hA
        exact ⟨by omega, by simp; omega, fun e => by have := (h3.own.lt _ e).2; omega⟩) w2.heap.size (heap_alloc_new w2 _) 66
      have e9 : w9.heap[w.heap.size]? = W.heap[w.heap.size]? := (hg9.block _ (by simp; omega) (fun e => by have := (h3.own.lt _ e.symm).1; omega)).trans (hbal.block _ hlW)
      obtain ⟨a9, c9, rfl⟩ := vowns_slice hE9.own
      exact ⟨a9, _, c9, w9, hr9, (World.cell?_of_block e9).trans h1, (World.frozen?_of_block e9).trans h2, told_step hlc h1 h2 h3 h4 h5 hb8 hE9 hg9 rfl⟩
    clear h3 h5 hlen hxv h4 hlc h7 hb0 g0 g2 k0 k1 k2 f0
    gi_wp2
    gi_region_with (
      refine ⟨trivial, (CallsIn.inRound l (callsIn_wide.2 (HAp.out _ (vbelow_drew (Below.refl _ _))))).mono ?_⟩
      rintro e w2 ⟨a8, c8, rfl, hv8, hA8, hb8⟩
      have HB8 : Hid (Below W.heap.size W w2) := ⟨hb8.os, hb8.tape, hb8.output, hb8.size, hb8.block⟩
      have d1 := ekeep HB8.out h1
      have d2 := ekeepAl (.cells #[.int .i64 x.ts, .int .i64 x.dep, .int .i64 x.seq, .string x.nm, .slice a8 x.vs.length c8] 25) d1
      have k0 := ekeep HB8.out c0
      have k1 := ekeep HB8.out c1
      have k2 := ekeep HB8.out c2
      have k3 := ekeep HB8.out c3
      have k4 := ekeep HB8.out c4
      obtain ⟨a9, l9, c9, w9, hr9, d9, f9, HF⟩ := HAPP.out w2 a8 c8 HB8.out hv8 hA8
      clear hv8 hA8 hb8)
    all_goals
      (gi_wp2
       obtain ⟨hf1, hf2, hf3⟩ := HF.out
       refine ⟨hf1, hf2, ?_⟩
       show TI w ((pre ++ [(⟨x, hxL⟩ : { x : EIn // x ∈ L })]).map (fun z => z.1)) _
       rw [List.map_append]
       exact hf3)
  case done =>
    rintro D ys W hD hys ⟨v, es, hlc, h1, h2, h3, h4, h5⟩ hK
    gi_wp2
    refine ⟨by simp, .inl ⟨_, _, rfl, run_takeDeferred hK, ?_⟩⟩
    refine ⟨v, ?_, v, es, rfl, ?_, by rw [h4, hys], ?_⟩
    · simp [results, Try.func68, go_sem]
    · exact h3.kept (row := some D) ⟨rfl, rfl, rfl, by simp, fun k _ hk => World.putObj_heap_other (fun e => hk (by rw [e]))⟩ (fun r e => by injection e with e; subst e; exact ⟨_, hK, rfl⟩)
    · exact h5.trans (belowK_b (w := w) (Nat.le_refl _) W D _ _ (by omega) hK rfl rfl)

end Go.Proofs.Ytfmlgckfcclojaa
namespace Go.Proofs.Ytfmlgckfcclojaa

section
variable {α : Type} {lt : α → α → Bool}

/-- How many are ahead. -/
def posL (lt : α → α → Bool) (L : List α) (y : α) : Nat := (L.takeWhile fun x => lt x y).length
/-- One more, at its place. -/
def insL (lt : α → α → Bool) (L : List α) (y : α) : List α := L.take (posL lt L y) ++ y :: L.drop (posL lt L y)

theorem posL_le (L : List α) (y : α) : posL lt L y ≤ L.length := (List.takeWhile_prefix _).length_le
theorem posL_cons (z : α) (L : List α) (y : α) : posL lt (z :: L) y = if lt z y then posL lt L y + 1 else 0 := by
  unfold posL
  rw [List.takeWhile_cons]
  cases lt z y <;> simp

theorem pos_ahead : ∀ {L : List α} {y z : α}, z ∈ L.take (posL lt L y) → lt z y = true
  | [], y, z, h => by simp at h
  | x :: L, y, z, h => by
    rw [posL_cons] at h
    split at h
    · rename_i hx
      simp at h
      rcases h with rfl | h
      · exact hx
      · exact pos_ahead h
    · simp at h

variable (tr : ∀ x y z, lt x y = true → lt y z = true → lt x z = true)
include tr

theorem pos_behind : ∀ {L : List α} {y z : α}, L.Pairwise (fun a b => lt a b = true) → z ∈ L.drop (posL lt L y) → lt z y = false
  | [], y, z, _, h => by simp at h
  | x :: L, y, z, hs, h => by
    rw [List.pairwise_cons] at hs
    rw [posL_cons] at h
    split at h
    · rw [List.drop_succ_cons] at h
      exact pos_behind hs.2 h
    · rename_i hx
      rw [List.drop_zero, List.mem_cons] at h
      rcases h with rfl | h
      · simpa using hx
      · cases hz : lt z y with
        | false => rfl
        | true => exact absurd (tr x z y (hs.1 z h) hz) hx

/-- Is there one with the same place? -/
theorem there_iff {L : List α} {y : α} (hs : L.Pairwise (fun a b => lt a b = true)) : (∃ z ∈ L, lt y z = false ∧ lt z y = false) ↔ ∃ z, L[posL lt L y]? = some z ∧ lt y z = false := by
  constructor
  · rintro ⟨z, hz, h1, h2⟩
    have hd : z ∈ L.drop (posL lt L y) := by
      rw [← List.take_append_drop (posL lt L y) L, List.mem_append] at hz
      rcases hz with h | h
      · rw [pos_ahead h] at h2; cases h2
      · exact h
    cases hdr : L.drop (posL lt L y) with
    | nil => rw [hdr] at hd; cases hd
    | cons z0 t =>
      have h0 : L[posL lt L y]? = some z0 := by
        have := congrArg (fun l => l[0]?) hdr
        simpa using this
      refine ⟨z0, h0, ?_⟩
      rw [hdr, List.mem_cons] at hd
      rcases hd with rfl | hd
      · exact h1
      · have hp : (z0 :: t).Pairwise (fun a b => lt a b = true) := by rw [← hdr]; exact hs.sublist (List.drop_sublist _ _)
        cases hy : lt y z0 with
        | false => rfl
        | true =>
          have := tr y z0 z hy ((List.pairwise_cons.1 hp).1 z hd)
          rw [h1] at this
          cases this
  · rintro ⟨z, hz, h1⟩
    refine ⟨z, List.mem_of_getElem? hz, h1, pos_behind tr hs ?_⟩
    refine List.mem_of_getElem? (i := 0) ?_
    rw [List.getElem?_drop]
    exact hz

/-- With one more it rises. -/
theorem insL_sorted {L : List α} {y : α} (hs : L.Pairwise (fun a b => lt a b = true)) (hn : ∀ z, L[posL lt L y]? = some z → lt y z = true) : (insL lt L y).Pairwise (fun a b => lt a b = true) := by
  have hb : ∀ z ∈ L.drop (posL lt L y), lt y z = true := by
    intro z hz
    cases hdr : L.drop (posL lt L y) with
    | nil => rw [hdr] at hz; cases hz
    | cons z0 t =>
      have h0 : L[posL lt L y]? = some z0 := by
        have := congrArg (fun l => l[0]?) hdr
        simpa using this
      have h1 := hn z0 h0
      have hp : (z0 :: t).Pairwise (fun a b => lt a b = true) := by rw [← hdr]; exact hs.sublist (List.drop_sublist _ _)
      rw [hdr, List.mem_cons] at hz
      rcases hz with rfl | hz
      · exact h1
      · exact tr y z0 z h1 ((List.pairwise_cons.1 hp).1 z hz)
  unfold insL
  rw [List.pairwise_append, List.pairwise_cons]
  refine ⟨hs.sublist (List.take_sublist _ _), ⟨hb, hs.sublist (List.drop_sublist _ _)⟩, fun a ha b hm => ?_⟩
  rw [List.mem_cons] at hm
  rcases hm with rfl | hm
  · exact pos_ahead ha
  · exact tr a y b (pos_ahead ha) (hb b hm)

omit tr
theorem insL_perm (L : List α) (y : α) : (insL lt L y).Perm (y :: L) := by
  unfold insL
  refine List.perm_middle.trans ?_
  rw [List.take_append_drop]

/-- One more, as the document puts it in: ahead of the first that is behind it. -/
def insR (lt : α → α → Bool) : List α → α → List α
  | [], y => [y]
  | z :: L, y => if lt y z then y :: z :: L else z :: insR lt L y
theorem insR_eq (asy : ∀ x y, lt x y = true → lt y x = false) : ∀ {L : List α} {y : α}, (∀ z ∈ L, lt y z = true ∨ lt z y = true) → insR lt L y = insL lt L y
  | [], y, _ => by simp [insR, insL, posL]
  | z :: L, y, h => by
    have ih := insR_eq asy (L := L) (y := y) (fun x hx => h x (by simp [hx]))
    unfold insL at ih ⊢
    rw [insR, posL_cons]
    cases hy : lt y z with
    | true => simp [asy y z hy]
    | false =>
      have hz : lt z y = true := by
        rcases h z (by simp) with h | h
        · rw [hy] at h; cases h
        · exact h
      simp [hz, ih]

/-- What goes is what is up to it; what stays is what is not. -/
theorem takeWhile_filter {p : α → Bool} : ∀ {L : List α}, L.Pairwise (fun a b => p b = true → p a = true) → L.takeWhile p = L.filter p ∧ L.drop (L.takeWhile p).length = L.filter (fun x => !p x)
  | [], _ => ⟨rfl, rfl⟩
  | x :: L, h => by
    rw [List.pairwise_cons] at h
    have ih := takeWhile_filter h.2
    cases hx : p x with
    | true =>
      simp [hx, ih.1]
      have h2 := ih.2
      rw [ih.1] at h2
      exact h2
    | false =>
      have hall : ∀ y ∈ L, p y = false := fun y hy => by
        cases hp : p y with
        | false => rfl
        | true => rw [h.1 y hy hp] at hx; cases hx
      refine ⟨?_, ?_⟩
      · rw [List.takeWhile_cons, hx, List.filter_cons, hx]
        simp
        exact hall
      · rw [List.takeWhile_cons, hx, List.filter_cons, hx]
        simp
        exact (List.filter_eq_self.2 (fun y hy => by simp [hall y hy])).symm
end

/-- The order of events is one. -/
theorem lessX_trans (x y z : EIn) (h : lessX x y = true) (h' : lessX y z = true) : lessX x z = true := by
  simp only [lessX, lessE, decide_eq_true_eq] at h h' ⊢
  omega
theorem lessX_asym (x y : EIn) (h : lessX x y = true) : lessX y x = false := by
  simp only [lessX, lessE, decide_eq_true_eq, decide_eq_false_iff_not] at h ⊢
  omega
theorem lessX_tri (x y : EIn) (h : lessX x y = false) (h' : lessX y x = false) : x.ts = y.ts ∧ x.dep = y.dep ∧ x.seq = y.seq := by
  simp only [lessX, lessE, decide_eq_false_iff_not] at h h'
  omega
/-- Those up to a time are ahead. -/
theorem due_down {L : List EIn} (T : Int) (h : L.Pairwise (fun a b => lessX a b = true)) : L.Pairwise (fun a b => decide (b.ts ≤ T) = true → decide (a.ts ≤ T) = true) := by
  refine h.imp ?_
  intro a b h1 h2
  simp only [lessX, lessE, decide_eq_true_eq] at h1 h2 ⊢
  omega

end Go.Proofs.Ytfmlgckfcclojaa
namespace Go.Proofs.Ytfmlgckfcclojaa
open Go.RowKit Go.Lib Go.Op

/-- A buffer: its box and its row are its own (k), values that wait lie in blocks that nobody owns (0). -/
structure Buf (w : World) (own : Nat → Nat) (k bb : Nat) (T : Int) (L : List EIn) : Prop where
  blk : ∃ v, w.heap[bb]? = some (.cells #[.int .i64 T, v] 101 (0, 0)) ∧ w.ownsRow 0 25 5 v L.length (flat L) ∧ ∀ g, v.ownBlock = some g → own g = k
  obb : own bb = k
  vals : ∀ x ∈ L, VRow w x.a x.vs ∧ (∀ A, x.a = some A → A.block < w.heap.size ∧ own A.block = 0) ∧ rightE x.p = true
  sort : L.Pairwise (fun a b => lessX a b = true)
  len : L.length ≤ 256

/-- A step that writes in the blocks of K alone; owners of what was are as they were. -/
structure OStep (K : Nat → Prop) (own own' : Nat → Nat) (w w' : World) : Prop where
  fr : OFr (fun b => K (own b)) w w'
  own : ∀ b, b < w.heap.size → own' b = own b

theorem OStep.refl (K : Nat → Prop) (own : Nat → Nat) (w : World) : OStep K own own w w := ⟨OFr.refl _ _, fun _ _ => rfl⟩
theorem OStep.trans {K : Nat → Prop} {o o' o'' : Nat → Nat} {a b c : World} (h : OStep K o o' a b) (h' : OStep K o' o'' b c) : OStep K o o'' a c :=
  ⟨⟨h'.fr.os.trans h.fr.os, h'.fr.tape.trans h.fr.tape, h'.fr.output.trans h.fr.output, Nat.le_trans h.fr.size h'.fr.size, fun i hi hn => (h'.fr.block i (Nat.lt_of_lt_of_le hi h.fr.size) (by rw [h.own i hi]; exact hn)).trans (h.fr.block i hi hn)⟩,
    fun i hi => (h'.own i (Nat.lt_of_lt_of_le hi h.fr.size)).trans (h.own i hi)⟩
theorem OStep.of_below {K : Nat → Prop} {o : Nat → Nat} {w w' : World} (h : Below w.heap.size w w') : OStep K o o w w' := ⟨OFr.of_below h, fun _ _ => rfl⟩

theorem VRow.ofr {K : Nat → Prop} {w w' : World} (h : OFr K w w') {a : Option Addr} {vs : List VIn} (hv : VRow w a vs) (hK : ∀ A, a = some A → ¬ K A.block) : VRow w' a vs := fun j x hj => by
  obtain ⟨A, e, h1, h2, h3, h4⟩ := hv j x hj
  exact ⟨A, e, h.cell h1 (by rw [oadd_block]; exact hK A e), h.cell h2 (by show ¬ K (A.add _).block; rw [oadd_block]; exact hK A e), h.cell h3 (by show ¬ K (A.add _).block; rw [oadd_block]; exact hK A e), h4⟩

/-- Another one's step changes nothing of it. -/
theorem Buf.step {K : Nat → Prop} {w w' : World} {own own' : Nat → Nat} {k bb : Nat} {T : Int} {L : List EIn} (h : Buf w own k bb T L) (hs : OStep K own own' w w') (hk : ¬ K k) (h0 : ¬ K 0) : Buf w' own' k bb T L where
  blk := by
    obtain ⟨v, h1, h2, h3⟩ := h.blk
    have hlt := (Array.getElem?_eq_some_iff.1 h1).1
    refine ⟨v, (hs.fr.block bb hlt (by rw [h.obb]; exact hk)).trans h1, eowns_of_block h2 (fun g hg => hs.fr.block g (h2.lt g hg).2 (by rw [h3 g hg]; exact hk)), fun g hg => (hs.own g (h2.lt g hg).2).trans (h3 g hg)⟩
  obb := by
    obtain ⟨v, h1, _⟩ := h.blk
    exact (hs.own bb (Array.getElem?_eq_some_iff.1 h1).1).trans h.obb
  vals x hx := by
    obtain ⟨h1, h2, h3⟩ := h.vals x hx
    exact ⟨h1.ofr hs.fr (fun A hA => by rw [(h2 A hA).2]; exact h0), fun A hA => ⟨Nat.lt_of_lt_of_le (h2 A hA).1 hs.fr.size, (hs.own _ (h2 A hA).1).trans (h2 A hA).2⟩, h3⟩
  sort := h.sort
  len := h.len

theorem cells_at : ∀ {L : List EIn} {j : Nat} {x : EIn}, L[j]? = some x → ∀ r u, x.cells[r]? = some u → (flat L)[j * 5 + r]? = some u
  | [], j, x, h, _, _, _ => by simp at h
  | y :: L, 0, x, h, r, u, hu => by
    simp at h
    subst h
    have hr : r < y.cells.length := (List.getElem?_eq_some_iff.1 hu).1
    rw [flat, Nat.zero_mul, Nat.zero_add, List.getElem?_append_left hr]
    exact hu
  | y :: L, j + 1, x, h, r, u, hu => by
    have hl : y.cells.length = 5 := by simp [EIn.cells, evC]
    rw [flat, List.getElem?_append_right (by rw [hl]; omega), hl, show (j + 1) * 5 + r - 5 = j * 5 + r by omega]
    exact cells_at (by simpa using h) r u hu

/-- The events of a row of one's own, as they are read. -/
theorem ECells.of_owns {w : World} {B : Nat} {v : Value} {L : List EIn} (h : w.ownsRow B 25 5 v L.length (flat L)) {a : Option Addr} {c : Nat} (hv : v = .slice a L.length c) : ECells w a L := by
  subst hv
  intro j x hj
  rcases h.2 with ⟨_, h0⟩ | ⟨g, cap, cur, he, hB, hg, hn, hc, hs, ht⟩
  · have := (List.getElem?_eq_some_iff.1 hj).1
    omega
  · injection he with he _ _
    subst he
    have k : ∀ i, (flat L)[i]? ≠ none → w.cell? ⟨g, i, none⟩ = (flat L)[i]? := fun i hi => by
      rw [cell_of_row w g i cur 25 (0, 0) hg, ← ht, List.getElem?_take]
      have : i < L.length * 5 := by
        rw [← flat_len L]
        rcases Nat.lt_or_ge i (flat L).length with h | h
        · exact h
        · exact absurd (List.getElem?_eq_none h) hi
      rw [if_pos this]
      simp
    have k2 : ∀ r u, x.cells[r]? = some u → w.cell? ⟨g, j * 5 + r, none⟩ = some u := fun r u hu => by
      have := cells_at hj r u hu
      rw [k _ (by rw [this]; simp), this]
    have hadd : (⟨g, 0, none⟩ : Addr).add (j * 5) = ⟨g, j * 5, none⟩ := by rw [addr_lit, Nat.zero_add]
    refine ⟨_, rfl, ?_, ?_, ?_, ?_, ?_⟩
    · rw [hadd]; exact k2 0 _ rfl
    · unfold efld; rw [hadd]; exact k2 1 _ rfl
    · unfold efld; rw [hadd]; exact k2 2 _ rfl
    · unfold efld; rw [hadd]; exact k2 3 _ rfl
    · unfold efld; rw [hadd]; exact k2 4 _ rfl

/-- What Put answers. -/
def putC (T : Int) (L : List EIn) (y : EIn) : Int :=
  if rightE y.p then (if y.ts ≤ T then 61 else (match L[posL lessX L y]? with
    | some z => if lessX y z then (if L.length < 256 then 0 else 2) else 151
    | none => if L.length < 256 then 0 else 2)) else 1
/-- What waits behind it. -/
def putW (T : Int) (L : List EIn) (y : EIn) : List EIn := if putC T L y = 0 then insL lessX L y else L

end Go.Proofs.Ytfmlgckfcclojaa
namespace Go.Proofs.Ytfmlgckfcclojaa
open Go.RowKit Go.Lib Go.Op

/-- What was not there yet is nobody's. -/
def OZ (w : World) (own : Nat → Nat) : Prop := ∀ b, w.heap.size ≤ b → own b = 0
theorem OZ.step {w w' : World} {own : Nat → Nat} (h : OZ w own) (hs : w.heap.size ≤ w'.heap.size) : OZ w' own := fun b hb => h b (Nat.le_trans hs hb)

def PutPostO (w : World) (own : Nat → Nat) (k bb : Nat) (T : Int) (L : List EIn) (y : EIn) (e : Ending) (w' : World) : Prop :=
  ∃ own' L', e = .returned (.int .i64 (putC T L y)) ∧ OStep (fun j => j = k) own own' w w' ∧ Buf w' own' k bb T L' ∧ L'.map EIn.core = (putW T L y).map EIn.core ∧ (OZ w own → OZ w' own')

theorem PutPostO.refused {w w' : World} {own : Nat → Nat} {k bb : Nat} {T : Int} {L : List EIn} {y : EIn} (h : Buf w own k bb T L) (hb : Below w.heap.size w w') {c : Int} (hc : putC T L y = c) (h0 : c ≠ 0) : PutPostO w own k bb T L y (.returned (.int .i64 c)) w' :=
  ⟨own, L, by rw [hc], OStep.of_below hb, h.step (K := fun _ => False) (OStep.of_below hb) (fun h => h) (fun h => h), by rw [putW, if_neg (by rw [hc]; exact h0)], fun hz => hz.step hb.size⟩

theorem right_sizes {t d s : Int} {n : ByteArray} {a : Option Addr} {c : Nat} {vs : List VIn} (h : rightE (EIn.p ⟨t, d, s, n, a, c, vs⟩) = true) : n.size ≤ 16 ∧ vs.length ≤ 8 ∧ ∀ x ∈ vs, x.2.2.size ≤ 64 := by
  obtain ⟨_, _, _, h1, h2, h3⟩ := rightE_iff.1 h
  have hb : ∀ m : ByteArray, m.data.toList.length = m.size := fun m => by simp
  refine ⟨?_, by simpa [EIn.p, pe] using h2, fun x hx => ?_⟩
  · have := (wordB_len h1).2
    rw [← hb]
    exact this
  · have h4 : rightB (pv x) = true := List.all_eq_true.1 h3 _ (List.mem_map_of_mem hx)
    obtain ⟨k, m, z⟩ := x
    rw [← hb]
    have h5 := rightB_kind h4
    dsimp only [pv] at h4 h5 ⊢
    rcases h5 with rfl | rfl | rfl
    · rw [(rightB_1.1 h4).2.2]; simp
    · exact (rightB_2.1 h4).2
    · rw [(rightB_3.1 h4).2.2]; simp

theorem flat_take {l : List EIn} {i : Nat} (h : i ≤ l.length) : flat (l.take i) = (flat l).take (i * 5) ∧ flat (l.drop i) = (flat l).drop (i * 5) := by
  have e := flat_append (l.take i) (l.drop i)
  rw [List.take_append_drop] at e
  have hl : (flat (l.take i)).length = i * 5 := by rw [flat_len, List.length_take, Nat.min_eq_left h]
  rw [e]
  exact ⟨(List.take_left' hl).symm, (List.drop_left' hl).symm⟩

theorem Buf.row {w : World} {own : Nat → Nat} {k bb : Nat} {T : Int} {L : List EIn} (h : Buf w own k bb T L) {va : Option Addr} {vc : Nat} (hc : w.cell? ⟨bb, 1, none⟩ = some (.slice va L.length vc)) :
    w.heap[bb]? = some (.cells #[.int .i64 T, .slice va L.length vc] 101 (0, 0)) ∧ w.ownsRow 0 25 5 (.slice va L.length vc) L.length (flat L) ∧ (∀ g, Value.ownBlock (.slice va L.length vc) = some g → own g = k) ∧ ∀ g, Value.ownBlock (.slice va L.length vc) = some g → g ≠ bb ∧ g < w.heap.size := by
  obtain ⟨v, hb, ho, hg⟩ := h.blk
  have e1 : w.cell? ⟨bb, 1, none⟩ = some v := fcell_of_blk hb rfl
  rw [hc] at e1
  injection e1 with e1
  subst e1
  refine ⟨hb, ho, hg, fun g hgv => ⟨fun e => ?_, (ho.lt g hgv).2⟩⟩
  rcases ho.2 with ⟨e2, _⟩ | ⟨g', cap, cur, e2, _, h2, _⟩
  · rw [e2] at hgv; cases hgv
  · rw [e2] at hgv
    injection hgv with hgv
    have hgv : g' = g := hgv
    rw [hgv, e] at h2
    have h3 : w.heap[bb]? = some (.cells cur 25 (0, 0)) := h2
    rw [hb] at h3
    injection h3 with h3
    injection h3 with _ h3 _
    cases h3

theorem put_end {w : World} {own : Nat → Nat} {k bb : Nat} {T : Int} {L : List EIn} (h : Buf w own k bb T L) (hk : k ≠ 0) {t d s : Int} {nm : ByteArray} {a : Option Addr} {c : Nat} {vs : List VIn} {va : Option Addr} {vc m : Nat}
    (hc : w.cell? ⟨bb, 1, none⟩ = some (.slice va L.length vc)) (hm : posL lessX L ⟨t, d, s, nm, a, c, vs⟩ = m) (hr : rightE (EIn.p ⟨t, d, s, nm, a, c, vs⟩) = true) (hpc : putC T L ⟨t, d, s, nm, a, c, vs⟩ = 0) (hful : L.length < 256)
    (hlt : ∀ z, L[m]? = some z → lessE t d s z.ts z.dep z.seq = true) {w5 : World} (hb5 : Below w.heap.size w w5) {a8 : Option Addr} {c8 : Nat} (hv8 : VRow w5 a8 vs) (hA8 : ∀ A, a8 = some A → w.heap.size ≤ A.block ∧ A.block < w5.heap.size) :
    Calls Try.prog 73 #[.slice va L.length vc, .int .i64 m, .slice (some ⟨w5.heap.size, 0, none⟩) 1 1] (w5.alloc (.cells #[.int .i64 t, .int .i64 d, .int .i64 s, .string nm, .slice a8 vs.length c8] 25)) fun e w6 => ∃ a9 l9 c9, e = .returned (.slice a9 l9 c9) ∧ w6.cell? ⟨bb, 1, none⟩ = some (.slice va L.length vc) ∧ w6.frozen? ⟨bb, 1, none⟩ = false ∧ Hid (PutPostO w own k bb T L ⟨t, d, s, nm, a, c, vs⟩ (.returned (.int .i64 0)) (w6.setCell ⟨bb, 1, none⟩ (.slice a9 l9 c9))) := by
  obtain ⟨hb, ho, hg, hgne⟩ := h.row hc
  have hbb : bb < w.heap.size := (Array.getElem?_eq_some_iff.1 hb).1
  have hml : m ≤ L.length := by rw [← hm]; exact posL_le _ _
  have hm' : posL lessX L ⟨t, d, s, nm, a8, c8, vs⟩ = m := hm
  obtain ⟨y', hy'⟩ : ∃ y' : EIn, y' = ⟨t, d, s, nm, a8, c8, vs⟩ := ⟨_, rfl⟩
  rw [← hy'] at hm'
  obtain ⟨WA, hWA⟩ : ∃ WA, WA = w5.alloc (.cells #[.int .i64 t, .int .i64 d, .int .i64 s, .string nm, .slice a8 vs.length c8] 25) := ⟨_, rfl⟩
  rw [← hWA]
  have hbA : Below w.heap.size w WA := by rw [hWA]; exact hb5.alloc hb5.size _
  have hszA : WA.heap.size = w5.heap.size + 1 := by rw [hWA]; simp
  have hs5 := hb5.size
  have hoA : WA.ownsRow 0 25 5 (.slice va L.length vc) L.length (flat L) := eowns_of_block ho (fun g hgv => hbA.block g (ho.lt g hgv).2)
  have hnew : WA.heap[w5.heap.size]? = some (.cells y'.cells.toArray 25 (0, 0)) := by rw [hWA, hy']; exact heap_alloc_new _ _
  have hI := insert_calls 0 (.slice va L.length vc) L.length m (flat L) w5.heap.size y'.cells.toArray WA hoA hml (by omega) (flat_one L) hnew (by simp [EIn.cells, evC]) (fun u hu => flat_one [y'] u (by simpa [flat] using hu)) (fun e => by have := (ho.lt _ e).2; omega) (Nat.zero_le _)
  have hys : (flat L).take (m * 5) ++ (y'.cells.toArray.toList ++ (flat L).drop (m * 5)) = flat (insL lessX L y') := by
    unfold insL
    rw [hm', flat_append, flat, (flat_take hml).1, (flat_take hml).2]
  have hlen : (insL lessX L y').length = L.length + 1 := by rw [(insL_perm L y').length_eq]; rfl
  rw [hys] at hI
  refine hI.mono ?_
  rintro e w6 ⟨v', rfl, hown', hfr, hob⟩
  have hob' : ∀ g, v'.ownBlock = some g → Value.ownBlock (.slice va L.length vc) = some g ∨ g = WA.heap.size := fun g hgv => by
    rcases hob with e | e
    · exact .inl (e ▸ hgv)
    · rw [e] at hgv; injection hgv with hgv; exact .inr hgv.symm
  obtain ⟨a9, c9, rfl⟩ := vowns_slice hown'
  obtain ⟨v9, hv9⟩ : ∃ v9, v9 = Value.slice a9 (L.length + 1) c9 := ⟨_, rfl⟩
  have hnbb : Value.ownBlock (.slice va L.length vc) ≠ some bb := fun e => (hgne _ e).1 rfl
  have hb6 : w6.heap[bb]? = some (.cells #[.int .i64 T, .slice va L.length vc] 101 (0, 0)) := by
    rw [hfr.block bb (by omega) hnbb, hbA.block bb hbb]; exact hb
  refine ⟨a9, _, c9, rfl, fcell_of_blk hb6 rfl, frozen_of_row w6 bb 1 _ 101 hb6, ?_⟩
  rw [← hv9] at hown' hob' ⊢
  have hob8 : ∀ g, v9.ownBlock = some g → (g < w.heap.size ∧ own g = k ∧ g ≠ bb) ∨ g = WA.heap.size := fun g hgv => by
    rcases hob' g hgv with e | e
    · exact .inl ⟨(hgne g e).2, hg g e, (hgne g e).1⟩
    · exact .inr e
  have hnb9 : v9.ownBlock ≠ some bb := fun e => by
    rcases hob8 bb e with h1 | h1
    · exact h1.2.2 rfl
    · omega
  have hfr6 : OFr (fun b => own b = k) w w6 := (OFr.of_below hbA).trans (hfr.mono (fun b _ hbk => hg b hbk))
  obtain ⟨W7, hW7⟩ : ∃ W7, W7 = w6.setCell ⟨bb, 1, none⟩ v9 := ⟨_, rfl⟩
  have hfr7 : OFr (fun b => own b = k) w W7 := by rw [hW7]; exact hfr6.setCell (fun _ => h.obb) v9
  have hb7 : W7.heap[bb]? = some (.cells #[.int .i64 T, v9] 101 (0, 0)) := by rw [hW7]; exact heap_setCell_same w6 bb 1 _ 101 v9 hb6
  have hoth : ∀ g, g ≠ bb → W7.heap[g]? = w6.heap[g]? := fun g hgb => by rw [hW7]; exact heap_setCell_other _ _ _ _ hgb
  have hs7 : W7.heap.size = w6.heap.size := by rw [hW7]; simp
  have hs6 := hfr.size
  rw [← hW7]
  obtain ⟨own', hown⟩ : ∃ own' : Nat → Nat, own' = fun b => if v9.ownBlock = some b then k else if w.heap.size ≤ b then 0 else own b := ⟨_, rfl⟩
  have own_row : ∀ g, v9.ownBlock = some g → own' g = k := fun g hgv => by rw [hown]; exact if_pos hgv
  have own_old : ∀ b, b < w.heap.size → own' b = own b := fun b hbl => by
    rw [hown]
    dsimp only
    by_cases e : v9.ownBlock = some b
    · rw [if_pos e]
      rcases hob8 b e with h1 | h1
      · exact h1.2.1.symm
      · omega
    · rw [if_neg e, if_neg (by omega)]
  have own_new : ∀ b, w.heap.size ≤ b → b ≠ WA.heap.size → own' b = 0 := fun b hbl hbn => by
    rw [hown]
    dsimp only
    rw [if_neg (fun e => by rcases hob8 b e with h1 | h1 <;> omega), if_pos hbl]
  have hW6 : WA.heap.size < W7.heap.size ∨ v9.ownBlock ≠ some WA.heap.size := by
    rw [hs7]
    by_cases e : v9.ownBlock = some WA.heap.size
    · exact .inl (hown'.lt _ e).2
    · exact .inr e
  refine ⟨own', insL lessX L y', by rw [hpc], ⟨hfr7, own_old⟩, ⟨⟨v9, hb7, ?_, own_row⟩, ?_, ?_, ?_, ?_⟩, ?_, ?_⟩
  · rw [hlen]
    exact eowns_of_block hown' (fun g hgv => hoth g (fun e => hnb9 (e ▸ hgv)))
  · rw [own_old bb hbb]; exact h.obb
  · intro x hx
    have hx' : x = y' ∨ x ∈ L := by simpa using (insL_perm L y').mem_iff.1 hx
    rcases hx' with rfl | hx'
    · subst hy'
      refine ⟨?_, fun A hA => ?_, hr⟩
      · refine VRow.ofr (K := fun b => b = bb ∨ Value.ownBlock (.slice va L.length vc) = some b) (w := w5) ⟨?_, ?_, ?_, ?_, ?_⟩ hv8 (fun A hA => ?_)
        · exact (hfr7.os.trans hb5.os.symm)
        · exact (hfr7.tape.trans hb5.tape.symm)
        · exact (hfr7.output.trans hb5.output.symm)
        · omega
        · intro b hbl hbn
          rw [hoth b (fun e => hbn (.inl e)), hfr.block b (by omega) (fun e => hbn (.inr e)), hWA]
          exact heap_alloc_old _ _ hbl
        · rintro (e | e)
          · have := (hA8 A hA).1; omega
          · have := (hA8 A hA).1; have := (hgne _ e).2; omega
      · obtain ⟨h1, h2⟩ := hA8 A hA
        exact ⟨by omega, own_new _ h1 (by omega)⟩
    · obtain ⟨h1, h2, h3⟩ := h.vals x hx'
      exact ⟨h1.ofr hfr7 (fun A hA => by rw [(h2 A hA).2]; exact fun e => hk e.symm), fun A hA => ⟨Nat.lt_of_lt_of_le (h2 A hA).1 hfr7.size, (own_old _ (h2 A hA).1).trans (h2 A hA).2⟩, h3⟩
  · refine insL_sorted lessX_trans h.sort (fun z hz => ?_)
    rw [hm'] at hz
    subst hy'
    exact hlt z hz
  · rw [hlen]; omega
  · rw [putW, if_pos hpc]
    unfold insL
    rw [hm', hm]
    subst hy'
    simp [EIn.core]
  · intro hz b hbl
    by_cases e : b = WA.heap.size
    · subst e
      rcases hW6 with h1 | h1
      · omega
      · rw [hown]
        dsimp only
        rw [if_neg h1, if_pos (by omega)]
    · exact own_new b (by omega) e

end Go.Proofs.Ytfmlgckfcclojaa
namespace Go.Proofs.Ytfmlgckfcclojaa
open Go.RowKit Go.Lib Go.Op

/-- What is held of the event that comes. -/
def YB (w : World) (t d s : Int) (nm : ByteArray) (v : Value) (W : World) : Prop :=
  Below w.heap.size w W ∧ W.cell? ⟨w.heap.size, 0, none⟩ = some (.int .i64 t) ∧ W.cell? ⟨w.heap.size, 1, none⟩ = some (.int .i64 d) ∧ W.cell? ⟨w.heap.size, 2, none⟩ = some (.int .i64 s) ∧ W.cell? ⟨w.heap.size, 3, none⟩ = some (.string nm) ∧ W.cell? ⟨w.heap.size, 4, none⟩ = some v
theorem YB.below {w W W' : World} {t d s : Int} {nm : ByteArray} {v : Value} (h : YB w t d s nm v W) (hb : Below W.heap.size W W') : YB w t d s nm v W' :=
  ⟨h.1.trans (hb.mono h.1.size), ekeep hb h.2.1, ekeep hb h.2.2.1, ekeep hb h.2.2.2.1, ekeep hb h.2.2.2.2.1, ekeep hb h.2.2.2.2.2⟩
theorem below_as {W W' W2 : World} (h : Below W2.heap.size W2 W') (ho : W2.os = W.os) (ht : W2.tape = W.tape) (hp : W2.output = W.output) (hh : W2.heap = W.heap) : Below W.heap.size W W' :=
  ⟨h.os.trans ho, h.tape.trans ht, h.output.trans hp, by rw [← hh]; exact h.size, fun k hk => by rw [← hh] at hk ⊢; exact h.block k hk⟩

set_option maxHeartbeats 4000000 in
set_option maxRecDepth 100000 in
theorem oput_calls {w : World} {own : Nat → Nat} {k bb : Nat} {T : Int} {L : List EIn} (h : Buf w own k bb T L) (hk : k ≠ 0) (y : EIn) (hy : VRow w y.a y.vs) (hn : y.nm.size ≤ maxLen) (hl : y.vs.length ≤ maxLen) :
    Calls Try.prog 43 #[.pointer (some ⟨bb, 0, none⟩), y.v] w (PutPostO w own k bb T L y) := by
  have H := Lib.hid h
  obtain ⟨v, hb, ho, hg⟩ := h.blk
  obtain ⟨va, vc, rfl⟩ := vowns_slice ho
  have hEC := Lib.hid (ECells.of_owns ho rfl)
  have HA : Hid (∀ A, va = some A → A.block < w.heap.size) := fun A hA => (ho.lt A.block (by rw [hA]; rfl)).2
  have b0 : w.cell? ⟨bb, 0, none⟩ = some (.int .i64 T) := fcell_of_blk hb rfl
  have b1 : w.cell? ⟨bb, 1, none⟩ = some (.slice va L.length vc) := fcell_of_blk hb rfl
  have B0 := Lib.hid b0
  have B1 := Lib.hid b1
  obtain ⟨t, d, s, nm, a, c, vs⟩ := y
  obtain ⟨W0, hW0⟩ : ∃ W0, W0 = w.alloc (.cells #[.int .i64 t, .int .i64 d, .int .i64 s, .string nm, .slice a vs.length c] 25) := ⟨_, rfl⟩
  have hB0 : Below w.heap.size w W0 := by rw [hW0]; exact (Below.refl _ _).alloc (Nat.le_refl _) _
  have c0 : W0.cell? ⟨w.heap.size, 0, none⟩ = some (.int .i64 t) := by rw [hW0]; exact new_cell _ _ _ rfl rfl
  have c1 : W0.cell? ⟨w.heap.size, 1, none⟩ = some (.int .i64 d) := by rw [hW0]; exact new_cell _ _ _ rfl rfl
  have c2 : W0.cell? ⟨w.heap.size, 2, none⟩ = some (.int .i64 s) := by rw [hW0]; exact new_cell _ _ _ rfl rfl
  have c3 : W0.cell? ⟨w.heap.size, 3, none⟩ = some (.string nm) := by rw [hW0]; exact new_cell _ _ _ rfl rfl
  have c4 : W0.cell? ⟨w.heap.size, 4, none⟩ = some (.slice a vs.length c) := by rw [hW0]; exact new_cell _ _ _ rfl rfl
  have HRt := Lib.hid (oright_calls ⟨t, d, s, nm, a, c, vs⟩ W0 hn (hy.below hB0) hl)
  have HB0 := Lib.hid hB0
  have HW0 := Lib.hid hW0
  dsimp only [EIn.v] at HRt ⊢
  clear h hb ho hg hW0 hB0
  go_enter Try.func43, Try.ntmps43
  go_upto_region 1 with fail
  rw [← HW0.out]
  cases hr : rightE (pe t d s nm vs) with
  | false =>
    rw [show rightE (EIn.p ⟨t, d, s, nm, a, c, vs⟩) = false from hr] at HRt
    go_wp2_with (go_at_call 71; (with_reducible refine HRt.out.mono ?_); rintro e w1 ⟨rfl, hb1⟩)
    go_ret
    exact PutPostO.refused H.out (HB0.out.trans (hb1.mono HB0.out.size)) (by unfold putC; rw [if_neg (by rw [show rightE (EIn.p ⟨t, d, s, nm, a, c, vs⟩) = false from hr]; simp)]) (by decide)
  | true =>
    rw [show rightE (EIn.p ⟨t, d, s, nm, a, c, vs⟩) = true from hr] at HRt
    have HRR : Hid (rightE (EIn.p ⟨t, d, s, nm, a, c, vs⟩) = true) := hr
    go_upto_region 3 with (go_at_call 71; (with_reducible refine HRt.out.mono ?_); rintro e w1 ⟨rfl, hb1⟩; have HB1 := Lib.hid (HB0.out.trans (hb1.mono HB0.out.size)); have c0 := ekeep hb1 c0; have c1 := ekeep hb1 c1; have c2 := ekeep hb1 c2; have c3 := ekeep hb1 c3; have c4 := ekeep hb1 c4; have b0 := ekeep HB1.out b0; have b1 := ekeep HB1.out b1; clear hb1)
    by_cases hlt : t ≤ T
    · have hd : decide (t ≤ T) = true := by simpa using hlt
      go_quiet (fail)
      go_wp2
      go_ret
      exact PutPostO.refused H.out (vbelow_drewN HB1.out _) (by unfold putC; rw [if_pos HRR.out, if_pos hlt]) (by decide)
    · have hd : decide (t ≤ T) = false := by simpa using hlt
      go_quiet (fail)
      go_upto_region 5 with fail
      have HP := Lib.hid (fun W (hW : Below w.heap.size w W) => oplace_calls (w := W) (bb := bb) (a := va) (c := vc) (L := L) ⟨t, d, s, nm, a, c, vs⟩ (ekeep hW B1.out) (ECells.kept (T := fun _ _ => False) (OKp.of_below hW) hEC.out (fun _ _ _ _ h => h)) (by have := H.out.len; omega) (fun A hA => Nat.lt_of_lt_of_le (HA.out A hA) hW.size))
      obtain ⟨W1, hW1⟩ : ∃ W1, W1 = w1.drewN nq := ⟨_, rfl⟩
      have HB2 : Hid (Below w.heap.size w W1) := by show Below _ _ _; rw [hW1]; exact vbelow_drewN HB1.out _
      have k0 : W1.cell? ⟨w.heap.size, 0, none⟩ = some (.int .i64 t) := by rw [hW1]; exact c0
      have k1 : W1.cell? ⟨w.heap.size, 1, none⟩ = some (.int .i64 d) := by rw [hW1]; exact c1
      have k2 : W1.cell? ⟨w.heap.size, 2, none⟩ = some (.int .i64 s) := by rw [hW1]; exact c2
      have k3 : W1.cell? ⟨w.heap.size, 3, none⟩ = some (.string nm) := by rw [hW1]; exact c3
      have k4 : W1.cell? ⟨w.heap.size, 4, none⟩ = some (.slice a vs.length c) := by rw [hW1]; exact c4
      rw [← hW1]
      clear hW1 c0 c1 c2 c3 c4 b0 b1
      obtain ⟨m, hm⟩ : ∃ m, posL lessX L ⟨t, d, s, nm, a, c, vs⟩ = m := ⟨_, rfl⟩
      have hml : m ≤ L.length := by rw [← hm]; exact posL_le _ _
      have HPm : Hid (∀ W, Below w.heap.size w W → Calls Try.prog 72 #[.pointer (some ⟨bb, 0, none⟩), evV t d s nm (.slice a vs.length c)] W fun e w' => e = .returned (.int .i64 (m : Nat)) ∧ Below W.heap.size W w') := by
        rw [← hm]; exact HP.out
      have Hm := Lib.hid hm
      clear hm HP
      go_upto_region 6 with (go_at_call 72; (with_reducible refine (HPm.out _ HB2.out).mono ?_); rintro e w2 ⟨rfl, hb2⟩; have HB3 := Lib.hid (HB2.out.trans (hb2.mono HB2.out.size)); have k0 := ekeep hb2 k0; have k1 := ekeep hb2 k1; have k2 := ekeep hb2 k2; have k3 := ekeep hb2 k3; have k4 := ekeep hb2 k4; have b0 := ekeep HB3.out B0.out; have b1 := ekeep HB3.out B1.out; clear hb2)
      obtain ⟨nl, hnl⟩ : ∃ nl, L.length = nl := ⟨_, rfl⟩
      have Hnl := Lib.hid hnl
      rw [hnl] at b1 hml
      clear hnl
      have HY2 : Hid (YB w t d s nm (.slice a vs.length c) w2) := ⟨HB3.out, k0, k1, k2, k3, k4⟩
      obtain ⟨qb, hqb⟩ : ∃ qb : Bool, (match L[m]? with | some z => !(lessE t d s z.ts z.dep z.seq) | none => false) = qb := ⟨_, rfl⟩
      have Hqb := Lib.hid hqb
      clear hqb
      go_cut [37] (fun s37 wx => s37 = .bool qb ∧ Hid (YB w t d s nm (.slice a vs.length c) wx))
      case first =>
        by_cases hmn : m < nl
        · have hdm : decide (m < nl) = true := by simpa using hmn
          obtain ⟨z, hz⟩ : ∃ z, L[m]? = some z := ⟨_, List.getElem?_eq_getElem (by rw [Hnl.out]; exact hmn)⟩
          obtain ⟨A, rfl, z0, z1, z2, z3, z4⟩ := (ECells.kept (T := fun _ _ => False) (OKp.of_below HB3.out) hEC.out (fun _ _ _ _ h => h)) m z hz
          unfold efld at z1 z2 z3 z4
          have hq := Hqb.out
          rw [hz] at hq
          dsimp only at hq
          have Hq := Lib.hid hq
          have HL := Lib.hid (fun W => less_calls t d s nm (.slice a vs.length c) z.ts z.dep z.seq z.nm (.slice z.a z.vs.length z.c) W)
          have hk0 : (0 : Int) ≤ (m : Int) := by omega
          have hk1 : (m : Int) < (nl : Int) := by omega
          clear hz hq
          go_region_with (go_at_call 33; (with_reducible refine (HL.out _).mono ?_); rintro e w3 ⟨rfl, hb3⟩; have HB4 : Hid (Below w2.heap.size w2 w3) := below_as hb3 rfl rfl rfl rfl; clear hb3)
          all_goals
            (go_wp2_with fail
             go_meet
             exact ⟨by rw [Hq.out], HY2.out.below HB4.out⟩)
        · have hdm : decide (m < nl) = false := by simpa using hmn
          have hq := Hqb.out
          rw [List.getElem?_eq_none (by rw [Hnl.out]; omega)] at hq
          dsimp only at hq
          subst hq
          go_quiet (fail)
          go_wp2_with fail
          go_meet
          exact ⟨rfl, HY2.out.below (vbelow_drewN (Below.refl _ _) _)⟩
      rename_i hcut
      obtain ⟨rfl, HYc⟩ := hcut
      have hgt : T < t := by omega
      have b1c := ekeep HYc.out.1 B1.out
      rw [Hnl.out] at b1c
      cases qb with
      | true =>
        go_wp2
        go_ret
        refine PutPostO.refused H.out HYc.out.1 ?_ (by decide)
        unfold putC
        rw [if_pos HRR.out, if_neg (by omega : ¬ t ≤ T), Hm.out]
        have hq := Hqb.out
        cases hz : L[m]? with
        | none => rw [hz] at hq; cases hq
        | some z =>
          rw [hz] at hq
          dsimp only at hq ⊢
          rw [if_neg (by simpa [lessX] using hq)]
      | false =>
        have hpc : putC T L ⟨t, d, s, nm, a, c, vs⟩ = if nl < 256 then 0 else 2 := by
          unfold putC
          rw [if_pos HRR.out, if_neg (by omega : ¬ t ≤ T), Hm.out, Hnl.out]
          have hq := Hqb.out
          cases hz : L[m]? with
          | none => rfl
          | some z =>
            rw [hz] at hq
            dsimp only at hq ⊢
            rw [if_pos (by simpa [lessX] using hq)]
        have Hpc := Lib.hid hpc
        clear hpc
        by_cases hful : nl < 256
        · have hd8 : decide ((256 : Int) ≤ (nl : Int)) = false := by simp; omega
          have hd9 : decide (256 ≤ nl) = false := by simp; omega
          go_upto_region 10 with fail
          have HAp : Hid (∀ V, Below w.heap.size w V → Calls Try.prog 74 #[.agg #[.int .i64 t, .int .i64 d, .int .i64 s, .string nm, .slice a vs.length c]] V (ApartPost t d s nm vs V)) := by
            intro V hV
            obtain ⟨e1, e2, e3⟩ := right_sizes HRR.out
            exact apart_calls t d s nm a c vs V (by omega) (hy.below hV) (by omega) (fun x hx => by have := e3 x hx; omega)
          have HIN : Hid (∀ (w5 : World) (a8 : Option Addr) (c8 : Nat), Below wc.heap.size wc w5 → VRow w5 a8 vs → (∀ A, a8 = some A → wc.heap.size ≤ A.block ∧ A.block < w5.heap.size) →
              Calls Try.prog 73 #[.slice va nl vc, .int .i64 m, .slice (some ⟨w5.heap.size, 0, none⟩) 1 1] (w5.alloc (.cells #[.int .i64 t, .int .i64 d, .int .i64 s, .string nm, .slice a8 vs.length c8] 25)) fun e w6 => ∃ a9 l9 c9, e = .returned (.slice a9 l9 c9) ∧ w6.cell? ⟨bb, 1, none⟩ = some (.slice va nl vc) ∧ w6.frozen? ⟨bb, 1, none⟩ = false ∧ Hid (PutPostO w own k bb T L ⟨t, d, s, nm, a, c, vs⟩ (.returned (.int .i64 0)) (w6.setCell ⟨bb, 1, none⟩ (.slice a9 l9 c9)))) := by
            intro w5 a8 c8 hb5 hv8 hA8
            have h8 := hA8
            have hl := Hnl.out
            subst hl
            exact put_end H.out hk B1.out Hm.out HRR.out (by rw [Hpc.out, if_pos hful]) hful (fun z hz => by have hq := Hqb.out; rw [hz] at hq; simpa using hq) (HYc.out.1.trans (hb5.mono HYc.out.1.size)) hv8 (fun A hA => ⟨Nat.le_trans HYc.out.1.size (h8 A hA).1, (h8 A hA).2⟩)
          obtain ⟨_, q0, q1, q2, q3, q4⟩ := HYc.out
          go_region_with (first
            | (go_at_call 74; refine (HAp.out _ (vbelow_drew HYc.out.1)).mono ?_; rintro e w5 ⟨a8, c8, rfl, hv8, hA8, hb8⟩; have HB8 : Hid (Below wc.heap.size wc w5) := below_as hb8 rfl rfl rfl rfl; have r1 := ekeep HB8.out b1c; have r2 := ekeepAl (.cells #[.int .i64 t, .int .i64 d, .int .i64 s, .string nm, .slice a8 vs.length c8] 25) r1; have HINw := Lib.hid (HIN.out w5 a8 c8 HB8.out hv8 hA8); clear hv8 hA8 hb8)
            | (go_at_call 73; (with_reducible refine HINw.out.mono ?_); rintro e w6 ⟨a9, l9, c9, rfl, r6, f6, HF⟩))
          all_goals
            (go_wp2
             go_ret
             exact HF.out)
        · have hd8 : decide ((256 : Int) ≤ (nl : Int)) = true := by simp; omega
          have hd9 : decide (256 ≤ nl) = true := by simp; omega
          go_wp2
          go_ret
          exact PutPostO.refused H.out HYc.out.1 (by rw [Hpc.out, if_neg hful]) (by decide)

end Go.Proofs.Ytfmlgckfcclojaa
