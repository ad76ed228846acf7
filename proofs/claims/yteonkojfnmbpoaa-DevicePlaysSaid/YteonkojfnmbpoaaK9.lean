/- The document's own device: Of. | Both devices: Same says that they are. -/
import Derived.Test.YteonkojfnmbpoaaK8
import Derived.Deep.RegionHeld
namespace Go.Proofs.Yteonkojfnmbpoaa
open Go.RowKit Go.Lib Go.Maps Go.ChangeMaps Go.Sort

/-- The builtin append of bytes that were handed in, as a step of a region that draws its order. -/
theorem step_append_bargB {w : World} {own : Owner} {B : Nat} {ops : Array Oper} {o : Oper} {a : Act} {K : Act → World → Prop} {Q : Exit → Act → World → Prop} {E : Prop} (hgd : o.guard = none) (s x : Operand)
    (ho : o.op = .call { callee := .builtin .append, args := #[s, x], argTypes := #[31, 31] })
    {bv : Value} {bs : List UInt8} (hb : BArg w own bv bs) {v : Value} {l : Nat} {xs : List Value} (hown : w.ownsRow B 5 1 v l xs) (hB : B ≤ w.heap.size) (h63 : l + bs.length ≤ 140737488355328)
    (hs : a.eval s = v) (hx : a.eval x = bv)
    (h : ∀ a' c' w', w'.ownsRow B 5 1 (.slice a' (l + bs.length) c') (l + bs.length) (xs ++ byteCells bs) → w.grownBy w' v.ownBlock → K (a.put o.dst (.slice a' (l + bs.length) c')) w') :
    if Region.wanted o (yielded ops a.tmps) = true then Oper.wp Try.prog o a w K Q else E := by
  have hw : Region.wanted o (yielded ops a.tmps) = true := by simp [Region.wanted, hgd]
  rw [if_pos hw]
  obtain ⟨v', w', hr, h2, h3⟩ := run_append_bargB hb hown hB h63 o.type
  obtain ⟨a', c', rfl⟩ := row_slice h2
  unfold Oper.wp execOp
  simp only [ho, resolve, invoke, builtin, Sem.run_bind, Sem.run_pure, Result.andThen_ok, List.map_toArray, List.map_cons, List.map_nil, hs, hx, hr]
  exact h a' c' w' h2 h3

/-- The document's device that Of has made, behind its first k files. -/
def ofRM (room : Int) (L : List RF) : RDm := { L := L, Gone := [], room := room, acts := 0, fused := false, left := 0, off := false }
structure OfR (ls : List LogV) (k : Nat) (L : List RF) : Prop where
  rising : Rising L
  files : ∀ key, (L.find? (fun f => f.nm == key)).map toF = (ofF ls k key).map settleF
  len : L.length ≤ k

theorem OfR.zero (ls : List LogV) : OfR ls 0 [] := ⟨List.Pairwise.nil, fun _ => rfl, Nat.le_refl _⟩
theorem OfR.next {ls : List LogV} {k : Nat} {L : List RF} {o : LogV} {x : RF} (h : OfR ls k L) (ho : ls[k]? = some o) (hn : ofF ls k o.name.data.toList = none) (hnm : x.name = o.name) (hd : x.data = o.ds) (hdn : x.done = o.ds.length) (ht : x.there = true) : OfR ls (k + 1) (putL L x) where
  rising := h.rising.put x
  files key := by
    have hxn : x.nm = o.name.data.toList := by unfold RF.nm; rw [hnm]
    rw [ofF_succ ho hn]
    by_cases e : key = x.nm
    · subst e
      rw [find_putL_same, hxn, setF_same]
      show some (toF x) = some (settleF _)
      unfold toF settleF
      rw [hd, hdn, ht]
      rfl
    · rw [find_putL_other e, setF_other _ _ (by rw [← hxn]; exact e)]
      exact h.files key
  len := Nat.le_trans (putL_len L x) (Nat.succ_le_succ h.len)

theorem OfR.agree {ls : List LogV} {L : List RF} {room : Int} (h : OfR ls ls.length L) : Agree (ofM room ls) (ofRM room L) where
  files k := by
    show ((ofF ls ls.length k).map settleF) = _
    exact (h.files k).symm
  gone k := rfl
  once f hf := by cases hf
  rising := h.rising
  room := rfl
  acts := rfl
  down := rfl
  fused := rfl
  left := rfl

theorem OfR.find {ls : List LogV} {k : Nat} {L : List RF} (h : OfR ls k L) (nm : List UInt8) : (ofF ls k nm = none ∧ findI L nm = -1) ∨ (ofF ls k nm ≠ none ∧ ∃ j : Nat, findI L nm = j) := by
  have hf := h.files nm
  rcases findI_cases L nm with ⟨h1, h2⟩ | ⟨j, f, h1, _, _, h2⟩
  · rw [h2] at hf
    refine Or.inl ⟨?_, h1⟩
    cases hx : ofF ls k nm with
    | none => rfl
    | some y => rw [hx] at hf; cases hf
  · rw [h2] at hf
    exact Or.inr ⟨fun e => by (rw [e] at hf; cases hf), j, h1⟩

/-- What the document's Of leaves. -/
def OfRPost (w : World) (d : Owner) (room : Int) (ls : List LogV) (e : Ending) (w' : World) : Prop :=
  (e = .returned (.pointer none) ∧ Below w.heap.size w w' ∧ ¬ OfOk ls) ∨
  (∃ (rb : Nat) (o : Owner) (L : List RF) (n : Nat), e = .returned (.pointer (some ⟨rb, 0, none⟩)) ∧ OfOk ls ∧ RD w' d o rb n (ofRM room L) ∧ OfR ls ls.length L ∧ n ≤ 64 ∧ (∀ b, b < w.heap.size → o b = none) ∧ Below w.heap.size w w')

/-- A round of Of, behind its bytes' copy. -/
theorem rof_round {w wq w3 : World} {d o1 : Owner} {k : Nat} {room : Int} {L : List RF} {A : Addr} {la : Option Addr} {lc : Nat} {gv : Value} {name : ByteArray} {da : Option Addr} {dc : Nat} {ds : List UInt8} {a3 : Option Addr} {c3 : Nat}
    (h2 : RDev wq d o1 w.heap.size la lc gv k (ofRM room L)) (hk : k ≤ 64) (hL : L.length ≤ k) (hbq : Below w.heap.size w wq) (hnm : name.size ≤ maxLen) (hlong : ds.length ≤ 262144) (hA : LAt w A k ⟨name, da, dc, ds⟩)
    (hrow : w3.ownsRow wq.heap.size 5 1 (.slice a3 ds.length c3) ds.length (byteCells ds)) (hb3 : Below wq.heap.size wq w3) :
    w3.cell? ⟨w.heap.size, 0, none⟩ = some (.slice la L.length lc) ∧ w3.cell? (A.add (k * 2)) = some (.string name) ∧ w3.cell? ⟨(A.add (k * 2)).block, (A.add (k * 2)).off + 1, none⟩ = some (.slice da ds.length dc) ∧
    Calls Try.prog 32 #[.slice la L.length lc, .agg #[.string name, .slice a3 ds.length c3, .int .i64 ds.length, .bool true]] w3 fun e w4 => ∃ a4 c4, e = .returned (.slice a4 (putL L ⟨name, a3, c3, ds, ds.length, true⟩).length c4) ∧
      w4.cell? ⟨w.heap.size, 0, none⟩ = some (.slice la L.length lc) ∧ w4.frozen? ⟨w.heap.size, 0, none⟩ = false ∧ w4.cell? (A.add (k * 2)) = some (.string name) ∧ w4.cell? ⟨(A.add (k * 2)).block, (A.add (k * 2)).off + 1, none⟩ = some (.slice da ds.length dc) ∧
      (w4.setCell ⟨w.heap.size, 0, none⟩ (.slice a4 (putL L ⟨name, a3, c3, ds, ds.length, true⟩).length c4)).cell? (A.add (k * 2)) = some (.string name) ∧ (w4.setCell ⟨w.heap.size, 0, none⟩ (.slice a4 (putL L ⟨name, a3, c3, ds, ds.length, true⟩).length c4)).cell? ⟨(A.add (k * 2)).block, (A.add (k * 2)).off + 1, none⟩ = some (.slice da ds.length dc) ∧
      Hid (RD (w4.setCell ⟨w.heap.size, 0, none⟩ (.slice a4 (putL L ⟨name, a3, c3, ds, ds.length, true⟩).length c4)) d o1 w.heap.size (k + 1) (ofRM room (putL L ⟨name, a3, c3, ds, ds.length, true⟩)) ∧ Below w.heap.size w (w4.setCell ⟨w.heap.size, 0, none⟩ (.slice a4 (putL L ⟨name, a3, c3, ds, ds.length, true⟩).length c4))) := by
  have hw3 := hbq.trans (hb3.mono hbq.size)
  have c1 : w.cell? ⟨(A.add (k * 2)).block, (A.add (k * 2)).off + 1, none⟩ = some (.slice da ds.length dc) := by
    have h := hA.c1
    unfold fld at h
    exact h
  have hl0 := World.block_lt_of_cell? _ _ hA.c0
  have hl1 := World.block_lt_of_cell? _ _ c1
  have hblk := (hb3.block _ (h2.lt (by simp [h2.orb]))).trans h2.blk
  refine ⟨cell_of_blk hblk rfl, (hw3.cell hl0).trans hA.c0, (hw3.cell hl1).trans c1, ?_⟩
  have hold : ∀ b, w3.heap.size ≤ b → both d o1 b = none := fun b hb => both_none.2 (h2.old b (Nat.le_trans hb3.size hb))
  have hcap : ds.length ≤ c3 := by
    rcases hrow.2 with ⟨e, h0⟩ | ⟨g, cap, cur, e, _, _, h1, _⟩
    · rw [h0]; exact Nat.zero_le _
    · injection e with _ _ e
      rw [e]; exact h1
  have hg : FGood w3 (both d o1) ⟨name, a3, c3, ds, ds.length, true⟩ := ⟨hnm, BArg.of_row hrow (fun b hb => both_none.2 (h2.old b hb)), hcap, hlong, Nat.le_refl _⟩
  refine (rput_calls w3 (both d o1) la lc L ⟨name, a3, c3, ds, ds.length, true⟩ (h2.rowL.below hb3) (by omega) hg hold).mono ?_
  rintro e w4 ⟨a4, c4, rfl, hr4, hb4⟩
  have hb5 : Below wq.heap.size wq w4 := hb3.trans (hb4.mono hb3.size)
  have hw4 := hbq.trans (hb5.mono hbq.size)
  have hblk4 := (hb5.block _ (h2.lt (by simp [h2.orb]))).trans h2.blk
  obtain ⟨h6, st6⟩ := h2.setL (n' := k + 1) hb5 (lc' := c4) hr4 (by have := putL_len L ⟨name, a3, c3, ds, ds.length, true⟩; show (putL L _).length + 0 ≤ k + 1; omega)
  have far : ∀ {p : Addr} {v : Value}, p.block < w.heap.size → w4.cell? p = some v → (w4.setCell ⟨w.heap.size, 0, none⟩ (.slice a4 (putL L ⟨name, a3, c3, ds, ds.length, true⟩).length c4)).cell? p = some v := fun hp hv => (World.cell?_of_block (Below.heap_setCell _ _ _ _ (by simp only; omega))).trans hv
  refine ⟨a4, c4, rfl, cell_of_blk hblk4 rfl, frozen_of_blk hblk4, (hw4.cell hl0).trans hA.c0, (hw4.cell hl1).trans c1, far hl0 ((hw4.cell hl0).trans hA.c0), far hl1 ((hw4.cell hl1).trans c1), ⟨_, _, _, h6⟩, hw4.trans (((Fr.refl (fun b => b = w.heap.size) w4).setCell _ _ (fun _ => rfl)).to_below hw4.size (fun k hk e => by omega))⟩

set_option maxHeartbeats 8000000 in
set_option maxRecDepth 100000 in
theorem rof_calls (room : Int) (a : Option Addr) (c : Nat) (ls : List LogV) (w : World) (d : Owner) (hr : -9223372036854775808 ≤ room ∧ room ≤ 9223372036854775807) (hls : LRow w a ls) (hbd : ∀ (j : Nat) (p : LogV), ls[j]? = some p → BArg w d (.slice p.da p.ds.length p.dc) p.ds) (hdo : ∀ b, w.heap.size ≤ b → d b = none) (hl : ls.length ≤ maxLen) :
    Calls Try.prog 8 #[.int .i64 room, .slice a ls.length c] w (OfRPost w d room ls) := by
  have Hls := Lib.hid hls
  have Hbd := Lib.hid hbd
  have Hdo := Lib.hid hdo
  obtain ⟨l, hll⟩ : ∃ l, ls.length = l := ⟨_, rfl⟩
  rw [hll] at hl ⊢
  have Hl := Lib.hid hll
  unfold maxLen at hl
  clear hls hll hbd hdo
  by_cases h64 : 64 < l
  · have Hbad : Hid (¬ OfOk ls) := fun h => by have := h.1; rw [Hl.out] at this; omega
    have hd : decide ((64 : Int) < (l : Int)) = true := by simp; omega
    go_enter Try.func8, Try.ntmps8
    go_wp2_with fail
    go_ret
    exact Or.inl ⟨rfl, Below.refl _ _, Hbad.out⟩
  · have hd : decide ((64 : Int) < (l : Int)) = false := by simp; omega
    have HNEW := Lib.hid (RD.new w d room hr Hdo.out)
    go_enter Try.func8, Try.ntmps8
    go_wp2_with fail
    refine HNEW.out.mono ?_
    rintro e w1 ⟨rfl, o1, h1, ho1, hb1⟩
    have H1 : Hid (RD w1 d o1 w.heap.size 0 (ofRM room [])) := h1
    have HO1 := Lib.hid ho1
    have HB1 := Lib.hid hb1
    clear h1 ho1 hb1 hd hr HNEW
    go_wp2_with fail
    go_loopw [6] (fun i wr => ∃ (k : Nat) (L : List RF), k ≤ l ∧ i = .int .i64 k ∧ Hid (∀ j o, j < k → ls[j]? = some o → OfAt ls j o) ∧ Hid (RD wr d o1 w.heap.size k (ofRM room L)) ∧ Hid (OfR ls k L) ∧ Hid (Below w.heap.size w wr)) (fun i _ => l - (intOf i).toNat)
    case atStart => exact ⟨0, [], Nat.zero_le _, rfl, (fun j o h _ => absurd h (Nat.not_lt_zero j)), H1.out, OfR.zero ls, HB1.out⟩
    case round =>
      obtain ⟨k, L, hk, rfl, Hok, HD, HR, HB⟩ := hrel
      by_cases hlt : k < l
      · obtain ⟨o, ho⟩ : ∃ o, ls[k]? = some o := ⟨_, List.getElem?_eq_getElem (by rw [Hl.out]; exact hlt)⟩
        have Ho := Lib.hid ho
        obtain ⟨A, rfl, hat⟩ := Hls.out.below HB.out k _ ho
        have c0 := hat.c0
        have c1 := hat.c1
        have hnm := hat.hname
        unfold fld at c1
        have HNM := Lib.hid hnm
        obtain ⟨la, lc, gv, h2⟩ := HD.out
        have H2 := Lib.hid h2
        have b0 : wr.cell? ⟨w.heap.size, 0, none⟩ = some (.slice la L.length lc) := h2.c0
        have hLk : L.length ≤ k := HR.out.len
        have hfa : ∀ q, Calls Try.prog 31 #[.slice la L.length lc, .string o.name] (wr.drewN q) fun e w' => e = .returned (.int .i64 (findI L o.name.data.toList)) ∧ w' = wr.drewN q := fun q => (rfind_calls (wr.drewN q) (both d o1) la lc L o.name (h2.rowL.below (below_drewN (Below.refl _ _) q)) (by omega)).mono fun _ _ h => ⟨h.1, h.2.symm⟩
        have hk0 : (0 : Int) ≤ (k : Int) := by omega
        have hk1 : (k : Int) < (l : Int) := by omega
        have hd : decide ((k : Int) < (l : Int)) = true := by simpa using hlt
        clear ho hat h2 hnm
        obtain ⟨name, da, dc, ds⟩ := o
        dsimp only at c0 c1 hfa HNM
        cases hnk : nameOk name.data.toList with
        | false =>
          have Hbad : Hid (¬ OfOk ls) := fun h => by have := (h.2 k _ Ho.out).1; rw [hnk] at this; cases this
          have Hnk : Hid (∀ w, Calls Try.prog 30 #[.string name] w fun e w' => e = .returned (.bool false) ∧ w' = w) := fun w => (rname_calls name w HNM.out).mono fun e w' h => ⟨by rw [h.1, hnk], h.2.symm⟩
          clear hnk hfa
          go_wp2_with fail
          go_quiet ((go_at_call 30; refine Calls.quiet_of_same (Hnk.out _)))
          go_wp2_with fail
          go_ret
          exact Or.inl ⟨rfl, below_drewN HB.out _, Hbad.out⟩
        | true =>
          have Hnk : Hid (∀ w, Calls Try.prog 30 #[.string name] w fun e w' => e = .returned (.bool true) ∧ w' = w) := fun w => (rname_calls name w HNM.out).mono fun e w' h => ⟨by rw [h.1, hnk], h.2.symm⟩
          have HNK := Lib.hid hnk
          clear hnk
          rcases HR.out.find name.data.toList with ⟨hf, hfi⟩ | ⟨hf, j, hfi⟩
          rotate_left
          · have Hbad : Hid (¬ OfOk ls) := fun h => hf (h.2 k _ Ho.out).2.1
            rw [hfi] at hfa
            have Hfa := Lib.hid hfa
            clear hf hfi hfa
            go_wp2_with fail
            go_quiet ((first | (go_at_call 30; refine Calls.quiet_of_same (Hnk.out _)) | (go_at_call 31; refine Calls.quiet_of_same (Hfa.out _))))
            go_wp2_with fail
            go_ret
            exact Or.inl ⟨rfl, below_drewN HB.out _, Hbad.out⟩
          rw [hfi] at hfa
          have Hfa := Lib.hid hfa
          have Hf := Lib.hid hf
          clear hf hfi hfa
          by_cases hlong : 262144 < ds.length
          · have Hbad : Hid (¬ OfOk ls) := fun h => by have := (h.2 k _ Ho.out).2.2; simp only at this; omega
            have hd4 : decide ((262144 : Int) < (ds.length : Int)) = true := by simp; omega
            go_wp2_with fail
            go_quiet ((first | (go_at_call 30; refine Calls.quiet_of_same (Hnk.out _)) | (go_at_call 31; refine Calls.quiet_of_same (Hfa.out _))))
            go_wp2_with fail
            go_ret
            exact Or.inl ⟨rfl, below_drewN HB.out _, Hbad.out⟩
          · have hd4 : decide ((262144 : Int) < (ds.length : Int)) = false := by simp; omega
            go_wp2_with fail
            go_quiet ((first | (go_at_call 30; refine Calls.quiet_of_same (Hnk.out _)) | (go_at_call 31; refine Calls.quiet_of_same (Hfa.out _))))
            go_wp2_with fail
            obtain ⟨wq, hwq⟩ : ∃ wq, wq = wr.drewN nq := ⟨_, rfl⟩
            rw [← hwq]
            have hbq0 : Below wr.heap.size wr wq := by rw [hwq]; exact below_drewN (Below.refl _ _) _
            have hlt0 := World.block_lt_of_cell? _ _ c0
            have hlt1 := World.block_lt_of_cell? _ _ c1
            have hq2 : RDev wq d o1 w.heap.size la lc gv k (ofRM room L) := H2.out.below hbq0
            have hbq : Below w.heap.size w wq := HB.out.trans (hbq0.mono HB.out.size)
            obtain ⟨A0, hA0, hat0⟩ := Hls.out k _ Ho.out
            injection hA0 with hA0
            subst hA0
            have HR3 : Hid (∀ (a3 : Option Addr) (c3 : Nat) (w3 : World), w3.ownsRow wq.heap.size 5 1 (.slice a3 ds.length c3) ds.length (byteCells ds) → Below wq.heap.size wq w3 → _) := fun a3 c3 w3 h8 h9 => rof_round (a3 := a3) (c3 := c3) hq2 (by omega) hLk hbq HNM.out (by omega) hat0 h8 h9
            have q0 : wq.cell? ⟨w.heap.size, 0, none⟩ = some (.slice la L.length lc) := hq2.c0
            have q1 := (hbq0.cell hlt0).trans c0
            have q2 := (hbq0.cell hlt1).trans c1
            have hal := (Below.refl wq.heap.size wq).alloc (Nat.le_refl _) (.cells #[] 5)
            have r0 : (wq.alloc (.cells #[] 5)).cell? ⟨w.heap.size, 0, none⟩ = some (.slice la L.length lc) := (hal.cell (p := ⟨w.heap.size, 0, none⟩) (World.block_lt_of_cell? _ _ q0)).trans q0
            have r1 := (hal.cell (World.block_lt_of_cell? _ _ q1)).trans q1
            have r2 := (hal.cell (World.block_lt_of_cell? _ _ q2)).trans q2
            have HBA : Hid (BArg ((wq.alloc (.cells #[] 5)).drew) d (.slice da ds.length dc) ds) := (((Hbd.out k _ Ho.out).step (below_step d hbq)).step (below_step d hal)).step (below_step d ((Below.refl _ _).drew))
            have HO5 : Hid (((wq.alloc (.cells #[] 5)).drew).ownsRow wq.heap.size 5 1 (.slice (some ⟨wq.heap.size, 0, none⟩) 0 0) 0 []) := hown_empty wq
            have HG3 : Hid (∀ w3, ((wq.alloc (.cells #[] 5)).drew).grownBy w3 (Value.slice (some ⟨wq.heap.size, 0, none⟩) 0 0).ownBlock → Below wq.heap.size wq w3) := fun w3 hg => (hal.drew).grown hg (by simp) (fun k hk => by simp [Value.ownBlock] at hk; omega)
            clear c0 c1 b0 hbq0 hq2 hbq hal hwq hd hd4 Hfa Hnk hat0
            refine wp_region_held_drew (S := (fun W => W.cell? (A.add (k * 2)) = some (.string name) ∧ W.cell? ⟨(A.add (k * 2)).block, (A.add (k * 2)).off + 1, none⟩ = some (.slice da ds.length dc))) (by kernel_rfl) (by refine ⟨?_, ?_⟩ <;> assumption) (fun hHeld => ?_)
            refine wpAnyH_take (i := 0) (oi := ⟨_, _, _, _, _, _⟩) (v := ?_) rfl (by kernel_rfl) (by kernel_rfl) (by kernel_rfl) (fun _ _ _ h => h) (Or.inl ⟨by rfl, by intro w hSw; (try dsimp only at hSw); go_simp; (try with_reducible rfl)⟩) (by assumption) ?_
            try simp only [Act.put, List.setIfInBounds_toArray, List.set_cons_zero, List.set_cons_succ]
            refine wpAnyH_take (i := 1) (oi := ⟨_, _, _, _, _, _⟩) (v := ?_) rfl (by kernel_rfl) (by kernel_rfl) (by kernel_rfl) (fun _ _ _ h => h) (Or.inl ⟨by rfl, by intro w hSw; (try dsimp only at hSw); go_simp; (try with_reducible rfl)⟩) (by assumption) ?_
            try simp only [Act.put, List.setIfInBounds_toArray, List.set_cons_zero, List.set_cons_succ]
            refine wpAnyH_take (i := 2) (oi := ⟨_, _, _, _, _, _⟩) (v := ?_) rfl (by kernel_rfl) (by kernel_rfl) (by kernel_rfl) (fun _ _ _ h => h) (Or.inl ⟨by rfl, by intro w hSw; (try dsimp only at hSw); go_simp; (try with_reducible rfl)⟩) (by assumption) ?_
            try simp only [Act.put, List.setIfInBounds_toArray, List.set_cons_zero, List.set_cons_succ]
            refine wpAnyH_take (i := 3) (oi := ⟨_, _, _, _, _, _⟩) (v := ?_) rfl (by kernel_rfl) (by kernel_rfl) (by kernel_rfl) (fun _ _ _ h => h) (Or.inl ⟨by rfl, by intro w hSw; (try dsimp only at hSw); go_simp; (try with_reducible rfl)⟩) (by assumption) ?_
            try simp only [Act.put, List.setIfInBounds_toArray, List.set_cons_zero, List.set_cons_succ]
            refine wpAnyH_take (i := 5) (oi := ⟨_, _, _, _, _, _⟩) (v := ?_) rfl (by kernel_rfl) (by kernel_rfl) (by kernel_rfl) (fun _ _ _ h => h) (Or.inl ⟨by rfl, by intro w hSw; (try dsimp only at hSw); go_simp; (try with_reducible rfl)⟩) (by assumption) ?_
            try simp only [Act.put, List.setIfInBounds_toArray, List.set_cons_zero, List.set_cons_succ]
            refine wpAnyH_take (i := 6) (oi := ⟨_, _, _, _, _, _⟩) (v := ?_) rfl (by kernel_rfl) (by kernel_rfl) (by kernel_rfl) (fun _ _ _ h => h) (Or.inl ⟨by rfl, by intro w hSw; (try dsimp only at hSw); go_simp; (try with_reducible rfl)⟩) (by assumption) ?_
            try simp only [Act.put, List.setIfInBounds_toArray, List.set_cons_zero, List.set_cons_succ]
            refine wpAnyH_take (i := 7) (oi := ⟨_, _, _, _, _, _⟩) (v := ?_) rfl (by kernel_rfl) (by kernel_rfl) (by kernel_rfl) (fun _ _ _ h => h) (Or.inl ⟨by rfl, by intro w hSw; (try dsimp only at hSw); go_simp; (try with_reducible rfl)⟩) (by assumption) ?_
            try simp only [Act.put, List.setIfInBounds_toArray, List.set_cons_zero, List.set_cons_succ]
            refine wpAnyH_take (i := 8) (oi := ⟨_, _, _, _, _, _⟩) (v := ?_) rfl (by kernel_rfl) (by kernel_rfl) (by kernel_rfl) (fun _ _ _ h => h) (Or.inl ⟨by rfl, by intro w hSw; (try dsimp only at hSw); go_simp; (try with_reducible rfl)⟩) (by assumption) ?_
            try simp only [Act.put, List.setIfInBounds_toArray, List.set_cons_zero, List.set_cons_succ]
            refine wpAnyH_take (i := 9) (oi := ⟨_, _, _, _, _, _⟩) (v := ?_) rfl (by kernel_rfl) (by kernel_rfl) (by kernel_rfl) (fun _ _ _ h => h) (Or.inl ⟨by rfl, by intro w hSw; (try dsimp only at hSw); go_simp; (try with_reducible rfl)⟩) (by assumption) ?_
            try simp only [Act.put, List.setIfInBounds_toArray, List.set_cons_zero, List.set_cons_succ]
            refine wpAnyH_take (i := 11) (oi := ⟨_, _, _, _, _, _⟩) (v := ?_) rfl (by kernel_rfl) (by kernel_rfl) (by kernel_rfl) (fun _ _ _ h => h) (Or.inl ⟨by rfl, by intro w hSw; (try dsimp only at hSw); go_simp; (try with_reducible rfl)⟩) (by assumption) ?_
            try simp only [Act.put, List.setIfInBounds_toArray, List.set_cons_zero, List.set_cons_succ]
            refine wpAnyH_take (i := 12) (oi := ⟨_, _, _, _, _, _⟩) (v := ?_) rfl (by kernel_rfl) (by kernel_rfl) (by kernel_rfl) (fun _ _ _ h => h) (Or.inl ⟨by rfl, by intro w hSw; (try dsimp only at hSw); go_simp; (try with_reducible rfl)⟩) (by assumption) ?_
            try simp only [Act.put, List.setIfInBounds_toArray, List.set_cons_zero, List.set_cons_succ]
            refine wpAnyH_take (i := 13) (oi := ⟨_, _, _, _, _, _⟩) (v := ?_) rfl (by kernel_rfl) (by kernel_rfl) (by kernel_rfl) (fun _ _ _ h => h) (Or.inl ⟨by rfl, by intro w hSw; (try dsimp only at hSw); go_simp; (try with_reducible rfl)⟩) (by assumption) ?_
            try simp only [Act.put, List.setIfInBounds_toArray, List.set_cons_zero, List.set_cons_succ]
            refine wpAnyH_take (i := 14) (oi := ⟨_, _, _, _, _, _⟩) (v := ?_) rfl (by kernel_rfl) (by kernel_rfl) (by kernel_rfl) (fun _ _ _ h => h) (Or.inl ⟨by rfl, by intro w hSw; (try dsimp only at hSw); go_simp; (try with_reducible rfl)⟩) (by assumption) ?_
            try simp only [Act.put, List.setIfInBounds_toArray, List.set_cons_zero, List.set_cons_succ]
            refine wpAnyH_take (i := 15) (oi := ⟨_, _, _, _, _, _⟩) (v := ?_) rfl (by kernel_rfl) (by kernel_rfl) (by kernel_rfl) (fun _ _ _ h => h) (Or.inl ⟨by rfl, by intro w hSw; (try dsimp only at hSw); go_simp; (try with_reducible rfl)⟩) (by assumption) ?_
            try simp only [Act.put, List.setIfInBounds_toArray, List.set_cons_zero, List.set_cons_succ]
            refine wpAnyH_take (i := 17) (oi := ⟨_, _, _, _, _, _⟩) (v := ?_) rfl (by kernel_rfl) (by kernel_rfl) (by kernel_rfl) (fun _ _ _ h => h) (Or.inl ⟨by rfl, by intro w hSw; (try dsimp only at hSw); go_simp; (try with_reducible rfl)⟩) (by assumption) ?_
            try simp only [Act.put, List.setIfInBounds_toArray, List.set_cons_zero, List.set_cons_succ]
            refine wpAnyH_take (i := 18) (oi := ⟨_, _, _, _, _, _⟩) (v := ?_) rfl (by kernel_rfl) (by kernel_rfl) (by kernel_rfl) (fun _ _ _ h => h) (Or.inl ⟨by rfl, by intro w hSw; (try dsimp only at hSw); go_simp; (try with_reducible rfl)⟩) (by assumption) ?_
            try simp only [Act.put, List.setIfInBounds_toArray, List.set_cons_zero, List.set_cons_succ]
            refine wpAnyH_take (i := 19) (oi := ⟨_, _, _, _, _, _⟩) (v := ?_) rfl (by kernel_rfl) (by kernel_rfl) (by kernel_rfl) (fun _ _ _ h => h) (Or.inl ⟨by rfl, by intro w hSw; (try dsimp only at hSw); go_simp; (try with_reducible rfl)⟩) (by assumption) ?_
            try simp only [Act.put, List.setIfInBounds_toArray, List.set_cons_zero, List.set_cons_succ]
            refine wpAnyH_take (i := 20) (oi := ⟨_, _, _, _, _, _⟩) (v := ?_) rfl (by kernel_rfl) (by kernel_rfl) (by kernel_rfl) (fun _ _ _ h => h) (Or.inl ⟨by rfl, by intro w hSw; (try dsimp only at hSw); go_simp; (try with_reducible rfl)⟩) (by assumption) ?_
            try simp only [Act.put, List.setIfInBounds_toArray, List.set_cons_zero, List.set_cons_succ]
            refine wpAnyH_take (i := 21) (oi := ⟨_, _, _, _, _, _⟩) (v := ?_) rfl (by kernel_rfl) (by kernel_rfl) (by kernel_rfl) (fun _ _ _ h => h) (Or.inl ⟨by rfl, by intro w hSw; (try dsimp only at hSw); go_simp; (try with_reducible rfl)⟩) (by assumption) ?_
            try simp only [Act.put, List.setIfInBounds_toArray, List.set_cons_zero, List.set_cons_succ]
            refine wpAnyH_take (i := 22) (oi := ⟨_, _, _, _, _, _⟩) (v := ?_) rfl (by kernel_rfl) (by kernel_rfl) (by kernel_rfl) (fun _ _ _ h => h) (Or.inl ⟨by rfl, by intro w hSw; (try dsimp only at hSw); go_simp; (try with_reducible rfl)⟩) (by assumption) ?_
            try simp only [Act.put, List.setIfInBounds_toArray, List.set_cons_zero, List.set_cons_succ]
            refine wpAnyH_ready (rs := [4, 10]) (by kernel_rfl) (by simp) ?_
            refine AllReadyH.cons rfl (fun K hK => ?_) (AllReadyH.cons rfl (fun K hK => ?_) AllReadyH.nil)
            focus go_simp
            refine hK.out _ _ (by (try dsimp only); refine ⟨?_, ?_⟩ <;> assumption) (fun hHeld => ?_)
            clear hK K
            refine wpAnyH_ready (rs := [10]) (by kernel_rfl) (by simp) ?_
            refine AllReadyH.cons rfl (fun K hK => ?_) AllReadyH.nil
            focus go_simp
            refine hK.out _ _ (by (try dsimp only); refine ⟨?_, ?_⟩ <;> assumption) (fun hHeld => ?_)
            clear hK K
            refine wpAnyH_ready (rs := [16]) (by kernel_rfl) (by simp) ?_
            refine AllReadyH.cons rfl (fun K hK => ?_) AllReadyH.nil
            refine step_append_bargB rfl (.tmp 57) (.tmp 62) rfl HBA.out HO5.out (by simp) (by omega) (by simp [Act.eval, Act.put]) (by simp [Act.eval, Act.put]) ?_; intro a3 c3 w3 hown3 hgrow3; (rw [Nat.zero_add, List.nil_append] at hown3); have hb3 := HG3.out w3 hgrow3; obtain ⟨y0, y1, y2, hput⟩ := HR3.out a3 c3 w3 hown3 hb3; rw [Nat.zero_add]
            refine hK.out _ _ (by (try dsimp only); refine ⟨?_, ?_⟩ <;> assumption) (fun hHeld => ?_)
            clear hK K
            refine wpAnyH_take (i := 23) (oi := ⟨_, _, _, _, _, _⟩) (v := ?_) rfl (by kernel_rfl) (by kernel_rfl) (by kernel_rfl) (fun _ _ _ h => h) (Or.inl ⟨by rfl, by intro w hSw; (try dsimp only at hSw); go_simp; (try with_reducible rfl)⟩) (by assumption) ?_
            try simp only [Act.put, List.setIfInBounds_toArray, List.set_cons_zero, List.set_cons_succ]
            refine wpAnyH_ready (rs := [24]) (by kernel_rfl) (by simp) ?_
            refine AllReadyH.cons rfl (fun K hK => ?_) AllReadyH.nil
            focus go_simp
            focus go_wp2_with (go_at_call 32; refine hput.mono ?_; rintro e w4 ⟨a4, c4, rfl, z0, zf, z1, z2, x1, x2, hnext⟩)
            refine hK.out _ _ (by (try dsimp only); refine ⟨?_, ?_⟩ <;> assumption) (fun hHeld => ?_)
            clear hK K
            refine wpAnyH_take (i := 25) (oi := ⟨_, _, _, _, _, _⟩) (v := ?_) rfl (by kernel_rfl) (by kernel_rfl) (by kernel_rfl) (fun _ _ _ h => h) (Or.inl ⟨by rfl, by intro w hSw; (try dsimp only at hSw); go_simp; (try with_reducible rfl)⟩) (by assumption) ?_
            try simp only [Act.put, List.setIfInBounds_toArray, List.set_cons_zero, List.set_cons_succ]
            refine wpAnyH_take (i := 26) (oi := ⟨_, _, _, _, _, _⟩) (v := ?_) rfl (by kernel_rfl) (by kernel_rfl) (by kernel_rfl) (fun _ _ _ h => h) (Or.inl ⟨by rfl, by intro w hSw; (try dsimp only at hSw); go_simp; (try with_reducible rfl)⟩) (by assumption) ?_
            try simp only [Act.put, List.setIfInBounds_toArray, List.set_cons_zero, List.set_cons_succ]
            refine wpAnyH_ready (rs := [27]) (by kernel_rfl) (by simp) ?_
            refine AllReadyH.cons rfl (fun K hK => ?_) AllReadyH.nil
            focus go_simp
            refine hK.out _ _ (by (try dsimp only); refine ⟨?_, ?_⟩ <;> assumption) (fun hHeld => ?_)
            clear hK K
            refine wpAnyH_done (by kernel_rfl) ?_ _
            rotate_left
            focus go_simp
            refine hK.out _ _ (by (try dsimp only); refine ⟨?_, ?_⟩ <;> assumption) (fun hHeld => ?_)
            clear hK K
            refine wpAnyH_ready (rs := [4, 16]) (by kernel_rfl) (by simp) ?_
            refine AllReadyH.cons rfl (fun K hK => ?_) (AllReadyH.cons rfl (fun K hK => ?_) AllReadyH.nil)
            focus go_simp
            refine hK.out _ _ (by (try dsimp only); refine ⟨?_, ?_⟩ <;> assumption) (fun hHeld => ?_)
            clear hK K
            refine wpAnyH_ready (rs := [16]) (by kernel_rfl) (by simp) ?_
            refine AllReadyH.cons rfl (fun K hK => ?_) AllReadyH.nil
            refine step_append_bargB rfl (.tmp 57) (.tmp 62) rfl HBA.out HO5.out (by simp) (by omega) (by simp [Act.eval, Act.put]) (by simp [Act.eval, Act.put]) ?_; intro a3 c3 w3 hown3 hgrow3; (rw [Nat.zero_add, List.nil_append] at hown3); have hb3 := HG3.out w3 hgrow3; obtain ⟨y0, y1, y2, hput⟩ := HR3.out a3 c3 w3 hown3 hb3; rw [Nat.zero_add]
            refine hK.out _ _ (by (try dsimp only); refine ⟨?_, ?_⟩ <;> assumption) (fun hHeld => ?_)
            clear hK K
            refine wpAnyH_take (i := 23) (oi := ⟨_, _, _, _, _, _⟩) (v := ?_) rfl (by kernel_rfl) (by kernel_rfl) (by kernel_rfl) (fun _ _ _ h => h) (Or.inl ⟨by rfl, by intro w hSw; (try dsimp only at hSw); go_simp; (try with_reducible rfl)⟩) (by assumption) ?_
            try simp only [Act.put, List.setIfInBounds_toArray, List.set_cons_zero, List.set_cons_succ]
            refine wpAnyH_ready (rs := [24]) (by kernel_rfl) (by simp) ?_
            refine AllReadyH.cons rfl (fun K hK => ?_) AllReadyH.nil
            focus go_simp
            focus go_wp2_with (go_at_call 32; refine hput.mono ?_; rintro e w4 ⟨a4, c4, rfl, z0, zf, z1, z2, x1, x2, hnext⟩)
            refine hK.out _ _ (by (try dsimp only); refine ⟨?_, ?_⟩ <;> assumption) (fun hHeld => ?_)
            clear hK K
            refine wpAnyH_take (i := 25) (oi := ⟨_, _, _, _, _, _⟩) (v := ?_) rfl (by kernel_rfl) (by kernel_rfl) (by kernel_rfl) (fun _ _ _ h => h) (Or.inl ⟨by rfl, by intro w hSw; (try dsimp only at hSw); go_simp; (try with_reducible rfl)⟩) (by assumption) ?_
            try simp only [Act.put, List.setIfInBounds_toArray, List.set_cons_zero, List.set_cons_succ]
            refine wpAnyH_take (i := 26) (oi := ⟨_, _, _, _, _, _⟩) (v := ?_) rfl (by kernel_rfl) (by kernel_rfl) (by kernel_rfl) (fun _ _ _ h => h) (Or.inl ⟨by rfl, by intro w hSw; (try dsimp only at hSw); go_simp; (try with_reducible rfl)⟩) (by assumption) ?_
            try simp only [Act.put, List.setIfInBounds_toArray, List.set_cons_zero, List.set_cons_succ]
            refine wpAnyH_ready (rs := [27]) (by kernel_rfl) (by simp) ?_
            refine AllReadyH.cons rfl (fun K hK => ?_) AllReadyH.nil
            focus go_simp
            refine hK.out _ _ (by (try dsimp only); refine ⟨?_, ?_⟩ <;> assumption) (fun hHeld => ?_)
            clear hK K
            refine wpAnyH_done (by kernel_rfl) ?_ _
            rotate_left
            refine step_append_bargB rfl (.tmp 57) (.tmp 62) rfl HBA.out HO5.out (by simp) (by omega) (by simp [Act.eval, Act.put]) (by simp [Act.eval, Act.put]) ?_; intro a3 c3 w3 hown3 hgrow3; (rw [Nat.zero_add, List.nil_append] at hown3); have hb3 := HG3.out w3 hgrow3; obtain ⟨y0, y1, y2, hput⟩ := HR3.out a3 c3 w3 hown3 hb3; rw [Nat.zero_add]
            refine hK.out _ _ (by (try dsimp only); refine ⟨?_, ?_⟩ <;> assumption) (fun hHeld => ?_)
            clear hK K
            refine wpAnyH_take (i := 23) (oi := ⟨_, _, _, _, _, _⟩) (v := ?_) rfl (by kernel_rfl) (by kernel_rfl) (by kernel_rfl) (fun _ _ _ h => h) (Or.inl ⟨by rfl, by intro w hSw; (try dsimp only at hSw); go_simp; (try with_reducible rfl)⟩) (by assumption) ?_
            try simp only [Act.put, List.setIfInBounds_toArray, List.set_cons_zero, List.set_cons_succ]
            refine wpAnyH_ready (rs := [4]) (by kernel_rfl) (by simp) ?_
            refine AllReadyH.cons rfl (fun K hK => ?_) AllReadyH.nil
            focus go_simp
            refine hK.out _ _ (by (try dsimp only); refine ⟨?_, ?_⟩ <;> assumption) (fun hHeld => ?_)
            clear hK K
            refine wpAnyH_ready (rs := [24]) (by kernel_rfl) (by simp) ?_
            refine AllReadyH.cons rfl (fun K hK => ?_) AllReadyH.nil
            focus go_simp
            focus go_wp2_with (go_at_call 32; refine hput.mono ?_; rintro e w4 ⟨a4, c4, rfl, z0, zf, z1, z2, x1, x2, hnext⟩)
            refine hK.out _ _ (by (try dsimp only); refine ⟨?_, ?_⟩ <;> assumption) (fun hHeld => ?_)
            clear hK K
            refine wpAnyH_take (i := 25) (oi := ⟨_, _, _, _, _, _⟩) (v := ?_) rfl (by kernel_rfl) (by kernel_rfl) (by kernel_rfl) (fun _ _ _ h => h) (Or.inl ⟨by rfl, by intro w hSw; (try dsimp only at hSw); go_simp; (try with_reducible rfl)⟩) (by assumption) ?_
            try simp only [Act.put, List.setIfInBounds_toArray, List.set_cons_zero, List.set_cons_succ]
            refine wpAnyH_take (i := 26) (oi := ⟨_, _, _, _, _, _⟩) (v := ?_) rfl (by kernel_rfl) (by kernel_rfl) (by kernel_rfl) (fun _ _ _ h => h) (Or.inl ⟨by rfl, by intro w hSw; (try dsimp only at hSw); go_simp; (try with_reducible rfl)⟩) (by assumption) ?_
            try simp only [Act.put, List.setIfInBounds_toArray, List.set_cons_zero, List.set_cons_succ]
            refine wpAnyH_ready (rs := [27]) (by kernel_rfl) (by simp) ?_
            refine AllReadyH.cons rfl (fun K hK => ?_) AllReadyH.nil
            focus go_simp
            refine hK.out _ _ (by (try dsimp only); refine ⟨?_, ?_⟩ <;> assumption) (fun hHeld => ?_)
            clear hK K
            refine wpAnyH_done (by kernel_rfl) ?_ _
            all_goals
              obtain ⟨hnx, hbx⟩ := hnext.out
              have HNX := Lib.hid hnx
              have HBX := Lib.hid hbx
              have HR6 := Lib.hid (HR.out.next Ho.out Hf.out (x := ⟨name, a3, c3, ds, ds.length, true⟩) rfl rfl rfl rfl)
              have Hok1 : Hid (∀ j o, j < k + 1 → ls[j]? = some o → OfAt ls j o) := fun j o hj hjo => by
                by_cases e : j = k
                · subst e
                  rw [Ho.out] at hjo
                  injection hjo with hjo
                  subst hjo
                  exact ⟨HNK.out, Hf.out, by show ds.length ≤ 262144; omega⟩
                · exact Hok.out j o (by omega) hjo
              obtain ⟨W9, hW9⟩ : ∃ W9, W9 = w4.setCell ⟨w.heap.size, 0, none⟩ (.slice a4 (putL L ⟨name, a3, c3, ds, ds.length, true⟩).length c4) := ⟨_, rfl⟩
              rw [← hW9] at HNX HBX ⊢
              clear hnx hbx hnext hW9 z0 zf z1 z2 x1 x2 y0 y1 y2 hb3 q0 q1 q2 r0 r1 r2 hown3 hgrow3
              go_wp2_with fail
              go_roundw
              case rel => exact ⟨k + 1, _, by omega, by go_num, Hok1, HNX, HR6, HBX⟩
              case measure => simp [intOf]; omega
      · obtain rfl : k = l := by omega
        have hd : decide ((k : Int) < (k : Int)) = false := by simp
        go_wp2_with fail
        go_ret
        have hok : OfOk ls := ⟨by rw [Hl.out]; omega, fun j o hj => Hok.out j o (by have := (List.getElem?_eq_some_iff.1 hj).1; rw [Hl.out] at this; exact this) hj⟩
        have e2 : OfR ls ls.length L := by rw [Hl.out]; exact HR.out
        exact Or.inr ⟨_, o1, L, k, rfl, hok, HD.out, e2, by omega, HO1.out, HB.out⟩

end Go.Proofs.Yteonkojfnmbpoaa
namespace Go.Proofs.Yteonkojfnmbpoaa
open Go.RowKit Go.Lib Go.Maps Go.ChangeMaps Go.Sort
open Go.Proofs (encStr)

/-- All names are right ones. -/
def NamesOk (r : RDm) : Prop := (∀ f ∈ r.L, nameOk f.nm = true) ∧ ∀ f ∈ r.Gone, nameOk f.nm = true

theorem name_back (s : ByteArray) : (⟨s.data.toList.toArray⟩ : ByteArray) = s := by
  apply ByteArray.ext
  simp

set_option maxHeartbeats 8000000 in
set_option maxRecDepth 100000 in
theorem same_calls {S : Prop} {w : World} {d o : Owner} {db fb gb rb n n' : Nat} {D E : DataW Unit} {m : DevM} {r : RDm} (hd : Dev S w d db fb gb D E n m) (hr : RD w d o rb n' r) (ha : Agree m r) (hk : NamesOk r) (hn : n ≤ 100000) (hn' : n' ≤ 100000) :
    Calls Try.prog 21 #[.pointer (some ⟨db, 0, none⟩), .pointer (some ⟨rb, 0, none⟩)] w fun e w' => e = .returned (.bool true) ∧ Below w.heap.size w w' := by
  obtain ⟨la, lc, gv, hr⟩ := hr
  have hlen : ∀ f ∈ r.L, f.data.length ≤ 262144 := fun f hf => (hr.rowL.good f hf).hl
  obtain ⟨hc1, hc2, hc3⟩ := ha.count hd hlen
  have HD := Lib.hid hd
  have HR := Lib.hid hr
  have HA := Lib.hid ha
  have HK := Lib.hid hk
  have HL := Lib.hid hlen
  obtain ⟨l, hll⟩ : ∃ l, r.L.length = l := ⟨_, rfl⟩
  have Hl := Lib.hid hll
  have hl5 : l ≤ 100000 := by have := hr.cnt; omega
  obtain ⟨U, hU⟩ : ∃ U, usedL r.L = U := ⟨_, rfl⟩
  have HDown : Hid (∀ W, Below w.heap.size w W → Calls Try.prog 45 #[.pointer (some ⟨db, 0, none⟩)] W fun e w' => e = .returned (.bool r.off) ∧ W = w') := fun W hW => by rw [← ha.down]; exact down_calls db m.down W (hd.below hW).c5
  have HActs : Hid (∀ W, Below w.heap.size w W → Calls Try.prog 23 #[.pointer (some ⟨db, 0, none⟩)] W fun e w' => e = .returned (.int .i64 r.acts) ∧ W = w') := fun W hW => by rw [← ha.acts]; exact acts_calls db m.acts W (hd.below hW).c3
  have HRUsed : Hid (∀ W, Below w.heap.size w W → Calls Try.prog 37 #[.pointer (some ⟨rb, 0, none⟩)] W fun e w' => e = .returned (.int .i64 U) ∧ W = w') := fun W hW => by rw [← hU]; exact rused_calls W (both d o) rb la lc r.L (hr.below hW).rowL (hr.below hW).c0 (by omega)
  have HUsed : Hid (∀ W, Below w.heap.size w W → Calls Try.prog 24 #[.pointer (some ⟨db, 0, none⟩)] W fun e w' => e = .returned (.int .i64 U) ∧ w'.cell? ⟨rb, 0, none⟩ = some (.slice la l lc) ∧ w'.cell? ⟨rb, 3, none⟩ = some (.int .i64 r.acts) ∧ w'.cell? ⟨rb, 6, none⟩ = some (.bool r.off) ∧ Below W.heap.size W w') := fun W hW => by
    refine ((hd.below hW).used (by omega)).mono ?_
    rintro e w' ⟨rfl, hb⟩
    have hW2 := hW.trans (hb.mono hW.size)
    have h2 := hr.below hW2
    exact ⟨by rw [hc2, hU], by rw [← hll]; exact h2.c0, h2.c3, h2.c6, hb⟩
  clear hd hr ha hk hlen hc2 hU
  go_enter Try.func21, Try.ntmps21
  go_wp2_with fail
  refine (HD.out.names (by omega)).mono ?_
  rintro e w1 ⟨v1, ss, rfl, hperm, hrow, hb1⟩
  have hsl : ss.length = l := by rw [HD.out.names_len hperm, hc1, hll]
  have hnm := HA.out.names HD.out HL.out hperm
  rw [hnm, hsl] at hrow
  have hlm : (r.L.map RF.nm).length = l := by rw [List.length_map, hll]
  have hrow' : w1.ownsRow w.heap.size 9 1 v1 (r.L.map RF.nm).length ((r.L.map RF.nm).map encStr) := by rw [hlm]; exact hrow
  obtain ⟨a1, c1, rfl, hnr⟩ := NRow.of_owns (own := fun _ => none) hrow' (fun _ _ => rfl)
  rw [hlm]
  have HN := Lib.hid hnr
  have HB1 := Lib.hid hb1
  have hb1d : Below w.heap.size w w1.drew := hb1.drew
  have R1 := HR.out.below hb1
  have s0 : w1.cell? ⟨rb, 0, none⟩ = some (.slice la l lc) := by rw [← hll]; exact R1.c0
  have s3 : w1.cell? ⟨rb, 3, none⟩ = some (.int .i64 r.acts) := R1.c3
  have s6 : w1.cell? ⟨rb, 6, none⟩ = some (.bool r.off) := R1.c6
  clear hperm hrow hsl hnm hlm hrow' hnr R1 hc1 hc3 hll
  go_wp2_with fail
  go_region_held3 (fun W => W.cell? ⟨rb, 0, none⟩ = some (.slice la l lc) ∧ W.cell? ⟨rb, 3, none⟩ = some (.int .i64 r.acts) ∧ W.cell? ⟨rb, 6, none⟩ = some (.bool r.off))
    ((refine ⟨?_, ?_, ?_⟩ <;> assumption))
    (first
      | (go_at_call 45; refine (HDown.out _ (by assumption)).mono ?_; rintro e w2 ⟨rfl, rfl⟩)
      | (go_at_call 24; refine (HUsed.out _ (by assumption)).mono ?_; rintro e w2 ⟨rfl, t0, t3, t6, hb2⟩; have hb2w : Below w.heap.size w w2 := hb1d.trans (hb2.mono hb1d.size))
      | (go_at_call 37; refine (HRUsed.out _ (by assumption)).mono ?_; rintro e w2 ⟨rfl, rfl⟩)
      | (go_at_call 23; refine (HActs.out _ (by assumption)).mono ?_; rintro e w2 ⟨rfl, rfl⟩))
  all_goals
    have hb3 : Below w1.heap.size w1 w2 := ((Below.refl w1.heap.size w1).drew).trans hb2
    have HB2 := Lib.hid hb3
    have HBW := Lib.hid (HB1.out.trans (hb3.mono HB1.out.size))
    clear hb2w hb2 hb3 t0 t3 t6 s0 s3 s6 hb1 hb1d HDown HUsed HRUsed HActs
    go_wp2_with fail
    go_loopw [6] (fun i wr => ∃ k : Nat, k ≤ l ∧ i = .int .i64 k ∧ Hid (Below w1.heap.size w1 wr)) (fun i _ => l - (intOf i).toNat)
    case atStart => exact ⟨0, Nat.zero_le _, rfl, HB2⟩
    case round =>
      obtain ⟨k, hk, rfl, Hb⟩ := hrel
      have HBr := Lib.hid (HB1.out.trans (Hb.out.mono HB1.out.size))
      by_cases hlt : k < l
      · obtain ⟨f, hf⟩ : ∃ f, r.L[k]? = some f := ⟨_, List.getElem?_eq_getElem (by rw [Hl.out]; exact hlt)⟩
        have hmem := List.mem_of_getElem? hf
        have Hf := Lib.hid hf
        obtain ⟨ad, rfl, _, hg⟩ := (HN.out.step (below_step _ Hb.out)) k f.nm (by rw [List.getElem?_map, hf]; rfl)
        have g0 : wr.cell? (ad.add k) = some (.string f.name) := by
          have h8 : wr.cell? (ad.add k) = some (.string ⟨f.nm.toArray⟩) := hg
          rw [show (⟨f.nm.toArray⟩ : ByteArray) = f.name from name_back f.name] at h8
          exact h8
        have R2 := HR.out.below HBr.out
        obtain ⟨A, hA, _, hat⟩ := R2.rowL k f hf
        subst hA
        have hrd := (HD.out.below HBr.out).read (s := f.name) hat.hname
        have hfind := HA.out.rising.find hmem
        have hok := HK.out.1 f hmem
        have hk0 : (0 : Int) ≤ (k : Int) := by omega
        have hk1 : (k : Int) < (l : Int) := by omega
        rw [show readM m f.name.data.toList = readR r f.nm from HA.out.read f.nm] at hrd
        cases hoff : r.off with
        | true =>
          have e1 : readR r f.nm = ([], 13) := by unfold readR; rw [hoff]; rfl
          rw [e1] at hrd
          have Hrd := Lib.hid hrd
          clear hat hrd hfind hok R2 hf hmem hg e1
          go_wp2_with fail
          refine Hrd.out.mono ?_
          rintro e w6 ⟨v6, rfl, hrow6, hb6⟩
          obtain ⟨a6, c6, rfl⟩ := row_slice hrow6
          have g1 := (hb6.cell (World.block_lt_of_cell? _ _ g0)).trans g0
          have HB6 := Lib.hid (Hb.out.trans (hb6.mono Hb.out.size))
          have R6 := HR.out.below (HBr.out.trans (hb6.mono HBr.out.size))
          have x0 : w6.cell? ⟨rb, 0, none⟩ = some (.slice (some A) l lc) := by rw [← Hl.out]; exact R6.c0
          have x6 : w6.cell? ⟨rb, 6, none⟩ = some (.bool true) := by rw [← hoff]; exact R6.c6
          obtain ⟨A', hA', _, hat⟩ := R6.rowL k f Hf.out
          injection hA' with hA'
          subst hA'
          have y0 := hat.c0
          clear R6 hat hrow6 hb6 g0 Hrd hoff
          go_wp2_with fail
          go_quiet (fail)
          have HB7 : Hid (Below w1.heap.size w1 (w6.drewN nq)) := below_drewN HB6.out _
          go_wp2_with fail
          go_roundw
          case rel => exact ⟨k + 1, by omega, by go_num, HB7⟩
          case measure => simp [intOf]; omega
        | false =>
          have e1 : readR r f.nm = (f.data, 0) := by unfold readR; rw [hoff, hok, hfind]; rfl
          rw [e1] at hrd
          have Hrd := Lib.hid hrd
          clear hat hrd hfind hok R2 hf hmem hg e1
          go_wp2_with fail
          refine Hrd.out.mono ?_
          rintro e w6 ⟨v6, rfl, hrow6, hb6⟩
          obtain ⟨a6, c6, rfl⟩ := row_slice hrow6
          have g1 := (hb6.cell (World.block_lt_of_cell? _ _ g0)).trans g0
          have HB6 := Lib.hid (Hb.out.trans (hb6.mono Hb.out.size))
          have R6 := HR.out.below (HBr.out.trans (hb6.mono HBr.out.size))
          have x0 : w6.cell? ⟨rb, 0, none⟩ = some (.slice (some A) l lc) := by rw [← Hl.out]; exact R6.c0
          have x6 : w6.cell? ⟨rb, 6, none⟩ = some (.bool false) := by rw [← hoff]; exact R6.c6
          obtain ⟨A', hA', _, hat⟩ := R6.rowL k f Hf.out
          injection hA' with hA'
          subst hA'
          have y0 := hat.c0
          have y1 := hat.c1
          unfold fld at y1
          obtain ⟨xx, hxx⟩ : ∃ xx : ByteArray, xx = ⟨f.data.toArray⟩ := ⟨_, rfl⟩
          have hbr : BArg w6 (fun _ => Option.none) (.slice a6 f.data.length c6) f.data := BArg.of_row hrow6 (fun _ _ => rfl)
          have cv1 : ∀ nq, (convert 31 9 (.slice a6 f.data.length c6)).run Try.prog (w6.drewN nq) = .ok (.string xx) (w6.drewN nq) := fun nq => by
            rw [hxx]
            exact conv_barg (hbr.step (below_step _ (below_drewN (Below.refl _ w6) nq)))
          have cv2 : ∀ nq, (convert 31 9 (.slice f.da f.data.length f.dc)).run Try.prog (w6.drewN nq) = .ok (.string xx) (w6.drewN nq) := fun nq => by
            rw [hxx]
            exact conv_barg (hat.hb.step (below_step _ (below_drewN (Below.refl _ w6) nq)))
          clear R6 hat hrow6 hb6 g0 Hrd hoff hbr hxx
          go_wp2_with fail
          go_quiet (fail)
          have HB7 : Hid (Below w1.heap.size w1 (w6.drewN nq)) := below_drewN HB6.out _
          go_wp2_with fail
          go_roundw
          case rel => exact ⟨k + 1, by omega, by go_num, HB7⟩
          case measure => simp [intOf]; omega
      · go_wp2_with fail
        go_ret
        exact ⟨rfl, HBr.out⟩

end Go.Proofs.Yteonkojfnmbpoaa
