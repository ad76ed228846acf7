/- The document's own device: bytes that are copied; Read. | The document's own device: what a store into it leaves; Remove, Sync. | The document's own device: Remove. | The document's own device: Remove, of a file that was there at the last Sync. | The document's own device: Sync. | The document's own device: Append. | The document's own device: Append, where it is full. | The document's own device: Append, where it is done. -/
import Derived.Test.YtdpbnacabinlgaaGreatDoorM6
import Derived.Deep.RegionLaw
namespace Go.Proofs.YtdpbnacabinlgaaGreatDoor
open Go.RowKit Go.Lib Go.Maps Go.ChangeMaps Go.Sort

theorem rmany_calls {w : World} {own : Owner} {kv : Value} {ks : List (ByteArray × Int)} (h : KArg w own kv ks) (hl : ks.length ≤ 1000000000000) (name : ByteArray) :
    Calls Tryz.prog 61 #[kv, .string name] w fun e w' => e = .returned (.tuple #[.int .i64 (max (manyK ks name.data.toList) 0), .bool (decide (0 ≤ manyK ks name.data.toList))]) ∧ Below w.heap.size w w' := by
  rcases h with ⟨rfl, rfl⟩ | ⟨A, c, rfl, _, h⟩
  · have e1 : manyK [] name.data.toList = -1 := rfl
    rw [e1]
    go_enter Tryz.func61, Tryz.ntmps61
    go_wp2_with fail
    refine wp_loop_rounds 1 ?_
    rw [rounds_succ]
    go_wp2
    go_ret2
    exact ⟨rfl, Below.refl _ _⟩
  · exact rmany_some w A c ks name h hl

/-- The builtin append of bytes that were handed in, onto a row of a known place. -/
theorem run_append_bargB {w : World} {own : Owner} {B : Nat} {bv : Value} {bs : List UInt8} (hb : BArg w own bv bs) {v : Value} {l : Nat} {xs : List Value} (hown : w.ownsRow B 5 1 v l xs) (hB : B ≤ w.heap.size) (h63 : l + bs.length ≤ 140737488355328) (ty : TypeId) :
    ∃ v' w', (Builtin.append_ #[49, 49] ty #[v, bv]).run Tryz.prog w = .ok v' w' ∧ w'.ownsRow B 5 1 v' (l + bs.length) (xs ++ byteCells bs) ∧ w.grownBy w' v.ownBlock := by
  obtain ⟨i0, hi, hz0, hz1, hz2⟩ := info_parts infoB
  rcases hb with ⟨rfl, rfl⟩ | ⟨A, c, rfl, _, hc⟩
  · refine ⟨v, w, run_append_owned_none w B 49 ty 5 i0 1 Tryz.underlying49 hi v l xs hown, ?_, ⟨rfl, rfl, rfl, Nat.le_refl _, fun _ _ _ => rfl⟩⟩
    simpa [byteCells] using hown
  · obtain ⟨v', w', h1, h2, h3, _, h5⟩ := run_append_own_at (P := Tryz.prog) w B 49 ty 5 i0 (.int .u8 0) 1 1 Tryz.underlying49 hi hz0 hz1 hz2 rfl (by decide) v l xs hown A bs.length c (byteCells bs) (by simp [byteCells_length])
      (fun j u hu => by
        simp only [byteCells, List.getElem?_map, Option.map_eq_some_iff] at hu
        obtain ⟨x, hx, rfl⟩ := hu
        exact hc j x hx) (byteCells_one bs) (by unfold maxLen; omega) (by omega) hB
    exact ⟨v', w', h1, h2, h3⟩

theorem wpList_append_bargB {w : World} {own : Owner} {B : Nat} {ops : Array Oper} {rest : List Oper} {o : Oper} {a : Act} {Q : Exit → Act → World → Prop} (hgd : o.guard = none) (s x : Operand)
    (ho : o.op = .call { callee := .builtin .append, args := #[s, x], argTypes := #[49, 49] })
    {bv : Value} {bs : List UInt8} (hb : BArg w own bv bs) {v : Value} {l : Nat} {xs : List Value} (hown : w.ownsRow B 5 1 v l xs) (hB : B ≤ w.heap.size) (h63 : l + bs.length ≤ 140737488355328)
    (hs : a.eval s = v) (hx : a.eval x = bv)
    (h : ∀ a' c' w', w'.ownsRow B 5 1 (.slice a' (l + bs.length) c') (l + bs.length) (xs ++ byteCells bs) → w.grownBy w' v.ownBlock → wpList Tryz.prog ops Q rest (a.put o.dst (.slice a' (l + bs.length) c')) w') :
    wpList Tryz.prog ops Q (o :: rest) a w := by
  refine wpList_plain hgd fun K hK => ?_
  obtain ⟨v', w', hr, h2, h3⟩ := run_append_bargB hb hown hB h63 o.type
  obtain ⟨a', c', rfl⟩ := row_slice h2
  unfold Oper.wp execOp
  simp only [ho, resolve, invoke, builtin, Sem.run_bind, Sem.run_pure, Result.andThen_ok, List.map_toArray, List.map_cons, List.map_nil, hs, hx, hr]
  exact hK _ _ (h a' c' w' h2 h3)

theorem findI_cases (fs : List RF) (nm : List UInt8) : (findI fs nm = -1 ∧ fs.find? (fun f => f.nm == nm) = none) ∨ ∃ (k : Nat) (f : RF), findI fs nm = k ∧ fs[k]? = some f ∧ f.nm = nm ∧ fs.find? (fun f => f.nm == nm) = some f := by
  unfold findI
  cases h : fs.findIdx? (fun f => f.nm == nm) with
  | none =>
    refine Or.inl ⟨rfl, ?_⟩
    rw [List.findIdx?_eq_none_iff] at h
    rw [List.find?_eq_none]
    intro x hx
    rw [h x hx]
    simp
  | some k =>
    obtain ⟨hk, h1, h2⟩ := List.findIdx?_eq_some_iff_getElem.1 h
    refine Or.inr ⟨k, fs[k], rfl, List.getElem?_eq_getElem hk, by simpa using h1, ?_⟩
    rw [List.find?_eq_some_iff_getElem]
    exact ⟨h1, k, hk, rfl, fun j hj => by simpa using h2 j hj⟩

/-- What Read answers: the bytes and the error's number. -/
def readR (r : RDm) (nm : List UInt8) : List UInt8 × Int :=
  if r.off then ([], 13) else if nameOk nm then (match r.L.find? (fun f => f.nm == nm) with | none => ([], 12) | some f => (f.data, 0)) else ([], 1)

theorem hown_empty (w : World) : (w.alloc (.cells #[] 5)).ownsRow w.heap.size 5 1 (.slice (some ⟨w.heap.size, 0, none⟩) 0 0) 0 [] :=
  ⟨rfl, .inr ⟨w.heap.size, 0, #[], rfl, Nat.le_refl _, by show (w.heap.push _)[w.heap.size]? = _; simp, Nat.le_refl _, by unfold maxLen; omega, rfl, rfl⟩⟩

end Go.Proofs.YtdpbnacabinlgaaGreatDoor
namespace Go.Proofs.YtdpbnacabinlgaaGreatDoor
open Go.RowKit Go.Lib Go.Maps Go.ChangeMaps Go.Sort

/-- The builtin append of a file onto a row that is owned. -/
theorem wpList_append_rf {w : World} {ops : Array Oper} {rest : List Oper} {o : Oper} {a : Act} {Q : Exit → Act → World → Prop} (hgd : o.guard = none) (s x : Operand)
    (ho : o.op = .call { callee := .builtin .append, args := #[s, x], argTypes := #[82, 82] })
    {v : Value} {l : Nat} {xs : List Value} (hown : w.ownsRow 0 87 4 v l xs) (f : RF) (A : Addr) (hA : ∀ j u, f.cells[j]? = some u → w.cell? (A.add j) = some u) (h63 : l ≤ 1000000)
    (hs : a.eval s = v) (hx : a.eval x = .slice (some A) 1 1)
    (h : ∀ a' c' w', w'.ownsRow 0 87 4 (.slice a' (l + 1) c') (l + 1) (xs ++ f.cells) → w.grownBy w' v.ownBlock → ((Value.slice a' (l + 1) c').ownBlock = v.ownBlock ∨ (Value.slice a' (l + 1) c').ownBlock = some w.heap.size) → wpList Tryz.prog ops Q rest (a.put o.dst (.slice a' (l + 1) c')) w') :
    wpList Tryz.prog ops Q (o :: rest) a w := by
  obtain ⟨i0, hi, hz0, hz1, hz2⟩ := info_parts infoRF
  refine wpList_plain hgd fun K hK => ?_
  obtain ⟨v', w', hr, h2, h3, _, h5⟩ := run_append_own_at (P := Tryz.prog) w 0 82 o.type 87 i0 (.agg #[.string .empty, .slice none 0 0, .int .i64 0, .bool false]) 4 56 Tryz.underlying82 hi hz0 hz1 hz2 rfl (by decide) v l xs hown A 1 1 f.cells rfl hA (rf_oneCell f) (by unfold maxLen; omega) (by omega) (Nat.zero_le _)
  obtain ⟨a', c', rfl⟩ := row_slice h2
  unfold Oper.wp execOp
  simp only [ho, resolve, invoke, builtin, Sem.run_bind, Sem.run_pure, Result.andThen_ok, List.map_toArray, List.map_cons, List.map_nil, hs, hx, hr]
  exact hK _ _ (h a' c' w' h2 h3 h5)

section
variable {w w' W : World} {d d' o o' : Owner} {rb n n' lc : Nat} {la : Option Addr} {gv : Value} {r : RDm}

/-- New files are stored. -/
theorem RDev.setL (h : RDev w d o rb la lc gv n r) (hb : Below w.heap.size w W) {la' : Option Addr} {lc' : Nat} {L' : List RF} (hrow : FRow W (both d o) la' L') (hn : L'.length + r.Gone.length ≤ n') :
    RDev (W.setCell ⟨rb, 0, none⟩ (.slice la' L'.length lc')) d o rb la' lc' gv n' { r with L := L' } ∧ RStep o o w (W.setCell ⟨rb, 0, none⟩ (.slice la' L'.length lc')) := by
  have hblk := (hb.block rb (h.lt (by simp [h.orb]))).trans h.blk
  have h1 : Fr (fun b => b = rb) W (W.setCell ⟨rb, 0, none⟩ (.slice la' L'.length lc')) := (Fr.refl (fun b => b = rb) W).setCell _ _ (fun _ => rfl)
  have hst1 : RStep o o W (W.setCell ⟨rb, 0, none⟩ (.slice la' L'.length lc')) := ⟨h1.mono (fun b e => by subst e; simp [h.orb]), fun _ _ => rfl⟩
  have hst : RStep o o w (W.setCell ⟨rb, 0, none⟩ (.slice la' L'.length lc')) := (RStep.below hb).trans hst1
  exact ⟨{
    blk := setCell_blk hblk _
    rowL := hrow.step (hst1.both d)
    rowG := ownsRow_of_block h.rowG (fun g hg => (h1.block g (Nat.lt_of_lt_of_le (h.lt (by simp [h.og g hg])) hb.size) (fun e => by have := h.og g hg; rw [e, h.orb] at this; simp at this)).trans (hb.block g (h.lt (by simp [h.og g hg]))))
    good := fun f hf => (h.good f hf).step (hst.both d)
    orb := h.orb
    og := h.og
    old := fun b hb' => h.old b (Nat.le_trans hst.fr.size hb')
    cnt := hn
    rroom := h.rroom
    rleft := h.rleft
    racts := h.racts }, hst⟩

/-- Removed files are stored. -/
theorem RDev.setG (h : RDev w d o rb la lc gv n r) (hW : Fr (fun b => gv.ownBlock = some b) w W) {a' : Option Addr} {c' : Nat} {G' : List RF} (hrow : W.ownsRow 0 87 4 (.slice a' G'.length c') G'.length (rfCells G'))
    (hob : ∀ g, (Value.slice a' G'.length c').ownBlock = some g → gv.ownBlock = some g ∨ (w.heap.size ≤ g ∧ g < W.heap.size)) (hg : ∀ f ∈ G', FGood w (both d o) f) (hn : r.L.length + G'.length ≤ n') :
    ∃ o', RDev (W.setCell ⟨rb, 1, none⟩ (.slice a' G'.length c')) d o' rb la lc (.slice a' G'.length c') n' { r with Gone := G' } ∧ RStep o o' w (W.setCell ⟨rb, 1, none⟩ (.slice a' G'.length c')) := by
  have hrb : rb < w.heap.size := h.lt (by simp [h.orb])
  have hgb : gv.ownBlock ≠ some rb := fun e => by have := h.og rb e; rw [h.orb] at this; simp at this
  have hnb : (Value.slice a' G'.length c').ownBlock ≠ some rb := fun e => by
    rcases hob rb e with h1 | ⟨h1, _⟩
    · exact hgb h1
    · omega
  have hblk := (hW.block rb hrb hgb).trans h.blk
  have h1 : Fr (fun b => b = rb) W (W.setCell ⟨rb, 1, none⟩ (.slice a' G'.length c')) := (Fr.refl (fun b => b = rb) W).setCell _ _ (fun _ => rfl)
  have hfr : Fr (fun b => o b ≠ none) w (W.setCell ⟨rb, 1, none⟩ (.slice a' G'.length c')) :=
    (hW.mono (fun b (e : gv.ownBlock = some b) => by simp [h.og b e])).trans (h1.mono (fun b e => by subst e; simp [h.orb]))
  have hst : RStep o (fun b => if (Value.slice a' G'.length c').ownBlock = some b then some (10, []) else o b) w (W.setCell ⟨rb, 1, none⟩ (.slice a' G'.length c')) := ⟨hfr, fun b hb => by
    by_cases e : (Value.slice a' G'.length c').ownBlock = some b
    · rw [if_pos e]
      rcases hob b e with h2 | ⟨h2, _⟩
      · exact (h.og b h2).symm
      · omega
    · rw [if_neg e]⟩
  refine ⟨_, ?_, hst⟩
  exact {
    blk := setCell_blk hblk _
    rowL := h.rowL.step (hst.both d)
    rowG := ownsRow_of_block hrow (fun g hg => Below.heap_setCell _ _ _ _ (fun e => hnb (by rw [hg, e])))
    good := fun f hf => (hg f hf).step (hst.both d)
    orb := by rw [if_neg hnb]; exact h.orb
    og := fun g hg => if_pos hg
    old := fun b hb' => by
      have h2 := h.old b (Nat.le_trans hst.fr.size hb')
      refine ⟨h2.1, ?_⟩
      rw [if_neg ?_]
      · exact h2.2
      · intro e
        have h3 : W.heap.size ≤ b := Nat.le_trans h1.size hb'
        rcases hob b e with h4 | ⟨_, h4⟩
        · have := h.og b h4
          rw [h2.2] at this
          cases this
        · omega
    cnt := hn
    rroom := h.rroom
    rleft := h.rleft
    racts := h.racts }
end

theorem withoutL_len (fs : List RF) (nm : List UInt8) : (withoutL fs nm).length ≤ fs.length := List.length_filter_le _ _

/-- What Remove answers, and what the device is then. -/
def removeR (r : RDm) (nm : List UInt8) : RDm × Int :=
  if isOff r then (powerR r, 13)
  else if nameOk nm = false then (powerR r, 1)
  else match r.L.find? (fun f => f.nm == nm) with
    | none => (powerR r, 12)
    | some f => (didR { powerR r with Gone := if f.there then r.Gone ++ [f] else r.Gone, L := withoutL r.L nm }, 0)

end Go.Proofs.YtdpbnacabinlgaaGreatDoor
namespace Go.Proofs.YtdpbnacabinlgaaGreatDoor
open Go.RowKit Go.Lib Go.Maps Go.ChangeMaps Go.Sort

section
variable {w w' : World} {d o : Owner} {rb n lc : Nat} {la : Option Addr} {gv : Value} {r : RDm}

/-- What a call on the document's device leaves. -/
def RPost (w : World) (d o : Owner) (rb n : Nat) (r : RDm × Int) (e : Ending) (w' : World) : Prop :=
  e = .returned (.int .i64 r.2) ∧ ∃ o', RD w' d o' rb n r.1 ∧ RStep o o' w w'

theorem isOff_left (h : isOff r = false) : (powerR r).fused = true → (powerR r).left ≠ 0 := by
  intro h1 h2
  simp only [powerR] at h1 h2
  simp [isOff, h1, h2] at h

set_option maxHeartbeats 2000000 in
set_option maxRecDepth 100000 in
theorem RD.remove_off (h : RD w d o rb n r) (hd : isOff r = true) (s : ByteArray) :
    Calls Tryz.prog 54 #[.pointer (some ⟨rb, 0, none⟩), .string s] w (RPost w d o rb n (powerR r, 13)) := by
  have hpw := h.power
  rw [hd] at hpw
  have HP := Lib.hid hpw
  clear h hd hpw
  go_enter Tryz.func54, Tryz.ntmps54
  go_wp2_with fail
  refine HP.out.mono ?_
  rintro e w1 ⟨rfl, h1, st1⟩
  have H1 := Lib.hid h1
  clear h1
  go_wp2_with fail
  go_ret
  exact ⟨rfl, o, H1.out, st1⟩

set_option maxHeartbeats 2000000 in
set_option maxRecDepth 100000 in
theorem RD.remove_bad (h : RD w d o rb n r) (hd : isOff r = false) {s : ByteArray} (hs : s.size ≤ maxLen) (hk : nameOk s.data.toList = false) :
    Calls Tryz.prog 54 #[.pointer (some ⟨rb, 0, none⟩), .string s] w (RPost w d o rb n (powerR r, 1)) := by
  have hpw := h.power
  rw [hd] at hpw
  have HP := Lib.hid hpw
  have HN : Hid (∀ w, Calls Tryz.prog 40 #[.string s] w fun e w' => e = .returned (.bool false) ∧ w = w') := fun w => by rw [← hk]; exact rname_calls s w hs
  clear h hd hpw hk
  go_enter Tryz.func54, Tryz.ntmps54
  go_wp2_with fail
  refine HP.out.mono ?_
  rintro e w1 ⟨rfl, h1, st1⟩
  have H1 := Lib.hid h1
  clear h1
  go_wp2_with fail
  refine (HN.out w1).mono ?_
  rintro e w2 ⟨rfl, rfl⟩
  go_wp2_with fail
  go_ret
  exact ⟨rfl, o, H1.out, st1⟩

set_option maxHeartbeats 2000000 in
set_option maxRecDepth 100000 in
theorem RD.remove_none (h : RD w d o rb n r) (hn : n ≤ 1000000) (hd : isOff r = false) {s : ByteArray} (hs : s.size ≤ maxLen) (hk : nameOk s.data.toList = true) (hf : findI r.L s.data.toList = -1) :
    Calls Tryz.prog 54 #[.pointer (some ⟨rb, 0, none⟩), .string s] w (RPost w d o rb n (powerR r, 12)) := by
  have hpw := h.power
  rw [hd] at hpw
  have HP := Lib.hid hpw
  have HN : Hid (∀ w, Calls Tryz.prog 40 #[.string s] w fun e w' => e = .returned (.bool true) ∧ w = w') := fun w => by rw [← hk]; exact rname_calls s w hs
  have HF := Lib.hid hf
  clear h hd hpw hk hf
  go_enter Tryz.func54, Tryz.ntmps54
  go_wp2_with fail
  refine HP.out.mono ?_
  rintro e w1 ⟨rfl, h1, st1⟩
  have H1 := Lib.hid h1
  obtain ⟨la, lc, gv, h2⟩ := h1
  have c0 := h2.c0
  have hcnt := h2.cnt
  have hfc := rfind_calls w1 _ la lc (powerR r).L s h2.rowL (by omega)
  rw [show findI (powerR r).L s.data.toList = -1 from HF.out] at hfc
  have HFC := Lib.hid hfc
  clear h2 hfc
  go_wp2_with fail
  refine (HN.out w1).mono ?_
  rintro e w2 ⟨rfl, rfl⟩
  go_wp2_with fail
  refine HFC.out.mono ?_
  rintro e w2 ⟨rfl, rfl⟩
  go_wp2_with fail
  go_ret
  exact ⟨rfl, o, H1.out, st1⟩

set_option maxHeartbeats 2000000 in
set_option maxRecDepth 100000 in
theorem RD.remove_keep (h : RD w d o rb n r) (hn : n ≤ 1000000) (hac : r.acts ≤ 1000000000000) (hd : isOff r = false) {s : ByteArray} (hs : s.size ≤ maxLen) (hk : nameOk s.data.toList = true) {k : Nat} {f : RF} (hf : findI r.L s.data.toList = k) (hkf : r.L[k]? = some f) (ht : f.there = false) :
    Calls Tryz.prog 54 #[.pointer (some ⟨rb, 0, none⟩), .string s] w (RPost w d o rb n (didR { powerR r with Gone := r.Gone, L := withoutL r.L s.data.toList }, 0)) := by
  have hpw := h.power
  rw [hd] at hpw
  have HP := Lib.hid hpw
  have HN : Hid (∀ w, Calls Tryz.prog 40 #[.string s] w fun e w' => e = .returned (.bool true) ∧ w = w') := fun w => by rw [← hk]; exact rname_calls s w hs
  have HF := Lib.hid hf
  have HK := Lib.hid hkf
  have HL := Lib.hid (isOff_left hd)
  have HT := Lib.hid ht
  clear h hd hpw hk hf hkf ht
  go_enter Tryz.func54, Tryz.ntmps54
  go_wp2_with fail
  refine HP.out.mono ?_
  rintro e w1 ⟨rfl, h1, st1⟩
  have ST1 := Lib.hid st1
  obtain ⟨la, lc, gv, h2⟩ := h1
  have H2 := Lib.hid h2
  obtain ⟨A, hA, _, hat⟩ := h2.rowL k f HK.out
  subst hA
  have b0 := h2.c0
  have c0 := hat.c0
  have c1 := hat.c1
  have c2 := hat.c2
  have c3 := hat.c3
  unfold fld at c1 c2 c3
  rw [HT.out] at c3
  have hcnt := h2.cnt
  have hkl : k < (powerR r).L.length := (List.getElem?_eq_some_iff.1 (show (powerR r).L[k]? = some f from HK.out)).1
  have hfc := rfind_calls w1 _ (some A) lc (powerR r).L s h2.rowL (by omega)
  rw [show findI (powerR r).L s.data.toList = k from HF.out] at hfc
  have HFC := Lib.hid hfc
  have HBL := Lib.hid ((Below.refl w1.heap.size w1).alloc (Nat.le_refl _) (.cells #[.string f.name, .slice f.da f.data.length f.dc, .int .i64 f.done, .bool false] 87))
  have d0 := (HBL.out.cell (p := ⟨rb, 0, none⟩) (World.block_lt_of_cell? _ _ b0)).trans b0
  have HW := Lib.hid (rwithout_calls _ (both d o) (some A) lc (powerR r).L s (h2.rowL.below HBL.out) (by omega) (fun b hb => both_none.2 (h2.old b (Nat.le_trans HBL.out.size hb))))
  clear h2 hfc hat st1
  go_wp2_with fail
  refine (HN.out w1).mono ?_
  rintro e w2 ⟨rfl, rfl⟩
  go_wp2_with fail
  refine HFC.out.mono ?_
  rintro e w2 ⟨rfl, rfl⟩
  go_wp2_with fail
  refine HW.out.mono ?_
  rintro e w3 ⟨a3, c3', rfl, hr3, hb3⟩
  have hb13 := HBL.out.trans (hb3.mono HBL.out.size)
  obtain ⟨h4, st4⟩ := H2.out.setL (n' := n) hb13 (lc' := c3') hr3 (by have := withoutL_len (powerR r).L s.data.toList; omega)
  have e0 := (hb13.cell (p := ⟨rb, 0, none⟩) (World.block_lt_of_cell? _ _ b0)).trans b0
  have f0 : w3.frozen? ⟨rb, 0, none⟩ = false := frozen_of_blk ((hb13.block rb (H2.out.lt (by simp [H2.out.orb]))).trans H2.out.blk)
  have hdid := RD.did (w := w3.setCell ⟨rb, 0, none⟩ (.slice a3 (withoutL (powerR r).L s.data.toList).length c3')) ⟨_, _, _, h4⟩ (by show r.acts ≤ _; omega) (fun e => by have h5 := HL.out e; have h6 := H2.out.rleft; show 0 < (powerR r).left; omega)
  have HD := Lib.hid hdid
  have ST4 := Lib.hid st4
  clear hr3 hb3 hb13 h4 st4 hdid d0 b0 c0 c1 c2 c3
  go_wp2_with fail
  refine HD.out.mono ?_
  rintro e w5 ⟨rfl, h5, st5⟩
  have H5 := Lib.hid h5
  clear h5
  go_wp2_with fail
  go_ret
  exact ⟨rfl, o, H5.out, (ST1.out.trans ST4.out).trans st5⟩
end

end Go.Proofs.YtdpbnacabinlgaaGreatDoor
namespace Go.Proofs.YtdpbnacabinlgaaGreatDoor
open Go.RowKit Go.Lib Go.Maps Go.ChangeMaps Go.Sort

/-- The builtin append of a file, as a step of a region that draws its order. -/
theorem step_append_rf {w : World} {ops : Array Oper} {o : Oper} {a : Act} {K : Act → World → Prop} {Q : Exit → Act → World → Prop} {E : Prop} (hgd : o.guard = none) (s x : Operand)
    (ho : o.op = .call { callee := .builtin .append, args := #[s, x], argTypes := #[82, 82] })
    {v : Value} {l : Nat} {xs : List Value} (hown : w.ownsRow 0 87 4 v l xs) (f : RF) (A : Addr) (hA : ∀ j u, f.cells[j]? = some u → w.cell? (A.add j) = some u) (h63 : l ≤ 1000000)
    (hs : a.eval s = v) (hx : a.eval x = .slice (some A) 1 1)
    (h : ∀ a' c' w', w'.ownsRow 0 87 4 (.slice a' (l + 1) c') (l + 1) (xs ++ f.cells) → w.grownBy w' v.ownBlock → ((Value.slice a' (l + 1) c').ownBlock = v.ownBlock ∨ (Value.slice a' (l + 1) c').ownBlock = some w.heap.size) → K (a.put o.dst (.slice a' (l + 1) c')) w') :
    if Region.wanted o (yielded ops a.tmps) = true then Oper.wp Tryz.prog o a w K Q else E := by
  have hw : Region.wanted o (yielded ops a.tmps) = true := by simp [Region.wanted, hgd]
  rw [if_pos hw]
  obtain ⟨i0, hi, hz0, hz1, hz2⟩ := info_parts infoRF
  obtain ⟨v', w', hr, h2, h3, _, h5⟩ := run_append_own_at (P := Tryz.prog) w 0 82 o.type 87 i0 (.agg #[.string .empty, .slice none 0 0, .int .i64 0, .bool false]) 4 56 Tryz.underlying82 hi hz0 hz1 hz2 rfl (by decide) v l xs hown A 1 1 f.cells rfl hA (rf_oneCell f) (by unfold maxLen; omega) (by omega) (Nat.zero_le _)
  obtain ⟨a', c', rfl⟩ := row_slice h2
  unfold Oper.wp execOp
  simp only [ho, resolve, invoke, builtin, Sem.run_bind, Sem.run_pure, Result.andThen_ok, List.map_toArray, List.map_cons, List.map_nil, hs, hx, hr]
  exact h a' c' w' h2 h3 h5

section
variable {w w' : World} {d o : Owner} {rb n lc : Nat} {la : Option Addr} {gv : Value} {r : RDm}

theorem RDev.gone_store (h : RDev w d o rb la lc gv n r) {f : RF} {w2 w3 : World} {a' : Option Addr} {c' : Nat} (hB : Below w.heap.size w w2) (hgrow : w2.grownBy w3 gv.ownBlock) (hown : w3.ownsRow 0 87 4 (.slice a' (r.Gone.length + 1) c') (r.Gone.length + 1) (rfCells r.Gone ++ f.cells))
    (hob : (Value.slice a' (r.Gone.length + 1) c').ownBlock = gv.ownBlock ∨ (Value.slice a' (r.Gone.length + 1) c').ownBlock = some w2.heap.size) (hg : FGood w (both d o) f) :
    w3.cell? ⟨rb, 1, none⟩ = some gv ∧ w3.frozen? ⟨rb, 1, none⟩ = false ∧ ∃ o', RDev (w3.setCell ⟨rb, 1, none⟩ (.slice a' (r.Gone.length + 1) c')) d o' rb la lc (.slice a' (r.Gone.length + 1) c') (n + 1) { r with Gone := r.Gone ++ [f] } ∧ RStep o o' w (w3.setCell ⟨rb, 1, none⟩ (.slice a' (r.Gone.length + 1) c')) := by
  have hrb : rb < w.heap.size := h.lt (by simp [h.orb])
  have hgb : gv.ownBlock ≠ some rb := fun e => by have := h.og rb e; rw [h.orb] at this; simp at this
  have hW : Fr (fun b => gv.ownBlock = some b) w w3 := (((Fr.of_below hB : Fr (fun b => gv.ownBlock = some b) w w2))).grown hgrow (fun k e _ => e)
  have hblk := (hW.block rb hrb hgb).trans h.blk
  refine ⟨cell_of_blk hblk rfl, frozen_of_blk hblk, ?_⟩
  have hlen : (r.Gone ++ [f]).length = r.Gone.length + 1 := by simp
  have hcnt := h.cnt
  rw [← hlen] at hown hob ⊢
  refine h.setG hW (by rw [rfCells_append, rfCells_one]; exact hown) (fun g hg' => ?_) (fun x hx => ?_) (by rw [hlen]; omega)
  · rcases hob with e | e
    · exact Or.inl (by rw [← e]; exact hg')
    · rw [e] at hg'
      injection hg' with hg'
      refine Or.inr ⟨by have := hB.size; omega, ?_⟩
      rcases hown.2 with ⟨e2, _⟩ | ⟨g2, cap, cur, e2, _, hh, _⟩
      · rw [e2] at e
        simp [Value.ownBlock] at e
      · rw [e2] at e
        simp only [Value.ownBlock, Option.some.injEq] at e
        rw [← hg', ← e]
        exact (Array.getElem?_eq_some_iff.1 hh).1
  · rcases List.mem_append.1 hx with hx | hx
    · exact h.good x hx
    · simp at hx
      subst hx
      exact hg

set_option maxHeartbeats 2000000 in
set_option maxRecDepth 100000 in
theorem RD.remove_gone (h : RD w d o rb n r) (hn : n ≤ 1000000) (hac : r.acts ≤ 1000000000000) (hd : isOff r = false) {s : ByteArray} (hs : s.size ≤ maxLen) (hk : nameOk s.data.toList = true) {k : Nat} {f : RF} (hf : findI r.L s.data.toList = k) (hkf : r.L[k]? = some f) (ht : f.there = true) :
    Calls Tryz.prog 54 #[.pointer (some ⟨rb, 0, none⟩), .string s] w (RPost w d o rb (n + 1) (didR { powerR r with Gone := r.Gone ++ [f], L := withoutL r.L s.data.toList }, 0)) := by
  have hpw := h.power
  rw [hd] at hpw
  have HP := Lib.hid hpw
  have HN : Hid (∀ w, Calls Tryz.prog 40 #[.string s] w fun e w' => e = .returned (.bool true) ∧ w = w') := fun w => by rw [← hk]; exact rname_calls s w hs
  have HF := Lib.hid hf
  have HK := Lib.hid hkf
  have HL := Lib.hid (isOff_left hd)
  have HT := Lib.hid ht
  clear h hd hpw hk hf hkf ht
  go_enter Tryz.func54, Tryz.ntmps54
  go_wp2_with fail
  refine HP.out.mono ?_
  rintro e w1 ⟨rfl, h1, st1⟩
  have ST1 := Lib.hid st1
  obtain ⟨la, lc, gv, h2⟩ := h1
  have H2 := Lib.hid h2
  obtain ⟨A, hA, _, hat⟩ := h2.rowL k f HK.out
  subst hA
  have b0 := h2.c0
  have b1 := h2.c1
  have c0 := hat.c0
  have c1 := hat.c1
  have c2 := hat.c2
  have c3 := hat.c3
  unfold fld at c1 c2 c3
  rw [HT.out] at c3
  have hcnt := h2.cnt
  have hkl : k < (powerR r).L.length := (List.getElem?_eq_some_iff.1 (show (powerR r).L[k]? = some f from HK.out)).1
  have hfc := rfind_calls w1 _ (some A) lc (powerR r).L s h2.rowL (by omega)
  rw [show findI (powerR r).L s.data.toList = k from HF.out] at hfc
  have HFC := Lib.hid hfc
  have HBL := Lib.hid ((Below.refl w1.heap.size w1).alloc (Nat.le_refl _) (.cells #[.string f.name, .slice f.da f.data.length f.dc, .int .i64 f.done, .bool true] 87))
  have d0 := (HBL.out.cell (p := ⟨rb, 0, none⟩) (World.block_lt_of_cell? _ _ b0)).trans b0
  have hgl : r.Gone.length ≤ 1000000 := by have : (powerR r).Gone.length = r.Gone.length := rfl; omega
  have HBD : Hid (Below w1.heap.size w1 ((w1.alloc (.cells #[.string f.name, .slice f.da f.data.length f.dc, .int .i64 f.done, .bool true] 87)).drew)) := (HBL.out.drew)
  have HBE := Lib.hid (HBD.out.alloc HBD.out.size (.cells #[.string f.name, .slice f.da f.data.length f.dc, .int .i64 f.done, .bool true] 87))
  have d1 := (HBD.out.cell (p := ⟨rb, 1, none⟩) (World.block_lt_of_cell? _ _ b1)).trans b1
  have d2 := (HBE.out.cell (p := ⟨rb, 1, none⟩) (World.block_lt_of_cell? _ _ b1)).trans b1
  have d3 : ((w1.alloc (.cells #[.string f.name, .slice f.da f.data.length f.dc, .int .i64 f.done, .bool true] 87)).alloc (.cells #[.string f.name, .slice f.da f.data.length f.dc, .int .i64 f.done, .bool true] 87)).cell? ⟨rb, 1, none⟩ = some gv := d2
  have HG : Hid ((((w1.alloc (.cells #[.string f.name, .slice f.da f.data.length f.dc, .int .i64 f.done, .bool true] 87)).drew).alloc (.cells #[.string f.name, .slice f.da f.data.length f.dc, .int .i64 f.done, .bool true] 87)).ownsRow 0 87 4 gv r.Gone.length (rfCells r.Gone)) := ownsRow_of_block h2.rowG (fun g hg => HBE.out.block g (h2.lt (by simp [h2.og g hg])))
  have hA : ∀ j u, f.cells[j]? = some u → (((w1.alloc (.cells #[.string f.name, .slice f.da f.data.length f.dc, .int .i64 f.done, .bool true] 87)).drew).alloc (.cells #[.string f.name, .slice f.da f.data.length f.dc, .int .i64 f.done, .bool true] 87)).cell? ((⟨w1.heap.size + 1, 0, none⟩ : Addr).add j) = some u := by
    have h3 := rf_new ((w1.alloc (.cells #[.string f.name, .slice f.da f.data.length f.dc, .int .i64 f.done, .bool true] 87)).drew) f
    rw [HT.out] at h3
    intro j u hu
    have h4 := h3 j u hu
    simpa using h4
  have HA := Lib.hid hA
  have HFG := Lib.hid hat.good
  clear h2 hfc hat st1 hA
  go_wp2_with fail
  refine (HN.out w1).mono ?_
  rintro e w2 ⟨rfl, rfl⟩
  go_wp2_with fail
  refine HFC.out.mono ?_
  rintro e w2 ⟨rfl, rfl⟩
  go_wp2_with fail
  go_region_law (refine step_append_rf rfl (.tmp 36) (.tmp 38) rfl HG.out f ⟨w1.heap.size + 1, 0, none⟩ HA.out (by omega) (by simp [Act.eval]) (by simp [Act.eval]) ?_; intro a2 c2' w2 hown2 hgrow2 hob2; obtain ⟨g1, g2, o2, h3, st3⟩ := H2.out.gone_store HBE.out hgrow2 hown2 hob2 HFG.out; have H3 := Lib.hid h3; have ST3 := Lib.hid st3; clear h3 st3 hown2 hgrow2 hob2)
  all_goals
    obtain ⟨W3, hW3⟩ : ∃ W3, W3 = w2.setCell ⟨rb, 1, none⟩ (.slice a2 (r.Gone.length + 1) c2') := ⟨_, rfl⟩
    rw [← hW3]
    have H4 : Hid (RDev W3 d o2 rb (some A) lc (.slice a2 (r.Gone.length + 1) c2') (n + 1) { powerR r with Gone := r.Gone ++ [f] }) := by rw [hW3]; exact H3
    have ST4 : Hid (RStep o o2 w1 W3) := by rw [hW3]; exact ST3
    clear H3 ST3 hW3 g1 g2 b0 b1 c0 c1 c2 c3 d1 d2 d3
    have b0 : W3.cell? ⟨rb, 0, none⟩ = some (.slice (some A) (powerR r).L.length lc) := H4.out.c0
    have HW := Lib.hid (rwithout_calls W3 (both d o2) (some A) lc (powerR r).L s H4.out.rowL (by omega) (fun b hb => both_none.2 (H4.out.old b hb)))
    go_wp2_with fail
    refine HW.out.mono ?_
    rintro e w3 ⟨a3, c3', rfl, hr3, hb3⟩
    obtain ⟨h4, st4⟩ := H4.out.setL (n' := n + 1) hb3 (lc' := c3') hr3 (by have := withoutL_len (powerR r).L s.data.toList; have := H4.out.cnt; dsimp only at this ⊢; omega)
    have e0 := (hb3.cell (p := ⟨rb, 0, none⟩) (World.block_lt_of_cell? _ _ b0)).trans b0
    have f0 : w3.frozen? ⟨rb, 0, none⟩ = false := frozen_of_blk ((hb3.block rb (H4.out.lt (by simp [H4.out.orb]))).trans H4.out.blk)
    have hdid := RD.did (w := w3.setCell ⟨rb, 0, none⟩ (.slice a3 (withoutL (powerR r).L s.data.toList).length c3')) ⟨_, _, _, h4⟩ (by show r.acts ≤ _; omega) (fun e => by have h5 := HL.out e; have h6 := H2.out.rleft; show 0 < (powerR r).left; omega)
    have HD := Lib.hid hdid
    have ST5 := Lib.hid st4
    clear hr3 hb3 h4 st4 hdid b0
    go_wp2_with fail
    refine HD.out.mono ?_
    rintro e w5 ⟨rfl, h5, st5⟩
    have H5 := Lib.hid h5
    clear h5
    go_wp2_with fail
    go_ret
    exact ⟨rfl, o2, H5.out, ((ST1.out.trans ST4.out).trans ST5.out).trans st5⟩

theorem RD.remove (h : RD w d o rb n r) (hn : n ≤ 1000000) (hac : r.acts ≤ 1000000000000) {s : ByteArray} (hs : s.size ≤ maxLen) :
    Calls Tryz.prog 54 #[.pointer (some ⟨rb, 0, none⟩), .string s] w (RPost w d o rb (n + 1) (removeR r s.data.toList)) := by
  have up : ∀ {x : RDm × Int} {e : Ending} {w' : World}, RPost w d o rb n x e w' → RPost w d o rb (n + 1) x e w' := fun ⟨h1, o', h2, h3⟩ => ⟨h1, o', h2.mono (Nat.le_succ _), h3⟩
  unfold removeR
  cases hd : isOff r with
  | true =>
    rw [if_pos rfl]
    exact (h.remove_off hd s).mono fun _ _ => up
  | false =>
    rw [if_neg (by simp)]
    cases hk : nameOk s.data.toList with
    | false =>
      rw [if_pos rfl]
      exact (h.remove_bad hd hs hk).mono fun _ _ => up
    | true =>
      rw [if_neg (by simp)]
      rcases findI_cases r.L s.data.toList with ⟨hf, hfi⟩ | ⟨k, f, hf, hkf, _, hfi⟩
      · rw [hfi]
        exact (h.remove_none hn hd hs hk hf).mono fun _ _ => up
      · rw [hfi]
        dsimp only
        cases ht : f.there with
        | false =>
          rw [if_neg (by simp)]
          exact (h.remove_keep hn hac hd hs hk hf hkf ht).mono fun _ _ => up
        | true =>
          rw [if_pos rfl]
          exact h.remove_gone hn hac hd hs hk hf hkf ht
end

end Go.Proofs.YtdpbnacabinlgaaGreatDoor
namespace Go.Proofs.YtdpbnacabinlgaaGreatDoor
open Go.RowKit Go.Lib Go.Maps Go.ChangeMaps Go.Sort

/-- A file behind a Sync. -/
def syncF (f : RF) : RF := { f with done := f.data.length, there := true }
theorem FGood.sync {w : World} {own : Owner} {f : RF} (h : FGood w own f) : FGood w own (syncF f) := ⟨h.hname, h.hb, h.hcap, h.hl, Nat.le_refl _⟩

theorem syncL_take {fs : List RF} {k : Nat} {f : RF} (h : fs[k]? = some f) : (fs.take (k + 1)).map syncF = (fs.take k).map syncF ++ [syncF f] := by
  rw [List.take_add_one, h]
  simp

/-- What Sync answers, and what the device is then. -/
def syncR (r : RDm) : RDm × Int :=
  if isOff r then (powerR r, 13) else (didR { powerR r with L := r.L.map syncF, Gone := [] }, 0)

section
variable {w w' : World} {d o : Owner} {rb n lc : Nat} {la : Option Addr} {gv : Value} {r : RDm}

set_option maxHeartbeats 2000000 in
set_option maxRecDepth 100000 in
theorem RD.sync_off (h : RD w d o rb n r) (hd : isOff r = true) :
    Calls Tryz.prog 55 #[.pointer (some ⟨rb, 0, none⟩)] w (RPost w d o rb n (powerR r, 13)) := by
  have hpw := h.power
  rw [hd] at hpw
  have HP := Lib.hid hpw
  clear h hd hpw
  go_enter Tryz.func55, Tryz.ntmps55
  go_wp2_with fail
  refine HP.out.mono ?_
  rintro e w1 ⟨rfl, h1, st1⟩
  have H1 := Lib.hid h1
  clear h1
  go_wp2_with fail
  go_ret
  exact ⟨rfl, o, H1.out, st1⟩

set_option maxHeartbeats 4000000 in
set_option maxRecDepth 100000 in
theorem RD.sync_on (h : RD w d o rb n r) (hn : n ≤ 1000000) (hac : r.acts ≤ 1000000000000) (hd : isOff r = false) :
    Calls Tryz.prog 55 #[.pointer (some ⟨rb, 0, none⟩)] w (RPost w d o rb n (didR { powerR r with L := r.L.map syncF, Gone := [] }, 0)) := by
  obtain ⟨i0, hi, hz0, hz1, hz2⟩ := info_parts infoRF
  have hpw := h.power
  rw [hd] at hpw
  have HP := Lib.hid hpw
  have HL := Lib.hid (isOff_left hd)
  clear h hd hpw
  go_enter Tryz.func55, Tryz.ntmps55
  go_wp2_with fail
  refine HP.out.mono ?_
  rintro e w1 ⟨rfl, h1, st1⟩
  have ST1 := Lib.hid st1
  obtain ⟨la, lc, gv, h2⟩ := h1
  have H2 := Lib.hid h2
  have H : Hid (FRow w1 (both d o) la r.L) := h2.rowL
  have hcnt : r.L.length + r.Gone.length ≤ n := h2.cnt
  have b0 : w1.cell? ⟨rb, 0, none⟩ = some (.slice la r.L.length lc) := h2.c0
  obtain ⟨l, hll⟩ : ∃ l, r.L.length = l := ⟨_, rfl⟩
  rw [hll] at hcnt b0
  have Hl := Lib.hid hll
  have B0 := Lib.hid b0
  clear h2 hll st1 b0
  go_wp2_with fail
  go_loopw [4, 5] (fun v i wr => ∃ k : Nat, k ≤ l ∧ i = .int .i64 k ∧ Hid (wr.ownsRow w1.heap.size 87 4 v ((r.L.take k).map syncF).length (rfCells ((r.L.take k).map syncF))) ∧ Hid (Below w1.heap.size w1 wr)) (fun _ i _ => l - (intOf i).toNat)
  case atStart => exact ⟨0, Nat.zero_le _, rfl, World.ownsRow_nil _ _ _ _, Below.refl _ _⟩
  case round =>
    obtain ⟨k, hk, rfl, Hown, Hb⟩ := hrel
    have b0 := (Hb.out.cell (p := ⟨rb, 0, none⟩) (World.block_lt_of_cell? _ _ B0.out)).trans B0.out
    by_cases hlt : k < l
    · obtain ⟨f, hf⟩ : ∃ f, r.L[k]? = some f := ⟨_, List.getElem?_eq_getElem (by rw [Hl.out]; exact hlt)⟩
      obtain ⟨A, rfl, _, hat⟩ := (H.out.below Hb.out) k f hf
      have Hw := Lib.hid (syncL_take hf)
      have c0 := hat.c0
      have c1 := hat.c1
      have c2 := hat.c2
      have c3 := hat.c3
      unfold fld at c1 c2 c3
      have hcnt2 : ((r.L.take k).map syncF).length + 1 ≤ 1000001 := by
        rw [List.length_map]
        have h2 := List.length_take_le k r.L
        omega
      have HO2 := Lib.hid ((Hown.out.alloc (.cells #[.string f.name, .slice f.da f.data.length f.dc, .int .i64 f.data.length, .bool true] 87)).alloc (.cells #[.string f.name, .slice f.da f.data.length f.dc, .int .i64 f.data.length, .bool true] 87))
      have HB1 := Lib.hid (Hb.out.alloc Hb.out.size (.cells #[.string f.name, .slice f.da f.data.length f.dc, .int .i64 f.data.length, .bool true] 87))
      have HB2 := Lib.hid (HB1.out.alloc HB1.out.size (.cells #[.string f.name, .slice f.da f.data.length f.dc, .int .i64 f.data.length, .bool true] 87))
      have hA : ∀ j u, (syncF f).cells[j]? = some u → ((wr.alloc (.cells #[.string f.name, .slice f.da f.data.length f.dc, .int .i64 f.data.length, .bool true] 87)).alloc (.cells #[.string f.name, .slice f.da f.data.length f.dc, .int .i64 f.data.length, .bool true] 87)).cell? ((⟨wr.heap.size + 1, 0, none⟩ : Addr).add j) = some u := by
        intro j u hu
        have h4 := rf_new (wr.alloc (.cells #[.string f.name, .slice f.da f.data.length f.dc, .int .i64 f.data.length, .bool true] 87)) (syncF f) j u hu
        simpa [syncF] using h4
      have HA := Lib.hid hA
      clear hf hat hA
      go_wp2_with (first
        | (at_builtin; refine wpList_append_own _ rfl (.tmp 32) (.tmp 34) 82 rfl w1.heap.size 87 i0 (.agg #[.string .empty, .slice none 0 0, .int .i64 0, .bool false]) 4 56 Tryz.underlying82 hi hz0 hz1 hz2 rfl (by decide) _ _ _ rfl HO2.out ⟨wr.heap.size + 1, 0, none⟩ 1 1 (syncF f).cells rfl rfl HA.out (rf_oneCell _) (by unfold maxLen; omega) (by omega) HB2.out.size ?_; intro v3 w3 hown3 hgrow3 hnil3))
      have HB3 := Lib.hid (HB2.out.grown hgrow3 HB2.out.size (fun q hq => (HO2.out.lt q hq).1))
      have HO4 : Hid (w3.ownsRow w1.heap.size 87 4 v3 ((r.L.take (k + 1)).map syncF).length (rfCells ((r.L.take (k + 1)).map syncF))) := by
        rw [Hw.out, List.length_append, rfCells_append, rfCells_one]
        exact hown3
      clear hown3 hgrow3 hnil3
      go_wp2_with fail
      go_roundw
      case rel => exact ⟨k + 1, by omega, by go_num, HO4, HB3⟩
      case measure => simp [intOf]; omega
    · have hfin : r.L.take k = r.L := by rw [show k = l by omega, ← Hl.out]; exact List.take_length
      have h1 := Hown.out
      rw [hfin] at h1
      have hgood := (H.out.below Hb.out).good
      obtain ⟨a1, c1, hv, hrow, _⟩ := FRow.of_owns (own := both d o) h1 (fun b hb => both_none.2 (H2.out.old b hb)) (fun f hf => by
        obtain ⟨g, hg, rfl⟩ := List.mem_map.1 hf
        exact (hgood g hg).sync)
      subst hv
      obtain ⟨h4, st4⟩ := H2.out.setL (n' := n) Hb.out (lc' := c1) hrow (by rw [List.length_map]; exact H2.out.cnt)
      obtain ⟨o2, h5, st5⟩ := h4.setG (n' := n) (a' := none) (c' := 0) (G' := []) (Fr.refl _ _) (World.ownsRow_nil _ _ _ _) (fun g hg => by simp [Value.ownBlock] at hg) (fun f hf => by simp at hf) (by have h9 := H2.out.cnt; show (r.L.map syncF).length + 0 ≤ n; rw [List.length_map]; have h10 : (powerR r).L.length = r.L.length := rfl; omega)
      have hblk := (Hb.out.block rb (H2.out.lt (by simp [H2.out.orb]))).trans H2.out.blk
      have b1 : wr.cell? ⟨rb, 1, none⟩ = some gv := cell_of_blk hblk rfl
      have f0 : wr.frozen? ⟨rb, 0, none⟩ = false := frozen_of_blk hblk
      have f1 : wr.frozen? ⟨rb, 1, none⟩ = false := frozen_of_blk hblk
      have hdid := RD.did (w := (wr.setCell ⟨rb, 0, none⟩ (.slice a1 (r.L.map syncF).length c1)).setCell ⟨rb, 1, none⟩ (.slice none 0 0)) ⟨_, _, _, h5⟩ (by show r.acts ≤ _; omega) (fun e => by have h5 := HL.out e; have h6 := H2.out.rleft; show 0 < (powerR r).left; omega)
      have st6 : RStep o o2 w1 ((wr.setCell ⟨rb, 0, none⟩ (.slice a1 (r.L.map syncF).length c1)).setCell ⟨rb, 1, none⟩ (.slice none 0 0)) := st4.trans st5
      rw [List.length_map] at hdid st6
      have HD := Lib.hid hdid
      have ST5 := Lib.hid st6
      clear h1 hgood hrow hfin h4 st4 h5 st5 hblk hdid st6
      go_wp2_with fail
      refine HD.out.mono ?_
      rintro e w5 ⟨rfl, h5, st5⟩
      have H5 := Lib.hid h5
      clear h5
      go_wp2_with fail
      go_ret
      exact ⟨rfl, o2, H5.out, (ST1.out.trans ST5.out).trans st5⟩

theorem RD.sync (h : RD w d o rb n r) (hn : n ≤ 1000000) (hac : r.acts ≤ 1000000000000) :
    Calls Tryz.prog 55 #[.pointer (some ⟨rb, 0, none⟩)] w (RPost w d o rb n (syncR r)) := by
  unfold syncR
  cases hd : isOff r with
  | true =>
    rw [if_pos rfl]
    exact h.sync_off hd
  | false =>
    rw [if_neg (by simp)]
    exact h.sync_on hn hac hd
end

end Go.Proofs.YtdpbnacabinlgaaGreatDoor
namespace Go.Proofs.YtdpbnacabinlgaaGreatDoor
open Go.RowKit Go.Lib Go.Maps Go.ChangeMaps Go.Sort

theorem usedL_le {w : World} {own : Owner} {a : Option Addr} {fs : List RF} (h : FRow w own a fs) : usedL fs ≤ fs.length * 262144 := by
  have hg := h.good
  clear h
  induction fs with
  | nil => simp [usedL]
  | cons f fs ih =>
    have h1 := (hg f (by simp)).hl
    have h2 := ih (fun g hg' => hg g (by simp [hg']))
    simp only [usedL, List.map_cons, List.sum_cons, List.length_cons, Nat.add_mul] at h2 ⊢
    omega

section
variable {w w' : World} {d o : Owner} {rb n lc : Nat} {la : Option Addr} {gv : Value} {r : RDm}

set_option maxHeartbeats 2000000 in
set_option maxRecDepth 100000 in
theorem RD.append_off (h : RD w d o rb n r) (hd : isOff r = true) (s : ByteArray) (bv : Value) :
    Calls Tryz.prog 68 #[.pointer (some ⟨rb, 0, none⟩), .string s, bv] w (RPost w d o rb n (powerR r, 13)) := by
  have hpw := h.power
  rw [hd] at hpw
  have HP := Lib.hid hpw
  clear h hd hpw
  go_enter Tryz.func68, Tryz.ntmps68
  go_wp2_with fail
  refine HP.out.mono ?_
  rintro e w1 ⟨rfl, h1, st1⟩
  have H1 := Lib.hid h1
  clear h1
  go_wp2_with fail
  go_ret
  exact ⟨rfl, o, H1.out, st1⟩

set_option maxHeartbeats 2000000 in
set_option maxRecDepth 100000 in
theorem RD.append_bad (h : RD w d o rb n r) (hd : isOff r = false) {s : ByteArray} (hs : s.size ≤ maxLen) (hk : nameOk s.data.toList = false) (bv : Value) :
    Calls Tryz.prog 68 #[.pointer (some ⟨rb, 0, none⟩), .string s, bv] w (RPost w d o rb n (powerR r, 1)) := by
  have hpw := h.power
  rw [hd] at hpw
  have HP := Lib.hid hpw
  have HN : Hid (∀ w, Calls Tryz.prog 40 #[.string s] w fun e w' => e = .returned (.bool false) ∧ w = w') := fun w => by rw [← hk]; exact rname_calls s w hs
  clear h hd hpw hk
  go_enter Tryz.func68, Tryz.ntmps68
  go_wp2_with fail
  refine HP.out.mono ?_
  rintro e w1 ⟨rfl, h1, st1⟩
  have H1 := Lib.hid h1
  clear h1
  go_wp2_with fail
  refine (HN.out w1).mono ?_
  rintro e w2 ⟨rfl, rfl⟩
  go_wp2_with fail
  go_ret
  exact ⟨rfl, o, H1.out, st1⟩

set_option maxHeartbeats 4000000 in
set_option maxRecDepth 100000 in
theorem RD.append_many (h : RD w d o rb n r) (hn : n ≤ 1000000) (hd : isOff r = false) {s : ByteArray} (hs : s.size ≤ maxLen) (hk : nameOk s.data.toList = true) {k : Nat} {f : RF} (hf : findI r.L s.data.toList = k) (hkf : r.L[k]? = some f) (ba : Option Addr) (bc : Nat) {bl : Nat} (hbl : bl ≤ 1000000000000) (hm : 262144 < f.data.length + bl) :
    Calls Tryz.prog 68 #[.pointer (some ⟨rb, 0, none⟩), .string s, .slice ba bl bc] w (RPost w d o rb n (powerR r, 2)) := by
  have hpw := h.power
  rw [hd] at hpw
  have HP := Lib.hid hpw
  have HN : Hid (∀ w, Calls Tryz.prog 40 #[.string s] w fun e w' => e = .returned (.bool true) ∧ w = w') := fun w => by rw [← hk]; exact rname_calls s w hs
  have HF := Lib.hid hf
  have HK := Lib.hid hkf
  clear h hd hpw hk hf hkf
  go_enter Tryz.func68, Tryz.ntmps68
  go_wp2_with fail
  refine HP.out.mono ?_
  rintro e w1 ⟨rfl, h1, st1⟩
  have ST1 := Lib.hid st1
  have H1 := Lib.hid h1
  obtain ⟨la, lc, gv, h2⟩ := h1
  obtain ⟨A, hA, _, hat⟩ := h2.rowL k f HK.out
  subst hA
  have b0 : w1.cell? ⟨rb, 0, none⟩ = some (.slice (some A) r.L.length lc) := h2.c0
  have hcnt : r.L.length + r.Gone.length ≤ n := h2.cnt
  have hkl : k < r.L.length := (List.getElem?_eq_some_iff.1 HK.out).1
  have hfl := hat.hl
  have hd1 : decide ((262144 : Int) < ((f.data.length : Int) + (bl : Int))) = true := by simp; omega
  have d0 := (((Below.refl w1.heap.size w1).alloc (Nat.le_refl _) (.cells #[.string s, .slice none 0 0, .int .i64 0, .bool false] 87)).cell (p := ⟨rb, 0, none⟩) (World.block_lt_of_cell? _ _ b0)).trans b0
  have hat2 := (h2.rowL.below ((Below.refl w1.heap.size w1).alloc (Nat.le_refl _) (.cells #[.string s, .slice none 0 0, .int .i64 0, .bool false] 87))).at HK.out
  have c0 := hat2.c0
  have c1 := hat2.c1
  have c2 := hat2.c2
  have c3 := hat2.c3
  unfold fld at c1 c2 c3
  have hfc := rfind_calls w1 _ (some A) lc r.L s h2.rowL (by omega)
  rw [HF.out] at hfc
  have HFC := Lib.hid hfc
  clear h2 hfc hat hat2 st1
  go_wp2_with fail
  refine (HN.out w1).mono ?_
  rintro e w2 ⟨rfl, rfl⟩
  go_wp2_with fail
  refine HFC.out.mono ?_
  rintro e w2 ⟨rfl, rfl⟩
  go_wp2_with fail
  go_ret
  exact ⟨rfl, o, H1.out.below ((Below.refl _ _).alloc (Nat.le_refl _) _), ST1.out.trans (RStep.below ((Below.refl _ _).alloc (Nat.le_refl _) _))⟩
end

end Go.Proofs.YtdpbnacabinlgaaGreatDoor
namespace Go.Proofs.YtdpbnacabinlgaaGreatDoor
open Go.RowKit Go.Lib Go.Maps Go.ChangeMaps Go.Sort

section
variable {w w' : World} {d o : Owner} {rb n lc : Nat} {la : Option Addr} {gv : Value} {r : RDm}

set_option maxHeartbeats 4000000 in
set_option maxRecDepth 100000 in
theorem RD.append_full (h : RD w d o rb n r) (hn : n ≤ 1000000) (hd : isOff r = false) {s : ByteArray} (hs : s.size ≤ maxLen) (hk : nameOk s.data.toList = true) {k : Nat} {f : RF} (hf : findI r.L s.data.toList = k) (hkf : r.L[k]? = some f) (ba : Option Addr) (bc : Nat) {bl : Nat} (hbl : bl ≤ 1000000000000) (hm : f.data.length + bl ≤ 262144) (hu : r.room < (usedL r.L : Int) + (bl : Int)) :
    Calls Tryz.prog 68 #[.pointer (some ⟨rb, 0, none⟩), .string s, .slice ba bl bc] w (RPost w d o rb n (powerR r, 11)) := by
  have hpw := h.power
  rw [hd] at hpw
  have HP := Lib.hid hpw
  have HN : Hid (∀ w, Calls Tryz.prog 40 #[.string s] w fun e w' => e = .returned (.bool true) ∧ w = w') := fun w => by rw [← hk]; exact rname_calls s w hs
  have HF := Lib.hid hf
  have HK := Lib.hid hkf
  clear h hd hpw hk hf hkf
  go_enter Tryz.func68, Tryz.ntmps68
  go_wp2_with fail
  refine HP.out.mono ?_
  rintro e w1 ⟨rfl, h1, st1⟩
  have ST1 := Lib.hid st1
  have H1 := Lib.hid h1
  obtain ⟨la, lc, gv, h2⟩ := h1
  obtain ⟨A, hA, _, hat⟩ := h2.rowL k f HK.out
  subst hA
  have b0 : w1.cell? ⟨rb, 0, none⟩ = some (.slice (some A) r.L.length lc) := h2.c0
  have hcnt : r.L.length + r.Gone.length ≤ n := h2.cnt
  have hkl : k < r.L.length := (List.getElem?_eq_some_iff.1 HK.out).1
  have hfl := hat.hl
  have hd1 : decide ((262144 : Int) < ((f.data.length : Int) + (bl : Int))) = false := by simp; omega
  have hul := usedL_le h2.rowL
  have hul2 : usedL r.L ≤ 262144000000 := by show usedL (powerR r).L ≤ _; have h9 : (powerR r).L.length = r.L.length := rfl; omega
  have HU : Hid (∀ W, Below w1.heap.size w1 W → Calls Tryz.prog 58 #[.pointer (some ⟨rb, 0, none⟩)] W fun e w' => e = .returned (.int .i64 (usedL r.L : Nat)) ∧ w' = W) := fun W hW => (rused_calls W (both d o) rb (some A) lc r.L (h2.rowL.below hW) ((hW.cell (p := ⟨rb, 0, none⟩) (World.block_lt_of_cell? _ _ b0)).trans b0) (by omega)).mono fun _ _ ⟨h8, h9⟩ => ⟨h8, h9.symm⟩
  have HBL := Lib.hid ((Below.refl w1.heap.size w1).alloc (Nat.le_refl _) (.cells #[.string f.name, .slice f.da f.data.length f.dc, .int .i64 f.done, .bool f.there] 87))
  have b2 : w1.cell? ⟨rb, 2, none⟩ = some (.int .i64 r.room) := h2.c2
  have d2 := (HBL.out.cell (p := ⟨rb, 2, none⟩) (World.block_lt_of_cell? _ _ b2)).trans b2
  have hrr := h2.rroom
  obtain ⟨u, hue⟩ : ∃ u, usedL r.L = u := ⟨_, rfl⟩
  rw [hue] at hu HU hul2
  have hd2 : decide (r.room < (u : Int) + (bl : Int)) = true := by simpa using hu
  clear hul hue
  have d0 := (((Below.refl w1.heap.size w1).alloc (Nat.le_refl _) (.cells #[.string s, .slice none 0 0, .int .i64 0, .bool false] 87)).cell (p := ⟨rb, 0, none⟩) (World.block_lt_of_cell? _ _ b0)).trans b0
  have hat2 := (h2.rowL.below ((Below.refl w1.heap.size w1).alloc (Nat.le_refl _) (.cells #[.string s, .slice none 0 0, .int .i64 0, .bool false] 87))).at HK.out
  have c0 := hat2.c0
  have c1 := hat2.c1
  have c2 := hat2.c2
  have c3 := hat2.c3
  unfold fld at c1 c2 c3
  have hfc := rfind_calls w1 _ (some A) lc r.L s h2.rowL (by omega)
  rw [HF.out] at hfc
  have HFC := Lib.hid hfc
  clear h2 hfc hat hat2 st1
  go_wp2_with fail
  refine (HN.out w1).mono ?_
  rintro e w2 ⟨rfl, rfl⟩
  go_wp2_with fail
  refine HFC.out.mono ?_
  rintro e w2 ⟨rfl, rfl⟩
  go_wp2_with fail
  go_quiet ((go_at_call 58; refine Calls.quiet_of_same (HU.out _ (below_drewN HBL.out _))))
  go_wp2_with fail
  go_ret
  exact ⟨rfl, o, H1.out.below (below_drewN HBL.out _), ST1.out.trans (RStep.below (below_drewN HBL.out _))⟩
end

end Go.Proofs.YtdpbnacabinlgaaGreatDoor
namespace Go.Proofs.YtdpbnacabinlgaaGreatDoor
open Go.RowKit Go.Lib Go.Maps Go.ChangeMaps Go.Sort

/-- What Append leaves where it is done. -/
def AppPost (w : World) (d o : Owner) (rb n : Nat) (r : RDm) (f : RF) (data : List UInt8) (e : Ending) (w' : World) : Prop :=
  ∃ da dc, RPost w d o rb n (didR { powerR r with L := putL r.L ⟨f.name, da, dc, data, f.done, f.there⟩ }, 0) e w'

theorem BArg.of_row {w : World} {own : Owner} {B : Nat} {v : Value} {bs : List UInt8} (h : w.ownsRow B 5 1 v bs.length (byteCells bs)) (ho : ∀ b, B ≤ b → own b = none) : BArg w own v bs := by
  have hc := fun g hg => h.cells (g := g) hg
  rcases h.2 with ⟨rfl, h0⟩ | ⟨g, cap, cur, rfl, hB, _⟩
  · exact Or.inl ⟨rfl, List.eq_nil_of_length_eq_zero h0⟩
  · refine Or.inr ⟨_, cap, rfl, fun _ => ho g hB, fun j x hx => hc g rfl _ _ ?_⟩
    simp [byteCells, hx]

def cntP (p : List RF × Bool) : Nat := if p.2 then 1 else 0
theorem stepP_len2 (x : RF) (p : List RF × Bool) (f : RF) : (stepP x p f).1.length + cntP p ≤ p.1.length + 1 + cntP (stepP x p f) := by
  by_cases h : p.2 = true ∨ f.nm < x.nm
  · rw [stepP_keep h]
    split
    · omega
    · simp [cntP]
  · have h1 : p.2 = false := Bool.eq_false_iff.2 (fun e => h (Or.inl e))
    have h2 : ¬ f.nm < x.nm := fun e => h (Or.inr e)
    rw [stepP_ins h1 h2]
    split <;> simp [cntP, h1]
theorem putP_len2 (x : RF) : ∀ (fs : List RF) (p : List RF × Bool), (fs.foldl (stepP x) p).1.length + cntP p ≤ p.1.length + fs.length + cntP (fs.foldl (stepP x) p)
  | [], p => by simp
  | f :: fs, p => by
    have h1 := stepP_len2 x p f
    have h2 := putP_len2 x fs (stepP x p f)
    simp only [List.foldl_cons, List.length_cons]
    omega
theorem putL_len (fs : List RF) (x : RF) : (putL fs x).length ≤ fs.length + 1 := by
  have h := putP_len2 x fs ([], false)
  unfold putL
  show (if (putP x fs).2 = true then _ else _ : List RF).length ≤ _
  have h' : (putP x fs).1.length + 0 ≤ 0 + fs.length + cntP (putP x fs) := h
  split
  · rename_i h2
    simp only [cntP, h2, if_true] at h'
    omega
  · rename_i h2
    simp only [cntP, h2] at h'
    simp at h' ⊢
    omega

section
variable {w w' : World} {d o : Owner} {rb n lc : Nat} {la : Option Addr} {gv : Value} {r : RDm}

set_option maxHeartbeats 4000000 in
set_option maxRecDepth 100000 in
theorem RD.append_ok (h : RD w d o rb n r) (hn : n ≤ 1000000) (hd : isOff r = false) {s : ByteArray} (hs : s.size ≤ maxLen) (hk : nameOk s.data.toList = true) {k : Nat} {f : RF} (hf : findI r.L s.data.toList = k) (hkf : r.L[k]? = some f) (ba : Option Addr) (bc : Nat) {bl : Nat} (hbl : bl ≤ 1000000000000) (hm : f.data.length + bl ≤ 262144) (hu : ¬ r.room < (usedL r.L : Int) + (bl : Int)) (hac : r.acts ≤ 1000000000000) {bs : List UInt8} (hb : BArg w (both d o) (.slice ba bl bc) bs) (hbe : bs.length = bl) :
    Calls Tryz.prog 68 #[.pointer (some ⟨rb, 0, none⟩), .string s, .slice ba bl bc] w (AppPost w d o rb (n + 1) r f (f.data ++ bs)) := by
  have hpw := h.power
  rw [hd] at hpw
  have HP := Lib.hid hpw
  have HN : Hid (∀ w, Calls Tryz.prog 40 #[.string s] w fun e w' => e = .returned (.bool true) ∧ w = w') := fun w => by rw [← hk]; exact rname_calls s w hs
  have HF := Lib.hid hf
  have HBS := Lib.hid hb
  have Hbe := Lib.hid hbe
  have HL := Lib.hid (isOff_left hd)
  have HK := Lib.hid hkf
  clear h hd hpw hk hf hkf hb hbe
  go_enter Tryz.func68, Tryz.ntmps68
  go_wp2_with fail
  refine HP.out.mono ?_
  rintro e w1 ⟨rfl, h1, st1⟩
  have ST1 := Lib.hid st1
  have H1 := Lib.hid h1
  obtain ⟨la, lc, gv, h2⟩ := h1
  obtain ⟨A, hA, _, hat⟩ := h2.rowL k f HK.out
  subst hA
  have b0 : w1.cell? ⟨rb, 0, none⟩ = some (.slice (some A) r.L.length lc) := h2.c0
  have hcnt : r.L.length + r.Gone.length ≤ n := h2.cnt
  have hkl : k < r.L.length := (List.getElem?_eq_some_iff.1 HK.out).1
  have hfl := hat.hl
  have hd1 : decide ((262144 : Int) < ((f.data.length : Int) + (bl : Int))) = false := by simp; omega
  have hul := usedL_le h2.rowL
  have hul2 : usedL r.L ≤ 262144000000 := by show usedL (powerR r).L ≤ _; have h9 : (powerR r).L.length = r.L.length := rfl; omega
  have HU : Hid (∀ W, Below w1.heap.size w1 W → Calls Tryz.prog 58 #[.pointer (some ⟨rb, 0, none⟩)] W fun e w' => e = .returned (.int .i64 (usedL r.L : Nat)) ∧ w' = W) := fun W hW => (rused_calls W (both d o) rb (some A) lc r.L (h2.rowL.below hW) ((hW.cell (p := ⟨rb, 0, none⟩) (World.block_lt_of_cell? _ _ b0)).trans b0) (by omega)).mono fun _ _ ⟨h8, h9⟩ => ⟨h8, h9.symm⟩
  have HBL := Lib.hid ((Below.refl w1.heap.size w1).alloc (Nat.le_refl _) (.cells #[.string f.name, .slice f.da f.data.length f.dc, .int .i64 f.done, .bool f.there] 87))
  have b2 : w1.cell? ⟨rb, 2, none⟩ = some (.int .i64 r.room) := h2.c2
  have d2 := (HBL.out.cell (p := ⟨rb, 2, none⟩) (World.block_lt_of_cell? _ _ b2)).trans b2
  have hrr := h2.rroom
  obtain ⟨u, hue⟩ : ∃ u, usedL r.L = u := ⟨_, rfl⟩
  rw [hue] at hu HU hul2
  have hd2 : decide (r.room < (u : Int) + (bl : Int)) = false := by simpa using hu
  clear hul hue
  have d0 := (((Below.refl w1.heap.size w1).alloc (Nat.le_refl _) (.cells #[.string s, .slice none 0 0, .int .i64 0, .bool false] 87)).cell (p := ⟨rb, 0, none⟩) (World.block_lt_of_cell? _ _ b0)).trans b0
  have hat2 := (h2.rowL.below ((Below.refl w1.heap.size w1).alloc (Nat.le_refl _) (.cells #[.string s, .slice none 0 0, .int .i64 0, .bool false] 87))).at HK.out
  have c0 := hat2.c0
  have c1 := hat2.c1
  have c2 := hat2.c2
  have c3 := hat2.c3
  unfold fld at c1 c2 c3
  have hfc := rfind_calls w1 _ (some A) lc r.L s h2.rowL (by omega)
  rw [HF.out] at hfc
  have HFC := Lib.hid hfc
  have H2 := Lib.hid h2
  have HG := Lib.hid hat.good
  clear h2 hfc hat hat2 st1
  go_wp2_with fail
  refine (HN.out w1).mono ?_
  rintro e w2 ⟨rfl, rfl⟩
  go_wp2_with fail
  refine HFC.out.mono ?_
  rintro e w2 ⟨rfl, rfl⟩
  go_wp2_with fail
  go_quiet ((go_at_call 58; refine Calls.quiet_of_same (HU.out _ (below_drewN HBL.out _))))
  obtain ⟨w4, hw4⟩ : ∃ w4, w4 = (w1.alloc (.cells #[.string f.name, .slice f.da f.data.length f.dc, .int .i64 f.done, .bool f.there] 87)).drewN nq := ⟨_, rfl⟩
  rw [← hw4]
  have HB4 : Hid (Below w1.heap.size w1 w4) := by rw [hw4]; exact below_drewN HBL.out _
  have HX4 : Hid (w4.heap[w1.heap.size]? = some (.cells #[.string f.name, .slice f.da f.data.length f.dc, .int .i64 f.done, .bool f.there] 87 (0, 0))) := by rw [hw4]; exact heap_alloc_new w1 _
  have Hlt4 : Hid (w1.heap.size < w4.heap.size) := (Array.getElem?_eq_some_iff.1 HX4.out).1
  have HB5 := Lib.hid ((Below.refl w4.heap.size w4).alloc (Nat.le_refl _) (.cells #[] 5))
  have x1 : w4.cell? ⟨w1.heap.size, 1, none⟩ = some (.slice f.da f.data.length f.dc) := cell_of_blk HX4.out rfl
  have x2 := (HB5.out.cell (p := ⟨w1.heap.size, 1, none⟩) Hlt4.out).trans x1
  have HO5 := Lib.hid (hown_empty w4)
  have HBF := Lib.hid ((HG.out.hb.step (below_step (both d o) HB4.out)).step (below_step _ HB5.out))
  clear hw4 c0 c1 c2 c3 d0 d2 b2
  go_wp2_with (first
    | (at_builtin; refine wpList_append_bargB rfl (.tmp 63) (.tmp 65) rfl HBF.out HO5.out (by simp) (by omega) rfl rfl ?_; intro a6 c6 w6 hown6 hgrow6; have HB6 := Lib.hid (((Below.refl w4.heap.size w4).alloc (Nat.le_refl _) (.cells #[] 5)).grown hgrow6 (by simp) (fun k hk => by simp [Value.ownBlock] at hk; omega)); (rw [Nat.zero_add, List.nil_append] at hown6); have HO6 := Lib.hid hown6; have HBB := Lib.hid (((HBS.out.step (ST1.out.both d)).step (below_step _ HB4.out)).step (below_step _ HB6.out)); clear hown6 hgrow6 HBF HO5 x1 x2)
    | (at_builtin; refine wpList_append_bargB rfl (.tmp 66) (.tmp 67) rfl HBB.out HO6.out HB6.out.size (by rw [Hbe.out]; omega) rfl rfl ?_; intro a7 c7 w7 hown7 hgrow7; have HB7 := Lib.hid (HB6.out.grown hgrow7 HB6.out.size (fun q hq => (HO6.out.lt q hq).1)); have HO7 := Lib.hid hown7; have x3 : w7.cell? ⟨w1.heap.size, 1, none⟩ = some (.slice f.da f.data.length f.dc) := (HB7.out.cell (p := ⟨w1.heap.size, 1, none⟩) Hlt4.out).trans (cell_of_blk HX4.out rfl); have x4 : w7.frozen? ⟨w1.heap.size, 1, none⟩ = false := frozen_of_blk ((HB7.out.block _ Hlt4.out).trans HX4.out); clear hown7 hgrow7 HBB HO6 HB6))
  obtain ⟨W8, hW8⟩ : ∃ W8, W8 = w7.setCell ⟨w1.heap.size, 1, none⟩ (.slice a7 (f.data.length + bs.length) c7) := ⟨_, rfl⟩
  rw [← hW8]
  have hB7 : Below w1.heap.size w1 w7 := HB4.out.trans (HB7.out.mono (Nat.le_of_lt Hlt4.out))
  have HB8 : Hid (Below w1.heap.size w1 W8) := by
    rw [hW8]
    exact hB7.trans (((Fr.refl (fun b => b = w1.heap.size) w7).setCell _ _ (fun _ => rfl)).to_below hB7.size (fun k hk e => by omega))
  have hblk : W8.heap[w1.heap.size]? = some (.cells #[.string f.name, .slice a7 (f.data.length + bs.length) c7, .int .i64 f.done, .bool f.there] 87 (0, 0)) := by
    rw [hW8]
    exact setCell_blk ((HB7.out.block _ Hlt4.out).trans HX4.out) _
  have y0 : W8.cell? ⟨w1.heap.size, 0, none⟩ = some (.string f.name) := cell_of_blk hblk rfl
  have y1 : W8.cell? ⟨w1.heap.size, 1, none⟩ = some (.slice a7 (f.data.length + bs.length) c7) := cell_of_blk hblk rfl
  have y2 : W8.cell? ⟨w1.heap.size, 2, none⟩ = some (.int .i64 f.done) := cell_of_blk hblk rfl
  have y3 : W8.cell? ⟨w1.heap.size, 3, none⟩ = some (.bool f.there) := cell_of_blk hblk rfl
  have y4 := (HB8.out.cell (p := ⟨rb, 0, none⟩) (World.block_lt_of_cell? _ _ b0)).trans b0
  have hlen7 : (f.data ++ bs).length = f.data.length + bs.length := List.length_append
  have hrow8 : W8.ownsRow w4.heap.size 5 1 (.slice a7 (f.data ++ bs).length c7) (f.data ++ bs).length (byteCells (f.data ++ bs)) := by
    rw [hlen7, hW8, show byteCells (f.data ++ bs) = byteCells f.data ++ byteCells bs by simp [byteCells]]
    exact ownsRow_of_block HO7.out (fun g hg => Below.heap_setCell _ _ _ _ (fun e => by have h8 := (HO7.out.lt g hg).1; have h9 := Hlt4.out; dsimp only at e; omega))
  have hcap8 : (f.data ++ bs).length ≤ c7 := by
    rcases hrow8.2 with ⟨e, h0⟩ | ⟨g, cap, cur, e, _, _, h1, _⟩
    · rw [h0]; exact Nat.zero_le _
    · injection e with _ _ e
      rw [e]; exact h1
  obtain ⟨x, hx⟩ : ∃ x, x = (⟨f.name, a7, c7, f.data ++ bs, f.done, f.there⟩ : RF) := ⟨_, rfl⟩
  have hgx : FGood W8.drew (both d o) x := by
    rw [hx]
    have h8 : FGood W8 (both d o) ⟨f.name, a7, c7, f.data ++ bs, f.done, f.there⟩ := ⟨HG.out.hname, BArg.of_row hrow8 (fun b hb => both_none.2 (H2.out.old b (by have := Hlt4.out; omega))), hcap8, by show (f.data ++ bs).length ≤ _; rw [hlen7, Hbe.out]; exact hm, by have := HG.out.hdone; show f.done ≤ (f.data ++ bs).length; rw [hlen7]; omega⟩
    exact h8.step (below_step _ (Below.refl _ _).drew)
  have hput := rput_calls W8.drew (both d o) (some A) lc r.L x (H2.out.rowL.below HB8.out.drew) (by omega) hgx (fun b hb => both_none.2 (H2.out.old b (Nat.le_trans HB8.out.drew.size hb)))
  rw [show rfVal x = .agg #[.string f.name, .slice a7 (f.data.length + bs.length) c7, .int .i64 f.done, .bool f.there] by rw [hx]; simp [rfVal]] at hput
  have HPUT := Lib.hid hput
  have Hx := Lib.hid hx
  clear hput hgx hcap8 hrow8 hlen7 hblk hB7 hx x3 x4 HO7 hW8
  go_region_with (go_at_call 42; refine HPUT.out.mono ?_; rintro e w9 ⟨a9, c9, rfl, hr9, hb9⟩; have HB9 := Lib.hid (HB8.out.drew.trans (hb9.mono HB8.out.drew.size)); have z0 := (HB9.out.cell (p := ⟨rb, 0, none⟩) (World.block_lt_of_cell? _ _ b0)).trans b0; have z1 : w9.frozen? ⟨rb, 0, none⟩ = false := frozen_of_blk ((HB9.out.block rb (H2.out.lt (by simp [H2.out.orb]))).trans H2.out.blk); have HR9 := Lib.hid hr9; clear hr9 hb9)
  all_goals
    obtain ⟨h4, st4⟩ := H2.out.setL (n' := n + 1) HB9.out (lc' := c9) HR9.out (by have := putL_len r.L x; have h9 : (powerR r).Gone.length = r.Gone.length := rfl; omega)
    have hdid := RD.did (w := w9.setCell ⟨rb, 0, none⟩ (.slice a9 (putL r.L x).length c9)) ⟨_, _, _, h4⟩ (by show r.acts ≤ _; omega) (fun e => by have h5 := HL.out e; have h6 := H2.out.rleft; show 0 < (powerR r).left; omega)
    have HD := Lib.hid hdid
    have ST5 := Lib.hid st4
    clear h4 st4 hdid
    go_wp2_with fail
    refine HD.out.mono ?_
    rintro e w5 ⟨rfl, h5, st5⟩
    have H5 := Lib.hid h5
    clear h5
    go_wp2_with fail
    go_ret
    exact ⟨a7, c7, rfl, o, by rw [← Hx.out]; exact H5.out, (ST1.out.trans ST5.out).trans st5⟩
end

end Go.Proofs.YtdpbnacabinlgaaGreatDoor
