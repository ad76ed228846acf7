/- Frames, put and cut, in plain words: what is put is cut to the same records; torn ends; whatever stands behind. | Rows of texts: compared (Same), counted (great), framed (all). | Events: Put. | Values: digits, read. | Events: first; read's closures. -/
import Derived.Test.YtfmlgckfcclojaaM2
import Derived.Deep.RegionLaw
import Derived.Laws.AppendOwnNone
import Derived.Lib.MinMax
namespace Go.Proofs.Ytfmlgckfcclojaa
open Go.RowKit Go.Lib

theorem strB_inj {a b : List UInt8} (h : strB a = strB b) : a = b := by rw [← strB_list a, ← strB_list b, h]
theorem strB_of (s : ByteArray) : strB s.data.toList = s := by apply ByteArray.ext; simp [strB]

theorem toNat_ofNat {n : Nat} (h : n < 256) : (UInt8.ofNat n).toNat = n := by simp; omega

theorem frameB_says (r t : List UInt8) (hr : r.length ≤ 4096) : saysN (frameB r ++ t) = r.length := by
  have h1 : byteN (frameB r ++ t) 1 = (UInt8.ofNat (r.length / 256)).toNat := rfl
  have h2 : byteN (frameB r ++ t) 2 = (UInt8.ofNat (r.length % 256)).toNat := rfl
  rw [saysN, h1, h2, toNat_ofNat (by omega), toNat_ofNat (by omega)]
  omega

theorem firstB_frame (r t : List UInt8) (hr : r.length ≤ 4096) : firstB (frameB r ++ t) = some r := by
  have hs := frameB_says r t hr
  have hsn := sumN_lt r
  have hl : (frameB r ++ t).length = r.length + 5 + t.length := by rw [List.length_append, frameB_length]
  have hd : (frameB r ++ t).drop 5 = r ++ t := rfl
  have ht : ((frameB r ++ t).drop 5).take (saysN (frameB r ++ t)) = r := by rw [hd, hs]; exact List.take_left
  have h3 : byteN (frameB r ++ t) 3 = (UInt8.ofNat (sumN r / 256)).toNat := rfl
  have h4 : byteN (frameB r ++ t) 4 = (UInt8.ofNat (sumN r % 256)).toNat := rfl
  have h := firstB_some (l := frameB r ++ t) (by omega) rfl (by omega) (by omega) (by rw [ht, h3, h4, toNat_ofNat (by omega), toNat_ofNat (by omega)]; omega)
  rw [ht] at h
  exact h

theorem drop_frame (r t : List UInt8) : (frameB r ++ t).drop (r.length + 5) = t := by
  rw [← frameB_length r]; exact List.drop_left

theorem cutB_frame (r t : List UInt8) (hr : r.length ≤ 4096) : cutB (frameB r ++ t) = r :: cutB t := by
  rw [cutB_some (firstB_frame r t hr), drop_frame]

/-- Of a frame that is torn nothing is left. -/
theorem firstB_torn (r : List UInt8) (k : Nat) (hk : k < r.length + 5) (hr : r.length ≤ 4096) : firstB ((frameB r).take k) = none := by
  have hl : ((frameB r).take k).length = k := by rw [List.length_take, frameB_length]; omega
  by_cases h5 : k < 5
  · exact firstB_short (by omega)
  · have hs : saysN ((frameB r).take k) = r.length := by
      have h0 := frameB_says r [] hr
      rw [List.append_nil] at h0
      have hb : ∀ i, i < 5 → byteN ((frameB r).take k) i = byteN (frameB r) i := fun i hi => by
        unfold byteN
        rw [List.getD_eq_getElem?_getD, List.getElem?_take_of_lt (by omega), ← List.getD_eq_getElem?_getD]
      rw [← h0, saysN, saysN, hb 1 (by omega), hb 2 (by omega)]
    have h0 : byteN ((frameB r).take k) 0 = 82 := by
      unfold byteN
      rw [List.getD_eq_getElem?_getD, List.getElem?_take_of_lt (by omega), ← List.getD_eq_getElem?_getD]
      rfl
    exact firstB_more (by omega) h0 (by omega) (by omega)

/-- Records that have frames. -/
def okR (rs : List (List UInt8)) : List (List UInt8) := rs.filter fun r => decide (r.length ≤ 4096)

/-- Records' frames, one behind the other. -/
def allB (rs : List (List UInt8)) : List UInt8 := (rs.map putB).flatten

theorem putB_long {r : List UInt8} (h : 4096 < r.length) : putB r = [] := if_pos h
theorem putB_ok {r : List UInt8} (h : r.length ≤ 4096) : putB r = frameB r := if_neg (by omega)
theorem putB_length (r : List UInt8) : (putB r).length = if 4096 < r.length then 0 else r.length + 5 := by
  unfold putB; split
  · rfl
  · exact frameB_length r
theorem putB_le (r : List UInt8) : (putB r).length ≤ r.length + 5 := by rw [putB_length]; split <;> omega

theorem allB_nil : allB [] = [] := rfl
theorem allB_cons (r : List UInt8) (rs : List (List UInt8)) : allB (r :: rs) = putB r ++ allB rs := rfl
theorem allB_append (a b : List (List UInt8)) : allB (a ++ b) = allB a ++ allB b := by simp [allB]
theorem allB_snoc (rs : List (List UInt8)) (r : List UInt8) : allB (rs ++ [r]) = allB rs ++ putB r := by simp [allB]

/-- What stands behind records' frames is cut behind them. -/
theorem cutB_all : ∀ (rs : List (List UInt8)) (t : List UInt8), cutB (allB rs ++ t) = okR rs ++ cutB t
  | [], t => rfl
  | r :: rs, t => by
    have ih := cutB_all rs t
    by_cases h : r.length ≤ 4096
    · have e1 : okR (r :: rs) = r :: okR rs := by simp [okR, h]
      rw [allB_cons, putB_ok h, List.append_assoc, cutB_frame r _ h, ih, e1]
      rfl
    · have e1 : okR (r :: rs) = okR rs := by simp [okR, h]
      rw [allB_cons, putB_long (by omega), List.nil_append, ih, e1]

theorem cutB_nil : cutB [] = [] := cutB_none (firstB_short (by simp))
theorem cutB_all' (rs : List (List UInt8)) : cutB (allB rs) = okR rs := by
  have := cutB_all rs []
  rwa [List.append_nil, cutB_nil, List.append_nil] at this

theorem lensN_okR : ∀ rs : List (List UInt8), lensN (okR rs) = (allB rs).length
  | [] => rfl
  | r :: rs => by
    have ih := lensN_okR rs
    rw [allB_cons, List.length_append, ← ih]
    by_cases h : r.length ≤ 4096
    · have e1 : okR (r :: rs) = r :: okR rs := by simp [okR, h]
      rw [e1, putB_ok h, frameB_length]
      simp [lensN]
    · have e1 : okR (r :: rs) = okR rs := by simp [okR, h]
      rw [e1, putB_long (by omega)]
      simp

theorem cutN_all (rs : List (List UInt8)) : cutN (allB rs) = (allB rs).length := by rw [cutN, cutB_all', lensN_okR]

/-- What is cut, put again, is what it was cut of. -/
theorem all_cutB : ∀ (n : Nat) (l : List UInt8), l.length = n → allB (cutB l) = l.take (cutN l) ∧ firstB (l.drop (cutN l)) = none := by
  intro n
  induction n using Nat.strongRecOn with
  | _ n ih =>
    intro l hl
    cases h : firstB l with
    | none =>
      have e1 : cutN l = 0 := by rw [cutN, cutB_none h]; rfl
      rw [e1, cutB_none h]
      exact ⟨rfl, h⟩
    | some r =>
      obtain ⟨h1, h2, h3⟩ := firstB_le h
      obtain ⟨i1, i2⟩ := ih (l.drop (r.length + 5)).length (by rw [List.length_drop]; omega) _ rfl
      have e1 : cutN l = (r.length + 5) + cutN (l.drop (r.length + 5)) := by simp [cutN, cutB_some h, lensN]
      rw [e1, cutB_some h, allB_cons, putB_ok h2, i1, ← h3]
      obtain ⟨d, hd⟩ : ∃ d, r.length + 5 = d := ⟨_, rfl⟩
      rw [hd] at i2 ⊢
      rw [List.take_add, ← List.drop_drop]
      exact ⟨rfl, i2⟩

theorem okR_cut (l : List UInt8) : okR (cutB l) = cutB l := by
  have : ∀ (n : Nat) (l : List UInt8), l.length = n → ∀ r ∈ cutB l, r.length ≤ 4096 := by
    intro n
    induction n using Nat.strongRecOn with
    | _ n ih =>
      intro l hl r hr
      cases h : firstB l with
      | none => rw [cutB_none h] at hr; cases hr
      | some r' =>
        obtain ⟨h1, h2, h3⟩ := firstB_le h
        rw [cutB_some h] at hr
        rcases List.mem_cons.1 hr with rfl | hr
        · exact h2
        · exact ih (l.drop (r'.length + 5)).length (by rw [List.length_drop]; omega) _ rfl r hr
  unfold okR
  rw [List.filter_eq_self]
  intro r hr
  simpa using this _ l rfl r hr

end Go.Proofs.Ytfmlgckfcclojaa
namespace Go.Proofs.Ytfmlgckfcclojaa
open Go.RowKit Go.Lib

/-- Texts that can be read. -/
def TRow (w : World) (a : Option Addr) (rs : List (List UInt8)) : Prop := ∀ j r, rs[j]? = some r → ∃ A, a = some A ∧ w.cell? (A.add j) = some (.string (strB r)) ∧ r.length ≤ maxLen

theorem TRow.below {w w' : World} {a : Option Addr} {rs : List (List UInt8)} (h : TRow w a rs) (hb : Below w.heap.size w w') : TRow w' a rs := fun j r hj => by
  obtain ⟨A, h1, h2, h3⟩ := h j r hj
  exact ⟨A, h1, (hb.cell (World.block_lt_of_cell? _ _ h2)).trans h2, h3⟩

theorem TRow.of_owns {w : World} {base : Nat} {v : Value} {n : Nat} {rs : List (List UInt8)} (h : w.ownsRow base 9 1 v n (recCells rs)) (hs : ∀ r ∈ rs, r.length ≤ maxLen) : ∃ a c, v = .slice a rs.length c ∧ TRow w a rs ∧ n = rs.length := by
  have hn : n = rs.length := by have := h.1; rw [recCells_length] at this; omega
  subst hn
  have hc := fun g hg => h.cells (g := g) hg
  rcases h.2 with ⟨rfl, h0⟩ | ⟨g, cap, cur, rfl, _⟩
  · obtain rfl : rs = [] := List.eq_nil_of_length_eq_zero h0
    exact ⟨none, 0, rfl, fun j r hj => by simp at hj, rfl⟩
  · refine ⟨_, cap, rfl, fun j r hj => ⟨_, rfl, hc g rfl j _ (by simp [recCells, hj]), hs r (List.mem_of_getElem? hj)⟩, rfl⟩

theorem strB_toL (l : List UInt8) : (strB l).toList = l := by rw [ByteArray.toList_eq, strB_list]

theorem eq_of_all {xs ys : List (List UInt8)} (hl : xs.length = ys.length) (h : ∀ j, j < xs.length → xs[j]? = ys[j]?) : xs = ys := by
  apply List.ext_getElem? 
  intro j
  by_cases hj : j < xs.length
  · exact h j hj
  · rw [List.getElem?_eq_none (by omega), List.getElem?_eq_none (by omega)]

/-- What Same answers. -/
def SamePost (w : World) (xs ys : List (List UInt8)) (e : Ending) (w' : World) : Prop := e = .returned (.bool (decide (xs = ys))) ∧ ∃ n, w' = w.drewN n

/-- How much there is of texts, as great counts it. -/
def gN (rs : List (List UInt8)) : Nat → Nat
  | 0 => rs.length
  | k + 1 => if gN rs k < 30000 then gN rs k + min ((rs[k]?.map fun r => r.length).getD 0) 30000 else gN rs k
def greatB (rs : List (List UInt8)) : Bool := decide (30000 ≤ gN rs rs.length)

theorem gN_succ {rs : List (List UInt8)} {k : Nat} {r : List UInt8} (h : rs[k]? = some r) (hg : gN rs k < 30000) : gN rs (k + 1) = gN rs k + min r.length 30000 := by simp [gN, h, hg]
theorem gN_stay {rs : List (List UInt8)} {k : Nat} (h : 30000 ≤ gN rs k) : ∀ d, gN rs (k + d) = gN rs k
  | 0 => rfl
  | d + 1 => by
    have ih := gN_stay h d
    show (if gN rs (k + d) < 30000 then _ else gN rs (k + d)) = _
    rw [ih, if_neg (by omega)]
theorem gN_mono (rs : List (List UInt8)) (k : Nat) : ∀ d, gN rs k ≤ gN rs (k + d)
  | 0 => Nat.le_refl _
  | d + 1 => by
    have ih := gN_mono rs k d
    show _ ≤ (if gN rs (k + d) < 30000 then gN rs (k + d) + _ else gN rs (k + d))
    split <;> omega
theorem gN_bound (rs : List (List UInt8)) : ∀ k, gN rs k ≤ max rs.length 59999
  | 0 => by show rs.length ≤ _; omega
  | k + 1 => by
    have ih := gN_bound rs k
    show (if gN rs k < 30000 then _ else gN rs k) ≤ _
    split <;> omega

def lenS (rs : List (List UInt8)) : Nat := (rs.map fun r => r.length).sum
theorem lenS_take {rs : List (List UInt8)} {k : Nat} {r : List UInt8} (h : rs[k]? = some r) : lenS (rs.take (k + 1)) = lenS (rs.take k) + r.length := by
  simp [lenS, List.take_add_one, h]

theorem gN_sum {rs : List (List UInt8)} (h : gN rs rs.length < 30000) : ∀ k, k ≤ rs.length → gN rs k = rs.length + lenS (rs.take k)
  | 0, _ => by simp [gN, lenS]
  | k + 1, hk => by
    have ih := gN_sum h k (by omega)
    have hr : rs[k]? = some rs[k] := List.getElem?_eq_getElem (by omega)
    have h1 := gN_mono rs k (rs.length - k)
    rw [show k + (rs.length - k) = rs.length by omega] at h1
    have h2 := gN_mono rs (k + 1) (rs.length - (k + 1))
    rw [show k + 1 + (rs.length - (k + 1)) = rs.length by omega] at h2
    rw [gN_succ hr (by omega)] at h2 ⊢
    rw [lenS_take hr]
    omega

/-- What is not great: few texts, few bytes. -/
theorem small_of {rs : List (List UInt8)} (h : greatB rs = false) : rs.length + lenS rs < 30000 := by
  have h1 : gN rs rs.length < 30000 := by simpa [greatB] using h
  have h2 := gN_sum h1 rs.length (Nat.le_refl _)
  rw [List.take_length] at h2
  omega

set_option maxRecDepth 100000 in
/-- The builtin append of such bytes onto a row that is owned. -/
theorem run_append_brow {w : World} {B : Nat} {bv : Value} {bs : List UInt8} (hb : BRow w bv bs) {v : Value} {l : Nat} {xs : List UInt8} (hown : w.ownsRow B 5 1 v l (byteCells xs)) (h63 : l + bs.length ≤ 140737488355328) (hB : B ≤ w.heap.size) (ty : TypeId) :
    ∃ v' w', (Builtin.append_ #[40, 40] ty #[v, bv]).run Try.prog w = .ok v' w' ∧ w'.ownsRow B 5 1 v' (l + bs.length) (byteCells (xs ++ bs)) ∧ w.grownBy w' v.ownBlock := by
  obtain ⟨i0, hi, hz0, hz1, hz2⟩ := info_parts infoB8
  obtain ⟨a, c, rfl, h1, h2, h3, hx⟩ := hb
  have hap : byteCells (xs ++ bs) = byteCells xs ++ byteCells bs := by simp [byteCells]
  rw [hap]
  cases a with
  | none =>
    obtain rfl : bs = [] := by
      cases bs with
      | nil => rfl
      | cons x l =>
        obtain ⟨A, e, _⟩ := hx 0 x rfl
        cases e
    have hc := h3 rfl
    subst hc
    refine ⟨v, w, run_append_owned_none w B 40 ty 5 i0 1 Try.underlying40 hi v l _ hown, ?_, ⟨rfl, rfl, rfl, Nat.le_refl _, fun _ _ _ => rfl⟩⟩
    simpa [byteCells] using hown
  | some A =>
    obtain ⟨v', w', h4, h5, h6, _⟩ := run_append_own (P := Try.prog) w B 40 ty 5 i0 (.int .u8 0) 1 1 Try.underlying40 hi hz0 hz1 hz2 rfl (by decide) v l _ hown A bs.length c (byteCells bs) (by simp [byteCells_length])
      (fun j u hu => by
        simp only [byteCells, List.getElem?_map, Option.map_eq_some_iff] at hu
        obtain ⟨x, hx1, rfl⟩ := hu
        obtain ⟨A', e, h⟩ := hx j x hx1
        injection e with e
        rw [e]
        exact h) (byteCells_one bs) (by unfold maxLen; omega) (by omega) hB
    exact ⟨v', w', h4, h5, h6⟩

theorem wpList_append_brow {w : World} {ops : Array Oper} {rest : List Oper} {o : Oper} {a : Act} {Q : Exit → Act → World → Prop} (hgd : o.guard = none) (s x : Operand)
    (ho : o.op = .call { callee := .builtin .append, args := #[s, x], argTypes := #[40, 40] })
    {B : Nat} {bv : Value} {bs : List UInt8} (hb : BRow w bv bs) {v : Value} {l : Nat} {xs : List UInt8} (hown : w.ownsRow B 5 1 v l (byteCells xs)) (h63 : l + bs.length ≤ 140737488355328) (hB : B ≤ w.heap.size)
    (hs : a.eval s = v) (hx : a.eval x = bv)
    (h : ∀ v' w', w'.ownsRow B 5 1 v' (l + bs.length) (byteCells (xs ++ bs)) → w.grownBy w' v.ownBlock → wpList Try.prog ops Q rest (a.put o.dst v') w') :
    wpList Try.prog ops Q (o :: rest) a w := by
  refine wpList_plain hgd fun K hK => ?_
  obtain ⟨v', w', hr, h2, h3⟩ := run_append_brow hb hown h63 hB o.type
  unfold Oper.wp execOp
  simp only [ho, resolve, invoke, builtin, Sem.run_bind, Sem.run_pure, Result.andThen_ok, List.map_toArray, List.map_cons, List.map_nil, hs, hx, hr]
  exact hK _ _ (h v' w' h2 h3)

theorem allB_take {rs : List (List UInt8)} {k : Nat} {r : List UInt8} (h : rs[k]? = some r) : allB (rs.take (k + 1)) = allB (rs.take k) ++ putB r := by
  rw [List.take_add_one, h]
  exact allB_snoc _ _
theorem allB_le (rs : List (List UInt8)) : (allB rs).length ≤ lenS rs + 5 * rs.length := by
  induction rs with
  | nil => simp [allB, lenS]
  | cons r rs ih =>
    have := putB_le r
    simp only [allB_cons, List.length_append, lenS, List.map_cons, List.sum_cons, List.length_cons] at *
    omega
theorem lenS_take_le (rs : List (List UInt8)) (k : Nat) : lenS (rs.take k) ≤ lenS rs := by
  have h := congrArg lenS (List.take_append_drop k rs)
  simp only [lenS, List.map_append, List.sum_append] at *
  omega

/-- What all answers. -/
def AllPost (w : World) (rs : List (List UInt8)) (e : Ending) (w' : World) : Prop :=
  ∃ v, e = .returned v ∧ w'.ownsRow w.heap.size 5 1 v (allB rs).length (byteCells (allB rs)) ∧ Below w.heap.size w w'

end Go.Proofs.Ytfmlgckfcclojaa
namespace Go.Proofs.Ytfmlgckfcclojaa
open Go.RowKit Go.Lib Go.Op

/-- The builtin append of bytes, as a step of a region that draws its order. -/
theorem step_append_brow {w : World} {ops : Array Oper} {o : Oper} {a : Act} {K : Act → World → Prop} {Q : Exit → Act → World → Prop} {E : Prop} (hgd : o.guard = none) (s x : Operand)
    (ho : o.op = .call { callee := .builtin .append, args := #[s, x], argTypes := #[40, 40] })
    {B : Nat} {bv : Value} {bs : List UInt8} (hb : BRow w bv bs) {v : Value} {l : Nat} {xs : List UInt8} (hown : w.ownsRow B 5 1 v l (byteCells xs)) (h63 : l + bs.length ≤ 140737488355328) (hB : B ≤ w.heap.size)
    (hs : a.eval s = v) (hx : a.eval x = bv)
    (h : ∀ v' w', w'.ownsRow B 5 1 v' (l + bs.length) (byteCells (xs ++ bs)) → w.grownBy w' v.ownBlock → K (a.put o.dst v') w') :
    if Region.wanted o (yielded ops a.tmps) = true then Oper.wp Try.prog o a w K Q else E := by
  have hw : Region.wanted o (yielded ops a.tmps) = true := by simp [Region.wanted, hgd]
  rw [if_pos hw]
  obtain ⟨v', w', hr, h2, h3⟩ := run_append_brow hb hown h63 hB o.type
  unfold Oper.wp execOp
  simp only [ho, resolve, invoke, builtin, Sem.run_bind, Sem.run_pure, Result.andThen_ok, List.map_toArray, List.map_cons, List.map_nil, hs, hx, hr]
  exact h v' w' h2 h3

theorem PB.below {w : World} {B bb : Nat} {v : Value} {xs : List UInt8} {W W' : World} (h : PB w B bb v xs W) (hb : Below W.heap.size W W') : PB w B bb v xs W' where
  c := ekeep hb h.c
  f := (hb.frozen (p := ⟨bb, 0, none⟩) (Nat.lt_of_lt_of_le h.lt h.le)).trans h.f
  own := eowns_of_block h.own (fun g hg => hb.block g (h.own.lt g hg).2)
  hb := h.hb.trans (hb.mono (Nat.le_trans (Nat.le_of_lt h.lt) h.le))
  lt := h.lt
  le := Nat.le_trans h.le hb.size

theorem putVs_append : ∀ (l m : List PVal), putVs (l ++ m) = putVs l ++ putVs m
  | [], m => rfl
  | v :: l, m => by simp [putVs, putVs_append l m]
theorem putVs_take {l : List VIn} {k : Nat} {x : VIn} (h : l[k]? = some x) : putVs ((l.take (k + 1)).map pv) = putVs ((l.take k).map pv) ++ putV (pv x) := by
  rw [List.take_add_one, h, List.map_append, putVs_append]
  simp [putVs]

theorem putV_len {v : PVal} : (putV v).length ≤ 80 := by
  cases h : rightB v with
  | false => rw [putV_not h]; simp
  | true =>
    obtain ⟨k, n, s⟩ := v
    have h2 := putV_written (k := k) (n := n) (s := strB s) (by unfold rightV; rw [strB_list]; exact h)
    rw [strB_list] at h2
    rw [h2]
    obtain ⟨a1, a2, _, _⟩ := writtenV_le (k := k) (n := n) (s := strB s) (by unfold rightV; rw [strB_list]; exact h)
    have h3 := digsN_six (n := writtenV k n (strB s)) (by omega)
    rw [strB_size] at a2
    simp only [List.length_cons, List.length_append]
    omega
theorem putVs_len : ∀ l : List PVal, (putVs l).length ≤ 80 * l.length
  | [] => by simp [putVs]
  | v :: l => by
    have h1 := putV_len (v := v)
    have h2 := putVs_len l
    simp only [putVs, List.length_append, List.length_cons]
    omega

theorem body_parts {t d s : Nat} {n : ByteArray} {vs : List VIn} : bodyE (pe t d s n vs) = ([] ++ digsAll [t, d, s, n.size] ++ n.data.toList) ++ digsAll [vs.length] ++ putVs ((vs.take vs.length).map pv) := by
  have hn : n.data.toList.length = n.size := by simp
  unfold bodyE pe
  simp only [List.length_map, hn, digsAll, List.append_nil, List.nil_append, List.append_assoc, List.take_length, Int.toNat_natCast]

/-- Put behind its test: the closure's first call. -/
theorem pb_start (w1 : World) (o : Obj) : PB w1 (w1.heap.size + 2) w1.heap.size (.slice none 0 0) [] ((w1.alloc (.cells #[.slice none 0 0] 40)).alloc o) where
  c := by simp
  f := by simp
  own := World.ownsRow_nil _ _ _ _
  hb := ((Below.refl _ _).alloc (Nat.le_refl _) _).alloc (by simp) _
  lt := by omega
  le := by simp

set_option maxHeartbeats 8000000 in
set_option maxRecDepth 100000 in
theorem eput_calls (t d s : Int) (n : ByteArray) (a : Option Addr) (c : Nat) (vs : List VIn) (w : World) (hn : n.size ≤ maxLen) (hv : VRow w a vs) (hl : vs.length ≤ maxLen) :
    Calls Try.prog 26 #[evV t d s n (.slice a vs.length c)] w (PutPost w (putE (pe t d s n vs))) := by
  have hb0 : Below w.heap.size w (w.alloc (.cells #[.int .i64 t, .int .i64 d, .int .i64 s, .string n, .slice a vs.length c] 25)) := (Below.refl _ _).alloc (Nat.le_refl _) _
  have HR := Lib.hid (eright_calls t d s n a c vs (w.alloc (.cells #[.int .i64 t, .int .i64 d, .int .i64 s, .string n, .slice a vs.length c] 25)) hn (hv.below hb0) hl)
  cases hr : rightE (pe t d s n vs) with
  | false =>
    rw [hr] at HR
    rw [putE_not hr]
    have HB0 := Lib.hid hb0
    clear hv hb0 hr
    go_enter Try.func26, Try.ntmps26
    go_wp2_with (go_at_call 52; refine HR.out.mono ?_; rintro e w1 ⟨rfl, hb1⟩)
    go_ret
    exact ⟨_, rfl, World.ownsRow_nil _ _ _ _, HB0.out.trans (hb1.mono HB0.out.size)⟩
  | true =>
  rw [hr] at HR
  rw [putE_right hr]
  obtain ⟨⟨t1, t2⟩, ⟨s1, s2⟩, ⟨d1, d2⟩, hw, h8, hall⟩ := rightE_iff.1 hr
  have hn16 := (wordB_len hw).2
  dsimp only [pe] at t1 t2 s1 s2 d1 d2 hn16 h8
  rw [List.length_map] at h8
  have hnn : n.data.toList.length = n.size := by simp
  rw [hnn] at hn16
  obtain ⟨t, rfl⟩ : ∃ q : Nat, t = q := ⟨t.toNat, by omega⟩
  obtain ⟨d, rfl⟩ : ∃ q : Nat, d = q := ⟨d.toNat, by omega⟩
  obtain ⟨s, rfl⟩ : ∃ q : Nat, s = q := ⟨s.toNat, by omega⟩
  have HV := Lib.hid hv
  obtain ⟨i0, hi, hz0, hz1, hz2⟩ := info_parts infoB8
  obtain ⟨l, hll⟩ : ∃ l, vs.length = l := ⟨_, rfl⟩
  have Hl := Lib.hid hll
  have Hbody := Lib.hid (body_parts (t := t) (d := d) (s := s) (n := n) (vs := vs))
  rw [hll] at HR hb0 h8 ⊢
  have HB0 := Lib.hid hb0
  have Hnn := Lib.hid hnn
  have hdl : (digsAll [t, d, s, n.size]).length ≤ 36 := digsAll_len [t, d, s, n.size] (by simp; omega)
  clear hr hw hall hll hb0 hv hl hnn
  go_enter Try.func26, Try.ntmps26
  go_wp2_with (go_at_call 52; refine HR.out.mono ?_; rintro e w1 ⟨rfl, hb1⟩; have x0 : w1.cell? ⟨w.heap.size, 0, none⟩ = some (.int .i64 t) := ekeep hb1 (by simp); have x1 : w1.cell? ⟨w.heap.size, 1, none⟩ = some (.int .i64 d) := ekeep hb1 (by simp); have x2 : w1.cell? ⟨w.heap.size, 2, none⟩ = some (.int .i64 s) := ekeep hb1 (by simp); have x3 : w1.cell? ⟨w.heap.size, 3, none⟩ = some (.string n) := ekeep hb1 (by simp); have x4 : w1.cell? ⟨w.heap.size, 4, none⟩ = some (.slice a l c) := ekeep hb1 (by simp); have y0 := ekeepAl (.cells #[.slice none 0 0] 40) x0; have y1 := ekeepAl (.cells #[.slice none 0 0] 40) x1; have y2 := ekeepAl (.cells #[.slice none 0 0] 40) x2; have y3 := ekeepAl (.cells #[.slice none 0 0] 40) x3; have y4 := ekeepAl (.cells #[.slice none 0 0] 40) x4; have hBX : Below w.heap.size w w1 := HB0.out.trans (hb1.mono HB0.out.size); have HBX := Lib.hid hBX; have hX : w.heap.size < w1.heap.size := World.block_lt_of_cell? _ _ x0; clear hBX hb1)
  have hc1 := put1_calls w1 _ (w1.heap.size + 2) w1.heap.size (w1.heap.size + 1) 4 (.slice none 0 0) [] [t, d, s, n.size] (pb_start w1 (.cells #[.int .i64 t, .int .i64 d, .int .i64 s, .int .i64 n.size] 2)) (by simp; omega) (fun j q _ hq => by
    match j, hq with
    | 0, hq => simp at hq; subst hq; simp
    | 1, hq => simp at hq; subst hq; simp
    | 2, hq => simp at hq; subst hq; simp
    | 3, hq => simp at hq; subst hq; simp
    | j + 4, hq => simp at hq) (.inl (by omega)) (by omega) (by simp) (by simp)
  refine hc1.mono ?_
  rintro e w2 ⟨rfl, v2, hP2⟩
  obtain ⟨b0, hb0⟩ : ∃ b0, [] ++ digsAll [t, d, s, n.size] = b0 := ⟨_, rfl⟩
  have hb0l : b0.length ≤ 36 := by rw [← hb0]; simpa using hdl
  rw [hb0] at hP2 Hbody
  have HP2 := Lib.hid hP2
  have c2 := hP2.c
  have f2 := hP2.f
  have z3 := (hP2.hb.cell (p := ⟨w.heap.size, 3, none⟩) hX).trans x3
  have z4 := (hP2.hb.cell (p := ⟨w.heap.size, 4, none⟩) hX).trans x4
  have Hsc : Hid (strCells n = byteCells n.data.toList) := rfl
  clear hb0 hdl hP2 hc1 x0 x1 x2 y0 y1 y2 y3 y4 HR
  generalize hbb : w1.heap.size = bb at *
  go_wp2_with (at_builtin; refine wpList_append_own_string _ rfl (.tmp 23) (.tmp 25) 40 9 rfl (bb + 2) 5 i0 Try.underlying40 Try.underlying9 hi hz0 hz1 hz2 _ _ _ rfl HP2.out.own n rfl (by unfold maxLen; omega) (by omega) HP2.out.le ?_; intro v3 w3 hown3 hgrow3 hnil3; have hB3 : Below (bb + 2) w2 w3 := (Below.refl (bb + 2) _).grown hgrow3 HP2.out.le (fun g hg => (HP2.out.own.lt g hg).1); obtain ⟨e0, f0⟩ := HP2.out.cellB hB3; rw [Hsc.out, ← byteCells_append] at hown3; obtain ⟨sa3, q3, sc3, rfl⟩ := owns_slice hown3; have HP3 := Lib.hid (HP2.out.fin hB3 hown3); have z4' := (HP3.out.hb.cell (p := ⟨w.heap.size, 4, none⟩) hX).trans x4; have c3 := HP3.out.c; have f3 := HP3.out.f; clear hown3 hgrow3 hnil3 hB3)
  have hle3 : bb + 2 ≤ w3.heap.size := by have := HP3.out.le; simpa using this
  have hsz3 : (w3.setCell ⟨bb, 0, none⟩ (.slice sa3 q3 sc3)).heap.size = w3.heap.size := by simp
  have hb1l : (b0 ++ n.data.toList).length ≤ 52 := by rw [List.length_append, Hnn.out]; omega
  have hc2 := put1_calls w1 _ (bb + 2) bb w3.heap.size 1 (.slice sa3 q3 sc3) (b0 ++ n.data.toList) [l] (HP3.out.alloc (.cells #[.int .i64 l] 2)) (by simp; omega) (fun j q _ hq => by
    match j, hq with
    | 0, hq => simp at hq; subst hq; exact fcell_of_blk (b := w3.heap.size) (by rw [← hsz3]; exact heap_alloc_new _ _) rfl
    | j + 1, hq => simp at hq) (.inr (by simp)) (by omega) (by simp) (by omega)
  refine hc2.mono ?_
  rintro e w4 ⟨rfl, v4, hP4⟩
  have hbase : ((b0 ++ n.data.toList) ++ digsAll [l]).length ≤ 61 := by
    rw [List.length_append]
    have := digsAll_len [l] (by simp; omega)
    simp at this
    omega
  rw [Hl.out] at Hbody
  obtain ⟨b1, hb1⟩ : ∃ b1, (b0 ++ n.data.toList) ++ digsAll [l] = b1 := ⟨_, rfl⟩
  rw [hb1] at hP4 hbase Hbody
  have HP4 : Hid (PB w1 (bb + 2) bb v4 (b1 ++ putVs ((vs.take 0).map pv)) w4) := by show PB _ _ _ _ _ _; simpa [putVs] using hP4
  have z5 := (hP4.hb.cell (p := ⟨w.heap.size, 4, none⟩) hX).trans x4
  clear hb1 hP4 hc2 HP2 HP3 c2 f2 c3 f3 e0 f0 z3 z4 z4' hb1l hle3 x3 x4
  go_wp2
  go_loopw [6, 36] (fun y i wr => ∃ (k : Nat) (v : Value), i = .int .i64 k ∧ k ≤ l ∧ Hid (PB w1 (bb + 2) bb v (b1 ++ putVs ((vs.take k).map pv)) wr)) (fun _ i _ => l - (intOf i).toNat)
  case atStart => exact ⟨0, v4, rfl, Nat.zero_le _, HP4⟩
  case round =>
    obtain ⟨k, v, rfl, hk, HPk⟩ := hrel
    by_cases hlt : k < l
    · obtain ⟨x, hx⟩ : ∃ x, vs[k]? = some x := ⟨_, List.getElem?_eq_getElem (by rw [Hl.out]; exact hlt)⟩
      have HBr : Hid (Below w.heap.size w wr) := HBX.out.trans ((by rw [← hbb] at HPk; exact HPk.out.hb : Below w1.heap.size w1 wr).mono HBX.out.size)
      obtain ⟨A, rfl, c0, c1, c2, hss⟩ := (HV.out.below HBr.out) k x hx
      unfold efld at c1 c2
      have Htk := Lib.hid (putVs_take hx)
      obtain ⟨k1, n1, s1⟩ := x
      dsimp only at c0 c1 c2 hss
      clear hx
      go_upto_region 11 with fail
      have hpa := HPk.out.alloc (.cells #[.int .i64 k1, .int .i64 n1, .string s1] 52)
      have hpd : PB w1 (bb + 2) bb v (b1 ++ putVs ((vs.take k).map pv)) (wr.alloc (.cells #[.int .i64 k1, .int .i64 n1, .string s1] 52)).drew := hpa.below (vbelow_drew (Below.refl _ _))
      have cb := hpd.c
      have fb := hpd.f
      have HPd := Lib.hid hpd
      have HPut := Lib.hid (vput_calls k1 n1 s1 (wr.alloc (.cells #[.int .i64 k1, .int .i64 n1, .string s1] 52)).drew hss)
      have g0 : (wr.alloc (.cells #[.int .i64 k1, .int .i64 n1, .string s1] 52)).drew.cell? ⟨wr.heap.size, 0, none⟩ = some (.int .i64 k1) := by show (wr.alloc _).cell? _ = _; simp
      have g1 : (wr.alloc (.cells #[.int .i64 k1, .int .i64 n1, .string s1] 52)).drew.cell? ⟨wr.heap.size, 1, none⟩ = some (.int .i64 n1) := by show (wr.alloc _).cell? _ = _; simp
      have g2 : (wr.alloc (.cells #[.int .i64 k1, .int .i64 n1, .string s1] 52)).drew.cell? ⟨wr.heap.size, 2, none⟩ = some (.string s1) := by show (wr.alloc _).cell? _ = _; simp
      have hlen : (b1 ++ putVs ((vs.take k).map pv)).length ≤ 2000 := by
        have h1 := putVs_len ((vs.take k).map pv)
        rw [List.length_map, List.length_take] at h1
        rw [List.length_append]
        omega
      have hlp := putV_len (v := ⟨k1, n1, s1.data.toList⟩)
      have Hpv : Hid (pv (k1, n1, s1) = ⟨k1, n1, s1.data.toList⟩) := rfl
      clear hpa hpd c0 c1 c2
      go_region_law (first
        | (refine step_append_brow rfl (.tmp 40) (.tmp 42) rfl HR5.out HP5.out.own ?_ HP5.out.le ?_ ?_ ?_; (omega); (simp [Act.eval]); (simp [Act.eval]); intro v6 w6 hown6 hgrow6; have hB6 : Below (bb + 2) w5 w6 := (Below.refl (bb + 2) _).grown hgrow6 HP5.out.le (fun g hg => (HP5.out.own.lt g hg).1); obtain ⟨e0, f0⟩ := HP5.out.cellB hB6; obtain ⟨sa6, q6, sc6, rfl⟩ := owns_slice hown6; have HP6 := Lib.hid (HP5.out.fin hB6 hown6); clear hown6 hgrow6 hB6)
        | (go_simp; go_at_call 57; refine HPut.out.mono ?_; rintro e w5 ⟨v5, rfl, hown5, hb5⟩; have HR5 := Lib.hid (BRow.of_owns hown5); have HP5 := Lib.hid (HPd.out.below hb5); have cb5 := HP5.out.c; have fb5 := HP5.out.f; clear hown5 hb5))
      all_goals
        have HP7 : Hid (PB w1 (bb + 2) bb (.slice sa6 q6 sc6) (b1 ++ putVs ((vs.take (k + 1)).map pv)) (w6.setCell ⟨bb, 0, none⟩ (.slice sa6 q6 sc6))) := by
          rw [Htk.out, ← List.append_assoc]
          exact HP6
        clear HP6 HP5 HR5 HPd HPut
        go_wp2
        go_roundw
        case rel => exact ⟨k + 1, _, by go_num, by omega, HP7⟩
        case measure => simp [intOf]; omega
    · obtain rfl : k = l := by omega
      have HF := Lib.hid HPk.out
      have hc := HPk.out.c
      go_wp2
      go_ret
      refine ⟨v, rfl, ?_, ?_⟩
      · rw [Hbody.out]
        exact ownsRow_base HF.out.own (by rw [← hbb]; omega)
      · exact HBX.out.trans ((by rw [← hbb] at HF; exact HF.out.hb : Below w1.heap.size w1 _).mono HBX.out.size)

end Go.Proofs.Ytfmlgckfcclojaa
namespace Go.Proofs.Ytfmlgckfcclojaa
open Go.RowKit Go.Lib Go.Op

theorem dgo_cons (c : UInt8) (l : List UInt8) (i n : Nat) : dgo (c :: l) i n = if c.toNat < 128 then (if c.toNat = 0 ∧ 0 < i then (0, 0) else (n + c.toNat % 128 * 128 ^ i, i + 1)) else dgo l (i + 1) (n + c.toNat % 128 * 128 ^ i) := rfl

/-- What digits answers. -/
def DigPost (w : World) (p : Nat × Nat) (e : Ending) (w' : World) : Prop := e = .returned (.tuple #[.int .i64 p.1, .int .i64 p.2]) ∧ w = w'

theorem pow128 : ∀ i : Nat, i ≤ 6 → 128 ^ i ≤ 4398046511104 ∧ 2 ^ (7 * i) = 128 ^ i
  | 0, _ => by decide
  | 1, _ => by decide
  | 2, _ => by decide
  | 3, _ => by decide
  | 4, _ => by decide
  | 5, _ => by decide
  | 6, _ => by decide
  | n + 7, h => by omega

theorem BRow.first {w : World} {a : Option Addr} {l c m : Nat} {bs : List UInt8} (h : BRow w (.slice a l c) bs) (hm : m ≤ bs.length) : BRow w (.slice a m c) (bs.take m) := by
  obtain ⟨a', c', e1, h1, h2, h3, hx⟩ := h
  injection e1 with ea el ec
  subst ea
  subst el
  subst ec
  have hlen : (bs.take m).length = m := by rw [List.length_take]; omega
  refine ⟨a, c, by rw [hlen], by rw [hlen]; omega, h2, h3, fun j x hj => ?_⟩
  have hjm : j < m := by
    have := (List.getElem?_eq_some_iff.1 hj).1
    omega
  rw [List.getElem?_take_of_lt hjm] at hj
  exact hx j x hj

theorem BRow.atc {w : World} {a : Option Addr} {l c : Nat} {bs : List UInt8} (h : BRow w (.slice a l c) bs) {i : Nat} {x : UInt8} (hi : bs[i]? = some x) : ∃ A, a = some A ∧ w.cell? (A.add i) = some (.int .u8 x.toNat) := by
  obtain ⟨a', c', e1, h1, h2, h3, hx⟩ := h
  injection e1 with ea el ec
  subst ea
  exact hx i x hi

/-- How far digits are read. -/
def DigAt (r : List UInt8) (i n : Nat) : Prop := i ≤ r.length ∧ i ≤ 6 ∧ dgo (r.drop i) i n = dgo r 0 0 ∧ n < 128 ^ i

theorem DigAt.step {r : List UInt8} {i n : Nat} (h : DigAt r i n) {c : UInt8} (hc : r[i]? = some c) (hr : r.length ≤ 6) (h128 : ¬ c.toNat < 128) : DigAt r (i + 1) (n + c.toNat % 128 * 128 ^ i) := by
  obtain ⟨h1, h2, h3, h4⟩ := h
  obtain ⟨hi, hx⟩ := List.getElem?_eq_some_iff.1 hc
  rw [List.drop_eq_getElem_cons hi, hx, dgo_cons, if_neg h128] at h3
  refine ⟨hi, by omega, h3, ?_⟩
  have h5 := Nat.mod_lt c.toNat (show 0 < 128 by omega)
  have h6 : c.toNat % 128 * 128 ^ i ≤ 127 * 128 ^ i := Nat.mul_le_mul_right _ (by omega)
  rw [Nat.pow_succ]
  omega

theorem DigAt.stop {r : List UInt8} {i n : Nat} (h : DigAt r i n) {c : UInt8} (hc : r[i]? = some c) (h128 : c.toNat < 128) : dgo r 0 0 = if c.toNat = 0 ∧ 0 < i then (0, 0) else (n + c.toNat % 128 * 128 ^ i, i + 1) := by
  obtain ⟨h1, h2, h3, h4⟩ := h
  obtain ⟨hi, hx⟩ := List.getElem?_eq_some_iff.1 hc
  rw [List.drop_eq_getElem_cons hi, hx, dgo_cons, if_pos h128] at h3
  exact h3.symm

theorem DigAt.fin {r : List UInt8} {i n : Nat} (h : DigAt r i n) (hi : i = r.length) : dgo r 0 0 = (0, 0) := by
  obtain ⟨h1, h2, h3, h4⟩ := h
  rw [← h3, List.drop_eq_nil_of_le (by omega)]
  rfl

theorem digSum {m k x : Nat} (hm : m < 4398046511104) (hk : k ≤ 6) : wrap64 ((m : Int) + wrap64 ((x : Int) % 128 * 2 ^ (7 * k))) = ((m + x % 128 * 128 ^ k : Nat) : Int) := by
  obtain ⟨h1, h2⟩ := pow128 k hk
  have h3 : ((x : Int) % 128 * 2 ^ (7 * k)) = ((x % 128 * 128 ^ k : Nat) : Int) := by
    rw [← h2]
    simp
  have h4 : x % 128 * 128 ^ k ≤ 127 * 4398046511104 := Nat.mul_le_mul (by omega) h1
  rw [h3]
  generalize x % 128 * 128 ^ k = y at h4
  rw [IntWalk.wrap64_in (y : Int) (by omega), IntWalk.wrap64_in _ (by omega)]
  omega

theorem DigPost.mk {w : World} {p : Nat × Nat} {a b : Int} (h1 : a = p.1) (h2 : b = p.2) : DigPost w p (.returned (.tuple #[.int .i64 a, .int .i64 b])) w := by
  rw [h1, h2]; exact ⟨rfl, rfl⟩

set_option maxHeartbeats 2000000 in
set_option maxRecDepth 100000 in
theorem digits_calls (w : World) (v : Value) (bs : List UInt8) (h : BRow w v bs) : Calls Try.prog 96 #[v] w (DigPost w (dgo (bs.take 6) 0 0)) := by
  obtain ⟨a, c, rfl, hc, hcm⟩ := h.len
  obtain ⟨l, hl⟩ : ∃ l, bs.length = l := ⟨_, rfl⟩
  have hlm : l ≤ maxLen := by omega
  unfold maxLen at hlm
  obtain ⟨q, hq⟩ : ∃ q, (l ≤ 6 ∧ q = l) ∨ (6 < l ∧ q = 6) := by
    by_cases h6 : l ≤ 6
    · exact ⟨l, .inl ⟨h6, rfl⟩⟩
    · exact ⟨6, .inr ⟨by omega, rfl⟩⟩
  have hql : q ≤ bs.length := by omega
  have e6 : bs.take q = bs.take 6 := by
    rcases hq with ⟨h1, rfl⟩ | ⟨h1, rfl⟩
    · rw [List.take_of_length_le (by omega), List.take_of_length_le (by omega)]
    · rfl
  have hb6 := h.first hql
  rw [e6] at hb6
  obtain ⟨r, hr⟩ : ∃ r, bs.take 6 = r := ⟨_, rfl⟩
  have hrq : r.length = q := by rw [← hr, ← e6, List.length_take]; omega
  rw [hr] at hb6 ⊢
  have H6 := Lib.hid hb6
  have Hq := Lib.hid hrq
  rw [hl] at hc ⊢
  have hq6 : q ≤ 6 := by omega
  clear hb6 h hr e6 hrq hl hql
  have HD0 : Hid (DigAt r 0 0) := ⟨Nat.zero_le _, by omega, rfl, by decide⟩
  rcases hq with ⟨h1, rfl⟩ | ⟨h1, rfl⟩
  all_goals
    go_enter Try.func96, Try.ntmps96
    go_wp2
    go_loop [4, 13] (fun n i => ∃ k m : Nat, i = .int .i64 k ∧ n = .int .i64 m ∧ Hid (DigAt r k m)) (fun _ i => 6 - (intOf i).toNat)
    case atStart => exact ⟨0, 0, rfl, rfl, HD0⟩
    case round =>
      obtain ⟨k, m, rfl, rfl, HD⟩ := hrel
      obtain ⟨hkr, hk6, _, hm0⟩ := HD.out
      have hm := Nat.lt_of_lt_of_le hm0 (pow128 k hk6).1
      clear hm0
      by_cases hlt : k < r.length
      · have hx : r[k]? = some r[k] := List.getElem?_eq_getElem hlt
        generalize r[k] = x at hx
        obtain ⟨A, rfl, hcell⟩ := H6.out.atc hx
        have Hx := Lib.hid hx
        rw [Hq.out] at hlt hkr
        have hx8 := x.toNat_lt
        clear hx
        have HS := Lib.hid (digSum (x := x.toNat) hm hk6)
        by_cases h128 : x.toNat < 128
        · have hstop := Lib.hid (HD.out.stop Hx.out h128)
          by_cases hx0 : x.toNat = 0
          · by_cases hk0 : 0 < k
            · go_wp2
              go_ret2
              rw [hstop.out, if_pos ⟨hx0, hk0⟩]
              exact DigPost.mk rfl rfl
            · go_wp2
              go_ret2
              rw [hstop.out, if_neg (fun h => hk0 h.2)]
              exact DigPost.mk (by rw [hx0]; simp) (by simp)
          · go_wp2
            go_ret2
            rw [hstop.out, if_neg (fun h => hx0 h.1)]
            exact DigPost.mk HS.out (by simp)
        · have hst := Lib.hid (HD.out.step Hx.out (by rw [Hq.out]; omega) h128)
          go_wp2
          go_round
          case rel => exact ⟨k + 1, m + x.toNat % 128 * 128 ^ k, by go_num, by rw [HS.out], hst⟩
          case measure => simp [intOf]; omega
      · have hfin := Lib.hid (HD.out.fin (by omega))
        rw [Hq.out] at hlt hkr
        go_wp2
        refine bodyPost_ret (v := .tuple #[.int .i64 0, .int .i64 0]) (by simp [results, Try.results96, go_sem]) rfl ?_
        rw [hfin.out]
        exact DigPost.mk rfl rfl

/-- What read answers: a value's parts, and whether there is one. -/
def readM (k : Int) (n : Nat) (rest : List UInt8) : PVal × Bool :=
  if k = 2 then (if min rest.length 64 < n then (⟨0, 0, []⟩, false) else (⟨2, 0, rest.take n⟩, true))
  else if k = 3 then (⟨3, n, []⟩, true)
  else if k = 1 then (⟨1, zagN n, []⟩, true)
  else (⟨k, 0, []⟩, true)

def ReadPost (w : World) (p : PVal × Bool) (e : Ending) (w' : World) : Prop := e = .returned (.tuple #[.agg #[.int .i64 p.1.k, .int .i64 p.1.n, .string (strB p.1.s)], .bool p.2]) ∧ Below w.heap.size w w'

theorem strB_nil : strB [] = ⟨#[]⟩ := rfl

theorem ReadPost.mk {w w' : World} {p : PVal × Bool} {k n : Int} {s : ByteArray} {b : Bool} (h1 : p.1.k = k) (h2 : p.1.n = n) (h3 : strB p.1.s = s) (h4 : p.2 = b) (h : Below w.heap.size w w') : ReadPost w p (.returned (.tuple #[.agg #[.int .i64 k, .int .i64 n, .string s], .bool b])) w' := by
  rw [← h1, ← h2, ← h3, ← h4]; exact ⟨rfl, h⟩

set_option maxHeartbeats 4000000 in
set_option maxRecDepth 100000 in
theorem read_calls (k : Int) (n : Nat) (w : World) (v : Value) (bs : List UInt8) (h : BRow w v bs) (hn : n < 4398046511104) :
    Calls Try.prog 97 #[.int .i64 k, .int .i64 n, v] w (ReadPost w (readM k n bs)) := by
  obtain ⟨a, c, rfl, hc, hcm⟩ := h.len
  obtain ⟨l, hl⟩ : ∃ l, bs.length = l := ⟨_, rfl⟩
  have hlm : l ≤ maxLen := by omega
  unfold maxLen at hlm
  by_cases h2 : k = 2
  · subst h2
    by_cases hbig : min l 64 < n
    · have e1 : readM 2 n bs = (⟨0, 0, []⟩, false) := by unfold readM; rw [if_pos rfl, hl, if_pos hbig]
      rw [e1, hl]
      clear h e1 hl
      by_cases hl64 : l ≤ 64
      · have hg : ((l : Int) < n) := by omega
        clear hbig
        go_enter Try.func97, Try.ntmps97
        go_wp2
        refine bodyPost_ret (v := .tuple #[.agg #[.int .i64 0, .int .i64 0, .string ⟨#[]⟩], .bool false]) (by simp [results, Try.results97, go_sem]) rfl (ReadPost.mk rfl rfl rfl rfl ?_)
        repeat' (first | exact Below.refl _ _ | refine Below.alloc ?_ (by simp <;> omega) _ | refine Below.setCell ?_ (by simp <;> omega) _)
      · have hg : ((64 : Int) < n) := by omega
        clear hbig
        go_enter Try.func97, Try.ntmps97
        go_wp2
        refine bodyPost_ret (v := .tuple #[.agg #[.int .i64 0, .int .i64 0, .string ⟨#[]⟩], .bool false]) (by simp [results, Try.results97, go_sem]) rfl (ReadPost.mk rfl rfl rfl rfl ?_)
        repeat' (first | exact Below.refl _ _ | refine Below.alloc ?_ (by simp <;> omega) _ | refine Below.setCell ?_ (by simp <;> omega) _)
    · have hnl : n ≤ l := by omega
      have hn64 : n ≤ 64 := by omega
      have e1 : readM 2 n bs = (⟨2, 0, bs.take n⟩, true) := by unfold readM; rw [if_pos rfl, hl, if_neg hbig]
      have hb := h.first (m := n) (by omega)
      have Hcv : Hid (∀ W, Below w.heap.size w W → (convert 40 9 (.slice a n c)).run Try.prog W = .ok (.string (strB (bs.take n))) W) := fun W hW => conv_brow (hb.below hW)
      rw [e1, hl]
      generalize bs.take n = r at *
      have hsl : ∀ W : World, (Instr.slice 40 (.slice a l c) none (some (.int .i64 n)) none).run Try.prog W = .ok (.slice a n c) W := fun W => by
        have hz : (sizeOf 5).run Try.prog W = .ok 1 W := by kernel_rfl
        rw [run_slice_h (P := Try.prog) W 40 a l c (by kernel_rfl) .i64 (n : Int) (by omega) (by omega)]
        have he : Try.prog.elem 40 = 5 := by kernel_rfl
        rw [he, hz]
        cases a <;> simp [Result.andThen, sliced, Addr.add]
      have hcv : (convert 40 9 (.slice a n c)).run Try.prog (((w.alloc (.cells #[.int .i64 0, .int .i64 0, .string ⟨#[]⟩] 52)).alloc (.cells #[.int .i64 2, .int .i64 0, .string ⟨#[]⟩] 52))) = .ok (.string (strB r)) (((w.alloc (.cells #[.int .i64 0, .int .i64 0, .string ⟨#[]⟩] 52)).alloc (.cells #[.int .i64 2, .int .i64 0, .string ⟨#[]⟩] 52))) := Hcv.out _ (((Below.refl _ _).alloc (Nat.le_refl _) _).alloc (by simp) _)
      clear h e1 hl hb hbig
      have hd1 : ¬ ((l : Int) < n) := by omega
      have hd2 : ¬ ((64 : Int) < n) := by omega
      by_cases hl64 : l ≤ 64
      all_goals
        go_enter Try.func97, Try.ntmps97
        go_wp2
        refine bodyPost_ret (v := .tuple #[.agg #[.int .i64 2, .int .i64 0, .string (strB r)], .bool true]) (by simp [results, Try.results97, go_sem]) rfl (ReadPost.mk rfl rfl rfl rfl ?_)
        repeat' (first | exact Below.refl _ _ | refine Below.alloc ?_ (by simp <;> omega) _ | refine Below.setCell ?_ (by simp <;> omega) _)
  by_cases h3 : k = 3
  · subst h3
    have e1 : readM 3 n bs = (⟨3, n, []⟩, true) := rfl
    rw [e1, hl]
    clear h e1 hl
    go_enter Try.func97, Try.ntmps97
    go_wp2
    refine bodyPost_ret (v := .tuple #[.agg #[.int .i64 3, .int .i64 n, .string ⟨#[]⟩], .bool true]) (by simp [results, Try.results97, go_sem]) rfl (ReadPost.mk rfl rfl rfl rfl ?_)
    repeat' (first | exact Below.refl _ _ | refine Below.alloc ?_ (by simp <;> omega) _ | refine Below.setCell ?_ (by simp <;> omega) _)
  by_cases h1 : k = 1
  · subst h1
    have e1 : readM 1 n bs = (⟨1, zagN n, []⟩, true) := rfl
    rw [e1, hl]
    clear h e1 hl
    by_cases hm : n % 2 = 1
    · have e2 : zagN n = -(((n : Int) / 2)) - 1 := by unfold zagN; rw [if_pos hm]; omega
      have hm2 : (n : Int) % 2 = 1 := by omega
      go_enter Try.func97, Try.ntmps97
      go_wp2
      refine bodyPost_ret (v := .tuple #[.agg #[.int .i64 1, .int .i64 (-(((n : Int) / 2)) - 1), .string ⟨#[]⟩], .bool true]) (by simp [results, Try.results97, go_sem]) rfl (ReadPost.mk rfl e2 rfl rfl ?_)
      repeat' (first | exact Below.refl _ _ | refine Below.alloc ?_ (by simp <;> omega) _ | refine Below.setCell ?_ (by simp <;> omega) _)
    · have e2 : zagN n = (n : Int) / 2 := by unfold zagN; rw [if_neg hm]; omega
      have hm2 : ((n : Int) % 2 == 1) = false := by rw [beq_eq_false_iff_ne]; omega
      go_enter Try.func97, Try.ntmps97
      go_wp2
      refine bodyPost_ret (v := .tuple #[.agg #[.int .i64 1, .int .i64 ((n : Int) / 2), .string ⟨#[]⟩], .bool true]) (by simp [results, Try.results97, go_sem]) rfl (ReadPost.mk rfl e2 rfl rfl ?_)
      repeat' (first | exact Below.refl _ _ | refine Below.alloc ?_ (by simp <;> omega) _ | refine Below.setCell ?_ (by simp <;> omega) _)
  · have e1 : readM k n bs = (⟨k, 0, []⟩, true) := by unfold readM; rw [if_neg h2, if_neg h3, if_neg h1]
    rw [e1, hl]
    clear h e1 hl
    go_enter Try.func97, Try.ntmps97
    go_wp2
    refine bodyPost_ret (v := .tuple #[.agg #[.int .i64 k, .int .i64 0, .string ⟨#[]⟩], .bool true]) (by simp [results, Try.results97, go_sem]) rfl (ReadPost.mk rfl rfl rfl rfl ?_)
    repeat' (first | exact Below.refl _ _ | refine Below.alloc ?_ (by simp <;> omega) _ | refine Below.setCell ?_ (by simp <;> omega) _)

end Go.Proofs.Ytfmlgckfcclojaa
namespace Go.Proofs.Ytfmlgckfcclojaa
open Go.RowKit Go.Lib Go.Op

theorem fstD_cons (c : UInt8) (l : List UInt8) (i n : Nat) : fstD (c :: l) i n = if c.toNat < 128 then (n + c.toNat % 128 * 128 ^ i, i + 1) else fstD l (i + 1) (n + c.toNat % 128 * 128 ^ i) := rfl

/-- How far they are read. -/
def FstAt (r : List UInt8) (i n : Nat) : Prop := i ≤ r.length ∧ i ≤ 6 ∧ fstD (r.drop i) i n = fstD r 0 0 ∧ n < 128 ^ i

theorem FstAt.step {r : List UInt8} {i n : Nat} (h : FstAt r i n) {c : UInt8} (hc : r[i]? = some c) (hr : r.length ≤ 6) (h128 : ¬ c.toNat < 128) : FstAt r (i + 1) (n + c.toNat % 128 * 128 ^ i) := by
  obtain ⟨h1, h2, h3, h4⟩ := h
  obtain ⟨hi, hx⟩ := List.getElem?_eq_some_iff.1 hc
  rw [List.drop_eq_getElem_cons hi, hx, fstD_cons, if_neg h128] at h3
  refine ⟨hi, by omega, h3, ?_⟩
  have h5 := Nat.mod_lt c.toNat (show 0 < 128 by omega)
  have h6 : c.toNat % 128 * 128 ^ i ≤ 127 * 128 ^ i := Nat.mul_le_mul_right _ (by omega)
  rw [Nat.pow_succ]
  omega

theorem FstAt.stop {r : List UInt8} {i n : Nat} (h : FstAt r i n) {c : UInt8} (hc : r[i]? = some c) (h128 : c.toNat < 128) : fstD r 0 0 = (n + c.toNat % 128 * 128 ^ i, i + 1) := by
  obtain ⟨h1, h2, h3, h4⟩ := h
  obtain ⟨hi, hx⟩ := List.getElem?_eq_some_iff.1 hc
  rw [List.drop_eq_getElem_cons hi, hx, fstD_cons, if_pos h128] at h3
  exact h3.symm

theorem FstAt.fin {r : List UInt8} {i n : Nat} (h : FstAt r i n) (hi : i = r.length) : fstD r 0 0 = (n, i) := by
  obtain ⟨h1, h2, h3, h4⟩ := h
  rw [← h3, List.drop_eq_nil_of_le (by omega)]
  rfl

set_option maxHeartbeats 2000000 in
set_option maxRecDepth 100000 in
theorem efirst_calls (w : World) (v : Value) (bs : List UInt8) (h : BRow w v bs) : Calls Try.prog 87 #[v] w (DigPost w (firstD bs)) := by
  unfold firstD
  obtain ⟨a, c, rfl, hc, hcm⟩ := h.len
  obtain ⟨l, hl⟩ : ∃ l, bs.length = l := ⟨_, rfl⟩
  have hlm : l ≤ maxLen := by omega
  unfold maxLen at hlm
  obtain ⟨q, hq⟩ : ∃ q, (l ≤ 6 ∧ q = l) ∨ (6 < l ∧ q = 6) := by
    by_cases h6 : l ≤ 6
    · exact ⟨l, .inl ⟨h6, rfl⟩⟩
    · exact ⟨6, .inr ⟨by omega, rfl⟩⟩
  have hql : q ≤ bs.length := by omega
  have e6 : bs.take q = bs.take 6 := by
    rcases hq with ⟨h1, rfl⟩ | ⟨h1, rfl⟩
    · rw [List.take_of_length_le (by omega), List.take_of_length_le (by omega)]
    · rfl
  have hb6 := h.first hql
  rw [e6] at hb6
  obtain ⟨r, hr⟩ : ∃ r, bs.take 6 = r := ⟨_, rfl⟩
  have hrq : r.length = q := by rw [← hr, ← e6, List.length_take]; omega
  rw [hr] at hb6 ⊢
  have H6 := Lib.hid hb6
  have Hq := Lib.hid hrq
  rw [hl] at hc ⊢
  have hq6 : q ≤ 6 := by omega
  clear hb6 h hr e6 hrq hl hql
  have HD0 : Hid (FstAt r 0 0) := ⟨Nat.zero_le _, by omega, rfl, by decide⟩
  rcases hq with ⟨h1, rfl⟩ | ⟨h1, rfl⟩
  all_goals
    go_enter Try.func87, Try.ntmps87
    go_wp2
    go_loop [4, 5, 14] (fun n s i => ∃ k m : Nat, i = .int .i64 k ∧ s = .int .i64 k ∧ n = .int .i64 m ∧ Hid (FstAt r k m)) (fun _ _ i => 6 - (intOf i).toNat)
    case atStart => exact ⟨0, 0, rfl, rfl, rfl, HD0⟩
    case round =>
      obtain ⟨k, m, rfl, rfl, rfl, HD⟩ := hrel
      obtain ⟨hkr, hk6, _, hm0⟩ := HD.out
      have hm := Nat.lt_of_lt_of_le hm0 (pow128 k hk6).1
      clear hm0
      by_cases hlt : k < r.length
      · have hx : r[k]? = some r[k] := List.getElem?_eq_getElem hlt
        generalize r[k] = x at hx
        obtain ⟨A, rfl, hcell⟩ := H6.out.atc hx
        have Hx := Lib.hid hx
        rw [Hq.out] at hlt hkr
        have hx8 := x.toNat_lt
        clear hx
        have HS := Lib.hid (digSum (x := x.toNat) hm hk6)
        by_cases h128 : x.toNat < 128
        · have hstop := Lib.hid (HD.out.stop Hx.out h128)
          go_wp2
          go_ret2
          rw [hstop.out]
          exact DigPost.mk HS.out (by simp)
        · have hst := Lib.hid (HD.out.step Hx.out (by rw [Hq.out]; omega) h128)
          go_wp2
          go_round
          case rel => exact ⟨k + 1, m + x.toNat % 128 * 128 ^ k, by go_num, by go_num, by rw [HS.out], hst⟩
          case measure => simp [intOf]; omega
      · have hfin := Lib.hid (HD.out.fin (by omega))
        rw [Hq.out] at hlt hkr
        go_wp2
        go_ret2
        rw [hfin.out]
        exact DigPost.mk rfl rfl

/-- Bytes that are still to be read, held by a variable. -/
structure RB (w0 : World) (bb : Nat) (v : Value) (bs : List UInt8) (W : World) : Prop where
  c : W.cell? ⟨bb, 0, none⟩ = some v
  f : W.frozen? ⟨bb, 0, none⟩ = false
  row : BRow w0 v bs
  hb : Below w0.heap.size w0 W
  le : w0.heap.size ≤ bb

theorem RB.now {w0 : World} {bb : Nat} {v : Value} {bs : List UInt8} {W : World} (h : RB w0 bb v bs W) : BRow W v bs := h.row.below h.hb
theorem RB.set {w0 : World} {bb : Nat} {v v' : Value} {bs bs' : List UInt8} {W : World} (h : RB w0 bb v bs W) (hr : BRow w0 v' bs') : RB w0 bb v' bs' (W.setCell ⟨bb, 0, none⟩ v') where
  c := World.cell?_setCell_same _ _ _ h.c
  f := by simp [h.f]
  row := hr
  hb := h.hb.setCell h.le _
  le := h.le
theorem RB.below {w0 : World} {bb : Nat} {v : Value} {bs : List UInt8} {W W' : World} (h : RB w0 bb v bs W) (hb : Below W.heap.size W W') : RB w0 bb v bs W' where
  c := ekeep hb h.c
  f := (hb.frozen (p := ⟨bb, 0, none⟩) (World.block_lt_of_cell? _ _ h.c)).trans h.f
  row := h.row
  hb := h.hb.trans (hb.mono h.hb.size)
  le := h.le

/-- What cut leaves. -/
def CutsPost (w0 : World) (bb q : Nat) (bs : List UInt8) (W : World) (e : Ending) (w' : World) : Prop := ∃ hd v', e = .returned hd ∧ BRow w0 hd (bs.take q) ∧ w' = W.setCell ⟨bb, 0, none⟩ v' ∧ RB w0 bb v' (bs.drop q) w'

set_option maxHeartbeats 2000000 in
set_option maxRecDepth 100000 in
theorem cut1_calls (w0 W : World) (bb m : Nat) (v : Value) (bs : List UInt8) (q : Nat) (h : RB w0 bb v bs W) (hm : m ≤ 4611686018427387904) (hq : min m bs.length = q) :
    Calls Try.prog 85 #[.int .i64 m, .pointer (some ⟨bb, 0, none⟩)] W (CutsPost w0 bb q bs W) := by
  obtain ⟨a, c, rfl, hc, hcm⟩ := h.row.len
  have hql : q ≤ bs.length := by omega
  obtain ⟨vd, hvd, hbd⟩ := h.row.drop hql
  have hbh := h.row.first hql
  have HF := Lib.hid (h.set hbd)
  have HH := Lib.hid hbh
  have hcell := h.c
  have hfr := h.f
  obtain ⟨da, dc, ed, _, _⟩ := hbd.len
  subst ed
  generalize (bs.drop q).length = dl at *
  obtain ⟨l, hl⟩ : ∃ l, bs.length = l := ⟨_, rfl⟩
  rw [hl] at hc hql hvd hcell hq
  unfold maxLen at hcm
  clear h hbd hbh hl
  by_cases hml : m ≤ l
  · obtain rfl : m = q := by omega
    have hmin : min (m : Int) (l : Int) = m := by omega
    clear hq
    go_enter Try.func85, Try.ntmps85
    go_wp2
    go_ret
    exact ⟨_, _, rfl, HH.out, rfl, HF.out⟩
  · obtain rfl : l = q := by omega
    have hmin : min (m : Int) (l : Int) = l := by omega
    clear hq
    go_enter Try.func85, Try.ntmps85
    go_wp2
    go_ret
    exact ⟨_, _, rfl, HH.out, rfl, HF.out⟩

/-- What digits leaves. -/
def DigsPost (w0 : World) (bb n q : Nat) (bs : List UInt8) (W : World) (e : Ending) (w' : World) : Prop := ∃ v', e = .returned (.int .i64 n) ∧ w' = W.setCell ⟨bb, 0, none⟩ v' ∧ RB w0 bb v' (bs.drop q) w'

set_option maxHeartbeats 2000000 in
set_option maxRecDepth 100000 in
theorem dig2_calls (w0 W : World) (bb cb : Nat) (v : Value) (bs : List UInt8) (n q : Nat) (h : RB w0 bb v bs W) (hcb : W.cell? ⟨cb, 0, none⟩ = some (.func (.func 85) #[] #[.pointer (some ⟨bb, 0, none⟩)])) (hf : firstD bs = (n, q)) :
    Calls Try.prog 86 #[.pointer (some ⟨bb, 0, none⟩), .pointer (some ⟨cb, 0, none⟩)] W (DigsPost w0 bb n q bs W) := by
  have h1 := efirst_calls W v bs h.now
  have h2 := firstD_le bs
  rw [hf] at h1 h2
  have hc1 := cut1_calls w0 W bb q v bs q h (by omega) (by omega)
  have HC1 := Lib.hid hc1
  have HF := Lib.hid h1
  have hcell := h.c
  clear h1 hc1 h h2 hf
  go_enter Try.func86, Try.ntmps86
  go_wp2_with (first
    | (go_at_call 87; refine HF.out.mono ?_; rintro e w1 ⟨rfl, rfl⟩)
    | (go_at_call 85; refine HC1.out.mono ?_; rintro e w2 ⟨hd, v', rfl, hr, rfl, hrb⟩))
  go_ret
  exact ⟨_, rfl, rfl, hrb⟩

end Go.Proofs.Ytfmlgckfcclojaa
