/- Rows of texts: compared (Same), counted (great), framed (all). -/
import Derived.Test.YtmecpgnmeefpjaaF5
import Derived.Laws.AppendOwnNone
import Derived.Lib.MinMax
namespace Go.Proofs.Ytmecpgnmeefpjaa
open Go.RowKit Go.Lib

/-- Texts that can be read. -/
def TRow (w : World) (a : Option Addr) (rs : List (List UInt8)) : Prop := ∀ j r, rs[j]? = some r → ∃ A, a = some A ∧ w.cell? (A.add j) = some (.string (strB r)) ∧ r.length ≤ maxLen

theorem TRow.below {w w' : World} {a : Option Addr} {rs : List (List UInt8)} (h : TRow w a rs) (hb : Below w.heap.size w w') : TRow w' a rs := fun j r hj => by
  obtain ⟨A, h1, h2, h3⟩ := h j r hj
  exact ⟨A, h1, (hb.cell (World.block_lt_of_cell? _ _ h2)).trans h2, h3⟩

theorem TRow.of_owns {w : World} {base : Nat} {v : Value} {n : Nat} {rs : List (List UInt8)} (h : w.ownsRow base 9 1 v n (recCells rs)) (hs : ∀ r ∈ rs, r.length ≤ maxLen) : ∃ a c, v = .slice a rs.length c ∧ TRow w a rs ∧ n = rs.length := by
  have hn : n = rs.length := by have := h.1; rw [recCells_length] at this; omega
  subst hn
  have hc := fun g hg => h.cells (g := g) hg
  rcases h.2 with ⟨rfl, h0⟩ | ⟨g, cap, cur, rfl, _⟩
  · obtain rfl : rs = [] := List.eq_nil_of_length_eq_zero h0
    exact ⟨none, 0, rfl, fun j r hj => by simp at hj, rfl⟩
  · refine ⟨_, cap, rfl, fun j r hj => ⟨_, rfl, hc g rfl j _ (by simp [recCells, hj]), hs r (List.mem_of_getElem? hj)⟩, rfl⟩

theorem strB_toL (l : List UInt8) : (strB l).toList = l := by rw [ByteArray.toList_eq, strB_list]

theorem eq_of_all {xs ys : List (List UInt8)} (hl : xs.length = ys.length) (h : ∀ j, j < xs.length → xs[j]? = ys[j]?) : xs = ys := by
  apply List.ext_getElem? 
  intro j
  by_cases hj : j < xs.length
  · exact h j hj
  · rw [List.getElem?_eq_none (by omega), List.getElem?_eq_none (by omega)]

/-- What Same answers. -/
def SamePost (w : World) (xs ys : List (List UInt8)) (e : Ending) (w' : World) : Prop := e = .returned (.bool (decide (xs = ys))) ∧ ∃ n, w' = w.drewN n

set_option maxHeartbeats 1000000 in
theorem same_calls (w : World) (a b : Option Addr) (ca cb : Nat) (xs ys : List (List UInt8)) (hx : TRow w a xs) (hy : TRow w b ys) (hxl : xs.length ≤ maxLen) (hyl : ys.length ≤ maxLen) :
    Calls Try.prog 16 #[.slice a xs.length ca, .slice b ys.length cb] w (SamePost w xs ys) := by
  unfold maxLen at hxl hyl
  have Hx := Lib.hid hx
  have Hy := Lib.hid hy
  clear hx hy
  obtain ⟨n, hn⟩ : ∃ n, xs.length = n := ⟨_, rfl⟩
  obtain ⟨m, hm⟩ : ∃ m, ys.length = m := ⟨_, rfl⟩
  rw [hn, hm]
  rw [hn] at hxl
  rw [hm] at hyl
  have Hn := Lib.hid hn
  have Hm := Lib.hid hm
  by_cases hnm : n = m
  · clear hm
    subst hnm
    clear hn
    have hd : ((n : Int) != (n : Int)) = false := by simp
    go_enter Try.func16, Try.ntmps16
    go_wp2
    go_loopw [5] (fun i wr => ∃ k q : Nat, k ≤ n ∧ i = .int .i64 k ∧ wr = w.drewN q ∧ Hid (∀ j, j < k → xs[j]? = ys[j]?)) (fun i _ => n - (intOf i).toNat)
    case atStart => exact ⟨0, 0, Nat.zero_le _, rfl, rfl, fun j hj => absurd hj (Nat.not_lt_zero j)⟩
    case round =>
      obtain ⟨k, q, hk, rfl, rfl, Hall⟩ := hrel
      by_cases hlt : k < n
      · obtain ⟨x, hxk⟩ : ∃ x, xs[k]? = some x := ⟨_, List.getElem?_eq_getElem (by rw [Hn.out]; exact hlt)⟩
        obtain ⟨y, hyk⟩ : ∃ y, ys[k]? = some y := ⟨_, List.getElem?_eq_getElem (by rw [Hm.out]; exact hlt)⟩
        obtain ⟨A, rfl, hA, _⟩ := Hx.out k x hxk
        obtain ⟨B, rfl, hB, _⟩ := Hy.out k y hyk
        have hltn : (k : Int) < n := by omega
        have HXK := Lib.hid hxk
        have HYK := Lib.hid hyk
        clear hxk hyk
        by_cases hxy : x = y
        · have Hall' : Hid (∀ j, j < k + 1 → xs[j]? = ys[j]?) := fun j hj => by
            rcases Nat.lt_succ_iff_lt_or_eq.1 hj with h | h
            · exact Hall.out j h
            · subst h; rw [HXK.out, HYK.out, hxy]
          have ht : ((strB x).toList == (strB y).toList) = true := by rw [hxy, strB_toL]; exact beq_self_eq_true y
          clear hxy
          go_wp2
          go_quiet (fail)
          go_wp2
          go_roundw
          case rel => exact ⟨k + 1, _, by omega, by go_num, rfl, Hall'⟩
          case measure => simp [intOf]; omega
        · have ht : ((strB x).toList == (strB y).toList) = false := by rw [strB_toL, strB_toL, beq_eq_false_iff_ne]; exact hxy
          have hne : xs ≠ ys := fun e => hxy (by have h1 := HXK.out; rw [e, HYK.out] at h1; injection h1 with h1; exact h1.symm)
          have Hne := Lib.hid hne
          clear hxy hne
          go_wp2
          go_quiet (fail)
          go_wp2
          go_ret
          exact ⟨congrArg (fun x => Ending.returned (.bool x)) (decide_eq_false Hne.out).symm, _, World.drewN_drewN _ _ _⟩
      · go_wp2
        go_ret
        have hk' : k = n := by omega
        have he : xs = ys := eq_of_all (by rw [Hn.out, Hm.out]) (fun j hj => Hall.out j (by rw [Hn.out] at hj; omega))
        exact ⟨congrArg (fun x => Ending.returned (.bool x)) (decide_eq_true he).symm, _, rfl⟩
  · have hd : ((n : Int) != (m : Int)) = true := by rw [bne_iff_ne]; omega
    have hne : xs ≠ ys := fun e => hnm (by rw [← hn, ← hm, e])
    have Hne := Lib.hid hne
    clear hn hm hne
    go_enter Try.func16, Try.ntmps16
    go_wp2
    go_ret
    exact ⟨congrArg (fun x => Ending.returned (.bool x)) (decide_eq_false Hne.out).symm, 0, rfl⟩

/-- How much there is of texts, as great counts it. -/
def gN (rs : List (List UInt8)) : Nat → Nat
  | 0 => rs.length
  | k + 1 => if gN rs k < 30000 then gN rs k + min ((rs[k]?.map fun r => r.length).getD 0) 30000 else gN rs k
def greatB (rs : List (List UInt8)) : Bool := decide (30000 ≤ gN rs rs.length)

theorem gN_succ {rs : List (List UInt8)} {k : Nat} {r : List UInt8} (h : rs[k]? = some r) (hg : gN rs k < 30000) : gN rs (k + 1) = gN rs k + min r.length 30000 := by simp [gN, h, hg]
theorem gN_stay {rs : List (List UInt8)} {k : Nat} (h : 30000 ≤ gN rs k) : ∀ d, gN rs (k + d) = gN rs k
  | 0 => rfl
  | d + 1 => by
    have ih := gN_stay h d
    show (if gN rs (k + d) < 30000 then _ else gN rs (k + d)) = _
    rw [ih, if_neg (by omega)]
theorem gN_mono (rs : List (List UInt8)) (k : Nat) : ∀ d, gN rs k ≤ gN rs (k + d)
  | 0 => Nat.le_refl _
  | d + 1 => by
    have ih := gN_mono rs k d
    show _ ≤ (if gN rs (k + d) < 30000 then gN rs (k + d) + _ else gN rs (k + d))
    split <;> omega
theorem gN_bound (rs : List (List UInt8)) : ∀ k, gN rs k ≤ max rs.length 59999
  | 0 => by show rs.length ≤ _; omega
  | k + 1 => by
    have ih := gN_bound rs k
    show (if gN rs k < 30000 then _ else gN rs k) ≤ _
    split <;> omega

def lenS (rs : List (List UInt8)) : Nat := (rs.map fun r => r.length).sum
theorem lenS_take {rs : List (List UInt8)} {k : Nat} {r : List UInt8} (h : rs[k]? = some r) : lenS (rs.take (k + 1)) = lenS (rs.take k) + r.length := by
  simp [lenS, List.take_add_one, h]

theorem gN_sum {rs : List (List UInt8)} (h : gN rs rs.length < 30000) : ∀ k, k ≤ rs.length → gN rs k = rs.length + lenS (rs.take k)
  | 0, _ => by simp [gN, lenS]
  | k + 1, hk => by
    have ih := gN_sum h k (by omega)
    have hr : rs[k]? = some rs[k] := List.getElem?_eq_getElem (by omega)
    have h1 := gN_mono rs k (rs.length - k)
    rw [show k + (rs.length - k) = rs.length by omega] at h1
    have h2 := gN_mono rs (k + 1) (rs.length - (k + 1))
    rw [show k + 1 + (rs.length - (k + 1)) = rs.length by omega] at h2
    rw [gN_succ hr (by omega)] at h2 ⊢
    rw [lenS_take hr]
    omega

/-- What is not great: few texts, few bytes. -/
theorem small_of {rs : List (List UInt8)} (h : greatB rs = false) : rs.length + lenS rs < 30000 := by
  have h1 : gN rs rs.length < 30000 := by simpa [greatB] using h
  have h2 := gN_sum h1 rs.length (Nat.le_refl _)
  rw [List.take_length] at h2
  omega

set_option maxHeartbeats 1000000 in
set_option maxRecDepth 100000 in
theorem great_calls (w : World) (a : Option Addr) (c : Nat) (rs : List (List UInt8)) (hx : TRow w a rs) (hl : rs.length ≤ maxLen) :
    Calls Try.prog 17 #[.slice a rs.length c] w fun e w' => e = .returned (.bool (greatB rs)) ∧ w = w' := by
  unfold maxLen at hl
  obtain ⟨g, hg⟩ : ∃ g, greatB rs = g := ⟨_, rfl⟩
  rw [hg]
  have Hg := Lib.hid hg
  have Hx := Lib.hid hx
  obtain ⟨l, hn⟩ : ∃ l, rs.length = l := ⟨_, rfl⟩
  rw [hn] at hl ⊢
  have Hl := Lib.hid hn
  clear hn hx hg
  go_enter Try.func17, Try.ntmps17
  go_wp2_with fail
  go_loop [3, 4] (fun n i => ∃ k nn : Nat, k ≤ l ∧ i = .int .i64 k ∧ n = .int .i64 nn ∧ Hid (nn = gN rs k) ∧ nn ≤ max l 59999) (fun _ i => l - (intOf i).toNat)
  case atStart => exact ⟨0, l, Nat.zero_le _, rfl, rfl, Hl.out.symm, by omega⟩
  case round =>
    obtain ⟨k, nn, hk, rfl, rfl, Hnn, hnb⟩ := hrel
    by_cases hgo : k < l ∧ nn < 30000
    · obtain ⟨hlt, hn2⟩ := hgo
      obtain ⟨s, hs⟩ : ∃ s, rs[k]? = some s := ⟨_, List.getElem?_eq_getElem (by rw [Hl.out]; exact hlt)⟩
      obtain ⟨ad, rfl, hcell, hss⟩ := Hx.out k s hs
      unfold maxLen at hss
      have hsz : (strB s).size = s.length := strB_size s
      have Hsz := Lib.hid hsz
      have hss1 : (strB s).size ≤ 9223372036854775807 := by omega
      have Hnn1 : Hid (nn + min (strB s).size 30000 = gN rs (k + 1)) := by show _ = _; rw [gN_succ hs (by rw [← Hnn.out]; exact hn2), ← Hnn.out, Hsz.out]
      have hd : decide ((nn : Int) < 30000) = true := by simp; omega
      have hT0 : (0 : Int) ≤ min ((strB s).size : Int) 30000 := by omega
      have hT1 : min ((strB s).size : Int) 30000 ≤ 30000 := by omega
      have hcast : ((nn : Int) + min ((strB s).size : Int) 30000) = ((nn + min (strB s).size 30000 : Nat) : Int) := by omega
      have Hcast := Lib.hid hcast
      clear hs hsz hcast
      go_wp2
      go_round
      case rel => exact ⟨k + 1, nn + min (strB s).size 30000, by omega, by go_num, by rw [Hcast.out], Hnn1, by omega⟩
      case measure => simp [intOf]; omega
    · by_cases hbig : 30000 ≤ nn
      · have hd2 : decide ((nn : Int) < 30000) = false := by simp; omega
        have hd3 : decide ((30000 : Int) ≤ (nn : Int)) = true := by simp; omega
        have hgt : g = true := by
          have h1 := gN_stay (rs := rs) (k := k) (by rw [← Hnn.out]; exact hbig) (l - k)
          rw [show k + (l - k) = l by omega, ← Hl.out] at h1
          rw [← Hg.out]
          simp only [greatB, h1, ← Hnn.out]
          simpa using hbig
        have Hgt := Lib.hid hgt
        clear hgt
        by_cases hlt : k < l
        all_goals
          go_wp2
          go_ret
          exact ⟨congrArg (fun x => Ending.returned (.bool x)) Hgt.out.symm, rfl⟩
      · have hlt : ¬ k < l := by omega
        have hd3 : decide ((30000 : Int) ≤ (nn : Int)) = false := by simp; omega
        have hgt : g = false := by
          have e : k = l := by omega
          have h1 := Hnn.out
          rw [e, ← Hl.out] at h1
          rw [← Hg.out]
          simp only [greatB, ← h1]
          simpa using hbig
        have Hgt := Lib.hid hgt
        clear hgt
        go_wp2
        go_ret
        exact ⟨congrArg (fun x => Ending.returned (.bool x)) Hgt.out.symm, rfl⟩

/-- The builtin append of such bytes onto a row that is owned. -/
theorem run_append_brow {w : World} {B : Nat} {bv : Value} {bs : List UInt8} (hb : BRow w bv bs) {v : Value} {l : Nat} {xs : List UInt8} (hown : w.ownsRow B 5 1 v l (byteCells xs)) (h63 : l + bs.length ≤ 140737488355328) (hB : B ≤ w.heap.size) (ty : TypeId) :
    ∃ v' w', (Builtin.append_ #[22, 22] ty #[v, bv]).run Try.prog w = .ok v' w' ∧ w'.ownsRow B 5 1 v' (l + bs.length) (byteCells (xs ++ bs)) ∧ w.grownBy w' v.ownBlock := by
  obtain ⟨i0, hi, hz0, hz1, hz2⟩ := info_parts infoB8
  obtain ⟨a, c, rfl, h1, h2, h3, hx⟩ := hb
  have hap : byteCells (xs ++ bs) = byteCells xs ++ byteCells bs := by simp [byteCells]
  rw [hap]
  cases a with
  | none =>
    obtain rfl : bs = [] := by
      cases bs with
      | nil => rfl
      | cons x l =>
        obtain ⟨A, e, _⟩ := hx 0 x rfl
        cases e
    have hc := h3 rfl
    subst hc
    refine ⟨v, w, run_append_owned_none w B 22 ty 5 i0 1 Try.underlying22 hi v l _ hown, ?_, ⟨rfl, rfl, rfl, Nat.le_refl _, fun _ _ _ => rfl⟩⟩
    simpa [byteCells] using hown
  | some A =>
    obtain ⟨v', w', h4, h5, h6, _⟩ := run_append_own (P := Try.prog) w B 22 ty 5 i0 (.int .u8 0) 1 1 Try.underlying22 hi hz0 hz1 hz2 rfl (by decide) v l _ hown A bs.length c (byteCells bs) (by simp [byteCells_length])
      (fun j u hu => by
        simp only [byteCells, List.getElem?_map, Option.map_eq_some_iff] at hu
        obtain ⟨x, hx1, rfl⟩ := hu
        obtain ⟨A', e, h⟩ := hx j x hx1
        injection e with e
        rw [e]
        exact h) (byteCells_one bs) (by unfold maxLen; omega) (by omega) hB
    exact ⟨v', w', h4, h5, h6⟩

theorem wpList_append_brow {w : World} {ops : Array Oper} {rest : List Oper} {o : Oper} {a : Act} {Q : Exit → Act → World → Prop} (hgd : o.guard = none) (s x : Operand)
    (ho : o.op = .call { callee := .builtin .append, args := #[s, x], argTypes := #[22, 22] })
    {B : Nat} {bv : Value} {bs : List UInt8} (hb : BRow w bv bs) {v : Value} {l : Nat} {xs : List UInt8} (hown : w.ownsRow B 5 1 v l (byteCells xs)) (h63 : l + bs.length ≤ 140737488355328) (hB : B ≤ w.heap.size)
    (hs : a.eval s = v) (hx : a.eval x = bv)
    (h : ∀ v' w', w'.ownsRow B 5 1 v' (l + bs.length) (byteCells (xs ++ bs)) → w.grownBy w' v.ownBlock → wpList Try.prog ops Q rest (a.put o.dst v') w') :
    wpList Try.prog ops Q (o :: rest) a w := by
  refine wpList_plain hgd fun K hK => ?_
  obtain ⟨v', w', hr, h2, h3⟩ := run_append_brow hb hown h63 hB o.type
  unfold Oper.wp execOp
  simp only [ho, resolve, invoke, builtin, Sem.run_bind, Sem.run_pure, Result.andThen_ok, List.map_toArray, List.map_cons, List.map_nil, hs, hx, hr]
  exact hK _ _ (h v' w' h2 h3)

theorem allB_take {rs : List (List UInt8)} {k : Nat} {r : List UInt8} (h : rs[k]? = some r) : allB (rs.take (k + 1)) = allB (rs.take k) ++ putB r := by
  rw [List.take_add_one, h]
  exact allB_snoc _ _
theorem allB_le (rs : List (List UInt8)) : (allB rs).length ≤ lenS rs + 5 * rs.length := by
  induction rs with
  | nil => simp [allB, lenS]
  | cons r rs ih =>
    have := putB_le r
    simp only [allB_cons, List.length_append, lenS, List.map_cons, List.sum_cons, List.length_cons] at *
    omega
theorem lenS_take_le (rs : List (List UInt8)) (k : Nat) : lenS (rs.take k) ≤ lenS rs := by
  have h := congrArg lenS (List.take_append_drop k rs)
  simp only [lenS, List.map_append, List.sum_append] at *
  omega

/-- What all answers. -/
def AllPost (w : World) (rs : List (List UInt8)) (e : Ending) (w' : World) : Prop :=
  ∃ v, e = .returned v ∧ w'.ownsRow w.heap.size 5 1 v (allB rs).length (byteCells (allB rs)) ∧ Below w.heap.size w w'

set_option maxHeartbeats 1000000 in
theorem all_calls (w : World) (a : Option Addr) (c : Nat) (rs : List (List UInt8)) (hx : TRow w a rs) (hl : rs.length + lenS rs ≤ 10000000) :
    Calls Try.prog 18 #[.slice a rs.length c] w (AllPost w rs) := by
  have Hx := Lib.hid hx
  have Hls := Lib.hid hl
  obtain ⟨l, hn⟩ : ∃ l, rs.length = l := ⟨_, rfl⟩
  rw [hn] at hl ⊢
  have Hl := Lib.hid hn
  have hll : l ≤ 10000000 := by omega
  clear hn hx hl
  go_enter Try.func18, Try.ntmps18
  go_wp2_with fail
  go_loopw [3, 4] (fun v i wr => ∃ k : Nat, k ≤ l ∧ i = .int .i64 k ∧ Hid (wr.ownsRow w.heap.size 5 1 v (allB (rs.take k)).length (byteCells (allB (rs.take k)))) ∧ Hid (Below w.heap.size w wr)) (fun _ i _ => l - (intOf i).toNat)
  case atStart => exact ⟨0, Nat.zero_le _, rfl, World.ownsRow_nil _ _ _ _, Below.refl _ _⟩
  case round =>
    obtain ⟨k, hk, rfl, Hown, Hb⟩ := hrel
    by_cases hlt : k < l
    · obtain ⟨r, hr⟩ : ∃ r, rs[k]? = some r := ⟨_, List.getElem?_eq_getElem (by rw [Hl.out]; exact hlt)⟩
      obtain ⟨ad, rfl, hcell, hss⟩ := (Hx.out.below Hb.out) k r hr
      have hp := put_calls (strB r) wr (by rw [strB_size]; exact hss)
      rw [strB_list] at hp
      have hat := allB_take hr
      have Hat := Lib.hid hat
      have hle := allB_le rs
      have hsb : (allB (rs.take k)).length + (putB r).length ≤ 100000000 := by
        have h1 := allB_le (rs.take (k + 1))
        have h2 := lenS_take_le rs (k + 1)
        have h3 := List.length_take_le (k + 1) rs
        have h4 := Hls.out
        rw [hat, List.length_append] at h1
        omega
      have Hsb := Lib.hid hsb
      clear hr hat hle hsb
      go_wp2_with fail
      refine hp.mono ?_
      rintro e w2 ⟨v2, rfl, hown2, hb2⟩
      have hbr := Lib.hid (BRow.of_owns hown2)
      have hk2 : Hid (w2.ownsRow w.heap.size 5 1 _ (allB (rs.take k)).length (byteCells (allB (rs.take k)))) := Hown.out.kept (row := none) ⟨hb2.os, hb2.tape, hb2.output, hb2.size, fun q hq _ => hb2.block q hq⟩ (by cases Value.ownBlock _ <;> simp)
      have HB2 := Lib.hid (Hb.out.trans (hb2.mono Hb.out.size))
      clear hp hown2 hb2
      go_wp2_with (first
        | (at_builtin; refine wpList_append_brow rfl (.tmp 11) (.tmp 16) rfl hbr.out hk2.out (by have := Hsb.out; omega) HB2.out.size rfl rfl ?_; intro v3 w3 hown3 hgrow3))
      have HB3 := Lib.hid (HB2.out.grown hgrow3 HB2.out.size (fun q hq => (hk2.out.lt q hq).1))
      have HO3 := Lib.hid hown3
      clear hown3 hgrow3
      go_wp2_with fail
      go_roundw
      case rel => exact ⟨k + 1, by omega, by go_num, by rw [Hat.out, List.length_append]; exact HO3, HB3⟩
      case measure => simp [intOf]; omega
    · have hk' : k = l := by omega
      have hfin : rs.take k = rs := by rw [hk', ← Hl.out]; exact List.take_length
      have Hfin := Lib.hid hfin
      clear hfin hk'
      go_wp2
      go_ret
      refine ⟨_, rfl, ?_, Hb.out⟩
      have h1 := Hown.out
      rw [Hfin.out] at h1
      exact h1

end Go.Proofs.Ytmecpgnmeefpjaa
