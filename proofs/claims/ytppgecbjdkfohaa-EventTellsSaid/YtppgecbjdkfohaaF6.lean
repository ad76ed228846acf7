/- Rows of texts: compared (Same), counted (great), framed (all). -/
import Derived.Test.YtppgecbjdkfohaaF5
import Derived.Laws.AppendOwnNone
import Derived.Lib.MinMax
namespace Go.Proofs.Ytppgecbjdkfohaa
open Go.RowKit Go.Lib

/-- Texts that can be read. -/
def TRow (w : World) (a : Option Addr) (rs : List (List UInt8)) : Prop := ∀ j r, rs[j]? = some r → ∃ A, a = some A ∧ w.cell? (A.add j) = some (.string (strB r)) ∧ r.length ≤ maxLen

theorem TRow.below {w w' : World} {a : Option Addr} {rs : List (List UInt8)} (h : TRow w a rs) (hb : Below w.heap.size w w') : TRow w' a rs := fun j r hj => by
  obtain ⟨A, h1, h2, h3⟩ := h j r hj
  exact ⟨A, h1, (hb.cell (World.block_lt_of_cell? _ _ h2)).trans h2, h3⟩

theorem TRow.of_owns {w : World} {base : Nat} {v : Value} {n : Nat} {rs : List (List UInt8)} (h : w.ownsRow base 9 1 v n (recCells rs)) (hs : ∀ r ∈ rs, r.length ≤ maxLen) : ∃ a c, v = .slice a rs.length c ∧ TRow w a rs ∧ n = rs.length := by
  have hn : n = rs.length := by have := h.1; rw [recCells_length] at this; omega
  subst hn
  have hc := fun g hg => h.cells (g := g) hg
  rcases h.2 with ⟨rfl, h0⟩ | ⟨g, cap, cur, rfl, _⟩
  · obtain rfl : rs = [] := List.eq_nil_of_length_eq_zero h0
    exact ⟨none, 0, rfl, fun j r hj => by simp at hj, rfl⟩
  · refine ⟨_, cap, rfl, fun j r hj => ⟨_, rfl, hc g rfl j _ (by simp [recCells, hj]), hs r (List.mem_of_getElem? hj)⟩, rfl⟩

theorem strB_toL (l : List UInt8) : (strB l).toList = l := by rw [ByteArray.toList_eq, strB_list]

theorem eq_of_all {xs ys : List (List UInt8)} (hl : xs.length = ys.length) (h : ∀ j, j < xs.length → xs[j]? = ys[j]?) : xs = ys := by
  apply List.ext_getElem? 
  intro j
  by_cases hj : j < xs.length
  · exact h j hj
  · rw [List.getElem?_eq_none (by omega), List.getElem?_eq_none (by omega)]

/-- What Same answers. -/
def SamePost (w : World) (xs ys : List (List UInt8)) (e : Ending) (w' : World) : Prop := e = .returned (.bool (decide (xs = ys))) ∧ ∃ n, w' = w.drewN n

/-- How much there is of texts, as great counts it. -/
def gN (rs : List (List UInt8)) : Nat → Nat
  | 0 => rs.length
  | k + 1 => if gN rs k < 30000 then gN rs k + min ((rs[k]?.map fun r => r.length).getD 0) 30000 else gN rs k
def greatB (rs : List (List UInt8)) : Bool := decide (30000 ≤ gN rs rs.length)

theorem gN_succ {rs : List (List UInt8)} {k : Nat} {r : List UInt8} (h : rs[k]? = some r) (hg : gN rs k < 30000) : gN rs (k + 1) = gN rs k + min r.length 30000 := by simp [gN, h, hg]
theorem gN_stay {rs : List (List UInt8)} {k : Nat} (h : 30000 ≤ gN rs k) : ∀ d, gN rs (k + d) = gN rs k
  | 0 => rfl
  | d + 1 => by
    have ih := gN_stay h d
    show (if gN rs (k + d) < 30000 then _ else gN rs (k + d)) = _
    rw [ih, if_neg (by omega)]
theorem gN_mono (rs : List (List UInt8)) (k : Nat) : ∀ d, gN rs k ≤ gN rs (k + d)
  | 0 => Nat.le_refl _
  | d + 1 => by
    have ih := gN_mono rs k d
    show _ ≤ (if gN rs (k + d) < 30000 then gN rs (k + d) + _ else gN rs (k + d))
    split <;> omega
theorem gN_bound (rs : List (List UInt8)) : ∀ k, gN rs k ≤ max rs.length 59999
  | 0 => by show rs.length ≤ _; omega
  | k + 1 => by
    have ih := gN_bound rs k
    show (if gN rs k < 30000 then _ else gN rs k) ≤ _
    split <;> omega

def lenS (rs : List (List UInt8)) : Nat := (rs.map fun r => r.length).sum
theorem lenS_take {rs : List (List UInt8)} {k : Nat} {r : List UInt8} (h : rs[k]? = some r) : lenS (rs.take (k + 1)) = lenS (rs.take k) + r.length := by
  simp [lenS, List.take_add_one, h]

theorem gN_sum {rs : List (List UInt8)} (h : gN rs rs.length < 30000) : ∀ k, k ≤ rs.length → gN rs k = rs.length + lenS (rs.take k)
  | 0, _ => by simp [gN, lenS]
  | k + 1, hk => by
    have ih := gN_sum h k (by omega)
    have hr : rs[k]? = some rs[k] := List.getElem?_eq_getElem (by omega)
    have h1 := gN_mono rs k (rs.length - k)
    rw [show k + (rs.length - k) = rs.length by omega] at h1
    have h2 := gN_mono rs (k + 1) (rs.length - (k + 1))
    rw [show k + 1 + (rs.length - (k + 1)) = rs.length by omega] at h2
    rw [gN_succ hr (by omega)] at h2 ⊢
    rw [lenS_take hr]
    omega

/-- What is not great: few texts, few bytes. -/
theorem small_of {rs : List (List UInt8)} (h : greatB rs = false) : rs.length + lenS rs < 30000 := by
  have h1 : gN rs rs.length < 30000 := by simpa [greatB] using h
  have h2 := gN_sum h1 rs.length (Nat.le_refl _)
  rw [List.take_length] at h2
  omega

set_option maxRecDepth 100000 in
/-- The builtin append of such bytes onto a row that is owned. -/
theorem run_append_brow {w : World} {B : Nat} {bv : Value} {bs : List UInt8} (hb : BRow w bv bs) {v : Value} {l : Nat} {xs : List UInt8} (hown : w.ownsRow B 5 1 v l (byteCells xs)) (h63 : l + bs.length ≤ 140737488355328) (hB : B ≤ w.heap.size) (ty : TypeId) :
    ∃ v' w', (Builtin.append_ #[40, 40] ty #[v, bv]).run Try.prog w = .ok v' w' ∧ w'.ownsRow B 5 1 v' (l + bs.length) (byteCells (xs ++ bs)) ∧ w.grownBy w' v.ownBlock := by
  obtain ⟨i0, hi, hz0, hz1, hz2⟩ := info_parts infoB8
  obtain ⟨a, c, rfl, h1, h2, h3, hx⟩ := hb
  have hap : byteCells (xs ++ bs) = byteCells xs ++ byteCells bs := by simp [byteCells]
  rw [hap]
  cases a with
  | none =>
    obtain rfl : bs = [] := by
      cases bs with
      | nil => rfl
      | cons x l =>
        obtain ⟨A, e, _⟩ := hx 0 x rfl
        cases e
    have hc := h3 rfl
    subst hc
    refine ⟨v, w, run_append_owned_none w B 40 ty 5 i0 1 Try.underlying40 hi v l _ hown, ?_, ⟨rfl, rfl, rfl, Nat.le_refl _, fun _ _ _ => rfl⟩⟩
    simpa [byteCells] using hown
  | some A =>
    obtain ⟨v', w', h4, h5, h6, _⟩ := run_append_own (P := Try.prog) w B 40 ty 5 i0 (.int .u8 0) 1 1 Try.underlying40 hi hz0 hz1 hz2 rfl (by decide) v l _ hown A bs.length c (byteCells bs) (by simp [byteCells_length])
      (fun j u hu => by
        simp only [byteCells, List.getElem?_map, Option.map_eq_some_iff] at hu
        obtain ⟨x, hx1, rfl⟩ := hu
        obtain ⟨A', e, h⟩ := hx j x hx1
        injection e with e
        rw [e]
        exact h) (byteCells_one bs) (by unfold maxLen; omega) (by omega) hB
    exact ⟨v', w', h4, h5, h6⟩

theorem wpList_append_brow {w : World} {ops : Array Oper} {rest : List Oper} {o : Oper} {a : Act} {Q : Exit → Act → World → Prop} (hgd : o.guard = none) (s x : Operand)
    (ho : o.op = .call { callee := .builtin .append, args := #[s, x], argTypes := #[40, 40] })
    {B : Nat} {bv : Value} {bs : List UInt8} (hb : BRow w bv bs) {v : Value} {l : Nat} {xs : List UInt8} (hown : w.ownsRow B 5 1 v l (byteCells xs)) (h63 : l + bs.length ≤ 140737488355328) (hB : B ≤ w.heap.size)
    (hs : a.eval s = v) (hx : a.eval x = bv)
    (h : ∀ v' w', w'.ownsRow B 5 1 v' (l + bs.length) (byteCells (xs ++ bs)) → w.grownBy w' v.ownBlock → wpList Try.prog ops Q rest (a.put o.dst v') w') :
    wpList Try.prog ops Q (o :: rest) a w := by
  refine wpList_plain hgd fun K hK => ?_
  obtain ⟨v', w', hr, h2, h3⟩ := run_append_brow hb hown h63 hB o.type
  unfold Oper.wp execOp
  simp only [ho, resolve, invoke, builtin, Sem.run_bind, Sem.run_pure, Result.andThen_ok, List.map_toArray, List.map_cons, List.map_nil, hs, hx, hr]
  exact hK _ _ (h v' w' h2 h3)

theorem allB_take {rs : List (List UInt8)} {k : Nat} {r : List UInt8} (h : rs[k]? = some r) : allB (rs.take (k + 1)) = allB (rs.take k) ++ putB r := by
  rw [List.take_add_one, h]
  exact allB_snoc _ _
theorem allB_le (rs : List (List UInt8)) : (allB rs).length ≤ lenS rs + 5 * rs.length := by
  induction rs with
  | nil => simp [allB, lenS]
  | cons r rs ih =>
    have := putB_le r
    simp only [allB_cons, List.length_append, lenS, List.map_cons, List.sum_cons, List.length_cons] at *
    omega
theorem lenS_take_le (rs : List (List UInt8)) (k : Nat) : lenS (rs.take k) ≤ lenS rs := by
  have h := congrArg lenS (List.take_append_drop k rs)
  simp only [lenS, List.map_append, List.sum_append] at *
  omega

/-- What all answers. -/
def AllPost (w : World) (rs : List (List UInt8)) (e : Ending) (w' : World) : Prop :=
  ∃ v, e = .returned v ∧ w'.ownsRow w.heap.size 5 1 v (allB rs).length (byteCells (allB rs)) ∧ Below w.heap.size w w'

end Go.Proofs.Ytppgecbjdkfohaa
