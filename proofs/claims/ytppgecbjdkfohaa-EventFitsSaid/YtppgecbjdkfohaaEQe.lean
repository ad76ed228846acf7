/- The statement EventFits, its walk. -/
import Derived.Test.YtppgecbjdkfohaaEPe
import Derived.Deep.DeepCutAuto
namespace Go.Proofs.Ytppgecbjdkfohaa
open Go.RowKit Go.Lib Go.Op

/-- A row's field that is written while a row grows. -/
structure CM (w : World) (L : List (Nat × Nat × Value)) (M B : Nat) (W : World) : Prop where
  cl : CL w L W
  fz : W.frozen? ⟨M, 4, none⟩ = false
  ex : ∃ v, W.cell? ⟨M, 4, none⟩ = some v
  le : B ≤ W.heap.size
  mB : M < B
  lB : ∀ b i v, (b, i, v) ∈ L → b < B
  wM : w.heap.size ≤ M
  ne : ∀ b i v, (b, i, v) ∈ L → b = M → i ≠ 4

section
variable {w W W' : World} {L : List (Nat × Nat × Value)} {M B : Nat}
theorem CM.below (h : CM w L M B W) (hb : Below W.heap.size W W') : CM w L M B W' where
  cl := h.cl.below hb
  fz := (hb.frozen (p := ⟨M, 4, none⟩) (Nat.lt_of_lt_of_le h.mB h.le)).trans h.fz
  ex := by obtain ⟨v, hv⟩ := h.ex; exact ⟨v, ekeep hb hv⟩
  le := Nat.le_trans h.le hb.size
  mB := h.mB
  lB := h.lB
  wM := h.wM
  ne := h.ne
theorem CM.alloc (o : Obj) (h : Hid (CM w L M B W)) : Hid (CM w L M B (W.alloc o)) := h.out.below ((Below.refl _ _).alloc (Nat.le_refl _) o)
theorem CM.drew (h : Hid (CM w L M B W)) : Hid (CM w L M B W.drew) := h.out.below (vbelow_drew (Below.refl _ _))
theorem CM.adrew (o : Obj) (h : Hid (CM w L M B W.drew)) : Hid (CM w L M B (W.alloc o).drew) := CM.alloc (W := W.drew) o h
theorem CM.grown (h : Hid (CM w L M B W)) (hb : Below B W W') : Hid (CM w L M B W') where
  cl := (CL.grown (W := W) (show Hid (CL w L W) from h.out.cl) h.out.lB (Nat.le_trans h.out.wM (Nat.le_of_lt h.out.mB)) hb).out
  fz := (hb.frozen (p := ⟨M, 4, none⟩) h.out.mB).trans h.out.fz
  ex := by obtain ⟨v, hv⟩ := h.out.ex; exact ⟨v, (hb.cell (p := ⟨M, 4, none⟩) h.out.mB).trans hv⟩
  le := Nat.le_trans h.out.le hb.size
  mB := h.out.mB
  lB := h.out.lB
  wM := h.out.wM
  ne := h.out.ne
theorem CM.set (h : Hid (CM w L M B W)) (x : Value) : Hid (CM w L M B (W.setCell ⟨M, 4, none⟩ x)) where
  cl := ⟨fun b i v hm => by
    by_cases e : b = M
    · rw [World.cell?_setCell_other _ _ _ _ (by intro e2; injection e2 with _ e3; exact h.out.ne b i v hm e e3.symm)]
      exact h.out.cl.cs b i v hm
    · exact (set_other (fun e2 => e e2.symm)).trans (h.out.cl.cs b i v hm), h.out.cl.hb.setCell h.out.wM _⟩
  fz := by simp [h.out.fz]
  ex := by obtain ⟨v, hv⟩ := h.out.ex; exact ⟨x, World.cell?_setCell_same _ _ _ hv⟩
  le := by simpa using h.out.le
  mB := h.out.mB
  lB := h.out.lB
  wM := h.out.wM
  ne := h.out.ne
theorem CM.put (h : Hid (CM w L M B W)) (x : Value) : Hid (CL w (L ++ [(M, 4, x)]) (W.setCell ⟨M, 4, none⟩ x)) := by
  obtain ⟨v, hv⟩ := h.out.ex
  refine CL.append (W := W.setCell ⟨M, 4, none⟩ x) (show Hid (CL w L _) from (CM.set h x).out.cl) fun b i u hm => ?_
  simp only [List.mem_cons, Prod.mk.injEq, List.not_mem_nil, or_false] at hm
  obtain ⟨rfl, rfl, rfl⟩ := hm
  exact World.cell?_setCell_same _ _ _ hv

/-- The builtin append of values beside such a field. -/
theorem step_append_cm {ops : Array Oper} {o : Oper} {a : Act} {K : Act → World → Prop} {Q : Exit → Act → World → Prop} {E : Prop} (hgd : o.guard = none) (s x : Operand)
    (ho : o.op = .call { callee := .builtin .append, args := #[s, x], argTypes := #[23, 23] })
    (hc : Hid (CM w L M B W)) {y : Value} {vs : List VIn} (hv : VSl W y vs) {v : Value} {ws : List VIn} (hown : VOwn W B v ws) (hl : ws.length + vs.length ≤ 1000)
    (hs : a.eval s = v) (hx : a.eval x = y)
    (h : ∀ v' w', Hid (VOwn w' B v' (ws ++ vs)) → Hid (W.grownBy w' v.ownBlock) → Hid (CM w L M B w') → K (a.put o.dst v') w') :
    if Region.wanted o (yielded ops a.tmps) = true then Oper.wp Try.prog o a W K Q else E :=
  step_append_vals hgd s x ho hv hown hl hc.out.le hs hx fun v' w' k1 k2 => h v' w' k1 k2 (CM.grown hc ((Below.refl B W).grown k2 hc.out.le (fun g hg => (World.ownsRow.lt hown g hg).1)))
end

/-- The first four cells of an event. -/
def eF (b : Nat) (t d s : Int) (n : ByteArray) : List (Nat × Nat × Value) := [(b, 0, .int .i64 t), (b, 1, .int .i64 d), (b, 2, .int .i64 s), (b, 3, .string n)]

/-- What came in, in its boxes. -/
def L0 (w : World) (nm : ByteArray) (f : Value) (t d s : Int) (n : ByteArray) (v : Value) (k m : Int) (z : ByteArray) : List (Nat × Nat × Value) := sC w.heap.size nm f ++ (eC (w.heap.size + 1) t d s n v ++ xC (w.heap.size + 1 + 1) k m z)

section
variable {w w' W : World} {L : List (Nat × Nat × Value)} {nm n z : ByteArray} {f v : Value} {t d s k m : Int} {M B : Nat}
theorem L0.start : Hid (CL w (L0 w nm f t d s n v k m z) (((w.alloc (.cells #[.string nm, f] 31)).alloc (.cells #[.int .i64 t, .int .i64 d, .int .i64 s, .string n, v] 25)).alloc (.cells #[.int .i64 k, .int .i64 m, .string z] 52))) := by
  refine ⟨fun b i u hm => ?_, by repeat' (first | exact Below.refl _ _ | refine Below.alloc ?_ (by simp <;> omega) _)⟩
  simp only [L0, sC, eC, xC, List.mem_append, List.mem_cons, Prod.mk.injEq, List.not_mem_nil, or_false] at hm
  rcases hm with h | h | h
  · rcases h with ⟨rfl, rfl, rfl⟩ | ⟨rfl, rfl, rfl⟩ <;> exact ekeepAl _ (ekeepAl _ (new_cell _ _ _ rfl rfl))
  · rcases h with ⟨rfl, rfl, rfl⟩ | ⟨rfl, rfl, rfl⟩ | ⟨rfl, rfl, rfl⟩ | ⟨rfl, rfl, rfl⟩ | ⟨rfl, rfl, rfl⟩ <;> exact ekeepAl _ (new_cell _ _ _ (by simp) rfl)
  · rcases h with ⟨rfl, rfl, rfl⟩ | ⟨rfl, rfl, rfl⟩ | ⟨rfl, rfl, rfl⟩ <;> exact new_cell _ _ _ (by simp) rfl
theorem L0.conj (h : Hid (CL w' (L0 w nm f t d s n v k m z ++ L) W)) :
    (W.cell? ⟨w.heap.size, 0, none⟩ = some (.string nm) ∧ W.cell? ⟨w.heap.size, 1, none⟩ = some f) ∧
    (W.cell? ⟨w.heap.size + 1, 0, none⟩ = some (.int .i64 t) ∧ W.cell? ⟨w.heap.size + 1, 1, none⟩ = some (.int .i64 d) ∧ W.cell? ⟨w.heap.size + 1, 2, none⟩ = some (.int .i64 s) ∧ W.cell? ⟨w.heap.size + 1, 3, none⟩ = some (.string n) ∧ W.cell? ⟨w.heap.size + 1, 4, none⟩ = some v) ∧
    (W.cell? ⟨w.heap.size + 1 + 1, 0, none⟩ = some (.int .i64 k) ∧ W.cell? ⟨w.heap.size + 1 + 1, 1, none⟩ = some (.int .i64 m) ∧ W.cell? ⟨w.heap.size + 1 + 1, 2, none⟩ = some (.string z)) := by
  refine ⟨⟨h.out.cs _ _ _ ?_, h.out.cs _ _ _ ?_⟩, ⟨h.out.cs _ _ _ ?_, h.out.cs _ _ _ ?_, h.out.cs _ _ _ ?_, h.out.cs _ _ _ ?_, h.out.cs _ _ _ ?_⟩, ⟨h.out.cs _ _ _ ?_, h.out.cs _ _ _ ?_, h.out.cs _ _ _ ?_⟩⟩ <;> simp [L0, sC, eC, xC]
theorem L0.conj0 (h : Hid (CL w' (L0 w nm f t d s n v k m z) W)) :
    (W.cell? ⟨w.heap.size, 0, none⟩ = some (.string nm) ∧ W.cell? ⟨w.heap.size, 1, none⟩ = some f) ∧
    (W.cell? ⟨w.heap.size + 1, 0, none⟩ = some (.int .i64 t) ∧ W.cell? ⟨w.heap.size + 1, 1, none⟩ = some (.int .i64 d) ∧ W.cell? ⟨w.heap.size + 1, 2, none⟩ = some (.int .i64 s) ∧ W.cell? ⟨w.heap.size + 1, 3, none⟩ = some (.string n) ∧ W.cell? ⟨w.heap.size + 1, 4, none⟩ = some v) ∧
    (W.cell? ⟨w.heap.size + 1 + 1, 0, none⟩ = some (.int .i64 k) ∧ W.cell? ⟨w.heap.size + 1 + 1, 1, none⟩ = some (.int .i64 m) ∧ W.cell? ⟨w.heap.size + 1 + 1, 2, none⟩ = some (.string z)) :=
  L0.conj (L := []) (show Hid (CL w' _ W) by rw [List.append_nil]; exact h)
/-- What a growing row beside a field wants. -/
theorem CM.conj (h : Hid (CM w' (L0 w nm f t d s n v k m z ++ L) M B W)) :
    W.cell? ⟨w.heap.size + 1, 4, none⟩ = some v ∧ W.cell? ⟨w.heap.size + 1 + 1, 0, none⟩ = some (.int .i64 k) ∧ W.cell? ⟨w.heap.size + 1 + 1, 1, none⟩ = some (.int .i64 m) ∧ W.cell? ⟨w.heap.size + 1 + 1, 2, none⟩ = some (.string z) ∧ Hid (CM w' (L0 w nm f t d s n v k m z ++ L) M B W) := by
  obtain ⟨_, h2, h3⟩ := L0.conj (show Hid (CL w' _ W) from h.out.cl)
  exact ⟨h2.2.2.2.2, h3.1, h3.2.1, h3.2.2, h⟩
/-- Such a field in a new box. -/
theorem CM.start (h : Hid (CL w L W)) : Hid (CM w (L ++ eF W.heap.size t d s n) W.heap.size (W.heap.size + 1) (W.alloc (.cells #[.int .i64 t, .int .i64 d, .int .i64 s, .string n, v] 25))) where
  cl := (CL.append (CL.alloc _ h) fun b i u hm => by
    simp only [eF, List.mem_cons, Prod.mk.injEq, List.not_mem_nil, or_false] at hm
    rcases hm with ⟨rfl, rfl, rfl⟩ | ⟨rfl, rfl, rfl⟩ | ⟨rfl, rfl, rfl⟩ | ⟨rfl, rfl, rfl⟩ <;> exact new_cell _ _ _ rfl rfl).out
  fz := new_frozen _ _ _ rfl
  ex := ⟨v, new_cell _ _ _ rfl rfl⟩
  le := by simp
  mB := Nat.lt_succ_self _
  lB b i u hm := by
    rcases List.mem_append.1 hm with h1 | h1
    · have := CL.lt h b i u h1; omega
    · simp only [eF, List.mem_cons, Prod.mk.injEq, List.not_mem_nil, or_false] at h1
      omega
  wM := h.out.hb.size
  ne b i u hm e := by
    rcases List.mem_append.1 hm with h1 | h1
    · have := CL.lt h b i u h1; omega
    · simp only [eF, List.mem_cons, Prod.mk.injEq, List.not_mem_nil, or_false] at h1
      omega
/-- What the last statement reads. -/
theorem F20.conj {M3 kb ko : Nat} {y2 y3 g : Value} (h : Hid (CL w' (L0 w nm f t d s n v k m z ++ (((eF M t d s n ++ [(M, 4, y2)]) ++ eF M3 t d s n) ++ ([(M3, 4, y3)] ++ [(kb, ko, g)]))) W)) :
    W.cell? ⟨w.heap.size, 0, none⟩ = some (.string nm) ∧ W.cell? ⟨w.heap.size, 1, none⟩ = some f ∧ W.cell? ⟨w.heap.size + 1 + 1, 0, none⟩ = some (.int .i64 k) ∧
    W.cell? ⟨M, 0, none⟩ = some (.int .i64 t) ∧ W.cell? ⟨M, 1, none⟩ = some (.int .i64 d) ∧ W.cell? ⟨M, 2, none⟩ = some (.int .i64 s) ∧ W.cell? ⟨M, 3, none⟩ = some (.string n) ∧ W.cell? ⟨M, 4, none⟩ = some y2 ∧
    W.cell? ⟨M3, 0, none⟩ = some (.int .i64 t) ∧ W.cell? ⟨M3, 1, none⟩ = some (.int .i64 d) ∧ W.cell? ⟨M3, 2, none⟩ = some (.int .i64 s) ∧ W.cell? ⟨M3, 3, none⟩ = some (.string n) ∧ W.cell? ⟨M3, 4, none⟩ = some y3 ∧
    W.cell? ⟨kb, ko, none⟩ = some g ∧ Hid (CL w' (L0 w nm f t d s n v k m z ++ (((eF M t d s n ++ [(M, 4, y2)]) ++ eF M3 t d s n) ++ ([(M3, 4, y3)] ++ [(kb, ko, g)]))) W) := by
  refine ⟨h.out.cs _ _ _ ?_, h.out.cs _ _ _ ?_, h.out.cs _ _ _ ?_, h.out.cs _ _ _ ?_, h.out.cs _ _ _ ?_, h.out.cs _ _ _ ?_, h.out.cs _ _ _ ?_, h.out.cs _ _ _ ?_, h.out.cs _ _ _ ?_, h.out.cs _ _ _ ?_, h.out.cs _ _ _ ?_, h.out.cs _ _ _ ?_, h.out.cs _ _ _ ?_, h.out.cs _ _ _ ?_, h⟩ <;> simp [L0, sC, eC, xC, eF]
end

end Go.Proofs.Ytppgecbjdkfohaa
