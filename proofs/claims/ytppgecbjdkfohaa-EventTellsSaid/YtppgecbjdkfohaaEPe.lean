/- Events: cells that are held; calls of one schema. -/
import Derived.Test.YtppgecbjdkfohaaEOe
import Derived.Test.YtppgecbjdkfohaaEIe
import Derived.Test.YtppgecbjdkfohaaVK
import Derived.Deep.RegionHeld3
namespace Go.Proofs.Ytppgecbjdkfohaa
open Go.RowKit Go.Lib Go.Op

/-- Cells that are held. -/
structure CL (w : World) (L : List (Nat × Nat × Value)) (W : World) : Prop where
  cs : ∀ b i v, (b, i, v) ∈ L → W.cell? ⟨b, i, none⟩ = some v
  hb : Below w.heap.size w W

section
variable {w W W' : World} {L M : List (Nat × Nat × Value)}
theorem CL.below (h : CL w L W) (hb : Below W.heap.size W W') : CL w L W' := ⟨fun b i v hm => ekeep hb (h.cs b i v hm), h.hb.trans (hb.mono h.hb.size)⟩
theorem CL.alloc (o : Obj) (h : Hid (CL w L W)) : Hid (CL w L (W.alloc o)) := h.out.below ((Below.refl _ _).alloc (Nat.le_refl _) o)
theorem CL.drew (h : Hid (CL w L W)) : Hid (CL w L W.drew) := h.out.below (vbelow_drew (Below.refl _ _))
theorem CL.adrew (o : Obj) (h : Hid (CL w L W.drew)) : Hid (CL w L (W.alloc o).drew) := CL.alloc (W := W.drew) o h
theorem CL.drewN (h : Hid (CL w L W)) (n : Nat) : Hid (CL w L (W.drewN n)) := h.out.below (vbelow_drewN (Below.refl _ _) n)
theorem CL.lt (h : Hid (CL w L W)) : ∀ b i v, (b, i, v) ∈ L → b < W.heap.size := fun b i v hm => World.block_lt_of_cell? _ _ (h.out.cs b i v hm)
theorem CL.set {Y j : Nat} (hY : ∀ b i v, (b, i, v) ∈ L → b ≠ Y) (hw : w.heap.size ≤ Y) (h : Hid (CL w L W)) (x : Value) : Hid (CL w L (W.setCell ⟨Y, j, none⟩ x)) :=
  ⟨fun b i v hm => (set_other (fun e => hY b i v hm e.symm)).trans (h.out.cs b i v hm), h.out.hb.setCell hw _⟩
theorem CL.grown {B : Nat} (h : Hid (CL w L W)) (hB : ∀ b i v, (b, i, v) ∈ L → b < B) (hw : w.heap.size ≤ B) (hb : Below B W W') : Hid (CL w L W') :=
  ⟨fun b i v hm => (hb.cell (p := ⟨b, i, none⟩) (hB b i v hm)).trans (h.out.cs b i v hm), h.out.hb.trans (hb.mono hw)⟩
theorem CL.append (h : Hid (CL w L W)) (hM : ∀ b i v, (b, i, v) ∈ M → W.cell? ⟨b, i, none⟩ = some v) : Hid (CL w (L ++ M) W) :=
  ⟨fun b i v hm => by
    rcases List.mem_append.1 hm with h3 | h3
    · exact h.out.cs b i v h3
    · exact hM b i v h3, h.out.hb⟩
theorem CL.left (h : Hid (CL w (L ++ M) W)) : Hid (CL w L W) := ⟨fun b i v hm => h.out.cs b i v (List.mem_append_left _ hm), h.out.hb⟩
end

/-- The cells of a schema, an event, a value. -/
def sC (b : Nat) (n : ByteArray) (f : Value) : List (Nat × Nat × Value) := [(b, 0, .string n), (b, 1, f)]
def eC (b : Nat) (t d s : Int) (n : ByteArray) (v : Value) : List (Nat × Nat × Value) := [(b, 0, .int .i64 t), (b, 1, .int .i64 d), (b, 2, .int .i64 s), (b, 3, .string n), (b, 4, v)]
def xC (b : Nat) (k n : Int) (s : ByteArray) : List (Nat × Nat × Value) := [(b, 0, .int .i64 k), (b, 1, .int .i64 n), (b, 2, .string s)]

/-- One schema in a row of its own. -/
theorem SRow.one {w : World} (W : World) (S : SIn) (hf : FRow w S.fa S.fs) (hl : S.fs.length ≤ maxLen) (hn : S.name.size ≤ maxLen) (hb : Below w.heap.size w W) : SRow (W.alloc (.cells #[.string S.name, .slice S.fa S.fs.length S.fc] 31)) (some ⟨W.heap.size, 0, none⟩) [S] := by
  intro j x hj
  obtain ⟨rfl, rfl⟩ : j = 0 ∧ S = x := by
    cases j with
    | zero => exact ⟨rfl, by simpa using hj⟩
    | succ j => simp at hj
  refine ⟨_, rfl, ?_, ?_, hf.below (hb.alloc hb.size _), hl, hn⟩
  · rw [Nat.zero_mul, Addr.add_zero']; exact new_cell _ _ _ rfl rfl
  · unfold efld; rw [Nat.zero_mul, Addr.add_zero']; exact new_cell _ _ _ rfl rfl

theorem great_one {w : World} {L : List (Nat × Nat × Value)} (S : SIn) (hf : FRow w S.fa S.fs) (hl : S.fs.length ≤ maxLen) (hn : S.name.size ≤ maxLen) :
    Hid (∀ W : World, Hid (CL w L W) → Calls Try.prog 15 #[.slice (some ⟨W.heap.size, 0, none⟩) 1 1] (W.alloc (.cells #[.string S.name, .slice S.fa S.fs.length S.fc] 31)) (GreatQ (CL w L))) := fun W hW =>
  (greatS_calls (some ⟨W.heap.size, 0, none⟩) 1 [S] _ (SRow.one W S hf hl hn hW.out.hb) (by unfold maxLen; simp)).mono fun e w' ⟨g, h1, h2⟩ => ⟨g, h1, (CL.alloc _ hW).out.below h2⟩

/-- What Fits leaves. -/
def FitQ (z : Int) (P : World → Prop) (e : Ending) (w' : World) : Prop := e = .returned (.int .i64 z) ∧ Hid (P w')

theorem fit_one {w : World} {L : List (Nat × Nat × Value)} (S : SIn) (hf : FRow w S.fa S.fs) (hl : S.fs.length ≤ maxLen) (hn : S.name.size ≤ maxLen) (t d s : Int) (n : ByteArray) (hne : n.size ≤ maxLen) :
    Hid (∀ (W : World) (y : Value) (vs : List VIn) (z : Int), fitsA [S] t d s n vs = z → VSl W y vs → Hid (CL w L W) → Calls Try.prog 24 #[.slice (some ⟨W.heap.size, 0, none⟩) 1 1, evV t d s n y] (W.alloc (.cells #[.string S.name, .slice S.fa S.fs.length S.fc] 31)) (FitQ z fun w' => CL w L w' ∧ Below W.heap.size W w')) := fun W y vs z hz hv hW => by
  obtain ⟨a, c, rfl, h1, h2, h3, h4⟩ := hv
  have hb : Below W.heap.size W (W.alloc (.cells #[.string S.name, .slice S.fa S.fs.length S.fc] 31)) := (Below.refl _ _).alloc (Nat.le_refl _) _
  have h := fits_calls (some ⟨W.heap.size, 0, none⟩) 1 [S] t d s n a c vs _ (SRow.one W S hf hl hn hW.out.hb) (by unfold maxLen; simp) hne (h4.below hb) (by omega)
  subst hz
  exact h.mono fun e w' ⟨e1, h5⟩ => ⟨e1, (CL.alloc _ hW).out.below h5, hb.trans (h5.mono hb.size)⟩

/-- The builtin append of values, as a step of a region that draws its order. -/
theorem step_append_vals {w : World} {ops : Array Oper} {o : Oper} {a : Act} {K : Act → World → Prop} {Q : Exit → Act → World → Prop} {E : Prop} (hgd : o.guard = none) (s x : Operand)
    (ho : o.op = .call { callee := .builtin .append, args := #[s, x], argTypes := #[23, 23] })
    {B : Nat} {y : Value} {vs : List VIn} (hv : VSl w y vs) {v : Value} {ws : List VIn} (hown : VOwn w B v ws) (hl : ws.length + vs.length ≤ 1000) (hB : B ≤ w.heap.size)
    (hs : a.eval s = v) (hx : a.eval x = y)
    (h : ∀ v' w', VOwn w' B v' (ws ++ vs) → w.grownBy w' v.ownBlock → K (a.put o.dst v') w') :
    if Region.wanted o (yielded ops a.tmps) = true then Oper.wp Try.prog o a w K Q else E := by
  have hw : Region.wanted o (yielded ops a.tmps) = true := by simp [Region.wanted, hgd]
  rw [if_pos hw]
  obtain ⟨v', w', hr, h2, h3⟩ := run_append_vals hv hown hl hB o.type
  unfold Oper.wp execOp
  simp only [ho, resolve, invoke, builtin, Sem.run_bind, Sem.run_pure, Result.andThen_ok, List.map_toArray, List.map_cons, List.map_nil, hs, hx, hr]
  exact h v' w' h2 h3

end Go.Proofs.Ytppgecbjdkfohaa
