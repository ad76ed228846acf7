/- Words: a scope in which the run jumps onwards; the token that bytes begin with. -/
import Derived.Test.YtefcbgnckgapgaaL2x
import Derived.Lib.PathFns
import Derived.ScopeJumps
import Derived.WalkMore
namespace Go.Proofs.Ytefcbgnckgapgaa
open Go.RowKit Go.Lib Go.Op

/-- As Q; by a goto, what lies behind that label, n times at most. -/
def Exit.goes (P : Program) : Nat → Code → (Exit → Act → World → Prop) → Exit → Act → World → Prop
  | 0, _, _, .goto _, _, _ => False
  | n + 1, c, Q, .goto l, a, w => ∃ rest, findLabel c l = some rest ∧ rest.wp P (Exit.goes P n c Q) a w
  | _, _, Q, e, a, w => Q e a w

theorem Exit.goes_ret (P : Program) (n : Nat) (c : Code) (Q : Exit → Act → World → Prop) (a : Act) (w : World) : Exit.goes P n c Q .ret a w = Q .ret a w := by cases n <;> rfl
theorem Exit.goes_goto (P : Program) (n : Nat) (c : Code) (Q : Exit → Act → World → Prop) (l : Nat) (a : Act) (w : World) : Exit.goes P (n + 1) c Q (.goto l) a w = ∃ rest, findLabel c l = some rest ∧ rest.wp P (Exit.goes P n c Q) a w := rfl

theorem wp_scope_goes {P : Program} {a : Act} {w : World} {Q : Exit → Act → World → Prop} {c : Code} (n : Nat) (h : c.wp P (Exit.goes P n c Q) a w) : (Code.scope c).wp P Q a w := by
  intro b k cs
  have key : ∀ n (rest : Code) a w, rest.wp P (Exit.goes P n c Q) a w → ∃ e a' w', Q e a' w' ∧ Arrives P (lone (b.at a (.code rest :: .inScope c :: k)) cs w) b k cs e a' w' := by
    intro n
    induction n with
    | zero =>
      intro rest a w h
      obtain ⟨e, a₁, w₁, hq, harr⟩ := h b (.inScope c :: k) cs
      cases e with
      | normal => exact ⟨.normal, a₁, w₁, hq, Steps.trans harr (.one step_inScope)⟩
      | exit id => exact ⟨.exit id, a₁, w₁, hq, fun k' hk => harr k' (by simp [exitTo, hk])⟩
      | goto l => exact hq.elim
      | ret => exact ⟨_, a₁, w₁, hq, harr⟩
      | panic ch => exact ⟨_, a₁, w₁, hq, harr⟩
      | outgrown => exact ⟨_, a₁, w₁, hq, harr⟩
    | succ n ih =>
      intro rest a w h
      obtain ⟨e, a₁, w₁, hq, harr⟩ := h b (.inScope c :: k) cs
      cases e with
      | normal => exact ⟨.normal, a₁, w₁, hq, Steps.trans harr (.one step_inScope)⟩
      | exit id => exact ⟨.exit id, a₁, w₁, hq, fun k' hk => harr k' (by simp [exitTo, hk])⟩
      | goto l =>
        obtain ⟨rest', hf, hr⟩ := hq
        have hg : gotoIn l (.inScope c :: k) = some (.code rest' :: .inScope c :: k) := by simp [gotoIn, hf]
        obtain ⟨e₂, a₂, w₂, hq₂, harr₂⟩ := ih rest' a₁ w₁ hr
        exact ⟨e₂, a₂, w₂, hq₂, .of_steps (harr _ hg) harr₂⟩
      | ret => exact ⟨_, a₁, w₁, hq, harr⟩
      | panic ch => exact ⟨_, a₁, w₁, hq, harr⟩
      | outgrown => exact ⟨_, a₁, w₁, hq, harr⟩
  obtain ⟨e, a', w', hq, harr⟩ := key n c a w h
  exact ⟨e, a', w', hq, .of_steps (.one step_scope) harr⟩
theorem wp_scope_goes' {P : Program} {a : Act} {w : World} {Q : Exit → Act → World → Prop} {c : Code} (n : Nat) (h : ∀ C : Code, Hid (C = c) → c.wp P (Exit.goes P n C Q) a w) : (Code.scope c).wp P Q a w := wp_scope_goes n (h c rfl)

def XFirst (w : World) (l : List UInt8) (e : Ending) (w' : World) : Prop := e = .returned (.tuple #[.int .i64 (firstX l).1, .int .i64 (firstX l).2]) ∧ Below w.heap.size w w'
theorem XFirst.mk {w : World} {l : List UInt8} {k n : Nat} {k' n' : Int} {w' : World} (h : firstX l = (k, n)) (hk : k' = k) (hn : n' = n) (hb : Below w.heap.size w w') : XFirst w l (.returned (.tuple #[.int .i64 k', .int .i64 n'])) w' := by
  unfold XFirst
  rw [h, hk, hn]
  exact ⟨rfl, hb⟩

end Go.Proofs.Ytefcbgnckgapgaa
