/- Words: all tokens of a text. -/
import Derived.Test.YtefcbgnckgapgaaL4x
import Derived.Maps.AppendAt
import Derived.Laws.OwnMore
import Derived.Lib.AppendZeros
namespace Go.Proofs.Ytefcbgnckgapgaa
open Go.RowKit Go.Lib Go.Op

theorem lexX_end {f : Nat} {l : List UInt8} {a n : Nat} (h : l.length ≤ manyL xblank l) : lexX (f + 1) l a n = ([], 0, 0) := by rw [lexX, if_pos h]
theorem lexX_none {f : Nat} {l : List UInt8} {a n : Nat} (h : ¬ l.length ≤ manyL xblank l) (h2 : (firstX (l.drop (manyL xblank l))).2 = 0) : lexX (f + 1) l a n = ([], 71, a + manyL xblank l) := by rw [lexX, if_neg h, if_pos h2]
theorem lexX_many {f : Nat} {l : List UInt8} {a n : Nat} (h : ¬ l.length ≤ manyL xblank l) (h2 : (firstX (l.drop (manyL xblank l))).2 ≠ 0) (hn : n = 128) : lexX (f + 1) l a n = ([], 2, a + manyL xblank l) := by rw [lexX, if_neg h, if_neg h2, if_pos hn]
theorem lexX_more {f : Nat} {l : List UInt8} {a n : Nat} (h : ¬ l.length ≤ manyL xblank l) (h2 : (firstX (l.drop (manyL xblank l))).2 ≠ 0) (hn : n ≠ 128) :
    lexX (f + 1) l a n = consX ⟨(firstX (l.drop (manyL xblank l))).1, textX (firstX (l.drop (manyL xblank l))).1 ((l.drop (manyL xblank l)).take (firstX (l.drop (manyL xblank l))).2), a + manyL xblank l⟩
      (lexX f ((l.drop (manyL xblank l)).drop (firstX (l.drop (manyL xblank l))).2) (a + manyL xblank l + (firstX (l.drop (manyL xblank l))).2) (n + 1)) := by rw [lexX, if_neg h, if_neg h2, if_neg hn]

theorem firstX_three {l : List UInt8} (h : (firstX l).1 = 3) : 2 ≤ (firstX l).2 := by
  cases l with
  | nil => cases h
  | cons c t =>
    have h' : (firstC c t).1 = 3 := h
    show 2 ≤ (firstC c t).2
    unfold firstC at h' ⊢
    split at h'
    · split at h' <;> cases h'
    · rename_i n1
      rw [if_neg n1]
      split at h'
      · split at h' <;> cases h'
      · rename_i n2
        rw [if_neg n2]
        split at h'
        · rename_i hc
          rw [if_pos hc]
          split at h'
          · cases h'
          · rename_i hq
            rw [if_neg hq]
            show 2 ≤ 1 + _ + 1
            omega
        · split at h'
          · cases h'
          · split at h' <;> cases h'

theorem bsize (s : ByteArray) : s.data.toList.length = s.size := by simp

theorem wp_scope_jumps_from {P : Program} {a : Act} {w : World} {Q : Exit → Act → World → Prop} {c rest : Code} (l : Nat) (J : Act → World → Prop) (μ : Act → World → Nat) (hf : findLabel c l = some (.seq .skip rest))
    (hfirst : ∀ R : Exit → Act → World → Prop, (∀ a w, R .ret a w = Q .ret a w) → (∀ a1 w1, J a1 w1 → rest.wp P R a1 w1) → c.wp P R a w)
    (pass : ∀ a w, J a w → rest.wp P (Exit.jump l (fun a' w' => J a' w' ∧ μ a' w' < μ a w) Q) a w) : (Code.scope c).wp P Q a w :=
  wp_scope_jumps l J μ hf (hfirst _ (fun _ _ => rfl) (fun a1 w1 hJ => Code.wp_mono (fun e a w q => by
    cases e with
    | goto l' => exact ⟨q.1, q.2.1⟩
    | _ => exact q) (pass a1 w1 hJ))) (fun a w h => wp_seq (wp_skip (pass a w h)))

def XTok.cells (t : XTok) : List Value := [.int .i64 t.k, .string (strB t.b), .int .i64 t.at_]
def flatX : List XTok → List Value
  | [] => []
  | t :: l => t.cells ++ flatX l
theorem flatX_append : ∀ (l m : List XTok), flatX (l ++ m) = flatX l ++ flatX m
  | [], _ => rfl
  | t :: l, m => by rw [List.cons_append, flatX, flatX, flatX_append l m, List.append_assoc]
theorem flatX_len : ∀ (l : List XTok), (flatX l).length = l.length * 3
  | [] => rfl
  | t :: l => by rw [flatX, List.length_append, flatX_len l, List.length_cons]; simp [XTok.cells]; omega
theorem flatX_one : ∀ (l : List XTok), ∀ u ∈ flatX l, u.oneCell' = true
  | [], u, h => by cases h
  | t :: l, u, h => by
    rw [flatX, List.mem_append] at h
    rcases h with h | h
    · simp only [XTok.cells, List.mem_cons, List.not_mem_nil, or_false] at h
      rcases h with rfl | rfl | rfl <;> rfl
    · exact flatX_one l u h

theorem infoX : (Try.prog.info? 72).map (fun i => (i.zero, i.size, i.bytes)) = some (some (.agg #[.int .i64 0, .string .empty, .int .i64 0]), 3, 32) := by kernel_rfl

/-- Tokens in a row of one's own. -/
def XOwn (w : World) (B : Nat) (v : Value) (l : List XTok) : Prop := w.ownsRow B 72 3 v l.length (flatX l)
theorem XOwn.nil (w : World) (B : Nat) : XOwn w B (.slice none 0 0) [] := World.ownsRow_nil _ _ _ _
theorem XOwn.below {w w' : World} {B : Nat} {v : Value} {l : List XTok} (h : XOwn w B v l) (hb : Below w.heap.size w w') : XOwn w' B v l := by
  refine ⟨h.1, ?_⟩
  rcases h.2 with h2 | ⟨g, cap, cur, rfl, hg, hh, r⟩
  · exact Or.inl h2
  · exact Or.inr ⟨g, cap, cur, rfl, hg, (hb.block g (Array.getElem?_eq_some_iff.1 hh).1).trans hh, r⟩
theorem XOwn.slice {w : World} {B : Nat} {v : Value} {l : List XTok} (h : XOwn w B v l) : ∃ a c, v = .slice a l.length c := by
  rcases h.2 with ⟨rfl, h0⟩ | ⟨g, cap, cur, rfl, _⟩
  · exact ⟨none, 0, by rw [h0]⟩
  · exact ⟨_, cap, rfl⟩
theorem XOwn.append {w : World} {B : Nat} {v : Value} {l : List XTok} (h : XOwn w B v l) (hB : B ≤ w.heap.size) (hl : l.length ≤ 1000) (x : XTok) (vb : Nat) (hvb : w.heap[vb]? = some (.cells x.cells.toArray 72 (0, 0))) (ty : TypeId) :
    ∃ v' w', (Builtin.append_ #[64, 64] ty #[v, .slice (some ⟨vb, 0, none⟩) 1 1]).run Try.prog w = .ok v' w' ∧ XOwn w' B v' (l ++ [x]) ∧ w.grownBy w' v.ownBlock := by
  obtain ⟨i0, hi, hz0, hz1, hz2⟩ := info_parts infoX
  have hsrc : ∀ j u, x.cells[j]? = some u → w.cell? ((⟨vb, 0, none⟩ : Addr).add j) = some u := fun j u hj => by
    have e : (⟨vb, 0, none⟩ : Addr).add j = ⟨vb, j, none⟩ := by unfold Addr.add; split <;> simp_all
    rw [e, cell_of_row w vb j _ 72 (0, 0) hvb]
    simpa using hj
  obtain ⟨v', w', hr, h2, h3, _, h5⟩ := run_append_own_at (P := Try.prog) w B 64 ty 72 i0 _ 3 32 Try.underlying64 hi hz0 hz1 hz2 rfl (by decide) v l.length (flatX l) h ⟨vb, 0, none⟩ 1 1 x.cells (by simp [XTok.cells]) hsrc (fun u hu => flatX_one [x] u (by simpa [flatX] using hu)) (by unfold maxLen; omega) (by omega) hB
  refine ⟨v', w', hr, ?_, h3⟩
  unfold XOwn
  rw [flatX_append, List.length_append]
  simpa [flatX] using h2

/-- What Read leaves. -/
def ReadQ (w : World) (r : List XTok × Nat × Nat) (e : Ending) (w' : World) : Prop :=
  ∃ v, e = .returned (.tuple #[v, .int .i64 r.2.1, .int .i64 r.2.2]) ∧ XOwn w' w.heap.size v r.1 ∧ Below w.heap.size w w'
theorem ReadQ.mk {w : World} {r : List XTok × Nat × Nat} {l : List XTok} {x p : Nat} {x' p' : Int} {v : Value} {w' : World} (h : r = (l, x, p)) (hx : x' = x) (hp : p' = p) (ho : XOwn w' w.heap.size v l) (hb : Below w.heap.size w w') : ReadQ w r (.returned (.tuple #[v, .int .i64 x', .int .i64 p'])) w' := by
  subst h hx hp
  exact ⟨v, rfl, ho, hb⟩

/-- What is held at the label. -/
def XIn (w : World) (l : List UInt8) (f at_ : Nat) (acc : List XTok) (v : Value) (W : World) : Prop :=
  at_ ≤ l.length ∧ l.length - at_ < f ∧ readX l = appX acc (lexX f (l.drop at_) at_ acc.length) ∧ acc.length ≤ 128 ∧ XOwn W w.heap.size v acc ∧ Below w.heap.size w W

theorem XIn.step {w : World} {l : List UInt8} {f a : Nat} {acc : List XTok} {v v2 : Value} {W w2 : World} (h : XIn w l (f + 1) a acc v W) {b : Nat} (hb : manyL xblank (l.drop a) = b) (_hne : ¬ a + b = l.length) {k z : Nat} (hz : firstX (l.drop (a + b)) = (k, z)) (h0 : z ≠ 0) (h128 : acc.length ≠ 128)
    (ho : XOwn w2 w.heap.size v2 (acc ++ [⟨k, textX k ((l.drop (a + b)).take z), a + b⟩])) (hbw : Below w.heap.size w w2) : XIn w l f (a + b + z) (acc ++ [⟨k, textX k ((l.drop (a + b)).take z), a + b⟩]) v2 w2 := by
  obtain ⟨h1, h2, h3, h4, _, _⟩ := h
  have hble := manyL_le xblank (l.drop a)
  rw [List.length_drop, hb] at hble
  have hle := firstX_le (l.drop (a + b))
  rw [hz, List.length_drop] at hle
  dsimp only at hle
  have hdd : (l.drop a).drop (manyL xblank (l.drop a)) = l.drop (a + b) := by rw [hb, List.drop_drop]
  refine ⟨by omega, by omega, ?_, by rw [List.length_append]; simp; omega, ho, hbw⟩
  rw [h3, lexX_more (by rw [List.length_drop, hb]; omega) (by rw [hdd, hz]; exact h0) h128, hdd, hz, hb, appX_cons]
  dsimp only
  rw [List.drop_drop, List.length_append]
  rfl

end Go.Proofs.Ytefcbgnckgapgaa
