/- Words in plain words: what two texts have together. -/
import Derived.Test.YtejpakagbojaiaaDoorL9x
namespace Go.Proofs.YtejpakagbojaiaaDoor

theorem lexX_blank1 (f : Nat) {c : UInt8} (hc : xblank c = true) (l : List UInt8) (a n : Nat) : lexX f (c :: l) a n = lexX f l (a + 1) n := by
  cases f with
  | zero => rfl
  | succ g =>
    have hm : manyL xblank (c :: l) = manyL xblank l + 1 := by rw [manyL_cons, if_pos hc]
    rw [lexX, lexX, hm, List.length_cons, List.drop_succ_cons]
    simp only [Nat.add_le_add_iff_right, show a + (manyL xblank l + 1) = a + 1 + manyL xblank l by omega]
theorem lexX_blanks (f n : Nat) (l : List UInt8) : ∀ (q : List UInt8) (a : Nat), (∀ c ∈ q, xblank c = true) → lexX f (q ++ l) a n = lexX f l (a + q.length) n
  | [], a, _ => rfl
  | c :: q, a, h => by
    rw [List.cons_append, lexX_blank1 f (h c (by simp)), lexX_blanks f n l q (a + 1) (fun x hx => h x (by simp [hx])), List.length_cons, show a + 1 + q.length = a + (q.length + 1) by omega]

theorem consX_app (t : XTok) (x : List XTok) (r : List XTok × Nat × Nat) : consX t (appX x r) = appX (t :: x) r := by
  unfold consX appX
  by_cases h : r.2.1 = 0 <;> simp [h]

/-- With a blank and another text behind, a text's tokens are read first. -/
theorem lexX_ahead : ∀ (fa : Nat) (a : List UInt8) (at_ n : Nat) (x : List XTok) (p : Nat), lexX fa a at_ n = (x, 0, p) → ∀ (f : Nat) (b : List UInt8), (a ++ 32 :: b).length < f → ∃ g, b.length < g ∧ lexX f (a ++ 32 :: b) at_ n = appX x (lexX g b (at_ + a.length + 1) (n + x.length))
  | 0, a, at_, n, x, p, h, _, _, _ => by rw [lexX] at h; injection h with _ h; injection h with h _; cases h
  | fa + 1, a, at_, n, x, p, h, f, b, hf => by
    rw [List.length_append, List.length_cons] at hf
    obtain ⟨g0, hg0, ⟨h1, rfl⟩ | ⟨h1, h128, k, z, r, p', h2, h3, rfl, h5⟩⟩ := lexX_ok h
    · have hall : ∀ c ∈ a, xblank c = true := fun c hc => by
        refine manyL_take xblank a c ?_
        rw [List.take_of_length_le h1]
        exact hc
      refine ⟨f, by omega, ?_⟩
      rw [lexX_blanks f n (32 :: b) a at_ hall, lexX_blank, appX_nil _ (lexX_form _ _ _ _).1]
      rfl
    · obtain rfl : fa = g0 := by omega
      obtain ⟨f', rfl⟩ : ∃ f', f = f' + 1 := ⟨f - 1, by omega⟩
      have hle := firstX_le (a.drop (manyL xblank a))
      rw [h2, List.length_drop] at hle
      dsimp only at hle
      have hm : manyL xblank (a ++ 32 :: b) = manyL xblank a := manyL_append_lt xblank (by omega)
      have hd : (a ++ 32 :: b).drop (manyL xblank a) = a.drop (manyL xblank a) ++ 32 :: b := List.drop_append_of_le_length (by omega)
      have hzl : z ≤ (a.drop (manyL xblank a)).length := by rw [List.length_drop]; exact hle
      have hf1 : firstX (a.drop (manyL xblank a) ++ 32 :: b) = (k, z) := by
        refine firstX_same h2 h3 (List.take_append_of_le_length hzl) (fun y hy => ?_)
        by_cases hlt : z < (a.drop (manyL xblank a)).length
        · rw [List.getElem?_append_left hlt] at hy
          exact .inr hy
        · rw [List.getElem?_append_right (by omega), show z - (a.drop (manyL xblank a)).length = 0 by omega] at hy
          injection hy with hy
          exact .inl hy.symm
      obtain ⟨g, hg, ih⟩ := lexX_ahead fa _ _ _ _ _ h5 f' b (by
        rw [List.length_append, List.length_cons, List.length_drop, List.length_drop]
        omega)
      refine ⟨g, hg, ?_⟩
      rw [lexX_more (by rw [hm, List.length_append, List.length_cons]; omega) (by rw [hm, hd, hf1]; exact h3) h128, hm, hd, hf1]
      dsimp only
      rw [List.take_append_of_le_length hzl, List.drop_append_of_le_length hzl, ih, consX_app, List.length_drop, List.length_drop, List.length_cons]
      rw [show at_ + manyL xblank a + z + (a.length - manyL xblank a - z) + 1 = at_ + a.length + 1 by omega, show n + 1 + r.length = n + (r.length + 1) by omega]

def shiftT (d : Nat) (t : XTok) : XTok := ⟨t.k, t.b, t.at_ + d⟩
def shiftX (d : Nat) (r : List XTok × Nat × Nat) : List XTok × Nat × Nat := (r.1.map (shiftT d), r.2.1, if r.2.1 = 0 then 0 else r.2.2 + d)
theorem shiftX_cons (d : Nat) (t : XTok) (r : List XTok × Nat × Nat) : shiftX d (consX t r) = consX (shiftT d t) (shiftX d r) := by
  unfold shiftX consX
  by_cases h : r.2.1 = 0 <;> simp [h]
theorem lexX_shift (d : Nat) : ∀ (f : Nat) (l : List UInt8) (a n : Nat), l.length < f → lexX f l (a + d) n = shiftX d (lexX f l a n)
  | 0, l, a, n, h => by omega
  | f + 1, l, a, n, h => by
    by_cases h1 : l.length ≤ manyL xblank l
    · rw [lexX_end h1, lexX_end h1]; rfl
    · by_cases h2 : (firstX (l.drop (manyL xblank l))).2 = 0
      · rw [lexX_none h1 h2, lexX_none h1 h2]
        simp [shiftX]
        omega
      · by_cases h3 : n = 128
        · rw [lexX_many h1 h2 h3, lexX_many h1 h2 h3]
          simp [shiftX]
          omega
        · have hz := firstX_size h2
          rw [lexX_more h1 h2 h3, lexX_more h1 h2 h3, shiftX_cons, ← lexX_shift d f _ _ _ (by rw [List.length_drop, List.length_drop] at *; omega)]
          unfold shiftT
          dsimp only
          rw [show a + d + manyL xblank l = a + manyL xblank l + d by omega, show a + manyL xblank l + d + (firstX (l.drop (manyL xblank l))).2 = a + manyL xblank l + (firstX (l.drop (manyL xblank l))).2 + d by omega]
theorem lexX_fuel : ∀ (f g : Nat) (l : List UInt8) (a n : Nat), l.length < f → l.length < g → lexX f l a n = lexX g l a n
  | 0, g, l, a, n, h, _ => by omega
  | f + 1, 0, l, a, n, _, h => by omega
  | f + 1, g + 1, l, a, n, hf, hg => by
    by_cases h1 : l.length ≤ manyL xblank l
    · rw [lexX_end h1, lexX_end h1]
    · by_cases h2 : (firstX (l.drop (manyL xblank l))).2 = 0
      · rw [lexX_none h1 h2, lexX_none h1 h2]
      · by_cases h3 : n = 128
        · rw [lexX_many h1 h2 h3, lexX_many h1 h2 h3]
        · have hz := firstX_size h2
          rw [lexX_more h1 h2 h3, lexX_more h1 h2 h3, lexX_fuel f g _ _ _ (by rw [List.length_drop, List.length_drop] at *; omega) (by rw [List.length_drop, List.length_drop] at *; omega)]

/-- What is read where so many tokens are there, beside what is read where fewer are. -/
def CntX (n : Nat) (r0 r : List XTok × Nat × Nat) : Prop :=
  (r0.2.1 = 0 → (n + r0.1.length ≤ 128 → r = r0) ∧ (128 < n + r0.1.length → r.2.1 = 2)) ∧ (r0.2.1 ≠ 0 → r.2.1 ≠ 0 ∧ (r.2.2 = r0.2.2 ∨ r.2.1 = 2))
theorem consX_err (t : XTok) (r : List XTok × Nat × Nat) : (consX t r).2.1 = r.2.1 ∧ (r.2.1 ≠ 0 → (consX t r).2.2 = r.2.2) ∧ (r.2.1 = 0 → (consX t r).1 = t :: r.1) := by
  unfold consX
  by_cases h : r.2.1 = 0 <;> simp [h]
theorem lexX_count : ∀ (f : Nat) (l : List UInt8) (a n0 n : Nat), n0 ≤ n → n ≤ 128 → CntX n (lexX f l a n0) (lexX f l a n)
  | 0, l, a, n0, n, _, _ => by
    rw [lexX, lexX]
    exact ⟨(fun h => by cases h), fun _ => ⟨by simp, .inl rfl⟩⟩
  | f + 1, l, a, n0, n, h0, hn => by
    by_cases h1 : l.length ≤ manyL xblank l
    · rw [lexX_end h1, lexX_end h1]
      exact ⟨fun _ => ⟨fun _ => rfl, fun h => by simp at h; omega⟩, fun h => absurd rfl h⟩
    · by_cases h2 : (firstX (l.drop (manyL xblank l))).2 = 0
      · rw [lexX_none h1 h2, lexX_none h1 h2]
        exact ⟨(fun h => by cases h), fun _ => ⟨by simp, .inl rfl⟩⟩
      · by_cases h3 : n = 128
        · rw [lexX_many h1 h2 h3]
          by_cases h4 : n0 = 128
          · rw [lexX_many h1 h2 h4]
            exact ⟨(fun h => by cases h), fun _ => ⟨by simp, .inl rfl⟩⟩
          · rw [lexX_more h1 h2 h4]
            refine ⟨fun h => ⟨fun h' => ?_, fun _ => rfl⟩, fun _ => ⟨(by decide : (2 : Nat) ≠ 0), .inr rfl⟩⟩
            have he := consX_err ⟨(firstX (l.drop (manyL xblank l))).1, textX (firstX (l.drop (manyL xblank l))).1 ((l.drop (manyL xblank l)).take (firstX (l.drop (manyL xblank l))).2), a + manyL xblank l⟩ (lexX f ((l.drop (manyL xblank l)).drop (firstX (l.drop (manyL xblank l))).2) (a + manyL xblank l + (firstX (l.drop (manyL xblank l))).2) (n0 + 1))
            rw [he.1] at h
            rw [he.2.2 h, List.length_cons] at h'
            omega
        · have h4 : n0 ≠ 128 := by omega
          have ih := lexX_count f ((l.drop (manyL xblank l)).drop (firstX (l.drop (manyL xblank l))).2) (a + manyL xblank l + (firstX (l.drop (manyL xblank l))).2) (n0 + 1) (n + 1) (by omega) (by omega)
          rw [lexX_more h1 h2 h3, lexX_more h1 h2 h4]
          generalize lexX f ((l.drop (manyL xblank l)).drop (firstX (l.drop (manyL xblank l))).2) (a + manyL xblank l + (firstX (l.drop (manyL xblank l))).2) (n0 + 1) = r0 at ih ⊢
          generalize lexX f ((l.drop (manyL xblank l)).drop (firstX (l.drop (manyL xblank l))).2) (a + manyL xblank l + (firstX (l.drop (manyL xblank l))).2) (n + 1) = r at ih ⊢
          generalize (⟨(firstX (l.drop (manyL xblank l))).1, textX (firstX (l.drop (manyL xblank l))).1 ((l.drop (manyL xblank l)).take (firstX (l.drop (manyL xblank l))).2), a + manyL xblank l⟩ : XTok) = t
          have e0 := consX_err t r0
          have e1 := consX_err t r
          obtain ⟨i1, i2⟩ := ih
          refine ⟨fun h => ?_, fun h => ?_⟩
          · rw [e0.1] at h
            obtain ⟨j1, j2⟩ := i1 h
            rw [e0.2.2 h, List.length_cons, e1.1]
            exact ⟨fun h' => by rw [j1 (by omega)], fun h' => j2 (by omega)⟩
          · rw [e0.1] at h
            obtain ⟨j1, j2⟩ := i2 h
            rw [e1.1, e0.2.1 h, e1.2.1 j1]
            exact ⟨j1, j2⟩

/-- Two texts with a blank between. -/
theorem readX_join {a b : List UInt8} (hl : a.length + 1 + b.length ≤ 512) {x : List XTok} {p : Nat} (ha : readX a = (x, 0, p)) :
    ((readX b).2.1 ≠ 0 → (readX (a ++ 32 :: b)).2.1 ≠ 0 ∧ ((readX (a ++ 32 :: b)).2.2 = a.length + 1 + (readX b).2.2 ∨ (readX (a ++ 32 :: b)).2.1 = 2)) ∧
    ((readX b).2.1 = 0 → (128 < x.length + (readX b).1.length → (readX (a ++ 32 :: b)).2.1 = 2) ∧ (x.length + (readX b).1.length ≤ 128 → readX (a ++ 32 :: b) = (x ++ (readX b).1.map (shiftT (a.length + 1)), 0, 0))) := by
  have hx128 : x.length ≤ 128 := (readX_ok ha).2.2.1
  have hab : (a ++ 32 :: b).length ≤ 512 := by rw [List.length_append, List.length_cons]; omega
  have h1 : readX (a ++ 32 :: b) = lexX ((a ++ 32 :: b).length + 1) (a ++ 32 :: b) 0 0 := by unfold readX; rw [if_neg (by omega)]
  have h2 : readX b = lexX (b.length + 1) b 0 0 := by unfold readX; rw [if_neg (by omega)]
  have h3 : lexX (a.length + 1) a 0 0 = (x, 0, p) := by
    unfold readX at ha
    rw [if_neg (by omega)] at ha
    exact ha
  obtain ⟨g, hg, h4⟩ := lexX_ahead _ _ _ _ _ _ h3 ((a ++ 32 :: b).length + 1) b (by omega)
  rw [Nat.zero_add, Nat.zero_add] at h4
  have h5 := lexX_shift (a.length + 1) g b 0 x.length hg
  rw [Nat.zero_add] at h5
  have h6 := lexX_count g b 0 0 x.length (Nat.zero_le _) hx128
  rw [lexX_fuel g (b.length + 1) b 0 0 hg (by omega), ← h2] at h6
  rw [h5] at h4
  rw [h1, h4]
  generalize lexX g b 0 x.length = r at h6 ⊢
  obtain ⟨i1, i2⟩ := h6
  have hapx : ∀ (q : List XTok × Nat × Nat), (appX x q).2.1 = q.2.1 ∧ (q.2.1 ≠ 0 → (appX x q).2.2 = q.2.2) := fun q => by
    unfold appX
    by_cases h : q.2.1 = 0 <;> simp [h]
  refine ⟨fun h => ?_, fun h => ⟨fun h' => ?_, fun h' => ?_⟩⟩
  · obtain ⟨j1, j2⟩ := i2 h
    have hs : (shiftX (a.length + 1) r).2.1 = r.2.1 := rfl
    rw [(hapx _).1, (hapx _).2 (by rw [hs]; exact j1), hs]
    refine ⟨j1, ?_⟩
    rcases j2 with e | e
    · left
      show (if r.2.1 = 0 then 0 else r.2.2 + (a.length + 1)) = _
      rw [if_neg j1, e]
      omega
    · exact .inr e
  · rw [(hapx _).1]
    exact (i1 h).2 h'
  · rw [(i1 h).1 h']
    unfold appX shiftX
    simp [h]

end Go.Proofs.YtejpakagbojaiaaDoor
