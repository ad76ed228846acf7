/- Words in plain words: what tokens are, where they stand, and how they are read again. -/
import Derived.Test.YtefcbgnckgapgaaL5x
namespace Go.Proofs.Ytefcbgnckgapgaa

theorem xblank_32 : xblank 32 = true := by decide
theorem xin_32 : xin 32 = false := by decide
theorem xdigit_32 : xdigit 32 = false := by decide
theorem xquot_39 : xquot 39 = false := by decide

/-- What begins with the same bytes, behind which nothing else goes on, begins with the same token. -/
theorem firstX_same {l u : List UInt8} {k z : Nat} (h : firstX l = (k, z)) (hz : z ≠ 0) (ht : u.take z = l.take z) (hn : ∀ x, u[z]? = some x → x = 32 ∨ l[z]? = some x) : firstX u = (k, z) := by
  have hle : z ≤ l.length := by have := firstX_le l; rw [h] at this; exact this
  have hul : z ≤ u.length := by
    have := congrArg List.length ht
    rw [List.length_take, List.length_take] at this
    omega
  cases l with
  | nil => rw [firstX] at h; injection h with _ h2; exact absurd h2.symm hz
  | cons c t =>
    obtain ⟨z, rfl⟩ : ∃ y, z = y + 1 := ⟨z - 1, by omega⟩
    cases u with
    | nil => simp at hul
    | cons c' t' =>
      rw [List.take_succ_cons, List.take_succ_cons] at ht
      injection ht with hc htt
      subst hc
      have h' : firstC c' t = (k, z + 1) := h
      show firstC c' t' = (k, z + 1)
      have hmany : ∀ p : UInt8 → Bool, p 32 = false → manyL p (c' :: t) = z + 1 → manyL p (c' :: t') = z + 1 := fun p hp hm => by
        refine manyL_is p _ _ hul (fun x hx => ?_) (fun x hx => ?_)
        · rw [List.take_succ_cons, htt, ← List.take_succ_cons, ← hm] at hx
          exact manyL_take p _ x hx
        · rcases hn x hx with e | e
          · rw [e]; exact hp
          · exact manyL_next p (c' :: t) x (by rw [hm]; exact e)
      unfold firstC at h' ⊢
      by_cases h1 : xletter c' = true
      · rw [if_pos h1] at h' ⊢
        split at h'
        · injection h' with _ h2; cases h2
        · rename_i h16
          injection h' with hk h2
          rw [hmany xin xin_32 h2, ← h2, if_neg h16, hk]
      · rw [if_neg h1] at h' ⊢
        by_cases h2 : xdigit c' = true
        · rw [if_pos h2] at h' ⊢
          split at h'
          · rename_i hr
            injection h' with hk h3
            rw [hmany xdigit xdigit_32 h3]
            rw [h3] at hr
            rw [List.take_succ_cons, htt, ← List.take_succ_cons, if_pos hr, hk]
          · injection h' with _ h3; cases h3
        · rw [if_neg h2] at h' ⊢
          by_cases h3 : c'.toNat = 39
          · rw [if_pos h3] at h' ⊢
            split at h'
            · injection h' with _ h4; cases h4
            · rename_i hq
              injection h' with hk h4
              have hml := manyL_le xquot t
              have hne : manyL xquot t ≠ t.length := fun e => hq (.inr (.inl e))
              have h39 : t[manyL xquot t]? = some 39 := Classical.byContradiction fun e => hq (.inr (.inr e))
              have hzz : z = manyL xquot t + 1 := by omega
              have hat : t'[manyL xquot t]? = some 39 := by
                have e1 : (t'.take z)[manyL xquot t]? = (t.take z)[manyL xquot t]? := by rw [htt]
                rw [List.getElem?_take, List.getElem?_take, if_pos (by omega), if_pos (by omega), h39] at e1
                exact e1
              have hm' : manyL xquot t' = manyL xquot t := by
                refine manyL_is xquot _ _ (by have := (List.getElem?_eq_some_iff.1 hat).1; omega) (fun x hx => ?_) (fun x hx => ?_)
                · have e2 : t'.take (manyL xquot t) = t.take (manyL xquot t) := by
                    have e3 := congrArg (List.take (manyL xquot t)) htt
                    rw [List.take_take, List.take_take, Nat.min_eq_left (by omega)] at e3
                    exact e3
                  rw [e2] at hx
                  exact manyL_take xquot t x hx
                · rw [hat] at hx
                  injection hx with hx
                  rw [← hx]; exact xquot_39
              rw [hm', if_neg, ← h4, hk]
              rintro (e | e | e)
              · exact hq (.inl e)
              · have := (List.getElem?_eq_some_iff.1 hat).1; omega
              · exact e hat
          · rw [if_neg h3] at h' ⊢
            by_cases h4 : t[0]? = some 61 ∧ amongL beforeL c' = true
            · rw [if_pos h4] at h'
              injection h' with hk h5
              have hz1 : z = 1 := by omega
              subst hz1
              have e1 : (t'.take 1)[0]? = (t.take 1)[0]? := by rw [htt]
              rw [List.getElem?_take, List.getElem?_take, if_pos (by omega), if_pos (by omega)] at e1
              rw [if_pos ⟨by rw [e1]; exact h4.1, h4.2⟩, hk]
            · rw [if_neg h4] at h'
              split at h'
              · rename_i hs
                injection h' with hk h5
                have hz0 : z = 0 := by omega
                subst hz0
                rw [if_neg, if_pos hs, hk]
                rintro ⟨e1, e2⟩
                rcases hn 61 (by simpa using e1) with e | e
                · cases e
                · exact h4 ⟨by simpa using e, e2⟩
              · injection h' with _ h5; cases h5

/-- A token that a text has. -/
def GoodT (t : XTok) : Prop := ∃ r z, firstX r = (t.k, z) ∧ z ≠ 0 ∧ t.b = textX t.k (r.take z) ∧ ∀ x, r[0]? = some x → xblank x = false

theorem GoodT.said {t : XTok} {r : List UInt8} {z : Nat} (h1 : firstX r = (t.k, z)) (h2 : z ≠ 0) (h3 : t.b = textX t.k (r.take z)) : saidX t = r.take z := by
  have h := saidX_text (l := r) (by rw [h1]; exact h2) t.at_
  rw [h1] at h
  dsimp only at h
  rw [← h3] at h
  exact h

theorem drop_head {l : List UInt8} : ∀ x, (l.drop (manyL xblank l))[0]? = some x → xblank x = false := fun x hx => by
  rw [List.getElem?_drop, Nat.add_zero] at hx
  exact manyL_next xblank l x hx

theorem consX_ok {t : XTok} {r : List XTok × Nat × Nat} {l : List XTok} {p : Nat} (h : consX t r = (l, 0, p)) : ∃ l' p', r = (l', 0, p') ∧ l = t :: l' := by
  obtain ⟨l', e, p'⟩ := r
  unfold consX at h
  by_cases he : e = 0
  · subst he
    simp only [if_true] at h
    injection h with h1 _
    exact ⟨l', p', rfl, h1.symm⟩
  · rw [if_neg he] at h
    injection h with _ h2
    injection h2 with h2 _
    exact absurd h2 he

/-- What a step of the reading is, if all goes well. -/
theorem lexX_ok {f : Nat} {l : List UInt8} {a n : Nat} {ts : List XTok} {p : Nat} (h : lexX f l a n = (ts, 0, p)) : ∃ g, f = g + 1 ∧
    ((l.length ≤ manyL xblank l ∧ ts = []) ∨ (¬ l.length ≤ manyL xblank l ∧ n ≠ 128 ∧ ∃ k z r p', firstX (l.drop (manyL xblank l)) = (k, z) ∧ z ≠ 0 ∧ ts = ⟨k, textX k ((l.drop (manyL xblank l)).take z), a + manyL xblank l⟩ :: r ∧ lexX g ((l.drop (manyL xblank l)).drop z) (a + manyL xblank l + z) (n + 1) = (r, 0, p'))) := by
  cases f with
  | zero => rw [lexX] at h; injection h with _ h; injection h with h _; cases h
  | succ g =>
    refine ⟨g, rfl, ?_⟩
    by_cases h1 : l.length ≤ manyL xblank l
    · rw [lexX_end h1] at h
      injection h with h _
      exact .inl ⟨h1, h.symm⟩
    · by_cases h2 : (firstX (l.drop (manyL xblank l))).2 = 0
      · rw [lexX_none h1 h2] at h; injection h with _ h; injection h with h _; cases h
      · by_cases h3 : n = 128
        · rw [lexX_many h1 h2 h3] at h; injection h with _ h; injection h with h _; cases h
        · rw [lexX_more h1 h2 h3] at h
          obtain ⟨r, p', h4, h5⟩ := consX_ok h
          exact .inr ⟨h1, h3, _, _, r, p', rfl, h2, h5, h4⟩

theorem lexX_good : ∀ (f : Nat) (l : List UInt8) (a n : Nat) (ts : List XTok) (p : Nat), lexX f l a n = (ts, 0, p) → n ≤ 128 → (∀ t ∈ ts, GoodT t) ∧ n + ts.length ≤ 128
  | 0, l, a, n, ts, p, h, _ => by rw [lexX] at h; injection h with _ h; injection h with h _; cases h
  | f + 1, l, a, n, ts, p, h, hn => by
    obtain ⟨g, hg, h1 | ⟨_, h128, k, z, r, p', h2, h3, rfl, h5⟩⟩ := lexX_ok h
    · obtain ⟨_, rfl⟩ := h1
      exact ⟨(fun t ht => by cases ht), by simpa using hn⟩
    · obtain rfl : f = g := by omega
      have ih := lexX_good f _ _ _ _ _ h5 (by omega)
      refine ⟨fun t ht => ?_, by rw [List.length_cons]; omega⟩
      rcases List.mem_cons.1 ht with rfl | ht
      · exact ⟨_, z, h2, h3, rfl, drop_head⟩
      · exact ih.1 t ht

/-- Tokens stand one behind the other, with blanks between. -/
def PlX (l : List UInt8) : Nat → List XTok → Prop
  | a, [] => a ≤ l.length ∧ ∀ j x, a ≤ j → l[j]? = some x → xblank x = true
  | a, t :: r => a ≤ t.at_ ∧ t.at_ ≤ l.length ∧ (∀ j x, a ≤ j → j < t.at_ → l[j]? = some x → xblank x = true) ∧ (saidX t).length ≠ 0 ∧ t.at_ + (saidX t).length ≤ l.length ∧ (l.drop t.at_).take (saidX t).length = saidX t ∧ PlX l (t.at_ + (saidX t).length) r

theorem lexX_places (l : List UInt8) : ∀ (f a n : Nat) (ts : List XTok) (p : Nat), a ≤ l.length → lexX f (l.drop a) a n = (ts, 0, p) → PlX l a ts
  | 0, a, n, ts, p, _, h => by rw [lexX] at h; injection h with _ h; injection h with h _; cases h
  | f + 1, a, n, ts, p, ha, h => by
    have hbl : ∀ j x, a ≤ j → j < a + manyL xblank (l.drop a) → l[j]? = some x → xblank x = true := fun j x h1 h2 h3 => by
      refine manyL_take xblank (l.drop a) x (List.mem_of_getElem? (i := j - a) ?_)
      rw [List.getElem?_take, if_pos (by omega), List.getElem?_drop, show a + (j - a) = j by omega]
      exact h3
    obtain ⟨g, hg, ⟨h1, rfl⟩ | ⟨h1, _, k, z, r, p', h2, h3, rfl, h5⟩⟩ := lexX_ok h
    · refine ⟨ha, fun j x hj hx => hbl j x hj ?_ hx⟩
      have := (List.getElem?_eq_some_iff.1 hx).1
      rw [List.length_drop] at h1
      omega
    · obtain rfl : f = g := by omega
      have hle := firstX_le ((l.drop a).drop (manyL xblank (l.drop a)))
      rw [h2, List.length_drop, List.length_drop] at hle
      rw [List.length_drop] at h1
      dsimp only at hle
      rw [List.drop_drop] at h2 h5 ⊢
      rw [List.drop_drop] at h5
      have hsaid := GoodT.said (t := ⟨k, textX k ((l.drop (a + manyL xblank (l.drop a))).take z), a + manyL xblank (l.drop a)⟩) h2 h3 rfl
      have hlen : (saidX ⟨k, textX k ((l.drop (a + manyL xblank (l.drop a))).take z), a + manyL xblank (l.drop a)⟩).length = z := by
        rw [hsaid, List.length_take, List.length_drop]; omega
      refine ⟨Nat.le_add_right _ _, by dsimp only; omega, hbl, by rw [hlen]; exact h3, by rw [hlen]; dsimp only; omega, by rw [hlen, hsaid], ?_⟩
      rw [hlen]
      simp only [← Nat.add_assoc] at h5
      exact lexX_places l f (a + manyL xblank (l.drop a) + z) _ _ _ (by omega) h5

/-- Tokens, as they are written, with a blank between each two. -/
def joinX : List XTok → List UInt8
  | [] => []
  | t :: r => saidX t ++ (if r = [] then [] else 32 :: joinX r)
theorem joinX_snoc : ∀ (l : List XTok) (t : XTok), joinX (l ++ [t]) = if l = [] then saidX t else joinX l ++ 32 :: saidX t
  | [], t => by simp [joinX]
  | x :: l, t => by
    have e1 : joinX (x :: (l ++ [t])) = saidX x ++ 32 :: joinX (l ++ [t]) := by rw [joinX, if_neg (by simp)]
    have e2 : (if x :: l = [] then saidX t else joinX (x :: l) ++ 32 :: saidX t) = joinX (x :: l) ++ 32 :: saidX t := if_neg (by simp)
    rw [List.cons_append, e1, e2, joinX_snoc l t, joinX]
    by_cases h : l = []
    · simp [h]
    · simp [h]

/-- A blank ahead changes places alone. -/
theorem lexX_blank (f : Nat) (l : List UInt8) (a n : Nat) : lexX f (32 :: l) a n = lexX f l (a + 1) n := by
  cases f with
  | zero => rfl
  | succ g =>
    have hm : manyL xblank (32 :: l) = manyL xblank l + 1 := by rw [manyL_cons, if_pos xblank_32]
    rw [lexX, lexX, hm, List.length_cons, List.drop_succ_cons]
    simp only [Nat.add_le_add_iff_right, show a + (manyL xblank l + 1) = a + 1 + manyL xblank l by omega]

/-- What stays of tokens whose places are left out. -/
def bare (t : XTok) : Nat × List UInt8 := (t.k, t.b)

theorem lexX_join : ∀ (ts : List XTok) (f a n : Nat), (joinX ts).length < f → n + ts.length ≤ 128 → (∀ t ∈ ts, GoodT t) → ∃ us, lexX f (joinX ts) a n = (us, 0, 0) ∧ us.map bare = ts.map bare
  | [], f, a, n, hf, _, _ => by
    obtain ⟨g, rfl⟩ : ∃ g, f = g + 1 := ⟨f - 1, by omega⟩
    exact ⟨[], lexX_end (by simp [joinX]), rfl⟩
  | t :: r, f, a, n, hf, hn, hg => by
    obtain ⟨g, rfl⟩ : ∃ g, f = g + 1 := ⟨f - 1, by omega⟩
    obtain ⟨s, z, h1, h2, h3, h4⟩ := hg t (by simp)
    have hle : z ≤ s.length := by have := firstX_le s; rw [h1] at this; exact this
    have hsaid := GoodT.said h1 h2 h3
    obtain ⟨suf, hsuf⟩ : ∃ suf, suf = (if r = [] then [] else 32 :: joinX r) := ⟨_, rfl⟩
    have hj : joinX (t :: r) = s.take z ++ suf := by rw [joinX, hsaid, hsuf]
    have htl : (s.take z).length = z := by rw [List.length_take, Nat.min_eq_left hle]
    have hfst : firstX (s.take z ++ suf) = (t.k, z) := by
      refine firstX_same h1 h2 ?_ (fun x hx => ?_)
      · rw [List.take_append_of_le_length (by omega), List.take_take, Nat.min_self]
      · rw [List.getElem?_append_right (by omega), htl, Nat.sub_self] at hx
        left
        rw [hsuf] at hx
        by_cases hr : r = []
        · rw [if_pos hr] at hx; cases hx
        · rw [if_neg hr] at hx; injection hx with hx; exact hx.symm
    have hm0 : manyL xblank (s.take z ++ suf) = 0 := by
      refine manyL_is xblank _ 0 (Nat.zero_le _) (fun x hx => by simp at hx) (fun x hx => ?_)
      rw [List.getElem?_append_left (by omega), List.getElem?_take, if_pos (by omega)] at hx
      exact h4 x hx
    have hrest : ∃ us, lexX g suf (a + 0 + z) (n + 1) = (us, 0, 0) ∧ us.map bare = r.map bare := by
      rw [hj, List.length_append, htl] at hf
      rw [List.length_cons] at hn
      by_cases hr : r = []
      · rw [if_pos hr] at hsuf
        subst hsuf hr
        obtain ⟨g', rfl⟩ : ∃ g', g = g' + 1 := ⟨g - 1, by omega⟩
        exact ⟨[], lexX_end (by simp), rfl⟩
      · rw [if_neg hr] at hsuf
        have hl : suf.length = (joinX r).length + 1 := by rw [hsuf]; rfl
        rw [hsuf, lexX_blank]
        exact lexX_join r g _ _ (by omega) (by omega) (fun x hx => hg x (by simp [hx]))
    obtain ⟨us, hu1, hu2⟩ := hrest
    refine ⟨⟨t.k, t.b, a + 0⟩ :: us, ?_, by simp [hu2, bare]⟩
    rw [hj, lexX_more (by rw [hm0, List.length_append, htl]; omega) (by rw [hm0, List.drop_zero, hfst]; exact h2) (by rw [List.length_cons] at hn; omega), hm0, List.drop_zero, hfst]
    dsimp only
    rw [List.drop_left' htl, hu1, List.take_left' htl, ← h3]
    rfl

end Go.Proofs.Ytefcbgnckgapgaa
