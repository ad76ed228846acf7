/- Queries in plain words: an expression is read of its own tokens. | Queries in plain words: items, predicates and a query are read of their own tokens. | Queries: texts of expressions. -/
import Derived.Test.YtifacoompbngaaaGreatDoorM9
namespace Go.Proofs.YtifacoompbngaaaGreatDoor
open Go.Lib

section
variable {E : Nat}
theorem amongT_yes {s : RS} {t : XTok} {r : List XTok} (h : s.l = t :: r) {k : Nat} (hk : t.k = k) : ∀ (l : List (List UInt8)) (n : Nat), t.b ∈ l → amongT E s k n l = (n + l.idxOf t.b, ⟨r, s.deep, s.wrong⟩)
  | [], _, hm => by cases hm
  | b :: l, n, hm => by
    by_cases hb : t.b = b
    · rw [amongT_hit (by rw [isT_head h]; simp [hk, hb]), takeT_yes h hk hb, hb, List.idxOf_cons_self]
      rfl
    · rw [amongT_step (by rw [isT_head h]; simp [hb])]
      have h2 : t.b ∈ l := by
        rcases List.mem_cons.1 hm with h2 | h2
        · exact absurd h2 hb
        · exact h2
      rw [amongT_yes h hk l (n + 1) h2, List.idxOf_cons, beq_false_of_ne (fun e => hb e.symm), cond_false]
      congr 1
      omega
theorem nextT_of {s : RS} {t : XTok} {r : List XTok} (h : s.l = t :: r) : nextT E s = t := by
  unfold nextT
  rw [h]
/-- A token that begins no value. -/
theorem valT_none {s : RS} {t : XTok} {r : List XTok} (h : s.l = t :: r) (h2 : t.k ≠ 2) (h3 : t.k ≠ 3) (h4 : t.k = 4 → t.b ≠ [45]) (h1 : t.k = 1 → t.b ≠ bFalse ∧ t.b ≠ bTrue) : valT E s = (noV, false, s) := by
  unfold valT
  rw [nextT_of h, if_neg h2, isT_head h, if_neg (by simp; exact h4), if_neg h3, isT_head h, if_neg (by simp; exact fun e => (h1 e).1), isT_head h, if_neg (by simp; exact fun e => (h1 e).2)]
theorem fieldT_yes {s : RS} {t1 t2 t3 : XTok} {r : List XTok} (h : s.l = t1 :: t2 :: t3 :: r) (k1 : t1.k = 1) (b1 : nameB t1.b = true) (k2 : t2.k = 4) (b2 : t2.b = [46]) (k3 : t3.k = 1) (b3 : nameB t3.b = true) (k : Int) : fieldT E s k = (.mk k noV t1.b t3.b [], ⟨r, s.deep, s.wrong⟩) := by
  unfold fieldT
  dsimp only
  rw [nameT_yes h k1 b1]
  dsimp only
  rw [needT_yes (s := ⟨t2 :: t3 :: r, s.deep, s.wrong⟩) rfl k2 b2]
  dsimp only
  rw [nameT_yes (s := ⟨t3 :: r, s.deep, s.wrong⟩) rfl k3 b3]
theorem name_notbool {b : List UInt8} (h : nameB b = true) : b ≠ bFalse ∧ b ≠ bTrue := ⟨fun e => name_key h (e ▸ by decide), fun e => name_key h (e ▸ by decide)⟩
theorem name_notcall {b : List UInt8} (h : nameB b = true) : b ∉ callsL := fun hm => by
  have h1 := name_key h
  have h2 := name_ne h
  simp only [callsL, List.mem_cons, List.not_mem_nil, or_false] at hm
  rcases hm with e | e | e | e | e | e | e | e | e
  · exact h2 e
  · exact h2 e
  · exact h2 e
  · exact h1 (e ▸ by decide)
  · exact h1 (e ▸ by decide)
  · exact h1 (e ▸ by decide)
  · exact h1 (e ▸ by decide)
  · exact h2 e
  · exact h2 e
/-- An expression that is no sum is read of its own tokens. -/
theorem term_of {d n : Nat} {x : PEx} (hr : rightX (d + 1) x = true) (h7 : ¬ (x.k = 7 ∨ x.k = 8)) {s : RS} {us rest : List XTok} (hs : s.l = us ++ rest) (hu : us.map bare = tokX (d + 1) x) : termT E (n + 1) s = (x, ⟨rest, s.deep, s.wrong⟩) := by
  obtain ⟨k, v, x, f, ks⟩ := x
  have h7 : ¬ (k = 7 ∨ k = 8) := h7
  rw [tokX_s] at hu
  rw [termT]
  by_cases h1 : k = 1
  · subst h1
    rw [if_pos rfl] at hu
    rw [rightX_one] at hr
    simp only [Bool.and_eq_true, decide_eq_true_eq] at hr
    obtain ⟨⟨rfl, rfl, hk⟩, hw⟩ := hr
    obtain rfl := List.eq_nil_of_length_eq_zero hk
    unfold writeB at hw
    rw [Bool.and_eq_true] at hw
    rw [val_of hw.2 hs hu, if_pos rfl]
  · rw [if_neg h1] at hu
    by_cases h2 : k = 2
    · subst h2
      rw [if_pos rfl] at hu
      rw [rightX_field _ _ (.inl rfl)] at hr
      simp only [Bool.and_eq_true, decide_eq_true_eq] at hr
      obtain ⟨⟨rfl, hk⟩, hx, hf⟩ := hr
      obtain rfl := List.eq_nil_of_length_eq_zero hk
      obtain ⟨t1, u1, rfl, k1, b1, hu⟩ := bare_cons hu
      obtain ⟨t2, u2, rfl, k2, b2, hu⟩ := bare_cons hu
      obtain ⟨t3, u3, rfl, k3, b3, hu⟩ := bare_cons hu
      rw [bare_nil hu] at hs
      have hs : s.l = t1 :: t2 :: t3 :: rest := hs
      rw [valT_none hs (by omega) (by omega) (by omega) (fun _ => by rw [b1]; exact name_notbool hx), if_neg (by simp), isT_head hs, if_neg (by simp; omega)]
      rw [amongT_no hs (.inr (by rw [b1]; exact name_notcall hx)), if_pos rfl]
      rw [fieldT_yes hs k1 (by rw [b1]; exact hx) k2 b2 k3 (by rw [b3]; exact hf), b1, b3]
    · rw [if_neg h2] at hu
      by_cases h3 : k = 3
      · subst h3
        rw [if_pos rfl] at hu
        rw [rightX_three] at hr
        simp only [Bool.and_eq_true, decide_eq_true_eq] at hr
        obtain ⟨⟨rfl, rfl, hk⟩, hx⟩ := hr
        obtain rfl := List.eq_nil_of_length_eq_zero hk
        obtain ⟨t1, u1, rfl, k1, b1, hu⟩ := bare_cons hu
        obtain ⟨t2, u2, rfl, k2, b2, hu⟩ := bare_cons hu
        obtain ⟨t3, u3, rfl, k3, b3, hu⟩ := bare_cons hu
        obtain ⟨t4, u4, rfl, k4, b4, hu⟩ := bare_cons hu
        rw [bare_nil hu] at hs
        have hs : s.l = t1 :: t2 :: t3 :: t4 :: rest := hs
        have hi : ((callsL.idxOf t1.b : Nat) : Int) = 3 := by rw [b1]; decide
        rw [valT_none hs (by omega) (by omega) (by omega) (fun _ => by rw [b1]; decide), if_neg (by simp), isT_head hs, if_neg (by simp; omega)]
        rw [amongT_yes hs k1 callsL 0 (by rw [b1]; decide), Nat.zero_add, if_neg (by dsimp only; omega)]
        dsimp only
        rw [hi]
        unfold callT
        dsimp only
        rw [needT_yes (s := ⟨t2 :: t3 :: t4 :: rest, s.deep, s.wrong⟩) rfl k2 b2]
        dsimp only
        rw [if_pos rfl, nameT_yes (s := ⟨t3 :: t4 :: rest, s.deep, s.wrong⟩) rfl k3 (by rw [b3]; exact hx)]
        dsimp only
        rw [needT_yes (s := ⟨t4 :: rest, s.deep, s.wrong⟩) rfl k4 b4, b3]
      · rw [if_neg h3] at hu
        by_cases h4 : k = 4 ∨ k = 5 ∨ k = 6
        · rw [if_pos h4] at hu
          rw [rightX_field _ _ (.inr h4)] at hr
          simp only [Bool.and_eq_true, decide_eq_true_eq] at hr
          obtain ⟨⟨rfl, hk⟩, hx, hf⟩ := hr
          obtain rfl := List.eq_nil_of_length_eq_zero hk
          obtain ⟨t1, u1, rfl, k1, b1, hu⟩ := bare_cons hu
          obtain ⟨t2, u2, rfl, k2, b2, hu⟩ := bare_cons hu
          obtain ⟨t3, u3, rfl, k3, b3, hu⟩ := bare_cons hu
          obtain ⟨t4, u4, rfl, k4, b4, hu⟩ := bare_cons hu
          obtain ⟨t5, u5, rfl, k5, b5, hu⟩ := bare_cons hu
          obtain ⟨t6, u6, rfl, k6, b6, hu⟩ := bare_cons hu
          rw [bare_nil hu] at hs
          have hs : s.l = t1 :: t2 :: t3 :: t4 :: t5 :: t6 :: rest := hs
          have hi : ((callsL.idxOf t1.b : Nat) : Int) = k := by rw [b1]; rcases h4 with rfl | rfl | rfl <;> decide
          have hm : t1.b ∈ callsL := by rw [b1]; rcases h4 with rfl | rfl | rfl <;> decide
          have hb : t1.b ≠ bFalse ∧ t1.b ≠ bTrue := by rw [b1]; rcases h4 with rfl | rfl | rfl <;> decide
          rw [valT_none hs (by omega) (by omega) (by omega) (fun _ => hb), if_neg (by simp), isT_head hs, if_neg (by simp; omega)]
          rw [amongT_yes hs k1 callsL 0 hm, Nat.zero_add, if_neg (by dsimp only; omega)]
          dsimp only
          rw [hi]
          unfold callT
          dsimp only
          rw [needT_yes (s := ⟨t2 :: t3 :: t4 :: t5 :: t6 :: rest, s.deep, s.wrong⟩) rfl k2 b2]
          dsimp only
          rw [if_neg h3, fieldT_yes (s := ⟨t3 :: t4 :: t5 :: t6 :: rest, s.deep, s.wrong⟩) rfl k3 (by rw [b3]; exact hx) k4 b4 k5 (by rw [b5]; exact hf)]
          dsimp only
          rw [needT_yes (s := ⟨t6 :: rest, s.deep, s.wrong⟩) rfl k6 b6, b3, b5]
        · rw [rightX_none d k h1 h3 (by omega) h7] at hr
          cases hr
theorem sumsT_stop {tm : RS → PEx × RS} {n : Nat} {x : PEx} {s : RS} {t : XTok} {r : List XTok} (h : s.l = t :: r) (hn : t.k ≠ 4 ∨ t.b ∉ sumsL) : sumsT E tm n x s = (x, s) := by
  cases n with
  | zero => rfl
  | succ n => rw [sumsT, amongT_no h hn, if_pos rfl]
theorem tokX_ne {d : Nat} {x : PEx} (hr : rightX d x = true) : tokX d x ≠ [] := by
  cases d with
  | zero =>
    cases x
    rw [rightX] at hr
    cases hr
  | succ d =>
    obtain ⟨k, v, x, f, ks⟩ := x
    rw [tokX_s]
    by_cases h1 : k = 1
    · rw [if_pos h1]
      unfold tokPV
      split
      · simp
      · split
        · simp
        · split <;> simp
    · rw [if_neg h1]
      by_cases h2 : k = 2
      · rw [if_pos h2]
        simp
      · rw [if_neg h2]
        by_cases h3 : k = 3
        · rw [if_pos h3]
          simp
        · rw [if_neg h3]
          by_cases h4 : k = 4 ∨ k = 5 ∨ k = 6
          · rw [if_pos h4]
            simp
          · rw [if_neg h4]
            by_cases h7 : k = 7 ∨ k = 8
            · rw [rightX_two d k h7, Bool.and_eq_true] at hr
              by_cases hl : ks.length = 2
              · obtain ⟨a, b, rfl⟩ := two_of hl
                simp
              · rw [twoB_no hl] at hr
                cases hr.2
            · rw [rightX_none d k h1 h3 (by omega) h7] at hr
              cases hr
/-- An expression is read of its own tokens: what stands behind them is what may be added to it. -/
theorem expr_of : ∀ (d : Nat) (x : PEx) (n : Nat) (s : RS) (us rest : List XTok), rightX d x = true → s.l = us ++ rest → us.map bare = tokX d x → s.l.length ≤ n → s.deep + d ≤ 6 → exprT E (termT E n) n s = sumsT E (termT E n) n x ⟨rest, s.deep, s.wrong⟩
  | 0, x, n, s, us, rest, hr, _, _, _, _ => by
    cases x
    rw [rightX] at hr
    cases hr
  | d + 1, x, n, s, us, rest, hr, hs, hu, hn, hd => by
    have hne := tokX_ne hr
    have hlen : 0 < us.length := by
      rw [← hu] at hne
      cases us with
      | nil => exact absurd rfl hne
      | cons t r => simp
    have hsl : s.l.length = us.length + rest.length := by rw [hs, List.length_append]
    obtain ⟨m, rfl⟩ : ∃ m, n = m + 1 := ⟨n - 1, by omega⟩
    by_cases h7 : x.k = 7 ∨ x.k = 8
    · obtain ⟨k, v, x, f, ks⟩ := x
      have h7 : k = 7 ∨ k = 8 := h7
      rw [rightX_two d k h7] at hr
      simp only [Bool.and_eq_true, decide_eq_true_eq] at hr
      obtain ⟨⟨rfl, rfl, rfl⟩, hr⟩ := hr
      by_cases hl : ks.length = 2
      · obtain ⟨a, b, rfl⟩ := two_of hl
        have h8 : rightX d a = true ∧ rightX d b = true := by
          unfold twoB at hr
          simpa using hr
        rw [tokX_s, if_neg (by omega), if_neg (by omega), if_neg (by omega), if_neg (by omega)] at hu
        dsimp only at hu
        obtain ⟨ua, uz, rfl, hua, huz⟩ := bare_app hu
        obtain ⟨t, ub, rfl, tk, tb, hub⟩ := bare_cons huz
        have hs1 : s.l = ua ++ (t :: (ub ++ rest)) := by rw [hs]; simp
        have hl1 : s.l.length = ua.length + (1 + (ub.length + rest.length)) := by rw [hs1]; simp; omega
        rw [expr_of d a (m + 1) s ua (t :: (ub ++ rest)) h8.1 hs1 hua hn (by omega)]
        have hi : ((sumsL.idxOf t.b : Nat) : Int) = k := by rw [tb]; rcases h7 with rfl | rfl <;> decide
        have hm : t.b ∈ sumsL := by rw [tb]; rcases h7 with rfl | rfl <;> decide
        rw [sumsT, amongT_yes (s := ⟨t :: (ub ++ rest), s.deep, s.wrong⟩) rfl tk sumsL 0 hm, Nat.zero_add, if_neg (by dsimp only; omega)]
        dsimp only
        rw [hi]
        have hT : termT E (m + 1) ⟨ub ++ rest, s.deep, s.wrong⟩ = (b, ⟨rest, s.deep, s.wrong⟩) := by
          by_cases hb7 : b.k = 7 ∨ b.k = 8
          · rw [if_pos hb7] at hub
            obtain ⟨t2, u2, rfl, k2, b2, hub⟩ := bare_cons hub
            obtain ⟨u3, u4, rfl, hu3, hu4⟩ := bare_app hub
            obtain ⟨t5, u5, rfl, k5, b5, hu5⟩ := bare_cons hu4
            obtain rfl := bare_nil hu5
            have hl2 : (t2 :: (u3 ++ [t5])).length = u3.length + 2 := by simp
            have hs2 : (⟨(t2 :: (u3 ++ [t5])) ++ rest, s.deep, s.wrong⟩ : RS).l = t2 :: (u3 ++ (t5 :: rest)) := by simp
            rw [termT, valT_none hs2 (by omega) (by omega) (fun _ => by rw [b2]; decide) (by omega), if_neg (by simp), isT_head hs2, if_pos (by simp [k2, b2])]
            unfold innerT
            dsimp only
            rw [if_neg (by omega), needT_yes hs2 k2 b2]
            dsimp only
            rw [expr_of d b m ⟨u3 ++ (t5 :: rest), s.deep + 1, s.wrong⟩ u3 (t5 :: rest) h8.2 rfl hu3 (by simp; omega) (by dsimp only; omega)]
            rw [sumsT_stop (s := ⟨t5 :: rest, s.deep + 1, s.wrong⟩) rfl (.inr (by rw [b5]; decide))]
            dsimp only
            rw [Nat.add_sub_cancel, needT_yes (s := ⟨t5 :: rest, s.deep, s.wrong⟩) rfl k5 b5]
          · rw [if_neg hb7] at hub
            cases d with
            | zero =>
              cases b
              have := h8.2
              rw [rightX] at this
              cases this
            | succ d => exact term_of h8.2 hb7 rfl hub
        rw [hT]
        exact sumsT_fuel (fun s => termT_le _ s) m (m + 1) _ _ (by dsimp only; omega) (by dsimp only; omega)
      · rw [twoB_no hl] at hr
        cases hr
    · unfold exprT
      rw [term_of hr h7 hs hu]
end
end Go.Proofs.YtifacoompbngaaaGreatDoor
namespace Go.Proofs.YtifacoompbngaaaGreatDoor
open Go.Lib

def rowTok {α : Type} (b : List UInt8) (tok : α → List (Nat × List UInt8)) (l : List α) : List (Nat × List UInt8) := l.flatMap fun x => (1, b) :: tok x
/-- A word is next. -/
def WordNext (r : List XTok) : Prop := ∃ t r', r = t :: r' ∧ t.k = 1
section
variable {E n : Nat}
theorem RS.eta' (s : RS) {r : List XTok} (h : s.l = r) : s = ⟨r, s.deep, s.wrong⟩ := by
  cases s
  cases h
  rfl
theorem takeT_skip {s : RS} {t : XTok} {r : List XTok} (h : s.l = t :: r) {k : Nat} {b : List UInt8} (hn : t.k ≠ k ∨ t.b ≠ b) : isT E s k b = false := by
  rw [isT_head h]
  simp
  rcases hn with h | h
  · exact fun e => absurd e h
  · exact fun _ => h
theorem rowT_of {α : Type} {b : List UInt8} {one : RS → α × RS} {tok : α → List (Nat × List UInt8)} {P : α → Prop}
    (hone : ∀ x, P x → ∀ (s : RS) (us rest : List XTok), s.l = us ++ rest → us.map bare = tok x → WordNext rest → s.l.length ≤ n → s.deep = 0 → one s = (x, ⟨rest, s.deep, s.wrong⟩)) :
    ∀ (xs : List α) (m : Nat) (l : List α) (s : RS) (us : List XTok) (t : XTok) (r : List XTok), (∀ x ∈ xs, P x) → s.l = us ++ (t :: r) → us.map bare = rowTok b tok xs → t.k = 1 → t.b ≠ b → s.l.length ≤ n → s.l.length ≤ m → s.deep = 0 → rowT E b one m l s = (l ++ xs, ⟨t :: r, s.deep, s.wrong⟩)
  | [], m, l, s, us, t, r, _, hs, hu, hk, hb, _, _, _ => by
    have hu : us.map bare = [] := hu
    rw [bare_nil hu] at hs
    have hs : s.l = t :: r := hs
    rw [List.append_nil, ← RS.eta' s hs]
    cases m with
    | zero => rfl
    | succ m =>
      rw [rowT, takeT_skip hs (.inr hb)]
      rfl
  | x :: xs, m, l, s, us, t, r, hP, hs, hu, hk, hb, hn, hm, hd => by
    have hu : us.map bare = (1, b) :: (tok x ++ rowTok b tok xs) := hu
    obtain ⟨t0, u0, rfl, k0, b0, hu⟩ := bare_cons hu
    obtain ⟨ux, ur, rfl, hux, hur⟩ := bare_app hu
    have hs : s.l = t0 :: (ux ++ (ur ++ (t :: r))) := by rw [hs]; simp
    have hl : s.l.length = 1 + (ux.length + (ur.length + (1 + r.length))) := by rw [hs]; simp; omega
    have hw : WordNext (ur ++ (t :: r)) := by
      cases xs with
      | nil =>
        have hur : ur.map bare = [] := hur
        rw [bare_nil hur]
        exact ⟨t, r, rfl, hk⟩
      | cons y ys =>
        have hur : ur.map bare = (1, b) :: (tok y ++ rowTok b tok ys) := hur
        obtain ⟨t1, u1, rfl, k1, _, _⟩ := bare_cons hur
        exact ⟨t1, _, rfl, k1⟩
    obtain ⟨m, rfl⟩ : ∃ k, m = k + 1 := ⟨m - 1, by omega⟩
    rw [rowT, isT_head hs, if_pos (by simp [k0, b0]), takeT_yes hs k0 b0]
    dsimp only
    have h1 := hone x (hP x List.mem_cons_self) ⟨ux ++ (ur ++ (t :: r)), s.deep, s.wrong⟩ ux (ur ++ (t :: r)) rfl hux hw (by simp; omega) hd
    rw [h1]
    dsimp only
    have h2 := rowT_of hone xs m (l ++ [x]) ⟨ur ++ (t :: r), s.deep, s.wrong⟩ ur t r (fun y hy => hP y (List.mem_cons_of_mem _ hy)) rfl hur hk hb (by simp; omega) (by simp; omega) hd
    rw [h2, List.append_assoc]
    rfl
theorem row1T_of {α : Type} {b : List UInt8} {one : RS → α × RS} {tok : α → List (Nat × List UInt8)} {P : α → Prop}
    (hone : ∀ x, P x → ∀ (s : RS) (us rest : List XTok), s.l = us ++ rest → us.map bare = tok x → WordNext rest → s.l.length ≤ n → s.deep = 0 → one s = (x, ⟨rest, s.deep, s.wrong⟩))
    (x : α) (xs : List α) (s : RS) (us : List XTok) (t : XTok) (r : List XTok) (hx : P x) (hP : ∀ x ∈ xs, P x) (hs : s.l = us ++ (t :: r)) (hu : us.map bare = tok x ++ rowTok b tok xs) (hk : t.k = 1) (hb : t.b ≠ b) (hn : s.l.length ≤ n) (hd : s.deep = 0) : row1T E b one n s = (x :: xs, ⟨t :: r, s.deep, s.wrong⟩) := by
  obtain ⟨ux, ur, rfl, hux, hur⟩ := bare_app hu
  have hs : s.l = ux ++ (ur ++ (t :: r)) := by rw [hs]; simp
  have hl : s.l.length = ux.length + (ur.length + (1 + r.length)) := by rw [hs]; simp; omega
  have hw : WordNext (ur ++ (t :: r)) := by
    cases xs with
    | nil =>
      have hur : ur.map bare = [] := hur
      rw [bare_nil hur]
      exact ⟨t, r, rfl, hk⟩
    | cons y ys =>
      have hur : ur.map bare = (1, b) :: (tok y ++ rowTok b tok ys) := hur
      obtain ⟨t1, u1, rfl, k1, _, _⟩ := bare_cons hur
      exact ⟨t1, _, rfl, k1⟩
  unfold row1T
  rw [hone x hx s ux _ hs hux hw hn hd]
  dsimp only
  exact rowT_of hone xs n [x] ⟨ur ++ (t :: r), s.deep, s.wrong⟩ ur t r hP rfl hur hk hb (by simp; omega) (by simp; omega) hd

def tokMode (m : Int) : List (Nat × List UInt8) := if m = 1 then [] else [(4, atL modesL m)]
def tokNs : List (List UInt8) → List (Nat × List UInt8)
  | [] => []
  | x :: xs => [(1, x)] ++ rowTok wOr (fun y => [(1, y)]) xs
def tokI (i : PIt) : List (Nat × List UInt8) := (if i.no then [(1, wNot)] else []) ++ (tokNs i.ns ++ ((1, i.x) :: tokMode i.mode))
theorem name_one : ∀ x : List UInt8, nameB x = true → ∀ (s : RS) (us rest : List XTok), s.l = us ++ rest → us.map bare = [(1, x)] → WordNext rest → s.l.length ≤ n → s.deep = 0 → nameT E s = (x, ⟨rest, s.deep, s.wrong⟩) := fun x hx s us rest hs hu _ _ _ => by
  obtain ⟨t, r, rfl, k, b, hu⟩ := bare_cons hu
  rw [bare_nil hu] at hs
  have hs : s.l = t :: rest := hs
  rw [nameT_yes hs k (by rw [b]; exact hx), b]
theorem name_notw {b w : List UInt8} (h : nameB b = true) (hw : w ∈ keysL) : b ≠ w := fun e => name_key h (e ▸ hw)
theorem item_of (i : PIt) (h : rightI i = true ∧ nameB i.x = true) (s : RS) (us rest : List XTok) (hs : s.l = us ++ rest) (hu : us.map bare = tokI i) (hw : WordNext rest) (hn : s.l.length ≤ n) (hd : s.deep = 0) : itemT E n s = (i, ⟨rest, s.deep, s.wrong⟩) := by
  obtain ⟨no, ns, x, mode⟩ := i
  obtain ⟨hr, hx⟩ := h
  have hx : nameB x = true := hx
  unfold rightI at hr
  dsimp only at hr
  split at hr
  · cases hr
  · rename_i hm
    simp only [Bool.and_eq_true, decide_eq_true_eq] at hr
    obtain ⟨⟨hn0, hn3⟩, hun⟩ := hr
    unfold unlikeB at hun
    simp only [Bool.and_eq_true, List.all_eq_true] at hun
    have hns := hun.1
    have hm : ¬ (mode < 1 ∨ 3 < mode ∨ (no = true ∧ mode ≠ 1)) := hm
    obtain ⟨y, ys, rfl⟩ : ∃ y ys, ns = y :: ys := by
      cases ns with
      | nil => simp at hn0
      | cons y ys => exact ⟨y, ys, rfl⟩
    have hu : us.map bare = (if no then [(1, wNot)] else []) ++ (([(1, y)] ++ rowTok wOr (fun y => [(1, y)]) ys) ++ ((1, x) :: tokMode mode)) := hu
    obtain ⟨u1, u2, rfl, hu1, hu2⟩ := bare_app hu
    obtain ⟨u3, u4, rfl, hu3, hu4⟩ := bare_app hu2
    obtain ⟨tx, u5, rfl, kx, bx, hu5⟩ := bare_cons hu4
    have hy := hns y List.mem_cons_self
    have hl : s.l.length = u1.length + (u3.length + (1 + (u5.length + rest.length))) := by rw [hs]; simp; omega
    have h1 : takeT E s 1 wNot = (no, ⟨u3 ++ (tx :: (u5 ++ rest)), s.deep, s.wrong⟩) := by
      cases no with
      | true =>
        have hu1 : u1.map bare = [(1, wNot)] := hu1
        obtain ⟨t0, u0, rfl, k0, b0, hu0⟩ := bare_cons hu1
        rw [bare_nil hu0] at hs
        rw [takeT_yes (r := u3 ++ (tx :: (u5 ++ rest))) (by rw [hs]; simp) k0 b0]
      | false =>
        have hu1 : u1.map bare = [] := hu1
        rw [bare_nil hu1] at hs
        obtain ⟨ty, uy, hyy, ky, by_, _⟩ := bare_cons (k := 1) (b := y) hu3
        have hs2 : s.l = u3 ++ (tx :: (u5 ++ rest)) := by rw [hs]; simp
        rw [takeT_not (t := ty) (r := uy ++ (tx :: (u5 ++ rest))) (by rw [hs2, hyy]; rfl) (.inr (by rw [by_]; exact name_notw hy (by decide))), ← RS.eta' s hs2]
    have h2 : row1T E wOr (nameT E) n ⟨u3 ++ (tx :: (u5 ++ rest)), s.deep, s.wrong⟩ = (y :: ys, ⟨tx :: (u5 ++ rest), s.deep, s.wrong⟩) :=
      row1T_of (P := fun x => nameB x = true) (tok := fun y => [(1, y)]) (n := n) name_one y ys ⟨u3 ++ (tx :: (u5 ++ rest)), s.deep, s.wrong⟩ u3 tx (u5 ++ rest) hy (fun z hz => hns z (List.mem_cons_of_mem _ hz)) rfl hu3 kx (by rw [bx]; exact name_notw hx (by decide)) (by simp; omega) hd
    have h3 : nameT E ⟨tx :: (u5 ++ rest), s.deep, s.wrong⟩ = (x, ⟨u5 ++ rest, s.deep, s.wrong⟩) := by
      rw [nameT_yes (s := ⟨tx :: (u5 ++ rest), s.deep, s.wrong⟩) rfl kx (by rw [bx]; exact hx), bx]
    unfold itemT
    dsimp only
    rw [h1]
    dsimp only
    rw [h2]
    dsimp only
    rw [h3]
    dsimp only
    unfold tokMode at hu5
    by_cases hm1 : mode = 1
    · subst hm1
      rw [if_pos rfl] at hu5
      rw [bare_nil hu5]
      obtain ⟨tw, rw_, rfl, kw⟩ := hw
      rw [amongT_no (s := ⟨[] ++ tw :: rw_, s.deep, s.wrong⟩) rfl (.inl (by omega)), if_pos rfl]
      rfl
    · rw [if_neg hm1] at hu5
      obtain ⟨tm, um, rfl, km, bm, hum⟩ := bare_cons hu5
      rw [bare_nil hum]
      have hm23 : mode = 2 ∨ mode = 3 := by omega
      have hi : ((modesL.idxOf tm.b : Nat) : Int) = mode := by rw [bm]; rcases hm23 with rfl | rfl <;> decide
      have hmm : tm.b ∈ modesL := by rw [bm]; rcases hm23 with rfl | rfl <;> decide
      rw [amongT_yes (s := ⟨[tm] ++ rest, s.deep, s.wrong⟩) (r := rest) rfl km modesL 0 hmm, Nat.zero_add]
      dsimp only
      rw [if_neg (by omega), hi]

def tokP (p : PPr) : List (Nat × List UInt8) := tokX 6 p.l ++ (4, atL cmpsL p.cmp) :: tokX 6 p.r
theorem pred_of (p : PPr) (h : rightP p = true) (s : RS) (us rest : List XTok) (hs : s.l = us ++ rest) (hu : us.map bare = tokP p) (hw : WordNext rest) (hn : s.l.length ≤ n) (hd : s.deep = 0) : predT E n s = (p, ⟨rest, s.deep, s.wrong⟩) := by
  obtain ⟨a, c, b⟩ := p
  unfold rightP at h
  simp only [Bool.and_eq_true, decide_eq_true_eq] at h
  obtain ⟨hc, ha, hb⟩ := h
  obtain ⟨ua, u2, rfl, hua, hu2⟩ := bare_app hu
  obtain ⟨tc, ub, rfl, kc, bc, hub⟩ := bare_cons hu2
  have bc : tc.b = atL cmpsL c := bc
  have hs : s.l = ua ++ (tc :: (ub ++ rest)) := by rw [hs]; simp
  have hl : s.l.length = ua.length + (1 + (ub.length + rest.length)) := by rw [hs]; simp; omega
  have hc6 : c = 1 ∨ c = 2 ∨ c = 3 ∨ c = 4 ∨ c = 5 ∨ c = 6 := by omega
  have hi : ((cmpsL.idxOf tc.b : Nat) : Int) = c := by rw [bc]; rcases hc6 with rfl | rfl | rfl | rfl | rfl | rfl <;> decide
  have hm : tc.b ∈ cmpsL := by rw [bc]; rcases hc6 with rfl | rfl | rfl | rfl | rfl | rfl <;> decide
  have hns : tc.b ∉ sumsL := by rw [bc]; rcases hc6 with rfl | rfl | rfl | rfl | rfl | rfl <;> decide
  obtain ⟨tw, rw_, rfl, kw⟩ := hw
  unfold predT
  dsimp only
  rw [expr_of 6 a n s ua (tc :: (ub ++ tw :: rw_)) ha hs hua hn (by omega), sumsT_stop (s := ⟨tc :: (ub ++ tw :: rw_), s.deep, s.wrong⟩) rfl (.inr hns)]
  dsimp only
  have hch : chooseT E ⟨tc :: (ub ++ tw :: rw_), s.deep, s.wrong⟩ 4 cmpsL = (cmpsL.idxOf tc.b, ⟨ub ++ tw :: rw_, s.deep, s.wrong⟩) := by
    unfold chooseT
    rw [amongT_yes (s := ⟨tc :: (ub ++ tw :: rw_), s.deep, s.wrong⟩) rfl kc cmpsL 0 hm, Nat.zero_add, if_neg (by dsimp only; omega)]
  rw [hch]
  dsimp only
  rw [expr_of 6 b n ⟨ub ++ tw :: rw_, s.deep, s.wrong⟩ ub (tw :: rw_) hb rfl hub (by simp at hl ⊢; omega) (by dsimp only; omega), sumsT_stop (s := ⟨tw :: rw_, s.deep, s.wrong⟩) rfl (.inl (by omega)), hi]
end
end Go.Proofs.YtifacoompbngaaaGreatDoor
namespace Go.Proofs.YtifacoompbngaaaGreatDoor
open Go.RowKit Go.Lib Go.Op

theorem catT (a b : List UInt8) : strB a ++ strB b = strB (a ++ b) := by
  apply ByteArray.ext
  apply Array.ext'
  simp [strB]
theorem double_calls (k : Int) (w : World) : Calls Tryz.prog 116 #[.int .i64 k] w fun e w' => e = .returned (.bool (decide (k = 7 ∨ k = 8))) ∧ w = w' := by
  by_cases h7 : k = 7
  · subst h7
    go_enter Tryz.func116, Tryz.ntmps116
    go_wp2
    go_ret
    exact ⟨rfl, rfl⟩
  · have t7 : (k == 7) = false := by rw [beq_eq_false_iff_ne]; exact h7
    by_cases h8 : k = 8
    · subst h8
      go_enter Tryz.func116, Tryz.ntmps116
      go_wp2
      go_ret
      exact ⟨rfl, rfl⟩
    · have t8 : (k == 8) = false := by rw [beq_eq_false_iff_ne]; exact h8
      have hd : decide (k = 7 ∨ k = 8) = false := decide_eq_false (fun e => e.elim h7 h8)
      rw [hd]
      clear h7 h8 hd
      go_enter Tryz.func116, Tryz.ntmps116
      go_wp2
      go_ret
      exact ⟨rfl, rfl⟩

section
variable {w : World} {a : Option Addr} {c n : Nat} {v : PVal} {x f : List UInt8}

set_option maxHeartbeats 2000000 in
set_option maxRecDepth 100000 in
theorem xt_val (hv : PVars w) (hr : rightB v = true) : Calls Tryz.prog 127 #[.agg #[.int .i64 1, .int .i64 v.k, .int .i64 v.n, .string (strB v.s), .string (strB x), .string (strB f), .slice a n c]] w fun e w' => e = .returned (.string (strB (valTx v))) ∧ Below w.heap.size w w' := by
  have hb0 := (Below.refl w.heap.size w).alloc (Nat.le_refl _) (.cells #[.int .i64 1, .int .i64 v.k, .int .i64 v.n, .string (strB v.s), .string (strB x), .string (strB f), .slice a n c] 38)
  have HB0 := Lib.hid hb0
  have HV := Lib.hid (valText_calls (hv.below hb0) v hr)
  clear hv hr hb0
  go_enter Tryz.func127, Tryz.ntmps127
  go_wp2_with (go_at_call 198; (with_reducible refine HV.out.mono ?_); rintro e w1 ⟨rfl, hb1⟩; have HB1 := Lib.hid (HB0.out.trans (hb1.mono HB0.out.size)); clear hb1)
  go_ret
  exact ⟨rfl, HB1.out⟩
set_option maxHeartbeats 2000000 in
set_option maxRecDepth 100000 in
theorem xt_field (hx : x.length ≤ 100) (hf : f.length ≤ 100) : Calls Tryz.prog 127 #[.agg #[.int .i64 2, .int .i64 v.k, .int .i64 v.n, .string (strB v.s), .string (strB x), .string (strB f), .slice a n c]] w fun e w' => e = .returned (.string (strB (x ++ 46 :: f))) ∧ Below w.heap.size w w' := by
  have hb0 := (Below.refl w.heap.size w).alloc (Nat.le_refl _) (.cells #[.int .i64 2, .int .i64 v.k, .int .i64 v.n, .string (strB v.s), .string (strB x), .string (strB f), .slice a n c] 38)
  have HB0 := Lib.hid hb0
  have hsx : (strB x).size ≤ 100 := by rw [strB_size]; exact hx
  have hsf : (strB f).size ≤ 100 := by rw [strB_size]; exact hf
  have z1 : (⟨#[46]⟩ : ByteArray).size = 1 := rfl
  have HR : Hid (strB x ++ ⟨#[46]⟩ ++ strB f = strB (x ++ 46 :: f)) := by
    show strB x ++ strB [46] ++ strB f = _
    rw [catT, catT]
    simp only [List.append_assoc, List.cons_append, List.nil_append]
  clear hb0 hx hf
  go_enter Tryz.func127, Tryz.ntmps127
  go_wp2
  go_ret
  exact ⟨by rw [← HR.out]; rfl, HB0.out⟩
set_option maxHeartbeats 2000000 in
set_option maxRecDepth 100000 in
theorem xt_count (hx : x.length ≤ 100) : Calls Tryz.prog 127 #[.agg #[.int .i64 3, .int .i64 v.k, .int .i64 v.n, .string (strB v.s), .string (strB x), .string (strB f), .slice a n c]] w fun e w' => e = .returned (.string (strB (atL callsL 3 ++ 40 :: (x ++ [41])))) ∧ Below w.heap.size w w' := by
  have hb0 := (Below.refl w.heap.size w).alloc (Nat.le_refl _) (.cells #[.int .i64 3, .int .i64 v.k, .int .i64 v.n, .string (strB v.s), .string (strB x), .string (strB f), .slice a n c] 38)
  have HB0 := Lib.hid hb0
  have hsx : (strB x).size ≤ 100 := by rw [strB_size]; exact hx
  have hix : ∀ W : World, (Instr.index 117 (textsV callsL) (.int .i64 3)).run Tryz.prog W = .ok (.string ⟨#[99, 111, 117, 110, 116]⟩) W := fun W => by kernel_rfl
  have HR : Hid ((⟨#[99, 111, 117, 110, 116]⟩ : ByteArray) ++ ⟨#[40]⟩ ++ strB x ++ ⟨#[41]⟩ = strB (atL callsL 3 ++ 40 :: (x ++ [41]))) := by
    show strB [99, 111, 117, 110, 116] ++ strB [40] ++ strB x ++ strB [41] = _
    rw [catT, catT, catT]
    show strB _ = strB ([99, 111, 117, 110, 116] ++ 40 :: (x ++ [41]))
    simp only [List.cons_append, List.nil_append]
  have HC := Lib.hid (fun W => calls_calls W)
  have z0 : (⟨#[99, 111, 117, 110, 116]⟩ : ByteArray).size = 5 := rfl
  have z1 : (⟨#[40]⟩ : ByteArray).size = 1 := rfl
  have z2 : (⟨#[41]⟩ : ByteArray).size = 1 := rfl
  have z3 : (⟨#[46]⟩ : ByteArray).size = 1 := rfl
  have d0 : (w.alloc (.cells #[.int .i64 3, .int .i64 v.k, .int .i64 v.n, .string (strB v.s), .string (strB x), .string (strB f), .slice a n c] 38)).drew.cell? ⟨w.heap.size, 0, none⟩ = some (.int .i64 3) := tnew w _ _ 0 rfl
  have d4 : (w.alloc (.cells #[.int .i64 3, .int .i64 v.k, .int .i64 v.n, .string (strB v.s), .string (strB x), .string (strB f), .slice a n c] 38)).drew.cell? ⟨w.heap.size, 4, none⟩ = some (.string (strB x)) := tnew w _ _ 4 rfl
  clear hb0 hx
  go_enter Tryz.func127, Tryz.ntmps127
  go_wp2_with fail
  refine wp_region_held_drew (S := fun W => W.cell? ⟨w.heap.size, 0, none⟩ = some (.int .i64 3) ∧ W.cell? ⟨w.heap.size, 4, none⟩ = some (.string (strB x)) ∧ True) (by kernel_rfl) ⟨d0, d4, trivial⟩ (fun hHeld => ?_)
  refine ttakeH 1 22 (v := ?va1) rfl (by kernel_rfl) (by kernel_rfl) (by kernel_rfl) rfl (fun _ _ _ h => h) (by rfl) ?ya1 (by assumption) ?ra1
  case ya1 => (intro W hSw; (try dsimp only at hSw); (try obtain ⟨hS0, hS1, hS2⟩ := hSw); go_simp; (try rw [if_neg (by omega)]); try with_reducible rfl)
  try simp only [Act.put, List.setIfInBounds_toArray, List.set_cons_zero, List.set_cons_succ]
  refine ttakeH 2 23 (v := ?va2) rfl (by kernel_rfl) (by kernel_rfl) (by kernel_rfl) rfl (fun _ _ _ h => h) (by rfl) ?ya2 (by assumption) ?ra2
  case ya2 => (intro W hSw; (try dsimp only at hSw); (try obtain ⟨hS0, hS1, hS2⟩ := hSw); go_simp; (try rw [if_neg (by omega)]); try with_reducible rfl)
  try simp only [Act.put, List.setIfInBounds_toArray, List.set_cons_zero, List.set_cons_succ]
  refine ttakeH 5 26 (v := ?va5) rfl (by kernel_rfl) (by kernel_rfl) (by kernel_rfl) rfl (fun _ _ _ h => h) (by rfl) ?ya5 (by assumption) ?ra5
  case ya5 => (intro W hSw; (try dsimp only at hSw); (try obtain ⟨hS0, hS1, hS2⟩ := hSw); go_simp; (try rw [if_neg (by omega)]); try with_reducible rfl)
  try simp only [Act.put, List.setIfInBounds_toArray, List.set_cons_zero, List.set_cons_succ]
  refine ttakeH 6 27 (v := ?va6) rfl (by kernel_rfl) (by kernel_rfl) (by kernel_rfl) rfl (fun _ _ _ h => h) (by rfl) ?ya6 (by assumption) ?ra6
  case ya6 => (intro W hSw; (try dsimp only at hSw); (try obtain ⟨hS0, hS1, hS2⟩ := hSw); go_simp; (try rw [if_neg (by omega)]); try with_reducible rfl)
  try simp only [Act.put, List.setIfInBounds_toArray, List.set_cons_zero, List.set_cons_succ]
  refine wpAnyH_ready (rs := [0]) (by kernel_rfl) (by simp) ?_
  refine AllReadyH.cons (o := _) rfl (fun K hK => ?_) AllReadyH.nil
  dsimp only [List.getElem_toArray, List.getElem_cons_succ, List.getElem_cons_zero]
  go_simp
  go_at_call 199
  (with_reducible refine (HC.out _).mono ?_)
  rintro e w1 ⟨rfl, hb1⟩
  have HB1 := Lib.hid ((vbelow_drew HB0.out).trans (hb1.mono (show _ ≤ (w.alloc (.cells #[.int .i64 3, .int .i64 v.k, .int .i64 v.n, .string (strB v.s), .string (strB x), .string (strB f), .slice a n c] 38)).drew.heap.size from HB0.out.size)))
  have e0 := tkeep hb1 d0
  have e4 := tkeep hb1 d4
  clear hb1
  go_wp2_with fail
  refine hK.out _ _ ⟨e0, e4, trivial⟩ (fun hHelda0 => ?_)
  clear hK K
  try simp only [Act.put, List.setIfInBounds_toArray, List.set_cons_zero, List.set_cons_succ]
  refine ttakeH 3 24 (v := ?va3) rfl (by kernel_rfl) (by kernel_rfl) (by kernel_rfl) rfl (fun _ _ _ h => h) (by rfl) ?ya3 (by assumption) ?ra3
  case ya3 => (intro W hSw; (try dsimp only at hSw); (try obtain ⟨hS0, hS1, hS2⟩ := hSw); go_simp; (try rw [if_neg (by omega)]); try with_reducible rfl)
  try simp only [Act.put, List.setIfInBounds_toArray, List.set_cons_zero, List.set_cons_succ]
  refine ttakeH 4 25 (v := ?va4) rfl (by kernel_rfl) (by kernel_rfl) (by kernel_rfl) rfl (fun _ _ _ h => h) (by rfl) ?ya4 (by assumption) ?ra4
  case ya4 => (intro W hSw; (try dsimp only at hSw); (try obtain ⟨hS0, hS1, hS2⟩ := hSw); go_simp; (try rw [if_neg (by omega)]); try with_reducible rfl)
  try simp only [Act.put, List.setIfInBounds_toArray, List.set_cons_zero, List.set_cons_succ]
  refine ttakeH 7 28 (v := ?va7) rfl (by kernel_rfl) (by kernel_rfl) (by kernel_rfl) rfl (fun _ _ _ h => h) (by rfl) ?ya7 (by assumption) ?ra7
  case ya7 => (intro W hSw; (try dsimp only at hSw); (try obtain ⟨hS0, hS1, hS2⟩ := hSw); go_simp; (try rw [if_neg (by omega)]); try with_reducible rfl)
  try simp only [Act.put, List.setIfInBounds_toArray, List.set_cons_zero, List.set_cons_succ]
  refine ttakeH 8 29 (v := ?va8) rfl (by kernel_rfl) (by kernel_rfl) (by kernel_rfl) rfl (fun _ _ _ h => h) (by rfl) ?ya8 (by assumption) ?ra8
  case ya8 => (intro W hSw; (try dsimp only at hSw); (try obtain ⟨hS0, hS1, hS2⟩ := hSw); go_simp; (try rw [if_neg (by omega)]); try with_reducible rfl)
  try simp only [Act.put, List.setIfInBounds_toArray, List.set_cons_zero, List.set_cons_succ]
  refine ttakeH 9 2 (v := ?va9) rfl (by kernel_rfl) (by kernel_rfl) (by kernel_rfl) rfl (fun _ _ _ h => h) (by rfl) ?ya9 (by assumption) ?ra9
  case ya9 => (intro W hSw; (try dsimp only at hSw); (try obtain ⟨hS0, hS1, hS2⟩ := hSw); go_simp; (try rw [if_neg (by omega)]); try with_reducible rfl)
  try simp only [Act.put, List.setIfInBounds_toArray, List.set_cons_zero, List.set_cons_succ]
  refine wpAnyH_done (by kernel_rfl) ?_ _
  go_wp2
  go_ret
  exact ⟨by rw [← HR.out]; rfl, HB1.out⟩
set_option maxHeartbeats 2000000 in
set_option maxRecDepth 100000 in
theorem xt_sum (hx : x.length ≤ 100) (hf : f.length ≤ 100) : Calls Tryz.prog 127 #[.agg #[.int .i64 4, .int .i64 v.k, .int .i64 v.n, .string (strB v.s), .string (strB x), .string (strB f), .slice a n c]] w fun e w' => e = .returned (.string (strB (atL callsL 4 ++ 40 :: (x ++ 46 :: (f ++ [41]))))) ∧ Below w.heap.size w w' := by
  have hb0 := (Below.refl w.heap.size w).alloc (Nat.le_refl _) (.cells #[.int .i64 4, .int .i64 v.k, .int .i64 v.n, .string (strB v.s), .string (strB x), .string (strB f), .slice a n c] 38)
  have HB0 := Lib.hid hb0
  have hsx : (strB x).size ≤ 100 := by rw [strB_size]; exact hx
  have hsf : (strB f).size ≤ 100 := by rw [strB_size]; exact hf
  have hix : ∀ W : World, (Instr.index 117 (textsV callsL) (.int .i64 4)).run Tryz.prog W = .ok (.string ⟨#[115, 117, 109]⟩) W := fun W => by kernel_rfl
  have HR : Hid ((⟨#[115, 117, 109]⟩ : ByteArray) ++ ⟨#[40]⟩ ++ strB x ++ ⟨#[46]⟩ ++ strB f ++ ⟨#[41]⟩ = strB (atL callsL 4 ++ 40 :: (x ++ 46 :: (f ++ [41])))) := by
    show strB [115, 117, 109] ++ strB [40] ++ strB x ++ strB [46] ++ strB f ++ strB [41] = _
    rw [catT, catT, catT, catT, catT]
    show strB _ = strB ([115, 117, 109] ++ 40 :: (x ++ 46 :: (f ++ [41])))
    simp only [List.append_assoc, List.cons_append, List.nil_append]
  have HC := Lib.hid (fun W => calls_calls W)
  have z0 : (⟨#[115, 117, 109]⟩ : ByteArray).size = 3 := rfl
  have z1 : (⟨#[40]⟩ : ByteArray).size = 1 := rfl
  have z2 : (⟨#[41]⟩ : ByteArray).size = 1 := rfl
  have z3 : (⟨#[46]⟩ : ByteArray).size = 1 := rfl
  have d0 : (w.alloc (.cells #[.int .i64 4, .int .i64 v.k, .int .i64 v.n, .string (strB v.s), .string (strB x), .string (strB f), .slice a n c] 38)).drew.cell? ⟨w.heap.size, 0, none⟩ = some (.int .i64 4) := tnew w _ _ 0 rfl
  have d4 : (w.alloc (.cells #[.int .i64 4, .int .i64 v.k, .int .i64 v.n, .string (strB v.s), .string (strB x), .string (strB f), .slice a n c] 38)).drew.cell? ⟨w.heap.size, 4, none⟩ = some (.string (strB x)) := tnew w _ _ 4 rfl
  have d5 : (w.alloc (.cells #[.int .i64 4, .int .i64 v.k, .int .i64 v.n, .string (strB v.s), .string (strB x), .string (strB f), .slice a n c] 38)).drew.cell? ⟨w.heap.size, 5, none⟩ = some (.string (strB f)) := tnew w _ _ 5 rfl
  clear hb0 hx hf
  go_enter Tryz.func127, Tryz.ntmps127
  go_wp2_with fail
  refine wp_region_held_drew (S := fun W => W.cell? ⟨w.heap.size, 0, none⟩ = some (.int .i64 4) ∧ W.cell? ⟨w.heap.size, 4, none⟩ = some (.string (strB x)) ∧ W.cell? ⟨w.heap.size, 5, none⟩ = some (.string (strB f))) (by kernel_rfl) ⟨d0, d4, d5⟩ (fun hHeld => ?_)
  refine ttakeH 1 35 (v := ?va1) rfl (by kernel_rfl) (by kernel_rfl) (by kernel_rfl) rfl (fun _ _ _ h => h) (by rfl) ?ya1 (by assumption) ?ra1
  case ya1 => (intro W hSw; (try dsimp only at hSw); (try obtain ⟨hS0, hS1, hS2⟩ := hSw); go_simp; (try rw [if_neg (by omega)]); try with_reducible rfl)
  try simp only [Act.put, List.setIfInBounds_toArray, List.set_cons_zero, List.set_cons_succ]
  refine ttakeH 2 36 (v := ?va2) rfl (by kernel_rfl) (by kernel_rfl) (by kernel_rfl) rfl (fun _ _ _ h => h) (by rfl) ?ya2 (by assumption) ?ra2
  case ya2 => (intro W hSw; (try dsimp only at hSw); (try obtain ⟨hS0, hS1, hS2⟩ := hSw); go_simp; (try rw [if_neg (by omega)]); try with_reducible rfl)
  try simp only [Act.put, List.setIfInBounds_toArray, List.set_cons_zero, List.set_cons_succ]
  refine ttakeH 5 39 (v := ?va5) rfl (by kernel_rfl) (by kernel_rfl) (by kernel_rfl) rfl (fun _ _ _ h => h) (by rfl) ?ya5 (by assumption) ?ra5
  case ya5 => (intro W hSw; (try dsimp only at hSw); (try obtain ⟨hS0, hS1, hS2⟩ := hSw); go_simp; (try rw [if_neg (by omega)]); try with_reducible rfl)
  try simp only [Act.put, List.setIfInBounds_toArray, List.set_cons_zero, List.set_cons_succ]
  refine ttakeH 6 40 (v := ?va6) rfl (by kernel_rfl) (by kernel_rfl) (by kernel_rfl) rfl (fun _ _ _ h => h) (by rfl) ?ya6 (by assumption) ?ra6
  case ya6 => (intro W hSw; (try dsimp only at hSw); (try obtain ⟨hS0, hS1, hS2⟩ := hSw); go_simp; (try rw [if_neg (by omega)]); try with_reducible rfl)
  try simp only [Act.put, List.setIfInBounds_toArray, List.set_cons_zero, List.set_cons_succ]
  refine ttakeH 9 43 (v := ?va9) rfl (by kernel_rfl) (by kernel_rfl) (by kernel_rfl) rfl (fun _ _ _ h => h) (by rfl) ?ya9 (by assumption) ?ra9
  case ya9 => (intro W hSw; (try dsimp only at hSw); (try obtain ⟨hS0, hS1, hS2⟩ := hSw); go_simp; (try rw [if_neg (by omega)]); try with_reducible rfl)
  try simp only [Act.put, List.setIfInBounds_toArray, List.set_cons_zero, List.set_cons_succ]
  refine ttakeH 10 44 (v := ?va10) rfl (by kernel_rfl) (by kernel_rfl) (by kernel_rfl) rfl (fun _ _ _ h => h) (by rfl) ?ya10 (by assumption) ?ra10
  case ya10 => (intro W hSw; (try dsimp only at hSw); (try obtain ⟨hS0, hS1, hS2⟩ := hSw); go_simp; (try rw [if_neg (by omega)]); try with_reducible rfl)
  try simp only [Act.put, List.setIfInBounds_toArray, List.set_cons_zero, List.set_cons_succ]
  refine wpAnyH_ready (rs := [0]) (by kernel_rfl) (by simp) ?_
  refine AllReadyH.cons (o := _) rfl (fun K hK => ?_) AllReadyH.nil
  dsimp only [List.getElem_toArray, List.getElem_cons_succ, List.getElem_cons_zero]
  go_simp
  go_at_call 199
  (with_reducible refine (HC.out _).mono ?_)
  rintro e w1 ⟨rfl, hb1⟩
  have HB1 := Lib.hid ((vbelow_drew HB0.out).trans (hb1.mono (show _ ≤ (w.alloc (.cells #[.int .i64 4, .int .i64 v.k, .int .i64 v.n, .string (strB v.s), .string (strB x), .string (strB f), .slice a n c] 38)).drew.heap.size from HB0.out.size)))
  have e0 := tkeep hb1 d0
  have e4 := tkeep hb1 d4
  have e5 := tkeep hb1 d5
  clear hb1
  go_wp2_with fail
  refine hK.out _ _ ⟨e0, e4, e5⟩ (fun hHelda0 => ?_)
  clear hK K
  try simp only [Act.put, List.setIfInBounds_toArray, List.set_cons_zero, List.set_cons_succ]
  refine ttakeH 3 37 (v := ?va3) rfl (by kernel_rfl) (by kernel_rfl) (by kernel_rfl) rfl (fun _ _ _ h => h) (by rfl) ?ya3 (by assumption) ?ra3
  case ya3 => (intro W hSw; (try dsimp only at hSw); (try obtain ⟨hS0, hS1, hS2⟩ := hSw); go_simp; (try rw [if_neg (by omega)]); try with_reducible rfl)
  try simp only [Act.put, List.setIfInBounds_toArray, List.set_cons_zero, List.set_cons_succ]
  refine ttakeH 4 38 (v := ?va4) rfl (by kernel_rfl) (by kernel_rfl) (by kernel_rfl) rfl (fun _ _ _ h => h) (by rfl) ?ya4 (by assumption) ?ra4
  case ya4 => (intro W hSw; (try dsimp only at hSw); (try obtain ⟨hS0, hS1, hS2⟩ := hSw); go_simp; (try rw [if_neg (by omega)]); try with_reducible rfl)
  try simp only [Act.put, List.setIfInBounds_toArray, List.set_cons_zero, List.set_cons_succ]
  refine ttakeH 7 41 (v := ?va7) rfl (by kernel_rfl) (by kernel_rfl) (by kernel_rfl) rfl (fun _ _ _ h => h) (by rfl) ?ya7 (by assumption) ?ra7
  case ya7 => (intro W hSw; (try dsimp only at hSw); (try obtain ⟨hS0, hS1, hS2⟩ := hSw); go_simp; (try rw [if_neg (by omega)]); try with_reducible rfl)
  try simp only [Act.put, List.setIfInBounds_toArray, List.set_cons_zero, List.set_cons_succ]
  refine ttakeH 8 42 (v := ?va8) rfl (by kernel_rfl) (by kernel_rfl) (by kernel_rfl) rfl (fun _ _ _ h => h) (by rfl) ?ya8 (by assumption) ?ra8
  case ya8 => (intro W hSw; (try dsimp only at hSw); (try obtain ⟨hS0, hS1, hS2⟩ := hSw); go_simp; (try rw [if_neg (by omega)]); try with_reducible rfl)
  try simp only [Act.put, List.setIfInBounds_toArray, List.set_cons_zero, List.set_cons_succ]
  refine ttakeH 11 45 (v := ?va11) rfl (by kernel_rfl) (by kernel_rfl) (by kernel_rfl) rfl (fun _ _ _ h => h) (by rfl) ?ya11 (by assumption) ?ra11
  case ya11 => (intro W hSw; (try dsimp only at hSw); (try obtain ⟨hS0, hS1, hS2⟩ := hSw); go_simp; (try rw [if_neg (by omega)]); try with_reducible rfl)
  try simp only [Act.put, List.setIfInBounds_toArray, List.set_cons_zero, List.set_cons_succ]
  refine ttakeH 12 46 (v := ?va12) rfl (by kernel_rfl) (by kernel_rfl) (by kernel_rfl) rfl (fun _ _ _ h => h) (by rfl) ?ya12 (by assumption) ?ra12
  case ya12 => (intro W hSw; (try dsimp only at hSw); (try obtain ⟨hS0, hS1, hS2⟩ := hSw); go_simp; (try rw [if_neg (by omega)]); try with_reducible rfl)
  try simp only [Act.put, List.setIfInBounds_toArray, List.set_cons_zero, List.set_cons_succ]
  refine ttakeH 13 2 (v := ?va13) rfl (by kernel_rfl) (by kernel_rfl) (by kernel_rfl) rfl (fun _ _ _ h => h) (by rfl) ?ya13 (by assumption) ?ra13
  case ya13 => (intro W hSw; (try dsimp only at hSw); (try obtain ⟨hS0, hS1, hS2⟩ := hSw); go_simp; (try rw [if_neg (by omega)]); try with_reducible rfl)
  try simp only [Act.put, List.setIfInBounds_toArray, List.set_cons_zero, List.set_cons_succ]
  refine wpAnyH_done (by kernel_rfl) ?_ _
  go_wp2
  go_ret
  exact ⟨by rw [← HR.out]; rfl, HB1.out⟩
set_option maxHeartbeats 2000000 in
set_option maxRecDepth 100000 in
theorem xt_min (hx : x.length ≤ 100) (hf : f.length ≤ 100) : Calls Tryz.prog 127 #[.agg #[.int .i64 5, .int .i64 v.k, .int .i64 v.n, .string (strB v.s), .string (strB x), .string (strB f), .slice a n c]] w fun e w' => e = .returned (.string (strB (atL callsL 5 ++ 40 :: (x ++ 46 :: (f ++ [41]))))) ∧ Below w.heap.size w w' := by
  have hb0 := (Below.refl w.heap.size w).alloc (Nat.le_refl _) (.cells #[.int .i64 5, .int .i64 v.k, .int .i64 v.n, .string (strB v.s), .string (strB x), .string (strB f), .slice a n c] 38)
  have HB0 := Lib.hid hb0
  have hsx : (strB x).size ≤ 100 := by rw [strB_size]; exact hx
  have hsf : (strB f).size ≤ 100 := by rw [strB_size]; exact hf
  have hix : ∀ W : World, (Instr.index 117 (textsV callsL) (.int .i64 5)).run Tryz.prog W = .ok (.string ⟨#[109, 105, 110]⟩) W := fun W => by kernel_rfl
  have HR : Hid ((⟨#[109, 105, 110]⟩ : ByteArray) ++ ⟨#[40]⟩ ++ strB x ++ ⟨#[46]⟩ ++ strB f ++ ⟨#[41]⟩ = strB (atL callsL 5 ++ 40 :: (x ++ 46 :: (f ++ [41])))) := by
    show strB [109, 105, 110] ++ strB [40] ++ strB x ++ strB [46] ++ strB f ++ strB [41] = _
    rw [catT, catT, catT, catT, catT]
    show strB _ = strB ([109, 105, 110] ++ 40 :: (x ++ 46 :: (f ++ [41])))
    simp only [List.append_assoc, List.cons_append, List.nil_append]
  have HC := Lib.hid (fun W => calls_calls W)
  have z0 : (⟨#[109, 105, 110]⟩ : ByteArray).size = 3 := rfl
  have z1 : (⟨#[40]⟩ : ByteArray).size = 1 := rfl
  have z2 : (⟨#[41]⟩ : ByteArray).size = 1 := rfl
  have z3 : (⟨#[46]⟩ : ByteArray).size = 1 := rfl
  have d0 : (w.alloc (.cells #[.int .i64 5, .int .i64 v.k, .int .i64 v.n, .string (strB v.s), .string (strB x), .string (strB f), .slice a n c] 38)).drew.cell? ⟨w.heap.size, 0, none⟩ = some (.int .i64 5) := tnew w _ _ 0 rfl
  have d4 : (w.alloc (.cells #[.int .i64 5, .int .i64 v.k, .int .i64 v.n, .string (strB v.s), .string (strB x), .string (strB f), .slice a n c] 38)).drew.cell? ⟨w.heap.size, 4, none⟩ = some (.string (strB x)) := tnew w _ _ 4 rfl
  have d5 : (w.alloc (.cells #[.int .i64 5, .int .i64 v.k, .int .i64 v.n, .string (strB v.s), .string (strB x), .string (strB f), .slice a n c] 38)).drew.cell? ⟨w.heap.size, 5, none⟩ = some (.string (strB f)) := tnew w _ _ 5 rfl
  clear hb0 hx hf
  go_enter Tryz.func127, Tryz.ntmps127
  go_wp2_with fail
  refine wp_region_held_drew (S := fun W => W.cell? ⟨w.heap.size, 0, none⟩ = some (.int .i64 5) ∧ W.cell? ⟨w.heap.size, 4, none⟩ = some (.string (strB x)) ∧ W.cell? ⟨w.heap.size, 5, none⟩ = some (.string (strB f))) (by kernel_rfl) ⟨d0, d4, d5⟩ (fun hHeld => ?_)
  refine ttakeH 1 35 (v := ?va1) rfl (by kernel_rfl) (by kernel_rfl) (by kernel_rfl) rfl (fun _ _ _ h => h) (by rfl) ?ya1 (by assumption) ?ra1
  case ya1 => (intro W hSw; (try dsimp only at hSw); (try obtain ⟨hS0, hS1, hS2⟩ := hSw); go_simp; (try rw [if_neg (by omega)]); try with_reducible rfl)
  try simp only [Act.put, List.setIfInBounds_toArray, List.set_cons_zero, List.set_cons_succ]
  refine ttakeH 2 36 (v := ?va2) rfl (by kernel_rfl) (by kernel_rfl) (by kernel_rfl) rfl (fun _ _ _ h => h) (by rfl) ?ya2 (by assumption) ?ra2
  case ya2 => (intro W hSw; (try dsimp only at hSw); (try obtain ⟨hS0, hS1, hS2⟩ := hSw); go_simp; (try rw [if_neg (by omega)]); try with_reducible rfl)
  try simp only [Act.put, List.setIfInBounds_toArray, List.set_cons_zero, List.set_cons_succ]
  refine ttakeH 5 39 (v := ?va5) rfl (by kernel_rfl) (by kernel_rfl) (by kernel_rfl) rfl (fun _ _ _ h => h) (by rfl) ?ya5 (by assumption) ?ra5
  case ya5 => (intro W hSw; (try dsimp only at hSw); (try obtain ⟨hS0, hS1, hS2⟩ := hSw); go_simp; (try rw [if_neg (by omega)]); try with_reducible rfl)
  try simp only [Act.put, List.setIfInBounds_toArray, List.set_cons_zero, List.set_cons_succ]
  refine ttakeH 6 40 (v := ?va6) rfl (by kernel_rfl) (by kernel_rfl) (by kernel_rfl) rfl (fun _ _ _ h => h) (by rfl) ?ya6 (by assumption) ?ra6
  case ya6 => (intro W hSw; (try dsimp only at hSw); (try obtain ⟨hS0, hS1, hS2⟩ := hSw); go_simp; (try rw [if_neg (by omega)]); try with_reducible rfl)
  try simp only [Act.put, List.setIfInBounds_toArray, List.set_cons_zero, List.set_cons_succ]
  refine ttakeH 9 43 (v := ?va9) rfl (by kernel_rfl) (by kernel_rfl) (by kernel_rfl) rfl (fun _ _ _ h => h) (by rfl) ?ya9 (by assumption) ?ra9
  case ya9 => (intro W hSw; (try dsimp only at hSw); (try obtain ⟨hS0, hS1, hS2⟩ := hSw); go_simp; (try rw [if_neg (by omega)]); try with_reducible rfl)
  try simp only [Act.put, List.setIfInBounds_toArray, List.set_cons_zero, List.set_cons_succ]
  refine ttakeH 10 44 (v := ?va10) rfl (by kernel_rfl) (by kernel_rfl) (by kernel_rfl) rfl (fun _ _ _ h => h) (by rfl) ?ya10 (by assumption) ?ra10
  case ya10 => (intro W hSw; (try dsimp only at hSw); (try obtain ⟨hS0, hS1, hS2⟩ := hSw); go_simp; (try rw [if_neg (by omega)]); try with_reducible rfl)
  try simp only [Act.put, List.setIfInBounds_toArray, List.set_cons_zero, List.set_cons_succ]
  refine wpAnyH_ready (rs := [0]) (by kernel_rfl) (by simp) ?_
  refine AllReadyH.cons (o := _) rfl (fun K hK => ?_) AllReadyH.nil
  dsimp only [List.getElem_toArray, List.getElem_cons_succ, List.getElem_cons_zero]
  go_simp
  go_at_call 199
  (with_reducible refine (HC.out _).mono ?_)
  rintro e w1 ⟨rfl, hb1⟩
  have HB1 := Lib.hid ((vbelow_drew HB0.out).trans (hb1.mono (show _ ≤ (w.alloc (.cells #[.int .i64 5, .int .i64 v.k, .int .i64 v.n, .string (strB v.s), .string (strB x), .string (strB f), .slice a n c] 38)).drew.heap.size from HB0.out.size)))
  have e0 := tkeep hb1 d0
  have e4 := tkeep hb1 d4
  have e5 := tkeep hb1 d5
  clear hb1
  go_wp2_with fail
  refine hK.out _ _ ⟨e0, e4, e5⟩ (fun hHelda0 => ?_)
  clear hK K
  try simp only [Act.put, List.setIfInBounds_toArray, List.set_cons_zero, List.set_cons_succ]
  refine ttakeH 3 37 (v := ?va3) rfl (by kernel_rfl) (by kernel_rfl) (by kernel_rfl) rfl (fun _ _ _ h => h) (by rfl) ?ya3 (by assumption) ?ra3
  case ya3 => (intro W hSw; (try dsimp only at hSw); (try obtain ⟨hS0, hS1, hS2⟩ := hSw); go_simp; (try rw [if_neg (by omega)]); try with_reducible rfl)
  try simp only [Act.put, List.setIfInBounds_toArray, List.set_cons_zero, List.set_cons_succ]
  refine ttakeH 4 38 (v := ?va4) rfl (by kernel_rfl) (by kernel_rfl) (by kernel_rfl) rfl (fun _ _ _ h => h) (by rfl) ?ya4 (by assumption) ?ra4
  case ya4 => (intro W hSw; (try dsimp only at hSw); (try obtain ⟨hS0, hS1, hS2⟩ := hSw); go_simp; (try rw [if_neg (by omega)]); try with_reducible rfl)
  try simp only [Act.put, List.setIfInBounds_toArray, List.set_cons_zero, List.set_cons_succ]
  refine ttakeH 7 41 (v := ?va7) rfl (by kernel_rfl) (by kernel_rfl) (by kernel_rfl) rfl (fun _ _ _ h => h) (by rfl) ?ya7 (by assumption) ?ra7
  case ya7 => (intro W hSw; (try dsimp only at hSw); (try obtain ⟨hS0, hS1, hS2⟩ := hSw); go_simp; (try rw [if_neg (by omega)]); try with_reducible rfl)
  try simp only [Act.put, List.setIfInBounds_toArray, List.set_cons_zero, List.set_cons_succ]
  refine ttakeH 8 42 (v := ?va8) rfl (by kernel_rfl) (by kernel_rfl) (by kernel_rfl) rfl (fun _ _ _ h => h) (by rfl) ?ya8 (by assumption) ?ra8
  case ya8 => (intro W hSw; (try dsimp only at hSw); (try obtain ⟨hS0, hS1, hS2⟩ := hSw); go_simp; (try rw [if_neg (by omega)]); try with_reducible rfl)
  try simp only [Act.put, List.setIfInBounds_toArray, List.set_cons_zero, List.set_cons_succ]
  refine ttakeH 11 45 (v := ?va11) rfl (by kernel_rfl) (by kernel_rfl) (by kernel_rfl) rfl (fun _ _ _ h => h) (by rfl) ?ya11 (by assumption) ?ra11
  case ya11 => (intro W hSw; (try dsimp only at hSw); (try obtain ⟨hS0, hS1, hS2⟩ := hSw); go_simp; (try rw [if_neg (by omega)]); try with_reducible rfl)
  try simp only [Act.put, List.setIfInBounds_toArray, List.set_cons_zero, List.set_cons_succ]
  refine ttakeH 12 46 (v := ?va12) rfl (by kernel_rfl) (by kernel_rfl) (by kernel_rfl) rfl (fun _ _ _ h => h) (by rfl) ?ya12 (by assumption) ?ra12
  case ya12 => (intro W hSw; (try dsimp only at hSw); (try obtain ⟨hS0, hS1, hS2⟩ := hSw); go_simp; (try rw [if_neg (by omega)]); try with_reducible rfl)
  try simp only [Act.put, List.setIfInBounds_toArray, List.set_cons_zero, List.set_cons_succ]
  refine ttakeH 13 2 (v := ?va13) rfl (by kernel_rfl) (by kernel_rfl) (by kernel_rfl) rfl (fun _ _ _ h => h) (by rfl) ?ya13 (by assumption) ?ra13
  case ya13 => (intro W hSw; (try dsimp only at hSw); (try obtain ⟨hS0, hS1, hS2⟩ := hSw); go_simp; (try rw [if_neg (by omega)]); try with_reducible rfl)
  try simp only [Act.put, List.setIfInBounds_toArray, List.set_cons_zero, List.set_cons_succ]
  refine wpAnyH_done (by kernel_rfl) ?_ _
  go_wp2
  go_ret
  exact ⟨by rw [← HR.out]; rfl, HB1.out⟩
set_option maxHeartbeats 2000000 in
set_option maxRecDepth 100000 in
theorem xt_max (hx : x.length ≤ 100) (hf : f.length ≤ 100) : Calls Tryz.prog 127 #[.agg #[.int .i64 6, .int .i64 v.k, .int .i64 v.n, .string (strB v.s), .string (strB x), .string (strB f), .slice a n c]] w fun e w' => e = .returned (.string (strB (atL callsL 6 ++ 40 :: (x ++ 46 :: (f ++ [41]))))) ∧ Below w.heap.size w w' := by
  have hb0 := (Below.refl w.heap.size w).alloc (Nat.le_refl _) (.cells #[.int .i64 6, .int .i64 v.k, .int .i64 v.n, .string (strB v.s), .string (strB x), .string (strB f), .slice a n c] 38)
  have HB0 := Lib.hid hb0
  have hsx : (strB x).size ≤ 100 := by rw [strB_size]; exact hx
  have hsf : (strB f).size ≤ 100 := by rw [strB_size]; exact hf
  have hix : ∀ W : World, (Instr.index 117 (textsV callsL) (.int .i64 6)).run Tryz.prog W = .ok (.string ⟨#[109, 97, 120]⟩) W := fun W => by kernel_rfl
  have HR : Hid ((⟨#[109, 97, 120]⟩ : ByteArray) ++ ⟨#[40]⟩ ++ strB x ++ ⟨#[46]⟩ ++ strB f ++ ⟨#[41]⟩ = strB (atL callsL 6 ++ 40 :: (x ++ 46 :: (f ++ [41])))) := by
    show strB [109, 97, 120] ++ strB [40] ++ strB x ++ strB [46] ++ strB f ++ strB [41] = _
    rw [catT, catT, catT, catT, catT]
    show strB _ = strB ([109, 97, 120] ++ 40 :: (x ++ 46 :: (f ++ [41])))
    simp only [List.append_assoc, List.cons_append, List.nil_append]
  have HC := Lib.hid (fun W => calls_calls W)
  have z0 : (⟨#[109, 97, 120]⟩ : ByteArray).size = 3 := rfl
  have z1 : (⟨#[40]⟩ : ByteArray).size = 1 := rfl
  have z2 : (⟨#[41]⟩ : ByteArray).size = 1 := rfl
  have z3 : (⟨#[46]⟩ : ByteArray).size = 1 := rfl
  have d0 : (w.alloc (.cells #[.int .i64 6, .int .i64 v.k, .int .i64 v.n, .string (strB v.s), .string (strB x), .string (strB f), .slice a n c] 38)).drew.cell? ⟨w.heap.size, 0, none⟩ = some (.int .i64 6) := tnew w _ _ 0 rfl
  have d4 : (w.alloc (.cells #[.int .i64 6, .int .i64 v.k, .int .i64 v.n, .string (strB v.s), .string (strB x), .string (strB f), .slice a n c] 38)).drew.cell? ⟨w.heap.size, 4, none⟩ = some (.string (strB x)) := tnew w _ _ 4 rfl
  have d5 : (w.alloc (.cells #[.int .i64 6, .int .i64 v.k, .int .i64 v.n, .string (strB v.s), .string (strB x), .string (strB f), .slice a n c] 38)).drew.cell? ⟨w.heap.size, 5, none⟩ = some (.string (strB f)) := tnew w _ _ 5 rfl
  clear hb0 hx hf
  go_enter Tryz.func127, Tryz.ntmps127
  go_wp2_with fail
  refine wp_region_held_drew (S := fun W => W.cell? ⟨w.heap.size, 0, none⟩ = some (.int .i64 6) ∧ W.cell? ⟨w.heap.size, 4, none⟩ = some (.string (strB x)) ∧ W.cell? ⟨w.heap.size, 5, none⟩ = some (.string (strB f))) (by kernel_rfl) ⟨d0, d4, d5⟩ (fun hHeld => ?_)
  refine ttakeH 1 35 (v := ?va1) rfl (by kernel_rfl) (by kernel_rfl) (by kernel_rfl) rfl (fun _ _ _ h => h) (by rfl) ?ya1 (by assumption) ?ra1
  case ya1 => (intro W hSw; (try dsimp only at hSw); (try obtain ⟨hS0, hS1, hS2⟩ := hSw); go_simp; (try rw [if_neg (by omega)]); try with_reducible rfl)
  try simp only [Act.put, List.setIfInBounds_toArray, List.set_cons_zero, List.set_cons_succ]
  refine ttakeH 2 36 (v := ?va2) rfl (by kernel_rfl) (by kernel_rfl) (by kernel_rfl) rfl (fun _ _ _ h => h) (by rfl) ?ya2 (by assumption) ?ra2
  case ya2 => (intro W hSw; (try dsimp only at hSw); (try obtain ⟨hS0, hS1, hS2⟩ := hSw); go_simp; (try rw [if_neg (by omega)]); try with_reducible rfl)
  try simp only [Act.put, List.setIfInBounds_toArray, List.set_cons_zero, List.set_cons_succ]
  refine ttakeH 5 39 (v := ?va5) rfl (by kernel_rfl) (by kernel_rfl) (by kernel_rfl) rfl (fun _ _ _ h => h) (by rfl) ?ya5 (by assumption) ?ra5
  case ya5 => (intro W hSw; (try dsimp only at hSw); (try obtain ⟨hS0, hS1, hS2⟩ := hSw); go_simp; (try rw [if_neg (by omega)]); try with_reducible rfl)
  try simp only [Act.put, List.setIfInBounds_toArray, List.set_cons_zero, List.set_cons_succ]
  refine ttakeH 6 40 (v := ?va6) rfl (by kernel_rfl) (by kernel_rfl) (by kernel_rfl) rfl (fun _ _ _ h => h) (by rfl) ?ya6 (by assumption) ?ra6
  case ya6 => (intro W hSw; (try dsimp only at hSw); (try obtain ⟨hS0, hS1, hS2⟩ := hSw); go_simp; (try rw [if_neg (by omega)]); try with_reducible rfl)
  try simp only [Act.put, List.setIfInBounds_toArray, List.set_cons_zero, List.set_cons_succ]
  refine ttakeH 9 43 (v := ?va9) rfl (by kernel_rfl) (by kernel_rfl) (by kernel_rfl) rfl (fun _ _ _ h => h) (by rfl) ?ya9 (by assumption) ?ra9
  case ya9 => (intro W hSw; (try dsimp only at hSw); (try obtain ⟨hS0, hS1, hS2⟩ := hSw); go_simp; (try rw [if_neg (by omega)]); try with_reducible rfl)
  try simp only [Act.put, List.setIfInBounds_toArray, List.set_cons_zero, List.set_cons_succ]
  refine ttakeH 10 44 (v := ?va10) rfl (by kernel_rfl) (by kernel_rfl) (by kernel_rfl) rfl (fun _ _ _ h => h) (by rfl) ?ya10 (by assumption) ?ra10
  case ya10 => (intro W hSw; (try dsimp only at hSw); (try obtain ⟨hS0, hS1, hS2⟩ := hSw); go_simp; (try rw [if_neg (by omega)]); try with_reducible rfl)
  try simp only [Act.put, List.setIfInBounds_toArray, List.set_cons_zero, List.set_cons_succ]
  refine wpAnyH_ready (rs := [0]) (by kernel_rfl) (by simp) ?_
  refine AllReadyH.cons (o := _) rfl (fun K hK => ?_) AllReadyH.nil
  dsimp only [List.getElem_toArray, List.getElem_cons_succ, List.getElem_cons_zero]
  go_simp
  go_at_call 199
  (with_reducible refine (HC.out _).mono ?_)
  rintro e w1 ⟨rfl, hb1⟩
  have HB1 := Lib.hid ((vbelow_drew HB0.out).trans (hb1.mono (show _ ≤ (w.alloc (.cells #[.int .i64 6, .int .i64 v.k, .int .i64 v.n, .string (strB v.s), .string (strB x), .string (strB f), .slice a n c] 38)).drew.heap.size from HB0.out.size)))
  have e0 := tkeep hb1 d0
  have e4 := tkeep hb1 d4
  have e5 := tkeep hb1 d5
  clear hb1
  go_wp2_with fail
  refine hK.out _ _ ⟨e0, e4, e5⟩ (fun hHelda0 => ?_)
  clear hK K
  try simp only [Act.put, List.setIfInBounds_toArray, List.set_cons_zero, List.set_cons_succ]
  refine ttakeH 3 37 (v := ?va3) rfl (by kernel_rfl) (by kernel_rfl) (by kernel_rfl) rfl (fun _ _ _ h => h) (by rfl) ?ya3 (by assumption) ?ra3
  case ya3 => (intro W hSw; (try dsimp only at hSw); (try obtain ⟨hS0, hS1, hS2⟩ := hSw); go_simp; (try rw [if_neg (by omega)]); try with_reducible rfl)
  try simp only [Act.put, List.setIfInBounds_toArray, List.set_cons_zero, List.set_cons_succ]
  refine ttakeH 4 38 (v := ?va4) rfl (by kernel_rfl) (by kernel_rfl) (by kernel_rfl) rfl (fun _ _ _ h => h) (by rfl) ?ya4 (by assumption) ?ra4
  case ya4 => (intro W hSw; (try dsimp only at hSw); (try obtain ⟨hS0, hS1, hS2⟩ := hSw); go_simp; (try rw [if_neg (by omega)]); try with_reducible rfl)
  try simp only [Act.put, List.setIfInBounds_toArray, List.set_cons_zero, List.set_cons_succ]
  refine ttakeH 7 41 (v := ?va7) rfl (by kernel_rfl) (by kernel_rfl) (by kernel_rfl) rfl (fun _ _ _ h => h) (by rfl) ?ya7 (by assumption) ?ra7
  case ya7 => (intro W hSw; (try dsimp only at hSw); (try obtain ⟨hS0, hS1, hS2⟩ := hSw); go_simp; (try rw [if_neg (by omega)]); try with_reducible rfl)
  try simp only [Act.put, List.setIfInBounds_toArray, List.set_cons_zero, List.set_cons_succ]
  refine ttakeH 8 42 (v := ?va8) rfl (by kernel_rfl) (by kernel_rfl) (by kernel_rfl) rfl (fun _ _ _ h => h) (by rfl) ?ya8 (by assumption) ?ra8
  case ya8 => (intro W hSw; (try dsimp only at hSw); (try obtain ⟨hS0, hS1, hS2⟩ := hSw); go_simp; (try rw [if_neg (by omega)]); try with_reducible rfl)
  try simp only [Act.put, List.setIfInBounds_toArray, List.set_cons_zero, List.set_cons_succ]
  refine ttakeH 11 45 (v := ?va11) rfl (by kernel_rfl) (by kernel_rfl) (by kernel_rfl) rfl (fun _ _ _ h => h) (by rfl) ?ya11 (by assumption) ?ra11
  case ya11 => (intro W hSw; (try dsimp only at hSw); (try obtain ⟨hS0, hS1, hS2⟩ := hSw); go_simp; (try rw [if_neg (by omega)]); try with_reducible rfl)
  try simp only [Act.put, List.setIfInBounds_toArray, List.set_cons_zero, List.set_cons_succ]
  refine ttakeH 12 46 (v := ?va12) rfl (by kernel_rfl) (by kernel_rfl) (by kernel_rfl) rfl (fun _ _ _ h => h) (by rfl) ?ya12 (by assumption) ?ra12
  case ya12 => (intro W hSw; (try dsimp only at hSw); (try obtain ⟨hS0, hS1, hS2⟩ := hSw); go_simp; (try rw [if_neg (by omega)]); try with_reducible rfl)
  try simp only [Act.put, List.setIfInBounds_toArray, List.set_cons_zero, List.set_cons_succ]
  refine ttakeH 13 2 (v := ?va13) rfl (by kernel_rfl) (by kernel_rfl) (by kernel_rfl) rfl (fun _ _ _ h => h) (by rfl) ?ya13 (by assumption) ?ra13
  case ya13 => (intro W hSw; (try dsimp only at hSw); (try obtain ⟨hS0, hS1, hS2⟩ := hSw); go_simp; (try rw [if_neg (by omega)]); try with_reducible rfl)
  try simp only [Act.put, List.setIfInBounds_toArray, List.set_cons_zero, List.set_cons_succ]
  refine wpAnyH_done (by kernel_rfl) ?_ _
  go_wp2
  go_ret
  exact ⟨by rw [← HR.out]; rfl, HB1.out⟩
end

end Go.Proofs.YtifacoompbngaaaGreatDoor
