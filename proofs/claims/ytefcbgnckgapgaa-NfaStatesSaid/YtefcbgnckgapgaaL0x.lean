/- Words of a query's text, in plain words. -/
import Derived.Test.YtefcbgnckgapgaaF3
import Derived.Lib.ParseIntBTie
import Derived.Lib.Bytealg
namespace Go.Proofs.Ytefcbgnckgapgaa
open Go.Lib

def xblank (c : UInt8) : Bool := decide (c.toNat = 32) || decide (c.toNat = 10)
def xletter (c : UInt8) : Bool := decide (97 ≤ c.toNat) && decide (c.toNat ≤ 122)
def xdigit (c : UInt8) : Bool := decide (48 ≤ c.toNat) && decide (c.toNat ≤ 57)
def xin (c : UInt8) : Bool := xletter c || (xdigit c || decide (c.toNat = 95))
def xquot (c : UInt8) : Bool := decide (32 ≤ c.toNat) && (decide (c.toNat ≤ 126) && !decide (c.toNat = 39))

/-- How many are of a kind, from the front. -/
def manyL (p : UInt8 → Bool) (l : List UInt8) : Nat := (l.takeWhile p).length
theorem manyL_le (p : UInt8 → Bool) (l : List UInt8) : manyL p l ≤ l.length := (List.takeWhile_prefix _).length_le
theorem manyL_nil (p : UInt8 → Bool) : manyL p [] = 0 := rfl
theorem manyL_cons (p : UInt8 → Bool) (c : UInt8) (l : List UInt8) : manyL p (c :: l) = if p c then manyL p l + 1 else 0 := by
  unfold manyL
  rw [List.takeWhile_cons]
  cases p c <;> simp
theorem manyL_take (p : UInt8 → Bool) : ∀ (l : List UInt8), ∀ c ∈ l.take (manyL p l), p c = true
  | [], c, h => by simp at h
  | x :: l, c, h => by
    rw [manyL_cons] at h
    split at h
    · rename_i hx
      simp at h
      rcases h with rfl | h
      · exact hx
      · exact manyL_take p l c h
    · simp at h
theorem manyL_next (p : UInt8 → Bool) : ∀ (l : List UInt8) (c : UInt8), l[manyL p l]? = some c → p c = false
  | [], c, h => by simp at h
  | x :: l, c, h => by
    rw [manyL_cons] at h
    split at h
    · exact manyL_next p l c (by simpa using h)
    · rename_i hx
      simp at h
      subst h
      simpa using hx
/-- It is the first that is of another kind, or the end. -/
theorem manyL_is (p : UInt8 → Bool) : ∀ (l : List UInt8) (n : Nat), n ≤ l.length → (∀ c ∈ l.take n, p c = true) → (∀ c, l[n]? = some c → p c = false) → manyL p l = n
  | [], n, hn, _, _ => by simp at hn; subst hn; rfl
  | x :: l, 0, _, _, h2 => by rw [manyL_cons, if_neg (by simp [h2 x rfl])]
  | x :: l, n + 1, hn, h1, h2 => by
    rw [manyL_cons, if_pos (h1 x (by simp)), manyL_is p l n (by simpa using hn) (fun c hc => h1 c (by simp [hc])) (fun c hc => h2 c (by simpa using hc))]
/-- With something behind that begins with another kind, or nothing, nothing changes. -/
theorem manyL_append (p : UInt8 → Bool) {l m : List UInt8} (h : ∀ c, m[0]? = some c → p c = false) : manyL p (l ++ m) = manyL p l := by
  refine manyL_is p _ _ (by have := manyL_le p l; rw [List.length_append]; omega) ?_ ?_
  · intro c hc
    rw [List.take_append_of_le_length (manyL_le p l)] at hc
    exact manyL_take p l c hc
  · intro c hc
    by_cases hlt : manyL p l < l.length
    · rw [List.getElem?_append_left hlt] at hc
      exact manyL_next p l c hc
    · have he : manyL p l = l.length := by have := manyL_le p l; omega
      rw [List.getElem?_append_right (by omega), he, Nat.sub_self] at hc
      exact h c hc
/-- Likewise if it ends ahead of what is behind. -/
theorem manyL_append_lt (p : UInt8 → Bool) {l m : List UInt8} (h : manyL p l < l.length) : manyL p (l ++ m) = manyL p l := by
  refine manyL_is p _ _ (by rw [List.length_append]; omega) ?_ ?_
  · intro c hc
    rw [List.take_append_of_le_length (by omega)] at hc
    exact manyL_take p l c hc
  · intro c hc
    rw [List.getElem?_append_left h] at hc
    exact manyL_next p l c hc

/-- Are digits a number? -/
def rightN (l : List UInt8) : Bool :=
  match parseIntB 64 l with
  | .ok v => decide (v ≤ 1099511627776) && (!(l.head?.map (·.toNat) == some 48) || l.length == 1)
  | _ => false

def amongL (l : List UInt8) (c : UInt8) : Bool := decide (0 ≤ indexByte l c)
def signsL : List UInt8 := [61, 60, 62, 43, 45, 40, 41, 46, 63]
def beforeL : List UInt8 := [33, 60, 62]

/-- The kind of the token that bytes begin with, and how many it has. -/
def firstC (c : UInt8) (t : List UInt8) : Nat × Nat :=
  if xletter c then (if 16 < manyL xin (c :: t) then (0, 0) else (1, manyL xin (c :: t)))
  else if xdigit c then (if rightN ((c :: t).take (manyL xdigit (c :: t))) then (2, manyL xdigit (c :: t)) else (0, 0))
  else if c.toNat = 39 then (if 65 < 1 + manyL xquot t ∨ manyL xquot t = t.length ∨ ¬ t[manyL xquot t]? = some 39 then (0, 0) else (3, 1 + manyL xquot t + 1))
  else if (t[0]? = some 61 ∧ amongL beforeL c = true) then (4, 2)
  else if amongL signsL c then (4, 1)
  else (0, 0)
def firstX : List UInt8 → Nat × Nat
  | [] => (0, 0)
  | c :: t => firstC c t

/-- A token: its kind, its text, its place. -/
structure XTok where
  k : Nat
  b : List UInt8
  at_ : Nat

def textX (k : Nat) (bs : List UInt8) : List UInt8 := if k = 3 then (bs.drop 1).take (bs.length - 2) else bs
def saidX (t : XTok) : List UInt8 := if t.k = 3 then 39 :: (t.b ++ [39]) else t.b

def consX (t : XTok) (r : List XTok × Nat × Nat) : List XTok × Nat × Nat := if r.2.1 = 0 then (t :: r.1, 0, 0) else r
def appX (acc : List XTok) (r : List XTok × Nat × Nat) : List XTok × Nat × Nat := if r.2.1 = 0 then (acc ++ r.1, 0, 0) else r
theorem appX_nil (r : List XTok × Nat × Nat) (h : r.2.1 = 0 → r.2.2 = 0) : appX [] r = r := by
  unfold appX
  split
  · rename_i h0
    obtain ⟨l, e, p⟩ := r
    dsimp only at h h0
    rw [h h0, h0]; rfl
  · rfl
theorem appX_cons (acc : List XTok) (t : XTok) (r : List XTok × Nat × Nat) : appX acc (consX t r) = appX (acc ++ [t]) r := by
  unfold appX consX
  by_cases h : r.2.1 = 0 <;> simp [h]

/-- The tokens of what is left, which begins at a place; so many are there. -/
def lexX : Nat → List UInt8 → Nat → Nat → List XTok × Nat × Nat
  | 0, _, _, _ => ([], 71, 0)
  | f + 1, l, a, n =>
    if l.length ≤ manyL xblank l then ([], 0, 0)
    else if (firstX (l.drop (manyL xblank l))).2 = 0 then ([], 71, a + manyL xblank l)
    else if n = 128 then ([], 2, a + manyL xblank l)
    else consX ⟨(firstX (l.drop (manyL xblank l))).1, textX (firstX (l.drop (manyL xblank l))).1 ((l.drop (manyL xblank l)).take (firstX (l.drop (manyL xblank l))).2), a + manyL xblank l⟩
      (lexX f ((l.drop (manyL xblank l)).drop (firstX (l.drop (manyL xblank l))).2) (a + manyL xblank l + (firstX (l.drop (manyL xblank l))).2) (n + 1))

def readX (l : List UInt8) : List XTok × Nat × Nat := if 512 < l.length then ([], 2, 0) else lexX (l.length + 1) l 0 0

/-- With nothing wrong there is no place; with something there are no tokens. -/
theorem lexX_form : ∀ (f : Nat) (l : List UInt8) (a n : Nat), ((lexX f l a n).2.1 = 0 → (lexX f l a n).2.2 = 0) ∧ ((lexX f l a n).2.1 ≠ 0 → (lexX f l a n).1 = [])
  | 0, l, a, n => by simp [lexX]
  | f + 1, l, a, n => by
    rw [lexX]
    split
    · simp
    · split
      · simp
      · split
        · simp
        · have ih := lexX_form f ((l.drop (manyL xblank l)).drop (firstX (l.drop (manyL xblank l))).2) (a + manyL xblank l + (firstX (l.drop (manyL xblank l))).2) (n + 1)
          unfold consX
          split
          · simp
          · rename_i h
            exact ⟨fun e => absurd e h, ih.2⟩
theorem readX_form (l : List UInt8) : ((readX l).2.1 = 0 → (readX l).2.2 = 0) ∧ ((readX l).2.1 ≠ 0 → (readX l).1 = []) := by
  unfold readX
  split
  · simp
  · exact lexX_form _ _ _ _

/-- What begins with a token has as many bytes as it. -/
theorem firstX_le (l : List UInt8) : (firstX l).2 ≤ l.length := by
  cases l with
  | nil => simp [firstX]
  | cons c t =>
    have h1 := manyL_le xin (c :: t)
    have h2 := manyL_le xdigit (c :: t)
    have h3 := manyL_le xquot t
    simp only [List.length_cons] at h1 h2 ⊢
    show (firstC c t).2 ≤ _
    unfold firstC
    split
    · split
      · simp
      · exact h1
    · split
      · split
        · exact h2
        · simp
      · split
        · split
          · simp
          · rename_i h
            have : manyL xquot t ≠ t.length := fun e => h (.inr (.inl e))
            show 1 + manyL xquot t + 1 ≤ t.length + 1
            omega
        · split
          · rename_i h
            have := (List.getElem?_eq_some_iff.1 h.1).1
            show 2 ≤ t.length + 1
            omega
          · split
            · show 1 ≤ t.length + 1; omega
            · simp
theorem firstX_size {l : List UInt8} (h : (firstX l).2 ≠ 0) : 0 < (firstX l).2 ∧ (firstX l).2 ≤ l.length := ⟨Nat.pos_of_ne_zero h, firstX_le l⟩

/-- What a token's bytes say. -/
theorem saidX_text {l : List UInt8} (h : (firstX l).2 ≠ 0) (a : Nat) : saidX ⟨(firstX l).1, textX (firstX l).1 (l.take (firstX l).2), a⟩ = l.take (firstX l).2 := by
  cases l with
  | nil => simp [firstX] at h
  | cons c t =>
    unfold saidX textX
    dsimp only
    by_cases h3 : (firstX (c :: t)).1 = 3
    · rw [if_pos h3, if_pos h3]
      have h3' : (firstC c t).1 = 3 := h3
      unfold firstC at h3'
      split at h3'
      · split at h3' <;> cases h3'
      · split at h3'
        · split at h3' <;> cases h3'
        · split at h3'
          · split at h3'
            · cases h3'
            · rename_i n1 n2 hc hq
              have e : firstX (c :: t) = (3, 1 + manyL xquot t + 1) := by
                show firstC c t = _
                unfold firstC
                rw [if_neg n1, if_neg n2, if_pos hc, if_neg hq]
              have hle := manyL_le xquot t
              have hne : manyL xquot t ≠ t.length := fun e => hq (.inr (.inl e))
              have h39 : t[manyL xquot t]? = some 39 := Classical.byContradiction fun e => hq (.inr (.inr e))
              rw [e]
              have hc39 : c = 39 := UInt8.toNat_inj.1 hc
              rw [hc39, show 1 + manyL xquot t + 1 = (manyL xquot t + 1) + 1 by omega, List.take_succ_cons, List.drop_succ_cons, List.drop_zero]
              have hl : (t.take (manyL xquot t + 1)).length = manyL xquot t + 1 := by rw [List.length_take]; omega
              rw [List.length_cons, hl, List.take_take, show min (manyL xquot t + 1 + 1 - 2) (manyL xquot t + 1) = manyL xquot t by omega]
              congr 1
              rw [List.take_add_one, h39]
              rfl
          · split at h3'
            · cases h3'
            · split at h3' <;> cases h3'
    · rw [if_neg h3, if_neg h3]

end Go.Proofs.Ytefcbgnckgapgaa
