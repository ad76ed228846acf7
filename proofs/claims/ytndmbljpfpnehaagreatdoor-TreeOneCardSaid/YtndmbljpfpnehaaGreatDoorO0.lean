/- Queries in plain words: the tokens of what is printed of a query; what is printed is read as the same query, unless it is too long. -/
import Derived.Test.YtndmbljpfpnehaaGreatDoorMG
import Derived.Lib.ItoaNum
import Derived.Lib.ParseIntBTie
import Derived.Lib.Strings
namespace Go.Proofs.YtndmbljpfpnehaaGreatDoor
open Go.Lib

/-- How a token is written. -/
def saidB (k : Nat) (b : List UInt8) : List UInt8 := if k = 3 then 39 :: (b ++ [39]) else b
/-- A token is read where it is written, ahead of what stands there. -/
structure Fits (k : Nat) (b r : List UInt8) : Prop where
  first : firstX (saidB k b ++ r) = (k, (saidB k b).length)
  len : (saidB k b).length ≠ 0
  text : textX k (saidB k b) = b
  head : ∀ x, (saidB k b ++ r)[0]? = some x → xblank x = false
inductive Lx : List UInt8 → List (Nat × List UInt8) → Prop
  | nil : Lx [] []
  | blank {l : List UInt8} {ts : List (Nat × List UInt8)} (h : Lx l ts) : Lx (32 :: l) ts
  | tok {r : List UInt8} {ts : List (Nat × List UInt8)} (k : Nat) (b : List UInt8) (hf : Fits k b r) (h : Lx r ts) : Lx (saidB k b ++ r) ((k, b) :: ts)
theorem Lx.head_blank {l : List UInt8} {ts : List (Nat × List UInt8)} (h : Lx (32 :: l) ts) : Lx l ts := by
  generalize hm : (32 :: l) = m at h
  cases h with
  | nil => cases hm
  | blank h =>
    injection hm with _ hm
    rw [hm]
    exact h
  | tok k b hf h =>
    have := hf.head 32 (by rw [← hm]; rfl)
    rw [xblank_32] at this
    cases this
/-- What is read of a text so made. -/
theorem Lx.lex {l : List UInt8} {ts : List (Nat × List UInt8)} (h : Lx l ts) : ∀ (f a n : Nat), l.length < f → n + ts.length ≤ 128 → ∃ us, lexX f l a n = (us, 0, 0) ∧ us.map bare = ts := by
  induction h with
  | nil =>
    intro f a n hf _
    obtain ⟨g, rfl⟩ : ∃ g, f = g + 1 := ⟨f - 1, by omega⟩
    exact ⟨[], lexX_end (by simp), rfl⟩
  | blank h ih =>
    intro f a n hf hn
    rw [lexX_blank]
    exact ih f (a + 1) n (by rw [List.length_cons] at hf; omega) hn
  | @tok r ts k b hf h ih =>
    intro f a n hlt hn
    obtain ⟨g, rfl⟩ : ∃ g, f = g + 1 := ⟨f - 1, by omega⟩
    rw [List.length_append] at hlt
    rw [List.length_cons] at hn
    have hl := hf.len
    obtain ⟨us, h1, h2⟩ := ih g (a + 0 + (saidB k b).length) (n + 1) (by omega) (by omega)
    have hm0 : manyL xblank (saidB k b ++ r) = 0 := manyL_is xblank _ 0 (Nat.zero_le _) (fun x hx => by simp at hx) hf.head
    refine ⟨⟨k, b, a + 0⟩ :: us, ?_, by rw [List.map_cons, h2]; rfl⟩
    rw [lexX_more (by rw [hm0, List.length_append]; omega) (by rw [hm0, List.drop_zero, hf.first]; exact hl) (by omega), hm0, List.drop_zero, hf.first]
    dsimp only
    rw [List.drop_left' rfl, h1, List.take_left' rfl, hf.text]
    rfl
/-- Too many tokens are too many. -/
theorem Lx.long {l : List UInt8} {ts : List (Nat × List UInt8)} (h : Lx l ts) : ∀ (f a n : Nat), l.length < f → n ≤ 128 → 128 < n + ts.length → (lexX f l a n).2.1 = 2 := by
  induction h with
  | nil =>
    intro f a n hf h1 h2
    simp at h2
    omega
  | blank h ih =>
    intro f a n hf hn h2
    rw [lexX_blank]
    exact ih f (a + 1) n (by rw [List.length_cons] at hf; omega) hn h2
  | @tok r ts k b hf h ih =>
    intro f a n hlt hn h2
    obtain ⟨g, rfl⟩ : ∃ g, f = g + 1 := ⟨f - 1, by omega⟩
    rw [List.length_append] at hlt
    rw [List.length_cons] at h2
    have hl := hf.len
    have hm0 : manyL xblank (saidB k b ++ r) = 0 := manyL_is xblank _ 0 (Nat.zero_le _) (fun x hx => by simp at hx) hf.head
    have c1 : ¬ (saidB k b ++ r).length ≤ manyL xblank (saidB k b ++ r) := by rw [hm0, List.length_append]; omega
    have c2 : (firstX ((saidB k b ++ r).drop (manyL xblank (saidB k b ++ r)))).2 ≠ 0 := by rw [hm0, List.drop_zero, hf.first]; exact hl
    by_cases h128 : n = 128
    · rw [lexX_many c1 c2 h128]
    · have h3 := ih g (a + 0 + (saidB k b).length) (n + 1) (by omega) (by omega) (by omega)
      rw [lexX_more c1 c2 h128, hm0, List.drop_zero, hf.first]
      dsimp only
      rw [List.drop_left' rfl]
      unfold consX
      rw [h3, if_neg (by decide)]
      exact h3
/-- A text has its tokens, and no others. -/
theorem Lx.one {l : List UInt8} {ts : List (Nat × List UInt8)} (h : Lx l ts) : ∀ {us : List (Nat × List UInt8)}, Lx l us → ts = us := by
  induction h with
  | nil =>
    intro us h2
    generalize hm : ([] : List UInt8) = m at h2
    cases h2 with
    | nil => rfl
    | blank h => cases hm
    | tok k b hf h =>
      have := congrArg List.length hm
      rw [List.length_append] at this
      have h3 := hf.len
      simp only [List.length_nil] at this
      omega
  | blank h ih => exact fun h2 => ih h2.head_blank
  | @tok r ts k b hf h ih =>
    intro us h2
    generalize hm : saidB k b ++ r = m at h2
    cases h2 with
    | nil =>
      have := congrArg List.length hm
      rw [List.length_append] at this
      have h3 := hf.len
      simp only [List.length_nil] at this
      omega
    | blank h =>
      have := hf.head 32 (by rw [hm]; rfl)
      rw [xblank_32] at this
      cases this
    | @tok r' ts' k' b' hf' h' =>
      have h1 := hf.first
      rw [hm, hf'.first] at h1
      injection h1 with e1 e2
      subst e1
      have e3 := List.append_inj hm e2.symm
      have e4 : b = b' := by rw [← hf.text, ← hf'.text, e3.1]
      rw [e4, ih (e3.2 ▸ h')]

/-! Which tokens fit. -/
theorem manyL_all {p : UInt8 → Bool} {b r : List UInt8} (hb : ∀ c ∈ b, p c = true) (hr : ∀ x, r[0]? = some x → p x = false) : manyL p (b ++ r) = b.length :=
  manyL_is p _ _ (by rw [List.length_append]; omega) (fun c hc => by
    rw [List.take_left' rfl] at hc
    exact hb c hc) (fun c hc => by
    rw [List.getElem?_append_right (Nat.le_refl _), Nat.sub_self] at hc
    exact hr c hc)
theorem fits_word {b r : List UInt8} (h0 : ∃ c t, b = c :: t ∧ xletter c = true) (hb : ∀ c ∈ b, xin c = true) (hl : b.length ≤ 16) (hr : ∀ x, r[0]? = some x → xin x = false) : Fits 1 b r := by
  obtain ⟨c, t, rfl, hc⟩ := h0
  have hs : saidB 1 (c :: t) = c :: t := if_neg (by decide)
  refine ⟨?_, by rw [hs]; simp, by rw [hs]; exact if_neg (by decide), fun x hx => ?_⟩
  · rw [hs]
    have hm := manyL_all hb hr
    show firstC c (t ++ r) = _
    unfold firstC
    rw [if_pos hc]
    have hm' : manyL xin (c :: (t ++ r)) = (c :: t).length := hm
    rw [hm', if_neg (by omega)]
  · rw [hs] at hx
    obtain rfl : c = x := by simpa using hx
    unfold xletter at hc
    unfold xblank
    simp at hc ⊢
    omega
theorem fits_num {b r : List UInt8} (h0 : b ≠ []) (hb : ∀ c ∈ b, xdigit c = true) (hn : rightN b = true) (hr : ∀ x, r[0]? = some x → xdigit x = false) : Fits 2 b r := by
  cases b with
  | nil => exact absurd rfl h0
  | cons c t =>
    have hs : saidB 2 (c :: t) = c :: t := if_neg (by decide)
    have hc := hb c List.mem_cons_self
    have hnl : xletter c = false := by
      unfold xdigit at hc
      unfold xletter
      simp at hc ⊢
      omega
    refine ⟨?_, by rw [hs]; simp, by rw [hs]; exact if_neg (by decide), fun x hx => ?_⟩
    · rw [hs]
      have hm := manyL_all hb hr
      show firstC c (t ++ r) = _
      unfold firstC
      rw [hnl, if_neg (by decide), if_pos hc]
      have hm' : manyL xdigit (c :: (t ++ r)) = (c :: t).length := hm
      have ht : (c :: (t ++ r)).take (c :: t).length = c :: t := List.take_left' (l₁ := c :: t) rfl
      rw [hm', ht, if_pos hn]
    · rw [hs] at hx
      obtain rfl : c = x := by simpa using hx
      unfold xdigit at hc
      unfold xblank
      simp at hc ⊢
      omega
theorem fits_quot {b r : List UInt8} (hb : ∀ c ∈ b, xquot c = true) (hl : b.length ≤ 64) : Fits 3 b r := by
  have hs : saidB 3 b = 39 :: (b ++ [39]) := if_pos rfl
  have hm : manyL xquot (b ++ ([39] ++ r)) = b.length := manyL_all hb (fun x hx => by
    have : x = 39 := by simpa using hx.symm
    rw [this]
    exact xquot_39)
  refine ⟨?_, by rw [hs]; simp, ?_, fun x hx => ?_⟩
  · rw [hs]
    show firstC 39 ((b ++ [39]) ++ r) = _
    rw [List.append_assoc]
    unfold firstC
    rw [if_neg (by decide), if_neg (by decide), if_pos (by decide), hm, if_neg]
    · simp
      omega
    · rintro (h | h | h)
      · omega
      · simp at h
      · apply h
        rw [List.getElem?_append_right (Nat.le_refl _), Nat.sub_self]
        rfl
  · rw [hs]
    unfold textX
    rw [if_pos rfl]
    simp
  · rw [hs] at hx
    obtain rfl : 39 = x := by simpa using hx
    decide
theorem fits_two {c : UInt8} {r : List UInt8} (hc : c = 33 ∨ c = 60 ∨ c = 62) : Fits 4 [c, 61] r := by
  have hs : saidB 4 [c, 61] = [c, 61] := if_neg (by decide)
  refine ⟨?_, by rw [hs]; simp, by rw [hs]; exact if_neg (by decide), fun x hx => ?_⟩
  · rw [hs]
    show firstC c (61 :: r) = _
    unfold firstC
    rcases hc with rfl | rfl | rfl <;> (rw [if_neg (by decide), if_neg (by decide), if_neg (by decide), if_pos ⟨rfl, by decide⟩]; rfl)
  · rw [hs] at hx
    obtain rfl : c = x := by simpa using hx
    rcases hc with rfl | rfl | rfl <;> decide
theorem fits_sign {c : UInt8} {r : List UInt8} (hc : c ∈ signsL) (hr : ∀ x, r[0]? = some x → x ≠ 61) : Fits 4 [c] r := by
  have hs : saidB 4 [c] = [c] := if_neg (by decide)
  have hc' : c = 61 ∨ c = 60 ∨ c = 62 ∨ c = 43 ∨ c = 45 ∨ c = 40 ∨ c = 41 ∨ c = 46 ∨ c = 63 := by simpa [signsL] using hc
  refine ⟨?_, by rw [hs]; simp, by rw [hs]; exact if_neg (by decide), fun x hx => ?_⟩
  · rw [hs]
    show firstC c r = _
    unfold firstC
    rw [if_neg (by rcases hc' with rfl | rfl | rfl | rfl | rfl | rfl | rfl | rfl | rfl <;> decide), if_neg (by rcases hc' with rfl | rfl | rfl | rfl | rfl | rfl | rfl | rfl | rfl <;> decide), if_neg (by rcases hc' with rfl | rfl | rfl | rfl | rfl | rfl | rfl | rfl | rfl <;> decide), if_neg (fun h => hr 61 h.1 rfl), if_pos (by rcases hc' with rfl | rfl | rfl | rfl | rfl | rfl | rfl | rfl | rfl <;> decide)]
    rfl
  · rw [hs] at hx
    obtain rfl : c = x := by simpa using hx
    rcases hc' with rfl | rfl | rfl | rfl | rfl | rfl | rfl | rfl | rfl <;> decide
end Go.Proofs.YtndmbljpfpnehaaGreatDoor
namespace Go.Proofs.YtndmbljpfpnehaaGreatDoor
open Go.Lib

theorem dec_ne (u : Nat) : decDigits u ≠ [] := fun e => by
  have h := decDigits_length u
  have := nDigits_pos u
  rw [e] at h
  simp at h
  omega

theorem digit_toNat {d : Nat} (h : d < 10) : (UInt8.ofNat (48 + d)).toNat = 48 + d := by simp; omega

theorem dec_digits : ∀ (u : Nat), ∀ c ∈ decDigits u, 48 ≤ c.toNat ∧ c.toNat ≤ 57 := by
  intro u
  induction u using Nat.strongRecOn with
  | ind u ih =>
    intro c hc
    rw [decDigits] at hc
    split at hc
    · rename_i h
      simp only [List.mem_singleton] at hc
      subst hc
      rw [digit_toNat h]
      omega
    · rename_i h
      rcases List.mem_append.1 hc with hc | hc
      · exact ih (u / 10) (by omega) c hc
      · simp only [List.mem_singleton] at hc
        subst hc
        rw [digit_toNat (Nat.mod_lt _ (by omega))]
        have := Nat.mod_lt u (y := 10) (by omega)
        omega

/-- What is parsed of a number's digits, and of more behind them. -/
theorem parse_dec (u : Nat) (hu : u < 9223372036854775808) (r : List UInt8) : parseUint10 0 (decDigits u ++ r) = parseUint10 u r := by
  induction u using Nat.strongRecOn generalizing r with
  | ind u ih =>
    rw [decDigits]
    split
    · rename_i h
      rw [List.singleton_append, parseUint10]
      rw [digit_toNat h, if_pos (by omega), if_neg (by omega), if_neg (by omega)]
      congr 1
      omega
    · rename_i h
      rw [List.append_assoc, ih (u / 10) (by omega) (by omega), List.singleton_append, parseUint10]
      have := Nat.mod_lt u (y := 10) (by omega)
      rw [digit_toNat this, if_pos (by omega), if_neg (by omega), if_neg (by omega)]
      congr 1
      omega

theorem parse_itoa {n : Nat} (h : n < 9223372036854775808) : parseIntB 64 (decDigits n) = .ok (n : Int) := by
  have h1 := parse_dec n h []
  rw [List.append_nil] at h1
  rw [parseIntB_64]
  cases hd : decDigits n with
  | nil => exact absurd hd (dec_ne n)
  | cons c r =>
    have hc := dec_digits n c (by rw [hd]; simp)
    unfold atoiAll
    dsimp only
    have h43 : ¬ (c.toNat = 43 ∨ c.toNat = 45) := by omega
    have h45 : ¬ c.toNat = 45 := by omega
    rw [if_neg h43]
    rw [hd] at h1
    have h2 : parseMag (c :: r) = .ok n := by
      unfold parseMag
      rw [if_neg (by simp), h1]
      rfl
    rw [h2]
    dsimp only
    rw [if_neg (by omega), if_neg (by simp [h45]), if_neg h45]

/-- The name of a number's file. -/
def numName (mark : List UInt8) (n : Nat) : List UInt8 := mark ++ decDigits n
/-- The number of a file's name, as the program reckons it. -/
def numOf (mark nm : List UInt8) : Int :=
  match parseIntB 64 (trimPrefix nm mark) with
  | .ok v => if 1 ≤ v ∧ mark ++ itoa v = nm then v else 0
  | _ => 0

theorem itoa_nat (n : Nat) : itoa (n : Int) = decDigits n := by unfold itoa; rw [if_neg (by omega)]; simp

theorem trim_name (mark x : List UInt8) : trimPrefix (mark ++ x) mark = x := by
  unfold trimPrefix hasPrefix
  rw [if_pos (by simp)]
  simp

theorem numOf_name {mark : List UInt8} {n : Nat} (h1 : 1 ≤ n) (h2 : n < 9223372036854775808) : numOf mark (numName mark n) = n := by
  unfold numOf numName
  rw [trim_name, parse_itoa h2]
  dsimp only
  rw [if_pos ⟨by omega, by rw [itoa_nat]⟩]

theorem numOf_cases (mark nm : List UInt8) : numOf mark nm = 0 ∨ ∃ n : Nat, 1 ≤ n ∧ n < 9223372036854775808 ∧ numOf mark nm = n ∧ nm = numName mark n := by
  unfold numOf
  cases hp : parseIntB 64 (trimPrefix nm mark) with
  | ok v =>
    dsimp only
    by_cases h : 1 ≤ v ∧ mark ++ itoa v = nm
    · rw [if_pos h]
      have hb := parseIntB_bounds hp
      obtain ⟨n, rfl⟩ : ∃ n : Nat, v = n := ⟨v.toNat, by omega⟩
      refine Or.inr ⟨n, by omega, by have := hb.2; simp at this; omega, rfl, ?_⟩
      rw [← h.2, itoa_nat]
      rfl
    · rw [if_neg h]
      exact Or.inl rfl
  | _ => exact Or.inl rfl

theorem dec_inj : ∀ {a b : Nat}, decDigits a = decDigits b → a = b := by
  intro a
  induction a using Nat.strongRecOn with
  | ind a ih =>
    intro b h
    rw [decDigits, decDigits.eq_def b] at h
    by_cases ha : a < 10
    · rw [dif_pos ha] at h
      by_cases hb : b < 10
      · rw [dif_pos hb] at h
        injection h with h
        have h2 := congrArg UInt8.toNat h
        rw [digit_toNat ha, digit_toNat hb] at h2
        omega
      · rw [dif_neg hb] at h
        have h2 := congrArg List.length h
        simp at h2
        exact absurd h2 (dec_ne _)
    · rw [dif_neg ha] at h
      by_cases hb : b < 10
      · rw [dif_pos hb] at h
        have h2 := congrArg List.length h
        simp at h2
        exact absurd h2 (dec_ne _)
      · rw [dif_neg hb] at h
        obtain ⟨h1, h2⟩ := List.append_inj' h rfl
        have h3 := ih (a / 10) (by omega) h1
        injection h2 with h2
        have h4 := congrArg UInt8.toNat h2
        have := Nat.mod_lt a (y := 10) (by omega)
        have := Nat.mod_lt b (y := 10) (by omega)
        rw [digit_toNat (by omega), digit_toNat (by omega)] at h4
        omega

theorem numName_inj {mark : List UInt8} {a b : Nat} (h : numName mark a = numName mark b) : a = b := dec_inj (List.append_cancel_left h)

end Go.Proofs.YtndmbljpfpnehaaGreatDoor
namespace Go.Proofs.YtndmbljpfpnehaaGreatDoor
open Go.Lib

theorem Lx.word {b r : List UInt8} {ts : List (Nat × List UInt8)} (h0 : ∃ c t, b = c :: t ∧ xletter c = true) (hb : ∀ c ∈ b, xin c = true) (hl : b.length ≤ 16) (hr : ∀ x, r[0]? = some x → xin x = false) (h : Lx r ts) : Lx (b ++ r) ((1, b) :: ts) := Lx.tok 1 b (fits_word h0 hb hl hr) h
theorem Lx.sign {c : UInt8} {r : List UInt8} {ts : List (Nat × List UInt8)} (hc : c ∈ signsL) (hr : ∀ x, r[0]? = some x → x ≠ 61) (h : Lx r ts) : Lx (c :: r) ((4, [c]) :: ts) := Lx.tok 4 [c] (fits_sign hc hr) h
theorem Lx.two {c : UInt8} {r : List UInt8} {ts : List (Nat × List UInt8)} (hc : c = 33 ∨ c = 60 ∨ c = 62) (h : Lx r ts) : Lx (c :: 61 :: r) ((4, [c, 61]) :: ts) := Lx.tok 4 [c, 61] (fits_two hc) h
theorem Lx.quot {b r : List UInt8} {ts : List (Nat × List UInt8)} (hb : ∀ c ∈ b, xquot c = true) (hl : b.length ≤ 64) (h : Lx r ts) : Lx (39 :: (b ++ [39]) ++ r) ((3, b) :: ts) := Lx.tok 3 b (fits_quot hb hl) h
theorem Lx.num {b r : List UInt8} {ts : List (Nat × List UInt8)} (h0 : b ≠ []) (hb : ∀ c ∈ b, xdigit c = true) (hn : rightN b = true) (hr : ∀ x, r[0]? = some x → xdigit x = false) (h : Lx r ts) : Lx (b ++ r) ((2, b) :: ts) := Lx.tok 2 b (fits_num h0 hb hn hr) h

theorem letter_x (c : UInt8) : letterB c = xletter c := by
  unfold letterB xletter
  exact Bool.decide_and _ _
theorem char_x (c : UInt8) : charB c = xin c := by
  unfold charB xin
  rw [letter_x, Bool.or_comm (decide (c.toNat = 95))]
  congr 2
  exact Bool.decide_and _ _
theorem name_word {b : List UInt8} (h : nameB b = true) : (∃ c t, b = c :: t ∧ xletter c = true) ∧ (∀ c ∈ b, xin c = true) ∧ b.length ≤ 16 := by
  unfold nameB at h
  rw [Bool.and_eq_true] at h
  have h1 := h.1
  cases b with
  | nil => cases h1
  | cons c t =>
    unfold wordB at h1
    simp only [Bool.and_eq_true, decide_eq_true_eq, List.all_eq_true] at h1
    obtain ⟨h2, h3, h4⟩ := h1
    have hx : xletter c = true := (letter_x c).symm.trans h2
    refine ⟨⟨c, t, rfl, hx⟩, fun y hy => ?_, by rw [List.length_cons]; omega⟩
    rcases List.mem_cons.1 hy with rfl | hy
    · unfold xin
      rw [hx]
      rfl
    · exact (char_x y).symm.trans (h4 y hy)
/-- What may stand behind an expression. -/
def EndsOk (r : List UInt8) : Prop := ∀ x, r[0]? = some x → x = 32 ∨ x = 41
theorem EndsOk.xin {r : List UInt8} (h : EndsOk r) : ∀ x, r[0]? = some x → xin x = false := fun x hx => by
  rcases h x hx with rfl | rfl <;> decide
theorem EndsOk.dig {r : List UInt8} (h : EndsOk r) : ∀ x, r[0]? = some x → xdigit x = false := fun x hx => by
  rcases h x hx with rfl | rfl <;> decide
theorem EndsOk.eq {r : List UInt8} (h : EndsOk r) : ∀ x, r[0]? = some x → x ≠ 61 := fun x hx => by
  rcases h x hx with rfl | rfl <;> decide
def tokPV (v : PVal) : List (Nat × List UInt8) := if v.k = 2 then [(3, v.s)] else if v.k = 3 then [(1, if v.n = 1 then bTrue else bFalse)] else if v.n < 0 then [(4, [45]), (2, decDigits v.n.natAbs)] else [(2, decDigits v.n.toNat)]
def tokX : Nat → PEx → List (Nat × List UInt8)
  | 0, _ => []
  | d + 1, .mk k v x f ks =>
    if k = 1 then tokPV v
    else if k = 2 then [(1, x), (4, [46]), (1, f)]
    else if k = 3 then [(1, atL callsL k), (4, [40]), (1, x), (4, [41])]
    else if k = 4 ∨ k = 5 ∨ k = 6 then [(1, atL callsL k), (4, [40]), (1, x), (4, [46]), (1, f), (4, [41])]
    else match ks with
      | [a, b] => tokX d a ++ (4, atL sumsL k) :: (if b.k = 7 ∨ b.k = 8 then (4, [40]) :: (tokX d b ++ [(4, [41])]) else tokX d b)
      | _ => []
theorem exprTx_s (d : Nat) (k : Int) (v : PVal) (x f : List UInt8) (ks : List PEx) : exprTx (d + 1) (.mk k v x f ks) = (if k = 1 then valTx v
    else if k = 2 then x ++ 46 :: f
    else if k = 3 then atL callsL k ++ 40 :: (x ++ [41])
    else if k = 4 ∨ k = 5 ∨ k = 6 then atL callsL k ++ 40 :: (x ++ 46 :: (f ++ [41]))
    else match ks with
      | [a, b] => exprTx d a ++ 32 :: (atL sumsL k ++ 32 :: (if b.k = 7 ∨ b.k = 8 then 40 :: (exprTx d b ++ [41]) else exprTx d b))
      | _ => []) := rfl
theorem tokX_s (d : Nat) (k : Int) (v : PVal) (x f : List UInt8) (ks : List PEx) : tokX (d + 1) (.mk k v x f ks) = (if k = 1 then tokPV v
    else if k = 2 then [(1, x), (4, [46]), (1, f)]
    else if k = 3 then [(1, atL callsL k), (4, [40]), (1, x), (4, [41])]
    else if k = 4 ∨ k = 5 ∨ k = 6 then [(1, atL callsL k), (4, [40]), (1, x), (4, [46]), (1, f), (4, [41])]
    else match ks with
      | [a, b] => tokX d a ++ (4, atL sumsL k) :: (if b.k = 7 ∨ b.k = 8 then (4, [40]) :: (tokX d b ++ [(4, [41])]) else tokX d b)
      | _ => []) := rfl
theorem dec_first : ∀ (n : Nat), n ≠ 0 → ∀ c, (decDigits n).head? = some c → c.toNat ≠ 48 := fun n => by
  induction n using Nat.strongRecOn with
  | ind n ih =>
    intro hn c hc
    rw [decDigits] at hc
    split at hc
    · rename_i h
      have hc : UInt8.ofNat (48 + n) = c := by simpa using hc
      rw [← hc, digit_toNat h]
      omega
    · rename_i h
      have h1 : n / 10 ≠ 0 := by omega
      refine ih (n / 10) (by omega) h1 c ?_
      cases hd : decDigits (n / 10) with
      | nil => exact absurd hd (dec_ne _)
      | cons y r =>
        rw [hd] at hc
        simpa using hc
theorem dec_right {n : Nat} (h : n ≤ 1099511627776) : rightN (decDigits n) = true := by
  unfold rightN
  rw [parse_itoa (by omega)]
  dsimp only
  rw [Bool.and_eq_true, decide_eq_true_eq]
  refine ⟨by omega, ?_⟩
  by_cases h0 : n = 0
  · subst h0
    rw [Bool.or_eq_true]
    right
    rw [decDigits]
    rfl
  · rw [Bool.or_eq_true]
    left
    cases hd : (decDigits n).head? with
    | none => rfl
    | some c =>
      have := dec_first n h0 c hd
      simp
      exact this
theorem dec_xdigit (n : Nat) : ∀ c ∈ decDigits n, xdigit c = true := fun c hc => by
  have := dec_digits n c hc
  unfold xdigit
  simp
  omega
theorem lx_val {v : PVal} (hr : rightB v = true) (hw : ∀ c ∈ v.s, inkB c = true) {r : List UInt8} {ts : List (Nat × List UInt8)} (he : EndsOk r) (h : Lx r ts) : Lx (valTx v ++ r) (tokPV v ++ ts) := by
  unfold rightB at hr
  unfold valTx tokPV
  by_cases h1 : v.k = 1
  · rw [if_pos h1, decide_eq_true_eq] at hr
    rw [if_neg (by omega), if_neg (by omega), if_neg (by omega), if_neg (by omega)]
    unfold itoa
    by_cases hn : v.n < 0
    · rw [if_pos hn, if_pos hn]
      exact Lx.sign (by decide) (fun x hx => by
        have hx' : (decDigits v.n.natAbs ++ r)[0]? = some x := hx
        cases hd : decDigits v.n.natAbs with
        | nil => exact absurd hd (dec_ne _)
        | cons y t =>
          rw [hd] at hx'
          obtain rfl : y = x := by simpa using hx'
          have := dec_digits v.n.natAbs y (by rw [hd]; exact List.mem_cons_self)
          intro e
          rw [e] at this
          revert this
          decide) (Lx.num (dec_ne _) (dec_xdigit _) (dec_right (by omega)) he.dig h)
    · rw [if_neg hn, if_neg hn]
      exact Lx.num (dec_ne _) (dec_xdigit _) (dec_right (by omega)) he.dig h
  · rw [if_neg h1] at hr
    by_cases h2 : v.k = 2
    · rw [if_pos h2, decide_eq_true_eq] at hr
      rw [if_pos h2, if_pos h2]
      exact Lx.quot (fun c hc => by
        have := hw c hc
        unfold inkB at this
        unfold xquot
        simp at this ⊢
        omega) hr.2 h
    · rw [if_neg h2] at hr
      by_cases h3 : v.k = 3
      · rw [if_neg h2, if_neg h2, if_pos h3, if_pos h3]
        by_cases hn : v.n = 1
        · rw [if_pos hn]
          exact Lx.word ⟨_, _, rfl, by decide⟩ (by decide) (by decide) he.xin h
        · rw [if_neg hn]
          exact Lx.word ⟨_, _, rfl, by decide⟩ (by decide) (by decide) he.xin h
      · rw [if_neg h3] at hr
        cases hr
theorem lx_name {b r : List UInt8} {ts : List (Nat × List UInt8)} (hb : nameB b = true) (hr : ∀ x, r[0]? = some x → xin x = false) (h : Lx r ts) : Lx (b ++ r) ((1, b) :: ts) := by
  obtain ⟨h1, h2, h3⟩ := name_word hb
  exact Lx.word h1 h2 h3 hr h
theorem not61 {c : UInt8} {r : List UInt8} (hc : c ≠ 61) : ∀ x, (c :: r)[0]? = some x → x ≠ 61 := fun x hx => by
  obtain rfl : c = x := by simpa using hx
  exact hc
theorem notin {c : UInt8} {r : List UInt8} (hc : xin c = false) : ∀ x, (c :: r)[0]? = some x → xin x = false := fun x hx => by
  obtain rfl : c = x := by simpa using hx
  exact hc
theorem name_not61 {b r : List UInt8} (hb : nameB b = true) : ∀ x, (b ++ r)[0]? = some x → x ≠ 61 := fun x hx => by
  obtain ⟨⟨c, t, rfl, hc⟩, _⟩ := name_word hb
  obtain rfl : c = x := by simpa using hx
  intro e
  rw [e] at hc
  revert hc
  decide
/-- An expression's text begins with no '='. -/
theorem expr_head : ∀ (d : Nat) (x : PEx) (r : List UInt8), rightX d x = true → ∀ y, (exprTx d x ++ r)[0]? = some y → y ≠ 61
  | 0, x, r, h, _, _ => by
    cases x
    rw [rightX] at h
    cases h
  | d + 1, .mk k v x f ks, r, h, y, hy => by
    by_cases h1 : k = 1
    · subst h1
      rw [rightX_one] at h
      rw [exprTx_s, if_pos rfl] at hy
      simp only [Bool.and_eq_true, decide_eq_true_eq] at h
      unfold valTx at hy
      split at hy
      · obtain rfl : 39 = y := by simpa using hy
        decide
      · split at hy
        · split at hy
          · obtain rfl : 116 = y := by simpa [bTrue] using hy
            decide
          · obtain rfl : 102 = y := by simpa [bFalse] using hy
            decide
        · unfold itoa at hy
          split at hy
          · obtain rfl : 45 = y := by simpa using hy
            decide
          · cases hd : decDigits v.n.toNat with
            | nil => exact absurd hd (dec_ne _)
            | cons z t =>
              rw [hd] at hy
              obtain rfl : z = y := by simpa using hy
              have := dec_digits v.n.toNat z (by rw [hd]; exact List.mem_cons_self)
              intro e
              rw [e] at this
              revert this
              decide
    · by_cases h2 : k = 2
      · subst h2
        rw [rightX_field _ _ (.inl rfl)] at h
        simp only [Bool.and_eq_true] at h
        rw [exprTx_s, if_neg (by decide), if_pos rfl, List.append_assoc] at hy
        exact name_not61 h.2.1 y hy
      · by_cases h3 : k = 3
        · subst h3
          rw [exprTx_s, if_neg (by decide), if_neg (by decide), if_pos rfl] at hy
          obtain rfl : 99 = y := by simpa [atL, callsL] using hy
          decide
        · by_cases h4 : k = 4 ∨ k = 5 ∨ k = 6
          · rw [exprTx_s, if_neg h1, if_neg h2, if_neg h3, if_pos h4] at hy
            rcases h4 with rfl | rfl | rfl
            · obtain rfl : 115 = y := by simpa [atL, callsL] using hy
              decide
            · obtain rfl : 109 = y := by simpa [atL, callsL] using hy
              decide
            · obtain rfl : 109 = y := by simpa [atL, callsL] using hy
              decide
          · by_cases h7 : k = 7 ∨ k = 8
            · rw [rightX_two d k h7] at h
              rw [Bool.and_eq_true] at h
              by_cases hl : ks.length = 2
              · obtain ⟨a, b, rfl⟩ := two_of hl
                have h8 : rightX d a = true ∧ rightX d b = true := by
                  have := h.2
                  unfold twoB at this
                  simpa using this
                rw [exprTx_s, if_neg h1, if_neg h2, if_neg h3, if_neg h4, List.append_assoc] at hy
                exact expr_head d a _ h8.1 y hy
              · rw [twoB_no hl] at h
                cases h.2
            · rw [rightX_none d k h1 h3 (by omega) h7] at h
              cases h
/-- The tokens of an expression's text. -/
theorem lx_expr : ∀ (d : Nat) (x : PEx) (r : List UInt8) (ts : List (Nat × List UInt8)), rightX d x = true → EndsOk r → Lx r ts → Lx (exprTx d x ++ r) (tokX d x ++ ts)
  | 0, x, r, ts, h, _, _ => by
    cases x
    rw [rightX] at h
    cases h
  | d + 1, .mk k v x f ks, r, ts, h, he, hl => by
    by_cases h1 : k = 1
    · subst h1
      rw [rightX_one] at h
      simp only [Bool.and_eq_true, decide_eq_true_eq] at h
      rw [exprTx_s, if_pos rfl, tokX_s, if_pos rfl]
      have hw := h.2
      unfold writeB at hw
      simp only [Bool.and_eq_true, List.all_eq_true] at hw
      exact lx_val hw.2 hw.1 he hl
    · by_cases h2 : k = 2
      · subst h2
        rw [rightX_field _ _ (.inl rfl)] at h
        simp only [Bool.and_eq_true] at h
        rw [exprTx_s, if_neg (by decide), if_pos rfl, tokX_s, if_neg (by decide), if_pos rfl, List.append_assoc]
        exact lx_name h.2.1 (notin (by decide)) (Lx.sign (by decide) (name_not61 h.2.2) (lx_name h.2.2 he.xin hl))
      · by_cases h3 : k = 3
        · subst h3
          rw [rightX_three] at h
          simp only [Bool.and_eq_true] at h
          rw [exprTx_s, if_neg (by decide), if_neg (by decide), if_pos rfl, tokX_s, if_neg (by decide), if_neg (by decide), if_pos rfl, List.append_assoc]
          refine Lx.word ⟨_, _, rfl, by decide⟩ (by decide) (by decide) (notin (by decide)) ?_
          show Lx (40 :: ((x ++ [41]) ++ r)) _
          refine Lx.sign (by decide) (by rw [List.append_assoc]; exact name_not61 h.2) ?_
          rw [List.append_assoc]
          exact lx_name h.2 (notin (by decide)) (Lx.sign (by decide) he.eq hl)
        · by_cases h4 : k = 4 ∨ k = 5 ∨ k = 6
          · rw [rightX_field _ _ (.inr h4)] at h
            simp only [Bool.and_eq_true] at h
            rw [exprTx_s, if_neg h1, if_neg h2, if_neg h3, if_pos h4, tokX_s, if_neg h1, if_neg h2, if_neg h3, if_pos h4, List.append_assoc]
            have hrest : Lx (40 :: (x ++ 46 :: (f ++ [41])) ++ r) ((4, [40]) :: (1, x) :: (4, [46]) :: (1, f) :: (4, [41]) :: ts) := by
              show Lx (40 :: ((x ++ 46 :: (f ++ [41])) ++ r)) _
              refine Lx.sign (by decide) (by rw [List.append_assoc]; exact name_not61 h.2.1) ?_
              rw [List.append_assoc]
              refine lx_name h.2.1 (notin (by decide)) ?_
              show Lx (46 :: ((f ++ [41]) ++ r)) _
              refine Lx.sign (by decide) (by rw [List.append_assoc]; exact name_not61 h.2.2) ?_
              rw [List.append_assoc]
              exact lx_name h.2.2 (notin (by decide)) (Lx.sign (by decide) he.eq hl)
            rcases h4 with rfl | rfl | rfl
            · exact Lx.word ⟨_, _, rfl, by decide⟩ (by decide) (by decide) (notin (by decide)) hrest
            · exact Lx.word ⟨_, _, rfl, by decide⟩ (by decide) (by decide) (notin (by decide)) hrest
            · exact Lx.word ⟨_, _, rfl, by decide⟩ (by decide) (by decide) (notin (by decide)) hrest
          · by_cases h7 : k = 7 ∨ k = 8
            · rw [rightX_two d k h7] at h
              rw [Bool.and_eq_true] at h
              by_cases hl2 : ks.length = 2
              · obtain ⟨a, b, rfl⟩ := two_of hl2
                have h8 : rightX d a = true ∧ rightX d b = true := by
                  have := h.2
                  unfold twoB at this
                  simpa using this
                have hb : Lx ((if b.k = 7 ∨ b.k = 8 then 40 :: (exprTx d b ++ [41]) else exprTx d b) ++ r) ((if b.k = 7 ∨ b.k = 8 then (4, [40]) :: (tokX d b ++ [(4, [41])]) else tokX d b) ++ ts) := by
                  split
                  · show Lx (40 :: ((exprTx d b ++ [41]) ++ r)) ((4, [40]) :: ((tokX d b ++ [(4, [41])]) ++ ts))
                    rw [List.append_assoc, List.append_assoc]
                    exact Lx.sign (by decide) (expr_head d b _ h8.2) (lx_expr d b _ _ h8.2 (fun x hx => .inr (by simpa using hx.symm)) (Lx.sign (by decide) he.eq hl))
                  · exact lx_expr d b _ _ h8.2 he hl
                rw [exprTx_s, if_neg h1, if_neg h2, if_neg h3, if_neg h4, tokX_s, if_neg h1, if_neg h2, if_neg h3, if_neg h4, List.append_assoc, List.append_assoc]
                refine lx_expr d a _ _ h8.1 (fun x hx => .inl (by simpa using hx.symm)) ?_
                rcases h7 with rfl | rfl
                · exact Lx.blank (Lx.sign (c := 43) (by decide) (not61 (by decide)) (Lx.blank hb))
                · exact Lx.blank (Lx.sign (c := 45) (by decide) (not61 (by decide)) (Lx.blank hb))
              · rw [twoB_no hl2] at h
                cases h.2
            · rw [rightX_none d k h1 h3 (by omega) h7] at h
              cases h
end Go.Proofs.YtndmbljpfpnehaaGreatDoor
namespace Go.Proofs.YtndmbljpfpnehaaGreatDoor
open Go.Lib

/-- Nothing is left, and the place of what is wrong is one of some. -/
def Dn (P : Int → Prop) (s : RS) : Prop := s.l = [] ∧ P s.wrong

section
variable {E : Nat} {P : Int → Prop} {s : RS}
theorem Dn.isT (h : Dn P s) {k : Nat} (hk : k ≠ 0) (b : List UInt8) : isT E s k b = false := by
  unfold Go.Proofs.YtndmbljpfpnehaaGreatDoor.isT nextT
  rw [h.1]
  simp
  intro e
  exact absurd e.symm hk
theorem Dn.next (h : Dn P s) : nextT E s = ⟨0, [], E⟩ := by unfold nextT; rw [h.1]
theorem Dn.take (h : Dn P s) {k : Nat} (hk : k ≠ 0) (b : List UInt8) : takeT E s k b = (false, s) := by
  unfold takeT
  rw [h.isT hk, if_neg (by simp)]
theorem Dn.fail (hP : P (-1) → P E) (h : Dn P s) : Dn P (failT E s) := ⟨rfl, by
  unfold failT
  (try dsimp only)
  rw [h.next]
  split
  · rename_i e
    exact hP (e ▸ h.2)
  · exact h.2⟩
theorem Dn.among (h : Dn P s) {k : Nat} (hk : k ≠ 0) (l : List (List UInt8)) (n : Nat) : amongT E s k n l = (0, s) := amongT_none k l n (fun b _ => h.isT hk b)
end

/-- Two readers: one of tokens and more behind, the other one of these alone; where they end; a place that is none of these tokens'. -/
structure Sim where
  E : Nat
  T : Nat
  P : Int
  r : List XTok

section
variable (X : Sim)
def Sync (s s' : RS) : Prop := s'.l ≠ [] ∧ s.l = s'.l ++ X.r ∧ s.deep = s'.deep ∧ s.wrong = -1 ∧ s'.wrong = -1 ∧ ∀ u ∈ s'.l, (u.at_ : Int) ≠ X.P
def Over (s : RS) : Prop := Dn (fun x => x = -1 ∨ x = X.T) s
def Bad (s : RS) : Prop := Dn (fun x => x ≠ -1 ∧ x ≠ X.P) s
def Rl {α : Type} (a a' : α × RS) : Prop := (Sync X a.2 a'.2 ∧ a.1 = a'.1) ∨ Over X a'.2 ∨ Bad X a.2
structure GoodR {α : Type} (m m' : Nat) (f f' : RS → α × RS) : Prop where
  sync : ∀ s s', s.l.length ≤ m → s'.l.length ≤ m' → Sync X s s' → Rl X (f s) (f' s')
  over : ∀ s, Over X s → Over X (f' s).2
  bad : ∀ s, Bad X s → Bad X (f s).2
  le : ∀ s, (f s).2.l.length ≤ s.l.length
  le' : ∀ s, (f' s).2.l.length ≤ s.l.length
end

section
variable {X : Sim} {α β : Type} {m m' : Nat}
theorem GoodR.low {f f' : RS → α × RS} (h : GoodR X m m' f f') {n n' : Nat} (hn : n ≤ m) (hn' : n' ≤ m') : GoodR X n n' f f' := ⟨fun s s' h1 h2 => h.sync s s' (Nat.le_trans h1 hn) (Nat.le_trans h2 hn'), h.over, h.bad, h.le, h.le'⟩
theorem GoodR.bind {f f' : RS → α × RS} {g g' : α → RS → β × RS} (h : GoodR X m m' f f') (hg : ∀ a, GoodR X m m' (g a) (g' a)) : GoodR X m m' (fun s => g (f s).1 (f s).2) (fun s => g' (f' s).1 (f' s).2) :=
  ⟨fun s s' h1 h2 hs => by
    rcases h.sync s s' h1 h2 hs with ⟨h3, h4⟩ | h3 | h3
    · rw [h4]
      exact (hg _).sync _ _ (Nat.le_trans (h.le s) h1) (Nat.le_trans (h.le' s') h2) h3
    · exact .inr (.inl ((hg _).over _ h3))
    · exact .inr (.inr ((hg _).bad _ h3)), fun s hs => (hg _).over _ (h.over s hs), fun s hs => (hg _).bad _ (h.bad s hs), fun s => Nat.le_trans ((hg _).le _) (h.le s), fun s => Nat.le_trans ((hg _).le' _) (h.le' s)⟩
theorem GoodR.pure (a : α) : GoodR X m m' (fun s => (a, s)) (fun s => (a, s)) := ⟨fun _ _ _ _ h => .inl ⟨h, rfl⟩, fun _ h => h, fun _ h => h, fun _ => Nat.le_refl _, fun _ => Nat.le_refl _⟩
theorem GoodR.map {f f' : RS → α × RS} (h : GoodR X m m' f f') (p : α → β) : GoodR X m m' (fun s => (p (f s).1, (f s).2)) (fun s => (p (f' s).1, (f' s).2)) := h.bind (g := fun a s => (p a, s)) (g' := fun a s => (p a, s)) (fun a => GoodR.pure (p a))
theorem Sync.next {s s' : RS} (h : Sync X s s') (E E' : Nat) : nextT E s = nextT E' s' := by
  obtain ⟨h1, h2, _⟩ := h
  unfold nextT
  rw [h2]
  cases hl : s'.l with
  | nil => exact absurd hl h1
  | cons u r => rfl
theorem Sync.isT {s s' : RS} (h : Sync X s s') (E E' : Nat) (k : Nat) (b : List UInt8) : isT E s k b = isT E' s' k b := by
  unfold Go.Proofs.YtndmbljpfpnehaaGreatDoor.isT
  rw [h.next E E']
theorem Sync.tail {s s' : RS} (h : Sync X s s') : Rl X ((), (⟨s.l.tail, s.deep, s.wrong⟩ : RS)) ((), (⟨s'.l.tail, s'.deep, s'.wrong⟩ : RS)) := by
  obtain ⟨h1, h2, h3, h4, h5, h6⟩ := h
  cases hl : s'.l with
  | nil => exact absurd hl h1
  | cons u r =>
    by_cases hr : r = []
    · exact .inr (.inl ⟨hr, .inl h5⟩)
    · refine .inl ⟨⟨hr, ?_, h3, h4, h5, fun v hv => h6 v (by rw [hl]; exact List.mem_cons_of_mem _ hv)⟩, rfl⟩
      show s.l.tail = _
      rw [h2, hl]
      rfl
theorem Rl.val {a a' : RS} (h : Rl X ((), a) ((), a')) {x x' : α} (hx : x = x') : Rl X (x, a) (x', a') := h.imp (fun h => ⟨h.1, hx⟩) id
theorem Sync.fail {s s' : RS} (h : Sync X s s') : Bad X (failT X.E s) := by
  obtain ⟨h1, h2, h3, h4, h5, h6⟩ := h
  refine ⟨rfl, ?_⟩
  unfold failT nextT
  (try dsimp only)
  rw [h4, if_pos rfl, h2]
  cases hl : s'.l with
  | nil => exact absurd hl h1
  | cons u r =>
    have := h6 u (by rw [hl]; exact List.mem_cons_self)
    dsimp only [List.cons_append]
    exact ⟨by omega, this⟩
theorem over_fail {s : RS} (h : Over X s) : Over X (failT X.T s) := Dn.fail (fun _ => .inr rfl) h
theorem bad_fail {s : RS} (h : Bad X s) : Bad X (failT X.E s) := Dn.fail (fun h => absurd rfl h.1) h

theorem failG (a : α) : GoodR X m m' (fun s => (a, failT X.E s)) (fun s => (a, failT X.T s)) := ⟨fun _ _ _ _ h => .inr (.inr h.fail), fun _ h => over_fail h, fun _ h => bad_fail h, fun _ => failT_le, fun _ => failT_le⟩
theorem takeG {k : Nat} (hk : k ≠ 0) (b : List UInt8) : GoodR X m m' (fun s => takeT X.E s k b) (fun s => takeT X.T s k b) := ⟨fun s s' _ _ h => by
  unfold takeT
  rw [h.isT X.E X.T]
  split
  · exact h.tail.val rfl
  · exact .inl ⟨h, rfl⟩, fun s h => by rw [Dn.take h hk]; exact h, fun s h => by rw [Dn.take h hk]; exact h, fun s => takeT_le k b, fun s => takeT_le k b⟩
theorem GoodR.ite {f f' g g' : RS → α × RS} {c c' : RS → Bool} (hc : ∀ s s', Sync X s s' → c s = c' s') (hf : GoodR X m m' f f') (hg : GoodR X m m' g g') : GoodR X m m' (fun s => if c s then f s else g s) (fun s => if c' s then f' s else g' s) := ⟨fun s s' h1 h2 h => by
  (try dsimp only)
  rw [hc s s' h]
  split
  · exact hf.sync s s' h1 h2 h
  · exact hg.sync s s' h1 h2 h, fun s h => by
  (try dsimp only)
  split
  · exact hf.over s h
  · exact hg.over s h, fun s h => by
  (try dsimp only)
  split
  · exact hf.bad s h
  · exact hg.bad s h, fun s => by
  (try dsimp only)
  split
  · exact hf.le s
  · exact hg.le s, fun s => by
  (try dsimp only)
  split
  · exact hf.le' s
  · exact hg.le' s⟩
theorem GoodR.iteP {f f' g g' : RS → α × RS} {c c' : RS → Prop} [∀ s, Decidable (c s)] [∀ s, Decidable (c' s)] (hc : ∀ s s', Sync X s s' → (c s ↔ c' s')) (hf : GoodR X m m' f f') (hg : GoodR X m m' g g') : GoodR X m m' (fun s => if c s then f s else g s) (fun s => if c' s then f' s else g' s) := by
  have h := GoodR.ite (c := fun s => decide (c s)) (c' := fun s => decide (c' s)) (fun s s' h => by simp only [hc s s' h]) hf hg
  simpa only [decide_eq_true_eq] using h
theorem needG {k : Nat} (hk : k ≠ 0) (b : List UInt8) : GoodR X m m' (fun s => ((), needT X.E s k b)) (fun s => ((), needT X.T s k b)) := by
  have h := (takeG (X := X) (m := m) (m' := m') hk b).bind (g := fun z s => ((), if z then s else failT X.E s)) (g' := fun z s => ((), if z then s else failT X.T s)) (fun z => by
    cases z with
    | true => exact GoodR.pure ()
    | false => exact failG ())
  exact h
theorem ofG (k : Nat) (hk : k ≠ 0) : GoodR X m m' (fun s => ofT X.E s k) (fun s => ofT X.T s k) := by
  refine ⟨fun s s' _ _ h => ?_, fun s h => ?_, fun s h => ?_, fun s => ofT_le k, fun s => ofT_le k⟩
  · unfold ofT
    rw [h.next X.E X.T]
    split
    · exact h.tail.val rfl
    · exact .inr (.inr h.fail)
  · unfold ofT
    rw [Dn.next h, if_neg (by exact fun e => hk e.symm)]
    exact over_fail h
  · unfold ofT
    rw [Dn.next h, if_neg (by exact fun e => hk e.symm)]
    exact bad_fail h
theorem numberG : GoodR X m m' (fun s => numberT X.E s) (fun s => numberT X.T s) := (ofG 2 (by decide)).map numZ
theorem nameG : GoodR X m m' (fun s => nameT X.E s) (fun s => nameT X.T s) := by
  have h := (GoodR.ite (X := X) (m := m) (m' := m') (c := fun s => keyB (nextT X.E s).b) (c' := fun s => keyB (nextT X.T s).b) (fun s s' h => by rw [h.next X.E X.T]) (failG ()) (GoodR.pure ())).bind (g := fun _ s => ofT X.E s 1) (g' := fun _ s => ofT X.T s 1) (fun _ => ofG 1 (by decide))
  refine ⟨fun s s' h1 h2 hs => ?_, fun s hs => ?_, fun s hs => ?_, fun s => nameT_le, fun s => nameT_le⟩
  · have := h.sync s s' h1 h2 hs
    unfold nameT
    revert this
    (try dsimp only)
    cases keyB (nextT X.E s).b <;> cases keyB (nextT X.T s').b <;> exact id
  · have := h.over s hs
    unfold nameT
    revert this
    (try dsimp only)
    cases keyB (nextT X.T s).b <;> exact id
  · have := h.bad s hs
    unfold nameT
    revert this
    (try dsimp only)
    cases keyB (nextT X.E s).b <;> exact id
theorem amongG {k : Nat} (hk : k ≠ 0) : ∀ (l : List (List UInt8)) (n : Nat), GoodR X m m' (fun s => amongT X.E s k n l) (fun s => amongT X.T s k n l)
  | [], _ => GoodR.pure 0
  | b :: l, n => GoodR.ite (c := fun s => isT X.E s k b) (c' := fun s => isT X.T s k b) (fun _ _ h => h.isT _ _ _ _) ((takeG hk b).map fun _ => n) (amongG hk l (n + 1))
theorem chooseG {k : Nat} (hk : k ≠ 0) (l : List (List UInt8)) : GoodR X m m' (fun s => chooseT X.E s k l) (fun s => chooseT X.T s k l) := by
  have h := (amongG (X := X) (m := m) (m' := m') hk l 0).bind (g := fun n s => if n = 0 then (0, failT X.E s) else (n, s)) (g' := fun n s => if n = 0 then (0, failT X.T s) else (n, s)) (fun n => by
    by_cases hn : n = 0
    · simp only [if_pos hn]
      exact failG 0
    · simp only [if_neg hn]
      exact GoodR.pure n)
  exact h
theorem fieldG (k : Int) : GoodR X m m' (fun s => fieldT X.E s k) (fun s => fieldT X.T s k) :=
  nameG.bind (g := fun a s => (PEx.mk k noV a (nameT X.E (needT X.E s 4 [46])).1 [], (nameT X.E (needT X.E s 4 [46])).2)) (g' := fun a s => (PEx.mk k noV a (nameT X.T (needT X.T s 4 [46])).1 [], (nameT X.T (needT X.T s 4 [46])).2))
    fun a => (needG (by decide) [46]).bind (g := fun _ s => (PEx.mk k noV a (nameT X.E s).1 [], (nameT X.E s).2)) (g' := fun _ s => (PEx.mk k noV a (nameT X.T s).1 [], (nameT X.T s).2)) fun _ => nameG.map fun b => PEx.mk k noV a b []
theorem callG (k : Int) : GoodR X m m' (fun s => callT X.E s k) (fun s => callT X.T s k) := by
  by_cases hk : k = 3
  · subst hk
    exact (needG (by decide) [40]).bind (g := fun _ s => (PEx.mk 3 noV (nameT X.E s).1 [] [], needT X.E (nameT X.E s).2 4 [41])) (g' := fun _ s => (PEx.mk 3 noV (nameT X.T s).1 [] [], needT X.T (nameT X.T s).2 4 [41]))
      fun _ => nameG.bind (g := fun a s => (PEx.mk 3 noV a [] [], needT X.E s 4 [41])) (g' := fun a s => (PEx.mk 3 noV a [] [], needT X.T s 4 [41])) fun a => (needG (by decide) [41]).map fun _ => PEx.mk 3 noV a [] []
  · have h := (needG (X := X) (m := m) (m' := m') (k := 4) (by decide) [40]).bind (g := fun _ s => ((fieldT X.E s k).1, needT X.E (fieldT X.E s k).2 4 [41])) (g' := fun _ s => ((fieldT X.T s k).1, needT X.T (fieldT X.T s k).2 4 [41]))
      fun _ => (fieldG k).bind (g := fun a s => (a, needT X.E s 4 [41])) (g' := fun a s => (a, needT X.T s 4 [41])) fun a => (needG (by decide) [41]).map fun _ => a
    have e : ∀ (E : Nat) (s : RS), callT E s k = ((fieldT E (needT E s 4 [40]) k).1, needT E (fieldT E (needT E s 4 [40]) k).2 4 [41]) := fun E s => by unfold callT; simp only [if_neg hk]
    simp only [e]
    exact h
/-- What valT tells, in a pair. -/
def valP (E : Nat) (s : RS) : (PVal × Bool) × RS :=
  if (nextT E s).k = 2 then ((⟨1, (numberT E s).1, []⟩, true), (numberT E s).2)
  else if isT E s 4 [45] = true then ((⟨1, - (numberT E (takeT E s 4 [45]).2).1, []⟩, true), (numberT E (takeT E s 4 [45]).2).2)
  else if (nextT E s).k = 3 then ((⟨2, 0, (ofT E s 3).1⟩, true), (ofT E s 3).2)
  else if isT E s 1 bFalse = true then ((⟨3, 0, []⟩, true), (takeT E s 1 bFalse).2)
  else if isT E s 1 bTrue = true then ((⟨3, 1, []⟩, true), (takeT E s 1 bTrue).2)
  else ((noV, false), s)
theorem valP_eq (E : Nat) (s : RS) : valP E s = (((valT E s).1, (valT E s).2.1), (valT E s).2.2) := by
  unfold valP valT
  split
  · rfl
  · split
    · rfl
    · split
      · rfl
      · split
        · rfl
        · split <;> rfl
theorem valG : GoodR X m m' (fun s => valP X.E s) (fun s => valP X.T s) :=
  GoodR.iteP (c := fun s => (nextT X.E s).k = 2) (c' := fun s => (nextT X.T s).k = 2) (fun s s' h => by rw [h.next X.E X.T]) (numberG.map fun n => ((⟨1, n, []⟩ : PVal), true))
    (GoodR.iteP (c := fun s => isT X.E s 4 [45] = true) (c' := fun s => isT X.T s 4 [45] = true) (fun s s' h => by rw [h.isT X.E X.T])
      ((takeG (k := 4) (by decide) [45]).bind (g := fun _ s => (((⟨1, - (numberT X.E s).1, []⟩ : PVal), true), (numberT X.E s).2)) (g' := fun _ s => (((⟨1, - (numberT X.T s).1, []⟩ : PVal), true), (numberT X.T s).2)) fun _ => numberG.map fun n => ((⟨1, - n, []⟩ : PVal), true))
      (GoodR.iteP (c := fun s => (nextT X.E s).k = 3) (c' := fun s => (nextT X.T s).k = 3) (fun s s' h => by rw [h.next X.E X.T]) ((ofG 3 (by decide)).map fun b => ((⟨2, 0, b⟩ : PVal), true))
        (GoodR.iteP (c := fun s => isT X.E s 1 bFalse = true) (c' := fun s => isT X.T s 1 bFalse = true) (fun s s' h => by rw [h.isT X.E X.T]) ((takeG (k := 1) (by decide) bFalse).map fun _ => ((⟨3, 0, []⟩ : PVal), true))
          (GoodR.iteP (c := fun s => isT X.E s 1 bTrue = true) (c' := fun s => isT X.T s 1 bTrue = true) (fun s s' h => by rw [h.isT X.E X.T]) ((takeG (k := 1) (by decide) bTrue).map fun _ => ((⟨3, 1, []⟩ : PVal), true)) (GoodR.pure (noV, false))))))

theorem sums_over {tm : RS → PEx × RS} (_ : ∀ s, Over X s → Over X (tm s).2) : ∀ (n : Nat) (x : PEx) (s : RS), Over X s → Over X (sumsT X.T tm n x s).2
  | 0, x, s, h => h
  | n + 1, x, s, h => by
    rw [sumsT, Dn.among h (by decide), if_pos rfl]
    exact h
theorem sums_bad {tm : RS → PEx × RS} (_ : ∀ s, Bad X s → Bad X (tm s).2) : ∀ (n : Nat) (x : PEx) (s : RS), Bad X s → Bad X (sumsT X.E tm n x s).2
  | 0, x, s, h => h
  | n + 1, x, s, h => by
    rw [sumsT, Dn.among h (by decide), if_pos rfl]
    exact h
theorem sumsG {tm tm' : RS → PEx × RS} {M M' : Nat} (ht : GoodR X M M' tm tm') : ∀ (m' m : Nat) (x : PEx), m ≤ M → m' ≤ M' → GoodR X m m' (fun s => sumsT X.E tm m x s) (fun s => sumsT X.T tm' m' x s) := fun m' => by
  induction m' with
  | zero => exact fun m x _ _ => ⟨fun s s' _ h2 h => absurd (List.eq_nil_of_length_eq_zero (Nat.le_zero.1 h2)) h.1, fun s h => sums_over ht.over _ _ _ h, fun s h => sums_bad ht.bad _ _ _ h, fun s => sumsT_le ht.le _ _ _, fun s => sumsT_le ht.le' _ _ _⟩
  | succ m' ih =>
    intro m x hM hM'
    refine ⟨fun s s' h1 h2 h => ?_, fun s h => sums_over ht.over _ _ _ h, fun s h => sums_bad ht.bad _ _ _ h, fun s => sumsT_le ht.le _ _ _, fun s => sumsT_le ht.le' _ _ _⟩
    cases m with
    | zero =>
      have : s.l = [] := List.eq_nil_of_length_eq_zero (by omega)
      rw [h.2.1] at this
      exact absurd (List.append_eq_nil_iff.1 this).1 h.1
    | succ m =>
      (try dsimp only)
      rw [sumsT, sumsT]
      have ha := (amongG (X := X) (m := m + 1) (m' := m' + 1) (k := 4) (by decide) sumsL 0).sync s s' h1 h2 h
      rcases ha with ⟨h3, h4⟩ | h3 | h3
      · (try dsimp only at h3 h4)
        rw [h4]
        split
        · exact .inl ⟨h3, rfl⟩
        · rename_i hn
          have l1 := amongT_nz (E := X.E) (s := s) (k := 4) (by decide) (l := sumsL) (n := 0) (by rw [h4]; exact hn)
          have l2 := amongT_nz (E := X.T) (s := s') (k := 4) (by decide) (l := sumsL) (n := 0) hn
          have hb := (ht.low (n := m) (n' := m') (by omega) (by omega)).bind (g := fun a s => sumsT X.E tm m (.mk ((amongT X.T s' 4 0 sumsL).1 : Int) noV [] [] [x, a]) s) (g' := fun a s => sumsT X.T tm' m' (.mk ((amongT X.T s' 4 0 sumsL).1 : Int) noV [] [] [x, a]) s) (fun a => ih m _ (by omega) (by omega))
          exact hb.sync _ _ (by omega) (by omega) h3
      · refine .inr (.inl ?_)
        split
        · exact h3
        · exact sums_over ht.over _ _ _ (ht.over _ h3)
      · refine .inr (.inr ?_)
        split
        · exact h3
        · exact sums_bad ht.bad _ _ _ (ht.bad _ h3)
theorem exprG {tm tm' : RS → PEx × RS} (ht : GoodR X m m' tm tm') : GoodR X m m' (fun s => exprT X.E tm m s) (fun s => exprT X.T tm' m' s) :=
  ht.bind (g := fun a s => sumsT X.E tm m a s) (g' := fun a s => sumsT X.T tm' m' a s) (fun a => sumsG ht m' m a (Nat.le_refl _) (Nat.le_refl _))
theorem deepG (f : Nat → Nat) : GoodR X m m' (fun s => ((), (⟨s.l, f s.deep, s.wrong⟩ : RS))) (fun s => ((), (⟨s.l, f s.deep, s.wrong⟩ : RS))) := ⟨fun s s' _ _ h => .inl ⟨⟨h.1, h.2.1, by rw [h.2.2.1], h.2.2.2⟩, rfl⟩, fun s h => h, fun s h => h, fun s => Nat.le_refl _, fun s => Nat.le_refl _⟩
/-- What stands in brackets, behind the first. -/
def innerR (E : Nat) (tm : RS → PEx × RS) (n : Nat) (s : RS) : PEx × RS :=
  ((exprT E tm n ⟨s.l, s.deep + 1, s.wrong⟩).1, needT E ⟨(exprT E tm n ⟨s.l, s.deep + 1, s.wrong⟩).2.l, (exprT E tm n ⟨s.l, s.deep + 1, s.wrong⟩).2.deep - 1, (exprT E tm n ⟨s.l, s.deep + 1, s.wrong⟩).2.wrong⟩ 4 [41])
theorem innerRG {tm tm' : RS → PEx × RS} (ht : GoodR X m m' tm tm') : GoodR X m m' (fun s => innerR X.E tm m s) (fun s => innerR X.T tm' m' s) :=
  (deepG (· + 1)).bind (g := fun _ s => ((exprT X.E tm m s).1, needT X.E ⟨(exprT X.E tm m s).2.l, (exprT X.E tm m s).2.deep - 1, (exprT X.E tm m s).2.wrong⟩ 4 [41])) (g' := fun _ s => ((exprT X.T tm' m' s).1, needT X.T ⟨(exprT X.T tm' m' s).2.l, (exprT X.T tm' m' s).2.deep - 1, (exprT X.T tm' m' s).2.wrong⟩ 4 [41]))
    fun _ => (exprG ht).bind (g := fun a s => (a, needT X.E ⟨s.l, s.deep - 1, s.wrong⟩ 4 [41])) (g' := fun a s => (a, needT X.T ⟨s.l, s.deep - 1, s.wrong⟩ 4 [41]))
      fun a => (deepG (· - 1)).bind (g := fun _ s => (a, needT X.E s 4 [41])) (g' := fun _ s => (a, needT X.T s 4 [41])) fun _ => (needG (by decide) [41]).map fun _ => a
theorem innerT_eq (E : Nat) (tm : RS → PEx × RS) (n : Nat) (s : RS) : innerT E tm n s = innerR E tm n (needT E (if s.deep = 6 then failT E s else s) 4 [40]) := rfl
theorem inner_over {tm : RS → PEx × RS} (hd : ∀ s, Over X s → Over X (tm s).2) (n : Nat) {s : RS} (h : Over X s) : Over X (innerR X.T tm n s).2 := by
  have h1 : Over X (⟨s.l, s.deep + 1, s.wrong⟩ : RS) := h
  have h2 : Over X (exprT X.T tm n ⟨s.l, s.deep + 1, s.wrong⟩).2 := sums_over hd _ _ _ (hd _ h1)
  exact (needG (X := X) (m := 0) (m' := 0) (k := 4) (by decide) [41]).over _ (show Over X (⟨_, _, _⟩ : RS) from h2)
theorem inner_bad {tm : RS → PEx × RS} (hd : ∀ s, Bad X s → Bad X (tm s).2) (n : Nat) {s : RS} (h : Bad X s) : Bad X (innerR X.E tm n s).2 := by
  have h1 : Bad X (⟨s.l, s.deep + 1, s.wrong⟩ : RS) := h
  have h2 : Bad X (exprT X.E tm n ⟨s.l, s.deep + 1, s.wrong⟩).2 := sums_bad hd _ _ _ (hd _ h1)
  exact (needG (X := X) (m := 0) (m' := 0) (k := 4) (by decide) [41]).bad _ (show Bad X (⟨_, _, _⟩ : RS) from h2)
theorem termT_eq (E n : Nat) (s : RS) : termT E (n + 1) s =
    if (valP E s).1.2 = true then (.mk 1 (valP E s).1.1 [] [] [], (valP E s).2)
    else if isT E s 4 [40] = true then innerT E (termT E n) n s
    else if (amongT E s 1 0 callsL).1 = 0 then fieldT E (amongT E s 1 0 callsL).2 2
    else callT E (amongT E s 1 0 callsL).2 (amongT E s 1 0 callsL).1 := by
  rw [termT, valP_eq]
theorem term_over : ∀ (n : Nat) (s : RS), Over X s → Over X (termT X.T n s).2
  | 0, s, h => h
  | n + 1, s, h => by
    have hv := (valG (X := X) (m := 0) (m' := 0)).over s h
    rw [termT_eq]
    split
    · exact hv
    · rw [Dn.isT h (by decide), if_neg (by simp), Dn.among h (by decide), if_pos rfl]
      exact (fieldG (X := X) (m := 0) (m' := 0) 2).over s h
theorem term_bad : ∀ (n : Nat) (s : RS), Bad X s → Bad X (termT X.E n s).2
  | 0, s, h => h
  | n + 1, s, h => by
    have hv := (valG (X := X) (m := 0) (m' := 0)).bad s h
    rw [termT_eq]
    split
    · exact hv
    · rw [Dn.isT h (by decide), if_neg (by simp), Dn.among h (by decide), if_pos rfl]
      exact (fieldG (X := X) (m := 0) (m' := 0) 2).bad s h
theorem valP_no {E : Nat} {s : RS} (h : ¬ (valP E s).1.2 = true) : (valP E s).2 = s := by
  unfold valP at h ⊢
  split at h
  · exact absurd rfl h
  · rename_i h1
    split at h
    · exact absurd rfl h
    · rename_i h2
      split at h
      · exact absurd rfl h
      · rename_i h3
        split at h
        · exact absurd rfl h
        · rename_i h4
          split at h
          · exact absurd rfl h
          · rename_i h5
            rw [if_neg h1, if_neg h2, if_neg h3, if_neg h4, if_neg h5]
/-- Does what comes begin a value? -/
def valF (E : Nat) (s : RS) : Bool := decide ((nextT E s).k = 2) || (isT E s 4 [45] || (decide ((nextT E s).k = 3) || (isT E s 1 bFalse || isT E s 1 bTrue)))
theorem valP_flag (E : Nat) (s : RS) : (valP E s).1.2 = valF E s := by
  unfold valP valF
  split
  · rename_i h
    rw [decide_eq_true h]
    rfl
  · rename_i h
    rw [decide_eq_false h, Bool.false_or]
    split
    · rename_i h
      rw [h]
      rfl
    · rename_i h
      rw [Bool.not_eq_true] at h
      rw [h, Bool.false_or]
      split
      · rename_i h
        rw [decide_eq_true h]
        rfl
      · rename_i h
        rw [decide_eq_false h, Bool.false_or]
        split
        · rename_i h
          rw [h]
          rfl
        · rename_i h
          rw [Bool.not_eq_true] at h
          rw [h, Bool.false_or]
          split
          · rename_i h
            rw [h]
          · rename_i h
            rw [Bool.not_eq_true] at h
            rw [h]
theorem Sync.flag {s s' : RS} (h : Sync X s s') : (valP X.E s).1.2 = (valP X.T s').1.2 := by
  rw [valP_flag, valP_flag]
  unfold valF
  rw [h.next X.E X.T, h.isT X.E X.T, h.isT X.E X.T, h.isT X.E X.T]
theorem termG : ∀ (m' m : Nat), GoodR X m m' (fun s => termT X.E m s) (fun s => termT X.T m' s) := fun m' => by
  induction m' with
  | zero => exact fun m => ⟨fun s s' _ h2 h => absurd (List.eq_nil_of_length_eq_zero (Nat.le_zero.1 h2)) h.1, fun s h => term_over _ _ h, fun s h => term_bad _ _ h, fun s => termT_le _ _, fun s => termT_le _ _⟩
  | succ m' ih =>
    intro m
    refine ⟨fun s s' h1 h2 h => ?_, fun s h => term_over _ _ h, fun s h => term_bad _ _ h, fun s => termT_le _ _, fun s => termT_le _ _⟩
    cases m with
    | zero =>
      have : s.l = [] := List.eq_nil_of_length_eq_zero (by omega)
      rw [h.2.1] at this
      exact absurd (List.append_eq_nil_iff.1 this).1 h.1
    | succ m =>
      (try dsimp only)
      rw [termT_eq, termT_eq]
      have hv := (valG (X := X) (m := m + 1) (m' := m' + 1)).sync s s' h1 h2 h
      (try dsimp only at hv)
      have hfl := h.flag
      by_cases hc : (valP X.E s).1.2 = true
      · rw [if_pos hc, if_pos (by rw [← hfl]; exact hc)]
        rcases hv with ⟨h3, h4⟩ | h3 | h3
        · exact .inl ⟨h3, by rw [h4]⟩
        · exact .inr (.inl h3)
        · exact .inr (.inr h3)
      · rw [if_neg hc]
        have hc' : ¬ (valP X.T s').1.2 = true := by rw [← hfl]; exact hc
        rw [if_neg hc', h.isT X.E X.T]
        clear hv hc hc' hfl
        by_cases hb : isT X.T s' 4 [40] = true
        · rw [if_pos hb, if_pos hb, innerT_eq, innerT_eq]
          by_cases hd : s.deep = 6
          · refine .inr (.inr (inner_bad (term_bad m) m ?_))
            rw [if_pos hd]
            exact (needG (X := X) (m := 0) (m' := 0) (k := 4) (by decide) [40]).bad _ h.fail
          · rw [if_neg hd, if_neg (by rw [← h.2.2.1]; exact hd)]
            have hn := (needG (X := X) (m := m + 1) (m' := m' + 1) (k := 4) (by decide) [40]).sync s s' h1 h2 h
            have e1 : needT X.E s 4 [40] = (takeT X.E s 4 [40]).2 := by unfold needT takeT; rw [h.isT X.E X.T, if_pos hb]; rfl
            have e2 : needT X.T s' 4 [40] = (takeT X.T s' 4 [40]).2 := by unfold needT takeT; rw [if_pos hb]; rfl
            have l1 := takeT_lt (E := X.E) (s := s) (k := 4) (b := [40]) (by rw [h.isT X.E X.T]; exact hb) (by decide)
            have l2 := takeT_lt (E := X.T) (s := s') (k := 4) (b := [40]) hb (by decide)
            rw [← e1] at l1
            rw [← e2] at l2
            rcases hn with ⟨h3, _⟩ | h3 | h3
            · exact (innerRG (ih m)).sync _ _ (by omega) (by omega) h3
            · exact .inr (.inl (inner_over (term_over m') m' h3))
            · exact .inr (.inr (inner_bad (term_bad m) m h3))
        · rw [if_neg hb, if_neg hb]
          have ha := (amongG (X := X) (m := m + 1) (m' := m' + 1) (k := 1) (by decide) callsL 0).sync s s' h1 h2 h
          rcases ha with ⟨h3, h4⟩ | h3 | h3
          · (try dsimp only at h3 h4)
            rw [h4]
            have l1 := amongT_le (E := X.E) (s := s) 1 callsL 0
            have l2 := amongT_le (E := X.T) (s := s') 1 callsL 0
            split
            · exact (fieldG (m := m + 1) (m' := m' + 1) 2).sync _ _ (by omega) (by omega) h3
            · exact (callG (m := m + 1) (m' := m' + 1) _).sync _ _ (by omega) (by omega) h3
          · refine .inr (.inl ?_)
            split
            · exact (fieldG (X := X) (m := 0) (m' := 0) 2).over _ h3
            · exact (callG (X := X) (m := 0) (m' := 0) _).over _ h3
          · refine .inr (.inr ?_)
            split
            · exact (fieldG (X := X) (m := 0) (m' := 0) 2).bad _ h3
            · exact (callG (X := X) (m := 0) (m' := 0) _).bad _ h3
theorem row_over {one : RS → α × RS} (_ : ∀ s, Over X s → Over X (one s).2) (b : List UInt8) : ∀ (n : Nat) (l : List α) (s : RS), Over X s → Over X (rowT X.T b one n l s).2
  | 0, l, s, h => h
  | n + 1, l, s, h => by
    rw [rowT, Dn.isT h (by decide), if_neg (by simp)]
    exact h
theorem row_bad {one : RS → α × RS} (_ : ∀ s, Bad X s → Bad X (one s).2) (b : List UInt8) : ∀ (n : Nat) (l : List α) (s : RS), Bad X s → Bad X (rowT X.E b one n l s).2
  | 0, l, s, h => h
  | n + 1, l, s, h => by
    rw [rowT, Dn.isT h (by decide), if_neg (by simp)]
    exact h
theorem rowG {one one' : RS → α × RS} {M M' : Nat} (ho : GoodR X M M' one one') (b : List UInt8) : ∀ (m' m : Nat) (l : List α), m ≤ M → m' ≤ M' → GoodR X m m' (fun s => rowT X.E b one m l s) (fun s => rowT X.T b one' m' l s) := fun m' => by
  induction m' with
  | zero => exact fun m x _ _ => ⟨fun s s' _ h2 h => absurd (List.eq_nil_of_length_eq_zero (Nat.le_zero.1 h2)) h.1, fun s h => row_over ho.over _ _ _ _ h, fun s h => row_bad ho.bad _ _ _ _ h, fun s => rowT_le ho.le _ _ _, fun s => rowT_le ho.le' _ _ _⟩
  | succ m' ih =>
    intro m l hM hM'
    refine ⟨fun s s' h1 h2 h => ?_, fun s h => row_over ho.over _ _ _ _ h, fun s h => row_bad ho.bad _ _ _ _ h, fun s => rowT_le ho.le _ _ _, fun s => rowT_le ho.le' _ _ _⟩
    cases m with
    | zero =>
      have : s.l = [] := List.eq_nil_of_length_eq_zero (by omega)
      rw [h.2.1] at this
      exact absurd (List.append_eq_nil_iff.1 this).1 h.1
    | succ m =>
      (try dsimp only)
      rw [rowT, rowT, h.isT X.E X.T]
      by_cases hb : isT X.T s' 1 b = true
      · rw [if_pos hb, if_pos hb]
        have l1 := takeT_lt (E := X.E) (s := s) (k := 1) (b := b) (by rw [h.isT X.E X.T]; exact hb) (by decide)
        have l2 := takeT_lt (E := X.T) (s := s') (k := 1) (b := b) hb (by decide)
        rcases (takeG (X := X) (m := m + 1) (m' := m' + 1) (k := 1) (by decide) b).sync s s' h1 h2 h with ⟨h3, _⟩ | h3 | h3
        · have hg := (ho.low (n := m) (n' := m') (by omega) (by omega)).bind (g := fun a s => rowT X.E b one m (l ++ [a]) s) (g' := fun a s => rowT X.T b one' m' (l ++ [a]) s) (fun a => ih m _ (by omega) (by omega))
          exact hg.sync _ _ (by omega) (by omega) h3
        · exact .inr (.inl (row_over ho.over _ _ _ _ (ho.over _ h3)))
        · exact .inr (.inr (row_bad ho.bad _ _ _ _ (ho.bad _ h3)))
      · rw [if_neg hb, if_neg hb]
        exact .inl ⟨h, rfl⟩
theorem row1G {one one' : RS → α × RS} (ho : GoodR X m m' one one') (b : List UInt8) : GoodR X m m' (fun s => row1T X.E b one m s) (fun s => row1T X.T b one' m' s) :=
  ho.bind (g := fun a s => rowT X.E b one m [a] s) (g' := fun a s => rowT X.T b one' m' [a] s) fun a => rowG ho b m' m [a] (Nat.le_refl _) (Nat.le_refl _)
theorem itemG : GoodR X m m' (fun s => itemT X.E m s) (fun s => itemT X.T m' s) :=
  (takeG (by decide) wNot).bind
    (g := fun z s => ((⟨z, (row1T X.E wOr (nameT X.E) m s).1, (nameT X.E (row1T X.E wOr (nameT X.E) m s).2).1, if (amongT X.E (nameT X.E (row1T X.E wOr (nameT X.E) m s).2).2 4 0 modesL).1 = 0 then 1 else ((amongT X.E (nameT X.E (row1T X.E wOr (nameT X.E) m s).2).2 4 0 modesL).1 : Int)⟩ : PIt), (amongT X.E (nameT X.E (row1T X.E wOr (nameT X.E) m s).2).2 4 0 modesL).2))
    (g' := fun z s => ((⟨z, (row1T X.T wOr (nameT X.T) m' s).1, (nameT X.T (row1T X.T wOr (nameT X.T) m' s).2).1, if (amongT X.T (nameT X.T (row1T X.T wOr (nameT X.T) m' s).2).2 4 0 modesL).1 = 0 then 1 else ((amongT X.T (nameT X.T (row1T X.T wOr (nameT X.T) m' s).2).2 4 0 modesL).1 : Int)⟩ : PIt), (amongT X.T (nameT X.T (row1T X.T wOr (nameT X.T) m' s).2).2 4 0 modesL).2))
    fun z => (row1G nameG wOr).bind
      (g := fun a s => ((⟨z, a, (nameT X.E s).1, if (amongT X.E (nameT X.E s).2 4 0 modesL).1 = 0 then 1 else ((amongT X.E (nameT X.E s).2 4 0 modesL).1 : Int)⟩ : PIt), (amongT X.E (nameT X.E s).2 4 0 modesL).2))
      (g' := fun a s => ((⟨z, a, (nameT X.T s).1, if (amongT X.T (nameT X.T s).2 4 0 modesL).1 = 0 then 1 else ((amongT X.T (nameT X.T s).2 4 0 modesL).1 : Int)⟩ : PIt), (amongT X.T (nameT X.T s).2 4 0 modesL).2))
      fun a => nameG.bind
        (g := fun b s => ((⟨z, a, b, if (amongT X.E s 4 0 modesL).1 = 0 then 1 else ((amongT X.E s 4 0 modesL).1 : Int)⟩ : PIt), (amongT X.E s 4 0 modesL).2))
        (g' := fun b s => ((⟨z, a, b, if (amongT X.T s 4 0 modesL).1 = 0 then 1 else ((amongT X.T s 4 0 modesL).1 : Int)⟩ : PIt), (amongT X.T s 4 0 modesL).2))
        fun b => (amongG (by decide) modesL 0).map fun (c : Nat) => (⟨z, a, b, if c = 0 then 1 else (c : Int)⟩ : PIt)
theorem predG : GoodR X m m' (fun s => predT X.E m s) (fun s => predT X.T m' s) :=
  (exprG (termG m' m)).bind
    (g := fun a s => ((⟨a, ((chooseT X.E s 4 cmpsL).1 : Int), (exprT X.E (termT X.E m) m (chooseT X.E s 4 cmpsL).2).1⟩ : PPr), (exprT X.E (termT X.E m) m (chooseT X.E s 4 cmpsL).2).2))
    (g' := fun a s => ((⟨a, ((chooseT X.T s 4 cmpsL).1 : Int), (exprT X.T (termT X.T m') m' (chooseT X.T s 4 cmpsL).2).1⟩ : PPr), (exprT X.T (termT X.T m') m' (chooseT X.T s 4 cmpsL).2).2))
    fun a => (chooseG (by decide) cmpsL).bind
      (g := fun c s => ((⟨a, ((c : Nat) : Int), (exprT X.E (termT X.E m) m s).1⟩ : PPr), (exprT X.E (termT X.E m) m s).2))
      (g' := fun c s => ((⟨a, ((c : Nat) : Int), (exprT X.T (termT X.T m') m' s).1⟩ : PPr), (exprT X.T (termT X.T m') m' s).2))
      fun c => (exprG (termG m' m)).map fun b => (⟨a, (c : Int), b⟩ : PPr)
end
end Go.Proofs.YtndmbljpfpnehaaGreatDoor
namespace Go.Proofs.YtndmbljpfpnehaaGreatDoor
open Go.Lib

section
variable {E : Nat}
theorem isT_head {s : RS} {t : XTok} {r : List XTok} (h : s.l = t :: r) (k : Nat) (b : List UInt8) : isT E s k b = decide (t.k = k ∧ t.b = b) := by
  unfold isT nextT
  rw [h]
theorem takeT_yes {s : RS} {t : XTok} {r : List XTok} (h : s.l = t :: r) {k : Nat} {b : List UInt8} (hk : t.k = k) (hb : t.b = b) : takeT E s k b = (true, ⟨r, s.deep, s.wrong⟩) := by
  unfold takeT
  rw [isT_head h, if_pos (by simp [hk, hb]), h]
  rfl
theorem takeT_not {s : RS} {t : XTok} {r : List XTok} (h : s.l = t :: r) {k : Nat} {b : List UInt8} (hn : t.k ≠ k ∨ t.b ≠ b) : takeT E s k b = (false, s) := by
  unfold takeT
  rw [isT_head h, if_neg (by simp; rcases hn with h | h; exact fun e => absurd e h; exact fun _ e => h e)]
theorem needT_yes {s : RS} {t : XTok} {r : List XTok} (h : s.l = t :: r) {k : Nat} {b : List UInt8} (hk : t.k = k) (hb : t.b = b) : needT E s k b = ⟨r, s.deep, s.wrong⟩ := by
  unfold needT
  rw [takeT_yes h hk hb, if_pos rfl]
theorem ofT_yes {s : RS} {t : XTok} {r : List XTok} (h : s.l = t :: r) {k : Nat} (hk : t.k = k) : ofT E s k = (t.b, ⟨r, s.deep, s.wrong⟩) := by
  unfold ofT nextT
  rw [h]
  dsimp only
  rw [if_pos hk]
  rfl
theorem nameT_yes {s : RS} {t : XTok} {r : List XTok} (h : s.l = t :: r) (hk : t.k = 1) (hb : nameB t.b = true) : nameT E s = (t.b, ⟨r, s.deep, s.wrong⟩) := by
  unfold nameT
  have hn : (nextT E s).b = t.b := by unfold nextT; rw [h]
  unfold nameB at hb
  rw [Bool.and_eq_true, Bool.not_eq_true'] at hb
  rw [hn, hb.2, if_neg (by simp)]
  exact ofT_yes h hk
theorem numberT_yes {s : RS} {t : XTok} {r : List XTok} (h : s.l = t :: r) (hk : t.k = 2) : numberT E s = (numZ t.b, ⟨r, s.deep, s.wrong⟩) := by
  unfold numberT
  rw [ofT_yes h hk]
theorem amongT_no {s : RS} {t : XTok} {r : List XTok} (h : s.l = t :: r) {k : Nat} {l : List (List UInt8)} (hn : t.k ≠ k ∨ t.b ∉ l) (n : Nat) : amongT E s k n l = (0, s) := amongT_none k l n (fun b hb => by
  rw [isT_head h]
  simp
  rcases hn with h | h
  · exact fun e => absurd e h
  · exact fun _ e => h (e ▸ hb))
theorem numZ_dec {n : Nat} (h : n ≤ 1099511627776) : numZ (decDigits n) = n := by
  unfold numZ
  rw [parse_itoa (by omega)]
theorem name_key {b : List UInt8} (h : nameB b = true) : b ∉ keysL := by
  unfold nameB at h
  rw [Bool.and_eq_true, Bool.not_eq_true'] at h
  have := h.2
  unfold keyB at this
  simpa using this
theorem name_ne {b : List UInt8} (h : nameB b = true) : b ≠ [] := fun e => by
  rw [e] at h
  cases h
/-- Tokens, but for their places. -/
def BareIs (us : List XTok) (ts : List (Nat × List UInt8)) : Prop := us.map bare = ts
theorem bare_cons {us : List XTok} {k : Nat} {b : List UInt8} {ts : List (Nat × List UInt8)} (h : us.map bare = (k, b) :: ts) : ∃ t r, us = t :: r ∧ t.k = k ∧ t.b = b ∧ r.map bare = ts := by
  cases us with
  | nil => cases h
  | cons t r =>
    rw [List.map_cons] at h
    injection h with h1 h2
    injection h1 with h3 h4
    exact ⟨t, r, rfl, h3, h4, h2⟩
theorem bare_app {us : List XTok} {ts ts' : List (Nat × List UInt8)} (h : us.map bare = ts ++ ts') : ∃ a b, us = a ++ b ∧ a.map bare = ts ∧ b.map bare = ts' := by
  obtain ⟨a, b, h1, h2, h3⟩ := List.map_eq_append_iff.1 h
  exact ⟨a, b, h1, h2, h3⟩
theorem bare_nil {us : List XTok} (h : us.map bare = []) : us = [] := List.map_eq_nil_iff.1 h

/-- What stands behind the tokens of an expression: nothing that goes on with it. -/
theorem sumsT_fuel {tm : RS → PEx × RS} (ht : ∀ s, (tm s).2.l.length ≤ s.l.length) : ∀ (n m : Nat) (x : PEx) (s : RS), s.l.length ≤ n → s.l.length ≤ m → sumsT E tm n x s = sumsT E tm m x s
  | 0, m, x, s, h, _ => by
    cases m with
    | zero => rfl
    | succ m =>
      rw [sumsT, sumsT, amongT_nil (by decide) (List.eq_nil_of_length_eq_zero (by omega)), if_pos rfl]
  | n + 1, 0, x, s, _, h => by
    rw [sumsT, sumsT, amongT_nil (by decide) (List.eq_nil_of_length_eq_zero (by omega)), if_pos rfl]
  | n + 1, m + 1, x, s, h1, h2 => by
    rw [sumsT, sumsT]
    split
    · rfl
    · rename_i hk
      have hl := amongT_nz (E := E) (s := s) (k := 4) (by decide) (l := sumsL) (n := 0) hk
      have h3 := ht (amongT E s 4 0 sumsL).2
      exact sumsT_fuel ht n m _ _ (by omega) (by omega)
theorem val_of {v : PVal} (hr : rightB v = true) {s : RS} {us rest : List XTok} (hs : s.l = us ++ rest) (hu : us.map bare = tokPV v) : valT E s = (v, true, ⟨rest, s.deep, s.wrong⟩) := by
  obtain ⟨vk, vn, vs⟩ := v
  unfold rightB at hr
  unfold tokPV at hu
  dsimp only at hr hu
  by_cases h1 : vk = 1
  · subst h1
    rw [if_pos rfl, decide_eq_true_eq] at hr
    obtain ⟨h3, h4, rfl⟩ := hr
    rw [if_neg (by decide), if_neg (by decide)] at hu
    by_cases hn : vn < 0
    · rw [if_pos hn] at hu
      obtain ⟨t, r, rfl, hk, hb, hu⟩ := bare_cons hu
      obtain ⟨t2, r2, rfl, hk2, hb2, hu⟩ := bare_cons hu
      rw [bare_nil hu] at hs
      have hs : s.l = t :: t2 :: rest := hs
      unfold valT
      have hn2 : (nextT E s).k ≠ 2 := by unfold nextT; rw [hs]; dsimp only; omega
      rw [if_neg hn2, isT_head hs, if_pos (by simp [hk, hb]), takeT_yes hs hk hb]
      dsimp only
      rw [numberT_yes (s := ⟨t2 :: rest, s.deep, s.wrong⟩) rfl hk2, hb2, numZ_dec (by omega)]
      dsimp only
      congr 2
      omega
    · rw [if_neg hn] at hu
      obtain ⟨t, r, rfl, hk, hb, hu⟩ := bare_cons hu
      rw [bare_nil hu] at hs
      have hs : s.l = t :: rest := hs
      unfold valT
      have hn2 : (nextT E s).k = 2 := by unfold nextT; rw [hs]; exact hk
      rw [if_pos hn2, numberT_yes hs hk, hb, numZ_dec (by omega)]
      dsimp only
      congr 2
      omega
  · rw [if_neg h1] at hr
    by_cases h2 : vk = 2
    · subst h2
      rw [if_pos rfl, decide_eq_true_eq] at hr
      obtain ⟨rfl, _⟩ := hr
      rw [if_pos rfl] at hu
      obtain ⟨t, r, rfl, hk, hb, hu⟩ := bare_cons hu
      rw [bare_nil hu] at hs
      have hs : s.l = t :: rest := hs
      unfold valT
      have hn2 : (nextT E s).k = 3 := by unfold nextT; rw [hs]; exact hk
      rw [if_neg (by omega), isT_head hs, if_neg (by simp; omega), if_pos hn2, ofT_yes hs hk, hb]
    · rw [if_neg h2] at hr
      by_cases h3 : vk = 3
      · subst h3
        rw [if_pos rfl, decide_eq_true_eq] at hr
        obtain ⟨h4, h5, rfl⟩ := hr
        rw [if_neg (by decide), if_pos rfl] at hu
        obtain ⟨t, r, rfl, hk, hb, hu⟩ := bare_cons hu
        rw [bare_nil hu] at hs
        have hs : s.l = t :: rest := hs
        have hn2 : (nextT E s).k = 1 := by unfold nextT; rw [hs]; exact hk
        unfold valT
        rw [if_neg (by omega), isT_head hs, if_neg (by simp; omega), if_neg (by omega), isT_head hs, isT_head hs]
        by_cases hn : vn = 1
        · subst hn
          rw [if_pos rfl] at hb
          rw [if_neg (by rw [hb]; simp; intro _; decide), if_pos (by simp [hk, hb]), takeT_yes hs hk hb]
        · have hn0 : vn = 0 := by omega
          subst hn0
          rw [if_neg (by decide)] at hb
          rw [if_pos (by simp [hk, hb]), takeT_yes hs hk hb]
      · rw [if_neg h3] at hr
        cases hr
end
end Go.Proofs.YtndmbljpfpnehaaGreatDoor
namespace Go.Proofs.YtndmbljpfpnehaaGreatDoor
open Go.Lib

section
variable {E : Nat}
theorem amongT_yes {s : RS} {t : XTok} {r : List XTok} (h : s.l = t :: r) {k : Nat} (hk : t.k = k) : ∀ (l : List (List UInt8)) (n : Nat), t.b ∈ l → amongT E s k n l = (n + l.idxOf t.b, ⟨r, s.deep, s.wrong⟩)
  | [], _, hm => by cases hm
  | b :: l, n, hm => by
    by_cases hb : t.b = b
    · rw [amongT_hit (by rw [isT_head h]; simp [hk, hb]), takeT_yes h hk hb, hb, List.idxOf_cons_self]
      rfl
    · rw [amongT_step (by rw [isT_head h]; simp [hb])]
      have h2 : t.b ∈ l := by
        rcases List.mem_cons.1 hm with h2 | h2
        · exact absurd h2 hb
        · exact h2
      rw [amongT_yes h hk l (n + 1) h2, List.idxOf_cons, beq_false_of_ne (fun e => hb e.symm), cond_false]
      congr 1
      omega
theorem nextT_of {s : RS} {t : XTok} {r : List XTok} (h : s.l = t :: r) : nextT E s = t := by
  unfold nextT
  rw [h]
/-- A token that begins no value. -/
theorem valT_none {s : RS} {t : XTok} {r : List XTok} (h : s.l = t :: r) (h2 : t.k ≠ 2) (h3 : t.k ≠ 3) (h4 : t.k = 4 → t.b ≠ [45]) (h1 : t.k = 1 → t.b ≠ bFalse ∧ t.b ≠ bTrue) : valT E s = (noV, false, s) := by
  unfold valT
  rw [nextT_of h, if_neg h2, isT_head h, if_neg (by simp; exact h4), if_neg h3, isT_head h, if_neg (by simp; exact fun e => (h1 e).1), isT_head h, if_neg (by simp; exact fun e => (h1 e).2)]
theorem fieldT_yes {s : RS} {t1 t2 t3 : XTok} {r : List XTok} (h : s.l = t1 :: t2 :: t3 :: r) (k1 : t1.k = 1) (b1 : nameB t1.b = true) (k2 : t2.k = 4) (b2 : t2.b = [46]) (k3 : t3.k = 1) (b3 : nameB t3.b = true) (k : Int) : fieldT E s k = (.mk k noV t1.b t3.b [], ⟨r, s.deep, s.wrong⟩) := by
  unfold fieldT
  dsimp only
  rw [nameT_yes h k1 b1]
  dsimp only
  rw [needT_yes (s := ⟨t2 :: t3 :: r, s.deep, s.wrong⟩) rfl k2 b2]
  dsimp only
  rw [nameT_yes (s := ⟨t3 :: r, s.deep, s.wrong⟩) rfl k3 b3]
theorem name_notbool {b : List UInt8} (h : nameB b = true) : b ≠ bFalse ∧ b ≠ bTrue := ⟨fun e => name_key h (e ▸ by decide), fun e => name_key h (e ▸ by decide)⟩
theorem name_notcall {b : List UInt8} (h : nameB b = true) : b ∉ callsL := fun hm => by
  have h1 := name_key h
  have h2 := name_ne h
  simp only [callsL, List.mem_cons, List.not_mem_nil, or_false] at hm
  rcases hm with e | e | e | e | e | e | e | e | e
  · exact h2 e
  · exact h2 e
  · exact h2 e
  · exact h1 (e ▸ by decide)
  · exact h1 (e ▸ by decide)
  · exact h1 (e ▸ by decide)
  · exact h1 (e ▸ by decide)
  · exact h2 e
  · exact h2 e
/-- An expression that is no sum is read of its own tokens. -/
theorem term_of {d n : Nat} {x : PEx} (hr : rightX (d + 1) x = true) (h7 : ¬ (x.k = 7 ∨ x.k = 8)) {s : RS} {us rest : List XTok} (hs : s.l = us ++ rest) (hu : us.map bare = tokX (d + 1) x) : termT E (n + 1) s = (x, ⟨rest, s.deep, s.wrong⟩) := by
  obtain ⟨k, v, x, f, ks⟩ := x
  have h7 : ¬ (k = 7 ∨ k = 8) := h7
  rw [tokX_s] at hu
  rw [termT]
  by_cases h1 : k = 1
  · subst h1
    rw [if_pos rfl] at hu
    rw [rightX_one] at hr
    simp only [Bool.and_eq_true, decide_eq_true_eq] at hr
    obtain ⟨⟨rfl, rfl, hk⟩, hw⟩ := hr
    obtain rfl := List.eq_nil_of_length_eq_zero hk
    unfold writeB at hw
    rw [Bool.and_eq_true] at hw
    rw [val_of hw.2 hs hu, if_pos rfl]
  · rw [if_neg h1] at hu
    by_cases h2 : k = 2
    · subst h2
      rw [if_pos rfl] at hu
      rw [rightX_field _ _ (.inl rfl)] at hr
      simp only [Bool.and_eq_true, decide_eq_true_eq] at hr
      obtain ⟨⟨rfl, hk⟩, hx, hf⟩ := hr
      obtain rfl := List.eq_nil_of_length_eq_zero hk
      obtain ⟨t1, u1, rfl, k1, b1, hu⟩ := bare_cons hu
      obtain ⟨t2, u2, rfl, k2, b2, hu⟩ := bare_cons hu
      obtain ⟨t3, u3, rfl, k3, b3, hu⟩ := bare_cons hu
      rw [bare_nil hu] at hs
      have hs : s.l = t1 :: t2 :: t3 :: rest := hs
      rw [valT_none hs (by omega) (by omega) (by omega) (fun _ => by rw [b1]; exact name_notbool hx), if_neg (by simp), isT_head hs, if_neg (by simp; omega)]
      rw [amongT_no hs (.inr (by rw [b1]; exact name_notcall hx)), if_pos rfl]
      rw [fieldT_yes hs k1 (by rw [b1]; exact hx) k2 b2 k3 (by rw [b3]; exact hf), b1, b3]
    · rw [if_neg h2] at hu
      by_cases h3 : k = 3
      · subst h3
        rw [if_pos rfl] at hu
        rw [rightX_three] at hr
        simp only [Bool.and_eq_true, decide_eq_true_eq] at hr
        obtain ⟨⟨rfl, rfl, hk⟩, hx⟩ := hr
        obtain rfl := List.eq_nil_of_length_eq_zero hk
        obtain ⟨t1, u1, rfl, k1, b1, hu⟩ := bare_cons hu
        obtain ⟨t2, u2, rfl, k2, b2, hu⟩ := bare_cons hu
        obtain ⟨t3, u3, rfl, k3, b3, hu⟩ := bare_cons hu
        obtain ⟨t4, u4, rfl, k4, b4, hu⟩ := bare_cons hu
        rw [bare_nil hu] at hs
        have hs : s.l = t1 :: t2 :: t3 :: t4 :: rest := hs
        have hi : ((callsL.idxOf t1.b : Nat) : Int) = 3 := by rw [b1]; decide
        rw [valT_none hs (by omega) (by omega) (by omega) (fun _ => by rw [b1]; decide), if_neg (by simp), isT_head hs, if_neg (by simp; omega)]
        rw [amongT_yes hs k1 callsL 0 (by rw [b1]; decide), Nat.zero_add, if_neg (by dsimp only; omega)]
        dsimp only
        rw [hi]
        unfold callT
        dsimp only
        rw [needT_yes (s := ⟨t2 :: t3 :: t4 :: rest, s.deep, s.wrong⟩) rfl k2 b2]
        dsimp only
        rw [if_pos rfl, nameT_yes (s := ⟨t3 :: t4 :: rest, s.deep, s.wrong⟩) rfl k3 (by rw [b3]; exact hx)]
        dsimp only
        rw [needT_yes (s := ⟨t4 :: rest, s.deep, s.wrong⟩) rfl k4 b4, b3]
      · rw [if_neg h3] at hu
        by_cases h4 : k = 4 ∨ k = 5 ∨ k = 6
        · rw [if_pos h4] at hu
          rw [rightX_field _ _ (.inr h4)] at hr
          simp only [Bool.and_eq_true, decide_eq_true_eq] at hr
          obtain ⟨⟨rfl, hk⟩, hx, hf⟩ := hr
          obtain rfl := List.eq_nil_of_length_eq_zero hk
          obtain ⟨t1, u1, rfl, k1, b1, hu⟩ := bare_cons hu
          obtain ⟨t2, u2, rfl, k2, b2, hu⟩ := bare_cons hu
          obtain ⟨t3, u3, rfl, k3, b3, hu⟩ := bare_cons hu
          obtain ⟨t4, u4, rfl, k4, b4, hu⟩ := bare_cons hu
          obtain ⟨t5, u5, rfl, k5, b5, hu⟩ := bare_cons hu
          obtain ⟨t6, u6, rfl, k6, b6, hu⟩ := bare_cons hu
          rw [bare_nil hu] at hs
          have hs : s.l = t1 :: t2 :: t3 :: t4 :: t5 :: t6 :: rest := hs
          have hi : ((callsL.idxOf t1.b : Nat) : Int) = k := by rw [b1]; rcases h4 with rfl | rfl | rfl <;> decide
          have hm : t1.b ∈ callsL := by rw [b1]; rcases h4 with rfl | rfl | rfl <;> decide
          have hb : t1.b ≠ bFalse ∧ t1.b ≠ bTrue := by rw [b1]; rcases h4 with rfl | rfl | rfl <;> decide
          rw [valT_none hs (by omega) (by omega) (by omega) (fun _ => hb), if_neg (by simp), isT_head hs, if_neg (by simp; omega)]
          rw [amongT_yes hs k1 callsL 0 hm, Nat.zero_add, if_neg (by dsimp only; omega)]
          dsimp only
          rw [hi]
          unfold callT
          dsimp only
          rw [needT_yes (s := ⟨t2 :: t3 :: t4 :: t5 :: t6 :: rest, s.deep, s.wrong⟩) rfl k2 b2]
          dsimp only
          rw [if_neg h3, fieldT_yes (s := ⟨t3 :: t4 :: t5 :: t6 :: rest, s.deep, s.wrong⟩) rfl k3 (by rw [b3]; exact hx) k4 b4 k5 (by rw [b5]; exact hf)]
          dsimp only
          rw [needT_yes (s := ⟨t6 :: rest, s.deep, s.wrong⟩) rfl k6 b6, b3, b5]
        · rw [rightX_none d k h1 h3 (by omega) h7] at hr
          cases hr
theorem sumsT_stop {tm : RS → PEx × RS} {n : Nat} {x : PEx} {s : RS} {t : XTok} {r : List XTok} (h : s.l = t :: r) (hn : t.k ≠ 4 ∨ t.b ∉ sumsL) : sumsT E tm n x s = (x, s) := by
  cases n with
  | zero => rfl
  | succ n => rw [sumsT, amongT_no h hn, if_pos rfl]
theorem tokX_ne {d : Nat} {x : PEx} (hr : rightX d x = true) : tokX d x ≠ [] := by
  cases d with
  | zero =>
    cases x
    rw [rightX] at hr
    cases hr
  | succ d =>
    obtain ⟨k, v, x, f, ks⟩ := x
    rw [tokX_s]
    by_cases h1 : k = 1
    · rw [if_pos h1]
      unfold tokPV
      split
      · simp
      · split
        · simp
        · split <;> simp
    · rw [if_neg h1]
      by_cases h2 : k = 2
      · rw [if_pos h2]
        simp
      · rw [if_neg h2]
        by_cases h3 : k = 3
        · rw [if_pos h3]
          simp
        · rw [if_neg h3]
          by_cases h4 : k = 4 ∨ k = 5 ∨ k = 6
          · rw [if_pos h4]
            simp
          · rw [if_neg h4]
            by_cases h7 : k = 7 ∨ k = 8
            · rw [rightX_two d k h7, Bool.and_eq_true] at hr
              by_cases hl : ks.length = 2
              · obtain ⟨a, b, rfl⟩ := two_of hl
                simp
              · rw [twoB_no hl] at hr
                cases hr.2
            · rw [rightX_none d k h1 h3 (by omega) h7] at hr
              cases hr
/-- An expression is read of its own tokens: what stands behind them is what may be added to it. -/
theorem expr_of : ∀ (d : Nat) (x : PEx) (n : Nat) (s : RS) (us rest : List XTok), rightX d x = true → s.l = us ++ rest → us.map bare = tokX d x → s.l.length ≤ n → s.deep + d ≤ 6 → exprT E (termT E n) n s = sumsT E (termT E n) n x ⟨rest, s.deep, s.wrong⟩
  | 0, x, n, s, us, rest, hr, _, _, _, _ => by
    cases x
    rw [rightX] at hr
    cases hr
  | d + 1, x, n, s, us, rest, hr, hs, hu, hn, hd => by
    have hne := tokX_ne hr
    have hlen : 0 < us.length := by
      rw [← hu] at hne
      cases us with
      | nil => exact absurd rfl hne
      | cons t r => simp
    have hsl : s.l.length = us.length + rest.length := by rw [hs, List.length_append]
    obtain ⟨m, rfl⟩ : ∃ m, n = m + 1 := ⟨n - 1, by omega⟩
    by_cases h7 : x.k = 7 ∨ x.k = 8
    · obtain ⟨k, v, x, f, ks⟩ := x
      have h7 : k = 7 ∨ k = 8 := h7
      rw [rightX_two d k h7] at hr
      simp only [Bool.and_eq_true, decide_eq_true_eq] at hr
      obtain ⟨⟨rfl, rfl, rfl⟩, hr⟩ := hr
      by_cases hl : ks.length = 2
      · obtain ⟨a, b, rfl⟩ := two_of hl
        have h8 : rightX d a = true ∧ rightX d b = true := by
          unfold twoB at hr
          simpa using hr
        rw [tokX_s, if_neg (by omega), if_neg (by omega), if_neg (by omega), if_neg (by omega)] at hu
        dsimp only at hu
        obtain ⟨ua, uz, rfl, hua, huz⟩ := bare_app hu
        obtain ⟨t, ub, rfl, tk, tb, hub⟩ := bare_cons huz
        have hs1 : s.l = ua ++ (t :: (ub ++ rest)) := by rw [hs]; simp
        have hl1 : s.l.length = ua.length + (1 + (ub.length + rest.length)) := by rw [hs1]; simp; omega
        rw [expr_of d a (m + 1) s ua (t :: (ub ++ rest)) h8.1 hs1 hua hn (by omega)]
        have hi : ((sumsL.idxOf t.b : Nat) : Int) = k := by rw [tb]; rcases h7 with rfl | rfl <;> decide
        have hm : t.b ∈ sumsL := by rw [tb]; rcases h7 with rfl | rfl <;> decide
        rw [sumsT, amongT_yes (s := ⟨t :: (ub ++ rest), s.deep, s.wrong⟩) rfl tk sumsL 0 hm, Nat.zero_add, if_neg (by dsimp only; omega)]
        dsimp only
        rw [hi]
        have hT : termT E (m + 1) ⟨ub ++ rest, s.deep, s.wrong⟩ = (b, ⟨rest, s.deep, s.wrong⟩) := by
          by_cases hb7 : b.k = 7 ∨ b.k = 8
          · rw [if_pos hb7] at hub
            obtain ⟨t2, u2, rfl, k2, b2, hub⟩ := bare_cons hub
            obtain ⟨u3, u4, rfl, hu3, hu4⟩ := bare_app hub
            obtain ⟨t5, u5, rfl, k5, b5, hu5⟩ := bare_cons hu4
            obtain rfl := bare_nil hu5
            have hl2 : (t2 :: (u3 ++ [t5])).length = u3.length + 2 := by simp
            have hs2 : (⟨(t2 :: (u3 ++ [t5])) ++ rest, s.deep, s.wrong⟩ : RS).l = t2 :: (u3 ++ (t5 :: rest)) := by simp
            rw [termT, valT_none hs2 (by omega) (by omega) (fun _ => by rw [b2]; decide) (by omega), if_neg (by simp), isT_head hs2, if_pos (by simp [k2, b2])]
            unfold innerT
            dsimp only
            rw [if_neg (by omega), needT_yes hs2 k2 b2]
            dsimp only
            rw [expr_of d b m ⟨u3 ++ (t5 :: rest), s.deep + 1, s.wrong⟩ u3 (t5 :: rest) h8.2 rfl hu3 (by simp; omega) (by dsimp only; omega)]
            rw [sumsT_stop (s := ⟨t5 :: rest, s.deep + 1, s.wrong⟩) rfl (.inr (by rw [b5]; decide))]
            dsimp only
            rw [Nat.add_sub_cancel, needT_yes (s := ⟨t5 :: rest, s.deep, s.wrong⟩) rfl k5 b5]
          · rw [if_neg hb7] at hub
            cases d with
            | zero =>
              cases b
              have := h8.2
              rw [rightX] at this
              cases this
            | succ d => exact term_of h8.2 hb7 rfl hub
        rw [hT]
        exact sumsT_fuel (fun s => termT_le _ s) m (m + 1) _ _ (by dsimp only; omega) (by dsimp only; omega)
      · rw [twoB_no hl] at hr
        cases hr
    · unfold exprT
      rw [term_of hr h7 hs hu]
end
end Go.Proofs.YtndmbljpfpnehaaGreatDoor
namespace Go.Proofs.YtndmbljpfpnehaaGreatDoor
open Go.Lib

def rowTok {α : Type} (b : List UInt8) (tok : α → List (Nat × List UInt8)) (l : List α) : List (Nat × List UInt8) := l.flatMap fun x => (1, b) :: tok x
/-- A word is next. -/
def WordNext (r : List XTok) : Prop := ∃ t r', r = t :: r' ∧ t.k = 1
section
variable {E n : Nat}
theorem RS.eta' (s : RS) {r : List XTok} (h : s.l = r) : s = ⟨r, s.deep, s.wrong⟩ := by
  cases s
  cases h
  rfl
theorem takeT_skip {s : RS} {t : XTok} {r : List XTok} (h : s.l = t :: r) {k : Nat} {b : List UInt8} (hn : t.k ≠ k ∨ t.b ≠ b) : isT E s k b = false := by
  rw [isT_head h]
  simp
  rcases hn with h | h
  · exact fun e => absurd e h
  · exact fun _ => h
theorem rowT_of {α : Type} {b : List UInt8} {one : RS → α × RS} {tok : α → List (Nat × List UInt8)} {P : α → Prop}
    (hone : ∀ x, P x → ∀ (s : RS) (us rest : List XTok), s.l = us ++ rest → us.map bare = tok x → WordNext rest → s.l.length ≤ n → s.deep = 0 → one s = (x, ⟨rest, s.deep, s.wrong⟩)) :
    ∀ (xs : List α) (m : Nat) (l : List α) (s : RS) (us : List XTok) (t : XTok) (r : List XTok), (∀ x ∈ xs, P x) → s.l = us ++ (t :: r) → us.map bare = rowTok b tok xs → t.k = 1 → t.b ≠ b → s.l.length ≤ n → s.l.length ≤ m → s.deep = 0 → rowT E b one m l s = (l ++ xs, ⟨t :: r, s.deep, s.wrong⟩)
  | [], m, l, s, us, t, r, _, hs, hu, hk, hb, _, _, _ => by
    have hu : us.map bare = [] := hu
    rw [bare_nil hu] at hs
    have hs : s.l = t :: r := hs
    rw [List.append_nil, ← RS.eta' s hs]
    cases m with
    | zero => rfl
    | succ m =>
      rw [rowT, takeT_skip hs (.inr hb)]
      rfl
  | x :: xs, m, l, s, us, t, r, hP, hs, hu, hk, hb, hn, hm, hd => by
    have hu : us.map bare = (1, b) :: (tok x ++ rowTok b tok xs) := hu
    obtain ⟨t0, u0, rfl, k0, b0, hu⟩ := bare_cons hu
    obtain ⟨ux, ur, rfl, hux, hur⟩ := bare_app hu
    have hs : s.l = t0 :: (ux ++ (ur ++ (t :: r))) := by rw [hs]; simp
    have hl : s.l.length = 1 + (ux.length + (ur.length + (1 + r.length))) := by rw [hs]; simp; omega
    have hw : WordNext (ur ++ (t :: r)) := by
      cases xs with
      | nil =>
        have hur : ur.map bare = [] := hur
        rw [bare_nil hur]
        exact ⟨t, r, rfl, hk⟩
      | cons y ys =>
        have hur : ur.map bare = (1, b) :: (tok y ++ rowTok b tok ys) := hur
        obtain ⟨t1, u1, rfl, k1, _, _⟩ := bare_cons hur
        exact ⟨t1, _, rfl, k1⟩
    obtain ⟨m, rfl⟩ : ∃ k, m = k + 1 := ⟨m - 1, by omega⟩
    rw [rowT, isT_head hs, if_pos (by simp [k0, b0]), takeT_yes hs k0 b0]
    dsimp only
    have h1 := hone x (hP x List.mem_cons_self) ⟨ux ++ (ur ++ (t :: r)), s.deep, s.wrong⟩ ux (ur ++ (t :: r)) rfl hux hw (by simp; omega) hd
    rw [h1]
    dsimp only
    have h2 := rowT_of hone xs m (l ++ [x]) ⟨ur ++ (t :: r), s.deep, s.wrong⟩ ur t r (fun y hy => hP y (List.mem_cons_of_mem _ hy)) rfl hur hk hb (by simp; omega) (by simp; omega) hd
    rw [h2, List.append_assoc]
    rfl
theorem row1T_of {α : Type} {b : List UInt8} {one : RS → α × RS} {tok : α → List (Nat × List UInt8)} {P : α → Prop}
    (hone : ∀ x, P x → ∀ (s : RS) (us rest : List XTok), s.l = us ++ rest → us.map bare = tok x → WordNext rest → s.l.length ≤ n → s.deep = 0 → one s = (x, ⟨rest, s.deep, s.wrong⟩))
    (x : α) (xs : List α) (s : RS) (us : List XTok) (t : XTok) (r : List XTok) (hx : P x) (hP : ∀ x ∈ xs, P x) (hs : s.l = us ++ (t :: r)) (hu : us.map bare = tok x ++ rowTok b tok xs) (hk : t.k = 1) (hb : t.b ≠ b) (hn : s.l.length ≤ n) (hd : s.deep = 0) : row1T E b one n s = (x :: xs, ⟨t :: r, s.deep, s.wrong⟩) := by
  obtain ⟨ux, ur, rfl, hux, hur⟩ := bare_app hu
  have hs : s.l = ux ++ (ur ++ (t :: r)) := by rw [hs]; simp
  have hl : s.l.length = ux.length + (ur.length + (1 + r.length)) := by rw [hs]; simp; omega
  have hw : WordNext (ur ++ (t :: r)) := by
    cases xs with
    | nil =>
      have hur : ur.map bare = [] := hur
      rw [bare_nil hur]
      exact ⟨t, r, rfl, hk⟩
    | cons y ys =>
      have hur : ur.map bare = (1, b) :: (tok y ++ rowTok b tok ys) := hur
      obtain ⟨t1, u1, rfl, k1, _, _⟩ := bare_cons hur
      exact ⟨t1, _, rfl, k1⟩
  unfold row1T
  rw [hone x hx s ux _ hs hux hw hn hd]
  dsimp only
  exact rowT_of hone xs n [x] ⟨ur ++ (t :: r), s.deep, s.wrong⟩ ur t r hP rfl hur hk hb (by simp; omega) (by simp; omega) hd

def tokMode (m : Int) : List (Nat × List UInt8) := if m = 1 then [] else [(4, atL modesL m)]
def tokNs : List (List UInt8) → List (Nat × List UInt8)
  | [] => []
  | x :: xs => [(1, x)] ++ rowTok wOr (fun y => [(1, y)]) xs
def tokI (i : PIt) : List (Nat × List UInt8) := (if i.no then [(1, wNot)] else []) ++ (tokNs i.ns ++ ((1, i.x) :: tokMode i.mode))
theorem name_one : ∀ x : List UInt8, nameB x = true → ∀ (s : RS) (us rest : List XTok), s.l = us ++ rest → us.map bare = [(1, x)] → WordNext rest → s.l.length ≤ n → s.deep = 0 → nameT E s = (x, ⟨rest, s.deep, s.wrong⟩) := fun x hx s us rest hs hu _ _ _ => by
  obtain ⟨t, r, rfl, k, b, hu⟩ := bare_cons hu
  rw [bare_nil hu] at hs
  have hs : s.l = t :: rest := hs
  rw [nameT_yes hs k (by rw [b]; exact hx), b]
theorem name_notw {b w : List UInt8} (h : nameB b = true) (hw : w ∈ keysL) : b ≠ w := fun e => name_key h (e ▸ hw)
theorem item_of (i : PIt) (h : rightI i = true ∧ nameB i.x = true) (s : RS) (us rest : List XTok) (hs : s.l = us ++ rest) (hu : us.map bare = tokI i) (hw : WordNext rest) (hn : s.l.length ≤ n) (hd : s.deep = 0) : itemT E n s = (i, ⟨rest, s.deep, s.wrong⟩) := by
  obtain ⟨no, ns, x, mode⟩ := i
  obtain ⟨hr, hx⟩ := h
  have hx : nameB x = true := hx
  unfold rightI at hr
  dsimp only at hr
  split at hr
  · cases hr
  · rename_i hm
    simp only [Bool.and_eq_true, decide_eq_true_eq] at hr
    obtain ⟨⟨hn0, hn3⟩, hun⟩ := hr
    unfold unlikeB at hun
    simp only [Bool.and_eq_true, List.all_eq_true] at hun
    have hns := hun.1
    have hm : ¬ (mode < 1 ∨ 3 < mode ∨ (no = true ∧ mode ≠ 1)) := hm
    obtain ⟨y, ys, rfl⟩ : ∃ y ys, ns = y :: ys := by
      cases ns with
      | nil => simp at hn0
      | cons y ys => exact ⟨y, ys, rfl⟩
    have hu : us.map bare = (if no then [(1, wNot)] else []) ++ (([(1, y)] ++ rowTok wOr (fun y => [(1, y)]) ys) ++ ((1, x) :: tokMode mode)) := hu
    obtain ⟨u1, u2, rfl, hu1, hu2⟩ := bare_app hu
    obtain ⟨u3, u4, rfl, hu3, hu4⟩ := bare_app hu2
    obtain ⟨tx, u5, rfl, kx, bx, hu5⟩ := bare_cons hu4
    have hy := hns y List.mem_cons_self
    have hl : s.l.length = u1.length + (u3.length + (1 + (u5.length + rest.length))) := by rw [hs]; simp; omega
    have h1 : takeT E s 1 wNot = (no, ⟨u3 ++ (tx :: (u5 ++ rest)), s.deep, s.wrong⟩) := by
      cases no with
      | true =>
        have hu1 : u1.map bare = [(1, wNot)] := hu1
        obtain ⟨t0, u0, rfl, k0, b0, hu0⟩ := bare_cons hu1
        rw [bare_nil hu0] at hs
        rw [takeT_yes (r := u3 ++ (tx :: (u5 ++ rest))) (by rw [hs]; simp) k0 b0]
      | false =>
        have hu1 : u1.map bare = [] := hu1
        rw [bare_nil hu1] at hs
        obtain ⟨ty, uy, hyy, ky, by_, _⟩ := bare_cons (k := 1) (b := y) hu3
        have hs2 : s.l = u3 ++ (tx :: (u5 ++ rest)) := by rw [hs]; simp
        rw [takeT_not (t := ty) (r := uy ++ (tx :: (u5 ++ rest))) (by rw [hs2, hyy]; rfl) (.inr (by rw [by_]; exact name_notw hy (by decide))), ← RS.eta' s hs2]
    have h2 : row1T E wOr (nameT E) n ⟨u3 ++ (tx :: (u5 ++ rest)), s.deep, s.wrong⟩ = (y :: ys, ⟨tx :: (u5 ++ rest), s.deep, s.wrong⟩) :=
      row1T_of (P := fun x => nameB x = true) (tok := fun y => [(1, y)]) (n := n) name_one y ys ⟨u3 ++ (tx :: (u5 ++ rest)), s.deep, s.wrong⟩ u3 tx (u5 ++ rest) hy (fun z hz => hns z (List.mem_cons_of_mem _ hz)) rfl hu3 kx (by rw [bx]; exact name_notw hx (by decide)) (by simp; omega) hd
    have h3 : nameT E ⟨tx :: (u5 ++ rest), s.deep, s.wrong⟩ = (x, ⟨u5 ++ rest, s.deep, s.wrong⟩) := by
      rw [nameT_yes (s := ⟨tx :: (u5 ++ rest), s.deep, s.wrong⟩) rfl kx (by rw [bx]; exact hx), bx]
    unfold itemT
    dsimp only
    rw [h1]
    dsimp only
    rw [h2]
    dsimp only
    rw [h3]
    dsimp only
    unfold tokMode at hu5
    by_cases hm1 : mode = 1
    · subst hm1
      rw [if_pos rfl] at hu5
      rw [bare_nil hu5]
      obtain ⟨tw, rw_, rfl, kw⟩ := hw
      rw [amongT_no (s := ⟨[] ++ tw :: rw_, s.deep, s.wrong⟩) rfl (.inl (by omega)), if_pos rfl]
      rfl
    · rw [if_neg hm1] at hu5
      obtain ⟨tm, um, rfl, km, bm, hum⟩ := bare_cons hu5
      rw [bare_nil hum]
      have hm23 : mode = 2 ∨ mode = 3 := by omega
      have hi : ((modesL.idxOf tm.b : Nat) : Int) = mode := by rw [bm]; rcases hm23 with rfl | rfl <;> decide
      have hmm : tm.b ∈ modesL := by rw [bm]; rcases hm23 with rfl | rfl <;> decide
      rw [amongT_yes (s := ⟨[tm] ++ rest, s.deep, s.wrong⟩) (r := rest) rfl km modesL 0 hmm, Nat.zero_add]
      dsimp only
      rw [if_neg (by omega), hi]

def tokP (p : PPr) : List (Nat × List UInt8) := tokX 6 p.l ++ (4, atL cmpsL p.cmp) :: tokX 6 p.r
theorem pred_of (p : PPr) (h : rightP p = true) (s : RS) (us rest : List XTok) (hs : s.l = us ++ rest) (hu : us.map bare = tokP p) (hw : WordNext rest) (hn : s.l.length ≤ n) (hd : s.deep = 0) : predT E n s = (p, ⟨rest, s.deep, s.wrong⟩) := by
  obtain ⟨a, c, b⟩ := p
  unfold rightP at h
  simp only [Bool.and_eq_true, decide_eq_true_eq] at h
  obtain ⟨hc, ha, hb⟩ := h
  obtain ⟨ua, u2, rfl, hua, hu2⟩ := bare_app hu
  obtain ⟨tc, ub, rfl, kc, bc, hub⟩ := bare_cons hu2
  have bc : tc.b = atL cmpsL c := bc
  have hs : s.l = ua ++ (tc :: (ub ++ rest)) := by rw [hs]; simp
  have hl : s.l.length = ua.length + (1 + (ub.length + rest.length)) := by rw [hs]; simp; omega
  have hc6 : c = 1 ∨ c = 2 ∨ c = 3 ∨ c = 4 ∨ c = 5 ∨ c = 6 := by omega
  have hi : ((cmpsL.idxOf tc.b : Nat) : Int) = c := by rw [bc]; rcases hc6 with rfl | rfl | rfl | rfl | rfl | rfl <;> decide
  have hm : tc.b ∈ cmpsL := by rw [bc]; rcases hc6 with rfl | rfl | rfl | rfl | rfl | rfl <;> decide
  have hns : tc.b ∉ sumsL := by rw [bc]; rcases hc6 with rfl | rfl | rfl | rfl | rfl | rfl <;> decide
  obtain ⟨tw, rw_, rfl, kw⟩ := hw
  unfold predT
  dsimp only
  rw [expr_of 6 a n s ua (tc :: (ub ++ tw :: rw_)) ha hs hua hn (by omega), sumsT_stop (s := ⟨tc :: (ub ++ tw :: rw_), s.deep, s.wrong⟩) rfl (.inr hns)]
  dsimp only
  have hch : chooseT E ⟨tc :: (ub ++ tw :: rw_), s.deep, s.wrong⟩ 4 cmpsL = (cmpsL.idxOf tc.b, ⟨ub ++ tw :: rw_, s.deep, s.wrong⟩) := by
    unfold chooseT
    rw [amongT_yes (s := ⟨tc :: (ub ++ tw :: rw_), s.deep, s.wrong⟩) rfl kc cmpsL 0 hm, Nat.zero_add, if_neg (by dsimp only; omega)]
  rw [hch]
  dsimp only
  rw [expr_of 6 b n ⟨ub ++ tw :: rw_, s.deep, s.wrong⟩ ub (tw :: rw_) hb rfl hub (by simp at hl ⊢; omega) (by dsimp only; omega), sumsT_stop (s := ⟨tw :: rw_, s.deep, s.wrong⟩) rfl (.inl (by omega)), hi]
end
end Go.Proofs.YtndmbljpfpnehaaGreatDoor
namespace Go.Proofs.YtndmbljpfpnehaaGreatDoor
open Go.Lib

def tokIs : List PIt → List (Nat × List UInt8)
  | [] => []
  | x :: xs => tokI x ++ rowTok wThen tokI xs
def tokPs : List PPr → List (Nat × List UInt8)
  | [] => []
  | x :: xs => (1, wWhere) :: (tokP x ++ rowTok wAnd tokP xs)
def tokBy (b : List UInt8) : List (Nat × List UInt8) := if b = [] then [] else [(1, wBy), (1, b)]
def tokQ (q : PQu) : List (Nat × List UInt8) := (1, wSeq) :: (tokIs q.its ++ (tokPs q.prs ++ ((1, wWithin) :: (2, decDigits q.within.toNat) :: (tokBy q.by_ ++ [(1, wPick), (1, atL picksL q.pick)]))))
theorem rightIs_all {l : List PIt} (h : rightIs l = true) : ∃ y ys, l = y :: ys ∧ ∀ i ∈ y :: ys, rightI i = true ∧ nameB i.x = true := by
  unfold rightIs at h
  cases l with
  | nil => cases h
  | cons y ys =>
    simp only [Bool.and_eq_true, List.all_eq_true] at h
    have h3 := h.2.2
    unfold unlikeB at h3
    simp only [Bool.and_eq_true, List.all_eq_true] at h3
    exact ⟨y, ys, rfl, fun i hi => ⟨h.2.1 i hi, h3.1 _ (List.mem_map.2 ⟨i, hi, rfl⟩)⟩⟩
section
variable {E n : Nat}
theorem query_of (q : PQu) (h : rightQ q = true) (us : List XTok) (hu : us.map bare = tokQ q) (hn : us.length ≤ n) : queryT E n ⟨us, 0, -1⟩ = (q, ⟨[], 0, -1⟩) := by
  obtain ⟨h1, h2, h3, h4, h5, h6⟩ := rightQ_parts h
  obtain ⟨its, prs, wi, by_, pick⟩ := q
  dsimp only at h1 h2 h3 h4 h5 h6
  obtain ⟨y, ys, rfl, hits⟩ := rightIs_all h1
  have hu : us.map bare = (1, wSeq) :: ((tokI y ++ rowTok wThen tokI ys) ++ (tokPs prs ++ ((1, wWithin) :: (2, decDigits wi.toNat) :: (tokBy by_ ++ [(1, wPick), (1, atL picksL pick)])))) := hu
  obtain ⟨t0, u0, rfl, k0, b0, hu⟩ := bare_cons hu
  obtain ⟨ui, u1, rfl, hui, hu⟩ := bare_app hu
  obtain ⟨up, u2, rfl, hup, hu⟩ := bare_app hu
  obtain ⟨tw, u3, rfl, kw, bw, hu⟩ := bare_cons hu
  obtain ⟨tn, u4, rfl, kn, bn, hu⟩ := bare_cons hu
  obtain ⟨ub, u5, rfl, hub, hu⟩ := bare_app hu
  obtain ⟨tp, u6, rfl, kp, bp, hu⟩ := bare_cons hu
  obtain ⟨tk, u7, rfl, kk, bk, hu⟩ := bare_cons hu
  obtain rfl := bare_nil hu
  have hlen : (t0 :: (ui ++ (up ++ tw :: tn :: (ub ++ [tp, tk])))).length = 1 + (ui.length + (up.length + (ub.length + 4))) := by simp; omega
  obtain ⟨t1, r1, hr1, hk1, hb1⟩ : ∃ t r, up ++ tw :: tn :: (ub ++ [tp, tk]) = t :: r ∧ t.k = 1 ∧ t.b ≠ wThen := by
    cases prs with
    | nil =>
      have hup : up.map bare = [] := hup
      rw [bare_nil hup]
      exact ⟨tw, _, rfl, kw, by rw [bw]; decide⟩
    | cons p ps =>
      have hup : up.map bare = (1, wWhere) :: _ := hup
      obtain ⟨t, r, rfl, k, b, _⟩ := bare_cons hup
      exact ⟨t, _, rfl, k, by rw [b]; decide⟩
  have hl1 : (t1 :: r1).length = up.length + (ub.length + 4) := by rw [← hr1]; simp
  have e1 : needT E ⟨t0 :: (ui ++ (t1 :: r1)), 0, -1⟩ 1 wSeq = ⟨ui ++ (t1 :: r1), 0, -1⟩ := needT_yes (s := ⟨t0 :: (ui ++ (t1 :: r1)), 0, -1⟩) rfl k0 b0
  have e2 : row1T E wThen (itemT E n) n ⟨ui ++ (t1 :: r1), 0, -1⟩ = (y :: ys, ⟨t1 :: r1, 0, -1⟩) :=
    row1T_of (P := fun i => rightI i = true ∧ nameB i.x = true) (tok := tokI) (n := n) item_of y ys ⟨ui ++ (t1 :: r1), 0, -1⟩ ui t1 r1 (hits y List.mem_cons_self) (fun i hi => hits i (List.mem_cons_of_mem _ hi)) rfl hui hk1 hb1 (by rw [List.length_append, hl1]; omega) rfl
  have e3 : (if isT E ⟨t1 :: r1, 0, -1⟩ 1 wWhere then row1T E wAnd (predT E n) n (takeT E ⟨t1 :: r1, 0, -1⟩ 1 wWhere).2 else ([], ⟨t1 :: r1, 0, -1⟩)) = (prs, ⟨tw :: tn :: (ub ++ [tp, tk]), 0, -1⟩) := by
    cases prs with
    | nil =>
      have hup : up.map bare = [] := hup
      rw [bare_nil hup] at hr1
      have hr1 : tw :: tn :: (ub ++ [tp, tk]) = t1 :: r1 := hr1
      rw [← hr1, takeT_skip (s := ⟨tw :: tn :: (ub ++ [tp, tk]), 0, -1⟩) rfl (.inr (by rw [bw]; decide))]
      rfl
    | cons p ps =>
      have hup : up.map bare = (1, wWhere) :: (tokP p ++ rowTok wAnd tokP ps) := hup
      obtain ⟨t, r, rfl, k, b, hup⟩ := bare_cons hup
      have hr1 : t :: (r ++ (tw :: tn :: (ub ++ [tp, tk]))) = t1 :: r1 := hr1
      rw [← hr1, isT_head (s := ⟨t :: (r ++ (tw :: tn :: (ub ++ [tp, tk]))), 0, -1⟩) rfl, if_pos (by simp [k, b]), takeT_yes (s := ⟨t :: (r ++ (tw :: tn :: (ub ++ [tp, tk]))), 0, -1⟩) rfl k b]
      rw [List.length_cons] at hlen
      exact row1T_of (P := fun p => rightP p = true) (tok := tokP) (n := n) pred_of p ps ⟨r ++ (tw :: tn :: (ub ++ [tp, tk])), 0, -1⟩ r tw (tn :: (ub ++ [tp, tk])) (h3 p List.mem_cons_self) (fun i hi => h3 i (List.mem_cons_of_mem _ hi)) rfl hup kw (by rw [bw]; decide) (by simp at hn ⊢; omega) rfl
  have e4 : needT E ⟨tw :: tn :: (ub ++ [tp, tk]), 0, -1⟩ 1 wWithin = ⟨tn :: (ub ++ [tp, tk]), 0, -1⟩ := needT_yes (s := ⟨tw :: tn :: (ub ++ [tp, tk]), 0, -1⟩) rfl kw bw
  have e5 : numberT E ⟨tn :: (ub ++ [tp, tk]), 0, -1⟩ = (wi, ⟨ub ++ [tp, tk], 0, -1⟩) := by
    rw [numberT_yes (s := ⟨tn :: (ub ++ [tp, tk]), 0, -1⟩) rfl kn, bn, numZ_dec (by omega)]
    congr 1
    omega
  have e6 : (if isT E ⟨ub ++ [tp, tk], 0, -1⟩ 1 wBy then nameT E (takeT E ⟨ub ++ [tp, tk], 0, -1⟩ 1 wBy).2 else ([], ⟨ub ++ [tp, tk], 0, -1⟩)) = (by_, ⟨[tp, tk], 0, -1⟩) := by
    unfold tokBy at hub
    by_cases hb : by_ = []
    · rw [if_pos hb] at hub
      rw [bare_nil hub, hb]
      rw [takeT_skip (s := ⟨[] ++ [tp, tk], 0, -1⟩) (t := tp) (r := [tk]) rfl (.inr (by rw [bp]; decide))]
      rfl
    · rw [if_neg hb] at hub
      have hnb : nameB by_ = true := by
        rcases h5 with h5 | h5
        · exact absurd h5 hb
        · exact h5
      obtain ⟨t, r, rfl, k, b, hub⟩ := bare_cons hub
      obtain ⟨t', r', rfl, k', b', hub⟩ := bare_cons hub
      rw [bare_nil hub]
      rw [isT_head (s := ⟨[t, t'] ++ [tp, tk], 0, -1⟩) (t := t) (r := [t', tp, tk]) rfl, if_pos (by simp [k, b]), takeT_yes (s := ⟨[t, t'] ++ [tp, tk], 0, -1⟩) (t := t) (r := [t', tp, tk]) rfl k b]
      rw [nameT_yes (s := ⟨[t', tp, tk], 0, -1⟩) rfl k' (by rw [b']; exact hnb), b']
  have hpk : pick = 1 ∨ pick = 2 ∨ pick = 3 := by omega
  have hi : ((picksL.idxOf tk.b : Nat) : Int) = pick := by rw [bk]; rcases hpk with rfl | rfl | rfl <;> decide
  have hm : tk.b ∈ picksL := by rw [bk]; rcases hpk with rfl | rfl | rfl <;> decide
  have e7 : (if isT E ⟨[tp, tk], 0, -1⟩ 1 wPick then chooseT E (takeT E ⟨[tp, tk], 0, -1⟩ 1 wPick).2 1 picksL else (1, ⟨[tp, tk], 0, -1⟩)) = (picksL.idxOf tk.b, ⟨[], 0, -1⟩) := by
    rw [isT_head (s := ⟨[tp, tk], 0, -1⟩) rfl, if_pos (by simp [kp, bp]), takeT_yes (s := ⟨[tp, tk], 0, -1⟩) rfl kp bp]
    unfold chooseT
    rw [amongT_yes (s := ⟨[tk], 0, -1⟩) rfl kk picksL 0 hm, Nat.zero_add, if_neg (by dsimp only; omega)]
  rw [hr1]
  unfold queryT
  dsimp only
  rw [e1, e2]
  dsimp only
  rw [e3]
  dsimp only
  rw [e4, e5]
  dsimp only
  rw [e6]
  dsimp only
  rw [e7]
  dsimp only
  rw [if_pos rfl, hi]
end
end Go.Proofs.YtndmbljpfpnehaaGreatDoor
namespace Go.Proofs.YtndmbljpfpnehaaGreatDoor
open Go.Lib

theorem inter_cons (s x : List UInt8) : ∀ xs : List (List UInt8), s.intercalate (x :: xs) = x ++ xs.flatMap fun y => s ++ y
  | [] => by simp [List.intercalate]
  | y :: ys => by
    have ih := inter_cons s y ys
    unfold List.intercalate at ih ⊢
    rw [List.flatMap_cons, List.append_assoc, ← ih]
    simp [List.intersperse]
theorem EndsOk.sp (r : List UInt8) : EndsOk (32 :: r) := fun x hx => .inl (by simpa using hx.symm)
theorem EndsOk.none : EndsOk [] := fun x hx => by cases hx
theorem lx_rowW {α : Type} {w : List UInt8} (hw : (∃ c t, w = c :: t ∧ xletter c = true) ∧ (∀ c ∈ w, xin c = true) ∧ w.length ≤ 16) {tx : α → List UInt8} {tok : α → List (Nat × List UInt8)} {P : α → Prop}
    (hone : ∀ x, P x → ∀ r ts, EndsOk r → Lx r ts → Lx (tx x ++ r) (tok x ++ ts)) : ∀ (xs : List α) (r : List UInt8) (ts : List (Nat × List UInt8)), (∀ x ∈ xs, P x) → EndsOk r → Lx r ts → EndsOk ((xs.flatMap fun y => 32 :: (w ++ 32 :: tx y)) ++ r) ∧ Lx ((xs.flatMap fun y => 32 :: (w ++ 32 :: tx y)) ++ r) (rowTok w tok xs ++ ts)
  | [], r, ts, _, he, h => ⟨he, h⟩
  | x :: xs, r, ts, hP, he, h => by
    obtain ⟨h1, h2⟩ := lx_rowW hw hone xs r ts (fun y hy => hP y (List.mem_cons_of_mem _ hy)) he h
    have h3 := hone x (hP x List.mem_cons_self) _ _ h1 h2
    have e : ((x :: xs).flatMap fun y => 32 :: (w ++ 32 :: tx y)) ++ r = 32 :: (w ++ 32 :: (tx x ++ ((xs.flatMap fun y => 32 :: (w ++ 32 :: tx y)) ++ r))) := by simp
    have e2 : rowTok w tok (x :: xs) ++ ts = (1, w) :: (tok x ++ (rowTok w tok xs ++ ts)) := by simp [rowTok]
    rw [e, e2]
    exact ⟨EndsOk.sp _, Lx.blank (Lx.word hw.1 hw.2.1 hw.2.2 (notin (by decide)) (Lx.blank h3))⟩
theorem lx_item (i : PIt) (h : rightI i = true ∧ nameB i.x = true) (r : List UInt8) (ts : List (Nat × List UInt8)) (he : EndsOk r) (hl : Lx r ts) : Lx (itemTx i ++ r) (tokI i ++ ts) := by
  obtain ⟨no, ns, x, mode⟩ := i
  obtain ⟨hr, hx⟩ := h
  have hx : nameB x = true := hx
  unfold rightI at hr
  dsimp only at hr
  split at hr
  · cases hr
  · rename_i hm
    simp only [Bool.and_eq_true, decide_eq_true_eq] at hr
    obtain ⟨⟨hn0, hn3⟩, hun⟩ := hr
    unfold unlikeB at hun
    simp only [Bool.and_eq_true, List.all_eq_true] at hun
    have hns := hun.1
    have hm : ¬ (mode < 1 ∨ 3 < mode ∨ (no = true ∧ mode ≠ 1)) := hm
    obtain ⟨y, ys, rfl⟩ : ∃ y ys, ns = y :: ys := by
      cases ns with
      | nil => simp at hn0
      | cons y ys => exact ⟨y, ys, rfl⟩
    have hmode : Lx (atL modesL mode ++ r) (tokMode mode ++ ts) ∧ ∀ z, (atL modesL mode ++ r)[0]? = some z → xin z = false := by
      have h123 : mode = 1 ∨ mode = 2 ∨ mode = 3 := by omega
      rcases h123 with rfl | rfl | rfl
      · exact ⟨hl, he.xin⟩
      · exact ⟨Lx.sign (c := 43) (by decide) he.eq hl, notin (c := 43) (by decide)⟩
      · exact ⟨Lx.sign (c := 63) (by decide) he.eq hl, notin (c := 63) (by decide)⟩
    have h1 : Lx (32 :: (x ++ (atL modesL mode ++ r))) ((1, x) :: (tokMode mode ++ ts)) := Lx.blank (lx_name hx hmode.2 hmode.1)
    have h2 := lx_rowW (w := wOr) (tx := fun y => y) (tok := fun y => [(1, y)]) (P := fun y => nameB y = true) ⟨⟨_, _, rfl, by decide⟩, by decide, by decide⟩ (fun y hy r ts he h => lx_name hy he.xin h) ys _ _ (fun z hz => hns z (List.mem_cons_of_mem _ hz)) (EndsOk.sp _) h1
    have h3 := lx_name (hns y List.mem_cons_self) h2.1.xin h2.2
    have e1 : itemTx ⟨no, y :: ys, x, mode⟩ ++ r = (if no then [110, 111, 116, 32] else []) ++ (y ++ ((ys.flatMap fun y => 32 :: (wOr ++ 32 :: y)) ++ (32 :: (x ++ (atL modesL mode ++ r))))) := by
      unfold itemTx
      dsimp only
      rw [inter_cons]
      simp [wOr]
    have e2 : tokI ⟨no, y :: ys, x, mode⟩ ++ ts = (if no then [(1, wNot)] else []) ++ ((1, y) :: (rowTok wOr (fun y => [(1, y)]) ys ++ ((1, x) :: (tokMode mode ++ ts)))) := by
      unfold tokI tokNs
      simp
    rw [e1, e2]
    cases no with
    | false => exact h3
    | true => exact Lx.word (b := wNot) ⟨_, _, rfl, by decide⟩ (by decide) (by decide) (notin (by decide)) (Lx.blank h3)
theorem lx_pred (p : PPr) (h : rightP p = true) (r : List UInt8) (ts : List (Nat × List UInt8)) (he : EndsOk r) (hl : Lx r ts) : Lx (predTx p ++ r) (tokP p ++ ts) := by
  obtain ⟨a, c, b⟩ := p
  unfold rightP at h
  simp only [Bool.and_eq_true, decide_eq_true_eq] at h
  obtain ⟨hc, ha, hb⟩ := h
  have h1 := Lx.blank (lx_expr 6 b r ts hb he hl)
  have h2 : Lx (atL cmpsL c ++ 32 :: (exprTx 6 b ++ r)) ((4, atL cmpsL c) :: (tokX 6 b ++ ts)) := by
    have hc6 : c = 1 ∨ c = 2 ∨ c = 3 ∨ c = 4 ∨ c = 5 ∨ c = 6 := by omega
    rcases hc6 with rfl | rfl | rfl | rfl | rfl | rfl
    · exact Lx.sign (c := 61) (by decide) (not61 (by decide)) h1
    · exact Lx.two (c := 33) (by decide) h1
    · exact Lx.sign (c := 60) (by decide) (not61 (by decide)) h1
    · exact Lx.two (c := 60) (by decide) h1
    · exact Lx.sign (c := 62) (by decide) (not61 (by decide)) h1
    · exact Lx.two (c := 62) (by decide) h1
  have h3 := lx_expr 6 a _ _ ha (EndsOk.sp _) (Lx.blank h2)
  have e1 : predTx ⟨a, c, b⟩ ++ r = exprTx 6 a ++ 32 :: (atL cmpsL c ++ 32 :: (exprTx 6 b ++ r)) := by
    unfold predTx
    simp
  have e2 : tokP ⟨a, c, b⟩ ++ ts = tokX 6 a ++ ((4, atL cmpsL c) :: (tokX 6 b ++ ts)) := by
    unfold tokP
    simp
  rw [e1, e2]
  exact h3
/-- What is printed of a query has its tokens. -/
theorem lx_query (q : PQu) (h : rightQ q = true) : Lx (printQ q) (tokQ q) := by
  obtain ⟨h1, h2, h3, h4, h5, h6⟩ := rightQ_parts h
  unfold printQ
  rw [if_pos h]
  obtain ⟨its, prs, wi, by_, pick⟩ := q
  dsimp only at h1 h2 h3 h4 h5 h6 ⊢
  obtain ⟨y, ys, rfl, hits⟩ := rightIs_all h1
  have hpk : pick = 1 ∨ pick = 2 ∨ pick = 3 := by omega
  have a1 : Lx (atL picksL pick) [(1, atL picksL pick)] := by
    have := Lx.word (b := atL picksL pick) (r := []) (by rcases hpk with rfl | rfl | rfl <;> exact ⟨_, _, rfl, by decide⟩) (by rcases hpk with rfl | rfl | rfl <;> decide) (by rcases hpk with rfl | rfl | rfl <;> decide) EndsOk.none.xin Lx.nil
    rwa [List.append_nil] at this
  have a2 : Lx ([32, 112, 105, 99, 107, 32] ++ atL picksL pick) ((1, wPick) :: [(1, atL picksL pick)]) := Lx.blank (Lx.word (b := wPick) ⟨_, _, rfl, by decide⟩ (by decide) (by decide) (notin (by decide)) (Lx.blank a1))
  have a3 : EndsOk ((if by_ = [] then [] else [32, 98, 121, 32] ++ by_) ++ ([32, 112, 105, 99, 107, 32] ++ atL picksL pick)) ∧ Lx ((if by_ = [] then [] else [32, 98, 121, 32] ++ by_) ++ ([32, 112, 105, 99, 107, 32] ++ atL picksL pick)) (tokBy by_ ++ [(1, wPick), (1, atL picksL pick)]) := by
    unfold tokBy
    by_cases hb : by_ = []
    · rw [if_pos hb, if_pos hb]
      exact ⟨EndsOk.sp _, a2⟩
    · have hnb : nameB by_ = true := by
        rcases h5 with h5 | h5
        · exact absurd h5 hb
        · exact h5
      rw [if_neg hb, if_neg hb, List.append_assoc]
      exact ⟨EndsOk.sp _, Lx.blank (Lx.word (b := wBy) ⟨_, _, rfl, by decide⟩ (by decide) (by decide) (notin (by decide)) (Lx.blank (lx_name hnb (notin (by decide)) a2)))⟩
  have a4 : Lx ([32, 119, 105, 116, 104, 105, 110, 32] ++ (itoa wi ++ ((if by_ = [] then [] else [32, 98, 121, 32] ++ by_) ++ ([32, 112, 105, 99, 107, 32] ++ atL picksL pick)))) ((1, wWithin) :: (2, decDigits wi.toNat) :: (tokBy by_ ++ [(1, wPick), (1, atL picksL pick)])) := by
    unfold itoa
    rw [if_neg (by omega)]
    exact Lx.blank (Lx.word (b := wWithin) ⟨_, _, rfl, by decide⟩ (by decide) (by decide) (notin (by decide)) (Lx.blank (Lx.num (dec_ne _) (dec_xdigit _) (dec_right (by omega)) a3.1.dig a3.2)))
  generalize hR : [32, 119, 105, 116, 104, 105, 110, 32] ++ (itoa wi ++ ((if by_ = [] then [] else [32, 98, 121, 32] ++ by_) ++ ([32, 112, 105, 99, 107, 32] ++ atL picksL pick))) = R at a4
  have heR : EndsOk R := by rw [← hR]; exact EndsOk.sp _
  have a5 : EndsOk ((if prs = [] then [] else [32, 119, 104, 101, 114, 101, 32] ++ [32, 97, 110, 100, 32].intercalate (prs.map predTx)) ++ R) ∧ Lx ((if prs = [] then [] else [32, 119, 104, 101, 114, 101, 32] ++ [32, 97, 110, 100, 32].intercalate (prs.map predTx)) ++ R) (tokPs prs ++ ((1, wWithin) :: (2, decDigits wi.toNat) :: (tokBy by_ ++ [(1, wPick), (1, atL picksL pick)]))) := by
    cases prs with
    | nil => exact ⟨heR, a4⟩
    | cons p ps =>
      rw [if_neg (by simp)]
      have b1 := lx_rowW (w := wAnd) (tx := predTx) (tok := tokP) (P := fun p => rightP p = true) ⟨⟨_, _, rfl, by decide⟩, by decide, by decide⟩ lx_pred ps R _ (fun z hz => h3 z (List.mem_cons_of_mem _ hz)) heR a4
      have b2 := lx_pred p (h3 p List.mem_cons_self) _ _ b1.1 b1.2
      have e : ([32, 119, 104, 101, 114, 101, 32] ++ [32, 97, 110, 100, 32].intercalate ((p :: ps).map predTx)) ++ R = 32 :: (wWhere ++ 32 :: (predTx p ++ ((ps.flatMap fun y => 32 :: (wAnd ++ 32 :: predTx y)) ++ R))) := by
        rw [List.map_cons, inter_cons, List.flatMap_map]
        simp [wAnd, wWhere]
      have e2 : tokPs (p :: ps) ++ ((1, wWithin) :: (2, decDigits wi.toNat) :: (tokBy by_ ++ [(1, wPick), (1, atL picksL pick)])) = (1, wWhere) :: (tokP p ++ (rowTok wAnd tokP ps ++ ((1, wWithin) :: (2, decDigits wi.toNat) :: (tokBy by_ ++ [(1, wPick), (1, atL picksL pick)])))) := by
        unfold tokPs
        simp
      rw [e, e2]
      exact ⟨EndsOk.sp _, Lx.blank (Lx.word (b := wWhere) ⟨_, _, rfl, by decide⟩ (by decide) (by decide) (notin (by decide)) (Lx.blank b2))⟩
  generalize (if prs = [] then [] else [32, 119, 104, 101, 114, 101, 32] ++ [32, 97, 110, 100, 32].intercalate (prs.map predTx)) ++ R = S at a5
  have b1 := lx_rowW (w := wThen) (tx := itemTx) (tok := tokI) (P := fun i => rightI i = true ∧ nameB i.x = true) ⟨⟨_, _, rfl, by decide⟩, by decide, by decide⟩ lx_item ys S _ (fun z hz => hits z (List.mem_cons_of_mem _ hz)) a5.1 a5.2
  have b2 := lx_item y (hits y List.mem_cons_self) _ _ b1.1 b1.2
  have e : [115, 101, 113, 32] ++ ([32, 116, 104, 101, 110, 32].intercalate ((y :: ys).map itemTx) ++ S) = wSeq ++ 32 :: (itemTx y ++ ((ys.flatMap fun y => 32 :: (wThen ++ 32 :: itemTx y)) ++ S)) := by
    rw [List.map_cons, inter_cons, List.flatMap_map]
    simp [wThen, wSeq]
  rw [e]
  have e2 : tokQ ⟨y :: ys, prs, wi, by_, pick⟩ = (1, wSeq) :: (tokI y ++ (rowTok wThen tokI ys ++ (tokPs prs ++ ((1, wWithin) :: (2, decDigits wi.toNat) :: (tokBy by_ ++ [(1, wPick), (1, atL picksL pick)]))))) := by
    unfold tokQ tokIs
    simp
  rw [e2]
  exact Lx.word (b := wSeq) ⟨_, _, rfl, by decide⟩ (by decide) (by decide) (notin (by decide)) (Lx.blank b2)
/-- What is printed is read as the same query, unless it is too long. -/
theorem parse_print (q : PQu) (h : rightQ q = true) : ((printQ q).length ≤ 512 ∧ (tokQ q).length ≤ 128 → parseI (printQ q) = (q, 0, 0)) ∧ (¬ ((printQ q).length ≤ 512 ∧ (tokQ q).length ≤ 128) → ∃ p, parseI (printQ q) = (noQ, 2, p)) := by
  have hL := lx_query q h
  constructor
  · rintro ⟨h1, h2⟩
    obtain ⟨us, h3, h4⟩ := hL.lex ((printQ q).length + 1) 0 0 (Nat.lt_succ_self _) (by omega)
    have h5 : readX (printQ q) = (us, 0, 0) := by
      unfold readX
      rw [if_neg (by omega)]
      exact h3
    unfold parseI
    rw [h5]
    dsimp only
    rw [if_neg (by decide), query_of q h us h4 (Nat.le_succ _)]
    dsimp only
    rw [if_neg (by decide), if_pos h]
  · intro h1
    have h5 : (readX (printQ q)).2.1 = 2 := by
      unfold readX
      split
      · rfl
      · exact hL.long _ 0 0 (Nat.lt_succ_self _) (by omega) (by omega)
    refine ⟨((readX (printQ q)).2.2 : Nat), ?_⟩
    unfold parseI
    rw [h5, if_pos (by decide)]
    rfl
end Go.Proofs.YtndmbljpfpnehaaGreatDoor
