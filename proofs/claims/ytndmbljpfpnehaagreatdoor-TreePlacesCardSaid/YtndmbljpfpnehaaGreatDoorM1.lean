/- Events in plain words: words, what is right, bytes there and back, what is ahead. | Queries in plain words: expressions, and what the reader of tokens does, call by call. | Values compared and reckoned with, in plain words. | Values: Right, written, and cmp's functions. | Plain words on a device, without a program: a right name, and small facts on lists of bytes. | The small functions of a device that touch its own block alone (powerless, done, New, Acts, Down, Fuse) and isName: what each call gives back and what it leaves, whatever the block holds. | strings.Clone gives back the same string and turns nothing that was there; bytes.Clone gives back nil of nil, and else a new row of the same bytes. | Contracts of the library at this program (made by the kit's tools: lay-shelf.mjs, lay-plain.mjs). -/
import Derived.Test.YtndmbljpfpnehaaGreatDoorM0
import Derived.Test.YtndmbljpfpnehaaGreatDoorRows
import Derived.WalkKit
import Derived.WalkSpells
import Derived.WalkLawsBesides
import Derived.Lib.Hide
import Derived.Lib.Strings
import Derived.Laws.MakeOwn
import Derived.Lib.BufferWrite
import Derived.Lib.UnsafeStr
import Derived.Maps.OwnSet
import Derived.Maps.Range
import Derived.Shelf.Strconv.Itoa0
import Derived.Shelf.Strconv.ParseIntEmpty
import Derived.Shelf.LaysM
import Derived.Shelf.Strconv.Clone
import Derived.Shelf.Strconv.SyntaxError
import Derived.Shelf.LaysC
import Derived.Shelf.Strconv.ToError
import Derived.Shelf.Strconv.Lower
import Derived.Shelf.Strconv.ParseUint10
import Derived.Shelf.Strconv.ParseUint10Empty
import Derived.Shelf.Strconv.ParseUint10Any
import Derived.Shelf.Strconv.ParseInt10
import Derived.Shelf.Strconv.RangeError
import Derived.Shelf.Strconv.ToErrorRange
import Derived.Shelf.Strconv.ParseUintEmpty
import Derived.Shelf.Strconv.ParseUint10b64
import Derived.Shelf.Strconv.ParseUint10b32
import Derived.Shelf.Strconv.ParseUint10b16
import Derived.Shelf.Strconv.ParseUint10b8
import Derived.Shelf.Strconv.ParseUint10At
import Derived.Shelf.Strconv.ParseInt10At64
import Derived.Shelf.Strconv.ParseInt10At32
import Derived.Shelf.Strconv.ParseInt10At16
import Derived.Shelf.Strconv.ParseInt10At8
import Derived.Shelf.Strconv.ParseInt10All
import Derived.Shelf.Strconv.ParseIntPublic10
import Derived.Shelf.Strconv.ErrVarParseInt
import Derived.Shelf.Strings.Search1
import Derived.Test.YtndmbljpfpnehaaGreatDoorProg
namespace Go.Proofs.YtndmbljpfpnehaaGreatDoor

def letterB (c : UInt8) : Bool := decide (97 ≤ c.toNat ∧ c.toNat ≤ 122)
def charB (c : UInt8) : Bool := letterB c || (decide (c.toNat = 95) || decide (48 ≤ c.toNat ∧ c.toNat ≤ 57))

/-- A word. -/
def wordB : List UInt8 → Bool
  | [] => false
  | c :: t => letterB c && (decide (t.length ≤ 15) && t.all charB)

/-- An event in plain words. -/
structure PEv where
  ts : Int
  dep : Int
  seq : Int
  name : List UInt8
  vals : List PVal

/-- The least and the greatest that may be. -/
def numB (n : Int) : Bool := decide (0 ≤ n ∧ n ≤ 1099511627776)

/-- Is an event right? -/
def rightE (e : PEv) : Bool := numB e.ts && (numB e.seq && (decide (0 ≤ e.dep ∧ e.dep ≤ 3) && (wordB e.name && (decide (e.vals.length ≤ 8) && e.vals.all rightB))))

theorem numB_iff {n : Int} : numB n = true ↔ 0 ≤ n ∧ n ≤ 1099511627776 := by simp [numB]
theorem rightE_iff {e : PEv} : rightE e = true ↔ (0 ≤ e.ts ∧ e.ts ≤ 1099511627776) ∧ (0 ≤ e.seq ∧ e.seq ≤ 1099511627776) ∧ (0 ≤ e.dep ∧ e.dep ≤ 3) ∧ wordB e.name = true ∧ e.vals.length ≤ 8 ∧ e.vals.all rightB = true := by
  simp only [rightE, numB, Bool.and_eq_true, decide_eq_true_eq]

theorem wordB_len {l : List UInt8} (h : wordB l = true) : 1 ≤ l.length ∧ l.length ≤ 16 := by
  cases l with
  | nil => cases h
  | cons c t =>
    simp only [wordB, Bool.and_eq_true, decide_eq_true_eq] at h
    simp only [List.length_cons]
    omega

/-- Values' bytes, one behind the other. -/
def putVs : List PVal → List UInt8
  | [] => []
  | v :: l => putV v ++ putVs l

/-- An event's bytes, if it is right. -/
def bodyE (e : PEv) : List UInt8 := digsN e.ts.toNat ++ (digsN e.dep.toNat ++ (digsN e.seq.toNat ++ (digsN e.name.length ++ (e.name ++ (digsN e.vals.length ++ putVs e.vals)))))
def putE (e : PEv) : List UInt8 := if rightE e then bodyE e else []

/-- A number of digits, however they are written: it and how many bytes were looked at. -/
def fstD : List UInt8 → Nat → Nat → Nat × Nat
  | [], i, n => (n, i)
  | c :: l, i, n => if c.toNat < 128 then (n + c.toNat % 128 * 128 ^ i, i + 1) else fstD l (i + 1) (n + c.toNat % 128 * 128 ^ i)
def firstD (l : List UInt8) : Nat × Nat := fstD (l.take 6) 0 0

theorem fstD_digs : ∀ (n : Nat) (K i a : Nat) (t : List UInt8), (digsN n).length ≤ K → fstD ((digsN n ++ t).take K) i a = (a + n * 128 ^ i, i + (digsN n).length) := by
  intro n
  induction n using Nat.strongRecOn with
  | _ n ih =>
    intro K i a t hK
    by_cases h : n < 128
    · rw [digsN_lt h] at hK ⊢
      simp at hK
      obtain ⟨K', rfl⟩ : ∃ K', K = K' + 1 := ⟨K - 1, by omega⟩
      have e : (UInt8.ofNat n).toNat = n := u8_ofNat (by omega)
      simp only [List.cons_append, List.take_succ_cons, fstD, e]
      rw [if_pos h, Nat.mod_eq_of_lt h]
      rfl
    · rw [digsN_ge (by omega)] at hK ⊢
      simp at hK
      obtain ⟨K', rfl⟩ : ∃ K', K = K' + 1 := ⟨K - 1, by omega⟩
      have e : (UInt8.ofNat (128 + n % 128)).toNat = 128 + n % 128 := u8_ofNat (by omega)
      simp only [List.cons_append, List.take_succ_cons, fstD, e]
      rw [if_neg (by omega), ih (n / 128) (by omega) K' (i + 1) _ t (by omega)]
      have e2 : (128 + n % 128) % 128 = n % 128 := by omega
      have e3 : n = n / 128 * 128 + n % 128 := by omega
      refine Prod.ext ?_ ?_
      · show a + (128 + n % 128) % 128 * 128 ^ i + n / 128 * 128 ^ (i + 1) = a + n * 128 ^ i
        rw [e2, Nat.pow_succ]
        have e4 : n * 128 ^ i = (n / 128 * 128 + n % 128) * 128 ^ i := by rw [← e3]
        rw [e4, Nat.add_mul, Nat.mul_assoc, Nat.mul_comm 128]
        omega
      · show i + 1 + (digsN (n / 128)).length = i + (digsN (n / 128)).length.succ
        omega

theorem firstD_digs {n : Nat} (h : n < 4398046511104) (t : List UInt8) : firstD (digsN n ++ t) = (n, (digsN n).length) := by
  unfold firstD
  rw [fstD_digs n 6 0 0 t (digsN_six h)]
  simp

theorem fstD_le : ∀ (l : List UInt8) (i a : Nat), (fstD l i a).2 ≤ i + l.length
  | [], i, a => by simp [fstD]
  | c :: l, i, a => by
    rw [fstD]
    split
    · simp
    · have := fstD_le l (i + 1) (a + c.toNat % 128 * 128 ^ i)
      simp only [List.length_cons]
      omega
theorem firstD_le (l : List UInt8) : (firstD l).2 ≤ l.length ∧ (firstD l).2 ≤ 6 := by
  have := fstD_le (l.take 6) 0 0
  rw [List.length_take] at this
  unfold firstD
  omega

theorem fstD_lt : ∀ (l : List UInt8) (i a : Nat), a < 128 ^ i → (fstD l i a).1 < 128 ^ (i + l.length)
  | [], i, a, h => by simpa [fstD] using h
  | c :: l, i, a, h => by
    have h5 := Nat.mod_lt c.toNat (show 0 < 128 by omega)
    have h6 : c.toNat % 128 * 128 ^ i ≤ 127 * 128 ^ i := Nat.mul_le_mul_right _ (by omega)
    have h7 : a + c.toNat % 128 * 128 ^ i < 128 ^ (i + 1) := by rw [Nat.pow_succ]; omega
    rw [fstD]
    split
    · exact Nat.lt_of_lt_of_le h7 (Nat.pow_le_pow_right (by omega) (by simp))
    · have := fstD_lt l (i + 1) _ h7
      rw [show i + (c :: l).length = i + 1 + l.length by simp; omega]
      exact this
theorem firstD_lt (l : List UInt8) : (firstD l).1 < 4398046511104 := by
  have h := fstD_lt (l.take 6) 0 0 (by simp)
  have h2 : 128 ^ (0 + (l.take 6).length) ≤ 128 ^ 6 := Nat.pow_le_pow_right (by omega) (by rw [List.length_take]; omega)
  unfold firstD
  exact Nat.lt_of_lt_of_le h (by simpa using h2)

/-- Values that are read, and the bytes that are left. -/
def valsD : Nat → List UInt8 → List PVal × List UInt8
  | 0, b => ([], b)
  | k + 1, b => match getV b with
    | some (v, m) => (v :: (valsD k (b.drop m)).1, (valsD k (b.drop m)).2)
    | none => (⟨0, 0, []⟩ :: (valsD k b).1, (valsD k b).2)

theorem valsD_len : ∀ (k : Nat) (b : List UInt8), (valsD k b).1.length = k
  | 0, b => rfl
  | k + 1, b => by
    rw [valsD]
    cases getV b with
    | none => simp [valsD_len]
    | some x => simp [valsD_len]

theorem valsD_put : ∀ (l : List PVal) (t : List UInt8), l.all rightB = true → valsD l.length (putVs l ++ t) = (l, t)
  | [], t, _ => rfl
  | v :: l, t, h => by
    simp only [List.all_cons, Bool.and_eq_true] at h
    have e := getV_reads.there v (putVs l ++ t) h.1
    simp only [putVs, List.append_assoc, List.length_cons, valsD, e, List.drop_left, valsD_put l t h.2]

/-- What the program reads of any bytes. -/
def readE (b : List UInt8) : PEv :=
  let b1 := b.drop (firstD b).2
  let b2 := b1.drop (firstD b1).2
  let b3 := b2.drop (firstD b2).2
  let b4 := b3.drop (firstD b3).2
  let m := min (firstD b3).1 16
  let b5 := b4.drop m
  let b6 := b5.drop (firstD b5).2
  ⟨(firstD b).1, (firstD b1).1, (firstD b2).1, b4.take m, (valsD (min (firstD b5).1 8) b6).1⟩

theorem readE_body {e : PEv} (h : rightE e = true) (t : List UInt8) : readE (bodyE e ++ t) = e := by
  obtain ⟨⟨h1, h2⟩, ⟨h3, h4⟩, ⟨h5, h6⟩, h7, h8, h9⟩ := rightE_iff.1 h
  have hw := wordB_len h7
  have f : ∀ {n : Nat} (t : List UInt8), n < 4398046511104 → firstD (digsN n ++ t) = (n, (digsN n).length) := fun t h => firstD_digs h t
  unfold readE bodyE
  simp only [List.append_assoc]
  rw [f _ (by omega)]
  simp only [List.drop_left]
  rw [f _ (by omega)]
  simp only [List.drop_left]
  rw [f _ (by omega)]
  simp only [List.drop_left]
  rw [f _ (by omega)]
  simp only [List.drop_left, Nat.min_eq_left hw.2, List.take_left]
  rw [f _ (by omega)]
  simp only [List.drop_left, Nat.min_eq_left h8]
  rw [valsD_put _ _ h9]
  cases e
  simp only [PEv.mk.injEq, and_true]
  simp only at h1 h3 h5
  refine ⟨?_, ?_, ?_⟩ <;> omega

theorem putE_right {e : PEv} (h : rightE e = true) : putE e = bodyE e := by unfold putE; rw [if_pos h]
theorem putE_not {e : PEv} (h : rightE e = false) : putE e = [] := by unfold putE; rw [h]; rfl
theorem digs_ne (n : Nat) (t : List UInt8) : digsN n ++ t ≠ [] := by
  have := digsN_pos n
  intro e
  rw [List.append_eq_nil_iff] at e
  rw [e.1] at this
  simp at this
theorem putE_ne {e : PEv} (h : rightE e = true) : putE e ≠ [] := by rw [putE_right h]; exact digs_ne _ _

/-- What Get reads. -/
def getE (b : List UInt8) : Option PEv := if rightE (readE b) && decide (putE (readE b) = b) then some (readE b) else none

theorem getE_put {e : PEv} (h : rightE e = true) : getE (putE e) = some e := by
  have h1 : readE (putE e) = e := by
    have := readE_body h []
    rwa [List.append_nil, ← putE_right h] at this
  unfold getE
  rw [h1, h]
  simp

theorem getE_some {b : List UInt8} {e : PEv} (h : getE b = some e) : rightE e = true ∧ putE e = b ∧ e = readE b := by
  unfold getE at h
  split at h
  · rename_i hc
    simp only [Bool.and_eq_true, decide_eq_true_eq] at hc
    injection h with h
    rw [← h]
    exact ⟨hc.1, hc.2, rfl⟩
  · cases h

/-- Of an event's bytes with any behind none are another's. -/
theorem putE_front {e f : PEv} (h : rightE e = true) (h' : rightE f = true) {t : List UInt8} (ht : putE f = putE e ++ t) : e = f ∧ t = [] := by
  have h1 : readE (putE f) = f := by
    have := readE_body h' []
    rwa [List.append_nil, ← putE_right h'] at this
  have h2 : readE (putE e ++ t) = e := by rw [putE_right h]; exact readE_body h t
  have h3 : e = f := by rw [← h2, ← ht, h1]
  refine ⟨h3, ?_⟩
  rw [h3] at ht
  have := congrArg List.length ht
  rw [List.length_append] at this
  exact List.length_eq_zero_iff.1 (by omega)

theorem getE_cut {e : PEv} (h : rightE e = true) {m : Nat} (hm : m < (putE e).length) : getE ((putE e).take m) = none := by
  cases hx : getE ((putE e).take m) with
  | none => rfl
  | some f =>
    exfalso
    obtain ⟨h1, h2, _⟩ := getE_some hx
    have h3 : putE e = putE f ++ (putE e).drop m := by rw [h2, List.take_append_drop]
    have h4 := (putE_front h1 h h3).2
    have := congrArg List.length h4
    rw [List.length_drop] at this
    simp at this
    omega

theorem getE_more {e : PEv} (h : rightE e = true) (c : UInt8) : getE (putE e ++ [c]) = none := by
  cases hx : getE (putE e ++ [c]) with
  | none => rfl
  | some f =>
    exfalso
    obtain ⟨h1, h2, _⟩ := getE_some hx
    have h4 := (putE_front h h1 h2).2
    cases h4

/-- Is one ahead of another? -/
def lessE (t d s t' d' s' : Int) : Bool := decide (t < t' ∨ t = t' ∧ (d < d' ∨ d = d' ∧ s < s'))

end Go.Proofs.YtndmbljpfpnehaaGreatDoor
namespace Go.Proofs.YtndmbljpfpnehaaGreatDoor
open Go.Lib

/-- An expression. -/
inductive PEx where
  | mk (k : Int) (v : PVal) (x f : List UInt8) (ks : List PEx)
namespace PEx
def k : PEx → Int | .mk k _ _ _ _ => k
def v : PEx → PVal | .mk _ v _ _ _ => v
def x : PEx → List UInt8 | .mk _ _ x _ _ => x
def f : PEx → List UInt8 | .mk _ _ _ f _ => f
def ks : PEx → List PEx | .mk _ _ _ _ ks => ks
end PEx
def noV : PVal := ⟨0, 0, []⟩
def noX : PEx := .mk 0 noV [] [] []

structure PIt where
  no : Bool
  ns : List (List UInt8)
  x : List UInt8
  mode : Int
structure PPr where
  l : PEx
  cmp : Int
  r : PEx
structure PQu where
  its : List PIt
  prs : List PPr
  within : Int
  by_ : List UInt8
  pick : Int
def noQ : PQu := ⟨[], [], 0, [], 0⟩

/-- What the reader has: the tokens that are left, how many brackets are open, where it went wrong (-1: nowhere). -/
structure RS where
  l : List XTok
  deep : Nat
  wrong : Int

section
variable (E : Nat)
def nextT (s : RS) : XTok := match s.l with
  | [] => ⟨0, [], E⟩
  | t :: _ => t
def isT (s : RS) (k : Nat) (b : List UInt8) : Bool := decide ((nextT E s).k = k ∧ (nextT E s).b = b)
def takeT (s : RS) (k : Nat) (b : List UInt8) : Bool × RS := if isT E s k b then (true, ⟨s.l.tail, s.deep, s.wrong⟩) else (false, s)
def failT (s : RS) : RS := ⟨[], s.deep, if s.wrong = -1 then ((nextT E s).at_ : Int) else s.wrong⟩
def needT (s : RS) (k : Nat) (b : List UInt8) : RS := if (takeT E s k b).1 then (takeT E s k b).2 else failT E (takeT E s k b).2
def ofT (s : RS) (k : Nat) : List UInt8 × RS := if (nextT E s).k = k then ((nextT E s).b, ⟨s.l.tail, s.deep, s.wrong⟩) else ([], failT E s)
def numZ (b : List UInt8) : Int := match parseIntB 64 b with
  | .ok v => v
  | _ => 0
def numberT (s : RS) : Int × RS := (numZ (ofT E s 2).1, (ofT E s 2).2)

/-- The words that are kept. -/
def keysL : List (List UInt8) := [[115, 101, 113], [116, 104, 101, 110], [110, 111, 116], [111, 114], [119, 104, 101, 114, 101], [97, 110, 100], [119, 105, 116, 104, 105, 110], [98, 121], [112, 105, 99, 107], [97, 110, 121], [110, 101, 120, 116], [115, 116, 114, 105, 99, 116], [116, 114, 117, 101], [102, 97, 108, 115, 101], [99, 111, 117, 110, 116], [115, 117, 109], [109, 105, 110], [109, 97, 120]]
def keyB (b : List UInt8) : Bool := keysL.contains b
def nameB (b : List UInt8) : Bool := wordB b && !keyB b

def nameT (s : RS) : List UInt8 × RS := ofT E (if keyB (nextT E s).b then failT E s else s) 1
/-- The number of the first of some texts that comes, from one on. -/
def amongT (s : RS) (k : Nat) : Nat → List (List UInt8) → Nat × RS
  | _, [] => (0, s)
  | n, b :: r => if isT E s k b then (n, (takeT E s k b).2) else amongT s k (n + 1) r
def chooseT (s : RS) (k : Nat) (l : List (List UInt8)) : Nat × RS := if (amongT E s k 0 l).1 = 0 then (0, failT E (amongT E s k 0 l).2) else amongT E s k 0 l

def cmpsL : List (List UInt8) := [[], [61], [33, 61], [60], [60, 61], [62], [62, 61], [], []]
def modesL : List (List UInt8) := [[], [], [43], [63], [], [], [], [], []]
def picksL : List (List UInt8) := [[], [97, 110, 121], [110, 101, 120, 116], [115, 116, 114, 105, 99, 116], [], [], [], [], []]
def callsL : List (List UInt8) := [[], [], [], [99, 111, 117, 110, 116], [115, 117, 109], [109, 105, 110], [109, 97, 120], [], []]
def sumsL : List (List UInt8) := [[], [], [], [], [], [], [], [43], [45]]
def bTrue : List UInt8 := [116, 114, 117, 101]
def bFalse : List UInt8 := [102, 97, 108, 115, 101]

def fieldT (s : RS) (k : Int) : PEx × RS :=
  let a := nameT E s
  let b := nameT E (needT E a.2 4 [46])
  (.mk k noV a.1 b.1 [], b.2)
def callT (s : RS) (k : Int) : PEx × RS :=
  let s1 := needT E s 4 [40]
  let a := if k = 3 then (PEx.mk 3 noV (nameT E s1).1 [] [], (nameT E s1).2) else fieldT E s1 k
  (a.1, needT E a.2 4 [41])
def valT (s : RS) : PVal × Bool × RS :=
  if (nextT E s).k = 2 then (⟨1, (numberT E s).1, []⟩, true, (numberT E s).2)
  else if isT E s 4 [45] then
    let s1 := (takeT E s 4 [45]).2
    (⟨1, - (numberT E s1).1, []⟩, true, (numberT E s1).2)
  else if (nextT E s).k = 3 then (⟨2, 0, (ofT E s 3).1⟩, true, (ofT E s 3).2)
  else if isT E s 1 bFalse then (⟨3, 0, []⟩, true, (takeT E s 1 bFalse).2)
  else if isT E s 1 bTrue then (⟨3, 1, []⟩, true, (takeT E s 1 bTrue).2)
  else (noV, false, s)

/-- What is added, as long as there is something. -/
def sumsT (term : RS → PEx × RS) : Nat → PEx → RS → PEx × RS
  | 0, x, s => (x, s)
  | n + 1, x, s =>
    if (amongT E s 4 0 sumsL).1 = 0 then (x, (amongT E s 4 0 sumsL).2)
    else
      let t := term (amongT E s 4 0 sumsL).2
      sumsT term n (.mk ((amongT E s 4 0 sumsL).1 : Int) noV [] [] [x, t.1]) t.2
def exprT (term : RS → PEx × RS) (n : Nat) (s : RS) : PEx × RS := sumsT E term n (term s).1 (term s).2
def innerT (term : RS → PEx × RS) (n : Nat) (s : RS) : PEx × RS :=
  let s1 := needT E (if s.deep = 6 then failT E s else s) 4 [40]
  let a := exprT E term n ⟨s1.l, s1.deep + 1, s1.wrong⟩
  (a.1, needT E ⟨a.2.l, a.2.deep - 1, a.2.wrong⟩ 4 [41])
def termT : Nat → RS → PEx × RS
  | 0, s => (noX, s)
  | n + 1, s =>
    if (valT E s).2.1 then (.mk 1 (valT E s).1 [] [] [], (valT E s).2.2)
    else if isT E s 4 [40] then innerT E (termT n) n s
    else if (amongT E s 1 0 callsL).1 = 0 then fieldT E (amongT E s 1 0 callsL).2 2
    else callT E (amongT E s 1 0 callsL).2 (amongT E s 1 0 callsL).1

/-- One, and one more as long as a word stands between. -/
def rowT {α : Type} (b : List UInt8) (one : RS → α × RS) : Nat → List α → RS → List α × RS
  | 0, l, s => (l, s)
  | n + 1, l, s =>
    if isT E s 1 b then rowT b one n (l ++ [(one (takeT E s 1 b).2).1]) (one (takeT E s 1 b).2).2
    else (l, s)
def row1T {α : Type} (b : List UInt8) (one : RS → α × RS) (n : Nat) (s : RS) : List α × RS := rowT E b one n [(one s).1] (one s).2

def wSeq : List UInt8 := [115, 101, 113]
def wThen : List UInt8 := [116, 104, 101, 110]
def wNot : List UInt8 := [110, 111, 116]
def wOr : List UInt8 := [111, 114]
def wWhere : List UInt8 := [119, 104, 101, 114, 101]
def wAnd : List UInt8 := [97, 110, 100]
def wWithin : List UInt8 := [119, 105, 116, 104, 105, 110]
def wBy : List UInt8 := [98, 121]
def wPick : List UInt8 := [112, 105, 99, 107]

def itemT (n : Nat) (s : RS) : PIt × RS :=
  let a := row1T E wOr (nameT E) n (takeT E s 1 wNot).2
  let b := nameT E a.2
  let c := amongT E b.2 4 0 modesL
  (⟨(takeT E s 1 wNot).1, a.1, b.1, if c.1 = 0 then 1 else (c.1 : Int)⟩, c.2)
def predT (n : Nat) (s : RS) : PPr × RS :=
  let a := exprT E (termT E n) n s
  let c := chooseT E a.2 4 cmpsL
  let b := exprT E (termT E n) n c.2
  (⟨a.1, (c.1 : Int), b.1⟩, b.2)
def queryT (n : Nat) (s : RS) : PQu × RS :=
  let a := row1T E wThen (itemT E n) n (needT E s 1 wSeq)
  let p := if isT E a.2 1 wWhere then row1T E wAnd (predT E n) n (takeT E a.2 1 wWhere).2 else ([], a.2)
  let c := numberT E (needT E p.2 1 wWithin)
  let b := if isT E c.2 1 wBy then nameT E (takeT E c.2 1 wBy).2 else ([], c.2)
  let k := if isT E b.2 1 wPick then chooseT E (takeT E b.2 1 wPick).2 1 picksL else (1, b.2)
  (⟨a.1, p.1, c.1, b.1, (k.1 : Int)⟩, if k.2.l = [] then k.2 else failT E k.2)
end

/-- Is that an expression, no deeper than that? -/
def rightX : Nat → PEx → Bool
  | 0, _ => false
  | d + 1, .mk k v x f ks =>
    if k = 1 then decide (x = [] ∧ f = [] ∧ ks.length = 0) && (v.s.all (fun c => decide (32 ≤ c.toNat ∧ c.toNat ≤ 126 ∧ c.toNat ≠ 39)) && rightB v)
    else if k = 3 then decide (v = noV ∧ f = [] ∧ ks.length = 0) && nameB x
    else if k = 2 ∨ k = 4 ∨ k = 5 ∨ k = 6 then decide (v = noV ∧ ks.length = 0) && (nameB x && nameB f)
    else if k = 7 ∨ k = 8 then decide (v = noV ∧ x = [] ∧ f = []) && (match ks with
      | [a, b] => rightX d a && rightX d b
      | _ => false)
    else false
def unlikeB (l : List (List UInt8)) : Bool := l.all nameB && decide l.Nodup
def rightI (i : PIt) : Bool :=
  if i.mode < 1 ∨ 3 < i.mode ∨ (i.no = true ∧ i.mode ≠ 1) then false else decide (0 < i.ns.length ∧ i.ns.length ≤ 3) && unlikeB i.ns
def rightIs (l : List PIt) : Bool :=
  match l with
  | [] => false
  | i :: _ => !(decide (6 < l.length) || (i.no || decide (i.mode = 3))) && (l.all rightI && unlikeB (l.map (·.x)))
def rightP (p : PPr) : Bool := decide (1 ≤ p.cmp ∧ p.cmp ≤ 6) && (rightX 6 p.l && rightX 6 p.r)
def rightQ (q : PQu) : Bool :=
  rightIs q.its && (decide (q.prs.length ≤ 8) && (q.prs.all rightP && (decide (0 ≤ q.within ∧ q.within ≤ 1099511627776) && ((decide (q.by_ = []) || nameB q.by_) && decide (1 ≤ q.pick ∧ q.pick ≤ 3)))))

/-- What a text says: the query, the error, and its place. -/
def parseQ (l : List UInt8) : PQu × Nat × Nat :=
  if (readX l).2.1 ≠ 0 then (noQ, (readX l).2.1, (readX l).2.2)
  else
    let r := queryT l.length ((readX l).1.length + 1) ⟨(readX l).1, 0, -1⟩
    if r.2.wrong ≠ -1 then (noQ, 81, r.2.wrong.toNat)
    else if rightQ r.1 then (r.1, 0, 0) else (noQ, 2, 0)

end Go.Proofs.YtndmbljpfpnehaaGreatDoor
namespace Go.Proofs.YtndmbljpfpnehaaGreatDoor
open Go Go.Op

theorem less_irrefl : ∀ l : List UInt8, bytesLess l l = false
  | [] => rfl
  | c :: l => by simp [bytesLess, less_irrefl l]
theorem less_asymm : ∀ a b : List UInt8, bytesLess a b = true → bytesLess b a = false
  | [], [], h => by cases h
  | [], _ :: _, _ => rfl
  | _ :: _, [], h => by cases h
  | c :: a, d :: b, h => by
    simp only [bytesLess, Bool.or_eq_true, Bool.and_eq_true, decide_eq_true_eq, beq_iff_eq] at h
    rcases h with h | ⟨rfl, h⟩
    · have h1 : ¬ d < c := by rw [UInt8.lt_iff_toNat_lt] at h ⊢; omega
      have h2 : (d == c) = false := by rw [beq_eq_false_iff_ne]; rintro rfl; rw [UInt8.lt_iff_toNat_lt] at h; omega
      simp [bytesLess, h1, h2]
    · simp [bytesLess, less_asymm a b h]
theorem less_tri : ∀ a b : List UInt8, bytesLess a b = false → bytesLess b a = false → a = b
  | [], [], _, _ => rfl
  | [], _ :: _, h, _ => by cases h
  | _ :: _, [], _, h => by cases h
  | c :: a, d :: b, h1, h2 => by
    simp only [bytesLess, Bool.or_eq_false_iff, Bool.and_eq_false_iff, decide_eq_false_iff_not, beq_eq_false_iff_ne] at h1 h2
    have e : c = d := by
      apply UInt8.toNat_inj.1
      have h3 := h1.1
      have h4 := h2.1
      rw [UInt8.lt_iff_toNat_lt] at h3 h4
      omega
    subst e
    rw [less_tri a b (h1.2.resolve_left (fun h => h rfl)) (h2.2.resolve_left (fun h => h rfl))]
theorem less_more : ∀ (a t : List UInt8), bytesLess a (a ++ t) = !t.isEmpty
  | [], [] => rfl
  | [], _ :: _ => rfl
  | c :: a, t => by simp [bytesLess, less_more a t]

/-- What cmp.Compare tells of two texts. -/
def cmpS (a b : List UInt8) : Int := if bytesLess a b then -1 else if bytesLess b a then 1 else 0
/-- What it tells of two numbers. -/
def cmpN (a b : Int) : Int := if a < b then -1 else if b < a then 1 else 0
/-- The sign of two values. -/
def signV (a b : PVal) : Int := if cmpN a.n b.n ≠ 0 then cmpN a.n b.n else cmpS a.s b.s

theorem cmpN_cases (a b : Int) : (a < b ∧ cmpN a b = -1) ∨ (b < a ∧ cmpN a b = 1) ∨ (a = b ∧ cmpN a b = 0) := by
  unfold cmpN
  by_cases h1 : a < b
  · exact .inl ⟨h1, if_pos h1⟩
  · rw [if_neg h1]
    by_cases h2 : b < a
    · exact .inr (.inl ⟨h2, if_pos h2⟩)
    · exact .inr (.inr ⟨by omega, if_neg h2⟩)
theorem cmpS_cases (a b : List UInt8) : (bytesLess a b = true ∧ cmpS a b = -1) ∨ (bytesLess b a = true ∧ cmpS a b = 1) ∨ (a = b ∧ cmpS a b = 0) := by
  unfold cmpS
  cases h1 : bytesLess a b
  · cases h2 : bytesLess b a
    · exact .inr (.inr ⟨less_tri a b h1 h2, by simp⟩)
    · exact .inr (.inl ⟨rfl, by simp⟩)
  · exact .inl ⟨rfl, by simp⟩

/-- Is a value less? -/
def lessV (a b : PVal) : Bool := decide (a.n < b.n) || (decide (a.n = b.n) && bytesLess a.s b.s)
/-- Are two alike, but for their kinds? -/
def sameV (a b : PVal) : Bool := decide (a.n = b.n) && decide (a.s = b.s)

theorem signV_cases (a b : PVal) : (lessV a b = true ∧ sameV a b = false ∧ lessV b a = false ∧ signV a b = -1) ∨ (lessV a b = false ∧ sameV a b = false ∧ lessV b a = true ∧ signV a b = 1) ∨ (lessV a b = false ∧ sameV a b = true ∧ lessV b a = false ∧ signV a b = 0) := by
  unfold lessV sameV signV
  rcases cmpN_cases a.n b.n with ⟨h1, h2⟩ | ⟨h1, h2⟩ | ⟨h1, h2⟩
  · refine .inl ?_
    rw [h2, if_pos (by decide)]
    have e1 : ¬ b.n < a.n := by omega
    have e2 : ¬ a.n = b.n := by omega
    have e3 : ¬ b.n = a.n := by omega
    simp [h1, e1, e2, e3]
  · refine .inr (.inl ?_)
    rw [h2, if_pos (by decide)]
    have e1 : ¬ a.n < b.n := by omega
    have e2 : ¬ a.n = b.n := by omega
    simp [h1, e1, e2]
  · rw [h2, if_neg (by decide), h1]
    simp only [Int.lt_irrefl, decide_false, Bool.false_or, decide_true, Bool.true_and]
    rcases cmpS_cases a.s b.s with ⟨h3, h4⟩ | ⟨h3, h4⟩ | ⟨h3, h4⟩
    · refine .inl ⟨h3, ?_, less_asymm _ _ h3, h4⟩
      rw [decide_eq_false_iff_not]
      intro e
      rw [e, less_irrefl] at h3
      cases h3
    · refine .inr (.inl ⟨less_asymm _ _ h3, ?_, h3, h4⟩)
      rw [decide_eq_false_iff_not]
      intro e
      rw [e, less_irrefl] at h3
      cases h3
    · refine .inr (.inr ⟨?_, decide_eq_true h3, ?_, h4⟩)
      · rw [h3, less_irrefl]
      · rw [h3, less_irrefl]

/-- Whether a comparison is so, of what is less (0), equal (1), greater (2). -/
def holdsV (op : Int) (i : Int) : Bool :=
  if op = 1 then decide (i = 1) else if op = 2 then decide (i ≠ 1) else if op = 3 then decide (i = 0) else if op = 4 then decide (i ≠ 2) else if op = 5 then decide (i = 2) else decide (i ≠ 0)

/-- What Compare answers. -/
def cmpV (op : Int) (a b : PVal) : Bool × Int :=
  if rightB a = false ∨ rightB b = false ∨ op < 1 ∨ 6 < op then (false, 1)
  else if a.k ≠ b.k ∨ a.k = 3 ∧ op ≠ 1 ∧ op ≠ 2 then (false, 42)
  else (holdsV op (1 + signV a b), 0)

/-- What the document's does. -/
def refC (op : Int) (a b : PVal) : Bool :=
  if op = 1 then sameV a b else if op = 2 then !sameV a b else if op = 3 then lessV a b else if op = 4 then lessV a b || sameV a b else if op = 5 then !lessV a b && !sameV a b else !lessV a b

theorem holdsV_ref (op : Int) (a b : PVal) : holdsV op (1 + signV a b) = refC op a b := by
  unfold holdsV refC
  rcases signV_cases a b with ⟨h1, h2, _, h3⟩ | ⟨h1, h2, _, h3⟩ | ⟨h1, h2, _, h3⟩ <;> rw [h1, h2, h3] <;> simp

/-- What Add (t = 1) and Sub (t = -1) answer. -/
def sumV (a b : PVal) (t : Int) : PVal × Int :=
  if rightB a = false ∨ rightB b = false then (⟨0, 0, []⟩, 1)
  else if a.k ≠ 1 ∨ b.k ≠ 1 then (⟨0, 0, []⟩, 42)
  else if rightB ⟨1, a.n + t * b.n, []⟩ = true then (⟨1, a.n + t * b.n, []⟩, 0) else (⟨0, 0, []⟩, 41)

end Go.Proofs.YtndmbljpfpnehaaGreatDoor
namespace Go.Proofs.YtndmbljpfpnehaaGreatDoor
open Go.RowKit Go.Lib Go.Op

/-- Is that right, of a value's three parts? -/
def rightV (k n : Int) (s : ByteArray) : Bool := rightB ⟨k, n, s.data.toList⟩

theorem rightV_1 (n : Int) (s : ByteArray) : rightV 1 n s = decide (-1099511627776 ≤ n ∧ n ≤ 1099511627776 ∧ s.data.toList = []) := rfl
theorem rightV_2 (n : Int) (s : ByteArray) : rightV 2 n s = decide (n = 0 ∧ s.data.toList.length ≤ 64) := rfl
theorem rightV_3 (n : Int) (s : ByteArray) : rightV 3 n s = decide (0 ≤ n ∧ n ≤ 1 ∧ s.data.toList = []) := rfl
theorem rightV_not {k n : Int} {s : ByteArray} (h1 : k ≠ 1) (h2 : k ≠ 2) (h3 : k ≠ 3) : rightV k n s = false := by
  unfold rightV rightB; rw [if_neg h1, if_neg h2, if_neg h3]

theorem vtoL (a : ByteArray) : a.toList = a.data.toList := ByteArray.toList_eq a

theorem vret_bool {a b : Bool} (h : a = b) : Ending.returned (.bool a) = .returned (.bool b) := by rw [h]

theorem vempty {s : ByteArray} (h : s.data.toList = []) : s = ⟨#[]⟩ := by
  apply ByteArray.ext
  apply Array.ext'
  rw [h]

set_option maxHeartbeats 1000000 in
set_option maxRecDepth 100000 in
theorem vright_calls (k n : Int) (s : ByteArray) (w : World) (hs : s.size ≤ maxLen) :
    Calls Tryz.prog 184 #[.agg #[.int .i64 k, .int .i64 n, .string s]] w fun e w' => e = .returned (.bool (rightV k n s)) ∧ w' = w.alloc (.cells #[.int .i64 k, .int .i64 n, .string s] 35) := by
  unfold maxLen at hs
  have hsl : s.data.toList.length = s.size := by simp
  by_cases hse : s.data.toList = []
  · obtain rfl := vempty hse
    clear hsl hse hs
    by_cases h3 : k = 3
    · subst h3
      rw [rightV_3]
      go_enter Tryz.func184, Tryz.ntmps184
      go_wp2
      all_goals (go_ret; exact ⟨vret_bool (by simp; omega), rfl⟩)
    by_cases h1 : k = 1
    · subst h1
      rw [rightV_1]
      go_enter Tryz.func184, Tryz.ntmps184
      go_wp2
      all_goals (go_ret; exact ⟨vret_bool (by simp; omega), rfl⟩)
    by_cases h2 : k = 2
    · subst h2
      rw [rightV_2]
      by_cases hn : n = 0
      · subst hn
        go_enter Tryz.func184, Tryz.ntmps184
        go_wp2
        all_goals (go_ret; exact ⟨vret_bool (by simp), rfl⟩)
      · go_enter Tryz.func184, Tryz.ntmps184
        go_wp2
        all_goals (go_ret; exact ⟨vret_bool (by simp; omega), rfl⟩)
    · rw [rightV_not h1 h2 h3]
      go_enter Tryz.func184, Tryz.ntmps184
      go_wp2
      all_goals (go_ret; exact ⟨vret_bool (by simp), rfl⟩)
  · have ha : (s.toList == []) = false := by rw [beq_eq_false_iff_ne, vtoL]; exact hse
    have hb : (!s.toList.isEmpty) = true := by rw [vtoL]; simpa using hse
    have hc : s.toList.isEmpty = false := by rw [vtoL]; simpa using hse
    by_cases h3 : k = 3
    · subst h3
      rw [rightV_3]
      go_enter Tryz.func184, Tryz.ntmps184
      go_wp2
      all_goals (go_ret; exact ⟨vret_bool (by first | rfl | (simp [hse]) | (simp; omega)), rfl⟩)
    by_cases h1 : k = 1
    · subst h1
      rw [rightV_1]
      go_enter Tryz.func184, Tryz.ntmps184
      go_wp2
      all_goals (go_ret; exact ⟨vret_bool (by first | rfl | (simp [hse]) | (simp; omega)), rfl⟩)
    by_cases h2 : k = 2
    · subst h2
      rw [rightV_2]
      by_cases hn : n = 0
      · subst hn
        clear ha hb hc
        go_enter Tryz.func184, Tryz.ntmps184
        go_wp2
        all_goals (go_ret; exact ⟨vret_bool (by simp [hsl]; try omega), rfl⟩)
      · clear ha hb hc
        go_enter Tryz.func184, Tryz.ntmps184
        go_wp2
        all_goals (go_ret; exact ⟨vret_bool (by simp; omega), rfl⟩)
    · rw [rightV_not h1 h2 h3]
      go_enter Tryz.func184, Tryz.ntmps184
      go_wp2
      all_goals (go_ret; exact ⟨vret_bool (by simp), rfl⟩)

theorem vret_num {k : IntKind} {a b : Int} (h : a = b) : Ending.returned (.int k a) = .returned (.int k b) := by rw [h]

/-- What stands behind a right value's kind, as a number. -/
def writtenV (k n : Int) (s : ByteArray) : Nat := if k = 2 then s.size else if k = 3 then n.toNat else zigN n

end Go.Proofs.YtndmbljpfpnehaaGreatDoor
namespace Go.Proofs.YtndmbljpfpnehaaGreatDoor
open Go.RowKit Go.Lib

/-- One of the bytes that a name may have. -/
def chOk (c : UInt8) : Bool := decide (97 ≤ c.toNat ∧ c.toNat ≤ 122 ∨ 48 ≤ c.toNat ∧ c.toNat ≤ 57 ∨ c.toNat = 45)

/-- A right name. -/
def nameOk (l : List UInt8) : Bool := decide (1 ≤ l.length) && decide (l.length ≤ 20) && l.all chOk

theorem chOk_iff (c : UInt8) : chOk c = true ↔ 97 ≤ c.toNat ∧ c.toNat ≤ 122 ∨ 48 ≤ c.toNat ∧ c.toNat ≤ 57 ∨ c.toNat = 45 := by simp [chOk]

theorem nameOk_short {l : List UInt8} (h : l.length < 1) : nameOk l = false := by simp [nameOk]; omega
theorem nameOk_long {l : List UInt8} (h : 20 < l.length) : nameOk l = false := by simp [nameOk]; omega
theorem nameOk_all {l : List UInt8} (h1 : 1 ≤ l.length) (h2 : l.length ≤ 20) (h : ∀ k, k < l.length → chOk (l.getD k 0) = true) : nameOk l = true := by
  simp only [nameOk, h1, h2, decide_true, Bool.true_and, List.all_eq_true]
  intro c hc
  obtain ⟨k, hk, rfl⟩ := List.mem_iff_getElem.1 hc
  have := h k hk
  rwa [List.getD_eq_getElem?_getD, List.getElem?_eq_getElem hk] at this
theorem nameOk_bad {l : List UInt8} {k : Nat} (hk : k < l.length) (h : chOk (l.getD k 0) = false) : nameOk l = false := by
  have hm : l.getD k 0 ∈ l := by
    rw [List.getD_eq_getElem?_getD, List.getElem?_eq_getElem hk]
    exact List.getElem_mem hk
  simp only [nameOk]
  have : l.all chOk = false := by
    rw [List.all_eq_false]
    exact ⟨_, hm, by rw [h]; decide⟩
  rw [this]
  simp

theorem getD_bytes (s : ByteArray) (k : Nat) (h : k < s.size) : s.data.toList.getD k 0 = s[k] := by
  rw [List.getD_eq_getElem?_getD, List.getElem?_eq_getElem (by simpa using h)]
  rfl

theorem byteCells_take (l : List UInt8) (k : Nat) : (Lib.byteCells l).take k = Lib.byteCells (l.take k) := by simp [Lib.byteCells, List.map_take]

theorem nameOk_len {l : List UInt8} (h : nameOk l = true) : 1 ≤ l.length ∧ l.length ≤ 20 := by
  simp only [nameOk, Bool.and_eq_true, decide_eq_true_eq] at h
  exact h.1

end Go.Proofs.YtndmbljpfpnehaaGreatDoor
namespace Go.Proofs.YtndmbljpfpnehaaGreatDoor
open Go.RowKit Go.Lib

/-- What 'done' leaves of a fuse. -/
def fuseLess (f : Int) : Int := if 0 < f then f - 1 else f

end Go.Proofs.YtndmbljpfpnehaaGreatDoor
namespace Go.Proofs.YtndmbljpfpnehaaGreatDoor
open Go.RowKit Go.Lib

theorem infoB : (Tryz.prog.info? 5).map (fun i => (i.zero, i.size, i.bytes)) = some (some (.int .u8 0), 1, 1) := by kernel_rfl

set_option maxHeartbeats 4000000 in
set_option maxRecDepth 100000 in
theorem lclone_calls (s : ByteArray) (w : World) (hlim : s.size ≤ 281474976710656) :
    Calls Tryz.prog 128 #[.string s] w fun e w' => e = .returned (.string s) ∧ Below w.heap.size w w' := by
  by_cases h0 : s.size = 0
  · have hs : s = ⟨#[]⟩ := by
      apply ByteArray.ext
      exact Array.eq_empty_of_size_eq_zero h0
    subst hs
    go_enter Tryz.func128, Tryz.ntmps128
    go_wp2
    go_ret
    exact ⟨rfl, Below.refl _ _⟩
  · obtain ⟨i0, hi, hz0, hz1, hz2⟩ := info_parts infoB
    have hinfo : (Tryz.prog.info? 5).map (·.size) = some 1 := by rw [hi]; simp [hz1]
    have hco : Tryz.prog.cellsOf 5 = 1 := by simp [Program.cellsOf, hi, hz1]
    obtain ⟨M, hM⟩ : ∃ M, M = madeCells (Value.int .u8 0).cells (((s.size : Nat) : Int).toNat * i0.size) := ⟨_, rfl⟩
    have hMs : M.size = s.size := by rw [hM, size_madeCells, hz1]; simp
    have hmk : ∀ W : World, (Instr.makeSlice 144 (.int .i64 (s.size : Int)) (.int .i64 (s.size : Int))).run Tryz.prog W = .ok (.slice (some ⟨W.heap.size, 0, none⟩) s.size s.size) (W.alloc (.cells M 5)) := fun W => by
      have h := run_make (P := Tryz.prog) W 144 5 i0 (.int .u8 0) Tryz.underlying144 hi hz0 .i64 .i64 (s.size : Int) (s.size : Int) (by omega) (by omega) (by rw [hz2]; omega) (by omega)
      rw [← hM] at h
      simpa using h
    clear hM
    have hcp := Lib.run_copy_row_string (P := Tryz.prog) (w.alloc (.cells M 5)) 144 9 3 5 w.heap.size 0 s.size s.size s M 5 Tryz.underlying144 hinfo (heap_alloc_new w _) (Nat.le_refl _) (by omega)
    obtain ⟨Y, hY⟩ : ∃ Y, Y = (M.toList.take 0 ++ Lib.byteCells s.data.toList ++ M.toList.drop (0 + s.size)).toArray := ⟨_, rfl⟩
    rw [← hY] at hcp
    have hYl : Y.toList = Lib.byteCells s.data.toList := by
      rw [hY, List.toList_toArray, List.take_zero, List.nil_append, List.drop_of_length_le (by rw [Array.length_toList]; omega), List.append_nil]
    have hYs : Y.size = s.size := by rw [← Array.length_toList, hYl, Lib.byteCells_length, ← Lib.size_eq]
    have hgY : ((w.alloc (.cells M 5)).setRow w.heap.size Y).heap[w.heap.size]? = some (.cells Y 5 (0, 0)) := setRow_heap _ _ M _ 5 (0, 0) (heap_alloc_new w _)
    have hne : s.data.toList ≠ [] := fun e => h0 (by rw [Lib.size_eq, e]; rfl)
    have hUS := Lib.run_unsafeString_row (P := Tryz.prog) ((w.alloc (.cells M 5)).setRow w.heap.size Y) 216 3 9 5 Tryz.underlying216 hco w.heap.size Y.size (by unfold World.shape?; rw [hgY]) s.data.toList hne (by rw [← Lib.size_eq]; omega) (by rw [← Lib.size_eq]; omega)
      (fun j x hx => Lib.cells_of_row hgY Y.size j _ (by rw [List.take_of_length_le (by rw [Array.length_toList]; exact Nat.le_refl _), hYl]; simp [Lib.byteCells, hx]))
    rw [← Lib.size_eq] at hUS
    clear hY
    go_enter Tryz.func128, Tryz.ntmps128
    go_wp2
    go_ret
    have hb1 : Below w.heap.size w (w.alloc (.cells M 5)) := (Below.refl _ w).alloc (Nat.le_refl _) _
    have hb2 : Below w.heap.size (w.alloc (.cells M 5)) ((w.alloc (.cells M 5)).setRow w.heap.size Y) := ⟨rfl, rfl, rfl, by simp, fun k hk => setRow_other _ _ _ _ (by omega)⟩
    exact ⟨rfl, Lib.below_freeze (hb1.trans hb2) (p := ⟨w.heap.size, 0, none⟩) (Nat.le_refl _) _⟩

set_option maxHeartbeats 400000 in
theorem sclone_calls (s : ByteArray) (w : World) (hlim : s.size ≤ 281474976710656) :
    Calls Tryz.prog 69 #[.string s] w fun e w' => e = .returned (.string s) ∧ Below w.heap.size w w' := by
  go_enter Tryz.func69, Tryz.ntmps69
  go_wp2_with fail
  refine (lclone_calls s _ hlim).mono ?_
  rintro e w1 ⟨rfl, hb⟩
  go_wp2_with fail
  go_ret
  exact ⟨rfl, hb⟩

end Go.Proofs.YtndmbljpfpnehaaGreatDoor
namespace Go.Proofs
open Go.Shelf
def Tryz.laysC174_ren : Go.Shelf.Ren := ⟨fun | 174 => 140 | 247 => 180 | 245 => 181 | 287 => 210 | 279 => 211 | 280 => 212 | 281 => 213 | 282 => 214 | 321 => 235 | 322 => 236 | 316 => 128 | 171 => 238 | 205 => 237 | 243 => 245 | 246 => 108 | 283 => 157 | 284 => 158 | 285 => 159 | 286 => 160 | 129 => 188 | 317 => 187 | 318 => 189 | 319 => 190 | 320 => 191 | 337 => 218 | 338 => 219 | n => n, fun | 9 => 9 | 3 => 3 | 2 => 2 | 75 => 109 | 85 => 169 | 4 => 4 | 167 => 253 | 5 => 5 | 53 => 183 | 175 => 254 | 46 => 228 | 168 => 256 | 37 => 144 | 0 => 0 | 210 => 276 | 21 => 21 | 127 => 216 | 145 => 288 | 143 => 286 | 171 => 182 | 173 => 186 | 212 => 225 | 51 => 226 | 20 => 20 | 213 => 227 | 232 => 278 | 233 => 279 | 80 => 132 | n => n, fun | 15 => 3 | 16 => 4 | 17 => 2 | 18 => 6 | 19 => 7 | n => n⟩
theorem Tryz.laysC174 : Go.Proofs.LaysC.n174 Tryz.prog Tryz.laysC174_ren := {
  mixed := by kernel_rfl
  f129 := Tryz.func188.trans (congrArg some (by kernel_rfl))
  f171 := Tryz.func238.trans (congrArg some (by kernel_rfl))
  f174 := Tryz.func140.trans (congrArg some (by kernel_rfl))
  f205 := Tryz.func237.trans (congrArg some (by kernel_rfl))
  f243 := Tryz.func245.trans (congrArg some (by kernel_rfl))
  f245 := Tryz.func181.trans (congrArg some (by kernel_rfl))
  f246 := Tryz.func108.trans (congrArg some (by kernel_rfl))
  f247 := Tryz.func180.trans (congrArg some (by kernel_rfl))
  f279 := Tryz.func211.trans (congrArg some (by kernel_rfl))
  f280 := Tryz.func212.trans (congrArg some (by kernel_rfl))
  f281 := Tryz.func213.trans (congrArg some (by kernel_rfl))
  f282 := Tryz.func214.trans (congrArg some (by kernel_rfl))
  f283 := Tryz.func157.trans (congrArg some (by kernel_rfl))
  f284 := Tryz.func158.trans (congrArg some (by kernel_rfl))
  f285 := Tryz.func159.trans (congrArg some (by kernel_rfl))
  f286 := Tryz.func160.trans (congrArg some (by kernel_rfl))
  f287 := Tryz.func210.trans (congrArg some (by kernel_rfl))
  f316 := Tryz.func128.trans (congrArg some (by kernel_rfl))
  f317 := Tryz.func187.trans (congrArg some (by kernel_rfl))
  f318 := Tryz.func189.trans (congrArg some (by kernel_rfl))
  f319 := Tryz.func190.trans (congrArg some (by kernel_rfl))
  f320 := Tryz.func191.trans (congrArg some (by kernel_rfl))
  f321 := Tryz.func235.trans (congrArg some (by kernel_rfl))
  f322 := Tryz.func236.trans (congrArg some (by kernel_rfl))
  f337 := Tryz.func218.trans (congrArg some (by kernel_rfl))
  f338 := Tryz.func219.trans (congrArg some (by kernel_rfl))
  t0 := Tryz.underlying0
  a0 := Tryz.isAgg0
  z0 := Tryz.sizeOf0
  v0 := Tryz.zeroValue0
  t2 := Tryz.underlying2
  a2 := Tryz.isAgg2
  z2 := Tryz.sizeOf2
  v2 := Tryz.zeroValue2
  t3 := Tryz.underlying3
  a3 := Tryz.isAgg3
  z3 := Tryz.sizeOf3
  v3 := Tryz.zeroValue3
  t4 := Tryz.underlying4
  a4 := Tryz.isAgg4
  z4 := Tryz.sizeOf4
  v4 := Tryz.zeroValue4
  t5 := Tryz.underlying5
  a5 := Tryz.isAgg5
  z5 := Tryz.sizeOf5
  v5 := Tryz.zeroValue5
  t9 := Tryz.underlying9
  a9 := Tryz.isAgg9
  z9 := Tryz.sizeOf9
  v9 := Tryz.zeroValue9
  t20 := Tryz.underlying20
  a20 := Tryz.isAgg20
  z20 := Tryz.sizeOf20
  v20 := Tryz.zeroValue20
  t21 := Tryz.underlying21
  a21 := Tryz.isAgg21
  z21 := Tryz.sizeOf21
  v21 := Tryz.zeroValue21
  t37 := Tryz.underlying144
  a37 := Tryz.isAgg144
  z37 := Tryz.sizeOf144
  v37 := Tryz.zeroValue144
  t46 := Tryz.underlying228
  a46 := Tryz.isAgg228
  z46 := Tryz.sizeOf228
  v46 := Tryz.zeroValue228
  t51 := Tryz.underlying226
  a51 := Tryz.isAgg226
  z51 := Tryz.sizeOf226
  v51 := Tryz.zeroValue226
  t53 := Tryz.underlying183
  a53 := Tryz.isAgg183
  z53 := Tryz.sizeOf183
  v53 := Tryz.zeroValue183
  t75 := Tryz.underlying109
  a75 := Tryz.isAgg109
  z75 := Tryz.sizeOf109
  v75 := Tryz.zeroValue109
  t85 := Tryz.underlying169
  a85 := Tryz.isAgg169
  z85 := Tryz.sizeOf169
  v85 := Tryz.zeroValue169
  t127 := Tryz.underlying216
  a127 := Tryz.isAgg216
  z127 := Tryz.sizeOf216
  v127 := Tryz.zeroValue216
  t143 := Tryz.underlying286
  a143 := Tryz.isAgg286
  z143 := Tryz.sizeOf286
  v143 := Tryz.zeroValue286
  t145 := Tryz.underlying288
  a145 := Tryz.isAgg288
  z145 := Tryz.sizeOf288
  v145 := Tryz.zeroValue288
  t167 := Tryz.underlying253
  a167 := Tryz.isAgg253
  z167 := Tryz.sizeOf253
  v167 := Tryz.zeroValue253
  t168 := Tryz.underlying256
  a168 := Tryz.isAgg256
  z168 := Tryz.sizeOf256
  v168 := Tryz.zeroValue256
  t171 := Tryz.underlying182
  a171 := Tryz.isAgg182
  z171 := Tryz.sizeOf182
  v171 := Tryz.zeroValue182
  t173 := Tryz.underlying186
  a173 := Tryz.isAgg186
  z173 := Tryz.sizeOf186
  v173 := Tryz.zeroValue186
  t175 := Tryz.underlying254
  a175 := Tryz.isAgg254
  z175 := Tryz.sizeOf254
  v175 := Tryz.zeroValue254
  t210 := Tryz.underlying276
  a210 := Tryz.isAgg276
  z210 := Tryz.sizeOf276
  v210 := Tryz.zeroValue276
  t212 := Tryz.underlying225
  a212 := Tryz.isAgg225
  z212 := Tryz.sizeOf225
  v212 := Tryz.zeroValue225
  t213 := Tryz.underlying227
  a213 := Tryz.isAgg227
  z213 := Tryz.sizeOf227
  t232 := Tryz.underlying278
  a232 := Tryz.isAgg278
  z232 := Tryz.sizeOf278
  v232 := Tryz.zeroValue278
  t233 := Tryz.underlying279
  a233 := Tryz.isAgg279
  z233 := Tryz.sizeOf279
  v233 := Tryz.zeroValue279
  g15 := by kernel_rfl
  g16 := by kernel_rfl
  g17 := by kernel_rfl
  g18 := by kernel_rfl
  g19 := by kernel_rfl
  t80 := Tryz.underlying132
  a80 := Tryz.isAgg132
  z80 := Tryz.sizeOf132
  v80 := Tryz.zeroValue132
  i0 := by kernel_rfl
  i2 := by kernel_rfl
  i3 := by kernel_rfl
  i4 := by kernel_rfl
  i5 := by kernel_rfl
  i9 := by kernel_rfl
  i20 := by kernel_rfl
  i21 := by kernel_rfl
  i37 := by kernel_rfl
  i46 := by kernel_rfl
  i51 := by kernel_rfl
  i53 := by kernel_rfl
  i75 := by kernel_rfl
  i80 := by kernel_rfl
  i85 := by kernel_rfl
  i127 := by kernel_rfl
  i143 := by kernel_rfl
  i145 := by kernel_rfl
  i167 := by kernel_rfl
  i168 := by kernel_rfl
  i171 := by kernel_rfl
  i173 := by kernel_rfl
  i175 := by kernel_rfl
  i210 := by kernel_rfl
  i212 := by kernel_rfl
  i232 := by kernel_rfl
  i233 := by kernel_rfl
  m15 := by kernel_rfl
  m16 := by kernel_rfl
  m17 := by kernel_rfl
  m18 := by kernel_rfl
  m19 := by kernel_rfl
  c0 := by kernel_rfl
  c2 := by kernel_rfl
  c3 := by kernel_rfl
  c4 := by kernel_rfl
  c5 := by kernel_rfl
  c9 := by kernel_rfl
  c20 := by kernel_rfl
  c21 := by kernel_rfl
  c37 := by kernel_rfl
  c46 := by kernel_rfl
  c51 := by kernel_rfl
  c53 := by kernel_rfl
  c75 := by kernel_rfl
  c80 := by kernel_rfl
  c85 := by kernel_rfl
  c127 := by kernel_rfl
  c143 := by kernel_rfl
  c145 := by kernel_rfl
  c167 := by kernel_rfl
  c168 := by kernel_rfl
  c171 := by kernel_rfl
  c173 := by kernel_rfl
  c175 := by kernel_rfl
  c210 := by kernel_rfl
  c212 := by kernel_rfl
  c213 := by kernel_rfl
  c232 := by kernel_rfl
  c233 := by kernel_rfl }
def Tryz.lays217_ren : Go.Shelf.Ren := ⟨fun | 217 => 204 | 266 => 234 | n => n, fun | 9 => 9 | 5 => 5 | 3 => 3 | n => n, fun | n => n⟩
theorem Tryz.lays217 : Go.Proofs.Lays.n217 Tryz.prog Tryz.lays217_ren := {
  mixed := by kernel_rfl
  f217 := Tryz.func204.trans (congrArg some (by kernel_rfl))
  f266 := Tryz.func234.trans (congrArg some (by kernel_rfl))
  t3 := Tryz.underlying3
  a3 := Tryz.isAgg3
  z3 := Tryz.sizeOf3
  v3 := Tryz.zeroValue3
  t5 := Tryz.underlying5
  a5 := Tryz.isAgg5
  z5 := Tryz.sizeOf5
  v5 := Tryz.zeroValue5
  t9 := Tryz.underlying9
  a9 := Tryz.isAgg9
  z9 := Tryz.sizeOf9
  v9 := Tryz.zeroValue9 }
open Go.RowKit in
/-- strconv.ParseInt(s, 10, 64), AT EVERY STRING THAT SPELLS AN int64 ('Lib.parseIntB 64 s.data.toList = .ok v'): v, AND NO ERROR. (LAID: no walk: one application.) -/
theorem Tryz.strconv_ParseInt_10_at64_ok (s : ByteArray) (hmax : s.size ≤ 9223372036854775806) (v : Int) (h : Lib.parseIntB 64 s.data.toList = .ok v) (w : World) :
    Calls Tryz.prog 140 #[.string s, .int .i64 10, .int .i64 64] w fun e w' => e = .returned (.tuple #[.int .i64 v, .nilIface]) ∧ (w' = w ∨ ∃ t, w' = Lib.bytesWorld w 5 t) := Any.strconv_ParseInt_10_at64_ok Tryz.laysC174 s hmax v h w
open Go.RowKit in
theorem Tryz.strconv_ParseInt_10_at64_range_var (s : ByteArray) (hlim : s.size ≤ 281474976710656) (h : Lib.parseIntB 64 s.data.toList = .range) (tp : TypeId) (p : Value) (w : World) (hvar : w.var? Tryz.prog "strconv.ErrRange" = some #[.iface tp p]) :
    Calls Tryz.prog 140 #[.string s, .int .i64 10, .int .i64 64] w fun e w' => ∃ N, e = .returned (.tuple #[.int .i64 (Lib.intSat 64 s.data.toList), .iface 256 (.pointer (some ⟨N, 0, none⟩))]) ∧ w.heap.size ≤ N ∧ w'.heap[N]? = some (.cells #[.string ⟨#[80, 97, 114, 115, 101, 73, 110, 116]⟩, .string s, .iface tp p] 276 (0, 0)) ∧ Below w.heap.size w w' := Any.strconv_ParseInt_10_at64_range_var Tryz.laysC174 s hlim h tp p w hvar
open Go.RowKit Go.Lib in
/-- internal/stringslite.IndexByte (what strings.IndexByte calls): IT RETURNS 'Lib.indexByte s c'; the world is as it was. (LAID: no walk: one application.) -/
theorem Tryz.stringslite_IndexByte (s : ByteArray) (c : Int) (w : World) :
    Calls Tryz.prog 204 #[.string s, .int .u8 c] w fun e w' => e = .returned (.int .i64 (Lib.indexByte s.data.toList c.toNat.toUInt8)) ∧ w' = w := Any.stringslite_IndexByte Tryz.lays217 s c w
end Go.Proofs
