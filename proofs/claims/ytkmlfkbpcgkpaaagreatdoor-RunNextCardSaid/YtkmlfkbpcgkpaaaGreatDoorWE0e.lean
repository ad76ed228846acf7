/- Events in plain words: words, what is right, bytes there and back, what is ahead. -/
import Derived.Test.YtkmlfkbpcgkpaaaGreatDoorWV1
namespace Go.Proofs.YtkmlfkbpcgkpaaaGreatDoor
def letterB (c : UInt8) : Bool:=decide (97≤c.toNat∧c.toNat≤122)
def charB (c : UInt8) : Bool:=letterB c || (decide (c.toNat=95) || decide (48≤c.toNat∧c.toNat≤57))
def wordB : List UInt8→Bool
 | []=>false
 | c :: t=>letterB c && (decide (t.length≤15) && t.all charB)
structure PEv where
 ts : Int
 dep : Int
 seq : Int
 name : List UInt8
 vals : List PVal
def numB (n : Int) : Bool:=decide (0≤n∧n≤1099511627776)
def rightE (e : PEv) : Bool:=numB e.ts && (numB e.seq && (decide (0≤e.dep∧e.dep≤3) && (wordB e.name && (decide (e.vals.length≤8) && e.vals.all rightB))))
theorem zgq {e : PEv} : rightE e=true ↔ (0≤e.ts∧e.ts≤1099511627776)∧(0≤e.seq∧e.seq≤1099511627776)∧(0≤e.dep∧e.dep≤3)∧wordB e.name=true∧e.vals.length≤8∧e.vals.all rightB=true:=by
 simp only [rightE,numB,Bool.and_eq_true,decide_eq_true_eq]
theorem zha {l : List UInt8} (h : wordB l=true) : 1≤l.length∧l.length≤16:=by
 cases l with
 | nil=>cases h
 | cons c t =>
   simp only [wordB,Bool.and_eq_true,decide_eq_true_eq] at h
   simp only [List.length_cons]
   omega
def lessE (t d s t' d' s' : Int) : Bool:=decide (t < t'∨t=t'∧(d < d'∨d=d'∧s < s'))
end Go.Proofs.YtkmlfkbpcgkpaaaGreatDoor
