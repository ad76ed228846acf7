/- Events in plain words: words, what is right, bytes there and back, what is ahead. -/
import Derived.Test.YtefcbgnckgapgaaGreatDoorV1
namespace Go.Proofs.YtefcbgnckgapgaaGreatDoor
def letterB (c : UInt8) : Bool:=decide (97≤c.toNat∧c.toNat≤122)
def charB (c : UInt8) : Bool:=letterB c || (decide (c.toNat=95) || decide (48≤c.toNat∧c.toNat≤57))
def wordB : List UInt8→Bool
 | []=>false
 | c :: t=>letterB c && (decide (t.length≤15) && t.all charB)
structure PEv where
 ts : Int
 dep : Int
 seq : Int
 name : List UInt8
 vals : List PVal
theorem wordB_len {l : List UInt8} (h : wordB l=true) : 1≤l.length∧l.length≤16:=by
 cases l with
 | nil=>cases h
 | cons c t =>
   simp only [wordB,Bool.and_eq_true,decide_eq_true_eq] at h
   simp only [List.length_cons]
   omega
end Go.Proofs.YtefcbgnckgapgaaGreatDoor
