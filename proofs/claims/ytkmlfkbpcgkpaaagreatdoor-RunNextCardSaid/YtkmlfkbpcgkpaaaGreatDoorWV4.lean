/- Values: the sign of two. -/
import Derived.Test.YtkmlfkbpcgkpaaaGreatDoorWV3
import Derived.Deep.QuietTactic
import Derived.BigQuiet
import Derived.Deep.RegionHeld3
import Derived.IntWalk
import Derived.Deep.RegionLaw
namespace Go.Proofs.YtkmlfkbpcgkpaaaGreatDoor
open Go.RowKit Go.Lib Go.Op
theorem zaF {w w' : World} (h : Below w.heap.size w w') (n : Nat) : Below w.heap.size w (w'.drewN n):=⟨h.os,h.tape,h.output,h.size,h.block⟩
theorem zae {w w' : World} (h : Below w.heap.size w w') : Below w.heap.size w w'.drew:=⟨h.os,h.tape,h.output,h.size,h.block⟩
abbrev aggV (k n : Int) (s : ByteArray) : Value:=.agg #[.int .i64 k,.int .i64 n,.string s]
end Go.Proofs.YtkmlfkbpcgkpaaaGreatDoor
