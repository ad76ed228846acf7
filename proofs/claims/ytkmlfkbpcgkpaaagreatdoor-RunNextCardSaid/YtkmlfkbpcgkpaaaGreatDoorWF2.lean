/- Bytes that can be read; two bytes of a number, put and read. -/
import Derived.Test.YtkmlfkbpcgkpaaaGreatDoorWF1
import Derived.Lib.ConvBytes
import Derived.Laws.BytesArg
import Derived.Lib.AppendStr
import Derived.Laws.MakeOwn
import Derived.Maps.AppendAt
import Derived.Deep.QuietTactic
import Derived.BigQuiet
import Derived.IntWalk
import Derived.Lib.BufferWrite
namespace Go.Proofs.YtkmlfkbpcgkpaaaGreatDoor
open Go.RowKit Go.Lib
def BRow (w : World) (v : Value) (bs : List UInt8) : Prop :=
 ∃ a c,v=.slice a bs.length c∧bs.length≤c∧c≤maxLen∧(a=none→c=0)∧∀ j x,bs[j]?=some x→∃ A,a=some A∧w.cell? (A.add j)=some (.int .u8 x.toNat)
theorem zaS {k : IntKind} {a b : Int} (h : a=b) : Ending.returned (.int k a)=.returned (.int k b):=by rw [h]
end Go.Proofs.YtkmlfkbpcgkpaaaGreatDoor
