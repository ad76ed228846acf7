/- The record of the first frame: first. -/
import Derived.Test.YtkmlfkbpcgkpaaaGreatDoorWF2
namespace Go.Proofs.YtkmlfkbpcgkpaaaGreatDoor
open Go.RowKit Go.Lib
def strB (l : List UInt8) : ByteArray:=⟨l.toArray⟩
theorem zax (l : List UInt8) : (strB l).data.toList=l:=by simp [strB]
theorem zap (l : List UInt8) : (strB l).size=l.length:=by simp [strB,ByteArray.size]
end Go.Proofs.YtkmlfkbpcgkpaaaGreatDoor
