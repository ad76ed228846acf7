/- The record of the first frame: first. -/
import Derived.Test.YtefcbgnckgapgaaGreatDoorF2
namespace Go.Proofs.YtefcbgnckgapgaaGreatDoor
open Go.RowKit Go.Lib
def strB (l : List UInt8) : ByteArray:=⟨l.toArray⟩
theorem strB_list (l : List UInt8) : (strB l).data.toList=l:=by simp [strB]
theorem strB_size (l : List UInt8) : (strB l).size=l.length:=by simp [strB,ByteArray.size]
end Go.Proofs.YtefcbgnckgapgaaGreatDoor
