/- Words: a token; all tokens of a text. -/
import Derived.Test.YtkmlfkbpcgkpaaaGreatDoorWL3x
import Derived.Test.YtkmlfkbpcgkpaaaGreatDoorWF4
namespace Go.Proofs.YtkmlfkbpcgkpaaaGreatDoor
open Go.RowKit Go.Lib Go.Op
theorem zf2 (s : ByteArray) (i j : Nat) : (s.extract i j).data.toList=(s.data.toList.take j).drop i:=by
 rw [ByteArray.data_extract]
 simp [List.extract_eq_take_drop,List.drop_take]
theorem zf3 {s : ByteArray} {l : List UInt8} (h : s.data.toList=l) : s=strB l:=by
 apply ByteArray.ext
 apply Array.ext'
 rw [h]
 simp [strB]
end Go.Proofs.YtkmlfkbpcgkpaaaGreatDoor
