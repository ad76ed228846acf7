/- Words: a token; all tokens of a text. -/
import Derived.Test.YtefcbgnckgapgaaL3x
import Derived.Test.YtefcbgnckgapgaaF4
namespace Go.Proofs.Ytefcbgnckgapgaa
open Go.RowKit Go.Lib Go.Op

theorem ext_list (s : ByteArray) (i j : Nat) : (s.extract i j).data.toList = (s.data.toList.take j).drop i := by
  rw [ByteArray.data_extract]
  simp [List.extract_eq_take_drop, List.drop_take]
theorem str_of {s : ByteArray} {l : List UInt8} (h : s.data.toList = l) : s = strB l := by
  apply ByteArray.ext
  apply Array.ext'
  rw [h]
  simp [strB]

def TokQ (w : World) (k : Nat) (l : List UInt8) (a : Nat) (e : Ending) (w' : World) : Prop := e = .returned (.agg #[.int .i64 k, .string (strB (textX k l)), .int .i64 a]) ∧ Below w.heap.size w w'

end Go.Proofs.Ytefcbgnckgapgaa
