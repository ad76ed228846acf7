/- strings.Clone gives back the same string and turns nothing that was there; bytes.Clone gives back nil of nil, and else a new row of the same bytes. -/
import Derived.Test.YtefcbgnckgapgaaD1
import Derived.Lib.Strings
import Derived.Lib.BufferWrite
import Derived.Lib.Hide
import Derived.Laws.MakeOwn
namespace Go.Proofs.Ytefcbgnckgapgaa
open Go.RowKit Go.Lib

theorem infoB : (Try.prog.info? 5).map (fun i => (i.zero, i.size, i.bytes)) = some (some (.int .u8 0), 1, 1) := by kernel_rfl

end Go.Proofs.Ytefcbgnckgapgaa
