/- Words: how many bytes are of a kind. -/
import Derived.Test.YtefcbgnckgapgaaL1x
namespace Go.Proofs.Ytefcbgnckgapgaa
open Go.RowKit Go.Lib Go.Op

end Go.Proofs.Ytefcbgnckgapgaa
