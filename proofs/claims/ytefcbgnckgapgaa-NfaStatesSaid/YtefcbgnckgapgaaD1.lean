/- The small functions of a device that touch its own block alone (powerless, done, New, Acts, Down, Fuse) and isName: what each call gives back and what it leaves, whatever the block holds. -/
import Derived.Test.YtefcbgnckgapgaaRows
import Derived.Test.YtefcbgnckgapgaaD0
import Derived.WalkKit
import Derived.WalkSpells
import Derived.WalkLawsBesides
namespace Go.Proofs.Ytefcbgnckgapgaa
open Go.RowKit Go.Lib

/-- What 'done' leaves of a fuse. -/
def fuseLess (f : Int) : Int := if 0 < f then f - 1 else f

end Go.Proofs.Ytefcbgnckgapgaa
