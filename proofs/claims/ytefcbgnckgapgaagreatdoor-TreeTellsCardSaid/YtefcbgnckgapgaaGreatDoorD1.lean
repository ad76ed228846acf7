/- The small functions of a device that touch its own block alone (powerless, done, New, Acts, Down, Fuse) and isName: what each call gives back and what it leaves, whatever the block holds. -/
import Derived.Test.YtefcbgnckgapgaaGreatDoorRows
import Derived.Test.YtefcbgnckgapgaaGreatDoorD0
import Derived.WalkKit
import Derived.WalkSpells
import Derived.WalkLawsBesides
namespace Go.Proofs.YtefcbgnckgapgaaGreatDoor
open Go.RowKit Go.Lib
end Go.Proofs.YtefcbgnckgapgaaGreatDoor
