/- The small functions of a device that touch its own block alone (powerless, done, New, Acts, Down, Fuse) and isName: what each call gives back and what it leaves, whatever the block holds. -/
import Derived.Test.YtkmlfkbpcgkpaaaGreatDoorRows
import Derived.Test.YtkmlfkbpcgkpaaaGreatDoorWD0
import Derived.WalkKit
import Derived.WalkSpells
import Derived.WalkLawsBesides
namespace Go.Proofs.YtkmlfkbpcgkpaaaGreatDoor
open Go.RowKit Go.Lib
end Go.Proofs.YtkmlfkbpcgkpaaaGreatDoor
