/- The sum of a record: rest, step, Sum. -/
import Derived.Test.YtkmlfkbpcgkpaaaGreatDoorRows
import Derived.Test.YtkmlfkbpcgkpaaaGreatDoorWF0
import Derived.WalkKit
import Derived.WalkSpells
import Derived.WalkLawsBesides
import Derived.ScopeJumps
import Derived.Lib.Hide
import Derived.Lib.Strings
namespace Go.Proofs.YtkmlfkbpcgkpaaaGreatDoor
open Go.RowKit Go.Lib
end Go.Proofs.YtkmlfkbpcgkpaaaGreatDoor
