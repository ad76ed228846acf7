/- Words: a scope in which the run jumps onwards; the token that bytes begin with. -/
import Derived.Test.YtkmlfkbpcgkpaaaGreatDoorWL2x
import Derived.Lib.PathFns
import Derived.ScopeJumps
import Derived.WalkMore
namespace Go.Proofs.YtkmlfkbpcgkpaaaGreatDoor
open Go.RowKit Go.Lib Go.Op
end Go.Proofs.YtkmlfkbpcgkpaaaGreatDoor
