/- Words: how many bytes are of a kind. -/
import Derived.Test.YtkmlfkbpcgkpaaaGreatDoorWL1x
namespace Go.Proofs.YtkmlfkbpcgkpaaaGreatDoor
open Go.RowKit Go.Lib Go.Op
end Go.Proofs.YtkmlfkbpcgkpaaaGreatDoor
