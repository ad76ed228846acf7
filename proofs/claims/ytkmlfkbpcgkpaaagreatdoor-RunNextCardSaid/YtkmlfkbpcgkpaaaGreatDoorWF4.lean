/- All records of the frames that bytes begin with: Cut. -/
import Derived.Test.YtkmlfkbpcgkpaaaGreatDoorWF3
namespace Go.Proofs.YtkmlfkbpcgkpaaaGreatDoor
open Go.RowKit Go.Lib
end Go.Proofs.YtkmlfkbpcgkpaaaGreatDoor
