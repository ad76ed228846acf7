/- Values compared and reckoned with, in plain words. -/
import Derived.Test.YtkmlfkbpcgkpaaaGreatDoorWV1
namespace Go.Proofs.YtkmlfkbpcgkpaaaGreatDoor
open Go Go.Op
end Go.Proofs.YtkmlfkbpcgkpaaaGreatDoor
