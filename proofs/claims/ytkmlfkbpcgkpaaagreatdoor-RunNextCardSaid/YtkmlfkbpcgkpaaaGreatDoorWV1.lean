/- The program's way of reading a value, and the document's, tell what a way must. -/
import Derived.Test.YtkmlfkbpcgkpaaaGreatDoorWV0
namespace Go.Proofs.YtkmlfkbpcgkpaaaGreatDoor
end Go.Proofs.YtkmlfkbpcgkpaaaGreatDoor
