/- Plain words on a device, without a program: a right name, and small facts on lists of bytes. -/
import Derived.Lib.UnsafeStr
import Derived.Maps.OwnSet
import Derived.Maps.Range
namespace Go.Proofs.YtkmlfkbpcgkpaaaGreatDoor
open Go.RowKit Go.Lib
end Go.Proofs.YtkmlfkbpcgkpaaaGreatDoor
