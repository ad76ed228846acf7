/- Words: what single bytes and digits are. -/
import Derived.Test.YtkmlfkbpcgkpaaaGreatDoorWL0x
import Derived.Test.YtkmlfkbpcgkpaaaGreatDoorWV3
import Derived.Test.YtkmlfkbpcgkpaaaGreatDoorWD2
import Derived.Test.YtkmlfkbpcgkpaaaGreatDoorWLS
import Derived.Lib.Hide
namespace Go.Proofs.YtkmlfkbpcgkpaaaGreatDoor
open Go.RowKit Go.Lib Go.Op
structure XVars (w : World) : Prop where
 esyn : ∃ tp p,w.var? Tryz.prog "strconv.ErrSyntax"=some #[.iface tp p]
 eran : ∃ tp p,w.var? Tryz.prog "strconv.ErrRange"=some #[.iface tp p]
end Go.Proofs.YtkmlfkbpcgkpaaaGreatDoor
