/- All records of the frames that bytes begin with: Cut. -/
import Derived.Test.YtefcbgnckgapgaaGreatDoorF3
namespace Go.Proofs.YtefcbgnckgapgaaGreatDoor
open Go.RowKit Go.Lib
end Go.Proofs.YtefcbgnckgapgaaGreatDoor
