/- Values compared and reckoned with, in plain words. -/
import Derived.Test.YtefcbgnckgapgaaGreatDoorV1
namespace Go.Proofs.YtefcbgnckgapgaaGreatDoor
open Go Go.Op
end Go.Proofs.YtefcbgnckgapgaaGreatDoor
