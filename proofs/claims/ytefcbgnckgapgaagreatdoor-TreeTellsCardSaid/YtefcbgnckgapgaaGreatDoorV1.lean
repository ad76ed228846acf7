/- The program's way of reading a value, and the document's, tell what a way must. -/
import Derived.Test.YtefcbgnckgapgaaGreatDoorV0
namespace Go.Proofs.YtefcbgnckgapgaaGreatDoor
end Go.Proofs.YtefcbgnckgapgaaGreatDoor
