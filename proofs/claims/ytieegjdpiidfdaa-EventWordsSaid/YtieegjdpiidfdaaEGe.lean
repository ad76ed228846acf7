/- Events: GreatEvent; an event that came in. -/
import Derived.Test.YtieegjdpiidfdaaEFe
import Derived.ProofKit
import Derived.OpenShut
import Derived.ShutString
import Derived.ChangeOld
import Derived.Deep.Strs
namespace Go.Proofs.Ytieegjdpiidfdaa
open Go.ChangeShapes Go.WideShapes Go.ChangeAt Go.RowKit Go.Lib Go.Deep
open Go.ChangeMaps (open_string shut_string)

theorem eown_ : ownKnob Try.prog.godebug = none := by kernel_rfl
theorem elaidOut : laidOutB Try.prog = true := by kernel_rfl

end Go.Proofs.Ytieegjdpiidfdaa
