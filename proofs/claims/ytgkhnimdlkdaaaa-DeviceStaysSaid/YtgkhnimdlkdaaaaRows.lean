/-
  No cell of these rows narrows 'for every input' (looked for: loops, veiled, ifaces, maps, wideKeys, modest, calm, conditions, laid).
  DERIVED. THE GIVEN ROWS OF THIS SEAT. 8 by the template 'for every input the law returns true; each argument reads behind the call as it read before'; 0 by the template 'total and deterministic' (their statements: YtgkhnimdlkdaaaaTotals.lean).
  GIVEN WITH THE SEED: the statements are not yours to turn. If you find one false, say at which input.
  Laid BY PROGRAM, IN A SANDBOX (cutbox-rows.mjs): the forced cells as the released guide's own fill.sh prints them over the translation b2cbd8f0601b6799… (all of the seat's roots in one cut). By AI agents, Wed Nov 11 2026. No macro, syntax, notation, axiom, sorry.
-/
import Derived.Test.YtgkhnimdlkdaaaaChecked
import GoSem.Claim
import GoSem.ClaimJoined
import GoSem.ClaimMapViews
import Derived.JoinedTies
import Derived.KernelRfl
namespace Go.Proofs.Ytgkhnimdlkdaaaa
/- THE CELL 'sum', in the pinned program and in every row, IS THE sha256 OF THE DUMP (.gsa) THAT YtgkhnimdlkdaaaaProg.lean LOADS. Nothing in Lean hashes anything: it is a label: what it is worth is what the hold of that sum in a sandbox is worth. -/
noncomputable def Try.pinned : Pinned := { name := "ytgkhnimdlkdaaaa", sum := "b2cbd8f0601b679926ca3683d25bf1b2149d7bd456297c960f26df745a767a14", checked := Try.checked }
namespace Rows
def none {H : Type} : Left H := { results := [], args := [] }

/-- 'augurylaw01.DevicePlays': WHATEVER THE INPUT: true; the input reads as it did. -/
def devicePlaysSpec : ChangeSpec := { name := "devicePlays", fn := fun _ => fun
  | [d1, d2, d3] => { results := [.lit (.bool true)], args := [d1, d2, d3] }
  | _ => none }
def devicePlaysRow : OpenClaim := { program := "ytgkhnimdlkdaaaa", sum := "b2cbd8f0601b679926ca3683d25bf1b2149d7bd456297c960f26df745a767a14", func := "augury/augurylaw01.DevicePlays", spec := "devicePlays", unfollowed := true, recurses := true, apart := false }
def DevicePlaysSaid : Prop := devicePlaysRow.holds Try.pinned (OpenSpec.ofChange devicePlaysSpec)

/-- ITS FALSE NEIGHBOUR: 'it returns false'. Refute it at one input. -/
def devicePlaysWrong : ChangeSpec := { name := "devicePlays", fn := fun _ => fun
  | [d1, d2, d3] => { results := [.lit (.bool false)], args := [d1, d2, d3] }
  | _ => none }
def DevicePlaysWrongFalsely : Prop := devicePlaysRow.holds Try.pinned (OpenSpec.ofChange devicePlaysWrong)

/-- 'augurylaw01.DeviceStays': WHATEVER THE INPUT: true; the input reads as it did. -/
def deviceStaysSpec : ChangeSpec := { name := "deviceStays", fn := fun _ => fun
  | [d1, d2, d3, d4, d5] => { results := [.lit (.bool true)], args := [d1, d2, d3, d4, d5] }
  | _ => none }
def deviceStaysRow : OpenClaim := { program := "ytgkhnimdlkdaaaa", sum := "b2cbd8f0601b679926ca3683d25bf1b2149d7bd456297c960f26df745a767a14", func := "augury/augurylaw01.DeviceStays", spec := "deviceStays", unfollowed := true, recurses := true, apart := false }
def DeviceStaysSaid : Prop := deviceStaysRow.holds Try.pinned (OpenSpec.ofChange deviceStaysSpec)

/-- ITS FALSE NEIGHBOUR: 'it returns false'. Refute it at one input. -/
def deviceStaysWrong : ChangeSpec := { name := "deviceStays", fn := fun _ => fun
  | [d1, d2, d3, d4, d5] => { results := [.lit (.bool false)], args := [d1, d2, d3, d4, d5] }
  | _ => none }
def DeviceStaysWrongFalsely : Prop := deviceStaysRow.holds Try.pinned (OpenSpec.ofChange deviceStaysWrong)

/-- 'augurylaw01.DeviceRefused': WHATEVER THE INPUT: true; the input reads as it did. -/
def deviceRefusedSpec : ChangeSpec := { name := "deviceRefused", fn := fun _ => fun
  | [d1, d2, d3] => { results := [.lit (.bool true)], args := [d1, d2, d3] }
  | _ => none }
def deviceRefusedRow : OpenClaim := { program := "ytgkhnimdlkdaaaa", sum := "b2cbd8f0601b679926ca3683d25bf1b2149d7bd456297c960f26df745a767a14", func := "augury/augurylaw01.DeviceRefused", spec := "deviceRefused", unfollowed := true, recurses := true, apart := false }
def DeviceRefusedSaid : Prop := deviceRefusedRow.holds Try.pinned (OpenSpec.ofChange deviceRefusedSpec)

/-- ITS FALSE NEIGHBOUR: 'it returns false'. Refute it at one input. -/
def deviceRefusedWrong : ChangeSpec := { name := "deviceRefused", fn := fun _ => fun
  | [d1, d2, d3] => { results := [.lit (.bool false)], args := [d1, d2, d3] }
  | _ => none }
def DeviceRefusedWrongFalsely : Prop := deviceRefusedRow.holds Try.pinned (OpenSpec.ofChange deviceRefusedWrong)

/-- 'augurylaw01.DeviceFuse': WHATEVER THE INPUT: true; the input reads as it did. -/
def deviceFuseSpec : ChangeSpec := { name := "deviceFuse", fn := fun _ => fun
  | [d1, d2] => { results := [.lit (.bool true)], args := [d1, d2] }
  | _ => none }
def deviceFuseRow : OpenClaim := { program := "ytgkhnimdlkdaaaa", sum := "b2cbd8f0601b679926ca3683d25bf1b2149d7bd456297c960f26df745a767a14", func := "augury/augurylaw01.DeviceFuse", spec := "deviceFuse", unfollowed := true, recurses := true, apart := false }
def DeviceFuseSaid : Prop := deviceFuseRow.holds Try.pinned (OpenSpec.ofChange deviceFuseSpec)

/-- ITS FALSE NEIGHBOUR: 'it returns false'. Refute it at one input. -/
def deviceFuseWrong : ChangeSpec := { name := "deviceFuse", fn := fun _ => fun
  | [d1, d2] => { results := [.lit (.bool false)], args := [d1, d2] }
  | _ => none }
def DeviceFuseWrongFalsely : Prop := deviceFuseRow.holds Try.pinned (OpenSpec.ofChange deviceFuseWrong)

/-- 'augurylaw01.DeviceGrows': WHATEVER THE INPUT: true; the input reads as it did. -/
def deviceGrowsSpec : ChangeSpec := { name := "deviceGrows", fn := fun _ => fun
  | [d1, d2, d3] => { results := [.lit (.bool true)], args := [d1, d2, d3] }
  | _ => none }
def deviceGrowsRow : OpenClaim := { program := "ytgkhnimdlkdaaaa", sum := "b2cbd8f0601b679926ca3683d25bf1b2149d7bd456297c960f26df745a767a14", func := "augury/augurylaw01.DeviceGrows", spec := "deviceGrows", unfollowed := true, recurses := true, apart := false }
def DeviceGrowsSaid : Prop := deviceGrowsRow.holds Try.pinned (OpenSpec.ofChange deviceGrowsSpec)

/-- ITS FALSE NEIGHBOUR: 'it returns false'. Refute it at one input. -/
def deviceGrowsWrong : ChangeSpec := { name := "deviceGrows", fn := fun _ => fun
  | [d1, d2, d3] => { results := [.lit (.bool false)], args := [d1, d2, d3] }
  | _ => none }
def DeviceGrowsWrongFalsely : Prop := deviceGrowsRow.holds Try.pinned (OpenSpec.ofChange deviceGrowsWrong)

/-- 'augurylaw01.DeviceOther': WHATEVER THE INPUT: true; the input reads as it did. -/
def deviceOtherSpec : ChangeSpec := { name := "deviceOther", fn := fun _ => fun
  | [d1, d2, d3, d4] => { results := [.lit (.bool true)], args := [d1, d2, d3, d4] }
  | _ => none }
def deviceOtherRow : OpenClaim := { program := "ytgkhnimdlkdaaaa", sum := "b2cbd8f0601b679926ca3683d25bf1b2149d7bd456297c960f26df745a767a14", func := "augury/augurylaw01.DeviceOther", spec := "deviceOther", unfollowed := true, recurses := true, apart := false }
def DeviceOtherSaid : Prop := deviceOtherRow.holds Try.pinned (OpenSpec.ofChange deviceOtherSpec)

/-- ITS FALSE NEIGHBOUR: 'it returns false'. Refute it at one input. -/
def deviceOtherWrong : ChangeSpec := { name := "deviceOther", fn := fun _ => fun
  | [d1, d2, d3, d4] => { results := [.lit (.bool false)], args := [d1, d2, d3, d4] }
  | _ => none }
def DeviceOtherWrongFalsely : Prop := deviceOtherRow.holds Try.pinned (OpenSpec.ofChange deviceOtherWrong)

/-- 'augurylaw01.DeviceTwice': WHATEVER THE INPUT: true; the input reads as it did. -/
def deviceTwiceSpec : ChangeSpec := { name := "deviceTwice", fn := fun _ => fun
  | [d1, d2, d3, d4] => { results := [.lit (.bool true)], args := [d1, d2, d3, d4] }
  | _ => none }
def deviceTwiceRow : OpenClaim := { program := "ytgkhnimdlkdaaaa", sum := "b2cbd8f0601b679926ca3683d25bf1b2149d7bd456297c960f26df745a767a14", func := "augury/augurylaw01.DeviceTwice", spec := "deviceTwice", unfollowed := true, recurses := true, apart := false }
def DeviceTwiceSaid : Prop := deviceTwiceRow.holds Try.pinned (OpenSpec.ofChange deviceTwiceSpec)

/-- ITS FALSE NEIGHBOUR: 'it returns false'. Refute it at one input. -/
def deviceTwiceWrong : ChangeSpec := { name := "deviceTwice", fn := fun _ => fun
  | [d1, d2, d3, d4] => { results := [.lit (.bool false)], args := [d1, d2, d3, d4] }
  | _ => none }
def DeviceTwiceWrongFalsely : Prop := deviceTwiceRow.holds Try.pinned (OpenSpec.ofChange deviceTwiceWrong)

/-- 'augurylaw01.DeviceRemoved': WHATEVER THE INPUT: true; the input reads as it did. -/
def deviceRemovedSpec : ChangeSpec := { name := "deviceRemoved", fn := fun _ => fun
  | [d1, d2, d3, d4, d5] => { results := [.lit (.bool true)], args := [d1, d2, d3, d4, d5] }
  | _ => none }
def deviceRemovedRow : OpenClaim := { program := "ytgkhnimdlkdaaaa", sum := "b2cbd8f0601b679926ca3683d25bf1b2149d7bd456297c960f26df745a767a14", func := "augury/augurylaw01.DeviceRemoved", spec := "deviceRemoved", unfollowed := true, recurses := true, apart := false }
def DeviceRemovedSaid : Prop := deviceRemovedRow.holds Try.pinned (OpenSpec.ofChange deviceRemovedSpec)

/-- ITS FALSE NEIGHBOUR: 'it returns false'. Refute it at one input. -/
def deviceRemovedWrong : ChangeSpec := { name := "deviceRemoved", fn := fun _ => fun
  | [d1, d2, d3, d4, d5] => { results := [.lit (.bool false)], args := [d1, d2, d3, d4, d5] }
  | _ => none }
def DeviceRemovedWrongFalsely : Prop := deviceRemovedRow.holds Try.pinned (OpenSpec.ofChange deviceRemovedWrong)

/- THE SECOND FORM. 'bulk': how many values and letters a reading holds, each counted each time it is reached (what is shared counts as often as it is met; a slice's spare places count too). A statement '..UptoSaid' is the law's where the arguments, and the package variables that the reading takes, are together of bulk at most 1048576: NARROWER than '..Said'. Prove '..Said' where nothing that the law and all that it calls make is longer than what came in: it says more and counts as full. Else prove '..UptoSaid'. A law counts once. -/
mutual
def uptoBulk {H : Type} : DataW H → Nat
  | .lit (.string bytes) => bytes.length + 1
  | .lit _ => 1
  | .nil => 1
  | .ptr d => uptoBulk d + 1
  | .slice elems spare => uptoBulkAll elems + uptoBulkAll spare + 1
  | .agg parts => uptoBulkAll parts + 1
  | .iface _ d => uptoBulk d + 1
  | .map entries => uptoBulkEntries entries + 1
  | .held _ => 1
def uptoBulkAll {H : Type} : List (DataW H) → Nat
  | [] => 0
  | d :: r => uptoBulk d + uptoBulkAll r
def uptoBulkEntries {H : Type} : List (Lit × DataW H) → Nat
  | [] => 0
  | x :: r => uptoBulkEntry x + uptoBulkEntries r
def uptoBulkEntry {H : Type} : Lit × DataW H → Nat
  | (.string bytes, d) => bytes.length + uptoBulk d + 1
  | (_, d) => uptoBulk d + 1
 end
def uptoSmall : (H : Type) → List (DataW H) → Bool := fun _ ds => decide (uptoBulkAll ds ≤ 1048576)
def OpenSpec.upto (s : _root_.Go.ChangeSpec) : _root_.Go.OpenSpec := { _root_.Go.OpenSpec.ofChange s with cond := some uptoSmall }

/-- 'augurylaw01.DevicePlays', WHERE WHAT IT READS IS OF BULK AT MOST 1048576: true; the input reads as it did. -/
def devicePlaysUptoRow : OpenClaim := { program := "ytgkhnimdlkdaaaa", sum := "b2cbd8f0601b679926ca3683d25bf1b2149d7bd456297c960f26df745a767a14", func := "augury/augurylaw01.DevicePlays", spec := "devicePlays", unfollowed := true, recurses := true, apart := false, narrowed := true }
def DevicePlaysUptoSaid : Prop := devicePlaysUptoRow.holds Try.pinned (OpenSpec.upto devicePlaysSpec)

/-- 'augurylaw01.DeviceStays', WHERE WHAT IT READS IS OF BULK AT MOST 1048576: true; the input reads as it did. -/
def deviceStaysUptoRow : OpenClaim := { program := "ytgkhnimdlkdaaaa", sum := "b2cbd8f0601b679926ca3683d25bf1b2149d7bd456297c960f26df745a767a14", func := "augury/augurylaw01.DeviceStays", spec := "deviceStays", unfollowed := true, recurses := true, apart := false, narrowed := true }
def DeviceStaysUptoSaid : Prop := deviceStaysUptoRow.holds Try.pinned (OpenSpec.upto deviceStaysSpec)

/-- 'augurylaw01.DeviceRefused', WHERE WHAT IT READS IS OF BULK AT MOST 1048576: true; the input reads as it did. -/
def deviceRefusedUptoRow : OpenClaim := { program := "ytgkhnimdlkdaaaa", sum := "b2cbd8f0601b679926ca3683d25bf1b2149d7bd456297c960f26df745a767a14", func := "augury/augurylaw01.DeviceRefused", spec := "deviceRefused", unfollowed := true, recurses := true, apart := false, narrowed := true }
def DeviceRefusedUptoSaid : Prop := deviceRefusedUptoRow.holds Try.pinned (OpenSpec.upto deviceRefusedSpec)

/-- 'augurylaw01.DeviceFuse', WHERE WHAT IT READS IS OF BULK AT MOST 1048576: true; the input reads as it did. -/
def deviceFuseUptoRow : OpenClaim := { program := "ytgkhnimdlkdaaaa", sum := "b2cbd8f0601b679926ca3683d25bf1b2149d7bd456297c960f26df745a767a14", func := "augury/augurylaw01.DeviceFuse", spec := "deviceFuse", unfollowed := true, recurses := true, apart := false, narrowed := true }
def DeviceFuseUptoSaid : Prop := deviceFuseUptoRow.holds Try.pinned (OpenSpec.upto deviceFuseSpec)

/-- 'augurylaw01.DeviceGrows', WHERE WHAT IT READS IS OF BULK AT MOST 1048576: true; the input reads as it did. -/
def deviceGrowsUptoRow : OpenClaim := { program := "ytgkhnimdlkdaaaa", sum := "b2cbd8f0601b679926ca3683d25bf1b2149d7bd456297c960f26df745a767a14", func := "augury/augurylaw01.DeviceGrows", spec := "deviceGrows", unfollowed := true, recurses := true, apart := false, narrowed := true }
def DeviceGrowsUptoSaid : Prop := deviceGrowsUptoRow.holds Try.pinned (OpenSpec.upto deviceGrowsSpec)

/-- 'augurylaw01.DeviceOther', WHERE WHAT IT READS IS OF BULK AT MOST 1048576: true; the input reads as it did. -/
def deviceOtherUptoRow : OpenClaim := { program := "ytgkhnimdlkdaaaa", sum := "b2cbd8f0601b679926ca3683d25bf1b2149d7bd456297c960f26df745a767a14", func := "augury/augurylaw01.DeviceOther", spec := "deviceOther", unfollowed := true, recurses := true, apart := false, narrowed := true }
def DeviceOtherUptoSaid : Prop := deviceOtherUptoRow.holds Try.pinned (OpenSpec.upto deviceOtherSpec)

/-- 'augurylaw01.DeviceTwice', WHERE WHAT IT READS IS OF BULK AT MOST 1048576: true; the input reads as it did. -/
def deviceTwiceUptoRow : OpenClaim := { program := "ytgkhnimdlkdaaaa", sum := "b2cbd8f0601b679926ca3683d25bf1b2149d7bd456297c960f26df745a767a14", func := "augury/augurylaw01.DeviceTwice", spec := "deviceTwice", unfollowed := true, recurses := true, apart := false, narrowed := true }
def DeviceTwiceUptoSaid : Prop := deviceTwiceUptoRow.holds Try.pinned (OpenSpec.upto deviceTwiceSpec)

/-- 'augurylaw01.DeviceRemoved', WHERE WHAT IT READS IS OF BULK AT MOST 1048576: true; the input reads as it did. -/
def deviceRemovedUptoRow : OpenClaim := { program := "ytgkhnimdlkdaaaa", sum := "b2cbd8f0601b679926ca3683d25bf1b2149d7bd456297c960f26df745a767a14", func := "augury/augurylaw01.DeviceRemoved", spec := "deviceRemoved", unfollowed := true, recurses := true, apart := false, narrowed := true }
def DeviceRemovedUptoSaid : Prop := deviceRemovedUptoRow.holds Try.pinned (OpenSpec.upto deviceRemovedSpec)

end Rows
end Go.Proofs.Ytgkhnimdlkdaaaa
