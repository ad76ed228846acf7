/-
  NARROWER THAN 'FOR EVERY INPUT', by the rows' own cells (each row's printed sentence says how): RunSound: loops, laid · RunApart: loops, laid · RunTimes: loops, laid · RunNext: loops, laid · RunWithin: loops, laid · RunBegins: loops, laid · RunQuiet: loops, laid · LedgerAny: loops, laid · LedgerParts: loops, laid · LedgerGrows: loops, laid · LedgerSorted: loops, laid · LedgerBegins: loops, laid.
  DERIVED. THE GIVEN ROWS OF THIS SEAT. 12 by the template 'for every input the law returns true; each argument reads behind the call as it read before'; 0 by the template 'total and deterministic' (their statements: YtkmlfkbpcgkpaaaGreatDoorTotals.lean).
  GIVEN WITH THE SEED: the statements are not yours to turn. If you find one false, say at which input.
  Laid BY PROGRAM, IN A SANDBOX (cutbox-rows.mjs): the forced cells as the released guide's own fill.sh prints them over the translation beb4d1b80a82d93a… (all of the seat's roots in one cut). By AI agents, Wed Nov 11 2026. No macro, syntax, notation, axiom, sorry.
-/
import Derived.Test.YtkmlfkbpcgkpaaaGreatDoorChecked
import GoSem.Claim
import GoSem.ClaimJoined
import GoSem.ClaimMapViews
import Derived.JoinedTies
import Derived.KernelRfl
namespace Go.Proofs.YtkmlfkbpcgkpaaaGreatDoor
/- THE CELL 'sum', in the pinned program and in every row, IS THE sha256 OF THE DUMP (.gsa) THAT YtkmlfkbpcgkpaaaGreatDoorProg.lean LOADS. Nothing in Lean hashes anything: it is a label: what it is worth is what the hold of that sum in a sandbox is worth. -/
noncomputable def Tryz.pinned : Pinned := { name := "ytkmlfkbpcgkpaaagreatdoor", sum := "beb4d1b80a82d93a83b5ca7d140878beff697893a6149c43cc502085c5f21421", checked := Tryz.checked }
namespace Rows
def none {H : Type} : Left H := { results := [], args := [] }

/- WHAT THE LISTED PACKAGE-LEVEL VARIABLES READ AS WHEN THE CALL BEGINS. Each datum BY PROGRAM (the guide's laid-datum.mjs) off the statement by which the dump's own 'gosem.cut.vars' lays the variable. In a bare row this is a premise. The card (YtkmlfkbpcgkpaaaGreatDoorCards.lean) ties it to the program's text. -/
def laid_augury_value_holds {H : Type} : DataW H := .agg [.agg [.lit (.bool false), .lit (.bool false), .lit (.bool false)], .agg [.lit (.bool false), .lit (.bool true), .lit (.bool false)], .agg [.lit (.bool true), .lit (.bool false), .lit (.bool true)], .agg [.lit (.bool true), .lit (.bool false), .lit (.bool false)], .agg [.lit (.bool true), .lit (.bool true), .lit (.bool false)], .agg [.lit (.bool false), .lit (.bool false), .lit (.bool true)], .agg [.lit (.bool false), .lit (.bool true), .lit (.bool true)]]

/-- 'augurylaw13.RunSound': WHATEVER THE INPUT: true; the input reads as it did. -/
def runSoundSpec : ChangeSpec := { name := "runSound", fn := fun _ => fun
  | [d1, d2, d3, d4] => { results := [.lit (.bool true)], args := [d1, d2, d3, d4] }
  | _ => none }
def runSoundRow : OpenClaim := { program := "ytkmlfkbpcgkpaaagreatdoor", sum := "beb4d1b80a82d93a83b5ca7d140878beff697893a6149c43cc502085c5f21421", func := "augury/augurylaw13.RunSound", spec := "runSound", unfollowed := true, recurses := true, named := ["augury/value.holds"], loops := true, plainKeys := false, apart := false, laid := [("augury/value.holds", laid_augury_value_holds)] }
def RunSoundSaid : Prop := runSoundRow.holds Tryz.pinned (OpenSpec.ofChange runSoundSpec)

/-- ITS FALSE NEIGHBOUR: 'it returns false'. Refute it at one input. -/
def runSoundWrong : ChangeSpec := { name := "runSound", fn := fun _ => fun
  | [d1, d2, d3, d4] => { results := [.lit (.bool false)], args := [d1, d2, d3, d4] }
  | _ => none }
def RunSoundWrongFalsely : Prop := runSoundRow.holds Tryz.pinned (OpenSpec.ofChange runSoundWrong)

/-- 'augurylaw13.RunApart': WHATEVER THE INPUT: true; the input reads as it did. -/
def runApartSpec : ChangeSpec := { name := "runApart", fn := fun _ => fun
  | [d1, d2, d3, d4, d5] => { results := [.lit (.bool true)], args := [d1, d2, d3, d4, d5] }
  | _ => none }
def runApartRow : OpenClaim := { program := "ytkmlfkbpcgkpaaagreatdoor", sum := "beb4d1b80a82d93a83b5ca7d140878beff697893a6149c43cc502085c5f21421", func := "augury/augurylaw13.RunApart", spec := "runApart", unfollowed := true, recurses := true, named := ["augury/value.holds"], loops := true, plainKeys := false, apart := false, laid := [("augury/value.holds", laid_augury_value_holds)] }
def RunApartSaid : Prop := runApartRow.holds Tryz.pinned (OpenSpec.ofChange runApartSpec)

/-- ITS FALSE NEIGHBOUR: 'it returns false'. Refute it at one input. -/
def runApartWrong : ChangeSpec := { name := "runApart", fn := fun _ => fun
  | [d1, d2, d3, d4, d5] => { results := [.lit (.bool false)], args := [d1, d2, d3, d4, d5] }
  | _ => none }
def RunApartWrongFalsely : Prop := runApartRow.holds Tryz.pinned (OpenSpec.ofChange runApartWrong)

/-- 'augurylaw13.RunTimes': WHATEVER THE INPUT: true; the input reads as it did. -/
def runTimesSpec : ChangeSpec := { name := "runTimes", fn := fun _ => fun
  | [d1, d2, d3, d4] => { results := [.lit (.bool true)], args := [d1, d2, d3, d4] }
  | _ => none }
def runTimesRow : OpenClaim := { program := "ytkmlfkbpcgkpaaagreatdoor", sum := "beb4d1b80a82d93a83b5ca7d140878beff697893a6149c43cc502085c5f21421", func := "augury/augurylaw13.RunTimes", spec := "runTimes", unfollowed := true, recurses := true, named := ["augury/value.holds"], loops := true, plainKeys := false, apart := false, laid := [("augury/value.holds", laid_augury_value_holds)] }
def RunTimesSaid : Prop := runTimesRow.holds Tryz.pinned (OpenSpec.ofChange runTimesSpec)

/-- ITS FALSE NEIGHBOUR: 'it returns false'. Refute it at one input. -/
def runTimesWrong : ChangeSpec := { name := "runTimes", fn := fun _ => fun
  | [d1, d2, d3, d4] => { results := [.lit (.bool false)], args := [d1, d2, d3, d4] }
  | _ => none }
def RunTimesWrongFalsely : Prop := runTimesRow.holds Tryz.pinned (OpenSpec.ofChange runTimesWrong)

/-- 'augurylaw13.RunNext': WHATEVER THE INPUT: true; the input reads as it did. -/
def runNextSpec : ChangeSpec := { name := "runNext", fn := fun _ => fun
  | [d1, d2, d3, d4] => { results := [.lit (.bool true)], args := [d1, d2, d3, d4] }
  | _ => none }
def runNextRow : OpenClaim := { program := "ytkmlfkbpcgkpaaagreatdoor", sum := "beb4d1b80a82d93a83b5ca7d140878beff697893a6149c43cc502085c5f21421", func := "augury/augurylaw13.RunNext", spec := "runNext", unfollowed := true, recurses := true, named := ["augury/value.holds"], loops := true, plainKeys := false, apart := false, laid := [("augury/value.holds", laid_augury_value_holds)] }
def RunNextSaid : Prop := runNextRow.holds Tryz.pinned (OpenSpec.ofChange runNextSpec)

/-- ITS FALSE NEIGHBOUR: 'it returns false'. Refute it at one input. -/
def runNextWrong : ChangeSpec := { name := "runNext", fn := fun _ => fun
  | [d1, d2, d3, d4] => { results := [.lit (.bool false)], args := [d1, d2, d3, d4] }
  | _ => none }
def RunNextWrongFalsely : Prop := runNextRow.holds Tryz.pinned (OpenSpec.ofChange runNextWrong)

/-- 'augurylaw13.RunWithin': WHATEVER THE INPUT: true; the input reads as it did. -/
def runWithinSpec : ChangeSpec := { name := "runWithin", fn := fun _ => fun
  | [d1, d2, d3, d4] => { results := [.lit (.bool true)], args := [d1, d2, d3, d4] }
  | _ => none }
def runWithinRow : OpenClaim := { program := "ytkmlfkbpcgkpaaagreatdoor", sum := "beb4d1b80a82d93a83b5ca7d140878beff697893a6149c43cc502085c5f21421", func := "augury/augurylaw13.RunWithin", spec := "runWithin", unfollowed := true, recurses := true, named := ["augury/value.holds"], loops := true, plainKeys := false, apart := false, laid := [("augury/value.holds", laid_augury_value_holds)] }
def RunWithinSaid : Prop := runWithinRow.holds Tryz.pinned (OpenSpec.ofChange runWithinSpec)

/-- ITS FALSE NEIGHBOUR: 'it returns false'. Refute it at one input. -/
def runWithinWrong : ChangeSpec := { name := "runWithin", fn := fun _ => fun
  | [d1, d2, d3, d4] => { results := [.lit (.bool false)], args := [d1, d2, d3, d4] }
  | _ => none }
def RunWithinWrongFalsely : Prop := runWithinRow.holds Tryz.pinned (OpenSpec.ofChange runWithinWrong)

/-- 'augurylaw13.RunBegins': WHATEVER THE INPUT: true; the input reads as it did. -/
def runBeginsSpec : ChangeSpec := { name := "runBegins", fn := fun _ => fun
  | [d1, d2, d3] => { results := [.lit (.bool true)], args := [d1, d2, d3] }
  | _ => none }
def runBeginsRow : OpenClaim := { program := "ytkmlfkbpcgkpaaagreatdoor", sum := "beb4d1b80a82d93a83b5ca7d140878beff697893a6149c43cc502085c5f21421", func := "augury/augurylaw13.RunBegins", spec := "runBegins", unfollowed := true, recurses := true, named := ["augury/value.holds"], loops := true, plainKeys := false, apart := false, laid := [("augury/value.holds", laid_augury_value_holds)] }
def RunBeginsSaid : Prop := runBeginsRow.holds Tryz.pinned (OpenSpec.ofChange runBeginsSpec)

/-- ITS FALSE NEIGHBOUR: 'it returns false'. Refute it at one input. -/
def runBeginsWrong : ChangeSpec := { name := "runBegins", fn := fun _ => fun
  | [d1, d2, d3] => { results := [.lit (.bool false)], args := [d1, d2, d3] }
  | _ => none }
def RunBeginsWrongFalsely : Prop := runBeginsRow.holds Tryz.pinned (OpenSpec.ofChange runBeginsWrong)

/-- 'augurylaw13.RunQuiet': WHATEVER THE INPUT: true; the input reads as it did. -/
def runQuietSpec : ChangeSpec := { name := "runQuiet", fn := fun _ => fun
  | [d1, d2, d3, d4] => { results := [.lit (.bool true)], args := [d1, d2, d3, d4] }
  | _ => none }
def runQuietRow : OpenClaim := { program := "ytkmlfkbpcgkpaaagreatdoor", sum := "beb4d1b80a82d93a83b5ca7d140878beff697893a6149c43cc502085c5f21421", func := "augury/augurylaw13.RunQuiet", spec := "runQuiet", unfollowed := true, recurses := true, named := ["augury/value.holds"], loops := true, plainKeys := false, apart := false, laid := [("augury/value.holds", laid_augury_value_holds)] }
def RunQuietSaid : Prop := runQuietRow.holds Tryz.pinned (OpenSpec.ofChange runQuietSpec)

/-- ITS FALSE NEIGHBOUR: 'it returns false'. Refute it at one input. -/
def runQuietWrong : ChangeSpec := { name := "runQuiet", fn := fun _ => fun
  | [d1, d2, d3, d4] => { results := [.lit (.bool false)], args := [d1, d2, d3, d4] }
  | _ => none }
def RunQuietWrongFalsely : Prop := runQuietRow.holds Tryz.pinned (OpenSpec.ofChange runQuietWrong)

/-- 'augurylaw14.LedgerAny': WHATEVER THE INPUT: true; the input reads as it did. -/
def ledgerAnySpec : ChangeSpec := { name := "ledgerAny", fn := fun _ => fun
  | [d1, d2, d3, d4, d5] => { results := [.lit (.bool true)], args := [d1, d2, d3, d4, d5] }
  | _ => none }
def ledgerAnyRow : OpenClaim := { program := "ytkmlfkbpcgkpaaagreatdoor", sum := "beb4d1b80a82d93a83b5ca7d140878beff697893a6149c43cc502085c5f21421", func := "augury/augurylaw14.LedgerAny", spec := "ledgerAny", inPlace := ["slices.overlaps[int]"], unfollowed := true, recurses := true, named := ["augury/value.holds"], loops := true, plainKeys := false, apart := false, laid := [("augury/value.holds", laid_augury_value_holds)] }
def LedgerAnySaid : Prop := ledgerAnyRow.holds Tryz.pinned (OpenSpec.ofChange ledgerAnySpec)

/-- ITS FALSE NEIGHBOUR: 'it returns false'. Refute it at one input. -/
def ledgerAnyWrong : ChangeSpec := { name := "ledgerAny", fn := fun _ => fun
  | [d1, d2, d3, d4, d5] => { results := [.lit (.bool false)], args := [d1, d2, d3, d4, d5] }
  | _ => none }
def LedgerAnyWrongFalsely : Prop := ledgerAnyRow.holds Tryz.pinned (OpenSpec.ofChange ledgerAnyWrong)

/-- 'augurylaw14.LedgerParts': WHATEVER THE INPUT: true; the input reads as it did. -/
def ledgerPartsSpec : ChangeSpec := { name := "ledgerParts", fn := fun _ => fun
  | [d1, d2, d3, d4] => { results := [.lit (.bool true)], args := [d1, d2, d3, d4] }
  | _ => none }
def ledgerPartsRow : OpenClaim := { program := "ytkmlfkbpcgkpaaagreatdoor", sum := "beb4d1b80a82d93a83b5ca7d140878beff697893a6149c43cc502085c5f21421", func := "augury/augurylaw14.LedgerParts", spec := "ledgerParts", inPlace := ["slices.overlaps[int]"], unfollowed := true, recurses := true, named := ["augury/value.holds"], loops := true, plainKeys := false, apart := false, laid := [("augury/value.holds", laid_augury_value_holds)] }
def LedgerPartsSaid : Prop := ledgerPartsRow.holds Tryz.pinned (OpenSpec.ofChange ledgerPartsSpec)

/-- ITS FALSE NEIGHBOUR: 'it returns false'. Refute it at one input. -/
def ledgerPartsWrong : ChangeSpec := { name := "ledgerParts", fn := fun _ => fun
  | [d1, d2, d3, d4] => { results := [.lit (.bool false)], args := [d1, d2, d3, d4] }
  | _ => none }
def LedgerPartsWrongFalsely : Prop := ledgerPartsRow.holds Tryz.pinned (OpenSpec.ofChange ledgerPartsWrong)

/-- 'augurylaw14.LedgerGrows': WHATEVER THE INPUT: true; the input reads as it did. -/
def ledgerGrowsSpec : ChangeSpec := { name := "ledgerGrows", fn := fun _ => fun
  | [d1, d2, d3, d4, d5, d6] => { results := [.lit (.bool true)], args := [d1, d2, d3, d4, d5, d6] }
  | _ => none }
def ledgerGrowsRow : OpenClaim := { program := "ytkmlfkbpcgkpaaagreatdoor", sum := "beb4d1b80a82d93a83b5ca7d140878beff697893a6149c43cc502085c5f21421", func := "augury/augurylaw14.LedgerGrows", spec := "ledgerGrows", inPlace := ["slices.overlaps[int]"], unfollowed := true, recurses := true, named := ["augury/value.holds"], loops := true, plainKeys := false, apart := false, laid := [("augury/value.holds", laid_augury_value_holds)] }
def LedgerGrowsSaid : Prop := ledgerGrowsRow.holds Tryz.pinned (OpenSpec.ofChange ledgerGrowsSpec)

/-- ITS FALSE NEIGHBOUR: 'it returns false'. Refute it at one input. -/
def ledgerGrowsWrong : ChangeSpec := { name := "ledgerGrows", fn := fun _ => fun
  | [d1, d2, d3, d4, d5, d6] => { results := [.lit (.bool false)], args := [d1, d2, d3, d4, d5, d6] }
  | _ => none }
def LedgerGrowsWrongFalsely : Prop := ledgerGrowsRow.holds Tryz.pinned (OpenSpec.ofChange ledgerGrowsWrong)

/-- 'augurylaw14.LedgerSorted': WHATEVER THE INPUT: true; the input reads as it did. -/
def ledgerSortedSpec : ChangeSpec := { name := "ledgerSorted", fn := fun _ => fun
  | [d1, d2, d3, d4] => { results := [.lit (.bool true)], args := [d1, d2, d3, d4] }
  | _ => none }
def ledgerSortedRow : OpenClaim := { program := "ytkmlfkbpcgkpaaagreatdoor", sum := "beb4d1b80a82d93a83b5ca7d140878beff697893a6149c43cc502085c5f21421", func := "augury/augurylaw14.LedgerSorted", spec := "ledgerSorted", inPlace := ["slices.overlaps[int]"], unfollowed := true, recurses := true, named := ["augury/value.holds"], loops := true, plainKeys := false, apart := false, laid := [("augury/value.holds", laid_augury_value_holds)] }
def LedgerSortedSaid : Prop := ledgerSortedRow.holds Tryz.pinned (OpenSpec.ofChange ledgerSortedSpec)

/-- ITS FALSE NEIGHBOUR: 'it returns false'. Refute it at one input. -/
def ledgerSortedWrong : ChangeSpec := { name := "ledgerSorted", fn := fun _ => fun
  | [d1, d2, d3, d4] => { results := [.lit (.bool false)], args := [d1, d2, d3, d4] }
  | _ => none }
def LedgerSortedWrongFalsely : Prop := ledgerSortedRow.holds Tryz.pinned (OpenSpec.ofChange ledgerSortedWrong)

/-- 'augurylaw14.LedgerBegins': WHATEVER THE INPUT: true; the input reads as it did. -/
def ledgerBeginsSpec : ChangeSpec := { name := "ledgerBegins", fn := fun _ => fun
  | [d1, d2, d3, d4, d5] => { results := [.lit (.bool true)], args := [d1, d2, d3, d4, d5] }
  | _ => none }
def ledgerBeginsRow : OpenClaim := { program := "ytkmlfkbpcgkpaaagreatdoor", sum := "beb4d1b80a82d93a83b5ca7d140878beff697893a6149c43cc502085c5f21421", func := "augury/augurylaw14.LedgerBegins", spec := "ledgerBegins", inPlace := ["slices.overlaps[int]"], unfollowed := true, recurses := true, named := ["augury/value.holds"], loops := true, plainKeys := false, apart := false, laid := [("augury/value.holds", laid_augury_value_holds)] }
def LedgerBeginsSaid : Prop := ledgerBeginsRow.holds Tryz.pinned (OpenSpec.ofChange ledgerBeginsSpec)

/-- ITS FALSE NEIGHBOUR: 'it returns false'. Refute it at one input. -/
def ledgerBeginsWrong : ChangeSpec := { name := "ledgerBegins", fn := fun _ => fun
  | [d1, d2, d3, d4, d5] => { results := [.lit (.bool false)], args := [d1, d2, d3, d4, d5] }
  | _ => none }
def LedgerBeginsWrongFalsely : Prop := ledgerBeginsRow.holds Tryz.pinned (OpenSpec.ofChange ledgerBeginsWrong)

/- THE SECOND FORM. 'bulk': how many values and letters a reading holds, each counted each time it is reached (what is shared counts as often as it is met; a slice's spare places count too). A statement '..UptoSaid' is the law's where the arguments, and the package variables that the reading takes, are together of bulk at most 1048576: NARROWER than '..Said'. Prove '..Said' where nothing that the law and all that it calls make is longer than what came in: it says more and counts as full. Else prove '..UptoSaid'. A law counts once. -/
mutual
def uptoBulk {H : Type} : DataW H → Nat
  | .lit (.string bytes) => bytes.length + 1
  | .lit _ => 1
  | .nil => 1
  | .ptr d => uptoBulk d + 1
  | .slice elems spare => uptoBulkAll elems + uptoBulkAll spare + 1
  | .agg parts => uptoBulkAll parts + 1
  | .iface _ d => uptoBulk d + 1
  | .map entries => uptoBulkEntries entries + 1
  | .held _ => 1
def uptoBulkAll {H : Type} : List (DataW H) → Nat
  | [] => 0
  | d :: r => uptoBulk d + uptoBulkAll r
def uptoBulkEntries {H : Type} : List (Lit × DataW H) → Nat
  | [] => 0
  | x :: r => uptoBulkEntry x + uptoBulkEntries r
def uptoBulkEntry {H : Type} : Lit × DataW H → Nat
  | (.string bytes, d) => bytes.length + uptoBulk d + 1
  | (_, d) => uptoBulk d + 1
 end
def uptoSmall : (H : Type) → List (DataW H) → Bool := fun _ ds => decide (uptoBulkAll ds ≤ 1048576)
def OpenSpec.upto (s : _root_.Go.ChangeSpec) : _root_.Go.OpenSpec := { _root_.Go.OpenSpec.ofChange s with cond := some uptoSmall }

/-- 'augurylaw13.RunSound', WHERE WHAT IT READS IS OF BULK AT MOST 1048576: true; the input reads as it did. -/
def runSoundUptoRow : OpenClaim := { program := "ytkmlfkbpcgkpaaagreatdoor", sum := "beb4d1b80a82d93a83b5ca7d140878beff697893a6149c43cc502085c5f21421", func := "augury/augurylaw13.RunSound", spec := "runSound", unfollowed := true, recurses := true, named := ["augury/value.holds"], loops := true, plainKeys := false, apart := false, laid := [("augury/value.holds", laid_augury_value_holds)], narrowed := true }
def RunSoundUptoSaid : Prop := runSoundUptoRow.holds Tryz.pinned (OpenSpec.upto runSoundSpec)

/-- 'augurylaw13.RunApart', WHERE WHAT IT READS IS OF BULK AT MOST 1048576: true; the input reads as it did. -/
def runApartUptoRow : OpenClaim := { program := "ytkmlfkbpcgkpaaagreatdoor", sum := "beb4d1b80a82d93a83b5ca7d140878beff697893a6149c43cc502085c5f21421", func := "augury/augurylaw13.RunApart", spec := "runApart", unfollowed := true, recurses := true, named := ["augury/value.holds"], loops := true, plainKeys := false, apart := false, laid := [("augury/value.holds", laid_augury_value_holds)], narrowed := true }
def RunApartUptoSaid : Prop := runApartUptoRow.holds Tryz.pinned (OpenSpec.upto runApartSpec)

/-- 'augurylaw13.RunTimes', WHERE WHAT IT READS IS OF BULK AT MOST 1048576: true; the input reads as it did. -/
def runTimesUptoRow : OpenClaim := { program := "ytkmlfkbpcgkpaaagreatdoor", sum := "beb4d1b80a82d93a83b5ca7d140878beff697893a6149c43cc502085c5f21421", func := "augury/augurylaw13.RunTimes", spec := "runTimes", unfollowed := true, recurses := true, named := ["augury/value.holds"], loops := true, plainKeys := false, apart := false, laid := [("augury/value.holds", laid_augury_value_holds)], narrowed := true }
def RunTimesUptoSaid : Prop := runTimesUptoRow.holds Tryz.pinned (OpenSpec.upto runTimesSpec)

/-- 'augurylaw13.RunNext', WHERE WHAT IT READS IS OF BULK AT MOST 1048576: true; the input reads as it did. -/
def runNextUptoRow : OpenClaim := { program := "ytkmlfkbpcgkpaaagreatdoor", sum := "beb4d1b80a82d93a83b5ca7d140878beff697893a6149c43cc502085c5f21421", func := "augury/augurylaw13.RunNext", spec := "runNext", unfollowed := true, recurses := true, named := ["augury/value.holds"], loops := true, plainKeys := false, apart := false, laid := [("augury/value.holds", laid_augury_value_holds)], narrowed := true }
def RunNextUptoSaid : Prop := runNextUptoRow.holds Tryz.pinned (OpenSpec.upto runNextSpec)

/-- 'augurylaw13.RunWithin', WHERE WHAT IT READS IS OF BULK AT MOST 1048576: true; the input reads as it did. -/
def runWithinUptoRow : OpenClaim := { program := "ytkmlfkbpcgkpaaagreatdoor", sum := "beb4d1b80a82d93a83b5ca7d140878beff697893a6149c43cc502085c5f21421", func := "augury/augurylaw13.RunWithin", spec := "runWithin", unfollowed := true, recurses := true, named := ["augury/value.holds"], loops := true, plainKeys := false, apart := false, laid := [("augury/value.holds", laid_augury_value_holds)], narrowed := true }
def RunWithinUptoSaid : Prop := runWithinUptoRow.holds Tryz.pinned (OpenSpec.upto runWithinSpec)

/-- 'augurylaw13.RunBegins', WHERE WHAT IT READS IS OF BULK AT MOST 1048576: true; the input reads as it did. -/
def runBeginsUptoRow : OpenClaim := { program := "ytkmlfkbpcgkpaaagreatdoor", sum := "beb4d1b80a82d93a83b5ca7d140878beff697893a6149c43cc502085c5f21421", func := "augury/augurylaw13.RunBegins", spec := "runBegins", unfollowed := true, recurses := true, named := ["augury/value.holds"], loops := true, plainKeys := false, apart := false, laid := [("augury/value.holds", laid_augury_value_holds)], narrowed := true }
def RunBeginsUptoSaid : Prop := runBeginsUptoRow.holds Tryz.pinned (OpenSpec.upto runBeginsSpec)

/-- 'augurylaw13.RunQuiet', WHERE WHAT IT READS IS OF BULK AT MOST 1048576: true; the input reads as it did. -/
def runQuietUptoRow : OpenClaim := { program := "ytkmlfkbpcgkpaaagreatdoor", sum := "beb4d1b80a82d93a83b5ca7d140878beff697893a6149c43cc502085c5f21421", func := "augury/augurylaw13.RunQuiet", spec := "runQuiet", unfollowed := true, recurses := true, named := ["augury/value.holds"], loops := true, plainKeys := false, apart := false, laid := [("augury/value.holds", laid_augury_value_holds)], narrowed := true }
def RunQuietUptoSaid : Prop := runQuietUptoRow.holds Tryz.pinned (OpenSpec.upto runQuietSpec)

/-- 'augurylaw14.LedgerAny', WHERE WHAT IT READS IS OF BULK AT MOST 1048576: true; the input reads as it did. -/
def ledgerAnyUptoRow : OpenClaim := { program := "ytkmlfkbpcgkpaaagreatdoor", sum := "beb4d1b80a82d93a83b5ca7d140878beff697893a6149c43cc502085c5f21421", func := "augury/augurylaw14.LedgerAny", spec := "ledgerAny", inPlace := ["slices.overlaps[int]"], unfollowed := true, recurses := true, named := ["augury/value.holds"], loops := true, plainKeys := false, apart := false, laid := [("augury/value.holds", laid_augury_value_holds)], narrowed := true }
def LedgerAnyUptoSaid : Prop := ledgerAnyUptoRow.holds Tryz.pinned (OpenSpec.upto ledgerAnySpec)

/-- 'augurylaw14.LedgerParts', WHERE WHAT IT READS IS OF BULK AT MOST 1048576: true; the input reads as it did. -/
def ledgerPartsUptoRow : OpenClaim := { program := "ytkmlfkbpcgkpaaagreatdoor", sum := "beb4d1b80a82d93a83b5ca7d140878beff697893a6149c43cc502085c5f21421", func := "augury/augurylaw14.LedgerParts", spec := "ledgerParts", inPlace := ["slices.overlaps[int]"], unfollowed := true, recurses := true, named := ["augury/value.holds"], loops := true, plainKeys := false, apart := false, laid := [("augury/value.holds", laid_augury_value_holds)], narrowed := true }
def LedgerPartsUptoSaid : Prop := ledgerPartsUptoRow.holds Tryz.pinned (OpenSpec.upto ledgerPartsSpec)

/-- 'augurylaw14.LedgerGrows', WHERE WHAT IT READS IS OF BULK AT MOST 1048576: true; the input reads as it did. -/
def ledgerGrowsUptoRow : OpenClaim := { program := "ytkmlfkbpcgkpaaagreatdoor", sum := "beb4d1b80a82d93a83b5ca7d140878beff697893a6149c43cc502085c5f21421", func := "augury/augurylaw14.LedgerGrows", spec := "ledgerGrows", inPlace := ["slices.overlaps[int]"], unfollowed := true, recurses := true, named := ["augury/value.holds"], loops := true, plainKeys := false, apart := false, laid := [("augury/value.holds", laid_augury_value_holds)], narrowed := true }
def LedgerGrowsUptoSaid : Prop := ledgerGrowsUptoRow.holds Tryz.pinned (OpenSpec.upto ledgerGrowsSpec)

/-- 'augurylaw14.LedgerSorted', WHERE WHAT IT READS IS OF BULK AT MOST 1048576: true; the input reads as it did. -/
def ledgerSortedUptoRow : OpenClaim := { program := "ytkmlfkbpcgkpaaagreatdoor", sum := "beb4d1b80a82d93a83b5ca7d140878beff697893a6149c43cc502085c5f21421", func := "augury/augurylaw14.LedgerSorted", spec := "ledgerSorted", inPlace := ["slices.overlaps[int]"], unfollowed := true, recurses := true, named := ["augury/value.holds"], loops := true, plainKeys := false, apart := false, laid := [("augury/value.holds", laid_augury_value_holds)], narrowed := true }
def LedgerSortedUptoSaid : Prop := ledgerSortedUptoRow.holds Tryz.pinned (OpenSpec.upto ledgerSortedSpec)

/-- 'augurylaw14.LedgerBegins', WHERE WHAT IT READS IS OF BULK AT MOST 1048576: true; the input reads as it did. -/
def ledgerBeginsUptoRow : OpenClaim := { program := "ytkmlfkbpcgkpaaagreatdoor", sum := "beb4d1b80a82d93a83b5ca7d140878beff697893a6149c43cc502085c5f21421", func := "augury/augurylaw14.LedgerBegins", spec := "ledgerBegins", inPlace := ["slices.overlaps[int]"], unfollowed := true, recurses := true, named := ["augury/value.holds"], loops := true, plainKeys := false, apart := false, laid := [("augury/value.holds", laid_augury_value_holds)], narrowed := true }
def LedgerBeginsUptoSaid : Prop := ledgerBeginsUptoRow.holds Tryz.pinned (OpenSpec.upto ledgerBeginsSpec)

end Rows
end Go.Proofs.YtkmlfkbpcgkpaaaGreatDoor
