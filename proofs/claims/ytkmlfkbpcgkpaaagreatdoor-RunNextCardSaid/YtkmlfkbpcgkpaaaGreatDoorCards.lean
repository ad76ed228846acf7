/-
  DERIVED. GIVEN WITH THE SEED: THE CARDS: each row of YtkmlfkbpcgkpaaaGreatDoorRows.lean that lists a variable, with what it lists TIED to the program's text (the seventh form; the later family's looks); each row that meets fmt, with fmt's text TOLD by the authors' own Lean function (tested against real Go, not proved from fmt's source: count such statements apart). THE CARD IS WHAT COUNTS. Prove the row's statement (the work); the ties are given (YtkmlfkbpcgkpaaaGreatDoorTie.lean); close each card by the builder's one call (the guide's Derived/Test/ToyasCard.lean, 'card_holds'). Laid BY PROGRAM, IN A SANDBOX (cutbox-door.mjs). By AI agents, Wed Nov 11 2026. No macro, syntax, notation, axiom, sorry.
-/
import Derived.Test.YtkmlfkbpcgkpaaaGreatDoorRows
import GoSem.ClaimSeven
namespace Go.Proofs.YtkmlfkbpcgkpaaaGreatDoor
namespace Rows

/-- THE TIED CARD OF 'augurylaw13.RunSound'. -/
def runSoundCard : Claim7 := { stood := { row := runSoundRow, standIns := [], harness := (true, "2202d38989c3d59927c46ff7c986f7c1c6398b4f63f9dd2c4f207d4bd341d3fa"), looks := false }, kinds := [], alts := [], laidByText := true, laidKinds := [.data], laidTests := true, laidLooks := .later }
def RunSoundCardSaid : Prop := Claim7.holds Tryz.pinned (.plain (OpenSpec.ofChange runSoundSpec)) runSoundCard

/-- THE TIED CARD OF 'augurylaw13.RunApart'. -/
def runApartCard : Claim7 := { stood := { row := runApartRow, standIns := [], harness := (true, "2202d38989c3d59927c46ff7c986f7c1c6398b4f63f9dd2c4f207d4bd341d3fa"), looks := false }, kinds := [], alts := [], laidByText := true, laidKinds := [.data], laidTests := true, laidLooks := .later }
def RunApartCardSaid : Prop := Claim7.holds Tryz.pinned (.plain (OpenSpec.ofChange runApartSpec)) runApartCard

/-- THE TIED CARD OF 'augurylaw13.RunTimes'. -/
def runTimesCard : Claim7 := { stood := { row := runTimesRow, standIns := [], harness := (true, "2202d38989c3d59927c46ff7c986f7c1c6398b4f63f9dd2c4f207d4bd341d3fa"), looks := false }, kinds := [], alts := [], laidByText := true, laidKinds := [.data], laidTests := true, laidLooks := .later }
def RunTimesCardSaid : Prop := Claim7.holds Tryz.pinned (.plain (OpenSpec.ofChange runTimesSpec)) runTimesCard

/-- THE TIED CARD OF 'augurylaw13.RunNext'. -/
def runNextCard : Claim7 := { stood := { row := runNextRow, standIns := [], harness := (true, "2202d38989c3d59927c46ff7c986f7c1c6398b4f63f9dd2c4f207d4bd341d3fa"), looks := false }, kinds := [], alts := [], laidByText := true, laidKinds := [.data], laidTests := true, laidLooks := .later }
def RunNextCardSaid : Prop := Claim7.holds Tryz.pinned (.plain (OpenSpec.ofChange runNextSpec)) runNextCard

/-- THE TIED CARD OF 'augurylaw13.RunWithin'. -/
def runWithinCard : Claim7 := { stood := { row := runWithinRow, standIns := [], harness := (true, "2202d38989c3d59927c46ff7c986f7c1c6398b4f63f9dd2c4f207d4bd341d3fa"), looks := false }, kinds := [], alts := [], laidByText := true, laidKinds := [.data], laidTests := true, laidLooks := .later }
def RunWithinCardSaid : Prop := Claim7.holds Tryz.pinned (.plain (OpenSpec.ofChange runWithinSpec)) runWithinCard

/-- THE TIED CARD OF 'augurylaw13.RunBegins'. -/
def runBeginsCard : Claim7 := { stood := { row := runBeginsRow, standIns := [], harness := (true, "2202d38989c3d59927c46ff7c986f7c1c6398b4f63f9dd2c4f207d4bd341d3fa"), looks := false }, kinds := [], alts := [], laidByText := true, laidKinds := [.data], laidTests := true, laidLooks := .later }
def RunBeginsCardSaid : Prop := Claim7.holds Tryz.pinned (.plain (OpenSpec.ofChange runBeginsSpec)) runBeginsCard

/-- THE TIED CARD OF 'augurylaw13.RunQuiet'. -/
def runQuietCard : Claim7 := { stood := { row := runQuietRow, standIns := [], harness := (true, "2202d38989c3d59927c46ff7c986f7c1c6398b4f63f9dd2c4f207d4bd341d3fa"), looks := false }, kinds := [], alts := [], laidByText := true, laidKinds := [.data], laidTests := true, laidLooks := .later }
def RunQuietCardSaid : Prop := Claim7.holds Tryz.pinned (.plain (OpenSpec.ofChange runQuietSpec)) runQuietCard

/-- THE TIED CARD OF 'augurylaw14.LedgerAny'. -/
def ledgerAnyCard : Claim7 := { stood := { row := ledgerAnyRow, standIns := [], harness := (true, "2202d38989c3d59927c46ff7c986f7c1c6398b4f63f9dd2c4f207d4bd341d3fa"), looks := false }, kinds := [], alts := [], laidByText := true, laidKinds := [.data], laidTests := true, laidLooks := .later }
def LedgerAnyCardSaid : Prop := Claim7.holds Tryz.pinned (.plain (OpenSpec.ofChange ledgerAnySpec)) ledgerAnyCard

/-- THE TIED CARD OF 'augurylaw14.LedgerParts'. -/
def ledgerPartsCard : Claim7 := { stood := { row := ledgerPartsRow, standIns := [], harness := (true, "2202d38989c3d59927c46ff7c986f7c1c6398b4f63f9dd2c4f207d4bd341d3fa"), looks := false }, kinds := [], alts := [], laidByText := true, laidKinds := [.data], laidTests := true, laidLooks := .later }
def LedgerPartsCardSaid : Prop := Claim7.holds Tryz.pinned (.plain (OpenSpec.ofChange ledgerPartsSpec)) ledgerPartsCard

/-- THE TIED CARD OF 'augurylaw14.LedgerGrows'. -/
def ledgerGrowsCard : Claim7 := { stood := { row := ledgerGrowsRow, standIns := [], harness := (true, "2202d38989c3d59927c46ff7c986f7c1c6398b4f63f9dd2c4f207d4bd341d3fa"), looks := false }, kinds := [], alts := [], laidByText := true, laidKinds := [.data], laidTests := true, laidLooks := .later }
def LedgerGrowsCardSaid : Prop := Claim7.holds Tryz.pinned (.plain (OpenSpec.ofChange ledgerGrowsSpec)) ledgerGrowsCard

/-- THE TIED CARD OF 'augurylaw14.LedgerSorted'. -/
def ledgerSortedCard : Claim7 := { stood := { row := ledgerSortedRow, standIns := [], harness := (true, "2202d38989c3d59927c46ff7c986f7c1c6398b4f63f9dd2c4f207d4bd341d3fa"), looks := false }, kinds := [], alts := [], laidByText := true, laidKinds := [.data], laidTests := true, laidLooks := .later }
def LedgerSortedCardSaid : Prop := Claim7.holds Tryz.pinned (.plain (OpenSpec.ofChange ledgerSortedSpec)) ledgerSortedCard

/-- THE TIED CARD OF 'augurylaw14.LedgerBegins'. -/
def ledgerBeginsCard : Claim7 := { stood := { row := ledgerBeginsRow, standIns := [], harness := (true, "2202d38989c3d59927c46ff7c986f7c1c6398b4f63f9dd2c4f207d4bd341d3fa"), looks := false }, kinds := [], alts := [], laidByText := true, laidKinds := [.data], laidTests := true, laidLooks := .later }
def LedgerBeginsCardSaid : Prop := Claim7.holds Tryz.pinned (.plain (OpenSpec.ofChange ledgerBeginsSpec)) ledgerBeginsCard

/-- THE SECOND FORM's CARD OF 'augurylaw13.RunSound'. -/
def runSoundUptoCard : Claim7 := { stood := { row := runSoundUptoRow, standIns := [], harness := (true, "2202d38989c3d59927c46ff7c986f7c1c6398b4f63f9dd2c4f207d4bd341d3fa"), looks := false }, kinds := [], alts := [], laidByText := true, laidKinds := [.data], laidTests := true, laidLooks := .later }
def RunSoundUptoCardSaid : Prop := Claim7.holds Tryz.pinned (.plain (OpenSpec.upto runSoundSpec)) runSoundUptoCard

/-- THE SECOND FORM's CARD OF 'augurylaw13.RunApart'. -/
def runApartUptoCard : Claim7 := { stood := { row := runApartUptoRow, standIns := [], harness := (true, "2202d38989c3d59927c46ff7c986f7c1c6398b4f63f9dd2c4f207d4bd341d3fa"), looks := false }, kinds := [], alts := [], laidByText := true, laidKinds := [.data], laidTests := true, laidLooks := .later }
def RunApartUptoCardSaid : Prop := Claim7.holds Tryz.pinned (.plain (OpenSpec.upto runApartSpec)) runApartUptoCard

/-- THE SECOND FORM's CARD OF 'augurylaw13.RunTimes'. -/
def runTimesUptoCard : Claim7 := { stood := { row := runTimesUptoRow, standIns := [], harness := (true, "2202d38989c3d59927c46ff7c986f7c1c6398b4f63f9dd2c4f207d4bd341d3fa"), looks := false }, kinds := [], alts := [], laidByText := true, laidKinds := [.data], laidTests := true, laidLooks := .later }
def RunTimesUptoCardSaid : Prop := Claim7.holds Tryz.pinned (.plain (OpenSpec.upto runTimesSpec)) runTimesUptoCard

/-- THE SECOND FORM's CARD OF 'augurylaw13.RunNext'. -/
def runNextUptoCard : Claim7 := { stood := { row := runNextUptoRow, standIns := [], harness := (true, "2202d38989c3d59927c46ff7c986f7c1c6398b4f63f9dd2c4f207d4bd341d3fa"), looks := false }, kinds := [], alts := [], laidByText := true, laidKinds := [.data], laidTests := true, laidLooks := .later }
def RunNextUptoCardSaid : Prop := Claim7.holds Tryz.pinned (.plain (OpenSpec.upto runNextSpec)) runNextUptoCard

/-- THE SECOND FORM's CARD OF 'augurylaw13.RunWithin'. -/
def runWithinUptoCard : Claim7 := { stood := { row := runWithinUptoRow, standIns := [], harness := (true, "2202d38989c3d59927c46ff7c986f7c1c6398b4f63f9dd2c4f207d4bd341d3fa"), looks := false }, kinds := [], alts := [], laidByText := true, laidKinds := [.data], laidTests := true, laidLooks := .later }
def RunWithinUptoCardSaid : Prop := Claim7.holds Tryz.pinned (.plain (OpenSpec.upto runWithinSpec)) runWithinUptoCard

/-- THE SECOND FORM's CARD OF 'augurylaw13.RunBegins'. -/
def runBeginsUptoCard : Claim7 := { stood := { row := runBeginsUptoRow, standIns := [], harness := (true, "2202d38989c3d59927c46ff7c986f7c1c6398b4f63f9dd2c4f207d4bd341d3fa"), looks := false }, kinds := [], alts := [], laidByText := true, laidKinds := [.data], laidTests := true, laidLooks := .later }
def RunBeginsUptoCardSaid : Prop := Claim7.holds Tryz.pinned (.plain (OpenSpec.upto runBeginsSpec)) runBeginsUptoCard

/-- THE SECOND FORM's CARD OF 'augurylaw13.RunQuiet'. -/
def runQuietUptoCard : Claim7 := { stood := { row := runQuietUptoRow, standIns := [], harness := (true, "2202d38989c3d59927c46ff7c986f7c1c6398b4f63f9dd2c4f207d4bd341d3fa"), looks := false }, kinds := [], alts := [], laidByText := true, laidKinds := [.data], laidTests := true, laidLooks := .later }
def RunQuietUptoCardSaid : Prop := Claim7.holds Tryz.pinned (.plain (OpenSpec.upto runQuietSpec)) runQuietUptoCard

/-- THE SECOND FORM's CARD OF 'augurylaw14.LedgerAny'. -/
def ledgerAnyUptoCard : Claim7 := { stood := { row := ledgerAnyUptoRow, standIns := [], harness := (true, "2202d38989c3d59927c46ff7c986f7c1c6398b4f63f9dd2c4f207d4bd341d3fa"), looks := false }, kinds := [], alts := [], laidByText := true, laidKinds := [.data], laidTests := true, laidLooks := .later }
def LedgerAnyUptoCardSaid : Prop := Claim7.holds Tryz.pinned (.plain (OpenSpec.upto ledgerAnySpec)) ledgerAnyUptoCard

/-- THE SECOND FORM's CARD OF 'augurylaw14.LedgerParts'. -/
def ledgerPartsUptoCard : Claim7 := { stood := { row := ledgerPartsUptoRow, standIns := [], harness := (true, "2202d38989c3d59927c46ff7c986f7c1c6398b4f63f9dd2c4f207d4bd341d3fa"), looks := false }, kinds := [], alts := [], laidByText := true, laidKinds := [.data], laidTests := true, laidLooks := .later }
def LedgerPartsUptoCardSaid : Prop := Claim7.holds Tryz.pinned (.plain (OpenSpec.upto ledgerPartsSpec)) ledgerPartsUptoCard

/-- THE SECOND FORM's CARD OF 'augurylaw14.LedgerGrows'. -/
def ledgerGrowsUptoCard : Claim7 := { stood := { row := ledgerGrowsUptoRow, standIns := [], harness := (true, "2202d38989c3d59927c46ff7c986f7c1c6398b4f63f9dd2c4f207d4bd341d3fa"), looks := false }, kinds := [], alts := [], laidByText := true, laidKinds := [.data], laidTests := true, laidLooks := .later }
def LedgerGrowsUptoCardSaid : Prop := Claim7.holds Tryz.pinned (.plain (OpenSpec.upto ledgerGrowsSpec)) ledgerGrowsUptoCard

/-- THE SECOND FORM's CARD OF 'augurylaw14.LedgerSorted'. -/
def ledgerSortedUptoCard : Claim7 := { stood := { row := ledgerSortedUptoRow, standIns := [], harness := (true, "2202d38989c3d59927c46ff7c986f7c1c6398b4f63f9dd2c4f207d4bd341d3fa"), looks := false }, kinds := [], alts := [], laidByText := true, laidKinds := [.data], laidTests := true, laidLooks := .later }
def LedgerSortedUptoCardSaid : Prop := Claim7.holds Tryz.pinned (.plain (OpenSpec.upto ledgerSortedSpec)) ledgerSortedUptoCard

/-- THE SECOND FORM's CARD OF 'augurylaw14.LedgerBegins'. -/
def ledgerBeginsUptoCard : Claim7 := { stood := { row := ledgerBeginsUptoRow, standIns := [], harness := (true, "2202d38989c3d59927c46ff7c986f7c1c6398b4f63f9dd2c4f207d4bd341d3fa"), looks := false }, kinds := [], alts := [], laidByText := true, laidKinds := [.data], laidTests := true, laidLooks := .later }
def LedgerBeginsUptoCardSaid : Prop := Claim7.holds Tryz.pinned (.plain (OpenSpec.upto ledgerBeginsSpec)) ledgerBeginsUptoCard
end Rows
end Go.Proofs.YtkmlfkbpcgkpaaaGreatDoor
