/-
  DERIVED. GIVEN WITH THE SEED: THE CARDS: each row of YtdpbnacabinlgaaGreatDoorRows.lean that lists a variable, with what it lists TIED to the program's text (the seventh form; the later family's looks); each row that meets fmt, with fmt's text TOLD by the authors' own Lean function (tested against real Go, not proved from fmt's source: count such statements apart). THE CARD IS WHAT COUNTS. Prove the row's statement (the work); the ties are given (YtdpbnacabinlgaaGreatDoorTie.lean); close each card by the builder's one call (the guide's Derived/Test/ToyasCard.lean, 'card_holds'). Laid BY PROGRAM, IN A SANDBOX (cutbox-door.mjs). By AI agents, Wed Nov 11 2026. No macro, syntax, notation, axiom, sorry.
-/
import Derived.Test.YtdpbnacabinlgaaGreatDoorRows
import GoSem.ClaimSeven
namespace Go.Proofs.YtdpbnacabinlgaaGreatDoor
namespace Rows

/-- THE TIED CARD OF 'augurylaw03.JournalPlays'. -/
def journalPlaysCard : Claim7 := { stood := { row := journalPlaysRow, standIns := [], harness := (true, "05a7dc6625a25678be2dc934590bbd942eb1acb44ae29c912f4622128bd903e5"), looks := true }, kinds := [], alts := [], laidByText := true, laidKinds := [.data, .data, .data, .sentinel, .sentinel], laidTests := true, laidLooks := .later }
def JournalPlaysCardSaid : Prop := Claim7.holds Tryz.pinned (.plain (OpenSpec.ofChange journalPlaysSpec)) journalPlaysCard

/-- THE TIED CARD OF 'augurylaw03.JournalBegins'. -/
def journalBeginsCard : Claim7 := { stood := { row := journalBeginsRow, standIns := [], harness := (true, "05a7dc6625a25678be2dc934590bbd942eb1acb44ae29c912f4622128bd903e5"), looks := true }, kinds := [], alts := [], laidByText := true, laidKinds := [.data, .data, .data, .sentinel, .sentinel], laidTests := true, laidLooks := .later }
def JournalBeginsCardSaid : Prop := Claim7.holds Tryz.pinned (.plain (OpenSpec.ofChange journalBeginsSpec)) journalBeginsCard

/-- THE TIED CARD OF 'augurylaw03.JournalAgain'. -/
def journalAgainCard : Claim7 := { stood := { row := journalAgainRow, standIns := [], harness := (true, "05a7dc6625a25678be2dc934590bbd942eb1acb44ae29c912f4622128bd903e5"), looks := true }, kinds := [], alts := [], laidByText := true, laidKinds := [.data, .data, .data, .sentinel, .sentinel], laidTests := true, laidLooks := .later }
def JournalAgainCardSaid : Prop := Claim7.holds Tryz.pinned (.plain (OpenSpec.ofChange journalAgainSpec)) journalAgainCard

/-- THE TIED CARD OF 'augurylaw03.JournalPicture'. -/
def journalPictureCard : Claim7 := { stood := { row := journalPictureRow, standIns := [], harness := (true, "05a7dc6625a25678be2dc934590bbd942eb1acb44ae29c912f4622128bd903e5"), looks := true }, kinds := [], alts := [], laidByText := true, laidKinds := [.data, .data, .data, .sentinel, .sentinel], laidTests := true, laidLooks := .later }
def JournalPictureCardSaid : Prop := Claim7.holds Tryz.pinned (.plain (OpenSpec.ofChange journalPictureSpec)) journalPictureCard

/-- THE TIED CARD OF 'augurylaw03.JournalFiles'. -/
def journalFilesCard : Claim7 := { stood := { row := journalFilesRow, standIns := [], harness := (true, "05a7dc6625a25678be2dc934590bbd942eb1acb44ae29c912f4622128bd903e5"), looks := true }, kinds := [], alts := [], laidByText := true, laidKinds := [.data, .data, .data, .sentinel, .sentinel], laidTests := true, laidLooks := .later }
def JournalFilesCardSaid : Prop := Claim7.holds Tryz.pinned (.plain (OpenSpec.ofChange journalFilesSpec)) journalFilesCard

/-- THE TIED CARD OF 'augurylaw03.JournalReopened'. -/
def journalReopenedCard : Claim7 := { stood := { row := journalReopenedRow, standIns := [], harness := (true, "05a7dc6625a25678be2dc934590bbd942eb1acb44ae29c912f4622128bd903e5"), looks := true }, kinds := [], alts := [], laidByText := true, laidKinds := [.data, .data, .data, .sentinel, .sentinel], laidTests := true, laidLooks := .later }
def JournalReopenedCardSaid : Prop := Claim7.holds Tryz.pinned (.plain (OpenSpec.ofChange journalReopenedSpec)) journalReopenedCard

/-- THE TIED CARD OF 'augurylaw03.JournalKeeps'. -/
def journalKeepsCard : Claim7 := { stood := { row := journalKeepsRow, standIns := [], harness := (true, "05a7dc6625a25678be2dc934590bbd942eb1acb44ae29c912f4622128bd903e5"), looks := true }, kinds := [], alts := [], laidByText := true, laidKinds := [.data, .data, .data, .sentinel, .sentinel], laidTests := true, laidLooks := .later }
def JournalKeepsCardSaid : Prop := Claim7.holds Tryz.pinned (.plain (OpenSpec.ofChange journalKeepsSpec)) journalKeepsCard

/-- THE SECOND FORM's CARD OF 'augurylaw03.JournalPlays'. -/
def journalPlaysUptoCard : Claim7 := { stood := { row := journalPlaysUptoRow, standIns := [], harness := (true, "05a7dc6625a25678be2dc934590bbd942eb1acb44ae29c912f4622128bd903e5"), looks := true }, kinds := [], alts := [], laidByText := true, laidKinds := [.data, .data, .data, .sentinel, .sentinel], laidTests := true, laidLooks := .later }
def JournalPlaysUptoCardSaid : Prop := Claim7.holds Tryz.pinned (.plain (OpenSpec.upto journalPlaysSpec)) journalPlaysUptoCard

/-- THE SECOND FORM's CARD OF 'augurylaw03.JournalBegins'. -/
def journalBeginsUptoCard : Claim7 := { stood := { row := journalBeginsUptoRow, standIns := [], harness := (true, "05a7dc6625a25678be2dc934590bbd942eb1acb44ae29c912f4622128bd903e5"), looks := true }, kinds := [], alts := [], laidByText := true, laidKinds := [.data, .data, .data, .sentinel, .sentinel], laidTests := true, laidLooks := .later }
def JournalBeginsUptoCardSaid : Prop := Claim7.holds Tryz.pinned (.plain (OpenSpec.upto journalBeginsSpec)) journalBeginsUptoCard

/-- THE SECOND FORM's CARD OF 'augurylaw03.JournalAgain'. -/
def journalAgainUptoCard : Claim7 := { stood := { row := journalAgainUptoRow, standIns := [], harness := (true, "05a7dc6625a25678be2dc934590bbd942eb1acb44ae29c912f4622128bd903e5"), looks := true }, kinds := [], alts := [], laidByText := true, laidKinds := [.data, .data, .data, .sentinel, .sentinel], laidTests := true, laidLooks := .later }
def JournalAgainUptoCardSaid : Prop := Claim7.holds Tryz.pinned (.plain (OpenSpec.upto journalAgainSpec)) journalAgainUptoCard

/-- THE SECOND FORM's CARD OF 'augurylaw03.JournalPicture'. -/
def journalPictureUptoCard : Claim7 := { stood := { row := journalPictureUptoRow, standIns := [], harness := (true, "05a7dc6625a25678be2dc934590bbd942eb1acb44ae29c912f4622128bd903e5"), looks := true }, kinds := [], alts := [], laidByText := true, laidKinds := [.data, .data, .data, .sentinel, .sentinel], laidTests := true, laidLooks := .later }
def JournalPictureUptoCardSaid : Prop := Claim7.holds Tryz.pinned (.plain (OpenSpec.upto journalPictureSpec)) journalPictureUptoCard

/-- THE SECOND FORM's CARD OF 'augurylaw03.JournalFiles'. -/
def journalFilesUptoCard : Claim7 := { stood := { row := journalFilesUptoRow, standIns := [], harness := (true, "05a7dc6625a25678be2dc934590bbd942eb1acb44ae29c912f4622128bd903e5"), looks := true }, kinds := [], alts := [], laidByText := true, laidKinds := [.data, .data, .data, .sentinel, .sentinel], laidTests := true, laidLooks := .later }
def JournalFilesUptoCardSaid : Prop := Claim7.holds Tryz.pinned (.plain (OpenSpec.upto journalFilesSpec)) journalFilesUptoCard

/-- THE SECOND FORM's CARD OF 'augurylaw03.JournalReopened'. -/
def journalReopenedUptoCard : Claim7 := { stood := { row := journalReopenedUptoRow, standIns := [], harness := (true, "05a7dc6625a25678be2dc934590bbd942eb1acb44ae29c912f4622128bd903e5"), looks := true }, kinds := [], alts := [], laidByText := true, laidKinds := [.data, .data, .data, .sentinel, .sentinel], laidTests := true, laidLooks := .later }
def JournalReopenedUptoCardSaid : Prop := Claim7.holds Tryz.pinned (.plain (OpenSpec.upto journalReopenedSpec)) journalReopenedUptoCard

/-- THE SECOND FORM's CARD OF 'augurylaw03.JournalKeeps'. -/
def journalKeepsUptoCard : Claim7 := { stood := { row := journalKeepsUptoRow, standIns := [], harness := (true, "05a7dc6625a25678be2dc934590bbd942eb1acb44ae29c912f4622128bd903e5"), looks := true }, kinds := [], alts := [], laidByText := true, laidKinds := [.data, .data, .data, .sentinel, .sentinel], laidTests := true, laidLooks := .later }
def JournalKeepsUptoCardSaid : Prop := Claim7.holds Tryz.pinned (.plain (OpenSpec.upto journalKeepsSpec)) journalKeepsUptoCard
end Rows
end Go.Proofs.YtdpbnacabinlgaaGreatDoor
