/-
  DERIVED. GIVEN WITH THE SEED: THE CARDS: each row of YtifacoompbngaaaGreatDoorRows.lean that lists a variable, with what it lists TIED to the program's text (the seventh form; the later family's looks); each row that meets fmt, with fmt's text TOLD by the authors' own Lean function (tested against real Go, not proved from fmt's source: count such statements apart). THE CARD IS WHAT COUNTS. Prove the row's statement (the work); the ties are given (YtifacoompbngaaaGreatDoorTie.lean); close each card by the builder's one call (the guide's Derived/Test/ToyasCard.lean, 'card_holds'). Laid BY PROGRAM, IN A SANDBOX (cutbox-door.mjs). By AI agents, Wed Nov 11 2026. No macro, syntax, notation, axiom, sorry.
-/
import Derived.Test.YtifacoompbngaaaGreatDoorRows
import GoSem.ClaimSeven
namespace Go.Proofs.YtifacoompbngaaaGreatDoor
namespace Rows

/-- THE TIED CARD OF 'augurylaw08.TreeTells'. -/
def treeTellsCard : Claim7 := { stood := { row := treeTellsRow, standIns := [], harness := (true, "0048cbafabb1cd31fe1dc5e11e438753242ff234233c425323badd2fa73eb1cd"), looks := true }, kinds := [], alts := [], laidByText := true, laidKinds := [.data, .data, .data, .sentinel, .sentinel, .data], laidTests := true, laidLooks := .later }
def TreeTellsCardSaid : Prop := Claim7.holds Tryz.pinned (.plain (OpenSpec.ofChange treeTellsSpec)) treeTellsCard

/-- THE TIED CARD OF 'augurylaw08.TreePrints'. -/
def treePrintsCard : Claim7 := { stood := { row := treePrintsRow, standIns := [], harness := (true, "0048cbafabb1cd31fe1dc5e11e438753242ff234233c425323badd2fa73eb1cd"), looks := true }, kinds := [], alts := [], laidByText := true, laidKinds := [.data, .data, .data, .sentinel, .sentinel, .data], laidTests := true, laidLooks := .later }
def TreePrintsCardSaid : Prop := Claim7.holds Tryz.pinned (.plain (OpenSpec.ofChange treePrintsSpec)) treePrintsCard

/-- THE TIED CARD OF 'augurylaw08.TreeBack'. -/
def treeBackCard : Claim7 := { stood := { row := treeBackRow, standIns := [], harness := (true, "0048cbafabb1cd31fe1dc5e11e438753242ff234233c425323badd2fa73eb1cd"), looks := true }, kinds := [], alts := [], laidByText := true, laidKinds := [.data, .data, .data, .sentinel, .sentinel, .data], laidTests := true, laidLooks := .later }
def TreeBackCardSaid : Prop := Claim7.holds Tryz.pinned (.plain (OpenSpec.ofChange treeBackSpec)) treeBackCard

/-- THE TIED CARD OF 'augurylaw09.CheckMore'. -/
def checkMoreCard : Claim7 := { stood := { row := checkMoreRow, standIns := [], harness := (true, "0048cbafabb1cd31fe1dc5e11e438753242ff234233c425323badd2fa73eb1cd"), looks := true }, kinds := [], alts := [], laidByText := true, laidKinds := [.handle], laidTests := true, laidLooks := .later }
def CheckMoreCardSaid : Prop := Claim7.holds Tryz.pinned (.plain (OpenSpec.ofChange checkMoreSpec)) checkMoreCard

/-- THE TIED CARD OF 'augurylaw09.CheckKinds'. -/
def checkKindsCard : Claim7 := { stood := { row := checkKindsRow, standIns := [], harness := (true, "0048cbafabb1cd31fe1dc5e11e438753242ff234233c425323badd2fa73eb1cd"), looks := true }, kinds := [], alts := [], laidByText := true, laidKinds := [.handle], laidTests := true, laidLooks := .later }
def CheckKindsCardSaid : Prop := Claim7.holds Tryz.pinned (.plain (OpenSpec.ofChange checkKindsSpec)) checkKindsCard

/-- THE TIED CARD OF 'augurylaw09.CheckVars'. -/
def checkVarsCard : Claim7 := { stood := { row := checkVarsRow, standIns := [], harness := (true, "0048cbafabb1cd31fe1dc5e11e438753242ff234233c425323badd2fa73eb1cd"), looks := true }, kinds := [], alts := [], laidByText := true, laidKinds := [.handle], laidTests := true, laidLooks := .later }
def CheckVarsCardSaid : Prop := Claim7.holds Tryz.pinned (.plain (OpenSpec.ofChange checkVarsSpec)) checkVarsCard

/-- THE TIED CARD OF 'augurylaw09.CheckFirst'. -/
def checkFirstCard : Claim7 := { stood := { row := checkFirstRow, standIns := [], harness := (true, "0048cbafabb1cd31fe1dc5e11e438753242ff234233c425323badd2fa73eb1cd"), looks := true }, kinds := [], alts := [], laidByText := true, laidKinds := [.handle], laidTests := true, laidLooks := .later }
def CheckFirstCardSaid : Prop := Claim7.holds Tryz.pinned (.plain (OpenSpec.ofChange checkFirstSpec)) checkFirstCard

/-- THE TIED CARD OF 'augurylaw11.EvalNorm'. -/
def evalNormCard : Claim7 := { stood := { row := evalNormRow, standIns := [], harness := (true, "0048cbafabb1cd31fe1dc5e11e438753242ff234233c425323badd2fa73eb1cd"), looks := true }, kinds := [], alts := [], laidByText := true, laidKinds := [.data, .data, .data, .data, .data], laidTests := true, laidLooks := .later }
def EvalNormCardSaid : Prop := Claim7.holds Tryz.pinned (.plain (OpenSpec.ofChange evalNormSpec)) evalNormCard

/-- THE TIED CARD OF 'augurylaw11.EvalOther'. -/
def evalOtherCard : Claim7 := { stood := { row := evalOtherRow, standIns := [], harness := (true, "0048cbafabb1cd31fe1dc5e11e438753242ff234233c425323badd2fa73eb1cd"), looks := true }, kinds := [], alts := [], laidByText := true, laidKinds := [.data], laidTests := true, laidLooks := .later }
def EvalOtherCardSaid : Prop := Claim7.holds Tryz.pinned (.plain (OpenSpec.ofChange evalOtherSpec)) evalOtherCard

/-- THE TIED CARD OF 'augurylaw11.EvalFolds'. -/
def evalFoldsCard : Claim7 := { stood := { row := evalFoldsRow, standIns := [], harness := (true, "0048cbafabb1cd31fe1dc5e11e438753242ff234233c425323badd2fa73eb1cd"), looks := true }, kinds := [], alts := [], laidByText := true, laidKinds := [.data], laidTests := true, laidLooks := .later }
def EvalFoldsCardSaid : Prop := Claim7.holds Tryz.pinned (.plain (OpenSpec.ofChange evalFoldsSpec)) evalFoldsCard

/-- THE TIED CARD OF 'augurylaw11.EvalTurned'. -/
def evalTurnedCard : Claim7 := { stood := { row := evalTurnedRow, standIns := [], harness := (true, "0048cbafabb1cd31fe1dc5e11e438753242ff234233c425323badd2fa73eb1cd"), looks := true }, kinds := [], alts := [], laidByText := true, laidKinds := [.data], laidTests := true, laidLooks := .later }
def EvalTurnedCardSaid : Prop := Claim7.holds Tryz.pinned (.plain (OpenSpec.ofChange evalTurnedSpec)) evalTurnedCard

/-- THE TIED CARD OF 'augurylaw11.EvalNothing'. -/
def evalNothingCard : Claim7 := { stood := { row := evalNothingRow, standIns := [], harness := (true, "0048cbafabb1cd31fe1dc5e11e438753242ff234233c425323badd2fa73eb1cd"), looks := true }, kinds := [], alts := [], laidByText := true, laidKinds := [.data], laidTests := true, laidLooks := .later }
def EvalNothingCardSaid : Prop := Claim7.holds Tryz.pinned (.plain (OpenSpec.ofChange evalNothingSpec)) evalNothingCard

/-- THE SECOND FORM's CARD OF 'augurylaw08.TreeTells'. -/
def treeTellsUptoCard : Claim7 := { stood := { row := treeTellsUptoRow, standIns := [], harness := (true, "0048cbafabb1cd31fe1dc5e11e438753242ff234233c425323badd2fa73eb1cd"), looks := true }, kinds := [], alts := [], laidByText := true, laidKinds := [.data, .data, .data, .sentinel, .sentinel, .data], laidTests := true, laidLooks := .later }
def TreeTellsUptoCardSaid : Prop := Claim7.holds Tryz.pinned (.plain (OpenSpec.upto treeTellsSpec)) treeTellsUptoCard

/-- THE SECOND FORM's CARD OF 'augurylaw08.TreePrints'. -/
def treePrintsUptoCard : Claim7 := { stood := { row := treePrintsUptoRow, standIns := [], harness := (true, "0048cbafabb1cd31fe1dc5e11e438753242ff234233c425323badd2fa73eb1cd"), looks := true }, kinds := [], alts := [], laidByText := true, laidKinds := [.data, .data, .data, .sentinel, .sentinel, .data], laidTests := true, laidLooks := .later }
def TreePrintsUptoCardSaid : Prop := Claim7.holds Tryz.pinned (.plain (OpenSpec.upto treePrintsSpec)) treePrintsUptoCard

/-- THE SECOND FORM's CARD OF 'augurylaw08.TreeBack'. -/
def treeBackUptoCard : Claim7 := { stood := { row := treeBackUptoRow, standIns := [], harness := (true, "0048cbafabb1cd31fe1dc5e11e438753242ff234233c425323badd2fa73eb1cd"), looks := true }, kinds := [], alts := [], laidByText := true, laidKinds := [.data, .data, .data, .sentinel, .sentinel, .data], laidTests := true, laidLooks := .later }
def TreeBackUptoCardSaid : Prop := Claim7.holds Tryz.pinned (.plain (OpenSpec.upto treeBackSpec)) treeBackUptoCard

/-- THE SECOND FORM's CARD OF 'augurylaw09.CheckMore'. -/
def checkMoreUptoCard : Claim7 := { stood := { row := checkMoreUptoRow, standIns := [], harness := (true, "0048cbafabb1cd31fe1dc5e11e438753242ff234233c425323badd2fa73eb1cd"), looks := true }, kinds := [], alts := [], laidByText := true, laidKinds := [.handle], laidTests := true, laidLooks := .later }
def CheckMoreUptoCardSaid : Prop := Claim7.holds Tryz.pinned (.plain (OpenSpec.upto checkMoreSpec)) checkMoreUptoCard

/-- THE SECOND FORM's CARD OF 'augurylaw09.CheckKinds'. -/
def checkKindsUptoCard : Claim7 := { stood := { row := checkKindsUptoRow, standIns := [], harness := (true, "0048cbafabb1cd31fe1dc5e11e438753242ff234233c425323badd2fa73eb1cd"), looks := true }, kinds := [], alts := [], laidByText := true, laidKinds := [.handle], laidTests := true, laidLooks := .later }
def CheckKindsUptoCardSaid : Prop := Claim7.holds Tryz.pinned (.plain (OpenSpec.upto checkKindsSpec)) checkKindsUptoCard

/-- THE SECOND FORM's CARD OF 'augurylaw09.CheckVars'. -/
def checkVarsUptoCard : Claim7 := { stood := { row := checkVarsUptoRow, standIns := [], harness := (true, "0048cbafabb1cd31fe1dc5e11e438753242ff234233c425323badd2fa73eb1cd"), looks := true }, kinds := [], alts := [], laidByText := true, laidKinds := [.handle], laidTests := true, laidLooks := .later }
def CheckVarsUptoCardSaid : Prop := Claim7.holds Tryz.pinned (.plain (OpenSpec.upto checkVarsSpec)) checkVarsUptoCard

/-- THE SECOND FORM's CARD OF 'augurylaw09.CheckFirst'. -/
def checkFirstUptoCard : Claim7 := { stood := { row := checkFirstUptoRow, standIns := [], harness := (true, "0048cbafabb1cd31fe1dc5e11e438753242ff234233c425323badd2fa73eb1cd"), looks := true }, kinds := [], alts := [], laidByText := true, laidKinds := [.handle], laidTests := true, laidLooks := .later }
def CheckFirstUptoCardSaid : Prop := Claim7.holds Tryz.pinned (.plain (OpenSpec.upto checkFirstSpec)) checkFirstUptoCard

/-- THE SECOND FORM's CARD OF 'augurylaw11.EvalNorm'. -/
def evalNormUptoCard : Claim7 := { stood := { row := evalNormUptoRow, standIns := [], harness := (true, "0048cbafabb1cd31fe1dc5e11e438753242ff234233c425323badd2fa73eb1cd"), looks := true }, kinds := [], alts := [], laidByText := true, laidKinds := [.data, .data, .data, .data, .data], laidTests := true, laidLooks := .later }
def EvalNormUptoCardSaid : Prop := Claim7.holds Tryz.pinned (.plain (OpenSpec.upto evalNormSpec)) evalNormUptoCard

/-- THE SECOND FORM's CARD OF 'augurylaw11.EvalOther'. -/
def evalOtherUptoCard : Claim7 := { stood := { row := evalOtherUptoRow, standIns := [], harness := (true, "0048cbafabb1cd31fe1dc5e11e438753242ff234233c425323badd2fa73eb1cd"), looks := true }, kinds := [], alts := [], laidByText := true, laidKinds := [.data], laidTests := true, laidLooks := .later }
def EvalOtherUptoCardSaid : Prop := Claim7.holds Tryz.pinned (.plain (OpenSpec.upto evalOtherSpec)) evalOtherUptoCard

/-- THE SECOND FORM's CARD OF 'augurylaw11.EvalFolds'. -/
def evalFoldsUptoCard : Claim7 := { stood := { row := evalFoldsUptoRow, standIns := [], harness := (true, "0048cbafabb1cd31fe1dc5e11e438753242ff234233c425323badd2fa73eb1cd"), looks := true }, kinds := [], alts := [], laidByText := true, laidKinds := [.data], laidTests := true, laidLooks := .later }
def EvalFoldsUptoCardSaid : Prop := Claim7.holds Tryz.pinned (.plain (OpenSpec.upto evalFoldsSpec)) evalFoldsUptoCard

/-- THE SECOND FORM's CARD OF 'augurylaw11.EvalTurned'. -/
def evalTurnedUptoCard : Claim7 := { stood := { row := evalTurnedUptoRow, standIns := [], harness := (true, "0048cbafabb1cd31fe1dc5e11e438753242ff234233c425323badd2fa73eb1cd"), looks := true }, kinds := [], alts := [], laidByText := true, laidKinds := [.data], laidTests := true, laidLooks := .later }
def EvalTurnedUptoCardSaid : Prop := Claim7.holds Tryz.pinned (.plain (OpenSpec.upto evalTurnedSpec)) evalTurnedUptoCard

/-- THE SECOND FORM's CARD OF 'augurylaw11.EvalNothing'. -/
def evalNothingUptoCard : Claim7 := { stood := { row := evalNothingUptoRow, standIns := [], harness := (true, "0048cbafabb1cd31fe1dc5e11e438753242ff234233c425323badd2fa73eb1cd"), looks := true }, kinds := [], alts := [], laidByText := true, laidKinds := [.data], laidTests := true, laidLooks := .later }
def EvalNothingUptoCardSaid : Prop := Claim7.holds Tryz.pinned (.plain (OpenSpec.upto evalNothingSpec)) evalNothingUptoCard
end Rows
end Go.Proofs.YtifacoompbngaaaGreatDoor
