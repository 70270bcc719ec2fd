/-
  DERIVED. GIVEN WITH THE SEED: THE CARDS: each row of YtdfmapcnfficlaaGreatDoorRows.lean that lists a variable, with what it lists TIED to the program's text (the seventh form; the later family's looks); each row that meets fmt, with fmt's text TOLD by the authors' own Lean function (tested against real Go, not proved from fmt's source: count such statements apart). THE CARD IS WHAT COUNTS. Prove the row's statement (the work); the ties are given (YtdfmapcnfficlaaGreatDoorTie.lean); close each card by the builder's one call (the guide's Derived/Test/ToyasCard.lean, 'card_holds'). Laid BY PROGRAM, IN A SANDBOX (cutbox-door.mjs). By AI agents, Wed Nov 11 2026. No macro, syntax, notation, axiom, sorry.
-/
import Derived.Test.YtdfmapcnfficlaaGreatDoorRows
import GoSem.ClaimSeven
namespace Go.Proofs.YtdfmapcnfficlaaGreatDoor
namespace Rows

/-- THE TIED CARD OF 'unmarklaw.Whole'. -/
def wholeCard : Claim7 := { stood := { row := wholeRow, standIns := [], harness := (true, "250133fc4e98e3feb8896cb1c4258ef87f129270917ab7081ccc02a2dd727183"), looks := true }, kinds := [], alts := [], goes := true, laidByText := true, laidKinds := [.data, .data, .data, .data, .data, .data, .sentinel, .sentinel, .pinned], laidTests := true, laidLooks := .later }
def WholeCardSaid : Prop := Claim7.holds Tryz.pinned (.plain (OpenSpec.ofChange wholeSpec)) wholeCard

/-- THE TIED CARD OF 'unmarklaw.Written'. -/
def writtenCard : Claim7 := { stood := { row := writtenRow, standIns := [], harness := (true, "250133fc4e98e3feb8896cb1c4258ef87f129270917ab7081ccc02a2dd727183"), looks := true }, kinds := [], alts := [], goes := true, laidByText := true, laidKinds := [.data, .data, .data, .data, .data, .data, .sentinel, .sentinel, .pinned], laidTests := true, laidLooks := .later }
def WrittenCardSaid : Prop := Claim7.holds Tryz.pinned (.plain (OpenSpec.ofChange writtenSpec)) writtenCard

/-- THE TIED CARD OF 'unmarkkeep.Shaped'. -/
def shapedCard : Claim7 := { stood := { row := shapedRow, standIns := [], harness := (true, "250133fc4e98e3feb8896cb1c4258ef87f129270917ab7081ccc02a2dd727183"), looks := true }, kinds := [], alts := [], goes := true, laidByText := true, laidKinds := [.data, .data, .data, .sentinel, .sentinel, .pinned], laidTests := true, laidLooks := .later }
def ShapedCardSaid : Prop := Claim7.holds Tryz.pinned (.plain (OpenSpec.ofChange shapedSpec)) shapedCard

/-- THE TIED CARD OF 'unmarkkeep.Begun'. -/
def begunCard : Claim7 := { stood := { row := begunRow, standIns := [], harness := (true, "250133fc4e98e3feb8896cb1c4258ef87f129270917ab7081ccc02a2dd727183"), looks := true }, kinds := [], alts := [], goes := true, laidByText := true, laidKinds := [.data, .data, .data, .sentinel, .sentinel, .pinned], laidTests := true, laidLooks := .later }
def BegunCardSaid : Prop := Claim7.holds Tryz.pinned (.plain (OpenSpec.ofChange begunSpec)) begunCard

/-- THE TIED CARD OF 'unmarkkeep.Pieces'. -/
def piecesCard : Claim7 := { stood := { row := piecesRow, standIns := [], harness := (true, "250133fc4e98e3feb8896cb1c4258ef87f129270917ab7081ccc02a2dd727183"), looks := true }, kinds := [], alts := [], goes := true, laidByText := true, laidKinds := [.data, .data, .data, .sentinel, .sentinel, .pinned], laidTests := true, laidLooks := .later }
def PiecesCardSaid : Prop := Claim7.holds Tryz.pinned (.plain (OpenSpec.ofChange piecesSpec)) piecesCard

/-- THE TIED CARD OF 'unmarkkeep.Pages'. -/
def pagesCard : Claim7 := { stood := { row := pagesRow, standIns := [], harness := (true, "250133fc4e98e3feb8896cb1c4258ef87f129270917ab7081ccc02a2dd727183"), looks := true }, kinds := [], alts := [], goes := true, laidByText := true, laidKinds := [.data, .data, .data, .sentinel, .sentinel, .pinned], laidTests := true, laidLooks := .later }
def PagesCardSaid : Prop := Claim7.holds Tryz.pinned (.plain (OpenSpec.ofChange pagesSpec)) pagesCard

/-- THE TIED CARD OF 'unmarkkeep.Limits'. -/
def limitsCard : Claim7 := { stood := { row := limitsRow, standIns := [], harness := (true, "250133fc4e98e3feb8896cb1c4258ef87f129270917ab7081ccc02a2dd727183"), looks := true }, kinds := [], alts := [], goes := true, laidByText := true, laidKinds := [.data, .data, .data, .data, .data, .data, .sentinel, .sentinel, .pinned], laidTests := true, laidLooks := .later }
def LimitsCardSaid : Prop := Claim7.holds Tryz.pinned (.plain (OpenSpec.ofChange limitsSpec)) limitsCard

/-- THE TIED CARD OF 'unmarkkeep.Escaped'. -/
def escapedCard : Claim7 := { stood := { row := escapedRow, standIns := [], harness := (true, "250133fc4e98e3feb8896cb1c4258ef87f129270917ab7081ccc02a2dd727183"), looks := true }, kinds := [], alts := [], goes := true, laidByText := true, laidKinds := [.data, .data, .data, .sentinel, .sentinel, .pinned], laidTests := true, laidLooks := .later }
def EscapedCardSaid : Prop := Claim7.holds Tryz.pinned (.plain (OpenSpec.ofChange escapedSpec)) escapedCard

/-- THE TIED CARD OF 'unmarkkeep.Side'. -/
def sideCard : Claim7 := { stood := { row := sideRow, standIns := [], harness := (true, "250133fc4e98e3feb8896cb1c4258ef87f129270917ab7081ccc02a2dd727183"), looks := true }, kinds := [], alts := [], goes := true, laidByText := true, laidKinds := [.data, .data, .data, .data, .data, .data, .sentinel, .sentinel, .pinned], laidTests := true, laidLooks := .later }
def SideCardSaid : Prop := Claim7.holds Tryz.pinned (.plain (OpenSpec.ofChange sideSpec)) sideCard

/-- THE TIED CARD OF 'unmarklaw.Every'. -/
def everyCard : Claim7 := { stood := { row := everyRow, standIns := [], harness := (true, "250133fc4e98e3feb8896cb1c4258ef87f129270917ab7081ccc02a2dd727183"), looks := true }, kinds := [], alts := [], goes := true, laidByText := true, laidKinds := [.data, .data, .data, .data, .data, .data, .sentinel, .sentinel, .pinned], laidTests := true, laidLooks := .later }
def EveryCardSaid : Prop := Claim7.holds Tryz.pinned (.plain (OpenSpec.ofChange everySpec)) everyCard

/-- THE SECOND FORM's CARD OF 'unmarklaw.Whole'. -/
def wholeUptoCard : Claim7 := { stood := { row := wholeUptoRow, standIns := [], harness := (true, "250133fc4e98e3feb8896cb1c4258ef87f129270917ab7081ccc02a2dd727183"), looks := true }, kinds := [], alts := [], goes := true, laidByText := true, laidKinds := [.data, .data, .data, .data, .data, .data, .sentinel, .sentinel, .pinned], laidTests := true, laidLooks := .later }
def WholeUptoCardSaid : Prop := Claim7.holds Tryz.pinned (.plain (OpenSpec.upto wholeSpec)) wholeUptoCard

/-- THE SECOND FORM's CARD OF 'unmarklaw.Written'. -/
def writtenUptoCard : Claim7 := { stood := { row := writtenUptoRow, standIns := [], harness := (true, "250133fc4e98e3feb8896cb1c4258ef87f129270917ab7081ccc02a2dd727183"), looks := true }, kinds := [], alts := [], goes := true, laidByText := true, laidKinds := [.data, .data, .data, .data, .data, .data, .sentinel, .sentinel, .pinned], laidTests := true, laidLooks := .later }
def WrittenUptoCardSaid : Prop := Claim7.holds Tryz.pinned (.plain (OpenSpec.upto writtenSpec)) writtenUptoCard

/-- THE SECOND FORM's CARD OF 'unmarkkeep.Shaped'. -/
def shapedUptoCard : Claim7 := { stood := { row := shapedUptoRow, standIns := [], harness := (true, "250133fc4e98e3feb8896cb1c4258ef87f129270917ab7081ccc02a2dd727183"), looks := true }, kinds := [], alts := [], goes := true, laidByText := true, laidKinds := [.data, .data, .data, .sentinel, .sentinel, .pinned], laidTests := true, laidLooks := .later }
def ShapedUptoCardSaid : Prop := Claim7.holds Tryz.pinned (.plain (OpenSpec.upto shapedSpec)) shapedUptoCard

/-- THE SECOND FORM's CARD OF 'unmarkkeep.Begun'. -/
def begunUptoCard : Claim7 := { stood := { row := begunUptoRow, standIns := [], harness := (true, "250133fc4e98e3feb8896cb1c4258ef87f129270917ab7081ccc02a2dd727183"), looks := true }, kinds := [], alts := [], goes := true, laidByText := true, laidKinds := [.data, .data, .data, .sentinel, .sentinel, .pinned], laidTests := true, laidLooks := .later }
def BegunUptoCardSaid : Prop := Claim7.holds Tryz.pinned (.plain (OpenSpec.upto begunSpec)) begunUptoCard

/-- THE SECOND FORM's CARD OF 'unmarkkeep.Pieces'. -/
def piecesUptoCard : Claim7 := { stood := { row := piecesUptoRow, standIns := [], harness := (true, "250133fc4e98e3feb8896cb1c4258ef87f129270917ab7081ccc02a2dd727183"), looks := true }, kinds := [], alts := [], goes := true, laidByText := true, laidKinds := [.data, .data, .data, .sentinel, .sentinel, .pinned], laidTests := true, laidLooks := .later }
def PiecesUptoCardSaid : Prop := Claim7.holds Tryz.pinned (.plain (OpenSpec.upto piecesSpec)) piecesUptoCard

/-- THE SECOND FORM's CARD OF 'unmarkkeep.Pages'. -/
def pagesUptoCard : Claim7 := { stood := { row := pagesUptoRow, standIns := [], harness := (true, "250133fc4e98e3feb8896cb1c4258ef87f129270917ab7081ccc02a2dd727183"), looks := true }, kinds := [], alts := [], goes := true, laidByText := true, laidKinds := [.data, .data, .data, .sentinel, .sentinel, .pinned], laidTests := true, laidLooks := .later }
def PagesUptoCardSaid : Prop := Claim7.holds Tryz.pinned (.plain (OpenSpec.upto pagesSpec)) pagesUptoCard

/-- THE SECOND FORM's CARD OF 'unmarkkeep.Limits'. -/
def limitsUptoCard : Claim7 := { stood := { row := limitsUptoRow, standIns := [], harness := (true, "250133fc4e98e3feb8896cb1c4258ef87f129270917ab7081ccc02a2dd727183"), looks := true }, kinds := [], alts := [], goes := true, laidByText := true, laidKinds := [.data, .data, .data, .data, .data, .data, .sentinel, .sentinel, .pinned], laidTests := true, laidLooks := .later }
def LimitsUptoCardSaid : Prop := Claim7.holds Tryz.pinned (.plain (OpenSpec.upto limitsSpec)) limitsUptoCard

/-- THE SECOND FORM's CARD OF 'unmarkkeep.Escaped'. -/
def escapedUptoCard : Claim7 := { stood := { row := escapedUptoRow, standIns := [], harness := (true, "250133fc4e98e3feb8896cb1c4258ef87f129270917ab7081ccc02a2dd727183"), looks := true }, kinds := [], alts := [], goes := true, laidByText := true, laidKinds := [.data, .data, .data, .sentinel, .sentinel, .pinned], laidTests := true, laidLooks := .later }
def EscapedUptoCardSaid : Prop := Claim7.holds Tryz.pinned (.plain (OpenSpec.upto escapedSpec)) escapedUptoCard

/-- THE SECOND FORM's CARD OF 'unmarkkeep.Side'. -/
def sideUptoCard : Claim7 := { stood := { row := sideUptoRow, standIns := [], harness := (true, "250133fc4e98e3feb8896cb1c4258ef87f129270917ab7081ccc02a2dd727183"), looks := true }, kinds := [], alts := [], goes := true, laidByText := true, laidKinds := [.data, .data, .data, .data, .data, .data, .sentinel, .sentinel, .pinned], laidTests := true, laidLooks := .later }
def SideUptoCardSaid : Prop := Claim7.holds Tryz.pinned (.plain (OpenSpec.upto sideSpec)) sideUptoCard

/-- THE SECOND FORM's CARD OF 'unmarklaw.Every'. -/
def everyUptoCard : Claim7 := { stood := { row := everyUptoRow, standIns := [], harness := (true, "250133fc4e98e3feb8896cb1c4258ef87f129270917ab7081ccc02a2dd727183"), looks := true }, kinds := [], alts := [], goes := true, laidByText := true, laidKinds := [.data, .data, .data, .data, .data, .data, .sentinel, .sentinel, .pinned], laidTests := true, laidLooks := .later }
def EveryUptoCardSaid : Prop := Claim7.holds Tryz.pinned (.plain (OpenSpec.upto everySpec)) everyUptoCard
end Rows
end Go.Proofs.YtdfmapcnfficlaaGreatDoor
