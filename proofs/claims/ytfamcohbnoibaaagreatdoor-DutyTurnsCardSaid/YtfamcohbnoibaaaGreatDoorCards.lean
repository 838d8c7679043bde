/-
  DERIVED. GIVEN WITH THE SEED: THE CARDS: each row of YtfamcohbnoibaaaGreatDoorRows.lean that lists a variable, with what it lists TIED to the program's text (the seventh form; the later family's looks); each row that meets fmt, with fmt's text TOLD by the authors' own Lean function (tested against real Go, not proved from fmt's source: count such statements apart). THE CARD IS WHAT COUNTS. Prove the row's statement (the work); the ties are given (YtfamcohbnoibaaaGreatDoorTie.lean); close each card by the builder's one call (the guide's Derived/Test/ToyasCard.lean, 'card_holds'). Laid BY PROGRAM, IN A SANDBOX (cutbox-door.mjs). By AI agents, Wed Nov 11 2026. No macro, syntax, notation, axiom, sorry.
-/
import Derived.Test.YtfamcohbnoibaaaGreatDoorRows
import GoSem.ClaimSeven
namespace Go.Proofs.YtfamcohbnoibaaaGreatDoor
namespace Rows

/-- THE TIED CARD OF 'pagewatchlaw11.DutyExact'. -/
def dutyExactCard : Claim7 := { stood := { row := dutyExactRow, standIns := [], harness := (true, "380b998b3221e4506aee9834eaeb55ae7ecdaf2b8abf57f58a93985997d63d9e"), looks := false }, kinds := [], alts := [], laidByText := true, laidKinds := [.data], laidTests := true, laidLooks := .later }
def DutyExactCardSaid : Prop := Claim7.holds Tryz.pinned (.plain (OpenSpec.ofChange dutyExactSpec)) dutyExactCard

/-- THE TIED CARD OF 'pagewatchlaw11.DutyPieces'. -/
def dutyPiecesCard : Claim7 := { stood := { row := dutyPiecesRow, standIns := [], harness := (true, "380b998b3221e4506aee9834eaeb55ae7ecdaf2b8abf57f58a93985997d63d9e"), looks := false }, kinds := [], alts := [], laidByText := true, laidKinds := [.data], laidTests := true, laidLooks := .later }
def DutyPiecesCardSaid : Prop := Claim7.holds Tryz.pinned (.plain (OpenSpec.ofChange dutyPiecesSpec)) dutyPiecesCard

/-- THE TIED CARD OF 'pagewatchlaw11.DutyJoins'. -/
def dutyJoinsCard : Claim7 := { stood := { row := dutyJoinsRow, standIns := [], harness := (true, "380b998b3221e4506aee9834eaeb55ae7ecdaf2b8abf57f58a93985997d63d9e"), looks := false }, kinds := [], alts := [], laidByText := true, laidKinds := [.data], laidTests := true, laidLooks := .later }
def DutyJoinsCardSaid : Prop := Claim7.holds Tryz.pinned (.plain (OpenSpec.ofChange dutyJoinsSpec)) dutyJoinsCard

/-- THE TIED CARD OF 'pagewatchlaw11.DutyTurns'. -/
def dutyTurnsCard : Claim7 := { stood := { row := dutyTurnsRow, standIns := [], harness := (true, "380b998b3221e4506aee9834eaeb55ae7ecdaf2b8abf57f58a93985997d63d9e"), looks := false }, kinds := [], alts := [], laidByText := true, laidKinds := [.data], laidTests := true, laidLooks := .later }
def DutyTurnsCardSaid : Prop := Claim7.holds Tryz.pinned (.plain (OpenSpec.ofChange dutyTurnsSpec)) dutyTurnsCard

/-- THE TIED CARD OF 'pagewatchlaw11.DutyCalendars'. -/
def dutyCalendarsCard : Claim7 := { stood := { row := dutyCalendarsRow, standIns := [], harness := (true, "380b998b3221e4506aee9834eaeb55ae7ecdaf2b8abf57f58a93985997d63d9e"), looks := false }, kinds := [], alts := [], laidByText := true, laidKinds := [.data], laidTests := true, laidLooks := .later }
def DutyCalendarsCardSaid : Prop := Claim7.holds Tryz.pinned (.plain (OpenSpec.ofChange dutyCalendarsSpec)) dutyCalendarsCard

/-- THE SECOND FORM's CARD OF 'pagewatchlaw11.DutyExact'. -/
def dutyExactUptoCard : Claim7 := { stood := { row := dutyExactUptoRow, standIns := [], harness := (true, "380b998b3221e4506aee9834eaeb55ae7ecdaf2b8abf57f58a93985997d63d9e"), looks := false }, kinds := [], alts := [], laidByText := true, laidKinds := [.data], laidTests := true, laidLooks := .later }
def DutyExactUptoCardSaid : Prop := Claim7.holds Tryz.pinned (.plain (OpenSpec.upto dutyExactSpec)) dutyExactUptoCard

/-- THE SECOND FORM's CARD OF 'pagewatchlaw11.DutyPieces'. -/
def dutyPiecesUptoCard : Claim7 := { stood := { row := dutyPiecesUptoRow, standIns := [], harness := (true, "380b998b3221e4506aee9834eaeb55ae7ecdaf2b8abf57f58a93985997d63d9e"), looks := false }, kinds := [], alts := [], laidByText := true, laidKinds := [.data], laidTests := true, laidLooks := .later }
def DutyPiecesUptoCardSaid : Prop := Claim7.holds Tryz.pinned (.plain (OpenSpec.upto dutyPiecesSpec)) dutyPiecesUptoCard

/-- THE SECOND FORM's CARD OF 'pagewatchlaw11.DutyJoins'. -/
def dutyJoinsUptoCard : Claim7 := { stood := { row := dutyJoinsUptoRow, standIns := [], harness := (true, "380b998b3221e4506aee9834eaeb55ae7ecdaf2b8abf57f58a93985997d63d9e"), looks := false }, kinds := [], alts := [], laidByText := true, laidKinds := [.data], laidTests := true, laidLooks := .later }
def DutyJoinsUptoCardSaid : Prop := Claim7.holds Tryz.pinned (.plain (OpenSpec.upto dutyJoinsSpec)) dutyJoinsUptoCard

/-- THE SECOND FORM's CARD OF 'pagewatchlaw11.DutyTurns'. -/
def dutyTurnsUptoCard : Claim7 := { stood := { row := dutyTurnsUptoRow, standIns := [], harness := (true, "380b998b3221e4506aee9834eaeb55ae7ecdaf2b8abf57f58a93985997d63d9e"), looks := false }, kinds := [], alts := [], laidByText := true, laidKinds := [.data], laidTests := true, laidLooks := .later }
def DutyTurnsUptoCardSaid : Prop := Claim7.holds Tryz.pinned (.plain (OpenSpec.upto dutyTurnsSpec)) dutyTurnsUptoCard

/-- THE SECOND FORM's CARD OF 'pagewatchlaw11.DutyCalendars'. -/
def dutyCalendarsUptoCard : Claim7 := { stood := { row := dutyCalendarsUptoRow, standIns := [], harness := (true, "380b998b3221e4506aee9834eaeb55ae7ecdaf2b8abf57f58a93985997d63d9e"), looks := false }, kinds := [], alts := [], laidByText := true, laidKinds := [.data], laidTests := true, laidLooks := .later }
def DutyCalendarsUptoCardSaid : Prop := Claim7.holds Tryz.pinned (.plain (OpenSpec.upto dutyCalendarsSpec)) dutyCalendarsUptoCard
end Rows
end Go.Proofs.YtfamcohbnoibaaaGreatDoor
