/-
  NARROWER THAN 'FOR EVERY INPUT', by the rows' own cells (each row's printed sentence says how): DutyExact: laid · DutyPieces: laid · DutyJoins: laid · DutyTurns: laid · DutyCalendars: laid.
  DERIVED. THE GIVEN ROWS OF THIS SEAT. 5 by the template 'for every input the law returns true; each argument reads behind the call as it read before'; 0 by the template 'total and deterministic' (their statements: YtfamcohbnoibaaaGreatDoorTotals.lean).
  GIVEN WITH THE SEED: the statements are not yours to turn. If you find one false, say at which input.
  Laid BY PROGRAM, IN A SANDBOX (cutbox-rows.mjs): the forced cells as the released guide's own fill.sh prints them over the translation 2c66eaae50cffe15… (all of the seat's roots in one cut). By AI agents, Wed Nov 11 2026. No macro, syntax, notation, axiom, sorry.
-/
import Derived.Test.YtfamcohbnoibaaaGreatDoorChecked
import GoSem.Claim
import GoSem.ClaimJoined
import GoSem.ClaimMapViews
import Derived.JoinedTies
import Derived.KernelRfl
namespace Go.Proofs.YtfamcohbnoibaaaGreatDoor
/- THE CELL 'sum', in the pinned program and in every row, IS THE sha256 OF THE DUMP (.gsa) THAT YtfamcohbnoibaaaGreatDoorProg.lean LOADS. Nothing in Lean hashes anything: it is a label: what it is worth is what the hold of that sum in a sandbox is worth. -/
noncomputable def Tryz.pinned : Pinned := { name := "ytfamcohbnoibaaagreatdoor", sum := "2c66eaae50cffe1579c900fe9664b61bf16165ba717b6191feebd7388bf2cfd2", checked := Tryz.checked }
namespace Rows
def none {H : Type} : Left H := { results := [], args := [] }

/- WHAT THE LISTED PACKAGE-LEVEL VARIABLES READ AS WHEN THE CALL BEGINS. Each datum BY PROGRAM (the guide's laid-datum.mjs) off the statement by which the dump's own 'gosem.cut.vars' lays the variable. In a bare row this is a premise. The card (YtfamcohbnoibaaaGreatDoorCards.lean) ties it to the program's text. -/
def laid_pagewatch_civil_monthLengths {H : Type} : DataW H := .agg [.lit (.int .i64 31), .lit (.int .i64 28), .lit (.int .i64 31), .lit (.int .i64 30), .lit (.int .i64 31), .lit (.int .i64 30), .lit (.int .i64 31), .lit (.int .i64 31), .lit (.int .i64 30), .lit (.int .i64 31), .lit (.int .i64 30), .lit (.int .i64 31)]

/-- 'pagewatchlaw11.DutyExact': WHATEVER THE INPUT: true; the input reads as it did. -/
def dutyExactSpec : ChangeSpec := { name := "dutyExact", fn := fun _ => fun
  | [d1, d2, d3, d4, d5] => { results := [.lit (.bool true)], args := [d1, d2, d3, d4, d5] }
  | _ => none }
def dutyExactRow : OpenClaim := { program := "ytfamcohbnoibaaagreatdoor", sum := "2c66eaae50cffe1579c900fe9664b61bf16165ba717b6191feebd7388bf2cfd2", func := "pagewatch/pagewatchlaw11.DutyExact", spec := "dutyExact", unfollowed := true, recurses := true, named := ["pagewatch/civil.monthLengths"], apart := false, laid := [("pagewatch/civil.monthLengths", laid_pagewatch_civil_monthLengths)] }
def DutyExactSaid : Prop := dutyExactRow.holds Tryz.pinned (OpenSpec.ofChange dutyExactSpec)

/-- ITS FALSE NEIGHBOUR: 'it returns false'. Refute it at one input. -/
def dutyExactWrong : ChangeSpec := { name := "dutyExact", fn := fun _ => fun
  | [d1, d2, d3, d4, d5] => { results := [.lit (.bool false)], args := [d1, d2, d3, d4, d5] }
  | _ => none }
def DutyExactWrongFalsely : Prop := dutyExactRow.holds Tryz.pinned (OpenSpec.ofChange dutyExactWrong)

/-- 'pagewatchlaw11.DutyPieces': WHATEVER THE INPUT: true; the input reads as it did. -/
def dutyPiecesSpec : ChangeSpec := { name := "dutyPieces", fn := fun _ => fun
  | [d1, d2] => { results := [.lit (.bool true)], args := [d1, d2] }
  | _ => none }
def dutyPiecesRow : OpenClaim := { program := "ytfamcohbnoibaaagreatdoor", sum := "2c66eaae50cffe1579c900fe9664b61bf16165ba717b6191feebd7388bf2cfd2", func := "pagewatch/pagewatchlaw11.DutyPieces", spec := "dutyPieces", unfollowed := true, recurses := true, named := ["pagewatch/civil.monthLengths"], apart := false, laid := [("pagewatch/civil.monthLengths", laid_pagewatch_civil_monthLengths)] }
def DutyPiecesSaid : Prop := dutyPiecesRow.holds Tryz.pinned (OpenSpec.ofChange dutyPiecesSpec)

/-- ITS FALSE NEIGHBOUR: 'it returns false'. Refute it at one input. -/
def dutyPiecesWrong : ChangeSpec := { name := "dutyPieces", fn := fun _ => fun
  | [d1, d2] => { results := [.lit (.bool false)], args := [d1, d2] }
  | _ => none }
def DutyPiecesWrongFalsely : Prop := dutyPiecesRow.holds Tryz.pinned (OpenSpec.ofChange dutyPiecesWrong)

/-- 'pagewatchlaw11.DutyJoins': WHATEVER THE INPUT: true; the input reads as it did. -/
def dutyJoinsSpec : ChangeSpec := { name := "dutyJoins", fn := fun _ => fun
  | [d1, d2, d3] => { results := [.lit (.bool true)], args := [d1, d2, d3] }
  | _ => none }
def dutyJoinsRow : OpenClaim := { program := "ytfamcohbnoibaaagreatdoor", sum := "2c66eaae50cffe1579c900fe9664b61bf16165ba717b6191feebd7388bf2cfd2", func := "pagewatch/pagewatchlaw11.DutyJoins", spec := "dutyJoins", unfollowed := true, recurses := true, named := ["pagewatch/civil.monthLengths"], apart := false, laid := [("pagewatch/civil.monthLengths", laid_pagewatch_civil_monthLengths)] }
def DutyJoinsSaid : Prop := dutyJoinsRow.holds Tryz.pinned (OpenSpec.ofChange dutyJoinsSpec)

/-- ITS FALSE NEIGHBOUR: 'it returns false'. Refute it at one input. -/
def dutyJoinsWrong : ChangeSpec := { name := "dutyJoins", fn := fun _ => fun
  | [d1, d2, d3] => { results := [.lit (.bool false)], args := [d1, d2, d3] }
  | _ => none }
def DutyJoinsWrongFalsely : Prop := dutyJoinsRow.holds Tryz.pinned (OpenSpec.ofChange dutyJoinsWrong)

/-- 'pagewatchlaw11.DutyTurns': WHATEVER THE INPUT: true; the input reads as it did. -/
def dutyTurnsSpec : ChangeSpec := { name := "dutyTurns", fn := fun _ => fun
  | [d] => { results := [.lit (.bool true)], args := [d] }
  | _ => none }
def dutyTurnsRow : OpenClaim := { program := "ytfamcohbnoibaaagreatdoor", sum := "2c66eaae50cffe1579c900fe9664b61bf16165ba717b6191feebd7388bf2cfd2", func := "pagewatch/pagewatchlaw11.DutyTurns", spec := "dutyTurns", unfollowed := true, recurses := true, named := ["pagewatch/civil.monthLengths"], apart := false, laid := [("pagewatch/civil.monthLengths", laid_pagewatch_civil_monthLengths)] }
def DutyTurnsSaid : Prop := dutyTurnsRow.holds Tryz.pinned (OpenSpec.ofChange dutyTurnsSpec)

/-- ITS FALSE NEIGHBOUR: 'it returns false'. Refute it at one input. -/
def dutyTurnsWrong : ChangeSpec := { name := "dutyTurns", fn := fun _ => fun
  | [d] => { results := [.lit (.bool false)], args := [d] }
  | _ => none }
def DutyTurnsWrongFalsely : Prop := dutyTurnsRow.holds Tryz.pinned (OpenSpec.ofChange dutyTurnsWrong)

/-- 'pagewatchlaw11.DutyCalendars': WHATEVER THE INPUT: true; the input reads as it did. -/
def dutyCalendarsSpec : ChangeSpec := { name := "dutyCalendars", fn := fun _ => fun
  | [d1, d2] => { results := [.lit (.bool true)], args := [d1, d2] }
  | _ => none }
def dutyCalendarsRow : OpenClaim := { program := "ytfamcohbnoibaaagreatdoor", sum := "2c66eaae50cffe1579c900fe9664b61bf16165ba717b6191feebd7388bf2cfd2", func := "pagewatch/pagewatchlaw11.DutyCalendars", spec := "dutyCalendars", unfollowed := true, recurses := true, named := ["pagewatch/civil.monthLengths"], apart := false, laid := [("pagewatch/civil.monthLengths", laid_pagewatch_civil_monthLengths)] }
def DutyCalendarsSaid : Prop := dutyCalendarsRow.holds Tryz.pinned (OpenSpec.ofChange dutyCalendarsSpec)

/-- ITS FALSE NEIGHBOUR: 'it returns false'. Refute it at one input. -/
def dutyCalendarsWrong : ChangeSpec := { name := "dutyCalendars", fn := fun _ => fun
  | [d1, d2] => { results := [.lit (.bool false)], args := [d1, d2] }
  | _ => none }
def DutyCalendarsWrongFalsely : Prop := dutyCalendarsRow.holds Tryz.pinned (OpenSpec.ofChange dutyCalendarsWrong)

/- THE SECOND FORM. 'bulk': how many values and letters a reading holds, each counted each time it is reached (what is shared counts as often as it is met; a slice's spare places count too). A statement '..UptoSaid' is the law's where the arguments, and the package variables that the reading takes, are together of bulk at most 1048576: NARROWER than '..Said'. Prove '..Said' where nothing that the law and all that it calls make is longer than what came in: it says more and counts as full. Else prove '..UptoSaid'. A law counts once. -/
mutual
def uptoBulk {H : Type} : DataW H → Nat
  | .lit (.string bytes) => bytes.length + 1
  | .lit _ => 1
  | .nil => 1
  | .ptr d => uptoBulk d + 1
  | .slice elems spare => uptoBulkAll elems + uptoBulkAll spare + 1
  | .agg parts => uptoBulkAll parts + 1
  | .iface _ d => uptoBulk d + 1
  | .map entries => uptoBulkEntries entries + 1
  | .held _ => 1
def uptoBulkAll {H : Type} : List (DataW H) → Nat
  | [] => 0
  | d :: r => uptoBulk d + uptoBulkAll r
def uptoBulkEntries {H : Type} : List (Lit × DataW H) → Nat
  | [] => 0
  | x :: r => uptoBulkEntry x + uptoBulkEntries r
def uptoBulkEntry {H : Type} : Lit × DataW H → Nat
  | (.string bytes, d) => bytes.length + uptoBulk d + 1
  | (_, d) => uptoBulk d + 1
 end
def uptoSmall : (H : Type) → List (DataW H) → Bool := fun _ ds => decide (uptoBulkAll ds ≤ 1048576)
def OpenSpec.upto (s : _root_.Go.ChangeSpec) : _root_.Go.OpenSpec := { _root_.Go.OpenSpec.ofChange s with cond := some uptoSmall }

/-- 'pagewatchlaw11.DutyExact', WHERE WHAT IT READS IS OF BULK AT MOST 1048576: true; the input reads as it did. -/
def dutyExactUptoRow : OpenClaim := { program := "ytfamcohbnoibaaagreatdoor", sum := "2c66eaae50cffe1579c900fe9664b61bf16165ba717b6191feebd7388bf2cfd2", func := "pagewatch/pagewatchlaw11.DutyExact", spec := "dutyExact", unfollowed := true, recurses := true, named := ["pagewatch/civil.monthLengths"], apart := false, laid := [("pagewatch/civil.monthLengths", laid_pagewatch_civil_monthLengths)], narrowed := true }
def DutyExactUptoSaid : Prop := dutyExactUptoRow.holds Tryz.pinned (OpenSpec.upto dutyExactSpec)

/-- 'pagewatchlaw11.DutyPieces', WHERE WHAT IT READS IS OF BULK AT MOST 1048576: true; the input reads as it did. -/
def dutyPiecesUptoRow : OpenClaim := { program := "ytfamcohbnoibaaagreatdoor", sum := "2c66eaae50cffe1579c900fe9664b61bf16165ba717b6191feebd7388bf2cfd2", func := "pagewatch/pagewatchlaw11.DutyPieces", spec := "dutyPieces", unfollowed := true, recurses := true, named := ["pagewatch/civil.monthLengths"], apart := false, laid := [("pagewatch/civil.monthLengths", laid_pagewatch_civil_monthLengths)], narrowed := true }
def DutyPiecesUptoSaid : Prop := dutyPiecesUptoRow.holds Tryz.pinned (OpenSpec.upto dutyPiecesSpec)

/-- 'pagewatchlaw11.DutyJoins', WHERE WHAT IT READS IS OF BULK AT MOST 1048576: true; the input reads as it did. -/
def dutyJoinsUptoRow : OpenClaim := { program := "ytfamcohbnoibaaagreatdoor", sum := "2c66eaae50cffe1579c900fe9664b61bf16165ba717b6191feebd7388bf2cfd2", func := "pagewatch/pagewatchlaw11.DutyJoins", spec := "dutyJoins", unfollowed := true, recurses := true, named := ["pagewatch/civil.monthLengths"], apart := false, laid := [("pagewatch/civil.monthLengths", laid_pagewatch_civil_monthLengths)], narrowed := true }
def DutyJoinsUptoSaid : Prop := dutyJoinsUptoRow.holds Tryz.pinned (OpenSpec.upto dutyJoinsSpec)

/-- 'pagewatchlaw11.DutyTurns', WHERE WHAT IT READS IS OF BULK AT MOST 1048576: true; the input reads as it did. -/
def dutyTurnsUptoRow : OpenClaim := { program := "ytfamcohbnoibaaagreatdoor", sum := "2c66eaae50cffe1579c900fe9664b61bf16165ba717b6191feebd7388bf2cfd2", func := "pagewatch/pagewatchlaw11.DutyTurns", spec := "dutyTurns", unfollowed := true, recurses := true, named := ["pagewatch/civil.monthLengths"], apart := false, laid := [("pagewatch/civil.monthLengths", laid_pagewatch_civil_monthLengths)], narrowed := true }
def DutyTurnsUptoSaid : Prop := dutyTurnsUptoRow.holds Tryz.pinned (OpenSpec.upto dutyTurnsSpec)

/-- 'pagewatchlaw11.DutyCalendars', WHERE WHAT IT READS IS OF BULK AT MOST 1048576: true; the input reads as it did. -/
def dutyCalendarsUptoRow : OpenClaim := { program := "ytfamcohbnoibaaagreatdoor", sum := "2c66eaae50cffe1579c900fe9664b61bf16165ba717b6191feebd7388bf2cfd2", func := "pagewatch/pagewatchlaw11.DutyCalendars", spec := "dutyCalendars", unfollowed := true, recurses := true, named := ["pagewatch/civil.monthLengths"], apart := false, laid := [("pagewatch/civil.monthLengths", laid_pagewatch_civil_monthLengths)], narrowed := true }
def DutyCalendarsUptoSaid : Prop := dutyCalendarsUptoRow.holds Tryz.pinned (OpenSpec.upto dutyCalendarsSpec)

end Rows
end Go.Proofs.YtfamcohbnoibaaaGreatDoor
