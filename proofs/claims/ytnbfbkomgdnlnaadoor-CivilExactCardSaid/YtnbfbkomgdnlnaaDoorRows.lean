/-
  NARROWER THAN 'FOR EVERY INPUT', by the rows' own cells (each row's printed sentence says how): CivilExact: laid · CivilBack: laid · CivilMonths: laid · CivilWeeks: laid · CivilNth: laid.
  DERIVED. THE GIVEN ROWS OF THIS SEAT. 5 by the template 'for every input the law returns true; each argument reads behind the call as it read before'; 0 by the template 'total and deterministic' (their statements: YtnbfbkomgdnlnaaDoorTotals.lean).
  GIVEN WITH THE SEED: the statements are not yours to turn. If you find one false, say at which input.
  Laid BY PROGRAM, IN A SANDBOX (cutbox-rows.mjs): the forced cells as the released guide's own fill.sh prints them over the translation edceb8e7f3645b98… (all of the seat's roots in one cut). By AI agents, Wed Nov 11 2026. No macro, syntax, notation, axiom, sorry.
-/
import Derived.Test.YtnbfbkomgdnlnaaDoorChecked
import GoSem.Claim
import GoSem.ClaimJoined
import GoSem.ClaimMapViews
import Derived.JoinedTies
import Derived.KernelRfl
namespace Go.Proofs.YtnbfbkomgdnlnaaDoor
/- THE CELL 'sum', in the pinned program and in every row, IS THE sha256 OF THE DUMP (.gsa) THAT YtnbfbkomgdnlnaaDoorProg.lean LOADS. Nothing in Lean hashes anything: it is a label: what it is worth is what the hold of that sum in a sandbox is worth. -/
noncomputable def Tryd.pinned : Pinned := { name := "ytnbfbkomgdnlnaadoor", sum := "edceb8e7f3645b98e16df22346cda82c04464d70ef6229a46f7b3ee60059752b", checked := Tryd.checked }
namespace Rows
def none {H : Type} : Left H := { results := [], args := [] }

/- WHAT THE LISTED PACKAGE-LEVEL VARIABLES READ AS WHEN THE CALL BEGINS. Each datum BY PROGRAM (the guide's laid-datum.mjs) off the statement by which the dump's own 'gosem.cut.vars' lays the variable. In a bare row this is a premise. The card (YtnbfbkomgdnlnaaDoorCards.lean) ties it to the program's text. -/
def laid_pagewatch_civil_monthLengths {H : Type} : DataW H := .agg [.lit (.int .i64 31), .lit (.int .i64 28), .lit (.int .i64 31), .lit (.int .i64 30), .lit (.int .i64 31), .lit (.int .i64 30), .lit (.int .i64 31), .lit (.int .i64 31), .lit (.int .i64 30), .lit (.int .i64 31), .lit (.int .i64 30), .lit (.int .i64 31)]

/-- 'pagewatchlaw01.CivilExact': WHATEVER THE INPUT: true; the input reads as it did. -/
def civilExactSpec : ChangeSpec := { name := "civilExact", fn := fun _ => fun
  | [d1, d2, d3, d4] => { results := [.lit (.bool true)], args := [d1, d2, d3, d4] }
  | _ => none }
def civilExactRow : OpenClaim := { program := "ytnbfbkomgdnlnaadoor", sum := "edceb8e7f3645b98e16df22346cda82c04464d70ef6229a46f7b3ee60059752b", func := "pagewatch/pagewatchlaw01.CivilExact", spec := "civilExact", named := ["pagewatch/civil.monthLengths"], apart := false, laid := [("pagewatch/civil.monthLengths", laid_pagewatch_civil_monthLengths)] }
def CivilExactSaid : Prop := civilExactRow.holds Tryd.pinned (OpenSpec.ofChange civilExactSpec)

/-- ITS FALSE NEIGHBOUR: 'it returns false'. Refute it at one input. -/
def civilExactWrong : ChangeSpec := { name := "civilExact", fn := fun _ => fun
  | [d1, d2, d3, d4] => { results := [.lit (.bool false)], args := [d1, d2, d3, d4] }
  | _ => none }
def CivilExactWrongFalsely : Prop := civilExactRow.holds Tryd.pinned (OpenSpec.ofChange civilExactWrong)

/-- 'pagewatchlaw01.CivilBack': WHATEVER THE INPUT: true; the input reads as it did. -/
def civilBackSpec : ChangeSpec := { name := "civilBack", fn := fun _ => fun
  | [d] => { results := [.lit (.bool true)], args := [d] }
  | _ => none }
def civilBackRow : OpenClaim := { program := "ytnbfbkomgdnlnaadoor", sum := "edceb8e7f3645b98e16df22346cda82c04464d70ef6229a46f7b3ee60059752b", func := "pagewatch/pagewatchlaw01.CivilBack", spec := "civilBack", named := ["pagewatch/civil.monthLengths"], apart := false, laid := [("pagewatch/civil.monthLengths", laid_pagewatch_civil_monthLengths)] }
def CivilBackSaid : Prop := civilBackRow.holds Tryd.pinned (OpenSpec.ofChange civilBackSpec)

/-- ITS FALSE NEIGHBOUR: 'it returns false'. Refute it at one input. -/
def civilBackWrong : ChangeSpec := { name := "civilBack", fn := fun _ => fun
  | [d] => { results := [.lit (.bool false)], args := [d] }
  | _ => none }
def CivilBackWrongFalsely : Prop := civilBackRow.holds Tryd.pinned (OpenSpec.ofChange civilBackWrong)

/-- 'pagewatchlaw01.CivilMonths': WHATEVER THE INPUT: true; the input reads as it did. -/
def civilMonthsSpec : ChangeSpec := { name := "civilMonths", fn := fun _ => fun
  | [d1, d2, d3] => { results := [.lit (.bool true)], args := [d1, d2, d3] }
  | _ => none }
def civilMonthsRow : OpenClaim := { program := "ytnbfbkomgdnlnaadoor", sum := "edceb8e7f3645b98e16df22346cda82c04464d70ef6229a46f7b3ee60059752b", func := "pagewatch/pagewatchlaw01.CivilMonths", spec := "civilMonths", named := ["pagewatch/civil.monthLengths"], apart := false, laid := [("pagewatch/civil.monthLengths", laid_pagewatch_civil_monthLengths)] }
def CivilMonthsSaid : Prop := civilMonthsRow.holds Tryd.pinned (OpenSpec.ofChange civilMonthsSpec)

/-- ITS FALSE NEIGHBOUR: 'it returns false'. Refute it at one input. -/
def civilMonthsWrong : ChangeSpec := { name := "civilMonths", fn := fun _ => fun
  | [d1, d2, d3] => { results := [.lit (.bool false)], args := [d1, d2, d3] }
  | _ => none }
def CivilMonthsWrongFalsely : Prop := civilMonthsRow.holds Tryd.pinned (OpenSpec.ofChange civilMonthsWrong)

/-- 'pagewatchlaw01.CivilWeeks': WHATEVER THE INPUT: true; the input reads as it did. -/
def civilWeeksSpec : ChangeSpec := { name := "civilWeeks", fn := fun _ => fun
  | [d] => { results := [.lit (.bool true)], args := [d] }
  | _ => none }
def civilWeeksRow : OpenClaim := { program := "ytnbfbkomgdnlnaadoor", sum := "edceb8e7f3645b98e16df22346cda82c04464d70ef6229a46f7b3ee60059752b", func := "pagewatch/pagewatchlaw01.CivilWeeks", spec := "civilWeeks", named := ["pagewatch/civil.monthLengths"], apart := false, laid := [("pagewatch/civil.monthLengths", laid_pagewatch_civil_monthLengths)] }
def CivilWeeksSaid : Prop := civilWeeksRow.holds Tryd.pinned (OpenSpec.ofChange civilWeeksSpec)

/-- ITS FALSE NEIGHBOUR: 'it returns false'. Refute it at one input. -/
def civilWeeksWrong : ChangeSpec := { name := "civilWeeks", fn := fun _ => fun
  | [d] => { results := [.lit (.bool false)], args := [d] }
  | _ => none }
def CivilWeeksWrongFalsely : Prop := civilWeeksRow.holds Tryd.pinned (OpenSpec.ofChange civilWeeksWrong)

/-- 'pagewatchlaw01.CivilNth': WHATEVER THE INPUT: true; the input reads as it did. -/
def civilNthSpec : ChangeSpec := { name := "civilNth", fn := fun _ => fun
  | [d1, d2, d3] => { results := [.lit (.bool true)], args := [d1, d2, d3] }
  | _ => none }
def civilNthRow : OpenClaim := { program := "ytnbfbkomgdnlnaadoor", sum := "edceb8e7f3645b98e16df22346cda82c04464d70ef6229a46f7b3ee60059752b", func := "pagewatch/pagewatchlaw01.CivilNth", spec := "civilNth", named := ["pagewatch/civil.monthLengths"], apart := false, laid := [("pagewatch/civil.monthLengths", laid_pagewatch_civil_monthLengths)] }
def CivilNthSaid : Prop := civilNthRow.holds Tryd.pinned (OpenSpec.ofChange civilNthSpec)

/-- ITS FALSE NEIGHBOUR: 'it returns false'. Refute it at one input. -/
def civilNthWrong : ChangeSpec := { name := "civilNth", fn := fun _ => fun
  | [d1, d2, d3] => { results := [.lit (.bool false)], args := [d1, d2, d3] }
  | _ => none }
def CivilNthWrongFalsely : Prop := civilNthRow.holds Tryd.pinned (OpenSpec.ofChange civilNthWrong)

/- THE SECOND FORM. 'bulk': how many values and letters a reading holds, each counted each time it is reached (what is shared counts as often as it is met; a slice's spare places count too). A statement '..UptoSaid' is the law's where the arguments, and the package variables that the reading takes, are together of bulk at most 1048576: NARROWER than '..Said'. Prove '..Said' where nothing that the law and all that it calls make is longer than what came in: it says more and counts as full. Else prove '..UptoSaid'. A law counts once. -/
mutual
def uptoBulk {H : Type} : DataW H → Nat
  | .lit (.string bytes) => bytes.length + 1
  | .lit _ => 1
  | .nil => 1
  | .ptr d => uptoBulk d + 1
  | .slice elems spare => uptoBulkAll elems + uptoBulkAll spare + 1
  | .agg parts => uptoBulkAll parts + 1
  | .iface _ d => uptoBulk d + 1
  | .map entries => uptoBulkEntries entries + 1
  | .held _ => 1
def uptoBulkAll {H : Type} : List (DataW H) → Nat
  | [] => 0
  | d :: r => uptoBulk d + uptoBulkAll r
def uptoBulkEntries {H : Type} : List (Lit × DataW H) → Nat
  | [] => 0
  | x :: r => uptoBulkEntry x + uptoBulkEntries r
def uptoBulkEntry {H : Type} : Lit × DataW H → Nat
  | (.string bytes, d) => bytes.length + uptoBulk d + 1
  | (_, d) => uptoBulk d + 1
 end
def uptoSmall : (H : Type) → List (DataW H) → Bool := fun _ ds => decide (uptoBulkAll ds ≤ 1048576)
def OpenSpec.upto (s : _root_.Go.ChangeSpec) : _root_.Go.OpenSpec := { _root_.Go.OpenSpec.ofChange s with cond := some uptoSmall }

/-- 'pagewatchlaw01.CivilExact', WHERE WHAT IT READS IS OF BULK AT MOST 1048576: true; the input reads as it did. -/
def civilExactUptoRow : OpenClaim := { program := "ytnbfbkomgdnlnaadoor", sum := "edceb8e7f3645b98e16df22346cda82c04464d70ef6229a46f7b3ee60059752b", func := "pagewatch/pagewatchlaw01.CivilExact", spec := "civilExact", named := ["pagewatch/civil.monthLengths"], apart := false, laid := [("pagewatch/civil.monthLengths", laid_pagewatch_civil_monthLengths)], narrowed := true }
def CivilExactUptoSaid : Prop := civilExactUptoRow.holds Tryd.pinned (OpenSpec.upto civilExactSpec)

/-- 'pagewatchlaw01.CivilBack', WHERE WHAT IT READS IS OF BULK AT MOST 1048576: true; the input reads as it did. -/
def civilBackUptoRow : OpenClaim := { program := "ytnbfbkomgdnlnaadoor", sum := "edceb8e7f3645b98e16df22346cda82c04464d70ef6229a46f7b3ee60059752b", func := "pagewatch/pagewatchlaw01.CivilBack", spec := "civilBack", named := ["pagewatch/civil.monthLengths"], apart := false, laid := [("pagewatch/civil.monthLengths", laid_pagewatch_civil_monthLengths)], narrowed := true }
def CivilBackUptoSaid : Prop := civilBackUptoRow.holds Tryd.pinned (OpenSpec.upto civilBackSpec)

/-- 'pagewatchlaw01.CivilMonths', WHERE WHAT IT READS IS OF BULK AT MOST 1048576: true; the input reads as it did. -/
def civilMonthsUptoRow : OpenClaim := { program := "ytnbfbkomgdnlnaadoor", sum := "edceb8e7f3645b98e16df22346cda82c04464d70ef6229a46f7b3ee60059752b", func := "pagewatch/pagewatchlaw01.CivilMonths", spec := "civilMonths", named := ["pagewatch/civil.monthLengths"], apart := false, laid := [("pagewatch/civil.monthLengths", laid_pagewatch_civil_monthLengths)], narrowed := true }
def CivilMonthsUptoSaid : Prop := civilMonthsUptoRow.holds Tryd.pinned (OpenSpec.upto civilMonthsSpec)

/-- 'pagewatchlaw01.CivilWeeks', WHERE WHAT IT READS IS OF BULK AT MOST 1048576: true; the input reads as it did. -/
def civilWeeksUptoRow : OpenClaim := { program := "ytnbfbkomgdnlnaadoor", sum := "edceb8e7f3645b98e16df22346cda82c04464d70ef6229a46f7b3ee60059752b", func := "pagewatch/pagewatchlaw01.CivilWeeks", spec := "civilWeeks", named := ["pagewatch/civil.monthLengths"], apart := false, laid := [("pagewatch/civil.monthLengths", laid_pagewatch_civil_monthLengths)], narrowed := true }
def CivilWeeksUptoSaid : Prop := civilWeeksUptoRow.holds Tryd.pinned (OpenSpec.upto civilWeeksSpec)

/-- 'pagewatchlaw01.CivilNth', WHERE WHAT IT READS IS OF BULK AT MOST 1048576: true; the input reads as it did. -/
def civilNthUptoRow : OpenClaim := { program := "ytnbfbkomgdnlnaadoor", sum := "edceb8e7f3645b98e16df22346cda82c04464d70ef6229a46f7b3ee60059752b", func := "pagewatch/pagewatchlaw01.CivilNth", spec := "civilNth", named := ["pagewatch/civil.monthLengths"], apart := false, laid := [("pagewatch/civil.monthLengths", laid_pagewatch_civil_monthLengths)], narrowed := true }
def CivilNthUptoSaid : Prop := civilNthUptoRow.holds Tryd.pinned (OpenSpec.upto civilNthSpec)

end Rows
end Go.Proofs.YtnbfbkomgdnlnaaDoor
