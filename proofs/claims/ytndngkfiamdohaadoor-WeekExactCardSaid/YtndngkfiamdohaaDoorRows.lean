/-
  NARROWER THAN 'FOR EVERY INPUT', by the rows' own cells (each row's printed sentence says how): WeekLimits: laid · WeekExact: laid · WeekTimes: laid · WeekInverts: laid · WeekLengths: laid.
  DERIVED. THE GIVEN ROWS OF THIS SEAT. 5 by the template 'for every input the law returns true; each argument reads behind the call as it read before'; 0 by the template 'total and deterministic' (their statements: YtndngkfiamdohaaDoorTotals.lean).
  GIVEN WITH THE SEED: the statements are not yours to turn. If you find one false, say at which input.
  Laid BY PROGRAM, IN A SANDBOX (cutbox-rows.mjs): the forced cells as the released guide's own fill.sh prints them over the translation ff20f64cae8b87e3… (all of the seat's roots in one cut). By AI agents, Wed Nov 11 2026. No macro, syntax, notation, axiom, sorry.
-/
import Derived.Test.YtndngkfiamdohaaDoorChecked
import GoSem.Claim
import GoSem.ClaimJoined
import GoSem.ClaimMapViews
import Derived.JoinedTies
import Derived.KernelRfl
namespace Go.Proofs.YtndngkfiamdohaaDoor
/- THE CELL 'sum', in the pinned program and in every row, IS THE sha256 OF THE DUMP (.gsa) THAT YtndngkfiamdohaaDoorProg.lean LOADS. Nothing in Lean hashes anything: it is a label: what it is worth is what the hold of that sum in a sandbox is worth. -/
noncomputable def Tryd.pinned : Pinned := { name := "ytndngkfiamdohaadoor", sum := "ff20f64cae8b87e3eb5432a4c79a16806a62320d5fcd9d00cee4728cd634cc55", checked := Tryd.checked }
namespace Rows
def none {H : Type} : Left H := { results := [], args := [] }

/- WHAT THE LISTED PACKAGE-LEVEL VARIABLES READ AS WHEN THE CALL BEGINS. Each datum BY PROGRAM (the guide's laid-datum.mjs) off the statement by which the dump's own 'gosem.cut.vars' lays the variable. In a bare row this is a premise. The card (YtndngkfiamdohaaDoorCards.lean) ties it to the program's text. -/
def laid_pagewatch_civil_monthLengths {H : Type} : DataW H := .agg [.lit (.int .i64 31), .lit (.int .i64 28), .lit (.int .i64 31), .lit (.int .i64 30), .lit (.int .i64 31), .lit (.int .i64 30), .lit (.int .i64 31), .lit (.int .i64 31), .lit (.int .i64 30), .lit (.int .i64 31), .lit (.int .i64 30), .lit (.int .i64 31)]

/-- 'pagewatchlaw05.WeekLimits': WHATEVER THE INPUT: true; the input reads as it did. -/
def weekLimitsSpec : ChangeSpec := { name := "weekLimits", fn := fun _ => fun
  | [d] => { results := [.lit (.bool true)], args := [d] }
  | _ => none }
def weekLimitsRow : OpenClaim := { program := "ytndngkfiamdohaadoor", sum := "ff20f64cae8b87e3eb5432a4c79a16806a62320d5fcd9d00cee4728cd634cc55", func := "pagewatch/pagewatchlaw05.WeekLimits", spec := "weekLimits", unfollowed := true, recurses := true, named := ["pagewatch/civil.monthLengths"], apart := false, laid := [("pagewatch/civil.monthLengths", laid_pagewatch_civil_monthLengths)] }
def WeekLimitsSaid : Prop := weekLimitsRow.holds Tryd.pinned (OpenSpec.ofChange weekLimitsSpec)

/-- ITS FALSE NEIGHBOUR: 'it returns false'. Refute it at one input. -/
def weekLimitsWrong : ChangeSpec := { name := "weekLimits", fn := fun _ => fun
  | [d] => { results := [.lit (.bool false)], args := [d] }
  | _ => none }
def WeekLimitsWrongFalsely : Prop := weekLimitsRow.holds Tryd.pinned (OpenSpec.ofChange weekLimitsWrong)

/-- 'pagewatchlaw05.WeekExact': WHATEVER THE INPUT: true; the input reads as it did. -/
def weekExactSpec : ChangeSpec := { name := "weekExact", fn := fun _ => fun
  | [d1, d2, d3, d4, d5] => { results := [.lit (.bool true)], args := [d1, d2, d3, d4, d5] }
  | _ => none }
def weekExactRow : OpenClaim := { program := "ytndngkfiamdohaadoor", sum := "ff20f64cae8b87e3eb5432a4c79a16806a62320d5fcd9d00cee4728cd634cc55", func := "pagewatch/pagewatchlaw05.WeekExact", spec := "weekExact", unfollowed := true, recurses := true, named := ["pagewatch/civil.monthLengths"], apart := false, laid := [("pagewatch/civil.monthLengths", laid_pagewatch_civil_monthLengths)] }
def WeekExactSaid : Prop := weekExactRow.holds Tryd.pinned (OpenSpec.ofChange weekExactSpec)

/-- ITS FALSE NEIGHBOUR: 'it returns false'. Refute it at one input. -/
def weekExactWrong : ChangeSpec := { name := "weekExact", fn := fun _ => fun
  | [d1, d2, d3, d4, d5] => { results := [.lit (.bool false)], args := [d1, d2, d3, d4, d5] }
  | _ => none }
def WeekExactWrongFalsely : Prop := weekExactRow.holds Tryd.pinned (OpenSpec.ofChange weekExactWrong)

/-- 'pagewatchlaw05.WeekTimes': WHATEVER THE INPUT: true; the input reads as it did. -/
def weekTimesSpec : ChangeSpec := { name := "weekTimes", fn := fun _ => fun
  | [d1, d2] => { results := [.lit (.bool true)], args := [d1, d2] }
  | _ => none }
def weekTimesRow : OpenClaim := { program := "ytndngkfiamdohaadoor", sum := "ff20f64cae8b87e3eb5432a4c79a16806a62320d5fcd9d00cee4728cd634cc55", func := "pagewatch/pagewatchlaw05.WeekTimes", spec := "weekTimes", unfollowed := true, recurses := true, named := ["pagewatch/civil.monthLengths"], apart := false, laid := [("pagewatch/civil.monthLengths", laid_pagewatch_civil_monthLengths)] }
def WeekTimesSaid : Prop := weekTimesRow.holds Tryd.pinned (OpenSpec.ofChange weekTimesSpec)

/-- ITS FALSE NEIGHBOUR: 'it returns false'. Refute it at one input. -/
def weekTimesWrong : ChangeSpec := { name := "weekTimes", fn := fun _ => fun
  | [d1, d2] => { results := [.lit (.bool false)], args := [d1, d2] }
  | _ => none }
def WeekTimesWrongFalsely : Prop := weekTimesRow.holds Tryd.pinned (OpenSpec.ofChange weekTimesWrong)

/-- 'pagewatchlaw05.WeekInverts': WHATEVER THE INPUT: true; the input reads as it did. -/
def weekInvertsSpec : ChangeSpec := { name := "weekInverts", fn := fun _ => fun
  | [d1, d2] => { results := [.lit (.bool true)], args := [d1, d2] }
  | _ => none }
def weekInvertsRow : OpenClaim := { program := "ytndngkfiamdohaadoor", sum := "ff20f64cae8b87e3eb5432a4c79a16806a62320d5fcd9d00cee4728cd634cc55", func := "pagewatch/pagewatchlaw05.WeekInverts", spec := "weekInverts", unfollowed := true, recurses := true, named := ["pagewatch/civil.monthLengths"], apart := false, laid := [("pagewatch/civil.monthLengths", laid_pagewatch_civil_monthLengths)] }
def WeekInvertsSaid : Prop := weekInvertsRow.holds Tryd.pinned (OpenSpec.ofChange weekInvertsSpec)

/-- ITS FALSE NEIGHBOUR: 'it returns false'. Refute it at one input. -/
def weekInvertsWrong : ChangeSpec := { name := "weekInverts", fn := fun _ => fun
  | [d1, d2] => { results := [.lit (.bool false)], args := [d1, d2] }
  | _ => none }
def WeekInvertsWrongFalsely : Prop := weekInvertsRow.holds Tryd.pinned (OpenSpec.ofChange weekInvertsWrong)

/-- 'pagewatchlaw05.WeekLengths': WHATEVER THE INPUT: true; the input reads as it did. -/
def weekLengthsSpec : ChangeSpec := { name := "weekLengths", fn := fun _ => fun
  | [d] => { results := [.lit (.bool true)], args := [d] }
  | _ => none }
def weekLengthsRow : OpenClaim := { program := "ytndngkfiamdohaadoor", sum := "ff20f64cae8b87e3eb5432a4c79a16806a62320d5fcd9d00cee4728cd634cc55", func := "pagewatch/pagewatchlaw05.WeekLengths", spec := "weekLengths", unfollowed := true, recurses := true, named := ["pagewatch/civil.monthLengths"], apart := false, laid := [("pagewatch/civil.monthLengths", laid_pagewatch_civil_monthLengths)] }
def WeekLengthsSaid : Prop := weekLengthsRow.holds Tryd.pinned (OpenSpec.ofChange weekLengthsSpec)

/-- ITS FALSE NEIGHBOUR: 'it returns false'. Refute it at one input. -/
def weekLengthsWrong : ChangeSpec := { name := "weekLengths", fn := fun _ => fun
  | [d] => { results := [.lit (.bool false)], args := [d] }
  | _ => none }
def WeekLengthsWrongFalsely : Prop := weekLengthsRow.holds Tryd.pinned (OpenSpec.ofChange weekLengthsWrong)

/- THE SECOND FORM. 'bulk': how many values and letters a reading holds, each counted each time it is reached (what is shared counts as often as it is met; a slice's spare places count too). A statement '..UptoSaid' is the law's where the arguments, and the package variables that the reading takes, are together of bulk at most 1048576: NARROWER than '..Said'. Prove '..Said' where nothing that the law and all that it calls make is longer than what came in: it says more and counts as full. Else prove '..UptoSaid'. A law counts once. -/
mutual
def uptoBulk {H : Type} : DataW H → Nat
  | .lit (.string bytes) => bytes.length + 1
  | .lit _ => 1
  | .nil => 1
  | .ptr d => uptoBulk d + 1
  | .slice elems spare => uptoBulkAll elems + uptoBulkAll spare + 1
  | .agg parts => uptoBulkAll parts + 1
  | .iface _ d => uptoBulk d + 1
  | .map entries => uptoBulkEntries entries + 1
  | .held _ => 1
def uptoBulkAll {H : Type} : List (DataW H) → Nat
  | [] => 0
  | d :: r => uptoBulk d + uptoBulkAll r
def uptoBulkEntries {H : Type} : List (Lit × DataW H) → Nat
  | [] => 0
  | x :: r => uptoBulkEntry x + uptoBulkEntries r
def uptoBulkEntry {H : Type} : Lit × DataW H → Nat
  | (.string bytes, d) => bytes.length + uptoBulk d + 1
  | (_, d) => uptoBulk d + 1
 end
def uptoSmall : (H : Type) → List (DataW H) → Bool := fun _ ds => decide (uptoBulkAll ds ≤ 1048576)
def OpenSpec.upto (s : _root_.Go.ChangeSpec) : _root_.Go.OpenSpec := { _root_.Go.OpenSpec.ofChange s with cond := some uptoSmall }

/-- 'pagewatchlaw05.WeekLimits', WHERE WHAT IT READS IS OF BULK AT MOST 1048576: true; the input reads as it did. -/
def weekLimitsUptoRow : OpenClaim := { program := "ytndngkfiamdohaadoor", sum := "ff20f64cae8b87e3eb5432a4c79a16806a62320d5fcd9d00cee4728cd634cc55", func := "pagewatch/pagewatchlaw05.WeekLimits", spec := "weekLimits", unfollowed := true, recurses := true, named := ["pagewatch/civil.monthLengths"], apart := false, laid := [("pagewatch/civil.monthLengths", laid_pagewatch_civil_monthLengths)], narrowed := true }
def WeekLimitsUptoSaid : Prop := weekLimitsUptoRow.holds Tryd.pinned (OpenSpec.upto weekLimitsSpec)

/-- 'pagewatchlaw05.WeekExact', WHERE WHAT IT READS IS OF BULK AT MOST 1048576: true; the input reads as it did. -/
def weekExactUptoRow : OpenClaim := { program := "ytndngkfiamdohaadoor", sum := "ff20f64cae8b87e3eb5432a4c79a16806a62320d5fcd9d00cee4728cd634cc55", func := "pagewatch/pagewatchlaw05.WeekExact", spec := "weekExact", unfollowed := true, recurses := true, named := ["pagewatch/civil.monthLengths"], apart := false, laid := [("pagewatch/civil.monthLengths", laid_pagewatch_civil_monthLengths)], narrowed := true }
def WeekExactUptoSaid : Prop := weekExactUptoRow.holds Tryd.pinned (OpenSpec.upto weekExactSpec)

/-- 'pagewatchlaw05.WeekTimes', WHERE WHAT IT READS IS OF BULK AT MOST 1048576: true; the input reads as it did. -/
def weekTimesUptoRow : OpenClaim := { program := "ytndngkfiamdohaadoor", sum := "ff20f64cae8b87e3eb5432a4c79a16806a62320d5fcd9d00cee4728cd634cc55", func := "pagewatch/pagewatchlaw05.WeekTimes", spec := "weekTimes", unfollowed := true, recurses := true, named := ["pagewatch/civil.monthLengths"], apart := false, laid := [("pagewatch/civil.monthLengths", laid_pagewatch_civil_monthLengths)], narrowed := true }
def WeekTimesUptoSaid : Prop := weekTimesUptoRow.holds Tryd.pinned (OpenSpec.upto weekTimesSpec)

/-- 'pagewatchlaw05.WeekInverts', WHERE WHAT IT READS IS OF BULK AT MOST 1048576: true; the input reads as it did. -/
def weekInvertsUptoRow : OpenClaim := { program := "ytndngkfiamdohaadoor", sum := "ff20f64cae8b87e3eb5432a4c79a16806a62320d5fcd9d00cee4728cd634cc55", func := "pagewatch/pagewatchlaw05.WeekInverts", spec := "weekInverts", unfollowed := true, recurses := true, named := ["pagewatch/civil.monthLengths"], apart := false, laid := [("pagewatch/civil.monthLengths", laid_pagewatch_civil_monthLengths)], narrowed := true }
def WeekInvertsUptoSaid : Prop := weekInvertsUptoRow.holds Tryd.pinned (OpenSpec.upto weekInvertsSpec)

/-- 'pagewatchlaw05.WeekLengths', WHERE WHAT IT READS IS OF BULK AT MOST 1048576: true; the input reads as it did. -/
def weekLengthsUptoRow : OpenClaim := { program := "ytndngkfiamdohaadoor", sum := "ff20f64cae8b87e3eb5432a4c79a16806a62320d5fcd9d00cee4728cd634cc55", func := "pagewatch/pagewatchlaw05.WeekLengths", spec := "weekLengths", unfollowed := true, recurses := true, named := ["pagewatch/civil.monthLengths"], apart := false, laid := [("pagewatch/civil.monthLengths", laid_pagewatch_civil_monthLengths)], narrowed := true }
def WeekLengthsUptoSaid : Prop := weekLengthsUptoRow.holds Tryd.pinned (OpenSpec.upto weekLengthsSpec)

end Rows
end Go.Proofs.YtndngkfiamdohaaDoor
