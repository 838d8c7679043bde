/-
  NARROWER THAN 'FOR EVERY INPUT', by the rows' own cells (each row's printed sentence says how): ZoneLimits: laid · ZoneExact: laid · ZoneBack: laid · ZoneLeaps: laid · ZoneAscends: laid · ZoneRules: laid.
  DERIVED. THE GIVEN ROWS OF THIS SEAT. 6 by the template 'for every input the law returns true; each argument reads behind the call as it read before'; 0 by the template 'total and deterministic' (their statements: YtegnfmpbhindaaaDoorTotals.lean).
  GIVEN WITH THE SEED: the statements are not yours to turn. If you find one false, say at which input.
  Laid BY PROGRAM, IN A SANDBOX (cutbox-rows.mjs): the forced cells as the released guide's own fill.sh prints them over the translation 39d9f1f75b2a55b6… (all of the seat's roots in one cut). By AI agents, Wed Nov 11 2026. No macro, syntax, notation, axiom, sorry.
-/
import Derived.Test.YtegnfmpbhindaaaDoorChecked
import GoSem.Claim
import GoSem.ClaimJoined
import GoSem.ClaimMapViews
import Derived.JoinedTies
import Derived.KernelRfl
namespace Go.Proofs.YtegnfmpbhindaaaDoor
/- THE CELL 'sum', in the pinned program and in every row, IS THE sha256 OF THE DUMP (.gsa) THAT YtegnfmpbhindaaaDoorProg.lean LOADS. Nothing in Lean hashes anything: it is a label: what it is worth is what the hold of that sum in a sandbox is worth. -/
noncomputable def Tryd.pinned : Pinned := { name := "ytegnfmpbhindaaadoor", sum := "39d9f1f75b2a55b6d779a1822705d86c58c3db7d4cd4d22c331fbeb783812f5d", checked := Tryd.checked }
namespace Rows
def none {H : Type} : Left H := { results := [], args := [] }

/- WHAT THE LISTED PACKAGE-LEVEL VARIABLES READ AS WHEN THE CALL BEGINS. Each datum BY PROGRAM (the guide's laid-datum.mjs) off the statement by which the dump's own 'gosem.cut.vars' lays the variable. In a bare row this is a premise. The card (YtegnfmpbhindaaaDoorCards.lean) ties it to the program's text. -/
def laid_pagewatch_civil_monthLengths {H : Type} : DataW H := .agg [.lit (.int .i64 31), .lit (.int .i64 28), .lit (.int .i64 31), .lit (.int .i64 30), .lit (.int .i64 31), .lit (.int .i64 30), .lit (.int .i64 31), .lit (.int .i64 31), .lit (.int .i64 30), .lit (.int .i64 31), .lit (.int .i64 30), .lit (.int .i64 31)]

/-- 'pagewatchlaw04.ZoneLimits': WHATEVER THE INPUT: true; the input reads as it did. -/
def zoneLimitsSpec : ChangeSpec := { name := "zoneLimits", fn := fun _ => fun
  | [d] => { results := [.lit (.bool true)], args := [d] }
  | _ => none }
def zoneLimitsRow : OpenClaim := { program := "ytegnfmpbhindaaadoor", sum := "39d9f1f75b2a55b6d779a1822705d86c58c3db7d4cd4d22c331fbeb783812f5d", func := "pagewatch/pagewatchlaw04.ZoneLimits", spec := "zoneLimits", unfollowed := true, recurses := true, named := ["pagewatch/civil.monthLengths"], apart := false, laid := [("pagewatch/civil.monthLengths", laid_pagewatch_civil_monthLengths)] }
def ZoneLimitsSaid : Prop := zoneLimitsRow.holds Tryd.pinned (OpenSpec.ofChange zoneLimitsSpec)

/-- ITS FALSE NEIGHBOUR: 'it returns false'. Refute it at one input. -/
def zoneLimitsWrong : ChangeSpec := { name := "zoneLimits", fn := fun _ => fun
  | [d] => { results := [.lit (.bool false)], args := [d] }
  | _ => none }
def ZoneLimitsWrongFalsely : Prop := zoneLimitsRow.holds Tryd.pinned (OpenSpec.ofChange zoneLimitsWrong)

/-- 'pagewatchlaw04.ZoneExact': WHATEVER THE INPUT: true; the input reads as it did. -/
def zoneExactSpec : ChangeSpec := { name := "zoneExact", fn := fun _ => fun
  | [d1, d2, d3, d4, d5] => { results := [.lit (.bool true)], args := [d1, d2, d3, d4, d5] }
  | _ => none }
def zoneExactRow : OpenClaim := { program := "ytegnfmpbhindaaadoor", sum := "39d9f1f75b2a55b6d779a1822705d86c58c3db7d4cd4d22c331fbeb783812f5d", func := "pagewatch/pagewatchlaw04.ZoneExact", spec := "zoneExact", unfollowed := true, recurses := true, named := ["pagewatch/civil.monthLengths"], apart := false, laid := [("pagewatch/civil.monthLengths", laid_pagewatch_civil_monthLengths)] }
def ZoneExactSaid : Prop := zoneExactRow.holds Tryd.pinned (OpenSpec.ofChange zoneExactSpec)

/-- ITS FALSE NEIGHBOUR: 'it returns false'. Refute it at one input. -/
def zoneExactWrong : ChangeSpec := { name := "zoneExact", fn := fun _ => fun
  | [d1, d2, d3, d4, d5] => { results := [.lit (.bool false)], args := [d1, d2, d3, d4, d5] }
  | _ => none }
def ZoneExactWrongFalsely : Prop := zoneExactRow.holds Tryd.pinned (OpenSpec.ofChange zoneExactWrong)

/-- 'pagewatchlaw04.ZoneBack': WHATEVER THE INPUT: true; the input reads as it did. -/
def zoneBackSpec : ChangeSpec := { name := "zoneBack", fn := fun _ => fun
  | [d1, d2] => { results := [.lit (.bool true)], args := [d1, d2] }
  | _ => none }
def zoneBackRow : OpenClaim := { program := "ytegnfmpbhindaaadoor", sum := "39d9f1f75b2a55b6d779a1822705d86c58c3db7d4cd4d22c331fbeb783812f5d", func := "pagewatch/pagewatchlaw04.ZoneBack", spec := "zoneBack", unfollowed := true, recurses := true, named := ["pagewatch/civil.monthLengths"], apart := false, laid := [("pagewatch/civil.monthLengths", laid_pagewatch_civil_monthLengths)] }
def ZoneBackSaid : Prop := zoneBackRow.holds Tryd.pinned (OpenSpec.ofChange zoneBackSpec)

/-- ITS FALSE NEIGHBOUR: 'it returns false'. Refute it at one input. -/
def zoneBackWrong : ChangeSpec := { name := "zoneBack", fn := fun _ => fun
  | [d1, d2] => { results := [.lit (.bool false)], args := [d1, d2] }
  | _ => none }
def ZoneBackWrongFalsely : Prop := zoneBackRow.holds Tryd.pinned (OpenSpec.ofChange zoneBackWrong)

/-- 'pagewatchlaw04.ZoneLeaps': WHATEVER THE INPUT: true; the input reads as it did. -/
def zoneLeapsSpec : ChangeSpec := { name := "zoneLeaps", fn := fun _ => fun
  | [d1, d2, d3] => { results := [.lit (.bool true)], args := [d1, d2, d3] }
  | _ => none }
def zoneLeapsRow : OpenClaim := { program := "ytegnfmpbhindaaadoor", sum := "39d9f1f75b2a55b6d779a1822705d86c58c3db7d4cd4d22c331fbeb783812f5d", func := "pagewatch/pagewatchlaw04.ZoneLeaps", spec := "zoneLeaps", unfollowed := true, recurses := true, named := ["pagewatch/civil.monthLengths"], apart := false, laid := [("pagewatch/civil.monthLengths", laid_pagewatch_civil_monthLengths)] }
def ZoneLeapsSaid : Prop := zoneLeapsRow.holds Tryd.pinned (OpenSpec.ofChange zoneLeapsSpec)

/-- ITS FALSE NEIGHBOUR: 'it returns false'. Refute it at one input. -/
def zoneLeapsWrong : ChangeSpec := { name := "zoneLeaps", fn := fun _ => fun
  | [d1, d2, d3] => { results := [.lit (.bool false)], args := [d1, d2, d3] }
  | _ => none }
def ZoneLeapsWrongFalsely : Prop := zoneLeapsRow.holds Tryd.pinned (OpenSpec.ofChange zoneLeapsWrong)

/-- 'pagewatchlaw04.ZoneAscends': WHATEVER THE INPUT: true; the input reads as it did. -/
def zoneAscendsSpec : ChangeSpec := { name := "zoneAscends", fn := fun _ => fun
  | [d1, d2, d3] => { results := [.lit (.bool true)], args := [d1, d2, d3] }
  | _ => none }
def zoneAscendsRow : OpenClaim := { program := "ytegnfmpbhindaaadoor", sum := "39d9f1f75b2a55b6d779a1822705d86c58c3db7d4cd4d22c331fbeb783812f5d", func := "pagewatch/pagewatchlaw04.ZoneAscends", spec := "zoneAscends", unfollowed := true, recurses := true, named := ["pagewatch/civil.monthLengths"], apart := false, laid := [("pagewatch/civil.monthLengths", laid_pagewatch_civil_monthLengths)] }
def ZoneAscendsSaid : Prop := zoneAscendsRow.holds Tryd.pinned (OpenSpec.ofChange zoneAscendsSpec)

/-- ITS FALSE NEIGHBOUR: 'it returns false'. Refute it at one input. -/
def zoneAscendsWrong : ChangeSpec := { name := "zoneAscends", fn := fun _ => fun
  | [d1, d2, d3] => { results := [.lit (.bool false)], args := [d1, d2, d3] }
  | _ => none }
def ZoneAscendsWrongFalsely : Prop := zoneAscendsRow.holds Tryd.pinned (OpenSpec.ofChange zoneAscendsWrong)

/-- 'pagewatchlaw04.ZoneRules': WHATEVER THE INPUT: true; the input reads as it did. -/
def zoneRulesSpec : ChangeSpec := { name := "zoneRules", fn := fun _ => fun
  | [d1, d2] => { results := [.lit (.bool true)], args := [d1, d2] }
  | _ => none }
def zoneRulesRow : OpenClaim := { program := "ytegnfmpbhindaaadoor", sum := "39d9f1f75b2a55b6d779a1822705d86c58c3db7d4cd4d22c331fbeb783812f5d", func := "pagewatch/pagewatchlaw04.ZoneRules", spec := "zoneRules", unfollowed := true, recurses := true, named := ["pagewatch/civil.monthLengths"], apart := false, laid := [("pagewatch/civil.monthLengths", laid_pagewatch_civil_monthLengths)] }
def ZoneRulesSaid : Prop := zoneRulesRow.holds Tryd.pinned (OpenSpec.ofChange zoneRulesSpec)

/-- ITS FALSE NEIGHBOUR: 'it returns false'. Refute it at one input. -/
def zoneRulesWrong : ChangeSpec := { name := "zoneRules", fn := fun _ => fun
  | [d1, d2] => { results := [.lit (.bool false)], args := [d1, d2] }
  | _ => none }
def ZoneRulesWrongFalsely : Prop := zoneRulesRow.holds Tryd.pinned (OpenSpec.ofChange zoneRulesWrong)

/- THE SECOND FORM. 'bulk': how many values and letters a reading holds, each counted each time it is reached (what is shared counts as often as it is met; a slice's spare places count too). A statement '..UptoSaid' is the law's where the arguments, and the package variables that the reading takes, are together of bulk at most 1048576: NARROWER than '..Said'. Prove '..Said' where nothing that the law and all that it calls make is longer than what came in: it says more and counts as full. Else prove '..UptoSaid'. A law counts once. -/
mutual
def uptoBulk {H : Type} : DataW H → Nat
  | .lit (.string bytes) => bytes.length + 1
  | .lit _ => 1
  | .nil => 1
  | .ptr d => uptoBulk d + 1
  | .slice elems spare => uptoBulkAll elems + uptoBulkAll spare + 1
  | .agg parts => uptoBulkAll parts + 1
  | .iface _ d => uptoBulk d + 1
  | .map entries => uptoBulkEntries entries + 1
  | .held _ => 1
def uptoBulkAll {H : Type} : List (DataW H) → Nat
  | [] => 0
  | d :: r => uptoBulk d + uptoBulkAll r
def uptoBulkEntries {H : Type} : List (Lit × DataW H) → Nat
  | [] => 0
  | x :: r => uptoBulkEntry x + uptoBulkEntries r
def uptoBulkEntry {H : Type} : Lit × DataW H → Nat
  | (.string bytes, d) => bytes.length + uptoBulk d + 1
  | (_, d) => uptoBulk d + 1
 end
def uptoSmall : (H : Type) → List (DataW H) → Bool := fun _ ds => decide (uptoBulkAll ds ≤ 1048576)
def OpenSpec.upto (s : _root_.Go.ChangeSpec) : _root_.Go.OpenSpec := { _root_.Go.OpenSpec.ofChange s with cond := some uptoSmall }

/-- 'pagewatchlaw04.ZoneLimits', WHERE WHAT IT READS IS OF BULK AT MOST 1048576: true; the input reads as it did. -/
def zoneLimitsUptoRow : OpenClaim := { program := "ytegnfmpbhindaaadoor", sum := "39d9f1f75b2a55b6d779a1822705d86c58c3db7d4cd4d22c331fbeb783812f5d", func := "pagewatch/pagewatchlaw04.ZoneLimits", spec := "zoneLimits", unfollowed := true, recurses := true, named := ["pagewatch/civil.monthLengths"], apart := false, laid := [("pagewatch/civil.monthLengths", laid_pagewatch_civil_monthLengths)], narrowed := true }
def ZoneLimitsUptoSaid : Prop := zoneLimitsUptoRow.holds Tryd.pinned (OpenSpec.upto zoneLimitsSpec)

/-- 'pagewatchlaw04.ZoneExact', WHERE WHAT IT READS IS OF BULK AT MOST 1048576: true; the input reads as it did. -/
def zoneExactUptoRow : OpenClaim := { program := "ytegnfmpbhindaaadoor", sum := "39d9f1f75b2a55b6d779a1822705d86c58c3db7d4cd4d22c331fbeb783812f5d", func := "pagewatch/pagewatchlaw04.ZoneExact", spec := "zoneExact", unfollowed := true, recurses := true, named := ["pagewatch/civil.monthLengths"], apart := false, laid := [("pagewatch/civil.monthLengths", laid_pagewatch_civil_monthLengths)], narrowed := true }
def ZoneExactUptoSaid : Prop := zoneExactUptoRow.holds Tryd.pinned (OpenSpec.upto zoneExactSpec)

/-- 'pagewatchlaw04.ZoneBack', WHERE WHAT IT READS IS OF BULK AT MOST 1048576: true; the input reads as it did. -/
def zoneBackUptoRow : OpenClaim := { program := "ytegnfmpbhindaaadoor", sum := "39d9f1f75b2a55b6d779a1822705d86c58c3db7d4cd4d22c331fbeb783812f5d", func := "pagewatch/pagewatchlaw04.ZoneBack", spec := "zoneBack", unfollowed := true, recurses := true, named := ["pagewatch/civil.monthLengths"], apart := false, laid := [("pagewatch/civil.monthLengths", laid_pagewatch_civil_monthLengths)], narrowed := true }
def ZoneBackUptoSaid : Prop := zoneBackUptoRow.holds Tryd.pinned (OpenSpec.upto zoneBackSpec)

/-- 'pagewatchlaw04.ZoneLeaps', WHERE WHAT IT READS IS OF BULK AT MOST 1048576: true; the input reads as it did. -/
def zoneLeapsUptoRow : OpenClaim := { program := "ytegnfmpbhindaaadoor", sum := "39d9f1f75b2a55b6d779a1822705d86c58c3db7d4cd4d22c331fbeb783812f5d", func := "pagewatch/pagewatchlaw04.ZoneLeaps", spec := "zoneLeaps", unfollowed := true, recurses := true, named := ["pagewatch/civil.monthLengths"], apart := false, laid := [("pagewatch/civil.monthLengths", laid_pagewatch_civil_monthLengths)], narrowed := true }
def ZoneLeapsUptoSaid : Prop := zoneLeapsUptoRow.holds Tryd.pinned (OpenSpec.upto zoneLeapsSpec)

/-- 'pagewatchlaw04.ZoneAscends', WHERE WHAT IT READS IS OF BULK AT MOST 1048576: true; the input reads as it did. -/
def zoneAscendsUptoRow : OpenClaim := { program := "ytegnfmpbhindaaadoor", sum := "39d9f1f75b2a55b6d779a1822705d86c58c3db7d4cd4d22c331fbeb783812f5d", func := "pagewatch/pagewatchlaw04.ZoneAscends", spec := "zoneAscends", unfollowed := true, recurses := true, named := ["pagewatch/civil.monthLengths"], apart := false, laid := [("pagewatch/civil.monthLengths", laid_pagewatch_civil_monthLengths)], narrowed := true }
def ZoneAscendsUptoSaid : Prop := zoneAscendsUptoRow.holds Tryd.pinned (OpenSpec.upto zoneAscendsSpec)

/-- 'pagewatchlaw04.ZoneRules', WHERE WHAT IT READS IS OF BULK AT MOST 1048576: true; the input reads as it did. -/
def zoneRulesUptoRow : OpenClaim := { program := "ytegnfmpbhindaaadoor", sum := "39d9f1f75b2a55b6d779a1822705d86c58c3db7d4cd4d22c331fbeb783812f5d", func := "pagewatch/pagewatchlaw04.ZoneRules", spec := "zoneRules", unfollowed := true, recurses := true, named := ["pagewatch/civil.monthLengths"], apart := false, laid := [("pagewatch/civil.monthLengths", laid_pagewatch_civil_monthLengths)], narrowed := true }
def ZoneRulesUptoSaid : Prop := zoneRulesUptoRow.holds Tryd.pinned (OpenSpec.upto zoneRulesSpec)

end Rows
end Go.Proofs.YtegnfmpbhindaaaDoor
