/-
  NARROWER THAN 'FOR EVERY INPUT', by the rows' own cells (each row's printed sentence says how): RecurSame: laid · RecurExact: laid · RecurAscends: laid · RecurCivil: laid · RecurRanges: laid.
  DERIVED. THE GIVEN ROWS OF THIS SEAT. 5 by the template 'for every input the law returns true; each argument reads behind the call as it read before'; 0 by the template 'total and deterministic' (their statements: YthaacmmkignocaaDoorTotals.lean).
  GIVEN WITH THE SEED: the statements are not yours to turn. If you find one false, say at which input.
  Laid BY PROGRAM, IN A SANDBOX (cutbox-rows.mjs): the forced cells as the released guide's own fill.sh prints them over the translation 5051565da4ea2e0c… (all of the seat's roots in one cut). By AI agents, Wed Nov 11 2026. No macro, syntax, notation, axiom, sorry.
-/
import Derived.Test.YthaacmmkignocaaDoorChecked
import GoSem.Claim
import GoSem.ClaimJoined
import GoSem.ClaimMapViews
import Derived.JoinedTies
import Derived.KernelRfl
namespace Go.Proofs.YthaacmmkignocaaDoor
/- THE CELL 'sum', in the pinned program and in every row, IS THE sha256 OF THE DUMP (.gsa) THAT YthaacmmkignocaaDoorProg.lean LOADS. Nothing in Lean hashes anything: it is a label: what it is worth is what the hold of that sum in a sandbox is worth. -/
noncomputable def Tryd.pinned : Pinned := { name := "ythaacmmkignocaadoor", sum := "5051565da4ea2e0c54a48f0ced4b18fa7975618acab65de6168da161894084f8", checked := Tryd.checked }
namespace Rows
def none {H : Type} : Left H := { results := [], args := [] }

/- WHAT THE LISTED PACKAGE-LEVEL VARIABLES READ AS WHEN THE CALL BEGINS. Each datum BY PROGRAM (the guide's laid-datum.mjs) off the statement by which the dump's own 'gosem.cut.vars' lays the variable. In a bare row this is a premise. The card (YthaacmmkignocaaDoorCards.lean) ties it to the program's text. -/
def laid_pagewatch_civil_monthLengths {H : Type} : DataW H := .agg [.lit (.int .i64 31), .lit (.int .i64 28), .lit (.int .i64 31), .lit (.int .i64 30), .lit (.int .i64 31), .lit (.int .i64 30), .lit (.int .i64 31), .lit (.int .i64 31), .lit (.int .i64 30), .lit (.int .i64 31), .lit (.int .i64 30), .lit (.int .i64 31)]

/-- 'pagewatchlaw10.RecurSame': WHATEVER THE INPUT: true; the input reads as it did. -/
def recurSameSpec : ChangeSpec := { name := "recurSame", fn := fun _ => fun
  | [d1, d2] => { results := [.lit (.bool true)], args := [d1, d2] }
  | _ => none }
def recurSameRow : OpenClaim := { program := "ythaacmmkignocaadoor", sum := "5051565da4ea2e0c54a48f0ced4b18fa7975618acab65de6168da161894084f8", func := "pagewatch/pagewatchlaw10.RecurSame", spec := "recurSame", unfollowed := true, recurses := true, named := ["pagewatch/civil.monthLengths"], apart := false, laid := [("pagewatch/civil.monthLengths", laid_pagewatch_civil_monthLengths)] }
def RecurSameSaid : Prop := recurSameRow.holds Tryd.pinned (OpenSpec.ofChange recurSameSpec)

/-- ITS FALSE NEIGHBOUR: 'it returns false'. Refute it at one input. -/
def recurSameWrong : ChangeSpec := { name := "recurSame", fn := fun _ => fun
  | [d1, d2] => { results := [.lit (.bool false)], args := [d1, d2] }
  | _ => none }
def RecurSameWrongFalsely : Prop := recurSameRow.holds Tryd.pinned (OpenSpec.ofChange recurSameWrong)

/-- 'pagewatchlaw10.RecurExact': WHATEVER THE INPUT: true; the input reads as it did. -/
def recurExactSpec : ChangeSpec := { name := "recurExact", fn := fun _ => fun
  | [d1, d2, d3, d4, d5] => { results := [.lit (.bool true)], args := [d1, d2, d3, d4, d5] }
  | _ => none }
def recurExactRow : OpenClaim := { program := "ythaacmmkignocaadoor", sum := "5051565da4ea2e0c54a48f0ced4b18fa7975618acab65de6168da161894084f8", func := "pagewatch/pagewatchlaw10.RecurExact", spec := "recurExact", unfollowed := true, recurses := true, named := ["pagewatch/civil.monthLengths"], apart := false, laid := [("pagewatch/civil.monthLengths", laid_pagewatch_civil_monthLengths)] }
def RecurExactSaid : Prop := recurExactRow.holds Tryd.pinned (OpenSpec.ofChange recurExactSpec)

/-- ITS FALSE NEIGHBOUR: 'it returns false'. Refute it at one input. -/
def recurExactWrong : ChangeSpec := { name := "recurExact", fn := fun _ => fun
  | [d1, d2, d3, d4, d5] => { results := [.lit (.bool false)], args := [d1, d2, d3, d4, d5] }
  | _ => none }
def RecurExactWrongFalsely : Prop := recurExactRow.holds Tryd.pinned (OpenSpec.ofChange recurExactWrong)

/-- 'pagewatchlaw10.RecurAscends': WHATEVER THE INPUT: true; the input reads as it did. -/
def recurAscendsSpec : ChangeSpec := { name := "recurAscends", fn := fun _ => fun
  | [d1, d2] => { results := [.lit (.bool true)], args := [d1, d2] }
  | _ => none }
def recurAscendsRow : OpenClaim := { program := "ythaacmmkignocaadoor", sum := "5051565da4ea2e0c54a48f0ced4b18fa7975618acab65de6168da161894084f8", func := "pagewatch/pagewatchlaw10.RecurAscends", spec := "recurAscends", unfollowed := true, recurses := true, named := ["pagewatch/civil.monthLengths"], apart := false, laid := [("pagewatch/civil.monthLengths", laid_pagewatch_civil_monthLengths)] }
def RecurAscendsSaid : Prop := recurAscendsRow.holds Tryd.pinned (OpenSpec.ofChange recurAscendsSpec)

/-- ITS FALSE NEIGHBOUR: 'it returns false'. Refute it at one input. -/
def recurAscendsWrong : ChangeSpec := { name := "recurAscends", fn := fun _ => fun
  | [d1, d2] => { results := [.lit (.bool false)], args := [d1, d2] }
  | _ => none }
def RecurAscendsWrongFalsely : Prop := recurAscendsRow.holds Tryd.pinned (OpenSpec.ofChange recurAscendsWrong)

/-- 'pagewatchlaw10.RecurCivil': WHATEVER THE INPUT: true; the input reads as it did. -/
def recurCivilSpec : ChangeSpec := { name := "recurCivil", fn := fun _ => fun
  | [d1, d2] => { results := [.lit (.bool true)], args := [d1, d2] }
  | _ => none }
def recurCivilRow : OpenClaim := { program := "ythaacmmkignocaadoor", sum := "5051565da4ea2e0c54a48f0ced4b18fa7975618acab65de6168da161894084f8", func := "pagewatch/pagewatchlaw10.RecurCivil", spec := "recurCivil", unfollowed := true, recurses := true, named := ["pagewatch/civil.monthLengths"], apart := false, laid := [("pagewatch/civil.monthLengths", laid_pagewatch_civil_monthLengths)] }
def RecurCivilSaid : Prop := recurCivilRow.holds Tryd.pinned (OpenSpec.ofChange recurCivilSpec)

/-- ITS FALSE NEIGHBOUR: 'it returns false'. Refute it at one input. -/
def recurCivilWrong : ChangeSpec := { name := "recurCivil", fn := fun _ => fun
  | [d1, d2] => { results := [.lit (.bool false)], args := [d1, d2] }
  | _ => none }
def RecurCivilWrongFalsely : Prop := recurCivilRow.holds Tryd.pinned (OpenSpec.ofChange recurCivilWrong)

/-- 'pagewatchlaw10.RecurRanges': WHATEVER THE INPUT: true; the input reads as it did. -/
def recurRangesSpec : ChangeSpec := { name := "recurRanges", fn := fun _ => fun
  | [d1, d2, d3] => { results := [.lit (.bool true)], args := [d1, d2, d3] }
  | _ => none }
def recurRangesRow : OpenClaim := { program := "ythaacmmkignocaadoor", sum := "5051565da4ea2e0c54a48f0ced4b18fa7975618acab65de6168da161894084f8", func := "pagewatch/pagewatchlaw10.RecurRanges", spec := "recurRanges", unfollowed := true, recurses := true, named := ["pagewatch/civil.monthLengths"], apart := false, laid := [("pagewatch/civil.monthLengths", laid_pagewatch_civil_monthLengths)] }
def RecurRangesSaid : Prop := recurRangesRow.holds Tryd.pinned (OpenSpec.ofChange recurRangesSpec)

/-- ITS FALSE NEIGHBOUR: 'it returns false'. Refute it at one input. -/
def recurRangesWrong : ChangeSpec := { name := "recurRanges", fn := fun _ => fun
  | [d1, d2, d3] => { results := [.lit (.bool false)], args := [d1, d2, d3] }
  | _ => none }
def RecurRangesWrongFalsely : Prop := recurRangesRow.holds Tryd.pinned (OpenSpec.ofChange recurRangesWrong)

/- THE SECOND FORM. 'bulk': how many values and letters a reading holds, each counted each time it is reached (what is shared counts as often as it is met; a slice's spare places count too). A statement '..UptoSaid' is the law's where the arguments, and the package variables that the reading takes, are together of bulk at most 1048576: NARROWER than '..Said'. Prove '..Said' where nothing that the law and all that it calls make is longer than what came in: it says more and counts as full. Else prove '..UptoSaid'. A law counts once. -/
mutual
def uptoBulk {H : Type} : DataW H → Nat
  | .lit (.string bytes) => bytes.length + 1
  | .lit _ => 1
  | .nil => 1
  | .ptr d => uptoBulk d + 1
  | .slice elems spare => uptoBulkAll elems + uptoBulkAll spare + 1
  | .agg parts => uptoBulkAll parts + 1
  | .iface _ d => uptoBulk d + 1
  | .map entries => uptoBulkEntries entries + 1
  | .held _ => 1
def uptoBulkAll {H : Type} : List (DataW H) → Nat
  | [] => 0
  | d :: r => uptoBulk d + uptoBulkAll r
def uptoBulkEntries {H : Type} : List (Lit × DataW H) → Nat
  | [] => 0
  | x :: r => uptoBulkEntry x + uptoBulkEntries r
def uptoBulkEntry {H : Type} : Lit × DataW H → Nat
  | (.string bytes, d) => bytes.length + uptoBulk d + 1
  | (_, d) => uptoBulk d + 1
 end
def uptoSmall : (H : Type) → List (DataW H) → Bool := fun _ ds => decide (uptoBulkAll ds ≤ 1048576)
def OpenSpec.upto (s : _root_.Go.ChangeSpec) : _root_.Go.OpenSpec := { _root_.Go.OpenSpec.ofChange s with cond := some uptoSmall }

/-- 'pagewatchlaw10.RecurSame', WHERE WHAT IT READS IS OF BULK AT MOST 1048576: true; the input reads as it did. -/
def recurSameUptoRow : OpenClaim := { program := "ythaacmmkignocaadoor", sum := "5051565da4ea2e0c54a48f0ced4b18fa7975618acab65de6168da161894084f8", func := "pagewatch/pagewatchlaw10.RecurSame", spec := "recurSame", unfollowed := true, recurses := true, named := ["pagewatch/civil.monthLengths"], apart := false, laid := [("pagewatch/civil.monthLengths", laid_pagewatch_civil_monthLengths)], narrowed := true }
def RecurSameUptoSaid : Prop := recurSameUptoRow.holds Tryd.pinned (OpenSpec.upto recurSameSpec)

/-- 'pagewatchlaw10.RecurExact', WHERE WHAT IT READS IS OF BULK AT MOST 1048576: true; the input reads as it did. -/
def recurExactUptoRow : OpenClaim := { program := "ythaacmmkignocaadoor", sum := "5051565da4ea2e0c54a48f0ced4b18fa7975618acab65de6168da161894084f8", func := "pagewatch/pagewatchlaw10.RecurExact", spec := "recurExact", unfollowed := true, recurses := true, named := ["pagewatch/civil.monthLengths"], apart := false, laid := [("pagewatch/civil.monthLengths", laid_pagewatch_civil_monthLengths)], narrowed := true }
def RecurExactUptoSaid : Prop := recurExactUptoRow.holds Tryd.pinned (OpenSpec.upto recurExactSpec)

/-- 'pagewatchlaw10.RecurAscends', WHERE WHAT IT READS IS OF BULK AT MOST 1048576: true; the input reads as it did. -/
def recurAscendsUptoRow : OpenClaim := { program := "ythaacmmkignocaadoor", sum := "5051565da4ea2e0c54a48f0ced4b18fa7975618acab65de6168da161894084f8", func := "pagewatch/pagewatchlaw10.RecurAscends", spec := "recurAscends", unfollowed := true, recurses := true, named := ["pagewatch/civil.monthLengths"], apart := false, laid := [("pagewatch/civil.monthLengths", laid_pagewatch_civil_monthLengths)], narrowed := true }
def RecurAscendsUptoSaid : Prop := recurAscendsUptoRow.holds Tryd.pinned (OpenSpec.upto recurAscendsSpec)

/-- 'pagewatchlaw10.RecurCivil', WHERE WHAT IT READS IS OF BULK AT MOST 1048576: true; the input reads as it did. -/
def recurCivilUptoRow : OpenClaim := { program := "ythaacmmkignocaadoor", sum := "5051565da4ea2e0c54a48f0ced4b18fa7975618acab65de6168da161894084f8", func := "pagewatch/pagewatchlaw10.RecurCivil", spec := "recurCivil", unfollowed := true, recurses := true, named := ["pagewatch/civil.monthLengths"], apart := false, laid := [("pagewatch/civil.monthLengths", laid_pagewatch_civil_monthLengths)], narrowed := true }
def RecurCivilUptoSaid : Prop := recurCivilUptoRow.holds Tryd.pinned (OpenSpec.upto recurCivilSpec)

/-- 'pagewatchlaw10.RecurRanges', WHERE WHAT IT READS IS OF BULK AT MOST 1048576: true; the input reads as it did. -/
def recurRangesUptoRow : OpenClaim := { program := "ythaacmmkignocaadoor", sum := "5051565da4ea2e0c54a48f0ced4b18fa7975618acab65de6168da161894084f8", func := "pagewatch/pagewatchlaw10.RecurRanges", spec := "recurRanges", unfollowed := true, recurses := true, named := ["pagewatch/civil.monthLengths"], apart := false, laid := [("pagewatch/civil.monthLengths", laid_pagewatch_civil_monthLengths)], narrowed := true }
def RecurRangesUptoSaid : Prop := recurRangesUptoRow.holds Tryd.pinned (OpenSpec.upto recurRangesSpec)

end Rows
end Go.Proofs.YthaacmmkignocaaDoor
