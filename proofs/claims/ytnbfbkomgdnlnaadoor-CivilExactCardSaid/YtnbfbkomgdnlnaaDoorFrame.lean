/- What every law of this seat needs for its row: the table of months as the program lays it, and a start that fits. -/
import Derived.Test.YtnbfbkomgdnlnaaDoorCivA
import Derived.Test.YtnbfbkomgdnlnaaDoorCards
import Derived.Test.YtnbfbkomgdnlnaaDoorTie
import Derived.ProofKit
import Derived.OpenShut
import Derived.ChangeOld
import Derived.LaidMore
import Derived.LaidOnce
import Derived.Lib.LaidTab
import Derived.SevenTiedAt
import Derived.Below
namespace Go.Proofs.YtnbfbkomgdnlnaaDoor
open Go.ChangeShapes Go.WideShapes Go.ChangeAt Go.RowKit
set_option linter.unusedVariables false

theorem wf_lo {n : Int} (h : (Lit.int .i64 n).wf = true) : -9223372036854775808 ≤ n := by
  simp [Lit.wf, IntKind.min, IntKind.max, IntKind.signed, IntKind.bits] at h; omega
theorem wf_hi {n : Int} (h : (Lit.int .i64 n).wf = true) : n ≤ 9223372036854775807 := by
  simp [Lit.wf, IntKind.min, IntKind.max, IntKind.signed, IntKind.bits] at h; omega
theorem own : ownKnob Tryd.prog.godebug = none := by kernel_rfl
theorem laidOut : laidOutB Tryd.prog = true := by kernel_rfl
theorem gMonth : Tryd.prog.globalNamed "pagewatch/civil.monthLengths" = some 0 := by kernel_rfl
theorem gMonthType : (Tryd.prog.globals[0]?).map (·.type) = some 44 := by kernel_rfl
theorem cells12 : Tryd.prog.cellsOf 44 = 12 := by kernel_rfl
theorem cells1 : Tryd.prog.cellsOf 3 = 1 := by kernel_rfl

def laidList : List (String × DataW Unit) := [("pagewatch/civil.monthLengths", Rows.laid_pagewatch_civil_monthLengths)]
theorem door_met (os : Os) (args : Array Value) : laidMetH Tryd.prog laidList ((World.doorLaid Tryd.prog 400 os).forCall (fun _ _ => 0) ⟨#[], args, []⟩).memory :=
  laidMetH_of_parts3 (fuel := 8) (laidMet_of_run' 8 (by kernel_rfl) (by kernel_rfl)) (by kernel_rfl) (by kernel_rfl)
theorem civT_of {W : World} (h : laidMetH Tryd.prog laidList W) : CivT W := by
  rw [MakeChecks.laidMetH_plain _ _ _ (by kernel_rfl)] at h
  have hT : Lib.TabIs Tryd.prog W "pagewatch/civil.monthLengths" .i64 civTab := Lib.tabIs_of_head gMonth gMonthType Tryd.underlying44 Tryd.underlying3 cells1 cells12 h
  have hc : ∀ i : Nat, i < 12 → W.cell? ⟨0, i, none⟩ = some (.int .i64 (civTab.getD i 0)) := fun i hi => hT.cell gMonth i hi
  exact ⟨Nat.lt_of_le_of_lt (Nat.zero_le _) (World.block_lt_of_cell? W _ (hc 0 (by decide))), hc⟩
end Go.Proofs.YtnbfbkomgdnlnaaDoor
