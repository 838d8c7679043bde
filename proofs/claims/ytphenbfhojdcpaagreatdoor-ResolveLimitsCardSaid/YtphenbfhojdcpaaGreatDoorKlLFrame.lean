/- What every law of this seat needs for its row: the variables as the program lays them, a start that fits, lists of numbers that come in. -/
import Derived.Test.YtphenbfhojdcpaaGreatDoorKlG03
import Derived.Test.YtphenbfhojdcpaaGreatDoorKlG01
import Derived.Test.YtphenbfhojdcpaaGreatDoorCards
import Derived.Test.YtphenbfhojdcpaaGreatDoorTie
import Derived.ProofKit
import Derived.OpenShut
import Derived.ChangeOld
import Derived.LaidMore
import Derived.LaidOnce
import Derived.Lib.LaidTab
import Derived.SevenTiedAt
import Derived.Stop.LaidErr
import Derived.Below
import Derived.Carry
import Derived.ChangeSlices
import Derived.Lay
namespace Go.Proofs.YtphenbfhojdcpaaGreatDoor
open Go.ChangeShapes Go.WideShapes Go.ChangeAt Go.RowKit
set_option linter.unusedVariables false
set_option maxRecDepth 100000
theorem own : ownKnob Tryz.prog.godebug = none := by kernel_rfl
theorem gPow : Tryz.prog.globalNamed "internal/strconv.uint64pow10" = some 8 := by kernel_rfl
theorem gPowType : (Tryz.prog.globals[8]?).map (·.type) = some 284 := by kernel_rfl
theorem cells20 : Tryz.prog.cellsOf 284 = 20 := by kernel_rfl
theorem cells64 : Tryz.prog.cellsOf 265 = 1 := by kernel_rfl
theorem gMonth : Tryz.prog.globalNamed "pagewatch/civil.monthLengths" = some 0 := by kernel_rfl
theorem gMonthType : (Tryz.prog.globals[0]?).map (·.type) = some 203 := by kernel_rfl
theorem cells12 : Tryz.prog.cellsOf 203 = 12 := by kernel_rfl
theorem cells1 : Tryz.prog.cellsOf 3 = 1 := by kernel_rfl
theorem gSpc : Tryz.prog.globalNamed "strings.asciiSpace" = some 1 := by kernel_rfl
theorem gSpcType : (Tryz.prog.globals[1]?).map (·.type) = some 209 := by kernel_rfl
theorem cells256 : Tryz.prog.cellsOf 209 = 256 := by kernel_rfl
theorem cells8 : Tryz.prog.cellsOf 5 = 1 := by kernel_rfl
theorem gRange : Tryz.prog.globalNamed "strconv.ErrRange" = some 7 := by kernel_rfl
theorem gRangeType : (Tryz.prog.globals[7]?).map (·.type) = some 227 := by kernel_rfl
theorem gSyntax : Tryz.prog.globalNamed "strconv.ErrSyntax" = some 6 := by kernel_rfl
theorem gSyntaxType : (Tryz.prog.globals[6]?).map (·.type) = some 227 := by kernel_rfl
theorem cellsEs : Tryz.prog.cellsOf 276 = 1 := by kernel_rfl
theorem cellsStr : Tryz.prog.cellsOf 9 = 1 := by kernel_rfl
theorem star : "*" ++ "errors.errorString" = "*errors.errorString" := by decide
theorem rowEs (u : TypeId) (h : Tryz.prog.typeName? 3 u = some "*errors.errorString") : u = 274 :=
  typeName_ptr_named (nm := "errors.errorString") (by rw [star]; kernel_rfl) (by kernel_rfl) (by decide) u (by rw [star]; exact h)
def laidList : List (String × DataW Unit) := [("math/bits.deBruijn32tab", Rows.laid_math_bits_deBruijn32tab), ("math/bits.deBruijn64tab", Rows.laid_math_bits_deBruijn64tab), ("internal/strconv.uint64pow10", Rows.laid_internal_strconv_uint64pow10), ("pagewatch/civil.monthLengths", Rows.laid_pagewatch_civil_monthLengths), ("unicode/utf8.acceptRanges", Rows.laid_unicode_utf8_acceptRanges), ("strconv.ErrRange", Rows.laid_strconv_ErrRange), ("strconv.ErrSyntax", Rows.laid_strconv_ErrSyntax), ("unicode.White_Space", Rows.laid_unicode_White_Space), ("strings.asciiSpace", Rows.laid_strings_asciiSpace), ("unicode/utf8.first", Rows.laid_unicode_utf8_first)]
theorem spcData : Rows.laid_strings_asciiSpace = Lib.tabData (H := Unit) .u8 Lib.asciiSpaceTab := by kernel_rfl
theorem lexT_of {W : World} (h : laidMetH Tryz.prog laidList W) : LexT W := by
  rw [MakeChecks.laidMetH_plain _ _ _ (by kernel_rfl)] at h
  have h3 := laidMet.tail (laidMet.tail h)
  have hP : Lib.TabIs Tryz.prog W "internal/strconv.uint64pow10" .u64 Lib.pow10Tab := Lib.tabIs_of_head gPow gPowType Tryz.underlying284 Tryz.underlying265 cells64 cells20 h3
  have h4 := laidMet.tail h3
  have hM : Lib.TabIs Tryz.prog W "pagewatch/civil.monthLengths" .i64 civTab := Lib.tabIs_of_head gMonth gMonthType Tryz.underlying203 Tryz.underlying3 cells1 cells12 h4
  have hc : ∀ i : Nat, i < 12 → W.cell? ⟨0, i, none⟩ = some (.int .i64 (civTab.getD i 0)) := fun i hi => hM.cell gMonth i hi
  have h6 := laidMet.tail (laidMet.tail h4)
  obtain ⟨a0, _, hv0, -, -, -⟩ := laid_sentinel h6 gRange gRangeType Tryz.underlying227 rowEs Tryz.underlying274 Tryz.underlying276 rfl rfl Tryz.underlying9 cellsEs cellsStr
  have h7 := laidMet.tail h6
  obtain ⟨a1, _, hv1, -, -, -⟩ := laid_sentinel h7 gSyntax gSyntaxType Tryz.underlying227 rowEs Tryz.underlying274 Tryz.underlying276 rfl rfl Tryz.underlying9 cellsEs cellsStr
  have h9 := laidMet.tail (laidMet.tail h7)
  rw [spcData] at h9
  have hS : Lib.TabIs Tryz.prog W "strings.asciiSpace" .u8 Lib.asciiSpaceTab := Lib.tabIs_of_head gSpc gSpcType Tryz.underlying209 Tryz.underlying5 cells8 cells256 h9
  exact ⟨⟨World.block_lt_of_cell? W _ (hc 0 (by decide)), hc⟩, hP, ⟨_, _, hv1⟩, ⟨_, _, hv0⟩, hS⟩
theorem door_met (os : Os) (args : Array Value) : laidMetH Tryz.prog laidList ((World.laidAll Tryz.prog os laidList).forCall (fun _ _ => 0) ⟨#[], args, []⟩).memory := by
  rw [MakeChecks.laidMetH_plain _ _ _ (by kernel_rfl)]
  exact laidMet_laidAll _ (by kernel_rfl) (by kernel_rfl)
end Go.Proofs.YtphenbfhojdcpaaGreatDoor
