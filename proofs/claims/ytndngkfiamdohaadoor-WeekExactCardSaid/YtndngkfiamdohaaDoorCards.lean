/-
  DERIVED. GIVEN WITH THE SEED: THE CARDS: each row of YtndngkfiamdohaaDoorRows.lean that lists a variable, with what it lists TIED to the program's text (the seventh form; the later family's looks); each row that meets fmt, with fmt's text TOLD by the authors' own Lean function (tested against real Go, not proved from fmt's source: count such statements apart). THE CARD IS WHAT COUNTS. Prove the row's statement (the work); the ties are given (YtndngkfiamdohaaDoorTie.lean); close each card by the builder's one call (the guide's Derived/Test/ToyasCard.lean, 'card_holds'). Laid BY PROGRAM, IN A SANDBOX (cutbox-door.mjs). By AI agents, Wed Nov 11 2026. No macro, syntax, notation, axiom, sorry.
-/
import Derived.Test.YtndngkfiamdohaaDoorRows
import GoSem.ClaimSeven
namespace Go.Proofs.YtndngkfiamdohaaDoor
namespace Rows

/-- THE TIED CARD OF 'pagewatchlaw05.WeekLimits'. -/
def weekLimitsCard : Claim7 := { stood := { row := weekLimitsRow, standIns := [], harness := (true, "29b2a1d98162a70d980156043fe2d09c12a385dfc68eb891c9b52bb243df6193"), looks := false }, kinds := [], alts := [], laidByText := true, laidKinds := [.data], laidTests := true, laidLooks := .later }
def WeekLimitsCardSaid : Prop := Claim7.holds Tryd.pinned (.plain (OpenSpec.ofChange weekLimitsSpec)) weekLimitsCard

/-- THE TIED CARD OF 'pagewatchlaw05.WeekExact'. -/
def weekExactCard : Claim7 := { stood := { row := weekExactRow, standIns := [], harness := (true, "29b2a1d98162a70d980156043fe2d09c12a385dfc68eb891c9b52bb243df6193"), looks := false }, kinds := [], alts := [], laidByText := true, laidKinds := [.data], laidTests := true, laidLooks := .later }
def WeekExactCardSaid : Prop := Claim7.holds Tryd.pinned (.plain (OpenSpec.ofChange weekExactSpec)) weekExactCard

/-- THE TIED CARD OF 'pagewatchlaw05.WeekTimes'. -/
def weekTimesCard : Claim7 := { stood := { row := weekTimesRow, standIns := [], harness := (true, "29b2a1d98162a70d980156043fe2d09c12a385dfc68eb891c9b52bb243df6193"), looks := false }, kinds := [], alts := [], laidByText := true, laidKinds := [.data], laidTests := true, laidLooks := .later }
def WeekTimesCardSaid : Prop := Claim7.holds Tryd.pinned (.plain (OpenSpec.ofChange weekTimesSpec)) weekTimesCard

/-- THE TIED CARD OF 'pagewatchlaw05.WeekInverts'. -/
def weekInvertsCard : Claim7 := { stood := { row := weekInvertsRow, standIns := [], harness := (true, "29b2a1d98162a70d980156043fe2d09c12a385dfc68eb891c9b52bb243df6193"), looks := false }, kinds := [], alts := [], laidByText := true, laidKinds := [.data], laidTests := true, laidLooks := .later }
def WeekInvertsCardSaid : Prop := Claim7.holds Tryd.pinned (.plain (OpenSpec.ofChange weekInvertsSpec)) weekInvertsCard

/-- THE TIED CARD OF 'pagewatchlaw05.WeekLengths'. -/
def weekLengthsCard : Claim7 := { stood := { row := weekLengthsRow, standIns := [], harness := (true, "29b2a1d98162a70d980156043fe2d09c12a385dfc68eb891c9b52bb243df6193"), looks := false }, kinds := [], alts := [], laidByText := true, laidKinds := [.data], laidTests := true, laidLooks := .later }
def WeekLengthsCardSaid : Prop := Claim7.holds Tryd.pinned (.plain (OpenSpec.ofChange weekLengthsSpec)) weekLengthsCard

/-- THE SECOND FORM's CARD OF 'pagewatchlaw05.WeekLimits'. -/
def weekLimitsUptoCard : Claim7 := { stood := { row := weekLimitsUptoRow, standIns := [], harness := (true, "29b2a1d98162a70d980156043fe2d09c12a385dfc68eb891c9b52bb243df6193"), looks := false }, kinds := [], alts := [], laidByText := true, laidKinds := [.data], laidTests := true, laidLooks := .later }
def WeekLimitsUptoCardSaid : Prop := Claim7.holds Tryd.pinned (.plain (OpenSpec.upto weekLimitsSpec)) weekLimitsUptoCard

/-- THE SECOND FORM's CARD OF 'pagewatchlaw05.WeekExact'. -/
def weekExactUptoCard : Claim7 := { stood := { row := weekExactUptoRow, standIns := [], harness := (true, "29b2a1d98162a70d980156043fe2d09c12a385dfc68eb891c9b52bb243df6193"), looks := false }, kinds := [], alts := [], laidByText := true, laidKinds := [.data], laidTests := true, laidLooks := .later }
def WeekExactUptoCardSaid : Prop := Claim7.holds Tryd.pinned (.plain (OpenSpec.upto weekExactSpec)) weekExactUptoCard

/-- THE SECOND FORM's CARD OF 'pagewatchlaw05.WeekTimes'. -/
def weekTimesUptoCard : Claim7 := { stood := { row := weekTimesUptoRow, standIns := [], harness := (true, "29b2a1d98162a70d980156043fe2d09c12a385dfc68eb891c9b52bb243df6193"), looks := false }, kinds := [], alts := [], laidByText := true, laidKinds := [.data], laidTests := true, laidLooks := .later }
def WeekTimesUptoCardSaid : Prop := Claim7.holds Tryd.pinned (.plain (OpenSpec.upto weekTimesSpec)) weekTimesUptoCard

/-- THE SECOND FORM's CARD OF 'pagewatchlaw05.WeekInverts'. -/
def weekInvertsUptoCard : Claim7 := { stood := { row := weekInvertsUptoRow, standIns := [], harness := (true, "29b2a1d98162a70d980156043fe2d09c12a385dfc68eb891c9b52bb243df6193"), looks := false }, kinds := [], alts := [], laidByText := true, laidKinds := [.data], laidTests := true, laidLooks := .later }
def WeekInvertsUptoCardSaid : Prop := Claim7.holds Tryd.pinned (.plain (OpenSpec.upto weekInvertsSpec)) weekInvertsUptoCard

/-- THE SECOND FORM's CARD OF 'pagewatchlaw05.WeekLengths'. -/
def weekLengthsUptoCard : Claim7 := { stood := { row := weekLengthsUptoRow, standIns := [], harness := (true, "29b2a1d98162a70d980156043fe2d09c12a385dfc68eb891c9b52bb243df6193"), looks := false }, kinds := [], alts := [], laidByText := true, laidKinds := [.data], laidTests := true, laidLooks := .later }
def WeekLengthsUptoCardSaid : Prop := Claim7.holds Tryd.pinned (.plain (OpenSpec.upto weekLengthsSpec)) weekLengthsUptoCard
end Rows
end Go.Proofs.YtndngkfiamdohaaDoor
