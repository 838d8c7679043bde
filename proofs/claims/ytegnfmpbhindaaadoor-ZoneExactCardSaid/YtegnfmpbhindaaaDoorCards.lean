/-
  DERIVED. GIVEN WITH THE SEED: THE CARDS: each row of YtegnfmpbhindaaaDoorRows.lean that lists a variable, with what it lists TIED to the program's text (the seventh form; the later family's looks); each row that meets fmt, with fmt's text TOLD by the authors' own Lean function (tested against real Go, not proved from fmt's source: count such statements apart). THE CARD IS WHAT COUNTS. Prove the row's statement (the work); the ties are given (YtegnfmpbhindaaaDoorTie.lean); close each card by the builder's one call (the guide's Derived/Test/ToyasCard.lean, 'card_holds'). Laid BY PROGRAM, IN A SANDBOX (cutbox-door.mjs). By AI agents, Wed Nov 11 2026. No macro, syntax, notation, axiom, sorry.
-/
import Derived.Test.YtegnfmpbhindaaaDoorRows
import GoSem.ClaimSeven
namespace Go.Proofs.YtegnfmpbhindaaaDoor
namespace Rows

/-- THE TIED CARD OF 'pagewatchlaw04.ZoneLimits'. -/
def zoneLimitsCard : Claim7 := { stood := { row := zoneLimitsRow, standIns := [], harness := (true, "a3a6107afce76283eb0e05fa771b2d563a3201cf3e0cc8a0d3e718307857163e"), looks := false }, kinds := [], alts := [], laidByText := true, laidKinds := [.data], laidTests := true, laidLooks := .later }
def ZoneLimitsCardSaid : Prop := Claim7.holds Tryd.pinned (.plain (OpenSpec.ofChange zoneLimitsSpec)) zoneLimitsCard

/-- THE TIED CARD OF 'pagewatchlaw04.ZoneExact'. -/
def zoneExactCard : Claim7 := { stood := { row := zoneExactRow, standIns := [], harness := (true, "a3a6107afce76283eb0e05fa771b2d563a3201cf3e0cc8a0d3e718307857163e"), looks := false }, kinds := [], alts := [], laidByText := true, laidKinds := [.data], laidTests := true, laidLooks := .later }
def ZoneExactCardSaid : Prop := Claim7.holds Tryd.pinned (.plain (OpenSpec.ofChange zoneExactSpec)) zoneExactCard

/-- THE TIED CARD OF 'pagewatchlaw04.ZoneBack'. -/
def zoneBackCard : Claim7 := { stood := { row := zoneBackRow, standIns := [], harness := (true, "a3a6107afce76283eb0e05fa771b2d563a3201cf3e0cc8a0d3e718307857163e"), looks := false }, kinds := [], alts := [], laidByText := true, laidKinds := [.data], laidTests := true, laidLooks := .later }
def ZoneBackCardSaid : Prop := Claim7.holds Tryd.pinned (.plain (OpenSpec.ofChange zoneBackSpec)) zoneBackCard

/-- THE TIED CARD OF 'pagewatchlaw04.ZoneLeaps'. -/
def zoneLeapsCard : Claim7 := { stood := { row := zoneLeapsRow, standIns := [], harness := (true, "a3a6107afce76283eb0e05fa771b2d563a3201cf3e0cc8a0d3e718307857163e"), looks := false }, kinds := [], alts := [], laidByText := true, laidKinds := [.data], laidTests := true, laidLooks := .later }
def ZoneLeapsCardSaid : Prop := Claim7.holds Tryd.pinned (.plain (OpenSpec.ofChange zoneLeapsSpec)) zoneLeapsCard

/-- THE TIED CARD OF 'pagewatchlaw04.ZoneAscends'. -/
def zoneAscendsCard : Claim7 := { stood := { row := zoneAscendsRow, standIns := [], harness := (true, "a3a6107afce76283eb0e05fa771b2d563a3201cf3e0cc8a0d3e718307857163e"), looks := false }, kinds := [], alts := [], laidByText := true, laidKinds := [.data], laidTests := true, laidLooks := .later }
def ZoneAscendsCardSaid : Prop := Claim7.holds Tryd.pinned (.plain (OpenSpec.ofChange zoneAscendsSpec)) zoneAscendsCard

/-- THE TIED CARD OF 'pagewatchlaw04.ZoneRules'. -/
def zoneRulesCard : Claim7 := { stood := { row := zoneRulesRow, standIns := [], harness := (true, "a3a6107afce76283eb0e05fa771b2d563a3201cf3e0cc8a0d3e718307857163e"), looks := false }, kinds := [], alts := [], laidByText := true, laidKinds := [.data], laidTests := true, laidLooks := .later }
def ZoneRulesCardSaid : Prop := Claim7.holds Tryd.pinned (.plain (OpenSpec.ofChange zoneRulesSpec)) zoneRulesCard

/-- THE SECOND FORM's CARD OF 'pagewatchlaw04.ZoneLimits'. -/
def zoneLimitsUptoCard : Claim7 := { stood := { row := zoneLimitsUptoRow, standIns := [], harness := (true, "a3a6107afce76283eb0e05fa771b2d563a3201cf3e0cc8a0d3e718307857163e"), looks := false }, kinds := [], alts := [], laidByText := true, laidKinds := [.data], laidTests := true, laidLooks := .later }
def ZoneLimitsUptoCardSaid : Prop := Claim7.holds Tryd.pinned (.plain (OpenSpec.upto zoneLimitsSpec)) zoneLimitsUptoCard

/-- THE SECOND FORM's CARD OF 'pagewatchlaw04.ZoneExact'. -/
def zoneExactUptoCard : Claim7 := { stood := { row := zoneExactUptoRow, standIns := [], harness := (true, "a3a6107afce76283eb0e05fa771b2d563a3201cf3e0cc8a0d3e718307857163e"), looks := false }, kinds := [], alts := [], laidByText := true, laidKinds := [.data], laidTests := true, laidLooks := .later }
def ZoneExactUptoCardSaid : Prop := Claim7.holds Tryd.pinned (.plain (OpenSpec.upto zoneExactSpec)) zoneExactUptoCard

/-- THE SECOND FORM's CARD OF 'pagewatchlaw04.ZoneBack'. -/
def zoneBackUptoCard : Claim7 := { stood := { row := zoneBackUptoRow, standIns := [], harness := (true, "a3a6107afce76283eb0e05fa771b2d563a3201cf3e0cc8a0d3e718307857163e"), looks := false }, kinds := [], alts := [], laidByText := true, laidKinds := [.data], laidTests := true, laidLooks := .later }
def ZoneBackUptoCardSaid : Prop := Claim7.holds Tryd.pinned (.plain (OpenSpec.upto zoneBackSpec)) zoneBackUptoCard

/-- THE SECOND FORM's CARD OF 'pagewatchlaw04.ZoneLeaps'. -/
def zoneLeapsUptoCard : Claim7 := { stood := { row := zoneLeapsUptoRow, standIns := [], harness := (true, "a3a6107afce76283eb0e05fa771b2d563a3201cf3e0cc8a0d3e718307857163e"), looks := false }, kinds := [], alts := [], laidByText := true, laidKinds := [.data], laidTests := true, laidLooks := .later }
def ZoneLeapsUptoCardSaid : Prop := Claim7.holds Tryd.pinned (.plain (OpenSpec.upto zoneLeapsSpec)) zoneLeapsUptoCard

/-- THE SECOND FORM's CARD OF 'pagewatchlaw04.ZoneAscends'. -/
def zoneAscendsUptoCard : Claim7 := { stood := { row := zoneAscendsUptoRow, standIns := [], harness := (true, "a3a6107afce76283eb0e05fa771b2d563a3201cf3e0cc8a0d3e718307857163e"), looks := false }, kinds := [], alts := [], laidByText := true, laidKinds := [.data], laidTests := true, laidLooks := .later }
def ZoneAscendsUptoCardSaid : Prop := Claim7.holds Tryd.pinned (.plain (OpenSpec.upto zoneAscendsSpec)) zoneAscendsUptoCard

/-- THE SECOND FORM's CARD OF 'pagewatchlaw04.ZoneRules'. -/
def zoneRulesUptoCard : Claim7 := { stood := { row := zoneRulesUptoRow, standIns := [], harness := (true, "a3a6107afce76283eb0e05fa771b2d563a3201cf3e0cc8a0d3e718307857163e"), looks := false }, kinds := [], alts := [], laidByText := true, laidKinds := [.data], laidTests := true, laidLooks := .later }
def ZoneRulesUptoCardSaid : Prop := Claim7.holds Tryd.pinned (.plain (OpenSpec.upto zoneRulesSpec)) zoneRulesUptoCard
end Rows
end Go.Proofs.YtegnfmpbhindaaaDoor
