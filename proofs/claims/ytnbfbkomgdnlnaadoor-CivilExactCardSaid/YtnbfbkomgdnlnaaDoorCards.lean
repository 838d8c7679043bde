/-
  DERIVED. GIVEN WITH THE SEED: THE CARDS: each row of YtnbfbkomgdnlnaaDoorRows.lean that lists a variable, with what it lists TIED to the program's text (the seventh form; the later family's looks); each row that meets fmt, with fmt's text TOLD by the authors' own Lean function (tested against real Go, not proved from fmt's source: count such statements apart). THE CARD IS WHAT COUNTS. Prove the row's statement (the work); the ties are given (YtnbfbkomgdnlnaaDoorTie.lean); close each card by the builder's one call (the guide's Derived/Test/ToyasCard.lean, 'card_holds'). Laid BY PROGRAM, IN A SANDBOX (cutbox-door.mjs). By AI agents, Wed Nov 11 2026. No macro, syntax, notation, axiom, sorry.
-/
import Derived.Test.YtnbfbkomgdnlnaaDoorRows
import GoSem.ClaimSeven
namespace Go.Proofs.YtnbfbkomgdnlnaaDoor
namespace Rows

/-- THE TIED CARD OF 'pagewatchlaw01.CivilExact'. -/
def civilExactCard : Claim7 := { stood := { row := civilExactRow, standIns := [], harness := (true, "a6bf79c4f33b3b0fc5892f8612d7bc3f4113bf485c69c0b9e605982fc523a383"), looks := false }, kinds := [], alts := [], laidByText := true, laidKinds := [.data], laidTests := true, laidLooks := .later }
def CivilExactCardSaid : Prop := Claim7.holds Tryd.pinned (.plain (OpenSpec.ofChange civilExactSpec)) civilExactCard

/-- THE TIED CARD OF 'pagewatchlaw01.CivilBack'. -/
def civilBackCard : Claim7 := { stood := { row := civilBackRow, standIns := [], harness := (true, "a6bf79c4f33b3b0fc5892f8612d7bc3f4113bf485c69c0b9e605982fc523a383"), looks := false }, kinds := [], alts := [], laidByText := true, laidKinds := [.data], laidTests := true, laidLooks := .later }
def CivilBackCardSaid : Prop := Claim7.holds Tryd.pinned (.plain (OpenSpec.ofChange civilBackSpec)) civilBackCard

/-- THE TIED CARD OF 'pagewatchlaw01.CivilMonths'. -/
def civilMonthsCard : Claim7 := { stood := { row := civilMonthsRow, standIns := [], harness := (true, "a6bf79c4f33b3b0fc5892f8612d7bc3f4113bf485c69c0b9e605982fc523a383"), looks := false }, kinds := [], alts := [], laidByText := true, laidKinds := [.data], laidTests := true, laidLooks := .later }
def CivilMonthsCardSaid : Prop := Claim7.holds Tryd.pinned (.plain (OpenSpec.ofChange civilMonthsSpec)) civilMonthsCard

/-- THE TIED CARD OF 'pagewatchlaw01.CivilWeeks'. -/
def civilWeeksCard : Claim7 := { stood := { row := civilWeeksRow, standIns := [], harness := (true, "a6bf79c4f33b3b0fc5892f8612d7bc3f4113bf485c69c0b9e605982fc523a383"), looks := false }, kinds := [], alts := [], laidByText := true, laidKinds := [.data], laidTests := true, laidLooks := .later }
def CivilWeeksCardSaid : Prop := Claim7.holds Tryd.pinned (.plain (OpenSpec.ofChange civilWeeksSpec)) civilWeeksCard

/-- THE TIED CARD OF 'pagewatchlaw01.CivilNth'. -/
def civilNthCard : Claim7 := { stood := { row := civilNthRow, standIns := [], harness := (true, "a6bf79c4f33b3b0fc5892f8612d7bc3f4113bf485c69c0b9e605982fc523a383"), looks := false }, kinds := [], alts := [], laidByText := true, laidKinds := [.data], laidTests := true, laidLooks := .later }
def CivilNthCardSaid : Prop := Claim7.holds Tryd.pinned (.plain (OpenSpec.ofChange civilNthSpec)) civilNthCard

/-- THE SECOND FORM's CARD OF 'pagewatchlaw01.CivilExact'. -/
def civilExactUptoCard : Claim7 := { stood := { row := civilExactUptoRow, standIns := [], harness := (true, "a6bf79c4f33b3b0fc5892f8612d7bc3f4113bf485c69c0b9e605982fc523a383"), looks := false }, kinds := [], alts := [], laidByText := true, laidKinds := [.data], laidTests := true, laidLooks := .later }
def CivilExactUptoCardSaid : Prop := Claim7.holds Tryd.pinned (.plain (OpenSpec.upto civilExactSpec)) civilExactUptoCard

/-- THE SECOND FORM's CARD OF 'pagewatchlaw01.CivilBack'. -/
def civilBackUptoCard : Claim7 := { stood := { row := civilBackUptoRow, standIns := [], harness := (true, "a6bf79c4f33b3b0fc5892f8612d7bc3f4113bf485c69c0b9e605982fc523a383"), looks := false }, kinds := [], alts := [], laidByText := true, laidKinds := [.data], laidTests := true, laidLooks := .later }
def CivilBackUptoCardSaid : Prop := Claim7.holds Tryd.pinned (.plain (OpenSpec.upto civilBackSpec)) civilBackUptoCard

/-- THE SECOND FORM's CARD OF 'pagewatchlaw01.CivilMonths'. -/
def civilMonthsUptoCard : Claim7 := { stood := { row := civilMonthsUptoRow, standIns := [], harness := (true, "a6bf79c4f33b3b0fc5892f8612d7bc3f4113bf485c69c0b9e605982fc523a383"), looks := false }, kinds := [], alts := [], laidByText := true, laidKinds := [.data], laidTests := true, laidLooks := .later }
def CivilMonthsUptoCardSaid : Prop := Claim7.holds Tryd.pinned (.plain (OpenSpec.upto civilMonthsSpec)) civilMonthsUptoCard

/-- THE SECOND FORM's CARD OF 'pagewatchlaw01.CivilWeeks'. -/
def civilWeeksUptoCard : Claim7 := { stood := { row := civilWeeksUptoRow, standIns := [], harness := (true, "a6bf79c4f33b3b0fc5892f8612d7bc3f4113bf485c69c0b9e605982fc523a383"), looks := false }, kinds := [], alts := [], laidByText := true, laidKinds := [.data], laidTests := true, laidLooks := .later }
def CivilWeeksUptoCardSaid : Prop := Claim7.holds Tryd.pinned (.plain (OpenSpec.upto civilWeeksSpec)) civilWeeksUptoCard

/-- THE SECOND FORM's CARD OF 'pagewatchlaw01.CivilNth'. -/
def civilNthUptoCard : Claim7 := { stood := { row := civilNthUptoRow, standIns := [], harness := (true, "a6bf79c4f33b3b0fc5892f8612d7bc3f4113bf485c69c0b9e605982fc523a383"), looks := false }, kinds := [], alts := [], laidByText := true, laidKinds := [.data], laidTests := true, laidLooks := .later }
def CivilNthUptoCardSaid : Prop := Claim7.holds Tryd.pinned (.plain (OpenSpec.upto civilNthSpec)) civilNthUptoCard
end Rows
end Go.Proofs.YtnbfbkomgdnlnaaDoor
