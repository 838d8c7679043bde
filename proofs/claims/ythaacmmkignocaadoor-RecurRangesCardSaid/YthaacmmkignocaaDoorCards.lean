/-
  DERIVED. GIVEN WITH THE SEED: THE CARDS: each row of YthaacmmkignocaaDoorRows.lean that lists a variable, with what it lists TIED to the program's text (the seventh form; the later family's looks); each row that meets fmt, with fmt's text TOLD by the authors' own Lean function (tested against real Go, not proved from fmt's source: count such statements apart). THE CARD IS WHAT COUNTS. Prove the row's statement (the work); the ties are given (YthaacmmkignocaaDoorTie.lean); close each card by the builder's one call (the guide's Derived/Test/ToyasCard.lean, 'card_holds'). Laid BY PROGRAM, IN A SANDBOX (cutbox-door.mjs). By AI agents, Wed Nov 11 2026. No macro, syntax, notation, axiom, sorry.
-/
import Derived.Test.YthaacmmkignocaaDoorRows
import GoSem.ClaimSeven
namespace Go.Proofs.YthaacmmkignocaaDoor
namespace Rows

/-- THE TIED CARD OF 'pagewatchlaw10.RecurSame'. -/
def recurSameCard : Claim7 := { stood := { row := recurSameRow, standIns := [], harness := (true, "998170854f4de82d72e41899eab337fa65d156be487a6705b662c3c6b5ac27d7"), looks := false }, kinds := [], alts := [], laidByText := true, laidKinds := [.data], laidTests := true, laidLooks := .later }
def RecurSameCardSaid : Prop := Claim7.holds Tryd.pinned (.plain (OpenSpec.ofChange recurSameSpec)) recurSameCard

/-- THE TIED CARD OF 'pagewatchlaw10.RecurExact'. -/
def recurExactCard : Claim7 := { stood := { row := recurExactRow, standIns := [], harness := (true, "998170854f4de82d72e41899eab337fa65d156be487a6705b662c3c6b5ac27d7"), looks := false }, kinds := [], alts := [], laidByText := true, laidKinds := [.data], laidTests := true, laidLooks := .later }
def RecurExactCardSaid : Prop := Claim7.holds Tryd.pinned (.plain (OpenSpec.ofChange recurExactSpec)) recurExactCard

/-- THE TIED CARD OF 'pagewatchlaw10.RecurAscends'. -/
def recurAscendsCard : Claim7 := { stood := { row := recurAscendsRow, standIns := [], harness := (true, "998170854f4de82d72e41899eab337fa65d156be487a6705b662c3c6b5ac27d7"), looks := false }, kinds := [], alts := [], laidByText := true, laidKinds := [.data], laidTests := true, laidLooks := .later }
def RecurAscendsCardSaid : Prop := Claim7.holds Tryd.pinned (.plain (OpenSpec.ofChange recurAscendsSpec)) recurAscendsCard

/-- THE TIED CARD OF 'pagewatchlaw10.RecurCivil'. -/
def recurCivilCard : Claim7 := { stood := { row := recurCivilRow, standIns := [], harness := (true, "998170854f4de82d72e41899eab337fa65d156be487a6705b662c3c6b5ac27d7"), looks := false }, kinds := [], alts := [], laidByText := true, laidKinds := [.data], laidTests := true, laidLooks := .later }
def RecurCivilCardSaid : Prop := Claim7.holds Tryd.pinned (.plain (OpenSpec.ofChange recurCivilSpec)) recurCivilCard

/-- THE TIED CARD OF 'pagewatchlaw10.RecurRanges'. -/
def recurRangesCard : Claim7 := { stood := { row := recurRangesRow, standIns := [], harness := (true, "998170854f4de82d72e41899eab337fa65d156be487a6705b662c3c6b5ac27d7"), looks := false }, kinds := [], alts := [], laidByText := true, laidKinds := [.data], laidTests := true, laidLooks := .later }
def RecurRangesCardSaid : Prop := Claim7.holds Tryd.pinned (.plain (OpenSpec.ofChange recurRangesSpec)) recurRangesCard

/-- THE SECOND FORM's CARD OF 'pagewatchlaw10.RecurSame'. -/
def recurSameUptoCard : Claim7 := { stood := { row := recurSameUptoRow, standIns := [], harness := (true, "998170854f4de82d72e41899eab337fa65d156be487a6705b662c3c6b5ac27d7"), looks := false }, kinds := [], alts := [], laidByText := true, laidKinds := [.data], laidTests := true, laidLooks := .later }
def RecurSameUptoCardSaid : Prop := Claim7.holds Tryd.pinned (.plain (OpenSpec.upto recurSameSpec)) recurSameUptoCard

/-- THE SECOND FORM's CARD OF 'pagewatchlaw10.RecurExact'. -/
def recurExactUptoCard : Claim7 := { stood := { row := recurExactUptoRow, standIns := [], harness := (true, "998170854f4de82d72e41899eab337fa65d156be487a6705b662c3c6b5ac27d7"), looks := false }, kinds := [], alts := [], laidByText := true, laidKinds := [.data], laidTests := true, laidLooks := .later }
def RecurExactUptoCardSaid : Prop := Claim7.holds Tryd.pinned (.plain (OpenSpec.upto recurExactSpec)) recurExactUptoCard

/-- THE SECOND FORM's CARD OF 'pagewatchlaw10.RecurAscends'. -/
def recurAscendsUptoCard : Claim7 := { stood := { row := recurAscendsUptoRow, standIns := [], harness := (true, "998170854f4de82d72e41899eab337fa65d156be487a6705b662c3c6b5ac27d7"), looks := false }, kinds := [], alts := [], laidByText := true, laidKinds := [.data], laidTests := true, laidLooks := .later }
def RecurAscendsUptoCardSaid : Prop := Claim7.holds Tryd.pinned (.plain (OpenSpec.upto recurAscendsSpec)) recurAscendsUptoCard

/-- THE SECOND FORM's CARD OF 'pagewatchlaw10.RecurCivil'. -/
def recurCivilUptoCard : Claim7 := { stood := { row := recurCivilUptoRow, standIns := [], harness := (true, "998170854f4de82d72e41899eab337fa65d156be487a6705b662c3c6b5ac27d7"), looks := false }, kinds := [], alts := [], laidByText := true, laidKinds := [.data], laidTests := true, laidLooks := .later }
def RecurCivilUptoCardSaid : Prop := Claim7.holds Tryd.pinned (.plain (OpenSpec.upto recurCivilSpec)) recurCivilUptoCard

/-- THE SECOND FORM's CARD OF 'pagewatchlaw10.RecurRanges'. -/
def recurRangesUptoCard : Claim7 := { stood := { row := recurRangesUptoRow, standIns := [], harness := (true, "998170854f4de82d72e41899eab337fa65d156be487a6705b662c3c6b5ac27d7"), looks := false }, kinds := [], alts := [], laidByText := true, laidKinds := [.data], laidTests := true, laidLooks := .later }
def RecurRangesUptoCardSaid : Prop := Claim7.holds Tryd.pinned (.plain (OpenSpec.upto recurRangesSpec)) recurRangesUptoCard
end Rows
end Go.Proofs.YthaacmmkignocaaDoor
