/- Package syntax: the tokens behind a form, the options of a person, how a statement may end, and Form. Package syntax: the options of a person, how a statement may end, and Form. -/
import Derived.Test.YthaacmmkignocaaDoorKYf
namespace Go.Proofs.YthaacmmkignocaaDoor
open Go.RowKit
set_option linter.unusedVariables false
set_option linter.unusedSimpArgs false
set_option maxRecDepth 100000
/-- What cut hands back. -/
def CutV (o : Option (List Lx.Tk)) (w : World) (e : Ending) (w' : World) : Prop :=
  ((o = none ∧ e = .returned (.tuple #[.slice none 0 0, .bool false])) ∨ ∃ (r : List Lx.Tk) (A : Option Addr) (c : Nat), o = some r ∧ e = .returned (.tuple #[.slice A r.length c, .bool true]) ∧ r.length ≤ c ∧ ListAt 3 eTok w A r) ∧ Below w.heap.size w w'
theorem CutV.no {o : Option (List Lx.Tk)} {w w' : World} (h : o = none) (hb : Below w.heap.size w w') : CutV o w (.returned (.tuple #[.slice none 0 0, .bool false])) w' := ⟨.inl ⟨h, rfl⟩, hb⟩
theorem CutV.yes {o : Option (List Lx.Tk)} {w w' : World} {r : List Lx.Tk} {A : Option Addr} {c : Nat} (h : o = some r) (hc : r.length ≤ c) (hl : ListAt 3 eTok w A r) (hb : Below w.heap.size w w') : CutV o w (.returned (.tuple #[.slice A r.length c, .bool true])) w' := ⟨.inr ⟨r, A, c, h, rfl, hc, hl⟩, hb⟩
end Go.Proofs.YthaacmmkignocaaDoor
namespace Go.Proofs.YthaacmmkignocaaDoor
open Go.RowKit
set_option linter.unusedVariables false
set_option linter.unusedSimpArgs false
set_option maxRecDepth 100000
end Go.Proofs.YthaacmmkignocaaDoor
