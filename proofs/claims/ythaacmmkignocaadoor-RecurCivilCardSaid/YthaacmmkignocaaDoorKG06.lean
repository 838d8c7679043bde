/- What pad, fullClockText, clockText and offsetText of package lexer return. What clockText, offsetText, dateText of package lexer return. What spell and Text of package lexer return. What Text of package lexer returns. What printable and Line of package lexer return. What Line of package lexer returns: the walk. -/
import Derived.Test.YthaacmmkignocaaDoorKLk
import Derived.Lib.FieldsLaws
namespace Go.Proofs.YthaacmmkignocaaDoor
open Go.RowKit
set_option linter.unusedVariables false
set_option linter.unusedSimpArgs false
set_option maxRecDepth 100000
end Go.Proofs.YthaacmmkignocaaDoor
namespace Go.Proofs.YthaacmmkignocaaDoor
open Go.RowKit
set_option linter.unusedVariables false
set_option linter.unusedSimpArgs false
set_option maxRecDepth 100000
/-- The date of a day; zeros, if the day has none. -/
def DtIs (n y m d : Int) : Prop := (Civ.vld y m d ∧ Civ.num y m d = n) ∨ ((n < 0 ∨ 98981 ≤ n) ∧ y = 0 ∧ m = 0 ∧ d = 0)
theorem DtIs.bd {n y m d : Int} (h : DtIs n y m d) : 0 ≤ y ∧ y ≤ 2240 ∧ 0 ≤ m ∧ m ≤ 12 ∧ 0 ≤ d ∧ d ≤ 31 := by
  rcases h with ⟨⟨h1, h2, h3, h4, h5, h6⟩, _⟩ | ⟨_, rfl, rfl, rfl⟩
  · have := Civ.dim_bd y m
    omega
  · omega
end Go.Proofs.YthaacmmkignocaaDoor
namespace Go.Proofs.YthaacmmkignocaaDoor
open Go.RowKit
set_option linter.unusedVariables false
set_option linter.unusedSimpArgs false
set_option maxRecDepth 100000
end Go.Proofs.YthaacmmkignocaaDoor
namespace Go.Proofs.YthaacmmkignocaaDoor
open Go.RowKit
set_option linter.unusedVariables false
set_option linter.unusedSimpArgs false
set_option maxRecDepth 100000
end Go.Proofs.YthaacmmkignocaaDoor
namespace Go.Proofs.YthaacmmkignocaaDoor
namespace Lx
open Go Go.Lib Go.Proofs.YthaacmmkignocaaDoor
def prB (b : UInt8) : Bool := decide (32 ≤ b.toNat) && decide (b.toNat ≤ 126)
def prn (l : List UInt8) : Bool := l.all prB
def toksS : List (List UInt8) → Option (List Tk)
  | [] => some []
  | x :: r => match tokS x, toksS r with
    | some t, some ts => some (t :: ts)
    | _, _ => none
/-- The tokens of a line of at most MaxLine bytes. -/
def lineS (l : List UInt8) : Option (List Tk) := if prn l = true then toksS (fields (cut l [35]).1) else none
end Lx
open Go.RowKit
set_option linter.unusedVariables false
set_option linter.unusedSimpArgs false
set_option maxRecDepth 100000
def eTok : Lx.Tk → Nat → Value := fun x j => match j with
  | 0 => .int .i64 x.1
  | 1 => .string ⟨x.2.1.toArray⟩
  | _ => .int .i64 x.2.2
end Go.Proofs.YthaacmmkignocaaDoor
namespace Go.Proofs.YthaacmmkignocaaDoor
open Go.RowKit
set_option linter.unusedVariables false
set_option linter.unusedSimpArgs false
set_option maxRecDepth 100000
def WordsAt (w : World) (b : Nat) (ws : List (List UInt8)) : Prop := ∀ k x, ws[k]? = some x → w.cell? ⟨b, k, none⟩ = some (.string ⟨x.toArray⟩)
end Go.Proofs.YthaacmmkignocaaDoor
