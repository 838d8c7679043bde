/- What Token of package lexer returns. -/
import Derived.Test.YthaacmmkignocaaDoorKG05
namespace Go.Proofs.YthaacmmkignocaaDoor
open Go.RowKit
set_option linter.unusedVariables false
set_option linter.unusedSimpArgs false
set_option maxRecDepth 100000
/-- A token, or ErrText. -/
def TokV (o : Option Lx.Tk) (w : World) (e : Ending) (w' : World) : Prop :=
  (o = none ∧ e = .returned (.tuple #[.agg #[.int .i64 0, .string ⟨#[]⟩, .int .i64 0], .int .i64 2]) ∧ Below w.heap.size w w') ∨
  (∃ (k : Int) (t : List UInt8) (n : Int), o = some (k, t, n) ∧ e = .returned (.tuple #[.agg #[.int .i64 k, .string ⟨t.toArray⟩, .int .i64 n], .int .i64 0]) ∧ Below w.heap.size w w')
theorem TokV.no {o : Option Lx.Tk} {w w' : World} (h : o = none) (hb : Below w.heap.size w w') : TokV o w (.returned (.tuple #[.agg #[.int .i64 0, .string ⟨#[]⟩, .int .i64 0], .int .i64 2])) w' := .inl ⟨h, rfl, hb⟩
theorem TokV.yes {o : Option Lx.Tk} {k n : Int} {w w' : World} (h : o = some (k, [], n)) (hb : Below w.heap.size w w') : TokV o w (.returned (.tuple #[.agg #[.int .i64 k, .string ⟨#[]⟩, .int .i64 n], .int .i64 0])) w' := .inr ⟨k, [], n, h, rfl, hb⟩
theorem le1 (n : Nat) : n ≤ n + 1 := Nat.le_succ n
end Go.Proofs.YthaacmmkignocaaDoor
