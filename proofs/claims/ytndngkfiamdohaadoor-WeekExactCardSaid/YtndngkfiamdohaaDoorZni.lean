/- Package zone's First. -/
import Derived.Test.YtndngkfiamdohaaDoorZnh
namespace Go.Proofs.YtndngkfiamdohaaDoor
open Go.RowKit
set_option linter.unusedVariables false
set_option maxRecDepth 100000
set_option linter.unusedSimpArgs false

/-- The least instant whose local time is at least this one, and the error. -/
def fstR (f : Option Int) : Int := match f with | none => 0 | some t => t
def fstC (f : Option Int) : Int := match f with | none => 10 | some _ => 0
def fstV (off : Int) (ts : Zn.L) (er d s : Int) : Int := if er ≠ 0 then 0 else if Zn.okD s = false then 0 else fstR (Zn.fst (Zn.locS d s) (Zn.strs 0 off ts))
def fstE (off : Int) (ts : Zn.L) (er d s : Int) : Int := if er ≠ 0 then 8 else if Zn.okD s = false then 1 else fstC (Zn.fst (Zn.locS d s) (Zn.strs 0 off ts))
def GivesF (v er : Int) (w : World) (e : Ending) (w' : World) : Prop := e = .returned (.tuple #[.int .i64 v, .int .i64 er]) ∧ Below w.heap.size w w'

end Go.Proofs.YtndngkfiamdohaaDoor
