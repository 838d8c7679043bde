/- Package syntax: the lines of a text, statement, and Parse. Package syntax: months, weekdays, ordinals. Plain facts on building a configuration: what each statement adds, or its error. -/
import Derived.Test.YthaacmmkignocaaDoorKG08
import Derived.Test.YthaacmmkignocaaDoorKG00
namespace Go.Proofs.YthaacmmkignocaaDoor
open Go.RowKit
set_option linter.unusedVariables false
set_option linter.unusedSimpArgs false
set_option maxRecDepth 100000
/-- What statement hands back. -/
def StmV (p : Int × List Lx.Tk) (w : World) (e : Ending) (w' : World) : Prop :=
  ∃ (A : Option Addr) (c : Nat), e = .returned (.tuple #[.slice A p.2.length c, .int .i64 p.1]) ∧ ListAt 3 eTok w' A p.2 ∧ p.2.length ≤ 600 ∧ p.2.length ≤ c ∧ (∀ ad, A = some ad → w.heap.size ≤ ad.block) ∧ Below w.heap.size w w'
theorem StmV.bad {w w' : World} {p : Int × List Lx.Tk} {n : Int} (h : p = (n, [])) (hb : Below w.heap.size w w') : StmV p w (.returned (.tuple #[.slice none 0 0, .int .i64 n])) w' := by
  subst h
  exact ⟨none, 0, rfl, ListAt.nil_, by simp, by simp, (fun ad e => by cases e), hb⟩
theorem StmIs.grown {w w' : World} {x : Raw} {s : Sy.St} {row : Option Nat} (h : StmIs w x s) (hg : w.grownBy w' row) (hr : ∀ ad, x.2.1 = some ad → some ad.block ≠ row) : StmIs w' x s := ⟨h.line, h.len, h.cap, h.small, h.toks.grown hg hr⟩
/-- What Parse hands back. -/
def ParseV (R : Int × Int × List Sy.St) (w : World) (e : Ending) (w' : World) : Prop :=
  ∃ (A : Option Addr) (c : Nat), e = .returned (.tuple #[.slice A R.2.2.length c, .int .i64 R.2.1, .int .i64 R.1]) ∧ StmsAt w' A R.2.2 ∧ R.2.2.length ≤ c ∧ Below w.heap.size w w'
theorem ParseV.bad {w w' : World} {R : Int × Int × List Sy.St} {e l : Int} (h : R = (e, l, [])) (hb : Below w.heap.size w w') : ParseV R w (.returned (.tuple #[.slice none 0 0, .int .i64 l, .int .i64 e])) w' := by
  subst h
  exact ⟨none, 0, rfl, StmsAt.nil_, by simp, hb⟩
end Go.Proofs.YthaacmmkignocaaDoor
namespace Go.Proofs.YthaacmmkignocaaDoor
set_option maxRecDepth 100000
namespace Sy
open Go Go.Lib Go.Proofs.YthaacmmkignocaaDoor Lx
end Sy
open Go.RowKit
set_option linter.unusedVariables false
set_option linter.unusedSimpArgs false
theorem WordsAt.below {w w' : World} {b : Nat} {ws : List (List UInt8)} (h : WordsAt w b ws) (hb : Below w.heap.size w w') : WordsAt w' b ws := fun k x hx => cell_lift (h k x hx) hb
end Go.Proofs.YthaacmmkignocaaDoor
namespace Go.Proofs.YthaacmmkignocaaDoor
set_option linter.unusedSimpArgs false
set_option linter.unusedVariables false
namespace Rs
def tx (l : List Lx.Tk) (i : Nat) : Nm := (l.getD i (0, [], 0)).2.1
def nm (l : List Lx.Tk) (i : Nat) : Int := (l.getD i (0, [], 0)).2.2
def near (n : Int) : Int := min (max n (-1209600)) 1209600
def hrs (n : Int) : Int := near n * 3600
def weekW : Nm := [119, 101, 101, 107]
def restW : Nm := [114, 101, 115, 116]
def Cfg.zn (C : Cfg) : List Nm := C.zones.map (·.name)
def Cfg.pn (C : Cfg) : List Nm := C.people.map (·.name)
def Cfg.cn (C : Cfg) : List Nm := C.cals.map (·.name)
def optS : List Lx.Tk → Pers → Pers
  | [], p => p
  | [_], p => { p with cons := true }
  | t :: u :: r, p => if t.2.1 = weekW then optS r { p with maxw := hrs u.2.2 } else if t.2.1 = restW then optS r { p with minr := hrs u.2.2 } else optS (u :: r) { p with cons := true }
def optOk : List Lx.Tk → Prop
  | [] => True
  | [t] => t.2.1 ≠ weekW ∧ t.2.1 ≠ restW
  | t :: u :: r => if t.2.1 = weekW ∨ t.2.1 = restW then optOk r else optOk (u :: r)
end Rs
end Go.Proofs.YthaacmmkignocaaDoor
