/- Package zone's stretches. -/
import Derived.Test.YtndngkfiamdohaaDoorZnf
namespace Go.Proofs.YtndngkfiamdohaaDoor
open Go.RowKit
set_option linter.unusedVariables false
set_option maxRecDepth 100000
set_option linter.unusedSimpArgs false

/-- Where the k-th stretch begins, and its offset. -/
def frK (ts : Zn.L) (k : Nat) : Int := if k = 0 then 0 else (ts.getD (k - 1) (0, 0)).1
def ofK (off : Int) (ts : Zn.L) (k : Nat) : Int := if k = 0 then off else (ts.getD (k - 1) (0, 0)).2
theorem strK_step' {off : Int} {ts : Zn.L} {k : Nat} {a o : Int} (h : ts[k]? = some (a, o)) : Zn.strK off ts k = (frK ts k, a - 1, ofK off ts k) :: Zn.strK off ts (k + 1) := by
  have hk := (List.getElem?_eq_some_iff.1 h).1
  have hg : ts.getD k (0, 0) = (a, o) := by simp [List.getD, h]
  rw [Zn.strK_step off ts k hk, hg]; rfl
theorem frK_succ {ts : Zn.L} {k : Nat} {a o : Int} (h : ts[k]? = some (a, o)) : frK ts (k + 1) = a := by
  have hg : ts.getD k (0, 0) = (a, o) := by simp [List.getD, h]
  unfold frK; rw [if_neg (by omega), show k + 1 - 1 = k from rfl, hg]
theorem ofK_succ {off : Int} {ts : Zn.L} {k : Nat} {a o : Int} (h : ts[k]? = some (a, o)) : ofK off ts (k + 1) = o := by
  have hg : ts.getD k (0, 0) = (a, o) := by simp [List.getD, h]
  unfold ofK; rw [if_neg (by omega), show k + 1 - 1 = k from rfl, hg]
theorem OwnL.other {α : Type} {T : TypeId} {k : Nat} {e : α → Nat → Value} {w : World} {B : Nat} {v : Value} {xs : List α} (h : OwnL T k e w B v xs) {g i : Nat} (hg : v.ownBlock ≠ some g) (u : Value) : OwnL T k e (w.setCell ⟨g, i, none⟩ u) B v xs :=
  World.ownsRow.kept h ⟨rfl, rfl, rfl, by simp, fun k hk hr => Below.heap_setCell w ⟨g, i, none⟩ u k (fun e => hr (by rw [e]))⟩ (.inr hg)
theorem own_block3 {w : World} {B : Nat} {v : Value} {xs : Zn.S} {T : TypeId} (h : OwnL T 3 eTrip w B v xs) {b : Nat} (hb : w.heap.size ≤ b) : v.ownBlock ≠ some b := fun e => by
  have := (World.ownsRow.lt h b e).2; omega
theorem trip_new {W : World} {B : Nat} {x y z : Int} {T : TypeId} (h : W.heap.size = B) : ∀ j, j < 3 → (W.alloc (.cells #[.int .i64 x, .int .i64 y, .int .i64 z] T)).cell? ⟨B, j, none⟩ = some (eTrip (x, y, z) j) := fun j hj => by
  subst h
  match j, hj with
  | 0, _ => simp [eTrip]
  | 1, _ => simp [eTrip]
  | 2, _ => simp [eTrip]
/-- What the call hands back. -/
def GivesS (ss : Zn.S) (w : World) (e : Ending) (w' : World) : Prop := ∃ A c, e = .returned (.tuple #[.slice A ss.length c, .bool true]) ∧ TripsAt w' A ss ∧ Below w.heap.size w w'

end Go.Proofs.YtndngkfiamdohaaDoor
