/- The dice: edits and layers. Printed by gen_dv.py. -/
import Derived.Test.YthaacmmkignocaaDoorKDu
namespace Go.Proofs.YthaacmmkignocaaDoor
open Go.RowKit
set_option linter.unusedVariables false
set_option linter.unusedSimpArgs false
set_option maxRecDepth 100000
/-- The dice, and two blocks of the call's own: the result and what is made. -/
structure EK (w : World) (g : Nat) (A : Option Addr) (n c : Nat) (zs : List Int) (B2 : Nat) (cs2 : Array Value) (B3 : Nat) (cs3 : Array Value) (T : TypeId) (B4 : Nat) (cs4 : Array Value) (T4 : TypeId) (W : World) : Prop where
  grown : w.grownBy W (some g)
  dice : Dice W g A n c zs
  k2 : BlkAt W B2 cs2 T
  k3 : BlkAt W B3 cs3 T
  k4 : BlkAt W B4 cs4 T4
  l2 : w.heap.size ≤ B2
  l3 : w.heap.size ≤ B3
  l4 : w.heap.size ≤ B4
  n23 : B2 ≠ B3
  n43 : B4 ≠ B3
  lg : g < w.heap.size
section
variable {w W W' : World} {g n c : Nat} {A : Option Addr} {zs : List Int} {B2 B3 B4 : Nat} {cs2 cs3 cs4 : Array Value} {T T4 : TypeId}
theorem EK.below (h : EK w g A n c zs B2 cs2 B3 cs3 T B4 cs4 T4 W) (hb : Below W.heap.size W W') : EK w g A n c zs B2 cs2 B3 cs3 T B4 cs4 T4 W' :=
  ⟨grown_then h.grown hb h.grown.size, h.dice.after hb, h.k2.after hb, h.k3.after hb, h.k4.after hb, h.l2, h.l3, h.l4, h.n23, h.n43, h.lg⟩
theorem EK.alloc (h : EK w g A n c zs B2 cs2 B3 cs3 T B4 cs4 T4 W) (o : Obj) : EK w g A n c zs B2 cs2 B3 cs3 T B4 cs4 T4 (W.alloc o) := h.below ((Below.refl _ _).alloc (Nat.le_refl _) _)
theorem EK.drew (h : EK w g A n c zs B2 cs2 B3 cs3 T B4 cs4 T4 W) : EK w g A n c zs B2 cs2 B3 cs3 T B4 cs4 T4 W.drew := h.below (Below.refl _ _).drew
theorem EK.call (h : EK w g A n c zs B2 cs2 B3 cs3 T B4 cs4 T4 W) (hg : W.grownBy W' (some g)) (hD : Dice W' g A n c zs) : EK w g A n c zs B2 cs2 B3 cs3 T B4 cs4 T4 W' := by
  have := h.l2
  have := h.l3
  have := h.l4
  have := h.lg
  exact ⟨grown_trans h.grown hg, hD, h.k2.grown hg (fun e => by cases e; omega), h.k3.grown hg (fun e => by cases e; omega), h.k4.grown hg (fun e => by cases e; omega), h.l2, h.l3, h.l4, h.n23, h.n43, h.lg⟩
/-- A row behind all the blocks is written. -/
theorem EK.row (h : EK w g A n c zs B2 cs2 B3 cs3 T B4 cs4 T4 W) {B : Nat} (hb : Below B W W') (h2 : B2 < B) (h3 : B3 < B) (h4 : B4 < B) : EK w g A n c zs B2 cs2 B3 cs3 T B4 cs4 T4 W' := by
  have := h.l2
  have := h.lg
  exact ⟨grown_then h.grown hb (by omega), h.dice.below hb (by omega), h.k2.below hb h2, h.k3.below hb h3, h.k4.below hb h4, h.l2, h.l3, h.l4, h.n23, h.n43, h.lg⟩
theorem EK.set3 (h : EK w g A n c zs B2 cs2 B3 cs3 T B4 cs4 T4 W) (i : Nat) (u : Value) : EK w g A n c zs B2 cs2 B3 (cs3.setIfInBounds i u) T B4 cs4 T4 (W.setCell ⟨B3, i, none⟩ u) := by
  have l3 := h.l3
  have lg := h.lg
  exact ⟨grown_row h.grown (grown_set W B3 i u) (fun r e => by cases e; exact .inr l3), dice_row h.dice (grown_set W B3 i u) (fun r e => by cases e; omega), h.k2.grown (grown_set W B3 i u) (fun e => h.n23 (Option.some.inj e)), h.k3.set_ i u, h.k4.grown (grown_set W B3 i u) (fun e => h.n43 (Option.some.inj e)), h.l2, h.l3, h.l4, h.n23, h.n43, h.lg⟩
end
theorem isIx_of {a : Int} {n : Nat} (h1 : 0 ≤ a) (h2 : a < n) : Rs.isIx a n = true := by unfold Rs.isIx; simp [h1, h2]
end Go.Proofs.YthaacmmkignocaaDoor
