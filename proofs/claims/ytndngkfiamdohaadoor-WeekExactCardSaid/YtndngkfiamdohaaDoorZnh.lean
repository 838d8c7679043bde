/- Package zone's FromLocal and First. -/
import Derived.Test.YtndngkfiamdohaaDoorZng
namespace Go.Proofs.YtndngkfiamdohaaDoor
open Go.RowKit
set_option linter.unusedVariables false
set_option maxRecDepth 100000
set_option linter.unusedSimpArgs false

/-- The instants of a local time, and the error. -/
def frmV (off : Int) (ts : Zn.L) (er d s : Int) : List Int := if er ≠ 0 then [] else if Zn.okD s = false then [] else Zn.frm (Zn.locS d s) (Zn.strs 0 off ts)
def frmE (er s : Int) : Int := if er ≠ 0 then 8 else if Zn.okD s = false then 1 else 0
/-- The call hands back these numbers. -/
def GivesI (xs : List Int) (er : Int) (w : World) (e : Ending) (w' : World) : Prop := ∃ A c, e = .returned (.tuple #[.slice A xs.length c, .int .i64 er]) ∧ IntsAt w' A xs ∧ Below w.heap.size w w'
theorem GivesI.none_ {w w' : World} {er : Int} (h : Below w.heap.size w w') : GivesI [] er w (.returned (.tuple #[.slice none 0 0, .int .i64 er])) w' := ⟨none, 0, rfl, ListAt.nil_, h⟩
theorem frm_app (v : Int) : ∀ (a b : Zn.S), Zn.frm v (a ++ b) = Zn.frm v a ++ Zn.frm v b
  | [], b => rfl
  | (f, l, o) :: t, b => by
    rw [List.cons_append, Zn.frm, Zn.frm, frm_app v t b]
    split <;> simp
theorem frm_snoc {v f l o : Int} {ss : Zn.S} {k : Nat} (h : ss[k]? = some (f, l, o)) : Zn.frm v (ss.take (k + 1)) = Zn.frm v (ss.take k) ++ if f ≤ v - o ∧ v - o ≤ l then [v - o] else [] := by
  rw [take_snoc' h, frm_app]
  rw [Zn.frm]
  split <;> rfl
theorem frm_len (v : Int) : ∀ (a : Zn.S), (Zn.frm v a).length ≤ a.length
  | [] => by simp [Zn.frm]
  | (f, l, o) :: t => by
    rw [Zn.frm]
    have := frm_len v t
    split <;> simp <;> omega
theorem fst_step {v f l o : Int} {ss : Zn.S} {k : Nat} (h : ss[k]? = some (f, l, o)) : Zn.fst v (ss.drop k) = if max (v - o) f ≤ l then some (max (v - o) f) else Zn.fst v (ss.drop (k + 1)) := by
  rw [drop_cons' h, Zn.fst]
theorem int_new {W : World} {B : Nat} {x : Int} {T : TypeId} (h : W.heap.size = B) : ∀ j, j < 1 → (W.alloc (.cells #[.int .i64 x] T)).cell? ⟨B, j, none⟩ = some (eInt x j) := fun j hj => by
  subst h
  obtain rfl : j = 0 := by omega
  simp [eInt]
/-- What a drawn region of the loops below keeps. -/
theorem keepL {W0 W W' : World} {bl bs : Nat} {a0 a1 b0 b1 b2 : Value} (h : W.cell? ⟨bl, 0, none⟩ = some a0 ∧ W.cell? ⟨bl, 1, none⟩ = some a1 ∧ W.cell? ⟨bs, 0, none⟩ = some b0 ∧ W.cell? ⟨bs, 1, none⟩ = some b1 ∧ W.cell? ⟨bs, 2, none⟩ = some b2 ∧ Below W0.heap.size W0 W) (hb : Below W.heap.size W W') :
    W'.cell? ⟨bl, 0, none⟩ = some a0 ∧ W'.cell? ⟨bl, 1, none⟩ = some a1 ∧ W'.cell? ⟨bs, 0, none⟩ = some b0 ∧ W'.cell? ⟨bs, 1, none⟩ = some b1 ∧ W'.cell? ⟨bs, 2, none⟩ = some b2 ∧ Below W0.heap.size W0 W' := by
  obtain ⟨h0, h1, h2, h3, h4, h5⟩ := h
  exact ⟨cell_keep h0 hb, cell_keep h1 hb, cell_keep h2 hb, cell_keep h3 hb, cell_keep h4 hb, bstep h5 hb⟩

end Go.Proofs.YtndngkfiamdohaaDoor
