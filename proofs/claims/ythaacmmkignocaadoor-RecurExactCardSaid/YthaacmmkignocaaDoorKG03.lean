/- What the library's functions that package lexer calls return: Itoa, Atoi, Cut, SplitN, and what they read. What number and fields of package lexer return. What fields of package lexer returns, for three numbers. -/
import Derived.Test.YthaacmmkignocaaDoorKG02
import Derived.Test.YthaacmmkignocaaDoorKG00
import Derived.Lib.CutLaws
import Derived.Lib.ItoaMem
namespace Go.Proofs.YthaacmmkignocaaDoor
open Go.RowKit
set_option linter.unusedVariables false
set_option linter.unusedSimpArgs false
/-- A package-level variable below holds what it held. -/
theorem var_below {P : Program} {W W' : World} {n : String} {cs : Array Value} (h : Below W.heap.size W W') (hv : W.var? P n = some cs) : W'.var? P n = some cs := by
  unfold World.var? at *
  cases hg : P.globalNamed n with
  | none => simp [hg] at hv
  | some g =>
    simp only [hg, Option.bind_some] at *
    have hlt : g < W.heap.size := by
      cases hh : W.heap[g]? with
      | none => simp [hh] at hv
      | some o => exact (Array.getElem?_eq_some_iff.1 hh).1
    rw [h.block g hlt]
    exact hv
/-- What the functions read: the lengths of months, the powers of ten, the two errors, the spaces. -/
structure LexT (w : World) : Prop where
  civ : CivT w
  pow : Lib.TabIs Tryd.prog w "internal/strconv.uint64pow10" .u64 Lib.pow10Tab
  syn : ∃ tp p, w.var? Tryd.prog "strconv.ErrSyntax" = some #[.iface tp p]
  rng : ∃ tp p, w.var? Tryd.prog "strconv.ErrRange" = some #[.iface tp p]
  spc : Lib.TabIs Tryd.prog w "strings.asciiSpace" .u8 Lib.asciiSpaceTab
theorem LexT.below {w w' : World} (h : LexT w) (hb : Below w.heap.size w w') : LexT w' := by
  obtain ⟨h1, h2, ⟨a, b, h3⟩, ⟨c, d, h4⟩, h5⟩ := h
  exact ⟨h1.below hb, var_below hb h2, ⟨a, b, var_below hb h3⟩, ⟨c, d, var_below hb h4⟩, var_below hb h5⟩
theorem LexT.alloc {w : World} (h : LexT w) (o : Obj) : LexT (w.alloc o) := h.below ((Below.refl _ _).alloc (Nat.le_refl _) o)
theorem LexT.drewN {w : World} (h : LexT w) (n : Nat) : LexT (w.drewN n) := h.below ⟨rfl, rfl, rfl, Nat.le_refl _, fun _ _ => rfl⟩
theorem LexT.drew {w : World} (h : LexT w) : LexT w.drew := h.below (Below.refl _ _).drew
/-- The pieces: strings in one new block. -/
def PartsAt (w : World) (b : Nat) (P : List ByteArray) : Prop := ∀ k x, P[k]? = some x → w.cell? ⟨b, k, none⟩ = some (.string x)
theorem PartsAt.below {w w' : World} {b : Nat} {P : List ByteArray} (h : PartsAt w b P) (hb : Below w.heap.size w w') : PartsAt w' b P := fun k x hx => by
  have := h k x hx
  exact (hb.cell (p := ⟨b, k, none⟩) (World.block_lt_of_cell? w _ this)).trans this
end Go.Proofs.YthaacmmkignocaaDoor
namespace Go.Proofs.YthaacmmkignocaaDoor
open Go.RowKit
set_option linter.unusedVariables false
set_option linter.unusedSimpArgs false
/-- A number, from -M to M, and whether it counts. -/
def Num2 (M : Int) (o : Option Int) (w : World) (e : Ending) (w' : World) : Prop :=
  ∃ v : Int, I64 v ∧ -M ≤ v ∧ v ≤ M ∧ (∀ x, o = some x → v = x) ∧ e = .returned (.tuple #[.int .i64 v, .bool o.isSome]) ∧ Below w.heap.size w w'
theorem bdrewN {B : Nat} {a w : World} (h : Below B a w) (n : Nat) : Below B a (w.drewN n) := ⟨h.os, h.tape, h.output, h.size, h.block⟩
end Go.Proofs.YthaacmmkignocaaDoor
namespace Go.Proofs.YthaacmmkignocaaDoor
open Go.RowKit
set_option linter.unusedVariables false
set_option linter.unusedSimpArgs false
set_option maxRecDepth 100000
/-- Three numbers in a new block, or none. -/
def Fld (o : Option (List Nat)) (w : World) (e : Ending) (w' : World) : Prop :=
  (o = none ∧ e = .returned (.tuple #[.slice none 0 0, .bool false]) ∧ Below w.heap.size w w') ∨
  (∃ (a b d bl : Nat), o = some [a, b, d] ∧ e = .returned (.tuple #[.slice (some ⟨bl, 0, none⟩) 3 3, .bool true]) ∧ BlkAt w' bl #[.int .i64 a, .int .i64 b, .int .i64 d] 3 ∧ Below w.heap.size w w')
theorem Fld.no {o : Option (List Nat)} {w w' : World} (h : o = none) (hb : Below w.heap.size w w') : Fld o w (.returned (.tuple #[.slice none 0 0, .bool false])) w' := .inl ⟨h, rfl, hb⟩
def Parts3 (w : World) (b : Nat) (p0 p1 p2 : ByteArray) : Prop := w.cell? ⟨b, 0, none⟩ = some (.string p0) ∧ w.cell? ⟨b, 1, none⟩ = some (.string p1) ∧ w.cell? ⟨b, 2, none⟩ = some (.string p2)
theorem cell_lift {w w' : World} {p : Addr} {v : Value} (h : w.cell? p = some v) (hb : Below w.heap.size w w') : w'.cell? p = some v := (hb.cell (p := p) (World.block_lt_of_cell? w _ h)).trans h
theorem Parts3.below {w w' : World} {b : Nat} {p0 p1 p2 : ByteArray} (h : Parts3 w b p0 p1 p2) (hb : Below w.heap.size w w') : Parts3 w' b p0 p1 p2 := ⟨cell_lift h.1 hb, cell_lift h.2.1 hb, cell_lift h.2.2 hb⟩
theorem Parts3.set_ {w : World} {b g i : Nat} {v : Value} {p0 p1 p2 : ByteArray} (h : Parts3 w b p0 p1 p2) (hne : g ≠ b) : Parts3 (w.setCell ⟨g, i, none⟩ v) b p0 p1 p2 := by
  have key : ∀ j u, w.cell? ⟨b, j, none⟩ = some u → (w.setCell ⟨g, i, none⟩ v).cell? ⟨b, j, none⟩ = some u := fun j u hu => by
    rw [World.cell?_setCell_other w _ _ _ (fun e => hne (by injection e with e1))]; exact hu
  exact ⟨key _ _ h.1, key _ _ h.2.1, key _ _ h.2.2⟩
end Go.Proofs.YthaacmmkignocaaDoor
