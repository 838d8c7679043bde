/- What fields of package lexer returns, for three numbers. -/
import Derived.Test.YtoohijffkbkikaaGreatDoorLc
namespace Go.Proofs.YtoohijffkbkikaaGreatDoor
open Go.RowKit
set_option linter.unusedVariables false
set_option linter.unusedSimpArgs false
set_option maxRecDepth 100000

/-- Three numbers in a new block, or none. -/
def Fld (o : Option (List Nat)) (w : World) (e : Ending) (w' : World) : Prop :=
  (o = none ∧ e = .returned (.tuple #[.slice none 0 0, .bool false]) ∧ Below w.heap.size w w') ∨
  (∃ (a b d bl : Nat), o = some [a, b, d] ∧ e = .returned (.tuple #[.slice (some ⟨bl, 0, none⟩) 3 3, .bool true]) ∧ BlkAt w' bl #[.int .i64 a, .int .i64 b, .int .i64 d] 3 ∧ Below w.heap.size w w')
theorem Fld.no {o : Option (List Nat)} {w w' : World} (h : o = none) (hb : Below w.heap.size w w') : Fld o w (.returned (.tuple #[.slice none 0 0, .bool false])) w' := .inl ⟨h, rfl, hb⟩
theorem make3 : ∀ w, (Instr.makeSlice 23 (.int .i64 3) (.int .i64 3)).run Tryz.prog w = .ok (.slice (some ⟨w.heap.size, 0, none⟩) 3 3) (w.alloc (.cells #[.int .i64 0, .int .i64 0, .int .i64 0] 3)) := fun _ => by kernel_rfl
def Parts3 (w : World) (b : Nat) (p0 p1 p2 : ByteArray) : Prop := w.cell? ⟨b, 0, none⟩ = some (.string p0) ∧ w.cell? ⟨b, 1, none⟩ = some (.string p1) ∧ w.cell? ⟨b, 2, none⟩ = some (.string p2)
theorem cell_lift {w w' : World} {p : Addr} {v : Value} (h : w.cell? p = some v) (hb : Below w.heap.size w w') : w'.cell? p = some v := (hb.cell (p := p) (World.block_lt_of_cell? w _ h)).trans h
theorem Parts3.below {w w' : World} {b : Nat} {p0 p1 p2 : ByteArray} (h : Parts3 w b p0 p1 p2) (hb : Below w.heap.size w w') : Parts3 w' b p0 p1 p2 := ⟨cell_lift h.1 hb, cell_lift h.2.1 hb, cell_lift h.2.2 hb⟩
theorem Parts3.set_ {w : World} {b g i : Nat} {v : Value} {p0 p1 p2 : ByteArray} (h : Parts3 w b p0 p1 p2) (hne : g ≠ b) : Parts3 (w.setCell ⟨g, i, none⟩ v) b p0 p1 p2 := by
  have key : ∀ j u, w.cell? ⟨b, j, none⟩ = some u → (w.setCell ⟨g, i, none⟩ v).cell? ⟨b, j, none⟩ = some u := fun j u hu => by
    rw [World.cell?_setCell_other w _ _ _ (fun e => hne (by injection e with e1))]; exact hu
  exact ⟨key _ _ h.1, key _ _ h.2.1, key _ _ h.2.2⟩
/-- A piece is right: as long as asked, digits alone. -/
def okP (p : ByteArray) (i : Nat) : Prop := p.data.toList.length = i ∧ Lx.alldig p.data.toList = true
theorem fld_none {s p0 p1 p2 : ByteArray} {c : UInt8} {i j k : Nat} (hP : [p0, p1, p2].map (·.data.toList) = Lib.splitN s.data.toList [c] 4) (h : ¬ (okP p0 i ∧ okP p1 j ∧ okP p2 k)) : Lx.fieldsS c [i, j, k] s.data.toList = none := by
  unfold Lx.fieldsS
  rw [← hP, if_neg]
  rintro ⟨h1, h2⟩
  simp only [List.map_cons, List.map_nil, List.cons.injEq, and_true, List.all_cons, List.all_nil, Bool.and_true, Bool.and_eq_true] at h1 h2
  exact h ⟨⟨h1.1, h2.1⟩, ⟨h1.2.1, h2.2.1⟩, ⟨h1.2.2, h2.2.2⟩⟩
theorem fld_some {s p0 p1 p2 : ByteArray} {c : UInt8} {i j k : Nat} (hP : [p0, p1, p2].map (·.data.toList) = Lib.splitN s.data.toList [c] 4) (h0 : okP p0 i) (h1 : okP p1 j) (h2 : okP p2 k) :
    Lx.fieldsS c [i, j, k] s.data.toList = some [Lx.val p0.data.toList, Lx.val p1.data.toList, Lx.val p2.data.toList] := by
  unfold Lx.fieldsS
  rw [← hP, if_pos]
  · rfl
  · simp [h0.1, h0.2, h1.1, h1.2, h2.1, h2.2]
theorem okP_cases (p : ByteArray) (i : Nat) (hi : i ≤ 9) (h1 : 1 ≤ i) : (okP p i ∧ (p.size : Int) = i ∧ ((Lx.lead p.data.toList : Nat) : Int) = i ∧ Lib.atoiAll p.data.toList = .ok (Lx.val p.data.toList : Int) ∧ Lx.val p.data.toList ≤ 1000000000) ∨ (¬ okP p i ∧ (((p.size : Int) == i) = false ∨ ((p.size : Int) = i ∧ (((Lx.lead p.data.toList : Nat) : Int) == i) = false))) := by
  have hz := Lib.size_eq p
  by_cases h : okP p i
  · have hv := Lx.val_bd h.2
    have hp : 10 ^ p.data.toList.length ≤ 10 ^ 9 := Nat.pow_le_pow_right (by decide) (by have := h.1; omega)
    refine .inl ⟨h, by have := h.1; omega, by have := Lx.lead_all.2 h.2; have := h.1; omega, Lx.atoi_dig h.2 ?_ (by have := h.1; omega), by omega⟩
    intro e
    have := h.1
    rw [e] at this
    simp at this
    omega
  · refine .inr ⟨h, ?_⟩
    by_cases hs : p.size = i
    · right
      refine ⟨by omega, ?_⟩
      simp only [beq_eq_false_iff_ne, ne_eq]
      intro hl
      exact h ⟨by omega, Lx.lead_all.1 (by omega)⟩
    · left
      simp only [beq_eq_false_iff_ne, ne_eq]
      omega
end Go.Proofs.YtoohijffkbkikaaGreatDoor
