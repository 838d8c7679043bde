/- A list of windows that comes in. -/
import Derived.Test.YtndngkfiamdohaaDoorFrz
import Derived.Test.YtndngkfiamdohaaDoorWMa
import Derived.Deep.SlicePairs
namespace Go.Proofs.YtndngkfiamdohaaDoor
open Go.ChangeShapes Go.WideShapes Go.ChangeAt Go.RowKit
set_option linter.unusedVariables false
set_option maxRecDepth 100000
theorem cellsW : Tryd.prog.cellsOf 24 = 2 := by kernel_rfl
theorem int_at {H : Type} {enc : TypeId × Value → H} {W : World} {base n : Nat} {spare : Nat → Bool} {held : Bool} {v : Value} {x : DataW H × List MemPlace} (h : DataW.trod enc Tryd.prog W base spare held n 3 [v] = some x) :
    ∃ k : Int, v = .int .i64 k ∧ -9223372036854775808 ≤ k ∧ k ≤ 9223372036854775807 := by
  obtain ⟨k, e, -, hw⟩ := DataW.trod_int Tryd.underlying3 h
  exact ⟨k, by simpa using e, wf_lo hw, wf_hi hw⟩
theorem open_ws {H : Type} {enc : TypeId × Value → H} {W : World} {base b0 : Nat} {spare : Nat → Bool} {held : Bool} {v : Value} {d : DataW H} {p : List MemPlace} (hv : Value.okWide Tryd.prog W .any b0 22 v)
    (h : DataW.Trod enc Tryd.prog W base spare held 22 v d p) :
    ∃ A n c xs, v = .slice A n c ∧ WIn W A n xs := by
  obtain ⟨a0, len, cap, rfl⟩ := okWide_slice Tryd.underlying22 hv
  obtain ⟨fuel, hf⟩ := h
  rcases Go.Deep.open_slice_pairs Tryd.underlying22 Tryd.underlying24 cellsW rfl rfl cells1 cells1 hf with ⟨hcs, hx⟩ | ⟨a, len', cap', m, k, V0, V1, D0, D1, P0, P1, hcs, _, hl, hmx, hm, hx, hcell⟩
  · simp [Value.cells] at hcs
    obtain ⟨rfl, rfl, rfl⟩ := hcs
    exact ⟨none, 0, 0, [], rfl, ListAt.nil_, rfl, by omega⟩
  · simp [Value.cells] at hcs
    obtain ⟨rfl, rfl, rfl⟩ := hcs
    have hlm : len ≤ m := by rw [hm]; split <;> omega
    obtain ⟨q, hq⟩ := Go.Deep.choose_lt (n := len) (α := Int × Int) (p := fun i s => W.cell? (a.add (i * 2)) = some (.int .i64 s.1) ∧ W.cell? (a.add (i * 2 + 1)) = some (.int .i64 s.2)) (fun i hi => by
      obtain ⟨h0, h1, t0, t1⟩ := hcell i (by omega)
      obtain ⟨x, ex, -, -⟩ := int_at t0
      obtain ⟨y, ey, -, -⟩ := int_at t1
      exact ⟨(x, y), by rw [h0, ex], by rw [h1, ey]⟩)
    refine ⟨some a, len, cap, (List.range len).map q, rfl, fun h0 => ?_, by simp, by simp only [maxLen] at hmx; omega⟩
    rw [List.length_map, List.length_range] at h0
    have c0 := (hq 0 h0).1
    obtain ⟨b, off, spot⟩ := a
    have hspot : spot = none := by simpa [Addr.add] using World.cell?_spot c0
    subst hspot
    refine ⟨b, off, rfl, World.block_lt_of_cell? W _ c0, fun i x hx j hj => ?_⟩
    have hi : i < len := by have := (List.getElem?_eq_some_iff.1 hx).1; simpa using this
    have hxq : q i = x := by simpa [hi] using hx
    have hh := hq i hi
    rw [add_none, add_none] at hh
    rw [hxq] at hh
    match j, hj with
    | 0, _ => exact hh.1
    | 1, _ => have := hh.2; rw [← Nat.add_assoc] at this; exact this
end Go.Proofs.YtndngkfiamdohaaDoor
