/- A list of spans that comes in. -/
import Derived.Test.YtnleelkdoagfcaaSpFrame
import Derived.Deep.SlicePairs
namespace Go.Proofs.Ytnleelkdoagfcaa
open Go.ChangeShapes Go.WideShapes Go.ChangeAt Go.RowKit
set_option linter.unusedVariables false
theorem cellsS : Try.prog.cellsOf 47 = 2 := by kernel_rfl
theorem int_at {H : Type} {enc : TypeId × Value → H} {W : World} {base n : Nat} {spare : Nat → Bool} {held : Bool} {v : Value} {x : DataW H × List MemPlace} (h : DataW.trod enc Try.prog W base spare held n 3 [v] = some x) :
    ∃ k : Int, v = .int .i64 k ∧ -9223372036854775808 ≤ k ∧ k ≤ 9223372036854775807 := by
  obtain ⟨k, e, -, hw⟩ := DataW.trod_int Try.underlying3 h
  exact ⟨k, by simpa using e, wf_lo hw, wf_hi hw⟩
theorem open_ss {H : Type} {enc : TypeId × Value → H} {W : World} {base b0 : Nat} {spare : Nat → Bool} {held : Bool} {v : Value} {d : DataW H} {p : List MemPlace} (hv : Value.okWide Try.prog W .any b0 22 v)
    (h : DataW.Trod enc Try.prog W base spare held 22 v d p) :
    ∃ A n c xs, v = .slice A n c ∧ List.length xs = n ∧ SpansAt W A xs ∧ Fits xs ∧ n ≤ 9223372036854775807 := by
  obtain ⟨a0, len, cap, rfl⟩ := okWide_slice Try.underlying22 hv
  obtain ⟨fuel, hf⟩ := h
  rcases Go.Deep.open_slice_pairs Try.underlying22 Try.underlying47 cellsS rfl rfl cellsI cellsI hf with ⟨hcs, hx⟩ | ⟨a, len', cap', m, k, V0, V1, D0, D1, P0, P1, hcs, _, hl, hmx, hm, hx, hcell⟩
  · simp [Value.cells] at hcs
    obtain ⟨rfl, rfl, rfl⟩ := hcs
    exact ⟨none, 0, 0, [], rfl, rfl, SpansAt.nil_, (fun z hz => by cases hz), by omega⟩
  · simp [Value.cells] at hcs
    obtain ⟨rfl, rfl, rfl⟩ := hcs
    have hlm : len ≤ m := by rw [hm]; split <;> omega
    obtain ⟨q, hq⟩ := Go.Deep.choose_lt (n := len) (α := Int × Int) (p := fun i s => W.cell? (a.add (i * 2)) = some (.int .i64 s.1) ∧ W.cell? (a.add (i * 2 + 1)) = some (.int .i64 s.2) ∧ (-9223372036854775808 ≤ s.1 ∧ s.1 ≤ 9223372036854775807) ∧ -9223372036854775808 ≤ s.2 ∧ s.2 ≤ 9223372036854775807) (fun i hi => by
      obtain ⟨h0, h1, t0, t1⟩ := hcell i (by omega)
      obtain ⟨x, ex, x1, x2⟩ := int_at t0
      obtain ⟨y, ey, y1, y2⟩ := int_at t1
      exact ⟨(x, y), by rw [h0, ex], by rw [h1, ey], ⟨x1, x2⟩, y1, y2⟩)
    refine ⟨some a, len, cap, (List.range len).map q, rfl, by simp, fun h0 => ?_, fun z hz => ?_, by simp only [maxLen] at hmx; omega⟩
    · rw [List.length_map, List.length_range] at h0
      have c0 := (hq 0 h0).1
      obtain ⟨b, off, spot⟩ := a
      have hspot : spot = none := by simpa [Addr.add] using World.cell?_spot c0
      subst hspot
      refine ⟨b, off, rfl, World.block_lt_of_cell? W _ c0, fun k hk => ?_⟩
      rw [List.length_map, List.length_range] at hk
      have hh := hq k hk
      rw [add_none, add_none] at hh
      have e : (List.map q (List.range len)).getD k (0, 0) = q k := by simp [List.getD, hk]
      rw [e, Nat.add_assoc]
      exact ⟨hh.1, hh.2.1⟩
    · obtain ⟨i, hi, rfl⟩ := List.mem_map.1 hz
      exact (hq i (by simpa using hi)).2.2
end Go.Proofs.Ytnleelkdoagfcaa
