/- A zone that comes in: a struct of a text, a number and a list of rules. -/
import Derived.Test.YtegnfmpbhindaaaDoorFrz
import Derived.Test.YtegnfmpbhindaaaDoorZnk
import Derived.Lib.SmallJoins
import Derived.ChangeArms
import Derived.Deep.SlicePairs
namespace Go.Proofs.YtegnfmpbhindaaaDoor
open Go.ChangeShapes Go.WideShapes Go.ChangeAt Go.RowKit Go.Joins
set_option linter.unusedVariables false

theorem cellsR7 : Tryd.prog.cellsOf 23 = 7 := by kernel_rfl
theorem cellsZ3 : Tryd.prog.cellsOf 27 = 3 := by kernel_rfl
theorem i64_wf {n : Int} (h : (Lit.int .i64 n).wf = true) : I64 n := ⟨wf_lo h, wf_hi h⟩
theorem list7 {α : Type} {cs : List α} (h : cs.length = 7) : ∃ c0 c1 c2 c3 c4 c5 c6, cs = [c0, c1, c2, c3, c4, c5, c6] := by
  match cs, h with
  | [c0, c1, c2, c3, c4, c5, c6], _ => exact ⟨c0, c1, c2, c3, c4, c5, c6, rfl⟩
section
variable {H : Type} {enc : TypeId × Value → H} {W : World} {base : Nat} {spare : Nat → Bool} {held : Bool}
theorem int_one {n : Nat} {v : Value} {x : DataW H × List MemPlace} (h : DataW.trod enc Tryd.prog W base spare held n 3 [v] = some x) : ∃ k : Int, v = .int .i64 k ∧ I64 k := by
  obtain ⟨k, e, -, hw⟩ := DataW.trod_int Tryd.underlying3 h
  exact ⟨k, by simpa using e, i64_wf hw⟩
/-- One rule, off its seven cells. -/
theorem rule_one {n : Nat} {a : Addr} {x : DataW H × List MemPlace} {cs : List Value} (hc : W.cells? base a 7 = some cs) (h : DataW.trod enc Tryd.prog W base spare held n 23 cs = some x) :
    ∃ r : Zn.Rule, FitR r ∧ ∀ j, j < 7 → W.cell? (a.add j) = some (eRule r j) := by
  obtain ⟨_, hlen, hcell⟩ := World.cells?_some hc
  obtain ⟨xs, k, hk, hxy, _, hxl, hf⟩ := DataW.trod_struct Tryd.underlying23 h
  obtain ⟨v0, v1, v2, v3, v4, v5, v6, rfl⟩ := list7 hlen
  obtain ⟨x0, x1, x2, x3, x4, x5, x6, rfl⟩ := list7 hxl
  have g0 := hf 0 _ rfl
  have g1 := hf 1 _ rfl
  have g2 := hf 2 _ rfl
  have g3 := hf 3 _ rfl
  have g4 := hf 4 _ rfl
  have g5 := hf 5 _ rfl
  have g6 := hf 6 _ rfl
  simp [cells1] at g0 g1 g2 g3 g4 g5 g6
  obtain ⟨k0, rfl, i0⟩ := int_one g0
  obtain ⟨k1, rfl, i1⟩ := int_one g1
  obtain ⟨k2, rfl, i2⟩ := int_one g2
  obtain ⟨k3, rfl, i3⟩ := int_one g3
  obtain ⟨k4, rfl, i4⟩ := int_one g4
  obtain ⟨k5, rfl, i5⟩ := int_one g5
  obtain ⟨k6, rfl, i6⟩ := int_one g6
  refine ⟨⟨k0, k1, k2, k3, k4, k5, k6⟩, ⟨i0, i1, i2, i3, i4, i5, i6⟩, fun j hj => ?_⟩
  have e := hcell j hj
  match j, hj with
  | 0, _ => exact (by simpa using e : W.cell? (a.add 0) = some (.int .i64 k0))
  | 1, _ => exact (by simpa using e : W.cell? (a.add 1) = some (.int .i64 k1))
  | 2, _ => exact (by simpa using e : W.cell? (a.add 2) = some (.int .i64 k2))
  | 3, _ => exact (by simpa using e : W.cell? (a.add 3) = some (.int .i64 k3))
  | 4, _ => exact (by simpa using e : W.cell? (a.add 4) = some (.int .i64 k4))
  | 5, _ => exact (by simpa using e : W.cell? (a.add 5) = some (.int .i64 k5))
  | 6, _ => exact (by simpa using e : W.cell? (a.add 6) = some (.int .i64 k6))
theorem open_zone {b0 : Nat} {v : Value} {d : DataW H} {p : List MemPlace} (hv : Value.okWide Tryd.prog W .any b0 27 v)
    (h : DataW.Trod enc Tryd.prog W base spare held 27 v d p) :
    ∃ s off A n c rs, v = .agg #[.string s, .int .i64 off, .slice A n c] ∧ List.length rs = n ∧ RulesAt W A rs ∧ (∀ r ∈ rs, FitR r) ∧ I64 off ∧ n ≤ 9223372036854775807 := by
  obtain ⟨c0, c1, c2, y0, y1, y2, m, rfl, -, -, h0, h1, h2⟩ := open_agg3 Tryd.underlying27 (by kernel_rfl) cellsZ3 hv h
  obtain ⟨s, e0, -, -⟩ := DataW.trod_string Tryd.underlying9 h0
  obtain ⟨off, rfl, ho⟩ := int_one h1
  obtain rfl : c0 = .string s := by simpa using e0
  rcases Go.Deep.open_slice Tryd.underlying25 h2 with ⟨hcs, hx⟩ | ⟨a, len, cap, mm, k, D, Pl, hcs, _, hl, hmx, hm, hx, hcell⟩
  · obtain rfl : c2 = .slice none 0 0 := by simpa using hcs
    exact ⟨s, off, none, 0, 0, [], rfl, rfl, ListAt.nil_, (fun r hr => by cases hr), ho, by omega⟩
  · obtain rfl : c2 = .slice (some a) len cap := by simpa using hcs
    have hlm : len ≤ mm := by rw [hm]; split <;> omega
    obtain ⟨q, hq⟩ := Go.Deep.choose_lt (n := len) (α := Zn.Rule) (p := fun i r => FitR r ∧ ∀ j, j < 7 → W.cell? ((a.add (i * 7)).add j) = some (eRule r j)) (fun i hi => by
      obtain ⟨cs', g1, g2⟩ := hcell i (by omega)
      rw [cellsR7] at g1
      exact rule_one g1 g2)
    refine ⟨s, off, some a, len, cap, (List.range len).map q, rfl, by simp, fun h0 => ?_, fun r hr => ?_, ho, by simp only [maxLen] at hmx; omega⟩
    · rw [List.length_map, List.length_range] at h0
      have c0 := (hq 0 h0).2 0 (by omega)
      obtain ⟨b, of, spot⟩ := a
      have hspot : spot = none := by simpa [Addr.add] using World.cell?_spot c0
      subst hspot
      refine ⟨b, of, rfl, World.block_lt_of_cell? W _ c0, fun i r hr j hj => ?_⟩
      obtain ⟨hi, e⟩ := List.getElem?_eq_some_iff.1 hr
      rw [List.length_map, List.length_range] at hi
      have hh := (hq i hi).2 j hj
      rw [add_none, add_none] at hh
      rw [hh]
      simp at e
      rw [e]
    · obtain ⟨i, hi, rfl⟩ := List.mem_map.1 hr
      exact (hq i (by simpa using hi)).1
end
end Go.Proofs.YtegnfmpbhindaaaDoor
