/- A zone that comes in: a struct of a text, a number and a list of rules. A layer that comes in: a struct with a struct, numbers and two lists. -/
import Derived.Test.YthaacmmkignocaaDoorKFrz
import Derived.Test.YthaacmmkignocaaDoorKZnk
import Derived.Lib.SmallJoins
import Derived.ChangeArms
import Derived.Deep.SlicePairs
namespace Go.Proofs.YthaacmmkignocaaDoor
open Go.ChangeShapes Go.WideShapes Go.ChangeAt Go.RowKit Go.Joins
set_option linter.unusedVariables false
set_option maxRecDepth 100000
theorem i64_wf {n : Int} (h : (Lit.int .i64 n).wf = true) : I64 n := ⟨wf_lo h, wf_hi h⟩
section
variable {H : Type} {enc : TypeId × Value → H} {W : World} {base : Nat} {spare : Nat → Bool} {held : Bool}
theorem int_one {n : Nat} {v : Value} {x : DataW H × List MemPlace} (h : DataW.trod enc Tryd.prog W base spare held n 3 [v] = some x) : ∃ k : Int, v = .int .i64 k ∧ I64 k := by
  obtain ⟨k, e, -, hw⟩ := DataW.trod_int Tryd.underlying3 h
  exact ⟨k, by simpa using e, i64_wf hw⟩
end
end Go.Proofs.YthaacmmkignocaaDoor
namespace Go.Proofs.YthaacmmkignocaaDoor
open Go.ChangeShapes Go.WideShapes Go.ChangeAt Go.RowKit Go.Joins
set_option linter.unusedVariables false
set_option maxRecDepth 100000
theorem cellsLa : Tryd.prog.cellsOf 38 = 10 := by kernel_rfl
theorem clStr : Tryd.prog.cellsOf 9 = 1 := by kernel_rfl
theorem clInt : Tryd.prog.cellsOf 3 = 1 := by kernel_rfl
theorem clLoc : Tryd.prog.cellsOf 35 = 2 := by kernel_rfl
theorem clInts : Tryd.prog.cellsOf 22 = 1 := by kernel_rfl
theorem clWins : Tryd.prog.cellsOf 36 = 1 := by kernel_rfl
theorem la2 {α : Type} {cs : List α} (h : cs.length = 2) : ∃ c0 c1, cs = [c0, c1] := by
  match cs, h with
  | [c0, c1], _ => exact ⟨c0, c1, rfl⟩
theorem la9 {α : Type} {cs : List α} (h : cs.length = 9) : ∃ c0 c1 c2 c3 c4 c5 c6 c7 c8, cs = [c0, c1, c2, c3, c4, c5, c6, c7, c8] := by
  match cs, h with
  | [c0, c1, c2, c3, c4, c5, c6, c7, c8], _ => exact ⟨c0, c1, c2, c3, c4, c5, c6, c7, c8, rfl⟩
theorem la10 {α : Type} {cs : Array α} (h : cs.size = 10) : ∃ c0 c1 c2 c3 c4 c5 c6 c7 c8 c9, cs = #[c0, c1, c2, c3, c4, c5, c6, c7, c8, c9] := by
  obtain ⟨l⟩ := cs
  match l, h with
  | [c0, c1, c2, c3, c4, c5, c6, c7, c8, c9], _ => exact ⟨c0, c1, c2, c3, c4, c5, c6, c7, c8, c9, rfl⟩
section
variable {H : Type} {enc : TypeId × Value → H} {W : World} {base : Nat} {spare : Nat → Bool} {held : Bool}
theorem ints_one {n : Nat} {v : Value} {x : DataW H × List MemPlace} (h : DataW.trod enc Tryd.prog W base spare held n 22 [v] = some x) : ∃ A k c, v = .slice A k c ∧ k ≤ 9223372036854775807 := by
  rcases Go.Deep.open_slice Tryd.underlying22 h with ⟨hcs, hx⟩ | ⟨a, len, cap, mm, k, D, Pl, hcs, _, hl, hmx, hm, hx, hcell⟩
  · exact ⟨none, 0, 0, by simpa using hcs, by omega⟩
  · refine ⟨some a, len, cap, by simpa using hcs, ?_⟩
    have hlm : len ≤ mm := by rw [hm]; split <;> omega
    simp only [maxLen] at hmx
    omega
theorem wins_one {n : Nat} {v : Value} {x : DataW H × List MemPlace} (h : DataW.trod enc Tryd.prog W base spare held n 36 [v] = some x) : ∃ A k c, v = .slice A k c := by
  rcases Go.Deep.open_slice Tryd.underlying36 h with ⟨hcs, hx⟩ | ⟨a, len, cap, mm, k, D, Pl, hcs, _, hl, hmx, hm, hx, hcell⟩
  · exact ⟨none, 0, 0, by simpa using hcs⟩
  · exact ⟨some a, len, cap, by simpa using hcs⟩
theorem open_layer {b0 : Nat} {v : Value} {d : DataW H} {p : List MemPlace} (hv : Value.okWide Tryd.prog W .any b0 38 v) (h : DataW.Trod enc Tryd.prog W base spare held 38 v d p) :
    ∃ (s : ByteArray) (z D S u e : Int) (r1 : Option Addr) (r2 r3 : Nat) (s1 : Option Addr) (s2 s3 : Nat) (c m : Int), v = .agg #[.string s, .int .i64 z, .int .i64 D, .int .i64 S, .int .i64 u, .int .i64 e, .slice r1 r2 r3, .slice s1 s2 s3, .int .i64 c, .int .i64 m] ∧ I64 D ∧ I64 S ∧ I64 u ∧ I64 e ∧ r2 ≤ 9223372036854775807 := by
  obtain ⟨cs, rfl, hsz⟩ := okWide_struct Tryd.underlying38 hv
  obtain ⟨c0, c1, c2, c3, c4, c5, c6, c7, c8, c9, rfl⟩ := la10 (hsz.trans cellsLa)
  obtain ⟨fuel, hf0⟩ := h
  obtain ⟨xs, n, hk, hxy, _, hxl, hf⟩ := DataW.trod_struct Tryd.underlying38 hf0
  obtain ⟨x0, x1, x2, x3, x4, x5, x6, x7, x8, rfl⟩ := la9 hxl
  have g0 := hf 0 _ rfl
  have g1 := hf 1 _ rfl
  have g2 := hf 2 _ rfl
  have g3 := hf 3 _ rfl
  have g4 := hf 4 _ rfl
  have g5 := hf 5 _ rfl
  have g6 := hf 6 _ rfl
  have g7 := hf 7 _ rfl
  have g8 := hf 8 _ rfl
  simp [Value.cells, clStr, clInt, clLoc, clInts, clWins] at g0 g1 g2 g3 g4 g5 g6 g7 g8
  obtain ⟨s, e0, -, -⟩ := DataW.trod_string Tryd.underlying9 g0
  obtain ⟨z, rfl, -⟩ := int_one g1
  obtain ⟨ys, n2, _, _, _, hyl, hf2⟩ := DataW.trod_struct Tryd.underlying35 g2
  obtain ⟨y0, y1, rfl⟩ := la2 hyl
  have l0 := hf2 0 _ rfl
  have l1 := hf2 1 _ rfl
  simp [clInt] at l0 l1
  obtain ⟨D, rfl, iD⟩ := int_one l0
  obtain ⟨S, rfl, iS⟩ := int_one l1
  obtain ⟨u, rfl, iu⟩ := int_one g3
  obtain ⟨e, rfl, ie⟩ := int_one g4
  obtain ⟨r1, r2, r3, rfl, hr⟩ := ints_one g5
  obtain ⟨s1, s2, s3, rfl⟩ := wins_one g6
  obtain ⟨c, rfl, -⟩ := int_one g7
  obtain ⟨m, rfl, -⟩ := int_one g8
  obtain rfl : c0 = .string s := by simpa using e0
  exact ⟨s, z, D, S, u, e, r1, r2, r3, s1, s2, s3, c, m, rfl, iD, iS, iu, ie, hr⟩
end
end Go.Proofs.YthaacmmkignocaaDoor
