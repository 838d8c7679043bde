/- What the laws of time zones share: the chapter's example. -/
import Derived.Test.YtegnfmpbhindaaaDoorZni
import Derived.Test.YtegnfmpbhindaaaDoorZdz
namespace Go.Proofs.YtegnfmpbhindaaaDoor
open Go.RowKit
set_option linter.unusedVariables false
set_option linter.unusedSimpArgs false

theorem fit_of_ok {r : Zn.Rule} (h : Zn.okR r = true) : FitR r := by
  rw [Zn.okR_iff] at h
  unfold FitR I64
  omega
theorem zin_of {w : World} {A : Option Addr} {n : Nat} {rs : List Zn.Rule} (hT : CivT w) (hA : RulesAt w A rs) (hn : rs.length = n) (hok : rs.all Zn.okR = true) (hle : n ≤ 1000) : ZIn w A n rs :=
  ⟨hT, hA, hn, fun r hr => fit_of_ok (List.all_eq_true.1 hok r hr), by omega⟩
def exRules : List Zn.Rule := [⟨2020, 2030, 3, 5, 6, 7200, 7200⟩, ⟨2020, 2030, 10, 5, 6, 10800, 3600⟩]
def exTs : Zn.L := (Zn.trans 3600 exRules).1
theorem ex_trans : Zn.trans 3600 exRules = (exTs, 0) := Prod.ext rfl (by kernel_rfl)
theorem ex_ok : exRules.all Zn.okR = true := by kernel_rfl
theorem ex1 : frmV 3600 exTs 0 20541 9000 = [] := by kernel_rfl
theorem ex2 : fstV 3600 exTs 0 20541 9000 = 1774746000 := by kernel_rfl
theorem ex2e : fstE 3600 exTs 0 20541 9000 = 0 := by kernel_rfl
theorem ex3 : frmV 3600 exTs 0 20751 9000 = [1792888200, 1792891800] := by kernel_rfl
theorem ex4 : locV 3600 exTs 0 1774746000 = (20541, 10800) := by kernel_rfl

set_option maxHeartbeats 1000000 in
theorem example_any (w : World) : Calls Tryd.prog 17 #[] w fun e w' => e = .returned (.agg #[.string ⟨#[]⟩, .int .i64 3600, .slice (some ⟨w.heap.size + 1, 0, none⟩) 2 2]) ∧ RulesAt w' (some ⟨w.heap.size + 1, 0, none⟩) exRules ∧ Below w.heap.size w w' := by
  go_enter Tryd.func17, Tryd.ntmps17
  go_wp2_with fail
  refine bodyPost_ret (v := .agg #[.string ⟨#[]⟩, .int .i64 3600, .slice (some ⟨w.heap.size + 1, 0, none⟩) 2 2]) (by simp [results, Tryd.results17, go_sem]) rfl ?_
  exact ⟨rfl, rules_two (blk_new (by simp)), ((Below.refl _ _).alloc (Nat.le_refl _) _).alloc (by simp) _⟩

set_option maxHeartbeats 4000000 in
set_option maxRecDepth 100000 in
theorem sane_any (w : World) (hT : CivT w) : Calls Tryd.prog 12 #[] w fun e w' => e = .returned (.bool true) ∧ Below w.heap.size w w' := by
  go_enter Tryd.func12, Tryd.ntmps12
  go_wp2_with fail
  refine (example_any w).mono ?_
  rintro e w1 ⟨rfl, hA, b1⟩
  have T1 := hT.below b1
  obtain ⟨A0, hA0⟩ : ∃ A0, (some ⟨w.heap.size + 1, 0, none⟩ : Option Addr) = A0 := ⟨_, rfl⟩
  rw [hA0] at hA ⊢
  have Z1 := zin_of T1 hA rfl ex_ok (by decide)
  change ZIn w1 A0 2 exRules at Z1
  clear hA0 hA T1
  have i1 : I64 3600 := ⟨by omega, by omega⟩
  have i2 : I64 20541 := ⟨by omega, by omega⟩
  have i3 : I64 20751 := ⟨by omega, by omega⟩
  have C1 := fun W (h : ZIn W A0 2 exRules) => fromLocal_is ex_trans ⟨#[]⟩ A0 2 2 20541 9000 W h i1 i2
  have C2 := fun W (h : ZIn W A0 2 exRules) => first_is ex_trans ⟨#[]⟩ A0 2 2 20541 9000 W h i1 i2
  have C3 := fun W (h : ZIn W A0 2 exRules) => fromLocal_is ex_trans ⟨#[]⟩ A0 2 2 20751 9000 W h i1 i3
  have C4 := fun W (h : ZIn W A0 2 exRules) => toLocal_is ex_trans ⟨#[]⟩ A0 2 2 1774746000 W h i1
  simp only [ex1, ex2, ex2e, ex3, ex4, show frmE 0 9000 = 0 from rfl, show offE 0 1774746000 = 0 from rfl] at C1 C2 C3 C4
  have H1 := Lib.hid C1
  have H2 := Lib.hid C2
  have H3 := Lib.hid C3
  have H4 := Lib.hid C4
  have HB := Lib.hid b1
  clear C1 C2 C3 C4 b1 i1 i2 i3
  go_wp2_with fail
  refine (H1.out _ (Z1.alloc _)).mono ?_
  rintro e w2 ⟨A2, c2, rfl, I2, b2⟩
  have Z2 := (Z1.alloc _).below b2
  have HB2 := Lib.hid (bstepA HB.out b2)
  have ZB : BlkAt w2 w1.heap.size #[.string ⟨#[]⟩, .int .i64 3600, .slice A0 2 2] 27 := BlkAt.after (blk_new rfl) b2
  obtain ⟨c0, c1, c2'⟩ := ZBlk.cells ZB
  clear b2 HB H1
  go_wp2_with fail
  refine (H2.out _ Z2).mono ?_
  rintro e w3 ⟨rfl, b3⟩
  have Z3 := Z2.below b3
  have HB3 := Lib.hid (bstep HB2.out b3)
  have ZB3 := BlkAt.after ZB b3
  clear ZB c0 c1 c2'
  obtain ⟨c0, c1, c2'⟩ := ZBlk.cells ZB3
  clear b3 HB2 H2 Z2
  go_wp2_with fail
  refine (H3.out _ Z3).mono ?_
  rintro e w4 ⟨A4, c4, rfl, I4, b4⟩
  have Z4 := Z3.below b4
  have HB4 := Lib.hid (bstep HB3.out b4)
  have ZB4 := BlkAt.after ZB3 b4
  clear ZB3 c0 c1 c2'
  obtain ⟨c0, c1, c2'⟩ := ZBlk.cells ZB4
  clear b4 HB3 H3 Z3
  go_wp2_with fail
  refine (H4.out _ Z4).mono ?_
  rintro e w5 ⟨rfl, b5⟩
  have I5 := I4.below b5
  have HB5 := Lib.hid (bstep HB4.out b5)
  obtain ⟨b, off, rfl, hb, hc⟩ := I5 (by simp)
  have d0 : w5.cell? ⟨b, off, none⟩ = some (.int .i64 1792888200) := hc 0 _ rfl 0 (by omega)
  have d1 : w5.cell? ⟨b, off + 1, none⟩ = some (.int .i64 1792891800) := hc 1 _ rfl 0 (by omega)
  clear b5 HB4 H4 Z4 I4 I5 hc I2
  go_wp2_with fail
  go_ret
  exact ⟨rfl, HB5.out.trans (((Below.refl _ _).alloc (Nat.le_refl _) _).mono HB5.out.size)⟩
end Go.Proofs.YtegnfmpbhindaaaDoor
