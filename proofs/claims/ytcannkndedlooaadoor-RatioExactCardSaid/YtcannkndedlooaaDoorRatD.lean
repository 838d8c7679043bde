/- What Add, Sub, Mul and Div of package ratio return. -/
import Derived.Test.YtcannkndedlooaaDoorRatC
namespace Go.Proofs.YtcannkndedlooaaDoor
open Go.RowKit
set_option linter.unusedVariables false
set_option linter.unusedSimpArgs false

set_option maxHeartbeats 800000 in
theorem Add_bad1 (an ad bn bd : Int) (w : World) (ia : I64 an ∧ I64 ad) (ha : ¬ Rt.vld an ad) :
    Calls Tryd.prog 9 #[.agg #[.int .i64 an, .int .i64 ad], .agg #[.int .i64 bn, .int .i64 bd]] w fun e w' => e = .returned (.tuple #[.agg #[.int .i64 0, .int .i64 0], .int .i64 8]) ∧ Below w.heap.size w w' := by
  have A0 := ((RatAt.new w an ad 23).alloc (.cells #[.int .i64 bn, .int .i64 bd] 23)).alloc (.cells #[.int .i64 0, .int .i64 0] 23)
  have B0 := (RatAt.new1 w (.cells #[.int .i64 an, .int .i64 ad] 23) bn bd 23).alloc (.cells #[.int .i64 0, .int .i64 0] 23)
  have Z0 := RatAt.new2 w (.cells #[.int .i64 an, .int .i64 ad] 23) (.cells #[.int .i64 bn, .int .i64 bd] 23) 0 0 23
  have L0 := below3 w (.cells #[.int .i64 an, .int .i64 ad] 23) (.cells #[.int .i64 bn, .int .i64 bd] 23) (.cells #[.int .i64 0, .int .i64 0] 23)
  go_enter Tryd.func9, Tryd.ntmps9
  go_wp2_with fail
  refine (valid_no an ad _ ia.1 ia.2 ha).mono ?_
  rintro e w1 ⟨rfl, b1⟩
  have A1 := A0.below b1
  have B1 := B0.below b1
  have Z1 := Z0.below b1
  have L1 := bstep L0 b1
  have ⟨a0, a1, _, _⟩ := A1
  have ⟨c0, c1, _, _⟩ := B1
  have ⟨z0, z1, k0, k1⟩ := Z1
  go_wp2_with fail
  exact bodyPost_ret (v := .tuple #[.agg #[.int .i64 0, .int .i64 0], .int .i64 8]) (by simp [results, Tryd.results9, go_sem, z0, z1]) rfl ⟨rfl, (L1.setCell (by simp <;> omega) _).setCell (by simp <;> omega) _⟩

set_option maxHeartbeats 800000 in
theorem Add_bad2 (an ad bn bd : Int) (w : World) (ib : I64 bn ∧ I64 bd) (ha : Rt.vld an ad) (hb : ¬ Rt.vld bn bd) :
    Calls Tryd.prog 9 #[.agg #[.int .i64 an, .int .i64 ad], .agg #[.int .i64 bn, .int .i64 bd]] w fun e w' => e = .returned (.tuple #[.agg #[.int .i64 0, .int .i64 0], .int .i64 8]) ∧ Below w.heap.size w w' := by
  have A0 := ((RatAt.new w an ad 23).alloc (.cells #[.int .i64 bn, .int .i64 bd] 23)).alloc (.cells #[.int .i64 0, .int .i64 0] 23)
  have B0 := (RatAt.new1 w (.cells #[.int .i64 an, .int .i64 ad] 23) bn bd 23).alloc (.cells #[.int .i64 0, .int .i64 0] 23)
  have Z0 := RatAt.new2 w (.cells #[.int .i64 an, .int .i64 ad] 23) (.cells #[.int .i64 bn, .int .i64 bd] 23) 0 0 23
  have L0 := below3 w (.cells #[.int .i64 an, .int .i64 ad] 23) (.cells #[.int .i64 bn, .int .i64 bd] 23) (.cells #[.int .i64 0, .int .i64 0] 23)
  go_enter Tryd.func9, Tryd.ntmps9
  go_wp2_with fail
  refine (valid_yes an ad _ ha).mono ?_
  rintro e w1 ⟨rfl, b1⟩
  have A1 := A0.below b1
  have B1 := B0.below b1
  have Z1 := Z0.below b1
  have L1 := bstep L0 b1
  have ⟨a0, a1, _, _⟩ := A1
  have ⟨c0, c1, _, _⟩ := B1
  have ⟨z0, z1, k0, k1⟩ := Z1
  go_wp2_with fail
  refine (valid_no bn bd _ ib.1 ib.2 hb).mono ?_
  rintro e w2 ⟨rfl, b2⟩
  have A2 := A1.below b2
  have B2 := B1.below b2
  have Z2 := Z1.below b2
  have L2 := bstep L1 b2
  clear a0 a1 c0 c1 z0 z1 k0 k1
  have ⟨a0, a1, _, _⟩ := A2
  have ⟨c0, c1, _, _⟩ := B2
  have ⟨z0, z1, k0, k1⟩ := Z2
  go_wp2_with fail
  exact bodyPost_ret (v := .tuple #[.agg #[.int .i64 0, .int .i64 0], .int .i64 8]) (by simp [results, Tryd.results9, go_sem, z0, z1]) rfl ⟨rfl, (L2.setCell (by simp <;> omega) _).setCell (by simp <;> omega) _⟩

set_option maxHeartbeats 800000 in
theorem Add_good (an ad bn bd : Int) (w : World) (ha : Rt.vld an ad) (hb : Rt.vld bn bd) : Calls Tryd.prog 9 #[.agg #[.int .i64 an, .int .i64 ad], .agg #[.int .i64 bn, .int .i64 bd]] w (Ret3 (Rt.sumS an ad bn bd) w) := by
  have r1 := hb.2.2.1
  have r2 := hb.2.2.2.1
  have r3 := hb.1
  have r4 := hb.2.1
  have A0 := ((RatAt.new w an ad 23).alloc (.cells #[.int .i64 bn, .int .i64 bd] 23)).alloc (.cells #[.int .i64 0, .int .i64 0] 23)
  have B0 := (RatAt.new1 w (.cells #[.int .i64 an, .int .i64 ad] 23) bn bd 23).alloc (.cells #[.int .i64 0, .int .i64 0] 23)
  have Z0 := RatAt.new2 w (.cells #[.int .i64 an, .int .i64 ad] 23) (.cells #[.int .i64 bn, .int .i64 bd] 23) 0 0 23
  have L0 := below3 w (.cells #[.int .i64 an, .int .i64 ad] 23) (.cells #[.int .i64 bn, .int .i64 bd] 23) (.cells #[.int .i64 0, .int .i64 0] 23)
  go_enter Tryd.func9, Tryd.ntmps9
  go_wp2_with fail
  refine (valid_yes an ad _ ha).mono ?_
  rintro e w1 ⟨rfl, b1⟩
  have A1 := A0.below b1
  have B1 := B0.below b1
  have Z1 := Z0.below b1
  have L1 := bstep L0 b1
  have ⟨a0, a1, _, _⟩ := A1
  have ⟨c0, c1, _, _⟩ := B1
  have ⟨z0, z1, k0, k1⟩ := Z1
  go_wp2_with fail
  refine (valid_yes bn bd _ hb).mono ?_
  rintro e w2 ⟨rfl, b2⟩
  have A2 := A1.below b2
  have B2 := B1.below b2
  have Z2 := Z1.below b2
  have L2 := bstep L1 b2
  clear a0 a1 c0 c1 z0 z1 k0 k1
  have ⟨a0, a1, _, _⟩ := A2
  have ⟨c0, c1, _, _⟩ := B2
  have ⟨z0, z1, k0, k1⟩ := Z2
  go_wp2_with fail
  refine (sum_any an ad bn bd _ ha hb).mono ?_
  rintro e w3 ⟨rfl, b3⟩
  have A3 := A2.below b3
  have B3 := B2.below b3
  have Z3 := Z2.below b3
  have L3 := bstep L2 b3
  clear a0 a1 c0 c1 z0 z1 k0 k1
  have ⟨a0, a1, _, _⟩ := A3
  have ⟨c0, c1, _, _⟩ := B3
  have ⟨z0, z1, k0, k1⟩ := Z3
  go_wp2_with fail
  exact bodyPost_ret (v := .tuple #[.agg #[.int .i64 (Rt.sumS an ad bn bd).1, .int .i64 (Rt.sumS an ad bn bd).2.1], .int .i64 (Rt.sumS an ad bn bd).2.2]) (by simp [results, Tryd.results9, go_sem, z0, z1]) rfl ⟨rfl, (L3.setCell (by simp <;> omega) _).setCell (by simp <;> omega) _⟩

set_option maxHeartbeats 800000 in
theorem Sub_bad1 (an ad bn bd : Int) (w : World) (ia : I64 an ∧ I64 ad) (ha : ¬ Rt.vld an ad) :
    Calls Tryd.prog 11 #[.agg #[.int .i64 an, .int .i64 ad], .agg #[.int .i64 bn, .int .i64 bd]] w fun e w' => e = .returned (.tuple #[.agg #[.int .i64 0, .int .i64 0], .int .i64 8]) ∧ Below w.heap.size w w' := by
  have A0 := ((RatAt.new w an ad 23).alloc (.cells #[.int .i64 bn, .int .i64 bd] 23)).alloc (.cells #[.int .i64 0, .int .i64 0] 23)
  have B0 := (RatAt.new1 w (.cells #[.int .i64 an, .int .i64 ad] 23) bn bd 23).alloc (.cells #[.int .i64 0, .int .i64 0] 23)
  have Z0 := RatAt.new2 w (.cells #[.int .i64 an, .int .i64 ad] 23) (.cells #[.int .i64 bn, .int .i64 bd] 23) 0 0 23
  have L0 := below3 w (.cells #[.int .i64 an, .int .i64 ad] 23) (.cells #[.int .i64 bn, .int .i64 bd] 23) (.cells #[.int .i64 0, .int .i64 0] 23)
  go_enter Tryd.func11, Tryd.ntmps11
  go_wp2_with fail
  refine (valid_no an ad _ ia.1 ia.2 ha).mono ?_
  rintro e w1 ⟨rfl, b1⟩
  have A1 := A0.below b1
  have B1 := B0.below b1
  have Z1 := Z0.below b1
  have L1 := bstep L0 b1
  have ⟨a0, a1, _, _⟩ := A1
  have ⟨c0, c1, _, _⟩ := B1
  have ⟨z0, z1, k0, k1⟩ := Z1
  go_wp2_with fail
  exact bodyPost_ret (v := .tuple #[.agg #[.int .i64 0, .int .i64 0], .int .i64 8]) (by simp [results, Tryd.results11, go_sem, z0, z1]) rfl ⟨rfl, (L1.setCell (by simp <;> omega) _).setCell (by simp <;> omega) _⟩

set_option maxHeartbeats 800000 in
theorem Sub_bad2 (an ad bn bd : Int) (w : World) (ib : I64 bn ∧ I64 bd) (ha : Rt.vld an ad) (hb : ¬ Rt.vld bn bd) :
    Calls Tryd.prog 11 #[.agg #[.int .i64 an, .int .i64 ad], .agg #[.int .i64 bn, .int .i64 bd]] w fun e w' => e = .returned (.tuple #[.agg #[.int .i64 0, .int .i64 0], .int .i64 8]) ∧ Below w.heap.size w w' := by
  have A0 := ((RatAt.new w an ad 23).alloc (.cells #[.int .i64 bn, .int .i64 bd] 23)).alloc (.cells #[.int .i64 0, .int .i64 0] 23)
  have B0 := (RatAt.new1 w (.cells #[.int .i64 an, .int .i64 ad] 23) bn bd 23).alloc (.cells #[.int .i64 0, .int .i64 0] 23)
  have Z0 := RatAt.new2 w (.cells #[.int .i64 an, .int .i64 ad] 23) (.cells #[.int .i64 bn, .int .i64 bd] 23) 0 0 23
  have L0 := below3 w (.cells #[.int .i64 an, .int .i64 ad] 23) (.cells #[.int .i64 bn, .int .i64 bd] 23) (.cells #[.int .i64 0, .int .i64 0] 23)
  go_enter Tryd.func11, Tryd.ntmps11
  go_wp2_with fail
  refine (valid_yes an ad _ ha).mono ?_
  rintro e w1 ⟨rfl, b1⟩
  have A1 := A0.below b1
  have B1 := B0.below b1
  have Z1 := Z0.below b1
  have L1 := bstep L0 b1
  have ⟨a0, a1, _, _⟩ := A1
  have ⟨c0, c1, _, _⟩ := B1
  have ⟨z0, z1, k0, k1⟩ := Z1
  go_wp2_with fail
  refine (valid_no bn bd _ ib.1 ib.2 hb).mono ?_
  rintro e w2 ⟨rfl, b2⟩
  have A2 := A1.below b2
  have B2 := B1.below b2
  have Z2 := Z1.below b2
  have L2 := bstep L1 b2
  clear a0 a1 c0 c1 z0 z1 k0 k1
  have ⟨a0, a1, _, _⟩ := A2
  have ⟨c0, c1, _, _⟩ := B2
  have ⟨z0, z1, k0, k1⟩ := Z2
  go_wp2_with fail
  exact bodyPost_ret (v := .tuple #[.agg #[.int .i64 0, .int .i64 0], .int .i64 8]) (by simp [results, Tryd.results11, go_sem, z0, z1]) rfl ⟨rfl, (L2.setCell (by simp <;> omega) _).setCell (by simp <;> omega) _⟩

set_option maxHeartbeats 800000 in
theorem Sub_good (an ad bn bd : Int) (w : World) (ha : Rt.vld an ad) (hb : Rt.vld bn bd) : Calls Tryd.prog 11 #[.agg #[.int .i64 an, .int .i64 ad], .agg #[.int .i64 bn, .int .i64 bd]] w (Ret3 (Rt.sumS an ad (-bn) bd) w) := by
  have r1 := hb.2.2.1
  have r2 := hb.2.2.2.1
  have r3 := hb.1
  have r4 := hb.2.1
  have A0 := ((RatAt.new w an ad 23).alloc (.cells #[.int .i64 bn, .int .i64 bd] 23)).alloc (.cells #[.int .i64 0, .int .i64 0] 23)
  have B0 := (RatAt.new1 w (.cells #[.int .i64 an, .int .i64 ad] 23) bn bd 23).alloc (.cells #[.int .i64 0, .int .i64 0] 23)
  have Z0 := RatAt.new2 w (.cells #[.int .i64 an, .int .i64 ad] 23) (.cells #[.int .i64 bn, .int .i64 bd] 23) 0 0 23
  have L0 := below3 w (.cells #[.int .i64 an, .int .i64 ad] 23) (.cells #[.int .i64 bn, .int .i64 bd] 23) (.cells #[.int .i64 0, .int .i64 0] 23)
  go_enter Tryd.func11, Tryd.ntmps11
  go_wp2_with fail
  refine (valid_yes an ad _ ha).mono ?_
  rintro e w1 ⟨rfl, b1⟩
  have A1 := A0.below b1
  have B1 := B0.below b1
  have Z1 := Z0.below b1
  have L1 := bstep L0 b1
  have ⟨a0, a1, _, _⟩ := A1
  have ⟨c0, c1, _, _⟩ := B1
  have ⟨z0, z1, k0, k1⟩ := Z1
  go_wp2_with fail
  refine (valid_yes bn bd _ hb).mono ?_
  rintro e w2 ⟨rfl, b2⟩
  have A2 := A1.below b2
  have B2 := B1.below b2
  have Z2 := Z1.below b2
  have L2 := bstep L1 b2
  clear a0 a1 c0 c1 z0 z1 k0 k1
  have ⟨a0, a1, _, _⟩ := A2
  have ⟨c0, c1, _, _⟩ := B2
  have ⟨z0, z1, k0, k1⟩ := Z2
  go_wp2_with fail
  refine (sum_any an ad (-bn) bd _ ha (Rt.neg_vld hb)).mono ?_
  rintro e w3 ⟨rfl, b3⟩
  have A3 := A2.below b3
  have B3 := B2.below b3
  have Z3 := Z2.below b3
  have L3 := bstep L2 b3
  clear a0 a1 c0 c1 z0 z1 k0 k1
  have ⟨a0, a1, _, _⟩ := A3
  have ⟨c0, c1, _, _⟩ := B3
  have ⟨z0, z1, k0, k1⟩ := Z3
  go_wp2_with fail
  exact bodyPost_ret (v := .tuple #[.agg #[.int .i64 (Rt.sumS an ad (-bn) bd).1, .int .i64 (Rt.sumS an ad (-bn) bd).2.1], .int .i64 (Rt.sumS an ad (-bn) bd).2.2]) (by simp [results, Tryd.results11, go_sem, z0, z1]) rfl ⟨rfl, (L3.setCell (by simp <;> omega) _).setCell (by simp <;> omega) _⟩

set_option maxHeartbeats 800000 in
theorem Mul_bad1 (an ad bn bd : Int) (w : World) (ia : I64 an ∧ I64 ad) (ha : ¬ Rt.vld an ad) :
    Calls Tryd.prog 13 #[.agg #[.int .i64 an, .int .i64 ad], .agg #[.int .i64 bn, .int .i64 bd]] w fun e w' => e = .returned (.tuple #[.agg #[.int .i64 0, .int .i64 0], .int .i64 8]) ∧ Below w.heap.size w w' := by
  have A0 := ((RatAt.new w an ad 23).alloc (.cells #[.int .i64 bn, .int .i64 bd] 23)).alloc (.cells #[.int .i64 0, .int .i64 0] 23)
  have B0 := (RatAt.new1 w (.cells #[.int .i64 an, .int .i64 ad] 23) bn bd 23).alloc (.cells #[.int .i64 0, .int .i64 0] 23)
  have Z0 := RatAt.new2 w (.cells #[.int .i64 an, .int .i64 ad] 23) (.cells #[.int .i64 bn, .int .i64 bd] 23) 0 0 23
  have L0 := below3 w (.cells #[.int .i64 an, .int .i64 ad] 23) (.cells #[.int .i64 bn, .int .i64 bd] 23) (.cells #[.int .i64 0, .int .i64 0] 23)
  go_enter Tryd.func13, Tryd.ntmps13
  go_wp2_with fail
  refine (valid_no an ad _ ia.1 ia.2 ha).mono ?_
  rintro e w1 ⟨rfl, b1⟩
  have A1 := A0.below b1
  have B1 := B0.below b1
  have Z1 := Z0.below b1
  have L1 := bstep L0 b1
  have ⟨a0, a1, _, _⟩ := A1
  have ⟨c0, c1, _, _⟩ := B1
  have ⟨z0, z1, k0, k1⟩ := Z1
  go_wp2_with fail
  exact bodyPost_ret (v := .tuple #[.agg #[.int .i64 0, .int .i64 0], .int .i64 8]) (by simp [results, Tryd.results13, go_sem, z0, z1]) rfl ⟨rfl, (L1.setCell (by simp <;> omega) _).setCell (by simp <;> omega) _⟩

set_option maxHeartbeats 800000 in
theorem Mul_bad2 (an ad bn bd : Int) (w : World) (ib : I64 bn ∧ I64 bd) (ha : Rt.vld an ad) (hb : ¬ Rt.vld bn bd) :
    Calls Tryd.prog 13 #[.agg #[.int .i64 an, .int .i64 ad], .agg #[.int .i64 bn, .int .i64 bd]] w fun e w' => e = .returned (.tuple #[.agg #[.int .i64 0, .int .i64 0], .int .i64 8]) ∧ Below w.heap.size w w' := by
  have A0 := ((RatAt.new w an ad 23).alloc (.cells #[.int .i64 bn, .int .i64 bd] 23)).alloc (.cells #[.int .i64 0, .int .i64 0] 23)
  have B0 := (RatAt.new1 w (.cells #[.int .i64 an, .int .i64 ad] 23) bn bd 23).alloc (.cells #[.int .i64 0, .int .i64 0] 23)
  have Z0 := RatAt.new2 w (.cells #[.int .i64 an, .int .i64 ad] 23) (.cells #[.int .i64 bn, .int .i64 bd] 23) 0 0 23
  have L0 := below3 w (.cells #[.int .i64 an, .int .i64 ad] 23) (.cells #[.int .i64 bn, .int .i64 bd] 23) (.cells #[.int .i64 0, .int .i64 0] 23)
  go_enter Tryd.func13, Tryd.ntmps13
  go_wp2_with fail
  refine (valid_yes an ad _ ha).mono ?_
  rintro e w1 ⟨rfl, b1⟩
  have A1 := A0.below b1
  have B1 := B0.below b1
  have Z1 := Z0.below b1
  have L1 := bstep L0 b1
  have ⟨a0, a1, _, _⟩ := A1
  have ⟨c0, c1, _, _⟩ := B1
  have ⟨z0, z1, k0, k1⟩ := Z1
  go_wp2_with fail
  refine (valid_no bn bd _ ib.1 ib.2 hb).mono ?_
  rintro e w2 ⟨rfl, b2⟩
  have A2 := A1.below b2
  have B2 := B1.below b2
  have Z2 := Z1.below b2
  have L2 := bstep L1 b2
  clear a0 a1 c0 c1 z0 z1 k0 k1
  have ⟨a0, a1, _, _⟩ := A2
  have ⟨c0, c1, _, _⟩ := B2
  have ⟨z0, z1, k0, k1⟩ := Z2
  go_wp2_with fail
  exact bodyPost_ret (v := .tuple #[.agg #[.int .i64 0, .int .i64 0], .int .i64 8]) (by simp [results, Tryd.results13, go_sem, z0, z1]) rfl ⟨rfl, (L2.setCell (by simp <;> omega) _).setCell (by simp <;> omega) _⟩

set_option maxHeartbeats 800000 in
theorem Mul_good (an ad bn bd : Int) (w : World) (ha : Rt.vld an ad) (hb : Rt.vld bn bd) : Calls Tryd.prog 13 #[.agg #[.int .i64 an, .int .i64 ad], .agg #[.int .i64 bn, .int .i64 bd]] w (Ret3 (Rt.prodS an ad bn bd) w) := by
  have r1 := hb.2.2.1
  have r2 := hb.2.2.2.1
  have r3 := hb.1
  have r4 := hb.2.1
  have A0 := ((RatAt.new w an ad 23).alloc (.cells #[.int .i64 bn, .int .i64 bd] 23)).alloc (.cells #[.int .i64 0, .int .i64 0] 23)
  have B0 := (RatAt.new1 w (.cells #[.int .i64 an, .int .i64 ad] 23) bn bd 23).alloc (.cells #[.int .i64 0, .int .i64 0] 23)
  have Z0 := RatAt.new2 w (.cells #[.int .i64 an, .int .i64 ad] 23) (.cells #[.int .i64 bn, .int .i64 bd] 23) 0 0 23
  have L0 := below3 w (.cells #[.int .i64 an, .int .i64 ad] 23) (.cells #[.int .i64 bn, .int .i64 bd] 23) (.cells #[.int .i64 0, .int .i64 0] 23)
  go_enter Tryd.func13, Tryd.ntmps13
  go_wp2_with fail
  refine (valid_yes an ad _ ha).mono ?_
  rintro e w1 ⟨rfl, b1⟩
  have A1 := A0.below b1
  have B1 := B0.below b1
  have Z1 := Z0.below b1
  have L1 := bstep L0 b1
  have ⟨a0, a1, _, _⟩ := A1
  have ⟨c0, c1, _, _⟩ := B1
  have ⟨z0, z1, k0, k1⟩ := Z1
  go_wp2_with fail
  refine (valid_yes bn bd _ hb).mono ?_
  rintro e w2 ⟨rfl, b2⟩
  have A2 := A1.below b2
  have B2 := B1.below b2
  have Z2 := Z1.below b2
  have L2 := bstep L1 b2
  clear a0 a1 c0 c1 z0 z1 k0 k1
  have ⟨a0, a1, _, _⟩ := A2
  have ⟨c0, c1, _, _⟩ := B2
  have ⟨z0, z1, k0, k1⟩ := Z2
  go_wp2_with fail
  refine (prod_any an ad bn bd _ ha.1 ha.2.1 ⟨ha.2.2.1, ha.2.2.2.1⟩ hb.1 hb.2.1 ⟨hb.2.2.1, hb.2.2.2.1⟩).mono ?_
  rintro e w3 ⟨rfl, b3⟩
  have A3 := A2.below b3
  have B3 := B2.below b3
  have Z3 := Z2.below b3
  have L3 := bstep L2 b3
  clear a0 a1 c0 c1 z0 z1 k0 k1
  have ⟨a0, a1, _, _⟩ := A3
  have ⟨c0, c1, _, _⟩ := B3
  have ⟨z0, z1, k0, k1⟩ := Z3
  go_wp2_with fail
  exact bodyPost_ret (v := .tuple #[.agg #[.int .i64 (Rt.prodS an ad bn bd).1, .int .i64 (Rt.prodS an ad bn bd).2.1], .int .i64 (Rt.prodS an ad bn bd).2.2]) (by simp [results, Tryd.results13, go_sem, z0, z1]) rfl ⟨rfl, (L3.setCell (by simp <;> omega) _).setCell (by simp <;> omega) _⟩

set_option maxHeartbeats 800000 in
theorem Div_bad1 (an ad bn bd : Int) (w : World) (ia : I64 an ∧ I64 ad) (ha : ¬ Rt.vld an ad) :
    Calls Tryd.prog 15 #[.agg #[.int .i64 an, .int .i64 ad], .agg #[.int .i64 bn, .int .i64 bd]] w fun e w' => e = .returned (.tuple #[.agg #[.int .i64 0, .int .i64 0], .int .i64 8]) ∧ Below w.heap.size w w' := by
  have A0 := ((RatAt.new w an ad 23).alloc (.cells #[.int .i64 bn, .int .i64 bd] 23)).alloc (.cells #[.int .i64 0, .int .i64 0] 23)
  have B0 := (RatAt.new1 w (.cells #[.int .i64 an, .int .i64 ad] 23) bn bd 23).alloc (.cells #[.int .i64 0, .int .i64 0] 23)
  have Z0 := RatAt.new2 w (.cells #[.int .i64 an, .int .i64 ad] 23) (.cells #[.int .i64 bn, .int .i64 bd] 23) 0 0 23
  have L0 := below3 w (.cells #[.int .i64 an, .int .i64 ad] 23) (.cells #[.int .i64 bn, .int .i64 bd] 23) (.cells #[.int .i64 0, .int .i64 0] 23)
  go_enter Tryd.func15, Tryd.ntmps15
  go_wp2_with fail
  refine (valid_no an ad _ ia.1 ia.2 ha).mono ?_
  rintro e w1 ⟨rfl, b1⟩
  have A1 := A0.below b1
  have B1 := B0.below b1
  have Z1 := Z0.below b1
  have L1 := bstep L0 b1
  have ⟨a0, a1, _, _⟩ := A1
  have ⟨c0, c1, _, _⟩ := B1
  have ⟨z0, z1, k0, k1⟩ := Z1
  go_wp2_with fail
  exact bodyPost_ret (v := .tuple #[.agg #[.int .i64 0, .int .i64 0], .int .i64 8]) (by simp [results, Tryd.results15, go_sem, z0, z1]) rfl ⟨rfl, (L1.setCell (by simp <;> omega) _).setCell (by simp <;> omega) _⟩

set_option maxHeartbeats 800000 in
theorem Div_bad2 (an ad bn bd : Int) (w : World) (ib : I64 bn ∧ I64 bd) (ha : Rt.vld an ad) (hb : ¬ Rt.vld bn bd) :
    Calls Tryd.prog 15 #[.agg #[.int .i64 an, .int .i64 ad], .agg #[.int .i64 bn, .int .i64 bd]] w fun e w' => e = .returned (.tuple #[.agg #[.int .i64 0, .int .i64 0], .int .i64 8]) ∧ Below w.heap.size w w' := by
  have A0 := ((RatAt.new w an ad 23).alloc (.cells #[.int .i64 bn, .int .i64 bd] 23)).alloc (.cells #[.int .i64 0, .int .i64 0] 23)
  have B0 := (RatAt.new1 w (.cells #[.int .i64 an, .int .i64 ad] 23) bn bd 23).alloc (.cells #[.int .i64 0, .int .i64 0] 23)
  have Z0 := RatAt.new2 w (.cells #[.int .i64 an, .int .i64 ad] 23) (.cells #[.int .i64 bn, .int .i64 bd] 23) 0 0 23
  have L0 := below3 w (.cells #[.int .i64 an, .int .i64 ad] 23) (.cells #[.int .i64 bn, .int .i64 bd] 23) (.cells #[.int .i64 0, .int .i64 0] 23)
  go_enter Tryd.func15, Tryd.ntmps15
  go_wp2_with fail
  refine (valid_yes an ad _ ha).mono ?_
  rintro e w1 ⟨rfl, b1⟩
  have A1 := A0.below b1
  have B1 := B0.below b1
  have Z1 := Z0.below b1
  have L1 := bstep L0 b1
  have ⟨a0, a1, _, _⟩ := A1
  have ⟨c0, c1, _, _⟩ := B1
  have ⟨z0, z1, k0, k1⟩ := Z1
  go_wp2_with fail
  refine (valid_no bn bd _ ib.1 ib.2 hb).mono ?_
  rintro e w2 ⟨rfl, b2⟩
  have A2 := A1.below b2
  have B2 := B1.below b2
  have Z2 := Z1.below b2
  have L2 := bstep L1 b2
  clear a0 a1 c0 c1 z0 z1 k0 k1
  have ⟨a0, a1, _, _⟩ := A2
  have ⟨c0, c1, _, _⟩ := B2
  have ⟨z0, z1, k0, k1⟩ := Z2
  go_wp2_with fail
  exact bodyPost_ret (v := .tuple #[.agg #[.int .i64 0, .int .i64 0], .int .i64 8]) (by simp [results, Tryd.results15, go_sem, z0, z1]) rfl ⟨rfl, (L2.setCell (by simp <;> omega) _).setCell (by simp <;> omega) _⟩

set_option maxHeartbeats 800000 in
theorem DivP_good (an ad bn bd : Int) (w : World) (ha : Rt.vld an ad) (hb : Rt.vld bn bd) (h0 : 0 < bn) : Calls Tryd.prog 15 #[.agg #[.int .i64 an, .int .i64 ad], .agg #[.int .i64 bn, .int .i64 bd]] w (Ret3 (Rt.prodS an ad bd bn) w) := by
  have r1 := hb.2.2.1
  have r2 := hb.2.2.2.1
  have r3 := hb.1
  have r4 := hb.2.1
  have hz : ((bn : Int) == 0) = false := by simp; omega
  have A0 := ((RatAt.new w an ad 23).alloc (.cells #[.int .i64 bn, .int .i64 bd] 23)).alloc (.cells #[.int .i64 0, .int .i64 0] 23)
  have B0 := (RatAt.new1 w (.cells #[.int .i64 an, .int .i64 ad] 23) bn bd 23).alloc (.cells #[.int .i64 0, .int .i64 0] 23)
  have Z0 := RatAt.new2 w (.cells #[.int .i64 an, .int .i64 ad] 23) (.cells #[.int .i64 bn, .int .i64 bd] 23) 0 0 23
  have L0 := below3 w (.cells #[.int .i64 an, .int .i64 ad] 23) (.cells #[.int .i64 bn, .int .i64 bd] 23) (.cells #[.int .i64 0, .int .i64 0] 23)
  go_enter Tryd.func15, Tryd.ntmps15
  go_wp2_with fail
  refine (valid_yes an ad _ ha).mono ?_
  rintro e w1 ⟨rfl, b1⟩
  have A1 := A0.below b1
  have B1 := B0.below b1
  have Z1 := Z0.below b1
  have L1 := bstep L0 b1
  have ⟨a0, a1, _, _⟩ := A1
  have ⟨c0, c1, _, _⟩ := B1
  have ⟨z0, z1, k0, k1⟩ := Z1
  go_wp2_with fail
  refine (valid_yes bn bd _ hb).mono ?_
  rintro e w2 ⟨rfl, b2⟩
  have A2 := A1.below b2
  have B2 := B1.below b2
  have Z2 := Z1.below b2
  have L2 := bstep L1 b2
  clear a0 a1 c0 c1 z0 z1 k0 k1
  have ⟨a0, a1, _, _⟩ := A2
  have ⟨c0, c1, _, _⟩ := B2
  have ⟨z0, z1, k0, k1⟩ := Z2
  go_wp2_with fail
  refine (prod_any an ad bd bn _ ha.1 ha.2.1 ⟨ha.2.2.1, ha.2.2.2.1⟩ (by omega) r2 ⟨by omega, r4⟩).mono ?_
  rintro e w3 ⟨rfl, b3⟩
  have A3 := A2.below b3
  have B3 := B2.below b3
  have Z3 := Z2.below b3
  have L3 := bstep L2 b3
  clear a0 a1 c0 c1 z0 z1 k0 k1
  have ⟨a0, a1, _, _⟩ := A3
  have ⟨c0, c1, _, _⟩ := B3
  have ⟨z0, z1, k0, k1⟩ := Z3
  go_wp2_with fail
  exact bodyPost_ret (v := .tuple #[.agg #[.int .i64 (Rt.prodS an ad bd bn).1, .int .i64 (Rt.prodS an ad bd bn).2.1], .int .i64 (Rt.prodS an ad bd bn).2.2]) (by simp [results, Tryd.results15, go_sem, z0, z1]) rfl ⟨rfl, (L3.setCell (by simp <;> omega) _).setCell (by simp <;> omega) _⟩

set_option maxHeartbeats 800000 in
theorem DivN_good (an ad bn bd : Int) (w : World) (ha : Rt.vld an ad) (hb : Rt.vld bn bd) (h0 : bn < 0) : Calls Tryd.prog 15 #[.agg #[.int .i64 an, .int .i64 ad], .agg #[.int .i64 bn, .int .i64 bd]] w (Ret3 (Rt.prodS an ad (-bd) (-bn)) w) := by
  have r1 := hb.2.2.1
  have r2 := hb.2.2.2.1
  have r3 := hb.1
  have r4 := hb.2.1
  have hz : ((bn : Int) == 0) = false := by simp; omega
  have A0 := ((RatAt.new w an ad 23).alloc (.cells #[.int .i64 bn, .int .i64 bd] 23)).alloc (.cells #[.int .i64 0, .int .i64 0] 23)
  have B0 := (RatAt.new1 w (.cells #[.int .i64 an, .int .i64 ad] 23) bn bd 23).alloc (.cells #[.int .i64 0, .int .i64 0] 23)
  have Z0 := RatAt.new2 w (.cells #[.int .i64 an, .int .i64 ad] 23) (.cells #[.int .i64 bn, .int .i64 bd] 23) 0 0 23
  have L0 := below3 w (.cells #[.int .i64 an, .int .i64 ad] 23) (.cells #[.int .i64 bn, .int .i64 bd] 23) (.cells #[.int .i64 0, .int .i64 0] 23)
  go_enter Tryd.func15, Tryd.ntmps15
  go_wp2_with fail
  refine (valid_yes an ad _ ha).mono ?_
  rintro e w1 ⟨rfl, b1⟩
  have A1 := A0.below b1
  have B1 := B0.below b1
  have Z1 := Z0.below b1
  have L1 := bstep L0 b1
  have ⟨a0, a1, _, _⟩ := A1
  have ⟨c0, c1, _, _⟩ := B1
  have ⟨z0, z1, k0, k1⟩ := Z1
  go_wp2_with fail
  refine (valid_yes bn bd _ hb).mono ?_
  rintro e w2 ⟨rfl, b2⟩
  have A2 := A1.below b2
  have B2 := B1.below b2
  have Z2 := Z1.below b2
  have L2 := bstep L1 b2
  clear a0 a1 c0 c1 z0 z1 k0 k1
  have ⟨a0, a1, _, _⟩ := A2
  have ⟨c0, c1, _, _⟩ := B2
  have ⟨z0, z1, k0, k1⟩ := Z2
  go_wp2_with fail
  refine (prod_any an ad (-bd) (-bn) _ ha.1 ha.2.1 ⟨ha.2.2.1, ha.2.2.2.1⟩ (by omega) (by omega) ⟨by omega, by omega⟩).mono ?_
  rintro e w3 ⟨rfl, b3⟩
  have A3 := A2.below b3
  have B3 := B2.below b3
  have Z3 := Z2.below b3
  have L3 := bstep L2 b3
  clear a0 a1 c0 c1 z0 z1 k0 k1
  have ⟨a0, a1, _, _⟩ := A3
  have ⟨c0, c1, _, _⟩ := B3
  have ⟨z0, z1, k0, k1⟩ := Z3
  go_wp2_with fail
  exact bodyPost_ret (v := .tuple #[.agg #[.int .i64 (Rt.prodS an ad (-bd) (-bn)).1, .int .i64 (Rt.prodS an ad (-bd) (-bn)).2.1], .int .i64 (Rt.prodS an ad (-bd) (-bn)).2.2]) (by simp [results, Tryd.results15, go_sem, z0, z1]) rfl ⟨rfl, (L3.setCell (by simp <;> omega) _).setCell (by simp <;> omega) _⟩

set_option maxHeartbeats 800000 in
theorem DivZ_good (an ad bd : Int) (w : World) (ha : Rt.vld an ad) (hb : Rt.vld 0 bd) : Calls Tryd.prog 15 #[.agg #[.int .i64 an, .int .i64 ad], .agg #[.int .i64 0, .int .i64 bd]] w (Ret3 (0, 0, 1) w) := by
  have A0 := ((RatAt.new w an ad 23).alloc (.cells #[.int .i64 0, .int .i64 bd] 23)).alloc (.cells #[.int .i64 0, .int .i64 0] 23)
  have B0 := (RatAt.new1 w (.cells #[.int .i64 an, .int .i64 ad] 23) 0 bd 23).alloc (.cells #[.int .i64 0, .int .i64 0] 23)
  have Z0 := RatAt.new2 w (.cells #[.int .i64 an, .int .i64 ad] 23) (.cells #[.int .i64 0, .int .i64 bd] 23) 0 0 23
  have L0 := below3 w (.cells #[.int .i64 an, .int .i64 ad] 23) (.cells #[.int .i64 0, .int .i64 bd] 23) (.cells #[.int .i64 0, .int .i64 0] 23)
  go_enter Tryd.func15, Tryd.ntmps15
  go_wp2_with fail
  refine (valid_yes an ad _ ha).mono ?_
  rintro e w1 ⟨rfl, b1⟩
  have A1 := A0.below b1
  have B1 := B0.below b1
  have Z1 := Z0.below b1
  have L1 := bstep L0 b1
  have ⟨a0, a1, _, _⟩ := A1
  have ⟨c0, c1, _, _⟩ := B1
  have ⟨z0, z1, k0, k1⟩ := Z1
  go_wp2_with fail
  refine (valid_yes 0 bd _ hb).mono ?_
  rintro e w2 ⟨rfl, b2⟩
  have A2 := A1.below b2
  have B2 := B1.below b2
  have Z2 := Z1.below b2
  have L2 := bstep L1 b2
  clear a0 a1 c0 c1 z0 z1 k0 k1
  have ⟨a0, a1, _, _⟩ := A2
  have ⟨c0, c1, _, _⟩ := B2
  have ⟨z0, z1, k0, k1⟩ := Z2
  go_wp2_with fail
  exact bodyPost_ret (v := .tuple #[.agg #[.int .i64 0, .int .i64 0], .int .i64 1]) (by simp [results, Tryd.results15, go_sem, z0, z1]) rfl ⟨rfl, (L2.setCell (by simp <;> omega) _).setCell (by simp <;> omega) _⟩

theorem Add_any (an ad bn bd : Int) (w : World) (ia : I64 an ∧ I64 ad) (ib : I64 bn ∧ I64 bd) : Calls Tryd.prog 9 #[.agg #[.int .i64 an, .int .i64 ad], .agg #[.int .i64 bn, .int .i64 bd]] w (Ret3 (Rt.addS an ad bn bd) w) := by
  unfold Rt.addS
  by_cases ha : Rt.vld an ad
  · by_cases hb : Rt.vld bn bd
    · rw [if_pos ⟨ha, hb⟩]
      exact Add_good an ad bn bd w ha hb
    · rw [if_neg (fun h => hb h.2)]; exact Add_bad2 an ad bn bd w ib ha hb
  · rw [if_neg (fun h => ha h.1)]; exact Add_bad1 an ad bn bd w ia ha

theorem Sub_any (an ad bn bd : Int) (w : World) (ia : I64 an ∧ I64 ad) (ib : I64 bn ∧ I64 bd) : Calls Tryd.prog 11 #[.agg #[.int .i64 an, .int .i64 ad], .agg #[.int .i64 bn, .int .i64 bd]] w (Ret3 (Rt.subS an ad bn bd) w) := by
  unfold Rt.subS
  by_cases ha : Rt.vld an ad
  · by_cases hb : Rt.vld bn bd
    · rw [if_pos ⟨ha, hb⟩]
      exact Sub_good an ad bn bd w ha hb
    · rw [if_neg (fun h => hb h.2)]; exact Sub_bad2 an ad bn bd w ib ha hb
  · rw [if_neg (fun h => ha h.1)]; exact Sub_bad1 an ad bn bd w ia ha

theorem Mul_any (an ad bn bd : Int) (w : World) (ia : I64 an ∧ I64 ad) (ib : I64 bn ∧ I64 bd) : Calls Tryd.prog 13 #[.agg #[.int .i64 an, .int .i64 ad], .agg #[.int .i64 bn, .int .i64 bd]] w (Ret3 (Rt.mulS an ad bn bd) w) := by
  unfold Rt.mulS
  by_cases ha : Rt.vld an ad
  · by_cases hb : Rt.vld bn bd
    · rw [if_pos ⟨ha, hb⟩]
      exact Mul_good an ad bn bd w ha hb
    · rw [if_neg (fun h => hb h.2)]; exact Mul_bad2 an ad bn bd w ib ha hb
  · rw [if_neg (fun h => ha h.1)]; exact Mul_bad1 an ad bn bd w ia ha

theorem Div_any (an ad bn bd : Int) (w : World) (ia : I64 an ∧ I64 ad) (ib : I64 bn ∧ I64 bd) : Calls Tryd.prog 15 #[.agg #[.int .i64 an, .int .i64 ad], .agg #[.int .i64 bn, .int .i64 bd]] w (Ret3 (Rt.divS an ad bn bd) w) := by
  unfold Rt.divS
  by_cases ha : Rt.vld an ad
  · by_cases hb : Rt.vld bn bd
    · rw [if_pos ⟨ha, hb⟩]
      by_cases h0 : bn = 0
      · subst h0
        rw [if_pos rfl]
        exact DivZ_good an ad bd w ha hb
      · rw [if_neg h0]
        by_cases hn : bn < 0
        · rw [if_pos hn]; exact DivN_good an ad bn bd w ha hb hn
        · rw [if_neg hn]; exact DivP_good an ad bn bd w ha hb (by omega)
    · rw [if_neg (fun h => hb h.2)]; exact Div_bad2 an ad bn bd w ib ha hb
  · rw [if_neg (fun h => ha h.1)]; exact Div_bad1 an ad bn bd w ia ha

end Go.Proofs.YtcannkndedlooaaDoor
