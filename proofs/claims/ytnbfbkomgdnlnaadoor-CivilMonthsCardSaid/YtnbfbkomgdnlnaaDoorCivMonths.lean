/- The law CivilMonths returns true for all numbers. -/
import Derived.Test.YtnbfbkomgdnlnaaDoorCivBack
namespace Go.Proofs.YtnbfbkomgdnlnaaDoor
open Go.RowKit
set_option linter.unusedVariables false
namespace Civ
theorem am_twice (y m a b : Int) : amY (amY y m a) (amM y m a) b = amY y m (a + b) ∧ amM (amY y m a) (amM y m a) b = amM y m (a + b) := by
  unfold amY amM; omega
theorem am_back (y m a : Int) (h1 : 1 ≤ m) (h2 : m ≤ 12) : amY (amY y m a) (amM y m a) (-a) = y ∧ amM (amY y m a) (amM y m a) (-a) = m := by
  unfold amY amM; omega
/-- The dates of these days lie far from both ends of the calendar. -/
theorem mid_year {y m d n : Int} (h : vld y m d) (hn : num y m d = 20000 + n % 20000) : 2010 ≤ y ∧ y ≤ 2100 := by
  have b := num_bd h
  rw [hn] at b
  have n1 : ny 2010 = 14610 := by decide
  have n2 : ny 2101 = 47847 := by decide
  constructor
  · by_cases c : y < 2010
    · have := ny_mono (show y + 1 ≤ 2010 by omega); omega
    · omega
  · by_cases c : 2100 < y
    · have := ny_mono (show 2101 ≤ y by omega); omega
    · omega
end Civ

theorem addm_is' {y m d n y' m' d' : Int} (hv : Civ.vld y m d) (h1 : Civ.amY y m n = y') (h2 : Civ.amM y m n = m') (h3 : min d (Civ.dim y' m') = d') (h4 : 1970 ≤ y' ∧ y' ≤ 2240) (w : World) (hT : CivT w) :
    Calls Tryd.prog 11 #[.agg #[.int .i64 y, .int .i64 m, .int .i64 d], .int .i64 n] w fun e w' => e = .returned (.tuple #[.agg #[.int .i64 y', .int .i64 m', .int .i64 d'], .int .i64 0]) ∧ Below w.heap.size w w' :=
  addm_is (Civ.vldB_iff.2 hv) h1 h2 h3 h4.1 h4.2 w hT

set_option maxHeartbeats 3200000 in
theorem months_a (n a b y0 m0 d0 xy xm zy zm yd zd bd : Int) (w : World) (hT : CivT w) (i1 : -9223372036854775808 ≤ n) (i2 : n ≤ 9223372036854775807) (i3 : -9223372036854775808 ≤ a) (i4 : a ≤ 9223372036854775807) (i5 : -9223372036854775808 ≤ b) (i6 : b ≤ 9223372036854775807)
    (hv : Civ.vld y0 m0 d0) (hn : Civ.num y0 m0 d0 = 20000 + n % 20000) (hy0 : 1970 ≤ y0 ∧ y0 ≤ 2240)
    (x1 : Hid (Civ.amY y0 m0 (a % 400 - 200) = xy)) (x2 : Hid (Civ.amM y0 m0 (a % 400 - 200) = xm)) (x3 : Hid (min d0 (Civ.dim xy xm) = d0)) (x4 : 1970 ≤ xy ∧ xy ≤ 2240) (xv : Civ.vld xy xm d0)
    (z1 : Hid (Civ.amY y0 m0 (a % 400 - 200 + (b % 400 - 200)) = zy)) (z2 : Hid (Civ.amM y0 m0 (a % 400 - 200 + (b % 400 - 200)) = zm)) (z3 : Hid (min d0 (Civ.dim zy zm) = zd)) (z4 : 1970 ≤ zy ∧ zy ≤ 2240)
    (y1 : Hid (Civ.amY xy xm (b % 400 - 200) = zy)) (y2 : Hid (Civ.amM xy xm (b % 400 - 200) = zm)) (y3 : Hid (min d0 (Civ.dim zy zm) = yd))
    (k1 : Hid (Civ.amY xy xm (-(a % 400 - 200)) = y0)) (k2 : Hid (Civ.amM xy xm (-(a % 400 - 200)) = m0)) (k3 : Hid (min d0 (Civ.dim y0 m0) = bd)) (hle : yd ≤ zd) (hd : 28 < d0) (hx : d0 ≤ Civ.dim xy xm) :
    Calls Tryd.prog 5 #[.int .i64 n, .int .i64 a, .int .i64 b] w fun e w' => e = .returned (.bool true) ∧ Below w.heap.size w w' := by
  have HN := Lib.hid hn
  clear hn
  have HV := hv
  have XV := xv
  have dd := Civ.dim_bd y0 m0
  have dx := Civ.dim_bd xy xm
  obtain ⟨v1, v2, v3, v4, v5, v6⟩ := hv
  obtain ⟨u1, u2, u3, u4, u5, u6⟩ := xv
  have g2 : decide (zd < yd) = false := by simpa using hle

  go_enter Tryd.func5, Tryd.ntmps5
  go_wp2_with fail
  refine (Mod_any n 20000 _ i1 i2 (by omega) (by omega)).mono ?_
  rintro e w' ⟨rfl, rfl⟩
  go_wp2_with fail
  refine (dateOf_yes y0 m0 d0 _ _ hT HV HN.out).mono ?_
  rintro e w1 ⟨rfl, b1⟩
  have hT1 := hT.below b1
  have A1 := DateAt.new w1 y0 m0 d0 23
  go_wp2_with fail
  refine (Mod_any a 400 _ i3 i4 (by omega) (by omega)).mono ?_
  rintro e w' ⟨rfl, rfl⟩
  go_wp2_with fail
  refine (Mod_any b 400 _ i5 i6 (by omega) (by omega)).mono ?_
  rintro e w' ⟨rfl, rfl⟩
  go_wp2_with fail
  refine (addm_is' HV x1.out x2.out x3.out x4 _ (hT1.alloc _)).mono ?_
  rintro e w2 ⟨rfl, b2⟩
  have hT2 := (hT1.alloc _).below b2
  have A2 := A1.below b2
  have X2 := DateAt.new w2 xy xm d0 23
  go_wp2_with fail
  refine (addm_is' XV y1.out y2.out y3.out z4 _ (hT2.alloc _)).mono ?_
  rintro e w3 ⟨rfl, b3⟩
  have hT3 := (hT2.alloc _).below b3
  have A3 := (A2.alloc (.cells #[.int .i64 xy, .int .i64 xm, .int .i64 d0] 23)).below b3
  have X3 := X2.below b3
  have Y3 := DateAt.new w3 zy zm yd 23
  have l31 := A3.lt
  have ⟨a0, a1, a2⟩ := A3
  go_wp2_with fail
  refine (addm_is' HV z1.out z2.out z3.out z4 _ (hT3.alloc _)).mono ?_
  rintro e w4 ⟨rfl, b4⟩
  clear a0 a1 a2
  have hT4 := (hT3.alloc _).below b4
  have A4 := (A3.alloc (.cells #[.int .i64 zy, .int .i64 zm, .int .i64 yd] 23)).below b4
  have X4 := (X3.alloc (.cells #[.int .i64 zy, .int .i64 zm, .int .i64 yd] 23)).below b4
  have Y4 := Y3.below b4
  have Z4 := DateAt.new w4 zy zm zd 23
  have l41 := A4.lt
  have l42 := X4.lt
  have ⟨a0, a1, a2⟩ := X4
  go_wp2_with fail
  refine (addm_is' XV k1.out k2.out k3.out hy0 _ (hT4.alloc _)).mono ?_
  rintro e w5 ⟨rfl, b5⟩
  clear a0 a1 a2
  have hT5 := (hT4.alloc _).below b5
  have A5 := (A4.alloc (.cells #[.int .i64 zy, .int .i64 zm, .int .i64 zd] 23)).below b5
  have X5 := (X4.alloc (.cells #[.int .i64 zy, .int .i64 zm, .int .i64 zd] 23)).below b5
  have Y5 := (Y4.alloc (.cells #[.int .i64 zy, .int .i64 zm, .int .i64 zd] 23)).below b5
  have Z5 := Z4.below b5
  have l51 := A5.lt
  have l52 := X5.lt
  have l53 := Y5.lt
  have l54 := Z5.lt
  have ⟨a0, a1, a2⟩ := A5
  have ⟨c0, c1, c2⟩ := X5
  have ⟨e0, e1, e2⟩ := Y5
  have ⟨f0, f1, f2⟩ := Z5
  go_wp2_with fail
  go_quiet ((go_at_call 19; exact qsame (dim_any _ _ _ ((hT5.alloc _).drewN _) (by omega) (by omega) (by omega) (by omega))))
  go_wp2_with fail
  refine (sane_any _ ((hT5.alloc _).drewN _)).mono ?_
  rintro e w6 ⟨rfl, b6⟩
  go_wp2_with fail
  go_ret
  exact ⟨rfl, bstep (below_drewN ((bstepA (bstepA (bstepA (bstepA b1 b2) b3) b4) b5).alloc (bstepA (bstepA (bstepA (bstepA b1 b2) b3) b4) b5).size _) _) b6⟩

set_option maxHeartbeats 3200000 in
theorem months_b (n a b y0 m0 d0 xy xm zy zm yd zd bd : Int) (w : World) (hT : CivT w) (i1 : -9223372036854775808 ≤ n) (i2 : n ≤ 9223372036854775807) (i3 : -9223372036854775808 ≤ a) (i4 : a ≤ 9223372036854775807) (i5 : -9223372036854775808 ≤ b) (i6 : b ≤ 9223372036854775807)
    (hv : Civ.vld y0 m0 d0) (hn : Civ.num y0 m0 d0 = 20000 + n % 20000) (hy0 : 1970 ≤ y0 ∧ y0 ≤ 2240)
    (x1 : Hid (Civ.amY y0 m0 (a % 400 - 200) = xy)) (x2 : Hid (Civ.amM y0 m0 (a % 400 - 200) = xm)) (x3 : Hid (min d0 (Civ.dim xy xm) = (Civ.dim xy xm))) (x4 : 1970 ≤ xy ∧ xy ≤ 2240) (xv : Civ.vld xy xm (Civ.dim xy xm))
    (z1 : Hid (Civ.amY y0 m0 (a % 400 - 200 + (b % 400 - 200)) = zy)) (z2 : Hid (Civ.amM y0 m0 (a % 400 - 200 + (b % 400 - 200)) = zm)) (z3 : Hid (min d0 (Civ.dim zy zm) = zd)) (z4 : 1970 ≤ zy ∧ zy ≤ 2240)
    (y1 : Hid (Civ.amY xy xm (b % 400 - 200) = zy)) (y2 : Hid (Civ.amM xy xm (b % 400 - 200) = zm)) (y3 : Hid (min (Civ.dim xy xm) (Civ.dim zy zm) = yd))
    (k1 : Hid (Civ.amY xy xm (-(a % 400 - 200)) = y0)) (k2 : Hid (Civ.amM xy xm (-(a % 400 - 200)) = m0)) (k3 : Hid (min (Civ.dim xy xm) (Civ.dim y0 m0) = bd)) (hle : yd ≤ zd) (hd : 28 < d0) (hx : Civ.dim xy xm < d0) :
    Calls Tryd.prog 5 #[.int .i64 n, .int .i64 a, .int .i64 b] w fun e w' => e = .returned (.bool true) ∧ Below w.heap.size w w' := by
  have HN := Lib.hid hn
  clear hn
  have HV := hv
  have XV := xv
  have dd := Civ.dim_bd y0 m0
  have dx := Civ.dim_bd xy xm
  obtain ⟨v1, v2, v3, v4, v5, v6⟩ := hv
  obtain ⟨u1, u2, u3, u4, u5, u6⟩ := xv
  have g2 : decide (zd < yd) = false := by simpa using hle

  go_enter Tryd.func5, Tryd.ntmps5
  go_wp2_with fail
  refine (Mod_any n 20000 _ i1 i2 (by omega) (by omega)).mono ?_
  rintro e w' ⟨rfl, rfl⟩
  go_wp2_with fail
  refine (dateOf_yes y0 m0 d0 _ _ hT HV HN.out).mono ?_
  rintro e w1 ⟨rfl, b1⟩
  have hT1 := hT.below b1
  have A1 := DateAt.new w1 y0 m0 d0 23
  go_wp2_with fail
  refine (Mod_any a 400 _ i3 i4 (by omega) (by omega)).mono ?_
  rintro e w' ⟨rfl, rfl⟩
  go_wp2_with fail
  refine (Mod_any b 400 _ i5 i6 (by omega) (by omega)).mono ?_
  rintro e w' ⟨rfl, rfl⟩
  go_wp2_with fail
  refine (addm_is' HV x1.out x2.out x3.out x4 _ (hT1.alloc _)).mono ?_
  rintro e w2 ⟨rfl, b2⟩
  have hT2 := (hT1.alloc _).below b2
  have A2 := A1.below b2
  have X2 := DateAt.new w2 xy xm (Civ.dim xy xm) 23
  go_wp2_with fail
  refine (addm_is' XV y1.out y2.out y3.out z4 _ (hT2.alloc _)).mono ?_
  rintro e w3 ⟨rfl, b3⟩
  have hT3 := (hT2.alloc _).below b3
  have A3 := (A2.alloc (.cells #[.int .i64 xy, .int .i64 xm, .int .i64 (Civ.dim xy xm)] 23)).below b3
  have X3 := X2.below b3
  have Y3 := DateAt.new w3 zy zm yd 23
  have l31 := A3.lt
  have ⟨a0, a1, a2⟩ := A3
  go_wp2_with fail
  refine (addm_is' HV z1.out z2.out z3.out z4 _ (hT3.alloc _)).mono ?_
  rintro e w4 ⟨rfl, b4⟩
  clear a0 a1 a2
  have hT4 := (hT3.alloc _).below b4
  have A4 := (A3.alloc (.cells #[.int .i64 zy, .int .i64 zm, .int .i64 yd] 23)).below b4
  have X4 := (X3.alloc (.cells #[.int .i64 zy, .int .i64 zm, .int .i64 yd] 23)).below b4
  have Y4 := Y3.below b4
  have Z4 := DateAt.new w4 zy zm zd 23
  have l41 := A4.lt
  have l42 := X4.lt
  have ⟨a0, a1, a2⟩ := X4
  go_wp2_with fail
  refine (addm_is' XV k1.out k2.out k3.out hy0 _ (hT4.alloc _)).mono ?_
  rintro e w5 ⟨rfl, b5⟩
  clear a0 a1 a2
  have hT5 := (hT4.alloc _).below b5
  have A5 := (A4.alloc (.cells #[.int .i64 zy, .int .i64 zm, .int .i64 zd] 23)).below b5
  have X5 := (X4.alloc (.cells #[.int .i64 zy, .int .i64 zm, .int .i64 zd] 23)).below b5
  have Y5 := (Y4.alloc (.cells #[.int .i64 zy, .int .i64 zm, .int .i64 zd] 23)).below b5
  have Z5 := Z4.below b5
  have l51 := A5.lt
  have l52 := X5.lt
  have l53 := Y5.lt
  have l54 := Z5.lt
  have ⟨a0, a1, a2⟩ := A5
  have ⟨c0, c1, c2⟩ := X5
  have ⟨e0, e1, e2⟩ := Y5
  have ⟨f0, f1, f2⟩ := Z5
  go_wp2_with fail
  go_quiet ((go_at_call 19; exact qsame (dim_any _ _ _ ((hT5.alloc _).drewN _) (by omega) (by omega) (by omega) (by omega))))
  go_wp2_with fail
  refine (sane_any _ ((hT5.alloc _).drewN _)).mono ?_
  rintro e w6 ⟨rfl, b6⟩
  go_wp2_with fail
  go_ret
  exact ⟨rfl, bstep (below_drewN ((bstepA (bstepA (bstepA (bstepA b1 b2) b3) b4) b5).alloc (bstepA (bstepA (bstepA (bstepA b1 b2) b3) b4) b5).size _) _) b6⟩

set_option maxHeartbeats 3200000 in
theorem months_c (n a b y0 m0 d0 xy xm zy zm : Int) (w : World) (hT : CivT w) (i1 : -9223372036854775808 ≤ n) (i2 : n ≤ 9223372036854775807) (i3 : -9223372036854775808 ≤ a) (i4 : a ≤ 9223372036854775807) (i5 : -9223372036854775808 ≤ b) (i6 : b ≤ 9223372036854775807)
    (hv : Civ.vld y0 m0 d0) (hn : Civ.num y0 m0 d0 = 20000 + n % 20000) (hy0 : 1970 ≤ y0 ∧ y0 ≤ 2240)
    (x1 : Hid (Civ.amY y0 m0 (a % 400 - 200) = xy)) (x2 : Hid (Civ.amM y0 m0 (a % 400 - 200) = xm)) (x3 : Hid (min d0 (Civ.dim xy xm) = d0)) (x4 : 1970 ≤ xy ∧ xy ≤ 2240) (xv : Civ.vld xy xm d0)
    (z1 : Hid (Civ.amY y0 m0 (a % 400 - 200 + (b % 400 - 200)) = zy)) (z2 : Hid (Civ.amM y0 m0 (a % 400 - 200 + (b % 400 - 200)) = zm)) (z3 : Hid (min d0 (Civ.dim zy zm) = d0)) (z4 : 1970 ≤ zy ∧ zy ≤ 2240)
    (y1 : Hid (Civ.amY xy xm (b % 400 - 200) = zy)) (y2 : Hid (Civ.amM xy xm (b % 400 - 200) = zm)) (y3 : Hid (min d0 (Civ.dim zy zm) = d0))
    (k1 : Hid (Civ.amY xy xm (-(a % 400 - 200)) = y0)) (k2 : Hid (Civ.amM xy xm (-(a % 400 - 200)) = m0)) (k3 : Hid (min d0 (Civ.dim y0 m0) = d0)) (hle : d0 ≤ d0) (hd : d0 ≤ 28) (hx : d0 ≤ Civ.dim xy xm) :
    Calls Tryd.prog 5 #[.int .i64 n, .int .i64 a, .int .i64 b] w fun e w' => e = .returned (.bool true) ∧ Below w.heap.size w w' := by
  have HN := Lib.hid hn
  clear hn
  have HV := hv
  have XV := xv
  have dd := Civ.dim_bd y0 m0
  have dx := Civ.dim_bd xy xm
  obtain ⟨v1, v2, v3, v4, v5, v6⟩ := hv
  obtain ⟨u1, u2, u3, u4, u5, u6⟩ := xv

  go_enter Tryd.func5, Tryd.ntmps5
  go_wp2_with fail
  refine (Mod_any n 20000 _ i1 i2 (by omega) (by omega)).mono ?_
  rintro e w' ⟨rfl, rfl⟩
  go_wp2_with fail
  refine (dateOf_yes y0 m0 d0 _ _ hT HV HN.out).mono ?_
  rintro e w1 ⟨rfl, b1⟩
  have hT1 := hT.below b1
  have A1 := DateAt.new w1 y0 m0 d0 23
  go_wp2_with fail
  refine (Mod_any a 400 _ i3 i4 (by omega) (by omega)).mono ?_
  rintro e w' ⟨rfl, rfl⟩
  go_wp2_with fail
  refine (Mod_any b 400 _ i5 i6 (by omega) (by omega)).mono ?_
  rintro e w' ⟨rfl, rfl⟩
  go_wp2_with fail
  refine (addm_is' HV x1.out x2.out x3.out x4 _ (hT1.alloc _)).mono ?_
  rintro e w2 ⟨rfl, b2⟩
  have hT2 := (hT1.alloc _).below b2
  have A2 := A1.below b2
  have X2 := DateAt.new w2 xy xm d0 23
  go_wp2_with fail
  refine (addm_is' XV y1.out y2.out y3.out z4 _ (hT2.alloc _)).mono ?_
  rintro e w3 ⟨rfl, b3⟩
  have hT3 := (hT2.alloc _).below b3
  have A3 := (A2.alloc (.cells #[.int .i64 xy, .int .i64 xm, .int .i64 d0] 23)).below b3
  have X3 := X2.below b3
  have Y3 := DateAt.new w3 zy zm d0 23
  have l31 := A3.lt
  have ⟨a0, a1, a2⟩ := A3
  go_wp2_with fail
  refine (addm_is' HV z1.out z2.out z3.out z4 _ (hT3.alloc _)).mono ?_
  rintro e w4 ⟨rfl, b4⟩
  clear a0 a1 a2
  have hT4 := (hT3.alloc _).below b4
  have A4 := (A3.alloc (.cells #[.int .i64 zy, .int .i64 zm, .int .i64 d0] 23)).below b4
  have X4 := (X3.alloc (.cells #[.int .i64 zy, .int .i64 zm, .int .i64 d0] 23)).below b4
  have Y4 := Y3.below b4
  have Z4 := DateAt.new w4 zy zm d0 23
  have l41 := A4.lt
  have l42 := X4.lt
  have ⟨a0, a1, a2⟩ := X4
  go_wp2_with fail
  refine (addm_is' XV k1.out k2.out k3.out hy0 _ (hT4.alloc _)).mono ?_
  rintro e w5 ⟨rfl, b5⟩
  clear a0 a1 a2
  have hT5 := (hT4.alloc _).below b5
  have A5 := (A4.alloc (.cells #[.int .i64 zy, .int .i64 zm, .int .i64 d0] 23)).below b5
  have X5 := (X4.alloc (.cells #[.int .i64 zy, .int .i64 zm, .int .i64 d0] 23)).below b5
  have Y5 := (Y4.alloc (.cells #[.int .i64 zy, .int .i64 zm, .int .i64 d0] 23)).below b5
  have Z5 := Z4.below b5
  have l51 := A5.lt
  have l52 := X5.lt
  have l53 := Y5.lt
  have l54 := Z5.lt
  have ⟨a0, a1, a2⟩ := A5
  have ⟨c0, c1, c2⟩ := X5
  have ⟨e0, e1, e2⟩ := Y5
  have ⟨f0, f1, f2⟩ := Z5
  go_wp2_with fail
  go_quiet ((go_at_call 19; exact qsame (dim_any _ _ _ ((hT5.alloc _).drewN _) (by omega) (by omega) (by omega) (by omega))))
  go_wp2_with fail
  refine (sane_any _ ((hT5.alloc _).drewN _)).mono ?_
  rintro e w6 ⟨rfl, b6⟩
  go_wp2_with fail
  go_ret
  exact ⟨rfl, bstep (below_drewN ((bstepA (bstepA (bstepA (bstepA b1 b2) b3) b4) b5).alloc (bstepA (bstepA (bstepA (bstepA b1 b2) b3) b4) b5).size _) _) b6⟩

theorem months_any (n a b : Int) (w : World) (hT : CivT w) (i1 : -9223372036854775808 ≤ n) (i2 : n ≤ 9223372036854775807) (i3 : -9223372036854775808 ≤ a) (i4 : a ≤ 9223372036854775807) (i5 : -9223372036854775808 ≤ b) (i6 : b ≤ 9223372036854775807) :
    Calls Tryd.prog 5 #[.int .i64 n, .int .i64 a, .int .i64 b] w fun e w' => e = .returned (.bool true) ∧ Below w.heap.size w w' := by
  obtain ⟨y0, m0, d0, hv, hn⟩ := Civ.date_ex (20000 + n % 20000) (by omega) (by omega)
  have hy := Civ.mid_year hv hn
  have hm := hv.2.2.1
  have hm' := hv.2.2.2.1
  have hd1 := hv.2.2.2.2.1
  have hA : -200 ≤ a % 400 - 200 ∧ a % 400 - 200 ≤ 199 := by omega
  have hB : -200 ≤ b % 400 - 200 ∧ b % 400 - 200 ≤ 199 := by omega
  have hx : 1970 ≤ Civ.amY y0 m0 (a % 400 - 200) ∧ Civ.amY y0 m0 (a % 400 - 200) ≤ 2240 := by unfold Civ.amY; omega
  have hz : 1970 ≤ Civ.amY y0 m0 (a % 400 - 200 + (b % 400 - 200)) ∧ Civ.amY y0 m0 (a % 400 - 200 + (b % 400 - 200)) ≤ 2240 := by unfold Civ.amY; omega
  have xv := Civ.am_vld (d := d0) (m := m0) (n := a % 400 - 200) hd1 hx.1 hx.2
  have tw := Civ.am_twice y0 m0 (a % 400 - 200) (b % 400 - 200)
  have bk := Civ.am_back y0 m0 (a % 400 - 200) hm hm'
  have lo := Civ.dim_lo (y := Civ.amY y0 m0 (a % 400 - 200)) (Civ.amM_bd y0 m0 (a % 400 - 200)).1 (Civ.amM_bd y0 m0 (a % 400 - 200)).2
  have loz := Civ.dim_lo (y := Civ.amY y0 m0 (a % 400 - 200 + (b % 400 - 200))) (Civ.amM_bd y0 m0 (a % 400 - 200 + (b % 400 - 200))).1 (Civ.amM_bd y0 m0 (a % 400 - 200 + (b % 400 - 200))).2
  have lo0 := Civ.dim_lo (y := y0) hm hm'
  by_cases c : d0 ≤ Civ.dim (Civ.amY y0 m0 (a % 400 - 200)) (Civ.amM y0 m0 (a % 400 - 200))
  · have e : min d0 (Civ.dim (Civ.amY y0 m0 (a % 400 - 200)) (Civ.amM y0 m0 (a % 400 - 200))) = d0 := Int.min_eq_left c
    rw [e] at xv
    by_cases k : 28 < d0
    · exact months_a n a b y0 m0 d0 _ _ _ _ _ _ _ w hT i1 i2 i3 i4 i5 i6 hv hn ⟨by omega, by omega⟩ (Lib.hid rfl) (Lib.hid rfl) (Lib.hid e) hx xv (Lib.hid rfl) (Lib.hid rfl) (Lib.hid rfl) hz (Lib.hid tw.1) (Lib.hid tw.2) (Lib.hid rfl) (Lib.hid bk.1) (Lib.hid bk.2) (Lib.hid rfl) (Int.le_refl _) k c
    · exact months_c n a b y0 m0 d0 _ _ _ _ w hT i1 i2 i3 i4 i5 i6 hv hn ⟨by omega, by omega⟩ (Lib.hid rfl) (Lib.hid rfl) (Lib.hid e) hx xv (Lib.hid rfl) (Lib.hid rfl) (Lib.hid (Int.min_eq_left (by omega))) hz (Lib.hid tw.1) (Lib.hid tw.2) (Lib.hid (Int.min_eq_left (by omega))) (Lib.hid bk.1) (Lib.hid bk.2) (Lib.hid (Int.min_eq_left (by omega))) (Int.le_refl _) (by omega) c
  · have e : min d0 (Civ.dim (Civ.amY y0 m0 (a % 400 - 200)) (Civ.amM y0 m0 (a % 400 - 200))) = Civ.dim (Civ.amY y0 m0 (a % 400 - 200)) (Civ.amM y0 m0 (a % 400 - 200)) := Int.min_eq_right (by omega)
    rw [e] at xv
    exact months_b n a b y0 m0 d0 _ _ _ _ _ _ _ w hT i1 i2 i3 i4 i5 i6 hv hn ⟨by omega, by omega⟩ (Lib.hid rfl) (Lib.hid rfl) (Lib.hid e) hx xv (Lib.hid rfl) (Lib.hid rfl) (Lib.hid rfl) hz (Lib.hid tw.1) (Lib.hid tw.2) (Lib.hid rfl) (Lib.hid bk.1) (Lib.hid bk.2) (Lib.hid rfl) (by omega) (by omega) (by omega)
end Go.Proofs.YtnbfbkomgdnlnaaDoor
