/- The law RatioSums returns true for every four numbers. -/
import Derived.Test.YtcannkndedlooaaDoorRatL
import Derived.Test.YtcannkndedlooaaDoorRatM
namespace Go.Proofs.YtcannkndedlooaaDoor
open Go.RowKit
set_option linter.unusedVariables false
set_option linter.unusedSimpArgs false

set_option maxRecDepth 100000 in
set_option maxHeartbeats 6400000 in
theorem sums_any (a b c d : Int) (w : World) (hT : RatT w) (i1 : -9223372036854775808 ≤ a) (i2 : a ≤ 9223372036854775807) (i3 : -9223372036854775808 ≤ b) (i4 : b ≤ 9223372036854775807) (i5 : -9223372036854775808 ≤ c) (i6 : c ≤ 9223372036854775807) (i7 : -9223372036854775808 ≤ d) (i8 : d ≤ 9223372036854775807) :
    Calls Tryd.prog 5 #[.int .i64 a, .int .i64 b, .int .i64 c, .int .i64 d] w fun e w' => e = .returned (.bool true) ∧ Below w.heap.size w w' := by
  have T0 := hT
  have L0 := Below.refl w.heap.size w
  go_enter Tryd.func5, Tryd.ntmps5
  go_wp2_with fail
  refine (draw_any a b _ i1 i2 i3 i4).mono ?_
  rintro e w1 ⟨xn, xd, hx, rfl, b1⟩
  have T1 := T0.below b1
  have L1 := bstep L0 b1
  go_wp2_with fail
  refine (draw_any c d _ i5 i6 i7 i8).mono ?_
  rintro e w2 ⟨yn, yd, hy, rfl, b2⟩
  have T2 := T1.below b2
  have L2 := bstep L1 b2
  have HX := Lib.hid hx
  have HY := Lib.hid hy
  have IX := vld_i64 hx
  have IY := vld_i64 hy
  have HIX := Lib.hid IX
  have HIY := Lib.hid IY
  clear hx hy IX IY
  by_cases hok : Rt.addOk xn xd yn yd
  · obtain ⟨p, hp⟩ : ∃ p, (Rt.sumS xn xd yn yd).1 = p := ⟨_, rfl⟩
    obtain ⟨q, hq⟩ : ∃ q, (Rt.sumS xn xd yn yd).2.1 = q := ⟨_, rfl⟩
    have hu := Rt.add_ok HX.out HY.out hok hp hq
    have vu := Rt.sum_vld HX.out HY.out hok
    have hback := fun h' => Rt.sum_back HX.out HY.out hok h'
    rw [hp, hq] at vu hback
    have HU := Lib.hid hu
    have HV := Lib.hid (Rt.add_flip HX.out HY.out hu)
    have HW := Lib.hid (Rt.add_zero' HX.out)
    have HVU := Lib.hid vu
    have HIU := Lib.hid (vld_i64 vu)
    clear hu hp hq
    by_cases hs : Rt.addOk p q (-yn) yd
    · have HS := Lib.hid (Rt.sub_yes vu HY.out hs (hback hs))
      clear hback vu hok hs
      as_aux_lemma =>
        have I0 : I64 0 ∧ I64 1 := ⟨⟨by omega, by omega⟩, ⟨by omega, by omega⟩⟩
        have HI0 := Lib.hid I0
        clear I0
        have Xa1 := RatAt.new w2 xn xd 23
        have Ta1 := T2.alloc (.cells #[.int .i64 xn, .int .i64 xd] 23)
        have La1 := L2.alloc L2.size (.cells #[.int .i64 xn, .int .i64 xd] 23)
        have Xa2 := Xa1.alloc (.cells #[.int .i64 yn, .int .i64 yd] 23)
        have Ya2 := RatAt.new1 w2 (.cells #[.int .i64 xn, .int .i64 xd] 23) yn yd 23
        have Ta2 := Ta1.alloc (.cells #[.int .i64 yn, .int .i64 yd] 23)
        have La2 := La1.alloc La1.size (.cells #[.int .i64 yn, .int .i64 yd] 23)
        have Xa3 := Xa2.alloc (.cells #[.int .i64 0, .int .i64 1] 23)
        have Ya3 := Ya2.alloc (.cells #[.int .i64 0, .int .i64 1] 23)
        have Oa3 := RatAt.new2 w2 (.cells #[.int .i64 xn, .int .i64 xd] 23) (.cells #[.int .i64 yn, .int .i64 yd] 23) 0 1 23
        have Ta3 := Ta2.alloc (.cells #[.int .i64 0, .int .i64 1] 23)
        have La3 := La2.alloc La2.size (.cells #[.int .i64 0, .int .i64 1] 23)
        go_wp2_with fail
        refine (add_is HU.out _ HIX.out HIY.out).mono ?_
        rintro e w3 ⟨rfl, b3⟩
        have X3 := Xa3.below b3
        have Y3 := Ya3.below b3
        have O3 := Oa3.below b3
        have T3 := Ta3.below b3
        have L3 := bstep La3 b3
        have ⟨x0, x1, _, _⟩ := X3
        have xz := X3.lt
        have ⟨y0, y1, _, _⟩ := Y3
        have yz := Y3.lt
        have ⟨o0, o1, _, _⟩ := O3
        have oz := O3.lt
        have Xa4 := X3.alloc (.cells #[.int .i64 p, .int .i64 q] 23)
        have Ya4 := Y3.alloc (.cells #[.int .i64 p, .int .i64 q] 23)
        have Oa4 := O3.alloc (.cells #[.int .i64 p, .int .i64 q] 23)
        have Ua4 := RatAt.new w3 p q 23
        have Ta4 := T3.alloc (.cells #[.int .i64 p, .int .i64 q] 23)
        have La4 := L3.alloc L3.size (.cells #[.int .i64 p, .int .i64 q] 23)
        go_wp2_with fail
        refine (add_is HV.out _ HIY.out HIX.out).mono ?_
        rintro e w4 ⟨rfl, b4⟩
        clear x0 x1 y0 y1 o0 o1
        have X4 := Xa4.below b4
        have Y4 := Ya4.below b4
        have O4 := Oa4.below b4
        have U4 := Ua4.below b4
        have T4 := Ta4.below b4
        have L4 := bstep La4 b4
        have ⟨x0, x1, _, _⟩ := X4
        have xz := X4.lt
        have ⟨y0, y1, _, _⟩ := Y4
        have yz := Y4.lt
        have ⟨o0, o1, _, _⟩ := O4
        have oz := O4.lt
        have ⟨u0, u1, _, _⟩ := U4
        have uz := U4.lt
        have Xa5 := X4.alloc (.cells #[.int .i64 p, .int .i64 q] 23)
        have Ya5 := Y4.alloc (.cells #[.int .i64 p, .int .i64 q] 23)
        have Oa5 := O4.alloc (.cells #[.int .i64 p, .int .i64 q] 23)
        have Ua5 := U4.alloc (.cells #[.int .i64 p, .int .i64 q] 23)
        have Va5 := RatAt.new w4 p q 23
        have Ta5 := T4.alloc (.cells #[.int .i64 p, .int .i64 q] 23)
        have La5 := L4.alloc L4.size (.cells #[.int .i64 p, .int .i64 q] 23)
        go_wp2_with fail
        refine (add_is HW.out _ HIX.out HI0.out).mono ?_
        rintro e w5 ⟨rfl, b5⟩
        clear x0 x1 y0 y1 o0 o1 u0 u1
        have X5 := Xa5.below b5
        have Y5 := Ya5.below b5
        have O5 := Oa5.below b5
        have U5 := Ua5.below b5
        have V5 := Va5.below b5
        have T5 := Ta5.below b5
        have L5 := bstep La5 b5
        have ⟨x0, x1, _, _⟩ := X5
        have xz := X5.lt
        have ⟨y0, y1, _, _⟩ := Y5
        have yz := Y5.lt
        have ⟨o0, o1, _, _⟩ := O5
        have oz := O5.lt
        have ⟨u0, u1, _, _⟩ := U5
        have uz := U5.lt
        have ⟨v0, v1, _, _⟩ := V5
        have vz := V5.lt
        have Xa6 := X5.alloc (.cells #[.int .i64 xn, .int .i64 xd] 23)
        have Ya6 := Y5.alloc (.cells #[.int .i64 xn, .int .i64 xd] 23)
        have Oa6 := O5.alloc (.cells #[.int .i64 xn, .int .i64 xd] 23)
        have Ua6 := U5.alloc (.cells #[.int .i64 xn, .int .i64 xd] 23)
        have Va6 := V5.alloc (.cells #[.int .i64 xn, .int .i64 xd] 23)
        have Wa6 := RatAt.new w5 xn xd 23
        have Ta6 := T5.alloc (.cells #[.int .i64 xn, .int .i64 xd] 23)
        have La6 := L5.alloc L5.size (.cells #[.int .i64 xn, .int .i64 xd] 23)
        go_wp2_with fail
        refine (sub_is HS.out _ HIU.out HIY.out).mono ?_
        rintro e w6 ⟨rfl, b6⟩
        clear x0 x1 y0 y1 o0 o1 u0 u1 v0 v1
        have X6 := Xa6.below b6
        have Y6 := Ya6.below b6
        have O6 := Oa6.below b6
        have U6 := Ua6.below b6
        have V6 := Va6.below b6
        have W6 := Wa6.below b6
        have T6 := Ta6.below b6
        have L6 := bstep La6 b6
        have ⟨x0, x1, _, _⟩ := X6
        have xz := X6.lt
        have ⟨y0, y1, _, _⟩ := Y6
        have yz := Y6.lt
        have ⟨o0, o1, _, _⟩ := O6
        have oz := O6.lt
        have ⟨u0, u1, _, _⟩ := U6
        have uz := U6.lt
        have ⟨v0, v1, _, _⟩ := V6
        have vz := V6.lt
        have ⟨w0, w1, _, _⟩ := W6
        have wz := W6.lt
        have Xa7 := X6.alloc (.cells #[.int .i64 xn, .int .i64 xd] 23)
        have Ya7 := Y6.alloc (.cells #[.int .i64 xn, .int .i64 xd] 23)
        have Oa7 := O6.alloc (.cells #[.int .i64 xn, .int .i64 xd] 23)
        have Ua7 := U6.alloc (.cells #[.int .i64 xn, .int .i64 xd] 23)
        have Va7 := V6.alloc (.cells #[.int .i64 xn, .int .i64 xd] 23)
        have Wa7 := W6.alloc (.cells #[.int .i64 xn, .int .i64 xd] 23)
        have Za7 := RatAt.new w6 xn xd 23
        have Ta7 := T6.alloc (.cells #[.int .i64 xn, .int .i64 xd] 23)
        have La7 := L6.alloc L6.size (.cells #[.int .i64 xn, .int .i64 xd] 23)
        go_wp2_with fail
        refine (valid_yes p q _ HVU.out).mono ?_
        rintro e w7 ⟨rfl, b7⟩
        clear x0 x1 y0 y1 o0 o1 u0 u1 v0 v1 w0 w1
        have X7 := Xa7.below b7
        have Y7 := Ya7.below b7
        have O7 := Oa7.below b7
        have U7 := Ua7.below b7
        have V7 := Va7.below b7
        have W7 := Wa7.below b7
        have Z7 := Za7.below b7
        have T7 := Ta7.below b7
        have L7 := bstep La7 b7
        have ⟨x0, x1, _, _⟩ := X7
        have xz := X7.lt
        have ⟨y0, y1, _, _⟩ := Y7
        have yz := Y7.lt
        have ⟨o0, o1, _, _⟩ := O7
        have oz := O7.lt
        have ⟨u0, u1, _, _⟩ := U7
        have uz := U7.lt
        have ⟨v0, v1, _, _⟩ := V7
        have vz := V7.lt
        have ⟨w0, w1, _, _⟩ := W7
        have wz := W7.lt
        have ⟨z0, z1, _, _⟩ := Z7
        have zz := Z7.lt
        go_wp2_with fail
        refine (sane_any _ T7).mono ?_
        rintro e w8 ⟨rfl, b8⟩
        clear x0 x1 y0 y1 o0 o1 u0 u1 v0 v1 w0 w1 z0 z1
        have X8 := X7.below b8
        have Y8 := Y7.below b8
        have O8 := O7.below b8
        have U8 := U7.below b8
        have V8 := V7.below b8
        have W8 := W7.below b8
        have Z8 := Z7.below b8
        have T8 := T7.below b8
        have L8 := bstep L7 b8
        have ⟨x0, x1, _, _⟩ := X8
        have xz := X8.lt
        have ⟨y0, y1, _, _⟩ := Y8
        have yz := Y8.lt
        have ⟨o0, o1, _, _⟩ := O8
        have oz := O8.lt
        have ⟨u0, u1, _, _⟩ := U8
        have uz := U8.lt
        have ⟨v0, v1, _, _⟩ := V8
        have vz := V8.lt
        have ⟨w0, w1, _, _⟩ := W8
        have wz := W8.lt
        have ⟨z0, z1, _, _⟩ := Z8
        have zz := Z8.lt
        go_wp2_with fail
        go_ret
        exact ⟨rfl, L8⟩
    · have HS := Lib.hid (Rt.sub_no vu HY.out hs)
      clear hback vu hok hs
      as_aux_lemma =>
        have I0 : I64 0 ∧ I64 1 := ⟨⟨by omega, by omega⟩, ⟨by omega, by omega⟩⟩
        have HI0 := Lib.hid I0
        clear I0
        have Xa1 := RatAt.new w2 xn xd 23
        have Ta1 := T2.alloc (.cells #[.int .i64 xn, .int .i64 xd] 23)
        have La1 := L2.alloc L2.size (.cells #[.int .i64 xn, .int .i64 xd] 23)
        have Xa2 := Xa1.alloc (.cells #[.int .i64 yn, .int .i64 yd] 23)
        have Ya2 := RatAt.new1 w2 (.cells #[.int .i64 xn, .int .i64 xd] 23) yn yd 23
        have Ta2 := Ta1.alloc (.cells #[.int .i64 yn, .int .i64 yd] 23)
        have La2 := La1.alloc La1.size (.cells #[.int .i64 yn, .int .i64 yd] 23)
        have Xa3 := Xa2.alloc (.cells #[.int .i64 0, .int .i64 1] 23)
        have Ya3 := Ya2.alloc (.cells #[.int .i64 0, .int .i64 1] 23)
        have Oa3 := RatAt.new2 w2 (.cells #[.int .i64 xn, .int .i64 xd] 23) (.cells #[.int .i64 yn, .int .i64 yd] 23) 0 1 23
        have Ta3 := Ta2.alloc (.cells #[.int .i64 0, .int .i64 1] 23)
        have La3 := La2.alloc La2.size (.cells #[.int .i64 0, .int .i64 1] 23)
        go_wp2_with fail
        refine (add_is HU.out _ HIX.out HIY.out).mono ?_
        rintro e w3 ⟨rfl, b3⟩
        have X3 := Xa3.below b3
        have Y3 := Ya3.below b3
        have O3 := Oa3.below b3
        have T3 := Ta3.below b3
        have L3 := bstep La3 b3
        have ⟨x0, x1, _, _⟩ := X3
        have xz := X3.lt
        have ⟨y0, y1, _, _⟩ := Y3
        have yz := Y3.lt
        have ⟨o0, o1, _, _⟩ := O3
        have oz := O3.lt
        have Xa4 := X3.alloc (.cells #[.int .i64 p, .int .i64 q] 23)
        have Ya4 := Y3.alloc (.cells #[.int .i64 p, .int .i64 q] 23)
        have Oa4 := O3.alloc (.cells #[.int .i64 p, .int .i64 q] 23)
        have Ua4 := RatAt.new w3 p q 23
        have Ta4 := T3.alloc (.cells #[.int .i64 p, .int .i64 q] 23)
        have La4 := L3.alloc L3.size (.cells #[.int .i64 p, .int .i64 q] 23)
        go_wp2_with fail
        refine (add_is HV.out _ HIY.out HIX.out).mono ?_
        rintro e w4 ⟨rfl, b4⟩
        clear x0 x1 y0 y1 o0 o1
        have X4 := Xa4.below b4
        have Y4 := Ya4.below b4
        have O4 := Oa4.below b4
        have U4 := Ua4.below b4
        have T4 := Ta4.below b4
        have L4 := bstep La4 b4
        have ⟨x0, x1, _, _⟩ := X4
        have xz := X4.lt
        have ⟨y0, y1, _, _⟩ := Y4
        have yz := Y4.lt
        have ⟨o0, o1, _, _⟩ := O4
        have oz := O4.lt
        have ⟨u0, u1, _, _⟩ := U4
        have uz := U4.lt
        have Xa5 := X4.alloc (.cells #[.int .i64 p, .int .i64 q] 23)
        have Ya5 := Y4.alloc (.cells #[.int .i64 p, .int .i64 q] 23)
        have Oa5 := O4.alloc (.cells #[.int .i64 p, .int .i64 q] 23)
        have Ua5 := U4.alloc (.cells #[.int .i64 p, .int .i64 q] 23)
        have Va5 := RatAt.new w4 p q 23
        have Ta5 := T4.alloc (.cells #[.int .i64 p, .int .i64 q] 23)
        have La5 := L4.alloc L4.size (.cells #[.int .i64 p, .int .i64 q] 23)
        go_wp2_with fail
        refine (add_is HW.out _ HIX.out HI0.out).mono ?_
        rintro e w5 ⟨rfl, b5⟩
        clear x0 x1 y0 y1 o0 o1 u0 u1
        have X5 := Xa5.below b5
        have Y5 := Ya5.below b5
        have O5 := Oa5.below b5
        have U5 := Ua5.below b5
        have V5 := Va5.below b5
        have T5 := Ta5.below b5
        have L5 := bstep La5 b5
        have ⟨x0, x1, _, _⟩ := X5
        have xz := X5.lt
        have ⟨y0, y1, _, _⟩ := Y5
        have yz := Y5.lt
        have ⟨o0, o1, _, _⟩ := O5
        have oz := O5.lt
        have ⟨u0, u1, _, _⟩ := U5
        have uz := U5.lt
        have ⟨v0, v1, _, _⟩ := V5
        have vz := V5.lt
        have Xa6 := X5.alloc (.cells #[.int .i64 xn, .int .i64 xd] 23)
        have Ya6 := Y5.alloc (.cells #[.int .i64 xn, .int .i64 xd] 23)
        have Oa6 := O5.alloc (.cells #[.int .i64 xn, .int .i64 xd] 23)
        have Ua6 := U5.alloc (.cells #[.int .i64 xn, .int .i64 xd] 23)
        have Va6 := V5.alloc (.cells #[.int .i64 xn, .int .i64 xd] 23)
        have Wa6 := RatAt.new w5 xn xd 23
        have Ta6 := T5.alloc (.cells #[.int .i64 xn, .int .i64 xd] 23)
        have La6 := L5.alloc L5.size (.cells #[.int .i64 xn, .int .i64 xd] 23)
        go_wp2_with fail
        refine (sub_is HS.out _ HIU.out HIY.out).mono ?_
        rintro e w6 ⟨rfl, b6⟩
        clear x0 x1 y0 y1 o0 o1 u0 u1 v0 v1
        have X6 := Xa6.below b6
        have Y6 := Ya6.below b6
        have O6 := Oa6.below b6
        have U6 := Ua6.below b6
        have V6 := Va6.below b6
        have W6 := Wa6.below b6
        have T6 := Ta6.below b6
        have L6 := bstep La6 b6
        have ⟨x0, x1, _, _⟩ := X6
        have xz := X6.lt
        have ⟨y0, y1, _, _⟩ := Y6
        have yz := Y6.lt
        have ⟨o0, o1, _, _⟩ := O6
        have oz := O6.lt
        have ⟨u0, u1, _, _⟩ := U6
        have uz := U6.lt
        have ⟨v0, v1, _, _⟩ := V6
        have vz := V6.lt
        have ⟨w0, w1, _, _⟩ := W6
        have wz := W6.lt
        have Xa7 := X6.alloc (.cells #[.int .i64 0, .int .i64 0] 23)
        have Ya7 := Y6.alloc (.cells #[.int .i64 0, .int .i64 0] 23)
        have Oa7 := O6.alloc (.cells #[.int .i64 0, .int .i64 0] 23)
        have Ua7 := U6.alloc (.cells #[.int .i64 0, .int .i64 0] 23)
        have Va7 := V6.alloc (.cells #[.int .i64 0, .int .i64 0] 23)
        have Wa7 := W6.alloc (.cells #[.int .i64 0, .int .i64 0] 23)
        have Za7 := RatAt.new w6 0 0 23
        have Ta7 := T6.alloc (.cells #[.int .i64 0, .int .i64 0] 23)
        have La7 := L6.alloc L6.size (.cells #[.int .i64 0, .int .i64 0] 23)
        go_wp2_with fail
        refine (valid_yes p q _ HVU.out).mono ?_
        rintro e w7 ⟨rfl, b7⟩
        clear x0 x1 y0 y1 o0 o1 u0 u1 v0 v1 w0 w1
        have X7 := Xa7.below b7
        have Y7 := Ya7.below b7
        have O7 := Oa7.below b7
        have U7 := Ua7.below b7
        have V7 := Va7.below b7
        have W7 := Wa7.below b7
        have Z7 := Za7.below b7
        have T7 := Ta7.below b7
        have L7 := bstep La7 b7
        have ⟨x0, x1, _, _⟩ := X7
        have xz := X7.lt
        have ⟨y0, y1, _, _⟩ := Y7
        have yz := Y7.lt
        have ⟨o0, o1, _, _⟩ := O7
        have oz := O7.lt
        have ⟨u0, u1, _, _⟩ := U7
        have uz := U7.lt
        have ⟨v0, v1, _, _⟩ := V7
        have vz := V7.lt
        have ⟨w0, w1, _, _⟩ := W7
        have wz := W7.lt
        have ⟨z0, z1, _, _⟩ := Z7
        have zz := Z7.lt
        go_wp2_with fail
        refine (sane_any _ T7).mono ?_
        rintro e w8 ⟨rfl, b8⟩
        clear x0 x1 y0 y1 o0 o1 u0 u1 v0 v1 w0 w1 z0 z1
        have X8 := X7.below b8
        have Y8 := Y7.below b8
        have O8 := O7.below b8
        have U8 := U7.below b8
        have V8 := V7.below b8
        have W8 := W7.below b8
        have Z8 := Z7.below b8
        have T8 := T7.below b8
        have L8 := bstep L7 b8
        have ⟨x0, x1, _, _⟩ := X8
        have xz := X8.lt
        have ⟨y0, y1, _, _⟩ := Y8
        have yz := Y8.lt
        have ⟨o0, o1, _, _⟩ := O8
        have oz := O8.lt
        have ⟨u0, u1, _, _⟩ := U8
        have uz := U8.lt
        have ⟨v0, v1, _, _⟩ := V8
        have vz := V8.lt
        have ⟨w0, w1, _, _⟩ := W8
        have wz := W8.lt
        have ⟨z0, z1, _, _⟩ := Z8
        have zz := Z8.lt
        go_wp2_with fail
        go_ret
        exact ⟨rfl, L8⟩
  · have hu := Rt.add_no HX.out HY.out hok
    have HU := Lib.hid hu
    have HV := Lib.hid (Rt.add_flip HX.out HY.out hu)
    have HW := Lib.hid (Rt.add_zero' HX.out)
    clear hu hok
    as_aux_lemma =>
      have I0 : I64 0 ∧ I64 1 := ⟨⟨by omega, by omega⟩, ⟨by omega, by omega⟩⟩
      have HI0 := Lib.hid I0
      clear I0
      have Xa1 := RatAt.new w2 xn xd 23
      have Ta1 := T2.alloc (.cells #[.int .i64 xn, .int .i64 xd] 23)
      have La1 := L2.alloc L2.size (.cells #[.int .i64 xn, .int .i64 xd] 23)
      have Xa2 := Xa1.alloc (.cells #[.int .i64 yn, .int .i64 yd] 23)
      have Ya2 := RatAt.new1 w2 (.cells #[.int .i64 xn, .int .i64 xd] 23) yn yd 23
      have Ta2 := Ta1.alloc (.cells #[.int .i64 yn, .int .i64 yd] 23)
      have La2 := La1.alloc La1.size (.cells #[.int .i64 yn, .int .i64 yd] 23)
      have Xa3 := Xa2.alloc (.cells #[.int .i64 0, .int .i64 1] 23)
      have Ya3 := Ya2.alloc (.cells #[.int .i64 0, .int .i64 1] 23)
      have Oa3 := RatAt.new2 w2 (.cells #[.int .i64 xn, .int .i64 xd] 23) (.cells #[.int .i64 yn, .int .i64 yd] 23) 0 1 23
      have Ta3 := Ta2.alloc (.cells #[.int .i64 0, .int .i64 1] 23)
      have La3 := La2.alloc La2.size (.cells #[.int .i64 0, .int .i64 1] 23)
      go_wp2_with fail
      refine (add_is HU.out _ HIX.out HIY.out).mono ?_
      rintro e w3 ⟨rfl, b3⟩
      have X3 := Xa3.below b3
      have Y3 := Ya3.below b3
      have O3 := Oa3.below b3
      have T3 := Ta3.below b3
      have L3 := bstep La3 b3
      have ⟨x0, x1, _, _⟩ := X3
      have xz := X3.lt
      have ⟨y0, y1, _, _⟩ := Y3
      have yz := Y3.lt
      have ⟨o0, o1, _, _⟩ := O3
      have oz := O3.lt
      have Xa4 := X3.alloc (.cells #[.int .i64 0, .int .i64 0] 23)
      have Ya4 := Y3.alloc (.cells #[.int .i64 0, .int .i64 0] 23)
      have Oa4 := O3.alloc (.cells #[.int .i64 0, .int .i64 0] 23)
      have Ua4 := RatAt.new w3 0 0 23
      have Ta4 := T3.alloc (.cells #[.int .i64 0, .int .i64 0] 23)
      have La4 := L3.alloc L3.size (.cells #[.int .i64 0, .int .i64 0] 23)
      go_wp2_with fail
      refine (add_is HV.out _ HIY.out HIX.out).mono ?_
      rintro e w4 ⟨rfl, b4⟩
      clear x0 x1 y0 y1 o0 o1
      have X4 := Xa4.below b4
      have Y4 := Ya4.below b4
      have O4 := Oa4.below b4
      have U4 := Ua4.below b4
      have T4 := Ta4.below b4
      have L4 := bstep La4 b4
      have ⟨x0, x1, _, _⟩ := X4
      have xz := X4.lt
      have ⟨y0, y1, _, _⟩ := Y4
      have yz := Y4.lt
      have ⟨o0, o1, _, _⟩ := O4
      have oz := O4.lt
      have ⟨u0, u1, _, _⟩ := U4
      have uz := U4.lt
      have Xa5 := X4.alloc (.cells #[.int .i64 0, .int .i64 0] 23)
      have Ya5 := Y4.alloc (.cells #[.int .i64 0, .int .i64 0] 23)
      have Oa5 := O4.alloc (.cells #[.int .i64 0, .int .i64 0] 23)
      have Ua5 := U4.alloc (.cells #[.int .i64 0, .int .i64 0] 23)
      have Va5 := RatAt.new w4 0 0 23
      have Ta5 := T4.alloc (.cells #[.int .i64 0, .int .i64 0] 23)
      have La5 := L4.alloc L4.size (.cells #[.int .i64 0, .int .i64 0] 23)
      go_wp2_with fail
      refine (add_is HW.out _ HIX.out HI0.out).mono ?_
      rintro e w5 ⟨rfl, b5⟩
      clear x0 x1 y0 y1 o0 o1 u0 u1
      have X5 := Xa5.below b5
      have Y5 := Ya5.below b5
      have O5 := Oa5.below b5
      have U5 := Ua5.below b5
      have V5 := Va5.below b5
      have T5 := Ta5.below b5
      have L5 := bstep La5 b5
      have ⟨x0, x1, _, _⟩ := X5
      have xz := X5.lt
      have ⟨y0, y1, _, _⟩ := Y5
      have yz := Y5.lt
      have ⟨o0, o1, _, _⟩ := O5
      have oz := O5.lt
      have ⟨u0, u1, _, _⟩ := U5
      have uz := U5.lt
      have ⟨v0, v1, _, _⟩ := V5
      have vz := V5.lt
      have Xa6 := X5.alloc (.cells #[.int .i64 xn, .int .i64 xd] 23)
      have Ya6 := Y5.alloc (.cells #[.int .i64 xn, .int .i64 xd] 23)
      have Oa6 := O5.alloc (.cells #[.int .i64 xn, .int .i64 xd] 23)
      have Ua6 := U5.alloc (.cells #[.int .i64 xn, .int .i64 xd] 23)
      have Va6 := V5.alloc (.cells #[.int .i64 xn, .int .i64 xd] 23)
      have Wa6 := RatAt.new w5 xn xd 23
      have Ta6 := T5.alloc (.cells #[.int .i64 xn, .int .i64 xd] 23)
      have La6 := L5.alloc L5.size (.cells #[.int .i64 xn, .int .i64 xd] 23)
      go_wp2_with fail
      refine (sane_any _ Ta6).mono ?_
      rintro e w6 ⟨rfl, b6⟩
      clear x0 x1 y0 y1 o0 o1 u0 u1 v0 v1
      have X6 := Xa6.below b6
      have Y6 := Ya6.below b6
      have O6 := Oa6.below b6
      have U6 := Ua6.below b6
      have V6 := Va6.below b6
      have W6 := Wa6.below b6
      have T6 := Ta6.below b6
      have L6 := bstep La6 b6
      have ⟨x0, x1, _, _⟩ := X6
      have xz := X6.lt
      have ⟨y0, y1, _, _⟩ := Y6
      have yz := Y6.lt
      have ⟨o0, o1, _, _⟩ := O6
      have oz := O6.lt
      have ⟨u0, u1, _, _⟩ := U6
      have uz := U6.lt
      have ⟨v0, v1, _, _⟩ := V6
      have vz := V6.lt
      have ⟨w0, w1, _, _⟩ := W6
      have wz := W6.lt
      go_wp2_with fail
      go_ret
      exact ⟨rfl, L6⟩
end Go.Proofs.YtcannkndedlooaaDoor
