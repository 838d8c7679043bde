/- The law RatioProducts returns true for every five numbers. -/
import Derived.Test.YtcannkndedlooaaDoorRatL
import Derived.Test.YtcannkndedlooaaDoorRatN
namespace Go.Proofs.YtcannkndedlooaaDoor
open Go.RowKit
set_option linter.unusedVariables false
set_option linter.unusedSimpArgs false

theorem RatAt.new3 (w : World) (o o2 o3 : Obj) (n d : Int) (t : TypeId) : RatAt ((((w.alloc o).alloc o2).alloc o3).alloc (.cells #[.int .i64 n, .int .i64 d] t)) (w.heap.size + 3) n d := by
  have h := RatAt.new (((w.alloc o).alloc o2).alloc o3) n d t
  rw [show (((w.alloc o).alloc o2).alloc o3).heap.size = w.heap.size + 3 by simp] at h
  exact h
theorem RatAt.store {w : World} {b b' : Nat} {n d : Int} (h : RatAt w b n d) (hne : b ≠ b') (p q : Int) : RatAt ((w.setCell ⟨b', 0, none⟩ (.int .i64 p)).setCell ⟨b', 1, none⟩ (.int .i64 q)) b n d := by
  obtain ⟨h0, h1, h2, h3⟩ := h
  refine ⟨?_, ?_, ?_, ?_⟩ <;> simp [go_sem, h0, h1, h2, h3, hne, Ne.symm hne]
theorem RatAt.stored {w : World} {b : Nat} {n d : Int} (h : RatAt w b n d) (p q : Int) : RatAt ((w.setCell ⟨b, 0, none⟩ (.int .i64 p)).setCell ⟨b, 1, none⟩ (.int .i64 q)) b p q := by
  obtain ⟨h0, h1, h2, h3⟩ := h
  refine ⟨?_, ?_, ?_, ?_⟩ <;> simp [go_sem, h0, h1, h2, h3]

set_option maxRecDepth 100000 in
set_option maxHeartbeats 12800000 in
theorem prods_any (a b c d n : Int) (w : World) (hT : RatT w) (i1 : -9223372036854775808 ≤ a) (i2 : a ≤ 9223372036854775807) (i3 : -9223372036854775808 ≤ b) (i4 : b ≤ 9223372036854775807) (i5 : -9223372036854775808 ≤ c) (i6 : c ≤ 9223372036854775807) (i7 : -9223372036854775808 ≤ d) (i8 : d ≤ 9223372036854775807) (i9 : -9223372036854775808 ≤ n) (i10 : n ≤ 9223372036854775807) :
    Calls Tryd.prog 6 #[.int .i64 a, .int .i64 b, .int .i64 c, .int .i64 d, .int .i64 n] w fun e w' => e = .returned (.bool true) ∧ Below w.heap.size w w' := by
  obtain ⟨n1, d1, n2, d2, kk, s1, s2, s3, s4, s5, s6, s7, s8, s9, s10⟩ := Rt.small_all (P := a % 50) (Q := 1 + b % 9) (R := n % 30) (by omega) (by omega) (by omega) (by omega) (by omega) (by omega)
  have SA := Lib.hid s1
  have SB := Lib.hid s3
  have SC := Lib.hid s5
  have SD := Lib.hid s6
  have SE := Lib.hid s7
  have SF := Lib.hid s8
  have ID := Lib.hid (vld_i64 s2)
  have IS := Lib.hid (vld_i64 s4)
  have IK := Lib.hid (vld_i64 s9)
  have IP : Hid (I64 (a % 50) ∧ I64 1) := Lib.hid ⟨⟨by omega, by omega⟩, ⟨by omega, by omega⟩⟩
  have IQ : Hid (I64 (1 + b % 9) ∧ I64 1) := Lib.hid ⟨⟨by omega, by omega⟩, ⟨by omega, by omega⟩⟩
  have IR : Hid (I64 (n % 30) ∧ I64 1) := Lib.hid ⟨⟨by omega, by omega⟩, ⟨by omega, by omega⟩⟩
  have kb := s9
  have kb2 : -4611686018427387904 ≤ kk ∧ kk ≤ 4611686018427387904 := ⟨kb.2.2.1, kb.2.2.2.1⟩
  clear s1 s2 s3 s4 s5 s6 s7 s8 s9 s10 kb
  have T0 := hT
  have L0 := Below.refl w.heap.size w
  go_enter Tryd.func6, Tryd.ntmps6
  go_wp2_with fail
  refine (draw_any a b _ i1 i2 i3 i4).mono ?_
  rintro e w1 ⟨xn, xd, hx, rfl, b1⟩
  have T1 := T0.below b1
  have L1 := bstep L0 b1
  go_wp2_with fail
  refine (draw_any c d _ i5 i6 i7 i8).mono ?_
  rintro e w2 ⟨yn, yd, hy, rfl, b2⟩
  have T2 := T1.below b2
  have L2 := bstep L1 b2
  have HX := Lib.hid hx
  have HY := Lib.hid hy
  have HIX := Lib.hid (vld_i64 hx)
  have HIY := Lib.hid (vld_i64 hy)
  clear hx hy
  by_cases hok : Rt.mulOk xn xd yn yd
  · obtain ⟨p, hp⟩ : ∃ p, Rt.mulN xn xd yn yd = p := ⟨_, rfl⟩
    obtain ⟨q, hq⟩ : ∃ q, Rt.mulD xn xd yn yd = q := ⟨_, rfl⟩
    have hu := Rt.mul_ok HX.out HY.out hok
    have vu := Rt.prod_vld HX.out HY.out hok
    have hback := fun h0 => Rt.div_back HX.out HY.out hok h0
    rw [hp, hq] at vu hback hu
    have HU := Lib.hid hu
    have HV := Lib.hid (Rt.mul_flip HX.out HY.out hu)
    have HIU := Lib.hid (vld_i64 vu)
    by_cases h0 : yn = 0
    · have hz : ((yn : Int) == 0) = true := by simp [h0]
      clear hu hp hq hback vu hok h0
      as_aux_lemma =>
        have Xa1 := RatAt.new w2 xn xd 23
        have Ta1 := T2.alloc (.cells #[.int .i64 xn, .int .i64 xd] 23)
        have La1 := L2.alloc L2.size (.cells #[.int .i64 xn, .int .i64 xd] 23)
        have Xa2 := Xa1.alloc (.cells #[.int .i64 yn, .int .i64 yd] 23)
        have Ya2 := RatAt.new1 w2 (.cells #[.int .i64 xn, .int .i64 xd] 23) yn yd 23
        have Ta2 := Ta1.alloc (.cells #[.int .i64 yn, .int .i64 yd] 23)
        have La2 := La1.alloc La1.size (.cells #[.int .i64 yn, .int .i64 yd] 23)
        go_wp2_with fail
        refine (mul_is HU.out _ HIX.out HIY.out).mono ?_
        rintro e w3 ⟨rfl, b3⟩
        have X3 := Xa2.below b3
        have Y3 := Ya2.below b3
        have T3 := Ta2.below b3
        have L3 := bstep La2 b3
        have ⟨x0, x1, _, _⟩ := X3
        have xz := X3.lt
        have ⟨y0, y1, _, _⟩ := Y3
        have yz := Y3.lt
        have Xa3 := X3.alloc (.cells #[.int .i64 p, .int .i64 q] 23)
        have Ya3 := Y3.alloc (.cells #[.int .i64 p, .int .i64 q] 23)
        have Ua3 := RatAt.new w3 p q 23
        have Ta3 := T3.alloc (.cells #[.int .i64 p, .int .i64 q] 23)
        have La3 := L3.alloc L3.size (.cells #[.int .i64 p, .int .i64 q] 23)
        go_wp2_with fail
        refine (mul_is HV.out _ HIY.out HIX.out).mono ?_
        rintro e w4 ⟨rfl, b4⟩
        clear x0 x1 y0 y1
        have X4 := Xa3.below b4
        have Y4 := Ya3.below b4
        have U4 := Ua3.below b4
        have T4 := Ta3.below b4
        have L4 := bstep La3 b4
        have ⟨x0, x1, _, _⟩ := X4
        have xz := X4.lt
        have ⟨y0, y1, _, _⟩ := Y4
        have yz := Y4.lt
        have ⟨u0, u1, _, _⟩ := U4
        have uz := U4.lt
        have Xa4 := X4.alloc (.cells #[.int .i64 p, .int .i64 q] 23)
        have Ya4 := Y4.alloc (.cells #[.int .i64 p, .int .i64 q] 23)
        have Ua4 := U4.alloc (.cells #[.int .i64 p, .int .i64 q] 23)
        have Va4 := RatAt.new w4 p q 23
        have Ta4 := T4.alloc (.cells #[.int .i64 p, .int .i64 q] 23)
        have La4 := L4.alloc L4.size (.cells #[.int .i64 p, .int .i64 q] 23)
        go_wp2_with fail
        clear x0 x1 y0 y1 u0 u1
        refine (Mod_any a 50 _ i1 i2 (by omega) (by omega)).mono ?_
        rintro e w' ⟨rfl, rfl⟩
        go_wp2_with fail
        refine (Mod_any b 9 _ i3 i4 (by omega) (by omega)).mono ?_
        rintro e w' ⟨rfl, rfl⟩
        go_wp2_with fail
        refine (Mod_any n 30 _ i9 i10 (by omega) (by omega)).mono ?_
        rintro e w' ⟨rfl, rfl⟩
        go_wp2_with fail
        have Pa5 := RatAt.new1 w4 (.cells #[.int .i64 p, .int .i64 q] 23) (a % 50) 1 23
        have Ta5 := Ta4.alloc (.cells #[.int .i64 (a % 50), .int .i64 1] 23)
        have La5 := La4.alloc La4.size (.cells #[.int .i64 (a % 50), .int .i64 1] 23)
        have Pa6 := Pa5.alloc (.cells #[.int .i64 (1 + b % 9), .int .i64 1] 23)
        have Qa6 := RatAt.new2 w4 (.cells #[.int .i64 p, .int .i64 q] 23) (.cells #[.int .i64 (a % 50), .int .i64 1] 23) (1 + b % 9) 1 23
        have Ta6 := Ta5.alloc (.cells #[.int .i64 (1 + b % 9), .int .i64 1] 23)
        have La6 := La5.alloc La5.size (.cells #[.int .i64 (1 + b % 9), .int .i64 1] 23)
        have Pa7 := Pa6.alloc (.cells #[.int .i64 (n % 30), .int .i64 1] 23)
        have Qa7 := Qa6.alloc (.cells #[.int .i64 (n % 30), .int .i64 1] 23)
        have Ra7 := RatAt.new3 w4 (.cells #[.int .i64 p, .int .i64 q] 23) (.cells #[.int .i64 (a % 50), .int .i64 1] 23) (.cells #[.int .i64 (1 + b % 9), .int .i64 1] 23) (n % 30) 1 23
        have Ta7 := Ta6.alloc (.cells #[.int .i64 (n % 30), .int .i64 1] 23)
        have La7 := La6.alloc La6.size (.cells #[.int .i64 (n % 30), .int .i64 1] 23)
        refine (div_is SA.out _ IP.out IQ.out).mono ?_
        rintro e w5 ⟨rfl, b5⟩
        have P5 := Pa7.below b5
        have Q5 := Qa7.below b5
        have R5 := Ra7.below b5
        have T5 := Ta7.below b5
        have L5 := bstep La7 b5
        have ⟨p0, p1, p2, p3⟩ := P5
        have pz := P5.lt
        have ⟨q0, q1, _, _⟩ := Q5
        have qz := Q5.lt
        have ⟨r0, r1, _, _⟩ := R5
        have rz := R5.lt
        have hzP := P5.lt
        have Ps := P5.stored n1 d1
        have Qs := Q5.store (b' := (w4.heap.size + 1)) (by simp) n1 d1
        have Rs := R5.store (b' := (w4.heap.size + 1)) (by simp) n1 d1
        have Ls := (L5.setCell (p := ⟨(w4.heap.size + 1), 0, none⟩) (Nat.le_trans L4.size (by simp)) (.int .i64 n1)).setCell (p := ⟨(w4.heap.size + 1), 1, none⟩) (Nat.le_trans L4.size (by simp)) (.int .i64 d1)
        have Ts := hT.below Ls
        go_wp2_with fail
        refine (add_is SB.out _ ID.out IR.out).mono ?_
        rintro e w6 ⟨rfl, b6⟩
        clear p0 p1 q0 q1 r0 r1 p2 p3
        have P6 := Ps.below b6
        have Q6 := Qs.below b6
        have R6 := Rs.below b6
        have T6 := Ts.below b6
        have L6 := bstep Ls b6
        have ⟨p0, p1, _, _⟩ := P6
        have pz := P6.lt
        have ⟨q0, q1, _, _⟩ := Q6
        have qz := Q6.lt
        have ⟨r0, r1, _, _⟩ := R6
        have rz := R6.lt
        have Pa8 := P6.alloc (.cells #[.int .i64 n2, .int .i64 d2] 23)
        have Qa8 := Q6.alloc (.cells #[.int .i64 n2, .int .i64 d2] 23)
        have Ra8 := R6.alloc (.cells #[.int .i64 n2, .int .i64 d2] 23)
        have Sa8 := RatAt.new w6 n2 d2 23
        have Ta8 := T6.alloc (.cells #[.int .i64 n2, .int .i64 d2] 23)
        have La8 := L6.alloc L6.size (.cells #[.int .i64 n2, .int .i64 d2] 23)
        go_wp2_with fail
        refine (mul_is SC.out _ IS.out IQ.out).mono ?_
        rintro e w7 ⟨rfl, b7⟩
        clear p0 p1 q0 q1 r0 r1
        have P7 := Pa8.below b7
        have Q7 := Qa8.below b7
        have R7 := Ra8.below b7
        have S7 := Sa8.below b7
        have T7 := Ta8.below b7
        have L7 := bstep La8 b7
        have ⟨p0, p1, _, _⟩ := P7
        have pz := P7.lt
        have ⟨q0, q1, _, _⟩ := Q7
        have qz := Q7.lt
        have ⟨r0, r1, _, _⟩ := R7
        have rz := R7.lt
        have ⟨s0, s1, _, _⟩ := S7
        have sz := S7.lt
        have Pa9 := P7.alloc (.cells #[.int .i64 (a % 50 + kk), .int .i64 1] 23)
        have Qa9 := Q7.alloc (.cells #[.int .i64 (a % 50 + kk), .int .i64 1] 23)
        have Ra9 := R7.alloc (.cells #[.int .i64 (a % 50 + kk), .int .i64 1] 23)
        have Sa9 := S7.alloc (.cells #[.int .i64 (a % 50 + kk), .int .i64 1] 23)
        have Ma9 := RatAt.new w7 (a % 50 + kk) 1 23
        have Ta9 := T7.alloc (.cells #[.int .i64 (a % 50 + kk), .int .i64 1] 23)
        have La9 := L7.alloc L7.size (.cells #[.int .i64 (a % 50 + kk), .int .i64 1] 23)
        go_wp2_with fail
        refine (mul_is SD.out _ ID.out IQ.out).mono ?_
        rintro e w8 ⟨rfl, b8⟩
        clear p0 p1 q0 q1 r0 r1 s0 s1
        have P8 := Pa9.below b8
        have Q8 := Qa9.below b8
        have R8 := Ra9.below b8
        have S8 := Sa9.below b8
        have M8 := Ma9.below b8
        have T8 := Ta9.below b8
        have L8 := bstep La9 b8
        have ⟨p0, p1, _, _⟩ := P8
        have pz := P8.lt
        have ⟨q0, q1, _, _⟩ := Q8
        have qz := Q8.lt
        have ⟨r0, r1, _, _⟩ := R8
        have rz := R8.lt
        have ⟨s0, s1, _, _⟩ := S8
        have sz := S8.lt
        have ⟨m0, m1, _, _⟩ := M8
        have mz := M8.lt
        have Pa10 := P8.alloc (.cells #[.int .i64 (a % 50), .int .i64 1] 23)
        have Qa10 := Q8.alloc (.cells #[.int .i64 (a % 50), .int .i64 1] 23)
        have Ra10 := R8.alloc (.cells #[.int .i64 (a % 50), .int .i64 1] 23)
        have Sa10 := S8.alloc (.cells #[.int .i64 (a % 50), .int .i64 1] 23)
        have Ma10 := M8.alloc (.cells #[.int .i64 (a % 50), .int .i64 1] 23)
        have Na10 := RatAt.new w8 (a % 50) 1 23
        have Ta10 := T8.alloc (.cells #[.int .i64 (a % 50), .int .i64 1] 23)
        have La10 := L8.alloc L8.size (.cells #[.int .i64 (a % 50), .int .i64 1] 23)
        go_wp2_with fail
        refine (mul_is SE.out _ IR.out IQ.out).mono ?_
        rintro e w9 ⟨rfl, b9⟩
        clear p0 p1 q0 q1 r0 r1 s0 s1 m0 m1
        have P9 := Pa10.below b9
        have Q9 := Qa10.below b9
        have R9 := Ra10.below b9
        have S9 := Sa10.below b9
        have M9 := Ma10.below b9
        have N9 := Na10.below b9
        have T9 := Ta10.below b9
        have L9 := bstep La10 b9
        have ⟨p0, p1, _, _⟩ := P9
        have pz := P9.lt
        have ⟨q0, q1, _, _⟩ := Q9
        have qz := Q9.lt
        have ⟨r0, r1, _, _⟩ := R9
        have rz := R9.lt
        have ⟨s0, s1, _, _⟩ := S9
        have sz := S9.lt
        have ⟨m0, m1, _, _⟩ := M9
        have mz := M9.lt
        have ⟨n0, n1, _, _⟩ := N9
        have nz := N9.lt
        have Pa11 := P9.alloc (.cells #[.int .i64 kk, .int .i64 1] 23)
        have Qa11 := Q9.alloc (.cells #[.int .i64 kk, .int .i64 1] 23)
        have Ra11 := R9.alloc (.cells #[.int .i64 kk, .int .i64 1] 23)
        have Sa11 := S9.alloc (.cells #[.int .i64 kk, .int .i64 1] 23)
        have Ma11 := M9.alloc (.cells #[.int .i64 kk, .int .i64 1] 23)
        have Na11 := N9.alloc (.cells #[.int .i64 kk, .int .i64 1] 23)
        have Ka11 := RatAt.new w9 kk 1 23
        have Ta11 := T9.alloc (.cells #[.int .i64 kk, .int .i64 1] 23)
        have La11 := L9.alloc L9.size (.cells #[.int .i64 kk, .int .i64 1] 23)
        go_wp2_with fail
        refine (add_is SF.out _ IP.out IK.out).mono ?_
        rintro e w10 ⟨rfl, b10⟩
        clear p0 p1 q0 q1 r0 r1 s0 s1 m0 m1 n0 n1
        have P10 := Pa11.below b10
        have Q10 := Qa11.below b10
        have R10 := Ra11.below b10
        have S10 := Sa11.below b10
        have M10 := Ma11.below b10
        have N10 := Na11.below b10
        have K10 := Ka11.below b10
        have T10 := Ta11.below b10
        have L10 := bstep La11 b10
        have ⟨p0, p1, _, _⟩ := P10
        have pz := P10.lt
        have ⟨q0, q1, _, _⟩ := Q10
        have qz := Q10.lt
        have ⟨r0, r1, _, _⟩ := R10
        have rz := R10.lt
        have ⟨s0, s1, _, _⟩ := S10
        have sz := S10.lt
        have ⟨m0, m1, _, _⟩ := M10
        have mz := M10.lt
        have ⟨n0, n1, _, _⟩ := N10
        have nz := N10.lt
        have ⟨k0, k1, _, _⟩ := K10
        have kz := K10.lt
        have Pa12 := P10.alloc (.cells #[.int .i64 (a % 50 + kk), .int .i64 1] 23)
        have Qa12 := Q10.alloc (.cells #[.int .i64 (a % 50 + kk), .int .i64 1] 23)
        have Ra12 := R10.alloc (.cells #[.int .i64 (a % 50 + kk), .int .i64 1] 23)
        have Sa12 := S10.alloc (.cells #[.int .i64 (a % 50 + kk), .int .i64 1] 23)
        have Ma12 := M10.alloc (.cells #[.int .i64 (a % 50 + kk), .int .i64 1] 23)
        have Na12 := N10.alloc (.cells #[.int .i64 (a % 50 + kk), .int .i64 1] 23)
        have Ka12 := K10.alloc (.cells #[.int .i64 (a % 50 + kk), .int .i64 1] 23)
        have Za12 := RatAt.new w10 (a % 50 + kk) 1 23
        have Ta12 := T10.alloc (.cells #[.int .i64 (a % 50 + kk), .int .i64 1] 23)
        have La12 := L10.alloc L10.size (.cells #[.int .i64 (a % 50 + kk), .int .i64 1] 23)
        go_wp2_with fail
        refine (sane_any _ Ta12).mono ?_
        rintro e w11 ⟨rfl, b11⟩
        clear p0 p1 q0 q1 r0 r1 s0 s1 m0 m1 n0 n1 k0 k1
        have P11 := Pa12.below b11
        have Q11 := Qa12.below b11
        have R11 := Ra12.below b11
        have S11 := Sa12.below b11
        have M11 := Ma12.below b11
        have N11 := Na12.below b11
        have K11 := Ka12.below b11
        have Z11 := Za12.below b11
        have T11 := Ta12.below b11
        have L11 := bstep La12 b11
        have ⟨p0, p1, _, _⟩ := P11
        have pz := P11.lt
        have ⟨q0, q1, _, _⟩ := Q11
        have qz := Q11.lt
        have ⟨r0, r1, _, _⟩ := R11
        have rz := R11.lt
        have ⟨s0, s1, _, _⟩ := S11
        have sz := S11.lt
        have ⟨m0, m1, _, _⟩ := M11
        have mz := M11.lt
        have ⟨n0, n1, _, _⟩ := N11
        have nz := N11.lt
        have ⟨k0, k1, _, _⟩ := K11
        have kz := K11.lt
        have ⟨z0, z1, _, _⟩ := Z11
        have zz := Z11.lt
        go_wp2_with fail
        go_ret
        exact ⟨rfl, L11⟩
    · have HW := Lib.hid (hback h0)
      have hz : ((yn : Int) == 0) = false := by simp [h0]
      clear hu hp hq hback vu hok h0
      as_aux_lemma =>
        have Xa1 := RatAt.new w2 xn xd 23
        have Ta1 := T2.alloc (.cells #[.int .i64 xn, .int .i64 xd] 23)
        have La1 := L2.alloc L2.size (.cells #[.int .i64 xn, .int .i64 xd] 23)
        have Xa2 := Xa1.alloc (.cells #[.int .i64 yn, .int .i64 yd] 23)
        have Ya2 := RatAt.new1 w2 (.cells #[.int .i64 xn, .int .i64 xd] 23) yn yd 23
        have Ta2 := Ta1.alloc (.cells #[.int .i64 yn, .int .i64 yd] 23)
        have La2 := La1.alloc La1.size (.cells #[.int .i64 yn, .int .i64 yd] 23)
        go_wp2_with fail
        refine (mul_is HU.out _ HIX.out HIY.out).mono ?_
        rintro e w3 ⟨rfl, b3⟩
        have X3 := Xa2.below b3
        have Y3 := Ya2.below b3
        have T3 := Ta2.below b3
        have L3 := bstep La2 b3
        have ⟨x0, x1, _, _⟩ := X3
        have xz := X3.lt
        have ⟨y0, y1, _, _⟩ := Y3
        have yz := Y3.lt
        have Xa3 := X3.alloc (.cells #[.int .i64 p, .int .i64 q] 23)
        have Ya3 := Y3.alloc (.cells #[.int .i64 p, .int .i64 q] 23)
        have Ua3 := RatAt.new w3 p q 23
        have Ta3 := T3.alloc (.cells #[.int .i64 p, .int .i64 q] 23)
        have La3 := L3.alloc L3.size (.cells #[.int .i64 p, .int .i64 q] 23)
        go_wp2_with fail
        refine (mul_is HV.out _ HIY.out HIX.out).mono ?_
        rintro e w4 ⟨rfl, b4⟩
        clear x0 x1 y0 y1
        have X4 := Xa3.below b4
        have Y4 := Ya3.below b4
        have U4 := Ua3.below b4
        have T4 := Ta3.below b4
        have L4 := bstep La3 b4
        have ⟨x0, x1, _, _⟩ := X4
        have xz := X4.lt
        have ⟨y0, y1, _, _⟩ := Y4
        have yz := Y4.lt
        have ⟨u0, u1, _, _⟩ := U4
        have uz := U4.lt
        have Xa4 := X4.alloc (.cells #[.int .i64 p, .int .i64 q] 23)
        have Ya4 := Y4.alloc (.cells #[.int .i64 p, .int .i64 q] 23)
        have Ua4 := U4.alloc (.cells #[.int .i64 p, .int .i64 q] 23)
        have Va4 := RatAt.new w4 p q 23
        have Ta4 := T4.alloc (.cells #[.int .i64 p, .int .i64 q] 23)
        have La4 := L4.alloc L4.size (.cells #[.int .i64 p, .int .i64 q] 23)
        go_wp2_with fail
        refine (div_is HW.out _ HIU.out HIY.out).mono ?_
        rintro e w5 ⟨rfl, b5⟩
        clear x0 x1 y0 y1 u0 u1
        have X5 := Xa4.below b5
        have Y5 := Ya4.below b5
        have U5 := Ua4.below b5
        have V5 := Va4.below b5
        have T5 := Ta4.below b5
        have L5 := bstep La4 b5
        have ⟨x0, x1, _, _⟩ := X5
        have xz := X5.lt
        have ⟨y0, y1, _, _⟩ := Y5
        have yz := Y5.lt
        have ⟨u0, u1, _, _⟩ := U5
        have uz := U5.lt
        have ⟨v0, v1, _, _⟩ := V5
        have vz := V5.lt
        have Xa5 := X5.alloc (.cells #[.int .i64 xn, .int .i64 xd] 23)
        have Ya5 := Y5.alloc (.cells #[.int .i64 xn, .int .i64 xd] 23)
        have Ua5 := U5.alloc (.cells #[.int .i64 xn, .int .i64 xd] 23)
        have Va5 := V5.alloc (.cells #[.int .i64 xn, .int .i64 xd] 23)
        have Wa5 := RatAt.new w5 xn xd 23
        have Ta5 := T5.alloc (.cells #[.int .i64 xn, .int .i64 xd] 23)
        have La5 := L5.alloc L5.size (.cells #[.int .i64 xn, .int .i64 xd] 23)
        go_wp2_with fail
        clear x0 x1 y0 y1 u0 u1 v0 v1
        refine (Mod_any a 50 _ i1 i2 (by omega) (by omega)).mono ?_
        rintro e w' ⟨rfl, rfl⟩
        go_wp2_with fail
        refine (Mod_any b 9 _ i3 i4 (by omega) (by omega)).mono ?_
        rintro e w' ⟨rfl, rfl⟩
        go_wp2_with fail
        refine (Mod_any n 30 _ i9 i10 (by omega) (by omega)).mono ?_
        rintro e w' ⟨rfl, rfl⟩
        go_wp2_with fail
        have Pa6 := RatAt.new1 w5 (.cells #[.int .i64 xn, .int .i64 xd] 23) (a % 50) 1 23
        have Ta6 := Ta5.alloc (.cells #[.int .i64 (a % 50), .int .i64 1] 23)
        have La6 := La5.alloc La5.size (.cells #[.int .i64 (a % 50), .int .i64 1] 23)
        have Pa7 := Pa6.alloc (.cells #[.int .i64 (1 + b % 9), .int .i64 1] 23)
        have Qa7 := RatAt.new2 w5 (.cells #[.int .i64 xn, .int .i64 xd] 23) (.cells #[.int .i64 (a % 50), .int .i64 1] 23) (1 + b % 9) 1 23
        have Ta7 := Ta6.alloc (.cells #[.int .i64 (1 + b % 9), .int .i64 1] 23)
        have La7 := La6.alloc La6.size (.cells #[.int .i64 (1 + b % 9), .int .i64 1] 23)
        have Pa8 := Pa7.alloc (.cells #[.int .i64 (n % 30), .int .i64 1] 23)
        have Qa8 := Qa7.alloc (.cells #[.int .i64 (n % 30), .int .i64 1] 23)
        have Ra8 := RatAt.new3 w5 (.cells #[.int .i64 xn, .int .i64 xd] 23) (.cells #[.int .i64 (a % 50), .int .i64 1] 23) (.cells #[.int .i64 (1 + b % 9), .int .i64 1] 23) (n % 30) 1 23
        have Ta8 := Ta7.alloc (.cells #[.int .i64 (n % 30), .int .i64 1] 23)
        have La8 := La7.alloc La7.size (.cells #[.int .i64 (n % 30), .int .i64 1] 23)
        refine (div_is SA.out _ IP.out IQ.out).mono ?_
        rintro e w6 ⟨rfl, b6⟩
        have P6 := Pa8.below b6
        have Q6 := Qa8.below b6
        have R6 := Ra8.below b6
        have T6 := Ta8.below b6
        have L6 := bstep La8 b6
        have ⟨p0, p1, p2, p3⟩ := P6
        have pz := P6.lt
        have ⟨q0, q1, _, _⟩ := Q6
        have qz := Q6.lt
        have ⟨r0, r1, _, _⟩ := R6
        have rz := R6.lt
        have hzP := P6.lt
        have Ps := P6.stored n1 d1
        have Qs := Q6.store (b' := (w5.heap.size + 1)) (by simp) n1 d1
        have Rs := R6.store (b' := (w5.heap.size + 1)) (by simp) n1 d1
        have Ls := (L6.setCell (p := ⟨(w5.heap.size + 1), 0, none⟩) (Nat.le_trans L5.size (by simp)) (.int .i64 n1)).setCell (p := ⟨(w5.heap.size + 1), 1, none⟩) (Nat.le_trans L5.size (by simp)) (.int .i64 d1)
        have Ts := hT.below Ls
        go_wp2_with fail
        refine (add_is SB.out _ ID.out IR.out).mono ?_
        rintro e w7 ⟨rfl, b7⟩
        clear p0 p1 q0 q1 r0 r1 p2 p3
        have P7 := Ps.below b7
        have Q7 := Qs.below b7
        have R7 := Rs.below b7
        have T7 := Ts.below b7
        have L7 := bstep Ls b7
        have ⟨p0, p1, _, _⟩ := P7
        have pz := P7.lt
        have ⟨q0, q1, _, _⟩ := Q7
        have qz := Q7.lt
        have ⟨r0, r1, _, _⟩ := R7
        have rz := R7.lt
        have Pa9 := P7.alloc (.cells #[.int .i64 n2, .int .i64 d2] 23)
        have Qa9 := Q7.alloc (.cells #[.int .i64 n2, .int .i64 d2] 23)
        have Ra9 := R7.alloc (.cells #[.int .i64 n2, .int .i64 d2] 23)
        have Sa9 := RatAt.new w7 n2 d2 23
        have Ta9 := T7.alloc (.cells #[.int .i64 n2, .int .i64 d2] 23)
        have La9 := L7.alloc L7.size (.cells #[.int .i64 n2, .int .i64 d2] 23)
        go_wp2_with fail
        refine (mul_is SC.out _ IS.out IQ.out).mono ?_
        rintro e w8 ⟨rfl, b8⟩
        clear p0 p1 q0 q1 r0 r1
        have P8 := Pa9.below b8
        have Q8 := Qa9.below b8
        have R8 := Ra9.below b8
        have S8 := Sa9.below b8
        have T8 := Ta9.below b8
        have L8 := bstep La9 b8
        have ⟨p0, p1, _, _⟩ := P8
        have pz := P8.lt
        have ⟨q0, q1, _, _⟩ := Q8
        have qz := Q8.lt
        have ⟨r0, r1, _, _⟩ := R8
        have rz := R8.lt
        have ⟨s0, s1, _, _⟩ := S8
        have sz := S8.lt
        have Pa10 := P8.alloc (.cells #[.int .i64 (a % 50 + kk), .int .i64 1] 23)
        have Qa10 := Q8.alloc (.cells #[.int .i64 (a % 50 + kk), .int .i64 1] 23)
        have Ra10 := R8.alloc (.cells #[.int .i64 (a % 50 + kk), .int .i64 1] 23)
        have Sa10 := S8.alloc (.cells #[.int .i64 (a % 50 + kk), .int .i64 1] 23)
        have Ma10 := RatAt.new w8 (a % 50 + kk) 1 23
        have Ta10 := T8.alloc (.cells #[.int .i64 (a % 50 + kk), .int .i64 1] 23)
        have La10 := L8.alloc L8.size (.cells #[.int .i64 (a % 50 + kk), .int .i64 1] 23)
        go_wp2_with fail
        refine (mul_is SD.out _ ID.out IQ.out).mono ?_
        rintro e w9 ⟨rfl, b9⟩
        clear p0 p1 q0 q1 r0 r1 s0 s1
        have P9 := Pa10.below b9
        have Q9 := Qa10.below b9
        have R9 := Ra10.below b9
        have S9 := Sa10.below b9
        have M9 := Ma10.below b9
        have T9 := Ta10.below b9
        have L9 := bstep La10 b9
        have ⟨p0, p1, _, _⟩ := P9
        have pz := P9.lt
        have ⟨q0, q1, _, _⟩ := Q9
        have qz := Q9.lt
        have ⟨r0, r1, _, _⟩ := R9
        have rz := R9.lt
        have ⟨s0, s1, _, _⟩ := S9
        have sz := S9.lt
        have ⟨m0, m1, _, _⟩ := M9
        have mz := M9.lt
        have Pa11 := P9.alloc (.cells #[.int .i64 (a % 50), .int .i64 1] 23)
        have Qa11 := Q9.alloc (.cells #[.int .i64 (a % 50), .int .i64 1] 23)
        have Ra11 := R9.alloc (.cells #[.int .i64 (a % 50), .int .i64 1] 23)
        have Sa11 := S9.alloc (.cells #[.int .i64 (a % 50), .int .i64 1] 23)
        have Ma11 := M9.alloc (.cells #[.int .i64 (a % 50), .int .i64 1] 23)
        have Na11 := RatAt.new w9 (a % 50) 1 23
        have Ta11 := T9.alloc (.cells #[.int .i64 (a % 50), .int .i64 1] 23)
        have La11 := L9.alloc L9.size (.cells #[.int .i64 (a % 50), .int .i64 1] 23)
        go_wp2_with fail
        refine (mul_is SE.out _ IR.out IQ.out).mono ?_
        rintro e w10 ⟨rfl, b10⟩
        clear p0 p1 q0 q1 r0 r1 s0 s1 m0 m1
        have P10 := Pa11.below b10
        have Q10 := Qa11.below b10
        have R10 := Ra11.below b10
        have S10 := Sa11.below b10
        have M10 := Ma11.below b10
        have N10 := Na11.below b10
        have T10 := Ta11.below b10
        have L10 := bstep La11 b10
        have ⟨p0, p1, _, _⟩ := P10
        have pz := P10.lt
        have ⟨q0, q1, _, _⟩ := Q10
        have qz := Q10.lt
        have ⟨r0, r1, _, _⟩ := R10
        have rz := R10.lt
        have ⟨s0, s1, _, _⟩ := S10
        have sz := S10.lt
        have ⟨m0, m1, _, _⟩ := M10
        have mz := M10.lt
        have ⟨n0, n1, _, _⟩ := N10
        have nz := N10.lt
        have Pa12 := P10.alloc (.cells #[.int .i64 kk, .int .i64 1] 23)
        have Qa12 := Q10.alloc (.cells #[.int .i64 kk, .int .i64 1] 23)
        have Ra12 := R10.alloc (.cells #[.int .i64 kk, .int .i64 1] 23)
        have Sa12 := S10.alloc (.cells #[.int .i64 kk, .int .i64 1] 23)
        have Ma12 := M10.alloc (.cells #[.int .i64 kk, .int .i64 1] 23)
        have Na12 := N10.alloc (.cells #[.int .i64 kk, .int .i64 1] 23)
        have Ka12 := RatAt.new w10 kk 1 23
        have Ta12 := T10.alloc (.cells #[.int .i64 kk, .int .i64 1] 23)
        have La12 := L10.alloc L10.size (.cells #[.int .i64 kk, .int .i64 1] 23)
        go_wp2_with fail
        refine (add_is SF.out _ IP.out IK.out).mono ?_
        rintro e w11 ⟨rfl, b11⟩
        clear p0 p1 q0 q1 r0 r1 s0 s1 m0 m1 n0 n1
        have P11 := Pa12.below b11
        have Q11 := Qa12.below b11
        have R11 := Ra12.below b11
        have S11 := Sa12.below b11
        have M11 := Ma12.below b11
        have N11 := Na12.below b11
        have K11 := Ka12.below b11
        have T11 := Ta12.below b11
        have L11 := bstep La12 b11
        have ⟨p0, p1, _, _⟩ := P11
        have pz := P11.lt
        have ⟨q0, q1, _, _⟩ := Q11
        have qz := Q11.lt
        have ⟨r0, r1, _, _⟩ := R11
        have rz := R11.lt
        have ⟨s0, s1, _, _⟩ := S11
        have sz := S11.lt
        have ⟨m0, m1, _, _⟩ := M11
        have mz := M11.lt
        have ⟨n0, n1, _, _⟩ := N11
        have nz := N11.lt
        have ⟨k0, k1, _, _⟩ := K11
        have kz := K11.lt
        have Pa13 := P11.alloc (.cells #[.int .i64 (a % 50 + kk), .int .i64 1] 23)
        have Qa13 := Q11.alloc (.cells #[.int .i64 (a % 50 + kk), .int .i64 1] 23)
        have Ra13 := R11.alloc (.cells #[.int .i64 (a % 50 + kk), .int .i64 1] 23)
        have Sa13 := S11.alloc (.cells #[.int .i64 (a % 50 + kk), .int .i64 1] 23)
        have Ma13 := M11.alloc (.cells #[.int .i64 (a % 50 + kk), .int .i64 1] 23)
        have Na13 := N11.alloc (.cells #[.int .i64 (a % 50 + kk), .int .i64 1] 23)
        have Ka13 := K11.alloc (.cells #[.int .i64 (a % 50 + kk), .int .i64 1] 23)
        have Za13 := RatAt.new w11 (a % 50 + kk) 1 23
        have Ta13 := T11.alloc (.cells #[.int .i64 (a % 50 + kk), .int .i64 1] 23)
        have La13 := L11.alloc L11.size (.cells #[.int .i64 (a % 50 + kk), .int .i64 1] 23)
        go_wp2_with fail
        refine (sane_any _ Ta13).mono ?_
        rintro e w12 ⟨rfl, b12⟩
        clear p0 p1 q0 q1 r0 r1 s0 s1 m0 m1 n0 n1 k0 k1
        have P12 := Pa13.below b12
        have Q12 := Qa13.below b12
        have R12 := Ra13.below b12
        have S12 := Sa13.below b12
        have M12 := Ma13.below b12
        have N12 := Na13.below b12
        have K12 := Ka13.below b12
        have Z12 := Za13.below b12
        have T12 := Ta13.below b12
        have L12 := bstep La13 b12
        have ⟨p0, p1, _, _⟩ := P12
        have pz := P12.lt
        have ⟨q0, q1, _, _⟩ := Q12
        have qz := Q12.lt
        have ⟨r0, r1, _, _⟩ := R12
        have rz := R12.lt
        have ⟨s0, s1, _, _⟩ := S12
        have sz := S12.lt
        have ⟨m0, m1, _, _⟩ := M12
        have mz := M12.lt
        have ⟨n0, n1, _, _⟩ := N12
        have nz := N12.lt
        have ⟨k0, k1, _, _⟩ := K12
        have kz := K12.lt
        have ⟨z0, z1, _, _⟩ := Z12
        have zz := Z12.lt
        go_wp2_with fail
        go_ret
        exact ⟨rfl, L12⟩
  · have hu := Rt.mul_no HX.out HY.out hok
    have HU := Lib.hid hu
    have HV := Lib.hid (Rt.mul_flip HX.out HY.out hu)
    clear hu hok
    as_aux_lemma =>
      have Xa1 := RatAt.new w2 xn xd 23
      have Ta1 := T2.alloc (.cells #[.int .i64 xn, .int .i64 xd] 23)
      have La1 := L2.alloc L2.size (.cells #[.int .i64 xn, .int .i64 xd] 23)
      have Xa2 := Xa1.alloc (.cells #[.int .i64 yn, .int .i64 yd] 23)
      have Ya2 := RatAt.new1 w2 (.cells #[.int .i64 xn, .int .i64 xd] 23) yn yd 23
      have Ta2 := Ta1.alloc (.cells #[.int .i64 yn, .int .i64 yd] 23)
      have La2 := La1.alloc La1.size (.cells #[.int .i64 yn, .int .i64 yd] 23)
      go_wp2_with fail
      refine (mul_is HU.out _ HIX.out HIY.out).mono ?_
      rintro e w3 ⟨rfl, b3⟩
      have X3 := Xa2.below b3
      have Y3 := Ya2.below b3
      have T3 := Ta2.below b3
      have L3 := bstep La2 b3
      have ⟨x0, x1, _, _⟩ := X3
      have xz := X3.lt
      have ⟨y0, y1, _, _⟩ := Y3
      have yz := Y3.lt
      have Xa3 := X3.alloc (.cells #[.int .i64 0, .int .i64 0] 23)
      have Ya3 := Y3.alloc (.cells #[.int .i64 0, .int .i64 0] 23)
      have Ua3 := RatAt.new w3 0 0 23
      have Ta3 := T3.alloc (.cells #[.int .i64 0, .int .i64 0] 23)
      have La3 := L3.alloc L3.size (.cells #[.int .i64 0, .int .i64 0] 23)
      go_wp2_with fail
      refine (mul_is HV.out _ HIY.out HIX.out).mono ?_
      rintro e w4 ⟨rfl, b4⟩
      clear x0 x1 y0 y1
      have X4 := Xa3.below b4
      have Y4 := Ya3.below b4
      have U4 := Ua3.below b4
      have T4 := Ta3.below b4
      have L4 := bstep La3 b4
      have ⟨x0, x1, _, _⟩ := X4
      have xz := X4.lt
      have ⟨y0, y1, _, _⟩ := Y4
      have yz := Y4.lt
      have ⟨u0, u1, _, _⟩ := U4
      have uz := U4.lt
      have Xa4 := X4.alloc (.cells #[.int .i64 0, .int .i64 0] 23)
      have Ya4 := Y4.alloc (.cells #[.int .i64 0, .int .i64 0] 23)
      have Ua4 := U4.alloc (.cells #[.int .i64 0, .int .i64 0] 23)
      have Va4 := RatAt.new w4 0 0 23
      have Ta4 := T4.alloc (.cells #[.int .i64 0, .int .i64 0] 23)
      have La4 := L4.alloc L4.size (.cells #[.int .i64 0, .int .i64 0] 23)
      go_wp2_with fail
      clear x0 x1 y0 y1 u0 u1
      refine (Mod_any a 50 _ i1 i2 (by omega) (by omega)).mono ?_
      rintro e w' ⟨rfl, rfl⟩
      go_wp2_with fail
      refine (Mod_any b 9 _ i3 i4 (by omega) (by omega)).mono ?_
      rintro e w' ⟨rfl, rfl⟩
      go_wp2_with fail
      refine (Mod_any n 30 _ i9 i10 (by omega) (by omega)).mono ?_
      rintro e w' ⟨rfl, rfl⟩
      go_wp2_with fail
      have Pa5 := RatAt.new1 w4 (.cells #[.int .i64 0, .int .i64 0] 23) (a % 50) 1 23
      have Ta5 := Ta4.alloc (.cells #[.int .i64 (a % 50), .int .i64 1] 23)
      have La5 := La4.alloc La4.size (.cells #[.int .i64 (a % 50), .int .i64 1] 23)
      have Pa6 := Pa5.alloc (.cells #[.int .i64 (1 + b % 9), .int .i64 1] 23)
      have Qa6 := RatAt.new2 w4 (.cells #[.int .i64 0, .int .i64 0] 23) (.cells #[.int .i64 (a % 50), .int .i64 1] 23) (1 + b % 9) 1 23
      have Ta6 := Ta5.alloc (.cells #[.int .i64 (1 + b % 9), .int .i64 1] 23)
      have La6 := La5.alloc La5.size (.cells #[.int .i64 (1 + b % 9), .int .i64 1] 23)
      have Pa7 := Pa6.alloc (.cells #[.int .i64 (n % 30), .int .i64 1] 23)
      have Qa7 := Qa6.alloc (.cells #[.int .i64 (n % 30), .int .i64 1] 23)
      have Ra7 := RatAt.new3 w4 (.cells #[.int .i64 0, .int .i64 0] 23) (.cells #[.int .i64 (a % 50), .int .i64 1] 23) (.cells #[.int .i64 (1 + b % 9), .int .i64 1] 23) (n % 30) 1 23
      have Ta7 := Ta6.alloc (.cells #[.int .i64 (n % 30), .int .i64 1] 23)
      have La7 := La6.alloc La6.size (.cells #[.int .i64 (n % 30), .int .i64 1] 23)
      refine (div_is SA.out _ IP.out IQ.out).mono ?_
      rintro e w5 ⟨rfl, b5⟩
      have P5 := Pa7.below b5
      have Q5 := Qa7.below b5
      have R5 := Ra7.below b5
      have T5 := Ta7.below b5
      have L5 := bstep La7 b5
      have ⟨p0, p1, p2, p3⟩ := P5
      have pz := P5.lt
      have ⟨q0, q1, _, _⟩ := Q5
      have qz := Q5.lt
      have ⟨r0, r1, _, _⟩ := R5
      have rz := R5.lt
      have hzP := P5.lt
      have Ps := P5.stored n1 d1
      have Qs := Q5.store (b' := (w4.heap.size + 1)) (by simp) n1 d1
      have Rs := R5.store (b' := (w4.heap.size + 1)) (by simp) n1 d1
      have Ls := (L5.setCell (p := ⟨(w4.heap.size + 1), 0, none⟩) (Nat.le_trans L4.size (by simp)) (.int .i64 n1)).setCell (p := ⟨(w4.heap.size + 1), 1, none⟩) (Nat.le_trans L4.size (by simp)) (.int .i64 d1)
      have Ts := hT.below Ls
      go_wp2_with fail
      refine (add_is SB.out _ ID.out IR.out).mono ?_
      rintro e w6 ⟨rfl, b6⟩
      clear p0 p1 q0 q1 r0 r1 p2 p3
      have P6 := Ps.below b6
      have Q6 := Qs.below b6
      have R6 := Rs.below b6
      have T6 := Ts.below b6
      have L6 := bstep Ls b6
      have ⟨p0, p1, _, _⟩ := P6
      have pz := P6.lt
      have ⟨q0, q1, _, _⟩ := Q6
      have qz := Q6.lt
      have ⟨r0, r1, _, _⟩ := R6
      have rz := R6.lt
      have Pa8 := P6.alloc (.cells #[.int .i64 n2, .int .i64 d2] 23)
      have Qa8 := Q6.alloc (.cells #[.int .i64 n2, .int .i64 d2] 23)
      have Ra8 := R6.alloc (.cells #[.int .i64 n2, .int .i64 d2] 23)
      have Sa8 := RatAt.new w6 n2 d2 23
      have Ta8 := T6.alloc (.cells #[.int .i64 n2, .int .i64 d2] 23)
      have La8 := L6.alloc L6.size (.cells #[.int .i64 n2, .int .i64 d2] 23)
      go_wp2_with fail
      refine (mul_is SC.out _ IS.out IQ.out).mono ?_
      rintro e w7 ⟨rfl, b7⟩
      clear p0 p1 q0 q1 r0 r1
      have P7 := Pa8.below b7
      have Q7 := Qa8.below b7
      have R7 := Ra8.below b7
      have S7 := Sa8.below b7
      have T7 := Ta8.below b7
      have L7 := bstep La8 b7
      have ⟨p0, p1, _, _⟩ := P7
      have pz := P7.lt
      have ⟨q0, q1, _, _⟩ := Q7
      have qz := Q7.lt
      have ⟨r0, r1, _, _⟩ := R7
      have rz := R7.lt
      have ⟨s0, s1, _, _⟩ := S7
      have sz := S7.lt
      have Pa9 := P7.alloc (.cells #[.int .i64 (a % 50 + kk), .int .i64 1] 23)
      have Qa9 := Q7.alloc (.cells #[.int .i64 (a % 50 + kk), .int .i64 1] 23)
      have Ra9 := R7.alloc (.cells #[.int .i64 (a % 50 + kk), .int .i64 1] 23)
      have Sa9 := S7.alloc (.cells #[.int .i64 (a % 50 + kk), .int .i64 1] 23)
      have Ma9 := RatAt.new w7 (a % 50 + kk) 1 23
      have Ta9 := T7.alloc (.cells #[.int .i64 (a % 50 + kk), .int .i64 1] 23)
      have La9 := L7.alloc L7.size (.cells #[.int .i64 (a % 50 + kk), .int .i64 1] 23)
      go_wp2_with fail
      refine (mul_is SD.out _ ID.out IQ.out).mono ?_
      rintro e w8 ⟨rfl, b8⟩
      clear p0 p1 q0 q1 r0 r1 s0 s1
      have P8 := Pa9.below b8
      have Q8 := Qa9.below b8
      have R8 := Ra9.below b8
      have S8 := Sa9.below b8
      have M8 := Ma9.below b8
      have T8 := Ta9.below b8
      have L8 := bstep La9 b8
      have ⟨p0, p1, _, _⟩ := P8
      have pz := P8.lt
      have ⟨q0, q1, _, _⟩ := Q8
      have qz := Q8.lt
      have ⟨r0, r1, _, _⟩ := R8
      have rz := R8.lt
      have ⟨s0, s1, _, _⟩ := S8
      have sz := S8.lt
      have ⟨m0, m1, _, _⟩ := M8
      have mz := M8.lt
      have Pa10 := P8.alloc (.cells #[.int .i64 (a % 50), .int .i64 1] 23)
      have Qa10 := Q8.alloc (.cells #[.int .i64 (a % 50), .int .i64 1] 23)
      have Ra10 := R8.alloc (.cells #[.int .i64 (a % 50), .int .i64 1] 23)
      have Sa10 := S8.alloc (.cells #[.int .i64 (a % 50), .int .i64 1] 23)
      have Ma10 := M8.alloc (.cells #[.int .i64 (a % 50), .int .i64 1] 23)
      have Na10 := RatAt.new w8 (a % 50) 1 23
      have Ta10 := T8.alloc (.cells #[.int .i64 (a % 50), .int .i64 1] 23)
      have La10 := L8.alloc L8.size (.cells #[.int .i64 (a % 50), .int .i64 1] 23)
      go_wp2_with fail
      refine (mul_is SE.out _ IR.out IQ.out).mono ?_
      rintro e w9 ⟨rfl, b9⟩
      clear p0 p1 q0 q1 r0 r1 s0 s1 m0 m1
      have P9 := Pa10.below b9
      have Q9 := Qa10.below b9
      have R9 := Ra10.below b9
      have S9 := Sa10.below b9
      have M9 := Ma10.below b9
      have N9 := Na10.below b9
      have T9 := Ta10.below b9
      have L9 := bstep La10 b9
      have ⟨p0, p1, _, _⟩ := P9
      have pz := P9.lt
      have ⟨q0, q1, _, _⟩ := Q9
      have qz := Q9.lt
      have ⟨r0, r1, _, _⟩ := R9
      have rz := R9.lt
      have ⟨s0, s1, _, _⟩ := S9
      have sz := S9.lt
      have ⟨m0, m1, _, _⟩ := M9
      have mz := M9.lt
      have ⟨n0, n1, _, _⟩ := N9
      have nz := N9.lt
      have Pa11 := P9.alloc (.cells #[.int .i64 kk, .int .i64 1] 23)
      have Qa11 := Q9.alloc (.cells #[.int .i64 kk, .int .i64 1] 23)
      have Ra11 := R9.alloc (.cells #[.int .i64 kk, .int .i64 1] 23)
      have Sa11 := S9.alloc (.cells #[.int .i64 kk, .int .i64 1] 23)
      have Ma11 := M9.alloc (.cells #[.int .i64 kk, .int .i64 1] 23)
      have Na11 := N9.alloc (.cells #[.int .i64 kk, .int .i64 1] 23)
      have Ka11 := RatAt.new w9 kk 1 23
      have Ta11 := T9.alloc (.cells #[.int .i64 kk, .int .i64 1] 23)
      have La11 := L9.alloc L9.size (.cells #[.int .i64 kk, .int .i64 1] 23)
      go_wp2_with fail
      refine (add_is SF.out _ IP.out IK.out).mono ?_
      rintro e w10 ⟨rfl, b10⟩
      clear p0 p1 q0 q1 r0 r1 s0 s1 m0 m1 n0 n1
      have P10 := Pa11.below b10
      have Q10 := Qa11.below b10
      have R10 := Ra11.below b10
      have S10 := Sa11.below b10
      have M10 := Ma11.below b10
      have N10 := Na11.below b10
      have K10 := Ka11.below b10
      have T10 := Ta11.below b10
      have L10 := bstep La11 b10
      have ⟨p0, p1, _, _⟩ := P10
      have pz := P10.lt
      have ⟨q0, q1, _, _⟩ := Q10
      have qz := Q10.lt
      have ⟨r0, r1, _, _⟩ := R10
      have rz := R10.lt
      have ⟨s0, s1, _, _⟩ := S10
      have sz := S10.lt
      have ⟨m0, m1, _, _⟩ := M10
      have mz := M10.lt
      have ⟨n0, n1, _, _⟩ := N10
      have nz := N10.lt
      have ⟨k0, k1, _, _⟩ := K10
      have kz := K10.lt
      have Pa12 := P10.alloc (.cells #[.int .i64 (a % 50 + kk), .int .i64 1] 23)
      have Qa12 := Q10.alloc (.cells #[.int .i64 (a % 50 + kk), .int .i64 1] 23)
      have Ra12 := R10.alloc (.cells #[.int .i64 (a % 50 + kk), .int .i64 1] 23)
      have Sa12 := S10.alloc (.cells #[.int .i64 (a % 50 + kk), .int .i64 1] 23)
      have Ma12 := M10.alloc (.cells #[.int .i64 (a % 50 + kk), .int .i64 1] 23)
      have Na12 := N10.alloc (.cells #[.int .i64 (a % 50 + kk), .int .i64 1] 23)
      have Ka12 := K10.alloc (.cells #[.int .i64 (a % 50 + kk), .int .i64 1] 23)
      have Za12 := RatAt.new w10 (a % 50 + kk) 1 23
      have Ta12 := T10.alloc (.cells #[.int .i64 (a % 50 + kk), .int .i64 1] 23)
      have La12 := L10.alloc L10.size (.cells #[.int .i64 (a % 50 + kk), .int .i64 1] 23)
      go_wp2_with fail
      refine (sane_any _ Ta12).mono ?_
      rintro e w11 ⟨rfl, b11⟩
      clear p0 p1 q0 q1 r0 r1 s0 s1 m0 m1 n0 n1 k0 k1
      have P11 := Pa12.below b11
      have Q11 := Qa12.below b11
      have R11 := Ra12.below b11
      have S11 := Sa12.below b11
      have M11 := Ma12.below b11
      have N11 := Na12.below b11
      have K11 := Ka12.below b11
      have Z11 := Za12.below b11
      have T11 := Ta12.below b11
      have L11 := bstep La12 b11
      have ⟨p0, p1, _, _⟩ := P11
      have pz := P11.lt
      have ⟨q0, q1, _, _⟩ := Q11
      have qz := Q11.lt
      have ⟨r0, r1, _, _⟩ := R11
      have rz := R11.lt
      have ⟨s0, s1, _, _⟩ := S11
      have sz := S11.lt
      have ⟨m0, m1, _, _⟩ := M11
      have mz := M11.lt
      have ⟨n0, n1, _, _⟩ := N11
      have nz := N11.lt
      have ⟨k0, k1, _, _⟩ := K11
      have kz := K11.lt
      have ⟨z0, z1, _, _⟩ := Z11
      have zz := Z11.lt
      go_wp2_with fail
      go_ret
      exact ⟨rfl, L11⟩
end Go.Proofs.YtcannkndedlooaaDoor
