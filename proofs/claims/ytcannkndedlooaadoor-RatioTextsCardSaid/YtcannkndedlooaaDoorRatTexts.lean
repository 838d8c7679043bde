/- The law RatioTexts returns true for every text and every two numbers. -/
import Derived.Test.YtcannkndedlooaaDoorRatL
namespace Go.Proofs.YtcannkndedlooaaDoor
open Go.RowKit
set_option linter.unusedVariables false
set_option linter.unusedSimpArgs false

theorem rparse_is {s : ByteArray} {p q e : Int} (h : ∀ w, RatT w → Calls Tryd.prog 27 #[.string s] w (Ret3 (p, q, e) w)) (w : World) (hT : RatT w) :
    Calls Tryd.prog 27 #[.string s] w fun x w' => x = .returned (.tuple #[.agg #[.int .i64 p, .int .i64 q], .int .i64 e]) ∧ Below w.heap.size w w' := h w hT

set_option maxRecDepth 100000 in
set_option maxHeartbeats 1600000 in
theorem texts_long (s0 : ByteArray) (c d : Int) (w : World) (hT : RatT w) (hs : 100 < s0.size) (hm : s0.size ≤ maxLen) :
    Calls Tryd.prog 4 #[.string s0, .int .i64 c, .int .i64 d] w fun e w' => e = .returned (.bool true) ∧ Below w.heap.size w w' := by
  unfold maxLen at hm
  have h1 : (100 : Int) < (s0.size : Int) := by omega
  go_enter Tryd.func4, Tryd.ntmps4
  go_wp2_with fail
  refine (sane_any _ hT).mono ?_
  rintro e w1 ⟨rfl, b1⟩
  go_wp2_with fail
  go_ret
  exact ⟨rfl, b1⟩

set_option maxRecDepth 100000 in
set_option maxHeartbeats 6400000 in
theorem texts_short (s0 : ByteArray) (c d : Int) (w : World) (hT : RatT w) (hs : s0.size ≤ 100) (i1 : -9223372036854775808 ≤ c) (i2 : c ≤ 9223372036854775807) (i3 : -9223372036854775808 ≤ d) (i4 : d ≤ 9223372036854775807) :
    Calls Tryd.prog 4 #[.string s0, .int .i64 c, .int .i64 d] w fun e w' => e = .returned (.bool true) ∧ Below w.heap.size w w' := by
  have h1 : (s0.size : Int) ≤ 100 := by omega
  go_enter Tryd.func4, Tryd.ntmps4
  go_wp2_with fail
  refine (draw_any c d _ i1 i2 i3 i4).mono ?_
  rintro e w1 ⟨xn, xd, hx, rfl, b1⟩
  have T1 := (hT.below b1).alloc (.cells #[.int .i64 xn, .int .i64 xd] 23)
  have L1 := b1.alloc b1.size (.cells #[.int .i64 xn, .int .i64 xd] 23)
  have X1 := RatAt.new w1 xn xd 23
  obtain ⟨s, hs1⟩ : ∃ s, (⟨(Rt.txtS xn xd).toArray⟩ : ByteArray) = s := ⟨_, rfl⟩
  have hsl : s.data.toList = Rt.txt xn xd := by rw [← hs1, Rt.txtS_yes hx]
  have hsz : s.size ≤ 43 := by rw [Lib.size_eq, hsl]; exact Rt.txt_le hx
  have HP : Hid (Rt.IsTxt s.data.toList xn xd) := Lib.hid ⟨hx, hsl.symm⟩
  have HS := Lib.hid hs1
  have HI := Lib.hid (vld_i64 hx)
  clear hs1 hsl hx
  go_wp2_with fail
  refine (text_is HS.out _ T1 HI.out.1 HI.out.2).mono ?_
  rintro e w2 ⟨rfl, b2⟩
  have T2 := T1.below b2
  have L2 := bstep L1 b2
  have X2 := X1.below b2
  have n1 : ¬ 9223372036854775807 < s.size + 2 := by omega
  have n2 : ¬ 9223372036854775807 < 1 + s.size := by omega
  obtain ⟨t2, ht2⟩ : ∃ t, s ++ (⟨#[47, 49]⟩ : ByteArray) = t := ⟨_, rfl⟩
  obtain ⟨t3, ht3⟩ : ∃ t, (⟨#[43]⟩ : ByteArray) ++ s = t := ⟨_, rfl⟩
  obtain ⟨t4, ht4⟩ : ∃ t, (⟨#[45]⟩ : ByteArray) ++ s = t := ⟨_, rfl⟩
  obtain ⟨t5, ht5⟩ : ∃ t, (⟨#[48]⟩ : ByteArray) ++ s = t := ⟨_, rfl⟩
  have z2 : t2.size ≤ 100 := by rw [← ht2, ByteArray.size_append, show (⟨#[47, 49]⟩ : ByteArray).size = 2 from rfl]; omega
  have z3 : t3.size ≤ 100 := by rw [← ht3, ByteArray.size_append, show (⟨#[43]⟩ : ByteArray).size = 1 from rfl]; omega
  have z4 : t4.size ≤ 100 := by rw [← ht4, ByteArray.size_append, show (⟨#[45]⟩ : ByteArray).size = 1 from rfl]; omega
  have z5 : t5.size ≤ 100 := by rw [← ht5, ByteArray.size_append, show (⟨#[48]⟩ : ByteArray).size = 1 from rfl]; omega
  have k0 : ∀ w, (Instr.index 36 (.agg #[.string s0, .string s, .string t2, .string t3, .string t4, .string t5]) (.int .i64 0)).run Tryd.prog w = .ok (.string s0) w := fun _ => by kernel_rfl
  have k1 : ∀ w, (Instr.index 36 (.agg #[.string s0, .string s, .string t2, .string t3, .string t4, .string t5]) (.int .i64 1)).run Tryd.prog w = .ok (.string s) w := fun _ => by kernel_rfl
  have k2 : ∀ w, (Instr.index 36 (.agg #[.string s0, .string s, .string t2, .string t3, .string t4, .string t5]) (.int .i64 2)).run Tryd.prog w = .ok (.string t2) w := fun _ => by kernel_rfl
  have k3 : ∀ w, (Instr.index 36 (.agg #[.string s0, .string s, .string t2, .string t3, .string t4, .string t5]) (.int .i64 3)).run Tryd.prog w = .ok (.string t3) w := fun _ => by kernel_rfl
  have k4 : ∀ w, (Instr.index 36 (.agg #[.string s0, .string s, .string t2, .string t3, .string t4, .string t5]) (.int .i64 4)).run Tryd.prog w = .ok (.string t4) w := fun _ => by kernel_rfl
  have k5 : ∀ w, (Instr.index 36 (.agg #[.string s0, .string s, .string t2, .string t3, .string t4, .string t5]) (.int .i64 5)).run Tryd.prog w = .ok (.string t5) w := fun _ => by kernel_rfl
  go_wp2_with fail
  clear n1 n2 ht2 ht3 ht4 ht5
  obtain ⟨bx, hbx⟩ : ∃ b, b = w1.heap.size := ⟨_, rfl⟩
  rw [← hbx] at X2 ⊢
  clear hbx X1
  go_loopw [37] (fun i wr => ∃ k : Nat, k ≤ 6 ∧ i = .int .i64 k ∧ RatT wr ∧ Below w.heap.size w wr ∧ RatAt wr bx xn xd) (fun i _ => (6 - intOf i).toNat)
  case atStart => exact ⟨0, by omega, rfl, T2, L2, X2⟩
  case round =>
    obtain ⟨k, hk, rfl, I1, I2, I3⟩ := hrel
    clear T1 L1 X2 T2 L2 b1 b2
    have hk6 : k = 0 ∨ k = 1 ∨ k = 2 ∨ k = 3 ∨ k = 4 ∨ k = 5 ∨ k = 6 := by omega
    rcases hk6 with rfl | rfl | rfl | rfl | rfl | rfl | rfl
    · as_aux_lemma =>
      obtain ⟨⟨p, q, e⟩, hp1, hp2⟩ := parse_both s0 (by omega)
      go_wp2_with fail
      refine (parse_is hp1 _ I1).mono ?_
      rintro x wa ⟨rfl, ba⟩
      have Ta := I1.below ba
      have Xa := I3.below ba
      have La := bstep I2 ba
      have Ua := RatAt.new wa p q 23
      have Ta2 := Ta.alloc (.cells #[.int .i64 p, .int .i64 q] 23)
      have Xa2 := Xa.alloc (.cells #[.int .i64 p, .int .i64 q] 23)
      have La2 := La.alloc La.size (.cells #[.int .i64 p, .int .i64 q] 23)
      go_wp2_with fail
      refine (rparse_is hp2 _ Ta2).mono ?_
      rintro x wb ⟨rfl, bb⟩
      have Tb := Ta2.below bb
      have Xb := Xa2.below bb
      have Lb := bstep La2 bb
      have Ub := Ua.below bb
      have ⟨u0, u1, _, _⟩ := Ub
      have uz := Ub.lt
      have Tb2 := Tb.alloc (.cells #[.int .i64 p, .int .i64 q] 23)
      have Xb2 := Xb.alloc (.cells #[.int .i64 p, .int .i64 q] 23)
      have Lb2 := Lb.alloc Lb.size (.cells #[.int .i64 p, .int .i64 q] 23)
      go_wp2_with fail
      go_roundw
      case rel => exact ⟨1, by omega, by go_num, Tb2, Lb2, Xb2⟩
      case measure => simp [intOf]
    · as_aux_lemma =>
      obtain ⟨⟨p, q, e⟩, hp1, hp2⟩ := parse_both s (by omega)
      go_wp2_with fail
      refine (parse_is hp1 _ I1).mono ?_
      rintro x wa ⟨rfl, ba⟩
      have Ta := I1.below ba
      have Xa := I3.below ba
      have La := bstep I2 ba
      have Ua := RatAt.new wa p q 23
      have Ta2 := Ta.alloc (.cells #[.int .i64 p, .int .i64 q] 23)
      have Xa2 := Xa.alloc (.cells #[.int .i64 p, .int .i64 q] 23)
      have La2 := La.alloc La.size (.cells #[.int .i64 p, .int .i64 q] 23)
      go_wp2_with fail
      refine (rparse_is hp2 _ Ta2).mono ?_
      rintro x wb ⟨rfl, bb⟩
      have Tb := Ta2.below bb
      have Xb := Xa2.below bb
      have Lb := bstep La2 bb
      have Ub := Ua.below bb
      have ⟨u0, u1, _, _⟩ := Ub
      have uz := Ub.lt
      have Tb2 := Tb.alloc (.cells #[.int .i64 p, .int .i64 q] 23)
      have Xb2 := Xb.alloc (.cells #[.int .i64 p, .int .i64 q] 23)
      have Lb2 := Lb.alloc Lb.size (.cells #[.int .i64 p, .int .i64 q] 23)
      go_wp2_with fail
      go_roundw
      case rel => exact ⟨2, by omega, by go_num, Tb2, Lb2, Xb2⟩
      case measure => simp [intOf]
    · as_aux_lemma =>
      obtain ⟨⟨p, q, e⟩, hp1, hp2⟩ := parse_both t2 (by omega)
      go_wp2_with fail
      refine (parse_is hp1 _ I1).mono ?_
      rintro x wa ⟨rfl, ba⟩
      have Ta := I1.below ba
      have Xa := I3.below ba
      have La := bstep I2 ba
      have Ua := RatAt.new wa p q 23
      have Ta2 := Ta.alloc (.cells #[.int .i64 p, .int .i64 q] 23)
      have Xa2 := Xa.alloc (.cells #[.int .i64 p, .int .i64 q] 23)
      have La2 := La.alloc La.size (.cells #[.int .i64 p, .int .i64 q] 23)
      go_wp2_with fail
      refine (rparse_is hp2 _ Ta2).mono ?_
      rintro x wb ⟨rfl, bb⟩
      have Tb := Ta2.below bb
      have Xb := Xa2.below bb
      have Lb := bstep La2 bb
      have Ub := Ua.below bb
      have ⟨u0, u1, _, _⟩ := Ub
      have uz := Ub.lt
      have Tb2 := Tb.alloc (.cells #[.int .i64 p, .int .i64 q] 23)
      have Xb2 := Xb.alloc (.cells #[.int .i64 p, .int .i64 q] 23)
      have Lb2 := Lb.alloc Lb.size (.cells #[.int .i64 p, .int .i64 q] 23)
      go_wp2_with fail
      go_roundw
      case rel => exact ⟨3, by omega, by go_num, Tb2, Lb2, Xb2⟩
      case measure => simp [intOf]
    · as_aux_lemma =>
      obtain ⟨⟨p, q, e⟩, hp1, hp2⟩ := parse_both t3 (by omega)
      go_wp2_with fail
      refine (parse_is hp1 _ I1).mono ?_
      rintro x wa ⟨rfl, ba⟩
      have Ta := I1.below ba
      have Xa := I3.below ba
      have La := bstep I2 ba
      have Ua := RatAt.new wa p q 23
      have Ta2 := Ta.alloc (.cells #[.int .i64 p, .int .i64 q] 23)
      have Xa2 := Xa.alloc (.cells #[.int .i64 p, .int .i64 q] 23)
      have La2 := La.alloc La.size (.cells #[.int .i64 p, .int .i64 q] 23)
      go_wp2_with fail
      refine (rparse_is hp2 _ Ta2).mono ?_
      rintro x wb ⟨rfl, bb⟩
      have Tb := Ta2.below bb
      have Xb := Xa2.below bb
      have Lb := bstep La2 bb
      have Ub := Ua.below bb
      have ⟨u0, u1, _, _⟩ := Ub
      have uz := Ub.lt
      have Tb2 := Tb.alloc (.cells #[.int .i64 p, .int .i64 q] 23)
      have Xb2 := Xb.alloc (.cells #[.int .i64 p, .int .i64 q] 23)
      have Lb2 := Lb.alloc Lb.size (.cells #[.int .i64 p, .int .i64 q] 23)
      go_wp2_with fail
      go_roundw
      case rel => exact ⟨4, by omega, by go_num, Tb2, Lb2, Xb2⟩
      case measure => simp [intOf]
    · as_aux_lemma =>
      obtain ⟨⟨p, q, e⟩, hp1, hp2⟩ := parse_both t4 (by omega)
      go_wp2_with fail
      refine (parse_is hp1 _ I1).mono ?_
      rintro x wa ⟨rfl, ba⟩
      have Ta := I1.below ba
      have Xa := I3.below ba
      have La := bstep I2 ba
      have Ua := RatAt.new wa p q 23
      have Ta2 := Ta.alloc (.cells #[.int .i64 p, .int .i64 q] 23)
      have Xa2 := Xa.alloc (.cells #[.int .i64 p, .int .i64 q] 23)
      have La2 := La.alloc La.size (.cells #[.int .i64 p, .int .i64 q] 23)
      go_wp2_with fail
      refine (rparse_is hp2 _ Ta2).mono ?_
      rintro x wb ⟨rfl, bb⟩
      have Tb := Ta2.below bb
      have Xb := Xa2.below bb
      have Lb := bstep La2 bb
      have Ub := Ua.below bb
      have ⟨u0, u1, _, _⟩ := Ub
      have uz := Ub.lt
      have Tb2 := Tb.alloc (.cells #[.int .i64 p, .int .i64 q] 23)
      have Xb2 := Xb.alloc (.cells #[.int .i64 p, .int .i64 q] 23)
      have Lb2 := Lb.alloc Lb.size (.cells #[.int .i64 p, .int .i64 q] 23)
      go_wp2_with fail
      go_roundw
      case rel => exact ⟨5, by omega, by go_num, Tb2, Lb2, Xb2⟩
      case measure => simp [intOf]
    · as_aux_lemma =>
      obtain ⟨⟨p, q, e⟩, hp1, hp2⟩ := parse_both t5 (by omega)
      go_wp2_with fail
      refine (parse_is hp1 _ I1).mono ?_
      rintro x wa ⟨rfl, ba⟩
      have Ta := I1.below ba
      have Xa := I3.below ba
      have La := bstep I2 ba
      have Ua := RatAt.new wa p q 23
      have Ta2 := Ta.alloc (.cells #[.int .i64 p, .int .i64 q] 23)
      have Xa2 := Xa.alloc (.cells #[.int .i64 p, .int .i64 q] 23)
      have La2 := La.alloc La.size (.cells #[.int .i64 p, .int .i64 q] 23)
      go_wp2_with fail
      refine (rparse_is hp2 _ Ta2).mono ?_
      rintro x wb ⟨rfl, bb⟩
      have Tb := Ta2.below bb
      have Xb := Xa2.below bb
      have Lb := bstep La2 bb
      have Ub := Ua.below bb
      have ⟨u0, u1, _, _⟩ := Ub
      have uz := Ub.lt
      have Tb2 := Tb.alloc (.cells #[.int .i64 p, .int .i64 q] 23)
      have Xb2 := Xb.alloc (.cells #[.int .i64 p, .int .i64 q] 23)
      have Lb2 := Lb.alloc Lb.size (.cells #[.int .i64 p, .int .i64 q] 23)
      go_wp2_with fail
      go_roundw
      case rel => exact ⟨6, by omega, by go_num, Tb2, Lb2, Xb2⟩
      case measure => simp [intOf]
    · as_aux_lemma =>
      clear k0 k1 k2 k3 k4 k5
      go_wp2_with fail
      refine (parse_is (fun w hT => parse_yes s w hT (by omega) HP.out) _ I1).mono ?_
      rintro e wa ⟨rfl, ba⟩
      have Ta := I1.below ba
      have Xa := I3.below ba
      have La := bstep I2 ba
      have ⟨x0, x1, _, _⟩ := Xa
      have xz := Xa.lt
      have Ta2 := Ta.alloc (.cells #[.int .i64 xn, .int .i64 xd] 23)
      have La2 := La.alloc La.size (.cells #[.int .i64 xn, .int .i64 xd] 23)
      go_wp2_with fail
      refine (sane_any _ Ta2).mono ?_
      rintro e wb ⟨rfl, bb⟩
      go_wp2_with fail
      go_ret
      exact ⟨rfl, bstep La2 bb⟩
theorem texts_any (s0 : ByteArray) (c d : Int) (w : World) (hT : RatT w) (hm : s0.size ≤ maxLen) (i1 : -9223372036854775808 ≤ c) (i2 : c ≤ 9223372036854775807) (i3 : -9223372036854775808 ≤ d) (i4 : d ≤ 9223372036854775807) :
    Calls Tryd.prog 4 #[.string s0, .int .i64 c, .int .i64 d] w fun e w' => e = .returned (.bool true) ∧ Below w.heap.size w w' := by
  by_cases hs : 100 < s0.size
  · exact texts_long s0 c d w hT hs hm
  · exact texts_short s0 c d w hT (by omega) i1 i2 i3 i4
end Go.Proofs.YtcannkndedlooaaDoor
