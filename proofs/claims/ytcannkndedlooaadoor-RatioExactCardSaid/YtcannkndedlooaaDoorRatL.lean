/- What the law's function draw returns, a valid ratio, and that sane returns true. -/
import Derived.Test.YtcannkndedlooaaDoorRatK
namespace Go.Proofs.YtcannkndedlooaaDoor
open Go.RowKit
set_option linter.unusedVariables false
set_option linter.unusedSimpArgs false

theorem tmod_bd (n k : Int) (hk : 1 ≤ k) : -k < n.tmod k ∧ n.tmod k < k := by
  have h := Int.tmod_eq_emod (a := n) (b := k)
  have a := Int.emod_nonneg n (show k ≠ 0 by omega)
  have b := Int.emod_lt_of_pos n (show 0 < k by omega)
  rw [h]
  split <;> omega
theorem mod_code (n k : Int) : (n.tmod k + k) % k = n % k := by
  have e := Int.tmod_add_mul_tdiv n k
  have h : n % k = (n.tmod k + k * n.tdiv k) % k := by rw [e]
  rw [h, Int.add_mul_emod_self_left, Int.add_emod_right]
set_option maxHeartbeats 400000 in
theorem Mod_any (n k : Int) (w : World) (h1 : -9223372036854775808 ≤ n) (h2 : n ≤ 9223372036854775807) (k1 : 1 ≤ k) (k2 : k ≤ 4611686018427387904) :
    Calls Tryd.prog 28 #[.int .i64 n, .int .i64 k] w fun e w' => e = .returned (.int .i64 (n % k)) ∧ w = w' := by
  have hb := tmod_bd n k (by omega)
  have hk : (k == 0) = false := by simp; omega
  have hr := Lib.hid (mod_code n k)
  go_enter Tryd.func28, Tryd.ntmps28
  go_wp2
  go_ret
  exact ⟨ret_int hr.out, rfl⟩

/-- A valid ratio is returned. -/
def Drawn (w : World) (e : Ending) (w' : World) : Prop := ∃ p q : Int, Rt.vld p q ∧ e = .returned (.agg #[.int .i64 p, .int .i64 q]) ∧ Below w.heap.size w w'
set_option maxHeartbeats 800000 in
theorem draw0 (n d : Int) (w : World) (n1 : -9223372036854775808 ≤ n) (n2 : n ≤ 9223372036854775807) (d1 : -9223372036854775808 ≤ d) (d2 : d ≤ 9223372036854775807) (h : n % 5 = 0) :
    Calls Tryd.prog 8 #[.int .i64 n, .int .i64 d] w (Drawn w) := by
  have c0 : ((n % 5 : Int) == 0) = true := by simp [h]
  clear h
  have R0 := RatAt.new w 0 0 23
  have L0 : Below w.heap.size w (w.alloc (.cells #[.int .i64 0, .int .i64 0] 23)) := (Below.refl _ _).alloc (Nat.le_refl _) _
  have hv := Lib.hid (Rt.low_vld (n := 4611686018427387904 - d % 9) (d := 1 + n % 7) (by omega) ⟨by omega, by omega⟩ ⟨by omega, by omega⟩)
  obtain ⟨p, hp⟩ : ∃ p, Rt.lowN (4611686018427387904 - d % 9) (1 + n % 7) = p := ⟨_, rfl⟩
  obtain ⟨q, hq⟩ : ∃ p, Rt.lowD (4611686018427387904 - d % 9) (1 + n % 7) = p := ⟨_, rfl⟩
  have HV : Hid (Rt.vld p q) := Lib.hid (by rw [← hp, ← hq]; exact hv.out)
  have HP := Lib.hid hp
  have HQ := Lib.hid hq
  clear hv hp hq
  go_enter Tryd.func8, Tryd.ntmps8
  go_wp2_with fail
  refine (Mod_any n 5 _ n1 n2 (by omega) (by omega)).mono ?_
  rintro e w' ⟨rfl, rfl⟩
  go_wp2_with fail
  refine (Mod_any d 9 _ d1 d2 (by omega) (by omega)).mono ?_
  rintro e w' ⟨rfl, rfl⟩
  go_wp2_with fail
  refine (Mod_any n 7 _ n1 n2 (by omega) (by omega)).mono ?_
  rintro e w' ⟨rfl, rfl⟩
  go_wp2_with fail
  refine (rnew_yes (4611686018427387904 - d % 9) (1 + n % 7) _ (by omega) (by omega) (by omega) (by omega)).mono ?_
  rw [HP.out, HQ.out]
  rintro e w1 ⟨rfl, b1⟩
  have R1 := R0.below b1
  have L1 := bstep L0 b1
  have hz := R1.lt
  have ⟨r0, r1, k0, k1⟩ := R1
  have L2 := (L1.setCell (p := ⟨w.heap.size, 0, none⟩) (Nat.le_refl _) (.int .i64 p)).setCell (p := ⟨w.heap.size, 1, none⟩) (Nat.le_refl _) (.int .i64 q)
  have hz3 := Nat.ne_of_lt hz
  go_wp2_with fail
  exact bodyPost_ret (v := .agg #[.int .i64 p, .int .i64 q]) (by simp [results, Tryd.results8, go_sem, r0, r1, hz, hz3]) rfl ⟨p, q, HV.out, rfl, L2.alloc L2.size _⟩
set_option maxHeartbeats 800000 in
theorem draw1 (n d : Int) (w : World) (n1 : -9223372036854775808 ≤ n) (n2 : n ≤ 9223372036854775807) (d1 : -9223372036854775808 ≤ d) (d2 : d ≤ 9223372036854775807) (h : n % 5 = 1) :
    Calls Tryd.prog 8 #[.int .i64 n, .int .i64 d] w (Drawn w) := by
  have c0 : ((n % 5 : Int) == 0) = false := by simp [h]
  have c1 : ((n % 5 : Int) == 1) = true := by simp [h]
  clear h
  have R0 := RatAt.new w 0 0 23
  have L0 : Below w.heap.size w (w.alloc (.cells #[.int .i64 0, .int .i64 0] 23)) := (Below.refl _ _).alloc (Nat.le_refl _) _
  have hv := Lib.hid (Rt.low_vld (n := n % 99 - 49) (d := 4611686018427387904 - d % 9) (by omega) ⟨by omega, by omega⟩ ⟨by omega, by omega⟩)
  obtain ⟨p, hp⟩ : ∃ p, Rt.lowN (n % 99 - 49) (4611686018427387904 - d % 9) = p := ⟨_, rfl⟩
  obtain ⟨q, hq⟩ : ∃ p, Rt.lowD (n % 99 - 49) (4611686018427387904 - d % 9) = p := ⟨_, rfl⟩
  have HV : Hid (Rt.vld p q) := Lib.hid (by rw [← hp, ← hq]; exact hv.out)
  have HP := Lib.hid hp
  have HQ := Lib.hid hq
  clear hv hp hq
  go_enter Tryd.func8, Tryd.ntmps8
  go_wp2_with fail
  refine (Mod_any n 5 _ n1 n2 (by omega) (by omega)).mono ?_
  rintro e w' ⟨rfl, rfl⟩
  go_wp2_with fail
  refine (Mod_any n 99 _ n1 n2 (by omega) (by omega)).mono ?_
  rintro e w' ⟨rfl, rfl⟩
  go_wp2_with fail
  refine (Mod_any d 9 _ d1 d2 (by omega) (by omega)).mono ?_
  rintro e w' ⟨rfl, rfl⟩
  go_wp2_with fail
  refine (rnew_yes (n % 99 - 49) (4611686018427387904 - d % 9) _ (by omega) (by omega) (by omega) (by omega)).mono ?_
  rw [HP.out, HQ.out]
  rintro e w1 ⟨rfl, b1⟩
  have R1 := R0.below b1
  have L1 := bstep L0 b1
  have hz := R1.lt
  have ⟨r0, r1, k0, k1⟩ := R1
  have L2 := (L1.setCell (p := ⟨w.heap.size, 0, none⟩) (Nat.le_refl _) (.int .i64 p)).setCell (p := ⟨w.heap.size, 1, none⟩) (Nat.le_refl _) (.int .i64 q)
  have hz3 := Nat.ne_of_lt hz
  go_wp2_with fail
  exact bodyPost_ret (v := .agg #[.int .i64 p, .int .i64 q]) (by simp [results, Tryd.results8, go_sem, r0, r1, hz, hz3]) rfl ⟨p, q, HV.out, rfl, L2.alloc L2.size _⟩
set_option maxHeartbeats 800000 in
theorem draw2 (n d : Int) (w : World) (n1 : -9223372036854775808 ≤ n) (n2 : n ≤ 9223372036854775807) (d1 : -9223372036854775808 ≤ d) (d2 : d ≤ 9223372036854775807) (h : n % 5 ≠ 0) (h' : n % 5 ≠ 1) :
    Calls Tryd.prog 8 #[.int .i64 n, .int .i64 d] w (Drawn w) := by
  have c0 : ((n % 5 : Int) == 0) = false := by simp [h]
  have c1 : ((n % 5 : Int) == 1) = false := by simp [h']
  clear h h'
  have R0 := RatAt.new w 0 0 23
  have L0 : Below w.heap.size w (w.alloc (.cells #[.int .i64 0, .int .i64 0] 23)) := (Below.refl _ _).alloc (Nat.le_refl _) _
  have hv := Lib.hid (Rt.low_vld (n := n % 201 - 100) (d := 1 + d % 60) (by omega) ⟨by omega, by omega⟩ ⟨by omega, by omega⟩)
  obtain ⟨p, hp⟩ : ∃ p, Rt.lowN (n % 201 - 100) (1 + d % 60) = p := ⟨_, rfl⟩
  obtain ⟨q, hq⟩ : ∃ p, Rt.lowD (n % 201 - 100) (1 + d % 60) = p := ⟨_, rfl⟩
  have HV : Hid (Rt.vld p q) := Lib.hid (by rw [← hp, ← hq]; exact hv.out)
  have HP := Lib.hid hp
  have HQ := Lib.hid hq
  clear hv hp hq
  go_enter Tryd.func8, Tryd.ntmps8
  go_wp2_with fail
  refine (Mod_any n 5 _ n1 n2 (by omega) (by omega)).mono ?_
  rintro e w' ⟨rfl, rfl⟩
  go_wp2_with fail
  refine (Mod_any n 201 _ n1 n2 (by omega) (by omega)).mono ?_
  rintro e w' ⟨rfl, rfl⟩
  go_wp2_with fail
  refine (Mod_any d 60 _ d1 d2 (by omega) (by omega)).mono ?_
  rintro e w' ⟨rfl, rfl⟩
  go_wp2_with fail
  refine (rnew_yes (n % 201 - 100) (1 + d % 60) _ (by omega) (by omega) (by omega) (by omega)).mono ?_
  rw [HP.out, HQ.out]
  rintro e w1 ⟨rfl, b1⟩
  have R1 := R0.below b1
  have L1 := bstep L0 b1
  have hz := R1.lt
  have ⟨r0, r1, k0, k1⟩ := R1
  have L2 := (L1.setCell (p := ⟨w.heap.size, 0, none⟩) (Nat.le_refl _) (.int .i64 p)).setCell (p := ⟨w.heap.size, 1, none⟩) (Nat.le_refl _) (.int .i64 q)
  have hz3 := Nat.ne_of_lt hz
  go_wp2_with fail
  exact bodyPost_ret (v := .agg #[.int .i64 p, .int .i64 q]) (by simp [results, Tryd.results8, go_sem, r0, r1, hz, hz3]) rfl ⟨p, q, HV.out, rfl, L2.alloc L2.size _⟩
theorem draw_any (n d : Int) (w : World) (n1 : -9223372036854775808 ≤ n) (n2 : n ≤ 9223372036854775807) (d1 : -9223372036854775808 ≤ d) (d2 : d ≤ 9223372036854775807) :
    Calls Tryd.prog 8 #[.int .i64 n, .int .i64 d] w (Drawn w) := by
  by_cases h : n % 5 = 0
  · exact draw0 n d w n1 n2 d1 d2 h
  · by_cases h' : n % 5 = 1
    · exact draw1 n d w n1 n2 d1 d2 h'
    · exact draw2 n d w n1 n2 d1 d2 h h'

/-! ### One answer of each function, under a name -/
theorem add_is {an ad bn bd p q e : Int} (h : Rt.addS an ad bn bd = (p, q, e)) (w : World) (ia : I64 an ∧ I64 ad) (ib : I64 bn ∧ I64 bd) :
    Calls Tryd.prog 9 #[.agg #[.int .i64 an, .int .i64 ad], .agg #[.int .i64 bn, .int .i64 bd]] w fun x w' => x = .returned (.tuple #[.agg #[.int .i64 p, .int .i64 q], .int .i64 e]) ∧ Below w.heap.size w w' := by
  have k := Add_any an ad bn bd w ia ib
  rw [h] at k
  exact k
theorem sub_is {an ad bn bd p q e : Int} (h : Rt.subS an ad bn bd = (p, q, e)) (w : World) (ia : I64 an ∧ I64 ad) (ib : I64 bn ∧ I64 bd) :
    Calls Tryd.prog 11 #[.agg #[.int .i64 an, .int .i64 ad], .agg #[.int .i64 bn, .int .i64 bd]] w fun x w' => x = .returned (.tuple #[.agg #[.int .i64 p, .int .i64 q], .int .i64 e]) ∧ Below w.heap.size w w' := by
  have k := Sub_any an ad bn bd w ia ib
  rw [h] at k
  exact k
theorem mul_is {an ad bn bd p q e : Int} (h : Rt.mulS an ad bn bd = (p, q, e)) (w : World) (ia : I64 an ∧ I64 ad) (ib : I64 bn ∧ I64 bd) :
    Calls Tryd.prog 13 #[.agg #[.int .i64 an, .int .i64 ad], .agg #[.int .i64 bn, .int .i64 bd]] w fun x w' => x = .returned (.tuple #[.agg #[.int .i64 p, .int .i64 q], .int .i64 e]) ∧ Below w.heap.size w w' := by
  have k := Mul_any an ad bn bd w ia ib
  rw [h] at k
  exact k
theorem div_is {an ad bn bd p q e : Int} (h : Rt.divS an ad bn bd = (p, q, e)) (w : World) (ia : I64 an ∧ I64 ad) (ib : I64 bn ∧ I64 bd) :
    Calls Tryd.prog 15 #[.agg #[.int .i64 an, .int .i64 ad], .agg #[.int .i64 bn, .int .i64 bd]] w fun x w' => x = .returned (.tuple #[.agg #[.int .i64 p, .int .i64 q], .int .i64 e]) ∧ Below w.heap.size w w' := by
  have k := Div_any an ad bn bd w ia ib
  rw [h] at k
  exact k
theorem less_is {an ad bn bd : Int} {t : Bool} (h : Rt.lessB an ad bn bd = t) (w : World) (ia : I64 an ∧ I64 ad) (ib : I64 bn ∧ I64 bd) :
    Calls Tryd.prog 17 #[.agg #[.int .i64 an, .int .i64 ad], .agg #[.int .i64 bn, .int .i64 bd]] w fun x w' => x = .returned (.bool t) ∧ Below w.heap.size w w' := h ▸ Less_any an ad bn bd w ia ib
theorem parse_is {s : ByteArray} {p q e : Int} (h : ∀ w, RatT w → Calls Tryd.prog 26 #[.string s] w (Ret3 (p, q, e) w)) (w : World) (hT : RatT w) :
    Calls Tryd.prog 26 #[.string s] w fun x w' => x = .returned (.tuple #[.agg #[.int .i64 p, .int .i64 q], .int .i64 e]) ∧ Below w.heap.size w w' := h w hT
theorem vld_i64 {n d : Int} (h : Rt.vld n d) : I64 n ∧ I64 d := by
  obtain ⟨h1, h2, h3, h4, _⟩ := h
  exact ⟨⟨by omega, by omega⟩, ⟨by omega, by omega⟩⟩

theorem no_text : ∀ n d, ¬ Rt.IsTxt (⟨#[50, 47, 52]⟩ : ByteArray).data.toList n d := by
  rintro n d ⟨hv, hl⟩
  have hr := Rt.ref_txt hv
  rw [hl] at hr
  have e1 : Rt.refNum (Rt.cutS (⟨#[50, 47, 52]⟩ : ByteArray).data.toList).1 = 2 := by decide +kernel
  have e2 : Rt.refDen (⟨#[50, 47, 52]⟩ : ByteArray).data.toList = 4 := by decide +kernel
  have h1 : n = 2 := hr.1.symm.trans e1
  have h2 : d = 4 := hr.2.symm.trans e2
  subst h1 h2
  exact absurd hv (by decide +kernel)
theorem half_text : (⟨(Rt.txtS 1 2).toArray⟩ : ByteArray) = ⟨#[49, 47, 50]⟩ := by
  have h : Rt.txtS 1 2 = [49, 47, 50] := by
    rw [Rt.txtS_yes (by decide +kernel)]
    unfold Rt.txt Lib.itoa
    rw [if_neg (by decide), if_neg (by decide), if_neg (by decide), Lib.decDigits_one (by decide), Lib.decDigits_one (by decide)]
    decide
  rw [h]
set_option maxRecDepth 100000 in
set_option maxHeartbeats 1600000 in
theorem sane_any (w : World) (hT : RatT w) :
    Calls Tryd.prog 25 #[] w fun e w' => e = .returned (.bool true) ∧ Below w.heap.size w w' := by
  go_enter Tryd.func25, Tryd.ntmps25
  go_wp2_with fail
  refine (add_is (p := 1) (q := 2) (e := 0) (by decide +kernel) _ ⟨⟨by omega, by omega⟩, ⟨by omega, by omega⟩⟩ ⟨⟨by omega, by omega⟩, ⟨by omega, by omega⟩⟩).mono ?_
  rintro e w1 ⟨rfl, b1⟩
  have T1 := (hT.below b1).alloc (.cells #[.int .i64 1, .int .i64 2] 23)
  have A1 := RatAt.new w1 1 2 23
  have L1 := b1.alloc b1.size (.cells #[.int .i64 1, .int .i64 2] 23)
  go_wp2_with fail
  refine (mul_is (p := 0) (q := 0) (e := 5) (by decide +kernel) _ ⟨⟨by omega, by omega⟩, ⟨by omega, by omega⟩⟩ ⟨⟨by omega, by omega⟩, ⟨by omega, by omega⟩⟩).mono ?_
  rintro e w2 ⟨rfl, b2⟩
  have T2 := (T1.below b2).alloc (.cells #[.int .i64 0, .int .i64 0] 23)
  have A2 := (A1.below b2).alloc (.cells #[.int .i64 0, .int .i64 0] 23)
  have L2 := bstep L1 b2
  have L2' := L2.alloc L2.size (.cells #[.int .i64 0, .int .i64 0] 23)
  go_wp2_with fail
  refine (parse_is (p := 0) (q := 0) (e := 2) (fun w hT => parse_no _ w hT (by decide) no_text) _ T2).mono ?_
  rintro e w3 ⟨rfl, b3⟩
  have T3 := (T2.below b3).alloc (.cells #[.int .i64 0, .int .i64 0] 23)
  have A3 := A2.below b3
  have L3 := bstep L2' b3
  have L3' := L3.alloc L3.size (.cells #[.int .i64 0, .int .i64 0] 23)
  have hz := A3.lt
  have ⟨a0, a1, _, _⟩ := A3
  go_wp2_with fail
  refine (text_is half_text _ T3 ⟨by omega, by omega⟩ ⟨by omega, by omega⟩).mono ?_
  rintro e w4 ⟨rfl, b4⟩
  go_wp2_with fail
  go_ret
  exact ⟨by first | rfl | exact ret_bool (by decide +kernel), bstep L3' b4⟩
end Go.Proofs.YtcannkndedlooaaDoor
