/- Plain facts for the law on products. Nothing of the program stands in it. -/
import Derived.Test.YtcannkndedlooaaDoorRat
set_option linter.unusedVariables false
namespace Rt

theorem mulN_abs (an ad bn bd : Int) : (mulN an ad bn bd).natAbs ≤ an.natAbs * bn.natAbs := by
  unfold mulN
  rw [Int.natAbs_mul]
  exact Nat.mul_le_mul (quol_abs an bd) (quol_abs bn ad)
theorem mulD_le {an ad bn bd : Int} (ha : 1 ≤ ad) (hb : 1 ≤ bd) : mulD an ad bn bd ≤ ad * bd := by
  unfold mulD
  have h1 := divr_pos (a := an) hb
  have h2 := divr_le (a := an) hb
  have h3 := divr_le (a := bn) ha
  exact Int.mul_le_mul h3 h2 (by omega) (by omega)
theorem prod_small {an ad bn bd : Int} (ha : vld an ad) (hb : vld bn bd) (a1 : an.natAbs ≤ 1000000) (b1 : bn.natAbs ≤ 1000000) (a2 : ad ≤ 1000000) (b2 : bd ≤ 1000000) :
    prodS an ad bn bd = (mulN an ad bn bd, mulD an ad bn bd, 0) := by
  have h1 := mulN_abs an ad bn bd
  have h2 : an.natAbs * bn.natAbs ≤ 1000000 * 1000000 := Nat.mul_le_mul a1 b1
  have h3 := mulD_le (an := an) (bn := bn) ha.1 hb.1
  have h4 : ad * bd ≤ 1000000 * 1000000 := Int.mul_le_mul a2 b2 (by have := hb.1; omega) (by omega)
  have h5 := mulD_pos (an := an) (bn := bn) ha.1 hb.1
  unfold prodS
  rw [if_pos]
  exact ⟨⟨by omega, by omega⟩, ⟨by omega, by omega⟩⟩
theorem one_vld {n : Int} (h1 : -4611686018427387904 ≤ n) (h2 : n ≤ 4611686018427387904) : vld n 1 := by
  refine ⟨by omega, by omega, h1, h2, ?_⟩
  unfold g; simp
/-- A product with the value n. -/
theorem prod_int {an ad bn bd n : Int} (ha : vld an ad) (hb : vld bn bd) (hn1 : -4611686018427387904 ≤ n) (hn2 : n ≤ 4611686018427387904) (a1 : an.natAbs ≤ 1000000) (b1 : bn.natAbs ≤ 1000000) (a2 : ad ≤ 1000000) (b2 : bd ≤ 1000000)
    (e : mulN an ad bn bd * 1 = n * mulD an ad bn bd) : prodS an ad bn bd = (n, 1, 0) := by
  rw [prod_small ha hb a1 b1 a2 b2]
  have hv := one_vld hn1 hn2
  have h := one_form (mulD_pos ha.1 hb.1) hv.1 (mul_cop ha.1 hb.1 ha.2.2.2.2 hb.2.2.2.2) hv.2.2.2.2 e
  rw [h.1, h.2]
theorem add_one {n d m : Int} (h : vld n d) (hm1 : -1000000 ≤ m) (hm2 : m ≤ 1000000) (hn : n.natAbs ≤ 1000000) (hd : d ≤ 1000000) :
    sumS n d m 1 = (lowN (n + m * d) d, lowD (n + m * d) d, 0) := by
  obtain ⟨h1, h2, h3, h4, h5⟩ := h
  have g1 : g d 1 = 1 := by unfold g; simp
  have hx : addX n d m 1 = n := by unfold addX; rw [g1]; simp
  have hy : addY n d m 1 = m * d := by unfold addY; rw [g1]; simp
  have hD : addD d 1 = d := by unfold addD; rw [g1]; simp
  have b1 : (m * d).natAbs ≤ 1000000 * 1000000 := by
    rw [Int.natAbs_mul]
    exact Nat.mul_le_mul (by omega) (by omega)
  unfold sumS
  rw [if_pos (by unfold addOk fits; rw [hx, hy, hD]; omega), hx, hy, hD]

theorem mulS_yes {an ad bn bd : Int} (ha : vld an ad) (hb : vld bn bd) : mulS an ad bn bd = prodS an ad bn bd := by unfold mulS; rw [if_pos ⟨ha, hb⟩]
theorem addS_yes {an ad bn bd : Int} (ha : vld an ad) (hb : vld bn bd) : addS an ad bn bd = sumS an ad bn bd := by unfold addS; rw [if_pos ⟨ha, hb⟩]

/-- The small numbers of the law: (p / q + r) q = p + r q. -/
theorem small_all {P Q R : Int} (p1 : 0 ≤ P) (p2 : P ≤ 49) (q1 : 1 ≤ Q) (q2 : Q ≤ 9) (r1 : 0 ≤ R) (r2 : R ≤ 29) :
    ∃ n1 d1 n2 d2 k : Int, divS P 1 Q 1 = (n1, d1, 0) ∧ vld n1 d1 ∧ addS n1 d1 R 1 = (n2, d2, 0) ∧ vld n2 d2 ∧ mulS n2 d2 Q 1 = (P + k, 1, 0) ∧ mulS n1 d1 Q 1 = (P, 1, 0) ∧ mulS R 1 Q 1 = (k, 1, 0) ∧ addS P 1 k 1 = (P + k, 1, 0) ∧ vld k 1 ∧ vld (P + k) 1 := by
  have vP := one_vld (n := P) (by omega) (by omega)
  have vQ := one_vld (n := Q) (by omega) (by omega)
  have vR := one_vld (n := R) (by omega) (by omega)
  have vI : vld 1 Q := ⟨q1, by omega, by omega, by omega, by unfold g; simp⟩
  have kb : 0 ≤ R * Q ∧ R * Q ≤ 29 * 9 := ⟨Int.mul_nonneg r1 (by omega), Int.mul_le_mul r2 q2 (by omega) (by omega)⟩
  -- the quotient
  have e1 : divS P 1 Q 1 = (mulN P 1 1 Q, mulD P 1 1 Q, 0) := by
    unfold divS
    rw [if_pos ⟨vP, vQ⟩, if_neg (by omega), if_neg (by omega)]
    exact prod_small vP vI (by omega) (by omega) (by omega) (by omega)
  have v1 : vld (mulN P 1 1 Q) (mulD P 1 1 Q) := by
    have := prod_small vP vI (by omega) (by omega) (by omega) (by omega)
    exact prod_vld_of vP vI this
  have eq1 := mul_eq P 1 1 Q
  have ab1 := mulN_abs P 1 1 Q
  have db1 := mulD_le (an := P) (bn := 1) (show (1 : Int) ≤ 1 by omega) q1
  generalize mulN P 1 1 Q = n1 at *
  generalize mulD P 1 1 Q = d1 at *
  simp only [Int.one_mul, Int.mul_one, Int.natAbs_one, Nat.mul_one] at eq1 ab1 db1
  -- the sum
  have e2 := add_one (m := R) v1 (by omega) (by omega) (by omega) (by omega)
  have hd1 := v1.1
  have rb : (R * d1).natAbs ≤ 29 * 9 := by
    rw [Int.natAbs_mul]
    exact Nat.mul_le_mul (by omega) (by omega)
  have v2 : vld (lowN (n1 + R * d1) d1) (lowD (n1 + R * d1) d1) := low_vld hd1 ⟨by omega, by omega⟩ ⟨by omega, by omega⟩
  have eq2 := low_eq (n := n1 + R * d1) (d := d1)
  have ab2 : (lowN (n1 + R * d1) d1).natAbs ≤ (n1 + R * d1).natAbs := quol_abs _ _
  have db2 : lowD (n1 + R * d1) d1 ≤ d1 := divr_le hd1
  generalize lowN (n1 + R * d1) d1 = n2 at *
  generalize lowD (n1 + R * d1) d1 = d2 at *
  have hd2 := v2.1
  refine ⟨n1, d1, n2, d2, R * Q, e1, v1, ?_, v2, ?_, ?_, ?_, ?_, one_vld (by omega) (by omega), one_vld (by omega) (by omega)⟩
  · rw [addS_yes v1 vR]; exact e2
  · rw [mulS_yes v2 vQ]
    refine prod_int v2 vQ (by omega) (by omega) (by omega) (by omega) (by omega) (by omega) ?_
    have eq3 := mul_eq n2 d2 Q 1
    have hz : d2 * d1 ≠ 0 := by
      have := Int.mul_le_mul hd2 hd1 (by omega) (by omega)
      omega
    apply Int.eq_of_mul_eq_mul_right hz
    generalize mulN n2 d2 Q 1 = p at *
    generalize mulD n2 d2 Q 1 = q at *
    have a1 : p * 1 * (d2 * d1) = p * (d2 * 1) * d1 := by grind
    rw [a1, eq3]
    have a2 : n2 * Q * q * d1 = n2 * d1 * (Q * q) := by grind
    rw [a2, eq2]
    have a3 : (n1 + R * d1) * d2 * (Q * q) = (n1 * Q + R * Q * d1) * (d2 * q) := by grind
    rw [a3, eq1]
    grind
  · rw [mulS_yes v1 vQ]
    refine prod_int v1 vQ (by omega) (by omega) (by omega) (by omega) (by omega) (by omega) ?_
    have eq3 := mul_eq n1 d1 Q 1
    have hz : d1 ≠ 0 := by omega
    apply Int.eq_of_mul_eq_mul_right hz
    generalize mulN n1 d1 Q 1 = p at *
    generalize mulD n1 d1 Q 1 = q at *
    have a1 : p * 1 * d1 = p * (d1 * 1) := by grind
    rw [a1, eq3]
    have a2 : n1 * Q * q = P * d1 * q := by rw [eq1]
    rw [a2]
    grind
  · rw [mulS_yes vR vQ]
    refine prod_int vR vQ (by omega) (by omega) (by omega) (by omega) (by omega) (by omega) ?_
    have eq3 := mul_eq R 1 Q 1
    generalize mulN R 1 Q 1 = p at *
    generalize mulD R 1 Q 1 = q at *
    grind
  · have vk := one_vld (n := R * Q) (by omega) (by omega)
    rw [addS_yes vP vk, add_one vP (by omega) (by omega) (by omega) (by omega)]
    have hg : g (P + R * Q * 1) 1 = 1 := by unfold g; simp
    have hl := low_one hg
    rw [hl.1, hl.2, Int.mul_one]

/-- The first part of the law. -/
theorem mul_ok {an ad bn bd : Int} (ha : vld an ad) (hb : vld bn bd) (h : mulOk an ad bn bd) : mulS an ad bn bd = (mulN an ad bn bd, mulD an ad bn bd, 0) := by
  rw [mulS_yes ha hb]
  unfold prodS
  rw [if_pos h]
theorem mul_no {an ad bn bd : Int} (ha : vld an ad) (hb : vld bn bd) (h : ¬ mulOk an ad bn bd) : mulS an ad bn bd = (0, 0, 5) := by
  rw [mulS_yes ha hb]
  unfold prodS
  rw [if_neg h]
theorem mul_flip {an ad bn bd p q e : Int} (ha : vld an ad) (hb : vld bn bd) (h : mulS an ad bn bd = (p, q, e)) : mulS bn bd an ad = (p, q, e) := by
  rw [← h, mulS_yes ha hb, mulS_yes hb ha, prod_comm]
end Rt
