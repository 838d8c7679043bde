/- What Mul, Div and Less of the reference return: the same as those of package ratio. -/
import Derived.Test.YtcannkndedlooaaDoorRatE
namespace Go.Proofs.YtcannkndedlooaaDoor
open Go.RowKit
set_option linter.unusedVariables false
set_option linter.unusedSimpArgs false

theorem drew0 (w : World) : Drew w w := ⟨0, rfl⟩
theorem rgcd_ab (n d : Int) (w : World) (n1 : -4611686018427387904 ≤ n) (n2 : n ≤ 4611686018427387904) (d1 : 1 ≤ d) (d2 : d ≤ 4611686018427387904) :
    Calls Tryd.prog 30 #[.int .i64 (Rt.ab n), .int .i64 d] w fun e w' => e = .returned (.int .i64 (Rt.g n d)) ∧ ∃ m, w' = w.drewN m := by
  have b := Rt.ab_bd n1 n2
  have h := rgcd_any (Rt.ab n) d w b.1 b.2 d1 d2
  rw [Rt.g_ab] at h
  exact h

set_option maxHeartbeats 1600000 in
theorem rprod_ok (an ad bn bd x dd : Int) (tx td : Bool) (w : World) (ha : Rt.vld an ad) (hb : Rt.vld bn bd)
    (hx : Rt.tmN (an.tdiv (Rt.g an bd)) (bn.tdiv (Rt.g bn ad)) = x) (hd : Rt.tmN (ad / Rt.g bn ad) (bd / Rt.g an bd) = dd)
    (tx0 : Rt.tmB (an.tdiv (Rt.g an bd)) (bn.tdiv (Rt.g bn ad)) = tx) (td0 : Rt.tmB (ad / Rt.g bn ad) (bd / Rt.g an bd) = td)
    (hok : tx = true ∧ td = true) (x1 : -4611686018427387904 ≤ x) (x2 : x ≤ 4611686018427387904) (d1 : 1 ≤ dd) (d2 : dd ≤ 4611686018427387904) (hg : Rt.g x dd = 1) :
    Calls Tryd.prog 14 #[.agg #[.int .i64 an, .int .i64 ad], .agg #[.int .i64 bn, .int .i64 bd]] w fun e w' => e = .returned (.tuple #[.agg #[.int .i64 x, .int .i64 dd], .int .i64 0]) ∧ Below w.heap.size w w' := by
  obtain ⟨rfl, rfl⟩ := hok
  have HL := Lib.hid (Rt.low_one hg)
  clear hg
  have ⟨p1, p2, p3, p4, _⟩ := ha
  have ⟨r1, r2, r3, r4, _⟩ := hb
  have g1 := Rt.g_pos (a := an) r1
  have g2 := Rt.g_le (a := an) r1
  have g0 : ((Rt.g an bd : Int) == 0) = false := by simp; omega
  have e1 := Rt.g_pos (a := bn) p1
  have e2 := Rt.g_le (a := bn) p1
  have e0 : ((Rt.g bn ad : Int) == 0) = false := by simp; omega
  have q1 := Rt.divr_pos (a := an) r1
  have q2 := Rt.divr_le (a := an) r1
  have q3 := Rt.divr_pos (a := bn) p1
  have q4 := Rt.divr_le (a := bn) p1
  have u1 := Rt.quol_bd (b := bd) p3 p4
  have u2 := Rt.quol_bd (b := ad) r3 r4
  have HX := Lib.hid hx
  have HD := Lib.hid hd
  have TX := Lib.hid tx0
  have TD := Lib.hid td0
  clear hx hd tx0 td0
  have A0 := ((RatAt.new w an ad 23).alloc (.cells #[.int .i64 bn, .int .i64 bd] 23)).alloc (.cells #[.int .i64 0, .int .i64 0] 23)
  have B0 := (RatAt.new1 w (.cells #[.int .i64 an, .int .i64 ad] 23) bn bd 23).alloc (.cells #[.int .i64 0, .int .i64 0] 23)
  have Z0 := RatAt.new2 w (.cells #[.int .i64 an, .int .i64 ad] 23) (.cells #[.int .i64 bn, .int .i64 bd] 23) 0 0 23
  have L0 := below3 w (.cells #[.int .i64 an, .int .i64 ad] 23) (.cells #[.int .i64 bn, .int .i64 bd] 23) (.cells #[.int .i64 0, .int .i64 0] 23)
  go_enter Tryd.func14, Tryd.ntmps14
  go_wp2_with fail
  refine (rvalid_yes an ad _ ha).mono ?_
  rintro e w1 ⟨rfl, b1⟩
  have A1 := A0.below b1
  have B1 := B0.below b1
  have Z1 := Z0.below b1
  have L1 := bstep L0 b1
  have ⟨a0, a1, _, _⟩ := A1
  have ⟨c0, c1, _, _⟩ := B1
  have ⟨z0, z1, k0, k1⟩ := Z1
  go_wp2_with fail
  refine (rvalid_yes bn bd _ hb).mono ?_
  rintro e w2 ⟨rfl, b2⟩
  have A2 := A1.below b2
  have B2 := B1.below b2
  have Z2 := Z1.below b2
  have L2 := bstep L1 b2
  clear a0 a1 c0 c1 z0 z1 k0 k1
  have ⟨a0, a1, _, _⟩ := A2
  have ⟨c0, c1, _, _⟩ := B2
  have ⟨z0, z1, k0, k1⟩ := Z2
  clear b1 b2 A0 A1 B0 B1 Z0 Z1 L0 L1
  go_wp2_with fail
  go_quiet ((first | (go_at_call 33; exact qsame (rsize_any _ _ (by omega) (by omega))) | (go_at_call 30; exact qdrew (rgcd_ab _ _ _ (by omega) (by omega) (by omega) (by omega)))))
  go_wp2_with fail
  go_quiet ((go_at_call 31; exact qsame2 (rprod_is _ HX.out TX.out (by omega) (by omega) (by omega) (by omega))))
  go_wp2_with fail
  go_quiet ((go_at_call 31; exact qsame2 (rprod_is _ HD.out TD.out (by omega) (by omega) (by omega) (by omega))))
  go_wp2_with fail
  refine (rnew_yes x dd _ (by omega) (by omega) (by omega) (by omega)).mono ?_
  rw [HL.out.1, HL.out.2]
  rintro e w3 ⟨rfl, b3⟩
  have Z3 := (Z2.drewN _).below b3
  have L3 := bstep (below_drewN L2 _) b3
  clear z0 z1 k0 k1
  have ⟨z0, z1, k0, k1⟩ := Z3
  go_wp2_with fail
  exact bodyPost_ret (v := .tuple #[.agg #[.int .i64 x, .int .i64 dd], .int .i64 0]) (by simp [results, Tryd.results14, go_sem, z0, z1]) rfl ⟨rfl, (L3.setCell (by simp <;> omega) _).setCell (by simp <;> omega) _⟩

set_option maxHeartbeats 1600000 in
theorem rprod_lim (an ad bn bd x dd : Int) (tx td : Bool) (w : World) (ha : Rt.vld an ad) (hb : Rt.vld bn bd)
    (hx : Rt.tmN (an.tdiv (Rt.g an bd)) (bn.tdiv (Rt.g bn ad)) = x) (hd : Rt.tmN (ad / Rt.g bn ad) (bd / Rt.g an bd) = dd)
    (tx0 : Rt.tmB (an.tdiv (Rt.g an bd)) (bn.tdiv (Rt.g bn ad)) = tx) (td0 : Rt.tmB (ad / Rt.g bn ad) (bd / Rt.g an bd) = td)
    (hno : tx = false ∨ (tx = true ∧ td = false)) :
    Calls Tryd.prog 14 #[.agg #[.int .i64 an, .int .i64 ad], .agg #[.int .i64 bn, .int .i64 bd]] w fun e w' => e = .returned (.tuple #[.agg #[.int .i64 0, .int .i64 0], .int .i64 5]) ∧ Below w.heap.size w w' := by
  have ⟨p1, p2, p3, p4, _⟩ := ha
  have ⟨r1, r2, r3, r4, _⟩ := hb
  have g1 := Rt.g_pos (a := an) r1
  have g2 := Rt.g_le (a := an) r1
  have g0 : ((Rt.g an bd : Int) == 0) = false := by simp; omega
  have e1 := Rt.g_pos (a := bn) p1
  have e2 := Rt.g_le (a := bn) p1
  have e0 : ((Rt.g bn ad : Int) == 0) = false := by simp; omega
  have q1 := Rt.divr_pos (a := an) r1
  have q2 := Rt.divr_le (a := an) r1
  have q3 := Rt.divr_pos (a := bn) p1
  have q4 := Rt.divr_le (a := bn) p1
  have u1 := Rt.quol_bd (b := bd) p3 p4
  have u2 := Rt.quol_bd (b := ad) r3 r4
  have HX := Lib.hid hx
  have HD := Lib.hid hd
  have TX := Lib.hid tx0
  have TD := Lib.hid td0
  clear hx hd tx0 td0
  rcases hno with rfl | ⟨rfl, rfl⟩
  all_goals
    have A0 := ((RatAt.new w an ad 23).alloc (.cells #[.int .i64 bn, .int .i64 bd] 23)).alloc (.cells #[.int .i64 0, .int .i64 0] 23)
    have B0 := (RatAt.new1 w (.cells #[.int .i64 an, .int .i64 ad] 23) bn bd 23).alloc (.cells #[.int .i64 0, .int .i64 0] 23)
    have Z0 := RatAt.new2 w (.cells #[.int .i64 an, .int .i64 ad] 23) (.cells #[.int .i64 bn, .int .i64 bd] 23) 0 0 23
    have L0 := below3 w (.cells #[.int .i64 an, .int .i64 ad] 23) (.cells #[.int .i64 bn, .int .i64 bd] 23) (.cells #[.int .i64 0, .int .i64 0] 23)
    go_enter Tryd.func14, Tryd.ntmps14
    go_wp2_with fail
    refine (rvalid_yes an ad _ ha).mono ?_
    rintro e w1 ⟨rfl, b1⟩
    have A1 := A0.below b1
    have B1 := B0.below b1
    have Z1 := Z0.below b1
    have L1 := bstep L0 b1
    have ⟨a0, a1, _, _⟩ := A1
    have ⟨c0, c1, _, _⟩ := B1
    have ⟨z0, z1, k0, k1⟩ := Z1
    go_wp2_with fail
    refine (rvalid_yes bn bd _ hb).mono ?_
    rintro e w2 ⟨rfl, b2⟩
    have A2 := A1.below b2
    have B2 := B1.below b2
    have Z2 := Z1.below b2
    have L2 := bstep L1 b2
    clear a0 a1 c0 c1 z0 z1 k0 k1
    have ⟨a0, a1, _, _⟩ := A2
    have ⟨c0, c1, _, _⟩ := B2
    have ⟨z0, z1, k0, k1⟩ := Z2
    clear b1 b2 A0 A1 B0 B1 Z0 Z1 L0 L1
    go_wp2_with fail
    go_quiet ((first | (go_at_call 33; exact qsame (rsize_any _ _ (by omega) (by omega))) | (go_at_call 30; exact qdrew (rgcd_ab _ _ _ (by omega) (by omega) (by omega) (by omega)))))
    go_wp2_with fail
    go_quiet ((go_at_call 31; exact qsame2 (rprod_is _ HX.out TX.out (by omega) (by omega) (by omega) (by omega))))
    go_wp2_with fail
    go_quiet ((go_at_call 31; exact qsame2 (rprod_is _ HD.out TD.out (by omega) (by omega) (by omega) (by omega))))
    go_wp2_with fail
    exact bodyPost_ret (v := .tuple #[.agg #[.int .i64 0, .int .i64 0], .int .i64 5]) (by simp [results, Tryd.results14, go_sem, z0, z1]) rfl ⟨rfl, by first | exact below_drewN L2 _ | exact ((below_drewN L2 _).setCell (by simp <;> omega) _).setCell (by simp <;> omega) _⟩

theorem rMul_good (an ad bn bd : Int) (w : World) (ha : Rt.vld an ad) (hb : Rt.vld bn bd) : Calls Tryd.prog 14 #[.agg #[.int .i64 an, .int .i64 ad], .agg #[.int .i64 bn, .int .i64 bd]] w (Ret3 (Rt.prodS an ad bn bd) w) := by
  obtain ⟨x, hx⟩ : ∃ x, Rt.tmN (an.tdiv (Rt.g an bd)) (bn.tdiv (Rt.g bn ad)) = x := ⟨_, rfl⟩
  obtain ⟨dd, hd⟩ : ∃ x, Rt.tmN (ad / Rt.g bn ad) (bd / Rt.g an bd) = x := ⟨_, rfl⟩
  obtain ⟨tx, tx0⟩ : ∃ x, Rt.tmB (an.tdiv (Rt.g an bd)) (bn.tdiv (Rt.g bn ad)) = x := ⟨_, rfl⟩
  obtain ⟨td, td0⟩ : ∃ x, Rt.tmB (ad / Rt.g bn ad) (bd / Rt.g an bd) = x := ⟨_, rfl⟩
  rcases Rt.prod_cases hx hd tx0 td0 with ⟨hr, hok⟩ | ⟨hr, hno⟩
  · have hv := Rt.prod_vld_of ha hb hr
    rw [hr]; exact rprod_ok an ad bn bd x dd tx td w ha hb hx hd tx0 td0 hok hv.2.2.1 hv.2.2.2.1 hv.1 hv.2.1 hv.2.2.2.2
  · rw [hr]; exact rprod_lim an ad bn bd x dd tx td w ha hb hx hd tx0 td0 hno

set_option maxHeartbeats 800000 in
theorem rMul_bad1 (an ad bn bd : Int) (w : World) (ia : I64 an ∧ I64 ad) (ha : ¬ Rt.vld an ad) :
    Calls Tryd.prog 14 #[.agg #[.int .i64 an, .int .i64 ad], .agg #[.int .i64 bn, .int .i64 bd]] w fun e w' => e = .returned (.tuple #[.agg #[.int .i64 0, .int .i64 0], .int .i64 8]) ∧ Below w.heap.size w w' := by
  have A0 := ((RatAt.new w an ad 23).alloc (.cells #[.int .i64 bn, .int .i64 bd] 23)).alloc (.cells #[.int .i64 0, .int .i64 0] 23)
  have B0 := (RatAt.new1 w (.cells #[.int .i64 an, .int .i64 ad] 23) bn bd 23).alloc (.cells #[.int .i64 0, .int .i64 0] 23)
  have Z0 := RatAt.new2 w (.cells #[.int .i64 an, .int .i64 ad] 23) (.cells #[.int .i64 bn, .int .i64 bd] 23) 0 0 23
  have L0 := below3 w (.cells #[.int .i64 an, .int .i64 ad] 23) (.cells #[.int .i64 bn, .int .i64 bd] 23) (.cells #[.int .i64 0, .int .i64 0] 23)
  go_enter Tryd.func14, Tryd.ntmps14
  go_wp2_with fail
  refine (rvalid_no an ad _ ia.1 ia.2 ha).mono ?_
  rintro e w1 ⟨rfl, b1⟩
  have A1 := A0.below b1
  have B1 := B0.below b1
  have Z1 := Z0.below b1
  have L1 := bstep L0 b1
  have ⟨a0, a1, _, _⟩ := A1
  have ⟨c0, c1, _, _⟩ := B1
  have ⟨z0, z1, k0, k1⟩ := Z1
  go_wp2_with fail
  exact bodyPost_ret (v := .tuple #[.agg #[.int .i64 0, .int .i64 0], .int .i64 8]) (by simp [results, Tryd.results14, go_sem, z0, z1]) rfl ⟨rfl, (L1.setCell (by simp <;> omega) _).setCell (by simp <;> omega) _⟩

set_option maxHeartbeats 800000 in
theorem rMul_bad2 (an ad bn bd : Int) (w : World) (ib : I64 bn ∧ I64 bd) (ha : Rt.vld an ad) (hb : ¬ Rt.vld bn bd) :
    Calls Tryd.prog 14 #[.agg #[.int .i64 an, .int .i64 ad], .agg #[.int .i64 bn, .int .i64 bd]] w fun e w' => e = .returned (.tuple #[.agg #[.int .i64 0, .int .i64 0], .int .i64 8]) ∧ Below w.heap.size w w' := by
  have A0 := ((RatAt.new w an ad 23).alloc (.cells #[.int .i64 bn, .int .i64 bd] 23)).alloc (.cells #[.int .i64 0, .int .i64 0] 23)
  have B0 := (RatAt.new1 w (.cells #[.int .i64 an, .int .i64 ad] 23) bn bd 23).alloc (.cells #[.int .i64 0, .int .i64 0] 23)
  have Z0 := RatAt.new2 w (.cells #[.int .i64 an, .int .i64 ad] 23) (.cells #[.int .i64 bn, .int .i64 bd] 23) 0 0 23
  have L0 := below3 w (.cells #[.int .i64 an, .int .i64 ad] 23) (.cells #[.int .i64 bn, .int .i64 bd] 23) (.cells #[.int .i64 0, .int .i64 0] 23)
  go_enter Tryd.func14, Tryd.ntmps14
  go_wp2_with fail
  refine (rvalid_yes an ad _ ha).mono ?_
  rintro e w1 ⟨rfl, b1⟩
  have A1 := A0.below b1
  have B1 := B0.below b1
  have Z1 := Z0.below b1
  have L1 := bstep L0 b1
  have ⟨a0, a1, _, _⟩ := A1
  have ⟨c0, c1, _, _⟩ := B1
  have ⟨z0, z1, k0, k1⟩ := Z1
  go_wp2_with fail
  refine (rvalid_no bn bd _ ib.1 ib.2 hb).mono ?_
  rintro e w2 ⟨rfl, b2⟩
  have A2 := A1.below b2
  have B2 := B1.below b2
  have Z2 := Z1.below b2
  have L2 := bstep L1 b2
  clear a0 a1 c0 c1 z0 z1 k0 k1
  have ⟨a0, a1, _, _⟩ := A2
  have ⟨c0, c1, _, _⟩ := B2
  have ⟨z0, z1, k0, k1⟩ := Z2
  go_wp2_with fail
  exact bodyPost_ret (v := .tuple #[.agg #[.int .i64 0, .int .i64 0], .int .i64 8]) (by simp [results, Tryd.results14, go_sem, z0, z1]) rfl ⟨rfl, (L2.setCell (by simp <;> omega) _).setCell (by simp <;> omega) _⟩

theorem rMul_any (an ad bn bd : Int) (w : World) (ia : I64 an ∧ I64 ad) (ib : I64 bn ∧ I64 bd) : Calls Tryd.prog 14 #[.agg #[.int .i64 an, .int .i64 ad], .agg #[.int .i64 bn, .int .i64 bd]] w (Ret3 (Rt.mulS an ad bn bd) w) := by
  unfold Rt.mulS
  by_cases ha : Rt.vld an ad
  · by_cases hb : Rt.vld bn bd
    · rw [if_pos ⟨ha, hb⟩]
      exact rMul_good an ad bn bd w ha hb
    · rw [if_neg (fun h => hb h.2)]; exact rMul_bad2 an ad bn bd w ib ha hb
  · rw [if_neg (fun h => ha h.1)]; exact rMul_bad1 an ad bn bd w ia ha

set_option maxHeartbeats 800000 in
theorem rDiv_bad1 (an ad bn bd : Int) (w : World) (ia : I64 an ∧ I64 ad) (ha : ¬ Rt.vld an ad) :
    Calls Tryd.prog 16 #[.agg #[.int .i64 an, .int .i64 ad], .agg #[.int .i64 bn, .int .i64 bd]] w fun e w' => e = .returned (.tuple #[.agg #[.int .i64 0, .int .i64 0], .int .i64 8]) ∧ Below w.heap.size w w' := by
  have A0 := ((RatAt.new w an ad 23).alloc (.cells #[.int .i64 bn, .int .i64 bd] 23)).alloc (.cells #[.int .i64 0, .int .i64 0] 23)
  have B0 := (RatAt.new1 w (.cells #[.int .i64 an, .int .i64 ad] 23) bn bd 23).alloc (.cells #[.int .i64 0, .int .i64 0] 23)
  have Z0 := RatAt.new2 w (.cells #[.int .i64 an, .int .i64 ad] 23) (.cells #[.int .i64 bn, .int .i64 bd] 23) 0 0 23
  have L0 := below3 w (.cells #[.int .i64 an, .int .i64 ad] 23) (.cells #[.int .i64 bn, .int .i64 bd] 23) (.cells #[.int .i64 0, .int .i64 0] 23)
  go_enter Tryd.func16, Tryd.ntmps16
  go_wp2_with fail
  refine (rvalid_no an ad _ ia.1 ia.2 ha).mono ?_
  rintro e w1 ⟨rfl, b1⟩
  have A1 := A0.below b1
  have B1 := B0.below b1
  have Z1 := Z0.below b1
  have L1 := bstep L0 b1
  have ⟨a0, a1, _, _⟩ := A1
  have ⟨c0, c1, _, _⟩ := B1
  have ⟨z0, z1, k0, k1⟩ := Z1
  go_wp2_with fail
  exact bodyPost_ret (v := .tuple #[.agg #[.int .i64 0, .int .i64 0], .int .i64 8]) (by simp [results, Tryd.results16, go_sem, z0, z1]) rfl ⟨rfl, (L1.setCell (by simp <;> omega) _).setCell (by simp <;> omega) _⟩

set_option maxHeartbeats 800000 in
theorem rDiv_bad2 (an ad bn bd : Int) (w : World) (ib : I64 bn ∧ I64 bd) (ha : Rt.vld an ad) (hb : ¬ Rt.vld bn bd) :
    Calls Tryd.prog 16 #[.agg #[.int .i64 an, .int .i64 ad], .agg #[.int .i64 bn, .int .i64 bd]] w fun e w' => e = .returned (.tuple #[.agg #[.int .i64 0, .int .i64 0], .int .i64 8]) ∧ Below w.heap.size w w' := by
  have A0 := ((RatAt.new w an ad 23).alloc (.cells #[.int .i64 bn, .int .i64 bd] 23)).alloc (.cells #[.int .i64 0, .int .i64 0] 23)
  have B0 := (RatAt.new1 w (.cells #[.int .i64 an, .int .i64 ad] 23) bn bd 23).alloc (.cells #[.int .i64 0, .int .i64 0] 23)
  have Z0 := RatAt.new2 w (.cells #[.int .i64 an, .int .i64 ad] 23) (.cells #[.int .i64 bn, .int .i64 bd] 23) 0 0 23
  have L0 := below3 w (.cells #[.int .i64 an, .int .i64 ad] 23) (.cells #[.int .i64 bn, .int .i64 bd] 23) (.cells #[.int .i64 0, .int .i64 0] 23)
  go_enter Tryd.func16, Tryd.ntmps16
  go_wp2_with fail
  refine (rvalid_yes an ad _ ha).mono ?_
  rintro e w1 ⟨rfl, b1⟩
  have A1 := A0.below b1
  have B1 := B0.below b1
  have Z1 := Z0.below b1
  have L1 := bstep L0 b1
  have ⟨a0, a1, _, _⟩ := A1
  have ⟨c0, c1, _, _⟩ := B1
  have ⟨z0, z1, k0, k1⟩ := Z1
  go_wp2_with fail
  refine (rvalid_no bn bd _ ib.1 ib.2 hb).mono ?_
  rintro e w2 ⟨rfl, b2⟩
  have A2 := A1.below b2
  have B2 := B1.below b2
  have Z2 := Z1.below b2
  have L2 := bstep L1 b2
  clear a0 a1 c0 c1 z0 z1 k0 k1
  have ⟨a0, a1, _, _⟩ := A2
  have ⟨c0, c1, _, _⟩ := B2
  have ⟨z0, z1, k0, k1⟩ := Z2
  go_wp2_with fail
  exact bodyPost_ret (v := .tuple #[.agg #[.int .i64 0, .int .i64 0], .int .i64 8]) (by simp [results, Tryd.results16, go_sem, z0, z1]) rfl ⟨rfl, (L2.setCell (by simp <;> omega) _).setCell (by simp <;> omega) _⟩

set_option maxHeartbeats 800000 in
theorem rDivP_good (an ad bn bd : Int) (w : World) (ha : Rt.vld an ad) (hb : Rt.vld bn bd) (h0 : 0 < bn) : Calls Tryd.prog 16 #[.agg #[.int .i64 an, .int .i64 ad], .agg #[.int .i64 bn, .int .i64 bd]] w (Ret3 (Rt.prodS an ad bd bn) w) := by
  have r1 := hb.2.2.1
  have r2 := hb.2.2.2.1
  have r3 := hb.1
  have r4 := hb.2.1
  have hz : ((bn : Int) == 0) = false := by simp; omega
  have A0 := ((RatAt.new w an ad 23).alloc (.cells #[.int .i64 bn, .int .i64 bd] 23)).alloc (.cells #[.int .i64 0, .int .i64 0] 23)
  have B0 := (RatAt.new1 w (.cells #[.int .i64 an, .int .i64 ad] 23) bn bd 23).alloc (.cells #[.int .i64 0, .int .i64 0] 23)
  have Z0 := RatAt.new2 w (.cells #[.int .i64 an, .int .i64 ad] 23) (.cells #[.int .i64 bn, .int .i64 bd] 23) 0 0 23
  have L0 := below3 w (.cells #[.int .i64 an, .int .i64 ad] 23) (.cells #[.int .i64 bn, .int .i64 bd] 23) (.cells #[.int .i64 0, .int .i64 0] 23)
  go_enter Tryd.func16, Tryd.ntmps16
  go_wp2_with fail
  refine (rvalid_yes an ad _ ha).mono ?_
  rintro e w1 ⟨rfl, b1⟩
  have A1 := A0.below b1
  have B1 := B0.below b1
  have Z1 := Z0.below b1
  have L1 := bstep L0 b1
  have ⟨a0, a1, _, _⟩ := A1
  have ⟨c0, c1, _, _⟩ := B1
  have ⟨z0, z1, k0, k1⟩ := Z1
  go_wp2_with fail
  refine (rvalid_yes bn bd _ hb).mono ?_
  rintro e w2 ⟨rfl, b2⟩
  have A2 := A1.below b2
  have B2 := B1.below b2
  have Z2 := Z1.below b2
  have L2 := bstep L1 b2
  clear a0 a1 c0 c1 z0 z1 k0 k1
  have ⟨a0, a1, _, _⟩ := A2
  have ⟨c0, c1, _, _⟩ := B2
  have ⟨z0, z1, k0, k1⟩ := Z2
  go_wp2_with fail
  refine (rMul_good an ad bd bn _ ha (Rt.inv_pos hb h0)).mono ?_
  rintro e w3 ⟨rfl, b3⟩
  have A3 := A2.below b3
  have B3 := B2.below b3
  have Z3 := Z2.below b3
  have L3 := bstep L2 b3
  clear a0 a1 c0 c1 z0 z1 k0 k1
  have ⟨a0, a1, _, _⟩ := A3
  have ⟨c0, c1, _, _⟩ := B3
  have ⟨z0, z1, k0, k1⟩ := Z3
  go_wp2_with fail
  exact bodyPost_ret (v := .tuple #[.agg #[.int .i64 (Rt.prodS an ad bd bn).1, .int .i64 (Rt.prodS an ad bd bn).2.1], .int .i64 (Rt.prodS an ad bd bn).2.2]) (by simp [results, Tryd.results16, go_sem, z0, z1]) rfl ⟨rfl, (L3.setCell (by simp <;> omega) _).setCell (by simp <;> omega) _⟩

set_option maxHeartbeats 800000 in
theorem rDivN_good (an ad bn bd : Int) (w : World) (ha : Rt.vld an ad) (hb : Rt.vld bn bd) (h0 : bn < 0) : Calls Tryd.prog 16 #[.agg #[.int .i64 an, .int .i64 ad], .agg #[.int .i64 bn, .int .i64 bd]] w (Ret3 (Rt.prodS an ad (-bd) (-bn)) w) := by
  have r1 := hb.2.2.1
  have r2 := hb.2.2.2.1
  have r3 := hb.1
  have r4 := hb.2.1
  have hz : ((bn : Int) == 0) = false := by simp; omega
  have A0 := ((RatAt.new w an ad 23).alloc (.cells #[.int .i64 bn, .int .i64 bd] 23)).alloc (.cells #[.int .i64 0, .int .i64 0] 23)
  have B0 := (RatAt.new1 w (.cells #[.int .i64 an, .int .i64 ad] 23) bn bd 23).alloc (.cells #[.int .i64 0, .int .i64 0] 23)
  have Z0 := RatAt.new2 w (.cells #[.int .i64 an, .int .i64 ad] 23) (.cells #[.int .i64 bn, .int .i64 bd] 23) 0 0 23
  have L0 := below3 w (.cells #[.int .i64 an, .int .i64 ad] 23) (.cells #[.int .i64 bn, .int .i64 bd] 23) (.cells #[.int .i64 0, .int .i64 0] 23)
  go_enter Tryd.func16, Tryd.ntmps16
  go_wp2_with fail
  refine (rvalid_yes an ad _ ha).mono ?_
  rintro e w1 ⟨rfl, b1⟩
  have A1 := A0.below b1
  have B1 := B0.below b1
  have Z1 := Z0.below b1
  have L1 := bstep L0 b1
  have ⟨a0, a1, _, _⟩ := A1
  have ⟨c0, c1, _, _⟩ := B1
  have ⟨z0, z1, k0, k1⟩ := Z1
  go_wp2_with fail
  refine (rvalid_yes bn bd _ hb).mono ?_
  rintro e w2 ⟨rfl, b2⟩
  have A2 := A1.below b2
  have B2 := B1.below b2
  have Z2 := Z1.below b2
  have L2 := bstep L1 b2
  clear a0 a1 c0 c1 z0 z1 k0 k1
  have ⟨a0, a1, _, _⟩ := A2
  have ⟨c0, c1, _, _⟩ := B2
  have ⟨z0, z1, k0, k1⟩ := Z2
  go_wp2_with fail
  refine (rMul_good an ad (-bd) (-bn) _ ha (Rt.inv_neg hb h0)).mono ?_
  rintro e w3 ⟨rfl, b3⟩
  have A3 := A2.below b3
  have B3 := B2.below b3
  have Z3 := Z2.below b3
  have L3 := bstep L2 b3
  clear a0 a1 c0 c1 z0 z1 k0 k1
  have ⟨a0, a1, _, _⟩ := A3
  have ⟨c0, c1, _, _⟩ := B3
  have ⟨z0, z1, k0, k1⟩ := Z3
  go_wp2_with fail
  exact bodyPost_ret (v := .tuple #[.agg #[.int .i64 (Rt.prodS an ad (-bd) (-bn)).1, .int .i64 (Rt.prodS an ad (-bd) (-bn)).2.1], .int .i64 (Rt.prodS an ad (-bd) (-bn)).2.2]) (by simp [results, Tryd.results16, go_sem, z0, z1]) rfl ⟨rfl, (L3.setCell (by simp <;> omega) _).setCell (by simp <;> omega) _⟩

set_option maxHeartbeats 800000 in
theorem rDivZ_good (an ad bd : Int) (w : World) (ha : Rt.vld an ad) (hb : Rt.vld 0 bd) : Calls Tryd.prog 16 #[.agg #[.int .i64 an, .int .i64 ad], .agg #[.int .i64 0, .int .i64 bd]] w (Ret3 (0, 0, 1) w) := by
  have A0 := ((RatAt.new w an ad 23).alloc (.cells #[.int .i64 0, .int .i64 bd] 23)).alloc (.cells #[.int .i64 0, .int .i64 0] 23)
  have B0 := (RatAt.new1 w (.cells #[.int .i64 an, .int .i64 ad] 23) 0 bd 23).alloc (.cells #[.int .i64 0, .int .i64 0] 23)
  have Z0 := RatAt.new2 w (.cells #[.int .i64 an, .int .i64 ad] 23) (.cells #[.int .i64 0, .int .i64 bd] 23) 0 0 23
  have L0 := below3 w (.cells #[.int .i64 an, .int .i64 ad] 23) (.cells #[.int .i64 0, .int .i64 bd] 23) (.cells #[.int .i64 0, .int .i64 0] 23)
  go_enter Tryd.func16, Tryd.ntmps16
  go_wp2_with fail
  refine (rvalid_yes an ad _ ha).mono ?_
  rintro e w1 ⟨rfl, b1⟩
  have A1 := A0.below b1
  have B1 := B0.below b1
  have Z1 := Z0.below b1
  have L1 := bstep L0 b1
  have ⟨a0, a1, _, _⟩ := A1
  have ⟨c0, c1, _, _⟩ := B1
  have ⟨z0, z1, k0, k1⟩ := Z1
  go_wp2_with fail
  refine (rvalid_yes 0 bd _ hb).mono ?_
  rintro e w2 ⟨rfl, b2⟩
  have A2 := A1.below b2
  have B2 := B1.below b2
  have Z2 := Z1.below b2
  have L2 := bstep L1 b2
  clear a0 a1 c0 c1 z0 z1 k0 k1
  have ⟨a0, a1, _, _⟩ := A2
  have ⟨c0, c1, _, _⟩ := B2
  have ⟨z0, z1, k0, k1⟩ := Z2
  go_wp2_with fail
  exact bodyPost_ret (v := .tuple #[.agg #[.int .i64 0, .int .i64 0], .int .i64 1]) (by simp [results, Tryd.results16, go_sem, z0, z1]) rfl ⟨rfl, (L2.setCell (by simp <;> omega) _).setCell (by simp <;> omega) _⟩

theorem rDiv_any (an ad bn bd : Int) (w : World) (ia : I64 an ∧ I64 ad) (ib : I64 bn ∧ I64 bd) : Calls Tryd.prog 16 #[.agg #[.int .i64 an, .int .i64 ad], .agg #[.int .i64 bn, .int .i64 bd]] w (Ret3 (Rt.divS an ad bn bd) w) := by
  unfold Rt.divS
  by_cases ha : Rt.vld an ad
  · by_cases hb : Rt.vld bn bd
    · rw [if_pos ⟨ha, hb⟩]
      by_cases h0 : bn = 0
      · subst h0
        rw [if_pos rfl]
        exact rDivZ_good an ad bd w ha hb
      · rw [if_neg h0]
        by_cases hn : bn < 0
        · rw [if_pos hn]; exact rDivN_good an ad bn bd w ha hb hn
        · rw [if_neg hn]; exact rDivP_good an ad bn bd w ha hb (by omega)
    · rw [if_neg (fun h => hb h.2)]; exact rDiv_bad2 an ad bn bd w ib ha hb
  · rw [if_neg (fun h => ha h.1)]; exact rDiv_bad1 an ad bn bd w ia ha

set_option maxHeartbeats 1600000 in
theorem rless_go (k : Nat) : ∀ (a b c d : Int) (w : World), (b + d).toNat ≤ k → 0 ≤ a → a ≤ 4611686018427387904 → 1 ≤ b → b ≤ 4611686018427387904 → 0 ≤ c → c ≤ 4611686018427387904 → 1 ≤ d → d ≤ 4611686018427387904 →
    Calls Tryd.prog 35 #[.int .i64 a, .int .i64 b, .int .i64 c, .int .i64 d] w fun e w' => e = .returned (.bool (Rt.frB a b c d)) ∧ ∃ m, w' = w.drewN m := by
  induction k with
  | zero => intro a b c d w hk _ _ _ _ _ _ _ _; exact absurd hk (by omega)
  | succ k ih =>
    intro a b c d w hk a1 a2 b1 b2 c1 c2 d1 d2
    have b0 : ((b : Int) == 0) = false := by simp; omega
    have d0 : ((d : Int) == 0) = false := by simp; omega
    have q1 : 0 ≤ a / b := Int.ediv_nonneg a1 (by omega)
    have q2 : a / b ≤ a := Int.ediv_le_self _ a1
    have q3 : 0 ≤ c / d := Int.ediv_nonneg c1 (by omega)
    have q4 : c / d ≤ c := Int.ediv_le_self _ c1
    rcases (show a / b < c / d ∨ c / d < a / b ∨ a / b = c / d by omega) with hq | hq | hq
    · have hr := Lib.hid (Rt.fr_lt (a := a) (c := c) b1 d1 hq)
      have hne : ((a / b : Int) == c / d) = false := by simp; omega
      go_enter Tryd.func35, Tryd.ntmps35
      go_wp2_with fail
      go_quiet (fail)
      go_wp2_with fail
      go_quiet (fail)
      go_wp2_with fail
      go_ret
      exact ⟨ret_bool (by first | exact hr.out.symm | exact hr.out), by first | exact ((drew0 w).more _).more _ | exact (drew0 w).more _⟩
    · have hr := Lib.hid (Rt.fr_asym (Rt.fr_lt (a := c) (c := a) d1 b1 hq))
      have hne : ((a / b : Int) == c / d) = false := by simp; omega
      have hlt : decide (a / b < c / d) = false := by simp; omega
      go_enter Tryd.func35, Tryd.ntmps35
      go_wp2_with fail
      go_quiet (fail)
      go_wp2_with fail
      go_quiet (fail)
      go_wp2_with fail
      go_ret
      exact ⟨ret_bool (by first | exact hr.out.symm | exact hr.out), by first | exact ((drew0 w).more _).more _ | exact (drew0 w).more _⟩
    · have he : ((a / b : Int) == c / d) = true := by simp [hq]
      have m1 : 0 ≤ a % b := Int.emod_nonneg _ (by omega)
      have m2 : a % b < b := Int.emod_lt_of_pos _ (by omega)
      have m3 : 0 ≤ c % d := Int.emod_nonneg _ (by omega)
      have m4 : c % d < d := Int.emod_lt_of_pos _ (by omega)
      by_cases hc : c % d = 0
      · have hr := Lib.hid (Rt.fr_zero (a := a) (c := c) b1 d1 hq hc)
        have hc0 : ((c % d : Int) == 0) = true := by simp [hc]
        clear hq hc
        go_enter Tryd.func35, Tryd.ntmps35
        go_wp2_with fail
        go_quiet (fail)
        go_wp2_with fail
        go_quiet (fail)
        go_wp2_with fail
        go_ret
        exact ⟨ret_bool (by first | exact hr.out.symm | exact hr.out), by first | exact ((drew0 w).more _).more _ | exact (drew0 w).more _⟩
      · have hc0 : ((c % d : Int) == 0) = false := by simp [hc]
        by_cases ha : a % b = 0
        · have hr := Lib.hid (Rt.fr_one (a := a) (c := c) b1 d1 hq (by omega) ha)
          have ha0 : ((a % b : Int) == 0) = true := by simp [ha]
          clear hq hc ha
          go_enter Tryd.func35, Tryd.ntmps35
          go_wp2_with fail
          go_quiet (fail)
          go_wp2_with fail
          go_quiet (fail)
          go_wp2_with fail
          go_ret
          exact ⟨ret_bool (by first | exact hr.out.symm | exact hr.out), by first | exact ((drew0 w).more _).more _ | exact (drew0 w).more _⟩
        · have hr := Lib.hid (Rt.fr_rec (a := a) (b := b) (c := c) (d := d) hq)
          have ha0 : ((a % b : Int) == 0) = false := by simp [ha]
          have m5 : 1 ≤ c % d := by omega
          have m6 : 1 ≤ a % b := by omega
          clear hq hc ha
          go_enter Tryd.func35, Tryd.ntmps35
          go_wp2_with fail
          go_quiet (fail)
          go_wp2_with fail
          go_quiet (fail)
          go_wp2_with fail
          refine (ih d (c % d) b (a % b) _ (by omega) (by omega) (by omega) (by omega) (by omega) (by omega) (by omega) (by omega) (by omega)).mono ?_
          rintro e w' ⟨rfl, m, rfl⟩
          go_wp2_with fail
          go_ret
          exact ⟨ret_bool (by first | exact hr.out.symm | exact hr.out), by first | exact ((drew0 w).more _).more _ | exact (((drew0 w).more _).more _).more _ | exact (drew0 w).more _⟩
theorem rless_any (a b c d : Int) (w : World) (a1 : 0 ≤ a) (a2 : a ≤ 4611686018427387904) (b1 : 1 ≤ b) (b2 : b ≤ 4611686018427387904) (c1 : 0 ≤ c) (c2 : c ≤ 4611686018427387904) (d1 : 1 ≤ d) (d2 : d ≤ 4611686018427387904) :
    Calls Tryd.prog 35 #[.int .i64 a, .int .i64 b, .int .i64 c, .int .i64 d] w fun e w' => e = .returned (.bool (Rt.frB a b c d)) ∧ ∃ m, w' = w.drewN m :=
  rless_go _ a b c d w (Nat.le_refl _) a1 a2 b1 b2 c1 c2 d1 d2

set_option maxHeartbeats 800000 in
theorem rLess_bad1 (an ad bn bd : Int) (w : World) (ia : I64 an ∧ I64 ad) (ha : ¬ Rt.vld an ad) :
    Calls Tryd.prog 18 #[.agg #[.int .i64 an, .int .i64 ad], .agg #[.int .i64 bn, .int .i64 bd]] w fun e w' => e = .returned (.bool false) ∧ Below w.heap.size w w' := by
  have A0 := (RatAt.new w an ad 23).alloc (.cells #[.int .i64 bn, .int .i64 bd] 23)
  have B0 := RatAt.new1 w (.cells #[.int .i64 an, .int .i64 ad] 23) bn bd 23
  have L0 := below2 w (.cells #[.int .i64 an, .int .i64 ad] 23) (.cells #[.int .i64 bn, .int .i64 bd] 23)
  go_enter Tryd.func18, Tryd.ntmps18
  go_wp2_with fail
  refine (rvalid_no an ad _ ia.1 ia.2 ha).mono ?_
  rintro e w1 ⟨rfl, b1⟩
  have A1 := A0.below b1
  have B1 := B0.below b1
  have L1 := bstep L0 b1
  have ⟨a0, a1, _, _⟩ := A1
  have ⟨c0, c1, _, _⟩ := B1
  go_wp2_with fail
  go_ret
  exact ⟨rfl, L1⟩
set_option maxHeartbeats 800000 in
theorem rLess_bad2 (an ad bn bd : Int) (w : World) (ib : I64 bn ∧ I64 bd) (ha : Rt.vld an ad) (hb : ¬ Rt.vld bn bd) :
    Calls Tryd.prog 18 #[.agg #[.int .i64 an, .int .i64 ad], .agg #[.int .i64 bn, .int .i64 bd]] w fun e w' => e = .returned (.bool false) ∧ Below w.heap.size w w' := by
  have A0 := (RatAt.new w an ad 23).alloc (.cells #[.int .i64 bn, .int .i64 bd] 23)
  have B0 := RatAt.new1 w (.cells #[.int .i64 an, .int .i64 ad] 23) bn bd 23
  have L0 := below2 w (.cells #[.int .i64 an, .int .i64 ad] 23) (.cells #[.int .i64 bn, .int .i64 bd] 23)
  go_enter Tryd.func18, Tryd.ntmps18
  go_wp2_with fail
  refine (rvalid_yes an ad _ ha).mono ?_
  rintro e w1 ⟨rfl, b1⟩
  have A1 := A0.below b1
  have B1 := B0.below b1
  have L1 := bstep L0 b1
  have ⟨a0, a1, _, _⟩ := A1
  have ⟨c0, c1, _, _⟩ := B1
  go_wp2_with fail
  refine (rvalid_no bn bd _ ib.1 ib.2 hb).mono ?_
  rintro e w2 ⟨rfl, b2⟩
  have A2 := A1.below b2
  have B2 := B1.below b2
  have L2 := bstep L1 b2
  clear a0 a1 c0 c1
  have ⟨a0, a1, _, _⟩ := A2
  have ⟨c0, c1, _, _⟩ := B2
  go_wp2_with fail
  go_ret
  exact ⟨rfl, L2⟩
set_option maxHeartbeats 800000 in
theorem rLess_pp (an ad bn bd : Int) (w : World) (ha : Rt.vld an ad) (hb : Rt.vld bn bd) (h1 : 0 ≤ an) (h2 : 0 ≤ bn) :
    Calls Tryd.prog 18 #[.agg #[.int .i64 an, .int .i64 ad], .agg #[.int .i64 bn, .int .i64 bd]] w fun e w' => e = .returned (.bool (Rt.frB an ad bn bd)) ∧ Below w.heap.size w w' := by
  have ⟨u1, u2, u3, u4, _⟩ := ha
  have ⟨v1, v2, v3, v4, _⟩ := hb
  have A0 := (RatAt.new w an ad 23).alloc (.cells #[.int .i64 bn, .int .i64 bd] 23)
  have B0 := RatAt.new1 w (.cells #[.int .i64 an, .int .i64 ad] 23) bn bd 23
  have L0 := below2 w (.cells #[.int .i64 an, .int .i64 ad] 23) (.cells #[.int .i64 bn, .int .i64 bd] 23)
  go_enter Tryd.func18, Tryd.ntmps18
  go_wp2_with fail
  refine (rvalid_yes an ad _ ha).mono ?_
  rintro e w1 ⟨rfl, b1⟩
  have A1 := A0.below b1
  have B1 := B0.below b1
  have L1 := bstep L0 b1
  have ⟨a0, a1, _, _⟩ := A1
  have ⟨c0, c1, _, _⟩ := B1
  go_wp2_with fail
  refine (rvalid_yes bn bd _ hb).mono ?_
  rintro e w2 ⟨rfl, b2⟩
  have A2 := A1.below b2
  have B2 := B1.below b2
  have L2 := bstep L1 b2
  clear a0 a1 c0 c1
  have ⟨a0, a1, _, _⟩ := A2
  have ⟨c0, c1, _, _⟩ := B2
  go_wp2_with fail
  refine (rless_any an ad bn bd _ (by omega) (by omega) (by omega) (by omega) (by omega) (by omega) (by omega) (by omega)).mono ?_
  rintro e w' ⟨rfl, m, rfl⟩
  go_wp2_with fail
  go_ret
  exact ⟨rfl, below_drewN L2 _⟩
set_option maxHeartbeats 800000 in
theorem rLess_nn (an ad bn bd : Int) (w : World) (ha : Rt.vld an ad) (hb : Rt.vld bn bd) (h1 : an < 0) (h2 : bn < 0) :
    Calls Tryd.prog 18 #[.agg #[.int .i64 an, .int .i64 ad], .agg #[.int .i64 bn, .int .i64 bd]] w fun e w' => e = .returned (.bool (Rt.frB (-bn) bd (-an) ad)) ∧ Below w.heap.size w w' := by
  have ⟨u1, u2, u3, u4, _⟩ := ha
  have ⟨v1, v2, v3, v4, _⟩ := hb
  have A0 := (RatAt.new w an ad 23).alloc (.cells #[.int .i64 bn, .int .i64 bd] 23)
  have B0 := RatAt.new1 w (.cells #[.int .i64 an, .int .i64 ad] 23) bn bd 23
  have L0 := below2 w (.cells #[.int .i64 an, .int .i64 ad] 23) (.cells #[.int .i64 bn, .int .i64 bd] 23)
  go_enter Tryd.func18, Tryd.ntmps18
  go_wp2_with fail
  refine (rvalid_yes an ad _ ha).mono ?_
  rintro e w1 ⟨rfl, b1⟩
  have A1 := A0.below b1
  have B1 := B0.below b1
  have L1 := bstep L0 b1
  have ⟨a0, a1, _, _⟩ := A1
  have ⟨c0, c1, _, _⟩ := B1
  go_wp2_with fail
  refine (rvalid_yes bn bd _ hb).mono ?_
  rintro e w2 ⟨rfl, b2⟩
  have A2 := A1.below b2
  have B2 := B1.below b2
  have L2 := bstep L1 b2
  clear a0 a1 c0 c1
  have ⟨a0, a1, _, _⟩ := A2
  have ⟨c0, c1, _, _⟩ := B2
  go_wp2_with fail
  refine (rless_any (-bn) bd (-an) ad _ (by omega) (by omega) (by omega) (by omega) (by omega) (by omega) (by omega) (by omega)).mono ?_
  rintro e w' ⟨rfl, m, rfl⟩
  go_wp2_with fail
  go_ret
  exact ⟨rfl, below_drewN L2 _⟩
set_option maxHeartbeats 800000 in
theorem rLess_np (an ad bn bd : Int) (w : World) (ha : Rt.vld an ad) (hb : Rt.vld bn bd) (h1 : an < 0) (h2 : 0 ≤ bn) (hd : decide (0 ≤ an) = false) (hd2 : decide (bn < 0) = false) :
    Calls Tryd.prog 18 #[.agg #[.int .i64 an, .int .i64 ad], .agg #[.int .i64 bn, .int .i64 bd]] w fun e w' => e = .returned (.bool true) ∧ Below w.heap.size w w' := by
  have ⟨u1, u2, u3, u4, _⟩ := ha
  have ⟨v1, v2, v3, v4, _⟩ := hb
  have A0 := (RatAt.new w an ad 23).alloc (.cells #[.int .i64 bn, .int .i64 bd] 23)
  have B0 := RatAt.new1 w (.cells #[.int .i64 an, .int .i64 ad] 23) bn bd 23
  have L0 := below2 w (.cells #[.int .i64 an, .int .i64 ad] 23) (.cells #[.int .i64 bn, .int .i64 bd] 23)
  go_enter Tryd.func18, Tryd.ntmps18
  go_wp2_with fail
  refine (rvalid_yes an ad _ ha).mono ?_
  rintro e w1 ⟨rfl, b1⟩
  have A1 := A0.below b1
  have B1 := B0.below b1
  have L1 := bstep L0 b1
  have ⟨a0, a1, _, _⟩ := A1
  have ⟨c0, c1, _, _⟩ := B1
  go_wp2_with fail
  refine (rvalid_yes bn bd _ hb).mono ?_
  rintro e w2 ⟨rfl, b2⟩
  have A2 := A1.below b2
  have B2 := B1.below b2
  have L2 := bstep L1 b2
  clear a0 a1 c0 c1
  have ⟨a0, a1, _, _⟩ := A2
  have ⟨c0, c1, _, _⟩ := B2
  go_wp2_with fail
  go_ret
  exact ⟨by first | rfl | exact ret_bool (by simp; omega), L2⟩
set_option maxHeartbeats 800000 in
theorem rLess_pn (an ad bn bd : Int) (w : World) (ha : Rt.vld an ad) (hb : Rt.vld bn bd) (h1 : 0 ≤ an) (h2 : bn < 0) (hd : decide (0 ≤ bn) = false) (hd2 : decide (an < 0) = false) :
    Calls Tryd.prog 18 #[.agg #[.int .i64 an, .int .i64 ad], .agg #[.int .i64 bn, .int .i64 bd]] w fun e w' => e = .returned (.bool false) ∧ Below w.heap.size w w' := by
  have ⟨u1, u2, u3, u4, _⟩ := ha
  have ⟨v1, v2, v3, v4, _⟩ := hb
  have A0 := (RatAt.new w an ad 23).alloc (.cells #[.int .i64 bn, .int .i64 bd] 23)
  have B0 := RatAt.new1 w (.cells #[.int .i64 an, .int .i64 ad] 23) bn bd 23
  have L0 := below2 w (.cells #[.int .i64 an, .int .i64 ad] 23) (.cells #[.int .i64 bn, .int .i64 bd] 23)
  go_enter Tryd.func18, Tryd.ntmps18
  go_wp2_with fail
  refine (rvalid_yes an ad _ ha).mono ?_
  rintro e w1 ⟨rfl, b1⟩
  have A1 := A0.below b1
  have B1 := B0.below b1
  have L1 := bstep L0 b1
  have ⟨a0, a1, _, _⟩ := A1
  have ⟨c0, c1, _, _⟩ := B1
  go_wp2_with fail
  refine (rvalid_yes bn bd _ hb).mono ?_
  rintro e w2 ⟨rfl, b2⟩
  have A2 := A1.below b2
  have B2 := B1.below b2
  have L2 := bstep L1 b2
  clear a0 a1 c0 c1
  have ⟨a0, a1, _, _⟩ := A2
  have ⟨c0, c1, _, _⟩ := B2
  go_wp2_with fail
  go_ret
  exact ⟨by first | rfl | exact ret_bool (by simp; omega), L2⟩
theorem rLess_any (an ad bn bd : Int) (w : World) (ia : I64 an ∧ I64 ad) (ib : I64 bn ∧ I64 bd) :
    Calls Tryd.prog 18 #[.agg #[.int .i64 an, .int .i64 ad], .agg #[.int .i64 bn, .int .i64 bd]] w fun e w' => e = .returned (.bool (Rt.lessB an ad bn bd)) ∧ Below w.heap.size w w' := by
  by_cases ha : Rt.vld an ad
  · by_cases hb : Rt.vld bn bd
    · rw [Rt.less_yes ha hb]
      by_cases h1 : an < 0
      · by_cases h2 : bn < 0
        · rw [← Rt.less_nn']; exact rLess_nn an ad bn bd w ha hb h1 h2
        · rw [Rt.less_np h1 (by omega) ha.1 hb.1]; exact rLess_np an ad bn bd w ha hb h1 (by omega) (by simp; omega) (by simp; omega)
      · by_cases h2 : bn < 0
        · rw [Rt.less_pn (by omega) h2 ha.1 hb.1]; exact rLess_pn an ad bn bd w ha hb (by omega) h2 (by simp; omega) (by simp; omega)
        · exact rLess_pp an ad bn bd w ha hb (by omega) (by omega)
    · rw [show Rt.lessB an ad bn bd = false from decide_eq_false (fun h => hb h.2.1)]; exact rLess_bad2 an ad bn bd w ib ha hb
  · rw [show Rt.lessB an ad bn bd = false from decide_eq_false (fun h => ha h.1)]; exact rLess_bad1 an ad bn bd w ia ha

end Go.Proofs.YtcannkndedlooaaDoor
