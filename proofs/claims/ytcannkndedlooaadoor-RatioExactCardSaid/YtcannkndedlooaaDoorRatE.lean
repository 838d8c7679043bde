/- What Less of package ratio returns, and Add, Sub, Mul, Div and Less of the reference: the same. -/
import Derived.Test.YtcannkndedlooaaDoorRatD
namespace Go.Proofs.YtcannkndedlooaaDoor
open Go.RowKit
set_option linter.unusedVariables false
set_option linter.unusedSimpArgs false

set_option maxHeartbeats 800000 in
theorem Less_bad1 (an ad bn bd : Int) (w : World) (ia : I64 an ∧ I64 ad) (ha : ¬ Rt.vld an ad) :
    Calls Tryd.prog 17 #[.agg #[.int .i64 an, .int .i64 ad], .agg #[.int .i64 bn, .int .i64 bd]] w fun e w' => e = .returned (.bool false) ∧ Below w.heap.size w w' := by
  have A0 := (RatAt.new w an ad 23).alloc (.cells #[.int .i64 bn, .int .i64 bd] 23)
  have B0 := RatAt.new1 w (.cells #[.int .i64 an, .int .i64 ad] 23) bn bd 23
  have L0 := below2 w (.cells #[.int .i64 an, .int .i64 ad] 23) (.cells #[.int .i64 bn, .int .i64 bd] 23)
  go_enter Tryd.func17, Tryd.ntmps17
  go_wp2_with fail
  refine (valid_no an ad _ ia.1 ia.2 ha).mono ?_
  rintro e w1 ⟨rfl, b1⟩
  have A1 := A0.below b1
  have B1 := B0.below b1
  have L1 := bstep L0 b1
  have ⟨a0, a1, _, _⟩ := A1
  have ⟨c0, c1, _, _⟩ := B1
  go_wp2_with fail
  go_ret
  exact ⟨rfl, L1⟩
set_option maxHeartbeats 800000 in
theorem Less_bad2 (an ad bn bd : Int) (w : World) (ib : I64 bn ∧ I64 bd) (ha : Rt.vld an ad) (hb : ¬ Rt.vld bn bd) :
    Calls Tryd.prog 17 #[.agg #[.int .i64 an, .int .i64 ad], .agg #[.int .i64 bn, .int .i64 bd]] w fun e w' => e = .returned (.bool false) ∧ Below w.heap.size w w' := by
  have A0 := (RatAt.new w an ad 23).alloc (.cells #[.int .i64 bn, .int .i64 bd] 23)
  have B0 := RatAt.new1 w (.cells #[.int .i64 an, .int .i64 ad] 23) bn bd 23
  have L0 := below2 w (.cells #[.int .i64 an, .int .i64 ad] 23) (.cells #[.int .i64 bn, .int .i64 bd] 23)
  go_enter Tryd.func17, Tryd.ntmps17
  go_wp2_with fail
  refine (valid_yes an ad _ ha).mono ?_
  rintro e w1 ⟨rfl, b1⟩
  have A1 := A0.below b1
  have B1 := B0.below b1
  have L1 := bstep L0 b1
  have ⟨a0, a1, _, _⟩ := A1
  have ⟨c0, c1, _, _⟩ := B1
  go_wp2_with fail
  refine (valid_no bn bd _ ib.1 ib.2 hb).mono ?_
  rintro e w2 ⟨rfl, b2⟩
  have A2 := A1.below b2
  have B2 := B1.below b2
  have L2 := bstep L1 b2
  clear a0 a1 c0 c1
  have ⟨a0, a1, _, _⟩ := A2
  have ⟨c0, c1, _, _⟩ := B2
  go_wp2_with fail
  go_ret
  exact ⟨rfl, L2⟩
set_option maxHeartbeats 800000 in
theorem Less_pp (an ad bn bd : Int) (w : World) (ha : Rt.vld an ad) (hb : Rt.vld bn bd) (h1 : 0 ≤ an) (h2 : 0 ≤ bn) :
    Calls Tryd.prog 17 #[.agg #[.int .i64 an, .int .i64 ad], .agg #[.int .i64 bn, .int .i64 bd]] w fun e w' => e = .returned (.bool (Rt.ltB (Rt.ab an) ad (Rt.ab bn) bd)) ∧ Below w.heap.size w w' := by
  have ⟨u1, u2, u3, u4, _⟩ := ha
  have ⟨v1, v2, v3, v4, _⟩ := hb
  have A0 := (RatAt.new w an ad 23).alloc (.cells #[.int .i64 bn, .int .i64 bd] 23)
  have B0 := RatAt.new1 w (.cells #[.int .i64 an, .int .i64 ad] 23) bn bd 23
  have L0 := below2 w (.cells #[.int .i64 an, .int .i64 ad] 23) (.cells #[.int .i64 bn, .int .i64 bd] 23)
  go_enter Tryd.func17, Tryd.ntmps17
  go_wp2_with fail
  refine (valid_yes an ad _ ha).mono ?_
  rintro e w1 ⟨rfl, b1⟩
  have A1 := A0.below b1
  have B1 := B0.below b1
  have L1 := bstep L0 b1
  have ⟨a0, a1, _, _⟩ := A1
  have ⟨c0, c1, _, _⟩ := B1
  go_wp2_with fail
  refine (valid_yes bn bd _ hb).mono ?_
  rintro e w2 ⟨rfl, b2⟩
  have A2 := A1.below b2
  have B2 := B1.below b2
  have L2 := bstep L1 b2
  clear a0 a1 c0 c1
  have ⟨a0, a1, _, _⟩ := A2
  have ⟨c0, c1, _, _⟩ := B2
  go_wp2_with fail
  refine (smaller_any an ad bn bd _ (by omega) (by omega) (by omega) (by omega) (by omega) (by omega) (by omega) (by omega) _ rfl).mono ?_
  rintro e w3 ⟨rfl, b3⟩
  go_wp2_with fail
  go_ret
  exact ⟨rfl, bstep L2 b3⟩
set_option maxHeartbeats 800000 in
theorem Less_nn (an ad bn bd : Int) (w : World) (ha : Rt.vld an ad) (hb : Rt.vld bn bd) (h1 : an < 0) (h2 : bn < 0) :
    Calls Tryd.prog 17 #[.agg #[.int .i64 an, .int .i64 ad], .agg #[.int .i64 bn, .int .i64 bd]] w fun e w' => e = .returned (.bool (Rt.ltB (Rt.ab bn) bd (Rt.ab an) ad)) ∧ Below w.heap.size w w' := by
  have ⟨u1, u2, u3, u4, _⟩ := ha
  have ⟨v1, v2, v3, v4, _⟩ := hb
  have A0 := (RatAt.new w an ad 23).alloc (.cells #[.int .i64 bn, .int .i64 bd] 23)
  have B0 := RatAt.new1 w (.cells #[.int .i64 an, .int .i64 ad] 23) bn bd 23
  have L0 := below2 w (.cells #[.int .i64 an, .int .i64 ad] 23) (.cells #[.int .i64 bn, .int .i64 bd] 23)
  go_enter Tryd.func17, Tryd.ntmps17
  go_wp2_with fail
  refine (valid_yes an ad _ ha).mono ?_
  rintro e w1 ⟨rfl, b1⟩
  have A1 := A0.below b1
  have B1 := B0.below b1
  have L1 := bstep L0 b1
  have ⟨a0, a1, _, _⟩ := A1
  have ⟨c0, c1, _, _⟩ := B1
  go_wp2_with fail
  refine (valid_yes bn bd _ hb).mono ?_
  rintro e w2 ⟨rfl, b2⟩
  have A2 := A1.below b2
  have B2 := B1.below b2
  have L2 := bstep L1 b2
  clear a0 a1 c0 c1
  have ⟨a0, a1, _, _⟩ := A2
  have ⟨c0, c1, _, _⟩ := B2
  go_wp2_with fail
  refine (smaller_any bn bd an ad _ (by omega) (by omega) (by omega) (by omega) (by omega) (by omega) (by omega) (by omega) _ rfl).mono ?_
  rintro e w3 ⟨rfl, b3⟩
  go_wp2_with fail
  go_ret
  exact ⟨rfl, bstep L2 b3⟩
set_option maxHeartbeats 800000 in
theorem Less_np (an ad bn bd : Int) (w : World) (ha : Rt.vld an ad) (hb : Rt.vld bn bd) (h1 : an < 0) (h2 : 0 ≤ bn) (hd : decide (0 ≤ an) = false) (hd2 : decide (bn < 0) = false) :
    Calls Tryd.prog 17 #[.agg #[.int .i64 an, .int .i64 ad], .agg #[.int .i64 bn, .int .i64 bd]] w fun e w' => e = .returned (.bool true) ∧ Below w.heap.size w w' := by
  have ⟨u1, u2, u3, u4, _⟩ := ha
  have ⟨v1, v2, v3, v4, _⟩ := hb
  have A0 := (RatAt.new w an ad 23).alloc (.cells #[.int .i64 bn, .int .i64 bd] 23)
  have B0 := RatAt.new1 w (.cells #[.int .i64 an, .int .i64 ad] 23) bn bd 23
  have L0 := below2 w (.cells #[.int .i64 an, .int .i64 ad] 23) (.cells #[.int .i64 bn, .int .i64 bd] 23)
  go_enter Tryd.func17, Tryd.ntmps17
  go_wp2_with fail
  refine (valid_yes an ad _ ha).mono ?_
  rintro e w1 ⟨rfl, b1⟩
  have A1 := A0.below b1
  have B1 := B0.below b1
  have L1 := bstep L0 b1
  have ⟨a0, a1, _, _⟩ := A1
  have ⟨c0, c1, _, _⟩ := B1
  go_wp2_with fail
  refine (valid_yes bn bd _ hb).mono ?_
  rintro e w2 ⟨rfl, b2⟩
  have A2 := A1.below b2
  have B2 := B1.below b2
  have L2 := bstep L1 b2
  clear a0 a1 c0 c1
  have ⟨a0, a1, _, _⟩ := A2
  have ⟨c0, c1, _, _⟩ := B2
  go_wp2_with fail
  go_ret
  exact ⟨by first | rfl | exact ret_bool (by simp; omega), L2⟩
set_option maxHeartbeats 800000 in
theorem Less_pn (an ad bn bd : Int) (w : World) (ha : Rt.vld an ad) (hb : Rt.vld bn bd) (h1 : 0 ≤ an) (h2 : bn < 0) (hd : decide (0 ≤ bn) = false) (hd2 : decide (an < 0) = false) :
    Calls Tryd.prog 17 #[.agg #[.int .i64 an, .int .i64 ad], .agg #[.int .i64 bn, .int .i64 bd]] w fun e w' => e = .returned (.bool false) ∧ Below w.heap.size w w' := by
  have ⟨u1, u2, u3, u4, _⟩ := ha
  have ⟨v1, v2, v3, v4, _⟩ := hb
  have A0 := (RatAt.new w an ad 23).alloc (.cells #[.int .i64 bn, .int .i64 bd] 23)
  have B0 := RatAt.new1 w (.cells #[.int .i64 an, .int .i64 ad] 23) bn bd 23
  have L0 := below2 w (.cells #[.int .i64 an, .int .i64 ad] 23) (.cells #[.int .i64 bn, .int .i64 bd] 23)
  go_enter Tryd.func17, Tryd.ntmps17
  go_wp2_with fail
  refine (valid_yes an ad _ ha).mono ?_
  rintro e w1 ⟨rfl, b1⟩
  have A1 := A0.below b1
  have B1 := B0.below b1
  have L1 := bstep L0 b1
  have ⟨a0, a1, _, _⟩ := A1
  have ⟨c0, c1, _, _⟩ := B1
  go_wp2_with fail
  refine (valid_yes bn bd _ hb).mono ?_
  rintro e w2 ⟨rfl, b2⟩
  have A2 := A1.below b2
  have B2 := B1.below b2
  have L2 := bstep L1 b2
  clear a0 a1 c0 c1
  have ⟨a0, a1, _, _⟩ := A2
  have ⟨c0, c1, _, _⟩ := B2
  go_wp2_with fail
  go_ret
  exact ⟨by first | rfl | exact ret_bool (by simp; omega), L2⟩
theorem Less_any (an ad bn bd : Int) (w : World) (ia : I64 an ∧ I64 ad) (ib : I64 bn ∧ I64 bd) :
    Calls Tryd.prog 17 #[.agg #[.int .i64 an, .int .i64 ad], .agg #[.int .i64 bn, .int .i64 bd]] w fun e w' => e = .returned (.bool (Rt.lessB an ad bn bd)) ∧ Below w.heap.size w w' := by
  by_cases ha : Rt.vld an ad
  · by_cases hb : Rt.vld bn bd
    · rw [Rt.less_yes ha hb]
      by_cases h1 : an < 0
      · by_cases h2 : bn < 0
        · rw [← Rt.less_nn h1 h2]; exact Less_nn an ad bn bd w ha hb h1 h2
        · rw [Rt.less_np h1 (by omega) ha.1 hb.1]; exact Less_np an ad bn bd w ha hb h1 (by omega) (by simp; omega) (by simp; omega)
      · by_cases h2 : bn < 0
        · rw [Rt.less_pn (by omega) h2 ha.1 hb.1]; exact Less_pn an ad bn bd w ha hb (by omega) h2 (by simp; omega) (by simp; omega)
        · rw [← Rt.less_pp (show 0 ≤ an by omega) (show 0 ≤ bn by omega)]; exact Less_pp an ad bn bd w ha hb (by omega) (by omega)
    · rw [show Rt.lessB an ad bn bd = false from decide_eq_false (fun h => hb h.2.1)]; exact Less_bad2 an ad bn bd w ib ha hb
  · rw [show Rt.lessB an ad bn bd = false from decide_eq_false (fun h => ha h.1)]; exact Less_bad1 an ad bn bd w ia ha

set_option maxHeartbeats 1600000 in
theorem rsum_ok (an ad bn bd x y dd : Int) (tx ty td : Bool) (w : World) (ha : Rt.vld an ad) (hb : Rt.vld bn bd)
    (hx : Rt.tmN an (bd / Rt.g ad bd) = x) (hy : Rt.tmN bn (ad / Rt.g ad bd) = y) (hd : Rt.tmN (ad / Rt.g ad bd) bd = dd)
    (tx0 : Rt.tmB an (bd / Rt.g ad bd) = tx) (ty0 : Rt.tmB bn (ad / Rt.g ad bd) = ty) (td0 : Rt.tmB (ad / Rt.g ad bd) bd = td)
    (hok : tx = true ∧ ty = true ∧ td = true) (fs : Rt.fits (x + y)) (d1 : 1 ≤ dd) (d2 : dd ≤ 4611686018427387904) :
    Calls Tryd.prog 10 #[.agg #[.int .i64 an, .int .i64 ad], .agg #[.int .i64 bn, .int .i64 bd]] w fun e w' => e = .returned (.tuple #[.agg #[.int .i64 (Rt.lowN (x + y) dd), .int .i64 (Rt.lowD (x + y) dd)], .int .i64 0]) ∧ Below w.heap.size w w' := by
  obtain ⟨rfl, rfl, rfl⟩ := hok
  have ⟨p1, p2, p3, p4, _⟩ := ha
  have ⟨r1, r2, r3, r4, _⟩ := hb
  have g1 := Rt.g_pos (a := ad) r1
  have g2 := Rt.g_le (a := ad) r1
  have g0 : ((Rt.g ad bd : Int) == 0) = false := by simp; omega
  have q1 := Rt.divr_pos (a := ad) r1
  have q2 := Rt.divr_le (a := ad) r1
  have q3 := Rt.divl_pos p1 r1
  have q4 := Rt.divl_le (b := bd) p1
  have x1 := Rt.tmN_bd an (bd / Rt.g ad bd)
  have y1 := Rt.tmN_bd bn (ad / Rt.g ad bd)
  rw [hx] at x1
  rw [hy] at y1
  obtain ⟨x1, x2⟩ := x1
  obtain ⟨y1, y2⟩ := y1
  have HX := Lib.hid hx
  have HY := Lib.hid hy
  have HD := Lib.hid hd
  have TX := Lib.hid tx0
  have TY := Lib.hid ty0
  have TD := Lib.hid td0
  clear hx hy hd tx0 ty0 td0
  have f1 := fs.1
  have f2 := fs.2
  clear fs
  rcases (show 0 < x ∨ (¬ 0 < x ∧ x < 0) ∨ (¬ 0 < x ∧ ¬ x < 0) by omega) with hs | ⟨hs1, hs⟩ | ⟨hs1, hs⟩
  all_goals
    have A0 := ((RatAt.new w an ad 23).alloc (.cells #[.int .i64 bn, .int .i64 bd] 23)).alloc (.cells #[.int .i64 0, .int .i64 0] 23)
    have B0 := (RatAt.new1 w (.cells #[.int .i64 an, .int .i64 ad] 23) bn bd 23).alloc (.cells #[.int .i64 0, .int .i64 0] 23)
    have Z0 := RatAt.new2 w (.cells #[.int .i64 an, .int .i64 ad] 23) (.cells #[.int .i64 bn, .int .i64 bd] 23) 0 0 23
    have L0 := below3 w (.cells #[.int .i64 an, .int .i64 ad] 23) (.cells #[.int .i64 bn, .int .i64 bd] 23) (.cells #[.int .i64 0, .int .i64 0] 23)
    go_enter Tryd.func10, Tryd.ntmps10
    go_wp2_with fail
    refine (rvalid_yes an ad _ ha).mono ?_
    rintro e w1 ⟨rfl, b1⟩
    have A1 := A0.below b1
    have B1 := B0.below b1
    have Z1 := Z0.below b1
    have L1 := bstep L0 b1
    have ⟨a0, a1, _, _⟩ := A1
    have ⟨c0, c1, _, _⟩ := B1
    have ⟨z0, z1, k0, k1⟩ := Z1
    go_wp2_with fail
    refine (rvalid_yes bn bd _ hb).mono ?_
    rintro e w2 ⟨rfl, b2⟩
    have A2 := A1.below b2
    have B2 := B1.below b2
    have Z2 := Z1.below b2
    have L2 := bstep L1 b2
    clear a0 a1 c0 c1 z0 z1 k0 k1
    have ⟨a0, a1, _, _⟩ := A2
    have ⟨c0, c1, _, _⟩ := B2
    have ⟨z0, z1, k0, k1⟩ := Z2
    clear b1 b2 A0 A1 B0 B1 Z0 Z1 L0 L1
    go_wp2_with fail
    refine (rgcd_any ad bd _ (by omega) p2 r1 r2).mono ?_
    rintro e w' ⟨rfl, m, rfl⟩
    go_wp2_with fail
    go_quiet ((go_at_call 31; exact qsame2 (rprod_is _ HX.out TX.out (by omega) (by omega) (by omega) (by omega))))
    go_wp2_with fail
    go_quiet ((go_at_call 31; exact qsame2 (rprod_is _ HY.out TY.out (by omega) (by omega) (by omega) (by omega))))
    go_wp2_with fail
    go_quiet ((go_at_call 31; exact qsame2 (rprod_is _ HD.out TD.out (by omega) (by omega) (by omega) (by omega))))
    go_wp2_with fail
    refine (rnew_yes (x + y) dd _ (by omega) (by omega) (by omega) (by omega)).mono ?_
    rintro e w3 ⟨rfl, b3⟩
    have Z3 := (Z2.drewN _).below b3
    have L3 := bstep (below_drewN L2 _) b3
    clear z0 z1 k0 k1
    have ⟨z0, z1, k0, k1⟩ := Z3
    go_wp2_with fail
    exact bodyPost_ret (v := .tuple #[.agg #[.int .i64 (Rt.lowN (x + y) dd), .int .i64 (Rt.lowD (x + y) dd)], .int .i64 0]) (by simp [results, Tryd.results10, go_sem, z0, z1]) rfl ⟨rfl, (L3.setCell (by simp <;> omega) _).setCell (by simp <;> omega) _⟩

set_option maxHeartbeats 1600000 in
theorem rsum_lim (an ad bn bd x y dd : Int) (tx ty td : Bool) (w : World) (ha : Rt.vld an ad) (hb : Rt.vld bn bd)
    (hx : Rt.tmN an (bd / Rt.g ad bd) = x) (hy : Rt.tmN bn (ad / Rt.g ad bd) = y) (hd : Rt.tmN (ad / Rt.g ad bd) bd = dd)
    (tx0 : Rt.tmB an (bd / Rt.g ad bd) = tx) (ty0 : Rt.tmB bn (ad / Rt.g ad bd) = ty) (td0 : Rt.tmB (ad / Rt.g ad bd) bd = td)
    (hno : tx = false ∨ (tx = true ∧ ty = false) ∨ (tx = true ∧ ty = true ∧ td = false) ∨ (tx = true ∧ ty = true ∧ td = true ∧ ¬ Rt.fits (x + y))) :
    Calls Tryd.prog 10 #[.agg #[.int .i64 an, .int .i64 ad], .agg #[.int .i64 bn, .int .i64 bd]] w fun e w' => e = .returned (.tuple #[.agg #[.int .i64 0, .int .i64 0], .int .i64 5]) ∧ Below w.heap.size w w' := by
  have ⟨p1, p2, p3, p4, _⟩ := ha
  have ⟨r1, r2, r3, r4, _⟩ := hb
  have g1 := Rt.g_pos (a := ad) r1
  have g2 := Rt.g_le (a := ad) r1
  have g0 : ((Rt.g ad bd : Int) == 0) = false := by simp; omega
  have q1 := Rt.divr_pos (a := ad) r1
  have q2 := Rt.divr_le (a := ad) r1
  have q3 := Rt.divl_pos p1 r1
  have q4 := Rt.divl_le (b := bd) p1
  have x1 := Rt.tmN_bd an (bd / Rt.g ad bd)
  have y1 := Rt.tmN_bd bn (ad / Rt.g ad bd)
  rw [hx] at x1
  rw [hy] at y1
  obtain ⟨x1, x2⟩ := x1
  obtain ⟨y1, y2⟩ := y1
  have HX := Lib.hid hx
  have HY := Lib.hid hy
  have HD := Lib.hid hd
  have TX := Lib.hid tx0
  have TY := Lib.hid ty0
  have TD := Lib.hid td0
  clear hx hy hd tx0 ty0 td0
  have hno' : tx = false ∨ (tx = true ∧ ty = false) ∨ (tx = true ∧ ty = true ∧ td = false) ∨ (tx = true ∧ ty = true ∧ td = true ∧ 0 < x ∧ 4611686018427387904 - x < y) ∨ (tx = true ∧ ty = true ∧ td = true ∧ ¬ 0 < x ∧ x < 0 ∧ y < -4611686018427387904 - x) := by
    rcases hno with h | h | h | ⟨h1, h2, h3, h4⟩
    · exact .inl h
    · exact .inr (.inl h)
    · exact .inr (.inr (.inl h))
    · by_cases hx : 0 < x
      · refine .inr (.inr (.inr (.inl ⟨h1, h2, h3, hx, ?_⟩)))
        by_cases hy : 4611686018427387904 - x < y
        · exact hy
        · exact absurd ⟨by omega, by omega⟩ h4
      · by_cases hx2 : x < 0
        · refine .inr (.inr (.inr (.inr ⟨h1, h2, h3, hx, hx2, ?_⟩)))
          by_cases hy : y < -4611686018427387904 - x
          · exact hy
          · exact absurd ⟨by omega, by omega⟩ h4
        · exact absurd ⟨by omega, by omega⟩ h4
  clear hno
  rcases hno' with rfl | ⟨rfl, rfl⟩ | ⟨rfl, rfl, rfl⟩ | ⟨rfl, rfl, rfl, hs, hs2⟩ | ⟨rfl, rfl, rfl, hs0, hs, hs2⟩
  all_goals
    have A0 := ((RatAt.new w an ad 23).alloc (.cells #[.int .i64 bn, .int .i64 bd] 23)).alloc (.cells #[.int .i64 0, .int .i64 0] 23)
    have B0 := (RatAt.new1 w (.cells #[.int .i64 an, .int .i64 ad] 23) bn bd 23).alloc (.cells #[.int .i64 0, .int .i64 0] 23)
    have Z0 := RatAt.new2 w (.cells #[.int .i64 an, .int .i64 ad] 23) (.cells #[.int .i64 bn, .int .i64 bd] 23) 0 0 23
    have L0 := below3 w (.cells #[.int .i64 an, .int .i64 ad] 23) (.cells #[.int .i64 bn, .int .i64 bd] 23) (.cells #[.int .i64 0, .int .i64 0] 23)
    go_enter Tryd.func10, Tryd.ntmps10
    go_wp2_with fail
    refine (rvalid_yes an ad _ ha).mono ?_
    rintro e w1 ⟨rfl, b1⟩
    have A1 := A0.below b1
    have B1 := B0.below b1
    have Z1 := Z0.below b1
    have L1 := bstep L0 b1
    have ⟨a0, a1, _, _⟩ := A1
    have ⟨c0, c1, _, _⟩ := B1
    have ⟨z0, z1, k0, k1⟩ := Z1
    go_wp2_with fail
    refine (rvalid_yes bn bd _ hb).mono ?_
    rintro e w2 ⟨rfl, b2⟩
    have A2 := A1.below b2
    have B2 := B1.below b2
    have Z2 := Z1.below b2
    have L2 := bstep L1 b2
    clear a0 a1 c0 c1 z0 z1 k0 k1
    have ⟨a0, a1, _, _⟩ := A2
    have ⟨c0, c1, _, _⟩ := B2
    have ⟨z0, z1, k0, k1⟩ := Z2
    clear b1 b2 A0 A1 B0 B1 Z0 Z1 L0 L1
    go_wp2_with fail
    refine (rgcd_any ad bd _ (by omega) p2 r1 r2).mono ?_
    rintro e w' ⟨rfl, m, rfl⟩
    go_wp2_with fail
    go_quiet ((go_at_call 31; exact qsame2 (rprod_is _ HX.out TX.out (by omega) (by omega) (by omega) (by omega))))
    go_wp2_with fail
    go_quiet ((go_at_call 31; exact qsame2 (rprod_is _ HY.out TY.out (by omega) (by omega) (by omega) (by omega))))
    go_wp2_with fail
    go_quiet ((go_at_call 31; exact qsame2 (rprod_is _ HD.out TD.out (by omega) (by omega) (by omega) (by omega))))
    go_wp2_with fail
    exact bodyPost_ret (v := .tuple #[.agg #[.int .i64 0, .int .i64 0], .int .i64 5]) (by simp [results, Tryd.results10, go_sem, z0, z1]) rfl ⟨rfl, by first | exact below_drewN L2 _ | exact ((below_drewN L2 _).setCell (by simp <;> omega) _).setCell (by simp <;> omega) _⟩

theorem rAdd_good (an ad bn bd : Int) (w : World) (ha : Rt.vld an ad) (hb : Rt.vld bn bd) : Calls Tryd.prog 10 #[.agg #[.int .i64 an, .int .i64 ad], .agg #[.int .i64 bn, .int .i64 bd]] w (Ret3 (Rt.sumS an ad bn bd) w) := by
  obtain ⟨x, hx⟩ : ∃ x, Rt.tmN an (bd / Rt.g ad bd) = x := ⟨_, rfl⟩
  obtain ⟨y, hy⟩ : ∃ x, Rt.tmN bn (ad / Rt.g ad bd) = x := ⟨_, rfl⟩
  obtain ⟨dd, hd⟩ : ∃ x, Rt.tmN (ad / Rt.g ad bd) bd = x := ⟨_, rfl⟩
  obtain ⟨tx, tx0⟩ : ∃ x, Rt.tmB an (bd / Rt.g ad bd) = x := ⟨_, rfl⟩
  obtain ⟨ty, ty0⟩ : ∃ x, Rt.tmB bn (ad / Rt.g ad bd) = x := ⟨_, rfl⟩
  obtain ⟨td, td0⟩ : ∃ x, Rt.tmB (ad / Rt.g ad bd) bd = x := ⟨_, rfl⟩
  rcases Rt.rsum_cases ha.1 hb.1 hx hy hd tx0 ty0 td0 with ⟨hr, hok, hf, h1, h2⟩ | ⟨hr, hno⟩
  · rw [hr]; exact rsum_ok an ad bn bd x y dd tx ty td w ha hb hx hy hd tx0 ty0 td0 hok hf h1 h2
  · rw [hr]; exact rsum_lim an ad bn bd x y dd tx ty td w ha hb hx hy hd tx0 ty0 td0 hno

set_option maxHeartbeats 800000 in
theorem rAdd_bad1 (an ad bn bd : Int) (w : World) (ia : I64 an ∧ I64 ad) (ha : ¬ Rt.vld an ad) :
    Calls Tryd.prog 10 #[.agg #[.int .i64 an, .int .i64 ad], .agg #[.int .i64 bn, .int .i64 bd]] w fun e w' => e = .returned (.tuple #[.agg #[.int .i64 0, .int .i64 0], .int .i64 8]) ∧ Below w.heap.size w w' := by
  have A0 := ((RatAt.new w an ad 23).alloc (.cells #[.int .i64 bn, .int .i64 bd] 23)).alloc (.cells #[.int .i64 0, .int .i64 0] 23)
  have B0 := (RatAt.new1 w (.cells #[.int .i64 an, .int .i64 ad] 23) bn bd 23).alloc (.cells #[.int .i64 0, .int .i64 0] 23)
  have Z0 := RatAt.new2 w (.cells #[.int .i64 an, .int .i64 ad] 23) (.cells #[.int .i64 bn, .int .i64 bd] 23) 0 0 23
  have L0 := below3 w (.cells #[.int .i64 an, .int .i64 ad] 23) (.cells #[.int .i64 bn, .int .i64 bd] 23) (.cells #[.int .i64 0, .int .i64 0] 23)
  go_enter Tryd.func10, Tryd.ntmps10
  go_wp2_with fail
  refine (rvalid_no an ad _ ia.1 ia.2 ha).mono ?_
  rintro e w1 ⟨rfl, b1⟩
  have A1 := A0.below b1
  have B1 := B0.below b1
  have Z1 := Z0.below b1
  have L1 := bstep L0 b1
  have ⟨a0, a1, _, _⟩ := A1
  have ⟨c0, c1, _, _⟩ := B1
  have ⟨z0, z1, k0, k1⟩ := Z1
  go_wp2_with fail
  exact bodyPost_ret (v := .tuple #[.agg #[.int .i64 0, .int .i64 0], .int .i64 8]) (by simp [results, Tryd.results10, go_sem, z0, z1]) rfl ⟨rfl, (L1.setCell (by simp <;> omega) _).setCell (by simp <;> omega) _⟩

set_option maxHeartbeats 800000 in
theorem rAdd_bad2 (an ad bn bd : Int) (w : World) (ib : I64 bn ∧ I64 bd) (ha : Rt.vld an ad) (hb : ¬ Rt.vld bn bd) :
    Calls Tryd.prog 10 #[.agg #[.int .i64 an, .int .i64 ad], .agg #[.int .i64 bn, .int .i64 bd]] w fun e w' => e = .returned (.tuple #[.agg #[.int .i64 0, .int .i64 0], .int .i64 8]) ∧ Below w.heap.size w w' := by
  have A0 := ((RatAt.new w an ad 23).alloc (.cells #[.int .i64 bn, .int .i64 bd] 23)).alloc (.cells #[.int .i64 0, .int .i64 0] 23)
  have B0 := (RatAt.new1 w (.cells #[.int .i64 an, .int .i64 ad] 23) bn bd 23).alloc (.cells #[.int .i64 0, .int .i64 0] 23)
  have Z0 := RatAt.new2 w (.cells #[.int .i64 an, .int .i64 ad] 23) (.cells #[.int .i64 bn, .int .i64 bd] 23) 0 0 23
  have L0 := below3 w (.cells #[.int .i64 an, .int .i64 ad] 23) (.cells #[.int .i64 bn, .int .i64 bd] 23) (.cells #[.int .i64 0, .int .i64 0] 23)
  go_enter Tryd.func10, Tryd.ntmps10
  go_wp2_with fail
  refine (rvalid_yes an ad _ ha).mono ?_
  rintro e w1 ⟨rfl, b1⟩
  have A1 := A0.below b1
  have B1 := B0.below b1
  have Z1 := Z0.below b1
  have L1 := bstep L0 b1
  have ⟨a0, a1, _, _⟩ := A1
  have ⟨c0, c1, _, _⟩ := B1
  have ⟨z0, z1, k0, k1⟩ := Z1
  go_wp2_with fail
  refine (rvalid_no bn bd _ ib.1 ib.2 hb).mono ?_
  rintro e w2 ⟨rfl, b2⟩
  have A2 := A1.below b2
  have B2 := B1.below b2
  have Z2 := Z1.below b2
  have L2 := bstep L1 b2
  clear a0 a1 c0 c1 z0 z1 k0 k1
  have ⟨a0, a1, _, _⟩ := A2
  have ⟨c0, c1, _, _⟩ := B2
  have ⟨z0, z1, k0, k1⟩ := Z2
  go_wp2_with fail
  exact bodyPost_ret (v := .tuple #[.agg #[.int .i64 0, .int .i64 0], .int .i64 8]) (by simp [results, Tryd.results10, go_sem, z0, z1]) rfl ⟨rfl, (L2.setCell (by simp <;> omega) _).setCell (by simp <;> omega) _⟩

theorem rAdd_any (an ad bn bd : Int) (w : World) (ia : I64 an ∧ I64 ad) (ib : I64 bn ∧ I64 bd) : Calls Tryd.prog 10 #[.agg #[.int .i64 an, .int .i64 ad], .agg #[.int .i64 bn, .int .i64 bd]] w (Ret3 (Rt.addS an ad bn bd) w) := by
  unfold Rt.addS
  by_cases ha : Rt.vld an ad
  · by_cases hb : Rt.vld bn bd
    · rw [if_pos ⟨ha, hb⟩]
      exact rAdd_good an ad bn bd w ha hb
    · rw [if_neg (fun h => hb h.2)]; exact rAdd_bad2 an ad bn bd w ib ha hb
  · rw [if_neg (fun h => ha h.1)]; exact rAdd_bad1 an ad bn bd w ia ha

set_option maxHeartbeats 800000 in
theorem rSub_bad (an ad bn bd : Int) (w : World) (ib : I64 bn ∧ I64 bd) (hb : ¬ Rt.vld bn bd) :
    Calls Tryd.prog 12 #[.agg #[.int .i64 an, .int .i64 ad], .agg #[.int .i64 bn, .int .i64 bd]] w fun e w' => e = .returned (.tuple #[.agg #[.int .i64 0, .int .i64 0], .int .i64 8]) ∧ Below w.heap.size w w' := by
  have A0 := ((RatAt.new w an ad 23).alloc (.cells #[.int .i64 bn, .int .i64 bd] 23)).alloc (.cells #[.int .i64 0, .int .i64 0] 23)
  have B0 := (RatAt.new1 w (.cells #[.int .i64 an, .int .i64 ad] 23) bn bd 23).alloc (.cells #[.int .i64 0, .int .i64 0] 23)
  have Z0 := RatAt.new2 w (.cells #[.int .i64 an, .int .i64 ad] 23) (.cells #[.int .i64 bn, .int .i64 bd] 23) 0 0 23
  have L0 := below3 w (.cells #[.int .i64 an, .int .i64 ad] 23) (.cells #[.int .i64 bn, .int .i64 bd] 23) (.cells #[.int .i64 0, .int .i64 0] 23)
  go_enter Tryd.func12, Tryd.ntmps12
  go_wp2_with fail
  refine (rvalid_no bn bd _ ib.1 ib.2 hb).mono ?_
  rintro e w1 ⟨rfl, b1⟩
  have A1 := A0.below b1
  have B1 := B0.below b1
  have Z1 := Z0.below b1
  have L1 := bstep L0 b1
  have ⟨a0, a1, _, _⟩ := A1
  have ⟨c0, c1, _, _⟩ := B1
  have ⟨z0, z1, k0, k1⟩ := Z1
  go_wp2_with fail
  exact bodyPost_ret (v := .tuple #[.agg #[.int .i64 0, .int .i64 0], .int .i64 8]) (by simp [results, Tryd.results12, go_sem, z0, z1]) rfl ⟨rfl, (L1.setCell (by simp <;> omega) _).setCell (by simp <;> omega) _⟩

set_option maxHeartbeats 800000 in
theorem rSub_go (an ad bn bd : Int) (w : World) (ia : I64 an ∧ I64 ad) (hb : Rt.vld bn bd) : Calls Tryd.prog 12 #[.agg #[.int .i64 an, .int .i64 ad], .agg #[.int .i64 bn, .int .i64 bd]] w (Ret3 (Rt.addS an ad (-bn) bd) w) := by
  have ⟨r1, r2, r3, r4, _⟩ := hb
  have A0 := ((RatAt.new w an ad 23).alloc (.cells #[.int .i64 bn, .int .i64 bd] 23)).alloc (.cells #[.int .i64 0, .int .i64 0] 23)
  have B0 := (RatAt.new1 w (.cells #[.int .i64 an, .int .i64 ad] 23) bn bd 23).alloc (.cells #[.int .i64 0, .int .i64 0] 23)
  have Z0 := RatAt.new2 w (.cells #[.int .i64 an, .int .i64 ad] 23) (.cells #[.int .i64 bn, .int .i64 bd] 23) 0 0 23
  have L0 := below3 w (.cells #[.int .i64 an, .int .i64 ad] 23) (.cells #[.int .i64 bn, .int .i64 bd] 23) (.cells #[.int .i64 0, .int .i64 0] 23)
  go_enter Tryd.func12, Tryd.ntmps12
  go_wp2_with fail
  refine (rvalid_yes bn bd _ hb).mono ?_
  rintro e w1 ⟨rfl, b1⟩
  have A1 := A0.below b1
  have B1 := B0.below b1
  have Z1 := Z0.below b1
  have L1 := bstep L0 b1
  have ⟨a0, a1, _, _⟩ := A1
  have ⟨c0, c1, _, _⟩ := B1
  have ⟨z0, z1, k0, k1⟩ := Z1
  go_wp2_with fail
  refine (rAdd_any an ad (-bn) bd _ ia ⟨⟨by omega, by omega⟩, ⟨by omega, by omega⟩⟩).mono ?_
  rintro e w2 ⟨rfl, b2⟩
  have A2 := A1.below b2
  have B2 := B1.below b2
  have Z2 := Z1.below b2
  have L2 := bstep L1 b2
  clear a0 a1 c0 c1 z0 z1 k0 k1
  have ⟨a0, a1, _, _⟩ := A2
  have ⟨c0, c1, _, _⟩ := B2
  have ⟨z0, z1, k0, k1⟩ := Z2
  go_wp2_with fail
  exact bodyPost_ret (v := .tuple #[.agg #[.int .i64 (Rt.addS an ad (-bn) bd).1, .int .i64 (Rt.addS an ad (-bn) bd).2.1], .int .i64 (Rt.addS an ad (-bn) bd).2.2]) (by simp [results, Tryd.results12, go_sem, z0, z1]) rfl ⟨rfl, (L2.setCell (by simp <;> omega) _).setCell (by simp <;> omega) _⟩

theorem rSub_any (an ad bn bd : Int) (w : World) (ia : I64 an ∧ I64 ad) (ib : I64 bn ∧ I64 bd) : Calls Tryd.prog 12 #[.agg #[.int .i64 an, .int .i64 ad], .agg #[.int .i64 bn, .int .i64 bd]] w (Ret3 (Rt.subS an ad bn bd) w) := by
  unfold Rt.subS
  by_cases hb : Rt.vld bn bd
  · have h := rSub_go an ad bn bd w ia hb
    unfold Rt.addS at h
    by_cases ha : Rt.vld an ad
    · rw [if_pos ⟨ha, hb⟩]
      rw [if_pos ⟨ha, Rt.neg_vld hb⟩] at h
      exact h
    · rw [if_neg (fun k => ha k.1)]
      rw [if_neg (fun k => ha k.1)] at h
      exact h
  · rw [if_neg (fun h => hb h.2)]; exact rSub_bad an ad bn bd w ib hb

end Go.Proofs.YtcannkndedlooaaDoor
