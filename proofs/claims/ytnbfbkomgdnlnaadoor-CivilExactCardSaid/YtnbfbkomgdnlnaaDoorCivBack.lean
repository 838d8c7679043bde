/- The law CivilBack returns true for every number. -/
import Derived.Test.YtnbfbkomgdnlnaaDoorCivE
namespace Go.Proofs.YtnbfbkomgdnlnaaDoor
open Go.RowKit
set_option linter.unusedVariables false

theorem valid_yes {y m d : Int} (hv : Civ.vld y m d) (w : World) (hT : CivT w) :
    Calls Tryd.prog 15 #[.agg #[.int .i64 y, .int .i64 m, .int .i64 d]] w fun e w' => e = .returned (.bool true) ∧ Below w.heap.size w w' := by
  have dd := Civ.dim_bd y m
  have HV := hv
  obtain ⟨v1, v2, v3, v4, v5, v6⟩ := hv
  exact valid_is (Civ.vldB_iff.2 HV) w hT ⟨by omega, by omega⟩ ⟨by omega, by omega⟩ ⟨by omega, by omega⟩

set_option maxHeartbeats 1600000 in
theorem back_day (n y m d : Int) (w : World) (hT : CivT w) (i1 : -9223372036854775808 ≤ n) (i2 : n ≤ 9223372036854775807)
    (hv : Civ.vld y m d) (hn : Civ.num y m d = n % 98900) (hv2 : Civ.vld y m (d + 1)) (hn2 : Civ.num y m (d + 1) = n % 98900 + 1) (hd : d < Civ.dim y m) :
    Calls Tryd.prog 4 #[.int .i64 n] w fun e w' => e = .returned (.bool true) ∧ Below w.heap.size w w' := by
  have HN := Lib.hid hn
  have HN2 := Lib.hid hn2
  clear hn hn2
  have HV := hv
  have dd := Civ.dim_bd y m
  have hw1 := Lib.hid (Civ.wd_succ (n % 98900))
  have hwb := Civ.wd_bd (n % 98900)
  obtain ⟨v1, v2, v3, v4, v5, v6⟩ := hv
  have hdd : (d == Civ.dim y m) = false := by simp; omega
  go_enter Tryd.func4, Tryd.ntmps4
  go_wp2_with fail
  refine (Mod_any n 98900 _ i1 i2 (by omega) (by omega)).mono ?_
  rintro e w' ⟨rfl, rfl⟩
  go_wp2_with fail
  refine (dateOf_yes y m d _ _ hT HV HN.out).mono ?_
  rintro e w1 ⟨rfl, b1⟩
  have hT1 := hT.below b1
  have A1 := DateAt.new w1 y m d 23
  go_wp2_with fail
  refine (dateOf_yes y m (d + 1) _ _ (hT1.alloc _) hv2 HN2.out).mono ?_
  rintro e w2 ⟨rfl, b2⟩
  have hT2 := (hT1.alloc _).below b2
  have A2 := (A1.below b2).alloc (.cells #[.int .i64 (y), .int .i64 (m), .int .i64 ((d + 1))] 23)
  have B2 := DateAt.new w2 y m (d + 1) 23
  have hz2 : w1.heap.size < w2.heap.size := (A1.below b2).lt
  have ⟨a0, a1, a2⟩ := A1.below b2
  go_wp2_with fail
  refine (day_is (n := n % 98900) (Civ.vldB_iff.2 HV) HN.out _ (hT2.alloc _)).mono ?_
  rintro e w3 ⟨rfl, b3⟩
  have hT3 := (hT2.alloc _).below b3
  have A3 := A2.below b3
  have B3 := B2.below b3
  clear a0 a1 a2
  have ⟨a0, a1, a2⟩ := A3
  go_wp2_with fail
  refine (valid_yes HV _ hT3).mono ?_
  rintro e w4 ⟨rfl, b4⟩
  have hT4 := hT3.below b4
  have A4 := A3.below b4
  have B4 := B3.below b4
  clear a0 a1 a2
  have ⟨a0, a1, a2⟩ := A4
  have ⟨c0, c1, c2⟩ := B4
  go_wp2_with fail
  refine (wday_is hw1.out _ (by omega) (by omega)).mono ?_
  rintro e w' ⟨rfl, rfl⟩
  go_wp2_with fail
  refine (wday_any _ _ (by omega) (by omega)).mono ?_
  rintro e w' ⟨rfl, rfl⟩
  go_wp2_with fail
  go_quiet ((go_at_call 19; exact qsame (dim_any _ _ _ (hT4.drewN _) (by omega) (by omega) (by omega) (by omega))))
  go_wp2_with fail
  refine (sane_any _ (hT4.drewN _)).mono ?_
  rintro e w5 ⟨rfl, b5⟩
  go_wp2_with fail
  go_ret
  exact ⟨rfl, bstep (below_drewN (bstep (bstepA (bstepA b1 b2) b3) b4) _) b5⟩

set_option maxHeartbeats 1600000 in
theorem back_month (n y m d : Int) (w : World) (hT : CivT w) (i1 : -9223372036854775808 ≤ n) (i2 : n ≤ 9223372036854775807)
    (hv : Civ.vld y m d) (hn : Civ.num y m d = n % 98900) (hv2 : Civ.vld y (m + 1) 1) (hn2 : Civ.num y (m + 1) 1 = n % 98900 + 1) (hd : d = Civ.dim y m) (hm : m < 12) :
    Calls Tryd.prog 4 #[.int .i64 n] w fun e w' => e = .returned (.bool true) ∧ Below w.heap.size w w' := by
  have HN := Lib.hid hn
  have HN2 := Lib.hid hn2
  clear hn hn2
  have HV := hv
  have dd := Civ.dim_bd y m
  have hw1 := Lib.hid (Civ.wd_succ (n % 98900))
  have hwb := Civ.wd_bd (n % 98900)
  obtain ⟨v1, v2, v3, v4, v5, v6⟩ := hv
  have hdd : (d == Civ.dim y m) = true := by simp [hd]
  have dlo := Civ.dim_lo (y := y) v3 v4
  have d28 : 28 ≤ d := by omega
  clear hd dlo
  go_enter Tryd.func4, Tryd.ntmps4
  go_wp2_with fail
  refine (Mod_any n 98900 _ i1 i2 (by omega) (by omega)).mono ?_
  rintro e w' ⟨rfl, rfl⟩
  go_wp2_with fail
  refine (dateOf_yes y m d _ _ hT HV HN.out).mono ?_
  rintro e w1 ⟨rfl, b1⟩
  have hT1 := hT.below b1
  have A1 := DateAt.new w1 y m d 23
  go_wp2_with fail
  refine (dateOf_yes y (m + 1) 1 _ _ (hT1.alloc _) hv2 HN2.out).mono ?_
  rintro e w2 ⟨rfl, b2⟩
  have hT2 := (hT1.alloc _).below b2
  have A2 := (A1.below b2).alloc (.cells #[.int .i64 (y), .int .i64 ((m + 1)), .int .i64 (1)] 23)
  have B2 := DateAt.new w2 y (m + 1) 1 23
  have hz2 : w1.heap.size < w2.heap.size := (A1.below b2).lt
  have ⟨a0, a1, a2⟩ := A1.below b2
  go_wp2_with fail
  refine (day_is (n := n % 98900) (Civ.vldB_iff.2 HV) HN.out _ (hT2.alloc _)).mono ?_
  rintro e w3 ⟨rfl, b3⟩
  have hT3 := (hT2.alloc _).below b3
  have A3 := A2.below b3
  have B3 := B2.below b3
  clear a0 a1 a2
  have ⟨a0, a1, a2⟩ := A3
  go_wp2_with fail
  refine (valid_yes HV _ hT3).mono ?_
  rintro e w4 ⟨rfl, b4⟩
  have hT4 := hT3.below b4
  have A4 := A3.below b4
  have B4 := B3.below b4
  clear a0 a1 a2
  have ⟨a0, a1, a2⟩ := A4
  have ⟨c0, c1, c2⟩ := B4
  go_wp2_with fail
  refine (wday_is hw1.out _ (by omega) (by omega)).mono ?_
  rintro e w' ⟨rfl, rfl⟩
  go_wp2_with fail
  refine (wday_any _ _ (by omega) (by omega)).mono ?_
  rintro e w' ⟨rfl, rfl⟩
  go_wp2_with fail
  go_quiet ((go_at_call 19; exact qsame (dim_any _ _ _ (hT4.drewN _) (by omega) (by omega) (by omega) (by omega))))
  go_wp2_with fail
  refine (sane_any _ (hT4.drewN _)).mono ?_
  rintro e w5 ⟨rfl, b5⟩
  go_wp2_with fail
  go_ret
  exact ⟨rfl, bstep (below_drewN (bstep (bstepA (bstepA b1 b2) b3) b4) _) b5⟩

set_option maxHeartbeats 1600000 in
theorem back_year (n y d : Int) (w : World) (hT : CivT w) (i1 : -9223372036854775808 ≤ n) (i2 : n ≤ 9223372036854775807)
    (hv : Civ.vld y 12 d) (hn : Civ.num y 12 d = n % 98900) (hv2 : Civ.vld (y + 1) 1 1) (hn2 : Civ.num (y + 1) 1 1 = n % 98900 + 1) (hd : d = Civ.dim y 12) :
    Calls Tryd.prog 4 #[.int .i64 n] w fun e w' => e = .returned (.bool true) ∧ Below w.heap.size w w' := by
  have HN := Lib.hid hn
  have HN2 := Lib.hid hn2
  clear hn hn2
  have HV := hv
  have dd := Civ.dim_bd y 12
  have hw1 := Lib.hid (Civ.wd_succ (n % 98900))
  have hwb := Civ.wd_bd (n % 98900)
  obtain ⟨v1, v2, v3, v4, v5, v6⟩ := hv
  have hdd : (d == Civ.dim y 12) = true := by simp [hd]
  have dlo := Civ.dim_lo (y := y) v3 v4
  have d28 : 28 ≤ d := by omega
  clear hd dlo
  go_enter Tryd.func4, Tryd.ntmps4
  go_wp2_with fail
  refine (Mod_any n 98900 _ i1 i2 (by omega) (by omega)).mono ?_
  rintro e w' ⟨rfl, rfl⟩
  go_wp2_with fail
  refine (dateOf_yes y 12 d _ _ hT HV HN.out).mono ?_
  rintro e w1 ⟨rfl, b1⟩
  have hT1 := hT.below b1
  have A1 := DateAt.new w1 y 12 d 23
  go_wp2_with fail
  refine (dateOf_yes (y + 1) 1 1 _ _ (hT1.alloc _) hv2 HN2.out).mono ?_
  rintro e w2 ⟨rfl, b2⟩
  have hT2 := (hT1.alloc _).below b2
  have A2 := (A1.below b2).alloc (.cells #[.int .i64 ((y + 1)), .int .i64 (1), .int .i64 (1)] 23)
  have B2 := DateAt.new w2 (y + 1) 1 1 23
  have hz2 : w1.heap.size < w2.heap.size := (A1.below b2).lt
  have ⟨a0, a1, a2⟩ := A1.below b2
  go_wp2_with fail
  refine (day_is (n := n % 98900) (Civ.vldB_iff.2 HV) HN.out _ (hT2.alloc _)).mono ?_
  rintro e w3 ⟨rfl, b3⟩
  have hT3 := (hT2.alloc _).below b3
  have A3 := A2.below b3
  have B3 := B2.below b3
  clear a0 a1 a2
  have ⟨a0, a1, a2⟩ := A3
  go_wp2_with fail
  refine (valid_yes HV _ hT3).mono ?_
  rintro e w4 ⟨rfl, b4⟩
  have hT4 := hT3.below b4
  have A4 := A3.below b4
  have B4 := B3.below b4
  clear a0 a1 a2
  have ⟨a0, a1, a2⟩ := A4
  have ⟨c0, c1, c2⟩ := B4
  go_wp2_with fail
  refine (wday_is hw1.out _ (by omega) (by omega)).mono ?_
  rintro e w' ⟨rfl, rfl⟩
  go_wp2_with fail
  refine (wday_any _ _ (by omega) (by omega)).mono ?_
  rintro e w' ⟨rfl, rfl⟩
  go_wp2_with fail
  go_quiet ((go_at_call 19; exact qsame (dim_any _ _ _ (hT4.drewN _) (by omega) (by omega) (by omega) (by omega))))
  go_wp2_with fail
  refine (sane_any _ (hT4.drewN _)).mono ?_
  rintro e w5 ⟨rfl, b5⟩
  go_wp2_with fail
  go_ret
  exact ⟨rfl, bstep (below_drewN (bstep (bstepA (bstepA b1 b2) b3) b4) _) b5⟩

theorem back_any (n : Int) (w : World) (hT : CivT w) (i1 : -9223372036854775808 ≤ n) (i2 : n ≤ 9223372036854775807) :
    Calls Tryd.prog 4 #[.int .i64 n] w fun e w' => e = .returned (.bool true) ∧ Below w.heap.size w w' := by
  obtain ⟨y, m, d, hv, hn⟩ := Civ.date_ex (n % 98900) (by omega) (by omega)
  obtain ⟨y2, m2, d2, hv2, hn2⟩ := Civ.date_ex (n % 98900 + 1) (by omega) (by omega)
  rcases Civ.next_date hv hv2 (by omega) with ⟨h, rfl, rfl, rfl⟩ | ⟨h, hm, rfl, rfl, rfl⟩ | ⟨h, rfl, rfl, rfl, rfl⟩
  · exact back_day n y2 m2 d w hT i1 i2 hv hn hv2 hn2 h
  · exact back_month n y2 m d w hT i1 i2 hv hn hv2 hn2 h hm
  · exact back_year n y d w hT i1 i2 hv hn hv2 hn2 h
end Go.Proofs.YtnbfbkomgdnlnaaDoor
