/- Texts of earlier stages, for this seat. -/
import Derived.Test.YtoohijffkbkikaaGreatDoorZci
import Derived.StillTailTactics
namespace Go.Proofs.YtoohijffkbkikaaGreatDoor
open Go.RowKit
set_option linter.unusedVariables false

set_option maxHeartbeats 400000 in
theorem rleap_any (y : Int) (w : World) :
    Calls Tryz.prog 133 #[.int .i64 y] w fun e w' => e = .returned (.bool (Civ.leapB y)) ∧ w = w' := by
  go_enter Tryz.func133, Tryz.ntmps133
  go_wp2
  all_goals go_ret
  all_goals exact ⟨ret_bool (Civ.leap_code y (by first | exact .inl ⟨‹_›, ‹_›, rfl⟩ | exact .inr (.inl ⟨‹_›, ‹_›, rfl⟩) | exact .inr (.inr ⟨‹_›, rfl⟩))), rfl⟩
theorem rleap_is {y : Int} {b : Bool} (hb : Civ.leapB y = b) (w : World) :
    Calls Tryz.prog 133 #[.int .i64 y] w fun e w' => e = .returned (.bool b) ∧ w = w' := hb ▸ rleap_any y w

set_option maxHeartbeats 800000 in
theorem rdim_any (y m : Int) (w : World) (m1 : -9223372036854775808 ≤ m) (m2 : m ≤ 9223372036854775807) :
    Calls Tryz.prog 108 #[.int .i64 y, .int .i64 m] w fun e w' => e = .returned (.int .i64 (Civ.dim y m)) ∧ w = w' := by
  by_cases ho : m < 1 ∨ 12 < m
  · have hd := Lib.hid (Civ.dim_out (y := y) ho)
    have q1 : (m == 1) = false := by simp; omega
    have q2 : (m == 2) = false := by simp; omega
    have q3 : (m == 3) = false := by simp; omega
    have q4 : (m == 4) = false := by simp; omega
    have q5 : (m == 5) = false := by simp; omega
    have q6 : (m == 6) = false := by simp; omega
    have q7 : (m == 7) = false := by simp; omega
    have q8 : (m == 8) = false := by simp; omega
    have q9 : (m == 9) = false := by simp; omega
    have q10 : (m == 10) = false := by simp; omega
    have q11 : (m == 11) = false := by simp; omega
    have q12 : (m == 12) = false := by simp; omega
    clear ho
    go_enter Tryz.func108, Tryz.ntmps108
    go_wp2_with fail
    go_ret
    exact ⟨ret_int hd.out.symm, rfl⟩
  have hd := Civ.dim_of (y := y) (show 1 ≤ m by omega) (show m ≤ 12 by omega)
  have HD := Lib.hid hd
  clear hd
  have hm : m = 2 ∨ m = 1 ∨ m = 3 ∨ m = 4 ∨ m = 5 ∨ m = 6 ∨ m = 7 ∨ m = 8 ∨ m = 9 ∨ m = 10 ∨ m = 11 ∨ m = 12 := by omega
  clear ho
  rcases hm with rfl | hm
  · cases hl : Civ.leapB y
    all_goals
      have HL := Lib.hid hl
      clear hl
      go_enter Tryz.func108, Tryz.ntmps108
      go_wp2_with fail
      refine (rleap_is HL.out _).mono ?_
      rintro e w' ⟨rfl, rfl⟩
      go_wp2_with fail
      go_ret
    · exact ⟨ret_int (by rw [HD.out, Civ.lp_no HL.out]; rfl), rfl⟩
    · exact ⟨ret_int (by rw [HD.out, Civ.lp_yes HL.out]; rfl), rfl⟩
  · rcases hm with rfl | rfl | rfl | rfl | rfl | rfl | rfl | rfl | rfl | rfl | rfl
    all_goals
      go_enter Tryz.func108, Tryz.ntmps108
      go_wp2_with fail
      go_ret
      exact ⟨ret_int (by rw [HD.out]; rfl), rfl⟩

set_option maxHeartbeats 400000 in
theorem rny_any (y : Int) (w : World) (h1 : 1970 ≤ y) (h2 : y ≤ 2241) :
    Calls Tryz.prog 81 #[.int .i64 y] w fun e w' => e = .returned (.int .i64 (Civ.ny y)) ∧ w = w' := by
  go_enter Tryz.func81, Tryz.ntmps81
  go_wp2_with fail
  go_ret
  exact ⟨ret_int (Civ.ryear y h1), rfl⟩
theorem rny_is {y n : Int} (h : Civ.ny y = n) (w : World) (h1 : 1970 ≤ y) (h2 : y ≤ 2241) :
    Calls Tryz.prog 81 #[.int .i64 y] w fun e w' => e = .returned (.int .i64 n) ∧ w = w' := h ▸ rny_any y w h1 h2

theorem maxday_any (w : World) :
    Calls Tryz.prog 57 #[] w fun e w' => e = .returned (.int .i64 98980) ∧ w = w' := by
  go_enter Tryz.func57, Tryz.ntmps57
  go_wp2_with fail
  refine (rny_is Civ.ny_2241 _ (by omega) (by omega)).mono ?_
  rintro e w' ⟨rfl, rfl⟩
  go_wp2_with fail
  go_ret
  exact ⟨rfl, rfl⟩

set_option maxHeartbeats 800000 in
theorem rvalid_any (y m d : Int) (w : World) (iy : I64 y) (im : I64 m) (id : I64 d) :
    Calls Tryz.prog 127 #[.agg #[.int .i64 y, .int .i64 m, .int .i64 d]] w fun e w' => e = .returned (.bool (Civ.vldB y m d)) ∧ Below w.heap.size w w' := by
  obtain ⟨iy1, iy2⟩ := iy
  obtain ⟨im1, im2⟩ := im
  obtain ⟨id1, id2⟩ := id
  by_cases h1 : 1970 ≤ y
  · by_cases h2 : y ≤ 2240
    · by_cases h4 : 1 ≤ m
      · by_cases h5 : m ≤ 12
        · by_cases h3 : 1 ≤ d
          · have hv := Lib.hid (Civ.vldB_last (m := m) h1 h2 h3)
            go_enter Tryz.func127, Tryz.ntmps127
            go_wp2_with fail
            go_quiet ((go_at_call 108; exact qsame (rdim_any y m _ im1 im2)))
            go_wp2_with fail
            go_ret
            exact ⟨ret_bool hv.out.symm, below_box _ _ _⟩
          · have hd : decide (1 ≤ d) = false := by simpa using h3
            have hv := Lib.hid (Civ.vldB_not.2 (fun h : Civ.vld y m d => h3 h.2.2.2.2.1))
            go_enter Tryz.func127, Tryz.ntmps127
            go_wp2_with fail
            go_quiet (fail)
            go_wp2_with fail
            go_ret
            exact ⟨ret_bool hv.out.symm, below_box _ _ _⟩
        · have hd : decide (m ≤ 12) = false := by simpa using h5
          have hv := Lib.hid (Civ.vldB_not.2 (fun h : Civ.vld y m d => h5 h.2.2.2.1))
          go_enter Tryz.func127, Tryz.ntmps127
          go_wp2_with fail
          go_quiet (fail)
          go_wp2_with fail
          go_ret
          exact ⟨ret_bool hv.out.symm, below_box _ _ _⟩
      · have hd : decide (1 ≤ m) = false := by simpa using h4
        have hv := Lib.hid (Civ.vldB_not.2 (fun h : Civ.vld y m d => h4 h.2.2.1))
        go_enter Tryz.func127, Tryz.ntmps127
        go_wp2_with fail
        go_quiet (fail)
        go_wp2_with fail
        go_ret
        exact ⟨ret_bool hv.out.symm, below_box _ _ _⟩
    · have hd : decide (y ≤ 2240) = false := by simpa using h2
      have hv := Lib.hid (Civ.vldB_not.2 (fun h : Civ.vld y m d => h2 h.2.1))
      go_enter Tryz.func127, Tryz.ntmps127
      go_wp2_with fail
      go_quiet (fail)
      go_wp2_with fail
      go_ret
      exact ⟨ret_bool hv.out.symm, below_box _ _ _⟩
  · have hd : decide (1970 ≤ y) = false := by simpa using h1
    have hv := Lib.hid (Civ.vldB_not.2 (fun h : Civ.vld y m d => h1 h.1))
    go_enter Tryz.func127, Tryz.ntmps127
    go_wp2_with fail
    go_quiet (fail)
    go_wp2_with fail
    go_ret
    exact ⟨ret_bool hv.out.symm, below_box _ _ _⟩
theorem rvalid_is {y m d : Int} {b : Bool} (hb : Civ.vldB y m d = b) (w : World) (iy : I64 y) (im : I64 m) (id : I64 d) :
    Calls Tryz.prog 127 #[.agg #[.int .i64 y, .int .i64 m, .int .i64 d]] w fun e w' => e = .returned (.bool b) ∧ Below w.heap.size w w' :=
  hb ▸ rvalid_any y m d w iy im id

set_option maxHeartbeats 400000 in
theorem rday_no (y m d : Int) (w : World) (iy : I64 y) (im : I64 m) (id : I64 d) (hv : ¬ Civ.vld y m d) :
    Calls Tryz.prog 101 #[.agg #[.int .i64 y, .int .i64 m, .int .i64 d]] w fun e w' => e = .returned (.tuple #[.int .i64 0, .int .i64 1]) ∧ Below w.heap.size w w' := by
  have HV := Lib.hid (Civ.vldB_not.2 hv)
  clear hv
  go_enter Tryz.func101, Tryz.ntmps101
  go_wp2_with fail
  refine (rvalid_is HV.out _ iy im id).mono ?_
  rintro e w1 ⟨rfl, hb⟩
  go_wp2_with fail
  go_ret2
  exact ⟨rfl, ((Below.refl _ _).alloc (Nat.le_refl _) _).trans (hb.mono (by simp))⟩

set_option maxHeartbeats 800000 in
theorem rday_yes (y m d : Int) (w : World) (hv : Civ.vld y m d) :
    Calls Tryz.prog 101 #[.agg #[.int .i64 y, .int .i64 m, .int .i64 d]] w fun e w' => e = .returned (.tuple #[.int .i64 (Civ.num y m d), .int .i64 0]) ∧ Below w.heap.size w w' := by
  have HV := Lib.hid (Civ.vldB_iff.2 hv)
  obtain ⟨v1, v2, v3, v4, v5, v6⟩ := hv
  have hnb := Civ.ny_bd v1 (show y ≤ 2241 by omega)
  have hdb := Civ.dim_bd y m
  go_enter Tryz.func101, Tryz.ntmps101
  go_wp2_with fail
  refine (rvalid_is HV.out _ ⟨by omega, by omega⟩ ⟨by omega, by omega⟩ ⟨by omega, by omega⟩).mono ?_
  rintro e w1 ⟨rfl, hb⟩
  have ⟨a0, a1, a2⟩ := (DateAt.new w y m d 108).below hb
  go_wp2_with fail
  refine (rny_any _ _ v1 (by omega)).mono ?_
  rintro e w' ⟨rfl, rfl⟩
  go_wp2_with fail
  go_loop [4, 5] (fun n i => ∃ k : Int, 1 ≤ k ∧ k ≤ m ∧ i = .int .i64 k ∧ n = .int .i64 (Civ.ny y + Civ.cum y k)) (fun _ i => (m - intOf i).toNat)
  case atStart => exact ⟨1, by omega, by omega, rfl, by rw [Civ.cum_1, Int.add_zero]⟩
  case round =>
    obtain ⟨k, hk1, hk2, rfl, rfl⟩ := hrel
    have hcb := Civ.cum_bd (y := y) hk1 (show k ≤ 13 by omega)
    have hdk := Civ.dim_bd y k
    by_cases hlt : k < m
    · have hcs := Lib.hid (Civ.cum_succ (y := y) hk1 (show k ≤ 12 by omega))
      go_wp2_with (go_at_call 108; refine (rdim_any _ _ _ (by omega) (by omega)).mono ?_; rintro e w' ⟨rfl, rfl⟩)
      go_round
      case rel => exact ⟨k + 1, by omega, by omega, rfl, by rw [hcs.out]; go_num⟩
      case measure => simp [intOf]; omega
    · have hkm := Lib.hid (show k = m by omega)
      go_wp2_with fail
      go_ret2
      exact ⟨ret_pair (by rw [hkm.out]; unfold Civ.num; omega), ((Below.refl _ _).alloc (Nat.le_refl _) _).trans (hb.mono (by simp))⟩

set_option maxHeartbeats 400000 in
theorem rdateOf_no (n : Int) (w : World) (i : I64 n) (h : n < 0 ∨ 98981 ≤ n) :
    Calls Tryz.prog 82 #[.int .i64 n] w fun e w' => e = .returned (.tuple #[.agg #[.int .i64 0, .int .i64 0, .int .i64 0], .int .i64 1]) ∧ Below w.heap.size w w' := by
  obtain ⟨i1, i2⟩ := i
  by_cases h0 : n < 0
  · go_enter Tryz.func82, Tryz.ntmps82
    go_wp2_with fail
    exact bodyPost_ret (v := .tuple #[.agg #[.int .i64 0, .int .i64 0, .int .i64 0], .int .i64 1]) (by simp [results, Tryz.results82, go_sem]) rfl ⟨rfl, (Below.refl _ _).alloc (Nat.le_refl _) _⟩
  · have h1 : 98980 < n := by omega
    go_enter Tryz.func82, Tryz.ntmps82
    go_wp2_with fail
    refine (maxday_any _).mono ?_
    rintro e w' ⟨rfl, rfl⟩
    go_wp2_with fail
    exact bodyPost_ret (v := .tuple #[.agg #[.int .i64 0, .int .i64 0, .int .i64 0], .int .i64 1]) (by simp [results, Tryz.results82, go_sem]) rfl ⟨rfl, (Below.refl _ _).alloc (Nat.le_refl _) _⟩

set_option maxHeartbeats 1600000 in
theorem rdateOf_yes (y m d : Int) (n : Int) (w : World) (hv : Civ.vld y m d) (hn : Civ.num y m d = n) :
    Calls Tryz.prog 82 #[.int .i64 n] w fun e w' => e = .returned (.tuple #[.agg #[.int .i64 y, .int .i64 m, .int .i64 d], .int .i64 0]) ∧ Below w.heap.size w w' := by
  have HN := Lib.hid hn
  have nb := Civ.num_bd hv
  rw [hn] at nb
  clear hn
  obtain ⟨v1, v2, v3, v4, v5, v6⟩ := hv
  have hnb := Civ.ny_bd v1 (show y ≤ 2241 by omega)
  obtain ⟨n1, n2, n3, n4, n5, n6⟩ := nb
  have n7 : n ≤ 98980 := by omega
  clear n6
  go_enter Tryz.func82, Tryz.ntmps82
  go_wp2_with fail
  refine (maxday_any _).mono ?_
  rintro e w' ⟨rfl, rfl⟩
  go_wp2_with fail
  go_loop [0, 4] (fun r i => ∃ k : Int, 1970 ≤ k ∧ k ≤ y ∧ i = .int .i64 k ∧ r = .int .i64 (n - Civ.ny k)) (fun _ i => (y - intOf i).toNat)
  case atStart => exact ⟨1970, by omega, by omega, rfl, by rw [Civ.ny_1970, Int.sub_zero]⟩
  case round =>
    obtain ⟨k, hk1, hk2, rfl, rfl⟩ := hrel
    have kb := Civ.ny_bd hk1 (show k ≤ 2241 by omega)
    have kb1 := Civ.ny_bd (y := k + 1) (by omega) (show k + 1 ≤ 2241 by omega)
    by_cases hlt : k < y
    · have hmo := Civ.ny_mono (show k + 1 ≤ y by omega)
      have hge : Civ.ny (k + 1) - Civ.ny k ≤ n - Civ.ny k := by omega
      have hee := Lib.hid (show n - Civ.ny k - (Civ.ny (k + 1) - Civ.ny k) = n - Civ.ny (k + 1) by omega)
      clear hmo
      go_wp2_with fail
      refine (rny_any _ _ (by omega) (by omega)).mono ?_
      rintro e w' ⟨rfl, rfl⟩
      go_wp2_with fail
      refine (rny_any _ _ (by omega) (by omega)).mono ?_
      rintro e w' ⟨rfl, rfl⟩
      go_wp2_with fail
      refine (rny_any _ _ (by omega) (by omega)).mono ?_
      rintro e w' ⟨rfl, rfl⟩
      go_wp2_with fail
      refine (rny_any _ _ (by omega) (by omega)).mono ?_
      rintro e w' ⟨rfl, rfl⟩
      go_wp2_with fail
      go_round
      case rel => exact ⟨k + 1, by omega, by omega, rfl, by rw [hee.out]⟩
      case measure => simp [intOf]; omega
    · have hky : k = y := by omega
      subst hky
      have hge : n - Civ.ny k < Civ.ny (k + 1) - Civ.ny k := by omega
      go_wp2_with fail
      refine (rny_any _ _ (by omega) (by omega)).mono ?_
      rintro e w' ⟨rfl, rfl⟩
      go_wp2_with fail
      refine (rny_any _ _ (by omega) (by omega)).mono ?_
      rintro e w' ⟨rfl, rfl⟩
      go_wp2_with fail
      clear hge
      go_loop [0, 5] (fun r i => ∃ j : Int, 1 ≤ j ∧ j ≤ m ∧ i = .int .i64 j ∧ r = .int .i64 (n - Civ.ny k - Civ.cum k j)) (fun _ i => (m - intOf i).toNat)
      case atStart => exact ⟨1, by omega, by omega, rfl, by rw [Civ.cum_1, Int.sub_zero]⟩
      case round =>
        obtain ⟨j, hj1, hj2, rfl, rfl⟩ := hrel
        have hcb := Civ.cum_bd (y := k) hj1 (show j ≤ 13 by omega)
        have hdk := Civ.dim_bd k j
        have hcs := Lib.hid (Civ.cum_succ (y := k) hj1 (show j ≤ 12 by omega))
        by_cases hjm : j < m
        · have hle := Civ.cum_mono (y := k) (show 1 ≤ j + 1 by omega) (show j + 1 ≤ m by omega)
          have hge : Civ.dim k j ≤ n - Civ.ny k - Civ.cum k j := by have := hcs.out; omega
          clear hle
          go_wp2_with (go_at_call 108; refine (rdim_any _ _ _ (by omega) (by omega)).mono ?_; rintro e w' ⟨rfl, rfl⟩)
          go_round
          case rel => exact ⟨j + 1, by omega, by omega, rfl, by rw [hcs.out]; go_num⟩
          case measure => simp [intOf]; omega
        · have hkm := Lib.hid (show j = m by omega)
          have hdd := Lib.hid (show n - Civ.ny k - Civ.cum k j + 1 = d by rw [hkm.out, ← HN.out]; unfold Civ.num; omega)
          have hge : n - Civ.ny k - Civ.cum k j < Civ.dim k j := by have := hdd.out; have := hkm.out; subst this; omega
          go_wp2_with (go_at_call 108; refine (rdim_any _ _ _ (by omega) (by omega)).mono ?_; rintro e w' ⟨rfl, rfl⟩)
          exact bodyPost_ret (v := .tuple #[.agg #[.int .i64 k, .int .i64 j, .int .i64 (n - Civ.ny k - Civ.cum k j + 1)], .int .i64 0]) (by simp [results, Tryz.results82, go_sem]) rfl ⟨by rw [hdd.out, hkm.out], (Below.refl _ _).alloc (Nat.le_refl _) _⟩
open Go.RowKit
set_option linter.unusedVariables false

theorem ret_three {a a' b b' : Int} {v : Value} (h1 : a = a') (h2 : b = b') : Ending.returned (.tuple #[.int .i64 a, .int .i64 b, v]) = .returned (.tuple #[.int .i64 a', .int .i64 b', v]) := by rw [h1, h2]
theorem rday_is {y m d n : Int} (hv : Civ.vld y m d) (hn : Civ.num y m d = n) (w : World) :
    Calls Tryz.prog 101 #[.agg #[.int .i64 y, .int .i64 m, .int .i64 d]] w fun e w' => e = .returned (.tuple #[.int .i64 n, .int .i64 0]) ∧ Below w.heap.size w w' :=
  hn ▸ rday_yes y m d w hv

theorem Civ.wd_near {F v j : Int} (h0 : 0 ≤ j) (h : j < (v - Civ.wd F) % 7) : Civ.wd (F + j) ≠ v := by unfold Civ.wd at *; omega

end Go.Proofs.YtoohijffkbkikaaGreatDoor
