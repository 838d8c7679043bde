/- The reference's civil days of this seat: the texts of stage 1 that its functions need. -/
import Derived.Test.YthaacmmkignocaaDoorKG14
import Derived.Test.YthaacmmkignocaaDoorKZcq
import Derived.StillTailTactics
namespace Go.Proofs.YthaacmmkignocaaDoor
open Go.RowKit
set_option linter.unusedVariables false
set_option maxHeartbeats 400000 in
theorem rleap_any (y : Int) (w : World) :
    Calls Tryd.prog 81 #[.int .i64 y] w fun e w' => e = .returned (.bool (Civ.leapB y)) ∧ w = w' := by
  go_enter Tryd.func81, Tryd.ntmps81
  go_wp2
  all_goals go_ret
  all_goals exact ⟨ret_bool (Civ.leap_code y (by first | exact .inl ⟨‹_›, ‹_›, rfl⟩ | exact .inr (.inl ⟨‹_›, ‹_›, rfl⟩) | exact .inr (.inr ⟨‹_›, rfl⟩))), rfl⟩
theorem rleap_is {y : Int} {b : Bool} (hb : Civ.leapB y = b) (w : World) :
    Calls Tryd.prog 81 #[.int .i64 y] w fun e w' => e = .returned (.bool b) ∧ w = w' := hb ▸ rleap_any y w
set_option maxHeartbeats 800000 in
theorem rdim_any (y m : Int) (w : World) (m1 : -9223372036854775808 ≤ m) (m2 : m ≤ 9223372036854775807) :
    Calls Tryd.prog 72 #[.int .i64 y, .int .i64 m] w fun e w' => e = .returned (.int .i64 (Civ.dim y m)) ∧ w = w' := by
  by_cases ho : m < 1 ∨ 12 < m
  · have hd := Lib.hid (Civ.dim_out (y := y) ho)
    have q1 : (m == 1) = false := by simp; omega
    have q2 : (m == 2) = false := by simp; omega
    have q3 : (m == 3) = false := by simp; omega
    have q4 : (m == 4) = false := by simp; omega
    have q5 : (m == 5) = false := by simp; omega
    have q6 : (m == 6) = false := by simp; omega
    have q7 : (m == 7) = false := by simp; omega
    have q8 : (m == 8) = false := by simp; omega
    have q9 : (m == 9) = false := by simp; omega
    have q10 : (m == 10) = false := by simp; omega
    have q11 : (m == 11) = false := by simp; omega
    have q12 : (m == 12) = false := by simp; omega
    clear ho
    go_enter Tryd.func72, Tryd.ntmps72
    go_wp2_with fail
    go_ret
    exact ⟨ret_int hd.out.symm, rfl⟩
  have hd := Civ.dim_of (y := y) (show 1 ≤ m by omega) (show m ≤ 12 by omega)
  have HD := Lib.hid hd
  clear hd
  have hm : m = 2 ∨ m = 1 ∨ m = 3 ∨ m = 4 ∨ m = 5 ∨ m = 6 ∨ m = 7 ∨ m = 8 ∨ m = 9 ∨ m = 10 ∨ m = 11 ∨ m = 12 := by omega
  clear ho
  rcases hm with rfl | hm
  · cases hl : Civ.leapB y
    all_goals
      have HL := Lib.hid hl
      clear hl
      go_enter Tryd.func72, Tryd.ntmps72
      go_wp2_with fail
      refine (rleap_is HL.out _).mono ?_
      rintro e w' ⟨rfl, rfl⟩
      go_wp2_with fail
      go_ret
    · exact ⟨ret_int (by rw [HD.out, Civ.lp_no HL.out]; rfl), rfl⟩
    · exact ⟨ret_int (by rw [HD.out, Civ.lp_yes HL.out]; rfl), rfl⟩
  · rcases hm with rfl | rfl | rfl | rfl | rfl | rfl | rfl | rfl | rfl | rfl | rfl
    all_goals
      go_enter Tryd.func72, Tryd.ntmps72
      go_wp2_with fail
      go_ret
      exact ⟨ret_int (by rw [HD.out]; rfl), rfl⟩
set_option maxHeartbeats 400000 in
theorem rny_any (y : Int) (w : World) (h1 : 1970 ≤ y) (h2 : y ≤ 2241) :
    Calls Tryd.prog 80 #[.int .i64 y] w fun e w' => e = .returned (.int .i64 (Civ.ny y)) ∧ w = w' := by
  go_enter Tryd.func80, Tryd.ntmps80
  go_wp2_with fail
  go_ret
  exact ⟨ret_int (Civ.ryear y h1), rfl⟩
set_option maxHeartbeats 800000 in
theorem rvalid_any (y m d : Int) (w : World) (iy : I64 y) (im : I64 m) (id : I64 d) :
    Calls Tryd.prog 79 #[.agg #[.int .i64 y, .int .i64 m, .int .i64 d]] w fun e w' => e = .returned (.bool (Civ.vldB y m d)) ∧ Below w.heap.size w w' := by
  obtain ⟨iy1, iy2⟩ := iy
  obtain ⟨im1, im2⟩ := im
  obtain ⟨id1, id2⟩ := id
  by_cases h1 : 1970 ≤ y
  · by_cases h2 : y ≤ 2240
    · by_cases h4 : 1 ≤ m
      · by_cases h5 : m ≤ 12
        · by_cases h3 : 1 ≤ d
          · have hv := Lib.hid (Civ.vldB_last (m := m) h1 h2 h3)
            go_enter Tryd.func79, Tryd.ntmps79
            go_wp2_with fail
            go_quiet ((go_at_call 72; exact qsame (rdim_any y m _ im1 im2)))
            go_wp2_with fail
            go_ret
            exact ⟨ret_bool hv.out.symm, below_box _ _ _⟩
          · have hd : decide (1 ≤ d) = false := by simpa using h3
            have hv := Lib.hid (Civ.vldB_not.2 (fun h : Civ.vld y m d => h3 h.2.2.2.2.1))
            go_enter Tryd.func79, Tryd.ntmps79
            go_wp2_with fail
            go_quiet (fail)
            go_wp2_with fail
            go_ret
            exact ⟨ret_bool hv.out.symm, below_box _ _ _⟩
        · have hd : decide (m ≤ 12) = false := by simpa using h5
          have hv := Lib.hid (Civ.vldB_not.2 (fun h : Civ.vld y m d => h5 h.2.2.2.1))
          go_enter Tryd.func79, Tryd.ntmps79
          go_wp2_with fail
          go_quiet (fail)
          go_wp2_with fail
          go_ret
          exact ⟨ret_bool hv.out.symm, below_box _ _ _⟩
      · have hd : decide (1 ≤ m) = false := by simpa using h4
        have hv := Lib.hid (Civ.vldB_not.2 (fun h : Civ.vld y m d => h4 h.2.2.1))
        go_enter Tryd.func79, Tryd.ntmps79
        go_wp2_with fail
        go_quiet (fail)
        go_wp2_with fail
        go_ret
        exact ⟨ret_bool hv.out.symm, below_box _ _ _⟩
    · have hd : decide (y ≤ 2240) = false := by simpa using h2
      have hv := Lib.hid (Civ.vldB_not.2 (fun h : Civ.vld y m d => h2 h.2.1))
      go_enter Tryd.func79, Tryd.ntmps79
      go_wp2_with fail
      go_quiet (fail)
      go_wp2_with fail
      go_ret
      exact ⟨ret_bool hv.out.symm, below_box _ _ _⟩
  · have hd : decide (1970 ≤ y) = false := by simpa using h1
    have hv := Lib.hid (Civ.vldB_not.2 (fun h : Civ.vld y m d => h1 h.1))
    go_enter Tryd.func79, Tryd.ntmps79
    go_wp2_with fail
    go_quiet (fail)
    go_wp2_with fail
    go_ret
    exact ⟨ret_bool hv.out.symm, below_box _ _ _⟩
theorem rvalid_is {y m d : Int} {b : Bool} (hb : Civ.vldB y m d = b) (w : World) (iy : I64 y) (im : I64 m) (id : I64 d) :
    Calls Tryd.prog 79 #[.agg #[.int .i64 y, .int .i64 m, .int .i64 d]] w fun e w' => e = .returned (.bool b) ∧ Below w.heap.size w w' :=
  hb ▸ rvalid_any y m d w iy im id
set_option maxHeartbeats 800000 in
theorem rday_yes (y m d : Int) (w : World) (hv : Civ.vld y m d) :
    Calls Tryd.prog 70 #[.agg #[.int .i64 y, .int .i64 m, .int .i64 d]] w fun e w' => e = .returned (.tuple #[.int .i64 (Civ.num y m d), .int .i64 0]) ∧ Below w.heap.size w w' := by
  have HV := Lib.hid (Civ.vldB_iff.2 hv)
  obtain ⟨v1, v2, v3, v4, v5, v6⟩ := hv
  have hnb := Civ.ny_bd v1 (show y ≤ 2241 by omega)
  have hdb := Civ.dim_bd y m
  go_enter Tryd.func70, Tryd.ntmps70
  go_wp2_with fail
  refine (rvalid_is HV.out _ ⟨by omega, by omega⟩ ⟨by omega, by omega⟩ ⟨by omega, by omega⟩).mono ?_
  rintro e w1 ⟨rfl, hb⟩
  have ⟨a0, a1, a2⟩ := (DateAt.new w y m d 117).below hb
  go_wp2_with fail
  refine (rny_any _ _ v1 (by omega)).mono ?_
  rintro e w' ⟨rfl, rfl⟩
  go_wp2_with fail
  go_loop [4, 5] (fun n i => ∃ k : Int, 1 ≤ k ∧ k ≤ m ∧ i = .int .i64 k ∧ n = .int .i64 (Civ.ny y + Civ.cum y k)) (fun _ i => (m - intOf i).toNat)
  case atStart => exact ⟨1, by omega, by omega, rfl, by rw [Civ.cum_1, Int.add_zero]⟩
  case round =>
    obtain ⟨k, hk1, hk2, rfl, rfl⟩ := hrel
    have hcb := Civ.cum_bd (y := y) hk1 (show k ≤ 13 by omega)
    have hdk := Civ.dim_bd y k
    by_cases hlt : k < m
    · have hcs := Lib.hid (Civ.cum_succ (y := y) hk1 (show k ≤ 12 by omega))
      go_wp2_with (go_at_call 72; refine (rdim_any _ _ _ (by omega) (by omega)).mono ?_; rintro e w' ⟨rfl, rfl⟩)
      go_round
      case rel => exact ⟨k + 1, by omega, by omega, rfl, by rw [hcs.out]; go_num⟩
      case measure => simp [intOf]; omega
    · have hkm := Lib.hid (show k = m by omega)
      go_wp2_with fail
      go_ret2
      exact ⟨ret_pair (by rw [hkm.out]; unfold Civ.num; omega), ((Below.refl _ _).alloc (Nat.le_refl _) _).trans (hb.mono (by simp))⟩
open Go.RowKit
set_option linter.unusedVariables false
theorem rwday_is {n k : Int} (h : Civ.wd n = k) (w : World) (h1 : -9223372036854775808 ≤ n) (h2 : n ≤ 9223372036854775807) :
    Calls Tryd.prog 71 #[.int .i64 n] w fun e w' => e = .returned (.int .i64 k) ∧ w = w' := h ▸ rwday_any n w h1 h2
theorem rday_is {y m d n : Int} (hv : Civ.vld y m d) (hn : Civ.num y m d = n) (w : World) :
    Calls Tryd.prog 70 #[.agg #[.int .i64 y, .int .i64 m, .int .i64 d]] w fun e w' => e = .returned (.tuple #[.int .i64 n, .int .i64 0]) ∧ Below w.heap.size w w' :=
  hn ▸ rday_yes y m d w hv
theorem Civ.wd_near {F v j : Int} (h0 : 0 ≤ j) (h : j < (v - Civ.wd F) % 7) : Civ.wd (F + j) ≠ v := by unfold Civ.wd at *; omega
set_option maxHeartbeats 1600000 in
theorem rnth_yes (y m k v : Int) (w : World) (hv : Civ.vld y m 1) (k1 : 1 ≤ k) (k2 : k ≤ 5) (v1 : 0 ≤ v) (v2 : v ≤ 6) :
    Calls Tryd.prog 64 #[.int .i64 y, .int .i64 m, .int .i64 k, .int .i64 v] w fun e w' => e = .returned (.tuple #[.int .i64 (Civ.nthD (Civ.num y m 1) (Civ.dim y m) k v), .int .i64 0]) ∧ Below w.heap.size w w' := by
  have nb := (Civ.num_bd hv).2.2.2.2
  have HV := hv
  obtain ⟨y1, y2, m1, m2, _, _⟩ := hv
  have L1 := Civ.dim_lo (y := y) m1 m2
  have L2 := Civ.dim_bd y m
  obtain ⟨N, hN⟩ : ∃ N, N = Civ.nthD (Civ.num y m 1) (Civ.dim y m) k v := ⟨_, rfl⟩
  obtain ⟨F, hF⟩ : ∃ F, F = Civ.num y m 1 := ⟨_, rfl⟩
  have HF := Lib.hid hF
  rw [← hF] at nb hN ⊢
  have Z := Civ.wd_first (F := F) v1 v2
  obtain ⟨o, ho⟩ : ∃ o, o = (v - Civ.wd F) % 7 := ⟨_, rfl⟩
  have HO := Lib.hid ho
  rw [← ho] at Z
  have o1 : 0 ≤ o ∧ o ≤ 6 := by omega
  have HZ := Lib.hid Z
  have HN := Lib.hid hN
  clear hN hF ho Z
  rw [← HN.out]
  go_enter Tryd.func64, Tryd.ntmps64
  go_wp2_with fail
  refine (rday_is HV HF.out.symm _).mono ?_
  rintro e w1 ⟨rfl, hb⟩
  go_wp2_with fail
  go_loop [12] (fun i => ∃ j : Int, 0 ≤ j ∧ j ≤ o ∧ i = .int .i64 (F + j)) (fun i => (F + o - intOf i).toNat)
  case atStart => exact ⟨0, by omega, by omega, by rw [Int.add_zero]⟩
  case round =>
    obtain ⟨j, j1, j2, rfl⟩ := hrel
    by_cases hj : j < o
    · have hw : (Civ.wd (F + j) == v) = false := by
        have := Civ.wd_near (F := F) (v := v) j1 (by rw [← HO.out]; exact hj)
        simpa using this
      have hw' : (Civ.wd (F + j) != v) = true := by rw [bne, hw]; rfl
      go_wp2_with fail
      refine (rwday_any _ _ (by omega) (by omega)).mono ?_
      rintro e w' ⟨rfl, rfl⟩
      go_wp2_with fail
      go_round
      case rel => exact ⟨j + 1, by omega, by omega, by go_num⟩
      case measure => simp [intOf]; omega
    · have hjo : j = o := by omega
      subst hjo
      have hw : Hid (Civ.wd (F + j) = v) := HZ
      by_cases hk5 : k < 5
      · have fin := Lib.hid (show N = F + j + 7 * (k - 1) by rw [HN.out]; exact Civ.nth_of (P := F + j) (by rw [HO.out]) _ (.inl ⟨by omega, by omega⟩))
        go_wp2_with fail
        refine (rwday_is hw.out _ (by omega) (by omega)).mono ?_
        rintro e w' ⟨rfl, rfl⟩
        go_wp2_with fail
        go_ret2
        exact ⟨ret_pair fin.out.symm, hb⟩
      · have hk : k = 5 := by omega
        have fin := Lib.hid (show ∀ i : Int, F + j + 7 * i < F + Civ.dim y m → F + Civ.dim y m ≤ F + j + 7 * i + 7 → N = F + j + 7 * i by
          intro i a b
          rw [HN.out]; exact Civ.nth_of (P := F + j) (by rw [HO.out]) _ (by subst hk; omega))
        clear hk
        go_wp2_with fail
        refine (rwday_is hw.out _ (by omega) (by omega)).mono ?_
        rintro e w' ⟨rfl, rfl⟩
        go_wp2_with fail
        go_loop [12] (fun i => ∃ q : Int, 0 ≤ q ∧ F + j + 7 * q < F + Civ.dim y m ∧ i = .int .i64 (F + j + 7 * q)) (fun i => (F + 40 - intOf i).toNat)
        case atStart => exact ⟨0, by omega, by omega, by rw [Int.mul_zero, Int.add_zero]⟩
        case round =>
          obtain ⟨q, q1, q2, rfl⟩ := hrel
          by_cases hq : F + j + 7 * q + 7 < F + Civ.dim y m
          · go_wp2_with (go_at_call 72; refine (rdim_any _ _ _ (by omega) (by omega)).mono ?_; rintro e w' ⟨rfl, rfl⟩)
            go_round
            case rel => exact ⟨q + 1, by omega, by omega, by go_num⟩
            case measure => simp [intOf]; omega
          · have fi := Lib.hid (fin.out q q2 (by omega))
            go_wp2_with (go_at_call 72; refine (rdim_any _ _ _ (by omega) (by omega)).mono ?_; rintro e w' ⟨rfl, rfl⟩)
            go_ret2
            exact ⟨ret_pair fi.out.symm, hb⟩
end Go.Proofs.YthaacmmkignocaaDoor
