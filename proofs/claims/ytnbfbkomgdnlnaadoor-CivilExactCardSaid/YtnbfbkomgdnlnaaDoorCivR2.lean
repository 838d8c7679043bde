/- What the reference's Week, Nth and AddMonths return: the same as the package's. -/
import Derived.Test.YtnbfbkomgdnlnaaDoorCivR
import Derived.Test.YtnbfbkomgdnlnaaDoorCivNth

namespace Go.Proofs.YtnbfbkomgdnlnaaDoor
open Go.RowKit
set_option linter.unusedVariables false

set_option maxHeartbeats 400000 in
theorem rweek_no (y m d : Int) (w : World) (iy : I64 y) (im : I64 m) (id : I64 d) (hv : ¬ Civ.vld y m d) :
    Calls Tryd.prog 14 #[.agg #[.int .i64 y, .int .i64 m, .int .i64 d]] w fun e w' => e = .returned (.tuple #[.int .i64 0, .int .i64 0, .int .i64 1]) ∧ Below w.heap.size w w' := by
  go_enter Tryd.func14, Tryd.ntmps14
  go_wp2_with fail
  refine (rday_no y m d _ iy im id hv).mono ?_
  rintro e w1 ⟨rfl, hb⟩
  go_wp2_with fail
  go_ret3
  exact ⟨rfl, ((Below.refl _ _).alloc (Nat.le_refl _) _).trans (hb.mono (by simp))⟩

theorem rwday_is {n k : Int} (h : Civ.wd n = k) (w : World) (h1 : -9223372036854775808 ≤ n) (h2 : n ≤ 9223372036854775807) :
    Calls Tryd.prog 26 #[.int .i64 n] w fun e w' => e = .returned (.int .i64 k) ∧ w = w' := h ▸ rwday_any n w h1 h2
theorem ret_three {a a' b b' : Int} {v : Value} (h1 : a = a') (h2 : b = b') : Ending.returned (.tuple #[.int .i64 a, .int .i64 b, v]) = .returned (.tuple #[.int .i64 a', .int .i64 b', v]) := by rw [h1, h2]
theorem rday_is {y m d n : Int} (hv : Civ.vld y m d) (hn : Civ.num y m d = n) (w : World) :
    Calls Tryd.prog 10 #[.agg #[.int .i64 y, .int .i64 m, .int .i64 d]] w fun e w' => e = .returned (.tuple #[.int .i64 n, .int .i64 0]) ∧ Below w.heap.size w w' :=
  hn ▸ rday_yes y m d w hv

set_option maxHeartbeats 800000 in
theorem rweek_yes (y m d n : Int) (w : World) (hv : Civ.vld y m d) (hn : Civ.num y m d = n) :
    Calls Tryd.prog 14 #[.agg #[.int .i64 y, .int .i64 m, .int .i64 d]] w fun e w' => e = .returned (.tuple #[.int .i64 (Civ.wkY n), .int .i64 (Civ.wkW n), .int .i64 0]) ∧ Below w.heap.size w w' := by
  have nb := Civ.num_bd hv
  rw [hn] at nb
  have HN := Lib.hid hn
  clear hn
  have mb := Civ.mid_bd nb.2.2.2.2.1 nb.2.2.2.2.2
  have wb := Civ.wd_bd n
  have me := Lib.hid (show Civ.mid n = n - Civ.wd n + 3 from rfl)
  obtain ⟨M, hM⟩ : ∃ M, M = n - Civ.wd n + 3 := ⟨_, rfl⟩
  have eM : Civ.mid n = M := by rw [me.out, hM]
  rw [eM] at mb
  have HM := Lib.hid hM
  have hYW : Hid (∀ Y, Civ.ny Y ≤ M → M < Civ.ny (Y + 1) → Civ.wkY n = Y ∧ Civ.wkW n = (M - Civ.ny Y) / 7 + 1) := Lib.hid (by
    intro Y a b
    unfold Civ.wkY Civ.wkW
    rw [eM, Civ.yo_of a b mb.1 mb.2]
    exact ⟨rfl, rfl⟩)
  have hMn : n - 3 ≤ M ∧ M ≤ n + 3 := by omega
  clear hM eM me
  have HV := hv
  obtain ⟨v1, v2, v3, v4, v5, v6⟩ := hv
  have nyb := Civ.ny_bd v1 (show y ≤ 2241 by omega)
  have nyb1 := Civ.ny_bd (y := y + 1) (by omega) (show y + 1 ≤ 2241 by omega)
  have sy := Civ.ny_succ y
  have ly := Civ.lp_01 y
  by_cases c1 : M < Civ.ny y
  · have y0 : 1970 ≤ y - 1 := by
      by_cases e : y = 1970
      · rw [e, Civ.ny_1970] at c1; omega
      · omega
    have sy' := Civ.ny_succ (y - 1)
    have ly' := Civ.lp_01 (y - 1)
    rw [show y - 1 + 1 = y by omega] at sy'
    have fin := Lib.hid (hYW.out (y - 1) (by omega) (by rw [show y - 1 + 1 = y by omega]; exact c1))
    have nyb' := Civ.ny_bd y0 (show y - 1 ≤ 2241 by omega)
    have q0 : 0 ≤ M - Civ.ny (y - 1) := by omega
    clear sy sy'
    go_enter Tryd.func14, Tryd.ntmps14
    go_wp2_with fail
    refine (rday_is HV HN.out _).mono ?_
    rintro e w1 ⟨rfl, hb⟩
    have ⟨a0, a1, a2⟩ := (DateAt.new w y m d 23).below hb
    go_wp2_with fail
    refine (rwday_any _ _ (by omega) (by omega)).mono ?_
    rintro e w' ⟨rfl, rfl⟩
    go_wp2_with fail
    rw [← HM.out]
    refine (rny_any _ _ (by omega) (by omega)).mono ?_
    rintro e w' ⟨rfl, rfl⟩
    go_wp2_with fail
    refine (rny_any _ _ (by omega) (by omega)).mono ?_
    rintro e w' ⟨rfl, rfl⟩
    go_wp2_with fail
    go_ret3
    exact ⟨ret_three fin.out.1.symm fin.out.2.symm, ((Below.refl _ _).alloc (Nat.le_refl _) _).trans (hb.mono (by simp))⟩
  · by_cases c2 : M < Civ.ny y + 365
    · have fin := Lib.hid (hYW.out y (by omega) (by omega))
      have q0 : 0 ≤ M - Civ.ny y := by omega
      clear sy
      go_enter Tryd.func14, Tryd.ntmps14
      go_wp2_with fail
      refine (rday_is HV HN.out _).mono ?_
      rintro e w1 ⟨rfl, hb⟩
      have ⟨a0, a1, a2⟩ := (DateAt.new w y m d 23).below hb
      go_wp2_with fail
      refine (rwday_any _ _ (by omega) (by omega)).mono ?_
      rintro e w' ⟨rfl, rfl⟩
      go_wp2_with fail
      rw [← HM.out]
      refine (rny_any _ _ (by omega) (by omega)).mono ?_
      rintro e w' ⟨rfl, rfl⟩
      go_wp2_with fail
      refine (rny_any _ _ (by omega) (by omega)).mono ?_
      rintro e w' ⟨rfl, rfl⟩
      go_wp2_with fail
      refine (rny_any _ _ (by omega) (by omega)).mono ?_
      rintro e w' ⟨rfl, rfl⟩
      go_wp2_with fail
      go_ret3
      exact ⟨ret_three fin.out.1.symm fin.out.2.symm, ((Below.refl _ _).alloc (Nat.le_refl _) _).trans (hb.mono (by simp))⟩
    · by_cases c3 : M < Civ.ny (y + 1)
      · have fin := Lib.hid (hYW.out y (by omega) c3)
        have q0 : 0 ≤ M - Civ.ny y := by omega
        clear sy
        go_enter Tryd.func14, Tryd.ntmps14
        go_wp2_with fail
        refine (rday_is HV HN.out _).mono ?_
        rintro e w1 ⟨rfl, hb⟩
        have ⟨a0, a1, a2⟩ := (DateAt.new w y m d 23).below hb
        go_wp2_with fail
        refine (rwday_any _ _ (by omega) (by omega)).mono ?_
        rintro e w' ⟨rfl, rfl⟩
        go_wp2_with fail
        rw [← HM.out]
        refine (rny_any _ _ (by omega) (by omega)).mono ?_
        rintro e w' ⟨rfl, rfl⟩
        go_wp2_with fail
        refine (rny_any _ _ (by omega) (by omega)).mono ?_
        rintro e w' ⟨rfl, rfl⟩
        go_wp2_with fail
        refine (rny_any _ _ (by omega) (by omega)).mono ?_
        rintro e w' ⟨rfl, rfl⟩
        go_wp2_with fail
        refine (rny_any _ _ (by omega) (by omega)).mono ?_
        rintro e w' ⟨rfl, rfl⟩
        go_wp2_with fail
        go_ret3
        exact ⟨ret_three fin.out.1.symm fin.out.2.symm, ((Below.refl _ _).alloc (Nat.le_refl _) _).trans (hb.mono (by simp))⟩
      · have y2 : y + 1 ≤ 2240 := by
          by_cases e : y = 2240
          · rw [e, show (2240 : Int) + 1 = 2241 from rfl, Civ.ny_2241] at c3; omega
          · omega
        have sy1 := Civ.ny_succ (y + 1)
        have ly1 := Civ.lp_01 (y + 1)
        have fin := Lib.hid (hYW.out (y + 1) (by omega) (by omega))
        have q0 : 0 ≤ M - Civ.ny (y + 1) := by omega
        clear sy sy1
        go_enter Tryd.func14, Tryd.ntmps14
        go_wp2_with fail
        refine (rday_is HV HN.out _).mono ?_
        rintro e w1 ⟨rfl, hb⟩
        have ⟨a0, a1, a2⟩ := (DateAt.new w y m d 23).below hb
        go_wp2_with fail
        refine (rwday_any _ _ (by omega) (by omega)).mono ?_
        rintro e w' ⟨rfl, rfl⟩
        go_wp2_with fail
        rw [← HM.out]
        refine (rny_any _ _ (by omega) (by omega)).mono ?_
        rintro e w' ⟨rfl, rfl⟩
        go_wp2_with fail
        refine (rny_any _ _ (by omega) (by omega)).mono ?_
        rintro e w' ⟨rfl, rfl⟩
        go_wp2_with fail
        refine (rny_any _ _ (by omega) (by omega)).mono ?_
        rintro e w' ⟨rfl, rfl⟩
        go_wp2_with fail
        refine (rny_any _ _ (by omega) (by omega)).mono ?_
        rintro e w' ⟨rfl, rfl⟩
        go_wp2_with fail
        go_ret3
        exact ⟨ret_three fin.out.1.symm fin.out.2.symm, ((Below.refl _ _).alloc (Nat.le_refl _) _).trans (hb.mono (by simp))⟩

set_option maxHeartbeats 800000 in
theorem rnth_bad (y m k v : Int) (w : World) (iy : I64 y) (im : I64 m) (hv : ¬ Civ.vld y m 1) :
    Calls Tryd.prog 22 #[.int .i64 y, .int .i64 m, .int .i64 k, .int .i64 v] w fun e w' => e = .returned (.tuple #[.int .i64 0, .int .i64 1]) ∧ Below w.heap.size w w' := by
  go_enter Tryd.func22, Tryd.ntmps22
  go_wp2_with fail
  refine (rday_no y m 1 _ iy im ⟨by omega, by omega⟩ hv).mono ?_
  rintro e w1 ⟨rfl, hb⟩
  go_wp2_with fail
  go_ret2
  exact ⟨rfl, hb⟩
set_option maxHeartbeats 800000 in
theorem rnth_out (y m k v : Int) (w : World) (hv : Civ.vld y m 1) (h : k < 1 ∨ (1 ≤ k ∧ 5 < k) ∨ (1 ≤ k ∧ k ≤ 5 ∧ v < 0) ∨ (1 ≤ k ∧ k ≤ 5 ∧ 0 ≤ v ∧ 6 < v)) :
    Calls Tryd.prog 22 #[.int .i64 y, .int .i64 m, .int .i64 k, .int .i64 v] w fun e w' => e = .returned (.tuple #[.int .i64 0, .int .i64 1]) ∧ Below w.heap.size w w' := by
  rcases h with h | ⟨h1, h⟩ | ⟨h1, h2, h⟩ | ⟨h1, h2, h3, h⟩
  all_goals
    go_enter Tryd.func22, Tryd.ntmps22
    go_wp2_with fail
    refine (rday_yes y m 1 _ hv).mono ?_
    rintro e w1 ⟨rfl, hb⟩
    go_wp2_with fail
    go_ret2
    exact ⟨rfl, hb⟩
theorem rnth_no (y m k v : Int) (w : World) (iy : I64 y) (im : I64 m) (h : ¬ (Civ.vld y m 1 ∧ 1 ≤ k ∧ k ≤ 5 ∧ 0 ≤ v ∧ v ≤ 6)) :
    Calls Tryd.prog 22 #[.int .i64 y, .int .i64 m, .int .i64 k, .int .i64 v] w fun e w' => e = .returned (.tuple #[.int .i64 0, .int .i64 1]) ∧ Below w.heap.size w w' := by
  by_cases hv : Civ.vld y m 1
  · exact rnth_out y m k v w hv (by have : ¬ (1 ≤ k ∧ k ≤ 5 ∧ 0 ≤ v ∧ v ≤ 6) := fun c => h ⟨hv, c⟩; omega)
  · exact rnth_bad y m k v w iy im hv

theorem Civ.wd_near {F v j : Int} (h0 : 0 ≤ j) (h : j < (v - Civ.wd F) % 7) : Civ.wd (F + j) ≠ v := by unfold Civ.wd at *; omega

set_option maxHeartbeats 1600000 in
theorem rnth_yes (y m k v : Int) (w : World) (hv : Civ.vld y m 1) (k1 : 1 ≤ k) (k2 : k ≤ 5) (v1 : 0 ≤ v) (v2 : v ≤ 6) :
    Calls Tryd.prog 22 #[.int .i64 y, .int .i64 m, .int .i64 k, .int .i64 v] w fun e w' => e = .returned (.tuple #[.int .i64 (Civ.nthD (Civ.num y m 1) (Civ.dim y m) k v), .int .i64 0]) ∧ Below w.heap.size w w' := by
  have nb := (Civ.num_bd hv).2.2.2.2
  have HV := hv
  obtain ⟨y1, y2, m1, m2, _, _⟩ := hv
  have L1 := Civ.dim_lo (y := y) m1 m2
  have L2 := Civ.dim_bd y m
  obtain ⟨N, hN⟩ : ∃ N, N = Civ.nthD (Civ.num y m 1) (Civ.dim y m) k v := ⟨_, rfl⟩
  obtain ⟨F, hF⟩ : ∃ F, F = Civ.num y m 1 := ⟨_, rfl⟩
  have HF := Lib.hid hF
  rw [← hF] at nb hN ⊢
  have Z := Civ.wd_first (F := F) v1 v2
  obtain ⟨o, ho⟩ : ∃ o, o = (v - Civ.wd F) % 7 := ⟨_, rfl⟩
  have HO := Lib.hid ho
  rw [← ho] at Z
  have o1 : 0 ≤ o ∧ o ≤ 6 := by omega
  have HZ := Lib.hid Z
  have HN := Lib.hid hN
  clear hN hF ho Z
  rw [← HN.out]
  go_enter Tryd.func22, Tryd.ntmps22
  go_wp2_with fail
  refine (rday_is HV HF.out.symm _).mono ?_
  rintro e w1 ⟨rfl, hb⟩
  go_wp2_with fail
  go_loop [12] (fun i => ∃ j : Int, 0 ≤ j ∧ j ≤ o ∧ i = .int .i64 (F + j)) (fun i => (F + o - intOf i).toNat)
  case atStart => exact ⟨0, by omega, by omega, by rw [Int.add_zero]⟩
  case round =>
    obtain ⟨j, j1, j2, rfl⟩ := hrel
    by_cases hj : j < o
    · have hw : (Civ.wd (F + j) == v) = false := by
        have := Civ.wd_near (F := F) (v := v) j1 (by rw [← HO.out]; exact hj)
        simpa using this
      have hw' : (Civ.wd (F + j) != v) = true := by rw [bne, hw]; rfl
      go_wp2_with fail
      refine (rwday_any _ _ (by omega) (by omega)).mono ?_
      rintro e w' ⟨rfl, rfl⟩
      go_wp2_with fail
      go_round
      case rel => exact ⟨j + 1, by omega, by omega, by go_num⟩
      case measure => simp [intOf]; omega
    · have hjo : j = o := by omega
      subst hjo
      have hw : Hid (Civ.wd (F + j) = v) := HZ
      by_cases hk5 : k < 5
      · have fin := Lib.hid (show N = F + j + 7 * (k - 1) by rw [HN.out]; exact Civ.nth_of (P := F + j) (by rw [HO.out]) _ (.inl ⟨by omega, by omega⟩))
        go_wp2_with fail
        refine (rwday_is hw.out _ (by omega) (by omega)).mono ?_
        rintro e w' ⟨rfl, rfl⟩
        go_wp2_with fail
        go_ret2
        exact ⟨ret_pair fin.out.symm, hb⟩
      · have hk : k = 5 := by omega
        have fin := Lib.hid (show ∀ i : Int, F + j + 7 * i < F + Civ.dim y m → F + Civ.dim y m ≤ F + j + 7 * i + 7 → N = F + j + 7 * i by
          intro i a b
          rw [HN.out]; exact Civ.nth_of (P := F + j) (by rw [HO.out]) _ (by subst hk; omega))
        clear hk
        go_wp2_with fail
        refine (rwday_is hw.out _ (by omega) (by omega)).mono ?_
        rintro e w' ⟨rfl, rfl⟩
        go_wp2_with fail
        go_loop [12] (fun i => ∃ q : Int, 0 ≤ q ∧ F + j + 7 * q < F + Civ.dim y m ∧ i = .int .i64 (F + j + 7 * q)) (fun i => (F + 40 - intOf i).toNat)
        case atStart => exact ⟨0, by omega, by omega, by rw [Int.mul_zero, Int.add_zero]⟩
        case round =>
          obtain ⟨q, q1, q2, rfl⟩ := hrel
          by_cases hq : F + j + 7 * q + 7 < F + Civ.dim y m
          · go_wp2_with (go_at_call 20; refine (rdim_any _ _ _ (by omega) (by omega)).mono ?_; rintro e w' ⟨rfl, rfl⟩)
            go_round
            case rel => exact ⟨q + 1, by omega, by omega, by go_num⟩
            case measure => simp [intOf]; omega
          · have fi := Lib.hid (fin.out q q2 (by omega))
            go_wp2_with (go_at_call 20; refine (rdim_any _ _ _ (by omega) (by omega)).mono ?_; rintro e w' ⟨rfl, rfl⟩)
            go_ret2
            exact ⟨ret_pair fi.out.symm, hb⟩
end Go.Proofs.YtnbfbkomgdnlnaaDoor
