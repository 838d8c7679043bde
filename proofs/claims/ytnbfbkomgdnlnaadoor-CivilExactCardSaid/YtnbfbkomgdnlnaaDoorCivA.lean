/- What the small functions of package civil and of its reference return: leap years, lengths of months, weekdays, the days ahead of a year. None of them changes anything. -/
import Derived.Test.YtnbfbkomgdnlnaaDoorRows
import Derived.Test.YtnbfbkomgdnlnaaDoorCiv
import Derived.WalkKit
import Derived.WalkSpells
import Derived.WalkLawsBesides
import Derived.Deep.QuietTactic
import Derived.BigQuiet
import Derived.Lib.Hide
import Derived.Outline
namespace Go.Proofs.YtnbfbkomgdnlnaaDoor
open Go.RowKit
set_option linter.unusedVariables false

/-- The lengths of the months, as the table lays them. -/
def civTab : List Int := [31, 28, 31, 30, 31, 30, 31, 31, 30, 31, 30, 31]
def CivT (w : World) : Prop := 0 < w.heap.size ∧ ∀ i : Nat, i < 12 → w.cell? ⟨0, i, none⟩ = some (.int .i64 (civTab.getD i 0))

theorem qsame {P : Program} {f : FuncId} {args : Array Value} {w : World} {n : Nat} {v : Value}
    (h : Calls P f args (w.drewN n) fun e w' => e = .returned v ∧ w.drewN n = w') : Calls P f args (w.drewN n) fun e w'' => e = .returned v ∧ ∃ m, w'' = w.drewN m :=
  Calls.quiet_of_same (h.mono fun _ _ ⟨a, b⟩ => ⟨a, b.symm⟩)

theorem ret_int {k : IntKind} {a b : Int} (h : a = b) : Ending.returned (.int k a) = .returned (.int k b) := by rw [h]
theorem ret_bool {a b : Bool} (h : a = b) : Ending.returned (.bool a) = .returned (.bool b) := by rw [h]

set_option maxHeartbeats 400000 in
theorem Mod_any (n k : Int) (w : World) (h1 : -9223372036854775808 ≤ n) (h2 : n ≤ 9223372036854775807) (k1 : 1 ≤ k) (k2 : k ≤ 4611686018427387904) :
    Calls Tryd.prog 8 #[.int .i64 n, .int .i64 k] w fun e w' => e = .returned (.int .i64 (n % k)) ∧ w = w' := by
  have hb := Civ.tmod_bd n k (by omega)
  have hk : (k == 0) = false := by simp; omega
  go_enter Tryd.func8, Tryd.ntmps8
  go_wp2
  go_ret
  exact ⟨ret_int (Civ.mod_code n k), rfl⟩

set_option maxHeartbeats 400000 in
theorem wday_any (n : Int) (w : World) (h1 : -9223372036854775808 ≤ n) (h2 : n ≤ 9223372036854775807) :
    Calls Tryd.prog 25 #[.int .i64 n] w fun e w' => e = .returned (.int .i64 (Civ.wd n)) ∧ w = w' := by
  have hb := Civ.tmod_bd n 7 (by omega)
  go_enter Tryd.func25, Tryd.ntmps25
  go_wp2
  go_ret
  exact ⟨ret_int (Civ.wd_code n), rfl⟩

set_option maxHeartbeats 400000 in
theorem rwday_any (n : Int) (w : World) (h1 : -9223372036854775808 ≤ n) (h2 : n ≤ 9223372036854775807) :
    Calls Tryd.prog 26 #[.int .i64 n] w fun e w' => e = .returned (.int .i64 (Civ.wd n)) ∧ w = w' := by
  have hb := Civ.tmod_bd n 7 (by omega)
  go_enter Tryd.func26, Tryd.ntmps26
  go_wp2
  go_ret
  exact ⟨ret_int (Civ.wd_code10 n), rfl⟩

set_option maxHeartbeats 400000 in
theorem leap_any (y : Int) (w : World) (h1 : -9223372036854775808 ≤ y) (h2 : y ≤ 9223372036854775807) :
    Calls Tryd.prog 17 #[.int .i64 y] w fun e w' => e = .returned (.bool (Civ.leapB y)) ∧ w = w' := by
  go_enter Tryd.func17, Tryd.ntmps17
  go_wp2
  all_goals go_ret
  all_goals exact ⟨ret_bool (Civ.leap_code y (by first | exact .inl ⟨‹_›, ‹_›, rfl⟩ | exact .inr (.inl ⟨‹_›, ‹_›, rfl⟩) | exact .inr (.inr ⟨‹_›, rfl⟩))), rfl⟩
theorem leap_is {y : Int} {b : Bool} (hb : Civ.leapB y = b) (w : World) (h1 : -9223372036854775808 ≤ y) (h2 : y ≤ 9223372036854775807) :
    Calls Tryd.prog 17 #[.int .i64 y] w fun e w' => e = .returned (.bool b) ∧ w = w' := hb ▸ leap_any y w h1 h2

set_option maxHeartbeats 400000 in
theorem lb_any (y : Int) (w : World) (h1 : 1 ≤ y) (h2 : y ≤ 100000) :
    Calls Tryd.prog 32 #[.int .i64 y] w fun e w' => e = .returned (.int .i64 ((y - 1) / 4 - (y - 1) / 100 + (y - 1) / 400)) ∧ w = w' := by
  go_enter Tryd.func32, Tryd.ntmps32
  go_wp2
  go_ret
  exact ⟨rfl, rfl⟩

set_option maxHeartbeats 400000 in
theorem ny_any (y : Int) (w : World) (h1 : 1970 ≤ y) (h2 : y ≤ 2241) :
    Calls Tryd.prog 28 #[.int .i64 y] w fun e w' => e = .returned (.int .i64 (Civ.ny y)) ∧ w = w' := by
  go_enter Tryd.func28, Tryd.ntmps28
  go_wp2_with fail
  refine (lb_any _ _ (by omega) (by omega)).mono ?_
  rintro e w' ⟨rfl, rfl⟩
  go_wp2_with fail
  refine (lb_any _ _ (by omega) (by omega)).mono ?_
  rintro e w' ⟨rfl, rfl⟩
  go_wp2_with fail
  go_ret
  exact ⟨ret_int (by unfold Civ.ny; omega), rfl⟩

set_option maxHeartbeats 400000 in
theorem yo_any (n : Int) (w : World) (h1 : 0 ≤ n) (h2 : n < 98981) :
    Calls Tryd.prog 30 #[.int .i64 n] w fun e w' => e = .returned (.int .i64 (Civ.yo n)) ∧ w = w' := by
  have hg := Civ.yo_guess n h1 h2
  by_cases hc : Civ.ny (1970 + n / 366 + 1) ≤ n
  · have hy := Lib.hid (show Civ.yo n = 1970 + n / 366 + 1 by unfold Civ.yo; rw [if_pos hc])
    go_enter Tryd.func30, Tryd.ntmps30
    go_wp2_with fail
    refine (ny_any _ _ (by omega) (by omega)).mono ?_
    rintro e w' ⟨rfl, rfl⟩
    go_wp2_with fail
    go_ret
    exact ⟨ret_int hy.out.symm, rfl⟩
  · have hy := Lib.hid (show Civ.yo n = 1970 + n / 366 by unfold Civ.yo; rw [if_neg hc])
    go_enter Tryd.func30, Tryd.ntmps30
    go_wp2_with fail
    refine (ny_any _ _ (by omega) (by omega)).mono ?_
    rintro e w' ⟨rfl, rfl⟩
    go_wp2_with fail
    go_ret
    exact ⟨ret_int hy.out.symm, rfl⟩

theorem ny_is {y n : Int} (h : Civ.ny y = n) (w : World) (h1 : 1970 ≤ y) (h2 : y ≤ 2241) :
    Calls Tryd.prog 28 #[.int .i64 y] w fun e w' => e = .returned (.int .i64 n) ∧ w = w' := h ▸ ny_any y w h1 h2
theorem yo_is {n y : Int} (h : Civ.yo n = y) (w : World) (h1 : 0 ≤ n) (h2 : n < 98981) :
    Calls Tryd.prog 30 #[.int .i64 n] w fun e w' => e = .returned (.int .i64 y) ∧ w = w' := h ▸ yo_any n w h1 h2
theorem tab_at {w : World} (h : CivT w) (i : Nat) (v : Int) (hi : i < 12) (hv : civTab.getD i 0 = v) : w.cell? ⟨0, i, none⟩ = some (.int .i64 v) := hv ▸ h.2 i hi

set_option maxHeartbeats 800000 in
theorem dim_any (y m : Int) (w : World) (hT : CivT w) (h1 : -9223372036854775808 ≤ y) (h2 : y ≤ 9223372036854775807) (m1 : -9223372036854775808 ≤ m) (m2 : m ≤ 9223372036854775807) :
    Calls Tryd.prog 19 #[.int .i64 y, .int .i64 m] w fun e w' => e = .returned (.int .i64 (Civ.dim y m)) ∧ w = w' := by
  by_cases ho : m < 1
  · go_enter Tryd.func19, Tryd.ntmps19
    go_wp2_with fail
    go_ret
    exact ⟨ret_int (Civ.dim_out (.inl ho)).symm, rfl⟩
  by_cases ho2 : 12 < m
  · go_enter Tryd.func19, Tryd.ntmps19
    go_wp2_with fail
    go_ret
    exact ⟨ret_int (Civ.dim_out (.inr ho2)).symm, rfl⟩
  have hd := Civ.dim_of (y := y) (show 1 ≤ m by omega) (show m ≤ 12 by omega)
  have HD := Lib.hid hd
  clear hd
  have hm : m = 2 ∨ m = 1 ∨ m = 3 ∨ m = 4 ∨ m = 5 ∨ m = 6 ∨ m = 7 ∨ m = 8 ∨ m = 9 ∨ m = 10 ∨ m = 11 ∨ m = 12 := by omega
  have t0 := tab_at hT 0 31 (by decide) rfl
  have t1 := tab_at hT 1 28 (by decide) rfl
  have t2 := tab_at hT 2 31 (by decide) rfl
  have t3 := tab_at hT 3 30 (by decide) rfl
  have t4 := tab_at hT 4 31 (by decide) rfl
  have t5 := tab_at hT 5 30 (by decide) rfl
  have t6 := tab_at hT 6 31 (by decide) rfl
  have t7 := tab_at hT 7 31 (by decide) rfl
  have t8 := tab_at hT 8 30 (by decide) rfl
  have t9 := tab_at hT 9 31 (by decide) rfl
  have t10 := tab_at hT 10 30 (by decide) rfl
  have t11 := tab_at hT 11 31 (by decide) rfl
  clear hT
  rcases hm with rfl | hm
  · cases hl : Civ.leapB y
    all_goals
      have HL := Lib.hid hl
      clear hl
      go_enter Tryd.func19, Tryd.ntmps19
      go_wp2_with fail
      refine (leap_is HL.out _ h1 h2).mono ?_
      rintro e w' ⟨rfl, rfl⟩
      go_wp2_with fail
      go_ret
    · exact ⟨ret_int (by rw [HD.out, Civ.lp_no HL.out]; rfl), rfl⟩
    · exact ⟨ret_int (by rw [HD.out, Civ.lp_yes HL.out]; rfl), rfl⟩
  · rcases hm with rfl | rfl | rfl | rfl | rfl | rfl | rfl | rfl | rfl | rfl | rfl
    all_goals
      go_enter Tryd.func19, Tryd.ntmps19
      go_wp2_with fail
      go_ret
      exact ⟨ret_int (by rw [HD.out]; rfl), rfl⟩
end Go.Proofs.YtnbfbkomgdnlnaaDoor
