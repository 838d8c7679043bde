/- What the small functions of package ratio and of its reference return: sizes, common divisors, products and sums within the bounds. None of them changes anything. -/
import Derived.Test.YtcannkndedlooaaDoorRows
import Derived.Test.YtcannkndedlooaaDoorRat
import Derived.Test.YtcannkndedlooaaDoorShelf
import Derived.WalkKit
import Derived.WalkSpells
import Derived.WalkLawsBesides
import Derived.Deep.QuietTactic
import Derived.BigQuiet
import Derived.Lib.Hide
import Derived.Outline
namespace Go.Proofs.YtcannkndedlooaaDoor
open Go.RowKit
set_option linter.unusedVariables false

theorem qsame {P : Program} {f : FuncId} {args : Array Value} {w : World} {n : Nat} {v : Value}
    (h : Calls P f args (w.drewN n) fun e w' => e = .returned v ∧ w.drewN n = w') : Calls P f args (w.drewN n) fun e w'' => e = .returned v ∧ ∃ m, w'' = w.drewN m :=
  Calls.quiet_of_same (h.mono fun _ _ ⟨a, b⟩ => ⟨a, b.symm⟩)

theorem ret_int {k : IntKind} {a b : Int} (h : a = b) : Ending.returned (.int k a) = .returned (.int k b) := by rw [h]
theorem ret_bool {a b : Bool} (h : a = b) : Ending.returned (.bool a) = .returned (.bool b) := by rw [h]
theorem ret_pair {k : IntKind} {a b : Int} {v : Value} (h : a = b) : Ending.returned (.tuple #[.int k a, v]) = .returned (.tuple #[.int k b, v]) := by rw [h]

set_option maxHeartbeats 400000 in
theorem size_any (n : Int) (w : World) (h1 : -4611686018427387904 ≤ n) (h2 : n ≤ 4611686018427387904) :
    Calls Tryd.prog 48 #[.int .i64 n] w fun e w' => e = .returned (.int .u64 (Rt.ab n)) ∧ w = w' := by
  by_cases hn : n < 0
  · have hr := Lib.hid (show -n = Rt.ab n by unfold Rt.ab; rw [if_pos hn])
    go_enter Tryd.func48, Tryd.ntmps48
    go_wp2_with fail
    go_ret
    exact ⟨ret_int hr.out, rfl⟩
  · have hr := Lib.hid (show n = Rt.ab n by unfold Rt.ab; rw [if_neg hn])
    go_enter Tryd.func48, Tryd.ntmps48
    go_wp2_with fail
    go_ret
    exact ⟨ret_int hr.out, rfl⟩

set_option maxHeartbeats 400000 in
theorem rsize_any (n : Int) (w : World) (h1 : -4611686018427387904 ≤ n) (h2 : n ≤ 4611686018427387904) :
    Calls Tryd.prog 33 #[.int .i64 n] w fun e w' => e = .returned (.int .i64 (Rt.ab n)) ∧ w = w' := by
  by_cases hn : n < 0
  · have hr := Lib.hid (show -n = Rt.ab n by unfold Rt.ab; rw [if_pos hn])
    go_enter Tryd.func33, Tryd.ntmps33
    go_wp2_with fail
    go_ret
    exact ⟨ret_int hr.out, rfl⟩
  · have hr := Lib.hid (show n = Rt.ab n by unfold Rt.ab; rw [if_neg hn])
    go_enter Tryd.func33, Tryd.ntmps33
    go_wp2_with fail
    go_ret
    exact ⟨ret_int hr.out, rfl⟩

set_option maxHeartbeats 400000 in
theorem divisor_any (n d : Int) (w : World) (n1 : -4611686018427387904 ≤ n) (n2 : n ≤ 4611686018427387904) (d1 : 1 ≤ d) (d2 : d ≤ 4611686018427387904) :
    Calls Tryd.prog 37 #[.int .i64 n, .int .i64 d] w fun e w' => e = .returned (.int .i64 (Rt.g n d)) ∧ w = w' := by
  have b1 := Rt.ab_bd n1 n2
  have b2 := Rt.ab_bd (show -4611686018427387904 ≤ d by omega) d2
  have hs : Rt.GcdIs (Rt.ab n) (Rt.ab d) (Rt.g n d) := Rt.gcdIs_ab n d
  go_enter Tryd.func37, Tryd.ntmps37
  go_wp2_with fail
  refine (size_any _ _ n1 n2).mono ?_
  rintro e w' ⟨rfl, rfl⟩
  go_wp2_with fail
  refine (size_any _ _ (by omega) d2).mono ?_
  rintro e w' ⟨rfl, rfl⟩
  go_wp2_with fail
  go_loop [5, 6] (fun a b => ∃ x y : Int, 0 ≤ x ∧ 0 ≤ y ∧ y ≤ 4611686018427387904 ∧ x ≤ 4611686018427387904 ∧ Rt.GcdIs x y (Rt.g n d) ∧ a = .int .u64 x ∧ b = .int .u64 y) (fun a _ => (intOf a).toNat)
  case atStart => exact ⟨_, _, b1.1, b2.1, b2.2, b1.2, hs, rfl, rfl⟩
  case round =>
    obtain ⟨x, y, hx, hy, hy2, hx2, hg, rfl, rfl⟩ := hrel
    by_cases h0 : 1 ≤ x
    · have hm1 : 0 ≤ y % x := Int.emod_nonneg _ (by omega)
      have hm2 : y % x < x := Int.emod_lt_of_pos _ (by omega)
      have hx0 : ((x : Int) == 0) = false := by simp; omega
      go_wp2_with fail
      go_round
      case rel => exact ⟨y % x, x, hm1, hx, hx2, by omega, hg.step hx hy, rfl, rfl⟩
      case measure => simp [intOf]; omega
    · have hz := Lib.hid (show x = 0 by omega)
      have hx0 : ((x : Int) == 0) = true := by simp; omega
      have hr := Lib.hid (hg.last (by omega) hy)
      go_wp2_with fail
      go_ret
      exact ⟨ret_int hr.out, rfl⟩

theorem drewN_add (w : World) (n m : Nat) : (w.drewN n).drewN m = w.drewN (n + m) := World.drewN_drewN w n m
theorem qdrew {P : Program} {f : FuncId} {args : Array Value} {w : World} {n : Nat} {v : Value}
    (h : Calls P f args (w.drewN n) fun e w' => e = .returned v ∧ ∃ m, w' = (w.drewN n).drewN m) : Calls P f args (w.drewN n) fun e w'' => e = .returned v ∧ ∃ m, w'' = w.drewN m :=
  h.mono fun _ _ ⟨a, m, b⟩ => ⟨a, n + m, by rw [b, drewN_add]⟩
/-- The same behind an earlier region that drew. -/
theorem qsame2 {P : Program} {f : FuncId} {args : Array Value} {w : World} {a n : Nat} {v : Value}
    (h : Calls P f args (w.drewN (a + n)) fun e w' => e = .returned v ∧ w.drewN (a + n) = w') : Calls P f args (w.drewN (a + n)) fun e w'' => e = .returned v ∧ ∃ m, w'' = w.drewN (a + m) :=
  h.mono fun _ _ ⟨b, c⟩ => ⟨b, n, c.symm⟩
theorem qdrew2 {P : Program} {f : FuncId} {args : Array Value} {w : World} {a n : Nat} {v : Value}
    (h : Calls P f args (w.drewN (a + n)) fun e w' => e = .returned v ∧ ∃ m, w' = (w.drewN (a + n)).drewN m) : Calls P f args (w.drewN (a + n)) fun e w'' => e = .returned v ∧ ∃ m, w'' = w.drewN (a + m) :=
  h.mono fun _ _ ⟨b, m, c⟩ => ⟨b, n + m, by rw [c, drewN_add, Nat.add_assoc]⟩
def Drew (w wr : World) : Prop := ∃ m, wr = w.drewN m
theorem Drew.more {w wr : World} (h : Drew w wr) (n : Nat) : Drew w (wr.drewN n) := by
  obtain ⟨m, rfl⟩ := h
  exact ⟨m + n, drewN_add _ _ _⟩

set_option maxHeartbeats 400000 in
theorem rgcd_any (n d : Int) (w : World) (n1 : 0 ≤ n) (n2 : n ≤ 4611686018427387904) (d1 : 1 ≤ d) (d2 : d ≤ 4611686018427387904) :
    Calls Tryd.prog 30 #[.int .i64 n, .int .i64 d] w fun e w' => e = .returned (.int .i64 (Rt.g n d)) ∧ ∃ m, w' = w.drewN m := by
  have hs : Rt.GcdIs n d (Rt.g n d) := rfl
  go_enter Tryd.func30, Tryd.ntmps30
  go_wp2_with fail
  go_loopw [0, 1] (fun a b wr => ∃ x y : Int, 0 ≤ x ∧ 0 ≤ y ∧ y ≤ 4611686018427387904 ∧ x ≤ 4611686018427387904 ∧ Rt.GcdIs x y (Rt.g n d) ∧ a = .int .i64 x ∧ b = .int .i64 y ∧ Drew w wr) (fun _ b _ => (intOf b).toNat)
  case atStart => exact ⟨_, _, n1, by omega, d2, n2, hs, rfl, rfl, 0, rfl⟩
  case round =>
    obtain ⟨x, y, hx, hy, hy2, hx2, hg, rfl, rfl, hD⟩ := hrel
    by_cases h0 : 1 ≤ y
    · have hm1 : 0 ≤ x % y := Int.emod_nonneg _ (by omega)
      have hm2 : x % y < y := Int.emod_lt_of_pos _ (by omega)
      have hx0 : ((y : Int) == 0) = false := by simp; omega
      go_wp2_with fail
      go_quiet (fail)
      go_wp2_with fail
      go_roundw
      case rel => exact ⟨y, x % y, hy, hm1, by omega, hy2, hg.step' hx hy, rfl, rfl, hD.more _⟩
      case measure => simp [intOf]; omega
    · have hz := Lib.hid (show y = 0 by omega)
      have hx0 : ((y : Int) == 0) = true := by simp; omega
      have hr := Lib.hid (hg.last' (by omega) hx)
      go_wp2_with fail
      go_ret
      exact ⟨ret_int hr.out, hD⟩

set_option maxHeartbeats 400000 in
theorem inR_yes (n d : Int) (w : World) (h1 : 1 ≤ d) (h2 : d ≤ 4611686018427387904) (h3 : -4611686018427387904 ≤ n) (h4 : n ≤ 4611686018427387904) :
    Calls Tryd.prog 36 #[.int .i64 n, .int .i64 d] w fun e w' => e = .returned (.bool true) ∧ w = w' := by
  go_enter Tryd.func36, Tryd.ntmps36
  go_wp2_with fail
  go_ret
  exact ⟨rfl, rfl⟩
set_option maxHeartbeats 400000 in
theorem inR_no (n d : Int) (w : World) (h : ¬ (1 ≤ d ∧ d ≤ 4611686018427387904 ∧ -4611686018427387904 ≤ n ∧ n ≤ 4611686018427387904)) :
    Calls Tryd.prog 36 #[.int .i64 n, .int .i64 d] w fun e w' => e = .returned (.bool false) ∧ w = w' := by
  rcases (show d < 1 ∨ (1 ≤ d ∧ 4611686018427387904 < d) ∨ (1 ≤ d ∧ d ≤ 4611686018427387904 ∧ n < -4611686018427387904) ∨ (1 ≤ d ∧ d ≤ 4611686018427387904 ∧ -4611686018427387904 ≤ n ∧ 4611686018427387904 < n) by omega) with h | ⟨h1, h⟩ | ⟨h1, h2, h⟩ | ⟨h1, h2, h3, h⟩
  iterate 3
    · go_enter Tryd.func36, Tryd.ntmps36
      go_wp2_with fail
      go_ret
      exact ⟨rfl, rfl⟩
  · have hd : decide (n ≤ 4611686018427387904) = false := by simp; omega
    go_enter Tryd.func36, Tryd.ntmps36
    go_wp2_with fail
    go_ret
    exact ⟨rfl, rfl⟩
set_option maxHeartbeats 400000 in
theorem rin_yes (n : Int) (w : World) (h3 : -4611686018427387904 ≤ n) (h4 : n ≤ 4611686018427387904) :
    Calls Tryd.prog 38 #[.int .i64 n] w fun e w' => e = .returned (.bool true) ∧ w = w' := by
  go_enter Tryd.func38, Tryd.ntmps38
  go_wp2_with fail
  go_ret
  exact ⟨rfl, rfl⟩
set_option maxHeartbeats 400000 in
theorem rin_no (n : Int) (w : World) (h : ¬ (-4611686018427387904 ≤ n ∧ n ≤ 4611686018427387904)) :
    Calls Tryd.prog 38 #[.int .i64 n] w fun e w' => e = .returned (.bool false) ∧ w = w' := by
  rcases (show n < -4611686018427387904 ∨ (-4611686018427387904 ≤ n ∧ 4611686018427387904 < n) by omega) with h | ⟨h1, h⟩
  · go_enter Tryd.func38, Tryd.ntmps38
    go_wp2_with fail
    go_ret
    exact ⟨rfl, rfl⟩
  · have hd : decide (n ≤ 4611686018427387904) = false := by simp; omega
    go_enter Tryd.func38, Tryd.ntmps38
    go_wp2_with fail
    go_ret
    exact ⟨rfl, rfl⟩

theorem mul64_is (a b h l : Int) (w : World) (a1 : 0 ≤ a) (a2 : a ≤ 4611686018427387904) (b1 : 0 ≤ b) (b2 : b ≤ 4611686018427387904) (hh : a * b / 18446744073709551616 = h) (hl : a * b % 18446744073709551616 = l) :
    Calls Tryd.prog 47 #[.int .u64 a, .int .u64 b] w fun e w' => e = .returned (.tuple #[.int .u64 h, .int .u64 l]) ∧ w = w' := by
  obtain ⟨x, rfl⟩ := Int.eq_ofNat_of_zero_le a1
  obtain ⟨y, rfl⟩ := Int.eq_ofNat_of_zero_le b1
  refine (Tryd.bits_Mul64 x y (by omega) (by omega) w).mono ?_
  rintro e w' ⟨rfl, rfl⟩
  subst hh hl
  exact ⟨by simp, rfl⟩

set_option maxHeartbeats 400000 in
theorem times_yes (a b : Int) (w : World) (a1 : -4611686018427387904 ≤ a) (a2 : a ≤ 4611686018427387904) (b1 : -4611686018427387904 ≤ b) (b2 : b ≤ 4611686018427387904)
    (f1 : -4611686018427387904 ≤ a * b) (f2 : a * b ≤ 4611686018427387904) :
    Calls Tryd.prog 45 #[.int .i64 a, .int .i64 b] w fun e w' => e = .returned (.tuple #[.int .i64 (a * b), .bool true]) ∧ w = w' := by
  have c1 := Rt.ab_bd a1 a2
  have c2 := Rt.ab_bd b1 b2
  obtain ⟨l, hh0, hl0, l1, l2⟩ := Rt.mul_fits f1 f2
  have hh := Lib.hid hh0
  have hl := Lib.hid hl0
  clear hh0 hl0
  go_enter Tryd.func45, Tryd.ntmps45
  go_wp2_with fail
  refine (size_any _ _ a1 a2).mono ?_
  rintro e w' ⟨rfl, rfl⟩
  go_wp2_with fail
  refine (size_any _ _ b1 b2).mono ?_
  rintro e w' ⟨rfl, rfl⟩
  go_wp2_with fail
  refine (mul64_is _ _ 0 l _ c1.1 c1.2 c2.1 c2.2 hh.out hl.out).mono ?_
  rintro e w' ⟨rfl, rfl⟩
  go_wp2_with fail
  go_ret2
  exact ⟨rfl, rfl⟩

set_option maxHeartbeats 400000 in
theorem times_no (a b : Int) (w : World) (a1 : -4611686018427387904 ≤ a) (a2 : a ≤ 4611686018427387904) (b1 : -4611686018427387904 ≤ b) (b2 : b ≤ 4611686018427387904)
    (f : ¬ (-4611686018427387904 ≤ a * b ∧ a * b ≤ 4611686018427387904)) :
    Calls Tryd.prog 45 #[.int .i64 a, .int .i64 b] w fun e w' => e = .returned (.tuple #[.int .i64 0, .bool false]) ∧ w = w' := by
  have c1 := Rt.ab_bd a1 a2
  have c2 := Rt.ab_bd b1 b2
  obtain ⟨h, l, hh0, hl0, h1, h2, l1, l2, hc⟩ := Rt.mul_wide (a := a) (b := b) a1 a2 b1 b2 f
  have hh := Lib.hid hh0
  have hl := Lib.hid hl0
  clear hh0 hl0 f
  rcases hc with hc | ⟨hc0, hc⟩
  · have hz : ((h : Int) == 0) = false := by simp; omega
    go_enter Tryd.func45, Tryd.ntmps45
    go_wp2_with fail
    refine (size_any _ _ a1 a2).mono ?_
    rintro e w' ⟨rfl, rfl⟩
    go_wp2_with fail
    refine (size_any _ _ b1 b2).mono ?_
    rintro e w' ⟨rfl, rfl⟩
    go_wp2_with fail
    refine (mul64_is _ _ h l _ c1.1 c1.2 c2.1 c2.2 hh.out hl.out).mono ?_
    rintro e w' ⟨rfl, rfl⟩
    go_wp2_with fail
    go_ret2
    exact ⟨rfl, rfl⟩
  · subst hc0
    go_enter Tryd.func45, Tryd.ntmps45
    go_wp2_with fail
    refine (size_any _ _ a1 a2).mono ?_
    rintro e w' ⟨rfl, rfl⟩
    go_wp2_with fail
    refine (size_any _ _ b1 b2).mono ?_
    rintro e w' ⟨rfl, rfl⟩
    go_wp2_with fail
    refine (mul64_is _ _ 0 l _ c1.1 c1.2 c2.1 c2.2 hh.out hl.out).mono ?_
    rintro e w' ⟨rfl, rfl⟩
    go_wp2_with fail
    go_ret2
    exact ⟨rfl, rfl⟩

set_option maxHeartbeats 400000 in
theorem plus_yes (a b : Int) (w : World) (a1 : -4611686018427387904 ≤ a) (a2 : a ≤ 4611686018427387904) (b1 : -4611686018427387904 ≤ b) (b2 : b ≤ 4611686018427387904)
    (f1 : -4611686018427387904 ≤ a + b) (f2 : a + b ≤ 4611686018427387904) :
    Calls Tryd.prog 46 #[.int .i64 a, .int .i64 b] w fun e w' => e = .returned (.tuple #[.int .i64 (a + b), .bool true]) ∧ w = w' := by
  rcases (show 0 < a ∨ a = 0 ∨ a < 0 by omega) with h | rfl | h
  all_goals
    go_enter Tryd.func46, Tryd.ntmps46
    go_wp2_with fail
    go_ret2
    exact ⟨by first | rfl | simp, rfl⟩
set_option maxHeartbeats 400000 in
theorem plus_no (a b : Int) (w : World) (a1 : -4611686018427387904 ≤ a) (a2 : a ≤ 4611686018427387904) (b1 : -4611686018427387904 ≤ b) (b2 : b ≤ 4611686018427387904)
    (f : ¬ (-4611686018427387904 ≤ a + b ∧ a + b ≤ 4611686018427387904)) :
    Calls Tryd.prog 46 #[.int .i64 a, .int .i64 b] w fun e w' => e = .returned (.tuple #[.int .i64 0, .bool false]) ∧ w = w' := by
  rcases (show (0 < a ∧ 4611686018427387904 - a < b) ∨ (a < 0 ∧ b < -4611686018427387904 - a) by omega) with ⟨h, h2⟩ | ⟨h, h2⟩
  all_goals
    clear f
    go_enter Tryd.func46, Tryd.ntmps46
    go_wp2_with fail
    go_ret2
    exact ⟨rfl, rfl⟩

set_option maxHeartbeats 400000 in
theorem rprod_yes (a b : Int) (w : World) (a1 : -4611686018427387904 ≤ a) (a2 : a ≤ 4611686018427387904) (b1 : -4611686018427387904 ≤ b) (b2 : b ≤ 4611686018427387904)
    (f1 : -4611686018427387904 ≤ a * b) (f2 : a * b ≤ 4611686018427387904) :
    Calls Tryd.prog 31 #[.int .i64 a, .int .i64 b] w fun e w' => e = .returned (.tuple #[.int .i64 (a * b), .bool true]) ∧ w = w' := by
  by_cases ha : a = 0
  · have hr := Lib.hid (show 0 = a * b by rw [ha]; simp)
    have ha1 : ((a : Int) == 0) = true := by simp [ha]
    clear ha
    go_enter Tryd.func31, Tryd.ntmps31
    go_wp2_with fail
    go_ret2
    exact ⟨ret_pair hr.out, rfl⟩
  by_cases hb : b = 0
  · have hr := Lib.hid (show 0 = a * b by rw [hb]; simp)
    have ha1 : ((a : Int) == 0) = false := by simp [ha]
    have hb1 : ((b : Int) == 0) = true := by simp [hb]
    clear hb
    go_enter Tryd.func31, Tryd.ntmps31
    go_wp2_with fail
    go_ret2
    exact ⟨ret_pair hr.out, rfl⟩
  have ha1 : ((a : Int) == 0) = false := by simp [ha]
  have hb1 : ((b : Int) == 0) = false := by simp [hb]
  have c1 := Rt.ab_bd a1 a2
  have c2 := Rt.ab_bd b1 b2
  have c3 : 1 ≤ Rt.ab b := by unfold Rt.ab; omega
  have hle := Rt.quo_fits (a := a) (b := b) c3 f1 f2
  clear ha hb
  go_enter Tryd.func31, Tryd.ntmps31
  go_wp2_with fail
  refine (rsize_any _ _ a1 a2).mono ?_
  rintro e w' ⟨rfl, rfl⟩
  go_wp2_with fail
  refine (rsize_any _ _ b1 b2).mono ?_
  rintro e w' ⟨rfl, rfl⟩
  go_wp2_with fail
  go_ret2
  exact ⟨rfl, rfl⟩
set_option maxHeartbeats 400000 in
theorem rprod_no (a b : Int) (w : World) (a1 : -4611686018427387904 ≤ a) (a2 : a ≤ 4611686018427387904) (b1 : -4611686018427387904 ≤ b) (b2 : b ≤ 4611686018427387904)
    (f : ¬ (-4611686018427387904 ≤ a * b ∧ a * b ≤ 4611686018427387904)) :
    Calls Tryd.prog 31 #[.int .i64 a, .int .i64 b] w fun e w' => e = .returned (.tuple #[.int .i64 0, .bool false]) ∧ w = w' := by
  have ha : a ≠ 0 := by rintro rfl; simp at f
  have hb : b ≠ 0 := by rintro rfl; simp at f
  have ha1 : ((a : Int) == 0) = false := by simp [ha]
  have hb1 : ((b : Int) == 0) = false := by simp [hb]
  have c1 := Rt.ab_bd a1 a2
  have c2 := Rt.ab_bd b1 b2
  have c3 : 1 ≤ Rt.ab b := by unfold Rt.ab; omega
  have hle := Rt.quo_wide (a := a) (b := b) c3 f
  clear ha hb f
  go_enter Tryd.func31, Tryd.ntmps31
  go_wp2_with fail
  refine (rsize_any _ _ a1 a2).mono ?_
  rintro e w' ⟨rfl, rfl⟩
  go_wp2_with fail
  refine (rsize_any _ _ b1 b2).mono ?_
  rintro e w' ⟨rfl, rfl⟩
  go_wp2_with fail
  go_ret2
  exact ⟨rfl, rfl⟩


theorem times_is {a b v : Int} {t : Bool} (w : World) (hv : Rt.tmN a b = v) (ht : Rt.tmB a b = t) (a1 : -4611686018427387904 ≤ a) (a2 : a ≤ 4611686018427387904) (b1 : -4611686018427387904 ≤ b) (b2 : b ≤ 4611686018427387904) :
    Calls Tryd.prog 45 #[.int .i64 a, .int .i64 b] w fun e w' => e = .returned (.tuple #[.int .i64 v, .bool t]) ∧ w = w' := by
  subst hv ht
  by_cases h : -4611686018427387904 ≤ a * b ∧ a * b ≤ 4611686018427387904
  · rw [Rt.tmN_yes h, Rt.tmB_yes h]
    exact times_yes a b w a1 a2 b1 b2 h.1 h.2
  · rw [Rt.tmN_no h, Rt.tmB_no h]
    exact times_no a b w a1 a2 b1 b2 h
theorem rprod_is {a b v : Int} {t : Bool} (w : World) (hv : Rt.tmN a b = v) (ht : Rt.tmB a b = t) (a1 : -4611686018427387904 ≤ a) (a2 : a ≤ 4611686018427387904) (b1 : -4611686018427387904 ≤ b) (b2 : b ≤ 4611686018427387904) :
    Calls Tryd.prog 31 #[.int .i64 a, .int .i64 b] w fun e w' => e = .returned (.tuple #[.int .i64 v, .bool t]) ∧ w = w' := by
  subst hv ht
  by_cases h : -4611686018427387904 ≤ a * b ∧ a * b ≤ 4611686018427387904
  · rw [Rt.tmN_yes h, Rt.tmB_yes h]
    exact rprod_yes a b w a1 a2 b1 b2 h.1 h.2
  · rw [Rt.tmN_no h, Rt.tmB_no h]
    exact rprod_no a b w a1 a2 b1 b2 h
theorem plus_is {a b v : Int} {t : Bool} (w : World) (hv : Rt.plN a b = v) (ht : Rt.plB a b = t) (a1 : -4611686018427387904 ≤ a) (a2 : a ≤ 4611686018427387904) (b1 : -4611686018427387904 ≤ b) (b2 : b ≤ 4611686018427387904) :
    Calls Tryd.prog 46 #[.int .i64 a, .int .i64 b] w fun e w' => e = .returned (.tuple #[.int .i64 v, .bool t]) ∧ w = w' := by
  subst hv ht
  by_cases h : -4611686018427387904 ≤ a + b ∧ a + b ≤ 4611686018427387904
  · rw [Rt.plN_yes h, Rt.plB_yes h]
    exact plus_yes a b w a1 a2 b1 b2 h.1 h.2
  · rw [Rt.plN_no h, Rt.plB_no h]
    exact plus_no a b w a1 a2 b1 b2 h
end Go.Proofs.YtcannkndedlooaaDoor
