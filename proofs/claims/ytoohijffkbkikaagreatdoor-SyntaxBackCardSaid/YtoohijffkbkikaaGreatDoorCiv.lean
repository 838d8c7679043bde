/- Plain facts on dates of the Gregorian calendar, over integers: years, months, weeks, and that a day has one date. No program is named here. -/
import Derived.KernelRfl
namespace Go.Proofs.YtoohijffkbkikaaGreatDoor
namespace Civ

/-- A year has a 29th of February. -/
def leapB (y : Int) : Bool := (y % 4 == 0) && ((y % 100 != 0) || (y % 400 == 0))
def lp (y : Int) : Int := if leapB y = true then 1 else 0
/-- The days of the years ahead of y, from 1970 on. -/
def ny (y : Int) : Int := (y - 1970) * 365 + ((y - 1) / 4 - (y - 1) / 100 + (y - 1) / 400) - 477
/-- The days of the months ahead of m. -/
def cum (y m : Int) : Int := if m ≤ 2 then 31 * (m - 1) else (153 * (m - 3) + 2) / 5 + 59 + lp y
/-- The days of a month; 0 for no month. -/
def dim (y m : Int) : Int := if m < 1 ∨ 12 < m then 0 else cum y (m + 1) - cum y m
def num (y m d : Int) : Int := ny y + cum y m + d - 1
def vld (y m d : Int) : Prop := 1970 ≤ y ∧ y ≤ 2240 ∧ 1 ≤ m ∧ m ≤ 12 ∧ 1 ≤ d ∧ d ≤ dim y m
def vldB (y m d : Int) : Bool := decide (1970 ≤ y) && decide (y ≤ 2240) && decide (1 ≤ m) && decide (m ≤ 12) && decide (1 ≤ d) && decide (d ≤ dim y m)
/-- The weekday: 0 is Monday. -/
def wd (n : Int) : Int := (n + 3) % 7

theorem vldB_iff {y m d : Int} : vldB y m d = true ↔ vld y m d := by
  unfold vldB vld; simp [and_assoc]
theorem vldB_not {y m d : Int} : vldB y m d = false ↔ ¬ vld y m d := by
  rw [← vldB_iff]; simp

theorem vldB_last {y m d : Int} (h1 : 1970 ≤ y) (h2 : y ≤ 2240) (h3 : 1 ≤ d) : vldB y m d = decide (d ≤ dim y m) := by
  rw [Bool.eq_iff_iff, vldB_iff, decide_eq_true_iff]
  refine ⟨fun h => h.2.2.2.2.2, fun h => ?_⟩
  by_cases hm : 1 ≤ m ∧ m ≤ 12
  · exact ⟨h1, h2, hm.1, hm.2, h3, h⟩
  · unfold dim at h; rw [if_pos (by omega)] at h; omega
theorem leap_iff (y : Int) : leapB y = true ↔ y % 4 = 0 ∧ (y % 100 ≠ 0 ∨ y % 400 = 0) := by
  unfold leapB; simp
theorem lp_01 (y : Int) : 0 ≤ lp y ∧ lp y ≤ 1 := by unfold lp; split <;> omega
theorem lp_yes {y : Int} (h : leapB y = true) : lp y = 1 := by unfold lp; rw [if_pos h]
theorem lp_no {y : Int} (h : leapB y = false) : lp y = 0 := by unfold lp; rw [if_neg (by rw [h]; decide)]
theorem ny_succ (y : Int) : ny (y + 1) = ny y + 365 + lp y := by
  by_cases h : leapB y = true
  · rw [lp_yes h]
    rw [leap_iff] at h
    unfold ny; omega
  · have h' : leapB y = false := by simpa using h
    rw [lp_no h']
    rw [leap_iff] at h
    unfold ny; omega
theorem ny_mono {a b : Int} (h : a ≤ b) : ny a ≤ ny b := by unfold ny; omega
theorem ny_lt {a b : Int} (h : a < b) : ny a + 365 ≤ ny b := by
  have := ny_succ a; have := lp_01 a; have := ny_mono (show a + 1 ≤ b by omega); omega
theorem ny_1970 : ny 1970 = 0 := by decide
theorem ny_2241 : ny 2241 = 98981 := by decide

theorem dim_of {y m : Int} (h1 : 1 ≤ m) (h2 : m ≤ 12) : dim y m = if m = 2 then 28 + lp y else if m = 4 ∨ m = 6 ∨ m = 9 ∨ m = 11 then 30 else 31 := by
  unfold dim; rw [if_neg (by omega)]; unfold cum
  have : m = 1 ∨ m = 2 ∨ m = 3 ∨ m = 4 ∨ m = 5 ∨ m = 6 ∨ m = 7 ∨ m = 8 ∨ m = 9 ∨ m = 10 ∨ m = 11 ∨ m = 12 := by omega
  rcases this with rfl | rfl | rfl | rfl | rfl | rfl | rfl | rfl | rfl | rfl | rfl | rfl <;> simp <;> omega
theorem dim_out {y m : Int} (h : m < 1 ∨ 12 < m) : dim y m = 0 := by unfold dim; rw [if_pos h]
theorem dim_bd (y m : Int) : 0 ≤ dim y m ∧ dim y m ≤ 31 := by
  by_cases h : m < 1 ∨ 12 < m
  · rw [dim_out h]; omega
  · rw [dim_of (by omega) (by omega)]; have := lp_01 y
    repeat (split <;> try omega)
theorem dim_lo {y m : Int} (h1 : 1 ≤ m) (h2 : m ≤ 12) : 28 ≤ dim y m := by
  rw [dim_of h1 h2]; have := lp_01 y
  repeat (split <;> try omega)
theorem cum_succ {y m : Int} (h1 : 1 ≤ m) (h2 : m ≤ 12) : cum y (m + 1) = cum y m + dim y m := by
  unfold dim; rw [if_neg (by omega)]; omega
theorem cum_1 (y : Int) : cum y 1 = 0 := by unfold cum; simp
theorem cum_13 (y : Int) : cum y 13 = 365 + lp y := by unfold cum; rw [if_neg (by decide)]; omega
theorem cum_mono {y a b : Int} (h1 : 1 ≤ a) (h : a ≤ b) : cum y a ≤ cum y b := by
  have := lp_01 y
  unfold cum; split <;> split <;> omega
theorem cum_bd {y m : Int} (h1 : 1 ≤ m) (h2 : m ≤ 13) : 0 ≤ cum y m ∧ cum y m ≤ 366 := by
  have a := cum_mono (y := y) (a := 1) (b := m) (by omega) h1
  have b := cum_mono (y := y) (a := m) (b := 13) h1 h2
  rw [cum_1] at a; rw [cum_13] at b; have := lp_01 y; omega
theorem ny_bd {y : Int} (h1 : 1970 ≤ y) (h2 : y ≤ 2241) : 0 ≤ ny y ∧ ny y ≤ 98981 := by
  have a := ny_mono h1; have b := ny_mono h2; rw [ny_1970] at a; rw [ny_2241] at b; omega

/-- A valid date lies in its year and in its month. -/
theorem num_bd {y m d : Int} (h : vld y m d) : ny y + cum y m ≤ num y m d ∧ num y m d < ny y + cum y (m + 1) ∧ ny y ≤ num y m d ∧ num y m d < ny (y + 1) ∧ 0 ≤ num y m d ∧ num y m d < 98981 := by
  obtain ⟨h1, h2, h3, h4, h5, h6⟩ := h
  have e := cum_succ (y := y) h3 h4
  have a := cum_mono (y := y) (a := m + 1) (b := 13) (by omega) (by omega)
  have b := cum_bd (y := y) h3 (show m ≤ 13 by omega)
  have c := ny_succ y
  have f := ny_bd (show 1970 ≤ y + 1 by omega) (show y + 1 ≤ 2241 by omega)
  have g := ny_bd h1 (show y ≤ 2241 by omega)
  rw [cum_13] at a
  unfold num; omega
theorem year_uniq {n y y' : Int} (a : ny y ≤ n) (b : n < ny (y + 1)) (a' : ny y' ≤ n) (b' : n < ny (y' + 1)) : y = y' := by
  rcases Int.lt_trichotomy y y' with h | h | h
  · have := ny_mono (show y + 1 ≤ y' by omega); omega
  · exact h
  · have := ny_mono (show y' + 1 ≤ y by omega); omega
theorem month_uniq {y n m m' : Int} (h : 1 ≤ m) (h' : 1 ≤ m') (a : cum y m ≤ n) (b : n < cum y (m + 1)) (a' : cum y m' ≤ n) (b' : n < cum y (m' + 1)) : m = m' := by
  rcases Int.lt_trichotomy m m' with g | g | g
  · have := cum_mono (y := y) (show 1 ≤ m + 1 by omega) (show m + 1 ≤ m' by omega); omega
  · exact g
  · have := cum_mono (y := y) (show 1 ≤ m' + 1 by omega) (show m' + 1 ≤ m by omega); omega
theorem date_uniq {y m d y' m' d' : Int} (h : vld y m d) (h' : vld y' m' d') (e : num y m d = num y' m' d') : y = y' ∧ m = m' ∧ d = d' := by
  have a := num_bd h
  have a' := num_bd h'
  rw [← e] at a'
  obtain rfl := year_uniq a.2.2.1 a.2.2.2.1 a'.2.2.1 a'.2.2.2.1
  obtain rfl := month_uniq (y := y) (n := num y m d - ny y) h.2.2.1 h'.2.2.1 (by omega) (by omega) (by omega) (by omega)
  unfold num at e
  exact ⟨rfl, rfl, by omega⟩

theorem wd_bd (n : Int) : 0 ≤ wd n ∧ wd n ≤ 6 := by unfold wd; omega
theorem wd_succ (n : Int) : wd (n + 1) = (wd n + 1) % 7 := by unfold wd; omega

/-- Go's remainder of a number of whatever sign: 0 just where Lean's is. -/
theorem tmod_zero (y k : Int) : (y.tmod k = 0) = (y % k = 0) := by
  rw [propext (Int.dvd_iff_tmod_eq_zero (a := k) (b := y)).symm, propext (Int.dvd_iff_emod_eq_zero (a := k) (b := y)).symm]
theorem tmod_eqB (y k : Int) : (y.tmod k == 0) = (y % k == 0) := by
  rw [Bool.eq_iff_iff]; simp [tmod_zero]
theorem tmod_bd (y k : Int) (hk : 0 < k) : -k < y.tmod k ∧ y.tmod k < k := by
  have a := Int.tmod_lt_of_pos y hk
  have b := Int.lt_tmod_of_pos y hk
  exact ⟨b, a⟩
theorem wd_code (n : Int) : (n.tmod 7 + 7 + 3) % 7 = wd n := by
  unfold wd
  have e : n.tmod 7 = n - 7 * (n.tdiv 7) := by have := Int.tmod_add_mul_tdiv n 7; omega
  rw [e]; omega
theorem wd_code10 (n : Int) : (n.tmod 7 + 10) % 7 = wd n := by
  rw [← wd_code]; congr 1; omega
theorem mod_code (n k : Int) : (n.tmod k + k) % k = n % k := by
  have e := Int.tmod_add_mul_tdiv n k
  have h : n % k = (n.tmod k + k * n.tdiv k) % k := by rw [e]
  rw [h, Int.add_mul_emod_self_left, Int.add_emod_right]
theorem leap_code (y : Int) {b : Bool} (h : (y.tmod 4 = 0 ∧ y.tmod 100 = 0 ∧ b = (y.tmod 400 == 0)) ∨ (y.tmod 4 = 0 ∧ ¬ y.tmod 100 = 0 ∧ b = true) ∨ (¬ y.tmod 4 = 0 ∧ b = false)) : b = leapB y := by
  rw [tmod_zero, tmod_zero, tmod_eqB] at h
  unfold leapB
  rcases h with ⟨a, c, rfl⟩ | ⟨a, c, rfl⟩ | ⟨a, rfl⟩ <;> simp_all
/-- The year of a day. -/
def yo (n : Int) : Int := if ny (1970 + n / 366 + 1) ≤ n then 1970 + n / 366 + 1 else 1970 + n / 366
theorem yo_guess (n : Int) (h1 : 0 ≤ n) (h2 : n < 98981) : 1970 ≤ 1970 + n / 366 ∧ 1970 + n / 366 ≤ 2240 ∧ ny (1970 + n / 366) ≤ n ∧ n < ny (1970 + n / 366 + 2) := by
  unfold ny; omega
theorem yo_ok (n : Int) (h1 : 0 ≤ n) (h2 : n < 98981) : 1970 ≤ yo n ∧ yo n ≤ 2240 ∧ ny (yo n) ≤ n ∧ n < ny (yo n + 1) := by
  obtain ⟨a, b, c, d⟩ := yo_guess n h1 h2
  unfold yo
  split
  · rename_i h
    refine ⟨by omega, ?_, h, by rw [show 1970 + n / 366 + 1 + 1 = 1970 + n / 366 + 2 by omega]; exact d⟩
    by_cases e : 1970 + n / 366 = 2240
    · rw [e, show (2240 : Int) + 1 = 2241 from rfl, ny_2241] at h; omega
    · omega
  · rename_i h
    exact ⟨a, b, c, by omega⟩
theorem yo_of {n y : Int} (a : ny y ≤ n) (b : n < ny (y + 1)) (h1 : 0 ≤ n) (h2 : n < 98981) : yo n = y :=
  year_uniq (yo_ok n h1 h2).2.2.1 (yo_ok n h1 h2).2.2.2 a b
theorem month_ex (y r : Int) (h0 : 0 ≤ r) (k : Nat) (hk : k ≤ 12) (h : r < cum y (k + 1)) : ∃ m : Int, 1 ≤ m ∧ m ≤ k ∧ cum y m ≤ r ∧ r < cum y (m + 1) := by
  induction k with
  | zero => rw [show ((0 : Nat) : Int) + 1 = 1 from rfl, cum_1] at h; omega
  | succ k ih =>
    by_cases c : cum y (k + 1) ≤ r
    · exact ⟨k + 1, by omega, by omega, c, by simpa using h⟩
    · obtain ⟨m, a, b, e, f⟩ := ih (by omega) (by omega)
      exact ⟨m, a, by omega, e, f⟩
/-- Each day from 0 to the last one has a date. -/
theorem date_ex (n : Int) (h1 : 0 ≤ n) (h2 : n < 98981) : ∃ y m d : Int, vld y m d ∧ num y m d = n := by
  obtain ⟨a, b, c, e⟩ := yo_ok n h1 h2
  have s := ny_succ (yo n)
  obtain ⟨m, m1, m2, m3, m4⟩ := month_ex (yo n) (n - ny (yo n)) (by omega) 12 (by omega) (by rw [show ((12 : Nat) : Int) + 1 = 13 from rfl, cum_13]; omega)
  have k := cum_succ (y := yo n) m1 (by omega)
  exact ⟨yo n, m, n - ny (yo n) - cum (yo n) m + 1, ⟨a, b, m1, by omega, by omega, by omega⟩, by unfold num; omega⟩
theorem next_date {y m d y2 m2 d2 : Int} (h : vld y m d) (h2 : vld y2 m2 d2) (e : num y2 m2 d2 = num y m d + 1) :
    (d < dim y m ∧ y2 = y ∧ m2 = m ∧ d2 = d + 1) ∨ (d = dim y m ∧ m < 12 ∧ y2 = y ∧ m2 = m + 1 ∧ d2 = 1) ∨ (d = dim y 12 ∧ m = 12 ∧ y2 = y + 1 ∧ m2 = 1 ∧ d2 = 1) := by
  obtain ⟨a1, a2, a3, a4, a5, a6⟩ := h
  by_cases c : d < dim y m
  · have u := date_uniq h2 (show vld y m (d + 1) from ⟨a1, a2, a3, a4, by omega, by omega⟩) (by rw [e]; unfold num; omega)
    exact .inl ⟨c, u⟩
  · by_cases k : m < 12
    · have s := cum_succ (y := y) a3 a4
      have lo := dim_lo (y := y) (m := m + 1) (by omega) (by omega)
      have u := date_uniq h2 (show vld y (m + 1) 1 from ⟨a1, a2, by omega, by omega, by omega, by omega⟩) (by rw [e]; unfold num; omega)
      exact .inr (.inl ⟨by omega, k, u⟩)
    · obtain rfl : m = 12 := by omega
      have s := cum_succ (y := y) (m := 12) (by omega) (by omega)
      rw [show (12 : Int) + 1 = 13 from rfl, cum_13] at s
      have sy := ny_succ y
      have lo := dim_lo (y := y + 1) (m := 1) (by omega) (by omega)
      have hy : y + 1 ≤ 2240 := by
        by_cases e0 : y = 2240
        · have b := (num_bd h2).2.2.2.2.2
          rw [e] at b
          have n1 := ny_2241
          rw [show (2241 : Int) = y + 1 by omega, sy] at n1
          unfold num at b
          omega
        · omega
      have u := date_uniq h2 (show vld (y + 1) 1 1 from ⟨by omega, hy, by omega, by omega, by omega, by omega⟩) (by rw [e]; unfold num; rw [cum_1]; omega)
      exact .inr (.inr ⟨by omega, rfl, u⟩)
theorem ryear (y : Int) (_h : 1970 ≤ y) : (y - 1970) * 365 + (y - 1969) / 4 - (y - 1901) / 100 + (y - 1601) / 400 = ny y := by
  unfold ny; omega
/-- The Thursday of a day's week. -/
def mid (n : Int) : Int := n - wd n + 3
theorem mid_bd {n : Int} (h1 : 0 ≤ n) (h2 : n < 98981) : 0 ≤ mid n ∧ mid n < 98981 := by unfold mid wd; omega
def wkY (n : Int) : Int := yo (mid n)
def wkW (n : Int) : Int := (mid n - ny (yo (mid n))) / 7 + 1
/-- The day of the k-th weekday v of a month of len days that begins at the day first. -/
def nthD (first len k v : Int) : Int := if first + len ≤ first + (v - wd first) % 7 + (k - 1) * 7 then first + (v - wd first) % 7 + (k - 1) * 7 - 7 else first + (v - wd first) % 7 + (k - 1) * 7
def amY (y m n : Int) : Int := (y * 12 + m - 1 + n) / 12
def amM (y m n : Int) : Int := (y * 12 + m - 1 + n) % 12 + 1
theorem amM_bd (y m n : Int) : 1 ≤ amM y m n ∧ amM y m n ≤ 12 := by unfold amM; omega
theorem am_vld {y m n d : Int} (hd : 1 ≤ d) (h1 : 1970 ≤ amY y m n) (h2 : amY y m n ≤ 2240) : vld (amY y m n) (amM y m n) (min d (dim (amY y m n) (amM y m n))) := by
  have a := amM_bd y m n
  have b := dim_lo (y := amY y m n) a.1 a.2
  exact ⟨h1, h2, a.1, a.2, by omega, by omega⟩
theorem am_far {y m n d : Int} (hv : vld y m d) (h : n < -3252 ∨ 3252 < n) : amY y m n < 1970 ∨ 2240 < amY y m n := by
  obtain ⟨a, b, c, e, _⟩ := hv
  unfold amY; omega
theorem am_near {y m n d : Int} (hv : vld y m d) (h1 : -3252 ≤ n) (h2 : n ≤ 3252) : 20000 ≤ y * 12 + m - 1 + n ∧ y * 12 + m - 1 + n ≤ 31000 ∧ 1000 ≤ amY y m n ∧ amY y m n ≤ 3000 := by
  obtain ⟨a, b, c, e, _⟩ := hv
  unfold amY; omega
end Civ
end Go.Proofs.YtoohijffkbkikaaGreatDoor
