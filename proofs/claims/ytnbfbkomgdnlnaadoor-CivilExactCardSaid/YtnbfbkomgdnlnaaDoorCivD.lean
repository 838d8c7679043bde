/- What package civil's Nth returns, and AddMonths where its date or its result is not valid. -/
import Derived.Test.YtnbfbkomgdnlnaaDoorCivC
namespace Go.Proofs.YtnbfbkomgdnlnaaDoor
open Go.RowKit
set_option linter.unusedVariables false

set_option maxHeartbeats 400000 in
theorem addm_far (y m d n : Int) (w : World) (hT : CivT w) (hv : Civ.vld y m d) (i1 : -9223372036854775808 ≤ n) (i2 : n ≤ 9223372036854775807) (hn : n < -3252 ∨ 3252 < n) :
    Calls Tryd.prog 11 #[.agg #[.int .i64 y, .int .i64 m, .int .i64 d], .int .i64 n] w fun e w' =>
      e = .returned (.tuple #[.agg #[.int .i64 0, .int .i64 0, .int .i64 0], .int .i64 1]) ∧ Below w.heap.size w w' := by
  have HV := Lib.hid (Civ.vldB_iff.2 hv)
  have dd := Civ.dim_bd y m
  obtain ⟨v1, v2, v3, v4, v5, v6⟩ := hv
  rcases hn with hn | hn
  all_goals
    go_enter Tryd.func11, Tryd.ntmps11
    go_wp2_with fail
    refine (valid_is HV.out _ ((hT.alloc _).alloc _) ⟨by omega, by omega⟩ ⟨by omega, by omega⟩ ⟨by omega, by omega⟩).mono ?_
    rintro e w1 ⟨rfl, hb1⟩
    have hB : Below w.heap.size w w1 := (((Below.refl _ _).alloc (Nat.le_refl _) _).alloc (by simp) _).trans (hb1.mono (by simp; omega))
    obtain ⟨hc, hf⟩ := bcell hb1
    have f0 : w1.frozen? ⟨w.heap.size + 1, 0, none⟩ = false := by rw [hf _ _ (by simp)]; simp
    have f1 : w1.frozen? ⟨w.heap.size + 1, 1, none⟩ = false := by rw [hf _ _ (by simp)]; simp
    have f2 : w1.frozen? ⟨w.heap.size + 1, 2, none⟩ = false := by rw [hf _ _ (by simp)]; simp
    have e0 : w1.cell? ⟨w.heap.size + 1, 0, none⟩ = some (.int .i64 0) := by rw [hc _ _ (by simp)]; simp
    have e1 : w1.cell? ⟨w.heap.size + 1, 1, none⟩ = some (.int .i64 0) := by rw [hc _ _ (by simp)]; simp
    have e2 : w1.cell? ⟨w.heap.size + 1, 2, none⟩ = some (.int .i64 0) := by rw [hc _ _ (by simp)]; simp
    clear hc hf
    go_wp2_with fail
    exact bodyPost_ret (v := .tuple #[.agg #[.int .i64 0, .int .i64 0, .int .i64 0], .int .i64 1]) (by simp [results, Tryd.results11, go_sem, e0, e1, e2]) rfl ⟨rfl, ((hB.setCell (by simp) _).setCell (by simp) _).setCell (by simp) _⟩

set_option maxHeartbeats 400000 in
theorem addm_bad (y m d n : Int) (w : World) (hT : CivT w) (iy : I64 y) (im : I64 m) (id : I64 d) (i1 : -9223372036854775808 ≤ n) (i2 : n ≤ 9223372036854775807) (hv : ¬ Civ.vld y m d) :
    Calls Tryd.prog 11 #[.agg #[.int .i64 y, .int .i64 m, .int .i64 d], .int .i64 n] w fun e w' =>
      e = .returned (.tuple #[.agg #[.int .i64 0, .int .i64 0, .int .i64 0], .int .i64 1]) ∧ Below w.heap.size w w' := by
  have HV := Lib.hid (Civ.vldB_not.2 hv)
  go_enter Tryd.func11, Tryd.ntmps11
  go_wp2_with fail
  refine (valid_is HV.out _ ((hT.alloc _).alloc _) iy im id).mono ?_
  rintro e w1 ⟨rfl, hb1⟩
  have hB : Below w.heap.size w w1 := (((Below.refl _ _).alloc (Nat.le_refl _) _).alloc (by simp) _).trans (hb1.mono (by simp; omega))
  obtain ⟨hc, hf⟩ := bcell hb1
  have f0 : w1.frozen? ⟨w.heap.size + 1, 0, none⟩ = false := by rw [hf _ _ (by simp)]; simp
  have f1 : w1.frozen? ⟨w.heap.size + 1, 1, none⟩ = false := by rw [hf _ _ (by simp)]; simp
  have f2 : w1.frozen? ⟨w.heap.size + 1, 2, none⟩ = false := by rw [hf _ _ (by simp)]; simp
  have e0 : w1.cell? ⟨w.heap.size + 1, 0, none⟩ = some (.int .i64 0) := by rw [hc _ _ (by simp)]; simp
  have e1 : w1.cell? ⟨w.heap.size + 1, 1, none⟩ = some (.int .i64 0) := by rw [hc _ _ (by simp)]; simp
  have e2 : w1.cell? ⟨w.heap.size + 1, 2, none⟩ = some (.int .i64 0) := by rw [hc _ _ (by simp)]; simp
  clear hc hf
  go_wp2_with fail
  exact bodyPost_ret (v := .tuple #[.agg #[.int .i64 0, .int .i64 0, .int .i64 0], .int .i64 1]) (by simp [results, Tryd.results11, go_sem, e0, e1, e2]) rfl ⟨rfl, ((hB.setCell (by simp) _).setCell (by simp) _).setCell (by simp) _⟩

/-- Whether n months after a date is a valid date. -/
theorem addm_yes (y m d n : Int) (w : World) (hT : CivT w) (hv : Civ.vld y m d) (h1 : 1970 ≤ Civ.amY y m n) (h2 : Civ.amY y m n ≤ 2240) :
    Calls Tryd.prog 11 #[.agg #[.int .i64 y, .int .i64 m, .int .i64 d], .int .i64 n] w fun e w' => e = .returned (.tuple #[.agg #[.int .i64 (Civ.amY y m n), .int .i64 (Civ.amM y m n), .int .i64 (min d (Civ.dim (Civ.amY y m n) (Civ.amM y m n)))], .int .i64 0]) ∧ Below w.heap.size w w' := by
  have n1 : -3252 ≤ n := by
    by_cases h : n < -3252
    · have := Civ.am_far hv (.inl h); omega
    · omega
  have n2 : n ≤ 3252 := by
    by_cases h : 3252 < n
    · have := Civ.am_far hv (.inr h); omega
    · omega
  exact (addm_near y m d n _ true w hT hv n1 n2 rfl (Civ.vldB_iff.2 (Civ.am_vld (n := n) (m := m) hv.2.2.2.2.1 h1 h2))).mono fun e w' h => h
theorem addm_no (y m d n : Int) (w : World) (hT : CivT w) (iy : I64 y) (im : I64 m) (id : I64 d) (i1 : -9223372036854775808 ≤ n) (i2 : n ≤ 9223372036854775807)
    (h : ¬ (Civ.vld y m d ∧ 1970 ≤ Civ.amY y m n ∧ Civ.amY y m n ≤ 2240)) :
    Calls Tryd.prog 11 #[.agg #[.int .i64 y, .int .i64 m, .int .i64 d], .int .i64 n] w fun e w' =>
      e = .returned (.tuple #[.agg #[.int .i64 0, .int .i64 0, .int .i64 0], .int .i64 1]) ∧ Below w.heap.size w w' := by
  by_cases hv : Civ.vld y m d
  · by_cases hn : n < -3252 ∨ 3252 < n
    · exact addm_far y m d n w hT hv i1 i2 hn
    · exact (addm_near y m d n _ false w hT hv (by omega) (by omega) rfl (Civ.vldB_not.2 (fun c => h ⟨hv, c.1, c.2.1⟩))).mono fun e w' h => h
  · exact addm_bad y m d n w hT iy im id i1 i2 hv

set_option maxHeartbeats 800000 in
theorem nth_yes (y m k v : Int) (w : World) (hT : CivT w) (hv : Civ.vld y m 1) (k1 : 1 ≤ k) (k2 : k ≤ 5) (v1 : 0 ≤ v) (v2 : v ≤ 6) :
    Calls Tryd.prog 21 #[.int .i64 y, .int .i64 m, .int .i64 k, .int .i64 v] w fun e w' => e = .returned (.tuple #[.int .i64 (Civ.nthD (Civ.num y m 1) (Civ.dim y m) k v), .int .i64 0]) ∧ Below w.heap.size w w' := by
  have nb := (Civ.num_bd hv).2.2.2.2
  have db := Civ.dim_bd y m
  have wb := Civ.wd_bd (Civ.num y m 1)
  have HV := hv
  obtain ⟨y1, y2, m1, m2, _, _⟩ := hv
  by_cases hc : Civ.num y m 1 + Civ.dim y m ≤ Civ.num y m 1 + (v - Civ.wd (Civ.num y m 1)) % 7 + (k - 1) * 7
  · have hd := Lib.hid (show Civ.nthD (Civ.num y m 1) (Civ.dim y m) k v = Civ.num y m 1 + (v - Civ.wd (Civ.num y m 1)) % 7 + (k - 1) * 7 - 7 by unfold Civ.nthD; rw [if_pos hc])
    go_enter Tryd.func21, Tryd.ntmps21
    go_wp2_with fail
    refine (day_yes y m 1 _ hT HV).mono ?_
    rintro e w1 ⟨rfl, hb⟩
    have hT1 := hT.below hb
    go_wp2_with fail
    refine (wday_any _ _ (by omega) (by omega)).mono ?_
    rintro e w' ⟨rfl, rfl⟩
    go_wp2_with fail
    refine (dim_any _ _ _ hT1 (by omega) (by omega) (by omega) (by omega)).mono ?_
    rintro e w' ⟨rfl, rfl⟩
    go_wp2_with fail
    go_ret2
    exact ⟨ret_pair hd.out.symm, hb⟩
  · have hd := Lib.hid (show Civ.nthD (Civ.num y m 1) (Civ.dim y m) k v = Civ.num y m 1 + (v - Civ.wd (Civ.num y m 1)) % 7 + (k - 1) * 7 by unfold Civ.nthD; rw [if_neg hc])
    go_enter Tryd.func21, Tryd.ntmps21
    go_wp2_with fail
    refine (day_yes y m 1 _ hT HV).mono ?_
    rintro e w1 ⟨rfl, hb⟩
    have hT1 := hT.below hb
    go_wp2_with fail
    refine (wday_any _ _ (by omega) (by omega)).mono ?_
    rintro e w' ⟨rfl, rfl⟩
    go_wp2_with fail
    refine (dim_any _ _ _ hT1 (by omega) (by omega) (by omega) (by omega)).mono ?_
    rintro e w' ⟨rfl, rfl⟩
    go_wp2_with fail
    go_ret2
    exact ⟨ret_pair hd.out.symm, hb⟩

set_option maxHeartbeats 800000 in
theorem nth_bad (y m k v : Int) (w : World) (hT : CivT w) (iy : I64 y) (im : I64 m) (hv : ¬ Civ.vld y m 1) :
    Calls Tryd.prog 21 #[.int .i64 y, .int .i64 m, .int .i64 k, .int .i64 v] w fun e w' => e = .returned (.tuple #[.int .i64 0, .int .i64 1]) ∧ Below w.heap.size w w' := by
  go_enter Tryd.func21, Tryd.ntmps21
  go_wp2_with fail
  refine (day_no y m 1 _ hT iy im ⟨by omega, by omega⟩ hv).mono ?_
  rintro e w1 ⟨rfl, hb⟩
  go_wp2_with fail
  go_ret2
  exact ⟨rfl, hb⟩
set_option maxHeartbeats 800000 in
theorem nth_out (y m k v : Int) (w : World) (hT : CivT w) (hv : Civ.vld y m 1) (h : k < 1 ∨ (1 ≤ k ∧ 5 < k) ∨ (1 ≤ k ∧ k ≤ 5 ∧ v < 0) ∨ (1 ≤ k ∧ k ≤ 5 ∧ 0 ≤ v ∧ 7 ≤ v)) :
    Calls Tryd.prog 21 #[.int .i64 y, .int .i64 m, .int .i64 k, .int .i64 v] w fun e w' => e = .returned (.tuple #[.int .i64 0, .int .i64 1]) ∧ Below w.heap.size w w' := by
  rcases h with h | ⟨h1, h⟩ | ⟨h1, h2, h⟩ | ⟨h1, h2, h3, h⟩
  all_goals
    go_enter Tryd.func21, Tryd.ntmps21
    go_wp2_with fail
    refine (day_yes y m 1 _ hT hv).mono ?_
    rintro e w1 ⟨rfl, hb⟩
    go_wp2_with fail
    go_ret2
    exact ⟨rfl, hb⟩
theorem nth_no (y m k v : Int) (w : World) (hT : CivT w) (iy : I64 y) (im : I64 m) (h : ¬ (Civ.vld y m 1 ∧ 1 ≤ k ∧ k ≤ 5 ∧ 0 ≤ v ∧ v ≤ 6)) :
    Calls Tryd.prog 21 #[.int .i64 y, .int .i64 m, .int .i64 k, .int .i64 v] w fun e w' => e = .returned (.tuple #[.int .i64 0, .int .i64 1]) ∧ Below w.heap.size w w' := by
  by_cases hv : Civ.vld y m 1
  · exact nth_out y m k v w hT hv (by have : ¬ (1 ≤ k ∧ k ≤ 5 ∧ 0 ≤ v ∧ v ≤ 6) := fun c => h ⟨hv, c⟩; omega)
  · exact nth_bad y m k v w hT iy im hv
end Go.Proofs.YtnbfbkomgdnlnaaDoor
