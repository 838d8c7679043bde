/- What the reference's AddMonths returns: the same as the package's. -/
import Derived.Test.YtnbfbkomgdnlnaaDoorCivR2
import Derived.StillTailTactics
namespace Go.Proofs.YtnbfbkomgdnlnaaDoor
open Go.RowKit
set_option linter.unusedVariables false

theorem DateAt.set2 {w : World} {b : Nat} {y m d : Int} (h : DateAt w b y m d) (d' : Int) : DateAt (w.setCell ⟨b, 2, none⟩ (.int .i64 d')) b y m d' :=
  ⟨by rw [World.cell?_setCell_other _ _ _ _ (by simp)]; exact h.1, by rw [World.cell?_setCell_other _ _ _ _ (by simp)]; exact h.2.1, World.cell?_setCell_same _ _ _ h.2.2⟩

set_option maxHeartbeats 3200000 in
theorem raddm_near (y m d n s : Int) (b : Bool) (w : World) (hv : Civ.vld y m d) (n1 : -4800 ≤ n) (n2 : n ≤ 4800)
    (hs : s = min d (Civ.dim (Civ.amY y m n) (Civ.amM y m n))) (hb : Civ.vldB (Civ.amY y m n) (Civ.amM y m n) s = b) :
    Calls Tryd.prog 12 #[.agg #[.int .i64 y, .int .i64 m, .int .i64 d], .int .i64 n] w fun e w' =>
      e = .returned (if b then .tuple #[.agg #[.int .i64 (Civ.amY y m n), .int .i64 (Civ.amM y m n), .int .i64 s], .int .i64 0] else .tuple #[.agg #[.int .i64 0, .int .i64 0, .int .i64 0], .int .i64 1]) ∧ Below w.heap.size w w' := by
  have hk : 10000 ≤ y * 12 + m - 1 + n ∧ y * 12 + m - 1 + n ≤ 40000 := by have := hv.1; have := hv.2.1; have := hv.2.2.1; have := hv.2.2.2.1; omega
  have HV := Lib.hid (Civ.vldB_iff.2 hv)
  have HB := Lib.hid hb
  have HS := Lib.hid hs
  have dd := Civ.dim_bd y m
  obtain ⟨v1, v2, v3, v4, v5, v6⟩ := hv
  have ds := Civ.dim_bd ((y * 12 + m - 1 + n) / 12) ((y * 12 + m - 1 + n) % 12 + 1)
  clear hb hs
  by_cases hmin : d ≤ Civ.dim ((y * 12 + m - 1 + n) / 12) ((y * 12 + m - 1 + n) % 12 + 1)
  · have hsd := Lib.hid (show s = d by rw [HS.out]; exact Int.min_eq_left hmin)
    have HB' := Lib.hid (show Civ.vldB ((y * 12 + m - 1 + n) / 12) ((y * 12 + m - 1 + n) % 12 + 1) d = b by rw [← hsd.out]; exact HB.out)
    cases b
    all_goals
      go_enter Tryd.func12, Tryd.ntmps12
      go_wp2_with fail
      refine (rvalid_is HV.out _ ⟨by omega, by omega⟩ ⟨by omega, by omega⟩ ⟨by omega, by omega⟩).mono ?_
      rintro e w1 ⟨rfl, hb1⟩
      have ⟨a0, a1, a2⟩ := ((DateAt.new w y m d 23).alloc (.cells #[.int .i64 0, .int .i64 0, .int .i64 0] 23)).below hb1
      have hz : w.heap.size + 1 < w1.heap.size := by have := hb1.size; simp at this; omega
      have hB1 : Below w.heap.size w w1 := (((Below.refl _ _).alloc (Nat.le_refl _) _).alloc (by simp) _).trans (hb1.mono (by simp; omega))
      obtain ⟨hc, hf⟩ := bcell hb1
      have f0 : w1.frozen? ⟨w.heap.size + 1, 0, none⟩ = false := by rw [hf _ _ (by simp)]; simp
      have f1 : w1.frozen? ⟨w.heap.size + 1, 1, none⟩ = false := by rw [hf _ _ (by simp)]; simp
      have f2 : w1.frozen? ⟨w.heap.size + 1, 2, none⟩ = false := by rw [hf _ _ (by simp)]; simp
      have e0 : w1.cell? ⟨w.heap.size + 1, 0, none⟩ = some (.int .i64 0) := by rw [hc _ _ (by simp)]; simp
      have e1 : w1.cell? ⟨w.heap.size + 1, 1, none⟩ = some (.int .i64 0) := by rw [hc _ _ (by simp)]; simp
      have e2 : w1.cell? ⟨w.heap.size + 1, 2, none⟩ = some (.int .i64 0) := by rw [hc _ _ (by simp)]; simp
      clear hc hf
      go_wp2_with fail
      refine wp_region_still_tail 9 (by kernel_rfl) (by kernel_rfl) ?_
      simp only [List.take_succ_cons, List.take_zero, List.drop_succ_cons, List.drop_zero]
      obtain ⟨w2, hw2⟩ : ∃ w2, w2 = (w1.alloc (.cells #[.int .i64 ((y * 12 + m - 1 + n) / 12), .int .i64 ((y * 12 + m - 1 + n) % 12 + 1), .int .i64 d] 23)).drew := ⟨_, rfl⟩
      have H2 := Lib.hid hw2
      have C2 : DateAt w2 w1.heap.size ((y * 12 + m - 1 + n) / 12) ((y * 12 + m - 1 + n) % 12 + 1) d := by rw [hw2]; exact (DateAt.new w1 _ _ _ _).drew
      have ⟨c0, c1, c2⟩ := C2
      have g2 : w2.frozen? ⟨w1.heap.size, 2, none⟩ = false := by rw [hw2]; show (w1.alloc _).frozen? _ = _; simp
      have hB2 : Below w1.heap.size w1 w2 := by rw [hw2]; exact ((Below.refl _ _).alloc (Nat.le_refl _) _).drew
      change wpStill _ _ (World.drew (w1.alloc _)) (fun a' => wpList _ _ _ _ a' (World.drew (w1.alloc _))) _ _
      rw [← hw2]
      clear hw2
      iterate 6 still_step
      refine wpStill_step (fun K hK => ?_)
      go_simp
      refine ⟨_, (rdim_any ((y * 12 + m - 1 + n) / 12) ((y * 12 + m - 1 + n) % 12 + 1) w2 (by omega) (by omega)).mono (fun _ _ h => ⟨h.1, h.2.symm⟩), hK _ ?_⟩
      clear hK K
      iterate 2 still_step
      refine wpStill_nil ?_
      go_wp2_with fail
      refine (rvalid_is HB'.out _ ⟨by omega, by omega⟩ ⟨by omega, by omega⟩ ⟨by omega, by omega⟩).mono ?_
      rintro e w3 ⟨rfl, hb3⟩
      have C3 := (C2.set2 (d)).below hb3
      have h13 : Below w1.heap.size w1 w3 := (hB2.setCell (Nat.le_refl _) _).trans (hb3.mono (by have := hB2.size; simpa using this))
      have hB3 := Lib.hid (bstep hB1 h13)
      have q0 := (h13.cell (p := ⟨w.heap.size + 1, 0, none⟩) hz).trans e0
      have q1 := (h13.cell (p := ⟨w.heap.size + 1, 1, none⟩) hz).trans e1
      have q2 := (h13.cell (p := ⟨w.heap.size + 1, 2, none⟩) hz).trans e2
      have p0 := (h13.frozen (p := ⟨w.heap.size + 1, 0, none⟩) hz).trans f0
      have p1 := (h13.frozen (p := ⟨w.heap.size + 1, 1, none⟩) hz).trans f1
      have p2 := (h13.frozen (p := ⟨w.heap.size + 1, 2, none⟩) hz).trans f2
      clear c0 c1 c2
      have ⟨c0, c1, c2⟩ := C3
      go_wp2_with fail
    · exact bodyPost_ret (v := .tuple #[.agg #[.int .i64 0, .int .i64 0, .int .i64 0], .int .i64 1]) (by simp [results, Tryd.results12, go_sem, q0, q1, q2]) rfl ⟨rfl, ((hB3.out.setCell (by simp) _).setCell (by simp) _).setCell (by simp) _⟩
    · exact bodyPost_ret (v := .tuple #[.agg #[.int .i64 ((y * 12 + m - 1 + n) / 12), .int .i64 ((y * 12 + m - 1 + n) % 12 + 1), .int .i64 (d)], .int .i64 0]) (by simp [results, Tryd.results12, go_sem, q0, q1, q2]) rfl ⟨ret_agg rfl rfl hsd.out.symm, ((hB3.out.setCell (by simp) _).setCell (by simp) _).setCell (by simp) _⟩
  · have hsd := Lib.hid (show s = (Civ.dim ((y * 12 + m - 1 + n) / 12) ((y * 12 + m - 1 + n) % 12 + 1)) by rw [HS.out]; exact Int.min_eq_right (by show (Civ.dim ((y * 12 + m - 1 + n) / 12) ((y * 12 + m - 1 + n) % 12 + 1)) ≤ d; omega))
    have HB' := Lib.hid (show Civ.vldB ((y * 12 + m - 1 + n) / 12) ((y * 12 + m - 1 + n) % 12 + 1) (Civ.dim ((y * 12 + m - 1 + n) / 12) ((y * 12 + m - 1 + n) % 12 + 1)) = b by rw [← hsd.out]; exact HB.out)
    cases b
    all_goals
      go_enter Tryd.func12, Tryd.ntmps12
      go_wp2_with fail
      refine (rvalid_is HV.out _ ⟨by omega, by omega⟩ ⟨by omega, by omega⟩ ⟨by omega, by omega⟩).mono ?_
      rintro e w1 ⟨rfl, hb1⟩
      have ⟨a0, a1, a2⟩ := ((DateAt.new w y m d 23).alloc (.cells #[.int .i64 0, .int .i64 0, .int .i64 0] 23)).below hb1
      have hz : w.heap.size + 1 < w1.heap.size := by have := hb1.size; simp at this; omega
      have hB1 : Below w.heap.size w w1 := (((Below.refl _ _).alloc (Nat.le_refl _) _).alloc (by simp) _).trans (hb1.mono (by simp; omega))
      obtain ⟨hc, hf⟩ := bcell hb1
      have f0 : w1.frozen? ⟨w.heap.size + 1, 0, none⟩ = false := by rw [hf _ _ (by simp)]; simp
      have f1 : w1.frozen? ⟨w.heap.size + 1, 1, none⟩ = false := by rw [hf _ _ (by simp)]; simp
      have f2 : w1.frozen? ⟨w.heap.size + 1, 2, none⟩ = false := by rw [hf _ _ (by simp)]; simp
      have e0 : w1.cell? ⟨w.heap.size + 1, 0, none⟩ = some (.int .i64 0) := by rw [hc _ _ (by simp)]; simp
      have e1 : w1.cell? ⟨w.heap.size + 1, 1, none⟩ = some (.int .i64 0) := by rw [hc _ _ (by simp)]; simp
      have e2 : w1.cell? ⟨w.heap.size + 1, 2, none⟩ = some (.int .i64 0) := by rw [hc _ _ (by simp)]; simp
      clear hc hf
      go_wp2_with fail
      refine wp_region_still_tail 9 (by kernel_rfl) (by kernel_rfl) ?_
      simp only [List.take_succ_cons, List.take_zero, List.drop_succ_cons, List.drop_zero]
      obtain ⟨w2, hw2⟩ : ∃ w2, w2 = (w1.alloc (.cells #[.int .i64 ((y * 12 + m - 1 + n) / 12), .int .i64 ((y * 12 + m - 1 + n) % 12 + 1), .int .i64 d] 23)).drew := ⟨_, rfl⟩
      have H2 := Lib.hid hw2
      have C2 : DateAt w2 w1.heap.size ((y * 12 + m - 1 + n) / 12) ((y * 12 + m - 1 + n) % 12 + 1) d := by rw [hw2]; exact (DateAt.new w1 _ _ _ _).drew
      have ⟨c0, c1, c2⟩ := C2
      have g2 : w2.frozen? ⟨w1.heap.size, 2, none⟩ = false := by rw [hw2]; show (w1.alloc _).frozen? _ = _; simp
      have hB2 : Below w1.heap.size w1 w2 := by rw [hw2]; exact ((Below.refl _ _).alloc (Nat.le_refl _) _).drew
      change wpStill _ _ (World.drew (w1.alloc _)) (fun a' => wpList _ _ _ _ a' (World.drew (w1.alloc _))) _ _
      rw [← hw2]
      clear hw2
      iterate 6 still_step
      refine wpStill_step (fun K hK => ?_)
      go_simp
      refine ⟨_, (rdim_any ((y * 12 + m - 1 + n) / 12) ((y * 12 + m - 1 + n) % 12 + 1) w2 (by omega) (by omega)).mono (fun _ _ h => ⟨h.1, h.2.symm⟩), hK _ ?_⟩
      clear hK K
      iterate 2 still_step
      refine wpStill_nil ?_
      go_wp2_with fail
      refine (rvalid_is HB'.out _ ⟨by omega, by omega⟩ ⟨by omega, by omega⟩ ⟨by omega, by omega⟩).mono ?_
      rintro e w3 ⟨rfl, hb3⟩
      have C3 := (C2.set2 ((Civ.dim ((y * 12 + m - 1 + n) / 12) ((y * 12 + m - 1 + n) % 12 + 1)))).below hb3
      have h13 : Below w1.heap.size w1 w3 := (hB2.setCell (Nat.le_refl _) _).trans (hb3.mono (by have := hB2.size; simpa using this))
      have hB3 := Lib.hid (bstep hB1 h13)
      have q0 := (h13.cell (p := ⟨w.heap.size + 1, 0, none⟩) hz).trans e0
      have q1 := (h13.cell (p := ⟨w.heap.size + 1, 1, none⟩) hz).trans e1
      have q2 := (h13.cell (p := ⟨w.heap.size + 1, 2, none⟩) hz).trans e2
      have p0 := (h13.frozen (p := ⟨w.heap.size + 1, 0, none⟩) hz).trans f0
      have p1 := (h13.frozen (p := ⟨w.heap.size + 1, 1, none⟩) hz).trans f1
      have p2 := (h13.frozen (p := ⟨w.heap.size + 1, 2, none⟩) hz).trans f2
      clear c0 c1 c2
      have ⟨c0, c1, c2⟩ := C3
      go_wp2_with fail
    · exact bodyPost_ret (v := .tuple #[.agg #[.int .i64 0, .int .i64 0, .int .i64 0], .int .i64 1]) (by simp [results, Tryd.results12, go_sem, q0, q1, q2]) rfl ⟨rfl, ((hB3.out.setCell (by simp) _).setCell (by simp) _).setCell (by simp) _⟩
    · exact bodyPost_ret (v := .tuple #[.agg #[.int .i64 ((y * 12 + m - 1 + n) / 12), .int .i64 ((y * 12 + m - 1 + n) % 12 + 1), .int .i64 ((Civ.dim ((y * 12 + m - 1 + n) / 12) ((y * 12 + m - 1 + n) % 12 + 1)))], .int .i64 0]) (by simp [results, Tryd.results12, go_sem, q0, q1, q2]) rfl ⟨ret_agg rfl rfl hsd.out.symm, ((hB3.out.setCell (by simp) _).setCell (by simp) _).setCell (by simp) _⟩

set_option maxHeartbeats 800000 in
theorem raddm_far (y m d n : Int) (w : World) (hv : Civ.vld y m d) (hn : n < -4800 ∨ 4800 < n) (i1 : -9223372036854775808 ≤ n) (i2 : n ≤ 9223372036854775807) :
    Calls Tryd.prog 12 #[.agg #[.int .i64 y, .int .i64 m, .int .i64 d], .int .i64 n] w fun e w' =>
      e = .returned (.tuple #[.agg #[.int .i64 0, .int .i64 0, .int .i64 0], .int .i64 1]) ∧ Below w.heap.size w w' := by
  have HV := Lib.hid (Civ.vldB_iff.2 hv)
  have dd := Civ.dim_bd y m
  obtain ⟨v1, v2, v3, v4, v5, v6⟩ := hv
  rcases hn with hn | hn
  all_goals
    go_enter Tryd.func12, Tryd.ntmps12
    go_wp2_with fail
    refine (rvalid_is HV.out _ ⟨by omega, by omega⟩ ⟨by omega, by omega⟩ ⟨by omega, by omega⟩).mono ?_
    rintro e w1 ⟨rfl, hb1⟩
    have hB : Below w.heap.size w w1 := (((Below.refl _ _).alloc (Nat.le_refl _) _).alloc (by simp) _).trans (hb1.mono (by simp; omega))
    obtain ⟨hc, hf⟩ := bcell hb1
    have f0 : w1.frozen? ⟨w.heap.size + 1, 0, none⟩ = false := by rw [hf _ _ (by simp)]; simp
    have f1 : w1.frozen? ⟨w.heap.size + 1, 1, none⟩ = false := by rw [hf _ _ (by simp)]; simp
    have f2 : w1.frozen? ⟨w.heap.size + 1, 2, none⟩ = false := by rw [hf _ _ (by simp)]; simp
    have e0 : w1.cell? ⟨w.heap.size + 1, 0, none⟩ = some (.int .i64 0) := by rw [hc _ _ (by simp)]; simp
    have e1 : w1.cell? ⟨w.heap.size + 1, 1, none⟩ = some (.int .i64 0) := by rw [hc _ _ (by simp)]; simp
    have e2 : w1.cell? ⟨w.heap.size + 1, 2, none⟩ = some (.int .i64 0) := by rw [hc _ _ (by simp)]; simp
    clear hc hf
    go_wp2_with fail
    exact bodyPost_ret (v := .tuple #[.agg #[.int .i64 0, .int .i64 0, .int .i64 0], .int .i64 1]) (by simp [results, Tryd.results12, go_sem, e0, e1, e2]) rfl ⟨rfl, ((hB.setCell (by simp) _).setCell (by simp) _).setCell (by simp) _⟩

set_option maxHeartbeats 800000 in
theorem raddm_bad (y m d n : Int) (w : World) (iy : I64 y) (im : I64 m) (id : I64 d) (hv : ¬ Civ.vld y m d) (i1 : -9223372036854775808 ≤ n) (i2 : n ≤ 9223372036854775807) :
    Calls Tryd.prog 12 #[.agg #[.int .i64 y, .int .i64 m, .int .i64 d], .int .i64 n] w fun e w' =>
      e = .returned (.tuple #[.agg #[.int .i64 0, .int .i64 0, .int .i64 0], .int .i64 1]) ∧ Below w.heap.size w w' := by
  have HV := Lib.hid (Civ.vldB_not.2 hv)
  all_goals
    go_enter Tryd.func12, Tryd.ntmps12
    go_wp2_with fail
    refine (rvalid_is HV.out _ iy im id).mono ?_
    rintro e w1 ⟨rfl, hb1⟩
    have hB : Below w.heap.size w w1 := (((Below.refl _ _).alloc (Nat.le_refl _) _).alloc (by simp) _).trans (hb1.mono (by simp; omega))
    obtain ⟨hc, hf⟩ := bcell hb1
    have f0 : w1.frozen? ⟨w.heap.size + 1, 0, none⟩ = false := by rw [hf _ _ (by simp)]; simp
    have f1 : w1.frozen? ⟨w.heap.size + 1, 1, none⟩ = false := by rw [hf _ _ (by simp)]; simp
    have f2 : w1.frozen? ⟨w.heap.size + 1, 2, none⟩ = false := by rw [hf _ _ (by simp)]; simp
    have e0 : w1.cell? ⟨w.heap.size + 1, 0, none⟩ = some (.int .i64 0) := by rw [hc _ _ (by simp)]; simp
    have e1 : w1.cell? ⟨w.heap.size + 1, 1, none⟩ = some (.int .i64 0) := by rw [hc _ _ (by simp)]; simp
    have e2 : w1.cell? ⟨w.heap.size + 1, 2, none⟩ = some (.int .i64 0) := by rw [hc _ _ (by simp)]; simp
    clear hc hf
    go_wp2_with fail
    exact bodyPost_ret (v := .tuple #[.agg #[.int .i64 0, .int .i64 0, .int .i64 0], .int .i64 1]) (by simp [results, Tryd.results12, go_sem, e0, e1, e2]) rfl ⟨rfl, ((hB.setCell (by simp) _).setCell (by simp) _).setCell (by simp) _⟩

theorem raddm_yes (y m d n : Int) (w : World) (hv : Civ.vld y m d) (h1 : 1970 ≤ Civ.amY y m n) (h2 : Civ.amY y m n ≤ 2240) :
    Calls Tryd.prog 12 #[.agg #[.int .i64 y, .int .i64 m, .int .i64 d], .int .i64 n] w fun e w' => e = .returned (.tuple #[.agg #[.int .i64 (Civ.amY y m n), .int .i64 (Civ.amM y m n), .int .i64 (min d (Civ.dim (Civ.amY y m n) (Civ.amM y m n)))], .int .i64 0]) ∧ Below w.heap.size w w' := by
  have hn : -3252 ≤ n ∧ n ≤ 3252 := by
    by_cases h : n < -3252 ∨ 3252 < n
    · have := Civ.am_far hv h; omega
    · omega
  exact (raddm_near y m d n _ true w hv (by omega) (by omega) rfl (Civ.vldB_iff.2 (Civ.am_vld (n := n) (m := m) hv.2.2.2.2.1 h1 h2))).mono fun e w' h => h
theorem raddm_no (y m d n : Int) (w : World) (iy : I64 y) (im : I64 m) (id : I64 d) (i1 : -9223372036854775808 ≤ n) (i2 : n ≤ 9223372036854775807)
    (h : ¬ (Civ.vld y m d ∧ 1970 ≤ Civ.amY y m n ∧ Civ.amY y m n ≤ 2240)) :
    Calls Tryd.prog 12 #[.agg #[.int .i64 y, .int .i64 m, .int .i64 d], .int .i64 n] w fun e w' =>
      e = .returned (.tuple #[.agg #[.int .i64 0, .int .i64 0, .int .i64 0], .int .i64 1]) ∧ Below w.heap.size w w' := by
  by_cases hv : Civ.vld y m d
  · by_cases hn : n < -4800 ∨ 4800 < n
    · exact raddm_far y m d n w hv hn i1 i2
    · exact (raddm_near y m d n _ false w hv (by omega) (by omega) rfl (Civ.vldB_not.2 (fun c => h ⟨hv, c.1, c.2.1⟩))).mono fun e w' h => h
  · exact raddm_bad y m d n w iy im id hv i1 i2
end Go.Proofs.YtnbfbkomgdnlnaaDoor
