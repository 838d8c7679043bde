/- What package civil's Week, Nth and AddMonths return. -/
import Derived.Test.YtnbfbkomgdnlnaaDoorCivB
import Derived.Deep.RegionWith
import Derived.Deep.RegionHeld3
namespace Go.Proofs.YtnbfbkomgdnlnaaDoor
open Go.RowKit
set_option linter.unusedVariables false

set_option maxHeartbeats 400000 in
theorem week_no (y m d : Int) (w : World) (hT : CivT w) (iy : I64 y) (im : I64 m) (id : I64 d) (hv : ¬ Civ.vld y m d) :
    Calls Tryd.prog 13 #[.agg #[.int .i64 y, .int .i64 m, .int .i64 d]] w fun e w' => e = .returned (.tuple #[.int .i64 0, .int .i64 0, .int .i64 1]) ∧ Below w.heap.size w w' := by
  go_enter Tryd.func13, Tryd.ntmps13
  go_wp2_with fail
  refine (day_no y m d _ (hT.alloc _) iy im id hv).mono ?_
  rintro e w1 ⟨rfl, hb⟩
  go_wp2_with fail
  go_ret3
  exact ⟨rfl, ((Below.refl _ _).alloc (Nat.le_refl _) _).trans (hb.mono (by simp))⟩

set_option maxHeartbeats 400000 in
theorem week_yes (y m d n : Int) (w : World) (hT : CivT w) (hv : Civ.vld y m d) (hn : Civ.num y m d = n) :
    Calls Tryd.prog 13 #[.agg #[.int .i64 y, .int .i64 m, .int .i64 d]] w fun e w' => e = .returned (.tuple #[.int .i64 (Civ.wkY n), .int .i64 (Civ.wkW n), .int .i64 0]) ∧ Below w.heap.size w w' := by
  have nb := Civ.num_bd hv
  rw [hn] at nb
  have HN := Lib.hid hn
  clear hn
  have mb := Civ.mid_bd nb.2.2.2.2.1 nb.2.2.2.2.2
  have wb := Civ.wd_bd n
  have yb := Civ.yo_ok _ mb.1 mb.2
  have nyb := Civ.ny_bd yb.1 (by omega)
  have me := Lib.hid (show Civ.mid n = n - Civ.wd n + 3 from rfl)
  have hq1 : 0 ≤ n - Civ.wd n + 3 - Civ.ny (Civ.yo (Civ.mid n)) := by have := me.out; omega
  go_enter Tryd.func13, Tryd.ntmps13
  go_wp2_with fail
  refine (day_yes y m d _ (hT.alloc _) hv).mono ?_
  rw [HN.out]
  rintro e w1 ⟨rfl, hb⟩
  go_wp2_with fail
  refine (wday_any _ _ (by omega) (by omega)).mono ?_
  rintro e w' ⟨rfl, rfl⟩
  go_wp2_with fail
  change Calls _ _ #[.int .i64 (Civ.mid n)] _ _
  refine (yo_any _ _ mb.1 mb.2).mono ?_
  rintro e w' ⟨rfl, rfl⟩
  go_wp2_with fail
  refine (ny_any _ _ (by omega) (by omega)).mono ?_
  rintro e w' ⟨rfl, rfl⟩
  go_wp2_with fail
  go_ret3
  exact ⟨rfl, ((Below.refl _ _).alloc (Nat.le_refl _) _).trans (hb.mono (by simp))⟩

theorem ret_agg {a a' b b' c c' : Int} {v : Value} (h1 : a = a') (h2 : b = b') (h3 : c = c') :
    Ending.returned (.tuple #[.agg #[.int .i64 a, .int .i64 b, .int .i64 c], v]) = .returned (.tuple #[.agg #[.int .i64 a', .int .i64 b', .int .i64 c'], v]) := by rw [h1, h2, h3]

theorem below_one {w1 w2 : World} {o3 : Obj} (hb2 : Below (w1.alloc o3).drew.heap.size (w1.alloc o3).drew w2) : Below w1.heap.size w1 w2 :=
  ((Below.refl _ _).alloc (Nat.le_refl _) o3).drew.trans (hb2.mono (by simp [World.drew]))
theorem below_two {w w1 w2 : World} {o1 o2 o3 : Obj} (hb1 : Below ((w.alloc o1).alloc o2).heap.size ((w.alloc o1).alloc o2) w1) (hb2 : Below (w1.alloc o3).drew.heap.size (w1.alloc o3).drew w2) : Below w.heap.size w w2 := by
  have h1 : Below w.heap.size w w1 := (((Below.refl _ _).alloc (Nat.le_refl _) o1).alloc (by simp) o2).trans (hb1.mono (by simp; omega))
  have hz : w.heap.size ≤ w1.heap.size := h1.size
  exact ((h1.alloc hz o3).drew).trans (hb2.mono (by simp [World.drew]; omega))

set_option maxHeartbeats 1600000 in
theorem addm_near (y m d n s : Int) (b : Bool) (w : World) (hT : CivT w) (hv : Civ.vld y m d) (n1 : -3252 ≤ n) (n2 : n ≤ 3252)
    (hs : s = min d (Civ.dim (Civ.amY y m n) (Civ.amM y m n))) (hb : Civ.vldB (Civ.amY y m n) (Civ.amM y m n) s = b) :
    Calls Tryd.prog 11 #[.agg #[.int .i64 y, .int .i64 m, .int .i64 d], .int .i64 n] w fun e w' =>
      e = .returned (if b then .tuple #[.agg #[.int .i64 (Civ.amY y m n), .int .i64 (Civ.amM y m n), .int .i64 s], .int .i64 0] else .tuple #[.agg #[.int .i64 0, .int .i64 0, .int .i64 0], .int .i64 1]) ∧ Below w.heap.size w w' := by
  have hk := Civ.am_near hv n1 n2
  have HV := Lib.hid (Civ.vldB_iff.2 hv)
  have HB := Lib.hid hb
  have HS := Lib.hid hs
  have dd := Civ.dim_bd y m
  obtain ⟨v1, v2, v3, v4, v5, v6⟩ := hv
  have ds := Civ.dim_bd ((y * 12 + m - 1 + n) / 12) ((y * 12 + m - 1 + n) % 12 + 1)
  clear hb hs
  by_cases hmin : d ≤ Civ.dim ((y * 12 + m - 1 + n) / 12) ((y * 12 + m - 1 + n) % 12 + 1)
  · have hsd := Lib.hid (show s = d by rw [HS.out]; exact Int.min_eq_left hmin)
    have HB' := Lib.hid (show Civ.vldB ((y * 12 + m - 1 + n) / 12) ((y * 12 + m - 1 + n) % 12 + 1) d = b by rw [← hsd.out]; exact HB.out)
    cases b
    all_goals
      go_enter Tryd.func11, Tryd.ntmps11
      go_wp2_with fail
      refine (valid_is HV.out _ ((hT.alloc _).alloc _) ⟨by omega, by omega⟩ ⟨by omega, by omega⟩ ⟨by omega, by omega⟩).mono ?_
      rintro e w1 ⟨rfl, hb1⟩
      have hT1 := ((hT.alloc _).alloc _).below hb1
      obtain ⟨hc, hf⟩ := bcell hb1
      have hz : w.heap.size + 1 < w1.heap.size := by have := hb1.size; simp at this; omega
      have hz0 : w.heap.size < w1.heap.size := by omega
      have c0 : w1.cell? ⟨w.heap.size, 0, none⟩ = some (.int .i64 y) := by rw [hc _ _ (by simp; omega)]; simp
      have c1 : w1.cell? ⟨w.heap.size, 1, none⟩ = some (.int .i64 m) := by rw [hc _ _ (by simp; omega)]; simp
      have c2 : w1.cell? ⟨w.heap.size, 2, none⟩ = some (.int .i64 d) := by rw [hc _ _ (by simp; omega)]; simp
      have f0 : w1.frozen? ⟨w.heap.size + 1, 0, none⟩ = false := by rw [hf _ _ (by simp)]; simp
      have f1 : w1.frozen? ⟨w.heap.size + 1, 1, none⟩ = false := by rw [hf _ _ (by simp)]; simp
      have f2 : w1.frozen? ⟨w.heap.size + 1, 2, none⟩ = false := by rw [hf _ _ (by simp)]; simp
      have e0 : w1.cell? ⟨w.heap.size + 1, 0, none⟩ = some (.int .i64 0) := by rw [hc _ _ (by simp)]; simp
      have e1 : w1.cell? ⟨w.heap.size + 1, 1, none⟩ = some (.int .i64 0) := by rw [hc _ _ (by simp)]; simp
      have e2 : w1.cell? ⟨w.heap.size + 1, 2, none⟩ = some (.int .i64 0) := by rw [hc _ _ (by simp)]; simp
      clear hc hf
      go_wp2_with fail
      go_region_held3 (fun w' => w'.cell? ⟨w.heap.size, 2, none⟩ = some (.int .i64 d)) (first | go_keep) (first | (go_at_call 19; refine (dim_any _ _ _ (by first | exact hT1.drew | exact (hT1.alloc _).drew) (by omega) (by omega) (by omega) (by omega)).mono ?_; rintro e w' ⟨rfl, rfl⟩))
      all_goals
        go_wp2_with fail
        refine (valid_is HB'.out _ (hT1.alloc _).drew ⟨by omega, by omega⟩ ⟨by omega, by omega⟩ ⟨by omega, by omega⟩).mono ?_
        rintro e w2 ⟨rfl, hb2⟩
        have hB := Lib.hid (below_two hb1 hb2)
        have hz2 : w.heap.size + 1 < w2.heap.size := by have := hb2.size; simp [World.drew] at this; omega
        have h12 := below_one hb2
        have g0 := (h12.cell (p := ⟨w.heap.size + 1, 0, none⟩) hz).trans e0
        have g1 := (h12.cell (p := ⟨w.heap.size + 1, 1, none⟩) hz).trans e1
        have g2 := (h12.cell (p := ⟨w.heap.size + 1, 2, none⟩) hz).trans e2
        have p0 := (h12.frozen (p := ⟨w.heap.size + 1, 0, none⟩) hz).trans f0
        have p1 := (h12.frozen (p := ⟨w.heap.size + 1, 1, none⟩) hz).trans f1
        have p2 := (h12.frozen (p := ⟨w.heap.size + 1, 2, none⟩) hz).trans f2
        obtain ⟨hc, hf⟩ := bcell hb2
        go_wp2_with fail
    iterate 3
      · exact bodyPost_ret (v := .tuple #[.agg #[.int .i64 0, .int .i64 0, .int .i64 0], .int .i64 1]) (by simp [results, Tryd.results11, go_sem, g0, g1, g2]) rfl ⟨rfl, ((hB.out.setCell (by simp) _).setCell (by simp) _).setCell (by simp) _⟩
    iterate 3
      · exact bodyPost_ret (v := .tuple #[.agg #[.int .i64 ((y * 12 + m - 1 + n) / 12), .int .i64 ((y * 12 + m - 1 + n) % 12 + 1), .int .i64 (d)], .int .i64 0]) (by simp [results, Tryd.results11, go_sem, g0, g1, g2]) rfl ⟨ret_agg rfl rfl hsd.out.symm, ((hB.out.setCell (by simp) _).setCell (by simp) _).setCell (by simp) _⟩
  · have hsd := Lib.hid (show s = (Civ.dim ((y * 12 + m - 1 + n) / 12) ((y * 12 + m - 1 + n) % 12 + 1)) by rw [HS.out]; exact Int.min_eq_right (by show (Civ.dim ((y * 12 + m - 1 + n) / 12) ((y * 12 + m - 1 + n) % 12 + 1)) ≤ d; omega))
    have HB' := Lib.hid (show Civ.vldB ((y * 12 + m - 1 + n) / 12) ((y * 12 + m - 1 + n) % 12 + 1) (Civ.dim ((y * 12 + m - 1 + n) / 12) ((y * 12 + m - 1 + n) % 12 + 1)) = b by rw [← hsd.out]; exact HB.out)
    cases b
    all_goals
      go_enter Tryd.func11, Tryd.ntmps11
      go_wp2_with fail
      refine (valid_is HV.out _ ((hT.alloc _).alloc _) ⟨by omega, by omega⟩ ⟨by omega, by omega⟩ ⟨by omega, by omega⟩).mono ?_
      rintro e w1 ⟨rfl, hb1⟩
      have hT1 := ((hT.alloc _).alloc _).below hb1
      obtain ⟨hc, hf⟩ := bcell hb1
      have hz : w.heap.size + 1 < w1.heap.size := by have := hb1.size; simp at this; omega
      have hz0 : w.heap.size < w1.heap.size := by omega
      have c0 : w1.cell? ⟨w.heap.size, 0, none⟩ = some (.int .i64 y) := by rw [hc _ _ (by simp; omega)]; simp
      have c1 : w1.cell? ⟨w.heap.size, 1, none⟩ = some (.int .i64 m) := by rw [hc _ _ (by simp; omega)]; simp
      have c2 : w1.cell? ⟨w.heap.size, 2, none⟩ = some (.int .i64 d) := by rw [hc _ _ (by simp; omega)]; simp
      have f0 : w1.frozen? ⟨w.heap.size + 1, 0, none⟩ = false := by rw [hf _ _ (by simp)]; simp
      have f1 : w1.frozen? ⟨w.heap.size + 1, 1, none⟩ = false := by rw [hf _ _ (by simp)]; simp
      have f2 : w1.frozen? ⟨w.heap.size + 1, 2, none⟩ = false := by rw [hf _ _ (by simp)]; simp
      have e0 : w1.cell? ⟨w.heap.size + 1, 0, none⟩ = some (.int .i64 0) := by rw [hc _ _ (by simp)]; simp
      have e1 : w1.cell? ⟨w.heap.size + 1, 1, none⟩ = some (.int .i64 0) := by rw [hc _ _ (by simp)]; simp
      have e2 : w1.cell? ⟨w.heap.size + 1, 2, none⟩ = some (.int .i64 0) := by rw [hc _ _ (by simp)]; simp
      clear hc hf
      go_wp2_with fail
      go_region_held3 (fun w' => w'.cell? ⟨w.heap.size, 2, none⟩ = some (.int .i64 d)) (first | go_keep) (first | (go_at_call 19; refine (dim_any _ _ _ (by first | exact hT1.drew | exact (hT1.alloc _).drew) (by omega) (by omega) (by omega) (by omega)).mono ?_; rintro e w' ⟨rfl, rfl⟩))
      all_goals
        go_wp2_with fail
        refine (valid_is HB'.out _ (hT1.alloc _).drew ⟨by omega, by omega⟩ ⟨by omega, by omega⟩ ⟨by omega, by omega⟩).mono ?_
        rintro e w2 ⟨rfl, hb2⟩
        have hB := Lib.hid (below_two hb1 hb2)
        have hz2 : w.heap.size + 1 < w2.heap.size := by have := hb2.size; simp [World.drew] at this; omega
        have h12 := below_one hb2
        have g0 := (h12.cell (p := ⟨w.heap.size + 1, 0, none⟩) hz).trans e0
        have g1 := (h12.cell (p := ⟨w.heap.size + 1, 1, none⟩) hz).trans e1
        have g2 := (h12.cell (p := ⟨w.heap.size + 1, 2, none⟩) hz).trans e2
        have p0 := (h12.frozen (p := ⟨w.heap.size + 1, 0, none⟩) hz).trans f0
        have p1 := (h12.frozen (p := ⟨w.heap.size + 1, 1, none⟩) hz).trans f1
        have p2 := (h12.frozen (p := ⟨w.heap.size + 1, 2, none⟩) hz).trans f2
        obtain ⟨hc, hf⟩ := bcell hb2
        go_wp2_with fail
    iterate 3
      · exact bodyPost_ret (v := .tuple #[.agg #[.int .i64 0, .int .i64 0, .int .i64 0], .int .i64 1]) (by simp [results, Tryd.results11, go_sem, g0, g1, g2]) rfl ⟨rfl, ((hB.out.setCell (by simp) _).setCell (by simp) _).setCell (by simp) _⟩
    iterate 3
      · exact bodyPost_ret (v := .tuple #[.agg #[.int .i64 ((y * 12 + m - 1 + n) / 12), .int .i64 ((y * 12 + m - 1 + n) % 12 + 1), .int .i64 ((Civ.dim ((y * 12 + m - 1 + n) / 12) ((y * 12 + m - 1 + n) % 12 + 1)))], .int .i64 0]) (by simp [results, Tryd.results11, go_sem, g0, g1, g2]) rfl ⟨ret_agg rfl rfl hsd.out.symm, ((hB.out.setCell (by simp) _).setCell (by simp) _).setCell (by simp) _⟩
end Go.Proofs.YtnbfbkomgdnlnaaDoor
