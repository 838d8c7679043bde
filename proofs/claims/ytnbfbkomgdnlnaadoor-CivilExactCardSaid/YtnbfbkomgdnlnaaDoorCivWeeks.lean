/- The law CivilWeeks returns true for every number. -/
import Derived.Test.YtnbfbkomgdnlnaaDoorCivBack
namespace Go.Proofs.YtnbfbkomgdnlnaaDoor
open Go.RowKit
set_option linter.unusedVariables false
namespace Civ
theorem wk_mon (t : Int) : wd (t - wd t) = 0 ∧ t - 6 ≤ t - wd t ∧ t - wd t ≤ t := by unfold wd; omega
theorem wd_add {D : Int} (h : wd D = 0) (k : Int) (h0 : 0 ≤ k) : wd (D + k) = k % 7 := by unfold wd at *; omega
theorem mid_in {D : Int} (h : wd D = 0) (k : Int) (h0 : 0 ≤ k) (h7 : k < 7) : mid (D + k) = D + 3 := by unfold mid wd at *; omega
theorem mid_mon {D : Int} (h : wd D = 0) : mid D = D + 3 := by unfold mid wd at *; omega
theorem mid_next {D : Int} (h : wd D = 0) : mid (D + 7) = D + 10 := by unfold mid wd at *; omega
theorem mon_lo {t : Int} (h : 4 ≤ t) : 4 ≤ t - wd t := by unfold wd; omega
/-- The next week is the next one of the year, or the first one of the next. -/
theorem wk_next {D : Int} (h : wd D = 0) (h1 : 4 ≤ D) (h2 : D ≤ 98100) :
    (wkY (D + 7) = wkY D ∧ wkW (D + 7) = wkW D + 1) ∨ (wkY (D + 7) = wkY D + 1 ∧ wkW (D + 7) = 1 ∧ 52 ≤ wkW D) := by
  have m0 := mid_mon h
  have m7 := mid_next h
  have y0 := yo_ok (D + 3) (by omega) (by omega)
  have y7 := yo_ok (D + 10) (by omega) (by omega)
  unfold wkY wkW
  rw [m0, m7]
  have s0 := ny_succ (yo (D + 3))
  have l0 := lp_01 (yo (D + 3))
  by_cases c : D + 10 < ny (yo (D + 3) + 1)
  · have e := year_uniq y7.2.2.1 y7.2.2.2 (show ny (yo (D + 3)) ≤ D + 10 by omega) c
    rw [e]; left; omega
  · have s1 := ny_succ (yo (D + 3) + 1)
    have l1 := lp_01 (yo (D + 3) + 1)
    have e := year_uniq y7.2.2.1 y7.2.2.2 (show ny (yo (D + 3) + 1) ≤ D + 10 by omega) (by omega)
    rw [e]; right; omega
end Civ

theorem cell_keep {w w' : World} {b o : Nat} {v : Value} (h : w.cell? ⟨b, o, none⟩ = some v) (k : Below w.heap.size w w') : w'.cell? ⟨b, o, none⟩ = some v :=
  (k.cell (p := ⟨b, o, none⟩) (World.block_lt_of_cell? w _ h)).trans h

def Row8 (w : World) (b : Nat) (f : Nat → Int) : Prop := ∀ j, j < 8 → w.cell? ⟨b, j, none⟩ = some (.int .i64 (f j)) ∧ w.frozen? ⟨b, j, none⟩ = false
theorem Row8.lt {w : World} {b : Nat} {f : Nat → Int} (h : Row8 w b f) : b < w.heap.size := World.block_lt_of_cell? w _ (h 0 (by decide)).1
theorem Row8.below {w w' : World} {b : Nat} {f : Nat → Int} (h : Row8 w b f) (k : Below w.heap.size w w') : Row8 w' b f := fun j hj =>
  ⟨(k.cell (p := ⟨b, j, none⟩) h.lt).trans (h j hj).1, (k.frozen (p := ⟨b, j, none⟩) h.lt).trans (h j hj).2⟩
theorem Row8.alloc {w : World} {b : Nat} {f : Nat → Int} (h : Row8 w b f) (o : Obj) : Row8 (w.alloc o) b f := h.below ((Below.refl _ _).alloc (Nat.le_refl _) o)
theorem Row8.congr {w : World} {b : Nat} {f g : Nat → Int} (h : Row8 w b f) (e : ∀ j, j < 8 → f j = g j) : Row8 w b g := fun j hj => e j hj ▸ h j hj
theorem Row8.set {w : World} {b : Nat} {f : Nat → Int} (h : Row8 w b f) (k : Nat) (v : Int) : Row8 (w.setCell ⟨b, k, none⟩ (.int .i64 v)) b (fun j => if j = k then v else f j) := fun j hj => by
  refine ⟨?_, by rw [World.frozen?_setCell]; exact (h j hj).2⟩
  by_cases e : j = k
  · subst e
    rw [World.cell?_setCell_same _ _ _ (h j hj).1]; simp
  · rw [World.cell?_setCell_other _ _ _ _ (by intro c; cases c; exact e rfl)]; simp [e, (h j hj).1]
theorem Row8.setOther {w : World} {b b' : Nat} {f : Nat → Int} (h : Row8 w b f) (hb : b' ≠ b) (k : Nat) (u : Value) : Row8 (w.setCell ⟨b', k, none⟩ u) b f := fun j hj =>
  ⟨by rw [World.cell?_setCell_other _ _ _ _ (by intro c; cases c; exact hb rfl)]; exact (h j hj).1, by rw [World.frozen?_setCell]; exact (h j hj).2⟩
theorem lt8 {j : Nat} (h : j < 8) : j = 0 ∨ j = 1 ∨ j = 2 ∨ j = 3 ∨ j = 4 ∨ j = 5 ∨ j = 6 ∨ j = 7 := by omega

theorem CivT.setCell {w : World} (h : CivT w) {a : Addr} (ha : 0 < a.block) (u : Value) : CivT (w.setCell a u) :=
  ⟨by simpa using h.1, fun i hi => by rw [World.cell?_setCell_other _ _ _ _ (by intro e; rw [e] at ha; simp at ha)]; exact h.2 i hi⟩

def WkInv (B : Nat) (D : Int) (w0 : World) (k : Nat) (wr : World) : Prop :=
  Below w0.heap.size w0 wr ∧ CivT wr ∧ Row8 wr B (fun j => if j < k then Civ.wkY (D + j) else 0) ∧ Row8 wr (B + 1) (fun j => if j < k then Civ.wkW (D + j) else 0)

set_option maxRecDepth 100000 in
set_option maxHeartbeats 3200000 in
theorem weeks_any (n : Int) (w : World) (hT : CivT w) (i1 : -9223372036854775808 ≤ n) (i2 : n ≤ 9223372036854775807) :
    Calls Tryd.prog 6 #[.int .i64 n] w fun e w' => e = .returned (.bool true) ∧ Below w.heap.size w w' := by
  obtain ⟨D, hD⟩ : ∃ D, D = 4 + n % 98000 - Civ.wd (4 + n % 98000) := ⟨_, rfl⟩
  have hm := Civ.wk_mon (4 + n % 98000)
  have hlo := Civ.mon_lo (show 4 ≤ 4 + n % 98000 by omega)
  rw [← hD] at hm hlo
  have hhi : D ≤ 98100 := by omega
  have HD := Lib.hid hD
  have HM := Lib.hid hm.1
  have hwb := Civ.wd_bd (4 + n % 98000)
  clear hD hm
  go_enter Tryd.func6, Tryd.ntmps6
  go_wp2_with fail
  refine (Mod_any n 98000 _ i1 i2 (by omega) (by omega)).mono ?_
  rintro e w' ⟨rfl, rfl⟩
  go_wp2_with fail
  refine (wday_any _ _ (by omega) (by omega)).mono ?_
  rintro e w' ⟨rfl, rfl⟩
  go_wp2_with fail
  rw [← HD.out]
  go_loopw [6] (fun i wr => ∃ k : Nat, k ≤ 8 ∧ i = .int .i64 k ∧ WkInv w.heap.size D w k wr) (fun i _ => 8 - (intOf i).toNat)
  case atStart =>
    refine ⟨0, by omega, rfl, ((Below.refl _ _).alloc (Nat.le_refl _) _).alloc (by simp) _, (hT.alloc _).alloc _, ?_, ?_⟩
    · intro j hj
      rcases lt8 hj with rfl | rfl | rfl | rfl | rfl | rfl | rfl | rfl <;> simp
    · intro j hj
      rcases lt8 hj with rfl | rfl | rfl | rfl | rfl | rfl | rfl | rfl <;> simp
  case round =>
    obtain ⟨k, hk, rfl, hI⟩ := hrel
    by_cases hk0 : k = 0
    · have hk0' : k ≤ 0 := by omega
      clear hk0
      have hD0 : 0 ≤ D + k ∧ D + k < 98981 := by omega
      obtain ⟨y, m, d, hv, hn⟩ := Civ.date_ex (D + k) hD0.1 hD0.2
      have HN := Lib.hid hn
      clear hn
      have hw := Lib.hid (Civ.wd_add HM.out k (by omega))
      obtain ⟨I1, I2, I3, I4⟩ := hI
      go_wp2_with fail
      refine (dateOf_yes y m d _ _ I2 hv HN.out).mono ?_
      rintro e w1 ⟨rfl, b1⟩
      have hT1 := I2.below b1
      have Y1 := I3.below b1
      have W1 := I4.below b1
      have A1 := DateAt.new w1 y m d 23
      go_wp2_with fail
      refine (week_yes y m d (D + k) _ (hT1.alloc _) hv HN.out).mono ?_
      rintro e w2 ⟨rfl, b2⟩
      have hT2 := (hT1.alloc _).below b2
      have Y2 := (Y1.alloc (.cells #[.int .i64 y, .int .i64 m, .int .i64 d] 23)).below b2
      have W2 := (W1.alloc (.cells #[.int .i64 y, .int .i64 m, .int .i64 d] 23)).below b2
      have B2 : Below w.heap.size w w2 := I1.trans (((b1.mono I1.size).alloc (Nat.le_trans I1.size b1.size) _).trans (b2.mono (by have := I1.size; have := b1.size; simp; omega)))
      go_wp2_with fail
      refine (wday_is hw.out _ (by omega) (by omega)).mono ?_
      rintro e w' ⟨rfl, rfl⟩
      have y20 : w2.cell? ⟨w.heap.size, k, none⟩ = some (.int .i64 0) := by have := (Y2 k (by omega)).1; simpa using this
      have w20 : w2.cell? ⟨w.heap.size + 1, k, none⟩ = some (.int .i64 0) := by have := (W2 k (by omega)).1; simpa using this
      have y2f := (Y2 k (by omega)).2
      have w2f := (W2 k (by omega)).2

      go_wp2_with fail
      go_roundw
      case rel =>
        refine ⟨k + 1, by omega, by go_num, (B2.setCell (by simp) _).setCell (by simp) _, (hT2.setCell hT.1 _).setCell (by simp) _, ((Y2.set k _).setOther (by omega) k _).congr ?_, ((W2.setOther (by omega) k _).set k _).congr ?_⟩
        · intro j hj
          by_cases e : j = k
          · subst e; simp
          · simp only [e, if_false]; by_cases c : j < k
            · rw [if_pos c, if_pos (by omega)]
            · rw [if_neg c, if_neg (by omega)]
        · intro j hj
          by_cases e : j = k
          · subst e; simp
          · simp only [e, if_false]; by_cases c : j < k
            · rw [if_pos c, if_pos (by omega)]
            · rw [if_neg c, if_neg (by omega)]
      case measure => simp [intOf]; omega
    by_cases hk7 : k < 7
    · have hk1 : 0 < k := by omega
      clear hk0
      have hD0 : 0 ≤ D + k ∧ D + k < 98981 := by omega
      obtain ⟨y, m, d, hv, hn⟩ := Civ.date_ex (D + k) hD0.1 hD0.2
      have HN := Lib.hid hn
      clear hn
      have hw := Lib.hid (Civ.wd_add HM.out k (by omega))
      have ye := Lib.hid (show Civ.wkY (D + k) = Civ.wkY D by unfold Civ.wkY; rw [Civ.mid_in HM.out k (by omega) (by omega), Civ.mid_mon HM.out])
      have we := Lib.hid (show Civ.wkW (D + k) = Civ.wkW D by unfold Civ.wkW; rw [Civ.mid_in HM.out k (by omega) (by omega), Civ.mid_mon HM.out])

      obtain ⟨I1, I2, I3, I4⟩ := hI
      go_wp2_with fail
      refine (dateOf_yes y m d _ _ I2 hv HN.out).mono ?_
      rintro e w1 ⟨rfl, b1⟩
      have hT1 := I2.below b1
      have Y1 := I3.below b1
      have W1 := I4.below b1
      have A1 := DateAt.new w1 y m d 23
      go_wp2_with fail
      refine (week_is (Civ.vldB_iff.2 hv) HN.out ye.out we.out _ (hT1.alloc _)).mono ?_
      rintro e w2 ⟨rfl, b2⟩
      have hT2 := (hT1.alloc _).below b2
      have Y2 := (Y1.alloc (.cells #[.int .i64 y, .int .i64 m, .int .i64 d] 23)).below b2
      have W2 := (W1.alloc (.cells #[.int .i64 y, .int .i64 m, .int .i64 d] 23)).below b2
      have B2 : Below w.heap.size w w2 := I1.trans (((b1.mono I1.size).alloc (Nat.le_trans I1.size b1.size) _).trans (b2.mono (by have := I1.size; have := b1.size; simp; omega)))
      go_wp2_with fail
      refine (wday_is hw.out _ (by omega) (by omega)).mono ?_
      rintro e w' ⟨rfl, rfl⟩
      have y20 : w2.cell? ⟨w.heap.size, k, none⟩ = some (.int .i64 0) := by have := (Y2 k (by omega)).1; simpa using this
      have w20 : w2.cell? ⟨w.heap.size + 1, k, none⟩ = some (.int .i64 0) := by have := (W2 k (by omega)).1; simpa using this
      have y2f := (Y2 k (by omega)).2
      have w2f := (W2 k (by omega)).2
      have Y20 : w2.cell? ⟨w.heap.size, 0, none⟩ = some (.int .i64 (Civ.wkY D)) := by have := (Y2 0 (by omega)).1; simpa [hk1] using this
      have W20 : w2.cell? ⟨w.heap.size + 1, 0, none⟩ = some (.int .i64 (Civ.wkW D)) := by have := (W2 0 (by omega)).1; simpa [hk1] using this
      go_wp2_with fail
      go_roundw
      case rel =>
        refine ⟨k + 1, by omega, by go_num, (B2.setCell (by simp) _).setCell (by simp) _, (hT2.setCell hT.1 _).setCell (by simp) _, ((Y2.set k _).setOther (by omega) k _).congr ?_, ((W2.setOther (by omega) k _).set k _).congr ?_⟩
        · intro j hj
          by_cases e : j = k
          · subst e; simp [ye.out]
          · simp only [e, if_false]; by_cases c : j < k
            · rw [if_pos c, if_pos (by omega)]
            · rw [if_neg c, if_neg (by omega)]
        · intro j hj
          by_cases e : j = k
          · subst e; simp [we.out]
          · simp only [e, if_false]; by_cases c : j < k
            · rw [if_pos c, if_pos (by omega)]
            · rw [if_neg c, if_neg (by omega)]
      case measure => simp [intOf]; omega
    by_cases hk8 : k < 8
    · have hk1 : 7 ≤ k := by omega
      clear hk0 hk7
      have hD0 : 0 ≤ D + k ∧ D + k < 98981 := by omega
      obtain ⟨y, m, d, hv, hn⟩ := Civ.date_ex (D + k) hD0.1 hD0.2
      have HN := Lib.hid hn
      clear hn
      have hw := Lib.hid (Civ.wd_add HM.out k (by omega))
      obtain ⟨I1, I2, I3, I4⟩ := hI
      go_wp2_with fail
      refine (dateOf_yes y m d _ _ I2 hv HN.out).mono ?_
      rintro e w1 ⟨rfl, b1⟩
      have hT1 := I2.below b1
      have Y1 := I3.below b1
      have W1 := I4.below b1
      have A1 := DateAt.new w1 y m d 23
      go_wp2_with fail
      refine (week_yes y m d (D + k) _ (hT1.alloc _) hv HN.out).mono ?_
      rintro e w2 ⟨rfl, b2⟩
      have hT2 := (hT1.alloc _).below b2
      have Y2 := (Y1.alloc (.cells #[.int .i64 y, .int .i64 m, .int .i64 d] 23)).below b2
      have W2 := (W1.alloc (.cells #[.int .i64 y, .int .i64 m, .int .i64 d] 23)).below b2
      have B2 : Below w.heap.size w w2 := I1.trans (((b1.mono I1.size).alloc (Nat.le_trans I1.size b1.size) _).trans (b2.mono (by have := I1.size; have := b1.size; simp; omega)))
      go_wp2_with fail
      refine (wday_is hw.out _ (by omega) (by omega)).mono ?_
      rintro e w' ⟨rfl, rfl⟩
      have y20 : w2.cell? ⟨w.heap.size, k, none⟩ = some (.int .i64 0) := by have := (Y2 k (by omega)).1; simpa using this
      have w20 : w2.cell? ⟨w.heap.size + 1, k, none⟩ = some (.int .i64 0) := by have := (W2 k (by omega)).1; simpa using this
      have y2f := (Y2 k (by omega)).2
      have w2f := (W2 k (by omega)).2

      go_wp2_with fail
      go_roundw
      case rel =>
        refine ⟨k + 1, by omega, by go_num, (B2.setCell (by simp) _).setCell (by simp) _, (hT2.setCell hT.1 _).setCell (by simp) _, ((Y2.set k _).setOther (by omega) k _).congr ?_, ((W2.setOther (by omega) k _).set k _).congr ?_⟩
        · intro j hj
          by_cases e : j = k
          · subst e; simp
          · simp only [e, if_false]; by_cases c : j < k
            · rw [if_pos c, if_pos (by omega)]
            · rw [if_neg c, if_neg (by omega)]
        · intro j hj
          by_cases e : j = k
          · subst e; simp
          · simp only [e, if_false]; by_cases c : j < k
            · rw [if_pos c, if_pos (by omega)]
            · rw [if_neg c, if_neg (by omega)]
      case measure => simp [intOf]; omega
    obtain rfl : k = 8 := by omega
    obtain ⟨I1, I2, I3, I4⟩ := hI
    obtain ⟨ty, tm, td, hv, hn⟩ := Civ.date_ex (D + 3) (by omega) (by omega)
    have nb := Civ.num_bd hv
    rw [hn] at nb
    have hty := Lib.hid (Civ.yo_of nb.2.2.1 nb.2.2.2.1 nb.2.2.2.2.1 nb.2.2.2.2.2)
    have eY := Lib.hid (show Civ.wkY D = ty by unfold Civ.wkY; rw [Civ.mid_mon HM.out]; exact hty.out)
    have eW := Lib.hid (show Civ.wkW D = (D + 3 - Civ.ny ty) / 7 + 1 by unfold Civ.wkW; rw [Civ.mid_mon HM.out, hty.out])
    have HN := Lib.hid hn
    clear hn
    have nx := Civ.wk_next HM.out hlo hhi
    rw [eY.out, eW.out] at nx
    have hq1 := nb.2.2.1
    have hq2 := nb.2.2.2.1
    have hs := Civ.ny_succ ty
    have hl := Civ.lp_01 ty
    have hq3 : D + 3 - Civ.ny ty ≤ 366 := by omega
    clear nb hs
    have hv1 : Civ.vld ty 1 1 := ⟨hv.1, hv.2.1, by omega, by omega, by omega, by have := Civ.dim_lo (y := ty) (m := 1) (by omega) (by omega); omega⟩
    have hn1 := Lib.hid (show Civ.num ty 1 1 = Civ.ny ty by unfold Civ.num; rw [Civ.cum_1]; omega)
    have hyb := Civ.ny_bd hv.1 (show ty ≤ 2241 by have := hv.2.1; omega)
    have hvy1 := hv.1
    have hvy2 := hv.2.1
    have Y0 : wr.cell? ⟨w.heap.size, 0, none⟩ = some (.int .i64 ty) := by have := (I3 0 (by omega)).1; simpa [eY.out] using this
    have W0 : wr.cell? ⟨w.heap.size + 1, 0, none⟩ = some (.int .i64 ((D + 3 - Civ.ny ty) / 7 + 1)) := by have := (I4 0 (by omega)).1; simpa [eW.out] using this
    clear hk0 hk7 hk8 hk hwb
    rcases nx with ⟨nx1, nx2⟩ | ⟨nx1, nx2, nx3⟩
    · have nxY := Lib.hid nx1
      have nxW := Lib.hid nx2
      clear nx1 nx2
      have Y7 : wr.cell? ⟨w.heap.size, 7, none⟩ = some (.int .i64 (ty)) := by have := (I3 7 (by omega)).1; simpa [nxY.out] using this
      have W7 : wr.cell? ⟨w.heap.size + 1, 7, none⟩ = some (.int .i64 ((D + 3 - Civ.ny ty) / 7 + 1 + 1)) := by have := (I4 7 (by omega)).1; simpa [nxW.out] using this
      go_wp2_with fail
      refine (dateOf_yes ty tm td _ _ I2 hv HN.out).mono ?_
      rintro e w1 ⟨rfl, b1⟩
      have hT1 := I2.below b1
      have z1 := b1.size
      have lB : w.heap.size + 1 < wr.heap.size := I4.lt
      have A1 := DateAt.new w1 ty tm td 23
      go_wp2_with fail
      refine (day_is (n := Civ.ny ty) (Civ.vldB_iff.2 hv1) hn1.out _ (hT1.alloc _)).mono ?_
      rintro e w2 ⟨rfl, b2⟩
      have hT2 := (hT1.alloc _).below b2
      have ⟨a0, a1, a2⟩ := A1.below b2
      have c0 := cell_keep (cell_keep (cell_keep Y0 b1) ((Below.refl _ _).alloc (Nat.le_refl _) _)) b2
      have c7 := cell_keep (cell_keep (cell_keep Y7 b1) ((Below.refl _ _).alloc (Nat.le_refl _) _)) b2
      have d0 := cell_keep (cell_keep (cell_keep W0 b1) ((Below.refl _ _).alloc (Nat.le_refl _) _)) b2
      have d7 := cell_keep (cell_keep (cell_keep W7 b1) ((Below.refl _ _).alloc (Nat.le_refl _) _)) b2
      clear Y0 W0 Y7 W7
      go_wp2_with fail
      refine (sane_any _ hT2).mono ?_
      rintro e w3 ⟨rfl, b3⟩
      go_wp2_with fail
      go_ret
      exact ⟨rfl, bstep (I1.trans (((b1.mono I1.size).alloc (Nat.le_trans I1.size b1.size) _).trans (b2.mono (by have := I1.size; have := b1.size; simp; omega)))) b3⟩
    · have nxY := Lib.hid nx1
      have nxW := Lib.hid nx2
      clear nx1 nx2
      have Y7 : wr.cell? ⟨w.heap.size, 7, none⟩ = some (.int .i64 (ty + 1)) := by have := (I3 7 (by omega)).1; simpa [nxY.out] using this
      have W7 : wr.cell? ⟨w.heap.size + 1, 7, none⟩ = some (.int .i64 (1)) := by have := (I4 7 (by omega)).1; simpa [nxW.out] using this
      go_wp2_with fail
      refine (dateOf_yes ty tm td _ _ I2 hv HN.out).mono ?_
      rintro e w1 ⟨rfl, b1⟩
      have hT1 := I2.below b1
      have z1 := b1.size
      have lB : w.heap.size + 1 < wr.heap.size := I4.lt
      have A1 := DateAt.new w1 ty tm td 23
      go_wp2_with fail
      refine (day_is (n := Civ.ny ty) (Civ.vldB_iff.2 hv1) hn1.out _ (hT1.alloc _)).mono ?_
      rintro e w2 ⟨rfl, b2⟩
      have hT2 := (hT1.alloc _).below b2
      have ⟨a0, a1, a2⟩ := A1.below b2
      have c0 := cell_keep (cell_keep (cell_keep Y0 b1) ((Below.refl _ _).alloc (Nat.le_refl _) _)) b2
      have c7 := cell_keep (cell_keep (cell_keep Y7 b1) ((Below.refl _ _).alloc (Nat.le_refl _) _)) b2
      have d0 := cell_keep (cell_keep (cell_keep W0 b1) ((Below.refl _ _).alloc (Nat.le_refl _) _)) b2
      have d7 := cell_keep (cell_keep (cell_keep W7 b1) ((Below.refl _ _).alloc (Nat.le_refl _) _)) b2
      clear Y0 W0 Y7 W7
      go_wp2_with fail
      refine (sane_any _ hT2).mono ?_
      rintro e w3 ⟨rfl, b3⟩
      go_wp2_with fail
      go_ret
      exact ⟨rfl, bstep (I1.trans (((b1.mono I1.size).alloc (Nat.le_trans I1.size b1.size) _).trans (b2.mono (by have := I1.size; have := b1.size; simp; omega)))) b3⟩
end Go.Proofs.YtnbfbkomgdnlnaaDoor
