/- Zones in memory: rules, transitions, stretches; the small functions of package zone. -/
import Derived.Test.YtndngkfiamdohaaDoorZsg
import Derived.Test.YtndngkfiamdohaaDoorZnk
namespace Go.Proofs.YtndngkfiamdohaaDoor
open Go.RowKit
set_option linter.unusedVariables false
set_option linter.unusedSimpArgs false

/-! The small functions. -/
theorem inDay_any (x : Int) (w : World) : Calls Tryd.prog 64 #[.int .i64 x] w fun e w' => e = .returned (.bool (Zn.okD x)) ∧ w = w' := by
  by_cases h1 : 0 ≤ x
  · by_cases h2 : x < 86400
    · have h := Lib.hid (Zn.okD_iff.2 ⟨h1, h2⟩)
      go_enter Tryd.func64, Tryd.ntmps64
      go_wp2_with fail
      go_ret
      exact ⟨ret_bool h.out.symm, rfl⟩
    · have h := Lib.hid (show Zn.okD x = false by unfold Zn.okD; simp; omega)
      go_enter Tryd.func64, Tryd.ntmps64
      go_wp2_with fail
      go_ret
      exact ⟨ret_bool h.out.symm, rfl⟩
  · have h := Lib.hid (show Zn.okD x = false by unfold Zn.okD; simp; omega)
    go_enter Tryd.func64, Tryd.ntmps64
    go_wp2_with fail
    go_ret
    exact ⟨ret_bool h.out.symm, rfl⟩
theorem validOffset_any (x : Int) (w : World) : Calls Tryd.prog 52 #[.int .i64 x] w fun e w' => e = .returned (.bool (Zn.okO x)) ∧ w = w' := by
  by_cases h1 : -64800 ≤ x
  · by_cases h2 : x ≤ 64800
    · have h := Lib.hid (Zn.okO_iff.2 ⟨h1, h2⟩)
      go_enter Tryd.func52, Tryd.ntmps52
      go_wp2_with fail
      go_ret
      exact ⟨ret_bool h.out.symm, rfl⟩
    · have h := Lib.hid (show Zn.okO x = false by unfold Zn.okO; simp; omega)
      go_enter Tryd.func52, Tryd.ntmps52
      go_wp2_with fail
      go_ret
      exact ⟨ret_bool h.out.symm, rfl⟩
  · have h := Lib.hid (show Zn.okO x = false by unfold Zn.okO; simp; omega)
    go_enter Tryd.func52, Tryd.ntmps52
    go_wp2_with fail
    go_ret
    exact ⟨ret_bool h.out.symm, rfl⟩

theorem okR_split {r : Zn.Rule} : Zn.okR r = decide ((Civ.vldB r.fr r.mo 1 = true ∧ 1 ≤ r.wk ∧ r.wk ≤ 5 ∧ 0 ≤ r.wd ∧ r.wd ≤ 6) ∧ r.fr ≤ r.to ∧ r.to ≤ 2240 ∧ Zn.okD r.sec = true ∧ Zn.okO r.off = true) := by
  rw [Bool.eq_iff_iff, decide_eq_true_iff, Zn.okR_iff, Zn.okD_iff, Zn.okO_iff, Civ.vldB_iff]
  constructor
  · intro h; exact ⟨⟨Zn.vld_first (by omega) (by omega) (by omega) (by omega), by omega⟩, by omega⟩
  · rintro ⟨⟨⟨a, b, c, d, e, f⟩, g⟩, h⟩; omega
theorem bcell1 {W w1 : World} {o : Obj} (hb : Below (W.alloc o).heap.size (W.alloc o) w1) : ∀ i, w1.cell? ⟨W.heap.size, i, none⟩ = (W.alloc o).cell? ⟨W.heap.size, i, none⟩ := fun i => hb.cell (p := ⟨W.heap.size, i, none⟩) (by simp)

set_option maxHeartbeats 4000000 in
theorem validRule_any (r : Zn.Rule) (w : World) (hT : CivT w) (hr : FitR r) : Calls Tryd.prog 53 #[valR r] w fun e w' => e = .returned (.bool (Zn.okR r)) ∧ Below w.heap.size w w' := by
  obtain ⟨i1, i2, i3, i4, i5, i6, i7⟩ := hr
  obtain ⟨fr, t, mo, wk, wd, sec, off⟩ := r
  unfold valR
  simp only at i1 i2 i3 i4 i5 i6 i7 ⊢
  have hsp := okR_split (r := ⟨fr, t, mo, wk, wd, sec, off⟩)
  simp only [Civ.vldB_iff] at hsp
  by_cases hN : Civ.vld fr mo 1 ∧ 1 ≤ wk ∧ wk ≤ 5 ∧ 0 ≤ wd ∧ wd ≤ 6
  · have C := nth_yes fr mo wk wd _ (hT.alloc (.cells #[.int .i64 fr, .int .i64 t, .int .i64 mo, .int .i64 wk, .int .i64 wd, .int .i64 sec, .int .i64 off] 74)) hN.1 hN.2.1 hN.2.2.1 hN.2.2.2.1 hN.2.2.2.2
    obtain ⟨day, hday⟩ : ∃ d, Civ.nthD (Civ.num fr mo 1) (Civ.dim fr mo) wk wd = d := ⟨_, rfl⟩
    rw [hday] at C
    have HC := Lib.hid C
    by_cases h1 : fr ≤ t
    · by_cases h2 : t ≤ 2240
      · cases hd : Zn.okD sec
        · have h := Lib.hid (show Zn.okR ⟨fr, t, mo, wk, wd, sec, off⟩ = false by rw [hsp]; simp [hd])
          have D := Lib.hid hd
          clear hsp hd hN C hday
          go_enter Tryd.func53, Tryd.ntmps53
          go_wp2_with fail
          refine HC.out.mono ?_
          rintro e w1 ⟨rfl, hb⟩
          have hc := bcell1 hb
          have C2 := fun W => inDay_any sec W
          rw [D.out] at C2
          go_wp2_with ((go_at_call 64; refine (C2 _).mono ?_; rintro e w' ⟨rfl, rfl⟩))
          go_ret
          exact ⟨ret_bool h.out.symm, ((Below.refl _ _).alloc (Nat.le_refl _) _).trans (hb.mono (by simp))⟩
        · have h := Lib.hid (show Zn.okR ⟨fr, t, mo, wk, wd, sec, off⟩ = Zn.okO off by rw [hsp, Bool.eq_iff_iff]; simp [hd, h1, h2]; intro _; exact ⟨Civ.vldB_iff.2 hN.1, hN.2⟩)
          have D := Lib.hid hd
          clear hsp hd hN C hday
          go_enter Tryd.func53, Tryd.ntmps53
          go_wp2_with fail
          refine HC.out.mono ?_
          rintro e w1 ⟨rfl, hb⟩
          have hc := bcell1 hb
          have C2 := fun W => inDay_any sec W
          rw [D.out] at C2
          have C3 := fun W => validOffset_any off W
          generalize Zn.okO off = o at C3 h ⊢
          go_wp2_with (first | (go_at_call 64; refine (C2 _).mono ?_; rintro e w' ⟨rfl, rfl⟩) | (go_at_call 52; refine (C3 _).mono ?_; rintro e w' ⟨rfl, rfl⟩))
          go_ret
          exact ⟨ret_bool h.out.symm, ((Below.refl _ _).alloc (Nat.le_refl _) _).trans (hb.mono (by simp))⟩
      · have h := Lib.hid (show Zn.okR ⟨fr, t, mo, wk, wd, sec, off⟩ = false by rw [hsp]; simp [h2])
        clear hsp hN C hday
        go_enter Tryd.func53, Tryd.ntmps53
        go_wp2_with fail
        refine HC.out.mono ?_
        rintro e w1 ⟨rfl, hb⟩
        have hc := bcell1 hb
        go_wp2_with fail
        go_ret
        exact ⟨ret_bool h.out.symm, ((Below.refl _ _).alloc (Nat.le_refl _) _).trans (hb.mono (by simp))⟩
    · have h := Lib.hid (show Zn.okR ⟨fr, t, mo, wk, wd, sec, off⟩ = false by rw [hsp]; simp [h1])
      clear hsp hN C hday
      go_enter Tryd.func53, Tryd.ntmps53
      go_wp2_with fail
      refine HC.out.mono ?_
      rintro e w1 ⟨rfl, hb⟩
      have hc := bcell1 hb
      go_wp2_with fail
      go_ret
      exact ⟨ret_bool h.out.symm, ((Below.refl _ _).alloc (Nat.le_refl _) _).trans (hb.mono (by simp))⟩
  · have h := Lib.hid (show Zn.okR ⟨fr, t, mo, wk, wd, sec, off⟩ = false by rw [hsp]; exact decide_eq_false fun h => hN ⟨Civ.vldB_iff.1 h.1.1, h.1.2⟩)
    have C := nth_no fr mo wk wd _ (hT.alloc (.cells #[.int .i64 fr, .int .i64 t, .int .i64 mo, .int .i64 wk, .int .i64 wd, .int .i64 sec, .int .i64 off] 74)) i1 i3 hN
    have HC := Lib.hid C
    clear hsp hN C
    go_enter Tryd.func53, Tryd.ntmps53
    go_wp2_with fail
    refine HC.out.mono ?_
    rintro e w1 ⟨rfl, hb⟩
    have hc := bcell1 hb
    go_wp2_with fail
    go_ret
    exact ⟨ret_bool h.out.symm, ((Below.refl _ _).alloc (Nat.le_refl _) _).trans (hb.mono (by simp))⟩
end Go.Proofs.YtndngkfiamdohaaDoor
