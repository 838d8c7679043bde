/- Plain facts on the zones of the limits: what their transitions are. -/
import Derived.Test.YtegnfmpbhindaaaDoorZld
import Derived.Test.YtegnfmpbhindaaaDoorZnc
namespace Go.Proofs.YtegnfmpbhindaaaDoor
set_option linter.unusedSimpArgs false
set_option linter.unusedVariables false
/-- A rule of one year, in May. -/
def mayR (y wk wd s o : Int) : Zn.Rule := ⟨y, y, 5, wk, wd, s, o⟩
theorem may_ok {y wk wd s o : Int} (hy : 2000 ≤ y ∧ y ≤ 2029) (hk : 1 ≤ wk ∧ wk ≤ 2) (hd : 0 ≤ wd ∧ wd ≤ 6) (hs : 0 ≤ s ∧ s < 86400) (ho : -64800 ≤ o ∧ o ≤ 64800) : Zn.okR (mayR y wk wd s o) = true := Zn.okR_iff.2 (by simp only [mayR]; omega)
theorem may_day {y : Int} (hy : 2000 ≤ y ∧ y ≤ 2029) : 10000 ≤ Civ.num y 5 1 ∧ Civ.num y 5 1 ≤ 22000 := by
  have a := Civ.ny_mono (a := 2000) (b := y) (by omega)
  have b := Civ.ny_mono (a := y) (b := 2029) (by omega)
  have l := Civ.lp_01 y
  rw [show Civ.ny 2000 = 10957 by decide] at a
  rw [show Civ.ny 2029 = 21550 by decide] at b
  unfold Civ.num Civ.cum; simp; omega
theorem may_nth {y wk wd s o : Int} (hy : 2000 ≤ y ∧ y ≤ 2029) (hk : 1 ≤ wk ∧ wk ≤ 4) : Zn.nth (mayR y wk wd s o) y = Civ.num y 5 1 + (wd - Civ.wd (Civ.num y 5 1)) % 7 + (wk - 1) * 7 := by
  have d := Zn.dim_all y 5 (by omega) (by omega)
  simp only [Zn.nth, mayR]
  unfold Civ.nthD
  rw [if_neg (by omega)]
theorem may_occ (y wk wd s o : Int) : Zn.occR (mayR y wk wd s o) = [(Zn.nth (mayR y wk wd s o) y * 86400 + s, o)] := by
  have : Zn.yrs (mayR y wk wd s o) = 1 := by unfold Zn.yrs mayR; simp only; omega
  unfold Zn.occR; rw [this, Zn.occ, Zn.occ]; rfl
theorem may_cnt (y wk wd s o : Int) : (mayR y wk wd s o).to - (mayR y wk wd s o).fr + 1 = 1 := by unfold mayR; simp only; omega
/-- One rule. -/
theorem lim_one {y off o : Int} (hy : 2000 ≤ y ∧ y ≤ 2029) (h1 : -64800 ≤ off ∧ off ≤ 64800) (ho : -64800 ≤ o ∧ o ≤ 64800) (hne : o ≠ off) :
    (Zn.trans off [mayR y 1 0 0 o]).2 = if o - off ≤ -86400 ∨ 86400 ≤ o - off then 6 else 0 := by
  have hok := may_ok (y := y) (wk := 1) (wd := 0) (s := 0) (o := o) hy (by omega) (by omega) (by omega) ho
  have d := may_day hy
  have hn := may_nth (y := y) (wk := 1) (wd := 0) (s := 0) (o := o) hy (by omega)
  have hf : Zn.flat [mayR y 1 0 0 o] = [(Zn.nth (mayR y 1 0 0 o) y * 86400 + 0, o)] := by unfold Zn.flat; simp [may_occ]
  have es : ∀ x : Int × Int, Zs.srt [x] = [x] := fun x => Zs.srt_self (Zs.Asc.one _)
  unfold Zn.trans
  rw [if_neg (by rw [Zn.okO_iff.2 h1]; decide), if_neg (by simp), if_neg (by simp [hok]), if_neg (by unfold Zn.cnt; simp [may_cnt]), hf, es]
  by_cases h : o - off ≤ -86400 ∨ 86400 ≤ o - off
  · rw [if_pos h, Zn.fol_bad hne (by omega)]
  · rw [if_neg h, Zn.fol_add hne (by omega), Zn.fol]; rfl
/-- Two rules a week apart on the clock. -/
theorem lim_two {y s : Int} (hy : 2000 ≤ y ∧ y ≤ 2029) (hs : s = 7200 ∨ s = 10800) :
    (Zn.trans 0 [mayR y 1 2 7200 3600, mayR y 2 2 s 0]).2 = if s = 7200 then 6 else 0 := by
  have k1 := may_ok (y := y) (wk := 1) (wd := 2) (s := 7200) (o := 3600) hy (by omega) (by omega) (by omega) (by omega)
  have k2 := may_ok (y := y) (wk := 2) (wd := 2) (s := s) (o := 0) hy (by omega) (by omega) (by omega) (by omega)
  have d := may_day hy
  have n1 := may_nth (y := y) (wk := 1) (wd := 2) (s := 7200) (o := 3600) hy (by omega)
  have n2 := may_nth (y := y) (wk := 2) (wd := 2) (s := s) (o := 0) hy (by omega)
  have hf : Zn.flat [mayR y 1 2 7200 3600, mayR y 2 2 s 0] = [(Zn.nth (mayR y 1 2 7200 3600) y * 86400 + 7200, 3600), (Zn.nth (mayR y 2 2 s 0) y * 86400 + s, 0)] := by unfold Zn.flat; simp [may_occ]
  rw [n1, n2] at hf
  obtain ⟨N, hN⟩ : ∃ N, Civ.num y 5 1 + (2 - Civ.wd (Civ.num y 5 1)) % 7 = N := ⟨_, rfl⟩
  rw [hN] at hf
  have hNb : 10000 ≤ N ∧ N ≤ 22006 := by omega
  have es : Zs.srt [((N + (1 - 1) * 7) * 86400 + 7200, (3600 : Int)), ((N + (2 - 1) * 7) * 86400 + s, 0)] = [((N + (1 - 1) * 7) * 86400 + 7200, 3600), ((N + (2 - 1) * 7) * 86400 + s, 0)] :=
    Zs.srt_self (Zs.Asc.cons.2 ⟨fun z hz => by simp only [List.mem_singleton] at hz; subst hz; simp only; omega, Zs.Asc.one _⟩)
  unfold Zn.trans
  rw [if_neg (by decide), if_neg (by simp), if_neg (by simp [k1, k2]), if_neg (by unfold Zn.cnt; simp [may_cnt]), hf, es, Zn.fol_add (by omega) (by omega)]
  rcases hs with rfl | rfl
  · rw [Zn.fol_bad (by omega) (by omega)]; rfl
  · rw [Zn.fol_add (by omega) (by omega), Zn.fol]; rfl
/-- Sixteen rules. -/
def manyR (k : Nat) : List Zn.Rule := (List.range k).map fun i : Nat => ⟨1980 + 2 * i, 1980 + 2 * i, 1, 1, (i : Int) % 7, 0, 60 * (i + 1)⟩
theorem manyR_succ (k : Nat) : manyR (k + 1) = manyR k ++ [⟨1980 + 2 * k, 1980 + 2 * k, 1, 1, (k : Int) % 7, 0, 60 * (k + 1)⟩] := by unfold manyR; simp [List.range_succ]
theorem manyR_len (k : Nat) : (manyR k).length = k := by simp [manyR]
theorem many_trans : ∃ ts, Zn.trans 0 (manyR 16) = (ts, 0) ∧ ts.length = 16 := ⟨(Zn.trans 0 (manyR 16)).1, Prod.ext rfl (by kernel_rfl), by kernel_rfl⟩
theorem more_trans (r : Zn.Rule) : Zn.trans 0 (manyR 16 ++ [r]) = ([], 5) := by
  unfold Zn.trans
  rw [if_neg (by decide), if_pos (by rw [List.length_append, manyR_len]; simp)]
theorem far_trans : Zn.trans 64801 [] = ([], 1) := by kernel_rfl
theorem manyR_fit : ∀ r ∈ manyR 16, Zn.okR r = true := by
  have : (manyR 16).all Zn.okR = true := by kernel_rfl
  exact List.all_eq_true.1 this
end Go.Proofs.YtegnfmpbhindaaaDoor
