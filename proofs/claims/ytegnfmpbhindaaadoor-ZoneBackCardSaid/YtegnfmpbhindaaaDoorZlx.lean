/- What the laws say of the clock, in the words of package zone's answers. -/
import Derived.Test.YtegnfmpbhindaaaDoorZlw
namespace Go.Proofs.YtegnfmpbhindaaaDoor
open Go.RowKit
set_option linter.unusedVariables false
set_option linter.unusedSimpArgs false

theorem offE_ok {x : Int} (h : 0 ≤ x) (h2 : x ≤ 8589934592) : offE 0 x = 0 := by unfold offE; rw [if_neg (by simp), if_neg (by omega)]
theorem offV_ok {off : Int} {ts : Zn.L} {x : Int} (h : 0 ≤ x) (h2 : x ≤ 8589934592) : offV off ts 0 x = Zn.offAt off ts x := by unfold offV; rw [if_neg (by simp), if_neg (by omega)]
theorem locV_ok {off : Int} {ts : Zn.L} {x v : Int} (h : 0 ≤ x) (h2 : x ≤ 8589934592) (hv : Zn.cl off ts x = v) : locV off ts 0 x = (v / 86400, v % 86400) := by
  unfold locV; rw [offE_ok h h2, if_neg (by simp), offV_ok h h2, ← hv]; rfl
theorem locS_toL {v : Int} (h : 0 ≤ v) (h2 : v ≤ 8590000000) : Zn.locS (v / 86400) (v % 86400) = v := by
  unfold Zn.locS Zn.clamp; omega
theorem okD_mod (v : Int) : Zn.okD (v % 86400) = true := Zn.okD_iff.2 (by omega)
theorem frmV_ok {off : Int} {ts : Zn.L} {d s v : Int} (hs : Zn.okD s = true) (h : Zn.locS d s = v) : frmV off ts 0 d s = Zn.frm v (Zn.strs 0 off ts) := by
  unfold frmV; rw [if_neg (by simp), if_neg (by rw [hs]; decide), h]
theorem frmE_ok {s : Int} (hs : Zn.okD s = true) : frmE 0 s = 0 := by unfold frmE; rw [if_neg (by simp), if_neg (by rw [hs]; decide)]
theorem fstV_ok {off : Int} {ts : Zn.L} {d s v x : Int} (hs : Zn.okD s = true) (h : Zn.locS d s = v) (hx : Zn.fst v (Zn.strs 0 off ts) = some x) : fstV off ts 0 d s = x ∧ fstE off ts 0 d s = 0 := by
  unfold fstV fstE; rw [if_neg (by simp), if_neg (by rw [hs]; decide), if_neg (by simp), if_neg (by rw [hs]; decide), h, hx]
  exact ⟨rfl, rfl⟩
/-- An instant, its local time, and the instants of that. -/
structure Back (off : Int) (ts : Zn.L) (x D S x0 : Int) (xs : List Int) : Prop where
  loc : locV off ts 0 x = (D, S)
  offe : offE 0 x = 0
  dlo : 0 ≤ D
  dhi : D ≤ 1000000
  frm : frmV off ts 0 D S = xs
  frme : frmE 0 S = 0
  fst : fstV off ts 0 D S = x0
  fste : fstE off ts 0 D S = 0
  len1 : 1 ≤ xs.length
  len2 : xs.length ≤ 2
  head : xs.getD 0 0 = x0
  all : ∀ t ∈ xs, locV off ts 0 t = (D, S) ∧ offE 0 t = 0 ∧ 0 ≤ t ∧ t ≤ 8589934592
  asc : xs.length = 2 → xs.getD 0 0 < xs.getD 1 0
  mem : x ∈ xs
theorem back_of {off : Int} {ts : Zn.L} {x : Int} (h : Zn.Vz off ts) (h1 : 1600000000 ≤ x) (h2 : x ≤ 1900000000) : ∃ D S x0 xs, Back off ts x D S x0 xs := by
  have hb := h.bd x
  obtain ⟨v, hv⟩ : ∃ v, Zn.cl off ts x = v := ⟨_, rfl⟩
  have hv1 : 1599000000 ≤ v ∧ v ≤ 1901000000 := by rw [← hv]; unfold Zn.cl; omega
  have hm := (h.mem (v := v) x).2 ⟨by omega, by omega, hv⟩
  have hl := h.len v
  have ha := Zn.frm_asc (v := v) h.vt (show (0 : Int) ≤ 8589934592 by omega) (Int.le_refl 0)
  have hd := okD_mod v
  have hs := locS_toL (v := v) (by omega) (by omega)
  cases e : Zn.frm v (Zn.strs 0 off ts) with
  | nil => rw [e] at hm; cases hm
  | cons x0 r =>
    have hf := h.fst_head (by omega) e
    have hfv := fstV_ok hd hs hf
    refine ⟨v / 86400, v % 86400, x0, x0 :: r, ⟨locV_ok (by omega) (by omega) hv, offE_ok (by omega) (by omega), by omega, by omega, (frmV_ok hd hs).trans e, frmE_ok hd, hfv.1, hfv.2, by simp, by rw [← e]; exact hl, rfl, fun t ht => ?_, fun h2 => ?_, by rw [← e]; exact hm⟩⟩
    · rw [← e] at ht
      obtain ⟨t1, t2, t3⟩ := (h.mem t).1 ht
      exact ⟨locV_ok t1 t2 t3, offE_ok t1 t2, t1, t2⟩
    · rw [e] at ha
      match r, h2, ha with
      | [], h2, _ => simp at h2
      | y :: r, _, ha => simpa using (List.pairwise_cons.1 ha).1 y (by simp)
end Go.Proofs.YtegnfmpbhindaaaDoor
