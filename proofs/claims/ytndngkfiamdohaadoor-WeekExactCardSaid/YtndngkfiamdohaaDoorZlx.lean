/- What the laws say of the clock, in the words of package zone's answers. -/
import Derived.Test.YtndngkfiamdohaaDoorZlw
namespace Go.Proofs.YtndngkfiamdohaaDoor
open Go.RowKit
set_option linter.unusedVariables false
set_option linter.unusedSimpArgs false

theorem offE_ok {x : Int} (h : 0 ≤ x) (h2 : x ≤ 8589934592) : offE 0 x = 0 := by unfold offE; rw [if_neg (by simp), if_neg (by omega)]
theorem offV_ok {off : Int} {ts : Zn.L} {x : Int} (h : 0 ≤ x) (h2 : x ≤ 8589934592) : offV off ts 0 x = Zn.offAt off ts x := by unfold offV; rw [if_neg (by simp), if_neg (by omega)]
theorem locV_ok {off : Int} {ts : Zn.L} {x v : Int} (h : 0 ≤ x) (h2 : x ≤ 8589934592) (hv : Zn.cl off ts x = v) : locV off ts 0 x = (v / 86400, v % 86400) := by
  unfold locV; rw [offE_ok h h2, if_neg (by simp), offV_ok h h2, ← hv]; rfl
theorem locS_toL {v : Int} (h : 0 ≤ v) (h2 : v ≤ 8590000000) : Zn.locS (v / 86400) (v % 86400) = v := by
  unfold Zn.locS Zn.clamp; omega
theorem okD_mod (v : Int) : Zn.okD (v % 86400) = true := Zn.okD_iff.2 (by omega)
theorem frmV_ok {off : Int} {ts : Zn.L} {d s v : Int} (hs : Zn.okD s = true) (h : Zn.locS d s = v) : frmV off ts 0 d s = Zn.frm v (Zn.strs 0 off ts) := by
  unfold frmV; rw [if_neg (by simp), if_neg (by rw [hs]; decide), h]
theorem frmE_ok {s : Int} (hs : Zn.okD s = true) : frmE 0 s = 0 := by unfold frmE; rw [if_neg (by simp), if_neg (by rw [hs]; decide)]
theorem fstV_ok {off : Int} {ts : Zn.L} {d s v x : Int} (hs : Zn.okD s = true) (h : Zn.locS d s = v) (hx : Zn.fst v (Zn.strs 0 off ts) = some x) : fstV off ts 0 d s = x ∧ fstE off ts 0 d s = 0 := by
  unfold fstV fstE; rw [if_neg (by simp), if_neg (by rw [hs]; decide), if_neg (by simp), if_neg (by rw [hs]; decide), h, hx]
  exact ⟨rfl, rfl⟩
/-- An instant, its local time, and the instants of that. -/
structure Back (off : Int) (ts : Zn.L) (x D S x0 : Int) (xs : List Int) : Prop where
  loc : locV off ts 0 x = (D, S)
  offe : offE 0 x = 0
  dlo : 0 ≤ D
  dhi : D ≤ 1000000
  frm : frmV off ts 0 D S = xs
  frme : frmE 0 S = 0
  fst : fstV off ts 0 D S = x0
  fste : fstE off ts 0 D S = 0
  len1 : 1 ≤ xs.length
  len2 : xs.length ≤ 2
  head : xs.getD 0 0 = x0
  all : ∀ t ∈ xs, locV off ts 0 t = (D, S) ∧ offE 0 t = 0 ∧ 0 ≤ t ∧ t ≤ 8589934592
  asc : xs.length = 2 → xs.getD 0 0 < xs.getD 1 0
  mem : x ∈ xs
theorem back_of {off : Int} {ts : Zn.L} {x : Int} (h : Zn.Vz off ts) (h1 : 1600000000 ≤ x) (h2 : x ≤ 1900000000) : ∃ D S x0 xs, Back off ts x D S x0 xs := by
  have hb := h.bd x
  obtain ⟨v, hv⟩ : ∃ v, Zn.cl off ts x = v := ⟨_, rfl⟩
  have hv1 : 1599000000 ≤ v ∧ v ≤ 1901000000 := by rw [← hv]; unfold Zn.cl; omega
  have hm := (h.mem (v := v) x).2 ⟨by omega, by omega, hv⟩
  have hl := h.len v
  have ha := Zn.frm_asc (v := v) h.vt (show (0 : Int) ≤ 8589934592 by omega) (Int.le_refl 0)
  have hd := okD_mod v
  have hs := locS_toL (v := v) (by omega) (by omega)
  cases e : Zn.frm v (Zn.strs 0 off ts) with
  | nil => rw [e] at hm; cases hm
  | cons x0 r =>
    have hf := h.fst_head (by omega) e
    have hfv := fstV_ok hd hs hf
    refine ⟨v / 86400, v % 86400, x0, x0 :: r, ⟨locV_ok (by omega) (by omega) hv, offE_ok (by omega) (by omega), by omega, by omega, (frmV_ok hd hs).trans e, frmE_ok hd, hfv.1, hfv.2, by simp, by rw [← e]; exact hl, rfl, fun t ht => ?_, fun h2 => ?_, by rw [← e]; exact hm⟩⟩
    · rw [← e] at ht
      obtain ⟨t1, t2, t3⟩ := (h.mem t).1 ht
      exact ⟨locV_ok t1 t2 t3, offE_ok t1 t2, t1, t2⟩
    · rw [e] at ha
      match r, h2, ha with
      | [], h2, _ => simp at h2
      | y :: r, _, ha => simpa using (List.pairwise_cons.1 ha).1 y (by simp)
/-- The first instant of a local time, and what the clock shows then. -/
theorem asc_at {off : Int} {ts : Zn.L} {D S : Int} (h : Zn.Vz off ts) (d1 : 10000 ≤ D) (d2 : D ≤ 30000) (s1 : 0 ≤ S) (s2 : S < 86400) :
    ∃ x D' S', fstV off ts 0 D S = x ∧ fstE off ts 0 D S = 0 ∧ Zn.fst (D * 86400 + S) (Zn.strs 0 off ts) = some x ∧ locV off ts 0 x = (D', S') ∧ offE 0 x = 0 ∧ 0 ≤ x ∧ x ≤ 8589934592 ∧ (D < D' ∨ D = D' ∧ S ≤ S') := by
  obtain ⟨x, y, x1, y1, x2, x3, -, -, x4, -, -, -⟩ := h.asc (v := D * 86400 + S) (by omega) (by omega)
  have hd : Zn.okD S = true := Zn.okD_iff.2 ⟨s1, s2⟩
  have hs : Zn.locS D S = D * 86400 + S := by unfold Zn.locS Zn.clamp; omega
  have hf := fstV_ok hd hs x1
  exact ⟨x, _, _, hf.1, hf.2, x1, locV_ok x2 x3 rfl, offE_ok x2 x3, x2, x3, by omega⟩
theorem asc_next {off : Int} {ts : Zn.L} {v a b : Int} (h : Zn.Vz off ts) (h1 : 800000000 ≤ v) (h2 : v ≤ 3000000000) (ha : Zn.fst v (Zn.strs 0 off ts) = some a) (hb : Zn.fst (v + 86400) (Zn.strs 0 off ts) = some b) : a < b ∧ b < a + 172800 := by
  obtain ⟨x, y, x1, y1, -, -, -, -, -, -, h3, h4⟩ := h.asc (v := v) (by omega) (by omega)
  rw [ha] at x1; rw [hb] at y1
  cases x1; cases y1
  exact ⟨h3, h4⟩
/-- Around a transition. -/
structure Leap (off : Int) (ts : Zn.L) (a_ b_ at_ : Int) : Prop where
  offa : offV off ts 0 (at_ - 1) = a_
  offb : offV off ts 0 at_ = b_
  ea : offE 0 (at_ - 1) = 0
  eb : offE 0 at_ = 0
  ne : a_ ≠ b_
  lo : 1600000000 ≤ at_
  hi : at_ ≤ 1900000000
  abd : -64800 ≤ a_ ∧ a_ ≤ 64800
  bbd : -64800 ≤ b_ ∧ b_ ≤ 64800
theorem leap_of {off : Int} {ts : Zn.L} {k : Nat} (h : Zn.Vz off ts) (hk : k < ts.length) (hb : ∀ x ∈ ts, 1700000000 ≤ x.1 ∧ x.1 ≤ 1800000000) : ∃ a_, Leap off ts a_ (ts.getD k (0, 0)).2 (ts.getD k (0, 0)).1 := by
  obtain ⟨e1, e2⟩ := Zn.strs_at h hk
  have hne := Zn.vt_ne h.vt k hk
  have hm : ts.getD k (0, 0) ∈ ts := by
    rw [show ts.getD k (0, 0) = ts[k] by simp [List.getD, hk]]; exact List.getElem_mem hk
  have hbd := hb _ hm
  have b1 := h.bd ((ts.getD k (0, 0)).1 - 1)
  have b2 := h.bd (ts.getD k (0, 0)).1
  refine ⟨_, ⟨(offV_ok (by omega) (by omega)).trans e2, (offV_ok (by omega) (by omega)).trans e1, offE_ok (by omega) (by omega), offE_ok (by omega) (by omega), hne, by omega, by omega, ?_, ?_⟩⟩
  · rw [← e2]; exact b1
  · rw [← e1]; exact b2
theorem Leap.fwd {off : Int} {ts : Zn.L} {a_ b_ at_ v : Int} (h : Leap off ts a_ b_ at_) (hz : Zn.Vz off ts) (hlt : a_ < b_) (h1 : at_ + a_ ≤ v) (h2 : v < at_ + b_) :
    frmV off ts 0 (v / 86400) (v % 86400) = [] ∧ frmE 0 (v % 86400) = 0 ∧ fstV off ts 0 (v / 86400) (v % 86400) = at_ ∧ fstE off ts 0 (v / 86400) (v % 86400) = 0 := by
  have g1 := h.lo; have g2 := h.hi; have g3 := h.abd; have g4 := h.bbd
  have e1 := h.offa; have e2 := h.offb
  rw [offV_ok (by omega) (by omega)] at e1 e2
  obtain ⟨q1, q2⟩ := hz.leap e1 e2 hlt (by omega) (by omega) h1 h2
  have hs := locS_toL (v := v) (by omega) (by omega)
  have hf := fstV_ok (okD_mod v) hs q2
  exact ⟨(frmV_ok (okD_mod v) hs).trans q1, frmE_ok (okD_mod v), hf.1, hf.2⟩
theorem Leap.bwd {off : Int} {ts : Zn.L} {a_ b_ at_ v : Int} (h : Leap off ts a_ b_ at_) (hz : Zn.Vz off ts) (hlt : b_ < a_) (h1 : at_ + b_ ≤ v) (h2 : v < at_ + a_) :
    frmV off ts 0 (v / 86400) (v % 86400) = [v - a_, v - b_] ∧ frmE 0 (v % 86400) = 0 ∧ fstV off ts 0 (v / 86400) (v % 86400) = v - a_ ∧ fstE off ts 0 (v / 86400) (v % 86400) = 0 := by
  have g1 := h.lo; have g2 := h.hi; have g3 := h.abd; have g4 := h.bbd
  have e1 := h.offa; have e2 := h.offb
  rw [offV_ok (by omega) (by omega)] at e1 e2
  obtain ⟨q1, q2⟩ := hz.back e1 e2 hlt (by omega) (by omega) h1 h2
  have hs := locS_toL (v := v) (by omega) (by omega)
  have hf := fstV_ok (okD_mod v) hs q2
  exact ⟨(frmV_ok (okD_mod v) hs).trans q1, frmE_ok (okD_mod v), hf.1, hf.2⟩
/-- What stands while a law goes on: the zone's value at its block. -/
structure ZK (w : World) (s : ByteArray) (off : Int) (A' : Option Addr) (n' c' : Nat) (rs : List Zn.Rule) (bz : Nat) (W : World) : Prop where
  z : ZIn W A' n' rs
  zb : ZBlk W bz s off A' n' c'
  bel : Below w.heap.size w W
theorem ZK.after {w : World} {s : ByteArray} {off : Int} {A' : Option Addr} {n' c' : Nat} {rs : List Zn.Rule} {bz : Nat} {W W' : World} (h : ZK w s off A' n' c' rs bz W) (hb : Below W.heap.size W W') : ZK w s off A' n' c' rs bz W' :=
  ⟨h.z.below hb, BlkAt.after h.zb hb, bstep h.bel hb⟩
end Go.Proofs.YtndngkfiamdohaaDoor
