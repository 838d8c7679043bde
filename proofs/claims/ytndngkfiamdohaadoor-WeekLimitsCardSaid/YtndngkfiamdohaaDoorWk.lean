/- Plain facts on windows of the civil week: which are right, their lengths, what is left out, the times of a range. No program is named here. -/
import Derived.Test.YtndngkfiamdohaaDoorZl
namespace Go.Proofs.YtndngkfiamdohaaDoor
set_option linter.unusedSimpArgs false
set_option linter.unusedVariables false
namespace Wk
abbrev L := List (Int × Int)
def chkF : Int → L → Int
  | _, [] => 0
  | e, w :: t => if w.1 < 0 ∨ w.2 ≤ w.1 ∨ 604800 < w.2 then 1 else if w.1 < e then 6 else chkF w.2 t
def chk (l : L) : Int := if 14 < l.length then 5 else chkF 0 l
/-- The second of the week. -/
def sow (v : Int) : Int := Civ.wd (v / 86400) * 86400 + v % 86400
theorem sow_eq (v : Int) : sow v = (v + 259200) % 604800 := by unfold sow Civ.wd; omega
def within (l : L) (s : Int) : Bool := l.any fun w => decide (w.1 ≤ s ∧ s < w.2)
def lenS : L → Int
  | [] => 0
  | w :: t => (w.2 - w.1) + lenS t
def lenW (l : L) : Int := if chk l = 0 then lenS l else 0
def inv : Int → L → L
  | e, [] => if e < 604800 then [(e, 604800)] else []
  | e, w :: t => if e < w.1 then (e, w.1) :: inv w.2 t else inv w.2 t
def invV (l : L) : L := if chk l = 0 then (if 14 < (inv 0 l).length then [] else inv 0 l) else []
def invE (l : L) : Int := if chk l = 0 then (if 14 < (inv 0 l).length then 5 else 0) else 8
/-- A range behind a set that ends at its beginning or before. -/
def addP (s : L) (a b : Int) : L := if b ≤ a then s else match s.getLast? with
  | none => s ++ [(a, b)]
  | some y => if y.2 = a then s.dropLast ++ [(y.1, b)] else s ++ [(a, b)]
def addW (l : L) (f t m : Int) (s : L) : L := l.foldl (fun s w => addP s (max (m + w.1) f) (min (m + w.2) t)) s
def addK (l : L) (f t : Int) : Nat → Int → L → L
  | 0, _, s => s
  | k + 1, m, s => addK l f t k (m + 604800) (addW l f t m s)
def wks (m t : Int) : Nat := ((t - m + 604799) / 604800).toNat
def addR (l : L) (off f t : Int) (s : L) : L := if t ≤ f then s else addK l f t (wks (f - sow (f + off)) t) (f - sow (f + off)) s
def tms : L → Int → L → L → Int → Int → L
  | s, off, [], l, f, t => addR l off f t s
  | s, off, (a, o) :: ts, l, f, t => tms (addR l off f (min a t) s) o ts l (max a f) t

theorem wks_step {m t : Int} (h : m < t) : wks m t = wks (m + 604800) t + 1 := by unfold wks; omega
theorem wks_done {m t : Int} (h : t ≤ m) : wks m t = 0 := by unfold wks; omega
theorem addK_step {l : L} {f t m : Int} {s : L} (h : m < t) : addK l f t (wks m t) m s = addK l f t (wks (m + 604800) t) (m + 604800) (addW l f t m s) := by rw [wks_step h]; rfl
theorem addK_done {l : L} {f t m : Int} {s : L} (h : t ≤ m) : addK l f t (wks m t) m s = s := by rw [wks_done h]; rfl

/-- Right windows from e on. -/
def Rt : Int → L → Prop
  | _, [] => True
  | e, w :: t => e ≤ w.1 ∧ w.1 < w.2 ∧ w.2 ≤ 604800 ∧ Rt w.2 t
theorem rt_of : ∀ {l : L} {e : Int}, chkF e l = 0 → Rt e l
  | [], _, _ => trivial
  | w :: t, e, h => by
    rw [chkF] at h
    split at h
    · cases h
    · split at h
      · cases h
      · exact ⟨by omega, by omega, by omega, rt_of h⟩
theorem rt_chk : ∀ {l : L} {e : Int}, 0 ≤ e → Rt e l → chkF e l = 0
  | [], _, _, _ => rfl
  | w :: t, e, h0, ⟨h1, h2, h3, h4⟩ => by
    rw [chkF, if_neg (by omega), if_neg (by omega)]
    exact rt_chk (by omega) h4
theorem chk_ok {l : L} (h : chk l = 0) : Rt 0 l ∧ l.length ≤ 14 := by
  unfold chk at h
  split at h
  · cases h
  · exact ⟨rt_of h, by omega⟩
theorem chk_of {l : L} (h : Rt 0 l) (h2 : l.length ≤ 14) : chk l = 0 := by
  unfold chk; rw [if_neg (by omega)]; exact rt_chk (Int.le_refl 0) h
theorem Rt.mono {e e' : Int} : ∀ {l : L}, Rt e l → e' ≤ e → Rt e' l
  | [], _, _ => trivial
  | w :: t, ⟨h1, h2⟩, h => ⟨by omega, h2⟩
theorem Rt.mem {e : Int} : ∀ {l : L}, Rt e l → ∀ w ∈ l, e ≤ w.1 ∧ w.1 < w.2 ∧ w.2 ≤ 604800
  | [], _, w, hw => by cases hw
  | x :: t, ⟨h1, h2, h3, h4⟩, w, hw => by
    rcases List.mem_cons.1 hw with rfl | hw
    · exact ⟨h1, h2, h3⟩
    · have := Rt.mem h4 w hw; exact ⟨by omega, this.2⟩
theorem Rt.lens {e : Int} : ∀ {l : L}, Rt e l → 0 ≤ lenS l ∧ (e ≤ 604800 → lenS l ≤ 604800 - e)
  | [], _ => ⟨Int.le_refl 0, fun h => by show (0 : Int) ≤ _; omega⟩
  | x :: t, ⟨h1, h2, h3, h4⟩ => by
    have := Rt.lens h4
    unfold lenS
    exact ⟨by omega, fun _ => by have := this.2 h3; omega⟩
theorem lenS_app (a b : L) : lenS (a ++ b) = lenS a + lenS b := by
  induction a with
  | nil => simp [lenS]
  | cons x t ih => rw [List.cons_append, lenS, lenS, ih]; omega
theorem inv_len : ∀ (l : L) (e : Int), (inv e l).length ≤ l.length + 1
  | [], e => by unfold inv; split <;> simp
  | w :: t, e => by
    unfold inv; have := inv_len t w.2
    split <;> simp <;> omega
/-- What was left out, left out again. -/
def mrg : Int → Int → L → L
  | s, e, [] => [(s, e)]
  | s, e, w :: t => if e < w.1 then (s, e) :: mrg w.1 w.2 t else mrg s w.2 t
theorem inv_inv : ∀ {l : L} {s e : Int}, Rt e l → s < e → e ≤ 604800 → inv s (inv e l) = mrg s e l
  | [], s, e, _, h, h2 => by
    by_cases h3 : e < 604800
    · simp [inv, mrg, h3, h]
    · obtain rfl : e = 604800 := by omega
      simp [inv, mrg, h]
  | w :: t, s, e, ⟨h1, h2, h3, h4⟩, h, h5 => by
    rw [inv, mrg]
    by_cases h6 : e < w.1
    · rw [if_pos h6, if_pos h6, inv, if_pos h, inv_inv h4 h2 h3]
    · rw [if_neg h6, if_neg h6]
      exact inv_inv h4 (by omega) h3
theorem inv_twice {l : L} (h : Rt 0 l) : inv 0 (inv 0 l) = match l with | [] => [] | w :: t => mrg w.1 w.2 t := by
  match l, h with
  | [], _ => rfl
  | w :: t, ⟨h1, h2, h3, h4⟩ =>
    simp only [inv]
    by_cases h6 : 0 < w.1
    · rw [if_pos h6, inv, if_neg (by omega)]
      exact inv_inv h4 h2 h3
    · rw [if_neg h6, inv_inv h4 (by omega) h3, show w.1 = 0 by omega]
theorem mrg_len : ∀ (l : L) (s e : Int), (mrg s e l).length ≤ l.length + 1
  | [], s, e => by simp [mrg]
  | w :: t, s, e => by
    unfold mrg; split
    · have := mrg_len t w.1 w.2; simp; omega
    · have := mrg_len t s w.2; simp; omega
/-- Spans from e on, no two of which touch. -/
def Sep : Int → L → Prop
  | _, [] => True
  | e, w :: t => e ≤ w.1 ∧ w.1 < w.2 ∧ Sep (w.2 + 1) t
theorem Sep.mono {e e' : Int} : ∀ {l : L}, Sep e l → e' ≤ e → Sep e' l
  | [], _, _ => trivial
  | w :: t, ⟨h1, h2⟩, h => ⟨by omega, h2⟩
theorem mrg_sep : ∀ {l : L} {s e : Int}, Rt e l → s < e → Sep s (mrg s e l)
  | [], s, e, _, h => ⟨Int.le_refl s, h, trivial⟩
  | w :: t, s, e, ⟨h1, h2, h3, h4⟩, h => by
    unfold mrg; split
    · exact ⟨Int.le_refl s, h, (mrg_sep h4 h2).mono (by omega)⟩
    · exact mrg_sep h4 (by omega)
theorem twice_sep {l : L} (h : Rt 0 l) : Sep 0 (inv 0 (inv 0 l)) ∧ (inv 0 (inv 0 l)).length ≤ l.length := by
  rw [inv_twice h]
  match l, h with
  | [], _ => exact ⟨trivial, Nat.le_refl _⟩
  | w :: t, ⟨h1, h2, h3, h4⟩ => exact ⟨(mrg_sep h4 h2).mono h1, mrg_len _ _ _⟩
theorem inv_rt : ∀ {l : L} {e : Int}, Rt e l → 0 ≤ e → e ≤ 604800 → Rt e (inv e l)
  | [], e, _, _, h => by unfold inv; split <;> simp [Rt] <;> omega
  | w :: t, e, ⟨h1, h2, h3, h4⟩, h5, h => by
    unfold inv; split
    · exact ⟨Int.le_refl e, by omega, by omega, (inv_rt h4 (by omega) h3).mono (by omega)⟩
    · exact (inv_rt h4 (by omega) h3).mono (by omega)
theorem inv_lens : ∀ {l : L} {e : Int}, Rt e l → e ≤ 604800 → lenS (inv e l) + lenS l = 604800 - e
  | [], e, _, h => by unfold inv; split <;> simp [lenS] <;> omega
  | w :: t, e, ⟨h1, h2, h3, h4⟩, h => by
    have := inv_lens h4 h3
    unfold inv; split <;> simp only [lenS] <;> omega
theorem within_nil (s : Int) : within [] s = false := rfl
theorem within_cons (w : Int × Int) (t : L) (s : Int) : within (w :: t) s = (decide (w.1 ≤ s ∧ s < w.2) || within t s) := by simp [within]
theorem Rt.out {e s : Int} : ∀ {l : L}, Rt e l → s < e → within l s = false
  | [], _, _ => rfl
  | w :: t, ⟨h1, h2, h3, h4⟩, h => by
    rw [within_cons, Rt.out h4 (by omega), decide_eq_false (by omega)]; rfl
theorem inv_with : ∀ {l : L} {e s : Int}, Rt e l → 0 ≤ e → e ≤ 604800 → e ≤ s → s < 604800 → within (inv e l) s = !within l s
  | [], e, s, _, _, _, h1, h2 => by
    unfold inv; split
    · simp [within, h1, h2]
    · omega
  | w :: t, e, s, ⟨h1, h2, h3, h4⟩, h5, h6, h7, h8 => by
    have key : within (inv e (w :: t)) s = (decide (e ≤ s ∧ s < w.1) || within (inv w.2 t) s) := by
      show within (if e < w.1 then (e, w.1) :: inv w.2 t else inv w.2 t) s = _
      split
      · rw [within_cons]
      · rw [decide_eq_false (by omega)]; rfl
    rw [key, within_cons]
    by_cases a : s < w.2
    · rw [(inv_rt h4 (by omega) h3).out a, h4.out a]
      by_cases b : s < w.1
      · rw [decide_eq_true (by omega), decide_eq_false (by omega)]; rfl
      · rw [decide_eq_false (by omega), decide_eq_true (by omega)]; rfl
    · rw [inv_with h4 (by omega) h3 (by omega) h8, decide_eq_false (by omega), decide_eq_false (by omega)]; simp
theorem sow_bd (v : Int) : 0 ≤ sow v ∧ sow v < 604800 := by rw [sow_eq]; omega
end Wk
end Go.Proofs.YtndngkfiamdohaaDoor
