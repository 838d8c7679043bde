/- Plain facts for the reference of time zones. No program is named here. -/
import Derived.Test.YtndngkfiamdohaaDoorZni
namespace Go.Proofs.YtndngkfiamdohaaDoor
set_option linter.unusedVariables false
set_option maxRecDepth 100000
set_option linter.unusedSimpArgs false

theorem offAt_drop {ts : Zn.L} {k : Nat} {a o n x : Int} (h : ts[k]? = some (a, o)) : Zn.offAt n (ts.drop k) x = if a ≤ x then Zn.offAt o (ts.drop (k + 1)) x else n := by
  rw [drop_cons' h, Zn.offAt]
/-- Where the k-th stretch ends. -/
def toK (ts : Zn.L) (k : Nat) : Int := if k < ts.length then (ts.getD k (0, 0)).1 else 8589934593
theorem strs_drop (off : Int) (ts : Zn.L) : ∀ k, k ≤ ts.length → (Zn.strs 0 off ts).drop k = Zn.strK off ts k
  | 0, _ => by rw [List.drop_zero, Zn.strK_zero]
  | k + 1, h => by rw [← List.drop_drop, strs_drop off ts k (by omega), Zn.strK_step off ts k (by omega)]; rfl
theorem strs_get (off : Int) (ts : Zn.L) (k : Nat) (h : k ≤ ts.length) : (Zn.strs 0 off ts)[k]? = some (frK ts k, toK ts k - 1, ofK off ts k) := by
  have e := strs_drop off ts k h
  have e2 : ((Zn.strs 0 off ts).drop k)[0]? = (Zn.strs 0 off ts)[k]? := by rw [List.getElem?_drop]; rfl
  rw [← e2, e]
  by_cases hk : k < ts.length
  · rw [Zn.strK_step off ts k hk]
    unfold toK
    rw [if_pos hk]; rfl
  · obtain rfl : k = ts.length := by omega
    rw [Zn.strK_last]
    unfold toK
    rw [if_neg hk]; rfl
/-- A day that no instant has. -/
theorem not_small {d : Int} (h : ¬ (-2 ≤ d ∧ d ≤ 99422)) {s : Int} (hs : Zn.okD s = true) : Zn.locS d s ≤ -86401 ∨ 8590060800 ≤ Zn.locS d s := by
  rw [Zn.okD_iff] at hs
  unfold Zn.locS Zn.clamp; omega
theorem loc_small {d : Int} (h1 : -2 ≤ d) (h2 : d ≤ 99422) (s : Int) : Zn.locS d s = d * 86400 + s := by
  unfold Zn.locS Zn.clamp
  rw [show min (max d (-2)) 99422 = d by omega]
theorem frm_none {v : Int} : ∀ {ss : Zn.S}, (∀ s ∈ ss, v - s.2.2 < s.1 ∨ s.2.1 < v - s.2.2) → Zn.frm v ss = []
  | [], _ => rfl
  | (f, l, o) :: t, h => by
    have := h (f, l, o) (by simp)
    simp only at this
    rw [Zn.frm, if_neg (by omega)]
    exact frm_none fun s hs => h s (by simp [hs])
theorem fst_none {v : Int} : ∀ {ss : Zn.S}, (∀ s ∈ ss, s.2.1 < v - s.2.2) → Zn.fst v ss = none
  | [], _ => rfl
  | (f, l, o) :: t, h => by
    have := h (f, l, o) (by simp)
    simp only at this
    rw [Zn.fst, if_neg (by omega)]
    exact fst_none fun s hs => h s (by simp [hs])
section
variable {off : Int} {rs : List Zn.Rule} {ts : Zn.L}
theorem strs_bds (h : Zn.trans off rs = (ts, 0)) : ∀ s ∈ Zn.strs 0 off ts, 0 ≤ s.1 ∧ s.1 ≤ 8589934592 ∧ -1 ≤ s.2.1 ∧ s.2.1 ≤ 8589934592 ∧ -64800 ≤ s.2.2 ∧ s.2.2 ≤ 64800 := by
  obtain ⟨k1, k2, k3, k4, k5, k6, k7, k8⟩ := Zn.trans_ok h
  exact Zn.strs_bd (Int.le_refl 0) (by omega) k1 k6 (Int.le_refl 0) k8
theorem frm_far (h : Zn.trans off rs = (ts, 0)) {d s : Int} (hd : ¬ (-2 ≤ d ∧ d ≤ 99422)) (hs : Zn.okD s = true) : Zn.frm (Zn.locS d s) (Zn.strs 0 off ts) = [] :=
  frm_none fun x hx => by have := strs_bds h x hx; have := not_small hd hs; omega
theorem fst_far (h : Zn.trans off rs = (ts, 0)) {d s : Int} (hd : 99422 < d) (hs : Zn.okD s = true) : Zn.fst (Zn.locS d s) (Zn.strs 0 off ts) = none :=
  fst_none fun x hx => by
    have := strs_bds h x hx
    have e : Zn.locS d s = 99422 * 86400 + s := by unfold Zn.locS Zn.clamp; omega
    rw [Zn.okD_iff] at hs
    omega
theorem fst_early (h : Zn.trans off rs = (ts, 0)) {d s : Int} (hd : d < -2) (hs : Zn.okD s = true) : Zn.fst (Zn.locS d s) (Zn.strs 0 off ts) = some 0 := by
  obtain ⟨k1, k2, k3, k4, k5, k6, k7, k8⟩ := Zn.trans_ok h
  have e : Zn.locS d s = -2 * 86400 + s := by unfold Zn.locS Zn.clamp; omega
  rw [Zn.okD_iff] at hs
  rw [Zn.okO_iff] at k1
  rcases ts with _ | ⟨⟨a, o⟩, _ | ⟨⟨a2, o2⟩, t⟩⟩
  · rw [Zn.strs, Zn.fst, show max (Zn.locS d s - off) 0 = 0 by omega, if_pos (by omega)]
  · obtain ⟨-, -, -, g4, g5, -⟩ := k6
    have ho := Zn.okO_iff.1 (k8 (a, o) (by simp))
    simp only at ho
    rw [Zn.strs, Zn.fst, show max (Zn.locS d s - off) 0 = 0 by omega]
    by_cases h0 : 0 ≤ a - 1
    · rw [if_pos h0]
    · obtain rfl : a = 0 := by omega
      rw [if_neg h0, Zn.strs, Zn.fst, show max (Zn.locS d s - o) 0 = 0 by omega, if_pos (by omega)]
  · obtain ⟨-, -, -, g4, g5, -, -, -, g6, -, -⟩ := k6
    have ho := Zn.okO_iff.1 (k8 (a, o) (by simp))
    simp only at ho
    rw [Zn.strs, Zn.fst, show max (Zn.locS d s - off) 0 = 0 by omega]
    by_cases h0 : 0 ≤ a - 1
    · rw [if_pos h0]
    · obtain rfl : a = 0 := by omega
      rw [if_neg h0, Zn.strs, Zn.fst, show max (Zn.locS d s - o) 0 = 0 by omega, if_pos (by omega)]
theorem frK_bd (h : Zn.trans off rs = (ts, 0)) {k : Nat} (hk : k ≤ ts.length) : 0 ≤ frK ts k ∧ frK ts k ≤ 8589934592 ∧ 0 ≤ toK ts k ∧ toK ts k ≤ 8589934593 ∧ -64800 ≤ ofK off ts k ∧ ofK off ts k ≤ 64800 := by
  have := strs_bds h _ (List.mem_of_getElem? (strs_get off ts k hk))
  simp only at this
  omega
end
theorem toK_in {ts : Zn.L} {k : Nat} {a o : Int} (h : ts[k]? = some (a, o)) : toK ts k = a := by
  have hk := (List.getElem?_eq_some_iff.1 h).1
  have hg : ts.getD k (0, 0) = (a, o) := by simp [List.getD, h]
  unfold toK; rw [if_pos hk, hg]
theorem toK_out {ts : Zn.L} {k : Nat} (h : ts.length ≤ k) : toK ts k = 8589934593 := by unfold toK; rw [if_neg (by omega)]
/-- The earliest instant of the next transition, said by those that there are. -/
def earI (out : Zn.L) : Int := if out.length = 0 then 0 else (out.getD (out.length - 1) (0, 0)).1 + 604800
theorem earI_nil : earI [] = 0 := rfl
theorem earI_snoc (out : Zn.L) (x : Int × Int) : earI (out ++ [x]) = x.1 + 604800 := by
  unfold earI; rw [if_neg (by simp)]; simp [List.getD]
theorem earI_some {out : Zn.L} {x : Int × Int} (h : out[out.length - 1]? = some x) : earI out = x.1 + 604800 := by
  have hk := (List.getElem?_eq_some_iff.1 h).1
  unfold earI; rw [if_neg (by omega)]; simp [List.getD, h]
theorem At_radd {l : Zn.L} {f : Option Zn.L} {k : Nat} {now loc o : Int} {out : Zn.L} (h : Zn.At l f k now (earI out) out) (hk : k < l.length) (e : l.getD k (0, 0) = (loc, o)) (h1 : o ≠ now)
    (g1 : -86399 ≤ o - now) (g2 : o - now ≤ 86399) (g4 : loc - now ≤ 8589934592) (g5 : earI out ≤ loc - now) : Zn.At l f (k + 1) o (earI (out ++ [(loc - now, o)])) (out ++ [(loc - now, o)]) := by
  rw [earI_snoc]
  exact h.add hk e h1 (by omega)
theorem At_rbad {l : Zn.L} {f : Option Zn.L} {k : Nat} {now loc o : Int} {out : Zn.L} (h : Zn.At l f k now (earI out) out) (hk : k < l.length) (e : l.getD k (0, 0) = (loc, o)) (h1 : o ≠ now)
    (h0 : 0 ≤ earI out) (g : ¬ (-86399 ≤ o - now ∧ o - now ≤ 86399) ∨ ¬ (0 ≤ loc - now ∧ loc - now ≤ 8589934592) ∨ loc - now < earI out) : f = none := h.bad hk e h1 (by omega)
end Go.Proofs.YtndngkfiamdohaaDoor
