/- Plain facts for the laws on sets. -/
import Derived.Test.YtnleelkdoagfcaaSpj
set_option linter.unusedVariables false
namespace Spn
theorem mod_code (n k : Int) : (n.tmod k + k) % k = n % k := by
  have e := Int.tmod_add_mul_tdiv n k
  have h : n % k = (n.tmod k + k * n.tdiv k) % k := by rw [e]
  rw [h, Int.add_mul_emod_self_left, Int.add_emod_right]
section
variable {r : L} {x k : Int}
theorem nxt_of (hv : vld r = true) (h : cov r k) (hk : x ≤ k) : ∃ u, nxt r x = some u ∧ u ∈ r ∧ x < u.2 ∧ u.1 ≤ k := by
  obtain ⟨s, hs, a, b⟩ := h
  have hc := ((vld_iff r).1 hv).2.2
  rcases hn : nxt r x with _ | u
  · have := nxt_all hn s hs; omega
  · have hm := nxt_mem hn
    have hl := nxt_least hc hn s hs (by omega)
    exact ⟨u, rfl, hm.1, hm.2, by omega⟩
theorem first_le (hv : vld r = true) (h : has r k = true) (hk : x ≤ k) : (fst r x).2 = true ∧ (fst r x).1 ≤ k := by
  obtain ⟨u, hn, _, _, h1⟩ := nxt_of hv ((has_iff r k).1 h).2 hk
  rw [fst_some hv hn]
  exact ⟨rfl, by simp only; omega⟩
theorem gap_le (hv : vld r = true) (h : has r k = false) (hk : x ≤ k) : gap r x ≤ k := by
  rcases Int.lt_or_le k (gap r x) with hlt | hle
  · exfalso
    by_cases hx : has r x = true
    · obtain ⟨-, s, hs, a, b⟩ := (has_iff r x).1 hx
      rw [gap_of hv hs ⟨a, b⟩] at hlt
      have : has r k = true := (has_iff r k).2 ⟨hv, s, hs, by omega, hlt⟩
      rw [h] at this; cases this
    · have : gap r x = x := by unfold gap; rw [if_neg hx]
      omega
  · exact hle
theorem first_in (hv : vld r = true) (h : (fst r x).2 = true) : x ≤ (fst r x).1 ∧ has r (fst r x).1 = true := by
  rcases hn : nxt r x with _ | u
  · rw [fst_none hn] at h; cases h
  · rw [fst_some hv hn]
    have hm := nxt_mem hn
    have hc := ((vld_iff r).1 hv).2.2
    have := hc.1 u hm.1
    simp only
    exact ⟨by omega, (has_iff r _).2 ⟨hv, u, hm.1, by omega, by omega⟩⟩
theorem gap_out (hv : vld r = true) : x ≤ gap r x ∧ has r (gap r x) = false := by
  by_cases hx : has r x = true
  · obtain ⟨-, s, hs, a, b⟩ := (has_iff r x).1 hx
    rw [gap_of hv hs ⟨a, b⟩]
    refine ⟨by omega, ?_⟩
    rw [← Bool.not_eq_true, has_iff]
    rintro ⟨-, t, ht, h1, h2⟩
    have hc := ((vld_iff r).1 hv).2.2
    obtain ⟨i, hi, rfl⟩ := List.getElem_of_mem hs
    obtain ⟨j, hj, rfl⟩ := List.getElem_of_mem ht
    rcases Nat.lt_trichotomy i j with e | e | e
    · have := List.pairwise_iff_getElem.1 hc.2 i j hi hj e; omega
    · subst e; omega
    · have := List.pairwise_iff_getElem.1 hc.2 j i hj hi e
      have := hc.1 r[i] (List.getElem_mem _); omega
  · have e : gap r x = x := by unfold gap; rw [if_neg hx]
    rw [e]
    exact ⟨Int.le_refl _, by simpa using hx⟩
end

/-! ### Combinations, point by point. -/
section
variable {a b c r s : L} {keep : Bool → Bool → Bool}
theorem comb_vld (h : Comb keep a b r) (hk : keep false false = false) (ha : vld a = true) (hb : vld b = true) (hl : r.length ≤ 4096) : vld r = true ∧ ∀ x, has r x = keep (has a x) (has b x) := by
  have hb2 : ∀ s ∈ r, 0 ≤ s.1 ∧ s.2 ≤ 8589934592 := fun s hs => by
    have hlt := h.1.1 s hs
    have k1 := (h.2 s.1).2 ⟨s, hs, by omega, by omega⟩
    have k2 := (h.2 (s.2 - 1)).2 ⟨s, hs, by omega, by omega⟩
    have lim : ∀ x, Kept keep a b x → 0 ≤ x ∧ x < 8589934592 := fun x hx => by
      unfold Kept at hx
      by_cases h1 : has a x = true
      · obtain ⟨-, t, ht, p, q⟩ := (has_iff a x).1 h1
        have := vld_all ha t ht; omega
      · by_cases h2 : has b x = true
        · obtain ⟨-, t, ht, p, q⟩ := (has_iff b x).1 h2
          have := vld_all hb t ht; omega
        · rw [show has a x = false by simpa using h1, show has b x = false by simpa using h2, hk] at hx; cases hx
    have := lim _ k1; have := lim _ k2
    exact ⟨by omega, by omega⟩
  have hv : vld r = true := (vld_iff r).2 ⟨hl, hb2, h.1⟩
  refine ⟨hv, fun x => ?_⟩
  rw [Bool.eq_iff_iff, has_iff, ← h.2 x]
  simp [hv, Kept]
theorem comb_of (h : Chain r) (hr : vld r = true) (hp : ∀ x, has r x = keep (has a x) (has b x)) : Comb keep a b r :=
  ⟨h, fun x => by unfold Kept; rw [← hp x, has_iff]; simp [hr]⟩
theorem vld_uniq (hr : vld r = true) (hs : vld s = true) (h : ∀ x, has r x = has s x) : r = s :=
  Spn.uniq r s ((vld_iff r).1 hr).2.2 ((vld_iff s).1 hs).2.2 fun x => by
    have e := h x
    rw [Bool.eq_iff_iff, has_iff, has_iff] at e
    simpa [hr, hs] using e

/-! ### The length of a set is the number of its elements. -/
def tot (l : L) : Nat → Int
  | 0 => 0
  | n + 1 => tot l n + (if has l (n : Int) = true then 1 else 0)
theorem cnt_has (hv : vld r = true) (x : Int) : cnt r x = if has r x = true then 1 else 0 := by
  have hc := ((vld_iff r).1 hv).2.2
  have key : ∀ (l : L), Chain l → cnt l x ≤ 1 := by
    intro l
    induction l with
    | nil => intro _; simp [cnt]
    | cons t l ih =>
      intro h
      obtain ⟨p, q, u⟩ := chain_cons.1 h
      simp only [cnt]
      split
      · rename_i hx
        have : ¬ 0 < cnt l x := fun h2 => by
          obtain ⟨v, hv, h3, h4⟩ := (cnt_pos l x).1 h2
          have := q v hv; omega
        omega
      · have := ih u; omega
  have h1 := key r hc
  have h0 := (cnt_bd r x).1.1
  have hp := cnt_pos r x
  have hh := has_iff r x
  by_cases e : has r x = true
  · rw [if_pos e]
    have := hp.2 (hh.1 e).2
    omega
  · rw [if_neg e]
    have : ¬ 0 < cnt r x := fun h2 => e (hh.2 ⟨hv, hp.1 h2⟩)
    omega
def tc (l : L) : Nat → Int
  | 0 => 0
  | n + 1 => tc l n + cnt l (n : Int)
theorem tc_cons (t : Int × Int) (l : L) : ∀ n, tc (t :: l) n = tc [t] n + tc l n
  | 0 => by simp [tc]
  | n + 1 => by simp only [tc, tc_cons t l n, cnt]; omega
theorem tc_one (t : Int × Int) (h0 : 0 ≤ t.1) (h1 : t.1 < t.2) : ∀ n : Nat, tc [t] n = if (n : Int) ≤ t.1 then 0 else if (n : Int) ≤ t.2 then (n : Int) - t.1 else t.2 - t.1
  | 0 => by simp [tc]; omega
  | n + 1 => by
    simp only [tc, tc_one t h0 h1 n, cnt]
    split <;> split <;> (try split) <;> (try split) <;> (try split) <;> omega
theorem tc_sum (n : Nat) : ∀ (l : L), (∀ s ∈ l, 0 ≤ s.1 ∧ s.1 < s.2 ∧ s.2 ≤ n) → tc l n = sum l
  | [], _ => by
    have : ∀ n, tc [] n = 0 := fun n => by induction n with | zero => rfl | succ n ih => simp [tc, cnt, ih]
    rw [this]; rfl
  | t :: l, h => by
    have ht := h t (by simp)
    rw [tc_cons, tc_sum n l fun s hs => h s (by simp [hs]), tc_one t ht.1 ht.2.1]
    simp only [sum]
    rw [if_neg (by omega)]
    split <;> omega
theorem sum_tot (hv : vld r = true) (n : Nat) (h : ∀ s ∈ r, s.2 ≤ n) : sum r = tot r n := by
  rw [← tc_sum n r fun s hs => by have := vld_all hv s hs; have := h s hs; exact ⟨by omega, by omega, by omega⟩]
  clear h
  induction n with
  | zero => rfl
  | succ n ih => simp only [tc, tot, ih, cnt_has hv]
end
end Spn
