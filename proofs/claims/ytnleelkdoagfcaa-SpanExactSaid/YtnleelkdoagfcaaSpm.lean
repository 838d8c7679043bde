/- Plain facts: the borders of a set one by one; what a combination is. -/
import Derived.Test.YtnleelkdoagfcaaSpn
set_option linter.unusedVariables false
namespace Spn

theorem getD_eq {l : L} {k : Nat} (h : k < l.length) : l.getD k (0, 0) = l[k] := by simp [List.getD, List.getElem?_eq_getElem h]
theorem brd_even {l : L} {m : Nat} (h : m < l.length) : brd l (2 * (m : Int)) = (l.getD m (0, 0)).1 := by
  unfold brd
  rw [if_neg (by omega), if_pos (by omega), show (2 * (m : Int) / 2).toNat = m by omega]
theorem brd_odd {l : L} {m : Nat} (h : m < l.length) : brd l (2 * (m : Int) + 1) = (l.getD m (0, 0)).2 := by
  unfold brd
  rw [if_neg (by omega), if_neg (by omega), show ((2 * (m : Int) + 1) / 2).toNat = m by omega]
theorem brd_end {l : L} {i : Int} (h : 2 * (l.length : Int) ≤ i) : brd l i = 8589934593 := by unfold brd; rw [if_pos h]
theorem halves {i : Int} (h0 : 0 ≤ i) : ∃ m : Nat, i = 2 * (m : Int) ∨ i = 2 * (m : Int) + 1 := ⟨(i / 2).toNat, by omega⟩
theorem brd_asc {l : L} (hv : vld l = true) {i : Int} (h0 : 0 ≤ i) (h : i < 2 * (l.length : Int)) : brd l i < brd l (i + 1) := by
  have ha := vld_all hv
  have hc := ((vld_iff l).1 hv).2.2
  obtain ⟨m, rfl | rfl⟩ := halves h0
  · rw [brd_even (by omega), brd_odd (by omega)]
    exact (ha _ (getD_mem (by omega))).2.1
  · rw [brd_odd (by omega)]
    have hm := ha _ (getD_mem (l := l) (k := m) (by omega))
    by_cases e : m + 1 < l.length
    · rw [show 2 * (m : Int) + 1 + 1 = 2 * ((m + 1 : Nat) : Int) by omega, brd_even e, getD_eq (by omega), getD_eq e]
      exact List.pairwise_iff_getElem.1 hc.2 m (m + 1) (by omega) e (by omega)
    · rw [brd_end (by omega)]; omega
theorem brd_lo {l : L} (hv : vld l = true) {i : Int} (h0 : 0 ≤ i) : 0 ≤ brd l i := by
  have ha := vld_all hv
  by_cases e : 2 * (l.length : Int) ≤ i
  · rw [brd_end e]; omega
  · obtain ⟨m, rfl | rfl⟩ := halves h0
    · rw [brd_even (by omega)]; exact (ha _ (getD_mem (by omega))).1
    · rw [brd_odd (by omega)]; have := ha _ (getD_mem (l := l) (k := m) (by omega)); omega
theorem brd_hi {l : L} (hv : vld l = true) {i : Int} (h0 : 0 ≤ i) (h : i < 2 * (l.length : Int)) : brd l i ≤ 8589934592 := by
  have ha := vld_all hv
  obtain ⟨m, rfl | rfl⟩ := halves h0
  · rw [brd_even (by omega)]; have := ha _ (getD_mem (l := l) (k := m) (by omega)); omega
  · rw [brd_odd (by omega)]; have := ha _ (getD_mem (l := l) (k := m) (by omega)); omega

/-- Just the borders with an index less than i are passed at p. -/
def Passed (l : L) (i p : Int) : Prop := 0 ≤ i ∧ i ≤ 2 * (l.length : Int) ∧ (0 < i → brd l (i - 1) ≤ p) ∧ p < brd l i
theorem Passed.start {l : L} (hv : vld l = true) : Passed l 0 (-1) := ⟨by omega, by omega, by omega, by have := brd_lo hv (i := 0) (by omega); omega⟩
theorem Passed.step {l : L} {i p : Int} (hv : vld l = true) (h : Passed l i p) (hi : i < 2 * (l.length : Int)) : Passed l (i + 1) (brd l i) := by
  obtain ⟨a, b, c, d⟩ := h
  exact ⟨by omega, by omega, fun _ => by rw [show i + 1 - 1 = i by omega]; exact Int.le_refl _, brd_asc hv a hi⟩
theorem Passed.stay {l : L} {i p q : Int} (h : Passed l i p) (hp : p ≤ q) (hq : q < brd l i) : Passed l i q := by
  obtain ⟨a, b, c, d⟩ := h
  exact ⟨a, b, fun h => by have := c h; omega, hq⟩
theorem Passed.at_ {l : L} {i p x : Int} (hv : vld l = true) (h : Passed l i p) (hp : p ≤ x) (hx : x < brd l i) : has l x = decide (i % 2 = 1) := by
  have hc := ((vld_iff l).1 hv).2.2
  obtain ⟨a, b, c, d⟩ := h
  rw [Bool.eq_iff_iff, has_iff]
  simp only [hv, true_and, decide_eq_true_eq]
  obtain ⟨m, rfl | rfl⟩ := halves a
  · constructor
    · rintro ⟨s, hs, h1, h2⟩
      obtain ⟨k, hk, rfl⟩ := List.getElem_of_mem hs
      exfalso
      rcases Nat.lt_or_ge k m with e | e
      · have c1 := c (by omega)
        rw [show 2 * (m : Int) - 1 = 2 * ((m - 1 : Nat) : Int) + 1 by omega, brd_odd (by omega)] at c1
        have c2 := chain_to hc (i := k) (j := m - 1) (by omega) (by omega)
        rw [getD_eq hk] at c2
        omega
      · rw [brd_even (by omega), getD_eq (by omega)] at hx
        rcases Nat.lt_or_eq_of_le e with e | e
        · have c1 := List.pairwise_iff_getElem.1 hc.2 m k (by omega) hk e
          have c2 := hc.1 l[m] (List.getElem_mem _)
          omega
        · subst e; omega
    · intro h; omega
  · constructor
    · intro _; omega
    · intro _
      have c1 := c (by omega)
      have hm : m < l.length := by omega
      rw [show 2 * (m : Int) + 1 - 1 = 2 * (m : Int) by omega, brd_even hm] at c1
      rw [brd_odd hm] at hx
      exact ⟨_, getD_mem hm, by omega, hx⟩
theorem Passed.done {l : L} {i p x : Int} (hv : vld l = true) (h : Passed l i p) (hi : ¬ i < 2 * (l.length : Int)) (hp : p ≤ x) : has l x = false := by
  rcases Int.lt_or_le x 8589934593 with e | e
  · rw [h.at_ hv hp (by rw [brd_end (by omega)]; exact e)]
    have := h.2.1
    simp; omega
  · rw [← Bool.not_eq_true, has_iff]
    rintro ⟨-, s, hs, h1, h2⟩
    have := vld_all hv s hs
    omega

/-- The numbers that keep chooses. -/
def Kept (keep : Bool → Bool → Bool) (a b : L) (x : Int) : Prop := keep (has a x) (has b x) = true
def Comb (keep : Bool → Bool → Bool) (a b r : L) : Prop := Chain r ∧ ∀ x, Kept keep a b x ↔ cov r x
theorem Comb.uniq {keep : Bool → Bool → Bool} {a b r s : L} (h : Comb keep a b r) (h' : Comb keep a b s) : r = s :=
  Spn.uniq r s h.1 h'.1 fun x => (h.2 x).symm.trans (h'.2 x)

/-- a round of the loop over the borders. -/
structure Round (keep : Bool → Bool → Bool) (a b : L) (i j p : Int) (opn : Bool) (out : L) : Prop where
  pa : Passed a i p
  pb : Passed b j p
  op : opn = keep (decide (i % 2 = 1)) (decide (j % 2 = 1))
  sw : Sweep (Kept keep a b) out opn p
  len : (out.length : Int) ≤ i + j
section
variable {keep : Bool → Bool → Bool} {a b out : L} {i j p : Int} {opn : Bool}
theorem Round.start (ha : vld a = true) (hb : vld b = true) (hk : keep false false = false) : Round keep a b 0 0 (-1) false [] :=
  ⟨Passed.start ha, Passed.start hb, by simp [hk], Sweep.start fun x hx => by
    unfold Kept
    have e : ∀ {l : L}, vld l = true → has l x = false := fun {l} hv => by
      rw [← Bool.not_eq_true, has_iff]
      rintro ⟨-, s, hs, h1, h2⟩
      have := vld_all hv s hs
      omega
    rw [e ha, e hb, hk]; simp, by simp⟩
theorem Round.const (ha : vld a = true) (hb : vld b = true) (h : Round keep a b i j p opn out) {x : Int} (hp : p ≤ x) (h1 : x < brd a i) (h2 : x < brd b j) : Kept keep a b x ↔ opn = true := by
  unfold Kept
  rw [h.pa.at_ ha hp h1, h.pb.at_ hb hp h2, h.op]
/-- what the next border makes of the spans. -/
theorem Round.next (ha : vld a = true) (hb : vld b = true) (h : Round keep a b i j p opn out) (q i' j' : Int) (hq1 : q ≤ brd a i) (hq2 : q ≤ brd b j) (hpa : Passed a i' q) (hpb : Passed b j' q) (hl : i + j + 1 ≤ i' + j') (hpq : p < q) (kept : Bool)
    (hkept : kept = keep (decide (i' % 2 = 1)) (decide (j' % 2 = 1))) :
    Round keep a b i' j' q kept (if kept = true then (if opn = true then out else out ++ [(q, 0)]) else if opn = true then close out q else out) := by
  have hc : ∀ x, p ≤ x → x < q → (Kept keep a b x ↔ opn = true) := fun x h1 h2 => h.const ha hb h1 (by omega) (by omega)
  have hlen := h.len
  have hs := h.sw
  refine ⟨hpa, hpb, hkept, ?_, ?_⟩
  · rcases kept with _ | _ <;> rcases opn with _ | _
    · exact hs.stayShut hpq fun x h1 h2 => by rw [hc x h1 h2]; simp
    · exact hs.close_ hpq fun x h1 h2 => by rw [hc x h1 h2]
    · exact hs.open_ hpq fun x h1 h2 => by rw [hc x h1 h2]; simp
    · exact hs.stayOpen hpq fun x h1 h2 => by rw [hc x h1 h2]
  · rcases kept with _ | _ <;> rcases opn with _ | _ <;> simp [length_close] <;> omega
theorem Round.final (ha : vld a = true) (hb : vld b = true) (hk : keep false false = false) (h : Round keep a b i j p opn out) (hi : ¬ i < 2 * (a.length : Int)) (hj : ¬ j < 2 * (b.length : Int)) : Comb keep a b out := by
  have e1 := h.pa.2.1
  have e2 := h.pb.2.1
  have ho : opn = false := by
    rw [h.op, show decide (i % 2 = 1) = false by simp; omega, show decide (j % 2 = 1) = false by simp; omega, hk]
  have hs := h.sw
  rw [ho] at hs
  exact hs.final fun x hx => by
    unfold Kept
    rw [h.pa.done ha hi hx, h.pb.done hb hj hx, hk]; simp
end
end Spn
