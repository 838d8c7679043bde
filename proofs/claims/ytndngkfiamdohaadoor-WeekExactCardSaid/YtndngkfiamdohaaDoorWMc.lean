/- Plain facts on the times of windows: which instants lie in them, and how many. No program is named here. Drawn windows and instants. What the laws share: comparing lists, the chapter's example. What stands while a law over a drawn zone and drawn windows goes on. The law WeekExact: what it needs. -/
import Derived.Test.YtndngkfiamdohaaDoorWMa
import Derived.Test.YtndngkfiamdohaaDoorSpn
import Derived.Test.YtndngkfiamdohaaDoorZdz
import Derived.Test.YtndngkfiamdohaaDoorZlx
import Derived.Test.YtndngkfiamdohaaDoorWMb
import Derived.Laws.AppendOwnNone
namespace Go.Proofs.YtndngkfiamdohaaDoor
set_option linter.unusedSimpArgs false
set_option linter.unusedVariables false
namespace Wk
open Zn

/-- The set holds just the numbers of K from lo on, less than p. -/
def Up (K : Int → Bool) (s : L) (lo p : Int) : Prop := Spn.Chain s ∧ (∀ y ∈ s, lo ≤ y.1 ∧ y.2 ≤ p) ∧ ∀ x, Spn.cov s x ↔ lo ≤ x ∧ x < p ∧ K x = true
theorem up_nil (K : Int → Bool) (lo : Int) : Up K [] lo lo := ⟨Spn.chain_nil, fun y h => (by cases h), fun x => ⟨fun h => absurd h (Spn.cov_nil x), fun h => (by omega)⟩⟩
theorem up_gap {K : Int → Bool} {s : L} {lo p q : Int} (h : Up K s lo p) (hpq : p ≤ q) (hk : ∀ x, p ≤ x → x < q → K x = false) : Up K s lo q := by
  refine ⟨h.1, fun y hy => ⟨(h.2.1 y hy).1, by have := (h.2.1 y hy).2; omega⟩, fun x => (h.2.2 x).trans ⟨fun ⟨a, b, c⟩ => ⟨a, by omega, c⟩, fun ⟨a, b, c⟩ => ⟨a, ?_, c⟩⟩⟩
  rcases Int.lt_or_le x p with h1 | h1
  · exact h1
  · rw [hk x h1 b] at c; cases c
theorem up_add {K : Int → Bool} {s : L} {lo a b : Int} (h : Up K s lo a) (hlo : lo ≤ a) (hab : a < b) (hk : ∀ x, a ≤ x → x < b → K x = true) : Up K (addP s a b) lo b := by
  have cv : ∀ x, (Spn.cov s x ∨ (a ≤ x ∧ x < b)) ↔ lo ≤ x ∧ x < b ∧ K x = true := fun x => by
    rw [h.2.2 x]
    constructor
    · rintro (⟨u, v, z⟩ | ⟨u, v⟩)
      · exact ⟨u, by omega, z⟩
      · exact ⟨by omega, v, hk x u v⟩
    · rintro ⟨u, v, z⟩
      rcases Int.lt_or_le x a with h1 | h1
      · exact .inl ⟨u, h1, z⟩
      · exact .inr ⟨h1, v⟩
  have snoc : (∀ t ∈ s, t.2 < a) → Up K (s ++ [(a, b)]) lo b := fun h9 => by
    refine ⟨Spn.chain_snoc.2 ⟨h.1, hab, h9⟩, fun y hy => ?_, fun x => (Spn.cov_snoc s (a, b) x).trans (cv x)⟩
    rcases List.mem_append.1 hy with hy | hy
    · exact ⟨(h.2.1 y hy).1, by have := (h.2.1 y hy).2; omega⟩
    · simp at hy; subst hy; exact ⟨hlo, Int.le_refl _⟩
  rcases List.eq_nil_or_concat s with rfl | ⟨t, y, hs⟩
  · rw [addP_first (by omega)]; exact snoc (fun t ht => by cases ht)
  · rw [List.concat_eq_append] at hs
    subst hs
    have hl : (t ++ [y]).getLast? = some y := by simp
    obtain ⟨c1, c2, c3⟩ := Spn.chain_snoc.1 h.1
    have hy2 := h.2.1 y (by simp)
    by_cases he : y.2 = a
    · rw [addP_join (by omega) hl he, List.dropLast_concat]
      refine ⟨Spn.chain_snoc.2 ⟨c1, by simp only; omega, c3⟩, fun z hz => ?_, fun x => ?_⟩
      · rcases List.mem_append.1 hz with hz | hz
        · exact ⟨(h.2.1 z (by simp [hz])).1, by have := (h.2.1 z (by simp [hz])).2; omega⟩
        · simp at hz; subst hz; exact ⟨hy2.1, Int.le_refl _⟩
      · rw [← cv x, Spn.cov_snoc, Spn.cov_snoc]
        simp only
        constructor
        · rintro (u | u)
          · exact .inl (.inl u)
          · by_cases g : x < a
            · exact .inl (.inr ⟨u.1, by omega⟩)
            · exact .inr ⟨by omega, u.2⟩
        · rintro ((u | u) | u)
          · exact .inl u
          · exact .inr ⟨u.1, by omega⟩
          · exact .inr ⟨by omega, u.2⟩
    · rw [addP_app (by omega) hl he]
      refine snoc (fun z hz => ?_)
      rcases List.mem_append.1 hz with hz | hz
      · have := c3 z hz; omega
      · simp at hz; subst hz; omega
def cl3 (f t z : Int) : Int := min (max z f) t
/-- One week. -/
theorem up_week {K : Int → Bool} {lo f t m : Int} (hlo : lo ≤ f) (hft : f < t) : ∀ {l s : L} {e : Int}, Rt e l → 0 ≤ e → e ≤ 604800 → Up K s lo (cl3 f t (m + e)) → (∀ x, m + e ≤ x → x < m + 604800 → f ≤ x → x < t → K x = within l (x - m)) →
    Up K (addW l f t m s) lo (cl3 f t (m + 604800))
  | [], s, e, _, _, h2, h, hk => by
    refine up_gap h (by unfold cl3; omega) (fun x h3 h4 => ?_)
    unfold cl3 at h3 h4
    exact hk x (by omega) (by omega) (by omega) (by omega)
  | w :: r, s, e, ⟨r1, r2, r3, r4⟩, h1, h2, h, hk => by
    have g1 : Up K s lo (cl3 f t (m + w.1)) := by
      refine up_gap h (by unfold cl3; omega) (fun x h3 h4 => ?_)
      unfold cl3 at h3 h4
      rw [hk x (by omega) (by omega) (by omega) (by omega), within_cons, r4.out (by omega), decide_eq_false (by omega)]; rfl
    have g2 : Up K (addP s (max (m + w.1) f) (min (m + w.2) t)) lo (cl3 f t (m + w.2)) := by
      by_cases hab : min (m + w.2) t ≤ max (m + w.1) f
      · rw [addP_skip hab]
        have : cl3 f t (m + w.1) = cl3 f t (m + w.2) := by unfold cl3; omega
        rw [← this]; exact g1
      · have e1 : cl3 f t (m + w.1) = max (m + w.1) f := by unfold cl3; omega
        have e2 : cl3 f t (m + w.2) = min (m + w.2) t := by unfold cl3; omega
        rw [e1] at g1
        rw [e2]
        refine up_add g1 (by omega) (by omega) (fun x h3 h4 => ?_)
        rw [hk x (by omega) (by omega) (by omega) (by omega), within_cons, decide_eq_true (by omega)]; rfl
    have := up_week (K := K) (m := m) hlo hft r4 (by omega) r3 g2 (fun x h3 h4 h5 h6 => by
      rw [hk x (by omega) h4 h5 h6, within_cons, decide_eq_false (by omega)]; rfl)
    exact this
theorem up_weeks {K : Int → Bool} {l : L} {lo f t off : Int} (hl : Rt 0 l) (hlo : lo ≤ f) (hft : f < t) (hk : ∀ x, f ≤ x → x < t → K x = within l (sow (x + off))) : ∀ (k : Nat) {m : Int} {s : L}, k = wks m t → (m + off + 259200) % 604800 = 0 → Up K s lo (cl3 f t m) → Up K (addK l f t k m s) lo t
  | 0, m, s, hw, hm, h => by
    have : cl3 f t m = t := by unfold wks at hw; unfold cl3; omega
    rw [← this]; exact h
  | k + 1, m, s, hw, hm, h => by
    have hmt : m < t := by unfold wks at hw; omega
    rw [addK]
    refine up_weeks hl hlo hft hk k (by rw [wks_step hmt] at hw; omega) (by omega) ?_
    refine up_week hlo hft hl (Int.le_refl 0) (by omega) (by simpa using h) (fun x h1 h2 h3 h4 => ?_)
    rw [hk x h3 h4, sow_eq, show (x + off + 259200) % 604800 = x - m by omega]
theorem up_addR {K : Int → Bool} {l : L} {lo f t off : Int} {s : L} (hl : Rt 0 l) (hlo : lo ≤ f) (hft : f < t) (hk : ∀ x, f ≤ x → x < t → K x = within l (sow (x + off))) (h : Up K s lo f) : Up K (addR l off f t s) lo t := by
  unfold addR; rw [if_neg (by omega)]
  have hs := sow_eq (f + off)
  have hb := sow_bd (f + off)
  refine up_weeks hl hlo hft hk _ rfl (by omega) ?_
  have : cl3 f t (f - sow (f + off)) = f := by unfold cl3; omega
  rw [this]; exact h
theorem up_tms {K : Int → Bool} {l : L} {lo t : Int} (hl : Rt 0 l) : ∀ {ts s : L} {off f : Int}, lo ≤ f → lo ≤ t → (∀ x, f ≤ x → x < t → K x = within l (sow (x + offAt off ts x))) → Up K s lo (min f t) → Up K (tms s off ts l f t) lo t
  | [], s, off, f, h1, h2, hk, h => by
    rw [tms]
    by_cases hft : f < t
    · rw [show min f t = f by omega] at h
      exact up_addR hl h1 hft hk h
    · rw [show min f t = t by omega] at h
      unfold addR; rw [if_pos (by omega)]; exact h
  | (a, o) :: ts, s, off, f, h1, h2, hk, h => by
    rw [tms]
    refine up_tms hl (by omega) h2 (fun x h3 h4 => ?_) ?_
    · rw [hk x (by omega) h4, offAt, if_pos (by omega)]
    · by_cases hft : f < min a t
      · rw [show min f t = f by omega] at h
        have := up_addR (t := min a t) hl h1 hft (fun x h3 h4 => by rw [hk x h3 (by omega), offAt, if_neg (by omega)]) h
        rw [show min (max a f) t = min a t by omega]
        exact this
      · unfold addR; rw [if_pos (by omega)]
        rw [show min (max a f) t = min f t by omega]
        exact h
/-- Times has just the instants that lie in a window. -/
theorem tms_has {l : L} {off : Int} {ts : L} {f t : Int} (hl : Rt 0 l) (h : f ≤ t) : Up (fun x => within l (sow (x + offAt off ts x))) (tms [] off ts l f t) f t :=
  up_tms hl (Int.le_refl _) h (fun _ _ _ => rfl) (by rw [show min f t = f by omega]; exact up_nil _ _)

/-! How many spans there are. -/
theorem addR_len2 {l : L} {off f t : Int} (s : L) (hft : f < t → t - f ≤ 1728000) : (addR l off f t s).length ≤ s.length + l.length * 4 := by
  unfold addR
  split
  · omega
  · have h1 := addK_len l f t (wks (f - sow (f + off)) t) (f - sow (f + off)) s
    have h2 := sow_bd (f + off)
    have h3 := hft (by omega)
    have h4 : wks (f - sow (f + off)) t ≤ 4 := by unfold wks; omega
    have h5 := Nat.mul_le_mul (Nat.le_refl l.length) h4
    omega
theorem tms_len {l : L} {t : Int} : ∀ {ts s : L} {off f : Int}, t - f ≤ 1728000 → (tms s off ts l f t).length ≤ s.length + l.length * 4 * (ts.length + 1)
  | [], s, off, f, h => by
    have := addR_len2 (l := l) (off := off) (f := f) (t := t) s (fun _ => h)
    rw [tms]; simp; exact this
  | (a, o) :: ts, s, off, f, h => by
    have h1 := addR_len2 (l := l) (off := off) (f := f) (t := min a t) s (fun _ => by omega)
    have h2 := tms_len (l := l) (t := t) (ts := ts) (s := addR l off f (min a t) s) (off := o) (f := max a f) (by omega)
    rw [tms, List.length_cons, Nat.mul_succ]; omega
theorem vt_far : ∀ {ts : L} {now ear : Int}, VT now ear ts → (∀ x ∈ ts, 1700000000 ≤ x.1 ∧ x.1 ≤ 1800000000) → ∀ k, k < ts.length → 1700000000 + 604800 * (k : Int) ≤ (ts.getD k (0, 0)).1 := by
  intro ts now ear h hb k hk
  induction k with
  | zero =>
    have hm : ts.getD 0 (0, 0) ∈ ts := by rw [show ts.getD 0 (0, 0) = ts[0] by simp [List.getD, hk]]; exact List.getElem_mem hk
    have := (hb _ hm).1; simpa using this
  | succ k ih =>
    have h1 := ih (by omega)
    have h2 := vt_asc h k (k + 1) (by omega) hk
    omega
theorem good_few {off : Int} {ts : L} (h : Vz off ts) (hb : ∀ x ∈ ts, 1700000000 ≤ x.1 ∧ x.1 ≤ 1800000000) : ts.length ≤ 166 := by
  rcases Nat.lt_or_ge 166 ts.length with hlt | hge
  · have h1 := vt_far h.vt hb 166 hlt
    have hm : ts.getD 166 (0, 0) ∈ ts := by rw [show ts.getD 166 (0, 0) = ts[166] by simp [List.getD, hlt]]; exact List.getElem_mem hlt
    have := (hb _ hm).2
    omega
  · exact hge
theorem good_set {off : Int} {ts l : L} {f t : Int} (hz : Vz off ts) (hb : ∀ x ∈ ts, 1700000000 ≤ x.1 ∧ x.1 ≤ 1800000000) (hl : Rt 0 l) (hl3 : l.length ≤ 3) (f0 : 0 ≤ f) (h : f ≤ t) (t0 : t ≤ 8589934592) (h2 : t - f ≤ 1728000) :
    Spn.vld (tms [] off ts l f t) = true ∧ (tms [] off ts l f t).length ≤ 4096 := by
  have h3 := tms_has (off := off) (ts := ts) hl h
  have h4 := tms_len (l := l) (t := t) (ts := ts) (s := []) (off := off) (f := f) h2
  have h5 := good_few hz hb
  have h6 : l.length * 4 * (ts.length + 1) ≤ 12 * 167 := Nat.mul_le_mul (by omega) (by omega)
  have h7 : (tms [] off ts l f t).length ≤ 4096 := by rw [List.length_nil] at h4; omega
  exact ⟨(Spn.vld_iff _).2 ⟨h7, fun s hs => ⟨by have := (h3.2.1 s hs).1; omega, by have := (h3.2.1 s hs).2; omega⟩, h3.1⟩, h7⟩

/-! How many instants there are. -/
def cnt (P : Int → Bool) (a : Int) : Nat → Int
  | 0 => 0
  | n + 1 => cnt P a n + (if P (a + n) = true then 1 else 0)
theorem cnt_split (P : Int → Bool) (a : Int) (m : Nat) : ∀ n : Nat, cnt P a (m + n) = cnt P a m + cnt P (a + m) n
  | 0 => by simp [cnt]
  | n + 1 => by
    rw [← Nat.add_assoc, cnt, cnt_split P a m n, cnt, show a + ((m + n : Nat) : Int) = a + m + n by omega]; omega
theorem cnt_congr {P Q : Int → Bool} {a b : Int} : ∀ n : Nat, (∀ i : Nat, i < n → P (a + i) = Q (b + i)) → cnt P a n = cnt Q b n
  | 0, _ => rfl
  | n + 1, h => by rw [cnt, cnt, cnt_congr n (fun i hi => h i (by omega)), h n (by omega)]
theorem cnt_bd (P : Int → Bool) (a : Int) : ∀ n : Nat, 0 ≤ cnt P a n ∧ cnt P a n ≤ n
  | 0 => by simp [cnt]
  | n + 1 => by
    have := cnt_bd P a n
    rw [cnt]; split <;> omega
theorem cnt_none {P : Int → Bool} {a : Int} : ∀ n : Nat, (∀ i : Nat, i < n → P (a + i) = false) → cnt P a n = 0
  | 0, _ => rfl
  | n + 1, h => by rw [cnt, cnt_none n (fun i hi => h i (by omega)), h n (by omega)]; rfl
theorem cnt_all {P : Int → Bool} {a : Int} : ∀ n : Nat, (∀ i : Nat, i < n → P (a + i) = true) → cnt P a n = n
  | 0, _ => rfl
  | n + 1, h => by rw [cnt, cnt_all n (fun i hi => h i (by omega)), h n (by omega)]; simp
def Asc : Int → Int → L → Prop
  | f, p, [] => f ≤ p
  | f, p, y :: r => f ≤ y.1 ∧ y.1 ≤ y.2 ∧ Asc y.2 p r
theorem asc_le : ∀ {s : L} {f p : Int}, Asc f p s → f ≤ p
  | [], _, _, h => h
  | y :: r, f, p, ⟨h1, h2, h3⟩ => by have := asc_le h3; omega
theorem asc_out : ∀ {s : L} {f p x : Int}, Asc f p s → x < f → within s x = false
  | [], _, _, _, _, _ => rfl
  | y :: r, f, p, x, ⟨h1, h2, h3⟩, h => by rw [within_cons, asc_out h3 (by omega), decide_eq_false (by omega)]; rfl
theorem asc_cnt : ∀ {s : L} {f p : Int}, Asc f p s → lenS s = cnt (within s) f (p - f).toNat
  | [], f, p, h => (cnt_none _ (fun i _ => rfl)).symm
  | y :: r, f, p, ⟨h1, h2, h3⟩ => by
    have hp := asc_le h3
    have e : (p - f).toNat = (y.1 - f).toNat + ((y.2 - y.1).toNat + (p - y.2).toNat) := by omega
    rw [e, cnt_split, cnt_split, lenS, asc_cnt h3]
    have a1 : f + ((y.1 - f).toNat : Int) = y.1 := by omega
    have a2 : y.1 + ((y.2 - y.1).toNat : Int) = y.2 := by omega
    rw [a1, a2, cnt_none (P := within (y :: r)) (a := f) _ (fun i hi => by rw [within_cons, asc_out h3 (by omega), decide_eq_false (by omega)]; rfl),
      cnt_all (P := within (y :: r)) (a := y.1) _ (fun i hi => by rw [within_cons, decide_eq_true (by omega)]; rfl),
      cnt_congr (P := within (y :: r)) (Q := within r) (a := y.2) (b := y.2) _ (fun i hi => by rw [within_cons, decide_eq_false (by omega)]; rfl)]
    omega
theorem rt_asc : ∀ {l : L} {e : Int}, Rt e l → e ≤ 604800 → Asc e 604800 l
  | [], _, _, h => h
  | w :: t, e, ⟨h1, h2, h3, h4⟩, _ => ⟨h1, by omega, rt_asc h4 h3⟩
theorem chain_asc : ∀ {s : L} {f p : Int}, Spn.Chain s → (∀ y ∈ s, f ≤ y.1 ∧ y.2 ≤ p) → f ≤ p → Asc f p s
  | [], _, _, _, _, h => h
  | y :: r, f, p, hc, hb, h => by
    obtain ⟨c1, c2, c3⟩ := Spn.chain_cons.1 hc
    have := hb y (by simp)
    exact ⟨this.1, by omega, chain_asc c3 (fun z hz => ⟨by have := c2 z hz; omega, (hb z (by simp [hz])).2⟩) this.2⟩
theorem cov_within (s : L) (x : Int) : within s x = true ↔ Spn.cov s x := by
  unfold within Spn.cov; simp
theorem sum_lens : ∀ s : L, Spn.sum s = lenS s
  | [] => rfl
  | y :: r => by rw [Spn.sum, lenS, sum_lens r]
theorem up_sum {K : Int → Bool} {s : L} {f p : Int} (h : Up K s f p) (hfp : f ≤ p) : Spn.sum s = cnt K f (p - f).toNat := by
  rw [sum_lens, asc_cnt (chain_asc h.1 h.2.1 hfp)]
  refine cnt_congr _ (fun i hi => ?_)
  rw [Bool.eq_iff_iff, cov_within, h.2.2]
  exact ⟨fun ⟨_, _, c⟩ => c, fun c => ⟨by omega, by omega, c⟩⟩
/-- Any week has as many seconds as the windows. -/
theorem week_cnt {l : L} (hl : Rt 0 l) (u : Int) : cnt (fun v => within l (sow v)) u 604800 = lenS l := by
  have h0 := asc_cnt (rt_asc hl (by omega))
  rw [show ((604800 : Int) - 0).toNat = 604800 by omega] at h0
  rw [h0]
  have hs := sow_eq u
  have hb := sow_bd u
  obtain ⟨s, hss⟩ : ∃ s : Nat, (s : Int) = sow u := ⟨(sow u).toNat, by omega⟩
  have e : (604800 : Nat) = (604800 - s) + s := by omega
  have e2 : (604800 : Nat) = s + (604800 - s) := by omega
  conv => lhs; rw [e]
  conv => rhs; rw [e2]
  rw [cnt_split, cnt_split]
  rw [cnt_congr (P := fun v => within l (sow v)) (Q := within l) (a := u) (b := 0 + (s : Int)) _ (fun i hi => by rw [show sow (u + i) = 0 + (s : Int) + i by rw [sow_eq]; omega]),
    cnt_congr (P := fun v => within l (sow v)) (Q := within l) (a := u + ((604800 - s : Nat) : Int)) (b := 0) _ (fun i hi => by rw [show sow (u + ((604800 - s : Nat) : Int) + i) = 0 + i by rw [sow_eq]; omega])]
  omega
theorem cnt_shift (P : Int → Bool) (y : Int) (d r : Nat) : cnt P (y + d) r - cnt P y r ≤ d ∧ cnt P y r - cnt P (y + d) r ≤ d := by
  have h1 := cnt_split P y d r
  have h2 := cnt_split P y r d
  rw [Nat.add_comm] at h2
  have h3 := cnt_bd P y d
  have h4 := cnt_bd P (y + r) d
  omega
theorem one_change' : ∀ {ts : L} {now ear : Int}, VT now ear ts → ∀ x y, x ≤ y → y ≤ x + 604800 →
    (∀ z, x ≤ z → z ≤ y → offAt now ts z = offAt now ts x) ∨
    ∃ c, x < c ∧ c ≤ y ∧ (∀ z, x ≤ z → z < c → offAt now ts z = offAt now ts x) ∧ (∀ z, c ≤ z → z ≤ y → offAt now ts z = offAt now ts y)
  | [], _, _, _, x, y, _, _ => .inl fun _ _ _ => rfl
  | (a, o) :: t, now, ear, h, x, y, hxy, hy => by
    obtain ⟨h1, h2, h3, h4, h5, h6⟩ := h
    by_cases hya : y < a
    · refine .inl fun z hz hz2 => ?_
      rw [offAt, if_neg (by omega), offAt, if_neg (by omega)]
    · by_cases hxa : x < a
      · refine .inr ⟨a, hxa, by omega, fun z hz hz2 => ?_, fun z hz hz2 => ?_⟩
        · rw [offAt, if_neg (by omega), offAt, if_neg (by omega)]
        · rw [offAt, if_pos hz, offAt, if_pos (by omega), offAt_before h6 (by omega), offAt_before h6 (by omega)]
      · have e : ∀ z, x ≤ z → offAt now ((a, o) :: t) z = offAt o t z := fun z hz => by rw [offAt, if_pos (by omega)]
        rcases one_change' h6 x y hxy hy with h | ⟨c, c1, c2, c3, c4⟩
        · exact .inl fun z hz hz2 => by rw [e z hz, e x (Int.le_refl _)]; exact h z hz hz2
        · refine .inr ⟨c, c1, c2, fun z hz hz2 => ?_, fun z hz hz2 => ?_⟩
          · rw [e z hz, e x (Int.le_refl _)]; exact c3 z hz hz2
          · rw [e z (by omega), e y hxy]; exact c4 z hz hz2
/-- A week's times have as many seconds as the windows, but for the change of the offset. -/
theorem week_len {l : L} {off : Int} {ts : L} {f : Int} (hz : Vz off ts) (hl : Rt 0 l) :
    Spn.sum (tms [] off ts l f (f + 604800)) - lenS l ≤ (if offAt off ts (f + 604800) - offAt off ts f < 0 then -(offAt off ts (f + 604800) - offAt off ts f) else offAt off ts (f + 604800) - offAt off ts f) ∧
    -(Spn.sum (tms [] off ts l f (f + 604800)) - lenS l) ≤ (if offAt off ts (f + 604800) - offAt off ts f < 0 then -(offAt off ts (f + 604800) - offAt off ts f) else offAt off ts (f + 604800) - offAt off ts f) := by
  rw [up_sum (tms_has hl (by omega)) (by omega), show (f + 604800 - f).toNat = 604800 by omega]
  rcases one_change' hz.vt f (f + 604800) (by omega) (by omega) with h | ⟨c, c1, c2, c3, c4⟩
  · have h1 := week_cnt hl (f + offAt off ts f)
    rw [← cnt_congr (P := fun x => within l (sow (x + offAt off ts x))) (Q := fun v => within l (sow v)) (a := f) (b := f + offAt off ts f) 604800 (fun i hi => by
      rw [h (f + i) (by omega) (by omega), show f + (i : Int) + offAt off ts f = f + offAt off ts f + i by omega])] at h1
    rw [h1]
    split <;> omega
  · obtain ⟨a, ha⟩ : ∃ a, offAt off ts f = a := ⟨_, rfl⟩
    obtain ⟨b, hb⟩ : ∃ b, offAt off ts (f + 604800) = b := ⟨_, rfl⟩
    rw [ha] at c3 ⊢
    rw [hb] at c4 ⊢
    obtain ⟨d, hd⟩ : ∃ d : Nat, (d : Int) = c - f := ⟨(c - f).toNat, by omega⟩
    have e : (604800 : Nat) = d + (604800 - d) := by omega
    have h1 := week_cnt hl (f + a)
    rw [e, cnt_split] at h1
    have h2 := cnt_split (fun x => within l (sow (x + offAt off ts x))) f d (604800 - d)
    rw [← e] at h2
    rw [cnt_congr (P := fun x => within l (sow (x + offAt off ts x))) (Q := fun v => within l (sow v)) (a := f) (b := f + a) d (fun i hi => by
      rw [c3 (f + i) (by omega) (by omega), show f + (i : Int) + a = f + a + i by omega]),
      cnt_congr (P := fun x => within l (sow (x + offAt off ts x))) (Q := fun v => within l (sow v)) (a := f + (d : Int)) (b := c + b) (604800 - d) (fun i hi => by
      rw [c4 (f + d + i) (by omega) (by omega), show f + (d : Int) + (i : Int) + b = c + b + i by omega])] at h2
    rw [h2, show f + a + (d : Int) = c + a by omega] at *
    have h3 := cnt_shift (fun v => within l (sow v)) (c + a) (b - a).toNat (604800 - d)
    have h4 := cnt_shift (fun v => within l (sow v)) (c + b) (a - b).toNat (604800 - d)
    by_cases hab : a ≤ b
    · rw [show c + a + ((b - a).toNat : Int) = c + b by omega] at h3
      rw [if_neg (by omega)]
      omega
    · rw [show c + b + ((a - b).toNat : Int) = c + a by omega] at h4
      rw [if_pos (by omega)]
      omega
end Wk
end Go.Proofs.YtndngkfiamdohaaDoor
namespace Go.Proofs.YtndngkfiamdohaaDoor
open Go.RowKit
set_option linter.unusedVariables false
set_option linter.unusedSimpArgs false
set_option maxRecDepth 100000

theorem rt_snoc : ∀ {l : Wk.L} {e a b : Int}, Wk.Rt e l → (∀ x ∈ l, x.2 ≤ a) → e ≤ a → a < b → b ≤ 604800 → Wk.Rt e (l ++ [(a, b)])
  | [], e, a, b, _, _, h1, h2, h3 => ⟨h1, h2, h3, trivial⟩
  | x :: t, e, a, b, ⟨g1, g2, g3, g4⟩, h, h1, h2, h3 => ⟨g1, g2, g3, rt_snoc g4 (fun y hy => h y (List.mem_cons_of_mem _ hy)) (h x (by simp)) h2 h3⟩

/-- What Windows hands back. -/
def Windowed (w : World) (g : Nat) (A : Option Addr) (n c : Nat) (zs : List Int) (e : Ending) (w' : World) : Prop :=
  ∃ v l, e = .returned v ∧ OwnL 24 2 ePair w' w.heap.size v l ∧ Wk.Rt 0 l ∧ l.length ≤ 3 ∧ w.grownBy w' (some g) ∧ Dice w' g A n c zs

set_option maxHeartbeats 4000000 in
theorem Windows_any (g n c : Nat) (A : Option Addr) (zs : List Int) (w : World) (h : Dice w g A n c zs) :
    Calls Tryd.prog 18 #[.pointer (some ⟨g, 0, none⟩)] w (Windowed w g A n c zs) := by
  have hgw := h.lt_
  have C := Lib.hid (Next_any g n c A zs 4 w h (by omega) (by omega))
  clear h
  go_enter Tryd.func18, Tryd.ntmps18
  go_wp2_with fail
  refine C.out.mono ?_
  rintro e w1 ⟨i0, rfl, i1, i2, g1, D1⟩
  have HG := Lib.hid g1
  have HD := Lib.hid D1
  clear g1 D1 C
  go_wp2_with fail
  go_loopw [3, 4, 5] (fun v va vi wr => ∃ (at_ i : Int) (l : Wk.L), va = .int .i64 at_ ∧ vi = .int .i64 i ∧ 0 ≤ at_ ∧ at_ ≤ 604800 ∧ 0 ≤ i ∧ i ≤ 3 ∧ (l.length : Int) + i ≤ 3 ∧ Hid (Wk.Rt 0 l ∧ ∀ x ∈ l, x.2 ≤ at_) ∧ Hid (OwnL 24 2 ePair wr w.heap.size v l) ∧ Hid (w.grownBy wr (some g)) ∧ Hid (Dice wr g A n c zs)) (fun _ _ vi _ => (intOf vi).toNat)
  case atStart => exact ⟨0, i0, [], rfl, rfl, by omega, by omega, i1, by omega, by simp; omega, Lib.hid ⟨trivial, fun x hx => by cases hx⟩, Lib.hid (OwnL.nil_ _ _), HG, HD⟩
  case round =>
    clear HG HD
    obtain ⟨at_, i, l, rfl, rfl, a1, a2, j1, j2, hl, HR, HO, HG, HD⟩ := hrel
    by_cases hi : 0 < i
    · have hz0 := HG.out.size
      go_wp2_with fail
      refine (Next_any g n c A zs 30 _ HD.out (by omega) (by omega)).mono ?_
      rintro e w2 ⟨x, rfl, x1, x2, g2, D2⟩
      have HO2 := Lib.hid (HO.out.grown g2 hgw)
      have HG2 := Lib.hid (grown_trans HG.out g2)
      have HD2 := Lib.hid D2
      clear g2 D2 HO HG HD
      go_wp2_with fail
      refine (Next_any g n c A zs 2 _ HD2.out (by omega) (by omega)).mono ?_
      rintro e w3 ⟨y, rfl, y1, y2, g3, D3⟩
      have HO3 := Lib.hid (HO2.out.grown g3 hgw)
      have HG3 := Lib.hid (grown_trans HG2.out g3)
      have HD3 := Lib.hid D3
      have hz3 := HG3.out.size
      clear g3 D3 HO2 HG2 HD2
      go_wp2_with fail
      refine (Pick_any g n c A zs [3600, 28800, 43200, 86400, 61, 1] w3.heap.size 6 6 3 _ (HD3.out.alloc _) (BlkAt.new w3 _ _) rfl (by omega) (by omega) (by omega)).mono ?_
      rintro e w4 ⟨p, rfl, hp, g4, D4⟩
      have hp2 : 1 ≤ p ∧ p ≤ 86400 := by simp at hp; omega
      obtain ⟨p1, p2⟩ := hp2
      have HO4 := Lib.hid ((HO3.out.alloc _).grown g4 hgw)
      have HG4 := Lib.hid (grown_trans (grown_alloc HG3.out _) g4)
      have HD4 := Lib.hid D4
      have hz4 := HG4.out.size
      clear g4 D4 HO3 HG3 HD3 hp
      by_cases hbig : 604800 < at_ + 3600 * x + 60 * y + p
      · go_wp2_with fail
        go_ret
        exact ⟨_, l, rfl, HO4.out, HR.out.1, by omega, HG4.out, HD4.out⟩
      · have N := Lib.hid (show Wk.Rt 0 (l ++ [(at_ + 3600 * x + 60 * y, at_ + 3600 * x + 60 * y + p)]) ∧ ∀ z ∈ l ++ [(at_ + 3600 * x + 60 * y, at_ + 3600 * x + 60 * y + p)], z.2 ≤ at_ + 3600 * x + 60 * y + p from
          ⟨rt_snoc HR.out.1 (fun z hz => by have := HR.out.2 z hz; omega) (by omega) (by omega) (by omega), fun z hz => by
            rcases List.mem_append.1 hz with hz | hz
            · have := HR.out.2 z hz; omega
            · simp at hz; subst hz; exact Int.le_refl _⟩)
        have hlen : l.length ≤ 900000 := by omega
        clear HR
        go_wp2_with (at_builtin; refine wp_append_one kWin _ rfl _ _ rfl w.heap.size _ l rfl (HO4.out.alloc _) w4.heap.size (at_ + 3600 * x + 60 * y, at_ + 3600 * x + 60 * y + p) rfl (pair_new (x := (at_ + 3600 * x + 60 * y, at_ + 3600 * x + 60 * y + p)) rfl) hlen (by simp; omega) ?_; intro gg cap w5 hO5 hB5 hg5 hgo _)
        have O5 := Lib.hid hO5
        have G5 := Lib.hid (grown_then (grown_alloc HG4.out _) hB5 (Nat.le_refl _))
        have D5 := Lib.hid ((HD4.out.alloc _).below hB5 hgw)
        clear hO5 hB5 hg5 hgo
        go_wp2_with fail
        go_roundw
        case rel => exact ⟨at_ + 3600 * x + 60 * y + p, i - 1, _, rfl, rfl, by omega, by omega, by omega, by omega, by simp; omega, N, O5, G5, D5⟩
        case measure => simp [intOf]; omega
    · go_wp2_with fail
      go_ret
      exact ⟨_, l, rfl, HO.out, HR.out.1, by omega, HG.out, HD.out⟩

/-- What Instant hands back. -/
def Instanted (w : World) (g : Nat) (A : Option Addr) (n c : Nat) (zs : List Int) (e : Ending) (w' : World) : Prop :=
  ∃ v, e = .returned (.int .i64 v) ∧ 1767139199 ≤ v ∧ v ≤ 1769212799 ∧ w.grownBy w' (some g) ∧ Dice w' g A n c zs

set_option maxHeartbeats 2000000 in
theorem Instant_any (g n c : Nat) (A : Option Addr) (zs : List Int) (w : World) (h : Dice w g A n c zs) :
    Calls Tryd.prog 20 #[.pointer (some ⟨g, 0, none⟩)] w (Instanted w g A n c zs) := by
  have hgw := h.lt_
  have C := Lib.hid (Next_any g n c A zs 576 w h (by omega) (by omega))
  clear h
  go_enter Tryd.func20, Tryd.ntmps20
  go_wp2_with fail
  refine C.out.mono ?_
  rintro e w1 ⟨x, rfl, x1, x2, g1, D1⟩
  clear C
  go_wp2_with fail
  refine (Bool_any g n c A zs 3 _ D1 (by omega) (by omega)).mono ?_
  rintro e w2 ⟨b, rfl, g2, D2⟩
  have HG := Lib.hid (grown_trans g1 g2)
  have HD := Lib.hid D2
  have hz := HG.out.size
  clear g1 g2 D1 D2
  cases b
  · go_wp2_with fail
    go_ret
    exact ⟨_, rfl, by omega, by omega, HG.out, HD.out⟩
  · go_wp2_with fail
    refine (Pick_any g n c A zs [-1, 1, 1800, 3599] w2.heap.size 4 4 3 _ (HD.out.alloc _) (BlkAt.new w2 _ _) rfl (by omega) (by omega) (by omega)).mono ?_
    rintro e w3 ⟨p, rfl, hp, g3, D3⟩
    have hp2 : -1 ≤ p ∧ p ≤ 3599 := by simp at hp; omega
    obtain ⟨p1, p2⟩ := hp2
    have HG3 := Lib.hid (grown_trans (grown_alloc HG.out _) g3)
    have HD3 := Lib.hid D3
    clear hp g3 D3
    go_wp2_with fail
    go_ret
    exact ⟨_, rfl, by omega, by omega, HG3.out, HD3.out⟩
end Go.Proofs.YtndngkfiamdohaaDoor
namespace Go.Proofs.YtndngkfiamdohaaDoor
open Go.RowKit
set_option linter.unusedVariables false
set_option linter.unusedSimpArgs false
set_option maxRecDepth 100000

theorem hSWin : Tryd.prog.underlying 24 = some (.struct (Tryd.prog.fieldsOf 24)) := by kernel_rfl
theorem hPWin : Tryd.prog.stoodInHeld 24 = false := by kernel_rfl
theorem neqWin (a b c d : Int) (w : World) : (binOp .neq 24 (.agg #[.int .i64 a, .int .i64 b]) (.agg #[.int .i64 c, .int .i64 d])).run Tryd.prog w = .ok (.bool (!(a == c && b == d))) w := by
  have u3 := Tryd.underlying3
  have a3 := Tryd.isAgg3
  have z3 := Tryd.sizeOf3
  rw [run_neq_struct, show (10000 : Nat) = 9999 + 1 from rfl, run_equalIn_struct w 9999 24 _ _ hSWin hPWin]
  simp only [Program.fieldsOf, Tryd.underlying24]
  go_simp
  by_cases h1 : a = c <;> by_cases h2 : b = d <;> simp [h1, h2]
theorem eqlWin (a b c d : Int) (w : World) : (binOp .eql 24 (.agg #[.int .i64 a, .int .i64 b]) (.agg #[.int .i64 c, .int .i64 d])).run Tryd.prog w = .ok (.bool (a == c && b == d)) w := by
  have u3 := Tryd.underlying3
  have a3 := Tryd.isAgg3
  have z3 := Tryd.sizeOf3
  rw [run_eql_struct, show (10000 : Nat) = 9999 + 1 from rfl, run_equalIn_struct w 9999 24 _ _ hSWin hPWin]
  simp only [Program.fieldsOf, Tryd.underlying24]
  go_simp
  by_cases h1 : a = c <;> by_cases h2 : b = d <;> simp [h1, h2]
theorem guardWin (k : BinOp) (hk : k = .neq ∨ k = .eql) (p q : Operand) (a b c d : Int) (w : World) : (eqGuard k 24 p q (.agg #[.int .i64 a, .int .i64 b]) (.agg #[.int .i64 c, .int .i64 d])).run Tryd.prog w = .ok () w := by
  rcases hk with rfl | rfl <;> exact run_eqGuard_agg w _ _ _ _ _ _ (by kernel_rfl)
theorem hSSpn : Tryd.prog.underlying 38 = some (.struct (Tryd.prog.fieldsOf 38)) := by kernel_rfl
theorem hPSpn : Tryd.prog.stoodInHeld 38 = false := by kernel_rfl
theorem neqSpn (a b c d : Int) (w : World) : (binOp .neq 38 (.agg #[.int .i64 a, .int .i64 b]) (.agg #[.int .i64 c, .int .i64 d])).run Tryd.prog w = .ok (.bool (!(a == c && b == d))) w := by
  have u3 := Tryd.underlying3
  have a3 := Tryd.isAgg3
  have z3 := Tryd.sizeOf3
  rw [run_neq_struct, show (10000 : Nat) = 9999 + 1 from rfl, run_equalIn_struct w 9999 38 _ _ hSSpn hPSpn]
  simp only [Program.fieldsOf, Tryd.underlying38]
  go_simp
  by_cases h1 : a = c <;> by_cases h2 : b = d <;> simp [h1, h2]
theorem eqlSpn (a b c d : Int) (w : World) : (binOp .eql 38 (.agg #[.int .i64 a, .int .i64 b]) (.agg #[.int .i64 c, .int .i64 d])).run Tryd.prog w = .ok (.bool (a == c && b == d)) w := by
  have u3 := Tryd.underlying3
  have a3 := Tryd.isAgg3
  have z3 := Tryd.sizeOf3
  rw [run_eql_struct, show (10000 : Nat) = 9999 + 1 from rfl, run_equalIn_struct w 9999 38 _ _ hSSpn hPSpn]
  simp only [Program.fieldsOf, Tryd.underlying38]
  go_simp
  by_cases h1 : a = c <;> by_cases h2 : b = d <;> simp [h1, h2]
theorem guardSpn (k : BinOp) (hk : k = .neq ∨ k = .eql) (p q : Operand) (a b c d : Int) (w : World) : (eqGuard k 38 p q (.agg #[.int .i64 a, .int .i64 b]) (.agg #[.int .i64 c, .int .i64 d])).run Tryd.prog w = .ok () w := by
  rcases hk with rfl | rfl <;> exact run_eqGuard_agg w _ _ _ _ _ _ (by kernel_rfl)
theorem list_ext {xs ys : Wk.L} {n : Nat} (hx : xs.length = n) (hy : ys.length = n) (h : ∀ k, k < n → xs.getD k (0, 0) = ys.getD k (0, 0)) : xs = ys := by
  refine List.ext_getElem (by omega) fun i h1 h2 => ?_
  have := h i (by omega)
  simpa [List.getD, List.getElem?_eq_getElem h1, List.getElem?_eq_getElem h2] using this

set_option maxHeartbeats 1000000 in
theorem lsame_any (A B : Option Addr) (n m c d : Nat) (xs ys : Wk.L) (w : World) (hA : WIn w A n xs) (hB : WIn w B m ys) :
    Calls Tryd.prog 24 #[.slice A n c, .slice B m d] w fun e w' => e = .returned (.bool (decide (xs = ys))) ∧ Below w.heap.size w w' := by
  by_cases hl : n = m
  · subst hl
    have HA := Lib.hid hA
    have HB := Lib.hid hB
    have hn := hA.le
    have NQ := neqWin
    have GQ := guardWin .neq (.inl rfl)
    clear hA hB
    go_enter Tryd.func24, Tryd.ntmps24
    go_wp2_with fail
    go_loopw [13] (fun i wr => ∃ k : Nat, k ≤ n ∧ i = .int .i64 k ∧ Hid (∀ j, j < k → xs.getD j (0, 0) = ys.getD j (0, 0)) ∧ Hid (Below w.heap.size w wr)) (fun i _ => n - (intOf i).toNat)
    case atStart => exact ⟨0, Nat.zero_le _, rfl, Lib.hid (fun j hj => absurd hj (by omega)), Lib.hid (Below.refl _ _)⟩
    case round =>
      obtain ⟨k, hk, rfl, H, hW⟩ := hrel
      by_cases hlt : k < n
      · obtain ⟨f, t, bl, of, hx, rfl, hb, c0, c1⟩ := (HA.out.below hW.out).get hlt
        obtain ⟨g, u, bl2, of2, hy, rfl, hb2, d0, d1⟩ := (HB.out.below hW.out).get hlt
        have HX := Lib.hid (show xs.getD k (0, 0) = (f, t) by simp [List.getD, hx])
        have HY := Lib.hid (show ys.getD k (0, 0) = (g, u) by simp [List.getD, hy])
        have hlt2 : (k : Int) < n := by omega
        have hk0 : (0 : Int) ≤ k := by omega
        clear hx hy
        by_cases he : f = g ∧ t = u
        · obtain ⟨rfl, rfl⟩ := he
          go_wp2_with fail
          go_quiet (fail)
          go_wp2_with fail
          go_roundw
          case rel => exact ⟨k + 1, by omega, by go_num, Lib.hid (fun j hj => by rcases Nat.lt_succ_iff_lt_or_eq.1 hj with h | rfl; exact H.out j h; rw [HX.out, HY.out]), Lib.hid (below_drewN hW.out _)⟩
          case measure => simp [intOf]; omega
        · have hd : (f == g && t == u) = false := by simpa using he
          go_wp2_with fail
          go_quiet (fail)
          go_wp2_with fail
          go_ret
          refine ⟨ret_bool (decide_eq_false (fun e => he ?_)).symm, below_drewN hW.out _⟩
          have e2 := HX.out
          rw [e, HY.out] at e2
          simp at e2
          exact ⟨e2.1.symm, e2.2.symm⟩
      · go_wp2_with fail
        go_ret
        exact ⟨ret_bool (decide_eq_true (list_ext HA.out.len HB.out.len (fun j hj => H.out j (by omega)))).symm, hW.out⟩
  · have hne : xs ≠ ys := fun e => hl (by rw [← hA.len, ← hB.len, e])
    have hi : ((n : Int) == m) = false := by simp; omega
    have hi2 : (n == m) = false := by simp; omega
    have hl2 : ¬ (n : Int) = m := by omega
    clear hA hB
    go_enter Tryd.func24, Tryd.ntmps24
    go_wp2_with fail
    go_ret
    exact ⟨ret_bool (decide_eq_false hne).symm, Below.refl _ _⟩

set_option maxHeartbeats 1000000 in
theorem lspans_any (A B : Option Addr) (n m c d : Nat) (xs ys : Wk.L) (w : World) (hA : WIn w A n xs) (hB : WIn w B m ys) :
    Calls Tryd.prog 29 #[.slice A n c, .slice B m d] w fun e w' => e = .returned (.bool (decide (xs = ys))) ∧ Below w.heap.size w w' := by
  by_cases hl : n = m
  · subst hl
    have HA := Lib.hid hA
    have HB := Lib.hid hB
    have hn := hA.le
    have NQ := neqSpn
    have GQ := guardSpn .neq (.inl rfl)
    clear hA hB
    go_enter Tryd.func29, Tryd.ntmps29
    go_wp2_with fail
    go_loopw [13] (fun i wr => ∃ k : Nat, k ≤ n ∧ i = .int .i64 k ∧ Hid (∀ j, j < k → xs.getD j (0, 0) = ys.getD j (0, 0)) ∧ Hid (Below w.heap.size w wr)) (fun i _ => n - (intOf i).toNat)
    case atStart => exact ⟨0, Nat.zero_le _, rfl, Lib.hid (fun j hj => absurd hj (by omega)), Lib.hid (Below.refl _ _)⟩
    case round =>
      obtain ⟨k, hk, rfl, H, hW⟩ := hrel
      by_cases hlt : k < n
      · obtain ⟨f, t, bl, of, hx, rfl, hb, c0, c1⟩ := (HA.out.below hW.out).get hlt
        obtain ⟨g, u, bl2, of2, hy, rfl, hb2, d0, d1⟩ := (HB.out.below hW.out).get hlt
        have HX := Lib.hid (show xs.getD k (0, 0) = (f, t) by simp [List.getD, hx])
        have HY := Lib.hid (show ys.getD k (0, 0) = (g, u) by simp [List.getD, hy])
        have hlt2 : (k : Int) < n := by omega
        have hk0 : (0 : Int) ≤ k := by omega
        clear hx hy
        by_cases he : f = g ∧ t = u
        · obtain ⟨rfl, rfl⟩ := he
          go_wp2_with fail
          go_quiet (fail)
          go_wp2_with fail
          go_roundw
          case rel => exact ⟨k + 1, by omega, by go_num, Lib.hid (fun j hj => by rcases Nat.lt_succ_iff_lt_or_eq.1 hj with h | rfl; exact H.out j h; rw [HX.out, HY.out]), Lib.hid (below_drewN hW.out _)⟩
          case measure => simp [intOf]; omega
        · have hd : (f == g && t == u) = false := by simpa using he
          go_wp2_with fail
          go_quiet (fail)
          go_wp2_with fail
          go_ret
          refine ⟨ret_bool (decide_eq_false (fun e => he ?_)).symm, below_drewN hW.out _⟩
          have e2 := HX.out
          rw [e, HY.out] at e2
          simp at e2
          exact ⟨e2.1.symm, e2.2.symm⟩
      · go_wp2_with fail
        go_ret
        exact ⟨ret_bool (decide_eq_true (list_ext HA.out.len HB.out.len (fun j hj => H.out j (by omega)))).symm, hW.out⟩
  · have hne : xs ≠ ys := fun e => hl (by rw [← hA.len, ← hB.len, e])
    have hi : ((n : Int) == m) = false := by simp; omega
    have hi2 : (n == m) = false := by simp; omega
    have hl2 : ¬ (n : Int) = m := by omega
    clear hA hB
    go_enter Tryd.func29, Tryd.ntmps29
    go_wp2_with fail
    go_ret
    exact ⟨ret_bool (decide_eq_false hne).symm, Below.refl _ _⟩

theorem okO0 : Zn.okO 0 = true := by decide
def exW : Wk.L := [(32400, 61200)]
theorem ex_in : inV 0 [] 0 exW 378000 = true := by kernel_rfl
theorem ex_out : inV 0 [] 0 exW 406800 = false := by kernel_rfl
theorem ex_sec : secV 0 [] 0 378000 = 32400 := by kernel_rfl
theorem ex_secE : offE 0 378000 = 0 := by kernel_rfl
theorem ex_inv : Wk.invV [(0, 86400)] = [(86400, 604800)] := by kernel_rfl
theorem ex_invE : Wk.invE [(0, 86400)] = 0 := by kernel_rfl
theorem pairs_one {w : World} {b : Nat} {x y : Int} {T : TypeId} (h : BlkAt w b #[.int .i64 x, .int .i64 y] T) : PairsAt w (some ⟨b, 0, none⟩) [(x, y)] := fun _ => by
  refine ⟨b, 0, rfl, BlkAt.lt_ h, fun i z hz j hj => ?_⟩
  have hi : i = 0 := by have := (List.getElem?_eq_some_iff.1 hz).1; simp at this; omega
  subst hi
  simp at hz; subst hz
  match j, hj with
  | 0, _ => exact BlkAt.cell h rfl
  | 1, _ => exact BlkAt.cell h rfl

set_option maxHeartbeats 4000000 in
theorem wsane_any (w : World) (hT : CivT w) : Calls Tryd.prog 14 #[] w fun e w' => e = .returned (.bool true) ∧ Below w.heap.size w w' := by
  have HT := Lib.hid hT
  have i1 : I64 0 := ⟨by omega, by omega⟩
  have C1 := Lib.hid (fun W (h : WIn W (some ⟨w.heap.size + 1, 0, none⟩) 1 [(0, 86400)]) => winv_is ex_inv ex_invE (some ⟨w.heap.size + 1, 0, none⟩) 1 1 W h)
  have C2 := fun W (h : CivT W) => sec_is (trans_nil okO0) ⟨#[]⟩ none 0 0 378000 W (zin_nil h) i1
  have C3 := fun W (h : CivT W) (hl : WIn W (some ⟨w.heap.size, 0, none⟩) 1 exW) => wkin_is (trans_nil okO0) ⟨#[]⟩ none 0 0 (some ⟨w.heap.size, 0, none⟩) 1 1 exW 378000 W (zin_nil h) i1 hl
  have C4 := fun W (h : CivT W) (hl : WIn W (some ⟨w.heap.size, 0, none⟩) 1 exW) => wkin_is (trans_nil okO0) ⟨#[]⟩ none 0 0 (some ⟨w.heap.size, 0, none⟩) 1 1 exW 406800 W (zin_nil h) i1 hl
  rw [ex_sec, ex_secE] at C2
  rw [ex_in] at C3
  rw [ex_out] at C4
  have H2 := Lib.hid C2
  have H3 := Lib.hid C3
  have H4 := Lib.hid C4
  have EQ := eqlWin
  have GQ := guardWin .eql (.inr rfl)
  clear C2 C3 C4 i1 hT
  go_enter Tryd.func14, Tryd.ntmps14
  go_wp2_with fail
  refine (C1.out _ ⟨pairs_one (by first | exact BlkAt.new _ _ _ | (have := BlkAt.new (w.alloc (.cells #[.int .i64 32400, .int .i64 61200] 24)) #[.int .i64 0, .int .i64 86400] 24; simpa using this)), rfl, by omega⟩).mono ?_
  rintro e w1 ⟨A1, c1, rfl, hP, b1⟩
  have B1 := Lib.hid (((((Below.refl w.heap.size w).alloc (Nat.le_refl _) (.cells #[.int .i64 32400, .int .i64 61200] 24)).alloc (by simp) (.cells #[.int .i64 0, .int .i64 86400] 24))).trans (b1.mono (by simp; omega)))
  have X1 := Lib.hid (BlkAt.after (BlkAt.alloc (BlkAt.new w #[.int .i64 32400, .int .i64 61200] 24) (.cells #[.int .i64 0, .int .i64 86400] 24)) b1)
  have HP := Lib.hid hP
  clear b1 C1 hP
  go_wp2_with fail
  refine (H2.out _ (HT.out.below B1.out)).mono ?_
  rintro e w2 ⟨rfl, b2⟩
  have B2 := Lib.hid (bstep B1.out b2)
  have X2 := Lib.hid (BlkAt.after X1.out b2)
  have HP2 := Lib.hid (HP.out.below b2)
  clear b2 H2 B1 X1 HP
  go_wp2_with fail
  refine (H3.out _ (HT.out.below B2.out) ⟨pairs_one X2.out, rfl, by omega⟩).mono ?_
  rintro e w3 ⟨rfl, b3⟩
  have B3 := Lib.hid (bstep B2.out b3)
  have X3 := Lib.hid (BlkAt.after X2.out b3)
  have HP3 := Lib.hid (HP2.out.below b3)
  clear b3 H3 B2 X2 HP2
  go_wp2_with fail
  refine (H4.out _ (HT.out.below B3.out) ⟨pairs_one X3.out, rfl, by omega⟩).mono ?_
  rintro e w4 ⟨rfl, b4⟩
  have B4 := Lib.hid (bstep B3.out b4)
  obtain ⟨bl, of, rfl, hb, hc⟩ := (HP3.out.below b4) (by simp)
  obtain ⟨c0, c1⟩ := pair_cells (hc 0 _ rfl)
  simp only [Nat.zero_mul, Nat.add_zero] at c0 c1
  clear b4 H4 B3 X3 HP3 hc
  go_wp2_with fail
  go_ret
  exact ⟨rfl, B4.out⟩
end Go.Proofs.YtndngkfiamdohaaDoor
namespace Go.Proofs.YtndngkfiamdohaaDoor
open Go.RowKit
set_option linter.unusedVariables false
set_option linter.unusedSimpArgs false
set_option maxRecDepth 100000

theorem ListAt.gr {α : Type} {k : Nat} {e : α → Nat → Value} {w w1 : World} {A : Option Addr} {xs : List α} {g : Nat} (h : ListAt k e w A xs) (ha : 0 < xs.length → ∀ ad, A = some ad → ad.block ≠ g) (hs : w.grownBy w1 (some g)) : ListAt k e w1 A xs := fun h0 => by
  obtain ⟨b, off, ea, hlt, hc⟩ := h h0
  have hne := ha h0 _ ea
  simp only at hne
  exact ⟨b, off, ea, Nat.lt_of_lt_of_le hlt hs.size, fun i x hx j hj => (hs.cell_far ⟨b, off + i * k + j, none⟩ hlt (fun e => hne (Option.some.inj e))).trans (hc i x hx j hj)⟩
/-- The rules of a drawn zone are not the Dice. -/
theorem rules_far {w : World} {A A' : Option Addr} {g n c : Nat} {zs : List Int} {rs : List Zn.Rule} (h : RulesAt w A' rs) (hd : Dice w g A n c zs) : 0 < rs.length → ∀ ad, A' = some ad → ad.block ≠ g := fun h0 ad ea e => by
  obtain ⟨b, off, ea2, hlt, hc⟩ := h h0
  rw [ea] at ea2; cases ea2
  simp only at e; subst e
  obtain ⟨x, hx⟩ := get_ex h0
  obtain ⟨p, -, hb⟩ := hd.at_
  have h1 := hc 0 x hx 6 (by omega)
  have h2 := cell_of_row w b (off + 0 * 7 + 6) _ _ (0, 0) hb
  rw [h1] at h2
  simp at h2
theorem pairs_far {w : World} {A A' : Option Addr} {g n c : Nat} {zs : List Int} {xs : Zn.L} (h : PairsAt w A' xs) (hd : Dice w g A n c zs) : 0 < xs.length → ∀ ad, A' = some ad → ad.block ≠ g := fun h0 ad ea e => by
  obtain ⟨b, off, ea2, hlt, hc⟩ := h h0
  rw [ea] at ea2; cases ea2
  simp only at e; subst e
  obtain ⟨x, hx⟩ := get_ex h0
  obtain ⟨p, -, hb⟩ := hd.at_
  have h1 := hc 0 x hx 0 (by omega)
  have h2 := cell_of_row w b (off + 0 * 2 + 0) _ _ (0, 0) hb
  have h3 := hc 0 x hx 1 (by omega)
  have h4 := cell_of_row w b (off + 0 * 2 + 1) _ _ (0, 0) hb
  rw [h1] at h2
  rw [h3] at h4
  rcases off with _ | off
  · simp [ePair] at h2
  · simp at h4
/-- What is known while a law goes on. -/
structure LK (w : World) (off : Int) (A' : Option Addr) (n' c' : Nat) (rs : List Zn.Rule) (bz : Nat) (A5 : Option Addr) (n5 : Nat) (l : Wk.L) (W : World) : Prop where
  z : ZIn W A' n' rs
  zb : ZBlk W bz ⟨#[97]⟩ off A' n' c'
  win : WIn W A5 n5 l
  bel : Below w.heap.size w W
section
variable {w : World} {off : Int} {A' : Option Addr} {n' c' : Nat} {rs : List Zn.Rule} {bz : Nat} {A5 : Option Addr} {n5 : Nat} {l : Wk.L} {W W' : World}
theorem LK.after (h : LK w off A' n' c' rs bz A5 n5 l W) (hb : Below W.heap.size W W') : LK w off A' n' c' rs bz A5 n5 l W' := ⟨h.z.below hb, BlkAt.after h.zb hb, h.win.below hb, bstep h.bel hb⟩
theorem LK.alloc (h : LK w off A' n' c' rs bz A5 n5 l W) (o : Obj) : LK w off A' n' c' rs bz A5 n5 l (W.alloc o) := h.after ((Below.refl _ _).alloc (Nat.le_refl _) o)
theorem LK.drewN (h : LK w off A' n' c' rs bz A5 n5 l W) (q : Nat) : LK w off A' n' c' rs bz A5 n5 l (W.drewN q) := h.after (below_drewN (Below.refl _ _) q)
end
theorem tm_ok {l : Wk.L} {f t : Int} {r : Wk.L} (hc : Wk.chk l = 0) (hq : okQ f t = true) (hr : r.length ≤ 4096) : tmV 0 l f t r = r ∧ tmE 0 l f t r = 0 := by
  unfold tmV tmE
  rw [if_neg (by simp), if_neg (by simpa using hc), if_neg (by rw [hq]; decide), if_neg (by omega), if_neg (by simp), if_neg (by simpa using hc), if_neg (by rw [hq]; decide), if_neg (by omega)]
  exact ⟨rfl, rfl⟩
theorem okQ_ok {f t : Int} (h1 : 0 ≤ f) (h2 : f ≤ t) (h3 : t ≤ 8589934592) (h4 : t - f ≤ 34560000) : okQ f t = true := by unfold okQ; exact decide_eq_true ⟨h1, h2, h3, h4⟩
end Go.Proofs.YtndngkfiamdohaaDoor
namespace Go.Proofs.YtndngkfiamdohaaDoor
open Go.RowKit
set_option linter.unusedVariables false
set_option linter.unusedSimpArgs false
set_option maxRecDepth 100000

/-- What Windows hands back; no windows are nil. -/
def Windowed2 (w : World) (g : Nat) (A : Option Addr) (n c : Nat) (zs : List Int) (e : Ending) (w' : World) : Prop :=
  ∃ v l, e = .returned v ∧ OwnL 24 2 ePair w' w.heap.size v l ∧ Wk.Rt 0 l ∧ l.length ≤ 3 ∧ (l = [] → v = .slice none 0 0) ∧ w.grownBy w' (some g) ∧ Dice w' g A n c zs

set_option maxHeartbeats 4000000 in
theorem Windows_nil (g n c : Nat) (A : Option Addr) (zs : List Int) (w : World) (h : Dice w g A n c zs) :
    Calls Tryd.prog 18 #[.pointer (some ⟨g, 0, none⟩)] w (Windowed2 w g A n c zs) := by
  have hgw := h.lt_
  have C := Lib.hid (Next_any g n c A zs 4 w h (by omega) (by omega))
  clear h
  go_enter Tryd.func18, Tryd.ntmps18
  go_wp2_with fail
  refine C.out.mono ?_
  rintro e w1 ⟨i0, rfl, i1, i2, g1, D1⟩
  have HG := Lib.hid g1
  have HD := Lib.hid D1
  clear g1 D1 C
  go_wp2_with fail
  go_loopw [3, 4, 5] (fun v va vi wr => ∃ (at_ i : Int) (l : Wk.L), va = .int .i64 at_ ∧ vi = .int .i64 i ∧ 0 ≤ at_ ∧ at_ ≤ 604800 ∧ 0 ≤ i ∧ i ≤ 3 ∧ (l.length : Int) + i ≤ 3 ∧ Hid (Wk.Rt 0 l ∧ ∀ x ∈ l, x.2 ≤ at_) ∧ Hid (l = [] → v = .slice none 0 0) ∧ Hid (OwnL 24 2 ePair wr w.heap.size v l) ∧ Hid (w.grownBy wr (some g)) ∧ Hid (Dice wr g A n c zs)) (fun _ _ vi _ => (intOf vi).toNat)
  case atStart => exact ⟨0, i0, [], rfl, rfl, by omega, by omega, i1, by omega, by simp; omega, Lib.hid ⟨trivial, fun x hx => by cases hx⟩, Lib.hid (fun _ => rfl), Lib.hid (OwnL.nil_ _ _), HG, HD⟩
  case round =>
    clear HG HD
    obtain ⟨at_, i, l, rfl, rfl, a1, a2, j1, j2, hl, HR, HNIL, HO, HG, HD⟩ := hrel
    by_cases hi : 0 < i
    · have hz0 := HG.out.size
      go_wp2_with fail
      refine (Next_any g n c A zs 30 _ HD.out (by omega) (by omega)).mono ?_
      rintro e w2 ⟨x, rfl, x1, x2, g2, D2⟩
      have HO2 := Lib.hid (HO.out.grown g2 hgw)
      have HG2 := Lib.hid (grown_trans HG.out g2)
      have HD2 := Lib.hid D2
      clear g2 D2 HO HG HD
      go_wp2_with fail
      refine (Next_any g n c A zs 2 _ HD2.out (by omega) (by omega)).mono ?_
      rintro e w3 ⟨y, rfl, y1, y2, g3, D3⟩
      have HO3 := Lib.hid (HO2.out.grown g3 hgw)
      have HG3 := Lib.hid (grown_trans HG2.out g3)
      have HD3 := Lib.hid D3
      have hz3 := HG3.out.size
      clear g3 D3 HO2 HG2 HD2
      go_wp2_with fail
      refine (Pick_any g n c A zs [3600, 28800, 43200, 86400, 61, 1] w3.heap.size 6 6 3 _ (HD3.out.alloc _) (BlkAt.new w3 _ _) rfl (by omega) (by omega) (by omega)).mono ?_
      rintro e w4 ⟨p, rfl, hp, g4, D4⟩
      have hp2 : 1 ≤ p ∧ p ≤ 86400 := by simp at hp; omega
      obtain ⟨p1, p2⟩ := hp2
      have HO4 := Lib.hid ((HO3.out.alloc _).grown g4 hgw)
      have HG4 := Lib.hid (grown_trans (grown_alloc HG3.out _) g4)
      have HD4 := Lib.hid D4
      have hz4 := HG4.out.size
      clear g4 D4 HO3 HG3 HD3 hp
      by_cases hbig : 604800 < at_ + 3600 * x + 60 * y + p
      · go_wp2_with fail
        go_ret
        exact ⟨_, l, rfl, HO4.out, HR.out.1, by omega, HNIL.out, HG4.out, HD4.out⟩
      · have N := Lib.hid (show Wk.Rt 0 (l ++ [(at_ + 3600 * x + 60 * y, at_ + 3600 * x + 60 * y + p)]) ∧ ∀ z ∈ l ++ [(at_ + 3600 * x + 60 * y, at_ + 3600 * x + 60 * y + p)], z.2 ≤ at_ + 3600 * x + 60 * y + p from
          ⟨rt_snoc HR.out.1 (fun z hz => by have := HR.out.2 z hz; omega) (by omega) (by omega) (by omega), fun z hz => by
            rcases List.mem_append.1 hz with hz | hz
            · have := HR.out.2 z hz; omega
            · simp at hz; subst hz; exact Int.le_refl _⟩)
        have hlen : l.length ≤ 900000 := by omega
        clear HR
        go_wp2_with (at_builtin; refine wp_append_one kWin _ rfl _ _ rfl w.heap.size _ l rfl (HO4.out.alloc _) w4.heap.size (at_ + 3600 * x + 60 * y, at_ + 3600 * x + 60 * y + p) rfl (pair_new (x := (at_ + 3600 * x + 60 * y, at_ + 3600 * x + 60 * y + p)) rfl) hlen (by simp; omega) ?_; intro gg cap w5 hO5 hB5 hg5 hgo _)
        have O5 := Lib.hid hO5
        have G5 := Lib.hid (grown_then (grown_alloc HG4.out _) hB5 (Nat.le_refl _))
        have D5 := Lib.hid ((HD4.out.alloc _).below hB5 hgw)
        clear hO5 hB5 hg5 hgo
        go_wp2_with fail
        go_roundw
        case rel => exact ⟨at_ + 3600 * x + 60 * y + p, i - 1, _, rfl, rfl, by omega, by omega, by omega, by omega, by simp; omega, N, Lib.hid (fun h => absurd h (by simp)), O5, G5, D5⟩
        case measure => simp [intOf]; omega
    · go_wp2_with fail
      go_ret
      exact ⟨_, l, rfl, HO.out, HR.out.1, by omega, HNIL.out, HG.out, HD.out⟩


theorem wp_append_no {S T : TypeId} {k : Nat} {e : Zn.L → Nat → Value} {ops : Array Oper} {rest : List Oper} {o : Oper} {a : Act} {Q : Exit → Act → World → Prop} (w : World) (hgd : o.guard = none) (s x : Operand)
    (ho : o.op = .call { callee := .builtin .append, args := #[s, x], argTypes := #[22, 22] }) (hs : a.eval s = .slice none 0 0) (hx : a.eval x = .slice none 0 0)
    (h : wpList Tryd.prog ops Q rest (a.put o.dst (.slice none 0 0)) w) : wpList Tryd.prog ops Q (o :: rest) a w := by
  obtain ⟨i0, z, bytes, hi, hz0, hz1, hz2, hzz, hk2⟩ := kWin.info
  exact wpList_append_own_none hgd s x _ ho w.heap.size 24 i0 2 kWin.under hi (.slice none 0 0) 0 [] hs (World.ownsRow_nil w w.heap.size _ 2) hx h
/-- What is known in the law's loops. -/
structure LX (w : World) (off : Int) (A' : Option Addr) (n' c' : Nat) (rs : List Zn.Rule) (bz : Nat) (A5 : Option Addr) (n5 : Nat) (l : Wk.L) (A8 : Option Addr) (n8 : Nat) (bl : Wk.L) (A0 : Option Addr) (n0 : Nat) (raw : Wk.L) (W : World) : Prop where
  k : LK w off A' n' c' rs bz A5 n5 l W
  wb : WIn W A8 n8 bl
  wr : WIn W A0 n0 raw
section
variable {w : World} {off : Int} {A' : Option Addr} {n' c' : Nat} {rs : List Zn.Rule} {bz : Nat} {A5 : Option Addr} {n5 : Nat} {l : Wk.L} {A8 : Option Addr} {n8 : Nat} {bl : Wk.L} {A0 : Option Addr} {n0 : Nat} {raw : Wk.L} {W W' : World}
theorem LX.after (h : LX w off A' n' c' rs bz A5 n5 l A8 n8 bl A0 n0 raw W) (hb : Below W.heap.size W W') : LX w off A' n' c' rs bz A5 n5 l A8 n8 bl A0 n0 raw W' := ⟨h.k.after hb, h.wb.below hb, h.wr.below hb⟩
end
section
variable {w : World} {off : Int} {A' : Option Addr} {n' c' : Nat} {rs : List Zn.Rule} {bz : Nat} {A5 : Option Addr} {n5 : Nat} {l : Wk.L} {A8 : Option Addr} {n8 : Nat} {bl : Wk.L} {A0 : Option Addr} {n0 : Nat} {raw : Wk.L} {W W' : World} {A1 : Option Addr} {n1 : Nat} {xs : Wk.L} {u0 u1 u2 : Value}
theorem lx_st (h : LX w off A' n' c' rs bz A5 n5 l A8 n8 bl A0 n0 raw W) (h2 : WIn W A1 n1 xs) : W.cell? ⟨bz, 0, none⟩ = some (.string ⟨#[97]⟩) ∧ W.cell? ⟨bz, 1, none⟩ = some (.int .i64 off) ∧ W.cell? ⟨bz, 2, none⟩ = some (.slice A' n' c') ∧ LX w off A' n' c' rs bz A5 n5 l A8 n8 bl A0 n0 raw W ∧ WIn W A1 n1 xs := by
  obtain ⟨z0, z1, z2⟩ := ZBlk.cells h.k.zb
  exact ⟨z0, z1, z2, h, h2⟩
theorem lx_get (h : W.cell? ⟨bz, 0, none⟩ = some u0 ∧ W.cell? ⟨bz, 1, none⟩ = some u1 ∧ W.cell? ⟨bz, 2, none⟩ = some u2 ∧ LX w off A' n' c' rs bz A5 n5 l A8 n8 bl A0 n0 raw W ∧ WIn W A1 n1 xs) : LX w off A' n' c' rs bz A5 n5 l A8 n8 bl A0 n0 raw W ∧ WIn W A1 n1 xs := h.2.2.2
theorem lx_keep (h : W.cell? ⟨bz, 0, none⟩ = some u0 ∧ W.cell? ⟨bz, 1, none⟩ = some u1 ∧ W.cell? ⟨bz, 2, none⟩ = some u2 ∧ LX w off A' n' c' rs bz A5 n5 l A8 n8 bl A0 n0 raw W ∧ WIn W A1 n1 xs) (hb : Below W.heap.size W W') : W'.cell? ⟨bz, 0, none⟩ = some (.string ⟨#[97]⟩) ∧ W'.cell? ⟨bz, 1, none⟩ = some (.int .i64 off) ∧ W'.cell? ⟨bz, 2, none⟩ = some (.slice A' n' c') ∧ LX w off A' n' c' rs bz A5 n5 l A8 n8 bl A0 n0 raw W' ∧ WIn W' A1 n1 xs := lx_st (h.2.2.2.1.after hb) (h.2.2.2.2.below hb)
end
theorem pickL (A5 : Option Addr) (n5 c5 : Nat) (A8 : Option Addr) (n8 c8 : Nat) (A0 : Option Addr) (n0 c0 : Nat) (l bl raw : Wk.L) (k : Nat) (hk : k < 3) :
    ∃ (A1 : Option Addr) (n1 c1 : Nat) (xs : Wk.L), (∀ w, (Instr.index 49 (.agg #[.slice A5 n5 c5, .slice A8 n8 c8, .slice A0 n0 c0]) (.int .i64 (k : Int))).run Tryd.prog w = .ok (.slice A1 n1 c1) w) ∧
      (∀ w, WIn w A5 n5 l → WIn w A8 n8 bl → WIn w A0 n0 raw → WIn w A1 n1 xs) := by
  have h : k = 0 ∨ k = 1 ∨ k = 2 := by omega
  rcases h with rfl | rfl | rfl
  · exact ⟨A5, n5, c5, l, fun _ => by kernel_rfl, fun _ x y z => x⟩
  · exact ⟨A8, n8, c8, bl, fun _ => by kernel_rfl, fun _ x y z => y⟩
  · exact ⟨A0, n0, c0, raw, fun _ => by kernel_rfl, fun _ x y z => z⟩
theorem pickI (x d f : Int) (k : Nat) (hk : k < 3) : ∃ v : Int, ∀ w, (Instr.index 51 (.agg #[.int .i64 x, .int .i64 d, .int .i64 f]) (.int .i64 (k : Int))).run Tryd.prog w = .ok (.int .i64 v) w := by
  have h : k = 0 ∨ k = 1 ∨ k = 2 := by omega
  rcases h with rfl | rfl | rfl
  · exact ⟨x, fun _ => by kernel_rfl⟩
  · exact ⟨d, fun _ => by kernel_rfl⟩
  · exact ⟨f, fun _ => by kernel_rfl⟩
theorem pickR (a b c d e f : Int) (ia : I64 a) (ib : I64 b) (ic : I64 c) (id : I64 d) (ie : I64 e) (if_ : I64 f) (k : Nat) (hk : k < 3) : ∃ u v : Int, (∀ w, (Instr.index 55 (.agg #[.int .i64 a, .int .i64 b, .int .i64 c, .int .i64 d, .int .i64 e, .int .i64 f]) (.int .i64 (k : Int))).run Tryd.prog w = .ok (.agg #[.int .i64 u, .int .i64 v]) w) ∧ I64 u ∧ I64 v := by
  have h : k = 0 ∨ k = 1 ∨ k = 2 := by omega
  rcases h with rfl | rfl | rfl
  · exact ⟨a, b, fun _ => by kernel_rfl, ia, ib⟩
  · exact ⟨c, d, fun _ => by kernel_rfl, ic, id⟩
  · exact ⟨e, f, fun _ => by kernel_rfl, ie, if_⟩
theorem invV_len (l : Wk.L) : (Wk.invV l).length ≤ 14 := by
  unfold Wk.invV
  split
  · split
    · simp
    · omega
  · simp
theorem tmV_len (er : Int) (l : Wk.L) (f t : Int) (r : Wk.L) : (tmV er l f t r).length ≤ 4096 := by
  unfold tmV
  split
  · simp
  · split
    · simp
    · split
      · simp
      · split
        · simp
        · omega
end Go.Proofs.YtndngkfiamdohaaDoor
