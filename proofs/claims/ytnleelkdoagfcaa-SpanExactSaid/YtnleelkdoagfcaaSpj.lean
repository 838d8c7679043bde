/- Plain facts: the set of the numbers of any spans. -/
import Derived.Test.YtnleelkdoagfcaaSpm2
set_option linter.unusedVariables false
namespace Spn

/-- The spans with numbers. -/
def parts (l : L) : L := l.filter fun s => decide (s.1 < s.2)
theorem parts_snoc (l : L) (s : Int × Int) : parts (l ++ [s]) = parts l ++ (if s.1 < s.2 then [s] else []) := by
  unfold parts
  rw [List.filter_append]
  congr 1
  by_cases h : s.1 < s.2 <;> simp [h]
theorem parts_len (l : L) : (parts l).length ≤ l.length := List.length_filter_le _ _
theorem mem_parts {l : L} {s : Int × Int} : s ∈ parts l ↔ s ∈ l ∧ s.1 < s.2 := by simp [parts]
theorem cov_parts (l : L) (x : Int) : cov (parts l) x ↔ cov l x := by
  constructor
  · rintro ⟨s, hs, a, b⟩; exact ⟨s, (mem_parts.1 hs).1, a, b⟩
  · rintro ⟨s, hs, a, b⟩; exact ⟨s, mem_parts.2 ⟨hs, by omega⟩, a, b⟩
/-- A span with numbers that are no instants. -/
def bad1 (s : Int × Int) : Prop := s.1 < s.2 ∧ (s.1 < 0 ∨ 8589934592 < s.2)
def Bad (l : L) : Prop := ∃ s ∈ l, bad1 s
theorem bad_nil : ¬ Bad [] := by rintro ⟨s, h, _⟩; cases h
theorem bad_take {l : L} {k : Nat} (h : k < l.length) (hb : ¬ Bad (l.take k)) (h1 : ¬ bad1 (l.getD k (0, 0))) : ¬ Bad (l.take (k + 1)) := by
  rintro ⟨s, hs, hb1⟩
  rw [take_snoc l k (0, 0) h] at hs
  rcases List.mem_append.1 hs with hs | hs
  · exact hb ⟨s, hs, hb1⟩
  · simp only [List.mem_singleton] at hs; subst hs; exact h1 hb1
/-- What Normal answers. -/
def Norm (l r : L) : Prop := Chain r ∧ ∀ x, cov r x ↔ cov l x
def NR (l r : L) (er : Int) : Prop :=
  (4096 < l.length ∧ r = [] ∧ er = 5) ∨ (l.length ≤ 4096 ∧ Bad l ∧ r = [] ∧ er = 1) ∨ (l.length ≤ 4096 ∧ ¬ Bad l ∧ Norm l r ∧ er = 0)
theorem NR.uniq {l r s : L} {e f : Int} (h : NR l r e) (h' : NR l s f) : r = s ∧ e = f := by
  rcases h with ⟨a, b, c⟩ | ⟨a, b, c, d⟩ | ⟨a, b, c, d⟩ <;> rcases h' with ⟨a', b', c'⟩ | ⟨a', b', c', d'⟩ | ⟨a', b', c', d'⟩
  · exact ⟨by rw [b, b'], by rw [c, c']⟩
  · omega
  · omega
  · omega
  · exact ⟨by rw [c, c'], by rw [d, d']⟩
  · exact absurd b b'
  · omega
  · exact absurd b' b
  · exact ⟨Spn.uniq r s c.1 c'.1 fun x => (c.2 x).trans (c'.2 x).symm, by rw [d, d']⟩

/-! ### Joining spans that ascend by From. -/
def AscF (d : L) : Prop := ∀ i j, i < j → j < d.length → (d.getD i (0, 0)).1 ≤ (d.getD j (0, 0)).1
structure Join (d : L) (k : Nat) (set : L) : Prop where
  chain : Chain set
  cov : ∀ x, cov set x ↔ Spn.cov (d.take k) x
  lo : ∀ u ∈ set, ∀ j, k ≤ j → j < d.length → u.1 ≤ (d.getD j (0, 0)).1
  len : set.length ≤ k
theorem Join.start (d : L) : Join d 0 [] := ⟨chain_nil, (fun x => by simp), (fun u hu => by cases hu), by simp⟩
section
variable {d set c : L} {k : Nat} {f t g u : Int}
theorem Join.merge (h : Join d k (c ++ [(f, t)])) (hd : AscF d) (hk : k < d.length) (hg : d.getD k (0, 0) = (g, u)) (hgu : g < u) (hgt : g ≤ t) : Join d (k + 1) (c ++ [(f, max t u)]) := by
  have hfg : f ≤ g := by have := h.lo (f, t) (by simp) k (Nat.le_refl _) hk; rw [hg] at this; exact this
  obtain ⟨a1, a2, a3⟩ := chain_snoc.1 h.chain
  simp only at a2
  refine ⟨chain_snoc.2 ⟨a1, by simp only; omega, a3⟩, fun x => ?_, fun v hv j h1 h2 => ?_, by have := h.len; simp at this ⊢; omega⟩
  · rw [take_snoc d k (0, 0) hk, cov_snoc, cov_snoc, hg, ← h.cov x, cov_snoc]
    simp only
    constructor
    · rintro (e | ⟨e1, e2⟩)
      · exact .inl (.inl e)
      · by_cases e3 : x < t
        · exact .inl (.inr ⟨e1, e3⟩)
        · exact .inr ⟨by omega, by omega⟩
    · rintro ((e | ⟨e1, e2⟩) | ⟨e1, e2⟩)
      · exact .inl e
      · exact .inr ⟨e1, by omega⟩
      · exact .inr ⟨by omega, by omega⟩
  · rcases List.mem_append.1 hv with hv | hv
    · exact h.lo v (List.mem_append_left _ hv) j (by omega) h2
    · simp only [List.mem_singleton] at hv; subst hv
      have := h.lo (f, t) (by simp) j (by omega) h2
      exact this
theorem Join.push (h : Join d k set) (hd : AscF d) (hk : k < d.length) (hg : d.getD k (0, 0) = (g, u)) (hgu : g < u) (hl : 0 < set.length → (set.getD (set.length - 1) (0, 0)).2 < g) : Join d (k + 1) (set ++ [(g, u)]) := by
  refine ⟨chain_snoc.2 ⟨h.chain, hgu, fun v hv => ?_⟩, fun x => ?_, fun v hv j h1 h2 => ?_, by have := h.len; simp; omega⟩
  · obtain ⟨i, hi, rfl⟩ := List.getElem_of_mem hv
    have h0 := hl (by omega)
    have h1 := chain_to h.chain (i := i) (j := set.length - 1) (by omega) (by omega)
    rw [getD_eq hi] at h1
    simp only
    omega
  · rw [take_snoc d k (0, 0) hk, cov_snoc, cov_snoc, hg, ← h.cov x]
  · rcases List.mem_append.1 hv with hv | hv
    · exact h.lo v hv j (by omega) h2
    · simp only [List.mem_singleton] at hv; subst hv
      have := hd k j (by omega) h2
      rw [hg] at this
      exact this
theorem Join.final (h : Join d k set) (hk : k = d.length) : Chain set ∧ ∀ x, Spn.cov set x ↔ Spn.cov d x := by
  subst hk
  exact ⟨h.chain, fun x => by rw [h.cov x, List.take_of_length_le (Nat.le_refl _)]⟩
end

/-! ### Counting the spans over a number. -/
def cnt : L → Int → Int
  | [], _ => 0
  | s :: r, x => (if s.1 ≤ x ∧ x < s.2 then 1 else 0) + cnt r x
def cntL : L → Int → Int
  | [], _ => 0
  | s :: r, x => (if s.1 = x then 1 else 0) + cntL r x
def cntR : L → Int → Int
  | [], _ => 0
  | s :: r, x => (if s.2 = x then 1 else 0) + cntR r x
theorem cntL_snoc (l : L) (s : Int × Int) (x : Int) : cntL (l ++ [s]) x = cntL l x + (if s.1 = x then 1 else 0) := by
  induction l with
  | nil => simp [cntL]
  | cons t r ih => simp only [List.cons_append, cntL, ih]; omega
theorem cntR_snoc (l : L) (s : Int × Int) (x : Int) : cntR (l ++ [s]) x = cntR l x + (if s.2 = x then 1 else 0) := by
  induction l with
  | nil => simp [cntR]
  | cons t r ih => simp only [List.cons_append, cntR, ih]; omega
theorem cnt_bd (l : L) (x : Int) : (0 ≤ cnt l x ∧ cnt l x ≤ l.length) ∧ (0 ≤ cntL l x ∧ cntL l x ≤ l.length) ∧ (0 ≤ cntR l x ∧ cntR l x ≤ l.length) := by
  induction l with
  | nil => simp [cnt, cntL, cntR]
  | cons t r ih =>
    simp only [cnt, cntL, cntR, List.length_cons]
    refine ⟨?_, ?_, ?_⟩ <;> split <;> omega
theorem cnt_pos (l : L) (x : Int) : 0 < cnt l x ↔ cov l x := by
  induction l with
  | nil => simp [cnt, cov_nil]
  | cons t r ih =>
    have b := (cnt_bd r x).1.1
    rw [cov_cons, ← ih]
    simp only [cnt]
    split
    · rename_i h; exact ⟨fun _ => .inl h, fun _ => by omega⟩
    · rename_i h; exact ⟨fun h2 => .inr (by omega), fun h2 => by rcases h2 with h2 | h2; exact absurd h2 h; omega⟩
theorem cnt_step {p q : Int} (hpq : p < q) : ∀ (l : L), (∀ s ∈ l, s.1 < s.2 ∧ ¬ (p < s.1 ∧ s.1 < q) ∧ ¬ (p < s.2 ∧ s.2 < q)) → cnt l q = cnt l p + (cntL l q - cntR l q)
  | [], _ => by simp [cnt, cntL, cntR]
  | s :: r, h => by
    have a := h s (by simp)
    have b := cnt_step hpq r fun t ht => h t (by simp [ht])
    simp only [cnt, cntL, cntR]
    rw [b]
    split <;> split <;> split <;> split <;> omega

/-- a round of the reference's loop over the sorted borders. -/
structure CRound (l : L) (ss : List Int) (i : Nat) (dep p : Int) (out : L) : Prop where
  cn : dep = cnt l p
  sw : Sweep (cov l) out (decide (0 < dep)) p
  lt : i < ss.length → p < ss.getD i 0
  free : i < ss.length → ∀ s ∈ l, ¬ (p < s.1 ∧ s.1 < ss.getD i 0) ∧ ¬ (p < s.2 ∧ s.2 < ss.getD i 0)
  fin : i = ss.length → ∀ x, p ≤ x → ¬ cov l x
  len : out.length ≤ i
section
variable {l out : L} {ss : List Int} {i : Nat} {dep p : Int}
theorem CRound.start (h : Sps.Srt (flat l) ss) : ∃ p, CRound l ss 0 0 p [] := by
  rcases Nat.eq_zero_or_pos ss.length with h0 | h0
  · have hl : l = [] := by
      rcases l with _ | ⟨s, r⟩
      · rfl
      · have := (h.2.1 s.1).2 (mem_flat.2 ⟨s, by simp, .inl rfl⟩)
        rw [List.eq_nil_of_length_eq_zero h0] at this; cases this
    subst hl
    exact ⟨0, rfl, Sweep.start fun x _ => cov_nil x, fun h => by omega, fun h => by omega, fun _ x _ => cov_nil x, by simp⟩
  · have hb : ∀ s ∈ l, ss.getD 0 0 ≤ s.1 := fun s hs => before h h0 (mem_flat.2 ⟨s, hs, .inl rfl⟩)
    have hb2 : ∀ s ∈ l, ss.getD 0 0 ≤ s.2 := fun s hs => before h h0 (mem_flat.2 ⟨s, hs, .inr rfl⟩)
    have hn : ∀ x, x < ss.getD 0 0 → ¬ cov l x := fun x hx ⟨s, hs, h1, h2⟩ => by have := hb s hs; omega
    refine ⟨ss.getD 0 0 - 1, ?_, Sweep.start fun x hx => hn x (by omega), fun _ => by omega, fun _ s hs => ?_, fun h => by omega, by simp⟩
    · have h1 := (cnt_bd l (ss.getD 0 0 - 1)).1.1
      have h2 : ¬ 0 < cnt l (ss.getD 0 0 - 1) := fun h => hn _ (by omega) ((cnt_pos _ _).1 h)
      omega
    · have := hb s hs; have := hb2 s hs; omega
theorem CRound.count (h : CRound l ss i dep p out) (hl : ∀ s ∈ l, s.1 < s.2) (hi : i < ss.length) : dep + (cntL l (ss.getD i 0) - cntR l (ss.getD i 0)) = cnt l (ss.getD i 0) := by
  rw [cnt_step (h.lt hi) l fun s hs => ⟨hl s hs, h.free hi s hs⟩, h.cn]
theorem CRound.next (h : CRound l ss i dep p out) (hs : Sps.Srt (flat l) ss) (hl : ∀ s ∈ l, s.1 < s.2) (hi : i < ss.length) (dep' q : Int) (hq : ss.getD i 0 = q) (hd : dep' = cnt l q) :
    CRound l ss (i + 1) dep' q (if 0 < dep' then (if 0 < dep then out else out ++ [(q, 0)]) else if 0 < dep then close out q else out) := by
  have hlt := h.lt hi
  have hfr := h.free hi
  rw [hq] at hlt hfr
  have hc : ∀ x, p ≤ x → x < q → (cov l x ↔ 0 < dep) := fun x h1 h2 => by
    rw [cov_const l p x h1 fun s hs => by have := hfr s hs; omega, ← cnt_pos, h.cn]
  refine ⟨hd, ?_, fun h1 => by rw [← hq]; exact Sps.asc_lt hs.1 (by omega) h1, fun h1 s hs' => ?_, fun h1 x hx => ?_, ?_⟩
  · have hsw := h.sw
    by_cases a : 0 < dep' <;> by_cases b : 0 < dep
    · rw [if_pos a, if_pos b, decide_eq_true a]; rw [decide_eq_true b] at hsw
      exact hsw.stayOpen hlt fun x h1 h2 => (hc x h1 h2).2 b
    · rw [if_pos a, if_neg b, decide_eq_true a]; rw [decide_eq_false b] at hsw
      exact hsw.open_ hlt fun x h1 h2 => fun h3 => b ((hc x h1 h2).1 h3)
    · rw [if_neg a, if_pos b, decide_eq_false a]; rw [decide_eq_true b] at hsw
      exact hsw.close_ hlt fun x h1 h2 => (hc x h1 h2).2 b
    · rw [if_neg a, if_neg b, decide_eq_false a]; rw [decide_eq_false b] at hsw
      exact hsw.stayShut hlt fun x h1 h2 => fun h3 => b ((hc x h1 h2).1 h3)
  · have e1 := between hs h1 (x := s.1) (mem_flat.2 ⟨s, hs', .inl rfl⟩)
    have e2 := between hs h1 (x := s.2) (mem_flat.2 ⟨s, hs', .inr rfl⟩)
    rw [hq] at e1 e2
    exact ⟨e1, e2⟩
  · rintro ⟨s, hs', a, b⟩
    have := behind hs h1 (x := s.2) (mem_flat.2 ⟨s, hs', .inr rfl⟩)
    omega
  · have := h.len
    split <;> split <;> simp [length_close] <;> omega
theorem CRound.pos (h : CRound l ss i dep p out) (hd : 0 < dep) : ∃ c f, out = c ++ [(f, 0)] := by
  have hsw := h.sw
  rw [decide_eq_true hd] at hsw
  obtain ⟨c, f, e, -⟩ := hsw.opened
  exact ⟨c, f, e⟩
theorem CRound.final (h : CRound l ss i dep p out) (hi : i = ss.length) : Chain out ∧ ∀ x, cov l x ↔ cov out x := by
  have h0 : ¬ 0 < dep := fun h1 => h.fin hi p (Int.le_refl _) ((cnt_pos _ _).1 (by rw [← h.cn]; exact h1))
  have hsw := h.sw
  rw [decide_eq_false h0] at hsw
  exact hsw.final (h.fin hi)
end
end Spn
