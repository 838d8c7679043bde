/- Plain facts for the laws of time zones: the clock, which instants show a time, leaps. No program is named here. -/
import Derived.Test.YtndngkfiamdohaaDoorZn
namespace Go.Proofs.YtndngkfiamdohaaDoor
set_option linter.unusedSimpArgs false
set_option linter.unusedVariables false
namespace Zn
/-- What the clock shows at an instant. -/
def cl (off : Int) (ts : L) (x : Int) : Int := x + offAt off ts x
theorem offAt_before : ∀ {ts : L} {now ear x : Int}, VT now ear ts → x < ear → offAt now ts x = now
  | [], _, _, _, _, _ => rfl
  | (a, o) :: t, now, ear, x, h, hx => by rw [offAt, if_neg (by have := h.2.2.2.1; omega)]
theorem offAt_ok : ∀ {ts : L} {off : Int} (x : Int), okO off = true → (∀ y ∈ ts, okO y.2 = true) → -64800 ≤ offAt off ts x ∧ offAt off ts x ≤ 64800
  | [], off, x, h, _ => okO_iff.1 h
  | (a, o) :: t, off, x, h, h2 => by
    rw [offAt]
    split
    · exact offAt_ok x (h2 (a, o) (by simp)) fun y hy => h2 y (by simp [hy])
    · exact okO_iff.1 h
/-- Within a week there is one change at most. -/
theorem one_change : ∀ {ts : L} {now ear : Int}, VT now ear ts → ∀ x y, x ≤ y → y < x + 604800 →
    (∀ z, x ≤ z → z ≤ y → offAt now ts z = offAt now ts x) ∨
    ∃ c, x < c ∧ c ≤ y ∧ (∀ z, x ≤ z → z < c → offAt now ts z = offAt now ts x) ∧ (∀ z, c ≤ z → z ≤ y → offAt now ts z = offAt now ts y) ∧ -86400 < offAt now ts y - offAt now ts x ∧ offAt now ts y - offAt now ts x < 86400
  | [], _, _, _, x, y, _, _ => .inl fun _ _ _ => rfl
  | (a, o) :: t, now, ear, h, x, y, hxy, hy => by
    obtain ⟨h1, h2, h3, h4, h5, h6⟩ := h
    by_cases hya : y < a
    · refine .inl fun z hz hz2 => ?_
      rw [offAt, if_neg (by omega), offAt, if_neg (by omega)]
    · by_cases hxa : x < a
      · refine .inr ⟨a, hxa, by omega, fun z hz hz2 => ?_, fun z hz hz2 => ?_, ?_⟩
        · rw [offAt, if_neg (by omega), offAt, if_neg (by omega)]
        · rw [offAt, if_pos hz, offAt, if_pos (by omega), offAt_before h6 (by omega), offAt_before h6 (by omega)]
        · rw [offAt, if_pos (by omega), offAt, if_neg (by omega), offAt_before h6 (by omega)]
          exact ⟨h2, h3⟩
      · have e : ∀ z, x ≤ z → offAt now ((a, o) :: t) z = offAt o t z := fun z hz => by rw [offAt, if_pos (by omega)]
        rcases one_change h6 x y hxy hy with h | ⟨c, c1, c2, c3, c4, c5⟩
        · exact .inl fun z hz hz2 => by rw [e z hz, e x (Int.le_refl _)]; exact h z hz hz2
        · refine .inr ⟨c, c1, c2, fun z hz hz2 => ?_, fun z hz hz2 => ?_, ?_⟩
          · rw [e z hz, e x (Int.le_refl _)]; exact c3 z hz hz2
          · rw [e z (by omega), e y hxy]; exact c4 z hz hz2
          · rw [e y hxy, e x (Int.le_refl _)]; exact c5
/-- Which instants show a time. -/
theorem frm_mem : ∀ {ts : L} {f o ear v : Int}, VT o ear ts → f ≤ 8589934592 → f ≤ ear → ∀ t, t ∈ frm v (strs f o ts) ↔ f ≤ t ∧ t ≤ 8589934592 ∧ cl o ts t = v
  | [], f, o, ear, v, _, hf, _, t => by
    unfold cl
    rw [strs, frm, frm, offAt]
    split
    · simp only [List.mem_singleton]; omega
    · simp only [List.not_mem_nil, false_iff]; omega
  | (a, o') :: r, f, o, ear, v, h, hf, he, t => by
    obtain ⟨h1, h2, h3, h4, h5, h6⟩ := h
    have ih := frm_mem (f := a) (v := v) h6 h5 (by omega) t
    unfold cl at ih ⊢
    rw [strs, frm, offAt]
    split
    · rw [List.mem_cons, ih]
      by_cases ha : a ≤ t
      · rw [if_pos ha]; omega
      · rw [if_neg ha]; omega
    · rw [ih]
      by_cases ha : a ≤ t
      · rw [if_pos ha]; omega
      · rw [if_neg ha]; omega
theorem frm_asc : ∀ {ts : L} {f o ear v : Int}, VT o ear ts → f ≤ 8589934592 → f ≤ ear → (frm v (strs f o ts)).Pairwise (· < ·)
  | [], f, o, ear, v, _, hf, _ => by
    rw [strs, frm, frm]
    split <;> simp
  | (a, o') :: r, f, o, ear, v, h, hf, he => by
    obtain ⟨h1, h2, h3, h4, h5, h6⟩ := h
    have ih := frm_asc (f := a) (v := v) h6 h5 (by omega)
    rw [strs, frm]
    split
    · refine List.pairwise_cons.2 ⟨fun t ht => ?_, ih⟩
      have := (frm_mem (f := a) (v := v) h6 h5 (by omega) t).1 ht
      omega
    · exact ih
/-- The first instant that shows at least a time. -/
theorem fst_spec : ∀ {ts : L} {f o ear v : Int}, VT o ear ts → f ≤ 8589934592 → f ≤ ear →
    (∃ x, fst v (strs f o ts) = some x ∧ f ≤ x ∧ x ≤ 8589934592 ∧ v ≤ cl o ts x ∧ ∀ y, f ≤ y → y < x → cl o ts y < v) ∨ (fst v (strs f o ts) = none ∧ ∀ y, f ≤ y → y ≤ 8589934592 → cl o ts y < v)
  | [], f, o, ear, v, _, hf, _ => by
    unfold cl
    rw [strs, fst, fst]
    split
    · refine .inl ⟨_, rfl, by omega, by omega, ?_, fun y h1 h2 => ?_⟩
      · rw [offAt]; omega
      · rw [offAt]; omega
    · exact .inr ⟨rfl, fun y h1 h2 => by rw [offAt]; omega⟩
  | (a, o') :: r, f, o, ear, v, h, hf, he => by
    obtain ⟨h1, h2, h3, h4, h5, h6⟩ := h
    have ih := fst_spec (f := a) (v := v) h6 h5 (by omega)
    unfold cl at ih ⊢
    rw [strs, fst]
    split
    · refine .inl ⟨_, rfl, by omega, by omega, ?_, fun y hy1 hy2 => ?_⟩
      · rw [offAt, if_neg (by omega)]; omega
      · rw [offAt, if_neg (by omega)]; omega
    · have low : ∀ y, f ≤ y → y < a → y + offAt o ((a, o') :: r) y < v := fun y hy1 hy2 => by
        rw [offAt, if_neg (by omega)]; omega
      rcases ih with ⟨x, x1, x2, x3, x4, x5⟩ | ⟨x1, x2⟩
      · refine .inl ⟨x, x1, by omega, x3, ?_, fun y hy1 hy2 => ?_⟩
        · rw [offAt, if_pos x2]; exact x4
        · by_cases hya : y < a
          · exact low y hy1 hya
          · rw [offAt, if_pos (by omega)]; exact x5 y (by omega) hy2
      · refine .inr ⟨x1, fun y hy1 hy2 => ?_⟩
        by_cases hya : y < a
        · exact low y hy1 hya
        · rw [offAt, if_pos (by omega)]; exact x2 y (by omega) hy2

/-- What a valid zone is, for the laws. -/
structure Vz (off : Int) (ts : L) : Prop where
  vt : VT off 0 ts
  ok : okO off = true
  oks : ∀ x ∈ ts, okO x.2 = true
theorem trans_vz {off : Int} {rs : List Rule} {ts : L} (h : trans off rs = (ts, 0)) : Vz off ts := by
  obtain ⟨a, _, _, _, _, b, _, c⟩ := trans_ok h
  exact ⟨b, a, c⟩
section
variable {off : Int} {ts : L}
theorem Vz.bd (h : Vz off ts) (x : Int) : -64800 ≤ offAt off ts x ∧ offAt off ts x ≤ 64800 := offAt_ok x h.ok h.oks
theorem Vz.mem (h : Vz off ts) {v : Int} (t : Int) : t ∈ frm v (strs 0 off ts) ↔ 0 ≤ t ∧ t ≤ 8589934592 ∧ cl off ts t = v := frm_mem h.vt (by omega) (Int.le_refl _) t
/-- Equal times are less than a day and a half apart, and there are at most two of them. -/
theorem Vz.two (h : Vz off ts) {x y z v : Int} (hx : cl off ts x = v) (hy : cl off ts y = v) (hz : cl off ts z = v) (h1 : x < y) (h2 : y < z) : False := by
  have bx := h.bd x
  have bz := h.bd z
  unfold cl at hx hy hz
  rcases one_change h.vt x z (by omega) (by omega) with g | ⟨c, c1, c2, c3, c4, c5, c6⟩
  · have := g z (by omega) (by omega); omega
  · by_cases hyc : y < c
    · have := c3 y (by omega) hyc; omega
    · have := c4 y (by omega) (by omega); omega
theorem Vz.len (h : Vz off ts) (v : Int) : (frm v (strs 0 off ts)).length ≤ 2 := by
  have ha := frm_asc (v := v) h.vt (show (0 : Int) ≤ 8589934592 by omega) (Int.le_refl 0)
  have hm := fun t => (h.mem (v := v) t).1
  generalize frm v (strs 0 off ts) = l at ha hm
  match l, ha, hm with
  | [], _, _ => simp
  | [_], _, _ => simp
  | [_, _], _, _ => simp
  | x :: y :: z :: r, ha, hm =>
    simp only [List.pairwise_cons] at ha
    exact (h.two (hm x (by simp)).2.2 (hm y (by simp)).2.2 (hm z (by simp)).2.2 (ha.1 y (by simp)) (ha.2.1 z (by simp))).elim
theorem Vz.fst_le (h : Vz off ts) {v x : Int} (hx : 0 ≤ x) (hx2 : x ≤ 8589934592) (hc : v ≤ cl off ts x) : ∃ y, fst v (strs 0 off ts) = some y ∧ 0 ≤ y ∧ y ≤ x ∧ v ≤ cl off ts y ∧ ∀ z, 0 ≤ z → z < y → cl off ts z < v := by
  rcases fst_spec (v := v) h.vt (show (0 : Int) ≤ 8589934592 by omega) (Int.le_refl 0) with ⟨y, y1, y2, y3, y4, y5⟩ | ⟨_, y2⟩
  · refine ⟨y, y1, y2, ?_, y4, y5⟩
    rcases Int.lt_or_le x y with hlt | hle
    · have := y5 x hx hlt; omega
    · exact hle
  · have := y2 x hx hx2; omega
/-- First is the least instant that shows the time, if there is one. -/
theorem Vz.fst_head (h : Vz off ts) {v x : Int} {r : List Int} (hv : 64800 < v) (e : frm v (strs 0 off ts) = x :: r) : fst v (strs 0 off ts) = some x := by
  obtain ⟨x1, x2, x3⟩ := (h.mem (v := v) x).1 (by rw [e]; simp)
  obtain ⟨y, y1, y2, y3, y4, y5⟩ := h.fst_le (v := v) x1 x2 (by omega)
  rcases Int.lt_or_le y x with hlt | hle
  · exfalso
    have hne : cl off ts y ≠ v := fun ey => by
      have hm : y ∈ frm v (strs 0 off ts) := (h.mem y).2 ⟨y2, by omega, ey⟩
      have ha := frm_asc (v := v) h.vt (show (0 : Int) ≤ 8589934592 by omega) (Int.le_refl 0)
      rw [e] at hm ha
      rcases List.mem_cons.1 hm with rfl | hm
      · omega
      · have := (List.pairwise_cons.1 ha).1 y hm; omega
    have by_ := h.bd y
    have bx := h.bd x
    have b1 := h.bd (y - 1)
    by_cases hy0 : y = 0
    · subst hy0; unfold cl at *; omega
    · have hp := y5 (y - 1) (by omega) (by omega)
      unfold cl at *
      rcases one_change h.vt (y - 1) x (by omega) (by omega) with g | ⟨c, c1, c2, c3, c4, c5, c6⟩
      · have := g y (by omega) (by omega); omega
      · by_cases hc : y < c
        · have := c3 y (by omega) hc; omega
        · have := c4 y (by omega) (by omega); omega
  · rw [y1]; congr 1; omega
/-- Neighbouring days. -/
theorem Vz.asc (h : Vz off ts) {v : Int} (hv : 64800 + 86400 < v) (hv2 : v < 8000000000) : ∃ x y, fst v (strs 0 off ts) = some x ∧ fst (v + 86400) (strs 0 off ts) = some y ∧ 0 ≤ x ∧ x ≤ 8589934592 ∧ 0 ≤ y ∧ y ≤ 8589934592 ∧ v ≤ cl off ts x ∧ v + 86400 ≤ cl off ts y ∧ x < y ∧ y < x + 172800 := by
  have bt := h.bd (v + 64800 + 86400)
  have bt0 := h.bd (v + 64800)
  obtain ⟨x, x1, x2, x3, x4, x5⟩ := h.fst_le (v := v) (x := v + 64800) (by omega) (by omega) (by unfold cl; omega)
  obtain ⟨y, y1, y2, y3, y4, y5⟩ := h.fst_le (v := v + 86400) (x := v + 64800 + 86400) (by omega) (by omega) (by unfold cl; omega)
  have bx := h.bd x
  have by_ := h.bd y
  have hlt : x < y := by
    rcases Int.lt_or_le x y with hlt | hle
    · exact hlt
    · exfalso
      rcases Int.lt_or_le y x with h1 | h1
      · have := x5 y y2 h1; omega
      · obtain rfl : x = y := by omega
        by_cases hx0 : x = 0
        · subst hx0; unfold cl at *; omega
        · have := x5 (x - 1) (by omega) (by omega)
          unfold cl at *
          rcases one_change h.vt (x - 1) x (by omega) (by omega) with g | ⟨c, c1, c2, c3, c4, c5, c6⟩
          · have := g x (by omega) (by omega); omega
          · omega
  refine ⟨x, y, x1, y1, x2, by omega, y2, by omega, x4, y4, hlt, ?_⟩
  rcases Int.lt_or_le y (x + 172800) with g | g
  · exact g
  · exfalso
    have hb := h.bd (x + 172799)
    have := y5 (x + 172799) (by omega) (by omega)
    unfold cl at *
    rcases one_change h.vt x (x + 172799) (by omega) (by omega) with g | ⟨c, c1, c2, c3, c4, c5, c6⟩
    · have := g (x + 172799) (by omega) (by omega); omega
    · omega
/-- Around the k-th transition. -/
theorem Vz.near (h : Vz off ts) {a b at_ : Int} (ha : offAt off ts (at_ - 1) = a) (hb : offAt off ts at_ = b) (hne : a ≠ b) : (∀ y, at_ - 604800 < y → y < at_ → offAt off ts y = a) ∧ (∀ y, at_ ≤ y → y < at_ + 604799 → offAt off ts y = b) ∧ -86400 < b - a ∧ b - a < 86400 := by
  refine ⟨fun y h1 h2 => ?_, fun y h1 h2 => ?_, ?_⟩
  · rcases one_change h.vt y at_ (by omega) (by omega) with g | ⟨c, c1, c2, c3, c4, c5, c6⟩
    · have := g at_ (by omega) (by omega); have := g (at_ - 1) (by omega) (by omega); omega
    · by_cases hc : at_ - 1 < c
      · have := c3 (at_ - 1) (by omega) hc; omega
      · have := c4 (at_ - 1) (by omega) (by omega); omega
  · rcases one_change h.vt (at_ - 1) y (by omega) (by omega) with g | ⟨c, c1, c2, c3, c4, c5, c6⟩
    · have := g at_ (by omega) (by omega); omega
    · by_cases hc : at_ < c
      · have := c3 at_ (by omega) hc; omega
      · have := c4 at_ (by omega) (by omega); omega
  · rcases one_change h.vt (at_ - 1) at_ (by omega) (by omega) with g | ⟨c, c1, c2, c3, c4, c5, c6⟩
    · have := g at_ (by omega) (by omega); omega
    · rw [ha, hb] at c5 c6; exact ⟨c5, c6⟩
theorem Vz.leap (h : Vz off ts) {a b at_ v : Int} (ha : offAt off ts (at_ - 1) = a) (hb : offAt off ts at_ = b) (hlt : a < b) (h0 : 1000000 < at_) (h1 : at_ < 8000000000) (hv : at_ + a ≤ v) (hv2 : v < at_ + b) :
    frm v (strs 0 off ts) = [] ∧ fst v (strs 0 off ts) = some at_ := by
  obtain ⟨n1, n2, n3, n4⟩ := h.near ha hb (by omega)
  have ba := h.bd (at_ - 1)
  have bb := h.bd at_
  have lo : ∀ y, y < at_ → cl off ts y < v := fun y hy => by
    have by_ := h.bd y
    unfold cl
    by_cases hn : at_ - 604800 < y
    · have := n1 y hn hy; omega
    · omega
  have hi : ∀ y, at_ ≤ y → v < cl off ts y := fun y hy => by
    have by_ := h.bd y
    unfold cl
    by_cases hn : y < at_ + 604799
    · have := n2 y hy hn; omega
    · omega
  constructor
  · rw [List.eq_nil_iff_forall_not_mem]
    intro t ht
    have := ((h.mem t).1 ht).2.2
    rcases Int.lt_or_le t at_ with hlt | hle
    · have := lo t hlt; omega
    · have := hi t hle; omega
  · obtain ⟨y, y1, y2, y3, y4, y5⟩ := h.fst_le (v := v) (x := at_) (by omega) (by omega) (by have := hi at_ (Int.le_refl _); omega)
    rw [y1]
    rcases Int.lt_or_le y at_ with hlt | hle
    · have := lo y hlt; omega
    · congr 1; omega
theorem Vz.back (h : Vz off ts) {a b at_ v : Int} (ha : offAt off ts (at_ - 1) = a) (hb : offAt off ts at_ = b) (hlt : b < a) (h0 : 1000000 < at_) (h1 : at_ < 8000000000) (hv : at_ + b ≤ v) (hv2 : v < at_ + a) :
    frm v (strs 0 off ts) = [v - a, v - b] ∧ fst v (strs 0 off ts) = some (v - a) := by
  obtain ⟨n1, n2, n3, n4⟩ := h.near ha hb (by omega)
  have ba := h.bd (at_ - 1)
  have bb := h.bd at_
  have e1 : cl off ts (v - a) = v := by unfold cl; rw [n1 (v - a) (by omega) (by omega)]; omega
  have e2 : cl off ts (v - b) = v := by unfold cl; rw [n2 (v - b) (by omega) (by omega)]; omega
  have m1 := (h.mem (v := v) (v - a)).2 ⟨by omega, by omega, e1⟩
  have m2 := (h.mem (v := v) (v - b)).2 ⟨by omega, by omega, e2⟩
  have hl := h.len v
  have hs := frm_asc (v := v) h.vt (show (0 : Int) ≤ 8589934592 by omega) (Int.le_refl 0)
  have e : frm v (strs 0 off ts) = [v - a, v - b] := by
    generalize frm v (strs 0 off ts) = l at m1 m2 hl hs
    match l, m1, m2, hl, hs with
    | [], m1, _, _, _ => cases m1
    | [x], m1, m2, _, _ => simp at m1 m2; omega
    | [x, y], m1, m2, _, hs =>
      simp at m1 m2 hs
      have : x = v - a ∧ y = v - b := by omega
      rw [this.1, this.2]
    | x :: y :: z :: r, _, _, hl, _ => simp at hl
  exact ⟨e, h.fst_head (by omega) e⟩
end
/-- Where transitions come from. -/
theorem fol_from : ∀ {l : L} {now ear : Int} {ts : L}, fol now ear l = some ts → ∀ {i : Nat} {a o : Int}, ts[i]? = some (a, o) → (a + offAt now ts (a - 1), o) ∈ l
  | [], _, _, ts, h, i, a, o, hi => by simp [fol] at h; subst h; simp at hi
  | (loc, o') :: t, now, ear, ts, h, i, a, o, hi => by
    by_cases h1 : o' = now
    · rw [fol_skip h1] at h
      exact List.mem_cons_of_mem _ (fol_from h hi)
    · by_cases h2 : o' - now ≤ -86400 ∨ 86400 ≤ o' - now ∨ loc - now < ear ∨ 8589934592 < loc - now
      · rw [fol_bad h1 h2] at h; cases h
      · rw [fol_add h1 h2] at h
        cases h3 : fol o' (loc - now + 604800) t with
        | none => rw [h3] at h; cases h
        | some u =>
          rw [h3] at h
          simp at h
          subst h
          rcases i with _ | i
          · simp at hi
            obtain ⟨rfl, rfl⟩ := hi
            rw [offAt, if_neg (by omega)]
            have e : loc - now + now = loc := by omega
            rw [e]; simp
          · have hi : u[i]? = some (a, o) := by simpa using hi
            have hv := fol_vt h3
            have hlt : i < u.length := (List.getElem?_eq_some_iff.1 hi).1
            have hge : loc - now + 604800 ≤ a := by
              have hall : ∀ {ts : L} {now ear : Int}, VT now ear ts → ∀ x ∈ ts, ear ≤ x.1 := by
                intro ts
                induction ts with
                | nil => intro _ _ _ x hx; cases hx
                | cons y t ih =>
                  intro now ear h x hx
                  obtain ⟨b, q⟩ := y
                  obtain ⟨g1, g2, g3, g4, g5, g6⟩ := h
                  rcases List.mem_cons.1 hx with rfl | hx
                  · exact g4
                  · have := ih g6 x hx; omega
              exact hall hv (a, o) (List.mem_of_getElem? hi)
            rw [offAt, if_pos (by omega)]
            exact List.mem_cons_of_mem _ (fol_from h3 hi)
theorem occ_mem (r : Rule) : ∀ (k : Nat) (y : Int) {x : Int × Int}, x ∈ occ r y k → ∃ j : Nat, j < k ∧ x = (nth r (y + j) * 86400 + r.sec, r.off)
  | 0, _, x, h => by cases h
  | k + 1, y, x, h => by
    rw [occ] at h
    rcases List.mem_cons.1 h with rfl | h
    · exact ⟨0, by omega, by simp⟩
    · obtain ⟨j, hj, e⟩ := occ_mem r k _ h
      exact ⟨j + 1, by omega, by rw [e, show y + 1 + (j : Int) = y + ((j + 1 : Nat) : Int) by omega]⟩
/-- Each transition is that of a rule, in one of its years. -/
theorem trans_from {off : Int} {rs : List Rule} {ts : L} (h : trans off rs = (ts, 0)) {i : Nat} {a o : Int} (hi : ts[i]? = some (a, o)) :
    ∃ (k : Nat) (r : Rule) (y : Int), rs[k]? = some r ∧ r.fr ≤ y ∧ y ≤ r.to ∧ nth r y * 86400 + r.sec = a + offAt off ts (a - 1) ∧ r.off = o := by
  obtain ⟨_, hok, _, _, hf, _, _, _⟩ := trans_ok h
  have hm := fol_from hf hi
  rw [Zs.srt_mem] at hm
  obtain ⟨r, hr, hz⟩ := List.mem_flatMap.1 hm
  obtain ⟨j, hj, e⟩ := occ_mem r _ _ hz
  obtain ⟨k, hk, rfl⟩ := List.mem_iff_getElem.1 hr
  refine ⟨k, _, rs[k].fr + j, List.getElem?_eq_getElem hk, by omega, ?_, ?_, ?_⟩
  · unfold yrs at hj; omega
  · exact (Prod.mk.inj e).1.symm
  · exact (Prod.mk.inj e).2.symm
theorem trans_week {off : Int} {rs : List Rule} {ts : L} (h : trans off rs = (ts, 0)) {i : Nat} (hi : i + 1 < ts.length) : (ts.getD i (0, 0)).1 + 604800 ≤ (ts.getD (i + 1) (0, 0)).1 := vt_asc (trans_vz h).vt i (i + 1) (by omega) hi
theorem strs_at {ts : L} {off : Int} {k : Nat} (h : Vz off ts) (hk : k < ts.length) : offAt off ts (ts.getD k (0, 0)).1 = (ts.getD k (0, 0)).2 ∧ offAt off ts ((ts.getD k (0, 0)).1 - 1) = (if k = 0 then off else (ts.getD (k - 1) (0, 0)).2) := by
  have asc := vt_asc h.vt
  constructor
  · have := offAt_of (ts := ts) (off := off) (x := (ts.getD k (0, 0)).1) (k := k + 1) (by omega) (fun j hj => by
      rcases Nat.lt_or_ge j k with hlt | hge
      · have := asc j k hlt hk; omega
      · obtain rfl : j = k := by omega
        exact Int.le_refl _) (fun hlt => by have := asc k (k + 1) (by omega) hlt; omega)
    simpa using this
  · exact offAt_of (ts := ts) (off := off) (x := (ts.getD k (0, 0)).1 - 1) (k := k) (by omega) (fun j hj => by have := asc j k hj hk; omega) (fun _ => by omega)
theorem vt_ne : ∀ {ts : L} {now ear : Int}, VT now ear ts → ∀ k, k < ts.length → (if k = 0 then now else (ts.getD (k - 1) (0, 0)).2) ≠ (ts.getD k (0, 0)).2
  | [], _, _, _, k, h => by simp at h
  | (a, o) :: t, now, ear, h, 0, _ => by
    have := h.1
    rw [if_pos rfl]
    simp only [List.getD_cons_zero]
    exact fun e => this e.symm
  | (a, o) :: t, now, ear, h, k + 1, hk => by
    have := vt_ne h.2.2.2.2.2 k (by simpa using hk)
    rw [if_neg (by omega)]
    rcases k with _ | k
    · simpa using this
    · simpa using this
end Zn
end Go.Proofs.YtndngkfiamdohaaDoor
