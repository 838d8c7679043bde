/- Plain facts: merging ascending numbers, each once. -/
import Derived.Test.YtnleelkdoagfcaaSpn
set_option linter.unusedVariables false
namespace Sps

/-- Strictly ascending. -/
def Asc (l : List Int) : Prop := l.Pairwise fun x y => x < y
theorem getD_eq {l : List Int} {k : Nat} (h : k < l.length) : l.getD k 0 = l[k] := by simp [List.getD, List.getElem?_eq_getElem h]
theorem getD_mem {l : List Int} {k : Nat} (h : k < l.length) : l.getD k 0 ∈ l := by rw [getD_eq h]; exact List.getElem_mem _
theorem asc_lt {l : List Int} (h : Asc l) {i j : Nat} (hij : i < j) (hj : j < l.length) : l.getD i 0 < l.getD j 0 := by
  rw [getD_eq (by omega), getD_eq hj]
  exact List.pairwise_iff_getElem.1 h i j (by omega) hj hij
theorem asc_snoc {l : List Int} {x : Int} (h : Asc l) (hx : ∀ y ∈ l, y < x) : Asc (l ++ [x]) := by
  unfold Asc
  rw [List.pairwise_append]
  exact ⟨h, List.pairwise_singleton _ _, fun y hy z hz => by simp at hz; subst hz; exact hx y hy⟩
theorem mem_take {l : List Int} {k : Nat} {x : Int} : x ∈ l.take k ↔ ∃ j, j < k ∧ j < l.length ∧ l.getD j 0 = x := by
  constructor
  · intro h
    obtain ⟨j, hj, rfl⟩ := List.getElem_of_mem h
    rw [List.length_take] at hj
    refine ⟨j, by omega, by omega, ?_⟩
    rw [getD_eq (by omega), List.getElem_take]
  · rintro ⟨j, h1, h2, rfl⟩
    rw [getD_eq h2]
    have : (l.take k)[j]'(by rw [List.length_take]; omega) = l[j] := List.getElem_take
    rw [← this]; exact List.getElem_mem _
theorem mem_ix {l : List Int} {x : Int} : x ∈ l ↔ ∃ j, j < l.length ∧ l.getD j 0 = x := by
  constructor
  · intro h
    obtain ⟨j, hj, rfl⟩ := List.getElem_of_mem h
    exact ⟨j, hj, getD_eq hj⟩
  · rintro ⟨j, h2, rfl⟩
    exact getD_mem h2

/-- What is merged of a and b, up to i and j. -/
structure Merge (a b out : List Int) (i j : Nat) : Prop where
  la : i ≤ a.length
  lb : j ≤ b.length
  asc : Asc out
  mem : ∀ x, x ∈ out ↔ (∃ k, k < i ∧ a.getD k 0 = x) ∨ (∃ k, k < j ∧ b.getD k 0 = x)
  na : ∀ x ∈ out, ∀ k, i ≤ k → k < a.length → x ≤ a.getD k 0
  nb : ∀ x ∈ out, ∀ k, j ≤ k → k < b.length → x ≤ b.getD k 0
  len : out.length ≤ i + j
theorem Merge.start (a b : List Int) : Merge a b [] 0 0 :=
  ⟨Nat.zero_le _, Nat.zero_le _, List.Pairwise.nil, (fun x => by simp), (fun x hx => by cases hx), (fun x hx => by cases hx), by simp⟩
theorem Merge.swap {a b out : List Int} {i j : Nat} (h : Merge a b out i j) : Merge b a out j i :=
  ⟨h.lb, h.la, h.asc, fun x => by rw [h.mem x]; exact Or.comm, h.nb, h.na, by have := h.len; omega⟩
section
variable {a b out : List Int} {i j : Nat}
/-- the next number is taken from a: it is the last one already. -/
theorem Merge.again (h : Merge a b out i j) (ha : Asc a) (hi : i < a.length) (hl : a.getD i 0 ∈ out) : Merge a b out (i + 1) j :=
  ⟨by omega, h.lb, h.asc, fun x => by
    rw [h.mem x]
    constructor
    · rintro (⟨k, hk, e⟩ | e)
      · exact .inl ⟨k, by omega, e⟩
      · exact .inr e
    · rintro (⟨k, hk, e⟩ | e)
      · rcases Nat.lt_succ_iff_lt_or_eq.1 hk with h1 | rfl
        · exact .inl ⟨k, h1, e⟩
        · subst e; exact (h.mem _).1 hl
      · exact .inr e, fun x hx k h1 h2 => h.na x hx k (by omega) h2, h.nb, by have := h.len; omega⟩
/-- .. and it is not. -/
theorem Merge.push (h : Merge a b out i j) (ha : Asc a) (hb : Asc b) (hi : i < a.length) (hle : j < b.length → a.getD i 0 ≤ b.getD j 0) (hn : a.getD i 0 ∉ out) : Merge a b (out ++ [a.getD i 0]) (i + 1) j :=
  ⟨by omega, h.lb, asc_snoc h.asc fun y hy => by
      have h1 := h.na y hy i (Nat.le_refl _) hi
      rcases Int.lt_or_eq_of_le h1 with h2 | h2
      · exact h2
      · subst h2; exact absurd hy hn, fun x => by
    rw [List.mem_append, h.mem x]
    simp only [List.mem_singleton]
    constructor
    · rintro ((⟨k, hk, e⟩ | e) | e)
      · exact .inl ⟨k, by omega, e⟩
      · exact .inr e
      · exact .inl ⟨i, by omega, e.symm⟩
    · rintro (⟨k, hk, e⟩ | e)
      · rcases Nat.lt_succ_iff_lt_or_eq.1 hk with h1 | rfl
        · exact .inl (.inl ⟨k, h1, e⟩)
        · exact .inr e.symm
      · exact .inl (.inr e), fun x hx k h1 h2 => by
    rcases List.mem_append.1 hx with hx | hx
    · exact h.na x hx k (by omega) h2
    · simp at hx; subst hx
      have := asc_lt ha (i := i) (j := k) (by omega) h2; simp only [List.getD] at this ⊢; omega, fun x hx k h1 h2 => by
    rcases List.mem_append.1 hx with hx | hx
    · exact h.nb x hx k h1 h2
    · simp only [List.mem_singleton] at hx; subst hx
      have h3 := hle (by omega)
      rcases Nat.lt_or_eq_of_le h1 with h4 | h4
      · have := asc_lt hb h4 h2; omega
      · subst h4; exact h3, by have := h.len; simp; omega⟩
/-- whether the number is there already is seen at the last one. -/
theorem Merge.last (h : Merge a b out i j) (hi : i < a.length) (h0 : 0 < out.length) : a.getD i 0 ∈ out ↔ out.getD (out.length - 1) 0 = a.getD i 0 := by
  constructor
  · intro hm
    obtain ⟨k, hk, e⟩ := mem_ix.1 hm
    have h1 := h.na (out.getD (out.length - 1) 0) (getD_mem (by omega)) i (Nat.le_refl _) hi
    rcases Nat.lt_or_eq_of_le (show k ≤ out.length - 1 by omega) with h2 | h2
    · have := asc_lt h.asc h2 (by omega); omega
    · subst h2; exact e
  · intro e; rw [← e]; exact getD_mem (by omega)
theorem Merge.done (h : Merge a b out i j) (hi : i = a.length) (hj : j = b.length) : Asc out ∧ ∀ x, x ∈ out ↔ x ∈ a ∨ x ∈ b := by
  subst hi hj
  refine ⟨h.asc, fun x => ?_⟩
  rw [h.mem x, mem_ix, mem_ix (l := b)]
end
/-- The sorted list of the numbers of a list, each once. -/
def Srt (l s : List Int) : Prop := Asc s ∧ (∀ x, x ∈ s ↔ x ∈ l) ∧ s.length ≤ l.length
theorem Srt.nil_ : Srt [] [] := ⟨List.Pairwise.nil, fun x => Iff.rfl, Nat.le_refl _⟩
theorem Srt.one (x : Int) : Srt [x] [x] := ⟨List.pairwise_singleton _ _, fun x => Iff.rfl, Nat.le_refl _⟩
theorem Srt.merge {l a b out : List Int} {h : Nat} {i j : Nat} (ha : Srt (l.take h) a) (hb : Srt (l.drop h) b) (hm : Merge a b out i j) (hi : i = a.length) (hj : j = b.length) : Srt l out := by
  obtain ⟨h1, h2⟩ := hm.done hi hj
  refine ⟨h1, fun x => ?_, ?_⟩
  · rw [h2 x, ha.2.1 x, hb.2.1 x, ← List.mem_append, List.take_append_drop]
  · have e1 := hm.len
    have e2 := ha.2.2
    have e3 := hb.2.2
    rw [List.length_take] at e2
    rw [List.length_drop] at e3
    omega
end Sps
