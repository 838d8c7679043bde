/- Plain facts: the reference's combination, by the sorted borders. -/
import Derived.Test.YtnleelkdoagfcaaSpm
import Derived.Test.YtnleelkdoagfcaaSps
set_option linter.unusedVariables false
namespace Spn

/-- The borders of some spans. -/
def flat (l : L) : List Int := l.flatMap fun s => [s.1, s.2]
theorem flat_snoc (l : L) (s : Int × Int) : flat (l ++ [s]) = flat l ++ [s.1, s.2] := by simp [flat]
theorem flat_len (l : L) : (flat l).length = 2 * l.length := by
  induction l with
  | nil => rfl
  | cons s r ih => have e : flat (s :: r) = [s.1, s.2] ++ flat r := rfl
                   rw [e, List.length_append, ih]; simp; omega
theorem mem_flat {l : L} {x : Int} : x ∈ flat l ↔ ∃ s ∈ l, x = s.1 ∨ x = s.2 := by simp [flat]
/-- how the kinds of the reference choose. -/
def kind (k : Int) (x y : Bool) : Bool := if k = 1 then x || y else if k = 2 then x && y else x && !y
theorem kind_no (k : Int) : kind k false false = false := by unfold kind; split <;> (try split) <;> rfl

/-- sorted numbers p: between two that follow each other lies none of the list. -/
theorem between {l s : List Int} (h : Sps.Srt l s) {i : Nat} (hi : i + 1 < s.length) {x : Int} (hx : x ∈ l) : ¬ (s.getD i 0 < x ∧ x < s.getD (i + 1) 0) := by
  rintro ⟨h1, h2⟩
  obtain ⟨j, hj, rfl⟩ := Sps.mem_ix.1 ((h.2.1 x).2 hx)
  rcases Nat.lt_or_ge j (i + 1) with c | c
  · rcases Nat.lt_or_eq_of_le (show j ≤ i by omega) with d | d
    · have := Sps.asc_lt h.1 d (by omega); omega
    · subst d; omega
  · rcases Nat.lt_or_eq_of_le c with d | d
    · have := Sps.asc_lt h.1 d hj; omega
    · subst d; omega
theorem before {l s : List Int} (h : Sps.Srt l s) (h0 : 0 < s.length) {x : Int} (hx : x ∈ l) : s.getD 0 0 ≤ x := by
  obtain ⟨j, hj, rfl⟩ := Sps.mem_ix.1 ((h.2.1 x).2 hx)
  rcases Nat.eq_zero_or_pos j with d | d
  · subst d; exact Int.le_refl _
  · have := Sps.asc_lt h.1 d hj; omega
theorem behind {l s : List Int} (h : Sps.Srt l s) {i : Nat} (hi : i + 1 = s.length) {x : Int} (hx : x ∈ l) : x ≤ s.getD i 0 := by
  obtain ⟨j, hj, rfl⟩ := Sps.mem_ix.1 ((h.2.1 x).2 hx)
  rcases Nat.lt_or_eq_of_le (show j ≤ i by omega) with d | d
  · have := Sps.asc_lt h.1 d (by omega); omega
  · subst d; exact Int.le_refl _

theorem has_const {l : L} {p x : Int} (hpx : p ≤ x) (h : ∀ s ∈ l, ¬ (p < s.1 ∧ s.1 ≤ x) ∧ ¬ (p < s.2 ∧ s.2 ≤ x)) : has l x = has l p := by
  rw [Bool.eq_iff_iff, has_iff, has_iff, cov_const l p x hpx h]
section
variable {a b : L} {s : List Int} {keep : Bool → Bool → Bool}
/-- the choice is the same from one border up to the next. -/
theorem kept_const (h : Sps.Srt (flat a ++ flat b) s) {i : Nat} (hi : i + 1 < s.length) {x : Int} (h1 : s.getD i 0 ≤ x) (h2 : x < s.getD (i + 1) 0) : Kept keep a b x ↔ keep (has a (s.getD i 0)) (has b (s.getD i 0)) = true := by
  have ha : has a x = has a (s.getD i 0) := has_const h1 fun t ht => by
    have e1 := between h hi (x := t.1) (List.mem_append_left _ (mem_flat.2 ⟨t, ht, .inl rfl⟩))
    have e2 := between h hi (x := t.2) (List.mem_append_left _ (mem_flat.2 ⟨t, ht, .inr rfl⟩))
    omega
  have hb : has b x = has b (s.getD i 0) := has_const h1 fun t ht => by
    have e1 := between h hi (x := t.1) (List.mem_append_right _ (mem_flat.2 ⟨t, ht, .inl rfl⟩))
    have e2 := between h hi (x := t.2) (List.mem_append_right _ (mem_flat.2 ⟨t, ht, .inr rfl⟩))
    omega
  unfold Kept
  rw [ha, hb]
theorem kept_before (h : Sps.Srt (flat a ++ flat b) s) (hk : keep false false = false) {x : Int} (hx : 0 < s.length → x < s.getD 0 0) : ¬ Kept keep a b x := by
  have e : ∀ {l : L}, (∀ y, y ∈ flat l → y ∈ flat a ++ flat b) → has l x = false := fun {l} hl => by
    rw [← Bool.not_eq_true, has_iff]
    rintro ⟨-, t, ht, h1, h2⟩
    have hm := hl t.1 (mem_flat.2 ⟨t, ht, .inl rfl⟩)
    have h0 : 0 < s.length := List.length_pos_of_mem ((h.2.1 _).2 hm)
    have := before h h0 hm
    have := hx h0
    omega
  unfold Kept
  rw [e fun y hy => List.mem_append_left _ hy, e fun y hy => List.mem_append_right _ hy, hk]; simp
theorem kept_behind (h : Sps.Srt (flat a ++ flat b) s) (hk : keep false false = false) {i : Nat} (hi : i + 1 = s.length) {x : Int} (hx : s.getD i 0 ≤ x) : ¬ Kept keep a b x := by
  have e : ∀ {l : L}, (∀ y, y ∈ flat l → y ∈ flat a ++ flat b) → has l x = false := fun {l} hl => by
    rw [← Bool.not_eq_true, has_iff]
    rintro ⟨-, t, ht, h1, h2⟩
    have := behind h hi (hl t.2 (mem_flat.2 ⟨t, ht, .inr rfl⟩))
    omega
  unfold Kept
  rw [e fun y hy => List.mem_append_left _ hy, e fun y hy => List.mem_append_right _ hy, hk]; simp

/-- a round of the reference's loop. -/
def RRound (keep : Bool → Bool → Bool) (a b : L) (s : List Int) (i : Nat) (out : L) : Prop := Upto (Kept keep a b) out (s.getD i 0) ∧ out.length ≤ i
theorem RRound.start (h : Sps.Srt (flat a ++ flat b) s) (hk : keep false false = false) (h0 : 0 < s.length) : RRound keep a b s 0 [] :=
  ⟨Upto.start fun x hx => kept_before h hk fun _ => hx, by simp⟩
theorem RRound.skip {i : Nat} {out : L} (h : Sps.Srt (flat a ++ flat b) s) (hr : RRound keep a b s i out) (hi : i + 1 < s.length) (hk : keep (has a (s.getD i 0)) (has b (s.getD i 0)) = false) : RRound keep a b s (i + 1) out :=
  ⟨hr.1.skip (by have := Sps.asc_lt h.1 (i := i) (j := i + 1) (by omega) hi; omega) fun x h1 h2 => by rw [kept_const h hi h1 h2, hk]; simp, by have := hr.2; omega⟩
theorem RRound.grow {i : Nat} {out : L} (h : Sps.Srt (flat a ++ flat b) s) (hr : RRound keep a b s i out) (hi : i + 1 < s.length) (hk : keep (has a (s.getD i 0)) (has b (s.getD i 0)) = true) (h0 : 0 < out.length)
    (hl : (out.getD (out.length - 1) (0, 0)).2 = s.getD i 0) : RRound keep a b s (i + 1) (close out (s.getD (i + 1) 0)) :=
  ⟨hr.1.grow (Sps.asc_lt h.1 (by omega) hi) (fun x h1 h2 => by rw [kept_const h hi h1 h2, hk]) h0 (by
    rcases List.eq_nil_or_concat out with rfl | ⟨r, t, rfl⟩
    · simp at h0
    · rw [List.concat_eq_append] at *; simpa [List.getD] using hl), by rw [length_close]; have := hr.2; omega⟩
theorem RRound.add {i : Nat} {out : L} (h : Sps.Srt (flat a ++ flat b) s) (hr : RRound keep a b s i out) (hi : i + 1 < s.length) (hk : keep (has a (s.getD i 0)) (has b (s.getD i 0)) = true)
    (hl : 0 < out.length → (out.getD (out.length - 1) (0, 0)).2 ≠ s.getD i 0) : RRound keep a b s (i + 1) (out ++ [(s.getD i 0, s.getD (i + 1) 0)]) :=
  ⟨hr.1.add (Sps.asc_lt h.1 (by omega) hi) (fun x h1 h2 => by rw [kept_const h hi h1 h2, hk]) (by
    rcases List.eq_nil_or_concat out with rfl | ⟨r, t, rfl⟩
    · simp; omega
    · rw [List.concat_eq_append] at *
      have := hl (by simp)
      simpa [List.getD] using this), by have := hr.2; simp; omega⟩
theorem RRound.final {i : Nat} {out : L} (h : Sps.Srt (flat a ++ flat b) s) (hk : keep false false = false) (hr : RRound keep a b s i out) (hi : i + 1 = s.length) : Comb keep a b out :=
  hr.1.final fun x hx => kept_behind h hk hi hx
theorem comb_empty (h : Sps.Srt (flat a ++ flat b) s) (hk : keep false false = false) (h0 : s.length = 0) : Comb keep a b [] :=
  ⟨chain_nil, fun x => ⟨fun k => absurd k (kept_before h hk fun h1 => absurd h1 (by omega)), fun k => absurd k (cov_nil x)⟩⟩
end
end Spn
