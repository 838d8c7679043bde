/- Plain facts on statements: which tokens are one, the lines of a text, the words of tokens. Nothing of the program stands in it. -/
import Derived.Test.YtoohijffkbkikaaGreatDoorLsm
import Derived.Lib.Join
set_option linter.unusedVariables false
set_option maxRecDepth 100000
namespace Sy
open Go Go.Lib Go.Proofs.YtoohijffkbkikaaGreatDoor Lx

/-! ### Forms -/
abbrev Fm := List UInt8 × List Int
def F : List Fm := [([122, 111, 110, 101], [0, 4]), ([114, 117, 108, 101], [1, 1, 0, 0, 0, 2, 4]), ([112, 101, 114, 115, 111, 110], [0, 0]), ([113, 117, 105, 101, 116], [0, 2, 0, 2]), ([99, 97, 108, 101, 110, 100, 97, 114], [0, 0]), ([100, 97, 121, 115], [3]), ([115, 99, 104, 101, 100, 117, 108, 101], [0]), ([108, 97, 121, 101, 114], [0, 0, 3, 2, 1, 0]), ([109, 101, 109, 98, 101, 114], [0]), ([111, 110], [0, 2, 0, 2]), ([110, 111, 116], [0]), ([111, 110, 108, 121], [0]), ([108, 101, 97, 118, 101], [0, 5, 5]), ([111, 118, 101, 114, 114, 105, 100, 101], [0, 5, 5]), ([115, 119, 97, 112], [0, 0, 5, 5])]
def optF : List Fm := [([119, 101, 101, 107], [1]), ([114, 101, 115, 116], [1]), ([99, 111, 110, 115, 101, 110, 116], [])]
/-- The tokens behind those of a form. -/
def cutS (f : Fm) : List Tk → Option (List Tk)
  | [] => none
  | t :: r => if f.2.length ≤ r.length ∧ t.1 = 0 ∧ t.2.1 = f.1 ∧ (r.take f.2.length).map (·.1) = f.2 then some (r.drop f.2.length) else none
def optG : List Fm → List Tk → List Tk
  | [], l => l
  | f :: fs, l => optG fs (match cutS f l with | some o => o | none => l)
def mayEnd (k : List UInt8) (l : List Tk) : Bool :=
  if k = [112, 101, 114, 115, 111, 110] then (optG optF l).isEmpty else if k = [100, 97, 121, 115] then l.all fun t => t.1 == 3 else if k = [109, 101, 109, 98, 101, 114] then l.all fun t => t.1 == 0 else l.isEmpty
def goS : List Fm → List Tk → Bool
  | [], _ => false
  | f :: fs, l => match cutS f l with | some o => mayEnd f.1 o | none => goS fs l
def formS (l : List Tk) : Bool := goS F l
theorem form_nil : formS [] = false := by kernel_rfl
theorem go_some {f : Fm} {fs : List Fm} {l o : List Tk} (h : cutS f l = some o) : goS (f :: fs) l = mayEnd f.1 o := by rw [goS, h]
theorem go_none {f : Fm} {fs : List Fm} {l : List Tk} (h : cutS f l = none) : goS (f :: fs) l = goS fs l := by rw [goS, h]
theorem cut_cons (f : Fm) (t : Tk) (r : List Tk) : cutS f (t :: r) = if f.2.length ≤ r.length ∧ t.1 = 0 ∧ t.2.1 = f.1 ∧ (r.take f.2.length).map (·.1) = f.2 then some (r.drop f.2.length) else none := rfl
theorem cut_len {f : Fm} {l o : List Tk} (h : cutS f l = some o) : o.length ≤ l.length := by
  cases l with
  | nil => cases h
  | cons t r =>
    rw [cut_cons] at h
    by_cases hc : f.2.length ≤ r.length ∧ t.1 = 0 ∧ t.2.1 = f.1 ∧ (r.take f.2.length).map (·.1) = f.2
    · rw [if_pos hc] at h
      cases h
      simp only [List.length_drop, List.length_cons]
      omega
    · rw [if_neg hc] at h
      cases h

/-! ### The lines of a text -/
def spl : List UInt8 → List UInt8 → List (List UInt8)
  | cur, [] => [cur]
  | cur, b :: t => if b = 10 then cur :: spl [] t else spl (cur ++ [b]) t
theorem spl_at : ∀ (x cur r : List UInt8), (10 : UInt8) ∉ x → spl cur (x ++ 10 :: r) = (cur ++ x) :: spl [] r
  | [], cur, r, _ => by simp [spl]
  | b :: x, cur, r, h => by
    simp only [List.mem_cons, not_or] at h
    rw [List.cons_append, spl, if_neg (fun e => h.1 e.symm), spl_at x _ r h.2]
    simp
theorem spl_end : ∀ (x cur : List UInt8), (10 : UInt8) ∉ x → spl cur x = [cur ++ x]
  | [], cur, _ => by simp [spl]
  | b :: x, cur, h => by
    simp only [List.mem_cons, not_or] at h
    rw [spl, if_neg (fun e => h.1 e.symm), spl_end x _ h.2]
    simp
theorem first10 : ∀ l : List UInt8, (10 : UInt8) ∉ l ∨ ∃ a c, l = a ++ 10 :: c ∧ (10 : UInt8) ∉ a
  | [] => .inl (by simp)
  | b :: t => by
    by_cases hb : b = 10
    · subst hb; exact .inr ⟨[], t, rfl, by simp⟩
    · rcases first10 t with h | ⟨a, c, rfl, h⟩
      · exact .inl (by simp only [List.mem_cons, not_or]; exact ⟨fun e => hb e.symm, h⟩)
      · exact .inr ⟨b :: a, c, rfl, by simp only [List.mem_cons, not_or]; exact ⟨fun e => hb e.symm, h⟩⟩
theorem spl_K : ∀ (k : Nat) (l : List UInt8), l.count 10 ≤ k → splitK [10] 0 k l = spl [] l
  | 0, l, h => by
    have hn : (10 : UInt8) ∉ l := List.count_eq_zero.1 (by omega)
    rw [spl_end l [] hn, splitK_last 0 hn]; rfl
  | k + 1, l, h => by
    rcases first10 l with hn | ⟨a, c, rfl, hn⟩
    · rw [spl_end l [] hn, splitK_last _ hn]; rfl
    · rw [spl_at a [] c hn, splitK_cons k hn, spl_K k c (by rw [List.count_append, List.count_cons_self] at h; omega)]; rfl
theorem spl_split (l : List UInt8) (k : Nat) (h : k = min (l.count 10 + 1) (l.length + 1) - 1) : splitK [10] 0 k l = spl [] l :=
  spl_K k l (by have := List.count_le_length (l := l) (a := (10 : UInt8)); omega)
theorem spl_bd : ∀ (l cur : List UInt8), (∀ x ∈ spl cur l, x.length ≤ cur.length + l.length) ∧ (spl cur l).length ≤ l.length + 1
  | [], cur => by simp [spl]
  | b :: t, cur => by
    rw [spl]
    by_cases hb : b = 10
    · rw [if_pos hb]
      have := spl_bd t []
      refine ⟨fun x hx => ?_, by simp; omega⟩
      simp only [List.mem_cons] at hx
      rcases hx with rfl | hx
      · simp
      · have := this.1 x hx; simp at this ⊢; omega
    · rw [if_neg hb]
      have := spl_bd t (cur ++ [b])
      refine ⟨fun x hx => ?_, by simp; omega⟩
      have := this.1 x hx; simp at this ⊢; omega

/-! ### The statements of a text -/
/-- The error of a line, and its tokens. -/
def stmS (x : List UInt8) : Int × List Tk :=
  if 512 < x.length then (5, []) else match lineS x with
  | none => (2, [])
  | some ts => if ts ≠ [] ∧ formS ts = false then (2, []) else (0, ts)
abbrev St := Int × List Tk
/-- Error, line, statements. -/
def parS : Nat → List (List UInt8) → Int × Int × List St
  | _, [] => (0, 0, [])
  | i, x :: r => if (stmS x).1 = 0 then (if (parS (i + 1) r).1 = 0 then (0, 0, if (stmS x).2 = [] then (parS (i + 1) r).2.2 else ((i : Int) + 1, (stmS x).2) :: (parS (i + 1) r).2.2) else parS (i + 1) r) else ((stmS x).1, (i : Int) + 1, [])
/-- What Parse holds so far, and what the other lines add. -/
def comb (acc : List St) (p : Int × Int × List St) : Int × Int × List St := if p.1 = 0 then (0, 0, acc ++ p.2.2) else p
theorem stm_bad {x : List UInt8} (h : (stmS x).1 ≠ 0) : (stmS x).2 = [] := by
  unfold stmS at h ⊢
  split
  · rfl
  · rename_i h5
    rw [if_neg h5] at h
    split
    · rfl
    · rename_i ts hts
      rw [hts] at h
      simp only at h
      split
      · rfl
      · rename_i h6
        rw [if_neg h6] at h
        exact absurd rfl h
theorem par_ok : ∀ (r : List (List UInt8)) (i : Nat), (parS i r).1 = 0 → (parS i r).2.1 = 0
  | [], i, _ => rfl
  | x :: r, i, h => by
    rw [parS] at h ⊢
    by_cases h1 : (stmS x).1 = 0
    · rw [if_pos h1] at h ⊢
      by_cases h2 : (parS (i + 1) r).1 = 0
      · rw [if_pos h2]
      · rw [if_neg h2] at h; exact absurd h h2
    · rw [if_neg h1] at h; exact absurd h h1
theorem comb_nil {r : List (List UInt8)} {i : Nat} : comb [] (parS i r) = parS i r := by
  unfold comb
  by_cases h : (parS i r).1 = 0
  · rw [if_pos h, List.nil_append]
    have h2 := par_ok r i h
    obtain ⟨⟨a, b, c⟩, hp⟩ : ∃ p, parS i r = p := ⟨_, rfl⟩
    rw [hp] at h h2 ⊢
    simp only at h h2 ⊢
    rw [h, h2]
  · rw [if_neg h]
theorem comb_bad {x : List UInt8} {r : List (List UInt8)} {acc : List St} {i : Nat} {e : Int} {ts : List Tk} (h : stmS x = (e, ts)) (he : e ≠ 0) : comb acc (parS i (x :: r)) = (e, (i : Int) + 1, []) := by
  have h1 : (stmS x).1 = e := by rw [h]
  rw [parS, if_neg (by rw [h1]; exact he), h1]
  unfold comb
  rw [if_neg he]
theorem comb_none {x : List UInt8} {r : List (List UInt8)} {acc : List St} {i : Nat} (h : stmS x = (0, [])) : comb acc (parS i (x :: r)) = comb acc (parS (i + 1) r) := by
  rw [parS, if_pos (by rw [h]), h]
  unfold comb
  by_cases h2 : (parS (i + 1) r).1 = 0
  · simp [h2]
  · simp [h2]
theorem comb_some {x : List UInt8} {r : List (List UInt8)} {acc : List St} {i : Nat} {ts : List Tk} (h : stmS x = (0, ts)) (hne : ts ≠ []) : comb acc (parS i (x :: r)) = comb (acc ++ [((i : Int) + 1, ts)]) (parS (i + 1) r) := by
  rw [parS, if_pos (by rw [h]), h]
  unfold comb
  by_cases h2 : (parS (i + 1) r).1 = 0
  · simp [h2, hne]
  · simp [h2]
theorem par_app : ∀ (xs r : List (List UInt8)) (i : Nat), (∀ x ∈ xs, (stmS x).1 = 0) → parS i (xs ++ r) = comb (parS i xs).2.2 (parS (i + xs.length) r) ∧ (parS i xs).1 = 0
  | [], r, i, _ => by
    refine ⟨?_, rfl⟩
    show parS i r = comb [] (parS i r)
    rw [comb_nil]
  | x :: xs, r, i, h => by
    obtain ⟨ih, ok⟩ := par_app xs r (i + 1) (fun y hy => h y (by simp [hy]))
    have h0 := h x (by simp)
    have e : i + (x :: xs).length = i + 1 + xs.length := by simp; omega
    rw [e]
    obtain ⟨⟨er, ts⟩, hs⟩ : ∃ p, stmS x = p := ⟨_, rfl⟩
    rw [hs] at h0
    simp only at h0
    subst h0
    by_cases hne : ts = []
    · subst hne
      have h1 := comb_none (acc := []) (r := xs ++ r) (i := i) hs
      have h2 := comb_none (acc := []) (r := xs) (i := i) hs
      rw [comb_nil, comb_nil] at h1 h2
      rw [List.cons_append, h1, h2]
      exact ⟨ih, ok⟩
    · have h1 := comb_some (acc := []) (r := xs ++ r) (i := i) hs hne
      have h2 := comb_some (acc := []) (r := xs) (i := i) hs hne
      rw [comb_nil] at h1 h2
      rw [List.cons_append, h1, h2, ih]
      have h3 : comb ([] ++ [((i : Int) + 1, ts)]) (parS (i + 1) xs) = (0, 0, [((i : Int) + 1, ts)] ++ (parS (i + 1) xs).2.2) := by
        unfold comb; rw [if_pos ok]; rfl
      rw [h3]
      refine ⟨?_, rfl⟩
      unfold comb
      by_cases h4 : (parS (i + 1 + xs.length) r).1 = 0
      · simp [h4]
      · simp [h4]
end Sy
