/- Lists of tokens compared; lines of words. -/
import Derived.Test.YtoohijffkbkikaaGreatDoorLw
namespace Lx
open Go Go.Lib Go.Proofs.YtoohijffkbkikaaGreatDoor
/-- Words, n spaces ahead of each. -/
def joinS (n : Nat) (ws : List (List UInt8)) : List UInt8 := ws.flatMap fun x => List.replicate n 32 ++ x
theorem joinS_snoc (n : Nat) (ws : List (List UInt8)) (x : List UInt8) : joinS n (ws ++ [x]) = joinS n ws ++ List.replicate n 32 ++ x := by simp [joinS]
theorem joinS_cons (n : Nat) (ws : List (List UInt8)) (x : List UInt8) : joinS n (x :: ws) = List.replicate n 32 ++ (x ++ joinS n ws) := by simp [joinS]
theorem fg_word : ∀ (x cur rest : List UInt8), (∀ b ∈ x, isSp b = false) → fieldsGo cur (x ++ rest) = fieldsGo (cur ++ x) rest
  | [], cur, rest, _ => by simp
  | b :: x, cur, rest, h => by
    have hb := h b (by simp)
    rw [List.cons_append, fieldsGo, if_neg (by rw [hb]; decide), fg_word x (cur ++ [b]) rest (fun c hc => h c (by simp [hc]))]
    simp
theorem fg_space (cur rest : List UInt8) : fieldsGo cur (32 :: rest) = (if cur.isEmpty then [] else [cur]) ++ fieldsGo [] rest := by
  rw [fieldsGo, if_pos (by decide)]
  cases cur <;> simp
theorem fg_spaces : ∀ (n : Nat) (rest : List UInt8), fieldsGo [] (List.replicate n 32 ++ rest) = fieldsGo [] rest
  | 0, rest => by simp
  | n + 1, rest => by
    rw [List.replicate_succ, List.cons_append, fg_space, fg_spaces n rest]
    simp
theorem okW_facts {x : List UInt8} (h : okW x = true) : x ≠ [] ∧ x.length ≤ 24 ∧ prn x = true ∧ (∀ b ∈ x, isSp b = false) ∧ (35 : UInt8) ∉ x := by
  unfold okW at h
  simp only [Bool.and_eq_true, Bool.not_eq_true', decide_eq_true_eq, List.all_eq_true] at h
  obtain ⟨⟨h1, h2⟩, h3⟩ := h
  refine ⟨fun e => by rw [e] at h1; simp at h1, h2, List.all_eq_true.2 fun b hb => (h3 b hb).1.1, fun b hb => ?_, fun hm => ?_⟩
  · obtain ⟨⟨p, n32⟩, _⟩ := h3 b hb
    simp only [prB, Bool.and_eq_true, decide_eq_true_eq] at p
    have hne : b.toNat ≠ 32 := fun e => by
      have : b = 32 := UInt8.toNat_inj.1 (by rw [e]; rfl)
      simp [this] at n32
    unfold isSp
    simp
    have e1 : ∀ c : UInt8, c.toNat < 32 → b ≠ c := fun c hc e => by rw [e] at p; omega
    exact ⟨⟨⟨⟨⟨e1 9 (by decide), e1 10 (by decide)⟩, e1 11 (by decide)⟩, e1 12 (by decide)⟩, e1 13 (by decide)⟩, fun e => hne (by rw [e]; rfl)⟩
  · have := (h3 35 hm).2
    simp at this
theorem fields_join (n : Nat) (hn : 1 ≤ n) (tail : List UInt8) (ht : tail = [] ∨ tail = [32]) : ∀ (ws : List (List UInt8)) (cur : List UInt8), (∀ x ∈ ws, okW x = true) → fieldsGo cur (joinS n ws ++ tail) = (if cur.isEmpty then [] else [cur]) ++ ws
  | [], cur, _ => by
    rcases ht with rfl | rfl
    · rw [show joinS n [] ++ [] = [] by simp [joinS], fieldsGo]
      cases cur <;> simp
    · rw [show joinS n [] ++ [32] = 32 :: [] by simp [joinS], fg_space]
      cases cur <;> simp [fieldsGo]
  | x :: ws, cur, h => by
    obtain ⟨hx1, _, _, hx4, _⟩ := okW_facts (h x (by simp))
    obtain ⟨m, rfl⟩ : ∃ m, n = m + 1 := ⟨n - 1, by omega⟩
    rw [joinS_cons, List.replicate_succ, List.cons_append, List.cons_append, List.append_assoc, List.append_assoc, fg_space, fg_spaces, fg_word x [] _ hx4, List.nil_append,
      fields_join (m + 1) hn tail ht ws x (fun y hy => h y (by simp [hy]))]
    have : x.isEmpty = false := by cases x <;> simp_all
    rw [this]
    simp
theorem prn_app (a b : List UInt8) : prn (a ++ b) = (prn a && prn b) := by simp [prn]
theorem prn_rep : ∀ n : Nat, prn (List.replicate n 32) = true
  | 0 => rfl
  | n + 1 => by rw [List.replicate_succ, prn_cons, prn_rep n]; decide
theorem join_prn (n : Nat) : ∀ ws : List (List UInt8), (∀ x ∈ ws, okW x = true) → prn (joinS n ws) = true ∧ (35 : UInt8) ∉ joinS n ws ∧ (joinS n ws).length ≤ ws.length * (n + 24)
  | [], _ => by simp [joinS, prn]
  | x :: ws, h => by
    obtain ⟨_, h2, h3, _, h5⟩ := okW_facts (h x (by simp))
    obtain ⟨a, b, c⟩ := join_prn n ws (fun y hy => h y (by simp [hy]))
    rw [joinS_cons, prn_app, prn_app, prn_rep, h3, a]
    refine ⟨rfl, ?_, ?_⟩
    · simp only [List.mem_append, not_or]
      exact ⟨fun hm => by simp at hm, h5, b⟩
    · simp only [List.length_append, List.length_replicate, List.length_cons, Nat.add_mul, Nat.one_mul]
      omega
theorem line_join {n : Nat} (hn : 1 ≤ n) {ws : List (List UInt8)} (h : ∀ x ∈ ws, okW x = true) : lineS (joinS n ws) = toksS ws := by
  obtain ⟨a, b, _⟩ := join_prn n ws h
  unfold lineS
  rw [if_pos a, cut_no b]
  have := fields_join n hn [] (.inl rfl) ws [] h
  rw [List.append_nil] at this
  unfold fields
  simp only
  rw [this]
  rfl
theorem line_twice {n : Nat} (hn : 1 ≤ n) {ws : List (List UInt8)} (h : ∀ x ∈ ws, okW x = true) : lineS (joinS n ws ++ [32, 35, 32] ++ joinS n ws ++ [32, 126]) = toksS ws := by
  obtain ⟨a, b, _⟩ := join_prn n ws h
  have e : joinS n ws ++ [32, 35, 32] ++ joinS n ws ++ [32, 126] = (joinS n ws ++ [32]) ++ 35 :: (32 :: (joinS n ws ++ [32, 126])) := by simp
  have hp : prn (joinS n ws ++ [32, 35, 32] ++ joinS n ws ++ [32, 126]) = true := by
    rw [prn_app, prn_app, prn_app, a]
    decide
  unfold lineS
  rw [if_pos hp, e, cut_at (by simp only [List.mem_append, not_or]; exact ⟨b, by decide⟩)]
  have := fields_join n hn [32] (.inr rfl) ws [] h
  unfold fields
  simp only
  rw [this]
  rfl
theorem toks_snoc : ∀ {ws : List (List UInt8)} {ts : List Tk} {x : List UInt8} {t : Tk}, toksS ws = some ts → tokS x = some t → toksS (ws ++ [x]) = some (ts ++ [t])
  | [], ts, x, t, h, hx => by
    cases h
    rw [List.nil_append, toks_some hx]
    rfl
  | y :: ws, ts, x, t, h, hx => by
    cases hy : tokS y with
    | none => rw [toks_none hy] at h; cases h
    | some u =>
      rw [toks_some hy] at h
      cases hr : toksS ws with
      | none => rw [hr] at h; cases h
      | some r =>
        rw [hr] at h
        cases h
        rw [List.cons_append, toks_some hy, toks_snoc hr hx]
        rfl
end Lx
namespace Go.Proofs.YtoohijffkbkikaaGreatDoor
open Go.RowKit
set_option linter.unusedVariables false
set_option linter.unusedSimpArgs false
set_option maxRecDepth 100000

theorem tok_elem {w : World} {A : Option Addr} {ts : List Lx.Tk} (h : ListAt 3 eTok w A ts) {k : Nat} {y : Lx.Tk} (hy : ts[k]? = some y) :
    ∃ b off, A = some ⟨b, off, none⟩ ∧ w.cell? ⟨b, off + k * 3, none⟩ = some (.int .i64 y.1) ∧ w.cell? ⟨b, off + k * 3 + 1, none⟩ = some (.string ⟨y.2.1.toArray⟩) ∧ w.cell? ⟨b, off + k * 3 + 2, none⟩ = some (.int .i64 y.2.2) := by
  obtain ⟨b, off, e, hb, hc⟩ := h (by have := (List.getElem?_eq_some_iff.1 hy).1; omega)
  exact ⟨b, off, e, hc k y hy 0 (by decide), hc k y hy 1 (by decide), hc k y hy 2 (by decide)⟩
end Go.Proofs.YtoohijffkbkikaaGreatDoor
