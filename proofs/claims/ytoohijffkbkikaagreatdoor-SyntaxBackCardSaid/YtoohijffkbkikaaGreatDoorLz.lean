/- Plain facts on words: digits as numbers, pieces between separators. Nothing of the program stands in it. -/
import Derived.Test.YtoohijffkbkikaaGreatDoorLy
set_option linter.unusedVariables false
namespace Lx
open Go Go.Lib Go.Proofs.YtoohijffkbkikaaGreatDoor

def valF (n : Nat) (l : List UInt8) : Nat := l.foldl (fun n b => n * 10 + (b.toNat - 48)) n
theorem val_F (l : List UInt8) : val l = valF 0 l := rfl
theorem valF_bd : ∀ (l : List UInt8) (n k : Nat), alldig l = true → n < 10 ^ k → valF n l < 10 ^ (k + l.length)
  | [], n, k, _, h => by simpa [valF] using h
  | b :: t, n, k, hd, h => by
    simp only [alldig, List.all_cons, Bool.and_eq_true, digR, decide_eq_true_eq] at hd
    have h2 : n * 10 + (b.toNat - 48) < 10 ^ (k + 1) := by rw [Nat.pow_succ]; omega
    have := valF_bd t _ (k + 1) hd.2 h2
    rw [List.length_cons, show k + (t.length + 1) = k + 1 + t.length by omega]
    exact this
theorem val_bd {l : List UInt8} (h : alldig l = true) : val l < 10 ^ l.length := by
  have := valF_bd l 0 0 h (by decide)
  rwa [Nat.zero_add] at this
theorem parse_F : ∀ (l : List UInt8) (n k : Nat), alldig l = true → n < 10 ^ k → k + l.length ≤ 18 → parseUint10 n l = .ok (valF n l)
  | [], n, k, _, _, _ => rfl
  | b :: t, n, k, hd, h, hk => by
    simp only [alldig, List.all_cons, Bool.and_eq_true, digR, decide_eq_true_eq] at hd
    simp only [List.length_cons] at hk
    have hp : 10 ^ k ≤ 10 ^ 17 := Nat.pow_le_pow_right (by decide) (by omega)
    have h2 : n * 10 + (b.toNat - 48) < 10 ^ (k + 1) := by rw [Nat.pow_succ]; omega
    rw [parseUint10, if_pos hd.1, if_neg (by omega), if_neg (by omega), parse_F t _ (k + 1) hd.2 h2 (by omega)]
    rfl
theorem atoi_dig {l : List UInt8} (h : alldig l = true) (h1 : l ≠ []) (h2 : l.length ≤ 9) : atoiAll l = .ok (val l : Int) := by
  cases l with
  | nil => exact absurd rfl h1
  | cons c r =>
    have hb := val_bd h
    have hp : 10 ^ (c :: r).length ≤ 10 ^ 9 := Nat.pow_le_pow_right (by decide) h2
    have hc : digR c.toNat = true := by simp only [alldig, List.all_cons, Bool.and_eq_true] at h; exact h.1
    simp only [digR, Bool.and_eq_true, decide_eq_true_eq] at hc
    rw [atoiAll_plain c r (by omega) (by omega)]
    unfold parseMag
    rw [if_neg (by simp), parse_F (c :: r) 0 0 h (by decide) (by omega), ← val_F]
    unfold signless
    simp only
    rw [if_neg (by omega)]
theorem atoi_nil (v : Int) : atoiAll [] ≠ .ok v := by intro h; cases h
theorem numS_bd {l : List UInt8} {n : Int} (hd : alldig l = true) (h : numS l = some n) : 0 ≤ n ∧ n ≤ 999999999 := by
  unfold numS at h
  split at h
  · rename_i hh
    have := val_bd hd
    have hp : 10 ^ l.length ≤ 10 ^ 9 := Nat.pow_le_pow_right (by decide) hh.2.1
    cases h
    omega
  · cases h

/-! ### Three pieces -/
/-- What fields finds: three pieces of these lengths, digits alone. -/
theorem fields_some {c : UInt8} {ws : List Nat} {l : List UInt8} {r : List Nat} (h : fieldsS c ws l = some r) : (splitN l [c] 4).map List.length = ws ∧ (splitN l [c] 4).all alldig = true ∧ (splitN l [c] 4).map val = r := by
  unfold fieldsS at h
  split at h
  · rename_i hh
    exact ⟨hh.1, hh.2, by simpa using h⟩
  · cases h
theorem fields_three {c : UInt8} {i j k : Nat} {l : List UInt8} {r : List Nat} (h : fieldsS c [i, j, k] l = some r) : ∃ a b d, r = [a, b, d] ∧ a < 10 ^ i ∧ b < 10 ^ j ∧ d < 10 ^ k := by
  obtain ⟨h1, h2, h3⟩ := fields_some h
  match hp : splitN l [c] 4, h1, h2, h3 with
  | [x, y, z], h1, h2, h3 =>
    simp only [List.map_cons, List.map_nil, List.cons.injEq, and_true] at h1
    simp only [List.all_cons, List.all_nil, Bool.and_true, Bool.and_eq_true] at h2
    obtain ⟨rfl, rfl, rfl⟩ := h1
    exact ⟨_, _, _, h3.symm, val_bd h2.1, val_bd h2.2.1, val_bd h2.2.2⟩
theorem full_some {l : List UInt8} {n : Int} (h : fullS l = some n) : ∃ a b d : Nat, fieldsS 58 [2, 2, 2] l = some [a, b, d] ∧ a < 100 ∧ b < 60 ∧ d < 60 ∧ n = ((a * 3600 + b * 60 + d : Nat) : Int) ∧ 0 ≤ n ∧ n ≤ 86400 := by
  unfold fullS at h
  cases hf : fieldsS 58 [2, 2, 2] l with
  | none => rw [hf] at h; cases h
  | some r =>
    obtain ⟨a, b, d, rfl, ha, hb, hd⟩ := fields_three hf
    rw [hf] at h
    simp only at h
    split at h
    · rename_i hh
      cases h
      exact ⟨a, b, d, rfl, by omega, hh.1, hh.2.1, rfl, by omega, by omega⟩
    · cases h
end Lx
