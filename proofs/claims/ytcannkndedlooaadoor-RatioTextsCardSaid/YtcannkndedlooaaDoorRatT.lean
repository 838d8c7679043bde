/- Plain facts on the texts of ratios: decimal numerals, read and written. Nothing of the program stands in it. -/
import Derived.Test.YtcannkndedlooaaDoorRat
import Derived.Lib.ItoaNum
import Derived.Lib.AtoiAllCases
import Derived.Lib.IndexMore
import Derived.Lib.ItoaLen
set_option linter.unusedVariables false
namespace Rt
open Go Go.Lib

theorem dig_nat {n : Nat} (h : n < 10) : (UInt8.ofNat (48 + n)).toNat = 48 + n := by simp; omega

theorem parse_digits (u : Nat) : ∀ r : List UInt8, u < 9223372036854775808 → parseUint10 0 (decDigits u ++ r) = parseUint10 u r := by
  induction u using Nat.strongRecOn with
  | _ u ih =>
    intro r hu
    by_cases h : u < 10
    · rw [decDigits, dif_pos h]
      show parseUint10 0 (UInt8.ofNat (48 + u) :: r) = _
      have hd := dig_nat h
      rw [parseUint10, hd, if_pos (by omega), if_neg (by omega), if_neg (by omega)]
      congr 1
      omega
    · rw [decDigits, dif_neg h, List.append_assoc, ih (u / 10) (by omega) _ (by omega)]
      show parseUint10 (u / 10) (UInt8.ofNat (48 + u % 10) :: r) = _
      have hd := dig_nat (show u % 10 < 10 by omega)
      rw [parseUint10, hd, if_pos (by omega), if_neg (by omega), if_neg (by omega)]
      congr 1
      omega
theorem parse_dec {u : Nat} (hu : u < 9223372036854775808) : parseUint10 0 (decDigits u) = .ok u := by
  have h := parse_digits u [] hu
  rw [List.append_nil] at h
  rw [h]
  rfl
/-- A numeral's bytes are digits. -/
theorem dec_mem (u : Nat) : ∀ c ∈ decDigits u, 48 ≤ c.toNat ∧ c.toNat ≤ 57 := by
  induction u using Nat.strongRecOn with
  | _ u ih =>
    intro c hc
    by_cases h : u < 10
    · rw [decDigits, dif_pos h] at hc
      simp only [List.mem_singleton] at hc
      subst hc
      rw [dig_nat h]
      omega
    · rw [decDigits, dif_neg h] at hc
      simp only [List.mem_append, List.mem_singleton] at hc
      rcases hc with hc | hc
      · exact ih (u / 10) (by omega) c hc
      · subst hc
        rw [dig_nat (show u % 10 < 10 by omega)]
        omega
theorem dec_ne (u : Nat) : decDigits u ≠ [] := by
  intro h
  have h1 := decDigits_length u
  have h2 := nDigits_pos u
  rw [h] at h1
  simp at h1
  omega
theorem dec_cons (u : Nat) : ∃ c r, decDigits u = c :: r ∧ 48 ≤ c.toNat ∧ c.toNat ≤ 57 := by
  cases h : decDigits u with
  | nil => exact absurd h (dec_ne u)
  | cons c r => exact ⟨c, r, rfl, dec_mem u c (by rw [h]; simp)⟩

theorem itoa_ok {n : Int} (h1 : -4611686018427387904 ≤ n) (h2 : n ≤ 4611686018427387904) : atoiAll (itoa n) = .ok n := by
  unfold itoa
  by_cases hn : n < 0
  · rw [if_pos hn, atoiAll_minus]
    have hp : parseMag (decDigits n.natAbs) = .ok n.natAbs := by
      unfold parseMag
      rw [if_neg (dec_ne _), parse_dec (by omega)]
    rw [hp]
    unfold signed
    simp only
    rw [if_neg (by omega)]
    congr 1
    omega
  · rw [if_neg hn]
    have hp : parseMag (decDigits n.toNat) = .ok n.toNat := by
      unfold parseMag
      rw [if_neg (dec_ne _), parse_dec (by omega)]
    obtain ⟨c, r, e, c1, c2⟩ := dec_cons n.toNat
    rw [e] at hp ⊢
    rw [atoiAll_plain c r (by omega) (by omega), hp]
    unfold signless
    simp only
    rw [if_neg (by omega)]
    congr 1
    omega
theorem itoa_mem {n : Int} : ∀ c ∈ itoa n, c ≠ 47 := by
  intro c hc
  unfold itoa at hc
  split at hc
  · simp only [List.mem_cons] at hc
    rcases hc with rfl | hc
    · decide
    · have := dec_mem _ c hc
      rintro rfl
      simp at this
  · have := dec_mem _ c hc
    rintro rfl
    simp at this
theorem itoa_ne (n : Int) : itoa n ≠ [] := by
  unfold itoa
  split
  · simp
  · exact dec_ne _

/-! ### The text of a ratio -/
def txt (n d : Int) : List UInt8 := if d = 1 then itoa n else itoa n ++ 47 :: itoa d
def txtS (n d : Int) : List UInt8 := if vld n d then txt n d else []
theorem txt_ne (n d : Int) : txt n d ≠ [] := by
  unfold txt
  split
  · exact itoa_ne n
  · simp
theorem txt_le {n d : Int} (h : vld n d) : (txt n d).length ≤ 43 := by
  obtain ⟨h1, h2, h3, h4, _⟩ := h
  have a := itoa_length_le n (by omega) (by omega)
  have b := itoa_length_le d (by omega) (by omega)
  unfold txt
  split
  · omega
  · simp; omega

/-! ### The first slash -/
theorem index_slash_none {l : List UInt8} (h : ∀ c ∈ l, c ≠ 47) : index l [47] = -1 := by
  apply index_none
  intro j hj
  unfold occAt
  cases hd : l.drop j with
  | nil => rfl
  | cons c r =>
    have hc : c ∈ l := List.mem_of_mem_drop (by rw [hd]; simp)
    have := h c hc
    simp [List.isPrefixOf]
    exact fun e => this e.symm
theorem index_slash {a b : List UInt8} (h : ∀ c ∈ a, c ≠ 47) : index (a ++ 47 :: b) [47] = a.length := by
  apply index_first
  · simp
  · unfold occAt
    simp [List.isPrefixOf]
  · intro j hj
    unfold occAt
    cases hd : (a ++ 47 :: b).drop j with
    | nil => rfl
    | cons c r =>
      rw [List.drop_append_of_le_length (by omega)] at hd
      have : a.drop j ≠ [] := by
        intro e
        have := congrArg List.length e
        simp at this
        omega
      cases ha : a.drop j with
      | nil => exact absurd ha this
      | cons x y =>
        rw [ha] at hd
        simp only [List.cons_append, List.cons.injEq] at hd
        have hc : x ∈ a := List.mem_of_mem_drop (by rw [ha]; simp)
        have hx := h x hc
        rw [← hd.1]
        simp [List.isPrefixOf]
        exact fun e => hx e.symm
/-- What stands ahead of the first slash, what behind it, and whether there is one. -/
def cutS (l : List UInt8) : List UInt8 × List UInt8 × Bool := cut l [47]
theorem cut_none {l : List UInt8} (h : ∀ c ∈ l, c ≠ 47) : cutS l = (l, [], false) := by
  unfold cutS cut
  rw [index_slash_none h, if_neg (by omega)]
theorem cut_some {a b : List UInt8} (h : ∀ c ∈ a, c ≠ 47) : cutS (a ++ 47 :: b) = (a, b, true) := by
  unfold cutS cut
  rw [index_slash h, if_pos (by omega)]
  simp
theorem cut_txt {n d : Int} : cutS (txt n d) = (itoa n, if d = 1 then [] else itoa d, decide (d ≠ 1)) := by
  unfold txt
  by_cases h : d = 1
  · rw [if_pos h, if_pos h, cut_none (fun c hc => itoa_mem c hc)]
    simp [h]
  · rw [if_neg h, if_neg h, cut_some (fun c hc => itoa_mem c hc)]
    simp [h]

/-! ### The reference's reading of a number -/
def numF (acc : Int) : List UInt8 → Int
  | [] => acc
  | c :: r => if (c.toNat : Int) < 48 ∨ 57 < (c.toNat : Int) ∨ (4611686018427387904 - ((c.toNat : Int) - 48)) / 10 < acc then -1 else numF (10 * acc + ((c.toNat : Int) - 48)) r
theorem numF_bd : ∀ (l : List UInt8) (acc : Int), 0 ≤ acc → acc ≤ 4611686018427387904 → -1 ≤ numF acc l ∧ numF acc l ≤ 4611686018427387904
  | [], acc, h1, h2 => by unfold numF; omega
  | c :: r, acc, h1, h2 => by
    unfold numF
    split
    · omega
    · exact numF_bd r _ (by omega) (by omega)
theorem numF_digits (u : Nat) : ∀ r : List UInt8, u ≤ 4611686018427387904 → numF 0 (decDigits u ++ r) = numF u r := by
  induction u using Nat.strongRecOn with
  | _ u ih =>
    intro r hu
    by_cases h : u < 10
    · rw [decDigits, dif_pos h]
      show numF 0 (UInt8.ofNat (48 + u) :: r) = _
      have hd := dig_nat h
      rw [numF, hd, if_neg (by omega)]
      congr 1
      omega
    · rw [decDigits, dif_neg h, List.append_assoc, ih (u / 10) (by omega) _ (by omega)]
      show numF _ (UInt8.ofNat (48 + u % 10) :: r) = _
      have hd := dig_nat (show u % 10 < 10 by omega)
      rw [numF, hd, if_neg (by omega)]
      congr 1
      omega
theorem numF_dec {u : Nat} (hu : u ≤ 4611686018427387904) : numF 0 (decDigits u) = u := by
  have h := numF_digits u [] hu
  rw [List.append_nil] at h
  rw [h]
  rfl
/-- What the reference reads: numerator and denominator. -/
def refDen (l : List UInt8) : Int := if (cutS l).2.2 then numF 0 (cutS l).2.1 else 1
def minusB (a : List UInt8) : Bool := a.head?.any fun c => c == 45
def refNum (a : List UInt8) : Int := if minusB a then -1 * numF 0 (a.drop 1) else 1 * numF 0 a
theorem ref_txt {n d : Int} (h : vld n d) : refNum (cutS (txt n d)).1 = n ∧ refDen (txt n d) = d := by
  obtain ⟨h1, h2, h3, h4, _⟩ := h
  unfold refDen
  rw [cut_txt]
  constructor
  · unfold refNum minusB itoa
    by_cases hn : n < 0
    · rw [if_pos hn, if_pos (by simp)]
      simp only [List.drop_succ_cons, List.drop_zero]
      rw [numF_dec (by omega)]
      omega
    · rw [if_neg hn]
      obtain ⟨c, r, e, c1, c2⟩ := dec_cons n.toNat
      have hm : ¬ ((decDigits n.toNat).head?.any fun c => c == 45) = true := by
        rw [e]
        simp
        rintro rfl
        simp at c1
      rw [if_neg hm, numF_dec (by omega)]
      omega
  · by_cases hd : d = 1
    · simp [hd]
    · simp only [hd, ne_eq, not_false_eq_true, decide_true, if_true, if_false]
      unfold itoa
      rw [if_neg (by omega), numF_dec (by omega)]
      omega
theorem refNum_bd (a : List UInt8) : -4611686018427387904 ≤ refNum a ∧ refNum a ≤ 4611686018427387904 := by
  unfold refNum
  have h1 := numF_bd (a.drop 1) 0 (by omega) (by omega)
  have h2 := numF_bd a 0 (by omega) (by omega)
  split <;> omega
theorem refDen_bd (l : List UInt8) : -1 ≤ refDen l ∧ refDen l ≤ 4611686018427387904 := by
  unfold refDen
  have h2 := numF_bd (cutS l).2.1 0 (by omega) (by omega)
  split <;> omega

/-- l is the text of the valid ratio n / d. -/
def IsTxt (l : List UInt8) (n d : Int) : Prop := vld n d ∧ txt n d = l
theorem txtS_eq {l : List UInt8} {n d : Int} (hl : l ≠ []) (h : txtS n d = l) : IsTxt l n d := by
  unfold txtS at h
  by_cases hv : vld n d
  · rw [if_pos hv] at h
    exact ⟨hv, h⟩
  · rw [if_neg hv] at h
    exact absurd h.symm hl
theorem txtS_yes {n d : Int} (h : vld n d) : txtS n d = txt n d := by unfold txtS; rw [if_pos h]
end Rt
