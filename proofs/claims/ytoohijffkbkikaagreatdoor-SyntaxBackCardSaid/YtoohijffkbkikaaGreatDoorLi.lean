/- Plain facts on words: what IndexFunc finds in any string, by bytes. Nothing of the program stands in it. -/
import Derived.Test.YtoohijffkbkikaaGreatDoorLx
import Derived.Shelf.GgClosure.StringsIndexFunc
set_option linter.unusedVariables false
namespace Lx
open Go Go.Lib Go.Proofs.YtoohijffkbkikaaGreatDoor

/-! ### What IndexFunc finds -/
theorem decode_lo (s : ByteArray) (i : Nat) (h : (s.get! i).toNat < 128) : Utf8.decode s i = ((s.get! i).toNat, 1) := by
  unfold Utf8.decode
  simp only [Nat.add_zero]
  rw [if_pos (by simpa using h)]
theorem decode_hi (s : ByteArray) (i : Nat) (h : 128 ≤ (s.get! i).toNat) : 128 ≤ (Utf8.decode s i).1 := by
  unfold Utf8.decode
  simp only [Nat.add_zero]
  rw [if_neg (by omega)]
  repeat' split
  all_goals simp_all [Utf8.runeError]
  all_goals omega
def fi (p : Nat → Bool) : List UInt8 → Option Nat
  | [] => none
  | b :: t => if p b.toNat then some 0 else (fi p t).map (· + 1)
theorem get_drop (s : ByteArray) (i : Nat) (h : i < s.size) : s.data.toList.drop i = s.get! i :: s.data.toList.drop (i + 1) := by
  have hl : i < s.data.toList.length := by rw [← size_eq]; exact h
  rw [List.drop_eq_getElem_cons hl]
  congr 1
  obtain ⟨⟨l⟩⟩ := s
  simp only at hl
  show l[i] = (ByteArray.mk ⟨l⟩).get! i
  simp [ByteArray.get!, hl]
theorem idx_from (p : Nat → Bool) (hp : ∀ r, 128 ≤ r → p r = true) (s : ByteArray) : ∀ (f pos : Nat), s.size ≤ pos + f →
    idxFuncFrom p true s f pos = match fi p (s.data.toList.drop pos) with | none => -1 | some i => ((pos + i : Nat) : Int)
  | 0, pos, h => by
    have : s.data.toList.drop pos = [] := List.drop_eq_nil_of_le (by rw [← size_eq]; omega)
    rw [this]
    rfl
  | f + 1, pos, h => by
    unfold idxFuncFrom
    by_cases hlt : pos < s.size
    · rw [if_pos hlt, get_drop s pos hlt]
      by_cases hb : (s.get! pos).toNat < 128
      · rw [decode_lo s pos hb]
        show (if p (s.get! pos).toNat = true then _ else idxFuncFrom p true s f (pos + 1)) = _
        by_cases hq : p (s.get! pos).toNat = true
        · rw [if_pos hq]
          simp [fi, hq]
        · rw [if_neg hq, idx_from p hp s f (pos + 1) (by omega)]
          simp only [fi, hq]
          cases fi p (s.data.toList.drop (pos + 1)) with
          | none => rfl
          | some i => show ((pos + 1 + i : Nat) : Int) = ((pos + (i + 1) : Nat) : Int); congr 1; omega
      · have hq := hp _ (show 128 ≤ (s.get! pos).toNat by omega)
        rw [if_pos (hp _ (decode_hi s pos (by omega)))]
        simp [fi, hq]
    · rw [if_neg hlt]
      have : s.data.toList.drop pos = [] := List.drop_eq_nil_of_le (by rw [← size_eq]; omega)
      rw [this]
      rfl
theorem fi_lead : ∀ l : List UInt8, fi ndR l = if lead l = l.length then none else some (lead l)
  | [] => by simp [fi, lead]
  | b :: t => by
    have ih := fi_lead t
    have := lead_le t
    unfold fi lead
    by_cases h : digR b.toNat = true
    · have h2 : ndR b.toNat = false := by simp [ndR, h]
      rw [h2, ih, if_pos h]
      by_cases e : lead t = t.length
      · simp [e]
      · simp [e]
    · have h2 : ndR b.toNat = true := by simp [ndR, h]
      rw [h2, if_neg h]
      simp
theorem fi_noth : ∀ l : List UInt8, (fi othR l).isNone = noth l
  | [] => rfl
  | b :: t => by
    have ih := fi_noth t
    unfold fi
    by_cases h : othR b.toNat = true
    · simp [h, noth]
    · simp only [noth, List.all_cons] at ih ⊢
      simp [h, ← ih]
theorem idx_lead (s : ByteArray) : idxFunc ndR true s = if lead s.data.toList = s.data.toList.length then -1 else (lead s.data.toList : Int) := by
  unfold idxFunc
  rw [idx_from ndR nd_hi s _ _ (by omega), List.drop_zero, fi_lead]
  by_cases h : lead s.data.toList = s.data.toList.length
  · rw [if_pos h, if_pos h]
  · rw [if_neg h, if_neg h]
    simp
theorem idx_noth (s : ByteArray) : decide (idxFunc othR true s < 0) = noth s.data.toList := by
  unfold idxFunc
  rw [idx_from othR oth_hi s _ _ (by omega), List.drop_zero, ← fi_noth]
  cases fi othR s.data.toList with
  | none => rfl
  | some i => simp

end Lx
