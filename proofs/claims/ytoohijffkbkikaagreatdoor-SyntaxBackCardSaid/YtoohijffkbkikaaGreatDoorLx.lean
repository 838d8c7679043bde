/- Plain facts on words: what token a word is, what word a token has. Nothing of the program stands in it. -/
import Derived.Test.YtoohijffkbkikaaGreatDoorCiv
import Derived.Lib.Split
import Derived.Lib.SplitLaws
import Derived.Lib.CutLaws
import Derived.Lib.IndexMore
import Derived.Lib.Strings
import Derived.Lib.Fields
import Derived.Lib.Repeat
import Derived.Lib.ItoaNum
import Derived.Lib.ItoaMem
import Derived.Lib.AtoiAllCases
import Derived.Lib.ItoaLen
set_option linter.unusedVariables false
namespace Lx
open Go Go.Lib Go.Proofs.YtoohijffkbkikaaGreatDoor

/-! ### Bytes -/
def digR (r : Nat) : Bool := decide (48 ≤ r) && decide (r ≤ 57)
def lowR (r : Nat) : Bool := decide (97 ≤ r) && decide (r ≤ 122)
def othR (r : Nat) : Bool := !lowR r && !digR r && !(r == 95) && !(r == 45)
def ndR (r : Nat) : Bool := !digR r
theorem oth_hi (r : Nat) (h : 128 ≤ r) : othR r = true := by simp [othR, lowR, digR]; omega
theorem nd_hi (r : Nat) (h : 128 ≤ r) : ndR r = true := by simp [ndR, digR]; omega
def alldig (l : List UInt8) : Bool := l.all fun b => digR b.toNat
def noth (l : List UInt8) : Bool := l.all fun b => !othR b.toNat
def lead : List UInt8 → Nat
  | [] => 0
  | b :: t => if digR b.toNat then lead t + 1 else 0
theorem lead_le : ∀ l : List UInt8, lead l ≤ l.length
  | [] => Nat.le_refl _
  | b :: t => by
    have := lead_le t
    unfold lead
    split <;> simp <;> omega
theorem lead_all : ∀ {l : List UInt8}, lead l = l.length ↔ alldig l = true
  | [] => by simp [lead, alldig]
  | b :: t => by
    have ih := @lead_all t
    have := lead_le t
    unfold lead
    split
    · rename_i h
      simp only [List.length_cons, Nat.add_right_cancel_iff]
      rw [ih]
      simp [alldig, h]
    · rename_i h
      simp [alldig, h]
theorem lead_app : ∀ {a : List UInt8} {b : UInt8} {t : List UInt8}, alldig a = true → digR b.toNat = false → lead (a ++ b :: t) = a.length
  | [], b, t, _, h => by simp [lead, h]
  | x :: a, b, t, ha, h => by
    simp only [alldig, List.all_cons, Bool.and_eq_true] at ha
    show (if digR x.toNat then lead (a ++ b :: t) + 1 else 0) = _
    rw [if_pos ha.1, lead_app (a := a) ha.2 h]
    rfl

/-! ### Names -/
def nameS (l : List UInt8) : Bool := match l with
  | [] => false
  | b :: _ => decide (l.length ≤ 24) && lowR b.toNat && noth l

/-! ### Words with separators -/
def val (l : List UInt8) : Nat := l.foldl (fun n b => n * 10 + (b.toNat - 48)) 0
def fieldsS (c : UInt8) (ws : List Nat) (l : List UInt8) : Option (List Nat) :=
  if (splitN l [c] 4).map List.length = ws ∧ (splitN l [c] 4).all alldig = true then some ((splitN l [c] 4).map val) else none
def fullS (l : List UInt8) : Option Int := match fieldsS 58 [2, 2, 2] l with
  | some [h, m, s] => if m < 60 ∧ s < 60 ∧ h * 3600 + m * 60 + s ≤ 86400 then some ((h * 3600 + m * 60 + s : Nat) : Int) else none
  | _ => none
def clockS (l : List UInt8) : Option Int := fullS (if l.length = 5 then l ++ [58, 48, 48] else l)
def dateS (l : List UInt8) : Option Int := match fieldsS 45 [4, 2, 2] l with
  | some [y, m, d] => if Civ.vldB y m d = true then some (Civ.num y m d) else none
  | _ => none
def offS (l : List UInt8) : Option Int :=
  if l.length = 6 then
    match clockS (l.drop 1) with
    | some n => if n ≤ 64800 then (if l.head? = some 43 then some n else if l.head? = some 45 then some (-n) else none) else none
    | none => none
  else none
def instS (l : List UInt8) : Option Int :=
  match dateS (cut (trimSuffix l [90]) [84]).1, fullS (cut (trimSuffix l [90]) [84]).2.1 with
  | some d, some n => if hasSuffix l [90] = true ∧ n < 86400 then some (d * 86400 + n) else none
  | _, _ => none
def numS (l : List UInt8) : Option Int := if l ≠ [] ∧ l.length ≤ 9 ∧ (l = [48] ∨ l.head? ≠ some 48) then some (val l : Int) else none
abbrev Tk := Int × List UInt8 × Int
def tokS (l : List UInt8) : Option Tk :=
  if nameS l = true then some (0, l, 0)
  else if lead l = l.length then (numS l).map fun n => (1, [], n)
  else if lead l = 2 then (clockS l).map fun n => (2, [], n)
  else if lead l = 4 ∧ 84 ∈ l then (instS l).map fun n => (5, [], n)
  else if lead l = 4 then (dateS l).map fun n => (3, [], n)
  else if lead l = 0 then (offS l).map fun n => (4, [], n)
  else none

/-! ### The words of tokens -/
def padS (n : Int) (w : Nat) : List UInt8 := repeatL [48] (w - (itoa n).length) ++ itoa n
def fullTS (n : Int) : List UInt8 := padS (n.tdiv 3600) 2 ++ 58 :: (padS ((n.tdiv 60).tmod 60) 2 ++ 58 :: padS (n.tmod 60) 2)
def clockTS (n : Int) : List UInt8 := trimSuffix (fullTS n) [58, 48, 48]
def offTS (n : Int) : List UInt8 := if n < 0 then 45 :: clockTS (-n) else 43 :: clockTS n
def dTS (y m d : Int) : List UInt8 := padS y 4 ++ 45 :: (padS m 2 ++ 45 :: padS d 2)
def instTS (y m d n : Int) : List UInt8 := dTS y m d ++ 84 :: (fullTS n ++ [90])
end Lx
