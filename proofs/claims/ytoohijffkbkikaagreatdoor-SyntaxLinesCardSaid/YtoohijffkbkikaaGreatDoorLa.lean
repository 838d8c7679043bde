/- What the small functions of package lexer return: letters, digits, names, leading digits, printable texts. -/
import Derived.Test.YtoohijffkbkikaaGreatDoorZci
import Derived.Test.YtoohijffkbkikaaGreatDoorLi
import Derived.Test.YtoohijffkbkikaaGreatDoorGl
import Derived.Test.YtoohijffkbkikaaGreatDoorShelf
import Derived.WalkSpells
import Derived.WalkLawsBesides
namespace Go.Proofs.YtoohijffkbkikaaGreatDoor
open Go.RowKit
set_option linter.unusedVariables false
set_option linter.unusedSimpArgs false

theorem letter_any (x : Nat) (w : World) : Calls Tryz.prog 119 #[.int .i32 (x : Int)] w fun e w' => e = .returned (.bool (Lx.lowR x)) ∧ w = w' := by
  go_enter Tryz.func119, Tryz.ntmps119
  go_wp2
  all_goals go_ret
  all_goals exact ⟨ret_bool (by rw [Bool.eq_iff_iff]; simp only [Lx.lowR, Bool.and_eq_true, decide_eq_true_eq, Bool.false_eq_true, false_iff, true_iff]; omega), rfl⟩
theorem letter_is {x : Nat} {b : Bool} (h : Lx.lowR x = b) (w : World) : Calls Tryz.prog 119 #[.int .i32 (x : Int)] w fun e w' => e = .returned (.bool b) ∧ w = w' := h ▸ letter_any x w
theorem digit_any (x : Nat) (w : World) : Calls Tryz.prog 118 #[.int .i32 (x : Int)] w fun e w' => e = .returned (.bool (Lx.digR x)) ∧ w = w' := by
  go_enter Tryz.func118, Tryz.ntmps118
  go_wp2
  all_goals go_ret
  all_goals exact ⟨ret_bool (by rw [Bool.eq_iff_iff]; simp only [Lx.digR, Bool.and_eq_true, decide_eq_true_eq, Bool.false_eq_true, false_iff, true_iff]; omega), rfl⟩
theorem digit_is {x : Nat} {b : Bool} (h : Lx.digR x = b) (w : World) : Calls Tryz.prog 118 #[.int .i32 (x : Int)] w fun e w' => e = .returned (.bool b) ∧ w = w' := h ▸ digit_any x w
theorem nodigit_any (x : Nat) (w : World) : Calls Tryz.prog 117 #[.int .i32 (x : Int)] w fun e w' => e = .returned (.bool (Lx.ndR x)) ∧ w = w' := by
  obtain ⟨b, hb⟩ : ∃ b, Lx.digR x = b := ⟨_, rfl⟩
  have HB := Lib.hid hb
  have HR := Lib.hid (show (!b) = Lx.ndR x by rw [← hb]; rfl)
  clear hb
  go_enter Tryz.func117, Tryz.ntmps117
  go_wp2_with fail
  refine (digit_is HB.out _).mono ?_
  rintro e w' ⟨rfl, rfl⟩
  go_wp2_with fail
  all_goals go_ret
  all_goals exact ⟨ret_bool HR.out, rfl⟩
theorem other_any (x : Nat) (w : World) : Calls Tryz.prog 120 #[.int .i32 (x : Int)] w fun e w' => e = .returned (.bool (Lx.othR x)) ∧ w = w' := by
  by_cases h1 : Lx.lowR x = true
  · have HR := Lib.hid (show false = Lx.othR x by simp [Lx.othR, h1])
    have HB := Lib.hid h1
    clear h1
    go_enter Tryz.func120, Tryz.ntmps120
    go_wp2_with fail
    refine (letter_is HB.out _).mono ?_
    rintro e w' ⟨rfl, rfl⟩
    go_wp2_with fail
    go_ret
    exact ⟨ret_bool HR.out, rfl⟩
  · have h1 : Lx.lowR x = false := by simpa using h1
    by_cases h2 : Lx.digR x = true
    · have HR := Lib.hid (show false = Lx.othR x by simp [Lx.othR, h2])
      have HB := Lib.hid h1
      have HC := Lib.hid h2
      clear h1 h2
      go_enter Tryz.func120, Tryz.ntmps120
      go_wp2_with fail
      refine (letter_is HB.out _).mono ?_
      rintro e w' ⟨rfl, rfl⟩
      go_wp2_with fail
      refine (digit_is HC.out _).mono ?_
      rintro e w' ⟨rfl, rfl⟩
      go_wp2_with fail
      go_ret
      exact ⟨ret_bool HR.out, rfl⟩
    · have h2 : Lx.digR x = false := by simpa using h2
      have HR := Lib.hid (show (!(x == 95) && !(x == 45)) = Lx.othR x by simp [Lx.othR, h1, h2])
      have HB := Lib.hid h1
      have HC := Lib.hid h2
      clear h1 h2
      go_enter Tryz.func120, Tryz.ntmps120
      go_wp2_with fail
      refine (letter_is HB.out _).mono ?_
      rintro e w' ⟨rfl, rfl⟩
      go_wp2_with fail
      refine (digit_is HC.out _).mono ?_
      rintro e w' ⟨rfl, rfl⟩
      go_wp2_with fail
      all_goals go_ret
      all_goals exact ⟨ret_bool (Eq.trans (by rw [Bool.eq_iff_iff]; simp; omega) HR.out), rfl⟩

/-! ### What IndexFunc finds -/
theorem enters_nodigit : ∀ args w, (callFunc 117 args).run Tryz.prog w = .ok (.enter 117 args) w := enters_of Tryz.func117 (by kernel_rfl) rfl
theorem enters_other : ∀ args w, (callFunc 120 args).run Tryz.prog w = .ok (.enter 120 args) w := enters_of Tryz.func120 (by kernel_rfl) rfl
theorem gives_nodigit (w : World) : PredAt Tryz.prog 117 #[] encR Lx.ndR w := fun W x hb => (nodigit_any x W).mono fun e w' ⟨h1, h2⟩ => ⟨h1, 0, h2 ▸ rfl⟩
theorem gives_other (w : World) : PredAt Tryz.prog 120 #[] encR Lx.othR w := fun W x hb => (other_any x W).mono fun e w' ⟨h1, h2⟩ => ⟨h1, 0, h2 ▸ rfl⟩
theorem idxl_is (s : ByteArray) (w : World) : Calls Tryz.prog 116 #[.string s, .func (.func 117) #[] #[]] w fun e w' => e = .returned (.int .i64 (Lib.idxFunc Lx.ndR true s)) ∧ Below w.heap.size w w' :=
  Tryz.strings_IndexFunc _ _ enters_nodigit Lx.ndR s w (gives_nodigit w)
theorem idxn_is (s : ByteArray) (w : World) : Calls Tryz.prog 116 #[.string s, .func (.func 120) #[] #[]] w fun e w' => e = .returned (.int .i64 (Lib.idxFunc Lx.othR true s)) ∧ Below w.heap.size w w' :=
  Tryz.strings_IndexFunc _ _ enters_other Lx.othR s w (gives_other w)

/-- How many digits a word begins with. -/
theorem lead_any (s : ByteArray) (w : World) : Calls Tryz.prog 92 #[.string s] w fun e w' => e = .returned (.int .i64 (Lx.lead s.data.toList : Int)) ∧ Below w.heap.size w w' := by
  have hi := Lx.idx_lead s
  have hz := Lib.size_eq s
  by_cases h : Lx.lead s.data.toList = s.data.toList.length
  · rw [if_pos h] at hi
    have HI := Lib.hid hi
    have HZ := Lib.hid (show (s.size : Int) = (Lx.lead s.data.toList : Int) by rw [h, hz])
    clear hi hz h
    go_enter Tryz.func92, Tryz.ntmps92
    go_wp2_with fail
    refine (idxl_is s _).mono ?_
    rw [HI.out]
    rintro e w' ⟨rfl, hb⟩
    go_wp2_with fail
    go_ret
    exact ⟨ret_int HZ.out, hb⟩
  · rw [if_neg h] at hi
    have HI := Lib.hid hi
    obtain ⟨k, hk⟩ : ∃ k, Lx.lead s.data.toList = k := ⟨_, rfl⟩
    rw [hk] at HI ⊢
    clear hi hz h hk
    go_enter Tryz.func92, Tryz.ntmps92
    go_wp2_with fail
    refine (idxl_is s _).mono ?_
    rw [HI.out]
    rintro e w' ⟨rfl, hb⟩
    go_wp2_with fail
    go_ret
    exact ⟨rfl, hb⟩
theorem lead_is {s : ByteArray} {k : Nat} (h : Lx.lead s.data.toList = k) (w : World) : Calls Tryz.prog 92 #[.string s] w fun e w' => e = .returned (.int .i64 (k : Int)) ∧ Below w.heap.size w w' := h ▸ lead_any s w
end Go.Proofs.YtoohijffkbkikaaGreatDoor
