/- What fullClock, clock, date and offset of package lexer return. -/
import Derived.Test.YtoohijffkbkikaaGreatDoorLe
namespace Go.Proofs.YtoohijffkbkikaaGreatDoor
open Go.RowKit
set_option linter.unusedVariables false
set_option linter.unusedSimpArgs false
set_option maxRecDepth 100000

theorem Num2.none_ {M : Int} {w w' : World} (hM : 0 ≤ M) (v : Int) (hi : I64 v) (h1 : -M ≤ v) (h2 : v ≤ M) (hb : Below w.heap.size w w') : Num2 M none w (.returned (.tuple #[.int .i64 v, .bool false])) w' := ⟨v, hi, h1, h2, (by rintro x ⟨⟩), rfl, hb⟩
theorem Num2.some_ {M : Int} {w w' : World} (v : Int) (hi : I64 v) (h1 : -M ≤ v) (h2 : v ≤ M) (hb : Below w.heap.size w w') : Num2 M (some v) w (.returned (.tuple #[.int .i64 v, .bool true])) w' := ⟨v, hi, h1, h2, (by rintro x ⟨⟩; rfl), rfl, hb⟩
theorem wr_ (x : Int) (h : -9223372036854775808 ≤ x ∧ x ≤ 9223372036854775807) : IntKind.i64.wrap x = x := IntWalk.i64_in x h

set_option maxHeartbeats 4000000 in
theorem full_any (s : ByteArray) (w : World) (hT : LexT w) (hs : s.size ≤ 4000000000) :
    Calls Tryz.prog 123 #[.string s] w (Num2 1000000 (Lx.fullS s.data.toList) w) := by
  obtain ⟨o, ho⟩ : ∃ o, Lx.fullS s.data.toList = o := ⟨_, rfl⟩
  rw [ho]
  have T0 := hT.alloc (.cells #[.int .i64 2, .int .i64 2, .int .i64 2] 3)
  have W0 := BlkAt.new w #[.int .i64 2, .int .i64 2, .int .i64 2] 3
  have B0 : Below w.heap.size w (w.alloc (.cells #[.int .i64 2, .int .i64 2, .int .i64 2] 3)) := (Below.refl _ _).alloc (Nat.le_refl _) _
  have HO := Lib.hid ho
  clear ho
  go_enter Tryz.func123, Tryz.ntmps123
  go_wp2_with fail
  refine (fields_any s 58 2 2 2 w.heap.size _ T0 hs W0 (by decide) (by decide) (by decide)).mono ?_
  rintro e w1 (⟨hn, rfl, b1⟩ | ⟨a, b, d, bl, hsm, rfl, R1, b1⟩)
  · have HN := Lib.hid (show o = none by rw [← HO.out]; unfold Lx.fullS; rw [hn])
    have HB := Lib.hid (bstep B0 b1)
    clear hn b1 B0 T0 W0
    go_wp2_with fail
    go_ret2
    rw [HN.out]
    exact Num2.none_ (by omega) 0 ⟨by omega, by omega⟩ (by omega) (by omega) HB.out
  · have hbd := Lx.fields_three hsm
    obtain ⟨a', b', d', he, ha, hb, hd⟩ := hbd
    cases he
    have hex : Lx.fullS s.data.toList = (if b < 60 ∧ d < 60 ∧ a * 3600 + b * 60 + d ≤ 86400 then some ((a * 3600 + b * 60 + d : Nat) : Int) else none) := by unfold Lx.fullS; rw [hsm]
    rw [HO.out] at hex
    have HX := Lib.hid hex
    have HB := Lib.hid (bstep B0 b1)
    have c0 := R1.cell (i := 0) rfl
    have c1 := R1.cell (i := 1) rfl
    have c2 := R1.cell (i := 2) rfl
    clear hsm b1 B0 T0 W0 hex HO
    obtain ⟨A, hA⟩ : ∃ A : Int, (a : Int) = A := ⟨_, rfl⟩
    obtain ⟨B, hB⟩ : ∃ B : Int, (b : Int) = B := ⟨_, rfl⟩
    obtain ⟨D, hD⟩ : ∃ D : Int, (d : Int) = D := ⟨_, rfl⟩
    rw [hA] at c0
    rw [hB] at c1
    rw [hD] at c2
    have aA : 0 ≤ A ∧ A < 100 := by omega
    have aB : 0 ≤ B ∧ B < 100 := by omega
    have aD : 0 ≤ D ∧ D < 100 := by omega
    have HE := Lib.hid (And.intro hA (And.intro hB hD))
    clear hA hB hD ha hb hd
    by_cases h1 : 60 ≤ B
    · have HN := Lib.hid (show o = none by rw [HX.out, if_neg (by have := HE.out; omega)])
      go_wp2_with fail
      go_ret2
      rw [HN.out]
      exact Num2.none_ (by omega) 0 ⟨by omega, by omega⟩ (by omega) (by omega) HB.out
    · have h1' : decide ((60 : Int) ≤ B) = false := by simp; omega
      by_cases h2 : 60 ≤ D
      · have HN := Lib.hid (show o = none by rw [HX.out, if_neg (by have := HE.out; omega)])
        go_wp2_with fail
        go_ret2
        rw [HN.out]
        exact Num2.none_ (by omega) 0 ⟨by omega, by omega⟩ (by omega) (by omega) HB.out
      · have h2' : decide ((60 : Int) ≤ D) = false := by simp; omega
        have u1 := wr_ (A * 3600) (by omega)
        have u2 := wr_ (B * 60) (by omega)
        have u3 := wr_ (A * 3600 + B * 60) (by omega)
        have u4 := wr_ (A * 3600 + B * 60 + D) (by omega)
        by_cases h3 : A * 3600 + B * 60 + D ≤ 86400
        · have HN := Lib.hid (show o = some (A * 3600 + B * 60 + D) by
            rw [HX.out, if_pos (by have := HE.out; omega)]
            have := HE.out
            congr 1
            omega)
          clear HX HE
          go_wp2_with fail
          go_quiet (fail)
          go_wp2_with fail
          go_ret2
          rw [HN.out]
          exact Num2.some_ _ ⟨by omega, by omega⟩ (by omega) (by omega) (bdrewN HB.out _)
        · have HN := Lib.hid (show o = none by rw [HX.out, if_neg (by have := HE.out; omega)])
          have h3' : decide (A * 3600 + B * 60 + D ≤ 86400) = false := by simp; omega
          clear HX HE
          go_wp2_with fail
          go_quiet (fail)
          go_wp2_with fail
          go_ret2
          rw [HN.out]
          exact Num2.none_ (by omega) _ ⟨by omega, by omega⟩ (by omega) (by omega) (bdrewN HB.out _)
end Go.Proofs.YtoohijffkbkikaaGreatDoor
