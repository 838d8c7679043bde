/- What Text of package lexer returns. -/
import Derived.Test.YtoohijffkbkikaaGreatDoorLo
namespace Go.Proofs.YtoohijffkbkikaaGreatDoor
open Go.RowKit
set_option linter.unusedVariables false
set_option linter.unusedSimpArgs false
set_option maxRecDepth 100000

theorem ret_stri {a b : ByteArray} {c d : Int} (h : a = b) (h2 : c = d) : Ending.returned (.tuple #[.string a, .int .i64 c]) = .returned (.tuple #[.string b, .int .i64 d]) := by rw [h, h2]
/-- Text of a token that is that of its word. -/
theorem text_yes {k n : Int} {t : ByteArray} {s : List UInt8} (HP : Hid (SpellIs k t.data.toList n s)) (HB : Hid (Lx.tokS s = some (k, t.data.toList, n))) (w : World) (hT : LexT w) (ik : I64 k) (i1 : -9223372036854775807 ≤ n) (i2 : n ≤ 9223372036854775807) (hz : s.length ≤ 3000000000) :
    Calls Tryz.prog 52 #[.agg #[.int .i64 k, .string t, .int .i64 n]] w fun e w' => e = .returned (.tuple #[.string ⟨s.toArray⟩, .int .i64 0]) ∧ Below w.heap.size w w' := by
  have S0 := TokB.new w k t n
  have B0 := (Below.refl _ w).alloc (Nat.le_refl _) (.cells #[.int .i64 k, .string t, .int .i64 n] 44)
  have T0 := Lib.hid (hT.alloc (.cells #[.int .i64 k, .string t, .int .i64 n] 44))
  have ⟨t0, t1, t2, _, _, _⟩ := S0.cells
  go_enter Tryz.func52, Tryz.ntmps52
  go_wp2_with fail
  refine (spell_any HP.out _ T0.out ik i1 i2).mono ?_
  rintro e w1 ⟨rfl, b1⟩
  have S1 := S0.after b1
  have B1 := bstep B0 b1
  have T1 := Lib.hid (T0.out.below b1)
  clear t0 t1 t2 S0 b1 B0
  have ⟨t0, t1, t2, _, _, _⟩ := S1.cells
  go_wp2_with fail
  refine (token_is (s := ⟨s.toArray⟩) HB.out _ T1.out (by rw [ba_size]; exact hz)).mono ?_
  rintro e w2 (⟨hn, _⟩ | ⟨k2, tt, n2, hkk, rfl, b2⟩)
  · cases hn
  cases hkk
  rw [Lib.mk_data]
  have S2 := S1.after b2
  have B2 := bstep B1 b2
  clear t0 t1 t2 S1 b2 B1
  have ⟨t0, t1, t2, _, _, _⟩ := S2.cells
  have hlt : w.heap.size < w2.heap.size := S2.lt_
  have Q := B2.alloc B2.size (.cells #[.int .i64 k, .string t, .int .i64 n] 44)
  go_wp2_with fail
  go_ret2
  exact ⟨rfl, Q⟩
/-- Text of any other token. -/
theorem text_no {k n : Int} {t : ByteArray} {s : List UInt8} (HP : Hid (SpellIs k t.data.toList n s)) (HB : Hid (Lx.tokS s ≠ some (k, t.data.toList, n))) (w : World) (hT : LexT w) (ik : I64 k) (i1 : -9223372036854775807 ≤ n) (i2 : n ≤ 9223372036854775807) (hz : s.length ≤ 3000000000) :
    Calls Tryz.prog 52 #[.agg #[.int .i64 k, .string t, .int .i64 n]] w fun e w' => e = .returned (.tuple #[.string ⟨#[]⟩, .int .i64 8]) ∧ Below w.heap.size w w' := by
  have S0 := TokB.new w k t n
  have B0 := (Below.refl _ w).alloc (Nat.le_refl _) (.cells #[.int .i64 k, .string t, .int .i64 n] 44)
  have T0 := Lib.hid (hT.alloc (.cells #[.int .i64 k, .string t, .int .i64 n] 44))
  have ⟨t0, t1, t2, _, _, _⟩ := S0.cells
  go_enter Tryz.func52, Tryz.ntmps52
  go_wp2_with fail
  refine (spell_any HP.out _ T0.out ik i1 i2).mono ?_
  rintro e w1 ⟨rfl, b1⟩
  have S1 := S0.after b1
  have B1 := bstep B0 b1
  have T1 := Lib.hid (T0.out.below b1)
  clear t0 t1 t2 S0 b1 B0
  have ⟨t0, t1, t2, _, _, _⟩ := S1.cells
  go_wp2_with fail
  refine (token_any ⟨s.toArray⟩ _ T1.out (by rw [ba_size]; exact hz)).mono ?_
  rintro e w2 (⟨hn, rfl, b2⟩ | ⟨k2, tt, n2, hkk, rfl, b2⟩)
  · have S2 := S1.after b2
    have B2 := bstep B1 b2
    clear t0 t1 t2 S1 b2 B1 hn
    have ⟨t0, t1, t2, _, _, _⟩ := S2.cells
    have hlt : w.heap.size < w2.heap.size := S2.lt_
    have Q := B2.alloc B2.size (.cells #[.int .i64 0, .string ⟨#[]⟩, .int .i64 0] 44)
    go_wp2_with fail
    go_ret2
    exact ⟨rfl, Q⟩
  · have HQ := Lib.hid (show ¬ (k2 = k ∧ tt = t.data.toList ∧ n2 = n) by
      rintro ⟨rfl, rfl, rfl⟩
      exact HB.out hkk)
    have S2 := S1.after b2
    have B2 := bstep B1 b2
    clear t0 t1 t2 S1 b2 B1 hkk
    have ⟨t0, t1, t2, _, _, _⟩ := S2.cells
    have hlt : w.heap.size < w2.heap.size := S2.lt_
    have Q := B2.alloc B2.size (.cells #[.int .i64 k2, .string ⟨tt.toArray⟩, .int .i64 n2] 44)
    have htl : t.toList = t.data.toList := Lib.toList_data t
    by_cases h1 : k2 = k
    · subst h1
      by_cases h2 : tt = t.data.toList
      · have h3 : ¬ n2 = n := fun h3 => HQ.out ⟨rfl, h2, h3⟩
        subst h2
        rw [Lib.mk_data] at Q ⊢
        clear htl
        go_wp2_with fail
        go_ret2
        exact ⟨rfl, Q⟩
      · have h2' : ¬ tt = t.toList := by rw [htl]; exact h2
        clear htl h2
        go_wp2_with fail
        all_goals go_ret2
        all_goals exact ⟨rfl, Q⟩
    · clear htl
      go_wp2_with fail
      go_ret2
      exact ⟨rfl, Q⟩
end Go.Proofs.YtoohijffkbkikaaGreatDoor
