/- What number and fields of package lexer return. -/
import Derived.Test.YtoohijffkbkikaaGreatDoorLs
import Derived.Test.YtoohijffkbkikaaGreatDoorLz
namespace Go.Proofs.YtoohijffkbkikaaGreatDoor
open Go.RowKit
set_option linter.unusedVariables false
set_option linter.unusedSimpArgs false

/-- A number, from -M to M, and whether it counts. -/
def Num2 (M : Int) (o : Option Int) (w : World) (e : Ending) (w' : World) : Prop :=
  ∃ v : Int, I64 v ∧ -M ≤ v ∧ v ≤ M ∧ (∀ x, o = some x → v = x) ∧ e = .returned (.tuple #[.int .i64 v, .bool o.isSome]) ∧ Below w.heap.size w w'
theorem ret_ib {a b : Int} {c d : Bool} (h : a = b) (h2 : c = d) : Ending.returned (.tuple #[.int .i64 a, .bool c]) = .returned (.tuple #[.int .i64 b, .bool d]) := by rw [h, h2]

theorem bdrewN {B : Nat} {a w : World} (h : Below B a w) (n : Nat) : Below B a (w.drewN n) := ⟨h.os, h.tape, h.output, h.size, h.block⟩
theorem prefix_is {s : ByteArray} {c : UInt8} {b : Bool} (h : Lib.hasPrefix s.data.toList [c] = b) (w : World) : Calls Tryz.prog 121 #[.string s, .string ⟨#[c]⟩] w fun e w' => e = .returned (.bool b) ∧ w = w' :=
  (Tryz.strings_HasPrefix s ⟨#[c]⟩ w).mono fun e w' ⟨h1, h2⟩ => ⟨by rw [h1, ← h], h2.symm⟩

set_option maxRecDepth 100000 in
set_option maxHeartbeats 800000 in
theorem number_any (s : ByteArray) (w : World) (hT : LexT w) (hs : s.size ≤ 4000000000) (hd : Lx.alldig s.data.toList = true) :
    Calls Tryz.prog 94 #[.string s] w (Num2 9223372036854775808 (Lx.numS s.data.toList) w) := by
  have hz := Lib.size_eq s
  have hl : s.toList = s.data.toList := Lib.toList_data s
  by_cases h9 : 9 < s.size
  · have hn : Lx.numS s.data.toList = none := by unfold Lx.numS; rw [if_neg (by omega)]
    rw [hn]
    have h9' : decide ((9 : Int) < s.size) = true := by simp; omega
    clear hz hl h9 hn hd
    go_enter Tryz.func94, Tryz.ntmps94
    go_wp2_with fail
    go_ret2
    exact ⟨0, ⟨by omega, by omega⟩, by omega, by omega, (by rintro x ⟨⟩), rfl, Below.refl _ _⟩
  · have h9' : decide ((9 : Int) < s.size) = false := by simp; omega
    by_cases h0 : s.data.toList = [48]
    · have hn : Lx.numS s.data.toList = some 0 := by rw [h0]; rfl
      rw [hn]
      have hz0 : s.toList = [48] := hl.trans h0
      have HA := Lib.hid (show Lib.atoiAll s.data.toList = .ok 0 by rw [h0]; rfl)
      clear hz hl h9 hn hd h0
      go_enter Tryz.func94, Tryz.ntmps94
      go_wp2_with fail
      refine (atoi_ok HA.out _ hs).mono ?_
      rintro e w' ⟨rfl, hb⟩
      go_wp2_with fail
      go_quiet (fail)
      go_wp2_with fail
      go_ret2
      exact ⟨0, ⟨by omega, by omega⟩, by omega, by omega, (by rintro x ⟨⟩; rfl), rfl, bdrewN hb _⟩
    · have hz0 : ¬ s.toList = [48] := by rw [hl]; exact h0
      have hz1 : (s.toList == [48]) = false := by simpa using hz0
      by_cases hp : Lib.hasPrefix s.data.toList [48] = true
      · have hn : Lx.numS s.data.toList = none := by
          unfold Lx.numS
          rw [if_neg]
          rintro ⟨_, _, h | h⟩
          · exact h0 h
          · cases hc : s.data.toList with
            | nil => rw [hc] at hp; simp [Lib.hasPrefix] at hp
            | cons b t =>
              rw [hc] at hp h
              simp [Lib.hasPrefix, List.isPrefixOf] at hp
              exact h (by rw [← hp]; rfl)
        rw [hn]
        have HP := Lib.hid hp
        clear hz hl h9 hn hd h0 hp
        go_enter Tryz.func94, Tryz.ntmps94
        go_wp2_with fail
        refine (prefix_is HP.out _).mono ?_
        rintro e w' ⟨rfl, rfl⟩
        go_wp2_with fail
        go_ret2
        exact ⟨0, ⟨by omega, by omega⟩, by omega, by omega, (by rintro x ⟨⟩), rfl, Below.refl _ _⟩
      · have hp : Lib.hasPrefix s.data.toList [48] = false := by simpa using hp
        have HP := Lib.hid hp
        by_cases he : s.data.toList = []
        · have hn : Lx.numS s.data.toList = none := by rw [he]; rfl
          rw [hn]
          have HA := Lib.hid (show ∀ v, Lib.atoiAll s.data.toList ≠ .ok v by rw [he]; exact Lx.atoi_nil)
          have HT := Lib.hid hT
          clear hz hl h9 hn hd h0 hp he hT
          go_enter Tryz.func94, Tryz.ntmps94
          go_wp2_with fail
          refine (prefix_is HP.out _).mono ?_
          rintro e w' ⟨rfl, rfl⟩
          go_wp2_with fail
          refine (atoi_bad HA.out _ HT.out hs).mono ?_
          rintro e w' ⟨v, a, iv, rfl, hb⟩
          have HV := Lib.hid iv
          clear iv
          go_wp2_with fail
          go_quiet (fail)
          go_wp2_with fail
          go_ret2
          exact ⟨v, HV.out, by have := HV.out.1; omega, by have := HV.out.2; omega, (by rintro x ⟨⟩), rfl, bdrewN hb _⟩
        · have hn : Lx.numS s.data.toList = some (Lx.val s.data.toList : Int) := by
            unfold Lx.numS
            rw [if_pos]
            refine ⟨he, by omega, .inr ?_⟩
            cases hc : s.data.toList with
            | nil => exact absurd hc he
            | cons b t =>
              rw [hc] at hp
              intro h
              simp only [List.head?_cons, Option.some.injEq] at h
              subst h
              simp [Lib.hasPrefix, List.isPrefixOf] at hp
          rw [hn]
          have hv := Lx.val_bd hd
          have hpw : 10 ^ s.data.toList.length ≤ 10 ^ 9 := Nat.pow_le_pow_right (by decide) (by omega)
          have HA := Lib.hid (Lx.atoi_dig hd he (by omega))
          obtain ⟨v, hvv⟩ : ∃ v, Lx.val s.data.toList = v := ⟨_, rfl⟩
          rw [hvv] at HA hv ⊢
          have hvb : v < 1000000000 := by omega
          clear hz hl h9 hn hd h0 hp he hv hpw hvv
          go_enter Tryz.func94, Tryz.ntmps94
          go_wp2_with fail
          refine (prefix_is HP.out _).mono ?_
          rintro e w' ⟨rfl, rfl⟩
          go_wp2_with fail
          refine (atoi_ok HA.out _ hs).mono ?_
          rintro e w' ⟨rfl, hb⟩
          go_wp2_with fail
          go_quiet (fail)
          go_wp2_with fail
          go_ret2
          exact ⟨(v : Int), ⟨by omega, by omega⟩, by omega, by omega, (by rintro x ⟨⟩; rfl), rfl, bdrewN hb _⟩
end Go.Proofs.YtoohijffkbkikaaGreatDoor
