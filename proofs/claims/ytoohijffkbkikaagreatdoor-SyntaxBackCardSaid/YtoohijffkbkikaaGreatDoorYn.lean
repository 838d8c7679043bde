/- Package syntax: months, weekdays, ordinals. -/
import Derived.Test.YtoohijffkbkikaaGreatDoorYs
set_option maxRecDepth 100000
namespace Sy
open Go Go.Lib Go.Proofs.YtoohijffkbkikaaGreatDoor Lx
/-- The place of a word, from k on; -1 where it is not. -/
def idxS (x : List UInt8) : List (List UInt8) → Nat → Int
  | [], _ => -1
  | y :: r, k => if x = y then (k : Int) else idxS x r (k + 1)
theorem idx_bd (x : List UInt8) : ∀ (l : List (List UInt8)) (k : Nat), idxS x l k = -1 ∨ ((k : Int) ≤ idxS x l k ∧ idxS x l k < k + l.length)
  | [], k => .inl rfl
  | y :: r, k => by
    rw [idxS]
    by_cases h : x = y
    · rw [if_pos h]; right; simp; omega
    · rw [if_neg h]
      rcases idx_bd x r (k + 1) with e | ⟨a, c⟩
      · exact .inl e
      · right; simp at a c ⊢; omega
def posS (x : List UInt8) (l : List (List UInt8)) (first : Int) : Int × Bool := if idxS x l 0 < 0 then (0, false) else (first + idxS x l 0, true)
def monthsL : List (List UInt8) := [[106, 97, 110], [102, 101, 98], [109, 97, 114], [97, 112, 114], [109, 97, 121], [106, 117, 110], [106, 117, 108], [97, 117, 103], [115, 101, 112], [111, 99, 116], [110, 111, 118], [100, 101, 99]]
def daysL : List (List UInt8) := [[109, 111, 110], [116, 117, 101], [119, 101, 100], [116, 104, 117], [102, 114, 105], [115, 97, 116], [115, 117, 110]]
def ordsL : List (List UInt8) := [[102, 105, 114, 115, 116], [115, 101, 99, 111, 110, 100], [116, 104, 105, 114, 100], [102, 111, 117, 114, 116, 104], [108, 97, 115, 116]]
end Sy
namespace Go.Proofs.YtoohijffkbkikaaGreatDoor
open Go.RowKit
set_option linter.unusedVariables false
set_option linter.unusedSimpArgs false

theorem WordsAt.below {w w' : World} {b : Nat} {ws : List (List UInt8)} (h : WordsAt w b ws) (hb : Below w.heap.size w w') : WordsAt w' b ws := fun k x hx => cell_lift (h k x hx) hb
set_option maxHeartbeats 4000000 in
theorem index_words {x : List UInt8} {ws : List (List UInt8)} {R : Int} (hR : Sy.idxS x ws 0 = R) (b n c : Nat) (w : World) (hW : WordsAt w b ws) (hn : ws.length = n) (hs : n ≤ 1000) :
    Calls Tryz.prog 63 #[.slice (some ⟨b, 0, none⟩) n c, .string ⟨x.toArray⟩] w fun e w' => e = .returned (.int .i64 R) ∧ w = w' := by
  have HW := Lib.hid hW
  have HN := Lib.hid hn
  have HR0 : Hid (Sy.idxS x (ws.drop 0) 0 = R) := Lib.hid hR
  clear hW hn hR
  go_enter Tryz.func63, Tryz.ntmps63
  go_wp2_with fail
  go_loopw [8] (fun i wr => ∃ k : Nat, k ≤ n ∧ i = .int .i64 k ∧ Hid (Sy.idxS x (ws.drop k) k = R) ∧ w = wr) (fun i _ => n - (intOf i).toNat)
  case atStart => exact ⟨0, Nat.zero_le _, rfl, HR0, rfl⟩
  case round =>
    clear HR0
    obtain ⟨k, hk, rfl, HR, rfl⟩ := hrel
    by_cases hlt : k < n
    · obtain ⟨y, hy⟩ := get_ex (xs := ws) (i := k) (by rw [HN.out]; exact hlt)
      have c0 := HW.out k y hy
      have hst := HR.out
      rw [drop_cons' hy, Sy.idxS] at hst
      by_cases he : x = y
      · subst he
        have N := Lib.hid (show R = (k : Int) by rw [← hst, if_pos rfl])
        clear hst hy HR
        go_wp2_with fail
        go_ret
        rw [N.out]
        exact ⟨rfl, rfl⟩
      · have N := Lib.hid (show Sy.idxS x (ws.drop (k + 1)) (k + 1) = R by rw [← hst, if_neg he])
        have q1 : (x == y) = false := by simpa using he
        clear hst hy HR
        go_wp2_with fail
        go_roundw
        case rel => exact ⟨k + 1, by omega, by go_num, N, by first | rfl | trivial⟩
        case measure => simp [intOf]; omega
    · have N := Lib.hid (show R = -1 by rw [← HR.out, List.drop_of_length_le (by rw [HN.out]; omega)]; rfl)
      go_wp2_with fail
      go_ret
      rw [N.out]
      exact ⟨rfl, rfl⟩
set_option maxHeartbeats 4000000 in
theorem position_is {x a : List UInt8} {ws : List (List UInt8)} {first : Int} {p : Int × Bool} (hw : Lib.fields a = ws) (hp : Sy.posS x ws first = p) (ha : ∀ b ∈ a, b.toNat < 128) (hz : a.length ≤ 1000) (hws : ws.length ≤ 500) (h0 : 0 ≤ first) (h1 : first ≤ 1) (w : World) (hT : LexT w) :
    Calls Tryz.prog 43 #[.string ⟨x.toArray⟩, .string ⟨a.toArray⟩, .int .i64 first] w fun e w' => e = .returned (.tuple #[.int .i64 p.1, .bool p.2]) ∧ Below w.heap.size w w' := by
  have C := Lib.hid (fields_is hw w hT ha (by omega))
  obtain ⟨n, hn⟩ : ∃ n, ws.length = n := ⟨_, rfl⟩
  have HN := Lib.hid hn
  rw [hn] at hws
  obtain ⟨R, hR⟩ : ∃ R, Sy.idxS x ws 0 = R := ⟨_, rfl⟩
  have HR := Lib.hid hR
  have hbd := Sy.idx_bd x ws 0
  rw [hR, hn] at hbd
  have hpp : p = if R < 0 then (0, false) else (first + R, true) := by rw [← hp]; unfold Sy.posS; rw [hR]
  clear hw hp ha hz hR hn
  by_cases hneg : R < 0
  · rw [if_pos hneg] at hpp
    have e1 : decide (R < 0) = true := by simpa using hneg
    subst hpp
    go_enter Tryz.func43, Tryz.ntmps43
    go_wp2_with fail
    refine C.out.mono ?_
    rw [HN.out]
    rintro e w1 ⟨rfl, hwa, hlt, b1⟩
    go_wp2_with fail
    refine (index_words HR.out _ n n _ hwa HN.out (by omega)).mono ?_
    rintro e w2 ⟨rfl, rfl⟩
    go_wp2_with fail
    go_ret2
    exact ⟨rfl, b1⟩
  · rw [if_neg hneg] at hpp
    have e1 : decide (R < 0) = false := by simpa using hneg
    have i1 : 0 ≤ R ∧ R ≤ 500 := by omega
    obtain ⟨i2, i3⟩ := i1
    subst hpp
    go_enter Tryz.func43, Tryz.ntmps43
    go_wp2_with fail
    refine C.out.mono ?_
    rw [HN.out]
    rintro e w1 ⟨rfl, hwa, hlt, b1⟩
    go_wp2_with fail
    refine (index_words HR.out _ n n _ hwa HN.out (by omega)).mono ?_
    rintro e w2 ⟨rfl, rfl⟩
    go_wp2_with fail
    go_ret2
    exact ⟨rfl, b1⟩
theorem ascii_of {a : List UInt8} (h : (a.all fun b => decide (b.toNat < 128)) = true) : ∀ b ∈ a, b.toNat < 128 := fun b hb => by simpa using List.all_eq_true.1 h b hb
set_option maxHeartbeats 1000000 in
theorem month_is {x : List UInt8} {p : Int × Bool} (hp : Sy.posS x Sy.monthsL 1 = p) (w : World) (hT : LexT w) :
    Calls Tryz.prog 20 #[.string ⟨x.toArray⟩] w fun e w' => e = .returned (.tuple #[.int .i64 p.1, .bool p.2]) ∧ Below w.heap.size w w' := by
  have C := Lib.hid (position_is (x := x) (a := [106, 97, 110, 32, 102, 101, 98, 32, 109, 97, 114, 32, 97, 112, 114, 32, 109, 97, 121, 32, 106, 117, 110, 32, 106, 117, 108, 32, 97, 117, 103, 32, 115, 101, 112, 32, 111, 99, 116, 32, 110, 111, 118, 32, 100, 101, 99]) (ws := Sy.monthsL) (first := 1) (by kernel_rfl) hp (ascii_of (by kernel_rfl)) (by decide) (by decide) (by decide) (by decide) w hT)
  clear hp
  go_enter Tryz.func20, Tryz.ntmps20
  go_wp2_with fail
  refine C.out.mono ?_
  rintro e w1 ⟨rfl, b1⟩
  go_wp2_with fail
  go_ret2
  exact ⟨rfl, b1⟩
set_option maxHeartbeats 1000000 in
theorem weekday_is {x : List UInt8} {p : Int × Bool} (hp : Sy.posS x Sy.daysL 0 = p) (w : World) (hT : LexT w) :
    Calls Tryz.prog 22 #[.string ⟨x.toArray⟩] w fun e w' => e = .returned (.tuple #[.int .i64 p.1, .bool p.2]) ∧ Below w.heap.size w w' := by
  have C := Lib.hid (position_is (x := x) (a := [109, 111, 110, 32, 116, 117, 101, 32, 119, 101, 100, 32, 116, 104, 117, 32, 102, 114, 105, 32, 115, 97, 116, 32, 115, 117, 110]) (ws := Sy.daysL) (first := 0) (by kernel_rfl) hp (ascii_of (by kernel_rfl)) (by decide) (by decide) (by decide) (by decide) w hT)
  clear hp
  go_enter Tryz.func22, Tryz.ntmps22
  go_wp2_with fail
  refine C.out.mono ?_
  rintro e w1 ⟨rfl, b1⟩
  go_wp2_with fail
  go_ret2
  exact ⟨rfl, b1⟩
end Go.Proofs.YtoohijffkbkikaaGreatDoor
