/- The law LexerNumbers returns true for all numbers. -/
import Derived.Test.YtgihhhigjcgobaaGreatDoorLu
namespace Go.Proofs.YtgihhhigjcgobaaGreatDoor
open Go.RowKit
set_option linter.unusedVariables false
set_option linter.unusedSimpArgs false
set_option maxRecDepth 100000

theorem pick5 (N C D I O : Int) : ∀ k : Nat, k < 5 → ∃ K X : Int, ((K = 1 ∧ X = N) ∨ (K = 2 ∧ X = C) ∨ (K = 3 ∧ X = D) ∨ (K = 5 ∧ X = I) ∨ (K = 4 ∧ X = O)) ∧
    ∀ w, (Instr.index 48 (.agg #[.int .i64 1, .string ⟨#[]⟩, .int .i64 N, .int .i64 2, .string ⟨#[]⟩, .int .i64 C, .int .i64 3, .string ⟨#[]⟩, .int .i64 D, .int .i64 5, .string ⟨#[]⟩, .int .i64 I, .int .i64 4, .string ⟨#[]⟩, .int .i64 O]) (.int .i64 (k : Int))).run Tryz.prog w = .ok (.agg #[.int .i64 K, .string ⟨#[]⟩, .int .i64 X]) w := by
  intro k hk
  have : k = 0 ∨ k = 1 ∨ k = 2 ∨ k = 3 ∨ k = 4 := by omega
  rcases this with rfl | rfl | rfl | rfl | rfl
  · exact ⟨1, N, .inl ⟨rfl, rfl⟩, fun _ => by kernel_rfl⟩
  · exact ⟨2, C, .inr (.inl ⟨rfl, rfl⟩), fun _ => by kernel_rfl⟩
  · exact ⟨3, D, .inr (.inr (.inl ⟨rfl, rfl⟩)), fun _ => by kernel_rfl⟩
  · exact ⟨5, I, .inr (.inr (.inr (.inl ⟨rfl, rfl⟩))), fun _ => by kernel_rfl⟩
  · exact ⟨4, O, .inr (.inr (.inr (.inr ⟨rfl, rfl⟩))), fun _ => by kernel_rfl⟩

set_option maxHeartbeats 4000000 in
theorem numbers_any (n h m s d : Int) (w : World) (hT : LexT w) (i1 : I64 n) (i2 : I64 h) (i3 : I64 m) (i4 : I64 s) (i5 : I64 d) :
    Calls Tryz.prog 6 #[.int .i64 n, .int .i64 h, .int .i64 m, .int .i64 s, .int .i64 d] w fun e w' => e = .returned (.bool true) ∧ Below w.heap.size w w' := by
  obtain ⟨N, hN⟩ : ∃ N, n % 1000000000 = N := ⟨_, rfl⟩
  obtain ⟨H, hH⟩ : ∃ H, h % 24 = H := ⟨_, rfl⟩
  obtain ⟨M, hM⟩ : ∃ M, m % 60 = M := ⟨_, rfl⟩
  obtain ⟨S, hS⟩ : ∃ S, s % 60 = S := ⟨_, rfl⟩
  obtain ⟨D, hD⟩ : ∃ D, d % 98980 = D := ⟨_, rfl⟩
  have bN : 0 ≤ N ∧ N ≤ 999999999 := by omega
  have bH : 0 ≤ H ∧ H ≤ 23 := by omega
  have bM : 0 ≤ M ∧ M ≤ 59 := by omega
  have bS : 0 ≤ S ∧ S ≤ 59 := by omega
  have bD : 0 ≤ D ∧ D ≤ 98979 := by omega
  obtain ⟨H', hH'⟩ : ∃ H', H.tmod 18 = H' := ⟨_, rfl⟩
  have bH' : 0 ≤ H' ∧ H' ≤ 17 := by rw [← hH', Int.tmod_eq_emod_of_nonneg bH.1]; omega
  obtain ⟨C, hC⟩ : ∃ C, H * 3600 + M * 60 + S = C := ⟨_, rfl⟩
  obtain ⟨I, hI⟩ : ∃ I, D * 86400 + H * 3600 + M * 60 + S = I := ⟨_, rfl⟩
  obtain ⟨O, hO⟩ : ∃ O, H' * 3600 + M * 60 = O := ⟨_, rfl⟩
  have g1 : ∃ x, GoodTok 1 N x := ⟨_, (good_number bN.1 bN.2).1⟩
  have g2 : ∃ x, GoodTok 2 C x := ⟨_, (good_clock (n := C) (by omega) (by omega)).1⟩
  have g3 : ∃ x, GoodTok 3 D x := by obtain ⟨x, hx, _⟩ := good_date (n := D) (by omega) (by omega); exact ⟨x, hx⟩
  have g4 : ∃ x, GoodTok 5 I x := by obtain ⟨x, hx, _⟩ := good_instant (n := I) (by omega) (by omega); exact ⟨x, hx⟩
  have g5 : ∃ x, GoodTok 4 O x := ⟨_, (good_offset (n := O) (by omega) (by omega) (by omega)).1⟩
  have HP : Hid (∀ k : Nat, k < 5 → ∃ (K X : Int) (x : List UInt8), GoodTok K X x ∧ ∀ w, (Instr.index 48 (.agg #[.int .i64 1, .string ⟨#[]⟩, .int .i64 N, .int .i64 2, .string ⟨#[]⟩, .int .i64 C, .int .i64 3, .string ⟨#[]⟩, .int .i64 D, .int .i64 5, .string ⟨#[]⟩, .int .i64 I, .int .i64 4, .string ⟨#[]⟩, .int .i64 O]) (.int .i64 (k : Int))).run Tryz.prog w = .ok (.agg #[.int .i64 K, .string ⟨#[]⟩, .int .i64 X]) w) := by
    refine Lib.hid fun k hk => ?_
    obtain ⟨K, X, hh, hx⟩ := pick5 N C D I O k hk
    rcases hh with ⟨rfl, rfl⟩ | ⟨rfl, rfl⟩ | ⟨rfl, rfl⟩ | ⟨rfl, rfl⟩ | ⟨rfl, rfl⟩
    · obtain ⟨x, h⟩ := g1; exact ⟨_, _, x, h, hx⟩
    · obtain ⟨x, h⟩ := g2; exact ⟨_, _, x, h, hx⟩
    · obtain ⟨x, h⟩ := g3; exact ⟨_, _, x, h, hx⟩
    · obtain ⟨x, h⟩ := g4; exact ⟨_, _, x, h, hx⟩
    · obtain ⟨x, h⟩ := g5; exact ⟨_, _, x, h, hx⟩
  have J1 := Lib.hid i1
  have J2 := Lib.hid i2
  have J3 := Lib.hid i3
  have J4 := Lib.hid i4
  have J5 := Lib.hid i5
  have HT := Lib.hid hT
  have E1 := Lib.hid hN
  have E2 := Lib.hid hH
  have E3 := Lib.hid hM
  have E4 := Lib.hid hS
  have E5 := Lib.hid hD
  clear g1 g2 g3 g4 g5 i1 i2 i3 i4 i5 hT hN hH hM hS hD
  go_enter Tryz.func6, Tryz.ntmps6
  go_wp2_with fail
  refine (Mod_any n 1000000000 _ J1.out.1 J1.out.2 (by decide) (by decide)).mono ?_
  rw [E1.out]
  rintro e w' ⟨rfl, rfl⟩
  go_wp2_with fail
  refine (Mod_any h 24 _ J2.out.1 J2.out.2 (by decide) (by decide)).mono ?_
  rw [E2.out]
  rintro e w' ⟨rfl, rfl⟩
  go_wp2_with fail
  refine (Mod_any m 60 _ J3.out.1 J3.out.2 (by decide) (by decide)).mono ?_
  rw [E3.out]
  rintro e w' ⟨rfl, rfl⟩
  go_wp2_with fail
  refine (Mod_any s 60 _ J4.out.1 J4.out.2 (by decide) (by decide)).mono ?_
  rw [E4.out]
  rintro e w' ⟨rfl, rfl⟩
  go_wp2_with fail
  refine (Mod_any d 98980 _ J5.out.1 J5.out.2 (by decide) (by decide)).mono ?_
  rw [E5.out]
  rintro e w' ⟨rfl, rfl⟩
  go_wp2_with fail
  clear hC hI hO hH'
  go_loopw [58] (fun i wr => ∃ k : Nat, k ≤ 5 ∧ i = .int .i64 k ∧ Hid (Below w.heap.size w wr)) (fun i _ => 5 - (intOf i).toNat)
  case atStart => exact ⟨0, by omega, rfl, Lib.hid (Below.refl _ _)⟩
  case round =>
    obtain ⟨k, hk, rfl, HB⟩ := hrel
    by_cases hlt : k < 5
    · obtain ⟨K, X, x, hg, hx⟩ := HP.out k hlt
      have HG := Lib.hid hg
      have K0 := TokB.new wr K ⟨#[]⟩ X
      have B0 := HB.out.alloc HB.out.size (.cells #[.int .i64 K, .string ⟨#[]⟩, .int .i64 X] 23)
      have T0 := Lib.hid (HT.out.below B0)
      have ⟨k0, k1, k2, _, _, _⟩ := K0.cells
      clear hg
      go_wp2_with fail
      refine (text_good HG.out _ T0.out).mono ?_
      rintro e w1 ⟨rfl, b1⟩
      have B1 := bstep B0 b1
      have T1 := Lib.hid (HT.out.below B1)
      have K1 := K0.after b1
      clear b1 B0 K0 k0 k1 k2
      go_wp2_with fail
      refine (token_good HG.out _ T1.out).mono ?_
      rintro e w2 ⟨rfl, b2⟩
      have B2 := (bstep B1 b2).alloc (bstep B1 b2).size (.cells #[.int .i64 K, .string ⟨#[]⟩, .int .i64 X] 23)
      have K2 := K1.after b2
      clear b2 B1 K1
      have ⟨k0, k1, k2, _, _, _⟩ := K2.cells
      have hlt2 : wr.heap.size < w2.heap.size := K2.lt_
      go_wp2_with fail
      refine (name_is (s := ⟨x.toArray⟩) HG.out.noname _).mono ?_
      rintro e w3 ⟨rfl, b3⟩
      have HB3 := Lib.hid (bstep B2 b3)
      go_wp2_with fail
      go_roundw
      case rel => exact ⟨k + 1, by omega, by go_num, HB3⟩
      case measure => simp [intOf]; omega
    · have T0 := Lib.hid (HT.out.below HB.out)
      go_wp2_with fail
      refine (sane_any _ T0.out).mono ?_
      rintro e w1 ⟨rfl, b1⟩
      have HB1 := Lib.hid (bstep HB.out b1)
      go_wp2_with fail
      go_ret
      exact ⟨rfl, HB1.out⟩
end Go.Proofs.YtgihhhigjcgobaaGreatDoor
