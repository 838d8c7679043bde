/- The law SpanNext returns true for all lists and numbers. -/
import Derived.Test.YtnleelkdoagfcaaSpW
namespace Go.Proofs.Ytnleelkdoagfcaa
open Go.RowKit
set_option linter.unusedVariables false
set_option linter.unusedSimpArgs false

set_option maxHeartbeats 8000000 in
set_option maxRecDepth 100000 in
theorem next_law (A : Option Addr) (n c : Nat) (zs : List Int) (x : Int) (w : World) (hA : IntsAt w A zs) (hn : zs.length = n) (hf : ∀ z ∈ zs, -9223372036854775808 ≤ z ∧ z ≤ 9223372036854775807) (x1 : -9223372036854775808 ≤ x) (x2 : x ≤ 9223372036854775807) :
    Calls Try.prog 7 #[.slice A n c, .int .i64 x] w fun e w' => e = .returned (.bool true) ∧ Below w.heap.size w w' := by
  have HL := Light_any A n c w
  by_cases h5 : (n : Int) ≤ 500
  · rw [decide_eq_true h5] at HL
    have hD := Dice.start (c := c) hA hn (by omega) hf
    have hR := Roll_any A n c w
    have B1 := (Below.refl w.heap.size w).alloc (Nat.le_refl _) (.cells #[.slice A n c, .int .i64 0] 51)
    have hS := Set_any _ _ _ _ _ _ hD
    have hM := fun W => Mod_any x 80 W x1 x2 (by omega) (by omega)
    have y1 : 0 ≤ x % 80 ∧ x % 80 < 80 := by omega
    generalize x % 80 = y at hM y1
    obtain ⟨y1, y2⟩ := y1
    clear hA hn hf
    go_enter Try.func7, Try.ntmps7
    go_wp2_with fail
    refine HL.mono ?_
    rintro e w1 ⟨rfl, rfl⟩
    go_wp2_with fail
    refine hR.mono ?_
    rintro e w1 ⟨rfl, rfl⟩
    go_wp2_with fail
    refine hS.mono ?_
    rintro e w2 ⟨R, cr, r, rfl, SR, SM, G2, D2⟩
    have B2 := below_of_grown B1 G2 (by simp) (Nat.le_refl _)
    have HV := Lib.hid SM.1
    have hrl : r.length ≤ 9223372036854775807 := by have := ((Spn.vld_iff r).1 SM.1).1; omega
    obtain ⟨L, HLEN⟩ : ∃ L, Hid (r.length = L) := ⟨_, Lib.hid rfl⟩
    rw [HLEN.out] at hrl ⊢
    clear hS hR HL hD D2 G2 SM B1
    go_wp2_with fail
    refine (hM w2).mono ?_
    rintro e w3 ⟨rfl, rfl⟩
    go_wp2_with fail
    refine (First_any R L cr r y w2 SR HLEN.out hrl).mono ?_
    rintro e w3 ⟨rfl, b3⟩
    have B3 := bstep B2 b3
    have SR3 := SR.below b3
    clear b3 B2 SR hM
    go_wp2_with fail
    refine (Gap_any R L cr r y w3 SR3 HLEN.out hrl).mono ?_
    rintro e w4 ⟨rfl, b4⟩
    have B4 := bstep B3 b4
    have SR4 := SR3.below b4
    clear b4 B3 SR3
    have F1 : Hid (∀ k, y ≤ k → Spn.has r k = true → (Spn.fst r y).2 = true ∧ (Spn.fst r y).1 ≤ k) := Lib.hid fun k h1 h2 => Spn.first_le HV.out h2 h1
    have F2 : Hid (∀ k, y ≤ k → Spn.has r k = false → Spn.gap r y ≤ k) := Lib.hid fun k h1 h2 => Spn.gap_le HV.out h2 h1
    have F3 : Hid ((Spn.fst r y).2 = true → y ≤ (Spn.fst r y).1 ∧ Spn.has r (Spn.fst r y).1 = true) := Lib.hid fun h => Spn.first_in HV.out h
    have F4 := Lib.hid (Spn.gap_out (x := y) HV.out)
    obtain ⟨⟨m, ok⟩, HM⟩ : ∃ s : Int × Bool, Hid (Spn.fst r y = s) := ⟨_, Lib.hid rfl⟩
    obtain ⟨g, HG⟩ : ∃ g, Hid (Spn.gap r y = g) := ⟨_, Lib.hid rfl⟩
    rw [HM.out] at F1 F3 ⊢
    rw [HG.out] at F2 F4 ⊢
    go_wp2_with fail
    go_loopw [9] (fun i wr => ∃ k : Int, i = .int .i64 k ∧ y ≤ k ∧ k ≤ 80 ∧ SpansAt wr R r ∧ Below w.heap.size w wr) (fun i _ => 80 - (intOf i).toNat)
    case atStart => exact ⟨y, rfl, by omega, by omega, SR4, B4⟩
    case round =>
      clear SR4 B4
      obtain ⟨k, rfl, k1, k2, hS, hB⟩ := hrel
      by_cases hk : k < 80
      · have C1 := fun W h => Has_any R L cr r k W h HLEN.out hrl
        obtain ⟨b, HB⟩ : ∃ b, Hid (Spn.has r k = b) := ⟨_, Lib.hid rfl⟩
        rw [HB.out] at C1
        have HC := Lib.hid C1
        clear C1
        rcases b with _ | _
        · have hg := F2.out k k1 HB.out
          as_aux_lemma =>
          go_wp2_with fail
          refine (HC.out wr hS).mono ?_
          rintro e w5 ⟨rfl, b5⟩
          have hS5 := hS.below b5
          have hB5 := bstep hB b5
          clear b5
          go_wp2_with fail
          refine (HC.out w5 hS5).mono ?_
          rintro e w6 ⟨rfl, b6⟩
          have hS6 := hS5.below b6
          have hB6 := bstep hB5 b6
          clear b6 hS5 hB5
          go_wp2_with fail
          go_roundw
          case rel => exact ⟨k + 1, rfl, by omega, by omega, hS6, hB6⟩
          case measure => simp [intOf]; omega
        · obtain ⟨hok, hle⟩ := F1.out k k1 HB.out
          subst hok
          as_aux_lemma =>
          go_wp2_with fail
          refine (HC.out wr hS).mono ?_
          rintro e w5 ⟨rfl, b5⟩
          have hS5 := hS.below b5
          have hB5 := bstep hB b5
          clear b5
          go_wp2_with fail
          refine (HC.out w5 hS5).mono ?_
          rintro e w6 ⟨rfl, b6⟩
          have hS6 := hS5.below b6
          have hB6 := bstep hB5 b6
          clear b6 hS5 hB5
          go_wp2_with fail
          go_roundw
          case rel => exact ⟨k + 1, rfl, by omega, by omega, hS6, hB6⟩
          case measure => simp [intOf]; omega
      · obtain ⟨g1, g2⟩ := F4.out
        have CG := fun W h => Has_any R L cr r g W h HLEN.out hrl
        rw [g2] at CG
        have HCG := Lib.hid CG
        clear CG g2
        rcases ok with _ | _
        · as_aux_lemma =>
          go_wp2_with fail
          refine (HCG.out wr hS).mono ?_
          rintro e w5 ⟨rfl, b5⟩
          have hB5 := bstep hB b5
          go_wp2_with fail
          refine (sane_any w5).mono ?_
          rintro e w6 ⟨rfl, b6⟩
          have hB6 := bstep hB5 b6
          go_wp2_with fail
          go_ret
          exact ⟨rfl, hB6⟩
        · obtain ⟨m1, m2⟩ := F3.out rfl
          have CM := fun W h => Has_any R L cr r m W h HLEN.out hrl
          rw [m2] at CM
          have HCM := Lib.hid CM
          clear CM m2
          as_aux_lemma =>
          go_wp2_with fail
          refine (HCM.out wr hS).mono ?_
          rintro e w5 ⟨rfl, b5⟩
          have hB5 := bstep hB b5
          have hS5 := hS.below b5
          clear b5
          go_wp2_with fail
          refine (HCG.out w5 hS5).mono ?_
          rintro e w6 ⟨rfl, b6⟩
          have hB6 := bstep hB5 b6
          go_wp2_with fail
          refine (sane_any w6).mono ?_
          rintro e w7 ⟨rfl, b7⟩
          have hB7 := bstep hB6 b7
          go_wp2_with fail
          go_ret
          exact ⟨rfl, hB7⟩
  · rw [decide_eq_false h5] at HL
    clear hA hn hf h5
    go_enter Try.func7, Try.ntmps7
    go_wp2_with fail
    refine HL.mono ?_
    rintro e w1 ⟨rfl, rfl⟩
    go_wp2_with fail
    refine (sane_any w).mono ?_
    rintro e w2 ⟨rfl, b2⟩
    go_wp2_with fail
    go_ret
    exact ⟨rfl, b2⟩
end Go.Proofs.Ytnleelkdoagfcaa
