/- The law SpanLaws returns true for all lists. -/
import Derived.Test.YtnleelkdoagfcaaSpO
namespace Go.Proofs.Ytnleelkdoagfcaa
open Go.RowKit
set_option linter.unusedVariables false
set_option linter.unusedSimpArgs false

set_option maxHeartbeats 8000000 in
set_option maxRecDepth 100000 in
theorem laws_law (A : Option Addr) (n c : Nat) (zs : List Int) (w : World) (hA : IntsAt w A zs) (hn : zs.length = n) (hf : ∀ z ∈ zs, -9223372036854775808 ≤ z ∧ z ≤ 9223372036854775807) :
    Calls Try.prog 5 #[.slice A n c] w fun e w' => e = .returned (.bool true) ∧ Below w.heap.size w w' := by
  have HL := Light_any A n c w
  by_cases h5 : (n : Int) ≤ 500
  · rw [decide_eq_true h5] at HL
    have hD := Dice.start (c := c) hA hn (by omega) hf
    have hR := Roll_any A n c w
    have B1 := (Below.refl w.heap.size w).alloc (Nat.le_refl _) (.cells #[.slice A n c, .int .i64 0] 51)
    have hS := roll_set hD
    clear hA hn hf
    go_enter Try.func5, Try.ntmps5
    go_wp2_with fail
    refine HL.mono ?_
    rintro e w1 ⟨rfl, rfl⟩
    go_wp2_with fail
    refine hR.mono ?_
    rintro e w1 ⟨rfl, rfl⟩
    go_wp2_with fail
    refine hS.mono ?_
    rintro e w2 ⟨a, P, rfl, Ia, G2, D2⟩
    have B2 := below_of_grown B1 G2 (by simp) (Nat.le_refl _)
    clear hS hR HL hD G2 B1
    go_wp2_with fail
    refine (roll_set D2).mono ?_
    rintro e w3 ⟨b, Q, rfl, Ib, G3, D3⟩
    have B3 := below_of_grown B2 G3 B2.size (Nat.le_refl _)
    replace Ia := Ia.grown D2 G3
    clear G3 D2 B2
    go_wp2_with fail
    refine (roll_set D3).mono ?_
    rintro e w4 ⟨cc, R, rfl, Ic, G4, D4⟩
    have Bw := below_of_grown B3 G4 B3.size (Nat.le_refl _)
    replace Ia := Ia.grown D3 G4
    replace Ib := Ib.grown D3 G4
    clear G4 D3 D4 B3
    go_wp2_with fail
    refine (union_set Ia Ib).mono ?_
    rintro e w5 ⟨ab, rfl, Iab, b5⟩
    replace Ia := Ia.below b5
    replace Ib := Ib.below b5
    replace Ic := Ic.below b5
    replace Bw := bstep Bw b5
    clear b5
    go_wp2_with fail
    refine (union_set Ib Ia).mono ?_
    rintro e w6 ⟨ba, rfl, Iba, b6⟩
    replace Ia := Ia.below b6
    replace Ib := Ib.below b6
    replace Ic := Ic.below b6
    replace Iab := Iab.below b6
    replace Bw := bstep Bw b6
    clear b6
    go_wp2_with fail
    refine (union_set Ia Ic).mono ?_
    rintro e w7 ⟨ac, rfl, Iac, b7⟩
    replace Ia := Ia.below b7
    replace Ib := Ib.below b7
    replace Ic := Ic.below b7
    replace Iab := Iab.below b7
    replace Iba := Iba.below b7
    replace Bw := bstep Bw b7
    clear b7
    go_wp2_with fail
    refine (meet_set Ib Ic).mono ?_
    rintro e w8 ⟨bc, rfl, Ibc, b8⟩
    replace Ia := Ia.below b8
    replace Ib := Ib.below b8
    replace Iab := Iab.below b8
    replace Iba := Iba.below b8
    replace Iac := Iac.below b8
    replace Bw := bstep Bw b8
    clear b8
    go_wp2_with fail
    refine (meet_set Iab Iac).mono ?_
    rintro e w9 ⟨l, rfl, Il, b9⟩
    replace Ia := Ia.below b9
    replace Ib := Ib.below b9
    replace Iab := Iab.below b9
    replace Iba := Iba.below b9
    replace Ibc := Ibc.below b9
    replace Bw := bstep Bw b9
    clear b9
    go_wp2_with fail
    refine (union_set Ia Ibc).mono ?_
    rintro e w10 ⟨r, rfl, Ir, b10⟩
    replace Ia := Ia.below b10
    replace Ib := Ib.below b10
    replace Iab := Iab.below b10
    replace Iba := Iba.below b10
    replace Il := Il.below b10
    replace Bw := bstep Bw b10
    clear b10
    go_wp2_with fail
    refine (minus_set Ia Ib).mono ?_
    rintro e w11 ⟨x, rfl, Ix, b11⟩
    replace Ia := Ia.below b11
    replace Ib := Ib.below b11
    replace Iab := Iab.below b11
    replace Iba := Iba.below b11
    replace Il := Il.below b11
    replace Ir := Ir.below b11
    replace Bw := bstep Bw b11
    clear b11
    go_wp2_with fail
    refine (meet_set Ia Ib).mono ?_
    rintro e w12 ⟨y, rfl, Iy, b12⟩
    replace Ia := Ia.below b12
    replace Iab := Iab.below b12
    replace Iba := Iba.below b12
    replace Il := Il.below b12
    replace Ir := Ir.below b12
    replace Ix := Ix.below b12
    replace Bw := bstep Bw b12
    clear b12
    go_wp2_with fail
    refine (union_set Ix Iy).mono ?_
    rintro e w13 ⟨z, rfl, Iz, b13⟩
    replace Ia := Ia.below b13
    replace Iab := Iab.below b13
    replace Iba := Iba.below b13
    replace Il := Il.below b13
    replace Ir := Ir.below b13
    replace Bw := bstep Bw b13
    clear b13
    go_wp2_with fail
    refine (same_set Iab Iba (fun k => by cases P k <;> cases Q k <;> cases R k <;> rfl)).mono ?_
    rintro e w14 ⟨rfl, b14⟩
    replace Ia := Ia.below b14
    replace Il := Il.below b14
    replace Ir := Ir.below b14
    replace Iz := Iz.below b14
    replace Bw := bstep Bw b14
    clear b14
    go_wp2_with fail
    refine (same_set Il Ir (fun k => by cases P k <;> cases Q k <;> cases R k <;> rfl)).mono ?_
    rintro e w15 ⟨rfl, b15⟩
    replace Ia := Ia.below b15
    replace Iz := Iz.below b15
    replace Bw := bstep Bw b15
    clear b15
    go_wp2_with fail
    refine (same_set Iz Ia (fun k => by cases P k <;> cases Q k <;> cases R k <;> rfl)).mono ?_
    rintro e w16 ⟨rfl, b16⟩
    replace Bw := bstep Bw b16
    clear b16
    go_wp2_with fail
    refine (sane_any w16).mono ?_
    rintro e w17 ⟨rfl, b⟩
    replace Bw := bstep Bw b
    go_wp2_with fail
    go_ret
    exact ⟨rfl, Bw⟩
  · rw [decide_eq_false h5] at HL
    clear hA hn hf h5
    go_enter Try.func5, Try.ntmps5
    go_wp2_with fail
    refine HL.mono ?_
    rintro e w1 ⟨rfl, rfl⟩
    go_wp2_with fail
    refine (sane_any w).mono ?_
    rintro e w2 ⟨rfl, b2⟩
    go_wp2_with fail
    go_ret
    exact ⟨rfl, b2⟩
end Go.Proofs.Ytnleelkdoagfcaa
