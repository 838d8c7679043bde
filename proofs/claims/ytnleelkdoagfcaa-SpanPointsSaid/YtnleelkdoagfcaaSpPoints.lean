/- The law SpanPoints returns true for all lists. -/
import Derived.Test.YtnleelkdoagfcaaSpO
import Derived.IntWalk
namespace Go.Proofs.Ytnleelkdoagfcaa
open Go.RowKit
set_option linter.unusedVariables false
set_option linter.unusedSimpArgs false
theorem has_set' {w : World} {v : Value} {P : Int → Bool} (h : IsSet w v P) (x : Int) (b : Bool) (e : P x = b) : Calls Try.prog 28 #[v, .int .i64 x] w fun e w' => e = .returned (.bool b) ∧ Below w.heap.size w w' := by
  subst e; exact has_set h x
theorem length_set' {w : World} {v : Value} {P : Int → Bool} {n : Int} (h : IsSet w v P) (e : Hid (Spn.many P 80 = n)) : Calls Try.prog 17 #[v] w fun e w' => e = .returned (.int .i64 n) ∧ Below w.heap.size w w' := by
  have := length_set h
  rwa [e.out] at this

set_option maxHeartbeats 8000000 in
set_option maxRecDepth 100000 in
theorem points_law (A : Option Addr) (n c : Nat) (zs : List Int) (w : World) (hA : IntsAt w A zs) (hn : zs.length = n) (hf : ∀ z ∈ zs, -9223372036854775808 ≤ z ∧ z ≤ 9223372036854775807) :
    Calls Try.prog 4 #[.slice A n c] w fun e w' => e = .returned (.bool true) ∧ Below w.heap.size w w' := by
  have HL := Light_any A n c w
  by_cases h5 : (n : Int) ≤ 500
  · rw [decide_eq_true h5] at HL
    have hD := Dice.start (c := c) hA hn (by omega) hf
    have hR := Roll_any A n c w
    have B1 := (Below.refl w.heap.size w).alloc (Nat.le_refl _) (.cells #[.slice A n c, .int .i64 0] 51)
    have hS := roll_set hD
    clear hA hn hf
    go_enter Try.func4, Try.ntmps4
    go_wp2_with fail
    refine HL.mono ?_
    rintro e w1 ⟨rfl, rfl⟩
    go_wp2_with fail
    refine hR.mono ?_
    rintro e w1 ⟨rfl, rfl⟩
    go_wp2_with fail
    refine hS.mono ?_
    rintro e w2 ⟨a, P, rfl, Ia, G2, D2⟩
    have B2 := below_of_grown B1 G2 (by simp) (Nat.le_refl _)
    clear hS hR HL hD G2 B1
    go_wp2_with fail
    refine (roll_set D2).mono ?_
    rintro e w3 ⟨b, Q, rfl, Ib, G3, D3⟩
    have Bw := below_of_grown B2 G3 B2.size (Nat.le_refl _)
    replace Ia := Ia.grown D2 G3
    clear G3 D2 B2 D3
    go_wp2_with fail
    refine (union_set Ia Ib).mono ?_
    rintro e w4 ⟨u, rfl, Iu, b4⟩
    replace Ia := Ia.below b4
    replace Ib := Ib.below b4
    replace Bw := bstep Bw b4
    clear b4
    go_wp2_with fail
    refine (meet_set Ia Ib).mono ?_
    rintro e w5 ⟨m, rfl, Im, b5⟩
    replace Ia := Ia.below b5
    replace Ib := Ib.below b5
    replace Iu := Iu.below b5
    replace Bw := bstep Bw b5
    clear b5
    go_wp2_with fail
    refine (minus_set Ia Ib).mono ?_
    rintro e w6 ⟨x, rfl, Ix, b6⟩
    replace Ia := Ia.below b6
    replace Ib := Ib.below b6
    replace Iu := Iu.below b6
    replace Im := Im.below b6
    replace Bw := bstep Bw b6
    clear b6
    go_wp2_with fail
    refine (clip_set Ia 10 40).mono ?_
    rintro e w7 ⟨cc, rfl, Ic, b7⟩
    replace Ia := Ia.below b7
    replace Ib := Ib.below b7
    replace Iu := Iu.below b7
    replace Im := Im.below b7
    replace Ix := Ix.below b7
    replace Bw := bstep Bw b7
    clear b7
    have hu : Hid (∀ k, (fun x => P x || Q x) k = (P k || Q k)) := Lib.hid fun k => rfl
    have hm : Hid (∀ k, (fun x => P x && Q x) k = (P k && Q k)) := Lib.hid fun k => rfl
    have hx : Hid (∀ k, (fun x => P x && !Q x) k = (P k && !Q k)) := Lib.hid fun k => rfl
    have hc : Hid (∀ k, (fun x => P x && decide (10 ≤ x) && decide (x < 40)) k = (P k && decide (10 ≤ k) && decide (k < 40))) := Lib.hid fun k => rfl
    have hs1 := Lib.hid (Spn.many_or P Q 80)
    have hs2 := Lib.hid (Spn.many_minus P Q 80)
    generalize (fun x => P x || Q x) = U at *
    generalize (fun x => P x && Q x) = M at *
    generalize (fun x => P x && !Q x) = X at *
    generalize (fun x => P x && decide (10 ≤ x) && decide (x < 40)) = K at *
    go_wp2_with fail
    refine (valid_set Iu).mono ?_
    rintro e w8 ⟨rfl, b8⟩
    replace Ia := Ia.below b8
    replace Ib := Ib.below b8
    replace Iu := Iu.below b8
    replace Im := Im.below b8
    replace Ix := Ix.below b8
    replace Ic := Ic.below b8
    replace Bw := bstep Bw b8
    clear b8
    go_wp2_with fail
    refine (valid_set Im).mono ?_
    rintro e w9 ⟨rfl, b9⟩
    replace Ia := Ia.below b9
    replace Ib := Ib.below b9
    replace Iu := Iu.below b9
    replace Im := Im.below b9
    replace Ix := Ix.below b9
    replace Ic := Ic.below b9
    replace Bw := bstep Bw b9
    clear b9
    go_wp2_with fail
    refine (valid_set Ix).mono ?_
    rintro e w10 ⟨rfl, b10⟩
    replace Ia := Ia.below b10
    replace Ib := Ib.below b10
    replace Iu := Iu.below b10
    replace Im := Im.below b10
    replace Ix := Ix.below b10
    replace Ic := Ic.below b10
    replace Bw := bstep Bw b10
    clear b10
    go_wp2_with fail
    refine (valid_set Ic).mono ?_
    rintro e w11 ⟨rfl, b11⟩
    replace Ia := Ia.below b11
    replace Ib := Ib.below b11
    replace Iu := Iu.below b11
    replace Im := Im.below b11
    replace Ix := Ix.below b11
    replace Ic := Ic.below b11
    replace Bw := bstep Bw b11
    clear b11
    go_wp2_with fail
    go_loopw [14] (fun i wr => ∃ k : Int, i = .int .i64 k ∧ 0 ≤ k ∧ k ≤ 80 ∧ IsSet wr a P ∧ IsSet wr b Q ∧ IsSet wr u U ∧ IsSet wr m M ∧ IsSet wr x X ∧ IsSet wr cc K ∧ Below w.heap.size w wr) (fun i _ => 80 - (intOf i).toNat)
    case atStart => exact ⟨0, rfl, by omega, by omega, Ia, Ib, Iu, Im, Ix, Ic, Bw⟩
    case round =>
      clear Ia Ib Iu Im Ix Ic Bw
      obtain ⟨k, rfl, k1, k2, Ia, Ib, Iu, Im, Ix, Ic, Bw⟩ := hrel
      by_cases hk : k < 80
      · obtain ⟨p, HP⟩ : ∃ p, Hid (P k = p) := ⟨_, Lib.hid rfl⟩
        obtain ⟨q, HQ⟩ : ∃ q, Hid (Q k = q) := ⟨_, Lib.hid rfl⟩
        rcases p with _ | _
        · rcases q with _ | _
          · have ec : Hid (K k = false) := Lib.hid (by rw [hc.out, HP.out]; rfl)
            as_aux_lemma =>
            go_wp2_with fail
            refine (has_set' Ia k false (HP.out)).mono ?_
            rintro e w21 ⟨rfl, b21⟩
            replace Ia := Ia.below b21
            replace Ib := Ib.below b21
            replace Iu := Iu.below b21
            replace Im := Im.below b21
            replace Ix := Ix.below b21
            replace Ic := Ic.below b21
            replace Bw := bstep Bw b21
            clear b21
            go_wp2_with fail
            refine (has_set' Ib k false (HQ.out)).mono ?_
            rintro e w22 ⟨rfl, b22⟩
            replace Ia := Ia.below b22
            replace Ib := Ib.below b22
            replace Iu := Iu.below b22
            replace Im := Im.below b22
            replace Ix := Ix.below b22
            replace Ic := Ic.below b22
            replace Bw := bstep Bw b22
            clear b22
            go_wp2_with fail
            refine (has_set' Iu k false (by rw [hu.out, HP.out, HQ.out]; rfl)).mono ?_
            rintro e w23 ⟨rfl, b23⟩
            replace Ia := Ia.below b23
            replace Ib := Ib.below b23
            replace Iu := Iu.below b23
            replace Im := Im.below b23
            replace Ix := Ix.below b23
            replace Ic := Ic.below b23
            replace Bw := bstep Bw b23
            clear b23
            go_wp2_with fail
            refine (has_set' Im k false (by rw [hm.out, HP.out, HQ.out]; rfl)).mono ?_
            rintro e w24 ⟨rfl, b24⟩
            replace Ia := Ia.below b24
            replace Ib := Ib.below b24
            replace Iu := Iu.below b24
            replace Im := Im.below b24
            replace Ix := Ix.below b24
            replace Ic := Ic.below b24
            replace Bw := bstep Bw b24
            clear b24
            go_wp2_with fail
            refine (has_set' Ix k false (by rw [hx.out, HP.out, HQ.out]; rfl)).mono ?_
            rintro e w25 ⟨rfl, b25⟩
            replace Ia := Ia.below b25
            replace Ib := Ib.below b25
            replace Iu := Iu.below b25
            replace Im := Im.below b25
            replace Ix := Ix.below b25
            replace Ic := Ic.below b25
            replace Bw := bstep Bw b25
            clear b25
            go_wp2_with fail
            refine (has_set' Ic k false (ec.out)).mono ?_
            rintro e w26 ⟨rfl, b26⟩
            replace Ia := Ia.below b26
            replace Ib := Ib.below b26
            replace Iu := Iu.below b26
            replace Im := Im.below b26
            replace Ix := Ix.below b26
            replace Ic := Ic.below b26
            replace Bw := bstep Bw b26
            clear b26
            go_wp2_with fail
            go_roundw
            case rel => exact ⟨k + 1, rfl, by omega, by omega, Ia, Ib, Iu, Im, Ix, Ic, Bw⟩
            case measure => simp [intOf]; omega
          · have ec : Hid (K k = false) := Lib.hid (by rw [hc.out, HP.out]; rfl)
            as_aux_lemma =>
            go_wp2_with fail
            refine (has_set' Ia k false (HP.out)).mono ?_
            rintro e w21 ⟨rfl, b21⟩
            replace Ia := Ia.below b21
            replace Ib := Ib.below b21
            replace Iu := Iu.below b21
            replace Im := Im.below b21
            replace Ix := Ix.below b21
            replace Ic := Ic.below b21
            replace Bw := bstep Bw b21
            clear b21
            go_wp2_with fail
            refine (has_set' Ib k true (HQ.out)).mono ?_
            rintro e w22 ⟨rfl, b22⟩
            replace Ia := Ia.below b22
            replace Ib := Ib.below b22
            replace Iu := Iu.below b22
            replace Im := Im.below b22
            replace Ix := Ix.below b22
            replace Ic := Ic.below b22
            replace Bw := bstep Bw b22
            clear b22
            go_wp2_with fail
            refine (has_set' Iu k true (by rw [hu.out, HP.out, HQ.out]; rfl)).mono ?_
            rintro e w23 ⟨rfl, b23⟩
            replace Ia := Ia.below b23
            replace Ib := Ib.below b23
            replace Iu := Iu.below b23
            replace Im := Im.below b23
            replace Ix := Ix.below b23
            replace Ic := Ic.below b23
            replace Bw := bstep Bw b23
            clear b23
            go_wp2_with fail
            refine (has_set' Im k false (by rw [hm.out, HP.out, HQ.out]; rfl)).mono ?_
            rintro e w24 ⟨rfl, b24⟩
            replace Ia := Ia.below b24
            replace Ib := Ib.below b24
            replace Iu := Iu.below b24
            replace Im := Im.below b24
            replace Ix := Ix.below b24
            replace Ic := Ic.below b24
            replace Bw := bstep Bw b24
            clear b24
            go_wp2_with fail
            refine (has_set' Ix k false (by rw [hx.out, HP.out, HQ.out]; rfl)).mono ?_
            rintro e w25 ⟨rfl, b25⟩
            replace Ia := Ia.below b25
            replace Ib := Ib.below b25
            replace Iu := Iu.below b25
            replace Im := Im.below b25
            replace Ix := Ix.below b25
            replace Ic := Ic.below b25
            replace Bw := bstep Bw b25
            clear b25
            go_wp2_with fail
            refine (has_set' Ic k false (ec.out)).mono ?_
            rintro e w26 ⟨rfl, b26⟩
            replace Ia := Ia.below b26
            replace Ib := Ib.below b26
            replace Iu := Iu.below b26
            replace Im := Im.below b26
            replace Ix := Ix.below b26
            replace Ic := Ic.below b26
            replace Bw := bstep Bw b26
            clear b26
            go_wp2_with fail
            go_roundw
            case rel => exact ⟨k + 1, rfl, by omega, by omega, Ia, Ib, Iu, Im, Ix, Ic, Bw⟩
            case measure => simp [intOf]; omega
        · rcases q with _ | _
          · by_cases h10 : 10 ≤ k
            · by_cases h40 : k < 40
              · have ec : Hid (K k = true) := Lib.hid (by rw [hc.out, HP.out, decide_eq_true h10, decide_eq_true h40]; rfl)
                as_aux_lemma =>
                go_wp2_with fail
                refine (has_set' Ia k true (HP.out)).mono ?_
                rintro e w21 ⟨rfl, b21⟩
                replace Ia := Ia.below b21
                replace Ib := Ib.below b21
                replace Iu := Iu.below b21
                replace Im := Im.below b21
                replace Ix := Ix.below b21
                replace Ic := Ic.below b21
                replace Bw := bstep Bw b21
                clear b21
                go_wp2_with fail
                refine (has_set' Ib k false (HQ.out)).mono ?_
                rintro e w22 ⟨rfl, b22⟩
                replace Ia := Ia.below b22
                replace Ib := Ib.below b22
                replace Iu := Iu.below b22
                replace Im := Im.below b22
                replace Ix := Ix.below b22
                replace Ic := Ic.below b22
                replace Bw := bstep Bw b22
                clear b22
                go_wp2_with fail
                refine (has_set' Iu k true (by rw [hu.out, HP.out, HQ.out]; rfl)).mono ?_
                rintro e w23 ⟨rfl, b23⟩
                replace Ia := Ia.below b23
                replace Ib := Ib.below b23
                replace Iu := Iu.below b23
                replace Im := Im.below b23
                replace Ix := Ix.below b23
                replace Ic := Ic.below b23
                replace Bw := bstep Bw b23
                clear b23
                go_wp2_with fail
                refine (has_set' Im k false (by rw [hm.out, HP.out, HQ.out]; rfl)).mono ?_
                rintro e w24 ⟨rfl, b24⟩
                replace Ia := Ia.below b24
                replace Ib := Ib.below b24
                replace Iu := Iu.below b24
                replace Im := Im.below b24
                replace Ix := Ix.below b24
                replace Ic := Ic.below b24
                replace Bw := bstep Bw b24
                clear b24
                go_wp2_with fail
                refine (has_set' Ix k true (by rw [hx.out, HP.out, HQ.out]; rfl)).mono ?_
                rintro e w25 ⟨rfl, b25⟩
                replace Ia := Ia.below b25
                replace Ib := Ib.below b25
                replace Iu := Iu.below b25
                replace Im := Im.below b25
                replace Ix := Ix.below b25
                replace Ic := Ic.below b25
                replace Bw := bstep Bw b25
                clear b25
                go_wp2_with fail
                refine (has_set' Ic k true (ec.out)).mono ?_
                rintro e w26 ⟨rfl, b26⟩
                replace Ia := Ia.below b26
                replace Ib := Ib.below b26
                replace Iu := Iu.below b26
                replace Im := Im.below b26
                replace Ix := Ix.below b26
                replace Ic := Ic.below b26
                replace Bw := bstep Bw b26
                clear b26
                go_wp2_with fail
                go_roundw
                case rel => exact ⟨k + 1, rfl, by omega, by omega, Ia, Ib, Iu, Im, Ix, Ic, Bw⟩
                case measure => simp [intOf]; omega
              · have ec : Hid (K k = false) := Lib.hid (by rw [hc.out, HP.out, decide_eq_true h10, decide_eq_false h40]; rfl)
                as_aux_lemma =>
                go_wp2_with fail
                refine (has_set' Ia k true (HP.out)).mono ?_
                rintro e w21 ⟨rfl, b21⟩
                replace Ia := Ia.below b21
                replace Ib := Ib.below b21
                replace Iu := Iu.below b21
                replace Im := Im.below b21
                replace Ix := Ix.below b21
                replace Ic := Ic.below b21
                replace Bw := bstep Bw b21
                clear b21
                go_wp2_with fail
                refine (has_set' Ib k false (HQ.out)).mono ?_
                rintro e w22 ⟨rfl, b22⟩
                replace Ia := Ia.below b22
                replace Ib := Ib.below b22
                replace Iu := Iu.below b22
                replace Im := Im.below b22
                replace Ix := Ix.below b22
                replace Ic := Ic.below b22
                replace Bw := bstep Bw b22
                clear b22
                go_wp2_with fail
                refine (has_set' Iu k true (by rw [hu.out, HP.out, HQ.out]; rfl)).mono ?_
                rintro e w23 ⟨rfl, b23⟩
                replace Ia := Ia.below b23
                replace Ib := Ib.below b23
                replace Iu := Iu.below b23
                replace Im := Im.below b23
                replace Ix := Ix.below b23
                replace Ic := Ic.below b23
                replace Bw := bstep Bw b23
                clear b23
                go_wp2_with fail
                refine (has_set' Im k false (by rw [hm.out, HP.out, HQ.out]; rfl)).mono ?_
                rintro e w24 ⟨rfl, b24⟩
                replace Ia := Ia.below b24
                replace Ib := Ib.below b24
                replace Iu := Iu.below b24
                replace Im := Im.below b24
                replace Ix := Ix.below b24
                replace Ic := Ic.below b24
                replace Bw := bstep Bw b24
                clear b24
                go_wp2_with fail
                refine (has_set' Ix k true (by rw [hx.out, HP.out, HQ.out]; rfl)).mono ?_
                rintro e w25 ⟨rfl, b25⟩
                replace Ia := Ia.below b25
                replace Ib := Ib.below b25
                replace Iu := Iu.below b25
                replace Im := Im.below b25
                replace Ix := Ix.below b25
                replace Ic := Ic.below b25
                replace Bw := bstep Bw b25
                clear b25
                go_wp2_with fail
                refine (has_set' Ic k false (ec.out)).mono ?_
                rintro e w26 ⟨rfl, b26⟩
                replace Ia := Ia.below b26
                replace Ib := Ib.below b26
                replace Iu := Iu.below b26
                replace Im := Im.below b26
                replace Ix := Ix.below b26
                replace Ic := Ic.below b26
                replace Bw := bstep Bw b26
                clear b26
                go_wp2_with fail
                go_roundw
                case rel => exact ⟨k + 1, rfl, by omega, by omega, Ia, Ib, Iu, Im, Ix, Ic, Bw⟩
                case measure => simp [intOf]; omega
            · have ec : Hid (K k = false) := Lib.hid (by rw [hc.out, HP.out, decide_eq_false h10]; rfl)
              as_aux_lemma =>
              go_wp2_with fail
              refine (has_set' Ia k true (HP.out)).mono ?_
              rintro e w21 ⟨rfl, b21⟩
              replace Ia := Ia.below b21
              replace Ib := Ib.below b21
              replace Iu := Iu.below b21
              replace Im := Im.below b21
              replace Ix := Ix.below b21
              replace Ic := Ic.below b21
              replace Bw := bstep Bw b21
              clear b21
              go_wp2_with fail
              refine (has_set' Ib k false (HQ.out)).mono ?_
              rintro e w22 ⟨rfl, b22⟩
              replace Ia := Ia.below b22
              replace Ib := Ib.below b22
              replace Iu := Iu.below b22
              replace Im := Im.below b22
              replace Ix := Ix.below b22
              replace Ic := Ic.below b22
              replace Bw := bstep Bw b22
              clear b22
              go_wp2_with fail
              refine (has_set' Iu k true (by rw [hu.out, HP.out, HQ.out]; rfl)).mono ?_
              rintro e w23 ⟨rfl, b23⟩
              replace Ia := Ia.below b23
              replace Ib := Ib.below b23
              replace Iu := Iu.below b23
              replace Im := Im.below b23
              replace Ix := Ix.below b23
              replace Ic := Ic.below b23
              replace Bw := bstep Bw b23
              clear b23
              go_wp2_with fail
              refine (has_set' Im k false (by rw [hm.out, HP.out, HQ.out]; rfl)).mono ?_
              rintro e w24 ⟨rfl, b24⟩
              replace Ia := Ia.below b24
              replace Ib := Ib.below b24
              replace Iu := Iu.below b24
              replace Im := Im.below b24
              replace Ix := Ix.below b24
              replace Ic := Ic.below b24
              replace Bw := bstep Bw b24
              clear b24
              go_wp2_with fail
              refine (has_set' Ix k true (by rw [hx.out, HP.out, HQ.out]; rfl)).mono ?_
              rintro e w25 ⟨rfl, b25⟩
              replace Ia := Ia.below b25
              replace Ib := Ib.below b25
              replace Iu := Iu.below b25
              replace Im := Im.below b25
              replace Ix := Ix.below b25
              replace Ic := Ic.below b25
              replace Bw := bstep Bw b25
              clear b25
              go_wp2_with fail
              refine (has_set' Ic k false (ec.out)).mono ?_
              rintro e w26 ⟨rfl, b26⟩
              replace Ia := Ia.below b26
              replace Ib := Ib.below b26
              replace Iu := Iu.below b26
              replace Im := Im.below b26
              replace Ix := Ix.below b26
              replace Ic := Ic.below b26
              replace Bw := bstep Bw b26
              clear b26
              go_wp2_with fail
              go_roundw
              case rel => exact ⟨k + 1, rfl, by omega, by omega, Ia, Ib, Iu, Im, Ix, Ic, Bw⟩
              case measure => simp [intOf]; omega
          · by_cases h10 : 10 ≤ k
            · by_cases h40 : k < 40
              · have ec : Hid (K k = true) := Lib.hid (by rw [hc.out, HP.out, decide_eq_true h10, decide_eq_true h40]; rfl)
                as_aux_lemma =>
                go_wp2_with fail
                refine (has_set' Ia k true (HP.out)).mono ?_
                rintro e w21 ⟨rfl, b21⟩
                replace Ia := Ia.below b21
                replace Ib := Ib.below b21
                replace Iu := Iu.below b21
                replace Im := Im.below b21
                replace Ix := Ix.below b21
                replace Ic := Ic.below b21
                replace Bw := bstep Bw b21
                clear b21
                go_wp2_with fail
                refine (has_set' Ib k true (HQ.out)).mono ?_
                rintro e w22 ⟨rfl, b22⟩
                replace Ia := Ia.below b22
                replace Ib := Ib.below b22
                replace Iu := Iu.below b22
                replace Im := Im.below b22
                replace Ix := Ix.below b22
                replace Ic := Ic.below b22
                replace Bw := bstep Bw b22
                clear b22
                go_wp2_with fail
                refine (has_set' Iu k true (by rw [hu.out, HP.out, HQ.out]; rfl)).mono ?_
                rintro e w23 ⟨rfl, b23⟩
                replace Ia := Ia.below b23
                replace Ib := Ib.below b23
                replace Iu := Iu.below b23
                replace Im := Im.below b23
                replace Ix := Ix.below b23
                replace Ic := Ic.below b23
                replace Bw := bstep Bw b23
                clear b23
                go_wp2_with fail
                refine (has_set' Im k true (by rw [hm.out, HP.out, HQ.out]; rfl)).mono ?_
                rintro e w24 ⟨rfl, b24⟩
                replace Ia := Ia.below b24
                replace Ib := Ib.below b24
                replace Iu := Iu.below b24
                replace Im := Im.below b24
                replace Ix := Ix.below b24
                replace Ic := Ic.below b24
                replace Bw := bstep Bw b24
                clear b24
                go_wp2_with fail
                refine (has_set' Ix k false (by rw [hx.out, HP.out, HQ.out]; rfl)).mono ?_
                rintro e w25 ⟨rfl, b25⟩
                replace Ia := Ia.below b25
                replace Ib := Ib.below b25
                replace Iu := Iu.below b25
                replace Im := Im.below b25
                replace Ix := Ix.below b25
                replace Ic := Ic.below b25
                replace Bw := bstep Bw b25
                clear b25
                go_wp2_with fail
                refine (has_set' Ic k true (ec.out)).mono ?_
                rintro e w26 ⟨rfl, b26⟩
                replace Ia := Ia.below b26
                replace Ib := Ib.below b26
                replace Iu := Iu.below b26
                replace Im := Im.below b26
                replace Ix := Ix.below b26
                replace Ic := Ic.below b26
                replace Bw := bstep Bw b26
                clear b26
                go_wp2_with fail
                go_roundw
                case rel => exact ⟨k + 1, rfl, by omega, by omega, Ia, Ib, Iu, Im, Ix, Ic, Bw⟩
                case measure => simp [intOf]; omega
              · have ec : Hid (K k = false) := Lib.hid (by rw [hc.out, HP.out, decide_eq_true h10, decide_eq_false h40]; rfl)
                as_aux_lemma =>
                go_wp2_with fail
                refine (has_set' Ia k true (HP.out)).mono ?_
                rintro e w21 ⟨rfl, b21⟩
                replace Ia := Ia.below b21
                replace Ib := Ib.below b21
                replace Iu := Iu.below b21
                replace Im := Im.below b21
                replace Ix := Ix.below b21
                replace Ic := Ic.below b21
                replace Bw := bstep Bw b21
                clear b21
                go_wp2_with fail
                refine (has_set' Ib k true (HQ.out)).mono ?_
                rintro e w22 ⟨rfl, b22⟩
                replace Ia := Ia.below b22
                replace Ib := Ib.below b22
                replace Iu := Iu.below b22
                replace Im := Im.below b22
                replace Ix := Ix.below b22
                replace Ic := Ic.below b22
                replace Bw := bstep Bw b22
                clear b22
                go_wp2_with fail
                refine (has_set' Iu k true (by rw [hu.out, HP.out, HQ.out]; rfl)).mono ?_
                rintro e w23 ⟨rfl, b23⟩
                replace Ia := Ia.below b23
                replace Ib := Ib.below b23
                replace Iu := Iu.below b23
                replace Im := Im.below b23
                replace Ix := Ix.below b23
                replace Ic := Ic.below b23
                replace Bw := bstep Bw b23
                clear b23
                go_wp2_with fail
                refine (has_set' Im k true (by rw [hm.out, HP.out, HQ.out]; rfl)).mono ?_
                rintro e w24 ⟨rfl, b24⟩
                replace Ia := Ia.below b24
                replace Ib := Ib.below b24
                replace Iu := Iu.below b24
                replace Im := Im.below b24
                replace Ix := Ix.below b24
                replace Ic := Ic.below b24
                replace Bw := bstep Bw b24
                clear b24
                go_wp2_with fail
                refine (has_set' Ix k false (by rw [hx.out, HP.out, HQ.out]; rfl)).mono ?_
                rintro e w25 ⟨rfl, b25⟩
                replace Ia := Ia.below b25
                replace Ib := Ib.below b25
                replace Iu := Iu.below b25
                replace Im := Im.below b25
                replace Ix := Ix.below b25
                replace Ic := Ic.below b25
                replace Bw := bstep Bw b25
                clear b25
                go_wp2_with fail
                refine (has_set' Ic k false (ec.out)).mono ?_
                rintro e w26 ⟨rfl, b26⟩
                replace Ia := Ia.below b26
                replace Ib := Ib.below b26
                replace Iu := Iu.below b26
                replace Im := Im.below b26
                replace Ix := Ix.below b26
                replace Ic := Ic.below b26
                replace Bw := bstep Bw b26
                clear b26
                go_wp2_with fail
                go_roundw
                case rel => exact ⟨k + 1, rfl, by omega, by omega, Ia, Ib, Iu, Im, Ix, Ic, Bw⟩
                case measure => simp [intOf]; omega
            · have ec : Hid (K k = false) := Lib.hid (by rw [hc.out, HP.out, decide_eq_false h10]; rfl)
              as_aux_lemma =>
              go_wp2_with fail
              refine (has_set' Ia k true (HP.out)).mono ?_
              rintro e w21 ⟨rfl, b21⟩
              replace Ia := Ia.below b21
              replace Ib := Ib.below b21
              replace Iu := Iu.below b21
              replace Im := Im.below b21
              replace Ix := Ix.below b21
              replace Ic := Ic.below b21
              replace Bw := bstep Bw b21
              clear b21
              go_wp2_with fail
              refine (has_set' Ib k true (HQ.out)).mono ?_
              rintro e w22 ⟨rfl, b22⟩
              replace Ia := Ia.below b22
              replace Ib := Ib.below b22
              replace Iu := Iu.below b22
              replace Im := Im.below b22
              replace Ix := Ix.below b22
              replace Ic := Ic.below b22
              replace Bw := bstep Bw b22
              clear b22
              go_wp2_with fail
              refine (has_set' Iu k true (by rw [hu.out, HP.out, HQ.out]; rfl)).mono ?_
              rintro e w23 ⟨rfl, b23⟩
              replace Ia := Ia.below b23
              replace Ib := Ib.below b23
              replace Iu := Iu.below b23
              replace Im := Im.below b23
              replace Ix := Ix.below b23
              replace Ic := Ic.below b23
              replace Bw := bstep Bw b23
              clear b23
              go_wp2_with fail
              refine (has_set' Im k true (by rw [hm.out, HP.out, HQ.out]; rfl)).mono ?_
              rintro e w24 ⟨rfl, b24⟩
              replace Ia := Ia.below b24
              replace Ib := Ib.below b24
              replace Iu := Iu.below b24
              replace Im := Im.below b24
              replace Ix := Ix.below b24
              replace Ic := Ic.below b24
              replace Bw := bstep Bw b24
              clear b24
              go_wp2_with fail
              refine (has_set' Ix k false (by rw [hx.out, HP.out, HQ.out]; rfl)).mono ?_
              rintro e w25 ⟨rfl, b25⟩
              replace Ia := Ia.below b25
              replace Ib := Ib.below b25
              replace Iu := Iu.below b25
              replace Im := Im.below b25
              replace Ix := Ix.below b25
              replace Ic := Ic.below b25
              replace Bw := bstep Bw b25
              clear b25
              go_wp2_with fail
              refine (has_set' Ic k false (ec.out)).mono ?_
              rintro e w26 ⟨rfl, b26⟩
              replace Ia := Ia.below b26
              replace Ib := Ib.below b26
              replace Iu := Iu.below b26
              replace Im := Im.below b26
              replace Ix := Ix.below b26
              replace Ic := Ic.below b26
              replace Bw := bstep Bw b26
              clear b26
              go_wp2_with fail
              go_roundw
              case rel => exact ⟨k + 1, rfl, by omega, by omega, Ia, Ib, Iu, Im, Ix, Ic, Bw⟩
              case measure => simp [intOf]; omega
      · have e1 := hs1.out
        have e2 := hs2.out
        have da := Spn.many_bd P 80
        obtain ⟨na, Na⟩ : ∃ z, Hid (Spn.many P 80 = z) := ⟨_, Lib.hid rfl⟩
        have db := Spn.many_bd Q 80
        obtain ⟨nb, Nb⟩ : ∃ z, Hid (Spn.many Q 80 = z) := ⟨_, Lib.hid rfl⟩
        have du := Spn.many_bd U 80
        obtain ⟨nu, Nu⟩ : ∃ z, Hid (Spn.many U 80 = z) := ⟨_, Lib.hid rfl⟩
        have dm := Spn.many_bd M 80
        obtain ⟨nm, Nm⟩ : ∃ z, Hid (Spn.many M 80 = z) := ⟨_, Lib.hid rfl⟩
        have dx := Spn.many_bd X 80
        obtain ⟨nx, Nx⟩ : ∃ z, Hid (Spn.many X 80 = z) := ⟨_, Lib.hid rfl⟩
        rw [Nu.out, Nm.out, Na.out, Nb.out] at e1
        rw [Nx.out, Nm.out, Na.out] at e2
        rw [Na.out] at da
        rw [Nb.out] at db
        rw [Nu.out] at du
        rw [Nm.out] at dm
        rw [Nx.out] at dx
        obtain ⟨s, hs⟩ : ∃ s, s = nu + nm := ⟨_, rfl⟩
        have ew1 : IntKind.i64.wrap (nu + nm) = s := by rw [IntWalk.i64_in _ (by omega)]; omega
        have ew2 : IntKind.i64.wrap (na + nb) = s := by rw [IntWalk.i64_in _ (by omega)]; omega
        have ew3 : IntKind.i64.wrap (nx + nm) = na := by rw [IntWalk.i64_in _ (by omega)]; omega
        clear e1 e2 da db du dm dx hs
        as_aux_lemma =>
        go_wp2_with fail
        refine (length_set' Iu Nu).mono ?_
        rintro e w31 ⟨rfl, b31⟩
        replace Ia := Ia.below b31
        replace Ib := Ib.below b31
        replace Iu := Iu.below b31
        replace Im := Im.below b31
        replace Ix := Ix.below b31
        replace Ic := Ic.below b31
        replace Bw := bstep Bw b31
        clear b31
        go_wp2_with fail
        refine (length_set' Im Nm).mono ?_
        rintro e w32 ⟨rfl, b32⟩
        replace Ia := Ia.below b32
        replace Ib := Ib.below b32
        replace Iu := Iu.below b32
        replace Im := Im.below b32
        replace Ix := Ix.below b32
        replace Ic := Ic.below b32
        replace Bw := bstep Bw b32
        clear b32
        go_wp2_with fail
        refine (length_set' Ia Na).mono ?_
        rintro e w33 ⟨rfl, b33⟩
        replace Ia := Ia.below b33
        replace Ib := Ib.below b33
        replace Iu := Iu.below b33
        replace Im := Im.below b33
        replace Ix := Ix.below b33
        replace Ic := Ic.below b33
        replace Bw := bstep Bw b33
        clear b33
        go_wp2_with fail
        refine (length_set' Ib Nb).mono ?_
        rintro e w34 ⟨rfl, b34⟩
        replace Ia := Ia.below b34
        replace Ib := Ib.below b34
        replace Iu := Iu.below b34
        replace Im := Im.below b34
        replace Ix := Ix.below b34
        replace Ic := Ic.below b34
        replace Bw := bstep Bw b34
        clear b34
        go_wp2_with fail
        refine (length_set' Ix Nx).mono ?_
        rintro e w35 ⟨rfl, b35⟩
        replace Ia := Ia.below b35
        replace Ib := Ib.below b35
        replace Iu := Iu.below b35
        replace Im := Im.below b35
        replace Ix := Ix.below b35
        replace Ic := Ic.below b35
        replace Bw := bstep Bw b35
        clear b35
        go_wp2_with fail
        refine (length_set' Im Nm).mono ?_
        rintro e w36 ⟨rfl, b36⟩
        replace Ia := Ia.below b36
        replace Ib := Ib.below b36
        replace Iu := Iu.below b36
        replace Im := Im.below b36
        replace Ix := Ix.below b36
        replace Ic := Ic.below b36
        replace Bw := bstep Bw b36
        clear b36
        go_wp2_with fail
        refine (length_set' Ia Na).mono ?_
        rintro e w37 ⟨rfl, b37⟩
        replace Ia := Ia.below b37
        replace Ib := Ib.below b37
        replace Iu := Iu.below b37
        replace Im := Im.below b37
        replace Ix := Ix.below b37
        replace Ic := Ic.below b37
        replace Bw := bstep Bw b37
        clear b37
        go_wp2_with fail
        refine (sane_any w37).mono ?_
        rintro e w38 ⟨rfl, b⟩
        replace Bw := bstep Bw b
        go_wp2_with fail
        go_ret
        exact ⟨rfl, Bw⟩
  · rw [decide_eq_false h5] at HL
    clear hA hn hf h5
    go_enter Try.func4, Try.ntmps4
    go_wp2_with fail
    refine HL.mono ?_
    rintro e w1 ⟨rfl, rfl⟩
    go_wp2_with fail
    refine (sane_any w).mono ?_
    rintro e w2 ⟨rfl, b2⟩
    go_wp2_with fail
    go_ret
    exact ⟨rfl, b2⟩
end Go.Proofs.Ytnleelkdoagfcaa
