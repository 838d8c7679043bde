/- The reference of layer 7: person, Form, and Parse at a text of one line. -/
import Derived.Test.YtoohijffkbkikaaGreatDoorYr
namespace Go.Proofs.YtoohijffkbkikaaGreatDoor
open Go.RowKit
set_option linter.unusedVariables false
set_option linter.unusedSimpArgs false
set_option maxRecDepth 100000

theorem list_cons {w : World} {A : Option Addr} {l : List Lx.Tk} (h : ListAt 3 eTok w A l) (h0 : 1 ≤ l.length) : ∃ b off y r, A = some ⟨b, off, none⟩ ∧ l = y :: r ∧ b < w.heap.size ∧ w.cell? ⟨b, off, none⟩ = some (.int .i64 y.1) ∧ w.cell? ⟨b, off + 1, none⟩ = some (.string ⟨y.2.1.toArray⟩) := by
  cases l with
  | nil => simp at h0
  | cons y r =>
    obtain ⟨b, off, ea, c0, c1, c2⟩ := tok_elem (k := 0) h (show (y :: r)[0]? = some y from rfl)
    simp only [Nat.zero_mul, Nat.add_zero] at c0 c1
    have hb := World.block_lt_of_cell? w _ c0
    exact ⟨b, off, y, r, ea, rfl, hb, c0, c1⟩
theorem list_drop {w : World} {b off c : Nat} {l : List Lx.Tk} (h : ListAt 3 eTok w (some ⟨b, off, none⟩) l) (j : Nat) (hc : l.length ≤ c) : ListAt 3 eTok w (if c = j then some ⟨b, off, none⟩ else some ⟨b, off + j * 3, none⟩) (l.drop j) := by
  by_cases e : c = j
  · rw [List.drop_of_length_le (by omega)]
    exact ListAt.nil_
  · rw [if_neg e]
    exact h.rest j
theorem head_text {y : Lx.Tk} {r : List Lx.Tk} : ((y :: r).map (·.2.1)).head? = some y.2.1 := rfl
theorem word_ix {k : Nat} (h : k < 2) : ∃ wd : List UInt8, [[119, 101, 101, 107], [114, 101, 115, 116]][k]? = some wd ∧ ∀ w, (Instr.index 78 (.agg #[.string ⟨#[119, 101, 101, 107]⟩, .string ⟨#[114, 101, 115, 116]⟩]) (.int .i64 (k : Int))).run Tryz.prog w = .ok (.string ⟨wd.toArray⟩) w := by
  have : k = 0 ∨ k = 1 := by omega
  rcases this with rfl | rfl
  · exact ⟨_, rfl, fun w => by kernel_rfl⟩
  · exact ⟨_, rfl, fun w => by kernel_rfl⟩
theorem step_no {wd : List UInt8} {l : List Lx.Tk} (h : ¬ (2 ≤ l.length ∧ S7.kindsG [] (l.take 2) = [119, 110] ∧ (l.map (·.2.1)).head? = some wd)) : S7.stepS wd l = l := by unfold S7.stepS; rw [if_neg h]
theorem step_yes {wd : List UInt8} {l : List Lx.Tk} (h : 2 ≤ l.length ∧ S7.kindsG [] (l.take 2) = [119, 110] ∧ (l.map (·.2.1)).head? = some wd) : S7.stepS wd l = l.drop 2 := by unfold S7.stepS; rw [if_pos h]
theorem steps_cons {wd : List UInt8} {ws : List (List UInt8)} {l : List Lx.Tk} : S7.stepsS (wd :: ws) l = S7.stepsS ws (S7.stepS wd l) := rfl

/-- The end of person. -/
theorem end_facts {l : List Lx.Tk} {R : Bool} (h : S7.endS l = R) : (l.length = 0 → R = true) ∧ (l.length ≠ 0 → l.length ≠ 1 → R = false) ∧ (l.length = 1 → S7.kindsG [] l ≠ [119] → R = false) ∧ (l.length = 1 → S7.kindsG [] l = [119] → R = ((l.map (·.2.1)).head? == some [99, 111, 110, 115, 101, 110, 116])) := by
  unfold S7.endS at h
  cases l with
  | nil => simp at h; simp [← h]
  | cons a t =>
    refine ⟨by simp, fun _ h1 => ?_, fun h1 h2 => ?_, fun h1 h2 => ?_⟩
    · rw [← h, decide_eq_false h1]; rfl
    · rw [← h, show (S7.kindsG [] (a :: t) == [119]) = false by simpa using h2]; simp
    · rw [← h, h2, decide_eq_true h1]; simp

set_option maxHeartbeats 8000000 in
theorem pers_is {ts : List Lx.Tk} {R : Bool} (hR : S7.persS ts = R) (A : Option Addr) (n c : Nat) (w : World) (hA : ListAt 3 eTok w A ts) (hn : ts.length = n) (hc : n ≤ c) (hs : n ≤ 900) :
    Calls Tryz.prog 39 #[.slice A n c] w fun e w' => e = .returned (.bool R) ∧ Below w.heap.size w w' := by
  unfold S7.persS at hR
  have HN := Lib.hid hn
  by_cases h2 : n < 2
  · rw [if_pos (.inl (by omega))] at hR
    have e1 : decide ((n : Int) < 2) = true := by simp; omega
    clear hA hn
    go_enter Tryz.func39, Tryz.ntmps39
    go_wp2_with fail
    go_ret
    exact ⟨ret_bool hR, Below.refl _ _⟩
  · have e1 : decide ((n : Int) < 2) = false := by simp; omega
    obtain ⟨b, off, y, r, rfl, hts, hb, c0, c1⟩ := list_cons hA (by omega)
    have HA := Lib.hid hA
    have h2n : (2 : Int) ≤ n := by omega
    have h2c : (2 : Int) ≤ c := by omega
    obtain ⟨q, hq⟩ : ∃ q, S7.kindsG [] (ts.take 2) = q := ⟨_, rfl⟩
    have C := Lib.hid (fun cc => kinds_is hq (some ⟨b, off, none⟩) 2 cc w (by have := hA.sub 0 2; simpa using this) (by rw [List.length_take]; omega) (by omega))
    by_cases hww : q = [119, 119]
    · rw [if_neg (fun h => h.elim (fun h => by omega) (fun h => h (hq.trans hww)))] at hR
      subst hww
      have HR0 : Hid (S7.stepsS ([[119, 101, 101, 107], [114, 101, 115, 116]].drop 0) (ts.drop 2) = S7.stepsS [[119, 101, 101, 107], [114, 101, 115, 116]] (ts.drop 2)) := Lib.hid rfl
      have HE := Lib.hid hR
      have HD := Lib.hid (list_drop (c := c) hA 2 (by omega))
      have hdl : (ts.drop 2).length = n - 2 := by rw [List.length_drop]; omega
      have HDL := Lib.hid hdl
      clear hA hn hR hq c0 c1 hts hdl
      by_cases hc2 : c = 2
      all_goals
        (first | rw [if_pos hc2] at HD | rw [if_neg hc2] at HD)
        try subst hc2
        go_enter Tryz.func39, Tryz.ntmps39
        go_wp2_with fail
        refine (C.out _).mono ?_
        rintro e w1 ⟨rfl, b1⟩
        have HB1 := Lib.hid b1
        have HD1 := Lib.hid (HD.out.below b1)
        clear b1
        go_wp2_with fail
        go_loopw [0, 17] (fun v i wr => ∃ (k : Nat) (l : List Lx.Tk) (A' : Option Addr) (m c' : Nat), k ≤ 2 ∧ i = .int .i64 k ∧ v = .slice A' m c' ∧ Hid (ListAt 3 eTok wr A' l) ∧ l.length = m ∧ m ≤ c' ∧ m ≤ 900 ∧ Hid (S7.stepsS ([[119, 101, 101, 107], [114, 101, 115, 116]].drop k) l = S7.stepsS [[119, 101, 101, 107], [114, 101, 115, 116]] (ts.drop 2)) ∧ Hid (Below w.heap.size w wr)) (fun _ i _ => 2 - (intOf i).toNat)
        case atStart => exact ⟨0, ts.drop 2, _, _, _, by omega, rfl, rfl, HD1, (by have := HDL.out; omega), by omega, by omega, HR0, HB1⟩
        case round =>
          clear HR0 HD1 HD C HDL HB1
          obtain ⟨k, l, A', m, c', hk, rfl, rfl, HL, hm, hmc, hms, HR, HB⟩ := hrel
          have HM := Lib.hid hm
          by_cases hlt : k < 2
          · obtain ⟨wd, hwd, k0⟩ := word_ix hlt
            have hst := HR.out
            rw [drop_cons' hwd, steps_cons] at hst
            have hrz := HB.out.size
            by_cases hm2 : 2 ≤ m
            · have g1 : decide ((2 : Int) ≤ m) = true := by simp; omega
              have hm2i : (2 : Int) ≤ m := by omega
              have hc2i : (2 : Int) ≤ c' := by omega
              obtain ⟨b', off', y', r', rfl, hl', hb', d0, d1⟩ := list_cons HL.out (by omega)
              obtain ⟨q', hq'⟩ : ∃ q', S7.kindsG [] (l.take 2) = q' := ⟨_, rfl⟩
              have C' := Lib.hid (fun cc => kinds_is hq' (some ⟨b', off', none⟩) 2 cc wr (by have := HL.out.sub 0 2; simpa using this) (by rw [List.length_take]; omega) (by omega))
              by_cases hwn : q' = [119, 110]
              · subst hwn
                obtain ⟨yk, yt, yn⟩ := y'
                simp only at d0 d1
                by_cases ht : yt = wd
                · subst ht
                  have N := Lib.hid (show S7.stepsS ([[119, 101, 101, 107], [114, 101, 115, 116]].drop (k + 1)) (l.drop 2) = S7.stepsS [[119, 101, 101, 107], [114, 101, 115, 116]] (ts.drop 2) by
                    rw [← hst, step_yes ⟨by omega, hq', by rw [hl']; rfl⟩])
                  have HD := Lib.hid (list_drop (c := c') HL.out 2 (by omega))
                  have HDL := Lib.hid (show (l.drop 2).length = m - 2 by rw [List.length_drop]; omega)
                  clear hst HR hm hq' hl' hwd
                  by_cases hc2' : c' = 2
                  all_goals
                    (first | rw [if_pos hc2'] at HD | rw [if_neg hc2'] at HD)
                    try subst hc2'
                    go_wp2_with fail
                    refine (C'.out _).mono ?_
                    rintro e w4 ⟨rfl, b4⟩
                    have d1' := cell_lift d1 b4
                    have HB4 := Lib.hid (bstep HB.out b4)
                    have HD4 := Lib.hid (HD.out.below b4)
                    have hz4 := b4.size
                    clear b4 d0 d1
                    go_wp2_with fail
                    go_roundw
                    case rel => exact ⟨k + 1, l.drop 2, _, _, _, by omega, by go_num, rfl, HD4, (by have := HDL.out; omega), by omega, by omega, N, HB4⟩
                    case measure => simp [intOf]; omega
                · have N := Lib.hid (show S7.stepsS ([[119, 101, 101, 107], [114, 101, 115, 116]].drop (k + 1)) l = S7.stepsS [[119, 101, 101, 107], [114, 101, 115, 116]] (ts.drop 2) by
                    rw [← hst, step_no (fun h => ht (by have := h.2.2; rw [hl'] at this; simpa [head_text] using this))])
                  have t1 : (yt == wd) = false := by simpa using ht
                  clear hst HR hm hq' hl' hwd
                  go_wp2_with fail
                  refine (C'.out _).mono ?_
                  rintro e w4 ⟨rfl, b4⟩
                  have d1' := cell_lift d1 b4
                  have HB4 := Lib.hid (bstep HB.out b4)
                  have HD4 := Lib.hid (HL.out.below b4)
                  have hz4 := b4.size
                  clear b4 d0 d1
                  go_wp2_with fail
                  go_roundw
                  case rel => exact ⟨k + 1, l, _, _, _, by omega, by go_num, rfl, HD4, HM.out, hmc, hms, N, HB4⟩
                  case measure => simp [intOf]; omega
              · have N := Lib.hid (show S7.stepsS ([[119, 101, 101, 107], [114, 101, 115, 116]].drop (k + 1)) l = S7.stepsS [[119, 101, 101, 107], [114, 101, 115, 116]] (ts.drop 2) by
                  rw [← hst, step_no (fun h => hwn (by rw [← hq']; exact h.2.1))])
                have t1 : (q' == [119, 110]) = false := by simpa using hwn
                clear hst HR hm hq' hl' hwd d0 d1
                go_wp2_with fail
                refine (C'.out _).mono ?_
                rintro e w4 ⟨rfl, b4⟩
                have HB4 := Lib.hid (bstep HB.out b4)
                have HD4 := Lib.hid (HL.out.below b4)
                clear b4
                go_wp2_with fail
                go_roundw
                case rel => exact ⟨k + 1, l, _, _, _, by omega, by go_num, rfl, HD4, HM.out, hmc, hms, N, HB4⟩
                case measure => simp [intOf]; omega
            · have g1 : decide ((2 : Int) ≤ m) = false := by simp; omega
              have N := Lib.hid (show S7.stepsS ([[119, 101, 101, 107], [114, 101, 115, 116]].drop (k + 1)) l = S7.stepsS [[119, 101, 101, 107], [114, 101, 115, 116]] (ts.drop 2) by
                rw [← hst, step_no (fun h => by omega)])
              clear hst HR hm hwd
              go_wp2_with fail
              go_roundw
              case rel => exact ⟨k + 1, l, _, _, _, by omega, by go_num, rfl, HL, HM.out, hmc, hms, N, HB⟩
              case measure => simp [intOf]; omega
          · have HF := Lib.hid (end_facts (l := l) (R := R) (by
              rw [← HE.out, ← HR.out, List.drop_of_length_le (by show 2 ≤ k; omega)]; rfl))
            clear HR hm
            by_cases h0 : m = 0
            · have N := Lib.hid (HF.out.1 (by rw [HM.out]; exact h0))
              subst h0
              go_wp2_with fail
              go_ret
              rw [N.out]
              exact ⟨rfl, HB.out⟩
            · have g0 : ((m : Int) == 0) = false := by simp; omega
              by_cases h1 : m = 1
              · subst h1
                obtain ⟨b', off', ⟨yk, yt, yn⟩, r', rfl, hl', hb', d0, d1⟩ := list_cons HL.out (by rw [HM.out]; omega)
                simp only at d0 d1
                obtain ⟨q', hq'⟩ : ∃ q', S7.kindsG [] l = q' := ⟨_, rfl⟩
                have C' := Lib.hid (kinds_is hq' (some ⟨b', off', none⟩) 1 c' wr HL.out HM.out (by omega))
                by_cases hw : q' = [119]
                · have N := Lib.hid (HF.out.2.2.2 HM.out (hq'.trans hw))
                  subst hw
                  have NT := Lib.hid (show ((l.map (·.2.1)).head? == some [99, 111, 110, 115, 101, 110, 116]) = (yt == [99, 111, 110, 115, 101, 110, 116]) by rw [hl']; rfl)
                  clear hq' hl' HF
                  by_cases ht : yt = [99, 111, 110, 115, 101, 110, 116]
                  · subst ht
                    go_wp2_with fail
                    refine C'.out.mono ?_
                    rintro e w4 ⟨rfl, b4⟩
                    have d1' := cell_lift d1 b4
                    have B4 := bstep HB.out b4
                    have hz4 := b4.size
                    clear b4 d0 d1
                    go_wp2_with fail
                    go_ret
                    exact ⟨ret_bool (by rw [N.out, NT.out]; rfl), B4⟩
                  · have t1 : (yt == [99, 111, 110, 115, 101, 110, 116]) = false := by simpa using ht
                    have T1 := Lib.hid t1
                    go_wp2_with fail
                    refine C'.out.mono ?_
                    rintro e w4 ⟨rfl, b4⟩
                    have d1' := cell_lift d1 b4
                    have B4 := bstep HB.out b4
                    have hz4 := b4.size
                    clear b4 d0 d1
                    go_wp2_with fail
                    go_ret
                    exact ⟨ret_bool (by rw [N.out, NT.out, T1.out]), B4⟩
                · have N := Lib.hid (HF.out.2.2.1 HM.out (fun h => hw (hq'.symm.trans h)))
                  have t1 : (q' == [119]) = false := by simpa using hw
                  clear hq' hl' HF d0 d1
                  go_wp2_with fail
                  refine C'.out.mono ?_
                  rintro e w4 ⟨rfl, b4⟩
                  have B4 := bstep HB.out b4
                  go_wp2_with fail
                  go_ret
                  exact ⟨ret_bool (by rw [N.out]), B4⟩
              · have g2 : ((m : Int) == 1) = false := by simp; omega
                have N := Lib.hid (HF.out.2.1 (by rw [HM.out]; exact h0) (by rw [HM.out]; exact h1))
                go_wp2_with fail
                go_ret
                exact ⟨ret_bool (by rw [N.out]), HB.out⟩
    · rw [if_pos (.inr (fun h => hww (hq.symm.trans h)))] at hR
      have t1 : (q == [119, 119]) = false := by simpa using hww
      have t2 : (q != [119, 119]) = true := by simpa using hww
      have HRR := Lib.hid hR
      clear hA hn hR hq c0 c1 hts
      go_enter Tryz.func39, Tryz.ntmps39
      go_wp2_with fail
      refine (C.out _).mono ?_
      rintro e w1 ⟨rfl, b1⟩
      go_wp2_with fail
      go_ret
      exact ⟨ret_bool HRR.out, b1⟩
end Go.Proofs.YtoohijffkbkikaaGreatDoor
