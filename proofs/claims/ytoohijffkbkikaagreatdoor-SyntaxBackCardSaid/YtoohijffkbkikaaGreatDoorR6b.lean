/- The reference of layer 6: names, clocks, dates. -/
import Derived.Test.YtoohijffkbkikaaGreatDoorR6a
import Derived.Test.YtoohijffkbkikaaGreatDoorR1c
namespace Go.Proofs.YtoohijffkbkikaaGreatDoor
open Go.RowKit
set_option linter.unusedVariables false
set_option linter.unusedSimpArgs false
set_option maxRecDepth 100000

theorem noth_cons (b : UInt8) (t : List UInt8) : Lx.noth (b :: t) = (!Lx.othR b.toNat && Lx.noth t) := rfl
set_option maxHeartbeats 4000000 in
theorem name6_any (s : ByteArray) (w : World) (hs : s.size ≤ 4000000000) : Calls Tryz.prog 71 #[.string s] w fun e w' => e = .returned (.bool (Lx.nameS s.data.toList)) ∧ w = w' := by
  have hsz := Lib.size_eq s
  cases hl : s.data.toList with
  | nil =>
    have h0 : decide ((s.size : Int) < 1) = true := by rw [hl] at hsz; simp at hsz; simp [hsz]
    have HR := Lib.hid (show false = Lx.nameS [] from rfl)
    clear hl hsz
    go_enter Tryz.func71, Tryz.ntmps71
    go_wp2_with fail
    go_ret
    exact ⟨ret_bool HR.out, rfl⟩
  | cons c t =>
    rw [hl] at hsz
    have h1 : decide ((s.size : Int) < 1) = false := by simp at hsz ⊢; omega
    by_cases h24 : 24 < s.size
    · have HR := Lib.hid (show false = Lx.nameS (c :: t) by
        have : ¬ (c :: t).length ≤ 24 := by omega
        simp only [Lx.nameS, decide_eq_false this, Bool.false_and])
      have h24' : decide ((24 : Int) < s.size) = true := by simp; omega
      clear hl hsz h24
      go_enter Tryz.func71, Tryz.ntmps71
      go_wp2_with fail
      go_ret
      exact ⟨ret_bool HR.out, rfl⟩
    · have h24' : decide ((24 : Int) < s.size) = false := by simp; omega
      have hc : s.data.toList[0]? = some c := by rw [hl]; rfl
      have k0 : ∀ w, (Instr.index 9 (.string s) (.int .i64 0)).run Tryz.prog w = .ok (.int .u8 (c.toNat : Int)) w := fun w => str_at hc 9 Tryz.underlying9 w
      by_cases hlo : (c.toNat : Int) < 97
      · have HR := Lib.hid (show false = Lx.nameS (c :: t) by
          have : Lx.lowR c.toNat = false := by simp [Lx.lowR]; omega
          simp [Lx.nameS, this])
        have hlo' : decide ((c.toNat : Int) < 97) = true := by simpa using hlo
        clear hl hsz hc h24
        go_enter Tryz.func71, Tryz.ntmps71
        go_wp2_with fail
        go_ret
        exact ⟨ret_bool HR.out, rfl⟩
      · have hlo' : decide ((c.toNat : Int) < 97) = false := by simpa using hlo
        by_cases hhi : (122 : Int) < c.toNat
        · have HR := Lib.hid (show false = Lx.nameS (c :: t) by
            have : Lx.lowR c.toNat = false := by simp [Lx.lowR]; omega
            simp [Lx.nameS, this])
          have hhi' : decide ((122 : Int) < c.toNat) = true := by simpa using hhi
          clear hl hsz hc h24
          go_enter Tryz.func71, Tryz.ntmps71
          go_wp2_with fail
          go_ret
          exact ⟨ret_bool HR.out, rfl⟩
        · have hhi' : decide ((122 : Int) < c.toNat) = false := by simpa using hhi
          obtain ⟨n, hn⟩ : ∃ n, s.size = n := ⟨_, rfl⟩
          obtain ⟨R, hR⟩ : ∃ R, Lx.nameS (c :: t) = R := ⟨_, rfl⟩
          have hR2 : Lx.noth (s.data.toList.drop 0) = R := by
            rw [← hR, List.drop_zero, hl]
            have a : (c :: t).length ≤ 24 := by omega
            have b : Lx.lowR c.toNat = true := by simp [Lx.lowR]; omega
            simp only [Lx.nameS, decide_eq_true a, b, Bool.true_and]
          have HL := Lib.hid (show s.data.toList.length = n by rw [hl, ← hn, hsz])
          have hn2 : n ≤ 24 := by omega
          have HR0 := Lib.hid hR2
          rw [hR]
          rw [hn] at h1 h24'
          clear hl hsz hc h24 hR hR2
          go_enter Tryz.func71, Tryz.ntmps71
          go_wp2_with fail
          clear k0 hlo hlo' hhi hhi' h1 h24'
          go_loopw [3] (fun i wr => ∃ k : Nat, k ≤ n ∧ i = .int .i64 k ∧ Hid (Lx.noth (s.data.toList.drop k) = R) ∧ w = wr) (fun i _ => n - (intOf i).toNat)
          case atStart => exact ⟨0, Nat.zero_le _, rfl, HR0, rfl⟩
          case round =>
            clear HR0
            obtain ⟨k, hk, rfl, HR, rfl⟩ := hrel
            by_cases hlt : k < n
            · obtain ⟨x, hx⟩ : ∃ x, s.data.toList[k]? = some x := ⟨_, List.getElem?_eq_getElem (by rw [HL.out]; exact hlt)⟩
              have k0 : ∀ w, (Instr.index 9 (.string s) (.int .i64 (k : Int))).run Tryz.prog w = .ok (.int .u8 (x.toNat : Int)) w := fun w => str_at hx 9 Tryz.underlying9 w
              have hst := HR.out
              rw [drop_cons' hx, noth_cons] at hst
              by_cases ho : Lx.othR x.toNat = true
              · have HO := Lib.hid (show R = false by rw [← hst, ho]; rfl)
                have hd : Lx.digR x.toNat = false := by
                  unfold Lx.othR at ho
                  simp only [Bool.and_eq_true, Bool.not_eq_true'] at ho
                  exact ho.1.1.2
                have hw : Lx.lowR x.toNat = false := by
                  unfold Lx.othR at ho
                  simp only [Bool.and_eq_true, Bool.not_eq_true'] at ho
                  exact ho.1.1.1
                have h95 : (((x.toNat : Int)) == 95) = false := by
                  unfold Lx.othR at ho
                  simp only [Bool.and_eq_true, Bool.not_eq_true', beq_eq_false_iff_ne] at ho
                  simp only [beq_eq_false_iff_ne, ne_eq]
                  omega
                have h45 : (((x.toNat : Int)) == 45) = false := by
                  unfold Lx.othR at ho
                  simp only [Bool.and_eq_true, Bool.not_eq_true', beq_eq_false_iff_ne] at ho
                  simp only [beq_eq_false_iff_ne, ne_eq]
                  omega
                have h95' : (((x.toNat : Int)) != 95) = true := by simp only [bne, h95]; rfl
                have h45' : (((x.toNat : Int)) != 45) = true := by simp only [bne, h45]; rfl
                have HD := Lib.hid hd
                simp only [Lx.lowR, Bool.and_eq_false_iff, decide_eq_false_iff_not] at hw
                clear hx hst HR ho hd
                by_cases ha : (x.toNat : Int) < 97
                · have ha' : decide ((x.toNat : Int) < 97) = true := by simpa using ha
                  go_wp2_with fail
                  refine (d6_is HD.out _).mono ?_
                  rintro e w' ⟨rfl, rfl⟩
                  go_wp2_with fail
                  go_ret
                  rw [HO.out]
                  exact ⟨rfl, rfl⟩
                · have ha' : decide ((x.toNat : Int) < 97) = false := by simpa using ha
                  have hz' : decide ((122 : Int) < x.toNat) = true := by simp; omega
                  go_wp2_with fail
                  refine (d6_is HD.out _).mono ?_
                  rintro e w' ⟨rfl, rfl⟩
                  go_wp2_with fail
                  go_ret
                  rw [HO.out]
                  exact ⟨rfl, rfl⟩
              · have ho' : Lx.othR x.toNat = false := by simpa using ho
                have N := Lib.hid (show Lx.noth (s.data.toList.drop (k + 1)) = R by rw [← hst, ho']; rfl)
                clear hx hst HR ho
                by_cases ha : (x.toNat : Int) < 97
                · have ha' : decide ((x.toNat : Int) < 97) = true := by simpa using ha
                  by_cases hd : Lx.digR x.toNat = true
                  · have HD := Lib.hid hd
                    clear hd ho'
                    go_wp2_with fail
                    refine (d6_is HD.out _).mono ?_
                    rintro e w' ⟨rfl, rfl⟩
                    go_wp2_with fail
                    go_roundw
                    case rel => exact ⟨k + 1, by omega, by go_num, N, by first | rfl | trivial⟩
                    case measure => simp [intOf]; omega
                  · have hd : Lx.digR x.toNat = false := by simpa using hd
                    have HD := Lib.hid hd
                    by_cases h95 : (x.toNat : Int) = 95
                    · have h95' : (((x.toNat : Int)) != 95) = false := by simp [h95]
                      clear hd ho' h95
                      go_wp2_with fail
                      refine (d6_is HD.out _).mono ?_
                      rintro e w' ⟨rfl, rfl⟩
                      go_wp2_with fail
                      go_roundw
                      case rel => exact ⟨k + 1, by omega, by go_num, N, by first | rfl | trivial⟩
                      case measure => simp [intOf]; omega
                    · have h95' : (((x.toNat : Int)) != 95) = true := by simpa using h95
                      have h95'' : (((x.toNat : Int)) == 95) = false := by simpa using h95
                      have h45 : (x.toNat : Int) = 45 := by
                        unfold Lx.othR at ho'
                        rw [hd] at ho'
                        simp only [Bool.not_false, Bool.and_true, Bool.and_eq_false_iff, Bool.not_eq_false', Lx.lowR, Bool.and_eq_true, decide_eq_true_eq, beq_iff_eq] at ho'
                        omega
                      have h45' : (((x.toNat : Int)) != 45) = false := by simp [h45]
                      clear hd ho' h45 h95
                      go_wp2_with fail
                      refine (d6_is HD.out _).mono ?_
                      rintro e w' ⟨rfl, rfl⟩
                      go_wp2_with fail
                      go_roundw
                      case rel => exact ⟨k + 1, by omega, by go_num, N, by first | rfl | trivial⟩
                      case measure => simp [intOf]; omega
                · have ha' : decide ((x.toNat : Int) < 97) = false := by simpa using ha
                  have hz : ¬ (122 : Int) < x.toNat := by
                    intro h
                    unfold Lx.othR at ho'
                    simp only [Lx.lowR, Lx.digR, Bool.and_eq_false_iff, Bool.not_eq_false', Bool.and_eq_true, decide_eq_true_eq, beq_iff_eq] at ho'
                    omega
                  have hz' : decide ((122 : Int) < x.toNat) = false := by simpa using hz
                  clear ho' hz
                  go_wp2_with fail
                  go_roundw
                  case rel => exact ⟨k + 1, by omega, by go_num, N, by first | rfl | trivial⟩
                  case measure => simp [intOf]; omega
            · have HO := Lib.hid (show R = true by rw [← HR.out, List.drop_of_length_le (by rw [HL.out]; omega)]; rfl)
              go_wp2_with fail
              go_ret
              rw [HO.out]
              exact ⟨rfl, rfl⟩
theorem name6_is {s : ByteArray} {b : Bool} (h : Lx.nameS s.data.toList = b) (w : World) (hs : s.size ≤ 4000000000) : Calls Tryz.prog 71 #[.string s] w fun e w' => e = .returned (.bool b) ∧ w = w' := h ▸ name6_any s w hs
end Go.Proofs.YtoohijffkbkikaaGreatDoor
