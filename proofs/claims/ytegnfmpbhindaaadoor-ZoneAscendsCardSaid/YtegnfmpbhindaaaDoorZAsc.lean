/- The law ZoneAscends returns true for all lists and numbers. -/
import Derived.Test.YtegnfmpbhindaaaDoorZlx
import Derived.Deep.DeepCutAuto
namespace Go.Proofs.YtegnfmpbhindaaaDoor
open Go.RowKit
set_option linter.unusedVariables false
set_option linter.unusedSimpArgs false

set_option maxHeartbeats 8000000 in
set_option maxRecDepth 100000 in
theorem asc_law (A : Option Addr) (n c : Nat) (zs : List Int) (k m : Int) (w : World) (hT : CivT w) (hA : NumsAt w A zs) (hn : zs.length = n) (hf : ∀ z ∈ zs, -9223372036854775808 ≤ z ∧ z ≤ 9223372036854775807) (k1 : -9223372036854775808 ≤ k) (k2 : k ≤ 9223372036854775807) (m1 : -9223372036854775808 ≤ m) (m2 : m ≤ 9223372036854775807) :
    Calls Tryd.prog 7 #[.slice A n c, .int .i64 k, .int .i64 m] w fun e w' => e = .returned (.bool true) ∧ Below w.heap.size w w' := by
  have HL := Light_any A n c w
  by_cases h5 : (n : Int) ≤ 500
  · rw [decide_eq_true h5] at HL
    have hD := Dice.start (c := c) hA hn (by omega) hf
    have hR := Roll_any A n c w
    have B1 := (Below.refl w.heap.size w).alloc (Nat.le_refl _) (.cells #[.slice A n c, .int .i64 0] 70)
    have hS := Zone_any _ _ _ _ _ ⟨#[97]⟩ _ hD
    have T1 := hT.below B1
    have hM := fun W => Mod_any k 900 W k1 k2 (by omega) (by omega)
    have hM2 := fun W => Mod_any m 86400 W m1 m2 (by omega) (by omega)
    obtain ⟨D0, hD0⟩ : ∃ D0, 20454 + k % 900 - 300 = D0 := ⟨_, rfl⟩
    have y1 : 0 ≤ k % 900 ∧ k % 900 < 900 := by omega
    have s12 : 0 ≤ m % 86400 ∧ m % 86400 < 86400 := by omega
    generalize m % 86400 = S at hM2 s12
    generalize k % 900 = y at hM y1 hD0
    have dd : 20154 ≤ D0 ∧ D0 ≤ 21054 := by omega
    obtain ⟨y1, y2⟩ := y1
    obtain ⟨s1, s2⟩ := s12
    obtain ⟨dd1, dd2⟩ := dd
    have HM := Lib.hid hM
    have HM2 := Lib.hid hM2
    clear hA hn hf hM hM2
    go_enter Tryd.func7, Tryd.ntmps7
    go_wp2_with fail
    refine HL.mono ?_
    rintro e w1 ⟨rfl, rfl⟩
    go_wp2_with fail
    refine hR.mono ?_
    rintro e w1 ⟨rfl, rfl⟩
    go_wp2_with fail
    refine hS.mono ?_
    rintro e w2 ⟨off, A', n', c', rs, rfl, hG, hrn, hRS, G2, D2⟩
    have B2 := below_of_grown B1 G2 (by simp) (Nat.le_refl _)
    have T2 : CivT w2 := hT.below B2
    obtain ⟨ts, htr, htb⟩ := hG.ex
    have hz : ZIn w2 A' n' rs := zin_of T2 hRS hrn hG.all (by have := hG.len; omega)
    have hoff : I64 off := ⟨by have := hG.lo; omega, by have := hG.hi; omega⟩
    have hvz := Lib.hid (Zn.trans_vz htr)
    have C1 := fun W h d (hd : I64 d) => first_is htr ⟨#[97]⟩ A' n' c' d S W h hoff hd
    have C2 := fun W h x => toLocal_is htr ⟨#[97]⟩ A' n' c' x W h hoff
    have H1 := Lib.hid C1
    have H2 := Lib.hid C2
    have K2 : Hid (ZK w ⟨#[97]⟩ off A' n' c' rs w2.heap.size (w2.alloc (.cells #[.string ⟨#[97]⟩, .int .i64 off, .slice A' n' c'] 27))) := Lib.hid ⟨hz.alloc _, blk_new rfl, B2.alloc B2.size _⟩
    clear C1 C2 hS hR HL hD D2 G2 B1 B2 htb hG hRS hrn T1 hoff hz T2
    go_wp2_with fail
    refine (HM.out _).mono ?_
    rintro e w3 ⟨rfl, rfl⟩
    go_wp2_with fail
    refine (HM2.out _).mono ?_
    rintro e w3 ⟨rfl, rfl⟩
    go_wp2_with fail
    go_loopw [10, 11] (fun l i wr => ∃ (q : Nat) (la : Int), i = .int .i64 q ∧ q ≤ 9 ∧ l = .int .i64 la ∧ 0 ≤ la ∧ la ≤ 8589934592 ∧ Hid (q = 0 ∨ Zn.fst ((D0 + q - 1) * 86400 + S) (Zn.strs 0 off ts) = some la) ∧ Hid (ZK w ⟨#[97]⟩ off A' n' c' rs w2.heap.size wr)) (fun _ i _ => 9 - (intOf i).toNat)
    case atStart => exact ⟨0, 0, rfl, by omega, rfl, by omega, by omega, Lib.hid (.inl rfl), K2⟩
    case round =>
      clear K2
      obtain ⟨q, la, rfl, hq, rfl, la1, la2, HF, HB⟩ := hrel
      by_cases hlt : q < 9
      · obtain ⟨D, hDq⟩ : ∃ D, D0 + (q : Int) = D := ⟨_, rfl⟩
        have d1 : 10000 ≤ D ∧ D ≤ 30000 := by omega
        obtain ⟨x, D', S', f1, f2, f3, f4, f5, x1, x2, f6⟩ := asc_at hvz.out d1.1 d1.2 s1 s2
        have C1 := H1.out wr HB.out.z D ⟨by omega, by omega⟩
        rw [f1, f2] at C1
        have C2 := fun W h => H2.out W h x
        rw [f4, f5] at C2
        have HC1 := Lib.hid C1
        have HC2 := Lib.hid C2
        have hnx : q ≠ 0 → la < x ∧ x < la + 172800 := fun h0 => by
          rcases HF.out with h | h
          · omega
          · have e : (D0 + q - 1) * 86400 + S + 86400 = D * 86400 + S := by omega
            exact asc_next hvz.out (by omega) (by omega) h (by rw [e]; exact f3)
        have HN : Hid (q + 1 = 0 ∨ Zn.fst ((D0 + (q + 1 : Nat) - 1) * 86400 + S) (Zn.strs 0 off ts) = some x) := Lib.hid (.inr (by rw [show D0 + ((q + 1 : Nat) : Int) - 1 = D by omega]; exact f3))
        obtain ⟨c0, c1, c2⟩ := ZBlk.cells HB.out.zb
        have HDQ := Lib.hid hDq
        clear C1 C2 f1 f2 f3 f4 f5 HF d1
        as_aux_lemma =>
        go_wp2_with fail
        refine HC1.out.mono ?_
        rintro e w3 ⟨rfl, b3⟩
        have K3 := HB.out.after b3
        clear c0 c1 c2
        obtain ⟨c0, c1, c2⟩ := ZBlk.cells K3.zb
        have HK3 := Lib.hid K3
        clear b3 K3 HB
        go_wp2_with fail
        refine (HC2.out _ HK3.out.z).mono ?_
        rintro e w4 ⟨rfl, b4⟩
        have K5 := Lib.hid ((HK3.out.after b4).after ((Below.refl _ _).alloc (Nat.le_refl _) (.cells #[.int .i64 D', .int .i64 S'] 52)))
        clear b4 HK3 c0 c1 c2
        have HNX := Lib.hid hnx
        clear hnx
        by_cases hq0 : q = 0
        · have g1 : decide ((0 : Int) < q) = false := by simp; omega
          have g2 : decide (0 < q) = false := by simp; omega
          clear hq0
          rcases f6 with hlt2 | ⟨rfl, hss⟩
          · have e1 : decide (D' < D) = false := by simp; omega
            have e2 : (D' == D) = false := by simp; omega
            as_aux_lemma =>
            go_wp2_with fail
            go_roundw
            case rel => exact ⟨q + 1, x, by go_num, by omega, rfl, x1, x2, HN, K5⟩
            case measure => simp [intOf]; omega
          · have e1 : decide (D < D) = false := by simp
            have e2 : decide (S' < S) = false := by simp; omega
            as_aux_lemma =>
            go_wp2_with fail
            go_roundw
            case rel => exact ⟨q + 1, x, by go_num, by omega, rfl, x1, x2, HN, K5⟩
            case measure => simp [intOf]; omega
        · have g1 : decide ((0 : Int) < q) = true := by simp; omega
          have g2 : decide (0 < q) = true := by simp; omega
          obtain ⟨n1, n2⟩ := HNX.out hq0
          have g3 : decide (x ≤ la) = false := by simp; omega
          have g4 : decide (172800 ≤ x - la) = false := by simp; omega
          clear hq0
          rcases f6 with hlt2 | ⟨rfl, hss⟩
          · have e1 : decide (D' < D) = false := by simp; omega
            have e2 : (D' == D) = false := by simp; omega
            as_aux_lemma =>
            go_wp2_with fail
            go_roundw
            case rel => exact ⟨q + 1, x, by go_num, by omega, rfl, x1, x2, HN, K5⟩
            case measure => simp [intOf]; omega
          · have e1 : decide (D < D) = false := by simp
            have e2 : decide (S' < S) = false := by simp; omega
            as_aux_lemma =>
            go_wp2_with fail
            go_roundw
            case rel => exact ⟨q + 1, x, by go_num, by omega, rfl, x1, x2, HN, K5⟩
            case measure => simp [intOf]; omega
      · obtain rfl : q = 9 := by omega
        have HS := Lib.hid (sane_any wr HB.out.z.civ)
        as_aux_lemma =>
        go_wp2_with fail
        refine HS.out.mono ?_
        rintro e w7 ⟨rfl, b7⟩
        go_wp2_with fail
        go_ret
        exact ⟨rfl, bstep HB.out.bel b7⟩
  · rw [decide_eq_false h5] at HL
    have HS := Lib.hid (sane_any w hT)
    clear hA hf
    go_enter Tryd.func7, Tryd.ntmps7
    go_wp2_with fail
    refine HL.mono ?_
    rintro e w1 ⟨rfl, rfl⟩
    go_wp2_with fail
    refine HS.out.mono ?_
    rintro e w7 ⟨rfl, b7⟩
    go_wp2_with fail
    go_ret
    exact ⟨rfl, b7⟩
end Go.Proofs.YtegnfmpbhindaaaDoor
