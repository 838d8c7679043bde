/- The law ResolveSound returns true for every list of numbers. -/
import Derived.Test.YtphenbfhojdcpaaGreatDoorKsG10
import Derived.Test.YtphenbfhojdcpaaGreatDoorKsScv
import Derived.Test.YtphenbfhojdcpaaGreatDoorKsScw
namespace Go.Proofs.YtphenbfhojdcpaaGreatDoor
open Go.RowKit
set_option linter.unusedVariables false
set_option linter.unusedSimpArgs false
set_option maxRecDepth 100000
theorem lens_no {lo hi : Nat} {w : World} {a b c d : SV} (h : CfgAt lo hi w a b c d Rs.noCfg) : a.2.1 = 0 ∧ b.2.1 = 0 ∧ c.2.1 = 0 ∧ d.2.1 = 0 :=
  ⟨h.zones.len.1.symm, h.people.len.1.symm, h.cals.len.1.symm, h.scheds.len.1.symm⟩
theorem ext_toList (L : ByteArray) (k : Nat) (h : k ≤ L.size) : (L.extract 0 k).data.toList = L.data.toList.take k := by
  rw [ByteArray.data_extract]
  simp
/-- What the loop over the text's bytes knows. -/
structure AtL (ls : List (List UInt8)) (m k i at_ : Nat) : Prop where
  eq : at_ = R8.pos ls k + i
  le : k ≤ m
  fin : k = m → i = 0
  ins : ∀ x, ls[k]? = some x → i ≤ x.length
set_option maxHeartbeats 16000000 in
theorem ressound_any (A : Option Addr) (n c : Nat) (zs : List Int) (w : World) (hT : LexT w) (hA : NumsAt w A zs) (hn : zs.length = n) (hf : ∀ z ∈ zs, -9223372036854775808 ≤ z ∧ z ≤ 9223372036854775807) :
    Calls Tryz.prog 4 #[.slice A n c] w fun e w' => e = .returned (.bool true) ∧ Below w.heap.size w w' := by
  have HT := Lib.hid hT
  clear hT
  by_cases h5 : n ≤ 500
  · have hl : decide ((n : Int) ≤ 500) = true := by simp; omega
    have D0 := Lib.hid (Dice.start (c := c) hA hn h5 hf)
    clear hA hn hf
    go_enter Tryz.func4, Tryz.ntmps4
    go_wp2_with fail
    refine (Light_any A n c _).mono ?_
    rw [hl]
    rintro e w' ⟨rfl, rfl⟩
    go_wp2_with fail
    refine (Roll_any A n c _).mono ?_
    rintro e w' ⟨rfl, rfl⟩
    go_wp2_with fail
    refine (draw8_is w.heap.size n c A zs _ D0.out).mono ?_
    rintro e w1 ⟨L, ls, rfl, hG, hls, hg, D1⟩
    have B1 := Lib.hid (below_of_grown ((Below.refl _ w).alloc (Nat.le_refl _) (.cells #[.slice A n c, .int .i64 0] 71)) hg (by simp) (Nat.le_refl _))
    have T1 := Lib.hid (HT.out.below B1.out)
    have hLz : L.size ≤ 891 := hG.size hls
    obtain ⟨z, hz⟩ : ∃ z, L.size = z := ⟨_, rfl⟩
    obtain ⟨⟨er, ln, C⟩, hR⟩ : ∃ R, Rs.loadS (R8.txt ls) = R := ⟨_, rfl⟩
    have hE := R8.load_ends hG.all
    rw [hR] at hE
    simp only at hE
    have HLD := Lib.hid (load_lines hG hls _ T1.out)
    have HG := Lib.hid hG
    have HZ := Lib.hid hz
    have HR := Lib.hid hR
    have HE := Lib.hid hE
    rw [hz] at hLz
    clear hG hg D1 D0 hl hR hE
    go_wp2_with fail
    refine HLD.out.mono ?_
    rintro e w2 ⟨⟨a1, a2, a3⟩, ⟨b1, b2, b3⟩, ⟨c1, c2, c3⟩, ⟨d1, d2, d3⟩, rfl, bb, hcf, -⟩
    rw [HR.out] at hcf
    simp only [HR.out, cfgV]
    simp only at hcf
    have B2 := Lib.hid (bstep B1.out bb)
    have T2 := Lib.hid (T1.out.below bb)
    have HC2 := Lib.hid hcf
    clear bb hcf HLD
    by_cases he : er = 0
    · obtain ⟨q1, q2⟩ := HE.out.1 he
      subst he
      subst q1
      have k1 := (Below.refl _ w2).alloc (Nat.le_refl _) (.cells #[.slice a1 a2 a3, .slice b1 b2 b3, .slice c1 c2 c3, .slice d1 d2 d3] 27)
      have B3 := Lib.hid (bstep B2.out k1)
      have T3 := Lib.hid (T2.out.below k1)
      have HC3 := Lib.hid (check_cfg q2 a1 b1 c1 d1 a2 a3 b2 b3 c2 c3 d2 d3 _ (cfg_in (HC2.out.mono (Nat.zero_le _) (Nat.le_refl _)) k1) (T3.out.civ))
      clear k1 q2 HE HR HG HC2
      go_wp2_with fail
      refine HC3.out.mono ?_
      rintro e w4 ⟨rfl, b4⟩
      have B4 := Lib.hid (bstep B3.out b4)
      have T4 := Lib.hid (T3.out.below b4)
      clear b4 HC3
      go_wp2_with fail
      refine (sane8_any _ T4.out).mono ?_
      rintro e w5 ⟨rfl, b5⟩
      have B5 := bstep B4.out b5
      go_wp2_with fail
      go_ret
      exact ⟨rfl, B5⟩
    · obtain ⟨q1, q2, q3⟩ := HE.out.2 he
      subst q1
      have he2 : (er == 0) = false := by simpa using he
      obtain ⟨y1, y2, y3, y4⟩ := lens_no HC2.out
      simp only at y1 y2 y3 y4
      subst y1
      subst y2
      subst y3
      subst y4
      obtain ⟨m, hm⟩ : ∃ m : Nat, (ln - 1).toNat = m := ⟨_, rfl⟩
      have HM := Lib.hid hm
      have HM2 : Hid ((ln = 0 ∧ m = 0) ∨ ln = (m : Int) + 1) := Lib.hid (by omega)
      have hm11 : m ≤ 11 := by omega
      have HM3 : Hid (m < ls.length ∨ m = 0) := Lib.hid (by omega)
      have HLS := Lib.hid hls
      clear he HE HC2 hm hls
      go_wp2_with fail
      refine (same_no a1 b1 c1 d1 none none none none a3 b3 c3 d3 0 0 0 0 _).mono ?_
      rintro e w4 ⟨rfl, b4⟩
      have k1 := (Below.refl _ w2).alloc (Nat.le_refl _) (.cells #[.slice a1 0 a3, .slice b1 0 b3, .slice c1 0 c3, .slice d1 0 d3] 27)
      have B4 := Lib.hid (bstep (bstep B2.out k1) b4)
      have T4 := Lib.hid (T2.out.below (bstep k1 b4))
      clear k1 b4
      go_wp2_with fail
      go_loop [7, 8] (fun va vn => ∃ k i at_ : Nat, va = .int .i64 at_ ∧ vn = .int .i64 ((k : Int) + 1) ∧ at_ ≤ z ∧ k ≤ 11 ∧ Hid (AtL ls m k i at_)) (fun va _ => z - (intOf va).toNat)
      case atStart => exact ⟨0, 0, 0, rfl, rfl, Nat.zero_le _, by omega, Lib.hid ⟨rfl, Nat.zero_le _, fun _ => rfl, fun _ _ => Nat.zero_le _⟩⟩
      case round =>
        obtain ⟨k, i, at_, rfl, rfl, haz, hk11, HA⟩ := hrel
        by_cases hkm : k = m
        · have hi := HA.out.fin hkm
          have hat := HA.out.eq
          rw [hi, Nat.add_zero] at hat
          have hkm' := hkm.symm
          clear hkm
          subst hkm'
          have HAT := Lib.hid hat
          have g2 : decide ((m : Int) + 1 < ln) = false := by
            have := HM2.out
            simp
            omega
          have g4 : (0 : Int) ≤ (at_ : Int) := by omega
          have g5 : (at_ : Int) ≤ (z : Int) := by omega
          have g3 : ¬ ((m : Int) + 1 < ln) := by
            have := HM2.out
            omega
          have HP := Lib.hid (show GT8 (L.extract 0 at_) (ls.take m) from ⟨by rw [ext_toList L at_ (by rw [HZ.out]; exact haz), HG.out.eq, HAT.out]; exact R8.take_pos ls m, fun x hx => HG.out.all x (List.mem_of_mem_take hx)⟩)
          have HPL := Lib.hid (fun W (hW : LexT W) => load_lines HP.out (by have := HLS.out; rw [List.length_take]; omega) W hW)
          have HQ : Hid (ln = 0 ∨ (Rs.loadS (R8.txt (ls.take m))).2.1 = 0) := by
            refine Lib.hid ?_
            rcases HM2.out with h | h
            · exact .inl h.1
            · right
              have := R8.load_pre HG.out.all (L := ln) (by rw [HR.out]) (by omega)
              rw [← HM.out]
              exact this
          clear hi hat
          obtain ⟨P, hP⟩ : ∃ P, L.extract 0 at_ = P := ⟨_, rfl⟩
          rw [hP] at HPL
          obtain ⟨⟨er2, ln2, C2⟩, hR2⟩ : ∃ R, Rs.loadS (R8.txt (ls.take m)) = R := ⟨_, rfl⟩
          rw [hR2] at HQ HPL
          clear hR2 HP HA HAT HM HM3
          have HK : Hid (ln = 0 ∨ (ln ≠ 0 ∧ ln2 = 0)) := Lib.hid (by
            have := HQ.out
            simp only at this
            omega)
          clear HQ HR HG HM2 HLS
          by_cases hlt : at_ < z
          all_goals
            rcases HK.out with h0 | ⟨h0, h1⟩
            · subst h0
              clear HK
              go_wp2_with fail
              refine (HPL.out _ T4.out).mono ?_
              rintro e w5 ⟨⟨f1, f2, f3⟩, ⟨g1, g2, g3⟩, ⟨i1, i2, i3⟩, ⟨j1, j2, j3⟩, rfl, bb5, -, -⟩
              have B5 := Lib.hid (bstep B4.out bb5)
              have T5 := Lib.hid (fun o => (T4.out.below bb5).alloc o)
              simp only [cfgV]
              clear bb5
              go_wp2_with fail
              refine (sane8_any _ (T5.out _)).mono ?_
              rintro e w6 ⟨rfl, b6⟩
              have B6 := bstepA B5.out b6
              go_wp2_with fail
              go_ret
              exact ⟨rfl, B6⟩
            · subst h1
              have h2 : (ln == 0) = false := by simpa using h0
              clear HK h0
              go_wp2_with fail
              refine (HPL.out _ T4.out).mono ?_
              rintro e w5 ⟨⟨f1, f2, f3⟩, ⟨g1, g2, g3⟩, ⟨i1, i2, i3⟩, ⟨j1, j2, j3⟩, rfl, bb5, -, -⟩
              have B5 := Lib.hid (bstep B4.out bb5)
              have T5 := Lib.hid (fun o => (T4.out.below bb5).alloc o)
              simp only [cfgV]
              clear bb5
              go_wp2_with fail
              refine (sane8_any _ (T5.out _)).mono ?_
              rintro e w6 ⟨rfl, b6⟩
              have B6 := bstepA B5.out b6
              go_wp2_with fail
              go_ret
              exact ⟨rfl, B6⟩
        · have hkm2 : k < m := by have := HA.out.le; omega
          have hml : m < ls.length := by have := HM3.out; omega
          obtain ⟨x, hx⟩ := get_ex (xs := ls) (i := k) (by omega)
          have hins := HA.out.ins x hx
          have heq := HA.out.eq
          have hpl := R8.pos_lt hx
          rw [← HG.out.eq, ← Lib.size_eq, HZ.out] at hpl
          have g1 : at_ < z := by omega
          have g3 : (k : Int) + 1 < ln := by
            have := HM2.out
            omega
          have g2 : decide ((k : Int) + 1 < ln) = true := by
            have := HM2.out
            simp
            omega
          by_cases hi : i < x.length
          · obtain ⟨ch, hch, hc⟩ := R8.at_in HG.out.all hx hi
            rw [← HG.out.eq, ← heq] at hch
            have u6 : ∀ w, (Instr.index 9 (.string L) (.int .i64 (at_ : Int))).run Tryz.prog w = .ok (.int .u8 (ch.toNat : Int)) w := fun w => str_at hch 9 Tryz.underlying9 w
            have u9 : ((ch.toNat : Int) == 10) = false := by
              simp only [beq_eq_false_iff_ne, ne_eq]
              intro h
              exact hc (UInt8.toNat_inj.1 (by show ch.toNat = 10; omega))
            have HF := Lib.hid (show AtL ls m k (i + 1) (at_ + 1) from ⟨by omega, by omega, fun e => by omega, fun y hy => by rw [hx] at hy; cases hy; omega⟩)
            clear hch hc heq hpl hx hins HA
            go_wp2_with fail
            go_round
            case rel => exact ⟨k, i + 1, at_ + 1, by go_num, rfl, by omega, by omega, HF⟩
            case measure => simp [intOf]; omega
          · have hie : i = x.length := by omega
            have hch := R8.at_end hx
            rw [← HG.out.eq, ← hie, ← heq] at hch
            have u6 : ∀ w, (Instr.index 9 (.string L) (.int .i64 (at_ : Int))).run Tryz.prog w = .ok (.int .u8 ((10 : UInt8).toNat : Int)) w := fun w => str_at hch 9 Tryz.underlying9 w
            have u9 : (((10 : UInt8).toNat : Int) == 10) = true := rfl
            have HF := Lib.hid (show AtL ls m (k + 1) 0 (at_ + 1) from ⟨by rw [R8.pos_succ hx]; omega, by omega, fun e => rfl, fun y hy => Nat.zero_le _⟩)
            clear hch heq hpl hx hins HA hie
            go_wp2_with fail
            go_round
            case rel => exact ⟨k + 1, 0, at_ + 1, by go_num, by go_num, by omega, by omega, HF⟩
            case measure => simp [intOf]; omega
  · have hl : decide ((n : Int) ≤ 500) = false := by simp; omega
    clear hA hn hf
    go_enter Tryz.func4, Tryz.ntmps4
    go_wp2_with fail
    refine (Light_any A n c _).mono ?_
    rw [hl]
    rintro e w' ⟨rfl, rfl⟩
    go_wp2_with fail
    refine (sane8_any _ HT.out).mono ?_
    rintro e w1 ⟨rfl, b1⟩
    go_wp2_with fail
    go_ret
    exact ⟨rfl, b1⟩
end Go.Proofs.YtphenbfhojdcpaaGreatDoor
