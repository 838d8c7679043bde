/- The law WeekLengths returns true for all lists. -/
import Derived.Test.YtndngkfiamdohaaDoorWlk
import Derived.Test.YtndngkfiamdohaaDoorWsp
import Derived.Test.YtndngkfiamdohaaDoorZrd
namespace Go.Proofs.YtndngkfiamdohaaDoor
open Go.RowKit
set_option linter.unusedVariables false
set_option linter.unusedSimpArgs false
set_option maxRecDepth 100000

set_option maxHeartbeats 8000000 in
theorem wlen_law (A : Option Addr) (n c : Nat) (zs : List Int) (w : World) (hT : CivT w) (hA : NumsAt w A zs) (hn : zs.length = n) (hf : ∀ z ∈ zs, -9223372036854775808 ≤ z ∧ z ≤ 9223372036854775807) :
    Calls Tryd.prog 7 #[.slice A n c] w fun e w' => e = .returned (.bool true) ∧ Below w.heap.size w w' := by
  have HL := Light_any A n c w
  by_cases h5 : (n : Int) ≤ 500
  · rw [decide_eq_true h5] at HL
    have hD := Dice.start (c := c) hA hn (by omega) hf
    have hR := Roll_any A n c w
    have B1 := (Below.refl w.heap.size w).alloc (Nat.le_refl _) (.cells #[.slice A n c, .int .i64 0] 71)
    have hS := Zone_any _ _ _ _ _ ⟨#[97]⟩ _ hD
    clear hA hn hf
    go_enter Tryd.func7, Tryd.ntmps7
    go_wp2_with fail
    refine HL.mono ?_
    rintro e w1 ⟨rfl, rfl⟩
    go_wp2_with fail
    refine hR.mono ?_
    rintro e w1 ⟨rfl, rfl⟩
    go_wp2_with fail
    refine hS.mono ?_
    rintro e w2 ⟨off, A', n', c', rs, rfl, hG, hrn, hRS, G2, D2⟩
    have B2 := below_of_grown B1 G2 (by simp) (Nat.le_refl _)
    have hW := Windows_any _ _ _ _ _ _ D2
    have hz2 : w.heap.size < w2.heap.size := D2.lt_
    clear hS hR HL hD G2 B1
    go_wp2_with fail
    refine hW.mono ?_
    rintro e w3 ⟨v5, l, rfl, hO3, hRt, hl3, G3, D3⟩
    have hRS3 := hRS.gr (rules_far hRS D2) G3
    have B3 := below_of_grown B2 G3 B2.size (Nat.le_refl _)
    have hI := Instant_any _ _ _ _ _ _ (D3.alloc (.cells #[.string ⟨#[97]⟩, .int .i64 off, .slice A' n' c'] 32))
    have hz3 := G3.size
    clear hW B2 G3
    go_wp2_with fail
    refine hI.mono ?_
    rintro e w4 ⟨x, rfl, x1, x2, G4, D4⟩
    have B4 := below_of_grown (B3.alloc B3.size (.cells #[.string ⟨#[97]⟩, .int .i64 off, .slice A' n' c'] 32)) G4 (by have := B3.size; simp; omega) (Nat.le_refl _)
    have T4 : CivT w4 := hT.below B4
    have hRS4 := (hRS3.alloc (.cells #[.string ⟨#[97]⟩, .int .i64 off, .slice A' n' c'] 32)).gr (fun h0 ad ea => rules_far hRS3 D3 h0 ad ea) G4
    have ZB4 : ZBlk w4 w3.heap.size ⟨#[97]⟩ off A' n' c' := blk_after (blk_new rfl) G4 (by omega)
    have hO4 := (hO3.alloc (.cells #[.string ⟨#[97]⟩, .int .i64 off, .slice A' n' c'] 32)).grown G4 hz2
    obtain ⟨A5, c5, rfl, -, -, hS5⟩ := hO4.shape
    obtain ⟨n5, hn5⟩ : ∃ n5, l.length = n5 := ⟨_, rfl⟩
    rw [hn5]
    have hwin : WIn w4 A5 n5 l := ⟨hS5, hn5, by omega⟩
    obtain ⟨ts, htr, htb⟩ := hG.ex
    have hz : ZIn w4 A' n' rs := zin_of T4 hRS4 hrn hG.all (by have := hG.len; omega)
    have hoff : I64 off := ⟨by have := hG.lo; omega, by have := hG.hi; omega⟩
    have hvz := Zn.trans_vz htr
    have hc : Wk.chk l = 0 := Wk.chk_of hRt (by omega)
    obtain ⟨hv, hlen⟩ := Wk.good_set (f := x) (t := x + 604800) hvz htb hRt (by omega) (by omega) (by omega) (by omega) (by omega)
    obtain ⟨tv, te⟩ := tm_ok (l := l) (f := x) (t := x + 604800) hc (okQ_ok (by omega) (by omega) (by omega) (by omega)) hlen
    have CT := fun W (h : ZIn W A' n' rs) (hl : WIn W A5 n5 l) => times_is htr ⟨#[97]⟩ A' n' c' A5 n5 c5 l x (x + 604800) W h hoff hl ⟨by omega, by omega⟩ ⟨by omega, by omega⟩
    rw [tv, te] at CT
    have C1 := fun W (h : ZIn W A' n' rs) => roffAt_is htr ⟨#[97]⟩ A' n' c' x W h hoff
    have C2 := fun W (h : ZIn W A' n' rs) => roffAt_is htr ⟨#[97]⟩ A' n' c' (x + 604800) W h hoff
    rw [offV_ok (by omega) (by omega), offE_ok (by omega) (by omega)] at C1 C2
    have hwl := Wk.week_len (f := x) hvz hRt
    have ha := hvz.bd x
    have hb := hvz.bd (x + 604800)
    have hls := hRt.lens
    have hsm := Wk.up_sum (Wk.tms_has (off := off) (ts := ts) (f := x) (t := x + 604800) hRt (by omega)) (by omega)
    have hcb := Wk.cnt_bd (fun z => Wk.within l (Wk.sow (z + Zn.offAt off ts z))) x (x + 604800 - x).toNat
    rw [← hsm] at hcb
    have CL1 := fun W (h : WIn W A5 n5 l) => wlen_any A5 n5 c5 l W h
    have hlw : Wk.lenW l = Wk.lenS l := by unfold Wk.lenW; rw [if_pos hc]
    rw [hlw] at CL1
    obtain ⟨a, haa⟩ : ∃ a, Zn.offAt off ts x = a := ⟨_, rfl⟩
    obtain ⟨b, hbb⟩ : ∃ b, Zn.offAt off ts (x + 604800) = b := ⟨_, rfl⟩
    obtain ⟨R, hRR⟩ : ∃ R, Wk.tms [] off ts l x (x + 604800) = R := ⟨_, rfl⟩
    rw [haa] at C1 hwl ha
    rw [hbb] at C2 hwl hb
    rw [hRR] at CT hv hlen hwl hcb
    have hrl : Spn.len R = Spn.sum R := by unfold Spn.len; rw [if_pos hv]
    obtain ⟨S, hS⟩ : ∃ S, Spn.sum R = S := ⟨_, rfl⟩
    obtain ⟨M, hM⟩ : ∃ M, Wk.lenS l = M := ⟨_, rfl⟩
    rw [hS] at hwl hcb hrl
    rw [hM] at hwl hls CL1
    obtain ⟨q, hq⟩ : ∃ q, R.length = q := ⟨_, rfl⟩
    have CL2 := fun W (A6 : Option Addr) (c6 : Nat) (h : PairsAt W A6 R) => RLength_any A6 q c6 R W (spans_of h) hq (by omega)
    rw [hrl] at CL2
    have K4 : LK w off A' n' c' rs w3.heap.size A5 n5 l w4 := ⟨hz, ZB4, hwin, B4⟩
    obtain ⟨cb1, cb2⟩ := hcb
    have cb3 : S ≤ 604800 := by omega
    obtain ⟨hl0, hl1⟩ := hls
    have hl2 := hl1 (by omega)
    have HK4 := Lib.hid K4
    have HCT := Lib.hid CT
    have HC1 := Lib.hid C1
    have HC2 := Lib.hid C2
    have HL1 := Lib.hid CL1
    have HL2 := Lib.hid CL2
    have HT := Lib.hid hT
    obtain ⟨z0, z1, z2⟩ := ZBlk.cells ZB4
    obtain ⟨ha1, ha2⟩ := ha
    obtain ⟨hb1, hb2⟩ := hb
    have hw1 := hwl.1
    have hw2 := hwl.2
    clear hwl hl1 cb2 CT C1 C2 CL1 CL2 K4 ZB4 hwin hz hvz hc tv te hoff htr htb hG hRS hRS3 hRS4 hO3 hO4 hS5 D2 D3 D4 G4 B3 B4 T4 hI hRt hsm hlw haa hbb hRR hrl hS hM hn5 hv hT
    go_wp2_with fail
    refine (HCT.out _ HK4.out.z HK4.out.win).mono ?_
    rintro e w5 ⟨A6, c6, rfl, hP, b5⟩
    have HP5 := Lib.hid hP
    have HK5 := Lib.hid (HK4.out.after b5)
    clear z0 z1 z2 b5 hP HK4
    obtain ⟨z0, z1, z2⟩ := ZBlk.cells HK5.out.zb
    rw [hq]
    go_wp2_with fail
    refine (HC1.out _ HK5.out.z).mono ?_
    rintro e w6 ⟨rfl, b6⟩
    have HP6 := Lib.hid (HP5.out.below b6)
    have HK6 := Lib.hid (HK5.out.after b6)
    clear z0 z1 z2 b6 HK5 HP5
    obtain ⟨z0, z1, z2⟩ := ZBlk.cells HK6.out.zb
    go_wp2_with fail
    refine (HC2.out _ HK6.out.z).mono ?_
    rintro e w7 ⟨rfl, b7⟩
    have HP7 := Lib.hid (HP6.out.below b7)
    have HK7 := Lib.hid (HK6.out.after b7)
    clear z0 z1 z2 b7 HK6 HP6
    by_cases hab : b - a < 0
    · rw [if_pos hab] at hw1 hw2
      go_wp2_with fail
      refine (HL2.out _ _ _ HP7.out).mono ?_
      rintro e w8 ⟨rfl, b8⟩
      have HK8 := Lib.hid (HK7.out.after b8)
      clear b8
      go_wp2_with fail
      refine (HL1.out _ HK8.out.win).mono ?_
      rintro e w9 ⟨rfl, b9⟩
      have HK9 := Lib.hid (HK8.out.after b9)
      clear b9
      go_wp2_with fail
      refine (wsane_any _ (HT.out.below HK9.out.bel)).mono ?_
      rintro e w10 ⟨rfl, b10⟩
      go_wp2_with fail
      go_ret
      exact ⟨rfl, bstep HK9.out.bel b10⟩
    · rw [if_neg hab] at hw1 hw2
      go_wp2_with fail
      refine (HL2.out _ _ _ HP7.out).mono ?_
      rintro e w8 ⟨rfl, b8⟩
      have HK8 := Lib.hid (HK7.out.after b8)
      clear b8
      go_wp2_with fail
      refine (HL1.out _ HK8.out.win).mono ?_
      rintro e w9 ⟨rfl, b9⟩
      have HK9 := Lib.hid (HK8.out.after b9)
      clear b9
      go_wp2_with fail
      refine (wsane_any _ (HT.out.below HK9.out.bel)).mono ?_
      rintro e w10 ⟨rfl, b10⟩
      go_wp2_with fail
      go_ret
      exact ⟨rfl, bstep HK9.out.bel b10⟩
  · rw [decide_eq_false h5] at HL
    have HS := Lib.hid (wsane_any w hT)
    clear hA hf
    go_enter Tryd.func7, Tryd.ntmps7
    go_wp2_with fail
    refine HL.mono ?_
    rintro e w1 ⟨rfl, rfl⟩
    go_wp2_with fail
    refine HS.out.mono ?_
    rintro e w7 ⟨rfl, b7⟩
    go_wp2_with fail
    go_ret
    exact ⟨rfl, b7⟩
end Go.Proofs.YtndngkfiamdohaaDoor
