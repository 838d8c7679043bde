/- The law WeekInverts returns true for all lists and numbers. -/
import Derived.Test.YtndngkfiamdohaaDoorWlk
import Derived.Deep.RegionHeld3
import Derived.Deep.DeepCutAuto
namespace Go.Proofs.YtndngkfiamdohaaDoor
open Go.RowKit
set_option linter.unusedVariables false
set_option linter.unusedSimpArgs false
set_option maxRecDepth 100000

/-- What is known once the windows are inverted twice. -/
structure LI (w : World) (off : Int) (A' : Option Addr) (n' c' : Nat) (rs : List Zn.Rule) (bz : Nat) (A5 : Option Addr) (n5 : Nat) (l : Wk.L) (A6 : Option Addr) (n6 : Nat) (v : Wk.L) (A7 : Option Addr) (n7 : Nat) (u : Wk.L) (W : World) : Prop where
  k : LK w off A' n' c' rs bz A5 n5 l W
  wv : WIn W A6 n6 v
  wu : WIn W A7 n7 u
section
variable {w : World} {off : Int} {A' : Option Addr} {n' c' : Nat} {rs : List Zn.Rule} {bz : Nat} {A5 : Option Addr} {n5 : Nat} {l : Wk.L} {A6 : Option Addr} {n6 : Nat} {v : Wk.L} {A7 : Option Addr} {n7 : Nat} {u : Wk.L} {W W' : World}
theorem LI.after (h : LI w off A' n' c' rs bz A5 n5 l A6 n6 v A7 n7 u W) (hb : Below W.heap.size W W') : LI w off A' n' c' rs bz A5 n5 l A6 n6 v A7 n7 u W' := ⟨h.k.after hb, h.wv.below hb, h.wu.below hb⟩
/-- What stands in the great region. -/
def LIS (w : World) (off : Int) (A' : Option Addr) (n' c' : Nat) (rs : List Zn.Rule) (bz : Nat) (A5 : Option Addr) (n5 : Nat) (l : Wk.L) (A6 : Option Addr) (n6 : Nat) (v : Wk.L) (A7 : Option Addr) (n7 : Nat) (u : Wk.L) (W : World) : Prop :=
  W.cell? ⟨bz, 0, none⟩ = some (.string ⟨#[97]⟩) ∧ W.cell? ⟨bz, 1, none⟩ = some (.int .i64 off) ∧ W.cell? ⟨bz, 2, none⟩ = some (.slice A' n' c') ∧ LI w off A' n' c' rs bz A5 n5 l A6 n6 v A7 n7 u W
theorem LI.st (h : LI w off A' n' c' rs bz A5 n5 l A6 n6 v A7 n7 u W) : W.cell? ⟨bz, 0, none⟩ = some (.string ⟨#[97]⟩) ∧ W.cell? ⟨bz, 1, none⟩ = some (.int .i64 off) ∧ W.cell? ⟨bz, 2, none⟩ = some (.slice A' n' c') ∧ LI w off A' n' c' rs bz A5 n5 l A6 n6 v A7 n7 u W := by
  obtain ⟨z0, z1, z2⟩ := ZBlk.cells h.k.zb
  exact ⟨z0, z1, z2, h⟩
end
theorem sep_get : ∀ {s : Wk.L} {e : Int}, Wk.Sep e s → ∀ {k : Nat} {x y : Int × Int}, s[k]? = some x → s[k + 1]? = some y → x.2 < y.1
  | [], _, _, k, x, y, h, _ => by simp at h
  | [a], _, _, k, x, y, h, h2 => by simp at h2
  | a :: b :: t, e, ⟨h1, h2, h3⟩, 0, x, y, hx, hy => by
    simp at hx hy; subst hx; subst hy
    have := h3.1; omega
  | a :: b :: t, e, ⟨h1, h2, h3⟩, k + 1, x, y, hx, hy => sep_get h3 (k := k) (by simpa using hx) (by simpa using hy)

set_option maxHeartbeats 8000000 in
theorem winv_law (A : Option Addr) (n c : Nat) (zs : List Int) (k : Int) (w : World) (hT : CivT w) (hA : NumsAt w A zs) (hn : zs.length = n) (hf : ∀ z ∈ zs, -9223372036854775808 ≤ z ∧ z ≤ 9223372036854775807) (k1 : -9223372036854775808 ≤ k) (k2 : k ≤ 9223372036854775807) :
    Calls Tryd.prog 6 #[.slice A n c, .int .i64 k] w fun e w' => e = .returned (.bool true) ∧ Below w.heap.size w w' := by
  have HL := Light_any A n c w
  by_cases h5 : (n : Int) ≤ 500
  · rw [decide_eq_true h5] at HL
    have hD := Dice.start (c := c) hA hn (by omega) hf
    have hR := Roll_any A n c w
    have B1 := (Below.refl w.heap.size w).alloc (Nat.le_refl _) (.cells #[.slice A n c, .int .i64 0] 71)
    have hS := Zone_any _ _ _ _ _ ⟨#[97]⟩ _ hD
    have hM := fun W => Mod_any k 3600 W k1 k2 (by omega) (by omega)
    have hkm : 0 ≤ k % 3600 ∧ k % 3600 < 3600 := by omega
    generalize k % 3600 = y at hM hkm
    obtain ⟨y1, y2⟩ := hkm
    have HM := Lib.hid hM
    clear hA hn hf hM
    go_enter Tryd.func6, Tryd.ntmps6
    go_wp2_with fail
    refine HL.mono ?_
    rintro e w1 ⟨rfl, rfl⟩
    go_wp2_with fail
    refine hR.mono ?_
    rintro e w1 ⟨rfl, rfl⟩
    go_wp2_with fail
    refine hS.mono ?_
    rintro e w2 ⟨off, A', n', c', rs, rfl, hG, hrn, hRS, G2, D2⟩
    have B2 := below_of_grown B1 G2 (by simp) (Nat.le_refl _)
    have hW := Windows_any _ _ _ _ _ _ D2
    have hz2 : w.heap.size < w2.heap.size := D2.lt_
    clear hS hR HL hD G2 B1
    go_wp2_with fail
    refine hW.mono ?_
    rintro e w3 ⟨v5, l, rfl, hO3, hRt, hl3, G3, D3⟩
    have hRS3 := hRS.gr (rules_far hRS D2) G3
    have B3 := below_of_grown B2 G3 B2.size (Nat.le_refl _)
    have hz3 := G3.size
    have hc : Wk.chk l = 0 := Wk.chk_of hRt (by omega)
    have hln := Wk.inv_len l 0
    have hrv := Wk.inv_rt hRt (Int.le_refl 0) (by omega)
    obtain ⟨tw1, tw2⟩ := Wk.twice_sep hRt
    have hlens := Wk.inv_lens hRt (by omega)
    have hwv := fun s (h1 : 0 ≤ s) (h2 : s < 604800) => Wk.inv_with (s := s) hRt (Int.le_refl 0) (by omega) h1 h2
    have hwu := fun s (h1 : 0 ≤ s) (h2 : s < 604800) => Wk.inv_with (s := s) hrv (Int.le_refl 0) (by omega) h1 h2
    have e1 : Wk.invV l = Wk.inv 0 l := by unfold Wk.invV; rw [if_pos hc, if_neg (by omega)]
    have e2 : Wk.invE l = 0 := by unfold Wk.invE; rw [if_pos hc, if_neg (by omega)]
    obtain ⟨v, hv⟩ : ∃ v, Wk.inv 0 l = v := ⟨_, rfl⟩
    rw [hv] at hln hrv tw1 tw2 hlens hwv hwu e1
    have hcv : Wk.chk v = 0 := Wk.chk_of hrv (by omega)
    have hlu := Wk.inv_len v 0
    have e3 : Wk.invV v = Wk.inv 0 v := by unfold Wk.invV; rw [if_pos hcv, if_neg (by omega)]
    have e4 : Wk.invE v = 0 := by unfold Wk.invE; rw [if_pos hcv, if_neg (by omega)]
    obtain ⟨u, hu⟩ : ∃ u, Wk.inv 0 v = u := ⟨_, rfl⟩
    rw [hu] at tw1 tw2 hwu hlu e3
    have hru : Wk.Rt 0 u := by rw [← hu]; exact Wk.inv_rt hrv (Int.le_refl 0) (by omega)
    have hcu : Wk.chk u = 0 := Wk.chk_of hru (by omega)
    -- the windows, as they stand behind the box of the zone
    obtain ⟨A5, c5, rfl, -, -, hS5⟩ := hO3.shape
    obtain ⟨n5, hn5⟩ : ∃ n5, l.length = n5 := ⟨_, rfl⟩
    rw [hn5]
    have hwin3 : WIn w3 A5 n5 l := ⟨hS5, hn5, by omega⟩
    have hwin4 := hwin3.alloc (.cells #[.string ⟨#[97]⟩, .int .i64 off, .slice A' n' c'] 32)
    have CI1 := winv_is e1 e2 A5 n5 c5 _ hwin4
    have D3a := D3.alloc (.cells #[.string ⟨#[97]⟩, .int .i64 off, .slice A' n' c'] 32)
    have B3a := B3.alloc B3.size (.cells #[.string ⟨#[97]⟩, .int .i64 off, .slice A' n' c'] 32)
    have hRS3a := hRS3.alloc (.cells #[.string ⟨#[97]⟩, .int .i64 off, .slice A' n' c'] 32)
    have ZB3 : ZBlk (w3.alloc (.cells #[.string ⟨#[97]⟩, .int .i64 off, .slice A' n' c'] 32)) w3.heap.size ⟨#[97]⟩ off A' n' c' := blk_new rfl
    have hzbg : w3.heap.size ≠ w.heap.size := by omega
    clear hW B2 G3 hv hu e1 e2 hO3 hS5 hRS D2 hRS3 hwin3 B3
    obtain ⟨wa, hwa⟩ : ∃ wa : World, w3.alloc (.cells #[.string ⟨#[97]⟩, .int .i64 off, .slice A' n' c'] 32) = wa := ⟨_, rfl⟩
    rw [hwa] at D3a B3a hRS3a ZB3 hwin4 CI1
    go_wp2_with fail
    refine CI1.mono ?_
    rintro e w4 ⟨A6, c6, rfl, hP6, b4⟩
    clear hwa
    obtain ⟨n6, hn6⟩ : ∃ n6, v.length = n6 := ⟨_, rfl⟩
    rw [hn6]
    have hwv4 : WIn w4 A6 n6 v := ⟨hP6, hn6, by omega⟩
    have CI2 := winv_is e3 e4 A6 n6 c6 w4 hwv4
    clear hP6 e3 e4 CI1
    go_wp2_with fail
    refine CI2.mono ?_
    rintro e w5 ⟨A7, c7, rfl, hP7, b5⟩
    obtain ⟨n7, hn7⟩ : ∃ n7, u.length = n7 := ⟨_, rfl⟩
    rw [hn7]
    have b45 := bstep b4 b5
    have D5 := D3a.after b45
    have B5 := bstep B3a b45
    have hI := Instant_any _ _ _ _ _ _ D5
    clear CI2
    go_wp2_with fail
    refine hI.mono ?_
    rintro e w6 ⟨x, rfl, x1, x2, G6, D6⟩
    have B6 := below_of_grown B5 G6 (B5.size) (Nat.le_refl _)
    have T6 : CivT w6 := hT.below B6
    have hRS5 := hRS3a.below b45
    have hRS6 := hRS5.gr (rules_far hRS5 D5) G6
    have hl5 := hwin4.at_.below b45
    have hl6 := hl5.gr (pairs_far hl5 D5) G6
    have hv5 := hwv4.at_.below b5
    have hv6 := hv5.gr (pairs_far hv5 D5) G6
    have hu6 := hP7.gr (pairs_far hP7 D5) G6
    have ZB6 : ZBlk w6 w3.heap.size ⟨#[97]⟩ off A' n' c' := blk_after (BlkAt.after ZB3 b45) G6 hzbg
    obtain ⟨ts, htr, htb⟩ := hG.ex
    have hz : ZIn w6 A' n' rs := zin_of T6 hRS6 hrn hG.all (by have := hG.len; omega)
    have hoff : I64 off := ⟨by have := hG.lo; omega, by have := hG.hi; omega⟩
    have hvz := Zn.trans_vz htr
    have K6 : LI w off A' n' c' rs w3.heap.size A5 n5 l A6 n6 v A7 n7 u w6 := ⟨⟨hz, ZB6, ⟨hl6, hn5, by omega⟩, B6⟩, ⟨hv6, hn6, by omega⟩, ⟨hu6, hn7, by omega⟩⟩
    have HK6 := Lib.hid K6
    -- the instant, and whether it lies in the windows
    obtain ⟨X, hX⟩ : ∃ X, x + y = X := ⟨_, rfl⟩
    have hx1 : 0 ≤ X ∧ X ≤ 8589934592 := by omega
    have es : offE 0 X = 0 := offE_ok hx1.1 hx1.2
    have hsec : secV off ts 0 X = Wk.sow (X + Zn.offAt off ts X) := by unfold secV; rw [if_neg (by simpa using es), offV_ok hx1.1 hx1.2]
    have hsb := Wk.sow_bd (X + Zn.offAt off ts X)
    obtain ⟨S, hS⟩ : ∃ S, Wk.sow (X + Zn.offAt off ts X) = S := ⟨_, rfl⟩
    rw [hS] at hsec hsb
    have hwv2 := hwv S hsb.1 hsb.2
    have hwu2 := hwu S hsb.1 hsb.2
    have i1 : inV off ts 0 l X = Wk.within l S := by unfold inV; rw [es, hsec, decide_eq_true hc]; simp
    have i2 : inV off ts 0 v X = Wk.within v S := by unfold inV; rw [es, hsec, decide_eq_true hcv]; simp
    have i3 : inV off ts 0 u X = Wk.within u S := by unfold inV; rw [es, hsec, decide_eq_true hcu]; simp
    rw [hwu2, hwv2] at i3
    rw [hwv2] at i2
    have CI1 := fun W (h : ZIn W A' n' rs) (hl : WIn W A5 n5 l) => wkin_is htr ⟨#[97]⟩ A' n' c' A5 n5 c5 l X W h hoff hl
    have CI2 := fun W (h : ZIn W A' n' rs) (hl : WIn W A6 n6 v) => wkin_is htr ⟨#[97]⟩ A' n' c' A6 n6 c6 v X W h hoff hl
    have CI3 := fun W (h : ZIn W A' n' rs) (hl : WIn W A7 n7 u) => wkin_is htr ⟨#[97]⟩ A' n' c' A7 n7 c7 u X W h hoff hl
    rw [i1] at CI1
    rw [i2] at CI2
    rw [i3] at CI3
    have CL1 := fun W (hl : WIn W A5 n5 l) => wlen_any A5 n5 c5 l W hl
    have CL2 := fun W (hl : WIn W A6 n6 v) => wlen_any A6 n6 c6 v W hl
    rw [show Wk.lenW l = Wk.lenS l by unfold Wk.lenW; rw [if_pos hc]] at CL1
    rw [show Wk.lenW v = Wk.lenS v by unfold Wk.lenW; rw [if_pos hcv]] at CL2
    have CC := fun W (hl : WIn W A6 n6 v) => wchk_is hcv A6 n6 c6 W hl
    obtain ⟨M1, hM1⟩ : ∃ M, Wk.lenS l = M := ⟨_, rfl⟩
    obtain ⟨M2, hM2⟩ : ∃ M, Wk.lenS v = M := ⟨_, rfl⟩
    have hm1 := hRt.lens.1
    have hm2 := hrv.lens.1
    rw [hM1] at CL1 hlens hm1
    rw [hM2] at CL2 hlens hm2
    have sm : IntKind.i64.wrap (M1 + M2) = 604800 := by rw [IntKind.wrap_i64]; omega
    obtain ⟨bt, hbt⟩ : ∃ bt, Wk.within l S = bt := ⟨_, rfl⟩
    rw [hbt] at CI1 CI2 CI3
    have HSEP := Lib.hid tw1
    have hle : n7 ≤ n5 := by omega
    have hn7b : n7 ≤ 5 := by omega
    have HCL1 := Lib.hid CL1
    have HCL2 := Lib.hid CL2
    have HCC := Lib.hid CC
    have HT := Lib.hid hT
    have HU := Lib.hid hn7
    have hX2 := hX
    clear hX hx1 es hsec hsb hS hwv2 hwu2 i1 i2 i3 CL1 CL2 CC hM1 hM2 hm1 hm2 hbt hc hcv hcu hG hrn hRt hrv hru tw1 tw2 hlens hwv hwu hln hlu htr htb hz hoff hvz K6 D5 D6 G6 B5 B6 T6 hRS5 hRS6 hl5 hl6 hv5 hv6 hu6 hP7 ZB6 ZB3 hwin4 hwv4 D3 D3a B3a hRS3a b4 b5 b45 hI hl3 hn5 hn6 hn7 hT
    go_wp2_with fail
    refine (HM.out _).mono ?_
    rintro e w7 ⟨rfl, rfl⟩
    cases bt
    all_goals
      simp only [Bool.not_false, Bool.not_true] at CI1 CI2 CI3
      have HI1 := Lib.hid CI1
      have HI2 := Lib.hid CI2
      have HI3 := Lib.hid CI3
      clear CI1 CI2 CI3
      obtain ⟨z0, z1, z2, -⟩ := HK6.out.st
      have S0 := HK6.out.st
      go_upto_region 8 with fail
      go_cut [79] (fun q wx => q = .bool false ∧ Hid (LI w off A' n' c' rs w3.heap.size A5 n5 l A6 n6 v A7 n7 u wx))
      case first =>
        go_region_held3 (fun W => W.cell? ⟨w3.heap.size, 0, none⟩ = some (.string ⟨#[97]⟩) ∧ W.cell? ⟨w3.heap.size, 1, none⟩ = some (.int .i64 off) ∧ W.cell? ⟨w3.heap.size, 2, none⟩ = some (.slice A' n' c') ∧ LI w off A' n' c' rs w3.heap.size A5 n5 l A6 n6 v A7 n7 u W)
          (first | exact S0 | exact (HK6.out.after (Below.refl _ _).drew).st | assumption | exact (LI.after (And.right (And.right (And.right (by assumption)))) hb).st)
          (first | (go_at_call 12; ((with_reducible refine (HCL1.out _ ?_).mono ?_); exact (And.right (And.right (And.right (by assumption : _ ∧ _ ∧ _ ∧ LI w off A' n' c' rs w3.heap.size A5 n5 l A6 n6 v A7 n7 u _)))).k.win; rintro e w' ⟨rfl, hb⟩)) | (go_at_call 12; ((with_reducible refine (HCL2.out _ ?_).mono ?_); exact (And.right (And.right (And.right (by assumption : _ ∧ _ ∧ _ ∧ LI w off A' n' c' rs w3.heap.size A5 n5 l A6 n6 v A7 n7 u _)))).wv; rintro e w' ⟨rfl, hb⟩)) | (go_at_call 11; ((with_reducible refine (HCC.out _ ?_).mono ?_); exact (And.right (And.right (And.right (by assumption : _ ∧ _ ∧ _ ∧ LI w off A' n' c' rs w3.heap.size A5 n5 l A6 n6 v A7 n7 u _)))).wv; rintro e w' ⟨rfl, hb⟩)) | (go_at_call 13; ((with_reducible refine (HI1.out _ ?_ ?_).mono ?_); exact (And.right (And.right (And.right (by assumption : _ ∧ _ ∧ _ ∧ LI w off A' n' c' rs w3.heap.size A5 n5 l A6 n6 v A7 n7 u _)))).k.z; exact (And.right (And.right (And.right (by assumption : _ ∧ _ ∧ _ ∧ LI w off A' n' c' rs w3.heap.size A5 n5 l A6 n6 v A7 n7 u _)))).k.win; rintro e w' ⟨rfl, hb⟩)) | (go_at_call 13; ((with_reducible refine (HI2.out _ ?_ ?_).mono ?_); exact (And.right (And.right (And.right (by assumption : _ ∧ _ ∧ _ ∧ LI w off A' n' c' rs w3.heap.size A5 n5 l A6 n6 v A7 n7 u _)))).k.z; exact (And.right (And.right (And.right (by assumption : _ ∧ _ ∧ _ ∧ LI w off A' n' c' rs w3.heap.size A5 n5 l A6 n6 v A7 n7 u _)))).wv; rintro e w' ⟨rfl, hb⟩)) | (go_at_call 13; ((with_reducible refine (HI3.out _ ?_ ?_).mono ?_); exact (And.right (And.right (And.right (by assumption : _ ∧ _ ∧ _ ∧ LI w off A' n' c' rs w3.heap.size A5 n5 l A6 n6 v A7 n7 u _)))).k.z; exact (And.right (And.right (And.right (by assumption : _ ∧ _ ∧ _ ∧ LI w off A' n' c' rs w3.heap.size A5 n5 l A6 n6 v A7 n7 u _)))).wu; rintro e w' ⟨rfl, hb⟩)))
        all_goals
          go_wp2_with fail
          go_meet
          first
          | exact ⟨rfl, Lib.hid (And.right (And.right (And.right (by assumption : _ ∧ _ ∧ _ ∧ LI w off A' n' c' rs w3.heap.size A5 n5 l A6 n6 v A7 n7 u _))))⟩
          | exact ⟨rfl, Lib.hid (LI.after (And.right (And.right (And.right (by assumption : _ ∧ _ ∧ _ ∧ LI w off A' n' c' rs w3.heap.size A5 n5 l A6 n6 v A7 n7 u _)))) hb)⟩
      case rest =>
        obtain ⟨rfl, HB⟩ := hcut
        obtain ⟨w8, rfl⟩ : ∃ w8 : World, w8 = wc := ⟨_, rfl⟩
        clear z0 z1 z2 S0 HI1 HI2 HI3
        go_wp2_with fail
        go_loopw [13] (fun i wr => ∃ q : Nat, i = .int .i64 q ∧ 1 ≤ q ∧ q ≤ n7 + 1 ∧ Hid (LI w off A' n' c' rs w3.heap.size A5 n5 l A6 n6 v A7 n7 u wr)) (fun i _ => n7 - (intOf i).toNat)
        case atStart => exact ⟨1, rfl, by omega, by omega, HB⟩
        case round =>
          clear HB
          obtain ⟨q, rfl, hq1, hq2, HB⟩ := hrel
          by_cases hlt : q < n7
          · obtain ⟨a, b, bl, of, hx, e9, hb, c0, c1⟩ := HB.out.wu.get hlt
            obtain ⟨a2, b2, bl2, of2, hy, e8, hb2, c2, c3⟩ := HB.out.wu.get (k := q - 1) (by omega)
            subst e9
            cases e8
            have hs := sep_get HSEP.out hy (by rw [show q - 1 + 1 = q by omega]; exact hx)
            simp only at hs
            have d1 : decide (a ≤ b2) = false := by simp; omega
            have i0 : (0 : Int) ≤ q := by omega
            have i1 : (q : Int) < n7 := by omega
            have i2 : (0 : Int) ≤ (q : Int) - 1 := by omega
            have i3 : (q : Int) - 1 < n7 := by omega
            have i4 : ((q : Int) - 1).toNat = q - 1 := by omega
            have i5 : (1 : Int) ≤ q := by omega
            clear hx hy
            go_wp2_with fail
            go_quiet (fail)
            go_wp2_with fail
            go_roundw
            case rel => exact ⟨q + 1, by go_num, by omega, by omega, Lib.hid (HB.out.after (below_drewN (Below.refl _ _) _))⟩
            case measure => simp [intOf]; omega
          · have HS := Lib.hid (wsane_any wr (HT.out.below HB.out.k.bel))
            go_wp2_with fail
            refine HS.out.mono ?_
            rintro e w9 ⟨rfl, b9⟩
            go_wp2_with fail
            go_ret
            exact ⟨rfl, bstep HB.out.k.bel b9⟩
  · rw [decide_eq_false h5] at HL
    have HS := Lib.hid (wsane_any w hT)
    clear hA hf
    go_enter Tryd.func6, Tryd.ntmps6
    go_wp2_with fail
    refine HL.mono ?_
    rintro e w1 ⟨rfl, rfl⟩
    go_wp2_with fail
    refine HS.out.mono ?_
    rintro e w7 ⟨rfl, b7⟩
    go_wp2_with fail
    go_ret
    exact ⟨rfl, b7⟩
end Go.Proofs.YtndngkfiamdohaaDoor
