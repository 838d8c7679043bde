/- The law RecurCivil returns true for all arguments. Printed by gen_tcl.py. -/
import Derived.Test.YthaacmmkignocaaDoorKTcs
import Derived.Test.YthaacmmkignocaaDoorKG33
import Derived.Test.YthaacmmkignocaaDoorKZre
namespace Go.Proofs.YthaacmmkignocaaDoor
open Go.RowKit
set_option linter.unusedVariables false
set_option linter.unusedSimpArgs false
set_option maxRecDepth 100000
set_option maxHeartbeats 16000000 in
theorem recurcivil_any (A : Option Addr) (n c : Nat) (zs : List Int) (k : Int) (w : World) (hT : CivT w) (hA : NumsAt w A zs) (hn : zs.length = n) (hf : ∀ z ∈ zs, -9223372036854775808 ≤ z ∧ z ≤ 9223372036854775807) (hk : I64 k) :
    Calls Tryd.prog 6 #[.slice A n c, .int .i64 k] w fun e w' => e = .returned (.bool true) ∧ Below w.heap.size w w' := by
  have HT := Lib.hid (show ∀ W, Below w.heap.size w W → CivT W from fun W hb => hT.below hb)
  clear hT
  by_cases h5 : n ≤ 500
  · have hl : decide ((n : Int) ≤ 500) = true := by simp; omega
    have D0 := Lib.hid (Dice.start (c := c) hA hn h5 hf)
    clear hA hn hf
    go_enter Tryd.func6, Tryd.ntmps6
    go_wp2_with fail
    refine (Light_any A n c _).mono ?_
    rw [hl]
    rintro e w' ⟨rfl, rfl⟩
    go_wp2_with fail
    refine (Roll_any A n c _).mono ?_
    rintro e w' ⟨rfl, rfl⟩
    go_wp2_with fail
    refine (Staff_any w.heap.size n c A zs _ D0.out).mono ?_
    rintro e w1 ⟨⟨a1, a2, a3⟩, ⟨b1, b2, b3⟩, ⟨d1, d2, d3⟩, C, rfl, hS, -, hM, hz1, hp1, hg, hD⟩
    simp only [cfgV, noSV]
    have B1 := Lib.hid (below_of_grown ((Below.refl _ w).alloc (Nat.le_refl _) (.cells #[.slice A n c, .int .i64 0] 69)) hg (by simp) (Nat.le_refl _))
    have hza := hS.zones.len; have hpa := hS.people.len; have hca := hS.cals.len
    simp only at hza hpa hca
    have hzl := hM.zl; have hpl := hM.pl; have hcl := hM.cl
    have HM := Lib.hid hM
    have HST := Lib.hid (StaffS.mv hS (Mv.of_below (S' := fun q => w.heap.size < q) ((Below.refl _ w1).alloc (Nat.le_refl _) (.cells #[.slice a1 a2 a3, .slice b1 b2 b3, .slice d1 d2 d3, .slice none 0 0] 32)) (fun b h _ => by simp at h; omega)))
    have hgl := hD.lt_
    have HD := Lib.hid (hD.alloc (.cells #[.slice a1 a2 a3, .slice b1 b2 b3, .slice d1 d2 d3, .slice none 0 0] 32))
    have CB := Lib.hid (BlkAt.new w1 #[.slice a1 a2 a3, .slice b1 b2 b3, .slice d1 d2 d3, .slice none 0 0] 32)
    have B2 := Lib.hid (B1.out.alloc B1.out.size (.cells #[.slice a1 a2 a3, .slice b1 b2 b3, .slice d1 d2 d3, .slice none 0 0] 32))
    clear hS hM hg hD D0 B1 h5
    go_upto_region 5 with fail
    generalize hcb : w1.heap.size = cb at CB hgl ⊢
    generalize w1.alloc (.cells #[.slice a1 a2 a3, .slice b1 b2 b3, .slice d1 d2 d3, .slice none 0 0] 32) = W2 at HST HD CB B2 ⊢
    clear hcb
    have y0 := CB.out.cell (i := 0) rfl; have y1 := CB.out.cell (i := 1) rfl; have y2 := CB.out.cell (i := 2) rfl; have y3 := CB.out.cell (i := 3) rfl
    go_upto_region 6 with (go_at_call 12; refine (Layer_lit w.heap.size n c A zs a1 b1 d1 none a2 a3 b2 b3 d2 d3 0 0 [97] (by omega) (by omega) (by omega) (by omega) (by omega) W2 HD.out).mono ?_; rintro e w3 ⟨l, m1, m2, m3, q1, q2, q3, rfl, -, hml, hls, hg3, hD3⟩)
    have hmem := hls.1.len
    simp only at hmem
    have LB := Lib.hid (BlkAt.new w3 #[.string ⟨#[97]⟩, .int .i64 l.zone, .int .i64 l.day, .int .i64 l.sec, .int .i64 l.unit, .int .i64 l.every, .slice m1 m2 m3, .slice q1 q2 q3, .int .i64 l.cal, .int .i64 l.mode] 38)
    have k3 := (Below.refl _ w3).alloc (Nat.le_refl _) (.cells #[.string ⟨#[97]⟩, .int .i64 l.zone, .int .i64 l.day, .int .i64 l.sec, .int .i64 l.unit, .int .i64 l.every, .slice m1 m2 m3, .slice q1 q2 q3, .int .i64 l.cal, .int .i64 l.mode] 38)
    have CB3 := Lib.hid ((CB.out.grown hg3 (by intro e; cases e; omega)).after k3)
    have HD3 := Lib.hid (hD3.after k3)
    have HST3 := Lib.hid ((HST.out.mv (Mv.of_grown (S' := fun q => w.heap.size < q) hg3 (fun g e => by cases e; omega) (fun b h _ => h))).mv (Mv.of_below (S' := fun q => w.heap.size < q) k3 (fun b h _ => h)))
    have B3 := Lib.hid (bstep (below_of_grown B2.out hg3 B2.out.size (Nat.le_refl _)) k3)
    have HML := Lib.hid hml
    clear y0 y1 y2 y3 hls hg3 hD3 k3 CB HD HST B2 hml
    generalize hlb : w3.heap.size = lb at LB ⊢
    generalize w3.alloc (.cells #[.string ⟨#[97]⟩, .int .i64 l.zone, .int .i64 l.day, .int .i64 l.sec, .int .i64 l.unit, .int .i64 l.every, .slice m1 m2 m3, .slice q1 q2 q3, .int .i64 l.cal, .int .i64 l.mode] 38) = W3 at LB CB3 HD3 HST3 B3 ⊢
    clear hlb
    obtain ⟨hz, e1, e2, e3, e4, e5, e6, e7, ⟨e8, e9⟩, hmn, hm3, -, -, -, -⟩ := HML.out
    obtain ⟨i, hi, hia⟩ : ∃ i : Nat, l.zone = i ∧ i < a2 := ⟨l.zone.toNat, by unfold Rs.isIx at hz; simp at hz; omega, by unfold Rs.isIx at hz; simp at hz; omega⟩
    obtain ⟨x, ⟨v1, v2, v3⟩, zb, zoff, hx, ea, hzb, hcell, hZS⟩ := (HST3.out.zones.nest (Q := fun _ _ W z v => ZoneS (fun q => w.heap.size < q) W z v) (lo := 0) (fun b _ => Nat.zero_le b) (fun x y h => h)).get hia
    simp only at ea
    subst ea
    have x0 := hcell 0 (by omega); have x1 := hcell 1 (by omega); have x2 := hcell 2 (by omega)
    simp only [eZone, Nat.add_zero] at x0 x1 x2
    have hgood := (HM.out.zs x (List.mem_of_getElem? hx)).1
    obtain ⟨ts, htr, -⟩ := hgood.ex
    have hv := Zn.trans_vz htr
    have hoff : I64 x.off := hZS.2.2
    have hZI : ZIn W3 v1 v2 x.rules := ⟨HT.out _ B3.out, hZS.1.at_, hZS.1.len, hZS.2.1, by have h1 := hZS.1.len; have h2 := hgood.len; (try simp only at h1); omega⟩
    have hRt : Rc.Rt l.unit l.every l.day l.sec := ⟨e5, e6, e7, by omega, by omega, by omega, e3, e4⟩
    have hm0 : 0 < m2 := by
      rcases Nat.eq_zero_or_pos m2 with h0 | h0
      · exact absurd (List.eq_nil_of_length_eq_zero (by omega)) hmn
      · exact h0
    have hOK := Rc.okL_of hRt hm0
    have ZBn := Lib.hid (BlkAt.new W3 #[.string ⟨x.name.toArray⟩, .int .i64 x.off, .slice v1 v2 v3] 42)
    have kz := (Below.refl _ W3).alloc (Nat.le_refl _) (.cells #[.string ⟨x.name.toArray⟩, .int .i64 x.off, .slice v1 v2 v3] 42)
    have LBn := Lib.hid (LB.out.after kz)
    have HDn := Lib.hid (HD3.out.after kz)
    have Bn := Lib.hid (bstep B3.out kz)
    have HZI := Lib.hid (hZI.below kz)
    have y0 := CB3.out.cell (i := 0) rfl
    have l1 := LB.out.cell (i := 1) rfl
    rw [hi] at l1
    have hia2 : (i : Int) < a2 := by omega
    have hi0 : (0 : Int) ≤ i := by omega
    have HTR := Lib.hid htr; have HRT := Lib.hid hRt; have HOK := Lib.hid hOK; have HV := Lib.hid hv; have HOFF := Lib.hid hoff
    have HUE := Lib.hid (And.intro e5 (And.intro e6 (And.intro e7 (And.intro e8 e9))))
    have HDY := Lib.hid (And.intro e1 (And.intro e2 (And.intro e3 e4)))
    have HZI0 := Lib.hid hi
    have hm2b : m2 ≤ 3 := by omega
    clear hcell hZS hgood hZI hRt hOK htr hv hoff kz hz e1 e2 e3 e4 e5 e6 e7 e8 e9 hmn hm3 HML hx HM HST3 hmem
    go_upto_region 7 with fail
    generalize hbz : W3.heap.size = bz at ZBn ⊢
    generalize W3.alloc (.cells #[.string ⟨x.name.toArray⟩, .int .i64 x.off, .slice v1 v2 v3] 42) = W at ZBn LBn HDn Bn HZI ⊢
    clear x0 x1 x2 y0 l1 hbz CB3 LB HD3 B3 hia hia2 hi0 hi
    have HEX := Lib.hid (show ∀ j : Int, 0 ≤ j → j ≤ 150 → ∃ a, Rc.hV x.off ts l.unit l.every l.day l.sec j = some a from fun j h0 h1 => Rc.hV_ex HV.out HRT.out h0 (by
      have hu := HUE.out; have hd := HDY.out
      have := Int.mul_le_mul h1 (show l.every * 7 ≤ 343 by omega) (by omega) (by omega)
      omega))
    have HBD := Lib.hid (show ∀ j a : Int, 0 ≤ j → Rc.hV x.off ts l.unit l.every l.day l.sec j = some a → 1 ≤ a ∧ a ≤ 8589934592 from fun j a h0 ea => Rc.hV_bd HV.out HRT.out h0 ea)
    have CH := Lib.hid (show ∀ (j a : Int) (V : World), Below W.heap.size W V → 0 ≤ j → j ≤ 150 → Rc.hV x.off ts l.unit l.every l.day l.sec j = some a → Calls Tryd.prog 14 #[.agg #[.string ⟨x.name.toArray⟩, .int .i64 x.off, .slice v1 v2 v3], .agg #[.string ⟨#[97]⟩, .int .i64 l.zone, .int .i64 l.day, .int .i64 l.sec, .int .i64 l.unit, .int .i64 l.every, .slice m1 m2 m3, .slice q1 q2 q3, .int .i64 l.cal, .int .i64 l.mode], .int .i64 j] V (GivesF a 0 V) from fun j a V hb h0 h1 ea => by
      have := pHan_is HTR.out l.unit l.every l.day l.sec ⟨x.name.toArray⟩ v1 v2 v3 ⟨#[97]⟩ l.zone m1 m2 m3 q1 q2 q3 l.cal l.mode j V (HZI.out.below hb) HOFF.out ⟨by omega, by omega⟩
      rw [HOK.out, ea, Rc.hOut_some h0] at this
      exact this)
    obtain ⟨kk, hkk⟩ : ∃ q, k % 90 = q := ⟨_, rfl⟩
    have hk0 : 0 ≤ kk := by omega
    have hk1 : kk < 90 := by omega
    obtain ⟨a, ea⟩ := HEX.out kk hk0 (by omega)
    obtain ⟨b, eb⟩ := HEX.out 0 (Int.le_refl _) (by omega)
    have ha := HBD.out kk a hk0 ea
    have hb := HBD.out 0 b (Int.le_refl _) eb
    have EA := Lib.hid ea; have EB := Lib.hid eb
    have hue := HUE.out; have hdy := HDY.out
    have p0 : 0 ≤ l.every * kk := Int.mul_nonneg (by omega) hk0
    have p1 : l.every * kk ≤ 49 * 90 := Int.mul_le_mul (by omega) (by omega) hk0 (by omega)
    clear ea eb
    go_upto_region 8 with (go_at_call 13; refine (Mod_any k 90 _ hk.1 hk.2 (by decide) (by decide)).mono ?_; rintro e w' ⟨rfl, rfl⟩; rw [hkk])
    clear hkk
    have z0 := ZBn.out.cell (i := 0) rfl; have z1 := ZBn.out.cell (i := 1) rfl; have z2 := ZBn.out.cell (i := 2) rfl; have l0 := LBn.out.cell (i := 0) rfl; have l1 := LBn.out.cell (i := 1) rfl; have l2 := LBn.out.cell (i := 2) rfl; have l3 := LBn.out.cell (i := 3) rfl; have l4 := LBn.out.cell (i := 4) rfl; have l5 := LBn.out.cell (i := 5) rfl; have l6 := LBn.out.cell (i := 6) rfl; have l7 := LBn.out.cell (i := 7) rfl; have l8 := LBn.out.cell (i := 8) rfl; have l9 := LBn.out.cell (i := 9) rfl
    go_upto_region 9 with (go_at_call 14; refine (CH.out kk a _ (Below.refl _ _) hk0 (by omega) EA.out).mono ?_; rintro e w5 ⟨rfl, hb5⟩; have HW5 := Lib.hid hb5; have ZB5 := Lib.hid (ZBn.out.after hb5); have LB5 := Lib.hid (LBn.out.after hb5); clear hb5 z0 z1 z2 l0 l1 l2 l3 l4 l5 l6 l7 l8 l9)
    have z0 := ZB5.out.cell (i := 0) rfl; have z1 := ZB5.out.cell (i := 1) rfl; have z2 := ZB5.out.cell (i := 2) rfl; have l0 := LB5.out.cell (i := 0) rfl; have l1 := LB5.out.cell (i := 1) rfl; have l2 := LB5.out.cell (i := 2) rfl; have l3 := LB5.out.cell (i := 3) rfl; have l4 := LB5.out.cell (i := 4) rfl; have l5 := LB5.out.cell (i := 5) rfl; have l6 := LB5.out.cell (i := 6) rfl; have l7 := LB5.out.cell (i := 7) rfl; have l8 := LB5.out.cell (i := 8) rfl; have l9 := LB5.out.cell (i := 9) rfl
    go_upto_region 10 with (go_at_call 14; refine (CH.out 0 b _ HW5.out (Int.le_refl _) (by omega) EB.out).mono ?_; rintro e w6 ⟨rfl, hb6⟩; have HW6 := Lib.hid (bstep HW5.out hb6); have ZB6 := Lib.hid (ZB5.out.after hb6); have LB6 := Lib.hid (LB5.out.after hb6); clear hb6 ZB5 LB5 z0 z1 z2 l0 l1 l2 l3 l4 l5 l6 l7 l8 l9)
    have l0 := LB6.out.cell (i := 0) rfl; have l1 := LB6.out.cell (i := 1) rfl; have l2 := LB6.out.cell (i := 2) rfl; have l3 := LB6.out.cell (i := 3) rfl; have l4 := LB6.out.cell (i := 4) rfl; have l5 := LB6.out.cell (i := 5) rfl; have l6 := LB6.out.cell (i := 6) rfl; have l7 := LB6.out.cell (i := 7) rfl; have l8 := LB6.out.cell (i := 8) rfl; have l9 := LB6.out.cell (i := 9) rfl; have z0 := ZB6.out.cell (i := 0) rfl; have z1 := ZB6.out.cell (i := 1) rfl; have z2 := ZB6.out.cell (i := 2) rfl
    by_cases hu : l.unit = 0
    · have fu : (l.unit == 0) = true := by simpa using hu
      obtain ⟨p, hp⟩ : ∃ p, 3600 * l.every * kk = p := ⟨_, rfl⟩
      have hab : a - b = p := by
        have h1 := EA.out; have h2 := EB.out
        unfold Rc.hV at h1 h2
        rw [if_pos hu] at h1 h2
        cases e : Zn.fst (Zn.locS l.day l.sec) (Zn.strs 0 x.off ts) with
        | none => rw [e] at h1; cases h1
        | some f =>
          rw [e] at h1 h2
          simp only [Option.bind_some] at h1 h2
          split at h1
          · split at h2
            · simp only [Option.some.injEq, Int.zero_mul] at h1 h2
              rw [← hp, Int.mul_assoc, ← h1, ← h2, Int.mul_comm l.every kk]
              omega
            · cases h2
          · cases h1
      have ⟨v1, v1'⟩ := wrapn (n := 3600 * l.every) (by omega)
      have ⟨v2, v2'⟩ := wrapn (n := p) (by rw [← hp, Int.mul_assoc]; omega)
      go_wp2_with (go_at_call 9; refine (sane10_any _ (HT.out _ (bstep Bn.out HW6.out))).mono ?_; rintro e wz ⟨rfl, bz9⟩)
      go_ret
      exact ⟨rfl, bstep (bstep Bn.out HW6.out) bz9⟩
    · have fu : (l.unit == 0) = false := by simpa using hu
      obtain ⟨p, hp⟩ : ∃ p, l.every * kk = p := ⟨_, rfl⟩
      rw [hp] at p0 p1
      have hcv := Rc.civil HV.out HRT.out hu hk0 EA.out
      obtain ⟨d, hd⟩ : ∃ d, l.day + kk * Rc.stp l.unit l.every = d := ⟨_, rfl⟩
      rw [hd] at hcv
      have hst : l.unit = 2 ∧ l.day + p * 7 = d ∨ (l.unit == 2) = false ∧ l.day + p = d := by
        by_cases h2 : l.unit = 2
        · exact .inl ⟨h2, by rw [← hd, ← hp]; unfold Rc.stp; rw [if_pos h2, ← Int.mul_assoc, Int.mul_comm kk]⟩
        · exact .inr ⟨by simpa using h2, by rw [← hd, ← hp]; unfold Rc.stp; rw [if_neg h2, Int.mul_comm kk]⟩
      have hdb : 20452 ≤ d ∧ d ≤ 60000 := by omega
      have HDB := Lib.hid (show I64 d from ⟨by omega, by omega⟩)
      have hok := HRT.out.okD
      have HFL := Lib.hid (show ∀ V, Below W.heap.size W V → Calls Tryd.prog 30 #[.agg #[.string ⟨x.name.toArray⟩, .int .i64 x.off, .slice v1 v2 v3], .agg #[.int .i64 d, .int .i64 l.sec]] V (GivesI (Zn.frm (Zn.locS d l.sec) (Zn.strs 0 x.off ts)) 0 V) from fun V hb => by
        have := rfromLocal_is HTR.out ⟨x.name.toArray⟩ v1 v2 v3 d l.sec V (HZI.out.below hb) HOFF.out HDB.out
        rw [frmV_ok hok rfl, frmE_ok hok] at this
        exact this)
      have HOA := Lib.hid (show ∀ (t : Int) (V : World), Below W.heap.size W V → 0 ≤ t → t ≤ 8589934592 → Calls Tryd.prog 31 #[.agg #[.string ⟨x.name.toArray⟩, .int .i64 x.off, .slice v1 v2 v3], .int .i64 t] V fun e V' => e = .returned (.tuple #[.int .i64 (Zn.offAt x.off ts t), .int .i64 0]) ∧ Below V.heap.size V V' from fun t V hb h0 h1 => by
        have := roffAt_is HTR.out ⟨x.name.toArray⟩ v1 v2 v3 t V (HZI.out.below hb) HOFF.out
        rw [offV_ok h0 h1, offE_ok h0 h1] at this
        exact this)
      have ⟨v1', v1''⟩ := wrapn (n := p) (by omega)
      have ⟨v2', v2''⟩ := wrapn (n := p * 7) (by omega)
      have ⟨v3', v3''⟩ := wrapn (n := d) (by omega)
      have ⟨v4', v4''⟩ := wrapn (n := a - 1) (by omega)
      have a0 : 0 ≤ a - 1 := by omega
      clear hd hok HEX CH HBD
      rcases hst with ⟨hu2, hd⟩ | ⟨fu2, hd⟩
      · have fu2 : (l.unit == 2) = true := by simpa using hu2
        go_upto_region 18 with fail
        have ZC6 := Lib.hid (ZB6.out.alloc (.cells #[.int .i64 d, .int .i64 l.sec] 35))
        have DC6 := Lib.hid (BlkAt.new w6 #[.int .i64 d, .int .i64 l.sec] 35)
        have HC6 := Lib.hid (HW6.out.alloc HW6.out.size (.cells #[.int .i64 d, .int .i64 l.sec] 35))
        generalize hbd : w6.heap.size = bd at DC6 ⊢
        generalize w6.alloc (.cells #[.int .i64 d, .int .i64 l.sec] 35) = W6 at ZC6 DC6 HC6 ⊢
        clear hbd ZB6 LB6 HW6 z0 z1 z2 l0 l1 l2 l3 l4 l5 l6 l7 l8 l9
        have d0 := DC6.out.cell (i := 0) rfl; have d1 := DC6.out.cell (i := 1) rfl
        have z0 := ZC6.out.cell (i := 0) rfl; have z1 := ZC6.out.cell (i := 1) rfl; have z2 := ZC6.out.cell (i := 2) rfl
        rcases hcv with ⟨r, hr⟩ | ⟨hr, hlt⟩
        · go_upto_region 19 with (go_at_call 30; refine (HFL.out _ HC6.out).mono ?_; rintro e w7 ⟨A7, c7, rfl, hi7, hb7⟩; rw [hr] at hi7 ⊢; have HW7 := Lib.hid (bstep HC6.out hb7); clear hb7)
          obtain ⟨ib, iof, rfl, -, hic⟩ := hi7 (by simp)
          have c0 : w7.cell? ⟨ib, iof, none⟩ = some (.int .i64 a) := hic 0 _ rfl 0 (by decide)
          clear hi7 hic hr z0 z1 z2 d0 d1
          go_wp2_with (go_at_call 9; refine (sane10_any _ (HT.out _ (bstep Bn.out HW7.out))).mono ?_; rintro e wz ⟨rfl, bz9⟩)
          go_ret
          exact ⟨rfl, bstep (bstep Bn.out HW7.out) bz9⟩
        · go_upto_region 19 with (go_at_call 30; refine (HFL.out _ HC6.out).mono ?_; rintro e w7 ⟨A7, c7, rfl, hi7, hb7⟩; rw [hr]; have HW7 := Lib.hid (bstep HC6.out hb7); have ZB7 := Lib.hid (ZC6.out.after hb7); clear hb7 hi7)
          clear hr z0 z1 z2 d0 d1
          have z0 := ZB7.out.cell (i := 0) rfl; have z1 := ZB7.out.cell (i := 1) rfl; have z2 := ZB7.out.cell (i := 2) rfl
          go_upto_region 24 with (go_at_call 31; refine (HOA.out (a - 1) _ HW7.out a0 (by omega)).mono ?_; rintro e w8 ⟨rfl, hb8⟩; have HW8 := Lib.hid (bstep HW7.out hb8); have ZB8 := Lib.hid (ZB7.out.after hb8); clear hb8 z0 z1 z2)
          have z0 := ZB8.out.cell (i := 0) rfl; have z1 := ZB8.out.cell (i := 1) rfl; have z2 := ZB8.out.cell (i := 2) rfl
          go_upto_region 25 with (go_at_call 31; refine (HOA.out a _ HW8.out (by omega) ha.2).mono ?_; rintro e w9 ⟨rfl, hb9⟩; have HW9 := Lib.hid (bstep HW8.out hb9); clear hb9 z0 z1 z2)
          go_wp2_with (go_at_call 9; refine (sane10_any _ (HT.out _ (bstep Bn.out HW9.out))).mono ?_; rintro e wz ⟨rfl, bz9⟩)
          go_ret
          exact ⟨rfl, bstep (bstep Bn.out HW9.out) bz9⟩
      · skip
        go_upto_region 18 with fail
        have ZC6 := Lib.hid (ZB6.out.alloc (.cells #[.int .i64 d, .int .i64 l.sec] 35))
        have DC6 := Lib.hid (BlkAt.new w6 #[.int .i64 d, .int .i64 l.sec] 35)
        have HC6 := Lib.hid (HW6.out.alloc HW6.out.size (.cells #[.int .i64 d, .int .i64 l.sec] 35))
        generalize hbd : w6.heap.size = bd at DC6 ⊢
        generalize w6.alloc (.cells #[.int .i64 d, .int .i64 l.sec] 35) = W6 at ZC6 DC6 HC6 ⊢
        clear hbd ZB6 LB6 HW6 z0 z1 z2 l0 l1 l2 l3 l4 l5 l6 l7 l8 l9
        have d0 := DC6.out.cell (i := 0) rfl; have d1 := DC6.out.cell (i := 1) rfl
        have z0 := ZC6.out.cell (i := 0) rfl; have z1 := ZC6.out.cell (i := 1) rfl; have z2 := ZC6.out.cell (i := 2) rfl
        rcases hcv with ⟨r, hr⟩ | ⟨hr, hlt⟩
        · go_upto_region 19 with (go_at_call 30; refine (HFL.out _ HC6.out).mono ?_; rintro e w7 ⟨A7, c7, rfl, hi7, hb7⟩; rw [hr] at hi7 ⊢; have HW7 := Lib.hid (bstep HC6.out hb7); clear hb7)
          obtain ⟨ib, iof, rfl, -, hic⟩ := hi7 (by simp)
          have c0 : w7.cell? ⟨ib, iof, none⟩ = some (.int .i64 a) := hic 0 _ rfl 0 (by decide)
          clear hi7 hic hr z0 z1 z2 d0 d1
          go_wp2_with (go_at_call 9; refine (sane10_any _ (HT.out _ (bstep Bn.out HW7.out))).mono ?_; rintro e wz ⟨rfl, bz9⟩)
          go_ret
          exact ⟨rfl, bstep (bstep Bn.out HW7.out) bz9⟩
        · go_upto_region 19 with (go_at_call 30; refine (HFL.out _ HC6.out).mono ?_; rintro e w7 ⟨A7, c7, rfl, hi7, hb7⟩; rw [hr]; have HW7 := Lib.hid (bstep HC6.out hb7); have ZB7 := Lib.hid (ZC6.out.after hb7); clear hb7 hi7)
          clear hr z0 z1 z2 d0 d1
          have z0 := ZB7.out.cell (i := 0) rfl; have z1 := ZB7.out.cell (i := 1) rfl; have z2 := ZB7.out.cell (i := 2) rfl
          go_upto_region 24 with (go_at_call 31; refine (HOA.out (a - 1) _ HW7.out a0 (by omega)).mono ?_; rintro e w8 ⟨rfl, hb8⟩; have HW8 := Lib.hid (bstep HW7.out hb8); have ZB8 := Lib.hid (ZB7.out.after hb8); clear hb8 z0 z1 z2)
          have z0 := ZB8.out.cell (i := 0) rfl; have z1 := ZB8.out.cell (i := 1) rfl; have z2 := ZB8.out.cell (i := 2) rfl
          go_upto_region 25 with (go_at_call 31; refine (HOA.out a _ HW8.out (by omega) ha.2).mono ?_; rintro e w9 ⟨rfl, hb9⟩; have HW9 := Lib.hid (bstep HW8.out hb9); clear hb9 z0 z1 z2)
          go_wp2_with (go_at_call 9; refine (sane10_any _ (HT.out _ (bstep Bn.out HW9.out))).mono ?_; rintro e wz ⟨rfl, bz9⟩)
          go_ret
          exact ⟨rfl, bstep (bstep Bn.out HW9.out) bz9⟩
  · have hl : decide ((n : Int) ≤ 500) = false := by simp; omega
    clear hA hn hf
    go_enter Tryd.func6, Tryd.ntmps6
    go_wp2_with fail
    refine (Light_any A n c _).mono ?_
    rw [hl]
    rintro e w' ⟨rfl, rfl⟩
    go_wp2_with fail
    refine (sane10_any _ (HT.out _ (Below.refl _ _))).mono ?_
    rintro e w1 ⟨rfl, b1⟩
    go_wp2_with fail
    go_ret
    exact ⟨rfl, b1⟩
end Go.Proofs.YthaacmmkignocaaDoor
