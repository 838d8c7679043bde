/- The law RecurRanges returns true for all arguments. Printed by gen_tcl.py. -/
import Derived.Test.YthaacmmkignocaaDoorKTcs
import Derived.Test.YthaacmmkignocaaDoorKG33
import Derived.Test.YthaacmmkignocaaDoorKWma
namespace Go.Proofs.YthaacmmkignocaaDoor
open Go.RowKit
set_option linter.unusedVariables false
set_option linter.unusedSimpArgs false
set_option maxRecDepth 100000
set_option maxHeartbeats 16000000 in
theorem recurranges_any (A : Option Addr) (n c : Nat) (zs : List Int) (nn : Int) (mm : Int) (w : World) (hT : CivT w) (hA : NumsAt w A zs) (hn : zs.length = n) (hf : ∀ z ∈ zs, -9223372036854775808 ≤ z ∧ z ≤ 9223372036854775807) (hnn : I64 nn) (hmm : I64 mm) :
    Calls Tryd.prog 7 #[.slice A n c, .int .i64 nn, .int .i64 mm] w fun e w' => e = .returned (.bool true) ∧ Below w.heap.size w w' := by
  have HT := Lib.hid (show ∀ W, Below w.heap.size w W → CivT W from fun W hb => hT.below hb)
  clear hT
  by_cases h5 : n ≤ 500
  · have hl : decide ((n : Int) ≤ 500) = true := by simp; omega
    have D0 := Lib.hid (Dice.start (c := c) hA hn h5 hf)
    clear hA hn hf
    go_enter Tryd.func7, Tryd.ntmps7
    go_wp2_with fail
    refine (Light_any A n c _).mono ?_
    rw [hl]
    rintro e w' ⟨rfl, rfl⟩
    go_wp2_with fail
    refine (Roll_any A n c _).mono ?_
    rintro e w' ⟨rfl, rfl⟩
    go_wp2_with fail
    refine (Staff_any w.heap.size n c A zs _ D0.out).mono ?_
    rintro e w1 ⟨⟨a1, a2, a3⟩, ⟨b1, b2, b3⟩, ⟨d1, d2, d3⟩, C, rfl, hS, -, hM, hz1, hp1, hg, hD⟩
    simp only [cfgV, noSV]
    have B1 := Lib.hid (below_of_grown ((Below.refl _ w).alloc (Nat.le_refl _) (.cells #[.slice A n c, .int .i64 0] 69)) hg (by simp) (Nat.le_refl _))
    have hza := hS.zones.len; have hpa := hS.people.len; have hca := hS.cals.len
    simp only at hza hpa hca
    have hzl := hM.zl; have hpl := hM.pl; have hcl := hM.cl
    have HM := Lib.hid hM
    have HST := Lib.hid (StaffS.mv hS (Mv.of_below (S' := fun q => w.heap.size < q) ((Below.refl _ w1).alloc (Nat.le_refl _) (.cells #[.slice a1 a2 a3, .slice b1 b2 b3, .slice d1 d2 d3, .slice none 0 0] 32)) (fun b h _ => by simp at h; omega)))
    have hgl := hD.lt_
    have HD := Lib.hid (hD.alloc (.cells #[.slice a1 a2 a3, .slice b1 b2 b3, .slice d1 d2 d3, .slice none 0 0] 32))
    have CB := Lib.hid (BlkAt.new w1 #[.slice a1 a2 a3, .slice b1 b2 b3, .slice d1 d2 d3, .slice none 0 0] 32)
    have B2 := Lib.hid (B1.out.alloc B1.out.size (.cells #[.slice a1 a2 a3, .slice b1 b2 b3, .slice d1 d2 d3, .slice none 0 0] 32))
    clear hS hM hg hD D0 B1 h5
    go_upto_region 5 with fail
    generalize hcb : w1.heap.size = cb at CB hgl ⊢
    generalize w1.alloc (.cells #[.slice a1 a2 a3, .slice b1 b2 b3, .slice d1 d2 d3, .slice none 0 0] 32) = W2 at HST HD CB B2 ⊢
    clear hcb
    have y0 := CB.out.cell (i := 0) rfl; have y1 := CB.out.cell (i := 1) rfl; have y2 := CB.out.cell (i := 2) rfl; have y3 := CB.out.cell (i := 3) rfl
    go_upto_region 6 with (go_at_call 12; refine (Layer_lit w.heap.size n c A zs a1 b1 d1 none a2 a3 b2 b3 d2 d3 0 0 [97] (by omega) (by omega) (by omega) (by omega) (by omega) W2 HD.out).mono ?_; rintro e w3 ⟨l, m1, m2, m3, q1, q2, q3, rfl, -, hml, hls, hg3, hD3⟩)
    have hmem := hls.1.len
    simp only at hmem
    have LB := Lib.hid (BlkAt.new w3 #[.string ⟨#[97]⟩, .int .i64 l.zone, .int .i64 l.day, .int .i64 l.sec, .int .i64 l.unit, .int .i64 l.every, .slice m1 m2 m3, .slice q1 q2 q3, .int .i64 l.cal, .int .i64 l.mode] 38)
    have k3 := (Below.refl _ w3).alloc (Nat.le_refl _) (.cells #[.string ⟨#[97]⟩, .int .i64 l.zone, .int .i64 l.day, .int .i64 l.sec, .int .i64 l.unit, .int .i64 l.every, .slice m1 m2 m3, .slice q1 q2 q3, .int .i64 l.cal, .int .i64 l.mode] 38)
    have CB3 := Lib.hid ((CB.out.grown hg3 (by intro e; cases e; omega)).after k3)
    have HD3 := Lib.hid (hD3.after k3)
    have HST3 := Lib.hid ((HST.out.mv (Mv.of_grown (S' := fun q => w.heap.size < q) hg3 (fun g e => by cases e; omega) (fun b h _ => h))).mv (Mv.of_below (S' := fun q => w.heap.size < q) k3 (fun b h _ => h)))
    have B3 := Lib.hid (bstep (below_of_grown B2.out hg3 B2.out.size (Nat.le_refl _)) k3)
    have HML := Lib.hid hml
    clear y0 y1 y2 y3 hls hg3 k3 CB HD HST B2 hml
    have hlb2 : w.heap.size ≠ w3.heap.size := by have := hD3.lt_; omega
    generalize hlb : w3.heap.size = lb at LB hlb2 ⊢
    generalize w3.alloc (.cells #[.string ⟨#[97]⟩, .int .i64 l.zone, .int .i64 l.day, .int .i64 l.sec, .int .i64 l.unit, .int .i64 l.every, .slice m1 m2 m3, .slice q1 q2 q3, .int .i64 l.cal, .int .i64 l.mode] 38) = W3 at LB CB3 HD3 HST3 B3 ⊢
    clear hlb hD3
    obtain ⟨hz, e1, e2, e3, e4, e5, e6, e7, ⟨e8, e9⟩, hmn, hm3, -, -, -, -⟩ := HML.out
    obtain ⟨i, hi, hia⟩ : ∃ i : Nat, l.zone = i ∧ i < a2 := ⟨l.zone.toNat, by unfold Rs.isIx at hz; simp at hz; omega, by unfold Rs.isIx at hz; simp at hz; omega⟩
    obtain ⟨x, ⟨v1, v2, v3⟩, zb, zoff, hx, ea, hzb, hcell, hZS⟩ := (HST3.out.zones.nest (Q := fun _ _ W z v => ZoneS (fun q => w.heap.size < q) W z v) (lo := 0) (fun b _ => Nat.zero_le b) (fun x y h => h)).get hia
    simp only at ea
    subst ea
    have x0 := hcell 0 (by omega); have x1 := hcell 1 (by omega); have x2 := hcell 2 (by omega)
    simp only [eZone, Nat.add_zero] at x0 x1 x2
    have hgood := (HM.out.zs x (List.mem_of_getElem? hx)).1
    obtain ⟨ts, htr, -⟩ := hgood.ex
    have hv := Zn.trans_vz htr
    have hoff : I64 x.off := hZS.2.2
    have hZI : ZIn W3 v1 v2 x.rules := ⟨HT.out _ B3.out, hZS.1.at_, hZS.1.len, hZS.2.1, by have h1 := hZS.1.len; have h2 := hgood.len; (try simp only at h1); omega⟩
    have hRt : Rc.Rt l.unit l.every l.day l.sec := ⟨e5, e6, e7, by omega, by omega, by omega, e3, e4⟩
    have hm0 : 0 < m2 := by
      rcases Nat.eq_zero_or_pos m2 with h0 | h0
      · exact absurd (List.eq_nil_of_length_eq_zero (by omega)) hmn
      · exact h0
    have hOK := Rc.okL_of hRt hm0
    have ZBn := Lib.hid (BlkAt.new W3 #[.string ⟨x.name.toArray⟩, .int .i64 x.off, .slice v1 v2 v3] 42)
    have kz := (Below.refl _ W3).alloc (Nat.le_refl _) (.cells #[.string ⟨x.name.toArray⟩, .int .i64 x.off, .slice v1 v2 v3] 42)
    have LBn := Lib.hid (LB.out.after kz)
    have HDn := Lib.hid (HD3.out.after kz)
    have Bn := Lib.hid (bstep B3.out kz)
    have HZI := Lib.hid (hZI.below kz)
    have HZS := Lib.hid (ZoneS.mv (Mv.of_below (S' := fun q => w.heap.size < q) kz (fun b h _ => h)) _ _ hZS)
    have hbzl := HDn.out.lt_
    have y0 := CB3.out.cell (i := 0) rfl
    have l1 := LB.out.cell (i := 1) rfl
    rw [hi] at l1
    have hia2 : (i : Int) < a2 := by omega
    have hi0 : (0 : Int) ≤ i := by omega
    have HTR := Lib.hid htr; have HRT := Lib.hid hRt; have HOK := Lib.hid hOK; have HV := Lib.hid hv; have HOFF := Lib.hid hoff
    have HUE := Lib.hid (And.intro e5 (And.intro e6 (And.intro e7 (And.intro e8 e9))))
    have HDY := Lib.hid (And.intro e1 (And.intro e2 (And.intro e3 e4)))
    have HZI0 := Lib.hid hi
    have hm2b : m2 ≤ 3 := by omega
    clear hcell hZS hgood hZI hRt hOK htr hv hoff kz hz e1 e2 e3 e4 e5 e6 e7 e8 e9 hmn hm3 HML hx HM HST3 hmem
    go_upto_region 7 with fail
    have hbz2 : w.heap.size ≠ W3.heap.size := by have := HD3.out.lt_; omega
    generalize hbz : W3.heap.size = bz at ZBn hbz2 ⊢
    generalize W3.alloc (.cells #[.string ⟨x.name.toArray⟩, .int .i64 x.off, .slice v1 v2 v3] 42) = W at ZBn LBn HDn Bn HZI HZS hbzl ⊢
    clear x0 x1 x2 y0 l1 hbz CB3 LB HD3 B3 hia hia2 hi0 hi
    go_upto_region 8 with (go_at_call 22; refine (Instant_any w.heap.size n c A zs _ HDn.out).mono ?_; rintro e w5 ⟨fr, rfl, f0, f1, hg5, -⟩)
    have ZB := Lib.hid (ZBn.out.grown hg5 (by intro e; cases e; exact hbz2 rfl))
    have LB := Lib.hid (LBn.out.grown hg5 (by intro e; cases e; exact hlb2 rfl))
    have B5 := Lib.hid (below_of_grown Bn.out hg5 Bn.out.size (Nat.le_refl _))
    have hzs5 := ZoneS.mv (Mv.of_grown (S' := fun q => w.heap.size < q) hg5 (fun g e => by cases e; omega) (fun b h _ => h)) _ _ HZS.out
    have HZ5 := Lib.hid (show ZIn w5 v1 v2 x.rules from ⟨HT.out _ B5.out, hzs5.1.at_, hzs5.1.len, hzs5.2.1, HZI.out.le⟩)
    clear hg5 hzs5 HZS HZI ZBn LBn Bn HDn hbz2 hlb2 hbzl
    obtain ⟨mi, hmi⟩ : ∃ q, nn % 777600 = q := ⟨_, rfl⟩
    obtain ⟨ti, hti⟩ : ∃ q, mm % 777600 = q := ⟨_, rfl⟩
    have hmi0 : 0 ≤ mi ∧ mi < 777600 := by omega
    have hti0 : 0 ≤ ti ∧ ti < 777600 := by omega
    have ⟨u1, u1'⟩ := wrapn (n := fr + mi) (by omega)
    have ⟨u2, u2'⟩ := wrapn (n := fr + mi + ti) (by omega)
    have CV := Lib.hid (show ∀ (f t : Int) (V : World), Below w5.heap.size w5 V → 1700000000 ≤ f → f ≤ t → t ≤ 2000000000 → _ from fun f t V hb h0 h1 h2 => pHdv_is HTR.out l.unit l.every l.day l.sec ⟨x.name.toArray⟩ v1 v2 v3 ⟨#[97]⟩ l.zone m1 m2 m3 q1 q2 q3 l.cal l.mode f t V (HZ5.out.below hb) HOFF.out ⟨by omega, by omega⟩ ⟨by omega, by omega⟩)
    have HRO := Lib.hid (show ∀ (f t er : Int) (L : List Int), 1700000000 ≤ f → f ≤ t → t ≤ 2000000000 → t - f ≤ 34560000 → Rc.ROut (Rc.okL l.unit l.every l.day l.sec m2) (Rc.hV x.off ts l.unit l.every l.day l.sec) f t L er → 0 = er ∧ Rc.RangeIs (Rc.hV x.off ts l.unit l.every l.day l.sec) f t L from fun f t er L h0 h1 h2 h3 hs => by
      obtain ⟨a, b⟩ := hs.yes HOK.out (by omega)
      exact ⟨a.symm, b⟩)
    have CS := Lib.hid (show ∀ (t : Int) (V : World), Below w5.heap.size w5 V → 0 ≤ t → t ≤ 8589934592 → _ from fun t V hb h0 h1 => pShi_is HTR.out l.unit l.every l.day l.sec ⟨x.name.toArray⟩ v1 v2 v3 ⟨#[97]⟩ l.zone m1 m2 m3 q1 q2 q3 l.cal l.mode t V (HZ5.out.below hb) HOFF.out ⟨by omega, by omega⟩)
    have CH := Lib.hid (show ∀ (j a : Int) (V : World), Below w5.heap.size w5 V → 0 ≤ j → Rc.hV x.off ts l.unit l.every l.day l.sec j = some a → Calls Tryd.prog 14 #[.agg #[.string ⟨x.name.toArray⟩, .int .i64 x.off, .slice v1 v2 v3], .agg #[.string ⟨#[97]⟩, .int .i64 l.zone, .int .i64 l.day, .int .i64 l.sec, .int .i64 l.unit, .int .i64 l.every, .slice m1 m2 m3, .slice q1 q2 q3, .int .i64 l.cal, .int .i64 l.mode], .int .i64 j] V (GivesF a 0 V) from fun j a V hb h0 ea => by
      have hj : j ≤ 2386092 := by
        rcases Int.lt_or_le 2386092 j with hlt | hle
        · rw [Rc.hV_high HV.out HRT.out hlt] at ea; cases ea
        · exact hle
      have := pHan_is HTR.out l.unit l.every l.day l.sec ⟨x.name.toArray⟩ v1 v2 v3 ⟨#[97]⟩ l.zone m1 m2 m3 q1 q2 q3 l.cal l.mode j V (HZ5.out.below hb) HOFF.out ⟨by omega, by omega⟩
      rw [HOK.out, ea, Rc.hOut_some h0] at this
      exact this)
    have HSO := Lib.hid (show ∀ j a k er : Int, 0 ≤ j → Rc.hV x.off ts l.unit l.every l.day l.sec j = some a → 0 ≤ a → a ≤ 8589934592 → Rc.SOut (Rc.okL l.unit l.every l.day l.sec m2) (Rc.hV x.off ts l.unit l.every l.day l.sec) a k er → j = k ∧ er = 0 from fun j a k er h0 ea g0 g1 hs => by
      obtain ⟨s1, s2⟩ := hs.yes HOK.out g0 g1
      exact ⟨(s2.eq (Rc.shift_of HV.out HRT.out h0 ea (Int.le_refl _) (fun b eb => Rc.hV_lt HV.out HRT.out h0 (by omega) ea eb))).symm, s1⟩)
    obtain ⟨H, hH⟩ : ∃ H, Rc.hV x.off ts l.unit l.every l.day l.sec = H := ⟨_, rfl⟩
    rw [hH] at CV HRO CS CH HSO
    clear hH HV HRT HTR HZ5 HUE HDY HOFF
    go_upto_region 9 with (go_at_call 13; refine (Mod_any nn 777600 _ hnn.1 hnn.2 (by decide) (by decide)).mono ?_; rintro e w' ⟨rfl, rfl⟩; rw [hmi])
    go_upto_region 10 with (go_at_call 13; refine (Mod_any mm 777600 _ hmm.1 hmm.2 (by decide) (by decide)).mono ?_; rintro e w' ⟨rfl, rfl⟩; rw [hti])
    clear hmi hti
    have z0 := ZB.out.cell (i := 0) rfl; have z1 := ZB.out.cell (i := 1) rfl; have z2 := ZB.out.cell (i := 2) rfl; have l0 := LB.out.cell (i := 0) rfl; have l1 := LB.out.cell (i := 1) rfl; have l2 := LB.out.cell (i := 2) rfl; have l3 := LB.out.cell (i := 3) rfl; have l4 := LB.out.cell (i := 4) rfl; have l5 := LB.out.cell (i := 5) rfl; have l6 := LB.out.cell (i := 6) rfl; have l7 := LB.out.cell (i := 7) rfl; have l8 := LB.out.cell (i := 8) rfl; have l9 := LB.out.cell (i := 9) rfl
    go_upto_region 11 with (go_at_call 27; refine (CV.out fr (fr + mi) _ (Below.refl _ _) (by omega) (by omega) (by omega)).mono ?_; rintro e w6 ⟨L1, r1, A1, c1, rfl, hr1, hi1, hl1, hb6⟩; obtain ⟨rfl, R1⟩ := HRO.out _ _ _ _ (by omega) (by omega) (by omega) (by omega) hr1; have HR1 := Lib.hid R1; have HW6 := Lib.hid hb6; have ZB6 := Lib.hid (ZB.out.after hb6); have LB6 := Lib.hid (LB.out.after hb6); have HI1 := Lib.hid hi1; clear hr1 hi1 hb6 R1 z0 z1 z2 l0 l1 l2 l3 l4 l5 l6 l7 l8 l9)
    have z0 := ZB6.out.cell (i := 0) rfl; have z1 := ZB6.out.cell (i := 1) rfl; have z2 := ZB6.out.cell (i := 2) rfl; have l0 := LB6.out.cell (i := 0) rfl; have l1 := LB6.out.cell (i := 1) rfl; have l2 := LB6.out.cell (i := 2) rfl; have l3 := LB6.out.cell (i := 3) rfl; have l4 := LB6.out.cell (i := 4) rfl; have l5 := LB6.out.cell (i := 5) rfl; have l6 := LB6.out.cell (i := 6) rfl; have l7 := LB6.out.cell (i := 7) rfl; have l8 := LB6.out.cell (i := 8) rfl; have l9 := LB6.out.cell (i := 9) rfl
    go_upto_region 12 with (go_at_call 27; refine (CV.out (fr + mi) (fr + mi + ti) _ HW6.out (by omega) (by omega) (by omega)).mono ?_; rintro e w7 ⟨L2, r2, A2, c2, rfl, hr2, hi2, hl2, hb7⟩; obtain ⟨rfl, R2⟩ := HRO.out _ _ _ _ (by omega) (by omega) (by omega) (by omega) hr2; have HR2 := Lib.hid R2; have HW7 := Lib.hid (bstep HW6.out hb7); have ZB7 := Lib.hid (ZB6.out.after hb7); have LB7 := Lib.hid (LB6.out.after hb7); have HI17 := Lib.hid (HI1.out.below hb7); have HI2 := Lib.hid hi2; clear hr2 hi2 hb7 R2 z0 z1 z2 l0 l1 l2 l3 l4 l5 l6 l7 l8 l9)
    have z0 := ZB7.out.cell (i := 0) rfl; have z1 := ZB7.out.cell (i := 1) rfl; have z2 := ZB7.out.cell (i := 2) rfl; have l0 := LB7.out.cell (i := 0) rfl; have l1 := LB7.out.cell (i := 1) rfl; have l2 := LB7.out.cell (i := 2) rfl; have l3 := LB7.out.cell (i := 3) rfl; have l4 := LB7.out.cell (i := 4) rfl; have l5 := LB7.out.cell (i := 5) rfl; have l6 := LB7.out.cell (i := 6) rfl; have l7 := LB7.out.cell (i := 7) rfl; have l8 := LB7.out.cell (i := 8) rfl; have l9 := LB7.out.cell (i := 9) rfl
    go_upto_region 13 with (go_at_call 27; refine (CV.out fr (fr + mi + ti) _ HW7.out (by omega) (by omega) (by omega)).mono ?_; rintro e w8 ⟨L3, r3, A3, c3, rfl, hr3, hi3, hl3, hb8⟩; obtain ⟨rfl, R3⟩ := HRO.out _ _ _ _ (by omega) (by omega) (by omega) (by omega) hr3; have HR3 := Lib.hid R3; have HW8 := Lib.hid (bstep HW7.out hb8); have ZB8 := Lib.hid (ZB7.out.after hb8); have LB8 := Lib.hid (LB7.out.after hb8); have HI18 := Lib.hid (HI17.out.below hb8); have HI28 := Lib.hid (HI2.out.below hb8); have HI3 := Lib.hid hi3; clear hr3 hi3 hb8 R3 z0 z1 z2 l0 l1 l2 l3 l4 l5 l6 l7 l8 l9)
    have heq : L1 ++ L2 = L3 := (HR1.out.app HR2.out (by omega) (by omega)).eq HR3.out
    have hlen : L1.length + L2.length = L3.length := by rw [← heq, List.length_append]
    obtain ⟨A4, c4, w9, hrun, ho4, hb9, -, -⟩ := run_app kInt 22 w8 w8.heap.size (.slice none 0 0) ([] : List Int) (OwnL.nil_ _ _) A1 L1.length c1 L1 HI18.out rfl (by simp only [List.length_nil]; omega) (Nat.le_refl _)
    simp only [List.length_nil, Nat.zero_add, List.nil_append] at hrun ho4
    have hi29 := HI28.out.below hb9
    obtain ⟨A5, c5, w10, hrun2, ho5, hb10, -, -⟩ := run_app kInt 22 w9 w8.heap.size _ L1 ho4 A2 L2.length c2 L2 hi29 rfl (by omega) hb9.size
    have HI5 := Lib.hid (show IntsAt w10 A5 L3 from by obtain ⟨A', c', e1, -, -, h3⟩ := ho5.shape; simp only [Value.slice.injEq] at e1; rw [← heq]; rw [e1.1]; exact h3)
    have HX := Lib.hid (show Below w8.heap.size w8 w10 from hb9.trans hb10)
    have HI310 := Lib.hid (HI3.out.below HX.out)
    have HW10 := Lib.hid (bstep HW8.out HX.out)
    have ZB10 := Lib.hid (ZB8.out.after HX.out); have LB10 := Lib.hid (LB8.out.after HX.out)
    rw [hlen] at hrun2
    have HRUN := Lib.hid hrun; have HRUN2 := Lib.hid hrun2
    clear ho4 ho5 hb9 hb10 heq hi29 HX HR1 HR2 hrun hrun2
    go_wp2_with (at_builtin; refine Stop.go ?_)
    refine Stop.at ?_
    refine wp_app_run (w := w8) (.const (.slice none 0 0)) (.tmp 87) ?hw rfl ?h1 ?h2 HRUN.out ?_
    case hw => kernel_rfl
    case h1 => rfl
    case h2 => rfl
    go_wp2_with (at_builtin; refine Stop.go ?_)
    refine Stop.at ?_
    refine wp_app_run (w := w9) (.tmp 88) (.tmp 89) ?hw rfl ?h1 ?h2 HRUN2.out ?_
    case hw => kernel_rfl
    case h1 => rfl
    case h2 => rfl
    go_upto_region 15 with (go_at_call 29; refine (same10_any A5 A3 L3.length c5 c3 w10 HI5.out HI310.out rfl (by omega)).mono ?_; rintro e w11 ⟨rfl, hb11⟩)
    have HW11 := Lib.hid (bstep HW10.out hb11)
    have ZB11 := Lib.hid (ZB10.out.after hb11); have LB11 := Lib.hid (LB10.out.after hb11); have HI11 := Lib.hid (HI310.out.below hb11)
    clear hb11 ZB10 LB10 HI310 HI5 HRUN HRUN2 HW10 HI18 HI28 HI3
    have hl3' : L3.length ≤ 900000 := by omega
    go_wp2_with fail
    go_loopw [97] (fun y wr => ∃ k : Nat, k ≤ L3.length ∧ y = .int .i64 k ∧ Hid (Below w11.heap.size w11 wr)) (fun y _ => L3.length - (intOf y).toNat)
    case atStart => exact ⟨0, Nat.zero_le _, rfl, Lib.hid (Below.refl _ _)⟩
    case round =>
      obtain ⟨k, hk, rfl, HR⟩ := hrel
      by_cases hlt : k < L3.length
      · obtain ⟨a, hx⟩ := get_ex hlt
        obtain ⟨j, j0, ej, g0, g1⟩ := (HR3.out.2 a).1 (List.mem_of_getElem? hx)
        obtain ⟨ib, iof, rfl, -, hic⟩ := (HI11.out.below HR.out) (by omega)
        have c0 : wr.cell? ⟨ib, iof + k, none⟩ = some (.int .i64 a) := by have := hic k a hx 0 (by decide); simpa [eInt] using this
        have hlt2 : (k : Int) < L3.length := by omega
        have hk0 : (0 : Int) ≤ k := by omega
        have ZB := Lib.hid (ZB11.out.after HR.out); have LB := Lib.hid (LB11.out.after HR.out)
        have HWR := Lib.hid (bstep HW11.out HR.out)
        have z0 := ZB.out.cell (i := 0) rfl; have z1 := ZB.out.cell (i := 1) rfl; have z2 := ZB.out.cell (i := 2) rfl; have l0 := LB.out.cell (i := 0) rfl; have l1 := LB.out.cell (i := 1) rfl; have l2 := LB.out.cell (i := 2) rfl; have l3 := LB.out.cell (i := 3) rfl; have l4 := LB.out.cell (i := 4) rfl; have l5 := LB.out.cell (i := 5) rfl; have l6 := LB.out.cell (i := 6) rfl; have l7 := LB.out.cell (i := 7) rfl; have l8 := LB.out.cell (i := 8) rfl; have l9 := LB.out.cell (i := 9) rfl
        have EJ := Lib.hid ej
        have KS : ∀ V V' : World, (V.cell? ⟨bz, 0, none⟩ = some (.string ⟨x.name.toArray⟩) ∧ V.cell? ⟨bz, 1, none⟩ = some (.int .i64 x.off) ∧ V.cell? ⟨bz, 2, none⟩ = some (.slice v1 v2 v3) ∧ V.cell? ⟨lb, 0, none⟩ = some (.string ⟨#[97]⟩) ∧ V.cell? ⟨lb, 1, none⟩ = some (.int .i64 l.zone) ∧ V.cell? ⟨lb, 2, none⟩ = some (.int .i64 l.day) ∧ V.cell? ⟨lb, 3, none⟩ = some (.int .i64 l.sec) ∧ V.cell? ⟨lb, 4, none⟩ = some (.int .i64 l.unit) ∧ V.cell? ⟨lb, 5, none⟩ = some (.int .i64 l.every) ∧ V.cell? ⟨lb, 6, none⟩ = some (.slice m1 m2 m3) ∧ V.cell? ⟨lb, 7, none⟩ = some (.slice q1 q2 q3) ∧ V.cell? ⟨lb, 8, none⟩ = some (.int .i64 l.cal) ∧ V.cell? ⟨lb, 9, none⟩ = some (.int .i64 l.mode) ∧ V.cell? ⟨ib, iof + k, none⟩ = some (.int .i64 a) ∧ Below w5.heap.size w5 V) → Below V.heap.size V V' → (V'.cell? ⟨bz, 0, none⟩ = some (.string ⟨x.name.toArray⟩) ∧ V'.cell? ⟨bz, 1, none⟩ = some (.int .i64 x.off) ∧ V'.cell? ⟨bz, 2, none⟩ = some (.slice v1 v2 v3) ∧ V'.cell? ⟨lb, 0, none⟩ = some (.string ⟨#[97]⟩) ∧ V'.cell? ⟨lb, 1, none⟩ = some (.int .i64 l.zone) ∧ V'.cell? ⟨lb, 2, none⟩ = some (.int .i64 l.day) ∧ V'.cell? ⟨lb, 3, none⟩ = some (.int .i64 l.sec) ∧ V'.cell? ⟨lb, 4, none⟩ = some (.int .i64 l.unit) ∧ V'.cell? ⟨lb, 5, none⟩ = some (.int .i64 l.every) ∧ V'.cell? ⟨lb, 6, none⟩ = some (.slice m1 m2 m3) ∧ V'.cell? ⟨lb, 7, none⟩ = some (.slice q1 q2 q3) ∧ V'.cell? ⟨lb, 8, none⟩ = some (.int .i64 l.cal) ∧ V'.cell? ⟨lb, 9, none⟩ = some (.int .i64 l.mode) ∧ V'.cell? ⟨ib, iof + k, none⟩ = some (.int .i64 a) ∧ Below w5.heap.size w5 V') := fun V V' h hb => ⟨cell_keep h.1 hb, cell_keep h.2.1 hb, cell_keep h.2.2.1 hb, cell_keep h.2.2.2.1 hb, cell_keep h.2.2.2.2.1 hb, cell_keep h.2.2.2.2.2.1 hb, cell_keep h.2.2.2.2.2.2.1 hb, cell_keep h.2.2.2.2.2.2.2.1 hb, cell_keep h.2.2.2.2.2.2.2.2.1 hb, cell_keep h.2.2.2.2.2.2.2.2.2.1 hb, cell_keep h.2.2.2.2.2.2.2.2.2.2.1 hb, cell_keep h.2.2.2.2.2.2.2.2.2.2.2.1 hb, cell_keep h.2.2.2.2.2.2.2.2.2.2.2.2.1 hb, cell_keep h.2.2.2.2.2.2.2.2.2.2.2.2.2.1 hb, bstep h.2.2.2.2.2.2.2.2.2.2.2.2.2.2 hb⟩
        have S0 : wr.cell? ⟨bz, 0, none⟩ = some (.string ⟨x.name.toArray⟩) ∧ wr.cell? ⟨bz, 1, none⟩ = some (.int .i64 x.off) ∧ wr.cell? ⟨bz, 2, none⟩ = some (.slice v1 v2 v3) ∧ wr.cell? ⟨lb, 0, none⟩ = some (.string ⟨#[97]⟩) ∧ wr.cell? ⟨lb, 1, none⟩ = some (.int .i64 l.zone) ∧ wr.cell? ⟨lb, 2, none⟩ = some (.int .i64 l.day) ∧ wr.cell? ⟨lb, 3, none⟩ = some (.int .i64 l.sec) ∧ wr.cell? ⟨lb, 4, none⟩ = some (.int .i64 l.unit) ∧ wr.cell? ⟨lb, 5, none⟩ = some (.int .i64 l.every) ∧ wr.cell? ⟨lb, 6, none⟩ = some (.slice m1 m2 m3) ∧ wr.cell? ⟨lb, 7, none⟩ = some (.slice q1 q2 q3) ∧ wr.cell? ⟨lb, 8, none⟩ = some (.int .i64 l.cal) ∧ wr.cell? ⟨lb, 9, none⟩ = some (.int .i64 l.mode) ∧ wr.cell? ⟨ib, iof + k, none⟩ = some (.int .i64 a) ∧ Below w5.heap.size w5 wr := ⟨z0, z1, z2, l0, l1, l2, l3, l4, l5, l6, l7, l8, l9, c0, HWR.out⟩
        have KB : ∀ V : World, (V.cell? ⟨bz, 0, none⟩ = some (.string ⟨x.name.toArray⟩) ∧ V.cell? ⟨bz, 1, none⟩ = some (.int .i64 x.off) ∧ V.cell? ⟨bz, 2, none⟩ = some (.slice v1 v2 v3) ∧ V.cell? ⟨lb, 0, none⟩ = some (.string ⟨#[97]⟩) ∧ V.cell? ⟨lb, 1, none⟩ = some (.int .i64 l.zone) ∧ V.cell? ⟨lb, 2, none⟩ = some (.int .i64 l.day) ∧ V.cell? ⟨lb, 3, none⟩ = some (.int .i64 l.sec) ∧ V.cell? ⟨lb, 4, none⟩ = some (.int .i64 l.unit) ∧ V.cell? ⟨lb, 5, none⟩ = some (.int .i64 l.every) ∧ V.cell? ⟨lb, 6, none⟩ = some (.slice m1 m2 m3) ∧ V.cell? ⟨lb, 7, none⟩ = some (.slice q1 q2 q3) ∧ V.cell? ⟨lb, 8, none⟩ = some (.int .i64 l.cal) ∧ V.cell? ⟨lb, 9, none⟩ = some (.int .i64 l.mode) ∧ V.cell? ⟨ib, iof + k, none⟩ = some (.int .i64 a) ∧ Below w5.heap.size w5 V) → Below w5.heap.size w5 V := fun V h => h.2.2.2.2.2.2.2.2.2.2.2.2.2.2
        have HKS := Lib.hid KS; have HS0 := Lib.hid S0; have HKB := Lib.hid KB
        clear hic hx ej KS S0 KB z0 z1 z2 l0 l1 l2 l3 l4 l5 l6 l7 l8 l9 c0
        go_upto_region 18 with fail
        go_region_held3 (fun V => V.cell? ⟨bz, 0, none⟩ = some (.string ⟨x.name.toArray⟩) ∧ V.cell? ⟨bz, 1, none⟩ = some (.int .i64 x.off) ∧ V.cell? ⟨bz, 2, none⟩ = some (.slice v1 v2 v3) ∧ V.cell? ⟨lb, 0, none⟩ = some (.string ⟨#[97]⟩) ∧ V.cell? ⟨lb, 1, none⟩ = some (.int .i64 l.zone) ∧ V.cell? ⟨lb, 2, none⟩ = some (.int .i64 l.day) ∧ V.cell? ⟨lb, 3, none⟩ = some (.int .i64 l.sec) ∧ V.cell? ⟨lb, 4, none⟩ = some (.int .i64 l.unit) ∧ V.cell? ⟨lb, 5, none⟩ = some (.int .i64 l.every) ∧ V.cell? ⟨lb, 6, none⟩ = some (.slice m1 m2 m3) ∧ V.cell? ⟨lb, 7, none⟩ = some (.slice q1 q2 q3) ∧ V.cell? ⟨lb, 8, none⟩ = some (.int .i64 l.cal) ∧ V.cell? ⟨lb, 9, none⟩ = some (.int .i64 l.mode) ∧ V.cell? ⟨ib, iof + k, none⟩ = some (.int .i64 a) ∧ Below w5.heap.size w5 V)
          (first | (exact HKS.out _ _ HS0.out (Below.refl _ _).drew) | (exact HKS.out _ _ (by assumption) hb))
          (first | (go_at_call 23; ((with_reducible refine (CS.out a _ (HKB.out _ (by assumption)) (by omega) (by omega)).mono ?_); rintro e w' ⟨k7, r7, rfl, hs7, hb⟩)))
        rename_i hS7
        obtain ⟨rfl, rfl⟩ := HSO.out j a k7 r7 j0 EJ.out (by omega) (by omega) hs7
        obtain ⟨z0, z1, z2, l0, l1, l2, l3, l4, l5, l6, l7, l8, l9, c0, hw57⟩ := hS7
        have HR7 := Lib.hid (bstep HR.out ((Below.refl _ _).drew.trans hb))
        have HB7 := Lib.hid hw57
        clear hs7 hb hw57
        go_upto_region 20 with (go_at_call 14; refine (CH.out j a _ HB7.out j0 EJ.out).mono ?_; rintro e w13 ⟨rfl, hb8⟩)
        have c1 := cell_keep c0 hb8
        have HR8 := Lib.hid (bstep HR7.out hb8)
        clear z0 z1 z2 l0 l1 l2 l3 l4 l5 l6 l7 l8 l9 c0 hb8
        have g0' : ¬ a < fr := Int.not_lt.2 g0
        have g1' : ¬ fr + mi + ti ≤ a := Int.not_le.2 g1
        have ⟨e1, e1'⟩ := wrapn (n := (k : Int) + 1) (by omega)
        go_wp2_with fail
        go_roundw
        case rel => exact ⟨k + 1, Nat.succ_le_of_lt hlt, by go_num, HR8⟩
        case measure => exact meas_up hlt
      · go_wp2_with fail
        refine (sane10_any _ (HT.out _ (bstep B5.out (bstep HW11.out HR.out)))).mono ?_
        rintro e wz ⟨rfl, bz9⟩
        go_wp2_with fail
        go_ret
        exact ⟨rfl, bstep (bstep B5.out (bstep HW11.out HR.out)) bz9⟩
  · have hl : decide ((n : Int) ≤ 500) = false := by simp; omega
    clear hA hn hf
    go_enter Tryd.func7, Tryd.ntmps7
    go_wp2_with fail
    refine (Light_any A n c _).mono ?_
    rw [hl]
    rintro e w' ⟨rfl, rfl⟩
    go_wp2_with fail
    refine (sane10_any _ (HT.out _ (Below.refl _ _))).mono ?_
    rintro e w1 ⟨rfl, b1⟩
    go_wp2_with fail
    go_ret
    exact ⟨rfl, b1⟩
end Go.Proofs.YthaacmmkignocaaDoor
