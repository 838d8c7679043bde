/- The law RecurSame returns true for all arguments. Printed by gen_tcl.py. -/
import Derived.Test.YthaacmmkignocaaDoorKTcs
import Derived.Test.YthaacmmkignocaaDoorKG33
import Derived.Test.YthaacmmkignocaaDoorKZre
namespace Go.Proofs.YthaacmmkignocaaDoor
open Go.RowKit
set_option linter.unusedVariables false
set_option linter.unusedSimpArgs false
set_option maxRecDepth 100000
set_option maxHeartbeats 16000000 in
theorem recursame_any (A : Option Addr) (n c : Nat) (zs : List Int) (k : Int) (w : World) (hT : CivT w) (hA : NumsAt w A zs) (hn : zs.length = n) (hf : ∀ z ∈ zs, -9223372036854775808 ≤ z ∧ z ≤ 9223372036854775807) (hk : I64 k) :
    Calls Tryd.prog 3 #[.slice A n c, .int .i64 k] w fun e w' => e = .returned (.bool true) ∧ Below w.heap.size w w' := by
  have HT := Lib.hid (show ∀ W, Below w.heap.size w W → CivT W from fun W hb => hT.below hb)
  clear hT
  by_cases h5 : n ≤ 500
  · have hl : decide ((n : Int) ≤ 500) = true := by simp; omega
    have D0 := Lib.hid (Dice.start (c := c) hA hn h5 hf)
    clear hA hn hf
    go_enter Tryd.func3, Tryd.ntmps3
    go_wp2_with fail
    refine (Light_any A n c _).mono ?_
    rw [hl]
    rintro e w' ⟨rfl, rfl⟩
    go_wp2_with fail
    refine (Roll_any A n c _).mono ?_
    rintro e w' ⟨rfl, rfl⟩
    go_wp2_with fail
    refine (Staff_any w.heap.size n c A zs _ D0.out).mono ?_
    rintro e w1 ⟨⟨a1, a2, a3⟩, ⟨b1, b2, b3⟩, ⟨d1, d2, d3⟩, C, rfl, hS, -, hM, hz1, hp1, hg, hD⟩
    simp only [cfgV, noSV]
    have B1 := Lib.hid (below_of_grown ((Below.refl _ w).alloc (Nat.le_refl _) (.cells #[.slice A n c, .int .i64 0] 69)) hg (by simp) (Nat.le_refl _))
    have hza := hS.zones.len; have hpa := hS.people.len; have hca := hS.cals.len
    simp only at hza hpa hca
    have hzl := hM.zl; have hpl := hM.pl; have hcl := hM.cl
    have HM := Lib.hid hM
    have HST := Lib.hid (StaffS.mv hS (Mv.of_below (S' := fun q => w.heap.size < q) ((Below.refl _ w1).alloc (Nat.le_refl _) (.cells #[.slice a1 a2 a3, .slice b1 b2 b3, .slice d1 d2 d3, .slice none 0 0] 32)) (fun b h _ => by simp at h; omega)))
    have hgl := hD.lt_
    have HD := Lib.hid (hD.alloc (.cells #[.slice a1 a2 a3, .slice b1 b2 b3, .slice d1 d2 d3, .slice none 0 0] 32))
    have CB := Lib.hid (BlkAt.new w1 #[.slice a1 a2 a3, .slice b1 b2 b3, .slice d1 d2 d3, .slice none 0 0] 32)
    have B2 := Lib.hid (B1.out.alloc B1.out.size (.cells #[.slice a1 a2 a3, .slice b1 b2 b3, .slice d1 d2 d3, .slice none 0 0] 32))
    clear hS hM hg hD D0 B1 h5
    go_upto_region 5 with fail
    generalize hcb : w1.heap.size = cb at CB hgl ⊢
    generalize w1.alloc (.cells #[.slice a1 a2 a3, .slice b1 b2 b3, .slice d1 d2 d3, .slice none 0 0] 32) = W2 at HST HD CB B2 ⊢
    clear hcb
    have y0 := CB.out.cell (i := 0) rfl; have y1 := CB.out.cell (i := 1) rfl; have y2 := CB.out.cell (i := 2) rfl; have y3 := CB.out.cell (i := 3) rfl
    go_upto_region 6 with (go_at_call 12; refine (Layer_lit w.heap.size n c A zs a1 b1 d1 none a2 a3 b2 b3 d2 d3 0 0 [97] (by omega) (by omega) (by omega) (by omega) (by omega) W2 HD.out).mono ?_; rintro e w3 ⟨l, m1, m2, m3, q1, q2, q3, rfl, -, hml, hls, hg3, hD3⟩)
    have hmem := hls.1.len
    simp only at hmem
    have LB := Lib.hid (BlkAt.new w3 #[.string ⟨#[97]⟩, .int .i64 l.zone, .int .i64 l.day, .int .i64 l.sec, .int .i64 l.unit, .int .i64 l.every, .slice m1 m2 m3, .slice q1 q2 q3, .int .i64 l.cal, .int .i64 l.mode] 38)
    have k3 := (Below.refl _ w3).alloc (Nat.le_refl _) (.cells #[.string ⟨#[97]⟩, .int .i64 l.zone, .int .i64 l.day, .int .i64 l.sec, .int .i64 l.unit, .int .i64 l.every, .slice m1 m2 m3, .slice q1 q2 q3, .int .i64 l.cal, .int .i64 l.mode] 38)
    have CB3 := Lib.hid ((CB.out.grown hg3 (by intro e; cases e; omega)).after k3)
    have HD3 := Lib.hid (hD3.after k3)
    have HST3 := Lib.hid ((HST.out.mv (Mv.of_grown (S' := fun q => w.heap.size < q) hg3 (fun g e => by cases e; omega) (fun b h _ => h))).mv (Mv.of_below (S' := fun q => w.heap.size < q) k3 (fun b h _ => h)))
    have B3 := Lib.hid (bstep (below_of_grown B2.out hg3 B2.out.size (Nat.le_refl _)) k3)
    have HML := Lib.hid hml
    clear y0 y1 y2 y3 hls hg3 k3 CB HD HST B2 hml
    have hlb2 : w.heap.size ≠ w3.heap.size := by have := hD3.lt_; omega
    generalize hlb : w3.heap.size = lb at LB hlb2 ⊢
    generalize w3.alloc (.cells #[.string ⟨#[97]⟩, .int .i64 l.zone, .int .i64 l.day, .int .i64 l.sec, .int .i64 l.unit, .int .i64 l.every, .slice m1 m2 m3, .slice q1 q2 q3, .int .i64 l.cal, .int .i64 l.mode] 38) = W3 at LB CB3 HD3 HST3 B3 ⊢
    clear hlb hD3
    obtain ⟨hz, e1, e2, e3, e4, e5, e6, e7, ⟨e8, e9⟩, hmn, hm3, -, -, -, -⟩ := HML.out
    obtain ⟨i, hi, hia⟩ : ∃ i : Nat, l.zone = i ∧ i < a2 := ⟨l.zone.toNat, by unfold Rs.isIx at hz; simp at hz; omega, by unfold Rs.isIx at hz; simp at hz; omega⟩
    obtain ⟨x, ⟨v1, v2, v3⟩, zb, zoff, hx, ea, hzb, hcell, hZS⟩ := (HST3.out.zones.nest (Q := fun _ _ W z v => ZoneS (fun q => w.heap.size < q) W z v) (lo := 0) (fun b _ => Nat.zero_le b) (fun x y h => h)).get hia
    simp only at ea
    subst ea
    have x0 := hcell 0 (by omega); have x1 := hcell 1 (by omega); have x2 := hcell 2 (by omega)
    simp only [eZone, Nat.add_zero] at x0 x1 x2
    have hgood := (HM.out.zs x (List.mem_of_getElem? hx)).1
    obtain ⟨ts, htr, -⟩ := hgood.ex
    have hv := Zn.trans_vz htr
    have hoff : I64 x.off := hZS.2.2
    have hZI : ZIn W3 v1 v2 x.rules := ⟨HT.out _ B3.out, hZS.1.at_, hZS.1.len, hZS.2.1, by have h1 := hZS.1.len; have h2 := hgood.len; (try simp only at h1); omega⟩
    have hRt : Rc.Rt l.unit l.every l.day l.sec := ⟨e5, e6, e7, by omega, by omega, by omega, e3, e4⟩
    have hm0 : 0 < m2 := by
      rcases Nat.eq_zero_or_pos m2 with h0 | h0
      · exact absurd (List.eq_nil_of_length_eq_zero (by omega)) hmn
      · exact h0
    have hOK := Rc.okL_of hRt hm0
    have ZBn := Lib.hid (BlkAt.new W3 #[.string ⟨x.name.toArray⟩, .int .i64 x.off, .slice v1 v2 v3] 42)
    have kz := (Below.refl _ W3).alloc (Nat.le_refl _) (.cells #[.string ⟨x.name.toArray⟩, .int .i64 x.off, .slice v1 v2 v3] 42)
    have LBn := Lib.hid (LB.out.after kz)
    have HDn := Lib.hid (HD3.out.after kz)
    have Bn := Lib.hid (bstep B3.out kz)
    have HZI := Lib.hid (hZI.below kz)
    have HZS := Lib.hid (ZoneS.mv (Mv.of_below (S' := fun q => w.heap.size < q) kz (fun b h _ => h)) _ _ hZS)
    have hbzl := HDn.out.lt_
    have y0 := CB3.out.cell (i := 0) rfl
    have l1 := LB.out.cell (i := 1) rfl
    rw [hi] at l1
    have hia2 : (i : Int) < a2 := by omega
    have hi0 : (0 : Int) ≤ i := by omega
    have HTR := Lib.hid htr; have HRT := Lib.hid hRt; have HOK := Lib.hid hOK; have HV := Lib.hid hv; have HOFF := Lib.hid hoff
    have HUE := Lib.hid (And.intro e5 (And.intro e6 (And.intro e7 (And.intro e8 e9))))
    have HDY := Lib.hid (And.intro e1 (And.intro e2 (And.intro e3 e4)))
    have HZI0 := Lib.hid hi
    have hm2b : m2 ≤ 3 := by omega
    clear hcell hZS hgood hZI hRt hOK htr hv hoff kz hz e1 e2 e3 e4 e5 e6 e7 e8 e9 hmn hm3 HML hx HM HST3 hmem
    go_upto_region 7 with fail
    have hbz2 : w.heap.size ≠ W3.heap.size := by have := HD3.out.lt_; omega
    generalize hbz : W3.heap.size = bz at ZBn hbz2 ⊢
    generalize W3.alloc (.cells #[.string ⟨x.name.toArray⟩, .int .i64 x.off, .slice v1 v2 v3] 42) = W at ZBn LBn HDn Bn HZI HZS hbzl ⊢
    clear x0 x1 x2 y0 l1 hbz CB3 LB HD3 B3 hia hia2 hi0 hi
    have HEX := Lib.hid (show ∀ j : Int, 0 ≤ j → j ≤ 150 → ∃ a, Rc.hV x.off ts l.unit l.every l.day l.sec j = some a from fun j h0 h1 => Rc.hV_ex HV.out HRT.out h0 (by
      have hu := HUE.out; have hd := HDY.out
      have := Int.mul_le_mul h1 (show l.every * 7 ≤ 343 by omega) (by omega) (by omega)
      omega))
    have CH := Lib.hid (show ∀ (j a : Int) (V : World), Below W.heap.size W V → 0 ≤ j → j ≤ 150 → Rc.hV x.off ts l.unit l.every l.day l.sec j = some a → Calls Tryd.prog 14 #[.agg #[.string ⟨x.name.toArray⟩, .int .i64 x.off, .slice v1 v2 v3], .agg #[.string ⟨#[97]⟩, .int .i64 l.zone, .int .i64 l.day, .int .i64 l.sec, .int .i64 l.unit, .int .i64 l.every, .slice m1 m2 m3, .slice q1 q2 q3, .int .i64 l.cal, .int .i64 l.mode], .int .i64 j] V (GivesF a 0 V) from fun j a V hb h0 h1 ea => by
      have := pHan_is HTR.out l.unit l.every l.day l.sec ⟨x.name.toArray⟩ v1 v2 v3 ⟨#[97]⟩ l.zone m1 m2 m3 q1 q2 q3 l.cal l.mode j V (HZI.out.below hb) HOFF.out ⟨by omega, by omega⟩
      rw [HOK.out, ea, Rc.hOut_some h0] at this
      exact this)
    obtain ⟨kk, hkk⟩ : ∃ q, k % 20 = q := ⟨_, rfl⟩
    have hk0 : 0 ≤ kk := by omega
    have hk1 : kk < 20 := by omega
    obtain ⟨a, ea⟩ := HEX.out kk hk0 (by omega)
    have EA := Lib.hid ea
    have hdy := HDY.out; have hue := HUE.out
    have ha := Rc.hV_bd HV.out HRT.out hk0 ea
    have hal := Rc.hV_lo HV.out HRT.out (by omega) hk0 ea
    have hbd := HV.out.bd a
    obtain ⟨xd, hxd⟩ : ∃ d, Zn.cl x.off ts a / 86400 = d := ⟨_, rfl⟩
    obtain ⟨xs, hxs⟩ : ∃ d, Zn.cl x.off ts a % 86400 = d := ⟨_, rfl⟩
    have hcl : Zn.cl x.off ts a = xd * 86400 + xs := by omega
    have hxdb : 20000 ≤ xd ∧ xd ≤ 99421 ∧ 0 ≤ xs ∧ xs < 86400 := by unfold Zn.cl at hxd hxs; omega
    have hoks : Zn.okD xs = true := Zn.okD_iff.2 ⟨hxdb.2.2.1, hxdb.2.2.2⟩
    obtain ⟨y, hy, hya⟩ : ∃ y, Zn.fst (Zn.locS xd xs) (Zn.strs 0 x.off ts) = some y ∧ y ≤ a := by
      obtain ⟨y, e, -, g, -⟩ := HV.out.fst_le (v := Zn.locS xd xs) (x := a) (by omega) ha.2 (by rw [Rc.locS_of (by omega) (by omega)]; omega)
      exact ⟨y, e, g⟩
    have HTL := Lib.hid (show ∀ V, Below W.heap.size W V → Calls Tryd.prog 15 #[.agg #[.string ⟨x.name.toArray⟩, .int .i64 x.off, .slice v1 v2 v3], .int .i64 a] V fun e V' => e = .returned (.tuple #[.agg #[.int .i64 xd, .int .i64 xs], .int .i64 0]) ∧ Below V.heap.size V V' from fun V hb => by
      have := rtoLocal_is HTR.out ⟨x.name.toArray⟩ v1 v2 v3 a V (HZI.out.below hb) HOFF.out
      rw [locV_ok (by omega) ha.2 rfl, offE_ok (by omega) ha.2, hxd, hxs] at this
      exact this)
    have HFI := Lib.hid (show ∀ V, Below W.heap.size W V → Calls Tryd.prog 16 #[.agg #[.string ⟨x.name.toArray⟩, .int .i64 x.off, .slice v1 v2 v3], .agg #[.int .i64 xd, .int .i64 xs]] V (GivesF y 0 V) from fun V hb => by
      have := rfirst_is HTR.out ⟨x.name.toArray⟩ v1 v2 v3 xd xs V (HZI.out.below hb) HOFF.out ⟨by omega, by omega⟩
      have hfv := fstV_ok (off := x.off) (ts := ts) hoks rfl hy
      rw [hfv.1, hfv.2] at this
      exact this)
    have CM := Lib.hid (show (l.unit = 0 ∨ xs = l.sec) → y = a → ∀ (j b : Int) (V : World), Below W.heap.size W V → 0 ≤ j → j ≤ 100 → Rc.hV x.off ts l.unit l.every l.day l.sec (kk + j) = some b → Calls Tryd.prog 14 #[.agg #[.string ⟨x.name.toArray⟩, .int .i64 x.off, .slice v1 v2 v3], .agg #[.string ⟨#[97]⟩, .int .i64 l.zone, .int .i64 xd, .int .i64 xs, .int .i64 l.unit, .int .i64 l.every, .slice m1 m2 m3, .slice q1 q2 q3, .int .i64 l.cal, .int .i64 l.mode], .int .i64 j] V (GivesF b 0 V) from fun hs hya2 j b V hb h0 h1 eb => by
      have := pHan_is HTR.out l.unit l.every xd xs ⟨x.name.toArray⟩ v1 v2 v3 ⟨#[97]⟩ l.zone m1 m2 m3 q1 q2 q3 l.cal l.mode j V (HZI.out.below hb) HOFF.out ⟨by omega, by omega⟩
      have hok2 : Rc.okL l.unit l.every xd xs m2 = true := Rc.okL_of ⟨hue.1, hue.2.1, hue.2.2.1, by omega, by omega, by omega, by omega, by omega⟩ hm0
      have he := Rc.same_all HV.out HRT.out hk0 EA.out (by rw [hxs]; exact hs) (by rw [hxd, hxs, ← hya2]; exact hy) j
      rw [hxd, hxs, eb] at he
      rw [hok2, he, Rc.hOut_some h0] at this
      exact this)
    obtain ⟨H, hH⟩ : ∃ H, Rc.hV x.off ts l.unit l.every l.day l.sec = H := ⟨_, rfl⟩
    rw [hH] at HEX CH EA CM
    clear hH HV HRT HTR HZI HOFF ea hxd hxs hcl hoks hy hbd hal
    go_upto_region 8 with (go_at_call 13; refine (Mod_any k 20 _ hk.1 hk.2 (by decide) (by decide)).mono ?_; rintro e w' ⟨rfl, rfl⟩; rw [hkk])
    clear hkk
    have z0 := ZBn.out.cell (i := 0) rfl; have z1 := ZBn.out.cell (i := 1) rfl; have z2 := ZBn.out.cell (i := 2) rfl; have l0 := LBn.out.cell (i := 0) rfl; have l1 := LBn.out.cell (i := 1) rfl; have l2 := LBn.out.cell (i := 2) rfl; have l3 := LBn.out.cell (i := 3) rfl; have l4 := LBn.out.cell (i := 4) rfl; have l5 := LBn.out.cell (i := 5) rfl; have l6 := LBn.out.cell (i := 6) rfl; have l7 := LBn.out.cell (i := 7) rfl; have l8 := LBn.out.cell (i := 8) rfl; have l9 := LBn.out.cell (i := 9) rfl
    go_upto_region 9 with (go_at_call 14; refine (CH.out kk a _ (Below.refl _ _) hk0 (by omega) EA.out).mono ?_; rintro e w5 ⟨rfl, hb5⟩; have HW5 := Lib.hid hb5; have ZB5 := Lib.hid (ZBn.out.after hb5); have LB5 := Lib.hid (LBn.out.after hb5); clear hb5 z0 z1 z2 l0 l1 l2 l3 l4 l5 l6 l7 l8 l9)
    have z0 := ZB5.out.cell (i := 0) rfl; have z1 := ZB5.out.cell (i := 1) rfl; have z2 := ZB5.out.cell (i := 2) rfl
    go_upto_region 12 with (go_at_call 15; refine (HTL.out _ HW5.out).mono ?_; rintro e w6 ⟨rfl, hb6⟩)
    have ZC6 := Lib.hid ((ZB5.out.after hb6).alloc (.cells #[.int .i64 xd, .int .i64 xs] 35))
    have LC6 := Lib.hid ((LB5.out.after hb6).alloc (.cells #[.int .i64 xd, .int .i64 xs] 35))
    have DC6 := Lib.hid (BlkAt.new w6 #[.int .i64 xd, .int .i64 xs] 35)
    have HC6 := Lib.hid ((bstep HW5.out hb6).alloc (bstep HW5.out hb6).size (.cells #[.int .i64 xd, .int .i64 xs] 35))
    generalize hbd : w6.heap.size = bd at DC6 ⊢
    generalize w6.alloc (.cells #[.int .i64 xd, .int .i64 xs] 35) = W6 at ZC6 LC6 DC6 HC6 ⊢
    clear hbd ZB5 LB5 HW5 hb6 z0 z1 z2
    have l0 := LC6.out.cell (i := 0) rfl; have l1 := LC6.out.cell (i := 1) rfl; have l2 := LC6.out.cell (i := 2) rfl; have l3 := LC6.out.cell (i := 3) rfl; have l4 := LC6.out.cell (i := 4) rfl; have l5 := LC6.out.cell (i := 5) rfl; have l6 := LC6.out.cell (i := 6) rfl; have l7 := LC6.out.cell (i := 7) rfl; have l8 := LC6.out.cell (i := 8) rfl; have l9 := LC6.out.cell (i := 9) rfl
    go_upto_region 13 with fail
    have MB := Lib.hid (BlkAt.new W6 #[.string ⟨#[97]⟩, .int .i64 l.zone, .int .i64 l.day, .int .i64 l.sec, .int .i64 l.unit, .int .i64 l.every, .slice m1 m2 m3, .slice q1 q2 q3, .int .i64 l.cal, .int .i64 l.mode] 38)
    have ZC7 := Lib.hid (ZC6.out.alloc (.cells #[.string ⟨#[97]⟩, .int .i64 l.zone, .int .i64 l.day, .int .i64 l.sec, .int .i64 l.unit, .int .i64 l.every, .slice m1 m2 m3, .slice q1 q2 q3, .int .i64 l.cal, .int .i64 l.mode] 38)); have LC7 := Lib.hid (LC6.out.alloc (.cells #[.string ⟨#[97]⟩, .int .i64 l.zone, .int .i64 l.day, .int .i64 l.sec, .int .i64 l.unit, .int .i64 l.every, .slice m1 m2 m3, .slice q1 q2 q3, .int .i64 l.cal, .int .i64 l.mode] 38)); have DC7 := Lib.hid (DC6.out.alloc (.cells #[.string ⟨#[97]⟩, .int .i64 l.zone, .int .i64 l.day, .int .i64 l.sec, .int .i64 l.unit, .int .i64 l.every, .slice m1 m2 m3, .slice q1 q2 q3, .int .i64 l.cal, .int .i64 l.mode] 38))
    have HC7 := Lib.hid (HC6.out.alloc HC6.out.size (.cells #[.string ⟨#[97]⟩, .int .i64 l.zone, .int .i64 l.day, .int .i64 l.sec, .int .i64 l.unit, .int .i64 l.every, .slice m1 m2 m3, .slice q1 q2 q3, .int .i64 l.cal, .int .i64 l.mode] 38))
    have nz : bz ≠ W6.heap.size := by have := ZC6.out.lt_; omega
    have nl : lb ≠ W6.heap.size := by have := LC6.out.lt_; omega
    have nd : bd ≠ W6.heap.size := by have := DC6.out.lt_; omega
    have nm : W.heap.size ≤ W6.heap.size := HC6.out.size
    generalize hmb : W6.heap.size = mb at MB nz nl nd nm ⊢
    generalize W6.alloc (.cells #[.string ⟨#[97]⟩, .int .i64 l.zone, .int .i64 l.day, .int .i64 l.sec, .int .i64 l.unit, .int .i64 l.every, .slice m1 m2 m3, .slice q1 q2 q3, .int .i64 l.cal, .int .i64 l.mode] 38) = W7 at MB ZC7 LC7 DC7 HC7 ⊢
    clear hmb ZC6 LC6 DC6 HC6 l0 l1 l2 l3 l4 l5 l6 l7 l8 l9
    have d0 := DC7.out.cell (i := 0) rfl; have d1 := DC7.out.cell (i := 1) rfl
    have m2c := MB.out.cell (i := 2) rfl; have m3c := MB.out.cell (i := 3) rfl; have m2f := MB.out.free 2; have m3f := MB.out.free 3
    go_upto_region 14 with fail
    have MB8 := Lib.hid (show BlkAt ((W7.setCell ⟨mb, 2, none⟩ (.int .i64 xd)).setCell ⟨mb, 3, none⟩ (.int .i64 xs)) mb #[.string ⟨#[97]⟩, .int .i64 l.zone, .int .i64 xd, .int .i64 xs, .int .i64 l.unit, .int .i64 l.every, .slice m1 m2 m3, .slice q1 q2 q3, .int .i64 l.cal, .int .i64 l.mode] 38 by have := (MB.out.set_ 2 (.int .i64 xd)).set_ 3 (.int .i64 xs); simpa using this)
    have ZC8 := Lib.hid ((ZC7.out.other (g := mb) (i := 2) nz.symm (.int .i64 xd)).other (g := mb) (i := 3) nz.symm (.int .i64 xs))
    have LC8 := Lib.hid ((LC7.out.other (g := mb) (i := 2) nl.symm (.int .i64 xd)).other (g := mb) (i := 3) nl.symm (.int .i64 xs))
    have DC8 := Lib.hid ((DC7.out.other (g := mb) (i := 2) nd.symm (.int .i64 xd)).other (g := mb) (i := 3) nd.symm (.int .i64 xs))
    have HC8 := Lib.hid ((HC7.out.setCell (p := ⟨mb, 2, none⟩) nm (.int .i64 xd)).setCell (p := ⟨mb, 3, none⟩) nm (.int .i64 xs))
    generalize (W7.setCell ⟨mb, 2, none⟩ (.int .i64 xd)).setCell ⟨mb, 3, none⟩ (.int .i64 xs) = W8 at MB8 ZC8 LC8 DC8 HC8 ⊢
    clear MB ZC7 LC7 DC7 HC7 d0 d1 m2c m3c m2f m3f
    have d0 := DC8.out.cell (i := 0) rfl; have d1 := DC8.out.cell (i := 1) rfl
    have z0 := ZC8.out.cell (i := 0) rfl; have z1 := ZC8.out.cell (i := 1) rfl; have z2 := ZC8.out.cell (i := 2) rfl
    go_upto_region 15 with (go_at_call 16; refine (HFI.out _ HC8.out).mono ?_; rintro e w9 ⟨rfl, hb9⟩)
    have MB9 := Lib.hid (MB8.out.after hb9); have ZC9 := Lib.hid (ZC8.out.after hb9); have LC9 := Lib.hid (LC8.out.after hb9); have DC9 := Lib.hid (DC8.out.after hb9); have HC9 := Lib.hid (bstep HC8.out hb9)
    clear MB8 ZC8 LC8 DC8 HC8 hb9 d0 d1 z0 z1 z2
    have d0 := DC9.out.cell (i := 0) rfl; have d1 := DC9.out.cell (i := 1) rfl
    have l0 := LC9.out.cell (i := 0) rfl; have l1 := LC9.out.cell (i := 1) rfl; have l2 := LC9.out.cell (i := 2) rfl; have l3 := LC9.out.cell (i := 3) rfl; have l4 := LC9.out.cell (i := 4) rfl; have l5 := LC9.out.cell (i := 5) rfl; have l6 := LC9.out.cell (i := 6) rfl; have l7 := LC9.out.cell (i := 7) rfl; have l8 := LC9.out.cell (i := 8) rfl; have l9 := LC9.out.cell (i := 9) rfl
    by_cases hcond : (l.unit = 0 ∨ xs = l.sec) ∧ y = a
    · obtain ⟨hc1, rfl⟩ := hcond
      have HCM := Lib.hid (CM.out hc1 rfl)
      by_cases hu : l.unit = 0
      · have fu : (l.unit == 0) = true := by simpa using hu
        have fn : (l.unit != 0) = false := by simpa using hu
        clear hu hc1 fu
        go_wp2_with fail
        go_loopw [16] (fun v wr => ∃ j : Int, v = .int .i64 j ∧ 0 ≤ j ∧ j ≤ 8 ∧ Hid (Below w9.heap.size w9 wr)) (fun v _ => (8 - intOf v).toNat)
        case atStart => exact ⟨0, rfl, Int.le_refl _, by omega, Lib.hid (Below.refl _ _)⟩
        case round =>
          clear d0 d1 l0 l1 l2 l3 l4 l5 l6 l7 l8 l9
          obtain ⟨j, rfl, j0, j1, HR⟩ := hrel
          by_cases hj : j < 8
          · obtain ⟨b, eb⟩ := HEX.out (kk + j) (by omega) (by omega)
            have EB := Lib.hid eb
            have ⟨e1, e1'⟩ := wrapn (n := kk + j) (by omega)
            have ⟨e2, e2'⟩ := wrapn (n := j + 1) (by omega)
            have HWR := Lib.hid (bstep HC9.out HR.out)
            have ZB := Lib.hid (ZC9.out.after HR.out); have LB := Lib.hid (LC9.out.after HR.out); have MB := Lib.hid (MB9.out.after HR.out)
            clear eb
            have z0 := ZB.out.cell (i := 0) rfl; have z1 := ZB.out.cell (i := 1) rfl; have z2 := ZB.out.cell (i := 2) rfl; have l0 := LB.out.cell (i := 0) rfl; have l1 := LB.out.cell (i := 1) rfl; have l2 := LB.out.cell (i := 2) rfl; have l3 := LB.out.cell (i := 3) rfl; have l4 := LB.out.cell (i := 4) rfl; have l5 := LB.out.cell (i := 5) rfl; have l6 := LB.out.cell (i := 6) rfl; have l7 := LB.out.cell (i := 7) rfl; have l8 := LB.out.cell (i := 8) rfl; have l9 := LB.out.cell (i := 9) rfl
            go_upto_region 21 with (go_at_call 14; refine (CH.out (kk + j) b _ HWR.out (by omega) (by omega) EB.out).mono ?_; rintro e wa ⟨rfl, hba⟩; have HWa := Lib.hid (bstep HWR.out hba); have HRa := Lib.hid (bstep HR.out hba); have ZBa := Lib.hid (ZB.out.after hba); have MBa := Lib.hid (MB.out.after hba); clear hba ZB LB MB z0 z1 z2 l0 l1 l2 l3 l4 l5 l6 l7 l8 l9)
            have z0 := ZBa.out.cell (i := 0) rfl; have z1 := ZBa.out.cell (i := 1) rfl; have z2 := ZBa.out.cell (i := 2) rfl; have l0 := MBa.out.cell (i := 0) rfl; have l1 := MBa.out.cell (i := 1) rfl; have l2 := MBa.out.cell (i := 2) rfl; have l3 := MBa.out.cell (i := 3) rfl; have l4 := MBa.out.cell (i := 4) rfl; have l5 := MBa.out.cell (i := 5) rfl; have l6 := MBa.out.cell (i := 6) rfl; have l7 := MBa.out.cell (i := 7) rfl; have l8 := MBa.out.cell (i := 8) rfl; have l9 := MBa.out.cell (i := 9) rfl
            go_upto_region 22 with (go_at_call 14; refine (HCM.out j b _ HWa.out j0 (by omega) EB.out).mono ?_; rintro e wb ⟨rfl, hbb⟩; have HRb := Lib.hid (bstep HRa.out hbb); clear hbb ZBa MBa z0 z1 z2 l0 l1 l2 l3 l4 l5 l6 l7 l8 l9)
            go_wp2_with fail
            exact ⟨⟨j + 1, rfl, by omega, by omega, HRb⟩, by simp [intOf]; omega⟩
          · go_wp2_with fail
            refine (sane10_any _ (HT.out _ (bstep Bn.out (bstep HC9.out HR.out)))).mono ?_
            rintro e wz ⟨rfl, bz9⟩
            go_wp2_with fail
            go_ret
            exact ⟨rfl, bstep (bstep Bn.out (bstep HC9.out HR.out)) bz9⟩
      · have fu : (l.unit == 0) = false := by simpa using hu
        obtain rfl : xs = l.sec := by rcases hc1 with h | h; exact absurd h hu; exact h
        go_wp2_with fail
        go_loopw [16] (fun v wr => ∃ j : Int, v = .int .i64 j ∧ 0 ≤ j ∧ j ≤ 8 ∧ Hid (Below w9.heap.size w9 wr)) (fun v _ => (8 - intOf v).toNat)
        case atStart => exact ⟨0, rfl, Int.le_refl _, by omega, Lib.hid (Below.refl _ _)⟩
        case round =>
          clear d0 d1 l0 l1 l2 l3 l4 l5 l6 l7 l8 l9
          obtain ⟨j, rfl, j0, j1, HR⟩ := hrel
          by_cases hj : j < 8
          · obtain ⟨b, eb⟩ := HEX.out (kk + j) (by omega) (by omega)
            have EB := Lib.hid eb
            have ⟨e1, e1'⟩ := wrapn (n := kk + j) (by omega)
            have ⟨e2, e2'⟩ := wrapn (n := j + 1) (by omega)
            have HWR := Lib.hid (bstep HC9.out HR.out)
            have ZB := Lib.hid (ZC9.out.after HR.out); have LB := Lib.hid (LC9.out.after HR.out); have MB := Lib.hid (MB9.out.after HR.out)
            clear eb
            have z0 := ZB.out.cell (i := 0) rfl; have z1 := ZB.out.cell (i := 1) rfl; have z2 := ZB.out.cell (i := 2) rfl; have l0 := LB.out.cell (i := 0) rfl; have l1 := LB.out.cell (i := 1) rfl; have l2 := LB.out.cell (i := 2) rfl; have l3 := LB.out.cell (i := 3) rfl; have l4 := LB.out.cell (i := 4) rfl; have l5 := LB.out.cell (i := 5) rfl; have l6 := LB.out.cell (i := 6) rfl; have l7 := LB.out.cell (i := 7) rfl; have l8 := LB.out.cell (i := 8) rfl; have l9 := LB.out.cell (i := 9) rfl
            go_upto_region 21 with (go_at_call 14; refine (CH.out (kk + j) b _ HWR.out (by omega) (by omega) EB.out).mono ?_; rintro e wa ⟨rfl, hba⟩; have HWa := Lib.hid (bstep HWR.out hba); have HRa := Lib.hid (bstep HR.out hba); have ZBa := Lib.hid (ZB.out.after hba); have MBa := Lib.hid (MB.out.after hba); clear hba ZB LB MB z0 z1 z2 l0 l1 l2 l3 l4 l5 l6 l7 l8 l9)
            have z0 := ZBa.out.cell (i := 0) rfl; have z1 := ZBa.out.cell (i := 1) rfl; have z2 := ZBa.out.cell (i := 2) rfl; have l0 := MBa.out.cell (i := 0) rfl; have l1 := MBa.out.cell (i := 1) rfl; have l2 := MBa.out.cell (i := 2) rfl; have l3 := MBa.out.cell (i := 3) rfl; have l4 := MBa.out.cell (i := 4) rfl; have l5 := MBa.out.cell (i := 5) rfl; have l6 := MBa.out.cell (i := 6) rfl; have l7 := MBa.out.cell (i := 7) rfl; have l8 := MBa.out.cell (i := 8) rfl; have l9 := MBa.out.cell (i := 9) rfl
            go_upto_region 22 with (go_at_call 14; refine (HCM.out j b _ HWa.out j0 (by omega) EB.out).mono ?_; rintro e wb ⟨rfl, hbb⟩; have HRb := Lib.hid (bstep HRa.out hbb); clear hbb ZBa MBa z0 z1 z2 l0 l1 l2 l3 l4 l5 l6 l7 l8 l9)
            go_wp2_with fail
            exact ⟨⟨j + 1, rfl, by omega, by omega, HRb⟩, by simp [intOf]; omega⟩
          · go_wp2_with fail
            refine (sane10_any _ (HT.out _ (bstep Bn.out (bstep HC9.out HR.out)))).mono ?_
            rintro e wz ⟨rfl, bz9⟩
            go_wp2_with fail
            go_ret
            exact ⟨rfl, bstep (bstep Bn.out (bstep HC9.out HR.out)) bz9⟩
    · by_cases hu : l.unit = 0
      · have fu : (l.unit == 0) = true := by simpa using hu
        have fy : (y == a) = false := by simpa using fun h => hcond ⟨.inl hu, h⟩
        go_wp2_with fail
        refine (sane10_any _ (HT.out _ (bstep Bn.out HC9.out))).mono ?_
        rintro e wz ⟨rfl, bz9⟩
        go_wp2_with fail
        go_ret
        exact ⟨rfl, bstep (bstep Bn.out HC9.out) bz9⟩
      · have fu : (l.unit == 0) = false := by simpa using hu
        by_cases hx5 : xs = l.sec
        · have fx : (xs == l.sec) = true := by simpa using hx5
          have fy : (y == a) = false := by simpa using fun h => hcond ⟨.inr hx5, h⟩
          go_wp2_with fail
          refine (sane10_any _ (HT.out _ (bstep Bn.out HC9.out))).mono ?_
          rintro e wz ⟨rfl, bz9⟩
          go_wp2_with fail
          go_ret
          exact ⟨rfl, bstep (bstep Bn.out HC9.out) bz9⟩
        · have fx : (xs == l.sec) = false := by simpa using hx5
          go_wp2_with fail
          refine (sane10_any _ (HT.out _ (bstep Bn.out HC9.out))).mono ?_
          rintro e wz ⟨rfl, bz9⟩
          go_wp2_with fail
          go_ret
          exact ⟨rfl, bstep (bstep Bn.out HC9.out) bz9⟩
  · have hl : decide ((n : Int) ≤ 500) = false := by simp; omega
    clear hA hn hf
    go_enter Tryd.func3, Tryd.ntmps3
    go_wp2_with fail
    refine (Light_any A n c _).mono ?_
    rw [hl]
    rintro e w' ⟨rfl, rfl⟩
    go_wp2_with fail
    refine (sane10_any _ (HT.out _ (Below.refl _ _))).mono ?_
    rintro e w1 ⟨rfl, b1⟩
    go_wp2_with fail
    go_ret
    exact ⟨rfl, b1⟩
end Go.Proofs.YthaacmmkignocaaDoor
