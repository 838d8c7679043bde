import Derived.Test.YtfamcohbnoibaaaGreatDoorKG33
import Derived.Test.YtfamcohbnoibaaaGreatDoorKG34
import Derived.Test.YtfamcohbnoibaaaGreatDoorKG41
set_option linter.unusedVariables false
set_option linter.unusedSimpArgs false
set_option maxRecDepth 100000
namespace Go.Proofs.YtfamcohbnoibaaaGreatDoor
open Go.RowKit
namespace Sg
noncomputable def perS (C:Rs.Cfg) (l:Rs.Lay) (t:Int):Int:=if fitS C l=true∧0≤t∧t≤8589934592 then (dy C l).per t else -1
theorem Dy.per_at {d:Dy} {t k:Int} (h:d.sh t=k):d.per t=if 0≤k∧d.win t=true∧d.cal t=true then d.ms.getD (k.toNat%d.ms.length) 0 else -1:=by
 subst h
 unfold Dy.per Dy.on
 by_cases h1:0≤d.sh t<;>cases h2:d.win t<;>cases h3:d.cal t<;>simp [h1]
end Sg
set_option maxHeartbeats 16000000 in
theorem Person_is {C:Rs.Cfg} {l:Rs.Lay} (a1:Option Addr) (a2 a3:Nat) (b1:Option Addr) (b2 b3:Nat) (c1:Option Addr) (c2 c3:Nat) (d1:Option Addr) (d2 d3:Nat) (m1:Option Addr) (m2 m3:Nat) (q1:Option Addr) (q2 q3:Nat) (t:Int) (ht:I64 t) (w:World) (h:DIn w (a1,a2,a3) (b1,b2,b3) (c1,c2,c3) (d1,d2,d3) C l (m1,m2,m3) (q1,q2,q3)):
  Calls Tryz.prog 18 #[.agg #[.slice a1 a2 a3,.slice b1 b2 b3,.slice c1 c2 c3,.slice d1 d2 d3],.agg #[.string ⟨l.name.toArray⟩,.int .i64 l.zone,.int .i64 l.day,.int .i64 l.sec,.int .i64 l.unit,.int .i64 l.every,.slice m1 m2 m3,.slice q1 q2 q3,.int .i64 l.cal,.int .i64 l.mode],.int .i64 t] w fun e w'=>e= .returned (.int .i64 (Sg.perS C l t))∧Below w.heap.size w w':=by
 have HK:=Lib.hid (DK.start h)
 have hb0:=HK.out.base
 have HB:=Lib.hid hb0
 obtain ⟨V,hV⟩: ∃V,Sg.perS C l t=V:=⟨_,rfl⟩
 rw [hV]
 unfold Sg.perS at hV
 cases hR:Sg.fitS C l with
 |false=>
  have HF:=Lib.hid (show ∀W,DIn W (a1,a2,a3) (b1,b2,b3) (c1,c2,c3) (d1,d2,d3) C l (m1,m2,m3) (q1,q2,q3)→_ from fun W h=>fits_is hR a1 a2 a3 b1 b2 b3 c1 c2 c3 d1 d2 d3 m1 m2 m3 q1 q2 q3 W h)
  have HV:=Lib.hid (show -1=V by rw [←hV,if_neg (by rw [hR];simp)])
  clear h hb0 hV hR
  go_enter Tryz.func18,Tryz.ntmps18
  go_upto_region 1 with fail
  generalize ((w.alloc (.cells #[.slice a1 a2 a3,.slice b1 b2 b3,.slice c1 c2 c3,.slice d1 d2 d3] 33)).alloc (.cells #[.string ⟨l.name.toArray⟩,.int .i64 l.zone,.int .i64 l.day,.int .i64 l.sec,.int .i64 l.unit,.int .i64 l.every,.slice m1 m2 m3,.slice q1 q2 q3,.int .i64 l.cal,.int .i64 l.mode] 39))=W at HK HB ⊢
  obtain ⟨x0,x1,x2,x3,l0,l1,l2,l3,l4,l5,l6,l7,l8,l9⟩:=HK.out.cs
  go_wp2_with (go_at_call 43;refine (HF.out _ HK.out.din).mono ?_;rintro e w1 ⟨rfl,hb1⟩;have HB1:=Lib.hid (bstep HB.out hb1);clear hb1)
  go_ret
  exact ⟨ret_int HV.out,HB1.out⟩
 |true=>
  have hF:=Sg.fit_of hR
  have HF:=Lib.hid (show ∀W,DIn W (a1,a2,a3) (b1,b2,b3) (c1,c2,c3) (d1,d2,d3) C l (m1,m2,m3) (q1,q2,q3)→_ from fun W h=>fits_is hR a1 a2 a3 b1 b2 b3 c1 c2 c3 d1 d2 d3 m1 m2 m3 q1 q2 q3 W h)
  have HD:=Lib.hid (show ∀(h0:0≤t) (h1:t≤8589934592) W,DIn W (a1,a2,a3) (b1,b2,b3) (c1,c2,c3) (d1,d2,d3) C l (m1,m2,m3) (q1,q2,q3)→_ from fun h0 h1 W h=>onDay_is hF a1 a2 a3 b1 b2 b3 c1 c2 c3 d1 d2 d3 m1 m2 m3 q1 q2 q3 t h0 h1 W h)
  have hml:=h.lay.1.len
  simp only at hml
  have HV1:=Lib.hid (show ¬(0≤t∧t≤8589934592)→ -1=V from fun hn=>by rw [←hV,if_neg (fun h=>hn h.2)])
  have HV2:=Lib.hid (show ∀k,0≤t→t≤8589934592→Rc.ShiftIs (Rc.hV (Sg.lz C l).off (Sg.dy C l).ts l.unit l.every l.day l.sec) t k→V=if 0≤k∧(l.wins.isEmpty||Wk.within l.wins (Wk.sow (Zn.cl (Sg.lz C l).off (Sg.dy C l).ts t)))=true∧(Sg.dy C l).cal t=true then l.mem.getD (k.toNat%m2) 0 else -1 from fun k h0 h1 hs=>by
   rw [←hV,if_pos ⟨hR,h0,h1⟩,Sg.Dy.per_at (Sg.Dy.sh_eq (d:=Sg.dy C l) hs), ←hml]
   rfl)
  obtain ⟨⟨i,hi,hz⟩,htr,hrt,hm0,hm12,hmi,hw, -, -⟩:=hF
  have HOK:=Lib.hid (Rc.okL_of hrt (m:=m2) (by omega))
  have HW:=Lib.hid hw
  generalize (Sg.dy C l).ts=ts at htr HV2
  generalize (Sg.dy C l).cal t=cb at HV2 HD
  generalize Sg.lz C l=z at hz htr HV2
  obtain ⟨hi2,zb,zo,v1,v2,v3,rfl, -, -, -, -, -, -, -⟩:=h.zoneAt hz htr
  have HZ:=Lib.hid hz;have HTR:=Lib.hid htr;have HI:=Lib.hid hi;have HMM:=Lib.hid hml
  have j1:(i:Int)<a2:=by omega
  have j0:(0:Int)≤i:=by omega
  have hm:(m2:Int)≤12:=by omega
  have hm1:(1:Int)≤m2:=by omega
  clear h hb0 hV hR hz htr hrt hm0 hm12 hmi hw hi hi2 hml
  go_enter Tryz.func18,Tryz.ntmps18
  go_upto_region 1 with fail
  generalize ((w.alloc (.cells #[.slice (some ⟨zb,zo,none⟩) a2 a3,.slice b1 b2 b3,.slice c1 c2 c3,.slice d1 d2 d3] 33)).alloc (.cells #[.string ⟨l.name.toArray⟩,.int .i64 l.zone,.int .i64 l.day,.int .i64 l.sec,.int .i64 l.unit,.int .i64 l.every,.slice m1 m2 m3,.slice q1 q2 q3,.int .i64 l.cal,.int .i64 l.mode] 39))=W at HK HB ⊢
  obtain ⟨x0,x1,x2,x3,l0,l1,l2,l3,l4,l5,l6,l7,l8,l9⟩:=HK.out.cs
  go_upto_region 3 with (go_at_call 43;refine (HF.out _ HK.out.din).mono ?_;rintro e w1 ⟨rfl,hb1⟩;have HK1:=Lib.hid (HK.out.below hb1);have HB1:=Lib.hid (bstep HB.out hb1);clear hb1)
  clear x0 x1 x2 x3 l0 l1 l2 l3 l4 l5 l6 l7 l8 l9 HK HB HF
  obtain ⟨-,zb',zo',v1',v2',v3',e2,hzb,z0,z1,z2,z2',hzi,ho⟩:=HK1.out.din.zoneAt HZ.out HTR.out
  cases e2
  obtain ⟨x0,x1,x2,x3,l0,l1,l2,l3,l4,l5,l6,l7,l8,l9⟩:=HK1.out.cs
  rw [HI.out] at l1
  go_upto_region 4 with fail
  have kb:=(Below.refl _ w1).alloc (Nat.le_refl _) (.cells #[.string ⟨z.name.toArray⟩,.int .i64 z.off,.slice v1' v2' v3'] 71)
  have ZB:=Lib.hid (BlkAt.new w1 #[.string ⟨z.name.toArray⟩,.int .i64 z.off,.slice v1' v2' v3'] 71)
  have HK4:=Lib.hid (HK1.out.below kb)
  have HB4:=Lib.hid (bstep HB1.out kb)
  have HZI:=Lib.hid (hzi.below kb)
  have HO:=Lib.hid ho
  clear x0 x1 x2 x3 l0 l1 l2 l3 l4 l5 l6 l7 l8 l9 z0 z1 z2 z2' kb HK1 HB1 hzb hzi ho
  generalize hzx:w1.heap.size=bz at ZB ⊢
  generalize w1.alloc (.cells #[.string ⟨z.name.toArray⟩,.int .i64 z.off,.slice v1' v2' v3'] 71)=W4 at ZB HK4 HB4 HZI ⊢
  clear hzx
  have y0:=ZB.out.cell (i:=0) rfl;have y1:=ZB.out.cell (i:=1) rfl;have y2:=ZB.out.cell (i:=2) rfl
  obtain ⟨x0,x1,x2,x3,l0,l1,l2,l3,l4,l5,l6,l7,l8,l9⟩:=HK4.out.cs
  have HT:=Lib.hid (pTurn_is HTR.out l.unit l.every l.day l.sec ⟨z.name.toArray⟩ v1' v2' v3' ⟨l.name.toArray⟩ l.zone m1 m2 m3 q1 q2 q3 l.cal l.mode t W4 HZI.out HO.out ht (by omega))
  have l1':=l1
  rw [HI.out] at l1
  rw [HI.out] at HT
  go_upto_region 5 with (go_at_call 44;refine HT.out.mono ?_;rintro e w5 ⟨k,er,rfl,hs,hb5⟩)
  have HK5:=Lib.hid (HK4.out.below hb5)
  have HB5:=Lib.hid (bstep HB4.out hb5)
  have ZB5:=Lib.hid (ZB.out.after hb5)
  have HZ5:=Lib.hid (HZI.out.below hb5)
  clear x0 x1 x2 x3 l0 l1 l2 l3 l4 l5 l6 l7 l8 l9 l1' y0 y1 y2 HK4 HB4 ZB HZI HT hb5
  have y0:=ZB5.out.cell (i:=0) rfl;have y1:=ZB5.out.cell (i:=1) rfl;have y2:=ZB5.out.cell (i:=2) rfl
  obtain ⟨x0,x1,x2,x3,l0,l1,l2,l3,l4,l5,l6,l7,l8,l9⟩:=HK5.out.cs
  obtain ⟨tv,htv⟩: ∃tv,Rc.turnV k er m2=tv:=⟨_,rfl⟩
  rw [htv]
  by_cases hin:0≤t∧t≤8589934592
  ·obtain ⟨rfl,hsh⟩:=hs.yes HOK.out hin.1 hin.2
   have hk1:=hsh.1
   have HV:=Lib.hid (HV2.out k hin.1 hin.2 hsh)
   have HWI:=Lib.hid (inWin_is HTR.out ⟨z.name.toArray⟩ v1' v2' v3' q1 q2 q3 HW.out t hin.1 hin.2 w5 HZ5.out HO.out HK5.out.din.wins)
   obtain ⟨wb,hwb⟩: ∃wb,(l.wins.isEmpty||Wk.within l.wins (Wk.sow (Zn.cl z.off ts t)))=wb:=⟨_,rfl⟩
   rw [hwb] at HV HWI
   have HD2:=Lib.hid (HD.out hin.1 hin.2)
   clear hs hsh HV2 HV1 HD hwb hin
   by_cases hk0:k<0
   ·obtain rfl:tv= -1:=by rw [←htv];unfold Rc.turnV;rw [if_neg (by simp),if_pos hk0]
    have HVV:=Lib.hid (show -1=V by rw [HV.out,if_neg (by omega)])
    clear htv hk0 hk1
    go_wp2_with fail
    go_ret
    exact ⟨ret_int HVV.out,HB5.out⟩
   ·obtain ⟨rn,hrn⟩: ∃rn:Nat,k.toNat%m2=rn:=⟨_,rfl⟩
    obtain rfl:tv=(rn:Int):=by
     rw [←htv, ←hrn];unfold Rc.turnV;rw [if_neg (by simp),if_neg hk0]
     rw [Int.natCast_emod,Int.toNat_of_nonneg (by omega)]
    have hr2:rn<m2:=by rw [←hrn];exact Nat.mod_lt _ (by omega)
    rw [hrn] at HV
    have r0:(0:Int)≤rn:=by omega
    have r1:(rn:Int)<m2:=by omega
    have r2:¬(rn:Int)<0:=by omega
    have r3:decide ((rn:Int)<0)=false:=by simp
    have hkk:0≤k:=by omega
    have HKK:=Lib.hid hkk
    clear htv hrn hk0 hk1 hkk
    cases wb with
    |false=>
     have HVV:=Lib.hid (show -1=V by rw [HV.out,if_neg (by simp)])
     go_wp2_with (go_at_call 45;refine HWI.out.mono ?_;rintro e w6 ⟨rfl,hb6⟩;have HB6:=Lib.hid (bstep HB5.out hb6);clear hb6)
     go_ret
     exact ⟨ret_int HVV.out,HB6.out⟩
    |true=>
     obtain ⟨x,hx⟩:=get_ex (xs:=l.mem) (i:=rn) (by have :=HMM.out;omega)
     have HX:=Lib.hid hx
     clear hx
     cases cb with
     |false=>
      have HVV:=Lib.hid (show -1=V by rw [HV.out,if_neg (by simp)])
      go_wp2_with (first|(go_at_call 45;refine HWI.out.mono ?_;rintro e w6 ⟨rfl,hb6⟩;have HB6:=Lib.hid (bstep HB5.out hb6);have HK6:=Lib.hid (HK5.out.below hb6);clear hb6 x0 x1 x2 x3 l0 l1 l2 l3 l4 l5 l6 l7 l8 l9;obtain ⟨x0,x1,x2,x3,l0,l1,l2,l3,l4,l5,l6,l7,l8,l9⟩:=HK6.out.cs)|(go_at_call 46;refine (HD2.out _ HK6.out.din).mono ?_;rintro e w7 ⟨rfl,hb7⟩;have HB7:=Lib.hid (bstep HB6.out hb7);clear hb7))
      go_ret
      exact ⟨ret_int HVV.out,HB7.out⟩
     |true=>
      have HVV:=Lib.hid (show x=V by rw [HV.out,if_pos ⟨HKK.out,rfl,rfl⟩,List.getD,HX.out];rfl)
      go_upto_region 7 with (first|(go_at_call 45;refine HWI.out.mono ?_;rintro e w6 ⟨rfl,hb6⟩;have HB6:=Lib.hid (bstep HB5.out hb6);have HK6:=Lib.hid (HK5.out.below hb6);clear hb6 x0 x1 x2 x3 l0 l1 l2 l3 l4 l5 l6 l7 l8 l9;obtain ⟨x0,x1,x2,x3,l0,l1,l2,l3,l4,l5,l6,l7,l8,l9⟩:=HK6.out.cs)|(go_at_call 46;refine (HD2.out _ HK6.out.din).mono ?_;rintro e w7 ⟨rfl,hb7⟩;have HB7:=Lib.hid (bstep HB6.out hb7);have HK7:=Lib.hid (HK6.out.below hb7);clear hb7 x0 x1 x2 x3 l0 l1 l2 l3 l4 l5 l6 l7 l8 l9))
      obtain ⟨x0,x1,x2,x3,l0,l1,l2,l3,l4,l5,l6,l7,l8,l9⟩:=HK7.out.cs
      obtain ⟨mb,mo,em,hmb,mc⟩:=ints_cell HK7.out.din.lay.1.at_ HX.out
      simp only at em
      subst em
      go_wp2_with fail
      go_ret
      exact ⟨ret_int HVV.out,HB7.out⟩
  ·obtain ⟨rfl,rfl⟩:=hs.far HOK.out (by omega)
   have HVV:=Lib.hid (HV1.out hin)
   clear htv hs hin
   go_wp2_with fail
   go_ret
   exact ⟨ret_int HVV.out,HB5.out⟩
set_option maxHeartbeats 4000000 in
theorem On_is {C:Rs.Cfg} {l:Rs.Lay} (a1:Option Addr) (a2 a3:Nat) (b1:Option Addr) (b2 b3:Nat) (c1:Option Addr) (c2 c3:Nat) (d1:Option Addr) (d2 d3:Nat) (m1:Option Addr) (m2 m3:Nat) (q1:Option Addr) (q2 q3:Nat) (t:Int) (ht:I64 t) (w:World) (h:DIn w (a1,a2,a3) (b1,b2,b3) (c1,c2,c3) (d1,d2,d3) C l (m1,m2,m3) (q1,q2,q3)):
  Calls Tryz.prog 16 #[.agg #[.slice a1 a2 a3,.slice b1 b2 b3,.slice c1 c2 c3,.slice d1 d2 d3],.agg #[.string ⟨l.name.toArray⟩,.int .i64 l.zone,.int .i64 l.day,.int .i64 l.sec,.int .i64 l.unit,.int .i64 l.every,.slice m1 m2 m3,.slice q1 q2 q3,.int .i64 l.cal,.int .i64 l.mode],.int .i64 t] w fun e w'=>e= .returned (.bool (Sg.perS C l t != -1))∧Below w.heap.size w w':=by
 have HK:=Lib.hid (DK.start h)
 have hb0:=HK.out.base
 have HB:=Lib.hid hb0
 have HP:=Lib.hid (show ∀W,DIn W (a1,a2,a3) (b1,b2,b3) (c1,c2,c3) (d1,d2,d3) C l (m1,m2,m3) (q1,q2,q3)→_ from fun W h=>Person_is a1 a2 a3 b1 b2 b3 c1 c2 c3 d1 d2 d3 m1 m2 m3 q1 q2 q3 t ht W h)
 generalize Sg.perS C l t=V at HP ⊢
 clear h hb0
 go_enter Tryz.func16,Tryz.ntmps16
 go_upto_region 1 with fail
 generalize ((w.alloc (.cells #[.slice a1 a2 a3,.slice b1 b2 b3,.slice c1 c2 c3,.slice d1 d2 d3] 33)).alloc (.cells #[.string ⟨l.name.toArray⟩,.int .i64 l.zone,.int .i64 l.day,.int .i64 l.sec,.int .i64 l.unit,.int .i64 l.every,.slice m1 m2 m3,.slice q1 q2 q3,.int .i64 l.cal,.int .i64 l.mode] 39))=W at HK HB ⊢
 obtain ⟨x0,x1,x2,x3,l0,l1,l2,l3,l4,l5,l6,l7,l8,l9⟩:=HK.out.cs
 go_wp2_with (go_at_call 18;refine (HP.out _ HK.out.din).mono ?_;rintro e w1 ⟨rfl,hb1⟩;have HB1:=Lib.hid (bstep HB.out hb1);clear hb1)
 go_ret
 exact ⟨rfl,HB1.out⟩
end Go.Proofs.YtfamcohbnoibaaaGreatDoor
