import Derived.Test.YtfamcohbnoibaaaGreatDoorKG36
import Derived.Test.YtfamcohbnoibaaaGreatDoorKUn
import Derived.Test.YtfamcohbnoibaaaGreatDoorKG35
import Derived.Test.YtfamcohbnoibaaaGreatDoorKG34
set_option linter.unusedVariables false
set_option linter.unusedSimpArgs false
set_option maxRecDepth 100000
namespace Go.Proofs.YtfamcohbnoibaaaGreatDoor
open Go.RowKit
namespace Sg
open Wk hiding L
theorem up_ext {K K':Int→Bool} {s:List (Int×Int)} {f f' t:Int} (h:Up K s f' t) (hf:f≤f') (h1: ∀x,f≤x→x<f'→x<t→K' x=false) (h2: ∀x,f'≤x→x<t→K' x=K x):Up K' s f t:=
 ⟨h.1,fun y hy=>⟨by have :=(h.2.1 y hy).1;omega,(h.2.1 y hy).2⟩,fun x=>(h.2.2 x).trans ⟨fun ⟨a,b,c⟩=>⟨by omega,b,by rw [h2 x a b];exact c⟩,fun ⟨a,b,c⟩=>by
  rcases Int.lt_or_le x f' with h3|h3
  ·rw [h1 x a h3 b] at c;cases c
  ·exact ⟨h3,b,by rw [←h2 x h3 b];exact c⟩⟩⟩
theorem up_off {K:Int→Bool} {f t:Int} (h: ∀x,f≤x→x<t→K x=false):Up K [] f t:=
 ⟨Spn.chain_nil,fun y hy=>(by cases hy),fun x=>⟨fun h=>absurd h (Spn.cov_nil x),fun ⟨a,b,c⟩=>by rw [h x a b] at c;cases c⟩⟩
theorem up_vld {K:Int→Bool} {s:List (Int×Int)} {f t:Int} (h:Up K s f t) (h0:0≤f) (h1:t≤8589934592) (hl:s.length≤4096):Spn.vld s=true:=
 (Spn.vld_iff s).2 ⟨hl,fun y hy=>by have :=h.2.1 y hy;omega,h.1⟩
theorem up_has {K:Int→Bool} {s:List (Int×Int)} {f t:Int} (h:Up K s f t) (hv:Spn.vld s=true) (x:Int):Spn.has s x=(decide (f≤x∧x<t)&&K x):=by
 have h1:=Spn.has_iff s x
 have h2:=h.2.2 x
 cases e:Spn.has s x with
 |true=>
  obtain ⟨a,b,c⟩:=h2.1 (h1.1 e).2
  rw [c,decide_eq_true ⟨a,b⟩];rfl
 |false=>
  cases e2:(decide (f≤x∧x<t)&&K x) with
  |false=>rfl
  |true=>
   rw [Bool.and_eq_true,decide_eq_true_eq] at e2
   have :=h1.2 ⟨hv,h2.2 ⟨e2.1.1,e2.1.2,e2.2⟩⟩
   rw [e] at this;cases this
theorem up_comb {W D:Int→Bool} {a b s:List (Int×Int)} {f t:Int} {k:Int} (ha:Up W a f t) (hb:Up D b 0 8589934592) (hva:Spn.vld a=true) (hvb:Spn.vld b=true) (h0:0≤f) (h1:t≤8589934592) (hk:k=2∨k=3) (hc:Spn.Comb (Spn.kind k) a b s):Up (fun x=>W x&&(D x==decide (k=2))) s f t:=by
 have hx: ∀x,Spn.cov s x↔f≤x∧x<t∧(W x&&(D x==decide (k=2)))=true:=fun x=>by
  rw [←hc.2 x]
  unfold Spn.Kept
  rw [up_has ha hva,up_has hb hvb]
  rcases hk with rfl|rfl
  ·unfold Spn.kind
   simp only [Bool.and_eq_true,decide_eq_true_eq]
   cases hD:D x<;>cases hW:W x<;>simp <;>omega
  ·unfold Spn.kind
   simp only [Bool.and_eq_true,decide_eq_true_eq]
   cases hD:D x<;>cases hW:W x<;>simp <;>omega
 refine ⟨hc.1,fun y hy=> ?_,hx⟩
 have h2:=hc.1.1 y hy
 have h3:=(hx y.1).1 ⟨y,hy,Int.le_refl _,h2⟩
 have h4:=(hx (y.2-1)).1 ⟨y,hy,by omega,by omega⟩
 omega
structure Small (C:Rs.Cfg) (l:Rs.Lay):Prop where
 w:l.wins.length*(57+2*((dy C l).ts.length+1))≤2000
 d:l.mode≠0→(lcal C l).days.length*((dy C l).ts2.length+1)≤800
end Sg
def TimV (C:Rs.Cfg) (l:Rs.Lay) (f t:Int) (w:World) (e:Ending) (w':World):Prop:= ∃(L:List (Int×Int)) (er:Int) (A:Option Addr) (n c:Nat),e= .returned (.tuple #[.slice A n c,.int .i64 er])∧L.length=n∧Sg.TOut (Sg.fitS C l) (Sg.dy C l).on f t L er∧(Sg.fitS C l=true→(0≤f∧f≤8589934592∧f≤t∧t≤8589934592∧t-f≤34560000)→er=0)∧PairsAt w' A L∧n≤c∧n≤4096∧Below w.heap.size w w'
theorem keepT {W wc w':World} {bc bx zb zo k:Nat} {A1:Option Addr} {n1 c1:Nat} {V1 V2 Z0 Z1 Z2:Value} (h:wc.cell? ⟨bc,0,none⟩=some (.slice A1 n1 c1)∧wc.cell? ⟨bx,1,none⟩=some V1∧wc.cell? ⟨bx,2,none⟩=some V2∧wc.cell? ⟨zb,zo+k*3,none⟩=some Z0∧wc.cell? ⟨zb,zo+k*3+1,none⟩=some Z1∧wc.cell? ⟨zb,zo+k*3+2,none⟩=some Z2∧wc.cell? ⟨zb,zo+k*3+1+1,none⟩=some Z2∧Below W.heap.size W wc) (hb:Below wc.heap.size wc w'):
  w'.cell? ⟨bc,0,none⟩=some (.slice A1 n1 c1)∧w'.cell? ⟨bx,1,none⟩=some V1∧w'.cell? ⟨bx,2,none⟩=some V2∧w'.cell? ⟨zb,zo+k*3,none⟩=some Z0∧w'.cell? ⟨zb,zo+k*3+1,none⟩=some Z1∧w'.cell? ⟨zb,zo+k*3+2,none⟩=some Z2∧w'.cell? ⟨zb,zo+k*3+1+1,none⟩=some Z2∧Below W.heap.size W w':=
 ⟨cell_keep h.1 hb,cell_keep h.2.1 hb,cell_keep h.2.2.1 hb,cell_keep h.2.2.2.1 hb,cell_keep h.2.2.2.2.1 hb,cell_keep h.2.2.2.2.2.1 hb,cell_keep h.2.2.2.2.2.2.1 hb,bstep h.2.2.2.2.2.2.2 hb⟩
theorem lastT {W wc:World} {p1 p2 p3 p4 p5 p6 p7:Prop} (h:p1∧p2∧p3∧p4∧p5∧p6∧p7∧Below W.heap.size W wc):Below W.heap.size W wc:=h.2.2.2.2.2.2.2
set_option maxHeartbeats 16000000 in
theorem Times_is {C:Rs.Cfg} {l:Rs.Lay} (hS:Sg.fitS C l=true→Sg.Small C l) (a1:Option Addr) (a2 a3:Nat) (b1:Option Addr) (b2 b3:Nat) (c1:Option Addr) (c2 c3:Nat) (d1:Option Addr) (d2 d3:Nat) (m1:Option Addr) (m2 m3:Nat) (q1:Option Addr) (q2 q3:Nat) (f t:Int) (hf:I64 f) (ht:I64 t) (w:World) (h:DIn w (a1,a2,a3) (b1,b2,b3) (c1,c2,c3) (d1,d2,d3) C l (m1,m2,m3) (q1,q2,q3)):
  Calls Tryz.prog 20 #[.agg #[.slice a1 a2 a3,.slice b1 b2 b3,.slice c1 c2 c3,.slice d1 d2 d3],.agg #[.string ⟨l.name.toArray⟩,.int .i64 l.zone,.int .i64 l.day,.int .i64 l.sec,.int .i64 l.unit,.int .i64 l.every,.slice m1 m2 m3,.slice q1 q2 q3,.int .i64 l.cal,.int .i64 l.mode],.int .i64 f,.int .i64 t] w (TimV C l f t w):=by
 have HK:=Lib.hid (DK.start h)
 have hb0:=HK.out.base
 have HB:=Lib.hid hb0
 unfold TimV
 cases hR:Sg.fitS C l with
 |false=>
  have HF:=Lib.hid (show ∀W,DIn W (a1,a2,a3) (b1,b2,b3) (c1,c2,c3) (d1,d2,d3) C l (m1,m2,m3) (q1,q2,q3)→_ from fun W h=>fits_is hR a1 a2 a3 b1 b2 b3 c1 c2 c3 d1 d2 d3 m1 m2 m3 q1 q2 q3 W h)
  clear h hb0 hR hS
  go_enter Tryz.func20,Tryz.ntmps20
  go_upto_region 1 with fail
  generalize ((w.alloc (.cells #[.slice a1 a2 a3,.slice b1 b2 b3,.slice c1 c2 c3,.slice d1 d2 d3] 33)).alloc (.cells #[.string ⟨l.name.toArray⟩,.int .i64 l.zone,.int .i64 l.day,.int .i64 l.sec,.int .i64 l.unit,.int .i64 l.every,.slice m1 m2 m3,.slice q1 q2 q3,.int .i64 l.cal,.int .i64 l.mode] 39))=W at HK HB ⊢
  obtain ⟨x0,x1,x2,x3,l0,l1,l2,l3,l4,l5,l6,l7,l8,l9⟩:=HK.out.cs
  go_wp2_with (go_at_call 43;refine (HF.out _ HK.out.din).mono ?_;rintro e w1 ⟨rfl,hb1⟩;have HK1:=Lib.hid (HK.out.below hb1);have HB1:=Lib.hid (bstep HB.out hb1);clear hb1)
  go_ret2
  exact ⟨[],8,none,0,0,rfl,rfl,⟨fun _=>⟨rfl,rfl⟩,fun h=>(by cases h),fun h=>(by cases h)⟩,fun h=>(by cases h),ListAt.nil_,Nat.le_refl _,by omega,HB1.out⟩
 |true=>
  have HF:=Lib.hid (show ∀W,DIn W (a1,a2,a3) (b1,b2,b3) (c1,c2,c3) (d1,d2,d3) C l (m1,m2,m3) (q1,q2,q3)→_ from fun W h=>fits_is hR a1 a2 a3 b1 b2 b3 c1 c2 c3 d1 d2 d3 m1 m2 m3 q1 q2 q3 W h)
  by_cases hq:0≤f∧f≤8589934592∧f≤t∧t≤8589934592∧t-f≤34560000
  ·obtain ⟨hq0,hq1,hq2,hq3,hq4⟩:=hq
   have hF:=Sg.fit_of hR
   have hOk:=hF.ok
   have hSm:=hS hR
   have hqq:0≤f∧f≤8589934592∧f≤t∧t≤8589934592∧t-f≤34560000:=⟨hq0,hq1,hq2,hq3,hq4⟩
   have HO:=Lib.hid (show ∀L er,(∃s,Wk.Up (Sg.dy C l).on s f t∧((s.length≤4096∧L=s∧er=0)∨(4096<s.length∧L=[]∧er=5)))→Sg.TOut true (Sg.dy C l).on f t L er from fun L er h=>⟨fun h=>(by cases h),fun _ h=>absurd hqq h,fun _ _=>h⟩)
   have HN0:=Lib.hid (show Rc.hV (Sg.lz C l).off (Sg.dy C l).ts l.unit l.every l.day l.sec 0=none→ ∀x,(Sg.dy C l).on x=false from fun e x=>by
    refine (Sg.Dy.off_neg ?_).1
    rcases Int.lt_or_le ((Sg.dy C l).sh x) 0 with h1|h1
    ·exact h1
    ·exfalso
     obtain ⟨b,eb, -⟩:=(hOk.sh x).2.1 h1
     obtain ⟨c,ec, -⟩:=Rc.hV_down hOk.z hOk.rt (k:=0) (j:=(Sg.dy C l).sh x) (Int.le_refl _) h1 eb
     have e2:Rc.hV (Sg.dy C l).off (Sg.dy C l).ts (Sg.dy C l).u (Sg.dy C l).n (Sg.dy C l).D (Sg.dy C l).S 0=none:=e
     rw [e2] at ec;cases ec)
   have HN1:=Lib.hid (show ∀a,Rc.hV (Sg.lz C l).off (Sg.dy C l).ts l.unit l.every l.day l.sec 0=some a→(∀x,x<a→(Sg.dy C l).on x=false)∧ ∀x,a≤x→(Sg.dy C l).on x=((l.wins.isEmpty||Wk.within l.wins (Wk.sow (Zn.cl (Sg.lz C l).off (Sg.dy C l).ts x)))&&(Sg.dy C l).cal x) from fun a ea=>⟨fun x hx=>(Sg.Dy.off_neg (by have :=hOk.sh_no (a:=a) ea hx;omega)).1,fun x hx=>by
    have h0:0≤(Sg.dy C l).sh x:=by
     rcases Int.lt_or_le ((Sg.dy C l).sh x) 0 with h1|h1
     ·have :=(hOk.sh x).2.2 0 h1 (Int.le_refl _) a ea;omega
     ·exact h1
    show (decide (0≤(Sg.dy C l).sh x)&&((Sg.dy C l).win x&&(Sg.dy C l).cal x))=_
    rw [decide_eq_true h0,Bool.true_and]
    rfl⟩)
   have HC0:=Lib.hid (show l.mode=0→ ∀x,(Sg.dy C l).cal x=true from fun e x=>by unfold Sg.Dy.cal;rw [decide_eq_true (show (Sg.dy C l).mode=0 from e)];rfl)
   have HC1:=Lib.hid (show l.mode≠0→ ∀x,(Sg.dy C l).cal x=((Sg.lcal C l).days.contains (Zn.cl (Sg.lz2 C l).off (Sg.dy C l).ts2 x/86400)==decide (l.mode=2)) from fun e x=>by unfold Sg.Dy.cal;rw [decide_eq_false (show ¬(Sg.dy C l).mode=0 from e),Bool.false_or];rfl)
   obtain ⟨⟨i,hi,hz⟩,htr,hrt,hm0,hm12, -,hw,hmd,hcal⟩:=hF
   obtain ⟨hsw,hsd⟩:=hSm
   have hml:=h.lay.1.len
   simp only at hml
   have HOK:=Lib.hid (Rc.okL_of hrt (m:=m2) (by omega))
   have HW:=Lib.hid hw;have HCAL:=Lib.hid hcal;have HMD:=Lib.hid hmd
   generalize (Sg.dy C l).on=on at HO HN0 HN1 ⊢
   generalize (Sg.dy C l).cal=calf at HN1 HC0 HC1
   generalize (Sg.dy C l).ts=ts at htr HN0 HN1 hsw
   generalize (Sg.dy C l).ts2=ts2 at HC1 HCAL hsd
   generalize Sg.lz C l=z at hz htr HN0 HN1
   generalize Sg.lz2 C l=z2 at HC1 HCAL
   generalize Sg.lcal C l=xc at HC1 HCAL hsd
   obtain ⟨hi2,zb,zo,v1,v2,v3,rfl, -, -, -, -, -, -, -⟩:=h.zoneAt hz htr
   have HZ:=Lib.hid hz;have HTR:=Lib.hid htr;have HI:=Lib.hid hi;have HSW:=Lib.hid hsw;have HSD:=Lib.hid hsd
   have j1:(i:Int)<a2:=by omega
   have j0:(0:Int)≤i:=by omega
   have ⟨w1',w1''⟩:=wrapn (n:=t-f) (by omega)
   have hh0:¬f<0:=by omega
   have hh1:¬t<f:=by omega
   have hh2:¬8589934592<t:=by omega
   have hh3:¬34560000<t-f:=by omega
   clear h hb0 hR hS hz htr hrt hm0 hm12 hw hmd hcal hi hi2 hsw hsd hOk hml hqq
   go_enter Tryz.func20,Tryz.ntmps20
   go_upto_region 1 with fail
   generalize ((w.alloc (.cells #[.slice (some ⟨zb,zo,none⟩) a2 a3,.slice b1 b2 b3,.slice c1 c2 c3,.slice d1 d2 d3] 33)).alloc (.cells #[.string ⟨l.name.toArray⟩,.int .i64 l.zone,.int .i64 l.day,.int .i64 l.sec,.int .i64 l.unit,.int .i64 l.every,.slice m1 m2 m3,.slice q1 q2 q3,.int .i64 l.cal,.int .i64 l.mode] 39))=W at HK HB ⊢
   obtain ⟨x0,x1,x2,x3,l0,l1,l2,l3,l4,l5,l6,l7,l8,l9⟩:=HK.out.cs
   go_upto_region 5 with (go_at_call 43;refine (HF.out _ HK.out.din).mono ?_;rintro e w1 ⟨rfl,hb1⟩;have HK1:=Lib.hid (HK.out.below hb1);have HB1:=Lib.hid (bstep HB.out hb1);clear hb1)
   clear x0 x1 x2 x3 l0 l1 l2 l3 l4 l5 l6 l7 l8 l9 HK HB HF
   obtain ⟨-,zb',zo',v1',v2',v3',e2,hzb,z0,z1,z2',z2'',hzi,ho⟩:=HK1.out.din.zoneAt HZ.out HTR.out
   cases e2
   obtain ⟨x0,x1,x2,x3,l0,l1,l2,l3,l4,l5,l6,l7,l8,l9⟩:=HK1.out.cs
   rw [HI.out] at l1
   go_upto_region 6 with fail
   have kb:=(Below.refl _ w1).alloc (Nat.le_refl _) (.cells #[.string ⟨z.name.toArray⟩,.int .i64 z.off,.slice v1' v2' v3'] 71)
   have ZB:=Lib.hid (BlkAt.new w1 #[.string ⟨z.name.toArray⟩,.int .i64 z.off,.slice v1' v2' v3'] 71)
   have HK4:=Lib.hid (HK1.out.below kb)
   have HB4:=Lib.hid (bstep HB1.out kb)
   have HZI:=Lib.hid (hzi.below kb)
   have HOF:=Lib.hid ho
   clear x0 x1 x2 x3 l0 l1 l2 l3 l4 l5 l6 l7 l8 l9 z0 z1 z2' z2'' kb HK1 HB1 hzb hzi ho
   generalize hzx:w1.heap.size=bz at ZB ⊢
   generalize w1.alloc (.cells #[.string ⟨z.name.toArray⟩,.int .i64 z.off,.slice v1' v2' v3'] 71)=W4 at ZB HK4 HB4 HZI ⊢
   clear hzx
   have y0:=ZB.out.cell (i:=0) rfl;have y1:=ZB.out.cell (i:=1) rfl;have y2:=ZB.out.cell (i:=2) rfl
   obtain ⟨x0,x1,x2,x3,l0,l1,l2,l3,l4,l5,l6,l7,l8,l9⟩:=HK4.out.cs
   have HT:=Lib.hid (pHan_is HTR.out l.unit l.every l.day l.sec ⟨z.name.toArray⟩ v1' v2' v3' ⟨l.name.toArray⟩ l.zone m1 m2 m3 q1 q2 q3 l.cal l.mode 0 W4 HZI.out HOF.out ⟨by omega,by omega⟩)
   rw [HOK.out] at HT
   rw [HI.out] at l1 HT
   cases hH:Rc.hV z.off ts l.unit l.every l.day l.sec 0 with
   |none=>
    rw [hH,Rc.hOut_none (Int.le_refl 0)] at HT
    have HOO:=Lib.hid (HO.out [] 0 ⟨[],Sg.up_off fun x _ _=>HN0.out hH x,.inl ⟨by simp,rfl,rfl⟩⟩)
    clear hH
    go_wp2_with (go_at_call 48;refine HT.out.mono ?_;rintro e w5 ⟨rfl,hb5⟩;have HB5:=Lib.hid (bstep HB4.out hb5);clear hb5)
    go_ret2
    exact ⟨[],0,none,0,0,rfl,rfl,HOO.out,fun _ _=>rfl,ListAt.nil_,Nat.le_refl _,by omega,HB5.out⟩
   |some a=>
    rw [hH,Rc.hOut_some (Int.le_refl 0)] at HT
    obtain ⟨hn1,hn2⟩:=HN1.out a hH
    have HNA:=Lib.hid hn1;have HNB:=Lib.hid hn2
    clear hH hn1 hn2 HN1 HN0
    obtain ⟨g,hg⟩: ∃g,max f a=g:=⟨_,rfl⟩
    have hgf:f≤g∧a≤g∧(g=f∨g=a):=by omega
    have HGF:=Lib.hid hgf
    by_cases hgt:g<t
    ·have hgd:¬t≤g:=by omega
     have HU1:=Lib.hid (show ∀(K:Int→Bool) s,(∀x,g≤x→x<t→on x=K x)→Wk.Up K s g t→Wk.Up on s f t from fun K s hk hu=>Sg.up_ext hu hgf.1 (fun x h1 h2 h3=>HNA.out x (by omega)) hk)
     have HWT:=Lib.hid (show ∀W,Below W4.heap.size W4 W→ZIn W v1' v2' z.rules→WIn W q1 q2 l.wins→_ from fun W hb hz hl=>winTimes_is HTR.out ⟨z.name.toArray⟩ v1' v2' v3' q1 q2 q3 HW.out HSW.out g t (by omega) hgt hq3 (by omega) W hz HOF.out hl)
     clear hgf hgt
     go_upto_region 7 with (go_at_call 48;refine HT.out.mono ?_;rintro e w5 ⟨rfl,hb5⟩)
     have HK5:=Lib.hid (HK4.out.below hb5)
     have HB5:=Lib.hid (bstep HB4.out hb5)
     have ZB5:=Lib.hid (ZB.out.after hb5)
     have HWT5:=Lib.hid (HWT.out w5 hb5 (HZI.out.below hb5) HK5.out.din.wins)
     clear x0 x1 x2 x3 l0 l1 l2 l3 l4 l5 l6 l7 l8 l9 y0 y1 y2 HK4 HB4 ZB HZI HT hb5 HWT
     have y0:=ZB5.out.cell (i:=0) rfl;have y1:=ZB5.out.cell (i:=1) rfl;have y2:=ZB5.out.cell (i:=2) rfl
     obtain ⟨x0,x1,x2,x3,l0,l1,l2,l3,l4,l5,l6,l7,l8,l9⟩:=HK5.out.cs
     go_upto_region 11 with (go_at_call 49;refine HWT5.out.mono ?_;rintro e w6 ⟨sw,A6,n6,c6,rfl,hu6,hl6,hn6,hc6,hp6,hb6⟩)
     have HK6:=Lib.hid (HK5.out.below hb6)
     have HB6:=Lib.hid (bstep HB5.out hb6)
     have HU6:=Lib.hid hu6;have HL6:=Lib.hid hl6;have HP6:=Lib.hid hp6
     clear x0 x1 x2 x3 l0 l1 l2 l3 l4 l5 l6 l7 l8 l9 y0 y1 y2 HK5 HB5 ZB5 HWT5 hb6 hu6 hl6 hp6
     obtain ⟨x0,x1,x2,x3,l0,l1,l2,l3,l4,l5,l6,l7,l8,l9⟩:=HK6.out.cs
     by_cases hm:l.mode=0
     ·have hd:(l.mode==0)=true:=by simpa using hm
      have HOO:=Lib.hid (HO.out sw 0 ⟨sw,HU1.out _ sw (fun x h1 h2=>by rw [HNB.out x (by have :=HGF.out;omega),HC0.out hm x,Bool.and_true]) HU6.out,.inl ⟨by have :=HL6.out;omega,rfl,rfl⟩⟩)
      clear hm
      go_wp2_with fail
      go_ret2
      exact ⟨sw,0,A6,n6,c6,rfl,HL6.out,HOO.out,fun _ _=>rfl,HP6.out,hc6,by omega,HB6.out⟩
     ·have hd:(l.mode==0)=false:=by simpa using hm
      obtain ⟨⟨j,hj,hx⟩,⟨k,hk,hz⟩,htr2,hasc,hl64,hday⟩:=HCAL.out hm
      have HC1':=Lib.hid (HC1.out hm)
      have hj2:=(HK6.out.din.calAt hx).1
      have hk2:=(HK6.out.din.zoneAt hz htr2).1
      obtain ⟨-,cb,co,u1',u2',u3',rfl,hcb,e0,e1,e2,e2',hli⟩:=HK6.out.din.calAt hx
      have HLI:=Lib.hid hli
      have HX:=Lib.hid hx;have HZ2:=Lib.hid hz;have HTR2:=Lib.hid htr2
      have HSD':=Lib.hid (HSD.out hm)
      have HM12:=Lib.hid (show l.mode=1∨l.mode=2 by have :=HMD.out;omega)
      have HL64:=Lib.hid hl64;have HDAY:=Lib.hid hday
      have j1':(j:Int)<c2:=by omega
      have j0':(0:Int)≤j:=by omega
      have k1':(k:Int)<a2:=by omega
      have k0':(0:Int)≤k:=by omega
      rw [hj] at l8
      rw [hk] at e1
      clear hm hj hx hk hz htr2 hasc hl64 hday hj2 hk2 hli HCAL HC0 HC1 HSD HMD
      go_upto_region 14 with fail
      have kb:=(Below.refl _ w6).alloc (Nat.le_refl _) (.cells #[.string ⟨xc.name.toArray⟩,.int .i64 k,.slice u1' u2' u3'] 76)
      have CB:=Lib.hid (BlkAt.new w6 #[.string ⟨xc.name.toArray⟩,.int .i64 k,.slice u1' u2' u3'] 76)
      have HK7:=Lib.hid (HK6.out.below kb)
      have HB7:=Lib.hid (bstep HB6.out kb)
      have HL7:=Lib.hid ((HLI.out.kept (.of_below kb (Nat.le_refl _))).mono (Nat.le_refl _) kb.size)
      have HP7:=Lib.hid (HP6.out.below kb)
      clear x0 x1 x2 x3 l0 l1 l2 l3 l4 l5 l6 l7 l8 l9 e0 e1 e2 e2' hcb kb HK6 HB6 HLI HP6
      generalize hcx:w6.heap.size=bx at CB ⊢
      generalize w6.alloc (.cells #[.string ⟨xc.name.toArray⟩,.int .i64 k,.slice u1' u2' u3'] 76)=W7 at CB HK7 HB7 HL7 HP7 ⊢
      clear hcx
      obtain ⟨-,zb2,zo2,s1,s2,s3,e9,hzb,z0,z1,z2a,z2b,hzi,ho⟩:=HK7.out.din.zoneAt HZ2.out HTR2.out
      cases e9
      have hu2:=HL7.out.len
      simp only at hu2
      have HDT:=Lib.hid (show ∀W,Below W7.heap.size W7 W→_ from fun W hb=>dayTimes_is HTR2.out ⟨z2.name.toArray⟩ s1 s2 s3 u1' u2' u3' HSD'.out HDAY.out hu2 (by have :=HL64.out;omega) W (hzi.below hb) ho (HL7.out.at_.below hb))
      have g1:=CB.out.cell (i:=1) rfl;have g2:=CB.out.cell (i:=2) rfl
      obtain ⟨x0,x1,x2,x3,l0,l1,l2,l3,l4,l5,l6,l7,l8,l9⟩:=HK7.out.cs
      have S1:W7.cell? ⟨w.heap.size,0,none⟩=some (.slice (some ⟨zb,zo,none⟩) a2 a3)∧W7.cell? ⟨bx,1,none⟩=some (.int .i64 k)∧W7.cell? ⟨bx,2,none⟩=some (.slice u1' u2' u3')∧W7.cell? ⟨zb,zo+k*3,none⟩=some (.string ⟨z2.name.toArray⟩)∧W7.cell? ⟨zb,zo+k*3+1,none⟩=some (.int .i64 z2.off)∧W7.cell? ⟨zb,zo+k*3+2,none⟩=some (.slice s1 s2 s3)∧W7.cell? ⟨zb,zo+k*3+1+1,none⟩=some (.slice s1 s2 s3)∧Below W7.heap.size W7 W7:=⟨x0,g1,g2,z0,z1,z2a,z2b,Below.refl _ _⟩
      clear x0 x1 x2 x3 l0 l1 l2 l3 l4 l5 l6 l7 l8 l9 g1 g2 z0 z1 z2a z2b hzi ho hu2 CB HL7
      go_region_held3 (fun w'=>w'.cell? ⟨w.heap.size,0,none⟩=some (.slice (some ⟨zb,zo,none⟩) a2 a3)∧w'.cell? ⟨bx,1,none⟩=some (.int .i64 k)∧w'.cell? ⟨bx,2,none⟩=some (.slice u1' u2' u3')∧w'.cell? ⟨zb,zo+k*3,none⟩=some (.string ⟨z2.name.toArray⟩)∧w'.cell? ⟨zb,zo+k*3+1,none⟩=some (.int .i64 z2.off)∧w'.cell? ⟨zb,zo+k*3+2,none⟩=some (.slice s1 s2 s3)∧w'.cell? ⟨zb,zo+k*3+1+1,none⟩=some (.slice s1 s2 s3)∧Below W7.heap.size W7 w')
       (first|(exact keepT S1 (Below.refl _ _).drew)|(exact keepT (by assumption) hb))
       (first|(go_at_call 50;((with_reducible refine (HDT.out _ (lastT (by assumption))).mono ?_);rintro e w' ⟨dl,A8,n8,c8,rfl,hu8,hl8,hn8,hp8,hb⟩)))
      have hlast:Below W7.heap.size W7 w':=lastT (by assumption)
      have HK9:=Lib.hid (HK7.out.below hlast)
      have HB9:=Lib.hid (bstep HB7.out hlast)
      have HP9:=Lib.hid (HP7.out.below hlast)
      clear hlast S1 HK7 HB7 HP7 HDT hb
      obtain ⟨x0,x1,x2,x3,l0,l1,l2,l3,l4,l5,l6,l7,l8,l9⟩:=HK9.out.cs
      rcases HM12.out with hm|hm
      ·have hd1:(l.mode==1)=true:=by rw [hm];rfl
       have HKK:=Lib.hid (show ∀x,g≤x→x<t→on x=((l.wins.isEmpty||Wk.within l.wins (Wk.sow (Zn.cl z.off ts x)))&&(xc.days.contains (Zn.cl z2.off ts2 x/86400)==decide ((3:Int)=2))) from fun x h1 h2=>by rw [HNB.out x (by have :=HGF.out;omega),HC1'.out x,hm];rfl)
       have HCM:=Lib.hid (Spw.Minus_any A6 A8 n6 n8 c6 c8 sw dl w' (spans_of HP9.out) (spans_of hp8) HL6.out hl8 (by omega) (by omega))
       have HU8:=Lib.hid hu8;have HL8:=Lib.hid hl8;have HN6:=Lib.hid hn6;have HN8:=Lib.hid hn8
       clear hm hu8 hl8 hn6 hn8 hp8
       go_wp2_with (go_at_call 51;refine HCM.out.mono ?_;rintro e w10 ⟨r,er,hr,A10,c10,rfl,hs10,hb10,hc10⟩)
       go_ret2
       obtain ⟨hv1,hv2,s,hcomb,rfl,rfl⟩|⟨hv, -, -⟩:=hr.out
       ·have hu:=HU1.out _ s HKK.out (Sg.up_comb HU6.out HU8.out hv1 hv2 (by have :=HGF.out;omega) hq3 (by omega) hcomb)
        have hfw:=comb_few (by omega) hv1 hv2 hcomb
        have hs:(s.length:Int)≤4096:=by have :=HL6.out;have :=HL8.out;have :=HN6.out;have :=HN8.out;omega
        rw [if_pos hs] at hs10 hc10 ⊢
        rw [if_pos hs] at ⊢
        exact ⟨s,0,A10,s.length,c10,rfl,rfl,HO.out s 0 ⟨s,hu,.inl ⟨by omega,rfl,rfl⟩⟩,fun _ _=>rfl,pairs_of hs10,hc10,by omega,bstep HB9.out hb10⟩
       ·exfalso
        have q1:=Sg.up_vld HU6.out (by have :=HGF.out;omega) hq3 (by have :=HL6.out;have :=HN6.out;omega)
        have q2:=Sg.up_vld HU8.out (Int.le_refl 0) (Int.le_refl _) (by have :=HL8.out;have :=HN8.out;omega)
        rcases hv with h|h
        ·rw [q1] at h;cases h
        ·rw [q2] at h;cases h
      ·have hd2:(l.mode==1)=false:=by rw [hm];rfl
       have HKK:=Lib.hid (show ∀x,g≤x→x<t→on x=((l.wins.isEmpty||Wk.within l.wins (Wk.sow (Zn.cl z.off ts x)))&&(xc.days.contains (Zn.cl z2.off ts2 x/86400)==decide ((2:Int)=2))) from fun x h1 h2=>by rw [HNB.out x (by have :=HGF.out;omega),HC1'.out x,hm])
       have HCM:=Lib.hid (Spw.Meet_any A6 A8 n6 n8 c6 c8 sw dl w' (spans_of HP9.out) (spans_of hp8) HL6.out hl8 (by omega) (by omega))
       have HU8:=Lib.hid hu8;have HL8:=Lib.hid hl8;have HN6:=Lib.hid hn6;have HN8:=Lib.hid hn8
       clear hm hu8 hl8 hn6 hn8 hp8
       go_wp2_with (go_at_call 52;refine HCM.out.mono ?_;rintro e w10 ⟨r,er,hr,A10,c10,rfl,hs10,hb10,hc10⟩)
       go_ret2
       obtain ⟨hv1,hv2,s,hcomb,rfl,rfl⟩|⟨hv, -, -⟩:=hr.out
       ·have hu:=HU1.out _ s HKK.out (Sg.up_comb HU6.out HU8.out hv1 hv2 (by have :=HGF.out;omega) hq3 (by omega) hcomb)
        have hfw:=comb_few (by omega) hv1 hv2 hcomb
        have hs:(s.length:Int)≤4096:=by have :=HL6.out;have :=HL8.out;have :=HN6.out;have :=HN8.out;omega
        rw [if_pos hs] at hs10 hc10 ⊢
        rw [if_pos hs] at ⊢
        exact ⟨s,0,A10,s.length,c10,rfl,rfl,HO.out s 0 ⟨s,hu,.inl ⟨by omega,rfl,rfl⟩⟩,fun _ _=>rfl,pairs_of hs10,hc10,by omega,bstep HB9.out hb10⟩
       ·exfalso
        have q1:=Sg.up_vld HU6.out (by have :=HGF.out;omega) hq3 (by have :=HL6.out;have :=HN6.out;omega)
        have q2:=Sg.up_vld HU8.out (Int.le_refl 0) (Int.le_refl _) (by have :=HL8.out;have :=HN8.out;omega)
        rcases hv with h|h
        ·rw [q1] at h;cases h
        ·rw [q2] at h;cases h
    ·have hgd:t≤g:=by omega
     have HOO:=Lib.hid (HO.out [] 0 ⟨[],Sg.up_off fun x h1 h2=>HNA.out x (by omega),.inl ⟨by simp,rfl,rfl⟩⟩)
     clear hgf hgt
     go_wp2_with (go_at_call 48;refine HT.out.mono ?_;rintro e w5 ⟨rfl,hb5⟩;have HB5:=Lib.hid (bstep HB4.out hb5);clear hb5)
     go_ret2
     exact ⟨[],0,none,0,0,rfl,rfl,HOO.out,fun _ _=>rfl,ListAt.nil_,Nat.le_refl _,by omega,HB5.out⟩
  ·have hcs:f<0∨(¬f<0∧t<f)∨(¬f<0∧¬t<f∧8589934592<t)∨(¬f<0∧¬t<f∧¬8589934592<t∧34560000<t-f):=by omega
   have HO:=Lib.hid (show Sg.TOut true (Sg.dy C l).on f t [] 1 from ⟨fun h=>(by cases h),fun _ _=>⟨rfl,rfl⟩,fun _ h=>absurd h hq⟩)
   have HNQ:=Lib.hid hq
   clear h hb0 hR hS hq
   rcases hcs with h1|⟨h1,h2⟩|⟨h1,h2,h3⟩|⟨h1,h2,h3,h4⟩
   rotate_left 3
   ·have ⟨v1,v1'⟩:=wrapn (n:=t-f) (by omega)
    go_enter Tryz.func20,Tryz.ntmps20
    go_upto_region 1 with fail
    generalize ((w.alloc (.cells #[.slice a1 a2 a3,.slice b1 b2 b3,.slice c1 c2 c3,.slice d1 d2 d3] 33)).alloc (.cells #[.string ⟨l.name.toArray⟩,.int .i64 l.zone,.int .i64 l.day,.int .i64 l.sec,.int .i64 l.unit,.int .i64 l.every,.slice m1 m2 m3,.slice q1 q2 q3,.int .i64 l.cal,.int .i64 l.mode] 39))=W at HK HB ⊢
    obtain ⟨x0,x1,x2,x3,l0,l1,l2,l3,l4,l5,l6,l7,l8,l9⟩:=HK.out.cs
    go_wp2_with (go_at_call 43;refine (HF.out _ HK.out.din).mono ?_;rintro e w1 ⟨rfl,hb1⟩;have HK1:=Lib.hid (HK.out.below hb1);have HB1:=Lib.hid (bstep HB.out hb1);clear hb1)
    go_ret2
    exact ⟨[],1,none,0,0,rfl,rfl,HO.out,fun _ h=>absurd h HNQ.out,ListAt.nil_,Nat.le_refl _,by omega,HB1.out⟩
   all_goals
    go_enter Tryz.func20,Tryz.ntmps20
    go_upto_region 1 with fail
    generalize ((w.alloc (.cells #[.slice a1 a2 a3,.slice b1 b2 b3,.slice c1 c2 c3,.slice d1 d2 d3] 33)).alloc (.cells #[.string ⟨l.name.toArray⟩,.int .i64 l.zone,.int .i64 l.day,.int .i64 l.sec,.int .i64 l.unit,.int .i64 l.every,.slice m1 m2 m3,.slice q1 q2 q3,.int .i64 l.cal,.int .i64 l.mode] 39))=W at HK HB ⊢
    obtain ⟨x0,x1,x2,x3,l0,l1,l2,l3,l4,l5,l6,l7,l8,l9⟩:=HK.out.cs
    go_wp2_with (go_at_call 43;refine (HF.out _ HK.out.din).mono ?_;rintro e w1 ⟨rfl,hb1⟩;have HK1:=Lib.hid (HK.out.below hb1);have HB1:=Lib.hid (bstep HB.out hb1);clear hb1)
    go_ret2
    exact ⟨[],1,none,0,0,rfl,rfl,HO.out,fun _ h=>absurd h HNQ.out,ListAt.nil_,Nat.le_refl _,by omega,HB1.out⟩
open Go.RowKit
def SegV (C:Rs.Cfg) (l:Rs.Lay) (f t:Int) (w:World) (e:Ending) (w':World):Prop:= ∃(L:List Sg.S) (er:Int) (A:Option Addr) (n c:Nat),e= .returned (.tuple #[.slice A n c,.int .i64 er])∧L.length=n∧Sg.GOut (Sg.fitS C l) (Sg.dy C l).per f t L er∧(Sg.fitS C l=true→0≤f→f≤t→t≤8589934592→t-f≤20000000→er=0)∧ListAt 3 eTrip w' A L∧n≤16384∧Below w.heap.size w w'
theorem mem_cutL {f t x:Int} {hs:List Int} {set:List (Int×Int)}:x∈cutL f t hs set↔x=f∨x=t∨x∈hs∨ ∃y∈set,x=y.1∨x=y.2:=by
 unfold cutL
 rw [compact_mem,show (x∈sortL (([f,t]++hs)++set.flatMap fun s=>[s.1,s.2]))↔_ from List.mem_mergeSort]
 simp [List.mem_append,or_assoc]
theorem sorted_head {l:List Int} (h:l.Pairwise (· < ·)) {f:Int} (hm:f∈l) (hl: ∀x∈l,f≤x):l[0]? =some f:=by
 cases l with
 |nil=>cases hm
 |cons a r=>
  have h1:=(List.pairwise_cons.1 h).1
  rcases List.mem_cons.1 hm with rfl|h2
  ·rfl
  ·have :=h1 f h2
   have :=hl a (List.mem_cons_self ..)
   omega
theorem sorted_last {l:List Int} (h:l.Pairwise (· < ·)) {t:Int} (hm:t∈l) (hl: ∀x∈l,x≤t):l.getLast? =some t:=by
 obtain ⟨i,hi,ei⟩:=List.getElem_of_mem hm
 rw [List.getLast?_eq_getElem?,List.getElem?_eq_getElem (by omega)]
 have h1:=hl _ (List.getElem_mem (show l.length-1<l.length by omega))
 rcases Nat.lt_or_ge i (l.length-1) with h2|h2
 ·have :=List.pairwise_iff_getElem.1 h i (l.length-1) hi (by omega) h2
  rw [ei] at this;omega
 ·have e:i=l.length-1:=by omega
  subst e;rw [ei]
theorem cut_in {d:Sg.Dy} (hk:d.Ok) {f t:Int} {hs:List Int} {set:List (Int×Int)} (hft:f≤t) (hr:Rc.RangeIs d.H (min (f+1) t) t hs) (hu:Wk.Up d.on set f t):Sg.CutIn d f t hs (cutL f t hs set) set:=by
 have hasc:=compact_asc (sortL_asc (([f,t]++hs)++set.flatMap fun s=>[s.1,s.2]))
 have hlo: ∀x∈cutL f t hs set,f≤x∧x≤t:=fun x hx=>by
  rcases mem_cutL.1 hx with rfl|rfl|h|⟨y,hy,h⟩
  ·omega
  ·omega
  ·obtain ⟨k, -, -,h1,h2⟩:=(hr.2 x).1 h
   omega
  ·have h1:=hu.2.1 y hy
   have h2:=hu.1.1 y hy
   omega
 exact ⟨hk,hasc,hlo,sorted_head hasc (mem_cutL.2 (.inl rfl)) fun x hx=>(hlo x hx).1,sorted_last hasc (mem_cutL.2 (.inr (.inl rfl))) fun x hx=>(hlo x hx).2,hr,fun x hx=>mem_cutL.2 (.inr (.inr (.inl hx))),hu,fun y hy=>⟨mem_cutL.2 (.inr (.inr (.inr ⟨y,hy,.inl rfl⟩))),mem_cutL.2 (.inr (.inr (.inr ⟨y,hy,.inr rfl⟩)))⟩⟩
theorem cutL_len (f t:Int) (hs:List Int) (set:List (Int×Int)):(cutL f t hs set).length≤2+hs.length+2*set.length:=by
 unfold cutL
 refine Nat.le_trans (compact_len _) ?_
 rw [show (sortL (([f,t]++hs)++set.flatMap fun s=>[s.1,s.2])).length=_ from List.length_mergeSort _]
 have :(set.flatMap fun s=>[s.1,s.2]).length=2*set.length:=by
  induction set with
  |nil=>rfl
  |cons a r ih=>simp only [List.flatMap_cons,List.length_append,ih,List.length_cons,List.length_nil];omega
 simp only [List.length_append,List.length_cons,List.length_nil,this]
 omega
theorem mrg_len: ∀(l s:List Sg.S),(l.foldl Sg.app s).length≤s.length+l.length
 |[],s=>by simp
 |x::r,s=>by
  have h1:=mrg_len r (Sg.app s x)
  have h2:=Sg.app_len s x
  rw [List.foldl_cons,List.length_cons];omega
theorem keepM {W wc w':World} {b:Nat} {V:Value} (h:wc.cell? ⟨b,6,none⟩=some V∧Below W.heap.size W wc) (hb:Below wc.heap.size wc w'):w'.cell? ⟨b,6,none⟩=some V∧Below W.heap.size W w':=⟨cell_keep h.1 hb,bstep h.2 hb⟩
set_option maxHeartbeats 16000000 in
theorem Segments_is {C:Rs.Cfg} {l:Rs.Lay} (hS:Sg.fitS C l=true→Sg.Small C l) (a1:Option Addr) (a2 a3:Nat) (b1:Option Addr) (b2 b3:Nat) (c1:Option Addr) (c2 c3:Nat) (d1:Option Addr) (d2 d3:Nat) (m1:Option Addr) (m2 m3:Nat) (q1:Option Addr) (q2 q3:Nat) (f t:Int) (hf:I64 f) (ht:I64 t) (w:World) (h:DIn w (a1,a2,a3) (b1,b2,b3) (c1,c2,c3) (d1,d2,d3) C l (m1,m2,m3) (q1,q2,q3)):
  Calls Tryz.prog 22 #[.agg #[.slice a1 a2 a3,.slice b1 b2 b3,.slice c1 c2 c3,.slice d1 d2 d3],.agg #[.string ⟨l.name.toArray⟩,.int .i64 l.zone,.int .i64 l.day,.int .i64 l.sec,.int .i64 l.unit,.int .i64 l.every,.slice m1 m2 m3,.slice q1 q2 q3,.int .i64 l.cal,.int .i64 l.mode],.int .i64 f,.int .i64 t] w (SegV C l f t w):=by
 have HK:=Lib.hid (DK.start h)
 have hb0:=HK.out.base
 have HB:=Lib.hid hb0
 have HTM:=Lib.hid (show ∀W,DIn W (a1,a2,a3) (b1,b2,b3) (c1,c2,c3) (d1,d2,d3) C l (m1,m2,m3) (q1,q2,q3)→_ from fun W h=>Times_is hS a1 a2 a3 b1 b2 b3 c1 c2 c3 d1 d2 d3 m1 m2 m3 q1 q2 q3 f t hf ht W h)
 by_cases hgo:Sg.fitS C l=true∧(0≤f∧f≤8589934592∧f≤t∧t≤8589934592∧t-f≤34560000)
 ·obtain ⟨hR,hq⟩:=hgo
  obtain ⟨hq0,hq1,hq2,hq3,hq4⟩:=hq
  have hF:=Sg.fit_of hR
  have hOk:=hF.ok
  have hml:=h.lay.1.len
  simp only at hml
  have hGO:=Lib.hid (show ∀L er,(∃s,Sg.Seg (Sg.dy C l).per none f t s∧((s.length≤16384∧L=s∧er=0)∨(16384<s.length∧L=[]∧er=5)))→Sg.GOut (Sg.fitS C l) (Sg.dy C l).per f t L er from fun L er h=>⟨fun h=>(by rw [hR] at h;cases h),fun _ h=>absurd ⟨hq0,hq1,hq2,hq3,hq4⟩ h,fun _ _=>h⟩)
  have HRG:=Lib.hid (And.intro hR (And.intro hq0 (And.intro hq1 (And.intro hq2 (And.intro hq3 hq4)))))
  have HCI:=Lib.hid (show ∀hs set,Rc.RangeIs (Sg.dy C l).H (min (f+1) t) t hs→Wk.Up (Sg.dy C l).on set f t→_ from fun hs set h1 h2=>cut_in hOk hq2 h1 h2)
  have HSHF:=Lib.hid (show ∀k,Rc.ShiftIs (Rc.hV (Sg.lz C l).off (Sg.dy C l).ts l.unit l.every l.day l.sec) f k→k=(Sg.dy C l).sh f from fun k hk=>(Sg.Dy.sh_eq (d:=Sg.dy C l) hk).symm)
  have HDH:=Lib.hid (show (Sg.dy C l).H=Rc.hV (Sg.lz C l).off (Sg.dy C l).ts l.unit l.every l.day l.sec from rfl)
  have HMS:=Lib.hid (show (Sg.dy C l).ms=l.mem from rfl)
  have HSB:=Lib.hid (show (Sg.dy C l).sh f≤2386092∧ -1≤(Sg.dy C l).sh f from ⟨Rc.shift_le hOk.z hOk.rt (hOk.sh f),(hOk.sh f).1⟩)
  obtain ⟨⟨i,hi,hz⟩,htr,hrt,hm0,hm12, -,hw,hmd, -⟩:=hF
  have HOK:=Lib.hid (Rc.okL_of hrt (m:=m2) (by omega))
  have HML:=Lib.hid (show l.mem.length=m2∧m2≤12 by omega)
  generalize (Sg.dy C l).ts=ts at htr HSHF HDH
  generalize Sg.lz C l=z at hz htr HSHF HDH
  obtain ⟨hi2,zb,zo,v1,v2,v3,rfl, -, -, -, -, -, -, -⟩:=h.zoneAt hz htr
  have HZ:=Lib.hid hz;have HTR:=Lib.hid htr;have HI:=Lib.hid hi
  have j1:(i:Int)<a2:=by omega
  have j0:(0:Int)≤i:=by omega
  have ⟨w1',w1''⟩:=wrapn (n:=f+1) (by omega)
  have HVZ:=Lib.hid (And.intro (Zn.trans_vz htr) hrt)
  clear h hb0 hR hz htr hrt hm0 hm12 hw hmd hi hi2 hOk hml hS
  go_enter Tryz.func22,Tryz.ntmps22
  go_upto_region 1 with fail
  generalize ((w.alloc (.cells #[.slice (some ⟨zb,zo,none⟩) a2 a3,.slice b1 b2 b3,.slice c1 c2 c3,.slice d1 d2 d3] 33)).alloc (.cells #[.string ⟨l.name.toArray⟩,.int .i64 l.zone,.int .i64 l.day,.int .i64 l.sec,.int .i64 l.unit,.int .i64 l.every,.slice m1 m2 m3,.slice q1 q2 q3,.int .i64 l.cal,.int .i64 l.mode] 39))=W at HK HB ⊢
  obtain ⟨x0,x1,x2,x3,l0,l1,l2,l3,l4,l5,l6,l7,l8,l9⟩:=HK.out.cs
  go_upto_region 4 with (go_at_call 20;refine (HTM.out _ HK.out.din).mono ?_;rintro e w1 ⟨sl,er,A1,n1,g1,rfl,hl1,ho1,he1,hp1,hc1,hn1,hb1⟩;obtain rfl:er=0:=he1 HRG.out.1 HRG.out.2)
  obtain ⟨s1,hu1,hs1⟩:=ho1.yes HRG.out.1 HRG.out.2
  obtain rfl:sl=s1:=by rcases hs1 with ⟨-,e, -⟩|⟨-, -,e⟩<;>first|exact e|(cases e)
  have HK1:=Lib.hid (HK.out.below hb1)
  have HB1:=Lib.hid (bstep HB.out hb1)
  have HU1:=Lib.hid hu1;have HL1:=Lib.hid hl1;have HP1:=Lib.hid hp1;have HC1:=Lib.hid hc1;have HN1:=Lib.hid hn1
  clear x0 x1 x2 x3 l0 l1 l2 l3 l4 l5 l6 l7 l8 l9 HK HB HTM hs1 ho1 he1 hu1 hl1 hp1 hc1 hn1 hb1
  obtain ⟨-,zb',zo',v1',v2',v3',e2,hzb,z0,z1,z2,z2',hzi,ho⟩:=HK1.out.din.zoneAt HZ.out HTR.out
  cases e2
  obtain ⟨x0,x1,x2,x3,l0,l1,l2,l3,l4,l5,l6,l7,l8,l9⟩:=HK1.out.cs
  rw [HI.out] at l1
  go_upto_region 5 with fail
  have kb:=(Below.refl _ w1).alloc (Nat.le_refl _) (.cells #[.string ⟨z.name.toArray⟩,.int .i64 z.off,.slice v1' v2' v3'] 71)
  have ZB:=Lib.hid (BlkAt.new w1 #[.string ⟨z.name.toArray⟩,.int .i64 z.off,.slice v1' v2' v3'] 71)
  have HK4:=Lib.hid (HK1.out.below kb)
  have HB4:=Lib.hid (bstep HB1.out kb)
  have HZI:=Lib.hid (hzi.below kb)
  have HP4:=Lib.hid (HP1.out.below kb)
  have HOF:=Lib.hid ho
  clear x0 x1 x2 x3 l0 l1 l2 l3 l4 l5 l6 l7 l8 l9 z0 z1 z2 z2' kb HK1 HB1 hzb hzi ho HP1
  generalize hzx:w1.heap.size=bz at ZB ⊢
  generalize w1.alloc (.cells #[.string ⟨z.name.toArray⟩,.int .i64 z.off,.slice v1' v2' v3'] 71)=W4 at ZB HK4 HB4 HZI HP4 ⊢
  clear hzx
  have y0:=ZB.out.cell (i:=0) rfl;have y1:=ZB.out.cell (i:=1) rfl;have y2:=ZB.out.cell (i:=2) rfl
  obtain ⟨x0,x1,x2,x3,l0,l1,l2,l3,l4,l5,l6,l7,l8,l9⟩:=HK4.out.cs
  have HT:=Lib.hid (pShi_is HTR.out l.unit l.every l.day l.sec ⟨z.name.toArray⟩ v1' v2' v3' ⟨l.name.toArray⟩ l.zone m1 m2 m3 q1 q2 q3 l.cal l.mode f W4 HZI.out HOF.out hf)
  have HT2:=Lib.hid (show ∀W,ZIn W v1' v2' z.rules→_ from fun W hz=>pHdvC_is HTR.out l.unit l.every l.day l.sec ⟨z.name.toArray⟩ v1' v2' v3' ⟨l.name.toArray⟩ l.zone m1 m2 m3 q1 q2 q3 l.cal l.mode (min (f+1) t) t W hz HOF.out (by unfold I64 at *;omega) ht)
  rw [HI.out] at l1 HT HT2
  go_upto_region 6 with (go_at_call 57;refine HT.out.mono ?_;rintro e w5 ⟨k,er5,rfl,hsh,hb5⟩)
  obtain ⟨rfl,hsi⟩:=hsh.yes HOK.out HRG.out.2.1 HRG.out.2.2.1
  obtain rfl:=HSHF.out k hsi
  have HK5:=Lib.hid (HK4.out.below hb5)
  have HB5:=Lib.hid (bstep HB4.out hb5)
  have ZB5:=Lib.hid (ZB.out.after hb5)
  have HZ5:=Lib.hid (HZI.out.below hb5)
  have HP5:=Lib.hid (HP4.out.below hb5)
  clear x0 x1 x2 x3 l0 l1 l2 l3 l4 l5 l6 l7 l8 l9 y0 y1 y2 HK4 HB4 ZB HZI HT hb5 HP4 hsh hsi HSHF
  have y0:=ZB5.out.cell (i:=0) rfl;have y1:=ZB5.out.cell (i:=1) rfl;have y2:=ZB5.out.cell (i:=2) rfl
  obtain ⟨x0,x1,x2,x3,l0,l1,l2,l3,l4,l5,l6,l7,l8,l9⟩:=HK5.out.cs
  have HT5:=Lib.hid (HT2.out w5 HZ5.out)
  rw [HI.out] at l1
  go_upto_region 7 with (go_at_call 58;refine HT5.out.mono ?_;rintro e w7 ⟨hs,er7,B7,c7,rfl,hro,hi7,hl7,hb7,hcp7⟩)
  obtain ⟨rfl,hrng⟩:=hro.yes HOK.out (by have :=HRG.out.2;omega)
  have hfew:=Sg.range_few HVZ.out.1 HVZ.out.2 hrng (by omega)
  have HFEW:=Lib.hid (show hs.length≤20000 by have :=HRG.out.2;omega)
  have HFEW2:=Lib.hid (show t-f≤20000000→hs.length≤5600 by intro h;have :=HRG.out.2;omega)
  clear hfew
  rw [←HDH.out] at hrng
  have HCU:=Lib.hid (HCI.out hs sl hrng HU1.out)
  have HK7:=Lib.hid (HK5.out.below hb7)
  have HB7:=Lib.hid (bstep HB5.out hb7)
  have HP7:=Lib.hid (HP5.out.below hb7)
  have HI7:=Lib.hid hi7;have HCP:=Lib.hid hcp7
  clear x0 x1 x2 x3 l0 l1 l2 l3 l4 l5 l6 l7 l8 l9 y0 y1 y2 HK5 HB5 ZB5 HZ5 HT5 HT2 hb7 HP5 hro hrng hi7 hcp7 hl7 HDH HVZ
  obtain ⟨x0,x1,x2,x3,l0,l1,l2,l3,l4,l5,l6,l7,l8,l9⟩:=HK7.out.cs
  have HCT:=Lib.hid (show ∀W,Below w7.heap.size w7 W→_ from fun W hb=>cuts_is f t A1 n1 g1 sl B7 hs.length c7 hs W (HP7.out.below hb) (HI7.out.below hb) HL1.out rfl (by have :=HN1.out;omega) (by have :=HFEW.out;omega))
  have HLM:=Lib.hid HK7.out.din.lay.1.at_
  have hcl:=cutL_len f t hs sl
  have HCL:=Lib.hid (show (cutL f t hs sl).length≤900000 by have :=HFEW.out;have :=HL1.out;have :=HN1.out;omega)
  have HSP:=Lib.hid (show ∀W A10 c10,Below w7.heap.size w7 W→IntsAt W A10 (cutL f t hs sl)→(cutL f t hs sl).length≤c10→_ from fun W A10 c10 hb hi hc=>split_is HCU.out A10 (cutL f t hs sl).length c10 A1 n1 g1 B7 hs.length c7 m1 m2 m3 W hi (HP7.out.below hb) (HI7.out.below hb) (by rw [HMS.out];exact ListAt.below HLM.out hb) rfl HL1.out rfl (by rw [HMS.out];exact HML.out.1) hc HC1.out HCP.out HCL.out (by have :=HN1.out;omega) (by have :=HFEW.out;omega) (by have :=HML.out;omega))
  have HMG:=Lib.hid (show ∀W A11 n11 c11,ListAt 3 eTrip W A11 (Sg.pcs (Sg.dy C l) (cutL f t hs sl) ((cutL f t hs sl).length-1))→(Sg.pcs (Sg.dy C l) (cutL f t hs sl) ((cutL f t hs sl).length-1)).length=n11→_ from fun W A11 n11 c11 hp hn=>Merge_any A11 n11 c11 _ W hp hn (by rw [←hn,Sg.pcs_len];have :=HCL.out;omega))
  have HSEG:=Lib.hid HCU.out.whole
  have HMB:=Lib.hid (mrg_len (Sg.pcs (Sg.dy C l) (cutL f t hs sl) ((cutL f t hs sl).length-1)) [])
  have S1:w7.cell? ⟨w.heap.size+1,6,none⟩=some (.slice m1 m2 m3)∧Below w7.heap.size w7 w7:=⟨l6,Below.refl _ _⟩
  have HPL:=Lib.hid (show t-f≤20000000→(Sg.pcs (Sg.dy C l) (cutL f t hs sl) ((cutL f t hs sl).length-1)).length≤16384 by intro h;rw [Sg.pcs_len];have :=HFEW2.out h;have :=HL1.out;have :=HN1.out;omega)
  generalize hPC:Sg.pcs (Sg.dy C l) (cutL f t hs sl) ((cutL f t hs sl).length-1)=pc at HSP HMG HSEG HMB HPL
  clear x0 x1 x2 x3 l0 l1 l2 l3 l4 l5 l6 l7 l8 l9 HLM hcl HCL HCU HP7 HI7 hPC
  unfold CutsV at HCT
  go_region_held3 (fun w'=>w'.cell? ⟨w.heap.size+1,6,none⟩=some (.slice m1 m2 m3)∧Below w7.heap.size w7 w')
   (first|(exact keepM S1 (Below.refl _ _).drew)|(exact keepM (by assumption) hb))
   (first|(go_at_call 60;((with_reducible refine (HCT.out _ (And.right (by assumption))).mono ?_);rintro e w' ⟨A10,c10,rfl,hi10,hc10,hb⟩))|(go_at_call 59;((with_reducible refine (HSP.out _ _ _ (And.right (by assumption)) hi10 hc10).mono ?_);rintro e w' ⟨v11,rfl,ho11,hb⟩;obtain ⟨A11,c11,rfl, -, -,hp11⟩:=ho11.shape))|(go_at_call 26;((with_reducible refine (HMG.out _ A11 _ c11 hp11 rfl).mono ?_);rintro e w' ⟨v12,rfl,ho12,hb⟩;obtain ⟨A12,c12,rfl, -, -,hp12⟩:=ho12.shape)))
  have hlast:Below w7.heap.size w7 w':=And.right (by assumption)
  have HB9:=Lib.hid (bstep HB7.out hlast)
  have HP9:=Lib.hid hp12
  obtain ⟨mn,hmn⟩: ∃mn,(Sg.mrg pc).length=mn:=⟨_,rfl⟩
  rw [hmn]
  have HMN:=Lib.hid hmn
  clear hlast S1 hb ho12 hp12 HCT HSP HMG HK7 HB7 hmn
  by_cases hbig:16384<mn
  ·have hb1:(16384:Int)<(mn:Int):=by omega
   go_wp2_with fail
   go_ret2
   exact ⟨[],5,none,0,0,rfl,rfl,hGO.out [] 5 ⟨_,HSEG.out,.inr ⟨by rw [HMN.out];exact hbig,rfl,rfl⟩⟩,fun _ _ _ _ h5=>(by exfalso;have h6:=HPL.out h5;have h7:=HMB.out;have h8:=HMN.out;unfold Sg.mrg at h8;rw [h8,List.length_nil] at h7;omega),ListAt.nil_,by omega,HB9.out⟩
  ·have hb1:¬(16384:Int)<(mn:Int):=by omega
   go_wp2_with fail
   go_ret2
   exact ⟨Sg.mrg pc,0,A12,mn,c12,rfl,HMN.out,hGO.out _ 0 ⟨_,HSEG.out,.inl ⟨by rw [HMN.out];omega,rfl,rfl⟩⟩,fun _ _ _ _ _=>rfl,HP9.out,by omega,HB9.out⟩
 ·have HG:=Lib.hid (show ∀sl er,Sg.TOut (Sg.fitS C l) (Sg.dy C l).on f t sl er→(er=8∨er=1)∧Sg.GOut (Sg.fitS C l) (Sg.dy C l).per f t [] er from fun sl er h=>by
   cases hR:Sg.fitS C l with
   |false=>
    rw [hR] at h
    obtain ⟨-,rfl⟩:=h.no rfl
    exact ⟨.inl rfl,⟨fun _=>⟨rfl,rfl⟩,fun h=>(by cases h),fun h=>(by cases h)⟩⟩
   |true=>
    have hq:¬(0≤f∧f≤8589934592∧f≤t∧t≤8589934592∧t-f≤34560000):=fun hq=>hgo ⟨hR,hq⟩
    rw [hR] at h
    obtain ⟨-,rfl⟩:=h.far rfl hq
    exact ⟨.inr rfl,⟨fun h=>(by cases h),fun _ _=>⟨rfl,rfl⟩,fun _ h=>absurd h hq⟩⟩)
  have HNG:=Lib.hid hgo
  clear h hb0 hgo hS
  go_enter Tryz.func22,Tryz.ntmps22
  go_upto_region 1 with fail
  generalize ((w.alloc (.cells #[.slice a1 a2 a3,.slice b1 b2 b3,.slice c1 c2 c3,.slice d1 d2 d3] 33)).alloc (.cells #[.string ⟨l.name.toArray⟩,.int .i64 l.zone,.int .i64 l.day,.int .i64 l.sec,.int .i64 l.unit,.int .i64 l.every,.slice m1 m2 m3,.slice q1 q2 q3,.int .i64 l.cal,.int .i64 l.mode] 39))=W at HK HB ⊢
  obtain ⟨x0,x1,x2,x3,l0,l1,l2,l3,l4,l5,l6,l7,l8,l9⟩:=HK.out.cs
  go_upto_region 2 with (go_at_call 20;refine (HTM.out _ HK.out.din).mono ?_;rintro e w1 ⟨sl,er,A1,n1,g1,rfl,hl1,ho1,he1,hp1,hc1,hn1,hb1⟩)
  obtain ⟨he,hg⟩:=HG.out sl er ho1
  have HB1:=Lib.hid (bstep HB.out hb1)
  have HGG:=Lib.hid hg
  have hne:(er !=0)=true:=by rcases he with rfl|rfl<;>rfl
  clear hl1 ho1 he1 hp1 hc1 hn1 hb1 he hg
  go_wp2_with fail
  go_ret2
  exact ⟨[],er,none,0,0,rfl,rfl,HGG.out,fun h1 h2 h3 h4 h5=>absurd ⟨h1,h2,by omega,h3,h4,by omega⟩ HNG.out,ListAt.nil_,by omega,HB1.out⟩
end Go.Proofs.YtfamcohbnoibaaaGreatDoor
