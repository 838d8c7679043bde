/- The law DutyPieces returns true for all arguments. Printed by gen_uy.py. -/
import Derived.Test.YtfamcohbnoibaaaGreatDoorKUw
import Derived.Test.YtfamcohbnoibaaaGreatDoorSUw
import Derived.Test.YtfamcohbnoibaaaGreatDoorKSpC
namespace Go.Proofs.YtfamcohbnoibaaaGreatDoor
open Go.RowKit
set_option linter.unusedVariables false
set_option linter.unusedSimpArgs false
set_option maxRecDepth 100000
namespace Sg
theorem secs_take {l:List S} {i:Nat} {x:S} (h:l[i]? =some x):secs (l.take (i+1))=secs (l.take i)+if 0≤x.2.2 then x.2.1-x.1 else 0:=by
  unfold secs
  rw [take_snoc' h,List.map_append,List.sum_append]
  simp
theorem Seg.get {f:Int→Int}: ∀{l:List S} {p:Option Int} {a b:Int},Seg f p a b l→ ∀{i:Nat} {x:S},l[i]? =some x→a≤x.1∧x.1<x.2.1∧x.2.1≤b∧(∀t,x.1≤t→t<x.2.1→f t=x.2.2)∧0≤Sg.secs (l.take i)∧Sg.secs (l.take i)≤x.1-a
  |[],_,_,_,_,_,_,hx=>by simp at hx
  |y::r,_,a,b,⟨g1,g2,g3,g4,g5⟩,0,x,hx=>by
   simp at hx
   subst hx
   have :=g5.le
   exact ⟨by omega,by omega,by omega,fun t h1 h2=>g4 t (by omega) h2,by simp [Sg.secs],by simp [Sg.secs];omega⟩
  |y::r,_,a,b,⟨g1,g2,g3,g4,g5⟩,i+1,x,hx=>by
   obtain ⟨h1,h2,h3,h4,h5,h6⟩:=g5.get (i:=i) (x:=x) (by simpa using hx)
   have e:Sg.secs ((y::r).take (i+1))=(if 0≤y.2.2 then y.2.1-y.1 else 0)+Sg.secs (r.take i):=by simp [Sg.secs]
   rw [e]
   refine ⟨by omega,h2,h3,h4, ?_, ?_⟩<;>split<;>omega
theorem Seg.prev {f:Int→Int}: ∀{l:List S} {p:Option Int} {a b:Int},Seg f p a b l→ ∀{i:Nat} {x y:S},l[i]? =some y→l[i+1]? =some x→x.1=y.2.1∧x.2.2≠y.2.2
  |[],_,_,_,_,_,_,_,hx,_=>by simp at hx
  |[z],_,_,_,_,i,_,_,_,hx=>by simp at hx
  |z::u::r,_,a,b,⟨g1,g2,g3,g4,g5⟩,0,x,y,hy,hx=>by
   simp at hy hx
   subst hy;subst hx
   obtain ⟨k1,k2,k3, -, -⟩:=g5
   exact ⟨k1,fun e=>k3 (by rw [e])⟩
  |z::u::r,_,a,b,⟨g1,g2,g3,g4,g5⟩,i+1,x,y,hy,hx=>g5.prev (i:=i) (by simpa using hy) (by simpa using hx)
theorem Seg.endl {f:Int→Int}: ∀{l:List S} {p:Option Int} {a b:Int},Seg f p a b l→l≠[]→ ∃y,l[l.length-1]? =some y∧y.2.1=b
  |[],_,_,_,_,h=>absurd rfl h
  |[x],_,a,b,⟨g1,g2,g3,g4,g5⟩,_=>⟨x,rfl,g5⟩
  |x::u::r,_,a,b,⟨g1,g2,g3,g4,g5⟩,_=>by
   obtain ⟨y,h1,h2⟩:=g5.endl (by simp)
   exact ⟨y,by simpa using h1,h2⟩
theorem Seg.ends {f:Int→Int} {l:List S} {p:Option Int} {a b:Int} (h:Seg f p a b l) (hab:a<b):0<l.length∧ ∃x y,l[0]? =some x∧x.1=a∧l[l.length-1]? =some y∧y.2.1=b:=by
  cases l with
  |nil=>unfold Seg at h;omega
  |cons x r=>
   obtain ⟨y,h1,h2⟩:=h.endl (by simp)
   exact ⟨by simp,x,y,rfl,h.1,h1,h2⟩
end Sg
theorem keepP {W wc w':World} {bc bl bx:Nat} {V0 V1 V2 V3 V4 V5 V6 V7 V8 V9 V10 V11 V12 V13 V14:Value} (h:wc.cell? ⟨bc,0,none⟩=some V0∧wc.cell? ⟨bc,1,none⟩=some V1∧wc.cell? ⟨bc,2,none⟩=some V2∧wc.cell? ⟨bc,3,none⟩=some V3∧wc.cell? ⟨bl,0,none⟩=some V4∧wc.cell? ⟨bl,1,none⟩=some V5∧wc.cell? ⟨bl,2,none⟩=some V6∧wc.cell? ⟨bl,3,none⟩=some V7∧wc.cell? ⟨bl,4,none⟩=some V8∧wc.cell? ⟨bl,5,none⟩=some V9∧wc.cell? ⟨bl,6,none⟩=some V10∧wc.cell? ⟨bl,7,none⟩=some V11∧wc.cell? ⟨bl,8,none⟩=some V12∧wc.cell? ⟨bl,9,none⟩=some V13∧wc.cell? ⟨bx,2,none⟩=some V14∧Below W.heap.size W wc) (hb:Below wc.heap.size wc w'):w'.cell? ⟨bc,0,none⟩=some V0∧w'.cell? ⟨bc,1,none⟩=some V1∧w'.cell? ⟨bc,2,none⟩=some V2∧w'.cell? ⟨bc,3,none⟩=some V3∧w'.cell? ⟨bl,0,none⟩=some V4∧w'.cell? ⟨bl,1,none⟩=some V5∧w'.cell? ⟨bl,2,none⟩=some V6∧w'.cell? ⟨bl,3,none⟩=some V7∧w'.cell? ⟨bl,4,none⟩=some V8∧w'.cell? ⟨bl,5,none⟩=some V9∧w'.cell? ⟨bl,6,none⟩=some V10∧w'.cell? ⟨bl,7,none⟩=some V11∧w'.cell? ⟨bl,8,none⟩=some V12∧w'.cell? ⟨bl,9,none⟩=some V13∧w'.cell? ⟨bx,2,none⟩=some V14∧Below W.heap.size W w':=
  ⟨cell_keep h.1 hb,cell_keep h.2.1 hb,cell_keep h.2.2.1 hb,cell_keep h.2.2.2.1 hb,cell_keep h.2.2.2.2.1 hb,cell_keep h.2.2.2.2.2.1 hb,cell_keep h.2.2.2.2.2.2.1 hb,cell_keep h.2.2.2.2.2.2.2.1 hb,cell_keep h.2.2.2.2.2.2.2.2.1 hb,cell_keep h.2.2.2.2.2.2.2.2.2.1 hb,cell_keep h.2.2.2.2.2.2.2.2.2.2.1 hb,cell_keep h.2.2.2.2.2.2.2.2.2.2.2.1 hb,cell_keep h.2.2.2.2.2.2.2.2.2.2.2.2.1 hb,cell_keep h.2.2.2.2.2.2.2.2.2.2.2.2.2.1 hb,cell_keep h.2.2.2.2.2.2.2.2.2.2.2.2.2.2.1 hb,bstep h.2.2.2.2.2.2.2.2.2.2.2.2.2.2.2 hb⟩
theorem lastP {W wc:World} {p0 p1 p2 p3 p4 p5 p6 p7 p8 p9 p10 p11 p12 p13 p14:Prop} (h:p0∧p1∧p2∧p3∧p4∧p5∧p6∧p7∧p8∧p9∧p10∧p11∧p12∧p13∧p14∧Below W.heap.size W wc):Below W.heap.size W wc:=h.2.2.2.2.2.2.2.2.2.2.2.2.2.2.2
set_option maxHeartbeats 16000000 in
theorem dutypieces_any (A:Option Addr) (n c:Nat) (zs:List Int) (kn:Int) (w:World) (hT:CivT w) (hA:NumsAt w A zs) (hn:zs.length=n) (hf: ∀z∈zs, -9223372036854775808≤z∧z≤9223372036854775807) (hkn:I64 kn):
    Calls Tryz.prog 4 #[.slice A n c,.int .i64 kn] w fun e w'=>e= .returned (.bool true)∧Below w.heap.size w w':=by
  have HT:=Lib.hid (show ∀W,Below w.heap.size w W→CivT W from fun W hb=>hT.below hb)
  clear hT
  by_cases h5:n≤500
  · skip
    have hl:decide ((n:Int)≤500)=true:=by simp;omega
    have D0:=Lib.hid (Dice.start (c:=c) hA hn h5 hf)
    clear hA hn hf
    go_enter Tryz.func4,Tryz.ntmps4
    go_wp2_with fail
    refine (Light_any A n c _).mono ?_
    rw [hl]
    rintro e w' ⟨rfl,rfl⟩
    go_wp2_with fail
    refine (Roll_any A n c _).mono ?_
    rintro e w' ⟨rfl,rfl⟩
    go_wp2_with fail
    refine (Config_any w.heap.size n c A zs 1 (by decide) (by decide) _ D0.out).mono ?_
    rintro e w1 ⟨⟨a1,a2,a3⟩,⟨b1,b2,b3⟩,⟨c1,c2,c3⟩,⟨d1,d2,d3⟩,C,rfl,hC,hM,hz1,hp1, -, -,hg,hD⟩
    simp only [cfgV]
    have B1:=Lib.hid (below_of_grown ((Below.refl _ w).alloc (Nat.le_refl _) (.cells #[.slice A n c,.int .i64 0] 84)) hg (by simp) (Nat.le_refl _))
    have hza:=hC.zones.len;have hpa:=hC.people.len;have hca:=hC.cals.len
    simp only at hza hpa hca
    have hzl:=hM.zl;have hpl:=hM.pl;have hcl:=hM.cl
    have HM:=Lib.hid hM
    have HLN:=Lib.hid (show C.zones.length=a2∧C.people.length=b2∧C.cals.length=c2 from ⟨hza.1,hpa.1,hca.1⟩)
    have HC:=Lib.hid (show CfgAt (w.heap.size+1) w1.heap.size w1 (a1,a2,a3) (b1,b2,b3) (c1,c2,c3) (d1,d2,d3) C by have :=hC;rwa [show (w.alloc (.cells #[.slice A n c,.int .i64 0] 84)).heap.size=w.heap.size+1 by simp] at this)
    have hsz1:w.heap.size+1≤w1.heap.size:=by have :=hg.size;simpa using this
    have CB:=Lib.hid (BlkAt.new w1 #[.slice a1 a2 a3,.slice b1 b2 b3,.slice c1 c2 c3,.slice d1 d2 d3] 33)
    have k1:=(Below.refl _ w1).alloc (Nat.le_refl _) (.cells #[.slice a1 a2 a3,.slice b1 b2 b3,.slice c1 c2 c3,.slice d1 d2 d3] 33)
    have HC2:=Lib.hid ((HC.out.below (Nat.le_refl _) k1).mono (Nat.le_refl _) k1.size)
    have HD:=Lib.hid (hD.after k1)
    have B2:=Lib.hid (bstep B1.out k1)
    have hbc:w.heap.size+1≤w1.heap.size:=hsz1
    have hs2:w1.heap.size+1≤(w1.alloc (.cells #[.slice a1 a2 a3,.slice b1 b2 b3,.slice c1 c2 c3,.slice d1 d2 d3] 33)).heap.size:=by simp
    clear hC hM hg hD D0 B1 h5 k1 HC hsz1
    go_upto_region 5 with fail
    generalize hcb:w1.heap.size=bc at CB hbc hs2 ⊢
    generalize w1.alloc (.cells #[.slice a1 a2 a3,.slice b1 b2 b3,.slice c1 c2 c3,.slice d1 d2 d3] 33)=W2 at HC2 HD CB B2 hs2 ⊢
    clear hcb
    have y0:=CB.out.cell (i:=0) rfl;have y1:=CB.out.cell (i:=1) rfl;have y2:=CB.out.cell (i:=2) rfl;have y3:=CB.out.cell (i:=3) rfl
    go_upto_region 6 with (go_at_call 12;refine (Layer_lit w.heap.size n c A zs a1 b1 c1 d1 a2 a3 b2 b3 c2 c3 d2 d3 [97] (by omega) (by omega) (by omega) (by omega) (by omega) W2 HD.out).mono ?_;rintro e w3 ⟨l,m1,m2,m3,q1,q2,q3,rfl,hnm,hml,hls,hg3,hD3⟩)
    have hs3:=hg3.size
    have LB:=BlkAt.new w3 #[.string ⟨#[97]⟩,.int .i64 l.zone,.int .i64 l.day,.int .i64 l.sec,.int .i64 l.unit,.int .i64 l.every,.slice m1 m2 m3,.slice q1 q2 q3,.int .i64 l.cal,.int .i64 l.mode] 39
    have k3:=(Below.refl _ w3).alloc (Nat.le_refl _) (.cells #[.string ⟨#[97]⟩,.int .i64 l.zone,.int .i64 l.day,.int .i64 l.sec,.int .i64 l.unit,.int .i64 l.every,.slice m1 m2 m3,.slice q1 q2 q3,.int .i64 l.cal,.int .i64 l.mode] 39)
    have HDC:=Lib.hid (hD3.after k3)
    have HNM:=Lib.hid hnm
    have HML:=Lib.hid hml
    have HK:=Lib.hid (show LK w (w.heap.size+1) (a1,a2,a3) (b1,b2,b3) (c1,c2,c3) (d1,d2,d3) C l (m1,m2,m3) (q1,q2,q3) bc w3.heap.size #[.slice a1 a2 a3,.slice b1 b2 b3,.slice c1 c2 c3,.slice d1 d2 d3] #[.string ⟨#[97]⟩,.int .i64 l.zone,.int .i64 l.day,.int .i64 l.sec,.int .i64 l.unit,.int .i64 l.every,.slice m1 m2 m3,.slice q1 q2 q3,.int .i64 l.cal,.int .i64 l.mode] (w3.alloc (.cells #[.string ⟨#[97]⟩,.int .i64 l.zone,.int .i64 l.day,.int .i64 l.sec,.int .i64 l.unit,.int .i64 l.every,.slice m1 m2 m3,.slice q1 q2 q3,.int .i64 l.cal,.int .i64 l.mode] 39)) from
      ⟨bstep (below_of_grown B2.out hg3 B2.out.size (Nat.le_refl _)) k3,HT.out _ (Below.refl _ _),(((HC2.out.kept (.of_grown hg3 (by omega) (Nat.le_refl _))).mono (Nat.le_refl _) hs3).below (Nat.le_refl _) k3).mono (Nat.le_refl _) k3.size,(LayOk.kept (.of_below k3 (Nat.le_refl _)) (lay_drawn (lo:=w.heap.size+1) hls (fun b hb=>by omega))).mono (Nat.le_refl _) k3.size,(CB.out.grown hg3 (by intro e;cases e;omega)).after k3,LB,hbc,by omega⟩)
    have HFT:=Lib.hid (show Sg.fitS C l=true from fit_made HM.out (by rw [HLN.out.1,HLN.out.2.1,HLN.out.2.2];exact hml) hnm)
    have HSM:=Lib.hid (show Sg.Small C l from small_made HM.out.zs (fun x hx=>(HM.out.cs x hx).2.1) (by obtain ⟨-, -, -, -, -, -, -, -, -, -, -, -, -,h, -⟩:=hml;exact h) HFT.out)
    clear y0 y1 y2 y3 hls hg3 hD3 k3 CB HD HC2 B2 hml hnm LB hs3 hbc hs2
    generalize hlb:w3.heap.size=bl at HK ⊢
    generalize w3.alloc (.cells #[.string ⟨#[97]⟩,.int .i64 l.zone,.int .i64 l.day,.int .i64 l.sec,.int .i64 l.unit,.int .i64 l.every,.slice m1 m2 m3,.slice q1 q2 q3,.int .i64 l.cal,.int .i64 l.mode] 39)=W3 at HDC HK ⊢
    clear hlb
    have x0:=HK.out.bx.cell (i:=0) rfl;have x1:=HK.out.bx.cell (i:=1) rfl;have x2:=HK.out.bx.cell (i:=2) rfl;have x3:=HK.out.bx.cell (i:=3) rfl;have l0:=HK.out.by_.cell (i:=0) rfl;have l1:=HK.out.by_.cell (i:=1) rfl;have l2:=HK.out.by_.cell (i:=2) rfl;have l3:=HK.out.by_.cell (i:=3) rfl;have l4:=HK.out.by_.cell (i:=4) rfl;have l5:=HK.out.by_.cell (i:=5) rfl;have l6:=HK.out.by_.cell (i:=6) rfl;have l7:=HK.out.by_.cell (i:=7) rfl;have l8:=HK.out.by_.cell (i:=8) rfl;have l9:=HK.out.by_.cell (i:=9) rfl
    go_upto_region 7 with (go_at_call 14;refine (Instant_any w.heap.size n c A zs W3 HDC.out).mono ?_;rintro e w4 ⟨f,rfl,f1,f2,hg4,hD4⟩)
    have HK4:=Lib.hid (HK.out.grown hg4 (by omega) (Nat.le_refl _))
    clear x0 x1 x2 x3 l0 l1 l2 l3 l4 l5 l6 l7 l8 l9 HK hg4 hD4 HDC
    have ⟨v1,v1'⟩:=wrapn (n:=f+864000) (by omega)
    have hb1:f<f+864000∧0≤f∧f+864000≤8589934592:=by omega
    go_upto_region 8 with fail
    clear v1 v1'
    have x0:=HK4.out.bx.cell (i:=0) rfl;have x1:=HK4.out.bx.cell (i:=1) rfl;have x2:=HK4.out.bx.cell (i:=2) rfl;have x3:=HK4.out.bx.cell (i:=3) rfl;have l0:=HK4.out.by_.cell (i:=0) rfl;have l1:=HK4.out.by_.cell (i:=1) rfl;have l2:=HK4.out.by_.cell (i:=2) rfl;have l3:=HK4.out.by_.cell (i:=3) rfl;have l4:=HK4.out.by_.cell (i:=4) rfl;have l5:=HK4.out.by_.cell (i:=5) rfl;have l6:=HK4.out.by_.cell (i:=6) rfl;have l7:=HK4.out.by_.cell (i:=7) rfl;have l8:=HK4.out.by_.cell (i:=8) rfl;have l9:=HK4.out.by_.cell (i:=9) rfl
    go_upto_region 9 with (go_at_call 22;refine (HK4.out.seg HNM.out (fun _=>HSM.out) (by unfold I64;omega) (by unfold I64;omega)).mono ?_;rintro e w5 ⟨L5,r5,A5,n5,g5,rfl,hl5,ho5,he5,hp5,hn5,hb5⟩;obtain ⟨rfl,hs5⟩:=seg_ok HFT.out (by omega) (by omega) (by omega) (by omega) ho5 he5)
    have HK5:=Lib.hid (HK4.out.below hb5)
    have HS5:=Lib.hid hs5;have HL5:=Lib.hid hl5;have HP5:=Lib.hid hp5;have HN5:=Lib.hid hn5
    clear x0 x1 x2 x3 l0 l1 l2 l3 l4 l5 l6 l7 l8 l9 HK4 hs5 hl5 hp5 hn5 hb5 ho5 he5
    have x0:=HK5.out.bx.cell (i:=0) rfl;have x1:=HK5.out.bx.cell (i:=1) rfl;have x2:=HK5.out.bx.cell (i:=2) rfl;have x3:=HK5.out.bx.cell (i:=3) rfl;have l0:=HK5.out.by_.cell (i:=0) rfl;have l1:=HK5.out.by_.cell (i:=1) rfl;have l2:=HK5.out.by_.cell (i:=2) rfl;have l3:=HK5.out.by_.cell (i:=3) rfl;have l4:=HK5.out.by_.cell (i:=4) rfl;have l5:=HK5.out.by_.cell (i:=5) rfl;have l6:=HK5.out.by_.cell (i:=6) rfl;have l7:=HK5.out.by_.cell (i:=7) rfl;have l8:=HK5.out.by_.cell (i:=8) rfl;have l9:=HK5.out.by_.cell (i:=9) rfl
    go_upto_region 10 with (go_at_call 20;refine (HK5.out.tim HNM.out (fun _=>HSM.out) (by unfold I64;omega) (by unfold I64;omega)).mono ?_;rintro e w6 ⟨L6,r6,A6,n6,g6,rfl,hl6,ho6,he6,hp6,hc6,hn6,hb6⟩;obtain rfl:r6=0:=he6 HFT.out (by omega))
    obtain ⟨s1,hu6,hs6⟩:=ho6.yes HFT.out (by omega)
    obtain rfl:L6=s1:=by rcases hs6 with ⟨-,e, -⟩|⟨-, -,e⟩<;>first|exact e|(cases e)
    have hF:=Sg.fit_of HFT.out
    have HON:=Lib.hid (show ∀t,(Sg.dy C l).on t=decide (0≤(Sg.dy C l).per t) from hF.ok.per_on (fun m hm=>(hF.mi m hm).1))
    have HNEG:=Lib.hid (show ∀t,(Sg.dy C l).per t= -1∨0≤(Sg.dy C l).per t from fun t=>by
      by_cases h:0≤(Sg.dy C l).per t
      · exact .inr h
      · left
        have h2:=HON.out t
        rw [decide_eq_false h] at h2
        unfold Sg.Dy.per
        rw [if_neg (by rw [h2];simp)])
    have HSU:=Lib.hid (show Sg.secs L5=Spn.sum L6 from HS5.out.sum hu6 (fun t _ _=>HON.out t))
    have HVL:=Lib.hid (show Spn.vld L6=true from Sg.up_vld hu6 (by omega) (by omega) (by rw [hl6];exact hn6))
    have HHS:=Lib.hid (show ∀y,f≤y→y<f+864000→Spn.has L6 y=decide (0≤(Sg.dy C l).per y) from fun y h1 h2=>by rw [Sg.up_has hu6 HVL.out,decide_eq_true ⟨h1,h2⟩,HON.out y];rfl)
    have HK6:=Lib.hid (HK5.out.below hb6)
    have HP6:=Lib.hid (HP5.out.below hb6)
    have HL6:=Lib.hid hl6;have HSP:=Lib.hid (spans_of hp6);have HN6:=Lib.hid hn6
    obtain ⟨hl0,z1,z2,hz1,hf1,hz2,hf2⟩:=HS5.out.ends hb1.1
    obtain ⟨sb,so,rfl,hsb,hsc⟩:=HP6.out hl0
    rw [HL5.out] at hl0 hz2
    have c0:=(trip_cells (hsc 0 z1 hz1)).1
    have c1:=(trip_cells (hsc (n5-1) z2 hz2)).2.1
    rw [hf1] at c0
    rw [hf2] at c1
    simp only [Nat.zero_mul,Nat.add_zero] at c0
    have i0:(0:Int)≤(n5:Int)-1:=by omega
    have i1:(n5:Int)-1<n5:=by omega
    have i2:((n5:Int)-1).toNat=n5-1:=by omega
    have i3:(n5:Int)≤900000:=by have :=HN5.out;omega
    have i4:(0:Int)<n5:=by omega
    have i5:((n5:Int)==0)=false:=by simp;omega
    clear x0 x1 x2 x3 l0 l1 l2 l3 l4 l5 l6 l7 l8 l9 HK5 HP5 hu6 hs6 hF hl6 hp6 hc6 hn6 hb6 ho6 he6 hz1 hz2 hsc f1 f2 HON
    go_wp2_with fail
    go_loopw [14,83] (fun sv iv wr=> ∃k:Nat,iv= .int .i64 k∧k≤n5∧sv= .int .i64 (Sg.secs (L5.take k))∧Hid (Below w6.heap.size w6 wr)) (fun _ i _=>n5-(intOf i).toNat)
    case atStart=>exact ⟨0,rfl,Nat.zero_le _,rfl,Lib.hid (Below.refl _ _)⟩
    case round=>
      clear c0 c1 i0 i1 i2 i4 i5 hsb
      obtain ⟨k,rfl,hk,rfl,HW⟩:=hrel
      obtain ⟨sk,hsk⟩: ∃sk,Sg.secs (L5.take k)=sk:=⟨_,rfl⟩
      rw [hsk]
      by_cases hlt:k<n5
      · obtain ⟨⟨xa,xb,xp⟩,hx⟩:=get_ex (xs:=L5) (i:=k) (by have :=HL5.out;omega)
        obtain ⟨g1,g2,g3,g4,g5',g6'⟩:=HS5.out.get hx
        simp only at g1 g2 g3 g4 g5' g6'
        rw [hsk] at g5' g6'
        have HNX:=Lib.hid (show Sg.secs (L5.take (k+1))=sk+if 0≤xp then xb-xa else 0 by rw [Sg.secs_take hx,hsk])
        obtain ⟨_,_,ee,hsb,hsc⟩:=(HP6.out.below HW.out) (by have :=HL5.out;omega)
        cases ee
        obtain ⟨s0,s1,s1',s2⟩:=trip_cells (hsc k _ hx)
        simp only at s0 s1 s1' s2
        have k0:(0:Int)≤k:=by omega
        have k1:(k:Int)<n5:=by omega
        have qx1:¬xb≤xa:=by omega
        obtain ⟨r,hr⟩: ∃r,kn%(xb-xa)=r:=⟨_,rfl⟩
        have r0:0≤r:=by rw [←hr];exact Int.emod_nonneg _ (by omega)
        have r1:r<xb-xa:=by rw [←hr];exact Int.emod_lt_of_pos _ (by omega)
        have HM:=Lib.hid (show ∀W,Calls Tryz.prog 28 #[.int .i64 kn,.int .i64 (xb-xa)] W fun e w'=>e= .returned (.int .i64 r)∧W=w' from fun W=>by
          have :=Mod_any kn (xb-xa) W hkn.1 hkn.2 (by omega) (by omega)
          rwa [hr] at this)
        obtain ⟨mid,hmid⟩: ∃mid,xa+r=mid:=⟨_,rfl⟩
        have md0:xa≤mid:=by omega
        have md1:mid<xb:=by omega
        have ⟨ww1,ww1'⟩:=wrapn (n:=xb-xa) (by omega)
        have ⟨ww2,ww2'⟩:=wrapn (n:=xa+r) (by omega)
        rw [hmid] at ww2 ww2'
        have HPR:=Lib.hid (show ∀y,xa≤y→y<xb→(Sg.dy C l).per y=xp from g4)
        have HSC:=Lib.hid hsc
        have HX:=Lib.hid hx
        clear g4 hmid hsc hx
        go_upto_region 17 with fail
        go_cut [15,120] (fun v vb wx=>v= .int .i64 k∧vb= .bool false∧Hid (BlkAt wx wr.heap.size #[.int .i64 xa,.int .i64 xb,.int .i64 xp] 62)∧Hid (Below wr.heap.size wr wx))
        case first =>
          have hd1:decide (xb≤xa)=false:=decide_eq_false (by omega)
          have hd2:decide (xa≥xb)=false:=decide_eq_false (by omega)
          rcases Nat.eq_zero_or_pos k with hk0|hkp
          · have hd3:decide ((0:Int)<(k:Int))=false:=decide_eq_false (by omega)
            have hd5:decide (0<k)=false:=decide_eq_false (by omega)
            clear hk0
            clear HNM HML HFT HSM HS5 HL5 HN5 HSU HVL HHS HK6 HP6 HL6 HSP HN6 HNX HSC HX HPR HT HW HM
            go_wp2_with fail
            go_quiet (fail)
            go_wp2_with fail
            go_meet
            exact ⟨rfl,rfl,Lib.hid (BlkAt.new wr _ _),Lib.hid (below_drewN ((Below.refl _ wr).alloc (Nat.le_refl _) _) _)⟩
          · obtain ⟨⟨p1,p2,p3⟩,hp⟩:=get_ex (xs:=L5) (i:=k-1) (by have :=HL5.out;omega)
            obtain ⟨e1,e2⟩:=HS5.out.prev hp (by rw [show k-1+1=k by omega];exact HX.out)
            simp only at e1 e2
            obtain ⟨t0,t1,t1',t2⟩:=trip_cells (HSC.out (k-1) _ hp)
            simp only at t0 t1 t1' t2
            rw [←e1] at t1
            have e3:(xp==p3)=false:=by simpa using e2
            have e4:(xa !=xa)=false:=by simp
            have j0:(0:Int)<(k:Int):=by omega
            have hd3:decide ((0:Int)<(k:Int))=true:=decide_eq_true j0
            have hd5:decide (0<k)=true:=decide_eq_true (by omega)
            have hd6:decide ((0:Int)≤(k:Int)-1)=true:=decide_eq_true (by omega)
            have hd7:decide ((1:Int)≤(k:Int))=true:=decide_eq_true (by omega)
            have hd8:decide (1≤k)=true:=decide_eq_true (by omega)
            have j4:(1:Int)≤(k:Int):=by omega
            have j1:(0:Int)≤(k:Int)-1:=by omega
            have j2:(k:Int)-1<n5:=by omega
            have j3:((k:Int)-1).toNat=k-1:=by omega
            have ⟨ww3,ww3'⟩:=wrapn (n:=(k:Int)-1) (by omega)
            clear hp hkp e1 e2
            clear HNM HML HFT HSM HS5 HL5 HN5 HSU HVL HHS HK6 HP6 HL6 HSP HN6 HNX HSC HX HPR HT HW HM
            go_wp2_with fail
            go_quiet (fail)
            go_wp2_with fail
            go_meet
            exact ⟨rfl,rfl,Lib.hid (BlkAt.new wr _ _),Lib.hid (below_drewN ((Below.refl _ wr).alloc (Nat.le_refl _) _) _)⟩
        case rest=>
          clear s0 s1 s1' s2 hsb k0 k1
          obtain ⟨rfl,rfl,HXB,HWX⟩:=hcut
          have HWA:=Lib.hid (bstep HW.out HWX.out)
          generalize hbx:wr.heap.size=bx at HXB ⊢
          have e0:=HXB.out.cell (i:=0) rfl;have e1:=HXB.out.cell (i:=1) rfl;have e2:=HXB.out.cell (i:=2) rfl
          clear HW HWX hbx
          go_wp2_with fail
          go_quiet ((go_at_call 28;exact qsame (HM.out _)))
          have ⟨ww4,ww4'⟩:=wrapn (n:=xb-1) (by omega)
          have HKC:=Lib.hid (HK6.out.below HWA.out)
          have HPE:=Lib.hid (show ∀y,xa≤y→y<xb→ ∀V,Below wc.heap.size wc V→Calls Tryz.prog 18 #[.agg #[.slice a1 a2 a3,.slice b1 b2 b3,.slice c1 c2 c3,.slice d1 d2 d3],.agg #[.string ⟨#[97]⟩,.int .i64 l.zone,.int .i64 l.day,.int .i64 l.sec,.int .i64 l.unit,.int .i64 l.every,.slice m1 m2 m3,.slice q1 q2 q3,.int .i64 l.cal,.int .i64 l.mode],.int .i64 y] V fun e w'=>e= .returned (.int .i64 xp)∧Below V.heap.size V w' from fun y h1 h2 V hb=>by
            have :=(HKC.out.below hb).person HNM.out (t:=y) (by unfold I64;omega)
            rw [show Sg.perS C l y=xp by unfold Sg.perS;rw [if_pos ⟨HFT.out,by omega,by omega⟩];exact HPR.out y h1 h2] at this
            exact this)
          obtain ⟨bb,hbb⟩: ∃bb,decide (0≤xp)=bb:=⟨_,rfl⟩
          have HBB:=Lib.hid hbb
          have hxp:xp= -1∨0≤xp:=by have :=HNEG.out xa;rwa [HPR.out xa (by omega) (by omega)] at this
          have hne:(xp != -1)=bb:=by
            rw [←hbb]
            rcases hxp with rfl|h
            · decide
            · rw [decide_eq_true h];simp;omega
          have HOE:=Lib.hid (show ∀y,xa≤y→y<xb→ ∀V,Below wc.heap.size wc V→Calls Tryz.prog 16 #[.agg #[.slice a1 a2 a3,.slice b1 b2 b3,.slice c1 c2 c3,.slice d1 d2 d3],.agg #[.string ⟨#[97]⟩,.int .i64 l.zone,.int .i64 l.day,.int .i64 l.sec,.int .i64 l.unit,.int .i64 l.every,.slice m1 m2 m3,.slice q1 q2 q3,.int .i64 l.cal,.int .i64 l.mode],.int .i64 y] V fun e w'=>e= .returned (.bool bb)∧Below V.heap.size V w' from fun y h1 h2 V hb=>by
            have :=(HKC.out.below hb).on HNM.out (t:=y) (by unfold I64;omega)
            rw [show Sg.perS C l y=xp by unfold Sg.perS;rw [if_pos ⟨HFT.out,by omega,by omega⟩];exact HPR.out y h1 h2,hne] at this
            exact this)
          have HHE:=Lib.hid (show ∀y,xa≤y→y<xb→ ∀V,Below wc.heap.size wc V→Calls Tryz.prog 29 #[.slice A6 n6 g6,.int .i64 y] V fun e w'=>e= .returned (.bool bb)∧Below V.heap.size V w' from fun y h1 h2 V hb=>by
            have :=Spw.RHas_any A6 n6 g6 L6 y V (HSP.out.below (bstep HWA.out hb)) HL6.out (by have :=HN6.out;omega)
            rw [HHS.out y (by omega) (by omega),HPR.out y h1 h2,hbb] at this
            exact this)
          clear hbb hne hxp e0 e1 e2
          have e0:=HXB.out.cell (i:=0) rfl;have e1:=HXB.out.cell (i:=1) rfl
          go_wp2_with fail
          go_loopw [138] (fun jv wv=> ∃j:Nat,jv= .int .i64 j∧j≤3∧Hid (Below wc.heap.size wc wv)) (fun jv _=>3-(intOf jv).toNat)
          case atStart=>exact ⟨0,rfl,by omega,Lib.hid (below_drewN (Below.refl _ _) _)⟩
          case round=>
            clear e0 e1
            obtain ⟨j,rfl,hj,HV⟩:=hrel
            have HKV:=Lib.hid (HKC.out.below HV.out)
            have HXV:=Lib.hid (HXB.out.after HV.out)
            have x0:=HKV.out.bx.cell (i:=0) rfl;have x1:=HKV.out.bx.cell (i:=1) rfl;have x2:=HKV.out.bx.cell (i:=2) rfl;have x3:=HKV.out.bx.cell (i:=3) rfl;have l0:=HKV.out.by_.cell (i:=0) rfl;have l1:=HKV.out.by_.cell (i:=1) rfl;have l2:=HKV.out.by_.cell (i:=2) rfl;have l3:=HKV.out.by_.cell (i:=3) rfl;have l4:=HKV.out.by_.cell (i:=4) rfl;have l5:=HKV.out.by_.cell (i:=5) rfl;have l6:=HKV.out.by_.cell (i:=6) rfl;have l7:=HKV.out.by_.cell (i:=7) rfl;have l8:=HKV.out.by_.cell (i:=8) rfl;have l9:=HKV.out.by_.cell (i:=9) rfl
            have e0:=HXV.out.cell (i:=0) rfl;have e1:=HXV.out.cell (i:=1) rfl;have e2:=HXV.out.cell (i:=2) rfl
            by_cases hj3:j<3
            · have S1:=Lib.hid (show wr.cell? ⟨bc,0,none⟩=some (.slice a1 a2 a3)∧wr.cell? ⟨bc,1,none⟩=some (.slice b1 b2 b3)∧wr.cell? ⟨bc,2,none⟩=some (.slice c1 c2 c3)∧wr.cell? ⟨bc,3,none⟩=some (.slice d1 d2 d3)∧wr.cell? ⟨bl,0,none⟩=some (.string ⟨#[97]⟩)∧wr.cell? ⟨bl,1,none⟩=some (.int .i64 l.zone)∧wr.cell? ⟨bl,2,none⟩=some (.int .i64 l.day)∧wr.cell? ⟨bl,3,none⟩=some (.int .i64 l.sec)∧wr.cell? ⟨bl,4,none⟩=some (.int .i64 l.unit)∧wr.cell? ⟨bl,5,none⟩=some (.int .i64 l.every)∧wr.cell? ⟨bl,6,none⟩=some (.slice m1 m2 m3)∧wr.cell? ⟨bl,7,none⟩=some (.slice q1 q2 q3)∧wr.cell? ⟨bl,8,none⟩=some (.int .i64 l.cal)∧wr.cell? ⟨bl,9,none⟩=some (.int .i64 l.mode)∧wr.cell? ⟨bx,2,none⟩=some (.int .i64 xp)∧Below wc.heap.size wc wr from ⟨x0,x1,x2,x3,l0,l1,l2,l3,l4,l5,l6,l7,l8,l9,e2,HV.out⟩)
              clear HKV HXV x0 x1 x2 x3 l0 l1 l2 l3 l4 l5 l6 l7 l8 l9 e0 e1 e2
              obtain ⟨N,hN1,hN2,hni⟩: ∃N:Int,xa≤N∧N<xb∧ ∀V,(Instr.index 64 (.agg #[.int .i64 xa,.int .i64 (xa+r),.int .i64 (xb-1)]) (.int .i64 (j:Int))).run Tryz.prog V= .ok (.int .i64 N) V:=by
                rcases (by omega:j=0∨j=1∨j=2) with rfl|rfl|rfl
                · exact ⟨xa,by omega,by omega,fun _=>by kernel_rfl⟩
                · exact ⟨xa+r,by omega,by omega,fun _=>by kernel_rfl⟩
                · exact ⟨xb-1,by omega,by omega,fun _=>by kernel_rfl⟩
              have hil:(j:Int)<3:=by omega
              have hi0:(0:Int)≤j:=by omega
              cases bb
              all_goals
                have hbt:=HBB.out
                go_wp2_with fail
                go_region_held3 (fun V=>V.cell? ⟨bc,0,none⟩=some (.slice a1 a2 a3)∧V.cell? ⟨bc,1,none⟩=some (.slice b1 b2 b3)∧V.cell? ⟨bc,2,none⟩=some (.slice c1 c2 c3)∧V.cell? ⟨bc,3,none⟩=some (.slice d1 d2 d3)∧V.cell? ⟨bl,0,none⟩=some (.string ⟨#[97]⟩)∧V.cell? ⟨bl,1,none⟩=some (.int .i64 l.zone)∧V.cell? ⟨bl,2,none⟩=some (.int .i64 l.day)∧V.cell? ⟨bl,3,none⟩=some (.int .i64 l.sec)∧V.cell? ⟨bl,4,none⟩=some (.int .i64 l.unit)∧V.cell? ⟨bl,5,none⟩=some (.int .i64 l.every)∧V.cell? ⟨bl,6,none⟩=some (.slice m1 m2 m3)∧V.cell? ⟨bl,7,none⟩=some (.slice q1 q2 q3)∧V.cell? ⟨bl,8,none⟩=some (.int .i64 l.cal)∧V.cell? ⟨bl,9,none⟩=some (.int .i64 l.mode)∧V.cell? ⟨bx,2,none⟩=some (.int .i64 xp)∧Below wc.heap.size wc V)
                  (first|(exact keepP S1.out (Below.refl _ _).drew)|(exact keepP (by assumption) hb))
                  (first|(go_at_call 18;((with_reducible refine (HPE.out _ (by omega) (by omega) _ (lastP (by assumption))).mono ?_);rintro e w' ⟨rfl,hb⟩))|(go_at_call 16;((with_reducible refine (HOE.out _ (by omega) (by omega) _ (lastP (by assumption))).mono ?_);rintro e w' ⟨rfl,hb⟩))|(go_at_call 29;((with_reducible refine (HHE.out _ (by omega) (by omega) _ (lastP (by assumption))).mono ?_);rintro e w' ⟨rfl,hb⟩)))
                have hlast:Below wc.heap.size wc _:=lastP (by assumption)
                go_wp2_with fail
                go_roundw
                case rel=>exact ⟨j+1,by go_num,by omega,Lib.hid hlast⟩
                case measure=>simp [intOf];omega
            · obtain rfl:j=3:=by omega
              have ⟨ww5,ww5'⟩:=wrapn (n:=sk+(xb-xa)) (by omega)
              have HWE:=Lib.hid (bstep HWA.out HV.out)
              by_cases hp:0≤xp
              · have HNV:=Lib.hid (show sk+(xb-xa)=Sg.secs (L5.take (k+1)) by rw [HNX.out,if_pos hp])
                clear HNX
                go_wp2_with fail
                go_roundw
                case rel=>exact ⟨k+1,by go_num,by omega,by rw [HNV.out],HWE⟩
                case measure=>simp [intOf];omega
              · have HNV:=Lib.hid (show sk=Sg.secs (L5.take (k+1)) by rw [HNX.out,if_neg hp,Int.add_zero])
                clear HNX
                go_wp2_with fail
                go_roundw
                case rel=>exact ⟨k+1,by go_num,by omega,by rw [←HNV.out],HWE⟩
                case measure=>simp [intOf];omega
      · obtain rfl:k=n5:=by omega
        have HLN:=Lib.hid (show ∀V,Below w6.heap.size w6 V→Calls Tryz.prog 30 #[.slice A6 n6 g6] V fun e w'=>e= .returned (.int .i64 sk)∧Below V.heap.size V w' from fun V hb=>by
          have :=Spw.RLength_any A6 n6 g6 L6 V (HSP.out.below hb) HL6.out (by have :=HN6.out;omega)
          rw [show Spn.len L6=sk by unfold Spn.len;rw [if_pos HVL.out, ←HSU.out, ←hsk,List.take_of_length_le (by rw [HL5.out];omega)]] at this
          exact this)
        go_wp2_with (first
          |(go_at_call 30;refine (HLN.out _ HW.out).mono ?_;rintro e w9 ⟨rfl,hb9⟩;have HB9:=Lib.hid (bstep (bstep HK6.out.base HW.out) hb9);clear hb9)
          |(go_at_call 9;refine (sane11_any _ (HT.out _ HB9.out)).mono ?_;rintro e w12 ⟨rfl,hB12⟩;have HB12:=Lib.hid (bstep HB9.out hB12);clear hB12))
        go_ret
        exact ⟨rfl,HB12.out⟩
  · have hl:decide ((n:Int)≤500)=false:=by simp;omega
    clear hA hn hf
    go_enter Tryz.func4,Tryz.ntmps4
    go_wp2_with fail
    refine (Light_any A n c _).mono ?_
    rw [hl]
    rintro e w' ⟨rfl,rfl⟩
    go_wp2_with fail
    refine (sane11_any _ (HT.out _ (Below.refl _ _))).mono ?_
    rintro e w1 ⟨rfl,b1⟩
    go_wp2_with fail
    go_ret
    exact ⟨rfl,b1⟩
end Go.Proofs.YtfamcohbnoibaaaGreatDoor
