import Derived.Test.YtfamcohbnoibaaaGreatDoorKDv
set_option linter.unusedVariables false
set_option linter.unusedSimpArgs false
set_option maxRecDepth 100000
namespace Go.Proofs.YtfamcohbnoibaaaGreatDoor
open Go.RowKit
def layV (nm:ByteArray) (l:Rs.Lay) (m q:SV):Value:= .agg #[.string nm,.int .i64 l.zone,.int .i64 l.day,.int .i64 l.sec,.int .i64 l.unit,.int .i64 l.every,.slice m.1 m.2.1 m.2.2,.slice q.1 q.2.1 q.2.2,.int .i64 l.cal,.int .i64 l.mode]
def Layered (nm:ByteArray) (n1 n2 n3:Nat) (w:World) (g:Nat) (A:Option Addr) (n c:Nat) (zs:List Int) (e:Ending) (w':World):Prop:=
 ∃(l:Rs.Lay) (m q:SV),e= .returned (layV nm l m q)∧l.name=nm.data.toList∧Rs.ML n1 n2 n3 l∧LayS (fun b=>w.heap.size≤b) w' l (m,q)∧w.grownBy w' (some g)∧Dice w' g A n c zs
theorem below10 {w W:World} {B:Nat} (l2:w.heap.size≤B) (u0 u1 u2 u3 u4 u5 u6 u7 u8 u9:Value):Below w.heap.size W ((((((((((W.setCell ⟨B,0,none⟩ u0).setCell ⟨B,1,none⟩ u1).setCell ⟨B,2,none⟩ u2).setCell ⟨B,3,none⟩ u3).setCell ⟨B,4,none⟩ u4).setCell ⟨B,5,none⟩ u5).setCell ⟨B,6,none⟩ u6).setCell ⟨B,7,none⟩ u7).setCell ⟨B,8,none⟩ u8).setCell ⟨B,9,none⟩ u9):=
 ((((((((((Below.refl _ W).setCell (p:=⟨B,0,none⟩) l2 _).setCell (p:=⟨B,1,none⟩) l2 _).setCell (p:=⟨B,2,none⟩) l2 _).setCell (p:=⟨B,3,none⟩) l2 _).setCell (p:=⟨B,4,none⟩) l2 _).setCell (p:=⟨B,5,none⟩) l2 _).setCell (p:=⟨B,6,none⟩) l2 _).setCell (p:=⟨B,7,none⟩) l2 _).setCell (p:=⟨B,8,none⟩) l2 _).setCell (p:=⟨B,9,none⟩) l2 _
theorem mv10 {S:Nat→Prop} {W:World} {B:Nat} (hB:¬S B) (u0 u1 u2 u3 u4 u5 u6 u7 u8 u9:Value):Mv S W S ((((((((((W.setCell ⟨B,0,none⟩ u0).setCell ⟨B,1,none⟩ u1).setCell ⟨B,2,none⟩ u2).setCell ⟨B,3,none⟩ u3).setCell ⟨B,4,none⟩ u4).setCell ⟨B,5,none⟩ u5).setCell ⟨B,6,none⟩ u6).setCell ⟨B,7,none⟩ u7).setCell ⟨B,8,none⟩ u8).setCell ⟨B,9,none⟩ u9):=
 (((((((((Mv.set W B 0 u0 hB).trans (Mv.set _ B 1 u1 hB)).trans (Mv.set _ B 2 u2 hB)).trans (Mv.set _ B 3 u3 hB)).trans (Mv.set _ B 4 u4 hB)).trans (Mv.set _ B 5 u5 hB)).trans (Mv.set _ B 6 u6 hB)).trans (Mv.set _ B 7 u7 hB)).trans (Mv.set _ B 8 u8 hB)).trans (Mv.set _ B 9 u9 hB)
theorem lay_fin {nm:ByteArray} {n1 n2 n3:Nat} {w W:World} {g n c:Nat} {A:Option Addr} {zs:List Int} {B2 B3 B4:Nat} {cs2 cs3 cs4:Array Value} {T T4:TypeId} (h:EK w g A n c zs B2 cs2 B3 cs3 T B4 cs4 T4 W) (l:Rs.Lay) (m q:SV) (hn:l.name=nm.data.toList) (hl:Rs.ML n1 n2 n3 l) (hm:LInS 1 eInt (fun b=>B3+1≤b) W m l.mem) (hq:LInS 2 ePair (fun b=>B3+1≤b) W q l.wins) (h23:B2<B3) (u0 u1 u2 u3 u4 u5 u6 u7 u8 u9:Value):
  Layered nm n1 n2 n3 w g A n c zs (.returned (layV nm l m q)) ((((((((((W.setCell ⟨B2,0,none⟩ u0).setCell ⟨B2,1,none⟩ u1).setCell ⟨B2,2,none⟩ u2).setCell ⟨B2,3,none⟩ u3).setCell ⟨B2,4,none⟩ u4).setCell ⟨B2,5,none⟩ u5).setCell ⟨B2,6,none⟩ u6).setCell ⟨B2,7,none⟩ u7).setCell ⟨B2,8,none⟩ u8).setCell ⟨B2,9,none⟩ u9):=by
 have l2:=h.l2
 have hb:=below10 (w:=w) (W:=W) l2 u0 u1 u2 u3 u4 u5 u6 u7 u8 u9
 have hv:Mv (fun b=>B3+1≤b) W (fun b=>w.heap.size≤b) _:=(mv10 (S:=fun b=>B3+1≤b) (W:=W) (B:=B2) (fun hS=>by have :B3+1≤B2:=hS;omega) u0 u1 u2 u3 u4 u5 u6 u7 u8 u9).trans (Mv.wider _ (fun b hb _=>by have :B3+1≤b:=hb;omega))
 have hd:I64 l.day:=by
  have h1:=hl.2.1
  have h2:=hl.2.2.1
  unfold I64
  omega
 exact ⟨l,m,q,rfl,hn,hl,⟨hm.mv hv,hq.mv hv,hd⟩,grown_then h.grown hb (Nat.le_refl _),h.dice.below hb h.lg⟩
set_option maxHeartbeats 16000000 in
theorem Layer_any (g n c:Nat) (A:Option Addr) (zs:List Int) (A1 A2 A3 A4:Option Addr) (n1 c1 n2 c2 n3 c3 n4 c4:Nat) (nm:ByteArray) (h1:1≤n1) (h1':n1≤1000) (h2:1≤n2) (h2':n2≤1000) (h3':n3≤1000) (w:World) (h:Dice w g A n c zs):
  Calls Tryz.prog 12 #[.pointer (some ⟨g,0,none⟩),.agg #[.slice A1 n1 c1,.slice A2 n2 c2,.slice A3 n3 c3,.slice A4 n4 c4],.string nm] w (Layered nm n1 n2 n3 w g A n c zs):=by
 have hgw:=h.lt_
 have HD:=Lib.hid h
 clear h
 go_enter Tryz.func12,Tryz.ntmps12
 go_wp2_with fail
 refine (Next_any g n c A zs n1 _ ((HD.out.alloc _).alloc _) (by omega) (by omega)).mono ?_
 rintro e w1 ⟨z,rfl,z0,z1,g1,D1⟩
 have R1:=Lib.hid (show BlkAt w1 (w.heap.size+1) #[.string ⟨#[]⟩,.int .i64 0,.int .i64 0,.int .i64 0,.int .i64 0,.int .i64 0,.slice none 0 0,.slice none 0 0,.int .i64 0,.int .i64 0] 39 from blk_after (blk_new (by simp)) g1 (by omega))
 have X1:=Lib.hid (show BlkAt w1 w.heap.size #[.slice A1 n1 c1,.slice A2 n2 c2,.slice A3 n3 c3,.slice A4 n4 c4] 33 from blk_after (BlkAt.alloc (blk_new rfl) _) g1 (by omega))
 have G1:=Lib.hid (grown_trans (grown_alloc (grown_alloc (grown_refl w (some g)) _) _) g1)
 clear g1 HD
 go_wp2_with fail
 refine (Next_any g n c A zs 6 _ D1 (by decide) (by decide)).mono ?_
 rintro e w2 ⟨d6,rfl,d0,d1,g2,D2⟩
 have R2:=Lib.hid (R1.out.grown g2 (by intro e;cases e;omega))
 have X2:=Lib.hid (X1.out.grown g2 (by intro e;cases e;omega))
 have G2:=Lib.hid (grown_trans G1.out g2)
 have hw2:=G2.out.size
 clear g2 R1 X1 G1 D1
 go_wp2_with fail
 refine (Pick_any g n c A zs [0,32400,7200,9000,79200,1] w2.heap.size 6 6 3 _ (D2.alloc _) (BlkAt.new w2 _ _) rfl (by decide) (by decide) (by omega)).mono ?_
 rintro e w3 ⟨s,rfl,hs,g3,D3⟩
 have hss:0≤s∧s<86400:=by simp at hs;omega
 obtain ⟨s0',s1'⟩:=hss
 have R3:=Lib.hid ((R2.out.alloc _).grown g3 (by intro e;cases e;omega))
 have X3:=Lib.hid ((X2.out.alloc _).grown g3 (by intro e;cases e;omega))
 have G3:=Lib.hid (grown_trans (grown_alloc G2.out _) g3)
 clear g3 R2 X2 G2 D2 hs
 go_wp2_with fail
 refine (Next_any g n c A zs 3 _ D3 (by decide) (by decide)).mono ?_
 rintro e w4 ⟨u,rfl,u0,u1,g4,D4⟩
 have R4:=Lib.hid (R3.out.grown g4 (by intro e;cases e;omega))
 have X4:=Lib.hid (X3.out.grown g4 (by intro e;cases e;omega))
 have G4:=Lib.hid (grown_trans G3.out g4)
 clear g4 R3 X3 G3 D3
 go_wp2_with fail
 refine (Next_any g n c A zs 2 _ D4 (by decide) (by decide)).mono ?_
 rintro e w5 ⟨v2,rfl,v0,v1,g5,D5⟩
 have R5:=Lib.hid (R4.out.grown g5 (by intro e;cases e;omega))
 have X5:=Lib.hid (X4.out.grown g5 (by intro e;cases e;omega))
 have G5:=Lib.hid (grown_trans G4.out g5)
 have hx5:=R5.out.lt_
 clear g5 R4 X4 G4 D4 hw2
 obtain ⟨d,hd⟩: ∃d,20454+d6-2=d:=⟨_,rfl⟩
 have hd0:20452≤d:=by omega
 have hd1:d≤20457:=by omega
 have hdw:IntKind.i64.wrap (IntKind.i64.wrap (20454+d6)-2)=d:=by rw [IntKind.wrap_i64 (20454+d6),IntKind.wrap_i64];omega
 obtain ⟨b7,hb7⟩: ∃b,w5.heap.size=b:=⟨_,rfl⟩
 rw [hb7] at hx5
 have HK:=Lib.hid (show EK w g A n c zs (w.heap.size+1) #[.string ⟨#[]⟩,.int .i64 0,.int .i64 0,.int .i64 0,.int .i64 0,.int .i64 0,.slice none 0 0,.slice none 0 0,.int .i64 0,.int .i64 0] b7 #[.string nm,.int .i64 z,.int .i64 d,.int .i64 s,.int .i64 u,.int .i64 (1+v2),.slice none 0 0,.slice none 0 0,.int .i64 0,.int .i64 0] 39 w.heap.size #[.slice A1 n1 c1,.slice A2 n2 c2,.slice A3 n3 c3,.slice A4 n4 c4] 33 (w5.alloc (.cells #[.string nm,.int .i64 z,.int .i64 d,.int .i64 s,.int .i64 u,.int .i64 (1+v2),.slice none 0 0,.slice none 0 0,.int .i64 0,.int .i64 0] 39)) from ⟨grown_alloc G5.out _,D5.alloc _,R5.out.alloc _,blk_new hb7,X5.out.alloc _,by omega,by omega,by omega,by omega,by omega,hgw⟩)
 have cu:(w5.alloc (.cells #[.string nm,.int .i64 z,.int .i64 d,.int .i64 s,.int .i64 u,.int .i64 (1+v2),.slice none 0 0,.slice none 0 0,.int .i64 0,.int .i64 0] 39)).cell? ⟨b7,4,none⟩=some (.int .i64 u):=HK.out.k3.cell rfl
 clear D5 R5 X5 G5
 go_upto_if 31 with fail
 go_cut [] (fun wx=> ∃ev:Int,1≤ev∧(ev≤49∧(u=0∨ev≤2))∧Hid (EK w g A n c zs (w.heap.size+1) #[.string ⟨#[]⟩,.int .i64 0,.int .i64 0,.int .i64 0,.int .i64 0,.int .i64 0,.slice none 0 0,.slice none 0 0,.int .i64 0,.int .i64 0] b7 #[.string nm,.int .i64 z,.int .i64 d,.int .i64 s,.int .i64 u,.int .i64 ev,.slice none 0 0,.slice none 0 0,.int .i64 0,.int .i64 0] 39 w.heap.size #[.slice A1 n1 c1,.slice A2 n2 c2,.slice A3 n3 c3,.slice A4 n4 c4] 33 wx))
 case first =>
  have c5:(w5.alloc (.cells #[.string nm,.int .i64 z,.int .i64 d,.int .i64 s,.int .i64 u,.int .i64 (1+v2),.slice none 0 0,.slice none 0 0,.int .i64 0,.int .i64 0] 39)).cell? ⟨b7,5,none⟩=some (.int .i64 (1+v2)):=HK.out.k3.cell rfl
  have f5:=HK.out.k3.free 5
  by_cases hu:u=0
  ·subst hu
   go_wp2_with fail
   refine (Pick_any g n c A zs [6,8,12,24,23,49] (b7+1) 6 6 3 _ (HK.out.alloc _).dice (blk_new (by simp;omega)) rfl (by decide) (by decide) (by omega)).mono ?_
   rintro e w6 ⟨p,rfl,hp,g6,D6⟩
   have hpp:1≤p∧(p≤49∧((0:Int)=0∨p≤2)):=by simp at hp;omega
   obtain ⟨p1,p2⟩:=hpp
   have HK6:=Lib.hid ((HK.out.alloc _).call g6 D6)
   have e5:w6.cell? ⟨b7,5,none⟩=some (.int .i64 (1+v2)):=HK6.out.k3.cell rfl
   have e6:=HK6.out.k3.free 5
   clear g6 D6 HK c5 f5 cu hp
   go_wp2_with fail
   go_meet
   exact ⟨p,p1,p2,Lib.hid (by have hh:=HK6.out.set3 5 (.int .i64 p);exact hh)⟩
  ·have hu2:(u==0)=false:=by simpa using hu
   go_wp2_with fail
   go_meet
   exact ⟨1+v2,by omega,by omega,HK⟩
 case rest=>
  obtain ⟨ev,ev0,ev1,HK2⟩:=hcut
  obtain ⟨w6,rfl⟩: ∃w6:World,w6=wc:=⟨_,rfl⟩
  clear HK cu
  have hw6:=HK2.out.k3.lt_
  go_wp2_with fail
  refine (Next_any g n c A zs 3 _ HK2.out.dice (by decide) (by decide)).mono ?_
  rintro e w7 ⟨i0,rfl,i1,i2,g7,D7⟩
  have HK7:=Lib.hid (HK2.out.call g7 D7)
  clear g7 D7 HK2 hw6
  go_wp2_with fail
  go_loopw [8] (fun vi wr=> ∃(i:Int) (ms:List Int) (m1:Option Addr) (m2 m3:Nat),vi= .int .i64 i∧0≤i∧1≤(ms.length:Int)+i∧(ms.length:Int)+i≤3∧Hid (∀x∈ms,Rs.isIx x n2=true)∧Hid (EK w g A n c zs (w.heap.size+1) #[.string ⟨#[]⟩,.int .i64 0,.int .i64 0,.int .i64 0,.int .i64 0,.int .i64 0,.slice none 0 0,.slice none 0 0,.int .i64 0,.int .i64 0] b7 #[.string nm,.int .i64 z,.int .i64 d,.int .i64 s,.int .i64 u,.int .i64 ev,.slice m1 m2 m3,.slice none 0 0,.int .i64 0,.int .i64 0] 39 w.heap.size #[.slice A1 n1 c1,.slice A2 n2 c2,.slice A3 n3 c3,.slice A4 n4 c4] 33 wr)∧Hid (OwnL 3 1 eInt wr (b7+1) (.slice m1 m2 m3) ms)) (fun vi _=>(intOf vi).toNat)
  case atStart=>exact ⟨1+i0,[],none,0,0,by go_num,by omega,by simp;omega,by simp;omega,Lib.hid (fun x hx=>by cases hx),HK7,Lib.hid (OwnL.nil_ _ _)⟩
  case round=>
   clear HK7
   obtain ⟨i,ms,m1,m2,m3,rfl,j1,j2,j3,HMX,HK,MM⟩:=hrel
   have hwr:=HK.out.k3.lt_
   have hm2:ms.length=m2:=by
    obtain ⟨A9,c9,e9, -⟩:=MM.out.shape
    simp only [Value.slice.injEq] at e9
    exact e9.2.1.symm
   by_cases hi:0<i
   ·have hlen:ms.length≤900000:=by omega
    have HM2:=Lib.hid hm2
    clear hm2
    go_wp2_with fail
    refine AnyZ.start 10 (A:=fun W=>Hid (EK w g A n c zs (w.heap.size+1) #[.string ⟨#[]⟩,.int .i64 0,.int .i64 0,.int .i64 0,.int .i64 0,.int .i64 0,.slice none 0 0,.slice none 0 0,.int .i64 0,.int .i64 0] b7 #[.string nm,.int .i64 z,.int .i64 d,.int .i64 s,.int .i64 u,.int .i64 ev,.slice m1 m2 m3,.slice none 0 0,.int .i64 0,.int .i64 0] 39 w.heap.size #[.slice A1 n1 c1,.slice A2 n2 c2,.slice A3 n3 c3,.slice A4 n4 c4] 33 W)∧Hid (OwnL 3 1 eInt W (b7+1) (.slice m1 m2 m3) ms)) (S:=fun W=>W.cell? ⟨b7,6,none⟩=some (.slice m1 m2 m3)∧W.cell? ⟨w.heap.size,1,none⟩=some (.slice A2 n2 c2)) (by kernel_rfl) ⟨Lib.hid (HK.out.drew),Lib.hid (OwnL.drewN MM.out 1)⟩ ⟨(HK.out.drew).k3.cell rfl,(HK.out.drew).k4.cell rfl⟩ (fun Wa hA hH=> ?_)
    obtain ⟨HK,MM⟩:=hA
    refine AnyZ.take [10] (i:=0) (oi:=⟨some 43,.fieldAddr 39 (.tmp 7) 5,0,"made.go:118",#[],none⟩) (v:= ?_) rfl (by kernel_rfl) (by kernel_rfl) (by kernel_rfl) (by kernel_rfl) (fun _ _ _ h=>h) (Or.inl ⟨by rfl, ?_⟩) hH ?_
    rotate_left
    focus (intro w hSw;(try dsimp only at hSw);go_simp;(try with_reducible rfl);done)
    try simp only [Act.put,List.setIfInBounds_toArray,List.set_cons_zero,List.set_cons_succ]
    refine AnyZ.take [10] (i:=1) (oi:=⟨some 44,.load 22 (.tmp 43),22,"made.go:118",#[⟨0,.data⟩],none⟩) (v:= ?_) rfl (by kernel_rfl) (by kernel_rfl) (by kernel_rfl) (by kernel_rfl) (fun _ _ _ h=>h) (Or.inl ⟨by rfl, ?_⟩) hH ?_
    rotate_left
    focus (intro w hSw;(try dsimp only at hSw);go_simp;(try with_reducible rfl);done)
    try simp only [Act.put,List.setIfInBounds_toArray,List.set_cons_zero,List.set_cons_succ]
    refine AnyZ.take [10] (i:=2) (oi:=⟨some 45,.move (.tmp 0),26,"made.go:118",#[],none⟩) (v:= ?_) rfl (by kernel_rfl) (by kernel_rfl) (by kernel_rfl) (by kernel_rfl) (fun _ _ _ h=>h) (Or.inl ⟨by rfl, ?_⟩) hH ?_
    rotate_left
    focus (intro w hSw;(try dsimp only at hSw);go_simp;(try with_reducible rfl);done)
    try simp only [Act.put,List.setIfInBounds_toArray,List.set_cons_zero,List.set_cons_succ]
    refine AnyZ.take [10] (i:=3) (oi:=⟨some 46,.fieldAddr 33 (.tmp 4) 1,0,"made.go:118",#[],none⟩) (v:= ?_) rfl (by kernel_rfl) (by kernel_rfl) (by kernel_rfl) (by kernel_rfl) (fun _ _ _ h=>h) (Or.inl ⟨by rfl, ?_⟩) hH ?_
    rotate_left
    focus (intro w hSw;(try dsimp only at hSw);go_simp;(try with_reducible rfl);done)
    try simp only [Act.put,List.setIfInBounds_toArray,List.set_cons_zero,List.set_cons_succ]
    refine AnyZ.take [10] (i:=4) (oi:=⟨some 47,.load 29 (.tmp 46),29,"made.go:118",#[⟨3,.data⟩],none⟩) (v:= ?_) rfl (by kernel_rfl) (by kernel_rfl) (by kernel_rfl) (by kernel_rfl) (fun _ _ _ h=>h) (Or.inl ⟨by rfl, ?_⟩) hH ?_
    rotate_left
    focus (intro w hSw;(try dsimp only at hSw);go_simp;(try with_reducible rfl);done)
    try simp only [Act.put,List.setIfInBounds_toArray,List.set_cons_zero,List.set_cons_succ]
    refine AnyZ.take [10] (i:=5) (oi:=⟨some 48,.call {callee:= .builtin .len,args:=#[.tmp 47],argTypes:=#[29]},3,"made.go:118",#[⟨4,.data⟩],none⟩) (v:= ?_) rfl (by kernel_rfl) (by kernel_rfl) (by kernel_rfl) (by kernel_rfl) (fun _ _ _ h=>h) (Or.inl ⟨by rfl, ?_⟩) hH ?_
    rotate_left
    focus (intro w hSw;(try dsimp only at hSw);go_simp;(try with_reducible rfl);done)
    try simp only [Act.put,List.setIfInBounds_toArray,List.set_cons_zero,List.set_cons_succ]
    refine AnyZ.ready (rs:=[6]) (by kernel_rfl) (by simp) ?_
    refine AllZ.cons (o:=⟨some 49,.call {callee:= .value (.func 32),args:=#[.tmp 45,.tmp 48],argTypes:=#[26,3]},3,"made.go:118",#[⟨2,.data⟩,⟨5,.data⟩],none⟩) rfl (fun K hK=> ?_) AllZ.nil
    go_simp
    (go_at_call 32;(with_reducible refine (Next_any g n c A zs _ _ HK.out.dice (by omega) (by omega)).mono ?_);rintro e w' ⟨x,rfl,x0,x1,hg2,hD2⟩)
    go_wp2_with fail
    refine AnyZ.go hK (A:=fun W=>Hid (EK w g A n c zs (w.heap.size+1) #[.string ⟨#[]⟩,.int .i64 0,.int .i64 0,.int .i64 0,.int .i64 0,.int .i64 0,.slice none 0 0,.slice none 0 0,.int .i64 0,.int .i64 0] b7 #[.string nm,.int .i64 z,.int .i64 d,.int .i64 s,.int .i64 u,.int .i64 ev,.slice m1 m2 m3,.slice none 0 0,.int .i64 0,.int .i64 0] 39 w.heap.size #[.slice A1 n1 c1,.slice A2 n2 c2,.slice A3 n3 c3,.slice A4 n4 c4] 33 W)∧Hid (OwnL 3 1 eInt W (b7+1) (.slice m1 m2 m3) ms)) (S':=fun W=>W.cell? ⟨b7,6,none⟩=some (.slice m1 m2 m3)∧W.cell? ⟨w.heap.size,1,none⟩=some (.slice A2 n2 c2)) (fun _ h=>h) ⟨Lib.hid ((HK.out).call hg2 hD2),Lib.hid ((MM.out).grown hg2 (by omega))⟩ ⟨((HK.out).call hg2 hD2).k3.cell rfl,((HK.out).call hg2 hD2).k4.cell rfl⟩ (fun W1 hA hH2=> ?_)
    clear hK K hH HK MM
    obtain ⟨HK,MM⟩:=hA
    have hH:=hH2
    clear hH2
    clear hg2 hD2
    try simp only [Act.put,List.setIfInBounds_toArray,List.set_cons_zero,List.set_cons_succ]
    refine AnyZ.ready (rs:=[7]) (by kernel_rfl) (by simp) ?_
    refine AllZ.cons (o:=⟨some 50,.buildSlice 22 1 #[(0,.tmp 49)],22,"made.go:118",#[⟨6,.data⟩],none⟩) rfl (fun K hK=> ?_) AllZ.nil
    go_simp
    refine AnyZ.go hK (A:=fun W=>Hid (EK w g A n c zs (w.heap.size+1) #[.string ⟨#[]⟩,.int .i64 0,.int .i64 0,.int .i64 0,.int .i64 0,.int .i64 0,.slice none 0 0,.slice none 0 0,.int .i64 0,.int .i64 0] b7 #[.string nm,.int .i64 z,.int .i64 d,.int .i64 s,.int .i64 u,.int .i64 ev,.slice m1 m2 m3,.slice none 0 0,.int .i64 0,.int .i64 0] 39 w.heap.size #[.slice A1 n1 c1,.slice A2 n2 c2,.slice A3 n3 c3,.slice A4 n4 c4] 33 W)∧Hid (OwnL 3 1 eInt W (b7+1) (.slice m1 m2 m3) ms)∧Hid (BlkAt W W1.heap.size #[.int .i64 x] 3)) (S':=fun W=>W.cell? ⟨b7,6,none⟩=some (.slice m1 m2 m3)∧W.cell? ⟨w.heap.size,1,none⟩=some (.slice A2 n2 c2)) (fun _ h=>h) ⟨Lib.hid ((HK.out).below ((Below.refl _ _).alloc (Nat.le_refl _) _)),Lib.hid ((MM.out).below ((Below.refl _ _).alloc (Nat.le_refl _) _)),Lib.hid ((blk_now rfl))⟩ ⟨((HK.out).below ((Below.refl _ _).alloc (Nat.le_refl _) _)).k3.cell rfl,((HK.out).below ((Below.refl _ _).alloc (Nat.le_refl _) _)).k4.cell rfl⟩ (fun W2 hA hH2=> ?_)
    clear hK K hH HK MM
    obtain ⟨HK,MM,EB⟩:=hA
    have hH:=hH2
    clear hH2
    try simp only [Act.put,List.setIfInBounds_toArray,List.set_cons_zero,List.set_cons_succ]
    refine AnyZ.ready (rs:=[8]) (by kernel_rfl) (by simp) ?_
    refine AllZ.cons (o:=⟨some 51,.call {callee:= .builtin .append,args:=#[.tmp 44,.tmp 50],argTypes:=#[22,22]},22,"made.go:118",#[⟨1,.data⟩,⟨7,.data⟩,⟨6,.chain⟩],none⟩) rfl (fun K hK=> ?_) AllZ.nil
    have hB7:=HK.out.k3.lt_
    (refine step_append_row kInt _ (by rfl) (.tmp 44) (.tmp 50) (by rfl) (b7+1) (.slice m1 m2 m3) ms (by rfl) MM.out W1.heap.size x (by rfl) (one_new EB.out (int_vals _)) hlen hB7 ?_;intro gg cap w' hO3 hg3 hgo3 hlt3)
    rw [HM2.out] at hO3 ⊢
    have hbl:=Lib.hid ((Below.refl (b7+1) W2).grown hg3 hB7 (fun q hq=>(World.ownsRow.lt MM.out q hq).1))
    refine AnyZ.go hK (A:=fun W=>Hid (EK w g A n c zs (w.heap.size+1) #[.string ⟨#[]⟩,.int .i64 0,.int .i64 0,.int .i64 0,.int .i64 0,.int .i64 0,.slice none 0 0,.slice none 0 0,.int .i64 0,.int .i64 0] b7 #[.string nm,.int .i64 z,.int .i64 d,.int .i64 s,.int .i64 u,.int .i64 ev,.slice m1 m2 m3,.slice none 0 0,.int .i64 0,.int .i64 0] 39 w.heap.size #[.slice A1 n1 c1,.slice A2 n2 c2,.slice A3 n3 c3,.slice A4 n4 c4] 33 W)∧Hid (OwnL 3 1 eInt W (b7+1) (.slice (some ⟨gg,0,none⟩) (m2+1) cap) (ms++[x]))) (S':=fun W=>W.cell? ⟨b7,6,none⟩=some (.slice m1 m2 m3)∧W.cell? ⟨w.heap.size,1,none⟩=some (.slice A2 n2 c2)) (fun _ h=>h) ⟨Lib.hid ((HK.out).row hbl.out (by omega) (Nat.lt_succ_self _) (by omega)),Lib.hid (hO3)⟩ ⟨((HK.out).row hbl.out (by omega) (Nat.lt_succ_self _) (by omega)).k3.cell rfl,((HK.out).row hbl.out (by omega) (Nat.lt_succ_self _) (by omega)).k4.cell rfl⟩ (fun W3 hA hH2=> ?_)
    clear hK K hH HK MM EB
    obtain ⟨HK,MM⟩:=hA
    have hH:=hH2
    clear hH2
    clear hB7 hbl hO3 hg3 hgo3 hlt3
    try simp only [Act.put,List.setIfInBounds_toArray,List.set_cons_zero,List.set_cons_succ]
    refine AnyZ.take [10] (i:=9) (oi:=⟨some 52,.fieldAddr 39 (.tmp 7) 5,0,"made.go:118",#[⟨0,.phase⟩,⟨1,.phase⟩,⟨2,.phase⟩,⟨3,.phase⟩,⟨4,.phase⟩,⟨5,.phase⟩,⟨6,.phase⟩,⟨7,.phase⟩,⟨8,.phase⟩],none⟩) (v:= ?_) rfl (by kernel_rfl) (by kernel_rfl) (by kernel_rfl) (by kernel_rfl) (fun _ _ _ h=>h) (Or.inl ⟨by rfl, ?_⟩) hH ?_
    rotate_left
    focus (intro w hSw;(try dsimp only at hSw);go_simp;(try with_reducible rfl);done)
    try simp only [Act.put,List.setIfInBounds_toArray,List.set_cons_zero,List.set_cons_succ]
    refine AnyZ.last (o:=⟨none,.store 22 (.tmp 52) (.tmp 51),0,"made.go:118",#[⟨9,.data⟩,⟨8,.data⟩,⟨8,.chain⟩,⟨0,.phase⟩,⟨1,.phase⟩,⟨2,.phase⟩,⟨3,.phase⟩,⟨4,.phase⟩,⟨5,.phase⟩,⟨6,.phase⟩,⟨7,.phase⟩,⟨8,.phase⟩],none⟩) (by kernel_rfl) rfl (fun K hK=> ?_)
    have y1:W3.cell? ⟨b7,6,none⟩=some (.slice m1 m2 m3):=HK.out.k3.cell rfl
    have y2:=HK.out.k3.free 6
    go_simp
    refine hK.out _ _ ?_
    clear hK K hH
    try simp only [Act.put,List.setIfInBounds_toArray,List.set_cons_zero,List.set_cons_succ]
    refine AnyZ.done (by kernel_rfl) ?_ _
    have HF:=Lib.hid (show EK w g A n c zs (w.heap.size+1) #[.string ⟨#[]⟩,.int .i64 0,.int .i64 0,.int .i64 0,.int .i64 0,.int .i64 0,.slice none 0 0,.slice none 0 0,.int .i64 0,.int .i64 0] b7 #[.string nm,.int .i64 z,.int .i64 d,.int .i64 s,.int .i64 u,.int .i64 ev,.slice (some ⟨gg,0,none⟩) (m2+1) cap,.slice none 0 0,.int .i64 0,.int .i64 0] 39 w.heap.size #[.slice A1 n1 c1,.slice A2 n2 c2,.slice A3 n3 c3,.slice A4 n4 c4] 33 (W3.setCell ⟨b7,6,none⟩ (.slice (some ⟨gg,0,none⟩) (m2+1) cap)) from HK.out.set3 6 (.slice (some ⟨gg,0,none⟩) (m2+1) cap))
    have HO:=Lib.hid (MM.out.grown (grown_set W3 b7 6 (.slice (some ⟨gg,0,none⟩) (m2+1) cap)) (Nat.lt_succ_self _))
    have HX:=Lib.hid (show ∀y∈ms++[x],Rs.isIx y n2=true from fun y hy=>by
     rcases List.mem_append.1 hy with hy|hy
     ·exact HMX.out y hy
     ·simp at hy;subst hy;exact isIx_of x0 x1)
    clear y1 y2 HK MM
    go_wp2_with fail
    go_roundw
    case rel=>exact ⟨i-1,ms++[x],some ⟨gg,0,none⟩,m2+1,cap,by go_num,by omega,by simp;omega,by simp;omega,HX,HF,HO⟩
    case measure=>simp [intOf];omega
   ·obtain rfl:i=0:=by omega
    have hl1:1≤ms.length:=by omega
    have hl2:ms.length≤3:=by omega
    have HLM:=Lib.hid (OwnL.lins (v:=(m1,m2,m3)) MM.out (S:=fun b=>b7+1≤b) (fun q _ hq=>hq) (by omega)).1
    have HL:=Lib.hid (And.intro hl1 hl2)
    clear MM hm2 j1 j2 j3 hi hl1 hl2 i1 i2
    go_wp2_with fail
    refine (Bool_any g n c A zs 2 _ HK.out.dice (by decide) (by decide)).mono ?_
    rintro e w8 ⟨qb,rfl,g8,D8⟩
    have HK8:=Lib.hid (HK.out.call g8 D8)
    have HM8:=Lib.hid (HLM.out.mv (Mv.of_grown g8 (fun r er hS=>by cases er;have :b7+1≤g:=hS;omega) (fun _ h _=>h)))
    have hw8:=HK8.out.k3.lt_
    clear g8 D8 HK HLM hwr
    go_upto_if 54 with fail
    go_cut [] (fun wx=> ∃(q1:Option Addr) (q2 q3:Nat) (ql:Rs.Sp),Hid (Wk.Rt 0 ql∧ql.length≤3)∧Hid (EK w g A n c zs (w.heap.size+1) #[.string ⟨#[]⟩,.int .i64 0,.int .i64 0,.int .i64 0,.int .i64 0,.int .i64 0,.slice none 0 0,.slice none 0 0,.int .i64 0,.int .i64 0] b7 #[.string nm,.int .i64 z,.int .i64 d,.int .i64 s,.int .i64 u,.int .i64 ev,.slice m1 m2 m3,.slice q1 q2 q3,.int .i64 0,.int .i64 0] 39 w.heap.size #[.slice A1 n1 c1,.slice A2 n2 c2,.slice A3 n3 c3,.slice A4 n4 c4] 33 wx)∧Hid (LInS 1 eInt (fun b=>b7+1≤b) wx (m1,m2,m3) ms)∧Hid (LInS 2 ePair (fun b=>b7+1≤b) wx (q1,q2,q3) ql))
    case first =>
     cases qb
     ·go_wp2_with fail
      go_meet
      exact ⟨none,0,0,[],Lib.hid ⟨trivial,by simp⟩,HK8,HM8,Lib.hid (LInS.nil_ _ _)⟩
     ·go_wp2_with fail
      refine (Windows_any g n c A zs _ HK8.out.dice).mono ?_
      rintro e w9 ⟨v,ql,rfl,hO,hRt,hql,g9,D9⟩
      obtain ⟨q1,q3,rfl,hc,hn,hl1⟩:=hO.shape
      have HQ:=Lib.hid (OwnL.lins (v:=(q1,ql.length,q3)) hO (S:=fun b=>b7+1≤b) (fun q _ hq=>Nat.le_trans hw8 hq) (by omega)).1
      have HK9:=Lib.hid (HK8.out.call g9 D9)
      have HM9:=Lib.hid (HM8.out.mv (Mv.of_grown g9 (fun r er hS=>by cases er;have :b7+1≤g:=hS;omega) (fun _ h _=>h)))
      have HR:=Lib.hid (And.intro hRt hql)
      have p2:=HK9.out.k3.cell (i:=7) rfl
      have f2:=HK9.out.k3.free 7
      clear HK8 HM8 g9 D9 hO hRt hql hc hn hl1
      obtain ⟨q2,hq2⟩: ∃q,ql.length=q:=⟨_,rfl⟩
      rw [hq2] at HQ ⊢
      clear hq2
      go_wp2_with fail
      go_meet
      exact ⟨q1,q2,q3,ql,HR,Lib.hid (by have hh:=HK9.out.set3 7 (.slice q1 q2 q3);exact hh),Lib.hid (HM9.out.mv (Mv.set _ _ _ _ (fun hS=>by have :b7+1≤b7:=hS;omega))),Lib.hid (HQ.out.mv (Mv.set _ _ _ _ (fun hS=>by have :b7+1≤b7:=hS;omega)))⟩
    case rest=>
     obtain ⟨q1,q2,q3,ql,HR,HK9,HM9,HQ9⟩:=hcut
     obtain ⟨w9,rfl⟩: ∃w9:World,w9=wc:=⟨_,rfl⟩
     clear HK8 HM8 hw8
     go_wp2_with fail
     refine (Bool_any g n c A zs 4 _ HK9.out.dice (by decide) (by decide)).mono ?_
     rintro e wa ⟨cb,rfl,ga,Da⟩
     have HKa:=Lib.hid (HK9.out.call ga Da)
     have HMa:=Lib.hid (HM9.out.mv (Mv.of_grown ga (fun r er hS=>by cases er;have :b7+1≤g:=hS;omega) (fun _ h _=>h)))
     have HQa:=Lib.hid (HQ9.out.mv (Mv.of_grown ga (fun r er hS=>by cases er;have :b7+1≤g:=hS;omega) (fun _ h _=>h)))
     clear ga Da HK9 HM9 HQ9
     have x2:wa.cell? ⟨w.heap.size,2,none⟩=some (.slice A3 n3 c3):=HKa.out.k4.cell rfl
     cases cb
     ·clear x2
      have s0:=HKa.out.k3.cell (i:=0) rfl
      have s1:=HKa.out.k3.cell (i:=1) rfl
      have s2:=HKa.out.k3.cell (i:=2) rfl
      have s3:=HKa.out.k3.cell (i:=3) rfl
      have s4:=HKa.out.k3.cell (i:=4) rfl
      have s5:=HKa.out.k3.cell (i:=5) rfl
      have s6:=HKa.out.k3.cell (i:=6) rfl
      have s7:=HKa.out.k3.cell (i:=7) rfl
      have s8:=HKa.out.k3.cell (i:=8) rfl
      have s9:=HKa.out.k3.cell (i:=9) rfl
      have r0:=HKa.out.k2.cell (i:=0) rfl
      have r1:=HKa.out.k2.cell (i:=1) rfl
      have r2:=HKa.out.k2.cell (i:=2) rfl
      have r3:=HKa.out.k2.cell (i:=3) rfl
      have r4:=HKa.out.k2.cell (i:=4) rfl
      have r5:=HKa.out.k2.cell (i:=5) rfl
      have r6:=HKa.out.k2.cell (i:=6) rfl
      have r7:=HKa.out.k2.cell (i:=7) rfl
      have r8:=HKa.out.k2.cell (i:=8) rfl
      have r9:=HKa.out.k2.cell (i:=9) rfl
      have y0:=HKa.out.k2.free 0
      have y1:=HKa.out.k2.free 1
      have y2:=HKa.out.k2.free 2
      have y3:=HKa.out.k2.free 3
      have y4:=HKa.out.k2.free 4
      have y5:=HKa.out.k2.free 5
      have y6:=HKa.out.k2.free 6
      have y7:=HKa.out.k2.free 7
      have y8:=HKa.out.k2.free 8
      have y9:=HKa.out.k2.free 9
      have HFI:=Lib.hid (lay_fin (nm:=nm) (n1:=n1) (n2:=n2) (n3:=n3) HKa.out ⟨nm.data.toList,z,d,s,u,ev,ms,ql,0,0⟩ (m1,m2,m3) (q1,q2,q3) rfl ⟨isIx_of z0 z1,by simp only;omega,by simp only;omega,s0',s1',u0,by simp only;omega,ev0,ev1,fun e=>by have :=HL.out.1;simp only at e;rw [e] at this;simp at this,HL.out.2,HMX.out,HR.out.1,HR.out.2,.inl ⟨rfl,rfl⟩⟩ HMa.out HQa.out (by omega))
      go_wp2_with fail
      refine bodyPost_ret (v:=layV nm ⟨nm.data.toList,z,d,s,u,ev,ms,ql,0,0⟩ (m1,m2,m3) (q1,q2,q3)) (by simp [results,Tryz.results12,go_sem,r0,r1,r2,r3,r4,r5,r6,r7,r8,r9,y0,y1,y2,y3,y4,y5,y6,y7,y8,y9];rfl) rfl ?_
      exact HFI.out _ _ _ _ _ _ _ _ _ _
     ·by_cases hn3:0<n3
      ·go_wp2_with fail
       refine (Next_any g n c A zs n3 _ HKa.out.dice (by omega) (by omega)).mono ?_
       rintro e wb ⟨cal,rfl,cl0,cl1,gb,Db⟩
       have HKb:=Lib.hid (HKa.out.call gb Db)
       have HMb:=Lib.hid (HMa.out.mv (Mv.of_grown gb (fun r er hS=>by cases er;have :b7+1≤g:=hS;omega) (fun _ h _=>h)))
       have HQb:=Lib.hid (HQa.out.mv (Mv.of_grown gb (fun r er hS=>by cases er;have :b7+1≤g:=hS;omega) (fun _ h _=>h)))
       clear gb Db HKa HMa HQa x2
       go_wp2_with fail
       refine (Next_any g n c A zs 2 _ HKb.out.dice (by decide) (by decide)).mono ?_
       rintro e wd ⟨md,rfl,md0,md1,gd,Dd⟩
       have HKd:=Lib.hid (HKb.out.call gd Dd)
       have HMd:=Lib.hid (HMb.out.mv (Mv.of_grown gd (fun r er hS=>by cases er;have :b7+1≤g:=hS;omega) (fun _ h _=>h)))
       have HQd:=Lib.hid (HQb.out.mv (Mv.of_grown gd (fun r er hS=>by cases er;have :b7+1≤g:=hS;omega) (fun _ h _=>h)))
       clear gd Dd HKb HMb HQb
       obtain ⟨mode,hmode⟩: ∃m,1+md=m:=⟨_,rfl⟩
       have hmode1:mode=1∨mode=2:=by omega
       have k8:=HKd.out.k3.cell (i:=8) rfl
       have k9:=HKd.out.k3.cell (i:=9) rfl
       have h8:=HKd.out.k3.free 8
       have h9:=HKd.out.k3.free 9
       have HKe:=Lib.hid (show EK w g A n c zs (w.heap.size+1) #[.string ⟨#[]⟩,.int .i64 0,.int .i64 0,.int .i64 0,.int .i64 0,.int .i64 0,.slice none 0 0,.slice none 0 0,.int .i64 0,.int .i64 0] b7 #[.string nm,.int .i64 z,.int .i64 d,.int .i64 s,.int .i64 u,.int .i64 ev,.slice m1 m2 m3,.slice q1 q2 q3,.int .i64 cal,.int .i64 mode] 39 w.heap.size #[.slice A1 n1 c1,.slice A2 n2 c2,.slice A3 n3 c3,.slice A4 n4 c4] 33 ((wd.setCell ⟨b7,8,none⟩ (.int .i64 cal)).setCell ⟨b7,9,none⟩ (.int .i64 mode)) from (HKd.out.set3 8 (.int .i64 cal)).set3 9 (.int .i64 mode))
       have HMe:=Lib.hid (((HMd.out.mv (Mv.set wd b7 8 (.int .i64 cal) (fun hS=>by have :b7+1≤b7:=hS;omega))).mv (Mv.set _ b7 9 (.int .i64 mode) (fun hS=>by have :b7+1≤b7:=hS;omega))))
       have HQe:=Lib.hid (((HQd.out.mv (Mv.set wd b7 8 (.int .i64 cal) (fun hS=>by have :b7+1≤b7:=hS;omega))).mv (Mv.set _ b7 9 (.int .i64 mode) (fun hS=>by have :b7+1≤b7:=hS;omega))))
       have HMO:=Lib.hid hmode1
       clear hmode1 HKd HMd HQd
       have s0:=HKe.out.k3.cell (i:=0) rfl
       have s1:=HKe.out.k3.cell (i:=1) rfl
       have s2:=HKe.out.k3.cell (i:=2) rfl
       have s3:=HKe.out.k3.cell (i:=3) rfl
       have s4:=HKe.out.k3.cell (i:=4) rfl
       have s5:=HKe.out.k3.cell (i:=5) rfl
       have s6:=HKe.out.k3.cell (i:=6) rfl
       have s7:=HKe.out.k3.cell (i:=7) rfl
       have s8:=HKe.out.k3.cell (i:=8) rfl
       have s9:=HKe.out.k3.cell (i:=9) rfl
       have r0:=HKe.out.k2.cell (i:=0) rfl
       have r1:=HKe.out.k2.cell (i:=1) rfl
       have r2:=HKe.out.k2.cell (i:=2) rfl
       have r3:=HKe.out.k2.cell (i:=3) rfl
       have r4:=HKe.out.k2.cell (i:=4) rfl
       have r5:=HKe.out.k2.cell (i:=5) rfl
       have r6:=HKe.out.k2.cell (i:=6) rfl
       have r7:=HKe.out.k2.cell (i:=7) rfl
       have r8:=HKe.out.k2.cell (i:=8) rfl
       have r9:=HKe.out.k2.cell (i:=9) rfl
       have y0:=HKe.out.k2.free 0
       have y1:=HKe.out.k2.free 1
       have y2:=HKe.out.k2.free 2
       have y3:=HKe.out.k2.free 3
       have y4:=HKe.out.k2.free 4
       have y5:=HKe.out.k2.free 5
       have y6:=HKe.out.k2.free 6
       have y7:=HKe.out.k2.free 7
       have y8:=HKe.out.k2.free 8
       have y9:=HKe.out.k2.free 9
       have HFI:=Lib.hid (lay_fin (nm:=nm) (n1:=n1) (n2:=n2) (n3:=n3) HKe.out ⟨nm.data.toList,z,d,s,u,ev,ms,ql,cal,mode⟩ (m1,m2,m3) (q1,q2,q3) rfl ⟨isIx_of z0 z1,by simp only;omega,by simp only;omega,s0',s1',u0,by simp only;omega,ev0,ev1,fun e=>by have :=HL.out.1;simp only at e;rw [e] at this;simp at this,HL.out.2,HMX.out,HR.out.1,HR.out.2,.inr ⟨HMO.out,isIx_of cl0 cl1⟩⟩ HMe.out HQe.out (by omega))
       go_wp2_with fail
       refine bodyPost_ret (v:=layV nm ⟨nm.data.toList,z,d,s,u,ev,ms,ql,cal,mode⟩ (m1,m2,m3) (q1,q2,q3)) (by simp [results,Tryz.results12,go_sem,r0,r1,r2,r3,r4,r5,r6,r7,r8,r9,y0,y1,y2,y3,y4,y5,y6,y7,y8,y9];rfl) rfl ?_
       exact HFI.out _ _ _ _ _ _ _ _ _ _
      ·have hn30:n3=0:=by omega
       clear hn3
       have s0:=HKa.out.k3.cell (i:=0) rfl
       have s1:=HKa.out.k3.cell (i:=1) rfl
       have s2:=HKa.out.k3.cell (i:=2) rfl
       have s3:=HKa.out.k3.cell (i:=3) rfl
       have s4:=HKa.out.k3.cell (i:=4) rfl
       have s5:=HKa.out.k3.cell (i:=5) rfl
       have s6:=HKa.out.k3.cell (i:=6) rfl
       have s7:=HKa.out.k3.cell (i:=7) rfl
       have s8:=HKa.out.k3.cell (i:=8) rfl
       have s9:=HKa.out.k3.cell (i:=9) rfl
       have r0:=HKa.out.k2.cell (i:=0) rfl
       have r1:=HKa.out.k2.cell (i:=1) rfl
       have r2:=HKa.out.k2.cell (i:=2) rfl
       have r3:=HKa.out.k2.cell (i:=3) rfl
       have r4:=HKa.out.k2.cell (i:=4) rfl
       have r5:=HKa.out.k2.cell (i:=5) rfl
       have r6:=HKa.out.k2.cell (i:=6) rfl
       have r7:=HKa.out.k2.cell (i:=7) rfl
       have r8:=HKa.out.k2.cell (i:=8) rfl
       have r9:=HKa.out.k2.cell (i:=9) rfl
       have y0:=HKa.out.k2.free 0
       have y1:=HKa.out.k2.free 1
       have y2:=HKa.out.k2.free 2
       have y3:=HKa.out.k2.free 3
       have y4:=HKa.out.k2.free 4
       have y5:=HKa.out.k2.free 5
       have y6:=HKa.out.k2.free 6
       have y7:=HKa.out.k2.free 7
       have y8:=HKa.out.k2.free 8
       have y9:=HKa.out.k2.free 9
       have HFI:=Lib.hid (lay_fin (nm:=nm) (n1:=n1) (n2:=n2) (n3:=n3) HKa.out ⟨nm.data.toList,z,d,s,u,ev,ms,ql,0,0⟩ (m1,m2,m3) (q1,q2,q3) rfl ⟨isIx_of z0 z1,by simp only;omega,by simp only;omega,s0',s1',u0,by simp only;omega,ev0,ev1,fun e=>by have :=HL.out.1;simp only at e;rw [e] at this;simp at this,HL.out.2,HMX.out,HR.out.1,HR.out.2,.inl ⟨rfl,rfl⟩⟩ HMa.out HQa.out (by omega))
       go_wp2_with fail
       refine bodyPost_ret (v:=layV nm ⟨nm.data.toList,z,d,s,u,ev,ms,ql,0,0⟩ (m1,m2,m3) (q1,q2,q3)) (by simp [results,Tryz.results12,go_sem,r0,r1,r2,r3,r4,r5,r6,r7,r8,r9,y0,y1,y2,y3,y4,y5,y6,y7,y8,y9];rfl) rfl ?_
       exact HFI.out _ _ _ _ _ _ _ _ _ _
end Go.Proofs.YtfamcohbnoibaaaGreatDoor
