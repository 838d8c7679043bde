import Derived.Test.YtfamcohbnoibaaaGreatDoorKZci
import Derived.Test.YtfamcohbnoibaaaGreatDoorKG00
import Derived.Test.YtfamcohbnoibaaaGreatDoorShelfZ
import Derived.IntWalk
import Derived.BigRegion
import Derived.Deep.LoopGhost
set_option linter.unusedVariables false
set_option linter.unusedSimpArgs false
namespace Go.Proofs.YtfamcohbnoibaaaGreatDoor
open Go.RowKit
def RowAt (w:World) (g:Nat) (ds:Zs.L):Prop:=
 g<w.heap.size∧ ∀k,k<ds.length→w.cell? ⟨g,k*2,none⟩=some (.int .i64 (ds.getD k (0,0)).1)∧w.cell? ⟨g,k*2+1,none⟩=some (.int .i64 (ds.getD k (0,0)).2)∧w.frozen? ⟨g,k*2,none⟩=false∧w.frozen? ⟨g,k*2+1,none⟩=false
section
variable {w w':World} {g:Nat} {ds:Zs.L}
theorem RowAt.below {B:Nat} (h:RowAt w g ds) (hb:Below B w w') (hg:g<B):RowAt w' g ds:=
 ⟨Nat.lt_of_lt_of_le h.1 hb.size,fun k hk=>by
  obtain ⟨a,b,c,d⟩:=h.2 k hk
  exact ⟨(hb.cell (p:=⟨g,k*2,none⟩) hg).trans a,(hb.cell (p:=⟨g,k*2+1,none⟩) hg).trans b,(hb.frozen (p:=⟨g,k*2,none⟩) hg).trans c,(hb.frozen (p:=⟨g,k*2+1,none⟩) hg).trans d⟩⟩
theorem RowAt.alloc (h:RowAt w g ds) (o:Obj):RowAt (w.alloc o) g ds:=h.below ((Below.refl _ _).alloc (Nat.le_refl _) o) h.1
theorem RowAt.drewN (h:RowAt w g ds) (q:Nat):RowAt (w.drewN q) g ds:=h
theorem RowAt.drew (h:RowAt w g ds):RowAt w.drew g ds:=h
theorem getD_set (ds:Zs.L) (q k:Nat) (s:Int×Int) (hq:q<ds.length):(ds.set q s).getD k (0,0)=if k=q then s else ds.getD k (0,0):=by
 simp only [List.getD,List.getElem?_set]
 by_cases e:q=k
 ·subst e;simp [hq]
 ·simp [e,Ne.symm e]
theorem RowAt.set_ (h:RowAt w g ds) {q:Nat} (hq:q<ds.length) (f t:Int):RowAt ((w.setCell ⟨g,q*2,none⟩ (.int .i64 f)).setCell ⟨g,q*2+1,none⟩ (.int .i64 t)) g (ds.set q (f,t)):=by
 refine ⟨by simpa using h.1,fun k hk=> ?_⟩
 rw [List.length_set] at hk
 obtain ⟨a,b,c,d⟩:=h.2 k hk
 obtain ⟨a',b', -, -⟩:=h.2 q hq
 rw [getD_set ds q k _ hq]
 simp only [World.frozen?_setCell]
 refine ⟨?_, ?_,c,d⟩
 ·rw [World.cell?_setCell_other _ _ _ _ (by intro e;injection e with _ e;omega)]
  by_cases e:k=q
  ·subst e;rw [if_pos rfl];exact World.cell?_setCell_same _ _ _ a'
  ·rw [if_neg e,World.cell?_setCell_other _ _ _ _ (by intro e2;injection e2 with _ e2;omega)];exact a
 ·by_cases e:k=q
  ·subst e;rw [if_pos rfl]
   exact World.cell?_setCell_same _ _ _ ((World.cell?_setCell_other _ _ _ _ (by intro e;injection e with _ e;omega)).trans b')
  ·rw [if_neg e,World.cell?_setCell_other _ _ _ _ (by intro e2;injection e2 with _ e2;omega),World.cell?_setCell_other _ _ _ _ (by intro e2;injection e2 with _ e2;omega)];exact b
end
def Sor (w:World) (g:Nat) (W:World) (ds:Zs.L):Prop:=RowAt W g ds∧ ∀B,B≤g→Below B w W
theorem Sor.start {w:World} {g:Nat} {ds:Zs.L} (h:RowAt w g ds):Sor w g w ds:=⟨h,fun _ _=>Below.refl _ _⟩
theorem Sor.trans {w w1 w2:World} {g:Nat} {ds d2:Zs.L} (h:Sor w g w1 ds) (h2:Sor w1 g w2 d2):Sor w g w2 d2:=⟨h2.1,fun B hB=>(h.2 B hB).trans (h2.2 B hB)⟩
theorem Sor.grown {w w1 w2:World} {g:Nat} {ds:Zs.L} (h:Sor w g w1 ds) (h2:Below w1.heap.size w1 w2):Sor w g w2 ds:=
 ⟨h.1.below h2 h.1.1,fun B hB=>(h.2 B hB).trans (h2.mono (by have :=h.1.1;omega))⟩
theorem Sor.drew {w w1:World} {g:Nat} {ds:Zs.L} (h:Sor w g w1 ds):Sor w g w1.drew ds:=⟨h.1,fun B hB=>(h.2 B hB).drew⟩
theorem swapped {w W:World} {g:Nat} {ds:Zs.L} (h:Sor w g W ds) {i j:Nat} (hi:i<ds.length) (hj:j<ds.length) {x1 x2 y1 y2:Int} (hx:ds.getD i (0,0)=(x1,x2)) (hy:ds.getD j (0,0)=(y1,y2)):
  Sor w g ((((W.setCell ⟨g,i*2,none⟩ (.int .i64 y1)).setCell ⟨g,i*2+1,none⟩ (.int .i64 y2)).setCell ⟨g,j*2,none⟩ (.int .i64 x1)).setCell ⟨g,j*2+1,none⟩ (.int .i64 x2)) (Zs.sw ds i j):=by
 refine ⟨?_,fun B hB=>((((h.2 B hB).setCell hB _).setCell hB _).setCell hB _).setCell hB _⟩
 unfold Zs.sw
 rw [hx,hy]
 exact (h.1.set_ hi y1 y2).set_ (by rw [List.length_set];exact hj) x1 x2
set_option maxHeartbeats 4000000 in
set_option maxRecDepth 100000 in
theorem swr_any (g cap len a b n:Nat) (F:Value) (P X M Y S:Zs.L) (w:World) (hR:RowAt w g (P++(X++(M++(Y++S))))) (hl:P.length+X.length+M.length+Y.length+S.length=len) (hn:len≤100000)
  (ha:P.length=a) (hx:X.length=n) (hy:Y.length=n) (hb:a+n+M.length=b):
  Calls Tryz.prog 261 #[.slice (some ⟨g,0,none⟩) len cap,.int .i64 a,.int .i64 b,.int .i64 n,F] w fun e w'=>
   e= .returned (.tuple #[])∧Sor w g w' (P++(Y++(M++(X++S)))):=by
 have R0:=Sor.start hR
 rw [←Zs.rng_start] at R0
 have HL:=Lib.hid hl
 have HX:=Lib.hid hx
 have HY:=Lib.hid hy
 have HA:=Lib.hid ha
 have HB:=Lib.hid hb
 have hbl:b+n≤len:=by omega
 have hab:a+n≤b:=by omega
 clear hl hx hy ha hb hR
 go_enter Tryz.func261,Tryz.ntmps261
 go_wp2_with fail
 go_loopw [10] (fun i wr=> ∃k:Nat,k≤n∧i= .int .i64 k∧Sor w g wr (Zs.rng P X M Y S k)) (fun i _=>n-(intOf i).toNat)
 case atStart=>exact ⟨0,Nat.zero_le _,rfl,R0⟩
 case round=>
  clear R0
  obtain ⟨k,hk,rfl,hS⟩:=hrel
  by_cases hlt:k<n
  ·have hll:=Zs.rng_len P X M Y S k (by have :=HX.out;have :=HY.out;omega)
   have hi:a+k<(Zs.rng P X M Y S k).length:=by have :=HL.out;omega
   have hj:b+k<(Zs.rng P X M Y S k).length:=by have :=HL.out;omega
   obtain ⟨⟨x1,x2⟩,hx⟩: ∃x:Int×Int,(Zs.rng P X M Y S k).getD (a+k) (0,0)=x:=⟨_,rfl⟩
   obtain ⟨⟨y1,y2⟩,hy⟩: ∃x:Int×Int,(Zs.rng P X M Y S k).getD (b+k) (0,0)=x:=⟨_,rfl⟩
   have hst:=Zs.rng_step P X M Y S k n HX.out HY.out hlt (a+k) (b+k) (by rw [HA.out]) (by rw [HA.out, ←HB.out])
   have hsw:=fun W (h:Sor w g W (Zs.rng P X M Y S k))=>swapped h hi hj hx hy
   rw [hst] at hsw
   obtain ⟨p1,p2,p3,p4⟩:=hS.1.2 _ hi
   obtain ⟨q1,q2,q3,q4⟩:=hS.1.2 _ hj
   rw [hx] at p1 p2
   rw [hy] at q1 q2
   obtain ⟨iN,hiN⟩: ∃q,a+k=q:=⟨_,rfl⟩
   obtain ⟨jN,hjN⟩: ∃q,b+k=q:=⟨_,rfl⟩
   have hij:iN≠jN:=by omega
   have ea:((a:Int)+k).toNat=iN:=by omega
   have eb:((b:Int)+k).toNat=jN:=by omega
   have pa:(0:Int)≤(a:Int)+k:=by omega
   have pb:(0:Int)≤(b:Int)+k:=by omega
   have ba:(a:Int)+k<len:=by omega
   have bb:(b:Int)+k<len:=by omega
   have ra:IntKind.i64.wrap ((a:Int)+k)=(a:Int)+k:=by rw [IntKind.wrap_i64];omega
   have rb:IntKind.i64.wrap ((b:Int)+k)=(b:Int)+k:=by rw [IntKind.wrap_i64];omega
   rw [hiN] at p1 p2 p3 p4 hsw
   rw [hjN] at q1 q2 q3 q4 hsw
   simp only at p1 p2 q1 q2
   have HSW:=Lib.hid hsw
   have HSO:=Lib.hid hS
   clear hS hst hsw hx hy hi hj hll hiN hjN
   go_wp2_with fail
   go_big_region
   go_wp2_with fail
   go_roundw
   case rel=>exact ⟨k+1,by omega,by go_num,(HSW.out _ HSO.out).drew⟩
   case measure=>simp [intOf];omega
  ·obtain rfl:k=n:=by omega
   have hfin:=hS
   rw [Zs.rng_end _ _ _ _ _ k HX.out HY.out] at hfin
   have HF:=Lib.hid hfin
   clear hfin hS
   go_wp2_with fail
   go_end0
   exact ⟨rfl,HF.out⟩
end Go.Proofs.YtfamcohbnoibaaaGreatDoor
namespace Go.Proofs.YtfamcohbnoibaaaGreatDoor
open Go.RowKit
theorem swr_is {g cap len:Nat} {F:Value} {P X M Y S:Zs.L} {w:World} (hR:RowAt w g (P++(X++(M++(Y++S))))) (hl:P.length+X.length+M.length+Y.length+S.length=len) (hn:len≤100000)
  {a b n:Int} (hx:X.length=Y.length) (ha:a=P.length) (hnn:n=X.length) (hb:b=P.length+X.length+M.length):
  Calls Tryz.prog 261 #[.slice (some ⟨g,0,none⟩) len cap,.int .i64 a,.int .i64 b,.int .i64 n,F] w fun e w'=>
   e= .returned (.tuple #[])∧Sor w g w' (P++(Y++(M++(X++S)))):=by
 have :=swr_any g cap len P.length (P.length+X.length+M.length) X.length F P X M Y S w hR hl hn rfl rfl hx.symm rfl
 rw [ha,hb,hnn]
 simpa using this
set_option maxHeartbeats 4000000 in
set_option maxRecDepth 100000 in
theorem rot_any (g cap len a m b:Nat) (F:Value) (P A B S:Zs.L) (w:World) (hR:RowAt w g (P++(A++(B++S)))) (hl:P.length+A.length+B.length+S.length=len) (hn:len≤100000)
  (ha:P.length=a) (hm:a+A.length=m) (hb:m+B.length=b) (hA:0<A.length) (hB:0<B.length):
  Calls Tryz.prog 259 #[.slice (some ⟨g,0,none⟩) len cap,.int .i64 a,.int .i64 m,.int .i64 b,F] w fun e w'=>
   e= .returned (.tuple #[])∧Sor w g w' (P++(B++(A++S))):=by
 have R0:=Sor.start hR
 have hmi:(m:Int)-a=A.length:=by omega
 have hbj:(b:Int)-m=B.length:=by omega
 obtain ⟨i0,hi0⟩: ∃q,A.length=q:=⟨_,rfl⟩
 obtain ⟨j0,hj0⟩: ∃q,B.length=q:=⟨_,rfl⟩
 rw [hi0] at hmi hA
 rw [hj0] at hbj hB
 have hml:m≤len:=by omega
 have hma:i0≤m:=by omega
 have hbl:b≤len:=by omega
 have ham:a≤m:=by omega
 have hmb:m≤b:=by omega
 have HS0:Hid (P.length+i0=m∧m+j0+S.length=len∧A.length=i0∧B.length=j0):=Lib.hid ⟨by omega,by omega,hi0,hj0⟩
 have HMI:=Lib.hid hmi
 have HBJ:=Lib.hid hbj
 have HR0:=Lib.hid R0
 clear hl ha hm hb hR hi0 hj0 hmi hbj R0
 go_enter Tryz.func259,Tryz.ntmps259
 go_wp2_with fail
 go_loopw [10,11] (fun vi vj wr=> ∃(i j:Nat) (P' A' B' S':Zs.L),vi= .int .i64 i∧vj= .int .i64 j∧0<i∧0<j∧i≤m∧m+j≤len∧Hid (Sor w g wr (P'++(A'++(B'++S'))))∧Hid (P'.length+i=m∧m+j+S'.length=len∧A'.length=i∧B'.length=j)∧Hid (P'++(B'++(A'++S'))=P++(B++(A++S)))) (fun i j _=>(intOf i).toNat+(intOf j).toNat)
 case atStart=>exact ⟨i0,j0,P,A,B,S,by rw [HMI.out],by rw [HBJ.out],hA,hB,by omega,by have :=HS0.out;omega,HR0,HS0,Lib.hid rfl⟩
 case round=>
  clear HR0 HS0
  obtain ⟨i,j,P',A',B',S',rfl,rfl,hi,hj,him,hjl,HS,HL,HT⟩:=hrel
  have hi':(0:Int)<i:=by omega
  have hj':(0:Int)<j:=by omega
  by_cases hij:i=j
  ·subst hij
   have C:=fun W (h:RowAt W g (P'++(A'++([]++(B'++S')))))=>swr_is (g:=g) (cap:=cap) (F:=F) (M:=[]) (a:=(m:Int)-i) (b:=m) (n:=i) h (by have :=HL.out;simp;omega) hn (by have :=HL.out;omega) (by have :=HL.out;omega) (by have :=HL.out;omega) (by have :=HL.out;simp;omega)
   have C1:=C wr HS.out.1
   have HC:=Lib.hid C1
   clear C C1
   go_wp2_with fail
   refine HC.out.mono ?_
   rintro e w1 ⟨rfl,h1⟩
   have h2:=HS.out.trans h1
   rw [List.nil_append,HT.out] at h2
   have H2:=Lib.hid h2
   clear h1 h2
   go_wp2_with fail
   go_end0
   exact ⟨rfl,H2.out⟩
  ·have hne:((i:Int)==j)=false:=by simp;omega
   by_cases hgt:j<i
   ·have hgt':(j:Int)<i:=by omega
    obtain ⟨A1,A2,e1,e2,e3⟩: ∃A1 A2:Zs.L,A'=A1++A2∧A1.length=j∧A2.length=i-j:=⟨A'.take j,A'.drop j,(List.take_append_drop _ _).symm,by have :=HL.out;rw [List.length_take];omega,by have :=HL.out;rw [List.length_drop];omega⟩
    have C:=fun W (h:RowAt W g (P'++(A1++(A2++(B'++S')))))=>swr_is (g:=g) (cap:=cap) (F:=F) (M:=A2) (a:=(m:Int)-i) (b:=m) (n:=j) h (by have :=HL.out;omega) hn (by have :=HL.out;omega) (by have :=HL.out;omega) (by omega) (by have :=HL.out;omega)
    have hs:=HS.out
    rw [e1,List.append_assoc] at hs
    have C1:=C wr hs.1
    have HC:=Lib.hid C1
    have HS1:=Lib.hid hs
    have HE:Hid (A'=A1++A2∧A1.length=j∧A2.length=i-j):=Lib.hid ⟨e1,e2,e3⟩
    clear C C1 hs e1 e2 e3
    go_wp2_with fail
    refine HC.out.mono ?_
    rintro e w1 ⟨rfl,h1⟩
    have h2:=HS1.out.trans h1
    have H2:=Lib.hid h2
    clear h1 h2
    go_wp2_with fail
    go_roundw
    case rel=>exact ⟨i-j,j,P'++B',A2,A1,S',by go_num,rfl,by omega,by omega,by omega,by omega,Lib.hid (by have :=H2.out;simpa using this),Lib.hid (by have a:=HL.out;have b:=HE.out;rw [List.length_append];omega),Lib.hid (by rw [←HT.out,HE.out.1];simp)⟩
    case measure=>simp [intOf];omega
   ·have hgt':¬(j:Int)<i:=by omega
    have hlt':(i:Int)<j:=by omega
    obtain ⟨B1,B2,e1,e2,e3⟩: ∃B1 B2:Zs.L,B'=B1++B2∧B1.length=j-i∧B2.length=i:=⟨B'.take (j-i),B'.drop (j-i),(List.take_append_drop _ _).symm,by have :=HL.out;rw [List.length_take];omega,by have :=HL.out;rw [List.length_drop];omega⟩
    have C:=fun W (h:RowAt W g (P'++(A'++(B1++(B2++S')))))=>swr_is (g:=g) (cap:=cap) (F:=F) (M:=B1) (a:=(m:Int)-i) (b:=(m:Int)+j-i) (n:=i) h (by have :=HL.out;omega) hn (by have :=HL.out;omega) (by have :=HL.out;omega) (by have :=HL.out;omega) (by have :=HL.out;omega)
    have hs:=HS.out
    rw [e1,List.append_assoc] at hs
    have C1:=C wr hs.1
    have HC:=Lib.hid C1
    have HS1:=Lib.hid hs
    have HE:Hid (B'=B1++B2∧B1.length=j-i∧B2.length=i):=Lib.hid ⟨e1,e2,e3⟩
    clear C C1 hs e1 e2 e3
    go_wp2_with fail
    refine HC.out.mono ?_
    rintro e w1 ⟨rfl,h1⟩
    have h2:=HS1.out.trans h1
    have H2:=Lib.hid h2
    clear h1 h2
    go_wp2_with fail
    go_roundw
    case rel=>exact ⟨i,j-i,P',B2,B1,A'++S',rfl,by go_num,by omega,by omega,by omega,by omega,Lib.hid (by have :=H2.out;simpa using this),Lib.hid (by have a:=HL.out;have b:=HE.out;rw [List.length_append];omega),Lib.hid (by rw [←HT.out,HE.out.1];simp)⟩
    case measure=>simp [intOf];omega
end Go.Proofs.YtfamcohbnoibaaaGreatDoor
