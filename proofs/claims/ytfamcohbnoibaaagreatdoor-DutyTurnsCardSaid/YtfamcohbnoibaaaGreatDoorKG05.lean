import Derived.Test.YtfamcohbnoibaaaGreatDoorKG04
import Derived.Shelf.SlSortCmp.QuietGrown
import Derived.Deep.DeepCutAuto
import Derived.Deep.RegionHeld3
set_option linter.unusedVariables false
set_option linter.unusedSimpArgs false
namespace Go.Proofs.YtfamcohbnoibaaaGreatDoor
open Go.RowKit
open Go.Shelf Go.Lib Go.Sort in
set_option maxHeartbeats 1000000 in
theorem closure_any (x y:Int×Int) (W:World):Calls Tryz.prog 177 #[.agg #[.int .i64 x.1,.int .i64 x.2],.agg #[.int .i64 y.1,.int .i64 y.2]] W fun e w'=>e= .returned (.int .i64 (Lib.compareInt x.1 y.1))∧ ∃q os',w'=grow (W.drewN q) os':=by
 have hcon:=fun W'=>AnyG.cmp_Compare_int Tryz.cmpInt x.1 y.1 W'
 change ∀W',Calls Tryz.prog 128 _ _ _ at hcon
 generalize Lib.compareInt x.1 y.1=r at hcon ⊢
 go_enter Tryz.func177,Tryz.ntmps177
 go_wp2_with (go_at_call 128;refine (hcon _).mono ?_;rintro e w' ⟨rfl,rfl⟩)
 go_ret
 exact ⟨rfl,0,_,by rw [alloc_eq_grow,alloc_eq_grow,grow_grow];rfl⟩
open Go.Shelf Go.Lib Go.Sort in
theorem lt_cmp (x y:Int):(Lib.compareInt x y<0)=(x<y):=by
 unfold Lib.compareInt
 by_cases h1:x<y
 ·simp [h1]
 ·by_cases h2:y<x<;>simp [h1,h2]
def CmpIs (x y:Int×Int) (r:Int):Prop:= ∀W:World,Calls Tryz.prog 177 #[.agg #[.int .i64 x.1,.int .i64 x.2],.agg #[.int .i64 y.1,.int .i64 y.2]] W fun e w'=>e= .returned (.int .i64 r)∧ ∃q os',w'=Sort.grow (W.drewN q) os'
theorem cmp_ex (x y:Int×Int): ∃r,CmpIs x y r∧(r<0↔x.1<y.1):=⟨_,closure_any x y,by rw [lt_cmp]⟩
theorem Sor.grow_ {w W:World} {g:Nat} {ds:Zs.L} (h:Sor w g W ds) (q:Nat) (os:Array Obj):Sor w g (Sort.grow (W.drewN q) os) ds:=by
 refine h.grown ⟨rfl,rfl,rfl, ?_,fun k hk=> ?_⟩
 ·simp [Sort.grow]
 ·show (W.heap++os)[k]? =W.heap[k]?
  rw [Array.getElem?_append_left hk]
theorem RowAt.cells_ {W:World} {g:Nat} {ds:Zs.L} (h:RowAt W g ds) {i:Nat} (hi:i<ds.length) {x1 x2:Int} (hx:ds.getD i (0,0)=(x1,x2)):
  (∀n os,(Sort.grow (W.drewN n) os).cell? ⟨g,i*2,none⟩=some (.int .i64 x1))∧(∀n os,(Sort.grow (W.drewN n) os).cell? ⟨g,i*2+1,none⟩=some (.int .i64 x2)):=by
 have :=h.2 i hi
 rw [hx] at this
 exact ⟨cell_grown h.1 this.1,cell_grown h.1 this.2.1⟩
theorem mixed_: Tryz.prog.follows .mixedOrders=true:=by kernel_rfl
set_option maxHeartbeats 8000000 in
set_option maxRecDepth 100000 in
theorem sml_any (g cap len a m b:Nat) (P B S:Zs.L) (x:Int×Int) (w:World) (hR:RowAt w g (P++([x]++(B++S)))) (hl:P.length+1+B.length+S.length=len) (hn:len≤100000)
  (ha:P.length=a) (hm:a+1=m) (hb:m+B.length=b) (hA:Zs.Asc B):
  Calls Tryz.prog 248 #[.slice (some ⟨g,0,none⟩) len cap,.int .i64 a,.int .i64 m,.int .i64 b,.func (.func 177) #[] #[]] w fun e w'=>
   e= .returned (.tuple #[])∧Sor w g w' (P++(Zs.srt ([x]++B)++S)):=by
 have mixed:=mixed_
 have R0:=Sor.start hR
 obtain ⟨nb,hnb⟩: ∃q,B.length=q:=⟨_,rfl⟩
 obtain ⟨x1,x2⟩:=x
 have hma:(m:Int)-a=1:=by omega
 have hml:m+nb≤len:=by omega
 have hbm:(b:Int)=m+nb:=by omega
 have ham:a+1=m:=hm
 have gx:(P++([(x1,x2)]++(B++S))).getD a (0,0)=(x1,x2):=by
  have :=Zs.get_A P [(x1,x2)] (B++S) a 0 (by omega) (by simp)
  exact this
 have gB: ∀t,t<nb→(P++([(x1,x2)]++(B++S))).getD (m+t) (0,0)=B.getD t (0,0):=fun t ht=>Zs.get_B P [(x1,x2)] B S _ t (by simp;omega) (by omega)
 have HG:=Lib.hid gB
 have HGX:=Lib.hid gx
 have HL:Hid ((P++([(x1,x2)]++(B++S))).length=len):=Lib.hid (by simp;omega)
 have HNB:=Lib.hid hnb
 have HAS:=Lib.hid hA
 have HA:=Lib.hid ha
 have HB:=Lib.hid hb
 have HBM:=Lib.hid hbm
 have HAM:=Lib.hid ham
 have HMA:=Lib.hid hma
 have HR0:=Lib.hid R0
 have hbl:b≤len:=by omega
 have e1:((m:Int)-a==1)=true:=by simp;omega
 clear hR R0 hl ha hm hb hA hnb hbm gx gB hma
 go_enter Tryz.func248,Tryz.ntmps248
 go_wp2_with fail
 go_loopw [10,11] (fun vi vj wr=> ∃i j:Nat,vi= .int .i64 (m+i)∧vj= .int .i64 (m+j)∧i≤j∧j≤nb∧Hid (∀t,t<i→(B.getD t (0,0)).1<x1)∧Hid (∀t,j≤t→t<nb→x1≤(B.getD t (0,0)).1)∧Hid (Sor w g wr (P++([(x1,x2)]++(B++S))))) (fun i j _=>(intOf j).toNat-(intOf i).toNat)
 case atStart=>exact ⟨0,nb,by simp,by rw [HBM.out],Nat.zero_le _,Nat.le_refl _,Lib.hid (fun t ht=>absurd ht (by omega)),Lib.hid (fun t h1 h2=>absurd h2 (by omega)),HR0⟩
 case round=>
  clear HR0
  obtain ⟨i,j,rfl,rfl,hij,hj,HI,HJ,HS⟩:=hrel
  by_cases hlt:i<j
  ·obtain ⟨h,hh⟩: ∃h,h=(i+j)/2:=⟨_,rfl⟩
   obtain ⟨q,hq⟩: ∃q,q=m+h:=⟨_,rfl⟩
   have hqi:((m:Int)+i+(m+j))/2=(q:Int):=by omega
   have hhn:h<nb:=by omega
   have hih:i≤h:=by omega
   have hhj:h<j:=by omega
   obtain ⟨⟨y1,y2⟩,hy⟩: ∃y:Int×Int,B.getD h (0,0)=y:=⟨_,rfl⟩
   have gy:=HG.out h hhn
   rw [←hq,hy] at gy
   obtain ⟨c0,c1⟩:=HS.out.1.cells_ (i:=q) (by rw [HL.out];omega) gy
   obtain ⟨d0,d1⟩:=HS.out.1.cells_ (i:=a) (by rw [HL.out];omega) HGX.out
   obtain ⟨r,hr,hrl⟩:=cmp_ex (y1,y2) (x1,x2)
   simp only at hrl
   have HC:=Lib.hid hr
   have q1:(q:Int)<len:=by omega
   have q2:(a:Int)<len:=by omega
   have HY:=Lib.hid hy
   have HQ:=Lib.hid hq
   clear hy hq hr gy hh
   by_cases hlx:y1<x1
   ·have hr0:r<0:=hrl.2 hlx
    have hrd:decide (r<0)=true:=decide_eq_true hr0
    clear hrl
    go_wp2_with fail
    go_quiet_grown ((go_at_call 177;refine Calls.grown_of (HC.out _)))
    have HS2:=Lib.hid (HS.out.grow_ nq osq)
    generalize Sort.grow (wr.drewN nq) osq=w2 at HS2 ⊢
    clear c0 c1 d0 d1 hrd hr0
    go_wp2_with fail
    go_roundw
    case rel=>exact ⟨h+1,j,by rw [HQ.out];go_num,rfl,by omega,hj,Lib.hid (fun t ht=>by
     have :=Zs.asc_get HAS.out (i:=t) (j:=h) (by omega) (by rw [HNB.out];exact hhn)
     rw [HY.out] at this;simp only at this;omega),HJ,HS2⟩
    case measure=>have :=HQ.out;simp [intOf];omega
   ·have hr0:¬r<0:=fun h=>hlx (hrl.1 h)
    have hrd:decide (r<0)=false:=decide_eq_false hr0
    clear hrl
    go_wp2_with fail
    go_quiet_grown ((go_at_call 177;refine Calls.grown_of (HC.out _)))
    have HS2:=Lib.hid (HS.out.grow_ nq osq)
    generalize Sort.grow (wr.drewN nq) osq=w2 at HS2 ⊢
    clear c0 c1 d0 d1 hrd hr0
    go_wp2_with fail
    go_roundw
    case rel=>exact ⟨i,h,rfl,by rw [HQ.out];go_num,by omega,by omega,HI,Lib.hid (fun t h1 h2=>by
     have :=Zs.asc_get HAS.out (i:=h) (j:=t) h1 (by rw [HNB.out];exact h2)
     rw [HY.out] at this;simp only at this;omega),HS2⟩
    case measure=>have :=HQ.out;simp [intOf];omega
  ·obtain rfl:i=j:=by omega
   have HS1:Hid (Sor w g wr (Zs.mvu P (x1,x2) B S 0)):=HS
   clear HS
   go_wp2_with fail
   go_loopw [13] (fun vk wx=> ∃t:Nat,vk= .int .i64 (a+t)∧t≤i∧Hid (Sor w g wx (Zs.mvu P (x1,x2) B S t))) (fun k _=>a+i-(intOf k).toNat)
   case atStart=>exact ⟨0,by simp,Nat.zero_le _,HS1⟩
   case round=>
    clear HS1
    obtain ⟨t,rfl,hti,HS⟩:=hrel
    by_cases hlt2:t<i
    ·have hll:=Zs.mvu_len P (x1,x2) B S t
     have hlen:P.length+1+B.length+S.length=len:=by have :=HL.out;simp at this;omega
     rw [hlen] at hll
     have hi:a+t<(Zs.mvu P (x1,x2) B S t).length:=by omega
     have hj:a+t+1<(Zs.mvu P (x1,x2) B S t).length:=by omega
     obtain ⟨⟨u1,u2⟩,hx⟩: ∃x:Int×Int,(Zs.mvu P (x1,x2) B S t).getD (a+t) (0,0)=x:=⟨_,rfl⟩
     obtain ⟨⟨y1,y2⟩,hy⟩: ∃x:Int×Int,(Zs.mvu P (x1,x2) B S t).getD (a+t+1) (0,0)=x:=⟨_,rfl⟩
     have hst:=Zs.mvu_step P (x1,x2) B S t (by rw [HNB.out];omega) (a+t) (a+t+1) (by rw [HA.out]) (by rw [HA.out])
     have hsw:=fun W (h:Sor w g W (Zs.mvu P (x1,x2) B S t))=>swapped h hi hj hx hy
     rw [hst] at hsw
     obtain ⟨p1,p2,p3,p4⟩:=HS.out.1.2 _ hi
     obtain ⟨q1,q2,q3,q4⟩:=HS.out.1.2 _ hj
     rw [hx] at p1 p2
     rw [hy] at q1 q2
     obtain ⟨iN,hiN⟩: ∃q,a+t=q:=⟨_,rfl⟩
     obtain ⟨jN,hjN⟩: ∃q,a+t+1=q:=⟨_,rfl⟩
     have hij2:iN≠jN:=by omega
     have ea:((a:Int)+t).toNat=iN:=by omega
     have eb:((a:Int)+t+1).toNat=jN:=by omega
     have pa:(0:Int)≤(a:Int)+t:=by omega
     have pb:(0:Int)≤(a:Int)+t+1:=by omega
     have ba:(a:Int)+t<len:=by omega
     have bb:(a:Int)+t+1<len:=by omega
     have ra:IntKind.i64.wrap ((a:Int)+t)=(a:Int)+t:=by rw [IntKind.wrap_i64];omega
     have rb:IntKind.i64.wrap ((a:Int)+t+1)=(a:Int)+t+1:=by rw [IntKind.wrap_i64];omega
     rw [hjN] at q1 q2 q3 q4 hsw
     rw [hiN] at p1 p2 p3 p4 hsw
     simp only at p1 p2 q1 q2
     have HSW:=Lib.hid hsw
     clear hst hsw hx hy hi hj hll hlen hiN hjN
     go_wp2_with fail
     go_big_region
     go_wp2_with fail
     go_roundw
     case rel=>exact ⟨t+1,by go_num,by omega,Lib.hid (HSW.out _ HS.out).drew⟩
     case measure=>simp [intOf];omega
    ·obtain rfl:t=i:=by omega
     have hasc:Zs.Asc (B.take t++B.drop t):=by rw [List.take_append_drop];exact HAS.out
     have hfin:=Zs.ins_left (x:=(x1,x2)) hasc (Zs.all_take (by have :=HNB.out;omega) HI.out) (Zs.all_drop fun u h1 h2=>HJ.out u h1 (by have :=HNB.out;omega))
     rw [List.take_append_drop] at hfin
     have hS:=HS.out
     unfold Zs.mvu at hS
     have e:B.take t++(x1,x2)::(B.drop t++S)=Zs.srt ([(x1,x2)]++B)++S:=by rw [←hfin];simp
     rw [e] at hS
     have HF:=Lib.hid hS
     clear hfin hasc hS e
     have hz:decide ((a:Int)+t<m+t-1)=false:=by simp;omega
     have hz2:¬((a:Int)+t<m+t-1):=by omega
     go_wp2_with fail
     refine bodyPost_ret (results_none rfl _ _ _) rfl ?_
     exact ⟨rfl,HF.out⟩
open Go.RowKit
set_option maxHeartbeats 8000000 in
set_option maxRecDepth 100000 in
theorem smr_any (g cap len a m b:Nat) (P A S:Zs.L) (y:Int×Int) (w:World) (hR:RowAt w g (P++(A++([y]++S)))) (hl:P.length+A.length+1+S.length=len) (hn:len≤100000)
  (ha:P.length=a) (hm:a+A.length=m) (hb:m+1=b) (hA:Zs.Asc A) (hA2:2≤A.length):
  Calls Tryz.prog 248 #[.slice (some ⟨g,0,none⟩) len cap,.int .i64 a,.int .i64 m,.int .i64 b,.func (.func 177) #[] #[]] w fun e w'=>
   e= .returned (.tuple #[])∧Sor w g w' (P++(Zs.srt (A++[y])++S)):=by
 have mixed:=mixed_
 have R0:=Sor.start hR
 obtain ⟨na,hna⟩: ∃q,A.length=q:=⟨_,rfl⟩
 obtain ⟨x1,x2⟩:=y
 have hml:m+1≤len:=by omega
 have hmn:(m:Int)=a+na:=by omega
 have gx:(P++(A++([(x1,x2)]++S))).getD m (0,0)=(x1,x2):=by
  have :=Zs.get_B P A [(x1,x2)] S m 0 (by omega) (by simp)
  exact this
 have gA: ∀t,t<na→(P++(A++([(x1,x2)]++S))).getD (a+t) (0,0)=A.getD t (0,0):=fun t ht=>Zs.get_A P A _ _ t (by omega) (by omega)
 have e1:((m:Int)-a==1)=false:=by simp;omega
 have e2:((b:Int)-m==1)=true:=by simp;omega
 have HG:=Lib.hid gA
 have HGX:=Lib.hid gx
 have HL:Hid ((P++(A++([(x1,x2)]++S))).length=len):=Lib.hid (by simp;omega)
 have HNA:=Lib.hid hna
 have HAS:=Lib.hid hA
 have HA:=Lib.hid ha
 have HMN:=Lib.hid hmn
 have HR0:=Lib.hid R0
 have hbl:b≤len:=by omega
 have hmle:a+na<len:=by omega
 clear hR R0 hl ha hm hA hA2 hna hmn gx gA
 go_enter Tryz.func248,Tryz.ntmps248
 go_wp2_with fail
 go_loopw [14,15] (fun vi vj wr=> ∃i j:Nat,vi= .int .i64 (a+i)∧vj= .int .i64 (a+j)∧i≤j∧j≤na∧Hid (∀t,t<i→(A.getD t (0,0)).1≤x1)∧Hid (∀t,j≤t→t<na→x1<(A.getD t (0,0)).1)∧Hid (Sor w g wr (P++(A++([(x1,x2)]++S))))) (fun i j _=>(intOf j).toNat-(intOf i).toNat)
 case atStart=>exact ⟨0,na,by simp,by rw [HMN.out],Nat.zero_le _,Nat.le_refl _,Lib.hid (fun t ht=>absurd ht (by omega)),Lib.hid (fun t h1 h2=>absurd h2 (by omega)),HR0⟩
 case round=>
  clear HR0
  obtain ⟨i,j,rfl,rfl,hij,hj,HI,HJ,HS⟩:=hrel
  by_cases hlt:i<j
  ·obtain ⟨h,hh⟩: ∃h,h=(i+j)/2:=⟨_,rfl⟩
   obtain ⟨q,hq⟩: ∃q,q=a+h:=⟨_,rfl⟩
   have hqi:((a:Int)+i+(a+j))/2=(q:Int):=by omega
   have hhn:h<na:=by omega
   have hih:i≤h:=by omega
   have hhj:h<j:=by omega
   obtain ⟨⟨y1,y2⟩,hy⟩: ∃y:Int×Int,A.getD h (0,0)=y:=⟨_,rfl⟩
   have gy:=HG.out h hhn
   rw [←hq,hy] at gy
   obtain ⟨c0,c1⟩:=HS.out.1.cells_ (i:=q) (by rw [HL.out];omega) gy
   obtain ⟨d0,d1⟩:=HS.out.1.cells_ (i:=m) (by rw [HL.out];omega) HGX.out
   obtain ⟨r,hr,hrl⟩:=cmp_ex (x1,x2) (y1,y2)
   simp only at hrl
   have HC:=Lib.hid hr
   have q1:(q:Int)<len:=by omega
   have q2:(m:Int)<len:=by omega
   have HY:=Lib.hid hy
   have HQ:=Lib.hid hq
   clear hy hq hr gy hh
   by_cases hlx:x1<y1
   ·have hr0:r<0:=hrl.2 hlx
    have hrd:decide (r<0)=true:=decide_eq_true hr0
    clear hrl
    go_wp2_with fail
    go_quiet_grown ((go_at_call 177;refine Calls.grown_of (HC.out _)))
    have HS2:=Lib.hid (HS.out.grow_ nq osq)
    generalize Sort.grow (wr.drewN nq) osq=w2 at HS2 ⊢
    clear c0 c1 d0 d1 hrd hr0
    go_wp2_with fail
    go_roundw
    case rel=>exact ⟨i,h,rfl,by rw [HQ.out];go_num,by omega,by omega,HI,Lib.hid (fun t h1 h2=>by
     have :=Zs.asc_get HAS.out (i:=h) (j:=t) h1 (by rw [HNA.out];exact h2)
     rw [HY.out] at this;simp only at this;omega),HS2⟩
    case measure=>have :=HQ.out;simp [intOf];omega
   ·have hr0:¬r<0:=fun h=>hlx (hrl.1 h)
    have hrd:decide (r<0)=false:=decide_eq_false hr0
    clear hrl
    go_wp2_with fail
    go_quiet_grown ((go_at_call 177;refine Calls.grown_of (HC.out _)))
    have HS2:=Lib.hid (HS.out.grow_ nq osq)
    generalize Sort.grow (wr.drewN nq) osq=w2 at HS2 ⊢
    clear c0 c1 d0 d1 hrd hr0
    go_wp2_with fail
    go_roundw
    case rel=>exact ⟨h+1,j,by rw [HQ.out];go_num,rfl,by omega,hj,Lib.hid (fun t ht=>by
     have :=Zs.asc_get HAS.out (i:=t) (j:=h) (by omega) (by rw [HNA.out];exact hhn)
     rw [HY.out] at this;simp only at this;omega),HJ,HS2⟩
    case measure=>have :=HQ.out;simp [intOf];omega
  ·obtain rfl:i=j:=by omega
   have HS1:Hid (Sor w g wr (Zs.mvu P (x1,x2) A S na)):=Lib.hid (by
    have :=HS.out
    unfold Zs.mvu
    rw [List.take_of_length_le (by have :=HNA.out;omega),List.drop_of_length_le (by have :=HNA.out;omega)]
    exact this)
   clear HS
   go_wp2_with fail
   go_loopw [17] (fun vk wx=> ∃t:Nat,vk= .int .i64 (a+t)∧i≤t∧t≤na∧Hid (Sor w g wx (Zs.mvu P (x1,x2) A S t))) (fun k _=>(intOf k).toNat)
   case atStart=>exact ⟨na,by rw [HMN.out],hj,Nat.le_refl _,HS1⟩
   case round=>
    clear HS1
    obtain ⟨t,rfl,hti,htn,HS⟩:=hrel
    by_cases hlt2:i<t
    ·have hll:=Zs.mvu_len P (x1,x2) A S t
     have hlen:P.length+1+A.length+S.length=len:=by have :=HL.out;simp at this;omega
     rw [hlen] at hll
     have hi:a+t<(Zs.mvu P (x1,x2) A S t).length:=by omega
     have hj:a+t-1<(Zs.mvu P (x1,x2) A S t).length:=by omega
     obtain ⟨⟨u1,u2⟩,hx⟩: ∃x:Int×Int,(Zs.mvu P (x1,x2) A S t).getD (a+t) (0,0)=x:=⟨_,rfl⟩
     obtain ⟨⟨y1,y2⟩,hy⟩: ∃x:Int×Int,(Zs.mvu P (x1,x2) A S t).getD (a+t-1) (0,0)=x:=⟨_,rfl⟩
     have hst:Zs.sw (Zs.mvu P (x1,x2) A S t) (a+t) (a+t-1)=Zs.mvu P (x1,x2) A S (t-1):=by
      obtain ⟨k,rfl⟩: ∃k,t=k+1:=⟨t-1,by omega⟩
      exact Zs.mvu_step' P (x1,x2) A S k (by rw [HNA.out];omega) _ _ (by rw [HA.out];omega) (by rw [HA.out];omega)
     have hsw:=fun W (h:Sor w g W (Zs.mvu P (x1,x2) A S t))=>swapped h hi hj hx hy
     rw [hst] at hsw
     obtain ⟨p1,p2,p3,p4⟩:=HS.out.1.2 _ hi
     obtain ⟨q1,q2,q3,q4⟩:=HS.out.1.2 _ hj
     rw [hx] at p1 p2
     rw [hy] at q1 q2
     obtain ⟨iN,hiN⟩: ∃q,a+t=q:=⟨_,rfl⟩
     obtain ⟨jN,hjN⟩: ∃q,a+t-1=q:=⟨_,rfl⟩
     have hij2:iN≠jN:=by omega
     have ea:((a:Int)+t).toNat=iN:=by omega
     have eb:((a:Int)+t-1).toNat=jN:=by omega
     have pa:(0:Int)≤(a:Int)+t:=by omega
     have pb:(0:Int)≤(a:Int)+t-1:=by omega
     have pb1:(1:Int)≤(a:Int)+t:=by omega
     have ba:(a:Int)+t<len:=by omega
     have bb:(a:Int)+t-1<len:=by omega
     have ra:IntKind.i64.wrap ((a:Int)+t)=(a:Int)+t:=by rw [IntKind.wrap_i64];omega
     have rb:IntKind.i64.wrap ((a:Int)+t-1)=(a:Int)+t-1:=by rw [IntKind.wrap_i64];omega
     rw [hjN] at q1 q2 q3 q4 hsw
     rw [hiN] at p1 p2 p3 p4 hsw
     simp only at p1 p2 q1 q2
     have HSW:=Lib.hid hsw
     clear hst hsw hx hy hi hj hll hlen hiN hjN
     go_wp2_with fail
     go_big_region
     go_wp2_with fail
     go_roundw
     case rel=>exact ⟨t-1,by go_num,by omega,by omega,Lib.hid (HSW.out _ HS.out).drew⟩
     case measure=>simp [intOf];omega
    ·obtain rfl:t=i:=by omega
     have hasc:Zs.Asc (A.take t++A.drop t):=by rw [List.take_append_drop];exact HAS.out
     have hfin:=Zs.ins_right (y:=(x1,x2)) hasc (Zs.all_take (by have :=HNA.out;omega) HI.out) (Zs.all_drop fun u h1 h2=>HJ.out u h1 (by have :=HNA.out;omega))
     rw [List.take_append_drop] at hfin
     have hS:=HS.out
     unfold Zs.mvu at hS
     have e:A.take t++(x1,x2)::(A.drop t++S)=Zs.srt (A++[(x1,x2)])++S:=by rw [←hfin];simp
     rw [e] at hS
     have HF:=Lib.hid hS
     clear hfin hasc hS e
     go_wp2_with fail
     refine bodyPost_ret (results_none rfl _ _ _) rfl ?_
     exact ⟨rfl,HF.out⟩
end Go.Proofs.YtfamcohbnoibaaaGreatDoor
