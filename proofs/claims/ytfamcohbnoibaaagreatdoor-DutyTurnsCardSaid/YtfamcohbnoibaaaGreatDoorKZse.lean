import Derived.Test.YtfamcohbnoibaaaGreatDoorKG05
set_option linter.unusedVariables false
set_option linter.unusedSimpArgs false
namespace Go.Proofs.YtfamcohbnoibaaaGreatDoor
open Go.RowKit
def Tr (g len cap:Nat) (f:FuncId) (a m b:Int) (l l':Zs.L):Prop:=
 ∀W,RowAt W g l→Calls Tryz.prog f #[.slice (some ⟨g,0,none⟩) len cap,.int .i64 a,.int .i64 m,.int .i64 b,.func (.func 177) #[] #[]] W fun e w'=>e= .returned (.tuple #[])∧Sor W g w' l'
def Cut (n s0 r0 s r:Nat) (l:Zs.L):Prop:=s0≤s∧s≤r∧r≤r0∧(∀c,s0≤c→c<s→(l.getD c (0,0)).1≤(l.getD (n-1-c) (0,0)).1)∧(∀c,r≤c→c<r0→(l.getD (n-1-c) (0,0)).1<(l.getD c (0,0)).1)
set_option maxHeartbeats 16000000 in
set_option maxRecDepth 100000 in
theorem smc_any (g cap len a m b BOUND:Nat) (P A B S:Zs.L) (w:World) (hR:RowAt w g (P++(A++(B++S)))) (hl:P.length+A.length+B.length+S.length=len) (hn:len≤100000)
  (ha:P.length=a) (hm:a+A.length=m) (hb:m+B.length=b) (hA:Zs.Asc A) (hB:Zs.Asc B) (hA2:2≤A.length) (hB2:2≤B.length)
  (ih: ∀(a m b:Nat) (P A B S:Zs.L),P.length+A.length+B.length+S.length=len→P.length=a→a+A.length=m→m+B.length=b→Zs.Asc A→Zs.Asc B→0<A.length→0<B.length→A.length+B.length<BOUND→Tr g len cap 248 a m b (P++(A++(B++S))) (P++(Zs.srt (A++B)++S))) (hbound:A.length+B.length≤BOUND):
  Calls Tryz.prog 248 #[.slice (some ⟨g,0,none⟩) len cap,.int .i64 a,.int .i64 m,.int .i64 b,.func (.func 177) #[] #[]] w fun e w'=>
   e= .returned (.tuple #[])∧Sor w g w' (P++(Zs.srt (A++B)++S)):=by
 have mixed:=mixed_
 have R0:=Sor.start hR
 obtain ⟨mid,hmid⟩: ∃q,q=(a+b)/2:=⟨_,rfl⟩
 obtain ⟨n,hnn⟩: ∃q,q=mid+m:=⟨_,rfl⟩
 have hmi:((a:Int)+b)/2=(mid:Int):=by omega
 have hni:(mid:Int)+m=(n:Int):=by omega
 have e1:((m:Int)-a==1)=false:=by simp;omega
 have e2:((b:Int)-m==1)=false:=by simp;omega
 have hbl:b≤len:=by omega
 have ham:a<m:=by omega
 have hmb:m<b:=by omega
 have hamid:a<mid:=by omega
 have hmidb:mid<b:=by omega
 have hnb:n<b+b:=by omega
 obtain ⟨l,hll⟩: ∃l,P++(A++(B++S))=l:=⟨_,rfl⟩
 obtain ⟨s0,r0,hsr⟩: ∃s0 r0,(mid<m∧s0=n-b∧r0=mid)∨(m≤mid∧s0=a∧r0=m):=by
  rcases Nat.lt_or_ge mid m with h|h
  ·exact ⟨_,_,.inl ⟨h,rfl,rfl⟩⟩
  ·exact ⟨_,_,.inr ⟨h,rfl,rfl⟩⟩
 have hlen:l.length=len:=by rw [←hll];simp;omega
 have hmono: ∀c c',s0≤c→c≤c'→c'<r0→(l.getD c (0,0)).1≤(l.getD c' (0,0)).1∧(l.getD (n-1-c') (0,0)).1≤(l.getD (n-1-c) (0,0)).1:=fun c c' h1 h2 h3=>by
  rw [←hll];exact Zs.cut_mono ha hm hb hA hB hmid hnn hsr h1 h2 h3
 have hfin: ∀s,Cut n s0 r0 s s l→ ∃A1 A2 B1 B2,A=A1++A2∧B=B1++B2∧a+A1.length=s∧m+B1.length=n-s∧s≤m∧m≤n-s∧n-s≤b∧(∀x∈A2, ∀y∈B1,y.1<x.1)∧(∀x∈A1, ∀y∈B2,x.1≤y.1):=fun s ⟨h1,_,h2,h3,h4⟩=>by
  rw [←hll] at h3 h4
  exact Zs.cutp ha hm hb hA hB hmid hnn hsr h1 h2 h3 h4
 have hbd:s0≤r0∧r0≤m∧a≤s0∧n≤s0+b∧r0≤mid∧r0<n:=by omega
 rw [hll] at R0
 have HR0:=Lib.hid R0
 have HLL:=Lib.hid hll
 have HLEN:=Lib.hid hlen
 have HMONO:=Lib.hid hmono
 have HFIN:=Lib.hid hfin
 have HIH:=Lib.hid ih
 have HAB:Hid (P.length=a∧a+A.length=m∧m+B.length=b∧Zs.Asc A∧Zs.Asc B∧mid=(a+b)/2∧n=mid+m∧A.length+B.length≤BOUND∧P.length+A.length+B.length+S.length=len):=Lib.hid ⟨ha,hm,hb,hA,hB,hmid,hnn,hbound,hl⟩
 have HNN:=Lib.hid hnn
 obtain ⟨bd1,bd2,bd3,bd4,bd5,bd6⟩:=hbd
 have HSR:=Lib.hid hsr
 have h0b:(0:Int)≤(a:Int)+b:=by omega
 clear hR R0 hl ha hm hb hA hB hA2 hB2 ih hbound hmid hnn hll hlen hmono hfin hsr
 go_enter Tryz.func248,Tryz.ntmps248
 go_upto_if 140 with fail
 go_cut [20,21] (fun vs vr wx=>vs= .int .i64 s0∧vr= .int .i64 r0∧w=wx)
 case first =>
  as_aux_lemma=>
  by_cases hc:mid<m
  ·have hs0:Hid ((n:Int)-b=s0∧r0=mid):=Lib.hid (by have :=HSR.out;omega)
   go_wp2_with fail
   go_meet
   exact ⟨by rw [hs0.out.1],by rw [hs0.out.2],rfl⟩
  ·have hs0:Hid (s0=a∧r0=m):=Lib.hid (by have :=HSR.out;omega)
   have hc':(m:Int)≤mid:=by omega
   have hc2:¬((mid:Int)<m):=by omega
   go_wp2_with fail
   go_meet
   exact ⟨by rw [hs0.out.1],by rw [hs0.out.2],rfl⟩
 case rest=>
  obtain ⟨rfl,rfl,rfl⟩:=hcut
  have hcut0:Cut n s0 r0 s0 r0 l:=⟨Nat.le_refl _,bd1,Nat.le_refl _,fun c h1 h2=>absurd h2 (by omega),fun c h1 h2=>absurd h2 (by omega)⟩
  have HC0:=Lib.hid hcut0
  clear hcut0
  go_wp2_with fail
  go_loopw [20,21] (fun vs vr wx=> ∃s r:Nat,vs= .int .i64 s∧vr= .int .i64 r∧s≤r∧r≤r0∧Hid (Cut n s0 r0 s r l)∧Hid (Sor w g wx l)) (fun s r _=>(intOf r).toNat-(intOf s).toNat)
  case atStart=>exact ⟨s0,r0,rfl,rfl,bd1,Nat.le_refl _,HC0,HR0⟩
  case round=>
   clear HR0 HC0
   obtain ⟨s,r,rfl,rfl,hsr,hrr,HC,HS⟩:=hrel
   by_cases hlt:s<r
   ·obtain ⟨c,hc⟩: ∃c,c=(s+r)/2:=⟨_,rfl⟩
    have hci:((s:Int)+r)/2=(c:Int):=by omega
    have hcs:s≤c:=by omega
    have hcr:c<r:=by omega
    have hs0:s0≤s:=HC.out.1
    obtain ⟨p,hp⟩: ∃p,p=n-1-c:=⟨_,rfl⟩
    have hpi:(n:Int)-1-c=(p:Int):=by omega
    have hpw:IntKind.i64.wrap ((n:Int)-1-c)=(p:Int):=by rw [IntKind.wrap_i64];omega
    have hpw2:IntKind.i64.wrap (p:Int)=(p:Int):=by rw [IntKind.wrap_i64];omega
    have hpl:p<len:=by omega
    have hcl:c<len:=by omega
    obtain ⟨⟨x1,x2⟩,hx⟩: ∃x:Int×Int,l.getD p (0,0)=x:=⟨_,rfl⟩
    obtain ⟨⟨y1,y2⟩,hy⟩: ∃y:Int×Int,l.getD c (0,0)=y:=⟨_,rfl⟩
    obtain ⟨c0,c1⟩:=HS.out.1.cells_ (i:=p) (by rw [HLEN.out];exact hpl) hx
    obtain ⟨d0,d1⟩:=HS.out.1.cells_ (i:=c) (by rw [HLEN.out];exact hcl) hy
    obtain ⟨rr,hr,hrl⟩:=cmp_ex (x1,x2) (y1,y2)
    simp only at hrl
    have HCM:=Lib.hid hr
    have q1:(p:Int)<len:=by omega
    have q2:(c:Int)<len:=by omega
    have stepY:¬x1<y1→Hid (Cut n s0 r0 (c+1) r l):=fun h=>Lib.hid ⟨by omega,by omega,hrr,fun k h1 h2=>by
     have m1:=HMONO.out k c h1 (by omega) (by omega)
     rw [←hp,hx,hy] at m1
     simp only at m1
     omega,HC.out.2.2.2.2⟩
    have stepN:x1<y1→Hid (Cut n s0 r0 s c l):=fun h=>Lib.hid ⟨by omega,by omega,by omega,HC.out.2.2.2.1,fun k h1 h2=>by
     have m1:=HMONO.out c k (by omega) h1 h2
     rw [←hp,hx,hy] at m1
     simp only at m1
     omega⟩
    have SY:=Lib.hid stepY
    have SN:=Lib.hid stepN
    clear hx hy hr hp hc stepY stepN
    by_cases hlx:x1<y1
    ·have hr0:rr<0:=hrl.2 hlx
     have hrd:decide (rr<0)=true:=decide_eq_true hr0
     clear hrl
     as_aux_lemma=>
     go_wp2_with fail
     go_quiet_grown ((go_at_call 177;refine Calls.grown_of (HCM.out _)))
     have HS2:=Lib.hid (HS.out.grow_ nq osq)
     generalize Sort.grow (wr.drewN nq) osq=w2 at HS2 ⊢
     clear c0 c1 d0 d1 hrd hr0
     have HN:=SN.out hlx
     go_wp2_with fail
     go_roundw
     case rel=>exact ⟨s,c,rfl,rfl,hcs,by omega,HN,HS2⟩
     case measure=>simp [intOf];omega
    ·have hr0:¬rr<0:=fun h=>hlx (hrl.1 h)
     have hrd:decide (rr<0)=false:=decide_eq_false hr0
     clear hrl
     as_aux_lemma=>
     go_wp2_with fail
     go_quiet_grown ((go_at_call 177;refine Calls.grown_of (HCM.out _)))
     have HS2:=Lib.hid (HS.out.grow_ nq osq)
     generalize Sort.grow (wr.drewN nq) osq=w2 at HS2 ⊢
     clear c0 c1 d0 d1 hrd hr0
     have HN:=SY.out hlx
     go_wp2_with fail
     go_roundw
     case rel=>exact ⟨c+1,r,by go_num,rfl,by omega,hrr,HN,HS2⟩
     case measure=>simp [intOf];omega
   ·obtain rfl:s=r:=by omega
    obtain ⟨A1,A2,B1,B2,eA,eB,l1,l2,s1,s2,s3,x1,x2⟩:=HFIN.out s HC.out
    obtain ⟨ha,hm,hb,hA,hB,hmid,hnn,hbound,hl⟩:=HAB.out
    obtain ⟨e,he⟩: ∃e,e=n-s:=⟨_,rfl⟩
    have hei:(n:Int)-s=(e:Int):=by omega
    rw [←he] at l2 s2 s3
    rw [eA] at hm hl hbound hA
    rw [eB] at hb hl hbound hB
    rw [List.length_append] at hm hl hb hbound
    rw [List.length_append] at hl hbound
    have hL0:l=P++(A1++(A2++(B1++(B2++S)))):=by rw [←HLL.out,eA,eB];simp
    have hT:P++(Zs.srt (A1++B1)++(Zs.srt (A2++B2)++S))=P++(Zs.srt (A++B)++S):=by rw [eA,eB, ←Zs.sym hA hB x1 x2];simp
    obtain ⟨aA1,aA2,_⟩:=Zs.Asc.app.1 hA
    obtain ⟨aB1,aB2,_⟩:=Zs.Asc.app.1 hB
    have rot:s<m→m<e→Hid (Tr g len cap 259 s m e l (P++(A1++(B1++(A2++(B2++S)))))):=fun h1 h2=>Lib.hid fun W hW=>by
     have :=rot_any g cap len s m e (.func (.func 177) #[] #[]) (P++A1) A2 B1 (B2++S) W (by rw [hL0] at hW;simpa using hW) (by simp;omega) hn (by simp;omega) (by omega) (by omega) (by omega) (by omega)
     simpa using this
    have rot0:¬(s<m∧m<e)→l=P++(A1++(B1++(A2++(B2++S)))):=fun h=>by
     rw [hL0]
     by_cases hz:s<m
     ·have :B1=[]:=List.eq_nil_of_length_eq_zero (by omega)
      rw [this];simp
     ·have :A2=[]:=List.eq_nil_of_length_eq_zero (by omega)
      rw [this];simp
    have lft:a<s→s<mid→Hid (Tr g len cap 248 a s mid (P++(A1++(B1++(A2++(B2++S))))) (P++(Zs.srt (A1++B1)++(A2++(B2++S))))):=fun h1 h2=>
     Lib.hid (HIH.out a s mid P A1 B1 (A2++(B2++S)) (by simp;omega) ha (by omega) (by omega) aA1 aB1 (by omega) (by omega) (by omega))
    have lft0:¬(a<s∧s<mid)→P++(A1++(B1++(A2++(B2++S))))=P++(Zs.srt (A1++B1)++(A2++(B2++S))):=fun h=>by
     by_cases hz:a<s
     ·have :B1=[]:=List.eq_nil_of_length_eq_zero (by omega)
      simp [this,Zs.srt_self aA1]
     ·have :A1=[]:=List.eq_nil_of_length_eq_zero (by omega)
      simp [this,Zs.srt_self aB1]
    have rgt:mid<e→e<b→Hid (Tr g len cap 248 mid e b (P++(Zs.srt (A1++B1)++(A2++(B2++S)))) (P++(Zs.srt (A++B)++S))):=fun h1 h2=>Lib.hid (by
     have :=HIH.out mid e b (P++Zs.srt (A1++B1)) A2 B2 S (by simp [Zs.srt_len];omega) (by simp [Zs.srt_len];omega) (by omega) (by omega) aA2 aB2 (by omega) (by omega) (by omega)
     simp only [List.append_assoc] at this
     rw [hT] at this
     exact this)
    have rgt0:¬(mid<e∧e<b)→P++(Zs.srt (A1++B1)++(A2++(B2++S)))=P++(Zs.srt (A++B)++S):=fun h=>by
     rw [←hT]
     by_cases hz:mid<e
     ·have :B2=[]:=List.eq_nil_of_length_eq_zero (by omega)
      simp [this,Zs.srt_self aA2]
     ·have :A2=[]:=List.eq_nil_of_length_eq_zero (by omega)
      simp [this,Zs.srt_self aB2]
    have ROT:=Lib.hid rot
    have ROT0:=Lib.hid rot0
    have LFT:=Lib.hid lft
    have LFT0:=Lib.hid lft0
    have RGT:=Lib.hid rgt
    have RGT0:=Lib.hid rgt0
    obtain ⟨L1,hL1⟩: ∃L1,P++(A1++(B1++(A2++(B2++S))))=L1:=⟨_,rfl⟩
    obtain ⟨L2,hL2⟩: ∃L2,P++(Zs.srt (A1++B1)++(A2++(B2++S)))=L2:=⟨_,rfl⟩
    obtain ⟨L3,hL3⟩: ∃L3,P++(Zs.srt (A++B)++S)=L3:=⟨_,rfl⟩
    rw [hL1] at ROT ROT0 LFT LFT0
    rw [hL2] at LFT LFT0 RGT RGT0
    rw [hL3] at RGT RGT0
    have HL3:=Lib.hid hL3
    clear rot rot0 lft lft0 rgt rgt0 hL1 hL2 hL3 hT hL0 aA1 aA2 aB1 aB2 x1 x2 eA eB l1 l2 ha hm hb hA hB hmid hnn hbound hl he HIH HFIN HMONO HC HAB HSR HLL HLEN
    have hen:(0:Int)≤(n:Int)-s:=by omega
    go_upto_region 39 with fail
    go_cut [185] (fun v wx=>v= .bool (decide ((s:Int)<m)&&decide ((m:Int)<e))∧wr=wx)
    case first =>
     as_aux_lemma=>
     by_cases h1:(s:Int)<m
     ·by_cases h2:(m:Int)<e
      ·have i1:decide ((s:Int)<m)=true:=decide_eq_true h1
       have i2:decide ((m:Int)<e)=true:=decide_eq_true h2
       go_wp2_with fail
       go_meet
       exact ⟨by rw [i1,i2];rfl,rfl⟩
      ·have i1:decide ((s:Int)<m)=true:=decide_eq_true h1
       have i2:decide ((m:Int)<e)=false:=decide_eq_false h2
       have j2:=Int.not_lt.1 h2
       go_wp2_with fail
       go_meet
       exact ⟨by rw [i1,i2];rfl,rfl⟩
     ·have i1:decide ((s:Int)<m)=false:=decide_eq_false h1
      have j1:=Int.not_lt.1 h1
      go_wp2_with fail
      go_meet
      exact ⟨by rw [i1];rfl,rfl⟩
    case rest=>
     obtain ⟨rfl,rfl⟩:=hcut
     by_cases hc0:s<m∧m<e
     ·have T0:=ROT.out hc0.1 hc0.2
      have b0:(decide ((s:Int)<m)&&decide ((m:Int)<e))=true:=by simp;omega
      rw [b0]
      clear b0
      as_aux_lemma=>
      go_wp2_with fail
      refine (T0.out _ HS.out.1).mono ?_
      rintro e0 w1 ⟨rfl,k0⟩
      have HS1:=Lib.hid (HS.out.trans k0)
      clear k0 T0
      go_upto_region 41 with fail
      go_cut [199] (fun v wx=>v= .bool (decide ((a:Int)<s)&&decide ((s:Int)<mid))∧w1=wx)
      case first =>
       as_aux_lemma=>
       by_cases h1:(a:Int)<s
       ·by_cases h2:(s:Int)<mid
        ·have i1:decide ((a:Int)<s)=true:=decide_eq_true h1
         have i2:decide ((s:Int)<mid)=true:=decide_eq_true h2
         go_wp2_with fail
         go_meet
         exact ⟨by rw [i1,i2];rfl,rfl⟩
        ·have i1:decide ((a:Int)<s)=true:=decide_eq_true h1
         have i2:decide ((s:Int)<mid)=false:=decide_eq_false h2
         have j2:=Int.not_lt.1 h2
         go_wp2_with fail
         go_meet
         exact ⟨by rw [i1,i2];rfl,rfl⟩
       ·have i1:decide ((a:Int)<s)=false:=decide_eq_false h1
        have j1:=Int.not_lt.1 h1
        go_wp2_with fail
        go_meet
        exact ⟨by rw [i1];rfl,rfl⟩
      case rest=>
       obtain ⟨rfl,rfl⟩:=hcut
       by_cases hc1:a<s∧s<mid
       ·have T1:=LFT.out hc1.1 hc1.2
        have b1:(decide ((a:Int)<s)&&decide ((s:Int)<mid))=true:=by simp;omega
        rw [b1]
        clear b1
        as_aux_lemma=>
        go_wp2_with fail
        refine (T1.out _ HS1.out.1).mono ?_
        rintro e0 w2 ⟨rfl,k1⟩
        have HS2:=Lib.hid (HS1.out.trans k1)
        clear k1 T1
        go_upto_region 43 with fail
        go_cut [213] (fun v wx=>v= .bool (decide ((mid:Int)<e)&&decide ((e:Int)<b))∧w2=wx)
        case first =>
         as_aux_lemma=>
         by_cases h1:(mid:Int)<e
         ·by_cases h2:(e:Int)<b
          ·have i1:decide ((mid:Int)<e)=true:=decide_eq_true h1
           have i2:decide ((e:Int)<b)=true:=decide_eq_true h2
           go_wp2_with fail
           go_meet
           exact ⟨by rw [i1,i2];rfl,rfl⟩
          ·have i1:decide ((mid:Int)<e)=true:=decide_eq_true h1
           have i2:decide ((e:Int)<b)=false:=decide_eq_false h2
           have j2:=Int.not_lt.1 h2
           go_wp2_with fail
           go_meet
           exact ⟨by rw [i1,i2];rfl,rfl⟩
         ·have i1:decide ((mid:Int)<e)=false:=decide_eq_false h1
          have j1:=Int.not_lt.1 h1
          go_wp2_with fail
          go_meet
          exact ⟨by rw [i1];rfl,rfl⟩
        case rest=>
         obtain ⟨rfl,rfl⟩:=hcut
         by_cases hc2:mid<e∧e<b
         ·have T2:=RGT.out hc2.1 hc2.2
          have b2:(decide ((mid:Int)<e)&&decide ((e:Int)<b))=true:=by simp;omega
          rw [b2]
          clear b2
          as_aux_lemma=>
          go_wp2_with fail
          refine (T2.out _ HS2.out.1).mono ?_
          rintro e0 w3 ⟨rfl,k2⟩
          have HS3:=Lib.hid (HS2.out.trans k2)
          clear k2 T2
          go_wp2_with fail
          go_end0
          exact ⟨rfl,by rw [HL3.out];exact HS3.out⟩
         ·have T2:=RGT0.out hc2
          have b2:(decide ((mid:Int)<e)&&decide ((e:Int)<b))=false:=by simp;omega
          rw [b2]
          clear b2
          have HS3:=HS2
          rw [T2] at HS3
          clear T2
          as_aux_lemma=>
          go_wp2_with fail
          go_end0
          exact ⟨rfl,by rw [HL3.out];exact HS3.out⟩
       ·have T1:=LFT0.out hc1
        have b1:(decide ((a:Int)<s)&&decide ((s:Int)<mid))=false:=by simp;omega
        rw [b1]
        clear b1
        have HS2:=HS1
        rw [T1] at HS2
        clear T1
        as_aux_lemma=>
        go_upto_region 43 with fail
        go_cut [213] (fun v wx=>v= .bool (decide ((mid:Int)<e)&&decide ((e:Int)<b))∧w1=wx)
        case first =>
         as_aux_lemma=>
         by_cases h1:(mid:Int)<e
         ·by_cases h2:(e:Int)<b
          ·have i1:decide ((mid:Int)<e)=true:=decide_eq_true h1
           have i2:decide ((e:Int)<b)=true:=decide_eq_true h2
           go_wp2_with fail
           go_meet
           exact ⟨by rw [i1,i2];rfl,rfl⟩
          ·have i1:decide ((mid:Int)<e)=true:=decide_eq_true h1
           have i2:decide ((e:Int)<b)=false:=decide_eq_false h2
           have j2:=Int.not_lt.1 h2
           go_wp2_with fail
           go_meet
           exact ⟨by rw [i1,i2];rfl,rfl⟩
         ·have i1:decide ((mid:Int)<e)=false:=decide_eq_false h1
          have j1:=Int.not_lt.1 h1
          go_wp2_with fail
          go_meet
          exact ⟨by rw [i1];rfl,rfl⟩
        case rest=>
         obtain ⟨rfl,rfl⟩:=hcut
         by_cases hc2:mid<e∧e<b
         ·have T2:=RGT.out hc2.1 hc2.2
          have b2:(decide ((mid:Int)<e)&&decide ((e:Int)<b))=true:=by simp;omega
          rw [b2]
          clear b2
          as_aux_lemma=>
          go_wp2_with fail
          refine (T2.out _ HS2.out.1).mono ?_
          rintro e0 w3 ⟨rfl,k2⟩
          have HS3:=Lib.hid (HS2.out.trans k2)
          clear k2 T2
          go_wp2_with fail
          go_end0
          exact ⟨rfl,by rw [HL3.out];exact HS3.out⟩
         ·have T2:=RGT0.out hc2
          have b2:(decide ((mid:Int)<e)&&decide ((e:Int)<b))=false:=by simp;omega
          rw [b2]
          clear b2
          have HS3:=HS2
          rw [T2] at HS3
          clear T2
          as_aux_lemma=>
          go_wp2_with fail
          go_end0
          exact ⟨rfl,by rw [HL3.out];exact HS3.out⟩
     ·have T0:=ROT0.out hc0
      have b0:(decide ((s:Int)<m)&&decide ((m:Int)<e))=false:=by simp;omega
      rw [b0]
      clear b0
      have HS1:=HS
      rw [T0] at HS1
      clear T0
      as_aux_lemma=>
      go_upto_region 41 with fail
      go_cut [199] (fun v wx=>v= .bool (decide ((a:Int)<s)&&decide ((s:Int)<mid))∧wr=wx)
      case first =>
       as_aux_lemma=>
       by_cases h1:(a:Int)<s
       ·by_cases h2:(s:Int)<mid
        ·have i1:decide ((a:Int)<s)=true:=decide_eq_true h1
         have i2:decide ((s:Int)<mid)=true:=decide_eq_true h2
         go_wp2_with fail
         go_meet
         exact ⟨by rw [i1,i2];rfl,rfl⟩
        ·have i1:decide ((a:Int)<s)=true:=decide_eq_true h1
         have i2:decide ((s:Int)<mid)=false:=decide_eq_false h2
         have j2:=Int.not_lt.1 h2
         go_wp2_with fail
         go_meet
         exact ⟨by rw [i1,i2];rfl,rfl⟩
       ·have i1:decide ((a:Int)<s)=false:=decide_eq_false h1
        have j1:=Int.not_lt.1 h1
        go_wp2_with fail
        go_meet
        exact ⟨by rw [i1];rfl,rfl⟩
      case rest=>
       obtain ⟨rfl,rfl⟩:=hcut
       by_cases hc1:a<s∧s<mid
       ·have T1:=LFT.out hc1.1 hc1.2
        have b1:(decide ((a:Int)<s)&&decide ((s:Int)<mid))=true:=by simp;omega
        rw [b1]
        clear b1
        as_aux_lemma=>
        go_wp2_with fail
        refine (T1.out _ HS1.out.1).mono ?_
        rintro e0 w2 ⟨rfl,k1⟩
        have HS2:=Lib.hid (HS1.out.trans k1)
        clear k1 T1
        go_upto_region 43 with fail
        go_cut [213] (fun v wx=>v= .bool (decide ((mid:Int)<e)&&decide ((e:Int)<b))∧w2=wx)
        case first =>
         as_aux_lemma=>
         by_cases h1:(mid:Int)<e
         ·by_cases h2:(e:Int)<b
          ·have i1:decide ((mid:Int)<e)=true:=decide_eq_true h1
           have i2:decide ((e:Int)<b)=true:=decide_eq_true h2
           go_wp2_with fail
           go_meet
           exact ⟨by rw [i1,i2];rfl,rfl⟩
          ·have i1:decide ((mid:Int)<e)=true:=decide_eq_true h1
           have i2:decide ((e:Int)<b)=false:=decide_eq_false h2
           have j2:=Int.not_lt.1 h2
           go_wp2_with fail
           go_meet
           exact ⟨by rw [i1,i2];rfl,rfl⟩
         ·have i1:decide ((mid:Int)<e)=false:=decide_eq_false h1
          have j1:=Int.not_lt.1 h1
          go_wp2_with fail
          go_meet
          exact ⟨by rw [i1];rfl,rfl⟩
        case rest=>
         obtain ⟨rfl,rfl⟩:=hcut
         by_cases hc2:mid<e∧e<b
         ·have T2:=RGT.out hc2.1 hc2.2
          have b2:(decide ((mid:Int)<e)&&decide ((e:Int)<b))=true:=by simp;omega
          rw [b2]
          clear b2
          as_aux_lemma=>
          go_wp2_with fail
          refine (T2.out _ HS2.out.1).mono ?_
          rintro e0 w3 ⟨rfl,k2⟩
          have HS3:=Lib.hid (HS2.out.trans k2)
          clear k2 T2
          go_wp2_with fail
          go_end0
          exact ⟨rfl,by rw [HL3.out];exact HS3.out⟩
         ·have T2:=RGT0.out hc2
          have b2:(decide ((mid:Int)<e)&&decide ((e:Int)<b))=false:=by simp;omega
          rw [b2]
          clear b2
          have HS3:=HS2
          rw [T2] at HS3
          clear T2
          as_aux_lemma=>
          go_wp2_with fail
          go_end0
          exact ⟨rfl,by rw [HL3.out];exact HS3.out⟩
       ·have T1:=LFT0.out hc1
        have b1:(decide ((a:Int)<s)&&decide ((s:Int)<mid))=false:=by simp;omega
        rw [b1]
        clear b1
        have HS2:=HS1
        rw [T1] at HS2
        clear T1
        as_aux_lemma=>
        go_upto_region 43 with fail
        go_cut [213] (fun v wx=>v= .bool (decide ((mid:Int)<e)&&decide ((e:Int)<b))∧wr=wx)
        case first =>
         as_aux_lemma=>
         by_cases h1:(mid:Int)<e
         ·by_cases h2:(e:Int)<b
          ·have i1:decide ((mid:Int)<e)=true:=decide_eq_true h1
           have i2:decide ((e:Int)<b)=true:=decide_eq_true h2
           go_wp2_with fail
           go_meet
           exact ⟨by rw [i1,i2];rfl,rfl⟩
          ·have i1:decide ((mid:Int)<e)=true:=decide_eq_true h1
           have i2:decide ((e:Int)<b)=false:=decide_eq_false h2
           have j2:=Int.not_lt.1 h2
           go_wp2_with fail
           go_meet
           exact ⟨by rw [i1,i2];rfl,rfl⟩
         ·have i1:decide ((mid:Int)<e)=false:=decide_eq_false h1
          have j1:=Int.not_lt.1 h1
          go_wp2_with fail
          go_meet
          exact ⟨by rw [i1];rfl,rfl⟩
        case rest=>
         obtain ⟨rfl,rfl⟩:=hcut
         by_cases hc2:mid<e∧e<b
         ·have T2:=RGT.out hc2.1 hc2.2
          have b2:(decide ((mid:Int)<e)&&decide ((e:Int)<b))=true:=by simp;omega
          rw [b2]
          clear b2
          as_aux_lemma=>
          go_wp2_with fail
          refine (T2.out _ HS2.out.1).mono ?_
          rintro e0 w3 ⟨rfl,k2⟩
          have HS3:=Lib.hid (HS2.out.trans k2)
          clear k2 T2
          go_wp2_with fail
          go_end0
          exact ⟨rfl,by rw [HL3.out];exact HS3.out⟩
         ·have T2:=RGT0.out hc2
          have b2:(decide ((mid:Int)<e)&&decide ((e:Int)<b))=false:=by simp;omega
          rw [b2]
          clear b2
          have HS3:=HS2
          rw [T2] at HS3
          clear T2
          as_aux_lemma=>
          go_wp2_with fail
          go_end0
          exact ⟨rfl,by rw [HL3.out];exact HS3.out⟩
theorem sym_any (g cap len:Nat) (hn:len≤100000) (K:Nat): ∀(a m b:Nat) (P A B S:Zs.L),P.length+A.length+B.length+S.length=len→P.length=a→a+A.length=m→m+B.length=b→Zs.Asc A→Zs.Asc B→0<A.length→0<B.length→A.length+B.length<K→
  Tr g len cap 248 a m b (P++(A++(B++S))) (P++(Zs.srt (A++B)++S)):=by
 induction K with
 |zero=>intro a m b P A B S _ _ _ _ _ _ _ _ h;omega
 |succ K ih=>
  intro a m b P A B S hl ha hm hb hA hB hA0 hB0 hK W hW
  by_cases h1:A.length=1
  ·obtain ⟨x,rfl⟩:=List.length_eq_one_iff.1 h1
   exact sml_any g cap len a m b P B S x W hW (by simpa using hl) hn ha hm hb hB
  ·by_cases h2:B.length=1
   ·obtain ⟨y,rfl⟩:=List.length_eq_one_iff.1 h2
    exact smr_any g cap len a m b P A S y W hW (by simpa using hl) hn ha hm hb hA (by omega)
   ·exact smc_any g cap len a m b K P A B S W hW hl hn ha hm hb hA hB (by omega) (by omega) ih (by omega)
end Go.Proofs.YtfamcohbnoibaaaGreatDoor
