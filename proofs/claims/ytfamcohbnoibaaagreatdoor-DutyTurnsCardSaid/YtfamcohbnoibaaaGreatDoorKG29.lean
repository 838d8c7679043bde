import Derived.Test.YtfamcohbnoibaaaGreatDoorKG39
import Derived.Test.YtfamcohbnoibaaaGreatDoorKSpn
set_option linter.unusedVariables false
set_option linter.unusedSimpArgs false
namespace Go.Proofs.YtfamcohbnoibaaaGreatDoor
namespace Wk
def pc (f t m:Int):L→L
 |[]=>[]
 |w::r=>if max f (m+w.1)<min t (m+w.2) then (max f (m+w.1),min t (m+w.2))::pc f t m r else pc f t m r
def jn (s:L) (x:Int×Int):L:=match s.getLast? with
 |none=>s++[x]
 |some y=>if y.2=x.1 then s.dropLast++[(y.1,x.2)] else s++[x]
theorem jn_add {s:L} {a b:Int} (h:a<b):jn s (a,b)=addP s a b:=by
 unfold jn addP;rw [if_neg (by omega)];rfl
end Wk
namespace Wk
open Zn
def Up (K:Int→Bool) (s:L) (lo p:Int):Prop:=Spn.Chain s∧(∀y∈s,lo≤y.1∧y.2≤p)∧ ∀x,Spn.cov s x↔lo≤x∧x<p∧K x=true
theorem up_nil (K:Int→Bool) (lo:Int):Up K [] lo lo:=⟨Spn.chain_nil,fun y h=>(by cases h),fun x=>⟨fun h=>absurd h (Spn.cov_nil x),fun h=>(by omega)⟩⟩
theorem up_gap {K:Int→Bool} {s:L} {lo p q:Int} (h:Up K s lo p) (hpq:p≤q) (hk: ∀x,p≤x→x<q→K x=false):Up K s lo q:=by
 refine ⟨h.1,fun y hy=>⟨(h.2.1 y hy).1,by have :=(h.2.1 y hy).2;omega⟩,fun x=>(h.2.2 x).trans ⟨fun ⟨a,b,c⟩=>⟨a,by omega,c⟩,fun ⟨a,b,c⟩=>⟨a, ?_,c⟩⟩⟩
 rcases Int.lt_or_le x p with h1|h1
 ·exact h1
 ·rw [hk x h1 b] at c;cases c
theorem up_add {K:Int→Bool} {s:L} {lo a b:Int} (h:Up K s lo a) (hlo:lo≤a) (hab:a<b) (hk: ∀x,a≤x→x<b→K x=true):Up K (addP s a b) lo b:=by
 have cv: ∀x,(Spn.cov s x∨(a≤x∧x<b))↔lo≤x∧x<b∧K x=true:=fun x=>by
  rw [h.2.2 x]
  constructor
  ·rintro (⟨u,v,z⟩|⟨u,v⟩)
   ·exact ⟨u,by omega,z⟩
   ·exact ⟨by omega,v,hk x u v⟩
  ·rintro ⟨u,v,z⟩
   rcases Int.lt_or_le x a with h1|h1
   ·exact .inl ⟨u,h1,z⟩
   ·exact .inr ⟨h1,v⟩
 have snoc:(∀t∈s,t.2<a)→Up K (s++[(a,b)]) lo b:=fun h9=>by
  refine ⟨Spn.chain_snoc.2 ⟨h.1,hab,h9⟩,fun y hy=> ?_,fun x=>(Spn.cov_snoc s (a,b) x).trans (cv x)⟩
  rcases List.mem_append.1 hy with hy|hy
  ·exact ⟨(h.2.1 y hy).1,by have :=(h.2.1 y hy).2;omega⟩
  ·simp at hy;subst hy;exact ⟨hlo,Int.le_refl _⟩
 rcases List.eq_nil_or_concat s with rfl|⟨t,y,hs⟩
 ·rw [addP_first (by omega)];exact snoc (fun t ht=>by cases ht)
 ·rw [List.concat_eq_append] at hs
  subst hs
  have hl:(t++[y]).getLast? =some y:=by simp
  obtain ⟨c1,c2,c3⟩:=Spn.chain_snoc.1 h.1
  have hy2:=h.2.1 y (by simp)
  by_cases he:y.2=a
  ·rw [addP_join (by omega) hl he,List.dropLast_concat]
   refine ⟨Spn.chain_snoc.2 ⟨c1,by simp only;omega,c3⟩,fun z hz=> ?_,fun x=> ?_⟩
   ·rcases List.mem_append.1 hz with hz|hz
    ·exact ⟨(h.2.1 z (by simp [hz])).1,by have :=(h.2.1 z (by simp [hz])).2;omega⟩
    ·simp at hz;subst hz;exact ⟨hy2.1,Int.le_refl _⟩
   ·rw [←cv x,Spn.cov_snoc,Spn.cov_snoc]
    simp only
    constructor
    ·rintro (u|u)
     ·exact .inl (.inl u)
     ·by_cases g:x<a
      ·exact .inl (.inr ⟨u.1,by omega⟩)
      ·exact .inr ⟨by omega,u.2⟩
    ·rintro ((u|u)|u)
     ·exact .inl u
     ·exact .inr ⟨u.1,by omega⟩
     ·exact .inr ⟨by omega,u.2⟩
  ·rw [addP_app (by omega) hl he]
   refine snoc (fun z hz=> ?_)
   rcases List.mem_append.1 hz with hz|hz
   ·have :=c3 z hz;omega
   ·simp at hz;subst hz;omega
def cl3 (f t z:Int):Int:=min (max z f) t
theorem up_week {K:Int→Bool} {lo f t m:Int} (hlo:lo≤f) (hft:f<t): ∀{l s:L} {e:Int},Rt e l→0≤e→e≤604800→Up K s lo (cl3 f t (m+e))→(∀x,m+e≤x→x<m+604800→f≤x→x<t→K x=within l (x-m))→
  Up K (addW l f t m s) lo (cl3 f t (m+604800))
 |[],s,e,_,_,h2,h,hk=>by
  refine up_gap h (by unfold cl3;omega) (fun x h3 h4=> ?_)
  unfold cl3 at h3 h4
  exact hk x (by omega) (by omega) (by omega) (by omega)
 |w::r,s,e,⟨r1,r2,r3,r4⟩,h1,h2,h,hk=>by
  have g1:Up K s lo (cl3 f t (m+w.1)):=by
   refine up_gap h (by unfold cl3;omega) (fun x h3 h4=> ?_)
   unfold cl3 at h3 h4
   rw [hk x (by omega) (by omega) (by omega) (by omega),within_cons,r4.out (by omega),decide_eq_false (by omega)];rfl
  have g2:Up K (addP s (max (m+w.1) f) (min (m+w.2) t)) lo (cl3 f t (m+w.2)):=by
   by_cases hab:min (m+w.2) t≤max (m+w.1) f
   ·rw [addP_skip hab]
    have :cl3 f t (m+w.1)=cl3 f t (m+w.2):=by unfold cl3;omega
    rw [←this];exact g1
   ·have e1:cl3 f t (m+w.1)=max (m+w.1) f:=by unfold cl3;omega
    have e2:cl3 f t (m+w.2)=min (m+w.2) t:=by unfold cl3;omega
    rw [e1] at g1
    rw [e2]
    refine up_add g1 (by omega) (by omega) (fun x h3 h4=> ?_)
    rw [hk x (by omega) (by omega) (by omega) (by omega),within_cons,decide_eq_true (by omega)];rfl
  have :=up_week (K:=K) (m:=m) hlo hft r4 (by omega) r3 g2 (fun x h3 h4 h5 h6=>by
   rw [hk x (by omega) h4 h5 h6,within_cons,decide_eq_false (by omega)];rfl)
  exact this
theorem up_weeks {K:Int→Bool} {l:L} {lo f t off:Int} (hl:Rt 0 l) (hlo:lo≤f) (hft:f<t) (hk: ∀x,f≤x→x<t→K x=within l (sow (x+off))): ∀(k:Nat) {m:Int} {s:L},k=wks m t→(m+off+259200)%604800=0→Up K s lo (cl3 f t m)→Up K (addK l f t k m s) lo t
 |0,m,s,hw,hm,h=>by
  have :cl3 f t m=t:=by unfold wks at hw;unfold cl3;omega
  rw [←this];exact h
 |k+1,m,s,hw,hm,h=>by
  have hmt:m<t:=by unfold wks at hw;omega
  rw [addK]
  refine up_weeks hl hlo hft hk k (by rw [wks_step hmt] at hw;omega) (by omega) ?_
  refine up_week hlo hft hl (Int.le_refl 0) (by omega) (by simpa using h) (fun x h1 h2 h3 h4=> ?_)
  rw [hk x h3 h4,sow_eq,show (x+off+259200)%604800=x-m by omega]
theorem up_addR {K:Int→Bool} {l:L} {lo f t off:Int} {s:L} (hl:Rt 0 l) (hlo:lo≤f) (hft:f<t) (hk: ∀x,f≤x→x<t→K x=within l (sow (x+off))) (h:Up K s lo f):Up K (addR l off f t s) lo t:=by
 unfold addR;rw [if_neg (by omega)]
 have hs:=sow_eq (f+off)
 have hb:=sow_bd (f+off)
 refine up_weeks hl hlo hft hk _ rfl (by omega) ?_
 have :cl3 f t (f-sow (f+off))=f:=by unfold cl3;omega
 rw [this];exact h
theorem up_tms {K:Int→Bool} {l:L} {lo t:Int} (hl:Rt 0 l): ∀{ts s:L} {off f:Int},lo≤f→lo≤t→(∀x,f≤x→x<t→K x=within l (sow (x+offAt off ts x)))→Up K s lo (min f t)→Up K (tms s off ts l f t) lo t
 |[],s,off,f,h1,h2,hk,h=>by
  rw [tms]
  by_cases hft:f<t
  ·rw [show min f t=f by omega] at h
   exact up_addR hl h1 hft hk h
  ·rw [show min f t=t by omega] at h
   unfold addR;rw [if_pos (by omega)];exact h
 |(a,o)::ts,s,off,f,h1,h2,hk,h=>by
  rw [tms]
  refine up_tms hl (by omega) h2 (fun x h3 h4=> ?_) ?_
  ·rw [hk x (by omega) h4,offAt,if_pos (by omega)]
  ·by_cases hft:f<min a t
   ·rw [show min f t=f by omega] at h
    have :=up_addR (t:=min a t) hl h1 hft (fun x h3 h4=>by rw [hk x h3 (by omega),offAt,if_neg (by omega)]) h
    rw [show min (max a f) t=min a t by omega]
    exact this
   ·unfold addR;rw [if_pos (by omega)]
    rw [show min (max a f) t=min f t by omega]
    exact h
theorem tms_has {l:L} {off:Int} {ts:L} {f t:Int} (hl:Rt 0 l) (h:f≤t):Up (fun x=>within l (sow (x+offAt off ts x))) (tms [] off ts l f t) f t:=
 up_tms hl (Int.le_refl _) h (fun _ _ _=>rfl) (by rw [show min f t=f by omega];exact up_nil _ _)
theorem vt_far: ∀{ts:L} {now ear:Int},VT now ear ts→(∀x∈ts,1700000000≤x.1∧x.1≤1800000000)→ ∀k,k<ts.length→1700000000+604800*(k:Int)≤(ts.getD k (0,0)).1:=by
 intro ts now ear h hb k hk
 induction k with
 |zero=>
  have hm:ts.getD 0 (0,0)∈ts:=by rw [show ts.getD 0 (0,0)=ts[0] by simp [List.getD,hk]];exact List.getElem_mem hk
  have :=(hb _ hm).1;simpa using this
 |succ k ih=>
  have h1:=ih (by omega)
  have h2:=vt_asc h k (k+1) (by omega) hk
  omega
theorem good_few {off:Int} {ts:L} (h:Vz off ts) (hb: ∀x∈ts,1700000000≤x.1∧x.1≤1800000000):ts.length≤166:=by
 rcases Nat.lt_or_ge 166 ts.length with hlt|hge
 ·have h1:=vt_far h.vt hb 166 hlt
  have hm:ts.getD 166 (0,0)∈ts:=by rw [show ts.getD 166 (0,0)=ts[166] by simp [List.getD,hlt]];exact List.getElem_mem hlt
  have :=(hb _ hm).2
  omega
 ·exact hge
def cnt (P:Int→Bool) (a:Int):Nat→Int
 |0=>0
 |n+1=>cnt P a n+(if P (a+n)=true then 1 else 0)
theorem cnt_split (P:Int→Bool) (a:Int) (m:Nat): ∀n:Nat,cnt P a (m+n)=cnt P a m+cnt P (a+m) n
 |0=>by simp [cnt]
 |n+1=>by
  rw [←Nat.add_assoc,cnt,cnt_split P a m n,cnt,show a+((m+n:Nat):Int)=a+m+n by omega];omega
theorem cnt_congr {P Q:Int→Bool} {a b:Int}: ∀n:Nat,(∀i:Nat,i<n→P (a+i)=Q (b+i))→cnt P a n=cnt Q b n
 |0,_=>rfl
 |n+1,h=>by rw [cnt,cnt,cnt_congr n (fun i hi=>h i (by omega)),h n (by omega)]
theorem cnt_bd (P:Int→Bool) (a:Int): ∀n:Nat,0≤cnt P a n∧cnt P a n≤n
 |0=>by simp [cnt]
 |n+1=>by
  have :=cnt_bd P a n
  rw [cnt];split<;>omega
theorem cnt_none {P:Int→Bool} {a:Int}: ∀n:Nat,(∀i:Nat,i<n→P (a+i)=false)→cnt P a n=0
 |0,_=>rfl
 |n+1,h=>by rw [cnt,cnt_none n (fun i hi=>h i (by omega)),h n (by omega)];rfl
theorem cnt_all {P:Int→Bool} {a:Int}: ∀n:Nat,(∀i:Nat,i<n→P (a+i)=true)→cnt P a n=n
 |0,_=>rfl
 |n+1,h=>by rw [cnt,cnt_all n (fun i hi=>h i (by omega)),h n (by omega)];simp
def Asc:Int→Int→L→Prop
 |f,p,[]=>f≤p
 |f,p,y::r=>f≤y.1∧y.1≤y.2∧Asc y.2 p r
theorem asc_le: ∀{s:L} {f p:Int},Asc f p s→f≤p
 |[],_,_,h=>h
 |y::r,f,p,⟨h1,h2,h3⟩=>by have :=asc_le h3;omega
theorem asc_out: ∀{s:L} {f p x:Int},Asc f p s→x<f→within s x=false
 |[],_,_,_,_,_=>rfl
 |y::r,f,p,x,⟨h1,h2,h3⟩,h=>by rw [within_cons,asc_out h3 (by omega),decide_eq_false (by omega)];rfl
theorem asc_cnt: ∀{s:L} {f p:Int},Asc f p s→lenS s=cnt (within s) f (p-f).toNat
 |[],f,p,h=>(cnt_none _ (fun i _=>rfl)).symm
 |y::r,f,p,⟨h1,h2,h3⟩=>by
  have hp:=asc_le h3
  have e:(p-f).toNat=(y.1-f).toNat+((y.2-y.1).toNat+(p-y.2).toNat):=by omega
  rw [e,cnt_split,cnt_split,lenS,asc_cnt h3]
  have a1:f+((y.1-f).toNat:Int)=y.1:=by omega
  have a2:y.1+((y.2-y.1).toNat:Int)=y.2:=by omega
  rw [a1,a2,cnt_none (P:=within (y::r)) (a:=f) _ (fun i hi=>by rw [within_cons,asc_out h3 (by omega),decide_eq_false (by omega)];rfl),
   cnt_all (P:=within (y::r)) (a:=y.1) _ (fun i hi=>by rw [within_cons,decide_eq_true (by omega)];rfl),
   cnt_congr (P:=within (y::r)) (Q:=within r) (a:=y.2) (b:=y.2) _ (fun i hi=>by rw [within_cons,decide_eq_false (by omega)];rfl)]
  omega
theorem chain_asc: ∀{s:L} {f p:Int},Spn.Chain s→(∀y∈s,f≤y.1∧y.2≤p)→f≤p→Asc f p s
 |[],_,_,_,_,h=>h
 |y::r,f,p,hc,hb,h=>by
  obtain ⟨c1,c2,c3⟩:=Spn.chain_cons.1 hc
  have :=hb y (by simp)
  exact ⟨this.1,by omega,chain_asc c3 (fun z hz=>⟨by have :=c2 z hz;omega,(hb z (by simp [hz])).2⟩) this.2⟩
theorem cov_within (s:L) (x:Int):within s x=true↔Spn.cov s x:=by
 unfold within Spn.cov;simp
theorem sum_lens: ∀s:L,Spn.sum s=lenS s
 |[]=>rfl
 |y::r=>by rw [Spn.sum,lenS,sum_lens r]
theorem up_sum {K:Int→Bool} {s:L} {f p:Int} (h:Up K s f p) (hfp:f≤p):Spn.sum s=cnt K f (p-f).toNat:=by
 rw [sum_lens,asc_cnt (chain_asc h.1 h.2.1 hfp)]
 refine cnt_congr _ (fun i hi=> ?_)
 rw [Bool.eq_iff_iff,cov_within,h.2.2]
 exact ⟨fun ⟨_,_,c⟩=>c,fun c=>⟨by omega,by omega,c⟩⟩
end Wk
end Go.Proofs.YtfamcohbnoibaaaGreatDoor
