import Derived.Test.YtfamcohbnoibaaaGreatDoorKG00
set_option linter.unusedVariables false
set_option linter.unusedSimpArgs false
namespace Go.Proofs.YtfamcohbnoibaaaGreatDoor
namespace Rc
open Zn
def stp (u n:Int):Int:=if u=2 then n*7 else n
def hV (off:Int) (ts:L) (u n D S k:Int):Option Int:=
 if u=0 then (fst (locS D S) (strs 0 off ts)).bind fun x=>if x+k*n*3600≤8589934592 then some (x+k*n*3600) else none
 else fst (locS (D+k*stp u n) S) (strs 0 off ts)
structure Rt (u n D S:Int):Prop where
 u0:0≤u
 u2:u≤2
 n1:1≤n
 n4:n≤400
 d1:1≤D
 dm:D≤100000
 s0:0≤S
 s8:S<86400
section
variable {off:Int} {ts:L} {u n D S:Int}
theorem fst_facts (h:Vz off ts) {v x:Int} (hv:64800<v) (e:fst v (strs 0 off ts)=some x):1≤x∧x≤8589934592∧v≤cl off ts x∧cl off ts (x-1)<v∧cl off ts x<v+86400∧ ∀y,0≤y→y<x→cl off ts y<v:=by
 rcases fst_spec (v:=v) h.vt (show (0:Int)≤8589934592 by omega) (Int.le_refl 0) with ⟨x',e',h1,h2,h3,h4⟩|⟨e', -⟩
 ·rw [e] at e'
  obtain rfl:=Option.some.inj e'
  have hx:1≤x:=by
   have :=h.bd x
   unfold cl at h3
   omega
  have h5:=h4 (x-1) (by omega) (by omega)
  refine ⟨hx,h2,h3,h5, ?_,h4⟩
  unfold cl at h3 h5 ⊢
  rcases one_change h.vt (x-1) x (by omega) (by omega) with g|⟨c,c1,c2,c3,c4,c5,c6⟩
  ·have :=g x (by omega) (by omega);omega
  ·omega
 ·rw [e] at e';cases e'
theorem fst_lt (h:Vz off ts) {v v' a b:Int} (hv:64800<v) (hw:v+86400≤v') (ea:fst v (strs 0 off ts)=some a) (eb:fst v' (strs 0 off ts)=some b):a<b:=by
 obtain ⟨a1,a2,a3,a4,a5,a6⟩:=fst_facts h hv ea
 obtain ⟨b1,b2,b3,b4,b5,b6⟩:=fst_facts h (by omega) eb
 rcases Int.lt_trichotomy a b with hlt|rfl|hgt
 ·exact hlt
 ·omega
 ·have :=a6 b (by omega) hgt;omega
theorem fst_down (h:Vz off ts) {v v' b:Int} (hv:64800<v') (hw:v≤v') (eb:fst v' (strs 0 off ts)=some b): ∃a,fst v (strs 0 off ts)=some a∧a≤b:=by
 obtain ⟨b1,b2,b3,b4,b5,b6⟩:=fst_facts h hv eb
 obtain ⟨y,e,y0,y1, -⟩:=h.fst_le (v:=v) (x:=b) (by omega) b2 (by omega)
 exact ⟨y,e,y1⟩
theorem fst_high (h:Vz off ts) {v:Int} (hv:8589999392<v):fst v (strs 0 off ts)=none:=by
 cases e:fst v (strs 0 off ts) with
 |none=>rfl
 |some x=>
  obtain ⟨x1,x2,x3, -⟩:=fst_facts h (by omega) e
  have :=h.bd x
  unfold cl at x3
  omega
theorem locS_lo {d s:Int} (h:1≤d) (h0:0≤s):64800<locS d s:=by unfold locS clamp;omega
theorem locS_of {d s:Int} (h: -2≤d) (h2:d≤99422):locS d s=d*86400+s:=by unfold locS clamp;omega
theorem locS_far {d s:Int} (h:99422≤d) (h0:0≤s):8589999392<locS d s:=by unfold locS clamp;omega
theorem Rt.step (h:Rt u n D S):1≤stp u n:=by have :=h.n1;unfold stp;split<;>omega
theorem Rt.day (h:Rt u n D S) {k:Int} (hk:0≤k):1≤D+k*stp u n:=by
 have :=Int.mul_nonneg hk (show 0≤stp u n by have :=h.step;omega)
 have :=h.d1
 omega
theorem mul_step {a k j:Int} (ha:1≤a) (hk:k<j):k*a+a≤j*a:=by
 have :=Int.mul_le_mul_of_nonneg_right (show k+1≤j by omega) (show 0≤a by omega)
 rw [Int.add_mul,Int.one_mul] at this
 exact this
theorem hV_lt (hz:Vz off ts) (h:Rt u n D S) {k j a b:Int} (hk:0≤k) (hj:k<j) (ea:hV off ts u n D S k=some a) (eb:hV off ts u n D S j=some b):a<b:=by
 unfold hV at ea eb
 by_cases hu:u=0
 ·rw [if_pos hu] at ea eb
  cases e:fst (locS D S) (strs 0 off ts) with
  |none=>rw [e] at ea;cases ea
  |some x=>
   rw [e] at ea eb
   simp only [Option.bind_some] at ea eb
   split at ea
   ·split at eb
    ·have :=mul_step h.n1 hj
     have :=h.n1
     simp only [Option.some.injEq] at ea eb
     omega
    ·cases eb
   ·cases ea
 ·rw [if_neg hu] at ea eb
  have hm:=mul_step h.step hj
  have hd:=h.day hk
  have hs:=h.step
  have h0:=h.s0
  by_cases hf:99422≤D+j*stp u n
  ·rw [fst_high hz (locS_far hf h0)] at eb;cases eb
  ·refine fst_lt hz (locS_lo hd h0) ?_ ea eb
   rw [locS_of (by omega) (by omega),locS_of (by omega) (by omega)]
   omega
theorem hV_down (hz:Vz off ts) (h:Rt u n D S) {k j b:Int} (hk:0≤k) (hj:k≤j) (eb:hV off ts u n D S j=some b): ∃a,hV off ts u n D S k=some a∧a≤b:=by
 unfold hV at eb ⊢
 by_cases hu:u=0
 ·rw [if_pos hu] at eb ⊢
  cases e:fst (locS D S) (strs 0 off ts) with
  |none=>rw [e] at eb;cases eb
  |some x=>
   rw [e] at eb
   simp only [Option.bind_some] at eb ⊢
   split at eb
   ·simp only [Option.some.injEq] at eb
    have :=Int.mul_le_mul_of_nonneg_right hj (show 0≤n by have :=h.n1;omega)
    exact ⟨_,if_pos (by omega),by omega⟩
   ·cases eb
 ·rw [if_neg hu] at eb ⊢
  have hd:=h.day hk
  have hm:=Int.mul_le_mul_of_nonneg_right hj (show 0≤stp u n by have :=h.step;omega)
  have h0:=h.s0
  exact fst_down hz (locS_lo (by omega) h0) (by unfold locS clamp;omega) eb
theorem hV_high (hz:Vz off ts) (h:Rt u n D S) {k:Int} (hk:2386092<k):hV off ts u n D S k=none:=by
 unfold hV
 by_cases hu:u=0
 ·rw [if_pos hu]
  cases e:fst (locS D S) (strs 0 off ts) with
  |none=>rfl
  |some x=>
   have :=(fst_facts hz (locS_lo h.d1 h.s0) e).1
   have :=Int.mul_le_mul (show 2386093≤k by omega) h.n1 (by omega) (by omega)
   simp only [Option.bind_some]
   rw [if_neg (by omega)]
 ·rw [if_neg hu]
  have :=Int.mul_le_mul (show 2386093≤k by omega) h.step (by omega) (by omega)
  have :=h.d1
  exact fst_high hz (locS_far (by omega) h.s0)
end
def ShiftIs (H:Int→Option Int) (t k:Int):Prop:= -1≤k∧(0≤k→ ∃a,H k=some a∧a≤t)∧ ∀j,k<j→0≤j→ ∀a,H j=some a→t<a
theorem ShiftIs.lt {H:Int→Option Int} {t k j:Int} (h:ShiftIs H t k) (h2:ShiftIs H t j):¬k<j:=fun hkj=>by
 obtain ⟨a,e,ha⟩:=h2.2.1 (by have :=h.1;omega)
 have :=h.2.2 j hkj (by have :=h.1;omega) a e
 omega
theorem ShiftIs.eq {H:Int→Option Int} {t k j:Int} (h:ShiftIs H t k) (h2:ShiftIs H t j):k=j:=by
 have h3:=h.lt h2
 have h4:=h2.lt h
 omega
section
variable {off:Int} {ts:L} {u n D S:Int}
theorem shift_of (hz:Vz off ts) (h:Rt u n D S) {k a t:Int} (hk:0≤k) (ea:hV off ts u n D S k=some a) (ha:a≤t) (hb: ∀b,hV off ts u n D S (k+1)=some b→t<b):ShiftIs (hV off ts u n D S) t k:=
 ⟨by omega,fun _=>⟨a,ea,ha⟩,fun j hj h0 b eb=>by
  obtain ⟨c,ec,hc⟩:=hV_down hz h (k:=k+1) (j:=j) (by omega) (by omega) eb
  have :=hb c ec
  omega⟩
theorem guess (hz:Vz off ts) (h:Rt u n D S) (hu:u≠0) {t day j a:Int} (h0:0≤t) (ht:t≤8589934592) (hd:cl off ts t/86400=day) (hj:0≤j) (hf:day+3≤D+j*stp u n) (ea:hV off ts u n D S j=some a):t<a:=by
 unfold hV at ea
 rw [if_neg hu] at ea
 have hs0:=h.s0
 by_cases hfar:99422≤D+j*stp u n
 ·rw [fst_high hz (locS_far hfar hs0)] at ea;cases ea
 ·obtain ⟨a1,a2,a3, -⟩:=fst_facts hz (locS_lo (h.day hj) hs0) ea
  rw [locS_of (by have :=h.day hj;omega) (by omega)] at a3
  have b1:=hz.bd t
  have b2:=hz.bd a
  unfold cl at a3 hd
  omega
end
def RangeIs (H:Int→Option Int) (f t:Int) (l:List Int):Prop:=l.Pairwise (· < ·)∧ ∀a,a∈l↔ ∃k,0≤k∧H k=some a∧f≤a∧a<t
theorem asc_ext: ∀{l m:List Int},l.Pairwise (· < ·)→m.Pairwise (· < ·)→(∀a,a∈l↔a∈m)→l=m
 |[],[],_,_,_=>rfl
 |[],b::m,_,_,h=>by have :=(h b).2 (by simp);cases this
 |a::l,[],_,_,h=>by have :=(h a).1 (by simp);cases this
 |a::l,b::m,hl,hm,h=>by
  rw [List.pairwise_cons] at hl hm
  have hab:a=b:=by
   have h1:a∈b::m:=(h a).1 (by simp)
   have h2:b∈a::l:=(h b).2 (by simp)
   rcases List.mem_cons.1 h1 with e|h1
   ·exact e
   ·rcases List.mem_cons.1 h2 with e|h2
    ·exact e.symm
    ·have :=hm.1 a h1;have :=hl.1 b h2;omega
  subst hab
  congr 1
  refine asc_ext hl.2 hm.2 fun x=>⟨fun hx=> ?_,fun hx=> ?_⟩
  ·rcases List.mem_cons.1 ((h x).1 (by simp [hx])) with e|h1
   ·have :=hl.1 x hx;omega
   ·exact h1
  ·rcases List.mem_cons.1 ((h x).2 (by simp [hx])) with e|h1
   ·have :=hm.1 x hx;omega
   ·exact h1
theorem RangeIs.eq {H:Int→Option Int} {f t:Int} {l m:List Int} (h:RangeIs H f t l) (h2:RangeIs H f t m):l=m:=asc_ext h.1 h2.1 fun a=>(h.2 a).trans (h2.2 a).symm
theorem RangeIs.app {H:Int→Option Int} {f m t:Int} {l1 l2:List Int} (h:RangeIs H f m l1) (h2:RangeIs H m t l2) (hf:f≤m) (hm:m≤t):RangeIs H f t (l1++l2):=by
 refine ⟨List.pairwise_append.2 ⟨h.1,h2.1,fun a ha b hb=> ?_⟩,fun a=> ?_⟩
 ·obtain ⟨_,_,_,_,q1⟩:=(h.2 a).1 ha
  obtain ⟨_,_,_,q2,_⟩:=(h2.2 b).1 hb
  omega
 ·rw [List.mem_append,h.2,h2.2]
  constructor
  ·rintro (⟨k,a1,a2,a3,a4⟩|⟨k,a1,a2,a3,a4⟩)
   ·exact ⟨k,a1,a2,a3,by omega⟩
   ·exact ⟨k,a1,a2,by omega,a4⟩
  ·rintro ⟨k,a1,a2,a3,a4⟩
   by_cases hlt:a<m
   ·exact .inl ⟨k,a1,a2,a3,hlt⟩
   ·exact .inr ⟨k,a1,a2,by omega,a4⟩
def Gather (H:Int→Option Int) (f t k:Int) (l:List Int):Prop:=l.Pairwise (· < ·)∧(l.length:Int)≤k∧ ∀a,a∈l↔ ∃j,0≤j∧j<k∧H j=some a∧f≤a∧a<t
section
variable {off:Int} {ts:L} {u n D S:Int}
theorem Gather.start (hz:Vz off ts) (h:Rt u n D S) {f t s k:Int} (hs:ShiftIs (hV off ts u n D S) f s) (hk:k=max 0 s):Gather (hV off ts u n D S) f t k []:=by
 refine ⟨.nil,by simp;omega,fun a=>⟨fun h=>(by cases h),fun hx=>False.elim ?_⟩⟩
 obtain ⟨j,j0,j1,j2,j3,j4⟩:=hx
 obtain ⟨b,eb,hb⟩:=hs.2.1 (by omega)
 have :=hV_lt hz h j0 (show j<s by omega) j2 eb
 omega
theorem Gather.skip {H:Int→Option Int} {f t k a:Int} {l:List Int} (h:Gather H f t k l) (ha:H k=some a) (hf:a<f):Gather H f t (k+1) l:=by
 refine ⟨h.1,by have :=h.2.1;omega,fun x=>⟨fun hx=> ?_, ?_⟩⟩
 ·obtain ⟨j,j0,j1,j2⟩:=(h.2.2 x).1 hx
  exact ⟨j,j0,by omega,j2⟩
 ·rintro ⟨j,j0,j1,j2,j3,j4⟩
  rcases Int.lt_or_eq_of_le (show j≤k by omega) with hlt|rfl
  ·exact (h.2.2 x).2 ⟨j,j0,hlt,j2,j3,j4⟩
  ·rw [ha] at j2
   cases j2
   omega
theorem Gather.take (hz:Vz off ts) (hr:Rt u n D S) {f t k a:Int} {l:List Int} (h:Gather (hV off ts u n D S) f t k l) (hk:0≤k) (ha:hV off ts u n D S k=some a) (hf:f≤a) (ht:a<t):Gather (hV off ts u n D S) f t (k+1) (l++[a]):=by
 refine ⟨List.pairwise_append.2 ⟨h.1,by simp,fun x hx y hy=> ?_⟩,by rw [List.length_append,List.length_singleton];have :=h.2.1;omega,fun x=> ?_⟩
 ·obtain ⟨j,j0,j1,j2, -⟩:=(h.2.2 x).1 hx
  rw [List.mem_singleton.1 hy]
  exact hV_lt hz hr j0 j1 j2 ha
 ·rw [List.mem_append,h.2.2]
  constructor
  ·rintro (⟨j,j0,j1,j2⟩|hx)
   ·exact ⟨j,j0,by omega,j2⟩
   ·rw [List.mem_singleton.1 hx]
    exact ⟨k,hk,by omega,ha,hf,ht⟩
  ·rintro ⟨j,j0,j1,j2,j3,j4⟩
   rcases Int.lt_or_eq_of_le (show j≤k by omega) with hlt|rfl
   ·exact .inl ⟨j,j0,hlt,j2,j3,j4⟩
   ·rw [ha] at j2
    cases j2
    exact .inr (by simp)
theorem Gather.done (hz:Vz off ts) (hr:Rt u n D S) {f t k:Int} {l:List Int} (h:Gather (hV off ts u n D S) f t k l) (hk:0≤k) (he: ∀a,hV off ts u n D S k=some a→t≤a):RangeIs (hV off ts u n D S) f t l:=by
 refine ⟨h.1,fun a=>(h.2.2 a).trans ⟨?_, ?_⟩⟩
 ·rintro ⟨j,j0,j1,j2⟩
  exact ⟨j,j0,j2⟩
 ·rintro ⟨j,j0,j2,j3,j4⟩
  refine ⟨j,j0, ?_,j2,j3,j4⟩
  rcases Int.lt_or_le j k with hlt|hge
  ·exact hlt
  ·obtain ⟨c,ec,hc⟩:=hV_down hz hr hk hge j2
   have :=he c ec
   omega
theorem civil (hz:Vz off ts) (h:Rt u n D S) (hu:u≠0) {k a:Int} (hk:0≤k) (ea:hV off ts u n D S k=some a):(∃r,frm (locS (D+k*stp u n) S) (strs 0 off ts)=a::r)∨(frm (locS (D+k*stp u n) S) (strs 0 off ts)=[]∧offAt off ts (a-1)<offAt off ts a):=by
 unfold hV at ea
 rw [if_neg hu] at ea
 have hv:=locS_lo (h.day hk) h.s0
 obtain ⟨a1,a2,a3,a4,a5,a6⟩:=fst_facts hz hv ea
 cases e:frm (locS (D+k*stp u n) S) (strs 0 off ts) with
 |cons x r=>
  have :=hz.fst_head hv e
  rw [ea] at this
  cases this
  exact .inl ⟨r,rfl⟩
 |nil=>
  refine .inr ⟨rfl, ?_⟩
  have hne:cl off ts a≠locS (D+k*stp u n) S:=fun e2=>by
   have :=(hz.mem a).2 ⟨by omega,a2,e2⟩
   rw [e] at this
   cases this
  unfold cl at a3 a4 hne
  omega
end
def okL (u n D S:Int) (m:Nat):Bool:=decide (0≤u∧u≤2∧1≤n∧n≤400∧1≤D∧D≤100000∧0≤S∧S<86400∧0<m)
theorem okL_rt {u n D S:Int} {m:Nat} (h:okL u n D S m=true):Rt u n D S∧0<m:=by
 have h:=of_decide_eq_true h
 exact ⟨⟨by omega,by omega,by omega,by omega,by omega,by omega,by omega,by omega⟩,by omega⟩
theorem okL_of {u n D S:Int} {m:Nat} (h:Rt u n D S) (hm:0<m):okL u n D S m=true:=decide_eq_true ⟨h.u0,h.u2,h.n1,h.n4,h.d1,h.dm,h.s0,h.s8,hm⟩
def chkO (ok:Bool):Int:=if ok=true then 0 else 8
def hOut (ok:Bool) (k:Int) (h:Option Int):Int×Int:=if ok=false then (0,8) else if k<0 then (0,1) else match h with|none=>(0,10)|some a=>(a,0)
theorem hOut_no {k:Int} {h:Option Int}:hOut false k h=(0,8):=rfl
theorem hOut_neg {k:Int} {h:Option Int} (hk:k<0):hOut true k h=(0,1):=by unfold hOut;rw [if_neg (by simp),if_pos hk]
theorem hOut_none {k:Int} (hk:0≤k):hOut true k none=(0,10):=by unfold hOut;rw [if_neg (by simp),if_neg (by omega)]
theorem hOut_some {k a:Int} (hk:0≤k):hOut true k (some a)=(a,0):=by unfold hOut;rw [if_neg (by simp),if_neg (by omega)]
structure SOut (ok:Bool) (H:Int→Option Int) (t k er:Int):Prop where
 no:ok=false→k=0∧er=8
 far:ok=true→(t<0∨8589934592<t)→k=0∧er=1
 yes:ok=true→0≤t→t≤8589934592→er=0∧ShiftIs H t k
theorem SOut.eq {ok:Bool} {H:Int→Option Int} {t k er k2 er2:Int} (h:SOut ok H t k er) (h2:SOut ok H t k2 er2):k=k2∧er=er2:=by
 cases ok with
 |false=>obtain ⟨a,b⟩:=h.no rfl;obtain ⟨c,d⟩:=h2.no rfl;exact ⟨a.trans c.symm,b.trans d.symm⟩
 |true=>
  by_cases hf:t<0∨8589934592<t
  ·obtain ⟨a,b⟩:=h.far rfl hf;obtain ⟨c,d⟩:=h2.far rfl hf;exact ⟨a.trans c.symm,b.trans d.symm⟩
  ·obtain ⟨a,b⟩:=h.yes rfl (by omega) (by omega);obtain ⟨c,d⟩:=h2.yes rfl (by omega) (by omega);exact ⟨b.eq d,a.trans c.symm⟩
def turnV (k er:Int) (m:Nat):Int:=if er≠0 then 0 else if k<0 then -1 else k%m
structure ROut (ok:Bool) (H:Int→Option Int) (f t:Int) (l:List Int) (er:Int):Prop where
 no:ok=false→l=[]∧er=8
 far:ok=true→¬(0≤f∧f≤8589934592∧f≤t∧t≤8589934592∧t-f≤34560000)→l=[]∧er=1
 yes:ok=true→(0≤f∧f≤8589934592∧f≤t∧t≤8589934592∧t-f≤34560000)→er=0∧RangeIs H f t l
theorem ROut.eq {ok:Bool} {H:Int→Option Int} {f t er er2:Int} {l l2:List Int} (h:ROut ok H f t l er) (h2:ROut ok H f t l2 er2):l=l2∧er=er2:=by
 cases ok with
 |false=>obtain ⟨a,b⟩:=h.no rfl;obtain ⟨c,d⟩:=h2.no rfl;exact ⟨a.trans c.symm,b.trans d.symm⟩
 |true=>
  by_cases hf:(0≤f∧f≤8589934592∧f≤t∧t≤8589934592∧t-f≤34560000)
  ·obtain ⟨a,b⟩:=h.yes rfl hf;obtain ⟨c,d⟩:=h2.yes rfl hf;exact ⟨b.eq d,a.trans c.symm⟩
  ·obtain ⟨a,b⟩:=h.far rfl hf;obtain ⟨c,d⟩:=h2.far rfl hf;exact ⟨a.trans c.symm,b.trans d.symm⟩
theorem shift_le {off:Int} {ts:L} {u n D S t k:Int} (hz:Vz off ts) (h:Rt u n D S) (hs:ShiftIs (hV off ts u n D S) t k):k≤2386092:=by
 rcases Int.lt_or_le 2386092 k with hlt|hle
 ·obtain ⟨a,ea, -⟩:=hs.2.1 (by omega)
  rw [hV_high hz h hlt] at ea
  cases ea
 ·exact hle
theorem few {off:Int} {ts:L} {u n D S f t s k a:Int} (hz:Vz off ts) (h:Rt u n D S) (hs:ShiftIs (hV off ts u n D S) f s) (ea:hV off ts u n D S k=some a) (hk:max 0 s≤k) (ha:a<t) (hq:t-f≤34560000):k-max 0 s≤100000:=by
 by_cases hu:u=0
 ·rcases Int.lt_or_le k (s+1) with hlt|hge
  ·omega
  ·have h1:=hs.1
   obtain ⟨b,eb, -⟩:=hV_down hz h (k:=s+1) (j:=k) (by omega) hge ea
   have hfb:=hs.2.2 (s+1) (by omega) (by omega) b eb
   unfold hV at ea eb
   rw [if_pos hu] at ea eb
   cases e:fst (locS D S) (strs 0 off ts) with
   |none=>rw [e] at ea;cases ea
   |some x=>
    rw [e] at ea eb
    simp only [Option.bind_some] at ea eb
    split at ea
    ·split at eb
     ·simp only [Option.some.injEq] at ea eb
      have h3:(k-(s+1))*1≤(k-(s+1))*n:=Int.mul_le_mul_of_nonneg_left h.n1 (by omega)
      rw [Int.sub_mul k (s+1) n] at h3
      omega
     ·cases eb
    ·cases ea
 ·unfold hV at ea
  rw [if_neg hu] at ea
  have h0:=h.s0
  have h1:k*1≤k*stp u n:=Int.mul_le_mul_of_nonneg_left h.step (by omega)
  have d1:=h.d1
  by_cases hf:99422≤D+k*stp u n
  ·rw [fst_high hz (locS_far hf h0)] at ea;cases ea
  ·omega
end Rc
end Go.Proofs.YtfamcohbnoibaaaGreatDoor
namespace Go.Proofs.YtfamcohbnoibaaaGreatDoor
namespace Rc
open Zn
structure Rot (H:Int→Option Int) (off:Int) (ts:L) (v0 d:Int):Prop where
 vz:Vz off ts
 d1:3600≤d
 d2:d≤241920000
 v1:off<v0
 v2:1≤v0
 v3:v0≤8640086399
 eq: ∀k,0≤k→H k=fst (v0+d*k) (strs 0 off ts)
 down: ∀k j b,0≤k→k≤j→H j=some b→ ∃a,H k=some a∧a≤b
 hi: ∀k a,H k=some a→k≤2386092
theorem Rt.okD {u n D S:Int} (h:Rt u n D S):Zn.okD S=true:=Zn.okD_iff.2 ⟨h.s0,h.s8⟩
theorem fst_zero (v:Int) (h:0≤v):fst v (strs 0 0 [])=if v≤8589934592 then some v else none:=by
 have e:max (v-0) 0=v:=by omega
 simp only [strs,fst,e]
theorem vz_zero:Vz 0 []:=trans_vz (rs:=[]) rfl
section
variable {off:Int} {ts:L} {n D S:Int}
theorem hi_of {u:Int} (hz:Vz off ts) (h:Rt u n D S) (k a:Int) (e:hV off ts u n D S k=some a):k≤2386092:=by
 rcases Int.lt_or_le 2386092 k with hlt|hle
 ·rw [hV_high hz h hlt] at e;cases e
 ·exact hle
theorem rot_days {u:Int} (hz:Vz off ts) (h:Rt u n D S) (hu:u≠0) (d:Int) (hd:d=stp u n*86400):Rot (hV off ts u n D S) off ts (D*86400+S) d:=by
 have hs:=h.step;have n4:=h.n4;have n1:=h.n1;have d1:=h.d1;have dm:=h.dm;have s0:=h.s0;have s8:=h.s8
 have hb:=(Zn.okO_iff.1 hz.ok)
 have h7:stp u n≤2800:=by unfold stp;split<;>omega
 refine ⟨hz,by omega,by omega,by omega,by omega,by omega,fun k hk=> ?_,fun k j b hk hj e=>hV_down hz h hk hj e,hi_of hz h⟩
 unfold hV
 rw [if_neg hu]
 have hm:=Int.mul_nonneg hk (show 0≤stp u n by omega)
 have e1:D*86400+S+d*k=(D+k*stp u n)*86400+S:=by
  rw [hd,Int.add_mul,Int.mul_comm (stp u n*86400) k,Int.mul_assoc];omega
 rw [e1]
 by_cases hf:99422≤D+k*stp u n
 ·rw [fst_high hz (locS_far hf s0),fst_high hz (by omega)]
 ·rw [locS_of (by omega) (by omega)]
def hB (f:Option Int):Int:=match f with|none=>8589934593|some x=>x
theorem rot_hours (hz:Vz off ts) (h:Rt 0 n D S) (d:Int) (hd:d=n*3600):Rot (hV off ts 0 n D S) 0 [] (hB (fst (locS D S) (strs 0 off ts))) d:=by
 have n4:=h.n4;have n1:=h.n1
 have hx:1≤hB (fst (locS D S) (strs 0 off ts))∧hB (fst (locS D S) (strs 0 off ts))≤8589934593:=by
  cases e:fst (locS D S) (strs 0 off ts) with
  |none=>exact ⟨by decide,by decide⟩
  |some x=>
   have :=fst_facts hz (locS_lo h.d1 h.s0) e
   simp only [hB]
   omega
 refine ⟨vz_zero,by omega,by omega,by omega,by omega,by omega,fun k hk=> ?_,fun k j b hk hj e=>hV_down hz h hk hj e,hi_of hz h⟩
 have hm:=Int.mul_nonneg hk (show 0≤n by omega)
 have e1:d*k=k*n*3600:=by rw [hd,Int.mul_comm,Int.mul_assoc]
 rw [fst_zero _ (by omega),e1]
 unfold hV
 rw [if_pos rfl]
 cases e:fst (locS D S) (strs 0 off ts) with
 |none=>exact (if_neg (show ¬(8589934593:Int)+k*n*3600≤8589934592 by omega)).symm
 |some x=>rfl
end
section
variable {H:Int→Option Int} {off:Int} {ts:L} {v0 d:Int}
theorem Rot.far (h:Rot H off ts v0 d) {k:Int} (hk:2386092<k):H k=none:=by
 cases e:H k with
 |none=>rfl
 |some a=>have :=h.hi k a e;omega
theorem Rot.any (h:Rot H off ts v0 d) {k:Int} (hk:0≤k):H k=fst (v0+d*min k 8589934592) (strs 0 off ts):=by
 by_cases hm:k≤8589934592
 ·rw [show min k 8589934592=k by omega];exact h.eq k hk
 ·rw [show min k 8589934592=8589934592 by omega, ←h.eq 8589934592 (by omega),h.far (by omega),h.far (by omega)]
theorem fst_loc (hz:Vz off ts) {v:Int} (hv:0≤v):fst (locS (v/86400) (v%86400)) (strs 0 off ts)=fst v (strs 0 off ts):=by
 by_cases hf:99422≤v/86400
 ·rw [fst_high hz (locS_far hf (by omega)),fst_high hz (by omega)]
 ·rw [locS_of (by omega) (by omega)]
  congr 1
  omega
theorem Rot.guess (h:Rot H off ts v0 d) {t q:Int} (h0:0≤t) (ht:t≤8589934592) (hq:q=max (cl off ts t-v0+d) 0/d-1): -1≤q∧q≤2386092∧(0≤q→ ∃a,H q=some a∧a≤t):=by
 have d1:=h.d1
 obtain ⟨m,hm⟩: ∃m,max (cl off ts t-v0+d) 0=m:=⟨_,rfl⟩
 have m0:0≤m:=by omega
 rw [hm] at hq
 have q0:0≤m/d:=Int.ediv_nonneg m0 (by omega)
 have q1:m/d*d≤m:=Int.ediv_mul_le _ (by omega)
 have key:0≤q→ ∃a,H q=some a∧a≤t:=fun hq0=>by
  have h1:1≤m/d:=by omega
  have h2:(m/d)*d=q*d+d:=by rw [show m/d=q+1 by omega,Int.add_mul,Int.one_mul]
  have h4:0≤q*d:=Int.mul_nonneg hq0 (by omega)
  have h3:v0+d*q≤cl off ts t:=by rw [Int.mul_comm d q];omega
  obtain ⟨y,e,y0,y1, -⟩:=h.vz.fst_le (v:=v0+d*q) (x:=t) h0 ht h3
  exact ⟨y,by rw [h.eq q hq0];exact e,y1⟩
 refine ⟨by omega, ?_,key⟩
 by_cases hq0:0≤q
 ·obtain ⟨a,e, -⟩:=key hq0
  exact h.hi q a e
 ·omega
theorem Rot.shift (h:Rot H off ts v0 d) {t k:Int} (hk: -1≤k) (hr:0≤k→ ∃a,H k=some a∧a≤t) (hn: ∀a,H (k+1)=some a→t<a):ShiftIs H t k:=
 ⟨hk,hr,fun j hj h0 b eb=>by
  obtain ⟨c,ec,hc⟩:=h.down (k+1) j b (by omega) (by omega) eb
  have :=hn c ec
  omega⟩
structure Pos (off:Int) (ts:L) (v f o:Int) (i:Nat):Prop where
 le:i≤ts.length
 same: ∀v',v≤v'→fst v' (strs 0 off ts)=fst v' (strs f o (ts.drop i))
 near: ∃ear,VT o ear (ts.drop i)∧0≤ear∧(f<ear∨(f=0∧o<v))
 f0:0≤f
 f1:f≤8589934592
 o0: -64800≤o
 o1:o≤64800
theorem Rot.pos (h:Rot H off ts v0 d) {k:Int} (hk:0≤k):Pos off ts (v0+d*k) 0 off 0:=by
 have hb:=(Zn.okO_iff.1 h.vz.ok)
 have :=Int.mul_nonneg (show 0≤d by have :=h.d1;omega) hk
 have v1:=h.v1
 exact ⟨Nat.zero_le _,fun _ _=>rfl,⟨0,h.vz.vt,Int.le_refl 0,.inr ⟨rfl,by omega⟩⟩,Int.le_refl 0,by omega,by omega,by omega⟩
theorem Pos.up {v v' f o:Int} {i:Nat} (h:Pos off ts v f o i) (hv:v≤v'):Pos off ts v' f o i:=by
 obtain ⟨ear,h1,h2,h3⟩:=h.near
 exact ⟨h.le,fun x hx=>h.same x (by omega),⟨ear,h1,h2,by omega⟩,h.f0,h.f1,h.o0,h.o1⟩
theorem Pos.next {v f o a o':Int} {i:Nat} (hz:Vz off ts) (h:Pos off ts v f o i) (hi:ts[i]? =some (a,o')) (hv:a≤v-o):Pos off ts v a o' (i+1):=by
 obtain ⟨hl, -⟩:=List.getElem?_eq_some_iff.1 hi
 have hd:ts.drop i=(a,o')::ts.drop (i+1):=by
  obtain ⟨hl,he⟩:=List.getElem?_eq_some_iff.1 hi
  rw [List.drop_eq_getElem_cons hl,he]
 obtain ⟨ear,h1,h2,h3⟩:=h.near
 rw [hd] at h1
 obtain ⟨g1,g2,g3,g4,g5,g6⟩:=h1
 have ho:=Zn.okO_iff.1 (hz.oks (a,o') (List.mem_of_getElem? hi))
 refine ⟨by omega,fun x hx=> ?_,⟨a+604800,g6,by omega,.inl (by omega)⟩,by omega,g5,by omega,by omega⟩
 rw [h.same x hx,hd]
 simp only [strs,fst]
 rw [if_neg (by omega)]
theorem Pos.out {v f o:Int} {i:Nat} (h:Pos off ts v f o i) (hn: ∀a o',ts[i]? =some (a,o')→v-o<a):fst v (strs 0 off ts)=if max (v-o) f≤8589934592 then some (max (v-o) f) else none:=by
 rw [h.same v (Int.le_refl _)]
 cases hi:ts[i]? with
 |none=>
  have hl:=List.getElem?_eq_none_iff.1 hi
  rw [List.drop_of_length_le hl]
  simp only [strs,fst]
 |some x=>
  obtain ⟨a,o'⟩:=x
  obtain ⟨hl,he⟩:=List.getElem?_eq_some_iff.1 hi
  have hd:ts.drop i=(a,o')::ts.drop (i+1):=by rw [List.drop_eq_getElem_cons hl,he]
  obtain ⟨ear,h1,h2,h3⟩:=h.near
  rw [hd] at h1 ⊢
  obtain ⟨g1,g2,g3,g4,g5,g6⟩:=h1
  have hv:=hn a o' hi
  simp only [strs,fst]
  have hf:=h.f0
  rw [if_pos (by omega),if_pos (by omega)]
end
end Rc
end Go.Proofs.YtfamcohbnoibaaaGreatDoor
