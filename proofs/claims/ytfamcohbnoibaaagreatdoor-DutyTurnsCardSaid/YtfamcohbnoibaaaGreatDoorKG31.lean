import Derived.Test.YtfamcohbnoibaaaGreatDoorKSpn
set_option linter.unusedVariables false
namespace Spn
theorem getD_eq {l:L} {k:Nat} (h:k<l.length):l.getD k (0,0)=l[k]:=by simp [List.getD,List.getElem?_eq_getElem h]
theorem brd_even {l:L} {m:Nat} (h:m<l.length):brd l (2*(m:Int))=(l.getD m (0,0)).1:=by
 unfold brd
 rw [if_neg (by omega),if_pos (by omega),show (2*(m:Int)/2).toNat=m by omega]
theorem brd_odd {l:L} {m:Nat} (h:m<l.length):brd l (2*(m:Int)+1)=(l.getD m (0,0)).2:=by
 unfold brd
 rw [if_neg (by omega),if_neg (by omega),show ((2*(m:Int)+1)/2).toNat=m by omega]
theorem brd_end {l:L} {i:Int} (h:2*(l.length:Int)≤i):brd l i=8589934593:=by unfold brd;rw [if_pos h]
theorem halves {i:Int} (h0:0≤i): ∃m:Nat,i=2*(m:Int)∨i=2*(m:Int)+1:=⟨(i/2).toNat,by omega⟩
theorem brd_asc {l:L} (hv:vld l=true) {i:Int} (h0:0≤i) (h:i<2*(l.length:Int)):brd l i<brd l (i+1):=by
 have ha:=vld_all hv
 have hc:=((vld_iff l).1 hv).2.2
 obtain ⟨m,rfl|rfl⟩:=halves h0
 ·rw [brd_even (by omega),brd_odd (by omega)]
  exact (ha _ (getD_mem (by omega))).2.1
 ·rw [brd_odd (by omega)]
  have hm:=ha _ (getD_mem (l:=l) (k:=m) (by omega))
  by_cases e:m+1<l.length
  ·rw [show 2*(m:Int)+1+1=2*((m+1:Nat):Int) by omega,brd_even e,getD_eq (by omega),getD_eq e]
   exact List.pairwise_iff_getElem.1 hc.2 m (m+1) (by omega) e (by omega)
  ·rw [brd_end (by omega)];omega
theorem brd_lo {l:L} (hv:vld l=true) {i:Int} (h0:0≤i):0≤brd l i:=by
 have ha:=vld_all hv
 by_cases e:2*(l.length:Int)≤i
 ·rw [brd_end e];omega
 ·obtain ⟨m,rfl|rfl⟩:=halves h0
  ·rw [brd_even (by omega)];exact (ha _ (getD_mem (by omega))).1
  ·rw [brd_odd (by omega)];have :=ha _ (getD_mem (l:=l) (k:=m) (by omega));omega
theorem brd_hi {l:L} (hv:vld l=true) {i:Int} (h0:0≤i) (h:i<2*(l.length:Int)):brd l i≤8589934592:=by
 have ha:=vld_all hv
 obtain ⟨m,rfl|rfl⟩:=halves h0
 ·rw [brd_even (by omega)];have :=ha _ (getD_mem (l:=l) (k:=m) (by omega));omega
 ·rw [brd_odd (by omega)];have :=ha _ (getD_mem (l:=l) (k:=m) (by omega));omega
def Passed (l:L) (i p:Int):Prop:=0≤i∧i≤2*(l.length:Int)∧(0<i→brd l (i-1)≤p)∧p<brd l i
theorem Passed.start {l:L} (hv:vld l=true):Passed l 0 (-1):=⟨by omega,by omega,by omega,by have :=brd_lo hv (i:=0) (by omega);omega⟩
theorem Passed.step {l:L} {i p:Int} (hv:vld l=true) (h:Passed l i p) (hi:i<2*(l.length:Int)):Passed l (i+1) (brd l i):=by
 obtain ⟨a,b,c,d⟩:=h
 exact ⟨by omega,by omega,fun _=>by rw [show i+1-1=i by omega];exact Int.le_refl _,brd_asc hv a hi⟩
theorem Passed.stay {l:L} {i p q:Int} (h:Passed l i p) (hp:p≤q) (hq:q<brd l i):Passed l i q:=by
 obtain ⟨a,b,c,d⟩:=h
 exact ⟨a,b,fun h=>by have :=c h;omega,hq⟩
theorem Passed.at_ {l:L} {i p x:Int} (hv:vld l=true) (h:Passed l i p) (hp:p≤x) (hx:x<brd l i):has l x=decide (i%2=1):=by
 have hc:=((vld_iff l).1 hv).2.2
 obtain ⟨a,b,c,d⟩:=h
 rw [Bool.eq_iff_iff,has_iff]
 simp only [hv,true_and,decide_eq_true_eq]
 obtain ⟨m,rfl|rfl⟩:=halves a
 ·constructor
  ·rintro ⟨s,hs,h1,h2⟩
   obtain ⟨k,hk,rfl⟩:=List.getElem_of_mem hs
   exfalso
   rcases Nat.lt_or_ge k m with e|e
   ·have c1:=c (by omega)
    rw [show 2*(m:Int)-1=2*((m-1:Nat):Int)+1 by omega,brd_odd (by omega)] at c1
    have c2:=chain_to hc (i:=k) (j:=m-1) (by omega) (by omega)
    rw [getD_eq hk] at c2
    omega
   ·rw [brd_even (by omega),getD_eq (by omega)] at hx
    rcases Nat.lt_or_eq_of_le e with e|e
    ·have c1:=List.pairwise_iff_getElem.1 hc.2 m k (by omega) hk e
     have c2:=hc.1 l[m] (List.getElem_mem _)
     omega
    ·subst e;omega
  ·intro h;omega
 ·constructor
  ·intro _;omega
  ·intro _
   have c1:=c (by omega)
   have hm:m<l.length:=by omega
   rw [show 2*(m:Int)+1-1=2*(m:Int) by omega,brd_even hm] at c1
   rw [brd_odd hm] at hx
   exact ⟨_,getD_mem hm,by omega,hx⟩
theorem Passed.done {l:L} {i p x:Int} (hv:vld l=true) (h:Passed l i p) (hi:¬i<2*(l.length:Int)) (hp:p≤x):has l x=false:=by
 rcases Int.lt_or_le x 8589934593 with e|e
 ·rw [h.at_ hv hp (by rw [brd_end (by omega)];exact e)]
  have :=h.2.1
  simp;omega
 ·rw [←Bool.not_eq_true,has_iff]
  rintro ⟨-,s,hs,h1,h2⟩
  have :=vld_all hv s hs
  omega
def Kept (keep:Bool→Bool→Bool) (a b:L) (x:Int):Prop:=keep (has a x) (has b x)=true
def Comb (keep:Bool→Bool→Bool) (a b r:L):Prop:=Chain r∧ ∀x,Kept keep a b x↔cov r x
theorem Comb.uniq {keep:Bool→Bool→Bool} {a b r s:L} (h:Comb keep a b r) (h':Comb keep a b s):r=s:=
 Spn.uniq r s h.1 h'.1 fun x=>(h.2 x).symm.trans (h'.2 x)
structure Round (keep:Bool→Bool→Bool) (a b:L) (i j p:Int) (opn:Bool) (out:L):Prop where
 pa:Passed a i p
 pb:Passed b j p
 op:opn=keep (decide (i%2=1)) (decide (j%2=1))
 sw:Sweep (Kept keep a b) out opn p
 len:(out.length:Int)≤i+j
section
variable {keep:Bool→Bool→Bool} {a b out:L} {i j p:Int} {opn:Bool}
theorem Round.start (ha:vld a=true) (hb:vld b=true) (hk:keep false false=false):Round keep a b 0 0 (-1) false []:=
 ⟨Passed.start ha,Passed.start hb,by simp [hk],Sweep.start fun x hx=>by
  unfold Kept
  have e: ∀{l:L},vld l=true→has l x=false:=fun {l} hv=>by
   rw [←Bool.not_eq_true,has_iff]
   rintro ⟨-,s,hs,h1,h2⟩
   have :=vld_all hv s hs
   omega
  rw [e ha,e hb,hk];simp,by simp⟩
theorem Round.const (ha:vld a=true) (hb:vld b=true) (h:Round keep a b i j p opn out) {x:Int} (hp:p≤x) (h1:x<brd a i) (h2:x<brd b j):Kept keep a b x↔opn=true:=by
 unfold Kept
 rw [h.pa.at_ ha hp h1,h.pb.at_ hb hp h2,h.op]
theorem Round.next (ha:vld a=true) (hb:vld b=true) (h:Round keep a b i j p opn out) (q i' j':Int) (hq1:q≤brd a i) (hq2:q≤brd b j) (hpa:Passed a i' q) (hpb:Passed b j' q) (hl:i+j+1≤i'+j') (hpq:p<q) (kept:Bool)
  (hkept:kept=keep (decide (i'%2=1)) (decide (j'%2=1))):
  Round keep a b i' j' q kept (if kept=true then (if opn=true then out else out++[(q,0)]) else if opn=true then close out q else out):=by
 have hc: ∀x,p≤x→x<q→(Kept keep a b x↔opn=true):=fun x h1 h2=>h.const ha hb h1 (by omega) (by omega)
 have hlen:=h.len
 have hs:=h.sw
 refine ⟨hpa,hpb,hkept, ?_, ?_⟩
 ·rcases kept with _|_<;>rcases opn with _|_
  ·exact hs.stayShut hpq fun x h1 h2=>by rw [hc x h1 h2];simp
  ·exact hs.close_ hpq fun x h1 h2=>by rw [hc x h1 h2]
  ·exact hs.open_ hpq fun x h1 h2=>by rw [hc x h1 h2];simp
  ·exact hs.stayOpen hpq fun x h1 h2=>by rw [hc x h1 h2]
 ·rcases kept with _|_<;>rcases opn with _|_<;>simp [length_close]<;>omega
theorem Round.final (ha:vld a=true) (hb:vld b=true) (hk:keep false false=false) (h:Round keep a b i j p opn out) (hi:¬i<2*(a.length:Int)) (hj:¬j<2*(b.length:Int)):Comb keep a b out:=by
 have e1:=h.pa.2.1
 have e2:=h.pb.2.1
 have ho:opn=false:=by
  rw [h.op,show decide (i%2=1)=false by simp;omega,show decide (j%2=1)=false by simp;omega,hk]
 have hs:=h.sw
 rw [ho] at hs
 exact hs.final fun x hx=>by
  unfold Kept
  rw [h.pa.done ha hi hx,h.pb.done hb hj hx,hk];simp
end
end Spn
namespace Sps
def Asc (l:List Int):Prop:=l.Pairwise fun x y=>x<y
theorem getD_eq {l:List Int} {k:Nat} (h:k<l.length):l.getD k 0=l[k]:=by simp [List.getD,List.getElem?_eq_getElem h]
theorem getD_mem {l:List Int} {k:Nat} (h:k<l.length):l.getD k 0∈l:=by rw [getD_eq h];exact List.getElem_mem _
theorem asc_lt {l:List Int} (h:Asc l) {i j:Nat} (hij:i<j) (hj:j<l.length):l.getD i 0<l.getD j 0:=by
 rw [getD_eq (by omega),getD_eq hj]
 exact List.pairwise_iff_getElem.1 h i j (by omega) hj hij
theorem asc_snoc {l:List Int} {x:Int} (h:Asc l) (hx: ∀y∈l,y<x):Asc (l++[x]):=by
 unfold Asc
 rw [List.pairwise_append]
 exact ⟨h,List.pairwise_singleton _ _,fun y hy z hz=>by simp at hz;subst hz;exact hx y hy⟩
theorem mem_ix {l:List Int} {x:Int}:x∈l↔ ∃j,j<l.length∧l.getD j 0=x:=by
 constructor
 ·intro h
  obtain ⟨j,hj,rfl⟩:=List.getElem_of_mem h
  exact ⟨j,hj,getD_eq hj⟩
 ·rintro ⟨j,h2,rfl⟩
  exact getD_mem h2
structure Merge (a b out:List Int) (i j:Nat):Prop where
 la:i≤a.length
 lb:j≤b.length
 asc:Asc out
 mem: ∀x,x∈out↔(∃k,k<i∧a.getD k 0=x)∨(∃k,k<j∧b.getD k 0=x)
 na: ∀x∈out, ∀k,i≤k→k<a.length→x≤a.getD k 0
 nb: ∀x∈out, ∀k,j≤k→k<b.length→x≤b.getD k 0
 len:out.length≤i+j
theorem Merge.start (a b:List Int):Merge a b [] 0 0:=
 ⟨Nat.zero_le _,Nat.zero_le _,List.Pairwise.nil,(fun x=>by simp),(fun x hx=>by cases hx),(fun x hx=>by cases hx),by simp⟩
section
variable {a b out:List Int} {i j:Nat}
theorem Merge.push (h:Merge a b out i j) (ha:Asc a) (hb:Asc b) (hi:i<a.length) (hle:j<b.length→a.getD i 0≤b.getD j 0) (hn:a.getD i 0∉out):Merge a b (out++[a.getD i 0]) (i+1) j:=
 ⟨by omega,h.lb,asc_snoc h.asc fun y hy=>by
   have h1:=h.na y hy i (Nat.le_refl _) hi
   rcases Int.lt_or_eq_of_le h1 with h2|h2
   ·exact h2
   ·subst h2;exact absurd hy hn,fun x=>by
  rw [List.mem_append,h.mem x]
  simp only [List.mem_singleton]
  constructor
  ·rintro ((⟨k,hk,e⟩|e)|e)
   ·exact .inl ⟨k,by omega,e⟩
   ·exact .inr e
   ·exact .inl ⟨i,by omega,e.symm⟩
  ·rintro (⟨k,hk,e⟩|e)
   ·rcases Nat.lt_succ_iff_lt_or_eq.1 hk with h1|rfl
    ·exact .inl (.inl ⟨k,h1,e⟩)
    ·exact .inr e.symm
   ·exact .inl (.inr e),fun x hx k h1 h2=>by
  rcases List.mem_append.1 hx with hx|hx
  ·exact h.na x hx k (by omega) h2
  ·simp at hx;subst hx
   have :=asc_lt ha (i:=i) (j:=k) (by omega) h2;simp only [List.getD] at this ⊢;omega,fun x hx k h1 h2=>by
  rcases List.mem_append.1 hx with hx|hx
  ·exact h.nb x hx k h1 h2
  ·simp only [List.mem_singleton] at hx;subst hx
   have h3:=hle (by omega)
   rcases Nat.lt_or_eq_of_le h1 with h4|h4
   ·have :=asc_lt hb h4 h2;omega
   ·subst h4;exact h3,by have :=h.len;simp;omega⟩
theorem Merge.last (h:Merge a b out i j) (hi:i<a.length) (h0:0<out.length):a.getD i 0∈out↔out.getD (out.length-1) 0=a.getD i 0:=by
 constructor
 ·intro hm
  obtain ⟨k,hk,e⟩:=mem_ix.1 hm
  have h1:=h.na (out.getD (out.length-1) 0) (getD_mem (by omega)) i (Nat.le_refl _) hi
  rcases Nat.lt_or_eq_of_le (show k≤out.length-1 by omega) with h2|h2
  ·have :=asc_lt h.asc h2 (by omega);omega
  ·subst h2;exact e
 ·intro e;rw [←e];exact getD_mem (by omega)
theorem Merge.done (h:Merge a b out i j) (hi:i=a.length) (hj:j=b.length):Asc out∧ ∀x,x∈out↔x∈a∨x∈b:=by
 subst hi hj
 refine ⟨h.asc,fun x=> ?_⟩
 rw [h.mem x,mem_ix,mem_ix (l:=b)]
end
def Srt (l s:List Int):Prop:=Asc s∧(∀x,x∈s↔x∈l)∧s.length≤l.length
theorem Srt.nil_:Srt [] []:=⟨List.Pairwise.nil,fun x=>Iff.rfl,Nat.le_refl _⟩
theorem Srt.one (x:Int):Srt [x] [x]:=⟨List.pairwise_singleton _ _,fun x=>Iff.rfl,Nat.le_refl _⟩
theorem Srt.merge {l a b out:List Int} {h:Nat} {i j:Nat} (ha:Srt (l.take h) a) (hb:Srt (l.drop h) b) (hm:Merge a b out i j) (hi:i=a.length) (hj:j=b.length):Srt l out:=by
 obtain ⟨h1,h2⟩:=hm.done hi hj
 refine ⟨h1,fun x=> ?_, ?_⟩
 ·rw [h2 x,ha.2.1 x,hb.2.1 x, ←List.mem_append,List.take_append_drop]
 ·have e1:=hm.len
  have e2:=ha.2.2
  have e3:=hb.2.2
  rw [List.length_take] at e2
  rw [List.length_drop] at e3
  omega
end Sps
namespace Spn
def flat (l:L):List Int:=l.flatMap fun s=>[s.1,s.2]
theorem flat_snoc (l:L) (s:Int×Int):flat (l++[s])=flat l++[s.1,s.2]:=by simp [flat]
theorem flat_len (l:L):(flat l).length=2*l.length:=by
 induction l with
 |nil=>rfl
 |cons s r ih=>
         have e:flat (s::r)=[s.1,s.2]++flat r:=rfl
         rw [e,List.length_append,ih];simp;omega
theorem mem_flat {l:L} {x:Int}:x∈flat l↔ ∃s∈l,x=s.1∨x=s.2:=by simp [flat]
def kind (k:Int) (x y:Bool):Bool:=if k=1 then x||y else if k=2 then x&&y else x&& !y
theorem kind_no (k:Int):kind k false false=false:=by unfold kind;split<;>(try split)<;>rfl
theorem between {l s:List Int} (h:Sps.Srt l s) {i:Nat} (hi:i+1<s.length) {x:Int} (hx:x∈l):¬(s.getD i 0<x∧x<s.getD (i+1) 0):=by
 rintro ⟨h1,h2⟩
 obtain ⟨j,hj,rfl⟩:=Sps.mem_ix.1 ((h.2.1 x).2 hx)
 rcases Nat.lt_or_ge j (i+1) with c|c
 ·rcases Nat.lt_or_eq_of_le (show j≤i by omega) with d|d
  ·have :=Sps.asc_lt h.1 d (by omega);omega
  ·subst d;omega
 ·rcases Nat.lt_or_eq_of_le c with d|d
  ·have :=Sps.asc_lt h.1 d hj;omega
  ·subst d;omega
theorem before {l s:List Int} (h:Sps.Srt l s) (h0:0<s.length) {x:Int} (hx:x∈l):s.getD 0 0≤x:=by
 obtain ⟨j,hj,rfl⟩:=Sps.mem_ix.1 ((h.2.1 x).2 hx)
 rcases Nat.eq_zero_or_pos j with d|d
 ·subst d;exact Int.le_refl _
 ·have :=Sps.asc_lt h.1 d hj;omega
theorem behind {l s:List Int} (h:Sps.Srt l s) {i:Nat} (hi:i+1=s.length) {x:Int} (hx:x∈l):x≤s.getD i 0:=by
 obtain ⟨j,hj,rfl⟩:=Sps.mem_ix.1 ((h.2.1 x).2 hx)
 rcases Nat.lt_or_eq_of_le (show j≤i by omega) with d|d
 ·have :=Sps.asc_lt h.1 d (by omega);omega
 ·subst d;exact Int.le_refl _
theorem has_const {l:L} {p x:Int} (hpx:p≤x) (h: ∀s∈l,¬(p<s.1∧s.1≤x)∧¬(p<s.2∧s.2≤x)):has l x=has l p:=by
 rw [Bool.eq_iff_iff,has_iff,has_iff,cov_const l p x hpx h]
section
variable {a b:L} {s:List Int} {keep:Bool→Bool→Bool}
theorem kept_const (h:Sps.Srt (flat a++flat b) s) {i:Nat} (hi:i+1<s.length) {x:Int} (h1:s.getD i 0≤x) (h2:x<s.getD (i+1) 0):Kept keep a b x↔keep (has a (s.getD i 0)) (has b (s.getD i 0))=true:=by
 have ha:has a x=has a (s.getD i 0):=has_const h1 fun t ht=>by
  have e1:=between h hi (x:=t.1) (List.mem_append_left _ (mem_flat.2 ⟨t,ht,.inl rfl⟩))
  have e2:=between h hi (x:=t.2) (List.mem_append_left _ (mem_flat.2 ⟨t,ht,.inr rfl⟩))
  omega
 have hb:has b x=has b (s.getD i 0):=has_const h1 fun t ht=>by
  have e1:=between h hi (x:=t.1) (List.mem_append_right _ (mem_flat.2 ⟨t,ht,.inl rfl⟩))
  have e2:=between h hi (x:=t.2) (List.mem_append_right _ (mem_flat.2 ⟨t,ht,.inr rfl⟩))
  omega
 unfold Kept
 rw [ha,hb]
theorem kept_before (h:Sps.Srt (flat a++flat b) s) (hk:keep false false=false) {x:Int} (hx:0<s.length→x<s.getD 0 0):¬Kept keep a b x:=by
 have e: ∀{l:L},(∀y,y∈flat l→y∈flat a++flat b)→has l x=false:=fun {l} hl=>by
  rw [←Bool.not_eq_true,has_iff]
  rintro ⟨-,t,ht,h1,h2⟩
  have hm:=hl t.1 (mem_flat.2 ⟨t,ht,.inl rfl⟩)
  have h0:0<s.length:=List.length_pos_of_mem ((h.2.1 _).2 hm)
  have :=before h h0 hm
  have :=hx h0
  omega
 unfold Kept
 rw [e fun y hy=>List.mem_append_left _ hy,e fun y hy=>List.mem_append_right _ hy,hk];simp
theorem kept_behind (h:Sps.Srt (flat a++flat b) s) (hk:keep false false=false) {i:Nat} (hi:i+1=s.length) {x:Int} (hx:s.getD i 0≤x):¬Kept keep a b x:=by
 have e: ∀{l:L},(∀y,y∈flat l→y∈flat a++flat b)→has l x=false:=fun {l} hl=>by
  rw [←Bool.not_eq_true,has_iff]
  rintro ⟨-,t,ht,h1,h2⟩
  have :=behind h hi (hl t.2 (mem_flat.2 ⟨t,ht,.inr rfl⟩))
  omega
 unfold Kept
 rw [e fun y hy=>List.mem_append_left _ hy,e fun y hy=>List.mem_append_right _ hy,hk];simp
def RRound (keep:Bool→Bool→Bool) (a b:L) (s:List Int) (i:Nat) (out:L):Prop:=Upto (Kept keep a b) out (s.getD i 0)∧out.length≤i
theorem RRound.start (h:Sps.Srt (flat a++flat b) s) (hk:keep false false=false) (h0:0<s.length):RRound keep a b s 0 []:=
 ⟨Upto.start fun x hx=>kept_before h hk fun _=>hx,by simp⟩
theorem RRound.skip {i:Nat} {out:L} (h:Sps.Srt (flat a++flat b) s) (hr:RRound keep a b s i out) (hi:i+1<s.length) (hk:keep (has a (s.getD i 0)) (has b (s.getD i 0))=false):RRound keep a b s (i+1) out:=
 ⟨hr.1.skip (by have :=Sps.asc_lt h.1 (i:=i) (j:=i+1) (by omega) hi;omega) fun x h1 h2=>by rw [kept_const h hi h1 h2,hk];simp,by have :=hr.2;omega⟩
theorem RRound.grow {i:Nat} {out:L} (h:Sps.Srt (flat a++flat b) s) (hr:RRound keep a b s i out) (hi:i+1<s.length) (hk:keep (has a (s.getD i 0)) (has b (s.getD i 0))=true) (h0:0<out.length)
  (hl:(out.getD (out.length-1) (0,0)).2=s.getD i 0):RRound keep a b s (i+1) (close out (s.getD (i+1) 0)):=
 ⟨hr.1.grow (Sps.asc_lt h.1 (by omega) hi) (fun x h1 h2=>by rw [kept_const h hi h1 h2,hk]) h0 (by
  rcases List.eq_nil_or_concat out with rfl|⟨r,t,rfl⟩
  ·simp at h0
  ·rw [List.concat_eq_append] at *;simpa [List.getD] using hl),by rw [length_close];have :=hr.2;omega⟩
theorem RRound.add {i:Nat} {out:L} (h:Sps.Srt (flat a++flat b) s) (hr:RRound keep a b s i out) (hi:i+1<s.length) (hk:keep (has a (s.getD i 0)) (has b (s.getD i 0))=true)
  (hl:0<out.length→(out.getD (out.length-1) (0,0)).2≠s.getD i 0):RRound keep a b s (i+1) (out++[(s.getD i 0,s.getD (i+1) 0)]):=
 ⟨hr.1.add (Sps.asc_lt h.1 (by omega) hi) (fun x h1 h2=>by rw [kept_const h hi h1 h2,hk]) (by
  rcases List.eq_nil_or_concat out with rfl|⟨r,t,rfl⟩
  ·simp;omega
  ·rw [List.concat_eq_append] at *
   have :=hl (by simp)
   simpa [List.getD] using this),by have :=hr.2;simp;omega⟩
theorem RRound.final {i:Nat} {out:L} (h:Sps.Srt (flat a++flat b) s) (hk:keep false false=false) (hr:RRound keep a b s i out) (hi:i+1=s.length):Comb keep a b out:=
 hr.1.final fun x hx=>kept_behind h hk hi hx
end
end Spn
namespace Spn
def parts (l:L):L:=l.filter fun s=>decide (s.1<s.2)
theorem parts_snoc (l:L) (s:Int×Int):parts (l++[s])=parts l++(if s.1<s.2 then [s] else []):=by
 unfold parts
 rw [List.filter_append]
 congr 1
 by_cases h:s.1<s.2<;>simp [h]
theorem parts_len (l:L):(parts l).length≤l.length:=List.length_filter_le _ _
theorem mem_parts {l:L} {s:Int×Int}:s∈parts l↔s∈l∧s.1<s.2:=by simp [parts]
theorem cov_parts (l:L) (x:Int):cov (parts l) x↔cov l x:=by
 constructor
 ·rintro ⟨s,hs,a,b⟩;exact ⟨s,(mem_parts.1 hs).1,a,b⟩
 ·rintro ⟨s,hs,a,b⟩;exact ⟨s,mem_parts.2 ⟨hs,by omega⟩,a,b⟩
def bad1 (s:Int×Int):Prop:=s.1<s.2∧(s.1<0∨8589934592<s.2)
def Bad (l:L):Prop:= ∃s∈l,bad1 s
theorem bad_nil:¬Bad []:=by rintro ⟨s,h,_⟩;cases h
theorem bad_take {l:L} {k:Nat} (h:k<l.length) (hb:¬Bad (l.take k)) (h1:¬bad1 (l.getD k (0,0))):¬Bad (l.take (k+1)):=by
 rintro ⟨s,hs,hb1⟩
 rw [take_snoc l k (0,0) h] at hs
 rcases List.mem_append.1 hs with hs|hs
 ·exact hb ⟨s,hs,hb1⟩
 ·simp only [List.mem_singleton] at hs;subst hs;exact h1 hb1
def Norm (l r:L):Prop:=Chain r∧ ∀x,cov r x↔cov l x
def NR (l r:L) (er:Int):Prop:=
 (4096<l.length∧r=[]∧er=5)∨(l.length≤4096∧Bad l∧r=[]∧er=1)∨(l.length≤4096∧¬Bad l∧Norm l r∧er=0)
theorem NR.uniq {l r s:L} {e f:Int} (h:NR l r e) (h':NR l s f):r=s∧e=f:=by
 rcases h with ⟨a,b,c⟩|⟨a,b,c,d⟩|⟨a,b,c,d⟩<;>rcases h' with ⟨a',b',c'⟩|⟨a',b',c',d'⟩|⟨a',b',c',d'⟩
 ·exact ⟨by rw [b,b'],by rw [c,c']⟩
 ·omega
 ·omega
 ·omega
 ·exact ⟨by rw [c,c'],by rw [d,d']⟩
 ·exact absurd b b'
 ·omega
 ·exact absurd b' b
 ·exact ⟨Spn.uniq r s c.1 c'.1 fun x=>(c.2 x).trans (c'.2 x).symm,by rw [d,d']⟩
def AscF (d:L):Prop:= ∀i j,i<j→j<d.length→(d.getD i (0,0)).1≤(d.getD j (0,0)).1
structure Join (d:L) (k:Nat) (set:L):Prop where
 chain:Chain set
 cov: ∀x,cov set x↔Spn.cov (d.take k) x
 lo: ∀u∈set, ∀j,k≤j→j<d.length→u.1≤(d.getD j (0,0)).1
 len:set.length≤k
theorem Join.start (d:L):Join d 0 []:=⟨chain_nil,(fun x=>by simp),(fun u hu=>by cases hu),by simp⟩
section
variable {d set c:L} {k:Nat} {f t g u:Int}
theorem Join.merge (h:Join d k (c++[(f,t)])) (hd:AscF d) (hk:k<d.length) (hg:d.getD k (0,0)=(g,u)) (hgu:g<u) (hgt:g≤t):Join d (k+1) (c++[(f,max t u)]):=by
 have hfg:f≤g:=by have :=h.lo (f,t) (by simp) k (Nat.le_refl _) hk;rw [hg] at this;exact this
 obtain ⟨a1,a2,a3⟩:=chain_snoc.1 h.chain
 simp only at a2
 refine ⟨chain_snoc.2 ⟨a1,by simp only;omega,a3⟩,fun x=> ?_,fun v hv j h1 h2=> ?_,by have :=h.len;simp at this ⊢;omega⟩
 ·rw [take_snoc d k (0,0) hk,cov_snoc,cov_snoc,hg, ←h.cov x,cov_snoc]
  simp only
  constructor
  ·rintro (e|⟨e1,e2⟩)
   ·exact .inl (.inl e)
   ·by_cases e3:x<t
    ·exact .inl (.inr ⟨e1,e3⟩)
    ·exact .inr ⟨by omega,by omega⟩
  ·rintro ((e|⟨e1,e2⟩)|⟨e1,e2⟩)
   ·exact .inl e
   ·exact .inr ⟨e1,by omega⟩
   ·exact .inr ⟨by omega,by omega⟩
 ·rcases List.mem_append.1 hv with hv|hv
  ·exact h.lo v (List.mem_append_left _ hv) j (by omega) h2
  ·simp only [List.mem_singleton] at hv;subst hv
   have :=h.lo (f,t) (by simp) j (by omega) h2
   exact this
theorem Join.push (h:Join d k set) (hd:AscF d) (hk:k<d.length) (hg:d.getD k (0,0)=(g,u)) (hgu:g<u) (hl:0<set.length→(set.getD (set.length-1) (0,0)).2<g):Join d (k+1) (set++[(g,u)]):=by
 refine ⟨chain_snoc.2 ⟨h.chain,hgu,fun v hv=> ?_⟩,fun x=> ?_,fun v hv j h1 h2=> ?_,by have :=h.len;simp;omega⟩
 ·obtain ⟨i,hi,rfl⟩:=List.getElem_of_mem hv
  have h0:=hl (by omega)
  have h1:=chain_to h.chain (i:=i) (j:=set.length-1) (by omega) (by omega)
  rw [getD_eq hi] at h1
  simp only
  omega
 ·rw [take_snoc d k (0,0) hk,cov_snoc,cov_snoc,hg, ←h.cov x]
 ·rcases List.mem_append.1 hv with hv|hv
  ·exact h.lo v hv j (by omega) h2
  ·simp only [List.mem_singleton] at hv;subst hv
   have :=hd k j (by omega) h2
   rw [hg] at this
   exact this
theorem Join.final (h:Join d k set) (hk:k=d.length):Chain set∧ ∀x,Spn.cov set x↔Spn.cov d x:=by
 subst hk
 exact ⟨h.chain,fun x=>by rw [h.cov x,List.take_of_length_le (Nat.le_refl _)]⟩
end
def cnt:L→Int→Int
 |[],_=>0
 |s::r,x=>(if s.1≤x∧x<s.2 then 1 else 0)+cnt r x
def cntL:L→Int→Int
 |[],_=>0
 |s::r,x=>(if s.1=x then 1 else 0)+cntL r x
def cntR:L→Int→Int
 |[],_=>0
 |s::r,x=>(if s.2=x then 1 else 0)+cntR r x
theorem cnt_bd (l:L) (x:Int):(0≤cnt l x∧cnt l x≤l.length)∧(0≤cntL l x∧cntL l x≤l.length)∧(0≤cntR l x∧cntR l x≤l.length):=by
 induction l with
 |nil=>simp [cnt,cntL,cntR]
 |cons t r ih=>
  simp only [cnt,cntL,cntR,List.length_cons]
  refine ⟨?_, ?_, ?_⟩<;>split<;>omega
theorem cnt_pos (l:L) (x:Int):0<cnt l x↔cov l x:=by
 induction l with
 |nil=>simp [cnt,cov_nil]
 |cons t r ih=>
  have b:=(cnt_bd r x).1.1
  rw [cov_cons, ←ih]
  simp only [cnt]
  split
  ·rename_i h;exact ⟨fun _=> .inl h,fun _=>by omega⟩
  ·rename_i h;exact ⟨fun h2=> .inr (by omega),fun h2=>by rcases h2 with h2|h2;exact absurd h2 h;omega⟩
structure CRound (l:L) (ss:List Int) (i:Nat) (dep p:Int) (out:L):Prop where
 cn:dep=cnt l p
 sw:Sweep (cov l) out (decide (0<dep)) p
 lt:i<ss.length→p<ss.getD i 0
 free:i<ss.length→ ∀s∈l,¬(p<s.1∧s.1<ss.getD i 0)∧¬(p<s.2∧s.2<ss.getD i 0)
 fin:i=ss.length→ ∀x,p≤x→¬cov l x
 len:out.length≤i
section
variable {l out:L} {ss:List Int} {i:Nat} {dep p:Int}
theorem CRound.start (h:Sps.Srt (flat l) ss): ∃p,CRound l ss 0 0 p []:=by
 rcases Nat.eq_zero_or_pos ss.length with h0|h0
 ·have hl:l=[]:=by
   rcases l with _|⟨s,r⟩
   ·rfl
   ·have :=(h.2.1 s.1).2 (mem_flat.2 ⟨s,by simp,.inl rfl⟩)
    rw [List.eq_nil_of_length_eq_zero h0] at this;cases this
  subst hl
  exact ⟨0,rfl,Sweep.start fun x _=>cov_nil x,fun h=>by omega,fun h=>by omega,fun _ x _=>cov_nil x,by simp⟩
 ·have hb: ∀s∈l,ss.getD 0 0≤s.1:=fun s hs=>before h h0 (mem_flat.2 ⟨s,hs,.inl rfl⟩)
  have hb2: ∀s∈l,ss.getD 0 0≤s.2:=fun s hs=>before h h0 (mem_flat.2 ⟨s,hs,.inr rfl⟩)
  have hn: ∀x,x<ss.getD 0 0→¬cov l x:=fun x hx ⟨s,hs,h1,h2⟩=>by have :=hb s hs;omega
  refine ⟨ss.getD 0 0-1, ?_,Sweep.start fun x hx=>hn x (by omega),fun _=>by omega,fun _ s hs=> ?_,fun h=>by omega,by simp⟩
  ·have h1:=(cnt_bd l (ss.getD 0 0-1)).1.1
   have h2:¬0<cnt l (ss.getD 0 0-1):=fun h=>hn _ (by omega) ((cnt_pos _ _).1 h)
   omega
  ·have :=hb s hs;have :=hb2 s hs;omega
theorem CRound.next (h:CRound l ss i dep p out) (hs:Sps.Srt (flat l) ss) (hl: ∀s∈l,s.1<s.2) (hi:i<ss.length) (dep' q:Int) (hq:ss.getD i 0=q) (hd:dep'=cnt l q):
  CRound l ss (i+1) dep' q (if 0<dep' then (if 0<dep then out else out++[(q,0)]) else if 0<dep then close out q else out):=by
 have hlt:=h.lt hi
 have hfr:=h.free hi
 rw [hq] at hlt hfr
 have hc: ∀x,p≤x→x<q→(cov l x↔0<dep):=fun x h1 h2=>by
  rw [cov_const l p x h1 fun s hs=>by have :=hfr s hs;omega, ←cnt_pos,h.cn]
 refine ⟨hd, ?_,fun h1=>by rw [←hq];exact Sps.asc_lt hs.1 (by omega) h1,fun h1 s hs'=> ?_,fun h1 x hx=> ?_, ?_⟩
 ·have hsw:=h.sw
  by_cases a:0<dep'<;>by_cases b:0<dep
  ·rw [if_pos a,if_pos b,decide_eq_true a];rw [decide_eq_true b] at hsw
   exact hsw.stayOpen hlt fun x h1 h2=>(hc x h1 h2).2 b
  ·rw [if_pos a,if_neg b,decide_eq_true a];rw [decide_eq_false b] at hsw
   exact hsw.open_ hlt fun x h1 h2=>fun h3=>b ((hc x h1 h2).1 h3)
  ·rw [if_neg a,if_pos b,decide_eq_false a];rw [decide_eq_true b] at hsw
   exact hsw.close_ hlt fun x h1 h2=>(hc x h1 h2).2 b
  ·rw [if_neg a,if_neg b,decide_eq_false a];rw [decide_eq_false b] at hsw
   exact hsw.stayShut hlt fun x h1 h2=>fun h3=>b ((hc x h1 h2).1 h3)
 ·have e1:=between hs h1 (x:=s.1) (mem_flat.2 ⟨s,hs',.inl rfl⟩)
  have e2:=between hs h1 (x:=s.2) (mem_flat.2 ⟨s,hs',.inr rfl⟩)
  rw [hq] at e1 e2
  exact ⟨e1,e2⟩
 ·rintro ⟨s,hs',a,b⟩
  have :=behind hs h1 (x:=s.2) (mem_flat.2 ⟨s,hs',.inr rfl⟩)
  omega
 ·have :=h.len
  split<;>split<;>simp [length_close]<;>omega
theorem CRound.pos (h:CRound l ss i dep p out) (hd:0<dep): ∃c f,out=c++[(f,0)]:=by
 have hsw:=h.sw
 rw [decide_eq_true hd] at hsw
 obtain ⟨c,f,e, -⟩:=hsw.opened
 exact ⟨c,f,e⟩
theorem CRound.final (h:CRound l ss i dep p out) (hi:i=ss.length):Chain out∧ ∀x,cov l x↔cov out x:=by
 have h0:¬0<dep:=fun h1=>h.fin hi p (Int.le_refl _) ((cnt_pos _ _).1 (by rw [←h.cn];exact h1))
 have hsw:=h.sw
 rw [decide_eq_false h0] at hsw
 exact hsw.final (h.fin hi)
end
end Spn
