set_option linter.unusedVariables false
namespace Spn
abbrev L:=List (Int×Int)
def cov (l:L) (x:Int):Prop:= ∃s∈l,s.1≤x∧x<s.2
def Chain (l:L):Prop:=(∀s∈l,s.1<s.2)∧l.Pairwise fun s t=>s.2<t.1
theorem cov_nil (x:Int):¬cov [] x:=by rintro ⟨s,h,_⟩;cases h
theorem cov_cons (s:Int×Int) (l:L) (x:Int):cov (s::l) x↔(s.1≤x∧x<s.2)∨cov l x:=by
 unfold cov;simp
theorem cov_append (l m:L) (x:Int):cov (l++m) x↔cov l x∨cov m x:=by
 unfold cov
 constructor
 ·rintro ⟨s,h,hx⟩;rcases List.mem_append.1 h with h|h
  ·exact .inl ⟨s,h,hx⟩
  ·exact .inr ⟨s,h,hx⟩
 ·rintro (⟨s,h,hx⟩|⟨s,h,hx⟩)
  ·exact ⟨s,List.mem_append_left _ h,hx⟩
  ·exact ⟨s,List.mem_append_right _ h,hx⟩
theorem cov_snoc (l:L) (s:Int×Int) (x:Int):cov (l++[s]) x↔cov l x∨(s.1≤x∧x<s.2):=by
 rw [cov_append,cov_cons];simp [cov_nil]
theorem chain_nil:Chain []:=⟨by simp,List.Pairwise.nil⟩
theorem chain_cons {s:Int×Int} {l:L}:Chain (s::l)↔s.1<s.2∧(∀t∈l,s.2<t.1)∧Chain l:=by
 unfold Chain;simp [List.pairwise_cons]
 constructor
 ·rintro ⟨⟨a,b⟩,c,d⟩;exact ⟨a,c,b,d⟩
 ·rintro ⟨a,c,b,d⟩;exact ⟨⟨a,b⟩,c,d⟩
theorem chain_snoc {s:Int×Int} {l:L}:Chain (l++[s])↔Chain l∧s.1<s.2∧ ∀t∈l,t.2<s.1:=by
 unfold Chain
 rw [List.pairwise_append]
 constructor
 ·rintro ⟨a,b, -,c⟩
  exact ⟨⟨fun t ht=>a t (List.mem_append_left _ ht),b⟩,a s (by simp),fun t ht=>c t ht s (by simp)⟩
 ·rintro ⟨⟨a,b⟩,d,c⟩
  refine ⟨fun t ht=> ?_,b,List.pairwise_singleton _ _,fun t ht u hu=> ?_⟩
  ·rcases List.mem_append.1 ht with h|h
   ·exact a t h
   ·simp at h;subst h;exact d
  ·simp at hu;subst hu;exact c t ht
theorem uniq: ∀(l m:L),Chain l→Chain m→(∀x,cov l x↔cov m x)→l=m:=by
 intro l
 induction l with
 |nil=>
  intro m _ hm h
  rcases m with _|⟨t,m⟩
  ·rfl
  ·have :=(chain_cons.1 hm).1
   exact absurd ((h t.1).2 ((cov_cons _ _ _).2 (.inl ⟨by omega,by omega⟩))) (cov_nil _)
 |cons s l ih=>
  intro m hl hm h
  rcases m with _|⟨t,m⟩
  ·have :=(chain_cons.1 hl).1
   exact absurd ((h s.1).1 ((cov_cons _ _ _).2 (.inl ⟨by omega,by omega⟩))) (cov_nil _)
  ·obtain ⟨s1,s2,s3⟩:=chain_cons.1 hl
   obtain ⟨t1,t2,t3⟩:=chain_cons.1 hm
   have e1:s.1=t.1:=by
    have a:=(h s.1).1 ((cov_cons _ _ _).2 (.inl ⟨by omega,by omega⟩))
    have b:=(h t.1).2 ((cov_cons _ _ _).2 (.inl ⟨by omega,by omega⟩))
    rcases (cov_cons _ _ _).1 a with a|⟨u,hu,a1,a2⟩<;>rcases (cov_cons _ _ _).1 b with b|⟨v,hv,b1,b2⟩
    ·omega
    ·have :=s2 v hv;omega
    ·have :=t2 u hu;omega
    ·have :=s2 v hv;have :=t2 u hu;omega
   have e2:s.2=t.2:=by
    rcases Int.lt_trichotomy s.2 t.2 with c|c|c
    ·have b:=(h s.2).2 ((cov_cons _ _ _).2 (.inl ⟨by omega,by omega⟩))
     rcases (cov_cons _ _ _).1 b with b|⟨v,hv,b1,b2⟩
     ·omega
     ·have :=s2 v hv;omega
    ·exact c
    ·have a:=(h t.2).1 ((cov_cons _ _ _).2 (.inl ⟨by omega,by omega⟩))
     rcases (cov_cons _ _ _).1 a with a|⟨v,hv,b1,b2⟩
     ·omega
     ·have :=t2 v hv;omega
   have est:s=t:=Prod.ext e1 e2
   subst est
   congr 1
   refine ih m s3 t3 fun x=> ?_
   constructor
   ·rintro ⟨u,hu,a1,a2⟩
    have :=s2 u hu
    rcases (cov_cons _ _ _).1 ((h x).1 ((cov_cons _ _ _).2 (.inr ⟨u,hu,a1,a2⟩))) with b|b
    ·omega
    ·exact b
   ·rintro ⟨u,hu,a1,a2⟩
    have :=t2 u hu
    rcases (cov_cons _ _ _).1 ((h x).2 ((cov_cons _ _ _).2 (.inr ⟨u,hu,a1,a2⟩))) with b|b
    ·omega
    ·exact b
def okf (e:Int):L→Bool
 |[]=>true
 |s::r=>decide (e<s.1)&&decide (s.1<s.2)&&decide (s.2≤8589934592)&&okf s.2 r
def vld (l:L):Bool:=decide (l.length≤4096)&&okf (-1) l
theorem okf_iff: ∀(l:L) (e:Int),okf e l=true↔(∀s∈l,e<s.1∧s.2≤8589934592)∧Chain l:=by
 intro l
 induction l with
 |nil=>intro e;simp [okf,chain_nil]
 |cons s l ih=>
  intro e
  simp only [okf,Bool.and_eq_true,decide_eq_true_eq,ih,chain_cons]
  constructor
  ·rintro ⟨⟨⟨a,b⟩,c⟩,d,f⟩
   refine ⟨fun t ht=> ?_,b,fun t ht=>(d t ht).1,f⟩
   rcases List.mem_cons.1 ht with rfl|ht
   ·exact ⟨a,c⟩
   ·have :=d t ht;exact ⟨by omega,this.2⟩
  ·rintro ⟨a,b,c,d⟩
   exact ⟨⟨⟨(a s (by simp)).1,b⟩,(a s (by simp)).2⟩,fun t ht=>⟨c t ht,(a t (by simp [ht])).2⟩,d⟩
theorem vld_iff (l:L):vld l=true↔l.length≤4096∧(∀s∈l,0≤s.1∧s.2≤8589934592)∧Chain l:=by
 unfold vld
 simp only [Bool.and_eq_true,decide_eq_true_eq,okf_iff]
 constructor
 ·rintro ⟨a,b,c⟩;exact ⟨a,fun s hs=>⟨by have :=(b s hs).1;omega,(b s hs).2⟩,c⟩
 ·rintro ⟨a,b,c⟩;exact ⟨a,fun s hs=>⟨by have :=(b s hs).1;omega,(b s hs).2⟩,c⟩
theorem okf_cons (e:Int) (s:Int×Int) (r:L):okf e (s::r)=(decide (e<s.1)&&decide (s.1<s.2)&&decide (s.2≤8589934592)&&okf s.2 r):=rfl
theorem okf_no {e f t:Int} {r:L} (h:¬(e<f∧f<t∧t≤8589934592)):okf e ((f,t)::r)=false:=by
 rw [okf_cons]
 simp only [Bool.and_eq_false_iff,decide_eq_false_iff_not]
 exact .inl (by omega)
theorem okf_yes {e f t:Int} {r:L} (a:e<f) (b:f<t) (c:t≤8589934592):okf e ((f,t)::r)=okf t r:=by
 rw [okf_cons];simp [a,b,c]
theorem drop_cons {α:Type} (l:List α) (k:Nat) (d:α) (h:k<l.length):l.drop k=l.getD k d::l.drop (k+1):=by
 rw [List.drop_eq_getElem_cons h];simp [List.getD,List.getElem?_eq_getElem h]
theorem take_snoc {α:Type} (l:List α) (k:Nat) (d:α) (h:k<l.length):l.take (k+1)=l.take k++[l.getD k d]:=by
 rw [List.take_add_one];simp [List.getD,List.getElem?_eq_getElem h]
def nxt:L→Int→Option (Int×Int)
 |[],_=>none
 |s::r,x=>if x<s.2 then some s else nxt r x
def nx (l:L) (x:Int):Int×Int×Bool:=
 if vld l=true then (match nxt l x with|some s=>(s.1,s.2,true)|none=>(0,0,false)) else (0,0,false)
def has (l:L) (x:Int):Bool:=(nx l x).2.2&&decide ((nx l x).1≤x)
def fst (l:L) (x:Int):Int×Bool:=if (nx l x).2.2=true then (max (nx l x).1 x,true) else (0,false)
def sum:L→Int
 |[]=>0
 |s::r=>(s.2-s.1)+sum r
def len (l:L):Int:=if vld l=true then sum l else 0
theorem nx_none {l:L} {x:Int} (h:nxt l x=none):nx l x=(0,0,false):=by
 unfold nx;rw [h];simp
theorem nx_some {l:L} {x:Int} {s:Int×Int} (hv:vld l=true) (h:nxt l x=some s):nx l x=(s.1,s.2,true):=by
 unfold nx;rw [h,if_pos hv]
theorem nx_no {l:L} {x:Int} (hv:vld l=false):nx l x=(0,0,false):=by
 unfold nx;rw [hv];simp
theorem nxt_pos {s:Int×Int} {r:L} {x:Int} (h:x<s.2):nxt (s::r) x=some s:=by rw [nxt,if_pos h]
theorem nxt_neg {s:Int×Int} {r:L} {x:Int} (h:¬x<s.2):nxt (s::r) x=nxt r x:=by rw [nxt,if_neg h]
theorem nxt_mem: ∀{l:L} {x:Int} {s:Int×Int},nxt l x=some s→s∈l∧x<s.2
 |[],_,_,h=>by simp [nxt] at h
 |t::r,x,s,h=>by
  by_cases c:x<t.2
  ·rw [nxt_pos c] at h;cases h;exact ⟨by simp,c⟩
  ·rw [nxt_neg c] at h;have :=nxt_mem h;exact ⟨by simp [this.1],this.2⟩
theorem nxt_least: ∀{l:L} {x:Int} {s:Int×Int},Chain l→nxt l x=some s→ ∀u∈l,x<u.2→s.1≤u.1
 |[],_,_,_,h=>by simp [nxt] at h
 |t::r,x,s,hc,h=>by
  obtain ⟨a,b,c⟩:=chain_cons.1 hc
  intro u hu hx
  by_cases d:x<t.2
  ·rw [nxt_pos d] at h;cases h
   rcases List.mem_cons.1 hu with rfl|hu
   ·omega
   ·have :=b u hu;omega
  ·rw [nxt_neg d] at h
   rcases List.mem_cons.1 hu with rfl|hu
   ·exact absurd hx d
   ·exact nxt_least c h u hu hx
theorem nxt_all: ∀{l:L} {x:Int},nxt l x=none→ ∀u∈l,u.2≤x
 |[],_,_,u,hu=>by cases hu
 |t::r,x,h,u,hu=>by
  by_cases d:x<t.2
  ·rw [nxt_pos d] at h;cases h
  ·rw [nxt_neg d] at h
   rcases List.mem_cons.1 hu with rfl|hu
   ·omega
   ·exact nxt_all h u hu
theorem has_iff (l:L) (x:Int):has l x=true↔vld l=true∧cov l x:=by
 unfold has
 by_cases hv:vld l=true
 ·have hc:=((vld_iff l).1 hv).2.2
  rcases hn:nxt l x with _|s
  ·rw [nx_none hn];simp [hv]
   rintro ⟨u,hu,a,b⟩
   have :=nxt_all hn u hu;omega
  ·rw [nx_some hv hn];simp [hv]
   have hm:=nxt_mem hn
   constructor
   ·intro h;exact ⟨s,hm.1,h,hm.2⟩
   ·rintro ⟨u,hu,a,b⟩
    have :=nxt_least hc hn u hu b;omega
 ·rw [nx_no (by simpa using hv)];simp [hv]
theorem vld_all {l:L} (h:vld l=true): ∀s∈l,0≤s.1∧s.1<s.2∧s.2≤8589934592:=fun s hs=>by
 obtain ⟨-,b,c⟩:=(vld_iff l).1 h
 exact ⟨(b s hs).1,c.1 s hs,(b s hs).2⟩
theorem getD_mem {l:L} {k:Nat} (h:k<l.length):l.getD k (0,0)∈l:=by
 simp [List.getD,List.getElem?_eq_getElem h]
def brd (l:L) (i:Int):Int:=
 if 2*(l.length:Int)≤i then 8589934593 else if i%2=0 then (l.getD (i/2).toNat (0,0)).1 else (l.getD (i/2).toNat (0,0)).2
theorem chain_to {l:L} (hc:Chain l) {i j:Nat} (hij:i≤j) (hj:j<l.length):(l.getD i (0,0)).2≤(l.getD j (0,0)).2:=by
 have e: ∀j (h:j<l.length),l.getD j (0,0)=l[j]:=fun j h=>by simp [List.getD,List.getElem?_eq_getElem h]
 rw [e i (by omega),e j hj]
 rcases Nat.lt_or_eq_of_le hij with h|h
 ·have h1:=List.pairwise_iff_getElem.1 hc.2 i j (by omega) hj h
  have h2:=hc.1 l[j] (List.getElem_mem _)
  omega
 ·subst h;omega
def Sweep (K:Int→Prop) (out:L) (opn:Bool) (p:Int):Prop:=
 if opn=true then ∃c f,out=c++[(f,0)]∧Chain c∧(∀s∈c,s.2<f)∧f≤p∧ ∀x,x<p→(K x↔cov c x∨f≤x)
 else Chain out∧(∀s∈out,s.2≤p)∧ ∀x,x<p→(K x↔cov out x)
theorem Sweep.closed {K:Int→Prop} {out:L} {p:Int} (h:Sweep K out false p):Chain out∧(∀s∈out,s.2≤p)∧ ∀x,x<p→(K x↔cov out x):=by
 simpa [Sweep] using h
theorem Sweep.opened {K:Int→Prop} {out:L} {p:Int} (h:Sweep K out true p): ∃c f,out=c++[(f,0)]∧Chain c∧(∀s∈c,s.2<f)∧f≤p∧ ∀x,x<p→(K x↔cov c x∨f≤x):=by
 simpa [Sweep] using h
theorem Sweep.start {K:Int→Prop} {p:Int} (h: ∀x,x<p→¬K x):Sweep K [] false p:=by
 simp only [Sweep,Bool.false_eq_true,if_false]
 exact ⟨chain_nil,by simp,fun x hx=>⟨fun k=>absurd k (h x hx),fun k=>absurd k (cov_nil x)⟩⟩
def close (out:L) (p:Int):L:=out.set (out.length-1) ((out.getLastD (0,0)).1,p)
theorem close_snoc (c:L) (f g p:Int):close (c++[(f,g)]) p=c++[(f,p)]:=by
 simp [close]
section
variable {K:Int→Prop} {out:L} {p q:Int}
theorem Sweep.open_ (h:Sweep K out false p) (hpq:p<q) (hk: ∀x,p≤x→x<q→¬K x):Sweep K (out++[(q,0)]) true q:=by
 obtain ⟨a,b,c⟩:=h.closed
 simp only [Sweep,if_true]
 refine ⟨out,q,rfl,a,fun s hs=>by have :=b s hs;omega,by omega,fun x hx=> ?_⟩
 rcases Int.lt_or_le x p with hxp|hxp
 ·rw [c x hxp];exact ⟨.inl,fun h=>h.resolve_right (by omega)⟩
 ·constructor
  ·intro k;exact absurd k (hk x hxp hx)
  ·rintro (⟨s,hs,_,h2⟩|h2)
   ·have :=b s hs;omega
   ·omega
theorem Sweep.stayShut (h:Sweep K out false p) (hpq:p<q) (hk: ∀x,p≤x→x<q→¬K x):Sweep K out false q:=by
 obtain ⟨a,b,c⟩:=h.closed
 simp only [Sweep,Bool.false_eq_true,if_false]
 refine ⟨a,fun s hs=>by have :=b s hs;omega,fun x hx=> ?_⟩
 rcases Int.lt_or_le x p with hxp|hxp
 ·exact c x hxp
 ·exact ⟨fun k=>absurd k (hk x hxp hx),fun ⟨s,hs,_,h2⟩=>by have :=b s hs;omega⟩
theorem Sweep.stayOpen (h:Sweep K out true p) (hpq:p<q) (hk: ∀x,p≤x→x<q→K x):Sweep K out true q:=by
 obtain ⟨c,f,e,a,b,d,k⟩:=h.opened
 simp only [Sweep,if_true]
 refine ⟨c,f,e,a,b,by omega,fun x hx=> ?_⟩
 rcases Int.lt_or_le x p with hxp|hxp
 ·exact k x hxp
 ·exact ⟨fun _=> .inr (by omega),fun _=>hk x hxp hx⟩
theorem Sweep.close_ (h:Sweep K out true p) (hpq:p<q) (hk: ∀x,p≤x→x<q→K x):Sweep K (close out q) false q:=by
 obtain ⟨c,f,rfl,a,b,d,k⟩:=h.opened
 rw [close_snoc]
 simp only [Sweep,Bool.false_eq_true,if_false]
 refine ⟨chain_snoc.2 ⟨a,by simp;omega,fun t ht=>b t ht⟩,fun s hs=> ?_,fun x hx=> ?_⟩
 ·rcases List.mem_append.1 hs with h|h
  ·have :=b s h;omega
  ·simp at h;subst h;simp
 ·rw [cov_snoc]
  rcases Int.lt_or_le x p with hxp|hxp
  ·rw [k x hxp];simp;constructor
   ·rintro (h|h)
    ·exact .inl h
    ·exact .inr ⟨h,hx⟩
   ·rintro (h|h)
    ·exact .inl h
    ·exact .inr h.1
  ·exact ⟨fun _=> .inr ⟨by simp;omega,by simpa using hx⟩,fun _=>hk x hxp hx⟩
theorem Sweep.pos (h:Sweep K out true p):0<out.length:=by obtain ⟨c,f,rfl,_⟩:=h.opened;simp
theorem Sweep.final (h:Sweep K out false p) (hk: ∀x,p≤x→¬K x):Chain out∧ ∀x,K x↔cov out x:=by
 obtain ⟨a,b,c⟩:=h.closed
 refine ⟨a,fun x=> ?_⟩
 rcases Int.lt_or_le x p with hxp|hxp
 ·exact c x hxp
 ·exact ⟨fun k=>absurd k (hk x hxp),fun ⟨s,hs,_,h2⟩=>by have :=b s hs;omega⟩
end
theorem length_close (out:L) (p:Int):(close out p).length=out.length:=by simp [close]
def Upto (K:Int→Prop) (out:L) (p:Int):Prop:=Chain out∧(∀s∈out,s.2≤p)∧ ∀x,x<p→(K x↔cov out x)
section
variable {K:Int→Prop} {out:L} {p q:Int}
theorem Upto.start (h: ∀x,x<p→¬K x):Upto K [] p:=⟨chain_nil,by simp,fun x hx=>⟨fun k=>absurd k (h x hx),fun k=>absurd k (cov_nil x)⟩⟩
theorem Upto.skip (h:Upto K out p) (hpq:p≤q) (hk: ∀x,p≤x→x<q→¬K x):Upto K out q:=by
 obtain ⟨a,b,c⟩:=h
 refine ⟨a,fun s hs=>by have :=b s hs;omega,fun x hx=> ?_⟩
 rcases Int.lt_or_le x p with hxp|hxp
 ·exact c x hxp
 ·exact ⟨fun k=>absurd k (hk x hxp hx),fun ⟨s,hs,_,h2⟩=>by have :=b s hs;omega⟩
theorem Upto.add (h:Upto K out p) (hpq:p<q) (hk: ∀x,p≤x→x<q→K x) (hn:(out.getLastD (0,p-1)).2≠p):Upto K (out++[(p,q)]) q:=by
 obtain ⟨a,b,c⟩:=h
 have hlt: ∀t∈out,t.2<p:=by
  rcases List.eq_nil_or_concat out with rfl|⟨r,s,rfl⟩
  ·simp
  ·rw [List.concat_eq_append] at *
   intro t ht
   rcases List.mem_append.1 ht with h|h
   ·have h1:=(chain_snoc.1 a).2.2 t h
    have h2:=(chain_snoc.1 a).2.1
    have h3:=b s (by simp)
    omega
   ·simp at h;subst h
    have h3:=b t (by simp)
    simp at hn
    omega
 refine ⟨chain_snoc.2 ⟨a,by simpa using hpq,hlt⟩,fun s hs=> ?_,fun x hx=> ?_⟩
 ·rcases List.mem_append.1 hs with h|h
  ·have :=b s h;omega
  ·simp at h;subst h;simp
 ·rw [cov_snoc]
  rcases Int.lt_or_le x p with hxp|hxp
  ·rw [c x hxp];exact ⟨.inl,fun h=>h.resolve_right (by simp;omega)⟩
  ·exact ⟨fun _=> .inr ⟨by simpa using hxp,by simpa using hx⟩,fun _=>hk x hxp hx⟩
theorem Upto.grow (h:Upto K out p) (hpq:p<q) (hk: ∀x,p≤x→x<q→K x) (h0:0<out.length) (hn:(out.getLastD (0,0)).2=p):Upto K (close out q) q:=by
 obtain ⟨a,b,c⟩:=h
 rcases List.eq_nil_or_concat out with rfl|⟨r,s,rfl⟩
 ·simp at h0
 ·rw [List.concat_eq_append] at *
  obtain ⟨f,g⟩:=s
  simp at hn;subst hn
  rw [close_snoc]
  obtain ⟨a1,a2,a3⟩:=chain_snoc.1 a
  refine ⟨chain_snoc.2 ⟨a1,by simp at a2 ⊢;omega,a3⟩,fun s hs=> ?_,fun x hx=> ?_⟩
  ·rcases List.mem_append.1 hs with h|h
   ·have :=a3 s h;simp at a2 this;omega
   ·simp at h;subst h;simp
  ·rw [cov_snoc]
   rcases Int.lt_or_le x g with hxp|hxp
   ·rw [c x hxp,cov_snoc];simp;constructor
    ·rintro (h|h)
     ·exact .inl h
     ·exact .inr ⟨h.1,hx⟩
    ·rintro (h|h)
     ·exact .inl h
     ·exact .inr ⟨h.1,hxp⟩
   ·exact ⟨fun _=> .inr ⟨by simp at a2 ⊢;omega,by simpa using hx⟩,fun _=>hk x hxp hx⟩
theorem Upto.final (h:Upto K out p) (hk: ∀x,p≤x→¬K x):Chain out∧ ∀x,K x↔cov out x:=by
 obtain ⟨a,b,c⟩:=h
 refine ⟨a,fun x=> ?_⟩
 rcases Int.lt_or_le x p with hxp|hxp
 ·exact c x hxp
 ·exact ⟨fun k=>absurd k (hk x hxp),fun ⟨s,hs,_,h2⟩=>by have :=b s hs;omega⟩
end
theorem cov_const (l:L) (p x:Int) (hpx:p≤x) (h: ∀s∈l,¬(p<s.1∧s.1≤x)∧¬(p<s.2∧s.2≤x)):cov l x↔cov l p:=by
 constructor
 ·rintro ⟨s,hs,a,b⟩
  have :=h s hs
  exact ⟨s,hs,by omega,by omega⟩
 ·rintro ⟨s,hs,a,b⟩
  have :=h s hs
  exact ⟨s,hs,by omega,by omega⟩
end Spn
