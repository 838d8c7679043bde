import Derived.Test.YtfamcohbnoibaaaGreatDoorKG23
set_option linter.unusedVariables false
set_option linter.unusedSimpArgs false
namespace Go.Proofs.YtfamcohbnoibaaaGreatDoor
namespace Sg
abbrev S:=Int×Int×Int
def app (l:List S) (x:S):List S:=
 if x.2.1≤x.1 then l else match l.getLast? with
 |none=>l++[x]
 |some y=>if y.2.1=x.1∧y.2.2=x.2.2 then l.dropLast++[(y.1,x.2.1,x.2.2)] else l++[x]
def mrg (l:List S):List S:=l.foldl app []
def Seg (f:Int→Int):Option Int→Int→Int→List S→Prop
 |_,a,b,[]=>a=b
 |p,a,b,x::r=>x.1=a∧a<x.2.1∧p≠some x.2.2∧(∀t,a≤t→t<x.2.1→f t=x.2.2)∧Seg f (some x.2.2) x.2.1 b r
section
variable {f:Int→Int}
theorem Seg.le: ∀{l:List S} {p:Option Int} {a b:Int},Seg f p a b l→a≤b
 |[],_,_,_,h=>by unfold Seg at h;omega
 |x::r,_,_,_,h=>by
  obtain ⟨h1,h2, -, -,h3⟩:=h
  have :=h3.le
  omega
theorem Seg.weak: ∀{l:List S} {p:Option Int} {a b:Int},Seg f p a b l→Seg f none a b l
 |[],_,_,_,h=>h
 |x::r,_,_,_,⟨h1,h2,_,h4,h5⟩=>⟨h1,h2,by simp,h4,h5⟩
theorem Seg.lt {x:S} {r:List S} {p:Option Int} {a b:Int} (h:Seg f p a b (x::r)):a<b:=by
 have :=h.2.2.2.2.le
 have :=h.2.1
 omega
theorem Seg.uniq: ∀{l m:List S} {p q:Option Int} {a b:Int},Seg f p a b l→Seg f q a b m→l=m
 |[],[],_,_,_,_,_,_=>rfl
 |[],y::m,_,_,a,b,h,h'=>by
  have :=h'.lt
  unfold Seg at h;omega
 |x::l,[],_,_,a,b,h,h'=>by
  have :=h.lt
  unfold Seg at h';omega
 |(x1,x2,x3)::l,(y1,y2,y3)::m,p,q,a,b,h,h'=>by
  obtain ⟨h1,h2,h3,h4,h5⟩:=h
  obtain ⟨g1,g2,g3,g4,g5⟩:=h'
  simp only at h1 h2 h3 h4 h5 g1 g2 g3 g4 g5
  subst h1;subst g1
  obtain rfl:x3=y3:=by rw [←h4 y1 (Int.le_refl _) h2, ←g4 y1 (Int.le_refl _) g2]
  have key:x2=y2:=by
   rcases Int.lt_trichotomy x2 y2 with hlt|he|hgt
   ·exfalso
    cases l with
    |nil=>have :=g5.le;unfold Seg at h5;omega
    |cons z l=>
     obtain ⟨k1,k2,k3,k4, -⟩:=h5
     exact k3 (by rw [←k4 x2 (Int.le_refl _) k2, ←g4 x2 (by omega) hlt])
   ·exact he
   ·exfalso
    cases m with
    |nil=>have :=h5.le;unfold Seg at g5;omega
    |cons z l=>
     obtain ⟨k1,k2,k3,k4, -⟩:=g5
     exact k3 (by rw [←k4 y2 (Int.le_refl _) k2, ←h4 y2 (by omega) hgt])
  subst key
  rw [h5.uniq g5]
theorem Seg.has: ∀{l:List S} {p:Option Int} {a b t:Int},Seg f p a b l→a≤t→t<b→ ∃x∈l,x.1≤t∧t<x.2.1∧x.2.2=f t
 |[],_,_,_,_,h,h1,h2=>by unfold Seg at h;omega
 |x::r,_,a,b,t,⟨g1,g2,g3,g4,g5⟩,h1,h2=>by
  by_cases ht:t<x.2.1
  ·exact ⟨x,List.mem_cons_self ..,by omega,ht,(g4 t h1 ht).symm⟩
  ·obtain ⟨y,hy,k⟩:=g5.has (by omega) h2
   exact ⟨y,List.mem_cons_of_mem _ hy,k⟩
theorem Seg.mem: ∀{l:List S} {p:Option Int} {a b:Int},Seg f p a b l→ ∀x∈l,a≤x.1∧x.1<x.2.1∧x.2.1≤b∧ ∀t,x.1≤t→t<x.2.1→f t=x.2.2
 |[],_,_,_,_,x,hx=>by cases hx
 |y::r,_,a,b,⟨g1,g2,g3,g4,g5⟩,x,hx=>by
  have hb:=g5.le
  rcases List.mem_cons.1 hx with rfl|hx
  ·exact ⟨by omega,by omega,hb,fun t h1 h2=>g4 t (by omega) h2⟩
  ·obtain ⟨k1,k2,k3,k4⟩:=g5.mem x hx
   exact ⟨by omega,k2,k3,k4⟩
theorem Seg.congr {g:Int→Int}: ∀{l:List S} {p:Option Int} {a b:Int},Seg f p a b l→(∀t,a≤t→t<b→f t=g t)→Seg g p a b l
 |[],_,_,_,h,_=>h
 |x::r,_,a,b,⟨g1,g2,g3,g4,g5⟩,h=>by
  have hb:=g5.le
  exact ⟨g1,g2,g3,fun t h1 h2=>by rw [←h t h1 (by omega)];exact g4 t h1 h2,g5.congr fun t h1 h2=>h t (by omega) h2⟩
theorem Seg.snoc: ∀{l:List S} {p:Option Int} {a b c q:Int},Seg f p a b l→b<c→(∀t,b≤t→t<c→f t=q)→(∀y,l.getLast? =some y→y.2.2≠q)→(l=[]→p≠some q)→Seg f p a c (l++[(b,c,q)])
 |[],p,a,b,c,q,h,h1,h2,h3,h4=>by
  unfold Seg at h;subst h
  exact ⟨rfl,h1,h4 rfl,h2,rfl⟩
 |x::r,p,a,b,c,q,⟨g1,g2,g3,g4,g5⟩,h1,h2,h3,h4=>by
  refine ⟨g1,g2,g3,g4,g5.snoc h1 h2 (fun y hy=>h3 y ?_) fun hr=> ?_⟩
  ·cases r with
   |nil=>cases hy
   |cons z r=>simpa using hy
  ·subst hr
   have :=h3 x rfl
   simpa using this
theorem Seg.grow: ∀{l:List S} {p:Option Int} {a b c:Int} {y:S},Seg f p a b l→l.getLast? =some y→b<c→(∀t,b≤t→t<c→f t=y.2.2)→Seg f p a c (l.dropLast++[(y.1,c,y.2.2)])
 |[],_,_,_,_,_,_,h,_,_=>by cases h
 |[x],p,a,b,c,y,⟨g1,g2,g3,g4,g5⟩,hy,h1,h2=>by
  obtain rfl:x=y:=by simpa using hy
  unfold Seg at g5
  subst g5
  exact ⟨g1,by simp only;omega,g3,fun t k1 k2=>by
   by_cases ht:t<x.2.1
   ·exact g4 t k1 ht
   ·exact h2 t (by omega) k2,rfl⟩
 |x::z::r,p,a,b,c,y,⟨g1,g2,g3,g4,g5⟩,hy,h1,h2=>by
  have hy':(z::r).getLast? =some y:=by simpa using hy
  exact ⟨g1,g2,g3,g4,g5.grow hy' h1 h2⟩
theorem Seg.last: ∀{l:List S} {p:Option Int} {a b:Int} {y:S},Seg f p a b l→l.getLast? =some y→y.2.1=b
 |[],_,_,_,_,_,h=>by cases h
 |[x],p,a,b,y,⟨g1,g2,g3,g4,g5⟩,hy=>by
  obtain rfl:x=y:=by simpa using hy
  exact g5
 |x::z::r,p,a,b,y,⟨g1,g2,g3,g4,g5⟩,hy=>by
  have hy':(z::r).getLast? =some y:=by simpa using hy
  exact g5.last hy'
theorem Seg.app {l:List S} {a b c q:Int} (h:Seg f none a b l) (hbc:b≤c) (hf: ∀t,b≤t→t<c→f t=q):Seg f none a c (app l (b,c,q)):=by
 unfold Sg.app
 simp only
 by_cases hc:c≤b
 ·rw [if_pos hc]
  obtain rfl:b=c:=by omega
  exact h
 ·rw [if_neg hc]
  cases hl:l.getLast? with
  |none=>
   simp only
   exact h.snoc (by omega) hf (fun y hy=>by rw [hl] at hy;cases hy) (by simp)
  |some y=>
   simp only
   have hb:y.2.1=b:=h.last hl
   by_cases hq:y.2.2=q
   ·rw [if_pos ⟨hb,hq⟩]
    subst hq
    exact h.grow hl (by omega) hf
   ·rw [if_neg (fun k=>hq k.2)]
    exact h.snoc (by omega) hf (fun y' hy=>by rw [hl] at hy;cases hy;exact hq) (by simp)
theorem Seg.fold: ∀{m l:List S} {p:Option Int} {a b c:Int},Seg f none a b l→Seg f p b c m→Seg f none a c (m.foldl Sg.app l)
 |[],l,p,a,b,c,h,h'=>by unfold Seg at h';subst h';exact h
 |x::r,l,p,a,b,c,h,⟨g1,g2,g3,g4,g5⟩=>by
  obtain ⟨x1,x2,x3⟩:=x
  simp only at g1 g2 g3 g4 g5
  subst g1
  exact (h.app (Int.le_of_lt g2) g4).fold g5
theorem Seg.join {l m:List S} {p q:Option Int} {a b c:Int} (h:Seg f p a b l) (h':Seg f q b c m):Seg f none a c (mrg (l++m)):=by
 unfold mrg
 rw [List.foldl_append]
 exact (Seg.fold (l:=[]) (show Seg f none a a [] from rfl) h).fold h'
def Cut {β:Type} (g:Int→β) (cs:List Int) (a b:Int):Prop:= ∀t t',a≤t→t<t'→t'<b→g t≠g t'→ ∃c∈cs,t<c∧c≤t'
theorem Cut.mono {β:Type} {g:Int→β} {cs ds:List Int} {a b:Int} (h:Cut g cs a b) (hs: ∀c∈cs,c∈ds):Cut g ds a b:=
 fun t t' h1 h2 h3 h4=>(h t t' h1 h2 h3 h4).imp fun c hc=>⟨hs c hc.1,hc.2⟩
theorem Cut.map {β γ:Type} {g:Int→β} {cs:List Int} {a b:Int} (h:Cut g cs a b) (u:β→γ):Cut (fun t=>u (g t)) cs a b:=
 fun t t' h1 h2 h3 h4=>h t t' h1 h2 h3 fun e=>h4 (by simp only [e])
theorem Cut.pair {β γ δ:Type} {g:Int→β} {k:Int→γ} {cs ds:List Int} {a b:Int} (h:Cut g cs a b) (h':Cut k ds a b) (u:β→γ→δ):Cut (fun t=>u (g t) (k t)) (cs++ds) a b:=by
 intro t t' h1 h2 h3 h4
 by_cases hg:g t=g t'
 ·have hk:k t≠k t':=fun e=>h4 (by simp only [hg,e])
  obtain ⟨c,hc,k1⟩:=h' t t' h1 h2 h3 hk
  exact ⟨c,List.mem_append_right _ hc,k1⟩
 ·obtain ⟨c,hc,k1⟩:=h t t' h1 h2 h3 hg
  exact ⟨c,List.mem_append_left _ hc,k1⟩
theorem Cut.const {β:Type} (x:β) (cs:List Int) (a b:Int):Cut (fun _=>x) cs a b:=fun _ _ _ _ _ h=>absurd rfl h
end
end Sg
end Go.Proofs.YtfamcohbnoibaaaGreatDoor
namespace Go.Proofs.YtfamcohbnoibaaaGreatDoor
namespace Sg
open Zn Rc
theorem cut_shift {H:Int→Option Int} {sh:Int→Int} {hs:List Int} {a b:Int} (hsh: ∀t,a≤t→t<b→ShiftIs H t (sh t)) (hr:RangeIs H a b hs):Cut sh hs a b:=by
 intro t t' h1 h2 h3 hne
 have k1:=hsh t h1 (by omega)
 have k2:=hsh t' (by omega) h3
 rcases Int.lt_trichotomy (sh t) (sh t') with h|h|h
 ·obtain ⟨x,e,hx⟩:=k2.2.1 (by have :=k1.1;omega)
  have :=k1.2.2 (sh t') h (by have :=k1.1;omega) x e
  exact ⟨x,(hr.2 x).2 ⟨sh t',by have :=k1.1;omega,e,by omega,by omega⟩,this,hx⟩
 ·exact absurd h hne
 ·exfalso
  obtain ⟨x,e,hx⟩:=k1.2.1 (by have :=k2.1;omega)
  have :=k2.2.2 (sh t) h (by have :=k2.1;omega) x e
  omega
theorem offAt_cut: ∀{ts:L} {off t t':Int},t≤t'→offAt off ts t≠offAt off ts t'→(∃x∈ts,t<x.1∧x.1≤t')
 |[],off,t,t',_,h=>absurd rfl h
 |x::r,off,t,t',ht,h=>by
  unfold offAt at h
  by_cases h1:x.1≤t
  ·rw [if_pos h1,if_pos (by omega)] at h
   obtain ⟨y,hy,k⟩:=offAt_cut ht h
   exact ⟨y,List.mem_cons_of_mem _ hy,k⟩
  ·by_cases h2:x.1≤t'
   ·exact ⟨x,List.mem_cons_self ..,by omega,h2⟩
   ·rw [if_neg h1,if_neg h2] at h
    exact absurd rfl h
theorem cut_days {off:Int} {ts:L} {ds cs:List Int} {a b:Int} (ha:0≤a) (hb:b≤8589934593)
  (h1: ∀x∈ts,x.1∈cs) (h2: ∀d∈ds, ∀x,0≤x→x≤8589934592→(cl off ts x=d*86400∨cl off ts x=(d+1)*86400)→x∈cs):
  Cut (fun t=>ds.contains (cl off ts t/86400)) cs a b:=by
 intro t t' k1 k2 k3 hne
 by_cases ho:offAt off ts t=offAt off ts t'
 ·by_cases hall: ∃x∈ts,t<x.1∧x.1≤t'
  ·obtain ⟨x,hx,q1,q2⟩:=hall
   exact ⟨x.1,h1 x hx,q1,q2⟩
  ·have hc: ∀y,t≤y→y≤t'→offAt off ts y=offAt off ts t:=fun y y1 y2=>by
    by_cases e:offAt off ts t=offAt off ts y
    ·exact e.symm
    ·obtain ⟨x,hx,q1,q2⟩:=offAt_cut y1 e
     exact absurd ⟨x,hx,q1,by omega⟩ hall
   generalize hO:offAt off ts t=O at hc
   have key: ∀D,t+O<D→D≤t'+O→cl off ts (D-O)=D:=fun D q1 q2=>by
    unfold cl
    rw [hc (D-O) (by omega) (by omega)]
    omega
   have e1:cl off ts t/86400=(t+O)/86400:=by unfold cl;rw [hO]
   have e2:cl off ts t'/86400=(t'+O)/86400:=by unfold cl;rw [hc t' (by omega) (Int.le_refl _)]
   simp only [e1,e2] at hne
   have hlt:(t+O)/86400≤(t'+O)/86400:=by omega
   generalize hp:(t+O)/86400=p at *
   generalize hq:(t'+O)/86400=q at *
   by_cases hpc:ds.contains p=true
   ·have hpm:=List.contains_iff_mem.1 hpc
    have hpq:p<q:=by
     rcases Int.lt_or_eq_of_le hlt with h|h
     ·exact h
     ·exact absurd (by rw [h]) hne
    have :=key ((p+1)*86400) (by omega) (by omega)
    exact ⟨(p+1)*86400-O,h2 p hpm _ (by omega) (by omega) (.inr this),by omega,by omega⟩
   ·have hqc:ds.contains q=true:=by
     cases e:ds.contains q with
     |true=>rfl
     |false=>exact absurd (by rw [e];simpa using hpc) hne
    have hqm:=List.contains_iff_mem.1 hqc
    have hpq:p<q:=by
     rcases Int.lt_or_eq_of_le hlt with h|h
     ·exact h
     ·exact absurd (by rw [h]) hne
    have :=key (q*86400) (by omega) (by omega)
    exact ⟨q*86400-O,h2 q hqm _ (by omega) (by omega) (.inl this),by omega,by omega⟩
 ·obtain ⟨x,hx,q1,q2⟩:=offAt_cut (by omega) ho
  exact ⟨x.1,h1 x hx,q1,q2⟩
theorem cut_spans {K:Int→Bool} {s:List (Int×Int)} {cs:List Int} {a b:Int} (hK: ∀t,a≤t→t<b→(K t=true↔ ∃y∈s,y.1≤t∧t<y.2)) (hc: ∀y∈s,y.1∈cs∧y.2∈cs):Cut K cs a b:=by
 intro t t' k1 k2 k3 hne
 cases e:K t with
 |true=>
  obtain ⟨y,hy,q1,q2⟩:=(hK t k1 (by omega)).1 e
  have e':K t'=false:=by cases e2:K t' with
   |true=>exact absurd (e.trans e2.symm) hne
   |false=>rfl
  have :¬t'<y.2:=fun h=>by
   have :=(hK t' (by omega) k3).2 ⟨y,hy,by omega,h⟩
   rw [e'] at this;cases this
  exact ⟨y.2,(hc y hy).2,q2,by omega⟩
 |false=>
  have e':K t'=true:=by cases e2:K t' with
   |true=>rfl
   |false=>exact absurd (e.trans e2.symm) hne
  obtain ⟨y,hy,q1,q2⟩:=(hK t' (by omega) k3).1 e'
  have :¬y.1≤t:=fun h=>by
   have :=(hK t k1 (by omega)).2 ⟨y,hy,h,by omega⟩
   rw [e] at this;cases this
  exact ⟨y.1,(hc y hy).1,by omega,q1⟩
end Sg
end Go.Proofs.YtfamcohbnoibaaaGreatDoor
