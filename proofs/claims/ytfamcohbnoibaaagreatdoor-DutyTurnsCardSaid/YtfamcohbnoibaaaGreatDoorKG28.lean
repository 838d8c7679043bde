import Derived.Test.YtfamcohbnoibaaaGreatDoorKG27
import Derived.Test.YtfamcohbnoibaaaGreatDoorKG29
import Derived.Test.YtfamcohbnoibaaaGreatDoorKG00
set_option linter.unusedVariables false
set_option linter.unusedSimpArgs false
namespace Go.Proofs.YtfamcohbnoibaaaGreatDoor
namespace Sg
open Zn
open Wk hiding L
def J (K:Int→Bool) (s:List (Int×Int)) (a b:Int):Prop:=Up K s a b∨ ∃s0,s=s0++[(b,b)]∧Up K s0 a b∧(∀y,s0.getLast? =some y→y.2≠b)∧K b=true
variable {K:Int→Bool}
theorem J.start (K:Int→Bool) (a:Int):J K [] a a:= .inl (up_nil K a)
theorem J.up {s:List (Int×Int)} {a b c:Int} (h:J K s a b) (hab:a≤b) (hbc:b<c) (hk: ∀t,b≤t→t<c→K t=true):Up K (jn s (b,c)) a c:=by
 rcases h with h|⟨s0,rfl,h,hl, -⟩
 ·rw [jn_add hbc]
  exact up_add h hab hbc hk
 ·have e:jn (s0++[(b,b)]) (b,c)=addP s0 b c:=by
   have e1:jn (s0++[(b,b)]) (b,c)=s0++[(b,c)]:=by unfold jn;simp
   rw [e1]
   cases hs:s0.getLast? with
   |none=>
    rw [List.getLast?_eq_none_iff] at hs
    subst hs
    rw [addP_first (by omega)];rfl
   |some y=>rw [addP_app (by omega) hs (hl y hs)]
  rw [e]
  exact up_add h hab hbc hk
theorem app_len (l:List S) (x:S):(app l x).length≤l.length+1:=by
 unfold app
 split
 ·omega
 ·split
  ·simp
  ·split
   ·simp only [List.length_append,List.length_dropLast,List.length_singleton];omega
   ·simp
def secs (l:List S):Int:=(l.map fun x=>if 0≤x.2.2 then x.2.1-x.1 else 0).sum
theorem Seg.secs {f:Int→Int}: ∀{l:List S} {p:Option Int} {a b:Int},Seg f p a b l→secs l=Wk.cnt (fun t=>decide (0≤f t)) a (b-a).toNat
 |[],_,a,b,h=>by unfold Seg at h;subst h;simp [Sg.secs,Wk.cnt]
 |x::r,_,a,b,⟨g1,g2,g3,g4,g5⟩=>by
  have hb:=g5.le
  have e1:(b-a).toNat=(x.2.1-a).toNat+(b-x.2.1).toNat:=by omega
  have e2:a+((x.2.1-a).toNat:Int)=x.2.1:=by omega
  have e3:=g5.secs
  rw [e1,cnt_split,e2, ←e3]
  have e4:Sg.secs (x::r)=(if 0≤x.2.2 then x.2.1-x.1 else 0)+Sg.secs r:=by unfold Sg.secs;simp
  rw [e4]
  congr 1
  by_cases hp:0≤x.2.2
  ·rw [if_pos hp,cnt_all]
   ·omega
   ·intro i hi
    rw [g4 (a+i) (by omega) (by omega)]
    exact decide_eq_true hp
  ·rw [if_neg hp,cnt_none]
   intro i hi
   rw [g4 (a+i) (by omega) (by omega)]
   exact decide_eq_false hp
theorem Seg.sum {f:Int→Int} {l:List S} {p:Option Int} {a b:Int} {s:List (Int×Int)} (h:Seg f p a b l) (hs:Up K s a b) (hk: ∀t,a≤t→t<b→K t=decide (0≤f t)):Sg.secs l=Spn.sum s:=by
 rw [h.secs,up_sum hs h.le]
 refine cnt_congr _ fun i hi=> ?_
 rw [hk (a+i) (by omega) (by have :=h.le;omega)]
end Sg
end Go.Proofs.YtfamcohbnoibaaaGreatDoor
namespace Go.Proofs.YtfamcohbnoibaaaGreatDoor
namespace Sg
open Zn Rc
open Wk hiding L
structure Dy where
 off:Int
 ts:L
 u:Int
 n:Int
 D:Int
 S:Int
 ms:List Int
 ws:List (Int×Int)
 mode:Int
 off2:Int
 ts2:L
 ds:List Int
def Dy.H (d:Dy):Int→Option Int:=hV d.off d.ts d.u d.n d.D d.S
structure Dy.Ok (d:Dy):Prop where
 z:Vz d.off d.ts
 rt:Rc.Rt d.u d.n d.D d.S
 m:0<d.ms.length
 w:Wk.Rt 0 d.ws
 wl:d.ws.length≤14
 md:0≤d.mode∧d.mode≤2
 z2:d.mode≠0→Vz d.off2 d.ts2
theorem shift_any {H:Int→Option Int} {t:Int}: ∀N:Nat,(∀j,(N:Int)≤j→ ∀a,H j=some a→t<a)→ ∃k,ShiftIs H t k
 |0,h=>⟨-1,by omega,fun h=>by omega,fun j _ h0 a ea=>h j (by omega) a ea⟩
 |N+1,h=>by
  by_cases hN: ∃a,H N=some a∧a≤t
  ·exact ⟨N,by omega,fun _=>hN,fun j hj _ a ea=>h j (by omega) a ea⟩
  ·refine shift_any N fun j hj a ea=> ?_
   rcases Int.lt_or_eq_of_le hj with hlt|rfl
   ·exact h j (by omega) a ea
   ·rcases Int.lt_or_le t a with h1|h1
    ·exact h1
    ·exact absurd ⟨a,ea,h1⟩ hN
theorem Dy.Ok.shift {d:Dy} (h:d.Ok) (t:Int): ∃k,ShiftIs d.H t k:=
 shift_any 2386093 fun j hj a ea=>by
  unfold Dy.H at ea
  rw [hV_high h.z h.rt (by omega)] at ea
  cases ea
open Classical in
noncomputable def Dy.sh (d:Dy) (t:Int):Int:=if h: ∃k,ShiftIs d.H t k then h.choose else -1
theorem Dy.sh_eq {d:Dy} {t k:Int} (h:ShiftIs d.H t k):d.sh t=k:=by
 unfold Dy.sh
 rw [dif_pos ⟨k,h⟩]
 exact (Exists.choose_spec (⟨k,h⟩: ∃k,ShiftIs d.H t k)).eq h
theorem Dy.Ok.sh {d:Dy} (h:d.Ok) (t:Int):ShiftIs d.H t (d.sh t):=by
 obtain ⟨k,hk⟩:=h.shift t
 rw [Dy.sh_eq hk];exact hk
def Dy.win (d:Dy) (t:Int):Bool:=d.ws.isEmpty||within d.ws (sow (cl d.off d.ts t))
def Dy.cal (d:Dy) (t:Int):Bool:=decide (d.mode=0)||(d.ds.contains (cl d.off2 d.ts2 t/86400)==decide (d.mode=2))
noncomputable def Dy.on (d:Dy) (t:Int):Bool:=decide (0≤d.sh t)&&(d.win t&&d.cal t)
noncomputable def Dy.per (d:Dy) (t:Int):Int:=if d.on t=true then d.ms.getD ((d.sh t).toNat%d.ms.length) 0 else -1
structure Dy.Cuts (d:Dy) (a b:Int) (cs:List Int):Prop where
 sh: ∃hs,RangeIs d.H a b hs∧ ∀x∈hs,x∈cs
 win:d.ws≠[]→ ∃s,Up (fun x=>within d.ws (sow (cl d.off d.ts x))) s a b∧ ∀y∈s,y.1∈cs∧y.2∈cs
 trans:d.mode≠0→ ∀x∈d.ts2,x.1∈cs
 days:d.mode≠0→ ∀e∈d.ds, ∀x,0≤x→x≤8589934592→(cl d.off2 d.ts2 x=e*86400∨cl d.off2 d.ts2 x=(e+1)*86400)→x∈cs
theorem Dy.Cuts.cut {d:Dy} (h:d.Ok) {a b:Int} {cs:List Int} (hc:d.Cuts a b cs) (ha:0≤a) (hb:b≤8589934593):Cut (fun t=>(d.sh t,d.on t)) cs a b:=by
 obtain ⟨hs,hr,hs2⟩:=hc.sh
 have c1:Cut d.sh cs a b:=(cut_shift (fun t _ _=>h.sh t) hr).mono hs2
 have c2:Cut d.win cs a b:=by
  by_cases hw:d.ws=[]
  ·intro t t' _ _ _ hne
   exact absurd (by unfold Dy.win;rw [hw];rfl) hne
  ·obtain ⟨s,hu,hs3⟩:=hc.win hw
   refine cut_spans (fun t k1 k2=> ?_) hs3
   unfold Dy.win
   have e:d.ws.isEmpty=false:=by cases e:d.ws with
    |nil=>exact absurd e hw
    |cons x r=>rfl
   rw [e,Bool.false_or]
   refine Iff.trans ?_ (show Spn.cov s t↔_ from Iff.rfl)
   rw [hu.2.2 t]
   exact ⟨fun h=>⟨k1,k2,h⟩,fun h=>h.2.2⟩
 have c3:Cut d.cal cs a b:=by
  by_cases hm:d.mode=0
  ·intro t t' _ _ _ hne
   exact absurd (by unfold Dy.cal;rw [hm];rfl) hne
  ·exact (cut_days ha hb (hc.trans hm) (hc.days hm)).map fun x=>decide (d.mode=0)||(x==decide (d.mode=2))
 have c4:=(c2.pair c3 (fun x y=>x&&y)).mono (ds:=cs) (fun c hc=>by simpa using hc)
 have c5:=(c1.pair c4 (fun x y=>(x,decide (0≤x)&&y))).mono (ds:=cs) (fun c hc=>by simpa using hc)
 exact c5
theorem Dy.Cuts.per {d:Dy} (h:d.Ok) {a b:Int} {cs:List Int} (hc:d.Cuts a b cs) (ha:0≤a) (hb:b≤8589934593):Cut d.per cs a b:=
 (hc.cut h ha hb).map fun x=>if x.2=true then d.ms.getD (x.1.toNat%d.ms.length) 0 else -1
theorem Dy.Cuts.on {d:Dy} (h:d.Ok) {a b:Int} {cs:List Int} (hc:d.Cuts a b cs) (ha:0≤a) (hb:b≤8589934593):Cut d.on cs a b:=
 (hc.cut h ha hb).map fun x=>x.2
structure TOut (ok:Bool) (K:Int→Bool) (f t:Int) (l:List (Int×Int)) (er:Int):Prop where
 no:ok=false→l=[]∧er=8
 far:ok=true→¬(0≤f∧f≤8589934592∧f≤t∧t≤8589934592∧t-f≤34560000)→l=[]∧er=1
 yes:ok=true→(0≤f∧f≤8589934592∧f≤t∧t≤8589934592∧t-f≤34560000)→ ∃s,Up K s f t∧((s.length≤4096∧l=s∧er=0)∨(4096<s.length∧l=[]∧er=5))
structure GOut (ok:Bool) (p:Int→Int) (f t:Int) (l:List S) (er:Int):Prop where
 no:ok=false→l=[]∧er=8
 far:ok=true→¬(0≤f∧f≤8589934592∧f≤t∧t≤8589934592∧t-f≤34560000)→l=[]∧er=1
 yes:ok=true→(0≤f∧f≤8589934592∧f≤t∧t≤8589934592∧t-f≤34560000)→ ∃s,Seg p none f t s∧((s.length≤16384∧l=s∧er=0)∨(16384<s.length∧l=[]∧er=5))
theorem up_eq {K:Int→Bool} {s s2:List (Int×Int)} {f t:Int} (h:Up K s f t) (h2:Up K s2 f t):s=s2:=
 Spn.uniq s s2 h.1 h2.1 fun x=>(h.2.2 x).trans (h2.2.2 x).symm
theorem TOut.eq {ok:Bool} {K:Int→Bool} {f t er er2:Int} {l l2:List (Int×Int)} (h:TOut ok K f t l er) (h2:TOut ok K f t l2 er2):l=l2∧er=er2:=by
 cases ok with
 |false=>obtain ⟨a,b⟩:=h.no rfl;obtain ⟨c,d⟩:=h2.no rfl;exact ⟨a.trans c.symm,b.trans d.symm⟩
 |true=>
  by_cases hf:(0≤f∧f≤8589934592∧f≤t∧t≤8589934592∧t-f≤34560000)
  ·obtain ⟨s,u1,c1⟩:=h.yes rfl hf
   obtain ⟨s2,u2,c2⟩:=h2.yes rfl hf
   obtain rfl:=up_eq u1 u2
   rcases c1 with ⟨q,rfl,rfl⟩|⟨q,rfl,rfl⟩<;>rcases c2 with ⟨q',rfl,rfl⟩|⟨q',rfl,rfl⟩<;>first|exact ⟨rfl,rfl⟩|(exfalso;omega)
  ·obtain ⟨a,b⟩:=h.far rfl hf;obtain ⟨c,d⟩:=h2.far rfl hf;exact ⟨a.trans c.symm,b.trans d.symm⟩
theorem GOut.eq {ok:Bool} {p:Int→Int} {f t er er2:Int} {l l2:List S} (h:GOut ok p f t l er) (h2:GOut ok p f t l2 er2):l=l2∧er=er2:=by
 cases ok with
 |false=>obtain ⟨a,b⟩:=h.no rfl;obtain ⟨c,d⟩:=h2.no rfl;exact ⟨a.trans c.symm,b.trans d.symm⟩
 |true=>
  by_cases hf:(0≤f∧f≤8589934592∧f≤t∧t≤8589934592∧t-f≤34560000)
  ·obtain ⟨s,u1,c1⟩:=h.yes rfl hf
   obtain ⟨s2,u2,c2⟩:=h2.yes rfl hf
   obtain rfl:=u1.uniq u2
   rcases c1 with ⟨q,rfl,rfl⟩|⟨q,rfl,rfl⟩<;>rcases c2 with ⟨q',rfl,rfl⟩|⟨q',rfl,rfl⟩<;>first|exact ⟨rfl,rfl⟩|(exfalso;omega)
  ·obtain ⟨a,b⟩:=h.far rfl hf;obtain ⟨c,d⟩:=h2.far rfl hf;exact ⟨a.trans c.symm,b.trans d.symm⟩
end Sg
end Go.Proofs.YtfamcohbnoibaaaGreatDoor
namespace Go.Proofs.YtfamcohbnoibaaaGreatDoor
namespace Sg
open Zn Rc
open Wk hiding L
theorem range_len {H:Int→Option Int} (hH: ∀k j a b,0≤k→k<j→H k=some a→H j=some b→a<b): ∀{l:List Int} {K0 K1:Int},l.Pairwise (· < ·)→(∀a∈l, ∃k,0≤k∧K0≤k∧k≤K1∧H k=some a)→(l.length:Int)≤max 0 (K1-K0+1)
 |[],K0,K1,_,_=>by simp;omega
 |a::r,K0,K1,hp,h=>by
  obtain ⟨h1,h2⟩:=List.pairwise_cons.1 hp
  obtain ⟨k,k0,k1,k2,k3⟩:=h a (List.mem_cons_self ..)
  have :=range_len hH (K0:=k+1) (K1:=K1) h2 fun b hb=>by
   obtain ⟨j,j0,j1,j2,j3⟩:=h b (List.mem_cons_of_mem _ hb)
   refine ⟨j,j0, ?_,j2,j3⟩
   rcases Int.lt_trichotomy j k with hlt|rfl|hgt
   ·have :=hH j k b a j0 hlt j3 k3
    have :=h1 b hb
    omega
   ·rw [j3] at k3;cases k3
    have :=h1 a hb
    omega
   ·omega
  simp only [List.length_cons]
  omega
theorem range_few {off:Int} {ts:L} {u n D S f t:Int} {l:List Int} (hz:Vz off ts) (h:Rc.Rt u n D S) (hr:RangeIs (hV off ts u n D S) f t l) (hft:f≤t):(l.length:Int)≤(t-f+129600)/3600+3:=by
 cases l with
 |nil=>simp;omega
 |cons a r=>
  obtain ⟨k,k0,ek,fk,tk⟩:=(hr.2 a).1 (List.mem_cons_self ..)
  have hH: ∀k j a b,0≤k→k<j→hV off ts u n D S k=some a→hV off ts u n D S j=some b→a<b:=fun k j a b h0 h1 e1 e2=>hV_lt hz h h0 h1 e1 e2
  have hp:=(List.pairwise_cons.1 hr.1).1
  have key: ∀j b,k≤j→hV off ts u n D S j=some b→b<t→j≤k+(t-f+129600)/3600+2:=fun j b hj eb hb=>by
   unfold hV at ek eb
   have hn:=h.n1
   by_cases hu:u=0
   ·rw [if_pos hu] at ek eb
    cases e:fst (locS D S) (strs 0 off ts) with
    |none=>rw [e] at ek;cases ek
    |some x=>
     rw [e] at ek eb
     simp only [Option.bind_some] at ek eb
     split at ek
     ·split at eb
      ·simp only [Option.some.injEq] at ek eb
       have h1:(j-k)*1≤(j-k)*n:=Int.mul_le_mul_of_nonneg_left hn (by omega)
       have h2:(j-k)*n=j*n-k*n:=Int.sub_mul ..
       omega
      ·cases eb
     ·cases ek
   ·rw [if_neg hu] at ek eb
    have hs:=h.step
    have h1:(j-k)*1≤(j-k)*stp u n:=Int.mul_le_mul_of_nonneg_left hs (by omega)
    have h2:(j-k)*stp u n=j*stp u n-k*stp u n:=Int.sub_mul ..
    have hdk:=h.day k0
    have hdj:=h.day (k:=j) (by omega)
    obtain ⟨a1,a2,a3,a4,a5, -⟩:=fst_facts hz (locS_lo hdk h.s0) ek
    obtain ⟨b1,b2,b3,b4,b5, -⟩:=fst_facts hz (locS_lo hdj h.s0) eb
    have hs0:=h.s0
    by_cases hf:99422≤D+j*stp u n
    ·rw [fst_high hz (locS_far hf hs0)] at eb;cases eb
    ·rw [locS_of (by omega) (by omega)] at b3 b5
     rw [locS_of (by omega) (by omega)] at a3 a5
     have c1:=hz.bd a
     have c2:=hz.bd b
     unfold cl at a3 a5 b3 b5
     omega
  have :=range_len hH (K0:=k) (K1:=k+(t-f+129600)/3600+2) hr.1 fun b hb=>by
   obtain ⟨j,j0,ej,fj,tj⟩:=(hr.2 b).1 hb
   have hkj:k≤j:=by
    rcases Int.lt_or_le j k with hlt|hge
    ·have :=hH j k b a j0 hlt ej ek
     rcases List.mem_cons.1 hb with rfl|hb
     ·omega
     ·have :=hp b hb;omega
    ·exact hge
   exact ⟨j,j0,hkj,key j b hkj ej tj,ej⟩
  omega
end Sg
end Go.Proofs.YtfamcohbnoibaaaGreatDoor
namespace Go.Proofs.YtfamcohbnoibaaaGreatDoor
namespace Sg
open Zn Rc
open Wk hiding L
variable {d:Dy}
theorem Dy.Ok.sh_at (h:d.Ok) {k a t:Int} (hk:0≤k) (ea:d.H k=some a) (ha:a≤t) (hb: ∀b,d.H (k+1)=some b→t<b):d.sh t=k:=
 Dy.sh_eq (shift_of h.z h.rt hk ea ha hb)
theorem Dy.Ok.sh_no (h:d.Ok) {a t:Int} (ea:d.H 0=some a) (ht:t<a):d.sh t= -1:=by
 have :=h.sh t
 rcases Int.lt_or_le (d.sh t) 0 with h1|h1
 ·have :=this.1;omega
 ·exfalso
  obtain ⟨b,eb,hb⟩:=this.2.1 h1
  obtain ⟨c,ec,hc⟩:=hV_down h.z h.rt (k:=0) (j:=d.sh t) (Int.le_refl _) h1 eb
  have e:d.H 0=some c:=ec
  rw [e] at ea;cases ea
  omega
theorem Dy.off_neg {t:Int} (h:d.sh t<0):d.on t=false∧d.per t= -1:=by
 have e:d.on t=false:=by
  unfold Dy.on
  rw [decide_eq_false (by omega),Bool.false_and]
 exact ⟨e,by unfold Dy.per;rw [e];rfl⟩
def Dy.with (d:Dy) (m:Int):Dy:={d with mode:=m}
theorem GOut.few {p:Int→Int} {f t er:Int} {l:List S} (h:GOut true p f t l er) (hf:0≤f∧f≤8589934592∧f≤t∧t≤8589934592∧t-f≤34560000) {s:List S} (hs:Seg p none f t s) (hl:s.length≤16384):er=0∧l=s:=by
 obtain ⟨s',h1,h2⟩:=h.yes rfl hf
 obtain rfl:=h1.uniq hs
 rcases h2 with ⟨-,rfl,rfl⟩|⟨h3, -⟩
 ·exact ⟨rfl,rfl⟩
 ·omega
theorem TOut.few {K:Int→Bool} {f t er:Int} {l:List (Int×Int)} (h:TOut true K f t l er) (hf:0≤f∧f≤8589934592∧f≤t∧t≤8589934592∧t-f≤34560000) {s:List (Int×Int)} (hs:Up K s f t) (hl:s.length≤4096):er=0∧l=s:=by
 obtain ⟨s',h1,h2⟩:=h.yes rfl hf
 obtain rfl:=up_eq h1 hs
 rcases h2 with ⟨-,rfl,rfl⟩|⟨h3, -⟩
 ·exact ⟨rfl,rfl⟩
 ·omega
end Sg
end Go.Proofs.YtfamcohbnoibaaaGreatDoor
namespace Go.Proofs.YtfamcohbnoibaaaGreatDoor
namespace Sg
def aloneN:Rs.Nm:=[97,108,111,110,101]
def alone (C:Rs.Cfg) (l:Rs.Lay):Rs.Cfg:=⟨C.zones,C.people,C.cals,[⟨aloneN,[l],[]⟩]⟩
def fitS (C:Rs.Cfg) (l:Rs.Lay):Bool:=decide (Rs.chkS C=0)&&decide (Rs.chkS (alone C l)=0)
theorem bt {b:Bool} (h:¬b=false):b=true:=by cases b<;>simp_all
theorem bf {b:Bool} (h:¬b=true):b=false:=by cases b<;>simp_all
def zn0:Rs.Zone:=⟨[],0,[]⟩
def lz (C:Rs.Cfg) (l:Rs.Lay):Rs.Zone:=C.zones.getD l.zone.toNat zn0
def lcal (C:Rs.Cfg) (l:Rs.Lay):Rs.Cal:=C.cals.getD l.cal.toNat ⟨[],0,[]⟩
def lz2 (C:Rs.Cfg) (l:Rs.Lay):Rs.Zone:=C.zones.getD (lcal C l).zone.toNat zn0
def dy (C:Rs.Cfg) (l:Rs.Lay):Dy:=
 ⟨(lz C l).off,(Zn.trans (lz C l).off (lz C l).rules).1,l.unit,l.every,l.day,l.sec,l.mem,l.wins,l.mode,(lz2 C l).off,(Zn.trans (lz2 C l).off (lz2 C l).rules).1,(lcal C l).days⟩
structure Fit (C:Rs.Cfg) (l:Rs.Lay):Prop where
 z: ∃i:Nat,l.zone=i∧C.zones[i]? =some (lz C l)
 tr:Zn.trans (lz C l).off (lz C l).rules=((dy C l).ts,0)
 rt:Rc.Rt l.unit l.every l.day l.sec
 m0:0<l.mem.length
 m12:l.mem.length≤12
 mi: ∀m∈l.mem,0≤m∧m<32
 w:Wk.chk l.wins=0
 md:0≤l.mode∧l.mode≤2
 cal:l.mode≠0→(∃j:Nat,l.cal=j∧C.cals[j]? =some (lcal C l))∧(∃k:Nat,(lcal C l).zone=k∧C.zones[k]? =some (lz2 C l))∧Zn.trans (lz2 C l).off (lz2 C l).rules=((dy C l).ts2,0)∧Rs.asc (lcal C l).days=true∧(lcal C l).days.length≤64∧ ∀x∈(lcal C l).days,0≤x∧x<98981
theorem fe_mem {α:Type} {f:Nat→α→Int}: ∀{l:List α} {i:Nat},Rs.fe f i l=0→ ∀k x,l[k]? =some x→f (i+k) x=0
 |[],_,_,k,x,h=>by cases h
 |y::t,i,h,k,x,hk=>by
  rw [Rs.fe] at h
  by_cases h0:f i y=0
  ·rw [if_pos h0] at h
   cases k with
   |zero=>simp only [List.getElem?_cons_zero,Option.some.injEq] at hk;subst hk;exact h0
   |succ k=>
    have :=fe_mem h k x (by simpa using hk)
    rw [show i+(k+1)=i+1+k by omega];exact this
  ·rw [if_neg h0] at h;exact absurd h h0
theorem isIx_at {α:Type} {i:Int} {l:List α} {n:Nat} {d:α} (h:Rs.isIx i n=true) (hn:l.length=n): ∃k:Nat,i=k∧l[k]? =some (l.getD i.toNat d):=by
 unfold Rs.isIx at h
 simp only [Bool.and_eq_true,decide_eq_true_eq] at h
 have hk:i.toNat<l.length:=by omega
 exact ⟨i.toNat,by omega,by rw [List.getD,List.getElem?_eq_getElem hk];rfl⟩
theorem chk_parts {C:Rs.Cfg} (h:Rs.chkS C=0):C.zones.length≤16∧C.people.length≤32∧C.cals.length≤8∧C.scheds.length≤12∧Rs.znE C=0∧Rs.peE C=0∧Rs.caE C=0∧Rs.scE C=0:=by
 unfold Rs.chkS at h
 by_cases h1:16<C.zones.length∨32<C.people.length∨8<C.cals.length∨12<C.scheds.length
 ·rw [if_pos h1] at h;omega
 rw [if_neg h1] at h
 by_cases h2:Rs.znE C≠0
 ·rw [if_pos h2] at h;exact absurd h h2
 rw [if_neg h2] at h
 by_cases h3:Rs.peE C≠0
 ·rw [if_pos h3] at h;exact absurd h h3
 rw [if_neg h3] at h
 by_cases h4:Rs.caE C≠0
 ·rw [if_pos h4] at h;exact absurd h h4
 rw [if_neg h4] at h
 exact ⟨by omega,by omega,by omega,by omega,by simpa using h2,by simpa using h3,by simpa using h4,h⟩
theorem chk_zone {C:Rs.Cfg} (h:Rs.znE C=0) {k:Nat} {z:Rs.Zone} (hk:C.zones[k]? =some z):Zn.trans z.off z.rules=((Zn.trans z.off z.rules).1,0):=by
 have :=fe_mem h k z hk
 unfold Rs.zoneE at this
 split at this
 ·contradiction
 ·split at this
  ·omega
  ·rename_i h2
   have :(Zn.trans z.off z.rules).2=0:=by omega
   rw [←this]
theorem fit_of {C:Rs.Cfg} {l:Rs.Lay} (h:fitS C l=true):Fit C l:=by
 unfold fitS at h
 simp only [Bool.and_eq_true,decide_eq_true_eq] at h
 obtain ⟨h1,h2⟩:=h
 obtain ⟨c1,c2,c3,c4,c5,c6,c7,c8⟩:=chk_parts h1
 obtain ⟨-, -, -, -, -, -, -,d8⟩:=chk_parts h2
 have d:=fe_mem d8 0 ⟨aloneN,[l],[]⟩ rfl
 unfold Rs.schE at d
 split at d
 ·contradiction
 split at d
 ·omega
 split at d
 ·contradiction
 rename_i e1 e2 e3
 have e3:Rs.layE C.zones.length C.people.length C.cals.length [l.name] 0 l=0:=by
  have :=Classical.not_not.1 e3
  exact fe_mem this 0 l rfl
 unfold Rs.layE at e3
 split at e3
 ·contradiction
 split at e3
 ·omega
 split at e3
 ·omega
 split at e3
 ·omega
 split at e3
 ·omega
 split at e3
 ·omega
 split at e3
 ·contradiction
 rename_i f1 f2 f3 f4 f5 f6 f7
 obtain ⟨i,hi,hz⟩:=isIx_at (l:=C.zones) (d:=zn0) (bt f2) rfl
 have hrt:Rc.Rt l.unit l.every l.day l.sec:=by
  have hr:=bt f3
  unfold Rs.rot Rs.noDay at hr
  split at hr
  ·cases hr
  ·rename_i g1
   simp only [Bool.or_eq_true,decide_eq_true_eq] at g1
   split at hr
   ·simp only [Bool.and_eq_true,decide_eq_true_eq] at hr
    exact ⟨by omega,by omega,by omega,by omega,by omega,by omega,by omega,by omega⟩
   ·cases hr
 refine ⟨⟨i,hi,hz⟩,chk_zone c5 hz,hrt,by omega,by omega,fun m hm=> ?_,by simpa using f7, ?_,fun h0=> ?_⟩
 ·have :Rs.isIx m C.people.length=true:=by
   have :=bf f6
   rw [List.any_eq_false] at this
   have :=this m hm
   simpa using this
  unfold Rs.isIx at this
  simp only [Bool.and_eq_true,decide_eq_true_eq] at this
  have hp:(alone C l).people.length=C.people.length:=rfl
  omega
 ·unfold Rs.modeE at e3
  split at e3
  ·omega
  ·split at e3
   ·omega
   ·omega
 ·unfold Rs.modeE at e3
  rw [if_neg h0] at e3
  split at e3
  ·split at e3
   ·omega
   ·rename_i g
    obtain ⟨j,hj,hc⟩:=isIx_at (l:=C.cals) (d:=⟨[],0,[]⟩) (bt g) rfl
    have q:=fe_mem c7 j _ hc
    unfold Rs.calE at q
    split at q
    ·contradiction
    split at q
    ·omega
    split at q
    ·omega
    split at q
    ·omega
    split at q
    ·omega
    rename_i g1 g2 g3 g4 g5
    obtain ⟨k,hk,hz2⟩:=isIx_at (l:=C.zones) (d:=zn0) (bt g2) rfl
    refine ⟨⟨j,hj,hc⟩,⟨k,hk,hz2⟩,chk_zone c5 hz2,bt g5, ?_,fun x hx=> ?_⟩
    ·show (lcal C l).days.length≤64
     unfold lcal;omega
    ·have :=bf g4
     rw [List.any_eq_false] at this
     have :=this x hx
     unfold Rs.noDay at this
     simp only [Bool.or_eq_true,decide_eq_true_eq] at this
     omega
  ·omega
theorem Fit.ok {C:Rs.Cfg} {l:Rs.Lay} (h:Fit C l):(dy C l).Ok:=
 ⟨Zn.trans_vz h.tr,h.rt,h.m0,(Wk.chk_ok h.w).1,(Wk.chk_ok h.w).2,h.md,fun hm=>Zn.trans_vz (h.cal hm).2.2.1⟩
theorem fit_yes {C:Rs.Cfg} {l:Rs.Lay} (hn:Lx.nameS aloneN=true) (h:Rs.chkS C=0) (hl:Rs.layE C.zones.length C.people.length C.cals.length [l.name] 0 l=0):fitS C l=true:=by
 obtain ⟨c1,c2,c3,c4,c5,c6,c7,c8⟩:=chk_parts h
 have hs:Rs.scE (alone C l)=0:=by
  have e1:Rs.nameE [aloneN] 0 aloneN=0:=by unfold Rs.nameE;rw [if_neg (by rw [hn];simp),if_neg (by omega)]
  have e2:Rs.fe (Rs.layE C.zones.length C.people.length C.cals.length [l.name]) 0 [l]=0:=by
   rw [Rs.fe,if_pos hl];rfl
  have e3:Rs.schE C.zones.length C.people.length C.cals.length [aloneN] 0 ⟨aloneN,[l],[]⟩=0:=by
   unfold Rs.schE
   rw [if_neg (by rw [e1];simp),if_neg (by simp)]
   simp only [List.map_cons,List.map_nil]
   rw [if_neg (by rw [e2];simp)]
   rfl
  unfold Rs.scE alone
  simp only [List.map_cons,List.map_nil]
  rw [Rs.fe,if_pos e3];rfl
 have ha:Rs.chkS (alone C l)=0:=by
  unfold Rs.chkS
  rw [if_neg (by unfold alone;simp only [List.length_singleton];omega),if_neg (by show ¬Rs.znE C≠0;rw [c5];simp),if_neg (by show ¬Rs.peE C≠0;rw [c6];simp),if_neg (by show ¬Rs.caE C≠0;rw [c7];simp),hs]
 unfold fitS
 rw [h,ha];rfl
end Sg
end Go.Proofs.YtfamcohbnoibaaaGreatDoor
namespace Go.Proofs.YtfamcohbnoibaaaGreatDoor
namespace Sg
open Zn Rc
open Wk hiding L
theorem asc_ix {hs:List Int} (ha:hs.Pairwise (· < ·)) {i j:Nat} {x y:Int} (hx:hs[i]? =some x) (hy:hs[j]? =some y):x<y↔i<j:=by
 obtain ⟨h1,e1⟩:=List.getElem?_eq_some_iff.1 hx
 obtain ⟨h2,e2⟩:=List.getElem?_eq_some_iff.1 hy
 have hp:=List.pairwise_iff_getElem.1 ha
 constructor
 ·intro h
  rcases Nat.lt_trichotomy i j with h3|h3|h3
  ·exact h3
  ·subst h3;rw [e1] at e2;omega
  ·have :=hp j i h2 h1 h3;omega
 ·intro h
  have :=hp i j h1 h2 h;omega
theorem mem_ix {α:Type} {l:List α} {x:α} (h:x∈l): ∃j:Nat,l[j]? =some x:=List.getElem?_of_mem h
theorem cut_ix: ∀{hs:List Int} (_:hs.Pairwise (· < ·)) (c:Int), ∃k,k≤hs.length∧ ∀j x,hs[j]? =some x→(j<k↔x≤c)
 |[],_,c=>⟨0,Nat.le_refl _,fun j x h=>by cases h⟩
 |a::r,ha,c=>by
  rw [List.pairwise_cons] at ha
  by_cases hac:a≤c
  ·obtain ⟨k,hk,h⟩:=cut_ix ha.2 c
   refine ⟨k+1,by simpa using hk,fun j x hx=> ?_⟩
   cases j with
   |zero=>simp only [List.getElem?_cons_zero,Option.some.injEq] at hx;omega
   |succ j=>have :=h j x (by simpa using hx);omega
  ·refine ⟨0,Nat.zero_le _,fun j x hx=> ?_⟩
   have :a≤x:=by
    rcases List.mem_cons.1 (List.mem_of_getElem? hx) with rfl|hm
    ·exact Int.le_refl _
    ·exact Int.le_of_lt (ha.1 x hm)
   omega
theorem next_cut {cs:List Int} (ha:cs.Pairwise (· < ·)) {i:Nat} {c c' x:Int} (hc:cs[i]? =some c) (hc':cs[i+1]? =some c') (hx:x∈cs):x≤c↔x<c':=by
 obtain ⟨j,hj⟩:=mem_ix hx
 have h1:=asc_ix ha hc hj
 have h2:=asc_ix ha hj hc'
 omega
section
variable {d:Dy} {f t:Int} {hs cs:List Int} {set:List (Int×Int)}
theorem hs_at (h:d.Ok) (hr:RangeIs d.H (min (f+1) t) t hs): ∀(n j:Nat),j<n→ ∀x,hs[j]? =some x→d.H (d.sh f+1+j)=some x
 |0,_,hj,_,_=>by omega
 |n+1,j,hj,x,hx=>by
  have hsf:=h.sh f
  have hs1:=hsf.1
  obtain ⟨k,k0,ek,b1,b2⟩:=(hr.2 x).1 (List.mem_of_getElem? hx)
  have hxf:f<x:=by omega
  have hin: ∀i y,0≤i→d.H i=some y→f<y→y<t→ ∃q,hs[q]? =some y:=fun i y h0 e h1 h2=>mem_ix ((hr.2 y).2 ⟨i,h0,e,by omega,h2⟩)
  have hlt: ∀i q a b,0≤i→i<q→d.H i=some a→d.H q=some b→a<b:=fun i q a b h0 h1 e1 e2=>hV_lt h.z h.rt h0 h1 e1 e2
  have hks:d.sh f<k:=by
   rcases Int.lt_or_le (d.sh f) k with h1|h1
   ·exact h1
   ·obtain ⟨a,ea,hale⟩:=hsf.2.1 (by omega)
    rcases Int.lt_or_eq_of_le h1 with h2|h2
    ·have :=hlt _ _ _ _ k0 h2 ek ea;omega
    ·rw [h2] at ek;rw [ek] at ea;cases ea;omega
  have key:k=d.sh f+1+j:=by
   rcases Int.lt_trichotomy k (d.sh f+1+j) with h1|h1|h1
   ·exfalso
    have hj0:0<j:=by omega
    obtain ⟨y,hy⟩: ∃y,hs[j-1]? =some y:=⟨_,List.getElem?_eq_getElem (by have :=(List.getElem?_eq_some_iff.1 hx).1;omega)⟩
    have ey:=hs_at h hr n (j-1) (by omega) y hy
    have hyx:=(asc_ix hr.1 hy hx).2 (by omega)
    rcases Int.lt_or_eq_of_le (show k≤d.sh f+1+((j-1:Nat):Int) by omega) with h2|h2
    ·have :=hlt _ _ _ _ k0 h2 ek ey;omega
    ·rw [h2] at ek;rw [ek] at ey;cases ey;omega
   ·exact h1
   ·exfalso
    obtain ⟨y,ey, -⟩:=hV_down h.z h.rt (k:=d.sh f+1+j) (j:=k) (by omega) (by omega) ek
    have hyx:y<x:=hlt _ _ _ _ (by omega) h1 ey ek
    have hfy:f<y:=hsf.2.2 _ (by omega) (by omega) y ey
    obtain ⟨q,hq⟩:=hin _ y (by omega) ey hfy (by omega)
    have hqj:=(asc_ix hr.1 hq hx).1 hyx
    have eq:=hs_at h hr n q (by omega) y hq
    have :=hlt (d.sh f+1+q) (d.sh f+1+j) y y (by omega) (by omega) eq ey
    omega
  rw [←key];exact ek
theorem sh_cnt (h:d.Ok) (hr:RangeIs d.H (min (f+1) t) t hs) {c:Int} {k:Nat} (hfc:f≤c) (hct:c<t) (hk:k≤hs.length) (hi: ∀j x,hs[j]? =some x→(j<k↔x≤c)):d.sh c=d.sh f+k:=by
 have hsf:=h.sh f
 have hs1:=hsf.1
 have hat:=fun j x hx=>hs_at h hr (j+1) j (by omega) x hx
 refine Dy.sh_eq ⟨by omega,fun h0=> ?_,fun j hj h0 a ea=> ?_⟩
 ·cases k with
  |zero=>
   obtain ⟨a,ea,hale⟩:=hsf.2.1 (by omega)
   exact ⟨a,by simpa using ea,by omega⟩
  |succ k=>
   obtain ⟨x,hx⟩: ∃x,hs[k]? =some x:=⟨_,List.getElem?_eq_getElem (by omega)⟩
   have :=hat k x hx
   exact ⟨x,by rw [←this];congr 1;omega,(hi k x hx).1 (by omega)⟩
 ·rcases Int.lt_or_le c a with h1|h1
  ·exact h1
  ·exfalso
   have hfa:f<a:=hsf.2.2 j (by omega) h0 a ea
   obtain ⟨i,hia⟩:=mem_ix ((hr.2 a).2 ⟨j,h0,ea,by omega,by omega⟩)
   have hik:=(hi i a hia).2 h1
   have e:=hat i a hia
   have :=hV_lt h.z h.rt (k:=d.sh f+1+i) (j:=j) (by omega) (by omega) e ea
   omega
structure CutIn (d:Dy) (f t:Int) (hs cs:List Int) (set:List (Int×Int)):Prop where
 ok:d.Ok
 asc:cs.Pairwise (· < ·)
 lo: ∀x∈cs,f≤x∧x≤t
 c0:cs[0]? =some f
 cn:cs.getLast? =some t
 hr:RangeIs d.H (min (f+1) t) t hs
 hc: ∀x∈hs,x∈cs
 up:Up d.on set f t
 sc: ∀y∈set,y.1∈cs∧y.2∈cs
structure SpSt (hs:List Int) (set:List (Int×Int)) (c:Int) (k m:Nat):Prop where
 kl:k≤hs.length
 ki: ∀j x,hs[j]? =some x→(j<k↔x<c)
 ml:m≤set.length
 mi: ∀j y,set[j]? =some y→(j<m↔y.2<c)
structure SpAt (hs:List Int) (set:List (Int×Int)) (c:Int) (k m:Nat):Prop where
 kl:k≤hs.length
 ki: ∀j x,hs[j]? =some x→(j<k↔x≤c)
 ml:m≤set.length
 mi: ∀j y,set[j]? =some y→(j<m↔y.2≤c)
theorem CutIn.start (h:CutIn d f t hs cs set):SpSt hs set f 0 0:=
 ⟨Nat.zero_le _,fun j x hx=>by
  obtain ⟨k,k0,ek,b1,b2⟩:=(h.hr.2 x).1 (List.mem_of_getElem? hx)
  omega,Nat.zero_le _,fun j y hy=>by
  have :=h.lo _ (h.sc y (List.mem_of_getElem? hy)).1
  have :=h.up.1.1 y (List.mem_of_getElem? hy)
  omega⟩
theorem set_ix (hc:Spn.Chain set) {i j:Nat} {x y:Int×Int} (hx:set[i]? =some x) (hy:set[j]? =some y) (hij:i<j):x.2<y.1:=by
 obtain ⟨h1,e1⟩:=List.getElem?_eq_some_iff.1 hx
 obtain ⟨h2,e2⟩:=List.getElem?_eq_some_iff.1 hy
 have :=List.pairwise_iff_getElem.1 hc.2 i j h1 h2 hij
 rw [e1,e2] at this
 exact this
theorem SpSt.hand {c:Int} {k m:Nat} (h:SpSt hs set c k m) (ha:hs.Pairwise (· < ·)) {k':Nat} (hk:(hs[k]? =some c∧k'=k+1)∨(hs[k]? ≠some c∧k'=k)):k'≤hs.length∧ ∀j x,hs[j]? =some x→(j<k'↔x≤c):=by
 rcases hk with ⟨hk,rfl⟩|⟨hk,rfl⟩
 ·have :=(List.getElem?_eq_some_iff.1 hk).1
  refine ⟨by omega,fun j x hx=> ?_⟩
  have h1:=asc_ix ha hx hk
  have h2:=asc_ix ha hk hx
  omega
 ·refine ⟨h.kl,fun j x hx=> ?_⟩
  have h1:=h.ki j x hx
  constructor
  ·intro h2;omega
  ·intro h2
   rcases Int.lt_or_eq_of_le h2 with h3|h3
   ·omega
   ·exfalso
    subst h3
    obtain ⟨y,hy⟩: ∃y,hs[k']? =some y:=⟨_,List.getElem?_eq_getElem (by have :=(List.getElem?_eq_some_iff.1 hx).1;omega)⟩
    have h4:=h.ki k' y hy
    have h5:=asc_ix ha hy hx
    have h6:=asc_ix ha hx hy
    have :y≠x:=fun e=>hk (e▸hy)
    omega
theorem SpSt.span {c:Int} {k m:Nat} (h:SpSt hs set c k m) (hch:Spn.Chain set) {m':Nat} (hm:(∃y,set[m]? =some y∧y.2=c∧m'=m+1)∨((∀y,set[m]? =some y→y.2≠c)∧m'=m)):m'≤set.length∧ ∀j y,set[j]? =some y→(j<m'↔y.2≤c):=by
 rcases hm with ⟨z,hz,hzc,rfl⟩|⟨hz,rfl⟩
 ·have :=(List.getElem?_eq_some_iff.1 hz).1
  refine ⟨by omega,fun j y hy=> ?_⟩
  have h1:=h.mi j y hy
  rcases Nat.lt_trichotomy j m with h2|h2|h2
  ·omega
  ·subst h2;rw [hz] at hy;cases hy;omega
  ·have :=set_ix hch hz hy h2
   have :=hch.1 y (List.mem_of_getElem? hy)
   omega
 ·refine ⟨h.ml,fun j y hy=> ?_⟩
  have h1:=h.mi j y hy
  rcases Nat.lt_trichotomy j m' with h2|h2|h2
  ·omega
  ·subst h2;have :=hz y hy;omega
  ·obtain ⟨x,hx⟩: ∃x,set[m']? =some x:=⟨_,List.getElem?_eq_getElem (by have :=(List.getElem?_eq_some_iff.1 hy).1;omega)⟩
   have :=set_ix hch hx hy h2
   have :=hch.1 y (List.mem_of_getElem? hy)
   have :=h.mi m' x hx
   omega
theorem CutIn.next (h:CutIn d f t hs cs set) {i k m:Nat} {c c':Int} (hc:cs[i]? =some c) (hc':cs[i+1]? =some c') (hs1:SpAt hs set c k m):SpSt hs set c' k m:=
 ⟨hs1.kl,fun j x hx=>(hs1.ki j x hx).trans (next_cut h.asc hc hc' (h.hc x (List.mem_of_getElem? hx))),hs1.ml,fun j y hy=>(hs1.mi j y hy).trans (next_cut h.asc hc hc' (h.sc y (List.mem_of_getElem? hy)).2)⟩
theorem CutIn.lt_ (h:CutIn d f t hs cs set) {i:Nat} {c c':Int} (hc:cs[i]? =some c) (hc':cs[i+1]? =some c'):f≤c∧c<c'∧c'≤t:=by
 have h1:=h.lo c (List.mem_of_getElem? hc)
 have h2:=h.lo c' (List.mem_of_getElem? hc')
 have :=(asc_ix h.asc hc hc').2 (by omega)
 omega
theorem CutIn.shift (h:CutIn d f t hs cs set) {i k m:Nat} {c c':Int} (hc:cs[i]? =some c) (hc':cs[i+1]? =some c') (hs1:SpAt hs set c k m):d.sh c=d.sh f+k:=by
 have :=h.lt_ hc hc'
 exact sh_cnt h.ok h.hr this.1 (by omega) hs1.kl hs1.ki
theorem CutIn.onAt (h:CutIn d f t hs cs set) {i k m:Nat} {c c':Int} (hc:cs[i]? =some c) (hc':cs[i+1]? =some c') (hs1:SpAt hs set c k m):d.on c=true↔ ∃y,set[m]? =some y∧y.1≤c:=by
 have hb:=h.lt_ hc hc'
 have hu:=h.up.2.2 c
 constructor
 ·intro ho
  obtain ⟨y,hy,y1,y2⟩:=hu.2 ⟨hb.1,by omega,ho⟩
  obtain ⟨j,hj⟩:=mem_ix hy
  have h1:=hs1.mi j y hj
  obtain ⟨x,hx⟩: ∃x,set[m]? =some x:=⟨_,List.getElem?_eq_getElem (by have :=(List.getElem?_eq_some_iff.1 hj).1;omega)⟩
  rcases Nat.lt_or_ge m j with h2|h2
  ·have :=set_ix h.up.1 hx hj h2
   have :=hs1.mi m x hx
   omega
  ·obtain rfl:j=m:=by omega
   exact ⟨y,hj,y1⟩
 ·rintro ⟨y,hy,y1⟩
  have h1:=hs1.mi m y hy
  exact (hu.1 ⟨y,List.mem_of_getElem? hy,y1,by omega⟩).2.2
theorem CutIn.const (h:CutIn d f t hs cs set) {i:Nat} {c c' x:Int} (hc:cs[i]? =some c) (hc':cs[i+1]? =some c') (h1:c≤x) (h2:x<c'):d.per x=d.per c:=by
 have hb:=h.lt_ hc hc'
 have hsh:d.sh x=d.sh c:=by
  obtain ⟨k,hk,hi⟩:=cut_ix h.hr.1 c
  rw [sh_cnt h.ok h.hr (c:=c) hb.1 (by omega) hk hi,sh_cnt h.ok h.hr (c:=x) (by omega) (by omega) hk fun j y hy=>(hi j y hy).trans ?_]
  have :=next_cut h.asc hc hc' (h.hc y (List.mem_of_getElem? hy))
  omega
 have hon:d.on x=d.on c:=by
  have e:d.on x=true↔d.on c=true:=by
   have u1:=h.up.2.2 x
   have u2:=h.up.2.2 c
   constructor
   ·intro ho
    obtain ⟨y,hy,y1,y2⟩:=u1.2 ⟨by omega,by omega,ho⟩
    have :=next_cut h.asc hc hc' (h.sc y hy).1
    exact (u2.1 ⟨y,hy,by omega,by omega⟩).2.2
   ·intro ho
    obtain ⟨y,hy,y1,y2⟩:=u2.2 ⟨by omega,by omega,ho⟩
    have :=next_cut h.asc hc hc' (h.sc y hy).2
    exact (u1.1 ⟨y,hy,by omega,by omega⟩).2.2
  cases e1:d.on x<;>cases e2:d.on c<;>simp_all
 unfold Dy.per
 rw [hsh,hon]
noncomputable def pcs (d:Dy) (cs:List Int) (n:Nat):List S:=(List.range n).map fun i=>(cs.getD i 0,cs.getD (i+1) 0,d.per (cs.getD i 0))
theorem pcs_len (n:Nat):(pcs d cs n).length=n:=by simp [pcs]
theorem pcs_succ {n:Nat} {c c':Int} (hc:cs[n]? =some c) (hc':cs[n+1]? =some c'):pcs d cs (n+1)=pcs d cs n++[(c,c',d.per c)]:=by
 unfold pcs
 rw [List.range_succ,List.map_append,List.map_cons,List.map_nil]
 simp only [List.getD,hc,hc',Option.getD_some]
theorem CutIn.seg (h:CutIn d f t hs cs set): ∀n c,cs[n]? =some c→Seg d.per none f c (mrg (pcs d cs n))
 |0,c,hc=>by
  rw [h.c0] at hc;cases hc
  exact show f=f from rfl
 |n+1,c',hc'=>by
  obtain ⟨c,hc⟩: ∃c,cs[n]? =some c:=⟨_,List.getElem?_eq_getElem (by have :=(List.getElem?_eq_some_iff.1 hc').1;omega)⟩
  have hb:=h.lt_ hc hc'
  rw [pcs_succ hc hc']
  unfold mrg
  rw [List.foldl_append]
  exact (h.seg n c hc).app (by omega) fun x h1 h2=>h.const hc hc' h1 h2
theorem CutIn.whole (h:CutIn d f t hs cs set):Seg d.per none f t (mrg (pcs d cs (cs.length-1))):=by
 have :=h.cn
 rw [List.getLast?_eq_getElem?] at this
 exact h.seg _ _ this
end
end Sg
end Go.Proofs.YtfamcohbnoibaaaGreatDoor
