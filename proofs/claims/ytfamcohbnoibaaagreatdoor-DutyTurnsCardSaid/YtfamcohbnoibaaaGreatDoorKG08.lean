import Derived.Test.YtfamcohbnoibaaaGreatDoorKG00
import Derived.Test.YtfamcohbnoibaaaGreatDoorKG02
import Derived.Test.YtfamcohbnoibaaaGreatDoorKG01
import Derived.Test.YtfamcohbnoibaaaGreatDoorKZnk
set_option linter.unusedVariables false
set_option linter.unusedSimpArgs false
set_option maxRecDepth 100000
namespace Go.Proofs.YtfamcohbnoibaaaGreatDoor
open Go.RowKit
structure Kept (lo hi:Nat) (w w':World):Prop where
 size:w.heap.size≤w'.heap.size
 blk: ∀b,lo≤b→b<hi→w'.heap[b]? =w.heap[b]?
theorem Kept.refl (lo hi:Nat) (w:World):Kept lo hi w w:=⟨Nat.le_refl _,fun _ _ _=>rfl⟩
theorem Kept.trans {lo hi:Nat} {w w1 w2:World} (h:Kept lo hi w w1) (h2:Kept lo hi w1 w2):Kept lo hi w w2:=⟨Nat.le_trans h.size h2.size,fun b h1 h3=>(h2.blk b h1 h3).trans (h.blk b h1 h3)⟩
theorem Kept.of_below {lo hi B:Nat} {w w':World} (h:Below B w w') (hB:hi≤B):Kept lo hi w w':=⟨h.size,fun b _ hb=>h.block b (Nat.lt_of_lt_of_le hb hB)⟩
theorem Kept.of_grown {lo hi g:Nat} {w w':World} (h:w.grownBy w' (some g)) (hg:g<lo) (hh:hi≤w.heap.size):Kept lo hi w w':=⟨h.size,fun b h1 h2=>h.block b (by omega) (fun e=>by cases e;omega)⟩
theorem Kept.mono {lo hi lo' hi':Nat} {w w':World} (h:Kept lo hi w w') (h1:lo≤lo') (h2:hi'≤hi):Kept lo' hi' w w':=⟨h.size,fun b a c=>h.blk b (by omega) (by omega)⟩
abbrev SV:=Option Addr×Nat×Nat
def sv (v:SV):Value:= .slice v.1 v.2.1 v.2.2
def noSV:SV:=(none,0,0)
section
variable {α β:Type} {k:Nat} {e:α→Nat→Value}
structure LIn (k:Nat) (e:α→Nat→Value) (lo hi:Nat) (w:World) (v:SV) (l:List α):Prop where
 at_:ListAt k e w v.1 l
 len:l.length=v.2.1
 cap:v.2.1≤v.2.2
 le:v.2.1≤1000000
 rng: ∀ad,v.1=some ad→lo≤ad.block∧ad.block<hi
theorem ListAt.kept {lo hi:Nat} {w w':World} {A:Option Addr} {l:List α} (h:ListAt k e w A l) (hk:Kept lo hi w w') (hr: ∀ad,A=some ad→lo≤ad.block∧ad.block<hi):ListAt k e w' A l:=fun h0=>by
 obtain ⟨b,off,ea,hlt,hc⟩:=h h0
 have hr:=hr _ ea
 simp only at hr
 exact ⟨b,off,ea,Nat.lt_of_lt_of_le hlt hk.size,fun i x hx j hj=>(World.cell?_of_block (w:=w) (a:=⟨b,off+i*k+j,none⟩) (hk.blk b hr.1 hr.2)).trans (hc i x hx j hj)⟩
theorem LIn.kept {lo hi:Nat} {w w':World} {v:SV} {l:List α} (h:LIn k e lo hi w v l) (hk:Kept lo hi w w'):LIn k e lo hi w' v l:=⟨h.at_.kept hk h.rng,h.len,h.cap,h.le,h.rng⟩
theorem LIn.mono {lo hi lo' hi':Nat} {w:World} {v:SV} {l:List α} (h:LIn k e lo hi w v l) (h1:lo'≤lo) (h2:hi≤hi'):LIn k e lo' hi' w v l:=⟨h.at_,h.len,h.cap,h.le,fun ad ea=>by have :=h.rng ad ea;omega⟩
theorem LIn.nil_ (lo hi:Nat) (w:World):LIn k e lo hi w noSV []:=⟨ListAt.nil_,rfl,Nat.le_refl _,by simp [noSV],fun ad ea=>by cases ea⟩
theorem LIn.get {lo hi:Nat} {w:World} {v:SV} {l:List α} (h:LIn k e lo hi w v l) {i:Nat} (hi:i<v.2.1):
  ∃(x:α) (b off:Nat),l[i]? =some x∧v.1=some ⟨b,off,none⟩∧b<w.heap.size∧ ∀j,j<k→w.cell? ⟨b,off+i*k+j,none⟩=some (e x j):=by
 have hl:=h.len
 obtain ⟨x,hx⟩:=get_ex (xs:=l) (i:=i) (by omega)
 obtain ⟨b,off,ea,hb,hc⟩:=h.at_ (by omega)
 exact ⟨x,b,off,hx,ea,hb,hc i x hx⟩
def Nest (k:Nat) (e:α×β→Nat→Value) (P:Nat→Nat→World→α→β→Prop) (lo hi:Nat) (w:World) (v:SV) (l:List α):Prop:=
 ∃xs:List (α×β),xs.map Prod.fst=l∧LIn k e lo hi w v xs∧ ∀x∈xs,P lo hi w x.1 x.2
theorem Nest.kept {k:Nat} {e:α×β→Nat→Value} {P:Nat→Nat→World→α→β→Prop} {lo hi:Nat} {w w':World} {v:SV} {l:List α} (hP: ∀x y,P lo hi w x y→P lo hi w' x y) (h:Nest k e P lo hi w v l) (hk:Kept lo hi w w'):Nest k e P lo hi w' v l:=by
 obtain ⟨xs,h1,h2,h3⟩:=h
 exact ⟨xs,h1,h2.kept hk,fun x hx=>hP _ _ (h3 x hx)⟩
theorem Nest.mono {k:Nat} {e:α×β→Nat→Value} {P:Nat→Nat→World→α→β→Prop} {lo hi lo' hi':Nat} {w:World} {v:SV} {l:List α} (hP: ∀x y,P lo hi w x y→P lo' hi' w x y) (h:Nest k e P lo hi w v l) (h1:lo'≤lo) (h2:hi≤hi'):Nest k e P lo' hi' w v l:=by
 obtain ⟨xs,e1,e2,e3⟩:=h
 exact ⟨xs,e1,e2.mono h1 h2,fun x hx=>hP _ _ (e3 x hx)⟩
theorem Nest.nil_ {k:Nat} {e:α×β→Nat→Value} {P:Nat→Nat→World→α→β→Prop} (lo hi:Nat) (w:World):Nest k e P lo hi w noSV []:=⟨[],rfl,LIn.nil_ _ _ _,fun x hx=>by cases hx⟩
theorem Nest.len {k:Nat} {e:α×β→Nat→Value} {P:Nat→Nat→World→α→β→Prop} {lo hi:Nat} {w:World} {v:SV} {l:List α} (h:Nest k e P lo hi w v l):l.length=v.2.1∧v.2.1≤v.2.2∧v.2.1≤1000000:=by
 obtain ⟨xs,e1,e2,e3⟩:=h
 have :=e2.len
 rw [←e1,List.length_map]
 exact ⟨this,e2.cap,e2.le⟩
theorem Nest.get {k:Nat} {e:α×β→Nat→Value} {P:Nat→Nat→World→α→β→Prop} {lo hi:Nat} {w:World} {v:SV} {l:List α} (h:Nest k e P lo hi w v l) {i:Nat} (hi':i<v.2.1):
  ∃(x:α) (y:β) (b off:Nat),l[i]? =some x∧v.1=some ⟨b,off,none⟩∧b<w.heap.size∧(∀j,j<k→w.cell? ⟨b,off+i*k+j,none⟩=some (e (x,y) j))∧P lo hi w x y:=by
 obtain ⟨xs,e1,e2,e3⟩:=h
 obtain ⟨⟨x,y⟩,b,off,hx,ea,hb,hc⟩:=e2.get hi'
 refine ⟨x,y,b,off, ?_,ea,hb,hc,e3 _ (List.mem_of_getElem? hx)⟩
 rw [←e1,List.getElem?_map,hx]
 rfl
end
def eZone (x:Rs.Zone×SV) (j:Nat):Value:=match j with|0=> .string ⟨x.1.name.toArray⟩|1=> .int .i64 x.1.off|_=> .slice x.2.1 x.2.2.1 x.2.2.2
def ePers (x:Rs.Pers×SV) (j:Nat):Value:=match j with|0=> .string ⟨x.1.name.toArray⟩|1=> .int .i64 x.1.zone|2=> .slice x.2.1 x.2.2.1 x.2.2.2|3=> .int .i64 x.1.maxw|4=> .int .i64 x.1.minr|_=> .bool x.1.cons
def eCal (x:Rs.Cal×SV) (j:Nat):Value:=match j with|0=> .string ⟨x.1.name.toArray⟩|1=> .int .i64 x.1.zone|_=> .slice x.2.1 x.2.2.1 x.2.2.2
def eLay (x:Rs.Lay×SV×SV) (j:Nat):Value:=match j with
 |0=> .string ⟨x.1.name.toArray⟩|1=> .int .i64 x.1.zone|2=> .int .i64 x.1.day|3=> .int .i64 x.1.sec|4=> .int .i64 x.1.unit|5=> .int .i64 x.1.every
 |6=> .slice x.2.1.1 x.2.1.2.1 x.2.1.2.2|7=> .slice x.2.2.1 x.2.2.2.1 x.2.2.2.2|8=> .int .i64 x.1.cal|_=> .int .i64 x.1.mode
def eEdit (x:Rs.Edit) (j:Nat):Value:=match j with|0=> .int .i64 x.kind|1=> .int .i64 x.a|2=> .int .i64 x.b|3=> .int .i64 x.fr|_=> .int .i64 x.to
def eSch (x:Rs.Sch×SV×SV) (j:Nat):Value:=match j with|0=> .string ⟨x.1.name.toArray⟩|1=> .slice x.2.1.1 x.2.1.2.1 x.2.1.2.2|_=> .slice x.2.2.1 x.2.2.2.1 x.2.2.2.2
def ZoneOk (lo hi:Nat) (w:World) (z:Rs.Zone) (v:SV):Prop:=LIn 7 eRule lo hi w v z.rules∧(∀r∈z.rules,FitR r)∧I64 z.off
def PersOk (lo hi:Nat) (w:World) (p:Rs.Pers) (v:SV):Prop:=LIn 2 ePair lo hi w v p.quiet
def CalOk (lo hi:Nat) (w:World) (x:Rs.Cal) (v:SV):Prop:=LIn 1 eInt lo hi w v x.days∧ ∀d∈x.days,I64 d
def LayOk (lo hi:Nat) (w:World) (l:Rs.Lay) (v:SV×SV):Prop:=LIn 1 eInt lo hi w v.1 l.mem∧LIn 2 ePair lo hi w v.2 l.wins∧I64 l.day
def SchOk (lo hi:Nat) (w:World) (s:Rs.Sch) (v:SV×SV):Prop:=Nest 10 eLay LayOk lo hi w v.1 s.lays∧LIn 5 eEdit lo hi w v.2 s.edits∧ ∀x∈s.edits,I64 x.to
section
variable {lo hi:Nat} {w w':World}
theorem ZoneOk.kept {z:Rs.Zone} {v:SV} (hk:Kept lo hi w w') (h:ZoneOk lo hi w z v):ZoneOk lo hi w' z v:=⟨h.1.kept hk,h.2⟩
theorem PersOk.kept {z:Rs.Pers} {v:SV} (hk:Kept lo hi w w') (h:PersOk lo hi w z v):PersOk lo hi w' z v:=LIn.kept h hk
theorem CalOk.kept {z:Rs.Cal} {v:SV} (hk:Kept lo hi w w') (h:CalOk lo hi w z v):CalOk lo hi w' z v:=⟨h.1.kept hk,h.2⟩
theorem LayOk.kept {z:Rs.Lay} {v:SV×SV} (hk:Kept lo hi w w') (h:LayOk lo hi w z v):LayOk lo hi w' z v:=⟨h.1.kept hk,h.2.1.kept hk,h.2.2⟩
theorem SchOk.kept {z:Rs.Sch} {v:SV×SV} (hk:Kept lo hi w w') (h:SchOk lo hi w z v):SchOk lo hi w' z v:=⟨h.1.kept (fun _ _=>LayOk.kept hk) hk,h.2.1.kept hk,h.2.2⟩
variable {lo' hi':Nat} (h1:lo'≤lo) (h2:hi≤hi')
include h1 h2
theorem ZoneOk.mono {z:Rs.Zone} {v:SV} (h:ZoneOk lo hi w z v):ZoneOk lo' hi' w z v:=⟨h.1.mono h1 h2,h.2⟩
theorem PersOk.mono {z:Rs.Pers} {v:SV} (h:PersOk lo hi w z v):PersOk lo' hi' w z v:=LIn.mono h h1 h2
theorem CalOk.mono {z:Rs.Cal} {v:SV} (h:CalOk lo hi w z v):CalOk lo' hi' w z v:=⟨h.1.mono h1 h2,h.2⟩
theorem LayOk.mono {z:Rs.Lay} {v:SV×SV} (h:LayOk lo hi w z v):LayOk lo' hi' w z v:=⟨h.1.mono h1 h2,h.2.1.mono h1 h2,h.2.2⟩
theorem SchOk.mono {z:Rs.Sch} {v:SV×SV} (h:SchOk lo hi w z v):SchOk lo' hi' w z v:=⟨h.1.mono (fun _ _=>LayOk.mono h1 h2) h1 h2,h.2.1.mono h1 h2,h.2.2⟩
end
structure CfgAt (lo hi:Nat) (w:World) (a b c d:SV) (C:Rs.Cfg):Prop where
 zones:Nest 3 eZone ZoneOk lo hi w a C.zones
 people:Nest 6 ePers PersOk lo hi w b C.people
 cals:Nest 3 eCal CalOk lo hi w c C.cals
 scheds:Nest 3 eSch SchOk lo hi w d C.scheds
theorem CfgAt.kept {lo hi:Nat} {w w':World} {a b c d:SV} {C:Rs.Cfg} (h:CfgAt lo hi w a b c d C) (hk:Kept lo hi w w'):CfgAt lo hi w' a b c d C:=
 ⟨h.zones.kept (fun _ _=>ZoneOk.kept hk) hk,h.people.kept (fun _ _=>PersOk.kept hk) hk,h.cals.kept (fun _ _=>CalOk.kept hk) hk,h.scheds.kept (fun _ _=>SchOk.kept hk) hk⟩
theorem CfgAt.mono {lo hi lo' hi':Nat} {w:World} {a b c d:SV} {C:Rs.Cfg} (h:CfgAt lo hi w a b c d C) (h1:lo'≤lo) (h2:hi≤hi'):CfgAt lo' hi' w a b c d C:=
 ⟨h.zones.mono (fun _ _=>ZoneOk.mono h1 h2) h1 h2,h.people.mono (fun _ _=>PersOk.mono h1 h2) h1 h2,h.cals.mono (fun _ _=>CalOk.mono h1 h2) h1 h2,h.scheds.mono (fun _ _=>SchOk.mono h1 h2) h1 h2⟩
theorem CfgAt.below {hi:Nat} {lo:Nat} {w w':World} {a b c d:SV} {C:Rs.Cfg} (h:CfgAt lo hi w a b c d C) (hh:hi≤w.heap.size) (hb:Below w.heap.size w w'):CfgAt lo hi w' a b c d C:=h.kept (.of_below hb hh)
theorem CfgAt.no (lo hi:Nat) (w:World):CfgAt lo hi w noSV noSV noSV noSV Rs.noCfg:=⟨Nest.nil_ _ _ _,Nest.nil_ _ _ _,Nest.nil_ _ _ _,Nest.nil_ _ _ _⟩
def cfgV (a b c d:SV):Value:= .agg #[.slice a.1 a.2.1 a.2.2,.slice b.1 b.2.1 b.2.2,.slice c.1 c.2.1 c.2.2,.slice d.1 d.2.1 d.2.2]
def cfgA (a b c d:SV):Array Value:=#[.slice a.1 a.2.1 a.2.2,.slice b.1 b.2.1 b.2.2,.slice c.1 c.2.1 c.2.2,.slice d.1 d.2.1 d.2.2]
end Go.Proofs.YtfamcohbnoibaaaGreatDoor
namespace Go.Proofs.YtfamcohbnoibaaaGreatDoor
open Go.RowKit
inductive Key where
 |zn|pe|ca|sc
 |ru (i:Nat)|qu (i:Nat)|da (i:Nat)|la (i:Nat)|ed (i:Nat)
 |me (i j:Nat)|wi (i j:Nat)
structure Row where
 T:TypeId
 k:Nat
 v:SV
 cs:List Value
def Row.own (r:Row) (w:World) (lo:Nat):Prop:=w.ownsRow lo r.T r.k (sv r.v) r.v.2.1 r.cs
structure Rows (w:World) (lo:Nat) (ρ:Key→Row):Prop where
 own: ∀κ,(ρ κ).own w lo
 sep: ∀κ κ' g,κ≠κ'→(sv (ρ κ).v).ownBlock=some g→(sv (ρ κ').v).ownBlock≠some g
theorem Row.lt {r:Row} {w:World} {lo:Nat} (h:r.own w lo) {g:Nat} (hg:(sv r.v).ownBlock=some g):lo≤g∧g<w.heap.size:=World.ownsRow.lt h g hg
theorem Row.kept {r:Row} {w w':World} {lo:Nat} {row:Option Nat} (h:r.own w lo) (hg:w.grownBy w' row) (hne: ∀g,(sv r.v).ownBlock=some g→row≠some g):r.own w' lo:=by
 refine World.ownsRow.kept h hg ?_
 cases ho:(sv r.v).ownBlock with
 |none=>exact .inl rfl
 |some g=>exact .inr fun e=>hne g ho e.symm
theorem Rows.grow {w w':World} {lo:Nat} {ρ ρ':Key→Row} (κ:Key) (h:Rows w lo ρ) (hg:w.grownBy w' (sv (ρ κ).v).ownBlock) (ho:(ρ' κ).own w' lo) (hn: ∀g,(sv (ρ' κ).v).ownBlock=some g→(sv (ρ κ).v).ownBlock=some g∨w.heap.size≤g)
  (hs: ∀x,x≠κ→ρ' x=ρ x):Rows w' lo ρ':=by
 refine ⟨fun x=> ?_,fun x y g hne hx hy=> ?_⟩
 ·by_cases hx:x=κ
  ·subst hx;exact ho
  ·rw [hs x hx]
   exact Row.kept (h.own x) hg (fun g hg1 hg2=>h.sep x κ g hx hg1 hg2)
 ·by_cases hx':x=κ
  ·subst hx'
   have hy':y≠x:=fun e=>hne e.symm
   rw [hs y hy'] at hy
   rcases hn g hx with h1|h1
   ·exact h.sep x y g hne h1 hy
   ·have :=(Row.lt (h.own y) hy).2;omega
  ·rw [hs x hx'] at hx
   by_cases hy':y=κ
   ·subst hy'
    rcases hn g hy with h1|h1
    ·exact h.sep x y g hne hx h1
    ·have :=(Row.lt (h.own x) hx).2;omega
   ·rw [hs y hy'] at hy
    exact h.sep x y g hne hx hy
theorem Rows.still {w w':World} {lo:Nat} {ρ:Key→Row} (h:Rows w lo ρ) {row:Option Nat} (hg:w.grownBy w' row) (hr: ∀g,row=some g→g<lo):Rows w' lo ρ:=
 ⟨fun κ=>Row.kept (h.own κ) hg (fun g h1 h2=>by have :=(Row.lt (h.own κ) h1).1;have :=hr g h2;omega),h.sep⟩
theorem Rows.alloc {w:World} {lo:Nat} {ρ:Key→Row} (h:Rows w lo ρ) (o:Obj):Rows (w.alloc o) lo ρ:=h.still (row:=none) (grown_alloc (grown_refl _ _) o) (fun g e=>by cases e)
theorem Rows.below {w w':World} {lo:Nat} {ρ:Key→Row} (h:Rows w lo ρ) (hb:Below w.heap.size w w'):Rows w' lo ρ:=h.still (row:=none) (grown_then (grown_refl _ _) hb (Nat.le_refl _)) (fun g e=>by cases e)
theorem Rows.store {w:World} {lo:Nat} {ρ ρ':Key→Row} (π:Key) (h:Rows w lo ρ) {g j:Nat} {u:Value} (ea:(ρ π).v.1=some ⟨g,0,none⟩) (hc:ρ' π=⟨(ρ π).T,(ρ π).k,(ρ π).v,(ρ π).cs.set j u⟩) (hs: ∀x,x≠π→ρ' x=ρ x):
  Rows (w.setCell ⟨g,j,none⟩ u) lo ρ':=by
 have ho:=h.own π
 obtain ⟨r,hr⟩: ∃r,ρ π=r:=⟨_,rfl⟩
 rw [hr] at ho ea hc
 obtain ⟨T,k,⟨A,n,c⟩,cs⟩:=r
 simp only at ea hc
 subst ea
 obtain ⟨h1,h2⟩:=World.ownsRow.stored ho j u
 refine h.grow π (by rw [hr];exact h2) (by rw [hc];exact h1) (fun g' hg'=> .inl ?_) hs
 rw [hc] at hg'
 rw [hr]
 exact hg'
theorem Rows.sub {w w1:World} {lo:Nat} {ρ ρ2:Key→Row} (κ π:Key) (hne:κ≠π) (h:Rows w lo ρ) (hg:w.grownBy w1 (sv (ρ κ).v).ownBlock) (ho:(ρ2 κ).own w1 lo) (hn: ∀g,(sv (ρ2 κ).v).ownBlock=some g→(sv (ρ κ).v).ownBlock=some g∨w.heap.size≤g)
  {g j:Nat} {u:Value} (ea:(ρ π).v.1=some ⟨g,0,none⟩) (hc:ρ2 π=⟨(ρ π).T,(ρ π).k,(ρ π).v,(ρ π).cs.set j u⟩) (hs: ∀x,x≠κ→x≠π→ρ2 x=ρ x):Rows (w1.setCell ⟨g,j,none⟩ u) lo ρ2:=by
 classical
 have h1:Rows w1 lo (fun x=>if x=κ then ρ2 κ else ρ x):=by
  refine h.grow κ hg ?_ ?_ ?_
  ·simp only [if_true];exact ho
  ·simp only [if_true];exact hn
  ·intro x hx;simp only [if_neg hx]
 refine h1.store π (g:=g) (j:=j) (u:=u) ?_ ?_ ?_
 ·simp only [if_neg (fun e:π=κ=>hne e.symm)];exact ea
 ·simp only [if_neg (fun e:π=κ=>hne e.symm)];exact hc
 ·intro x hx
  by_cases hk:x=κ
  ·subst hk;simp only [if_true]
  ·simp only [if_neg hk];exact hs x hk hx
section
variable {α:Type} {k:Nat} {e:α→Nat→Value}
theorem encK_set1 {xs:List α} {i j:Nat} {x x':α} {u:Value} (hx:xs[i]? =some x) (hj:j<k) (hu:e x' j=u) (ho: ∀j',j'<k→j'≠j→e x' j'=e x j'):encK k e (xs.set i x')=(encK k e xs).set (i*k+j) u:=by
 induction xs generalizing i with
 |nil=>simp at hx
 |cons y t ih=>
  match i,hx with
  |0,hx=>
   simp at hx;subst hx
   rw [List.set_cons_zero,encK_cons,encK_cons,List.set_append_left _ _ (by simp;omega)]
   congr 1
   refine List.ext_getElem? fun q=> ?_
   rw [List.getElem?_set,Nat.zero_mul,Nat.zero_add]
   by_cases hq:j=q
   ·subst hq
    rw [if_pos rfl,if_pos (by simpa using hj)]
    simp [hj,hu]
   ·rw [if_neg hq]
    by_cases hqk:q<k
    ·simp [hqk,ho q hqk (fun e=>hq e.symm)]
    ·rw [List.getElem?_eq_none (by simp;omega),List.getElem?_eq_none (by simp;omega)]
  |i+1,hx=>
   have :=ih (i:=i) (by simpa using hx)
   rw [List.set_cons_succ,encK_cons,encK_cons,this,List.set_append_right _ _ (by simp [Nat.add_mul];omega)]
   congr 2
   simp [Nat.add_mul]
   omega
end
def withIx {α β:Type} (f:Nat→β) (l:List α):List (α×β):=l.mapIdx fun i x=>(x,f i)
section
variable {α β:Type} {f f':Nat→β} {l:List α}
theorem withIx_len:(withIx f l).length=l.length:=by simp [withIx]
theorem withIx_get {i:Nat}:(withIx f l)[i]? =(l[i]?).map fun x=>(x,f i):=by simp [withIx]
theorem withIx_fst:(withIx f l).map Prod.fst=l:=by
 refine List.ext_getElem? fun i=> ?_
 rw [List.getElem?_map,withIx_get]
 cases l[i]? <;>rfl
theorem withIx_snoc {x:α}:withIx f (l++[x])=withIx f l++[(x,f l.length)]:=by
 unfold withIx
 rw [List.mapIdx_append]
 simp
theorem withIx_set {i:Nat} {x':α} (h: ∀j,j≠i→f' j=f j):withIx f' (l.set i x')=(withIx f l).set i (x',f' i):=by
 refine List.ext_getElem? fun j=> ?_
 rw [withIx_get,List.getElem?_set,List.getElem?_set,withIx_get,withIx_len]
 by_cases hj:i=j
 ·subst hj
  rw [if_pos rfl,if_pos rfl]
  split<;>rfl
 ·rw [if_neg hj,if_neg hj,h j (fun e=>hj e.symm)]
end
end Go.Proofs.YtfamcohbnoibaaaGreatDoor
namespace Go.Proofs.YtfamcohbnoibaaaGreatDoor
open Go.RowKit
theorem step_append_row {α:Type} {k:Nat} {e:α→Nat→Value} {S T:TypeId} (K:KindOk S T k e)
  {ops:Array Oper} {o:Oper} {a:Act} {N:Act→World→Prop} {Q:Exit→Act→World→Prop} {E:Prop} (w:World) (hgd:o.guard=none) (s x:Operand)
  (ho:o.op= .call {callee:= .builtin .append,args:=#[s,x],argTypes:=#[S,S]}) (B:Nat) (v:Value) (ys:List α) (hs:a.eval s=v) (hown:OwnL T k e w B v ys)
  (blk:Nat) (y:α) (hx:a.eval x= .slice (some ⟨blk,0,none⟩) 1 1) (hb: ∀j,j<k→w.cell? ⟨blk,j,none⟩=some (e y j))
  (hlen:ys.length≤900000) (hB:B≤w.heap.size)
  (h: ∀g cap w',OwnL T k e w' B (.slice (some ⟨g,0,none⟩) (ys.length+1) cap) (ys++[y])→w.grownBy w' v.ownBlock→(v.ownBlock=some g∨g=w.heap.size)→g<w'.heap.size→N (a.put o.dst (.slice (some ⟨g,0,none⟩) (ys.length+1) cap)) w'):
  if Region.wanted o (yielded ops a.tmps)=true then Oper.wp Tryz.prog o a w N Q else E:=by
 obtain ⟨i0,z,bytes,hi,hz0,hz1,hz2,hzz,hk2⟩:=K.info
 refine step_append_lies w hgd s x S ho B T i0 z k bytes K.under hi hz0 hz1 hz2 hzz K.pos v ys.length (encK k e ys) hs hown ⟨blk,0,none⟩ 1 1 (encK k e [y]) hx (by rw [encK_len];rfl) ?_ ?_ (by omega) (by simp only [maxLen];omega) ?_ hB _ rfl ?_
 ·intro j u hu
  obtain ⟨i,j',y',h1,h2,rfl,rfl⟩:=encK_inv hu
  rw [add_none]
  rcases i with _|i
  ·simp at h1;subst h1;simpa using hb j' h2
  ·simp at h1
 ·intro u hu
  simp only [encK,List.mem_flatMap,List.mem_map] at hu
  obtain ⟨y,_,j,_,rfl⟩:=hu
  exact K.one y j
 ·have :=Nat.mul_le_mul (show ys.length+1≤1000000 by omega) hk2
  omega
 ·intro g cap w' h1 h2 h3 h4
  refine h g cap w' ?_ h2 h3 h4
  unfold OwnL
  rw [encK_app,List.length_append]
  exact h1
theorem kZon:KindOk 28 71 3 eZone:=⟨Tryz.underlying28,by obtain ⟨i,a,b,c,d⟩:=info_parts (show (Tryz.prog.info? 71).map (fun i=>(i.zero,i.size,i.bytes))=some (some (.agg #[.string ⟨#[]⟩,.int .i64 0,.slice none 0 0]),3,48) by kernel_rfl);exact ⟨i,_,_,a,b,c,d,rfl,by omega⟩,by omega,fun x j=>by unfold eZone;split<;>rfl⟩
theorem kPer:KindOk 29 98 6 ePers:=⟨Tryz.underlying29,by obtain ⟨i,a,b,c,d⟩:=info_parts (show (Tryz.prog.info? 98).map (fun i=>(i.zero,i.size,i.bytes))=some (some (.agg #[.string ⟨#[]⟩,.int .i64 0,.slice none 0 0,.int .i64 0,.int .i64 0,.bool false]),6,72) by kernel_rfl);exact ⟨i,_,_,a,b,c,d,rfl,by omega⟩,by omega,fun x j=>by unfold ePers;split<;>rfl⟩
theorem kCal:KindOk 30 76 3 eCal:=⟨Tryz.underlying30,by obtain ⟨i,a,b,c,d⟩:=info_parts (show (Tryz.prog.info? 76).map (fun i=>(i.zero,i.size,i.bytes))=some (some (.agg #[.string ⟨#[]⟩,.int .i64 0,.slice none 0 0]),3,48) by kernel_rfl);exact ⟨i,_,_,a,b,c,d,rfl,by omega⟩,by omega,fun x j=>by unfold eCal;split<;>rfl⟩
theorem kSch:KindOk 31 90 3 eSch:=⟨Tryz.underlying31,by obtain ⟨i,a,b,c,d⟩:=info_parts (show (Tryz.prog.info? 90).map (fun i=>(i.zero,i.size,i.bytes))=some (some (.agg #[.string ⟨#[]⟩,.slice none 0 0,.slice none 0 0]),3,64) by kernel_rfl);exact ⟨i,_,_,a,b,c,d,rfl,by omega⟩,by omega,fun x j=>by unfold eSch;split<;>rfl⟩
theorem kLay:KindOk 87 39 10 eLay:=⟨Tryz.underlying87,by obtain ⟨i,a,b,c,d⟩:=info_parts (show (Tryz.prog.info? 39).map (fun i=>(i.zero,i.size,i.bytes))=some (some (.agg #[.string ⟨#[]⟩,.int .i64 0,.int .i64 0,.int .i64 0,.int .i64 0,.int .i64 0,.slice none 0 0,.slice none 0 0,.int .i64 0,.int .i64 0]),10,120) by kernel_rfl);exact ⟨i,_,_,a,b,c,d,rfl,by omega⟩,by omega,fun x j=>by unfold eLay;split<;>rfl⟩
theorem kEdi:KindOk 88 93 5 eEdit:=⟨Tryz.underlying88,by obtain ⟨i,a,b,c,d⟩:=info_parts (show (Tryz.prog.info? 93).map (fun i=>(i.zero,i.size,i.bytes))=some (some (.agg #[.int .i64 0,.int .i64 0,.int .i64 0,.int .i64 0,.int .i64 0]),5,40) by kernel_rfl);exact ⟨i,_,_,a,b,c,d,rfl,by omega⟩,by omega,fun x j=>by unfold eEdit;split<;>rfl⟩
def laysOf (C:Rs.Cfg) (i:Nat):List Rs.Lay:=((C.scheds[i]?).map (·.lays)).getD []
def rowOf (vs:Key→SV) (C:Rs.Cfg):Key→Row
 | .zn=>⟨71,3,vs .zn,encK 3 eZone (withIx (fun i=>vs (.ru i)) C.zones)⟩
 | .pe=>⟨98,6,vs .pe,encK 6 ePers (withIx (fun i=>vs (.qu i)) C.people)⟩
 | .ca=>⟨76,3,vs .ca,encK 3 eCal (withIx (fun i=>vs (.da i)) C.cals)⟩
 | .sc=>⟨90,3,vs .sc,encK 3 eSch (withIx (fun i=>(vs (.la i),vs (.ed i))) C.scheds)⟩
 | .ru i=>⟨148,7,vs (.ru i),encK 7 eRule (((C.zones[i]?).map (·.rules)).getD [])⟩
 | .qu i=>⟨99,2,vs (.qu i),encK 2 ePair (((C.people[i]?).map (·.quiet)).getD [])⟩
 | .da i=>⟨3,1,vs (.da i),encK 1 eInt (((C.cals[i]?).map (·.days)).getD [])⟩
 | .la i=>⟨39,10,vs (.la i),encK 10 eLay (withIx (fun j=>(vs (.me i j),vs (.wi i j))) (laysOf C i))⟩
 | .ed i=>⟨93,5,vs (.ed i),encK 5 eEdit (((C.scheds[i]?).map (·.edits)).getD [])⟩
 | .me i j=>⟨3,1,vs (.me i j),encK 1 eInt ((((laysOf C i)[j]?).map (·.mem)).getD [])⟩
 | .wi i j=>⟨99,2,vs (.wi i j),encK 2 ePair ((((laysOf C i)[j]?).map (·.wins)).getD [])⟩
def Dead (C:Rs.Cfg):Key→Prop
 | .ru i=>C.zones.length≤i
 | .qu i=>C.people.length≤i
 | .da i=>C.cals.length≤i
 | .la i=>C.scheds.length≤i
 | .ed i=>C.scheds.length≤i
 | .me i j=>(laysOf C i).length≤j
 | .wi i j=>(laysOf C i).length≤j
 |_=>False
structure OwnC (w:World) (bc lo:Nat) (vs:Key→SV) (C:Rs.Cfg):Prop where
 blk:BlkAt w bc (cfgA (vs .zn) (vs .pe) (vs .ca) (vs .sc)) 33
 rows:Rows w lo (rowOf vs C)
 dead: ∀κ,Dead C κ→vs κ=noSV
 lt:bc<lo
 le:lo≤w.heap.size
section
variable {α:Type} {k:Nat} {e:α→Nat→Value}
theorem own_list {T:TypeId} {v:SV} {xs:List α} {w:World} {lo:Nat} (h:Row.own ⟨T,k,v,encK k e xs⟩ w lo) (hk:0<k):OwnL T k e w lo (sv v) xs∧xs.length=v.2.1:=by
 have h1:=h.1
 simp only at h1
 rw [encK_len] at h1
 have h2:xs.length=v.2.1:=Nat.eq_of_mul_eq_mul_right hk h1
 refine ⟨?_,h2⟩
 unfold OwnL
 rw [h2]
 exact h
theorem list_own {T:TypeId} {v:SV} {xs:List α} {w:World} {lo:Nat} (h:OwnL T k e w lo (sv v) xs) (h2:xs.length=v.2.1):Row.own ⟨T,k,v,encK k e xs⟩ w lo:=by
 unfold Row.own
 simp only
 rw [←h2]
 exact h
end
theorem OwnC.below {w w':World} {bc lo:Nat} {vs:Key→SV} {C:Rs.Cfg} (h:OwnC w bc lo vs C) (hb:Below w.heap.size w w'):OwnC w' bc lo vs C:=⟨h.blk.after hb,h.rows.below hb,h.dead,h.lt,Nat.le_trans h.le hb.size⟩
theorem OwnC.alloc {w:World} {bc lo:Nat} {vs:Key→SV} {C:Rs.Cfg} (h:OwnC w bc lo vs C) (o:Obj):OwnC (w.alloc o) bc lo vs C:=h.below ((Below.refl _ _).alloc (Nat.le_refl _) o)
theorem OwnC.drewN {w:World} {bc lo:Nat} {vs:Key→SV} {C:Rs.Cfg} (h:OwnC w bc lo vs C) (q:Nat):OwnC (w.drewN q) bc lo vs C:=h.below (bdrewN (Below.refl _ _) q)
theorem OwnC.row {w:World} {bc lo:Nat} {vs:Key→SV} {C:Rs.Cfg} (h:OwnC w bc lo vs C) (κ:Key):(rowOf vs C κ).own w lo:=h.rows.own κ
theorem rowOf_v (vs:Key→SV) (C:Rs.Cfg) (κ:Key):(rowOf vs C κ).v=vs κ:=by cases κ<;>rfl
theorem OwnC.far {w:World} {bc lo:Nat} {vs:Key→SV} {C:Rs.Cfg} (h:OwnC w bc lo vs C) {κ:Key} {g:Nat} (hg:(sv (vs κ)).ownBlock=some g):lo≤g∧g<w.heap.size:=Row.lt (h.rows.own κ) (by rw [rowOf_v];exact hg)
theorem OwnC.apart {w:World} {bc lo:Nat} {vs:Key→SV} {C:Rs.Cfg} (h:OwnC w bc lo vs C) {κ κ':Key} (hne:κ≠κ') {g:Nat} (hg:(sv (vs κ)).ownBlock=some g):(sv (vs κ')).ownBlock≠some g:=by
 have :=h.rows.sep κ κ' g hne
 rw [rowOf_v,rowOf_v] at this
 exact this hg
theorem OwnC.blkG {w w1:World} {bc lo:Nat} {vs:Key→SV} {C:Rs.Cfg} (h:OwnC w bc lo vs C) {κ:Key} (hg:w.grownBy w1 (sv (vs κ)).ownBlock):BlkAt w1 bc (cfgA (vs .zn) (vs .pe) (vs .ca) (vs .sc)) 33:=by
 refine h.blk.grown hg (fun e=> ?_)
 have :=(h.far (κ:=κ) e.symm).1
 have :=h.lt
 omega
theorem get_snoc {α β:Type} {f:α→List β} {l:List α} {z:α} {i:Nat} (h:f z=[]):(((l++[z])[i]?).map f).getD []=((l[i]?).map f).getD []:=by
 rcases Nat.lt_trichotomy i l.length with hi|rfl|hi
 ·rw [List.getElem?_append_left hi]
 ·rw [List.getElem?_append_right (Nat.le_refl _),List.getElem?_eq_none (Nat.le_refl _)]
  simp [h]
 ·rw [List.getElem?_eq_none (by simp;omega),List.getElem?_eq_none (by omega)]
theorem le_snoc {α:Type} {l:List α} {z:α} {i:Nat} (h:(l++[z]).length≤i):l.length≤i:=by simp at h;omega
theorem lays_snoc {C:Rs.Cfg} {z:Rs.Sch} {i:Nat} (h:z.lays=[]):laysOf {C with scheds:=C.scheds++[z]} i=laysOf C i:=get_snoc (f:=Rs.Sch.lays) h
theorem dead_lays {C:Rs.Cfg} {z:Rs.Sch} {i j:Nat} (h:z.lays=[]) (hd:(laysOf {C with scheds:=C.scheds++[z]} i).length≤j):(laysOf C i).length≤j:=by rwa [lays_snoc h] at hd
def putZn (vs:Key→SV) (v:SV):Key→SV
 | .zn=>v
 |x=>vs x
def putCa (vs:Key→SV) (v:SV):Key→SV
 | .ca=>v
 |x=>vs x
def putSc (vs:Key→SV) (v:SV):Key→SV
 | .sc=>v
 |x=>vs x
set_option maxHeartbeats 1000000 in
theorem OwnC.zone {w w1:World} {bc lo:Nat} {vs:Key→SV} {C:Rs.Cfg} (h:OwnC w bc lo vs C) {z:Rs.Zone} (hz:z.rules=[]) {g cap m:Nat} (hm:m=C.zones.length)
  (ho:OwnL 71 3 eZone w1 lo (.slice (some ⟨g,0,none⟩) (m+1) cap) (withIx (fun i=>vs (.ru i)) C.zones++[(z,noSV)])) (hg:w.grownBy w1 (sv (vs .zn)).ownBlock) (hn:(sv (vs .zn)).ownBlock=some g∨g=w.heap.size):
  ∃vs',OwnC (w1.setCell ⟨bc,0,none⟩ (.slice (some ⟨g,0,none⟩) (m+1) cap)) bc lo vs' {C with zones:=C.zones++[z]}:=by
 subst hm
 have hB:=h.blkG hg
 have hR:Rows w1 lo (rowOf (putZn vs (some ⟨g,0,none⟩,C.zones.length+1,cap)) {C with zones:=C.zones++[z]}):=by
  refine h.rows.grow .zn (by rw [rowOf_v];exact hg) ?_ ?_ ?_
  ·refine list_own (xs:=withIx (fun i=>vs (.ru i)) (C.zones++[z])) ?_ ?_
   ·rw [withIx_snoc,h.dead (.ru C.zones.length) (Nat.le_refl _)]
    exact ho
   ·rw [withIx_len];simp;rfl
  ·intro g' hg'
   have hg2:some g=some g':=hg'
   cases hg2
   rw [rowOf_v]
   exact hn.imp id (fun e=>by omega)
  ·intro x hx
   cases x with
   |zn=>exact absurd rfl hx
   |pe=>rfl
   |ca=>rfl
   |sc=>rfl
   |ru i=>show Row.mk _ _ _ (encK _ _ ((((C.zones++[z])[i]?).map (·.rules)).getD []))=_;rw [get_snoc hz];rfl
   |qu i=>rfl
   |da i=>rfl
   |la i=>rfl
   |ed i=>rfl
   |me i j=>rfl
   |wi i j=>rfl
 refine ⟨_,⟨?_,hR.still (grown_set w1 bc 0 _) (fun g' e=>by cases e;exact h.lt), ?_,h.lt, ?_⟩⟩
 ·exact hB.set_ 0 (sv (some ⟨g,0,none⟩,C.zones.length+1,cap))
 ·intro κ hd
  cases κ<;>first|exact absurd hd id|(exact h.dead _ hd)|(exact h.dead _ (le_snoc hd))
 ·have :=hg.size;have :=h.le;simp;omega
set_option maxHeartbeats 1000000 in
theorem OwnC.cal {w w1:World} {bc lo:Nat} {vs:Key→SV} {C:Rs.Cfg} (h:OwnC w bc lo vs C) {z:Rs.Cal} (hz:z.days=[]) {g cap m:Nat} (hm:m=C.cals.length)
  (ho:OwnL 76 3 eCal w1 lo (.slice (some ⟨g,0,none⟩) (m+1) cap) (withIx (fun i=>vs (.da i)) C.cals++[(z,noSV)])) (hg:w.grownBy w1 (sv (vs .ca)).ownBlock) (hn:(sv (vs .ca)).ownBlock=some g∨g=w.heap.size):
  ∃vs',OwnC (w1.setCell ⟨bc,2,none⟩ (.slice (some ⟨g,0,none⟩) (m+1) cap)) bc lo vs' {C with cals:=C.cals++[z]}:=by
 subst hm
 have hB:=h.blkG hg
 have hR:Rows w1 lo (rowOf (putCa vs (some ⟨g,0,none⟩,C.cals.length+1,cap)) {C with cals:=C.cals++[z]}):=by
  refine h.rows.grow .ca (by rw [rowOf_v];exact hg) ?_ ?_ ?_
  ·refine list_own (xs:=withIx (fun i=>vs (.da i)) (C.cals++[z])) ?_ ?_
   ·rw [withIx_snoc,h.dead (.da C.cals.length) (Nat.le_refl _)]
    exact ho
   ·rw [withIx_len];simp;rfl
  ·intro g' hg'
   have hg2:some g=some g':=hg'
   cases hg2
   rw [rowOf_v]
   exact hn.imp id (fun e=>by omega)
  ·intro x hx
   cases x with
   |zn=>rfl
   |pe=>rfl
   |ca=>exact absurd rfl hx
   |sc=>rfl
   |ru i=>rfl
   |qu i=>rfl
   |da i=>show Row.mk _ _ _ (encK _ _ ((((C.cals++[z])[i]?).map (·.days)).getD []))=_;rw [get_snoc hz];rfl
   |la i=>rfl
   |ed i=>rfl
   |me i j=>rfl
   |wi i j=>rfl
 refine ⟨_,⟨?_,hR.still (grown_set w1 bc 2 _) (fun g' e=>by cases e;exact h.lt), ?_,h.lt, ?_⟩⟩
 ·exact hB.set_ 2 (sv (some ⟨g,0,none⟩,C.cals.length+1,cap))
 ·intro κ hd
  cases κ<;>first|exact absurd hd id|(exact h.dead _ hd)|(exact h.dead _ (le_snoc hd))
 ·have :=hg.size;have :=h.le;simp;omega
set_option maxHeartbeats 1000000 in
theorem OwnC.sch {w w1:World} {bc lo:Nat} {vs:Key→SV} {C:Rs.Cfg} (h:OwnC w bc lo vs C) {z:Rs.Sch} (hz:z.lays=[]) (hz2:z.edits=[]) {g cap m:Nat} (hm:m=C.scheds.length)
  (ho:OwnL 90 3 eSch w1 lo (.slice (some ⟨g,0,none⟩) (m+1) cap) (withIx (fun i=>(vs (.la i),vs (.ed i))) C.scheds++[(z,(noSV,noSV))])) (hg:w.grownBy w1 (sv (vs .sc)).ownBlock) (hn:(sv (vs .sc)).ownBlock=some g∨g=w.heap.size):
  ∃vs',OwnC (w1.setCell ⟨bc,3,none⟩ (.slice (some ⟨g,0,none⟩) (m+1) cap)) bc lo vs' {C with scheds:=C.scheds++[z]}:=by
 subst hm
 have hB:=h.blkG hg
 have hR:Rows w1 lo (rowOf (putSc vs (some ⟨g,0,none⟩,C.scheds.length+1,cap)) {C with scheds:=C.scheds++[z]}):=by
  refine h.rows.grow .sc (by rw [rowOf_v];exact hg) ?_ ?_ ?_
  ·refine list_own (xs:=withIx (fun i=>(vs (.la i),vs (.ed i))) (C.scheds++[z])) ?_ ?_
   ·rw [withIx_snoc,h.dead (.la C.scheds.length) (Nat.le_refl _),h.dead (.ed C.scheds.length) (Nat.le_refl _)]
    exact ho
   ·rw [withIx_len];simp;rfl
  ·intro g' hg'
   have hg2:some g=some g':=hg'
   cases hg2
   rw [rowOf_v]
   exact hn.imp id (fun e=>by omega)
  ·intro x hx
   cases x with
   |zn=>rfl
   |pe=>rfl
   |ca=>rfl
   |sc=>exact absurd rfl hx
   |ru i=>rfl
   |qu i=>rfl
   |da i=>rfl
   |la i=>show Row.mk _ _ _ (encK _ _ (withIx _ (laysOf {C with scheds:=C.scheds++[z]} i)))=_;rw [lays_snoc hz];rfl
   |ed i=>show Row.mk _ _ _ (encK _ _ ((((C.scheds++[z])[i]?).map (·.edits)).getD []))=_;rw [get_snoc hz2];rfl
   |me i j=>show Row.mk _ _ _ (encK _ _ ((((laysOf {C with scheds:=C.scheds++[z]} i)[j]?).map _).getD []))=_;rw [lays_snoc hz];rfl
   |wi i j=>show Row.mk _ _ _ (encK _ _ ((((laysOf {C with scheds:=C.scheds++[z]} i)[j]?).map _).getD []))=_;rw [lays_snoc hz];rfl
 refine ⟨_,⟨?_,hR.still (grown_set w1 bc 3 _) (fun g' e=>by cases e;exact h.lt), ?_,h.lt, ?_⟩⟩
 ·exact hB.set_ 3 (sv (some ⟨g,0,none⟩,C.scheds.length+1,cap))
 ·intro κ hd
  cases κ<;>first|exact absurd hd id|(exact h.dead _ hd)|(exact h.dead _ (le_snoc hd))|(exact h.dead _ (dead_lays hz hd))
 ·have :=hg.size;have :=h.le;simp;omega
end Go.Proofs.YtfamcohbnoibaaaGreatDoor
namespace Go.Proofs.YtfamcohbnoibaaaGreatDoor
open Go.RowKit
def putDa (vs:Key→SV) (n:Nat) (v:SV):Key→SV
 | .da i=>if i=n then v else vs (.da i)
 |x=>vs x
theorem lt_get {α:Type} {l:List α} {n:Nat} {z:α} (h:l[n]? =some z):n<l.length:=(List.getElem?_eq_some_iff.1 h).1
theorem set_self {α:Type} {l:List α} {n:Nat} {z z':α} (h:l[n]? =some z):(l.set n z')[n]? =some z':=List.getElem?_set_self (lt_get h)
theorem set_other {α:Type} {l:List α} {n i:Nat} {z':α} (h:i≠n):(l.set n z')[i]? =l[i]? :=List.getElem?_set_ne (fun e=>h e.symm)
theorem OwnC.gne {w:World} {bc lo:Nat} {vs:Key→SV} {C:Rs.Cfg} (h:OwnC w bc lo vs C) {κ:Key} {g:Nat} (ez:(vs κ).1=some ⟨g,0,none⟩):g≠bc∧lo≤g∧g<w.heap.size:=by
 have hf:=h.far (κ:=κ) (g:=g) (by unfold sv;rw [ez];rfl)
 have :=h.lt
 omega
theorem laysOf_get {C:Rs.Cfg} {n:Nat} {s:Rs.Sch} (h:C.scheds[n]? =some s):laysOf C n=s.lays:=by unfold laysOf;rw [h];rfl
set_option maxHeartbeats 1000000 in
theorem OwnC.day {w w1:World} {bc lo:Nat} {vs:Key→SV} {C:Rs.Cfg} (h:OwnC w bc lo vs C) {n:Nat} {z z':Rs.Cal} (hz:C.cals[n]? =some z) {r:Int} (hz':z'={z with days:=z.days++[r]}) {g cap m gz:Nat} (hm:m=z.days.length)
  (ho:OwnL 3 1 eInt w1 lo (.slice (some ⟨g,0,none⟩) (m+1) cap) (z.days++[r])) (hg:w.grownBy w1 (sv (vs (.da n))).ownBlock) (hn:(sv (vs (.da n))).ownBlock=some g∨g=w.heap.size) (ez:(vs .ca).1=some ⟨gz,0,none⟩):
  ∃vs',OwnC (w1.setCell ⟨gz,n*3+2,none⟩ (.slice (some ⟨g,0,none⟩) (m+1) cap)) bc lo vs' {C with cals:=C.cals.set n z'}∧vs' .ca=vs .ca:=by
 subst hm
 obtain ⟨V,hV⟩: ∃V:SV,(some ⟨g,0,none⟩,z.days.length+1,cap)=V:=⟨_,rfl⟩
 have hB:=h.blkG hg
 have hgz:=h.gne ez
 have hlt:=lt_get hz
 have hVn:putDa vs n V (.da n)=V:=if_pos rfl
 have hR:Rows (w1.setCell ⟨gz,n*3+2,none⟩ (sv V)) lo (rowOf (putDa vs n V) {C with cals:=C.cals.set n z'}):=by
  refine h.rows.sub (.da n) .ca (fun e=>by cases e) (by rw [rowOf_v];exact hg) ?_ ?_ ez ?_ ?_
  ·show Row.own ⟨_,_,putDa vs n V (.da n),encK _ _ ((((C.cals.set n z')[n]?).map (·.days)).getD [])⟩ w1 lo
   rw [hVn,set_self hz]
   subst hz' hV
   exact list_own (xs:=z.days++[r]) ho (by simp)
  ·intro g' hg'
   rw [rowOf_v,hVn, ←hV] at hg'
   have hg2:some g=some g':=hg'
   cases hg2
   rw [rowOf_v]
   exact hn.imp id (fun e=>by omega)
  ·show Row.mk _ _ _ (encK 3 eCal (withIx (fun i=>putDa vs n V (.da i)) (C.cals.set n z')))=Row.mk _ _ _ ((encK 3 eCal (withIx (fun i=>vs (.da i)) C.cals)).set _ _)
   rw [withIx_set (f:=fun i=>vs (.da i)) (f':=fun i=>putDa vs n V (.da i)) (fun j hj=>if_neg hj)]
   rw [encK_set1 (x:=(z,vs (.da n))) (j:=2) (u:=sv V) (by rw [withIx_get,hz];rfl) (by omega) (by simp only [hVn];rfl) (fun j' h1 h2=>by subst hz';rcases j' with _|_|_|_<;>first|rfl|exact absurd rfl h2|omega)]
   rfl
  ·intro x hx1 hx2
   cases x with
   |zn=>rfl
   |pe=>rfl
   |ca=>exact absurd rfl hx2
   |sc=>rfl
   |ru i=>rfl
   |qu i=>rfl
   |da i=>
    have hi:i≠n:=fun e=>hx1 (by rw [e])
    show Row.mk _ _ (putDa vs n V (.da i)) (encK _ _ ((((C.cals.set n z')[i]?).map (·.days)).getD []))=_
    rw [set_other hi,show putDa vs n V (.da i)=vs (.da i) from if_neg hi]
    rfl
   |la i=>rfl
   |ed i=>rfl
   |me i j=>rfl
   |wi i j=>rfl
 refine ⟨putDa vs n V,⟨?_, ?_, ?_,h.lt, ?_⟩,rfl⟩
 ·exact BlkAt.other hB hgz.1 _
 ·rw [←hV] at hR ⊢;exact hR
 ·intro κ hd
  cases κ with
  |da i=>
   have hd2:(C.cals.set n z').length≤i:=hd
   rw [List.length_set] at hd2
   exact (if_neg (by omega)).trans (h.dead (.da i) hd2)
  |_=>exact h.dead _ hd
 ·have :=hg.size;have :=h.le;simp;omega
end Go.Proofs.YtfamcohbnoibaaaGreatDoor
namespace Go.Proofs.YtfamcohbnoibaaaGreatDoor
open Go.RowKit
structure But (bc lo:Nat) (w w':World):Prop where
 os:w'.os=w.os
 tape:w'.tape=w.tape
 output:w'.output=w.output
 size:w.heap.size≤w'.heap.size
 block: ∀k,k<lo→k≠bc→w'.heap[k]? =w.heap[k]?
theorem But.refl (bc lo:Nat) (w:World):But bc lo w w:=⟨rfl,rfl,rfl,Nat.le_refl _,fun _ _ _=>rfl⟩
theorem But.trans {bc lo:Nat} {w w1 w2:World} (h:But bc lo w w1) (h2:But bc lo w1 w2):But bc lo w w2:=
 ⟨h2.os.trans h.os,h2.tape.trans h.tape,h2.output.trans h.output,Nat.le_trans h.size h2.size,fun k h3 h4=>(h2.block k h3 h4).trans (h.block k h3 h4)⟩
theorem But.of_below {bc lo B:Nat} {w w':World} (h:Below B w w') (hB:lo≤B):But bc lo w w':=⟨h.os,h.tape,h.output,h.size,fun k h1 _=>h.block k (by omega)⟩
theorem But.of_grown {bc lo:Nat} {w w':World} {row:Option Nat} (h:w.grownBy w' row) (hl:lo≤w.heap.size) (hr: ∀g,row=some g→lo≤g∨g=bc):But bc lo w w':=
 ⟨h.os,h.tape,h.output,h.size,fun k h1 h2=>h.block k (by omega) (fun e=>by have :=hr k e.symm;omega)⟩
theorem But.below {bc lo:Nat} {w w1 w2:World} (h:But bc lo w w1) (hb:Below w1.heap.size w1 w2) (hl:lo≤w.heap.size):But bc lo w w2:=h.trans (.of_below hb (Nat.le_trans hl h.size))
theorem But.set {bc lo:Nat} {w:World} (g i:Nat) (u:Value) (hl:lo≤w.heap.size) (hg:lo≤g∨g=bc):But bc lo w (w.setCell ⟨g,i,none⟩ u):= .of_grown (grown_set w g i u) hl (fun g' e=>by cases e;exact hg)
structure GoodC (N:Nat) (C:Rs.Cfg):Prop where
 zl:C.zones.length≤N
 pl:C.people.length≤N
 cl:C.cals.length≤N
 sl:C.scheds.length≤N
 zs: ∀z∈C.zones,z.rules.length≤N∧I64 z.off∧ ∀r∈z.rules,FitR r
 ps: ∀p∈C.people,p.quiet.length≤N
 cs: ∀x∈C.cals,x.days.length≤N∧ ∀d∈x.days,I64 d
 ss: ∀s∈C.scheds,s.lays.length≤N∧s.edits.length≤N∧(∀x∈s.edits,I64 x.to)∧ ∀l∈s.lays,l.mem.length≤N∧l.wins.length≤N∧I64 l.day
section
variable {α:Type} {k:Nat} {e:α→Nat→Value}
theorem lin_own {T:TypeId} {v:SV} {xs:List α} {w:World} {lo:Nat} (h:Row.own ⟨T,k,v,encK k e xs⟩ w lo) (hk:0<k) (hl:xs.length≤1000000):LIn k e 0 w.heap.size w v xs:=by
 obtain ⟨h1,h2⟩:=own_list h hk
 obtain ⟨A,c,ev,hc,hn,hl1⟩:=h1.shape
 obtain ⟨A',n',c'⟩:=v
 unfold sv at ev
 simp only [Value.slice.injEq] at ev h2
 obtain ⟨rfl,e2,rfl⟩:=ev
 refine ⟨hl1,h2,by simp only;omega,by simp only;omega,fun ad ea=> ?_⟩
 simp only at ea
 subst ea
 have :=Row.lt h (g:=ad.block) rfl
 omega
end
section
variable {w:World} {bc lo:Nat} {vs:Key→SV} {C:Rs.Cfg} (h:OwnC w bc lo vs C)
include h
theorem OwnC.rRu {i:Nat} {z:Rs.Zone} (hz:C.zones[i]? =some z):Row.own ⟨148,7,vs (.ru i),encK 7 eRule z.rules⟩ w lo:=by
 have :=h.row (.ru i)
 rw [show rowOf vs C (.ru i)=⟨_,_,_,encK 7 eRule (((C.zones[i]?).map (·.rules)).getD [])⟩ from rfl,hz] at this
 exact this
theorem OwnC.rQu {i:Nat} {z:Rs.Pers} (hz:C.people[i]? =some z):Row.own ⟨99,2,vs (.qu i),encK 2 ePair z.quiet⟩ w lo:=by
 have :=h.row (.qu i)
 rw [show rowOf vs C (.qu i)=⟨_,_,_,encK 2 ePair (((C.people[i]?).map (·.quiet)).getD [])⟩ from rfl,hz] at this
 exact this
theorem OwnC.rDa {i:Nat} {z:Rs.Cal} (hz:C.cals[i]? =some z):Row.own ⟨3,1,vs (.da i),encK 1 eInt z.days⟩ w lo:=by
 have :=h.row (.da i)
 rw [show rowOf vs C (.da i)=⟨_,_,_,encK 1 eInt (((C.cals[i]?).map (·.days)).getD [])⟩ from rfl,hz] at this
 exact this
theorem OwnC.rEd {i:Nat} {z:Rs.Sch} (hz:C.scheds[i]? =some z):Row.own ⟨93,5,vs (.ed i),encK 5 eEdit z.edits⟩ w lo:=by
 have :=h.row (.ed i)
 rw [show rowOf vs C (.ed i)=⟨_,_,_,encK 5 eEdit (((C.scheds[i]?).map (·.edits)).getD [])⟩ from rfl,hz] at this
 exact this
theorem OwnC.rLa {i:Nat} {z:Rs.Sch} (hz:C.scheds[i]? =some z):Row.own ⟨39,10,vs (.la i),encK 10 eLay (withIx (fun j=>(vs (.me i j),vs (.wi i j))) z.lays)⟩ w lo:=by
 have :=h.row (.la i)
 rw [show rowOf vs C (.la i)=⟨_,_,_,encK 10 eLay (withIx (fun j=>(vs (.me i j),vs (.wi i j))) (laysOf C i))⟩ from rfl,laysOf_get hz] at this
 exact this
theorem OwnC.rMe {i j:Nat} {z:Rs.Sch} (hz:C.scheds[i]? =some z) {l:Rs.Lay} (hl:z.lays[j]? =some l):Row.own ⟨3,1,vs (.me i j),encK 1 eInt l.mem⟩ w lo:=by
 have :=h.row (.me i j)
 rw [show rowOf vs C (.me i j)=⟨_,_,_,encK 1 eInt ((((laysOf C i)[j]?).map (·.mem)).getD [])⟩ from rfl,laysOf_get hz,hl] at this
 exact this
theorem OwnC.rWi {i j:Nat} {z:Rs.Sch} (hz:C.scheds[i]? =some z) {l:Rs.Lay} (hl:z.lays[j]? =some l):Row.own ⟨99,2,vs (.wi i j),encK 2 ePair l.wins⟩ w lo:=by
 have :=h.row (.wi i j)
 rw [show rowOf vs C (.wi i j)=⟨_,_,_,encK 2 ePair ((((laysOf C i)[j]?).map (·.wins)).getD [])⟩ from rfl,laysOf_get hz,hl] at this
 exact this
end
theorem OwnC.cfg {w:World} {bc lo N:Nat} {vs:Key→SV} {C:Rs.Cfg} (h:OwnC w bc lo vs C) (hG:GoodC N C) (hN:N≤1000000):CfgAt 0 w.heap.size w (vs .zn) (vs .pe) (vs .ca) (vs .sc) C:=by
 refine ⟨⟨withIx (fun i=>vs (.ru i)) C.zones,withIx_fst,lin_own (h.row .zn) (by omega) (by rw [withIx_len];have :=hG.zl;omega), ?_⟩,⟨withIx (fun i=>vs (.qu i)) C.people,withIx_fst,lin_own (h.row .pe) (by omega) (by rw [withIx_len];have :=hG.pl;omega), ?_⟩,
  ⟨withIx (fun i=>vs (.da i)) C.cals,withIx_fst,lin_own (h.row .ca) (by omega) (by rw [withIx_len];have :=hG.cl;omega), ?_⟩,⟨withIx (fun i=>(vs (.la i),vs (.ed i))) C.scheds,withIx_fst,lin_own (h.row .sc) (by omega) (by rw [withIx_len];have :=hG.sl;omega), ?_⟩⟩
 ·intro x hx
  obtain ⟨i,hi⟩:=List.getElem?_of_mem hx
  rw [withIx_get] at hi
  cases hz:C.zones[i]? with
  |none=>rw [hz] at hi;cases hi
  |some z=>
   rw [hz] at hi
   cases hi
   have hg:=hG.zs z (List.mem_of_getElem? hz)
   have hr:=h.rRu hz
   exact ⟨lin_own hr (by omega) (by have :=hg.1;simp;omega),hg.2.2,hg.2.1⟩
 ·intro x hx
  obtain ⟨i,hi⟩:=List.getElem?_of_mem hx
  rw [withIx_get] at hi
  cases hz:C.people[i]? with
  |none=>rw [hz] at hi;cases hi
  |some z=>
   rw [hz] at hi
   cases hi
   have hg:=hG.ps z (List.mem_of_getElem? hz)
   have hr:=h.rQu hz
   exact lin_own hr (by omega) (by have :=hg;simp;omega)
 ·intro x hx
  obtain ⟨i,hi⟩:=List.getElem?_of_mem hx
  rw [withIx_get] at hi
  cases hz:C.cals[i]? with
  |none=>rw [hz] at hi;cases hi
  |some z=>
   rw [hz] at hi
   cases hi
   have hg:=hG.cs z (List.mem_of_getElem? hz)
   have hr:=h.rDa hz
   exact ⟨lin_own hr (by omega) (by have :=hg.1;simp;omega),hg.2⟩
 ·intro x hx
  obtain ⟨i,hi⟩:=List.getElem?_of_mem hx
  rw [withIx_get] at hi
  cases hz:C.scheds[i]? with
  |none=>rw [hz] at hi;cases hi
  |some z=>
   rw [hz] at hi
   cases hi
   have hg:=hG.ss z (List.mem_of_getElem? hz)
   have hr:=h.rLa hz
   have hr2:=h.rEd hz
   refine ⟨⟨withIx (fun j=>(vs (.me i j),vs (.wi i j))) z.lays,withIx_fst,lin_own hr (by omega) (by rw [withIx_len];have :=hg.1;omega), ?_⟩,lin_own hr2 (by omega) (by have :=hg.2.1;simp;omega),hg.2.2.1⟩
   intro y hy
   obtain ⟨j,hj⟩:=List.getElem?_of_mem hy
   rw [withIx_get] at hj
   cases hl:z.lays[j]? with
   |none=>rw [hl] at hj;cases hj
   |some l=>
    rw [hl] at hj
    cases hj
    have hg2:=hg.2.2.2 l (List.mem_of_getElem? hl)
    have h1:=h.rMe hz hl
    have h2:=h.rWi hz hl
    exact ⟨lin_own h1 (by omega) (by have :=hg2.1;simp;omega),lin_own h2 (by omega) (by have :=hg2.2.1;simp;omega),hg2.2.2⟩
theorem OwnC.slices {w:World} {bc lo:Nat} {vs:Key→SV} {C:Rs.Cfg} (h:OwnC w bc lo vs C):w.cell? ⟨bc,0,none⟩=some (.slice (vs .zn).1 (vs .zn).2.1 (vs .zn).2.2)∧w.cell? ⟨bc,1,none⟩=some (.slice (vs .pe).1 (vs .pe).2.1 (vs .pe).2.2)∧w.cell? ⟨bc,2,none⟩=some (.slice (vs .ca).1 (vs .ca).2.1 (vs .ca).2.2)∧w.cell? ⟨bc,3,none⟩=some (.slice (vs .sc).1 (vs .sc).2.1 (vs .sc).2.2):=
 ⟨h.blk.cell rfl,h.blk.cell rfl,h.blk.cell rfl,h.blk.cell rfl⟩
theorem OwnC.free {w:World} {bc lo:Nat} {vs:Key→SV} {C:Rs.Cfg} (h:OwnC w bc lo vs C) (i:Nat):w.frozen? ⟨bc,i,none⟩=false:=h.blk.free i
structure TokIn (w:World) (bc:Nat) (A:Option Addr) (l:List Lx.Tk):Prop where
 at_:ListAt 3 eTok w A l
 far: ∀ad,A=some ad→ad.block<bc
 fit: ∀t∈l,I64 t.2.2
theorem TokIn.but {w w':World} {bc lo:Nat} {A:Option Addr} {l:List Lx.Tk} (h:TokIn w bc A l) (hb:But bc lo w w') (hl:bc<lo):TokIn w' bc A l:=
 ⟨h.at_.kept (lo:=0) (hi:=bc) ⟨hb.size,fun b _ h2=>hb.block b (by omega) (by omega)⟩ (fun ad ea=>⟨Nat.zero_le _,h.far ad ea⟩),h.far,h.fit⟩
theorem TokIn.get {w:World} {bc:Nat} {A:Option Addr} {l:List Lx.Tk} (h:TokIn w bc A l) {i:Nat} (hi:i<l.length):
  ∃b off k,A=some ⟨b,off,none⟩∧b<bc∧w.cell? ⟨b,off+i*3,none⟩=some (.int .i64 k)∧w.cell? ⟨b,off+i*3+1,none⟩=some (.string ⟨(Rs.tx l i).toArray⟩)∧w.cell? ⟨b,off+i*3+2,none⟩=some (.int .i64 (Rs.nm l i))∧I64 (Rs.nm l i):=by
 obtain ⟨y,hy⟩:=get_ex hi
 obtain ⟨b,off,ea,c0,c1,c2⟩:=tok_elem h.at_ hy
 have e1:l.getD i (0,[],0)=y:=by rw [List.getD,hy];rfl
 refine ⟨b,off,y.1,ea,h.far _ ea,c0, ?_, ?_, ?_⟩
 ·unfold Rs.tx;rw [e1];exact c1
 ·unfold Rs.nm;rw [e1];exact c2
 ·unfold Rs.nm;rw [e1];exact h.fit y (List.mem_of_getElem? hy)
end Go.Proofs.YtfamcohbnoibaaaGreatDoor
