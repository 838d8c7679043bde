import Derived.Deep.RegionHeld3
import Derived.Deep.DrawnRows
import Derived.Test.YtfamcohbnoibaaaGreatDoorKG08
set_option linter.unusedVariables false
set_option linter.unusedSimpArgs false
set_option maxRecDepth 100000
namespace Go.Proofs.YtfamcohbnoibaaaGreatDoor
open Go
section
variable {P:Program} {ops:Array Oper} {Q:Exit→Act→World→Prop} {md:Region.Mode} {S:World→Prop} {z:Nat}
def AnyZ (P:Program) (md:Region.Mode) (ops:Array Oper) (Q:Exit→Act→World→Prop) (S:World→Prop) (z:Nat):Nat→Array Bool→Act→World→Prop
 |0,l,a,w=>Region.ready md ops l=[]∧Q .normal a w
 |k+1,l,a,w=>(Region.ready md ops l=[]→Q .normal a w)∧ ∀i∈Region.ready md ops l,wpOp P ops Q i (fun a' w'=>(i=z∨S w')∧AnyZ P md ops Q S z k (l.setIfInBounds i true) a' w') a w
theorem AnyZ.any: ∀(k:Nat) (l:Array Bool) (a:Act) (w:World),AnyZ P md ops Q S z k l a w→wpAny P md ops Q k l a w
 |0,_,_,_,h=>h
 |k+1,_,_,_,h=>⟨h.1,fun i hi=>wpOp_mono (fun a' w' h'=>AnyZ.any k _ a' w' h'.2) (h.2 i hi)⟩
def waits (md:Region.Mode) (ops:Array Oper) (i:Nat) (ch:List Nat):Bool:=ch.all fun j=>match ops[j]? with|some o=>o.after.any fun e=>Region.binds md e&&(e.on==i||ch.contains e.on)|none=>false
def unl (l:Array Bool) (ch:List Nat):Bool:=ch.all fun j=> !l.getD j true
theorem unl_getD {l:Array Bool} {j:Nat} (h:l.getD j true=false):l.getD j false=false:=by
 rcases Nat.lt_or_ge j l.size with h'|h'
 ·simp [h'] at h ⊢;exact h
 ·simp [Array.getElem?_eq_none h'] at h
theorem waits_spec {i:Nat} {ch:List Nat} {l:Array Bool} (hw:waits md ops i ch=true) (hu:unl l ch=true) (hi:l.getD i true=false) {j:Nat} (hj:j∈Region.ready md ops l) (hji:j≠i):j∉ch:=by
 intro hc
 obtain ⟨h0,o,ho,hall⟩:=mem_ready.1 hj
 have h1:=List.all_eq_true.1 hw j hc
 rw [ho] at h1
 simp only [Bool.and_eq_true,Bool.or_eq_true,beq_iff_eq,List.contains_iff_mem,Array.any_eq_true] at h1
 obtain ⟨n,hn,hb,he⟩:=h1
 have h2:=hall _ (Array.getElem_mem hn) hb
 rcases he with he|he
 ·rw [he,unl_getD hi] at h2;cases h2
 ·have h3:=List.all_eq_true.1 hu _ he
  rw [unl_getD (by simpa using h3)] at h2
  cases h2
theorem AnyZ.first {i:Nat} {oi:Oper} {v:Value} {ch:List Nat} (hi:ops[i]? =some oi) (hsel: ∀(j:Nat) (o:Oper) cs b,ops[j]? =some o→o.op≠ .select cs b)
  (hQ: ∀c a w,Q (.panic c) (a.put oi.dst v) w→Q (.panic c) a w) (hw:waits md ops i ch=true) (hz:z∈ch):
  ∀(k:Nat) (l:Array Bool) (a:Act) (w:World),
   (∀j oj,ops[j]? =some oj→j≠i→l.getD j true=false→(∀e∈oj.after,Region.binds md e=true→e.on≠i)→oi.apart ops oj=true)→
   unl l ch=true→i∈Region.ready md ops l→YieldsIf P ops S oi v a→S w→
   AnyZ P md ops Q S z k (l.setIfInBounds i true) (a.put oi.dst v) w→AnyZ P md ops Q S z (k+1) l a w:=by
 intro k
 induction k with
 |zero=>
  intro l a w _ hu hr hy hS H
  refine ⟨fun h=>(by rw [h] at hr;cases hr),fun j hj=> ?_⟩
  by_cases hji:j=i
  ·subst hji;exact hy.wpOp hi hS ⟨.inr hS,H⟩
  ·have :=ready_mono hj hji
   rw [H.1] at this
   cases this
 |succ k ih=>
  intro l a w hfree hu hr hy hS H
  refine ⟨fun h=>(by rw [h] at hr;cases hr),fun j hj=> ?_⟩
  by_cases hji:j=i
  ·subst hji;exact hy.wpOp hi hS ⟨.inr hS,H⟩
  ·have hli:=(mem_ready.1 hr).1
   have hjc:=waits_spec hw hu hli hj hji
   have h1:=H.2 j (ready_mono hj hji)
   obtain ⟨hjun,oj,hoj,hall⟩:=mem_ready.1 hj
   have hnot: ∀e∈oj.after,Region.binds md e=true→e.on≠i:=fun e he hb heq=>by
    have h3:=hall e he hb
    rw [heq,unl_getD hli] at h3
    cases h3
   have h2:=wpOp_putIf hoj (hfree j oj hoj hji hjun hnot) (fun cs b=>hsel i oi cs b hi) (fun cs b=>hsel j oj cs b hoj) hQ hy h1
   have hfree': ∀n on,ops[n]? =some on→n≠i→(l.setIfInBounds j true).getD n true=false→(∀e∈on.after,Region.binds md e=true→e.on≠i)→oi.apart ops on=true:=fun n on hn hni hun hno=>by
    refine hfree n on hn hni ?_ hno
    by_cases hjn:j=n
    ·subst hjn;exact hjun
    ·rw [getD_set_ne true hjn] at hun;exact hun
   have hu':unl (l.setIfInBounds j true) ch=true:=by
    refine List.all_eq_true.2 fun n hn=> ?_
    rw [getD_set_ne true (show j≠n from fun e=>hjc (by rw [e];exact hn))]
    exact List.all_eq_true.1 hu n hn
   refine wpOp_mono (fun a' w' h3=> ?_) h2
   obtain ⟨y1,y2,y3⟩:=h3
   have hSw:S w':=y2.resolve_left (fun e=>hjc (e▸hz))
   refine ⟨.inr hSw,ih (l.setIfInBounds j true) a' w' hfree' hu' (ready_mono hr (Ne.symm hji)) y1 hSw ?_⟩
   rw [Array.setIfInBounds_comm _ _ hji]
   exact y3
theorem AnyZ.take {i:Nat} {oi:Oper} {v:Value} (ch:List Nat) {k:Nat} {l:Array Bool} {a:Act} {w:World} (hi:ops[i]? =some oi)
  (hs:Region.noSelect ops=true) (hf:Region.free md ops l i=true) (hr:(Region.ready md ops l).contains i=true)
  (hw:(waits md ops i ch&&ch.contains z&&unl l ch)=true)
  (hQ: ∀c a w,Q (.panic c) (a.put oi.dst v) w→Q (.panic c) a w) (hy:YieldsIf P ops S oi v a) (hS:S w)
  (h:AnyZ P md ops Q S z k (l.setIfInBounds i true) (a.put oi.dst v) w):AnyZ P md ops Q S z (k+1) l a w:=by
 simp only [Bool.and_eq_true,List.contains_iff_mem] at hw
 exact AnyZ.first hi (Region.noSelect_spec hs) hQ hw.1.1 hw.1.2 k l a w (Region.free_spec hi hf) hw.2 (by simpa using hr) hy hS h
theorem AnyZ.one {i:Nat} {o:Oper} {k:Nat} {l:Array Bool} {a:Act} {w:World} (hr:Region.ready md ops l=[i]) (ho:ops[i]? =some o)
  (h: ∀K':Act→World→Prop,Shut (∀a w,S w→(S w→AnyZ P md ops Q S z k (l.setIfInBounds i true) a w)→K' a w)→if Region.wanted o (yielded ops a.tmps)=true then Oper.wp P o a w K' Q else K' (a.put o.dst undef) w):AnyZ P md ops Q S z (k+1) l a w:=
 ⟨fun h0=>(by rw [hr] at h0;cases h0),fun j hj=>by
  rw [hr] at hj
  obtain rfl:j=i:=by simpa using hj
  exact wpOp_step ho (fun K' hK=>h K' (fun a w hS hW=>hK a w ⟨.inr hS,hW hS⟩))⟩
theorem AnyZ.last {o:Oper} {k:Nat} {l:Array Bool} {a:Act} {w:World} (hr:Region.ready md ops l=[z]) (ho:ops[z]? =some o)
  (h: ∀K':Act→World→Prop,Shut (∀a w,AnyZ P md ops Q S z k (l.setIfInBounds z true) a w→K' a w)→if Region.wanted o (yielded ops a.tmps)=true then Oper.wp P o a w K' Q else K' (a.put o.dst undef) w):AnyZ P md ops Q S z (k+1) l a w:=
 ⟨fun h0=>(by rw [hr] at h0;cases h0),fun j hj=>by
  rw [hr] at hj
  obtain rfl:j=z:=by simpa using hj
  exact wpOp_step ho (fun K' hK=>h K' (fun a w hW=>hK a w ⟨.inl rfl,hW⟩))⟩
theorem AnyZ.done {l:Array Bool} {a:Act} {w:World} (hr:Region.ready md ops l=[]) (h:Q .normal a w): ∀k,AnyZ P md ops Q S z k l a w
 |0=>⟨hr,h⟩
 |_+1=>⟨fun _=>h,by rw [hr];simp⟩
theorem AnyZ.begin_ (z:Nat) {id:Nat} {a:Act} {w:World} (hm:P.follows .mixedOrders=true) (hS:S w.drew)
  (h:S w.drew→AnyZ P .any ops Q S z ops.size (Array.replicate ops.size false) a w.drew):(Code.region id ops true).wp P Q a w:=
 wp_region_any hm (AnyZ.any _ _ _ _ (h hS))
theorem AnyZ.mono {S':World→Prop} (h: ∀w,S' w→S w): ∀(k:Nat) (l:Array Bool) (a:Act) (w:World),AnyZ P md ops Q S' z k l a w→AnyZ P md ops Q S z k l a w
 |0,_,_,_,h1=>h1
 |k+1,_,_,_,h1=>⟨h1.1,fun i hi=>wpOp_mono (fun a' w' h'=>⟨h'.1.imp id (h w'),AnyZ.mono h k _ a' w' h'.2⟩) (h1.2 i hi)⟩
theorem AnyZ.start (z:Nat) {A S:World→Prop} {id:Nat} {a:Act} {w:World} (hm:P.follows .mixedOrders=true) (hA:A w.drew) (hS:S w.drew)
  (h: ∀W,A W→S W→AnyZ P .any ops Q S z ops.size (Array.replicate ops.size false) a W):(Code.region id ops true).wp P Q a w:=
 AnyZ.begin_ z hm hS (fun _=>h _ hA hS)
theorem AnyZ.go {A S S':World→Prop} {K:Act→World→Prop} {k:Nat} {l:Array Bool} {a:Act} {w:World} (hK:Shut (∀a w,S w→(S w→AnyZ P md ops Q S z k l a w)→K a w)) (hSS: ∀W,S' W→S W) (hA:A w) (hS:S' w)
  (h: ∀W,A W→S' W→AnyZ P md ops Q S' z k l a W):K a w:=hK.out a w (hSS w hS) (fun _=>AnyZ.mono hSS _ _ _ _ (h w hA hS))
def AllZ (P:Program) (md:Region.Mode) (ops:Array Oper) (Q:Exit→Act→World→Prop) (S:World→Prop) (z:Nat) (k:Nat) (l:Array Bool) (a:Act) (w:World) (rs:List Nat):Prop:=
 ∀i∈rs,wpOp P ops Q i (fun a' w'=>(i=z∨S w')∧AnyZ P md ops Q S z k (l.setIfInBounds i true) a' w') a w
theorem AllZ.nil {k:Nat} {l:Array Bool} {a:Act} {w:World}:AllZ P md ops Q S z k l a w []:=fun _ h=>by cases h
theorem AllZ.cons {k:Nat} {l:Array Bool} {a:Act} {w:World} {i:Nat} {o:Oper} {rs:List Nat} (ho:ops[i]? =some o)
  (h: ∀K':Act→World→Prop,Shut (∀a w,S w→(S w→AnyZ P md ops Q S z k (l.setIfInBounds i true) a w)→K' a w)→if Region.wanted o (yielded ops a.tmps)=true then Oper.wp P o a w K' Q else K' (a.put o.dst undef) w)
  (hs:AllZ P md ops Q S z k l a w rs):AllZ P md ops Q S z k l a w (i::rs):=fun j hj=>by
 rcases List.mem_cons.1 hj with rfl|hj
 ·exact wpOp_step ho (fun K' hK=>h K' (fun a w hS hW=>hK a w ⟨.inr hS,hW hS⟩))
 ·exact hs j hj
theorem AnyZ.ready {rs:List Nat} {k:Nat} {l:Array Bool} {a:Act} {w:World} (hr:Region.ready md ops l=rs) (hne:rs≠[]) (h:AllZ P md ops Q S z k l a w rs):AnyZ P md ops Q S z (k+1) l a w:=
 ⟨fun h0=>absurd (hr▸h0) hne,fun i hi=>h i (hr▸hi)⟩
end
end Go.Proofs.YtfamcohbnoibaaaGreatDoor
namespace Go.Proofs.YtfamcohbnoibaaaGreatDoor
open Go.RowKit
structure Mv (S:Nat→Prop) (w:World) (S':Nat→Prop) (w':World):Prop where
 size:w.heap.size≤w'.heap.size
 blk: ∀b,S b→b<w.heap.size→w'.heap[b]? =w.heap[b]? ∧S' b
theorem Mv.refl (S:Nat→Prop) (w:World):Mv S w S w:=⟨Nat.le_refl _,fun b h _=>⟨rfl,h⟩⟩
theorem Mv.trans {S S1 S2:Nat→Prop} {w w1 w2:World} (h:Mv S w S1 w1) (h2:Mv S1 w1 S2 w2):Mv S w S2 w2:=
 ⟨Nat.le_trans h.size h2.size,fun b hb hl=>by
  obtain ⟨a1,a2⟩:=h.blk b hb hl
  obtain ⟨b1,b2⟩:=h2.blk b a2 (Nat.lt_of_lt_of_le hl h.size)
  exact ⟨b1.trans a1,b2⟩⟩
theorem Mv.of_grown {S S':Nat→Prop} {w w':World} {row:Option Nat} (h:w.grownBy w' row) (hr: ∀g,row=some g→¬S g) (hS: ∀b,S b→b<w.heap.size→S' b):Mv S w S' w':=
 ⟨h.size,fun b hs hb=>⟨h.block b hb (fun e=>hr b e.symm hs),hS b hs hb⟩⟩
theorem Mv.of_below {S S':Nat→Prop} {w w':World} (h:Below w.heap.size w w') (hS: ∀b,S b→b<w.heap.size→S' b):Mv S w S' w':=
 ⟨h.size,fun b hs hb=>⟨h.block b hb,hS b hs hb⟩⟩
theorem Mv.set {S:Nat→Prop} (w:World) (g i:Nat) (v:Value) (hg:¬S g):Mv S w S (w.setCell ⟨g,i,none⟩ v):=
 Mv.of_grown (grown_set w g i v) (fun k e=>by cases e;exact hg) (fun b h _=>h)
theorem Mv.wider {S S':Nat→Prop} (w:World) (hS: ∀b,S b→b<w.heap.size→S' b):Mv S w S' w:=⟨Nat.le_refl _,fun b h hl=>⟨rfl,hS b h hl⟩⟩
section
variable {α β:Type} {k:Nat}
structure LInS (k:Nat) (e:α→Nat→Value) (S:Nat→Prop) (w:World) (v:SV) (l:List α):Prop where
 at_:ListAt k e w v.1 l
 len:l.length=v.2.1
 cap:v.2.1≤v.2.2
 le:v.2.1≤1000000
 rng: ∀ad,v.1=some ad→S ad.block∧ad.block<w.heap.size
theorem LInS.mv {e:α→Nat→Value} {S S':Nat→Prop} {w w':World} {v:SV} {l:List α} (h:LInS k e S w v l) (m:Mv S w S' w'):LInS k e S' w' v l:=by
 refine ⟨fun h0=> ?_,h.len,h.cap,h.le,fun ad ea=> ?_⟩
 ·obtain ⟨b,off,ea,hlt,hc⟩:=h.at_ h0
  have hr:=h.rng _ ea
  simp only at hr
  exact ⟨b,off,ea,Nat.lt_of_lt_of_le hlt m.size,fun i x hx j hj=>(World.cell?_of_block (w:=w) (a:=⟨b,off+i*k+j,none⟩) (m.blk b hr.1 hr.2).1).trans (hc i x hx j hj)⟩
 ·have hr:=h.rng _ ea
  exact ⟨(m.blk _ hr.1 hr.2).2,Nat.lt_of_lt_of_le hr.2 m.size⟩
theorem LInS.nil_ {e:α→Nat→Value} (S:Nat→Prop) (w:World):LInS k e S w noSV []:=⟨ListAt.nil_,rfl,Nat.le_refl _,by simp [noSV],fun ad ea=>by cases ea⟩
theorem LInS.lin {e:α→Nat→Value} {S:Nat→Prop} {w:World} {v:SV} {l:List α} (h:LInS k e S w v l) {lo:Nat} (hS: ∀b,S b→lo≤b):LIn k e lo w.heap.size w v l:=
 ⟨h.at_,h.len,h.cap,h.le,fun ad ea=>⟨hS _ (h.rng ad ea).1,(h.rng ad ea).2⟩⟩
theorem OwnL.lins {e:α→Nat→Value} {T:TypeId} {w:World} {B:Nat} {v:SV} {l:List α} (h:OwnL T k e w B (sv v) l) {S:Nat→Prop} (hS: ∀g,(sv v).ownBlock=some g→B≤g→S g) (hl:l.length≤1000000):LInS k e S w v l∧l.length=v.2.1:=by
 obtain ⟨A,c,ev,hc,hn,hl1⟩:=h.shape
 have hlt:=fun g hg=>World.ownsRow.lt h g hg
 obtain ⟨A',n',c'⟩:=v
 unfold sv at ev
 simp only [Value.slice.injEq] at ev
 obtain ⟨rfl,rfl,rfl⟩:=ev
 refine ⟨⟨hl1,rfl,hc,hl,fun ad ea=> ?_⟩,rfl⟩
 simp only at ea
 subst ea
 have :=hlt ad.block rfl
 exact ⟨hS _ rfl this.1,this.2⟩
def NestS (k:Nat) (e:α×β→Nat→Value) (P:(Nat→Prop)→World→α→β→Prop) (S:Nat→Prop) (w:World) (v:SV) (l:List α):Prop:=
 ∃xs:List (α×β),xs.map Prod.fst=l∧LInS k e S w v xs∧ ∀x∈xs,P S w x.1 x.2
theorem NestS.mv {e:α×β→Nat→Value} {P:(Nat→Prop)→World→α→β→Prop} {S S':Nat→Prop} {w w':World} {v:SV} {l:List α} (hP: ∀x y,P S w x y→P S' w' x y) (h:NestS k e P S w v l) (m:Mv S w S' w'):NestS k e P S' w' v l:=by
 obtain ⟨xs,h1,h2,h3⟩:=h
 exact ⟨xs,h1,h2.mv m,fun x hx=>hP _ _ (h3 x hx)⟩
theorem NestS.nil_ {e:α×β→Nat→Value} {P:(Nat→Prop)→World→α→β→Prop} (S:Nat→Prop) (w:World):NestS k e P S w noSV []:=⟨[],rfl,LInS.nil_ _ _,fun x hx=>by cases hx⟩
theorem NestS.len {e:α×β→Nat→Value} {P:(Nat→Prop)→World→α→β→Prop} {S:Nat→Prop} {w:World} {v:SV} {l:List α} (h:NestS k e P S w v l):l.length=v.2.1:=by
 obtain ⟨xs,h1,h2,h3⟩:=h
 rw [←h1,List.length_map]
 exact h2.len
theorem NestS.nest {e:α×β→Nat→Value} {P:(Nat→Prop)→World→α→β→Prop} {Q:Nat→Nat→World→α→β→Prop} {S:Nat→Prop} {w:World} {v:SV} {l:List α} (h:NestS k e P S w v l) {lo:Nat} (hS: ∀b,S b→lo≤b) (hP: ∀x y,P S w x y→Q lo w.heap.size w x y):Nest k e Q lo w.heap.size w v l:=by
 obtain ⟨xs,h1,h2,h3⟩:=h
 exact ⟨xs,h1,h2.lin hS,fun x hx=>hP _ _ (h3 x hx)⟩
def GrowS (T:TypeId) (k:Nat) (e:α×β→Nat→Value) (P:(Nat→Prop)→World→α→β→Prop) (lo:Nat) (S:Nat→Prop) (w:World) (v:SV) (l:List α):Prop:=
 ∃xs:List (α×β),xs.map Prod.fst=l∧OwnL T k e w lo (sv v) xs∧(∀x∈xs,P S w x.1 x.2)∧ ∀g,(sv v).ownBlock=some g→¬S g
variable {T:TypeId} {e:α×β→Nat→Value} {P:(Nat→Prop)→World→α→β→Prop} {lo:Nat} {S S':Nat→Prop} {w w':World} {v v':SV} {l:List α}
theorem GrowS.nil_ (S:Nat→Prop) (w:World):GrowS T k e P lo S w noSV []:=⟨[],rfl,OwnL.nil_ _ _,(fun x hx=>by cases hx),fun g hg=>by cases hg⟩
theorem GrowS.len (h:GrowS T k e P lo S w v l):l.length=v.2.1:=by
 obtain ⟨xs,h1,h2,h3,h4⟩:=h
 rw [←h1,List.length_map]
 obtain ⟨A,c,ev,hc,hn,hl1⟩:=h2.shape
 obtain ⟨A',n',c'⟩:=v
 unfold sv at ev
 simp only [Value.slice.injEq] at ev
 exact ev.2.1.symm
theorem GrowS.lt (h:GrowS T k e P lo S w v l): ∀g,(sv v).ownBlock=some g→lo≤g∧g<w.heap.size∧¬S g:=fun g hg=>by
 obtain ⟨xs,h1,h2,h3,h4⟩:=h
 have :=World.ownsRow.lt h2 g hg
 exact ⟨this.1,this.2,h4 g hg⟩
theorem GrowS.mv (h:GrowS T k e P lo S w v l) {row:Option Nat} (hg:w.grownBy w' row) (hr: ∀g,(sv v).ownBlock=some g→row≠some g) (hP: ∀x y,P S w x y→P S' w' x y) (hS: ∀g,(sv v).ownBlock=some g→¬S' g):GrowS T k e P lo S' w' v l:=by
 obtain ⟨xs,h1,h2,h3,h4⟩:=h
 refine ⟨xs,h1,World.ownsRow.kept h2 hg ?_,fun x hx=>hP _ _ (h3 x hx),hS⟩
 cases ho:(sv v).ownBlock with
 |none=>exact .inl rfl
 |some g=>exact .inr fun e=>hr g ho e.symm
theorem GrowS.app {x:α} {y:β} {xs:List (α×β)} {g n cap:Nat} (h1:xs.map Prod.fst=l) (hO:OwnL T k e w' lo (.slice (some ⟨g,0,none⟩) n cap) (xs++[(x,y)])) (h3: ∀z∈xs,P S' w' z.1 z.2) (hx:P S' w' x y) (hS:¬S' g):GrowS T k e P lo S' w' (some ⟨g,0,none⟩,n,cap) (l++[x]):=by
 refine ⟨xs++[(x,y)],by simp [h1],hO,fun z hz=> ?_,fun g' hg'=> ?_⟩
 ·rcases List.mem_append.1 hz with hz|hz
  ·exact h3 z hz
  ·simp at hz;subst hz;exact hx
 ·have e2:some g=some g':=hg'
  cases e2
  exact hS
theorem GrowS.done (h:GrowS T k e P lo S w v l) (hP: ∀x y,P S w x y→P S' w x y) (hS: ∀g,(sv v).ownBlock=some g→lo≤g→S' g) (hl:l.length≤1000000):NestS k e P S' w v l:=by
 obtain ⟨xs,h1,h2,h3,h4⟩:=h
 have hxl:xs.length=l.length:=by rw [←h1,List.length_map]
 exact ⟨xs,h1,(h2.lins hS (by omega)).1,fun x hx=>hP _ _ (h3 x hx)⟩
end
def ZoneS (S:Nat→Prop) (w:World) (z:Rs.Zone) (v:SV):Prop:=LInS 7 eRule S w v z.rules∧(∀r∈z.rules,FitR r)∧I64 z.off
def PersS (S:Nat→Prop) (w:World) (p:Rs.Pers) (v:SV):Prop:=LInS 2 ePair S w v p.quiet
def CalS (S:Nat→Prop) (w:World) (x:Rs.Cal) (v:SV):Prop:=LInS 1 eInt S w v x.days∧ ∀d∈x.days,I64 d
def LayS (S:Nat→Prop) (w:World) (l:Rs.Lay) (v:SV×SV):Prop:=LInS 1 eInt S w v.1 l.mem∧LInS 2 ePair S w v.2 l.wins∧I64 l.day
def SchS (S:Nat→Prop) (w:World) (s:Rs.Sch) (v:SV×SV):Prop:=NestS 10 eLay LayS S w v.1 s.lays∧LInS 5 eEdit S w v.2 s.edits∧ ∀x∈s.edits,I64 x.to
section
variable {S S':Nat→Prop} {w w':World} (m:Mv S w S' w')
include m
theorem ZoneS.mv: ∀z v,ZoneS S w z v→ZoneS S' w' z v:=fun z v h=>⟨h.1.mv m,h.2⟩
theorem PersS.mv: ∀z v,PersS S w z v→PersS S' w' z v:=fun z v h=>LInS.mv h m
theorem CalS.mv: ∀z v,CalS S w z v→CalS S' w' z v:=fun z v h=>⟨h.1.mv m,h.2⟩
theorem LayS.mv: ∀z v,LayS S w z v→LayS S' w' z v:=fun z v h=>⟨h.1.mv m,h.2.1.mv m,h.2.2⟩
theorem SchS.mv: ∀z v,SchS S w z v→SchS S' w' z v:=fun z v h=>⟨h.1.mv (LayS.mv m) m,h.2.1.mv m,h.2.2⟩
end
structure StaffS (S:Nat→Prop) (w:World) (a b c:SV) (C:Rs.Cfg):Prop where
 zones:NestS 3 eZone ZoneS S w a C.zones
 people:NestS 6 ePers PersS S w b C.people
 cals:NestS 3 eCal CalS S w c C.cals
theorem StaffS.mv {S S':Nat→Prop} {w w':World} {a b c:SV} {C:Rs.Cfg} (h:StaffS S w a b c C) (m:Mv S w S' w'):StaffS S' w' a b c C:=⟨h.zones.mv (ZoneS.mv m) m,h.people.mv (PersS.mv m) m,h.cals.mv (CalS.mv m) m⟩
theorem cfg_of {S:Nat→Prop} {w:World} {a b c d:SV} {C:Rs.Cfg} (h:StaffS S w a b c C) (h4:NestS 3 eSch SchS S w d C.scheds) {lo:Nat} (hS: ∀b,S b→lo≤b):CfgAt lo w.heap.size w a b c d C:=
 ⟨h.zones.nest hS fun x y hz=>⟨hz.1.lin hS,hz.2⟩,h.people.nest hS fun x y hz=>LInS.lin hz hS,h.cals.nest hS fun x y hz=>⟨hz.1.lin hS,hz.2⟩,
  h4.nest hS fun x y hz=>⟨hz.1.nest hS fun x y hl=>⟨hl.1.lin hS,hl.2.1.lin hS,hl.2.2⟩,hz.2.1.lin hS,hz.2.2⟩⟩
end Go.Proofs.YtfamcohbnoibaaaGreatDoor
namespace Go.Proofs.YtfamcohbnoibaaaGreatDoor
open Go.RowKit
def Ex (lo:Nat) (ex:List (Option Nat)) (b:Nat):Prop:=lo≤b∧some b∉ex
theorem Ex.of {lo:Nat} {ex ex':List (Option Nat)} {m:Nat} (h: ∀b,some b∈ex'→some b∈ex∨m≤b): ∀b,Ex lo ex b→b<m→Ex lo ex' b:=fun b hb hm=>⟨hb.1,fun hc=>by
 rcases h b hc with h1|h1
 ·exact hb.2 h1
 ·omega⟩
theorem mv_ex {lo:Nat} {ex ex':List (Option Nat)} {W W':World} {row:Option Nat} (hg:W.grownBy W' row) (hr: ∀r,row=some r→r<lo∨some r∈ex) (h: ∀b,some b∈ex'→some b∈ex∨W.heap.size≤b):Mv (Ex lo ex) W (Ex lo ex') W':=
 Mv.of_grown hg (fun r e hS=>by
  rcases hr r e with h1|h1
  ·have :=hS.1;omega
  ·exact hS.2 h1) (Ex.of h)
theorem dice_row {W W':World} {g n c:Nat} {A:Option Addr} {zs:List Int} {row:Option Nat} (h:Dice W g A n c zs) (hg:W.grownBy W' row) (hr: ∀r,row=some r→g<r):Dice W' g A n c zs:=
 h.below (B:=g+1) ((Below.refl (g+1) W).grown hg h.lt_ (fun q hq=>hr q hq)) (Nat.lt_succ_self g)
theorem grown_row {w W W':World} {g:Nat} {row:Option Nat} (h:w.grownBy W (some g)) (hg:W.grownBy W' row) (hr: ∀r,row=some r→r=g∨w.heap.size≤r):w.grownBy W' (some g):=
 ⟨hg.os.trans h.os,hg.tape.trans h.tape,hg.output.trans h.output,Nat.le_trans h.size hg.size,fun k hk hne=>(hg.block k (Nat.lt_of_lt_of_le hk h.size) (fun e=>by
  rcases hr k e.symm with h1|h1
  ·exact hne (by rw [h1])
  ·omega)).trans (h.block k hk hne)⟩
def PMv {α β:Type} (P:(Nat→Prop)→World→α→β→Prop):Prop:= ∀(S S':Nat→Prop) (w w':World),Mv S w S' w'→ ∀x y,P S w x y→P S' w' x y
theorem pZ:PMv ZoneS:=fun _ _ _ _ m=>ZoneS.mv m
theorem pP:PMv PersS:=fun _ _ _ _ m=>PersS.mv m
theorem pC:PMv CalS:=fun _ _ _ _ m=>CalS.mv m
theorem pL:PMv LayS:=fun _ _ _ _ m=>LayS.mv m
theorem pS:PMv SchS:=fun _ _ _ _ m=>SchS.mv m
def own1 (v:SV):List (Option Nat):=[(sv v).ownBlock]
section
variable {α β:Type} {T:TypeId} {k:Nat} {e:α×β→Nat→Value} {P:(Nat→Prop)→World→α→β→Prop}
structure RS (T:TypeId) (k:Nat) (e:α×β→Nat→Value) (P:(Nat→Prop)→World→α→β→Prop) (w:World) (g:Nat) (A:Option Addr) (n c:Nat) (zs:List Int) (lo:Nat) (ex:List (Option Nat)) (a b d:SV) (C:Rs.Cfg) (v:SV) (l:List α) (W:World):Prop where
 grown:w.grownBy W (some g)
 dice:Dice W g A n c zs
 lo1:w.heap.size≤lo
 lo2:g<w.heap.size
 lo3:lo≤W.heap.size
 fin:StaffS (Ex lo (own1 v++ex)) W a b d C
 row:GrowS T k e P lo (Ex lo (own1 v++ex)) W v l
 sep: ∀q,some q∈ex→(sv v).ownBlock≠some q
variable {w W W':World} {g n c lo:Nat} {A:Option Addr} {zs:List Int} {ex ex':List (Option Nat)} {a b d v:SV} {C:Rs.Cfg} {l:List α}
theorem RS.mv (K:PMv P) (h:RS T k e P w g A n c zs lo ex a b d C v l W) {row:Option Nat} (hg:W.grownBy W' row) (hD:Dice W' g A n c zs) (hr: ∀r,row=some r→r=g∨some r∈ex∨(w.heap.size≤r∧r<lo)) (hx: ∀q,some q∈ex→lo≤q) (hs: ∀q,some q∈ex'→some q∈ex∨W.heap.size≤q):RS T k e P w g A n c zs lo ex' a b d C v l W':=by
 have h1:=h.lo1
 have h2:=h.lo2
 have h3:=h.lo3
 have m:Mv (Ex lo (own1 v++ex)) W (Ex lo (own1 v++ex')) W':=mv_ex hg (fun r er=>by
  rcases hr r er with rfl|h4|h4
  ·left;omega
  ·right;exact List.mem_append_right _ h4
  ·left;omega) (fun q hq=>by
  rcases List.mem_append.1 hq with hq|hq
  ·exact .inl (List.mem_append_left _ hq)
  ·exact (hs q hq).imp (List.mem_append_right _) id)
 have hsep: ∀q,some q∈ex'→(sv v).ownBlock≠some q:=fun q hq=>by
  rcases hs q hq with h5|h5
  ·exact h.sep q h5
  ·intro e2
   have :=(h.row.lt q e2).2.1
   omega
 refine ⟨grown_row h.grown hg (fun r er=> ?_),hD,h1,h2,Nat.le_trans h3 hg.size,h.fin.mv m,h.row.mv hg (fun q hq er=> ?_) (K _ _ _ _ m) (fun q hq hS=>hS.2 (List.mem_append_left _ (by rw [←hq];exact List.mem_cons_self))),hsep⟩
 ·rcases hr r er with h4|h4|h4
  ·exact .inl h4
  ·have :=hx r h4;exact .inr (by omega)
  ·exact .inr h4.1
 ·have :=h.row.lt q hq
  rcases hr q er with h4|h4|h4
  ·omega
  ·exact h.sep q h4 hq
  ·omega
theorem RS.below (K:PMv P) (h:RS T k e P w g A n c zs lo ex a b d C v l W) (hb:Below W.heap.size W W') (hx: ∀q,some q∈ex→lo≤q):RS T k e P w g A n c zs lo ex a b d C v l W':=
 h.mv K (row:=none) (grown_then (grown_refl _ _) hb (Nat.le_refl _)) (h.dice.after hb) (fun r er=>by cases er) hx (fun q hq=> .inl hq)
theorem RS.call (K:PMv P) (h:RS T k e P w g A n c zs lo ex a b d C v l W) (hg:W.grownBy W' (some g)) (hD:Dice W' g A n c zs) (hx: ∀q,some q∈ex→lo≤q):RS T k e P w g A n c zs lo ex a b d C v l W':=
 h.mv K hg hD (fun r er=> .inl (Option.some.inj er).symm) hx (fun q hq=> .inl hq)
theorem RS.set (K:PMv P) (h:RS T k e P w g A n c zs lo ex a b d C v l W) (q i:Nat) (u:Value) (hq:(w.heap.size≤q∧q<lo)∨some q∈ex) (hx: ∀q,some q∈ex→lo≤q):RS T k e P w g A n c zs lo ex a b d C v l (W.setCell ⟨q,i,none⟩ u):=by
 have h1:=h.lo1
 have h2:=h.lo2
 have hgq:g<q:=by
  rcases hq with h4|h4
  ·omega
  ·have :=hx q h4;omega
 exact h.mv K (grown_set W q i u) (dice_row h.dice (grown_set W q i u) (fun r er=>by cases er;exact hgq)) (fun r er=>by cases er;exact .inr hq.symm) hx (fun q hq=> .inl hq)
theorem RS.app (K:PMv P) (h:RS T k e P w g A n c zs lo ex a b d C v l W) {x:α} {y:β} {xs:List (α×β)} {q m cap:Nat} (e1:xs.map Prod.fst=l) (e3: ∀z∈xs,P (Ex lo (own1 v++ex)) W z.1 z.2) (hg:W.grownBy W' (sv v).ownBlock) (hn:(sv v).ownBlock=some q∨W.heap.size≤q) (hO:OwnL T k e W' lo (.slice (some ⟨q,0,none⟩) m cap) (xs++[(x,y)]))
  (hx:P (Ex lo (own1 v++ex)) W x y) (hs: ∀r,some r∈ex'→some r∈ex∨W.heap.size≤r) (hsq:some q∉ex'):RS T k e P w g A n c zs lo ex' a b d C (some ⟨q,0,none⟩,m,cap) (l++[x]) W':=by
 have h1:=h.lo1
 have h2:=h.lo2
 have h3:=h.lo3
 have hlt:=h.row.lt
 have m:Mv (Ex lo (own1 v++ex)) W (Ex lo (own1 (some ⟨q,0,none⟩,m,cap)++ex')) W':=mv_ex hg (fun r er=> .inr (List.mem_append_left _ (by rw [←er];exact List.mem_cons_self))) (fun r hr=>by
  rcases List.mem_append.1 hr with hr|hr
  ·have er:some r=some q:=by simpa [own1,sv,Value.ownBlock] using hr
   cases er
   rcases hn with h4|h4
   ·exact .inl (List.mem_append_left _ (by rw [←h4];exact List.mem_cons_self))
   ·exact .inr h4
  ·exact (hs r hr).imp (List.mem_append_right _) id)
 refine ⟨grown_row h.grown hg (fun r er=> .inr (by have :=hlt r er;omega)),dice_row h.dice hg (fun r er=>by have :=hlt r er;omega),h1,h2,Nat.le_trans h3 hg.size,h.fin.mv m,GrowS.app e1 hO (fun z hz=>K _ _ _ _ m _ _ (e3 z hz)) (K _ _ _ _ m x y hx) (fun hS=>hS.2 (List.mem_append_left _ (by show some q∈[some q];simp))),fun r hr er=> ?_⟩
 have er2:some q=some r:=er
 cases er2
 exact hsq hr
structure SK (T:TypeId) (k:Nat) (e:α×β→Nat→Value) (P:(Nat→Prop)→World→α→β→Prop) (w:World) (g:Nat) (A:Option Addr) (n c:Nat) (zs:List Int) (lo:Nat) (ex:List (Option Nat)) (a b d:SV) (C:Rs.Cfg) (B2:Nat) (cs2:Array Value) (T2:TypeId) (B3:Nat) (cs3:Array Value) (T3:TypeId) (v:SV) (l:List α) (W:World):Prop where
 rs:RS T k e P w g A n c zs lo ex a b d C v l W
 k2:BlkAt W B2 cs2 T2
 k3:BlkAt W B3 cs3 T3
 c2:(w.heap.size≤B2∧B2<lo)∨some B2∈ex
 c3:(w.heap.size≤B3∧B3<lo)∨some B3∈ex
 ne:B2≠B3
 hx: ∀q,some q∈ex→lo≤q
variable {B2 B3:Nat} {cs2 cs3:Array Value} {T2 T3:TypeId}
theorem SK.off (h:SK T k e P w g A n c zs lo ex a b d C B2 cs2 T2 B3 cs3 T3 v l W):g<B2∧g<B3∧(sv v).ownBlock≠some B2∧(sv v).ownBlock≠some B3:=by
 have h1:=h.rs.lo1
 have h2:=h.rs.lo2
 have go: ∀B,(w.heap.size≤B∧B<lo)∨some B∈ex→g<B∧(sv v).ownBlock≠some B:=fun B hB=>by
  rcases hB with hB|hB
  ·exact ⟨by omega,fun e=>by have :=(h.rs.row.lt B e).1;omega⟩
  ·exact ⟨by have :=h.hx B hB;omega,h.rs.sep B hB⟩
 exact ⟨(go _ h.c2).1,(go _ h.c3).1,(go _ h.c2).2,(go _ h.c3).2⟩
theorem SK.below (K:PMv P) (h:SK T k e P w g A n c zs lo ex a b d C B2 cs2 T2 B3 cs3 T3 v l W) (hb:Below W.heap.size W W'):SK T k e P w g A n c zs lo ex a b d C B2 cs2 T2 B3 cs3 T3 v l W':=
 ⟨h.rs.below K hb h.hx,h.k2.after hb,h.k3.after hb,h.c2,h.c3,h.ne,h.hx⟩
theorem SK.alloc (K:PMv P) (h:SK T k e P w g A n c zs lo ex a b d C B2 cs2 T2 B3 cs3 T3 v l W) (o:Obj):SK T k e P w g A n c zs lo ex a b d C B2 cs2 T2 B3 cs3 T3 v l (W.alloc o):=h.below K ((Below.refl _ _).alloc (Nat.le_refl _) o)
theorem SK.drew (K:PMv P) (h:SK T k e P w g A n c zs lo ex a b d C B2 cs2 T2 B3 cs3 T3 v l W):SK T k e P w g A n c zs lo ex a b d C B2 cs2 T2 B3 cs3 T3 v l W.drew:=h.below K (Below.refl _ _).drew
theorem SK.call (K:PMv P) (h:SK T k e P w g A n c zs lo ex a b d C B2 cs2 T2 B3 cs3 T3 v l W) (hg:W.grownBy W' (some g)) (hD:Dice W' g A n c zs):SK T k e P w g A n c zs lo ex a b d C B2 cs2 T2 B3 cs3 T3 v l W':=by
 obtain ⟨o1,o2,o3,o4⟩:=h.off
 exact ⟨h.rs.call K hg hD h.hx,h.k2.grown hg (fun e=>by cases e;omega),h.k3.grown hg (fun e=>by cases e;omega),h.c2,h.c3,h.ne,h.hx⟩
theorem SK.set3 (K:PMv P) (h:SK T k e P w g A n c zs lo ex a b d C B2 cs2 T2 B3 cs3 T3 v l W) (i:Nat) (u:Value):SK T k e P w g A n c zs lo ex a b d C B2 cs2 T2 B3 (cs3.setIfInBounds i u) T3 v l (W.setCell ⟨B3,i,none⟩ u):=
 ⟨h.rs.set K B3 i u h.c3 h.hx,h.k2.grown (grown_set W B3 i u) (fun e=>h.ne (Option.some.inj e)),h.k3.set_ i u,h.c2,h.c3,h.ne,h.hx⟩
theorem SK.row (K:PMv P) (h:SK T k e P w g A n c zs lo ex a b d C B2 cs2 T2 B3 cs3 T3 v l W) {r:Option Nat} (hg:W.grownBy W' r) (hr: ∀q,r=some q→some q∈ex) (h2:r≠some B2) (h3:r≠some B3) (hs: ∀q,some q∈ex'→some q∈ex∨W.heap.size≤q) (c2:some B2∈ex→some B2∈ex') (c3:some B3∈ex→some B3∈ex'):SK T k e P w g A n c zs lo ex' a b d C B2 cs2 T2 B3 cs3 T3 v l W':=by
 have l1:=h.rs.lo1
 have l2:=h.rs.lo2
 have l3:=h.rs.lo3
 exact ⟨h.rs.mv K hg (dice_row h.rs.dice hg (fun q e=>by have :=h.hx q (hr q e);omega)) (fun q e=> .inr (.inl (hr q e))) h.hx hs,h.k2.grown hg (fun e=>h2 e.symm),h.k3.grown hg (fun e=>h3 e.symm),h.c2.imp id c2,h.c3.imp id c3,h.ne,fun q hq=>by
  rcases hs q hq with h4|h4
  ·exact h.hx q h4
  ·omega⟩
theorem SK.app (K:PMv P) (h:SK T k e P w g A n c zs lo ex a b d C B2 cs2 T2 B3 cs3 T3 v l W) {x:α} {y:β} {xs:List (α×β)} {q m cap:Nat} (e1:xs.map Prod.fst=l) (e3: ∀z∈xs,P (Ex lo (own1 v++ex)) W z.1 z.2) (hg:W.grownBy W' (sv v).ownBlock) (hn:(sv v).ownBlock=some q∨q=W.heap.size) (hO:OwnL T k e W' lo (.slice (some ⟨q,0,none⟩) m cap) (xs++[(x,y)]))
  (hx:P (Ex lo (own1 v++ex)) W x y) (hs: ∀r,some r∈ex'→some r∈ex) (c2:some B2∈ex→some B2∈ex') (c3:some B3∈ex→some B3∈ex') (hxl: ∀r,some r∈ex→r<W.heap.size):SK T k e P w g A n c zs lo ex' a b d C B2 cs2 T2 B3 cs3 T3 (some ⟨q,0,none⟩,m,cap) (l++[x]) W':=by
 obtain ⟨o1,o2,o3,o4⟩:=h.off
 have hsq:some q∉ex:=fun hq=>by
  rcases hn with h4|h4
  ·exact h.rs.sep q hq h4
  ·have :=hxl q hq;omega
 exact ⟨h.rs.app K e1 e3 hg (hn.imp id (fun e=>by omega)) hO hx (fun r hr=> .inl (hs r hr)) (fun hq=>hsq (hs q hq)),h.k2.grown hg (fun e=>o3 e.symm),h.k3.grown hg (fun e=>o4 e.symm),h.c2.imp id c2,h.c3.imp id c3,h.ne,fun q hq=>h.hx q (hs q hq)⟩
theorem SK.exnew (K:PMv P) (h:SK T k e P w g A n c zs lo ex a b d C B2 cs2 T2 B3 cs3 T3 v l W) (hb:Below W.heap.size W W') {q:Nat} (hq:q=W.heap.size):SK T k e P w g A n c zs lo (some q::ex) a b d C B2 cs2 T2 B3 cs3 T3 v l W':=by
 subst hq
 have l3:=h.rs.lo3
 exact ⟨h.rs.mv K (row:=none) (grown_then (grown_refl _ _) hb (Nat.le_refl _)) (h.rs.dice.after hb) (fun r er=>by cases er) h.hx (fun q hq=>by
  rcases List.mem_cons.1 hq with hq|hq
  ·cases hq;exact .inr (Nat.le_refl _)
  ·exact .inl hq),h.k2.after hb,h.k3.after hb,h.c2.imp id (List.mem_cons_of_mem _),h.c3.imp id (List.mem_cons_of_mem _),h.ne,fun q hq=>by
  rcases List.mem_cons.1 hq with hq|hq
  ·cases hq;exact l3
  ·exact h.hx q hq⟩
theorem SK.setx (K:PMv P) (h:SK T k e P w g A n c zs lo ex a b d C B2 cs2 T2 B3 cs3 T3 v l W) {q:Nat} (hq:some q∈ex) (h2:q≠B2) (h3:q≠B3) (i:Nat) (u:Value):SK T k e P w g A n c zs lo ex a b d C B2 cs2 T2 B3 cs3 T3 v l (W.setCell ⟨q,i,none⟩ u):=
 h.row K (grown_set W q i u) (fun r er=>by cases er;exact hq) (fun er=>h2 (Option.some.inj er)) (fun er=>h3 (Option.some.inj er)) (fun r hr=> .inl hr) id id
theorem SK.exless (K:PMv P) (h:SK T k e P w g A n c zs lo ex a b d C B2 cs2 T2 B3 cs3 T3 v l W) (hs: ∀q,some q∈ex'→some q∈ex) (c2:some B2∈ex→some B2∈ex') (c3:some B3∈ex→some B3∈ex'):SK T k e P w g A n c zs lo ex' a b d C B2 cs2 T2 B3 cs3 T3 v l W:=
 ⟨h.rs.mv K (row:=none) (grown_refl _ _) h.rs.dice (fun r er=>by cases er) h.hx (fun q hq=> .inl (hs q hq)),h.k2,h.k3,h.c2.imp id c2,h.c3.imp id c3,h.ne,fun q hq=>h.hx q (hs q hq)⟩
theorem SK.exlt (h:SK T k e P w g A n c zs lo ex a b d C B2 cs2 T2 B3 cs3 T3 v l W) {q:Nat} (hq:some q∈ex):lo≤q∧g<q∧(sv v).ownBlock≠some q:=⟨h.hx q hq,by have :=h.hx q hq;have :=h.rs.lo1;have :=h.rs.lo2;omega,h.rs.sep q hq⟩
end
section
variable {α β α' β':Type} {T T':TypeId} {k k':Nat} {e:α×β→Nat→Value} {e':α'×β'→Nat→Value} {P:(Nat→Prop)→World→α→β→Prop} {P':(Nat→Prop)→World→α'→β'→Prop}
variable {w W:World} {g n c lo:Nat} {A:Option Addr} {zs:List Int} {a b d a' b' d' v:SV} {C C':Rs.Cfg} {l:List α} {B2 B3:Nat} {cs2 cs3:Array Value} {T2 T3:TypeId}
theorem SK.turn (h:SK T k e P w g A n c zs lo [] a b d C B2 cs2 T2 B3 cs3 T3 v l W) (hf:StaffS (Ex lo [none]) W a' b' d' C'):SK T' k' e' P' w g A n c zs lo [] a' b' d' C' B2 cs2 T2 B3 cs3 T3 noSV [] W:=
 ⟨⟨h.rs.grown,h.rs.dice,h.rs.lo1,h.rs.lo2,h.rs.lo3,hf,GrowS.nil_ _ _,fun q hq=>by cases hq⟩,h.k2,h.k3,h.c2,h.c3,h.ne,h.hx⟩
theorem SK.mvAll (h:SK T k e P w g A n c zs lo [] a b d C B2 cs2 T2 B3 cs3 T3 v l W):Mv (Ex lo (own1 v++[])) W (Ex lo [none]) W:=Mv.wider W (fun q hq _=>⟨hq.1,by simp⟩)
theorem ex_none {lo q:Nat} (h:lo≤q):Ex lo [none] q:=⟨h,by simp⟩
end
end Go.Proofs.YtfamcohbnoibaaaGreatDoor
