import Derived.Test.YtfamcohbnoibaaaGreatDoorChecked
import Derived.WalkKit
import Derived.Below
import Derived.Lib.Hide
import Derived.Outline
import Derived.OwnWalk
import Derived.Deep.AppendLies
import Derived.Laws.OwnMore
import Derived.StillTailTactics
import Derived.Deep.DrawnRows
import Derived.Deep.QuietTactic
import Derived.BigQuiet
import Derived.WalkSpells
import Derived.WalkLawsBesides
import Derived.IntWalk
set_option linter.unusedVariables false
set_option linter.unusedSimpArgs false
namespace Go.Proofs.YtfamcohbnoibaaaGreatDoor
open Go.RowKit
section
variable {α:Type} {k:Nat} {e:α→Nat→Value}
def encK (k:Nat) (e:α→Nat→Value) (xs:List α):List Value:=xs.flatMap fun x=>(List.range k).map (e x)
theorem encK_cons (x:α) (t:List α):encK k e (x::t)=(List.range k).map (e x)++encK k e t:=rfl
theorem encK_app (a b:List α):encK k e (a++b)=encK k e a++encK k e b:=by simp [encK]
theorem encK_len: ∀xs:List α,(encK k e xs).length=xs.length*k
 |[]=>by simp [encK]
 |x::t=>by rw [encK_cons,List.length_append,encK_len t,List.length_map,List.length_range,List.length_cons,Nat.add_mul,Nat.one_mul];omega
theorem encK_get: ∀(xs:List α) (i j:Nat) (x:α),xs[i]? =some x→j<k→(encK k e xs)[i*k+j]? =some (e x j)
 |[],i,j,x,h,_=>by simp at h
 |y::t,0,j,x,h,hj=>by
  simp at h;subst h
  rw [encK_cons,Nat.zero_mul,Nat.zero_add,List.getElem?_append_left (by simpa using hj)]
  simp [hj]
 |y::t,i+1,j,x,h,hj=>by
  have ih:=encK_get t i j x (by simpa using h) hj
  rw [encK_cons,List.getElem?_append_right (by simp [Nat.add_mul];omega)]
  rw [show (i+1)*k+j-((List.range k).map (e y)).length=i*k+j by simp [Nat.add_mul];omega]
  exact ih
def ListAt (k:Nat) (e:α→Nat→Value) (w:World) (A:Option Addr) (xs:List α):Prop:=
 0<xs.length→ ∃b off,A=some ⟨b,off,none⟩∧b<w.heap.size∧ ∀i x,xs[i]? =some x→ ∀j,j<k→w.cell? ⟨b,off+i*k+j,none⟩=some (e x j)
theorem ListAt.nil_ {w:World} {A:Option Addr}:ListAt k e w A []:=fun h=>absurd h (by simp)
theorem ListAt.below {w w':World} {A:Option Addr} {xs:List α} (h:ListAt k e w A xs) (hb:Below w.heap.size w w'):ListAt k e w' A xs:=fun h0=>by
 obtain ⟨b,off,ea,hlt,hc⟩:=h h0
 exact ⟨b,off,ea,Nat.lt_of_lt_of_le hlt hb.size,fun i x hx j hj=>(hb.cell (p:=⟨b,off+i*k+j,none⟩) hlt).trans (hc i x hx j hj)⟩
theorem ListAt.alloc {w:World} {A:Option Addr} {xs:List α} (h:ListAt k e w A xs) (o:Obj):ListAt k e (w.alloc o) A xs:=h.below ((Below.refl _ _).alloc (Nat.le_refl _) _)
theorem ListAt.drewN {w:World} {A:Option Addr} {xs:List α} (h:ListAt k e w A xs) (n:Nat):ListAt k e (w.drewN n) A xs:=h
theorem get_ex {xs:List α} {i:Nat} (h:i<xs.length): ∃x,xs[i]? =some x:=⟨_,List.getElem?_eq_getElem h⟩
theorem take_snoc' {xs:List α} {i:Nat} {x:α} (h:xs[i]? =some x):xs.take (i+1)=xs.take i++[x]:=by
 rw [List.take_add_one,h];rfl
theorem drop_cons' {xs:List α} {i:Nat} {x:α} (h:xs[i]? =some x):xs.drop i=x::xs.drop (i+1):=by
 obtain ⟨hi,hx⟩:=List.getElem?_eq_some_iff.1 h
 rw [List.drop_eq_getElem_cons hi,hx]
def OwnL (T:TypeId) (k:Nat) (e:α→Nat→Value) (w:World) (B:Nat) (v:Value) (xs:List α):Prop:=w.ownsRow B T k v xs.length (encK k e xs)
variable {T:TypeId} {w w':World} {B:Nat} {v:Value} {xs:List α}
theorem OwnL.nil_ (w:World) (B:Nat):OwnL T k e w B (.slice none 0 0) []:=World.ownsRow_nil w B _ k
theorem OwnL.shape (h:OwnL T k e w B v xs): ∃A c,v= .slice A xs.length c∧xs.length≤c∧(A=none→c=0)∧ListAt k e w A xs:=by
 rcases h.2 with ⟨rfl,h0⟩|⟨g,cap,cur,rfl,hb,hg,h1,h2,h3,h4⟩
 ·exact ⟨none,0,by rw [h0],by omega,fun _=>rfl,fun h=>absurd h (by omega)⟩
 ·have hh:w.ownsRow B T k (.slice (some ⟨g,0,none⟩) xs.length cap) xs.length (encK k e xs):=⟨h.1,.inr ⟨g,cap,cur,rfl,hb,hg,h1,h2,h3,h4⟩⟩
  refine ⟨_,_,rfl,h1,(fun h0=>by cases h0),fun h0=>⟨g,0,rfl, ?_,fun i x hx j hj=> ?_⟩⟩
  ·rcases Nat.lt_or_ge g w.heap.size with hlt|hge
   ·exact hlt
   ·rw [Array.getElem?_eq_none hge] at hg;cases hg
  ·have hi:i<xs.length:=(List.getElem?_eq_some_iff.1 hx).1
   have hle:i*k+k≤xs.length*k:=by have :=Nat.mul_le_mul_right k hi;rw [Nat.succ_mul] at this;exact this
   rw [Nat.zero_add]
   exact (hh.cellAt (i*k+j) (by omega)).trans (encK_get xs i j x hx hj)
theorem OwnL.row (h:OwnL T k e w B v xs):(v= .slice none 0 0∧xs=[])∨ ∃g cap,v= .slice (some ⟨g,0,none⟩) xs.length cap∧B≤g∧g<w.heap.size∧xs.length≤cap∧ ∀i x,xs[i]? =some x→ ∀j,j<k→w.cell? ⟨g,i*k+j,none⟩=some (e x j)∧w.frozen? ⟨g,i*k+j,none⟩=false:=by
 rcases h.2 with ⟨rfl,h0⟩|⟨g,cap,cur,rfl,hb,hg,h1,h2,h3,h4⟩
 ·exact .inl ⟨rfl,List.eq_nil_of_length_eq_zero h0⟩
 ·have hh:w.ownsRow B T k (.slice (some ⟨g,0,none⟩) xs.length cap) xs.length (encK k e xs):=⟨h.1,.inr ⟨g,cap,cur,rfl,hb,hg,h1,h2,h3,h4⟩⟩
  have hlt:g<w.heap.size:=by
   rcases Nat.lt_or_ge g w.heap.size with hlt|hge
   ·exact hlt
   ·rw [Array.getElem?_eq_none hge] at hg;cases hg
  refine .inr ⟨g,cap,rfl,hb,hlt,h1,fun i x hx j hj=> ?_⟩
  have hi:i<xs.length:=(List.getElem?_eq_some_iff.1 hx).1
  have hle:i*k+k≤xs.length*k:=by have :=Nat.mul_le_mul_right k hi;rw [Nat.succ_mul] at this;exact this
  exact ⟨(hh.cellAt (i*k+j) (by omega)).trans (encK_get xs i j x hx hj),hh.frozenAt _⟩
theorem OwnL.alloc (h:OwnL T k e w B v xs) (o:Obj):OwnL T k e (w.alloc o) B v xs:=World.ownsRow.alloc h o
theorem OwnL.drewN (h:OwnL T k e w B v xs) (n:Nat):OwnL T k e (w.drewN n) B v xs:=h
theorem OwnL.below (h:OwnL T k e w B v xs) (hb:Below w.heap.size w w'):OwnL T k e w' B v xs:=by
 refine ⟨h.1, ?_⟩
 rcases h.2 with h0|⟨g,cap,cur,ea,hB,hg,hr⟩
 ·exact .inl h0
 ·refine .inr ⟨g,cap,cur,ea,hB, ?_,hr⟩
  have hlt:g<w.heap.size:=by
   rcases Nat.lt_or_ge g w.heap.size with hlt|hge
   ·exact hlt
   ·rw [Array.getElem?_eq_none hge] at hg;cases hg
  exact (hb.block g hlt).trans hg
theorem OwnL.grown {g:Nat} (h:OwnL T k e w B v xs) (hg:w.grownBy w' (some g)) (hlt:g<B):OwnL T k e w' B v xs:=
 World.ownsRow.kept h hg (.inr fun ea=>by have :=(World.ownsRow.lt h g ea).1;omega)
theorem encK_inv {p:Nat} {u:Value} (h:(encK k e xs)[p]? =some u): ∃i j x,xs[i]? =some x∧j<k∧p=i*k+j∧u=e x j:=by
 have hp:p<xs.length*k:=by rw [←encK_len (k:=k) (e:=e)];exact (List.getElem?_eq_some_iff.1 h).1
 have hk:0<k:=by rcases Nat.eq_zero_or_pos k with h0|h0<;>simp_all
 have hi:p/k<xs.length:=Nat.div_lt_of_lt_mul (by rw [Nat.mul_comm];exact hp)
 obtain ⟨x,hx⟩:=get_ex hi
 have hm:p=p/k*k+p%k:=by rw [Nat.mul_comm];exact (Nat.div_add_mod p k).symm
 refine ⟨p/k,p%k,x,hx,Nat.mod_lt _ hk,hm, ?_⟩
 have :=encK_get (e:=e) xs (p/k) (p%k) x hx (Nat.mod_lt _ hk)
 rw [←hm,h] at this
 exact Option.some.inj this
theorem add_none (b off i:Nat):(Addr.mk b off none).add i=⟨b,off+i,none⟩:=by
 unfold Addr.add;split<;>simp_all
structure KindOk (S T:TypeId) (k:Nat) (e:α→Nat→Value):Prop where
 under: Tryz.prog.underlying S=some (.slice T)
 info: ∃i z bytes,Tryz.prog.info? T=some i∧i.zero=some z∧i.size=k∧i.bytes=bytes∧z.cells.size=k∧bytes≤1000
 pos:0<k
 one: ∀x j,(e x j).oneCell'=true
theorem wp_append_k {S:TypeId} (K:KindOk S T k e)
  {ops:Array Oper} {rest:List Oper} {o:Oper} {a:Act} {Q:Exit→Act→World→Prop} (w:World) (hgd:o.guard=none) (s x:Operand)
  (ho:o.op= .call {callee:= .builtin .append,args:=#[s,x],argTypes:=#[S,S]}) (B:Nat) (v:Value) (ys:List α) (hs:a.eval s=v) (hown:OwnL T k e w B v ys)
  (blk off m c:Nat) (news:List α) (hm:news.length=m) (hm0:0<m) (hx:a.eval x= .slice (some ⟨blk,off,none⟩) m c) (hb: ∀i x,news[i]? =some x→ ∀j,j<k→w.cell? ⟨blk,off+i*k+j,none⟩=some (e x j))
  (hlen:ys.length+m≤1000000) (hB:B≤w.heap.size)
  (h: ∀g cap w',OwnL T k e w' B (.slice (some ⟨g,0,none⟩) (ys.length+m) cap) (ys++news)→Below B w w'→w.grownBy w' v.ownBlock→(v.ownBlock=some g∨g=w.heap.size)→g<w'.heap.size→
   wpList Tryz.prog ops Q rest (a.put o.dst (.slice (some ⟨g,0,none⟩) (ys.length+m) cap)) w'):wpList Tryz.prog ops Q (o::rest) a w:=by
 obtain ⟨i0,z,bytes,hi,hz0,hz1,hz2,hzz,hk2⟩:=K.info
 refine wpList_append_lies w hgd s x S ho B T i0 z k bytes K.under hi hz0 hz1 hz2 hzz K.pos v ys.length (encK k e ys) hs hown ⟨blk,off,none⟩ m c (encK k e news) hx (by rw [encK_len,hm]) ?_ ?_ hm0 (by simp only [maxLen];omega) ?_ hB _ rfl ?_
 ·intro j u hu
  obtain ⟨i,j',y,h1,h2,rfl,rfl⟩:=encK_inv hu
  rw [add_none, ←Nat.add_assoc]
  exact hb i y h1 j' h2
 ·intro u hu
  simp only [encK,List.mem_flatMap,List.mem_map] at hu
  obtain ⟨y,_,j,_,rfl⟩:=hu
  exact K.one y j
 ·have :=Nat.mul_le_mul hlen hk2
  omega
 ·intro g cap w' h1 h2 h3 h4
  refine h g cap w' ?_ ((Below.refl B w).grown h2 hB (fun q hq=>(World.ownsRow.lt hown q hq).1)) h2 h3 h4
  unfold OwnL
  rw [encK_app,List.length_append,hm]
  exact h1
theorem wp_append_one {S:TypeId} (K:KindOk S T k e)
  {ops:Array Oper} {rest:List Oper} {o:Oper} {a:Act} {Q:Exit→Act→World→Prop} (w:World) (hgd:o.guard=none) (s x:Operand)
  (ho:o.op= .call {callee:= .builtin .append,args:=#[s,x],argTypes:=#[S,S]}) (B:Nat) (v:Value) (ys:List α) (hs:a.eval s=v) (hown:OwnL T k e w B v ys)
  (blk:Nat) (y:α) (hx:a.eval x= .slice (some ⟨blk,0,none⟩) 1 1) (hb: ∀j,j<k→w.cell? ⟨blk,j,none⟩=some (e y j))
  (hlen:ys.length≤900000) (hB:B≤w.heap.size)
  (h: ∀g cap w',OwnL T k e w' B (.slice (some ⟨g,0,none⟩) (ys.length+1) cap) (ys++[y])→Below B w w'→w.grownBy w' v.ownBlock→(v.ownBlock=some g∨g=w.heap.size)→g<w'.heap.size→
   wpList Tryz.prog ops Q rest (a.put o.dst (.slice (some ⟨g,0,none⟩) (ys.length+1) cap)) w'):wpList Tryz.prog ops Q (o::rest) a w:=
 wp_append_k K w hgd s x ho B v ys hs hown blk 0 1 1 [y] rfl (by omega) hx (fun i x hx j hj=>by
  rcases i with _|i
  ·simp at hx;subst hx;simpa using hb j hj
  ·simp at hx) (by omega) hB h
theorem wp_make_k {S:TypeId} (K:KindOk S T k e) {ops:Array Oper} {rest:List Oper} {o:Oper} {a:Act} {Q:Exit→Act→World→Prop} (w:World) (hg:o.guard=none) (l c:Operand) (hop:o.op=Op.makeSlice S l c)
  (B:Nat) (kl kc:IntKind) (C:Int) (n:Nat) (hl:a.eval l= .int kl 0) (hc:a.eval c= .int kc C) (hC:C=(n:Int)) (hn:n≤1000000) (hB:B≤w.heap.size)
  (h: ∀w',OwnL T k e w' B (.slice (some ⟨w.heap.size,0,none⟩) 0 n) []→Below w.heap.size w w'→wpList Tryz.prog ops Q rest (a.put o.dst (.slice (some ⟨w.heap.size,0,none⟩) 0 n)) w'):
  wpList Tryz.prog ops Q (o::rest) a w:=by
 obtain ⟨i0,z,bytes,hi,hz0,hz1,hz2,hzz,hk2⟩:=K.info
 refine wpList_make_own w hg l c S hop B T i0 z k K.under hi hz0 hz1 kl kc C n hl hc hC ?_ (by simp only [maxLen];omega) hB ?_
 ·have :=Nat.mul_le_mul hk2 hn
  rw [hz2];omega
 ·intro w' h1 h2
  exact h w' h1 ((Below.refl _ _).grown h2 (Nat.le_refl _) (fun q hq=>by cases hq))
end
def BlkAt (w:World) (b:Nat) (vs:Array Value) (T:TypeId):Prop:=w.heap[b]? =some (.cells vs T (0,0))
section
variable {w w':World} {b:Nat} {vs:Array Value} {T:TypeId}
theorem BlkAt.lt_ (h:BlkAt w b vs T):b<w.heap.size:=by
 rcases Nat.lt_or_ge b w.heap.size with hlt|hge
 ·exact hlt
 ·unfold BlkAt at h;rw [Array.getElem?_eq_none hge] at h;cases h
theorem BlkAt.below {B:Nat} (h:BlkAt w b vs T) (hb:Below B w w') (hB:b<B):BlkAt w' b vs T:=(hb.block b hB).trans h
theorem BlkAt.after (h:BlkAt w b vs T) (hb:Below w.heap.size w w'):BlkAt w' b vs T:=h.below hb h.lt_
theorem BlkAt.grown {row:Option Nat} (h:BlkAt w b vs T) (hg:w.grownBy w' row) (hr:some b≠row):BlkAt w' b vs T:=(hg.block b h.lt_ hr).trans h
theorem BlkAt.alloc (h:BlkAt w b vs T) (o:Obj):BlkAt (w.alloc o) b vs T:=h.after ((Below.refl _ _).alloc (Nat.le_refl _) o)
theorem BlkAt.drewN (h:BlkAt w b vs T) (q:Nat):BlkAt (w.drewN q) b vs T:=h
theorem BlkAt.new (w:World) (vs:Array Value) (T:TypeId):BlkAt (w.alloc (.cells vs T)) w.heap.size vs T:=heap_alloc_new w _
theorem BlkAt.cell (h:BlkAt w b vs T) {i:Nat} {v:Value} (hv:vs[i]? =some v):w.cell? ⟨b,i,none⟩=some v:=(cell_of_row w b i _ _ (0,0) h).trans hv
theorem BlkAt.free (h:BlkAt w b vs T) (i:Nat):w.frozen? ⟨b,i,none⟩=false:=by unfold BlkAt at h;simp [World.frozen?,h]
theorem BlkAt.set_ (h:BlkAt w b vs T) (i:Nat) (v:Value):BlkAt (w.setCell ⟨b,i,none⟩ v) b (vs.setIfInBounds i v) T:=by
 unfold BlkAt at h ⊢
 simp [World.setCell,Array.getElem?_modify,h]
theorem BlkAt.other (h:BlkAt w b vs T) {g i:Nat} (hne:g≠b) (v:Value):BlkAt (w.setCell ⟨g,i,none⟩ v) b vs T:=by
 unfold BlkAt at h ⊢
 rw [←h]
 exact Below.heap_setCell w ⟨g,i,none⟩ v b hne.symm
end
end Go.Proofs.YtfamcohbnoibaaaGreatDoor
namespace Go.Proofs.YtfamcohbnoibaaaGreatDoor
open Go.RowKit
def NumsAt (w:World) (A:Option Addr) (zs:List Int):Prop:=
 0<zs.length→ ∃b off,A=some ⟨b,off,none⟩∧b<w.heap.size∧ ∀k,k<zs.length→w.cell? ⟨b,off+k,none⟩=some (.int .i64 (zs.getD k 0))
theorem NumsAt.below {w w':World} {A:Option Addr} {zs:List Int} (h:NumsAt w A zs) (hb:Below w.heap.size w w'):NumsAt w' A zs:=fun h0=>by
 obtain ⟨b,off,e,hlt,hc⟩:=h h0
 exact ⟨b,off,e,Nat.lt_of_lt_of_le hlt hb.size,fun k hk=>(hb.cell (p:=⟨b,off+k,none⟩) hlt).trans (hc k hk)⟩
theorem NumsAt.nil_ {w:World} {A:Option Addr}:NumsAt w A []:=fun h=>absurd h (by simp)
theorem nget_mem {l:List Int} {k:Nat} (h:k<l.length):l.getD k 0∈l:=by
 rw [show l.getD k 0=l[k] by simp [List.getD,h]];exact List.getElem_mem h
def DiceAt (w:World) (g:Nat) (A:Option Addr) (n c:Nat) (p:Nat):Prop:=BlkAt w g #[.slice A n c,.int .i64 (p:Int)] 84
section
variable {w w':World} {g n c p:Nat} {A:Option Addr}
theorem DiceAt.cells (h:DiceAt w g A n c p):w.cell? ⟨g,0,none⟩=some (.slice A n c)∧w.cell? ⟨g,1,none⟩=some (.int .i64 (p:Int))∧w.frozen? ⟨g,1,none⟩=false:=
 ⟨BlkAt.cell h rfl,BlkAt.cell h rfl,by unfold DiceAt BlkAt at h;simp [World.frozen?,h]⟩
theorem DiceAt.set_ (h:DiceAt w g A n c p) (q:Nat):DiceAt (w.setCell ⟨g,1,none⟩ (.int .i64 (q:Int))) g A n c q:=by
 unfold DiceAt BlkAt at h ⊢
 simp [World.setCell,Array.getElem?_modify,h]
end
theorem grown_trans {w w1 w2:World} {row:Option Nat} (h:w.grownBy w1 row) (h2:w1.grownBy w2 row):w.grownBy w2 row:=
 ⟨h2.os.trans h.os,h2.tape.trans h.tape,h2.output.trans h.output,Nat.le_trans h.size h2.size,fun k hk hr=>(h2.block k (Nat.lt_of_lt_of_le hk h.size) hr).trans (h.block k hk hr)⟩
theorem grown_then {w w1 w2:World} {row:Option Nat} {B:Nat} (h:w.grownBy w1 row) (h2:Below B w1 w2) (hB:w.heap.size≤B):w.grownBy w2 row:=
 ⟨h2.os.trans h.os,h2.tape.trans h.tape,h2.output.trans h.output,Nat.le_trans h.size h2.size,fun k hk hr=>(h2.block k (by omega)).trans (h.block k hk hr)⟩
theorem grown_refl (w:World) (row:Option Nat):w.grownBy w row:=World.grownBy.refl w row
theorem grown_drewN {w w1:World} {row:Option Nat} (h:w.grownBy w1 row) (q:Nat):w.grownBy (w1.drewN q) row:=⟨h.os,h.tape,h.output,h.size,h.block⟩
theorem grown_drew {w w1:World} {row:Option Nat} (h:w.grownBy w1 row):w.grownBy w1.drew row:=⟨h.os,h.tape,h.output,h.size,h.block⟩
theorem grown_set (w:World) (g i:Nat) (u:Value):w.grownBy (w.setCell ⟨g,i,none⟩ u) (some g):=
 ⟨rfl,rfl,rfl,by simp,fun k hk hr=>Below.heap_setCell w ⟨g,i,none⟩ u k (fun e=>hr (by rw [e]))⟩
theorem grown_alloc {w w1:World} {row:Option Nat} (h:w.grownBy w1 row) (o:Obj):w.grownBy (w1.alloc o) row:=grown_then h ((Below.refl _ _).alloc (Nat.le_refl _) o) h.size
theorem NumsAt.grown {w w':World} {A:Option Addr} {zs:List Int} {g:Nat} (h:NumsAt w A zs) (hg:w.grownBy w' (some g)) (hne:0<zs.length→ ∀ad,A=some ad→ad.block<g):NumsAt w' A zs:=fun h0=>by
 obtain ⟨b,off,e,hlt,hc⟩:=h h0
 have :=hne h0 _ e
 simp only at this
 exact ⟨b,off,e,Nat.lt_of_lt_of_le hlt hg.size,fun k hk=>(hg.cell_far ⟨b,off+k,none⟩ hlt (fun e=>by injection e with e;simp only at e;omega)).trans (hc k hk)⟩
theorem below_of_grown {w w1 w2:World} {B g:Nat} (h:Below B w w1) (hg:w1.grownBy w2 (some g)) (hB:B≤w1.heap.size) (hgB:B≤g):Below B w w2:=h.grown hg hB (fun k hk=>by cases hk;exact hgB)
structure Dice (w:World) (g:Nat) (A:Option Addr) (n c:Nat) (zs:List Int):Prop where
 at_: ∃p,p≤n∧DiceAt w g A n c p
 len:zs.length=n
 le:n≤500
 ints:NumsAt w A zs
 fits: ∀z∈zs, -9223372036854775808≤z∧z≤9223372036854775807
 far:0<n→ ∀ad,A=some ad→ad.block<g
theorem Dice.lt_ {w:World} {g n c:Nat} {A:Option Addr} {zs:List Int} (h:Dice w g A n c zs):g<w.heap.size:=by obtain ⟨p,_,h⟩:=h.at_;exact BlkAt.lt_ h
theorem Dice.below {w w':World} {g n c B:Nat} {A:Option Addr} {zs:List Int} (h:Dice w g A n c zs) (hb:Below B w w') (hg:g<B):Dice w' g A n c zs:=by
 obtain ⟨p,hp,hd⟩:=h.at_
 refine ⟨⟨p,hp,BlkAt.below hd hb hg⟩,h.len,h.le,fun h0=> ?_,h.fits,h.far⟩
 obtain ⟨b,off,e,hlt,hc⟩:=h.ints h0
 have :=h.far (by have :=h.len;omega) _ e
 simp only at this
 exact ⟨b,off,e,Nat.lt_of_lt_of_le hlt hb.size,fun k hk=>(hb.cell (p:=⟨b,off+k,none⟩) (by simp only;omega)).trans (hc k hk)⟩
theorem Dice.after {w w':World} {g n c:Nat} {A:Option Addr} {zs:List Int} (h:Dice w g A n c zs) (hb:Below w.heap.size w w'):Dice w' g A n c zs:=h.below hb h.lt_
theorem Dice.alloc {w:World} {g n c:Nat} {A:Option Addr} {zs:List Int} (h:Dice w g A n c zs) (o:Obj):Dice (w.alloc o) g A n c zs:=h.after ((Below.refl _ _).alloc (Nat.le_refl _) o)
theorem Dice.drew {w:World} {g n c:Nat} {A:Option Addr} {zs:List Int} (h:Dice w g A n c zs):Dice w.drew g A n c zs:=h.after (Below.refl _ _).drew
theorem Dice.start {w:World} {A:Option Addr} {n c:Nat} {zs:List Int} (hA:NumsAt w A zs) (hn:zs.length=n) (h5:n≤500) (hf: ∀z∈zs, -9223372036854775808≤z∧z≤9223372036854775807):
  Dice (w.alloc (.cells #[.slice A n c,.int .i64 0] 84)) w.heap.size A n c zs:=
 ⟨⟨0,Nat.zero_le _,heap_alloc_new w _⟩,hn,h5,hA.below ((Below.refl _ _).alloc (Nat.le_refl _) _),hf,fun h0 ad e=>by
  obtain ⟨b,off,e2,hlt, -⟩:=hA (by omega)
  rw [e2] at e
  cases e
  exact hlt⟩
theorem dmod_bd (y k:Int) (hk:0<k): -k<y.tmod k∧y.tmod k<k:=by
 have a:=Int.tmod_lt_of_pos y hk
 have b:=Int.lt_tmod_of_pos y hk
 exact ⟨b,a⟩
def Drawn (m:Int) (w:World) (g:Nat) (A:Option Addr) (n c:Nat) (zs:List Int) (e:Ending) (w':World):Prop:=
 ∃v,e= .returned (.int .i64 v)∧0≤v∧v<m∧w.grownBy w' (some g)∧Dice w' g A n c zs
set_option maxHeartbeats 2000000 in
theorem Next_any (g n c:Nat) (A:Option Addr) (zs:List Int) (m:Int) (w:World) (h:Dice w g A n c zs) (m1:1≤m) (m2:m≤1000000):
  Calls Tryz.prog 32 #[.pointer (some ⟨g,0,none⟩),.int .i64 m] w (Drawn m w g A n c zs):=by
 obtain ⟨p,hp,hd⟩:=h.at_
 obtain ⟨d0,d1,d2⟩:=hd.cells
 have HD:=Lib.hid hd
 have HH:=Lib.hid h
 have n5:=h.le
 have hm0:(m==0)=false:=by simp;omega
 have hm1:decide (m<1)=false:=by simp;omega
 have hlen:=h.len
 by_cases hpn:p=n
 ·have e1:decide ((n:Int)≤p)=true:=by simp;omega
  have e2:decide (n≤p)=true:=by simp;omega
  clear hd h hlen hpn
  go_enter Tryz.func32,Tryz.ntmps32
  go_wp2_with fail
  go_quiet (fail)
  go_wp2_with fail
  go_ret
  exact ⟨0,rfl,by omega,by omega,grown_drewN (grown_refl _ _) _,⟨⟨p,hp,HD.out⟩,HH.out.len,HH.out.le,HH.out.ints,HH.out.fits,HH.out.far⟩⟩
 ·have e1:decide ((n:Int)≤p)=false:=by simp;omega
  have e2:decide (n≤p)=false:=by simp;omega
  obtain ⟨b,off,rfl,hb,hc⟩:=h.ints (by omega)
  have x0:=hc p (by omega)
  have hx:=h.fits _ (nget_mem (l:=zs) (k:=p) (by omega))
  have hbg:=h.far (by omega) _ rfl
  simp only at hbg
  obtain ⟨x,HX⟩: ∃x,Hid (zs.getD p 0=x):=⟨_,Lib.hid rfl⟩
  rw [HX.out] at x0 hx
  obtain ⟨x1,x2⟩:=hx
  have tb:=dmod_bd x m (by omega)
  obtain ⟨tb1,tb2⟩:=tb
  have p0:(0:Int)≤p:=by omega
  have p1:(p:Int)<n:=by omega
  have hlt:=BlkAt.lt_ hd
  have hbne:b≠g:=by omega
  clear hd h hlen hpn hc
  have fin: ∀(v:Int) (W:World) (q:Nat),0≤v→v<m→W=(w.setCell ⟨g,1,none⟩ (.int .i64 ((p:Int)+1))).drewN q→Drawn m w g (some ⟨b,off,none⟩) n c zs (.returned (.int .i64 v)) W:=fun v W q v0 v1 hW=>by
   subst hW
   have hg:w.grownBy ((w.setCell ⟨g,1,none⟩ (.int .i64 ((p:Int)+1))).drewN q) (some g):=grown_drewN (grown_set w g 1 _) q
   exact ⟨v,rfl,v0,v1,hg,⟨⟨p+1,by omega,by have :=HD.out.set_ (p+1);exact BlkAt.drewN this q⟩,HH.out.len,HH.out.le,HH.out.ints.grown hg (fun h0=>HH.out.far (by have :=HH.out.len;omega)),HH.out.fits,HH.out.far⟩⟩
  have FIN:=Lib.hid fin
  clear fin
  by_cases hneg:x.tmod m<0
  all_goals
   go_enter Tryz.func32,Tryz.ntmps32
   go_wp2_with fail
   go_quiet (fail)
   go_wp2_with fail
   go_quiet (fail)
   go_wp2_with fail
   go_ret
   exact FIN.out _ _ _ (by omega) (by omega) rfl
theorem Light_any (A:Option Addr) (n c:Nat) (w:World):Calls Tryz.prog 8 #[.slice A n c] w fun e w'=>e= .returned (.bool (decide ((n:Int)≤500)))∧w=w':=by
 go_enter Tryz.func8,Tryz.ntmps8
 go_wp2_with fail
 go_ret
 exact ⟨rfl,rfl⟩
theorem Roll_any (A:Option Addr) (n c:Nat) (w:World):Calls Tryz.prog 10 #[.slice A n c] w fun e w'=>e= .returned (.pointer (some ⟨w.heap.size,0,none⟩))∧w'=w.alloc (.cells #[.slice A n c,.int .i64 0] 84):=by
 go_enter Tryz.func10,Tryz.ntmps10
 go_wp2_with fail
 go_ret
 exact ⟨rfl,rfl⟩
def Picked (ls:List Int) (w:World) (g:Nat) (A:Option Addr) (n c:Nat) (zs:List Int) (e:Ending) (w':World):Prop:=
 ∃v,e= .returned (.int .i64 v)∧v∈ls∧w.grownBy w' (some g)∧Dice w' g A n c zs
def numV (ls:List Int):Array Value:=(ls.map (Value.int .i64)).toArray
theorem numV_get {ls:List Int} {k:Nat} (h:k<ls.length):(numV ls)[k]? =some (.int .i64 (ls.getD k 0)):=by
 simp [numV,List.getD,h]
set_option maxHeartbeats 1000000 in
theorem Pick_any (g n c:Nat) (A:Option Addr) (zs ls:List Int) (b m cc:Nat) (T:TypeId) (w:World) (h:Dice w g A n c zs) (hb:BlkAt w b (numV ls) T) (hl:ls.length=m) (m1:1≤m) (m2:m≤1000) (hne:b≠g):
  Calls Tryz.prog 13 #[.pointer (some ⟨g,0,none⟩),.slice (some ⟨b,0,none⟩) m cc] w (Picked ls w g A n c zs):=by
 have N1:=Next_any g n c A zs m w h (by omega) (by omega)
 have HB:=Lib.hid hb
 have HL:=Lib.hid hl
 clear h hb hl
 go_enter Tryz.func13,Tryz.ntmps13
 go_wp2_with fail
 refine N1.mono ?_
 rintro e w1 ⟨v,rfl,v0,v1,g1,D1⟩
 obtain ⟨k,rfl⟩: ∃k:Nat,v=k:=⟨v.toNat,by omega⟩
 have hk:k<ls.length:=by have :=HL.out;omega
 have c1:=BlkAt.cell (HB.out.grown g1 (fun e=>hne (Option.some.inj e))) (numV_get hk)
 have hm:=nget_mem hk
 obtain ⟨x,hx⟩: ∃x,ls.getD k 0=x:=⟨_,rfl⟩
 rw [hx] at c1 hm
 have HM:=Lib.hid hm
 have hk2:k<m:=by omega
 clear hx hk N1 hm
 go_wp2_with fail
 go_ret
 exact ⟨x,rfl,HM.out,g1,D1⟩
def Tossed (w:World) (g:Nat) (A:Option Addr) (n c:Nat) (zs:List Int) (e:Ending) (w':World):Prop:=
 ∃v,e= .returned (.bool v)∧w.grownBy w' (some g)∧Dice w' g A n c zs
set_option maxHeartbeats 1000000 in
theorem Bool_any (g n c:Nat) (A:Option Addr) (zs:List Int) (m:Int) (w:World) (h:Dice w g A n c zs) (m1:1≤m) (m2:m≤1000000):
  Calls Tryz.prog 38 #[.pointer (some ⟨g,0,none⟩),.int .i64 m] w (Tossed w g A n c zs):=by
 have N1:=Next_any g n c A zs m w h (by omega) (by omega)
 clear h
 go_enter Tryz.func38,Tryz.ntmps38
 go_wp2_with fail
 refine N1.mono ?_
 rintro e w1 ⟨v,rfl,v0,v1,g1,D1⟩
 clear N1
 go_wp2_with fail
 go_ret
 exact ⟨_,rfl,g1,D1⟩
end Go.Proofs.YtfamcohbnoibaaaGreatDoor
