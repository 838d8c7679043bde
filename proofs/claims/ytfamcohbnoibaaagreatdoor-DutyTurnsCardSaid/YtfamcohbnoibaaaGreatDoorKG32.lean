import Derived.Test.YtfamcohbnoibaaaGreatDoorKG30
import Derived.Test.YtfamcohbnoibaaaGreatDoorKG31
import Derived.Test.YtfamcohbnoibaaaGreatDoorShelfS
import Derived.Test.YtfamcohbnoibaaaGreatDoorShelfZ
import Derived.ArgAppend
import Derived.IntWalk
import Derived.StillTailTactics
import Derived.BigRegion
set_option linter.unusedVariables false
set_option linter.unusedSimpArgs false
namespace Go.Proofs.YtfamcohbnoibaaaGreatDoor
namespace Spw
open Go.RowKit
def RowAt (w:World) (g:Nat) (ds:Spn.L):Prop:=
 g<w.heap.size∧ ∀k,k<ds.length→w.cell? ⟨g,k*2,none⟩=some (.int .i64 (ds.getD k (0,0)).1)∧w.cell? ⟨g,k*2+1,none⟩=some (.int .i64 (ds.getD k (0,0)).2)∧w.frozen? ⟨g,k*2,none⟩=false∧w.frozen? ⟨g,k*2+1,none⟩=false
section
variable {w w':World} {g:Nat} {ds:Spn.L}
theorem RowAt.below {B:Nat} (h:RowAt w g ds) (hb:Below B w w') (hg:g<B):RowAt w' g ds:=
 ⟨Nat.lt_of_lt_of_le h.1 hb.size,fun k hk=>by
  obtain ⟨a,b,c,d⟩:=h.2 k hk
  exact ⟨(hb.cell (p:=⟨g,k*2,none⟩) hg).trans a,(hb.cell (p:=⟨g,k*2+1,none⟩) hg).trans b,(hb.frozen (p:=⟨g,k*2,none⟩) hg).trans c,(hb.frozen (p:=⟨g,k*2+1,none⟩) hg).trans d⟩⟩
theorem RowAt.alloc (h:RowAt w g ds) (o:Obj):RowAt (w.alloc o) g ds:=h.below ((Below.refl _ _).alloc (Nat.le_refl _) o) h.1
theorem RowAt.drewN (h:RowAt w g ds) (q:Nat):RowAt (w.drewN q) g ds:=h
theorem RowAt.spans (h:RowAt w g ds) (q:Nat):SpansAt w (some ⟨g,0,none⟩) (ds.take q):=fun h0=>by
 refine ⟨g,0,rfl,h.1,fun k hk=> ?_⟩
 rw [List.length_take] at hk
 obtain ⟨a,b, -, -⟩:=h.2 k (by omega)
 rw [Nat.zero_add]
 simp only [List.getD,List.getElem?_take,show k<q by omega,if_true] at a b ⊢
 exact ⟨a,b⟩
theorem getD_set (ds:Spn.L) (q k:Nat) (s:Int×Int) (hq:q<ds.length):(ds.set q s).getD k (0,0)=if k=q then s else ds.getD k (0,0):=by
 simp only [List.getD,List.getElem?_set]
 by_cases e:q=k
 ·subst e;simp [hq]
 ·simp [e,Ne.symm e]
theorem RowAt.set_ (h:RowAt w g ds) {q:Nat} (hq:q<ds.length) (f t:Int):RowAt ((w.setCell ⟨g,q*2,none⟩ (.int .i64 f)).setCell ⟨g,q*2+1,none⟩ (.int .i64 t)) g (ds.set q (f,t)):=by
 refine ⟨by simpa using h.1,fun k hk=> ?_⟩
 rw [List.length_set] at hk
 obtain ⟨a,b,c,d⟩:=h.2 k hk
 obtain ⟨a',b', -, -⟩:=h.2 q hq
 rw [getD_set ds q k _ hq]
 simp only [World.frozen?_setCell]
 refine ⟨?_, ?_,c,d⟩
 ·rw [World.cell?_setCell_other _ _ _ _ (by intro e;injection e with _ e;omega)]
  by_cases e:k=q
  ·subst e;rw [if_pos rfl];exact World.cell?_setCell_same _ _ _ a'
  ·rw [if_neg e,World.cell?_setCell_other _ _ _ _ (by intro e2;injection e2 with _ e2;omega)];exact a
 ·by_cases e:k=q
  ·subst e;rw [if_pos rfl]
   exact World.cell?_setCell_same _ _ _ ((World.cell?_setCell_other _ _ _ _ (by intro e;injection e with _ e;omega)).trans b')
  ·rw [if_neg e,World.cell?_setCell_other _ _ _ _ (by intro e2;injection e2 with _ e2;omega),World.cell?_setCell_other _ _ _ _ (by intro e2;injection e2 with _ e2;omega)];exact b
theorem RowAt.set0 (h:RowAt w g ds) (hq:0<ds.length) (f t:Int):RowAt ((w.setCell ⟨g,0,none⟩ (.int .i64 f)).setCell ⟨g,1,none⟩ (.int .i64 t)) g (ds.set 0 (f,t)):=h.set_ hq f t
theorem RowAt.set2 (h:RowAt w g ds) {q:Nat} (hq:q<ds.length) (t:Int):RowAt (w.setCell ⟨g,q*2+1,none⟩ (.int .i64 t)) g (ds.set q ((ds.getD q (0,0)).1,t)):=by
 refine ⟨by simpa using h.1,fun k hk=> ?_⟩
 rw [List.length_set] at hk
 obtain ⟨a,b,c,d⟩:=h.2 k hk
 obtain ⟨a',b', -, -⟩:=h.2 q hq
 rw [getD_set ds q k _ hq]
 simp only [World.frozen?_setCell]
 refine ⟨?_, ?_,c,d⟩
 ·rw [World.cell?_setCell_other _ _ _ _ (by intro e;injection e with _ e;omega)]
  by_cases e:k=q
  ·subst e;rw [if_pos rfl];exact a
  ·rw [if_neg e];exact a
 ·by_cases e:k=q
  ·subst e;rw [if_pos rfl];exact World.cell?_setCell_same _ _ _ b'
  ·rw [if_neg e,World.cell?_setCell_other _ _ _ _ (by intro e2;injection e2 with _ e2;omega)];exact b
end
theorem wp_append_room {ops:Array Oper} {rest:List Oper} {o:Oper} {a:Act} {Q:Exit→Act→World→Prop} (w:World) (hgd:o.guard=none) (s x:Operand)
  (ho:o.op= .call {callee:= .builtin .append,args:=#[s,x],argTypes:=#[51,51]}) (g q cap:Nat) (ds:Spn.L) (hs:a.eval s= .slice (some ⟨g,0,none⟩) q cap) (hR:RowAt w g ds) (hq:q<ds.length) (hc:q<cap)
  (blk:Nat) (f t:Int) (hx:a.eval x= .slice (some ⟨blk,0,none⟩) 1 1) (hb0:w.cell? ⟨blk,0,none⟩=some (.int .i64 f)) (hb1:w.cell? ⟨blk,1,none⟩=some (.int .i64 t))
  (h:wpList Tryz.prog ops Q rest (a.put o.dst (.slice (some ⟨g,0,none⟩) (q+1) cap)) ((w.setCell ⟨g,q*2,none⟩ (.int .i64 f)).setCell ⟨g,q*2+1,none⟩ (.int .i64 t))):wpList Tryz.prog ops Q (o::rest) a w:=by
 obtain ⟨i0,hi0,hz0,hz1,hz2⟩:=info_parts info47
 obtain ⟨r0,r1,r2,r3⟩:=hR.2 q hq
 have hrun:=run_append_room_cells (P:= Tryz.prog) w 51 o.type 82 i0 Tryz.underlying51 hi0 g 0 q cap ⟨blk,0,none⟩ 1 1 [.int .i64 f,.int .i64 t] (by rw [hz1];rfl) (by
   intro j u hu
   match j with
   |0=>simp at hu;subst hu;exact hb0
   |1=>simp at hu;subst hu;exact hb1
   |(k+2)=>simp at hu) (one_cells f t) (by omega) (by
   intro j hj
   rw [hz1,Nat.zero_add]
   match j,hj with
   |0,_=>rw [Nat.add_zero,r0];rfl
   |1,_=>rw [r1];rfl) (by
   intro j hj
   rw [hz1,Nat.zero_add]
   match j,hj with
   |0,_=>exact r2
   |1,_=>exact r3)
 rw [hz1,Nat.zero_add] at hrun
 refine wpList_plain hgd fun K hK=> ?_
 unfold Oper.wp execOp
 simp only [ho,resolve,invoke,builtin,Sem.run_bind,Sem.run_pure,Result.andThen_ok,List.map_toArray,List.map_cons,List.map_nil,hs,hx,hrun]
 exact hK _ _ h
theorem below_push {B nq g a b:Nat} {w wr:World} {o1 o2:Obj} {u v:Value} (h:Below B w wr) (hB:B≤w.heap.size) (hg:B≤g):
  Below B w (((((wr.alloc o1).drewN nq).setCell ⟨g,a,none⟩ u).setCell ⟨g,b,none⟩ v).alloc o2):=
 (((below_drewN (h.alloc (Nat.le_trans hB h.size) o1) nq).setCell hg u).setCell hg v).alloc (by have :=h.size;simp [World.drewN];omega) o2
def Joined (d:Spn.L) (g cap:Nat) (w:World) (e:Ending) (w':World):Prop:=
 ∃set:Spn.L,e= .returned (.slice (some ⟨g,0,none⟩) set.length cap)∧SpansAt w' (some ⟨g,0,none⟩) set∧Hid (Spn.Chain set∧ ∀x,Spn.cov set x↔Spn.cov d x)∧ ∀B,B≤g→B≤w.heap.size→Below B w w'
set_option maxHeartbeats 1500000 in
set_option maxRecDepth 100000 in
theorem join_any (g n cap:Nat) (d:Spn.L) (w:World) (hR:RowAt w g d) (hn:d.length=n) (hnc:n≤cap) (hn5:n≤100000) (hd:Spn.AscF d) (hlt: ∀s∈d,s.1<s.2):
  Calls Tryz.prog 129 #[.slice (some ⟨g,0,none⟩) n cap] w (Joined d g cap w):=by
 have HN:=Lib.hid hn
 have HD:=Lib.hid hd
 have HLT:=Lib.hid hlt
 have c0:(0:Int)≤cap:=by omega
 clear hn hd hlt
 go_enter Tryz.func129,Tryz.ntmps129
 go_wp2_with fail
 go_loopw [3,11] (fun v i wr=> ∃(k q:Nat) (ds:Spn.L),v= .slice (some ⟨g,0,none⟩) q cap∧i= .int .i64 k∧q≤k∧k≤n∧RowAt wr g ds∧Hid (ds.length=n∧Spn.Join d k (ds.take q)∧ ∀j,k≤j→j<n→ds.getD j (0,0)=d.getD j (0,0))∧Hid (∀B,B≤g→B≤w.heap.size→Below B w wr)) (fun _ i _=>n-(intOf i).toNat)
 case atStart=>exact ⟨0,0,d,rfl,rfl,by omega,by omega,hR,Lib.hid ⟨HN.out,Spn.Join.start d,fun j _ _=>rfl⟩,Lib.hid fun B _ _=>Below.refl _ _⟩
 case round=>
  clear hR
  obtain ⟨k,q,ds,rfl,rfl,hqk,hkn,hR,HJ,HB⟩:=hrel
  by_cases hk:k<n
  ·obtain ⟨hl,hj,hsame⟩:=HJ.out
   have hcell:=hR.2 k (by omega)
   rw [hsame k (Nat.le_refl _) hk] at hcell
   obtain ⟨r0,r1, -, -⟩:=hcell
   have hft:=HLT.out _ (Spn.getD_mem (l:=d) (k:=k) (by have :=HN.out;omega))
   obtain ⟨⟨f,t⟩,HS⟩: ∃s:Int×Int,Hid (d.getD k (0,0)=s):=⟨_,Lib.hid rfl⟩
   rw [HS.out] at r0 r1 hft
   simp only at hft
   have hgz:=hR.1
   have k5:(k:Int)≤100000:=by omega
   have hlq:(ds.take q).length=q:=by rw [List.length_take];omega
   have HL:=Lib.hid hl
   have HJN:=Lib.hid hj
   have HSM:=Lib.hid hsame
   have HLQ:=Lib.hid hlq
   have i0:(0:Int)≤k:=by omega
   have PUSH:(0<q→(ds.getD (q-1) (0,0)).2<f)→Hid ((ds.set q (f,t)).length=n∧Spn.Join d (k+1) ((ds.set q (f,t)).take (q+1))∧ ∀j,k+1≤j→j<n→(ds.set q (f,t)).getD j (0,0)=d.getD j (0,0)):=fun h=>Lib.hid (by
    have e:(ds.set q (f,t)).take (q+1)=ds.take q++[(f,t)]:=by
     rw [Spn.take_snoc _ q (0,0) (by rw [List.length_set];have :=HL.out;omega),getD_set ds q q _ (by have :=HL.out;omega),if_pos rfl,List.take_set_of_le (Nat.le_refl _)]
    refine ⟨by rw [List.length_set];exact HL.out, ?_,fun j h1 h2=>by rw [getD_set ds q j _ (by have :=HL.out;omega),if_neg (by omega)];exact HSM.out j (by omega) h2⟩
    rw [e]
    refine HJN.out.push HD.out (by have :=HN.out;omega) HS.out hft fun h0=> ?_
    rw [HLQ.out] at h0 ⊢
    have :=h h0
    have e2:(ds.take q).getD (q-1) (0,0)=ds.getD (q-1) (0,0):=by simp only [List.getD,List.getElem?_take,show q-1<q by omega,if_true]
    rw [e2];exact this)
   have MERGE:0<q→f≤(ds.getD (q-1) (0,0)).2→Hid ((ds.set (q-1) ((ds.getD (q-1) (0,0)).1,max (ds.getD (q-1) (0,0)).2 t)).length=n∧Spn.Join d (k+1) ((ds.set (q-1) ((ds.getD (q-1) (0,0)).1,max (ds.getD (q-1) (0,0)).2 t)).take q)∧ ∀j,k+1≤j→j<n→(ds.set (q-1) ((ds.getD (q-1) (0,0)).1,max (ds.getD (q-1) (0,0)).2 t)).getD j (0,0)=d.getD j (0,0)):=fun h0 h=>Lib.hid (by
    have hll:=HL.out
    obtain ⟨q',rfl⟩: ∃q',q=q'+1:=⟨q-1,by omega⟩
    rw [show q'+1-1=q' by omega] at h ⊢
    obtain ⟨⟨a,b⟩,hab⟩: ∃s:Int×Int,ds.getD q' (0,0)=s:=⟨_,rfl⟩
    rw [hab] at h ⊢
    have e:(ds.set q' (a,max b t)).take (q'+1)=ds.take q'++[(a,max b t)]:=by
     rw [Spn.take_snoc _ q' (0,0) (by rw [List.length_set];omega),getD_set ds q' q' _ (by omega),if_pos rfl,List.take_set_of_le (Nat.le_refl _)]
    have e0:ds.take (q'+1)=ds.take q'++[(a,b)]:=by rw [Spn.take_snoc _ q' (0,0) (by omega),hab]
    refine ⟨by rw [List.length_set];exact HL.out, ?_,fun j h1 h2=>by rw [getD_set ds q' j _ (by omega),if_neg (by omega)];exact HSM.out j (by omega) h2⟩
    simp only
    rw [e]
    have hj:=HJN.out
    rw [e0] at hj
    exact hj.merge HD.out (by have :=HN.out;omega) HS.out hft h)
   have HP:=Lib.hid PUSH
   have HM:=Lib.hid MERGE
   clear PUSH MERGE hl hj hsame hlq HJ
   rcases Nat.eq_zero_or_pos q with hq|hq
   ·subst hq
    have hp:=HP.out (fun h=>absurd h (by omega))
    have hq0:0<ds.length:=by have :=HL.out;omega
    as_aux_lemma=>
    go_wp2_with fail
    go_quiet (fail)
    go_wp2_with (at_builtin;refine wp_append_room _ rfl _ _ rfl g 0 cap ds rfl (((hR.alloc _).alloc _).drewN _) (by have :=HL.out;omega) (by omega) (wr.heap.size+1) f t rfl (cell_new0 (by simp)) (cell_new1 (by simp)) ?_)
    go_roundw
    case rel=>exact ⟨k+1,0+1,ds.set 0 (f,t),rfl,by go_num,by omega,by omega,(((hR.alloc _).drewN _).set0 hq0 f t).alloc _,hp,Lib.hid fun B h1 h2=>below_push (HB.out B h1 h2) h2 h1⟩
    case measure=>simp [intOf];omega
   ·obtain ⟨-,s1, -,s3⟩:=hR.2 (q-1) (by have :=HL.out;omega)
    obtain ⟨b0,HB0⟩: ∃b,Hid ((ds.getD (q-1) (0,0)).2=b):=⟨_,Lib.hid rfl⟩
    rw [HB0.out] at s1
    have HP0:=HP.out
    have HM0:=HM.out hq
    rw [HB0.out] at HP0 HM0
    have q1:(1:Int)≤q:=by omega
    have q2:(0:Int)≤(q:Int)-1:=by omega
    have q3:decide ((0:Int)≤(q:Int)-1)=true:=by simp;omega
    have q4:((q:Int)-1).toNat=q-1:=by omega
    have q5:(q:Int)≤100000:=by omega
    have q6:decide ((1:Int)≤(q:Int))=true:=by simp;omega
    have q7:decide (1≤q)=true:=by simp;omega
    have q8:(q:Int)-1<q:=by omega
    by_cases hm:f≤b0
    ·have hd1:decide (f≤b0)=true:=by simpa using hm
     have hp:=HM0 hm
     clear HP0 HM0 HP HM
     as_aux_lemma=>
     go_wp2_with fail
     go_quiet (fail)
     go_wp2_with fail
     refine wp_region_still_tail 12 (by kernel_rfl) (by kernel_rfl) ?_
     simp only [List.take_succ_cons,List.take_zero,List.drop_succ_cons,List.drop_zero]
     obtain ⟨w2,hw2⟩: ∃w2,w2=World.drew ((wr.alloc (.cells #[.int .i64 f,.int .i64 t] 82)).drewN nq):=⟨_,rfl⟩
     have R2:RowAt w2 g ds:=by rw [hw2];exact (hR.alloc _).drewN nq
     have B2: ∀B,B≤g→B≤w.heap.size→Below B w w2:=fun B h1 h2=>by
      rw [hw2]
      exact (below_drewN ((HB.out B h1 h2).alloc (Nat.le_trans h2 (HB.out B h1 h2).size) _) nq).drew
     have X2:w2.cell? ⟨wr.heap.size,1,none⟩=some (.int .i64 t):=by rw [hw2];exact cell_new1 rfl
     have s1':w2.cell? ⟨g,(q-1)*2+1,none⟩=some (.int .i64 b0):=by have :=(R2.2 (q-1) (by have :=HL.out;omega)).2.1;rw [HB0.out] at this;exact this
     have s3':w2.frozen? ⟨g,(q-1)*2+1,none⟩=false:=(R2.2 (q-1) (by have :=HL.out;omega)).2.2.2
     change wpStill _ _ (World.drew ((wr.alloc _).drewN nq)) (fun a'=>wpList _ _ _ _ a' (World.drew ((wr.alloc _).drewN nq))) _ _
     rw [←hw2]
     have HB2:=Lib.hid B2
     clear hw2 B2 s1 s3
     iterate 12 still_step
     refine wpStill_nil ?_
     go_wp2_with fail
     go_roundw
     case rel=>exact ⟨k+1,q,ds.set (q-1) ((ds.getD (q-1) (0,0)).1,_),rfl,by go_num,by omega,by omega,R2.set2 (q:=q-1) (by have :=HL.out;omega) _,hp,Lib.hid fun B h1 h2=>(HB2.out B h1 h2).setCell h1 _⟩
     case measure=>simp [intOf];omega
    ·have hd1:decide (f≤b0)=false:=by simpa using hm
     have hp:=HP0 (fun _=>by omega)
     clear HP0 HM0 HP HM
     as_aux_lemma=>
     go_wp2_with fail
     go_quiet (fail)
     go_wp2_with (at_builtin;refine wp_append_room _ rfl _ _ rfl g q cap ds rfl (((hR.alloc _).alloc _).drewN _) (by have :=HL.out;omega) (by omega) (wr.heap.size+1) f t rfl (cell_new0 (by simp)) (cell_new1 (by simp)) ?_)
     go_roundw
     case rel=>exact ⟨k+1,q+1,ds.set q (f,t),rfl,by go_num,by omega,by omega,(((hR.alloc _).drewN _).set_ (by have :=HL.out;omega) f t).alloc _,hp,Lib.hid fun B h1 h2=>below_push (HB.out B h1 h2) h2 h1⟩
     case measure=>simp [intOf];omega
  ·obtain rfl:k=n:=by omega
   obtain ⟨hl,hj, -⟩:=HJ.out
   have hfin:=hj.final HN.out.symm
   have hsp:=hR.spans q
   have hlq:(ds.take q).length=q:=by rw [List.length_take];omega
   have HF:=Lib.hid hfin
   have HLQ:=Lib.hid hlq
   have HSP:=Lib.hid hsp
   clear hfin hl hj HJ hlq hsp
   go_wp2_with fail
   go_ret
   exact ⟨ds.take q,by rw [HLQ.out];rfl,HSP.out,HF,fun B h1 h2=>HB.out B h1 h2⟩
def encS (x:Int×Int):List Value:=[.int .i64 x.1,.int .i64 x.2]
open Go.Shelf Go.Lib Go.Sort in
set_option maxHeartbeats 1000000 in
theorem closure_any (x y:Int×Int) (W:World):Calls Tryz.prog 127 #[.agg #[.int .i64 x.1,.int .i64 x.2],.agg #[.int .i64 y.1,.int .i64 y.2]] W fun e w'=>e= .returned (.int .i64 (Lib.compareInt x.1 y.1))∧ ∃q os',w'=grow (W.drewN q) os':=by
 have hcon:=fun W'=>AnyG.cmp_Compare_int Tryz.cmpInt x.1 y.1 W'
 change ∀W',Calls Tryz.prog 128 _ _ _ at hcon
 generalize Lib.compareInt x.1 y.1=r at hcon ⊢
 go_enter Tryz.func127,Tryz.ntmps127
 go_wp2_with (go_at_call 128;refine (hcon _).mono ?_;rintro e w' ⟨rfl,rfl⟩)
 go_ret
 exact ⟨rfl,0,_,by rw [alloc_eq_grow,alloc_eq_grow,grow_grow];rfl⟩
open Go.Shelf Go.Lib Go.Sort in
theorem closure_lays (blk off size:Nat) (w:World):CmpLays Tryz.prog 127 #[] encS 2 (fun x y=>Lib.compareInt x.1 y.1) blk off size w:=
 fun _ _ _ _ x y=>closure_any x y _
open Go.Shelf Go.Lib Go.Sort in
theorem lt_from (x y:Int×Int):ltOf (fun x y:Int×Int=>Lib.compareInt x.1 y.1) x y=decide (x.1<y.1):=by
 unfold ltOf Lib.compareInt
 by_cases h1:x.1<y.1
 ·simp [h1]
 ·by_cases h2:y.1<x.1<;>simp [h1,h2]
open Go.Shelf Go.Lib Go.Sort in
theorem swo_from:SWO (ltOf fun x y:Int×Int=>Lib.compareInt x.1 y.1) where
 irrefl x:=by rw [lt_from];simp
 trans x y z h1 h2:=by rw [lt_from] at *;simp at *;omega
 ntrans x y z h1 h2:=by rw [lt_from] at *;simp at *;omega
open Go.Shelf Go.Lib Go.Sort in
theorem holds_of {w:World} {g:Nat} {ys:Spn.L} (h:RowAt w g ys):HoldsK encS 2 w g 0 ys.toArray:=by
 intro j hj
 rw [size_flatK] at hj
 have hj':j<ys.length*2:=by simpa using hj
 have e:=get_flatK encS 2 ys.toArray j hj
 have hk:j/2<ys.length:=by omega
 obtain ⟨a,b,c,d⟩:=h.2 (j/2) hk
 have e2:ys.toArray[j/2]! =ys.getD (j/2) (0,0):=by simp [List.getD,List.getElem?_eq_getElem hk,getElem!_pos,hk]
 rw [e,e2,Nat.zero_add]
 have hjm:j%2=0∨j%2=1:=by omega
 rcases hjm with hm|hm
 ·rw [hm]
  rw [show j/2*2=j by omega] at a c
  exact ⟨a,c⟩
 ·rw [hm]
  rw [show j/2*2+1=j by omega] at b d
  exact ⟨b,d⟩
open Go.Shelf Go.Lib Go.Sort in
theorem of_holds {w:World} {g:Nat} {d:Array (Int×Int)} (hg:g<w.heap.size) (h:HoldsK encS 2 w g 0 d):RowAt w g d.toList:=by
 refine ⟨hg,fun k hk=> ?_⟩
 have hk':k<d.size:=by simpa using hk
 have a:=h.cell (i:=k) (c:=0) hk' (by omega)
 have b:=h.cell (i:=k) (c:=1) hk' (by omega)
 have e2:d[k]! =d.toList.getD k (0,0):=by simp [List.getD,List.getElem?_eq_getElem hk,getElem!_pos,hk']
 rw [e2,Nat.zero_add,Nat.add_zero] at a
 rw [e2,Nat.zero_add] at b
 exact ⟨a.1,b.1,a.2,b.2⟩
open Go.Shelf Go.Lib Go.Sort in
theorem below_sorted {w:World} {g n:Nat} {d:Array (Int×Int)} {os:Array Obj} {B:Nat} (hB:B≤g) (hBw:B≤w.heap.size):RowKit.Below B w (sortWorldK encS 2 w g 0 n d os):=by
 refine ⟨rfl,rfl,rfl,by simp [sortWorldK,grow,putRowK,putRow,mapBlock,ahead],fun k hk=> ?_⟩
 show ((w.heap.modify g _)++os)[k]? =w.heap[k]?
 rw [Array.getElem?_append_left (by simp;omega),Array.getElem?_modify,if_neg (by omega)]
def Sorted (ys:Spn.L) (g:Nat) (w:World) (e:Ending) (w':World):Prop:=
 e= .returned (.tuple #[])∧ ∃d:Spn.L,RowAt w' g d∧Hid (d.length=ys.length∧Spn.AscF d∧ ∀s,s∈d↔s∈ys)∧ ∀B,B≤g→B≤w.heap.size→RowKit.Below B w w'
open Go.Shelf Go.Lib Go.Sort in
theorem sort_any (g cap:Nat) (ys:Spn.L) (w:World) (hR:RowAt w g ys) (hn:ys.length≤100000):
  Calls Tryz.prog 126 #[.slice (some ⟨g,0,none⟩) ys.length cap,.func (.func 127) #[] #[]] w (Sorted ys g w):=by
 have eg: ∀args w,(callFunc 127 args).run Tryz.prog w= .ok (.enter 127 args) w:=enters_of Tryz.func127 (by kernel_rfl) rfl
 have hcon:=AnyQ.slices_SortFunc Tryz.sortSpan 2 Tryz.isAgg82 Tryz.sizeOf82 encS (fun _=>rfl) (fun x v hv=>by simp [encS] at hv;rcases hv with rfl|rfl<;>rfl) (fun x y=>Lib.compareInt x.1 y.1) swo_from 127 #[] g 0 cap ys.toArray w eg (closure_lays g 0 _ w) (holds_of hR) hR.1 (by simp;omega)
 change Calls Tryz.prog 126 _ _ _ at hcon
 refine hcon.mono ?_
 rintro e w' ⟨rfl,d',n,os,hp,hs,rfl⟩
 have hsz:d'.size=ys.length:=by simpa using hp.1
 have hH:HoldsK encS 2 (sortWorldK encS 2 w g 0 n d' os) g 0 d':=
  holdsK_grow encS 2 _ os g 0 d' (by simpa [putRowK,putRow,mapBlock,ahead] using hR.1) (holdsK_putRowK encS 2 _ g 0 ys.toArray d' (holds_of hR) (by simpa using hsz))
 have hb:=below_sorted (w:=w) (g:=g) (n:=n) (d:=d') (os:=os) (B:=g) (Nat.le_refl _) (Nat.le_of_lt hR.1)
 refine ⟨rfl,d'.toList,of_holds (Nat.lt_of_lt_of_le hR.1 hb.size) hH,Lib.hid ⟨by simpa using hsz,fun i j hij hj=> ?_,fun s=> ?_⟩,fun B h1 h2=>below_sorted h1 h2⟩
 ·have hj':j<d'.size:=by simpa using hj
  have h:=hs i j (Nat.zero_le _) hij (by simpa using (hsz▸hj':j<ys.length))
  rw [lt_from] at h
  have e1:d'[j]! =d'.toList.getD j (0,0):=by simp [List.getD,List.getElem?_eq_getElem hj,getElem!_pos,hj']
  have hi':i<d'.size:=by omega
  have e2:d'[i]! =d'.toList.getD i (0,0):=by simp [List.getD,getElem!_pos,hi']
  rw [e1,e2] at h
  simpa using h
 ·have h:=hp.2.2
  have e1:d'.extract 0 ys.toArray.size=d':=by simp [←hsz]
  rw [e1] at h
  simp at h
  exact h.mem_iff
end Spw
end Go.Proofs.YtfamcohbnoibaaaGreatDoor
namespace Go.Proofs.YtfamcohbnoibaaaGreatDoor
namespace Spw
open Go.RowKit
theorem Own.row {w:World} {B:Nat} {v:Value} {ys:Spn.L} (h:Own w B v ys):(v= .slice none 0 0∧ys=[])∨ ∃g cap,v= .slice (some ⟨g,0,none⟩) ys.length cap∧B≤g∧RowAt w g ys∧ys.length≤cap:=by
 rcases h.2 with ⟨rfl,h0⟩|⟨g,cap,cur,rfl,hb,hg,h1,h2,h3,h4⟩
 ·exact .inl ⟨rfl,List.eq_nil_of_length_eq_zero h0⟩
 ·have hh:w.ownsRow B 82 2 (.slice (some ⟨g,0,none⟩) ys.length cap) ys.length (enc ys):=⟨h.1,.inr ⟨g,cap,cur,rfl,hb,hg,h1,h2,h3,h4⟩⟩
  have hlt:g<w.heap.size:=by
   rcases Nat.lt_or_ge g w.heap.size with hlt|hge
   ·exact hlt
   ·rw [Array.getElem?_eq_none hge] at hg;cases hg
  refine .inr ⟨g,cap,rfl,hb,⟨hlt,fun k hk=> ?_⟩,h1⟩
  have e:=enc_get ys k hk
  exact ⟨(hh.cellAt (k*2) (by omega)).trans e.1,(hh.cellAt (k*2+1) (by omega)).trans e.2,hh.frozenAt _,hh.frozenAt _⟩
set_option maxHeartbeats 1000000 in
theorem join_nil (w:World):Calls Tryz.prog 129 #[.slice none 0 0] w fun e w'=>e= .returned (.slice none 0 0)∧w=w':=by
 go_enter Tryz.func129,Tryz.ntmps129
 go_wp2_with fail
 refine wp_loop_rounds 1 ?_
 rw [rounds_succ]
 go_wp2_with fail
 go_ret
 exact ⟨rfl,rfl⟩
theorem sort_nil (w:World):Calls Tryz.prog 126 #[.slice none 0 0,.func (.func 127) #[] #[]] w fun e w'=>e= .returned (.tuple #[])∧w=w':=by
 have h:=AnyF.slices_SortFunc_none Tryz.sortSpan none 0 (.func (.func 127) #[] #[]) w
 change Calls Tryz.prog 126 _ _ _ at h
 exact h.mono fun _ _ ⟨a,b⟩=>⟨a,b.symm⟩
theorem two_allocs' {w wr w2:World} {o1 o2:Obj} (hW:Below w.heap.size w wr) (h2:Below w.heap.size ((wr.alloc o1).alloc o2) w2):Below w.heap.size w w2:=
 ((hW.alloc hW.size _).alloc (by have :=hW.size;simp;omega) _).trans h2
set_option maxHeartbeats 8000000 in
set_option maxRecDepth 100000 in
theorem Normal_any (A:Option Addr) (n c:Nat) (xs:Spn.L) (w:World) (hA:SpansAt w A xs) (hn:xs.length=n) (hm:n≤9223372036854775807):
  Calls Tryz.prog 81 #[.slice A n c] w fun e w'=> ∃r er,Hid (Spn.NR xs r er)∧Gives r er w e w':=by
 by_cases hl:(4096:Int)<n
 ·have hr:Spn.NR xs [] 5:= .inl ⟨by omega,rfl,rfl⟩
  have HR:=Lib.hid hr
  clear hn hr
  go_enter Tryz.func81,Tryz.ntmps81
  go_wp2_with fail
  go_ret2
  exact ⟨[],5,HR,Gives.none_ (Below.refl _ _)⟩
 ·have hl2:(n:Int)≤4096:=by omega
  have HN:=Lib.hid hn
  clear hn hl
  go_enter Tryz.func81,Tryz.ntmps81
  go_wp2_with fail
  go_loopw [4,12] (fun v i wr=> ∃k:Nat,k≤n∧i= .int .i64 k∧Own wr w.heap.size v (Spn.parts (xs.take k))∧Hid (¬Spn.Bad (xs.take k))∧Below w.heap.size w wr) (fun _ i _=>n-(intOf i).toNat)
  case atStart=>exact ⟨0,Nat.zero_le _,rfl,Own.nil_ _ _,Lib.hid Spn.bad_nil,Below.refl _ _⟩
  case round=>
   obtain ⟨k,hk,rfl,hO,HB,hW⟩:=hrel
   by_cases hlt:k<n
   ·obtain ⟨b,off,rfl,hb,hc⟩:=hA (by have :=HN.out;omega)
    obtain ⟨c0,c1⟩:=hc k (by have :=HN.out;omega)
    have c0':=(bcell hW _ _ hb).trans c0
    have c1':=(bcell hW _ _ hb).trans c1
    clear hc c0 c1
    obtain ⟨⟨f,t⟩,HS⟩: ∃s:Int×Int,Hid (xs.getD k (0,0)=s):=⟨_,Lib.hid rfl⟩
    rw [HS.out] at c0' c1'
    simp only at c0' c1'
    have hT:Spn.parts (xs.take (k+1))=Spn.parts (xs.take k)++(if f<t then [(f,t)] else []):=by rw [Spn.take_snoc xs k (0,0) (by have :=HN.out;omega),HS.out,Spn.parts_snoc]
    have hpl:=Spn.parts_len (xs.take k)
    have hlk:(xs.take k).length=k:=by rw [List.length_take];have :=HN.out;omega
    rw [hlk] at hpl
    have hk1:k<xs.length:=by have :=HN.out;omega
    clear hlk
    have hwz:=hW.size
    by_cases p1:t≤f
    ·have hB2:¬Spn.Bad (xs.take (k+1)):=Spn.bad_take hk1 HB.out (by rw [HS.out];rintro ⟨h, -⟩;simp only at h;omega)
     rw [if_neg (by omega),List.append_nil] at hT
     rw [←hT] at hO
     have HB2:=Lib.hid hB2
     clear hB2 hT
     go_wp2_with fail
     go_roundw
     case rel=>exact ⟨k+1,by omega,by go_num,hO.alloc _,HB2,hW.alloc hW.size _⟩
     case measure=>simp [intOf];omega
    ·by_cases p2:f<0∨8589934592<t
     ·have hr:Spn.NR xs [] 1:= .inr (.inl ⟨by have :=HN.out;omega,⟨_,Spn.getD_mem hk1,by rw [HS.out];exact ⟨by simp only;omega,p2⟩⟩,rfl,rfl⟩)
      have HR:=Lib.hid hr
      clear hr hT
      by_cases p3:f<0
      all_goals
       go_wp2_with fail
       go_ret2
       exact ⟨[],1,HR,Gives.none_ (hW.alloc hW.size _)⟩
     ·have hB2:¬Spn.Bad (xs.take (k+1)):=Spn.bad_take hk1 HB.out (by rw [HS.out];rintro ⟨-,h⟩;exact p2 h)
      have HB2:=Lib.hid hB2
      rw [if_pos (by omega)] at hT
      have p4:¬f<0:=by omega
      have p5:¬8589934592<t:=by omega
      obtain ⟨ps,HP⟩: ∃ps,Hid (Spn.parts (xs.take k)=ps):=⟨_,Lib.hid rfl⟩
      rw [HP.out] at hO hT hpl
      have HT:=Lib.hid hT
      have hpl9:ps.length≤1000000:=by omega
      clear hB2 hT p2
      go_wp2_with (at_builtin;refine wp_append_span _ rfl _ _ rfl w.heap.size _ ps rfl ((hO.alloc _).alloc _) (wr.heap.size+1) f t rfl (cell_new0 (by simp)) (cell_new1 (by simp)) hpl9 (by simp;omega) ?_;intro gg cap w3 hO3 hB3 _ _)
      have hB4:=two_allocs' hW hB3
      rw [←HT.out] at hO3
      go_wp2_with fail
      go_roundw
      case rel=>exact ⟨k+1,by omega,by go_num,hO3,HB2,hB4⟩
      case measure=>simp [intOf];omega
   ·have hkn:xs.take k=xs:=List.take_of_length_le (by have :=HN.out;omega)
    rw [hkn] at hO
    have hbad:=HB.out
    rw [hkn] at hbad
    have HBAD:=Lib.hid hbad
    have hpl:=Spn.parts_len xs
    have hpn:(Spn.parts xs).length≤100000:=by have :=HN.out;omega
    clear hkn hbad hpl HB
    have fin: ∀r,(Spn.Chain r∧ ∀x,Spn.cov r x↔Spn.cov (Spn.parts xs) x)→Hid (Spn.NR xs r 0):=fun r h=>Lib.hid (.inr (.inr ⟨by have :=HN.out;omega,HBAD.out,⟨h.1,fun x=>by rw [h.2 x];exact Spn.cov_parts xs x⟩,rfl⟩))
    have FIN:=Lib.hid fin
    clear fin
    rcases hO.row with ⟨rfl,he⟩|⟨g,cap,rfl,hg,hR,hcap⟩
    ·have hr:=FIN.out [] ⟨Spn.chain_nil,fun x=>by rw [he]⟩
     clear he hO hpn
     go_wp2_with fail
     refine (sort_nil wr).mono ?_
     rintro e w' ⟨rfl,rfl⟩
     go_wp2_with fail
     refine (join_nil wr).mono ?_
     rintro e w' ⟨rfl,rfl⟩
     go_wp2_with fail
     go_ret2
     exact ⟨[],0,hr,Gives.none_ hW⟩
    ·have S1:=sort_any g cap (Spn.parts xs) wr hR hpn
     obtain ⟨L,HL⟩: ∃L,Hid ((Spn.parts xs).length=L):=⟨_,Lib.hid rfl⟩
     rw [HL.out] at S1 hpn hcap ⊢
     have HS1:=Lib.hid S1
     clear S1 hO hR
     go_wp2_with fail
     refine HS1.out.mono ?_
     rintro e w2 ⟨rfl,d,R2,HD,B2⟩
     have J1:=join_any g L cap d w2 R2 (by rw [HD.out.1];exact HL.out) hcap hpn HD.out.2.1 (fun s hs=>(Spn.mem_parts.1 ((HD.out.2.2 s).1 hs)).2)
     have W2:=hW.trans (B2 _ hg hW.size)
     clear B2 R2 HS1
     go_wp2_with fail
     refine J1.mono ?_
     rintro e w3 ⟨set,rfl,SP,HF,B3⟩
     have hr:=FIN.out set ⟨HF.out.1,fun x=>by
      rw [HF.out.2 x]
      constructor
      ·rintro ⟨s,hs,h⟩;exact ⟨s,(HD.out.2.2 s).1 hs,h⟩
      ·rintro ⟨s,hs,h⟩;exact ⟨s,(HD.out.2.2 s).2 hs,h⟩⟩
     have W3:=W2.trans (B3 _ hg W2.size)
     clear J1 B3
     go_wp2_with fail
     go_ret2
     exact ⟨set,0,hr,_,_,rfl,SP,W3⟩
def RC (keep:Bool→Bool→Bool) (a b r:Spn.L) (er:Int):Prop:=
 (Spn.vld a=true∧Spn.vld b=true∧ ∃s,Spn.Comb keep a b s∧r=(if (s.length:Int)≤4096 then s else [])∧er=(if (s.length:Int)≤4096 then 0 else 5))∨((Spn.vld a=false∨Spn.vld b=false)∧r=[]∧er=8)
theorem RC.uniq {keep:Bool→Bool→Bool} {a b r s:Spn.L} {e f:Int} (h:RC keep a b r e) (h':RC keep a b s f):r=s∧e=f:=by
 rcases h with ⟨h1,h2,x,hx,rfl,rfl⟩|⟨h1,rfl,rfl⟩<;>rcases h' with ⟨h1',h2',x',hx',rfl,rfl⟩|⟨h1',rfl,rfl⟩
 ·rw [hx.uniq hx'];exact ⟨rfl,rfl⟩
 ·rcases h1' with h|h
  ·rw [h1] at h;cases h
  ·rw [h2] at h;cases h
 ·rcases h1 with h|h
  ·rw [h1'] at h;cases h
  ·rw [h2'] at h;cases h
 ·exact ⟨rfl,rfl⟩
def Combined (keep:Bool→Bool→Bool) (xs ys:Spn.L) (w:World) (e:Ending) (w':World):Prop:= ∃r er,Hid (RC keep xs ys r er)∧GivesK r er w e w'
set_option maxHeartbeats 2000000 in
theorem combine_any (A B:Option Addr) (n m c d g:Nat) (keep:Bool→Bool→Bool) (xs ys:Spn.L) (w:World) (hA:SpansAt w A xs) (hB:SpansAt w B ys) (hn:xs.length=n) (hm:ys.length=m) (h1:n≤9223372036854775807) (h2:m≤9223372036854775807)
  (hk:keep false false=false) (eg: ∀args w,(callFunc g args).run Tryz.prog w= .ok (.enter g args) w)
  (hg: ∀x y W,Calls Tryz.prog g #[.bool x,.bool y] W fun e w'=>e= .returned (.bool (keep x y))∧W=w'):
  Calls Tryz.prog 82 #[.slice A n c,.slice B m d,.func (.func g) #[] #[]] w (Combined keep xs ys w):=by
 have V1:=Valid_any A n c xs w hA hn h1
 have V2:=fun W h=>Valid_any B m d ys W h hm h2
 by_cases hx:Spn.vld xs=true
 ·by_cases hy:Spn.vld ys=true
  ·refine (combine_set A B n m c d g keep xs ys w hA hB hn hm hx hy hk eg hg).mono ?_
   rintro e w' ⟨r,HC,hG⟩
   exact ⟨_,_,Lib.hid (.inl ⟨hx,hy,r,HC.out,rfl,rfl⟩),hG⟩
  ·have hy':Spn.vld ys=false:=by simpa using hy
   have hr:RC keep xs ys [] 8:= .inr ⟨.inr hy',rfl,rfl⟩
   have HR:=Lib.hid hr
   rw [hx] at V1
   rw [hy'] at V2
   have HV:=Lib.hid V2
   clear hn hm hx hy hy' hk hg hr V2
   go_enter Tryz.func82,Tryz.ntmps82
   go_wp2_with fail
   refine V1.mono ?_
   rintro e w1 ⟨rfl,b1⟩
   go_wp2_with fail
   refine (HV.out w1 (hB.below b1)).mono ?_
   rintro e w2 ⟨rfl,b2⟩
   go_wp2_with fail
   go_ret2
   exact ⟨[],8,HR,GivesK.none_ (bstep b1 b2)⟩
 ·have hx':Spn.vld xs=false:=by simpa using hx
  have hr:RC keep xs ys [] 8:= .inr ⟨.inl hx',rfl,rfl⟩
  have HR:=Lib.hid hr
  rw [hx'] at V1
  clear hn hm hx hx' hk hg hr V2
  go_enter Tryz.func82,Tryz.ntmps82
  go_wp2_with fail
  refine V1.mono ?_
  rintro e w1 ⟨rfl,b1⟩
  go_wp2_with fail
  go_ret2
  exact ⟨[],8,HR,GivesK.none_ b1⟩
theorem Meet_keep (x y:Bool) (W:World):Calls Tryz.prog 84 #[.bool x,.bool y] W fun e w'=>e= .returned (.bool (Spn.kind 2 x y))∧W=w':=by
 rcases x with _|_<;>rcases y with _|_
 all_goals
  go_enter Tryz.func84,Tryz.ntmps84
  go_wp2_with fail
  go_ret
  exact ⟨rfl,rfl⟩
set_option maxHeartbeats 1000000 in
theorem Meet_any (A B:Option Addr) (n m c d:Nat) (xs ys:Spn.L) (w:World) (hA:SpansAt w A xs) (hB:SpansAt w B ys) (hn:xs.length=n) (hm:ys.length=m) (h1:n≤9223372036854775807) (h2:m≤9223372036854775807):
  Calls Tryz.prog 52 #[.slice A n c,.slice B m d] w (Combined (Spn.kind 2) xs ys w):=by
 have C:=combine_any A B n m c d 84 (Spn.kind 2) xs ys w hA hB hn hm h1 h2 (Spn.kind_no _) (enters_of Tryz.func84 (by kernel_rfl) rfl) Meet_keep
 clear hn hm hA hB
 go_enter Tryz.func52,Tryz.ntmps52
 go_wp2_with fail
 refine C.mono ?_
 rintro e w1 ⟨r,er,HR,A',c',rfl,hS,hB⟩
 go_wp2_with fail
 go_ret2
 exact ⟨r,er,HR,A',c',rfl,hS,hB⟩
theorem Minus_keep (x y:Bool) (W:World):Calls Tryz.prog 83 #[.bool x,.bool y] W fun e w'=>e= .returned (.bool (Spn.kind 3 x y))∧W=w':=by
 rcases x with _|_<;>rcases y with _|_
 all_goals
  go_enter Tryz.func83,Tryz.ntmps83
  go_wp2_with fail
  go_ret
  exact ⟨rfl,rfl⟩
set_option maxHeartbeats 1000000 in
theorem Minus_any (A B:Option Addr) (n m c d:Nat) (xs ys:Spn.L) (w:World) (hA:SpansAt w A xs) (hB:SpansAt w B ys) (hn:xs.length=n) (hm:ys.length=m) (h1:n≤9223372036854775807) (h2:m≤9223372036854775807):
  Calls Tryz.prog 51 #[.slice A n c,.slice B m d] w (Combined (Spn.kind 3) xs ys w):=by
 have C:=combine_any A B n m c d 83 (Spn.kind 3) xs ys w hA hB hn hm h1 h2 (Spn.kind_no _) (enters_of Tryz.func83 (by kernel_rfl) rfl) Minus_keep
 clear hn hm hA hB
 go_enter Tryz.func51,Tryz.ntmps51
 go_wp2_with fail
 refine C.mono ?_
 rintro e w1 ⟨r,er,HR,A',c',rfl,hS,hB⟩
 go_wp2_with fail
 go_ret2
 exact ⟨r,er,HR,A',c',rfl,hS,hB⟩
end Spw
end Go.Proofs.YtfamcohbnoibaaaGreatDoor
