import Derived.Test.YtfamcohbnoibaaaGreatDoorKZne
set_option linter.unusedVariables false
set_option linter.unusedSimpArgs false
set_option maxRecDepth 100000
namespace Go.Proofs.YtfamcohbnoibaaaGreatDoor
open Go.RowKit
theorem offAt_bd {off:Int} {ts:Zn.L} (x:Int) (h:Zn.okO off=true) (h2: ∀y∈ts,Zn.okO y.2=true):Zn.okO (Zn.offAt off ts x)=true:=by
 induction ts generalizing off with
 |nil=>exact h
 |cons y t ih=>
  obtain ⟨a,o⟩:=y
  rw [Zn.offAt]
  split
  ·exact ih (h2 (a,o) (by simp)) (fun y hy=>h2 y (by simp [hy]))
  ·exact h
def locV (off:Int) (ts:Zn.L) (er x:Int):Int×Int:=if offE er x≠0 then (0,0) else Zn.toL (x+offV off ts er x)
set_option maxHeartbeats 4000000 in
theorem toLocal_is {off:Int} {rs:List Zn.Rule} {ts:Zn.L} {er:Int} (h:Zn.trans off rs=(ts,er)) (s:ByteArray) (A:Option Addr) (n c:Nat) (x:Int) (w:World) (hz:ZIn w A n rs) (ho:I64 off):
  Calls Tryz.prog 73 #[.agg #[.string s,.int .i64 off,.slice A n c],.int .i64 x] w fun e w'=>e= .returned (.tuple #[.agg #[.int .i64 (locV off ts er x).1,.int .i64 (locV off ts er x).2],.int .i64 (offE er x)])∧Below w.heap.size w w':=by
 have C:=offAt_is h s A n c x _ ((hz.alloc (.cells #[.string s,.int .i64 off,.slice A n c] 71)).alloc (.cells #[.int .i64 0,.int .i64 0] 36)) ho
 by_cases he:offE er x=0
 ·have hlv:locV off ts er x=Zn.toL (x+offV off ts er x):=by unfold locV;rw [if_neg (by simpa using he)]
  have hb:0≤x∧x≤8589934592∧ -64800≤offV off ts er x∧offV off ts er x≤64800:=by
   unfold offE at he
   by_cases h0:er=0
   ·subst h0
    by_cases hx:x<0∨8589934592<x
    ·simp [hx] at he
    ·obtain ⟨k1,k2,k3,k4,k5,k6,k7,k8⟩:=Zn.trans_ok h
     have :=offAt_bd x k1 k8
     rw [Zn.okO_iff] at this
     have hv:offV off ts 0 x=Zn.offAt off ts x:=by unfold offV;simp [hx]
     rw [hv];omega
   ·simp [h0] at he
  rw [he] at C ⊢
  generalize offV off ts er x=o at C hlv hb
  obtain ⟨b1,b2,b3,b4⟩:=hb
  have q1:0≤x+o+86400:=by omega
  have hl1:(locV off ts er x).1=(x+o+86400)/86400-1:=by rw [hlv];unfold Zn.toL;simp only;omega
  have hl2:(locV off ts er x).2=(x+o+86400)%86400:=by rw [hlv];unfold Zn.toL;simp only;omega
  rw [hl1,hl2]
  have HC:=Lib.hid C
  clear hlv C hl1 hl2 hz h he
  go_enter Tryz.func73,Tryz.ntmps73
  go_wp2_with fail
  refine HC.out.mono ?_
  rintro e w1 ⟨rfl,hb⟩
  have B:=BlkAt.after (BlkAt.new (w.alloc (.cells #[.string s,.int .i64 off,.slice A n c] 71)) #[.int .i64 0,.int .i64 0] 36) hb
  rw [show (w.alloc (.cells #[.string s,.int .i64 off,.slice A n c] 71)).heap.size=w.heap.size+1 by simp] at B
  have e0:=BlkAt.cell B (i:=0) rfl
  have e1:=BlkAt.cell B (i:=1) rfl
  have f0:=BlkAt.free B 0
  have f1:=BlkAt.free B 1
  have hzz:=BlkAt.lt_ B
  have HB:=Lib.hid (two_boxes hb)
  clear B hb
  go_wp2_with fail
  refine bodyPost_ret (v:= .tuple #[.agg #[.int .i64 ((x+o+86400)/86400-1),.int .i64 ((x+o+86400)%86400)],.int .i64 0]) (by simp [results,Tryz.results73,go_sem,e0,e1,f0,f1,hzz]) rfl ⟨rfl, ?_⟩
  exact (HB.out.setCell (by simp) _).setCell (by simp) _
 ·have hlv:locV off ts er x=(0,0):=by unfold locV;rw [if_pos he]
  rw [hlv]
  have hne:(offE er x !=0)=true:=by simpa using he
  generalize offE er x=ee at C hne ⊢
  generalize offV off ts er x=o at C
  have HC:=Lib.hid C
  clear hlv C hz h he
  go_enter Tryz.func73,Tryz.ntmps73
  go_wp2_with fail
  refine HC.out.mono ?_
  rintro e w1 ⟨rfl,hb⟩
  have B:=BlkAt.after (BlkAt.new (w.alloc (.cells #[.string s,.int .i64 off,.slice A n c] 71)) #[.int .i64 0,.int .i64 0] 36) hb
  rw [show (w.alloc (.cells #[.string s,.int .i64 off,.slice A n c] 71)).heap.size=w.heap.size+1 by simp] at B
  have e0:=BlkAt.cell B (i:=0) rfl
  have e1:=BlkAt.cell B (i:=1) rfl
  have f0:=BlkAt.free B 0
  have f1:=BlkAt.free B 1
  have hzz:=BlkAt.lt_ B
  have HB:=Lib.hid (two_boxes hb)
  clear B hb
  go_wp2_with fail
  refine bodyPost_ret (v:= .tuple #[.agg #[.int .i64 0,.int .i64 0],.int .i64 ee]) (by simp [results,Tryz.results73,go_sem,e0,e1,f0,f1,hzz]) rfl ⟨rfl, ?_⟩
  exact (HB.out.setCell (by simp) _).setCell (by simp) _
open Go.RowKit
def frK (ts:Zn.L) (k:Nat):Int:=if k=0 then 0 else (ts.getD (k-1) (0,0)).1
def ofK (off:Int) (ts:Zn.L) (k:Nat):Int:=if k=0 then off else (ts.getD (k-1) (0,0)).2
theorem strK_step' {off:Int} {ts:Zn.L} {k:Nat} {a o:Int} (h:ts[k]? =some (a,o)):Zn.strK off ts k=(frK ts k,a-1,ofK off ts k)::Zn.strK off ts (k+1):=by
 have hk:=(List.getElem?_eq_some_iff.1 h).1
 have hg:ts.getD k (0,0)=(a,o):=by simp [List.getD,h]
 rw [Zn.strK_step off ts k hk,hg];rfl
theorem frK_succ {ts:Zn.L} {k:Nat} {a o:Int} (h:ts[k]? =some (a,o)):frK ts (k+1)=a:=by
 have hg:ts.getD k (0,0)=(a,o):=by simp [List.getD,h]
 unfold frK;rw [if_neg (by omega),show k+1-1=k from rfl,hg]
theorem ofK_succ {off:Int} {ts:Zn.L} {k:Nat} {a o:Int} (h:ts[k]? =some (a,o)):ofK off ts (k+1)=o:=by
 have hg:ts.getD k (0,0)=(a,o):=by simp [List.getD,h]
 unfold ofK;rw [if_neg (by omega),show k+1-1=k from rfl,hg]
theorem OwnL.other {α:Type} {T:TypeId} {k:Nat} {e:α→Nat→Value} {w:World} {B:Nat} {v:Value} {xs:List α} (h:OwnL T k e w B v xs) {g i:Nat} (hg:v.ownBlock≠some g) (u:Value):OwnL T k e (w.setCell ⟨g,i,none⟩ u) B v xs:=
 World.ownsRow.kept h ⟨rfl,rfl,rfl,by simp,fun k hk hr=>Below.heap_setCell w ⟨g,i,none⟩ u k (fun e=>hr (by rw [e]))⟩ (.inr hg)
theorem own_block3 {w:World} {B:Nat} {v:Value} {xs:Zn.S} {T:TypeId} (h:OwnL T 3 eTrip w B v xs) {b:Nat} (hb:w.heap.size≤b):v.ownBlock≠some b:=fun e=>by
 have :=(World.ownsRow.lt h b e).2;omega
def TripBlk (w:World) (b:Nat) (x y z:Int):Prop:=BlkAt w b #[.int .i64 x,.int .i64 y,.int .i64 z] 196
theorem TripBlk.cells {w:World} {b:Nat} {x y z:Int} (h:TripBlk w b x y z):w.cell? ⟨b,0,none⟩=some (.int .i64 x)∧w.cell? ⟨b,1,none⟩=some (.int .i64 y)∧w.cell? ⟨b,2,none⟩=some (.int .i64 z)∧w.frozen? ⟨b,0,none⟩=false∧w.frozen? ⟨b,1,none⟩=false∧w.frozen? ⟨b,2,none⟩=false∧b<w.heap.size:=⟨BlkAt.cell h rfl,BlkAt.cell h rfl,BlkAt.cell h rfl,BlkAt.free h 0,BlkAt.free h 1,BlkAt.free h 2,BlkAt.lt_ h⟩
theorem trip_new {W:World} {B:Nat} {x y z:Int} {T:TypeId} (h:W.heap.size=B): ∀j,j<3→(W.alloc (.cells #[.int .i64 x,.int .i64 y,.int .i64 z] T)).cell? ⟨B,j,none⟩=some (eTrip (x,y,z) j):=fun j hj=>by
 subst h
 match j,hj with
 |0,_=>simp [eTrip]
 |1,_=>simp [eTrip]
 |2,_=>simp [eTrip]
def GivesS (ss:Zn.S) (w:World) (e:Ending) (w':World):Prop:= ∃A c,e= .returned (.tuple #[.slice A ss.length c,.bool true])∧TripsAt w' A ss∧Below w.heap.size w w'
set_option maxHeartbeats 8000000 in
set_option maxRecDepth 100000 in
theorem stretches_is {off:Int} {rs:List Zn.Rule} {ts:Zn.L} (h:Zn.trans off rs=(ts,0)) (s:ByteArray) (A:Option Addr) (n c:Nat) (w:World) (hz:ZIn w A n rs) (ho:I64 off):
  Calls Tryz.prog 171 #[.agg #[.string s,.int .i64 off,.slice A n c]] w (GivesS (Zn.strs 0 off ts) w):=by
 have C:=Lib.hid (trans_is h s A n c _ (hz.alloc (.cells #[.string s,.int .i64 off,.slice A n c] 71)) ho)
 obtain ⟨k1,k2,k3,k4,k5,k6,k7,k8⟩:=Zn.trans_ok h
 have hbd:=Zn.vt_bd (Int.le_refl 0) k6
 have HBD:=Lib.hid hbd
 obtain ⟨q,hq⟩: ∃q,ts.length=q:=⟨_,rfl⟩
 rw [hq] at k7
 have HQ:=Lib.hid hq
 clear hz h k1 k2 k3 k4 k5 k6 k8 hbd
 go_enter Tryz.func171,Tryz.ntmps171
 go_wp2_with fail
 refine C.out.mono ?_
 rintro e w1 ⟨A1,c1,rfl,hP,hb⟩
 rw [hq]
 have hz1:w1.cell? ⟨w.heap.size,1,none⟩=some (.int .i64 off):=BlkAt.cell (BlkAt.after (BlkAt.new w #[.string s,.int .i64 off,.slice A n c] 71) hb) (i:=1) rfl
 have hws:w.heap.size<w1.heap.size:=by have :=hb.size;simp at this;omega
 have HB:=Lib.hid (below_alloc_call hb)
 have HP:=Lib.hid hP
 clear hb hP hq
 go_wp2_with (at_make;refine wp_make_k kStr w1 rfl _ _ rfl w1.heap.size _ _ _ (q+1) rfl rfl (by omega) (by omega) (Nat.le_refl _) ?_;intro w2 hO2 hB2;have hz2:w2.cell? ⟨w.heap.size,1,none⟩=some (.int .i64 off):=cell_keep hz1 hB2)
 have hws2:w1.heap.size<w2.heap.size:=(World.ownsRow.lt hO2 w1.heap.size rfl).2
 obtain ⟨v0,hv0⟩: ∃v0,Value.slice (some ⟨w1.heap.size,0,none⟩) 0 (q+1)=v0:=⟨_,rfl⟩
 have hvb:v0.ownBlock≠some w2.heap.size:=by rw [←hv0];simp [Value.ownBlock];omega
 rw [hv0] at hO2
 have O2:=Lib.hid (OwnL.alloc hO2 (.cells #[.int .i64 0,.int .i64 0,.int .i64 off] 196))
 have B2:=Lib.hid (hB2.alloc (Nat.le_of_lt hws2) (.cells #[.int .i64 0,.int .i64 0,.int .i64 off] 196))
 have LB:TripBlk (w2.alloc (.cells #[.int .i64 0,.int .i64 0,.int .i64 off] 196)) w2.heap.size 0 0 off:=BlkAt.new _ _ _
 have HLB:=Lib.hid LB
 have HV0:=Lib.hid hv0
 have HVB:=Lib.hid hvb
 obtain ⟨bl,hbl⟩: ∃bl,w2.heap.size=bl:=⟨_,rfl⟩
 have HBL:=Lib.hid hbl
 clear hO2 hB2 LB hv0 hvb hbl
 go_wp2_with fail
 rw [HBL.out]
 go_loopw [6,26] (fun v i wr=> ∃(k:Nat) (S:Zn.S) (l:Int),k≤q∧i= .int .i64 k∧Hid (S++Zn.strK off ts k=Zn.strs 0 off ts)∧Hid (S.length=k)∧Hid (OwnL 196 3 eTrip wr w1.heap.size v S)∧Hid (Below w1.heap.size w1 wr)∧Hid (TripBlk wr bl (frK ts k) l (ofK off ts k))∧Hid (v.ownBlock≠some bl)) (fun _ i _=>q-(intOf i).toNat)
 case atStart=>exact ⟨0,[],0,Nat.zero_le _,rfl,Lib.hid rfl,Lib.hid rfl,Lib.hid (by rw [HV0.out];exact O2.out),B2,Lib.hid (by rw [←HBL.out];exact HLB.out),Lib.hid (by rw [HV0.out, ←HBL.out];exact HVB.out)⟩
 case round=>
  clear O2 B2 HLB HVB
  obtain ⟨k,S,lst,hk,rfl,HS,HSL,HO,HB2,HL,HNE⟩:=hrel
  obtain ⟨l0,l1,l2,f0,f1,f2,lz⟩:=TripBlk.cells HL.out
  by_cases hlt:k<q
  ·obtain ⟨⟨a,o⟩,hx⟩:=get_ex (xs:=ts) (i:=k) (by have :=HQ.out;omega)
   obtain ⟨b,of,rfl,hbb,hc⟩:=HP.out (by have :=HQ.out;omega)
   obtain ⟨c0,c1⟩:=pair_cells (hc k _ hx)
   have c0':=cell_keep c0 HB2.out
   have c1':=cell_keep c1 HB2.out
   simp only at c0' c1'
   have hab:=HBD.out _ (List.mem_of_getElem? hx)
   simp only at hab
   obtain ⟨a1,a2⟩:=hab
   have hst:=strK_step' (off:=off) hx
   obtain ⟨f,hf⟩: ∃f,frK ts k=f:=⟨_,rfl⟩
   obtain ⟨o0,ho0⟩: ∃f,ofK off ts k=f:=⟨_,rfl⟩
   rw [hf,ho0] at hst HL
   rw [hf] at l0
   rw [ho0] at l2
   have hS2:(S++[(f,a-1,o0)])++Zn.strK off ts (k+1)=Zn.strs 0 off ts:=by rw [←HS.out,hst];simp
   have HS2:=Lib.hid hS2
   have HF:Hid (frK ts (k+1)=a∧ofK off ts (k+1)=o):=Lib.hid ⟨frK_succ hx,ofK_succ hx⟩
   have hrz:=HB2.out.size
   have hSlen:S.length≤900000:=by have :=HSL.out;omega
   have hblw:w1.heap.size≤bl:=by have :=HBL.out;omega
   have LB1:TripBlk (((wr.setCell ⟨bl,1,none⟩ (.int .i64 (a-1))).alloc (.cells #[.int .i64 a,.int .i64 o] 134)).alloc (.cells #[.int .i64 f,.int .i64 (a-1),.int .i64 o0] 196)) bl f (a-1) o0:=BlkAt.alloc (BlkAt.alloc (BlkAt.set_ HL.out 1 (.int .i64 (a-1))) _) _
   have XB1:PairBlk (((wr.setCell ⟨bl,1,none⟩ (.int .i64 (a-1))).alloc (.cells #[.int .i64 a,.int .i64 o] 134)).alloc (.cells #[.int .i64 f,.int .i64 (a-1),.int .i64 o0] 196)) wr.heap.size (a,o) 134:=BlkAt.alloc (by have :=BlkAt.new (wr.setCell ⟨bl,1,none⟩ (.int .i64 (a-1))) #[.int .i64 a,.int .i64 o] 134;rw [show (wr.setCell ⟨bl,1,none⟩ (.int .i64 (a-1))).heap.size=wr.heap.size by simp] at this;exact this) _
   have OB1:=Lib.hid (((HO.out.other HNE.out (i:=1) (.int .i64 (a-1))).alloc (.cells #[.int .i64 a,.int .i64 o] 134)).alloc (.cells #[.int .i64 f,.int .i64 (a-1),.int .i64 o0] 196))
   have hBB:=((HB2.out.setCell (p:=⟨bl,1,none⟩) hblw (.int .i64 (a-1))).alloc (by simpa using hrz) (.cells #[.int .i64 a,.int .i64 o] 134)).alloc (by simp;omega) (.cells #[.int .i64 f,.int .i64 (a-1),.int .i64 o0] 196)
   have HBB:=Lib.hid hBB
   have HLB1:=Lib.hid LB1
   have HXB1:=Lib.hid XB1
   have HNX:=Lib.hid (own_block3 HO.out (Nat.le_refl _))
   clear hc hx c0 c1 hst hf ho0 hS2 LB1 XB1 hBB HL
   go_wp2_with (at_builtin;refine wp_append_one kStr _ rfl _ _ rfl w1.heap.size _ S rfl OB1.out (wr.heap.size+1) (f,a-1,o0) rfl (trip_new (by simp)) hSlen (by simp;omega) ?_;intro gg cap w3 hO3 hB3 hg3 hgo _;have L3:TripBlk w3 bl f (a-1) o0:=BlkAt.grown HLB1.out hg3 (fun e=>HNE.out e.symm);have X3:PairBlk w3 wr.heap.size (a,o) 134:=BlkAt.grown HXB1.out hg3 (fun e=>HNX.out e.symm);obtain ⟨d0,d1⟩:=PairBlk.cells X3;obtain ⟨m0,m1,m2,m3,m4,m5,m6⟩:=TripBlk.cells L3;simp only at d0 d1)
   have L4:TripBlk (((w3.setCell ⟨bl,0,none⟩ (.int .i64 a)).setCell ⟨bl,1,none⟩ (.int .i64 0)).setCell ⟨bl,2,none⟩ (.int .i64 o)) bl a 0 o:=BlkAt.set_ (BlkAt.set_ (BlkAt.set_ L3 0 (.int .i64 a)) 1 (.int .i64 0)) 2 (.int .i64 o)
   have hne4:(Value.slice (some ⟨gg,0,none⟩) (S.length+1) cap).ownBlock≠some bl:=fun e=>by
    simp only [Value.ownBlock,Option.some.injEq] at e
    rcases hgo with h|h
    ·exact HNE.out (h.trans (congrArg some e))
    ·simp at h;omega
   have O4:=Lib.hid (((hO3.other hne4 (i:=0) (.int .i64 a)).other hne4 (i:=1) (.int .i64 0)).other hne4 (i:=2) (.int .i64 o))
   have B4:=Lib.hid ((((HBB.out.trans hB3).setCell (p:=⟨bl,0,none⟩) hblw (.int .i64 a)).setCell (p:=⟨bl,1,none⟩) hblw (.int .i64 0)).setCell (p:=⟨bl,2,none⟩) hblw (.int .i64 o))
   have HL4:=Lib.hid L4
   have HN4:=Lib.hid hne4
   have hlen2:S.length+1=k+1:=by rw [HSL.out]
   have HLN:=Lib.hid hlen2
   clear hO3 hB3 hg3 hgo L3 X3 L4 hne4 hlen2
   go_wp2_with fail
   go_roundw
   case rel=>exact ⟨k+1,_,0,by omega,by go_num,HS2,Lib.hid (by rw [List.length_append];exact HLN.out),O4,B4,Lib.hid (by rw [HF.out.1,HF.out.2];exact HL4.out),HN4⟩
   case measure=>simp [intOf];omega
  ·obtain rfl:k=q:=by omega
   have hlast:=Zn.strK_last off ts
   rw [HQ.out] at hlast
   obtain ⟨f,hf⟩: ∃f,frK ts k=f:=⟨_,rfl⟩
   obtain ⟨o0,ho0⟩: ∃f,ofK off ts k=f:=⟨_,rfl⟩
   have hS2:S++[(f,8589934592,o0)]=Zn.strs 0 off ts:=by rw [←HS.out,hlast, ←hf, ←ho0];rfl
   have HS2:=Lib.hid hS2
   rw [hf] at l0
   rw [ho0] at l2
   have hrz:=HB2.out.size
   have hSlen:S.length≤900000:=by have :=HSL.out;omega
   have hblw:w1.heap.size≤bl:=by have :=HBL.out;omega
   have OB1:=Lib.hid ((HO.out.other HNE.out (i:=1) (.int .i64 8589934592)).alloc (.cells #[.int .i64 f,.int .i64 8589934592,.int .i64 o0] 196))
   have HBB:=Lib.hid ((HB2.out.setCell (p:=⟨bl,1,none⟩) hblw (.int .i64 8589934592)).alloc (by simpa using hrz) (.cells #[.int .i64 f,.int .i64 8589934592,.int .i64 o0] 196))
   clear hlast hf ho0 hS2 HL
   go_wp2_with (at_builtin;refine wp_append_one kStr _ rfl _ _ rfl w1.heap.size _ S rfl OB1.out wr.heap.size (f,8589934592,o0) rfl (trip_new (by simp)) hSlen (by simp;omega) ?_;intro gg cap w3 hO3 hB3 hg3 hgo _)
   obtain ⟨A4,c4,he4, -, -,hT4⟩:=hO3.shape
   have B4:=Lib.hid (HB.out.trans ((HBB.out.trans hB3).mono HB.out.size))
   rw [HS2.out] at hT4
   have hl4:S.length+1=(Zn.strs 0 off ts).length:=by rw [←HS2.out];simp
   simp only [Value.slice.injEq] at he4
   obtain ⟨rfl, -,rfl⟩:=he4
   have HT4:=Lib.hid hT4
   have HL4:=Lib.hid hl4
   clear hO3 hB3 hg3 hgo hT4 hl4
   go_wp2_with fail
   go_ret2
   exact ⟨_,_,by rw [←HL4.out];rfl,HT4.out,B4.out⟩
open Go.RowKit
set_option maxHeartbeats 2000000 in
theorem stretches_bad {off:Int} {rs:List Zn.Rule} {ts:Zn.L} {er:Int} (h:Zn.trans off rs=(ts,er)) (he:er≠0) (s:ByteArray) (A:Option Addr) (n c:Nat) (w:World) (hz:ZIn w A n rs) (ho:I64 off):
  Calls Tryz.prog 171 #[.agg #[.string s,.int .i64 off,.slice A n c]] w fun e w'=>e= .returned (.tuple #[.slice none 0 0,.bool false])∧Below w.heap.size w w':=by
 have C:=Lib.hid (trans_is h s A n c _ (hz.alloc (.cells #[.string s,.int .i64 off,.slice A n c] 71)) ho)
 have hne:(er !=0)=true:=by simpa using he
 clear hz h he
 go_enter Tryz.func171,Tryz.ntmps171
 go_wp2_with fail
 refine C.out.mono ?_
 rintro e w1 ⟨A1,c1,rfl,hP,hb⟩
 go_wp2_with fail
 go_ret2
 exact ⟨rfl,below_alloc_call hb⟩
def GivesI (xs:List Int) (er:Int) (w:World) (e:Ending) (w':World):Prop:= ∃A c,e= .returned (.tuple #[.slice A xs.length c,.int .i64 er])∧IntsAt w' A xs∧Below w.heap.size w w'
theorem GivesI.none_ {w w':World} {er:Int} (h:Below w.heap.size w w'):GivesI [] er w (.returned (.tuple #[.slice none 0 0,.int .i64 er])) w':=⟨none,0,rfl,ListAt.nil_,h⟩
theorem fst_step {v f l o:Int} {ss:Zn.S} {k:Nat} (h:ss[k]? =some (f,l,o)):Zn.fst v (ss.drop k)=if max (v-o) f≤l then some (max (v-o) f) else Zn.fst v (ss.drop (k+1)):=by
 rw [drop_cons' h,Zn.fst]
theorem int_new {W:World} {B:Nat} {x:Int} {T:TypeId} (h:W.heap.size=B): ∀j,j<1→(W.alloc (.cells #[.int .i64 x] T)).cell? ⟨B,j,none⟩=some (eInt x j):=fun j hj=>by
 subst h
 obtain rfl:j=0:=by omega
 simp [eInt]
theorem keepL {W0 W W':World} {bl bs:Nat} {a0 a1 b0 b1 b2:Value} (h:W.cell? ⟨bl,0,none⟩=some a0∧W.cell? ⟨bl,1,none⟩=some a1∧W.cell? ⟨bs,0,none⟩=some b0∧W.cell? ⟨bs,1,none⟩=some b1∧W.cell? ⟨bs,2,none⟩=some b2∧Below W0.heap.size W0 W) (hb:Below W.heap.size W W'):
  W'.cell? ⟨bl,0,none⟩=some a0∧W'.cell? ⟨bl,1,none⟩=some a1∧W'.cell? ⟨bs,0,none⟩=some b0∧W'.cell? ⟨bs,1,none⟩=some b1∧W'.cell? ⟨bs,2,none⟩=some b2∧Below W0.heap.size W0 W':=by
 obtain ⟨h0,h1,h2,h3,h4,h5⟩:=h
 exact ⟨cell_keep h0 hb,cell_keep h1 hb,cell_keep h2 hb,cell_keep h3 hb,cell_keep h4 hb,bstep h5 hb⟩
open Go.RowKit
def fstR (f:Option Int):Int:=match f with|none=>0|some t=>t
def fstC (f:Option Int):Int:=match f with|none=>10|some _=>0
def fstV (off:Int) (ts:Zn.L) (er d s:Int):Int:=if er≠0 then 0 else if Zn.okD s=false then 0 else fstR (Zn.fst (Zn.locS d s) (Zn.strs 0 off ts))
def fstE (off:Int) (ts:Zn.L) (er d s:Int):Int:=if er≠0 then 8 else if Zn.okD s=false then 1 else fstC (Zn.fst (Zn.locS d s) (Zn.strs 0 off ts))
def GivesF (v er:Int) (w:World) (e:Ending) (w':World):Prop:=e= .returned (.tuple #[.int .i64 v,.int .i64 er])∧Below w.heap.size w w'
set_option maxHeartbeats 8000000 in
set_option maxRecDepth 100000 in
theorem first_ok {off:Int} {rs:List Zn.Rule} {ts:Zn.L} (h:Zn.trans off rs=(ts,0)) (s:ByteArray) (A:Option Addr) (n c:Nat) (d sec:Int) (w:World) (hz:ZIn w A n rs) (ho:I64 off) (hd:I64 d) (hs:Zn.okD sec=true):
  Calls Tryz.prog 119 #[.agg #[.string s,.int .i64 off,.slice A n c],.agg #[.int .i64 d,.int .i64 sec]] w (GivesF (fstR (Zn.fst (Zn.locS d sec) (Zn.strs 0 off ts))) (fstC (Zn.fst (Zn.locS d sec) (Zn.strs 0 off ts))) w):=by
 have C:=Lib.hid (stretches_is h s A n c _ ((hz.alloc (.cells #[.string s,.int .i64 off,.slice A n c] 71)).alloc (.cells #[.int .i64 d,.int .i64 sec] 36)) ho)
 obtain ⟨k1,k2,k3,k4,k5,k6,k7,k8⟩:=Zn.trans_ok h
 have hbd:=Zn.strs_bd (Int.le_refl 0) (by omega) k1 k6 (Int.le_refl 0) k8
 have HBD:=Lib.hid hbd
 have CD:=fun W=>inDay_any sec W
 rw [hs] at CD
 have CL:=fun W=>locSec_any d sec W hd hs
 have hv:=Zn.locS_bd (d:=d) hs
 obtain ⟨v,hvv⟩: ∃v,Zn.locS d sec=v:=⟨_,rfl⟩
 rw [hvv] at CL hv ⊢
 obtain ⟨v1,v2⟩:=hv
 obtain ⟨q,hq⟩: ∃q,(Zn.strs 0 off ts).length=q:=⟨_,rfl⟩
 have hq2:q≤641:=by rw [←hq,Zn.strs_len];omega
 have HQ:=Lib.hid hq
 have HCD:=Lib.hid CD
 have HCL:=Lib.hid CL
 obtain ⟨ss,hss⟩: ∃ss,Zn.strs 0 off ts=ss:=⟨_,rfl⟩
 rw [hss] at C HBD HQ hq ⊢
 clear hz h k1 k2 k3 k4 k5 k6 k7 k8 hbd CD CL hvv hss hs hd
 go_enter Tryz.func119,Tryz.ntmps119
 go_wp2_with fail
 refine C.out.mono ?_
 rintro e w1 ⟨A1,c1,rfl,hP,hb⟩
 rw [hq]
 have l1:w1.cell? ⟨w.heap.size+1,1,none⟩=some (.int .i64 sec):=by
  have e:=BlkAt.cell (BlkAt.after (BlkAt.new (w.alloc (.cells #[.string s,.int .i64 off,.slice A n c] 71)) #[.int .i64 d,.int .i64 sec] 36) hb) (i:=1) rfl
  simpa using e
 have l0:w1.cell? ⟨w.heap.size+1,0,none⟩=some (.int .i64 d):=by
  have e:=BlkAt.cell (BlkAt.after (BlkAt.new (w.alloc (.cells #[.string s,.int .i64 off,.slice A n c] 71)) #[.int .i64 d,.int .i64 sec] 36) hb) (i:=0) rfl
  simpa using e
 have HB:=Lib.hid (two_boxes hb)
 have HP:=Lib.hid hP
 obtain ⟨bl,hbl⟩: ∃bl,w.heap.size+1=bl:=⟨_,rfl⟩
 rw [hbl] at l0 l1 ⊢
 have HBL:=Lib.hid hbl
 clear hb hP hq hbl
 go_wp2_with (go_at_call 172;refine (HCD.out _).mono ?_;rintro e w' ⟨rfl,rfl⟩)
 obtain ⟨r,hr⟩: ∃r,Zn.fst v ss=r:=⟨_,rfl⟩
 have HR:=Lib.hid hr
 have HR0:Hid (Zn.fst v (ss.drop 0)=r):=Lib.hid hr
 clear hr
 go_loopw [24] (fun i wr=> ∃k:Nat,k≤q∧i= .int .i64 k∧Hid (Zn.fst v (ss.drop k)=r)∧Hid (Below w1.heap.size w1 wr)) (fun i _=>q-(intOf i).toNat)
 case atStart=>exact ⟨0,Nat.zero_le _,rfl,HR0,Lib.hid (Below.refl _ _)⟩
 case round=>
  clear HR0
  obtain ⟨k,hk,rfl,HO,HB2⟩:=hrel
  by_cases hlt:k<q
  ·obtain ⟨⟨f,l,o⟩,hx⟩:=get_ex (xs:=ss) (i:=k) (by have :=HQ.out;omega)
   obtain ⟨b,of,rfl,hbb,hc⟩:=(HP.out.below HB2.out) (by have :=HQ.out;omega)
   obtain ⟨c0,c1, -,c2⟩:=trip_cells (hc k _ hx)
   simp only at c0 c1 c2
   have hbd:=HBD.out _ (List.mem_of_getElem? hx)
   simp only at hbd
   obtain ⟨b1,b2,b3,b4,b5,b6⟩:=hbd
   have hsn:=fst_step (v:=v) hx
   rw [HO.out] at hsn
   obtain ⟨m,hmm⟩: ∃m,max (v-o) f=m:=⟨_,rfl⟩
   have m0:=cell_keep l0 HB2.out
   have m1:=cell_keep l1 HB2.out
   have S0:=keepL (W0:=wr.alloc (.cells #[.int .i64 f,.int .i64 l,.int .i64 o] 196)) (W:=wr.alloc (.cells #[.int .i64 f,.int .i64 l,.int .i64 o] 196)) ⟨cell_keep m0 ((Below.refl _ _).alloc (Nat.le_refl _) _),cell_keep m1 ((Below.refl _ _).alloc (Nat.le_refl _) _),BlkAt.cell (BlkAt.new wr #[.int .i64 f,.int .i64 l,.int .i64 o] 196) (i:=0) rfl,BlkAt.cell (BlkAt.new wr #[.int .i64 f,.int .i64 l,.int .i64 o] 196) (i:=1) rfl,BlkAt.cell (BlkAt.new wr #[.int .i64 f,.int .i64 l,.int .i64 o] 196) (i:=2) rfl,Below.refl _ _⟩ (Below.refl _ _).drew
   have S1:=keepL (W0:=wr.alloc (.cells #[.int .i64 f,.int .i64 l,.int .i64 o] 196)) (W:=wr.alloc (.cells #[.int .i64 f,.int .i64 l,.int .i64 o] 196)) ⟨cell_keep m0 ((Below.refl _ _).alloc (Nat.le_refl _) _),cell_keep m1 ((Below.refl _ _).alloc (Nat.le_refl _) _),BlkAt.cell (BlkAt.new wr #[.int .i64 f,.int .i64 l,.int .i64 o] 196) (i:=0) rfl,BlkAt.cell (BlkAt.new wr #[.int .i64 f,.int .i64 l,.int .i64 o] 196) (i:=1) rfl,BlkAt.cell (BlkAt.new wr #[.int .i64 f,.int .i64 l,.int .i64 o] 196) (i:=2) rfl,Below.refl _ _⟩ (Below.refl _ _)
   have s1:IntKind.i64.wrap (v-o)=v-o:=by rw [IntKind.wrap_i64];omega
   have HSN:=Lib.hid hsn
   have B1:=Lib.hid (HB2.out.alloc HB2.out.size (.cells #[.int .i64 f,.int .i64 l,.int .i64 o] 196))
   rw [hmm] at HSN
   have HMM:=Lib.hid hmm
   clear hc hx hsn HO HB2 hmm
   as_aux_lemma=>
   go_upto_region 9 with fail
   go_cut [10] (fun t wx=>t= .int .i64 m∧Hid (wx.cell? ⟨bl,0,none⟩=some (.int .i64 d)∧wx.cell? ⟨bl,1,none⟩=some (.int .i64 sec)∧wx.cell? ⟨wr.heap.size,0,none⟩=some (.int .i64 f)∧wx.cell? ⟨wr.heap.size,1,none⟩=some (.int .i64 l)∧wx.cell? ⟨wr.heap.size,2,none⟩=some (.int .i64 o)∧Below (wr.alloc (.cells #[.int .i64 f,.int .i64 l,.int .i64 o] 196)).heap.size (wr.alloc (.cells #[.int .i64 f,.int .i64 l,.int .i64 o] 196)) wx))
   case first =>
    as_aux_lemma=>
    go_region_held3 (fun W=>W.cell? ⟨bl,0,none⟩=some (.int .i64 d)∧W.cell? ⟨bl,1,none⟩=some (.int .i64 sec)∧W.cell? ⟨wr.heap.size,0,none⟩=some (.int .i64 f)∧W.cell? ⟨wr.heap.size,1,none⟩=some (.int .i64 l)∧W.cell? ⟨wr.heap.size,2,none⟩=some (.int .i64 o)∧Below (wr.alloc (.cells #[.int .i64 f,.int .i64 l,.int .i64 o] 196)).heap.size (wr.alloc (.cells #[.int .i64 f,.int .i64 l,.int .i64 o] 196)) W)
     (first|(exact S0)|(exact keepL S1 (Below.refl _ _).drew)|assumption|(exact keepL (by assumption) hb))
     (first|(go_at_call 173;refine (HCL.out _).mono ?_;rintro e w' ⟨rfl,hb⟩))
    all_goals
     go_wp2_with fail
     go_meet
     exact ⟨by rw [←HMM.out],Lib.hid (by assumption)⟩
   case rest=>
    obtain ⟨rfl,HCC⟩:=hcut
    obtain ⟨z0,z1,z2,z3,z4,zb⟩:=HCC.out
    have B2:=Lib.hid (bstep B1.out zb)
    clear zb z0 z1 z4 HCC B1 S0 S1 HMM
    by_cases p1:m≤l
    ·have e:=HSN.out
     rw [if_pos p1] at e
     have HE:=Lib.hid e
     have B4:=Lib.hid (HB.out.trans (B2.out.mono HB.out.size))
     clear e HSN
     as_aux_lemma=>
     go_wp2_with fail
     go_ret2
     exact ⟨by rw [HR.out,HE.out];rfl,B4.out⟩
    ·have e:=HSN.out
     rw [if_neg p1] at e
     have HE:=Lib.hid e.symm
     clear e HSN
     as_aux_lemma=>
     go_wp2_with fail
     go_roundw
     case rel=>exact ⟨k+1,by omega,by go_num,HE,B2⟩
     case measure=>simp [intOf];omega
  ·have hkk:ss.drop k=[]:=List.drop_of_length_le (by have :=HQ.out;omega)
   have e:=HO.out
   rw [hkk] at e
   have HE:=Lib.hid e.symm
   have B4:=Lib.hid (HB.out.trans (HB2.out.mono HB.out.size))
   clear hkk e HO
   as_aux_lemma=>
   go_wp2_with fail
   go_ret2
   exact ⟨by rw [HR.out,HE.out];rfl,B4.out⟩
set_option maxHeartbeats 2000000 in
theorem first_is {off:Int} {rs:List Zn.Rule} {ts:Zn.L} {er:Int} (h:Zn.trans off rs=(ts,er)) (s:ByteArray) (A:Option Addr) (n c:Nat) (d sec:Int) (w:World) (hz:ZIn w A n rs) (ho:I64 off) (hd:I64 d):
  Calls Tryz.prog 119 #[.agg #[.string s,.int .i64 off,.slice A n c],.agg #[.int .i64 d,.int .i64 sec]] w (GivesF (fstV off ts er d sec) (fstE off ts er d sec) w):=by
 by_cases he:er=0
 ·subst he
  cases hs:Zn.okD sec
  ·have C:=Lib.hid (stretches_is h s A n c _ ((hz.alloc (.cells #[.string s,.int .i64 off,.slice A n c] 71)).alloc (.cells #[.int .i64 d,.int .i64 sec] 36)) ho)
   have CD:=fun W=>inDay_any sec W
   rw [hs] at CD
   have HCD:=Lib.hid CD
   have hv:fstV off ts 0 d sec=0∧fstE off ts 0 d sec=1:=by unfold fstV fstE;simp [hs]
   rw [hv.1,hv.2]
   clear hz h hs CD hv
   go_enter Tryz.func119,Tryz.ntmps119
   go_wp2_with fail
   refine C.out.mono ?_
   rintro e w1 ⟨A1,c1,rfl,hP,hb⟩
   have l1:w1.cell? ⟨w.heap.size+1,1,none⟩=some (.int .i64 sec):=by
    have e:=BlkAt.cell (BlkAt.after (BlkAt.new (w.alloc (.cells #[.string s,.int .i64 off,.slice A n c] 71)) #[.int .i64 d,.int .i64 sec] 36) hb) (i:=1) rfl
    simpa using e
   have HB:=Lib.hid (two_boxes hb)
   clear hb hP
   go_wp2_with (go_at_call 172;refine (HCD.out _).mono ?_;rintro e w' ⟨rfl,rfl⟩)
   go_ret2
   exact ⟨rfl,HB.out⟩
  ·have hv:fstV off ts 0 d sec=fstR (Zn.fst (Zn.locS d sec) (Zn.strs 0 off ts))∧fstE off ts 0 d sec=fstC (Zn.fst (Zn.locS d sec) (Zn.strs 0 off ts)):=by unfold fstV fstE;simp [hs]
   rw [hv.1,hv.2]
   exact first_ok h s A n c d sec w hz ho hd hs
 ·have C:=Lib.hid (stretches_bad h he s A n c _ ((hz.alloc (.cells #[.string s,.int .i64 off,.slice A n c] 71)).alloc (.cells #[.int .i64 d,.int .i64 sec] 36)) ho)
  have hv:fstV off ts er d sec=0∧fstE off ts er d sec=8:=by unfold fstV fstE;simp [he]
  rw [hv.1,hv.2]
  clear hz h hv he
  go_enter Tryz.func119,Tryz.ntmps119
  go_wp2_with fail
  refine C.out.mono ?_
  rintro e w1 ⟨rfl,hb⟩
  go_wp2_with fail
  go_ret2
  exact ⟨rfl,two_boxes hb⟩
end Go.Proofs.YtfamcohbnoibaaaGreatDoor
