import Derived.Test.YtfamcohbnoibaaaGreatDoorKG07
set_option linter.unusedVariables false
set_option linter.unusedSimpArgs false
set_option maxRecDepth 100000
namespace Go.Proofs.YtfamcohbnoibaaaGreatDoor
open Go.RowKit
def Srch (W:World) (b6 b3:Nat) (A:Option Addr) (n c:Nat) (ts:Zn.L) (x:Int):Prop:=
 W.cell? ⟨b6,0,none⟩=some (.slice A n c)∧W.cell? ⟨b3,0,none⟩=some (.int .i64 x)∧PairsAt W A ts∧ts.length=n
set_option maxHeartbeats 1000000 in
theorem srchf_any (b6 b3:Nat) (A:Option Addr) (n c:Nat) (ts:Zn.L) (x:Int) (W:World) (h:Srch W b6 b3 A n c ts x) (i:Nat) (hi:i<n) (hn:n≤640) (y:Int×Int) (hy:ts[i]? =some y):
  Calls Tryz.prog 169 #[.int .i64 i,.pointer (some ⟨b6,0,none⟩),.pointer (some ⟨b3,0,none⟩)] W fun e w'=>e= .returned (.bool (decide (x<y.1)))∧ ∃q,w'=W.drewN q:=by
 obtain ⟨h1,h2,h3,h4⟩:=h
 obtain ⟨b,of,rfl,hb,hc⟩:=h3 (by omega)
 obtain ⟨c0,c1⟩:=pair_cells (hc i y hy)
 have i1:(0:Int)≤i:=by omega
 have i2:(i:Int)<n:=by omega
 obtain ⟨y1,y2⟩:=y
 simp only at c0 c1
 clear hc hy h4
 by_cases hlt:x<y1
 ·have hd:decide (x<y1)=true:=decide_eq_true hlt
  go_enter Tryz.func169,Tryz.ntmps169
  go_wp2_with fail
  go_quiet (fail)
  go_wp2_with fail
  go_ret
  exact ⟨ret_bool (by simp [hlt]),_,rfl⟩
 ·have hd:decide (x<y1)=false:=decide_eq_false hlt
  go_enter Tryz.func169,Tryz.ntmps169
  go_wp2_with fail
  go_quiet (fail)
  go_wp2_with fail
  go_ret
  exact ⟨ret_bool (by simp [hlt]),_,rfl⟩
def Found (ts:Zn.L) (x:Int) (n:Nat) (w:World) (e:Ending) (w':World):Prop:=
 ∃k:Nat,e= .returned (.int .i64 k)∧k≤n∧(∀j,j<k→(ts.getD j (0,0)).1≤x)∧(k<n→x<(ts.getD k (0,0)).1)∧ ∃q,w'=w.drewN q
set_option maxHeartbeats 2000000 in
theorem search_any (b6 b3:Nat) (A:Option Addr) (n c:Nat) (ts:Zn.L) (x:Int) (w:World) (h:Srch w b6 b3 A n c ts x) (hn:n≤640) (hasc: ∀i j,i<j→j<n→(ts.getD i (0,0)).1≤(ts.getD j (0,0)).1):
  Calls Tryz.prog 168 #[.int .i64 n,.func (.func 169) #[] #[.pointer (some ⟨b6,0,none⟩),.pointer (some ⟨b3,0,none⟩)]] w (Found ts x n w):=by
 have HS:=Lib.hid h
 have HA:=Lib.hid hasc
 clear h hasc
 go_enter Tryz.func168,Tryz.ntmps168
 go_wp2_with fail
 go_loopw [5,6] (fun vi vj wr=> ∃i j q:Nat,vi= .int .i64 i∧vj= .int .i64 j∧i≤j∧j≤n∧Hid (∀t,t<i→(ts.getD t (0,0)).1≤x)∧Hid (∀t,j≤t→t<n→x<(ts.getD t (0,0)).1)∧wr=w.drewN q) (fun i j _=>(intOf j).toNat-(intOf i).toNat)
 case atStart=>exact ⟨0,n,0,rfl,rfl,Nat.zero_le _,Nat.le_refl _,Lib.hid (fun t ht=>absurd ht (by omega)),Lib.hid (fun t h1 h2=>absurd h2 (by omega)),rfl⟩
 case round=>
  obtain ⟨i,j,q,rfl,rfl,hij,hj,HI,HJ,rfl⟩:=hrel
  by_cases hlt:i<j
  ·obtain ⟨h,hh⟩: ∃h,h=(i+j)/2:=⟨_,rfl⟩
   have hhi:((i:Int)+j)/2=(h:Int):=by omega
   have hhn:h<n:=by omega
   have hih:i≤h:=by omega
   have hhj:h<j:=by omega
   obtain ⟨y,hy⟩:=get_ex (xs:=ts) (i:=h) (by have :=HS.out.2.2.2;omega)
   have C:=srchf_any b6 b3 A n c ts x (w.drewN q) HS.out h hhn hn y hy
   have hg:ts.getD h (0,0)=y:=by simp [List.getD,hy]
   have HG:=Lib.hid hg
   have stepN:¬x<y.1→Hid (∀t,t<h+1→(ts.getD t (0,0)).1≤x):=fun hx=>Lib.hid fun t ht=>by
    rcases Nat.lt_or_ge t h with h1|h1
    ·have :=HA.out t h h1 hhn;rw [HG.out] at this;omega
    ·obtain rfl:t=h:=by omega
     rw [HG.out];omega
   have stepY:x<y.1→Hid (∀t,h≤t→t<n→x<(ts.getD t (0,0)).1):=fun hx=>Lib.hid fun t h1 h2=>by
    rcases Nat.lt_or_ge h t with h3|h3
    ·have :=HA.out h t h3 h2;rw [HG.out] at this;omega
    ·obtain rfl:t=h:=by omega
     rw [HG.out];exact hx
   have SN:=Lib.hid stepN
   have SY:=Lib.hid stepY
   clear hh hy hg stepN stepY
   by_cases hx:x<y.1
   ·rw [decide_eq_true hx] at C
    have HC:=Lib.hid C
    have N:=SY.out hx
    clear C SN SY
    as_aux_lemma=>
    go_wp2_with fail
    refine HC.out.mono ?_
    rintro e w' ⟨rfl,q2,rfl⟩
    go_wp2_with fail
    go_roundw
    case rel=>exact ⟨i,h,q+q2,rfl,rfl,hih,by omega,HI,N,rfl⟩
    case measure=>simp [intOf];omega
   ·rw [decide_eq_false hx] at C
    have HC:=Lib.hid C
    have N:=SN.out hx
    clear C SN SY
    as_aux_lemma=>
    go_wp2_with fail
    refine HC.out.mono ?_
    rintro e w' ⟨rfl,q2,rfl⟩
    go_wp2_with fail
    go_roundw
    case rel=>exact ⟨h+1,j,q+q2,by go_num,rfl,by omega,hj,N,HJ,rfl⟩
    case measure=>simp [intOf];omega
  ·obtain rfl:i=j:=by omega
   as_aux_lemma=>
   go_wp2_with fail
   go_ret
   exact ⟨i,rfl,hj,HI.out,fun hk=>HJ.out i (Nat.le_refl _) hk,q,rfl⟩
def offV (off:Int) (ts:Zn.L) (er x:Int):Int:=if er≠0 then 0 else if x<0∨8589934592<x then 0 else Zn.offAt off ts x
def offE (er x:Int):Int:=if er≠0 then 8 else if x<0∨8589934592<x then 1 else 0
theorem two_boxes {w w1:World} {o1 o2:Obj} (h:Below ((w.alloc o1).alloc o2).heap.size ((w.alloc o1).alloc o2) w1):Below w.heap.size w w1:=(((Below.refl _ _).alloc (Nat.le_refl _) o1).alloc (by simp) o2).trans (h.mono (by simp;omega))
theorem box_two {w w1:World} {o1:Obj} {v:Value} {T:TypeId} (h:Below ((w.alloc o1).alloc (.cells #[v] T)).heap.size ((w.alloc o1).alloc (.cells #[v] T)) w1):w1.cell? ⟨w.heap.size+1,0,none⟩=some v:=by
 have e:=BlkAt.cell (BlkAt.after (BlkAt.new (w.alloc o1) #[v] T) h) (i:=0) rfl
 simpa using e
theorem box_one {w w1:World} {vs:Array Value} {o2:Obj} {T:TypeId} {i:Nat} {v:Value} (h:Below ((w.alloc (.cells vs T)).alloc o2).heap.size ((w.alloc (.cells vs T)).alloc o2) w1) (hv:vs[i]? =some v):w1.cell? ⟨w.heap.size,i,none⟩=some v:=
 BlkAt.cell (BlkAt.after (BlkAt.alloc (BlkAt.new w vs T) o2) h) hv
theorem vt_asc' {off:Int} {ts:Zn.L} (h:Zn.VT off 0 ts) (i j:Nat) (hij:i<j) (hj:j<ts.length):(ts.getD i (0,0)).1≤(ts.getD j (0,0)).1:=by have :=Zn.vt_asc h i j hij hj;omega
set_option maxHeartbeats 4000000 in
theorem offAt_is {off:Int} {rs:List Zn.Rule} {ts:Zn.L} {er:Int} (h:Zn.trans off rs=(ts,er)) (s:ByteArray) (A:Option Addr) (n c:Nat) (x:Int) (w:World) (hz:ZIn w A n rs) (ho:I64 off):
  Calls Tryz.prog 112 #[.agg #[.string s,.int .i64 off,.slice A n c],.int .i64 x] w fun e w'=>e= .returned (.tuple #[.int .i64 (offV off ts er x),.int .i64 (offE er x)])∧Below w.heap.size w w':=by
 have C:=Lib.hid (trans_is h s A n c _ ((hz.alloc (.cells #[.string s,.int .i64 off,.slice A n c] 71)).alloc (.cells #[.int .i64 x] 3)) ho)
 have HT:=Lib.hid h
 clear hz
 by_cases he:er=0
 ·subst he
  by_cases hx:x<0∨8589934592<x
  ·have hv:=Lib.hid (show offV off ts 0 x=0∧offE 0 x=1 by unfold offV offE;simp [hx])
   have hcs:x<0∨(¬x<0∧8589934592<x):=by omega
   clear h hx
   rcases hcs with h1|⟨h1,h2⟩
   all_goals
    go_enter Tryz.func112,Tryz.ntmps112
    go_wp2_with fail
    refine C.out.mono ?_
    rintro e w1 ⟨A1,c1,rfl,hP,hb⟩
    have hc:w1.cell? ⟨w.heap.size+1,0,none⟩=some (.int .i64 x):=box_two hb
    have hws:w.heap.size+1<w1.heap.size:=by have :=hb.size;simp at this;omega
    go_wp2_with fail
    go_ret2
    exact ⟨by rw [hv.out.1,hv.out.2];rfl,(two_boxes hb).alloc (by have :=(two_boxes hb).size;omega) _⟩
  ·have hok:=Zn.trans_ok h
   obtain ⟨k1,k2,k3,k4,k5,k6,k7,k8⟩:=hok
   have hv:=Lib.hid (show offV off ts 0 x=Zn.offAt off ts x∧offE 0 x=0 by unfold offV offE;simp [hx])
   have x1:¬x<0:=by omega
   have x2:¬8589934592<x:=by omega
   have HVT:=Lib.hid k6
   obtain ⟨q,hq⟩: ∃q,ts.length=q:=⟨_,rfl⟩
   have q640:q≤640:=by omega
   have HQ:=Lib.hid hq
   clear h hx k1 k2 k3 k4 k5 k6 k7 k8
   go_enter Tryz.func112,Tryz.ntmps112
   go_wp2_with fail
   refine C.out.mono ?_
   rintro e w1 ⟨A1,c1,rfl,hP,hb⟩
   rw [hq]
   have hc:w1.cell? ⟨w.heap.size+1,0,none⟩=some (.int .i64 x):=box_two hb
   have hz0:w1.cell? ⟨w.heap.size,1,none⟩=some (.int .i64 off):=box_one (i:=1) hb rfl
   have hws:w.heap.size+1<w1.heap.size:=by have :=hb.size;simp at this;omega
   have hws0:w.heap.size<w1.heap.size:=by omega
   have hS:Srch (w1.alloc (.cells #[.slice A1 q c1] 130)) w1.heap.size (w.heap.size+1) A1 q c1 ts x:=
    ⟨by simp,cell_keep hc ((Below.refl w1.heap.size w1).alloc (Nat.le_refl _) _),hP.alloc _,HQ.out⟩
   have CS:=Lib.hid (search_any _ _ A1 q c1 ts x _ hS q640 (fun i j h1 h2=>vt_asc' HVT.out i j h1 (by have :=HQ.out;omega)))
   have HB:=Lib.hid (two_boxes hb)
   have HP:=Lib.hid (hP.alloc (.cells #[.slice A1 q c1] 130))
   clear hb hP hS hq
   go_wp2_with fail
   refine CS.out.mono ?_
   rintro e w2 ⟨k,rfl,k1,k2,k3,q2,rfl⟩
   have hof:=Zn.offAt_of (off:=off) (x:=x) (ts:=ts) (k:=k) (by have :=HQ.out;omega) k2 (fun hk=>k3 (by have :=HQ.out;omega))
   by_cases hk:k=0
   ·subst hk
    rw [if_pos rfl] at hof
    have HOF:=Lib.hid hof
    clear hof k2 k3
    go_wp2_with fail
    go_ret2
    exact ⟨by rw [hv.out.1,hv.out.2,HOF.out];rfl,below_drewN (HB.out.alloc HB.out.size _) _⟩
   ·obtain ⟨y,hy⟩:=get_ex (xs:=ts) (i:=k-1) (by have :=HQ.out;omega)
    rw [if_neg hk,show ts.getD (k-1) (0,0)=y by simp [List.getD,hy]] at hof
    obtain ⟨b,of,rfl,hbb,hcc⟩:=HP.out (by have :=HQ.out;omega)
    obtain ⟨d0,d1⟩:=pair_cells (hcc _ y hy)
    have e1:((k:Int)==0)=false:=by simp;omega
    have e2:((k:Int)-1).toNat=k-1:=by omega
    have e3:(0:Int)≤(k:Int)-1:=by omega
    have e4:(1:Int)≤(k:Int):=by omega
    have e5:(k:Int)-1<q:=by omega
    have e6:(k:Int)≤640:=by omega
    have HOF:=Lib.hid hof
    clear hof k2 k3 hcc hy
    go_wp2_with fail
    go_ret2
    exact ⟨by rw [hv.out.1,hv.out.2,HOF.out];rfl,below_drewN (HB.out.alloc HB.out.size _) _⟩
 ·have hv:=Lib.hid (show offV off ts er x=0∧offE er x=8 by unfold offV offE;simp [he])
  have hne:(er !=0)=true:=by simpa using he
  clear h he
  go_enter Tryz.func112,Tryz.ntmps112
  go_wp2_with fail
  refine C.out.mono ?_
  rintro e w1 ⟨A1,c1,rfl,hP,hb⟩
  go_wp2_with fail
  go_ret2
  exact ⟨by rw [hv.out.1,hv.out.2];rfl,(two_boxes hb).alloc (by have :=(two_boxes hb).size;omega) _⟩
end Go.Proofs.YtfamcohbnoibaaaGreatDoor
