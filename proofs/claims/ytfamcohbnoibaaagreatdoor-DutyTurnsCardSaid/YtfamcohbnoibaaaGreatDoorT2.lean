import Derived.Test.YtfamcohbnoibaaaGreatDoorT1
import Derived.Test.YtfamcohbnoibaaaGreatDoorKG41
import Derived.Test.YtfamcohbnoibaaaGreatDoorKG25
import Derived.Deep.RegionHeld3
import Derived.Test.YtfamcohbnoibaaaGreatDoorKUw
import Derived.Test.YtfamcohbnoibaaaGreatDoorKG38
set_option linter.unusedVariables false
set_option linter.unusedSimpArgs false
namespace Go.Proofs.YtfamcohbnoibaaaGreatDoor
open Go.RowKit
theorem strk_cases {off:Int} {ts:Zn.L} {W:World} {A1:Option Addr} {q k:Nat} {j:Int} (hP:PairsAt W A1 ts) (hq:ts.length=q) (hk:k≤q) (hj:(k:Int)=j+1):
  ((j<0∧frK ts k=0∧ofK off ts k=off)∨(∃b of,0≤j∧A1=some ⟨b,of,none⟩∧W.cell? ⟨b,of+j.toNat*2,none⟩=some (.int .i64 (frK ts k))∧W.cell? ⟨b,of+j.toNat*2+1,none⟩=some (.int .i64 (ofK off ts k))))∧
  ((¬j+1<q∧toK ts k=8589934593)∨(j+1<q∧ ∃b of,A1=some ⟨b,of,none⟩∧W.cell? ⟨b,of+k*2,none⟩=some (.int .i64 (toK ts k)))):=by
 constructor
 ·rcases Nat.eq_zero_or_pos k with h0|h0
  ·exact .inl ⟨by omega,by subst h0;rfl,by subst h0;rfl⟩
  ·obtain ⟨⟨a,o⟩,hx⟩:=get_ex (xs:=ts) (i:=k-1) (by omega)
   obtain ⟨b,of,hA,hb,hc⟩:=hP (by omega)
   have hkk:k-1+1=k:=by omega
   have e1:=frK_succ hx
   have e2:=ofK_succ (off:=off) hx
   rw [hkk] at e1 e2
   have hjt:j.toNat=k-1:=by omega
   obtain ⟨c0,c1⟩:=pair_cells (hc _ _ hx)
   rw [e1,e2,hjt]
   exact .inr ⟨b,of,by omega,hA,c0,c1⟩
 ·rcases Nat.lt_or_ge k q with h0|h0
  ·obtain ⟨⟨a,o⟩,hx⟩:=get_ex (xs:=ts) (i:=k) (by omega)
   obtain ⟨b,of,hA,hb,hc⟩:=hP (by omega)
   have e1:=toK_in hx
   obtain ⟨c0,c1⟩:=pair_cells (hc _ _ hx)
   rw [e1]
   exact .inr ⟨by omega,b,of,hA,c0⟩
  ·exact .inl ⟨by omega,toK_out (by omega)⟩
set_option maxHeartbeats 8000000 in
set_option maxRecDepth 100000 in
theorem rfirst_ok {off:Int} {rs:List Zn.Rule} {ts:Zn.L} (h:Zn.trans off rs=(ts,0)) (s:ByteArray) (A:Option Addr) (n c:Nat) (d sec:Int) (w:World) (hz:ZIn w A n rs) (ho:I64 off) (d1: -2≤d) (d2:d≤99422) (hs:Zn.okD sec=true):
  Calls Tryz.prog 95 #[.agg #[.string s,.int .i64 off,.slice A n c],.agg #[.int .i64 d,.int .i64 sec]] w (GivesF (fstR (Zn.fst (Zn.locS d sec) (Zn.strs 0 off ts))) (fstC (Zn.fst (Zn.locS d sec) (Zn.strs 0 off ts))) w):=by
 have C:=Lib.hid (rtrans_is h s A n c _ ((hz.alloc (.cells #[.string s,.int .i64 off,.slice A n c] 71)).alloc (.cells #[.int .i64 d,.int .i64 sec] 36)) ho)
 have HTR:=Lib.hid h
 have q640:=(Zn.trans_ok h).2.2.2.2.2.2.1
 have hs2:=Zn.okD_iff.1 hs
 obtain ⟨s1,s2⟩:=hs2
 have hvv:=loc_small d1 d2 sec
 obtain ⟨v,hv⟩: ∃v,Zn.locS d sec=v:=⟨_,rfl⟩
 rw [hv] at hvv ⊢
 have v1: -172800≤v:=by omega
 have v2:v<8590147200:=by omega
 have w1:IntKind.i64.wrap (d*86400)=d*86400:=by rw [IntKind.wrap_i64];omega
 have w2:IntKind.i64.wrap (d*86400+sec)=v:=by rw [←hvv,IntKind.wrap_i64];omega
 have H1:=Lib.hid (fun W=>in_is (inB_yes (n:=sec) (lo:=0) (hi:=86399) s1 (by omega)) W)
 have H2:=Lib.hid (fun W=>small_any d W)
 have hin:=inB_yes d1 d2
 rw [hin] at H2
 obtain ⟨q,hq⟩: ∃q,ts.length=q:=⟨_,rfl⟩
 rw [hq] at q640
 have HQ:=Lib.hid hq
 obtain ⟨ss,hss⟩: ∃ss,Zn.strs 0 off ts=ss:=⟨_,rfl⟩
 have hsl:=Zn.strs_len ts 0 off
 rw [hss] at hsl ⊢
 rw [hq] at hsl
 have HSS:=Lib.hid hss
 have HSLN:=Lib.hid hsl
 clear hz h hv hss hs hin hvv hsl s1 s2
 go_enter Tryz.func95,Tryz.ntmps95
 go_wp2_with fail
 refine C.out.mono ?_
 rintro e w1 ⟨A1,c1,rfl,hP,hb⟩
 rw [hq]
 have ZB:ZBlk w1 w.heap.size s off A n c:=BlkAt.after (BlkAt.alloc (BlkAt.new w _ _) _) hb
 have LB:BlkAt w1 (w.heap.size+1) #[.int .i64 d,.int .i64 sec] 36:=by
  have e:=BlkAt.after (BlkAt.new (w.alloc (.cells #[.string s,.int .i64 off,.slice A n c] 71)) #[.int .i64 d,.int .i64 sec] 36) hb
  rwa [show (w.alloc (.cells #[.string s,.int .i64 off,.slice A n c] 71)).heap.size=w.heap.size+1 by simp] at e
 have HB:=Lib.hid (two_boxes hb)
 have HP:=Lib.hid hP
 have HZB:=Lib.hid ZB
 have HLB:=Lib.hid LB
 obtain ⟨l0,l1⟩:=(show w1.cell? ⟨w.heap.size+1,0,none⟩=some (.int .i64 d)∧w1.cell? ⟨w.heap.size+1,1,none⟩=some (.int .i64 sec) from ⟨BlkAt.cell LB rfl,BlkAt.cell LB rfl⟩)
 clear hb hP hq ZB LB
 go_wp2_with (first|(go_at_call 96;refine (H1.out _).mono ?_;rintro e w' ⟨rfl,rfl⟩)|(go_at_call 137;refine (H2.out _).mono ?_;rintro e w' ⟨rfl,rfl⟩))
 obtain ⟨r,hr⟩: ∃r,Zn.fst v ss=r:=⟨_,rfl⟩
 have HR:=Lib.hid hr
 have HR0:Hid (Zn.fst v (ss.drop 0)=r):=Lib.hid hr
 rw [hr]
 clear hr
 go_loopw [8] (fun i wr=> ∃(k:Nat) (j:Int),k≤q+1∧(k:Int)=j+1∧i= .int .i64 j∧Hid (Zn.fst v (ss.drop k)=r)∧Hid (Below w1.heap.size w1 wr)) (fun i _=>(q-intOf i).toNat)
 case atStart=>exact ⟨0, -1,Nat.zero_le _,by omega,rfl,HR0,Lib.hid (Below.refl _ _)⟩
 case round=>
  clear l0 l1 HR0
  obtain ⟨k,j,hk,hkj,rfl,HO,HB2⟩:=hrel
  by_cases hlt:j<q
  ·have hst:=strs_get off ts k (by have :=HQ.out;omega)
   rw [HSS.out] at hst
   have hsn:=fst_step (v:=v) hst
   rw [HO.out,Int.max_comm] at hsn
   have hbd:=frK_bd HTR.out (k:=k) (by have :=HQ.out;omega)
   obtain ⟨CA,CB⟩:=strk_cases (off:=off) (HP.out.below HB2.out) HQ.out (show k≤q by omega) hkj
   obtain ⟨F,hF⟩: ∃F,frK ts k=F:=⟨_,rfl⟩
   obtain ⟨T,hT⟩: ∃F,toK ts k=F:=⟨_,rfl⟩
   obtain ⟨O,hO⟩: ∃F,ofK off ts k=F:=⟨_,rfl⟩
   rw [hF,hO] at CA
   rw [hT] at CB
   rw [hF,hT,hO] at hsn hbd
   obtain ⟨b1,b2,b3,b4,b5,b6⟩:=hbd
   obtain ⟨z0,z1,z2⟩:=ZBlk.cells (BlkAt.after HZB.out HB2.out)
   have LB:=BlkAt.after HLB.out HB2.out
   obtain ⟨l0,l1⟩:=(show wr.cell? ⟨w.heap.size+1,0,none⟩=some (.int .i64 d)∧wr.cell? ⟨w.heap.size+1,1,none⟩=some (.int .i64 sec) from ⟨BlkAt.cell LB rfl,BlkAt.cell LB rfl⟩)
   obtain ⟨m,m1⟩: ∃m,max F (v-O)=m:=⟨_,rfl⟩
   rw [m1] at hsn
   have NY:m<T→Hid (r=some m):=fun h1=>Lib.hid (by rw [hsn,if_pos (by omega)])
   have NN:¬m<T→Hid (Zn.fst v (ss.drop (k+1))=r):=fun h1=>Lib.hid (by rw [hsn,if_neg (by omega)])
   have w3:IntKind.i64.wrap (v-O)=v-O:=by rw [IntKind.wrap_i64];omega
   have w4:IntKind.i64.wrap (j+1)=j+1:=by rw [IntKind.wrap_i64];omega
   have w5:(j+1).toNat=k:=by omega
   have w6:(0:Int)≤j+1:=by omega
   have HNY:=Lib.hid NY
   have HNN:=Lib.hid NN
   have B4:=Lib.hid (HB.out.trans (HB2.out.mono HB.out.size))
   clear hst hsn LB NY NN hF hT hO HO
   rcases CA with ⟨j0,f0,o0⟩|⟨b,of,j0,hA1,a0,a1⟩
   ·subst f0
    subst o0
    rcases CB with ⟨jq,t0⟩|⟨jq,b,of,hA1,d0⟩
    ·subst t0
     by_cases p1:m<8589934593
     ·have N:=HNY.out p1
      clear HNY HNN
      go_wp2_with fail
      go_ret2
      exact ⟨by rw [N.out];rfl,(by first|exact B4.out|exact below_drewN B4.out _)⟩
     ·have N:=HNN.out p1
      clear HNY HNN
      go_wp2_with fail
      go_roundw
      case rel=>exact ⟨k+1,j+1,by omega,by omega,by go_num,N,(by first|exact HB2|exact Lib.hid (below_drewN HB2.out _))⟩
      case measure=>simp [intOf];omega
    ·subst hA1
     by_cases p1:m<T
     ·have N:=HNY.out p1
      clear HNY HNN
      go_wp2_with fail
      go_ret2
      exact ⟨by rw [N.out];rfl,(by first|exact B4.out|exact below_drewN B4.out _)⟩
     ·have N:=HNN.out p1
      clear HNY HNN
      go_wp2_with fail
      go_roundw
      case rel=>exact ⟨k+1,j+1,by omega,by omega,by go_num,N,(by first|exact HB2|exact Lib.hid (below_drewN HB2.out _))⟩
      case measure=>simp [intOf];omega
   ·subst hA1
    rcases CB with ⟨jq,t0⟩|⟨jq,b',of',hA1,d0⟩
    ·subst t0
     by_cases p1:m<8589934593
     ·have N:=HNY.out p1
      clear HNY HNN
      go_wp2_with fail
      go_quiet (fail)
      go_wp2_with fail
      go_ret2
      exact ⟨by rw [N.out];rfl,(by first|exact B4.out|exact below_drewN B4.out _)⟩
     ·have N:=HNN.out p1
      clear HNY HNN
      go_wp2_with fail
      go_quiet (fail)
      go_wp2_with fail
      go_roundw
      case rel=>exact ⟨k+1,j+1,by omega,by omega,by go_num,N,(by first|exact HB2|exact Lib.hid (below_drewN HB2.out _))⟩
      case measure=>simp [intOf];omega
    ·cases hA1
     by_cases p1:m<T
     ·have N:=HNY.out p1
      clear HNY HNN
      go_wp2_with fail
      go_quiet (fail)
      go_wp2_with fail
      go_ret2
      exact ⟨by rw [N.out];rfl,(by first|exact B4.out|exact below_drewN B4.out _)⟩
     ·have N:=HNN.out p1
      clear HNY HNN
      go_wp2_with fail
      go_quiet (fail)
      go_wp2_with fail
      go_roundw
      case rel=>exact ⟨k+1,j+1,by omega,by omega,by go_num,N,(by first|exact HB2|exact Lib.hid (below_drewN HB2.out _))⟩
      case measure=>simp [intOf];omega
  ·have hkk:ss.drop k=[]:=List.drop_of_length_le (by have :=HSLN.out;omega)
   have e:=HO.out
   rw [hkk] at e
   have HE:=Lib.hid e.symm
   have B4:=Lib.hid (HB.out.trans (HB2.out.mono HB.out.size))
   clear hkk e HO
   go_wp2_with fail
   go_ret2
   exact ⟨by rw [HR.out,HE.out];rfl,B4.out⟩
set_option maxHeartbeats 2000000 in
theorem rfirst_is {off:Int} {rs:List Zn.Rule} {ts:Zn.L} {er:Int} (h:Zn.trans off rs=(ts,er)) (s:ByteArray) (A:Option Addr) (n c:Nat) (d sec:Int) (w:World) (hz:ZIn w A n rs) (ho:I64 off) (hd:I64 d):
  Calls Tryz.prog 95 #[.agg #[.string s,.int .i64 off,.slice A n c],.agg #[.int .i64 d,.int .i64 sec]] w (GivesF (fstV off ts er d sec) (fstE off ts er d sec) w):=by
 have C:=Lib.hid (rtrans_is h s A n c _ ((hz.alloc (.cells #[.string s,.int .i64 off,.slice A n c] 71)).alloc (.cells #[.int .i64 d,.int .i64 sec] 36)) ho)
 by_cases he:er=0
 ·subst he
  cases hs:Zn.okD sec
  ·have H1:=Lib.hid (fun W=>in_is (inB_no (n:=sec) (lo:=0) (hi:=86399) (by unfold Zn.okD at hs;simp at hs;omega)) W)
   have hv:fstV off ts 0 d sec=0∧fstE off ts 0 d sec=1:=by unfold fstV fstE;simp [hs]
   rw [hv.1,hv.2]
   clear hz h hs hv
   go_enter Tryz.func95,Tryz.ntmps95
   go_wp2_with fail
   refine C.out.mono ?_
   rintro e w1 ⟨A1,c1,rfl,hP,hb⟩
   have l1:w1.cell? ⟨w.heap.size+1,1,none⟩=some (.int .i64 sec):=by
    have e:=BlkAt.cell (BlkAt.after (BlkAt.new (w.alloc (.cells #[.string s,.int .i64 off,.slice A n c] 71)) #[.int .i64 d,.int .i64 sec] 36) hb) (i:=1) rfl
    simpa using e
   have HB:=Lib.hid (two_boxes hb)
   clear hb hP
   go_wp2_with (go_at_call 96;refine (H1.out _).mono ?_;rintro e w' ⟨rfl,rfl⟩)
   go_ret2
   exact ⟨rfl,HB.out⟩
  ·have hv:fstV off ts 0 d sec=fstR (Zn.fst (Zn.locS d sec) (Zn.strs 0 off ts))∧fstE off ts 0 d sec=fstC (Zn.fst (Zn.locS d sec) (Zn.strs 0 off ts)):=by unfold fstV fstE;simp [hs]
   rw [hv.1,hv.2]
   by_cases hsm: -2≤d∧d≤99422
   ·exact rfirst_ok h s A n c d sec w hz ho hsm.1 hsm.2 hs
   ·by_cases hel:d< -2
    ·rw [fst_early h hel hs]
     have hs2:=Zn.okD_iff.1 hs
     have H1:=Lib.hid (fun W=>in_is (inB_yes (n:=sec) (lo:=0) (hi:=86399) (by omega) (by omega)) W)
     clear hz h hs hs2 hv hsm
     go_enter Tryz.func95,Tryz.ntmps95
     go_wp2_with fail
     refine C.out.mono ?_
     rintro e w1 ⟨A1,c1,rfl,hP,hb⟩
     have LB:BlkAt w1 (w.heap.size+1) #[.int .i64 d,.int .i64 sec] 36:=by
      have e:=BlkAt.after (BlkAt.new (w.alloc (.cells #[.string s,.int .i64 off,.slice A n c] 71)) #[.int .i64 d,.int .i64 sec] 36) hb
      rwa [show (w.alloc (.cells #[.string s,.int .i64 off,.slice A n c] 71)).heap.size=w.heap.size+1 by simp] at e
     obtain ⟨l0,l1⟩:=(show w1.cell? ⟨w.heap.size+1,0,none⟩=some (.int .i64 d)∧w1.cell? ⟨w.heap.size+1,1,none⟩=some (.int .i64 sec) from ⟨BlkAt.cell LB rfl,BlkAt.cell LB rfl⟩)
     have HB:=Lib.hid (two_boxes hb)
     clear hb hP LB
     go_wp2_with (go_at_call 96;refine (H1.out _).mono ?_;rintro e w' ⟨rfl,rfl⟩)
     go_ret2
     exact ⟨rfl,HB.out⟩
    ·have hlate:99422<d:=by omega
     rw [fst_far h hlate hs]
     have hs2:=Zn.okD_iff.1 hs
     have H1:=Lib.hid (fun W=>in_is (inB_yes (n:=sec) (lo:=0) (hi:=86399) (by omega) (by omega)) W)
     have H2:=Lib.hid (fun W=>small_any d W)
     have hin:=inB_no (n:=d) (lo:= -2) (hi:=99422) (by omega)
     rw [hin] at H2
     clear hz h hs hs2 hin hv hsm
     go_enter Tryz.func95,Tryz.ntmps95
     go_wp2_with fail
     refine C.out.mono ?_
     rintro e w1 ⟨A1,c1,rfl,hP,hb⟩
     have LB:BlkAt w1 (w.heap.size+1) #[.int .i64 d,.int .i64 sec] 36:=by
      have e:=BlkAt.after (BlkAt.new (w.alloc (.cells #[.string s,.int .i64 off,.slice A n c] 71)) #[.int .i64 d,.int .i64 sec] 36) hb
      rwa [show (w.alloc (.cells #[.string s,.int .i64 off,.slice A n c] 71)).heap.size=w.heap.size+1 by simp] at e
     obtain ⟨l0,l1⟩:=(show w1.cell? ⟨w.heap.size+1,0,none⟩=some (.int .i64 d)∧w1.cell? ⟨w.heap.size+1,1,none⟩=some (.int .i64 sec) from ⟨BlkAt.cell LB rfl,BlkAt.cell LB rfl⟩)
     have HB:=Lib.hid (two_boxes hb)
     clear hb hP LB
     go_wp2_with (first|(go_at_call 96;refine (H1.out _).mono ?_;rintro e w' ⟨rfl,rfl⟩)|(go_at_call 137;refine (H2.out _).mono ?_;rintro e w' ⟨rfl,rfl⟩))
     go_ret2
     exact ⟨rfl,HB.out⟩
 ·have hne:(er !=0)=true:=by simpa using he
  have hv:fstV off ts er d sec=0∧fstE off ts er d sec=8:=by unfold fstV fstE;simp [he]
  rw [hv.1,hv.2]
  clear hz h hv he
  go_enter Tryz.func95,Tryz.ntmps95
  go_wp2_with fail
  refine C.out.mono ?_
  rintro e w1 ⟨A1,c1,rfl,hP,hb⟩
  go_wp2_with fail
  go_ret2
  exact ⟨rfl,two_boxes hb⟩
end Go.Proofs.YtfamcohbnoibaaaGreatDoor
set_option maxRecDepth 100000
namespace Go.Proofs.YtfamcohbnoibaaaGreatDoor
open Go.RowKit
theorem fstV_none {off:Int} {ts:Zn.L} {D S:Int} (hs:Zn.okD S=true) (h:Zn.fst (Zn.locS D S) (Zn.strs 0 off ts)=none):fstV off ts 0 D S=0∧fstE off ts 0 D S=10:=by
 unfold fstV fstE
 simp [hs,h,fstR,fstC]
def HanV (H:Option Int) (w:World) (e:Ending) (w':World):Prop:= ∃(v:Int) (b:Bool),e= .returned (.tuple #[.int .i64 v,.bool b])∧Below w.heap.size w w'∧(b=true→H=some v)∧(b=false→H=none)
set_option maxHeartbeats 8000000 in
theorem rhan_is {off:Int} {rs:List Zn.Rule} {ts:Zn.L} (hZ:Zn.trans off rs=(ts,0)) {u ee D S:Int} (hr:Rc.Rt u ee D S) (s:ByteArray) (A:Option Addr) (n c:Nat) (nm:ByteArray) (lz:Int) (m1:Option Addr) (m2 m3:Nat) (q1:Option Addr) (q2 q3:Nat) (lc lm:Int) (k:Int) (w:World) (hz:ZIn w A n rs) (ho:I64 off) (h0:0≤k) (h1:k≤3000000):
  Calls Tryz.prog 65 #[.agg #[.string s,.int .i64 off,.slice A n c],.agg #[.string nm,.int .i64 lz,.int .i64 D,.int .i64 S,.int .i64 u,.int .i64 ee,.slice m1 m2 m3,.slice q1 q2 q3,.int .i64 lc,.int .i64 lm],.int .i64 k] w (HanV (Rc.hV off ts u ee D S k) w):=by
 have HC:=Lib.hid (show ∀(d:Int),I64 d→ ∀W,Below w.heap.size w W→Calls Tryz.prog 95 #[.agg #[.string s,.int .i64 off,.slice A n c],.agg #[.int .i64 d,.int .i64 S]] W (GivesF (fstV off ts 0 d S) (fstE off ts 0 d S) W) from fun d hd W hb=>rfirst_is hZ s A n c d S W (hz.below hb) ho hd)
 have e1:=hr.n1;have e4:=hr.n4;have d1:=hr.d1;have d2:=hr.dm;have u0:=hr.u0;have u2:=hr.u2
 have p0:0≤k*ee:=Int.mul_nonneg h0 (by omega)
 have p1:k*ee≤3000000*400:=Int.mul_le_mul h1 e4 (by omega) (by omega)
 have hHV:=Lib.hid (show Rc.hV off ts u ee D S k=Rc.hV off ts u ee D S k from rfl)
 obtain ⟨p,hp⟩: ∃p,k*ee=p:=⟨_,rfl⟩
 rw [hp] at p0 p1
 have ⟨w1,w1'⟩:=wrapn (n:=p) (by omega)
 have ⟨w2,w2'⟩:=wrapn (n:=p*3600) (by omega)
 have ⟨w3,w3'⟩:=wrapn (n:=p*7) (by omega)
 have hok:=hr.okD
 by_cases hu:u=0
 ·subst hu
  have ZB:=Lib.hid (show BlkAt ((w.alloc (.cells #[.string s,.int .i64 off,.slice A n c] 71)).alloc (.cells #[.string nm,.int .i64 lz,.int .i64 D,.int .i64 S,.int .i64 0,.int .i64 ee,.slice m1 m2 m3,.slice q1 q2 q3,.int .i64 lc,.int .i64 lm] 39)) w.heap.size #[.string s,.int .i64 off,.slice A n c] 71 from BlkAt.alloc (BlkAt.new w _ _) _)
  have LB:=Lib.hid (show BlkAt ((w.alloc (.cells #[.string s,.int .i64 off,.slice A n c] 71)).alloc (.cells #[.string nm,.int .i64 lz,.int .i64 D,.int .i64 S,.int .i64 0,.int .i64 ee,.slice m1 m2 m3,.slice q1 q2 q3,.int .i64 lc,.int .i64 lm] 39)) (w.heap.size+1) #[.string nm,.int .i64 lz,.int .i64 D,.int .i64 S,.int .i64 0,.int .i64 ee,.slice m1 m2 m3,.slice q1 q2 q3,.int .i64 lc,.int .i64 lm] 39 from by have :=BlkAt.new (w.alloc (.cells #[.string s,.int .i64 off,.slice A n c] 71)) #[.string nm,.int .i64 lz,.int .i64 D,.int .i64 S,.int .i64 0,.int .i64 ee,.slice m1 m2 m3,.slice q1 q2 q3,.int .i64 lc,.int .i64 lm] 39;simpa using this)
  have HB:=Lib.hid (((Below.refl w.heap.size w).alloc (Nat.le_refl _) (.cells #[.string s,.int .i64 off,.slice A n c] 71)).alloc (by simp) (.cells #[.string nm,.int .i64 lz,.int .i64 D,.int .i64 S,.int .i64 0,.int .i64 ee,.slice m1 m2 m3,.slice q1 q2 q3,.int .i64 lc,.int .i64 lm] 39))
  have hD:I64 D:=⟨by omega,by omega⟩
  cases hf:Zn.fst (Zn.locS D S) (Zn.strs 0 off ts) with
  |none=>
   have HN:=Lib.hid (show Rc.hV off ts 0 ee D S k=none by unfold Rc.hV;rw [if_pos rfl,hf];rfl)
   have hfv:=fstV_none hok hf
   have ⟨w4,w4'⟩:=wrapn (n:=0+p*3600) (by omega)
   have HD:=Lib.hid hD
   clear hz hf hok hHV hr hD
   go_enter Tryz.func65,Tryz.ntmps65
   go_upto_region 1 with fail
   generalize (w.alloc (.cells #[.string s,.int .i64 off,.slice A n c] 71)).alloc (.cells #[.string nm,.int .i64 lz,.int .i64 D,.int .i64 S,.int .i64 0,.int .i64 ee,.slice m1 m2 m3,.slice q1 q2 q3,.int .i64 lc,.int .i64 lm] 39)=W0 at ZB LB HB ⊢
   have z0:=ZB.out.cell (i:=0) rfl;have z1:=ZB.out.cell (i:=1) rfl;have z2:=ZB.out.cell (i:=2) rfl;have l0:=LB.out.cell (i:=0) rfl;have l1:=LB.out.cell (i:=1) rfl;have l2:=LB.out.cell (i:=2) rfl;have l3:=LB.out.cell (i:=3) rfl;have l4:=LB.out.cell (i:=4) rfl;have l5:=LB.out.cell (i:=5) rfl;have l6:=LB.out.cell (i:=6) rfl;have l7:=LB.out.cell (i:=7) rfl;have l8:=LB.out.cell (i:=8) rfl;have l9:=LB.out.cell (i:=9) rfl;
   go_wp2_with (go_at_call 95;refine (HC.out D HD.out _ HB.out).mono ?_;rintro e w5 ⟨rfl,hb5⟩;rw [hfv.1,hfv.2];have l4':=(LB.out.after hb5).cell (i:=4) rfl;have l5':=(LB.out.after hb5).cell (i:=5) rfl;have HB5:=Lib.hid (bstep HB.out hb5);clear hb5)
   go_wp2_with fail
   go_ret2
   exact ⟨_,_,rfl,HB5.out,fun h=>(by cases h),fun _=>HN.out⟩
  |some x=>
   obtain ⟨x1,x2, -⟩:=Rc.fst_facts (Zn.trans_vz hZ) (Rc.locS_lo hr.d1 hr.s0) hf
   have hfv:=fstV_ok hok rfl hf
   have ⟨w4,w4'⟩:=wrapn (n:=x+p*3600) (by omega)
   have HD:=Lib.hid hD
   by_cases hm:x+p*3600≤8589934592
   ·have HN:=Lib.hid (show Rc.hV off ts 0 ee D S k=some (x+p*3600) by unfold Rc.hV;rw [if_pos rfl,hf,hp];simp only [Option.bind_some];exact if_pos hm)
    clear hz hf hok hHV hr hD
    go_enter Tryz.func65,Tryz.ntmps65
    go_upto_region 1 with fail
    generalize (w.alloc (.cells #[.string s,.int .i64 off,.slice A n c] 71)).alloc (.cells #[.string nm,.int .i64 lz,.int .i64 D,.int .i64 S,.int .i64 0,.int .i64 ee,.slice m1 m2 m3,.slice q1 q2 q3,.int .i64 lc,.int .i64 lm] 39)=W0 at ZB LB HB ⊢
    have z0:=ZB.out.cell (i:=0) rfl;have z1:=ZB.out.cell (i:=1) rfl;have z2:=ZB.out.cell (i:=2) rfl;have l0:=LB.out.cell (i:=0) rfl;have l1:=LB.out.cell (i:=1) rfl;have l2:=LB.out.cell (i:=2) rfl;have l3:=LB.out.cell (i:=3) rfl;have l4:=LB.out.cell (i:=4) rfl;have l5:=LB.out.cell (i:=5) rfl;have l6:=LB.out.cell (i:=6) rfl;have l7:=LB.out.cell (i:=7) rfl;have l8:=LB.out.cell (i:=8) rfl;have l9:=LB.out.cell (i:=9) rfl;
    go_wp2_with (go_at_call 95;refine (HC.out D HD.out _ HB.out).mono ?_;rintro e w5 ⟨rfl,hb5⟩;rw [hfv.1,hfv.2];have l4':=(LB.out.after hb5).cell (i:=4) rfl;have l5':=(LB.out.after hb5).cell (i:=5) rfl;have HB5:=Lib.hid (bstep HB.out hb5);clear hb5)
    go_wp2_with fail
    go_ret2
    exact ⟨_,_,rfl,HB5.out,fun _=>HN.out,fun h=>(by simp at h)⟩
   ·have HN:=Lib.hid (show Rc.hV off ts 0 ee D S k=none by unfold Rc.hV;rw [if_pos rfl,hf,hp];simp only [Option.bind_some];exact if_neg hm)
    clear hz hf hok hHV hr hD
    go_enter Tryz.func65,Tryz.ntmps65
    go_upto_region 1 with fail
    generalize (w.alloc (.cells #[.string s,.int .i64 off,.slice A n c] 71)).alloc (.cells #[.string nm,.int .i64 lz,.int .i64 D,.int .i64 S,.int .i64 0,.int .i64 ee,.slice m1 m2 m3,.slice q1 q2 q3,.int .i64 lc,.int .i64 lm] 39)=W0 at ZB LB HB ⊢
    have z0:=ZB.out.cell (i:=0) rfl;have z1:=ZB.out.cell (i:=1) rfl;have z2:=ZB.out.cell (i:=2) rfl;have l0:=LB.out.cell (i:=0) rfl;have l1:=LB.out.cell (i:=1) rfl;have l2:=LB.out.cell (i:=2) rfl;have l3:=LB.out.cell (i:=3) rfl;have l4:=LB.out.cell (i:=4) rfl;have l5:=LB.out.cell (i:=5) rfl;have l6:=LB.out.cell (i:=6) rfl;have l7:=LB.out.cell (i:=7) rfl;have l8:=LB.out.cell (i:=8) rfl;have l9:=LB.out.cell (i:=9) rfl;
    go_wp2_with (go_at_call 95;refine (HC.out D HD.out _ HB.out).mono ?_;rintro e w5 ⟨rfl,hb5⟩;rw [hfv.1,hfv.2];have l4':=(LB.out.after hb5).cell (i:=4) rfl;have l5':=(LB.out.after hb5).cell (i:=5) rfl;have HB5:=Lib.hid (bstep HB.out hb5);clear hb5)
    go_wp2_with fail
    go_ret2
    exact ⟨_,_,rfl,HB5.out,fun h=>False.elim (by have :=of_decide_eq_true h;omega),fun _=>HN.out⟩
 ·have fu:(u==0)=false:=by simpa using hu
  have key: ∀(q:Int),D+q=D+k*Rc.stp u ee→ ∃(x:Int) (b:Bool),fstV off ts 0 (D+q) S=x∧(fstE off ts 0 (D+q) S==0)=b∧(b=true→Rc.hV off ts u ee D S k=some x)∧(b=false→Rc.hV off ts u ee D S k=none):=fun q hq=>by
   have e0:Rc.hV off ts u ee D S k=Zn.fst (Zn.locS (D+q) S) (Zn.strs 0 off ts):=by unfold Rc.hV;rw [if_neg hu,hq]
   cases hf:Zn.fst (Zn.locS (D+q) S) (Zn.strs 0 off ts) with
   |none=>
    have hfv:=fstV_none hok hf
    refine ⟨_,_,rfl,rfl,fun h=> ?_,fun _=> ?_⟩
    ·rw [hfv.2] at h;cases h
    ·rw [e0,hf]
   |some y=>
    have hfv:=fstV_ok hok rfl hf
    refine ⟨_,_,rfl,rfl,fun _=> ?_,fun h=> ?_⟩
    ·rw [e0,hf,hfv.1]
    ·rw [hfv.2] at h;cases h
  by_cases h2:u=2
  ·subst h2
   obtain ⟨x,b,hx,hb,g1,g2⟩:=key (p*7) (by unfold Rc.stp;rw [if_pos rfl, ←hp,Int.mul_assoc])
   have HG:=Lib.hid (And.intro g1 g2)
   have ⟨w4,w4'⟩:=wrapn (n:=D+p*7) (by omega)
   have HD:=Lib.hid (show I64 (D+p*7) from ⟨by omega,by omega⟩)
   have HX:=Lib.hid hx
   generalize hfe:fstE off ts 0 (D+p*7) S=er at hb
   have HE:=Lib.hid hfe
   have ZB:=Lib.hid (show BlkAt ((w.alloc (.cells #[.string s,.int .i64 off,.slice A n c] 71)).alloc (.cells #[.string nm,.int .i64 lz,.int .i64 D,.int .i64 S,.int .i64 2,.int .i64 ee,.slice m1 m2 m3,.slice q1 q2 q3,.int .i64 lc,.int .i64 lm] 39)) w.heap.size #[.string s,.int .i64 off,.slice A n c] 71 from BlkAt.alloc (BlkAt.new w _ _) _)
   have LB:=Lib.hid (show BlkAt ((w.alloc (.cells #[.string s,.int .i64 off,.slice A n c] 71)).alloc (.cells #[.string nm,.int .i64 lz,.int .i64 D,.int .i64 S,.int .i64 2,.int .i64 ee,.slice m1 m2 m3,.slice q1 q2 q3,.int .i64 lc,.int .i64 lm] 39)) (w.heap.size+1) #[.string nm,.int .i64 lz,.int .i64 D,.int .i64 S,.int .i64 2,.int .i64 ee,.slice m1 m2 m3,.slice q1 q2 q3,.int .i64 lc,.int .i64 lm] 39 from by have :=BlkAt.new (w.alloc (.cells #[.string s,.int .i64 off,.slice A n c] 71)) #[.string nm,.int .i64 lz,.int .i64 D,.int .i64 S,.int .i64 2,.int .i64 ee,.slice m1 m2 m3,.slice q1 q2 q3,.int .i64 lc,.int .i64 lm] 39;simpa using this)
   have HB:=Lib.hid (((Below.refl w.heap.size w).alloc (Nat.le_refl _) (.cells #[.string s,.int .i64 off,.slice A n c] 71)).alloc (by simp) (.cells #[.string nm,.int .i64 lz,.int .i64 D,.int .i64 S,.int .i64 2,.int .i64 ee,.slice m1 m2 m3,.slice q1 q2 q3,.int .i64 lc,.int .i64 lm] 39))
   clear hz hok hHV hr key g1 g2 hx hfe
   go_enter Tryz.func65,Tryz.ntmps65
   go_upto_region 1 with fail
   generalize (w.alloc (.cells #[.string s,.int .i64 off,.slice A n c] 71)).alloc (.cells #[.string nm,.int .i64 lz,.int .i64 D,.int .i64 S,.int .i64 2,.int .i64 ee,.slice m1 m2 m3,.slice q1 q2 q3,.int .i64 lc,.int .i64 lm] 39)=W0 at ZB LB HB ⊢
   have z0:=ZB.out.cell (i:=0) rfl;have z1:=ZB.out.cell (i:=1) rfl;have z2:=ZB.out.cell (i:=2) rfl;have l0:=LB.out.cell (i:=0) rfl;have l1:=LB.out.cell (i:=1) rfl;have l2:=LB.out.cell (i:=2) rfl;have l3:=LB.out.cell (i:=3) rfl;have l4:=LB.out.cell (i:=4) rfl;have l5:=LB.out.cell (i:=5) rfl;have l6:=LB.out.cell (i:=6) rfl;have l7:=LB.out.cell (i:=7) rfl;have l8:=LB.out.cell (i:=8) rfl;have l9:=LB.out.cell (i:=9) rfl;
   go_wp2_with (go_at_call 95;refine (HC.out (D+p*7) HD.out _ HB.out).mono ?_;rintro e w5 ⟨rfl,hb5⟩;rw [HX.out,HE.out];have HB5:=Lib.hid (bstep HB.out hb5);clear hb5)
   go_wp2_with fail
   go_ret2
   exact ⟨_,_,rfl,HB5.out,HG.out.1,HG.out.2⟩
  ·obtain rfl:u=1:=by omega
   obtain ⟨x,b,hx,hb,g1,g2⟩:=key p (by unfold Rc.stp;rw [if_neg (by omega),hp])
   have HG:=Lib.hid (And.intro g1 g2)
   have ⟨w4,w4'⟩:=wrapn (n:=D+p) (by omega)
   have HD:=Lib.hid (show I64 (D+p) from ⟨by omega,by omega⟩)
   have HX:=Lib.hid hx
   generalize hfe:fstE off ts 0 (D+p) S=er at hb
   have HE:=Lib.hid hfe
   have ZB:=Lib.hid (show BlkAt ((w.alloc (.cells #[.string s,.int .i64 off,.slice A n c] 71)).alloc (.cells #[.string nm,.int .i64 lz,.int .i64 D,.int .i64 S,.int .i64 1,.int .i64 ee,.slice m1 m2 m3,.slice q1 q2 q3,.int .i64 lc,.int .i64 lm] 39)) w.heap.size #[.string s,.int .i64 off,.slice A n c] 71 from BlkAt.alloc (BlkAt.new w _ _) _)
   have LB:=Lib.hid (show BlkAt ((w.alloc (.cells #[.string s,.int .i64 off,.slice A n c] 71)).alloc (.cells #[.string nm,.int .i64 lz,.int .i64 D,.int .i64 S,.int .i64 1,.int .i64 ee,.slice m1 m2 m3,.slice q1 q2 q3,.int .i64 lc,.int .i64 lm] 39)) (w.heap.size+1) #[.string nm,.int .i64 lz,.int .i64 D,.int .i64 S,.int .i64 1,.int .i64 ee,.slice m1 m2 m3,.slice q1 q2 q3,.int .i64 lc,.int .i64 lm] 39 from by have :=BlkAt.new (w.alloc (.cells #[.string s,.int .i64 off,.slice A n c] 71)) #[.string nm,.int .i64 lz,.int .i64 D,.int .i64 S,.int .i64 1,.int .i64 ee,.slice m1 m2 m3,.slice q1 q2 q3,.int .i64 lc,.int .i64 lm] 39;simpa using this)
   have HB:=Lib.hid (((Below.refl w.heap.size w).alloc (Nat.le_refl _) (.cells #[.string s,.int .i64 off,.slice A n c] 71)).alloc (by simp) (.cells #[.string nm,.int .i64 lz,.int .i64 D,.int .i64 S,.int .i64 1,.int .i64 ee,.slice m1 m2 m3,.slice q1 q2 q3,.int .i64 lc,.int .i64 lm] 39))
   clear hz hok hHV hr key g1 g2 hx hfe
   go_enter Tryz.func65,Tryz.ntmps65
   go_upto_region 1 with fail
   generalize (w.alloc (.cells #[.string s,.int .i64 off,.slice A n c] 71)).alloc (.cells #[.string nm,.int .i64 lz,.int .i64 D,.int .i64 S,.int .i64 1,.int .i64 ee,.slice m1 m2 m3,.slice q1 q2 q3,.int .i64 lc,.int .i64 lm] 39)=W0 at ZB LB HB ⊢
   have z0:=ZB.out.cell (i:=0) rfl;have z1:=ZB.out.cell (i:=1) rfl;have z2:=ZB.out.cell (i:=2) rfl;have l0:=LB.out.cell (i:=0) rfl;have l1:=LB.out.cell (i:=1) rfl;have l2:=LB.out.cell (i:=2) rfl;have l3:=LB.out.cell (i:=3) rfl;have l4:=LB.out.cell (i:=4) rfl;have l5:=LB.out.cell (i:=5) rfl;have l6:=LB.out.cell (i:=6) rfl;have l7:=LB.out.cell (i:=7) rfl;have l8:=LB.out.cell (i:=8) rfl;have l9:=LB.out.cell (i:=9) rfl;
   go_wp2_with (go_at_call 95;refine (HC.out (D+p) HD.out _ HB.out).mono ?_;rintro e w5 ⟨rfl,hb5⟩;rw [HX.out,HE.out];have HB5:=Lib.hid (bstep HB.out hb5);clear hb5)
   go_wp2_with fail
   go_ret2
   exact ⟨_,_,rfl,HB5.out,HG.out.1,HG.out.2⟩
end Go.Proofs.YtfamcohbnoibaaaGreatDoor
namespace Go.Proofs.YtfamcohbnoibaaaGreatDoor
open Go.RowKit
set_option maxHeartbeats 8000000 in
theorem rchk_is {off:Int} {rs:List Zn.Rule} {ts:Zn.L} (hZ:Zn.trans off rs=(ts,0)) (u ee D S:Int) (s:ByteArray) (A:Option Addr) (n c:Nat) (nm:ByteArray) (lz:Int) (m1:Option Addr) (m2 m3:Nat) (q1:Option Addr) (q2 q3:Nat) (lc lm:Int) (w:World) (hz:ZIn w A n rs) (ho:I64 off):
  Calls Tryz.prog 64 #[.agg #[.string s,.int .i64 off,.slice A n c],.agg #[.string nm,.int .i64 lz,.int .i64 D,.int .i64 S,.int .i64 u,.int .i64 ee,.slice m1 m2 m3,.slice q1 q2 q3,.int .i64 lc,.int .i64 lm]] w fun e w'=>e= .returned (.int .i64 (Rc.chkO (Rc.okL u ee D S m2)))∧Below w.heap.size w w':=by
 have HC:=Lib.hid (show ∀W,Below w.heap.size w W→_ from fun W hb=>rcheck_is hZ s A n c W (hz.below hb) ho)
 have ZB:=Lib.hid (show BlkAt ((w.alloc (.cells #[.string s,.int .i64 off,.slice A n c] 71)).alloc (.cells #[.string nm,.int .i64 lz,.int .i64 D,.int .i64 S,.int .i64 u,.int .i64 ee,.slice m1 m2 m3,.slice q1 q2 q3,.int .i64 lc,.int .i64 lm] 39)) w.heap.size #[.string s,.int .i64 off,.slice A n c] 71 from BlkAt.alloc (BlkAt.new w _ _) _)
 have LB:=Lib.hid (show BlkAt ((w.alloc (.cells #[.string s,.int .i64 off,.slice A n c] 71)).alloc (.cells #[.string nm,.int .i64 lz,.int .i64 D,.int .i64 S,.int .i64 u,.int .i64 ee,.slice m1 m2 m3,.slice q1 q2 q3,.int .i64 lc,.int .i64 lm] 39)) (w.heap.size+1) #[.string nm,.int .i64 lz,.int .i64 D,.int .i64 S,.int .i64 u,.int .i64 ee,.slice m1 m2 m3,.slice q1 q2 q3,.int .i64 lc,.int .i64 lm] 39 from by have :=BlkAt.new (w.alloc (.cells #[.string s,.int .i64 off,.slice A n c] 71)) #[.string nm,.int .i64 lz,.int .i64 D,.int .i64 S,.int .i64 u,.int .i64 ee,.slice m1 m2 m3,.slice q1 q2 q3,.int .i64 lc,.int .i64 lm] 39;simpa using this)
 have HB:=Lib.hid (((Below.refl w.heap.size w).alloc (Nat.le_refl _) (.cells #[.string s,.int .i64 off,.slice A n c] 71)).alloc (by simp) (.cells #[.string nm,.int .i64 lz,.int .i64 D,.int .i64 S,.int .i64 u,.int .i64 ee,.slice m1 m2 m3,.slice q1 q2 q3,.int .i64 lc,.int .i64 lm] 39))
 clear hz
 go_enter Tryz.func64,Tryz.ntmps64
 go_upto_region 1 with fail
 generalize (w.alloc (.cells #[.string s,.int .i64 off,.slice A n c] 71)).alloc (.cells #[.string nm,.int .i64 lz,.int .i64 D,.int .i64 S,.int .i64 u,.int .i64 ee,.slice m1 m2 m3,.slice q1 q2 q3,.int .i64 lc,.int .i64 lm] 39)=W0 at ZB LB HB ⊢
 have z0:=ZB.out.cell (i:=0) rfl;have z1:=ZB.out.cell (i:=1) rfl;have z2:=ZB.out.cell (i:=2) rfl;have l0:=LB.out.cell (i:=0) rfl;have l1:=LB.out.cell (i:=1) rfl;have l2:=LB.out.cell (i:=2) rfl;have l3:=LB.out.cell (i:=3) rfl;have l4:=LB.out.cell (i:=4) rfl;have l5:=LB.out.cell (i:=5) rfl;have l6:=LB.out.cell (i:=6) rfl;have l7:=LB.out.cell (i:=7) rfl;have l8:=LB.out.cell (i:=8) rfl;have l9:=LB.out.cell (i:=9) rfl;
 go_wp2_with (go_at_call 94;refine (HC.out _ HB.out).mono ?_;rintro e w5 ⟨rfl,hb5⟩;have KL:=Lib.hid (LB.out.after hb5);have k0:=KL.out.cell (i:=0) rfl;have k1:=KL.out.cell (i:=1) rfl;have k2:=KL.out.cell (i:=2) rfl;have k3:=KL.out.cell (i:=3) rfl;have k4:=KL.out.cell (i:=4) rfl;have k5:=KL.out.cell (i:=5) rfl;have k6:=KL.out.cell (i:=6) rfl;have k7:=KL.out.cell (i:=7) rfl;have k8:=KL.out.cell (i:=8) rfl;have k9:=KL.out.cell (i:=9) rfl;have HB5:=Lib.hid (bstep HB.out hb5);clear hb5 z0 z1 z2 l0 l1 l2 l3 l4 l5 l6 l7 l8 l9)
 all_goals first
  |(
   have h0:Rc.okL u ee D S m2=true:=decide_eq_true (by (try simp only [beq_eq_false_iff_ne,ne_eq] at *);omega)
   go_ret
   exact ⟨by rw [h0];rfl,HB5.out⟩)
  |(
   have h0:Rc.okL u ee D S m2=false:=decide_eq_false (by (try simp only [beq_iff_eq] at *);omega)
   go_ret
   exact ⟨by rw [h0];rfl,HB5.out⟩)
set_option maxHeartbeats 8000000 in
theorem rHan_is {off:Int} {rs:List Zn.Rule} {ts:Zn.L} (hZ:Zn.trans off rs=(ts,0)) (u ee D S:Int) (s:ByteArray) (A:Option Addr) (n c:Nat) (nm:ByteArray) (lz:Int) (m1:Option Addr) (m2 m3:Nat) (q1:Option Addr) (q2 q3:Nat) (lc lm:Int) (k:Int) (w:World) (hz:ZIn w A n rs) (ho:I64 off) (hk:I64 k):
  Calls Tryz.prog 31 #[.agg #[.string s,.int .i64 off,.slice A n c],.agg #[.string nm,.int .i64 lz,.int .i64 D,.int .i64 S,.int .i64 u,.int .i64 ee,.slice m1 m2 m3,.slice q1 q2 q3,.int .i64 lc,.int .i64 lm],.int .i64 k] w (GivesF (Rc.hOut (Rc.okL u ee D S m2) k (Rc.hV off ts u ee D S k)).1 (Rc.hOut (Rc.okL u ee D S m2) k (Rc.hV off ts u ee D S k)).2 w):=by
 have HCK:=Lib.hid (show ∀W,Below w.heap.size w W→_ from fun W hb=>rchk_is hZ u ee D S s A n c nm lz m1 m2 m3 q1 q2 q3 lc lm W (hz.below hb) ho)
 have HHN:=Lib.hid (show ∀(hr:Rc.Rt u ee D S) (k:Int) W,Below w.heap.size w W→0≤k→k≤3000000→_ from fun hr k W hb g0 g1=>rhan_is hZ hr s A n c nm lz m1 m2 m3 q1 q2 q3 lc lm k W (hz.below hb) ho g0 g1)
 cases hok:Rc.okL u ee D S m2 with
 |false=>
  have HO:=Lib.hid (show Rc.chkO (Rc.okL u ee D S m2)=8 by rw [hok];rfl)
  rw [Rc.hOut_no]
  have ZB:=Lib.hid (show BlkAt ((w.alloc (.cells #[.string s,.int .i64 off,.slice A n c] 71)).alloc (.cells #[.string nm,.int .i64 lz,.int .i64 D,.int .i64 S,.int .i64 u,.int .i64 ee,.slice m1 m2 m3,.slice q1 q2 q3,.int .i64 lc,.int .i64 lm] 39)) w.heap.size #[.string s,.int .i64 off,.slice A n c] 71 from BlkAt.alloc (BlkAt.new w _ _) _)
  have LB:=Lib.hid (show BlkAt ((w.alloc (.cells #[.string s,.int .i64 off,.slice A n c] 71)).alloc (.cells #[.string nm,.int .i64 lz,.int .i64 D,.int .i64 S,.int .i64 u,.int .i64 ee,.slice m1 m2 m3,.slice q1 q2 q3,.int .i64 lc,.int .i64 lm] 39)) (w.heap.size+1) #[.string nm,.int .i64 lz,.int .i64 D,.int .i64 S,.int .i64 u,.int .i64 ee,.slice m1 m2 m3,.slice q1 q2 q3,.int .i64 lc,.int .i64 lm] 39 from by have :=BlkAt.new (w.alloc (.cells #[.string s,.int .i64 off,.slice A n c] 71)) #[.string nm,.int .i64 lz,.int .i64 D,.int .i64 S,.int .i64 u,.int .i64 ee,.slice m1 m2 m3,.slice q1 q2 q3,.int .i64 lc,.int .i64 lm] 39;simpa using this)
  have HB:=Lib.hid (((Below.refl w.heap.size w).alloc (Nat.le_refl _) (.cells #[.string s,.int .i64 off,.slice A n c] 71)).alloc (by simp) (.cells #[.string nm,.int .i64 lz,.int .i64 D,.int .i64 S,.int .i64 u,.int .i64 ee,.slice m1 m2 m3,.slice q1 q2 q3,.int .i64 lc,.int .i64 lm] 39))
  clear hz hok HHN
  go_enter Tryz.func31,Tryz.ntmps31
  go_upto_region 1 with fail
  generalize (w.alloc (.cells #[.string s,.int .i64 off,.slice A n c] 71)).alloc (.cells #[.string nm,.int .i64 lz,.int .i64 D,.int .i64 S,.int .i64 u,.int .i64 ee,.slice m1 m2 m3,.slice q1 q2 q3,.int .i64 lc,.int .i64 lm] 39)=W0 at ZB LB HB ⊢
  have z0:=ZB.out.cell (i:=0) rfl;have z1:=ZB.out.cell (i:=1) rfl;have z2:=ZB.out.cell (i:=2) rfl;have l0:=LB.out.cell (i:=0) rfl;have l1:=LB.out.cell (i:=1) rfl;have l2:=LB.out.cell (i:=2) rfl;have l3:=LB.out.cell (i:=3) rfl;have l4:=LB.out.cell (i:=4) rfl;have l5:=LB.out.cell (i:=5) rfl;have l6:=LB.out.cell (i:=6) rfl;have l7:=LB.out.cell (i:=7) rfl;have l8:=LB.out.cell (i:=8) rfl;have l9:=LB.out.cell (i:=9) rfl;
  go_wp2_with (go_at_call 64;refine (HCK.out _ HB.out).mono ?_;rintro e w5 ⟨rfl,hb5⟩;rw [HO.out];have HB5:=Lib.hid (bstep HB.out hb5);clear hb5)
  go_ret2
  exact ⟨rfl,HB5.out⟩
 |true=>
  have HO:=Lib.hid (show Rc.chkO (Rc.okL u ee D S m2)=0 by rw [hok];rfl)
  obtain ⟨hr, -⟩:=Rc.okL_rt hok
  by_cases h0:k<0
  ·rw [Rc.hOut_neg h0]
   have ZB:=Lib.hid (show BlkAt ((w.alloc (.cells #[.string s,.int .i64 off,.slice A n c] 71)).alloc (.cells #[.string nm,.int .i64 lz,.int .i64 D,.int .i64 S,.int .i64 u,.int .i64 ee,.slice m1 m2 m3,.slice q1 q2 q3,.int .i64 lc,.int .i64 lm] 39)) w.heap.size #[.string s,.int .i64 off,.slice A n c] 71 from BlkAt.alloc (BlkAt.new w _ _) _)
   have LB:=Lib.hid (show BlkAt ((w.alloc (.cells #[.string s,.int .i64 off,.slice A n c] 71)).alloc (.cells #[.string nm,.int .i64 lz,.int .i64 D,.int .i64 S,.int .i64 u,.int .i64 ee,.slice m1 m2 m3,.slice q1 q2 q3,.int .i64 lc,.int .i64 lm] 39)) (w.heap.size+1) #[.string nm,.int .i64 lz,.int .i64 D,.int .i64 S,.int .i64 u,.int .i64 ee,.slice m1 m2 m3,.slice q1 q2 q3,.int .i64 lc,.int .i64 lm] 39 from by have :=BlkAt.new (w.alloc (.cells #[.string s,.int .i64 off,.slice A n c] 71)) #[.string nm,.int .i64 lz,.int .i64 D,.int .i64 S,.int .i64 u,.int .i64 ee,.slice m1 m2 m3,.slice q1 q2 q3,.int .i64 lc,.int .i64 lm] 39;simpa using this)
   have HB:=Lib.hid (((Below.refl w.heap.size w).alloc (Nat.le_refl _) (.cells #[.string s,.int .i64 off,.slice A n c] 71)).alloc (by simp) (.cells #[.string nm,.int .i64 lz,.int .i64 D,.int .i64 S,.int .i64 u,.int .i64 ee,.slice m1 m2 m3,.slice q1 q2 q3,.int .i64 lc,.int .i64 lm] 39))
   clear hz hok HHN
   go_enter Tryz.func31,Tryz.ntmps31
   go_upto_region 1 with fail
   generalize (w.alloc (.cells #[.string s,.int .i64 off,.slice A n c] 71)).alloc (.cells #[.string nm,.int .i64 lz,.int .i64 D,.int .i64 S,.int .i64 u,.int .i64 ee,.slice m1 m2 m3,.slice q1 q2 q3,.int .i64 lc,.int .i64 lm] 39)=W0 at ZB LB HB ⊢
   have z0:=ZB.out.cell (i:=0) rfl;have z1:=ZB.out.cell (i:=1) rfl;have z2:=ZB.out.cell (i:=2) rfl;have l0:=LB.out.cell (i:=0) rfl;have l1:=LB.out.cell (i:=1) rfl;have l2:=LB.out.cell (i:=2) rfl;have l3:=LB.out.cell (i:=3) rfl;have l4:=LB.out.cell (i:=4) rfl;have l5:=LB.out.cell (i:=5) rfl;have l6:=LB.out.cell (i:=6) rfl;have l7:=LB.out.cell (i:=7) rfl;have l8:=LB.out.cell (i:=8) rfl;have l9:=LB.out.cell (i:=9) rfl;
   go_wp2_with (go_at_call 64;refine (HCK.out _ HB.out).mono ?_;rintro e w5 ⟨rfl,hb5⟩;rw [HO.out];have HB5:=Lib.hid (bstep HB.out hb5);clear hb5)
   go_ret2
   exact ⟨rfl,HB5.out⟩
  ·by_cases h1:2386092<k
   ·rw [Rc.hV_high (Zn.trans_vz hZ) hr h1,Rc.hOut_none (by omega)]
    have ZB:=Lib.hid (show BlkAt ((w.alloc (.cells #[.string s,.int .i64 off,.slice A n c] 71)).alloc (.cells #[.string nm,.int .i64 lz,.int .i64 D,.int .i64 S,.int .i64 u,.int .i64 ee,.slice m1 m2 m3,.slice q1 q2 q3,.int .i64 lc,.int .i64 lm] 39)) w.heap.size #[.string s,.int .i64 off,.slice A n c] 71 from BlkAt.alloc (BlkAt.new w _ _) _)
    have LB:=Lib.hid (show BlkAt ((w.alloc (.cells #[.string s,.int .i64 off,.slice A n c] 71)).alloc (.cells #[.string nm,.int .i64 lz,.int .i64 D,.int .i64 S,.int .i64 u,.int .i64 ee,.slice m1 m2 m3,.slice q1 q2 q3,.int .i64 lc,.int .i64 lm] 39)) (w.heap.size+1) #[.string nm,.int .i64 lz,.int .i64 D,.int .i64 S,.int .i64 u,.int .i64 ee,.slice m1 m2 m3,.slice q1 q2 q3,.int .i64 lc,.int .i64 lm] 39 from by have :=BlkAt.new (w.alloc (.cells #[.string s,.int .i64 off,.slice A n c] 71)) #[.string nm,.int .i64 lz,.int .i64 D,.int .i64 S,.int .i64 u,.int .i64 ee,.slice m1 m2 m3,.slice q1 q2 q3,.int .i64 lc,.int .i64 lm] 39;simpa using this)
    have HB:=Lib.hid (((Below.refl w.heap.size w).alloc (Nat.le_refl _) (.cells #[.string s,.int .i64 off,.slice A n c] 71)).alloc (by simp) (.cells #[.string nm,.int .i64 lz,.int .i64 D,.int .i64 S,.int .i64 u,.int .i64 ee,.slice m1 m2 m3,.slice q1 q2 q3,.int .i64 lc,.int .i64 lm] 39))
    clear hz hok HHN
    go_enter Tryz.func31,Tryz.ntmps31
    go_upto_region 1 with fail
    generalize (w.alloc (.cells #[.string s,.int .i64 off,.slice A n c] 71)).alloc (.cells #[.string nm,.int .i64 lz,.int .i64 D,.int .i64 S,.int .i64 u,.int .i64 ee,.slice m1 m2 m3,.slice q1 q2 q3,.int .i64 lc,.int .i64 lm] 39)=W0 at ZB LB HB ⊢
    have z0:=ZB.out.cell (i:=0) rfl;have z1:=ZB.out.cell (i:=1) rfl;have z2:=ZB.out.cell (i:=2) rfl;have l0:=LB.out.cell (i:=0) rfl;have l1:=LB.out.cell (i:=1) rfl;have l2:=LB.out.cell (i:=2) rfl;have l3:=LB.out.cell (i:=3) rfl;have l4:=LB.out.cell (i:=4) rfl;have l5:=LB.out.cell (i:=5) rfl;have l6:=LB.out.cell (i:=6) rfl;have l7:=LB.out.cell (i:=7) rfl;have l8:=LB.out.cell (i:=8) rfl;have l9:=LB.out.cell (i:=9) rfl;
    go_wp2_with (go_at_call 64;refine (HCK.out _ HB.out).mono ?_;rintro e w5 ⟨rfl,hb5⟩;rw [HO.out];have HB5:=Lib.hid (bstep HB.out hb5);clear hb5)
    go_ret2
    exact ⟨rfl,HB5.out⟩
   ·have HHN2:=Lib.hid (HHN.out hr k)
    obtain ⟨H,hH⟩: ∃H,Rc.hV off ts u ee D S k=H:=⟨_,rfl⟩
    rw [hH] at HHN2 ⊢
    have ZB:=Lib.hid (show BlkAt ((w.alloc (.cells #[.string s,.int .i64 off,.slice A n c] 71)).alloc (.cells #[.string nm,.int .i64 lz,.int .i64 D,.int .i64 S,.int .i64 u,.int .i64 ee,.slice m1 m2 m3,.slice q1 q2 q3,.int .i64 lc,.int .i64 lm] 39)) w.heap.size #[.string s,.int .i64 off,.slice A n c] 71 from BlkAt.alloc (BlkAt.new w _ _) _)
    have LB:=Lib.hid (show BlkAt ((w.alloc (.cells #[.string s,.int .i64 off,.slice A n c] 71)).alloc (.cells #[.string nm,.int .i64 lz,.int .i64 D,.int .i64 S,.int .i64 u,.int .i64 ee,.slice m1 m2 m3,.slice q1 q2 q3,.int .i64 lc,.int .i64 lm] 39)) (w.heap.size+1) #[.string nm,.int .i64 lz,.int .i64 D,.int .i64 S,.int .i64 u,.int .i64 ee,.slice m1 m2 m3,.slice q1 q2 q3,.int .i64 lc,.int .i64 lm] 39 from by have :=BlkAt.new (w.alloc (.cells #[.string s,.int .i64 off,.slice A n c] 71)) #[.string nm,.int .i64 lz,.int .i64 D,.int .i64 S,.int .i64 u,.int .i64 ee,.slice m1 m2 m3,.slice q1 q2 q3,.int .i64 lc,.int .i64 lm] 39;simpa using this)
    have HB:=Lib.hid (((Below.refl w.heap.size w).alloc (Nat.le_refl _) (.cells #[.string s,.int .i64 off,.slice A n c] 71)).alloc (by simp) (.cells #[.string nm,.int .i64 lz,.int .i64 D,.int .i64 S,.int .i64 u,.int .i64 ee,.slice m1 m2 m3,.slice q1 q2 q3,.int .i64 lc,.int .i64 lm] 39))
    clear hz hok HHN hH
    go_enter Tryz.func31,Tryz.ntmps31
    go_upto_region 1 with fail
    generalize (w.alloc (.cells #[.string s,.int .i64 off,.slice A n c] 71)).alloc (.cells #[.string nm,.int .i64 lz,.int .i64 D,.int .i64 S,.int .i64 u,.int .i64 ee,.slice m1 m2 m3,.slice q1 q2 q3,.int .i64 lc,.int .i64 lm] 39)=W0 at ZB LB HB ⊢
    have z0:=ZB.out.cell (i:=0) rfl;have z1:=ZB.out.cell (i:=1) rfl;have z2:=ZB.out.cell (i:=2) rfl;have l0:=LB.out.cell (i:=0) rfl;have l1:=LB.out.cell (i:=1) rfl;have l2:=LB.out.cell (i:=2) rfl;have l3:=LB.out.cell (i:=3) rfl;have l4:=LB.out.cell (i:=4) rfl;have l5:=LB.out.cell (i:=5) rfl;have l6:=LB.out.cell (i:=6) rfl;have l7:=LB.out.cell (i:=7) rfl;have l8:=LB.out.cell (i:=8) rfl;have l9:=LB.out.cell (i:=9) rfl;
    go_upto_region 7 with (go_at_call 64;refine (HCK.out _ HB.out).mono ?_;rintro e w5 ⟨rfl,hb5⟩;rw [HO.out];have HB5:=Lib.hid (bstep HB.out hb5);have KZ:=Lib.hid (ZB.out.after hb5);have KL:=Lib.hid (LB.out.after hb5);clear hb5 z0 z1 z2 l0 l1 l2 l3 l4 l5 l6 l7 l8 l9)
    have z0:=KZ.out.cell (i:=0) rfl;have z1:=KZ.out.cell (i:=1) rfl;have z2:=KZ.out.cell (i:=2) rfl;have l0:=KL.out.cell (i:=0) rfl;have l1:=KL.out.cell (i:=1) rfl;have l2:=KL.out.cell (i:=2) rfl;have l3:=KL.out.cell (i:=3) rfl;have l4:=KL.out.cell (i:=4) rfl;have l5:=KL.out.cell (i:=5) rfl;have l6:=KL.out.cell (i:=6) rfl;have l7:=KL.out.cell (i:=7) rfl;have l8:=KL.out.cell (i:=8) rfl;have l9:=KL.out.cell (i:=9) rfl;
    go_wp2_with (go_at_call 65;refine (HHN2.out _ HB5.out (by omega) (by omega)).mono ?_;rintro e w6 ⟨x,b,rfl,hb6,hA,hB⟩;have HB6:=Lib.hid (bstep HB5.out hb6);clear hb6 z0 z1 z2 l0 l1 l2 l3 l4 l5 l6 l7 l8 l9;cases b)
    ·rw [hB trivial,Rc.hOut_none (by omega)]
     go_ret2
     exact ⟨rfl,HB6.out⟩
    ·rw [hA trivial,Rc.hOut_some (by omega)]
     go_ret2
     exact ⟨rfl,HB6.out⟩
end Go.Proofs.YtfamcohbnoibaaaGreatDoor
namespace Go.Proofs.YtfamcohbnoibaaaGreatDoor
open Go.RowKit
section
variable {w W:World} {lo:Nat} {C:Rs.Cfg} {l:Rs.Lay} {a1:Option Addr} {a2 a3:Nat} {b1:Option Addr} {b2 b3:Nat} {c1:Option Addr} {c2 c3:Nat} {d1:Option Addr} {d2 d3:Nat} {m1:Option Addr} {m2 m3:Nat} {q1:Option Addr} {q2 q3:Nat} {bc bl:Nat} {cv lv:Array Value}
theorem LK.person (h:LK w lo (a1,a2,a3) (b1,b2,b3) (c1,c2,c3) (d1,d2,d3) C l (m1,m2,m3) (q1,q2,q3) bc bl cv lv W) (hn:l.name=[97]) {t:Int} (ht:I64 t):Calls Tryz.prog 18 #[.agg #[.slice a1 a2 a3,.slice b1 b2 b3,.slice c1 c2 c3,.slice d1 d2 d3],.agg #[.string ⟨#[97]⟩,.int .i64 l.zone,.int .i64 l.day,.int .i64 l.sec,.int .i64 l.unit,.int .i64 l.every,.slice m1 m2 m3,.slice q1 q2 q3,.int .i64 l.cal,.int .i64 l.mode],.int .i64 t] W fun e w'=>e= .returned (.int .i64 (Sg.perS C l t))∧Below W.heap.size W w':=by
  have :=Person_is a1 a2 a3 b1 b2 b3 c1 c2 c3 d1 d2 d3 m1 m2 m3 q1 q2 q3 t ht W h.din
  rw [hn] at this
  exact this
end
end Go.Proofs.YtfamcohbnoibaaaGreatDoor
namespace Go.Proofs.YtfamcohbnoibaaaGreatDoor
namespace Sg
def bare (l:Rs.Lay):Rs.Lay:=⟨l.name,l.zone,l.day,l.sec,l.unit,l.every,l.mem,[],0,0⟩
theorem bare_ml {nz np nc:Nat} {l:Rs.Lay} (h:Rs.ML nz np nc l):Rs.ML nz np nc (bare l):=by
 obtain ⟨h1,h2,h3,h4,h5,h6,h7,h8,h9,h10,h11,h12,h13,h14,h15⟩:=h
 exact ⟨h1,h2,h3,h4,h5,h6,h7,h8,h9,h10,h11,h12,trivial,by simp [bare],.inl ⟨rfl,rfl⟩⟩
structure Turns (C:Rs.Cfg) (l:Rs.Lay) (a:Nat→Int):Prop where
 H: ∀k:Nat,k≤7→(dy C l).H k=some (a k)
 lo:1≤a 0
 hi: ∀k,k≤7→1≤a k∧a k≤8589934592
 no:perS C l (a 0-1)= -1
 at_: ∀k,k<7→perS C l (a k)=l.mem.getD (k%l.mem.length) 0
 end_: ∀k,k<7→perS C l (a (k+1)-1)=l.mem.getD (k%l.mem.length) 0
theorem turns {C:Rs.Cfg} {l:Rs.Lay} (hf:fitS C l=true) (hd:l.day≤20457) (he:l.every≤49) (hw:l.wins=[]) (hm:l.mode=0): ∃a,Turns C l a:=by
 have hF:=fit_of hf
 have hok:=hF.ok
 have e1:=hF.rt.n1
 have ex: ∀k:Nat,k≤7→ ∃x,(dy C l).H k=some x:=fun k hk=>Rc.hV_ex hok.z hok.rt (by omega) (by
  have h1:(k:Int)*(l.every*7)≤7*(49*7):=Int.mul_le_mul (by omega) (by omega) (by omega) (by omega)
  show l.day+(k:Int)*(l.every*7)≤90000
  omega)
 have ha: ∀k:Nat,k≤7→(dy C l).H k=some (((dy C l).H k).getD 0):=fun k hk=>by
  obtain ⟨x,hx⟩:=ex k hk
  rw [hx];rfl
 generalize hA:(fun k:Nat=>((dy C l).H k).getD 0)=a
 have ha: ∀k:Nat,k≤7→(dy C l).H k=some (a k):=fun k hk=>by rw [←hA];exact ha k hk
 have hbd: ∀k:Nat,k≤7→1≤a k∧a k≤8589934592:=fun k hk=>Rc.hV_bd hok.z hok.rt (by omega) (ha k hk)
 have e2: ∀k:Nat,((k+1:Nat):Int)=(k:Int)+1:=fun k=>by omega
 have hlt: ∀k:Nat,k<7→a k<a (k+1):=fun k hk=>Rc.hV_lt hok.z hok.rt (show (0:Int)≤k by omega) (show (k:Int)<((k+1:Nat):Int) by omega) (ha k (by omega)) (ha (k+1) (by omega))
 have hsh: ∀(k:Nat) (t:Int),k<7→a k≤t→t<a (k+1)→(dy C l).sh t=k:=fun k t hk h1 h2=>hok.sh_at (by omega) (ha k (by omega)) h1 (fun b hb=>by
  rw [←e2,ha (k+1) (by omega)] at hb
  cases hb
  exact h2)
 have hper: ∀(k:Nat) (t:Int),k<7→a k≤t→t<a (k+1)→perS C l t=l.mem.getD (k%l.mem.length) 0:=fun k t hk h1 h2=>by
  have b1:=hbd k (by omega)
  have b2:=hbd (k+1) (by omega)
  have hs:=hsh k t hk h1 h2
  have :=((dy C l).always hw hm (t:=t) (by omega)).2
  unfold perS
  rw [if_pos ⟨hf,by omega,by omega⟩,this,hs]
  rfl
 refine ⟨a,ha,(hbd 0 (by omega)).1,hbd, ?_,fun k hk=>hper k _ hk (Int.le_refl _) (hlt k hk),fun k hk=>hper k _ hk (by have :=hlt k hk;omega) (by omega)⟩
 have hs:=hok.sh_no (t:=a 0-1) (ha 0 (by omega)) (by omega)
 unfold perS
 split
 ·exact (Dy.off_neg (by omega)).2
 ·rfl
end Sg
end Go.Proofs.YtfamcohbnoibaaaGreatDoor
namespace Go.Proofs.YtfamcohbnoibaaaGreatDoor
open Go.RowKit
theorem keepTu {W wc w':World} {bc bl mb mo:Nat} {V0 V1 V2 V3 V4 V5 V6 V7 V8 V9 V10 V11 V12 V13 V14:Value} (h:wc.cell? ⟨bc,0,none⟩=some V0∧wc.cell? ⟨bc,1,none⟩=some V1∧wc.cell? ⟨bc,2,none⟩=some V2∧wc.cell? ⟨bc,3,none⟩=some V3∧wc.cell? ⟨bl,0,none⟩=some V4∧wc.cell? ⟨bl,1,none⟩=some V5∧wc.cell? ⟨bl,2,none⟩=some V6∧wc.cell? ⟨bl,3,none⟩=some V7∧wc.cell? ⟨bl,4,none⟩=some V8∧wc.cell? ⟨bl,5,none⟩=some V9∧wc.cell? ⟨bl,6,none⟩=some V10∧wc.cell? ⟨bl,7,none⟩=some V11∧wc.cell? ⟨bl,8,none⟩=some V12∧wc.cell? ⟨bl,9,none⟩=some V13∧wc.cell? ⟨mb,mo,none⟩=some V14∧Below W.heap.size W wc) (hb:Below wc.heap.size wc w'):w'.cell? ⟨bc,0,none⟩=some V0∧w'.cell? ⟨bc,1,none⟩=some V1∧w'.cell? ⟨bc,2,none⟩=some V2∧w'.cell? ⟨bc,3,none⟩=some V3∧w'.cell? ⟨bl,0,none⟩=some V4∧w'.cell? ⟨bl,1,none⟩=some V5∧w'.cell? ⟨bl,2,none⟩=some V6∧w'.cell? ⟨bl,3,none⟩=some V7∧w'.cell? ⟨bl,4,none⟩=some V8∧w'.cell? ⟨bl,5,none⟩=some V9∧w'.cell? ⟨bl,6,none⟩=some V10∧w'.cell? ⟨bl,7,none⟩=some V11∧w'.cell? ⟨bl,8,none⟩=some V12∧w'.cell? ⟨bl,9,none⟩=some V13∧w'.cell? ⟨mb,mo,none⟩=some V14∧Below W.heap.size W w':=
  ⟨cell_keep h.1 hb,cell_keep h.2.1 hb,cell_keep h.2.2.1 hb,cell_keep h.2.2.2.1 hb,cell_keep h.2.2.2.2.1 hb,cell_keep h.2.2.2.2.2.1 hb,cell_keep h.2.2.2.2.2.2.1 hb,cell_keep h.2.2.2.2.2.2.2.1 hb,cell_keep h.2.2.2.2.2.2.2.2.1 hb,cell_keep h.2.2.2.2.2.2.2.2.2.1 hb,cell_keep h.2.2.2.2.2.2.2.2.2.2.1 hb,cell_keep h.2.2.2.2.2.2.2.2.2.2.2.1 hb,cell_keep h.2.2.2.2.2.2.2.2.2.2.2.2.1 hb,cell_keep h.2.2.2.2.2.2.2.2.2.2.2.2.2.1 hb,cell_keep h.2.2.2.2.2.2.2.2.2.2.2.2.2.2.1 hb,bstep h.2.2.2.2.2.2.2.2.2.2.2.2.2.2.2 hb⟩
theorem lastTu {W wc:World} {p0 p1 p2 p3 p4 p5 p6 p7 p8 p9 p10 p11 p12 p13 p14:Prop} (h:p0∧p1∧p2∧p3∧p4∧p5∧p6∧p7∧p8∧p9∧p10∧p11∧p12∧p13∧p14∧Below W.heap.size W wc):Below W.heap.size W wc:=h.2.2.2.2.2.2.2.2.2.2.2.2.2.2.2
theorem measT {k n:Nat} (h:k<n):n-(intOf (.int .i64 ((k:Int)+1))).toNat<n-(intOf (.int .i64 (k:Int))).toNat:=by
  simp [intOf]
  omega
set_option maxHeartbeats 16000000 in
theorem dutyturns_any (A:Option Addr) (n c:Nat) (zs:List Int) (w:World) (hT:CivT w) (hA:NumsAt w A zs) (hn:zs.length=n) (hf: ∀z∈zs, -9223372036854775808≤z∧z≤9223372036854775807):
    Calls Tryz.prog 6 #[.slice A n c] w fun e w'=>e= .returned (.bool true)∧Below w.heap.size w w':=by
  have HT:=Lib.hid (show ∀W,Below w.heap.size w W→CivT W from fun W hb=>hT.below hb)
  clear hT
  by_cases h5:n≤500
  · skip
    have hl:decide ((n:Int)≤500)=true:=by simp;omega
    have D0:=Lib.hid (Dice.start (c:=c) hA hn h5 hf)
    clear hA hn hf
    go_enter Tryz.func6,Tryz.ntmps6
    go_wp2_with fail
    refine (Light_any A n c _).mono ?_
    rw [hl]
    rintro e w' ⟨rfl,rfl⟩
    go_wp2_with fail
    refine (Roll_any A n c _).mono ?_
    rintro e w' ⟨rfl,rfl⟩
    go_wp2_with fail
    refine (Config_any w.heap.size n c A zs 1 (by decide) (by decide) _ D0.out).mono ?_
    rintro e w1 ⟨⟨a1,a2,a3⟩,⟨b1,b2,b3⟩,⟨c1,c2,c3⟩,⟨d1,d2,d3⟩,C,rfl,hC,hM,hz1,hp1, -, -,hg,hD⟩
    simp only [cfgV]
    have B1:=Lib.hid (below_of_grown ((Below.refl _ w).alloc (Nat.le_refl _) (.cells #[.slice A n c,.int .i64 0] 84)) hg (by simp) (Nat.le_refl _))
    have hza:=hC.zones.len;have hpa:=hC.people.len;have hca:=hC.cals.len
    simp only at hza hpa hca
    have hzl:=hM.zl;have hpl:=hM.pl;have hcl:=hM.cl
    have HM:=Lib.hid hM
    have HLN:=Lib.hid (show C.zones.length=a2∧C.people.length=b2∧C.cals.length=c2 from ⟨hza.1,hpa.1,hca.1⟩)
    have HC:=Lib.hid (show CfgAt (w.heap.size+1) w1.heap.size w1 (a1,a2,a3) (b1,b2,b3) (c1,c2,c3) (d1,d2,d3) C by have :=hC;rwa [show (w.alloc (.cells #[.slice A n c,.int .i64 0] 84)).heap.size=w.heap.size+1 by simp] at this)
    have hsz1:w.heap.size+1≤w1.heap.size:=by have :=hg.size;simpa using this
    have CB:=Lib.hid (BlkAt.new w1 #[.slice a1 a2 a3,.slice b1 b2 b3,.slice c1 c2 c3,.slice d1 d2 d3] 33)
    have k1:=(Below.refl _ w1).alloc (Nat.le_refl _) (.cells #[.slice a1 a2 a3,.slice b1 b2 b3,.slice c1 c2 c3,.slice d1 d2 d3] 33)
    have HC2:=Lib.hid ((HC.out.below (Nat.le_refl _) k1).mono (Nat.le_refl _) k1.size)
    have HD:=Lib.hid (hD.after k1)
    have B2:=Lib.hid (bstep B1.out k1)
    have hbc:w.heap.size+1≤w1.heap.size:=hsz1
    have hs2:w1.heap.size+1≤(w1.alloc (.cells #[.slice a1 a2 a3,.slice b1 b2 b3,.slice c1 c2 c3,.slice d1 d2 d3] 33)).heap.size:=by simp
    clear hC hM hg hD D0 B1 h5 k1 HC hsz1
    go_upto_region 5 with fail
    generalize hcb:w1.heap.size=bc at CB hbc hs2 ⊢
    generalize w1.alloc (.cells #[.slice a1 a2 a3,.slice b1 b2 b3,.slice c1 c2 c3,.slice d1 d2 d3] 33)=W2 at HC2 HD CB B2 hs2 ⊢
    clear hcb
    have y0:=CB.out.cell (i:=0) rfl;have y1:=CB.out.cell (i:=1) rfl;have y2:=CB.out.cell (i:=2) rfl;have y3:=CB.out.cell (i:=3) rfl
    go_upto_region 6 with (go_at_call 12;refine (Layer_lit w.heap.size n c A zs a1 b1 c1 d1 a2 a3 b2 b3 c2 c3 d2 d3 [97] (by omega) (by omega) (by omega) (by omega) (by omega) W2 HD.out).mono ?_;rintro e w3 ⟨l,m1,m2,m3,q1,q2,q3,rfl,hnm,hml,hls,hg3,hD3⟩)
    have hs3:=hg3.size
    have LB:=BlkAt.new w3 #[.string ⟨#[97]⟩,.int .i64 l.zone,.int .i64 l.day,.int .i64 l.sec,.int .i64 l.unit,.int .i64 l.every,.slice m1 m2 m3,.slice q1 q2 q3,.int .i64 l.cal,.int .i64 l.mode] 39
    have k3:=(Below.refl _ w3).alloc (Nat.le_refl _) (.cells #[.string ⟨#[97]⟩,.int .i64 l.zone,.int .i64 l.day,.int .i64 l.sec,.int .i64 l.unit,.int .i64 l.every,.slice m1 m2 m3,.slice q1 q2 q3,.int .i64 l.cal,.int .i64 l.mode] 39)
    have HDC:=Lib.hid (hD3.after k3)
    have HNM:=Lib.hid hnm
    have HML:=Lib.hid hml
    have HK:=Lib.hid (show LK w (w.heap.size+1) (a1,a2,a3) (b1,b2,b3) (c1,c2,c3) (d1,d2,d3) C l (m1,m2,m3) (q1,q2,q3) bc w3.heap.size #[.slice a1 a2 a3,.slice b1 b2 b3,.slice c1 c2 c3,.slice d1 d2 d3] #[.string ⟨#[97]⟩,.int .i64 l.zone,.int .i64 l.day,.int .i64 l.sec,.int .i64 l.unit,.int .i64 l.every,.slice m1 m2 m3,.slice q1 q2 q3,.int .i64 l.cal,.int .i64 l.mode] (w3.alloc (.cells #[.string ⟨#[97]⟩,.int .i64 l.zone,.int .i64 l.day,.int .i64 l.sec,.int .i64 l.unit,.int .i64 l.every,.slice m1 m2 m3,.slice q1 q2 q3,.int .i64 l.cal,.int .i64 l.mode] 39)) from
      ⟨bstep (below_of_grown B2.out hg3 B2.out.size (Nat.le_refl _)) k3,HT.out _ (Below.refl _ _),(((HC2.out.kept (.of_grown hg3 (by omega) (Nat.le_refl _))).mono (Nat.le_refl _) hs3).below (Nat.le_refl _) k3).mono (Nat.le_refl _) k3.size,(LayOk.kept (.of_below k3 (Nat.le_refl _)) (lay_drawn (lo:=w.heap.size+1) hls (fun b hb=>by omega))).mono (Nat.le_refl _) k3.size,(CB.out.grown hg3 (by intro e;cases e;omega)).after k3,LB,hbc,by omega⟩)
    have HCF:=Lib.hid (show CfgAt (w.heap.size+1) w3.heap.size (w3.alloc (.cells #[.string ⟨#[97]⟩,.int .i64 l.zone,.int .i64 l.day,.int .i64 l.sec,.int .i64 l.unit,.int .i64 l.every,.slice m1 m2 m3,.slice q1 q2 q3,.int .i64 l.cal,.int .i64 l.mode] 39)) (a1,a2,a3) (b1,b2,b3) (c1,c2,c3) (d1,d2,d3) C from ((HC2.out.kept (.of_grown hg3 (by omega) (Nat.le_refl _))).mono (Nat.le_refl _) hs3).below (Nat.le_refl _) k3)
    have HLF:=Lib.hid (show LayOk (w.heap.size+1) w3.heap.size (w3.alloc (.cells #[.string ⟨#[97]⟩,.int .i64 l.zone,.int .i64 l.day,.int .i64 l.sec,.int .i64 l.unit,.int .i64 l.every,.slice m1 m2 m3,.slice q1 q2 q3,.int .i64 l.cal,.int .i64 l.mode] 39)) l ((m1,m2,m3),(q1,q2,q3)) from LayOk.kept (.of_below k3 (Nat.le_refl _)) (lay_drawn (lo:=w.heap.size+1) hls (fun b hb=>by omega)))
    have HCB:=Lib.hid (show w.heap.size+1≤bc∧bc<w3.heap.size from ⟨hbc,by omega⟩)
    have HFT:=Lib.hid (show Sg.fitS C l=true from fit_made HM.out (by rw [HLN.out.1,HLN.out.2.1,HLN.out.2.2];exact hml) hnm)
    have HSM:=Lib.hid (show Sg.Small C l from small_made HM.out.zs (fun x hx=>(HM.out.cs x hx).2.1) (by obtain ⟨-, -, -, -, -, -, -, -, -, -, -, -, -,h, -⟩:=hml;exact h) HFT.out)
    clear y0 y1 y2 y3 hls hg3 hD3 k3 CB HD HC2 B2 hml hnm LB hs3 hbc hs2
    generalize hlb:w3.heap.size=bl at HK HCF HLF HCB ⊢
    generalize w3.alloc (.cells #[.string ⟨#[97]⟩,.int .i64 l.zone,.int .i64 l.day,.int .i64 l.sec,.int .i64 l.unit,.int .i64 l.every,.slice m1 m2 m3,.slice q1 q2 q3,.int .i64 l.cal,.int .i64 l.mode] 39)=W3 at HDC HK HCF HLF ⊢
    clear hlb
    have x0:=HK.out.bx.cell (i:=0) rfl;have x1:=HK.out.bx.cell (i:=1) rfl;have x2:=HK.out.bx.cell (i:=2) rfl;have x3:=HK.out.bx.cell (i:=3) rfl;have l0:=HK.out.by_.cell (i:=0) rfl;have l1:=HK.out.by_.cell (i:=1) rfl;have l2:=HK.out.by_.cell (i:=2) rfl;have l3:=HK.out.by_.cell (i:=3) rfl;have l4:=HK.out.by_.cell (i:=4) rfl;have l5:=HK.out.by_.cell (i:=5) rfl;have l6:=HK.out.by_.cell (i:=6) rfl;have l7:=HK.out.by_.cell (i:=7) rfl;have l8:=HK.out.by_.cell (i:=8) rfl;have l9:=HK.out.by_.cell (i:=9) rfl
    have hml:=HML.out
    have HFB:=Lib.hid (show Sg.fitS C (Sg.bare l)=true from fit_made HM.out (by rw [HLN.out.1,HLN.out.2.1,HLN.out.2.2];exact Sg.bare_ml hml) HNM.out)
    have hF:=Sg.fit_of HFB.out
    obtain ⟨a,hTU⟩:=Sg.turns (C:=C) (l:=Sg.bare l) HFB.out hml.2.2.1 hml.2.2.2.2.2.2.2.2.1.1 rfl rfl
    have hlen:=HLF.out.1.len
    simp only at hlen
    have hm3:(m2:Int)≤3:=by have :=hml.2.2.2.2.2.2.2.2.2.2.1;omega
    have hm0:0<m2:=by have :=hF.m0;simp only [Sg.bare] at this;omega
    have HHV:=Lib.hid (show ∀j:Nat,j≤7→Rc.hV (Sg.lz C (Sg.bare l)).off (Sg.dy C (Sg.bare l)).ts l.unit l.every l.day l.sec j=some (a j) from fun j hj=>hTU.H j hj)
    have HOK:=Lib.hid (show Rc.okL l.unit l.every l.day l.sec m2=true from Rc.okL_of hF.rt hm0)
    have HPB:=Lib.hid hTU.hi
    have HP0:=Lib.hid hTU.no
    have HP1:=Lib.hid hTU.at_
    have HP2:=Lib.hid hTU.end_
    obtain ⟨⟨i,hi,hz⟩,htr, -, -, -, -, -, -, -⟩:=hF
    have HI:=Lib.hid (show l.zone=i from hi)
    have HLL:=Lib.hid hlen
    simp only [Sg.bare] at HP1 HP2
    change Hid (∀k,k<7→Sg.perS C (Sg.bare l) (a k)=l.mem.getD (k%l.mem.length) 0) at HP1
    change Hid (∀k,k<7→Sg.perS C (Sg.bare l) (a (k+1)-1)=l.mem.getD (k%l.mem.length) 0) at HP2
    rw [hlen] at HP1 HP2
    generalize (Sg.dy C (Sg.bare l)).ts=ts at htr HHV
    generalize Sg.lz C (Sg.bare l)=z at hz htr HHV
    have HZ:=Lib.hid hz;have HTR:=Lib.hid htr
    clear hi hz htr hml hTU
    have f7:=HK.out.by_.free 7;have f8:=HK.out.by_.free 8;have f9:=HK.out.by_.free 9
    go_upto_region 7 with fail
    have kb:Below bl W3 (((W3.setCell ⟨bl,7,none⟩ (.slice none 0 0)).setCell ⟨bl,9,none⟩ (.int .i64 0)).setCell ⟨bl,8,none⟩ (.int .i64 0)):=(((Below.refl bl W3).setCell (p:=⟨bl,7,none⟩) (Nat.le_refl _) _).setCell (p:=⟨bl,9,none⟩) (Nat.le_refl _) _).setCell (p:=⟨bl,8,none⟩) (Nat.le_refl _) _
    have hbs:bl≤W3.heap.size:=Nat.le_of_lt HK.out.by_.lt_
    have HK1:=Lib.hid (show LK w (w.heap.size+1) (a1,a2,a3) (b1,b2,b3) (c1,c2,c3) (d1,d2,d3) C (Sg.bare l) (m1,m2,m3) (none,0,0) bc bl #[.slice a1 a2 a3,.slice b1 b2 b3,.slice c1 c2 c3,.slice d1 d2 d3] #[.string ⟨#[97]⟩,.int .i64 l.zone,.int .i64 l.day,.int .i64 l.sec,.int .i64 l.unit,.int .i64 l.every,.slice m1 m2 m3,.slice none 0 0,.int .i64 0,.int .i64 0] (((W3.setCell ⟨bl,7,none⟩ (.slice none 0 0)).setCell ⟨bl,9,none⟩ (.int .i64 0)).setCell ⟨bl,8,none⟩ (.int .i64 0)) from
      ⟨((HK.out.base.setCell (p:=⟨bl,7,none⟩) (by have :=HK.out.ll;simp only;omega) _).setCell (p:=⟨bl,9,none⟩) (by have :=HK.out.ll;simp only;omega) _).setCell (p:=⟨bl,8,none⟩) (by have :=HK.out.ll;simp only;omega) _,HK.out.civ,(HCF.out.kept (.of_below kb (Nat.le_refl _))).mono (Nat.le_refl _) (Nat.le_trans hbs kb.size),by
        have h1:LayOk (w.heap.size+1) bl _ l ((m1,m2,m3),(q1,q2,q3)):=LayOk.kept (.of_below kb (Nat.le_refl _)) HLF.out
        exact ⟨h1.1.mono (Nat.le_refl _) (Nat.le_trans hbs kb.size),LIn.nil_ _ _ _,h1.2.2⟩,
        ((HK.out.bx.other (g:=bl) (i:=7) (by have :=HCB.out;omega) _).other (g:=bl) (i:=9) (by have :=HCB.out;omega) _).other (g:=bl) (i:=8) (by have :=HCB.out;omega) _,
        by have :=((HK.out.by_.set_ 7 (.slice none 0 0)).set_ 9 (.int .i64 0)).set_ 8 (.int .i64 0);simpa using this,HK.out.lc,HK.out.ll⟩)
    clear kb hbs x0 x1 x2 x3 l0 l1 l2 l3 l4 l5 l6 l7 l8 l9 f7 f8 f9 HK HCF HLF HDC HCB
    generalize (((W3.setCell ⟨bl,7,none⟩ (.slice none 0 0)).setCell ⟨bl,9,none⟩ (.int .i64 0)).setCell ⟨bl,8,none⟩ (.int .i64 0))=W4 at HK1 ⊢
    obtain ⟨hi2,zb,zo,v1,v2,v3,rfl,hzb,z0,z1,z2,z2',hzi,ho⟩:=HK1.out.din.zoneAt HZ.out HTR.out
    have x0:=HK1.out.bx.cell (i:=0) rfl;have x1:=HK1.out.bx.cell (i:=1) rfl;have x2:=HK1.out.bx.cell (i:=2) rfl;have x3:=HK1.out.bx.cell (i:=3) rfl;have l0:=HK1.out.by_.cell (i:=0) rfl;have l1:=HK1.out.by_.cell (i:=1) rfl;have l2:=HK1.out.by_.cell (i:=2) rfl;have l3:=HK1.out.by_.cell (i:=3) rfl;have l4:=HK1.out.by_.cell (i:=4) rfl;have l5:=HK1.out.by_.cell (i:=5) rfl;have l6:=HK1.out.by_.cell (i:=6) rfl;have l7:=HK1.out.by_.cell (i:=7) rfl;have l8:=HK1.out.by_.cell (i:=8) rfl;have l9:=HK1.out.by_.cell (i:=9) rfl
    rw [HI.out] at l1
    have j1:(i:Int)<a2:=by omega
    have j0:(0:Int)≤i:=by omega
    go_upto_region 8 with fail
    have kz:=(Below.refl _ W4).alloc (Nat.le_refl _) (.cells #[.string ⟨z.name.toArray⟩,.int .i64 z.off,.slice v1 v2 v3] 71)
    have ZB:=Lib.hid (BlkAt.new W4 #[.string ⟨z.name.toArray⟩,.int .i64 z.off,.slice v1 v2 v3] 71)
    have HK5:=Lib.hid (HK1.out.below kz)
    have HZI:=Lib.hid (hzi.below kz)
    have HO:=Lib.hid ho
    clear x0 x1 x2 x3 l0 l1 l2 l3 l4 l5 l6 l7 l8 l9 z0 z1 z2 z2' kz HK1 hzb hzi ho hi2
    generalize hzx:W4.heap.size=bz at ZB ⊢
    generalize W4.alloc (.cells #[.string ⟨z.name.toArray⟩,.int .i64 z.off,.slice v1 v2 v3] 71)=W5 at ZB HK5 HZI ⊢
    clear hzx
    have HH:=Lib.hid (show ∀(j:Nat) (J:Int) (V:World),J=j→j≤7→Below W5.heap.size W5 V→Calls Tryz.prog 31 #[.agg #[.string ⟨z.name.toArray⟩,.int .i64 z.off,.slice v1 v2 v3],.agg #[.string ⟨#[97]⟩,.int .i64 l.zone,.int .i64 l.day,.int .i64 l.sec,.int .i64 l.unit,.int .i64 l.every,.slice m1 m2 m3,.slice none 0 0,.int .i64 0,.int .i64 0],.int .i64 J] V (GivesF (a j) 0 V) from fun j J V hJ hj hb=>by
      subst hJ
      have :=rHan_is HTR.out l.unit l.every l.day l.sec ⟨z.name.toArray⟩ v1 v2 v3 ⟨#[97]⟩ l.zone m1 m2 m3 none 0 0 0 0 (j:Int) V (HZI.out.below hb) HO.out (by unfold I64;omega)
      rw [HOK.out,HHV.out j hj,Rc.hOut_some (by omega)] at this
      exact this)
    have HPC:=Lib.hid (show ∀(y v:Int) (V:World),I64 y→Sg.perS C (Sg.bare l) y=v→Below W5.heap.size W5 V→Calls Tryz.prog 18 #[.agg #[.slice (some ⟨zb,zo,none⟩) a2 a3,.slice b1 b2 b3,.slice c1 c2 c3,.slice d1 d2 d3],.agg #[.string ⟨#[97]⟩,.int .i64 l.zone,.int .i64 l.day,.int .i64 l.sec,.int .i64 l.unit,.int .i64 l.every,.slice m1 m2 m3,.slice none 0 0,.int .i64 0,.int .i64 0],.int .i64 y] V fun e w'=>e= .returned (.int .i64 v)∧Below V.heap.size V w' from fun y v V hy hv hb=>by
      have :=(HK5.out.below hb).person HNM.out (t:=y) hy
      rw [hv] at this
      exact this)
    have HOC:=Lib.hid (show ∀(y v:Int) (V:World),I64 y→Sg.perS C (Sg.bare l) y=v→Below W5.heap.size W5 V→Calls Tryz.prog 16 #[.agg #[.slice (some ⟨zb,zo,none⟩) a2 a3,.slice b1 b2 b3,.slice c1 c2 c3,.slice d1 d2 d3],.agg #[.string ⟨#[97]⟩,.int .i64 l.zone,.int .i64 l.day,.int .i64 l.sec,.int .i64 l.unit,.int .i64 l.every,.slice m1 m2 m3,.slice none 0 0,.int .i64 0,.int .i64 0],.int .i64 y] V fun e w'=>e= .returned (.bool (v != -1))∧Below V.heap.size V w' from fun y v V hy hv hb=>by
      have :=(HK5.out.below hb).on HNM.out (t:=y) hy
      rw [hv] at this
      exact this)
    rw [HI.out] at HH HPC HOC
    have x0:=HK5.out.bx.cell (i:=0) rfl;have x1:=HK5.out.bx.cell (i:=1) rfl;have x2:=HK5.out.bx.cell (i:=2) rfl;have x3:=HK5.out.bx.cell (i:=3) rfl;have l0:=HK5.out.by_.cell (i:=0) rfl;have l1:=HK5.out.by_.cell (i:=1) rfl;have l2:=HK5.out.by_.cell (i:=2) rfl;have l3:=HK5.out.by_.cell (i:=3) rfl;have l4:=HK5.out.by_.cell (i:=4) rfl;have l5:=HK5.out.by_.cell (i:=5) rfl;have l6:=HK5.out.by_.cell (i:=6) rfl;have l7:=HK5.out.by_.cell (i:=7) rfl;have l8:=HK5.out.by_.cell (i:=8) rfl;have l9:=HK5.out.by_.cell (i:=9) rfl
    have l1':=l1
    rw [HI.out] at l1
    have y0:=ZB.out.cell (i:=0) rfl;have y1:=ZB.out.cell (i:=1) rfl;have y2:=ZB.out.cell (i:=2) rfl
    go_upto_region 9 with (go_at_call 31;refine (HH.out 0 0 _ rfl (by omega) (Below.refl _ _)).mono ?_;rintro e w6 ⟨rfl,hb6⟩)
    clear y0 y1 y2 l1' x0 x1 x2 x3 l0 l1 l2 l3 l4 l5 l6 l7 l8 l9
    have HB6:=Lib.hid hb6
    have HK6:=Lib.hid (HK5.out.below hb6)
    clear hb6
    have x0:=HK6.out.bx.cell (i:=0) rfl;have x1:=HK6.out.bx.cell (i:=1) rfl;have x2:=HK6.out.bx.cell (i:=2) rfl;have x3:=HK6.out.bx.cell (i:=3) rfl;have l0:=HK6.out.by_.cell (i:=0) rfl;have l1:=HK6.out.by_.cell (i:=1) rfl;have l2:=HK6.out.by_.cell (i:=2) rfl;have l3:=HK6.out.by_.cell (i:=3) rfl;have l4:=HK6.out.by_.cell (i:=4) rfl;have l5:=HK6.out.by_.cell (i:=5) rfl;have l6:=HK6.out.by_.cell (i:=6) rfl;have l7:=HK6.out.by_.cell (i:=7) rfl;have l8:=HK6.out.by_.cell (i:=8) rfl;have l9:=HK6.out.by_.cell (i:=9) rfl
    rw [HI.out] at l1
    have hp0:=HPB.out 0 (by omega)
    obtain ⟨s0,hs0⟩: ∃s0,a 0=s0:=⟨_,rfl⟩
    rw [hs0] at hp0 HP0 ⊢
    have ⟨v1w,v1w'⟩:=wrapn (n:=s0-1) (by omega)
    have hS0:I64 (s0-1):=by unfold I64;omega
    have HS0:=Lib.hid hS0
    clear hS0 hs0
    go_wp2_with (first
      |(go_at_call 16;refine (HOC.out _ _ _ HS0.out HP0.out HB6.out).mono ?_;rintro e w7 ⟨rfl,hb7⟩;have HB7:=Lib.hid (bstep HB6.out hb7);have HK7:=Lib.hid (HK6.out.below hb7);clear hb7 x0 x1 x2 x3 l0 l1 l2 l3 l4 l5 l6 l7 l8 l9;have x0:=HK7.out.bx.cell (i:=0) rfl;have x1:=HK7.out.bx.cell (i:=1) rfl;have x2:=HK7.out.bx.cell (i:=2) rfl;have x3:=HK7.out.bx.cell (i:=3) rfl;have l0:=HK7.out.by_.cell (i:=0) rfl;have l1:=HK7.out.by_.cell (i:=1) rfl;have l2:=HK7.out.by_.cell (i:=2) rfl;have l3:=HK7.out.by_.cell (i:=3) rfl;have l4:=HK7.out.by_.cell (i:=4) rfl;have l5:=HK7.out.by_.cell (i:=5) rfl;have l6:=HK7.out.by_.cell (i:=6) rfl;have l7:=HK7.out.by_.cell (i:=7) rfl;have l8:=HK7.out.by_.cell (i:=8) rfl;have l9:=HK7.out.by_.cell (i:=9) rfl;rw [HI.out] at l1)
      |(go_at_call 18;refine (HPC.out _ _ _ HS0.out HP0.out HB7.out).mono ?_;rintro e w8 ⟨rfl,hb8⟩;have HB8:=Lib.hid (bstep HB7.out hb8);clear hb8 x0 x1 x2 x3 l0 l1 l2 l3 l4 l5 l6 l7 l8 l9))
    go_loopw [9] (fun iv wr=> ∃k:Nat,iv= .int .i64 k∧k≤7∧Hid (Below W5.heap.size W5 wr)) (fun iv _=>7-(intOf iv).toNat)
    case atStart=>exact ⟨0,rfl,by omega,HB8⟩
    case round=>
      clear v1w v1w'
      obtain ⟨k,rfl,hk,HW⟩:=hrel
      by_cases hlt:k<7
      · have hp1:=HPB.out k (by omega)
        have hp2:=HPB.out (k+1) (by omega)
        obtain ⟨rn,hrn⟩: ∃rn,k%m2=rn:=⟨_,rfl⟩
        have hr2:rn<m2:=by rw [←hrn];exact Nat.mod_lt _ hm0
        obtain ⟨x,hx⟩:=get_ex (xs:=l.mem) (i:=rn) (by have :=HLL.out;omega)
        have hX1:=HP1.out k hlt
        have hX2:=HP2.out k hlt
        rw [hrn,List.getD,hx] at hX1 hX2
        change _=x at hX1
        change _=x at hX2
        have htm:Int.tmod (k:Int) (m2:Int)=(rn:Int):=by rw [Int.tmod_eq_emod_of_nonneg (by omega), ←hrn,Int.natCast_emod]
        have HKW:=Lib.hid (HK5.out.below HW.out)
        have ZBW:=Lib.hid (ZB.out.after HW.out)
        obtain ⟨mb,mo,em,hmb,mc⟩:=ints_cell HKW.out.din.lay.1.at_ hx
        simp only at em
        subst em
        obtain ⟨p,hp⟩: ∃p,a k=p:=⟨_,rfl⟩
        obtain ⟨q,hq⟩: ∃q,a (k+1)=q:=⟨_,rfl⟩
        have HA:=Lib.hid (HH.out k (k:Int) _ rfl (by omega) HW.out)
        have HA2:=Lib.hid (show ∀V,Below W5.heap.size W5 V→_ from fun V hb=>HH.out (k+1) ((k:Int)+1) V (by omega) (by omega) hb)
        rw [hp] at HA hp1 hX1
        rw [hq] at HA2 hp2 hX2
        have HX1:=Lib.hid hX1;have HX2:=Lib.hid hX2
        clear hX1 hX2 hp hq hx
        have k0:(0:Int)≤k:=by omega
        have k1:(k:Int)<7:=by omega
        have i0:(0:Int)≤rn:=by omega
        have i1:(rn:Int)<m2:=by omega
        have i2:((rn:Int)).toNat=rn:=by omega
        have i3:((m2:Int)==0)=false:=by simp;omega
        have htm2:(k:Int)%(m2:Int)=(rn:Int):=by rw [←Int.tmod_eq_emod_of_nonneg (by omega)];exact htm
        have i4:¬(m2:Int)=0:=by omega
        have i5:¬m2=0:=by omega
        have ⟨u1,u1'⟩:=wrapn (n:=(k:Int)+1) (by omega)
        have ⟨u2,u2'⟩:=wrapn (n:=q-1) (by omega)
        have ⟨u3,u3'⟩:=wrapn (n:=(rn:Int)) (by omega)
        have x0:=HKW.out.bx.cell (i:=0) rfl;have x1:=HKW.out.bx.cell (i:=1) rfl;have x2:=HKW.out.bx.cell (i:=2) rfl;have x3:=HKW.out.bx.cell (i:=3) rfl;have l0:=HKW.out.by_.cell (i:=0) rfl;have l1:=HKW.out.by_.cell (i:=1) rfl;have l2:=HKW.out.by_.cell (i:=2) rfl;have l3:=HKW.out.by_.cell (i:=3) rfl;have l4:=HKW.out.by_.cell (i:=4) rfl;have l5:=HKW.out.by_.cell (i:=5) rfl;have l6:=HKW.out.by_.cell (i:=6) rfl;have l7:=HKW.out.by_.cell (i:=7) rfl;have l8:=HKW.out.by_.cell (i:=8) rfl;have l9:=HKW.out.by_.cell (i:=9) rfl
        rw [HI.out] at l1
        have y0:=ZBW.out.cell (i:=0) rfl;have y1:=ZBW.out.cell (i:=1) rfl;have y2:=ZBW.out.cell (i:=2) rfl
        go_upto_region 16 with (first
          |(go_at_call 31;refine HA.out.mono ?_;rintro e w9 ⟨rfl,hb9⟩;clear HA;have HB9:=Lib.hid (bstep HW.out hb9);have HK9:=Lib.hid (HKW.out.below hb9);have ZB9:=Lib.hid (ZBW.out.after hb9);have mc9:=cell_keep mc hb9;clear hb9 x0 x1 x2 x3 l0 l1 l2 l3 l4 l5 l6 l7 l8 l9 y0 y1 y2 mc;have x0:=HK9.out.bx.cell (i:=0) rfl;have x1:=HK9.out.bx.cell (i:=1) rfl;have x2:=HK9.out.bx.cell (i:=2) rfl;have x3:=HK9.out.bx.cell (i:=3) rfl;have l0:=HK9.out.by_.cell (i:=0) rfl;have l1:=HK9.out.by_.cell (i:=1) rfl;have l2:=HK9.out.by_.cell (i:=2) rfl;have l3:=HK9.out.by_.cell (i:=3) rfl;have l4:=HK9.out.by_.cell (i:=4) rfl;have l5:=HK9.out.by_.cell (i:=5) rfl;have l6:=HK9.out.by_.cell (i:=6) rfl;have l7:=HK9.out.by_.cell (i:=7) rfl;have l8:=HK9.out.by_.cell (i:=8) rfl;have l9:=HK9.out.by_.cell (i:=9) rfl;rw [HI.out] at l1;have y0:=ZB9.out.cell (i:=0) rfl;have y1:=ZB9.out.cell (i:=1) rfl;have y2:=ZB9.out.cell (i:=2) rfl)
          |(go_at_call 31;refine (HA2.out _ HB9.out).mono ?_;rintro e wx ⟨rfl,hbx⟩;have HBX:=Lib.hid (bstep HB9.out hbx);have HKX:=Lib.hid (HK9.out.below hbx);have mcx:=cell_keep mc9 hbx;clear hbx x0 x1 x2 x3 l0 l1 l2 l3 l4 l5 l6 l7 l8 l9 y0 y1 y2 mc9;have x0:=HKX.out.bx.cell (i:=0) rfl;have x1:=HKX.out.bx.cell (i:=1) rfl;have x2:=HKX.out.bx.cell (i:=2) rfl;have x3:=HKX.out.bx.cell (i:=3) rfl;have l0:=HKX.out.by_.cell (i:=0) rfl;have l1:=HKX.out.by_.cell (i:=1) rfl;have l2:=HKX.out.by_.cell (i:=2) rfl;have l3:=HKX.out.by_.cell (i:=3) rfl;have l4:=HKX.out.by_.cell (i:=4) rfl;have l5:=HKX.out.by_.cell (i:=5) rfl;have l6:=HKX.out.by_.cell (i:=6) rfl;have l7:=HKX.out.by_.cell (i:=7) rfl;have l8:=HKX.out.by_.cell (i:=8) rfl;have l9:=HKX.out.by_.cell (i:=9) rfl;rw [HI.out] at l1))
        have S1:=Lib.hid (show wx.cell? ⟨bc,0,none⟩=some (.slice (some ⟨zb,zo,none⟩) a2 a3)∧wx.cell? ⟨bc,1,none⟩=some (.slice b1 b2 b3)∧wx.cell? ⟨bc,2,none⟩=some (.slice c1 c2 c3)∧wx.cell? ⟨bc,3,none⟩=some (.slice d1 d2 d3)∧wx.cell? ⟨bl,0,none⟩=some (.string ⟨#[97]⟩)∧wx.cell? ⟨bl,1,none⟩=some (.int .i64 (i:Int))∧wx.cell? ⟨bl,2,none⟩=some (.int .i64 l.day)∧wx.cell? ⟨bl,3,none⟩=some (.int .i64 l.sec)∧wx.cell? ⟨bl,4,none⟩=some (.int .i64 l.unit)∧wx.cell? ⟨bl,5,none⟩=some (.int .i64 l.every)∧wx.cell? ⟨bl,6,none⟩=some (.slice (some ⟨mb,mo,none⟩) m2 m3)∧wx.cell? ⟨bl,7,none⟩=some (.slice none 0 0)∧wx.cell? ⟨bl,8,none⟩=some (.int .i64 0)∧wx.cell? ⟨bl,9,none⟩=some (.int .i64 0)∧wx.cell? ⟨mb,mo+rn,none⟩=some (.int .i64 x)∧Below wx.heap.size wx wx from ⟨x0,x1,x2,x3,l0,l1,l2,l3,l4,l5,l6,l7,l8,l9,mcx,Below.refl _ _⟩)
        have HPE:=Lib.hid (show ∀(y:Int) V,(y=p∨y=q-1)→Below wx.heap.size wx V→Calls Tryz.prog 18 #[.agg #[.slice (some ⟨zb,zo,none⟩) a2 a3,.slice b1 b2 b3,.slice c1 c2 c3,.slice d1 d2 d3],.agg #[.string ⟨#[97]⟩,.int .i64 (i:Int),.int .i64 l.day,.int .i64 l.sec,.int .i64 l.unit,.int .i64 l.every,.slice (some ⟨mb,mo,none⟩) m2 m3,.slice none 0 0,.int .i64 0,.int .i64 0],.int .i64 y] V fun e w'=>e= .returned (.int .i64 x)∧Below V.heap.size V w' from fun y V hy hb=>HPC.out y x V (by unfold I64;omega) (by rcases hy with rfl|rfl;exact HX1.out;exact HX2.out) (bstep HBX.out hb))
        clear HB9 HK9 ZB9 HKX HKW ZBW x0 x1 x2 x3 l0 l1 l2 l3 l4 l5 l6 l7 l8 l9 mcx u1 u1'
        go_cut [114] (fun v wy=>v= .bool false∧Hid (Below wx.heap.size wx wy))
        case first =>
          clear HT HM HLN HNM HML HFT HSM HFB HOK HPB HI HLL HP1 HP2 HHV HZ HTR HO ZB HZI HB6 HP0 HS0 HB7 HB8 HW HK5 HH HPC HOC HA2 HX1 HX2 HBX hza hpa hca hz1 hzl hpl hcl hlen hm3 j1 j0 hp0 hk hmb
          go_region_held3 (fun V=>V.cell? ⟨bc,0,none⟩=some (.slice (some ⟨zb,zo,none⟩) a2 a3)∧V.cell? ⟨bc,1,none⟩=some (.slice b1 b2 b3)∧V.cell? ⟨bc,2,none⟩=some (.slice c1 c2 c3)∧V.cell? ⟨bc,3,none⟩=some (.slice d1 d2 d3)∧V.cell? ⟨bl,0,none⟩=some (.string ⟨#[97]⟩)∧V.cell? ⟨bl,1,none⟩=some (.int .i64 (i:Int))∧V.cell? ⟨bl,2,none⟩=some (.int .i64 l.day)∧V.cell? ⟨bl,3,none⟩=some (.int .i64 l.sec)∧V.cell? ⟨bl,4,none⟩=some (.int .i64 l.unit)∧V.cell? ⟨bl,5,none⟩=some (.int .i64 l.every)∧V.cell? ⟨bl,6,none⟩=some (.slice (some ⟨mb,mo,none⟩) m2 m3)∧V.cell? ⟨bl,7,none⟩=some (.slice none 0 0)∧V.cell? ⟨bl,8,none⟩=some (.int .i64 0)∧V.cell? ⟨bl,9,none⟩=some (.int .i64 0)∧V.cell? ⟨mb,mo+rn,none⟩=some (.int .i64 x)∧Below wx.heap.size wx V)
            (first|(exact keepTu S1.out (Below.refl _ _).drew)|(exact keepTu (by assumption) hb))
            (first|(go_at_call 18;((with_reducible refine (HPE.out _ _ (by omega) (lastTu (by assumption))).mono ?_);rintro e w' ⟨rfl,hb⟩)))
          have hlast:Below wx.heap.size wx _:=lastTu (by assumption)
          go_wp2_with fail
          go_meet
          exact ⟨rfl,Lib.hid hlast⟩
        case rest=>
        obtain ⟨rfl,HLA⟩:=hcut
        clear S1 HPE hrn htm htm2 i0 i1 i2 i3 i4 i5 u2 u2' u3 u3' hr2 hp1 hp2
        have ⟨v4,v4'⟩:=wrapn (n:=(k:Int)+1) (by omega)
        go_wp2_with fail
        go_roundw
        case rel=>exact ⟨k+1,by go_num,Nat.succ_le_of_lt hlt,Lib.hid (bstep HBX.out HLA.out)⟩
        case measure=>exact measT hlt
      · obtain rfl:k=7:=by omega
        go_wp2_with (go_at_call 9;refine (sane11_any _ (HT.out _ (bstep HK5.out.base HW.out))).mono ?_;rintro e w12 ⟨rfl,hB12⟩;have HB12:=Lib.hid (bstep (bstep HK5.out.base HW.out) hB12);clear hB12)
        go_ret
        exact ⟨rfl,HB12.out⟩
  · have hl:decide ((n:Int)≤500)=false:=by simp;omega
    clear hA hn hf
    go_enter Tryz.func6,Tryz.ntmps6
    go_wp2_with fail
    refine (Light_any A n c _).mono ?_
    rw [hl]
    rintro e w' ⟨rfl,rfl⟩
    go_wp2_with fail
    refine (sane11_any _ (HT.out _ (Below.refl _ _))).mono ?_
    rintro e w1 ⟨rfl,b1⟩
    go_wp2_with fail
    go_ret
    exact ⟨rfl,b1⟩
end Go.Proofs.YtfamcohbnoibaaaGreatDoor
