import Derived.Test.YtfamcohbnoibaaaGreatDoorKG11
import Derived.LoopN
import Derived.Laws.EntriesVeiled
set_option linter.unusedVariables false
set_option linter.unusedSimpArgs false
set_option maxRecDepth 100000
namespace Go.Proofs.YtfamcohbnoibaaaGreatDoor
open Go.RowKit
structure ChkK (w:World) (C:Rs.Cfg) (A1 A2 A3 A4:Option Addr) (n1 c1 n2 c2 n3 c3 n4 c4:Nat) (W:World):Prop where
 base:Below w.heap.size w W
 cfg:BlkAt W w.heap.size #[.slice A1 n1 c1,.slice A2 n2 c2,.slice A3 n3 c3,.slice A4 n4 c4] 33
 arr:BlkAt W (w.heap.size+1) #[.int .i64 (n1:Int),.func (.func 104) #[] #[],.int .i64 (n2:Int),.func (.func 105) #[] #[],.int .i64 (n3:Int),.func (.func 106) #[] #[],.int .i64 (n4:Int),.func (.func 107) #[] #[]] 150
 at_:CfgAt 0 W.heap.size W (A1,n1,c1) (A2,n2,c2) (A3,n3,c3) (A4,n4,c4) C
 civ:CivT W
section
variable {w:World} {C:Rs.Cfg} {A1 A2 A3 A4:Option Addr} {n1 c1 n2 c2 n3 c3 n4 c4:Nat} {W W':World}
theorem ChkK.below (h:ChkK w C A1 A2 A3 A4 n1 c1 n2 c2 n3 c3 n4 c4 W) (hb:Below W.heap.size W W'):ChkK w C A1 A2 A3 A4 n1 c1 n2 c2 n3 c3 n4 c4 W':=
 ⟨bstep h.base hb,h.cfg.after hb,h.arr.after hb,cfg_in h.at_ hb,h.civ.below hb⟩
theorem ChkK.cells (h:ChkK w C A1 A2 A3 A4 n1 c1 n2 c2 n3 c3 n4 c4 W):W.cell? ⟨w.heap.size,0,none⟩=some (.slice A1 n1 c1)∧W.cell? ⟨w.heap.size,1,none⟩=some (.slice A2 n2 c2)∧W.cell? ⟨w.heap.size,2,none⟩=some (.slice A3 n3 c3)∧W.cell? ⟨w.heap.size,3,none⟩=some (.slice A4 n4 c4)∧W.cell? ⟨w.heap.size+1,0,none⟩=some (.int .i64 (n1:Int))∧W.cell? ⟨w.heap.size+1,1,none⟩=some (.func (.func 104) #[] #[])∧W.cell? ⟨w.heap.size+1,2,none⟩=some (.int .i64 (n2:Int))∧W.cell? ⟨w.heap.size+1,3,none⟩=some (.func (.func 105) #[] #[])∧W.cell? ⟨w.heap.size+1,4,none⟩=some (.int .i64 (n3:Int))∧W.cell? ⟨w.heap.size+1,5,none⟩=some (.func (.func 106) #[] #[])∧W.cell? ⟨w.heap.size+1,6,none⟩=some (.int .i64 (n4:Int))∧W.cell? ⟨w.heap.size+1,7,none⟩=some (.func (.func 107) #[] #[]):=⟨h.cfg.cell rfl,h.cfg.cell rfl,h.cfg.cell rfl,h.cfg.cell rfl,h.arr.cell rfl,h.arr.cell rfl,h.arr.cell rfl,h.arr.cell rfl,h.arr.cell rfl,h.arr.cell rfl,h.arr.cell rfl,h.arr.cell rfl⟩
end
theorem two_cells {W:World} {g n:Nat} {fv:Value} {T:TypeId} (h:BlkAt W g #[.int .i64 (n:Int),fv] T):W.cell? ⟨g,0,none⟩=some (.int .i64 (n:Int))∧W.cell? ⟨g,1,none⟩=some fv:=⟨h.cell rfl,h.cell rfl⟩
set_option maxHeartbeats 16000000 in
theorem check_cfg {C:Rs.Cfg} {R:Int} (hR:Rs.chkS C=R) (A1 A2 A3 A4:Option Addr) (n1 c1 n2 c2 n3 c3 n4 c4:Nat) (w:World) (hC:CfgAt 0 w.heap.size w (A1,n1,c1) (A2,n2,c2) (A3,n3,c3) (A4,n4,c4) C) (hT:CivT w):
  Calls Tryz.prog 71 #[.agg #[.slice A1 n1 c1,.slice A2 n2 c2,.slice A3 n3 c3,.slice A4 n4 c4]] w fun e w'=>e= .returned (.int .i64 R)∧Below w.heap.size w w':=by
 have l1:=hC.zones.len
 have l2:=hC.people.len
 have l3:=hC.cals.len
 have l4:=hC.scheds.len
 simp only at l1 l2 l3 l4
 unfold Rs.chkS at hR
 rw [l1.1,l2.1,l3.1,l4.1] at hR
 have B0:=(Below.refl _ w).alloc (Nat.le_refl _) (.cells #[.slice A1 n1 c1,.slice A2 n2 c2,.slice A3 n3 c3,.slice A4 n4 c4] 33)
 by_cases m0:16<n1
 ·have t0:decide ((16:Int)<n1)=true:=by simp;omega
  obtain rfl:R=5:=by rw [if_pos (by omega)] at hR;exact hR.symm
  clear hR m0
  go_enter Tryz.func71,Tryz.ntmps71
  go_wp2_with fail
  go_ret
  exact ⟨rfl,B0⟩
 have t0:decide ((16:Int)<n1)=false:=by simp;omega
 by_cases m1:32<n2
 ·have t1:decide ((32:Int)<n2)=true:=by simp;omega
  obtain rfl:R=5:=by rw [if_pos (by omega)] at hR;exact hR.symm
  clear hR m1
  go_enter Tryz.func71,Tryz.ntmps71
  go_wp2_with fail
  go_ret
  exact ⟨rfl,B0⟩
 have t1:decide ((32:Int)<n2)=false:=by simp;omega
 by_cases m2:8<n3
 ·have t2:decide ((8:Int)<n3)=true:=by simp;omega
  obtain rfl:R=5:=by rw [if_pos (by omega)] at hR;exact hR.symm
  clear hR m2
  go_enter Tryz.func71,Tryz.ntmps71
  go_wp2_with fail
  go_ret
  exact ⟨rfl,B0⟩
 have t2:decide ((8:Int)<n3)=false:=by simp;omega
 by_cases m3:12<n4
 ·have t3:decide ((12:Int)<n4)=true:=by simp;omega
  obtain rfl:R=5:=by rw [if_pos (by omega)] at hR;exact hR.symm
  clear hR m3
  go_enter Tryz.func71,Tryz.ntmps71
  go_wp2_with fail
  go_ret
  exact ⟨rfl,B0⟩
 have t3:decide ((12:Int)<n4)=false:=by simp;omega
 rw [if_neg (by omega)] at hR
 clear m0 m1 m2 m3
 obtain ⟨E1,hE1⟩: ∃E,Rs.znE C=E:=⟨_,rfl⟩
 obtain ⟨E2,hE2⟩: ∃E,Rs.peE C=E:=⟨_,rfl⟩
 obtain ⟨E3,hE3⟩: ∃E,Rs.caE C=E:=⟨_,rfl⟩
 obtain ⟨E4,hE4⟩: ∃E,Rs.scE C=E:=⟨_,rfl⟩
 rw [hE1,hE2,hE3,hE4] at hR
 unfold Rs.znE at hE1
 unfold Rs.peE at hE2
 unfold Rs.caE at hE3
 unfold Rs.scE at hE4
 have F1:Hid (Rs.fe (Rs.zoneE (C.zones.map (·.name))) 0 (C.zones.drop 0)=E1):=Lib.hid hE1
 have F2:Hid (Rs.fe (Rs.persE C.zones.length (C.people.map (·.name))) 0 (C.people.drop 0)=E2):=Lib.hid hE2
 have F3:Hid (Rs.fe (Rs.calE C.zones.length (C.cals.map (·.name))) 0 (C.cals.drop 0)=E3):=Lib.hid hE3
 have F4:Hid (Rs.fe (Rs.schE C.zones.length C.people.length C.cals.length (C.scheds.map (·.name))) 0 (C.scheds.drop 0)=E4):=Lib.hid hE4
 have HR:=Lib.hid hR
 have HL:=Lib.hid (And.intro l1.1 (And.intro l2.1 (And.intro l3.1 l4.1)))
 have S0:=Lib.hid (ChkK.mk (A1:=A1) (A2:=A2) (A3:=A3) (A4:=A4) (n1:=n1) (c1:=c1) (n2:=n2) (c2:=c2) (n3:=n3) (c3:=c3) (n4:=n4) (c4:=c4) (B0.alloc B0.size (.cells #[.int .i64 (n1:Int),.func (.func 104) #[] #[],.int .i64 (n2:Int),.func (.func 105) #[] #[],.int .i64 (n3:Int),.func (.func 106) #[] #[],.int .i64 (n4:Int),.func (.func 107) #[] #[]] 150)) (BlkAt.alloc (BlkAt.new w #[.slice A1 n1 c1,.slice A2 n2 c2,.slice A3 n3 c3,.slice A4 n4 c4] 33) (.cells #[.int .i64 (n1:Int),.func (.func 104) #[] #[],.int .i64 (n2:Int),.func (.func 105) #[] #[],.int .i64 (n3:Int),.func (.func 106) #[] #[],.int .i64 (n4:Int),.func (.func 107) #[] #[]] 150)) (blk_next (w:=w) (.cells #[.slice A1 n1 c1,.slice A2 n2 c2,.slice A3 n3 c3,.slice A4 n4 c4] 33) (.cells #[.int .i64 (n1:Int),.func (.func 104) #[] #[],.int .i64 (n2:Int),.func (.func 105) #[] #[],.int .i64 (n3:Int),.func (.func 106) #[] #[],.int .i64 (n4:Int),.func (.func 107) #[] #[]] 150) rfl) (cfg_in hC (B0.alloc B0.size (.cells #[.int .i64 (n1:Int),.func (.func 104) #[] #[],.int .i64 (n2:Int),.func (.func 105) #[] #[],.int .i64 (n3:Int),.func (.func 106) #[] #[],.int .i64 (n4:Int),.func (.func 107) #[] #[]] 150))) (hT.below (B0.alloc B0.size (.cells #[.int .i64 (n1:Int),.func (.func 104) #[] #[],.int .i64 (n2:Int),.func (.func 105) #[] #[],.int .i64 (n3:Int),.func (.func 106) #[] #[],.int .i64 (n4:Int),.func (.func 107) #[] #[]] 150))))
 have b1:n1≤1000000:=l1.2.2
 have b2:n2≤1000000:=l2.2.2
 have b3:n3≤1000000:=l3.2.2
 have b4:n4≤1000000:=l4.2.2
 clear hE1 hE2 hE3 hE4 hR l1 l2 l3 l4 hC hT B0
 go_enter Tryz.func71,Tryz.ntmps71
 go_wp2_with fail
 refine wp_loop_rounds 5 ?_
 generalize (w.alloc (.cells #[.slice A1 n1 c1,.slice A2 n2 c2,.slice A3 n3 c3,.slice A4 n4 c4] 33)).alloc (.cells #[.int .i64 (n1:Int),.func (.func 104) #[] #[],.int .i64 (n2:Int),.func (.func 105) #[] #[],.int .i64 (n3:Int),.func (.func 106) #[] #[],.int .i64 (n4:Int),.func (.func 107) #[] #[]] 150)=W0 at S0 ⊢
 obtain ⟨k0,k1,k2,k3,a0,a1,a2,a3,a4,a5,a6,a7⟩:=S0.out.cells
 rw [rounds_succ]
 go_wp2_with fail
 go_loopw [53] (fun i wr=> ∃(k:Nat),k≤n1∧i= .int .i64 k∧Hid (Rs.fe (Rs.zoneE (C.zones.map (·.name))) k (C.zones.drop k)=E1)∧Hid (ChkK w C A1 A2 A3 A4 n1 c1 n2 c2 n3 c3 n4 c4 wr)∧Hid (BlkAt wr W0.heap.size #[.int .i64 (n1:Int),.func (.func 104) #[] #[]] 150)) (fun i _=>n1-(intOf i).toNat)
 case atStart=>exact ⟨0,Nat.zero_le _,rfl,F1,Lib.hid (S0.out.below ((Below.refl _ _).alloc (Nat.le_refl _) _)),Lib.hid (BlkAt.new _ _ _)⟩
 case round=>
  clear F1 S0 k0 k1 k2 k3 a0 a1 a2 a3 a4 a5 a6 a7
  obtain ⟨k,hk,rfl,HF,SK,LB⟩:=hrel
  by_cases hlt:k<n1
  ·obtain ⟨y,hy⟩:=get_ex (xs:=C.zones) (i:=k) (by rw [HL.out.1];exact hlt)
   obtain ⟨k0,k1,k2,k3,a0,a1,a2,a3,a4,a5,a6,a7⟩:=SK.out.cells
   obtain ⟨p0,p1⟩:=two_cells LB.out
   obtain ⟨v,hv⟩: ∃v,(Rs.zoneE (C.zones.map (·.name))) k y=v:=⟨_,rfl⟩
   have hst:=HF.out
   rw [Rs.fe_step hy,hv] at hst
   have CC:=Lib.hid (checkZone_is hy hv A1 A2 A3 A4 n1 c1 n2 c2 n3 c3 n4 c4 wr SK.out.at_ SK.out.civ)
   clear hy hv HF
   by_cases hv0:v=0
   ·have N:=Lib.hid (show Rs.fe (Rs.zoneE (C.zones.map (·.name))) (k+1) (C.zones.drop (k+1))=E1 by rw [if_pos hv0] at hst;exact hst)
    subst hv0
    clear hst
    go_wp2_with fail
    refine CC.out.mono ?_
    rintro e wn ⟨rfl,bn⟩
    have SN:=Lib.hid (SK.out.below bn)
    have LN:=Lib.hid (LB.out.after bn)
    clear bn
    go_wp2_with fail
    go_roundw
    case rel=>exact ⟨k+1,by omega,by go_num,N,SN,LN⟩
    case measure=>simp [intOf];omega
   ·have t9:(v !=0)=true:=by simpa using hv0
    have N:=Lib.hid (show R=v by rw [if_neg hv0] at hst;rw [←HR.out];simp [←hst,hv0])
    clear hst hv0
    go_wp2_with fail
    refine CC.out.mono ?_
    rintro e wn ⟨rfl,bn⟩
    have BN:=bstep SK.out.base bn
    clear bn
    go_wp2_with fail
    go_ret
    exact ⟨ret_int N.out.symm,BN⟩
  ·have Z1:=Lib.hid (show E1=0 by have h:=HF.out;rw [Rs.fe_done (by rw [HL.out.1];omega)] at h;exact h.symm)
   clear HF LB hk
   have S1:=SK
   clear SK
   obtain ⟨W1,hW1⟩: ∃W:World,W=wr:=⟨_,rfl⟩
   subst hW1
   go_wp2_with fail
   obtain ⟨k0,k1,k2,k3,a0,a1,a2,a3,a4,a5,a6,a7⟩:=S1.out.cells
   rw [rounds_succ]
   go_wp2_with fail
   go_loopw [53] (fun i wr=> ∃(k:Nat),k≤n2∧i= .int .i64 k∧Hid (Rs.fe (Rs.persE C.zones.length (C.people.map (·.name))) k (C.people.drop k)=E2)∧Hid (ChkK w C A1 A2 A3 A4 n1 c1 n2 c2 n3 c3 n4 c4 wr)∧Hid (BlkAt wr W1.heap.size #[.int .i64 (n2:Int),.func (.func 105) #[] #[]] 150)) (fun i _=>n2-(intOf i).toNat)
   case atStart=>exact ⟨0,Nat.zero_le _,rfl,F2,Lib.hid (S1.out.below ((Below.refl _ _).alloc (Nat.le_refl _) _)),Lib.hid (BlkAt.new _ _ _)⟩
   case round=>
    clear F2 S1 k0 k1 k2 k3 a0 a1 a2 a3 a4 a5 a6 a7
    obtain ⟨k,hk,rfl,HF,SK,LB⟩:=hrel
    by_cases hlt:k<n2
    ·obtain ⟨y,hy⟩:=get_ex (xs:=C.people) (i:=k) (by rw [HL.out.2.1];exact hlt)
     obtain ⟨k0,k1,k2,k3,a0,a1,a2,a3,a4,a5,a6,a7⟩:=SK.out.cells
     obtain ⟨p0,p1⟩:=two_cells LB.out
     obtain ⟨v,hv⟩: ∃v,(Rs.persE C.zones.length (C.people.map (·.name))) k y=v:=⟨_,rfl⟩
     have hst:=HF.out
     rw [Rs.fe_step hy,hv] at hst
     have CC:=Lib.hid (checkPerson_is hy hv A1 A2 A3 A4 n1 c1 n2 c2 n3 c3 n4 c4 wr SK.out.at_)
     clear hy hv HF
     by_cases hv0:v=0
     ·have N:=Lib.hid (show Rs.fe (Rs.persE C.zones.length (C.people.map (·.name))) (k+1) (C.people.drop (k+1))=E2 by rw [if_pos hv0] at hst;exact hst)
      subst hv0
      clear hst
      go_wp2_with fail
      refine CC.out.mono ?_
      rintro e wn ⟨rfl,bn⟩
      have SN:=Lib.hid (SK.out.below bn)
      have LN:=Lib.hid (LB.out.after bn)
      clear bn
      go_wp2_with fail
      go_roundw
      case rel=>exact ⟨k+1,by omega,by go_num,N,SN,LN⟩
      case measure=>simp [intOf];omega
     ·have t9:(v !=0)=true:=by simpa using hv0
      have N:=Lib.hid (show R=v by rw [if_neg hv0] at hst;rw [←HR.out];simp [Z1.out, ←hst,hv0])
      clear hst hv0
      go_wp2_with fail
      refine CC.out.mono ?_
      rintro e wn ⟨rfl,bn⟩
      have BN:=bstep SK.out.base bn
      clear bn
      go_wp2_with fail
      go_ret
      exact ⟨ret_int N.out.symm,BN⟩
    ·have Z2:=Lib.hid (show E2=0 by have h:=HF.out;rw [Rs.fe_done (by rw [HL.out.2.1];omega)] at h;exact h.symm)
     clear HF LB hk
     have S2:=SK
     clear SK
     obtain ⟨W2,hW2⟩: ∃W:World,W=wr:=⟨_,rfl⟩
     subst hW2
     go_wp2_with fail
     obtain ⟨k0,k1,k2,k3,a0,a1,a2,a3,a4,a5,a6,a7⟩:=S2.out.cells
     rw [rounds_succ]
     go_wp2_with fail
     go_loopw [53] (fun i wr=> ∃(k:Nat),k≤n3∧i= .int .i64 k∧Hid (Rs.fe (Rs.calE C.zones.length (C.cals.map (·.name))) k (C.cals.drop k)=E3)∧Hid (ChkK w C A1 A2 A3 A4 n1 c1 n2 c2 n3 c3 n4 c4 wr)∧Hid (BlkAt wr W2.heap.size #[.int .i64 (n3:Int),.func (.func 106) #[] #[]] 150)) (fun i _=>n3-(intOf i).toNat)
     case atStart=>exact ⟨0,Nat.zero_le _,rfl,F3,Lib.hid (S2.out.below ((Below.refl _ _).alloc (Nat.le_refl _) _)),Lib.hid (BlkAt.new _ _ _)⟩
     case round=>
      clear F3 S2 k0 k1 k2 k3 a0 a1 a2 a3 a4 a5 a6 a7
      obtain ⟨k,hk,rfl,HF,SK,LB⟩:=hrel
      by_cases hlt:k<n3
      ·obtain ⟨y,hy⟩:=get_ex (xs:=C.cals) (i:=k) (by rw [HL.out.2.2.1];exact hlt)
       obtain ⟨k0,k1,k2,k3,a0,a1,a2,a3,a4,a5,a6,a7⟩:=SK.out.cells
       obtain ⟨p0,p1⟩:=two_cells LB.out
       obtain ⟨v,hv⟩: ∃v,(Rs.calE C.zones.length (C.cals.map (·.name))) k y=v:=⟨_,rfl⟩
       have hst:=HF.out
       rw [Rs.fe_step hy,hv] at hst
       have CC:=Lib.hid (checkCalendar_is hy hv A1 A2 A3 A4 n1 c1 n2 c2 n3 c3 n4 c4 wr SK.out.at_ SK.out.civ)
       clear hy hv HF
       by_cases hv0:v=0
       ·have N:=Lib.hid (show Rs.fe (Rs.calE C.zones.length (C.cals.map (·.name))) (k+1) (C.cals.drop (k+1))=E3 by rw [if_pos hv0] at hst;exact hst)
        subst hv0
        clear hst
        go_wp2_with fail
        refine CC.out.mono ?_
        rintro e wn ⟨rfl,bn⟩
        have SN:=Lib.hid (SK.out.below bn)
        have LN:=Lib.hid (LB.out.after bn)
        clear bn
        go_wp2_with fail
        go_roundw
        case rel=>exact ⟨k+1,by omega,by go_num,N,SN,LN⟩
        case measure=>simp [intOf];omega
       ·have t9:(v !=0)=true:=by simpa using hv0
        have N:=Lib.hid (show R=v by rw [if_neg hv0] at hst;rw [←HR.out];simp [Z1.out,Z2.out, ←hst,hv0])
        clear hst hv0
        go_wp2_with fail
        refine CC.out.mono ?_
        rintro e wn ⟨rfl,bn⟩
        have BN:=bstep SK.out.base bn
        clear bn
        go_wp2_with fail
        go_ret
        exact ⟨ret_int N.out.symm,BN⟩
      ·have Z3:=Lib.hid (show E3=0 by have h:=HF.out;rw [Rs.fe_done (by rw [HL.out.2.2.1];omega)] at h;exact h.symm)
       clear HF LB hk
       have S3:=SK
       clear SK
       obtain ⟨W3,hW3⟩: ∃W:World,W=wr:=⟨_,rfl⟩
       subst hW3
       go_wp2_with fail
       obtain ⟨k0,k1,k2,k3,a0,a1,a2,a3,a4,a5,a6,a7⟩:=S3.out.cells
       rw [rounds_succ]
       go_wp2_with fail
       go_loopw [53] (fun i wr=> ∃(k:Nat),k≤n4∧i= .int .i64 k∧Hid (Rs.fe (Rs.schE C.zones.length C.people.length C.cals.length (C.scheds.map (·.name))) k (C.scheds.drop k)=E4)∧Hid (ChkK w C A1 A2 A3 A4 n1 c1 n2 c2 n3 c3 n4 c4 wr)∧Hid (BlkAt wr W3.heap.size #[.int .i64 (n4:Int),.func (.func 107) #[] #[]] 150)) (fun i _=>n4-(intOf i).toNat)
       case atStart=>exact ⟨0,Nat.zero_le _,rfl,F4,Lib.hid (S3.out.below ((Below.refl _ _).alloc (Nat.le_refl _) _)),Lib.hid (BlkAt.new _ _ _)⟩
       case round=>
        clear F4 S3 k0 k1 k2 k3 a0 a1 a2 a3 a4 a5 a6 a7
        obtain ⟨k,hk,rfl,HF,SK,LB⟩:=hrel
        by_cases hlt:k<n4
        ·obtain ⟨y,hy⟩:=get_ex (xs:=C.scheds) (i:=k) (by rw [HL.out.2.2.2];exact hlt)
         obtain ⟨k0,k1,k2,k3,a0,a1,a2,a3,a4,a5,a6,a7⟩:=SK.out.cells
         obtain ⟨p0,p1⟩:=two_cells LB.out
         obtain ⟨v,hv⟩: ∃v,(Rs.schE C.zones.length C.people.length C.cals.length (C.scheds.map (·.name))) k y=v:=⟨_,rfl⟩
         have hst:=HF.out
         rw [Rs.fe_step hy,hv] at hst
         have CC:=Lib.hid (checkSchedule_is hy hv A1 A2 A3 A4 n1 c1 n2 c2 n3 c3 n4 c4 wr SK.out.at_ SK.out.civ)
         clear hy hv HF
         by_cases hv0:v=0
         ·have N:=Lib.hid (show Rs.fe (Rs.schE C.zones.length C.people.length C.cals.length (C.scheds.map (·.name))) (k+1) (C.scheds.drop (k+1))=E4 by rw [if_pos hv0] at hst;exact hst)
          subst hv0
          clear hst
          go_wp2_with fail
          refine CC.out.mono ?_
          rintro e wn ⟨rfl,bn⟩
          have SN:=Lib.hid (SK.out.below bn)
          have LN:=Lib.hid (LB.out.after bn)
          clear bn
          go_wp2_with fail
          go_roundw
          case rel=>exact ⟨k+1,by omega,by go_num,N,SN,LN⟩
          case measure=>simp [intOf];omega
         ·have t9:(v !=0)=true:=by simpa using hv0
          have N:=Lib.hid (show R=v by rw [if_neg hv0] at hst;rw [←HR.out];simp [Z1.out,Z2.out,Z3.out, ←hst,hv0])
          clear hst hv0
          go_wp2_with fail
          refine CC.out.mono ?_
          rintro e wn ⟨rfl,bn⟩
          have BN:=bstep SK.out.base bn
          clear bn
          go_wp2_with fail
          go_ret
          exact ⟨ret_int N.out.symm,BN⟩
        ·have Z4:=Lib.hid (show E4=0 by have h:=HF.out;rw [Rs.fe_done (by rw [HL.out.2.2.2];omega)] at h;exact h.symm)
         clear HF LB hk
         have S4:=SK
         clear SK
         obtain ⟨W4,hW4⟩: ∃W:World,W=wr:=⟨_,rfl⟩
         subst hW4
         go_wp2_with fail
         rw [rounds_succ]
         go_wp2_with fail
         have N:=Lib.hid (show R=0 by rw [←HR.out];simp [Z1.out,Z2.out,Z3.out,Z4.out])
         go_ret
         exact ⟨ret_int N.out.symm,S4.out.base⟩
end Go.Proofs.YtfamcohbnoibaaaGreatDoor
