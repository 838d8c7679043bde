import Derived.Test.YtfamcohbnoibaaaGreatDoorKG40
import Derived.Test.YtfamcohbnoibaaaGreatDoorKG07
set_option linter.unusedVariables false
set_option linter.unusedSimpArgs false
set_option maxRecDepth 100000
namespace Go.Proofs.YtfamcohbnoibaaaGreatDoor
open Go.RowKit
theorem cfg_in {w w':World} {a b c d:SV} {C:Rs.Cfg} (h:CfgAt 0 w.heap.size w a b c d C) (hb:Below w.heap.size w w'):CfgAt 0 w'.heap.size w' a b c d C:=(h.below (Nat.le_refl _) hb).mono (Nat.le_refl _) hb.size
theorem LIn.below {α:Type} {k:Nat} {e:α→Nat→Value} {w w':World} {v:SV} {l:List α} (h:LIn k e 0 w.heap.size w v l) (hb:Below w.heap.size w w'):LIn k e 0 w'.heap.size w' v l:=(h.kept (.of_below hb (Nat.le_refl _))).mono (Nat.le_refl _) hb.size
theorem zin_of_lin {w:World} {v:SV} {rs:List Zn.Rule} (h:LIn 7 eRule 0 w.heap.size w v rs) (hf: ∀r∈rs,FitR r) (hT:CivT w):ZIn w v.1 v.2.1 rs:=⟨hT,h.at_,h.len,hf,by have :=h.le;omega⟩
theorem win_of_lin {w:World} {v:SV} {l:List (Int×Int)} (h:LIn 2 ePair 0 w.heap.size w v l):WIn w v.1 v.2.1 l:=⟨h.at_,h.len,by have :=h.le;omega⟩
theorem cfg_cells {w:World} {g:Nat} {A1 A2 A3 A4:Option Addr} {n1 c1 n2 c2 n3 c3 n4 c4:Nat} (h:BlkAt w g #[.slice A1 n1 c1,.slice A2 n2 c2,.slice A3 n3 c3,.slice A4 n4 c4] 33):w.cell? ⟨g,0,none⟩=some (.slice A1 n1 c1)∧w.cell? ⟨g,1,none⟩=some (.slice A2 n2 c2)∧w.cell? ⟨g,2,none⟩=some (.slice A3 n3 c3)∧w.cell? ⟨g,3,none⟩=some (.slice A4 n4 c4):=⟨h.cell rfl,h.cell rfl,h.cell rfl,h.cell rfl⟩
theorem blk_next {w:World} (o o2:Obj) {vs:Array Value} {T:TypeId} (e:o2= .cells vs T):BlkAt ((w.alloc o).alloc o2) (w.heap.size+1) vs T:=by
 subst e
 have :=BlkAt.new (w.alloc o) vs T
 rwa [show (w.alloc o).heap.size=w.heap.size+1 by simp] at this
theorem z_cells {W:World} {g:Nat} {xn:List UInt8} {i1:Int} {E2:Option Addr} {m2 e2:Nat} (h:BlkAt W g #[.string ⟨xn.toArray⟩,.int .i64 i1,.slice E2 m2 e2] 71):W.cell? ⟨g,0,none⟩=some (.string ⟨xn.toArray⟩)∧W.cell? ⟨g,1,none⟩=some (.int .i64 i1)∧W.cell? ⟨g,2,none⟩=some (.slice E2 m2 e2):=⟨h.cell rfl,h.cell rfl,h.cell rfl⟩
set_option maxHeartbeats 8000000 in
theorem checkZone_is {C:Rs.Cfg} {i:Nat} {x:Rs.Zone} (hx:C.zones[i]? =some x) {R:Int} (hR:Rs.zoneE (C.zones.map (·.name)) i x=R) (A1 A2 A3 A4:Option Addr) (n1 c1 n2 c2 n3 c3 n4 c4:Nat) (w:World) (hC:CfgAt 0 w.heap.size w (A1,n1,c1) (A2,n2,c2) (A3,n3,c3) (A4,n4,c4) C) (hT:CivT w):
  Calls Tryz.prog 104 #[.agg #[.slice A1 n1 c1,.slice A2 n2 c2,.slice A3 n3 c3,.slice A4 n4 c4],.int .i64 i] w fun e w'=>e= .returned (.int .i64 R)∧Below w.heap.size w w':=by
 have hlen:=hC.zones.len
 simp only at hlen
 have hi:i<n1:=by have h:=(List.getElem?_eq_some_iff.1 hx).1;omega
 have B0:=(Below.refl _ w).alloc (Nat.le_refl _) (.cells #[.slice A1 n1 c1,.slice A2 n2 c2,.slice A3 n3 c3,.slice A4 n4 c4] 33)
 obtain ⟨x2,⟨E2,m2,e2⟩,b,off,hx2,ea,hb,d0,d1,d2,hok⟩:=z_elem (z_nest hC.zones B0) (i:=i) hi
 simp only at ea
 subst ea
 obtain rfl:x2=x:=Option.some.inj (hx2.symm.trans hx)
 simp only at d2
 have hnx:(C.zones.map (·.name))[i]? =some x2.name:=by rw [List.getElem?_map,hx];rfl
 unfold Rs.zoneE at hR
 obtain ⟨N,hN⟩: ∃N,Rs.nameE (C.zones.map (·.name)) i x2.name=N:=⟨_,rfl⟩
 rw [hN] at hR
 have ES:=Lib.hid hok
 generalize hi1:x2.off=i1 at d1 hR
 generalize hxn:x2.name=xn at d0 hnx hN
 have B1:=B0.alloc B0.size (.cells #[.string ⟨xn.toArray⟩,.int .i64 i1,.slice E2 m2 e2] 71)
 have K1:=BlkAt.alloc (BlkAt.new w #[.slice (some ⟨b,off,none⟩) n1 c1,.slice A2 n2 c2,.slice A3 n3 c3,.slice A4 n4 c4] 33) (.cells #[.string ⟨xn.toArray⟩,.int .i64 i1,.slice E2 m2 e2] 71)
 have E1:=blk_next (w:=w) (.cells #[.slice (some ⟨b,off,none⟩) n1 c1,.slice A2 n2 c2,.slice A3 n3 c3,.slice A4 n4 c4] 33) (.cells #[.string ⟨xn.toArray⟩,.int .i64 i1,.slice E2 m2 e2] 71) rfl
 have HNM:=Lib.hid (z_name hnx hN (some ⟨b,off,none⟩) n1 c1 ((w.alloc (.cells #[.slice (some ⟨b,off,none⟩) n1 c1,.slice A2 n2 c2,.slice A3 n3 c3,.slice A4 n4 c4] 33)).alloc (.cells #[.string ⟨xn.toArray⟩,.int .i64 i1,.slice E2 m2 e2] 71)) (z_nest hC.zones B1))
 have HC:=Lib.hid hC
 have HB1:=Lib.hid B1
 have HK1:=Lib.hid K1
 have HE1:=Lib.hid E1
 have h0:(0:Int)≤i:=by omega
 have h1:(i:Int)<n1:=by omega
 clear hC hx hx2 hlen hok B0 B1 K1 E1 hnx hN hb
 have HT:=Lib.hid hT
 clear hT
 obtain ⟨er,her⟩: ∃er,(Zn.trans i1 x2.rules).2=er:=⟨_,rfl⟩
 obtain ⟨m,hm⟩: ∃m,Rs.mins i1 x2.rules=m:=⟨_,rfl⟩
 rw [her,hm] at hR
 have HTR:=Lib.hid (show Zn.trans i1 x2.rules=((Zn.trans i1 x2.rules).1,er) by rw [←her])
 have HM:=Lib.hid hm
 have HI:=Lib.hid hi1
 clear her hm hi1 hxn
 by_cases hN0:N=0
 rotate_left
 ·have t0:(N !=0)=true:=by simpa using hN0
  obtain rfl:R=N:=by rw [if_pos hN0] at hR;exact hR.symm
  clear hR hN0
  go_enter Tryz.func104,Tryz.ntmps104
  go_wp2_with fail
  refine HNM.out.mono ?_
  rintro e w2 ⟨rfl,b2⟩
  have B2:=Lib.hid (bstep HB1.out b2)
  obtain ⟨k0,k1,k2,k3⟩:=cfg_cells (HK1.out.after b2)
  obtain ⟨q0,q1,q2⟩:=z_cells (HE1.out.after b2)
  clear b2
  go_wp2_with fail
  go_ret
  exact ⟨rfl,B2.out⟩
 subst hN0
 rw [if_neg (by decide)] at hR
 have L2:=fun (w2:World) (b:Below w.heap.size w w2)=>(cfg_in HC.out b).zones
 have HZ:Hid (∀W,Below (w.alloc (.cells #[.slice (some ⟨b,off,none⟩) n1 c1,.slice A2 n2 c2,.slice A3 n3 c3,.slice A4 n4 c4] 33)).heap.size (w.alloc (.cells #[.slice (some ⟨b,off,none⟩) n1 c1,.slice A2 n2 c2,.slice A3 n3 c3,.slice A4 n4 c4] 33)) W→ZoneOk 0 W.heap.size W x2 (E2,m2,e2)):=Lib.hid fun W hW=>((ES.out.kept (.of_below hW (Nat.le_refl _))).mono (Nat.le_refl _) hW.size)
 clear L2
 by_cases her:er=0
 rotate_left
 ·have t1:(er !=0)=true:=by simpa using her
  obtain rfl:R=8:=by rw [if_pos (.inl her)] at hR;exact hR.symm
  clear hR her
  go_enter Tryz.func104,Tryz.ntmps104
  go_wp2_with fail
  refine HNM.out.mono ?_
  rintro e w2 ⟨rfl,b2⟩
  have B2:=Lib.hid (bstep HB1.out b2)
  have Z2:=Lib.hid (HZ.out w2 (below_alloc_call b2))
  obtain ⟨k0,k1,k2,k3⟩:=cfg_cells (HK1.out.after b2)
  have EE:=HE1.out.after b2
  obtain ⟨q0,q1,q2⟩:=z_cells EE
  have HEE:=Lib.hid EE
  clear b2 EE
  go_wp2_with fail
  refine (check_is HTR.out _ _ _ _ w2 (zin_of_lin Z2.out.1 Z2.out.2.1 (HT.out.below B2.out)) (HI.out▸Z2.out.2.2)).mono ?_
  rintro e w3 ⟨rfl,b3⟩
  have B3:=Lib.hid (bstep B2.out b3)
  have Z3:=Lib.hid ((Z2.out.kept (.of_below b3 (Nat.le_refl _))).mono (Nat.le_refl _) b3.size)
  obtain ⟨r0,r1,r2⟩:=z_cells (HEE.out.after b3)
  clear b3 q0 q1 q2 k0 k1 k2 k3
  go_wp2_with fail
  go_ret
  exact ⟨rfl,B3.out⟩
 subst her
 cases m
 ·obtain rfl:R=8:=by simpa using hR.symm
  clear hR
  go_enter Tryz.func104,Tryz.ntmps104
  go_wp2_with fail
  refine HNM.out.mono ?_
  rintro e w2 ⟨rfl,b2⟩
  have B2:=Lib.hid (bstep HB1.out b2)
  have Z2:=Lib.hid (HZ.out w2 (below_alloc_call b2))
  obtain ⟨k0,k1,k2,k3⟩:=cfg_cells (HK1.out.after b2)
  have EE:=HE1.out.after b2
  obtain ⟨q0,q1,q2⟩:=z_cells EE
  have HEE:=Lib.hid EE
  clear b2 EE
  go_wp2_with fail
  refine (check_is HTR.out _ _ _ _ w2 (zin_of_lin Z2.out.1 Z2.out.2.1 (HT.out.below B2.out)) (HI.out▸Z2.out.2.2)).mono ?_
  rintro e w3 ⟨rfl,b3⟩
  have B3:=Lib.hid (bstep B2.out b3)
  have Z3:=Lib.hid ((Z2.out.kept (.of_below b3 (Nat.le_refl _))).mono (Nat.le_refl _) b3.size)
  obtain ⟨r0,r1,r2⟩:=z_cells (HEE.out.after b3)
  clear b3 q0 q1 q2 k0 k1 k2 k3
  go_wp2_with fail
  refine (mins_is HM.out _ _ _ _ w3 Z3.out.1).mono ?_
  rintro e w4 ⟨rfl,b4⟩
  have B4:=bstep B3.out b4
  clear b4
  go_wp2_with fail
  go_ret
  exact ⟨rfl,B4⟩
 ·obtain rfl:R=0:=by simpa using hR.symm
  clear hR
  go_enter Tryz.func104,Tryz.ntmps104
  go_wp2_with fail
  refine HNM.out.mono ?_
  rintro e w2 ⟨rfl,b2⟩
  have B2:=Lib.hid (bstep HB1.out b2)
  have Z2:=Lib.hid (HZ.out w2 (below_alloc_call b2))
  obtain ⟨k0,k1,k2,k3⟩:=cfg_cells (HK1.out.after b2)
  have EE:=HE1.out.after b2
  obtain ⟨q0,q1,q2⟩:=z_cells EE
  have HEE:=Lib.hid EE
  clear b2 EE
  go_wp2_with fail
  refine (check_is HTR.out _ _ _ _ w2 (zin_of_lin Z2.out.1 Z2.out.2.1 (HT.out.below B2.out)) (HI.out▸Z2.out.2.2)).mono ?_
  rintro e w3 ⟨rfl,b3⟩
  have B3:=Lib.hid (bstep B2.out b3)
  have Z3:=Lib.hid ((Z2.out.kept (.of_below b3 (Nat.le_refl _))).mono (Nat.le_refl _) b3.size)
  obtain ⟨r0,r1,r2⟩:=z_cells (HEE.out.after b3)
  clear b3 q0 q1 q2 k0 k1 k2 k3
  go_wp2_with fail
  refine (mins_is HM.out _ _ _ _ w3 Z3.out.1).mono ?_
  rintro e w4 ⟨rfl,b4⟩
  have B4:=bstep B3.out b4
  clear b4
  go_wp2_with fail
  go_ret
  exact ⟨rfl,B4⟩
theorem p_cells {W:World} {g:Nat} {xn:List UInt8} {i1:Int} {E2:Option Addr} {m2 e2:Nat} {i3:Int} {i4:Int} {i5:Bool} (h:BlkAt W g #[.string ⟨xn.toArray⟩,.int .i64 i1,.slice E2 m2 e2,.int .i64 i3,.int .i64 i4,.bool i5] 98):W.cell? ⟨g,0,none⟩=some (.string ⟨xn.toArray⟩)∧W.cell? ⟨g,1,none⟩=some (.int .i64 i1)∧W.cell? ⟨g,2,none⟩=some (.slice E2 m2 e2)∧W.cell? ⟨g,3,none⟩=some (.int .i64 i3)∧W.cell? ⟨g,4,none⟩=some (.int .i64 i4)∧W.cell? ⟨g,5,none⟩=some (.bool i5):=⟨h.cell rfl,h.cell rfl,h.cell rfl,h.cell rfl,h.cell rfl,h.cell rfl⟩
set_option maxHeartbeats 8000000 in
theorem checkPerson_is {C:Rs.Cfg} {i:Nat} {x:Rs.Pers} (hx:C.people[i]? =some x) {R:Int} (hR:Rs.persE C.zones.length (C.people.map (·.name)) i x=R) (A1 A2 A3 A4:Option Addr) (n1 c1 n2 c2 n3 c3 n4 c4:Nat) (w:World) (hC:CfgAt 0 w.heap.size w (A1,n1,c1) (A2,n2,c2) (A3,n3,c3) (A4,n4,c4) C):
  Calls Tryz.prog 105 #[.agg #[.slice A1 n1 c1,.slice A2 n2 c2,.slice A3 n3 c3,.slice A4 n4 c4],.int .i64 i] w fun e w'=>e= .returned (.int .i64 R)∧Below w.heap.size w w':=by
 have hlen:=hC.people.len
 simp only at hlen
 have hi:i<n2:=by have h:=(List.getElem?_eq_some_iff.1 hx).1;omega
 have B0:=(Below.refl _ w).alloc (Nat.le_refl _) (.cells #[.slice A1 n1 c1,.slice A2 n2 c2,.slice A3 n3 c3,.slice A4 n4 c4] 33)
 obtain ⟨x2,⟨E2,m2,e2⟩,b,off,hx2,ea,hb,d0,d1,d2,d3,d4,d5,hok⟩:=p_elem (p_nest hC.people B0) (i:=i) hi
 simp only at ea
 subst ea
 obtain rfl:x2=x:=Option.some.inj (hx2.symm.trans hx)
 simp only at d2
 have hnx:(C.people.map (·.name))[i]? =some x2.name:=by rw [List.getElem?_map,hx];rfl
 unfold Rs.persE at hR
 obtain ⟨N,hN⟩: ∃N,Rs.nameE (C.people.map (·.name)) i x2.name=N:=⟨_,rfl⟩
 rw [hN] at hR
 have ES:=Lib.hid hok
 generalize hi1:x2.zone=i1 at d1 hR
 generalize hi3:x2.maxw=i3 at d3 hR
 generalize hi4:x2.minr=i4 at d4 hR
 generalize hi5:x2.cons=i5 at d5 hR
 generalize hxn:x2.name=xn at d0 hnx hN
 have B1:=B0.alloc B0.size (.cells #[.string ⟨xn.toArray⟩,.int .i64 i1,.slice E2 m2 e2,.int .i64 i3,.int .i64 i4,.bool i5] 98)
 have K1:=BlkAt.alloc (BlkAt.new w #[.slice A1 n1 c1,.slice (some ⟨b,off,none⟩) n2 c2,.slice A3 n3 c3,.slice A4 n4 c4] 33) (.cells #[.string ⟨xn.toArray⟩,.int .i64 i1,.slice E2 m2 e2,.int .i64 i3,.int .i64 i4,.bool i5] 98)
 have E1:=blk_next (w:=w) (.cells #[.slice A1 n1 c1,.slice (some ⟨b,off,none⟩) n2 c2,.slice A3 n3 c3,.slice A4 n4 c4] 33) (.cells #[.string ⟨xn.toArray⟩,.int .i64 i1,.slice E2 m2 e2,.int .i64 i3,.int .i64 i4,.bool i5] 98) rfl
 have HNM:=Lib.hid (p_name hnx hN (some ⟨b,off,none⟩) n2 c2 ((w.alloc (.cells #[.slice A1 n1 c1,.slice (some ⟨b,off,none⟩) n2 c2,.slice A3 n3 c3,.slice A4 n4 c4] 33)).alloc (.cells #[.string ⟨xn.toArray⟩,.int .i64 i1,.slice E2 m2 e2,.int .i64 i3,.int .i64 i4,.bool i5] 98)) (p_nest hC.people B1))
 have HC:=Lib.hid hC
 have HB1:=Lib.hid B1
 have HK1:=Lib.hid K1
 have HE1:=Lib.hid E1
 have h0:(0:Int)≤i:=by omega
 have h1:(i:Int)<n2:=by omega
 clear hC hx hx2 hlen hok B0 B1 K1 E1 hnx hN hb
 have hzl:=HC.out.zones.len
 simp only at hzl
 rw [hzl.1] at hR
 have HZ:Hid (∀W,Below (w.alloc (.cells #[.slice A1 n1 c1,.slice (some ⟨b,off,none⟩) n2 c2,.slice A3 n3 c3,.slice A4 n4 c4] 33)).heap.size (w.alloc (.cells #[.slice A1 n1 c1,.slice (some ⟨b,off,none⟩) n2 c2,.slice A3 n3 c3,.slice A4 n4 c4] 33)) W→PersOk 0 W.heap.size W x2 (E2,m2,e2)):=Lib.hid fun W hW=>((PersOk.kept (.of_below hW (Nat.le_refl _)) ES.out).mono (Nat.le_refl _) hW.size)
 rw [hxn] at hR
 clear hi1 hi3 hi4 hi5 hxn hzl
 by_cases hnob:xn=Rs.nobodyW
 ·have hnob2:xn=[110,111,98,111,100,121]:=hnob
  have hR2:=hR
  rw [if_pos hnob] at hR2
  clear hnob hR
  subst hnob2
  obtain rfl:R=2:=hR2.symm
  clear hR2
  go_enter Tryz.func105,Tryz.ntmps105
  go_wp2_with fail
  go_ret
  exact ⟨rfl,HB1.out⟩
 rw [if_neg hnob] at hR
 have t9:(xn==[110,111,98,111,100,121])=false:=by simpa [Rs.nobodyW] using hnob
 clear hnob
 by_cases hN0:N=0
 rotate_left
 ·have t0:(N !=0)=true:=by simpa using hN0
  obtain rfl:R=N:=by rw [if_pos hN0] at hR;exact hR.symm
  clear hR hN0
  go_enter Tryz.func105,Tryz.ntmps105
  go_wp2_with fail
  refine HNM.out.mono ?_
  rintro e w2 ⟨rfl,b2⟩
  have B2:=Lib.hid (bstep HB1.out b2)
  have Z2:=Lib.hid (HZ.out w2 (below_alloc_call b2))
  obtain ⟨k0,k1,k2,k3⟩:=cfg_cells (HK1.out.after b2)
  have EE:=HE1.out.after b2
  obtain ⟨q0,q1,q2,q3,q4,q5⟩:=p_cells EE
  have HEE:=Lib.hid EE
  clear b2 EE
  go_wp2_with fail
  go_ret
  exact ⟨rfl,B2.out⟩
 subst hN0
 rw [if_neg (by decide)] at hR
 obtain ⟨zi,hzi⟩: ∃zi,Rs.isIx i1 n1=zi:=⟨_,rfl⟩
 rw [hzi] at hR
 have HZI:=Lib.hid hzi
 clear hzi
 cases zi
 ·obtain rfl:R=3:=by rw [if_pos rfl] at hR;exact hR.symm
  clear hR
  go_enter Tryz.func105,Tryz.ntmps105
  go_wp2_with fail
  refine HNM.out.mono ?_
  rintro e w2 ⟨rfl,b2⟩
  have B2:=Lib.hid (bstep HB1.out b2)
  have Z2:=Lib.hid (HZ.out w2 (below_alloc_call b2))
  obtain ⟨k0,k1,k2,k3⟩:=cfg_cells (HK1.out.after b2)
  have EE:=HE1.out.after b2
  obtain ⟨q0,q1,q2,q3,q4,q5⟩:=p_cells EE
  have HEE:=Lib.hid EE
  clear b2 EE
  go_wp2_with fail
  refine (isix_z HZI.out _ _ _).mono ?_
  rintro e w9 ⟨rfl,rfl⟩
  go_wp2_with fail
  go_ret
  exact ⟨rfl,B2.out⟩
 rw [if_neg (by decide)] at hR
 obtain ⟨ck,hck⟩: ∃ck,Wk.chk x2.quiet=ck:=⟨_,rfl⟩
 rw [hck] at hR
 have HCK:=Lib.hid hck
 clear hck
 by_cases hc0:ck=0
 rotate_left
 ·have t1:(ck !=0)=true:=by simpa using hc0
  obtain rfl:R=8:=by rw [if_pos hc0] at hR;exact hR.symm
  clear hR hc0
  go_enter Tryz.func105,Tryz.ntmps105
  go_wp2_with fail
  refine HNM.out.mono ?_
  rintro e w2 ⟨rfl,b2⟩
  have B2:=Lib.hid (bstep HB1.out b2)
  have Z2:=Lib.hid (HZ.out w2 (below_alloc_call b2))
  obtain ⟨k0,k1,k2,k3⟩:=cfg_cells (HK1.out.after b2)
  have EE:=HE1.out.after b2
  obtain ⟨q0,q1,q2,q3,q4,q5⟩:=p_cells EE
  have HEE:=Lib.hid EE
  clear b2 EE
  go_wp2_with fail
  refine (isix_z HZI.out _ _ _).mono ?_
  rintro e w9 ⟨rfl,rfl⟩
  go_wp2_with fail
  refine (wchk_is HCK.out _ _ _ _ (win_of_lin Z2.out)).mono ?_
  rintro e w3 ⟨rfl,b3⟩
  have B3:=Lib.hid (bstep B2.out b3)
  have EE:=HEE.out.after b3
  obtain ⟨r0,r1,r2,r3,r4,r5⟩:=p_cells EE
  clear b3 q0 q1 q2 q3 q4 q5 EE
  go_wp2_with fail
  go_ret
  exact ⟨rfl,B3.out⟩
 subst hc0
 rw [if_neg (by decide)] at hR
 obtain ⟨u1,hu1⟩: ∃u,Rs.hoursOk i3=u:=⟨_,rfl⟩
 obtain ⟨u2,hu2⟩: ∃u,Rs.hoursOk i4=u:=⟨_,rfl⟩
 rw [hu1,hu2] at hR
 have HU1:=Lib.hid hu1
 have HU2:=Lib.hid hu2
 clear hu1 hu2
 cases u1
 ·obtain rfl:R=1:=by simpa using hR.symm
  clear hR
  go_enter Tryz.func105,Tryz.ntmps105
  go_wp2_with fail
  refine HNM.out.mono ?_
  rintro e w2 ⟨rfl,b2⟩
  have B2:=Lib.hid (bstep HB1.out b2)
  have Z2:=Lib.hid (HZ.out w2 (below_alloc_call b2))
  obtain ⟨k0,k1,k2,k3⟩:=cfg_cells (HK1.out.after b2)
  have EE:=HE1.out.after b2
  obtain ⟨q0,q1,q2,q3,q4,q5⟩:=p_cells EE
  have HEE:=Lib.hid EE
  clear b2 EE
  go_wp2_with fail
  refine (isix_z HZI.out _ _ _).mono ?_
  rintro e w9 ⟨rfl,rfl⟩
  go_wp2_with fail
  refine (wchk_is HCK.out _ _ _ _ (win_of_lin Z2.out)).mono ?_
  rintro e w3 ⟨rfl,b3⟩
  have B3:=Lib.hid (bstep B2.out b3)
  have EE:=HEE.out.after b3
  obtain ⟨r0,r1,r2,r3,r4,r5⟩:=p_cells EE
  clear b3 q0 q1 q2 q3 q4 q5 EE
  go_wp2_with fail
  refine (hours_is HU1.out _).mono ?_
  rintro e w9 ⟨rfl,rfl⟩
  go_wp2_with fail
  go_ret
  exact ⟨rfl,B3.out⟩
 cases u2
 ·obtain rfl:R=1:=by simpa using hR.symm
  clear hR
  go_enter Tryz.func105,Tryz.ntmps105
  go_wp2_with fail
  refine HNM.out.mono ?_
  rintro e w2 ⟨rfl,b2⟩
  have B2:=Lib.hid (bstep HB1.out b2)
  have Z2:=Lib.hid (HZ.out w2 (below_alloc_call b2))
  obtain ⟨k0,k1,k2,k3⟩:=cfg_cells (HK1.out.after b2)
  have EE:=HE1.out.after b2
  obtain ⟨q0,q1,q2,q3,q4,q5⟩:=p_cells EE
  have HEE:=Lib.hid EE
  clear b2 EE
  go_wp2_with fail
  refine (isix_z HZI.out _ _ _).mono ?_
  rintro e w9 ⟨rfl,rfl⟩
  go_wp2_with fail
  refine (wchk_is HCK.out _ _ _ _ (win_of_lin Z2.out)).mono ?_
  rintro e w3 ⟨rfl,b3⟩
  have B3:=Lib.hid (bstep B2.out b3)
  have EE:=HEE.out.after b3
  obtain ⟨r0,r1,r2,r3,r4,r5⟩:=p_cells EE
  clear b3 q0 q1 q2 q3 q4 q5 EE
  go_wp2_with fail
  refine (hours_is HU1.out _).mono ?_
  rintro e w9 ⟨rfl,rfl⟩
  go_wp2_with fail
  refine (hours_is HU2.out _).mono ?_
  rintro e w9 ⟨rfl,rfl⟩
  go_wp2_with fail
  go_ret
  exact ⟨rfl,B3.out⟩
 ·obtain rfl:R=0:=by simpa using hR.symm
  clear hR
  go_enter Tryz.func105,Tryz.ntmps105
  go_wp2_with fail
  refine HNM.out.mono ?_
  rintro e w2 ⟨rfl,b2⟩
  have B2:=Lib.hid (bstep HB1.out b2)
  have Z2:=Lib.hid (HZ.out w2 (below_alloc_call b2))
  obtain ⟨k0,k1,k2,k3⟩:=cfg_cells (HK1.out.after b2)
  have EE:=HE1.out.after b2
  obtain ⟨q0,q1,q2,q3,q4,q5⟩:=p_cells EE
  have HEE:=Lib.hid EE
  clear b2 EE
  go_wp2_with fail
  refine (isix_z HZI.out _ _ _).mono ?_
  rintro e w9 ⟨rfl,rfl⟩
  go_wp2_with fail
  refine (wchk_is HCK.out _ _ _ _ (win_of_lin Z2.out)).mono ?_
  rintro e w3 ⟨rfl,b3⟩
  have B3:=Lib.hid (bstep B2.out b3)
  have EE:=HEE.out.after b3
  obtain ⟨r0,r1,r2,r3,r4,r5⟩:=p_cells EE
  clear b3 q0 q1 q2 q3 q4 q5 EE
  go_wp2_with fail
  refine (hours_is HU1.out _).mono ?_
  rintro e w9 ⟨rfl,rfl⟩
  go_wp2_with fail
  refine (hours_is HU2.out _).mono ?_
  rintro e w9 ⟨rfl,rfl⟩
  go_wp2_with fail
  go_ret
  exact ⟨rfl,B3.out⟩
theorem c_cells {W:World} {g:Nat} {xn:List UInt8} {i1:Int} {E2:Option Addr} {m2 e2:Nat} (h:BlkAt W g #[.string ⟨xn.toArray⟩,.int .i64 i1,.slice E2 m2 e2] 76):W.cell? ⟨g,0,none⟩=some (.string ⟨xn.toArray⟩)∧W.cell? ⟨g,1,none⟩=some (.int .i64 i1)∧W.cell? ⟨g,2,none⟩=some (.slice E2 m2 e2):=⟨h.cell rfl,h.cell rfl,h.cell rfl⟩
set_option maxHeartbeats 8000000 in
theorem checkCalendar_is {C:Rs.Cfg} {i:Nat} {x:Rs.Cal} (hx:C.cals[i]? =some x) {R:Int} (hR:Rs.calE C.zones.length (C.cals.map (·.name)) i x=R) (A1 A2 A3 A4:Option Addr) (n1 c1 n2 c2 n3 c3 n4 c4:Nat) (w:World) (hC:CfgAt 0 w.heap.size w (A1,n1,c1) (A2,n2,c2) (A3,n3,c3) (A4,n4,c4) C) (hT:CivT w):
  Calls Tryz.prog 106 #[.agg #[.slice A1 n1 c1,.slice A2 n2 c2,.slice A3 n3 c3,.slice A4 n4 c4],.int .i64 i] w fun e w'=>e= .returned (.int .i64 R)∧Below w.heap.size w w':=by
 have hlen:=hC.cals.len
 simp only at hlen
 have hi:i<n3:=by have h:=(List.getElem?_eq_some_iff.1 hx).1;omega
 have B0:=(Below.refl _ w).alloc (Nat.le_refl _) (.cells #[.slice A1 n1 c1,.slice A2 n2 c2,.slice A3 n3 c3,.slice A4 n4 c4] 33)
 obtain ⟨x2,⟨E2,m2,e2⟩,b,off,hx2,ea,hb,d0,d1,d2,hok⟩:=c_elem (c_nest hC.cals B0) (i:=i) hi
 simp only at ea
 subst ea
 obtain rfl:x2=x:=Option.some.inj (hx2.symm.trans hx)
 simp only at d2
 have hnx:(C.cals.map (·.name))[i]? =some x2.name:=by rw [List.getElem?_map,hx];rfl
 unfold Rs.calE at hR
 obtain ⟨N,hN⟩: ∃N,Rs.nameE (C.cals.map (·.name)) i x2.name=N:=⟨_,rfl⟩
 rw [hN] at hR
 have ES:=Lib.hid hok
 generalize hi1:x2.zone=i1 at d1 hR
 generalize hxn:x2.name=xn at d0 hnx hN
 have B1:=B0.alloc B0.size (.cells #[.string ⟨xn.toArray⟩,.int .i64 i1,.slice E2 m2 e2] 76)
 have K1:=BlkAt.alloc (BlkAt.new w #[.slice A1 n1 c1,.slice A2 n2 c2,.slice (some ⟨b,off,none⟩) n3 c3,.slice A4 n4 c4] 33) (.cells #[.string ⟨xn.toArray⟩,.int .i64 i1,.slice E2 m2 e2] 76)
 have E1:=blk_next (w:=w) (.cells #[.slice A1 n1 c1,.slice A2 n2 c2,.slice (some ⟨b,off,none⟩) n3 c3,.slice A4 n4 c4] 33) (.cells #[.string ⟨xn.toArray⟩,.int .i64 i1,.slice E2 m2 e2] 76) rfl
 have HNM:=Lib.hid (c_name hnx hN (some ⟨b,off,none⟩) n3 c3 ((w.alloc (.cells #[.slice A1 n1 c1,.slice A2 n2 c2,.slice (some ⟨b,off,none⟩) n3 c3,.slice A4 n4 c4] 33)).alloc (.cells #[.string ⟨xn.toArray⟩,.int .i64 i1,.slice E2 m2 e2] 76)) (c_nest hC.cals B1))
 have HC:=Lib.hid hC
 have HB1:=Lib.hid B1
 have HK1:=Lib.hid K1
 have HE1:=Lib.hid E1
 have h0:(0:Int)≤i:=by omega
 have h1:(i:Int)<n3:=by omega
 clear hC hx hx2 hlen hok B0 B1 K1 E1 hnx hN hb
 have HT:=Lib.hid hT
 clear hT
 have hzl:=HC.out.zones.len
 simp only at hzl
 rw [hzl.1] at hR
 have HZ:Hid (∀W,Below (w.alloc (.cells #[.slice A1 n1 c1,.slice A2 n2 c2,.slice (some ⟨b,off,none⟩) n3 c3,.slice A4 n4 c4] 33)).heap.size (w.alloc (.cells #[.slice A1 n1 c1,.slice A2 n2 c2,.slice (some ⟨b,off,none⟩) n3 c3,.slice A4 n4 c4] 33)) W→CalOk 0 W.heap.size W x2 (E2,m2,e2)):=Lib.hid fun W hW=>((CalOk.kept (.of_below hW (Nat.le_refl _)) ES.out).mono (Nat.le_refl _) hW.size)
 have hdl:=ES.out.1.len
 simp only at hdl
 rw [hdl] at hR
 clear hi1 hxn hzl hdl
 by_cases hN0:N=0
 rotate_left
 ·have t0:(N !=0)=true:=by simpa using hN0
  obtain rfl:R=N:=by rw [if_pos hN0] at hR;exact hR.symm
  clear hR hN0
  go_enter Tryz.func106,Tryz.ntmps106
  go_wp2_with fail
  refine HNM.out.mono ?_
  rintro e w2 ⟨rfl,b2⟩
  have B2:=Lib.hid (bstep HB1.out b2)
  have Z2:=Lib.hid (HZ.out w2 (below_alloc_call b2))
  obtain ⟨k0,k1,k2,k3⟩:=cfg_cells (HK1.out.after b2)
  have EE:=HE1.out.after b2
  obtain ⟨q0,q1,q2⟩:=c_cells EE
  have HEE:=Lib.hid EE
  clear b2 EE
  go_wp2_with fail
  go_ret
  exact ⟨rfl,B2.out⟩
 subst hN0
 rw [if_neg (by decide)] at hR
 obtain ⟨zi,hzi⟩: ∃zi,Rs.isIx i1 n1=zi:=⟨_,rfl⟩
 rw [hzi] at hR
 have HZI:=Lib.hid hzi
 clear hzi
 cases zi
 ·obtain rfl:R=3:=by rw [if_pos rfl] at hR;exact hR.symm
  clear hR
  go_enter Tryz.func106,Tryz.ntmps106
  go_wp2_with fail
  refine HNM.out.mono ?_
  rintro e w2 ⟨rfl,b2⟩
  have B2:=Lib.hid (bstep HB1.out b2)
  have Z2:=Lib.hid (HZ.out w2 (below_alloc_call b2))
  obtain ⟨k0,k1,k2,k3⟩:=cfg_cells (HK1.out.after b2)
  have EE:=HE1.out.after b2
  obtain ⟨q0,q1,q2⟩:=c_cells EE
  have HEE:=Lib.hid EE
  clear b2 EE
  go_wp2_with fail
  refine (isix_z HZI.out _ _ _).mono ?_
  rintro e w9 ⟨rfl,rfl⟩
  go_wp2_with fail
  go_ret
  exact ⟨rfl,B2.out⟩
 rw [if_neg (by decide)] at hR
 by_cases h64:64<m2
 ·have t2:decide ((64:Int)<m2)=true:=by simp;omega
  obtain rfl:R=5:=by rw [if_pos h64] at hR;exact hR.symm
  clear hR h64
  go_enter Tryz.func106,Tryz.ntmps106
  go_wp2_with fail
  refine HNM.out.mono ?_
  rintro e w2 ⟨rfl,b2⟩
  have B2:=Lib.hid (bstep HB1.out b2)
  have Z2:=Lib.hid (HZ.out w2 (below_alloc_call b2))
  obtain ⟨k0,k1,k2,k3⟩:=cfg_cells (HK1.out.after b2)
  have EE:=HE1.out.after b2
  obtain ⟨q0,q1,q2⟩:=c_cells EE
  have HEE:=Lib.hid EE
  clear b2 EE
  go_wp2_with fail
  refine (isix_z HZI.out _ _ _).mono ?_
  rintro e w9 ⟨rfl,rfl⟩
  go_wp2_with fail
  go_ret
  exact ⟨rfl,B2.out⟩
 have t2:decide ((64:Int)<m2)=false:=by simp;omega
 rw [if_neg h64] at hR
 obtain ⟨u1,hu1⟩: ∃u,x2.days.any Rs.noDay=u:=⟨_,rfl⟩
 obtain ⟨u2,hu2⟩: ∃u,Rs.asc x2.days=u:=⟨_,rfl⟩
 rw [hu1,hu2] at hR
 have HU1:=Lib.hid hu1
 have HU2:=Lib.hid hu2
 clear hu1 hu2 h64
 cases u1
 rotate_left
 ·obtain rfl:R=1:=by simpa using hR.symm
  clear hR
  go_enter Tryz.func106,Tryz.ntmps106
  go_wp2_with fail
  refine HNM.out.mono ?_
  rintro e w2 ⟨rfl,b2⟩
  have B2:=Lib.hid (bstep HB1.out b2)
  have Z2:=Lib.hid (HZ.out w2 (below_alloc_call b2))
  obtain ⟨k0,k1,k2,k3⟩:=cfg_cells (HK1.out.after b2)
  have EE:=HE1.out.after b2
  obtain ⟨q0,q1,q2⟩:=c_cells EE
  have HEE:=Lib.hid EE
  clear b2 EE
  go_wp2_with fail
  refine (isix_z HZI.out _ _ _).mono ?_
  rintro e w9 ⟨rfl,rfl⟩
  go_wp2_with fail
  refine (nd_ct _ _ _ _ _ w2 Z2.out.1 (HT.out.below B2.out) Z2.out.2 HU1.out).mono ?_
  rintro e w3 ⟨rfl,b3⟩
  have B3:=Lib.hid (bstep B2.out b3)
  have EE:=HEE.out.after b3
  obtain ⟨r0,r1,r2⟩:=c_cells EE
  clear b3 q0 q1 q2 EE
  go_wp2_with fail
  go_ret
  exact ⟨rfl,B3.out⟩
 cases u2
 ·obtain rfl:R=6:=by simpa using hR.symm
  clear hR
  go_enter Tryz.func106,Tryz.ntmps106
  go_wp2_with fail
  refine HNM.out.mono ?_
  rintro e w2 ⟨rfl,b2⟩
  have B2:=Lib.hid (bstep HB1.out b2)
  have Z2:=Lib.hid (HZ.out w2 (below_alloc_call b2))
  obtain ⟨k0,k1,k2,k3⟩:=cfg_cells (HK1.out.after b2)
  have EE:=HE1.out.after b2
  obtain ⟨q0,q1,q2⟩:=c_cells EE
  have HEE:=Lib.hid EE
  clear b2 EE
  go_wp2_with fail
  refine (isix_z HZI.out _ _ _).mono ?_
  rintro e w9 ⟨rfl,rfl⟩
  go_wp2_with fail
  refine (nd_ct _ _ _ _ _ w2 Z2.out.1 (HT.out.below B2.out) Z2.out.2 HU1.out).mono ?_
  rintro e w3 ⟨rfl,b3⟩
  have B3:=Lib.hid (bstep B2.out b3)
  have Z3:=Lib.hid ((CalOk.kept (.of_below b3 (Nat.le_refl _)) Z2.out).mono (Nat.le_refl _) b3.size)
  have EE:=HEE.out.after b3
  obtain ⟨r0,r1,r2⟩:=c_cells EE
  clear b3 q0 q1 q2 HEE
  have HEE:=Lib.hid EE
  clear EE
  go_wp2_with fail
  refine (asc_is HU2.out _ _ _ w3 Z3.out.1).mono ?_
  rintro e w4 ⟨rfl,b4⟩
  have B4:=Lib.hid (bstep B3.out b4)
  clear b4
  go_wp2_with fail
  go_ret
  exact ⟨rfl,B4.out⟩
 ·obtain rfl:R=0:=by simpa using hR.symm
  clear hR
  go_enter Tryz.func106,Tryz.ntmps106
  go_wp2_with fail
  refine HNM.out.mono ?_
  rintro e w2 ⟨rfl,b2⟩
  have B2:=Lib.hid (bstep HB1.out b2)
  have Z2:=Lib.hid (HZ.out w2 (below_alloc_call b2))
  obtain ⟨k0,k1,k2,k3⟩:=cfg_cells (HK1.out.after b2)
  have EE:=HE1.out.after b2
  obtain ⟨q0,q1,q2⟩:=c_cells EE
  have HEE:=Lib.hid EE
  clear b2 EE
  go_wp2_with fail
  refine (isix_z HZI.out _ _ _).mono ?_
  rintro e w9 ⟨rfl,rfl⟩
  go_wp2_with fail
  refine (nd_ct _ _ _ _ _ w2 Z2.out.1 (HT.out.below B2.out) Z2.out.2 HU1.out).mono ?_
  rintro e w3 ⟨rfl,b3⟩
  have B3:=Lib.hid (bstep B2.out b3)
  have Z3:=Lib.hid ((CalOk.kept (.of_below b3 (Nat.le_refl _)) Z2.out).mono (Nat.le_refl _) b3.size)
  have EE:=HEE.out.after b3
  obtain ⟨r0,r1,r2⟩:=c_cells EE
  clear b3 q0 q1 q2 HEE
  have HEE:=Lib.hid EE
  clear EE
  go_wp2_with fail
  refine (asc_is HU2.out _ _ _ w3 Z3.out.1).mono ?_
  rintro e w4 ⟨rfl,b4⟩
  have B4:=Lib.hid (bstep B3.out b4)
  clear b4
  go_wp2_with fail
  go_ret
  exact ⟨rfl,B4.out⟩
end Go.Proofs.YtfamcohbnoibaaaGreatDoor
