import Derived.Test.YtfamcohbnoibaaaGreatDoorKG10
set_option linter.unusedVariables false
set_option linter.unusedSimpArgs false
set_option maxRecDepth 100000
namespace Go.Proofs.YtfamcohbnoibaaaGreatDoor
open Go.RowKit
theorem bad_mem (l:Rs.Lay) (np:Nat):(l.mem.any fun m=> !Rs.isIx m np)=l.mem.any (badMem np):=rfl
set_option maxHeartbeats 16000000 in
theorem checkLayer_is {l:List Rs.Lay} {i:Nat} {x:Rs.Lay} (hx:l[i]? =some x) {R:Int} {n1 n2 n3:Nat} (hR:Rs.layE n1 n2 n3 (l.map (·.name)) i x=R) (A:Option Addr) (n c:Nat) (A1 A2 A3 A4:Option Addr) (c1 c2 c3 n4 c4:Nat) (w:World)
  (hL:Nest 10 eLay LayOk 0 w.heap.size w (A,n,c) l) (hT:CivT w):
  Calls Tryz.prog 164 #[.agg #[.slice A1 n1 c1,.slice A2 n2 c2,.slice A3 n3 c3,.slice A4 n4 c4],.slice A n c,.int .i64 i] w fun e w'=>e= .returned (.int .i64 R)∧Below w.heap.size w w':=by
 have hlen:=hL.len
 simp only at hlen
 have hi:i<n:=by have h:=(List.getElem?_eq_some_iff.1 hx).1;omega
 have B0:=(Below.refl _ w).alloc (Nat.le_refl _) (.cells #[.slice A1 n1 c1,.slice A2 n2 c2,.slice A3 n3 c3,.slice A4 n4 c4] 33)
 obtain ⟨x2,⟨⟨E6,m6,e6⟩,⟨E7,m7,e7⟩⟩,b,off,hx2,ea,hb,d0,d1,d2,d3,d4,d5,d6,d7,d8,d9,hok⟩:=l_elem (l_nest hL B0) (i:=i) hi
 simp only at ea
 subst ea
 obtain rfl:x2=x:=Option.some.inj (hx2.symm.trans hx)
 simp only at d6 d7
 have hnx:(l.map (·.name))[i]? =some x2.name:=by rw [List.getElem?_map,hx];rfl
 unfold Rs.layE at hR
 obtain ⟨N,hN⟩: ∃N,Rs.nameE (l.map (·.name)) i x2.name=N:=⟨_,rfl⟩
 rw [hN,rot_eq,mod_eq,bad_mem] at hR
 have hml:=hok.1.len
 simp only at hml
 rw [hml] at hR
 have ES:=Lib.hid hok
 have hI:=hok.2.2
 generalize x2.zone=i1 at d1 hR
 generalize x2.day=i2 at d2 hR hI
 generalize x2.sec=i3 at d3 hR
 generalize x2.unit=i4 at d4 hR
 generalize x2.every=i5 at d5 hR
 generalize x2.cal=i8 at d8 hR
 generalize x2.mode=i9 at d9 hR
 generalize x2.name=xn at d0 hnx hN
 have B1:=B0.alloc B0.size (.cells #[.string ⟨xn.toArray⟩,.int .i64 i1,.int .i64 i2,.int .i64 i3,.int .i64 i4,.int .i64 i5,.slice E6 m6 e6,.slice E7 m7 e7,.int .i64 i8,.int .i64 i9] 39)
 have K1:=BlkAt.alloc (BlkAt.new w #[.slice A1 n1 c1,.slice A2 n2 c2,.slice A3 n3 c3,.slice A4 n4 c4] 33) (.cells #[.string ⟨xn.toArray⟩,.int .i64 i1,.int .i64 i2,.int .i64 i3,.int .i64 i4,.int .i64 i5,.slice E6 m6 e6,.slice E7 m7 e7,.int .i64 i8,.int .i64 i9] 39)
 have E1:=blk_next (w:=w) (.cells #[.slice A1 n1 c1,.slice A2 n2 c2,.slice A3 n3 c3,.slice A4 n4 c4] 33) (.cells #[.string ⟨xn.toArray⟩,.int .i64 i1,.int .i64 i2,.int .i64 i3,.int .i64 i4,.int .i64 i5,.slice E6 m6 e6,.slice E7 m7 e7,.int .i64 i8,.int .i64 i9] 39) rfl
 have HNM:=Lib.hid (l_name hnx hN (some ⟨b,off,none⟩) n c ((w.alloc (.cells #[.slice A1 n1 c1,.slice A2 n2 c2,.slice A3 n3 c3,.slice A4 n4 c4] 33)).alloc (.cells #[.string ⟨xn.toArray⟩,.int .i64 i1,.int .i64 i2,.int .i64 i3,.int .i64 i4,.int .i64 i5,.slice E6 m6 e6,.slice E7 m7 e7,.int .i64 i8,.int .i64 i9] 39)) (l_nest hL B1))
 have HZ:Hid (∀W,Below (w.alloc (.cells #[.slice A1 n1 c1,.slice A2 n2 c2,.slice A3 n3 c3,.slice A4 n4 c4] 33)).heap.size (w.alloc (.cells #[.slice A1 n1 c1,.slice A2 n2 c2,.slice A3 n3 c3,.slice A4 n4 c4] 33)) W→LayOk 0 W.heap.size W x2 ((E6,m6,e6),(E7,m7,e7))):=Lib.hid fun W hW=>((LayOk.kept (.of_below hW (Nat.le_refl _)) ES.out).mono (Nat.le_refl _) hW.size)
 have HB1:=Lib.hid B1
 have HK1:=Lib.hid K1
 have HE1:=Lib.hid E1
 have HT:=Lib.hid hT
 have HI:=Lib.hid hI
 have h0:(0:Int)≤i:=by omega
 have h1:(i:Int)<n:=by omega
 clear hL hx hx2 hlen hok B0 B1 K1 E1 hnx hN hb hT hI hml
 by_cases hN0:N=0
 rotate_left
 ·have t0:(N !=0)=true:=by simpa using hN0
  obtain rfl:R=N:=by rw [if_pos hN0] at hR;exact hR.symm
  clear hR
  go_enter Tryz.func164,Tryz.ntmps164
  go_wp2_with fail
  refine HNM.out.mono ?_
  rintro e w2 ⟨rfl,b2⟩
  have B2:=Lib.hid (bstep HB1.out b2)
  have Z2:=Lib.hid (HZ.out w2 (below_alloc_call b2))
  have KK:=HK1.out.after b2
  obtain ⟨k0,k1,k2,k3⟩:=cfg_cells KK
  have HKK:=Lib.hid KK
  have EE:=HE1.out.after b2
  obtain ⟨q0,q1,q2,q3,q4,q5,q6,q7,q8,q9⟩:=lay_cells EE
  have HEE:=Lib.hid EE
  clear b2 EE KK
  go_wp2_with fail
  go_ret
  exact ⟨rfl,B2.out⟩
 subst hN0
 rw [if_neg (by decide)] at hR
 obtain ⟨zi,hzi⟩: ∃zi,Rs.isIx i1 n1=zi:=⟨_,rfl⟩
 rw [hzi] at hR
 have HZI:=Lib.hid hzi
 clear hzi
 cases zi
 ·skip
  obtain rfl:R=3:=by rw [if_pos rfl] at hR;exact hR.symm
  clear hR
  go_enter Tryz.func164,Tryz.ntmps164
  go_wp2_with fail
  refine HNM.out.mono ?_
  rintro e w2 ⟨rfl,b2⟩
  have B2:=Lib.hid (bstep HB1.out b2)
  have Z2:=Lib.hid (HZ.out w2 (below_alloc_call b2))
  have KK:=HK1.out.after b2
  obtain ⟨k0,k1,k2,k3⟩:=cfg_cells KK
  have HKK:=Lib.hid KK
  have EE:=HE1.out.after b2
  obtain ⟨q0,q1,q2,q3,q4,q5,q6,q7,q8,q9⟩:=lay_cells EE
  have HEE:=Lib.hid EE
  clear b2 EE KK
  go_wp2_with fail
  refine (isix_z HZI.out _ _ _).mono ?_
  rintro e w9 ⟨rfl,rfl⟩
  go_wp2_with fail
  go_ret
  exact ⟨rfl,B2.out⟩
 rw [if_neg (by decide)] at hR
 obtain ⟨ro,hro⟩: ∃u,rotF i2 i3 i4 i5=u:=⟨_,rfl⟩
 rw [hro] at hR
 have HRO:=Lib.hid hro
 clear hro
 cases ro
 ·skip
  obtain rfl:R=1:=by rw [if_pos rfl] at hR;exact hR.symm
  clear hR
  go_enter Tryz.func164,Tryz.ntmps164
  go_wp2_with fail
  refine HNM.out.mono ?_
  rintro e w2 ⟨rfl,b2⟩
  have B2:=Lib.hid (bstep HB1.out b2)
  have Z2:=Lib.hid (HZ.out w2 (below_alloc_call b2))
  have KK:=HK1.out.after b2
  obtain ⟨k0,k1,k2,k3⟩:=cfg_cells KK
  have HKK:=Lib.hid KK
  have EE:=HE1.out.after b2
  obtain ⟨q0,q1,q2,q3,q4,q5,q6,q7,q8,q9⟩:=lay_cells EE
  have HEE:=Lib.hid EE
  clear b2 EE KK
  go_wp2_with fail
  refine (isix_z HZI.out _ _ _).mono ?_
  rintro e w9 ⟨rfl,rfl⟩
  go_wp2_with fail
  refine (rotF_is HRO.out _ _ _ _ _ _ _ _ _ _ w2 (HT.out.below B2.out) HI.out).mono ?_
  rintro e w3 ⟨rfl,b3⟩
  have B3:=Lib.hid (bstep B2.out b3)
  have Z3:=Lib.hid ((LayOk.kept (.of_below b3 (Nat.le_refl _)) Z2.out).mono (Nat.le_refl _) b3.size)
  clear k0 k1 k2 k3 q0 q1 q2 q3 q4 q5 q6 q7 q8 q9
  have KK:=HKK.out.after b3
  obtain ⟨k0,k1,k2,k3⟩:=cfg_cells KK
  have EE:=HEE.out.after b3
  obtain ⟨q0,q1,q2,q3,q4,q5,q6,q7,q8,q9⟩:=lay_cells EE
  clear b3 HKK HEE
  have HKK:=Lib.hid KK
  have HEE:=Lib.hid EE
  clear EE KK
  go_wp2_with fail
  go_ret
  exact ⟨rfl,B3.out⟩
 rw [if_neg (by decide)] at hR
 by_cases hm0:m6=0
 ·have v0:((m6:Int)==0)=true:=by simp [hm0]
  obtain rfl:R=7:=by rw [if_pos hm0] at hR;exact hR.symm
  clear hR hm0
  go_enter Tryz.func164,Tryz.ntmps164
  go_wp2_with fail
  refine HNM.out.mono ?_
  rintro e w2 ⟨rfl,b2⟩
  have B2:=Lib.hid (bstep HB1.out b2)
  have Z2:=Lib.hid (HZ.out w2 (below_alloc_call b2))
  have KK:=HK1.out.after b2
  obtain ⟨k0,k1,k2,k3⟩:=cfg_cells KK
  have HKK:=Lib.hid KK
  have EE:=HE1.out.after b2
  obtain ⟨q0,q1,q2,q3,q4,q5,q6,q7,q8,q9⟩:=lay_cells EE
  have HEE:=Lib.hid EE
  clear b2 EE KK
  go_wp2_with fail
  refine (isix_z HZI.out _ _ _).mono ?_
  rintro e w9 ⟨rfl,rfl⟩
  go_wp2_with fail
  refine (rotF_is HRO.out _ _ _ _ _ _ _ _ _ _ w2 (HT.out.below B2.out) HI.out).mono ?_
  rintro e w3 ⟨rfl,b3⟩
  have B3:=Lib.hid (bstep B2.out b3)
  have Z3:=Lib.hid ((LayOk.kept (.of_below b3 (Nat.le_refl _)) Z2.out).mono (Nat.le_refl _) b3.size)
  clear k0 k1 k2 k3 q0 q1 q2 q3 q4 q5 q6 q7 q8 q9
  have KK:=HKK.out.after b3
  obtain ⟨k0,k1,k2,k3⟩:=cfg_cells KK
  have EE:=HEE.out.after b3
  obtain ⟨q0,q1,q2,q3,q4,q5,q6,q7,q8,q9⟩:=lay_cells EE
  clear b3 HKK HEE
  have HKK:=Lib.hid KK
  have HEE:=Lib.hid EE
  clear EE KK
  go_wp2_with fail
  go_ret
  exact ⟨rfl,B3.out⟩
 have v0:((m6:Int)==0)=false:=by simp [hm0]
 rw [if_neg hm0] at hR
 by_cases hm12:12<m6
 ·have v1:decide ((12:Int)<m6)=true:=by simp;omega
  obtain rfl:R=5:=by rw [if_pos hm12] at hR;exact hR.symm
  clear hR
  go_enter Tryz.func164,Tryz.ntmps164
  go_wp2_with fail
  refine HNM.out.mono ?_
  rintro e w2 ⟨rfl,b2⟩
  have B2:=Lib.hid (bstep HB1.out b2)
  have Z2:=Lib.hid (HZ.out w2 (below_alloc_call b2))
  have KK:=HK1.out.after b2
  obtain ⟨k0,k1,k2,k3⟩:=cfg_cells KK
  have HKK:=Lib.hid KK
  have EE:=HE1.out.after b2
  obtain ⟨q0,q1,q2,q3,q4,q5,q6,q7,q8,q9⟩:=lay_cells EE
  have HEE:=Lib.hid EE
  clear b2 EE KK
  go_wp2_with fail
  refine (isix_z HZI.out _ _ _).mono ?_
  rintro e w9 ⟨rfl,rfl⟩
  go_wp2_with fail
  refine (rotF_is HRO.out _ _ _ _ _ _ _ _ _ _ w2 (HT.out.below B2.out) HI.out).mono ?_
  rintro e w3 ⟨rfl,b3⟩
  have B3:=Lib.hid (bstep B2.out b3)
  have Z3:=Lib.hid ((LayOk.kept (.of_below b3 (Nat.le_refl _)) Z2.out).mono (Nat.le_refl _) b3.size)
  clear k0 k1 k2 k3 q0 q1 q2 q3 q4 q5 q6 q7 q8 q9
  have KK:=HKK.out.after b3
  obtain ⟨k0,k1,k2,k3⟩:=cfg_cells KK
  have EE:=HEE.out.after b3
  obtain ⟨q0,q1,q2,q3,q4,q5,q6,q7,q8,q9⟩:=lay_cells EE
  clear b3 HKK HEE
  have HKK:=Lib.hid KK
  have HEE:=Lib.hid EE
  clear EE KK
  go_wp2_with fail
  go_ret
  exact ⟨rfl,B3.out⟩
 have v1:decide ((12:Int)<m6)=false:=by simp;omega
 rw [if_neg hm12] at hR
 clear hm0 hm12
 obtain ⟨me,hme⟩: ∃u,x2.mem.any (badMem n2)=u:=⟨_,rfl⟩
 obtain ⟨ck,hck⟩: ∃u,Wk.chk x2.wins=u:=⟨_,rfl⟩
 rw [hme,hck] at hR
 have HME:=Lib.hid hme
 have HCK:=Lib.hid hck
 clear hme hck
 cases me
 rotate_left
 ·skip
  obtain rfl:R=3:=by rw [if_pos rfl] at hR;exact hR.symm
  clear hR
  go_enter Tryz.func164,Tryz.ntmps164
  go_wp2_with fail
  refine HNM.out.mono ?_
  rintro e w2 ⟨rfl,b2⟩
  have B2:=Lib.hid (bstep HB1.out b2)
  have Z2:=Lib.hid (HZ.out w2 (below_alloc_call b2))
  have KK:=HK1.out.after b2
  obtain ⟨k0,k1,k2,k3⟩:=cfg_cells KK
  have HKK:=Lib.hid KK
  have EE:=HE1.out.after b2
  obtain ⟨q0,q1,q2,q3,q4,q5,q6,q7,q8,q9⟩:=lay_cells EE
  have HEE:=Lib.hid EE
  clear b2 EE KK
  go_wp2_with fail
  refine (isix_z HZI.out _ _ _).mono ?_
  rintro e w9 ⟨rfl,rfl⟩
  go_wp2_with fail
  refine (rotF_is HRO.out _ _ _ _ _ _ _ _ _ _ w2 (HT.out.below B2.out) HI.out).mono ?_
  rintro e w3 ⟨rfl,b3⟩
  have B3:=Lib.hid (bstep B2.out b3)
  have Z3:=Lib.hid ((LayOk.kept (.of_below b3 (Nat.le_refl _)) Z2.out).mono (Nat.le_refl _) b3.size)
  clear k0 k1 k2 k3 q0 q1 q2 q3 q4 q5 q6 q7 q8 q9
  have KK:=HKK.out.after b3
  obtain ⟨k0,k1,k2,k3⟩:=cfg_cells KK
  have EE:=HEE.out.after b3
  obtain ⟨q0,q1,q2,q3,q4,q5,q6,q7,q8,q9⟩:=lay_cells EE
  clear b3 HKK HEE
  have HKK:=Lib.hid KK
  have HEE:=Lib.hid EE
  clear EE KK
  go_wp2_with fail
  refine (nb_ct _ _ _ _ _ _ _ _ _ w3 Z3.out.1 k1 HME.out).mono ?_
  rintro e w4 ⟨rfl,b4⟩
  have B4:=Lib.hid (bstep B3.out b4)
  have Z4:=Lib.hid ((LayOk.kept (.of_below b4 (Nat.le_refl _)) Z3.out).mono (Nat.le_refl _) b4.size)
  clear k0 k1 k2 k3 q0 q1 q2 q3 q4 q5 q6 q7 q8 q9
  have KK:=HKK.out.after b4
  obtain ⟨k0,k1,k2,k3⟩:=cfg_cells KK
  have EE:=HEE.out.after b4
  obtain ⟨q0,q1,q2,q3,q4,q5,q6,q7,q8,q9⟩:=lay_cells EE
  clear b4 HKK HEE
  have HKK:=Lib.hid KK
  have HEE:=Lib.hid EE
  clear EE KK
  go_wp2_with fail
  go_ret
  exact ⟨rfl,B4.out⟩
 rw [if_neg (by decide)] at hR
 by_cases hc0:ck=0
 rotate_left
 ·have t1:(ck !=0)=true:=by simpa using hc0
  obtain rfl:R=8:=by rw [if_pos hc0] at hR;exact hR.symm
  clear hR
  go_enter Tryz.func164,Tryz.ntmps164
  go_wp2_with fail
  refine HNM.out.mono ?_
  rintro e w2 ⟨rfl,b2⟩
  have B2:=Lib.hid (bstep HB1.out b2)
  have Z2:=Lib.hid (HZ.out w2 (below_alloc_call b2))
  have KK:=HK1.out.after b2
  obtain ⟨k0,k1,k2,k3⟩:=cfg_cells KK
  have HKK:=Lib.hid KK
  have EE:=HE1.out.after b2
  obtain ⟨q0,q1,q2,q3,q4,q5,q6,q7,q8,q9⟩:=lay_cells EE
  have HEE:=Lib.hid EE
  clear b2 EE KK
  go_wp2_with fail
  refine (isix_z HZI.out _ _ _).mono ?_
  rintro e w9 ⟨rfl,rfl⟩
  go_wp2_with fail
  refine (rotF_is HRO.out _ _ _ _ _ _ _ _ _ _ w2 (HT.out.below B2.out) HI.out).mono ?_
  rintro e w3 ⟨rfl,b3⟩
  have B3:=Lib.hid (bstep B2.out b3)
  have Z3:=Lib.hid ((LayOk.kept (.of_below b3 (Nat.le_refl _)) Z2.out).mono (Nat.le_refl _) b3.size)
  clear k0 k1 k2 k3 q0 q1 q2 q3 q4 q5 q6 q7 q8 q9
  have KK:=HKK.out.after b3
  obtain ⟨k0,k1,k2,k3⟩:=cfg_cells KK
  have EE:=HEE.out.after b3
  obtain ⟨q0,q1,q2,q3,q4,q5,q6,q7,q8,q9⟩:=lay_cells EE
  clear b3 HKK HEE
  have HKK:=Lib.hid KK
  have HEE:=Lib.hid EE
  clear EE KK
  go_wp2_with fail
  refine (nb_ct _ _ _ _ _ _ _ _ _ w3 Z3.out.1 k1 HME.out).mono ?_
  rintro e w4 ⟨rfl,b4⟩
  have B4:=Lib.hid (bstep B3.out b4)
  have Z4:=Lib.hid ((LayOk.kept (.of_below b4 (Nat.le_refl _)) Z3.out).mono (Nat.le_refl _) b4.size)
  clear k0 k1 k2 k3 q0 q1 q2 q3 q4 q5 q6 q7 q8 q9
  have KK:=HKK.out.after b4
  obtain ⟨k0,k1,k2,k3⟩:=cfg_cells KK
  have EE:=HEE.out.after b4
  obtain ⟨q0,q1,q2,q3,q4,q5,q6,q7,q8,q9⟩:=lay_cells EE
  clear b4 HKK HEE
  have HKK:=Lib.hid KK
  have HEE:=Lib.hid EE
  clear EE KK
  go_wp2_with fail
  refine (wchk_is HCK.out _ _ _ w4 (win_of_lin Z4.out.2.1)).mono ?_
  rintro e w5 ⟨rfl,b5⟩
  have B5:=Lib.hid (bstep B4.out b5)
  have Z5:=Lib.hid ((LayOk.kept (.of_below b5 (Nat.le_refl _)) Z4.out).mono (Nat.le_refl _) b5.size)
  clear k0 k1 k2 k3 q0 q1 q2 q3 q4 q5 q6 q7 q8 q9
  have KK:=HKK.out.after b5
  obtain ⟨k0,k1,k2,k3⟩:=cfg_cells KK
  have EE:=HEE.out.after b5
  obtain ⟨q0,q1,q2,q3,q4,q5,q6,q7,q8,q9⟩:=lay_cells EE
  clear b5 HKK HEE
  have HKK:=Lib.hid KK
  have HEE:=Lib.hid EE
  clear EE KK
  go_wp2_with fail
  go_ret
  exact ⟨rfl,B5.out⟩
 subst hc0
 rw [if_neg (by decide)] at hR
 subst hR
 go_enter Tryz.func164,Tryz.ntmps164
 go_wp2_with fail
 refine HNM.out.mono ?_
 rintro e w2 ⟨rfl,b2⟩
 have B2:=Lib.hid (bstep HB1.out b2)
 have Z2:=Lib.hid (HZ.out w2 (below_alloc_call b2))
 have KK:=HK1.out.after b2
 obtain ⟨k0,k1,k2,k3⟩:=cfg_cells KK
 have HKK:=Lib.hid KK
 have EE:=HE1.out.after b2
 obtain ⟨q0,q1,q2,q3,q4,q5,q6,q7,q8,q9⟩:=lay_cells EE
 have HEE:=Lib.hid EE
 clear b2 EE KK
 go_wp2_with fail
 refine (isix_z HZI.out _ _ _).mono ?_
 rintro e w9 ⟨rfl,rfl⟩
 go_wp2_with fail
 refine (rotF_is HRO.out _ _ _ _ _ _ _ _ _ _ w2 (HT.out.below B2.out) HI.out).mono ?_
 rintro e w3 ⟨rfl,b3⟩
 have B3:=Lib.hid (bstep B2.out b3)
 have Z3:=Lib.hid ((LayOk.kept (.of_below b3 (Nat.le_refl _)) Z2.out).mono (Nat.le_refl _) b3.size)
 clear k0 k1 k2 k3 q0 q1 q2 q3 q4 q5 q6 q7 q8 q9
 have KK:=HKK.out.after b3
 obtain ⟨k0,k1,k2,k3⟩:=cfg_cells KK
 have EE:=HEE.out.after b3
 obtain ⟨q0,q1,q2,q3,q4,q5,q6,q7,q8,q9⟩:=lay_cells EE
 clear b3 HKK HEE
 have HKK:=Lib.hid KK
 have HEE:=Lib.hid EE
 clear EE KK
 go_wp2_with fail
 refine (nb_ct _ _ _ _ _ _ _ _ _ w3 Z3.out.1 k1 HME.out).mono ?_
 rintro e w4 ⟨rfl,b4⟩
 have B4:=Lib.hid (bstep B3.out b4)
 have Z4:=Lib.hid ((LayOk.kept (.of_below b4 (Nat.le_refl _)) Z3.out).mono (Nat.le_refl _) b4.size)
 clear k0 k1 k2 k3 q0 q1 q2 q3 q4 q5 q6 q7 q8 q9
 have KK:=HKK.out.after b4
 obtain ⟨k0,k1,k2,k3⟩:=cfg_cells KK
 have EE:=HEE.out.after b4
 obtain ⟨q0,q1,q2,q3,q4,q5,q6,q7,q8,q9⟩:=lay_cells EE
 clear b4 HKK HEE
 have HKK:=Lib.hid KK
 have HEE:=Lib.hid EE
 clear EE KK
 go_wp2_with fail
 refine (wchk_is HCK.out _ _ _ w4 (win_of_lin Z4.out.2.1)).mono ?_
 rintro e w5 ⟨rfl,b5⟩
 have B5:=Lib.hid (bstep B4.out b5)
 have Z5:=Lib.hid ((LayOk.kept (.of_below b5 (Nat.le_refl _)) Z4.out).mono (Nat.le_refl _) b5.size)
 clear k0 k1 k2 k3 q0 q1 q2 q3 q4 q5 q6 q7 q8 q9
 have KK:=HKK.out.after b5
 obtain ⟨k0,k1,k2,k3⟩:=cfg_cells KK
 have EE:=HEE.out.after b5
 obtain ⟨q0,q1,q2,q3,q4,q5,q6,q7,q8,q9⟩:=lay_cells EE
 clear b5 HKK HEE
 have HKK:=Lib.hid KK
 have HEE:=Lib.hid EE
 clear EE KK
 go_wp2_with fail
 refine (modF_is rfl _ _ _ _ _ _ _ _ _ _ _ _ _ _ _ _ _ _ _ _ _ _ _ w5).mono ?_
 rintro e w9 ⟨rfl,b9⟩
 have B9:=bstep B5.out b9
 go_wp2_with fail
 go_ret
 exact ⟨rfl,B9⟩
open Go.RowKit
theorem s_cells {W:World} {g:Nat} {xn:List UInt8} {E1 E2:Option Addr} {m1 e1 m2 e2:Nat} (h:BlkAt W g #[.string ⟨xn.toArray⟩,.slice E1 m1 e1,.slice E2 m2 e2] 90):W.cell? ⟨g,0,none⟩=some (.string ⟨xn.toArray⟩)∧W.cell? ⟨g,1,none⟩=some (.slice E1 m1 e1)∧W.cell? ⟨g,2,none⟩=some (.slice E2 m2 e2):=⟨h.cell rfl,h.cell rfl,h.cell rfl⟩
structure SchK (w:World) (cfg:Array Value) (xn:List UInt8) (E1 E2:Option Addr) (m1 e1 m2 e2:Nat) (x:Rs.Sch) (W:World):Prop where
 base:Below w.heap.size w W
 cfg:BlkAt W w.heap.size cfg 33
 sch:BlkAt W (w.heap.size+1) #[.string ⟨xn.toArray⟩,.slice E1 m1 e1,.slice E2 m2 e2] 90
 ok:SchOk 0 W.heap.size W x ((E1,m1,e1),(E2,m2,e2))
 civ:CivT W
theorem SchK.below {w:World} {cfg:Array Value} {xn:List UInt8} {E1 E2:Option Addr} {m1 e1 m2 e2:Nat} {x:Rs.Sch} {W W':World} (h:SchK w cfg xn E1 E2 m1 e1 m2 e2 x W) (hb:Below W.heap.size W W'):SchK w cfg xn E1 E2 m1 e1 m2 e2 x W':=
 ⟨bstep h.base hb,h.cfg.after hb,h.sch.after hb,(SchOk.kept (.of_below hb (Nat.le_refl _)) h.ok).mono (Nat.le_refl _) hb.size,h.civ.below hb⟩
set_option maxHeartbeats 16000000 in
theorem checkSchedule_is {C:Rs.Cfg} {i:Nat} {x:Rs.Sch} (hx:C.scheds[i]? =some x) {R:Int} (hR:Rs.schE C.zones.length C.people.length C.cals.length (C.scheds.map (·.name)) i x=R) (A1 A2 A3 A4:Option Addr) (n1 c1 n2 c2 n3 c3 n4 c4:Nat) (w:World) (hC:CfgAt 0 w.heap.size w (A1,n1,c1) (A2,n2,c2) (A3,n3,c3) (A4,n4,c4) C) (hT:CivT w):
  Calls Tryz.prog 107 #[.agg #[.slice A1 n1 c1,.slice A2 n2 c2,.slice A3 n3 c3,.slice A4 n4 c4],.int .i64 i] w fun e w'=>e= .returned (.int .i64 R)∧Below w.heap.size w w':=by
 have hlen:=hC.scheds.len
 have hz1:=hC.zones.len
 have hz2:=hC.people.len
 have hz3:=hC.cals.len
 simp only at hlen hz1 hz2 hz3
 rw [hz1.1,hz2.1,hz3.1] at hR
 have hi:i<n4:=by have h:=(List.getElem?_eq_some_iff.1 hx).1;omega
 have B0:=(Below.refl _ w).alloc (Nat.le_refl _) (.cells #[.slice A1 n1 c1,.slice A2 n2 c2,.slice A3 n3 c3,.slice A4 n4 c4] 33)
 obtain ⟨x2,⟨⟨E1,m1,e1⟩,⟨E2,m2,e2⟩⟩,b,off,hx2,ea,hb,d0,d1,d2,hok⟩:=s_elem (s_nest hC.scheds B0) (i:=i) hi
 simp only at ea
 subst ea
 obtain rfl:x2=x:=Option.some.inj (hx2.symm.trans hx)
 simp only at d1 d2
 have hnx:(C.scheds.map (·.name))[i]? =some x2.name:=by rw [List.getElem?_map,hx];rfl
 unfold Rs.schE at hR
 obtain ⟨N,hN⟩: ∃N,Rs.nameE (C.scheds.map (·.name)) i x2.name=N:=⟨_,rfl⟩
 have hl1:=hok.1.len
 have hl2:=hok.2.1.len
 have hl3:=hok.2.1.le
 simp only at hl1 hl2 hl3
 rw [hN,hl1.1,hl2] at hR
 generalize x2.name=xn at d0 hnx hN
 have B1:=B0.alloc B0.size (.cells #[.string ⟨xn.toArray⟩,.slice E1 m1 e1,.slice E2 m2 e2] 90)
 have K1:=BlkAt.alloc (BlkAt.new w #[.slice A1 n1 c1,.slice A2 n2 c2,.slice A3 n3 c3,.slice (some ⟨b,off,none⟩) n4 c4] 33) (.cells #[.string ⟨xn.toArray⟩,.slice E1 m1 e1,.slice E2 m2 e2] 90)
 have E1':=blk_next (w:=w) (.cells #[.slice A1 n1 c1,.slice A2 n2 c2,.slice A3 n3 c3,.slice (some ⟨b,off,none⟩) n4 c4] 33) (.cells #[.string ⟨xn.toArray⟩,.slice E1 m1 e1,.slice E2 m2 e2] 90) rfl
 have HNM:=Lib.hid (s_name hnx hN (some ⟨b,off,none⟩) n4 c4 ((w.alloc (.cells #[.slice A1 n1 c1,.slice A2 n2 c2,.slice A3 n3 c3,.slice (some ⟨b,off,none⟩) n4 c4] 33)).alloc (.cells #[.string ⟨xn.toArray⟩,.slice E1 m1 e1,.slice E2 m2 e2] 90)) (s_nest hC.scheds B1))
 have hb1:Below (w.alloc (.cells #[.slice A1 n1 c1,.slice A2 n2 c2,.slice A3 n3 c3,.slice (some ⟨b,off,none⟩) n4 c4] 33)).heap.size (w.alloc (.cells #[.slice A1 n1 c1,.slice A2 n2 c2,.slice A3 n3 c3,.slice (some ⟨b,off,none⟩) n4 c4] 33)) ((w.alloc (.cells #[.slice A1 n1 c1,.slice A2 n2 c2,.slice A3 n3 c3,.slice (some ⟨b,off,none⟩) n4 c4] 33)).alloc (.cells #[.string ⟨xn.toArray⟩,.slice E1 m1 e1,.slice E2 m2 e2] 90)):=(Below.refl _ _).alloc (Nat.le_refl _) _
 have HS:=Lib.hid (SchK.mk B1 K1 E1' ((SchOk.kept (.of_below hb1 (Nat.le_refl _)) hok).mono (Nat.le_refl _) hb1.size) (hT.below B1))
 have h0:(0:Int)≤i:=by omega
 have h1:(i:Int)<n4:=by omega
 have HL1:=Lib.hid hl1.1
 have HL2:=Lib.hid hl2
 have hm1:=hl1.2.2
 have HIT:=Lib.hid hok.2.2
 clear hC hx hx2 hlen hz1 hz2 hz3 hok B0 B1 K1 E1' hnx hN hb hT hb1 hl1 hl2
 by_cases hN0:N=0
 rotate_left
 ·have t0:(N !=0)=true:=by simpa using hN0
  obtain rfl:R=N:=by rw [if_pos hN0] at hR;exact hR.symm
  clear hR hN0
  go_enter Tryz.func107,Tryz.ntmps107
  go_wp2_with fail
  refine HNM.out.mono ?_
  rintro e w2 ⟨rfl,b2⟩
  have S2:=Lib.hid (HS.out.below b2)
  obtain ⟨k0,k1,k2,k3⟩:=cfg_cells S2.out.cfg
  obtain ⟨q0,q1,q2⟩:=s_cells S2.out.sch
  clear b2
  go_wp2_with fail
  go_ret
  exact ⟨rfl,S2.out.base⟩
 subst hN0
 rw [if_neg (by decide)] at hR
 by_cases h6:6<m1
 ·have t1:decide ((6:Int)<m1)=true:=by simp;omega
  obtain rfl:R=5:=by rw [if_pos (.inl h6)] at hR;exact hR.symm
  clear hR h6
  go_enter Tryz.func107,Tryz.ntmps107
  go_wp2_with fail
  refine HNM.out.mono ?_
  rintro e w2 ⟨rfl,b2⟩
  have S2:=Lib.hid (HS.out.below b2)
  obtain ⟨k0,k1,k2,k3⟩:=cfg_cells S2.out.cfg
  obtain ⟨q0,q1,q2⟩:=s_cells S2.out.sch
  clear b2
  go_wp2_with fail
  go_ret
  exact ⟨rfl,S2.out.base⟩
 have t1:decide ((6:Int)<m1)=false:=by simp;omega
 by_cases h48:48<m2
 ·have t2:decide ((48:Int)<m2)=true:=by simp;omega
  obtain rfl:R=5:=by rw [if_pos (.inr h48)] at hR;exact hR.symm
  clear hR h6 h48
  go_enter Tryz.func107,Tryz.ntmps107
  go_wp2_with fail
  refine HNM.out.mono ?_
  rintro e w2 ⟨rfl,b2⟩
  have S2:=Lib.hid (HS.out.below b2)
  obtain ⟨k0,k1,k2,k3⟩:=cfg_cells S2.out.cfg
  obtain ⟨q0,q1,q2⟩:=s_cells S2.out.sch
  clear b2
  go_wp2_with fail
  go_ret
  exact ⟨rfl,S2.out.base⟩
 have t2:decide ((48:Int)<m2)=false:=by simp;omega
 rw [if_neg (by omega)] at hR
 clear h6 h48
 obtain ⟨F,hF⟩: ∃F,Rs.fe (Rs.layE n1 n2 n3 (x2.lays.map (·.name))) 0 x2.lays=F:=⟨_,rfl⟩
 obtain ⟨G,hG⟩: ∃G,Rs.fe (fun _=>Rs.editE n2) 0 x2.edits=G:=⟨_,rfl⟩
 rw [hF,hG] at hR
 have HF0:Hid (Rs.fe (Rs.layE n1 n2 n3 (x2.lays.map (·.name))) 0 (x2.lays.drop 0)=F):=Lib.hid hF
 have HG0:Hid (Rs.fe (fun _=>Rs.editE n2) 0 (x2.edits.drop 0)=G):=Lib.hid hG
 have HR:=Lib.hid hR
 clear hF hG hR
 go_enter Tryz.func107,Tryz.ntmps107
 go_wp2_with fail
 refine HNM.out.mono ?_
 rintro e w2 ⟨rfl,b2⟩
 have S2:=Lib.hid (HS.out.below b2)
 obtain ⟨k0,k1,k2,k3⟩:=cfg_cells S2.out.cfg
 obtain ⟨q0,q1,q2⟩:=s_cells S2.out.sch
 clear b2
 go_wp2_with fail
 go_loopw [37] (fun i wr=> ∃(k:Nat),k≤m1∧i= .int .i64 k∧Hid (Rs.fe (Rs.layE n1 n2 n3 (x2.lays.map (·.name))) k (x2.lays.drop k)=F)∧Hid (SchK w #[.slice A1 n1 c1,.slice A2 n2 c2,.slice A3 n3 c3,.slice (some ⟨b,off,none⟩) n4 c4] xn E1 E2 m1 e1 m2 e2 x2 wr)) (fun i _=>m1-(intOf i).toNat)
 case atStart=>exact ⟨0,Nat.zero_le _,rfl,HF0,S2⟩
 case round=>
  clear HF0 k0 k1 k2 k3 q0 q1 q2
  obtain ⟨k,hk,rfl,HF,SK⟩:=hrel
  obtain ⟨k0,k1,k2,k3⟩:=cfg_cells SK.out.cfg
  obtain ⟨q0,q1,q2⟩:=s_cells SK.out.sch
  by_cases hlt:k<m1
  ·obtain ⟨y,hy⟩:=get_ex (xs:=x2.lays) (i:=k) (by rw [HL1.out];exact hlt)
   obtain ⟨v,hv⟩: ∃v,Rs.layE n1 n2 n3 (x2.lays.map (·.name)) k y=v:=⟨_,rfl⟩
   have hst:=HF.out
   rw [Rs.fe_step hy,hv] at hst
   have C:=Lib.hid (checkLayer_is hy hv E1 m1 e1 A1 A2 A3 (some ⟨b,off,none⟩) c1 c2 c3 n4 c4 wr SK.out.ok.1 SK.out.civ)
   clear hy hv HF
   by_cases hv0:v=0
   ·have N:=Lib.hid (show Rs.fe (Rs.layE n1 n2 n3 (x2.lays.map (·.name))) (k+1) (x2.lays.drop (k+1))=F by rw [if_pos hv0] at hst;exact hst)
    subst hv0
    clear hst
    go_wp2_with fail
    refine C.out.mono ?_
    rintro e w3 ⟨rfl,b3⟩
    have S3:=Lib.hid (SK.out.below b3)
    clear b3
    go_wp2_with fail
    go_roundw
    case rel=>exact ⟨k+1,by omega,by go_num,N,S3⟩
    case measure=>simp [intOf];omega
   ·have t3:(v !=0)=true:=by simpa using hv0
    have N:=Lib.hid (show R=v by rw [if_neg hv0] at hst;rw [←HR.out, ←hst,if_pos hv0])
    clear hst hv0
    go_wp2_with fail
    refine C.out.mono ?_
    rintro e w3 ⟨rfl,b3⟩
    have B3:=bstep SK.out.base b3
    clear b3
    go_wp2_with fail
    go_ret
    exact ⟨ret_int N.out.symm,B3⟩
  ·have hF0:F=0:=by have h:=HF.out;rw [Rs.fe_done (by rw [HL1.out];omega)] at h;exact h.symm
   have HR2:=Lib.hid (show G=R by rw [←HR.out,if_neg (by simp [hF0])])
   clear hF0 HF
   go_wp2_with fail
   go_loopw [52] (fun i wr=> ∃(k:Nat),k≤m2∧i= .int .i64 k∧Hid (Rs.fe (fun _=>Rs.editE n2) k (x2.edits.drop k)=G)∧Hid (SchK w #[.slice A1 n1 c1,.slice A2 n2 c2,.slice A3 n3 c3,.slice (some ⟨b,off,none⟩) n4 c4] xn E1 E2 m1 e1 m2 e2 x2 wr)) (fun i _=>m2-(intOf i).toNat)
   case atStart=>exact ⟨0,Nat.zero_le _,rfl,HG0,SK⟩
   case round=>
    clear HG0 k0 k1 k2 k3 q0 q1 q2
    obtain ⟨k,hk,rfl,HG,SK⟩:=hrel
    by_cases hlt:k<m2
    ·obtain ⟨y,b2,off2,hy,ea,hb,hc⟩:=SK.out.ok.2.1.get (i:=k) hlt
     simp only at ea
     subst ea
     have hit:=HIT.out y (List.mem_of_getElem? hy)
     have z0:=hc 0 (by decide)
     have z1:=hc 1 (by decide)
     have z2:=hc 2 (by decide)
     have z3:=hc 3 (by decide)
     have z4:=hc 4 (by decide)
     simp only [eEdit,Nat.add_zero] at z0 z1 z2 z3 z4
     obtain ⟨v,hv⟩: ∃v,Rs.editE n2 y=v:=⟨_,rfl⟩
     have hst:=HG.out
     rw [Rs.fe_step hy,hv] at hst
     rw [edi_eq] at hv
     generalize y.kind=yk at z0 hv
     generalize y.a=ya at z1 hv
     generalize y.b=yb at z2 hv
     generalize y.fr=yf at z3 hv
     generalize y.to=yt at z4 hv hit
     have S2:=Lib.hid (SK.out.below ((Below.refl _ _).alloc (Nat.le_refl _) (.cells #[.int .i64 yk,.int .i64 ya,.int .i64 yb,.int .i64 yf,.int .i64 yt] 93)))
     obtain ⟨k0,k1,k2,k3⟩:=cfg_cells S2.out.cfg
     have C:=Lib.hid (ediF_is hv A1 A2 A3 (some ⟨b,off,none⟩) n1 c1 c2 n3 c3 n4 c4 (wr.alloc (.cells #[.int .i64 yk,.int .i64 ya,.int .i64 yb,.int .i64 yf,.int .i64 yt] 93)) S2.out.civ hit)
     clear hy hv HG hc hb
     by_cases hv0:v=0
     ·have N:=Lib.hid (show Rs.fe (fun _=>Rs.editE n2) (k+1) (x2.edits.drop (k+1))=G by rw [if_pos hv0] at hst;exact hst)
      subst hv0
      clear hst
      go_wp2_with fail
      refine C.out.mono ?_
      rintro e w3 ⟨rfl,b3⟩
      have S3:=Lib.hid (S2.out.below b3)
      clear b3
      go_wp2_with fail
      go_roundw
      case rel=>exact ⟨k+1,by omega,by go_num,N,S3⟩
      case measure=>simp [intOf];omega
     ·have t3:(v !=0)=true:=by simpa using hv0
      have N:=Lib.hid (show R=v by rw [if_neg hv0] at hst;rw [←HR2.out, ←hst])
      clear hst hv0
      go_wp2_with fail
      refine C.out.mono ?_
      rintro e w3 ⟨rfl,b3⟩
      have B3:=bstep S2.out.base b3
      clear b3
      go_wp2_with fail
      go_ret
      exact ⟨ret_int N.out.symm,B3⟩
    ·have N:=Lib.hid (show R=0 by have h:=HG.out;rw [Rs.fe_done (by rw [HL2.out];omega)] at h;rw [←HR2.out];exact h.symm)
     go_wp2_with fail
     go_ret
     exact ⟨ret_int N.out.symm,SK.out.base⟩
end Go.Proofs.YtfamcohbnoibaaaGreatDoor
