import Derived.Test.YtfamcohbnoibaaaGreatDoorChecked
import Derived.Test.YtfamcohbnoibaaaGreatDoorKG00
import Derived.WalkKit
import Derived.WalkSpells
import Derived.WalkLawsBesides
import Derived.Deep.QuietTactic
import Derived.BigQuiet
import Derived.Lib.Hide
import Derived.Outline
import Derived.Deep.RegionWith
import Derived.Deep.RegionHeld3
set_option linter.unusedVariables false
namespace Go.Proofs.YtfamcohbnoibaaaGreatDoor
open Go.RowKit
def civTab:List Int:=[31,28,31,30,31,30,31,31,30,31,30,31]
def CivT (w:World):Prop:=0<w.heap.size∧ ∀i:Nat,i<12→w.cell? ⟨0,i,none⟩=some (.int .i64 (civTab.getD i 0))
theorem qsame {P:Program} {f:FuncId} {args:Array Value} {w:World} {n:Nat} {v:Value}
  (h:Calls P f args (w.drewN n) fun e w'=>e= .returned v∧w.drewN n=w'):Calls P f args (w.drewN n) fun e w''=>e= .returned v∧ ∃m,w''=w.drewN m:=
 Calls.quiet_of_same (h.mono fun _ _ ⟨a,b⟩=>⟨a,b.symm⟩)
theorem ret_int {k:IntKind} {a b:Int} (h:a=b):Ending.returned (.int k a)= .returned (.int k b):=by rw [h]
theorem ret_bool {a b:Bool} (h:a=b):Ending.returned (.bool a)= .returned (.bool b):=by rw [h]
set_option maxHeartbeats 400000 in
theorem Mod_any (n k:Int) (w:World) (h1: -9223372036854775808≤n) (h2:n≤9223372036854775807) (k1:1≤k) (k2:k≤4611686018427387904):
  Calls Tryz.prog 28 #[.int .i64 n,.int .i64 k] w fun e w'=>e= .returned (.int .i64 (n%k))∧w=w':=by
 have hb:=Civ.tmod_bd n k (by omega)
 have hk:(k==0)=false:=by simp;omega
 go_enter Tryz.func28,Tryz.ntmps28
 go_wp2
 go_ret
 exact ⟨ret_int (Civ.mod_code n k),rfl⟩
set_option maxHeartbeats 400000 in
theorem wday_any (n:Int) (w:World) (h1: -9223372036854775808≤n) (h2:n≤9223372036854775807):
  Calls Tryz.prog 166 #[.int .i64 n] w fun e w'=>e= .returned (.int .i64 (Civ.wd n))∧w=w':=by
 have hb:=Civ.tmod_bd n 7 (by omega)
 go_enter Tryz.func166,Tryz.ntmps166
 go_wp2
 go_ret
 exact ⟨ret_int (Civ.wd_code n),rfl⟩
set_option maxHeartbeats 400000 in
theorem leap_any (y:Int) (w:World) (h1: -9223372036854775808≤y) (h2:y≤9223372036854775807):
  Calls Tryz.prog 246 #[.int .i64 y] w fun e w'=>e= .returned (.bool (Civ.leapB y))∧w=w':=by
 go_enter Tryz.func246,Tryz.ntmps246
 go_wp2
 all_goals go_ret
 all_goals exact ⟨ret_bool (Civ.leap_code y (by first|exact .inl ⟨‹_›, ‹_›,rfl⟩|exact .inr (.inl ⟨‹_›, ‹_›,rfl⟩)|exact .inr (.inr ⟨‹_›,rfl⟩))),rfl⟩
theorem leap_is {y:Int} {b:Bool} (hb:Civ.leapB y=b) (w:World) (h1: -9223372036854775808≤y) (h2:y≤9223372036854775807):
  Calls Tryz.prog 246 #[.int .i64 y] w fun e w'=>e= .returned (.bool b)∧w=w':=hb▸leap_any y w h1 h2
set_option maxHeartbeats 400000 in
theorem lb_any (y:Int) (w:World) (h1:1≤y) (h2:y≤100000):
  Calls Tryz.prog 256 #[.int .i64 y] w fun e w'=>e= .returned (.int .i64 ((y-1)/4-(y-1)/100+(y-1)/400))∧w=w':=by
 go_enter Tryz.func256,Tryz.ntmps256
 go_wp2
 go_ret
 exact ⟨rfl,rfl⟩
set_option maxHeartbeats 400000 in
theorem ny_any (y:Int) (w:World) (h1:1970≤y) (h2:y≤2241):
  Calls Tryz.prog 239 #[.int .i64 y] w fun e w'=>e= .returned (.int .i64 (Civ.ny y))∧w=w':=by
 go_enter Tryz.func239,Tryz.ntmps239
 go_wp2_with fail
 refine (lb_any _ _ (by omega) (by omega)).mono ?_
 rintro e w' ⟨rfl,rfl⟩
 go_wp2_with fail
 refine (lb_any _ _ (by omega) (by omega)).mono ?_
 rintro e w' ⟨rfl,rfl⟩
 go_wp2_with fail
 go_ret
 exact ⟨ret_int (by unfold Civ.ny;omega),rfl⟩
set_option maxHeartbeats 400000 in
theorem yo_any (n:Int) (w:World) (h1:0≤n) (h2:n<98981):
  Calls Tryz.prog 240 #[.int .i64 n] w fun e w'=>e= .returned (.int .i64 (Civ.yo n))∧w=w':=by
 have hg:=Civ.yo_guess n h1 h2
 by_cases hc:Civ.ny (1970+n/366+1)≤n
 ·have hy:=Lib.hid (show Civ.yo n=1970+n/366+1 by unfold Civ.yo;rw [if_pos hc])
  go_enter Tryz.func240,Tryz.ntmps240
  go_wp2_with fail
  refine (ny_any _ _ (by omega) (by omega)).mono ?_
  rintro e w' ⟨rfl,rfl⟩
  go_wp2_with fail
  go_ret
  exact ⟨ret_int hy.out.symm,rfl⟩
 ·have hy:=Lib.hid (show Civ.yo n=1970+n/366 by unfold Civ.yo;rw [if_neg hc])
  go_enter Tryz.func240,Tryz.ntmps240
  go_wp2_with fail
  refine (ny_any _ _ (by omega) (by omega)).mono ?_
  rintro e w' ⟨rfl,rfl⟩
  go_wp2_with fail
  go_ret
  exact ⟨ret_int hy.out.symm,rfl⟩
theorem ny_is {y n:Int} (h:Civ.ny y=n) (w:World) (h1:1970≤y) (h2:y≤2241):
  Calls Tryz.prog 239 #[.int .i64 y] w fun e w'=>e= .returned (.int .i64 n)∧w=w':=h▸ny_any y w h1 h2
theorem yo_is {n y:Int} (h:Civ.yo n=y) (w:World) (h1:0≤n) (h2:n<98981):
  Calls Tryz.prog 240 #[.int .i64 n] w fun e w'=>e= .returned (.int .i64 y)∧w=w':=h▸yo_any n w h1 h2
theorem tab_at {w:World} (h:CivT w) (i:Nat) (v:Int) (hi:i<12) (hv:civTab.getD i 0=v):w.cell? ⟨0,i,none⟩=some (.int .i64 v):=hv▸h.2 i hi
set_option maxHeartbeats 800000 in
theorem dim_any (y m:Int) (w:World) (hT:CivT w) (h1: -9223372036854775808≤y) (h2:y≤9223372036854775807) (m1: -9223372036854775808≤m) (m2:m≤9223372036854775807):
  Calls Tryz.prog 209 #[.int .i64 y,.int .i64 m] w fun e w'=>e= .returned (.int .i64 (Civ.dim y m))∧w=w':=by
 by_cases ho:m<1
 ·go_enter Tryz.func209,Tryz.ntmps209
  go_wp2_with fail
  go_ret
  exact ⟨ret_int (Civ.dim_out (.inl ho)).symm,rfl⟩
 by_cases ho2:12<m
 ·go_enter Tryz.func209,Tryz.ntmps209
  go_wp2_with fail
  go_ret
  exact ⟨ret_int (Civ.dim_out (.inr ho2)).symm,rfl⟩
 have hd:=Civ.dim_of (y:=y) (show 1≤m by omega) (show m≤12 by omega)
 have HD:=Lib.hid hd
 clear hd
 have hm:m=2∨m=1∨m=3∨m=4∨m=5∨m=6∨m=7∨m=8∨m=9∨m=10∨m=11∨m=12:=by omega
 have t0:=tab_at hT 0 31 (by decide) rfl
 have t1:=tab_at hT 1 28 (by decide) rfl
 have t2:=tab_at hT 2 31 (by decide) rfl
 have t3:=tab_at hT 3 30 (by decide) rfl
 have t4:=tab_at hT 4 31 (by decide) rfl
 have t5:=tab_at hT 5 30 (by decide) rfl
 have t6:=tab_at hT 6 31 (by decide) rfl
 have t7:=tab_at hT 7 31 (by decide) rfl
 have t8:=tab_at hT 8 30 (by decide) rfl
 have t9:=tab_at hT 9 31 (by decide) rfl
 have t10:=tab_at hT 10 30 (by decide) rfl
 have t11:=tab_at hT 11 31 (by decide) rfl
 clear hT
 rcases hm with rfl|hm
 ·cases hl:Civ.leapB y
  all_goals
   have HL:=Lib.hid hl
   clear hl
   go_enter Tryz.func209,Tryz.ntmps209
   go_wp2_with fail
   refine (leap_is HL.out _ h1 h2).mono ?_
   rintro e w' ⟨rfl,rfl⟩
   go_wp2_with fail
   go_ret
  ·exact ⟨ret_int (by rw [HD.out,Civ.lp_no HL.out];rfl),rfl⟩
  ·exact ⟨ret_int (by rw [HD.out,Civ.lp_yes HL.out];rfl),rfl⟩
 ·rcases hm with rfl|rfl|rfl|rfl|rfl|rfl|rfl|rfl|rfl|rfl|rfl
  all_goals
   go_enter Tryz.func209,Tryz.ntmps209
   go_wp2_with fail
   go_ret
   exact ⟨ret_int (by rw [HD.out];rfl),rfl⟩
open Go.RowKit
theorem bcell {W w1:World} (hb:Below W.heap.size W w1):(∀b o,b<W.heap.size→w1.cell? ⟨b,o,none⟩=W.cell? ⟨b,o,none⟩)∧(∀b o,b<W.heap.size→w1.frozen? ⟨b,o,none⟩=W.frozen? ⟨b,o,none⟩):=
 ⟨fun b o h=>hb.cell (p:=⟨b,o,none⟩) h,fun b o h=>hb.frozen (p:=⟨b,o,none⟩) h⟩
theorem CivT.below {w w':World} (h:CivT w) (hb:Below w.heap.size w w'):CivT w':=
 ⟨Nat.lt_of_lt_of_le h.1 hb.size,fun i hi=>by rw [hb.cell (p:=⟨0,i,none⟩) h.1];exact h.2 i hi⟩
theorem CivT.alloc {w:World} (h:CivT w) (o:Obj):CivT (w.alloc o):=h.below ((Below.refl _ _).alloc (Nat.le_refl _) o)
theorem CivT.drewN {w:World} (h:CivT w) (n:Nat):CivT (w.drewN n):=h.below (below_drewN (Below.refl _ _) n)
theorem CivT.drew {w:World} (h:CivT w):CivT w.drew:=h.below (Below.refl _ _).drew
def I64 (n:Int):Prop:= -9223372036854775808≤n∧n≤9223372036854775807
theorem ret_pair {k:IntKind} {a b:Int} {v:Value} (h:a=b):Ending.returned (.tuple #[.int k a,v])= .returned (.tuple #[.int k b,v]):=by rw [h]
theorem below_box (w:World) (o:Obj) (n:Nat):Below w.heap.size w ((w.alloc o).drewN n):=below_drewN ((Below.refl _ _).alloc (Nat.le_refl _) o) n
set_option maxHeartbeats 400000 in
theorem valid_any (y m d:Int) (w:World) (hT:CivT w) (iy:I64 y) (im:I64 m) (id:I64 d):
  Calls Tryz.prog 245 #[.agg #[.int .i64 y,.int .i64 m,.int .i64 d]] w fun e w'=>e= .returned (.bool (Civ.vldB y m d))∧Below w.heap.size w w':=by
 obtain ⟨iy1,iy2⟩:=iy
 obtain ⟨im1,im2⟩:=im
 obtain ⟨id1,id2⟩:=id
 by_cases h1:1970≤y
 ·by_cases h2:y≤2240
  ·by_cases h3:1≤d
   ·have hv:=Lib.hid (Civ.vldB_last (m:=m) h1 h2 h3)
    go_enter Tryz.func245,Tryz.ntmps245
    go_wp2_with fail
    go_quiet ((go_at_call 209;exact qsame (dim_any y m _ ((hT.alloc _).drewN _) iy1 iy2 im1 im2)))
    go_wp2_with fail
    go_ret
    exact ⟨ret_bool hv.out.symm,below_box _ _ _⟩
   ·have hv:=Lib.hid (Civ.vldB_not.2 (fun h:Civ.vld y m d=>h3 h.2.2.2.2.1))
    have hd:decide (1≤d)=false:=by simpa using h3
    go_enter Tryz.func245,Tryz.ntmps245
    go_wp2_with fail
    go_quiet (fail)
    go_wp2_with fail
    go_ret
    exact ⟨ret_bool hv.out.symm,below_box _ _ _⟩
  ·have hv:=Lib.hid (Civ.vldB_not.2 (fun h:Civ.vld y m d=>h2 h.2.1))
   have hd:decide (y≤2240)=false:=by simpa using h2
   go_enter Tryz.func245,Tryz.ntmps245
   go_wp2_with fail
   go_quiet (fail)
   go_wp2_with fail
   go_ret
   exact ⟨ret_bool hv.out.symm,below_box _ _ _⟩
 ·have hv:=Lib.hid (Civ.vldB_not.2 (fun h:Civ.vld y m d=>h1 h.1))
  have hd:decide (1970≤y)=false:=by simpa using h1
  go_enter Tryz.func245,Tryz.ntmps245
  go_wp2_with fail
  go_quiet (fail)
  go_wp2_with fail
  go_ret
  exact ⟨ret_bool hv.out.symm,below_box _ _ _⟩
theorem valid_is {y m d:Int} {b:Bool} (hb:Civ.vldB y m d=b) (w:World) (hT:CivT w) (iy:I64 y) (im:I64 m) (id:I64 d):
  Calls Tryz.prog 245 #[.agg #[.int .i64 y,.int .i64 m,.int .i64 d]] w fun e w'=>e= .returned (.bool b)∧Below w.heap.size w w':=
 hb▸valid_any y m d w hT iy im id
set_option maxHeartbeats 400000 in
theorem day_no (y m d:Int) (w:World) (hT:CivT w) (iy:I64 y) (im:I64 m) (id:I64 d) (hv:¬Civ.vld y m d):
  Calls Tryz.prog 208 #[.agg #[.int .i64 y,.int .i64 m,.int .i64 d]] w fun e w'=>e= .returned (.tuple #[.int .i64 0,.int .i64 1])∧Below w.heap.size w w':=by
 have HV:=Lib.hid (Civ.vldB_not.2 hv)
 clear hv
 go_enter Tryz.func208,Tryz.ntmps208
 go_wp2_with fail
 refine (valid_is HV.out _ (hT.alloc _) iy im id).mono ?_
 rintro e w1 ⟨rfl,hb⟩
 go_wp2_with fail
 go_ret2
 exact ⟨rfl,((Below.refl _ _).alloc (Nat.le_refl _) _).trans (hb.mono (by simp))⟩
set_option maxHeartbeats 800000 in
theorem day_yes (y m d:Int) (w:World) (hT:CivT w) (hv:Civ.vld y m d):
  Calls Tryz.prog 208 #[.agg #[.int .i64 y,.int .i64 m,.int .i64 d]] w fun e w'=>e= .returned (.tuple #[.int .i64 (Civ.num y m d),.int .i64 0])∧Below w.heap.size w w':=by
 have HV:=Lib.hid (Civ.vldB_iff.2 hv)
 obtain ⟨v1,v2,v3,v4,v5,v6⟩:=hv
 have hnb:=Civ.ny_bd v1 (show y≤2241 by omega)
 have hdb:=Civ.dim_bd y m
 go_enter Tryz.func208,Tryz.ntmps208
 go_wp2_with fail
 refine (valid_is HV.out _ (hT.alloc _) ⟨by omega,by omega⟩ ⟨by omega,by omega⟩ ⟨by omega,by omega⟩).mono ?_
 rintro e w1 ⟨rfl,hb⟩
 have hT1:=(hT.alloc _).below hb
 obtain ⟨hc,hf⟩:=bcell hb
 go_wp2_with fail
 go_quiet ((go_at_call 239;exact qsame (ny_any y _ v1 (by omega))))
 go_wp2_with fail
 go_loop [4,5] (fun n i=> ∃k:Int,1≤k∧k≤m∧i= .int .i64 k∧n= .int .i64 (Civ.ny y+d-1+Civ.cum y k)) (fun _ i=>(m-intOf i).toNat)
 case atStart=>exact ⟨1,by omega,by omega,rfl,by rw [Civ.cum_1,Int.add_zero]⟩
 case round=>
  obtain ⟨k,hk1,hk2,rfl,rfl⟩:=hrel
  have hcb:=Civ.cum_bd (y:=y) hk1 (show k≤13 by omega)
  have hdk:=Civ.dim_bd y k
  by_cases hlt:k<m
  ·have hcs:=Lib.hid (Civ.cum_succ (y:=y) hk1 (show k≤12 by omega))
   go_wp2_with (go_at_call 209;refine (dim_any _ _ _ (hT1.drewN _) (by omega) (by omega) (by omega) (by omega)).mono ?_;rintro e w' ⟨rfl,rfl⟩)
   go_round
   case rel=>exact ⟨k+1,by omega,by omega,rfl,by rw [hcs.out];go_num⟩
   case measure=>simp [intOf];omega
  ·have hkm:=Lib.hid (show k=m by omega)
   go_wp2_with fail
   go_ret2
   exact ⟨ret_pair (by rw [hkm.out];unfold Civ.num;omega),below_drewN (((Below.refl _ _).alloc (Nat.le_refl _) _).trans (hb.mono (by simp))) _⟩
set_option maxHeartbeats 400000 in
theorem dateOf_no (n:Int) (w:World) (i:I64 n) (h:n<0∨98981≤n):
  Calls Tryz.prog 200 #[.int .i64 n] w fun e w'=>e= .returned (.tuple #[.agg #[.int .i64 0,.int .i64 0,.int .i64 0],.int .i64 1])∧Below w.heap.size w w':=by
 obtain ⟨i1,i2⟩:=i
 by_cases h0:n<0
 ·go_enter Tryz.func200,Tryz.ntmps200
  go_wp2_with fail
  exact bodyPost_ret (v:= .tuple #[.agg #[.int .i64 0,.int .i64 0,.int .i64 0],.int .i64 1]) (by simp [results,Tryz.results200,go_sem]) rfl ⟨rfl,(Below.refl _ _).alloc (Nat.le_refl _) _⟩
 ·have h1:98981≤n:=by omega
  go_enter Tryz.func200,Tryz.ntmps200
  go_wp2_with fail
  refine (ny_is Civ.ny_2241 _ (by omega) (by omega)).mono ?_
  rintro e w' ⟨rfl,rfl⟩
  go_wp2_with fail
  exact bodyPost_ret (v:= .tuple #[.agg #[.int .i64 0,.int .i64 0,.int .i64 0],.int .i64 1]) (by simp [results,Tryz.results200,go_sem]) rfl ⟨rfl,(Below.refl _ _).alloc (Nat.le_refl _) _⟩
set_option maxHeartbeats 800000 in
theorem dateOf_yes (y m d:Int) (n:Int) (w:World) (hT:CivT w) (hv:Civ.vld y m d) (hn:Civ.num y m d=n):
  Calls Tryz.prog 200 #[.int .i64 n] w fun e w'=>e= .returned (.tuple #[.agg #[.int .i64 y,.int .i64 m,.int .i64 d],.int .i64 0])∧Below w.heap.size w w':=by
 have HN:=Lib.hid hn
 have nb:=Civ.num_bd hv
 rw [hn] at nb
 clear hn
 have hy:=Lib.hid (Civ.yo_of nb.2.2.1 nb.2.2.2.1 nb.2.2.2.2.1 nb.2.2.2.2.2)
 obtain ⟨v1,v2,v3,v4,v5,v6⟩:=hv
 have hnb:=Civ.ny_bd v1 (show y≤2241 by omega)
 go_enter Tryz.func200,Tryz.ntmps200
 go_wp2_with fail
 refine (ny_is Civ.ny_2241 _ (by omega) (by omega)).mono ?_
 rintro e w' ⟨rfl,rfl⟩
 go_wp2_with fail
 refine (yo_is hy.out _ (by omega) (by omega)).mono ?_
 rintro e w' ⟨rfl,rfl⟩
 go_wp2_with fail
 refine (ny_any y _ (by omega) (by omega)).mono ?_
 rintro e w' ⟨rfl,rfl⟩
 go_wp2_with fail
 have hT1:=hT.alloc (.cells #[.int .i64 0,.int .i64 0,.int .i64 0] 221)
 go_loop [5,6] (fun r i=> ∃k:Int,1≤k∧k≤m∧i= .int .i64 k∧r= .int .i64 (n-Civ.ny y-Civ.cum y k)) (fun _ i=>(m-intOf i).toNat)
 case atStart=>exact ⟨1,by omega,by omega,rfl,by rw [Civ.cum_1,Int.sub_zero]⟩
 case round=>
  obtain ⟨k,hk1,hk2,rfl,rfl⟩:=hrel
  have hcb:=Civ.cum_bd (y:=y) hk1 (show k≤13 by omega)
  have hdk:=Civ.dim_bd y k
  have hcs:=Lib.hid (Civ.cum_succ (y:=y) hk1 (show k≤12 by omega))
  by_cases hlt:k<m
  ·have hle:=Civ.cum_mono (y:=y) (show 1≤k+1 by omega) (show k+1≤m by omega)
   have hge:Civ.dim y k≤n-Civ.ny y-Civ.cum y k:=by have :=hcs.out;omega
   have hk12:k<12:=by omega
   clear hle
   go_wp2_with (go_at_call 209;refine (dim_any _ _ _ hT1 (by omega) (by omega) (by omega) (by omega)).mono ?_;rintro e w' ⟨rfl,rfl⟩)
   go_round
   case rel=>exact ⟨k+1,by omega,by omega,rfl,by rw [hcs.out];go_num⟩
   case measure=>simp [intOf];omega
  ·have hkm:=Lib.hid (show k=m by omega)
   have hdd:=Lib.hid (show n-Civ.ny y-Civ.cum y k+1=d by rw [hkm.out, ←HN.out];unfold Civ.num;omega)
   by_cases hk12:k<12
   ·have hge:n-Civ.ny y-Civ.cum y k<Civ.dim y k:=by have :=hdd.out;have :=hkm.out;subst this;omega
    go_wp2_with (go_at_call 209;refine (dim_any _ _ _ hT1 (by omega) (by omega) (by omega) (by omega)).mono ?_;rintro e w' ⟨rfl,rfl⟩)
    exact bodyPost_ret (v:= .tuple #[.agg #[.int .i64 y,.int .i64 k,.int .i64 (n-Civ.ny y-Civ.cum y k+1)],.int .i64 0]) (by simp [results,Tryz.results200,go_sem]) rfl ⟨by rw [hdd.out,hkm.out],(Below.refl _ _).alloc (Nat.le_refl _) _⟩
   ·go_wp2_with fail
    exact bodyPost_ret (v:= .tuple #[.agg #[.int .i64 y,.int .i64 k,.int .i64 (n-Civ.ny y-Civ.cum y k+1)],.int .i64 0]) (by simp [results,Tryz.results200,go_sem]) rfl ⟨by rw [hdd.out,hkm.out],(Below.refl _ _).alloc (Nat.le_refl _) _⟩
open Go.RowKit
open Go.RowKit
set_option maxHeartbeats 800000 in
theorem nth_yes (y m k v:Int) (w:World) (hT:CivT w) (hv:Civ.vld y m 1) (k1:1≤k) (k2:k≤5) (v1:0≤v) (v2:v≤6):
  Calls Tryz.prog 175 #[.int .i64 y,.int .i64 m,.int .i64 k,.int .i64 v] w fun e w'=>e= .returned (.tuple #[.int .i64 (Civ.nthD (Civ.num y m 1) (Civ.dim y m) k v),.int .i64 0])∧Below w.heap.size w w':=by
 have nb:=(Civ.num_bd hv).2.2.2.2
 have db:=Civ.dim_bd y m
 have wb:=Civ.wd_bd (Civ.num y m 1)
 have HV:=hv
 obtain ⟨y1,y2,m1,m2,_,_⟩:=hv
 by_cases hc:Civ.num y m 1+Civ.dim y m≤Civ.num y m 1+(v-Civ.wd (Civ.num y m 1))%7+(k-1)*7
 ·have hd:=Lib.hid (show Civ.nthD (Civ.num y m 1) (Civ.dim y m) k v=Civ.num y m 1+(v-Civ.wd (Civ.num y m 1))%7+(k-1)*7-7 by unfold Civ.nthD;rw [if_pos hc])
  go_enter Tryz.func175,Tryz.ntmps175
  go_wp2_with fail
  refine (day_yes y m 1 _ hT HV).mono ?_
  rintro e w1 ⟨rfl,hb⟩
  have hT1:=hT.below hb
  go_wp2_with fail
  refine (wday_any _ _ (by omega) (by omega)).mono ?_
  rintro e w' ⟨rfl,rfl⟩
  go_wp2_with fail
  refine (dim_any _ _ _ hT1 (by omega) (by omega) (by omega) (by omega)).mono ?_
  rintro e w' ⟨rfl,rfl⟩
  go_wp2_with fail
  go_ret2
  exact ⟨ret_pair hd.out.symm,hb⟩
 ·have hd:=Lib.hid (show Civ.nthD (Civ.num y m 1) (Civ.dim y m) k v=Civ.num y m 1+(v-Civ.wd (Civ.num y m 1))%7+(k-1)*7 by unfold Civ.nthD;rw [if_neg hc])
  go_enter Tryz.func175,Tryz.ntmps175
  go_wp2_with fail
  refine (day_yes y m 1 _ hT HV).mono ?_
  rintro e w1 ⟨rfl,hb⟩
  have hT1:=hT.below hb
  go_wp2_with fail
  refine (wday_any _ _ (by omega) (by omega)).mono ?_
  rintro e w' ⟨rfl,rfl⟩
  go_wp2_with fail
  refine (dim_any _ _ _ hT1 (by omega) (by omega) (by omega) (by omega)).mono ?_
  rintro e w' ⟨rfl,rfl⟩
  go_wp2_with fail
  go_ret2
  exact ⟨ret_pair hd.out.symm,hb⟩
set_option maxHeartbeats 800000 in
theorem nth_bad (y m k v:Int) (w:World) (hT:CivT w) (iy:I64 y) (im:I64 m) (hv:¬Civ.vld y m 1):
  Calls Tryz.prog 175 #[.int .i64 y,.int .i64 m,.int .i64 k,.int .i64 v] w fun e w'=>e= .returned (.tuple #[.int .i64 0,.int .i64 1])∧Below w.heap.size w w':=by
 go_enter Tryz.func175,Tryz.ntmps175
 go_wp2_with fail
 refine (day_no y m 1 _ hT iy im ⟨by omega,by omega⟩ hv).mono ?_
 rintro e w1 ⟨rfl,hb⟩
 go_wp2_with fail
 go_ret2
 exact ⟨rfl,hb⟩
set_option maxHeartbeats 800000 in
theorem nth_out (y m k v:Int) (w:World) (hT:CivT w) (hv:Civ.vld y m 1) (h:k<1∨(1≤k∧5<k)∨(1≤k∧k≤5∧v<0)∨(1≤k∧k≤5∧0≤v∧7≤v)):
  Calls Tryz.prog 175 #[.int .i64 y,.int .i64 m,.int .i64 k,.int .i64 v] w fun e w'=>e= .returned (.tuple #[.int .i64 0,.int .i64 1])∧Below w.heap.size w w':=by
 rcases h with h|⟨h1,h⟩|⟨h1,h2,h⟩|⟨h1,h2,h3,h⟩
 all_goals
  go_enter Tryz.func175,Tryz.ntmps175
  go_wp2_with fail
  refine (day_yes y m 1 _ hT hv).mono ?_
  rintro e w1 ⟨rfl,hb⟩
  go_wp2_with fail
  go_ret2
  exact ⟨rfl,hb⟩
theorem nth_no (y m k v:Int) (w:World) (hT:CivT w) (iy:I64 y) (im:I64 m) (h:¬(Civ.vld y m 1∧1≤k∧k≤5∧0≤v∧v≤6)):
  Calls Tryz.prog 175 #[.int .i64 y,.int .i64 m,.int .i64 k,.int .i64 v] w fun e w'=>e= .returned (.tuple #[.int .i64 0,.int .i64 1])∧Below w.heap.size w w':=by
 by_cases hv:Civ.vld y m 1
 ·exact nth_out y m k v w hT hv (by have :¬(1≤k∧k≤5∧0≤v∧v≤6):=fun c=>h ⟨hv,c⟩;omega)
 ·exact nth_bad y m k v w hT iy im hv
open Go.RowKit
theorem bstep {W w w':World} (h:Below W.heap.size W w) (k:Below w.heap.size w w'):Below W.heap.size W w':=h.trans (k.mono h.size)
def DateAt (w:World) (b:Nat) (y m d:Int):Prop:=w.cell? ⟨b,0,none⟩=some (.int .i64 y)∧w.cell? ⟨b,1,none⟩=some (.int .i64 m)∧w.cell? ⟨b,2,none⟩=some (.int .i64 d)
theorem DateAt.lt {w:World} {b:Nat} {y m d:Int} (h:DateAt w b y m d):b<w.heap.size:=World.block_lt_of_cell? w _ h.1
theorem DateAt.below {w w':World} {b:Nat} {y m d:Int} (h:DateAt w b y m d) (k:Below w.heap.size w w'):DateAt w' b y m d:=
 ⟨(k.cell (p:=⟨b,0,none⟩) h.lt).trans h.1,(k.cell (p:=⟨b,1,none⟩) h.lt).trans h.2.1,(k.cell (p:=⟨b,2,none⟩) h.lt).trans h.2.2⟩
theorem DateAt.alloc {w:World} {b:Nat} {y m d:Int} (h:DateAt w b y m d) (o:Obj):DateAt (w.alloc o) b y m d:=h.below ((Below.refl _ _).alloc (Nat.le_refl _) o)
theorem DateAt.drewN {w:World} {b:Nat} {y m d:Int} (h:DateAt w b y m d) (n:Nat):DateAt (w.drewN n) b y m d:=h.below (below_drewN (Below.refl _ _) n)
theorem DateAt.drew {w:World} {b:Nat} {y m d:Int} (h:DateAt w b y m d):DateAt w.drew b y m d:=h.below (Below.refl _ _).drew
theorem DateAt.new (w:World) (y m d:Int) (t:TypeId):DateAt (w.alloc (.cells #[.int .i64 y,.int .i64 m,.int .i64 d] t)) w.heap.size y m d:=by
 refine ⟨?_, ?_, ?_⟩<;>simp
end Go.Proofs.YtfamcohbnoibaaaGreatDoor
