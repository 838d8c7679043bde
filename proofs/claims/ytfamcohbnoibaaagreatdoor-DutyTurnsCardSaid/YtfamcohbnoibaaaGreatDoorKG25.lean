import Derived.Test.YtfamcohbnoibaaaGreatDoorKG20
import Derived.Test.YtfamcohbnoibaaaGreatDoorKG41
import Derived.Test.YtfamcohbnoibaaaGreatDoorKG23
import Derived.Deep.RegionHeld3
import Derived.Test.YtfamcohbnoibaaaGreatDoorKG14
set_option linter.unusedVariables false
set_option linter.unusedSimpArgs false
set_option maxRecDepth 100000
namespace Go.Proofs.YtfamcohbnoibaaaGreatDoor
open Go.RowKit
theorem wrapn {n:Int} (h: -9223372036854775808≤n∧n≤9223372036854775807):IntKind.i64.wrap n=n∧wrap64 n=n:=⟨by rw [IntKind.wrap_i64];omega,by unfold wrap64;omega⟩
theorem clift {w w':World} {p:Addr} {v:Value} (h:w.cell? p=some v) (hb:Below w.heap.size w w'):w'.cell? p=some v:=(hb.cell (p:=p) (World.block_lt_of_cell? w _ h)).trans h
def uS (u:Int):Int:=if u=0 then 3600 else if u=1 then 86400 else if u=2 then 604800 else 0
def vS (D S:Int):Bool:=decide (1≤D∧D≤100000∧0≤S∧S<86400)
set_option maxHeartbeats 4000000 in
theorem uni_is (u:Int) (w:World):Calls Tryz.prog 117 #[.int .i64 u] w fun e w'=>e= .returned (.int .i64 (uS u))∧w=w':=by
 by_cases h0:u=0
 ·subst h0
  have h1:=Lib.hid (show uS 0=3600 from rfl)
  go_enter Tryz.func117,Tryz.ntmps117
  go_wp2_with fail
  go_ret
  rw [h1.out];exact ⟨rfl,rfl⟩
 ·have e0:(u==0)=false:=by simpa using h0
  by_cases h1:u=1
  ·subst h1
   have h1:=Lib.hid (show uS 1=86400 from rfl)
   go_enter Tryz.func117,Tryz.ntmps117
   go_wp2_with fail
   go_ret
   rw [h1.out];exact ⟨rfl,rfl⟩
  ·have e1:(u==1)=false:=by simpa using h1
   by_cases h2:u=2
   ·subst h2
    have h1:=Lib.hid (show uS 2=604800 from rfl)
    go_enter Tryz.func117,Tryz.ntmps117
    go_wp2_with fail
    go_ret
    rw [h1.out];exact ⟨rfl,rfl⟩
   ·have e2:(u==2)=false:=by simpa using h2
    have h3:=Lib.hid (show uS u=0 by unfold uS;rw [if_neg h0,if_neg h1,if_neg h2])
    clear h0 h1 h2
    go_enter Tryz.func117,Tryz.ntmps117
    go_wp2_with fail
    go_ret
    rw [h3.out];exact ⟨rfl,rfl⟩
set_option maxHeartbeats 4000000 in
theorem vst_is (D S:Int) (w:World):Calls Tryz.prog 116 #[.agg #[.int .i64 D,.int .i64 S]] w fun e w'=>e= .returned (.bool (vS D S))∧Below w.heap.size w w':=by
 have HB:=Lib.hid ((Below.refl w.heap.size w).alloc (Nat.le_refl _) (.cells #[.int .i64 D,.int .i64 S] 36))
 have LB:=Lib.hid (BlkAt.new w #[.int .i64 D,.int .i64 S] 36)
 by_cases h1:1≤D
 ·by_cases h2:D≤100000
  ·by_cases h3:0≤S
   ·by_cases h4:S<86400
    ·have hd:=Lib.hid (show vS D S=true from decide_eq_true ⟨h1,h2,h3,h4⟩)
     go_enter Tryz.func116,Tryz.ntmps116
     go_upto_region 1 with fail
     generalize w.alloc (.cells #[.int .i64 D,.int .i64 S] 36)=W0 at HB LB ⊢
     have z0:=LB.out.cell (i:=0) rfl;have z1:=LB.out.cell (i:=1) rfl
     go_wp2_with fail
     go_ret
     exact ⟨ret_bool (by rw [hd.out]),HB.out⟩
    ·have hd:=Lib.hid (show vS D S=false from decide_eq_false (by omega))
     go_enter Tryz.func116,Tryz.ntmps116
     go_upto_region 1 with fail
     generalize w.alloc (.cells #[.int .i64 D,.int .i64 S] 36)=W0 at HB LB ⊢
     have z0:=LB.out.cell (i:=0) rfl;have z1:=LB.out.cell (i:=1) rfl
     go_wp2_with fail
     go_ret
     exact ⟨ret_bool (by rw [hd.out]),HB.out⟩
   ·have hd:=Lib.hid (show vS D S=false from decide_eq_false (by omega))
    go_enter Tryz.func116,Tryz.ntmps116
    go_upto_region 1 with fail
    generalize w.alloc (.cells #[.int .i64 D,.int .i64 S] 36)=W0 at HB LB ⊢
    have z0:=LB.out.cell (i:=0) rfl;have z1:=LB.out.cell (i:=1) rfl
    go_wp2_with fail
    go_ret
    exact ⟨ret_bool (by rw [hd.out]),HB.out⟩
  ·have hd:=Lib.hid (show vS D S=false from decide_eq_false (by omega))
   go_enter Tryz.func116,Tryz.ntmps116
   go_upto_region 1 with fail
   generalize w.alloc (.cells #[.int .i64 D,.int .i64 S] 36)=W0 at HB LB ⊢
   have z0:=LB.out.cell (i:=0) rfl;have z1:=LB.out.cell (i:=1) rfl
   go_wp2_with fail
   go_ret
   exact ⟨ret_bool (by rw [hd.out]),HB.out⟩
 ·have hd:=Lib.hid (show vS D S=false from decide_eq_false (by omega))
  go_enter Tryz.func116,Tryz.ntmps116
  go_upto_region 1 with fail
  generalize w.alloc (.cells #[.int .i64 D,.int .i64 S] 36)=W0 at HB LB ⊢
  have z0:=LB.out.cell (i:=0) rfl;have z1:=LB.out.cell (i:=1) rfl
  go_wp2_with fail
  go_ret
  exact ⟨ret_bool (by rw [hd.out]),HB.out⟩
set_option maxHeartbeats 4000000 in
theorem sec_of (D S:Int) (w:World) (h1: -1000000≤D) (h2:D≤1000000) (h3:0≤S) (h4:S<86400):Calls Tryz.prog 118 #[.agg #[.int .i64 D,.int .i64 S]] w fun e w'=>e= .returned (.int .i64 (D*86400+S))∧Below w.heap.size w w':=by
 have HB:=Lib.hid ((Below.refl w.heap.size w).alloc (Nat.le_refl _) (.cells #[.int .i64 D,.int .i64 S] 36))
 have LB:=Lib.hid (BlkAt.new w #[.int .i64 D,.int .i64 S] 36)
 have ⟨e1,e1'⟩:=wrapn (n:=D*86400) (by omega)
 have ⟨e2,e2'⟩:=wrapn (n:=D*86400+S) (by omega)
 clear h1 h2 h3 h4
 go_enter Tryz.func118,Tryz.ntmps118
 go_upto_region 1 with fail
 generalize w.alloc (.cells #[.int .i64 D,.int .i64 S] 36)=W0 at HB LB ⊢
 have z0:=LB.out.cell (i:=0) rfl;have z1:=LB.out.cell (i:=1) rfl
 go_wp2_with fail
 go_ret
 exact ⟨rfl,HB.out⟩
def RIn (H:Int→Option Int) (w:World) (off:Int) (A:Option Addr) (n:Nat) (v0 d:Int):Prop:= ∃(rs:List Zn.Rule) (ts:Zn.L),Zn.trans off rs=(ts,0)∧ZIn w A n rs∧Rc.Rot H off ts v0 d
theorem RIn.below {H:Int→Option Int} {w w':World} {off:Int} {A:Option Addr} {n:Nat} {v0 d:Int} (h:RIn H w off A n v0 d) (hb:Below w.heap.size w w'):RIn H w' off A n v0 d:=by
 obtain ⟨rs,ts,h1,h2,h3⟩:=h
 exact ⟨rs,ts,h1,h2.below hb,h3⟩
theorem RIn.bd {H:Int→Option Int} {w:World} {off:Int} {A:Option Addr} {n:Nat} {v0 d:Int} (h:RIn H w off A n v0 d):3600≤d∧d≤241920000∧1≤v0∧v0≤8640086399∧ -64800≤off∧off≤64800:=by
 obtain ⟨rs,ts,h1,h2,h3⟩:=h
 have :=Zn.okO_iff.1 h3.vz.ok
 exact ⟨h3.d1,h3.d2,h3.v2,h3.v3,this.1,this.2⟩
set_option maxHeartbeats 4000000 in
theorem loc_is (s:ByteArray) (off:Int) (A:Option Addr) (n c:Nat) (v0 d k:Int) (w:World) (hd:3600≤d) (hd2:d≤241920000) (h1:1≤v0) (h2:v0≤8640086399) (hk:0≤k):Calls Tryz.prog 120 #[.agg #[.string s,.int .i64 off,.slice A n c,.int .i64 v0,.int .i64 d],.int .i64 k] w fun e w'=>e= .returned (.int .i64 (v0+d*min k 8589934592))∧Below w.heap.size w w':=by
 have HB:=Lib.hid ((Below.refl w.heap.size w).alloc (Nat.le_refl _) (.cells #[.string s,.int .i64 off,.slice A n c,.int .i64 v0,.int .i64 d] 127))
 have LB:=Lib.hid (BlkAt.new w #[.string s,.int .i64 off,.slice A n c,.int .i64 v0,.int .i64 d] 127)
 obtain ⟨m,hm⟩: ∃m,min k 8589934592=m:=⟨_,rfl⟩
 have hb:0≤d*m∧d*m≤241920000*8589934592:=⟨Int.mul_nonneg (by omega) (by omega),Int.mul_le_mul hd2 (by omega) (by omega) (by omega)⟩
 have ⟨e1,e1'⟩:=wrapn (n:=d*m) (by omega)
 have ⟨e2,e2'⟩:=wrapn (n:=v0+d*m) (by omega)
 rw [hm]
 clear hd hd2 h1 h2 hk hb
 go_enter Tryz.func120,Tryz.ntmps120
 go_upto_region 1 with fail
 generalize w.alloc (.cells #[.string s,.int .i64 off,.slice A n c,.int .i64 v0,.int .i64 d] 127)=W0 at HB LB ⊢
 have z0:=LB.out.cell (i:=0) rfl;have z1:=LB.out.cell (i:=1) rfl;have z2:=LB.out.cell (i:=2) rfl;have z3:=LB.out.cell (i:=3) rfl;have z4:=LB.out.cell (i:=4) rfl
 go_wp2_with fail
 go_ret
 exact ⟨rfl,HB.out⟩
def oV (h:Option Int):Int:=match h with|none=>0|some a=>a
def oE (h:Option Int):Int:=match h with|none=>10|some _=>0
theorem fstV_loc {off:Int} {ts:Zn.L} {v:Int} (hz:Zn.Vz off ts) (hv:0≤v) {h:Option Int} (e:Zn.fst v (Zn.strs 0 off ts)=h):fstV off ts 0 (v/86400) (v%86400)=oV h∧fstE off ts 0 (v/86400) (v%86400)=oE h:=by
 have hok:Zn.okD (v%86400)=true:=Zn.okD_iff.2 ⟨by omega,by omega⟩
 unfold fstV fstE
 rw [Rc.fst_loc hz hv,e]
 simp [hok]
 cases h<;>exact ⟨rfl,rfl⟩
set_option maxHeartbeats 4000000 in
theorem han_of {H:Int→Option Int} (s:ByteArray) {off:Int} {A:Option Addr} {n:Nat} (c:Nat) {v0 d:Int} (k:Int) (w:World) (hr:RIn H w off A n v0 d) (hk:0≤k):Calls Tryz.prog 77 #[.agg #[.string s,.int .i64 off,.slice A n c,.int .i64 v0,.int .i64 d],.int .i64 k] w (GivesF (oV (H k)) (oE (H k)) w):=by
 have HB:=Lib.hid ((Below.refl w.heap.size w).alloc (Nat.le_refl _) (.cells #[.string s,.int .i64 off,.slice A n c,.int .i64 v0,.int .i64 d] 127))
 have LB:=Lib.hid (BlkAt.new w #[.string s,.int .i64 off,.slice A n c,.int .i64 v0,.int .i64 d] 127)
 obtain ⟨b1,b2,b3,b4,b5,b6⟩:=hr.bd
 have HL:=Lib.hid (fun W=>loc_is s off A n c v0 d k W b1 b2 b3 b4 hk)
 have hpr:0≤d*min k 8589934592∧d*min k 8589934592≤241920000*8589934592:=⟨Int.mul_nonneg (by omega) (by omega),Int.mul_le_mul b2 (by omega) (by omega) (by omega)⟩
 obtain ⟨rs,ts,hZ,hz,hR⟩:=hr
 have hH:=hR.any hk
 obtain ⟨v,hv⟩: ∃v,v0+d*min k 8589934592=v:=⟨_,rfl⟩
 rw [hv] at HL hH
 have hv0:0≤v:=by omega
 have hv1:v≤3000000000000000000:=by omega
 have HF:=Lib.hid (show ∀W,Below w.heap.size w W→Calls Tryz.prog 119 #[.agg #[.string s,.int .i64 off,.slice A n c],.agg #[.int .i64 (v/86400),.int .i64 (v%86400)]] W (GivesF (oV (H k)) (oE (H k)) W) from fun W hb=>by
  have :=first_is hZ s A n c (v/86400) (v%86400) W (hz.below hb) ⟨by omega,by omega⟩ ⟨by omega,by omega⟩
  obtain ⟨e1,e2⟩:=fstV_loc hR.vz hv0 hH.symm
  rwa [e1,e2] at this)
 generalize H k=h at HF ⊢
 obtain ⟨q,hq⟩: ∃q,v/86400=q:=⟨_,rfl⟩
 obtain ⟨r,hrr⟩: ∃r,v%86400=r:=⟨_,rfl⟩
 have t1:v.tdiv 86400=q:=by rw [Int.tdiv_eq_ediv_of_nonneg hv0,hq]
 have t2:v.tmod 86400=r:=by rw [Int.tmod_eq_emod_of_nonneg hv0,hrr]
 have ⟨e1,e1'⟩:=wrapn (n:=q) (by omega)
 have ⟨e2,e2'⟩:=wrapn (n:=r) (by omega)
 rw [hq,hrr] at HF
 have hv0':¬v<0:=by omega
 clear hZ hz hR hpr hv hH b1 b2 b3 b4 b5 b6 hk hv1
 go_enter Tryz.func77,Tryz.ntmps77
 go_upto_region 1 with fail
 generalize w.alloc (.cells #[.string s,.int .i64 off,.slice A n c,.int .i64 v0,.int .i64 d] 127)=W0 at HB LB ⊢
 have z0:=LB.out.cell (i:=0) rfl;have z1:=LB.out.cell (i:=1) rfl;have z2:=LB.out.cell (i:=2) rfl;have z3:=LB.out.cell (i:=3) rfl;have z4:=LB.out.cell (i:=4) rfl
 go_upto_region 2 with (go_at_call 120;refine (HL.out _).mono ?_;rintro e w5 ⟨rfl,hb5⟩;have HB5:=Lib.hid (bstep HB.out hb5);have LB5:=Lib.hid (LB.out.after hb5);clear hb5 z0 z1 z2 z3 z4)
 have z0:=LB5.out.cell (i:=0) rfl;have z1:=LB5.out.cell (i:=1) rfl;have z2:=LB5.out.cell (i:=2) rfl;have z3:=LB5.out.cell (i:=3) rfl;have z4:=LB5.out.cell (i:=4) rfl
 go_wp2_with (go_at_call 119;refine (HF.out _ HB5.out).mono ?_;rintro e w6 ⟨rfl,hb6⟩;have HB6:=Lib.hid (bstep HB5.out hb6);clear hb6)
 go_ret2
 exact ⟨rfl,HB6.out⟩
set_option maxHeartbeats 4000000 in
theorem rea_of {H:Int→Option Int} (s:ByteArray) {off:Int} {A:Option Addr} {n:Nat} (c:Nat) {v0 d:Int} (k t:Int) (w:World) (hr:RIn H w off A n v0 d) (hk:0≤k):Calls Tryz.prog 138 #[.agg #[.string s,.int .i64 off,.slice A n c,.int .i64 v0,.int .i64 d],.int .i64 k,.int .i64 t] w fun e w'=> ∃b:Bool,e= .returned (.bool b)∧(b=true→ ∃a,H k=some a∧a≤t)∧(b=false→ ∀a,H k=some a→t<a)∧Below w.heap.size w w':=by
 have HB:=Lib.hid ((Below.refl w.heap.size w).alloc (Nat.le_refl _) (.cells #[.string s,.int .i64 off,.slice A n c,.int .i64 v0,.int .i64 d] 127))
 have LB:=Lib.hid (BlkAt.new w #[.string s,.int .i64 off,.slice A n c,.int .i64 v0,.int .i64 d] 127)
 have HH:=Lib.hid (fun W (hb:Below w.heap.size w W)=>han_of s c k W (hr.below hb) hk)
 cases hh:H k with
 |none=>
  rw [hh] at HH
  have HE:=Lib.hid (show oE none=10 from rfl)
  clear hr
  go_enter Tryz.func138,Tryz.ntmps138
  go_upto_region 1 with fail
  generalize w.alloc (.cells #[.string s,.int .i64 off,.slice A n c,.int .i64 v0,.int .i64 d] 127)=W0 at HB LB ⊢
  have z0:=LB.out.cell (i:=0) rfl;have z1:=LB.out.cell (i:=1) rfl;have z2:=LB.out.cell (i:=2) rfl;have z3:=LB.out.cell (i:=3) rfl;have z4:=LB.out.cell (i:=4) rfl
  go_wp2_with (go_at_call 77;refine (HH.out _ HB.out).mono ?_;rintro e w5 ⟨rfl,hb5⟩;rw [HE.out];have HB5:=Lib.hid (bstep HB.out hb5);clear hb5)
  go_ret
  exact ⟨false,rfl,fun h=>(by cases h),fun _ a ea=>(by cases ea),HB5.out⟩
 |some a=>
  rw [hh] at HH
  have HE:=Lib.hid (show oE (some a)=0 from rfl)
  have HV:=Lib.hid (show oV (some a)=a from rfl)
  clear hr
  by_cases ht:a≤t
  ·go_enter Tryz.func138,Tryz.ntmps138
   go_upto_region 1 with fail
   generalize w.alloc (.cells #[.string s,.int .i64 off,.slice A n c,.int .i64 v0,.int .i64 d] 127)=W0 at HB LB ⊢
   have z0:=LB.out.cell (i:=0) rfl;have z1:=LB.out.cell (i:=1) rfl;have z2:=LB.out.cell (i:=2) rfl;have z3:=LB.out.cell (i:=3) rfl;have z4:=LB.out.cell (i:=4) rfl
   go_wp2_with (go_at_call 77;refine (HH.out _ HB.out).mono ?_;rintro e w5 ⟨rfl,hb5⟩;rw [HE.out,HV.out];have HB5:=Lib.hid (bstep HB.out hb5);clear hb5)
   go_ret
   exact ⟨true,ret_bool (by simp [ht]),fun _=>⟨a,rfl,ht⟩,fun h=>(by cases h),HB5.out⟩
  ·go_enter Tryz.func138,Tryz.ntmps138
   go_upto_region 1 with fail
   generalize w.alloc (.cells #[.string s,.int .i64 off,.slice A n c,.int .i64 v0,.int .i64 d] 127)=W0 at HB LB ⊢
   have z0:=LB.out.cell (i:=0) rfl;have z1:=LB.out.cell (i:=1) rfl;have z2:=LB.out.cell (i:=2) rfl;have z3:=LB.out.cell (i:=3) rfl;have z4:=LB.out.cell (i:=4) rfl
   go_wp2_with (go_at_call 77;refine (HH.out _ HB.out).mono ?_;rintro e w5 ⟨rfl,hb5⟩;rw [HE.out,HV.out];have HB5:=Lib.hid (bstep HB.out hb5);clear hb5)
   go_ret
   exact ⟨false,ret_bool (by simp [ht]),fun h=>(by cases h),fun _ b eb=>(by cases eb;omega),HB5.out⟩
open Go.RowKit
def NRot (H:Int→Option Int) (w:World) (e:Ending) (w':World):Prop:= ∃(s:ByteArray) (off:Int) (A:Option Addr) (n c:Nat) (v0 d:Int),e= .returned (.agg #[.string s,.int .i64 off,.slice A n c,.int .i64 v0,.int .i64 d])∧RIn H w' off A n v0 d∧Below w.heap.size w w'
structure RK (w:World) (bz bl br:Nat) (zv lv:Array Value) (W:World):Prop where
 z:BlkAt W bz zv 71
 l:BlkAt W bl lv 39
 r:BlkAt W br #[.string ⟨#[]⟩,.int .i64 0,.slice none 0 0,.int .i64 0,.int .i64 0] 127
 b:Below w.heap.size w W
 h:w.heap.size≤br
theorem RK.below {w:World} {bz bl br:Nat} {zv lv:Array Value} {W W':World} (h:RK w bz bl br zv lv W) (hb:Below W.heap.size W W'):RK w bz bl br zv lv W':=⟨h.z.after hb,h.l.after hb,h.r.after hb,bstep h.b hb,h.h⟩
theorem set5 (vs:Array Value) (h:vs.size=5) (x0 x1 x2 x3 x4:Value):((((vs.setIfInBounds 0 x0).setIfInBounds 1 x1).setIfInBounds 2 x2).setIfInBounds 3 x3).setIfInBounds 4 x4=#[x0,x1,x2,x3,x4]:=by
 refine Array.ext (by simp [h]) fun i h1 h2=> ?_
 have :i<5:=by simpa using h2
 have :i=0∨i=1∨i=2∨i=3∨i=4:=by omega
 rcases this with rfl|rfl|rfl|rfl|rfl<;>simp [Array.getElem_setIfInBounds,h]
theorem RK.set {w:World} {bz bl br:Nat} {zv lv:Array Value} {W:World} (h:RK w bz bl br zv lv W) (x0 x1 x2 x3 x4:Value):BlkAt (((((W.setCell ⟨br,0,none⟩ x0).setCell ⟨br,1,none⟩ x1).setCell ⟨br,2,none⟩ x2).setCell ⟨br,3,none⟩ x3).setCell ⟨br,4,none⟩ x4) br #[x0,x1,x2,x3,x4] 127∧Below w.heap.size w (((((W.setCell ⟨br,0,none⟩ x0).setCell ⟨br,1,none⟩ x1).setCell ⟨br,2,none⟩ x2).setCell ⟨br,3,none⟩ x3).setCell ⟨br,4,none⟩ x4):=by
 have :=((((h.r.set_ 0 x0).set_ 1 x1).set_ 2 x2).set_ 3 x3).set_ 4 x4
 rw [set5 _ rfl] at this
 have hh:=h.h
 exact ⟨this,((((h.b.setCell (p:=⟨br,0,none⟩) hh x0).setCell (p:=⟨br,1,none⟩) hh x1).setCell (p:=⟨br,2,none⟩) hh x2).setCell (p:=⟨br,3,none⟩) hh x3).setCell (p:=⟨br,4,none⟩) hh x4⟩
set_option maxHeartbeats 8000000 in
theorem new_is {off:Int} {rs:List Zn.Rule} {ts:Zn.L} (hZ:Zn.trans off rs=(ts,0)) {u ee D S:Int} (hr:Rc.Rt u ee D S) (s:ByteArray) (A:Option Addr) (n c:Nat) (nm:ByteArray) (lz:Int) (m1:Option Addr) (m2 m3:Nat) (q1:Option Addr) (q2 q3:Nat) (lc lm:Int) (w:World) (hz:ZIn w A n rs):
  Calls Tryz.prog 76 #[.agg #[.string s,.int .i64 off,.slice A n c],.agg #[.string nm,.int .i64 lz,.int .i64 D,.int .i64 S,.int .i64 u,.int .i64 ee,.slice m1 m2 m3,.slice q1 q2 q3,.int .i64 lc,.int .i64 lm]] w (NRot (Rc.hV off ts u ee D S) w):=by
 have hv:=Zn.trans_vz hZ
 have ho:=Zn.okO_iff.1 hv.ok
 have e1:=hr.n1;have e4:=hr.n4;have d1:=hr.d1;have d2:=hr.dm;have u0:=hr.u0;have u2:=hr.u2;have s0:=hr.s0;have s8:=hr.s8
 have HU:=Lib.hid (fun W=>uni_is u W)
 have hus:3600≤uS u∧uS u≤604800:=by
  have :u=0∨u=1∨u=2:=by omega
  rcases this with rfl|rfl|rfl<;>decide
 have hd:uS u*1≤ee*uS u∧ee*uS u≤400*604800:=⟨by have :=Int.mul_le_mul_of_nonneg_right e1 (show 0≤uS u by omega);omega,Int.mul_le_mul e4 hus.2 (by omega) (by omega)⟩
 obtain ⟨us,hus2⟩: ∃x,uS u=x:=⟨_,rfl⟩
 obtain ⟨d,hdd⟩: ∃x,ee*uS u=x:=⟨_,rfl⟩
 rw [hdd] at hd
 have hdu:ee*us=d:=by rw [←hus2];exact hdd
 rw [hus2] at HU
 have ⟨g1,g1'⟩:=wrapn (n:=d) (by omega)
 have K0:=Lib.hid (show RK w w.heap.size (w.heap.size+1) (w.heap.size+1+1) #[.string s,.int .i64 off,.slice A n c] #[.string nm,.int .i64 lz,.int .i64 D,.int .i64 S,.int .i64 u,.int .i64 ee,.slice m1 m2 m3,.slice q1 q2 q3,.int .i64 lc,.int .i64 lm] (((w.alloc (.cells #[.string s,.int .i64 off,.slice A n c] 71)).alloc (.cells #[.string nm,.int .i64 lz,.int .i64 D,.int .i64 S,.int .i64 u,.int .i64 ee,.slice m1 m2 m3,.slice q1 q2 q3,.int .i64 lc,.int .i64 lm] 39)).alloc (.cells #[.string ⟨#[]⟩,.int .i64 0,.slice none 0 0,.int .i64 0,.int .i64 0] 127)) from
  ⟨BlkAt.alloc (BlkAt.alloc (BlkAt.new w _ _) _) _,BlkAt.alloc (blk_new (by simp)) _,blk_new (by simp),(((Below.refl w.heap.size w).alloc (Nat.le_refl _) _).alloc (by simp) _).alloc (by simp;omega) _,by omega⟩)
 by_cases hu:u=0
 ·subst hu
  have hok:Zn.okD S=true:=Zn.okD_iff.2 ⟨s0,s8⟩
  obtain ⟨F,hF⟩: ∃F,Zn.fst (Zn.locS D S) (Zn.strs 0 off ts)=F:=⟨_,rfl⟩
  have hfv:fstV off ts 0 D S=oV F∧fstE off ts 0 D S=oE F:=by
   unfold fstV fstE
   rw [hF]
   simp [hok]
   cases F<;>exact ⟨rfl,rfl⟩
  have HF:=Lib.hid (show ∀W,Below w.heap.size w W→Calls Tryz.prog 119 #[.agg #[.string s,.int .i64 off,.slice A n c],.agg #[.int .i64 D,.int .i64 S]] W (GivesF (oV F) (oE F) W) from fun W hb=>by
   have :=first_is hZ s A n c D S W (hz.below hb) ⟨by omega,by omega⟩ ⟨by omega,by omega⟩
   rwa [hfv.1,hfv.2] at this)
  have HR:=Lib.hid (show ∀W,Below w.heap.size w W→RIn (Rc.hV off ts 0 ee D S) W 0 none 0 (Rc.hB F) d from fun W hb=>⟨[],[],rfl,⟨hz.civ.below hb,ListAt.nil_,rfl,by simp,by simp⟩,by
   rw [←hF]
   exact Rc.rot_hours hv hr d (by rw [←hdd];rfl)⟩)
  generalize Rc.hV off ts 0 ee D S=H at HR ⊢
  clear hZ hz hr hv ho e1 e4 d1 d2 u0 u2 s0 s8 hus hd hus2 hdd hfv hok hF
  go_enter Tryz.func76,Tryz.ntmps76
  go_upto_region 1 with fail
  generalize ((w.alloc (.cells #[.string s,.int .i64 off,.slice A n c] 71)).alloc (.cells #[.string nm,.int .i64 lz,.int .i64 D,.int .i64 S,.int .i64 0,.int .i64 ee,.slice m1 m2 m3,.slice q1 q2 q3,.int .i64 lc,.int .i64 lm] 39)).alloc (.cells #[.string ⟨#[]⟩,.int .i64 0,.slice none 0 0,.int .i64 0,.int .i64 0] 127)=W0 at K0 ⊢
  obtain ⟨bz,hbz⟩: ∃b,w.heap.size=b:=⟨_,rfl⟩
  rw [hbz] at K0 ⊢
  obtain ⟨bl,hbl⟩: ∃b,bz+1=b:=⟨_,rfl⟩
  obtain ⟨br,hbr⟩: ∃b,bl+1=b:=⟨_,rfl⟩
  rw [hbl] at K0
  rw [hbr] at K0
  rw [hbl]
  rw [hbr]
  have l4:=K0.out.l.cell (i:=4) rfl;have l5:=K0.out.l.cell (i:=5) rfl
  go_wp2_with fail
  go_quiet ((go_at_call 117;exact qsame (HU.out _)))
  have K1:=Lib.hid (K0.out.below (below_drewN (Below.refl _ _) nq))
  generalize W0.drewN nq=W1 at K1 ⊢
  clear l4 l5 K0
  have z0:=K1.out.z.cell (i:=0) rfl;have z1:=K1.out.z.cell (i:=1) rfl;have z2:=K1.out.z.cell (i:=2) rfl;have l2:=K1.out.l.cell (i:=2) rfl;have l3:=K1.out.l.cell (i:=3) rfl;have l4:=K1.out.l.cell (i:=4) rfl;have l5:=K1.out.l.cell (i:=5) rfl
  cases F with
  |none=>
   have HE:=Lib.hid (show oE none=10 from rfl)
   have HX:=Lib.hid (show oV none=0 from rfl)
   have HR:=Lib.hid (show ∀W,Below w.heap.size w W→RIn H W 0 none 0 8589934593 d from HR.out)
   go_upto_region 7 with (go_at_call 119;refine (HF.out _ K1.out.b).mono ?_;rintro e w6 ⟨rfl,hb6⟩;rw [HE.out,HX.out];have K6:=Lib.hid (K1.out.below hb6);clear hb6 z0 z1 z2 l2 l3 l4 l5 K1)
   have r0:=K6.out.r.cell (i:=0) rfl;have f0:=K6.out.r.free 0;have r1:=K6.out.r.cell (i:=1) rfl;have f1:=K6.out.r.free 1;have r2:=K6.out.r.cell (i:=2) rfl;have f2:=K6.out.r.free 2;have r3:=K6.out.r.cell (i:=3) rfl;have f3:=K6.out.r.free 3;have r4:=K6.out.r.cell (i:=4) rfl;have f4:=K6.out.r.free 4
   go_wp2_with fail
   have HSET:=Lib.hid (K6.out.set (.string ⟨#[]⟩) (.int .i64 0) (.slice none 0 0) (.int .i64 8589934593) (.int .i64 d))
   generalize ((((w6.setCell ⟨br,0,none⟩ (.string ⟨#[]⟩)).setCell ⟨br,1,none⟩ (.int .i64 0)).setCell ⟨br,2,none⟩ (.slice none 0 0)).setCell ⟨br,3,none⟩ (.int .i64 8589934593)).setCell ⟨br,4,none⟩ (.int .i64 d)=WE at HSET ⊢
   clear r0 r1 r2 r3 r4 f0 f1 f2 f3 f4
   have r0:=HSET.out.1.cell (i:=0) rfl;have f0:=HSET.out.1.free 0;have r1:=HSET.out.1.cell (i:=1) rfl;have f1:=HSET.out.1.free 1;have r2:=HSET.out.1.cell (i:=2) rfl;have f2:=HSET.out.1.free 2;have r3:=HSET.out.1.cell (i:=3) rfl;have f3:=HSET.out.1.free 3;have r4:=HSET.out.1.cell (i:=4) rfl;have f4:=HSET.out.1.free 4
   have HBE:=Lib.hid HSET.out.2
   go_wp2_with fail
   refine bodyPost_ret (v:= .agg #[.string ⟨#[]⟩,.int .i64 0,.slice none 0 0,.int .i64 8589934593,.int .i64 d]) (by simp [results,Tryz.results76,go_sem,r0,f0,r1,f1,r2,f2,r3,f3,r4,f4]) rfl ?_
   exact ⟨⟨#[]⟩,0,none,0,0,8589934593,d,rfl,HR.out _ HBE.out,HBE.out⟩
  |some x=>
   have HE:=Lib.hid (show oE (some x)=0 from rfl)
   have HX:=Lib.hid (show oV (some x)=x from rfl)
   have HR:=Lib.hid (show ∀W,Below w.heap.size w W→RIn H W 0 none 0 x d from HR.out)
   go_upto_region 7 with (go_at_call 119;refine (HF.out _ K1.out.b).mono ?_;rintro e w6 ⟨rfl,hb6⟩;rw [HE.out,HX.out];have K6:=Lib.hid (K1.out.below hb6);clear hb6 z0 z1 z2 l2 l3 l4 l5 K1)
   have r0:=K6.out.r.cell (i:=0) rfl;have f0:=K6.out.r.free 0;have r1:=K6.out.r.cell (i:=1) rfl;have f1:=K6.out.r.free 1;have r2:=K6.out.r.cell (i:=2) rfl;have f2:=K6.out.r.free 2;have r3:=K6.out.r.cell (i:=3) rfl;have f3:=K6.out.r.free 3;have r4:=K6.out.r.cell (i:=4) rfl;have f4:=K6.out.r.free 4
   go_wp2_with fail
   have HSET:=Lib.hid (K6.out.set (.string ⟨#[]⟩) (.int .i64 0) (.slice none 0 0) (.int .i64 x) (.int .i64 d))
   generalize ((((w6.setCell ⟨br,0,none⟩ (.string ⟨#[]⟩)).setCell ⟨br,1,none⟩ (.int .i64 0)).setCell ⟨br,2,none⟩ (.slice none 0 0)).setCell ⟨br,3,none⟩ (.int .i64 x)).setCell ⟨br,4,none⟩ (.int .i64 d)=WE at HSET ⊢
   clear r0 r1 r2 r3 r4 f0 f1 f2 f3 f4
   have r0:=HSET.out.1.cell (i:=0) rfl;have f0:=HSET.out.1.free 0;have r1:=HSET.out.1.cell (i:=1) rfl;have f1:=HSET.out.1.free 1;have r2:=HSET.out.1.cell (i:=2) rfl;have f2:=HSET.out.1.free 2;have r3:=HSET.out.1.cell (i:=3) rfl;have f3:=HSET.out.1.free 3;have r4:=HSET.out.1.cell (i:=4) rfl;have f4:=HSET.out.1.free 4
   have HBE:=Lib.hid HSET.out.2
   go_wp2_with fail
   refine bodyPost_ret (v:= .agg #[.string ⟨#[]⟩,.int .i64 0,.slice none 0 0,.int .i64 x,.int .i64 d]) (by simp [results,Tryz.results76,go_sem,r0,f0,r1,f1,r2,f2,r3,f3,r4,f4]) rfl ?_
   exact ⟨⟨#[]⟩,0,none,0,0,x,d,rfl,HR.out _ HBE.out,HBE.out⟩
 ·have fu:(u==0)=false:=by simpa using hu
  have fu2:(u !=0)=true:=by simpa using hu
  have HR:=Lib.hid (show ∀W,Below w.heap.size w W→RIn (Rc.hV off ts u ee D S) W off A n (D*86400+S) d from fun W hb=>⟨rs,ts,hZ,hz.below hb,Rc.rot_days hv hr hu d (by
   rw [←hdd]
   have :u=1∨u=2:=by omega
   rcases this with rfl|rfl
   ·show ee*86400=ee*86400;rfl
   ·show ee*604800=ee*7*86400;omega)⟩)
  have HS:=Lib.hid (fun W=>sec_of D S W (by omega) (by omega) s0 s8)
  obtain ⟨v0,hv0⟩: ∃x,D*86400+S=x:=⟨_,rfl⟩
  rw [hv0] at HR HS
  generalize Rc.hV off ts u ee D S=H at HR ⊢
  clear hZ hz hr hv ho e1 e4 d1 d2 u0 u2 s0 s8 hus hd hus2 hdd hv0
  go_enter Tryz.func76,Tryz.ntmps76
  go_upto_region 1 with fail
  generalize ((w.alloc (.cells #[.string s,.int .i64 off,.slice A n c] 71)).alloc (.cells #[.string nm,.int .i64 lz,.int .i64 D,.int .i64 S,.int .i64 u,.int .i64 ee,.slice m1 m2 m3,.slice q1 q2 q3,.int .i64 lc,.int .i64 lm] 39)).alloc (.cells #[.string ⟨#[]⟩,.int .i64 0,.slice none 0 0,.int .i64 0,.int .i64 0] 127)=W0 at K0 ⊢
  obtain ⟨bz,hbz⟩: ∃b,w.heap.size=b:=⟨_,rfl⟩
  rw [hbz] at K0 ⊢
  obtain ⟨bl,hbl⟩: ∃b,bz+1=b:=⟨_,rfl⟩
  obtain ⟨br,hbr⟩: ∃b,bl+1=b:=⟨_,rfl⟩
  rw [hbl] at K0
  rw [hbr] at K0
  rw [hbl]
  rw [hbr]
  have l4:=K0.out.l.cell (i:=4) rfl;have l5:=K0.out.l.cell (i:=5) rfl
  go_wp2_with fail
  go_quiet ((go_at_call 117;exact qsame (HU.out _)))
  have K1:=Lib.hid (K0.out.below (below_drewN (Below.refl _ _) nq))
  generalize W0.drewN nq=W1 at K1 ⊢
  clear l4 l5 K0
  have z0:=K1.out.z.cell (i:=0) rfl;have z1:=K1.out.z.cell (i:=1) rfl;have z2:=K1.out.z.cell (i:=2) rfl;have l2:=K1.out.l.cell (i:=2) rfl;have l3:=K1.out.l.cell (i:=3) rfl;have l4:=K1.out.l.cell (i:=4) rfl;have l5:=K1.out.l.cell (i:=5) rfl
  go_upto_region 3 with fail
  clear z0 z1 z2 l2 l3 l4 l5
  refine AnyZ.start 6 (A:=fun W=>Hid (RK w bz bl br #[.string s,.int .i64 off,.slice A n c] #[.string nm,.int .i64 lz,.int .i64 D,.int .i64 S,.int .i64 u,.int .i64 ee,.slice m1 m2 m3,.slice q1 q2 q3,.int .i64 lc,.int .i64 lm] W)) (S:=fun W=>W.cell? ⟨bz,0,none⟩=some (.string s)∧W.cell? ⟨bz,1,none⟩=some (.int .i64 off)∧W.cell? ⟨bz,2,none⟩=some (.slice A n c)∧W.cell? ⟨bl,2,none⟩=some (.int .i64 D)∧W.cell? ⟨bl,3,none⟩=some (.int .i64 S)) (by kernel_rfl) (Lib.hid (K1.out.below (Below.refl _ _).drew)) ⟨(K1.out.below (Below.refl _ _).drew).z.cell (i:=0) rfl,(K1.out.below (Below.refl _ _).drew).z.cell (i:=1) rfl,(K1.out.below (Below.refl _ _).drew).z.cell (i:=2) rfl,(K1.out.below (Below.refl _ _).drew).l.cell (i:=2) rfl,(K1.out.below (Below.refl _ _).drew).l.cell (i:=3) rfl⟩ (fun Wa hA hH=> ?_)
  have HK:=hA
  clear hA
  refine AnyZ.take [6] (i:=0) (oi:=⟨some 17,.load 71 (.tmp 2),71,"recur.go:93",#[],none⟩) (v:= ?_) rfl (by kernel_rfl) (by kernel_rfl) (by kernel_rfl) (by kernel_rfl) (fun _ _ _ h=>h) (Or.inl ⟨by rfl, ?_⟩) hH ?_
  rotate_left
  focus (intro w hSw;(try dsimp only at hSw);go_simp;(try with_reducible rfl);done)
  try simp only [Act.put,List.setIfInBounds_toArray,List.set_cons_zero,List.set_cons_succ]
  refine AnyZ.take [6] (i:=1) (oi:=⟨some 18,.fieldAddr 39 (.tmp 3) 2,0,"recur.go:93",#[],none⟩) (v:= ?_) rfl (by kernel_rfl) (by kernel_rfl) (by kernel_rfl) (by kernel_rfl) (fun _ _ _ h=>h) (Or.inl ⟨by rfl, ?_⟩) hH ?_
  rotate_left
  focus (intro w hSw;(try dsimp only at hSw);go_simp;(try with_reducible rfl);done)
  try simp only [Act.put,List.setIfInBounds_toArray,List.set_cons_zero,List.set_cons_succ]
  refine AnyZ.take [6] (i:=2) (oi:=⟨some 19,.load 36 (.tmp 18),36,"recur.go:93",#[⟨1,.data⟩],none⟩) (v:= ?_) rfl (by kernel_rfl) (by kernel_rfl) (by kernel_rfl) (by kernel_rfl) (fun _ _ _ h=>h) (Or.inl ⟨by rfl, ?_⟩) hH ?_
  rotate_left
  focus (intro w hSw;(try dsimp only at hSw);go_simp;(try with_reducible rfl);done)
  try simp only [Act.put,List.setIfInBounds_toArray,List.set_cons_zero,List.set_cons_succ]
  refine AnyZ.take [6] (i:=4) (oi:=⟨some 21,.move (.tmp 5),3,"recur.go:93",#[],none⟩) (v:= ?_) rfl (by kernel_rfl) (by kernel_rfl) (by kernel_rfl) (by kernel_rfl) (fun _ _ _ h=>h) (Or.inl ⟨by rfl, ?_⟩) hH ?_
  rotate_left
  focus (intro w hSw;(try dsimp only at hSw);go_simp;(try with_reducible rfl);done)
  try simp only [Act.put,List.setIfInBounds_toArray,List.set_cons_zero,List.set_cons_succ]
  refine AnyZ.ready (rs:=[3]) (by kernel_rfl) (by simp) ?_
  refine AllZ.cons (o:=⟨some 20,.call {callee:= .value (.func 118),args:=#[.tmp 19],argTypes:=#[36]},3,"recur.go:93",#[⟨2,.data⟩],none⟩) rfl (fun K hK=> ?_) AllZ.nil
  go_simp
  (go_at_call 118;(with_reducible refine (HS.out _).mono ?_);rintro e w' ⟨rfl,hb⟩)
  go_wp2_with fail
  refine AnyZ.go hK (A:=fun W=>Hid (RK w bz bl br #[.string s,.int .i64 off,.slice A n c] #[.string nm,.int .i64 lz,.int .i64 D,.int .i64 S,.int .i64 u,.int .i64 ee,.slice m1 m2 m3,.slice q1 q2 q3,.int .i64 lc,.int .i64 lm] W)) (S':=fun W=>W.cell? ⟨bz,0,none⟩=some (.string s)∧W.cell? ⟨bz,1,none⟩=some (.int .i64 off)∧W.cell? ⟨bz,2,none⟩=some (.slice A n c)∧W.cell? ⟨bl,2,none⟩=some (.int .i64 D)∧W.cell? ⟨bl,3,none⟩=some (.int .i64 S)) (fun _ h=>h) (Lib.hid ((HK.out).below hb)) ⟨((HK.out).below hb).z.cell (i:=0) rfl,((HK.out).below hb).z.cell (i:=1) rfl,((HK.out).below hb).z.cell (i:=2) rfl,((HK.out).below hb).l.cell (i:=2) rfl,((HK.out).below hb).l.cell (i:=3) rfl⟩ (fun W1 hA hH2=> ?_)
  clear hK K hH HK
  have HK:=hA
  clear hA
  have hH:=hH2
  clear hH2
  clear hb
  try simp only [Act.put,List.setIfInBounds_toArray,List.set_cons_zero,List.set_cons_succ]
  refine AnyZ.take [6] (i:=5) (oi:=⟨some 22,.build 127 #[(0,.tmp 17),(1,.tmp 20),(2,.tmp 21)],127,"recur.go:93",#[⟨0,.data⟩,⟨3,.data⟩,⟨4,.data⟩],none⟩) (v:= ?_) rfl (by kernel_rfl) (by kernel_rfl) (by kernel_rfl) (by kernel_rfl) (fun _ _ _ h=>h) (Or.inl ⟨by rfl, ?_⟩) hH ?_
  rotate_left
  focus (intro w hSw;(try dsimp only at hSw);go_simp;(try with_reducible rfl);done)
  try simp only [Act.put,List.setIfInBounds_toArray,List.set_cons_zero,List.set_cons_succ]
  refine AnyZ.last (o:=⟨none,.store 127 (.tmp 4) (.tmp 22),0,"recur.go:93",#[⟨5,.data⟩,⟨3,.chain⟩,⟨0,.phase⟩,⟨1,.phase⟩,⟨2,.phase⟩,⟨3,.phase⟩,⟨4,.phase⟩,⟨5,.phase⟩],none⟩) (by kernel_rfl) rfl (fun K hK=> ?_)
  have r0:=HK.out.r.cell (i:=0) rfl;have f0:=HK.out.r.free 0;have r1:=HK.out.r.cell (i:=1) rfl;have f1:=HK.out.r.free 1;have r2:=HK.out.r.cell (i:=2) rfl;have f2:=HK.out.r.free 2;have r3:=HK.out.r.cell (i:=3) rfl;have f3:=HK.out.r.free 3;have r4:=HK.out.r.cell (i:=4) rfl;have f4:=HK.out.r.free 4
  go_simp
  refine hK.out _ _ ?_
  clear hK K hH
  try simp only [Act.put,List.setIfInBounds_toArray,List.set_cons_zero,List.set_cons_succ]
  refine AnyZ.done (by kernel_rfl) ?_ _
  have HSET:=Lib.hid (HK.out.set (.string s) (.int .i64 off) (.slice A n c) (.int .i64 v0) (.int .i64 d))
  generalize ((((W1.setCell ⟨br,0,none⟩ (.string s)).setCell ⟨br,1,none⟩ (.int .i64 off)).setCell ⟨br,2,none⟩ (.slice A n c)).setCell ⟨br,3,none⟩ (.int .i64 v0)).setCell ⟨br,4,none⟩ (.int .i64 d)=WE at HSET ⊢
  clear r0 r1 r2 r3 r4 f0 f1 f2 f3 f4
  have r0:=HSET.out.1.cell (i:=0) rfl;have f0:=HSET.out.1.free 0;have r1:=HSET.out.1.cell (i:=1) rfl;have f1:=HSET.out.1.free 1;have r2:=HSET.out.1.cell (i:=2) rfl;have f2:=HSET.out.1.free 2;have r3:=HSET.out.1.cell (i:=3) rfl;have f3:=HSET.out.1.free 3;have r4:=HSET.out.1.cell (i:=4) rfl;have f4:=HSET.out.1.free 4
  have HBE:=Lib.hid HSET.out.2
  go_wp2_with fail
  refine bodyPost_ret (v:= .agg #[.string s,.int .i64 off,.slice A n c,.int .i64 v0,.int .i64 d]) (by simp [results,Tryz.results76,go_sem,r0,f0,r1,f1,r2,f2,r3,f3,r4,f4]) rfl ?_
  exact ⟨s,off,A,n,c,v0,d,rfl,HR.out _ HBE.out,HBE.out⟩
open Go.RowKit
theorem loc_cl {off:Int} {ts:Zn.L} (hz:Zn.Vz off ts) {t:Int} (h0:0≤t) (ht:t≤8589934592):offE 0 t=0∧locV off ts 0 t=(Zn.cl off ts t/86400,Zn.cl off ts t%86400):=by
 have hc:¬(t<0∨8589934592<t):=by omega
 have he:offE 0 t=0:=by unfold offE;rw [if_neg (by simp),if_neg hc]
 refine ⟨he, ?_⟩
 unfold locV
 rw [if_neg (by simpa using he)]
 have hv:offV off ts 0 t=Zn.offAt off ts t:=by unfold offV;rw [if_neg (by simp),if_neg hc]
 rw [hv]
 rfl
theorem keepS2 {b:Nat} {v0 d D S:Int} {bl:Nat} {W wc w':World} (h:(wc.cell? ⟨bl,0,none⟩=some (.int .i64 D)∧wc.cell? ⟨bl,1,none⟩=some (.int .i64 S)∧wc.cell? ⟨b,3,none⟩=some (.int .i64 v0)∧wc.cell? ⟨b,4,none⟩=some (.int .i64 d)∧Below W.heap.size W wc)) (hb:Below wc.heap.size wc w'):w'.cell? ⟨bl,0,none⟩=some (.int .i64 D)∧w'.cell? ⟨bl,1,none⟩=some (.int .i64 S)∧w'.cell? ⟨b,3,none⟩=some (.int .i64 v0)∧w'.cell? ⟨b,4,none⟩=some (.int .i64 d)∧Below W.heap.size W w':=⟨clift h.1 hb,clift h.2.1 hb,clift h.2.2.1 hb,clift h.2.2.2.1 hb,bstep h.2.2.2.2 hb⟩
set_option maxHeartbeats 8000000 in
theorem shi_of {H:Int→Option Int} (s:ByteArray) {off:Int} {A:Option Addr} {n:Nat} (c:Nat) {v0 d:Int} (t:Int) (w:World) (hr:RIn H w off A n v0 d) (h0:0≤t) (ht:t≤8589934592):Calls Tryz.prog 90 #[.agg #[.string s,.int .i64 off,.slice A n c,.int .i64 v0,.int .i64 d],.int .i64 t] w fun e w'=> ∃k:Int,e= .returned (.int .i64 k)∧Rc.ShiftIs H t k∧Below w.heap.size w w':=by
 have HB:=Lib.hid ((Below.refl w.heap.size w).alloc (Nat.le_refl _) (.cells #[.string s,.int .i64 off,.slice A n c,.int .i64 v0,.int .i64 d] 127))
 have LB:=Lib.hid (BlkAt.new w #[.string s,.int .i64 off,.slice A n c,.int .i64 v0,.int .i64 d] 127)
 have HH:=Lib.hid (fun k (hk:0≤k) W (hb:Below w.heap.size w W)=>rea_of s c k t W (hr.below hb) hk)
 obtain ⟨b1,b2,b3,b4,b5,b6⟩:=hr.bd
 obtain ⟨rs,ts,hZ,hz,hR⟩:=hr
 obtain ⟨hle,hlv⟩:=loc_cl hR.vz h0 ht
 have HT:=Lib.hid (show ∀W,Below w.heap.size w W→_ from fun W hb=>toLocal_is hZ s A n c t W (hz.below hb) (show I64 off from ⟨by omega,by omega⟩))
 have hcb:=hR.vz.bd t
 have hN: -64800≤Zn.cl off ts t∧Zn.cl off ts t≤8589999392:=by unfold Zn.cl;omega
 have HG:=Lib.hid (hR.guess h0 ht rfl)
 rw [hle,hlv] at HT
 obtain ⟨N,hNn⟩: ∃N,Zn.cl off ts t=N:=⟨_,rfl⟩
 rw [hNn] at HT HG hN
 have HSO:=Lib.hid (fun W=>sec_of (N/86400) (N%86400) W (by omega) (by omega) (by omega) (by omega))
 rw [show N/86400*86400+N%86400=N by omega] at HSO
 have HSH:=Lib.hid (fun k (hk: -1≤k) hr hn=>Rc.Rot.shift (t:=t) hR (k:=k) hk hr hn)
 have HHI:=Lib.hid hR.hi
 obtain ⟨dy,hdy⟩: ∃x,N/86400=x:=⟨_,rfl⟩
 obtain ⟨ds,hds⟩: ∃x,N%86400=x:=⟨_,rfl⟩
 rw [hdy,hds] at HT HSO
 obtain ⟨m,hm⟩: ∃x,max (N-v0+d) 0=x:=⟨_,rfl⟩
 have m0:0≤m∧m≤8589999392+241920000:=by omega
 have ⟨g1,g1'⟩:=wrapn (n:=N-v0) (by omega)
 have ⟨g2,g2'⟩:=wrapn (n:=N-v0+d) (by omega)
 have q0:0≤m/d∧m/d≤m:=⟨Int.ediv_nonneg m0.1 (by omega),Int.ediv_le_self _ m0.1⟩
 have tq:m.tdiv d=m/d:=Int.tdiv_eq_ediv_of_nonneg m0.1
 rw [hm] at HG
 obtain ⟨q,hq⟩: ∃x,m/d=x:=⟨_,rfl⟩
 rw [hq] at HG q0 tq
 have ⟨g3,g3'⟩:=wrapn (n:=q) (by omega)
 have ⟨g4,g4'⟩:=wrapn (n:=q-1) (by omega)
 have hne:¬d=0:=by omega
 clear hZ hz hR hcb hN hNn hdy hds hq hle hlv m0 q0 b1 b2 b3 b4 b5 b6
 go_enter Tryz.func90,Tryz.ntmps90
 go_upto_region 1 with fail
 generalize w.alloc (.cells #[.string s,.int .i64 off,.slice A n c,.int .i64 v0,.int .i64 d] 127)=W0 at HB LB ⊢
 have z0:=LB.out.cell (i:=0) rfl;have z1:=LB.out.cell (i:=1) rfl;have z2:=LB.out.cell (i:=2) rfl;have z3:=LB.out.cell (i:=3) rfl;have z4:=LB.out.cell (i:=4) rfl;
 go_upto_region 2 with (go_at_call 73;refine (HT.out _ HB.out).mono ?_;rintro e w5 ⟨rfl,hb5⟩)
 have LB5:=Lib.hid (BlkAt.alloc (LB.out.after hb5) (.cells #[.int .i64 dy,.int .i64 ds] 36))
 have DB5:=Lib.hid (BlkAt.new w5 #[.int .i64 dy,.int .i64 ds] 36)
 have HB5:=Lib.hid ((bstep HB.out hb5).alloc (bstep HB.out hb5).size (.cells #[.int .i64 dy,.int .i64 ds] 36))
 generalize hbl:w5.heap.size=bl at DB5 ⊢
 generalize w5.alloc (.cells #[.int .i64 dy,.int .i64 ds] 36)=W5 at LB5 DB5 HB5 ⊢
 clear z0 z1 z2 z3 z4 hb5 HB LB hbl
 generalize hbw:w.heap.size=bw at LB5 ⊢
 have S0:W5.cell? ⟨bl,0,none⟩=some (.int .i64 dy)∧W5.cell? ⟨bl,1,none⟩=some (.int .i64 ds)∧W5.cell? ⟨bw,3,none⟩=some (.int .i64 v0)∧W5.cell? ⟨bw,4,none⟩=some (.int .i64 d)∧Below W5.heap.size W5 W5:=⟨DB5.out.cell (i:=0) rfl,DB5.out.cell (i:=1) rfl,LB5.out.cell (i:=3) rfl,LB5.out.cell (i:=4) rfl,Below.refl _ _⟩
 have S1:=keepS2 S0 (Below.refl W5.heap.size W5).drew
 go_region_held3 (fun W=>W.cell? ⟨bl,0,none⟩=some (.int .i64 dy)∧W.cell? ⟨bl,1,none⟩=some (.int .i64 ds)∧W.cell? ⟨bw,3,none⟩=some (.int .i64 v0)∧W.cell? ⟨bw,4,none⟩=some (.int .i64 d)∧Below W5.heap.size W5 W)
  (first|(exact S1)|(exact keepS2 (by assumption) hb))
  (first|(go_at_call 118;((with_reducible refine (HSO.out _).mono ?_);rintro e w' ⟨rfl,hb⟩)))
 rename_i hS
 have HS6:=Lib.hid hS.2.2.2.2
 have HB6:=Lib.hid (HB5.out.trans (HS6.out.mono HB5.out.size))
 have LB6:=Lib.hid (LB5.out.after HS6.out)
 clear hS hb S0 HS6 HB5 LB5 DB5 HT HSO
 go_wp2_with fail
 go_loopw [7] (fun v wr=> ∃k:Int,v= .int .i64 k∧ -1≤k∧k≤2386092∧Hid (0≤k→ ∃a,H k=some a∧a≤t)∧Hid (Below w'.heap.size w' wr)) (fun v _=>(2386093-intOf v).toNat)
 case atStart=>exact ⟨q-1,rfl,(HG.out).1,(HG.out).2.1,Lib.hid (HG.out).2.2,Lib.hid (Below.refl _ _)⟩
 case round=>
  obtain ⟨k,rfl,k1,k2,HK,HW⟩:=hrel
  have LW:=Lib.hid (LB6.out.after HW.out)
  have z0:=LW.out.cell (i:=0) rfl;have z1:=LW.out.cell (i:=1) rfl;have z2:=LW.out.cell (i:=2) rfl;have z3:=LW.out.cell (i:=3) rfl;have z4:=LW.out.cell (i:=4) rfl;
  have ⟨u1,u1'⟩:=wrapn (n:=k+1) (by omega)
  go_wp2_with (go_at_call 138;refine (HH.out (k+1) (by omega) _ (HB6.out.trans (HW.out.mono HB6.out.size))).mono ?_;rintro e w8 ⟨b,rfl,hA,hB,hb8⟩;have HAB:=Lib.hid (And.intro hA hB);have HW8:=Lib.hid (bstep HW.out hb8);clear hA hB hb8;rcases b with _|_;rotate_left)
  ·have hx:=HAB.out.1 trivial
   have hk2:k+1≤2386092:=by
    obtain ⟨a,ea, -⟩:=hx
    exact HHI.out _ a ea
   exact ⟨⟨k+1,rfl,by omega,hk2,Lib.hid (fun _=>hx),HW8⟩,by simp [intOf];omega⟩
  ·go_ret
   exact ⟨k,rfl,HSH.out k k1 HK.out (HAB.out.2 trivial),HB6.out.trans (HW8.out.mono HB6.out.size)⟩
theorem pairs_tail {w:World} {b of:Nat} {x:Int×Int} {t:Zn.L} (h:PairsAt w (some ⟨b,of,none⟩) (x::t)):PairsAt w (some ⟨b,of+2,none⟩) t:=fun h0=>by
 obtain ⟨b',of',ea,hlt,hc⟩:=h (by simp)
 cases ea
 refine ⟨b,of+2,rfl,hlt,fun i y hy j hj=> ?_⟩
 have :=hc (i+1) y (by simpa using hy) j hj
 rw [show of+2+i*2+j=of+(i+1)*2+j by omega]
 exact this
def lenV:Value→Nat| .slice _ n _=>n|_=>0
def BtwV (H:Int→Option Int) (f t:Int) (w:World) (e:Ending) (w':World):Prop:= ∃(L:List Int) (A:Option Addr) (c:Nat),e= .returned (.slice A L.length c)∧Rc.RangeIs H f t L∧IntsAt w' A L∧L.length≤900000∧Below w.heap.size w w'∧L.length≤c
set_option maxHeartbeats 16000000 in
theorem btw_of {off0:Int} {ts0:Zn.L} (hv0:Zn.Vz off0 ts0) {u ee D S:Int} (hr0:Rc.Rt u ee D S) (s:ByteArray) {off:Int} {A:Option Addr} {n:Nat} (c:Nat) {v0 d:Int} (f t:Int) (w:World) (hr:RIn (Rc.hV off0 ts0 u ee D S) w off A n v0 d) (hf0:0≤f) (hft:f≤t) (ht:t≤8589934592) (hq:t-f≤34560000):Calls Tryz.prog 91 #[.agg #[.string s,.int .i64 off,.slice A n c,.int .i64 v0,.int .i64 d],.int .i64 f,.int .i64 t] w (BtwV (Rc.hV off0 ts0 u ee D S) f t w):=by
 have HB:=Lib.hid ((Below.refl w.heap.size w).alloc (Nat.le_refl _) (.cells #[.string s,.int .i64 off,.slice A n c,.int .i64 v0,.int .i64 d] 127))
 have LB:=Lib.hid (BlkAt.new w #[.string s,.int .i64 off,.slice A n c,.int .i64 v0,.int .i64 d] 127)
 have HSH:=Lib.hid (fun W (hb:Below w.heap.size w W)=>shi_of s c f W (hr.below hb) hf0 (by omega))
 obtain ⟨b1,b2,b3,b4,b5,b6⟩:=hr.bd
 have HLO:=Lib.hid (show ∀(k:Int) W,0≤k→k≤3000000→Calls Tryz.prog 120 #[.agg #[.string s,.int .i64 off,.slice A n c,.int .i64 v0,.int .i64 d],.int .i64 k] W fun e w'=>e= .returned (.int .i64 (v0+d*k))∧Below W.heap.size W w' from fun k W h1 h2=>by
  have :=loc_is s off A n c v0 d k W b1 b2 b3 b4 h1
  rwa [show min k 8589934592=k by omega] at this)
 have HVB:=Lib.hid (show ∀k:Int,0≤k→k≤3000000→1≤v0+d*k∧v0+d*k≤1000000000000000∧v0+d*k≤v0+d*(k+1) from fun k h1 h2=>by
  have h3:=Int.mul_nonneg (show 0≤d by omega) h1
  have h4:=Int.mul_le_mul b2 h2 h1 (by omega)
  rw [Int.mul_add,Int.mul_one]
  omega)
 obtain ⟨rs,ts,hZ,hz,hR⟩:=hr
 have HT:=Lib.hid (show ∀W,Below w.heap.size w W→_ from fun W hb=>transC_is hZ s A n c W (hz.below hb) (show I64 off from ⟨by omega,by omega⟩))
 have hvz:=hR.vz
 have HNX0:=Lib.hid (show ∀(v f' o a o':Int) (i:Nat),Rc.Pos off ts v f' o i→ts[i]? =some (a,o')→a≤v-o→Rc.Pos off ts v a o' (i+1) from fun v f' o a o' i h h1 h2=>h.next hvz h1 h2)
 have HEQ0:=Lib.hid hR.eq
 have HPS:=Lib.hid (fun k (hk:0≤k)=>hR.pos hk)
 have HTL:=Lib.hid (show ∀(a o':Int) (i:Nat),ts[i]? =some (a,o')→0≤a∧a≤8589934592∧ -64800≤o'∧o'≤64800 from fun a o' i h=>by
  have h1:(a,o')∈ts:=List.mem_of_getElem? h
  have h2:=Zn.vt_bd (Int.le_refl 0) hvz.vt _ h1
  have h3:=Zn.okO_iff.1 (hvz.oks _ h1)
  simp only at h2 h3
  omega)
 have HF:=Lib.hid (show ∀s k a:Int,Rc.ShiftIs (Rc.hV off0 ts0 u ee D S) f s→Rc.hV off0 ts0 u ee D S k=some a→max 0 s≤k→a<t→k-max 0 s≤100000 from fun s k a hs ea hk ha=>Rc.few hv0 hr0 hs ea hk ha hq)
 have HHI:=Lib.hid hR.hi
 have HGS:=Lib.hid (show ∀s:Int,Rc.ShiftIs (Rc.hV off0 ts0 u ee D S) f s→Rc.Gather (Rc.hV off0 ts0 u ee D S) f t (max 0 s) [] from fun s hs=>Rc.Gather.start hv0 hr0 hs rfl)
 have HGT:=Lib.hid (show ∀(k a:Int) (l:List Int),Rc.Gather (Rc.hV off0 ts0 u ee D S) f t k l→0≤k→Rc.hV off0 ts0 u ee D S k=some a→f≤a→a<t→Rc.Gather (Rc.hV off0 ts0 u ee D S) f t (k+1) (l++[a]) from fun k a l h hk ha g1 g2=>h.take hv0 hr0 hk ha g1 g2)
 have HGD:=Lib.hid (show ∀(k:Int) (l:List Int),Rc.Gather (Rc.hV off0 ts0 u ee D S) f t k l→0≤k→(∀a,Rc.hV off0 ts0 u ee D S k=some a→t≤a)→Rc.RangeIs (Rc.hV off0 ts0 u ee D S) f t l from fun k l h hk he=>h.done hv0 hr0 hk he)
 obtain ⟨H,hH⟩: ∃H,Rc.hV off0 ts0 u ee D S=H:=⟨_,rfl⟩
 rw [hH] at HSH HEQ0 HF HHI HGS HGT HGD ⊢
 have hvz2:=Lib.hid (show ts.length≤640 from (Zn.trans_ok hZ).2.2.2.2.2.2.1)
 clear hZ hz hR hvz hv0 hr0 hH b1 b2 b3 b4
 go_enter Tryz.func91,Tryz.ntmps91
 go_upto_region 1 with fail
 generalize w.alloc (.cells #[.string s,.int .i64 off,.slice A n c,.int .i64 v0,.int .i64 d] 127)=W0 at HB LB ⊢
 have z0:=LB.out.cell (i:=0) rfl;have z1:=LB.out.cell (i:=1) rfl;have z2:=LB.out.cell (i:=2) rfl;have z3:=LB.out.cell (i:=3) rfl;have z4:=LB.out.cell (i:=4) rfl;
 go_upto_region 2 with (go_at_call 79;refine (HT.out _ HB.out).mono ?_;rintro e w5 ⟨B0,c0,rfl,hP5,hb5,hc5⟩)
 have HB5:=Lib.hid (bstep HB.out hb5);have LB5:=Lib.hid (LB.out.after hb5);have HP5:=Lib.hid hP5;have HC5:=Lib.hid hc5
 clear hb5 hP5 hc5 z0 z1 z2 z3 z4
 have z0:=LB5.out.cell (i:=0) rfl;have z1:=LB5.out.cell (i:=1) rfl;have z2:=LB5.out.cell (i:=2) rfl;have z3:=LB5.out.cell (i:=3) rfl;have z4:=LB5.out.cell (i:=4) rfl;
 go_upto_region 3 with fail
 go_quiet (fail)
 have HB5:=Lib.hid (below_drewN HB5.out nq);have LB5:=Lib.hid (LB5.out.drewN nq);have HP5:=Lib.hid (HP5.out.drewN nq)
 generalize w5.drewN nq=wd at HB5 LB5 HP5 ⊢
 clear z0 z1 z2 z3 z4
 have z0:=LB5.out.cell (i:=0) rfl;have z1:=LB5.out.cell (i:=1) rfl;have z2:=LB5.out.cell (i:=2) rfl;have z3:=LB5.out.cell (i:=3) rfl;have z4:=LB5.out.cell (i:=4) rfl;
 go_upto_region 5 with (go_at_call 90;refine (HSH.out _ HB5.out).mono ?_;rintro e w6 ⟨sh,rfl,hs,hb6⟩;have HB6:=Lib.hid (bstep HB5.out hb6);have HS:=Lib.hid hs;have LB6:=Lib.hid (LB5.out.after hb6);have HP6:=Lib.hid (HP5.out.below hb6);clear hb6 hs z0 z1 z2 z3 z4)
 have hs1:=HS.out.1
 have hsu:sh≤2386092:=by
  rcases Int.lt_or_le sh 0 with h1|h1
  ·omega
  ·obtain ⟨a,ea, -⟩:=HS.out.2.1 h1
   exact HHI.out sh a ea
 obtain ⟨N,hN⟩: ∃N,ts.length=N:=⟨_,rfl⟩
 have HNN:=Lib.hid hN
 have hN640:N≤640:=by have :=hvz2.out;omega
 rw [hN]
 go_loopw [7,9,10,11,12] (fun tv lv sv ov kv wr=> ∃(k:Int) (L:List Int) (f' o:Int) (i m:Nat) (B:Option Addr) (cc:Nat),kv= .int .i64 k∧sv= .int .i64 f'∧ov= .int .i64 o∧tv= .slice B m cc∧max 0 sh≤k∧k≤2386093∧0≤f'∧f'≤8589934592∧ -64800≤o∧o≤64800∧m≤640∧Hid (i+m=N∧m≤cc)∧Hid ((L.length:Int)≤k-max 0 sh∧L.length≤100001)∧Hid (Rc.Gather H f t k L)∧Hid (Rc.Pos off ts (v0+d*k) f' o i)∧Hid (PairsAt w6 B (ts.drop i))∧Hid (OwnL 3 1 eInt wr w6.heap.size lv L)∧Hid (Below w6.heap.size w6 wr)) (fun _ _ _ _ y _=>(2386094-intOf y).toNat)
 case atStart=>exact ⟨max sh 0,[],0,off,0,N,B0,c0,rfl,rfl,rfl,rfl,by omega,by omega,by omega,by omega,by omega,by omega,hN640,Lib.hid ⟨by omega,by have :=HC5.out;omega⟩,Lib.hid (by simp;omega),Lib.hid (by rw [show max sh 0=max 0 sh by omega];exact HGS.out sh HS.out),Lib.hid (HPS.out _ (by omega)),HP6,Lib.hid (OwnL.nil_ _ _),Lib.hid (Below.refl _ _)⟩
 case round=>
  obtain ⟨k,L,f',o,i,m,B,cc,rfl,rfl,rfl,rfl,k0,k1,p1,p2,p3,p4,hm6,HIM,HN,HG,HPO,HPP,HL,HX⟩:=hrel
  have g0:0≤k:=by omega
  have hvb:=HVB.out k g0 (by omega)
  have HLK:=Lib.hid (fun W=>HLO.out k W g0 (by omega))
  have HEQ:=Lib.hid (HEQ0.out k g0)
  have HNP:=Lib.hid (show ∀(f' o:Int) (i:Nat),Rc.Pos off ts (v0+d*k) f' o i→Rc.Pos off ts (v0+d*(k+1)) f' o i from fun f' o i h=>h.up hvb.2.2)
  have LW:=Lib.hid (LB6.out.after HX.out)
  obtain ⟨v,hv⟩: ∃v,v0+d*k=v:=⟨_,rfl⟩
  rw [hv] at HPO HLK HEQ HNP hvb
  have hv1:1≤v∧v≤1000000000000000:=⟨hvb.1,hvb.2.1⟩
  clear hvb hv
  have z0:=LW.out.cell (i:=0) rfl;have z1:=LW.out.cell (i:=1) rfl;have z2:=LW.out.cell (i:=2) rfl;have z3:=LW.out.cell (i:=3) rfl;have z4:=LW.out.cell (i:=4) rfl;
  go_wp2_with (go_at_call 120;refine (HLK.out _).mono ?_;rintro e w7 ⟨rfl,hb7⟩;have HX7:=Lib.hid (bstep HX.out hb7);have HL7:=Lib.hid (HL.out.below hb7);clear hb7 z0 z1 z2 z3 z4)
  go_loopw [7,10,11] (fun tv sv ov wc=> ∃(i m:Nat) (B:Option Addr) (cc:Nat) (f' o:Int),tv= .slice B m cc∧sv= .int .i64 f'∧ov= .int .i64 o∧0≤f'∧f'≤8589934592∧ -64800≤o∧o≤64800∧m≤640∧Hid (i+m=N∧m≤cc)∧Hid (Rc.Pos off ts v f' o i)∧Hid (PairsAt w6 B (ts.drop i))∧Hid (Below w7.heap.size w7 wc)) (fun tv _ _ _=>lenV tv)
  case atStart=>exact ⟨i,m,B,cc,f',o,rfl,rfl,rfl,p1,p2,p3,p4,hm6,HIM,HPO,HPP,Lib.hid (Below.refl _ _)⟩
  case round=>
   clear HPO HPP HIM p1 p2 p3 p4 hm6
   obtain ⟨i,m,B,cc,f',o,rfl,rfl,rfl,p1,p2,p3,p4,hm6,HIM,HPO,HPP,HC7⟩:=hrel
   have HX8:=Lib.hid (HX7.out.trans (HC7.out.mono HX7.out.size))
   have HL8:=Lib.hid (HL7.out.below HC7.out)
   have HB8:=Lib.hid (HB6.out.trans (HX8.out.mono HB6.out.size))
   have ⟨y1,y1'⟩:=wrapn (n:=v-o) (by omega)
   have hfb:0≤f'∧f'≤8589934592:=⟨p1,p2⟩
   have hob: -64800≤o∧o≤64800:=⟨p3,p4⟩
   by_cases hm:0<m
   ·obtain ⟨⟨ta,tp⟩,hx⟩:=get_ex (xs:=ts) (i:=i) (by have :=HIM.out;have :=HNN.out;omega)
    have hpp:=HPP.out.below HX8.out
    rw [drop_cons' hx] at hpp
    obtain ⟨b,of,rfl,hb,hc⟩:=hpp (by simp)
    have c0:wr.cell? ⟨b,of,none⟩=some (.int .i64 ta):=by have :=hc 0 (ta,tp) rfl 0 (by decide);simpa [ePair] using this
    have c1:wr.cell? ⟨b,of+1,none⟩=some (.int .i64 tp):=by have :=hc 0 (ta,tp) rfl 1 (by decide);simpa [ePair] using this
    have htl:=HTL.out ta tp i hx
    have HPT:=Lib.hid (show PairsAt w6 (some ⟨b,of+2,none⟩) (ts.drop (i+1)) by have :=HPP.out;rw [drop_cons' hx] at this;exact pairs_tail this)
    have m0:(0:Int)<m:=by omega
    have m1:(1:Int)≤m:=by omega
    have mc:(m:Int)≤cc:=by have :=HIM.out;omega
    have mc1:(1:Int)≤cc:=by omega
    by_cases hav:ta≤v-o
    ·have HPN2:=Lib.hid (HNX0.out v f' o ta tp i HPO.out hx hav)
     have HIN:=Lib.hid (show i+1+(m-1)=N∧m-1≤cc-1 by have :=HIM.out;omega)
     have HIK:=Lib.hid HIM.out.2
     clear hx hpp hb hc HPO HIM p1 p2 p3 p4 hfb hob
     go_wp2_with fail
     go_quiet (fail)
     go_wp2_with fail
     refine ⟨⟨i+1,m-1,_,cc-1,ta,tp,rfl,rfl,rfl,htl.1,htl.2.1,htl.2.2.1,htl.2.2.2,by omega,HIN,HPN2, ?_,Lib.hid (below_drewN HC7.out nq)⟩,by simp [lenV];omega⟩
     by_cases hc1:cc=1
     ·rw [if_pos hc1,List.drop_of_length_le (by have :=HIN.out;have :=HNN.out;have :=HIK.out;omega)]
      exact Lib.hid ListAt.nil_
     ·rw [if_neg hc1]
      exact HPT
    ·have HNX:=Lib.hid (show ∀a o',ts[i]? =some (a,o')→v-o<a from fun a o' h=>by rw [hx] at h;cases h;omega)
     have HPU:=HPO;have HPL:=HPP;have HLC:=HIM
     clear hx hpp hb hc
     go_upto_region 10 with fail
     have hat:Hid (Zn.fst v (Zn.strs 0 off ts)=if max (v-o) f'≤8589934592 then some (max (v-o) f') else none):=Lib.hid (HPO.out.out HNX.out)
     obtain ⟨a,ha⟩: ∃a,max (v-o) f'=a:=⟨_,rfl⟩
     rw [ha] at hat
     have HV2:=Lib.hid (show H k=if a≤8589934592 then some a else none from HEQ.out.trans hat.out)
     clear hat HPO HNX
     by_cases hta:t≤a
     ·have HD:=Lib.hid (HGD.out k L HG.out g0 (fun x ex=>by
       rw [HV2.out] at ex
       split at ex
       ·cases ex;exact hta
       ·cases ex))
      have hlen:L.length≤900000:=by have :=HN.out;omega
      obtain ⟨B2,cc2,rfl,hcp, -,hI⟩:=HL8.out.shape
      have HCP:=Lib.hid hcp
      clear hcp
      have HI:=Lib.hid hI
      clear hI
      go_wp2_with fail
      go_ret
      exact ⟨L,B2,cc2,rfl,HD.out,HI.out,hlen,HB8.out,HCP.out⟩
     ·have hHk:H k=some a:=by rw [HV2.out,if_pos (by omega)]
      have kk:=HHI.out k a hHk
      have ⟨u1,u1'⟩:=wrapn (n:=k+1) (by omega)
      have hle1:L.length≤100000:=by
       have :=HF.out sh k a HS.out hHk k0 (by omega)
       have :=HN.out
       omega
      have hlen:L.length≤900000:=by omega
      have HPN:=Lib.hid (HNP.out f' o i HPU.out)
      by_cases hfa:f≤a
      ·have HGN:=Lib.hid (HGT.out k a L HG.out g0 hHk hfa (by omega))
       have hs8:=HX8.out.size
       have hs8':=HB8.out.size
       clear hHk HPU
       go_wp2_with (at_builtin;refine wp_append_one kInt _ rfl _ _ rfl w6.heap.size _ L rfl (HL8.out.alloc _) wr.heap.size a rfl (int_new rfl) hlen (by simp;omega) ?_;intro gg cap w8 hO8 hB8 hg8 hgo _;have HO8:=Lib.hid hO8;have HX9:=Lib.hid ((HX8.out.alloc hs8 (.cells #[.int .i64 a] 3)).trans hB8);clear hO8 hB8 hg8 hgo)
       refine ⟨⟨k+1,L++[a],f',o,i,m,some ⟨b,of,none⟩,cc,rfl,rfl,rfl,rfl,by omega,by omega,hfb.1,hfb.2,hob.1,hob.2,hm6,HLC,Lib.hid (by rw [List.length_append,List.length_singleton];have :=HN.out;omega),HGN,HPN,HPL,HO8,HX9⟩,by simp [intOf];omega⟩
      ·have HGN:=Lib.hid (HG.out.skip hHk (show a<f by omega))
       have hfa':a<f:=by omega
       clear hHk hfa HPU
       go_wp2_with fail
       exact ⟨⟨k+1,L,f',o,i,m,some ⟨b,of,none⟩,cc,rfl,rfl,rfl,rfl,by omega,by omega,hfb.1,hfb.2,hob.1,hob.2,hm6,HLC,Lib.hid (by have :=HN.out;omega),HGN,HPN,HPL,HL8,HX8⟩,by simp [intOf];omega⟩
   ·have HNX:=Lib.hid (show ∀a o',ts[i]? =some (a,o')→v-o<a from fun a o' h=>by
     have :=(List.getElem?_eq_some_iff.1 h).1
     have :=HIM.out;have :=HNN.out;omega)
    have m0:¬(0:Int)<m:=by omega
    have HPU:=HPO;have HPL:=HPP;have HLC:=HIM
    go_upto_region 10 with fail
    have hat:Hid (Zn.fst v (Zn.strs 0 off ts)=if max (v-o) f'≤8589934592 then some (max (v-o) f') else none):=Lib.hid (HPO.out.out HNX.out)
    obtain ⟨a,ha⟩: ∃a,max (v-o) f'=a:=⟨_,rfl⟩
    rw [ha] at hat
    have HV2:=Lib.hid (show H k=if a≤8589934592 then some a else none from HEQ.out.trans hat.out)
    clear hat HPO HNX
    by_cases hta:t≤a
    ·have HD:=Lib.hid (HGD.out k L HG.out g0 (fun x ex=>by
      rw [HV2.out] at ex
      split at ex
      ·cases ex;exact hta
      ·cases ex))
     have hlen:L.length≤900000:=by have :=HN.out;omega
     obtain ⟨B2,cc2,rfl,hcp, -,hI⟩:=HL8.out.shape
     have HCP:=Lib.hid hcp
     clear hcp
     have HI:=Lib.hid hI
     clear hI
     go_wp2_with fail
     go_ret
     exact ⟨L,B2,cc2,rfl,HD.out,HI.out,hlen,HB8.out,HCP.out⟩
    ·have hHk:H k=some a:=by rw [HV2.out,if_pos (by omega)]
     have kk:=HHI.out k a hHk
     have ⟨u1,u1'⟩:=wrapn (n:=k+1) (by omega)
     have hle1:L.length≤100000:=by
      have :=HF.out sh k a HS.out hHk k0 (by omega)
      have :=HN.out
      omega
     have hlen:L.length≤900000:=by omega
     have HPN:=Lib.hid (HNP.out f' o i HPU.out)
     by_cases hfa:f≤a
     ·have HGN:=Lib.hid (HGT.out k a L HG.out g0 hHk hfa (by omega))
      have hs8:=HX8.out.size
      have hs8':=HB8.out.size
      clear hHk HPU
      go_wp2_with (at_builtin;refine wp_append_one kInt _ rfl _ _ rfl w6.heap.size _ L rfl (HL8.out.alloc _) wr.heap.size a rfl (int_new rfl) hlen (by simp;omega) ?_;intro gg cap w8 hO8 hB8 hg8 hgo _;have HO8:=Lib.hid hO8;have HX9:=Lib.hid ((HX8.out.alloc hs8 (.cells #[.int .i64 a] 3)).trans hB8);clear hO8 hB8 hg8 hgo)
      refine ⟨⟨k+1,L++[a],f',o,i,m,B,cc,rfl,rfl,rfl,rfl,by omega,by omega,hfb.1,hfb.2,hob.1,hob.2,hm6,HLC,Lib.hid (by rw [List.length_append,List.length_singleton];have :=HN.out;omega),HGN,HPN,HPL,HO8,HX9⟩,by simp [intOf];omega⟩
     ·have HGN:=Lib.hid (HG.out.skip hHk (show a<f by omega))
      have hfa':a<f:=by omega
      clear hHk hfa HPU
      go_wp2_with fail
      exact ⟨⟨k+1,L,f',o,i,m,B,cc,rfl,rfl,rfl,rfl,by omega,by omega,hfb.1,hfb.2,hob.1,hob.2,hm6,HLC,Lib.hid (by have :=HN.out;omega),HGN,HPN,HPL,HL8,HX8⟩,by simp [intOf];omega⟩
open Go.RowKit
theorem zlB_boxes (w:World) (s:ByteArray) (off:Int) (A:Option Addr) (n c:Nat) (nm:ByteArray) (lz D S u ee:Int) (m1:Option Addr) (m2 m3:Nat) (q1:Option Addr) (q2 q3:Nat) (lc lm:Int):
  Hid (BlkAt ((w.alloc (.cells #[.string s,.int .i64 off,.slice A n c] 71)).alloc (.cells #[.string nm,.int .i64 lz,.int .i64 D,.int .i64 S,.int .i64 u,.int .i64 ee,.slice m1 m2 m3,.slice q1 q2 q3,.int .i64 lc,.int .i64 lm] 39)) w.heap.size #[.string s,.int .i64 off,.slice A n c] 71)∧Hid (BlkAt ((w.alloc (.cells #[.string s,.int .i64 off,.slice A n c] 71)).alloc (.cells #[.string nm,.int .i64 lz,.int .i64 D,.int .i64 S,.int .i64 u,.int .i64 ee,.slice m1 m2 m3,.slice q1 q2 q3,.int .i64 lc,.int .i64 lm] 39)) (w.heap.size+1) #[.string nm,.int .i64 lz,.int .i64 D,.int .i64 S,.int .i64 u,.int .i64 ee,.slice m1 m2 m3,.slice q1 q2 q3,.int .i64 lc,.int .i64 lm] 39)∧Hid (Below w.heap.size w ((w.alloc (.cells #[.string s,.int .i64 off,.slice A n c] 71)).alloc (.cells #[.string nm,.int .i64 lz,.int .i64 D,.int .i64 S,.int .i64 u,.int .i64 ee,.slice m1 m2 m3,.slice q1 q2 q3,.int .i64 lc,.int .i64 lm] 39))):=
 ⟨Lib.hid (BlkAt.alloc (BlkAt.new w _ _) _),Lib.hid (by have :=BlkAt.new (w.alloc (.cells #[.string s,.int .i64 off,.slice A n c] 71)) #[.string nm,.int .i64 lz,.int .i64 D,.int .i64 S,.int .i64 u,.int .i64 ee,.slice m1 m2 m3,.slice q1 q2 q3,.int .i64 lc,.int .i64 lm] 39;simpa using this),Lib.hid (((Below.refl w.heap.size w).alloc (Nat.le_refl _) _).alloc (by simp) _)⟩
theorem zB_cells {W:World} {b:Nat} {v0 v1 v2:Value} {T:TypeId} (h:Hid (BlkAt W b #[v0,v1,v2] T)):W.cell? ⟨b,0,none⟩=some v0∧W.cell? ⟨b,1,none⟩=some v1∧W.cell? ⟨b,2,none⟩=some v2:=⟨h.out.cell rfl,h.out.cell rfl,h.out.cell rfl⟩
theorem lB_cells {W:World} {b:Nat} {v0 v1 v2 v3 v4 v5 v6 v7 v8 v9:Value} {T:TypeId} (h:Hid (BlkAt W b #[v0,v1,v2,v3,v4,v5,v6,v7,v8,v9] T)):W.cell? ⟨b,0,none⟩=some v0∧W.cell? ⟨b,1,none⟩=some v1∧W.cell? ⟨b,2,none⟩=some v2∧W.cell? ⟨b,3,none⟩=some v3∧W.cell? ⟨b,4,none⟩=some v4∧W.cell? ⟨b,5,none⟩=some v5∧W.cell? ⟨b,6,none⟩=some v6∧W.cell? ⟨b,7,none⟩=some v7∧W.cell? ⟨b,8,none⟩=some v8∧W.cell? ⟨b,9,none⟩=some v9:=⟨h.out.cell rfl,h.out.cell rfl,h.out.cell rfl,h.out.cell rfl,h.out.cell rfl,h.out.cell rfl,h.out.cell rfl,h.out.cell rfl,h.out.cell rfl,h.out.cell rfl⟩
def HdvC (ok:Bool) (H:Int→Option Int) (f t:Int) (w:World) (e:Ending) (w':World):Prop:= ∃(L:List Int) (er:Int) (B:Option Addr) (cc:Nat),e= .returned (.tuple #[.slice B L.length cc,.int .i64 er])∧Rc.ROut ok H f t L er∧IntsAt w' B L∧L.length≤900000∧Below w.heap.size w w'∧L.length≤cc
theorem uS_zero {u:Int}:uS u=0↔ ¬(0≤u∧u≤2):=by
 unfold uS
 constructor
 ·intro h hu
  have :u=0∨u=1∨u=2:=by omega
  rcases this with rfl|rfl|rfl<;>simp at h
 ·intro h
  rw [if_neg (by omega),if_neg (by omega),if_neg (by omega)]
theorem vS_iff {D S:Int}:vS D S=true↔1≤D∧D≤100000∧0≤S∧S<86400:=by unfold vS;simp
set_option maxHeartbeats 8000000 in
theorem pchk_is {off:Int} {rs:List Zn.Rule} {ts:Zn.L} (hZ:Zn.trans off rs=(ts,0)) (u ee D S:Int) (s:ByteArray) (A:Option Addr) (n c:Nat) (nm:ByteArray) (lz:Int) (m1:Option Addr) (m2 m3:Nat) (q1:Option Addr) (q2 q3:Nat) (lc lm:Int) (w:World) (hz:ZIn w A n rs) (ho:I64 off):
  Calls Tryz.prog 75 #[.agg #[.string s,.int .i64 off,.slice A n c],.agg #[.string nm,.int .i64 lz,.int .i64 D,.int .i64 S,.int .i64 u,.int .i64 ee,.slice m1 m2 m3,.slice q1 q2 q3,.int .i64 lc,.int .i64 lm]] w fun e w'=>e= .returned (.int .i64 (Rc.chkO (Rc.okL u ee D S m2)))∧Below w.heap.size w w':=by
 have HC:=Lib.hid (show ∀W,Below w.heap.size w W→_ from fun W hb=>check_is hZ s A n c W (hz.below hb) ho)
 have HV:=Lib.hid (fun W=>vst_is D S W)
 have HU:=Lib.hid (fun W=>uni_is u W)
 obtain ⟨vv,hvv⟩: ∃x,vS D S=x:=⟨_,rfl⟩
 obtain ⟨us,hus⟩: ∃x,uS u=x:=⟨_,rfl⟩
 rw [hvv] at HV
 rw [hus] at HU
 have HVV:=Lib.hid (show vv=true↔1≤D∧D≤100000∧0≤S∧S<86400 from hvv▸vS_iff)
 have HUU:=Lib.hid (show us=0↔ ¬(0≤u∧u≤2) from hus▸uS_zero)
 obtain ⟨ZB,LB,HB⟩:=zlB_boxes w s off A n c nm lz D S u ee m1 m2 m3 q1 q2 q3 lc lm
 clear hz hvv hus
 cases vv with
 |false=>
  have h0:=Lib.hid (show Rc.okL u ee D S m2=false from decide_eq_false (fun h=>absurd (HVV.out.2 ⟨h.2.2.2.2.1,h.2.2.2.2.2.1,h.2.2.2.2.2.2.1,h.2.2.2.2.2.2.2.1⟩) (by simp)))
  rw [h0.out]
  go_enter Tryz.func75,Tryz.ntmps75
  go_upto_region 1 with fail
  generalize (w.alloc (.cells #[.string s,.int .i64 off,.slice A n c] 71)).alloc (.cells #[.string nm,.int .i64 lz,.int .i64 D,.int .i64 S,.int .i64 u,.int .i64 ee,.slice m1 m2 m3,.slice q1 q2 q3,.int .i64 lc,.int .i64 lm] 39)=W0 at ZB LB HB ⊢
  obtain ⟨z0,z1,z2⟩:=zB_cells ZB;obtain ⟨l0,l1,l2,l3,l4,l5,l6,l7,l8,l9⟩:=lB_cells LB;
  go_wp2_with (first|(go_at_call 115;refine (HC.out _ HB.out).mono ?_;rintro e w5 ⟨rfl,hb5⟩;have HB6:=Lib.hid (bstep HB.out hb5);have KL:=Lib.hid (LB.out.after hb5);clear hb5 z0 z1 z2 l0 l1 l2 l3 l4 l5 l6 l7 l8 l9;obtain ⟨l0,l1,l2,l3,l4,l5,l6,l7,l8,l9⟩:=lB_cells KL;skip)|(go_at_call 116;refine (HV.out _).mono ?_;rintro e w7 ⟨rfl,hb7⟩;have HB6:=Lib.hid (bstep HB6.out hb7);have KL:=Lib.hid (KL.out.after hb7);clear hb7 l0 l1 l2 l3 l4 l5 l6 l7 l8 l9;obtain ⟨l0,l1,l2,l3,l4,l5,l6,l7,l8,l9⟩:=lB_cells KL;skip))
  go_ret
  exact ⟨rfl,HB6.out⟩
 |true=>
  by_cases hu:us=0
  ·have h0:=Lib.hid (show Rc.okL u ee D S m2=false from decide_eq_false (fun h=>absurd (HUU.out.1 hu) (by simp;omega)))
   rw [h0.out]
   subst hu
   go_enter Tryz.func75,Tryz.ntmps75
   go_upto_region 1 with fail
   generalize (w.alloc (.cells #[.string s,.int .i64 off,.slice A n c] 71)).alloc (.cells #[.string nm,.int .i64 lz,.int .i64 D,.int .i64 S,.int .i64 u,.int .i64 ee,.slice m1 m2 m3,.slice q1 q2 q3,.int .i64 lc,.int .i64 lm] 39)=W0 at ZB LB HB ⊢
   obtain ⟨z0,z1,z2⟩:=zB_cells ZB;obtain ⟨l0,l1,l2,l3,l4,l5,l6,l7,l8,l9⟩:=lB_cells LB;
   go_wp2_with (first|(go_at_call 115;refine (HC.out _ HB.out).mono ?_;rintro e w5 ⟨rfl,hb5⟩;have HB6:=Lib.hid (bstep HB.out hb5);have KL:=Lib.hid (LB.out.after hb5);clear hb5 z0 z1 z2 l0 l1 l2 l3 l4 l5 l6 l7 l8 l9;obtain ⟨l0,l1,l2,l3,l4,l5,l6,l7,l8,l9⟩:=lB_cells KL;skip)|(go_at_call 116;refine (HV.out _).mono ?_;rintro e w7 ⟨rfl,hb7⟩;have HB6:=Lib.hid (bstep HB6.out hb7);have KL:=Lib.hid (KL.out.after hb7);clear hb7 l0 l1 l2 l3 l4 l5 l6 l7 l8 l9;obtain ⟨l0,l1,l2,l3,l4,l5,l6,l7,l8,l9⟩:=lB_cells KL;skip)|(go_at_call 117;refine (HU.out _).mono ?_;rintro e w8 ⟨rfl,rfl⟩))
   go_ret
   exact ⟨rfl,HB6.out⟩
  ·have hu2:(us==0)=false:=by simpa using hu
   have HUV:=Lib.hid (show 0≤u∧u≤2 from Classical.byContradiction fun h=>hu (HUU.out.2 h))
   clear hu
   go_enter Tryz.func75,Tryz.ntmps75
   go_upto_region 1 with fail
   generalize (w.alloc (.cells #[.string s,.int .i64 off,.slice A n c] 71)).alloc (.cells #[.string nm,.int .i64 lz,.int .i64 D,.int .i64 S,.int .i64 u,.int .i64 ee,.slice m1 m2 m3,.slice q1 q2 q3,.int .i64 lc,.int .i64 lm] 39)=W0 at ZB LB HB ⊢
   obtain ⟨z0,z1,z2⟩:=zB_cells ZB;obtain ⟨l0,l1,l2,l3,l4,l5,l6,l7,l8,l9⟩:=lB_cells LB;
   go_wp2_with (first|(go_at_call 115;refine (HC.out _ HB.out).mono ?_;rintro e w5 ⟨rfl,hb5⟩;have HB6:=Lib.hid (bstep HB.out hb5);have KL:=Lib.hid (LB.out.after hb5);clear hb5 z0 z1 z2 l0 l1 l2 l3 l4 l5 l6 l7 l8 l9;obtain ⟨l0,l1,l2,l3,l4,l5,l6,l7,l8,l9⟩:=lB_cells KL;skip)|(go_at_call 116;refine (HV.out _).mono ?_;rintro e w7 ⟨rfl,hb7⟩;have HB6:=Lib.hid (bstep HB6.out hb7);have KL:=Lib.hid (KL.out.after hb7);clear hb7 l0 l1 l2 l3 l4 l5 l6 l7 l8 l9;obtain ⟨l0,l1,l2,l3,l4,l5,l6,l7,l8,l9⟩:=lB_cells KL;skip)|(go_at_call 117;refine (HU.out _).mono ?_;rintro e w8 ⟨rfl,rfl⟩))
   all_goals first
    |(
     have h0:Rc.okL u ee D S m2=true:=decide_eq_true (by have :=HVV.out.1 trivial;have :=HUV.out;(try simp only [beq_eq_false_iff_ne,ne_eq] at *);omega)
     go_ret
     exact ⟨by rw [h0];rfl,HB6.out⟩)
    |(
     have h0:Rc.okL u ee D S m2=false:=decide_eq_false (by (try simp only [beq_iff_eq] at *);omega)
     go_ret
     exact ⟨by rw [h0];rfl,HB6.out⟩)
set_option maxHeartbeats 8000000 in
theorem pHan_is {off:Int} {rs:List Zn.Rule} {ts:Zn.L} (hZ:Zn.trans off rs=(ts,0)) (u ee D S:Int) (s:ByteArray) (A:Option Addr) (n c:Nat) (nm:ByteArray) (lz:Int) (m1:Option Addr) (m2 m3:Nat) (q1:Option Addr) (q2 q3:Nat) (lc lm:Int) (k:Int) (w:World) (hz:ZIn w A n rs) (ho:I64 off) (hk:I64 k):
  Calls Tryz.prog 48 #[.agg #[.string s,.int .i64 off,.slice A n c],.agg #[.string nm,.int .i64 lz,.int .i64 D,.int .i64 S,.int .i64 u,.int .i64 ee,.slice m1 m2 m3,.slice q1 q2 q3,.int .i64 lc,.int .i64 lm],.int .i64 k] w (GivesF (Rc.hOut (Rc.okL u ee D S m2) k (Rc.hV off ts u ee D S k)).1 (Rc.hOut (Rc.okL u ee D S m2) k (Rc.hV off ts u ee D S k)).2 w):=by
 have HCK:=Lib.hid (show ∀W,Below w.heap.size w W→_ from fun W hb=>pchk_is hZ u ee D S s A n c nm lz m1 m2 m3 q1 q2 q3 lc lm W (hz.below hb) ho)
 have HNW:=Lib.hid (show ∀(hr:Rc.Rt u ee D S) W,Below w.heap.size w W→_ from fun hr W hb=>new_is hZ hr s A n c nm lz m1 m2 m3 q1 q2 q3 lc lm W (hz.below hb))
 cases hok:Rc.okL u ee D S m2 with
 |false=>
  have HO:=Lib.hid (show Rc.chkO (Rc.okL u ee D S m2)=8 by rw [hok];rfl)
  rw [Rc.hOut_no]
  obtain ⟨ZB,LB,HB⟩:=zlB_boxes w s off A n c nm lz D S u ee m1 m2 m3 q1 q2 q3 lc lm
  clear hz hok HNW
  go_enter Tryz.func48,Tryz.ntmps48
  go_upto_region 1 with fail
  generalize (w.alloc (.cells #[.string s,.int .i64 off,.slice A n c] 71)).alloc (.cells #[.string nm,.int .i64 lz,.int .i64 D,.int .i64 S,.int .i64 u,.int .i64 ee,.slice m1 m2 m3,.slice q1 q2 q3,.int .i64 lc,.int .i64 lm] 39)=W0 at ZB LB HB ⊢
  obtain ⟨z0,z1,z2⟩:=zB_cells ZB;obtain ⟨l0,l1,l2,l3,l4,l5,l6,l7,l8,l9⟩:=lB_cells LB;
  go_wp2_with (go_at_call 75;refine (HCK.out _ HB.out).mono ?_;rintro e w5 ⟨rfl,hb5⟩;rw [HO.out];have HB5:=Lib.hid (bstep HB.out hb5);clear hb5)
  go_ret2
  exact ⟨rfl,HB5.out⟩
 |true=>
  have HO:=Lib.hid (show Rc.chkO (Rc.okL u ee D S m2)=0 by rw [hok];rfl)
  obtain ⟨hr, -⟩:=Rc.okL_rt hok
  by_cases h0:k<0
  ·rw [Rc.hOut_neg h0]
   obtain ⟨ZB,LB,HB⟩:=zlB_boxes w s off A n c nm lz D S u ee m1 m2 m3 q1 q2 q3 lc lm
   clear hz hok HNW
   go_enter Tryz.func48,Tryz.ntmps48
   go_upto_region 1 with fail
   generalize (w.alloc (.cells #[.string s,.int .i64 off,.slice A n c] 71)).alloc (.cells #[.string nm,.int .i64 lz,.int .i64 D,.int .i64 S,.int .i64 u,.int .i64 ee,.slice m1 m2 m3,.slice q1 q2 q3,.int .i64 lc,.int .i64 lm] 39)=W0 at ZB LB HB ⊢
   obtain ⟨z0,z1,z2⟩:=zB_cells ZB;obtain ⟨l0,l1,l2,l3,l4,l5,l6,l7,l8,l9⟩:=lB_cells LB;
   go_wp2_with (go_at_call 75;refine (HCK.out _ HB.out).mono ?_;rintro e w5 ⟨rfl,hb5⟩;rw [HO.out];have HB5:=Lib.hid (bstep HB.out hb5);clear hb5)
   go_ret2
   exact ⟨rfl,HB5.out⟩
  ·have HN2:=Lib.hid (HNW.out hr)
   have hOut:Rc.hOut true k (Rc.hV off ts u ee D S k)=(oV (Rc.hV off ts u ee D S k),oE (Rc.hV off ts u ee D S k)):=by
    cases e:Rc.hV off ts u ee D S k with
    |none=>rw [Rc.hOut_none (by omega)];rfl
    |some a=>rw [Rc.hOut_some (by omega)];rfl
   rw [hOut]
   have k0:0≤k:=by omega
   have HHO:=Lib.hid (show ∀(s:ByteArray) (off':Int) (A:Option Addr) (n c:Nat) (v0 d:Int) W,RIn (Rc.hV off ts u ee D S) W off' A n v0 d→Calls Tryz.prog 77 #[.agg #[.string s,.int .i64 off',.slice A n c,.int .i64 v0,.int .i64 d],.int .i64 k] W (GivesF (oV (Rc.hV off ts u ee D S k)) (oE (Rc.hV off ts u ee D S k)) W) from fun s off' A n c v0 d W hr=>han_of s c k W hr k0)
   generalize Rc.hV off ts u ee D S=H at HN2 HHO ⊢
   obtain ⟨ZB,LB,HB⟩:=zlB_boxes w s off A n c nm lz D S u ee m1 m2 m3 q1 q2 q3 lc lm
   clear hz hok HNW hOut
   go_enter Tryz.func48,Tryz.ntmps48
   go_upto_region 1 with fail
   generalize (w.alloc (.cells #[.string s,.int .i64 off,.slice A n c] 71)).alloc (.cells #[.string nm,.int .i64 lz,.int .i64 D,.int .i64 S,.int .i64 u,.int .i64 ee,.slice m1 m2 m3,.slice q1 q2 q3,.int .i64 lc,.int .i64 lm] 39)=W0 at ZB LB HB ⊢
   obtain ⟨z0,z1,z2⟩:=zB_cells ZB;obtain ⟨l0,l1,l2,l3,l4,l5,l6,l7,l8,l9⟩:=lB_cells LB;
   go_upto_region 5 with (go_at_call 75;refine (HCK.out _ HB.out).mono ?_;rintro e w5 ⟨rfl,hb5⟩;rw [HO.out];have HB5:=Lib.hid (bstep HB.out hb5);have KZ:=Lib.hid (ZB.out.after hb5);have KL:=Lib.hid (LB.out.after hb5);clear hb5 z0 z1 z2 l0 l1 l2 l3 l4 l5 l6 l7 l8 l9)
   obtain ⟨z0,z1,z2⟩:=zB_cells KZ;obtain ⟨l0,l1,l2,l3,l4,l5,l6,l7,l8,l9⟩:=lB_cells KL;
   go_wp2_with (first|(go_at_call 76;refine (HN2.out _ HB5.out).mono ?_;rintro e w6 ⟨s6,o6,A6,n6,c6,v6,d6,rfl,hr6,hb6⟩;have HB6:=Lib.hid (bstep HB5.out hb6);have HR6:=Lib.hid hr6;clear hb6 hr6 z0 z1 z2 l0 l1 l2 l3 l4 l5 l6 l7 l8 l9)|(go_at_call 77;refine (HHO.out _ _ _ _ _ _ _ _ HR6.out).mono ?_;rintro e w7 ⟨rfl,hb7⟩;have HB7:=Lib.hid (bstep HB6.out hb7);clear hb7))
   go_ret2
   exact ⟨rfl,HB7.out⟩
set_option maxHeartbeats 8000000 in
theorem pShi_is {off:Int} {rs:List Zn.Rule} {ts:Zn.L} (hZ:Zn.trans off rs=(ts,0)) (u ee D S:Int) (s:ByteArray) (A:Option Addr) (n c:Nat) (nm:ByteArray) (lz:Int) (m1:Option Addr) (m2 m3:Nat) (q1:Option Addr) (q2 q3:Nat) (lc lm:Int) (t:Int) (w:World) (hz:ZIn w A n rs) (ho:I64 off) (hk:I64 t):
  Calls Tryz.prog 57 #[.agg #[.string s,.int .i64 off,.slice A n c],.agg #[.string nm,.int .i64 lz,.int .i64 D,.int .i64 S,.int .i64 u,.int .i64 ee,.slice m1 m2 m3,.slice q1 q2 q3,.int .i64 lc,.int .i64 lm],.int .i64 t] w fun e w'=> ∃k er:Int,e= .returned (.tuple #[.int .i64 k,.int .i64 er])∧Rc.SOut (Rc.okL u ee D S m2) (Rc.hV off ts u ee D S) t k er∧Below w.heap.size w w':=by
 have HCK:=Lib.hid (show ∀W,Below w.heap.size w W→_ from fun W hb=>pchk_is hZ u ee D S s A n c nm lz m1 m2 m3 q1 q2 q3 lc lm W (hz.below hb) ho)
 have HNW:=Lib.hid (show ∀(hr:Rc.Rt u ee D S) W,Below w.heap.size w W→_ from fun hr W hb=>new_is hZ hr s A n c nm lz m1 m2 m3 q1 q2 q3 lc lm W (hz.below hb))
 cases hok:Rc.okL u ee D S m2 with
 |false=>
  have HO:=Lib.hid (show Rc.chkO (Rc.okL u ee D S m2)=8 by rw [hok];rfl)
  obtain ⟨ZB,LB,HB⟩:=zlB_boxes w s off A n c nm lz D S u ee m1 m2 m3 q1 q2 q3 lc lm
  clear hz hok HNW
  go_enter Tryz.func57,Tryz.ntmps57
  go_upto_region 1 with fail
  generalize (w.alloc (.cells #[.string s,.int .i64 off,.slice A n c] 71)).alloc (.cells #[.string nm,.int .i64 lz,.int .i64 D,.int .i64 S,.int .i64 u,.int .i64 ee,.slice m1 m2 m3,.slice q1 q2 q3,.int .i64 lc,.int .i64 lm] 39)=W0 at ZB LB HB ⊢
  obtain ⟨z0,z1,z2⟩:=zB_cells ZB;obtain ⟨l0,l1,l2,l3,l4,l5,l6,l7,l8,l9⟩:=lB_cells LB;
  go_wp2_with (go_at_call 75;refine (HCK.out _ HB.out).mono ?_;rintro e w5 ⟨rfl,hb5⟩;rw [HO.out];have HB5:=Lib.hid (bstep HB.out hb5);clear hb5)
  go_ret2
  exact ⟨0,8,rfl,⟨fun _=>⟨rfl,rfl⟩,fun h=>(by cases h),fun h=>(by cases h)⟩,HB5.out⟩
 |true=>
  have HO:=Lib.hid (show Rc.chkO (Rc.okL u ee D S m2)=0 by rw [hok];rfl)
  obtain ⟨hr, -⟩:=Rc.okL_rt hok
  by_cases h0:t<0∨8589934592<t
  ·have h0':(decide (t<0)||decide (8589934592<t))=true:=by simpa using h0
   obtain ⟨ZB,LB,HB⟩:=zlB_boxes w s off A n c nm lz D S u ee m1 m2 m3 q1 q2 q3 lc lm
   clear hz hok HNW
   go_enter Tryz.func57,Tryz.ntmps57
   go_upto_region 1 with fail
   generalize (w.alloc (.cells #[.string s,.int .i64 off,.slice A n c] 71)).alloc (.cells #[.string nm,.int .i64 lz,.int .i64 D,.int .i64 S,.int .i64 u,.int .i64 ee,.slice m1 m2 m3,.slice q1 q2 q3,.int .i64 lc,.int .i64 lm] 39)=W0 at ZB LB HB ⊢
   obtain ⟨z0,z1,z2⟩:=zB_cells ZB;obtain ⟨l0,l1,l2,l3,l4,l5,l6,l7,l8,l9⟩:=lB_cells LB;
   go_wp2_with (go_at_call 75;refine (HCK.out _ HB.out).mono ?_;rintro e w5 ⟨rfl,hb5⟩;rw [HO.out];have HB5:=Lib.hid (bstep HB.out hb5);clear hb5)
   all_goals first|(exfalso;omega)|skip
   all_goals (go_ret2;exact ⟨0,1,rfl,⟨fun h=>(by cases h),fun _ _=>⟨rfl,rfl⟩,fun _ a b=>by omega⟩,HB5.out⟩)
  ·have HN2:=Lib.hid (HNW.out hr)
   have t0:0≤t:=by omega
   have t1:t≤8589934592:=by omega
   have HHO:=Lib.hid (show ∀(s:ByteArray) (off':Int) (A:Option Addr) (n c:Nat) (v0 d:Int) W,RIn (Rc.hV off ts u ee D S) W off' A n v0 d→Calls Tryz.prog 90 #[.agg #[.string s,.int .i64 off',.slice A n c,.int .i64 v0,.int .i64 d],.int .i64 t] W (fun e w'=> ∃k:Int,e= .returned (.int .i64 k)∧Rc.ShiftIs (Rc.hV off ts u ee D S) t k∧Below W.heap.size W w') from fun s off' A n c v0 d W hr=>shi_of s c t W hr t0 t1)
   generalize Rc.hV off ts u ee D S=H at HN2 HHO ⊢
   obtain ⟨ZB,LB,HB⟩:=zlB_boxes w s off A n c nm lz D S u ee m1 m2 m3 q1 q2 q3 lc lm
   clear hz hok HNW h0
   go_enter Tryz.func57,Tryz.ntmps57
   go_upto_region 1 with fail
   generalize (w.alloc (.cells #[.string s,.int .i64 off,.slice A n c] 71)).alloc (.cells #[.string nm,.int .i64 lz,.int .i64 D,.int .i64 S,.int .i64 u,.int .i64 ee,.slice m1 m2 m3,.slice q1 q2 q3,.int .i64 lc,.int .i64 lm] 39)=W0 at ZB LB HB ⊢
   obtain ⟨z0,z1,z2⟩:=zB_cells ZB;obtain ⟨l0,l1,l2,l3,l4,l5,l6,l7,l8,l9⟩:=lB_cells LB;
   go_upto_region 5 with (go_at_call 75;refine (HCK.out _ HB.out).mono ?_;rintro e w5 ⟨rfl,hb5⟩;rw [HO.out];have HB5:=Lib.hid (bstep HB.out hb5);have KZ:=Lib.hid (ZB.out.after hb5);have KL:=Lib.hid (LB.out.after hb5);clear hb5 z0 z1 z2 l0 l1 l2 l3 l4 l5 l6 l7 l8 l9)
   obtain ⟨z0,z1,z2⟩:=zB_cells KZ;obtain ⟨l0,l1,l2,l3,l4,l5,l6,l7,l8,l9⟩:=lB_cells KL;
   go_wp2_with (first|(go_at_call 76;refine (HN2.out _ HB5.out).mono ?_;rintro e w6 ⟨s6,o6,A6,n6,c6,v6,d6,rfl,hr6,hb6⟩;have HB6:=Lib.hid (bstep HB5.out hb6);have HR6:=Lib.hid hr6;clear hb6 hr6 z0 z1 z2 l0 l1 l2 l3 l4 l5 l6 l7 l8 l9)|(go_at_call 90;refine (HHO.out _ _ _ _ _ _ _ _ HR6.out).mono ?_;rintro e w7 ⟨k,rfl,hs,hb7⟩;have HB7:=Lib.hid (bstep HB6.out hb7);have HS:=Lib.hid hs;clear hb7 hs))
   go_ret2
   exact ⟨k,0,rfl,⟨fun h=>(by cases h),fun _ h=>by omega,fun _ _ _=>⟨rfl,HS.out⟩⟩,HB7.out⟩
set_option maxHeartbeats 8000000 in
theorem pTurn_is {off:Int} {rs:List Zn.Rule} {ts:Zn.L} (hZ:Zn.trans off rs=(ts,0)) (u ee D S:Int) (s:ByteArray) (A:Option Addr) (n c:Nat) (nm:ByteArray) (lz:Int) (m1:Option Addr) (m2 m3:Nat) (q1:Option Addr) (q2 q3:Nat) (lc lm:Int) (t:Int) (w:World) (hz:ZIn w A n rs) (ho:I64 off) (hk:I64 t) (hm:m2≤9223372036854775807):
  Calls Tryz.prog 44 #[.agg #[.string s,.int .i64 off,.slice A n c],.agg #[.string nm,.int .i64 lz,.int .i64 D,.int .i64 S,.int .i64 u,.int .i64 ee,.slice m1 m2 m3,.slice q1 q2 q3,.int .i64 lc,.int .i64 lm],.int .i64 t] w fun e w'=> ∃k er:Int,e= .returned (.tuple #[.int .i64 (Rc.turnV k er m2),.int .i64 er])∧Rc.SOut (Rc.okL u ee D S m2) (Rc.hV off ts u ee D S) t k er∧Below w.heap.size w w':=by
 have HHN:=Lib.hid (show ∀W,Below w.heap.size w W→_ from fun W hb=>pShi_is hZ u ee D S s A n c nm lz m1 m2 m3 q1 q2 q3 lc lm t W (hz.below hb) ho hk)
 have HQ:=Lib.hid (show ∀k er:Int,Rc.SOut (Rc.okL u ee D S m2) (Rc.hV off ts u ee D S) t k er→(er=0∧ -1≤k∧k≤2386092∧0<m2)∨(k=0∧(er=1∨er=8)) from fun k er h=>by
  cases hok:Rc.okL u ee D S m2 with
  |false=>obtain ⟨a,b⟩:=h.no hok;exact .inr ⟨a,.inr b⟩
  |true=>
   obtain ⟨hr,hm⟩:=Rc.okL_rt hok
   by_cases hf:t<0∨8589934592<t
   ·obtain ⟨a,b⟩:=h.far hok hf;exact .inr ⟨a,.inl b⟩
   ·obtain ⟨a,b⟩:=h.yes hok (by omega) (by omega)
    exact .inl ⟨a,b.1,Rc.shift_le (Zn.trans_vz hZ) hr b,hm⟩)
 obtain ⟨ZB,LB,HB⟩:=zlB_boxes w s off A n c nm lz D S u ee m1 m2 m3 q1 q2 q3 lc lm
 clear hz
 go_enter Tryz.func44,Tryz.ntmps44
 go_upto_region 1 with fail
 generalize (w.alloc (.cells #[.string s,.int .i64 off,.slice A n c] 71)).alloc (.cells #[.string nm,.int .i64 lz,.int .i64 D,.int .i64 S,.int .i64 u,.int .i64 ee,.slice m1 m2 m3,.slice q1 q2 q3,.int .i64 lc,.int .i64 lm] 39)=W0 at ZB LB HB ⊢
 obtain ⟨z0,z1,z2⟩:=zB_cells ZB;obtain ⟨l0,l1,l2,l3,l4,l5,l6,l7,l8,l9⟩:=lB_cells LB;
 go_upto_region 2 with (go_at_call 57;refine (HHN.out _ HB.out).mono ?_;rintro e w5 ⟨k,er,rfl,hs,hb5⟩;have HB5:=Lib.hid (bstep HB.out hb5);have KL:=Lib.hid (LB.out.after hb5);have HS:=Lib.hid hs;clear hb5 hs z0 z1 z2 l0 l1 l2 l3 l4 l5 l6 l7 l8 l9)
 have k6:=KL.out.cell (i:=6) rfl
 rcases HQ.out k er HS.out with ⟨rfl,b1,b2,b3⟩|⟨rfl,he⟩
 ·by_cases hk0:k<0
  ·obtain rfl:k= -1:=by omega
   go_wp2_with fail
   go_ret2
   exact ⟨-1,0,rfl,HS.out,HB5.out⟩
  ·have hm0:¬(m2:Int)=0:=by omega
   have k0:0≤k:=by omega
   have e0:=Int.emod_nonneg k (show (m2:Int)≠0 by omega)
   have e1:=Int.emod_lt_of_pos k (show (0:Int)<m2 by omega)
   have ht:k.tmod m2=k%m2:=Int.tmod_eq_emod_of_nonneg k0
   obtain ⟨q,hq⟩: ∃q,k%(m2:Int)=q:=⟨_,rfl⟩
   have HT:=Lib.hid (show Rc.turnV k 0 m2=q by unfold Rc.turnV;rw [if_neg (by simp),if_neg (by omega),hq])
   rw [hq] at e0 e1 ht
   have ⟨v1,v1'⟩:=wrapn (n:=q) (by omega)
   go_wp2_with fail
   go_ret2
   exact ⟨k,0,by rw [HT.out];rfl,HS.out,HB5.out⟩
 ·have hn:(er !=0)=true:=by rcases he with rfl|rfl<;>rfl
  have HT:=Lib.hid (show Rc.turnV 0 er m2=0 by unfold Rc.turnV;rw [if_pos (by simpa using hn)])
  clear he
  go_wp2_with fail
  go_ret2
  exact ⟨0,er,by rw [HT.out];rfl,HS.out,HB5.out⟩
set_option maxHeartbeats 8000000 in
theorem pHdvC_is {off:Int} {rs:List Zn.Rule} {ts:Zn.L} (hZ:Zn.trans off rs=(ts,0)) (u ee D S:Int) (s:ByteArray) (A:Option Addr) (n c:Nat) (nm:ByteArray) (lz:Int) (m1:Option Addr) (m2 m3:Nat) (q1:Option Addr) (q2 q3:Nat) (lc lm:Int) (f t:Int) (w:World) (hz:ZIn w A n rs) (ho:I64 off) (hf:I64 f) (ht:I64 t):
  Calls Tryz.prog 58 #[.agg #[.string s,.int .i64 off,.slice A n c],.agg #[.string nm,.int .i64 lz,.int .i64 D,.int .i64 S,.int .i64 u,.int .i64 ee,.slice m1 m2 m3,.slice q1 q2 q3,.int .i64 lc,.int .i64 lm],.int .i64 f,.int .i64 t] w (HdvC (Rc.okL u ee D S m2) (Rc.hV off ts u ee D S) f t w):=by
 have HCK:=Lib.hid (show ∀W,Below w.heap.size w W→_ from fun W hb=>pchk_is hZ u ee D S s A n c nm lz m1 m2 m3 q1 q2 q3 lc lm W (hz.below hb) ho)
 have HNW:=Lib.hid (show ∀(hr:Rc.Rt u ee D S) W,Below w.heap.size w W→_ from fun hr W hb=>new_is hZ hr s A n c nm lz m1 m2 m3 q1 q2 q3 lc lm W (hz.below hb))
 cases hok:Rc.okL u ee D S m2 with
 |false=>
  have HO:=Lib.hid (show Rc.chkO (Rc.okL u ee D S m2)=8 by rw [hok];rfl)
  obtain ⟨ZB,LB,HB⟩:=zlB_boxes w s off A n c nm lz D S u ee m1 m2 m3 q1 q2 q3 lc lm
  clear hz hok HNW
  go_enter Tryz.func58,Tryz.ntmps58
  go_upto_region 1 with fail
  generalize (w.alloc (.cells #[.string s,.int .i64 off,.slice A n c] 71)).alloc (.cells #[.string nm,.int .i64 lz,.int .i64 D,.int .i64 S,.int .i64 u,.int .i64 ee,.slice m1 m2 m3,.slice q1 q2 q3,.int .i64 lc,.int .i64 lm] 39)=W0 at ZB LB HB ⊢
  obtain ⟨z0,z1,z2⟩:=zB_cells ZB;obtain ⟨l0,l1,l2,l3,l4,l5,l6,l7,l8,l9⟩:=lB_cells LB;
  go_wp2_with (go_at_call 75;refine (HCK.out _ HB.out).mono ?_;rintro e w5 ⟨rfl,hb5⟩;rw [HO.out];have HB5:=Lib.hid (bstep HB.out hb5);clear hb5)
  go_ret2
  exact ⟨[],8,none,0,rfl,⟨fun _=>⟨rfl,rfl⟩,fun h=>(by cases h),fun h=>(by cases h)⟩,ListAt.nil_,by simp,HB5.out,Nat.le_refl _⟩
 |true=>
  have HO:=Lib.hid (show Rc.chkO (Rc.okL u ee D S m2)=0 by rw [hok];rfl)
  obtain ⟨hr, -⟩:=Rc.okL_rt hok
  have hv:=Zn.trans_vz hZ
  have HN2:=Lib.hid (HNW.out hr)
  have HHO:=Lib.hid (show ∀(s:ByteArray) (off':Int) (A:Option Addr) (n c:Nat) (v0 d:Int) W,RIn (Rc.hV off ts u ee D S) W off' A n v0 d→0≤f→f≤t→t≤8589934592→t-f≤34560000→Calls Tryz.prog 91 #[.agg #[.string s,.int .i64 off',.slice A n c,.int .i64 v0,.int .i64 d],.int .i64 f,.int .i64 t] W (BtwV (Rc.hV off ts u ee D S) f t W) from fun s off' A n c v0 d W h h1 h2 h3 h4=>btw_of hv hr s c f t W h h1 h2 h3 h4)
  generalize Rc.hV off ts u ee D S=H at HN2 HHO ⊢
  clear hz HNW hv hr
  have HOK:=Lib.hid hok
  clear hok
  by_cases h1:f<0
  ·have hbad:¬(0≤f∧f≤8589934592∧f≤t∧t≤8589934592∧t-f≤34560000):=by omega
   obtain ⟨ZB,LB,HB⟩:=zlB_boxes w s off A n c nm lz D S u ee m1 m2 m3 q1 q2 q3 lc lm
   clear HHO HN2
   go_enter Tryz.func58,Tryz.ntmps58
   go_upto_region 1 with fail
   generalize (w.alloc (.cells #[.string s,.int .i64 off,.slice A n c] 71)).alloc (.cells #[.string nm,.int .i64 lz,.int .i64 D,.int .i64 S,.int .i64 u,.int .i64 ee,.slice m1 m2 m3,.slice q1 q2 q3,.int .i64 lc,.int .i64 lm] 39)=W0 at ZB LB HB ⊢
   obtain ⟨z0,z1,z2⟩:=zB_cells ZB;obtain ⟨l0,l1,l2,l3,l4,l5,l6,l7,l8,l9⟩:=lB_cells LB;
   go_wp2_with (go_at_call 75;refine (HCK.out _ HB.out).mono ?_;rintro e w5 ⟨rfl,hb5⟩;rw [HO.out];have HB5:=Lib.hid (bstep HB.out hb5);clear hb5)
   go_ret2
   exact ⟨[],1,none,0,rfl,⟨fun h=>(by cases h),fun _ _=>⟨rfl,rfl⟩,fun _ h=>absurd h hbad⟩,ListAt.nil_,by simp,HB5.out,Nat.le_refl _⟩
  ·by_cases h2:t<f
   ·have hbad:¬(0≤f∧f≤8589934592∧f≤t∧t≤8589934592∧t-f≤34560000):=by omega
    obtain ⟨ZB,LB,HB⟩:=zlB_boxes w s off A n c nm lz D S u ee m1 m2 m3 q1 q2 q3 lc lm
    clear HHO HN2
    go_enter Tryz.func58,Tryz.ntmps58
    go_upto_region 1 with fail
    generalize (w.alloc (.cells #[.string s,.int .i64 off,.slice A n c] 71)).alloc (.cells #[.string nm,.int .i64 lz,.int .i64 D,.int .i64 S,.int .i64 u,.int .i64 ee,.slice m1 m2 m3,.slice q1 q2 q3,.int .i64 lc,.int .i64 lm] 39)=W0 at ZB LB HB ⊢
    obtain ⟨z0,z1,z2⟩:=zB_cells ZB;obtain ⟨l0,l1,l2,l3,l4,l5,l6,l7,l8,l9⟩:=lB_cells LB;
    go_wp2_with (go_at_call 75;refine (HCK.out _ HB.out).mono ?_;rintro e w5 ⟨rfl,hb5⟩;rw [HO.out];have HB5:=Lib.hid (bstep HB.out hb5);clear hb5)
    go_ret2
    exact ⟨[],1,none,0,rfl,⟨fun h=>(by cases h),fun _ _=>⟨rfl,rfl⟩,fun _ h=>absurd h hbad⟩,ListAt.nil_,by simp,HB5.out,Nat.le_refl _⟩
   ·by_cases h3:8589934592<t
    ·have hbad:¬(0≤f∧f≤8589934592∧f≤t∧t≤8589934592∧t-f≤34560000):=by omega
     obtain ⟨ZB,LB,HB⟩:=zlB_boxes w s off A n c nm lz D S u ee m1 m2 m3 q1 q2 q3 lc lm
     clear HHO HN2
     go_enter Tryz.func58,Tryz.ntmps58
     go_upto_region 1 with fail
     generalize (w.alloc (.cells #[.string s,.int .i64 off,.slice A n c] 71)).alloc (.cells #[.string nm,.int .i64 lz,.int .i64 D,.int .i64 S,.int .i64 u,.int .i64 ee,.slice m1 m2 m3,.slice q1 q2 q3,.int .i64 lc,.int .i64 lm] 39)=W0 at ZB LB HB ⊢
     obtain ⟨z0,z1,z2⟩:=zB_cells ZB;obtain ⟨l0,l1,l2,l3,l4,l5,l6,l7,l8,l9⟩:=lB_cells LB;
     go_wp2_with (go_at_call 75;refine (HCK.out _ HB.out).mono ?_;rintro e w5 ⟨rfl,hb5⟩;rw [HO.out];have HB5:=Lib.hid (bstep HB.out hb5);clear hb5)
     go_ret2
     exact ⟨[],1,none,0,rfl,⟨fun h=>(by cases h),fun _ _=>⟨rfl,rfl⟩,fun _ h=>absurd h hbad⟩,ListAt.nil_,by simp,HB5.out,Nat.le_refl _⟩
    ·have ⟨w1,w1'⟩:=wrapn (n:=t-f) (by omega)
     by_cases h4:34560000<t-f
     ·have hbad:¬(0≤f∧f≤8589934592∧f≤t∧t≤8589934592∧t-f≤34560000):=by omega
      obtain ⟨ZB,LB,HB⟩:=zlB_boxes w s off A n c nm lz D S u ee m1 m2 m3 q1 q2 q3 lc lm
      clear HHO HN2
      go_enter Tryz.func58,Tryz.ntmps58
      go_upto_region 1 with fail
      generalize (w.alloc (.cells #[.string s,.int .i64 off,.slice A n c] 71)).alloc (.cells #[.string nm,.int .i64 lz,.int .i64 D,.int .i64 S,.int .i64 u,.int .i64 ee,.slice m1 m2 m3,.slice q1 q2 q3,.int .i64 lc,.int .i64 lm] 39)=W0 at ZB LB HB ⊢
      obtain ⟨z0,z1,z2⟩:=zB_cells ZB;obtain ⟨l0,l1,l2,l3,l4,l5,l6,l7,l8,l9⟩:=lB_cells LB;
      go_wp2_with (go_at_call 75;refine (HCK.out _ HB.out).mono ?_;rintro e w5 ⟨rfl,hb5⟩;rw [HO.out];have HB5:=Lib.hid (bstep HB.out hb5);clear hb5)
      go_ret2
      exact ⟨[],1,none,0,rfl,⟨fun h=>(by cases h),fun _ _=>⟨rfl,rfl⟩,fun _ h=>absurd h hbad⟩,ListAt.nil_,by simp,HB5.out,Nat.le_refl _⟩
     ·have f0:0≤f:=by omega
      have f1:f≤t:=by omega
      have t1:t≤8589934592:=by omega
      have fq1:t-f≤34560000:=by omega
      have HG:=Lib.hid (show 0≤f∧f≤8589934592∧f≤t∧t≤8589934592∧t-f≤34560000 by omega)
      obtain ⟨ZB,LB,HB⟩:=zlB_boxes w s off A n c nm lz D S u ee m1 m2 m3 q1 q2 q3 lc lm
      go_enter Tryz.func58,Tryz.ntmps58
      go_upto_region 1 with fail
      generalize (w.alloc (.cells #[.string s,.int .i64 off,.slice A n c] 71)).alloc (.cells #[.string nm,.int .i64 lz,.int .i64 D,.int .i64 S,.int .i64 u,.int .i64 ee,.slice m1 m2 m3,.slice q1 q2 q3,.int .i64 lc,.int .i64 lm] 39)=W0 at ZB LB HB ⊢
      obtain ⟨z0,z1,z2⟩:=zB_cells ZB;obtain ⟨l0,l1,l2,l3,l4,l5,l6,l7,l8,l9⟩:=lB_cells LB;
      go_upto_region 5 with (go_at_call 75;refine (HCK.out _ HB.out).mono ?_;rintro e w5 ⟨rfl,hb5⟩;rw [HO.out];have HB5:=Lib.hid (bstep HB.out hb5);have KZ:=Lib.hid (ZB.out.after hb5);have KL:=Lib.hid (LB.out.after hb5);clear hb5 z0 z1 z2 l0 l1 l2 l3 l4 l5 l6 l7 l8 l9)
      obtain ⟨z0,z1,z2⟩:=zB_cells KZ;obtain ⟨l0,l1,l2,l3,l4,l5,l6,l7,l8,l9⟩:=lB_cells KL;
      go_wp2_with (first|(go_at_call 76;refine (HN2.out _ HB5.out).mono ?_;rintro e w6 ⟨s6,o6,A6,n6,c6,v6,d6,rfl,hr6,hb6⟩;have HB6:=Lib.hid (bstep HB5.out hb6);have HR6:=Lib.hid hr6;clear hb6 hr6 z0 z1 z2 l0 l1 l2 l3 l4 l5 l6 l7 l8 l9)|(go_at_call 91;refine (HHO.out _ _ _ _ _ _ _ _ HR6.out f0 f1 t1 fq1).mono ?_;rintro e w7 ⟨L,B7,c7,rfl,hL,hI,hl,hb7,hcp7⟩;have HCP7:=Lib.hid hcp7;clear hcp7;have HB7:=Lib.hid (bstep HB6.out hb7);have HS:=Lib.hid (And.intro hL (And.intro hI hl));clear hb7 hL hI hl))
      go_ret2
      exact ⟨L,0,B7,c7,rfl,⟨fun h=>(by cases h),fun _ h=>absurd HG.out h,fun _ _=>⟨rfl,HS.out.1⟩⟩,HS.out.2.1,HS.out.2.2,HB7.out,HCP7.out⟩
end Go.Proofs.YtfamcohbnoibaaaGreatDoor
