import Derived.Test.YtfamcohbnoibaaaGreatDoorKG07
import Derived.Test.YtfamcohbnoibaaaGreatDoorKG20
import Derived.Test.YtfamcohbnoibaaaGreatDoorKG01
import Derived.Test.YtfamcohbnoibaaaGreatDoorKG00
set_option linter.unusedVariables false
set_option linter.unusedSimpArgs false
set_option maxRecDepth 100000
namespace Go.Proofs.YtfamcohbnoibaaaGreatDoor
open Go.RowKit
def secV (off:Int) (ts:Zn.L) (er x:Int):Int:=if offE er x≠0 then 0 else Wk.sow (x+offV off ts er x)
theorem loc_parts {off:Int} {rs:List Zn.Rule} {ts:Zn.L} {er x:Int} (h:Zn.trans off rs=(ts,er)) (he:offE er x=0):
  ∃D S K,locV off ts er x=(D,S)∧Civ.wd D=K∧0≤K∧K≤6∧0≤S∧S<86400∧ -10≤D∧D≤200000∧secV off ts er x=K*86400+S:=by
 have hb:0≤x∧x≤8589934592∧ -64800≤offV off ts er x∧offV off ts er x≤64800:=by
  unfold offE at he
  by_cases h0:er=0
  ·subst h0
   by_cases hx:x<0∨8589934592<x
   ·simp [hx] at he
   ·obtain ⟨k1,k2,k3,k4,k5,k6,k7,k8⟩:=Zn.trans_ok h
    have :=offAt_bd x k1 k8
    rw [Zn.okO_iff] at this
    have hv:offV off ts 0 x=Zn.offAt off ts x:=by unfold offV;simp [hx]
    rw [hv];omega
  ·simp [h0] at he
 refine ⟨(x+offV off ts er x)/86400,(x+offV off ts er x)%86400,_,by unfold locV;rw [if_neg (by simpa using he)];rfl,rfl,(Civ.wd_bd _).1,(Civ.wd_bd _).2, ?_, ?_, ?_, ?_, ?_⟩
 ·omega
 ·omega
 ·omega
 ·omega
 ·unfold secV;rw [if_neg (by simpa using he)];rfl
set_option maxHeartbeats 4000000 in
theorem sec_is {off:Int} {rs:List Zn.Rule} {ts:Zn.L} {er:Int} (h:Zn.trans off rs=(ts,er)) (s:ByteArray) (A:Option Addr) (n c:Nat) (x:Int) (w:World) (hz:ZIn w A n rs) (ho:I64 off):
  Calls Tryz.prog 108 #[.agg #[.string s,.int .i64 off,.slice A n c],.int .i64 x] w fun e w'=>e= .returned (.tuple #[.int .i64 (secV off ts er x),.int .i64 (offE er x)])∧Below w.heap.size w w':=by
 have C:=toLocal_is h s A n c x _ (hz.alloc (.cells #[.string s,.int .i64 off,.slice A n c] 71)) ho
 by_cases he:offE er x=0
 ·obtain ⟨D,S,K,hl,hK,k1,k2,s1,s2,d1,d2,hv⟩:=loc_parts h he
  rw [he,hl] at C
  rw [he,hv]
  have WD:=fun W=>hK▸wday_any D W (by omega) (by omega)
  have HC:=Lib.hid C
  have HW:=Lib.hid WD
  have e1:IntKind.i64.wrap (K*86400)=K*86400:=by rw [IntKind.wrap_i64];omega
  have e2:IntKind.i64.wrap (K*86400+S)=K*86400+S:=by rw [IntKind.wrap_i64];omega
  clear h hz C hl hK hv WD he
  go_enter Tryz.func108,Tryz.ntmps108
  go_wp2_with fail
  refine HC.out.mono ?_
  rintro e w1 ⟨rfl,hb⟩
  have B1:Below w.heap.size w w1:=below_alloc_call hb
  have HB:=Lib.hid B1
  have hsz:=B1.size
  clear hb B1
  go_wp2_with fail
  go_quiet ((go_at_call 166;exact qsame (HW.out _)))
  go_wp2_with fail
  go_ret2
  exact ⟨rfl,below_drewN (HB.out.alloc hsz _) _⟩
 ·have hv:secV off ts er x=0:=by unfold secV;rw [if_pos he]
  have hne:(offE er x !=0)=true:=by simpa using he
  rw [hv]
  generalize offE er x=ee at C hne ⊢
  obtain ⟨⟨D,S⟩,hl⟩: ∃p,locV off ts er x=p:=⟨_,rfl⟩
  rw [hl] at C
  have HC:=Lib.hid C
  clear h hz C hl hv he
  go_enter Tryz.func108,Tryz.ntmps108
  go_wp2_with fail
  refine HC.out.mono ?_
  rintro e w1 ⟨rfl,hb⟩
  have B1:Below w.heap.size w w1:=below_alloc_call hb
  have HB:=Lib.hid B1
  have hsz:=B1.size
  clear hb B1
  go_wp2_with fail
  go_ret2
  exact ⟨rfl,HB.out.alloc hsz _⟩
set_option maxHeartbeats 1000000 in
theorem inf_any (b7:Nat) (s a b:Int) (W:World) (h:W.cell? ⟨b7,0,none⟩=some (.int .i64 s)):
  Calls Tryz.prog 111 #[.agg #[.int .i64 a,.int .i64 b],.pointer (some ⟨b7,0,none⟩)] W fun e w'=>e= .returned (.bool (decide (a≤s∧s<b)))∧Below W.heap.size W w':=by
 have hlt:=World.block_lt_of_cell? W _ h
 simp only at hlt
 by_cases h1:a≤s
 ·by_cases h2:s<b
  ·have hd:=Lib.hid (show decide (a≤s∧s<b)=true from decide_eq_true ⟨h1,h2⟩)
   go_enter Tryz.func111,Tryz.ntmps111
   go_wp2_with fail
   go_ret
   exact ⟨ret_bool hd.out.symm,(Below.refl _ _).alloc (Nat.le_refl _) _⟩
  ·have hd:=Lib.hid (show decide (a≤s∧s<b)=false from decide_eq_false (by omega))
   go_enter Tryz.func111,Tryz.ntmps111
   go_wp2_with fail
   go_ret
   exact ⟨ret_bool (by simp [h1,h2]),(Below.refl _ _).alloc (Nat.le_refl _) _⟩
 ·have hd:=Lib.hid (show decide (a≤s∧s<b)=false from decide_eq_false (by omega))
  go_enter Tryz.func111,Tryz.ntmps111
  go_wp2_with fail
  go_ret
  exact ⟨ret_bool (by simp;omega),(Below.refl _ _).alloc (Nat.le_refl _) _⟩
set_option maxHeartbeats 2000000 in
theorem ixf_any (A:Option Addr) (n c b7:Nat) (l:Wk.L) (s:Int) (w:World) (hA:WIn w A n l) (hs:w.cell? ⟨b7,0,none⟩=some (.int .i64 s)):
  Calls Tryz.prog 167 #[.slice A n c,.func (.func 111) #[] #[.pointer (some ⟨b7,0,none⟩)]] w fun e w'=> ∃r,e= .returned (.int .i64 r)∧decide (0≤r)=Wk.within l s∧Below w.heap.size w w':=by
 have HA:=Lib.hid hA
 have HS:=Lib.hid hs
 have hn:=hA.le
 have h7:=World.block_lt_of_cell? w _ hs
 simp only at h7
 clear hA hs
 go_enter Tryz.func167,Tryz.ntmps167
 go_wp2_with fail
 go_loopw [8] (fun i wr=> ∃(k:Nat),k≤n∧i= .int .i64 k∧Hid (Wk.within l s=Wk.within (l.drop k) s)∧Hid (Below w.heap.size w wr)) (fun i _=>n-(intOf i).toNat)
 case atStart=>exact ⟨0,Nat.zero_le _,rfl,Lib.hid rfl,Lib.hid (Below.refl _ _)⟩
 case round=>
  obtain ⟨k,hk,rfl,HW,HB⟩:=hrel
  by_cases hlt:k<n
  ·obtain ⟨a,b,bl,of,hx,rfl,hb,c0,c1⟩:=(HA.out.below HB.out).get hlt
   have hrz:=HB.out.size
   have C:=inf_any b7 s a b wr (cell_keep HS.out HB.out)
   have hw:=HW.out
   rw [drop_cons' hx,Wk.within_cons] at hw
   simp only at hw
   have HWW:=Lib.hid hw
   clear hx hw HW
   by_cases hd:a≤s∧s<b
   ·rw [decide_eq_true hd] at C
    have HC:=Lib.hid C
    have HV:=Lib.hid (show Wk.within l s=true by rw [HWW.out,decide_eq_true hd];rfl)
    clear C HWW hd
    go_wp2_with fail
    refine HC.out.mono ?_
    rintro e w1 ⟨rfl,b1⟩
    have B1:=bstep HB.out b1
    go_wp2_with fail
    go_ret
    exact ⟨_,rfl,by rw [HV.out];simp,B1⟩
   ·rw [decide_eq_false hd] at C
    have HC:=Lib.hid C
    have HV:=Lib.hid (show Wk.within l s=Wk.within (l.drop (k+1)) s by rw [HWW.out,decide_eq_false hd];rfl)
    clear C HWW hd
    go_wp2_with fail
    refine HC.out.mono ?_
    rintro e w1 ⟨rfl,b1⟩
    have B1:=Lib.hid (bstep HB.out b1)
    clear b1
    go_wp2_with fail
    go_roundw
    case rel=>exact ⟨k+1,by omega,by go_num,HV,B1⟩
    case measure=>simp [intOf];omega
  ·have HV:=Lib.hid (show Wk.within l s=false by rw [HW.out,List.drop_of_length_le (by have :=HA.out.len;omega)];rfl)
   go_wp2_with fail
   go_ret
   exact ⟨_,rfl,by rw [HV.out];rfl,HB.out⟩
set_option maxHeartbeats 1000000 in
theorem ctf_any (A:Option Addr) (n c b7:Nat) (l:Wk.L) (s:Int) (w:World) (hA:WIn w A n l) (hs:w.cell? ⟨b7,0,none⟩=some (.int .i64 s)):
  Calls Tryz.prog 110 #[.slice A n c,.func (.func 111) #[] #[.pointer (some ⟨b7,0,none⟩)]] w fun e w'=>e= .returned (.bool (Wk.within l s))∧Below w.heap.size w w':=by
 have C:=Lib.hid (ixf_any A n c b7 l s w hA hs)
 clear hA hs
 go_enter Tryz.func110,Tryz.ntmps110
 go_wp2_with fail
 refine C.out.mono ?_
 rintro e w1 ⟨r,rfl,hr,b1⟩
 have HR:=Lib.hid hr
 clear hr
 go_wp2_with fail
 go_ret
 exact ⟨ret_bool HR.out,b1⟩
def inV (off:Int) (ts:Zn.L) (er:Int) (l:Wk.L) (x:Int):Bool:=decide (offE er x=0)&&(decide (Wk.chk l=0)&&Wk.within l (secV off ts er x))
set_option maxHeartbeats 4000000 in
theorem wkin_is {off:Int} {rs:List Zn.Rule} {ts:Zn.L} {er:Int} (h:Zn.trans off rs=(ts,er)) (s:ByteArray) (A:Option Addr) (n c:Nat) (A2:Option Addr) (n2 c2:Nat) (l:Wk.L) (x:Int) (w:World) (hz:ZIn w A n rs) (ho:I64 off) (hl:WIn w A2 n2 l):
  Calls Tryz.prog 72 #[.agg #[.string s,.int .i64 off,.slice A n c],.slice A2 n2 c2,.int .i64 x] w fun e w'=>e= .returned (.bool (inV off ts er l x))∧Below w.heap.size w w':=by
 have C:=Lib.hid (sec_is h s A n c x _ (hz.alloc (.cells #[.string s,.int .i64 off,.slice A n c] 71)) ho)
 obtain ⟨S,hS⟩: ∃S,secV off ts er x=S:=⟨_,rfl⟩
 obtain ⟨ee,hee⟩: ∃ee,offE er x=ee:=⟨_,rfl⟩
 rw [hS,hee] at C
 have hv:inV off ts er l x=(decide (ee=0)&&(decide (Wk.chk l=0)&&Wk.within l S)):=by unfold inV;rw [hS,hee]
 rw [hv]
 have HL:=Lib.hid hl
 clear h hz hS hee hv hl
 by_cases he:ee=0
 ·subst he
  by_cases hc:Wk.chk l=0
  ·have HC:=fun W (hW:WIn W A2 n2 l)=>hc▸wchk_any A2 n2 c2 l W hW
   have CH:=Lib.hid HC
   have HR:=Lib.hid (show (decide ((0:Int)=0)&&(decide (Wk.chk l=0)&&Wk.within l S))=Wk.within l S by rw [decide_eq_true hc];simp)
   clear HC hc
   go_enter Tryz.func72,Tryz.ntmps72
   go_wp2_with fail
   refine C.out.mono ?_
   rintro e w1 ⟨rfl,b1⟩
   have B1:=Lib.hid (below_alloc_call b1)
   have sz1:=B1.out.size
   have cS:(w1.alloc (.cells #[.int .i64 S] 3)).cell? ⟨w1.heap.size,0,none⟩=some (.int .i64 S):=BlkAt.cell (BlkAt.new w1 #[.int .i64 S] 3) rfl
   have HS:=Lib.hid cS
   clear b1 cS
   go_wp2_with fail
   refine (CH.out _ ((HL.out.below B1.out).alloc _)).mono ?_
   rintro e w2 ⟨rfl,b2⟩
   have B2:=Lib.hid ((B1.out.alloc sz1 (.cells #[.int .i64 S] 3)).trans (b2.mono (by simp;omega)))
   have HS2:=Lib.hid (cell_keep HS.out b2)
   clear b2
   go_wp2_with fail
   refine (ctf_any A2 n2 c2 w1.heap.size l S _ (HL.out.below B2.out) HS2.out).mono ?_
   rintro e w3 ⟨rfl,b3⟩
   go_wp2_with fail
   go_ret
   exact ⟨ret_bool HR.out.symm,bstep B2.out b3⟩
  ·obtain ⟨R,hR⟩: ∃R,Wk.chk l=R:=⟨_,rfl⟩
   rw [hR] at hc
   have hne:(R !=0)=true:=by simpa using hc
   have HC:=fun W (hW:WIn W A2 n2 l)=>hR▸wchk_any A2 n2 c2 l W hW
   have CH:=Lib.hid HC
   have HR:=Lib.hid (show (decide ((0:Int)=0)&&(decide (Wk.chk l=0)&&Wk.within l S))=false by rw [hR,decide_eq_false hc];simp)
   clear HC hc hR
   go_enter Tryz.func72,Tryz.ntmps72
   go_wp2_with fail
   refine C.out.mono ?_
   rintro e w1 ⟨rfl,b1⟩
   have B1:=Lib.hid (below_alloc_call b1)
   have sz1:=B1.out.size
   clear b1
   go_wp2_with fail
   refine (CH.out _ ((HL.out.below B1.out).alloc _)).mono ?_
   rintro e w2 ⟨rfl,b2⟩
   have B2:=Lib.hid ((B1.out.alloc sz1 (.cells #[.int .i64 S] 3)).trans (b2.mono (by simp;omega)))
   clear b2
   go_wp2_with fail
   go_ret
   exact ⟨ret_bool HR.out.symm,B2.out⟩
 ·have hne:(ee !=0)=true:=by simpa using he
  have HR:=Lib.hid (show (decide (ee=0)&&(decide (Wk.chk l=0)&&Wk.within l S))=false by rw [decide_eq_false he];simp)
  clear he
  go_enter Tryz.func72,Tryz.ntmps72
  go_wp2_with fail
  refine C.out.mono ?_
  rintro e w1 ⟨rfl,b1⟩
  have B1:=Lib.hid (below_alloc_call b1)
  have sz1:=B1.out.size
  clear b1
  go_wp2_with fail
  go_ret
  exact ⟨ret_bool HR.out.symm,B1.out.alloc sz1 _⟩
open Go.RowKit
theorem addP_skip {s:Wk.L} {a b:Int} (h:b≤a):Wk.addP s a b=s:=by unfold Wk.addP;rw [if_pos h]
theorem addP_first {a b:Int} (h:¬b≤a):Wk.addP [] a b=[(a,b)]:=by unfold Wk.addP;rw [if_neg h];rfl
theorem addP_join {s:Wk.L} {a b:Int} {y:Int×Int} (h:¬b≤a) (h2:s.getLast? =some y) (h3:y.2=a):Wk.addP s a b=s.dropLast++[(y.1,b)]:=by unfold Wk.addP;rw [if_neg h,h2];simp [h3]
theorem addP_app {s:Wk.L} {a b:Int} {y:Int×Int} (h:¬b≤a) (h2:s.getLast? =some y) (h3:y.2≠a):Wk.addP s a b=s++[(a,b)]:=by unfold Wk.addP;rw [if_neg h,h2];simp [h3]
theorem addP_len (s:Wk.L) (a b:Int):(Wk.addP s a b).length≤s.length+1:=by
 by_cases h:b≤a
 ·rw [addP_skip h];omega
 ·cases h2:s.getLast? with
  |none=>rw [List.getLast?_eq_none_iff] at h2;subst h2;rw [addP_first h];exact Nat.le_refl _
  |some y=>
   by_cases h3:y.2=a
   ·rw [addP_join h h2 h3];simp
   ·rw [addP_app h h2 h3];simp
theorem addW_len (l:Wk.L) (f t m:Int): ∀s:Wk.L,(Wk.addW l f t m s).length≤s.length+l.length:=by
 unfold Wk.addW
 induction l with
 |nil=>intro s;simp
 |cons x r ih=>
  intro s
  rw [List.foldl_cons]
  have :=ih (Wk.addP s (max (m+x.1) f) (min (m+x.2) t))
  have :=addP_len s (max (m+x.1) f) (min (m+x.2) t)
  rw [List.length_cons];omega
theorem last_set {s:Wk.L} {y:Int×Int} (h:s.getLast? =some y) (z:Int×Int):s.dropLast++[z]=s.set (s.length-1) z∧s[s.length-1]? =some y∧0<s.length:=by
 rcases List.eq_nil_or_concat s with rfl|⟨t,u,rfl⟩
 ·simp at h
 ·simp at h;subst h
  simp [List.set_append]
theorem encK_set2 {xs:Zn.L} {i:Nat} {x:Int×Int} (hx:xs[i]? =some x) (b:Int):encK 2 ePair (xs.set i (x.1,b))=(encK 2 ePair xs).set (i*2+1) (.int .i64 b):=by
 induction xs generalizing i with
 |nil=>simp at hx
 |cons y t ih=>
  match i,hx with
  |0,hx=>
   simp at hx;subst hx
   simp [encK_cons,List.range_succ,ePair]
  |i+1,hx=>
   have :=ih (i:=i) (by simpa using hx)
   simp only [List.set_cons_succ,encK_cons,this]
   simp [List.range_succ,Nat.add_mul]
theorem OwnL.set2 {T:TypeId} {w:World} {B g n cap:Nat} {xs:Zn.L} (h:OwnL T 2 ePair w B (.slice (some ⟨g,0,none⟩) n cap) xs) {i:Nat} {x:Int×Int} (hx:xs[i]? =some x) (b:Int):
  OwnL T 2 ePair (w.setCell ⟨g,i*2+1,none⟩ (.int .i64 b)) B (.slice (some ⟨g,0,none⟩) n cap) (xs.set i (x.1,b)):=by
 rcases h.2 with ⟨hv, -⟩|⟨g',cap',cur,hv,hB,hg,hc1,hc2,hc3,hc4⟩
 ·cases hv
 cases hv
 unfold OwnL
 have hl:=encK_len (k:=2) (e:=ePair) (xs.set i (x.1,b))
 rw [List.length_set] at hl ⊢
 refine ⟨hl,.inr ⟨g,cap,cur.setIfInBounds (i*2+1) (.int .i64 b),rfl,hB, ?_,hc1,hc2,by simpa using hc3, ?_⟩⟩
 ·have b1:BlkAt w g cur T:=hg
  exact BlkAt.set_ b1 (i*2+1) _
 ·rw [encK_set2 hx, ←hc4]
  simp only [Array.toList_setIfInBounds,List.take_set]
def Stp (w w':World) (v v':Value):Prop:=w.grownBy w' v.ownBlock∧ ∀g,v'.ownBlock=some g→v.ownBlock=some g∨w.heap.size≤g
theorem Stp.refl (w:World) (v:Value):Stp w w v v:=⟨grown_refl w _,fun g h=> .inl h⟩
theorem Stp.trans {w w1 w2:World} {v v1 v2:Value} (h:Stp w w1 v v1) (h2:Stp w1 w2 v1 v2):Stp w w2 v v2:=by
 refine ⟨⟨h2.1.os.trans h.1.os,h2.1.tape.trans h.1.tape,h2.1.output.trans h.1.output,Nat.le_trans h.1.size h2.1.size,fun k hk hr=> ?_⟩,fun g hg=> ?_⟩
 ·refine (h2.1.block k (Nat.lt_of_lt_of_le hk h.1.size) (fun e=> ?_)).trans (h.1.block k hk hr)
  rcases h.2 k e.symm with h3|h3
  ·exact hr h3.symm
  ·omega
 ·rcases h2.2 g hg with h3|h3
  ·exact h.2 g h3
  ·exact .inr (Nat.le_trans h.1.size h3)
theorem Stp.below {w w1 w2:World} {v v1:Value} (h:Stp w w1 v v1) (hb:Below w1.heap.size w1 w2):Stp w w2 v v1:=⟨grown_then h.1 hb h.1.size,h.2⟩
theorem Stp.alloc {w w1:World} {v v1:Value} (h:Stp w w1 v v1) (o:Obj):Stp w (w1.alloc o) v v1:=h.below ((Below.refl _ _).alloc (Nat.le_refl _) o)
theorem Stp.drewN {w w1:World} {v v1:Value} (h:Stp w w1 v v1) (q:Nat):Stp w (w1.drewN q) v v1:=⟨grown_drewN h.1 q,h.2⟩
theorem Stp.app {w w0 w1:World} {o:Obj} {v:Value} {g n cap:Nat} (hw:w0=w.alloc o) (hg:w0.grownBy w1 v.ownBlock) (hgo:v.ownBlock=some g∨g=w0.heap.size):Stp w w1 v (.slice (some ⟨g,0,none⟩) n cap):=by
 subst hw
 refine ((Stp.refl w v).alloc o).trans ⟨hg,fun g' h=> ?_⟩
 simp only [Value.ownBlock,Option.some.injEq] at h
 subst h
 rcases hgo with h|h
 ·exact .inl h
 ·exact .inr (by omega)
set_option maxHeartbeats 4000000 in
theorem add_any (v:Value) (s:Wk.L) (a b:Int) (B:Nat) (w:World) (hO:OwnL 82 2 ePair w B v s) (hl:s.length≤900000) (hB:B≤w.heap.size):
  Calls Tryz.prog 174 #[v,.int .i64 a,.int .i64 b] w fun e w'=> ∃v',e= .returned v'∧OwnL 82 2 ePair w' B v' (Wk.addP s a b)∧Stp w w' v v':=by
 obtain ⟨R,hR⟩: ∃R,Wk.addP s a b=R:=⟨_,rfl⟩
 rw [hR]
 have HO:=Lib.hid hO
 by_cases h1:b≤a
 ·have HR:=Lib.hid (show s=R by rw [←hR,addP_skip h1])
  clear hR hO
  go_enter Tryz.func174,Tryz.ntmps174
  go_wp2_with fail
  go_ret
  exact ⟨v,rfl,HR.out▸HO.out,Stp.refl _ _⟩
 ·cases h2:s.getLast? with
  |none=>
   rw [List.getLast?_eq_none_iff] at h2
   subst h2
   obtain ⟨A1,c1,rfl, -, -, -⟩:=hO.shape
   rw [List.length_nil] at HO ⊢
   have HR:=Lib.hid (show [(a,b)]=R by rw [←hR,addP_first h1])
   clear hR hO
   go_enter Tryz.func174,Tryz.ntmps174
   go_wp2_with (at_builtin;refine wp_append_one kSpn _ rfl _ _ rfl B _ [] rfl (HO.out.alloc _) w.heap.size (a,b) rfl (pair_new (x:=(a,b)) rfl) (by simp) (by simp;omega) ?_;intro gg cap w3 hO3 hB3 hg3 hgo _)
   go_wp2_with fail
   go_ret
   exact ⟨_,rfl,HR.out▸hO3,Stp.app rfl hg3 hgo⟩
  |some y=>
   obtain ⟨l1,l2,l3⟩:=last_set h2 (y.1,b)
   obtain ⟨q,hq⟩: ∃q,s.length=q:=⟨_,rfl⟩
   rcases hO.row with ⟨-,h⟩|⟨g,cap,hv,h3,h4,h5,h6⟩
   ·subst h;simp at l3
   ·subst hv
    obtain ⟨c1,f1⟩:=h6 _ y l2 1 (by omega)
    rw [hq] at c1 f1 h5 l1 l2 l3 HO hl ⊢
    have hc:w.cell? ⟨g,(q-1)*2+1,none⟩=some (.int .i64 y.2):=c1
    have i0:(0:Int)≤(q:Int)-1:=by omega
    have i1:(q:Int)-1<q:=by omega
    have i2:((q:Int)-1).toNat=q-1:=by omega
    have i3:(q:Int)≤900000:=by omega
    have i4:(1:Int)≤q:=by omega
    have HQ:=Lib.hid hq
    by_cases he:y.2=a
    ·have HR:=Lib.hid (show s.set (q-1) (y.1,b)=R by rw [←hR,addP_join h1 h2 he,l1])
     have O2:=Lib.hid (HO.out.set2 l2 b)
     have G:=Lib.hid (show Stp w (w.setCell ⟨g,(q-1)*2+1,none⟩ (.int .i64 b)) (.slice (some ⟨g,0,none⟩) q cap) (.slice (some ⟨g,0,none⟩) q cap) from ⟨grown_set w g _ _,fun _ h=> .inl h⟩)
     rw [he] at hc
     clear hR hO c1 l1 l2 h2 h6 HO hq
     go_enter Tryz.func174,Tryz.ntmps174
     go_wp2_with fail
     go_ret
     exact ⟨_,rfl,HR.out▸O2.out,G.out⟩
    ·have HR:=Lib.hid (show s++[(a,b)]=R by rw [←hR,addP_app h1 h2 he])
     have hne:(y.2==a)=false:=by simpa using he
     obtain ⟨y2,hy2⟩: ∃y2,y.2=y2:=⟨_,rfl⟩
     rw [hy2] at hc hne he
     clear hR hO c1 l1 l2 h2 h6 hy2
     go_enter Tryz.func174,Tryz.ntmps174
     go_wp2_with (at_builtin;refine wp_append_one kSpn _ rfl _ _ rfl B _ s rfl (HO.out.alloc _) w.heap.size (a,b) rfl (pair_new (x:=(a,b)) rfl) (by rw [HQ.out];exact hl) (by simp;omega) ?_;intro gg cap w3 hO3 hB3 hg3 hgo _)
     go_wp2_with fail
     go_ret
     exact ⟨_,rfl,by have :=hO3;rw [HQ.out] at this;exact HR.out▸this,Stp.app rfl hg3 hgo⟩
open Go.RowKit
theorem ListAt.stp {α:Type} {k:Nat} {e:α→Nat→Value} {w w1:World} {A:Option Addr} {xs:List α} {v v1:Value} (h:ListAt k e w A xs) (ha:0<xs.length→ ∀ad,A=some ad→v.ownBlock≠some ad.block) (hs:Stp w w1 v v1):ListAt k e w1 A xs:=fun h0=>by
 obtain ⟨b,off,ea,hlt,hc⟩:=h h0
 have hne:=ha h0 _ ea
 simp only at hne
 exact ⟨b,off,ea,Nat.lt_of_lt_of_le hlt hs.1.size,fun i x hx j hj=>(hs.1.cell_far ⟨b,off+i*k+j,none⟩ hlt (fun e=>hne e.symm)).trans (hc i x hx j hj)⟩
theorem trans_nil {off:Int} (h:Zn.okO off=true):Zn.trans off []=([],0):=Zn.trans_all h (by simp) rfl (by decide) rfl
theorem zin_nil {w:World} (h:CivT w):ZIn w none 0 []:=⟨h,ListAt.nil_,rfl,fun r hr=>(by cases hr),(by omega)⟩
theorem secV_plain {off x:Int} (h:0≤x) (h2:x≤8589934592):secV off [] 0 x=Wk.sow (x+off)∧offE 0 x=0:=by
 have e:offE 0 x=0:=by unfold offE;rw [if_neg (by simp),if_neg (by omega)]
 refine ⟨?_,e⟩
 unfold secV offV
 rw [if_neg (by simpa using e),if_neg (by simp),if_neg (by omega)]
 rfl
def wstep (f t m:Int) (s:Wk.L) (x:Int×Int):Wk.L:=Wk.addP s (max (m+x.1) f) (min (m+x.2) t)
theorem addW_def (l:Wk.L) (f t m:Int) (s:Wk.L):Wk.addW l f t m s=l.foldl (wstep f t m) s:=rfl
set_option maxHeartbeats 8000000 in
theorem addR_any (v:Value) (s:Wk.L) (A:Option Addr) (n c:Nat) (l:Wk.L) (off f t:Int) (B:Nat) (w:World) (hO:OwnL 82 2 ePair w B v s) (hl:s.length≤800000) (hB:B≤w.heap.size) (hT:CivT w) (hA:WIn w A n l) (hap:0<n→ ∀ad,A=some ad→v.ownBlock≠some ad.block)
  (hc:Wk.chk l=0) (ho:Zn.okO off=true) (hft:f<t→0≤f∧t≤8589934592∧t-f≤34560000):
  Calls Tryz.prog 121 #[v,.slice A n c,.int .i64 off,.int .i64 f,.int .i64 t] w fun e w'=> ∃v',e= .returned v'∧OwnL 82 2 ePair w' B v' (Wk.addR l off f t s)∧Stp w w' v v':=by
 by_cases h0:t≤f
 ·have hr:Wk.addR l off f t s=s:=by unfold Wk.addR;rw [if_pos h0]
  rw [hr]
  have HO:=Lib.hid hO
  clear hr hO hA hT hap
  go_enter Tryz.func121,Tryz.ntmps121
  go_wp2_with fail
  go_ret
  exact ⟨v,rfl,HO.out,Stp.refl _ _⟩
 ·obtain ⟨f0,t0,d0⟩:=hft (by omega)
  obtain ⟨R,hR⟩: ∃R,Wk.addR l off f t s=R:=⟨_,rfl⟩
  rw [hR]
  unfold Wk.addR at hR
  rw [if_neg h0] at hR
  have C:=sec_is (trans_nil ho) ⟨#[]⟩ none 0 0 f w (zin_nil hT) (by rw [Zn.okO_iff] at ho;unfold I64;omega)
  obtain ⟨e1,e2⟩:=secV_plain (off:=off) f0 (by omega)
  rw [e1,e2] at C
  have hsw:=Wk.sow_bd (f+off)
  obtain ⟨S,hS⟩: ∃S,Wk.sow (f+off)=S:=⟨_,rfl⟩
  rw [hS] at C hR hsw
  obtain ⟨s1,s2⟩:=hsw
  have hn14:n≤14:=by have :=(Wk.chk_ok hc).2;have :=hA.len;omega
  have hmem:=fun x h=>(Wk.chk_ok hc).1.mem x h
  have hbl: ∀ad,A=some ad→0<n→ad.block<w.heap.size:=fun ad e h=>by
   obtain ⟨b',o',ea,hlt, -⟩:=hA.at_ (by have :=hA.len;omega)
   rw [e] at ea;cases ea;exact hlt
  have HBL:=Lib.hid hbl
  have HC:=Lib.hid C
  have HO:=Lib.hid hO
  have HA:=Lib.hid hA
  have HM:=Lib.hid hmem
  have HR:=Lib.hid hR
  have HAP:=Lib.hid hap
  have HL:=Lib.hid hl
  have ml1:IntKind.i64.wrap (f-S)=f-S:=by rw [IntKind.wrap_i64];omega
  clear hO hT hA hap hc ho hft hR C e1 e2 hS hmem hbl hl
  go_enter Tryz.func121,Tryz.ntmps121
  go_wp2_with fail
  refine HC.out.mono ?_
  rintro e w1 ⟨rfl,b1⟩
  have O1:=Lib.hid (HO.out.below b1)
  have S1:=Lib.hid ((Stp.refl w v).below b1)
  clear b1 HC HO
  go_wp2_with fail
  go_loopw [0,13] (fun v' vm wr=> ∃(j:Nat) (m:Int) (s':Wk.L),vm= .int .i64 m∧Hid (m=f-S+604800*j)∧f-S≤m∧m≤t+604800∧Hid (Wk.addK l f t (Wk.wks m t) m s'=R)∧Hid (OwnL 82 2 ePair wr B v' s')∧Hid (s'.length≤s.length+14*j)∧Hid (Stp w wr v v')) (fun _ vm _=>(t-intOf vm).toNat)
  case atStart=>exact ⟨0,f-S,s,rfl,Lib.hid (by simp),by omega,by omega,HR,O1,Lib.hid (by simp),S1⟩
  case round=>
   clear O1 S1 HR
   obtain ⟨j,m,s',rfl,HJ,m1,m2,HR,HO,HLN,HS⟩:=hrel
   by_cases hlt:m<t
   ·have hr:=HR.out
    rw [Wk.addK_step hlt] at hr
    have HR2:=Lib.hid hr
    clear hr HR
    obtain ⟨Q,hQ⟩: ∃Q,Wk.addW l f t m s'=Q:=⟨_,rfl⟩
    rw [hQ] at HR2
    have HQ:=Lib.hid hQ
    have hj:j≤59:=by have :=HJ.out;omega
    clear hQ
    go_wp2_with fail
    go_loopw [0,37] (fun v2 i wx=> ∃(k:Nat) (s2:Wk.L),k≤n∧i= .int .i64 k∧Hid ((l.drop k).foldl (wstep f t m) s2=Q)∧Hid (OwnL 82 2 ePair wx B v2 s2)∧Hid (s2.length≤s'.length+k)∧Hid (Stp w wx v v2)) (fun _ i _=>n-(intOf i).toNat)
    case atStart=>exact ⟨0,s',Nat.zero_le _,rfl,Lib.hid (by rw [List.drop_zero, ←addW_def];exact HQ.out),HO,Lib.hid (by simp),HS⟩
    case round=>
     clear HO HS HQ
     obtain ⟨k,s2,hk,rfl,HQ,HO,HL2,HS⟩:=hrel
     by_cases hlt2:k<n
     ·have hat:=HA.out.at_.stp (fun h=>HAP.out (by have :=HA.out.len;omega)) HS.out
      obtain ⟨a,b,bl,of,hx,rfl,hb,c0,c1⟩:=(WIn.mk hat HA.out.len HA.out.le).get hlt2
      have hm:=HM.out _ (List.mem_of_getElem? hx)
      simp only at hm
      obtain ⟨g1,g2,g3⟩:=hm
      have N:=HQ.out
      rw [drop_cons' hx,List.foldl_cons,show wstep f t m s2 (a,b)=Wk.addP s2 (max (m+a) f) (min (m+b) t) from rfl] at N
      have HN:=Lib.hid N
      have hrz:B≤wr.heap.size:=Nat.le_trans hB HS.out.1.size
      obtain ⟨mx,hmx⟩: ∃mx,max (m+a) f=mx:=⟨_,rfl⟩
      obtain ⟨mn,hmn⟩: ∃mn,min (m+b) t=mn:=⟨_,rfl⟩
      rw [hmx,hmn] at HN
      have w1':IntKind.i64.wrap (m+a)=m+a:=by rw [IntKind.wrap_i64];omega
      have w2':IntKind.i64.wrap (m+b)=m+b:=by rw [IntKind.wrap_i64];omega
      have hlen:s2.length≤900000:=by have :=HL2.out;have :=HLN.out;have :=HL.out;omega
      have CA:=Lib.hid (add_any _ s2 mx mn B _ (HO.out.alloc (.cells #[.int .i64 a,.int .i64 b] 99)) hlen (by simp;omega))
      have AL:=addP_len s2 mx mn
      have HAL:=Lib.hid (show (Wk.addP s2 mx mn).length≤s'.length+(k+1) by have :=HL2.out;omega)
      clear hat hx N HQ AL HO
      go_wp2_with fail
      refine CA.out.mono ?_
      rintro e w2 ⟨v3,rfl,O3,S3⟩
      have HO3:=Lib.hid O3
      have HS3:=Lib.hid ((HS.out.alloc (.cells #[.int .i64 a,.int .i64 b] 99)).trans S3)
      clear O3 S3 HS CA
      go_wp2_with fail
      go_roundw
      case rel=>exact ⟨k+1,_,by omega,by go_num,HN,HO3,HAL,HS3⟩
      case measure=>simp [intOf];omega
     ·have hq:=HQ.out
      rw [List.drop_of_length_le (by have :=HA.out.len;omega),List.foldl_nil] at hq
      subst hq
      have HLN2:=Lib.hid (show s2.length≤s.length+14*(j+1) by have :=HL2.out;have :=HLN.out;omega)
      have HJ2:=Lib.hid (show m+604800=f-S+604800*((j+1:Nat):Int) by have :=HJ.out;omega)
      clear HQ HL2
      go_wp2_with fail
      go_roundw
      case rel=>exact ⟨j+1,m+604800,s2,rfl,HJ2,by omega,by omega,HR2,HO,HLN2,HS⟩
      case measure=>simp [intOf];omega
   ·have hr:=HR.out
    rw [Wk.addK_done (by omega)] at hr
    subst hr
    go_wp2_with fail
    go_ret
    exact ⟨_,rfl,HO.out,HS.out⟩
open Go.RowKit
open Go.RowKit
def okQ (f t:Int):Bool:=decide (0≤f∧f≤t∧t≤8589934592∧t-f≤34560000)
def tmE (er:Int) (l:Wk.L) (f t:Int) (r:Wk.L):Int:=if er≠0 then 8 else if Wk.chk l≠0 then 8 else if okQ f t=false then 1 else if 4096<r.length then 5 else 0
def tmV (er:Int) (l:Wk.L) (f t:Int) (r:Wk.L):Wk.L:=if er≠0 then [] else if Wk.chk l≠0 then [] else if okQ f t=false then [] else if 4096<r.length then [] else r
theorem addK_len (l:Wk.L) (f t:Int): ∀(k:Nat) (m:Int) (s:Wk.L),(Wk.addK l f t k m s).length≤s.length+l.length*k
 |0,m,s=>by simp [Wk.addK]
 |k+1,m,s=>by
  have h1:=addK_len l f t k (m+604800) (Wk.addW l f t m s)
  have h2:=addW_len l f t m s
  rw [Wk.addK,Nat.mul_succ];omega
theorem addR_len {l:Wk.L} {off f t:Int} (s:Wk.L) (hc:l.length≤14) (hft:f<t→t-f≤34560000):(Wk.addR l off f t s).length≤s.length+840:=by
 unfold Wk.addR
 split
 ·omega
 ·have h1:=addK_len l f t (Wk.wks (f-Wk.sow (f+off)) t) (f-Wk.sow (f+off)) s
  have h2:=Wk.sow_bd (f+off)
  have h3:=hft (by omega)
  have h4:Wk.wks (f-Wk.sow (f+off)) t≤60:=by unfold Wk.wks;omega
  have h5:=Nat.mul_le_mul hc h4
  omega
theorem stp_bel {w w1 wr:World} {v':Value} (h:Stp w1 wr (.slice none 0 0) v') (hb:Below w.heap.size w w1):Below w.heap.size w wr:=
 hb.trans ((Below.refl _ _).grown h.1 hb.size (fun q hq=>by cases hq))
theorem stp_ap {w w1 wr:World} {v':Value} {A:Option Addr} {n:Nat} {l:Wk.L} (h:Stp w1 wr (.slice none 0 0) v') (hb:Below w.heap.size w w1) (hA:WIn w A n l):0<n→ ∀ad,A=some ad→v'.ownBlock≠some ad.block:=fun hn ad ea e=>by
 obtain ⟨b,o,ea2,hlt, -⟩:=hA.at_ (by have :=hA.len;omega)
 rw [ea] at ea2;cases ea2
 rcases h.2 _ e with h3|h3
 ·cases h3
 ·have :=hb.size;simp only at h3;omega
theorem box_zone {w w1:World} {s:ByteArray} {off:Int} {A:Option Addr} {n c:Nat} (hb:Below (w.alloc (.cells #[.string s,.int .i64 off,.slice A n c] 71)).heap.size (w.alloc (.cells #[.string s,.int .i64 off,.slice A n c] 71)) w1):ZBlk w1 w.heap.size s off A n c:=BlkAt.after (BlkAt.new w _ _) hb
theorem givesC_none {w w':World} {er:Int} (h:Below w.heap.size w w'):GivesC [] er w (.returned (.tuple #[.slice none 0 0,.int .i64 er])) w':=⟨none,0,rfl,ListAt.nil_,h,Nat.le_refl _⟩
set_option maxHeartbeats 8000000 in
theorem times_is {off:Int} {rs:List Zn.Rule} {ts:Zn.L} {er:Int} (h:Zn.trans off rs=(ts,er)) (s:ByteArray) (A:Option Addr) (n c:Nat) (A2:Option Addr) (n2 c2:Nat) (l:Wk.L) (f t:Int) (w:World) (hz:ZIn w A n rs) (ho:I64 off) (hl:WIn w A2 n2 l) (hf:I64 f) (ht:I64 t):
  Calls Tryz.prog 78 #[.agg #[.string s,.int .i64 off,.slice A n c],.slice A2 n2 c2,.int .i64 f,.int .i64 t] w (GivesC (tmV er l f t (Wk.tms [] off ts l f t)) (tmE er l f t (Wk.tms [] off ts l f t)) w):=by
 have C:=Lib.hid (trans_is h s A n c _ (hz.alloc (.cells #[.string s,.int .i64 off,.slice A n c] 71)) ho)
 obtain ⟨R,hR⟩: ∃R,Wk.tms [] off ts l f t=R:=⟨_,rfl⟩
 rw [hR]
 obtain ⟨RV,hRV⟩: ∃RV,tmV er l f t R=RV:=⟨_,rfl⟩
 obtain ⟨RE,hRE⟩: ∃RE,tmE er l f t R=RE:=⟨_,rfl⟩
 rw [hRV,hRE]
 unfold tmV at hRV
 unfold tmE at hRE
 have HL:=Lib.hid hl
 have HT:=Lib.hid hz.civ
 by_cases he:er=0
 ·subst he
  rw [if_neg (by simp)] at hRV hRE
  obtain ⟨k1,k2,k3,k4,k5,k6,k7,k8⟩:=Zn.trans_ok h
  by_cases hc:Wk.chk l=0
  ·rw [if_neg (by simpa using hc)] at hRV hRE
   have HC:=fun W (hW:WIn W A2 n2 l)=>hc▸wchk_any A2 n2 c2 l W hW
   have CH:=Lib.hid HC
   clear HC
   by_cases hq:okQ f t=true
   ·rw [if_neg (by rw [hq];decide)] at hRV hRE
    have hq2:0≤f∧f≤t∧t≤8589934592∧t-f≤34560000:=by unfold okQ at hq;simpa using hq
    obtain ⟨q1,q2,q3,q4⟩:=hq2
    have HV1:=Lib.hid (show 4096<R.length→RV=[]∧RE=5 from fun h=>by rw [←hRV, ←hRE,if_pos h,if_pos h];exact ⟨rfl,rfl⟩)
    have HV2:=Lib.hid (show ¬4096<R.length→RV=R∧RE=0 from fun h=>by rw [←hRV, ←hRE,if_neg h,if_neg h];exact ⟨rfl,rfl⟩)
    have HR:=Lib.hid hR
    have HK1:=Lib.hid k1
    have HK8:=Lib.hid k8
    have HCC:=Lib.hid hc
    obtain ⟨N,hN⟩: ∃N,ts.length=N:=⟨_,rfl⟩
    have hN2:N≤640:=by omega
    have HN:=Lib.hid hN
    clear hRV hRE hR k1 k2 k3 k4 k5 k6 k7 k8 hc hq h hz hl hN
    go_enter Tryz.func78,Tryz.ntmps78
    go_wp2_with fail
    refine C.out.mono ?_
    rintro e w1 ⟨A1,c1,rfl,hP,hb⟩
    have HZB:=Lib.hid (box_zone hb)
    have HB1:=Lib.hid (below_alloc_call hb)
    have HP:=Lib.hid hP
    clear hb hP C
    go_wp2_with fail
    refine (CH.out _ (HL.out.below HB1.out)).mono ?_
    rintro e w2 ⟨rfl,b2⟩
    have HB2:=Lib.hid (bstep HB1.out b2)
    have HP2:=Lib.hid (HP.out.below b2)
    obtain ⟨z0,z1,z2⟩:=ZBlk.cells (BlkAt.after HZB.out b2)
    clear b2 HB1 HP HZB
    rw [HN.out]
    go_wp2_with fail
    go_loopw [2,12,13,49] (fun vf v' vo i wr=> ∃(k:Nat) (f' o':Int) (s':Wk.L),k≤N∧i= .int .i64 k∧vf= .int .i64 f'∧vo= .int .i64 o'∧f≤f'∧Hid (Zn.okO o'=true)∧Hid (Wk.tms s' o' (ts.drop k) l f' t=R)∧s'.length≤840*k∧Hid (OwnL 82 2 ePair wr w.heap.size v' s')∧Hid (Stp w2 wr (.slice none 0 0) v')) (fun _ _ _ i _=>N-(intOf i).toNat)
    case atStart=>exact ⟨0,f,off,[],Nat.zero_le _,rfl,rfl,rfl,Int.le_refl _,HK1,Lib.hid (by rw [List.drop_zero];exact HR.out),by simp,Lib.hid (OwnL.nil_ _ _),Lib.hid (Stp.refl _ _)⟩
    case round=>
     clear HR HK1
     obtain ⟨k,f',o',s',hk,rfl,rfl,rfl,hf',HO1,HR,hsl,HO,HS⟩:=hrel
     have HBR:=Lib.hid (stp_bel HS.out HB2.out)
     have hrz:=HBR.out.size
     have hT1:=HT.out.below HBR.out
     have hW1:=HL.out.below HBR.out
     have hap:=stp_ap HS.out HB2.out HL.out
     by_cases hlt:k<N
     ·obtain ⟨⟨a,o2⟩,hx⟩:=get_ex (xs:=ts) (i:=k) (by have :=HN.out;omega)
      obtain ⟨b,of,rfl,hb,hcc⟩:=(HP2.out.stp (fun _ ad e h=>by cases h) HS.out) (by have :=HN.out;omega)
      obtain ⟨c0,c1⟩:=pair_cells (hcc k _ hx)
      simp only at c0 c1
      have hk8:=Lib.hid (HK8.out _ (List.mem_of_getElem? hx))
      have hr:=HR.out
      rw [drop_cons' hx,Wk.tms] at hr
      have HR2:=Lib.hid hr
      obtain ⟨mn,hmn⟩: ∃mn,min a t=mn:=⟨_,rfl⟩
      rw [hmn] at HR2
      have PB:PairBlk (wr.alloc (.cells #[.int .i64 a,.int .i64 o2] 134)) wr.heap.size (a,o2) 134:=BlkAt.new _ _ _
      have HPB:=Lib.hid PB
      have HNE:=Lib.hid (own_block HO.out (Nat.le_refl _))
      have CA:=Lib.hid (addR_any _ s' A2 n2 c2 l o' f' mn w.heap.size _ (HO.out.alloc (.cells #[.int .i64 a,.int .i64 o2] 134)) (by omega) (by simp;omega) (hT1.below ((Below.refl _ _).alloc (Nat.le_refl _) _)) (hW1.alloc _) hap HCC.out HO1.out (fun h=>by omega))
      have HLN:=Lib.hid (addR_len (l:=l) (off:=o') (f:=f') (t:=mn) s' (Wk.chk_ok HCC.out).2 (fun h=>by omega))
      clear hcc hx hr HR PB hT1 hW1 hap
      go_wp2_with fail
      refine CA.out.mono ?_
      rintro e w3 ⟨v3,rfl,O3,S3⟩
      have P5:PairBlk w3 wr.heap.size (a,o2) 134:=BlkAt.grown HPB.out S3.1 (fun e=>HNE.out e.symm)
      obtain ⟨d0,d1⟩:=PairBlk.cells P5
      simp only at d0 d1
      have HO3:=Lib.hid O3
      have HS3:=Lib.hid ((HS.out.alloc (.cells #[.int .i64 a,.int .i64 o2] 134)).trans S3)
      clear P5 O3 S3 CA HO HS c0 c1
      go_wp2_with fail
      go_quiet (fail)
      go_wp2_with fail
      go_roundw
      case rel=>exact ⟨k+1,max a f',o2,_,by omega,by go_num,rfl,rfl,by omega,hk8,HR2,by have :=HLN.out;omega,HO3,Lib.hid (HS3.out.drewN _)⟩
      case measure=>simp [intOf];omega
     ·have hr:=HR.out
      rw [List.drop_of_length_le (by have :=HN.out;omega),Wk.tms] at hr
      have CA:=Lib.hid (addR_any _ s' A2 n2 c2 l o' f' t w.heap.size _ HO.out (by omega) hrz hT1 hW1 hap HCC.out HO1.out (fun h=>by omega))
      rw [hr] at CA
      clear hr HR hT1 hW1 hap
      go_wp2_with fail
      refine CA.out.mono ?_
      rintro e w3 ⟨v3,rfl,O3,S3⟩
      have HS3:=Lib.hid (stp_bel (HS.out.trans S3) HB2.out)
      obtain ⟨A3,c3,rfl,hc3, -,hS⟩:=O3.shape
      have HS4:=Lib.hid hS
      have HC3:=Lib.hid hc3
      obtain ⟨q,hq⟩: ∃q,R.length=q:=⟨_,rfl⟩
      have HQ:=Lib.hid hq
      rw [hq]
      clear O3 S3 CA HO HS hS hc3
      by_cases hl4:4096<q
      ·have g1:(4096:Int)<(q:Int):=by omega
       obtain ⟨rfl,rfl⟩:=HV1.out (by rw [HQ.out];exact hl4)
       go_wp2_with fail
       go_ret2
       exact givesC_none HS3.out
      ·have g1:¬(4096:Int)<(q:Int):=by omega
       obtain ⟨rfl,rfl⟩:=HV2.out (by rw [HQ.out];exact hl4)
       go_wp2_with fail
       go_ret2
       exact ⟨A3,c3,by rw [HQ.out];rfl,HS4.out,HS3.out,by have :=HC3.out;(try rw [HQ.out]);(try rw [HQ.out] at this);exact this⟩
   ·have hq':okQ f t=false:=by simpa using hq
    rw [if_pos hq'] at hRV hRE
    subst hRV hRE
    have hcs:f<0∨(¬f<0∧t<f)∨(¬f<0∧¬t<f∧8589934592<t)∨(¬f<0∧¬t<f∧¬8589934592<t∧34560000<t-f):=by unfold okQ at hq';simp at hq';omega
    clear hq hq' hc k1 k2 k3 k4 k5 k6 k7 k8 h hz hl hR
    rcases hcs with h1|⟨h1,h2⟩|⟨h1,h2,h3⟩|⟨h1,h2,h3,h4⟩
    all_goals
     go_enter Tryz.func78,Tryz.ntmps78
     go_wp2_with fail
     refine C.out.mono ?_
     rintro e w1 ⟨A1,c1,rfl,hP,hb⟩
     have HB1:=Lib.hid (below_alloc_call hb)
     clear hb hP
     go_wp2_with fail
     refine (CH.out _ (HL.out.below HB1.out)).mono ?_
     rintro e w2 ⟨rfl,b2⟩
     have HB2:=Lib.hid (bstep HB1.out b2)
     clear b2
     go_wp2_with fail
     go_ret2
     exact givesC_none HB2.out
  ·rw [if_pos hc] at hRV hRE
   subst hRV hRE
   obtain ⟨Q,hQ⟩: ∃Q,Wk.chk l=Q:=⟨_,rfl⟩
   rw [hQ] at hc
   have hne:(Q !=0)=true:=by simpa using hc
   have HC:=fun W (hW:WIn W A2 n2 l)=>hQ▸wchk_any A2 n2 c2 l W hW
   have CH:=Lib.hid HC
   clear HC hc k1 k2 k3 k4 k5 k6 k7 k8 h hz hl hR
   go_enter Tryz.func78,Tryz.ntmps78
   go_wp2_with fail
   refine C.out.mono ?_
   rintro e w1 ⟨A1,c1,rfl,hP,hb⟩
   have HB1:=Lib.hid (below_alloc_call hb)
   clear hb hP
   go_wp2_with fail
   refine (CH.out _ (HL.out.below HB1.out)).mono ?_
   rintro e w2 ⟨rfl,b2⟩
   have HB2:=Lib.hid (bstep HB1.out b2)
   clear b2
   go_wp2_with fail
   go_ret2
   exact givesC_none HB2.out
 ·rw [if_pos he] at hRV hRE
  subst hRV hRE
  have hne:(er !=0)=true:=by simpa using he
  clear he h hz hl hR
  go_enter Tryz.func78,Tryz.ntmps78
  go_wp2_with fail
  refine C.out.mono ?_
  rintro e w1 ⟨A1,c1,rfl,hP,hb⟩
  have HB1:=Lib.hid (below_alloc_call hb)
  clear hb hP
  go_wp2_with fail
  go_ret2
  exact givesC_none HB1.out
end Go.Proofs.YtfamcohbnoibaaaGreatDoor
