import Derived.Test.YtfamcohbnoibaaaGreatDoorKRb
set_option linter.unusedVariables false
set_option linter.unusedSimpArgs false
set_option maxRecDepth 100000
namespace Go.Proofs.YtfamcohbnoibaaaGreatDoor
open Go.RowKit
theorem isix_z {i:Int} {n:Nat} {R:Bool} (hR:Rs.isIx i n=R) (A:Option Addr) (c:Nat) (w:World):Calls Tryz.prog 155 #[.slice A n c,.int .i64 i] w fun e w'=>e= .returned (.bool R)∧w=w':=by
 by_cases h:(0:Int)≤i
 ·have HR:=Lib.hid (show decide (i<n)=R by rw [←hR];unfold Rs.isIx;rw [decide_eq_true h];rfl)
  clear hR
  go_enter Tryz.func155,Tryz.ntmps155
  go_wp2_with fail
  go_ret
  exact ⟨ret_bool HR.out,rfl⟩
 ·have HR:=Lib.hid (show false=R by rw [←hR];unfold Rs.isIx;rw [decide_eq_false h];rfl)
  clear hR
  go_enter Tryz.func155,Tryz.ntmps155
  go_wp2_with fail
  go_ret
  exact ⟨ret_bool HR.out,rfl⟩
theorem isix_p {i:Int} {n:Nat} {R:Bool} (hR:Rs.isIx i n=R) (A:Option Addr) (c:Nat) (w:World):Calls Tryz.prog 205 #[.slice A n c,.int .i64 i] w fun e w'=>e= .returned (.bool R)∧w=w':=by
 by_cases h:(0:Int)≤i
 ·have HR:=Lib.hid (show decide (i<n)=R by rw [←hR];unfold Rs.isIx;rw [decide_eq_true h];rfl)
  clear hR
  go_enter Tryz.func205,Tryz.ntmps205
  go_wp2_with fail
  go_ret
  exact ⟨ret_bool HR.out,rfl⟩
 ·have HR:=Lib.hid (show false=R by rw [←hR];unfold Rs.isIx;rw [decide_eq_false h];rfl)
  clear hR
  go_enter Tryz.func205,Tryz.ntmps205
  go_wp2_with fail
  go_ret
  exact ⟨ret_bool HR.out,rfl⟩
theorem isix_c {i:Int} {n:Nat} {R:Bool} (hR:Rs.isIx i n=R) (A:Option Addr) (c:Nat) (w:World):Calls Tryz.prog 244 #[.slice A n c,.int .i64 i] w fun e w'=>e= .returned (.bool R)∧w=w':=by
 by_cases h:(0:Int)≤i
 ·have HR:=Lib.hid (show decide (i<n)=R by rw [←hR];unfold Rs.isIx;rw [decide_eq_true h];rfl)
  clear hR
  go_enter Tryz.func244,Tryz.ntmps244
  go_wp2_with fail
  go_ret
  exact ⟨ret_bool HR.out,rfl⟩
 ·have HR:=Lib.hid (show false=R by rw [←hR];unfold Rs.isIx;rw [decide_eq_false h];rfl)
  clear hR
  go_enter Tryz.func244,Tryz.ntmps244
  go_wp2_with fail
  go_ret
  exact ⟨ret_bool HR.out,rfl⟩
theorem hours_is {n:Int} {R:Bool} (hR:Rs.hoursOk n=R) (w:World):Calls Tryz.prog 156 #[.int .i64 n] w fun e w'=>e= .returned (.bool R)∧w=w':=by
 by_cases h:(0:Int)≤n
 ·by_cases h2:n≤604800
  ·have HR:=Lib.hid (show (n%3600==0)=R by rw [←hR];unfold Rs.hoursOk;rw [decide_eq_true h,decide_eq_true h2,Int.tmod_eq_emod_of_nonneg h];rfl)
   clear hR
   go_enter Tryz.func156,Tryz.ntmps156
   go_wp2_with fail
   go_ret
   exact ⟨ret_bool HR.out,rfl⟩
  ·have HR:=Lib.hid (show false=R by rw [←hR];unfold Rs.hoursOk;rw [decide_eq_true h,decide_eq_false h2];rfl)
   clear hR
   go_enter Tryz.func156,Tryz.ntmps156
   go_wp2_with fail
   go_ret
   exact ⟨ret_bool HR.out,rfl⟩
 ·have HR:=Lib.hid (show false=R by rw [←hR];unfold Rs.hoursOk;rw [decide_eq_false h];rfl)
  clear hR
  go_enter Tryz.func156,Tryz.ntmps156
  go_wp2_with fail
  go_ret
  exact ⟨ret_bool HR.out,rfl⟩
set_option maxHeartbeats 1000000 in
theorem noday_is {n:Int} {R:Bool} (hR:Rs.noDay n=R) (w:World) (hT:CivT w) (hn:I64 n):Calls Tryz.prog 160 #[.int .i64 n] w fun e w'=>e= .returned (.bool R)∧Below w.heap.size w w':=by
 by_cases h:n<0∨98981≤n
 ·have HR:=Lib.hid (show true=R by rw [←hR];unfold Rs.noDay;rcases h with h|h<;>rw [decide_eq_true h]<;>simp)
  have C:=Lib.hid (dateOf_no n w hn h)
  clear hR
  go_enter Tryz.func160,Tryz.ntmps160
  go_wp2_with fail
  refine C.out.mono ?_
  rintro e w1 ⟨rfl,b1⟩
  have hz:=b1.size
  have B1:=b1.alloc hz (.cells #[.int .i64 0,.int .i64 0,.int .i64 0] 221)
  go_wp2_with fail
  go_ret
  exact ⟨ret_bool HR.out,B1⟩
 ·obtain ⟨y,m,d,h1,h2⟩:=Civ.date_ex n (by omega) (by omega)
  have HR:=Lib.hid (show false=R by rw [←hR];unfold Rs.noDay;rw [decide_eq_false (by omega),decide_eq_false (by omega)];rfl)
  have C:=Lib.hid (dateOf_yes y m d n w hT h1 h2)
  clear hR h1 h2
  go_enter Tryz.func160,Tryz.ntmps160
  go_wp2_with fail
  refine C.out.mono ?_
  rintro e w1 ⟨rfl,b1⟩
  have hz:=b1.size
  have B1:=b1.alloc hz (.cells #[.int .i64 y,.int .i64 m,.int .i64 d] 221)
  go_wp2_with fail
  go_ret
  exact ⟨ret_bool HR.out,B1⟩
set_option maxHeartbeats 4000000 in
theorem nd_ix (A:Option Addr) (n c:Nat) (l:List Int) (R:Bool) (w:World) (hA:LIn 1 eInt 0 w.heap.size w (A,n,c) l) (hT:CivT w) (hF: ∀d∈l,I64 d) (hR:(l.any Rs.noDay)=R):
  Calls Tryz.prog 199 #[.slice A n c,.func (.func 160) #[] #[]] w fun e w'=> ∃r,e= .returned (.int .i64 r)∧decide (0≤r)=R∧Below w.heap.size w w':=by
 have HA:=Lib.hid hA
 have hn:=hA.le
 have hl:=hA.len
 simp only at hn hl
 have HL:=Lib.hid hl
 have HR0:Hid (((l.drop 0).any Rs.noDay)=R):=Lib.hid hR
 have HT:=Lib.hid hT;have HF:=Lib.hid hF;clear hT hF
 clear hA hR hl
 go_enter Tryz.func199,Tryz.ntmps199
 go_wp2_with fail
 go_loopw [8] (fun i wr=> ∃(k:Nat),k≤n∧i= .int .i64 k∧Hid (((l.drop k).any Rs.noDay)=R)∧Hid (Below w.heap.size w wr)) (fun i _=>n-(intOf i).toNat)
 case atStart=>exact ⟨0,Nat.zero_le _,rfl,HR0,Lib.hid (Below.refl _ _)⟩
 case round=>
  clear HR0
  obtain ⟨k,hk,rfl,HR,HB⟩:=hrel
  by_cases hlt:k<n
  ·obtain ⟨x,b,off,hx,ea,hb,hc⟩:=(HA.out.kept (.of_below HB.out (Nat.le_refl _))).get (i:=k) hlt
   simp only at ea
   subst ea
   have hxm:=List.mem_of_getElem? hx
   have c0:=hc 0 (by decide)
   simp only [eInt,Nat.mul_one,Nat.add_zero] at c0
   have hst:=HR.out
   rw [drop_cons' hx,List.any_cons] at hst
   obtain ⟨p,hp⟩: ∃p,Rs.noDay x=p:=⟨_,rfl⟩
   have C:=Lib.hid (noday_is hp wr (HT.out.below HB.out) (HF.out x hxm))
   rw [hp] at hst
   clear hp hc hx hxm HR
   cases p
   ·have N:=Lib.hid (show ((l.drop (k+1)).any Rs.noDay)=R from hst)
    clear hst
    go_wp2_with fail
    refine C.out.mono ?_
    rintro e w1 ⟨rfl,b1⟩
    skip
    have B1:=Lib.hid (bstep HB.out b1)
    clear b1
    go_wp2_with fail
    go_roundw
    case rel=>exact ⟨k+1,by omega,by go_num,N,B1⟩
    case measure=>simp [intOf];omega
   ·have N:=Lib.hid (show true=R from hst)
    clear hst
    go_wp2_with fail
    refine C.out.mono ?_
    rintro e w1 ⟨rfl,b1⟩
    skip
    have B1:=bstep HB.out b1
    go_wp2_with fail
    go_ret
    exact ⟨_,rfl,by rw [←N.out];simp,B1⟩
  ·have N:=Lib.hid (show false=R by have h:=HR.out;rwa [List.drop_of_length_le (by rw [HL.out];omega)] at h)
   go_wp2_with fail
   go_ret
   exact ⟨_,rfl,by rw [←N.out];rfl,HB.out⟩
set_option maxHeartbeats 1000000 in
theorem nd_ct (A:Option Addr) (n c:Nat) (l:List Int) (R:Bool) (w:World) (hA:LIn 1 eInt 0 w.heap.size w (A,n,c) l) (hT:CivT w) (hF: ∀d∈l,I64 d) (hR:(l.any Rs.noDay)=R):
  Calls Tryz.prog 159 #[.slice A n c,.func (.func 160) #[] #[]] w fun e w'=>e= .returned (.bool R)∧Below w.heap.size w w':=by
 have C:=Lib.hid (nd_ix A n c l R w hA hT hF hR)
 clear hA hR
 go_enter Tryz.func159,Tryz.ntmps159
 go_wp2_with fail
 refine C.out.mono ?_
 rintro e w1 ⟨r,rfl,hr,b1⟩
 have HR:=Lib.hid hr
 clear hr
 go_wp2_with fail
 go_ret
 exact ⟨ret_bool HR.out,b1⟩
def badMin (r:Zn.Rule):Bool:=r.off.tmod 60 !=0
theorem bad_is {r:Zn.Rule} {p:Bool} (hp:badMin r=p) (w:World):Calls Tryz.prog 195 #[valR r] w fun e w'=>e= .returned (.bool p)∧Below w.heap.size w w':=by
 unfold badMin at hp
 unfold valR
 go_enter Tryz.func195,Tryz.ntmps195
 go_wp2_with fail
 go_ret
 exact ⟨rfl,(Below.refl _ _).alloc (Nat.le_refl _) _⟩
set_option maxHeartbeats 4000000 in
theorem br_ix (A:Option Addr) (n c:Nat) (l:List Zn.Rule) (R:Bool) (w:World) (hA:LIn 7 eRule 0 w.heap.size w (A,n,c) l) (hR:(l.any badMin)=R):
  Calls Tryz.prog 234 #[.slice A n c,.func (.func 195) #[] #[]] w fun e w'=> ∃r,e= .returned (.int .i64 r)∧decide (0≤r)=R∧Below w.heap.size w w':=by
 have HA:=Lib.hid hA
 have hn:=hA.le
 have hl:=hA.len
 simp only at hn hl
 have HL:=Lib.hid hl
 have HR0:Hid (((l.drop 0).any badMin)=R):=Lib.hid hR
 skip
 clear hA hR hl
 go_enter Tryz.func234,Tryz.ntmps234
 go_wp2_with fail
 go_loopw [8] (fun i wr=> ∃(k:Nat),k≤n∧i= .int .i64 k∧Hid (((l.drop k).any badMin)=R)∧Hid (Below w.heap.size w wr)) (fun i _=>n-(intOf i).toNat)
 case atStart=>exact ⟨0,Nat.zero_le _,rfl,HR0,Lib.hid (Below.refl _ _)⟩
 case round=>
  clear HR0
  obtain ⟨k,hk,rfl,HR,HB⟩:=hrel
  by_cases hlt:k<n
  ·obtain ⟨x,b,off,hx,ea,hb,hc⟩:=(HA.out.kept (.of_below HB.out (Nat.le_refl _))).get (i:=k) hlt
   simp only at ea
   subst ea
   have hxm:=List.mem_of_getElem? hx
   have c0:=hc 0 (by decide);have c1:=hc 1 (by decide);have c2:=hc 2 (by decide);have c3:=hc 3 (by decide);have c4:=hc 4 (by decide);have c5:=hc 5 (by decide);have c6:=hc 6 (by decide)
   simp only [eRule,Nat.add_zero] at c0 c1 c2 c3 c4 c5 c6
   have hst:=HR.out
   rw [drop_cons' hx,List.any_cons] at hst
   obtain ⟨p,hp⟩: ∃p,badMin x=p:=⟨_,rfl⟩
   have C:=Lib.hid (bad_is hp wr)
   rw [hp] at hst
   clear hp hc hx hxm HR
   cases p
   ·have N:=Lib.hid (show ((l.drop (k+1)).any badMin)=R from hst)
    clear hst
    go_wp2_with fail
    refine C.out.mono ?_
    rintro e w1 ⟨rfl,b1⟩
    skip
    have B1:=Lib.hid (bstep HB.out b1)
    clear b1
    go_wp2_with fail
    go_roundw
    case rel=>exact ⟨k+1,by omega,by go_num,N,B1⟩
    case measure=>simp [intOf];omega
   ·have N:=Lib.hid (show true=R from hst)
    clear hst
    go_wp2_with fail
    refine C.out.mono ?_
    rintro e w1 ⟨rfl,b1⟩
    skip
    have B1:=bstep HB.out b1
    go_wp2_with fail
    go_ret
    exact ⟨_,rfl,by rw [←N.out];simp,B1⟩
  ·have N:=Lib.hid (show false=R by have h:=HR.out;rwa [List.drop_of_length_le (by rw [HL.out];omega)] at h)
   go_wp2_with fail
   go_ret
   exact ⟨_,rfl,by rw [←N.out];rfl,HB.out⟩
set_option maxHeartbeats 1000000 in
theorem br_ct (A:Option Addr) (n c:Nat) (l:List Zn.Rule) (R:Bool) (w:World) (hA:LIn 7 eRule 0 w.heap.size w (A,n,c) l) (hR:(l.any badMin)=R):
  Calls Tryz.prog 196 #[.slice A n c,.func (.func 195) #[] #[]] w fun e w'=>e= .returned (.bool R)∧Below w.heap.size w w':=by
 have C:=Lib.hid (br_ix A n c l R w hA hR)
 clear hA hR
 go_enter Tryz.func196,Tryz.ntmps196
 go_wp2_with fail
 refine C.out.mono ?_
 rintro e w1 ⟨r,rfl,hr,b1⟩
 have HR:=Lib.hid hr
 clear hr
 go_wp2_with fail
 go_ret
 exact ⟨ret_bool HR.out,b1⟩
set_option maxHeartbeats 1000000 in
theorem mins_is {off:Int} {rs:List Zn.Rule} {R:Bool} (hR:Rs.mins off rs=R) (s:ByteArray) (A:Option Addr) (n c:Nat) (w:World) (hA:LIn 7 eRule 0 w.heap.size w (A,n,c) rs):
  Calls Tryz.prog 152 #[.agg #[.string s,.int .i64 off,.slice A n c]] w fun e w'=>e= .returned (.bool R)∧Below w.heap.size w w':=by
 have B0:=(Below.refl _ w).alloc (Nat.le_refl _) (.cells #[.string s,.int .i64 off,.slice A n c] 71)
 obtain ⟨q,hq⟩: ∃q,rs.any badMin=q:=⟨_,rfl⟩
 have C:=Lib.hid (br_ct A n c rs q _ ((hA.kept (.of_below B0 (Nat.le_refl _))).mono (Nat.le_refl _) B0.size) hq)
 have HB:=Lib.hid B0
 by_cases h:off.tmod 60=0
 ·have h1:(off.tmod 60==0)=true:=by simpa using h
  have HR:=Lib.hid (show (!q)=R by rw [←hR, ←hq];unfold Rs.mins;rw [h1];rfl)
  clear hR hq hA B0
  go_enter Tryz.func152,Tryz.ntmps152
  go_wp2_with fail
  refine C.out.mono ?_
  rintro e w1 ⟨rfl,b1⟩
  have B1:=bstep HB.out b1
  go_wp2_with fail
  go_ret
  exact ⟨ret_bool HR.out,B1⟩
 ·have h1:(off.tmod 60==0)=false:=by simpa using h
  have HR:=Lib.hid (show false=R by rw [←hR];unfold Rs.mins;rw [h1];rfl)
  clear hR hq hA B0 C
  go_enter Tryz.func152,Tryz.ntmps152
  go_wp2_with fail
  go_ret
  exact ⟨ret_bool HR.out,HB.out⟩
set_option maxHeartbeats 4000000 in
theorem asc_is {l:List Int} {R:Bool} (hR:Rs.asc l=R) (A:Option Addr) (n c:Nat) (w:World) (hA:LIn 1 eInt 0 w.heap.size w (A,n,c) l):
  Calls Tryz.prog 161 #[.slice A n c] w fun e w'=>e= .returned (.bool R)∧Below w.heap.size w w':=by
 have HA:=Lib.hid hA
 have hn:=hA.le
 have hl:=hA.len
 simp only at hn hl
 have HL:=Lib.hid hl
 have HR0:Hid (Rs.asc (l.drop 0)=R):=Lib.hid hR
 clear hA hR hl
 go_enter Tryz.func161,Tryz.ntmps161
 go_wp2_with fail
 go_loopw [3] (fun i wr=> ∃(k:Nat),(k≤n∨k=0)∧i= .int .i64 (k+1)∧Hid (Rs.asc (l.drop k)=R)∧Hid (Below w.heap.size w wr)) (fun i _=>n+1-(intOf i).toNat)
 case atStart=>exact ⟨0,.inr rfl,rfl,HR0,Lib.hid (Below.refl _ _)⟩
 case round=>
  clear HR0
  obtain ⟨k,hk,rfl,HR,HB⟩:=hrel
  by_cases hlt:k+1<n
  ·obtain ⟨x,b,off,hx,ea,hb,hc⟩:=(HA.out.kept (.of_below HB.out (Nat.le_refl _))).get (i:=k) (by simp only;omega)
   obtain ⟨y,b',off',hy,ea',hb',hc'⟩:=(HA.out.kept (.of_below HB.out (Nat.le_refl _))).get (i:=k+1) hlt
   simp only at ea ea'
   subst ea
   simp only [Option.some.injEq,Addr.mk.injEq,and_true] at ea'
   obtain ⟨rfl,rfl⟩:=ea'
   have c0:=hc 0 (by decide)
   have c1:=hc' 0 (by decide)
   simp only [eInt,Nat.mul_one,Nat.add_zero] at c0 c1
   have hst:=HR.out
   rw [drop_cons' hx,drop_cons' hy,Rs.asc, ←drop_cons' hy] at hst
   have k1:(k:Int)+1<n:=by omega
   have k2:(k:Int)<n:=by omega
   have k3:(0:Int)≤k:=by omega
   clear hc hc' hx hy HR
   by_cases h:x<y
   ·have N:=Lib.hid (show Rs.asc (l.drop (k+1))=R by rw [←hst,decide_eq_true h];rfl)
    have q1:decide (y≤x)=false:=decide_eq_false (by omega)
    clear hst
    go_wp2_with fail
    go_quiet (fail)
    go_wp2_with fail
    go_roundw
    case rel=>exact ⟨k+1,by omega,by go_num,N,by first|exact HB|exact Lib.hid (bdrewN HB.out _)⟩
    case measure=>simp [intOf];omega
   ·have N:=Lib.hid (show false=R by rw [←hst,decide_eq_false h];rfl)
    have q1:decide (y≤x)=true:=decide_eq_true (by omega)
    clear hst
    go_wp2_with fail
    go_quiet (fail)
    go_wp2_with fail
    go_ret
    exact ⟨ret_bool N.out,by first|exact HB.out|exact bdrewN HB.out _⟩
  ·have N:=Lib.hid (show true=R by
    have h:=HR.out
    have hl:=HL.out
    rcases hd:l.drop k with _|⟨x,t⟩
    ·rw [hd] at h;exact h
    ·have :t=[]:=by
      have h2:(l.drop k).length=t.length+1:=by rw [hd];rfl
      rw [List.length_drop] at h2
      exact List.eq_nil_of_length_eq_zero (by omega)
     rw [hd,this] at h
     exact h)
   go_wp2_with fail
   go_ret
   exact ⟨ret_bool N.out,HB.out⟩
end Go.Proofs.YtfamcohbnoibaaaGreatDoor
namespace Go.Proofs.YtfamcohbnoibaaaGreatDoor
open Go.RowKit
theorem name_lst {x:List UInt8} {b:Bool} (h:Lx.nameS x=b) (w:World):Calls Tryz.prog 193 #[.string ⟨x.toArray⟩] w fun e w'=>e= .returned (.bool b)∧Below w.heap.size w w':=name_is (s:=⟨x.toArray⟩) h w
theorem find_there {ns:List Rs.Nm} {i:Nat} {x:Rs.Nm} (h:ns[i]? =some x):Rs.findS ns x=((Rs.ix x ns:Int),true)∧Rs.ix x ns≤i:=by
 have h1:=Rs.ix_lt h
 have h2:=(List.getElem?_eq_some_iff.1 h).1
 unfold Rs.findS
 rw [if_pos (by omega)]
 exact ⟨rfl,h1⟩
section
variable {α β:Type} {k:Nat} {e:α×β→Nat→Value} {Q:Nat→Nat→World→α→β→Prop}
end
theorem z_nest {w w':World} {v:SV} {l:List Rs.Zone} (h:Nest 3 eZone ZoneOk 0 w.heap.size w v l) (hb:Below w.heap.size w w'):Nest 3 eZone ZoneOk 0 w'.heap.size w' v l:=
 (h.kept (fun _ _=>ZoneOk.kept (.of_below hb (Nat.le_refl _))) (.of_below hb (Nat.le_refl _))).mono (fun _ _=>ZoneOk.mono (Nat.le_refl _) hb.size) (Nat.le_refl _) hb.size
set_option maxHeartbeats 4000000 in
theorem z_name {l:List Rs.Zone} {i:Nat} {xn:List UInt8} (hx:(l.map (·.name))[i]? =some xn) {R:Int} (hR:Rs.nameE (l.map (·.name)) i xn=R) (A:Option Addr) (n c:Nat) (w:World) (hA:Nest 3 eZone ZoneOk 0 w.heap.size w (A,n,c) l):
  Calls Tryz.prog 150 #[.slice A n c,.func (.func 151) #[] #[],.int .i64 i] w fun e w'=>e= .returned (.int .i64 R)∧Below w.heap.size w w':=by
 have hlen:=hA.len
 simp only at hlen
 have hi:i<n:=by have h:=(List.getElem?_eq_some_iff.1 hx).1;rw [List.length_map] at h;omega
 obtain ⟨x,y,b,off,hx2,ea,hb,d0,d1,d2, -⟩:=z_elem hA (i:=i) hi
 simp only at ea
 subst ea
 obtain rfl:x.name=xn:=by rw [List.getElem?_map,hx2] at hx;exact Option.some.inj hx
 obtain ⟨q,hq⟩: ∃q,Rs.ix x.name (l.map (·.name))=q:=⟨_,rfl⟩
 have hf:=find_there hx
 rw [hq] at hf
 obtain ⟨hf1,hf2⟩:=hf
 obtain ⟨p,hp⟩: ∃p,Lx.nameS x.name=p:=⟨_,rfl⟩
 unfold Rs.nameE at hR
 rw [hp,hq] at hR
 have HA:=Lib.hid hA
 have HF:=Lib.hid hf1
 have HP:=Lib.hid hp
 clear hA hf1 hp hx hx2 hq
 generalize hxn:x.name=xn at HF HP d0
 generalize x.off=i1 at d1
 generalize y.1=A2 at d2;generalize y.2.1=n2 at d2;generalize y.2.2=c2 at d2
 clear hxn
 have HN:=Lib.hid (fun W=>z_nm xn i1 A2 n2 c2 W)
 have h0:(0:Int)≤i:=by omega
 have h1:(i:Int)<n:=by omega
 cases p
 ·obtain rfl:R=2:=by rw [if_pos rfl] at hR;exact hR.symm
  clear hR
  go_enter Tryz.func150,Tryz.ntmps150
  go_wp2_with fail
  refine (HN.out _).mono ?_
  rintro e w1 ⟨rfl,b1⟩
  go_wp2_with fail
  refine (name_lst HP.out _).mono ?_
  rintro e w2 ⟨rfl,b2⟩
  have B2:=bstep b1 b2
  clear b1 b2
  go_wp2_with fail
  go_ret
  exact ⟨rfl,B2⟩
 ·rw [if_neg (by decide)] at hR
  by_cases hlt:q<i
  ·obtain rfl:R=4:=by rw [if_pos hlt] at hR;exact hR.symm
   have hd:decide ((q:Int)<i)=true:=decide_eq_true (by omega)
   clear hR
   go_enter Tryz.func150,Tryz.ntmps150
   go_wp2_with fail
   refine (HN.out _).mono ?_
   rintro e w1 ⟨rfl,b1⟩
   go_wp2_with fail
   refine (name_lst HP.out _).mono ?_
   rintro e w2 ⟨rfl,b2⟩
   have B2:=bstep b1 b2
   have C:=Lib.hid (z_find HF.out (some ⟨b,off,none⟩) n c w2 (z_nest HA.out B2))
   clear b1 b2
   go_wp2_with fail
   refine C.out.mono ?_
   rintro e w3 ⟨rfl,b3⟩
   have B3:=bstep B2 b3
   clear b3 B2
   go_wp2_with fail
   go_ret
   exact ⟨rfl,B3⟩
  ·obtain rfl:R=0:=by rw [if_neg hlt] at hR;exact hR.symm
   have hd:decide ((q:Int)<i)=false:=decide_eq_false (by omega)
   clear hR
   go_enter Tryz.func150,Tryz.ntmps150
   go_wp2_with fail
   refine (HN.out _).mono ?_
   rintro e w1 ⟨rfl,b1⟩
   go_wp2_with fail
   refine (name_lst HP.out _).mono ?_
   rintro e w2 ⟨rfl,b2⟩
   have B2:=bstep b1 b2
   have C:=Lib.hid (z_find HF.out (some ⟨b,off,none⟩) n c w2 (z_nest HA.out B2))
   clear b1 b2
   go_wp2_with fail
   refine C.out.mono ?_
   rintro e w3 ⟨rfl,b3⟩
   have B3:=bstep B2 b3
   clear b3 B2
   go_wp2_with fail
   go_ret
   exact ⟨rfl,B3⟩
theorem p_nest {w w':World} {v:SV} {l:List Rs.Pers} (h:Nest 6 ePers PersOk 0 w.heap.size w v l) (hb:Below w.heap.size w w'):Nest 6 ePers PersOk 0 w'.heap.size w' v l:=
 (h.kept (fun _ _=>PersOk.kept (.of_below hb (Nat.le_refl _))) (.of_below hb (Nat.le_refl _))).mono (fun _ _=>PersOk.mono (Nat.le_refl _) hb.size) (Nat.le_refl _) hb.size
set_option maxHeartbeats 4000000 in
theorem p_name {l:List Rs.Pers} {i:Nat} {xn:List UInt8} (hx:(l.map (·.name))[i]? =some xn) {R:Int} (hR:Rs.nameE (l.map (·.name)) i xn=R) (A:Option Addr) (n c:Nat) (w:World) (hA:Nest 6 ePers PersOk 0 w.heap.size w (A,n,c) l):
  Calls Tryz.prog 153 #[.slice A n c,.func (.func 154) #[] #[],.int .i64 i] w fun e w'=>e= .returned (.int .i64 R)∧Below w.heap.size w w':=by
 have hlen:=hA.len
 simp only at hlen
 have hi:i<n:=by have h:=(List.getElem?_eq_some_iff.1 hx).1;rw [List.length_map] at h;omega
 obtain ⟨x,y,b,off,hx2,ea,hb,d0,d1,d2,d3,d4,d5, -⟩:=p_elem hA (i:=i) hi
 simp only at ea
 subst ea
 obtain rfl:x.name=xn:=by rw [List.getElem?_map,hx2] at hx;exact Option.some.inj hx
 obtain ⟨q,hq⟩: ∃q,Rs.ix x.name (l.map (·.name))=q:=⟨_,rfl⟩
 have hf:=find_there hx
 rw [hq] at hf
 obtain ⟨hf1,hf2⟩:=hf
 obtain ⟨p,hp⟩: ∃p,Lx.nameS x.name=p:=⟨_,rfl⟩
 unfold Rs.nameE at hR
 rw [hp,hq] at hR
 have HA:=Lib.hid hA
 have HF:=Lib.hid hf1
 have HP:=Lib.hid hp
 clear hA hf1 hp hx hx2 hq
 generalize hxn:x.name=xn at HF HP d0
 generalize x.zone=i1 at d1
 generalize y.1=A2 at d2;generalize y.2.1=n2 at d2;generalize y.2.2=c2 at d2
 generalize x.maxw=i3 at d3
 generalize x.minr=i4 at d4
 generalize x.cons=i5 at d5
 clear hxn
 have HN:=Lib.hid (fun W=>p_nm xn i1 A2 n2 c2 i3 i4 i5 W)
 have h0:(0:Int)≤i:=by omega
 have h1:(i:Int)<n:=by omega
 cases p
 ·obtain rfl:R=2:=by rw [if_pos rfl] at hR;exact hR.symm
  clear hR
  go_enter Tryz.func153,Tryz.ntmps153
  go_wp2_with fail
  refine (HN.out _).mono ?_
  rintro e w1 ⟨rfl,b1⟩
  go_wp2_with fail
  refine (name_lst HP.out _).mono ?_
  rintro e w2 ⟨rfl,b2⟩
  have B2:=bstep b1 b2
  clear b1 b2
  go_wp2_with fail
  go_ret
  exact ⟨rfl,B2⟩
 ·rw [if_neg (by decide)] at hR
  by_cases hlt:q<i
  ·obtain rfl:R=4:=by rw [if_pos hlt] at hR;exact hR.symm
   have hd:decide ((q:Int)<i)=true:=decide_eq_true (by omega)
   clear hR
   go_enter Tryz.func153,Tryz.ntmps153
   go_wp2_with fail
   refine (HN.out _).mono ?_
   rintro e w1 ⟨rfl,b1⟩
   go_wp2_with fail
   refine (name_lst HP.out _).mono ?_
   rintro e w2 ⟨rfl,b2⟩
   have B2:=bstep b1 b2
   have C:=Lib.hid (p_find HF.out (some ⟨b,off,none⟩) n c w2 (p_nest HA.out B2))
   clear b1 b2
   go_wp2_with fail
   refine C.out.mono ?_
   rintro e w3 ⟨rfl,b3⟩
   have B3:=bstep B2 b3
   clear b3 B2
   go_wp2_with fail
   go_ret
   exact ⟨rfl,B3⟩
  ·obtain rfl:R=0:=by rw [if_neg hlt] at hR;exact hR.symm
   have hd:decide ((q:Int)<i)=false:=decide_eq_false (by omega)
   clear hR
   go_enter Tryz.func153,Tryz.ntmps153
   go_wp2_with fail
   refine (HN.out _).mono ?_
   rintro e w1 ⟨rfl,b1⟩
   go_wp2_with fail
   refine (name_lst HP.out _).mono ?_
   rintro e w2 ⟨rfl,b2⟩
   have B2:=bstep b1 b2
   have C:=Lib.hid (p_find HF.out (some ⟨b,off,none⟩) n c w2 (p_nest HA.out B2))
   clear b1 b2
   go_wp2_with fail
   refine C.out.mono ?_
   rintro e w3 ⟨rfl,b3⟩
   have B3:=bstep B2 b3
   clear b3 B2
   go_wp2_with fail
   go_ret
   exact ⟨rfl,B3⟩
theorem c_nest {w w':World} {v:SV} {l:List Rs.Cal} (h:Nest 3 eCal CalOk 0 w.heap.size w v l) (hb:Below w.heap.size w w'):Nest 3 eCal CalOk 0 w'.heap.size w' v l:=
 (h.kept (fun _ _=>CalOk.kept (.of_below hb (Nat.le_refl _))) (.of_below hb (Nat.le_refl _))).mono (fun _ _=>CalOk.mono (Nat.le_refl _) hb.size) (Nat.le_refl _) hb.size
set_option maxHeartbeats 4000000 in
theorem c_name {l:List Rs.Cal} {i:Nat} {xn:List UInt8} (hx:(l.map (·.name))[i]? =some xn) {R:Int} (hR:Rs.nameE (l.map (·.name)) i xn=R) (A:Option Addr) (n c:Nat) (w:World) (hA:Nest 3 eCal CalOk 0 w.heap.size w (A,n,c) l):
  Calls Tryz.prog 157 #[.slice A n c,.func (.func 158) #[] #[],.int .i64 i] w fun e w'=>e= .returned (.int .i64 R)∧Below w.heap.size w w':=by
 have hlen:=hA.len
 simp only at hlen
 have hi:i<n:=by have h:=(List.getElem?_eq_some_iff.1 hx).1;rw [List.length_map] at h;omega
 obtain ⟨x,y,b,off,hx2,ea,hb,d0,d1,d2, -⟩:=c_elem hA (i:=i) hi
 simp only at ea
 subst ea
 obtain rfl:x.name=xn:=by rw [List.getElem?_map,hx2] at hx;exact Option.some.inj hx
 obtain ⟨q,hq⟩: ∃q,Rs.ix x.name (l.map (·.name))=q:=⟨_,rfl⟩
 have hf:=find_there hx
 rw [hq] at hf
 obtain ⟨hf1,hf2⟩:=hf
 obtain ⟨p,hp⟩: ∃p,Lx.nameS x.name=p:=⟨_,rfl⟩
 unfold Rs.nameE at hR
 rw [hp,hq] at hR
 have HA:=Lib.hid hA
 have HF:=Lib.hid hf1
 have HP:=Lib.hid hp
 clear hA hf1 hp hx hx2 hq
 generalize hxn:x.name=xn at HF HP d0
 generalize x.zone=i1 at d1
 generalize y.1=A2 at d2;generalize y.2.1=n2 at d2;generalize y.2.2=c2 at d2
 clear hxn
 have HN:=Lib.hid (fun W=>c_nm xn i1 A2 n2 c2 W)
 have h0:(0:Int)≤i:=by omega
 have h1:(i:Int)<n:=by omega
 cases p
 ·obtain rfl:R=2:=by rw [if_pos rfl] at hR;exact hR.symm
  clear hR
  go_enter Tryz.func157,Tryz.ntmps157
  go_wp2_with fail
  refine (HN.out _).mono ?_
  rintro e w1 ⟨rfl,b1⟩
  go_wp2_with fail
  refine (name_lst HP.out _).mono ?_
  rintro e w2 ⟨rfl,b2⟩
  have B2:=bstep b1 b2
  clear b1 b2
  go_wp2_with fail
  go_ret
  exact ⟨rfl,B2⟩
 ·rw [if_neg (by decide)] at hR
  by_cases hlt:q<i
  ·obtain rfl:R=4:=by rw [if_pos hlt] at hR;exact hR.symm
   have hd:decide ((q:Int)<i)=true:=decide_eq_true (by omega)
   clear hR
   go_enter Tryz.func157,Tryz.ntmps157
   go_wp2_with fail
   refine (HN.out _).mono ?_
   rintro e w1 ⟨rfl,b1⟩
   go_wp2_with fail
   refine (name_lst HP.out _).mono ?_
   rintro e w2 ⟨rfl,b2⟩
   have B2:=bstep b1 b2
   have C:=Lib.hid (c_find HF.out (some ⟨b,off,none⟩) n c w2 (c_nest HA.out B2))
   clear b1 b2
   go_wp2_with fail
   refine C.out.mono ?_
   rintro e w3 ⟨rfl,b3⟩
   have B3:=bstep B2 b3
   clear b3 B2
   go_wp2_with fail
   go_ret
   exact ⟨rfl,B3⟩
  ·obtain rfl:R=0:=by rw [if_neg hlt] at hR;exact hR.symm
   have hd:decide ((q:Int)<i)=false:=decide_eq_false (by omega)
   clear hR
   go_enter Tryz.func157,Tryz.ntmps157
   go_wp2_with fail
   refine (HN.out _).mono ?_
   rintro e w1 ⟨rfl,b1⟩
   go_wp2_with fail
   refine (name_lst HP.out _).mono ?_
   rintro e w2 ⟨rfl,b2⟩
   have B2:=bstep b1 b2
   have C:=Lib.hid (c_find HF.out (some ⟨b,off,none⟩) n c w2 (c_nest HA.out B2))
   clear b1 b2
   go_wp2_with fail
   refine C.out.mono ?_
   rintro e w3 ⟨rfl,b3⟩
   have B3:=bstep B2 b3
   clear b3 B2
   go_wp2_with fail
   go_ret
   exact ⟨rfl,B3⟩
theorem s_nest {w w':World} {v:SV} {l:List Rs.Sch} (h:Nest 3 eSch SchOk 0 w.heap.size w v l) (hb:Below w.heap.size w w'):Nest 3 eSch SchOk 0 w'.heap.size w' v l:=
 (h.kept (fun _ _=>SchOk.kept (.of_below hb (Nat.le_refl _))) (.of_below hb (Nat.le_refl _))).mono (fun _ _=>SchOk.mono (Nat.le_refl _) hb.size) (Nat.le_refl _) hb.size
set_option maxHeartbeats 4000000 in
theorem s_name {l:List Rs.Sch} {i:Nat} {xn:List UInt8} (hx:(l.map (·.name))[i]? =some xn) {R:Int} (hR:Rs.nameE (l.map (·.name)) i xn=R) (A:Option Addr) (n c:Nat) (w:World) (hA:Nest 3 eSch SchOk 0 w.heap.size w (A,n,c) l):
  Calls Tryz.prog 162 #[.slice A n c,.func (.func 163) #[] #[],.int .i64 i] w fun e w'=>e= .returned (.int .i64 R)∧Below w.heap.size w w':=by
 have hlen:=hA.len
 simp only at hlen
 have hi:i<n:=by have h:=(List.getElem?_eq_some_iff.1 hx).1;rw [List.length_map] at h;omega
 obtain ⟨x,y,b,off,hx2,ea,hb,d0,d1,d2, -⟩:=s_elem hA (i:=i) hi
 simp only at ea
 subst ea
 obtain rfl:x.name=xn:=by rw [List.getElem?_map,hx2] at hx;exact Option.some.inj hx
 obtain ⟨q,hq⟩: ∃q,Rs.ix x.name (l.map (·.name))=q:=⟨_,rfl⟩
 have hf:=find_there hx
 rw [hq] at hf
 obtain ⟨hf1,hf2⟩:=hf
 obtain ⟨p,hp⟩: ∃p,Lx.nameS x.name=p:=⟨_,rfl⟩
 unfold Rs.nameE at hR
 rw [hp,hq] at hR
 have HA:=Lib.hid hA
 have HF:=Lib.hid hf1
 have HP:=Lib.hid hp
 clear hA hf1 hp hx hx2 hq
 generalize hxn:x.name=xn at HF HP d0
 generalize y.1.1=A1 at d1;generalize y.1.2.1=n1 at d1;generalize y.1.2.2=c1 at d1
 generalize y.2.1=A2 at d2;generalize y.2.2.1=n2 at d2;generalize y.2.2.2=c2 at d2
 clear hxn
 have HN:=Lib.hid (fun W=>s_nm xn A1 n1 c1 A2 n2 c2 W)
 have h0:(0:Int)≤i:=by omega
 have h1:(i:Int)<n:=by omega
 cases p
 ·obtain rfl:R=2:=by rw [if_pos rfl] at hR;exact hR.symm
  clear hR
  go_enter Tryz.func162,Tryz.ntmps162
  go_wp2_with fail
  refine (HN.out _).mono ?_
  rintro e w1 ⟨rfl,b1⟩
  go_wp2_with fail
  refine (name_lst HP.out _).mono ?_
  rintro e w2 ⟨rfl,b2⟩
  have B2:=bstep b1 b2
  clear b1 b2
  go_wp2_with fail
  go_ret
  exact ⟨rfl,B2⟩
 ·rw [if_neg (by decide)] at hR
  by_cases hlt:q<i
  ·obtain rfl:R=4:=by rw [if_pos hlt] at hR;exact hR.symm
   have hd:decide ((q:Int)<i)=true:=decide_eq_true (by omega)
   clear hR
   go_enter Tryz.func162,Tryz.ntmps162
   go_wp2_with fail
   refine (HN.out _).mono ?_
   rintro e w1 ⟨rfl,b1⟩
   go_wp2_with fail
   refine (name_lst HP.out _).mono ?_
   rintro e w2 ⟨rfl,b2⟩
   have B2:=bstep b1 b2
   have C:=Lib.hid (s_find HF.out (some ⟨b,off,none⟩) n c w2 (s_nest HA.out B2))
   clear b1 b2
   go_wp2_with fail
   refine C.out.mono ?_
   rintro e w3 ⟨rfl,b3⟩
   have B3:=bstep B2 b3
   clear b3 B2
   go_wp2_with fail
   go_ret
   exact ⟨rfl,B3⟩
  ·obtain rfl:R=0:=by rw [if_neg hlt] at hR;exact hR.symm
   have hd:decide ((q:Int)<i)=false:=decide_eq_false (by omega)
   clear hR
   go_enter Tryz.func162,Tryz.ntmps162
   go_wp2_with fail
   refine (HN.out _).mono ?_
   rintro e w1 ⟨rfl,b1⟩
   go_wp2_with fail
   refine (name_lst HP.out _).mono ?_
   rintro e w2 ⟨rfl,b2⟩
   have B2:=bstep b1 b2
   have C:=Lib.hid (s_find HF.out (some ⟨b,off,none⟩) n c w2 (s_nest HA.out B2))
   clear b1 b2
   go_wp2_with fail
   refine C.out.mono ?_
   rintro e w3 ⟨rfl,b3⟩
   have B3:=bstep B2 b3
   clear b3 B2
   go_wp2_with fail
   go_ret
   exact ⟨rfl,B3⟩
theorem l_nest {w w':World} {v:SV} {l:List Rs.Lay} (h:Nest 10 eLay LayOk 0 w.heap.size w v l) (hb:Below w.heap.size w w'):Nest 10 eLay LayOk 0 w'.heap.size w' v l:=
 (h.kept (fun _ _=>LayOk.kept (.of_below hb (Nat.le_refl _))) (.of_below hb (Nat.le_refl _))).mono (fun _ _=>LayOk.mono (Nat.le_refl _) hb.size) (Nat.le_refl _) hb.size
set_option maxHeartbeats 4000000 in
theorem l_name {l:List Rs.Lay} {i:Nat} {xn:List UInt8} (hx:(l.map (·.name))[i]? =some xn) {R:Int} (hR:Rs.nameE (l.map (·.name)) i xn=R) (A:Option Addr) (n c:Nat) (w:World) (hA:Nest 10 eLay LayOk 0 w.heap.size w (A,n,c) l):
  Calls Tryz.prog 202 #[.slice A n c,.func (.func 203) #[] #[],.int .i64 i] w fun e w'=>e= .returned (.int .i64 R)∧Below w.heap.size w w':=by
 have hlen:=hA.len
 simp only at hlen
 have hi:i<n:=by have h:=(List.getElem?_eq_some_iff.1 hx).1;rw [List.length_map] at h;omega
 obtain ⟨x,y,b,off,hx2,ea,hb,d0,d1,d2,d3,d4,d5,d6,d7,d8,d9, -⟩:=l_elem hA (i:=i) hi
 simp only at ea
 subst ea
 obtain rfl:x.name=xn:=by rw [List.getElem?_map,hx2] at hx;exact Option.some.inj hx
 obtain ⟨q,hq⟩: ∃q,Rs.ix x.name (l.map (·.name))=q:=⟨_,rfl⟩
 have hf:=find_there hx
 rw [hq] at hf
 obtain ⟨hf1,hf2⟩:=hf
 obtain ⟨p,hp⟩: ∃p,Lx.nameS x.name=p:=⟨_,rfl⟩
 unfold Rs.nameE at hR
 rw [hp,hq] at hR
 have HA:=Lib.hid hA
 have HF:=Lib.hid hf1
 have HP:=Lib.hid hp
 clear hA hf1 hp hx hx2 hq
 generalize hxn:x.name=xn at HF HP d0
 generalize x.zone=i1 at d1
 generalize x.day=i2 at d2
 generalize x.sec=i3 at d3
 generalize x.unit=i4 at d4
 generalize x.every=i5 at d5
 generalize y.1.1=A6 at d6;generalize y.1.2.1=n6 at d6;generalize y.1.2.2=c6 at d6
 generalize y.2.1=A7 at d7;generalize y.2.2.1=n7 at d7;generalize y.2.2.2=c7 at d7
 generalize x.cal=i8 at d8
 generalize x.mode=i9 at d9
 clear hxn
 have HN:=Lib.hid (fun W=>l_nm xn i1 i2 i3 i4 i5 A6 n6 c6 A7 n7 c7 i8 i9 W)
 have h0:(0:Int)≤i:=by omega
 have h1:(i:Int)<n:=by omega
 cases p
 ·obtain rfl:R=2:=by rw [if_pos rfl] at hR;exact hR.symm
  clear hR
  go_enter Tryz.func202,Tryz.ntmps202
  go_wp2_with fail
  refine (HN.out _).mono ?_
  rintro e w1 ⟨rfl,b1⟩
  go_wp2_with fail
  refine (name_lst HP.out _).mono ?_
  rintro e w2 ⟨rfl,b2⟩
  have B2:=bstep b1 b2
  clear b1 b2
  go_wp2_with fail
  go_ret
  exact ⟨rfl,B2⟩
 ·rw [if_neg (by decide)] at hR
  by_cases hlt:q<i
  ·obtain rfl:R=4:=by rw [if_pos hlt] at hR;exact hR.symm
   have hd:decide ((q:Int)<i)=true:=decide_eq_true (by omega)
   clear hR
   go_enter Tryz.func202,Tryz.ntmps202
   go_wp2_with fail
   refine (HN.out _).mono ?_
   rintro e w1 ⟨rfl,b1⟩
   go_wp2_with fail
   refine (name_lst HP.out _).mono ?_
   rintro e w2 ⟨rfl,b2⟩
   have B2:=bstep b1 b2
   have C:=Lib.hid (l_find HF.out (some ⟨b,off,none⟩) n c w2 (l_nest HA.out B2))
   clear b1 b2
   go_wp2_with fail
   refine C.out.mono ?_
   rintro e w3 ⟨rfl,b3⟩
   have B3:=bstep B2 b3
   clear b3 B2
   go_wp2_with fail
   go_ret
   exact ⟨rfl,B3⟩
  ·obtain rfl:R=0:=by rw [if_neg hlt] at hR;exact hR.symm
   have hd:decide ((q:Int)<i)=false:=decide_eq_false (by omega)
   clear hR
   go_enter Tryz.func202,Tryz.ntmps202
   go_wp2_with fail
   refine (HN.out _).mono ?_
   rintro e w1 ⟨rfl,b1⟩
   go_wp2_with fail
   refine (name_lst HP.out _).mono ?_
   rintro e w2 ⟨rfl,b2⟩
   have B2:=bstep b1 b2
   have C:=Lib.hid (l_find HF.out (some ⟨b,off,none⟩) n c w2 (l_nest HA.out B2))
   clear b1 b2
   go_wp2_with fail
   refine C.out.mono ?_
   rintro e w3 ⟨rfl,b3⟩
   have B3:=bstep B2 b3
   clear b3 B2
   go_wp2_with fail
   go_ret
   exact ⟨rfl,B3⟩
end Go.Proofs.YtfamcohbnoibaaaGreatDoor
