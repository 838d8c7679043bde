import Derived.Test.YtfamcohbnoibaaaGreatDoorKG00
import Derived.KernelRfl
import Derived.Lib.Hide
import Derived.Lib.Split
import Derived.Lib.SplitLaws
import Derived.Lib.CutLaws
import Derived.Lib.IndexMore
import Derived.Lib.Strings
import Derived.Lib.Fields
import Derived.Lib.Repeat
import Derived.Lib.ItoaNum
import Derived.Lib.ItoaMem
import Derived.Lib.AtoiAllCases
import Derived.Lib.ItoaLen
import Derived.Test.YtfamcohbnoibaaaGreatDoorKZci
import Derived.Test.YtfamcohbnoibaaaGreatDoorChecked
import Derived.WalkKit
import Derived.WalkSpells
import Derived.WalkLawsBesides
import Derived.Deep.QuietTactic
import Derived.BigQuiet
import Derived.Outline
import Derived.Deep.RegionWith
import Derived.Deep.RegionHeld3
import Derived.Test.YtfamcohbnoibaaaGreatDoorKG01
import Derived.Below
import Derived.OwnWalk
import Derived.Deep.AppendLies
import Derived.Laws.OwnMore
import Derived.StillTailTactics
import Derived.Deep.DrawnRows
import Derived.IntWalk
import Derived.Test.YtfamcohbnoibaaaGreatDoorKG23
import Derived.Test.YtfamcohbnoibaaaGreatDoorKG28
import Derived.Test.YtfamcohbnoibaaaGreatDoorKG27
import Derived.Test.YtfamcohbnoibaaaGreatDoorKG29
import Derived.Test.YtfamcohbnoibaaaGreatDoorKG41
import Derived.Test.YtfamcohbnoibaaaGreatDoorKG20
import Derived.Test.YtfamcohbnoibaaaGreatDoorKDz
import Derived.Test.YtfamcohbnoibaaaGreatDoorKG07
import Derived.Laws.CopyOwn
import Derived.Deep.RegionLaw
import Derived.Deep.CutBlock
set_option linter.unusedVariables false
set_option linter.unusedSimpArgs false
namespace Go.Proofs.YtfamcohbnoibaaaGreatDoor
namespace Civ
theorem wd_code10 (n:Int):(n.tmod 7+10)%7=wd n:=by
 rw [←wd_code];congr 1;omega
theorem ryear (y:Int) (_h:1970≤y):(y-1970)*365+(y-1969)/4-(y-1901)/100+(y-1601)/400=ny y:=by
 unfold ny;omega
end Civ
end Go.Proofs.YtfamcohbnoibaaaGreatDoor
namespace Go.Proofs.YtfamcohbnoibaaaGreatDoor
namespace Zs
theorem insr_at (x:Int×Int): ∀(o:L) (k:Nat),(∀z∈o.take k,z.1≤x.1)→(∀z∈o.drop k,x.1<z.1)→insr x o=o.take k++x::o.drop k
 |[],k,_,_=>by simp [insr]
 |y::t,0,_,h=>by
  have :=h y (by simp)
  unfold insr;rw [if_neg (by omega)];simp
 |y::t,k+1,h1,h2=>by
  have :=h1 y (by simp)
  unfold insr;rw [if_pos this]
  rw [insr_at x t k (fun z hz=>h1 z (by simp [hz])) (fun z hz=>h2 z (by simpa using hz))]
  simp
theorem ins_copy (x:Int×Int) (o:L) (k:Nat) (hk:k≤o.length) (h1: ∀z∈o.take k,z.1≤x.1) (h2: ∀z∈o.drop k,x.1<z.1):
  ((o++[x]).take (k+1)++(((o++[x]).drop k).take (o.length-k)++(o++[x]).drop (k+1+(o.length-k)))).set k x=insr x o:=by
 rw [insr_at x o k h1 h2]
 have e1: ∃z,(o++[x]).take (k+1)=o.take k++[z]:=by
  rw [List.take_succ_eq_append_getElem (by simp;omega)]
  exact ⟨_,by rw [List.take_append_of_le_length hk]⟩
 obtain ⟨z,e1⟩:=e1
 have e2:((o++[x]).drop k).take (o.length-k)=o.drop k:=by
  rw [List.drop_append_of_le_length hk]
  exact List.take_left' (by simp)
 have e3:(o++[x]).drop (k+1+(o.length-k))=[]:=List.drop_of_length_le (by simp;omega)
 rw [e1,e2,e3,List.append_nil,List.append_assoc]
 rw [List.set_append_right _ _ (by simp;omega)]
 simp [Nat.min_eq_left hk]
end Zs
end Go.Proofs.YtfamcohbnoibaaaGreatDoor
namespace Go.Proofs.YtfamcohbnoibaaaGreatDoor
namespace Zn
instance:Inhabited Rule:=⟨⟨0,0,0,0,0,0,0⟩⟩
theorem strK_zero (off:Int) (ts:L):strK off ts 0=strs 0 off ts:=rfl
end Zn
end Go.Proofs.YtfamcohbnoibaaaGreatDoor
namespace Go.Proofs.YtfamcohbnoibaaaGreatDoor
namespace Zn
section
variable {off:Int} {ts:L}
end
end Zn
end Go.Proofs.YtfamcohbnoibaaaGreatDoor
namespace Go.Proofs.YtfamcohbnoibaaaGreatDoor
open Go.RowKit
set_option maxHeartbeats 400000 in
theorem rwday_any (n:Int) (w:World) (h1: -9223372036854775808≤n) (h2:n≤9223372036854775807):
  Calls Tryz.prog 219 #[.int .i64 n] w fun e w'=>e= .returned (.int .i64 (Civ.wd n))∧w=w':=by
 have hb:=Civ.tmod_bd n 7 (by omega)
 go_enter Tryz.func219,Tryz.ntmps219
 go_wp2
 go_ret
 exact ⟨ret_int (Civ.wd_code10 n),rfl⟩
end Go.Proofs.YtfamcohbnoibaaaGreatDoor
namespace Go.Proofs.YtfamcohbnoibaaaGreatDoor
open Go.RowKit
section
variable {α:Type} {k:Nat} {e:α→Nat→Value}
variable {T:TypeId} {w w':World} {B:Nat} {v:Value} {xs:List α}
theorem step_append_one {S:TypeId} (K:KindOk S T k e)
  {ops:Array Oper} {o:Oper} {a:Act} {N:Act→World→Prop} {Q:Exit→Act→World→Prop} {E:Prop} (w:World) (hgd:o.guard=none) (s x:Operand)
  (ho:o.op= .call {callee:= .builtin .append,args:=#[s,x],argTypes:=#[S,S]}) (B:Nat) (v:Value) (ys:List α) (hs:a.eval s=v) (hown:OwnL T k e w B v ys)
  (blk:Nat) (y:α) (hx:a.eval x= .slice (some ⟨blk,0,none⟩) 1 1) (hb: ∀j,j<k→w.cell? ⟨blk,j,none⟩=some (e y j))
  (hlen:ys.length≤900000) (hB:B≤w.heap.size)
  (h: ∀v' w',OwnL T k e w' B v' (ys++[y])→Below B w w'→w.grownBy w' v.ownBlock→N (a.put o.dst v') w'):
  if Region.wanted o (yielded ops a.tmps)=true then Oper.wp Tryz.prog o a w N Q else E:=by
 obtain ⟨i0,z,bytes,hi,hz0,hz1,hz2,hzz,hk2⟩:=K.info
 refine step_append_lies w hgd s x S ho B T i0 z k bytes K.under hi hz0 hz1 hz2 hzz K.pos v ys.length (encK k e ys) hs hown ⟨blk,0,none⟩ 1 1 (encK k e [y]) hx (by rw [encK_len];rfl) ?_ ?_ (by omega) (by simp only [maxLen];omega) ?_ hB _ rfl ?_
 ·intro j u hu
  obtain ⟨i,j',y',h1,h2,rfl,rfl⟩:=encK_inv hu
  rw [add_none]
  rcases i with _|i
  ·simp at h1;subst h1;simpa using hb j' h2
  ·simp at h1
 ·intro u hu
  simp only [encK,List.mem_flatMap,List.mem_map] at hu
  obtain ⟨y,_,j,_,rfl⟩:=hu
  exact K.one y j
 ·have :=Nat.mul_le_mul (show ys.length+1≤1000000 by omega) hk2
  omega
 ·intro g cap w' h1 h2 h3 h4
  refine h _ w' ?_ ((Below.refl B w).grown h2 hB (fun q hq=>(World.ownsRow.lt hown q hq).1)) h2
  unfold OwnL
  rw [encK_app,List.length_append]
  exact h1
end
section
variable {w w':World} {b:Nat} {vs:Array Value} {T:TypeId}
end
end Go.Proofs.YtfamcohbnoibaaaGreatDoor
namespace Go.Proofs.YtfamcohbnoibaaaGreatDoor
open Go.RowKit
section
variable {w w':World} {g n c p:Nat} {A:Option Addr}
end
end Go.Proofs.YtfamcohbnoibaaaGreatDoor
namespace Go.Proofs.YtfamcohbnoibaaaGreatDoor
namespace Rc
open Zn
section
variable {off:Int} {ts:L} {u n D S:Int}
theorem hV_bd (hz:Vz off ts) (h:Rt u n D S) {k a:Int} (hk:0≤k) (ea:hV off ts u n D S k=some a):1≤a∧a≤8589934592:=by
 unfold hV at ea
 by_cases hu:u=0
 ·rw [if_pos hu] at ea
  cases e:fst (locS D S) (strs 0 off ts) with
  |none=>rw [e] at ea;cases ea
  |some x=>
   rw [e] at ea
   simp only [Option.bind_some] at ea
   have :=(fst_facts hz (locS_lo h.d1 h.s0) e).1
   have :=Int.mul_nonneg hk (show 0≤n by have :=h.n1;omega)
   split at ea
   ·simp only [Option.some.injEq] at ea;omega
   ·cases ea
 ·rw [if_neg hu] at ea
  have :=fst_facts hz (locS_lo (h.day hk) h.s0) ea
  exact ⟨this.1,this.2.1⟩
end
section
variable {off:Int} {ts:L} {u n D S:Int}
end
section
variable {off:Int} {ts:L} {u n D S:Int}
theorem hV_ex (hz:Vz off ts) (h:Rt u n D S) {k:Int} (hk:0≤k) (hd:D+k*(n*7)≤90000): ∃a,hV off ts u n D S k=some a:=by
 have h0:=h.s0;have h8:=h.s8;have hn:=h.n1;have d1:=h.d1
 have q0:0≤k*n:=Int.mul_nonneg hk (by omega)
 have q1:k*(n*7)=k*n*7:=(Int.mul_assoc _ _ _).symm
 have key: ∀d,1≤d→d≤90000→ ∃a,fst (locS d S) (strs 0 off ts)=some a∧a≤d*86400+172800:=fun d d1 d2=>by
  have hb:=hz.bd (d*86400+172800)
  obtain ⟨y,e,y0,y1, -⟩:=hz.fst_le (v:=locS d S) (x:=d*86400+172800) (by omega) (by omega) (by rw [locS_of (by omega) (by omega)];unfold cl;omega)
  exact ⟨y,e,y1⟩
 unfold hV
 by_cases hu:u=0
 ·obtain ⟨a,e,ha⟩:=key D d1 (by omega)
  rw [if_pos hu,e]
  simp only [Option.bind_some]
  exact ⟨_,if_pos (by omega)⟩
 ·rw [if_neg hu]
  have q2:D+k*stp u n≤90000:=by unfold stp;split<;>omega
  obtain ⟨a,e, -⟩:=key _ (h.day hk) q2
  exact ⟨a,e⟩
end
end Rc
end Go.Proofs.YtfamcohbnoibaaaGreatDoor
namespace Go.Proofs.YtfamcohbnoibaaaGreatDoor
namespace Rc
open Zn
section
variable {off:Int} {ts:L} {n D S:Int}
end
section
variable {H:Int→Option Int} {off:Int} {ts:L} {v0 d:Int}
end
end Rc
end Go.Proofs.YtfamcohbnoibaaaGreatDoor
namespace Go.Proofs.YtfamcohbnoibaaaGreatDoor
namespace Sg
open Zn
open Wk hiding L
variable {K:Int→Bool}
end Sg
end Go.Proofs.YtfamcohbnoibaaaGreatDoor
namespace Go.Proofs.YtfamcohbnoibaaaGreatDoor
namespace Sg
open Zn Rc
open Wk hiding L
variable {d:Dy}
theorem Dy.always (hw:d.ws=[]) (hm:d.mode=0) {t:Int} (h:0≤d.sh t):d.on t=true∧d.per t=d.ms.getD ((d.sh t).toNat%d.ms.length) 0:=by
 have e:d.on t=true:=by
  unfold Dy.on Dy.win Dy.cal
  rw [hw,hm,decide_eq_true h]
  rfl
 exact ⟨e,by unfold Dy.per;rw [if_pos e]⟩
theorem Dy.in_day {t:Int} (h:d.ds.contains (cl d.off2 d.ts2 t/86400)=true):(d.with 1).per t= -1∧(d.with 2).per t=(d.with 0).per t:=by
 have c0:(d.with 0).cal t=true:=rfl
 have c1:(d.with 1).cal t=false:=by unfold Dy.cal Dy.with;simp only;rw [h];rfl
 have c2:(d.with 2).cal t=true:=by unfold Dy.cal Dy.with;simp only;rw [h];rfl
 have e1:(d.with 1).on t=false:=by unfold Dy.on;rw [c1,Bool.and_false,Bool.and_false]
 have e2:(d.with 2).on t=(d.with 0).on t:=by unfold Dy.on;rw [c2,c0];rfl
 refine ⟨by unfold Dy.per;rw [e1];rfl, ?_⟩
 unfold Dy.per
 rw [e2];rfl
theorem Dy.out_day {t:Int} (h:d.ds.contains (cl d.off2 d.ts2 t/86400)=false):(d.with 2).per t= -1∧(d.with 1).per t=(d.with 0).per t:=by
 have c0:(d.with 0).cal t=true:=rfl
 have c1:(d.with 2).cal t=false:=by unfold Dy.cal Dy.with;simp only;rw [h];rfl
 have c2:(d.with 1).cal t=true:=by unfold Dy.cal Dy.with;simp only;rw [h];rfl
 have e1:(d.with 2).on t=false:=by unfold Dy.on;rw [c1,Bool.and_false,Bool.and_false]
 have e2:(d.with 1).on t=(d.with 0).on t:=by unfold Dy.on;rw [c2,c0];rfl
 refine ⟨by unfold Dy.per;rw [e1];rfl, ?_⟩
 unfold Dy.per
 rw [e2];rfl
end Sg
end Go.Proofs.YtfamcohbnoibaaaGreatDoor
namespace Go.Proofs.YtfamcohbnoibaaaGreatDoor
namespace Sg
open Zn Rc
open Wk hiding L
section
variable {d:Dy} {f t:Int} {hs cs:List Int} {set:List (Int×Int)}
end
end Sg
end Go.Proofs.YtfamcohbnoibaaaGreatDoor
namespace Go.Proofs.YtfamcohbnoibaaaGreatDoor
open Go.RowKit
theorem fstV_ok {off:Int} {ts:Zn.L} {d s v x:Int} (hs:Zn.okD s=true) (h:Zn.locS d s=v) (hx:Zn.fst v (Zn.strs 0 off ts)=some x):fstV off ts 0 d s=x∧fstE off ts 0 d s=0:=by
 unfold fstV fstE;rw [if_neg (by simp),if_neg (by rw [hs];decide),if_neg (by simp),if_neg (by rw [hs];decide),h,hx]
 exact ⟨rfl,rfl⟩
end Go.Proofs.YtfamcohbnoibaaaGreatDoor
namespace Go.Proofs.YtfamcohbnoibaaaGreatDoor
namespace Civ
theorem wd_first {F v:Int} (h0:0≤v) (h6:v≤6):wd (F+(v-wd F)%7)=v:=by unfold wd;omega
theorem nth_of {F L P k v:Int} (hP:P=F+(v-wd F)%7) (n:Int) (h:(P+(k-1)*7<F+L∧n=P+(k-1)*7)∨(F+L≤P+(k-1)*7∧n=P+(k-1)*7-7)):nthD F L k v=n:=by
 unfold nthD;rw [←hP];rcases h with ⟨a,rfl⟩|⟨a,rfl⟩
 ·rw [if_neg (by omega)]
 ·rw [if_pos a]
end Civ
end Go.Proofs.YtfamcohbnoibaaaGreatDoor
namespace Go.Proofs.YtfamcohbnoibaaaGreatDoor
open Go.RowKit
set_option maxHeartbeats 400000 in
theorem rleap_any (y:Int) (w:World):
  Calls Tryz.prog 253 #[.int .i64 y] w fun e w'=>e= .returned (.bool (Civ.leapB y))∧w=w':=by
 go_enter Tryz.func253,Tryz.ntmps253
 go_wp2
 all_goals go_ret
 all_goals exact ⟨ret_bool (Civ.leap_code y (by first|exact .inl ⟨‹_›, ‹_›,rfl⟩|exact .inr (.inl ⟨‹_›, ‹_›,rfl⟩)|exact .inr (.inr ⟨‹_›,rfl⟩))),rfl⟩
theorem rleap_is {y:Int} {b:Bool} (hb:Civ.leapB y=b) (w:World):
  Calls Tryz.prog 253 #[.int .i64 y] w fun e w'=>e= .returned (.bool b)∧w=w':=hb▸rleap_any y w
set_option maxHeartbeats 800000 in
theorem rdim_any (y m:Int) (w:World) (m1: -9223372036854775808≤m) (m2:m≤9223372036854775807):
  Calls Tryz.prog 221 #[.int .i64 y,.int .i64 m] w fun e w'=>e= .returned (.int .i64 (Civ.dim y m))∧w=w':=by
 by_cases ho:m<1∨12<m
 ·have hd:=Lib.hid (Civ.dim_out (y:=y) ho)
  have q1:(m==1)=false:=by simp;omega
  have q2:(m==2)=false:=by simp;omega
  have q3:(m==3)=false:=by simp;omega
  have q4:(m==4)=false:=by simp;omega
  have q5:(m==5)=false:=by simp;omega
  have q6:(m==6)=false:=by simp;omega
  have q7:(m==7)=false:=by simp;omega
  have q8:(m==8)=false:=by simp;omega
  have q9:(m==9)=false:=by simp;omega
  have q10:(m==10)=false:=by simp;omega
  have q11:(m==11)=false:=by simp;omega
  have q12:(m==12)=false:=by simp;omega
  clear ho
  go_enter Tryz.func221,Tryz.ntmps221
  go_wp2_with fail
  go_ret
  exact ⟨ret_int hd.out.symm,rfl⟩
 have hd:=Civ.dim_of (y:=y) (show 1≤m by omega) (show m≤12 by omega)
 have HD:=Lib.hid hd
 clear hd
 have hm:m=2∨m=1∨m=3∨m=4∨m=5∨m=6∨m=7∨m=8∨m=9∨m=10∨m=11∨m=12:=by omega
 clear ho
 rcases hm with rfl|hm
 ·cases hl:Civ.leapB y
  all_goals
   have HL:=Lib.hid hl
   clear hl
   go_enter Tryz.func221,Tryz.ntmps221
   go_wp2_with fail
   refine (rleap_is HL.out _).mono ?_
   rintro e w' ⟨rfl,rfl⟩
   go_wp2_with fail
   go_ret
  ·exact ⟨ret_int (by rw [HD.out,Civ.lp_no HL.out];rfl),rfl⟩
  ·exact ⟨ret_int (by rw [HD.out,Civ.lp_yes HL.out];rfl),rfl⟩
 ·rcases hm with rfl|rfl|rfl|rfl|rfl|rfl|rfl|rfl|rfl|rfl|rfl
  all_goals
   go_enter Tryz.func221,Tryz.ntmps221
   go_wp2_with fail
   go_ret
   exact ⟨ret_int (by rw [HD.out];rfl),rfl⟩
set_option maxHeartbeats 400000 in
theorem rny_any (y:Int) (w:World) (h1:1970≤y) (h2:y≤2241):
  Calls Tryz.prog 192 #[.int .i64 y] w fun e w'=>e= .returned (.int .i64 (Civ.ny y))∧w=w':=by
 go_enter Tryz.func192,Tryz.ntmps192
 go_wp2_with fail
 go_ret
 exact ⟨ret_int (Civ.ryear y h1),rfl⟩
set_option maxHeartbeats 800000 in
theorem rvalid_any (y m d:Int) (w:World) (iy:I64 y) (im:I64 m) (id:I64 d):
  Calls Tryz.prog 252 #[.agg #[.int .i64 y,.int .i64 m,.int .i64 d]] w fun e w'=>e= .returned (.bool (Civ.vldB y m d))∧Below w.heap.size w w':=by
 obtain ⟨iy1,iy2⟩:=iy
 obtain ⟨im1,im2⟩:=im
 obtain ⟨id1,id2⟩:=id
 by_cases h1:1970≤y
 ·by_cases h2:y≤2240
  ·by_cases h4:1≤m
   ·by_cases h5:m≤12
    ·by_cases h3:1≤d
     ·have hv:=Lib.hid (Civ.vldB_last (m:=m) h1 h2 h3)
      go_enter Tryz.func252,Tryz.ntmps252
      go_wp2_with fail
      go_quiet ((go_at_call 221;exact qsame (rdim_any y m _ im1 im2)))
      go_wp2_with fail
      go_ret
      exact ⟨ret_bool hv.out.symm,below_box _ _ _⟩
     ·have hd:decide (1≤d)=false:=by simpa using h3
      have hv:=Lib.hid (Civ.vldB_not.2 (fun h:Civ.vld y m d=>h3 h.2.2.2.2.1))
      go_enter Tryz.func252,Tryz.ntmps252
      go_wp2_with fail
      go_quiet (fail)
      go_wp2_with fail
      go_ret
      exact ⟨ret_bool hv.out.symm,below_box _ _ _⟩
    ·have hd:decide (m≤12)=false:=by simpa using h5
     have hv:=Lib.hid (Civ.vldB_not.2 (fun h:Civ.vld y m d=>h5 h.2.2.2.1))
     go_enter Tryz.func252,Tryz.ntmps252
     go_wp2_with fail
     go_quiet (fail)
     go_wp2_with fail
     go_ret
     exact ⟨ret_bool hv.out.symm,below_box _ _ _⟩
   ·have hd:decide (1≤m)=false:=by simpa using h4
    have hv:=Lib.hid (Civ.vldB_not.2 (fun h:Civ.vld y m d=>h4 h.2.2.1))
    go_enter Tryz.func252,Tryz.ntmps252
    go_wp2_with fail
    go_quiet (fail)
    go_wp2_with fail
    go_ret
    exact ⟨ret_bool hv.out.symm,below_box _ _ _⟩
  ·have hd:decide (y≤2240)=false:=by simpa using h2
   have hv:=Lib.hid (Civ.vldB_not.2 (fun h:Civ.vld y m d=>h2 h.2.1))
   go_enter Tryz.func252,Tryz.ntmps252
   go_wp2_with fail
   go_quiet (fail)
   go_wp2_with fail
   go_ret
   exact ⟨ret_bool hv.out.symm,below_box _ _ _⟩
 ·have hd:decide (1970≤y)=false:=by simpa using h1
  have hv:=Lib.hid (Civ.vldB_not.2 (fun h:Civ.vld y m d=>h1 h.1))
  go_enter Tryz.func252,Tryz.ntmps252
  go_wp2_with fail
  go_quiet (fail)
  go_wp2_with fail
  go_ret
  exact ⟨ret_bool hv.out.symm,below_box _ _ _⟩
theorem rvalid_is {y m d:Int} {b:Bool} (hb:Civ.vldB y m d=b) (w:World) (iy:I64 y) (im:I64 m) (id:I64 d):
  Calls Tryz.prog 252 #[.agg #[.int .i64 y,.int .i64 m,.int .i64 d]] w fun e w'=>e= .returned (.bool b)∧Below w.heap.size w w':=
 hb▸rvalid_any y m d w iy im id
set_option maxHeartbeats 800000 in
theorem rday_yes (y m d:Int) (w:World) (hv:Civ.vld y m d):
  Calls Tryz.prog 220 #[.agg #[.int .i64 y,.int .i64 m,.int .i64 d]] w fun e w'=>e= .returned (.tuple #[.int .i64 (Civ.num y m d),.int .i64 0])∧Below w.heap.size w w':=by
 have HV:=Lib.hid (Civ.vldB_iff.2 hv)
 obtain ⟨v1,v2,v3,v4,v5,v6⟩:=hv
 have hnb:=Civ.ny_bd v1 (show y≤2241 by omega)
 have hdb:=Civ.dim_bd y m
 go_enter Tryz.func220,Tryz.ntmps220
 go_wp2_with fail
 refine (rvalid_is HV.out _ ⟨by omega,by omega⟩ ⟨by omega,by omega⟩ ⟨by omega,by omega⟩).mono ?_
 rintro e w1 ⟨rfl,hb⟩
 have ⟨a0,a1,a2⟩:=(DateAt.new w y m d 221).below hb
 go_wp2_with fail
 refine (rny_any _ _ v1 (by omega)).mono ?_
 rintro e w' ⟨rfl,rfl⟩
 go_wp2_with fail
 go_loop [4,5] (fun n i=> ∃k:Int,1≤k∧k≤m∧i= .int .i64 k∧n= .int .i64 (Civ.ny y+Civ.cum y k)) (fun _ i=>(m-intOf i).toNat)
 case atStart=>exact ⟨1,by omega,by omega,rfl,by rw [Civ.cum_1,Int.add_zero]⟩
 case round=>
  obtain ⟨k,hk1,hk2,rfl,rfl⟩:=hrel
  have hcb:=Civ.cum_bd (y:=y) hk1 (show k≤13 by omega)
  have hdk:=Civ.dim_bd y k
  by_cases hlt:k<m
  ·have hcs:=Lib.hid (Civ.cum_succ (y:=y) hk1 (show k≤12 by omega))
   go_wp2_with (go_at_call 221;refine (rdim_any _ _ _ (by omega) (by omega)).mono ?_;rintro e w' ⟨rfl,rfl⟩)
   go_round
   case rel=>exact ⟨k+1,by omega,by omega,rfl,by rw [hcs.out];go_num⟩
   case measure=>simp [intOf];omega
  ·have hkm:=Lib.hid (show k=m by omega)
   go_wp2_with fail
   go_ret2
   exact ⟨ret_pair (by rw [hkm.out];unfold Civ.num;omega),((Below.refl _ _).alloc (Nat.le_refl _) _).trans (hb.mono (by simp))⟩
open Go.RowKit
theorem rwday_is {n k:Int} (h:Civ.wd n=k) (w:World) (h1: -9223372036854775808≤n) (h2:n≤9223372036854775807):
  Calls Tryz.prog 219 #[.int .i64 n] w fun e w'=>e= .returned (.int .i64 k)∧w=w':=h▸rwday_any n w h1 h2
theorem rday_is {y m d n:Int} (hv:Civ.vld y m d) (hn:Civ.num y m d=n) (w:World):
  Calls Tryz.prog 220 #[.agg #[.int .i64 y,.int .i64 m,.int .i64 d]] w fun e w'=>e= .returned (.tuple #[.int .i64 n,.int .i64 0])∧Below w.heap.size w w':=
 hn▸rday_yes y m d w hv
theorem Civ.wd_near {F v j:Int} (h0:0≤j) (h:j<(v-Civ.wd F)%7):Civ.wd (F+j)≠v:=by unfold Civ.wd at *;omega
set_option maxHeartbeats 1600000 in
theorem rnth_yes (y m k v:Int) (w:World) (hv:Civ.vld y m 1) (k1:1≤k) (k2:k≤5) (v1:0≤v) (v2:v≤6):
  Calls Tryz.prog 180 #[.int .i64 y,.int .i64 m,.int .i64 k,.int .i64 v] w fun e w'=>e= .returned (.tuple #[.int .i64 (Civ.nthD (Civ.num y m 1) (Civ.dim y m) k v),.int .i64 0])∧Below w.heap.size w w':=by
 have nb:=(Civ.num_bd hv).2.2.2.2
 have HV:=hv
 obtain ⟨y1,y2,m1,m2,_,_⟩:=hv
 have L1:=Civ.dim_lo (y:=y) m1 m2
 have L2:=Civ.dim_bd y m
 obtain ⟨N,hN⟩: ∃N,N=Civ.nthD (Civ.num y m 1) (Civ.dim y m) k v:=⟨_,rfl⟩
 obtain ⟨F,hF⟩: ∃F,F=Civ.num y m 1:=⟨_,rfl⟩
 have HF:=Lib.hid hF
 rw [←hF] at nb hN ⊢
 have Z:=Civ.wd_first (F:=F) v1 v2
 obtain ⟨o,ho⟩: ∃o,o=(v-Civ.wd F)%7:=⟨_,rfl⟩
 have HO:=Lib.hid ho
 rw [←ho] at Z
 have o1:0≤o∧o≤6:=by omega
 have HZ:=Lib.hid Z
 have HN:=Lib.hid hN
 clear hN hF ho Z
 rw [←HN.out]
 go_enter Tryz.func180,Tryz.ntmps180
 go_wp2_with fail
 refine (rday_is HV HF.out.symm _).mono ?_
 rintro e w1 ⟨rfl,hb⟩
 go_wp2_with fail
 go_loop [12] (fun i=> ∃j:Int,0≤j∧j≤o∧i= .int .i64 (F+j)) (fun i=>(F+o-intOf i).toNat)
 case atStart=>exact ⟨0,by omega,by omega,by rw [Int.add_zero]⟩
 case round=>
  obtain ⟨j,j1,j2,rfl⟩:=hrel
  by_cases hj:j<o
  ·have hw:(Civ.wd (F+j)==v)=false:=by
    have :=Civ.wd_near (F:=F) (v:=v) j1 (by rw [←HO.out];exact hj)
    simpa using this
   have hw':(Civ.wd (F+j) !=v)=true:=by rw [bne,hw];rfl
   go_wp2_with fail
   refine (rwday_any _ _ (by omega) (by omega)).mono ?_
   rintro e w' ⟨rfl,rfl⟩
   go_wp2_with fail
   go_round
   case rel=>exact ⟨j+1,by omega,by omega,by go_num⟩
   case measure=>simp [intOf];omega
  ·have hjo:j=o:=by omega
   subst hjo
   have hw:Hid (Civ.wd (F+j)=v):=HZ
   by_cases hk5:k<5
   ·have fin:=Lib.hid (show N=F+j+7*(k-1) by rw [HN.out];exact Civ.nth_of (P:=F+j) (by rw [HO.out]) _ (.inl ⟨by omega,by omega⟩))
    go_wp2_with fail
    refine (rwday_is hw.out _ (by omega) (by omega)).mono ?_
    rintro e w' ⟨rfl,rfl⟩
    go_wp2_with fail
    go_ret2
    exact ⟨ret_pair fin.out.symm,hb⟩
   ·have hk:k=5:=by omega
    have fin:=Lib.hid (show ∀i:Int,F+j+7*i<F+Civ.dim y m→F+Civ.dim y m≤F+j+7*i+7→N=F+j+7*i by
     intro i a b
     rw [HN.out];exact Civ.nth_of (P:=F+j) (by rw [HO.out]) _ (by subst hk;omega))
    clear hk
    go_wp2_with fail
    refine (rwday_is hw.out _ (by omega) (by omega)).mono ?_
    rintro e w' ⟨rfl,rfl⟩
    go_wp2_with fail
    go_loop [12] (fun i=> ∃q:Int,0≤q∧F+j+7*q<F+Civ.dim y m∧i= .int .i64 (F+j+7*q)) (fun i=>(F+40-intOf i).toNat)
    case atStart=>exact ⟨0,by omega,by omega,by rw [Int.mul_zero,Int.add_zero]⟩
    case round=>
     obtain ⟨q,q1,q2,rfl⟩:=hrel
     by_cases hq:F+j+7*q+7<F+Civ.dim y m
     ·go_wp2_with (go_at_call 221;refine (rdim_any _ _ _ (by omega) (by omega)).mono ?_;rintro e w' ⟨rfl,rfl⟩)
      go_round
      case rel=>exact ⟨q+1,by omega,by omega,by go_num⟩
      case measure=>simp [intOf];omega
     ·have fi:=Lib.hid (fin.out q q2 (by omega))
      go_wp2_with (go_at_call 221;refine (rdim_any _ _ _ (by omega) (by omega)).mono ?_;rintro e w' ⟨rfl,rfl⟩)
      go_ret2
      exact ⟨ret_pair fi.out.symm,hb⟩
end Go.Proofs.YtfamcohbnoibaaaGreatDoor
namespace Go.Proofs.YtfamcohbnoibaaaGreatDoor
open Go.RowKit
section
variable {α:Type} {k:Nat} {e:α→Nat→Value} {T:TypeId}
theorem run_copy_k (w:World) (dT sT ty elem:TypeId) (k:Nat) (g o dLen dCap:Nat) (a:Addr) (sLen sCap:Nat) (cur:Array Value) (t:TypeId) (cs:List Value)
  (hu: Tryz.prog.underlying dT=some (.slice elem)) {i:TypeInfo} (hi: Tryz.prog.info? elem=some i) (hk:i.size=k)
  (hg:w.heap[g]? =some (.cells cur t (0,0))) (hn:cs.length=Nat.min sLen dLen*k)
  (hsrc: ∀j v,cs[j]? =some v→w.cell? (a.add j)=some v) (hfit:o+cs.length≤cur.size) (h1: ∀v∈cs,v.oneCell'=true):
  (Builtin.copy_ #[dT,sT] ty #[.slice (some ⟨g,o,none⟩) dLen dCap,.slice (some a) sLen sCap]).run Tryz.prog w=
   .ok (goInt (Nat.min sLen dLen)) (w.setRow g (cur.toList.take o++cs++cur.toList.drop (o+cs.length)).toArray):=by
 have hl:=run_loadCells_list (P:= Tryz.prog) w a cs hsrc
 have hst:=run_storeCells_at Tryz.prog g o t cs 0 cur w hg (by simpa using hfit) h1
 rw [hn] at hl
 simp [Builtin.copy_,run_underlying hu,Builtin.lenOf,Builtin.firstCells,sizeOf,typeInfo,hi,hk,hl,hst]
theorem run_copy_zero (w:World) (dT sT ty elem:TypeId) (dp sp:Option Addr) (dLen dCap sLen sCap:Nat) (hu: Tryz.prog.underlying dT=some (.slice elem)) {i:TypeInfo} (hi: Tryz.prog.info? elem=some i) (h0:Nat.min sLen dLen=0):
  (Builtin.copy_ #[dT,sT] ty #[.slice dp dLen dCap,.slice sp sLen sCap]).run Tryz.prog w= .ok (goInt 0) w:=by
 cases sp<;>cases dp<;>simp [Builtin.copy_,run_underlying hu,Builtin.lenOf,Builtin.firstCells,sizeOf,typeInfo,hi,h0,loadCells,loadCellsFrom,storeCells]
theorem step_copy_own {S:TypeId} (K:KindOk S T k e) {ops:Array Oper} {o:Oper} {a:Act} {N:Act→World→Prop} {Q:Exit→Act→World→Prop} {E:Prop} (w:World) (hgd:o.guard=none) (d s:Operand)
  (ho:o.op= .call {callee:= .builtin .copy,args:=#[d,s],argTypes:=#[S,S]}) (B g n cap:Nat) (xs:List α) (hown:OwnL T k e w B (.slice (some ⟨g,0,none⟩) n cap) xs)
  (dp sp:Option Addr) (dLen dCap sLen sCap:Nat) (hd:a.eval d= .slice dp dLen dCap) (hs:a.eval s= .slice sp sLen sCap) (m di si:Nat) (hm:Nat.min sLen dLen=m)
  (hpos:0<m→dp=some ⟨g,di*k,none⟩∧sp=some ⟨g,si*k,none⟩) (h1:di+m≤xs.length) (h2:si+m≤xs.length)
  (h: ∀w',OwnL T k e w' B (.slice (some ⟨g,0,none⟩) n cap) (xs.take di++((xs.drop si).take m++xs.drop (di+m)))→w.grownBy w' (some g)→N (a.put o.dst (goInt m)) w'):
  if Region.wanted o (yielded ops a.tmps)=true then Oper.wp Tryz.prog o a w N Q else E:=by
 have hw:Region.wanted o (yielded ops a.tmps)=true:=by simp [Region.wanted,hgd]
 rw [if_pos hw]
 obtain ⟨i0,z,bytes,hi,hz0,hz1,hz2,hzz,hk2⟩:=K.info
 rcases Nat.eq_zero_or_pos m with h0|h0
 ·subst h0
  have hrun:=run_copy_zero w S S o.type T dp sp dLen dCap sLen sCap K.under hi hm
  unfold Oper.wp
  simp [execOp,ho,resolve,invoke,builtin,hd,hs,hrun,Result.andThen]
  refine h w ?_ (World.grownBy.refl w _)
  rw [List.take_zero,List.nil_append,Nat.add_zero,List.take_append_drop]
  exact hown
 ·obtain ⟨rfl,rfl⟩:=hpos h0
  rcases hown.2 with ⟨hv, -⟩|⟨g',cap',cur,hv,hB,hg,hc1,hc2,hc3,hc4⟩
  ·cases hv
  cases hv
  
  obtain ⟨rest,hrest⟩: ∃rest,cur.toList=encK k e xs++rest:=⟨cur.toList.drop (xs.length*k),by rw [←hc4,List.take_append_drop]⟩
  have e1:xs=xs.take di++xs.drop di:=(List.take_append_drop _ _).symm
  have e2:xs=xs.take (di+m)++xs.drop (di+m):=(List.take_append_drop _ _).symm
  have l1:(encK k e (xs.take di)).length=di*k:=by rw [encK_len,List.length_take,Nat.min_eq_left (by omega)]
  have l2:(encK k e (xs.take (di+m))).length=di*k+m*k:=by rw [encK_len,List.length_take,Nat.min_eq_left (by omega),Nat.add_mul]
  have t1:cur.toList.take (di*k)=encK k e (xs.take di):=by
   rw [hrest]
   conv=>lhs;rw [e1,encK_app,List.append_assoc]
   exact List.take_left' l1
  have t2:cur.toList.drop (di*k+m*k)=encK k e (xs.drop (di+m))++rest:=by
   rw [hrest]
   conv=>lhs;rw [e2,encK_app,List.append_assoc]
   exact List.drop_left' l2
  have lm:((xs.drop si).take m).length=m:=by rw [List.length_take,List.length_drop];omega
  have lcs:(encK k e ((xs.drop si).take m)).length=m*k:=by rw [encK_len,lm]
  have hfit:di*k+(encK k e ((xs.drop si).take m)).length≤cur.size:=by
   rw [lcs,hc3, ←Nat.add_mul]
   exact Nat.mul_le_mul_right k (by omega)
  have hrun:=run_copy_k w S S o.type T k g (di*k) dLen dCap ⟨g,si*k,none⟩ sLen sCap cur T (encK k e ((xs.drop si).take m)) K.under hi hz1 hg (by rw [lcs,hm]) (fun j u hu=>by
   obtain ⟨i,j',y,q1,q2,rfl,rfl⟩:=encK_inv hu
   rw [add_none]
   have hi':i<m:=by have :=(List.getElem?_eq_some_iff.1 q1).1;rw [lm] at this;exact this
   rw [List.getElem?_take,if_pos hi',List.getElem?_drop] at q1
   have hsi:si+i<xs.length:=by omega
   have hle:(si+i)*k+k≤xs.length*k:=by have :=Nat.mul_le_mul_right k hsi;rw [Nat.succ_mul] at this;exact this
   have :=(World.ownsRow.cellAt hown ((si+i)*k+j') (by omega)).trans (encK_get xs (si+i) j' y q1 q2)
   rw [Nat.add_mul] at this
   rw [←Nat.add_assoc]
   exact this) hfit (fun u hu=>by
   simp only [encK,List.mem_flatMap,List.mem_map] at hu
   obtain ⟨y,_,j,_,rfl⟩:=hu
   exact K.one y j)
  rw [hm] at hrun
  unfold Oper.wp
  simp only [ho,execOp,resolve,invoke,builtin,Sem.run_bind,Sem.run_pure,Result.andThen_ok,List.map_toArray,List.map_cons,List.map_nil,hd,hs,hrun]
  refine h _ ?_ ⟨rfl,rfl,rfl,by simp [World.setRow],fun j hj hne=>setRow_other w g j _ (fun e=>hne (by rw [e]))⟩
  have lx:(xs.take di++((xs.drop si).take m++xs.drop (di+m))).length=xs.length:=by
   rw [List.length_append,List.length_append,lm,List.length_take,List.length_drop];omega
  have le2:(encK k e (xs.take di++((xs.drop si).take m++xs.drop (di+m)))).length=xs.length*k:=by rw [encK_len,lx]
  unfold OwnL
  rw [lx]
  refine ⟨le2,.inr ⟨g,cap,_,rfl,hB,setRow_heap w g cur _ T _ hg,by omega,hc2, ?_, ?_⟩⟩
  ·have :=congrArg List.length hrest
   simp only [List.size_toArray,List.length_append,lcs,List.length_take,List.length_drop,Array.length_toList]
   omega
  ·rw [lcs,t1,t2]
   simp only [List.toList_toArray]
   have :encK k e (xs.take di)++encK k e ((xs.drop si).take m)++(encK k e (xs.drop (di+m))++rest)=encK k e (xs.take di++((xs.drop si).take m++xs.drop (di+m)))++rest:=by
    rw [encK_app,encK_app];simp
   rw [this]
   exact List.take_left' le2
end
end Go.Proofs.YtfamcohbnoibaaaGreatDoor
set_option maxRecDepth 100000
namespace Go.Proofs.YtfamcohbnoibaaaGreatDoor
open Go.RowKit
def inB (n lo hi:Int):Bool:=decide (lo≤n∧n≤hi)
theorem inB_yes {n lo hi:Int} (h:lo≤n) (h2:n≤hi):inB n lo hi=true:=by unfold inB;simp [h,h2]
theorem inB_no {n lo hi:Int} (h:n<lo∨hi<n):inB n lo hi=false:=by unfold inB;simp;omega
theorem in_any (n lo hi:Int) (w:World):Calls Tryz.prog 96 #[.int .i64 n,.int .i64 lo,.int .i64 hi] w fun e w'=>e= .returned (.bool (inB n lo hi))∧w=w':=by
 by_cases h1:lo≤n
 ·by_cases h2:n≤hi
  ·have h:=Lib.hid (inB_yes h1 h2)
   go_enter Tryz.func96,Tryz.ntmps96
   go_wp2_with fail
   go_ret
   exact ⟨ret_bool h.out.symm,rfl⟩
  ·have h:=Lib.hid (inB_no (n:=n) (lo:=lo) (hi:=hi) (by omega))
   go_enter Tryz.func96,Tryz.ntmps96
   go_wp2_with fail
   go_ret
   exact ⟨ret_bool h.out.symm,rfl⟩
 ·have h:=Lib.hid (inB_no (n:=n) (lo:=lo) (hi:=hi) (by omega))
  go_enter Tryz.func96,Tryz.ntmps96
  go_wp2_with fail
  go_ret
  exact ⟨ret_bool h.out.symm,rfl⟩
theorem in_is {n lo hi:Int} {b:Bool} (h:inB n lo hi=b) (w:World):Calls Tryz.prog 96 #[.int .i64 n,.int .i64 lo,.int .i64 hi] w fun e w'=>e= .returned (.bool b)∧w=w':=h▸in_any n lo hi w
set_option maxHeartbeats 4000000 in
theorem right_any (r:Zn.Rule) (w:World):Calls Tryz.prog 135 #[valR r] w fun e w'=>e= .returned (.bool (Zn.okR r))∧Below w.heap.size w w':=by
 obtain ⟨fr,t,mo,wk,wd,sec,off⟩:=r
 unfold valR
 simp only
 have hsp:Zn.okR ⟨fr,t,mo,wk,wd,sec,off⟩=(inB fr 1970 2240&&inB t fr 2240&&inB mo 1 12&&inB wk 1 5&&inB wd 0 6&&inB sec 0 86399&&inB off (-64800) 64800):=by
  rw [Bool.eq_iff_iff,Zn.okR_iff];unfold inB;simp;omega
 rw [hsp]
 have b1:=fun W=>in_any fr 1970 2240 W
 have b2:=fun W=>in_any t fr 2240 W
 have b3:=fun W=>in_any mo 1 12 W
 have b4:=fun W=>in_any wk 1 5 W
 have b5:=fun W=>in_any wd 0 6 W
 have b6:=fun W=>in_any sec 0 86399 W
 have b7:=fun W=>in_any off (-64800) 64800 W
 generalize inB fr 1970 2240=p1 at b1 hsp ⊢
 generalize inB t fr 2240=p2 at b2 hsp ⊢
 generalize inB mo 1 12=p3 at b3 hsp ⊢
 generalize inB wk 1 5=p4 at b4 hsp ⊢
 generalize inB wd 0 6=p5 at b5 hsp ⊢
 generalize inB sec 0 86399=p6 at b6 hsp ⊢
 generalize inB off (-64800) 64800=p7 at b7 hsp ⊢
 clear hsp
 have H1:=Lib.hid b1
 have H2:=Lib.hid b2
 have H3:=Lib.hid b3
 have H4:=Lib.hid b4
 have H5:=Lib.hid b5
 have H6:=Lib.hid b6
 have H7:=Lib.hid b7
 clear b1 b2 b3 b4 b5 b6 b7
 cases p1
 ·as_aux_lemma=>
  go_enter Tryz.func135,Tryz.ntmps135
  go_wp2_with fail
  refine (H1.out _).mono ?_
  rintro e w' ⟨rfl,rfl⟩
  go_wp2_with fail
  go_ret
  exact ⟨rfl,(Below.refl _ _).alloc (Nat.le_refl _) _⟩
 cases p2
 ·as_aux_lemma=>
  go_enter Tryz.func135,Tryz.ntmps135
  go_wp2_with fail
  refine (H1.out _).mono ?_
  rintro e w' ⟨rfl,rfl⟩
  go_wp2_with fail
  refine (H2.out _).mono ?_
  rintro e w' ⟨rfl,rfl⟩
  go_wp2_with fail
  go_ret
  exact ⟨rfl,(Below.refl _ _).alloc (Nat.le_refl _) _⟩
 cases p3
 ·as_aux_lemma=>
  go_enter Tryz.func135,Tryz.ntmps135
  go_wp2_with fail
  refine (H1.out _).mono ?_
  rintro e w' ⟨rfl,rfl⟩
  go_wp2_with fail
  refine (H2.out _).mono ?_
  rintro e w' ⟨rfl,rfl⟩
  go_wp2_with fail
  refine (H3.out _).mono ?_
  rintro e w' ⟨rfl,rfl⟩
  go_wp2_with fail
  go_ret
  exact ⟨rfl,(Below.refl _ _).alloc (Nat.le_refl _) _⟩
 cases p4
 ·as_aux_lemma=>
  go_enter Tryz.func135,Tryz.ntmps135
  go_wp2_with fail
  refine (H1.out _).mono ?_
  rintro e w' ⟨rfl,rfl⟩
  go_wp2_with fail
  refine (H2.out _).mono ?_
  rintro e w' ⟨rfl,rfl⟩
  go_wp2_with fail
  refine (H3.out _).mono ?_
  rintro e w' ⟨rfl,rfl⟩
  go_wp2_with fail
  refine (H4.out _).mono ?_
  rintro e w' ⟨rfl,rfl⟩
  go_wp2_with fail
  go_ret
  exact ⟨rfl,(Below.refl _ _).alloc (Nat.le_refl _) _⟩
 cases p5
 ·as_aux_lemma=>
  go_enter Tryz.func135,Tryz.ntmps135
  go_wp2_with fail
  refine (H1.out _).mono ?_
  rintro e w' ⟨rfl,rfl⟩
  go_wp2_with fail
  refine (H2.out _).mono ?_
  rintro e w' ⟨rfl,rfl⟩
  go_wp2_with fail
  refine (H3.out _).mono ?_
  rintro e w' ⟨rfl,rfl⟩
  go_wp2_with fail
  refine (H4.out _).mono ?_
  rintro e w' ⟨rfl,rfl⟩
  go_wp2_with fail
  refine (H5.out _).mono ?_
  rintro e w' ⟨rfl,rfl⟩
  go_wp2_with fail
  go_ret
  exact ⟨rfl,(Below.refl _ _).alloc (Nat.le_refl _) _⟩
 cases p6
 ·as_aux_lemma=>
  go_enter Tryz.func135,Tryz.ntmps135
  go_wp2_with fail
  refine (H1.out _).mono ?_
  rintro e w' ⟨rfl,rfl⟩
  go_wp2_with fail
  refine (H2.out _).mono ?_
  rintro e w' ⟨rfl,rfl⟩
  go_wp2_with fail
  refine (H3.out _).mono ?_
  rintro e w' ⟨rfl,rfl⟩
  go_wp2_with fail
  refine (H4.out _).mono ?_
  rintro e w' ⟨rfl,rfl⟩
  go_wp2_with fail
  refine (H5.out _).mono ?_
  rintro e w' ⟨rfl,rfl⟩
  go_wp2_with fail
  refine (H6.out _).mono ?_
  rintro e w' ⟨rfl,rfl⟩
  go_wp2_with fail
  go_ret
  exact ⟨rfl,(Below.refl _ _).alloc (Nat.le_refl _) _⟩
 go_enter Tryz.func135,Tryz.ntmps135
 go_wp2_with fail
 refine (H1.out _).mono ?_
 rintro e w' ⟨rfl,rfl⟩
 go_wp2_with fail
 refine (H2.out _).mono ?_
 rintro e w' ⟨rfl,rfl⟩
 go_wp2_with fail
 refine (H3.out _).mono ?_
 rintro e w' ⟨rfl,rfl⟩
 go_wp2_with fail
 refine (H4.out _).mono ?_
 rintro e w' ⟨rfl,rfl⟩
 go_wp2_with fail
 refine (H5.out _).mono ?_
 rintro e w' ⟨rfl,rfl⟩
 go_wp2_with fail
 refine (H6.out _).mono ?_
 rintro e w' ⟨rfl,rfl⟩
 go_wp2_with fail
 refine (H7.out _).mono ?_
 rintro e w' ⟨rfl,rfl⟩
 go_wp2_with fail
 go_ret
 exact ⟨rfl,(Below.refl _ _).alloc (Nat.le_refl _) _⟩
theorem encK_set {xs:Zn.L} {i:Nat} {x:Int×Int} (hi:i<xs.length):encK 2 ePair (xs.set i x)=((encK 2 ePair xs).set (i*2) (.int .i64 x.1)).set (i*2+1) (.int .i64 x.2):=by
 have e:xs=xs.take i++xs.getD i (0,0)::xs.drop (i+1):=by
  conv=>lhs;rw [←List.take_append_drop i xs,Zs.drop_cons xs i hi]
 obtain ⟨y,hy⟩: ∃y,xs.getD i (0,0)=y:=⟨_,rfl⟩
 rw [hy] at e
 have lt:(xs.take i).length=i:=by rw [List.length_take];omega
 have le:(encK 2 ePair (xs.take i)).length=i*2:=by rw [encK_len,lt]
 have c2: ∀z:Int×Int,(List.range 2).map (ePair z)=[.int .i64 z.1,.int .i64 z.2]:=fun z=>rfl
 conv=>lhs;rw [e]
 conv=>rhs;rw [e]
 rw [List.set_append_right _ _ (by omega),show i-(xs.take i).length=0 by omega,List.set_cons_zero,encK_app,encK_app,encK_cons,encK_cons,c2,c2,
  List.set_append_right _ _ (by omega),show i*2-(encK 2 ePair (xs.take i)).length=0 by omega,List.set_append_right _ _ (by omega),show i*2+1-(encK 2 ePair (xs.take i)).length=1 by omega]
 rfl
theorem OwnL.setPair {T:TypeId} {w:World} {B g n cap:Nat} {xs:Zn.L} (h:OwnL T 2 ePair w B (.slice (some ⟨g,0,none⟩) n cap) xs) {i:Nat} (hi:i<xs.length) (x:Int×Int):
  OwnL T 2 ePair ((w.setCell ⟨g,i*2,none⟩ (.int .i64 x.1)).setCell ⟨g,i*2+1,none⟩ (.int .i64 x.2)) B (.slice (some ⟨g,0,none⟩) n cap) (xs.set i x):=by
 rcases h.2 with ⟨hv, -⟩|⟨g',cap',cur,hv,hB,hg,hc1,hc2,hc3,hc4⟩
 ·cases hv
 cases hv
 unfold OwnL
 have hl:=encK_len (k:=2) (e:=ePair) (xs.set i x)
 rw [List.length_set] at hl ⊢
 refine ⟨hl,.inr ⟨g,cap,(cur.setIfInBounds (i*2) (.int .i64 x.1)).setIfInBounds (i*2+1) (.int .i64 x.2),rfl,hB, ?_,hc1,hc2,by simpa using hc3, ?_⟩⟩
 ·have b1:BlkAt w g cur T:=hg
  exact BlkAt.set_ (BlkAt.set_ b1 (i*2) _) (i*2+1) _
 ·rw [encK_set hi, ←hc4]
  simp only [Array.toList_setIfInBounds,List.take_set]
open Go.RowKit
theorem kOccR:KindOk 169 171 2 ePair:=⟨Tryz.underlying169,by obtain ⟨i,a,b,c,d⟩:=info_parts (show (Tryz.prog.info? 171).map (fun i=>(i.zero,i.size,i.bytes))=some (some (.agg #[.int .i64 0,.int .i64 0]),2,16) by kernel_rfl);exact ⟨i,_,_,a,b,c,d,rfl,by omega⟩,by omega,fun _ _=>rfl⟩
theorem keepN {W0 W W':World} {b i j l:Nat} {a0 a1 a2:Value} (h:W.cell? ⟨b,i,none⟩=some a0∧W.cell? ⟨b,j,none⟩=some a1∧W.cell? ⟨b,l,none⟩=some a2∧Below W0.heap.size W0 W) (hb:Below W.heap.size W W'):
  W'.cell? ⟨b,i,none⟩=some a0∧W'.cell? ⟨b,j,none⟩=some a1∧W'.cell? ⟨b,l,none⟩=some a2∧Below W0.heap.size W0 W':=by
 obtain ⟨h0,h1,h2,h3⟩:=h
 exact ⟨cell_keep h0 hb,cell_keep h1 hb,cell_keep h2 hb,bstep h3 hb⟩
theorem flat_occ_len {rs:List Zn.Rule} (r:Zn.Rule) (k j:Nat) (hr:rs[k]? =some r) (hj:j≤Zn.yrs r):(Zn.flat (rs.take k)++Zn.occ r r.fr j).length≤(Zn.flat rs).length:=by
 have :=flat_take_le rs (k+1)
 rw [take_snoc' hr,Zn.flat_snoc] at this
 unfold Zn.occR at this
 rw [List.length_append,Zn.occ_len] at this ⊢
 omega
set_option maxHeartbeats 4000000 in
set_option maxRecDepth 100000 in
theorem rocc_any (A:Option Addr) (n c:Nat) (rs:List Zn.Rule) (w:World) (hA:RulesAt w A rs) (hn:rs.length=n) (hn16:n≤16) (hok:rs.all Zn.okR=true) (hm640:(Zn.flat rs).length≤640):
  Calls Tryz.prog 136 #[.slice A n c] w (GivesP (Zs.srt (Zn.flat rs)) w):=by
 have HN:=Lib.hid hn
 have HOK:=Lib.hid hok
 have HM:=Lib.hid hm640
 clear hn hok hm640
 go_enter Tryz.func136,Tryz.ntmps136
 go_wp2_with fail
 go_loopw [3,4] (fun v i wr=> ∃k:Nat,k≤n∧i= .int .i64 k∧Hid (OwnL 171 2 ePair wr w.heap.size v (Zs.srt (Zn.flat (rs.take k))))∧Hid (Below w.heap.size w wr)) (fun _ i _=>n-(intOf i).toNat)
 case atStart=>exact ⟨0,Nat.zero_le _,rfl,Lib.hid (OwnL.nil_ _ _),Lib.hid (Below.refl _ _)⟩
 case round=>
  obtain ⟨k,hk,rfl,HO,HB⟩:=hrel
  by_cases hlt:k<n
  ·obtain ⟨r,hr⟩:=get_ex (xs:=rs) (i:=k) (by have :=HN.out;omega)
   obtain ⟨b,off,rfl,hb,hc⟩:=hA (by have :=HN.out;omega)
   obtain ⟨c0,c1,c2,c3,c4,c5,c6⟩:=rule_cells (hc k r hr)
   have hor:=flat_all HOK.out hr
   have hbd:=Zn.okR_iff.1 hor
   have hfl:Zn.flat (rs.take (k+1))=Zn.flat (rs.take k)++Zn.occ r r.fr (Zn.yrs r):=by rw [take_snoc' hr,Zn.flat_snoc];rfl
   have hlen:=fun j=>flat_occ_len r k j hr
   obtain ⟨L0,hL0⟩: ∃L0,Zn.flat (rs.take k)=L0:=⟨_,rfl⟩
   rw [hL0] at HO hfl hlen
   have HFL:=Lib.hid hfl
   have HLEN:=Lib.hid hlen
   have HOR:=Lib.hid hor
   have hy:(Zn.yrs r:Int)=r.to-r.fr+1:=by unfold Zn.yrs;omega
   have HY:=Lib.hid hy
   obtain ⟨fr,hfr⟩: ∃x,r.fr=x:=⟨_,rfl⟩
   obtain ⟨tt,htt⟩: ∃x,r.to=x:=⟨_,rfl⟩
   have e0:=(HB.out.cell (p:=⟨b,off+k*7,none⟩) hb).trans c0
   have e1:=(HB.out.cell (p:=⟨b,off+k*7+1,none⟩) hb).trans c1
   rw [hfr] at e0 c0 hbd
   rw [htt] at e1 c1 hbd
   have hbf:1970≤fr∧fr≤2240∧fr≤tt∧tt≤2240:=by omega
   obtain ⟨f1,f2,f3,f4⟩:=hbf
   have HFT:Hid (r.fr=fr∧r.to=tt):=Lib.hid ⟨hfr,htt⟩
   obtain ⟨wo,rfl⟩: ∃wo:World,wo=wr:=⟨_,rfl⟩
   clear hc hr hor hL0 hfl hy hbd hfr htt hlen
   go_wp2_with fail
   go_loopw [3,5] (fun v y wx=> ∃j:Nat,y= .int .i64 (fr+j)∧(j:Int)≤tt-fr+1∧Hid (OwnL 171 2 ePair wx w.heap.size v (Zs.srt (L0++Zn.occ r r.fr j)))∧Hid (Below w.heap.size w wx)) (fun _ y _=>(tt+1-intOf y).toNat)
   case atStart=>exact ⟨0,by simp,by omega,Lib.hid (by rw [show Zn.occ r r.fr 0=[] from rfl,List.append_nil];exact HO.out),HB⟩
   case round=>
    clear HO HB e0 e1
    obtain ⟨j,rfl,hj,HO,HB⟩:=hrel
    have e1:=(HB.out.cell (p:=⟨b,off+k*7+1,none⟩) hb).trans c1
    by_cases hle:fr+j≤tt
    ·have e2:=(HB.out.cell (p:=⟨b,off+k*7+2,none⟩) hb).trans c2
     have e3:=(HB.out.cell (p:=⟨b,off+k*7+3,none⟩) hb).trans c3
     have e4:=(HB.out.cell (p:=⟨b,off+k*7+4,none⟩) hb).trans c4
     have hbd:=Zn.okR_iff.1 HOR.out
     rw [HFT.out.1,HFT.out.2] at hbd
     have hnb:=Zn.nth_bd (y:=fr+j) HOR.out (by have :=HFT.out;omega) (by have :=HFT.out;omega)
     have C:=fun W=>rnth_yes (fr+j) r.mo r.wk r.wd W (Zn.vld_first (by omega) (by omega) (by omega) (by omega)) (by omega) (by omega) (by omega) (by omega)
     change ∀W,Calls _ _ _ W (fun e w'=>e= .returned (.tuple #[.int .i64 (Zn.nth r (fr+j)),.int .i64 0])∧Below W.heap.size W w') at C
     have hsn:=Zn.occ_snoc r j r.fr
     rw [HFT.out.1] at hsn
     obtain ⟨D,hD⟩: ∃D,Zn.nth r (fr+j)=D:=⟨_,rfl⟩
     rw [hD] at C hnb hsn
     have HC:=Lib.hid C
     have HSN:=Lib.hid hsn
     obtain ⟨sec,hsec⟩: ∃x,r.sec=x:=⟨_,rfl⟩
     obtain ⟨of,hof⟩: ∃x,r.off=x:=⟨_,rfl⟩
     have hs5:=c5
     have hs6:=c6
     rw [hsec] at hbd hs5
     rw [hof] at hbd hs6
     have s12:0≤sec∧sec<86400:=by omega
     obtain ⟨s1,s2⟩:=s12
     obtain ⟨n1,n2⟩:=hnb
     have HSE:Hid (r.sec=sec∧r.off=of):=Lib.hid ⟨hsec,hof⟩
     have hlen:(Zs.srt (L0++Zn.occ r r.fr j)).length≤640:=by rw [Zs.srt_len];have :=HLEN.out j (by have :=HY.out;have :=HFT.out;omega);have :=HM.out;omega
     have hj0:(0:Int)≤j:=by omega
     have S0:=keepN (W0:=wr) (W:=wr) ⟨e2,e3,e4,Below.refl _ _⟩ (Below.refl _ _).drew
     have S1:=keepN (W0:=wr) (W:=wr) ⟨e2,e3,e4,Below.refl _ _⟩ (Below.refl _ _)
     have hkn:(k:Int)<n:=by omega
     have hk0:(0:Int)≤k:=by omega
     clear hsn C hbd hD hsec hof
     go_upto_region 8 with fail
     go_cut [6,7] (fun d e wx=>d= .int .i64 D∧e= .int .i64 0∧Hid (Below wr.heap.size wr wx))
     case first =>
      go_region_held3 (fun W=>W.cell? ⟨b,off+k*7+2,none⟩=some (.int .i64 r.mo)∧W.cell? ⟨b,off+k*7+3,none⟩=some (.int .i64 r.wk)∧W.cell? ⟨b,off+k*7+4,none⟩=some (.int .i64 r.wd)∧Below wr.heap.size wr W)
       (first|(exact S0)|(exact keepN S1 (Below.refl _ _).drew)|assumption|(exact keepN (by assumption) hb))
       (first|(go_at_call 180;refine (HC.out _).mono ?_;rintro e w' ⟨rfl,hb⟩))
      all_goals
       go_wp2_with fail
       go_meet
       exact ⟨rfl,rfl,Lib.hid (by assumption:_∧_∧_∧Below wr.heap.size wr _).2.2.2⟩
     case rest=>
      obtain ⟨rfl,rfl,HB3⟩:=hcut
      obtain ⟨w1,rfl⟩: ∃w1:World,w1=wc:=⟨_,rfl⟩
      have O1:=Lib.hid (HO.out.below HB3.out)
      have B1:=Lib.hid (HB.out.trans (HB3.out.mono HB.out.size))
      have g5:=(B1.out.cell (p:=⟨b,off+k*7+5,none⟩) hb).trans hs5
      have g6:=(B1.out.cell (p:=⟨b,off+k*7+6,none⟩) hb).trans hs6
      have sm:IntKind.i64.wrap (D*86400)=D*86400:=by rw [IntKind.wrap_i64];omega
      have sa:IntKind.i64.wrap (D*86400+sec)=D*86400+sec:=by rw [IntKind.wrap_i64];omega
      have HNB:=Lib.hid (own_block O1.out (Nat.le_refl _))
      clear S0 S1 HO HB HB3 HC e1 e2 e3 e4
      go_upto_region 9 with fail
      go_cut [8] (fun p wx=>p= .pointer (some ⟨w1.heap.size,0,none⟩)∧Hid (PairBlk wx w1.heap.size (D*86400+sec,of) 171∧Below w1.heap.size w1 wx))
      case first =>
       go_region_held3 (fun W=>W.cell? ⟨b,off+k*7+5,none⟩=some (.int .i64 sec)∧W.cell? ⟨b,off+k*7+6,none⟩=some (.int .i64 of))
        (first|(exact ⟨g5,g6⟩)|go_keep)
        (fail)
       all_goals
        go_wp2_with fail
        go_meet
        exact ⟨rfl,Lib.hid ⟨BlkAt.new _ _ _,((Below.refl _ _).alloc (Nat.le_refl _) _).drew⟩⟩
      case rest=>
       obtain ⟨rfl,HPB⟩:=hcut
       obtain ⟨w2,rfl⟩: ∃w2:World,w2=wc:=⟨_,rfl⟩
       have O2:=Lib.hid (O1.out.below HPB.out.2)
       have B2:=Lib.hid (B1.out.trans (HPB.out.2.mono B1.out.size))
       obtain ⟨out,hout⟩: ∃out,Zs.srt (L0++Zn.occ r r.fr j)=out:=⟨_,rfl⟩
       rw [hout] at O2 hlen
       have hasc:Zs.Asc out:=by rw [←hout];exact Zs.srt_asc _
       have hnext: ∀l,l=Zs.insr (D*86400+sec,of) out→l=Zs.srt (L0++Zn.occ r r.fr (j+1)):=fun l hl=>by
        rw [hl, ←hout,HFT.out.1,HSN.out,HSE.out.1,HSE.out.2, ←List.append_assoc,Zs.srt_snoc]
       have HNX:=Lib.hid hnext
       have HAS:=Lib.hid hasc
       obtain ⟨A2,cc,rfl,hcc,hcn,hLA⟩:=O2.out.shape
       obtain ⟨loc,hloc⟩: ∃loc,D*86400+sec=loc:=⟨_,rfl⟩
       obtain ⟨no,hno⟩: ∃no,out.length=no:=⟨_,rfl⟩
       rw [hloc] at HPB HNX
       rw [hno] at hlen hcc
       have HLA:=Lib.hid hLA
       have HNO:=Lib.hid hno
       have hbx:=(BlkAt.lt_ HPB.out.1)
       clear hout hasc hnext hLA hloc hno hcn O1 B1 g5 g6 sm sa
       obtain ⟨x0,x1⟩:=PairBlk.cells HPB.out.1
       simp only at x0 x1
       rw [HNO.out]
       go_upto_block 4 with fail
       go_cut [9] (fun vk wx=> ∃p q:Nat,vk= .int .i64 p∧p≤no∧wx=w2.drewN q∧Hid ((∀z∈out.take p,z.1≤loc)∧ ∀z∈out.drop p,loc<z.1))
       case first =>
        go_wp2_with fail
        go_loopw [9] (fun vk wx=> ∃p q:Nat,vk= .int .i64 p∧p≤no∧wx=w2.drewN q∧Hid (∀z∈out.drop p,loc<z.1)) (fun k _=>(intOf k).toNat)
        case atStart=>exact ⟨no,0,rfl,Nat.le_refl _,rfl,Lib.hid (by rw [List.drop_of_length_le (by have :=HNO.out;omega)];intro z hz;cases hz)⟩
        case round=>
         obtain ⟨p,q,rfl,hp,rfl,HG⟩:=hrel
         by_cases hp0:0<p
         ·obtain ⟨⟨y1,y2⟩,hy⟩:=get_ex (xs:=out) (i:=p-1) (by have :=HNO.out;omega)
          obtain ⟨b2,of2,rfl,hb2,hc2⟩:=HLA.out (by have :=HNO.out;omega)
          obtain ⟨d0,d1⟩:=pair_cells (hc2 _ _ hy)
          simp only at d0 d1
          have p1:((p:Int)-1).toNat=p-1:=by omega
          have p2:(0:Int)≤(p:Int)-1:=by omega
          have p3:(1:Int)≤p:=by omega
          have p4:(p:Int)-1<no:=by omega
          have p5:IntKind.i64.wrap ((p:Int)-1)=(p:Int)-1:=by rw [IntKind.wrap_i64];omega
          have p6:decide (0<p)=true:=by simpa using hp0
          have p7:decide ((0:Int)<(p:Int))=true:=by simp;omega
          have hgd:out.getD (p-1) (0,0)=(y1,y2):=by simp [List.getD,hy]
          have HGD:=Lib.hid hgd
          have HFN:¬loc<y1→Hid ((∀z∈out.take p,z.1≤loc)∧ ∀z∈out.drop p,loc<z.1):=fun h=>Lib.hid ⟨Zs.all_take (by have :=HNO.out;omega) fun i hi=>by
           have :=Zs.asc_get HAS.out (i:=i) (j:=p-1) (by omega) (by have :=HNO.out;omega)
           rw [HGD.out] at this;simp only at this;omega,HG.out⟩
          have HFY:loc<y1→Hid (∀z∈out.drop (p-1),loc<z.1):=fun h=>Lib.hid fun z hz=>by
           rw [Zs.drop_cons out (p-1) (by have :=HNO.out;omega),HGD.out,show p-1+1=p by omega] at hz
           rcases List.mem_cons.1 hz with rfl|hz
           ·exact h
           ·exact HG.out z hz
          have HFN:=Lib.hid HFN
          have HFY:=Lib.hid HFY
          clear hc2 hy hgd
          by_cases hgt:loc<y1
          ·have t1:decide (loc<y1)=true:=decide_eq_true hgt
           have N:=HFY.out hgt
           clear HFN HFY
           go_wp2_with fail
           go_quiet (fail)
           go_wp2_with fail
           go_roundw
           case rel=>exact ⟨p-1,_,by go_num,by omega,rfl,N⟩
           case measure=>simp [intOf];omega
          ·have t1:decide (loc<y1)=false:=decide_eq_false hgt
           have N:=HFN.out hgt
           clear HFN HFY
           go_wp2_with fail
           go_quiet (fail)
           go_wp2_with fail
           go_meet
           exact ⟨p,_,rfl,hp,World.drewN_drewN _ _ _,N⟩
         ·obtain rfl:p=0:=by omega
          have N:Hid ((∀z∈out.take 0,z.1≤loc)∧ ∀z∈out.drop 0,loc<z.1):=Lib.hid ⟨fun z hz=>by simp at hz,HG.out⟩
          go_wp2_with fail
          go_quiet (fail)
          go_wp2_with fail
          go_meet
          exact ⟨0,_,rfl,hp,World.drewN_drewN _ _ _,N⟩
       case rest=>
        obtain ⟨p,q,rfl,hp,rfl,HFN⟩:=hcut
        have O3:=O2.out
        rw [HNO.out] at O3 HNB
        have O3:=Lib.hid O3
        have hol:out.length≤900000:=by have :=HNO.out;omega
        have hB2z:=B2.out.size
        clear O2
        go_wp2_with (at_builtin;go_loud (refine wp_append_one kOccR _ rfl _ _ rfl w.heap.size _ out rfl ((O3.out.alloc _).drewN _) w2.heap.size (loc,of) rfl (pair_new (x:=(loc,of)) rfl) hol (by simp;omega) ?_;intro gg cap w3 hO4 hB4 hg4 hgo hgz;have P4:PairBlk w3 w1.heap.size (loc,of) 171:=((BlkAt.alloc HPB.out.1 _).drewN q).grown hg4 (fun e=>HNB.out e.symm)))
        rw [HNO.out] at hO4 ⊢
        have B4:=Lib.hid ((below_drewN (B2.out.alloc hB2z _) q).trans hB4)
        have hne:w1.heap.size≠gg:=fun e=>by
         rcases hgo with h|h
         ·exact HNB.out (h.trans (congrArg some e.symm))
         ·simp at h;omega
        have hcap:no+1≤cap:=by
         obtain ⟨_,_,he,h1,_⟩:=hO4.shape
         simp only [Value.slice.injEq] at he
         obtain ⟨_,h3,h4⟩:=he
         rw [List.length_append,List.length_singleton,HNO.out] at h1
         omega
        have O4:=Lib.hid hO4
        have HP4:=Lib.hid P4
        clear hO4 hB4 hg4 hgo P4 O3 HPB x0 x1
        have q1:(p:Int)+1≤(no:Int)+1:=by omega
        have q2:(p:Int)≤(no:Int)+1:=by omega
        have q3:(0:Int)≤(p:Int)+1:=by omega
        have q4:((p:Int)+1).toNat=p+1:=by omega
        have q5:IntKind.i64.wrap ((p:Int)+1)=(p:Int)+1:=by rw [IntKind.wrap_i64];omega
        have q6:¬cap=p:=by omega
        have q7:p+1≤no+1:=by omega
        have q8:p≤no+1:=by omega
        have hmin:Nat.min (no+1-p) (no-p)=no-p:=Nat.min_eq_right (by omega)
        have HMIN:=Lib.hid hmin
        have hle1:p+1+(no-p)≤(out++[(loc,of)]).length:=by rw [List.length_append,List.length_singleton,HNO.out];omega
        have hle2:p+(no-p)≤(out++[(loc,of)]).length:=by rw [List.length_append,List.length_singleton,HNO.out];omega
        have HLE:=Lib.hid (And.intro hle1 hle2)
        have hins:=Zs.ins_copy (loc,of) out p (by have :=HNO.out;omega) HFN.out.1 HFN.out.2
        rw [HNO.out] at hins
        have HINS:=Lib.hid hins
        have hpl:p<((out++[(loc,of)]).take (p+1)++(((out++[(loc,of)]).drop p).take (no-p)++(out++[(loc,of)]).drop (p+1+(no-p)))).length:=by
         have e:=congrArg List.length HINS.out
         rw [List.length_set,Zs.insr_len,HNO.out] at e
         omega
        have HPL:=Lib.hid hpl
        obtain ⟨zs,hzs⟩: ∃zs,(out++[(loc,of)]).take (p+1)++(((out++[(loc,of)]).drop p).take (no-p)++(out++[(loc,of)]).drop (p+1+(no-p)))=zs:=⟨_,rfl⟩
        rw [hzs] at HPL HINS
        have HZS:=Lib.hid hzs
        clear hmin hle1 hle2 hins hpl hzs
        have O5:OwnL 171 2 ePair w3.drew w.heap.size (.slice (some ⟨gg,0,none⟩) (no+1) cap) (out++[(loc,of)]):=O4.out
        have HO5:=Lib.hid O5
        clear O5 O4
        have HNE:=Lib.hid hne
        go_upto_region 14 with fail
        go_cut [] (fun wx=>Hid (OwnL 171 2 ePair wx w.heap.size (.slice (some ⟨gg,0,none⟩) (no+1) cap) zs∧PairBlk wx w1.heap.size (loc,of) 171∧Below w.heap.size w wx))
        case first =>
         have HFIN: ∀w4:World,OwnL 171 2 ePair w4 w.heap.size (.slice (some ⟨gg,0,none⟩) (no+1) cap) zs→w3.drew.grownBy w4 (some gg)→Hid (OwnL 171 2 ePair w4 w.heap.size (.slice (some ⟨gg,0,none⟩) (no+1) cap) zs∧PairBlk w4 w1.heap.size (loc,of) 171∧Below w.heap.size w w4):=fun w4 h1 h2=>by
          have hgB:w.heap.size≤gg:=by
           rcases HO5.out.row with ⟨h, -⟩|⟨g,cp,h,hb, -⟩
           ·cases h
           ·have e:gg=g:=congrArg Addr.block (Option.some.inj (Value.slice.inj h).1)
            omega
          exact Lib.hid ⟨h1,(BlkAt.drewN HP4.out 1).grown h2 (fun e=>HNE.out (Option.some.inj e)),B4.out.drew.grown h2 B4.out.drew.size (fun q hq=>by cases hq;exact hgB)⟩
         have HFIN:=Lib.hid HFIN
         by_cases hc1:cap=p+1
         ·subst hc1
          have hnp:no≤p:=by omega
          go_region_law ((refine step_copy_own kOccR _ (by rfl) (.tmp 88) (.tmp 91) (by rfl) w.heap.size gg (no+1) (p+1) (out++[(loc,of)]) (by exact HO5.out) (some ⟨gg,0,none⟩) (some ⟨gg,p*2,none⟩) (no-p) 0 (no+1-p) 1 (by simp [Act.eval,Act.put];omega) (by simp [Act.eval,Act.put]) (no-p) (p+1) p (by exact HMIN.out) (by exact fun h=>absurd h (by omega)) (by exact HLE.out.1) (by exact HLE.out.2) ?_;intro w4 hO5 hg5))
          rw [HZS.out] at hO5
          have F:=HFIN.out w4 hO5 hg5
          go_wp2_with fail
          go_meet
          exact F
         ·go_region_law ((refine step_copy_own kOccR _ (by rfl) (.tmp 88) (.tmp 91) (by rfl) w.heap.size gg (no+1) cap (out++[(loc,of)]) (by exact HO5.out) (some ⟨gg,(p+1)*2,none⟩) (some ⟨gg,p*2,none⟩) (no-p) (cap-(p+1)) (no+1-p) (cap-p) (by simp [Act.eval,Act.put]) (by simp [Act.eval,Act.put]) (no-p) (p+1) p (by exact HMIN.out) (by exact fun _=>⟨rfl,rfl⟩) (by exact HLE.out.1) (by exact HLE.out.2) ?_;intro w4 hO5 hg5))
          rw [HZS.out] at hO5
          have F:=HFIN.out w4 hO5 hg5
          go_wp2_with fail
          go_meet
          exact F
        case rest=>
         obtain ⟨w5,rfl⟩: ∃w5:World,w5=wc:=⟨_,rfl⟩
         obtain ⟨O6,P6,B6⟩:=hcut.out
         obtain ⟨⟨z1,z2⟩,hz⟩:=get_ex (xs:=zs) (i:=p) HPL.out
         have hrow: ∃g,gg=g∧w.heap.size≤g∧g<w5.heap.size∧ ∀j,j<2→w5.cell? ⟨g,p*2+j,none⟩=some (ePair (z1,z2) j)∧w5.frozen? ⟨g,p*2+j,none⟩=false:=by
          rcases O6.row with ⟨h, -⟩|⟨g,cp,h,h1,h2,h3,h4⟩
          ·cases h
          ·have e:gg=g:=congrArg Addr.block (Option.some.inj (Value.slice.inj h).1)
           exact ⟨g,e,h1,h2,fun j hj=>h4 p _ hz j hj⟩
         obtain ⟨_,rfl,hgB,hgS,hrc⟩:=hrow
         have a0:w5.cell? ⟨gg,p*2,none⟩=some (.int .i64 z1):=(hrc 0 (by omega)).1
         have a1:w5.cell? ⟨gg,p*2+1,none⟩=some (.int .i64 z2):=(hrc 1 (by omega)).1
         have a2:w5.frozen? ⟨gg,p*2,none⟩=false:=(hrc 0 (by omega)).2
         have a3:w5.frozen? ⟨gg,p*2+1,none⟩=false:=(hrc 1 (by omega)).2
         obtain ⟨y0,y1⟩:=PairBlk.cells P6
         simp only at y0 y1
         have O7:=O6.setPair HPL.out (loc,of)
         rw [HINS.out] at O7
         rw [HNX.out _ rfl] at O7
         have O7:=Lib.hid O7
         have B7:=Lib.hid ((B6.setCell (p:=⟨gg,p*2,none⟩) hgB (.int .i64 loc)).setCell (p:=⟨gg,p*2+1,none⟩) hgB (.int .i64 of))
         have r1:(0:Int)≤p:=by omega
         have r2:(p:Int)<(no:Int)+1:=by omega
         have r3:p<no+1:=by omega
         have r4:(p:Int).toNat=p:=by omega
         have r5:IntKind.i64.wrap (fr+(j:Int)+1)=fr+(j:Int)+1:=by rw [IntKind.wrap_i64];omega
         clear O6 P6 B6 hz hrc
         go_wp2_with fail
         go_roundw
         case rel=>exact ⟨j+1,by go_num,by omega,O7,B7⟩
         case measure=>simp [intOf];omega
    ·have hjy:j=Zn.yrs r:=by have :=HY.out;have :=HFT.out;omega
     have HO2:=HO.out
     rw [hjy, ←HFL.out] at HO2
     have HO2:=Lib.hid HO2
     clear hjy HO
     go_wp2_with fail
     go_roundw
     case rel=>exact ⟨k+1,by omega,by go_num,HO2,HB⟩
     case measure=>simp [intOf];omega
  ·have hk2:rs.take k=rs:=List.take_of_length_le (by have :=HN.out;omega)
   rw [hk2] at HO
   obtain ⟨A4,c4,rfl, -, -,hS⟩:=HO.out.shape
   have HS:=Lib.hid hS
   clear hS HO hk2
   go_wp2_with fail
   go_ret
   exact ⟨A4,c4,rfl,HS.out,HB.out⟩
end Go.Proofs.YtfamcohbnoibaaaGreatDoor
namespace Go.Proofs.YtfamcohbnoibaaaGreatDoor
theorem offAt_drop {ts:Zn.L} {k:Nat} {a o n x:Int} (h:ts[k]? =some (a,o)):Zn.offAt n (ts.drop k) x=if a≤x then Zn.offAt o (ts.drop (k+1)) x else n:=by
 rw [drop_cons' h,Zn.offAt]
def toK (ts:Zn.L) (k:Nat):Int:=if k<ts.length then (ts.getD k (0,0)).1 else 8589934593
theorem strs_drop (off:Int) (ts:Zn.L): ∀k,k≤ts.length→(Zn.strs 0 off ts).drop k=Zn.strK off ts k
 |0,_=>by rw [List.drop_zero,Zn.strK_zero]
 |k+1,h=>by rw [←List.drop_drop,strs_drop off ts k (by omega),Zn.strK_step off ts k (by omega)];rfl
theorem strs_get (off:Int) (ts:Zn.L) (k:Nat) (h:k≤ts.length):(Zn.strs 0 off ts)[k]? =some (frK ts k,toK ts k-1,ofK off ts k):=by
 have e:=strs_drop off ts k h
 have e2:((Zn.strs 0 off ts).drop k)[0]? =(Zn.strs 0 off ts)[k]? :=by rw [List.getElem?_drop];rfl
 rw [←e2,e]
 by_cases hk:k<ts.length
 ·rw [Zn.strK_step off ts k hk]
  unfold toK
  rw [if_pos hk];rfl
 ·obtain rfl:k=ts.length:=by omega
  rw [Zn.strK_last]
  unfold toK
  rw [if_neg hk];rfl
theorem loc_small {d:Int} (h1: -2≤d) (h2:d≤99422) (s:Int):Zn.locS d s=d*86400+s:=by
 unfold Zn.locS Zn.clamp
 rw [show min (max d (-2)) 99422=d by omega]
theorem fst_none {v:Int}: ∀{ss:Zn.S},(∀s∈ss,s.2.1<v-s.2.2)→Zn.fst v ss=none
 |[],_=>rfl
 |(f,l,o)::t,h=>by
  have :=h (f,l,o) (by simp)
  simp only at this
  rw [Zn.fst,if_neg (by omega)]
  exact fst_none fun s hs=>h s (by simp [hs])
section
variable {off:Int} {rs:List Zn.Rule} {ts:Zn.L}
theorem strs_bds (h:Zn.trans off rs=(ts,0)): ∀s∈Zn.strs 0 off ts,0≤s.1∧s.1≤8589934592∧ -1≤s.2.1∧s.2.1≤8589934592∧ -64800≤s.2.2∧s.2.2≤64800:=by
 obtain ⟨k1,k2,k3,k4,k5,k6,k7,k8⟩:=Zn.trans_ok h
 exact Zn.strs_bd (Int.le_refl 0) (by omega) k1 k6 (Int.le_refl 0) k8
theorem fst_far (h:Zn.trans off rs=(ts,0)) {d s:Int} (hd:99422<d) (hs:Zn.okD s=true):Zn.fst (Zn.locS d s) (Zn.strs 0 off ts)=none:=
 fst_none fun x hx=>by
  have :=strs_bds h x hx
  have e:Zn.locS d s=99422*86400+s:=by unfold Zn.locS Zn.clamp;omega
  rw [Zn.okD_iff] at hs
  omega
theorem fst_early (h:Zn.trans off rs=(ts,0)) {d s:Int} (hd:d< -2) (hs:Zn.okD s=true):Zn.fst (Zn.locS d s) (Zn.strs 0 off ts)=some 0:=by
 obtain ⟨k1,k2,k3,k4,k5,k6,k7,k8⟩:=Zn.trans_ok h
 have e:Zn.locS d s= -2*86400+s:=by unfold Zn.locS Zn.clamp;omega
 rw [Zn.okD_iff] at hs
 rw [Zn.okO_iff] at k1
 rcases ts with _|⟨⟨a,o⟩,_|⟨⟨a2,o2⟩,t⟩⟩
 ·rw [Zn.strs,Zn.fst,show max (Zn.locS d s-off) 0=0 by omega,if_pos (by omega)]
 ·obtain ⟨-, -, -,g4,g5, -⟩:=k6
  have ho:=Zn.okO_iff.1 (k8 (a,o) (by simp))
  simp only at ho
  rw [Zn.strs,Zn.fst,show max (Zn.locS d s-off) 0=0 by omega]
  by_cases h0:0≤a-1
  ·rw [if_pos h0]
  ·obtain rfl:a=0:=by omega
   rw [if_neg h0,Zn.strs,Zn.fst,show max (Zn.locS d s-o) 0=0 by omega,if_pos (by omega)]
 ·obtain ⟨-, -, -,g4,g5, -, -, -,g6, -, -⟩:=k6
  have ho:=Zn.okO_iff.1 (k8 (a,o) (by simp))
  simp only at ho
  rw [Zn.strs,Zn.fst,show max (Zn.locS d s-off) 0=0 by omega]
  by_cases h0:0≤a-1
  ·rw [if_pos h0]
  ·obtain rfl:a=0:=by omega
   rw [if_neg h0,Zn.strs,Zn.fst,show max (Zn.locS d s-o) 0=0 by omega,if_pos (by omega)]
theorem frK_bd (h:Zn.trans off rs=(ts,0)) {k:Nat} (hk:k≤ts.length):0≤frK ts k∧frK ts k≤8589934592∧0≤toK ts k∧toK ts k≤8589934593∧ -64800≤ofK off ts k∧ofK off ts k≤64800:=by
 have :=strs_bds h _ (List.mem_of_getElem? (strs_get off ts k hk))
 simp only at this
 omega
end
theorem toK_in {ts:Zn.L} {k:Nat} {a o:Int} (h:ts[k]? =some (a,o)):toK ts k=a:=by
 have hk:=(List.getElem?_eq_some_iff.1 h).1
 have hg:ts.getD k (0,0)=(a,o):=by simp [List.getD,h]
 unfold toK;rw [if_pos hk,hg]
theorem toK_out {ts:Zn.L} {k:Nat} (h:ts.length≤k):toK ts k=8589934593:=by unfold toK;rw [if_neg (by omega)]
def earI (out:Zn.L):Int:=if out.length=0 then 0 else (out.getD (out.length-1) (0,0)).1+604800
theorem earI_nil:earI []=0:=rfl
theorem earI_snoc (out:Zn.L) (x:Int×Int):earI (out++[x])=x.1+604800:=by
 unfold earI;rw [if_neg (by simp)];simp [List.getD]
theorem earI_some {out:Zn.L} {x:Int×Int} (h:out[out.length-1]? =some x):earI out=x.1+604800:=by
 have hk:=(List.getElem?_eq_some_iff.1 h).1
 unfold earI;rw [if_neg (by omega)];simp [List.getD,h]
theorem At_radd {l:Zn.L} {f:Option Zn.L} {k:Nat} {now loc o:Int} {out:Zn.L} (h:Zn.At l f k now (earI out) out) (hk:k<l.length) (e:l.getD k (0,0)=(loc,o)) (h1:o≠now)
  (g1: -86399≤o-now) (g2:o-now≤86399) (g4:loc-now≤8589934592) (g5:earI out≤loc-now):Zn.At l f (k+1) o (earI (out++[(loc-now,o)])) (out++[(loc-now,o)]):=by
 rw [earI_snoc]
 exact h.add hk e h1 (by omega)
theorem At_rbad {l:Zn.L} {f:Option Zn.L} {k:Nat} {now loc o:Int} {out:Zn.L} (h:Zn.At l f k now (earI out) out) (hk:k<l.length) (e:l.getD k (0,0)=(loc,o)) (h1:o≠now)
  (h0:0≤earI out) (g:¬(-86399≤o-now∧o-now≤86399)∨¬(0≤loc-now∧loc-now≤8589934592)∨loc-now<earI out):f=none:=h.bad hk e h1 (by omega)
end Go.Proofs.YtfamcohbnoibaaaGreatDoor
namespace Go.Proofs.YtfamcohbnoibaaaGreatDoor
open Go.RowKit
theorem zsame {P:Program} {f:FuncId} {args:Array Value} {w:World} {n:Nat} {v:Value}
  (h:Calls P f args (w.drewN n) fun e w'=>e= .returned v∧w.drewN n=w'):Calls P f args (w.drewN n) fun e w''=>e= .returned v∧ ∃m,w''=w.drewN m:=
 Calls.quiet_of_same (h.mono fun _ _ ⟨a,b⟩=>⟨a,b.symm⟩)
theorem pair_blk {W:World} {B:Nat} {x:Int×Int} {T:TypeId} (h:BlkAt W B #[.int .i64 x.1,.int .i64 x.2] T): ∀j,j<2→W.cell? ⟨B,j,none⟩=some (ePair x j):=fun j hj=>by
 match j,hj with
 |0,_=>exact BlkAt.cell h rfl
 |1,_=>exact BlkAt.cell h rfl
set_option maxHeartbeats 8000000 in
set_option maxRecDepth 100000 in
theorem rtrans_any (s:ByteArray) (off:Int) (A:Option Addr) (n c:Nat) (rs:List Zn.Rule) (w:World) (hz:ZIn w A n rs) (ho:I64 off):
  Calls Tryz.prog 88 #[valZ s off A n c] w (GivesT (Zn.trans off rs).1 (Zn.trans off rs).2 w):=by
 obtain ⟨ts,er,htr⟩: ∃ts er,Zn.trans off rs=(ts,er):=⟨_,_,rfl⟩
 rw [htr]
 unfold valZ
 have hlen:=hz.len
 have hle:=hz.le
 have CO:=fun W=>in_any off (-64800) 64800 W
 change ∀W,Calls _ _ _ W (fun e w'=>e= .returned (.bool (Zn.okO off))∧W=w') at CO
 cases hok:Zn.okO off
 ·rw [tr1 hok] at htr
  cases htr
  rw [hok] at CO
  have HCO:=Lib.hid CO
  clear CO hz hlen hok
  go_enter Tryz.func88,Tryz.ntmps88
  go_wp2_with (go_at_call 96;refine (HCO.out _).mono ?_;rintro e w' ⟨rfl,rfl⟩)
  go_ret2
  exact GivesT.none_ ((Below.refl _ _).alloc (Nat.le_refl _) _)
 rw [hok] at CO
 have HCO:=Lib.hid CO
 clear CO
 by_cases h16:(16:Int)<n
 ·rw [tr2 hok (by omega)] at htr
  cases htr
  clear hz hlen hok
  go_enter Tryz.func88,Tryz.ntmps88
  go_wp2_with (go_at_call 96;refine (HCO.out _).mono ?_;rintro e w' ⟨rfl,rfl⟩)
  go_ret2
  exact GivesT.none_ ((Below.refl _ _).alloc (Nat.le_refl _) _)
 have HTR:=Lib.hid htr
 have HZ:Hid (ZSt w A n rs (w.alloc (.cells #[.string s,.int .i64 off,.slice A n c] 71))):=Lib.hid ⟨hz.alloc _,(Below.refl _ _).alloc (Nat.le_refl _) _⟩
 have ZB:ZBlk (w.alloc (.cells #[.string s,.int .i64 off,.slice A n c] 71)) w.heap.size s off A n c:=BlkAt.new _ _ _
 have HZB:=Lib.hid ZB
 have HOK:=Lib.hid hok
 have HN:=Lib.hid hlen
 have n16:n≤16:=by omega
 have n16i:(n:Int)≤16:=by omega
 obtain ⟨bz,hbz⟩: ∃bz,w.heap.size=bz:=⟨_,rfl⟩
 have HBZ:=Lib.hid hbz
 clear hz htr hok hlen ZB hbz h16
 go_enter Tryz.func88,Tryz.ntmps88
 go_wp2_with (go_at_call 96;refine (HCO.out _).mono ?_;rintro e w' ⟨rfl,rfl⟩)
 rw [HBZ.out] at HZB ⊢
 go_loopw [4,5] (fun vc i wr=> ∃(k:Nat) (q:Int),k≤n∧i= .int .i64 k∧vc= .int .i64 q∧Hid (Zn.cnt (rs.take k)=q)∧Hid ((rs.take k).all Zn.okR=true)∧Hid (ZSt w A n rs wr)∧Hid (ZBlk wr bz s off A n c)) (fun _ i _=>n-(intOf i).toNat)
 case atStart=>exact ⟨0,0,Nat.zero_le _,rfl,rfl,Lib.hid rfl,Lib.hid rfl,HZ,HZB⟩
 case round=>
  clear HZ HZB
  obtain ⟨k,q,hk,rfl,rfl,HQ,HA,HZ,HZB⟩:=hrel
  have hqb:=Zn.cnt_bd HA.out
  rw [HQ.out] at hqb
  have hlk:(rs.take k).length≤16:=by rw [List.length_take];have :=HN.out;omega
  obtain ⟨q1,q2⟩:=hqb
  have q3:q≤4336:=by omega
  clear q2 hlk
  obtain ⟨z0,z1,z2⟩:=ZBlk.cells HZB.out
  by_cases hlt:k<n
  ·obtain ⟨r,hr⟩:=get_ex (xs:=rs) (i:=k) (by have :=HN.out;omega)
   obtain ⟨b,of,rfl,hb,hc⟩:=HZ.out.1.at_ (by have :=HN.out;omega)
   obtain ⟨c0,c1,c2,c3,c4,c5,c6⟩:=rule_cells (hc k r hr)
   have hrz:=HZ.out.2.size
   have C:=right_any r wr
   unfold valR at C
   have htk:=take_snoc' hr
   have HTK:=Lib.hid htk
   have HRK:=Lib.hid hr
   have p1:(0:Int)≤k:=by omega
   have p2:(k:Int)<n:=by omega
   clear hc hr htk
   cases hor:Zn.okR r
   ·have htr:=tr3 HOK.out (by have :=HN.out;omega) HRK.out hor
    rw [HTR.out] at htr
    cases htr
    rw [hor] at C
    have HC:=Lib.hid C
    clear C hor
    go_wp2_with fail
    refine HC.out.mono ?_
    rintro e w1 ⟨rfl,hb1⟩
    have hB:=bstep HZ.out.2 hb1
    go_wp2_with fail
    go_ret2
    exact GivesT.none_ hB
   ·rw [hor] at C
    have HC:=Lib.hid C
    have hbd:=Zn.okR_iff.1 hor
    obtain ⟨fr,hfr⟩: ∃x,r.fr=x:=⟨_,rfl⟩
    obtain ⟨tt,htt⟩: ∃x,r.to=x:=⟨_,rfl⟩
    have hcn:=Zn.cnt_snoc (rs.take k) r
    rw [←HTK.out,HQ.out] at hcn
    have hal:(rs.take (k+1)).all Zn.okR=true:=by rw [HTK.out,List.all_append,HA.out];simp [hor]
    rw [hfr,htt] at hcn hbd
    rw [hfr] at c0 HC
    rw [htt] at c1 HC
    have hb4:1970≤fr∧fr≤2240∧fr≤tt∧tt≤2240:=by omega
    obtain ⟨b1,b2,b3,b4⟩:=hb4
    have s1:IntKind.i64.wrap (tt-fr)=tt-fr:=by rw [IntKind.wrap_i64];omega
    have s2:IntKind.i64.wrap (tt-fr+1)=tt-fr+1:=by rw [IntKind.wrap_i64];omega
    have s3:IntKind.i64.wrap (q+(tt-fr+1))=q+(tt-fr+1):=by rw [IntKind.wrap_i64];omega
    have HCN:=Lib.hid hcn
    have HAL:=Lib.hid hal
    clear C hor hcn hal hbd hfr htt
    go_wp2_with fail
    refine HC.out.mono ?_
    rintro e w1 ⟨rfl,hb1⟩
    have Z1:=Lib.hid (HZ.out.after hb1)
    have ZB1:=Lib.hid (BlkAt.after HZB.out hb1)
    have d0:=cell_keep c0 hb1
    have d1:=cell_keep c1 hb1
    have y2:=cell_keep z2 hb1
    clear hb1 c0 c1 c2 c3 c4 c5 c6 z0 z1 z2
    go_wp2_with fail
    go_quiet (fail)
    go_wp2_with fail
    go_roundw
    case rel=>exact ⟨k+1,q+(tt-fr+1),by omega,by go_num,rfl,HCN,HAL,Lib.hid (Z1.out.after (below_drewN (Below.refl _ _) _)),Lib.hid (BlkAt.drewN ZB1.out _)⟩
    case measure=>simp [intOf];omega
  ·have hkk:rs.take k=rs:=List.take_of_length_le (by have :=HN.out;omega)
   rw [hkk] at HQ HA
   clear hkk
   by_cases hq:640<q
   ·have htr:=tr4 HOK.out (by have :=HN.out;omega) HA.out (by rw [HQ.out];exact hq)
    rw [HTR.out] at htr
    cases htr
    go_wp2_with fail
    go_ret2
    exact GivesT.none_ HZ.out.2
   ·have htr:=tr5 HOK.out (by have :=HN.out;omega) HA.out (by rw [HQ.out];omega)
    rw [HTR.out] at htr
    obtain ⟨rfl,rfl⟩:=Prod.mk.inj htr
    have hfl:=Zn.flat_len HA.out
    rw [HQ.out] at hfl
    have hm640:(Zn.flat rs).length≤640:=by omega
    have CP:=rocc_any A n c rs wr HZ.out.1.at_ HN.out n16 HA.out hm640
    have hsb:=flat_bd HA.out
    have hsl0:=Zs.srt_len (Zn.flat rs)
    obtain ⟨sl,hsl⟩: ∃sl,Zs.srt (Zn.flat rs)=sl:=⟨_,rfl⟩
    rw [hsl] at CP hsb hsl0
    obtain ⟨m,hm⟩: ∃m,sl.length=m:=⟨_,rfl⟩
    have m640:m≤640:=by omega
    have HCP:=Lib.hid CP
    have HSB:=Lib.hid hsb
    have HM:=Lib.hid hm
    have HSL:=Lib.hid hsl
    have ho2:=Zn.okO_iff.1 HOK.out
    obtain ⟨o1,o2⟩:=ho2
    obtain ⟨f,hf⟩: ∃f,Zn.fol off 0 sl=f:=⟨_,rfl⟩
    have hst:=Zn.At.start sl off
    rw [hf] at hst
    have HST:=Lib.hid hst
    have HF:=Lib.hid hf
    clear CP hsb hsl0 hm hsl htr HTR hfl hm640 hf hst
    go_wp2_with fail
    refine HCP.out.mono ?_
    rintro e w1 ⟨A',c',rfl,hP,hb⟩
    rw [HM.out]
    have y1:=cell_keep z1 hb
    have HP:=Lib.hid hP
    have HB1:=Lib.hid (bstep HZ.out.2 hb)
    clear hP hb z0 z1 z2 HCP HZ HZB HA HQ
    go_wp2_with fail
    go_loopw [6,8,9] (fun v vo i wx=> ∃(k:Nat) (now:Int) (out:Zn.L),k≤m∧i= .int .i64 k∧vo= .int .i64 now∧ -64800≤now∧now≤64800∧0≤earI out∧earI out≤8600000000∧out.length≤k∧Hid (Zn.At sl f k now (earI out) out)∧Hid (OwnL 134 2 ePair wx w1.heap.size v out)∧Hid (Below w1.heap.size w1 wx)) (fun _ _ i _=>m-(intOf i).toNat)
    case atStart=>exact ⟨0,off,[],Nat.zero_le _,rfl,rfl,o1,o2,by rw [earI_nil];omega,by rw [earI_nil];omega,by simp,HST,Lib.hid (OwnL.nil_ _ _),Lib.hid (Below.refl _ _)⟩
    case round=>
     clear HST o1 o2 y1
     obtain ⟨k,now,out,hk,rfl,rfl,w1',w2',e1,e2,hol,HAt,HO,HB⟩:=hrel
     by_cases hlt:k<m
     ·obtain ⟨⟨loc,o⟩,hx⟩:=get_ex (xs:=sl) (i:=k) (by have :=HM.out;omega)
      obtain ⟨b,of,rfl,hb,hc⟩:=(HP.out.below HB.out) (by have :=HM.out;omega)
      obtain ⟨c0,c1⟩:=pair_cells (hc k _ hx)
      simp only at c0 c1
      have hbd:=HSB.out _ (List.mem_of_getElem? hx)
      simp only at hbd
      obtain ⟨g1,g2,g3,g4⟩:=hbd
      have hgd:sl.getD k (0,0)=(loc,o):=by simp [List.getD,hx]
      have hkl:k<sl.length:=by have :=HM.out;omega
      have HGD:=Lib.hid hgd
      have hrz:=HB.out.size
      have p1:(0:Int)≤k:=by omega
      have p2:(k:Int)<m:=by omega
      clear hc hx hgd
      by_cases hs:o=now
      ·have A2:=Lib.hid (HAt.out.skip hkl (by rw [HGD.out,hs]))
       subst hs
       clear HAt
       go_wp2_with fail
       go_roundw
       case rel=>exact ⟨k+1,o,out,by omega,by go_num,rfl,w1',w2',e1,e2,by omega,A2,HO,HB⟩
       case measure=>simp [intOf];omega
      ·have hne:(o==now)=false:=by simpa using hs
       have s1:IntKind.i64.wrap (o-now)=o-now:=by rw [IntKind.wrap_i64];omega
       have s2:IntKind.i64.wrap (loc-now)=loc-now:=by rw [IntKind.wrap_i64];omega
       have hol2:out.length≤900000:=by omega
       have HNE:=Lib.hid (own_block HO.out (Nat.le_refl _))
       have FIN: ∀d,d=loc-now→ -86399≤o-now→o-now≤86399→d≤8589934592→earI out≤d→Hid (Zn.At sl f (k+1) o (earI (out++[(d,o)])) (out++[(d,o)])):=fun d hd h1 h2 h3 h4=>by
        subst hd
        exact Lib.hid (At_radd HAt.out hkl HGD.out hs h1 h2 h3 h4)
       have BAD:(¬(-86399≤o-now∧o-now≤86399)∨¬(0≤loc-now∧loc-now≤8589934592)∨loc-now<earI out)→f=none:=fun h=>At_rbad HAt.out hkl HGD.out hs e1 h
       have HFIN:=Lib.hid FIN
       have HBAD:=Lib.hid BAD
       obtain ⟨wo,rfl⟩: ∃wo:World,wo=wr:=⟨_,rfl⟩
       clear FIN BAD HAt
       go_upto_region 21 with fail
       go_cut [10] (fun p wy=>p= .pointer (some ⟨wo.heap.size,0,none⟩)∧Hid (PairBlk wy wo.heap.size (loc-now,o) 134∧Below wo.heap.size wo wy))
       case first =>
        go_region_held3 (fun W=>W.cell? ⟨b,of+k*2,none⟩=some (.int .i64 loc)∧W.cell? ⟨b,of+k*2+1,none⟩=some (.int .i64 o))
         (first|(exact ⟨c0,c1⟩)|go_keep)
         (fail)
        all_goals
         go_wp2_with fail
         go_meet
         exact ⟨rfl,Lib.hid ⟨BlkAt.new _ _ _,((Below.refl _ _).alloc (Nat.le_refl _) _).drew⟩⟩
       case rest=>
        obtain ⟨rfl,HPB⟩:=hcut
        obtain ⟨w2,rfl⟩: ∃w2:World,w2=wc:=⟨_,rfl⟩
        obtain ⟨x0,x1⟩:=PairBlk.cells HPB.out.1
        simp only at x0 x1
        have O2:=Lib.hid (HO.out.below HPB.out.2)
        have B2:=Lib.hid (HB.out.trans (HPB.out.2.mono HB.out.size))
        have hbx:=BlkAt.lt_ HPB.out.1
        obtain ⟨d,hd⟩: ∃d,loc-now=d:=⟨_,rfl⟩
        obtain ⟨g,hg⟩: ∃g,o-now=g:=⟨_,rfl⟩
        rw [hd] at x0 HFIN HBAD HPB s2
        rw [hg] at s1 HFIN HBAD
        have HDD:=Lib.hid hd
        clear c0 c1 HO HB hd
        have t1a:=in_any g (-86399) 86399
        have t2a:=in_any d 0 8589934592
        by_cases i1: -86399≤g∧g≤86399
        ·rw [inB_yes i1.1 i1.2] at t1a
         by_cases i2:0≤d∧d≤8589934592
         ·rw [inB_yes i2.1 i2.2] at t2a
          have H1:=Lib.hid t1a
          have H2:=Lib.hid t2a
          clear t1a t2a
          obtain ⟨Av,cv,hv,hcv, -,hLA⟩:=O2.out.shape
          subst hv
          obtain ⟨L,hL⟩: ∃L,out.length=L:=⟨_,rfl⟩
          have HL:=Lib.hid hL
          have HLA:=Lib.hid hLA
          rw [hL] at O2 hol HNE ⊢
          clear hLA hcv hL
          by_cases hbad:0<L∧d<earI out
          ·obtain ⟨hl0,hlt7⟩:=hbad
           have hfn:=HBAD.out (.inr (.inr hlt7))
           subst hfn
           obtain ⟨⟨y,yo⟩,hy⟩:=get_ex (xs:=out) (i:=L-1) (by have :=HL.out;omega)
           have hey:=earI_some (out:=out) (x:=(y,yo)) (by rw [HL.out];exact hy)
           rw [hey] at hlt7 e1 e2
           simp only at hlt7 e1 e2
           obtain ⟨b2,of2,rfl,hb2,hc2⟩:=HLA.out (by have :=HL.out;omega)
           obtain ⟨d0,d1⟩:=pair_cells (hc2 _ _ hy)
           simp only at d0 d1
           have u1:decide ((0:Int)<L)=true:=by simp;omega
           have u2:decide (0<L)=true:=by simp;omega
           have z1:(0:Int)≤(L:Int)-1:=by omega
           have z2:(L:Int)-1<L:=by omega
           have z3:((L:Int)-1).toNat=L-1:=by omega
           have z4:(1:Int)≤L:=by omega
           have z5:IntKind.i64.wrap ((L:Int)-1)=(L:Int)-1:=by rw [IntKind.wrap_i64];omega
           have z6:IntKind.i64.wrap (d-y)=d-y:=by rw [IntKind.wrap_i64];omega
           have z7:decide (d-y<604800)=true:=by simp;omega
           clear hc2 hy hey HFIN HBAD i1 i2 e1 e2 hlt7
           go_wp2_with fail
           go_quiet ((go_at_call 96;first|with_reducible exact zsame (H1.out _)|with_reducible exact zsame (H2.out _)))
           go_wp2_with fail
           go_ret2
           rw [HSL.out,HF.out];exact GivesT.none_ (below_drewN (bstep HB1.out B2.out) _)
          ·have N1:=HFIN.out d rfl i1.1 i1.2 i2.2 (by
            rcases Nat.eq_zero_or_pos L with h|h
            ·rw [List.eq_nil_of_length_eq_zero (HL.out.trans h),earI_nil];exact i2.1
            ·omega)
           have hcase:(decide ((0:Int)<L)=false∧decide (0<L)=false)∨((decide ((0:Int)<L)=true∧decide (0<L)=true∧(0:Int)≤(L:Int)-1∧(L:Int)-1<L∧((L:Int)-1).toNat=L-1∧(1:Int)≤L)∧ ∃b2 of2 y,Av=some ⟨b2,of2,none⟩∧w2.cell? ⟨b2,of2+(L-1)*2,none⟩=some (.int .i64 y)∧IntKind.i64.wrap (d-y)=d-y∧decide (d-y<604800)=false):=by
            rcases Nat.eq_zero_or_pos L with h|h
            ·exact .inl ⟨by simp;omega,by simp;omega⟩
            ·obtain ⟨⟨y,yo⟩,hy⟩:=get_ex (xs:=out) (i:=L-1) (by have :=HL.out;omega)
             have hey:=earI_some (out:=out) (x:=(y,yo)) (by rw [HL.out];exact hy)
             rw [hey] at e1 e2 hbad
             simp only at e1 e2 hbad
             obtain ⟨b2,of2,hA2,hb2,hc2⟩:=HLA.out (by have :=HL.out;omega)
             exact .inr ⟨⟨by simp;omega,by simp;omega,by omega,by omega,by omega,by omega⟩,b2,of2,y,hA2,(pair_cells (hc2 _ _ hy)).1,by rw [IntKind.wrap_i64];omega,by simp;omega⟩
           have E1:0≤earI (out++[(d,o)])∧earI (out++[(d,o)])≤8600000000:=by rw [earI_snoc];simp only;omega
           obtain ⟨E1,E2⟩:=E1
           clear HFIN HBAD i1 i2 e1 e2 hbad
           rcases hcase with ⟨u1,u2⟩|⟨⟨u1,u2,u3,u4,u5,u6⟩,b2,of2,y,rfl,u7,u8,u9⟩
           all_goals
            go_wp2_with fail
            go_quiet ((go_at_call 96;first|with_reducible exact zsame (H1.out _)|with_reducible exact zsame (H2.out _)))
            go_upto_region 24 with fail
            have O3:=Lib.hid (O2.out.drewN nq)
            have B3:=Lib.hid (below_drewN B2.out nq)
            have P3:Hid (PairBlk (w2.drewN nq) wo.heap.size (d,o) 134):=Lib.hid (BlkAt.drewN HPB.out.1 nq)
            generalize w2.drewN nq=w3 at O3 B3 P3 ⊢
            have hrz3:=B3.out.size
            clear x0 x1 O2 B2 HPB
            go_region_held3 (fun W=>W.cell? ⟨wo.heap.size,0,none⟩=some (.int .i64 d)∧W.cell? ⟨wo.heap.size,1,none⟩=some (.int .i64 o))
             (first|exact PairBlk.cells P3.out|exact PairBlk.cells (BlkAt.drewN P3.out 1)|exact PairBlk.cells (BlkAt.alloc P3.out _)|exact PairBlk.cells (BlkAt.alloc (BlkAt.drewN P3.out 1) _)|exact PairBlk.cells (BlkAt.drewN (BlkAt.alloc P3.out _) 1)|assumption|exact PairBlk.cells hP5)
             (first|(refine step_append_one kTra _ (by rfl) (.tmp 112) (.tmp 114) (by rfl) w1.heap.size (.slice Av L cv) out (by simp [Act.eval,Act.put]) (by first|exact O3.out.alloc _|exact (O3.out.alloc _).drewN 1|exact (O3.out.drewN 1).alloc _|exact O3.out) _ (d,o) (by simp [Act.eval,Act.put];rfl) (by first|exact pair_new rfl|exact pair_blk (BlkAt.drewN (BlkAt.new _ _ _) 1)|exact pair_blk (BlkAt.new _ _ _)) hol2 (by first|omega|(simp;omega)|simp) ?_;intro v5 w5 hO5 hB5 hg5;have hP5:PairBlk w5 wo.heap.size (d,o) 134:=BlkAt.grown (by first|exact BlkAt.alloc P3.out _|exact BlkAt.alloc (BlkAt.drewN P3.out 1) _|exact BlkAt.drewN (BlkAt.alloc P3.out _) 1) hg5 (fun e=>HNE.out e.symm);have B5:Below w1.heap.size w1 w5:=(by first|exact (B3.out.alloc hrz3 _).trans hB5|exact (B3.out.drew.alloc hrz3 _).trans hB5|exact ((B3.out.alloc hrz3 _).drew).trans hB5))|(refine step_append_one kTra _ (by rfl) (.tmp 112) (.tmp 114) (by rfl) w1.heap.size (.slice (some ⟨b2,of2,none⟩) L cv) out (by simp [Act.eval,Act.put]) (by first|exact O3.out.alloc _|exact (O3.out.alloc _).drewN 1|exact (O3.out.drewN 1).alloc _|exact O3.out) _ (d,o) (by simp [Act.eval,Act.put];rfl) (by first|exact pair_new rfl|exact pair_blk (BlkAt.drewN (BlkAt.new _ _ _) 1)|exact pair_blk (BlkAt.new _ _ _)) hol2 (by first|omega|(simp;omega)|simp) ?_;intro v5 w5 hO5 hB5 hg5;have hP5:PairBlk w5 wo.heap.size (d,o) 134:=BlkAt.grown (by first|exact BlkAt.alloc P3.out _|exact BlkAt.alloc (BlkAt.drewN P3.out 1) _|exact BlkAt.drewN (BlkAt.alloc P3.out _) 1) hg5 (fun e=>HNE.out e.symm);have B5:Below w1.heap.size w1 w5:=(by first|exact (B3.out.alloc hrz3 _).trans hB5|exact (B3.out.drew.alloc hrz3 _).trans hB5|exact ((B3.out.alloc hrz3 _).drew).trans hB5)))
            all_goals
             go_wp2_with fail
             go_roundw
             case rel=>exact ⟨k+1,o,out++[(d,o)],by omega,by go_num,rfl,g3,g4,E1,E2,(by rw [List.length_append,HL.out];simp;omega),N1,Lib.hid hO5,Lib.hid B5⟩
             case measure=>simp [intOf];omega
         ·rw [inB_no (by omega)] at t2a
          have H1:=Lib.hid t1a
          have H2:=Lib.hid t2a
          have hfn:=HBAD.out (.inr (.inl i2))
          subst hfn
          clear t1a t2a HFIN HBAD i1 i2
          go_wp2_with fail
          go_quiet ((go_at_call 96;first|with_reducible exact zsame (H1.out _)|with_reducible exact zsame (H2.out _)))
          go_wp2_with fail
          go_ret2
          rw [HSL.out,HF.out];exact GivesT.none_ (below_drewN (bstep HB1.out B2.out) _)
        ·rw [inB_no (by omega)] at t1a
         have H1:=Lib.hid t1a
         have hfn:=HBAD.out (.inl i1)
         subst hfn
         clear t1a t2a HFIN HBAD i1
         go_wp2_with fail
         go_quiet ((go_at_call 96;with_reducible exact zsame (H1.out _)))
         go_wp2_with fail
         go_ret2
         rw [HSL.out,HF.out];exact GivesT.none_ (below_drewN (bstep HB1.out B2.out) _)
     ·obtain rfl:k=m:=by omega
      have hf:=HAt.out
      rw [←HM.out] at hf
      have hf2:=hf.done
      subst hf2
      obtain ⟨A1,c1,rfl, -, -,hS⟩:=HO.out.shape
      have HS:=Lib.hid hS
      clear hf HAt hS HO
      go_wp2_with fail
      go_ret2
      exact ⟨A1,c1,by rw [HSL.out,HF.out];rfl,by rw [HSL.out,HF.out];exact HS.out,bstep HB1.out HB.out⟩
theorem rtrans_is {off:Int} {rs:List Zn.Rule} {ts:Zn.L} {er:Int} (h:Zn.trans off rs=(ts,er)) (s:ByteArray) (A:Option Addr) (n c:Nat) (w:World) (hz:ZIn w A n rs) (ho:I64 off):
  Calls Tryz.prog 88 #[.agg #[.string s,.int .i64 off,.slice A n c]] w (GivesT ts er w):=by
 have :=rtrans_any s off A n c rs w hz ho
 rw [h] at this
 exact this
end Go.Proofs.YtfamcohbnoibaaaGreatDoor
namespace Go.Proofs.YtfamcohbnoibaaaGreatDoor
open Go.RowKit
set_option maxHeartbeats 1000000 in
theorem rcheck_is {off:Int} {rs:List Zn.Rule} {ts:Zn.L} {er:Int} (h:Zn.trans off rs=(ts,er)) (s:ByteArray) (A:Option Addr) (n c:Nat) (w:World) (hz:ZIn w A n rs) (ho:I64 off):
  Calls Tryz.prog 94 #[.agg #[.string s,.int .i64 off,.slice A n c]] w fun e w'=>e= .returned (.int .i64 er)∧Below w.heap.size w w':=by
 have C:=Lib.hid (rtrans_is h s A n c _ (hz.alloc (.cells #[.string s,.int .i64 off,.slice A n c] 71)) ho)
 clear h hz
 go_enter Tryz.func94,Tryz.ntmps94
 go_wp2_with fail
 refine C.out.mono ?_
 rintro e w1 ⟨A1,c1,rfl,hP,hb⟩
 go_wp2_with fail
 go_ret
 exact ⟨rfl,below_alloc_call hb⟩
set_option maxHeartbeats 2000000 in
theorem roffset_any (s:ByteArray) (off:Int) (A:Option Addr) (n c:Nat) (B:Option Addr) (m d:Nat) (ts:Zn.L) (x:Int) (w:World) (hP:PairsAt w B ts) (hm:ts.length=m) (h640:m≤640):
  Calls Tryz.prog 97 #[.agg #[.string s,.int .i64 off,.slice A n c],.slice B m d,.int .i64 x] w fun e w'=>e= .returned (.int .i64 (Zn.offAt off ts x))∧Below w.heap.size w w':=by
 have HP:=Lib.hid hP
 have HM:=Lib.hid hm
 obtain ⟨r,hr⟩: ∃r,Zn.offAt off ts x=r:=⟨_,rfl⟩
 have HR:Hid (Zn.offAt off (ts.drop 0) x=r):=Lib.hid hr
 rw [hr]
 clear hP hm hr
 go_enter Tryz.func97,Tryz.ntmps97
 go_wp2_with fail
 go_loopw [7,8] (fun vn vi wr=> ∃(k:Nat) (nn:Int),k≤m∧vi= .int .i64 k∧vn= .int .i64 nn∧Hid (Zn.offAt nn (ts.drop k) x=r)∧Hid (Below w.heap.size w wr)) (fun _ i _=>m-(intOf i).toNat)
 case atStart=>exact ⟨0,off,Nat.zero_le _,rfl,rfl,HR,Lib.hid ((Below.refl _ _).alloc (Nat.le_refl _) _)⟩
 case round=>
  clear HR
  obtain ⟨k,nn,hk,rfl,rfl,HO,HB⟩:=hrel
  by_cases hlt:k<m
  ·obtain ⟨⟨a,o⟩,hx⟩:=get_ex (xs:=ts) (i:=k) (by have :=HM.out;omega)
   obtain ⟨b,of,rfl,hb,hc⟩:=(HP.out.below HB.out) (by have :=HM.out;omega)
   obtain ⟨c0,c1⟩:=pair_cells (hc k _ hx)
   simp only at c0 c1
   have hst:=offAt_drop (n:=nn) (x:=x) hx
   rw [HO.out] at hst
   have HST:=Lib.hid hst
   have p1:(0:Int)≤k:=by omega
   have p2:(k:Int)<m:=by omega
   clear hc hx hst HO
   by_cases ha:a≤x
   ·have e:=HST.out
    rw [if_pos ha] at e
    have HE:=Lib.hid e.symm
    have t1:decide (a≤x)=true:=decide_eq_true ha
    clear e HST
    go_wp2_with fail
    go_roundw
    case rel=>exact ⟨k+1,o,by omega,by go_num,rfl,HE,HB⟩
    case measure=>simp [intOf];omega
   ·have e:=HST.out
    rw [if_neg ha] at e
    have HE:=Lib.hid e
    have t1:decide (a≤x)=false:=decide_eq_false ha
    clear e HST
    go_wp2_with fail
    go_ret
    exact ⟨ret_int HE.out.symm,HB.out⟩
  ·have hkk:ts.drop k=[]:=List.drop_of_length_le (by have :=HM.out;omega)
   have e:=HO.out
   rw [hkk] at e
   have HE:=Lib.hid (show nn=r from e)
   clear hkk e HO
   go_wp2_with fail
   go_ret
   exact ⟨ret_int HE.out,HB.out⟩
set_option maxHeartbeats 4000000 in
theorem roffAt_is {off:Int} {rs:List Zn.Rule} {ts:Zn.L} {er:Int} (h:Zn.trans off rs=(ts,er)) (s:ByteArray) (A:Option Addr) (n c:Nat) (x:Int) (w:World) (hz:ZIn w A n rs) (ho:I64 off):
  Calls Tryz.prog 66 #[.agg #[.string s,.int .i64 off,.slice A n c],.int .i64 x] w fun e w'=>e= .returned (.tuple #[.int .i64 (offV off ts er x),.int .i64 (offE er x)])∧Below w.heap.size w w':=by
 have C:=Lib.hid (rtrans_is h s A n c _ (hz.alloc (.cells #[.string s,.int .i64 off,.slice A n c] 71)) ho)
 clear hz
 by_cases he:er=0
 ·subst he
  by_cases hx:x<0∨8589934592<x
  ·have hv:=Lib.hid (show offV off ts 0 x=0∧offE 0 x=1 by unfold offV offE;simp [hx])
   have H1:=Lib.hid (fun W=>in_is (inB_no (n:=x) (lo:=0) (hi:=8589934592) hx) W)
   clear h hx
   go_enter Tryz.func66,Tryz.ntmps66
   go_wp2_with fail
   refine C.out.mono ?_
   rintro e w1 ⟨A1,c1,rfl,hP,hb⟩
   go_wp2_with (go_at_call 96;refine (H1.out _).mono ?_;rintro e w' ⟨rfl,rfl⟩)
   go_ret2
   exact ⟨by rw [hv.out.1,hv.out.2];rfl,below_alloc_call hb⟩
  ·obtain ⟨k1,k2,k3,k4,k5,k6,k7,k8⟩:=Zn.trans_ok h
   have hv:=Lib.hid (show offV off ts 0 x=Zn.offAt off ts x∧offE 0 x=0 by unfold offV offE;simp [hx])
   have H1:=Lib.hid (fun W=>in_is (inB_yes (n:=x) (lo:=0) (hi:=8589934592) (by omega) (by omega)) W)
   obtain ⟨q,hq⟩: ∃q,ts.length=q:=⟨_,rfl⟩
   have q640:q≤640:=by omega
   have HQ:=Lib.hid hq
   clear h hx k1 k2 k3 k4 k5 k6 k7 k8
   go_enter Tryz.func66,Tryz.ntmps66
   go_wp2_with fail
   refine C.out.mono ?_
   rintro e w1 ⟨A1,c1,rfl,hP,hb⟩
   rw [hq]
   have Z1:ZBlk w1 w.heap.size s off A n c:=BlkAt.after (BlkAt.new _ _ _) hb
   obtain ⟨z0,z1,z2⟩:=ZBlk.cells Z1
   have HB:=Lib.hid (below_alloc_call hb)
   have C2:=Lib.hid (roffset_any s off A n c A1 q c1 ts x w1 hP HQ.out q640)
   clear hb hP hq Z1
   go_wp2_with (go_at_call 96;refine (H1.out _).mono ?_;rintro e w' ⟨rfl,rfl⟩)
   refine C2.out.mono ?_
   rintro e w2 ⟨rfl,b2⟩
   go_wp2_with fail
   go_ret2
   exact ⟨by rw [hv.out.1,hv.out.2];rfl,bstep HB.out b2⟩
 ·have hv:=Lib.hid (show offV off ts er x=0∧offE er x=8 by unfold offV offE;simp [he])
  have hne:(er !=0)=true:=by simpa using he
  clear h he
  go_enter Tryz.func66,Tryz.ntmps66
  go_wp2_with fail
  refine C.out.mono ?_
  rintro e w1 ⟨A1,c1,rfl,hP,hb⟩
  go_wp2_with fail
  go_ret2
  exact ⟨by rw [hv.out.1,hv.out.2];rfl,below_alloc_call hb⟩
set_option maxHeartbeats 1000000 in
theorem rlocal_any (t o:Int) (w:World) (h1: -100000≤t+o) (h2:t+o≤9000000000) (h3:I64 t) (h4:I64 o):
  Calls Tryz.prog 67 #[.int .i64 t,.int .i64 o] w fun e w'=>e= .returned (.agg #[.int .i64 (Zn.toL (t+o)).1,.int .i64 (Zn.toL (t+o)).2])∧Below w.heap.size w w':=by
 obtain ⟨v,hv⟩: ∃v,t+o=v:=⟨_,rfl⟩
 have s1:IntKind.i64.wrap (t+o)=v:=by rw [hv,IntKind.wrap_i64];omega
 have s2:IntKind.i64.wrap (v+864000)=v+864000:=by rw [IntKind.wrap_i64];omega
 have q1:0≤v+864000:=by omega
 have l1:(Zn.toL (t+o)).1=(v+864000)/86400-10:=by rw [hv];unfold Zn.toL;simp only;omega
 have l2:(Zn.toL (t+o)).2=(v+864000)%86400:=by rw [hv];unfold Zn.toL;simp only;omega
 rw [l1,l2]
 have v1:v≤9000000000:=by omega
 clear l1 l2 h1 h2
 go_enter Tryz.func67,Tryz.ntmps67
 go_wp2_with fail
 refine bodyPost_ret (v:= .agg #[.int .i64 ((v+864000)/86400-10),.int .i64 ((v+864000)%86400)]) (by simp [results,Tryz.results67,go_sem]) rfl ⟨rfl, ?_⟩
 first|exact (Below.refl _ _).alloc (Nat.le_refl _) _|exact (((Below.refl _ _).alloc (Nat.le_refl _) _).setCell (by exact Nat.le_refl _) _).setCell (by exact Nat.le_refl _) _
set_option maxHeartbeats 4000000 in
theorem rtoLocal_is {off:Int} {rs:List Zn.Rule} {ts:Zn.L} {er:Int} (h:Zn.trans off rs=(ts,er)) (s:ByteArray) (A:Option Addr) (n c:Nat) (x:Int) (w:World) (hz:ZIn w A n rs) (ho:I64 off):
  Calls Tryz.prog 33 #[.agg #[.string s,.int .i64 off,.slice A n c],.int .i64 x] w fun e w'=>e= .returned (.tuple #[.agg #[.int .i64 (locV off ts er x).1,.int .i64 (locV off ts er x).2],.int .i64 (offE er x)])∧Below w.heap.size w w':=by
 have C:=roffAt_is h s A n c x _ ((hz.alloc (.cells #[.string s,.int .i64 off,.slice A n c] 71)).alloc (.cells #[.int .i64 0,.int .i64 0] 36)) ho
 by_cases he:offE er x=0
 ·have hlv:locV off ts er x=Zn.toL (x+offV off ts er x):=by unfold locV;rw [if_neg (by simpa using he)]
  have hb:0≤x∧x≤8589934592∧ -64800≤offV off ts er x∧offV off ts er x≤64800:=by
   unfold offE at he
   by_cases h0:er=0
   ·subst h0
    by_cases hx:x<0∨8589934592<x
    ·simp [hx] at he
    ·obtain ⟨k1,k2,k3,k4,k5,k6,k7,k8⟩:=Zn.trans_ok h
     have :=offAt_bd x k1 k8
     rw [Zn.okO_iff] at this
     have hv:offV off ts 0 x=Zn.offAt off ts x:=by unfold offV;simp [hx]
     rw [hv];omega
   ·simp [h0] at he
  rw [he] at C ⊢
  rw [hlv]
  generalize offV off ts er x=o at C hlv hb
  have CL:=fun W=>rlocal_any x o W (by omega) (by omega) ⟨by omega,by omega⟩ ⟨by omega,by omega⟩
  generalize Zn.toL (x+o)=l at CL ⊢
  obtain ⟨l0,l1⟩:=l
  simp only at CL ⊢
  have HC:=Lib.hid C
  have HCL:=Lib.hid CL
  clear hlv C CL hz h he hb
  go_enter Tryz.func33,Tryz.ntmps33
  go_wp2_with fail
  refine HC.out.mono ?_
  rintro e w1 ⟨rfl,hb⟩
  go_wp2_with fail
  refine (HCL.out _).mono ?_
  rintro e w2 ⟨rfl,hb2⟩
  have B:=BlkAt.after (BlkAt.after (BlkAt.new (w.alloc (.cells #[.string s,.int .i64 off,.slice A n c] 71)) #[.int .i64 0,.int .i64 0] 36) hb) hb2
  rw [show (w.alloc (.cells #[.string s,.int .i64 off,.slice A n c] 71)).heap.size=w.heap.size+1 by simp] at B
  have e0:=BlkAt.cell B (i:=0) rfl
  have e1:=BlkAt.cell B (i:=1) rfl
  have f0:=BlkAt.free B 0
  have f1:=BlkAt.free B 1
  have hzz:=BlkAt.lt_ B
  have HB:=Lib.hid (bstep (two_boxes hb) hb2)
  clear B hb hb2
  go_wp2_with fail
  refine bodyPost_ret (v:= .tuple #[.agg #[.int .i64 l0,.int .i64 l1],.int .i64 0]) (by simp [results,Tryz.results33,go_sem,e0,e1,f0,f1,hzz]) rfl ⟨rfl, ?_⟩
  exact (HB.out.setCell (by simp) _).setCell (by simp) _
 ·have hlv:locV off ts er x=(0,0):=by unfold locV;rw [if_pos he]
  rw [hlv]
  have hne:(offE er x !=0)=true:=by simpa using he
  generalize offE er x=ee at C hne ⊢
  generalize offV off ts er x=o at C
  have HC:=Lib.hid C
  clear hlv C hz h he
  go_enter Tryz.func33,Tryz.ntmps33
  go_wp2_with fail
  refine HC.out.mono ?_
  rintro e w1 ⟨rfl,hb⟩
  have B:=BlkAt.after (BlkAt.new (w.alloc (.cells #[.string s,.int .i64 off,.slice A n c] 71)) #[.int .i64 0,.int .i64 0] 36) hb
  rw [show (w.alloc (.cells #[.string s,.int .i64 off,.slice A n c] 71)).heap.size=w.heap.size+1 by simp] at B
  have e0:=BlkAt.cell B (i:=0) rfl
  have e1:=BlkAt.cell B (i:=1) rfl
  have f0:=BlkAt.free B 0
  have f1:=BlkAt.free B 1
  have hzz:=BlkAt.lt_ B
  have HB:=Lib.hid (two_boxes hb)
  clear B hb
  go_wp2_with fail
  refine bodyPost_ret (v:= .tuple #[.agg #[.int .i64 0,.int .i64 0],.int .i64 ee]) (by simp [results,Tryz.results33,go_sem,e0,e1,f0,f1,hzz]) rfl ⟨rfl, ?_⟩
  exact (HB.out.setCell (by simp) _).setCell (by simp) _
theorem small_any (d:Int) (w:World):Calls Tryz.prog 137 #[.int .i64 d] w fun e w'=>e= .returned (.bool (inB d (-2) 99422))∧w=w':=by
 have C:=in_any d (-2) 99422 w
 go_enter Tryz.func137,Tryz.ntmps137
 go_wp2_with fail
 refine C.mono ?_
 rintro e w1 ⟨rfl,rfl⟩
 go_wp2_with fail
 go_ret
 exact ⟨rfl,rfl⟩
end Go.Proofs.YtfamcohbnoibaaaGreatDoor
