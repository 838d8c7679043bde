import Derived.KernelRfl
import Derived.Lib.Hide
import Derived.Lib.Split
import Derived.Lib.SplitLaws
import Derived.Lib.CutLaws
import Derived.Lib.IndexMore
import Derived.Lib.Strings
import Derived.Lib.Fields
import Derived.Lib.Repeat
import Derived.Lib.ItoaNum
import Derived.Lib.ItoaMem
import Derived.Lib.AtoiAllCases
import Derived.Lib.ItoaLen
set_option linter.unusedVariables false
set_option linter.unusedSimpArgs false
namespace Go.Proofs.YtfamcohbnoibaaaGreatDoor
namespace Civ
def leapB (y:Int):Bool:=(y%4==0)&&((y%100 !=0)||(y%400==0))
def lp (y:Int):Int:=if leapB y=true then 1 else 0
def ny (y:Int):Int:=(y-1970)*365+((y-1)/4-(y-1)/100+(y-1)/400)-477
def cum (y m:Int):Int:=if m≤2 then 31*(m-1) else (153*(m-3)+2)/5+59+lp y
def dim (y m:Int):Int:=if m<1∨12<m then 0 else cum y (m+1)-cum y m
def num (y m d:Int):Int:=ny y+cum y m+d-1
def vld (y m d:Int):Prop:=1970≤y∧y≤2240∧1≤m∧m≤12∧1≤d∧d≤dim y m
def vldB (y m d:Int):Bool:=decide (1970≤y)&&decide (y≤2240)&&decide (1≤m)&&decide (m≤12)&&decide (1≤d)&&decide (d≤dim y m)
def wd (n:Int):Int:=(n+3)%7
theorem vldB_iff {y m d:Int}:vldB y m d=true↔vld y m d:=by
 unfold vldB vld;simp [and_assoc]
theorem vldB_not {y m d:Int}:vldB y m d=false↔ ¬vld y m d:=by
 rw [←vldB_iff];simp
theorem vldB_last {y m d:Int} (h1:1970≤y) (h2:y≤2240) (h3:1≤d):vldB y m d=decide (d≤dim y m):=by
 rw [Bool.eq_iff_iff,vldB_iff,decide_eq_true_iff]
 refine ⟨fun h=>h.2.2.2.2.2,fun h=> ?_⟩
 by_cases hm:1≤m∧m≤12
 ·exact ⟨h1,h2,hm.1,hm.2,h3,h⟩
 ·unfold dim at h;rw [if_pos (by omega)] at h;omega
theorem leap_iff (y:Int):leapB y=true↔y%4=0∧(y%100≠0∨y%400=0):=by
 unfold leapB;simp
theorem lp_01 (y:Int):0≤lp y∧lp y≤1:=by unfold lp;split<;>omega
theorem lp_yes {y:Int} (h:leapB y=true):lp y=1:=by unfold lp;rw [if_pos h]
theorem lp_no {y:Int} (h:leapB y=false):lp y=0:=by unfold lp;rw [if_neg (by rw [h];decide)]
theorem ny_succ (y:Int):ny (y+1)=ny y+365+lp y:=by
 by_cases h:leapB y=true
 ·rw [lp_yes h]
  rw [leap_iff] at h
  unfold ny;omega
 ·have h':leapB y=false:=by simpa using h
  rw [lp_no h']
  rw [leap_iff] at h
  unfold ny;omega
theorem ny_mono {a b:Int} (h:a≤b):ny a≤ny b:=by unfold ny;omega
theorem ny_1970:ny 1970=0:=by decide
theorem ny_2241:ny 2241=98981:=by decide
theorem dim_of {y m:Int} (h1:1≤m) (h2:m≤12):dim y m=if m=2 then 28+lp y else if m=4∨m=6∨m=9∨m=11 then 30 else 31:=by
 unfold dim;rw [if_neg (by omega)];unfold cum
 have :m=1∨m=2∨m=3∨m=4∨m=5∨m=6∨m=7∨m=8∨m=9∨m=10∨m=11∨m=12:=by omega
 rcases this with rfl|rfl|rfl|rfl|rfl|rfl|rfl|rfl|rfl|rfl|rfl|rfl<;>simp <;>omega
theorem dim_out {y m:Int} (h:m<1∨12<m):dim y m=0:=by unfold dim;rw [if_pos h]
theorem dim_bd (y m:Int):0≤dim y m∧dim y m≤31:=by
 by_cases h:m<1∨12<m
 ·rw [dim_out h];omega
 ·rw [dim_of (by omega) (by omega)];have :=lp_01 y
  repeat (split<;>try omega)
theorem dim_lo {y m:Int} (h1:1≤m) (h2:m≤12):28≤dim y m:=by
 rw [dim_of h1 h2];have :=lp_01 y
 repeat (split<;>try omega)
theorem cum_succ {y m:Int} (h1:1≤m) (h2:m≤12):cum y (m+1)=cum y m+dim y m:=by
 unfold dim;rw [if_neg (by omega)];omega
theorem cum_1 (y:Int):cum y 1=0:=by unfold cum;simp
theorem cum_13 (y:Int):cum y 13=365+lp y:=by unfold cum;rw [if_neg (by decide)];omega
theorem cum_mono {y a b:Int} (h1:1≤a) (h:a≤b):cum y a≤cum y b:=by
 have :=lp_01 y
 unfold cum;split<;>split<;>omega
theorem cum_bd {y m:Int} (h1:1≤m) (h2:m≤13):0≤cum y m∧cum y m≤366:=by
 have a:=cum_mono (y:=y) (a:=1) (b:=m) (by omega) h1
 have b:=cum_mono (y:=y) (a:=m) (b:=13) h1 h2
 rw [cum_1] at a;rw [cum_13] at b;have :=lp_01 y;omega
theorem ny_bd {y:Int} (h1:1970≤y) (h2:y≤2241):0≤ny y∧ny y≤98981:=by
 have a:=ny_mono h1;have b:=ny_mono h2;rw [ny_1970] at a;rw [ny_2241] at b;omega
theorem num_bd {y m d:Int} (h:vld y m d):ny y+cum y m≤num y m d∧num y m d<ny y+cum y (m+1)∧ny y≤num y m d∧num y m d<ny (y+1)∧0≤num y m d∧num y m d<98981:=by
 obtain ⟨h1,h2,h3,h4,h5,h6⟩:=h
 have e:=cum_succ (y:=y) h3 h4
 have a:=cum_mono (y:=y) (a:=m+1) (b:=13) (by omega) (by omega)
 have b:=cum_bd (y:=y) h3 (show m≤13 by omega)
 have c:=ny_succ y
 have f:=ny_bd (show 1970≤y+1 by omega) (show y+1≤2241 by omega)
 have g:=ny_bd h1 (show y≤2241 by omega)
 rw [cum_13] at a
 unfold num;omega
theorem year_uniq {n y y':Int} (a:ny y≤n) (b:n<ny (y+1)) (a':ny y'≤n) (b':n<ny (y'+1)):y=y':=by
 rcases Int.lt_trichotomy y y' with h|h|h
 ·have :=ny_mono (show y+1≤y' by omega);omega
 ·exact h
 ·have :=ny_mono (show y'+1≤y by omega);omega
theorem wd_bd (n:Int):0≤wd n∧wd n≤6:=by unfold wd;omega
theorem tmod_zero (y k:Int):(y.tmod k=0)=(y%k=0):=by
 rw [propext (Int.dvd_iff_tmod_eq_zero (a:=k) (b:=y)).symm,propext (Int.dvd_iff_emod_eq_zero (a:=k) (b:=y)).symm]
theorem tmod_eqB (y k:Int):(y.tmod k==0)=(y%k==0):=by
 rw [Bool.eq_iff_iff];simp [tmod_zero]
theorem tmod_bd (y k:Int) (hk:0<k): -k<y.tmod k∧y.tmod k<k:=by
 have a:=Int.tmod_lt_of_pos y hk
 have b:=Int.lt_tmod_of_pos y hk
 exact ⟨b,a⟩
theorem wd_code (n:Int):(n.tmod 7+7+3)%7=wd n:=by
 unfold wd
 have e:n.tmod 7=n-7*(n.tdiv 7):=by have :=Int.tmod_add_mul_tdiv n 7;omega
 rw [e];omega
theorem mod_code (n k:Int):(n.tmod k+k)%k=n%k:=by
 have e:=Int.tmod_add_mul_tdiv n k
 have h:n%k=(n.tmod k+k*n.tdiv k)%k:=by rw [e]
 rw [h,Int.add_mul_emod_self_left,Int.add_emod_right]
theorem leap_code (y:Int) {b:Bool} (h:(y.tmod 4=0∧y.tmod 100=0∧b=(y.tmod 400==0))∨(y.tmod 4=0∧¬y.tmod 100=0∧b=true)∨(¬y.tmod 4=0∧b=false)):b=leapB y:=by
 rw [tmod_zero,tmod_zero,tmod_eqB] at h
 unfold leapB
 rcases h with ⟨a,c,rfl⟩|⟨a,c,rfl⟩|⟨a,rfl⟩<;>simp_all
def yo (n:Int):Int:=if ny (1970+n/366+1)≤n then 1970+n/366+1 else 1970+n/366
theorem yo_guess (n:Int) (h1:0≤n) (h2:n<98981):1970≤1970+n/366∧1970+n/366≤2240∧ny (1970+n/366)≤n∧n<ny (1970+n/366+2):=by
 unfold ny;omega
theorem yo_ok (n:Int) (h1:0≤n) (h2:n<98981):1970≤yo n∧yo n≤2240∧ny (yo n)≤n∧n<ny (yo n+1):=by
 obtain ⟨a,b,c,d⟩:=yo_guess n h1 h2
 unfold yo
 split
 ·rename_i h
  refine ⟨by omega, ?_,h,by rw [show 1970+n/366+1+1=1970+n/366+2 by omega];exact d⟩
  by_cases e:1970+n/366=2240
  ·rw [e,show (2240:Int)+1=2241 from rfl,ny_2241] at h;omega
  ·omega
 ·rename_i h
  exact ⟨a,b,c,by omega⟩
theorem yo_of {n y:Int} (a:ny y≤n) (b:n<ny (y+1)) (h1:0≤n) (h2:n<98981):yo n=y:=
 year_uniq (yo_ok n h1 h2).2.2.1 (yo_ok n h1 h2).2.2.2 a b
theorem month_ex (y r:Int) (h0:0≤r) (k:Nat) (hk:k≤12) (h:r<cum y (k+1)): ∃m:Int,1≤m∧m≤k∧cum y m≤r∧r<cum y (m+1):=by
 induction k with
 |zero=>rw [show ((0:Nat):Int)+1=1 from rfl,cum_1] at h;omega
 |succ k ih=>
  by_cases c:cum y (k+1)≤r
  ·exact ⟨k+1,by omega,by omega,c,by simpa using h⟩
  ·obtain ⟨m,a,b,e,f⟩:=ih (by omega) (by omega)
   exact ⟨m,a,by omega,e,f⟩
theorem date_ex (n:Int) (h1:0≤n) (h2:n<98981): ∃y m d:Int,vld y m d∧num y m d=n:=by
 obtain ⟨a,b,c,e⟩:=yo_ok n h1 h2
 have s:=ny_succ (yo n)
 obtain ⟨m,m1,m2,m3,m4⟩:=month_ex (yo n) (n-ny (yo n)) (by omega) 12 (by omega) (by rw [show ((12:Nat):Int)+1=13 from rfl,cum_13];omega)
 have k:=cum_succ (y:=yo n) m1 (by omega)
 exact ⟨yo n,m,n-ny (yo n)-cum (yo n) m+1,⟨a,b,m1,by omega,by omega,by omega⟩,by unfold num;omega⟩
def mid (n:Int):Int:=n-wd n+3
def nthD (first len k v:Int):Int:=if first +len≤first +(v-wd first)%7+(k-1)*7 then first +(v-wd first)%7+(k-1)*7-7 else first +(v-wd first)%7+(k-1)*7
end Civ
end Go.Proofs.YtfamcohbnoibaaaGreatDoor
namespace Go.Proofs.YtfamcohbnoibaaaGreatDoor
namespace Zs
abbrev L:=List (Int×Int)
def Asc (l:L):Prop:=l.Pairwise fun x y=>x.1≤y.1
def ff (k:Int) (l:L):L:=l.filter fun x=>x.1==k
def Sb (l r:L):Prop:= ∀k,ff k l=ff k r
theorem ff_app (k:Int) (a b:L):ff k (a++b)=ff k a++ff k b:=List.filter_append ..
theorem ff_nil (k:Int):ff k []=[]:=rfl
theorem ff_cons (k:Int) (x:Int×Int) (l:L):ff k (x::l)=if x.1=k then x::ff k l else ff k l:=by
 unfold ff;rw [List.filter_cons];by_cases h:x.1=k<;>simp [h]
theorem mem_ff {k:Int} {x:Int×Int} {l:L}:x∈ff k l↔x∈l∧x.1=k:=by simp [ff]
theorem ff_none {k:Int} {l:L} (h: ∀x∈l,x.1≠k):ff k l=[]:=by
 unfold ff;rw [List.filter_eq_nil_iff];intro x hx;simp [h x hx]
theorem Sb.refl (l:L):Sb l l:=fun _=>rfl
theorem Sb.trans {a b c:L} (h:Sb a b) (h2:Sb b c):Sb a c:=fun k=>(h k).trans (h2 k)
theorem Sb.symm {a b:L} (h:Sb a b):Sb b a:=fun k=>(h k).symm
theorem Sb.app {a b c d:L} (h:Sb a b) (h2:Sb c d):Sb (a++c) (b++d):=fun k=>by rw [ff_app,ff_app,h k,h2 k]
theorem Sb.mem {a b:L} (h:Sb a b) (x:Int×Int):x∈a↔x∈b:=by
 have e:=h x.1
 have e1:x∈ff x.1 a↔x∈ff x.1 b:=by rw [e]
 simpa [mem_ff] using e1
theorem Sb.flip {A B:L} (h: ∀x∈A, ∀y∈B,y.1<x.1):Sb (A++B) (B++A):=fun k=>by
 rw [ff_app,ff_app]
 by_cases hA: ∃x∈A,x.1=k
 ·obtain ⟨x,hx,rfl⟩:=hA
  rw [ff_none (l:=B) (fun y hy=>by have :=h x hx y hy;omega)];simp
 ·rw [ff_none (l:=A) (fun y hy e=>hA ⟨y,hy,e⟩)];simp
theorem Sb.cut {P X Y S:L} (h:Sb (P++X++S) (P++Y++S)):Sb X Y:=fun k=>by
 have :=h k
 simp only [ff_app,List.append_assoc] at this
 exact List.append_cancel_right (List.append_cancel_left this)
theorem Asc.cons {x:Int×Int} {l:L}:Asc (x::l)↔(∀y∈l,x.1≤y.1)∧Asc l:=List.pairwise_cons
theorem Asc.app {a b:L}:Asc (a++b)↔Asc a∧Asc b∧ ∀x∈a, ∀y∈b,x.1≤y.1:=List.pairwise_append
theorem Asc.nil:Asc []:=List.Pairwise.nil
theorem Asc.one (x:Int×Int):Asc [x]:=List.pairwise_singleton ..
theorem uniq: ∀{r r':L},Asc r→Asc r'→Sb r r'→r=r'
 |[],r',_,_,h=>by
  rcases r' with _|⟨y,t⟩
  ·rfl
  ·exact absurd ((h.mem y).2 (by simp)) (by simp)
 |x::t,[],_,_,h=>absurd ((h.mem x).1 (by simp)) (by simp)
 |x::t,y::t',h1,h2,h=>by
  obtain ⟨a1,a2⟩:=Asc.cons.1 h1
  obtain ⟨b1,b2⟩:=Asc.cons.1 h2
  have hx:y.1≤x.1:=by
   have :=(h.mem x).1 (by simp)
   rcases List.mem_cons.1 this with e|e
   ·rw [e];exact Int.le_refl _
   ·exact b1 x e
  have hy:x.1≤y.1:=by
   have :=(h.mem y).2 (by simp)
   rcases List.mem_cons.1 this with e|e
   ·rw [e];exact Int.le_refl _
   ·exact a1 y e
  have hk:x.1=y.1:=by omega
  have e:=h x.1
  rw [ff_cons,ff_cons,if_pos rfl,if_pos hk.symm] at e
  injection e with e0 e1
  subst e0
  rw [uniq a2 b2 fun k=> ?_]
  by_cases hk2:x.1=k
  ·rw [←hk2];exact e1
  ·have :=h k
   rwa [ff_cons,ff_cons,if_neg hk2,if_neg hk2] at this
def insr (x:Int×Int):L→L
 |[]=>[x]
 |y::t=>if y.1≤x.1 then y::insr x t else x::y::t
def srt (l:L):L:=l.foldl (fun o x=>insr x o) []
theorem insr_mem (x:Int×Int): ∀(o:L) (z:Int×Int),z∈insr x o↔z=x∨z∈o
 |[],z=>by simp [insr]
 |y::t,z=>by
  unfold insr
  by_cases h:y.1≤x.1
  ·rw [if_pos h,List.mem_cons,insr_mem x t z,List.mem_cons]
   constructor
   ·rintro (a|a|a)<;>simp [a]
   ·rintro (a|a|a)<;>simp [a]
  ·rw [if_neg h];simp
theorem insr_asc (x:Int×Int): ∀(o:L),Asc o→Asc (insr x o)
 |[],_=>Asc.one x
 |y::t,h=>by
  obtain ⟨a,b⟩:=Asc.cons.1 h
  unfold insr
  by_cases hy:y.1≤x.1
  ·rw [if_pos hy]
   refine Asc.cons.2 ⟨fun z hz=> ?_,insr_asc x t b⟩
   rcases (insr_mem x t z).1 hz with rfl|hz
   ·exact hy
   ·exact a z hz
  ·rw [if_neg hy]
   refine Asc.cons.2 ⟨fun z hz=> ?_,h⟩
   rcases List.mem_cons.1 hz with rfl|hz
   ·omega
   ·have :=a z hz;omega
theorem insr_sb (x:Int×Int): ∀(o:L),Asc o→Sb (insr x o) (o++[x])
 |[],_=>Sb.refl _
 |y::t,h=>by
  obtain ⟨a,b⟩:=Asc.cons.1 h
  unfold insr
  by_cases hy:y.1≤x.1
  ·rw [if_pos hy]
   intro k
   rw [List.cons_append,ff_cons,ff_cons,insr_sb x t b k]
  ·rw [if_neg hy]
   intro k
   rw [←List.singleton_append (l:=y::t)]
   refine (Sb.flip (A:=y::t) (B:=[x]) ?_).symm k
   intro z hz w hw
   simp only [List.mem_singleton] at hw;subst hw
   rcases List.mem_cons.1 hz with rfl|hz
   ·omega
   ·have :=a z hz;omega
theorem srt_snoc (l:L) (x:Int×Int):srt (l++[x])=insr x (srt l):=by unfold srt;simp
theorem snoc_ind {P:L→Prop} (l:L) (h0:P []) (h1: ∀l x,P l→P (l++[x])):P l:=by
 rw [←List.reverse_reverse l]
 induction l.reverse with
 |nil=>exact h0
 |cons x t ih=>rw [List.reverse_cons];exact h1 _ _ ih
theorem srt_ok (l:L):Asc (srt l)∧Sb (srt l) l:=by
 refine snoc_ind (P:=fun l=>Asc (srt l)∧Sb (srt l) l) l ⟨Asc.nil,Sb.refl _⟩ fun l x ih=> ?_
 rw [srt_snoc]
 exact ⟨insr_asc x _ ih.1,(insr_sb x _ ih.1).trans (ih.2.app (Sb.refl _))⟩
theorem srt_of {r l:L} (h:Asc r) (h2:Sb r l):r=srt l:=uniq h (srt_ok l).1 (h2.trans (srt_ok l).2.symm)
theorem srt_asc (l:L):Asc (srt l):=(srt_ok l).1
theorem srt_sb (l:L):Sb (srt l) l:=(srt_ok l).2
theorem srt_self {l:L} (h:Asc l):srt l=l:=(srt_of h (Sb.refl l)).symm
theorem insr_len (x:Int×Int): ∀o:L,(insr x o).length=o.length+1
 |[]=>rfl
 |y::t=>by
  unfold insr
  by_cases h:y.1≤x.1
  ·rw [if_pos h,List.length_cons,insr_len x t,List.length_cons]
  ·rw [if_neg h];simp
theorem srt_len (l:L):(srt l).length=l.length:=by
 refine snoc_ind (P:=fun l=>(srt l).length=l.length) l rfl fun l x ih=> ?_
 rw [srt_snoc,insr_len,ih,List.length_append,List.length_singleton]
theorem srt_mem (l:L) (x:Int×Int):x∈srt l↔x∈l:=(srt_sb l).mem x
theorem sym {A1 A2 B1 B2:L} (hA:Asc (A1++A2)) (hB:Asc (B1++B2)) (h1: ∀x∈A2, ∀y∈B1,y.1<x.1) (h2: ∀x∈A1, ∀y∈B2,x.1≤y.1):
  srt (A1++B1)++srt (A2++B2)=srt (A1++A2++(B1++B2)):=by
 obtain ⟨_,_,a3⟩:=Asc.app.1 hA
 obtain ⟨_,_,b3⟩:=Asc.app.1 hB
 refine srt_of (Asc.app.2 ⟨srt_asc _,srt_asc _,fun x hx y hy=> ?_⟩) ?_
 ·rw [srt_mem,List.mem_append] at hx hy
  rcases hx with hx|hx<;>rcases hy with hy|hy
  ·exact a3 x hx y hy
  ·exact h2 x hx y hy
  ·have :=h1 y hy x hx;omega
  ·exact b3 x hx y hy
 ·have e:=(Sb.refl A1).app ((Sb.flip (A:=A2) (B:=B1) h1).symm.app (Sb.refl B2))
  have e2:=(srt_sb (A1++B1)).app (srt_sb (A2++B2))
  rw [List.append_assoc] at e2
  simp only [List.append_assoc] at e e2 ⊢
  exact e2.trans e
theorem ins_left {x:Int×Int} {B1 B2:L} (hB:Asc (B1++B2)) (h1: ∀y∈B1,y.1<x.1) (h2: ∀y∈B2,x.1≤y.1):B1++x::B2=srt ([x]++(B1++B2)):=by
 have :=sym (A1:=[]) (A2:=[x]) (B1:=B1) (B2:=B2) (Asc.one x) hB (fun z hz y hy=>by simp at hz;subst hz;exact h1 y hy) (fun z hz=>by cases hz)
 obtain ⟨b1,b2,_⟩:=Asc.app.1 hB
 rw [List.nil_append,srt_self b1,srt_self (l:=[x]++B2) (Asc.cons.2 ⟨h2,b2⟩)] at this
 simpa using this
theorem ins_right {y:Int×Int} {A1 A2:L} (hA:Asc (A1++A2)) (h1: ∀x∈A1,x.1≤y.1) (h2: ∀x∈A2,y.1<x.1):A1++y::A2=srt (A1++A2++[y]):=by
 have :=sym (A1:=A1) (A2:=A2) (B1:=[y]) (B2:=[]) hA (by simpa using Asc.one y) (fun z hz w hw=>by simp at hw;subst hw;exact h2 z hz) (fun z hz w hw=>by cases hw)
 obtain ⟨b1,b2,_⟩:=Asc.app.1 hA
 rw [List.append_nil,srt_self b2,srt_self (l:=A1++[y]) (Asc.app.2 ⟨b1,Asc.one y,fun z hz w hw=>by simp at hw;subst hw;exact h1 z hz⟩)] at this
 simpa using this
def sw (l:L) (i j:Nat):L:=(l.set i (l.getD j (0,0))).set j (l.getD i (0,0))
theorem getD_mid (P S:L) (x:Int×Int) (k:Nat) (h:k=P.length):(P++x::S).getD k (0,0)=x:=by subst h;simp [List.getD]
theorem set_mid (P S:L) (x y:Int×Int) (k:Nat) (h:k=P.length):(P++x::S).set k y=P++y::S:=by subst h;simp [List.set_append]
theorem sw_mid (P Q R:L) (x y:Int×Int) (i j:Nat) (hi:i=P.length) (hj:j=P.length+1+Q.length):sw (P++x::(Q++y::R)) i j=P++y::(Q++x::R):=by
 have e:P++x::(Q++y::R)=(P++x::Q)++y::R:=by simp
 have g1:=getD_mid P (Q++y::R) x i hi
 have g2:(P++x::(Q++y::R)).getD j (0,0)=y:=by rw [e];exact getD_mid _ _ _ _ (by simp;omega)
 unfold sw
 rw [g1,g2,set_mid _ _ _ _ _ hi]
 have e2:P++y::(Q++y::R)=(P++y::Q)++y::R:=by simp
 rw [e2,set_mid _ _ _ _ _ (by simp;omega)]
 simp
theorem sw_mid' (P Q R:L) (x y:Int×Int) (i j:Nat) (hi:i=P.length) (hj:j=P.length+1+Q.length):sw (P++x::(Q++y::R)) j i=P++y::(Q++x::R):=by
 rw [←sw_mid P Q R x y i j hi hj]
 unfold sw
 exact List.set_comm _ _ (by omega)
theorem take_snoc (l:L) (k:Nat) (h:k<l.length):l.take (k+1)=l.take k++[l.getD k (0,0)]:=by
 rw [List.take_succ_eq_append_getElem h];simp [List.getD,h]
theorem drop_cons (l:L) (k:Nat) (h:k<l.length):l.drop k=l.getD k (0,0)::l.drop (k+1):=by
 rw [List.drop_eq_getElem_cons h];simp [List.getD,h]
def rng (P X M Y S:L) (k:Nat):L:=P++(Y.take k++(X.drop k++(M++(X.take k++(Y.drop k++S)))))
theorem rng_start (P X M Y S:L):rng P X M Y S 0=P++(X++(M++(Y++S))):=by simp [rng]
theorem rng_end (P X M Y S:L) (n:Nat) (hx:X.length=n) (hy:Y.length=n):rng P X M Y S n=P++(Y++(M++(X++S))):=by
 unfold rng
 rw [List.take_of_length_le (by omega),List.take_of_length_le (by omega),List.drop_of_length_le (by omega),List.drop_of_length_le (by omega)]
 simp
theorem rng_step (P X M Y S:L) (k n:Nat) (hx:X.length=n) (hy:Y.length=n) (hk:k<n) (i j:Nat) (hi:i=P.length+k) (hj:j=P.length+n+M.length+k):
  sw (rng P X M Y S k) i j=rng P X M Y S (k+1):=by
 unfold rng
 rw [drop_cons X k (by omega),drop_cons Y k (by omega),take_snoc Y k (by omega),take_snoc X k (by omega)]
 have e:=sw_mid (P++Y.take k) (X.drop (k+1)++(M++X.take k)) (Y.drop (k+1)++S) (X.getD k (0,0)) (Y.getD k (0,0)) i j (by simp;omega) (by simp;omega)
 simp only [List.append_assoc,List.cons_append,List.nil_append,List.singleton_append] at e ⊢
 exact e
theorem rng_len (P X M Y S:L) (k:Nat) (hx:X.length=Y.length):(rng P X M Y S k).length=P.length+X.length+M.length+Y.length+S.length:=by
 unfold rng;simp;omega
def mvu (P:L) (x:Int×Int) (B S:L) (k:Nat):L:=P++(B.take k++x::(B.drop k++S))
theorem mvu_step (P:L) (x:Int×Int) (B S:L) (k:Nat) (hk:k<B.length) (i j:Nat) (hi:i=P.length+k) (hj:j=P.length+k+1):sw (mvu P x B S k) i j=mvu P x B S (k+1):=by
 unfold mvu
 rw [drop_cons B k hk,take_snoc B k hk]
 have e:=sw_mid (P++B.take k) [] (B.drop (k+1)++S) x (B.getD k (0,0)) i j (by simp;omega) (by simp;omega)
 simp only [List.append_assoc,List.cons_append,List.nil_append,List.singleton_append] at e ⊢
 exact e
theorem mvu_step' (P:L) (x:Int×Int) (B S:L) (k:Nat) (hk:k<B.length) (i j:Nat) (hi:i=P.length+k) (hj:j=P.length+k+1):sw (mvu P x B S (k+1)) j i=mvu P x B S k:=by
 unfold mvu
 rw [drop_cons B k hk,take_snoc B k hk]
 have e:=sw_mid' (P++B.take k) [] (B.drop (k+1)++S) (B.getD k (0,0)) x i j (by simp;omega) (by simp;omega)
 simp only [List.append_assoc,List.cons_append,List.nil_append,List.singleton_append] at e ⊢
 exact e
theorem mvu_len (P:L) (x:Int×Int) (B S:L) (k:Nat):(mvu P x B S k).length=P.length+1+B.length+S.length:=by unfold mvu;simp;omega
theorem asc_get {l:L} (h:Asc l) {i j:Nat} (hij:i≤j) (hj:j<l.length):(l.getD i (0,0)).1≤(l.getD j (0,0)).1:=by
 rcases Nat.lt_or_ge i j with h1|h1
 ·have :=List.pairwise_iff_getElem.1 h i j (by omega) hj h1
  simpa [List.getD,hj,show i<l.length by omega] using this
 ·obtain rfl:i=j:=by omega
  exact Int.le_refl _
theorem mem_get {l:L} {x:Int×Int} (h:x∈l): ∃i,i<l.length∧l.getD i (0,0)=x:=by
 obtain ⟨i,hi,e⟩:=List.getElem_of_mem h
 exact ⟨i,hi,by simp [List.getD,hi,e]⟩
theorem get_take {l:L} {i k:Nat} (h:i<k):(l.take k).getD i (0,0)=l.getD i (0,0):=by
 simp [List.getD,List.getElem?_take,h]
theorem get_drop {l:L} {i k:Nat}:(l.drop k).getD i (0,0)=l.getD (k+i) (0,0):=by
 simp [List.getD,List.getElem?_drop]
theorem all_take {l:L} {k:Nat} {Q:Int×Int→Prop} (hk:k≤l.length) (h: ∀i,i<k→Q (l.getD i (0,0))): ∀x∈l.take k,Q x:=fun x hx=>by
 obtain ⟨i,hi,rfl⟩:=mem_get hx
 rw [List.length_take] at hi
 rw [get_take (by omega)]
 exact h i (by omega)
theorem all_drop {l:L} {k:Nat} {Q:Int×Int→Prop} (h: ∀i,k≤i→i<l.length→Q (l.getD i (0,0))): ∀x∈l.drop k,Q x:=fun x hx=>by
 obtain ⟨i,hi,rfl⟩:=mem_get hx
 rw [List.length_drop] at hi
 rw [get_drop]
 exact h _ (by omega) (by omega)
theorem get_A (P A R:L) (i k:Nat) (h:i=P.length+k) (hk:k<A.length):(P++(A++R)).getD i (0,0)=A.getD k (0,0):=by
 subst h;simp [List.getD,List.getElem?_append,hk,show ¬P.length+k<P.length by omega]
theorem get_B (P A B S:L) (i k:Nat) (h:i=P.length+A.length+k) (hk:k<B.length):(P++(A++(B++S))).getD i (0,0)=B.getD k (0,0):=by
 have :=get_A (P++A) B S i k (by simp;omega) hk
 simpa using this
theorem cut_mono {P A B S:L} {a m b mid n s0 r0:Nat} (hP:P.length=a) (hm:a+A.length=m) (hb:m+B.length=b) (hA:Asc A) (hB:Asc B) (hmid:mid=(a+b)/2) (hn:n=mid+m)
  (hs:(mid<m∧s0=n-b∧r0=mid)∨(m≤mid∧s0=a∧r0=m)) {c c':Nat} (h1:s0≤c) (h2:c≤c') (h3:c'<r0):
  ((P++(A++(B++S))).getD c (0,0)).1≤((P++(A++(B++S))).getD c' (0,0)).1∧((P++(A++(B++S))).getD (n-1-c') (0,0)).1≤((P++(A++(B++S))).getD (n-1-c) (0,0)).1:=by
 have b1:a≤c∧c'<m∧m≤n-1-c'∧n-1-c<b:=by omega
 rw [get_A P A (B++S) c (c-a) (by omega) (by omega),get_A P A (B++S) c' (c'-a) (by omega) (by omega),
  get_B P A B S (n-1-c') (n-1-c'-m) (by omega) (by omega),get_B P A B S (n-1-c) (n-1-c-m) (by omega) (by omega)]
 exact ⟨asc_get hA (by omega) (by omega),asc_get hB (by omega) (by omega)⟩
theorem cutp {P A B S:L} {a m b mid n s0 r0 s:Nat} (hP:P.length=a) (hm:a+A.length=m) (hb:m+B.length=b) (hA:Asc A) (hB:Asc B) (hmid:mid=(a+b)/2) (hn:n=mid+m)
  (hs:(mid<m∧s0=n-b∧r0=mid)∨(m≤mid∧s0=a∧r0=m)) (hs0:s0≤s) (hr0:s≤r0)
  (h1: ∀c,s0≤c→c<s→((P++(A++(B++S))).getD c (0,0)).1≤((P++(A++(B++S))).getD (n-1-c) (0,0)).1)
  (h2: ∀c,s≤c→c<r0→((P++(A++(B++S))).getD (n-1-c) (0,0)).1<((P++(A++(B++S))).getD c (0,0)).1):
  ∃A1 A2 B1 B2,A=A1++A2∧B=B1++B2∧a+A1.length=s∧m+B1.length=n-s∧s≤m∧m≤n-s∧n-s≤b∧(∀x∈A2, ∀y∈B1,y.1<x.1)∧(∀x∈A1, ∀y∈B2,x.1≤y.1):=by
 have bd:a≤s∧s≤m∧m≤n-s∧n-s≤b:=by omega
 refine ⟨A.take (s-a),A.drop (s-a),B.take (n-s-m),B.drop (n-s-m),(List.take_append_drop _ _).symm,(List.take_append_drop _ _).symm,by rw [List.length_take];omega,by rw [List.length_take];omega,by omega,by omega,by omega, ?_, ?_⟩
 ·intro x hx y hy
  obtain ⟨i,hi,rfl⟩:=mem_get hx
  obtain ⟨j,hj,rfl⟩:=mem_get hy
  rw [List.length_drop] at hi
  rw [List.length_take] at hj
  rw [get_drop,get_take (by omega)]
  have hlt:s<r0:=by omega
  have t:=h2 s (Nat.le_refl _) hlt
  rw [get_A P A (B++S) s (s-a) (by omega) (by omega),get_B P A B S (n-1-s) (n-1-s-m) (by omega) (by omega)] at t
  have u:=asc_get hA (i:=s-a) (j:=s-a+i) (by omega) (by omega)
  have v:=asc_get hB (i:=j) (j:=n-1-s-m) (by omega) (by omega)
  omega
 ·intro x hx y hy
  obtain ⟨i,hi,rfl⟩:=mem_get hx
  obtain ⟨j,hj,rfl⟩:=mem_get hy
  rw [List.length_take] at hi
  rw [List.length_drop] at hj
  rw [get_drop,get_take (by omega)]
  have hlt:s0<s:=by omega
  have t:=h1 (s-1) (by omega) (by omega)
  rw [get_A P A (B++S) (s-1) (s-1-a) (by omega) (by omega),get_B P A B S (n-1-(s-1)) (n-s-m) (by omega) (by omega)] at t
  have u:=asc_get hA (i:=i) (j:=s-1-a) (by omega) (by omega)
  have v:=asc_get hB (i:=n-s-m) (j:=n-s-m+j) (by omega) (by omega)
  omega
def Blk (n:Nat) (bl:List L):Prop:= ∀A∈bl,A.length=n∧Asc A
theorem flat_len {n:Nat}: ∀{bl:List L},Blk n bl→bl.flatten.length=bl.length*n
 |[],_=>by simp
 |A::t,h=>by
  rw [List.flatten_cons,List.length_append,flat_len (bl:=t) (fun B hB=>h B (by simp [hB])),(h A (by simp)).1,List.length_cons,Nat.succ_mul];omega
def Runs (n:Nat) (l:L):Prop:= ∃bl S,l=bl.flatten++S∧Blk n bl∧S.length<n∧Asc S
theorem Runs.whole {n:Nat} {l l0:L} (h:Runs n l) (hn:l.length≤n) (hs:Sb l l0):l=srt l0:=by
 obtain ⟨bl,S,rfl,hb,hS,hA⟩:=h
 refine srt_of ?_ hs
 have :=flat_len hb
 rw [List.length_append] at hn
 rcases bl with _|⟨A,_|⟨B,t⟩⟩
 ·simpa using hA
 ·have h1:=hb A (by simp)
  simp at this hn
  have h0:S=[]:=List.eq_nil_of_length_eq_zero (by omega)
  subst h0
  simpa using h1.2
 ·exfalso
  simp only [List.length_cons,Nat.add_mul,Nat.one_mul] at this
  omega
end Zs
end Go.Proofs.YtfamcohbnoibaaaGreatDoor
namespace Go.Proofs.YtfamcohbnoibaaaGreatDoor
namespace Zn
abbrev L:=List (Int×Int)
structure Rule where
 fr:Int
 to:Int
 mo:Int
 wk:Int
 wd:Int
 sec:Int
 off:Int
instance:Inhabited Rule:=⟨⟨0,0,0,0,0,0,0⟩⟩
def okD (x:Int):Bool:=decide (0≤x∧x<86400)
def okO (x:Int):Bool:=decide (-64800≤x∧x≤64800)
def okR (r:Rule):Bool:=decide (1970≤r.fr∧r.fr≤2240∧r.fr≤r.to∧r.to≤2240∧1≤r.mo∧r.mo≤12∧1≤r.wk∧r.wk≤5∧0≤r.wd∧r.wd≤6∧0≤r.sec∧r.sec<86400∧ -64800≤r.off∧r.off≤64800)
def nth (r:Rule) (y:Int):Int:=Civ.nthD (Civ.num y r.mo 1) (Civ.dim y r.mo) r.wk r.wd
def occ (r:Rule) (y:Int):Nat→L
 |0=>[]
 |k+1=>(nth r y*86400+r.sec,r.off)::occ r (y+1) k
def yrs (r:Rule):Nat:=(r.to-r.fr+1).toNat
def occR (r:Rule):L:=occ r r.fr (yrs r)
def flat (rs:List Rule):L:=rs.flatMap occR
def cnt (rs:List Rule):Int:=(rs.map fun r=>r.to-r.fr+1).sum
def fol:Int→Int→L→Option L
 |_,_,[]=>some []
 |now,ear,(loc,o)::t=>if o=now then fol now ear t else
  if o-now≤ -86400∨86400≤o-now∨loc-now<ear∨8589934592<loc-now then none
  else (fol o (loc-now+604800) t).map ((loc-now,o):: ·)
def trans (off:Int) (rs:List Rule):L×Int:=
 if okO off=false then ([],1) else if 16<rs.length then ([],5) else if (rs.all okR)=false then ([],1) else if 640<cnt rs then ([],5) else
  match fol off 0 (Zs.srt (flat rs)) with
  |none=>([],6)
  |some l=>(l,0)
def offAt:Int→L→Int→Int
 |off,[],_=>off
 |off,(a,o)::t,x=>if a≤x then offAt o t x else off
abbrev S:=List (Int×Int×Int)
def strs:Int→Int→L→S
 |f,o,[]=>[(f,8589934592,o)]
 |f,o,(a,o')::t=>(f,a-1,o)::strs a o' t
def clamp (d:Int):Int:=min (max d (-2)) 99422
def locS (d s:Int):Int:=clamp d*86400+s
def frm (v:Int):S→List Int
 |[]=>[]
 |(f,l,o)::t=>if f≤v-o∧v-o≤l then (v-o)::frm v t else frm v t
def fst (v:Int):S→Option Int
 |[]=>none
 |(f,l,o)::t=>if max (v-o) f≤l then some (max (v-o) f) else fst v t
def toL (n:Int):Int×Int:=(n/86400,n%86400)
theorem okR_iff {r:Rule}:okR r=true↔1970≤r.fr∧r.fr≤2240∧r.fr≤r.to∧r.to≤2240∧1≤r.mo∧r.mo≤12∧1≤r.wk∧r.wk≤5∧0≤r.wd∧r.wd≤6∧0≤r.sec∧r.sec<86400∧ -64800≤r.off∧r.off≤64800:=by unfold okR;simp
theorem okO_iff {x:Int}:okO x=true↔ -64800≤x∧x≤64800:=by unfold okO;simp
theorem okD_iff {x:Int}:okD x=true↔0≤x∧x<86400:=by unfold okD;simp
theorem vld_first {y m:Int} (h1:1970≤y) (h2:y≤2240) (h3:1≤m) (h4:m≤12):Civ.vld y m 1:=⟨h1,h2,h3,h4,by omega,by have :=Civ.dim_lo (y:=y) h3 h4;omega⟩
theorem nth_bd {r:Rule} {y:Int} (h:okR r=true) (h1:r.fr≤y) (h2:y≤r.to):0≤nth r y∧nth r y<98981:=by
 rw [okR_iff] at h
 have hv:=vld_first (y:=y) (m:=r.mo) (by omega) (by omega) (by omega) (by omega)
 have hb:=Civ.num_bd hv
 have hlo:=Civ.dim_lo (y:=y) (m:=r.mo) (by omega) (by omega)
 have hl:Civ.num y r.mo (Civ.dim y r.mo)<98981∧0≤Civ.num y r.mo 1:=⟨(Civ.num_bd (show Civ.vld y r.mo (Civ.dim y r.mo) from ⟨by omega,by omega,by omega,by omega,by omega,by omega⟩)).2.2.2.2.2,hb.2.2.2.2.1⟩
 unfold Civ.num at hl
 have wb:=Civ.wd_bd (Civ.num y r.mo 1)
 have e:Civ.num y r.mo 1=Civ.ny y+Civ.cum y r.mo+1-1:=rfl
 unfold nth Civ.nthD
 rw [e] at wb ⊢
 split<;>omega
theorem occ_snoc (r:Rule): ∀(k:Nat) (y:Int),occ r y (k+1)=occ r y k++[(nth r (y+k)*86400+r.sec,r.off)]
 |0,y=>by simp [occ]
 |k+1,y=>by
  rw [occ,occ_snoc r k (y+1)]
  conv=>rhs;rw [occ]
  rw [show y+1+(k:Int)=y+((k+1:Nat):Int) by omega]
  rfl
theorem occ_len (r:Rule): ∀(k:Nat) (y:Int),(occ r y k).length=k
 |0,_=>rfl
 |k+1,y=>by rw [occ,List.length_cons,occ_len]
theorem occR_len {r:Rule} (h:okR r=true):((occR r).length:Int)=r.to-r.fr+1:=by
 rw [okR_iff] at h
 unfold occR yrs;rw [occ_len];omega
theorem flat_len: ∀{rs:List Rule},rs.all okR=true→((flat rs).length:Int)=cnt rs
 |[],_=>rfl
 |r::t,h=>by
  simp only [List.all_cons,Bool.and_eq_true] at h
  have :=flat_len h.2
  unfold flat cnt at *
  rw [List.flatMap_cons,List.length_append,List.map_cons,List.sum_cons]
  have :=occR_len h.1
  omega
theorem flat_snoc (rs:List Rule) (r:Rule):flat (rs++[r])=flat rs++occR r:=by unfold flat;simp
theorem cnt_snoc (rs:List Rule) (r:Rule):cnt (rs++[r])=cnt rs+(r.to-r.fr+1):=by unfold cnt;simp
theorem cnt_bd: ∀{rs:List Rule},rs.all okR=true→0≤cnt rs∧cnt rs≤271*rs.length
 |[],_=>by simp [cnt]
 |r::t,h=>by
  simp only [List.all_cons,Bool.and_eq_true] at h
  have :=cnt_bd h.2
  have h1:=okR_iff.1 h.1
  unfold cnt at *
  rw [List.map_cons,List.sum_cons,List.length_cons]
  omega
theorem fol_skip {now ear loc o:Int} {t:L} (h:o=now):fol now ear ((loc,o)::t)=fol now ear t:=by rw [fol,if_pos h]
theorem fol_bad {now ear loc o:Int} {t:L} (h:o≠now) (h2:o-now≤ -86400∨86400≤o-now∨loc-now<ear∨8589934592<loc-now):fol now ear ((loc,o)::t)=none:=by rw [fol,if_neg h,if_pos h2]
theorem fol_add {now ear loc o:Int} {t:L} (h:o≠now) (h2:¬(o-now≤ -86400∨86400≤o-now∨loc-now<ear∨8589934592<loc-now)):fol now ear ((loc,o)::t)=(fol o (loc-now+604800) t).map ((loc-now,o):: ·):=by rw [fol,if_neg h,if_neg h2]
def At (l:L) (f:Option L) (k:Nat) (now ear:Int) (out:L):Prop:=f=(fol now ear (l.drop k)).map (out++ ·)
theorem At.start (l:L) (off:Int):At l (fol off 0 l) 0 off 0 []:=by
 unfold At;rw [List.drop_zero];generalize fol off 0 l=f;cases f<;>simp
theorem At.skip {l:L} {f:Option L} {k:Nat} {now ear loc:Int} {out:L} (h:At l f k now ear out) (hk:k<l.length) (e:l.getD k (0,0)=(loc,now)):At l f (k+1) now ear out:=by
 unfold At at *
 rw [h,Zs.drop_cons l k hk,e,fol_skip rfl]
theorem At.bad {l:L} {f:Option L} {k:Nat} {now ear loc o:Int} {out:L} (h:At l f k now ear out) (hk:k<l.length) (e:l.getD k (0,0)=(loc,o)) (h1:o≠now)
  (h2:o-now≤ -86400∨86400≤o-now∨loc-now<ear∨8589934592<loc-now):f=none:=by
 unfold At at *
 rw [h,Zs.drop_cons l k hk,e,fol_bad h1 h2];rfl
theorem At.add {l:L} {f:Option L} {k:Nat} {now ear loc o:Int} {out:L} (h:At l f k now ear out) (hk:k<l.length) (e:l.getD k (0,0)=(loc,o)) (h1:o≠now)
  (h2:¬(o-now≤ -86400∨86400≤o-now∨loc-now<ear∨8589934592<loc-now)):At l f (k+1) o (loc-now+604800) (out++[(loc-now,o)]):=by
 unfold At at *
 rw [h,Zs.drop_cons l k hk,e,fol_add h1 h2]
 cases fol o (loc-now+604800) (l.drop (k+1))<;>simp
theorem At.done {l:L} {f:Option L} {now ear:Int} {out:L} (h:At l f l.length now ear out):f=some out:=by
 unfold At at h
 rw [h,List.drop_of_length_le (Nat.le_refl _)];simp [fol]
def VT:Int→Int→L→Prop
 |_,_,[]=>True
 |now,ear,(a,o)::t=>o≠now∧ -86400<o-now∧o-now<86400∧ear≤a∧a≤8589934592∧VT o (a+604800) t
theorem fol_vt: ∀{l:L} {now ear:Int} {ts:L},fol now ear l=some ts→VT now ear ts
 |[],_,_,ts,h=>by simp [fol] at h;subst h;trivial
 |(loc,o)::t,now,ear,ts,h=>by
  by_cases h1:o=now
  ·rw [fol_skip h1] at h;exact fol_vt h
  ·by_cases h2:o-now≤ -86400∨86400≤o-now∨loc-now<ear∨8589934592<loc-now
   ·rw [fol_bad h1 h2] at h;cases h
   ·rw [fol_add h1 h2] at h
    cases h3:fol o (loc-now+604800) t with
    |none=>rw [h3] at h;cases h
    |some u=>
     rw [h3] at h
     simp at h
     subst h
     exact ⟨h1,by omega,by omega,by omega,by omega,fol_vt h3⟩
theorem fol_len: ∀{l:L} {now ear:Int} {ts:L},fol now ear l=some ts→ts.length≤l.length
 |[],_,_,ts,h=>by simp [fol] at h;subst h;simp
 |(loc,o)::t,now,ear,ts,h=>by
  by_cases h1:o=now
  ·rw [fol_skip h1] at h;have :=fol_len h;simp;omega
  ·by_cases h2:o-now≤ -86400∨86400≤o-now∨loc-now<ear∨8589934592<loc-now
   ·rw [fol_bad h1 h2] at h;cases h
   ·rw [fol_add h1 h2] at h
    cases h3:fol o (loc-now+604800) t with
    |none=>rw [h3] at h;cases h
    |some u=>rw [h3] at h;simp at h;subst h;have :=fol_len h3;simp;omega
theorem fol_off: ∀{l:L} {now ear:Int} {ts:L},fol now ear l=some ts→ ∀x∈ts, ∃z∈l,z.2=x.2
 |[],_,_,ts,h=>by simp [fol] at h;subst h;intro x hx;cases hx
 |(loc,o)::t,now,ear,ts,h=>by
  intro x hx
  by_cases h1:o=now
  ·rw [fol_skip h1] at h
   obtain ⟨z,hz,e⟩:=fol_off h x hx
   exact ⟨z,by simp [hz],e⟩
  ·by_cases h2:o-now≤ -86400∨86400≤o-now∨loc-now<ear∨8589934592<loc-now
   ·rw [fol_bad h1 h2] at h;cases h
   ·rw [fol_add h1 h2] at h
    cases h3:fol o (loc-now+604800) t with
    |none=>rw [h3] at h;cases h
    |some u=>
     rw [h3] at h
     simp at h
     subst h
     rcases List.mem_cons.1 hx with rfl|hx
     ·exact ⟨(loc,o),by simp,rfl⟩
     ·obtain ⟨z,hz,e⟩:=fol_off h3 x hx
      exact ⟨z,by simp [hz],e⟩
theorem occ_off (r:Rule): ∀(k:Nat) (y:Int), ∀x∈occ r y k,x.2=r.off
 |0,_,x,h=>by cases h
 |k+1,y,x,h=>by
  rw [occ] at h
  rcases List.mem_cons.1 h with rfl|h
  ·rfl
  ·exact occ_off r k _ x h
theorem trans_ok {off:Int} {rs:List Rule} {ts:L} (h:trans off rs=(ts,0)):okO off=true∧rs.all okR=true∧rs.length≤16∧cnt rs≤640∧fol off 0 (Zs.srt (flat rs))=some ts∧VT off 0 ts∧ts.length≤640∧(∀x∈ts,okO x.2=true):=by
 unfold trans at h
 by_cases h1:okO off=false
 ·rw [if_pos h1] at h;cases h
 rw [if_neg h1] at h
 by_cases h2:16<rs.length
 ·rw [if_pos h2] at h;cases h
 rw [if_neg h2] at h
 by_cases h3:(rs.all okR)=false
 ·rw [if_pos h3] at h;cases h
 rw [if_neg h3] at h
 by_cases h4:640<cnt rs
 ·rw [if_pos h4] at h;cases h
 rw [if_neg h4] at h
 cases h5:fol off 0 (Zs.srt (flat rs)) with
 |none=>rw [h5] at h;cases h
 |some u=>
  rw [h5] at h
  simp only [Prod.mk.injEq,and_true] at h
  subst h
  have h3':rs.all okR=true:=by simpa using h3
  have hl:=fol_len h5
  rw [Zs.srt_len] at hl
  have hc:=flat_len h3'
  refine ⟨by simpa using h1,h3',by omega,by omega,rfl,fol_vt h5,by omega,fun x hx=> ?_⟩
  obtain ⟨z,hz,e⟩:=fol_off h5 x hx
  rw [Zs.srt_mem] at hz
  obtain ⟨r,hr,hz⟩:=List.mem_flatMap.1 hz
  rw [←e,occ_off r _ _ z hz,okO_iff]
  have :=okR_iff.1 (List.all_eq_true.1 h3' r hr)
  omega
theorem offAt_of: ∀{ts:L} {off x:Int} {k:Nat},k≤ts.length→(∀j,j<k→(ts.getD j (0,0)).1≤x)→(k<ts.length→x<(ts.getD k (0,0)).1)→offAt off ts x=if k=0 then off else (ts.getD (k-1) (0,0)).2
 |[],off,x,k,h,_,_=>by simp at h;subst h;rfl
 |(a,o)::t,off,x,0,_,_,h2=>by
  have :=h2 (by simp)
  simp at this
  rw [offAt,if_neg (by omega)];rfl
 |(a,o)::t,off,x,k+1,h,h1,h2=>by
  have :=h1 0 (by omega)
  simp at this
  rw [offAt,if_pos this,offAt_of (k:=k) (by simpa using h) (fun j hj=>by have :=h1 (j+1) (by omega);simpa [List.getD] using this) (fun hk=>by have :=h2 (by simpa using hk);simpa [List.getD] using this)]
  rcases k with _|k
  ·rfl
  ·simp [List.getD]
theorem vt_asc: ∀{ts:L} {now ear:Int},VT now ear ts→ ∀i j,i<j→j<ts.length→(ts.getD i (0,0)).1+604800≤(ts.getD j (0,0)).1
 |[],_,_,_,i,j,_,h=>by simp at h
 |(a,o)::t,now,ear,h,i,0,hij,_=>by omega
 |(a,o)::t,now,ear,h,0,j+1,hij,hj=>by
  have hge: ∀{ts:L} {now ear:Int},VT now ear ts→ ∀j,j<ts.length→ear≤(ts.getD j (0,0)).1:=by
   intro ts
   induction ts with
   |nil=>intro _ _ _ j h;simp at h
   |cons x t ih=>
    intro now ear h j hj
    obtain ⟨a,o⟩:=x
    rcases j with _|j
    ·simpa using h.2.2.2.1
    ·have :=ih h.2.2.2.2.2 j (by simpa using hj)
     have h4:=h.2.2.2.1
     have e:(((a,o)::t).getD (j+1) (0,0))=t.getD j (0,0):=by simp [List.getD]
     rw [e];omega
  have :=hge h.2.2.2.2.2 j (by simpa using hj)
  have e:(((a,o)::t).getD (j+1) (0,0))=t.getD j (0,0):=by simp [List.getD]
  rw [e]
  simpa using this
 |(a,o)::t,now,ear,h,i+1,j+1,hij,hj=>by
  have :=vt_asc h.2.2.2.2.2 i j (by omega) (by simpa using hj)
  have e1:(((a,o)::t).getD (i+1) (0,0))=t.getD i (0,0):=by simp [List.getD]
  have e2:(((a,o)::t).getD (j+1) (0,0))=t.getD j (0,0):=by simp [List.getD]
  rw [e1,e2];exact this
theorem vt_bd: ∀{ts:L} {now ear:Int},0≤ear→VT now ear ts→ ∀x∈ts,ear≤x.1∧x.1≤8589934592
 |[],_,_,_,_,x,hx=>by cases hx
 |(a,o)::t,now,ear,he,h,x,hx=>by
  obtain ⟨h1,h2,h3,h4,h5,h6⟩:=h
  rcases List.mem_cons.1 hx with rfl|hx
  ·exact ⟨h4,h5⟩
  ·have :=vt_bd (by omega) h6 x hx;omega
theorem strs_len: ∀(ts:L) (f o:Int),(strs f o ts).length=ts.length+1
 |[],_,_=>rfl
 |(a,o')::t,f,o=>by rw [strs,List.length_cons,strs_len,List.length_cons]
def strK (off:Int) (ts:L) (k:Nat):S:=strs (if k=0 then 0 else (ts.getD (k-1) (0,0)).1) (if k=0 then off else (ts.getD (k-1) (0,0)).2) (ts.drop k)
theorem strK_step (off:Int) (ts:L) (k:Nat) (h:k<ts.length):strK off ts k=((if k=0 then 0 else (ts.getD (k-1) (0,0)).1),(ts.getD k (0,0)).1-1,(if k=0 then off else (ts.getD (k-1) (0,0)).2))::strK off ts (k+1):=by
 unfold strK
 rw [Zs.drop_cons ts k h]
 obtain ⟨⟨a,o⟩,e⟩: ∃x,ts.getD k (0,0)=x:=⟨_,rfl⟩
 rw [show k+1-1=k from rfl,e,strs]
 simp
theorem strK_last (off:Int) (ts:L):strK off ts ts.length=[((if ts.length=0 then 0 else (ts.getD (ts.length-1) (0,0)).1),8589934592,(if ts.length=0 then off else (ts.getD (ts.length-1) (0,0)).2))]:=by
 unfold strK;rw [List.drop_of_length_le (Nat.le_refl _),strs]
theorem clamp_bd (d:Int): -2≤clamp d∧clamp d≤99422:=by unfold clamp;omega
theorem locS_bd {d s:Int} (h:okD s=true): -172800≤locS d s∧locS d s<8590147200:=by
 rw [okD_iff] at h
 have :=clamp_bd d
 unfold locS;omega
theorem strs_bd: ∀{ts:L} {f o ear:Int},0≤f→f≤8589934592→okO o=true→VT o ear ts→0≤ear→(∀x∈ts,okO x.2=true)→ ∀s∈strs f o ts,0≤s.1∧s.1≤8589934592∧ -1≤s.2.1∧s.2.1≤8589934592∧ -64800≤s.2.2∧s.2.2≤64800
 |[],f,o,ear,h1,h2,h3,_,_,_,s,hs=>by
  simp [strs] at hs;subst hs;rw [okO_iff] at h3;simp only;omega
 |(a,o')::t,f,o,ear,h1,h2,h3,h4,h5,h6,s,hs=>by
  rw [strs] at hs
  obtain ⟨g1,g2,g3,g4,g5,g6⟩:=h4
  rcases List.mem_cons.1 hs with rfl|hs
  ·rw [okO_iff] at h3;simp only;omega
  ·exact strs_bd (ear:=a+604800) (by omega) g5 (h6 (a,o') (by simp)) g6 (by omega) (fun x hx=>h6 x (by simp [hx])) s hs
end Zn
end Go.Proofs.YtfamcohbnoibaaaGreatDoor
namespace Go.Proofs.YtfamcohbnoibaaaGreatDoor
namespace Zn
def cl (off:Int) (ts:L) (x:Int):Int:=x+offAt off ts x
theorem offAt_before: ∀{ts:L} {now ear x:Int},VT now ear ts→x<ear→offAt now ts x=now
 |[],_,_,_,_,_=>rfl
 |(a,o)::t,now,ear,x,h,hx=>by rw [offAt,if_neg (by have :=h.2.2.2.1;omega)]
theorem offAt_ok: ∀{ts:L} {off:Int} (x:Int),okO off=true→(∀y∈ts,okO y.2=true)→ -64800≤offAt off ts x∧offAt off ts x≤64800
 |[],off,x,h,_=>okO_iff.1 h
 |(a,o)::t,off,x,h,h2=>by
  rw [offAt]
  split
  ·exact offAt_ok x (h2 (a,o) (by simp)) fun y hy=>h2 y (by simp [hy])
  ·exact okO_iff.1 h
theorem one_change: ∀{ts:L} {now ear:Int},VT now ear ts→ ∀x y,x≤y→y<x+604800→
  (∀z,x≤z→z≤y→offAt now ts z=offAt now ts x)∨
  ∃c,x<c∧c≤y∧(∀z,x≤z→z<c→offAt now ts z=offAt now ts x)∧(∀z,c≤z→z≤y→offAt now ts z=offAt now ts y)∧ -86400<offAt now ts y-offAt now ts x∧offAt now ts y-offAt now ts x<86400
 |[],_,_,_,x,y,_,_=> .inl fun _ _ _=>rfl
 |(a,o)::t,now,ear,h,x,y,hxy,hy=>by
  obtain ⟨h1,h2,h3,h4,h5,h6⟩:=h
  by_cases hya:y<a
  ·refine .inl fun z hz hz2=> ?_
   rw [offAt,if_neg (by omega),offAt,if_neg (by omega)]
  ·by_cases hxa:x<a
   ·refine .inr ⟨a,hxa,by omega,fun z hz hz2=> ?_,fun z hz hz2=> ?_, ?_⟩
    ·rw [offAt,if_neg (by omega),offAt,if_neg (by omega)]
    ·rw [offAt,if_pos hz,offAt,if_pos (by omega),offAt_before h6 (by omega),offAt_before h6 (by omega)]
    ·rw [offAt,if_pos (by omega),offAt,if_neg (by omega),offAt_before h6 (by omega)]
     exact ⟨h2,h3⟩
   ·have e: ∀z,x≤z→offAt now ((a,o)::t) z=offAt o t z:=fun z hz=>by rw [offAt,if_pos (by omega)]
    rcases one_change h6 x y hxy hy with h|⟨c,c1,c2,c3,c4,c5⟩
    ·exact .inl fun z hz hz2=>by rw [e z hz,e x (Int.le_refl _)];exact h z hz hz2
    ·refine .inr ⟨c,c1,c2,fun z hz hz2=> ?_,fun z hz hz2=> ?_, ?_⟩
     ·rw [e z hz,e x (Int.le_refl _)];exact c3 z hz hz2
     ·rw [e z (by omega),e y hxy];exact c4 z hz hz2
     ·rw [e y hxy,e x (Int.le_refl _)];exact c5
theorem frm_mem: ∀{ts:L} {f o ear v:Int},VT o ear ts→f≤8589934592→f≤ear→ ∀t,t∈frm v (strs f o ts)↔f≤t∧t≤8589934592∧cl o ts t=v
 |[],f,o,ear,v,_,hf,_,t=>by
  unfold cl
  rw [strs,frm,frm,offAt]
  split
  ·simp only [List.mem_singleton];omega
  ·simp only [List.not_mem_nil,false_iff];omega
 |(a,o')::r,f,o,ear,v,h,hf,he,t=>by
  obtain ⟨h1,h2,h3,h4,h5,h6⟩:=h
  have ih:=frm_mem (f:=a) (v:=v) h6 h5 (by omega) t
  unfold cl at ih ⊢
  rw [strs,frm,offAt]
  split
  ·rw [List.mem_cons,ih]
   by_cases ha:a≤t
   ·rw [if_pos ha];omega
   ·rw [if_neg ha];omega
  ·rw [ih]
   by_cases ha:a≤t
   ·rw [if_pos ha];omega
   ·rw [if_neg ha];omega
theorem frm_asc: ∀{ts:L} {f o ear v:Int},VT o ear ts→f≤8589934592→f≤ear→(frm v (strs f o ts)).Pairwise (· < ·)
 |[],f,o,ear,v,_,hf,_=>by
  rw [strs,frm,frm]
  split<;>simp
 |(a,o')::r,f,o,ear,v,h,hf,he=>by
  obtain ⟨h1,h2,h3,h4,h5,h6⟩:=h
  have ih:=frm_asc (f:=a) (v:=v) h6 h5 (by omega)
  rw [strs,frm]
  split
  ·refine List.pairwise_cons.2 ⟨fun t ht=> ?_,ih⟩
   have :=(frm_mem (f:=a) (v:=v) h6 h5 (by omega) t).1 ht
   omega
  ·exact ih
theorem fst_spec: ∀{ts:L} {f o ear v:Int},VT o ear ts→f≤8589934592→f≤ear→
  (∃x,fst v (strs f o ts)=some x∧f≤x∧x≤8589934592∧v≤cl o ts x∧ ∀y,f≤y→y<x→cl o ts y<v)∨(fst v (strs f o ts)=none∧ ∀y,f≤y→y≤8589934592→cl o ts y<v)
 |[],f,o,ear,v,_,hf,_=>by
  unfold cl
  rw [strs,fst,fst]
  split
  ·refine .inl ⟨_,rfl,by omega,by omega, ?_,fun y h1 h2=> ?_⟩
   ·rw [offAt];omega
   ·rw [offAt];omega
  ·exact .inr ⟨rfl,fun y h1 h2=>by rw [offAt];omega⟩
 |(a,o')::r,f,o,ear,v,h,hf,he=>by
  obtain ⟨h1,h2,h3,h4,h5,h6⟩:=h
  have ih:=fst_spec (f:=a) (v:=v) h6 h5 (by omega)
  unfold cl at ih ⊢
  rw [strs,fst]
  split
  ·refine .inl ⟨_,rfl,by omega,by omega, ?_,fun y hy1 hy2=> ?_⟩
   ·rw [offAt,if_neg (by omega)];omega
   ·rw [offAt,if_neg (by omega)];omega
  ·have low: ∀y,f≤y→y<a→y+offAt o ((a,o')::r) y<v:=fun y hy1 hy2=>by
    rw [offAt,if_neg (by omega)];omega
   rcases ih with ⟨x,x1,x2,x3,x4,x5⟩|⟨x1,x2⟩
   ·refine .inl ⟨x,x1,by omega,x3, ?_,fun y hy1 hy2=> ?_⟩
    ·rw [offAt,if_pos x2];exact x4
    ·by_cases hya:y<a
     ·exact low y hy1 hya
     ·rw [offAt,if_pos (by omega)];exact x5 y (by omega) hy2
   ·refine .inr ⟨x1,fun y hy1 hy2=> ?_⟩
    by_cases hya:y<a
    ·exact low y hy1 hya
    ·rw [offAt,if_pos (by omega)];exact x2 y (by omega) hy2
structure Vz (off:Int) (ts:L):Prop where
 vt:VT off 0 ts
 ok:okO off=true
 oks: ∀x∈ts,okO x.2=true
theorem trans_vz {off:Int} {rs:List Rule} {ts:L} (h:trans off rs=(ts,0)):Vz off ts:=by
 obtain ⟨a,_,_,_,_,b,_,c⟩:=trans_ok h
 exact ⟨b,a,c⟩
section
variable {off:Int} {ts:L}
theorem Vz.bd (h:Vz off ts) (x:Int): -64800≤offAt off ts x∧offAt off ts x≤64800:=offAt_ok x h.ok h.oks
theorem Vz.mem (h:Vz off ts) {v:Int} (t:Int):t∈frm v (strs 0 off ts)↔0≤t∧t≤8589934592∧cl off ts t=v:=frm_mem h.vt (by omega) (Int.le_refl _) t
theorem Vz.two (h:Vz off ts) {x y z v:Int} (hx:cl off ts x=v) (hy:cl off ts y=v) (hz:cl off ts z=v) (h1:x<y) (h2:y<z):False:=by
 have bx:=h.bd x
 have bz:=h.bd z
 unfold cl at hx hy hz
 rcases one_change h.vt x z (by omega) (by omega) with g|⟨c,c1,c2,c3,c4,c5,c6⟩
 ·have :=g z (by omega) (by omega);omega
 ·by_cases hyc:y<c
  ·have :=c3 y (by omega) hyc;omega
  ·have :=c4 y (by omega) (by omega);omega
theorem Vz.len (h:Vz off ts) (v:Int):(frm v (strs 0 off ts)).length≤2:=by
 have ha:=frm_asc (v:=v) h.vt (show (0:Int)≤8589934592 by omega) (Int.le_refl 0)
 have hm:=fun t=>(h.mem (v:=v) t).1
 generalize frm v (strs 0 off ts)=l at ha hm
 match l,ha,hm with
 |[],_,_=>simp
 |[_],_,_=>simp
 |[_,_],_,_=>simp
 |x::y::z::r,ha,hm=>
  simp only [List.pairwise_cons] at ha
  exact (h.two (hm x (by simp)).2.2 (hm y (by simp)).2.2 (hm z (by simp)).2.2 (ha.1 y (by simp)) (ha.2.1 z (by simp))).elim
theorem Vz.fst_le (h:Vz off ts) {v x:Int} (hx:0≤x) (hx2:x≤8589934592) (hc:v≤cl off ts x): ∃y,fst v (strs 0 off ts)=some y∧0≤y∧y≤x∧v≤cl off ts y∧ ∀z,0≤z→z<y→cl off ts z<v:=by
 rcases fst_spec (v:=v) h.vt (show (0:Int)≤8589934592 by omega) (Int.le_refl 0) with ⟨y,y1,y2,y3,y4,y5⟩|⟨_,y2⟩
 ·refine ⟨y,y1,y2, ?_,y4,y5⟩
  rcases Int.lt_or_le x y with hlt|hle
  ·have :=y5 x hx hlt;omega
  ·exact hle
 ·have :=y2 x hx hx2;omega
theorem Vz.fst_head (h:Vz off ts) {v x:Int} {r:List Int} (hv:64800<v) (e:frm v (strs 0 off ts)=x::r):fst v (strs 0 off ts)=some x:=by
 obtain ⟨x1,x2,x3⟩:=(h.mem (v:=v) x).1 (by rw [e];simp)
 obtain ⟨y,y1,y2,y3,y4,y5⟩:=h.fst_le (v:=v) x1 x2 (by omega)
 rcases Int.lt_or_le y x with hlt|hle
 ·exfalso
  have hne:cl off ts y≠v:=fun ey=>by
   have hm:y∈frm v (strs 0 off ts):=(h.mem y).2 ⟨y2,by omega,ey⟩
   have ha:=frm_asc (v:=v) h.vt (show (0:Int)≤8589934592 by omega) (Int.le_refl 0)
   rw [e] at hm ha
   rcases List.mem_cons.1 hm with rfl|hm
   ·omega
   ·have :=(List.pairwise_cons.1 ha).1 y hm;omega
  have by_:=h.bd y
  have bx:=h.bd x
  have b1:=h.bd (y-1)
  by_cases hy0:y=0
  ·subst hy0;unfold cl at *;omega
  ·have hp:=y5 (y-1) (by omega) (by omega)
   unfold cl at *
   rcases one_change h.vt (y-1) x (by omega) (by omega) with g|⟨c,c1,c2,c3,c4,c5,c6⟩
   ·have :=g y (by omega) (by omega);omega
   ·by_cases hc:y<c
    ·have :=c3 y (by omega) hc;omega
    ·have :=c4 y (by omega) (by omega);omega
 ·rw [y1];congr 1;omega
theorem Vz.asc (h:Vz off ts) {v:Int} (hv:64800+86400<v) (hv2:v<8000000000): ∃x y,fst v (strs 0 off ts)=some x∧fst (v+86400) (strs 0 off ts)=some y∧0≤x∧x≤8589934592∧0≤y∧y≤8589934592∧v≤cl off ts x∧v+86400≤cl off ts y∧x<y∧y<x+172800:=by
 have bt:=h.bd (v+64800+86400)
 have bt0:=h.bd (v+64800)
 obtain ⟨x,x1,x2,x3,x4,x5⟩:=h.fst_le (v:=v) (x:=v+64800) (by omega) (by omega) (by unfold cl;omega)
 obtain ⟨y,y1,y2,y3,y4,y5⟩:=h.fst_le (v:=v+86400) (x:=v+64800+86400) (by omega) (by omega) (by unfold cl;omega)
 have bx:=h.bd x
 have by_:=h.bd y
 have hlt:x<y:=by
  rcases Int.lt_or_le x y with hlt|hle
  ·exact hlt
  ·exfalso
   rcases Int.lt_or_le y x with h1|h1
   ·have :=x5 y y2 h1;omega
   ·obtain rfl:x=y:=by omega
    by_cases hx0:x=0
    ·subst hx0;unfold cl at *;omega
    ·have :=x5 (x-1) (by omega) (by omega)
     unfold cl at *
     rcases one_change h.vt (x-1) x (by omega) (by omega) with g|⟨c,c1,c2,c3,c4,c5,c6⟩
     ·have :=g x (by omega) (by omega);omega
     ·omega
 refine ⟨x,y,x1,y1,x2,by omega,y2,by omega,x4,y4,hlt, ?_⟩
 rcases Int.lt_or_le y (x+172800) with g|g
 ·exact g
 ·exfalso
  have hb:=h.bd (x+172799)
  have :=y5 (x+172799) (by omega) (by omega)
  unfold cl at *
  rcases one_change h.vt x (x+172799) (by omega) (by omega) with g|⟨c,c1,c2,c3,c4,c5,c6⟩
  ·have :=g (x+172799) (by omega) (by omega);omega
  ·omega
theorem Vz.near (h:Vz off ts) {a b at_:Int} (ha:offAt off ts (at_-1)=a) (hb:offAt off ts at_=b) (hne:a≠b):(∀y,at_-604800<y→y<at_→offAt off ts y=a)∧(∀y,at_≤y→y<at_+604799→offAt off ts y=b)∧ -86400<b-a∧b-a<86400:=by
 refine ⟨fun y h1 h2=> ?_,fun y h1 h2=> ?_, ?_⟩
 ·rcases one_change h.vt y at_ (by omega) (by omega) with g|⟨c,c1,c2,c3,c4,c5,c6⟩
  ·have :=g at_ (by omega) (by omega);have :=g (at_-1) (by omega) (by omega);omega
  ·by_cases hc:at_-1<c
   ·have :=c3 (at_-1) (by omega) hc;omega
   ·have :=c4 (at_-1) (by omega) (by omega);omega
 ·rcases one_change h.vt (at_-1) y (by omega) (by omega) with g|⟨c,c1,c2,c3,c4,c5,c6⟩
  ·have :=g at_ (by omega) (by omega);omega
  ·by_cases hc:at_<c
   ·have :=c3 at_ (by omega) hc;omega
   ·have :=c4 at_ (by omega) (by omega);omega
 ·rcases one_change h.vt (at_-1) at_ (by omega) (by omega) with g|⟨c,c1,c2,c3,c4,c5,c6⟩
  ·have :=g at_ (by omega) (by omega);omega
  ·rw [ha,hb] at c5 c6;exact ⟨c5,c6⟩
end
end Zn
end Go.Proofs.YtfamcohbnoibaaaGreatDoor
namespace Go.Proofs.YtfamcohbnoibaaaGreatDoor
namespace Wk
abbrev L:=List (Int×Int)
def chkF:Int→L→Int
 |_,[]=>0
 |e,w::t=>if w.1<0∨w.2≤w.1∨604800<w.2 then 1 else if w.1<e then 6 else chkF w.2 t
def chk (l:L):Int:=if 14<l.length then 5 else chkF 0 l
def sow (v:Int):Int:=Civ.wd (v/86400)*86400+v%86400
theorem sow_eq (v:Int):sow v=(v+259200)%604800:=by unfold sow Civ.wd;omega
def within (l:L) (s:Int):Bool:=l.any fun w=>decide (w.1≤s∧s<w.2)
def lenS:L→Int
 |[]=>0
 |w::t=>(w.2-w.1)+lenS t
def addP (s:L) (a b:Int):L:=if b≤a then s else match s.getLast? with
 |none=>s++[(a,b)]
 |some y=>if y.2=a then s.dropLast++[(y.1,b)] else s++[(a,b)]
def addW (l:L) (f t m:Int) (s:L):L:=l.foldl (fun s w=>addP s (max (m+w.1) f) (min (m+w.2) t)) s
def addK (l:L) (f t:Int):Nat→Int→L→L
 |0,_,s=>s
 |k+1,m,s=>addK l f t k (m+604800) (addW l f t m s)
def wks (m t:Int):Nat:=((t-m+604799)/604800).toNat
def addR (l:L) (off f t:Int) (s:L):L:=if t≤f then s else addK l f t (wks (f-sow (f+off)) t) (f-sow (f+off)) s
def tms:L→Int→L→L→Int→Int→L
 |s,off,[],l,f,t=>addR l off f t s
 |s,off,(a,o)::ts,l,f,t=>tms (addR l off f (min a t) s) o ts l (max a f) t
theorem wks_step {m t:Int} (h:m<t):wks m t=wks (m+604800) t+1:=by unfold wks;omega
theorem wks_done {m t:Int} (h:t≤m):wks m t=0:=by unfold wks;omega
theorem addK_step {l:L} {f t m:Int} {s:L} (h:m<t):addK l f t (wks m t) m s=addK l f t (wks (m+604800) t) (m+604800) (addW l f t m s):=by rw [wks_step h];rfl
theorem addK_done {l:L} {f t m:Int} {s:L} (h:t≤m):addK l f t (wks m t) m s=s:=by rw [wks_done h];rfl
def Rt:Int→L→Prop
 |_,[]=>True
 |e,w::t=>e≤w.1∧w.1<w.2∧w.2≤604800∧Rt w.2 t
theorem rt_of: ∀{l:L} {e:Int},chkF e l=0→Rt e l
 |[],_,_=>trivial
 |w::t,e,h=>by
  rw [chkF] at h
  split at h
  ·cases h
  ·split at h
   ·cases h
   ·exact ⟨by omega,by omega,by omega,rt_of h⟩
theorem rt_chk: ∀{l:L} {e:Int},0≤e→Rt e l→chkF e l=0
 |[],_,_,_=>rfl
 |w::t,e,h0,⟨h1,h2,h3,h4⟩=>by
  rw [chkF,if_neg (by omega),if_neg (by omega)]
  exact rt_chk (by omega) h4
theorem chk_ok {l:L} (h:chk l=0):Rt 0 l∧l.length≤14:=by
 unfold chk at h
 split at h
 ·cases h
 ·exact ⟨rt_of h,by omega⟩
theorem chk_of {l:L} (h:Rt 0 l) (h2:l.length≤14):chk l=0:=by
 unfold chk;rw [if_neg (by omega)];exact rt_chk (Int.le_refl 0) h
theorem Rt.mono {e e':Int}: ∀{l:L},Rt e l→e'≤e→Rt e' l
 |[],_,_=>trivial
 |w::t,⟨h1,h2⟩,h=>⟨by omega,h2⟩
theorem Rt.mem {e:Int}: ∀{l:L},Rt e l→ ∀w∈l,e≤w.1∧w.1<w.2∧w.2≤604800
 |[],_,w,hw=>by cases hw
 |x::t,⟨h1,h2,h3,h4⟩,w,hw=>by
  rcases List.mem_cons.1 hw with rfl|hw
  ·exact ⟨h1,h2,h3⟩
  ·have :=Rt.mem h4 w hw;exact ⟨by omega,this.2⟩
def mrg:Int→Int→L→L
 |s,e,[]=>[(s,e)]
 |s,e,w::t=>if e<w.1 then (s,e)::mrg w.1 w.2 t else mrg s w.2 t
theorem mrg_len: ∀(l:L) (s e:Int),(mrg s e l).length≤l.length+1
 |[],s,e=>by simp [mrg]
 |w::t,s,e=>by
  unfold mrg;split
  ·have :=mrg_len t w.1 w.2;simp;omega
  ·have :=mrg_len t s w.2;simp;omega
def Sep:Int→L→Prop
 |_,[]=>True
 |e,w::t=>e≤w.1∧w.1<w.2∧Sep (w.2+1) t
theorem Sep.mono {e e':Int}: ∀{l:L},Sep e l→e'≤e→Sep e' l
 |[],_,_=>trivial
 |w::t,⟨h1,h2⟩,h=>⟨by omega,h2⟩
theorem within_cons (w:Int×Int) (t:L) (s:Int):within (w::t) s=(decide (w.1≤s∧s<w.2)||within t s):=by simp [within]
theorem Rt.out {e s:Int}: ∀{l:L},Rt e l→s<e→within l s=false
 |[],_,_=>rfl
 |w::t,⟨h1,h2,h3,h4⟩,h=>by
  rw [within_cons,Rt.out h4 (by omega),decide_eq_false (by omega)];rfl
theorem sow_bd (v:Int):0≤sow v∧sow v<604800:=by rw [sow_eq];omega
end Wk
end Go.Proofs.YtfamcohbnoibaaaGreatDoor
namespace Go.Proofs.YtfamcohbnoibaaaGreatDoor
namespace Zn
structure Good (off:Int) (rs:List Rule):Prop where
 ex: ∃ts,trans off rs=(ts,0)∧ ∀x∈ts,1700000000≤x.1∧x.1≤1800000000
 len:rs.length≤2
 all:rs.all okR=true
 lo: -42300≤off
 hi:off≤45000
theorem trans_all {off:Int} {rs:List Rule} {ts:L} (h1:okO off=true) (h2:rs.length≤16) (h3:rs.all okR=true) (h4:cnt rs≤640) (h5:fol off 0 (Zs.srt (flat rs))=some ts):trans off rs=(ts,0):=by
 unfold trans
 rw [if_neg (by rw [h1];decide),if_neg (by omega),if_neg (by rw [h3];decide),if_neg (by omega),h5]
theorem good0 {off:Int} (h1: -42300≤off) (h2:off≤45000):Good off []:=
 ⟨⟨[],trans_all (okO_iff.2 (by omega)) (by simp) rfl (by simp [cnt]) (by simp [flat,Zs.srt,fol]),fun x hx=>by cases hx⟩,by simp,rfl,h1,h2⟩
theorem fol_one {off p a:Int} (hp:p≠off) (h: -86400<p-off∧p-off<86400) (h1:1720000000≤a) (h2:a≤1799000000) (ho: -64800≤off∧off≤64800):fol off 0 [(a,p)]=some [(a-off,p)]:=by
 rw [fol_add hp (by omega),fol];rfl
theorem fol_two {off p a b:Int} (hp:p≠off) (h: -86400<p-off∧p-off<86400) (h1:1720000000≤a) (h2:b≤1799000000) (ho: -64800≤off∧off≤64800) (hpo: -64800≤p∧p≤64800) (hab:a+700000≤b):fol off 0 [(a,p),(b,off)]=some [(a-off,p),(b-p,off)]:=by
 rw [fol_add hp (by omega),fol_add (fun e=>hp e.symm) (by omega),fol];rfl
theorem fol_four {off p a b c d:Int} (hp:p≠off) (h: -86400<p-off∧p-off<86400) (h1:1720000000≤a) (h2:d≤1799000000) (ho: -64800≤off∧off≤64800) (hpo: -64800≤p∧p≤64800) (hab:a+700000≤b) (hbc:b+700000≤c) (hcd:c+700000≤d):
  fol off 0 [(a,p),(b,off),(c,p),(d,off)]=some [(a-off,p),(b-p,off),(c-off,p),(d-p,off)]:=by
 rw [fol_add hp (by omega),fol_add (fun e=>hp e.symm) (by omega),fol_add hp (by omega),fol_add (fun e=>hp e.symm) (by omega),fol];rfl
theorem srt_four {a b c d:Int} {p q:Int} (hab:a<b) (hbc:b<c) (hcd:c<d):Zs.srt [(a,p),(c,p),(b,q),(d,q)]=[(a,p),(b,q),(c,p),(d,q)]:=by
 have e:Zs.srt [(a,p),(c,p),(b,q),(d,q)]=Zs.insr (d,q) (Zs.insr (b,q) (Zs.insr (c,p) (Zs.insr (a,p) []))):=rfl
 rw [e]
 simp only [Zs.insr]
 rw [if_pos (by omega)]
 simp only [Zs.insr]
 rw [if_pos (by omega),if_neg (by omega)]
 simp only [Zs.insr]
 rw [if_pos (by omega),if_pos (by omega),if_pos (by omega)]
theorem nthD_bd {F len k v:Int} (hl:28≤len) (hl2:len≤31) (k1:1≤k) (k2:k≤5):Civ.nthD F len k v<F+len∧F+7*(k-1)-7≤Civ.nthD F len k v∧Civ.nthD F len k v≤F+7*(k-1)+6∧(k≤4→F+7*(k-1)≤Civ.nthD F len k v):=by
 unfold Civ.nthD Civ.wd
 split<;>omega
theorem num_2025_1:Civ.num 2025 1 1=20089:=by decide
theorem num_2025_2:Civ.num 2025 2 1=20120:=by decide
theorem num_2025_3:Civ.num 2025 3 1=20148:=by decide
theorem num_2025_10:Civ.num 2025 10 1=20362:=by decide
theorem num_2026_1:Civ.num 2026 1 1=20454:=by decide
theorem num_2026_2:Civ.num 2026 2 1=20485:=by decide
theorem num_2026_3:Civ.num 2026 3 1=20513:=by decide
theorem num_2026_10:Civ.num 2026 10 1=20727:=by decide
theorem dim_all (y m:Int) (h1:1≤m) (h2:m≤12):28≤Civ.dim y m∧Civ.dim y m≤31:=⟨Civ.dim_lo h1 h2,(Civ.dim_bd y m).2⟩
theorem good_two {off p last:Int} {r1 r2:Rule} (h1: -42300≤off) (h2:off≤45000) (hl:last=2025∨last=2026) (hp:p≠off) (hpd: -16000≤p-off∧p-off≤16000)
  (o1:okR r1=true) (o2:okR r2=true) (f1:r1.fr=2025) (f2:r2.fr=2025) (t1:r1.to=last) (t2:r2.to=last) (p1:r1.off=p) (p2:r2.off=off) {a b c d:Int}
  (ea:nth r1 2025*86400+r1.sec=a) (eb:nth r2 2025*86400+r2.sec=b) (ec:nth r1 2026*86400+r1.sec=c) (ed:nth r2 2026*86400+r2.sec=d)
  (ha:1720000000≤a) (hab:a+700000≤b) (hbc:b+700000≤c) (hcd:c+700000≤d) (hd:d≤1799000000):Good off [r1,r2]:=by
 have hall:[r1,r2].all okR=true:=by simp [o1,o2]
 rcases hl with rfl|rfl
 ·have y1:yrs r1=1:=by unfold yrs;omega
  have y2:yrs r2=1:=by unfold yrs;omega
  have e1:occR r1=[(a,p)]:=by unfold occR;rw [y1,f1,occ,occ,ea,p1]
  have e2:occR r2=[(b,off)]:=by unfold occR;rw [y2,f2,occ,occ,eb,p2]
  have ef:flat [r1,r2]=[(a,p),(b,off)]:=by unfold flat;simp [e1,e2]
  have es:Zs.srt [(a,p),(b,off)]=[(a,p),(b,off)]:=Zs.srt_self (Zs.Asc.cons.2 ⟨fun y hy=>by simp at hy;subst hy;simp only;omega,Zs.Asc.one _⟩)
  refine ⟨⟨[(a-off,p),(b-p,off)],trans_all (okO_iff.2 (by omega)) (by simp) hall (by unfold cnt;simp;omega) ?_, ?_⟩,by simp,hall,h1,h2⟩
  ·rw [ef,es];exact fol_two hp (by omega) ha (by omega) (by omega) (by omega) hab
  ·intro x hx
   simp at hx
   rcases hx with rfl|rfl<;>simp only <;>omega
 ·have y1:yrs r1=2:=by unfold yrs;omega
  have y2:yrs r2=2:=by unfold yrs;omega
  have e1:occR r1=[(a,p),(c,p)]:=by unfold occR;rw [y1,f1,occ,occ,occ,ea,show (2025:Int)+1=2026 from rfl,ec,p1]
  have e2:occR r2=[(b,off),(d,off)]:=by unfold occR;rw [y2,f2,occ,occ,occ,eb,show (2025:Int)+1=2026 from rfl,ed,p2]
  have ef:flat [r1,r2]=[(a,p),(c,p),(b,off),(d,off)]:=by unfold flat;simp [e1,e2]
  refine ⟨⟨[(a-off,p),(b-p,off),(c-off,p),(d-p,off)],trans_all (okO_iff.2 (by omega)) (by simp) hall (by unfold cnt;simp;omega) ?_, ?_⟩,by simp,hall,h1,h2⟩
  ·rw [ef,srt_four (by omega) (by omega) (by omega)];exact fol_four hp (by omega) ha hd (by omega) (by omega) hab hbc hcd
  ·intro x hx
   simp at hx
   rcases hx with rfl|rfl|rfl|rfl<;>simp only <;>omega
theorem good1 {off last:Int} (h1: -42300≤off) (h2:off≤45000) (hl:last=2025∨last=2026):Good off [⟨2025,last,3,5,6,7200,off+3600⟩,⟨2025,last,10,5,6,10800,off⟩]:=by
 have d1:=dim_all 2025 3 (by omega) (by omega)
 have d2:=dim_all 2025 10 (by omega) (by omega)
 have d3:=dim_all 2026 3 (by omega) (by omega)
 have d4:=dim_all 2026 10 (by omega) (by omega)
 have n1:=nthD_bd (F:=20148) (k:=5) (v:=6) d1.1 d1.2 (by omega) (by omega)
 have n2:=nthD_bd (F:=20362) (k:=5) (v:=6) d2.1 d2.2 (by omega) (by omega)
 have n3:=nthD_bd (F:=20513) (k:=5) (v:=6) d3.1 d3.2 (by omega) (by omega)
 have n4:=nthD_bd (F:=20727) (k:=5) (v:=6) d4.1 d4.2 (by omega) (by omega)
 refine good_two (p:=off+3600) (last:=last) h1 h2 hl (by omega) (by omega) (okR_iff.2 (by simp only;omega)) (okR_iff.2 (by simp only;omega)) rfl rfl rfl rfl rfl rfl rfl rfl rfl rfl ?_ ?_ ?_ ?_ ?_
 all_goals
  simp only [nth,num_2025_3,num_2025_10,num_2026_3,num_2026_10]
  omega
theorem good2 {off last k1 v1 s1 e m k2 v2 s2:Int} (h1: -42300≤off) (h2:off≤45000) (hl:last=2025∨last=2026) (hk:1≤k1∧k1≤4) (hv:0≤v1∧v1≤6) (hs:0≤s1∧s1≤82800) (he:1800≤e∧e≤14400) (hm:m=2∨m=3) (hk2:k2=2∨k2=3∨k2=5) (hv2:0≤v2∧v2≤6) (hs2:0≤s2∧s2≤82800):
  Good off [⟨2025,last,1,k1,v1,s1,off+e⟩,⟨2025,last,m,k2,v2,s2,off⟩]:=by
 have d1:=dim_all 2025 1 (by omega) (by omega)
 have d2:=dim_all 2025 m (by omega) (by omega)
 have d3:=dim_all 2026 1 (by omega) (by omega)
 have d4:=dim_all 2026 m (by omega) (by omega)
 have n1:=nthD_bd (F:=20089) (k:=k1) (v:=v1) d1.1 d1.2 (by omega) (by omega)
 have n2:=nthD_bd (F:=Civ.num 2025 m 1) (k:=k2) (v:=v2) d2.1 d2.2 (by omega) (by omega)
 have n3:=nthD_bd (F:=20454) (k:=k1) (v:=v1) d3.1 d3.2 (by omega) (by omega)
 have n4:=nthD_bd (F:=Civ.num 2026 m 1) (k:=k2) (v:=v2) d4.1 d4.2 (by omega) (by omega)
 have m1:20120≤Civ.num 2025 m 1∧Civ.num 2025 m 1≤20148∧20485≤Civ.num 2026 m 1∧Civ.num 2026 m 1≤20513:=by
  rcases hm with rfl|rfl
  ·rw [num_2025_2,num_2026_2];omega
  ·rw [num_2025_3,num_2026_3];omega
 refine good_two (p:=off+e) (last:=last) h1 h2 hl (by omega) (by omega) (okR_iff.2 (by simp only;omega)) (okR_iff.2 (by simp only;omega)) rfl rfl rfl rfl rfl rfl rfl rfl rfl rfl ?_ ?_ ?_ ?_ ?_
 all_goals
  simp only [nth,num_2025_1,num_2026_1]
  omega
theorem good3 {off x v s:Int} (h1: -42300≤off) (h2:off≤45000) (hv:0≤v∧v≤6) (hs:0≤s∧s≤84600) (hx: -64800≤x∧x≤64800) (hx2: -86400<x-off∧x-off<86400):Good off [⟨2026,2026,1,2,v,s,x⟩]:=by
 have d3:=dim_all 2026 1 (by omega) (by omega)
 have n3:=nthD_bd (F:=20454) (k:=2) (v:=v) d3.1 d3.2 (by omega) (by omega)
 have ho:okR ⟨2026,2026,1,2,v,s,x⟩=true:=okR_iff.2 (by simp only;omega)
 have hall:[(⟨2026,2026,1,2,v,s,x⟩:Rule)].all okR=true:=by simp [ho]
 obtain ⟨a,ha⟩: ∃a,nth ⟨2026,2026,1,2,v,s,x⟩ 2026*86400+s=a:=⟨_,rfl⟩
 have hab:1720000000≤a∧a≤1799000000:=by
  rw [←ha]
  simp only [nth,num_2026_1]
  omega
 have e1:flat [(⟨2026,2026,1,2,v,s,x⟩:Rule)]=[(a,x)]:=by
  have :yrs ⟨2026,2026,1,2,v,s,x⟩=1:=rfl
  unfold flat
  simp only [List.flatMap_cons,List.flatMap_nil,occR,this,occ,List.append_nil]
  rw [ha]
 have es:Zs.srt [(a,x)]=[(a,x)]:=Zs.srt_self (Zs.Asc.one _)
 by_cases hxo:x=off
 ·refine ⟨⟨[],trans_all (okO_iff.2 (by omega)) (by simp) hall (by unfold cnt;simp) ?_,fun x hx=>by cases hx⟩,by simp,hall,h1,h2⟩
  rw [e1,es,fol_skip hxo,fol]
 ·refine ⟨⟨[(a-off,x)],trans_all (okO_iff.2 (by omega)) (by simp) hall (by unfold cnt;simp) ?_,fun y hy=> ?_⟩,by simp,hall,h1,h2⟩
  ·rw [e1,es];exact fol_one hxo hx2 (by omega) (by omega) (by omega)
  ·simp at hy;subst hy;simp only;omega
end Zn
end Go.Proofs.YtfamcohbnoibaaaGreatDoor
namespace Lx
open Go Go.Lib Go.Proofs.YtfamcohbnoibaaaGreatDoor
def digR (r:Nat):Bool:=decide (48≤r)&&decide (r≤57)
def lowR (r:Nat):Bool:=decide (97≤r)&&decide (r≤122)
def othR (r:Nat):Bool:= !lowR r&& !digR r&& !(r==95)&& !(r==45)
theorem oth_hi (r:Nat) (h:128≤r):othR r=true:=by simp [othR,lowR,digR];omega
def alldig (l:List UInt8):Bool:=l.all fun b=>digR b.toNat
def noth (l:List UInt8):Bool:=l.all fun b=> !othR b.toNat
def lead:List UInt8→Nat
 |[]=>0
 |b::t=>if digR b.toNat then lead t+1 else 0
def nameS (l:List UInt8):Bool:=match l with
 |[]=>false
 |b::_=>decide (l.length≤24)&&lowR b.toNat&&noth l
def val (l:List UInt8):Nat:=l.foldl (fun n b=>n*10+(b.toNat-48)) 0
def fieldsS (c:UInt8) (ws:List Nat) (l:List UInt8):Option (List Nat):=
 if (splitN l [c] 4).map List.length=ws∧(splitN l [c] 4).all alldig=true then some ((splitN l [c] 4).map val) else none
def fullS (l:List UInt8):Option Int:=match fieldsS 58 [2,2,2] l with
 |some [h,m,s]=>if m<60∧s<60∧h*3600+m*60+s≤86400 then some ((h*3600+m*60+s:Nat):Int) else none
 |_=>none
def clockS (l:List UInt8):Option Int:=fullS (if l.length=5 then l++[58,48,48] else l)
def dateS (l:List UInt8):Option Int:=match fieldsS 45 [4,2,2] l with
 |some [y,m,d]=>if Civ.vldB y m d=true then some (Civ.num y m d) else none
 |_=>none
def offS (l:List UInt8):Option Int:=
 if l.length=6 then
  match clockS (l.drop 1) with
  |some n=>if n≤64800 then (if l.head? =some 43 then some n else if l.head? =some 45 then some (-n) else none) else none
  |none=>none
 else none
def instS (l:List UInt8):Option Int:=
 match dateS (cut (trimSuffix l [90]) [84]).1,fullS (cut (trimSuffix l [90]) [84]).2.1 with
 |some d,some n=>if hasSuffix l [90]=true∧n<86400 then some (d*86400+n) else none
 |_,_=>none
def numS (l:List UInt8):Option Int:=if l≠[]∧l.length≤9∧(l=[48]∨l.head? ≠some 48) then some (val l:Int) else none
abbrev Tk:=Int×List UInt8×Int
def tokS (l:List UInt8):Option Tk:=
 if nameS l=true then some (0,l,0)
 else if lead l=l.length then (numS l).map fun n=>(1,[],n)
 else if lead l=2 then (clockS l).map fun n=>(2,[],n)
 else if lead l=4∧84∈l then (instS l).map fun n=>(5,[],n)
 else if lead l=4 then (dateS l).map fun n=>(3,[],n)
 else if lead l=0 then (offS l).map fun n=>(4,[],n)
 else none
def padS (n:Int) (w:Nat):List UInt8:=repeatL [48] (w-(itoa n).length)++itoa n
def fullTS (n:Int):List UInt8:=padS (n.tdiv 3600) 2++58::(padS ((n.tdiv 60).tmod 60) 2++58::padS (n.tmod 60) 2)
def clockTS (n:Int):List UInt8:=trimSuffix (fullTS n) [58,48,48]
def offTS (n:Int):List UInt8:=if n<0 then 45::clockTS (-n) else 43::clockTS n
end Lx
namespace Go.Proofs.YtfamcohbnoibaaaGreatDoor
namespace Rs
abbrev Nm:=List UInt8
abbrev Sp:=List (Int×Int)
structure Zone where
 name:Nm
 off:Int
 rules:List Zn.Rule
structure Pers where
 name:Nm
 zone:Int
 quiet:Sp
 maxw:Int
 minr:Int
 cons:Bool
structure Cal where
 name:Nm
 zone:Int
 days:List Int
structure Lay where
 name:Nm
 zone:Int
 day:Int
 sec:Int
 unit:Int
 every:Int
 mem:List Int
 wins:Sp
 cal:Int
 mode:Int
structure Edit where
 kind:Int
 a:Int
 b:Int
 fr:Int
 to:Int
structure Sch where
 name:Nm
 lays:List Lay
 edits:List Edit
structure Cfg where
 zones:List Zone
 people:List Pers
 cals:List Cal
 scheds:List Sch
def noCfg:Cfg:=⟨[],[],[],[]⟩
def ix (x:Nm):List Nm→Nat
 |[]=>0
 |y::t=>if y=x then 0 else ix x t+1
def findS (ns:List Nm) (x:Nm):Int×Bool:=if ix x ns<ns.length then ((ix x ns:Int),true) else (0,false)
theorem ix_le (x:Nm): ∀ns,ix x ns≤ns.length
 |[]=>Nat.le_refl _
 |y::t=>by
  unfold ix
  split
  ·exact Nat.zero_le _
  ·have :=ix_le x t
   simp;omega
theorem ix_at {x:Nm}: ∀{ns:List Nm} {k:Nat},(∀j y,j<k→ns[j]? =some y→y≠x)→ns[k]? =some x→ix x ns=k
 |[],k,_,h=>by simp at h
 |y::t,0,_,h=>by
  simp at h
  unfold ix;rw [if_pos h]
 |y::t,k+1,hn,h=>by
  have h0:=hn 0 y (by omega) (by simp)
  unfold ix
  rw [if_neg h0,ix_at (k:=k) (fun j z hj hz=>hn (j+1) z (by omega) (by simpa using hz)) (by simpa using h)]
theorem ix_get {x:Nm}: ∀{ns:List Nm},ix x ns<ns.length→ns[ix x ns]? =some x
 |[],h=>by simp at h
 |y::t,h=>by
  unfold ix at h ⊢
  split
  ·rename_i he;subst he;rfl
  ·rename_i he
   rw [if_neg he] at h
   rw [List.getElem?_cons_succ]
   exact ix_get (by simp at h;exact h)
theorem ix_lt {x:Nm} {ns:List Nm} {k:Nat} (h:ns[k]? =some x):ix x ns≤k:=by
 induction ns generalizing k with
 |nil=>simp at h
 |cons y t ih=>
  unfold ix
  split
  ·exact Nat.zero_le _
  ·rename_i he
   match k,h with
   |0,h=>simp at h;exact absurd h he
   |k+1,h=>have :=ih (k:=k) (by simpa using h);omega
def nameE (ns:List Nm) (i:Nat) (x:Nm):Int:=if Lx.nameS x=false then 2 else if ix x ns<i then 4 else 0
def isIx (i:Int) (n:Nat):Bool:=decide (0≤i)&&decide (i<n)
def noDay (d:Int):Bool:=decide (d<0)||decide (98981≤d)
def mins (off:Int) (rs:List Zn.Rule):Bool:=(off.tmod 60==0)&& !(rs.any fun r=>r.off.tmod 60 !=0)
def hoursOk (n:Int):Bool:=decide (0≤n)&&(decide (n≤604800)&&(n.tmod 3600==0))
def nobodyW:Nm:=[110,111,98,111,100,121]
def fe {α:Type} (f:Nat→α→Int):Nat→List α→Int
 |_,[]=>0
 |i,x::t=>if f i x=0 then fe f (i+1) t else f i x
def zoneE (ns:List Nm) (i:Nat) (z:Zone):Int:=if nameE ns i z.name≠0 then nameE ns i z.name else if (Zn.trans z.off z.rules).2≠0∨mins z.off z.rules=false then 8 else 0
def persE (nz:Nat) (ns:List Nm) (i:Nat) (p:Pers):Int:=
 if p.name=nobodyW then 2 else if nameE ns i p.name≠0 then nameE ns i p.name else if isIx p.zone nz=false then 3 else if Wk.chk p.quiet≠0 then 8 else if hoursOk p.maxw=false∨hoursOk p.minr=false then 1 else 0
def asc:List Int→Bool
 |[]=>true
 |[_]=>true
 |a::b::t=>decide (a<b)&&asc (b::t)
def calE (nz:Nat) (ns:List Nm) (i:Nat) (x:Cal):Int:=
 if nameE ns i x.name≠0 then nameE ns i x.name else if isIx x.zone nz=false then 3 else if 64<x.days.length then 5 else if x.days.any noDay=true then 1 else if asc x.days=false then 6 else 0
def rot (l:Lay):Bool:=
 if l.day<1∨noDay l.day=true∨l.sec<0∨86400≤l.sec then false else if l.unit=0∨l.unit=1∨l.unit=2 then decide (1≤l.every)&&decide (l.every≤400) else false
def modeE (nc:Nat) (l:Lay):Int:=if l.mode=0 then (if l.cal≠0 then 1 else 0) else if l.mode=1∨l.mode=2 then (if isIx l.cal nc=false then 3 else 0) else 1
def layE (nz np nc:Nat) (ns:List Nm) (i:Nat) (l:Lay):Int:=
 if nameE ns i l.name≠0 then nameE ns i l.name else if isIx l.zone nz=false then 3 else if rot l=false then 1 else if l.mem.length=0 then 7 else if 12<l.mem.length then 5 else if (l.mem.any fun m=> !isIx m np)=true then 3 else if Wk.chk l.wins≠0 then 8 else modeE nc l
def editE (np:Nat) (x:Edit):Int:=
 if x.kind≠0∧x.kind≠1∧x.kind≠2 then 1 else if isIx x.a np=false∧¬(x.kind=1∧x.a= -1) then 3 else if x.kind=2∧isIx x.b np=false then 3 else if x.kind≠2∧x.b≠0 then 1 else if x.kind=2∧x.a=x.b then 4 else if x.fr<0∨x.to<0∨noDay (x.to.tdiv 86400)=true then 1 else if x.to≤x.fr then 6 else 0
def schE (nz np nc:Nat) (ns:List Nm) (i:Nat) (s:Sch):Int:=
 if nameE ns i s.name≠0 then nameE ns i s.name else if 6<s.lays.length∨48<s.edits.length then 5 else if fe (layE nz np nc (s.lays.map (·.name))) 0 s.lays≠0 then fe (layE nz np nc (s.lays.map (·.name))) 0 s.lays else fe (fun _=>editE np) 0 s.edits
def znE (C:Cfg):Int:=fe (zoneE (C.zones.map (·.name))) 0 C.zones
def peE (C:Cfg):Int:=fe (persE C.zones.length (C.people.map (·.name))) 0 C.people
def caE (C:Cfg):Int:=fe (calE C.zones.length (C.cals.map (·.name))) 0 C.cals
def scE (C:Cfg):Int:=fe (schE C.zones.length C.people.length C.cals.length (C.scheds.map (·.name))) 0 C.scheds
def chkS (C:Cfg):Int:=
 if 16<C.zones.length∨32<C.people.length∨8<C.cals.length∨12<C.scheds.length then 5 else if znE C≠0 then znE C else if peE C≠0 then peE C else if caE C≠0 then caE C else scE C
theorem fe_done {α:Type} {f:Nat→α→Int} {l:List α} {k:Nat} (h:l.length≤k):fe f k (l.drop k)=0:=by
 rw [List.drop_of_length_le h];rfl
theorem fe_step {α:Type} {f:Nat→α→Int} {l:List α} {k:Nat} {x:α} (h:l[k]? =some x):fe f k (l.drop k)=if f k x=0 then fe f (k+1) (l.drop (k+1)) else f k x:=by
 have hd:l.drop k=x::l.drop (k+1):=by
  obtain ⟨hi,hx⟩:=List.getElem?_eq_some_iff.1 h
  rw [List.drop_eq_getElem_cons hi,hx]
 rw [hd,fe]
theorem fe_zero {α:Type} {f:Nat→α→Int}: ∀{l:List α} {i:Nat},(∀k x,l[k]? =some x→f (i+k) x=0)→fe f i l=0
 |[],_,_=>rfl
 |x::t,i,h=>by
  have h0:=h 0 x rfl
  rw [Nat.add_zero] at h0
  rw [fe,if_pos h0]
  exact fe_zero (fun k y hk=>by rw [show i+1+k=i+(k+1) by omega];exact h (k+1) y (by simpa using hk))
end Rs
end Go.Proofs.YtfamcohbnoibaaaGreatDoor
namespace Lx
open Go Go.Lib Go.Proofs.YtfamcohbnoibaaaGreatDoor
def dg (k:Nat):UInt8:=UInt8.ofNat (48+k)
theorem pad2 {n:Int} (h0:0≤n) (h1:n<100):padS n 2=[dg (n.toNat/10),dg (n.toNat%10)]:=by
 unfold padS itoa
 rw [if_neg (by omega)]
 by_cases h:n.toNat<10
 ·rw [decDigits,dif_pos h]
  simp [repeatL,dg,Nat.div_eq_of_lt h,Nat.mod_eq_of_lt h]
 ·rw [decDigits_two h (by omega)]
  simp [repeatL,dg]
end Lx
namespace Lx
open Go Go.Lib Go.Proofs.YtfamcohbnoibaaaGreatDoor
end Lx
namespace Go.Proofs.YtfamcohbnoibaaaGreatDoor
namespace Rs
def nmZ:List Nm:=[[104,101,114,101],[116,104,101,114,101]]
def nmP:List Nm:=[[97,100,97],[98,111,98],[99,108,101,111],[100,97,110],[101,118,101],[102,97,121],[103,117,115],[104,97,108]]
def nmC:List Nm:=[[100,97,121,115]]
def nmS:List Nm:=[[102,105,114,115,116],[115,101,99,111,110,100],[116,104,105,114,100]]
def okN (L:List Nm):Bool:=L.all (fun x=>Lx.nameS x&&decide (x≠nobodyW))&&decide L.Nodup
theorem okZ:okN nmZ=true:=by kernel_rfl
theorem okP:okN nmP=true:=by kernel_rfl
theorem okC:okN nmC=true:=by kernel_rfl
theorem okS:okN nmS=true:=by kernel_rfl
theorem ix_take {L:List Nm} (hL:okN L=true) {n i:Nat} {x:Nm} (h:(L.take n)[i]? =some x):ix x (L.take n)=i:=by
 unfold okN at hL
 simp only [Bool.and_eq_true,decide_eq_true_eq] at hL
 have hd:(L.take n).Nodup:=hL.2.sublist (List.take_sublist n L)
 refine ix_at (fun j y hj hy e=> ?_) h
 subst e
 have h1:=List.getElem?_eq_some_iff.1 h
 have h2:=List.getElem?_eq_some_iff.1 hy
 obtain ⟨a1,a2⟩:=h1
 obtain ⟨b1,b2⟩:=h2
 exact (List.pairwise_iff_getElem.1 hd j i b1 a1 hj) (b2.trans a2.symm)
theorem name_at {L:List Nm} (hL:okN L=true) {n i:Nat} {x:Nm} (h:(L.take n)[i]? =some x):nameE (L.take n) i x=0∧x≠nobodyW:=by
 have hi:=ix_take hL h
 have hx:x∈L:=List.mem_of_mem_take (List.mem_of_getElem? h)
 unfold okN at hL
 simp only [Bool.and_eq_true,List.all_eq_true,decide_eq_true_eq] at hL
 have hn:=hL.1 x hx
 unfold nameE
 rw [if_neg (by rw [hn.1];decide),if_neg (by omega)]
 exact ⟨rfl,hn.2⟩
theorem take_snoc {L:List Nm} {ns:List Nm} {x:Nm} (h:ns=L.take ns.length) (hx:L[ns.length]? =some x):ns++[x]=L.take (ns++[x]).length:=by
 rw [List.length_append,List.length_singleton,List.take_add_one,hx, ←h]
 rfl
def MZ (z:Zone):Prop:=Zn.Good z.off z.rules∧mins z.off z.rules=true
def MP (nz:Nat) (p:Pers):Prop:=isIx p.zone nz=true∧Wk.Rt 0 p.quiet∧p.quiet.length≤3∧hoursOk p.maxw=true∧hoursOk p.minr=true
def Up (lo:Int):List Int→Int→Prop
 |[],hi=>lo≤hi
 |d::t,hi=>lo<d∧Up d t hi
theorem Up.snoc: ∀{l:List Int} {lo hi d:Int},Up lo l hi→hi<d→Up lo (l++[d]) d
 |[],lo,hi,d,h,hd=>⟨by have :lo≤hi:=h;omega,Int.le_refl _⟩
 |x::t,lo,hi,d,h,hd=>⟨h.1,Up.snoc h.2 hd⟩
theorem Up.mem: ∀{l:List Int} {lo hi:Int},Up lo l hi→lo≤hi∧ ∀d∈l,lo<d∧d≤hi
 |[],lo,hi,h=>⟨h,fun d hd=>by cases hd⟩
 |x::t,lo,hi,h=>by
  obtain ⟨a,b⟩:=Up.mem h.2
  have h1:=h.1
  refine ⟨by omega,fun d hd=> ?_⟩
  rcases List.mem_cons.1 hd with rfl|hd
  ·exact ⟨h1,a⟩
  ·have :=b d hd;omega
theorem Up.asc: ∀{l:List Int} {lo hi:Int},Up lo l hi→asc l=true
 |[],_,_,_=>rfl
 |[_],_,_,_=>rfl
 |a::b::t,lo,hi,h=>by
  have h2:=Up.asc h.2
  have h3:a<b:=h.2.1
  rw [Rs.asc,h2]
  simp [h3]
def MC (nz:Nat) (x:Cal):Prop:=isIx x.zone nz=true∧x.days.length≤4∧ ∃hi,Up 20454 x.days hi∧hi≤20500
def ML (nz np nc:Nat) (l:Lay):Prop:=isIx l.zone nz=true∧20452≤l.day∧l.day≤20457∧0≤l.sec∧l.sec<86400∧0≤l.unit∧l.unit≤2∧1≤l.every∧(l.every≤49∧(l.unit=0∨l.every≤2))∧l.mem≠[]∧l.mem.length≤3∧(∀m∈l.mem,isIx m np=true)∧Wk.Rt 0 l.wins∧l.wins.length≤3∧((l.mode=0∧l.cal=0)∨((l.mode=1∨l.mode=2)∧isIx l.cal nc=true))
def ME (np:Nat) (x:Edit):Prop:=editE np x=0∧ -9223372036854775808≤x.to∧x.to≤9223372036854775807
def MS (nz np nc:Nat) (s:Sch):Prop:=s.lays.map (·.name)=nmP.take s.lays.length∧s.lays.length≤3∧s.edits.length≤3∧(∀l∈s.lays,ML nz np nc l)∧ ∀x∈s.edits,ME np x
structure Made (C:Cfg):Prop where
 zn:C.zones.map (·.name)=nmZ.take C.zones.length
 zl:C.zones.length≤2
 zs: ∀z∈C.zones,MZ z
 pn:C.people.map (·.name)=nmP.take C.people.length
 pl:C.people.length≤4
 ps: ∀p∈C.people,MP C.zones.length p
 cn:C.cals.map (·.name)=nmC.take C.cals.length
 cl:C.cals.length≤1
 cs: ∀x∈C.cals,MC C.zones.length x
 sn:C.scheds.map (·.name)=nmS.take C.scheds.length
 sl:C.scheds.length≤3
 ss: ∀s∈C.scheds,MS C.zones.length C.people.length C.cals.length s
theorem MZ.trans_ {z:Zone} (h:MZ z):(Zn.trans z.off z.rules).2=0:=by
 obtain ⟨ts,e, -⟩:=h.1.ex
 rw [e]
theorem take_get {L:List Nm} {α:Type} {f:α→Nm} {l:List α} {n k:Nat} {x:α} (h:l.map f=L.take n) (hk:l[k]? =some x):(L.take n)[k]? =some (f x):=by
 rw [←h,List.getElem?_map,hk]
 rfl
theorem made_zn {C:Cfg} (h:Made C):znE C=0:=by
 unfold znE
 refine fe_zero (fun k x hk=> ?_)
 rw [Nat.zero_add]
 have hn:=name_at okZ (take_get h.zn hk)
 have hz:=h.zs x (List.mem_of_getElem? hk)
 unfold zoneE
 rw [h.zn,if_neg (by rw [hn.1];simp),if_neg (by rw [hz.trans_,hz.2];simp)]
theorem made_pe {C:Cfg} (h:Made C):peE C=0:=by
 unfold peE
 refine fe_zero (fun k x hk=> ?_)
 rw [Nat.zero_add]
 have hn:=name_at okP (take_get h.pn hk)
 obtain ⟨a1,a2,a3,a4,a5⟩:=h.ps x (List.mem_of_getElem? hk)
 unfold persE
 rw [h.pn,if_neg hn.2,if_neg (by rw [hn.1];simp),if_neg (by rw [a1];simp),if_neg (by rw [Wk.chk_of a2 (by omega)];simp),if_neg (by rw [a4,a5];simp)]
theorem noDay_of {d:Int} (h1:0≤d) (h2:d<98981):noDay d=false:=by
 unfold noDay
 simp
 omega
theorem made_ca {C:Cfg} (h:Made C):caE C=0:=by
 unfold caE
 refine fe_zero (fun k x hk=> ?_)
 rw [Nat.zero_add]
 have hn:=name_at okC (take_get h.cn hk)
 obtain ⟨a1,a2,hi,a3,a4⟩:=h.cs x (List.mem_of_getElem? hk)
 have hm:=a3.mem
 have hany:x.days.any noDay=false:=by
  rw [List.any_eq_false]
  intro d hd
  have :=hm.2 d hd
  rw [noDay_of (by omega) (by omega)]
  simp
 unfold calE
 rw [h.cn,if_neg (by rw [hn.1];simp),if_neg (by rw [a1];simp),if_neg (by omega),if_neg (by rw [hany];simp),if_neg (by rw [a3.asc];simp)]
theorem ml_ok {nz np nc:Nat} {l:Lay} (h:ML nz np nc l) {ns:List Nm} {i:Nat} (hn:nameE ns i l.name=0):layE nz np nc ns i l=0:=by
 obtain ⟨a1,a2,a3,a4,a5,a6,a7,a8,a9,b1,b2,b3,b4,b5,b6⟩:=h
 have hr:rot l=true:=by
  unfold rot
  rw [noDay_of (by omega) (by omega),if_neg (by simp;omega),if_pos (by omega)]
  simp
  omega
 have hm0:¬l.mem.length=0:=fun e=>b1 (List.eq_nil_of_length_eq_zero e)
 have hany:(l.mem.any fun m=> !isIx m np)=false:=by
  rw [List.any_eq_false]
  intro m hm
  rw [b3 m hm]
  simp
 unfold layE
 rw [if_neg (by rw [hn];simp),if_neg (by rw [a1];simp),if_neg (by rw [hr];simp),if_neg hm0,if_neg (by omega),if_neg (by rw [hany];simp),if_neg (by rw [Wk.chk_of b4 (by omega)];simp)]
 unfold modeE
 rcases b6 with ⟨c1,c2⟩|⟨c1,c2⟩
 ·rw [if_pos c1,if_neg (by rw [c2];simp)]
 ·rw [if_neg (by omega),if_pos c1,if_neg (by rw [c2];simp)]
theorem made_sc {C:Cfg} (h:Made C):scE C=0:=by
 unfold scE
 refine fe_zero (fun k x hk=> ?_)
 rw [Nat.zero_add]
 have hn:=name_at okS (take_get h.sn hk)
 obtain ⟨a1,a2,a3,a4,a5⟩:=h.ss x (List.mem_of_getElem? hk)
 have e1:fe (layE C.zones.length C.people.length C.cals.length (x.lays.map (·.name))) 0 x.lays=0:=by
  refine fe_zero (fun j l hl=> ?_)
  rw [Nat.zero_add]
  have hn2:=name_at okP (take_get a1 hl)
  refine ml_ok (a4 l (List.mem_of_getElem? hl)) ?_
  rw [a1]
  exact hn2.1
 have e2:fe (fun _=>editE C.people.length) 0 x.edits=0:=fe_zero (fun j y hy=>(a5 y (List.mem_of_getElem? hy)).1)
 unfold schE
 rw [h.sn,if_neg (by rw [hn.1];simp),if_neg (by omega),if_neg (by rw [e1];simp),e2]
theorem made_ok {C:Cfg} (h:Made C):chkS C=0:=by
 have h1:=h.zl
 have h2:=h.pl
 have h3:=h.cl
 have h4:=h.sl
 unfold chkS
 rw [if_neg (by omega),if_neg (by rw [made_zn h];simp),if_neg (by rw [made_pe h];simp),if_neg (by rw [made_ca h];simp),made_sc h]
theorem find_there (ns:List Nm) (x:Nm):(findS ns x).2=ns.any (fun y=>decide (y=x)):=by
 unfold findS
 by_cases h:ix x ns<ns.length
 ·rw [if_pos h]
  have :=ix_get h
  symm
  simp only [List.any_eq_true,decide_eq_true_eq]
  exact ⟨x,List.mem_of_getElem? this,rfl⟩
 ·rw [if_neg h]
  symm
  simp only [List.any_eq_false,decide_eq_true_eq]
  intro y hy e
  subst e
  obtain ⟨k,hk⟩:=List.getElem?_of_mem hy
  have h1:=ix_lt hk
  have h2:=(List.getElem?_eq_some_iff.1 hk).1
  omega
end Rs
end Go.Proofs.YtfamcohbnoibaaaGreatDoor
