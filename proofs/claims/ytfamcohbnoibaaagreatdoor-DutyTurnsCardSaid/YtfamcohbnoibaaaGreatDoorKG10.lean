import Derived.Test.YtfamcohbnoibaaaGreatDoorKRe
import Derived.BigQuiet
set_option linter.unusedVariables false
set_option linter.unusedSimpArgs false
set_option maxRecDepth 100000
namespace Go.Proofs.YtfamcohbnoibaaaGreatDoor
open Go.RowKit
def rotF (dy sc un ev:Int):Bool:=
 if dy<1∨Rs.noDay dy=true∨sc<0∨86400≤sc then false else if un=0∨un=1∨un=2 then decide (1≤ev)&&decide (ev≤400) else false
theorem rot_eq (l:Rs.Lay):Rs.rot l=rotF l.day l.sec l.unit l.every:=rfl
def modF (nc:Nat) (mo ca:Int):Int:=if mo=0 then (if ca≠0 then 1 else 0) else if mo=1∨mo=2 then (if Rs.isIx ca nc=false then 3 else 0) else 1
theorem mod_eq (nc:Nat) (l:Rs.Lay):Rs.modeE nc l=modF nc l.mode l.cal:=rfl
def ediF (np:Nat) (k a b f t:Int):Int:=
 if k≠0∧k≠1∧k≠2 then 1 else if Rs.isIx a np=false∧¬(k=1∧a= -1) then 3 else if k=2∧Rs.isIx b np=false then 3 else if k≠2∧b≠0 then 1 else if k=2∧a=b then 4 else if f<0∨t<0∨Rs.noDay (t.tdiv 86400)=true then 1 else if t≤f then 6 else 0
theorem edi_eq (np:Nat) (x:Rs.Edit):Rs.editE np x=ediF np x.kind x.a x.b x.fr x.to:=rfl
theorem lay_cells {W:World} {g:Nat} {s:ByteArray} {zo dy sc un ev ca mo:Int} {E6 E7:Option Addr} {m6 e6 m7 e7:Nat} (h:BlkAt W g #[.string s,.int .i64 zo,.int .i64 dy,.int .i64 sc,.int .i64 un,.int .i64 ev,.slice E6 m6 e6,.slice E7 m7 e7,.int .i64 ca,.int .i64 mo] 39):W.cell? ⟨g,0,none⟩=some (.string s)∧W.cell? ⟨g,1,none⟩=some (.int .i64 zo)∧W.cell? ⟨g,2,none⟩=some (.int .i64 dy)∧W.cell? ⟨g,3,none⟩=some (.int .i64 sc)∧W.cell? ⟨g,4,none⟩=some (.int .i64 un)∧W.cell? ⟨g,5,none⟩=some (.int .i64 ev)∧W.cell? ⟨g,6,none⟩=some (.slice E6 m6 e6)∧W.cell? ⟨g,7,none⟩=some (.slice E7 m7 e7)∧W.cell? ⟨g,8,none⟩=some (.int .i64 ca)∧W.cell? ⟨g,9,none⟩=some (.int .i64 mo):=⟨h.cell rfl,h.cell rfl,h.cell rfl,h.cell rfl,h.cell rfl,h.cell rfl,h.cell rfl,h.cell rfl,h.cell rfl,h.cell rfl⟩
set_option maxHeartbeats 8000000 in
theorem rotF_is {dy sc un ev:Int} {R:Bool} (hR:rotF dy sc un ev=R) (s:ByteArray) (zo:Int) (E6 E7:Option Addr) (m6 e6 m7 e7:Nat) (ca mo:Int) (w:World) (hT:CivT w) (hd:I64 dy):
  Calls Tryz.prog 206 #[.agg #[.string s,.int .i64 zo,.int .i64 dy,.int .i64 sc,.int .i64 un,.int .i64 ev,.slice E6 m6 e6,.slice E7 m7 e7,.int .i64 ca,.int .i64 mo]] w fun e w'=>e= .returned (.bool R)∧Below w.heap.size w w':=by
 have B0:=(Below.refl _ w).alloc (Nat.le_refl _) (.cells #[.string s,.int .i64 zo,.int .i64 dy,.int .i64 sc,.int .i64 un,.int .i64 ev,.slice E6 m6 e6,.slice E7 m7 e7,.int .i64 ca,.int .i64 mo] 39)
 obtain ⟨d,hdn⟩: ∃d,Rs.noDay dy=d:=⟨_,rfl⟩
 have C:=Lib.hid (noday_is hdn _ (hT.below B0) hd)
 have N0:=Lib.hid (BlkAt.new w #[.string s,.int .i64 zo,.int .i64 dy,.int .i64 sc,.int .i64 un,.int .i64 ev,.slice E6 m6 e6,.slice E7 m7 e7,.int .i64 ca,.int .i64 mo] 39)
 have HB:=Lib.hid B0
 unfold rotF at hR
 rw [hdn] at hR
 clear hT hd hdn B0
 by_cases h1:dy<1
 ·obtain rfl:R=false:=by rw [if_pos (.inl h1)] at hR;exact hR.symm
  clear hR
  go_enter Tryz.func206,Tryz.ntmps206
  go_wp2_with fail
  go_ret
  exact ⟨rfl,HB.out⟩
 cases d
 rotate_left
 ·obtain rfl:R=false:=by rw [if_pos (.inr (.inl rfl))] at hR;exact hR.symm
  clear hR
  go_enter Tryz.func206,Tryz.ntmps206
  go_wp2_with fail
  refine C.out.mono ?_
  rintro e w1 ⟨rfl,b1⟩
  have N1:=N0.out.after b1
  obtain ⟨q0,q1,q2,q3,q4,q5,q6,q7,q8,q9⟩:=lay_cells N1
  have B1:=bstep HB.out b1
  clear b1 N1
  go_wp2_with fail
  go_ret
  exact ⟨rfl,B1⟩
 by_cases h2:sc<0
 ·obtain rfl:R=false:=by rw [if_pos (.inr (.inr (.inl h2)))] at hR;exact hR.symm
  clear hR
  go_enter Tryz.func206,Tryz.ntmps206
  go_wp2_with fail
  refine C.out.mono ?_
  rintro e w1 ⟨rfl,b1⟩
  have N1:=N0.out.after b1
  obtain ⟨q0,q1,q2,q3,q4,q5,q6,q7,q8,q9⟩:=lay_cells N1
  have B1:=bstep HB.out b1
  clear b1 N1
  go_wp2_with fail
  go_ret
  exact ⟨rfl,B1⟩
 by_cases h3:86400≤sc
 ·obtain rfl:R=false:=by rw [if_pos (.inr (.inr (.inr h3)))] at hR;exact hR.symm
  clear hR
  go_enter Tryz.func206,Tryz.ntmps206
  go_wp2_with fail
  refine C.out.mono ?_
  rintro e w1 ⟨rfl,b1⟩
  have N1:=N0.out.after b1
  obtain ⟨q0,q1,q2,q3,q4,q5,q6,q7,q8,q9⟩:=lay_cells N1
  have B1:=bstep HB.out b1
  clear b1 N1
  go_wp2_with fail
  go_ret
  exact ⟨rfl,B1⟩
 rw [if_neg (by simp;omega)] at hR
 by_cases hu0:un=0
 ·subst hu0
  rw [if_pos (by decide)] at hR
  by_cases h4:(1:Int)≤ev
  ·obtain rfl:R=decide (ev≤400):=by rw [←hR,decide_eq_true h4];rfl
   clear hR
   go_enter Tryz.func206,Tryz.ntmps206
   go_wp2_with fail
   refine C.out.mono ?_
   rintro e w1 ⟨rfl,b1⟩
   have N1:=N0.out.after b1
   obtain ⟨q0,q1,q2,q3,q4,q5,q6,q7,q8,q9⟩:=lay_cells N1
   have B1:=bstep HB.out b1
   clear b1 N1
   go_wp2_with fail
   go_ret
   exact ⟨rfl,B1⟩
  ·obtain rfl:R=false:=by rw [←hR,decide_eq_false h4];rfl
   clear hR
   go_enter Tryz.func206,Tryz.ntmps206
   go_wp2_with fail
   refine C.out.mono ?_
   rintro e w1 ⟨rfl,b1⟩
   have N1:=N0.out.after b1
   obtain ⟨q0,q1,q2,q3,q4,q5,q6,q7,q8,q9⟩:=lay_cells N1
   have B1:=bstep HB.out b1
   clear b1 N1
   go_wp2_with fail
   go_ret
   exact ⟨rfl,B1⟩
 have v0:(un==0)=false:=by simpa using hu0
 by_cases hu1:un=1
 ·subst hu1
  rw [if_pos (by decide)] at hR
  by_cases h4:(1:Int)≤ev
  ·obtain rfl:R=decide (ev≤400):=by rw [←hR,decide_eq_true h4];rfl
   clear hR
   go_enter Tryz.func206,Tryz.ntmps206
   go_wp2_with fail
   refine C.out.mono ?_
   rintro e w1 ⟨rfl,b1⟩
   have N1:=N0.out.after b1
   obtain ⟨q0,q1,q2,q3,q4,q5,q6,q7,q8,q9⟩:=lay_cells N1
   have B1:=bstep HB.out b1
   clear b1 N1
   go_wp2_with fail
   go_ret
   exact ⟨rfl,B1⟩
  ·obtain rfl:R=false:=by rw [←hR,decide_eq_false h4];rfl
   clear hR
   go_enter Tryz.func206,Tryz.ntmps206
   go_wp2_with fail
   refine C.out.mono ?_
   rintro e w1 ⟨rfl,b1⟩
   have N1:=N0.out.after b1
   obtain ⟨q0,q1,q2,q3,q4,q5,q6,q7,q8,q9⟩:=lay_cells N1
   have B1:=bstep HB.out b1
   clear b1 N1
   go_wp2_with fail
   go_ret
   exact ⟨rfl,B1⟩
 have v1:(un==1)=false:=by simpa using hu1
 by_cases hu2:un=2
 ·subst hu2
  rw [if_pos (by decide)] at hR
  by_cases h4:(1:Int)≤ev
  ·obtain rfl:R=decide (ev≤400):=by rw [←hR,decide_eq_true h4];rfl
   clear hR
   go_enter Tryz.func206,Tryz.ntmps206
   go_wp2_with fail
   refine C.out.mono ?_
   rintro e w1 ⟨rfl,b1⟩
   have N1:=N0.out.after b1
   obtain ⟨q0,q1,q2,q3,q4,q5,q6,q7,q8,q9⟩:=lay_cells N1
   have B1:=bstep HB.out b1
   clear b1 N1
   go_wp2_with fail
   go_ret
   exact ⟨rfl,B1⟩
  ·obtain rfl:R=false:=by rw [←hR,decide_eq_false h4];rfl
   clear hR
   go_enter Tryz.func206,Tryz.ntmps206
   go_wp2_with fail
   refine C.out.mono ?_
   rintro e w1 ⟨rfl,b1⟩
   have N1:=N0.out.after b1
   obtain ⟨q0,q1,q2,q3,q4,q5,q6,q7,q8,q9⟩:=lay_cells N1
   have B1:=bstep HB.out b1
   clear b1 N1
   go_wp2_with fail
   go_ret
   exact ⟨rfl,B1⟩
 have v2:(un==2)=false:=by simpa using hu2
 obtain rfl:R=false:=by rw [if_neg (by omega)] at hR;exact hR.symm
 clear hR
 go_enter Tryz.func206,Tryz.ntmps206
 go_wp2_with fail
 refine C.out.mono ?_
 rintro e w1 ⟨rfl,b1⟩
 have N1:=N0.out.after b1
 obtain ⟨q0,q1,q2,q3,q4,q5,q6,q7,q8,q9⟩:=lay_cells N1
 have B1:=bstep HB.out b1
 clear b1 N1
 go_wp2_with fail
 go_ret
 exact ⟨rfl,B1⟩
set_option maxHeartbeats 8000000 in
theorem modF_is {nc:Nat} {mo ca:Int} {R:Int} (hR:modF nc mo ca=R) (s:ByteArray) (zo:Int) (E6 E7:Option Addr) (m6 e6 m7 e7:Nat) (dy sc un ev:Int) (A1 A2 A3 A4:Option Addr) (n1 c1 n2 c2 c3 n4 c4:Nat) (w:World):
  Calls Tryz.prog 207 #[.agg #[.slice A1 n1 c1,.slice A2 n2 c2,.slice A3 nc c3,.slice A4 n4 c4],.agg #[.string s,.int .i64 zo,.int .i64 dy,.int .i64 sc,.int .i64 un,.int .i64 ev,.slice E6 m6 e6,.slice E7 m7 e7,.int .i64 ca,.int .i64 mo]] w fun e w'=>e= .returned (.int .i64 R)∧Below w.heap.size w w':=by
 have B0:=(Below.refl _ w).alloc (Nat.le_refl _) (.cells #[.slice A1 n1 c1,.slice A2 n2 c2,.slice A3 nc c3,.slice A4 n4 c4] 33)
 have B1:=Lib.hid (B0.alloc B0.size (.cells #[.string s,.int .i64 zo,.int .i64 dy,.int .i64 sc,.int .i64 un,.int .i64 ev,.slice E6 m6 e6,.slice E7 m7 e7,.int .i64 ca,.int .i64 mo] 39))
 clear B0
 unfold modF at hR
 by_cases h0:mo=0
 ·subst h0
  rw [if_pos rfl] at hR
  by_cases h1:ca=0
  ·subst h1
   obtain rfl:R=0:=by rw [if_neg (by decide)] at hR;exact hR.symm
   clear hR
   go_enter Tryz.func207,Tryz.ntmps207
   go_wp2_with fail
   go_ret
   exact ⟨rfl,B1.out⟩
  ·have t1:(ca !=0)=true:=by simpa using h1
   obtain rfl:R=1:=by rw [if_pos h1] at hR;exact hR.symm
   clear hR h1
   go_enter Tryz.func207,Tryz.ntmps207
   go_wp2_with fail
   go_ret
   exact ⟨rfl,B1.out⟩
 rw [if_neg h0] at hR
 have t0:(mo==0)=false:=by simpa using h0
 obtain ⟨u,hu⟩: ∃u,Rs.isIx ca nc=u:=⟨_,rfl⟩
 rw [hu] at hR
 have HU:=Lib.hid hu
 clear hu
 by_cases h1:mo=1
 ·subst h1
  rw [if_pos (by decide)] at hR
  cases u
  ·obtain rfl:R=3:=by simpa using hR.symm
   clear hR
   go_enter Tryz.func207,Tryz.ntmps207
   go_wp2_with fail
   refine (isix_c HU.out _ _ _).mono ?_
   rintro e w9 ⟨rfl,rfl⟩
   go_wp2_with fail
   go_ret
   exact ⟨rfl,B1.out⟩
  ·obtain rfl:R=0:=by simpa using hR.symm
   clear hR
   go_enter Tryz.func207,Tryz.ntmps207
   go_wp2_with fail
   refine (isix_c HU.out _ _ _).mono ?_
   rintro e w9 ⟨rfl,rfl⟩
   go_wp2_with fail
   go_ret
   exact ⟨rfl,B1.out⟩
 have t1:(mo==1)=false:=by simpa using h1
 by_cases h2:mo=2
 ·subst h2
  rw [if_pos (by decide)] at hR
  cases u
  ·obtain rfl:R=3:=by simpa using hR.symm
   clear hR
   go_enter Tryz.func207,Tryz.ntmps207
   go_wp2_with fail
   refine (isix_c HU.out _ _ _).mono ?_
   rintro e w9 ⟨rfl,rfl⟩
   go_wp2_with fail
   go_ret
   exact ⟨rfl,B1.out⟩
  ·obtain rfl:R=0:=by simpa using hR.symm
   clear hR
   go_enter Tryz.func207,Tryz.ntmps207
   go_wp2_with fail
   refine (isix_c HU.out _ _ _).mono ?_
   rintro e w9 ⟨rfl,rfl⟩
   go_wp2_with fail
   go_ret
   exact ⟨rfl,B1.out⟩
 have t2:(mo==2)=false:=by simpa using h2
 obtain rfl:R=1:=by rw [if_neg (by omega)] at hR;exact hR.symm
 clear hR
 go_enter Tryz.func207,Tryz.ntmps207
 go_wp2_with fail
 go_ret
 exact ⟨rfl,B1.out⟩
def badMem (np:Nat) (m:Int):Bool:= !Rs.isIx m np
theorem nob_is {m:Int} {n2:Nat} {p:Bool} (hp:badMem n2 m=p) (g:Nat) (A2:Option Addr) (c2:Nat) (w:World) (h:w.cell? ⟨g,1,none⟩=some (.slice A2 n2 c2)):Calls Tryz.prog 204 #[.int .i64 m,.pointer (some ⟨g,0,none⟩)] w fun e w'=>e= .returned (.bool p)∧Below w.heap.size w w':=by
 obtain ⟨u,hu⟩: ∃u,Rs.isIx m n2=u:=⟨_,rfl⟩
 unfold badMem at hp
 rw [hu] at hp
 have C:=Lib.hid (isix_p hu A2 c2 w)
 subst hp
 go_enter Tryz.func204,Tryz.ntmps204
 go_wp2_with fail
 refine C.out.mono ?_
 rintro e w9 ⟨rfl,rfl⟩
 go_wp2_with fail
 go_ret
 exact ⟨rfl,Below.refl _ _⟩
set_option maxHeartbeats 4000000 in
theorem nb_ix (A:Option Addr) (n c:Nat) (g:Nat) (A2:Option Addr) (n2 c2:Nat) (l:List Int) (R:Bool) (w:World) (hA:LIn 1 eInt 0 w.heap.size w (A,n,c) l) (h1:w.cell? ⟨g,1,none⟩=some (.slice A2 n2 c2)) (hR:(l.any (badMem n2))=R):
  Calls Tryz.prog 199 #[.slice A n c,.func (.func 204) #[] #[.pointer (some ⟨g,0,none⟩)]] w fun e w'=> ∃r,e= .returned (.int .i64 r)∧decide (0≤r)=R∧Below w.heap.size w w':=by
 have HA:=Lib.hid hA
 have hn:=hA.le
 have hl:=hA.len
 simp only at hn hl
 have HL:=Lib.hid hl
 have HR0:Hid (((l.drop 0).any (badMem n2))=R):=Lib.hid hR
 have H1:=Lib.hid h1;clear h1
 clear hA hR hl
 go_enter Tryz.func199,Tryz.ntmps199
 go_wp2_with fail
 go_loopw [8] (fun i wr=> ∃(k:Nat),k≤n∧i= .int .i64 k∧Hid (((l.drop k).any (badMem n2))=R)∧Hid (Below w.heap.size w wr)) (fun i _=>n-(intOf i).toNat)
 case atStart=>exact ⟨0,Nat.zero_le _,rfl,HR0,Lib.hid (Below.refl _ _)⟩
 case round=>
  clear HR0
  obtain ⟨k,hk,rfl,HR,HB⟩:=hrel
  by_cases hlt:k<n
  ·obtain ⟨x,b,off,hx,ea,hb,hc⟩:=(HA.out.kept (.of_below HB.out (Nat.le_refl _))).get (i:=k) hlt
   simp only at ea
   subst ea
   have hxm:=List.mem_of_getElem? hx
   have c0:=hc 0 (by decide)
   simp only [eInt,Nat.mul_one,Nat.add_zero] at c0
   have hst:=HR.out
   rw [drop_cons' hx,List.any_cons] at hst
   obtain ⟨p,hp⟩: ∃p,(badMem n2) x=p:=⟨_,rfl⟩
   have C:=Lib.hid (nob_is hp g A2 c2 wr (cell_lift H1.out HB.out))
   rw [hp] at hst
   clear hp hc hx hxm HR
   cases p
   ·have N:=Lib.hid (show ((l.drop (k+1)).any (badMem n2))=R from hst)
    clear hst
    go_wp2_with fail
    refine C.out.mono ?_
    rintro e w1 ⟨rfl,b1⟩
    skip
    have B1:=Lib.hid (bstep HB.out b1)
    clear b1
    go_wp2_with fail
    go_roundw
    case rel=>exact ⟨k+1,by omega,by go_num,N,B1⟩
    case measure=>simp [intOf];omega
   ·have N:=Lib.hid (show true=R from hst)
    clear hst
    go_wp2_with fail
    refine C.out.mono ?_
    rintro e w1 ⟨rfl,b1⟩
    skip
    have B1:=bstep HB.out b1
    go_wp2_with fail
    go_ret
    exact ⟨_,rfl,by rw [←N.out];simp,B1⟩
  ·have N:=Lib.hid (show false=R by have h:=HR.out;rwa [List.drop_of_length_le (by rw [HL.out];omega)] at h)
   go_wp2_with fail
   go_ret
   exact ⟨_,rfl,by rw [←N.out];rfl,HB.out⟩
set_option maxHeartbeats 1000000 in
theorem nb_ct (A:Option Addr) (n c:Nat) (g:Nat) (A2:Option Addr) (n2 c2:Nat) (l:List Int) (R:Bool) (w:World) (hA:LIn 1 eInt 0 w.heap.size w (A,n,c) l) (h1:w.cell? ⟨g,1,none⟩=some (.slice A2 n2 c2)) (hR:(l.any (badMem n2))=R):
  Calls Tryz.prog 159 #[.slice A n c,.func (.func 204) #[] #[.pointer (some ⟨g,0,none⟩)]] w fun e w'=>e= .returned (.bool R)∧Below w.heap.size w w':=by
 have C:=Lib.hid (nb_ix A n c g A2 n2 c2 l R w hA h1 hR)
 clear hA hR
 go_enter Tryz.func159,Tryz.ntmps159
 go_wp2_with fail
 refine C.out.mono ?_
 rintro e w1 ⟨r,rfl,hr,b1⟩
 have HR:=Lib.hid hr
 clear hr
 go_wp2_with fail
 go_ret
 exact ⟨ret_bool HR.out,b1⟩
open Go.RowKit
theorem edi_cells {W:World} {g:Nat} {k a b f t:Int} (h:BlkAt W g #[.int .i64 k,.int .i64 a,.int .i64 b,.int .i64 f,.int .i64 t] 93):W.cell? ⟨g,0,none⟩=some (.int .i64 k)∧W.cell? ⟨g,1,none⟩=some (.int .i64 a)∧W.cell? ⟨g,2,none⟩=some (.int .i64 b)∧W.cell? ⟨g,3,none⟩=some (.int .i64 f)∧W.cell? ⟨g,4,none⟩=some (.int .i64 t):=⟨h.cell rfl,h.cell rfl,h.cell rfl,h.cell rfl,h.cell rfl⟩
set_option maxHeartbeats 16000000 in
theorem ediF_is {np:Nat} {k a b f t:Int} {R:Int} (hR:ediF np k a b f t=R) (A1 A2 A3 A4:Option Addr) (n1 c1 c2 n3 c3 n4 c4:Nat) (w:World) (hT:CivT w) (ht:I64 t):
  Calls Tryz.prog 165 #[.agg #[.slice A1 n1 c1,.slice A2 np c2,.slice A3 n3 c3,.slice A4 n4 c4],.agg #[.int .i64 k,.int .i64 a,.int .i64 b,.int .i64 f,.int .i64 t]] w fun e w'=>e= .returned (.int .i64 R)∧Below w.heap.size w w':=by
 have B0:=(Below.refl _ w).alloc (Nat.le_refl _) (.cells #[.slice A1 n1 c1,.slice A2 np c2,.slice A3 n3 c3,.slice A4 n4 c4] 33)
 have B1:=Lib.hid (B0.alloc B0.size (.cells #[.int .i64 k,.int .i64 a,.int .i64 b,.int .i64 f,.int .i64 t] 93))
 have N1:=Lib.hid (blk_next (w:=w) (.cells #[.slice A1 n1 c1,.slice A2 np c2,.slice A3 n3 c3,.slice A4 n4 c4] 33) (.cells #[.int .i64 k,.int .i64 a,.int .i64 b,.int .i64 f,.int .i64 t] 93) rfl)
 have HT:=Lib.hid hT
 clear B0 hT
 obtain ⟨ua,hua⟩: ∃u,Rs.isIx a np=u:=⟨_,rfl⟩
 obtain ⟨ub,hub⟩: ∃u,Rs.isIx b np=u:=⟨_,rfl⟩
 obtain ⟨D,hD⟩: ∃D,t.tdiv 86400=D:=⟨_,rfl⟩
 obtain ⟨nd,hnd⟩: ∃u,Rs.noDay D=u:=⟨_,rfl⟩
 have hDi:I64 D:=by
  obtain ⟨h1,h2⟩:=ht
  subst hD
  rcases Int.le_total 0 t with h0|h0
  ·rw [Int.tdiv_eq_ediv_of_nonneg h0];exact ⟨by omega,by omega⟩
  ·obtain ⟨u,rfl⟩: ∃u,t= -u:=⟨-t,by omega⟩
   rw [Int.neg_tdiv,Int.tdiv_eq_ediv_of_nonneg (by omega)]
   exact ⟨by omega,by omega⟩
 have hD2:0≤t→t/86400=D:=fun h=>by rw [←hD,Int.tdiv_eq_ediv_of_nonneg h]
 unfold ediF at hR
 rw [hD,hua,hub,hnd] at hR
 have HA:=Lib.hid hua
 have HBI:=Lib.hid hub
 have HN:=Lib.hid hnd
 have HD:=Lib.hid hDi
 have HD2:=Lib.hid hD2
 clear hua hub hnd hDi hD hD2 ht
 by_cases k0:k=0
 ·subst k0
  rw [if_neg (by decide)] at hR
  cases ua
  ·rw [if_pos (by simp)] at hR
   obtain rfl:R=3:=by simpa using hR.symm
   clear hR
   go_enter Tryz.func165,Tryz.ntmps165
   go_wp2_with fail
   go_quiet (fail)
   go_wp2_with fail
   refine (isix_p HA.out _ _ _).mono ?_
   rintro e w9 ⟨rfl,rfl⟩
   go_wp2_with fail
   go_ret
   exact ⟨rfl,bdrewN B1.out _⟩
  ·rw [if_neg (by simp),if_neg (by simp)] at hR
   by_cases hb:b=0
   rotate_left
   ·rw [if_pos ⟨by decide,hb⟩] at hR
    have b0:(b !=0)=true:=by simpa using hb
    obtain rfl:R=1:=by simpa using hR.symm
    clear hR
    go_enter Tryz.func165,Tryz.ntmps165
    go_wp2_with fail
    go_quiet (fail)
    go_wp2_with fail
    refine (isix_p HA.out _ _ _).mono ?_
    rintro e w9 ⟨rfl,rfl⟩
    go_wp2_with fail
    go_ret
    exact ⟨rfl,bdrewN B1.out _⟩
   subst hb
   rw [if_neg (by simp),if_neg (by simp)] at hR
   by_cases hf:f<0
   ·simp only [hf,true_or,if_true] at hR
    obtain rfl:R=1:=by simpa using hR.symm
    clear hR
    go_enter Tryz.func165,Tryz.ntmps165
    go_wp2_with fail
    go_quiet (fail)
    go_wp2_with fail
    refine (isix_p HA.out _ _ _).mono ?_
    rintro e w9 ⟨rfl,rfl⟩
    go_wp2_with fail
    go_ret
    exact ⟨rfl,bdrewN B1.out _⟩
   have f1:decide (f<0)=false:=decide_eq_false hf
   by_cases hh:t<0
   ·simp only [hh,true_or,or_true,if_true] at hR
    obtain rfl:R=1:=by simpa using hR.symm
    clear hR
    go_enter Tryz.func165,Tryz.ntmps165
    go_wp2_with fail
    go_quiet (fail)
    go_wp2_with fail
    refine (isix_p HA.out _ _ _).mono ?_
    rintro e w9 ⟨rfl,rfl⟩
    go_wp2_with fail
    go_ret
    exact ⟨rfl,bdrewN B1.out _⟩
   have f2:decide (t<0)=false:=decide_eq_false hh
   have f3:=HD2.out (by omega)
   have f4:t.tdiv 86400=D:=by rw [←f3,Int.tdiv_eq_ediv_of_nonneg (by omega)]
   have f5:wrap64 D=D:=by obtain ⟨p,q⟩:=HD.out;unfold wrap64;omega
   simp only [hf,hh,false_or] at hR
   cases nd
   rotate_left
   ·simp only [if_true] at hR
    obtain rfl:R=1:=by simpa using hR.symm
    clear hR
    go_enter Tryz.func165,Tryz.ntmps165
    go_wp2_with fail
    go_quiet (fail)
    go_wp2_with fail
    refine (isix_p HA.out _ _ _).mono ?_
    rintro e w9 ⟨rfl,rfl⟩
    go_wp2_with fail
    refine (noday_is HN.out _ (HT.out.below (bdrewN B1.out _)) HD.out).mono ?_
    rintro e w3 ⟨rfl,b3⟩
    obtain ⟨z0,z1,z2,z3,z4⟩:=edi_cells (BlkAt.after (BlkAt.drewN N1.out _) b3)
    have B3:=Lib.hid (bstep (bdrewN B1.out _) b3)
    clear b3
    go_wp2_with fail
    go_ret
    exact ⟨rfl,B3.out⟩
   simp only [Bool.false_eq_true,if_false] at hR
   by_cases ho:t≤f
   ·simp only [ho,if_true] at hR
    obtain rfl:R=6:=by simpa using hR.symm
    clear hR
    go_enter Tryz.func165,Tryz.ntmps165
    go_wp2_with fail
    go_quiet (fail)
    go_wp2_with fail
    refine (isix_p HA.out _ _ _).mono ?_
    rintro e w9 ⟨rfl,rfl⟩
    go_wp2_with fail
    refine (noday_is HN.out _ (HT.out.below (bdrewN B1.out _)) HD.out).mono ?_
    rintro e w3 ⟨rfl,b3⟩
    obtain ⟨z0,z1,z2,z3,z4⟩:=edi_cells (BlkAt.after (BlkAt.drewN N1.out _) b3)
    have B3:=Lib.hid (bstep (bdrewN B1.out _) b3)
    clear b3
    go_wp2_with fail
    go_ret
    exact ⟨rfl,B3.out⟩
   ·simp only [ho,if_false] at hR
    obtain rfl:R=0:=by simpa using hR.symm
    clear hR
    go_enter Tryz.func165,Tryz.ntmps165
    go_wp2_with fail
    go_quiet (fail)
    go_wp2_with fail
    refine (isix_p HA.out _ _ _).mono ?_
    rintro e w9 ⟨rfl,rfl⟩
    go_wp2_with fail
    refine (noday_is HN.out _ (HT.out.below (bdrewN B1.out _)) HD.out).mono ?_
    rintro e w3 ⟨rfl,b3⟩
    obtain ⟨z0,z1,z2,z3,z4⟩:=edi_cells (BlkAt.after (BlkAt.drewN N1.out _) b3)
    have B3:=Lib.hid (bstep (bdrewN B1.out _) b3)
    clear b3
    go_wp2_with fail
    go_ret
    exact ⟨rfl,B3.out⟩
 have j0:(k==0)=false:=by simpa using k0
 have l0:(k !=0)=true:=by simpa using k0
 by_cases k1:k=1
 ·subst k1
  rw [if_neg (by decide)] at hR
  cases ua
  ·by_cases ha:a= -1
   rotate_left
   ·rw [if_pos (by simp [ha])] at hR
    have a0:(a== -1)=false:=by simpa using ha
    obtain rfl:R=3:=by simpa using hR.symm
    clear hR
    go_enter Tryz.func165,Tryz.ntmps165
    go_wp2_with fail
    go_quiet (fail)
    go_wp2_with fail
    refine (isix_p HA.out _ _ _).mono ?_
    rintro e w9 ⟨rfl,rfl⟩
    go_wp2_with fail
    go_ret
    exact ⟨rfl,bdrewN B1.out _⟩
   subst ha
   rw [if_neg (by simp),if_neg (by simp)] at hR
   by_cases hb:b=0
   rotate_left
   ·rw [if_pos ⟨by decide,hb⟩] at hR
    have b0:(b !=0)=true:=by simpa using hb
    obtain rfl:R=1:=by simpa using hR.symm
    clear hR
    go_enter Tryz.func165,Tryz.ntmps165
    go_wp2_with fail
    go_quiet (fail)
    go_wp2_with fail
    refine (isix_p HA.out _ _ _).mono ?_
    rintro e w9 ⟨rfl,rfl⟩
    go_wp2_with fail
    go_ret
    exact ⟨rfl,bdrewN B1.out _⟩
   subst hb
   rw [if_neg (by simp),if_neg (by simp)] at hR
   by_cases hf:f<0
   ·simp only [hf,true_or,if_true] at hR
    obtain rfl:R=1:=by simpa using hR.symm
    clear hR
    go_enter Tryz.func165,Tryz.ntmps165
    go_wp2_with fail
    go_quiet (fail)
    go_wp2_with fail
    refine (isix_p HA.out _ _ _).mono ?_
    rintro e w9 ⟨rfl,rfl⟩
    go_wp2_with fail
    go_ret
    exact ⟨rfl,bdrewN B1.out _⟩
   have f1:decide (f<0)=false:=decide_eq_false hf
   by_cases hh:t<0
   ·simp only [hh,true_or,or_true,if_true] at hR
    obtain rfl:R=1:=by simpa using hR.symm
    clear hR
    go_enter Tryz.func165,Tryz.ntmps165
    go_wp2_with fail
    go_quiet (fail)
    go_wp2_with fail
    refine (isix_p HA.out _ _ _).mono ?_
    rintro e w9 ⟨rfl,rfl⟩
    go_wp2_with fail
    go_ret
    exact ⟨rfl,bdrewN B1.out _⟩
   have f2:decide (t<0)=false:=decide_eq_false hh
   have f3:=HD2.out (by omega)
   have f4:t.tdiv 86400=D:=by rw [←f3,Int.tdiv_eq_ediv_of_nonneg (by omega)]
   have f5:wrap64 D=D:=by obtain ⟨p,q⟩:=HD.out;unfold wrap64;omega
   simp only [hf,hh,false_or] at hR
   cases nd
   rotate_left
   ·simp only [if_true] at hR
    obtain rfl:R=1:=by simpa using hR.symm
    clear hR
    go_enter Tryz.func165,Tryz.ntmps165
    go_wp2_with fail
    go_quiet (fail)
    go_wp2_with fail
    refine (isix_p HA.out _ _ _).mono ?_
    rintro e w9 ⟨rfl,rfl⟩
    go_wp2_with fail
    refine (noday_is HN.out _ (HT.out.below (bdrewN B1.out _)) HD.out).mono ?_
    rintro e w3 ⟨rfl,b3⟩
    obtain ⟨z0,z1,z2,z3,z4⟩:=edi_cells (BlkAt.after (BlkAt.drewN N1.out _) b3)
    have B3:=Lib.hid (bstep (bdrewN B1.out _) b3)
    clear b3
    go_wp2_with fail
    go_ret
    exact ⟨rfl,B3.out⟩
   simp only [Bool.false_eq_true,if_false] at hR
   by_cases ho:t≤f
   ·simp only [ho,if_true] at hR
    obtain rfl:R=6:=by simpa using hR.symm
    clear hR
    go_enter Tryz.func165,Tryz.ntmps165
    go_wp2_with fail
    go_quiet (fail)
    go_wp2_with fail
    refine (isix_p HA.out _ _ _).mono ?_
    rintro e w9 ⟨rfl,rfl⟩
    go_wp2_with fail
    refine (noday_is HN.out _ (HT.out.below (bdrewN B1.out _)) HD.out).mono ?_
    rintro e w3 ⟨rfl,b3⟩
    obtain ⟨z0,z1,z2,z3,z4⟩:=edi_cells (BlkAt.after (BlkAt.drewN N1.out _) b3)
    have B3:=Lib.hid (bstep (bdrewN B1.out _) b3)
    clear b3
    go_wp2_with fail
    go_ret
    exact ⟨rfl,B3.out⟩
   ·simp only [ho,if_false] at hR
    obtain rfl:R=0:=by simpa using hR.symm
    clear hR
    go_enter Tryz.func165,Tryz.ntmps165
    go_wp2_with fail
    go_quiet (fail)
    go_wp2_with fail
    refine (isix_p HA.out _ _ _).mono ?_
    rintro e w9 ⟨rfl,rfl⟩
    go_wp2_with fail
    refine (noday_is HN.out _ (HT.out.below (bdrewN B1.out _)) HD.out).mono ?_
    rintro e w3 ⟨rfl,b3⟩
    obtain ⟨z0,z1,z2,z3,z4⟩:=edi_cells (BlkAt.after (BlkAt.drewN N1.out _) b3)
    have B3:=Lib.hid (bstep (bdrewN B1.out _) b3)
    clear b3
    go_wp2_with fail
    go_ret
    exact ⟨rfl,B3.out⟩
  ·skip
   rw [if_neg (by simp),if_neg (by simp)] at hR
   by_cases hb:b=0
   rotate_left
   ·rw [if_pos ⟨by decide,hb⟩] at hR
    have b0:(b !=0)=true:=by simpa using hb
    obtain rfl:R=1:=by simpa using hR.symm
    clear hR
    go_enter Tryz.func165,Tryz.ntmps165
    go_wp2_with fail
    go_quiet (fail)
    go_wp2_with fail
    refine (isix_p HA.out _ _ _).mono ?_
    rintro e w9 ⟨rfl,rfl⟩
    go_wp2_with fail
    go_ret
    exact ⟨rfl,bdrewN B1.out _⟩
   subst hb
   rw [if_neg (by simp),if_neg (by simp)] at hR
   by_cases hf:f<0
   ·simp only [hf,true_or,if_true] at hR
    obtain rfl:R=1:=by simpa using hR.symm
    clear hR
    go_enter Tryz.func165,Tryz.ntmps165
    go_wp2_with fail
    go_quiet (fail)
    go_wp2_with fail
    refine (isix_p HA.out _ _ _).mono ?_
    rintro e w9 ⟨rfl,rfl⟩
    go_wp2_with fail
    go_ret
    exact ⟨rfl,bdrewN B1.out _⟩
   have f1:decide (f<0)=false:=decide_eq_false hf
   by_cases hh:t<0
   ·simp only [hh,true_or,or_true,if_true] at hR
    obtain rfl:R=1:=by simpa using hR.symm
    clear hR
    go_enter Tryz.func165,Tryz.ntmps165
    go_wp2_with fail
    go_quiet (fail)
    go_wp2_with fail
    refine (isix_p HA.out _ _ _).mono ?_
    rintro e w9 ⟨rfl,rfl⟩
    go_wp2_with fail
    go_ret
    exact ⟨rfl,bdrewN B1.out _⟩
   have f2:decide (t<0)=false:=decide_eq_false hh
   have f3:=HD2.out (by omega)
   have f4:t.tdiv 86400=D:=by rw [←f3,Int.tdiv_eq_ediv_of_nonneg (by omega)]
   have f5:wrap64 D=D:=by obtain ⟨p,q⟩:=HD.out;unfold wrap64;omega
   simp only [hf,hh,false_or] at hR
   cases nd
   rotate_left
   ·simp only [if_true] at hR
    obtain rfl:R=1:=by simpa using hR.symm
    clear hR
    go_enter Tryz.func165,Tryz.ntmps165
    go_wp2_with fail
    go_quiet (fail)
    go_wp2_with fail
    refine (isix_p HA.out _ _ _).mono ?_
    rintro e w9 ⟨rfl,rfl⟩
    go_wp2_with fail
    refine (noday_is HN.out _ (HT.out.below (bdrewN B1.out _)) HD.out).mono ?_
    rintro e w3 ⟨rfl,b3⟩
    obtain ⟨z0,z1,z2,z3,z4⟩:=edi_cells (BlkAt.after (BlkAt.drewN N1.out _) b3)
    have B3:=Lib.hid (bstep (bdrewN B1.out _) b3)
    clear b3
    go_wp2_with fail
    go_ret
    exact ⟨rfl,B3.out⟩
   simp only [Bool.false_eq_true,if_false] at hR
   by_cases ho:t≤f
   ·simp only [ho,if_true] at hR
    obtain rfl:R=6:=by simpa using hR.symm
    clear hR
    go_enter Tryz.func165,Tryz.ntmps165
    go_wp2_with fail
    go_quiet (fail)
    go_wp2_with fail
    refine (isix_p HA.out _ _ _).mono ?_
    rintro e w9 ⟨rfl,rfl⟩
    go_wp2_with fail
    refine (noday_is HN.out _ (HT.out.below (bdrewN B1.out _)) HD.out).mono ?_
    rintro e w3 ⟨rfl,b3⟩
    obtain ⟨z0,z1,z2,z3,z4⟩:=edi_cells (BlkAt.after (BlkAt.drewN N1.out _) b3)
    have B3:=Lib.hid (bstep (bdrewN B1.out _) b3)
    clear b3
    go_wp2_with fail
    go_ret
    exact ⟨rfl,B3.out⟩
   ·simp only [ho,if_false] at hR
    obtain rfl:R=0:=by simpa using hR.symm
    clear hR
    go_enter Tryz.func165,Tryz.ntmps165
    go_wp2_with fail
    go_quiet (fail)
    go_wp2_with fail
    refine (isix_p HA.out _ _ _).mono ?_
    rintro e w9 ⟨rfl,rfl⟩
    go_wp2_with fail
    refine (noday_is HN.out _ (HT.out.below (bdrewN B1.out _)) HD.out).mono ?_
    rintro e w3 ⟨rfl,b3⟩
    obtain ⟨z0,z1,z2,z3,z4⟩:=edi_cells (BlkAt.after (BlkAt.drewN N1.out _) b3)
    have B3:=Lib.hid (bstep (bdrewN B1.out _) b3)
    clear b3
    go_wp2_with fail
    go_ret
    exact ⟨rfl,B3.out⟩
 have j1:(k==1)=false:=by simpa using k1
 have l1:(k !=1)=true:=by simpa using k1
 by_cases k2:k=2
 ·subst k2
  rw [if_neg (by decide)] at hR
  cases ua
  ·rw [if_pos (by simp)] at hR
   obtain rfl:R=3:=by simpa using hR.symm
   clear hR
   go_enter Tryz.func165,Tryz.ntmps165
   go_wp2_with fail
   go_quiet (fail)
   go_wp2_with fail
   refine (isix_p HA.out _ _ _).mono ?_
   rintro e w9 ⟨rfl,rfl⟩
   go_wp2_with fail
   go_ret
   exact ⟨rfl,bdrewN B1.out _⟩
  ·rw [if_neg (by simp)] at hR
   cases ub
   ·rw [if_pos (by simp)] at hR
    obtain rfl:R=3:=by simpa using hR.symm
    clear hR
    go_enter Tryz.func165,Tryz.ntmps165
    go_wp2_with fail
    go_quiet (fail)
    go_wp2_with fail
    refine (isix_p HA.out _ _ _).mono ?_
    rintro e w9 ⟨rfl,rfl⟩
    go_wp2_with fail
    refine (isix_p HBI.out _ _ _).mono ?_
    rintro e w9 ⟨rfl,rfl⟩
    go_wp2_with fail
    go_ret
    exact ⟨rfl,bdrewN B1.out _⟩
   ·rw [if_neg (by simp),if_neg (by simp)] at hR
    by_cases he:a=b
    ·rw [if_pos ⟨rfl,he⟩] at hR
     have e0:(a==b)=true:=by simpa using he
     clear he
     obtain rfl:R=4:=by simpa using hR.symm
     clear hR
     go_enter Tryz.func165,Tryz.ntmps165
     go_wp2_with fail
     go_quiet (fail)
     go_wp2_with fail
     refine (isix_p HA.out _ _ _).mono ?_
     rintro e w9 ⟨rfl,rfl⟩
     go_wp2_with fail
     refine (isix_p HBI.out _ _ _).mono ?_
     rintro e w9 ⟨rfl,rfl⟩
     go_wp2_with fail
     go_ret
     exact ⟨rfl,bdrewN B1.out _⟩
    have e0:(a==b)=false:=by simpa using he
    rw [if_neg (by simp [he])] at hR
    by_cases hf:f<0
    ·simp only [hf,true_or,if_true] at hR
     obtain rfl:R=1:=by simpa using hR.symm
     clear hR
     go_enter Tryz.func165,Tryz.ntmps165
     go_wp2_with fail
     go_quiet (fail)
     go_wp2_with fail
     refine (isix_p HA.out _ _ _).mono ?_
     rintro e w9 ⟨rfl,rfl⟩
     go_wp2_with fail
     refine (isix_p HBI.out _ _ _).mono ?_
     rintro e w9 ⟨rfl,rfl⟩
     go_wp2_with fail
     go_ret
     exact ⟨rfl,bdrewN B1.out _⟩
    have f1:decide (f<0)=false:=decide_eq_false hf
    by_cases hh:t<0
    ·simp only [hh,true_or,or_true,if_true] at hR
     obtain rfl:R=1:=by simpa using hR.symm
     clear hR
     go_enter Tryz.func165,Tryz.ntmps165
     go_wp2_with fail
     go_quiet (fail)
     go_wp2_with fail
     refine (isix_p HA.out _ _ _).mono ?_
     rintro e w9 ⟨rfl,rfl⟩
     go_wp2_with fail
     refine (isix_p HBI.out _ _ _).mono ?_
     rintro e w9 ⟨rfl,rfl⟩
     go_wp2_with fail
     go_ret
     exact ⟨rfl,bdrewN B1.out _⟩
    have f2:decide (t<0)=false:=decide_eq_false hh
    have f3:=HD2.out (by omega)
    have f4:t.tdiv 86400=D:=by rw [←f3,Int.tdiv_eq_ediv_of_nonneg (by omega)]
    have f5:wrap64 D=D:=by obtain ⟨p,q⟩:=HD.out;unfold wrap64;omega
    simp only [hf,hh,false_or] at hR
    cases nd
    rotate_left
    ·simp only [if_true] at hR
     obtain rfl:R=1:=by simpa using hR.symm
     clear hR
     go_enter Tryz.func165,Tryz.ntmps165
     go_wp2_with fail
     go_quiet (fail)
     go_wp2_with fail
     refine (isix_p HA.out _ _ _).mono ?_
     rintro e w9 ⟨rfl,rfl⟩
     go_wp2_with fail
     refine (isix_p HBI.out _ _ _).mono ?_
     rintro e w9 ⟨rfl,rfl⟩
     go_wp2_with fail
     refine (noday_is HN.out _ (HT.out.below (bdrewN B1.out _)) HD.out).mono ?_
     rintro e w3 ⟨rfl,b3⟩
     obtain ⟨z0,z1,z2,z3,z4⟩:=edi_cells (BlkAt.after (BlkAt.drewN N1.out _) b3)
     have B3:=Lib.hid (bstep (bdrewN B1.out _) b3)
     clear b3
     go_wp2_with fail
     go_ret
     exact ⟨rfl,B3.out⟩
    simp only [Bool.false_eq_true,if_false] at hR
    by_cases ho:t≤f
    ·simp only [ho,if_true] at hR
     obtain rfl:R=6:=by simpa using hR.symm
     clear hR
     go_enter Tryz.func165,Tryz.ntmps165
     go_wp2_with fail
     go_quiet (fail)
     go_wp2_with fail
     refine (isix_p HA.out _ _ _).mono ?_
     rintro e w9 ⟨rfl,rfl⟩
     go_wp2_with fail
     refine (isix_p HBI.out _ _ _).mono ?_
     rintro e w9 ⟨rfl,rfl⟩
     go_wp2_with fail
     refine (noday_is HN.out _ (HT.out.below (bdrewN B1.out _)) HD.out).mono ?_
     rintro e w3 ⟨rfl,b3⟩
     obtain ⟨z0,z1,z2,z3,z4⟩:=edi_cells (BlkAt.after (BlkAt.drewN N1.out _) b3)
     have B3:=Lib.hid (bstep (bdrewN B1.out _) b3)
     clear b3
     go_wp2_with fail
     go_ret
     exact ⟨rfl,B3.out⟩
    ·simp only [ho,if_false] at hR
     obtain rfl:R=0:=by simpa using hR.symm
     clear hR
     go_enter Tryz.func165,Tryz.ntmps165
     go_wp2_with fail
     go_quiet (fail)
     go_wp2_with fail
     refine (isix_p HA.out _ _ _).mono ?_
     rintro e w9 ⟨rfl,rfl⟩
     go_wp2_with fail
     refine (isix_p HBI.out _ _ _).mono ?_
     rintro e w9 ⟨rfl,rfl⟩
     go_wp2_with fail
     refine (noday_is HN.out _ (HT.out.below (bdrewN B1.out _)) HD.out).mono ?_
     rintro e w3 ⟨rfl,b3⟩
     obtain ⟨z0,z1,z2,z3,z4⟩:=edi_cells (BlkAt.after (BlkAt.drewN N1.out _) b3)
     have B3:=Lib.hid (bstep (bdrewN B1.out _) b3)
     clear b3
     go_wp2_with fail
     go_ret
     exact ⟨rfl,B3.out⟩
 have j2:(k==2)=false:=by simpa using k2
 have l2:(k !=2)=true:=by simpa using k2
 rw [if_pos ⟨k0,k1,k2⟩] at hR
 obtain rfl:R=1:=by simpa using hR.symm
 clear hR
 go_enter Tryz.func165,Tryz.ntmps165
 go_wp2_with fail
 go_quiet (fail)
 go_wp2_with fail
 go_ret
 exact ⟨rfl,bdrewN B1.out _⟩
end Go.Proofs.YtfamcohbnoibaaaGreatDoor
