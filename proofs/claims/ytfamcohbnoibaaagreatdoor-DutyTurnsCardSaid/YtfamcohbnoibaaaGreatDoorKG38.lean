import Derived.Test.YtfamcohbnoibaaaGreatDoorKG37
import Derived.Test.YtfamcohbnoibaaaGreatDoorKUn
import Derived.Laws.StructEq
set_option linter.unusedVariables false
set_option linter.unusedSimpArgs false
set_option maxRecDepth 100000
namespace Go.Proofs.YtfamcohbnoibaaaGreatDoor
open Go.RowKit
def z0R:Rs.Zone:=⟨[122],0,[]⟩
def C0R:Rs.Cfg:=⟨[z0R],[⟨[97],0,[],0,0,false⟩,⟨[98],0,[],0,0,false⟩],[],[]⟩
def l0R:Rs.Lay:=⟨[108],0,4,0,2,1,[0,1],[(32400,61200)],0,0⟩
theorem fit0:Sg.fitS C0R l0R=true:=by kernel_rfl
theorem dy0:Sg.dy C0R l0R=⟨0,[],2,1,4,0,[0,1],[(32400,61200)],0,0,[],[]⟩:=by kernel_rfl
theorem small0:Sg.fitS C0R l0R=true→Sg.Small C0R l0R:=fun _=>⟨by rw [dy0];decide,fun h=>absurd rfl h⟩
theorem sh0 {t:Int} (h1:950400≤t) (h2:t<1036800):(Sg.dy C0R l0R).sh t=1:=by
 have hok:=(Sg.fit_of fit0).ok
 have e1:(Sg.dy C0R l0R).H 1=some 950400:=by rw [dy0];kernel_rfl
 have e2:(Sg.dy C0R l0R).H 2=some 1555200:=by rw [dy0];kernel_rfl
 exact hok.sh_at (k:=1) (by omega) e1 h1 fun b hb=>by
  have :b=1555200:=Option.some.inj (hb.symm.trans e2)
  omega
theorem on0 {t:Int} (h1:950400≤t) (h2:t<1036800):(Sg.dy C0R l0R).on t=decide (982800≤t∧t<1011600):=by
 unfold Sg.Dy.on
 rw [sh0 h1 h2,dy0]
 unfold Sg.Dy.win Sg.Dy.cal Wk.within
 simp only [List.isEmpty_cons,Bool.false_or,List.any_cons,List.any_nil,Bool.or_false,Wk.sow_eq,Zn.cl,Zn.offAt]
 have e:(t+0+259200)%604800=t-950400:=by omega
 rw [e]
 by_cases h:982800≤t∧t<1011600
 ·rw [decide_eq_true h,decide_eq_true (show 32400≤t-950400∧t-950400<61200 by omega)];rfl
 ·rw [decide_eq_false h,decide_eq_false (show ¬(32400≤t-950400∧t-950400<61200) by omega)];rfl
theorem per0 {t:Int} (h1:950400≤t) (h2:t<1036800):(Sg.dy C0R l0R).per t=if 982800≤t∧t<1011600 then 1 else -1:=by
 unfold Sg.Dy.per
 rw [on0 h1 h2,sh0 h1 h2]
 by_cases h:982800≤t∧t<1011600
 ·rw [decide_eq_true h,if_pos rfl,if_pos h,dy0];rfl
 ·rw [decide_eq_false h,if_neg (by simp),if_neg h]
theorem perS0 {t:Int} (h1:950400≤t) (h2:t<1036800):Sg.perS C0R l0R t=if 982800≤t∧t<1011600 then 1 else -1:=by
 unfold Sg.perS
 rw [if_pos ⟨fit0,by omega,by omega⟩,per0 h1 h2]
theorem seg0 {L:List Sg.S} {er:Int} (h:Sg.GOut (Sg.fitS C0R l0R) (Sg.dy C0R l0R).per 950400 1036800 L er):L=[(950400,982800, -1),(982800,1011600,1),(1011600,1036800, -1)]∧er=0:=by
 rw [fit0] at h
 have hs:Sg.Seg (Sg.dy C0R l0R).per none 950400 1036800 [(950400,982800, -1),(982800,1011600,1),(1011600,1036800, -1)]:=
  ⟨rfl,by decide,by simp,fun t a b=>by simp only at b;rw [per0 a (by omega),if_neg (by omega)],rfl,by decide,by simp,fun t a b=>by simp only at a b;rw [per0 (by omega) (by omega),if_pos (by omega)],rfl,by decide,by simp,fun t a b=>by simp only at a b;rw [per0 (by omega) (by omega),if_neg (by omega)],rfl⟩
 obtain ⟨a,b⟩:=h.few (by omega) hs (by simp)
 exact ⟨b,a⟩
theorem tim0 {L:List (Int×Int)} {er:Int} (h:Sg.TOut (Sg.fitS C0R l0R) (Sg.dy C0R l0R).on 950400 1036800 L er):L=[(982800,1011600)]∧er=0:=by
 rw [fit0] at h
 have hu:Wk.Up (Sg.dy C0R l0R).on [(982800,1011600)] 950400 1036800:=by
  refine ⟨⟨by simp,List.pairwise_singleton _ _⟩,fun y hy=>by simp at hy;subst hy;simp,fun x=>⟨fun ⟨y,hy,a,b⟩=> ?_,fun ⟨a,b,c⟩=> ?_⟩⟩
  ·simp at hy;subst hy
   simp only at a b
   exact ⟨by omega,by omega,by rw [on0 (by omega) (by omega)];exact decide_eq_true ⟨a,b⟩⟩
  ·rw [on0 a b,decide_eq_true_eq] at c
   exact ⟨(982800,1011600),by simp,c.1,c.2⟩
 obtain ⟨a,b⟩:=h.few (by omega) hu (by simp)
 exact ⟨b,a⟩
theorem allocs7 (w:World) (v1 v2 v3 v4 v5 v6 v7:Array Value) (T1 T2 T3 T4 T5 T6 T7:TypeId) (W:World) (hW:W=(((((((w.alloc (.cells v1 T1)).alloc (.cells v2 T2)).alloc (.cells v3 T3)).alloc (.cells v4 T4)).alloc (.cells v5 T5)).alloc (.cells v6 T6)).alloc (.cells v7 T7))):Below w.heap.size w W∧BlkAt W w.heap.size v1 T1∧BlkAt W (w.heap.size+1) v2 T2∧BlkAt W (w.heap.size+1+1) v3 T3∧BlkAt W (w.heap.size+1+1+1) v4 T4∧BlkAt W (w.heap.size+1+1+1+1) v5 T5∧BlkAt W (w.heap.size+1+1+1+1+1) v6 T6∧BlkAt W (w.heap.size+1+1+1+1+1+1) v7 T7:=by
 subst hW
 refine ⟨((((((((Below.refl w.heap.size w).alloc (by simp;try omega) (.cells v1 T1)).alloc (by simp;try omega) (.cells v2 T2)).alloc (by simp;try omega) (.cells v3 T3)).alloc (by simp;try omega) (.cells v4 T4)).alloc (by simp;try omega) (.cells v5 T5)).alloc (by simp;try omega) (.cells v6 T6)).alloc (by simp;try omega) (.cells v7 T7)), ?_, ?_, ?_, ?_, ?_, ?_, ?_⟩
 ·have :=((((((BlkAt.new w v1 T1).alloc (.cells v2 T2)).alloc (.cells v3 T3)).alloc (.cells v4 T4)).alloc (.cells v5 T5)).alloc (.cells v6 T6)).alloc (.cells v7 T7)
  simpa using this
 ·have :=(((((BlkAt.new (w.alloc (.cells v1 T1)) v2 T2).alloc (.cells v3 T3)).alloc (.cells v4 T4)).alloc (.cells v5 T5)).alloc (.cells v6 T6)).alloc (.cells v7 T7)
  simpa using this
 ·have :=((((BlkAt.new ((w.alloc (.cells v1 T1)).alloc (.cells v2 T2)) v3 T3).alloc (.cells v4 T4)).alloc (.cells v5 T5)).alloc (.cells v6 T6)).alloc (.cells v7 T7)
  simpa using this
 ·have :=(((BlkAt.new (((w.alloc (.cells v1 T1)).alloc (.cells v2 T2)).alloc (.cells v3 T3)) v4 T4).alloc (.cells v5 T5)).alloc (.cells v6 T6)).alloc (.cells v7 T7)
  simpa using this
 ·have :=((BlkAt.new ((((w.alloc (.cells v1 T1)).alloc (.cells v2 T2)).alloc (.cells v3 T3)).alloc (.cells v4 T4)) v5 T5).alloc (.cells v6 T6)).alloc (.cells v7 T7)
  simpa using this
 ·have :=(BlkAt.new (((((w.alloc (.cells v1 T1)).alloc (.cells v2 T2)).alloc (.cells v3 T3)).alloc (.cells v4 T4)).alloc (.cells v5 T5)) v6 T6).alloc (.cells v7 T7)
  simpa using this
 ·have :=BlkAt.new ((((((w.alloc (.cells v1 T1)).alloc (.cells v2 T2)).alloc (.cells v3 T3)).alloc (.cells v4 T4)).alloc (.cells v5 T5)).alloc (.cells v6 T6)) v7 T7
  simpa using this
theorem lin_two {α:Type} {k:Nat} {e:α→Nat→Value} {W:World} {g:Nat} {vs:Array Value} {T:TypeId} {x y:α} (h:BlkAt W g vs T) (hx: ∀j,j<k→vs[j]? =some (e x j)) (hy: ∀j,j<k→vs[k+j]? =some (e y j)):LIn k e 0 W.heap.size W (some ⟨g,0,none⟩,2,2) [x,y]:=
 ⟨fun _=>⟨g,0,rfl,h.lt_,fun i z hz j hj=>by
  rcases i with _|_|i
  ·simp only [List.getElem?_cons_zero,Option.some.injEq] at hz
   subst hz
   have :=h.cell (hx j hj)
   simpa using this
  ·simp at hz
   subst hz
   have :=h.cell (hy j hj)
   simpa using this
  ·simp at hz⟩,rfl,Nat.le_refl _,by simp,fun ad e=>by cases e;exact ⟨Nat.zero_le _,h.lt_⟩⟩
theorem first_din {W:World} {g1 g2 g3 g4:Nat} {T1 T2 T3 T4:TypeId} (hT:CivT W) (h1:BlkAt W g1 #[.string ⟨#[122]⟩,.int .i64 0,.slice none 0 0] T1) (h2:BlkAt W g2 #[.string ⟨#[97]⟩,.int .i64 0,.slice none 0 0,.int .i64 0,.int .i64 0,.bool false,.string ⟨#[98]⟩,.int .i64 0,.slice none 0 0,.int .i64 0,.int .i64 0,.bool false] T2) (h3:BlkAt W g3 #[.int .i64 0,.int .i64 1] T3) (h4:BlkAt W g4 #[.int .i64 32400,.int .i64 61200] T4):DIn W (some ⟨g1,0,none⟩,1,1) (some ⟨g2,0,none⟩,2,2) noSV noSV C0R l0R (some ⟨g3,0,none⟩,2,2) (some ⟨g4,0,none⟩,1,1):=by
 refine ⟨hT,⟨⟨[(z0R,noSV)],rfl,lin_one h1 fun j hj=> ?_,fun x hx=> ?_⟩,⟨[(⟨[97],0,[],0,0,false⟩,noSV),(⟨[98],0,[],0,0,false⟩,noSV)],rfl,lin_two h2 (fun j hj=> ?_) fun j hj=> ?_,fun x hx=> ?_⟩,Nest.nil_ _ _ _,Nest.nil_ _ _ _⟩,lin_two h3 (fun j hj=> ?_) (fun j hj=> ?_),lin_one h4 fun j hj=> ?_,by unfold I64 l0R;simp⟩
 ·rcases j with _|_|_|_<;>first|rfl|omega
 ·simp only [List.mem_singleton] at hx
  subst hx
  exact ⟨LIn.nil_ _ _ _,fun r hr=>(by cases hr),by unfold I64 z0R;simp⟩
 ·rcases j with _|_|_|_|_|_|_<;>first|rfl|omega
 ·rcases j with _|_|_|_|_|_|_<;>first|rfl|omega
 ·simp only [List.mem_cons,List.not_mem_nil,or_false] at hx
  rcases hx with rfl|rfl<;>exact LIn.nil_ _ _ _
 ·rcases j with _|_<;>first|rfl|omega
 ·rcases j with _|_<;>first|rfl|omega
 ·rcases j with _|_|_<;>first|rfl|omega
theorem results_cells2 {fn:Func} {p q:Tmp} {ty ty2:TypeId} (h:fn.results=#[.cell p ty,.cell q ty2]) (tmps:Array Value) (P:Program) (w:World):
  (results fn tmps).run P w=((asAddr (tmps.getD p undef)).run P w).andThen fun a w'=>((loadVar ty a).run P w').andThen fun x w1=>((asAddr (tmps.getD q undef)).run P w1).andThen fun b w2=>((loadVar ty2 b).run P w2).andThen fun y w3=> .ok (.tuple #[x,y]) w3:=by
 simp [results,h]
set_option maxHeartbeats 4000000 in
theorem first_any (w:World) (hT:CivT w):Calls Tryz.prog 34 #[] w fun e w'=> ∃(a1 b1 m1 q1:Option Addr),e= .returned (.tuple #[.agg #[.slice a1 1 1,.slice b1 2 2,.slice none 0 0,.slice none 0 0],.agg #[.string ⟨#[108]⟩,.int .i64 0,.int .i64 4,.int .i64 0,.int .i64 2,.int .i64 1,.slice m1 2 2,.slice q1 1 1,.int .i64 0,.int .i64 0]])∧DIn w' (a1,1,1) (b1,2,2) noSV noSV C0R l0R (m1,2,2) (q1,1,1)∧Below w.heap.size w w':=by
 have HT:=Lib.hid hT
 clear hT
 go_enter Tryz.func34,Tryz.ntmps34
 go_wp2_with fail
 generalize hW:(((((((w.alloc (.cells #[.slice (some ⟨w.heap.size+1+1,0,none⟩) 1 1,.slice (some ⟨w.heap.size+1+1+1,0,none⟩) 2 2,.slice none 0 0,.slice none 0 0] 33)).alloc (.cells #[.string ⟨#[108]⟩,.int .i64 0,.int .i64 4,.int .i64 0,.int .i64 2,.int .i64 1,.slice (some ⟨w.heap.size+1+1+1+1+1,0,none⟩) 2 2,.slice (some ⟨w.heap.size+1+1+1+1+1+1,0,none⟩) 1 1,.int .i64 0,.int .i64 0] 39)).alloc (.cells #[.string ⟨#[122]⟩,.int .i64 0,.slice none 0 0] 71)).alloc (.cells #[.string ⟨#[97]⟩,.int .i64 0,.slice none 0 0,.int .i64 0,.int .i64 0,.bool false,.string ⟨#[98]⟩,.int .i64 0,.slice none 0 0,.int .i64 0,.int .i64 0,.bool false] 98)).alloc (.cells #[.slice (some ⟨w.heap.size+1+1,0,none⟩) 1 1,.slice (some ⟨w.heap.size+1+1+1,0,none⟩) 2 2,.slice none 0 0,.slice none 0 0] 33)).alloc (.cells #[.int .i64 0,.int .i64 1] 3)).alloc (.cells #[.int .i64 32400,.int .i64 61200] 99))=W
 obtain ⟨hb,k1,k2,k3,k4,k5,k6,k7⟩:=allocs7 w _ _ _ _ _ _ _ _ _ _ _ _ _ _ W hW.symm
 have HB:=Lib.hid hb
 have HD:=Lib.hid (first_din (HT.out.below hb) k3 k4 k6 k7)
 have x0:=k1.cell (i:=0) rfl;have x1:=k1.cell (i:=1) rfl;have x2:=k1.cell (i:=2) rfl;have x3:=k1.cell (i:=3) rfl
 have l0:=k2.cell (i:=0) rfl;have l1:=k2.cell (i:=1) rfl;have l2:=k2.cell (i:=2) rfl;have l3:=k2.cell (i:=3) rfl;have l4:=k2.cell (i:=4) rfl;have l5:=k2.cell (i:=5) rfl;have l6:=k2.cell (i:=6) rfl;have l7:=k2.cell (i:=7) rfl;have l8:=k2.cell (i:=8) rfl;have l9:=k2.cell (i:=9) rfl
 clear hb k1 k2 k3 k4 k5 k6 k7 hW
 (try simp only [Exit.inBlock,Exit.then])
 refine bodyPost_ret (v:= .tuple #[.agg #[.slice (some ⟨w.heap.size+1+1,0,none⟩) 1 1,.slice (some ⟨w.heap.size+1+1+1,0,none⟩) 2 2,.slice none 0 0,.slice none 0 0],.agg #[.string ⟨#[108]⟩,.int .i64 0,.int .i64 4,.int .i64 0,.int .i64 2,.int .i64 1,.slice (some ⟨w.heap.size+1+1+1+1+1,0,none⟩) 2 2,.slice (some ⟨w.heap.size+1+1+1+1+1+1,0,none⟩) 1 1,.int .i64 0,.int .i64 0]]) ?_ rfl ⟨_,_,_,_,rfl,HD.out,HB.out⟩
 rw [results_cells2 rfl]
 go_simp
open Go.RowKit
theorem hSeg1: Tryz.prog.underlying 62=some (.struct (Tryz.prog.fieldsOf 62)):=by kernel_rfl
theorem hSeg2: Tryz.prog.stoodInHeld 62=false:=by kernel_rfl
theorem eqSeg (a b c a' b' c':Int) (w:World):(binOp .eql 62 (.agg #[.int .i64 a,.int .i64 b,.int .i64 c]) (.agg #[.int .i64 a',.int .i64 b',.int .i64 c'])).run Tryz.prog w= .ok (.bool (a==a'&&(b==b'&&c==c'))) w:=by
 have u3:= Tryz.underlying3
 have a3:= Tryz.isAgg3
 have z3:= Tryz.sizeOf3
 rw [run_eql_struct,show (10000:Nat)=9999+1 from rfl,run_equalIn_struct w 9999 62 _ _ hSeg1 hSeg2]
 simp only [Program.fieldsOf,Tryz.underlying62]
 go_simp
 by_cases h1:a=a'<;>by_cases h2:b=b'<;>by_cases h3:c=c'<;>simp [h1,h2,h3]
theorem guardSeg (p q:Operand) (a b c a' b' c':Int) (w:World):(eqGuard .eql 62 p q (.agg #[.int .i64 a,.int .i64 b,.int .i64 c]) (.agg #[.int .i64 a',.int .i64 b',.int .i64 c'])).run Tryz.prog w= .ok () w:=
 run_eqGuard_agg w _ _ _ _ _ _ (by kernel_rfl)
set_option maxHeartbeats 8000000 in
theorem sane11_any (w:World) (hT:CivT w):Calls Tryz.prog 9 #[] w fun e w'=>e= .returned (.bool true)∧Below w.heap.size w w':=by
 have HF:=Lib.hid (first_any w hT)
 clear hT
 go_enter Tryz.func9,Tryz.ntmps9
 go_upto_region 2 with (go_at_call 34;refine HF.out.mono ?_;rintro e w1 ⟨a1,b1,m1,q1,rfl,hd,hb⟩)
 have HSG:=Lib.hid (show ∀W,DIn W (a1,1,1) (b1,2,2) noSV noSV C0R l0R (m1,2,2) (q1,1,1)→Calls Tryz.prog 22 #[.agg #[.slice a1 1 1,.slice b1 2 2,.slice none 0 0,.slice none 0 0],.agg #[.string ⟨#[108]⟩,.int .i64 0,.int .i64 4,.int .i64 0,.int .i64 2,.int .i64 1,.slice m1 2 2,.slice q1 1 1,.int .i64 0,.int .i64 0],.int .i64 950400,.int .i64 1036800] W (SegV C0R l0R 950400 1036800 W) from fun W h=>Segments_is small0 a1 1 1 b1 2 2 none 0 0 none 0 0 m1 2 2 q1 1 1 950400 1036800 (by unfold I64;omega) (by unfold I64;omega) W h)
 have HTM:=Lib.hid (show ∀W,DIn W (a1,1,1) (b1,2,2) noSV noSV C0R l0R (m1,2,2) (q1,1,1)→Calls Tryz.prog 20 #[.agg #[.slice a1 1 1,.slice b1 2 2,.slice none 0 0,.slice none 0 0],.agg #[.string ⟨#[108]⟩,.int .i64 0,.int .i64 4,.int .i64 0,.int .i64 2,.int .i64 1,.slice m1 2 2,.slice q1 1 1,.int .i64 0,.int .i64 0],.int .i64 950400,.int .i64 1036800] W (TimV C0R l0R 950400 1036800 W) from fun W h=>Times_is small0 a1 1 1 b1 2 2 none 0 0 none 0 0 m1 2 2 q1 1 1 950400 1036800 (by unfold I64;omega) (by unfold I64;omega) W h)
 have HP1:=Lib.hid (show ∀W,DIn W (a1,1,1) (b1,2,2) noSV noSV C0R l0R (m1,2,2) (q1,1,1)→Calls Tryz.prog 18 #[.agg #[.slice a1 1 1,.slice b1 2 2,.slice none 0 0,.slice none 0 0],.agg #[.string ⟨#[108]⟩,.int .i64 0,.int .i64 4,.int .i64 0,.int .i64 2,.int .i64 1,.slice m1 2 2,.slice q1 1 1,.int .i64 0,.int .i64 0],.int .i64 993600] W fun e w'=>e= .returned (.int .i64 1)∧Below W.heap.size W w' from fun W h=>by
  have :=Person_is a1 1 1 b1 2 2 none 0 0 none 0 0 m1 2 2 q1 1 1 993600 (by unfold I64;omega) W h
  rw [perS0 (by omega) (by omega),if_pos (by omega)] at this
  exact this)
 have HP2:=Lib.hid (show ∀W,DIn W (a1,1,1) (b1,2,2) noSV noSV C0R l0R (m1,2,2) (q1,1,1)→Calls Tryz.prog 18 #[.agg #[.slice a1 1 1,.slice b1 2 2,.slice none 0 0,.slice none 0 0],.agg #[.string ⟨#[108]⟩,.int .i64 0,.int .i64 4,.int .i64 0,.int .i64 2,.int .i64 1,.slice m1 2 2,.slice q1 1 1,.int .i64 0,.int .i64 0],.int .i64 1015200] W fun e w'=>e= .returned (.int .i64 (-1))∧Below W.heap.size W w' from fun W h=>by
  have :=Person_is a1 1 1 b1 2 2 none 0 0 none 0 0 m1 2 2 q1 1 1 1015200 (by unfold I64;omega) W h
  rw [perS0 (by omega) (by omega),if_neg (by omega)] at this
  exact this)
 have HON:=Lib.hid (show ∀W,DIn W (a1,1,1) (b1,2,2) noSV noSV C0R l0R (m1,2,2) (q1,1,1)→Calls Tryz.prog 16 #[.agg #[.slice a1 1 1,.slice b1 2 2,.slice none 0 0,.slice none 0 0],.agg #[.string ⟨#[108]⟩,.int .i64 0,.int .i64 4,.int .i64 0,.int .i64 2,.int .i64 1,.slice m1 2 2,.slice q1 1 1,.int .i64 0,.int .i64 0],.int .i64 993600] W fun e w'=>e= .returned (.bool true)∧Below W.heap.size W w' from fun W h=>by
  have :=On_is a1 1 1 b1 2 2 none 0 0 none 0 0 m1 2 2 q1 1 1 993600 (by unfold I64;omega) W h
  rw [perS0 (by omega) (by omega),if_pos (by omega)] at this
  exact this)
 have kb:=((Below.refl w1.heap.size w1).alloc (Nat.le_refl _) (.cells #[.slice a1 1 1,.slice b1 2 2,.slice none 0 0,.slice none 0 0] 33)).alloc (by simp) (.cells #[.string ⟨#[108]⟩,.int .i64 0,.int .i64 4,.int .i64 0,.int .i64 2,.int .i64 1,.slice m1 2 2,.slice q1 1 1,.int .i64 0,.int .i64 0] 39)
 have HD1:=Lib.hid (hd.below kb)
 have HB1:=Lib.hid (bstep hb kb)
 have BX1:=Lib.hid ((BlkAt.new w1 #[.slice a1 1 1,.slice b1 2 2,.slice none 0 0,.slice none 0 0] 33).alloc (.cells #[.string ⟨#[108]⟩,.int .i64 0,.int .i64 4,.int .i64 0,.int .i64 2,.int .i64 1,.slice m1 2 2,.slice q1 1 1,.int .i64 0,.int .i64 0] 39))
 have BL1:=Lib.hid (show BlkAt ((w1.alloc (.cells #[.slice a1 1 1,.slice b1 2 2,.slice none 0 0,.slice none 0 0] 33)).alloc (.cells #[.string ⟨#[108]⟩,.int .i64 0,.int .i64 4,.int .i64 0,.int .i64 2,.int .i64 1,.slice m1 2 2,.slice q1 1 1,.int .i64 0,.int .i64 0] 39)) (w1.heap.size+1) #[.string ⟨#[108]⟩,.int .i64 0,.int .i64 4,.int .i64 0,.int .i64 2,.int .i64 1,.slice m1 2 2,.slice q1 1 1,.int .i64 0,.int .i64 0] 39 by
  have :=BlkAt.new (w1.alloc (.cells #[.slice a1 1 1,.slice b1 2 2,.slice none 0 0,.slice none 0 0] 33)) #[.string ⟨#[108]⟩,.int .i64 0,.int .i64 4,.int .i64 0,.int .i64 2,.int .i64 1,.slice m1 2 2,.slice q1 1 1,.int .i64 0,.int .i64 0] 39
  simpa using this)
 clear hd hb kb HF
 generalize (w1.alloc (.cells #[.slice a1 1 1,.slice b1 2 2,.slice none 0 0,.slice none 0 0] 33)).alloc (.cells #[.string ⟨#[108]⟩,.int .i64 0,.int .i64 4,.int .i64 0,.int .i64 2,.int .i64 1,.slice m1 2 2,.slice q1 1 1,.int .i64 0,.int .i64 0] 39)=W1 at HD1 HB1 BX1 BL1 ⊢
 have x0:=BX1.out.cell (i:=0) rfl;have x1:=BX1.out.cell (i:=1) rfl;have x2:=BX1.out.cell (i:=2) rfl;have x3:=BX1.out.cell (i:=3) rfl;have l0:=BL1.out.cell (i:=0) rfl;have l1:=BL1.out.cell (i:=1) rfl;have l2:=BL1.out.cell (i:=2) rfl;have l3:=BL1.out.cell (i:=3) rfl;have l4:=BL1.out.cell (i:=4) rfl;have l5:=BL1.out.cell (i:=5) rfl;have l6:=BL1.out.cell (i:=6) rfl;have l7:=BL1.out.cell (i:=7) rfl;have l8:=BL1.out.cell (i:=8) rfl;have l9:=BL1.out.cell (i:=9) rfl
 go_upto_region 3 with (go_at_call 22;refine (HSG.out _ HD1.out).mono ?_;rintro e w2 ⟨L,er,A2,n2,c2,rfl,hl2,hg2, -,hp2, -,hb2⟩;obtain ⟨rfl,rfl⟩:=seg0 hg2;obtain rfl:n2=3:=hl2.symm)
 have HD2:=Lib.hid (HD1.out.below hb2);have HB2:=Lib.hid (bstep HB1.out hb2);have BX2:=Lib.hid (BX1.out.after hb2);have BL2:=Lib.hid (BL1.out.after hb2)
 have HP2S:=Lib.hid hp2
 clear hl2 hg2 hp2 hb2 HD1 HB1 BX1 BL1 x0 x1 x2 x3 l0 l1 l2 l3 l4 l5 l6 l7 l8 l9 HSG
 have x0:=BX2.out.cell (i:=0) rfl;have x1:=BX2.out.cell (i:=1) rfl;have x2:=BX2.out.cell (i:=2) rfl;have x3:=BX2.out.cell (i:=3) rfl;have l0:=BL2.out.cell (i:=0) rfl;have l1:=BL2.out.cell (i:=1) rfl;have l2:=BL2.out.cell (i:=2) rfl;have l3:=BL2.out.cell (i:=3) rfl;have l4:=BL2.out.cell (i:=4) rfl;have l5:=BL2.out.cell (i:=5) rfl;have l6:=BL2.out.cell (i:=6) rfl;have l7:=BL2.out.cell (i:=7) rfl;have l8:=BL2.out.cell (i:=8) rfl;have l9:=BL2.out.cell (i:=9) rfl
 go_upto_region 4 with (go_at_call 20;refine (HTM.out _ HD2.out).mono ?_;rintro e w3 ⟨L,er,A3,n3,c3,rfl,hl3,hg3, -,hp3, -, -,hb3⟩;obtain ⟨rfl,rfl⟩:=tim0 hg3;obtain rfl:n3=1:=hl3.symm)
 have HD3:=Lib.hid (HD2.out.below hb3);have HB3:=Lib.hid (bstep HB2.out hb3);have BX3:=Lib.hid (BX2.out.after hb3);have BL3:=Lib.hid (BL2.out.after hb3)
 have HP3S:=Lib.hid (HP2S.out.below hb3)
 have HT3:=Lib.hid hp3
 clear hl3 hg3 hp3 hb3 HD2 HB2 BX2 BL2 x0 x1 x2 x3 l0 l1 l2 l3 l4 l5 l6 l7 l8 l9 HTM HP2S
 obtain ⟨sb,so,rfl, -, -⟩:=HP3S.out (by simp)
 obtain ⟨tb,to_,rfl, -, -⟩:=HT3.out (by simp)
 have x0:=BX3.out.cell (i:=0) rfl;have x1:=BX3.out.cell (i:=1) rfl;have x2:=BX3.out.cell (i:=2) rfl;have x3:=BX3.out.cell (i:=3) rfl;have l0:=BL3.out.cell (i:=0) rfl;have l1:=BL3.out.cell (i:=1) rfl;have l2:=BL3.out.cell (i:=2) rfl;have l3:=BL3.out.cell (i:=3) rfl;have l4:=BL3.out.cell (i:=4) rfl;have l5:=BL3.out.cell (i:=5) rfl;have l6:=BL3.out.cell (i:=6) rfl;have l7:=BL3.out.cell (i:=7) rfl;have l8:=BL3.out.cell (i:=8) rfl;have l9:=BL3.out.cell (i:=9) rfl
 have hq1:=fun w=>eqSeg 982800 1011600 1 982800 1011600 1 w
 have hq2:=fun w=>guardSeg (.tmp 54) (.tmp 55) 982800 1011600 1 982800 1011600 1 w
 go_wp2_with (first
  |(go_at_call 18;refine (HP1.out _ HD3.out).mono ?_;rintro e w4 ⟨rfl,hb4⟩;have HD4:=Lib.hid (HD3.out.below hb4);have HB4:=Lib.hid (bstep HB3.out hb4);have BX4:=Lib.hid (BX3.out.after hb4);have BL4:=Lib.hid (BL3.out.after hb4);have HP4S:=Lib.hid (HP3S.out.below hb4);have HT4:=Lib.hid (HT3.out.below hb4);clear hb4 HD3 HB3 BX3 BL3 HP3S HT3 x0 x1 x2 x3 l0 l1 l2 l3 l4 l5 l6 l7 l8 l9;have x0:=BX4.out.cell (i:=0) rfl;have x1:=BX4.out.cell (i:=1) rfl;have x2:=BX4.out.cell (i:=2) rfl;have x3:=BX4.out.cell (i:=3) rfl;have l0:=BL4.out.cell (i:=0) rfl;have l1:=BL4.out.cell (i:=1) rfl;have l2:=BL4.out.cell (i:=2) rfl;have l3:=BL4.out.cell (i:=3) rfl;have l4:=BL4.out.cell (i:=4) rfl;have l5:=BL4.out.cell (i:=5) rfl;have l6:=BL4.out.cell (i:=6) rfl;have l7:=BL4.out.cell (i:=7) rfl;have l8:=BL4.out.cell (i:=8) rfl;have l9:=BL4.out.cell (i:=9) rfl)
  |(go_at_call 18;refine (HP2.out _ HD4.out).mono ?_;rintro e w5 ⟨rfl,hb5⟩;have HD5:=Lib.hid (HD4.out.below hb5);have HB5:=Lib.hid (bstep HB4.out hb5);have BX5:=Lib.hid (BX4.out.after hb5);have BL5:=Lib.hid (BL4.out.after hb5);have HP5S:=Lib.hid (HP4S.out.below hb5);have HT5:=Lib.hid (HT4.out.below hb5);clear hb5 HD4 HB4 BX4 BL4 HP4S HT4 x0 x1 x2 x3 l0 l1 l2 l3 l4 l5 l6 l7 l8 l9;have x0:=BX5.out.cell (i:=0) rfl;have x1:=BX5.out.cell (i:=1) rfl;have x2:=BX5.out.cell (i:=2) rfl;have x3:=BX5.out.cell (i:=3) rfl;have l0:=BL5.out.cell (i:=0) rfl;have l1:=BL5.out.cell (i:=1) rfl;have l2:=BL5.out.cell (i:=2) rfl;have l3:=BL5.out.cell (i:=3) rfl;have l4:=BL5.out.cell (i:=4) rfl;have l5:=BL5.out.cell (i:=5) rfl;have l6:=BL5.out.cell (i:=6) rfl;have l7:=BL5.out.cell (i:=7) rfl;have l8:=BL5.out.cell (i:=8) rfl;have l9:=BL5.out.cell (i:=9) rfl)
  |(go_at_call 16;refine (HON.out _ HD5.out).mono ?_;rintro e w6 ⟨rfl,hb6⟩;have HB6:=Lib.hid (bstep HB5.out hb6);obtain ⟨_,_,e1,hsb,hsc⟩:=(HP5S.out.below hb6) (by simp);cases e1;obtain ⟨_,_,e2,htb,htc⟩:=(HT5.out.below hb6) (by simp);cases e2;have s0:w6.cell? ⟨sb,so+3,none⟩=some (.int .i64 982800):=hsc 1 _ rfl 0 (by decide);have s1:w6.cell? ⟨sb,so+3+1,none⟩=some (.int .i64 1011600):=hsc 1 _ rfl 1 (by decide);have s2:w6.cell? ⟨sb,so+3+2,none⟩=some (.int .i64 1):=hsc 1 _ rfl 2 (by decide);have s2':w6.cell? ⟨sb,so+3+1+1,none⟩=some (.int .i64 1):=hsc 1 _ rfl 2 (by decide);have t0:w6.cell? ⟨tb,to_,none⟩=some (.int .i64 982800):=(by have :=htc 0 _ rfl 0 (by decide);simpa [ePair] using this);clear hb6 hsc htc))
 go_ret
 exact ⟨rfl,HB6.out⟩
end Go.Proofs.YtfamcohbnoibaaaGreatDoor
