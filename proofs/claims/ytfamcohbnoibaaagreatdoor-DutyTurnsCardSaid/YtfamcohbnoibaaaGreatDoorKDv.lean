import Derived.Test.YtfamcohbnoibaaaGreatDoorKDu
set_option linter.unusedVariables false
set_option linter.unusedSimpArgs false
set_option maxRecDepth 100000
namespace Go.Proofs.YtfamcohbnoibaaaGreatDoor
open Go.RowKit
structure EK (w:World) (g:Nat) (A:Option Addr) (n c:Nat) (zs:List Int) (B2:Nat) (cs2:Array Value) (B3:Nat) (cs3:Array Value) (T:TypeId) (B4:Nat) (cs4:Array Value) (T4:TypeId) (W:World):Prop where
 grown:w.grownBy W (some g)
 dice:Dice W g A n c zs
 k2:BlkAt W B2 cs2 T
 k3:BlkAt W B3 cs3 T
 k4:BlkAt W B4 cs4 T4
 l2:w.heap.size≤B2
 l3:w.heap.size≤B3
 l4:w.heap.size≤B4
 n23:B2≠B3
 n43:B4≠B3
 lg:g<w.heap.size
section
variable {w W W':World} {g n c:Nat} {A:Option Addr} {zs:List Int} {B2 B3 B4:Nat} {cs2 cs3 cs4:Array Value} {T T4:TypeId}
theorem EK.below (h:EK w g A n c zs B2 cs2 B3 cs3 T B4 cs4 T4 W) (hb:Below W.heap.size W W'):EK w g A n c zs B2 cs2 B3 cs3 T B4 cs4 T4 W':=
 ⟨grown_then h.grown hb h.grown.size,h.dice.after hb,h.k2.after hb,h.k3.after hb,h.k4.after hb,h.l2,h.l3,h.l4,h.n23,h.n43,h.lg⟩
theorem EK.alloc (h:EK w g A n c zs B2 cs2 B3 cs3 T B4 cs4 T4 W) (o:Obj):EK w g A n c zs B2 cs2 B3 cs3 T B4 cs4 T4 (W.alloc o):=h.below ((Below.refl _ _).alloc (Nat.le_refl _) _)
theorem EK.drew (h:EK w g A n c zs B2 cs2 B3 cs3 T B4 cs4 T4 W):EK w g A n c zs B2 cs2 B3 cs3 T B4 cs4 T4 W.drew:=h.below (Below.refl _ _).drew
theorem EK.call (h:EK w g A n c zs B2 cs2 B3 cs3 T B4 cs4 T4 W) (hg:W.grownBy W' (some g)) (hD:Dice W' g A n c zs):EK w g A n c zs B2 cs2 B3 cs3 T B4 cs4 T4 W':=by
 have :=h.l2
 have :=h.l3
 have :=h.l4
 have :=h.lg
 exact ⟨grown_trans h.grown hg,hD,h.k2.grown hg (fun e=>by cases e;omega),h.k3.grown hg (fun e=>by cases e;omega),h.k4.grown hg (fun e=>by cases e;omega),h.l2,h.l3,h.l4,h.n23,h.n43,h.lg⟩
theorem EK.row (h:EK w g A n c zs B2 cs2 B3 cs3 T B4 cs4 T4 W) {B:Nat} (hb:Below B W W') (h2:B2<B) (h3:B3<B) (h4:B4<B):EK w g A n c zs B2 cs2 B3 cs3 T B4 cs4 T4 W':=by
 have :=h.l2
 have :=h.lg
 exact ⟨grown_then h.grown hb (by omega),h.dice.below hb (by omega),h.k2.below hb h2,h.k3.below hb h3,h.k4.below hb h4,h.l2,h.l3,h.l4,h.n23,h.n43,h.lg⟩
theorem EK.set3 (h:EK w g A n c zs B2 cs2 B3 cs3 T B4 cs4 T4 W) (i:Nat) (u:Value):EK w g A n c zs B2 cs2 B3 (cs3.setIfInBounds i u) T B4 cs4 T4 (W.setCell ⟨B3,i,none⟩ u):=by
 have l3:=h.l3
 have lg:=h.lg
 exact ⟨grown_row h.grown (grown_set W B3 i u) (fun r e=>by cases e;exact .inr l3),dice_row h.dice (grown_set W B3 i u) (fun r e=>by cases e;omega),h.k2.grown (grown_set W B3 i u) (fun e=>h.n23 (Option.some.inj e)),h.k3.set_ i u,h.k4.grown (grown_set W B3 i u) (fun e=>h.n43 (Option.some.inj e)),h.l2,h.l3,h.l4,h.n23,h.n43,h.lg⟩
end
theorem isIx_of {a:Int} {n:Nat} (h1:0≤a) (h2:a<n):Rs.isIx a n=true:=by unfold Rs.isIx;simp [h1,h2]
theorem day_ok {t:Int} (h1:0≤t) (h2:t≤1800000000):Rs.noDay (t.tdiv 86400)=false:=by
 rw [Int.tdiv_eq_ediv_of_nonneg h1]
 exact Rs.noDay_of (by omega) (by omega)
theorem edit_ok {np:Nat} {k a b f t:Int} (hk:k=0∨k=1∨k=2) (ha:(0≤a∧a<np)∨(k=1∧a= -1)) (hb:(k=2∧0≤b∧b<np∧a≠b)∨(k≠2∧b=0)) (hf:0≤f) (ht:f<t) (ht2:t≤1800000000):Rs.ME np ⟨k,a,b,f,t⟩:=by
 refine ⟨?_,by simp only;omega,by simp only;omega⟩
 have hia:Rs.isIx a np=false→k=1∧a= -1:=fun h=>by
  rcases ha with h1|h1
  ·rw [isIx_of h1.1 h1.2] at h;cases h
  ·exact h1
 have hib:k=2→Rs.isIx b np=true:=fun h=>by
  rcases hb with h1|h1
  ·exact isIx_of h1.2.1 h1.2.2.1
  ·exact absurd h h1.1
 unfold Rs.editE
 simp only
 rw [if_neg (by omega),if_neg (fun h=>h.2 (hia h.1)),if_neg (fun h=>by rw [hib h.1] at h;exact absurd h.2 (by simp)),if_neg (by omega),if_neg (by omega),if_neg (by rw [day_ok (by omega) ht2];simp;omega),if_neg (by omega)]
def Edited (np:Nat) (w:World) (g:Nat) (A:Option Addr) (n c:Nat) (zs:List Int) (e:Ending) (w':World):Prop:=
 ∃x:Rs.Edit,e= .returned (.agg #[.int .i64 x.kind,.int .i64 x.a,.int .i64 x.b,.int .i64 x.fr,.int .i64 x.to])∧Rs.ME np x∧w.grownBy w' (some g)∧Dice w' g A n c zs
theorem edited_fin {np:Nat} {w W:World} {g n c:Nat} {A:Option Addr} {zs:List Int} {B2 B3 B4:Nat} {cs2 cs3 cs4:Array Value} {T T4:TypeId} (h:EK w g A n c zs B2 cs2 B3 cs3 T B4 cs4 T4 W) (x:Rs.Edit) (hx:Rs.ME np x) (u0 u1 u2 u3 u4:Value):
  Edited np w g A n c zs (.returned (.agg #[.int .i64 x.kind,.int .i64 x.a,.int .i64 x.b,.int .i64 x.fr,.int .i64 x.to])) (((((W.setCell ⟨B2,0,none⟩ u0).setCell ⟨B2,1,none⟩ u1).setCell ⟨B2,2,none⟩ u2).setCell ⟨B2,3,none⟩ u3).setCell ⟨B2,4,none⟩ u4):=by
 have l2:=h.l2
 have lg:=h.lg
 have hb:Below w.heap.size W (((((W.setCell ⟨B2,0,none⟩ u0).setCell ⟨B2,1,none⟩ u1).setCell ⟨B2,2,none⟩ u2).setCell ⟨B2,3,none⟩ u3).setCell ⟨B2,4,none⟩ u4):=(((((Below.refl _ W).setCell (p:=⟨B2,0,none⟩) l2 _).setCell (p:=⟨B2,1,none⟩) l2 _).setCell (p:=⟨B2,2,none⟩) l2 _).setCell (p:=⟨B2,3,none⟩) l2 _).setCell (p:=⟨B2,4,none⟩) l2 _
 exact ⟨x,rfl,hx,grown_then h.grown hb (Nat.le_refl _),h.dice.below hb lg⟩
theorem rem_ix {a r:Int} {n2:Nat} (a0:0≤a) (a1:a<n2) (r0:0≤r) (r1:r<(n2:Int)-1):0≤(a+1+r).tmod n2∧(a+1+r).tmod n2<n2∧a≠(a+1+r).tmod n2:=by
 rw [Int.tmod_eq_emod_of_nonneg (by omega)]
 have h1:=Int.emod_nonneg (a+1+r) (b:=n2) (by omega)
 have h2:=Int.emod_lt_of_pos (a+1+r) (b:=n2) (by omega)
 refine ⟨h1,h2,fun e=> ?_⟩
 by_cases h:a+1+r<n2
 ·rw [Int.emod_eq_of_lt (by omega) h] at e;omega
 ·have :(a+1+r)%(n2:Int)=a+1+r-n2:=by
   rw [←Int.sub_emod_right]
   exact Int.emod_eq_of_lt (by omega) (by omega)
  omega
set_option maxHeartbeats 16000000 in
theorem Edit_any (g n c:Nat) (A:Option Addr) (zs:List Int) (A1 A2 A3 A4:Option Addr) (n1 c1 n2 c2 n3 c3 n4 c4:Nat) (h1:1≤n2) (h2:n2≤1000) (w:World) (h:Dice w g A n c zs):
  Calls Tryz.prog 37 #[.pointer (some ⟨g,0,none⟩),.agg #[.slice A1 n1 c1,.slice A2 n2 c2,.slice A3 n3 c3,.slice A4 n4 c4]] w (Edited n2 w g A n c zs):=by
 have hgw:=h.lt_
 have HD:=Lib.hid h
 have H12:=Lib.hid (And.intro h1 h2)
 clear h
 go_enter Tryz.func37,Tryz.ntmps37
 go_wp2_with fail
 refine (Next_any g n c A zs 3 _ ((HD.out.alloc _).alloc _) (by decide) (by decide)).mono ?_
 rintro e w1 ⟨k,rfl,k0,k1,g1,D1⟩
 have R1:=Lib.hid (show BlkAt w1 (w.heap.size+1) #[.int .i64 0,.int .i64 0,.int .i64 0,.int .i64 0,.int .i64 0] 93 from blk_after (blk_new (by simp)) g1 (by omega))
 have X1:=Lib.hid (show BlkAt w1 w.heap.size #[.slice A1 n1 c1,.slice A2 n2 c2,.slice A3 n3 c3,.slice A4 n4 c4] 33 from blk_after (BlkAt.alloc (blk_new rfl) _) g1 (by omega))
 have G1:=Lib.hid (grown_trans (grown_alloc (grown_alloc (grown_refl w (some g)) _) _) g1)
 clear g1 HD
 go_wp2_with fail
 refine (Next_any g n c A zs n2 _ D1 (by omega) (by omega)).mono ?_
 rintro e w2 ⟨a,rfl,a0,a1,g2,D2⟩
 have R2:=Lib.hid (R1.out.grown g2 (by intro e;cases e;omega))
 have X2:=Lib.hid (X1.out.grown g2 (by intro e;cases e;omega))
 have G2:=Lib.hid (grown_trans G1.out g2)
 clear g2 R1 X1 G1 D1
 go_wp2_with fail
 refine (Instant_any g n c A zs _ D2).mono ?_
 rintro e w3 ⟨f,rfl,f0,f1,g3,D3⟩
 have hx3:=(R2.out.grown g3 (by intro e;cases e;omega)).lt_
 obtain ⟨bx,hbx⟩: ∃b,w3.heap.size=b:=⟨_,rfl⟩
 have HK:=Lib.hid (show EK w g A n c zs (w.heap.size+1) #[.int .i64 0,.int .i64 0,.int .i64 0,.int .i64 0,.int .i64 0] bx #[.int .i64 k,.int .i64 a,.int .i64 0,.int .i64 f,.int .i64 0] 93 w.heap.size #[.slice A1 n1 c1,.slice A2 n2 c2,.slice A3 n3 c3,.slice A4 n4 c4] 33 (w3.alloc (.cells #[.int .i64 k,.int .i64 a,.int .i64 0,.int .i64 f,.int .i64 0] 93)) from ⟨grown_alloc (grown_trans G2.out g3) _,D3.alloc _,(R2.out.grown g3 (by intro e;cases e;omega)).alloc _,blk_new hbx,(X2.out.grown g3 (by intro e;cases e;omega)).alloc _,by omega,by omega,by omega,by omega,by omega,hgw⟩)
 have cf3:(w3.alloc (.cells #[.int .i64 k,.int .i64 a,.int .i64 0,.int .i64 f,.int .i64 0] 93)).cell? ⟨bx,3,none⟩=some (.int .i64 f):=HK.out.k3.cell rfl
 clear g3 D3 D2 R2 X2 G2
 go_upto_region 3 with fail
 go_cut [] (fun wx=> ∃t:Int,f<t∧t≤1800000000∧Hid (EK w g A n c zs (w.heap.size+1) #[.int .i64 0,.int .i64 0,.int .i64 0,.int .i64 0,.int .i64 0] bx #[.int .i64 k,.int .i64 a,.int .i64 0,.int .i64 f,.int .i64 t] 93 w.heap.size #[.slice A1 n1 c1,.slice A2 n2 c2,.slice A3 n3 c3,.slice A4 n4 c4] 33 wx))
 case first =>
  have HZ2:Hid (g<bx):=Lib.hid (by omega)
  refine AnyZ.start 7 (A:=fun W=>Hid (EK w g A n c zs (w.heap.size+1) #[.int .i64 0,.int .i64 0,.int .i64 0,.int .i64 0,.int .i64 0] bx #[.int .i64 k,.int .i64 a,.int .i64 0,.int .i64 f,.int .i64 0] 93 w.heap.size #[.slice A1 n1 c1,.slice A2 n2 c2,.slice A3 n3 c3,.slice A4 n4 c4] 33 W)∧Hid (bx≤W.heap.size)) (S:=fun W=>W.cell? ⟨bx,3,none⟩=some (.int .i64 f)) (by kernel_rfl) ⟨Lib.hid (HK.out.drew),Lib.hid (by show bx≤(w3.alloc _).heap.size;simp;omega)⟩ ((HK.out.drew).k3.cell rfl) (fun Wa hA hH=> ?_)
  obtain ⟨HK,SZ⟩:=hA
  refine AnyZ.take [7] (i:=0) (oi:=⟨some 18,.fieldAddr 93 (.tmp 6) 3,0,"made.go:148",#[],none⟩) (v:= ?_) rfl (by kernel_rfl) (by kernel_rfl) (by kernel_rfl) (by kernel_rfl) (fun _ _ _ h=>h) (Or.inl ⟨by rfl, ?_⟩) hH ?_
  rotate_left
  focus (intro w hSw;(try dsimp only at hSw);go_simp;(try with_reducible rfl);done)
  try simp only [Act.put,List.setIfInBounds_toArray,List.set_cons_zero,List.set_cons_succ]
  refine AnyZ.take [7] (i:=1) (oi:=⟨some 19,.load 3 (.tmp 18),3,"made.go:148",#[⟨0,.data⟩],none⟩) (v:= ?_) rfl (by kernel_rfl) (by kernel_rfl) (by kernel_rfl) (by kernel_rfl) (fun _ _ _ h=>h) (Or.inl ⟨by rfl, ?_⟩) hH ?_
  rotate_left
  focus (intro w hSw;(try dsimp only at hSw);go_simp;(try with_reducible rfl);done)
  try simp only [Act.put,List.setIfInBounds_toArray,List.set_cons_zero,List.set_cons_succ]
  refine AnyZ.take [7] (i:=2) (oi:=⟨some 20,.move (.tmp 0),26,"made.go:148",#[],none⟩) (v:= ?_) rfl (by kernel_rfl) (by kernel_rfl) (by kernel_rfl) (by kernel_rfl) (fun _ _ _ h=>h) (Or.inl ⟨by rfl, ?_⟩) hH ?_
  rotate_left
  focus (intro w hSw;(try dsimp only at hSw);go_simp;(try with_reducible rfl);done)
  try simp only [Act.put,List.setIfInBounds_toArray,List.set_cons_zero,List.set_cons_succ]
  refine AnyZ.ready (rs:=[3]) (by kernel_rfl) (by simp) ?_
  refine AllZ.cons (o:=⟨some 21,.buildSlice 22 5 #[(0,.const (.int .i64 3600)),(1,.const (.int .i64 86400)),(2,.const (.int .i64 7)),(3,.const (.int .i64 259200)),(4,.const (.int .i64 40000))],22,"made.go:148",#[],none⟩) rfl (fun K hK=> ?_) AllZ.nil
  have hnb:=SZ.out
  go_simp
  refine AnyZ.go hK (A:=fun W=>Hid (EK w g A n c zs (w.heap.size+1) #[.int .i64 0,.int .i64 0,.int .i64 0,.int .i64 0,.int .i64 0] bx #[.int .i64 k,.int .i64 a,.int .i64 0,.int .i64 f,.int .i64 0] 93 w.heap.size #[.slice A1 n1 c1,.slice A2 n2 c2,.slice A3 n3 c3,.slice A4 n4 c4] 33 W)∧Hid (bx≤W.heap.size)∧Hid (BlkAt W Wa.heap.size (numV [3600,86400,7,259200,40000]) 3)) (S':=fun W=>W.cell? ⟨bx,3,none⟩=some (.int .i64 f)) (fun _ h=>h) ⟨Lib.hid ((HK.out).below ((Below.refl _ _).alloc (Nat.le_refl _) _)),Lib.hid (Nat.le_trans (SZ.out) (((Below.refl _ _).alloc (Nat.le_refl _) _):Below _ _ _).size),Lib.hid ((blk_now rfl))⟩ (((HK.out).below ((Below.refl _ _).alloc (Nat.le_refl _) _)).k3.cell rfl) (fun W1 hA hH2=> ?_)
  clear hK K hH HK SZ
  obtain ⟨HK,SZ,NB⟩:=hA
  have hH:=hH2
  clear hH2
  try simp only [Act.put,List.setIfInBounds_toArray,List.set_cons_zero,List.set_cons_succ]
  refine AnyZ.ready (rs:=[4]) (by kernel_rfl) (by simp) ?_
  refine AllZ.cons (o:=⟨some 22,.call {callee:= .value (.func 13),args:=#[.tmp 20,.tmp 21],argTypes:=#[26,22]},3,"made.go:148",#[⟨2,.data⟩,⟨3,.data⟩],none⟩) rfl (fun K hK=> ?_) AllZ.nil
  have hng:Wa.heap.size≠g:=by have :=HZ2.out;omega
  go_simp
  (go_at_call 13;(with_reducible refine (Pick_any g n c A zs [3600,86400,7,259200,40000] _ 5 5 3 _ HK.out.dice NB.out rfl (by decide) (by decide) hng).mono ?_);rintro e w' ⟨p,rfl,hp,hg2,hD2⟩)
  go_wp2_with fail
  have hpp:7≤p∧p≤259200:=by simp at hp;omega
  obtain ⟨hp1,hp2⟩:=hpp
  clear hp
  have hfw:IntKind.i64.wrap (f+p)=f+p:=by rw [IntKind.wrap_i64];omega
  refine AnyZ.go hK (A:=fun W=>Hid (EK w g A n c zs (w.heap.size+1) #[.int .i64 0,.int .i64 0,.int .i64 0,.int .i64 0,.int .i64 0] bx #[.int .i64 k,.int .i64 a,.int .i64 0,.int .i64 f,.int .i64 0] 93 w.heap.size #[.slice A1 n1 c1,.slice A2 n2 c2,.slice A3 n3 c3,.slice A4 n4 c4] 33 W)∧Hid (bx≤W.heap.size)) (S':=fun W=>W.cell? ⟨bx,3,none⟩=some (.int .i64 f)) (fun _ h=>h) ⟨Lib.hid ((HK.out).call hg2 hD2),Lib.hid (Nat.le_trans (SZ.out) hg2.size)⟩ (((HK.out).call hg2 hD2).k3.cell rfl) (fun W2 hA hH2=> ?_)
  clear hK K hH HK SZ NB
  obtain ⟨HK,SZ⟩:=hA
  have hH:=hH2
  clear hH2
  clear hg2 hD2 hng
  try simp only [Act.put,List.setIfInBounds_toArray,List.set_cons_zero,List.set_cons_succ]
  refine AnyZ.take [7] (i:=5) (oi:=⟨some 23,.binOp .add 3 (.tmp 19) (.tmp 22) 3,3,"made.go:148",#[⟨1,.data⟩,⟨4,.data⟩],none⟩) (v:= ?_) rfl (by kernel_rfl) (by kernel_rfl) (by kernel_rfl) (by kernel_rfl) (fun _ _ _ h=>h) (Or.inl ⟨by rfl, ?_⟩) hH ?_
  rotate_left
  focus (intro w hSw;(try dsimp only at hSw);go_simp;(try with_reducible rfl);done)
  try simp only [Act.put,List.setIfInBounds_toArray,List.set_cons_zero,List.set_cons_succ]
  refine AnyZ.take [7] (i:=6) (oi:=⟨some 24,.fieldAddr 93 (.tmp 6) 4,0,"made.go:148",#[⟨0,.phase⟩,⟨1,.phase⟩,⟨2,.phase⟩,⟨3,.phase⟩,⟨4,.phase⟩,⟨5,.phase⟩],none⟩) (v:= ?_) rfl (by kernel_rfl) (by kernel_rfl) (by kernel_rfl) (by kernel_rfl) (fun _ _ _ h=>h) (Or.inl ⟨by rfl, ?_⟩) hH ?_
  rotate_left
  focus (intro w hSw;(try dsimp only at hSw);go_simp;(try with_reducible rfl);done)
  try simp only [Act.put,List.setIfInBounds_toArray,List.set_cons_zero,List.set_cons_succ]
  refine AnyZ.last (o:=⟨none,.store 3 (.tmp 24) (.tmp 23),0,"made.go:148",#[⟨6,.data⟩,⟨5,.data⟩,⟨4,.chain⟩,⟨0,.phase⟩,⟨1,.phase⟩,⟨2,.phase⟩,⟨3,.phase⟩,⟨4,.phase⟩,⟨5,.phase⟩],none⟩) (by kernel_rfl) rfl (fun K hK=> ?_)
  have y1:W2.cell? ⟨bx,4,none⟩=some (.int .i64 0):=HK.out.k3.cell rfl
  have y2:=HK.out.k3.free 4
  go_simp
  refine hK.out _ _ ?_
  clear hK K hH
  try simp only [Act.put,List.setIfInBounds_toArray,List.set_cons_zero,List.set_cons_succ]
  refine AnyZ.done (by kernel_rfl) ?_ _
  clear y1 y2
  go_wp2_with fail
  go_meet
  exact ⟨f+p,by omega,by omega,Lib.hid (by have hh:=HK.out.set3 4 (.int .i64 (f+p));exact hh)⟩
 case rest=>
  obtain ⟨t,t0,t1,HK2⟩:=hcut
  obtain ⟨w4,rfl⟩: ∃w4:World,w4=wc:=⟨_,rfl⟩
  clear HK cf3 hbx hx3
  have hk:k=0∨k=1∨k=2:=by omega
  have q0:w4.cell? ⟨bx,0,none⟩=some (.int .i64 k):=HK2.out.k3.cell rfl
  have q1:w4.cell? ⟨bx,1,none⟩=some (.int .i64 a):=HK2.out.k3.cell rfl
  have q2:w4.cell? ⟨bx,2,none⟩=some (.int .i64 0):=HK2.out.k3.cell rfl
  have q3:w4.cell? ⟨bx,3,none⟩=some (.int .i64 f):=HK2.out.k3.cell rfl
  have q4:w4.cell? ⟨bx,4,none⟩=some (.int .i64 t):=HK2.out.k3.cell rfl
  clear k0 k1
  rcases hk with rfl|rfl|rfl
  ·clear q0 q1 q2 q3 q4
   have q0:w4.cell? ⟨bx,0,none⟩=some (.int .i64 0):=HK2.out.k3.cell rfl
   have s0:=HK2.out.k3.cell (i:=0) rfl
   have s1:=HK2.out.k3.cell (i:=1) rfl
   have s2:=HK2.out.k3.cell (i:=2) rfl
   have s3:=HK2.out.k3.cell (i:=3) rfl
   have s4:=HK2.out.k3.cell (i:=4) rfl
   have r0:=HK2.out.k2.cell (i:=0) rfl
   have r1:=HK2.out.k2.cell (i:=1) rfl
   have r2:=HK2.out.k2.cell (i:=2) rfl
   have r3:=HK2.out.k2.cell (i:=3) rfl
   have r4:=HK2.out.k2.cell (i:=4) rfl
   have f0':=HK2.out.k2.free 0
   have f1':=HK2.out.k2.free 1
   have f2':=HK2.out.k2.free 2
   have f3':=HK2.out.k2.free 3
   have f4':=HK2.out.k2.free 4
   have HFI:=Lib.hid (edited_fin (np:=n2) HK2.out ⟨0,a,0,f,t⟩ (edit_ok (.inl rfl) (.inl ⟨a0,a1⟩) (.inr ⟨by decide,rfl⟩) (by omega) t0 t1))
   go_wp2_with fail
   refine bodyPost_ret (v:= .agg #[.int .i64 0,.int .i64 a,.int .i64 0,.int .i64 f,.int .i64 t]) (by simp [results,Tryz.results37,go_sem,r0,r1,r2,r3,r4,f0',f1',f2',f3',f4']) rfl ?_
   exact HFI.out _ _ _ _ _
  ·clear q1 q2 q3 q4
   go_wp2_with fail
   refine (Bool_any g n c A zs 4 _ HK2.out.dice (by decide) (by decide)).mono ?_
   rintro e w5 ⟨bb,rfl,g5,D5⟩
   have HK5:=Lib.hid (HK2.out.call g5 D5)
   clear g5 D5 HK2 q0
   cases bb
   ·skip
    have s0:=HK5.out.k3.cell (i:=0) rfl
    have s1:=HK5.out.k3.cell (i:=1) rfl
    have s2:=HK5.out.k3.cell (i:=2) rfl
    have s3:=HK5.out.k3.cell (i:=3) rfl
    have s4:=HK5.out.k3.cell (i:=4) rfl
    have r0:=HK5.out.k2.cell (i:=0) rfl
    have r1:=HK5.out.k2.cell (i:=1) rfl
    have r2:=HK5.out.k2.cell (i:=2) rfl
    have r3:=HK5.out.k2.cell (i:=3) rfl
    have r4:=HK5.out.k2.cell (i:=4) rfl
    have f0':=HK5.out.k2.free 0
    have f1':=HK5.out.k2.free 1
    have f2':=HK5.out.k2.free 2
    have f3':=HK5.out.k2.free 3
    have f4':=HK5.out.k2.free 4
    have HFI:=Lib.hid (edited_fin (np:=n2) HK5.out ⟨1,a,0,f,t⟩ (edit_ok (.inr (.inl rfl)) (.inl ⟨a0,a1⟩) (.inr ⟨by decide,rfl⟩) (by omega) t0 t1))
    go_wp2_with fail
    refine bodyPost_ret (v:= .agg #[.int .i64 1,.int .i64 a,.int .i64 0,.int .i64 f,.int .i64 t]) (by simp [results,Tryz.results37,go_sem,r0,r1,r2,r3,r4,f0',f1',f2',f3',f4']) rfl ?_
    exact HFI.out _ _ _ _ _
   ·have z1:w5.cell? ⟨bx,1,none⟩=some (.int .i64 a):=HK5.out.k3.cell rfl
    have z2:=HK5.out.k3.free 1
    have HK6:=Lib.hid (show EK w g A n c zs (w.heap.size+1) #[.int .i64 0,.int .i64 0,.int .i64 0,.int .i64 0,.int .i64 0] bx #[.int .i64 1,.int .i64 (-1),.int .i64 0,.int .i64 f,.int .i64 t] 93 w.heap.size #[.slice A1 n1 c1,.slice A2 n2 c2,.slice A3 n3 c3,.slice A4 n4 c4] 33 (w5.setCell ⟨bx,1,none⟩ (.int .i64 (-1))) from HK5.out.set3 1 (.int .i64 (-1)))
    have s0:=HK6.out.k3.cell (i:=0) rfl
    have s1:=HK6.out.k3.cell (i:=1) rfl
    have s2:=HK6.out.k3.cell (i:=2) rfl
    have s3:=HK6.out.k3.cell (i:=3) rfl
    have s4:=HK6.out.k3.cell (i:=4) rfl
    have r0:=HK6.out.k2.cell (i:=0) rfl
    have r1:=HK6.out.k2.cell (i:=1) rfl
    have r2:=HK6.out.k2.cell (i:=2) rfl
    have r3:=HK6.out.k2.cell (i:=3) rfl
    have r4:=HK6.out.k2.cell (i:=4) rfl
    have f0':=HK6.out.k2.free 0
    have f1':=HK6.out.k2.free 1
    have f2':=HK6.out.k2.free 2
    have f3':=HK6.out.k2.free 3
    have f4':=HK6.out.k2.free 4
    have HFI:=Lib.hid (edited_fin (np:=n2) HK6.out ⟨1, -1,0,f,t⟩ (edit_ok (.inr (.inl rfl)) (.inr ⟨rfl,rfl⟩) (.inr ⟨by decide,rfl⟩) (by omega) t0 t1))
    go_wp2_with fail
    refine bodyPost_ret (v:= .agg #[.int .i64 1,.int .i64 (-1),.int .i64 0,.int .i64 f,.int .i64 t]) (by simp [results,Tryz.results37,go_sem,r0,r1,r2,r3,r4,f0',f1',f2',f3',f4']) rfl ?_
    exact HFI.out _ _ _ _ _
  ·by_cases hn2:n2<2
   ·have z1:=HK2.out.k3.free 0
    have HK6:=Lib.hid (show EK w g A n c zs (w.heap.size+1) #[.int .i64 0,.int .i64 0,.int .i64 0,.int .i64 0,.int .i64 0] bx #[.int .i64 0,.int .i64 a,.int .i64 0,.int .i64 f,.int .i64 t] 93 w.heap.size #[.slice A1 n1 c1,.slice A2 n2 c2,.slice A3 n3 c3,.slice A4 n4 c4] 33 (w4.setCell ⟨bx,0,none⟩ (.int .i64 0)) from HK2.out.set3 0 (.int .i64 0))
    clear q1 q2 q3 q4
    have s0:=HK6.out.k3.cell (i:=0) rfl
    have s1:=HK6.out.k3.cell (i:=1) rfl
    have s2:=HK6.out.k3.cell (i:=2) rfl
    have s3:=HK6.out.k3.cell (i:=3) rfl
    have s4:=HK6.out.k3.cell (i:=4) rfl
    have r0:=HK6.out.k2.cell (i:=0) rfl
    have r1:=HK6.out.k2.cell (i:=1) rfl
    have r2:=HK6.out.k2.cell (i:=2) rfl
    have r3:=HK6.out.k2.cell (i:=3) rfl
    have r4:=HK6.out.k2.cell (i:=4) rfl
    have f0':=HK6.out.k2.free 0
    have f1':=HK6.out.k2.free 1
    have f2':=HK6.out.k2.free 2
    have f3':=HK6.out.k2.free 3
    have f4':=HK6.out.k2.free 4
    have HFI:=Lib.hid (edited_fin (np:=n2) HK6.out ⟨0,a,0,f,t⟩ (edit_ok (.inl rfl) (.inl ⟨a0,a1⟩) (.inr ⟨by decide,rfl⟩) (by omega) t0 t1))
    go_wp2_with fail
    refine bodyPost_ret (v:= .agg #[.int .i64 0,.int .i64 a,.int .i64 0,.int .i64 f,.int .i64 t]) (by simp [results,Tryz.results37,go_sem,r0,r1,r2,r3,r4,f0',f1',f2',f3',f4']) rfl ?_
    exact HFI.out _ _ _ _ _
   ·have hn3:2≤n2:=by omega
    have hn4:n2≠0:=by omega
    have hw1:IntKind.i64.wrap ((n2:Int)-1)=(n2:Int)-1:=by rw [IntKind.wrap_i64];omega
    have hw2:IntKind.i64.wrap (a+1)=a+1:=by rw [IntKind.wrap_i64];omega
    clear q2 q3 q4 q0
    have q0:w4.cell? ⟨bx,0,none⟩=some (.int .i64 2):=HK2.out.k3.cell rfl
    go_upto_region 8 with fail
    go_cut [] (fun wx=> ∃b:Int,0≤b∧b<n2∧Hid (a≠b)∧Hid (EK w g A n c zs (w.heap.size+1) #[.int .i64 0,.int .i64 0,.int .i64 0,.int .i64 0,.int .i64 0] bx #[.int .i64 2,.int .i64 a,.int .i64 b,.int .i64 f,.int .i64 t] 93 w.heap.size #[.slice A1 n1 c1,.slice A2 n2 c2,.slice A3 n3 c3,.slice A4 n4 c4] 33 wx))
    case first =>
     refine AnyZ.start 11 (A:=fun W=>Hid (EK w g A n c zs (w.heap.size+1) #[.int .i64 0,.int .i64 0,.int .i64 0,.int .i64 0,.int .i64 0] bx #[.int .i64 2,.int .i64 a,.int .i64 0,.int .i64 f,.int .i64 t] 93 w.heap.size #[.slice A1 n1 c1,.slice A2 n2 c2,.slice A3 n3 c3,.slice A4 n4 c4] 33 W)) (S:=fun W=>W.cell? ⟨bx,1,none⟩=some (.int .i64 a)) (by kernel_rfl) (Lib.hid (HK2.out.drew)) ((HK2.out.drew).k3.cell rfl) (fun Wa hA hH=> ?_)
     have HK:=hA
     clear hA
     refine AnyZ.take [11] (i:=0) (oi:=⟨some 32,.fieldAddr 93 (.tmp 6) 1,0,"made.go:154",#[],none⟩) (v:= ?_) rfl (by kernel_rfl) (by kernel_rfl) (by kernel_rfl) (by kernel_rfl) (fun _ _ _ h=>h) (Or.inl ⟨by rfl, ?_⟩) hH ?_
     rotate_left
     focus (intro w hSw;(try dsimp only at hSw);go_simp;(try with_reducible rfl);done)
     try simp only [Act.put,List.setIfInBounds_toArray,List.set_cons_zero,List.set_cons_succ]
     refine AnyZ.take [11] (i:=1) (oi:=⟨some 33,.load 3 (.tmp 32),3,"made.go:154",#[⟨0,.data⟩],none⟩) (v:= ?_) rfl (by kernel_rfl) (by kernel_rfl) (by kernel_rfl) (by kernel_rfl) (fun _ _ _ h=>h) (Or.inl ⟨by rfl, ?_⟩) hH ?_
     rotate_left
     focus (intro w hSw;(try dsimp only at hSw);go_simp;(try with_reducible rfl);done)
     try simp only [Act.put,List.setIfInBounds_toArray,List.set_cons_zero,List.set_cons_succ]
     refine AnyZ.take [11] (i:=2) (oi:=⟨some 34,.binOp .add 3 (.tmp 33) (.const (.int .i64 1)) 3,3,"made.go:154",#[⟨1,.data⟩],none⟩) (v:= ?_) rfl (by kernel_rfl) (by kernel_rfl) (by kernel_rfl) (by kernel_rfl) (fun _ _ _ h=>h) (Or.inl ⟨by rfl, ?_⟩) hH ?_
     rotate_left
     focus (intro w hSw;(try dsimp only at hSw);go_simp;(try with_reducible rfl);done)
     try simp only [Act.put,List.setIfInBounds_toArray,List.set_cons_zero,List.set_cons_succ]
     refine AnyZ.take [11] (i:=3) (oi:=⟨some 35,.move (.tmp 0),26,"made.go:154",#[],none⟩) (v:= ?_) rfl (by kernel_rfl) (by kernel_rfl) (by kernel_rfl) (by kernel_rfl) (fun _ _ _ h=>h) (Or.inl ⟨by rfl, ?_⟩) hH ?_
     rotate_left
     focus (intro w hSw;(try dsimp only at hSw);go_simp;(try with_reducible rfl);done)
     try simp only [Act.put,List.setIfInBounds_toArray,List.set_cons_zero,List.set_cons_succ]
     refine AnyZ.take [11] (i:=4) (oi:=⟨some 36,.move (.tmp 5),3,"made.go:154",#[],none⟩) (v:= ?_) rfl (by kernel_rfl) (by kernel_rfl) (by kernel_rfl) (by kernel_rfl) (fun _ _ _ h=>h) (Or.inl ⟨by rfl, ?_⟩) hH ?_
     rotate_left
     focus (intro w hSw;(try dsimp only at hSw);go_simp;(try with_reducible rfl);done)
     try simp only [Act.put,List.setIfInBounds_toArray,List.set_cons_zero,List.set_cons_succ]
     refine AnyZ.take [11] (i:=5) (oi:=⟨some 37,.binOp .sub 3 (.tmp 36) (.const (.int .i64 1)) 3,3,"made.go:154",#[⟨4,.data⟩],none⟩) (v:= ?_) rfl (by kernel_rfl) (by kernel_rfl) (by kernel_rfl) (by kernel_rfl) (fun _ _ _ h=>h) (Or.inl ⟨by rfl, ?_⟩) hH ?_
     rotate_left
     focus (intro w hSw;(try dsimp only at hSw);go_simp;(try with_reducible rfl);done)
     try simp only [Act.put,List.setIfInBounds_toArray,List.set_cons_zero,List.set_cons_succ]
     refine AnyZ.take [11] (i:=8) (oi:=⟨some 40,.move (.tmp 5),3,"made.go:154",#[],none⟩) (v:= ?_) rfl (by kernel_rfl) (by kernel_rfl) (by kernel_rfl) (by kernel_rfl) (fun _ _ _ h=>h) (Or.inl ⟨by rfl, ?_⟩) hH ?_
     rotate_left
     focus (intro w hSw;(try dsimp only at hSw);go_simp;(try with_reducible rfl);done)
     try simp only [Act.put,List.setIfInBounds_toArray,List.set_cons_zero,List.set_cons_succ]
     refine AnyZ.ready (rs:=[6]) (by kernel_rfl) (by simp) ?_
     refine AllZ.cons (o:=⟨some 38,.call {callee:= .value (.func 32),args:=#[.tmp 35,.tmp 37],argTypes:=#[26,3]},3,"made.go:154",#[⟨3,.data⟩,⟨5,.data⟩],none⟩) rfl (fun K hK=> ?_) AllZ.nil
     go_simp
     (go_at_call 32;(with_reducible refine (Next_any g n c A zs _ _ HK.out.dice (by omega) (by omega)).mono ?_);rintro e w' ⟨r,rfl,r0,r1,hg2,hD2⟩)
     go_wp2_with fail
     have hr:=rem_ix a0 a1 r0 r1
     have hrw:IntKind.i64.wrap (a+1+r)=a+1+r:=by rw [IntKind.wrap_i64];omega
     refine AnyZ.go hK (A:=fun W=>Hid (EK w g A n c zs (w.heap.size+1) #[.int .i64 0,.int .i64 0,.int .i64 0,.int .i64 0,.int .i64 0] bx #[.int .i64 2,.int .i64 a,.int .i64 0,.int .i64 f,.int .i64 t] 93 w.heap.size #[.slice A1 n1 c1,.slice A2 n2 c2,.slice A3 n3 c3,.slice A4 n4 c4] 33 W)) (S':=fun W=>W.cell? ⟨bx,1,none⟩=some (.int .i64 a)) (fun _ h=>h) (Lib.hid ((HK.out).call hg2 hD2)) (((HK.out).call hg2 hD2).k3.cell rfl) (fun W1 hA hH2=> ?_)
     clear hK K hH HK
     have HK:=hA
     clear hA
     have hH:=hH2
     clear hH2
     clear hg2 hD2
     try simp only [Act.put,List.setIfInBounds_toArray,List.set_cons_zero,List.set_cons_succ]
     refine AnyZ.take [11] (i:=7) (oi:=⟨some 39,.binOp .add 3 (.tmp 34) (.tmp 38) 3,3,"made.go:154",#[⟨2,.data⟩,⟨6,.data⟩],none⟩) (v:= ?_) rfl (by kernel_rfl) (by kernel_rfl) (by kernel_rfl) (by kernel_rfl) (fun _ _ _ h=>h) (Or.inl ⟨by rfl, ?_⟩) hH ?_
     rotate_left
     focus (intro w hSw;(try dsimp only at hSw);go_simp;(try with_reducible rfl);done)
     try simp only [Act.put,List.setIfInBounds_toArray,List.set_cons_zero,List.set_cons_succ]
     refine AnyZ.take [11] (i:=9) (oi:=⟨some 41,.binOp .rem 3 (.tmp 39) (.tmp 40) 3,3,"made.go:154",#[⟨7,.data⟩,⟨8,.data⟩],none⟩) (v:= ?_) rfl (by kernel_rfl) (by kernel_rfl) (by kernel_rfl) (by kernel_rfl) (fun _ _ _ h=>h) (Or.inl ⟨by rfl, ?_⟩) hH ?_
     rotate_left
     focus (intro w hSw;(try dsimp only at hSw);go_simp;(try with_reducible rfl);done)
     try simp only [Act.put,List.setIfInBounds_toArray,List.set_cons_zero,List.set_cons_succ]
     refine AnyZ.take [11] (i:=10) (oi:=⟨some 42,.fieldAddr 93 (.tmp 6) 2,0,"made.go:154",#[⟨0,.phase⟩,⟨1,.phase⟩,⟨2,.phase⟩,⟨3,.phase⟩,⟨4,.phase⟩,⟨5,.phase⟩,⟨6,.phase⟩,⟨7,.phase⟩,⟨8,.phase⟩,⟨9,.phase⟩],none⟩) (v:= ?_) rfl (by kernel_rfl) (by kernel_rfl) (by kernel_rfl) (by kernel_rfl) (fun _ _ _ h=>h) (Or.inl ⟨by rfl, ?_⟩) hH ?_
     rotate_left
     focus (intro w hSw;(try dsimp only at hSw);go_simp;(try with_reducible rfl);done)
     try simp only [Act.put,List.setIfInBounds_toArray,List.set_cons_zero,List.set_cons_succ]
     refine AnyZ.last (o:=⟨none,.store 3 (.tmp 42) (.tmp 41),0,"made.go:154",#[⟨10,.data⟩,⟨9,.data⟩,⟨6,.chain⟩,⟨0,.phase⟩,⟨1,.phase⟩,⟨2,.phase⟩,⟨3,.phase⟩,⟨4,.phase⟩,⟨5,.phase⟩,⟨6,.phase⟩,⟨7,.phase⟩,⟨8,.phase⟩,⟨9,.phase⟩],none⟩) (by kernel_rfl) rfl (fun K hK=> ?_)
     have y1:W1.cell? ⟨bx,2,none⟩=some (.int .i64 0):=HK.out.k3.cell rfl
     have y2:=HK.out.k3.free 2
     go_simp
     refine hK.out _ _ ?_
     clear hK K hH
     try simp only [Act.put,List.setIfInBounds_toArray,List.set_cons_zero,List.set_cons_succ]
     refine AnyZ.done (by kernel_rfl) ?_ _
     clear y1 y2
     go_wp2_with fail
     go_meet
     exact ⟨(a+1+r).tmod n2,hr.1,hr.2.1,Lib.hid hr.2.2,Lib.hid (by have hh:=HK.out.set3 2 (.int .i64 ((a+1+r).tmod n2));exact hh)⟩
    case rest=>
     obtain ⟨b,b0,b1,HB,HK9⟩:=hcut
     obtain ⟨w5,rfl⟩: ∃w5:World,w5=wc:=⟨_,rfl⟩
     clear HK2 q0 q1
     have s0:=HK9.out.k3.cell (i:=0) rfl
     have s1:=HK9.out.k3.cell (i:=1) rfl
     have s2:=HK9.out.k3.cell (i:=2) rfl
     have s3:=HK9.out.k3.cell (i:=3) rfl
     have s4:=HK9.out.k3.cell (i:=4) rfl
     have r0:=HK9.out.k2.cell (i:=0) rfl
     have r1:=HK9.out.k2.cell (i:=1) rfl
     have r2:=HK9.out.k2.cell (i:=2) rfl
     have r3:=HK9.out.k2.cell (i:=3) rfl
     have r4:=HK9.out.k2.cell (i:=4) rfl
     have f0':=HK9.out.k2.free 0
     have f1':=HK9.out.k2.free 1
     have f2':=HK9.out.k2.free 2
     have f3':=HK9.out.k2.free 3
     have f4':=HK9.out.k2.free 4
     have HFI:=Lib.hid (edited_fin (np:=n2) HK9.out ⟨2,a,b,f,t⟩ (edit_ok (.inr (.inr rfl)) (.inl ⟨a0,a1⟩) (.inl ⟨rfl,b0,b1,HB.out⟩) (by omega) t0 t1))
     go_wp2_with fail
     refine bodyPost_ret (v:= .agg #[.int .i64 2,.int .i64 a,.int .i64 b,.int .i64 f,.int .i64 t]) (by simp [results,Tryz.results37,go_sem,r0,r1,r2,r3,r4,f0',f1',f2',f3',f4']) rfl ?_
     exact HFI.out _ _ _ _ _
end Go.Proofs.YtfamcohbnoibaaaGreatDoor
