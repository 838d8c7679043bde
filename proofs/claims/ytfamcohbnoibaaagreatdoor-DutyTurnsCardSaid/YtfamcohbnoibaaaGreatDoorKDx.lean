import Derived.Test.YtfamcohbnoibaaaGreatDoorKDw
set_option linter.unusedVariables false
set_option linter.unusedSimpArgs false
set_option maxRecDepth 100000
namespace Go.Proofs.YtfamcohbnoibaaaGreatDoor
open Go.RowKit
section
variable {α β:Type} {T:TypeId} {k:Nat} {e:α×β→Nat→Value} {P:(Nat→Prop)→World→α→β→Prop} {lo g:Nat} {S:Nat→Prop} {w w':World} {v:SV} {l:List α}
theorem GrowS.below2 (K:PMv P) (h:GrowS T k e P lo S w v l) (hb:Below w.heap.size w w'):GrowS T k e P lo S w' v l:=
 h.mv (row:=none) (grown_then (grown_refl _ _) hb (Nat.le_refl _)) (fun _ _ e=>by cases e) (K _ _ _ _ (Mv.of_below hb (fun _ h _=>h))) (fun q hq=>(h.lt q hq).2.2)
theorem GrowS.call2 (K:PMv P) (h:GrowS T k e P lo S w v l) (hg:w.grownBy w' (some g)) (h1:g<lo) (h2:¬S g):GrowS T k e P lo S w' v l:=
 h.mv hg (fun q hq er=>by cases er;have :=(h.lt g hq).1;omega) (K _ _ _ _ (Mv.of_grown hg (fun r er=>by cases er;exact h2) (fun _ h _=>h))) (fun q hq=>(h.lt q hq).2.2)
end
theorem Layer_lit (g n c:Nat) (A:Option Addr) (zs:List Int) (A1 A2 A3 A4:Option Addr) (n1 c1 n2 c2 n3 c3 n4 c4:Nat) (nm:List UInt8) (h1:1≤n1) (h1':n1≤1000) (h2:1≤n2) (h2':n2≤1000) (h3':n3≤1000) (w:World) (h:Dice w g A n c zs):
  Calls Tryz.prog 12 #[.pointer (some ⟨g,0,none⟩),.agg #[.slice A1 n1 c1,.slice A2 n2 c2,.slice A3 n3 c3,.slice A4 n4 c4],.string ⟨nm.toArray⟩] w fun e w'=>
   ∃(l:Rs.Lay) (m1:Option Addr) (m2 m3:Nat) (q1:Option Addr) (q2 q3:Nat),e= .returned (.agg #[.string ⟨nm.toArray⟩,.int .i64 l.zone,.int .i64 l.day,.int .i64 l.sec,.int .i64 l.unit,.int .i64 l.every,.slice m1 m2 m3,.slice q1 q2 q3,.int .i64 l.cal,.int .i64 l.mode])∧l.name=nm∧Rs.ML n1 n2 n3 l∧LayS (fun b=>w.heap.size≤b) w' l ((m1,m2,m3),(q1,q2,q3))∧w.grownBy w' (some g)∧Dice w' g A n c zs:=by
 refine (Layer_any g n c A zs A1 A2 A3 A4 n1 c1 n2 c2 n3 c3 n4 c4 ⟨nm.toArray⟩ h1 h1' h2 h2' h3' w h).mono ?_
 rintro e w' ⟨l,⟨m1,m2,m3⟩,⟨q1,q2,q3⟩,rfl,hn,hl,hs,hg,hD⟩
 exact ⟨l,m1,m2,m3,q1,q2,q3,rfl,by simpa using hn,hl,hs,hg,hD⟩
theorem schedN_at {k:Nat} {x:List UInt8} (h:Rs.nmS[k]? =some x):(#[.string ⟨#[102,105,114,115,116]⟩,.string ⟨#[115,101,99,111,110,100]⟩,.string ⟨#[116,104,105,114,100]⟩]:Array Value)[k]? =some (.string ⟨x.toArray⟩):=by
 have e:(#[.string ⟨#[102,105,114,115,116]⟩,.string ⟨#[115,101,99,111,110,100]⟩,.string ⟨#[116,104,105,114,100]⟩]:Array Value)=(Rs.nmS.map fun x=>Value.string ⟨x.toArray⟩).toArray:=by kernel_rfl
 rw [e,List.getElem?_toArray,List.getElem?_map,h]
 rfl
theorem dlay_vals (nm:List UInt8) (l:Rs.Lay) (hn:l.name=nm) (m1:Option Addr) (m2 m3:Nat) (q1:Option Addr) (q2 q3:Nat): ∀j,j<10→(#[Value.string ⟨nm.toArray⟩,.int .i64 l.zone,.int .i64 l.day,.int .i64 l.sec,.int .i64 l.unit,.int .i64 l.every,.slice m1 m2 m3,.slice q1 q2 q3,.int .i64 l.cal,.int .i64 l.mode]:Array Value)[j]? =some (eLay (l,((m1,m2,m3),(q1,q2,q3))) j):=fun j hj=>by
 subst hn
 rcases j with _|_|_|_|_|_|_|_|_|_|_<;>first|rfl|omega
theorem dedit_vals (x:Rs.Edit): ∀j,j<5→(#[Value.int .i64 x.kind,.int .i64 x.a,.int .i64 x.b,.int .i64 x.fr,.int .i64 x.to]:Array Value)[j]? =some (eEdit x j):=fun j hj=>by
 rcases j with _|_|_|_|_|_<;>first|rfl|omega
theorem dsch_vals (nm:List UInt8) (ll:List Rs.Lay) (el:List Rs.Edit) (y1:Option Addr) (y2 y3:Nat) (e1:Option Addr) (e2 e3:Nat): ∀j,j<3→(#[Value.string ⟨nm.toArray⟩,.slice y1 y2 y3,.slice e1 e2 e3]:Array Value)[j]? =some (eSch ((⟨nm,ll,el⟩:Rs.Sch),((y1,y2,y3),(e1,e2,e3))) j):=fun j hj=>by
 rcases j with _|_|_|_<;>first|rfl|omega
theorem hs_row {N gg bs bc:Nat} {o:Option Nat} (h:o=some gg∨gg=N) (q:Nat) (hq:some q∈[some bs,some bc,some gg]):some q∈[some bs,some bc,o]∨N≤q:=by
 rcases h with h|h
 ·left
  rw [h]
  exact hq
 ·simp only [List.mem_cons,Option.some.injEq,List.not_mem_nil,or_false] at hq
  rcases hq with hq|hq|hq
  ·left;simp [hq]
  ·left;simp [hq]
  ·right;omega
theorem no_three {q a b:Nat} {o:Option Nat} (h:some q∈[some a,some b,o]) (h1:q≠a) (h2:q≠b) (h3: ∀r,o=some r→q≠r):False:=by
 simp only [List.mem_cons,Option.some.injEq,List.not_mem_nil,or_false] at h
 rcases h with h|h|h
 ·exact h1 h
 ·exact h2 h
 ·exact h3 q h.symm rfl
theorem mem4 {x a b c d:Option Nat} (h:x∈[a,b,c,d]):x=a∨x=b∨x=c∨x=d:=by simpa using h
def Configed (m0:Int) (w:World) (g:Nat) (A:Option Addr) (n c:Nat) (zs:List Int) (e:Ending) (w':World):Prop:=
 ∃(a b d v:SV) (C:Rs.Cfg),e= .returned (cfgV a b d v)∧CfgAt w.heap.size w'.heap.size w' a b d v C∧Rs.Made C∧1≤C.zones.length∧1≤C.people.length∧1≤C.scheds.length∧(C.scheds.length:Int)≤m0∧w.grownBy w' (some g)∧Dice w' g A n c zs
set_option maxHeartbeats 32000000 in
theorem Config_any (g n c:Nat) (A:Option Addr) (zs:List Int) (m0:Int) (hm1:1≤m0) (hm2:m0≤3) (w:World) (h:Dice w g A n c zs):
  Calls Tryz.prog 11 #[.pointer (some ⟨g,0,none⟩),.int .i64 m0] w (Configed m0 w g A n c zs):=by
 have hgw:=h.lt_
 have HD:=Lib.hid h
 clear h
 go_enter Tryz.func11,Tryz.ntmps11
 go_wp2_with fail
 refine (Staff_any g n c A zs _ (HD.out.alloc _)).mono ?_
 rintro e w2 ⟨⟨a1,a2,a3⟩,⟨b1,b2,b3⟩,⟨d1,d2,d3⟩,C,rfl,hS,hC0,hMade,hz1,hp1,g2,D2⟩
 simp only [cfgV,noSV]
 have hs2:=g2.size
 simp at hs2
 have hS':StaffS (fun q=>w.heap.size+1≤q) w2 (a1,a2,a3) (b1,b2,b3) (d1,d2,d3) C:=by simpa using hS
 have la:C.zones.length=a2:=hS'.zones.len
 have lb:C.people.length=b2:=hS'.people.len
 have ld:C.cals.length=d2:=hS'.cals.len
 have za1:1≤a2:=by omega
 have za2:a2≤2:=by have :=hMade.zl;omega
 have zb1:1≤b2:=by omega
 have zb2:b2≤4:=by have :=hMade.pl;omega
 have zd2:d2≤1:=by have :=hMade.cl;omega
 obtain ⟨bc,hbc⟩: ∃b,w2.heap.size=b:=⟨_,rfl⟩
 have hbc1:w.heap.size+1≤bc:=by omega
 have HK:=Lib.hid (show SK 90 3 eSch SchS w g A n c zs (w.heap.size+1) [some bc] (a1,a2,a3) (b1,b2,b3) (d1,d2,d3) C w.heap.size (cfgA noSV noSV noSV noSV) 33 bc (cfgA (a1,a2,a3) (b1,b2,b3) (d1,d2,d3) noSV) 33 noSV [] (w2.alloc (.cells (cfgA (a1,a2,a3) (b1,b2,b3) (d1,d2,d3) noSV) 33)) from ⟨⟨grown_alloc (grown_trans (grown_alloc (grown_refl w (some g)) _) g2) _,D2.alloc _,by omega,hgw,by simp;omega,hS'.mv (Mv.of_below ((Below.refl _ _).alloc (Nat.le_refl _) _) (fun b hb hl=>⟨hb,by simp [own1,sv,noSV,Value.ownBlock];omega⟩)),GrowS.nil_ _ _,fun q hq er=>by cases er⟩,
  BlkAt.alloc (blk_after (blk_new rfl) g2 (by omega)) _,blk_new hbc,.inl ⟨by omega,by omega⟩,.inr (by simp),by omega,fun q hq=>by simp at hq;omega⟩)
 have HMD:=Lib.hid hMade
 have HLA:=Lib.hid (And.intro la (And.intro lb ld))
 clear hS hS' g2 D2 HD hMade la lb ld hz1 hp1 hC0 hs2
 go_wp2_with fail
 refine (Next_any g n c A zs m0 _ HK.out.rs.dice hm1 (by omega)).mono ?_
 rintro e w3 ⟨i0,rfl,i1,i2,g3,D3⟩
 have HK3:=Lib.hid (HK.out.call pS g3 D3)
 clear g3 D3 HK hbc
 go_wp2_with fail
 go_loopw [6] (fun vi wr=> ∃(i:Int) (sl:List Rs.Sch) (v:SV),vi= .int .i64 i∧0≤i∧1≤(sl.length:Int)+i∧(sl.length:Int)+i≤m0∧Hid ((∀s∈sl,Rs.MS a2 b2 d2 s)∧sl.map (·.name)=Rs.nmS.take sl.length)∧Hid (SK 90 3 eSch SchS w g A n c zs (w.heap.size+1) [some bc] (a1,a2,a3) (b1,b2,b3) (d1,d2,d3) C w.heap.size (cfgA noSV noSV noSV noSV) 33 bc (cfgA (a1,a2,a3) (b1,b2,b3) (d1,d2,d3) v) 33 v sl wr)) (fun vi _=>(intOf vi).toNat)
 case atStart=>exact ⟨1+i0,[],noSV,by go_num,by omega,by simp;omega,by simp;omega,Lib.hid ⟨(fun z hz=>by cases hz),rfl⟩,HK3⟩
 case round=>
  clear HK3
  obtain ⟨i,sl,⟨v1,v2,v3⟩,rfl,j1,j2,j3,HM,HK⟩:=hrel
  have hv:=HK.out.rs.row.len
  simp only at hv
  rw [hv] at j2 j3
  have hwr:=HK.out.k3.lt_
  by_cases hi:0<i
  ·obtain ⟨nm,hnm⟩:=nm_ex (L:=Rs.nmS) (k:=v2) (by show v2<3;omega)
   have HNM:=Lib.hid hnm
   have q0:(v2:Int).tmod 3=v2:=by rw [Int.tmod_eq_emod_of_nonneg (by omega)];omega
   have q1:(v2:Int)%3=v2:=by omega
   have q2:v2<3:=by omega
   have q3:wr.cell? ⟨bc,3,none⟩=some (.slice v1 v2 v3):=HK.out.k3.cell rfl
   have q4:(wr.alloc (.cells #[.string ⟨#[102,105,114,115,116]⟩,.string ⟨#[115,101,99,111,110,100]⟩,.string ⟨#[116,104,105,114,100]⟩] 9)).cell? ⟨bc,3,none⟩=some (.slice v1 v2 v3):=(HK.out.alloc pS _).k3.cell rfl
   have q5:(wr.alloc (.cells #[.string ⟨#[102,105,114,115,116]⟩,.string ⟨#[115,101,99,111,110,100]⟩,.string ⟨#[116,104,105,114,100]⟩] 9)).cell? ⟨wr.heap.size,v2,none⟩=some (.string ⟨nm.toArray⟩):=(BlkAt.new wr _ _).cell (schedN_at hnm)
   obtain ⟨bs,hbs⟩: ∃b,wr.heap.size+1=b:=⟨_,rfl⟩
   have HB:=Lib.hid hbs
   have hbs1:bc<bs:=by omega
   have HOV:Hid (∀q,(sv (v1,v2,v3)).ownBlock=some q→w.heap.size+1≤q∧q<bs):=Lib.hid fun q hq=>⟨(HK.out.rs.row.lt q hq).1,by have :=(HK.out.rs.row.lt q hq).2.1;omega⟩
   have HVB:=Lib.hid (show (sv (v1,v2,v3)).ownBlock≠some bc from (HK.out.exlt (q:=bc) (by simp)).2.2)
   have HK4:=Lib.hid (show SK 90 3 eSch SchS w g A n c zs (w.heap.size+1) [some bs,some bc] (a1,a2,a3) (b1,b2,b3) (d1,d2,d3) C w.heap.size (cfgA noSV noSV noSV noSV) 33 bc (cfgA (a1,a2,a3) (b1,b2,b3) (d1,d2,d3) (v1,v2,v3)) 33 (v1,v2,v3) sl ((wr.alloc (.cells #[.string ⟨#[102,105,114,115,116]⟩,.string ⟨#[115,101,99,111,110,100]⟩,.string ⟨#[116,104,105,114,100]⟩] 9)).alloc (.cells #[.string ⟨nm.toArray⟩,.slice none 0 0,.slice none 0 0] 90)) from (HK.out.alloc pS _).exnew pS ((Below.refl _ _).alloc (Nat.le_refl _) _) (by simp;omega))
   have PS4:=Lib.hid (show BlkAt ((wr.alloc (.cells #[.string ⟨#[102,105,114,115,116]⟩,.string ⟨#[115,101,99,111,110,100]⟩,.string ⟨#[116,104,105,114,100]⟩] 9)).alloc (.cells #[.string ⟨nm.toArray⟩,.slice none 0 0,.slice none 0 0] 90)) bs #[.string ⟨nm.toArray⟩,.slice none 0 0,.slice none 0 0] 90 from blk_new (by simp;omega))
   clear hnm HK
   go_wp2_with fail
   refine (Next_any g n c A zs 4 _ HK4.out.rs.dice (by decide) (by decide)).mono ?_
   rintro e w5 ⟨k0,rfl,k1,k2,g5,D5⟩
   have HK5:=Lib.hid (show SK 90 3 eSch SchS w g A n c zs (w.heap.size+1) [some bs,some bc,(sv noSV).ownBlock] (a1,a2,a3) (b1,b2,b3) (d1,d2,d3) C w.heap.size (cfgA noSV noSV noSV noSV) 33 bc (cfgA (a1,a2,a3) (b1,b2,b3) (d1,d2,d3) (v1,v2,v3)) 33 (v1,v2,v3) sl w5 from (HK4.out.call pS g5 D5).exless pS (fun q hq=>by simpa [sv,noSV,Value.ownBlock] using hq) (fun hr=>by simp at hr ⊢;omega) (fun hr=>by simp))
   have PS5:=Lib.hid (PS4.out.grown g5 (by intro e;cases e;omega))
   have hbs5:=PS5.out.lt_
   clear g5 D5 HK4 PS4 q3 q4 q5 q0 q1 hbs
   go_wp2_with fail
   go_loopw [8] (fun vk wr=> ∃(k:Int) (ll:List Rs.Lay) (y1:Option Addr) (y2 y3:Nat),vk= .int .i64 k∧0≤k∧(ll.length:Int)+k≤3∧Hid ((∀l∈ll,Rs.ML a2 b2 d2 l)∧ll.map (·.name)=Rs.nmP.take ll.length)∧Hid (SK 90 3 eSch SchS w g A n c zs (w.heap.size+1) [some bs,some bc,(sv (y1,y2,y3)).ownBlock] (a1,a2,a3) (b1,b2,b3) (d1,d2,d3) C w.heap.size (cfgA noSV noSV noSV noSV) 33 bc (cfgA (a1,a2,a3) (b1,b2,b3) (d1,d2,d3) (v1,v2,v3)) 33 (v1,v2,v3) sl wr)∧Hid (BlkAt wr bs #[.string ⟨nm.toArray⟩,.slice y1 y2 y3,.slice none 0 0] 90)∧Hid (GrowS 39 10 eLay LayS (bs+1) (Ex (w.heap.size+1) [(sv (y1,y2,y3)).ownBlock,some bs,some bc,(sv (v1,v2,v3)).ownBlock]) wr (y1,y2,y3) ll)) (fun vk _=>(intOf vk).toNat)
   case atStart=>exact ⟨k0,[],none,0,0,rfl,k1,by simp;omega,Lib.hid ⟨(fun z hz=>by cases hz),rfl⟩,HK5,PS5,Lib.hid (GrowS.nil_ _ _)⟩
   case round=>
    clear HK5 PS5
    obtain ⟨k,ll,y1,y2,y3,rfl,l1,l2,HML,HK,PS,LG⟩:=hrel
    have hy:=LG.out.len
    simp only at hy
    rw [hy] at l2
    have hps:=PS.out.lt_
    have HOY:Hid (∀q,(sv (y1,y2,y3)).ownBlock=some q→bs+1≤q∧q<wr.heap.size):=Lib.hid fun q hq=>⟨(LG.out.lt q hq).1,(LG.out.lt q hq).2.1⟩
    by_cases hk:0<k
    ·obtain ⟨nl,hnl⟩:=nm_ex (L:=Rs.nmP) (k:=y2) (by show y2<8;omega)
     have HNL:=Lib.hid hnl
     have b4:(0:Int)≤(y2:Int):=by omega
     have b5:(y2:Int)<8:=by omega
     have b6:y2<8:=by omega
     clear hnl
     go_wp2_with fail
     refine AnyZ.start 14 (A:=fun W=>Hid (SK 90 3 eSch SchS w g A n c zs (w.heap.size+1) [some bs,some bc,(sv (y1,y2,y3)).ownBlock] (a1,a2,a3) (b1,b2,b3) (d1,d2,d3) C w.heap.size (cfgA noSV noSV noSV noSV) 33 bc (cfgA (a1,a2,a3) (b1,b2,b3) (d1,d2,d3) (v1,v2,v3)) 33 (v1,v2,v3) sl W)∧Hid (BlkAt W bs #[.string ⟨nm.toArray⟩,.slice y1 y2 y3,.slice none 0 0] 90)∧Hid (GrowS 39 10 eLay LayS (bs+1) (Ex (w.heap.size+1) [(sv (y1,y2,y3)).ownBlock,some bs,some bc,(sv (v1,v2,v3)).ownBlock]) W (y1,y2,y3) ll)∧Hid (wr.heap.size≤W.heap.size)) (S:=fun W=>W.cell? ⟨bs,1,none⟩=some (.slice y1 y2 y3)∧W.cell? ⟨bc,0,none⟩=some (.slice a1 a2 a3)∧W.cell? ⟨bc,1,none⟩=some (.slice b1 b2 b3)∧W.cell? ⟨bc,2,none⟩=some (.slice d1 d2 d3)∧W.cell? ⟨bc,3,none⟩=some (.slice v1 v2 v3)) (by kernel_rfl) ⟨Lib.hid (HK.out.drew pS),Lib.hid (PS.out.drewN 1),Lib.hid (LG.out.below2 pL (Below.refl _ _).drew),Lib.hid (Nat.le_refl wr.heap.size)⟩ ⟨(PS.out.drewN 1).cell rfl,(HK.out.drew pS).k3.cell rfl,(HK.out.drew pS).k3.cell rfl,(HK.out.drew pS).k3.cell rfl,(HK.out.drew pS).k3.cell rfl⟩ (fun Wa hA hH=> ?_)
     obtain ⟨HK,PS,LG,SZ⟩:=hA
     refine AnyZ.take [14] (i:=0) (oi:=⟨some 34,.fieldAddr 90 (.tmp 7) 1,0,"made.go:193",#[],none⟩) (v:= ?_) rfl (by kernel_rfl) (by kernel_rfl) (by kernel_rfl) (by kernel_rfl) (fun _ _ _ h=>h) (Or.inl ⟨by rfl, ?_⟩) hH ?_
     rotate_left
     focus (intro w hSw;(try dsimp only at hSw);go_simp;(try with_reducible rfl);done)
     try simp only [Act.put,List.setIfInBounds_toArray,List.set_cons_zero,List.set_cons_succ]
     refine AnyZ.take [14] (i:=1) (oi:=⟨some 35,.load 87 (.tmp 34),87,"made.go:193",#[⟨0,.data⟩],none⟩) (v:= ?_) rfl (by kernel_rfl) (by kernel_rfl) (by kernel_rfl) (by kernel_rfl) (fun _ _ _ h=>h) (Or.inl ⟨by rfl, ?_⟩) hH ?_
     rotate_left
     focus (intro w hSw;(try dsimp only at hSw);go_simp;(try with_reducible rfl);done)
     try simp only [Act.put,List.setIfInBounds_toArray,List.set_cons_zero,List.set_cons_succ]
     refine AnyZ.take [14] (i:=2) (oi:=⟨some 36,.move (.tmp 0),26,"made.go:193",#[],none⟩) (v:= ?_) rfl (by kernel_rfl) (by kernel_rfl) (by kernel_rfl) (by kernel_rfl) (fun _ _ _ h=>h) (Or.inl ⟨by rfl, ?_⟩) hH ?_
     rotate_left
     focus (intro w hSw;(try dsimp only at hSw);go_simp;(try with_reducible rfl);done)
     try simp only [Act.put,List.setIfInBounds_toArray,List.set_cons_zero,List.set_cons_succ]
     refine AnyZ.take [14] (i:=3) (oi:=⟨some 37,.load 33 (.tmp 5),33,"made.go:193",#[],none⟩) (v:= ?_) rfl (by kernel_rfl) (by kernel_rfl) (by kernel_rfl) (by kernel_rfl) (fun _ _ _ h=>h) (Or.inl ⟨by rfl, ?_⟩) hH ?_
     rotate_left
     focus (intro w hSw;(try dsimp only at hSw);go_simp;(try with_reducible rfl);done)
     try simp only [Act.put,List.setIfInBounds_toArray,List.set_cons_zero,List.set_cons_succ]
     refine AnyZ.take [14] (i:=5) (oi:=⟨some 39,.fieldAddr 90 (.tmp 7) 1,0,"made.go:193",#[],none⟩) (v:= ?_) rfl (by kernel_rfl) (by kernel_rfl) (by kernel_rfl) (by kernel_rfl) (fun _ _ _ h=>h) (Or.inl ⟨by rfl, ?_⟩) hH ?_
     rotate_left
     focus (intro w hSw;(try dsimp only at hSw);go_simp;(try with_reducible rfl);done)
     try simp only [Act.put,List.setIfInBounds_toArray,List.set_cons_zero,List.set_cons_succ]
     refine AnyZ.take [14] (i:=6) (oi:=⟨some 40,.load 87 (.tmp 39),87,"made.go:193",#[⟨5,.data⟩],none⟩) (v:= ?_) rfl (by kernel_rfl) (by kernel_rfl) (by kernel_rfl) (by kernel_rfl) (fun _ _ _ h=>h) (Or.inl ⟨by rfl, ?_⟩) hH ?_
     rotate_left
     focus (intro w hSw;(try dsimp only at hSw);go_simp;(try with_reducible rfl);done)
     try simp only [Act.put,List.setIfInBounds_toArray,List.set_cons_zero,List.set_cons_succ]
     refine AnyZ.take [14] (i:=7) (oi:=⟨some 41,.call {callee:= .builtin .len,args:=#[.tmp 40],argTypes:=#[87]},3,"made.go:193",#[⟨6,.data⟩],none⟩) (v:= ?_) rfl (by kernel_rfl) (by kernel_rfl) (by kernel_rfl) (by kernel_rfl) (fun _ _ _ h=>h) (Or.inl ⟨by rfl, ?_⟩) hH ?_
     rotate_left
     focus (intro w hSw;(try dsimp only at hSw);go_simp;(try with_reducible rfl);done)
     try simp only [Act.put,List.setIfInBounds_toArray,List.set_cons_zero,List.set_cons_succ]
     refine AnyZ.ready (rs:=[4]) (by kernel_rfl) (by simp) ?_
     refine AllZ.cons (o:=⟨some 38,.call {callee:= .value (.func 36),args:=#[],argTypes:=#[]},86,"made.go:193",#[],none⟩) rfl (fun K hK=> ?_) AllZ.nil
     have hnb:=SZ.out
     go_simp
     (go_at_call 36;(with_reducible refine (names_any _).mono ?_);rintro e w' ⟨rfl,rfl⟩)
     go_wp2_with fail
     refine AnyZ.go hK (A:=fun W=>Hid (SK 90 3 eSch SchS w g A n c zs (w.heap.size+1) [some bs,some bc,(sv (y1,y2,y3)).ownBlock] (a1,a2,a3) (b1,b2,b3) (d1,d2,d3) C w.heap.size (cfgA noSV noSV noSV noSV) 33 bc (cfgA (a1,a2,a3) (b1,b2,b3) (d1,d2,d3) (v1,v2,v3)) 33 (v1,v2,v3) sl W)∧Hid (BlkAt W bs #[.string ⟨nm.toArray⟩,.slice y1 y2 y3,.slice none 0 0] 90)∧Hid (GrowS 39 10 eLay LayS (bs+1) (Ex (w.heap.size+1) [(sv (y1,y2,y3)).ownBlock,some bs,some bc,(sv (v1,v2,v3)).ownBlock]) W (y1,y2,y3) ll)∧Hid (wr.heap.size≤W.heap.size)∧Hid (BlkAt W Wa.heap.size namesV 9)) (S':=fun W=>W.cell? ⟨bs,1,none⟩=some (.slice y1 y2 y3)∧W.cell? ⟨bc,0,none⟩=some (.slice a1 a2 a3)∧W.cell? ⟨bc,1,none⟩=some (.slice b1 b2 b3)∧W.cell? ⟨bc,2,none⟩=some (.slice d1 d2 d3)∧W.cell? ⟨bc,3,none⟩=some (.slice v1 v2 v3)∧W.cell? ⟨Wa.heap.size,y2,none⟩=some (.string ⟨nl.toArray⟩)) (fun _ h=>⟨h.1,h.2.1,h.2.2.1,h.2.2.2.1,h.2.2.2.2.1⟩) ⟨Lib.hid ((HK.out).below pS ((Below.refl _ _).alloc (Nat.le_refl _) _)),Lib.hid ((PS.out).after ((Below.refl _ _).alloc (Nat.le_refl _) _)),Lib.hid ((LG.out).below2 pL ((Below.refl _ _).alloc (Nat.le_refl _) _)),Lib.hid (Nat.le_trans (SZ.out) (((Below.refl _ _).alloc (Nat.le_refl _) _):Below _ _ _).size),Lib.hid ((blk_now rfl))⟩ ⟨((PS.out).after ((Below.refl _ _).alloc (Nat.le_refl _) _)).cell rfl,((HK.out).below pS ((Below.refl _ _).alloc (Nat.le_refl _) _)).k3.cell rfl,((HK.out).below pS ((Below.refl _ _).alloc (Nat.le_refl _) _)).k3.cell rfl,((HK.out).below pS ((Below.refl _ _).alloc (Nat.le_refl _) _)).k3.cell rfl,((HK.out).below pS ((Below.refl _ _).alloc (Nat.le_refl _) _)).k3.cell rfl,((blk_now rfl)).cell (names_at HNL.out)⟩ (fun W1 hA hH2=> ?_)
     clear hK K hH HK PS LG SZ
     obtain ⟨HK,PS,LG,SZ,NB⟩:=hA
     have hH:=hH2
     clear hH2
     try simp only [Act.put,List.setIfInBounds_toArray,List.set_cons_zero,List.set_cons_succ]
     refine AnyZ.take [14] (i:=8) (oi:=⟨some 42,.indexAddr 86 (.tmp 38) (.tmp 41),0,"made.go:193",#[⟨4,.data⟩,⟨7,.data⟩],none⟩) (v:= ?_) rfl (by kernel_rfl) (by kernel_rfl) (by kernel_rfl) (by kernel_rfl) (fun _ _ _ h=>h) (Or.inl ⟨by rfl, ?_⟩) hH ?_
     rotate_left
     focus (intro w hSw;(try dsimp only at hSw);go_simp;(try with_reducible rfl);done)
     try simp only [Act.put,List.setIfInBounds_toArray,List.set_cons_zero,List.set_cons_succ]
     refine AnyZ.take [14] (i:=9) (oi:=⟨some 43,.load 9 (.tmp 42),9,"made.go:193",#[⟨8,.data⟩],none⟩) (v:= ?_) rfl (by kernel_rfl) (by kernel_rfl) (by kernel_rfl) (by kernel_rfl) (fun _ _ _ h=>h) (Or.inl ⟨by rfl, ?_⟩) hH ?_
     rotate_left
     focus (intro w hSw;(try dsimp only at hSw);go_simp;(try with_reducible rfl);done)
     try simp only [Act.put,List.setIfInBounds_toArray,List.set_cons_zero,List.set_cons_succ]
     refine AnyZ.ready (rs:=[10]) (by kernel_rfl) (by simp) ?_
     refine AllZ.cons (o:=⟨some 44,.call {callee:= .value (.func 12),args:=#[.tmp 36,.tmp 37,.tmp 43],argTypes:=#[26,33,9]},39,"made.go:193",#[⟨2,.data⟩,⟨3,.data⟩,⟨9,.data⟩,⟨4,.chain⟩],none⟩) rfl (fun K hK=> ?_) AllZ.nil
     have hwz:=SZ.out
     go_simp
     (go_at_call 12;(with_reducible refine (Layer_lit g n c A zs _ _ _ _ _ _ _ _ _ _ _ _ nl (by omega) (by omega) (by omega) (by omega) (by omega) _ HK.out.rs.dice).mono ?_);rintro e w2 ⟨l,m1,m2,m3,q1,q2,q3,rfl,hln,hlm,hls,hg2,hD2⟩)
     go_wp2_with fail
     have HLD:=Lib.hid (pL _ _ _ _ (Mv.wider w2 (fun b (hb:W1.heap.size≤b) _=>(⟨by omega,fun hx=>by
      rcases mem4 hx with hx|hx|hx|hx
      ·have :=HOY.out b hx.symm;omega
      ·cases hx;omega
      ·cases hx;omega
      ·have :=HOV.out b hx.symm;omega⟩:(Ex (w.heap.size+1) [(sv (y1,y2,y3)).ownBlock,some bs,some bc,(sv (v1,v2,v3)).ownBlock]) b))) _ _ hls)
     have HLM:=Lib.hid (And.intro hln hlm)
     clear hls hln hlm hwz
     refine AnyZ.go hK (A:=fun W=>Hid (SK 90 3 eSch SchS w g A n c zs (w.heap.size+1) [some bs,some bc,(sv (y1,y2,y3)).ownBlock] (a1,a2,a3) (b1,b2,b3) (d1,d2,d3) C w.heap.size (cfgA noSV noSV noSV noSV) 33 bc (cfgA (a1,a2,a3) (b1,b2,b3) (d1,d2,d3) (v1,v2,v3)) 33 (v1,v2,v3) sl W)∧Hid (BlkAt W bs #[.string ⟨nm.toArray⟩,.slice y1 y2 y3,.slice none 0 0] 90)∧Hid (GrowS 39 10 eLay LayS (bs+1) (Ex (w.heap.size+1) [(sv (y1,y2,y3)).ownBlock,some bs,some bc,(sv (v1,v2,v3)).ownBlock]) W (y1,y2,y3) ll)∧Hid (wr.heap.size≤W.heap.size)∧Hid (BlkAt W Wa.heap.size namesV 9)∧Hid (LayS (Ex (w.heap.size+1) [(sv (y1,y2,y3)).ownBlock,some bs,some bc,(sv (v1,v2,v3)).ownBlock]) W l ((m1,m2,m3),(q1,q2,q3)))) (S':=fun W=>W.cell? ⟨bs,1,none⟩=some (.slice y1 y2 y3)∧W.cell? ⟨bc,0,none⟩=some (.slice a1 a2 a3)∧W.cell? ⟨bc,1,none⟩=some (.slice b1 b2 b3)∧W.cell? ⟨bc,2,none⟩=some (.slice d1 d2 d3)∧W.cell? ⟨bc,3,none⟩=some (.slice v1 v2 v3)∧W.cell? ⟨Wa.heap.size,y2,none⟩=some (.string ⟨nl.toArray⟩)) (fun _ h=>h) ⟨Lib.hid ((HK.out).call pS hg2 hD2),Lib.hid ((PS.out).grown hg2 (by intro e;cases e;omega)),Lib.hid ((LG.out).call2 pL hg2 (by omega) (fun hS=>by have :=hS.1;omega)),Lib.hid (Nat.le_trans (SZ.out) hg2.size),Lib.hid ((NB.out).grown hg2 (by intro e;cases e;omega)),Lib.hid (HLD.out)⟩ ⟨((PS.out).grown hg2 (by intro e;cases e;omega)).cell rfl,((HK.out).call pS hg2 hD2).k3.cell rfl,((HK.out).call pS hg2 hD2).k3.cell rfl,((HK.out).call pS hg2 hD2).k3.cell rfl,((HK.out).call pS hg2 hD2).k3.cell rfl,((NB.out).grown hg2 (by intro e;cases e;omega)).cell (names_at HNL.out)⟩ (fun W2 hA hH2=> ?_)
     clear hK K hH HK PS LG SZ NB
     obtain ⟨HK,PS,LG,SZ,NB,LD⟩:=hA
     have hH:=hH2
     clear hH2
     clear hg2 hD2 HLD
     try simp only [Act.put,List.setIfInBounds_toArray,List.set_cons_zero,List.set_cons_succ]
     refine AnyZ.ready (rs:=[11]) (by kernel_rfl) (by simp) ?_
     refine AllZ.cons (o:=⟨some 45,.buildSlice 87 1 #[(0,.tmp 44)],87,"made.go:193",#[⟨10,.data⟩],none⟩) rfl (fun K hK=> ?_) AllZ.nil
     go_simp
     refine AnyZ.go hK (A:=fun W=>Hid (SK 90 3 eSch SchS w g A n c zs (w.heap.size+1) [some bs,some bc,(sv (y1,y2,y3)).ownBlock] (a1,a2,a3) (b1,b2,b3) (d1,d2,d3) C w.heap.size (cfgA noSV noSV noSV noSV) 33 bc (cfgA (a1,a2,a3) (b1,b2,b3) (d1,d2,d3) (v1,v2,v3)) 33 (v1,v2,v3) sl W)∧Hid (BlkAt W bs #[.string ⟨nm.toArray⟩,.slice y1 y2 y3,.slice none 0 0] 90)∧Hid (GrowS 39 10 eLay LayS (bs+1) (Ex (w.heap.size+1) [(sv (y1,y2,y3)).ownBlock,some bs,some bc,(sv (v1,v2,v3)).ownBlock]) W (y1,y2,y3) ll)∧Hid (wr.heap.size≤W.heap.size)∧Hid (BlkAt W Wa.heap.size namesV 9)∧Hid (LayS (Ex (w.heap.size+1) [(sv (y1,y2,y3)).ownBlock,some bs,some bc,(sv (v1,v2,v3)).ownBlock]) W l ((m1,m2,m3),(q1,q2,q3)))∧Hid (BlkAt W W2.heap.size #[.string ⟨nl.toArray⟩,.int .i64 l.zone,.int .i64 l.day,.int .i64 l.sec,.int .i64 l.unit,.int .i64 l.every,.slice m1 m2 m3,.slice q1 q2 q3,.int .i64 l.cal,.int .i64 l.mode] 39)) (S':=fun W=>W.cell? ⟨bs,1,none⟩=some (.slice y1 y2 y3)∧W.cell? ⟨bc,0,none⟩=some (.slice a1 a2 a3)∧W.cell? ⟨bc,1,none⟩=some (.slice b1 b2 b3)∧W.cell? ⟨bc,2,none⟩=some (.slice d1 d2 d3)∧W.cell? ⟨bc,3,none⟩=some (.slice v1 v2 v3)∧W.cell? ⟨Wa.heap.size,y2,none⟩=some (.string ⟨nl.toArray⟩)) (fun _ h=>h) ⟨Lib.hid ((HK.out).below pS ((Below.refl _ _).alloc (Nat.le_refl _) _)),Lib.hid ((PS.out).after ((Below.refl _ _).alloc (Nat.le_refl _) _)),Lib.hid ((LG.out).below2 pL ((Below.refl _ _).alloc (Nat.le_refl _) _)),Lib.hid (Nat.le_trans (SZ.out) (((Below.refl _ _).alloc (Nat.le_refl _) _):Below _ _ _).size),Lib.hid ((NB.out).after ((Below.refl _ _).alloc (Nat.le_refl _) _)),Lib.hid (pL _ _ _ _ (Mv.of_below ((Below.refl _ _).alloc (Nat.le_refl _) _) (fun _ h _=>h)) _ _ (LD.out)),Lib.hid ((blk_now rfl))⟩ ⟨((PS.out).after ((Below.refl _ _).alloc (Nat.le_refl _) _)).cell rfl,((HK.out).below pS ((Below.refl _ _).alloc (Nat.le_refl _) _)).k3.cell rfl,((HK.out).below pS ((Below.refl _ _).alloc (Nat.le_refl _) _)).k3.cell rfl,((HK.out).below pS ((Below.refl _ _).alloc (Nat.le_refl _) _)).k3.cell rfl,((HK.out).below pS ((Below.refl _ _).alloc (Nat.le_refl _) _)).k3.cell rfl,((NB.out).after ((Below.refl _ _).alloc (Nat.le_refl _) _)).cell (names_at HNL.out)⟩ (fun W3 hA hH2=> ?_)
     clear hK K hH HK PS LG SZ NB LD
     obtain ⟨HK,PS,LG,SZ,NB,LD,EB⟩:=hA
     have hH:=hH2
     clear hH2
     try simp only [Act.put,List.setIfInBounds_toArray,List.set_cons_zero,List.set_cons_succ]
     refine AnyZ.ready (rs:=[12]) (by kernel_rfl) (by simp) ?_
     refine AllZ.cons (o:=⟨some 46,.call {callee:= .builtin .append,args:=#[.tmp 35,.tmp 45],argTypes:=#[87,87]},87,"made.go:193",#[⟨1,.data⟩,⟨11,.data⟩,⟨10,.chain⟩],none⟩) rfl (fun K hK=> ?_) AllZ.nil
     obtain ⟨xs,x1,x2,x3,x4⟩:=LG.out
     have hxl:xs.length=y2:=by rw [←hy, ←x1,List.length_map]
     have hl3:=Nat.le_trans hps SZ.out
     (refine step_append_row kLay _ (by rfl) (.tmp 35) (.tmp 45) (by rfl) (bs+1) (.slice y1 y2 y3) xs (by rfl) x2 W2.heap.size (l,((m1,m2,m3),(q1,q2,q3))) (by rfl) (one_new EB.out (dlay_vals nl l HLM.out.1 m1 m2 m3 q1 q2 q3)) (by omega) hl3 ?_;intro gg cap w3 hO3 hg3 hgo3 hlt3)
     rw [hxl] at hO3 ⊢
     have hgr:W3.grownBy w3 (sv (y1,y2,y3)).ownBlock:=hg3
     have hgq:(sv (y1,y2,y3)).ownBlock=some gg∨gg=W3.heap.size:=hgo3
     have hmv:=Lib.hid (mv_ex (lo:=(w.heap.size+1)) (ex:=[(sv (y1,y2,y3)).ownBlock,some bs,some bc,(sv (v1,v2,v3)).ownBlock]) (ex':=[some gg,some bs,some bc,(sv (v1,v2,v3)).ownBlock]) hgr (fun r er=> .inr (by rw [er];simp)) (fun q hq=>by
      rcases mem4 hq with hq|hq|hq|hq
      ·cases hq;rcases hgq with h9|h9
       ·exact .inl (by rw [h9];simp)
       ·exact .inr (by omega)
      ·exact .inl (by simp [hq])
      ·exact .inl (by simp [hq])
      ·exact .inl (by rw [hq];simp)))
     have hgg:bs+1≤gg:=by rcases hgq with h9|h9;exact (HOY.out gg h9).1;omega
     refine AnyZ.go hK (A:=fun W=>Hid (BlkAt W bs #[.string ⟨nm.toArray⟩,.slice y1 y2 y3,.slice none 0 0] 90)∧Hid (wr.heap.size≤W.heap.size)∧Hid (BlkAt W Wa.heap.size namesV 9)∧Hid (SK 90 3 eSch SchS w g A n c zs (w.heap.size+1) [some bs,some bc,some gg] (a1,a2,a3) (b1,b2,b3) (d1,d2,d3) C w.heap.size (cfgA noSV noSV noSV noSV) 33 bc (cfgA (a1,a2,a3) (b1,b2,b3) (d1,d2,d3) (v1,v2,v3)) 33 (v1,v2,v3) sl W)∧Hid (GrowS 39 10 eLay LayS (bs+1) (Ex (w.heap.size+1) [(sv (some ⟨gg,0,none⟩,y2+1,cap)).ownBlock,some bs,some bc,(sv (v1,v2,v3)).ownBlock]) W (some ⟨gg,0,none⟩,y2+1,cap) (ll++[l]))) (S':=fun W=>W.cell? ⟨bs,1,none⟩=some (.slice y1 y2 y3)∧W.cell? ⟨bc,0,none⟩=some (.slice a1 a2 a3)∧W.cell? ⟨bc,1,none⟩=some (.slice b1 b2 b3)∧W.cell? ⟨bc,2,none⟩=some (.slice d1 d2 d3)∧W.cell? ⟨bc,3,none⟩=some (.slice v1 v2 v3)∧W.cell? ⟨Wa.heap.size,y2,none⟩=some (.string ⟨nl.toArray⟩)) (fun _ h=>h) ⟨Lib.hid ((PS.out).grown hgr (by intro e;have :=(HOY.out _ e.symm).1;omega)),Lib.hid (Nat.le_trans (SZ.out) hgr.size),Lib.hid ((NB.out).grown hgr (by intro e;have :=(HOY.out _ e.symm).2;omega)),Lib.hid (HK.out.row pS hgr (fun q hq=>by rw [hq];simp) (fun hq=>by have :=(HOY.out _ hq).1;omega) (fun hq=>by have :=(HOY.out _ hq).1;omega) (hs_row hgq) (fun hr=>(no_three hr (by omega) (by omega) (fun r hr=>by have :=(HOY.out _ hr).1;omega)).elim) (fun hr=>by simp)),Lib.hid (GrowS.app x1 hO3 (fun z hz=>pL _ _ _ _ hmv.out _ _ (x3 z hz)) (pL _ _ _ _ hmv.out _ _ LD.out) (fun hS=>hS.2 (by simp [sv,Value.ownBlock])))⟩ ⟨((PS.out).grown hgr (by intro e;have :=(HOY.out _ e.symm).1;omega)).cell rfl,(HK.out.row pS hgr (fun q hq=>by rw [hq];simp) (fun hq=>by have :=(HOY.out _ hq).1;omega) (fun hq=>by have :=(HOY.out _ hq).1;omega) (hs_row hgq) (fun hr=>(no_three hr (by omega) (by omega) (fun r hr=>by have :=(HOY.out _ hr).1;omega)).elim) (fun hr=>by simp)).k3.cell rfl,(HK.out.row pS hgr (fun q hq=>by rw [hq];simp) (fun hq=>by have :=(HOY.out _ hq).1;omega) (fun hq=>by have :=(HOY.out _ hq).1;omega) (hs_row hgq) (fun hr=>(no_three hr (by omega) (by omega) (fun r hr=>by have :=(HOY.out _ hr).1;omega)).elim) (fun hr=>by simp)).k3.cell rfl,(HK.out.row pS hgr (fun q hq=>by rw [hq];simp) (fun hq=>by have :=(HOY.out _ hq).1;omega) (fun hq=>by have :=(HOY.out _ hq).1;omega) (hs_row hgq) (fun hr=>(no_three hr (by omega) (by omega) (fun r hr=>by have :=(HOY.out _ hr).1;omega)).elim) (fun hr=>by simp)).k3.cell rfl,(HK.out.row pS hgr (fun q hq=>by rw [hq];simp) (fun hq=>by have :=(HOY.out _ hq).1;omega) (fun hq=>by have :=(HOY.out _ hq).1;omega) (hs_row hgq) (fun hr=>(no_three hr (by omega) (by omega) (fun r hr=>by have :=(HOY.out _ hr).1;omega)).elim) (fun hr=>by simp)).k3.cell rfl,((NB.out).grown hgr (by intro e;have :=(HOY.out _ e.symm).2;omega)).cell (names_at HNL.out)⟩ (fun W4 hA hH2=> ?_)
     clear hK K hH HK PS LG SZ NB LD EB
     obtain ⟨PS,SZ,NB,HK,LG⟩:=hA
     have hH:=hH2
     clear hH2
     clear x1 x2 x3 x4 hxl hl3 hO3 hg3 hgo3 hlt3 hgr hgq hmv xs
     try simp only [Act.put,List.setIfInBounds_toArray,List.set_cons_zero,List.set_cons_succ]
     refine AnyZ.take [14] (i:=13) (oi:=⟨some 47,.fieldAddr 90 (.tmp 7) 1,0,"made.go:193",#[⟨0,.phase⟩,⟨1,.phase⟩,⟨2,.phase⟩,⟨3,.phase⟩,⟨4,.phase⟩,⟨5,.phase⟩,⟨6,.phase⟩,⟨7,.phase⟩,⟨8,.phase⟩,⟨9,.phase⟩,⟨10,.phase⟩,⟨11,.phase⟩,⟨12,.phase⟩],none⟩) (v:= ?_) rfl (by kernel_rfl) (by kernel_rfl) (by kernel_rfl) (by kernel_rfl) (fun _ _ _ h=>h) (Or.inl ⟨by rfl, ?_⟩) hH ?_
     rotate_left
     focus (intro w hSw;(try dsimp only at hSw);go_simp;(try with_reducible rfl);done)
     try simp only [Act.put,List.setIfInBounds_toArray,List.set_cons_zero,List.set_cons_succ]
     refine AnyZ.last (o:=⟨none,.store 87 (.tmp 47) (.tmp 46),0,"made.go:193",#[⟨13,.data⟩,⟨12,.data⟩,⟨12,.chain⟩,⟨0,.phase⟩,⟨1,.phase⟩,⟨2,.phase⟩,⟨3,.phase⟩,⟨4,.phase⟩,⟨5,.phase⟩,⟨6,.phase⟩,⟨7,.phase⟩,⟨8,.phase⟩,⟨9,.phase⟩,⟨10,.phase⟩,⟨11,.phase⟩,⟨12,.phase⟩],none⟩) (by kernel_rfl) rfl (fun K hK=> ?_)
     have y8:W4.cell? ⟨bs,1,none⟩=some (.slice y1 y2 y3):=PS.out.cell rfl
     have y9:=PS.out.free 1
     go_simp
     refine hK.out _ _ ?_
     clear hK K hH
     try simp only [Act.put,List.setIfInBounds_toArray,List.set_cons_zero,List.set_cons_succ]
     refine AnyZ.done (by kernel_rfl) ?_ _
     have F1:=Lib.hid (show SK 90 3 eSch SchS w g A n c zs (w.heap.size+1) [some bs,some bc,(sv (some ⟨gg,0,none⟩,y2+1,cap)).ownBlock] (a1,a2,a3) (b1,b2,b3) (d1,d2,d3) C w.heap.size (cfgA noSV noSV noSV noSV) 33 bc (cfgA (a1,a2,a3) (b1,b2,b3) (d1,d2,d3) (v1,v2,v3)) 33 (v1,v2,v3) sl (W4.setCell ⟨bs,1,none⟩ (.slice (some ⟨gg,0,none⟩) (y2+1) cap)) from HK.out.setx pS (List.mem_cons_self) (by omega) (by omega) 1 _)
     have F2:=Lib.hid (show BlkAt (W4.setCell ⟨bs,1,none⟩ (.slice (some ⟨gg,0,none⟩) (y2+1) cap)) bs #[.string ⟨nm.toArray⟩,.slice (some ⟨gg,0,none⟩) (y2+1) cap,.slice none 0 0] 90 from PS.out.set_ 1 _)
     have F3:=Lib.hid (show GrowS 39 10 eLay LayS (bs+1) (Ex (w.heap.size+1) [(sv (some ⟨gg,0,none⟩,y2+1,cap)).ownBlock,some bs,some bc,(sv (v1,v2,v3)).ownBlock]) (W4.setCell ⟨bs,1,none⟩ (.slice (some ⟨gg,0,none⟩) (y2+1) cap)) (some ⟨gg,0,none⟩,y2+1,cap) (ll++[l]) from LG.out.mv (grown_set W4 bs 1 _) (fun q hq er=>by have e1:some gg=some q:=hq;cases e1;cases er;omega) (pL _ _ _ _ (Mv.set W4 bs 1 _ (fun hS=>hS.2 (by simp)))) (fun q hq=>(LG.out.lt q hq).2.2))
     have F4:Hid ((∀x∈ll++[l],Rs.ML a2 b2 d2 x)∧(ll++[l]).map (·.name)=Rs.nmP.take (ll++[l]).length):=Lib.hid ⟨fun x hx=>by
      rcases List.mem_append.1 hx with hx|hx
      ·exact HML.out.1 x hx
      ·simp at hx;subst hx;exact HLM.out.2,by
      have :=Rs.take_snoc (L:=Rs.nmP) (ns:=ll.map (·.name)) (x:=nl) (by rw [List.length_map];exact HML.out.2) (by rw [List.length_map,hy];exact HNL.out)
      rw [List.map_append,List.map_singleton,HLM.out.1]
      simpa using this⟩
     clear y8 y9 HK PS LG NB SZ
     go_wp2_with fail
     go_roundw
     case rel=>exact ⟨k-1,ll++[l],some ⟨gg,0,none⟩,y2+1,cap,by go_num,by omega,by simp;omega,F4,F1,F2,F3⟩
     case measure=>simp [intOf];omega
    ·obtain rfl:k=0:=by omega
     have hll:ll.length≤3:=by omega
     have NL:=Lib.hid (show NestS 10 eLay LayS (Ex (w.heap.size+1) [(sv (v1,v2,v3)).ownBlock,some bs,some bc,(sv noSV).ownBlock]) wr (y1,y2,y3) ll from LG.out.done (pL _ _ _ _ (Mv.wider wr (fun b hb _=>⟨hb.1,fun hx=>by
      rcases mem4 hx with hx|hx|hx|hx
      ·exact hb.2 (by rw [hx];simp)
      ·exact hb.2 (by rw [hx];simp)
      ·exact hb.2 (by rw [hx];simp)
      ·simp [sv,noSV,Value.ownBlock] at hx⟩))) (fun q hq hb=>⟨by omega,fun hx=>by
      rcases mem4 hx with hx|hx|hx|hx
      ·have :=(HOV.out q hx.symm).2;omega
      ·cases hx;omega
      ·cases hx;omega
      ·simp [sv,noSV,Value.ownBlock] at hx⟩) (by omega))
     have HLL:=Lib.hid hll
     have HK2:=Lib.hid (show SK 90 3 eSch SchS w g A n c zs (w.heap.size+1) [some bs,some bc,(sv noSV).ownBlock] (a1,a2,a3) (b1,b2,b3) (d1,d2,d3) C w.heap.size (cfgA noSV noSV noSV noSV) 33 bc (cfgA (a1,a2,a3) (b1,b2,b3) (d1,d2,d3) (v1,v2,v3)) 33 (v1,v2,v3) sl wr from HK.out.exless pS (fun q hq=>by simp [sv,noSV,Value.ownBlock] at hq;rcases hq with rfl|rfl<;>simp) (fun hr=>(no_three hr (by omega) (by omega) (fun r hr=>by have :=(HOY.out _ hr).1;omega)).elim) (fun hr=>by simp))
     clear HK LG hy l1 l2 hk hll hps HOY k1 k2
     go_wp2_with fail
     refine (Next_any g n c A zs 4 _ HK2.out.rs.dice (by decide) (by decide)).mono ?_
     rintro e w6 ⟨k3,rfl,k4,k5,g6,D6⟩
     have HK6:=Lib.hid (HK2.out.call pS g6 D6)
     have PS6:=Lib.hid (PS.out.grown g6 (by intro e;cases e;omega))
     have NL6:=Lib.hid (NL.out.mv (pL _ _ _ _ (mv_ex g6 (fun r e=>by cases e;left;omega) (fun b hb=> .inl hb))) (mv_ex g6 (fun r e=>by cases e;left;omega) (fun b hb=> .inl hb)))
     clear g6 D6 HK2 PS NL
     go_wp2_with fail
     go_loopw [9] (fun vk wr=> ∃(k:Int) (el:List Rs.Edit) (e1:Option Addr) (e2 e3:Nat),vk= .int .i64 k∧0≤k∧(el.length:Int)+k≤3∧Hid (∀x∈el,Rs.ME b2 x)∧Hid (SK 90 3 eSch SchS w g A n c zs (w.heap.size+1) [some bs,some bc,(sv (e1,e2,e3)).ownBlock] (a1,a2,a3) (b1,b2,b3) (d1,d2,d3) C w.heap.size (cfgA noSV noSV noSV noSV) 33 bc (cfgA (a1,a2,a3) (b1,b2,b3) (d1,d2,d3) (v1,v2,v3)) 33 (v1,v2,v3) sl wr)∧Hid (BlkAt wr bs #[.string ⟨nm.toArray⟩,.slice y1 y2 y3,.slice e1 e2 e3] 90)∧Hid (NestS 10 eLay LayS (Ex (w.heap.size+1) [(sv (v1,v2,v3)).ownBlock,some bs,some bc,(sv (e1,e2,e3)).ownBlock]) wr (y1,y2,y3) ll)∧Hid (OwnL 93 5 eEdit wr (bs+1) (sv (e1,e2,e3)) el)) (fun vk _=>(intOf vk).toNat)
     case atStart=>exact ⟨k3,[],none,0,0,rfl,k4,by simp;omega,Lib.hid (fun z hz=>by cases hz),HK6,PS6,NL6,Lib.hid (OwnL.nil_ _ _)⟩
     case round=>
      clear HK6 PS6 NL6
      obtain ⟨k,el,e1,e2,e3,rfl,l1,l2,HME,HK,PS,NL,OE⟩:=hrel
      have hel:el.length=e2:=by
       obtain ⟨A9,c9,e9, -⟩:=OE.out.shape
       unfold sv at e9
       simp only [Value.slice.injEq] at e9
       exact e9.2.1.symm
      have hps:=PS.out.lt_
      have HOE:Hid (∀q,(sv (e1,e2,e3)).ownBlock=some q→bs+1≤q∧q<wr.heap.size):=Lib.hid fun q hq=>World.ownsRow.lt OE.out q hq
      by_cases hk:0<k
      ·have hlen:el.length≤900000:=by omega
       have HEL:=Lib.hid hel
       clear hel
       go_wp2_with fail
       refine AnyZ.start 8 (A:=fun W=>Hid (SK 90 3 eSch SchS w g A n c zs (w.heap.size+1) [some bs,some bc,(sv (e1,e2,e3)).ownBlock] (a1,a2,a3) (b1,b2,b3) (d1,d2,d3) C w.heap.size (cfgA noSV noSV noSV noSV) 33 bc (cfgA (a1,a2,a3) (b1,b2,b3) (d1,d2,d3) (v1,v2,v3)) 33 (v1,v2,v3) sl W)∧Hid (BlkAt W bs #[.string ⟨nm.toArray⟩,.slice y1 y2 y3,.slice e1 e2 e3] 90)∧Hid (NestS 10 eLay LayS (Ex (w.heap.size+1) [(sv (v1,v2,v3)).ownBlock,some bs,some bc,(sv (e1,e2,e3)).ownBlock]) W (y1,y2,y3) ll)∧Hid (OwnL 93 5 eEdit W (bs+1) (sv (e1,e2,e3)) el)∧Hid (wr.heap.size≤W.heap.size)) (S:=fun W=>W.cell? ⟨bs,2,none⟩=some (.slice e1 e2 e3)∧W.cell? ⟨bc,0,none⟩=some (.slice a1 a2 a3)∧W.cell? ⟨bc,1,none⟩=some (.slice b1 b2 b3)∧W.cell? ⟨bc,2,none⟩=some (.slice d1 d2 d3)∧W.cell? ⟨bc,3,none⟩=some (.slice v1 v2 v3)) (by kernel_rfl) ⟨Lib.hid (HK.out.drew pS),Lib.hid (PS.out.drewN 1),Lib.hid (NL.out.mv (pL _ _ _ _ (Mv.of_below (Below.refl _ _).drew (fun _ h _=>h))) (Mv.of_below (Below.refl _ _).drew (fun _ h _=>h))),Lib.hid (OwnL.drewN OE.out 1),Lib.hid (Nat.le_refl wr.heap.size)⟩ ⟨(PS.out.drewN 1).cell rfl,(HK.out.drew pS).k3.cell rfl,(HK.out.drew pS).k3.cell rfl,(HK.out.drew pS).k3.cell rfl,(HK.out.drew pS).k3.cell rfl⟩ (fun Wa hA hH=> ?_)
       obtain ⟨HK,PS,NL,OE,SZ⟩:=hA
       refine AnyZ.take [8] (i:=0) (oi:=⟨some 54,.fieldAddr 90 (.tmp 7) 2,0,"made.go:196",#[],none⟩) (v:= ?_) rfl (by kernel_rfl) (by kernel_rfl) (by kernel_rfl) (by kernel_rfl) (fun _ _ _ h=>h) (Or.inl ⟨by rfl, ?_⟩) hH ?_
       rotate_left
       focus (intro w hSw;(try dsimp only at hSw);go_simp;(try with_reducible rfl);done)
       try simp only [Act.put,List.setIfInBounds_toArray,List.set_cons_zero,List.set_cons_succ]
       refine AnyZ.take [8] (i:=1) (oi:=⟨some 55,.load 88 (.tmp 54),88,"made.go:196",#[⟨0,.data⟩],none⟩) (v:= ?_) rfl (by kernel_rfl) (by kernel_rfl) (by kernel_rfl) (by kernel_rfl) (fun _ _ _ h=>h) (Or.inl ⟨by rfl, ?_⟩) hH ?_
       rotate_left
       focus (intro w hSw;(try dsimp only at hSw);go_simp;(try with_reducible rfl);done)
       try simp only [Act.put,List.setIfInBounds_toArray,List.set_cons_zero,List.set_cons_succ]
       refine AnyZ.take [8] (i:=2) (oi:=⟨some 56,.move (.tmp 0),26,"made.go:196",#[],none⟩) (v:= ?_) rfl (by kernel_rfl) (by kernel_rfl) (by kernel_rfl) (by kernel_rfl) (fun _ _ _ h=>h) (Or.inl ⟨by rfl, ?_⟩) hH ?_
       rotate_left
       focus (intro w hSw;(try dsimp only at hSw);go_simp;(try with_reducible rfl);done)
       try simp only [Act.put,List.setIfInBounds_toArray,List.set_cons_zero,List.set_cons_succ]
       refine AnyZ.take [8] (i:=3) (oi:=⟨some 57,.load 33 (.tmp 5),33,"made.go:196",#[],none⟩) (v:= ?_) rfl (by kernel_rfl) (by kernel_rfl) (by kernel_rfl) (by kernel_rfl) (fun _ _ _ h=>h) (Or.inl ⟨by rfl, ?_⟩) hH ?_
       rotate_left
       focus (intro w hSw;(try dsimp only at hSw);go_simp;(try with_reducible rfl);done)
       try simp only [Act.put,List.setIfInBounds_toArray,List.set_cons_zero,List.set_cons_succ]
       refine AnyZ.ready (rs:=[4]) (by kernel_rfl) (by simp) ?_
       refine AllZ.cons (o:=⟨some 58,.call {callee:= .value (.func 37),args:=#[.tmp 56,.tmp 57],argTypes:=#[26,33]},93,"made.go:196",#[⟨2,.data⟩,⟨3,.data⟩],none⟩) rfl (fun K hK=> ?_) AllZ.nil
       go_simp
       (go_at_call 37;(with_reducible refine (Edit_any g n c A zs _ _ _ _ _ _ _ _ _ _ _ _ (by omega) (by omega) _ HK.out.rs.dice).mono ?_);rintro e w2 ⟨x,rfl,hx,hg2,hD2⟩)
       go_wp2_with fail
       have HXE:=Lib.hid hx
       clear hx
       refine AnyZ.go hK (A:=fun W=>Hid (SK 90 3 eSch SchS w g A n c zs (w.heap.size+1) [some bs,some bc,(sv (e1,e2,e3)).ownBlock] (a1,a2,a3) (b1,b2,b3) (d1,d2,d3) C w.heap.size (cfgA noSV noSV noSV noSV) 33 bc (cfgA (a1,a2,a3) (b1,b2,b3) (d1,d2,d3) (v1,v2,v3)) 33 (v1,v2,v3) sl W)∧Hid (BlkAt W bs #[.string ⟨nm.toArray⟩,.slice y1 y2 y3,.slice e1 e2 e3] 90)∧Hid (NestS 10 eLay LayS (Ex (w.heap.size+1) [(sv (v1,v2,v3)).ownBlock,some bs,some bc,(sv (e1,e2,e3)).ownBlock]) W (y1,y2,y3) ll)∧Hid (OwnL 93 5 eEdit W (bs+1) (sv (e1,e2,e3)) el)∧Hid (wr.heap.size≤W.heap.size)) (S':=fun W=>W.cell? ⟨bs,2,none⟩=some (.slice e1 e2 e3)∧W.cell? ⟨bc,0,none⟩=some (.slice a1 a2 a3)∧W.cell? ⟨bc,1,none⟩=some (.slice b1 b2 b3)∧W.cell? ⟨bc,2,none⟩=some (.slice d1 d2 d3)∧W.cell? ⟨bc,3,none⟩=some (.slice v1 v2 v3)) (fun _ h=>h) ⟨Lib.hid ((HK.out).call pS hg2 hD2),Lib.hid ((PS.out).grown hg2 (by intro e;cases e;omega)),Lib.hid ((NL.out).mv (pL _ _ _ _ (mv_ex hg2 (fun r e=>by cases e;left;omega) (fun b hb=> .inl hb))) (mv_ex hg2 (fun r e=>by cases e;left;omega) (fun b hb=> .inl hb))),Lib.hid ((OE.out).grown hg2 (by omega)),Lib.hid (Nat.le_trans (SZ.out) hg2.size)⟩ ⟨((PS.out).grown hg2 (by intro e;cases e;omega)).cell rfl,((HK.out).call pS hg2 hD2).k3.cell rfl,((HK.out).call pS hg2 hD2).k3.cell rfl,((HK.out).call pS hg2 hD2).k3.cell rfl,((HK.out).call pS hg2 hD2).k3.cell rfl⟩ (fun W1 hA hH2=> ?_)
       clear hK K hH HK PS NL OE SZ
       obtain ⟨HK,PS,NL,OE,SZ⟩:=hA
       have hH:=hH2
       clear hH2
       clear hg2 hD2
       try simp only [Act.put,List.setIfInBounds_toArray,List.set_cons_zero,List.set_cons_succ]
       refine AnyZ.ready (rs:=[5]) (by kernel_rfl) (by simp) ?_
       refine AllZ.cons (o:=⟨some 59,.buildSlice 88 1 #[(0,.tmp 58)],88,"made.go:196",#[⟨4,.data⟩],none⟩) rfl (fun K hK=> ?_) AllZ.nil
       go_simp
       refine AnyZ.go hK (A:=fun W=>Hid (SK 90 3 eSch SchS w g A n c zs (w.heap.size+1) [some bs,some bc,(sv (e1,e2,e3)).ownBlock] (a1,a2,a3) (b1,b2,b3) (d1,d2,d3) C w.heap.size (cfgA noSV noSV noSV noSV) 33 bc (cfgA (a1,a2,a3) (b1,b2,b3) (d1,d2,d3) (v1,v2,v3)) 33 (v1,v2,v3) sl W)∧Hid (BlkAt W bs #[.string ⟨nm.toArray⟩,.slice y1 y2 y3,.slice e1 e2 e3] 90)∧Hid (NestS 10 eLay LayS (Ex (w.heap.size+1) [(sv (v1,v2,v3)).ownBlock,some bs,some bc,(sv (e1,e2,e3)).ownBlock]) W (y1,y2,y3) ll)∧Hid (OwnL 93 5 eEdit W (bs+1) (sv (e1,e2,e3)) el)∧Hid (wr.heap.size≤W.heap.size)∧Hid (BlkAt W W1.heap.size #[.int .i64 x.kind,.int .i64 x.a,.int .i64 x.b,.int .i64 x.fr,.int .i64 x.to] 93)) (S':=fun W=>W.cell? ⟨bs,2,none⟩=some (.slice e1 e2 e3)∧W.cell? ⟨bc,0,none⟩=some (.slice a1 a2 a3)∧W.cell? ⟨bc,1,none⟩=some (.slice b1 b2 b3)∧W.cell? ⟨bc,2,none⟩=some (.slice d1 d2 d3)∧W.cell? ⟨bc,3,none⟩=some (.slice v1 v2 v3)) (fun _ h=>h) ⟨Lib.hid ((HK.out).below pS ((Below.refl _ _).alloc (Nat.le_refl _) _)),Lib.hid ((PS.out).after ((Below.refl _ _).alloc (Nat.le_refl _) _)),Lib.hid ((NL.out).mv (pL _ _ _ _ (Mv.of_below ((Below.refl _ _).alloc (Nat.le_refl _) _) (fun _ h _=>h))) (Mv.of_below ((Below.refl _ _).alloc (Nat.le_refl _) _) (fun _ h _=>h))),Lib.hid ((OE.out).below ((Below.refl _ _).alloc (Nat.le_refl _) _)),Lib.hid (Nat.le_trans (SZ.out) (((Below.refl _ _).alloc (Nat.le_refl _) _):Below _ _ _).size),Lib.hid ((blk_now rfl))⟩ ⟨((PS.out).after ((Below.refl _ _).alloc (Nat.le_refl _) _)).cell rfl,((HK.out).below pS ((Below.refl _ _).alloc (Nat.le_refl _) _)).k3.cell rfl,((HK.out).below pS ((Below.refl _ _).alloc (Nat.le_refl _) _)).k3.cell rfl,((HK.out).below pS ((Below.refl _ _).alloc (Nat.le_refl _) _)).k3.cell rfl,((HK.out).below pS ((Below.refl _ _).alloc (Nat.le_refl _) _)).k3.cell rfl⟩ (fun W2 hA hH2=> ?_)
       clear hK K hH HK PS NL OE SZ
       obtain ⟨HK,PS,NL,OE,SZ,EB⟩:=hA
       have hH:=hH2
       clear hH2
       try simp only [Act.put,List.setIfInBounds_toArray,List.set_cons_zero,List.set_cons_succ]
       refine AnyZ.ready (rs:=[6]) (by kernel_rfl) (by simp) ?_
       refine AllZ.cons (o:=⟨some 60,.call {callee:= .builtin .append,args:=#[.tmp 55,.tmp 59],argTypes:=#[88,88]},88,"made.go:196",#[⟨1,.data⟩,⟨5,.data⟩,⟨4,.chain⟩],none⟩) rfl (fun K hK=> ?_) AllZ.nil
       have hl3:=Nat.le_trans hps SZ.out
       (refine step_append_row kEdi _ (by rfl) (.tmp 55) (.tmp 59) (by rfl) (bs+1) (.slice e1 e2 e3) el (by rfl) OE.out W1.heap.size x (by rfl) (one_new EB.out (dedit_vals x)) hlen hl3 ?_;intro gg cap w3 hO3 hg3 hgo3 hlt3)
       rw [HEL.out] at hO3 ⊢
       have hgr:W2.grownBy w3 (sv (e1,e2,e3)).ownBlock:=hg3
       have hgq:(sv (e1,e2,e3)).ownBlock=some gg∨gg=W2.heap.size:=hgo3
       have hmv:=Lib.hid (mv_ex (lo:=(w.heap.size+1)) (ex:=[(sv (v1,v2,v3)).ownBlock,some bs,some bc,(sv (e1,e2,e3)).ownBlock]) (ex':=[(sv (v1,v2,v3)).ownBlock,some bs,some bc,some gg]) hgr (fun r er=> .inr (by rw [er];simp)) (fun q hq=>by
        rcases mem4 hq with hq|hq|hq|hq
        ·exact .inl (by rw [hq];simp)
        ·exact .inl (by simp [hq])
        ·exact .inl (by simp [hq])
        ·cases hq;rcases hgq with h9|h9
         ·exact .inl (by rw [h9];simp)
         ·exact .inr (by omega)))
       have hgg:bs+1≤gg:=by rcases hgq with h9|h9;exact (HOE.out gg h9).1;omega
       refine AnyZ.go hK (A:=fun W=>Hid (BlkAt W bs #[.string ⟨nm.toArray⟩,.slice y1 y2 y3,.slice e1 e2 e3] 90)∧Hid (wr.heap.size≤W.heap.size)∧Hid (SK 90 3 eSch SchS w g A n c zs (w.heap.size+1) [some bs,some bc,some gg] (a1,a2,a3) (b1,b2,b3) (d1,d2,d3) C w.heap.size (cfgA noSV noSV noSV noSV) 33 bc (cfgA (a1,a2,a3) (b1,b2,b3) (d1,d2,d3) (v1,v2,v3)) 33 (v1,v2,v3) sl W)∧Hid (NestS 10 eLay LayS (Ex (w.heap.size+1) [(sv (v1,v2,v3)).ownBlock,some bs,some bc,(sv (some ⟨gg,0,none⟩,e2+1,cap)).ownBlock]) W (y1,y2,y3) ll)∧Hid (OwnL 93 5 eEdit W (bs+1) (sv (some ⟨gg,0,none⟩,e2+1,cap)) (el++[x]))) (S':=fun W=>W.cell? ⟨bs,2,none⟩=some (.slice e1 e2 e3)∧W.cell? ⟨bc,0,none⟩=some (.slice a1 a2 a3)∧W.cell? ⟨bc,1,none⟩=some (.slice b1 b2 b3)∧W.cell? ⟨bc,2,none⟩=some (.slice d1 d2 d3)∧W.cell? ⟨bc,3,none⟩=some (.slice v1 v2 v3)) (fun _ h=>h) ⟨Lib.hid ((PS.out).grown hgr (by intro e;have :=(HOE.out _ e.symm).1;omega)),Lib.hid (Nat.le_trans (SZ.out) hgr.size),Lib.hid (HK.out.row pS hgr (fun q hq=>by rw [hq];simp) (fun hq=>by have :=(HOE.out _ hq).1;omega) (fun hq=>by have :=(HOE.out _ hq).1;omega) (hs_row hgq) (fun hr=>(no_three hr (by omega) (by omega) (fun r hr=>by have :=(HOE.out _ hr).1;omega)).elim) (fun hr=>by simp)),Lib.hid (NL.out.mv (pL _ _ _ _ hmv.out) hmv.out),Lib.hid (hO3)⟩ ⟨((PS.out).grown hgr (by intro e;have :=(HOE.out _ e.symm).1;omega)).cell rfl,(HK.out.row pS hgr (fun q hq=>by rw [hq];simp) (fun hq=>by have :=(HOE.out _ hq).1;omega) (fun hq=>by have :=(HOE.out _ hq).1;omega) (hs_row hgq) (fun hr=>(no_three hr (by omega) (by omega) (fun r hr=>by have :=(HOE.out _ hr).1;omega)).elim) (fun hr=>by simp)).k3.cell rfl,(HK.out.row pS hgr (fun q hq=>by rw [hq];simp) (fun hq=>by have :=(HOE.out _ hq).1;omega) (fun hq=>by have :=(HOE.out _ hq).1;omega) (hs_row hgq) (fun hr=>(no_three hr (by omega) (by omega) (fun r hr=>by have :=(HOE.out _ hr).1;omega)).elim) (fun hr=>by simp)).k3.cell rfl,(HK.out.row pS hgr (fun q hq=>by rw [hq];simp) (fun hq=>by have :=(HOE.out _ hq).1;omega) (fun hq=>by have :=(HOE.out _ hq).1;omega) (hs_row hgq) (fun hr=>(no_three hr (by omega) (by omega) (fun r hr=>by have :=(HOE.out _ hr).1;omega)).elim) (fun hr=>by simp)).k3.cell rfl,(HK.out.row pS hgr (fun q hq=>by rw [hq];simp) (fun hq=>by have :=(HOE.out _ hq).1;omega) (fun hq=>by have :=(HOE.out _ hq).1;omega) (hs_row hgq) (fun hr=>(no_three hr (by omega) (by omega) (fun r hr=>by have :=(HOE.out _ hr).1;omega)).elim) (fun hr=>by simp)).k3.cell rfl⟩ (fun W3 hA hH2=> ?_)
       clear hK K hH HK PS NL OE SZ EB
       obtain ⟨PS,SZ,HK,NL,OE⟩:=hA
       have hH:=hH2
       clear hH2
       clear hl3 hO3 hg3 hgo3 hlt3 hgr hgq hmv
       try simp only [Act.put,List.setIfInBounds_toArray,List.set_cons_zero,List.set_cons_succ]
       refine AnyZ.take [8] (i:=7) (oi:=⟨some 61,.fieldAddr 90 (.tmp 7) 2,0,"made.go:196",#[⟨0,.phase⟩,⟨1,.phase⟩,⟨2,.phase⟩,⟨3,.phase⟩,⟨4,.phase⟩,⟨5,.phase⟩,⟨6,.phase⟩],none⟩) (v:= ?_) rfl (by kernel_rfl) (by kernel_rfl) (by kernel_rfl) (by kernel_rfl) (fun _ _ _ h=>h) (Or.inl ⟨by rfl, ?_⟩) hH ?_
       rotate_left
       focus (intro w hSw;(try dsimp only at hSw);go_simp;(try with_reducible rfl);done)
       try simp only [Act.put,List.setIfInBounds_toArray,List.set_cons_zero,List.set_cons_succ]
       refine AnyZ.last (o:=⟨none,.store 88 (.tmp 61) (.tmp 60),0,"made.go:196",#[⟨7,.data⟩,⟨6,.data⟩,⟨6,.chain⟩,⟨0,.phase⟩,⟨1,.phase⟩,⟨2,.phase⟩,⟨3,.phase⟩,⟨4,.phase⟩,⟨5,.phase⟩,⟨6,.phase⟩],none⟩) (by kernel_rfl) rfl (fun K hK=> ?_)
       have y8:W3.cell? ⟨bs,2,none⟩=some (.slice e1 e2 e3):=PS.out.cell rfl
       have y9:=PS.out.free 2
       go_simp
       refine hK.out _ _ ?_
       clear hK K hH
       try simp only [Act.put,List.setIfInBounds_toArray,List.set_cons_zero,List.set_cons_succ]
       refine AnyZ.done (by kernel_rfl) ?_ _
       have F1:=Lib.hid (show SK 90 3 eSch SchS w g A n c zs (w.heap.size+1) [some bs,some bc,(sv (some ⟨gg,0,none⟩,e2+1,cap)).ownBlock] (a1,a2,a3) (b1,b2,b3) (d1,d2,d3) C w.heap.size (cfgA noSV noSV noSV noSV) 33 bc (cfgA (a1,a2,a3) (b1,b2,b3) (d1,d2,d3) (v1,v2,v3)) 33 (v1,v2,v3) sl (W3.setCell ⟨bs,2,none⟩ (.slice (some ⟨gg,0,none⟩) (e2+1) cap)) from HK.out.setx pS (List.mem_cons_self) (by omega) (by omega) 2 _)
       have F2:=Lib.hid (show BlkAt (W3.setCell ⟨bs,2,none⟩ (.slice (some ⟨gg,0,none⟩) (e2+1) cap)) bs #[.string ⟨nm.toArray⟩,.slice y1 y2 y3,.slice (some ⟨gg,0,none⟩) (e2+1) cap] 90 from PS.out.set_ 2 _)
       have F3:=Lib.hid (show NestS 10 eLay LayS (Ex (w.heap.size+1) [(sv (v1,v2,v3)).ownBlock,some bs,some bc,(sv (some ⟨gg,0,none⟩,e2+1,cap)).ownBlock]) (W3.setCell ⟨bs,2,none⟩ (.slice (some ⟨gg,0,none⟩) (e2+1) cap)) (y1,y2,y3) ll from NL.out.mv (pL _ _ _ _ (Mv.set W3 bs 2 _ (fun hS=>hS.2 (by simp)))) (Mv.set W3 bs 2 _ (fun hS=>hS.2 (by simp))))
       have F4:=Lib.hid (show OwnL 93 5 eEdit (W3.setCell ⟨bs,2,none⟩ (.slice (some ⟨gg,0,none⟩) (e2+1) cap)) (bs+1) (sv (some ⟨gg,0,none⟩,e2+1,cap)) (el++[x]) from OE.out.grown (grown_set W3 bs 2 _) (Nat.lt_succ_self _))
       have F5:=Lib.hid (show ∀y∈el++[x],Rs.ME b2 y from fun y hy=>by
        rcases List.mem_append.1 hy with hy|hy
        ·exact HME.out y hy
        ·simp at hy;subst hy;exact HXE.out)
       clear y8 y9 HK PS NL OE SZ
       go_wp2_with fail
       go_roundw
       case rel=>exact ⟨k-1,el++[x],some ⟨gg,0,none⟩,e2+1,cap,by go_num,by omega,by simp;omega,F5,F1,F2,F3,F4⟩
       case measure=>simp [intOf];omega
      ·obtain rfl:k=0:=by omega
       have hel3:el.length≤3:=by omega
       have HEQ:=Lib.hid (OwnL.lins OE.out (S:=(Ex (w.heap.size+1) (own1 (v1,v2,v3)++[some bs,some bc]))) (fun q ho hq=>⟨by omega,fun hx=>by
        have hx2:some q=(sv (v1,v2,v3)).ownBlock∨some q=some bs∨some q=some bc:=by simpa [own1] using hx
        rcases hx2 with hx|hx|hx
        ·have :=(HOV.out q hx.symm).2;omega
        ·cases hx;omega
        ·cases hx;omega⟩) (by omega)).1
       have mvw:Mv (Ex (w.heap.size+1) [(sv (v1,v2,v3)).ownBlock,some bs,some bc,(sv (e1,e2,e3)).ownBlock]) wr (Ex (w.heap.size+1) (own1 (v1,v2,v3)++[some bs,some bc])) wr:=Mv.wider wr (fun b hb _=>⟨hb.1,fun hx=>by
        have hx2:some b=(sv (v1,v2,v3)).ownBlock∨some b=some bs∨some b=some bc:=by simpa [own1] using hx
        rcases hx2 with hx|hx|hx
        ·exact hb.2 (by rw [hx];simp)
        ·exact hb.2 (by rw [hx];simp)
        ·exact hb.2 (by rw [hx];simp)⟩)
       have HSC:=Lib.hid (show SchS (Ex (w.heap.size+1) (own1 (v1,v2,v3)++[some bs,some bc])) wr ⟨nm,ll,el⟩ ((y1,y2,y3),(e1,e2,e3)) from ⟨NL.out.mv (pL _ _ _ _ mvw) mvw,HEQ.out,fun x hx=>(HME.out x hx).2⟩)
       have HK2:=Lib.hid (show SK 90 3 eSch SchS w g A n c zs (w.heap.size+1) [some bs,some bc] (a1,a2,a3) (b1,b2,b3) (d1,d2,d3) C w.heap.size (cfgA noSV noSV noSV noSV) 33 bc (cfgA (a1,a2,a3) (b1,b2,b3) (d1,d2,d3) (v1,v2,v3)) 33 (v1,v2,v3) sl wr from HK.out.exless pS (fun q hq=>by simp at hq;rcases hq with rfl|rfl<;>simp) (fun hr=>(no_three hr (by omega) (by omega) (fun r hr=>by have :=(HOE.out _ hr).1;omega)).elim) (fun hr=>by simp))
       obtain ⟨xs,x1,x2,x3,x4⟩:=HK2.out.rs.row
       have hxl:xs.length=v2:=by rw [←hv, ←x1,List.length_map]
       have n0:wr.cell? ⟨bc,3,none⟩=some (.slice v1 v2 v3):=HK2.out.k3.cell rfl
       have p0:wr.cell? ⟨bs,0,none⟩=some (.string ⟨nm.toArray⟩):=PS.out.cell rfl
       have p1:wr.cell? ⟨bs,1,none⟩=some (.slice y1 y2 y3):=PS.out.cell rfl
       have p2:wr.cell? ⟨bs,2,none⟩=some (.slice e1 e2 e3):=PS.out.cell rfl
       have HX:=Lib.hid (And.intro x1 (And.intro x2 x3))
       have HXL:=Lib.hid hxl
       have HV:=Lib.hid hv
       have hxb:xs.length≤900000:=by omega
       have HE3:=Lib.hid hel3
       clear x1 x2 x3 x4 hxl HK PS NL OE hv hel mvw HEQ HOE
       go_wp2_with (at_builtin;go_loud (refine wp_append_one kSch _ rfl _ _ rfl (w.heap.size+1) _ xs rfl (OwnL.alloc HX.out.2.1 _) wr.heap.size ((⟨nm,ll,el⟩:Rs.Sch),((y1,y2,y3),(e1,e2,e3))) rfl (one_new (blk_now rfl) (dsch_vals nm ll el y1 y2 y3 e1 e2 e3)) hxb (by simp;omega) ?_;intro gg cap w9 hO9 hB9 hg9 hgo9 _;rw [HXL.out] at hO9 ⊢;have FK:=(HK2.out.alloc pS _).app pS (ex':=[some bc]) HX.out.1 (fun z hz=>pS _ _ _ _ (Mv.of_below ((Below.refl _ _).alloc (Nat.le_refl _) _) (fun _ h _=>h)) _ _ (HX.out.2.2 z hz)) hg9 hgo9 hO9 (pS _ _ _ _ (Mv.of_below ((Below.refl _ _).alloc (Nat.le_refl _) _) (fun _ h _=>h)) _ _ HSC.out) (fun r hr=>by simp at hr;simp [hr]) (fun hr=>by simp at hr;omega) (fun hr=>by simp) (fun r hr=>by simp at hr;simp;omega);have z1:w9.cell? ⟨bc,3,none⟩=some (.slice v1 v2 v3):=FK.k3.cell rfl;have z2:=FK.k3.free 3;have HFK:=Lib.hid FK;clear FK hO9 hB9 hg9 hgo9 n0 p0 p1 p2))
       have HF:=Lib.hid (show SK 90 3 eSch SchS w g A n c zs (w.heap.size+1) [some bc] (a1,a2,a3) (b1,b2,b3) (d1,d2,d3) C w.heap.size (cfgA noSV noSV noSV noSV) 33 bc (cfgA (a1,a2,a3) (b1,b2,b3) (d1,d2,d3) (some ⟨gg,0,none⟩,v2+1,cap)) 33 (some ⟨gg,0,none⟩,v2+1,cap) (sl++[⟨nm,ll,el⟩]) (w9.setCell ⟨bc,3,none⟩ (.slice (some ⟨gg,0,none⟩) (v2+1) cap)) from HFK.out.set3 pS 3 (.slice (some ⟨gg,0,none⟩) (v2+1) cap))
       have HM2:Hid ((∀s∈sl++[(⟨nm,ll,el⟩:Rs.Sch)],Rs.MS a2 b2 d2 s)∧(sl++[(⟨nm,ll,el⟩:Rs.Sch)]).map (·.name)=Rs.nmS.take (sl++[(⟨nm,ll,el⟩:Rs.Sch)]).length):=Lib.hid ⟨fun p hp=>by
        rcases List.mem_append.1 hp with hp|hp
        ·exact HM.out.1 p hp
        ·simp at hp;subst hp;exact ⟨HML.out.2,HLL.out,HE3.out,HML.out.1,HME.out⟩,by
        have :=Rs.take_snoc (L:=Rs.nmS) (ns:=sl.map (·.name)) (x:=nm) (by rw [List.length_map];exact HM.out.2) (by rw [List.length_map,HV.out];exact HNM.out)
        simpa using this⟩
       have hsl:sl.length=v2:=HV.out
       clear HFK HX HXL HK2 HSC
       go_wp2_with fail
       go_roundw
       case rel=>exact ⟨i-1,sl++[⟨nm,ll,el⟩],(some ⟨gg,0,none⟩,v2+1,cap),by go_num,by omega,by simp;omega,by simp;omega,HM2,HF⟩
       case measure=>simp [intOf];omega
  ·obtain rfl:i=0:=by omega
   have mvw:Mv (Ex (w.heap.size+1) (own1 (v1,v2,v3)++[some bc])) wr (fun b=>w.heap.size+1≤b) wr:=Mv.wider wr (fun b hb _=>hb.1)
   have HN:=Lib.hid (HK.out.rs.row.done (pS _ _ _ _ mvw) (fun q _ hq=>hq) (by omega))
   have HS:=Lib.hid (HK.out.rs.fin.mv mvw)
   have s0:wr.cell? ⟨bc,0,none⟩=some (.slice a1 a2 a3):=HK.out.k3.cell rfl
   have s1:wr.cell? ⟨bc,1,none⟩=some (.slice b1 b2 b3):=HK.out.k3.cell rfl
   have s2:wr.cell? ⟨bc,2,none⟩=some (.slice d1 d2 d3):=HK.out.k3.cell rfl
   have s3:wr.cell? ⟨bc,3,none⟩=some (.slice v1 v2 v3):=HK.out.k3.cell rfl
   have r0:wr.cell? ⟨w.heap.size,0,none⟩=some (.slice none 0 0):=HK.out.k2.cell rfl
   have r1:wr.cell? ⟨w.heap.size,1,none⟩=some (.slice none 0 0):=HK.out.k2.cell rfl
   have r2:wr.cell? ⟨w.heap.size,2,none⟩=some (.slice none 0 0):=HK.out.k2.cell rfl
   have r3:wr.cell? ⟨w.heap.size,3,none⟩=some (.slice none 0 0):=HK.out.k2.cell rfl
   have f0:=HK.out.k2.free 0
   have f1:=HK.out.k2.free 1
   have f2:=HK.out.k2.free 2
   have f3:=HK.out.k2.free 3
   have HMA:=Lib.hid (show Rs.Made {C with scheds:=sl} from {HMD.out with sn:=HM.out.2,sl:=by simp only;omega,ss:=fun s hs=>by have :=HM.out.1 s hs;rw [←HLA.out.1, ←HLA.out.2.1, ←HLA.out.2.2] at this;exact this})
   have HLN:=Lib.hid (show 1≤sl.length∧(sl.length:Int)≤m0 from ⟨by omega,by omega⟩)
   have HG:=Lib.hid HK.out.rs.grown
   have HD:=Lib.hid HK.out.rs.dice
   clear HK mvw hv
   go_wp2_with fail
   refine bodyPost_ret (v:=cfgV (a1,a2,a3) (b1,b2,b3) (d1,d2,d3) (v1,v2,v3)) (by simp [results,Tryz.results11,go_sem,r0,r1,r2,r3,f0,f1,f2,f3];rfl) rfl ?_
   have hb: ∀(W:World) (i:Nat) (u:Value),Below w.heap.size W (W.setCell ⟨w.heap.size,i,none⟩ u):=fun W i u=>(Below.refl _ W).setCell (p:=⟨w.heap.size,i,none⟩) (Nat.le_refl _) u
   have hs: ∀(W:World) (i:Nat) (u:Value),Mv (fun b=>w.heap.size+1≤b) W (fun b=>w.heap.size+1≤b) (W.setCell ⟨w.heap.size,i,none⟩ u):=fun W i u=>Mv.set W _ i u (fun hS=>by have :w.heap.size+1≤w.heap.size:=hS;omega)
   have hm:=(((hs wr 0 (.slice a1 a2 a3)).trans (hs _ 1 (.slice b1 b2 b3))).trans (hs _ 2 (.slice d1 d2 d3))).trans (hs _ 3 (.slice v1 v2 v3))
   have F:=HS.out.mv hm
   refine ⟨(a1,a2,a3),(b1,b2,b3),(d1,d2,d3),(v1,v2,v3),{C with scheds:=sl},rfl,cfg_of (C:={C with scheds:=sl}) ⟨F.zones,F.people,F.cals⟩ (HN.out.mv (pS _ _ _ _ hm) hm) (fun b hb=>by have :w.heap.size+1≤b:=hb;omega),HMA.out,by have :=HLA.out.1;simp only;omega,by have :=HLA.out.2.1;simp only;omega,HLN.out.1,HLN.out.2, ?_, ?_⟩
   ·exact grown_then (grown_then (grown_then (grown_then HG.out (hb _ 0 _) (Nat.le_refl _)) (hb _ 1 _) (Nat.le_refl _)) (hb _ 2 _) (Nat.le_refl _)) (hb _ 3 _) (Nat.le_refl _)
   ·exact (((HD.out.below (hb _ 0 _) hgw).below (hb _ 1 _) hgw).below (hb _ 2 _) hgw).below (hb _ 3 _) hgw
end Go.Proofs.YtfamcohbnoibaaaGreatDoor
