import Derived.Test.YtfamcohbnoibaaaGreatDoorKDz
import Derived.Test.YtfamcohbnoibaaaGreatDoorKG00
import Derived.Test.YtfamcohbnoibaaaGreatDoorKG14
import Derived.Test.YtfamcohbnoibaaaGreatDoorKG09
import Derived.Test.YtfamcohbnoibaaaGreatDoorKWma
import Derived.Deep.RegionHeld3
set_option linter.unusedVariables false
set_option linter.unusedSimpArgs false
set_option maxRecDepth 100000
namespace Go.Proofs.YtfamcohbnoibaaaGreatDoor
open Go.RowKit
def namesV:Array Value:=#[.string ⟨#[97,100,97]⟩,.string ⟨#[98,111,98]⟩,.string ⟨#[99,108,101,111]⟩,.string ⟨#[100,97,110]⟩,.string ⟨#[101,118,101]⟩,.string ⟨#[102,97,121]⟩,.string ⟨#[103,117,115]⟩,.string ⟨#[104,97,108]⟩]
theorem names_any (w:World):Calls Tryz.prog 36 #[] w fun e w'=>e= .returned (.slice (some ⟨w.heap.size,0,none⟩) 8 8)∧w'=w.alloc (.cells namesV 9):=by
 go_enter Tryz.func36,Tryz.ntmps36
 go_wp2_with fail
 go_ret
 exact ⟨rfl,rfl⟩
theorem names_at {k:Nat} {x:List UInt8} (h:Rs.nmP[k]? =some x):namesV[k]? =some (.string ⟨x.toArray⟩):=by
 have e:namesV=(Rs.nmP.map fun x=>Value.string ⟨x.toArray⟩).toArray:=by kernel_rfl
 rw [e,List.getElem?_toArray,List.getElem?_map,h]
 rfl
def zoneNV:Array Value:=#[.string ⟨#[104,101,114,101]⟩,.string ⟨#[116,104,101,114,101]⟩]
theorem zoneN_at {k:Nat} {x:List UInt8} (h:Rs.nmZ[k]? =some x):zoneNV[k]? =some (.string ⟨x.toArray⟩):=by
 have e:zoneNV=(Rs.nmZ.map fun x=>Value.string ⟨x.toArray⟩).toArray:=by kernel_rfl
 rw [e,List.getElem?_toArray,List.getElem?_map,h]
 rfl
theorem nm_ex {L:List Rs.Nm} {k:Nat} (h:k<L.length): ∃x,L[k]? =some x:=⟨_,List.getElem?_eq_getElem h⟩
theorem fit_rule {r:Zn.Rule} (h:Zn.okR r=true):FitR r:=by
 have :=Zn.okR_iff.1 h
 unfold FitR I64
 omega
theorem zone_made {S:Nat→Prop} {w:World} {A':Option Addr} {n' c':Nat} {off:Int} {rs:List Zn.Rule} {nm:List UInt8} (hG:Gd off rs) (hn:rs.length=n') (hc:n'≤c') (hR:RulesAt w A' rs) (hr: ∀ad,A'=some ad→S ad.block∧ad.block<w.heap.size):ZoneS S w ⟨nm,off,rs⟩ (A',n',c'):=by
 have hlen:=hG.1.len
 have hlo:=hG.1.lo
 have hhi:=hG.1.hi
 refine ⟨⟨hR,hn,hc,by simp only;omega,hr⟩,fun r hr=>fit_rule (List.all_eq_true.1 hG.1.all r hr), ?_⟩
 unfold I64
 simp only
 omega
theorem dzone_vals (nm:List UInt8) (off:Int) (rs:List Zn.Rule) (A':Option Addr) (n' c':Nat): ∀j,j<3→(#[Value.string ⟨nm.toArray⟩,.int .i64 off,.slice A' n' c']:Array Value)[j]? =some (eZone ((⟨nm,off,rs⟩:Rs.Zone),(A',n',c')) j):=fun j hj=>by
 rcases j with _|_|_|_<;>first|rfl|omega
theorem dpers_vals (nm:List UInt8) (z0:Int) (ql:Rs.Sp) (m1 m2:Int) (bb:Bool) (q1:Option Addr) (q2 q3:Nat): ∀j,j<6→(#[Value.string ⟨nm.toArray⟩,.int .i64 z0,.slice q1 q2 q3,.int .i64 m1,.int .i64 m2,.bool bb]:Array Value)[j]? =some (ePers ((⟨nm,z0,ql,m1,m2,bb⟩:Rs.Pers),(q1,q2,q3)) j):=fun j hj=>by
 rcases j with _|_|_|_|_|_|_<;>first|rfl|omega
theorem dcal_vals (nm:List UInt8) (z0:Int) (ds:List Int) (q1:Option Addr) (q2 q3:Nat): ∀j,j<3→(#[Value.string ⟨nm.toArray⟩,.int .i64 z0,.slice q1 q2 q3]:Array Value)[j]? =some (eCal ((⟨nm,z0,ds⟩:Rs.Cal),(q1,q2,q3)) j):=fun j hj=>by
 rcases j with _|_|_|_<;>first|rfl|omega
theorem no_two {a q:Nat} {o:Option Nat} (h:some q∈[some a,o]) (h1:q<a) (h2: ∀r,o=some r→q<r):False:=by
 simp only [List.mem_cons,Option.some.injEq,List.not_mem_nil,or_false] at h
 rcases h with h|h
 ·omega
 ·have :=h2 q h.symm
  omega
theorem ex_new {lo m b:Nat} {v:SV} {ex:List (Option Nat)} (h1: ∀q,(sv v).ownBlock=some q→q<m) (h2: ∀q,some q∈ex→q<m) (h3:lo≤m) (h4:m≤b):Ex lo (own1 v++ex) b:=⟨Nat.le_trans h3 h4,fun hb=>by
 rcases List.mem_append.1 hb with hb|hb
 ·have e:some b=(sv v).ownBlock:=by simpa [own1] using hb
  have :=h1 b e.symm
  omega
 ·have :=h2 b hb
  omega⟩
def Staffed (w:World) (g:Nat) (A:Option Addr) (n c:Nat) (zs:List Int) (e:Ending) (w':World):Prop:=
 ∃(a b d:SV) (C:Rs.Cfg),e= .returned (cfgV a b d noSV)∧StaffS (fun q=>w.heap.size≤q) w' a b d C∧C.scheds=[]∧Rs.Made C∧1≤C.zones.length∧1≤C.people.length∧w.grownBy w' (some g)∧Dice w' g A n c zs
set_option maxHeartbeats 16000000 in
theorem Staff_any (g n c:Nat) (A:Option Addr) (zs:List Int) (w:World) (h:Dice w g A n c zs):
  Calls Tryz.prog 35 #[.pointer (some ⟨g,0,none⟩)] w (Staffed w g A n c zs):=by
 have hgw:=h.lt_
 have HD:=Lib.hid h
 clear h
 go_enter Tryz.func35,Tryz.ntmps35
 go_wp2_with fail
 refine (Next_any g n c A zs 2 _ ((HD.out.alloc _).alloc _) (by decide) (by decide)).mono ?_
 rintro e w1 ⟨i0,rfl,i1,i2,g1,D1⟩
 have HK:=Lib.hid (show SK 71 3 eZone ZoneS w g A n c zs (w.heap.size+2) [] noSV noSV noSV Rs.noCfg w.heap.size (cfgA noSV noSV noSV noSV) 33 (w.heap.size+1) (cfgA noSV noSV noSV noSV) 33 noSV [] w1 from ⟨⟨grown_trans (grown_alloc (grown_alloc (grown_refl _ _) _) _) g1,D1,by omega,hgw,by have :=g1.size;simpa using this,⟨NestS.nil_ _ _,NestS.nil_ _ _,NestS.nil_ _ _⟩,GrowS.nil_ _ _,fun q hq=>by cases hq⟩,
  blk_after (BlkAt.alloc (blk_new rfl) _) g1 (by omega),blk_after (blk_new (by simp)) g1 (by omega),.inl ⟨by omega,by omega⟩,.inl ⟨by omega,by omega⟩,by omega,fun q hq=>by cases hq⟩)
 clear g1 D1 HD
 go_wp2_with fail
 go_loopw [4] (fun vi wr=> ∃(i:Int) (zl:List Rs.Zone) (v:SV),vi= .int .i64 i∧0≤i∧1≤(zl.length:Int)+i∧(zl.length:Int)+i≤2∧Hid ((∀z∈zl,Rs.MZ z)∧zl.map (·.name)=Rs.nmZ.take zl.length)∧Hid (SK 71 3 eZone ZoneS w g A n c zs (w.heap.size+2) [] noSV noSV noSV Rs.noCfg w.heap.size (cfgA noSV noSV noSV noSV) 33 (w.heap.size+1) (cfgA v noSV noSV noSV) 33 v zl wr)) (fun vi _=>(intOf vi).toNat)
 case atStart=>exact ⟨1+i0,[],noSV,by go_num,by omega,by simp;omega,by simp;omega,Lib.hid ⟨(fun z hz=>by cases hz),rfl⟩,HK⟩
 case round=>
  clear HK
  obtain ⟨i,zl,⟨v1,v2,v3⟩,rfl,j1,j2,j3,HM,HK⟩:=hrel
  have hv:=HK.out.rs.row.len
  simp only at hv
  rw [hv] at j2 j3
  by_cases hi:0<i
  ·obtain ⟨nm,hnm⟩:=nm_ex (L:=Rs.nmZ) (k:=v2) (by show v2<2;omega)
   have HNM:=Lib.hid hnm
   have HOV:Hid (∀q,(sv (v1,v2,v3)).ownBlock=some q→q<wr.heap.size):=Lib.hid fun q hq=>(HK.out.rs.row.lt q hq).2.1
   have hws:=HK.out.rs.lo3
   have b1:(0:Int)≤(v2:Int):=by omega
   have b2:(v2:Int)<2:=by omega
   have b3:v2<2:=by omega
   clear hnm
   go_wp2_with fail
   refine AnyZ.start 13 (A:=fun W=>Hid (SK 71 3 eZone ZoneS w g A n c zs (w.heap.size+2) [] noSV noSV noSV Rs.noCfg w.heap.size (cfgA noSV noSV noSV noSV) 33 (w.heap.size+1) (cfgA (v1,v2,v3) noSV noSV noSV) 33 (v1,v2,v3) zl W)∧Hid (wr.heap.size≤W.heap.size)) (S:=fun W=>W.cell? ⟨w.heap.size+1,0,none⟩=some (.slice v1 v2 v3)) (by kernel_rfl) ⟨Lib.hid (HK.out.drew pZ),Lib.hid (Nat.le_refl wr.heap.size)⟩ ((HK.out.drew pZ).k3.cell rfl) (fun Wa hA hH=> ?_)
   obtain ⟨HK,SZ⟩:=hA
   refine AnyZ.take [13] (i:=0) (oi:=⟨some 18,.fieldAddr 33 (.tmp 3) 0,0,"made.go:166",#[],none⟩) (v:= ?_) rfl (by kernel_rfl) (by kernel_rfl) (by kernel_rfl) (by kernel_rfl) (fun _ _ _ h=>h) (Or.inl ⟨by rfl, ?_⟩) hH ?_
   rotate_left
   focus (intro w hSw;(try dsimp only at hSw);go_simp;(try with_reducible rfl);done)
   try simp only [Act.put,List.setIfInBounds_toArray,List.set_cons_zero,List.set_cons_succ]
   refine AnyZ.take [13] (i:=1) (oi:=⟨some 19,.load 28 (.tmp 18),28,"made.go:166",#[⟨0,.data⟩],none⟩) (v:= ?_) rfl (by kernel_rfl) (by kernel_rfl) (by kernel_rfl) (by kernel_rfl) (fun _ _ _ h=>h) (Or.inl ⟨by rfl, ?_⟩) hH ?_
   rotate_left
   focus (intro w hSw;(try dsimp only at hSw);go_simp;(try with_reducible rfl);done)
   try simp only [Act.put,List.setIfInBounds_toArray,List.set_cons_zero,List.set_cons_succ]
   refine AnyZ.take [13] (i:=2) (oi:=⟨some 20,.move (.tmp 0),26,"made.go:166",#[],none⟩) (v:= ?_) rfl (by kernel_rfl) (by kernel_rfl) (by kernel_rfl) (by kernel_rfl) (fun _ _ _ h=>h) (Or.inl ⟨by rfl, ?_⟩) hH ?_
   rotate_left
   focus (intro w hSw;(try dsimp only at hSw);go_simp;(try with_reducible rfl);done)
   try simp only [Act.put,List.setIfInBounds_toArray,List.set_cons_zero,List.set_cons_succ]
   refine AnyZ.take [13] (i:=4) (oi:=⟨some 22,.fieldAddr 33 (.tmp 3) 0,0,"made.go:166",#[],none⟩) (v:= ?_) rfl (by kernel_rfl) (by kernel_rfl) (by kernel_rfl) (by kernel_rfl) (fun _ _ _ h=>h) (Or.inl ⟨by rfl, ?_⟩) hH ?_
   rotate_left
   focus (intro w hSw;(try dsimp only at hSw);go_simp;(try with_reducible rfl);done)
   try simp only [Act.put,List.setIfInBounds_toArray,List.set_cons_zero,List.set_cons_succ]
   refine AnyZ.take [13] (i:=5) (oi:=⟨some 23,.load 28 (.tmp 22),28,"made.go:166",#[⟨4,.data⟩],none⟩) (v:= ?_) rfl (by kernel_rfl) (by kernel_rfl) (by kernel_rfl) (by kernel_rfl) (fun _ _ _ h=>h) (Or.inl ⟨by rfl, ?_⟩) hH ?_
   rotate_left
   focus (intro w hSw;(try dsimp only at hSw);go_simp;(try with_reducible rfl);done)
   try simp only [Act.put,List.setIfInBounds_toArray,List.set_cons_zero,List.set_cons_succ]
   refine AnyZ.take [13] (i:=6) (oi:=⟨some 24,.call {callee:= .builtin .len,args:=#[.tmp 23],argTypes:=#[28]},3,"made.go:166",#[⟨5,.data⟩],none⟩) (v:= ?_) rfl (by kernel_rfl) (by kernel_rfl) (by kernel_rfl) (by kernel_rfl) (fun _ _ _ h=>h) (Or.inl ⟨by rfl, ?_⟩) hH ?_
   rotate_left
   focus (intro w hSw;(try dsimp only at hSw);go_simp;(try with_reducible rfl);done)
   try simp only [Act.put,List.setIfInBounds_toArray,List.set_cons_zero,List.set_cons_succ]
   refine AnyZ.ready (rs:=[3]) (by kernel_rfl) (by simp) ?_
   refine AllZ.cons (o:=⟨some 21,.buildSlice 86 2 #[(0,.const (.string ⟨#[104,101,114,101]⟩)),(1,.const (.string ⟨#[116,104,101,114,101]⟩))],86,"made.go:166",#[],none⟩) rfl (fun K hK=> ?_) AllZ.nil
   have hnb:=SZ.out
   go_simp
   refine AnyZ.go hK (A:=fun W=>Hid (SK 71 3 eZone ZoneS w g A n c zs (w.heap.size+2) [] noSV noSV noSV Rs.noCfg w.heap.size (cfgA noSV noSV noSV noSV) 33 (w.heap.size+1) (cfgA (v1,v2,v3) noSV noSV noSV) 33 (v1,v2,v3) zl W)∧Hid (wr.heap.size≤W.heap.size)∧Hid (BlkAt W Wa.heap.size zoneNV 9)) (S':=fun W=>W.cell? ⟨w.heap.size+1,0,none⟩=some (.slice v1 v2 v3)∧W.cell? ⟨Wa.heap.size,v2,none⟩=some (.string ⟨nm.toArray⟩)) (fun _ h=>(h.1)) ⟨Lib.hid ((HK.out).below pZ ((Below.refl _ _).alloc (Nat.le_refl _) _)),Lib.hid (Nat.le_trans (SZ.out) (((Below.refl _ _).alloc (Nat.le_refl _) _):Below _ _ _).size),Lib.hid ((blk_now rfl))⟩ ⟨((HK.out).below pZ ((Below.refl _ _).alloc (Nat.le_refl _) _)).k3.cell rfl,((blk_now rfl)).cell (zoneN_at HNM.out)⟩ (fun W1 hA hH2=> ?_)
   clear hK K hH HK SZ
   obtain ⟨HK,SZ,NB⟩:=hA
   have hH:=hH2
   clear hH2
   try simp only [Act.put,List.setIfInBounds_toArray,List.set_cons_zero,List.set_cons_succ]
   refine AnyZ.take [13] (i:=7) (oi:=⟨some 25,.indexAddr 86 (.tmp 21) (.tmp 24),0,"made.go:166",#[⟨3,.data⟩,⟨6,.data⟩],none⟩) (v:= ?_) rfl (by kernel_rfl) (by kernel_rfl) (by kernel_rfl) (by kernel_rfl) (fun _ _ _ h=>h) (Or.inl ⟨by rfl, ?_⟩) hH ?_
   rotate_left
   focus (intro w hSw;(try dsimp only at hSw);go_simp;(try with_reducible rfl);done)
   try simp only [Act.put,List.setIfInBounds_toArray,List.set_cons_zero,List.set_cons_succ]
   refine AnyZ.take [13] (i:=8) (oi:=⟨some 26,.load 9 (.tmp 25),9,"made.go:166",#[⟨7,.data⟩],none⟩) (v:= ?_) rfl (by kernel_rfl) (by kernel_rfl) (by kernel_rfl) (by kernel_rfl) (fun _ _ _ h=>h) (Or.inl ⟨by rfl, ?_⟩) hH ?_
   rotate_left
   focus (intro w hSw;(try dsimp only at hSw);go_simp;(try with_reducible rfl);done)
   try simp only [Act.put,List.setIfInBounds_toArray,List.set_cons_zero,List.set_cons_succ]
   refine AnyZ.ready (rs:=[9]) (by kernel_rfl) (by simp) ?_
   refine AllZ.cons (o:=⟨some 27,.call {callee:= .value (.func 68),args:=#[.tmp 20,.tmp 26],argTypes:=#[26,9]},71,"made.go:166",#[⟨2,.data⟩,⟨8,.data⟩],none⟩) rfl (fun K hK=> ?_) AllZ.nil
   have hwz:=SZ.out
   go_simp
   (go_at_call 68;(with_reducible refine (Zone_any g n c A zs _ _ HK.out.rs.dice).mono ?_);rintro e w2 ⟨off,A',n',c',rs,rfl,hGd,hn',hc',hR',hrng,hg2,hD2⟩)
   go_wp2_with fail
   have HGD:=Lib.hid hGd
   have HZM:=Lib.hid (zone_made (S:=Ex (w.heap.size+2) (own1 (v1,v2,v3)++[])) (nm:=nm) hGd hn' hc' hR' (fun ad ea=>⟨ex_new (m:=wr.heap.size) HOV.out (fun q hq=>by cases hq) (by omega) (by have :=(hrng ad ea).1;omega),(hrng ad ea).2⟩))
   clear hGd hn' hc' hR' hrng hwz
   refine AnyZ.go hK (A:=fun W=>Hid (SK 71 3 eZone ZoneS w g A n c zs (w.heap.size+2) [] noSV noSV noSV Rs.noCfg w.heap.size (cfgA noSV noSV noSV noSV) 33 (w.heap.size+1) (cfgA (v1,v2,v3) noSV noSV noSV) 33 (v1,v2,v3) zl W)∧Hid (wr.heap.size≤W.heap.size)∧Hid (BlkAt W Wa.heap.size zoneNV 9)∧Hid (ZoneS (Ex (w.heap.size+2) (own1 (v1,v2,v3)++[])) W ⟨nm,off,rs⟩ (A',n',c'))) (S':=fun W=>W.cell? ⟨w.heap.size+1,0,none⟩=some (.slice v1 v2 v3)∧W.cell? ⟨Wa.heap.size,v2,none⟩=some (.string ⟨nm.toArray⟩)) (fun _ h=>h) ⟨Lib.hid ((HK.out).call pZ hg2 hD2),Lib.hid (Nat.le_trans (SZ.out) hg2.size),Lib.hid ((NB.out).grown hg2 (by intro e;cases e;omega)),Lib.hid (HZM.out)⟩ ⟨((HK.out).call pZ hg2 hD2).k3.cell rfl,((NB.out).grown hg2 (by intro e;cases e;omega)).cell (zoneN_at HNM.out)⟩ (fun W2 hA hH2=> ?_)
   clear hK K hH HK SZ NB
   obtain ⟨HK,SZ,NB,ZD⟩:=hA
   have hH:=hH2
   clear hH2
   clear hg2 hD2 HZM
   try simp only [Act.put,List.setIfInBounds_toArray,List.set_cons_zero,List.set_cons_succ]
   refine AnyZ.ready (rs:=[10]) (by kernel_rfl) (by simp) ?_
   refine AllZ.cons (o:=⟨some 28,.buildSlice 28 1 #[(0,.tmp 27)],28,"made.go:166",#[⟨9,.data⟩],none⟩) rfl (fun K hK=> ?_) AllZ.nil
   go_simp
   refine AnyZ.go hK (A:=fun W=>Hid (SK 71 3 eZone ZoneS w g A n c zs (w.heap.size+2) [] noSV noSV noSV Rs.noCfg w.heap.size (cfgA noSV noSV noSV noSV) 33 (w.heap.size+1) (cfgA (v1,v2,v3) noSV noSV noSV) 33 (v1,v2,v3) zl W)∧Hid (wr.heap.size≤W.heap.size)∧Hid (BlkAt W Wa.heap.size zoneNV 9)∧Hid (ZoneS (Ex (w.heap.size+2) (own1 (v1,v2,v3)++[])) W ⟨nm,off,rs⟩ (A',n',c'))∧Hid (BlkAt W W2.heap.size #[.string ⟨nm.toArray⟩,.int .i64 off,.slice A' n' c'] 71)) (S':=fun W=>W.cell? ⟨w.heap.size+1,0,none⟩=some (.slice v1 v2 v3)∧W.cell? ⟨Wa.heap.size,v2,none⟩=some (.string ⟨nm.toArray⟩)) (fun _ h=>h) ⟨Lib.hid ((HK.out).below pZ ((Below.refl _ _).alloc (Nat.le_refl _) _)),Lib.hid (Nat.le_trans (SZ.out) (((Below.refl _ _).alloc (Nat.le_refl _) _):Below _ _ _).size),Lib.hid ((NB.out).after ((Below.refl _ _).alloc (Nat.le_refl _) _)),Lib.hid (pZ _ _ _ _ (Mv.of_below ((Below.refl _ _).alloc (Nat.le_refl _) _) (fun _ h _=>h)) _ _ (ZD.out)),Lib.hid ((blk_now rfl))⟩ ⟨((HK.out).below pZ ((Below.refl _ _).alloc (Nat.le_refl _) _)).k3.cell rfl,((NB.out).after ((Below.refl _ _).alloc (Nat.le_refl _) _)).cell (zoneN_at HNM.out)⟩ (fun W3 hA hH2=> ?_)
   clear hK K hH HK SZ NB ZD
   obtain ⟨HK,SZ,NB,ZD,EB⟩:=hA
   have hH:=hH2
   clear hH2
   try simp only [Act.put,List.setIfInBounds_toArray,List.set_cons_zero,List.set_cons_succ]
   refine AnyZ.ready (rs:=[11]) (by kernel_rfl) (by simp) ?_
   refine AllZ.cons (o:=⟨some 29,.call {callee:= .builtin .append,args:=#[.tmp 19,.tmp 28],argTypes:=#[28,28]},28,"made.go:166",#[⟨1,.data⟩,⟨10,.data⟩,⟨9,.chain⟩],none⟩) rfl (fun K hK=> ?_) AllZ.nil
   obtain ⟨xs,x1,x2,x3,x4⟩:=HK.out.rs.row
   have hxl:xs.length=v2:=by rw [←hv, ←x1,List.length_map]
   have hl3:=HK.out.rs.lo3
   (refine step_append_row kZon _ (by rfl) (.tmp 19) (.tmp 28) (by rfl) (w.heap.size+2) (.slice v1 v2 v3) xs (by rfl) x2 W2.heap.size ((⟨nm,off,rs⟩:Rs.Zone),(A',n',c')) (by rfl) (one_new EB.out (dzone_vals nm off rs A' n' c')) (by omega) hl3 ?_;intro gg cap w3 hO3 hg3 hgo3 hlt3)
   rw [hxl] at hO3 ⊢
   refine AnyZ.go hK (A:=fun W=>Hid (wr.heap.size≤W.heap.size)∧Hid (BlkAt W Wa.heap.size zoneNV 9)∧Hid (SK 71 3 eZone ZoneS w g A n c zs (w.heap.size+2) [] noSV noSV noSV Rs.noCfg w.heap.size (cfgA noSV noSV noSV noSV) 33 (w.heap.size+1) (cfgA (v1,v2,v3) noSV noSV noSV) 33 (some ⟨gg,0,none⟩,v2+1,cap) (zl++[⟨nm,off,rs⟩]) W)) (S':=fun W=>W.cell? ⟨w.heap.size+1,0,none⟩=some (.slice v1 v2 v3)∧W.cell? ⟨Wa.heap.size,v2,none⟩=some (.string ⟨nm.toArray⟩)) (fun _ h=>h) ⟨Lib.hid (Nat.le_trans (SZ.out) hg3.size),Lib.hid ((NB.out).grown hg3 (by intro e;have :=HOV.out _ e.symm;omega)),Lib.hid (HK.out.app pZ x1 x3 hg3 hgo3 hO3 ZD.out (fun r hr=>hr) id id (fun r hr=>by cases hr))⟩ ⟨(HK.out.app pZ x1 x3 hg3 hgo3 hO3 ZD.out (fun r hr=>hr) id id (fun r hr=>by cases hr)).k3.cell rfl,((NB.out).grown hg3 (by intro e;have :=HOV.out _ e.symm;omega)).cell (zoneN_at HNM.out)⟩ (fun W4 hA hH2=> ?_)
   clear hK K hH HK SZ NB ZD EB
   obtain ⟨SZ,NB,HK⟩:=hA
   have hH:=hH2
   clear hH2
   clear x1 x2 x3 x4 hxl hl3 hO3 hg3 hgo3 hlt3 xs
   try simp only [Act.put,List.setIfInBounds_toArray,List.set_cons_zero,List.set_cons_succ]
   refine AnyZ.take [13] (i:=12) (oi:=⟨some 30,.fieldAddr 33 (.tmp 3) 0,0,"made.go:166",#[⟨0,.phase⟩,⟨1,.phase⟩,⟨2,.phase⟩,⟨3,.phase⟩,⟨4,.phase⟩,⟨5,.phase⟩,⟨6,.phase⟩,⟨7,.phase⟩,⟨8,.phase⟩,⟨9,.phase⟩,⟨10,.phase⟩,⟨11,.phase⟩],none⟩) (v:= ?_) rfl (by kernel_rfl) (by kernel_rfl) (by kernel_rfl) (by kernel_rfl) (fun _ _ _ h=>h) (Or.inl ⟨by rfl, ?_⟩) hH ?_
   rotate_left
   focus (intro w hSw;(try dsimp only at hSw);go_simp;(try with_reducible rfl);done)
   try simp only [Act.put,List.setIfInBounds_toArray,List.set_cons_zero,List.set_cons_succ]
   refine AnyZ.last (o:=⟨none,.store 28 (.tmp 30) (.tmp 29),0,"made.go:166",#[⟨12,.data⟩,⟨11,.data⟩,⟨11,.chain⟩,⟨0,.phase⟩,⟨1,.phase⟩,⟨2,.phase⟩,⟨3,.phase⟩,⟨4,.phase⟩,⟨5,.phase⟩,⟨6,.phase⟩,⟨7,.phase⟩,⟨8,.phase⟩,⟨9,.phase⟩,⟨10,.phase⟩,⟨11,.phase⟩],none⟩) (by kernel_rfl) rfl (fun K hK=> ?_)
   have y1:W4.cell? ⟨w.heap.size+1,0,none⟩=some (.slice v1 v2 v3):=HK.out.k3.cell rfl
   have y2:=HK.out.k3.free 0
   go_simp
   refine hK.out _ _ ?_
   clear hK K hH
   try simp only [Act.put,List.setIfInBounds_toArray,List.set_cons_zero,List.set_cons_succ]
   refine AnyZ.done (by kernel_rfl) ?_ _
   have HF:=Lib.hid (show SK 71 3 eZone ZoneS w g A n c zs (w.heap.size+2) [] noSV noSV noSV Rs.noCfg w.heap.size (cfgA noSV noSV noSV noSV) 33 (w.heap.size+1) (cfgA (some ⟨gg,0,none⟩,v2+1,cap) noSV noSV noSV) 33 (some ⟨gg,0,none⟩,v2+1,cap) (zl++[⟨nm,off,rs⟩]) (W4.setCell ⟨w.heap.size+1,0,none⟩ (.slice (some ⟨gg,0,none⟩) (v2+1) cap)) from HK.out.set3 pZ 0 (.slice (some ⟨gg,0,none⟩) (v2+1) cap))
   clear HK SZ NB y1 y2
   have HM2:Hid ((∀z∈zl++[(⟨nm,off,rs⟩:Rs.Zone)],Rs.MZ z)∧(zl++[(⟨nm,off,rs⟩:Rs.Zone)]).map (·.name)=Rs.nmZ.take (zl++[(⟨nm,off,rs⟩:Rs.Zone)]).length):=Lib.hid ⟨fun z hz=>by
    rcases List.mem_append.1 hz with hz|hz
    ·exact HM.out.1 z hz
    ·simp at hz;subst hz;exact HGD.out,by
    have :=Rs.take_snoc (L:=Rs.nmZ) (ns:=zl.map (·.name)) (x:=nm) (by rw [List.length_map];exact HM.out.2) (by rw [List.length_map,hv];exact HNM.out)
    simpa using this⟩
   go_wp2_with fail
   go_roundw
   case rel=>exact ⟨i-1,zl++[⟨nm,off,rs⟩],(some ⟨gg,0,none⟩,v2+1,cap),by go_num,by omega,by simp;omega,by simp;omega,HM2,HF⟩
   case measure=>simp [intOf];omega
  ·obtain rfl:i=0:=by omega
   have hz1:zl.length=v2:=hv
   have hv21:1≤v2:=by omega
   have hv22:v2≤2:=by omega
   have FP:=Lib.hid (show SK 98 6 ePers PersS w g A n c zs (w.heap.size+2) [] (v1,v2,v3) noSV noSV (⟨zl,[],[],[]⟩:Rs.Cfg) w.heap.size (cfgA noSV noSV noSV noSV) 33 (w.heap.size+1) (cfgA (v1,v2,v3) noSV noSV noSV) 33 noSV [] wr from HK.out.turn ⟨HK.out.rs.row.done (pZ _ _ _ _ HK.out.mvAll) (fun q _ hq=>ex_none hq) (by omega),NestS.nil_ _ _,NestS.nil_ _ _⟩)
   have HV:=Lib.hid hz1
   clear HK hv j1 j2 j3 hi hz1
   go_wp2_with fail
   refine (Next_any g n c A zs 4 _ FP.out.rs.dice (by decide) (by decide)).mono ?_
   rintro e w2 ⟨i3,rfl,i4,i5,g2,D2⟩
   have FP2:=Lib.hid (FP.out.call pP g2 D2)
   clear g2 D2 FP i1 i2
   go_wp2_with fail
   go_loopw [5] (fun vi wr=> ∃(i:Int) (pl:List Rs.Pers) (v:SV),vi= .int .i64 i∧0≤i∧1≤(pl.length:Int)+i∧(pl.length:Int)+i≤4∧Hid ((∀p∈pl,Rs.MP v2 p)∧pl.map (·.name)=Rs.nmP.take pl.length)∧Hid (SK 98 6 ePers PersS w g A n c zs (w.heap.size+2) [] (v1,v2,v3) noSV noSV (⟨zl,[],[],[]⟩:Rs.Cfg) w.heap.size (cfgA noSV noSV noSV noSV) 33 (w.heap.size+1) (cfgA (v1,v2,v3) v noSV noSV) 33 v pl wr)) (fun vi _=>(intOf vi).toNat)
   case atStart=>exact ⟨1+i3,[],noSV,by go_num,by omega,by simp;omega,by simp;omega,Lib.hid ⟨(fun z hz=>by cases hz),rfl⟩,FP2⟩
   case round=>
    clear FP2
    obtain ⟨i,pl,⟨u1,u2,u3⟩,rfl,j1,j2,j3,HN,HK⟩:=hrel
    have hu:=HK.out.rs.row.len
    simp only at hu
    rw [hu] at j2 j3
    by_cases hi:0<i
    ·obtain ⟨nm,hnm⟩:=nm_ex (L:=Rs.nmP) (k:=u2) (by show u2<8;omega)
     have HNM:=Lib.hid hnm
     have hws:=HK.out.rs.lo3
     have b1:(0:Int)≤(u2:Int):=by omega
     have b2:(u2:Int)<8:=by omega
     have b3:u2<8:=by omega
     clear hnm
     go_upto_region 9 with fail
     go_cut [6] (fun p wx=> ∃(bp:Nat) (z0:Int) (bb:Bool),p= .pointer (some ⟨bp,0,none⟩)∧0≤z0∧z0<v2∧Hid (SK 98 6 ePers PersS w g A n c zs (w.heap.size+2) [some bp] (v1,v2,v3) noSV noSV (⟨zl,[],[],[]⟩:Rs.Cfg) w.heap.size (cfgA noSV noSV noSV noSV) 33 (w.heap.size+1) (cfgA (v1,v2,v3) (u1,u2,u3) noSV noSV) 33 (u1,u2,u3) pl wx)∧Hid (BlkAt wx bp #[.string ⟨nm.toArray⟩,.int .i64 z0,.slice none 0 0,.int .i64 0,.int .i64 0,.bool bb] 98))
     case first =>
      refine AnyZ.start 15 (A:=fun W=>Hid (SK 98 6 ePers PersS w g A n c zs (w.heap.size+2) [] (v1,v2,v3) noSV noSV (⟨zl,[],[],[]⟩:Rs.Cfg) w.heap.size (cfgA noSV noSV noSV noSV) 33 (w.heap.size+1) (cfgA (v1,v2,v3) (u1,u2,u3) noSV noSV) 33 (u1,u2,u3) pl W)∧Hid (wr.heap.size≤W.heap.size)) (S:=fun W=>W.cell? ⟨w.heap.size+1,0,none⟩=some (.slice v1 v2 v3)∧W.cell? ⟨w.heap.size+1,1,none⟩=some (.slice u1 u2 u3)) (by kernel_rfl) ⟨Lib.hid (HK.out.drew pP),Lib.hid (Nat.le_refl wr.heap.size)⟩ ⟨(HK.out.drew pP).k3.cell rfl,(HK.out.drew pP).k3.cell rfl⟩ (fun Wa hA hH=> ?_)
      obtain ⟨HK,SZ⟩:=hA
      refine AnyZ.take [15] (i:=1) (oi:=⟨some 39,.fieldAddr 33 (.tmp 3) 1,0,"made.go:169",#[],none⟩) (v:= ?_) rfl (by kernel_rfl) (by kernel_rfl) (by kernel_rfl) (by kernel_rfl) (fun _ _ _ h=>h) (Or.inl ⟨by rfl, ?_⟩) hH ?_
      rotate_left
      focus (intro w hSw;(try dsimp only at hSw);go_simp;(try with_reducible rfl);done)
      try simp only [Act.put,List.setIfInBounds_toArray,List.set_cons_zero,List.set_cons_succ]
      refine AnyZ.take [15] (i:=2) (oi:=⟨some 40,.load 29 (.tmp 39),29,"made.go:169",#[⟨1,.data⟩],none⟩) (v:= ?_) rfl (by kernel_rfl) (by kernel_rfl) (by kernel_rfl) (by kernel_rfl) (fun _ _ _ h=>h) (Or.inl ⟨by rfl, ?_⟩) hH ?_
      rotate_left
      focus (intro w hSw;(try dsimp only at hSw);go_simp;(try with_reducible rfl);done)
      try simp only [Act.put,List.setIfInBounds_toArray,List.set_cons_zero,List.set_cons_succ]
      refine AnyZ.take [15] (i:=3) (oi:=⟨some 41,.call {callee:= .builtin .len,args:=#[.tmp 40],argTypes:=#[29]},3,"made.go:169",#[⟨2,.data⟩],none⟩) (v:= ?_) rfl (by kernel_rfl) (by kernel_rfl) (by kernel_rfl) (by kernel_rfl) (fun _ _ _ h=>h) (Or.inl ⟨by rfl, ?_⟩) hH ?_
      rotate_left
      focus (intro w hSw;(try dsimp only at hSw);go_simp;(try with_reducible rfl);done)
      try simp only [Act.put,List.setIfInBounds_toArray,List.set_cons_zero,List.set_cons_succ]
      refine AnyZ.take [15] (i:=6) (oi:=⟨some 44,.move (.tmp 0),26,"made.go:169",#[],none⟩) (v:= ?_) rfl (by kernel_rfl) (by kernel_rfl) (by kernel_rfl) (by kernel_rfl) (fun _ _ _ h=>h) (Or.inl ⟨by rfl, ?_⟩) hH ?_
      rotate_left
      focus (intro w hSw;(try dsimp only at hSw);go_simp;(try with_reducible rfl);done)
      try simp only [Act.put,List.setIfInBounds_toArray,List.set_cons_zero,List.set_cons_succ]
      refine AnyZ.take [15] (i:=7) (oi:=⟨some 45,.fieldAddr 33 (.tmp 3) 0,0,"made.go:169",#[],none⟩) (v:= ?_) rfl (by kernel_rfl) (by kernel_rfl) (by kernel_rfl) (by kernel_rfl) (fun _ _ _ h=>h) (Or.inl ⟨by rfl, ?_⟩) hH ?_
      rotate_left
      focus (intro w hSw;(try dsimp only at hSw);go_simp;(try with_reducible rfl);done)
      try simp only [Act.put,List.setIfInBounds_toArray,List.set_cons_zero,List.set_cons_succ]
      refine AnyZ.take [15] (i:=8) (oi:=⟨some 46,.load 28 (.tmp 45),28,"made.go:169",#[⟨7,.data⟩],none⟩) (v:= ?_) rfl (by kernel_rfl) (by kernel_rfl) (by kernel_rfl) (by kernel_rfl) (fun _ _ _ h=>h) (Or.inl ⟨by rfl, ?_⟩) hH ?_
      rotate_left
      focus (intro w hSw;(try dsimp only at hSw);go_simp;(try with_reducible rfl);done)
      try simp only [Act.put,List.setIfInBounds_toArray,List.set_cons_zero,List.set_cons_succ]
      refine AnyZ.take [15] (i:=9) (oi:=⟨some 47,.call {callee:= .builtin .len,args:=#[.tmp 46],argTypes:=#[28]},3,"made.go:169",#[⟨8,.data⟩],none⟩) (v:= ?_) rfl (by kernel_rfl) (by kernel_rfl) (by kernel_rfl) (by kernel_rfl) (fun _ _ _ h=>h) (Or.inl ⟨by rfl, ?_⟩) hH ?_
      rotate_left
      focus (intro w hSw;(try dsimp only at hSw);go_simp;(try with_reducible rfl);done)
      try simp only [Act.put,List.setIfInBounds_toArray,List.set_cons_zero,List.set_cons_succ]
      refine AnyZ.take [15] (i:=11) (oi:=⟨some 49,.move (.tmp 0),26,"made.go:169",#[],none⟩) (v:= ?_) rfl (by kernel_rfl) (by kernel_rfl) (by kernel_rfl) (by kernel_rfl) (fun _ _ _ h=>h) (Or.inl ⟨by rfl, ?_⟩) hH ?_
      rotate_left
      focus (intro w hSw;(try dsimp only at hSw);go_simp;(try with_reducible rfl);done)
      try simp only [Act.put,List.setIfInBounds_toArray,List.set_cons_zero,List.set_cons_succ]
      refine AnyZ.ready (rs:=[0,14]) (by kernel_rfl) (by simp) ?_
      refine AllZ.cons (o:=⟨some 38,.call {callee:= .value (.func 36),args:=#[],argTypes:=#[]},86,"made.go:169",#[],none⟩) rfl (fun K hK=> ?_) ?_
      ·have hnb:=SZ.out
       go_simp
       (go_at_call 36;(with_reducible refine (names_any _).mono ?_);rintro e w' ⟨rfl,rfl⟩)
       go_wp2_with fail
       refine AnyZ.go hK (A:=fun W=>Hid (SK 98 6 ePers PersS w g A n c zs (w.heap.size+2) [] (v1,v2,v3) noSV noSV (⟨zl,[],[],[]⟩:Rs.Cfg) w.heap.size (cfgA noSV noSV noSV noSV) 33 (w.heap.size+1) (cfgA (v1,v2,v3) (u1,u2,u3) noSV noSV) 33 (u1,u2,u3) pl W)∧Hid (wr.heap.size≤W.heap.size)∧Hid (BlkAt W Wa.heap.size namesV 9)) (S':=fun W=>W.cell? ⟨w.heap.size+1,0,none⟩=some (.slice v1 v2 v3)∧W.cell? ⟨w.heap.size+1,1,none⟩=some (.slice u1 u2 u3)∧W.cell? ⟨Wa.heap.size,u2,none⟩=some (.string ⟨nm.toArray⟩)) (fun _ h=>⟨h.1,h.2.1⟩) ⟨Lib.hid ((HK.out).below pP ((Below.refl _ _).alloc (Nat.le_refl _) _)),Lib.hid (Nat.le_trans (SZ.out) (((Below.refl _ _).alloc (Nat.le_refl _) _):Below _ _ _).size),Lib.hid ((blk_now rfl))⟩ ⟨((HK.out).below pP ((Below.refl _ _).alloc (Nat.le_refl _) _)).k3.cell rfl,((HK.out).below pP ((Below.refl _ _).alloc (Nat.le_refl _) _)).k3.cell rfl,((blk_now rfl)).cell (names_at HNM.out)⟩ (fun W1 hA hH2=> ?_)
       clear hK K hH HK SZ
       obtain ⟨HK,SZ,NB⟩:=hA
       have hH:=hH2
       clear hH2
       try simp only [Act.put,List.setIfInBounds_toArray,List.set_cons_zero,List.set_cons_succ]
       refine AnyZ.take [15] (i:=4) (oi:=⟨some 42,.indexAddr 86 (.tmp 38) (.tmp 41),0,"made.go:169",#[⟨0,.data⟩,⟨3,.data⟩],none⟩) (v:= ?_) rfl (by kernel_rfl) (by kernel_rfl) (by kernel_rfl) (by kernel_rfl) (fun _ _ _ h=>h) (Or.inl ⟨by rfl, ?_⟩) hH ?_
       rotate_left
       focus (intro w hSw;(try dsimp only at hSw);go_simp;(try with_reducible rfl);done)
       try simp only [Act.put,List.setIfInBounds_toArray,List.set_cons_zero,List.set_cons_succ]
       refine AnyZ.take [15] (i:=5) (oi:=⟨some 43,.load 9 (.tmp 42),9,"made.go:169",#[⟨4,.data⟩],none⟩) (v:= ?_) rfl (by kernel_rfl) (by kernel_rfl) (by kernel_rfl) (by kernel_rfl) (fun _ _ _ h=>h) (Or.inl ⟨by rfl, ?_⟩) hH ?_
       rotate_left
       focus (intro w hSw;(try dsimp only at hSw);go_simp;(try with_reducible rfl);done)
       try simp only [Act.put,List.setIfInBounds_toArray,List.set_cons_zero,List.set_cons_succ]
       refine AnyZ.ready (rs:=[10,14]) (by kernel_rfl) (by simp) ?_
       refine AllZ.cons (o:=⟨some 48,.call {callee:= .value (.func 32),args:=#[.tmp 44,.tmp 47],argTypes:=#[26,3]},3,"made.go:169",#[⟨6,.data⟩,⟨9,.data⟩,⟨0,.chain⟩],none⟩) rfl (fun K hK=> ?_) ?_
       ·go_simp
        (go_at_call 32;(with_reducible refine (Next_any g n c A zs _ _ HK.out.rs.dice (by omega) (by omega)).mono ?_);rintro e w' ⟨z0,rfl,hz0,hz1,hg2,hD2⟩)
        go_wp2_with fail
        refine AnyZ.go hK (A:=fun W=>Hid (SK 98 6 ePers PersS w g A n c zs (w.heap.size+2) [] (v1,v2,v3) noSV noSV (⟨zl,[],[],[]⟩:Rs.Cfg) w.heap.size (cfgA noSV noSV noSV noSV) 33 (w.heap.size+1) (cfgA (v1,v2,v3) (u1,u2,u3) noSV noSV) 33 (u1,u2,u3) pl W)∧Hid (wr.heap.size≤W.heap.size)∧Hid (BlkAt W Wa.heap.size namesV 9)) (S':=fun W=>W.cell? ⟨w.heap.size+1,0,none⟩=some (.slice v1 v2 v3)∧W.cell? ⟨w.heap.size+1,1,none⟩=some (.slice u1 u2 u3)∧W.cell? ⟨Wa.heap.size,u2,none⟩=some (.string ⟨nm.toArray⟩)) (fun _ h=>h) ⟨Lib.hid ((HK.out).call pP hg2 hD2),Lib.hid (Nat.le_trans (SZ.out) hg2.size),Lib.hid ((NB.out).grown hg2 (by intro e;cases e;omega))⟩ ⟨((HK.out).call pP hg2 hD2).k3.cell rfl,((HK.out).call pP hg2 hD2).k3.cell rfl,((NB.out).grown hg2 (by intro e;cases e;omega)).cell (names_at HNM.out)⟩ (fun W2 hA hH2=> ?_)
        clear hK K hH HK SZ NB
        obtain ⟨HK,SZ,NB⟩:=hA
        have hH:=hH2
        clear hH2
        clear hg2 hD2
        try simp only [Act.put,List.setIfInBounds_toArray,List.set_cons_zero,List.set_cons_succ]
        refine AnyZ.ready (rs:=[12,14]) (by kernel_rfl) (by simp) ?_
        refine AllZ.cons (o:=⟨some 50,.call {callee:= .value (.func 38),args:=#[.tmp 49,.const (.int .i64 3)],argTypes:=#[26,3]},4,"made.go:169",#[⟨11,.data⟩,⟨10,.chain⟩],none⟩) rfl (fun K hK=> ?_) ?_
        ·go_simp
         (go_at_call 38;(with_reducible refine (Bool_any g n c A zs 3 _ HK.out.rs.dice (by decide) (by decide)).mono ?_);rintro e w' ⟨bb,rfl,hg2,hD2⟩)
         go_wp2_with fail
         refine AnyZ.go hK (A:=fun W=>Hid (SK 98 6 ePers PersS w g A n c zs (w.heap.size+2) [] (v1,v2,v3) noSV noSV (⟨zl,[],[],[]⟩:Rs.Cfg) w.heap.size (cfgA noSV noSV noSV noSV) 33 (w.heap.size+1) (cfgA (v1,v2,v3) (u1,u2,u3) noSV noSV) 33 (u1,u2,u3) pl W)∧Hid (wr.heap.size≤W.heap.size)∧Hid (BlkAt W Wa.heap.size namesV 9)) (S':=fun W=>W.cell? ⟨w.heap.size+1,0,none⟩=some (.slice v1 v2 v3)∧W.cell? ⟨w.heap.size+1,1,none⟩=some (.slice u1 u2 u3)∧W.cell? ⟨Wa.heap.size,u2,none⟩=some (.string ⟨nm.toArray⟩)) (fun _ h=>h) ⟨Lib.hid ((HK.out).call pP hg2 hD2),Lib.hid (Nat.le_trans (SZ.out) hg2.size),Lib.hid ((NB.out).grown hg2 (by intro e;cases e;omega))⟩ ⟨((HK.out).call pP hg2 hD2).k3.cell rfl,((HK.out).call pP hg2 hD2).k3.cell rfl,((NB.out).grown hg2 (by intro e;cases e;omega)).cell (names_at HNM.out)⟩ (fun W3 hA hH2=> ?_)
         clear hK K hH HK SZ NB
         obtain ⟨HK,SZ,NB⟩:=hA
         have hH:=hH2
         clear hH2
         clear hg2 hD2
         try simp only [Act.put,List.setIfInBounds_toArray,List.set_cons_zero,List.set_cons_succ]
         refine AnyZ.take [15] (i:=13) (oi:=⟨some 51,.build 98 #[(0,.tmp 43),(1,.tmp 48),(5,.tmp 50)],98,"made.go:169",#[⟨5,.data⟩,⟨10,.data⟩,⟨12,.data⟩],none⟩) (v:= ?_) rfl (by kernel_rfl) (by kernel_rfl) (by kernel_rfl) (by kernel_rfl) (fun _ _ _ h=>h) (Or.inl ⟨by rfl, ?_⟩) hH ?_
         rotate_left
         focus (intro w hSw;(try dsimp only at hSw);go_simp;(try with_reducible rfl);done)
         try simp only [Act.put,List.setIfInBounds_toArray,List.set_cons_zero,List.set_cons_succ]
         refine AnyZ.ready (rs:=[14]) (by kernel_rfl) (by simp) ?_
         refine AllZ.cons (o:=⟨some 6,.alloc 98,0,"made.go:169",#[],none⟩) rfl (fun K hK=> ?_) AllZ.nil
         have hpb:=SZ.out
         go_simp
         refine AnyZ.go hK (A:=fun W=>Hid (wr.heap.size≤W.heap.size)∧Hid (BlkAt W Wa.heap.size namesV 9)∧Hid (SK 98 6 ePers PersS w g A n c zs (w.heap.size+2) [some W3.heap.size] (v1,v2,v3) noSV noSV (⟨zl,[],[],[]⟩:Rs.Cfg) w.heap.size (cfgA noSV noSV noSV noSV) 33 (w.heap.size+1) (cfgA (v1,v2,v3) (u1,u2,u3) noSV noSV) 33 (u1,u2,u3) pl W)∧Hid (BlkAt W W3.heap.size #[.string ⟨#[]⟩,.int .i64 0,.slice none 0 0,.int .i64 0,.int .i64 0,.bool false] 98)) (S':=fun W=>W.cell? ⟨w.heap.size+1,0,none⟩=some (.slice v1 v2 v3)∧W.cell? ⟨w.heap.size+1,1,none⟩=some (.slice u1 u2 u3)∧W.cell? ⟨Wa.heap.size,u2,none⟩=some (.string ⟨nm.toArray⟩)) (fun _ h=>h) ⟨Lib.hid (Nat.le_trans (SZ.out) (((Below.refl _ _).alloc (Nat.le_refl _) _):Below _ _ _).size),Lib.hid ((NB.out).after ((Below.refl _ _).alloc (Nat.le_refl _) _)),Lib.hid (HK.out.exnew pP ((Below.refl _ _).alloc (Nat.le_refl _) _) rfl),Lib.hid ((blk_now rfl))⟩ ⟨(HK.out.exnew pP ((Below.refl _ _).alloc (Nat.le_refl _) _) rfl).k3.cell rfl,(HK.out.exnew pP ((Below.refl _ _).alloc (Nat.le_refl _) _) rfl).k3.cell rfl,((NB.out).after ((Below.refl _ _).alloc (Nat.le_refl _) _)).cell (names_at HNM.out)⟩ (fun W4 hA hH2=> ?_)
         clear hK K hH HK SZ NB
         obtain ⟨SZ,NB,HK,PB⟩:=hA
         have hH:=hH2
         clear hH2
         try simp only [Act.put,List.setIfInBounds_toArray,List.set_cons_zero,List.set_cons_succ]
         refine AnyZ.last (o:=⟨none,.store 98 (.tmp 6) (.tmp 51),0,"made.go:169",#[⟨14,.data⟩,⟨13,.data⟩,⟨12,.chain⟩,⟨0,.phase⟩,⟨1,.phase⟩,⟨2,.phase⟩,⟨3,.phase⟩,⟨4,.phase⟩,⟨5,.phase⟩,⟨6,.phase⟩,⟨7,.phase⟩,⟨8,.phase⟩,⟨9,.phase⟩,⟨10,.phase⟩,⟨11,.phase⟩,⟨12,.phase⟩,⟨13,.phase⟩,⟨14,.phase⟩],none⟩) (by kernel_rfl) rfl (fun K hK=> ?_)
         have p0:=PB.out.cell (i:=0) rfl
         have p1:=PB.out.cell (i:=1) rfl
         have p2:=PB.out.cell (i:=2) rfl
         have p3:=PB.out.cell (i:=3) rfl
         have p4:=PB.out.cell (i:=4) rfl
         have p5:=PB.out.cell (i:=5) rfl
         have f0:=PB.out.free 0
         have f1:=PB.out.free 1
         have f2:=PB.out.free 2
         have f3:=PB.out.free 3
         have f4:=PB.out.free 4
         have f5:=PB.out.free 5
         go_simp
         refine hK.out _ _ ?_
         clear hK K hH
         try simp only [Act.put,List.setIfInBounds_toArray,List.set_cons_zero,List.set_cons_succ]
         refine AnyZ.done (by kernel_rfl) ?_ _
         clear p0 p1 p2 p3 p4 p5 f0 f1 f2 f3 f4 f5
         go_wp2_with fail
         go_meet
         exact ⟨W3.heap.size,z0,bb,rfl,hz0,hz1,Lib.hid ((((((HK.out.setx pP (List.mem_cons_self) (by omega) (by omega) 0 (.string ⟨nm.toArray⟩)).setx pP (List.mem_cons_self) (by omega) (by omega) 1 (.int .i64 z0)).setx pP (List.mem_cons_self) (by omega) (by omega) 2 (.slice none 0 0)).setx pP (List.mem_cons_self) (by omega) (by omega) 3 (.int .i64 0)).setx pP (List.mem_cons_self) (by omega) (by omega) 4 (.int .i64 0)).setx pP (List.mem_cons_self) (by omega) (by omega) 5 (.bool bb)),Lib.hid ((((((PB.out.set_ 0 (.string ⟨nm.toArray⟩)).set_ 1 (.int .i64 z0)).set_ 2 (.slice none 0 0)).set_ 3 (.int .i64 0)).set_ 4 (.int .i64 0)).set_ 5 (.bool bb))⟩
        refine AllZ.cons (o:=⟨some 6,.alloc 98,0,"made.go:169",#[],none⟩) rfl (fun K hK=> ?_) AllZ.nil
        have hpb:=SZ.out
        go_simp
        refine AnyZ.go hK (A:=fun W=>Hid (wr.heap.size≤W.heap.size)∧Hid (BlkAt W Wa.heap.size namesV 9)∧Hid (SK 98 6 ePers PersS w g A n c zs (w.heap.size+2) [some W2.heap.size] (v1,v2,v3) noSV noSV (⟨zl,[],[],[]⟩:Rs.Cfg) w.heap.size (cfgA noSV noSV noSV noSV) 33 (w.heap.size+1) (cfgA (v1,v2,v3) (u1,u2,u3) noSV noSV) 33 (u1,u2,u3) pl W)∧Hid (BlkAt W W2.heap.size #[.string ⟨#[]⟩,.int .i64 0,.slice none 0 0,.int .i64 0,.int .i64 0,.bool false] 98)) (S':=fun W=>W.cell? ⟨w.heap.size+1,0,none⟩=some (.slice v1 v2 v3)∧W.cell? ⟨w.heap.size+1,1,none⟩=some (.slice u1 u2 u3)∧W.cell? ⟨Wa.heap.size,u2,none⟩=some (.string ⟨nm.toArray⟩)) (fun _ h=>h) ⟨Lib.hid (Nat.le_trans (SZ.out) (((Below.refl _ _).alloc (Nat.le_refl _) _):Below _ _ _).size),Lib.hid ((NB.out).after ((Below.refl _ _).alloc (Nat.le_refl _) _)),Lib.hid (HK.out.exnew pP ((Below.refl _ _).alloc (Nat.le_refl _) _) rfl),Lib.hid ((blk_now rfl))⟩ ⟨(HK.out.exnew pP ((Below.refl _ _).alloc (Nat.le_refl _) _) rfl).k3.cell rfl,(HK.out.exnew pP ((Below.refl _ _).alloc (Nat.le_refl _) _) rfl).k3.cell rfl,((NB.out).after ((Below.refl _ _).alloc (Nat.le_refl _) _)).cell (names_at HNM.out)⟩ (fun W5 hA hH2=> ?_)
        clear hK K hH HK SZ NB
        obtain ⟨SZ,NB,HK,PB⟩:=hA
        have hH:=hH2
        clear hH2
        try simp only [Act.put,List.setIfInBounds_toArray,List.set_cons_zero,List.set_cons_succ]
        refine AnyZ.ready (rs:=[12]) (by kernel_rfl) (by simp) ?_
        refine AllZ.cons (o:=⟨some 50,.call {callee:= .value (.func 38),args:=#[.tmp 49,.const (.int .i64 3)],argTypes:=#[26,3]},4,"made.go:169",#[⟨11,.data⟩,⟨10,.chain⟩],none⟩) rfl (fun K hK=> ?_) AllZ.nil
        go_simp
        (go_at_call 38;(with_reducible refine (Bool_any g n c A zs 3 _ HK.out.rs.dice (by decide) (by decide)).mono ?_);rintro e w' ⟨bb,rfl,hg2,hD2⟩)
        go_wp2_with fail
        refine AnyZ.go hK (A:=fun W=>Hid (wr.heap.size≤W.heap.size)∧Hid (BlkAt W Wa.heap.size namesV 9)∧Hid (SK 98 6 ePers PersS w g A n c zs (w.heap.size+2) [some W2.heap.size] (v1,v2,v3) noSV noSV (⟨zl,[],[],[]⟩:Rs.Cfg) w.heap.size (cfgA noSV noSV noSV noSV) 33 (w.heap.size+1) (cfgA (v1,v2,v3) (u1,u2,u3) noSV noSV) 33 (u1,u2,u3) pl W)∧Hid (BlkAt W W2.heap.size #[.string ⟨#[]⟩,.int .i64 0,.slice none 0 0,.int .i64 0,.int .i64 0,.bool false] 98)) (S':=fun W=>W.cell? ⟨w.heap.size+1,0,none⟩=some (.slice v1 v2 v3)∧W.cell? ⟨w.heap.size+1,1,none⟩=some (.slice u1 u2 u3)∧W.cell? ⟨Wa.heap.size,u2,none⟩=some (.string ⟨nm.toArray⟩)) (fun _ h=>h) ⟨Lib.hid (Nat.le_trans (SZ.out) hg2.size),Lib.hid ((NB.out).grown hg2 (by intro e;cases e;omega)),Lib.hid ((HK.out).call pP hg2 hD2),Lib.hid ((PB.out).grown hg2 (by intro e;cases e;omega))⟩ ⟨((HK.out).call pP hg2 hD2).k3.cell rfl,((HK.out).call pP hg2 hD2).k3.cell rfl,((NB.out).grown hg2 (by intro e;cases e;omega)).cell (names_at HNM.out)⟩ (fun W6 hA hH2=> ?_)
        clear hK K hH SZ NB HK PB
        obtain ⟨SZ,NB,HK,PB⟩:=hA
        have hH:=hH2
        clear hH2
        clear hg2 hD2
        try simp only [Act.put,List.setIfInBounds_toArray,List.set_cons_zero,List.set_cons_succ]
        refine AnyZ.take [15] (i:=13) (oi:=⟨some 51,.build 98 #[(0,.tmp 43),(1,.tmp 48),(5,.tmp 50)],98,"made.go:169",#[⟨5,.data⟩,⟨10,.data⟩,⟨12,.data⟩],none⟩) (v:= ?_) rfl (by kernel_rfl) (by kernel_rfl) (by kernel_rfl) (by kernel_rfl) (fun _ _ _ h=>h) (Or.inl ⟨by rfl, ?_⟩) hH ?_
        rotate_left
        focus (intro w hSw;(try dsimp only at hSw);go_simp;(try with_reducible rfl);done)
        try simp only [Act.put,List.setIfInBounds_toArray,List.set_cons_zero,List.set_cons_succ]
        refine AnyZ.last (o:=⟨none,.store 98 (.tmp 6) (.tmp 51),0,"made.go:169",#[⟨14,.data⟩,⟨13,.data⟩,⟨12,.chain⟩,⟨0,.phase⟩,⟨1,.phase⟩,⟨2,.phase⟩,⟨3,.phase⟩,⟨4,.phase⟩,⟨5,.phase⟩,⟨6,.phase⟩,⟨7,.phase⟩,⟨8,.phase⟩,⟨9,.phase⟩,⟨10,.phase⟩,⟨11,.phase⟩,⟨12,.phase⟩,⟨13,.phase⟩,⟨14,.phase⟩],none⟩) (by kernel_rfl) rfl (fun K hK=> ?_)
        have p0:=PB.out.cell (i:=0) rfl
        have p1:=PB.out.cell (i:=1) rfl
        have p2:=PB.out.cell (i:=2) rfl
        have p3:=PB.out.cell (i:=3) rfl
        have p4:=PB.out.cell (i:=4) rfl
        have p5:=PB.out.cell (i:=5) rfl
        have f0:=PB.out.free 0
        have f1:=PB.out.free 1
        have f2:=PB.out.free 2
        have f3:=PB.out.free 3
        have f4:=PB.out.free 4
        have f5:=PB.out.free 5
        go_simp
        refine hK.out _ _ ?_
        clear hK K hH
        try simp only [Act.put,List.setIfInBounds_toArray,List.set_cons_zero,List.set_cons_succ]
        refine AnyZ.done (by kernel_rfl) ?_ _
        clear p0 p1 p2 p3 p4 p5 f0 f1 f2 f3 f4 f5
        go_wp2_with fail
        go_meet
        exact ⟨W2.heap.size,z0,bb,rfl,hz0,hz1,Lib.hid ((((((HK.out.setx pP (List.mem_cons_self) (by omega) (by omega) 0 (.string ⟨nm.toArray⟩)).setx pP (List.mem_cons_self) (by omega) (by omega) 1 (.int .i64 z0)).setx pP (List.mem_cons_self) (by omega) (by omega) 2 (.slice none 0 0)).setx pP (List.mem_cons_self) (by omega) (by omega) 3 (.int .i64 0)).setx pP (List.mem_cons_self) (by omega) (by omega) 4 (.int .i64 0)).setx pP (List.mem_cons_self) (by omega) (by omega) 5 (.bool bb)),Lib.hid ((((((PB.out.set_ 0 (.string ⟨nm.toArray⟩)).set_ 1 (.int .i64 z0)).set_ 2 (.slice none 0 0)).set_ 3 (.int .i64 0)).set_ 4 (.int .i64 0)).set_ 5 (.bool bb))⟩
       refine AllZ.cons (o:=⟨some 6,.alloc 98,0,"made.go:169",#[],none⟩) rfl (fun K hK=> ?_) AllZ.nil
       have hpb:=SZ.out
       go_simp
       refine AnyZ.go hK (A:=fun W=>Hid (wr.heap.size≤W.heap.size)∧Hid (BlkAt W Wa.heap.size namesV 9)∧Hid (SK 98 6 ePers PersS w g A n c zs (w.heap.size+2) [some W1.heap.size] (v1,v2,v3) noSV noSV (⟨zl,[],[],[]⟩:Rs.Cfg) w.heap.size (cfgA noSV noSV noSV noSV) 33 (w.heap.size+1) (cfgA (v1,v2,v3) (u1,u2,u3) noSV noSV) 33 (u1,u2,u3) pl W)∧Hid (BlkAt W W1.heap.size #[.string ⟨#[]⟩,.int .i64 0,.slice none 0 0,.int .i64 0,.int .i64 0,.bool false] 98)) (S':=fun W=>W.cell? ⟨w.heap.size+1,0,none⟩=some (.slice v1 v2 v3)∧W.cell? ⟨w.heap.size+1,1,none⟩=some (.slice u1 u2 u3)∧W.cell? ⟨Wa.heap.size,u2,none⟩=some (.string ⟨nm.toArray⟩)) (fun _ h=>h) ⟨Lib.hid (Nat.le_trans (SZ.out) (((Below.refl _ _).alloc (Nat.le_refl _) _):Below _ _ _).size),Lib.hid ((NB.out).after ((Below.refl _ _).alloc (Nat.le_refl _) _)),Lib.hid (HK.out.exnew pP ((Below.refl _ _).alloc (Nat.le_refl _) _) rfl),Lib.hid ((blk_now rfl))⟩ ⟨(HK.out.exnew pP ((Below.refl _ _).alloc (Nat.le_refl _) _) rfl).k3.cell rfl,(HK.out.exnew pP ((Below.refl _ _).alloc (Nat.le_refl _) _) rfl).k3.cell rfl,((NB.out).after ((Below.refl _ _).alloc (Nat.le_refl _) _)).cell (names_at HNM.out)⟩ (fun W7 hA hH2=> ?_)
       clear hK K hH HK SZ NB
       obtain ⟨SZ,NB,HK,PB⟩:=hA
       have hH:=hH2
       clear hH2
       try simp only [Act.put,List.setIfInBounds_toArray,List.set_cons_zero,List.set_cons_succ]
       refine AnyZ.ready (rs:=[10]) (by kernel_rfl) (by simp) ?_
       refine AllZ.cons (o:=⟨some 48,.call {callee:= .value (.func 32),args:=#[.tmp 44,.tmp 47],argTypes:=#[26,3]},3,"made.go:169",#[⟨6,.data⟩,⟨9,.data⟩,⟨0,.chain⟩],none⟩) rfl (fun K hK=> ?_) AllZ.nil
       go_simp
       (go_at_call 32;(with_reducible refine (Next_any g n c A zs _ _ HK.out.rs.dice (by omega) (by omega)).mono ?_);rintro e w' ⟨z0,rfl,hz0,hz1,hg2,hD2⟩)
       go_wp2_with fail
       refine AnyZ.go hK (A:=fun W=>Hid (wr.heap.size≤W.heap.size)∧Hid (BlkAt W Wa.heap.size namesV 9)∧Hid (SK 98 6 ePers PersS w g A n c zs (w.heap.size+2) [some W1.heap.size] (v1,v2,v3) noSV noSV (⟨zl,[],[],[]⟩:Rs.Cfg) w.heap.size (cfgA noSV noSV noSV noSV) 33 (w.heap.size+1) (cfgA (v1,v2,v3) (u1,u2,u3) noSV noSV) 33 (u1,u2,u3) pl W)∧Hid (BlkAt W W1.heap.size #[.string ⟨#[]⟩,.int .i64 0,.slice none 0 0,.int .i64 0,.int .i64 0,.bool false] 98)) (S':=fun W=>W.cell? ⟨w.heap.size+1,0,none⟩=some (.slice v1 v2 v3)∧W.cell? ⟨w.heap.size+1,1,none⟩=some (.slice u1 u2 u3)∧W.cell? ⟨Wa.heap.size,u2,none⟩=some (.string ⟨nm.toArray⟩)) (fun _ h=>h) ⟨Lib.hid (Nat.le_trans (SZ.out) hg2.size),Lib.hid ((NB.out).grown hg2 (by intro e;cases e;omega)),Lib.hid ((HK.out).call pP hg2 hD2),Lib.hid ((PB.out).grown hg2 (by intro e;cases e;omega))⟩ ⟨((HK.out).call pP hg2 hD2).k3.cell rfl,((HK.out).call pP hg2 hD2).k3.cell rfl,((NB.out).grown hg2 (by intro e;cases e;omega)).cell (names_at HNM.out)⟩ (fun W8 hA hH2=> ?_)
       clear hK K hH SZ NB HK PB
       obtain ⟨SZ,NB,HK,PB⟩:=hA
       have hH:=hH2
       clear hH2
       clear hg2 hD2
       try simp only [Act.put,List.setIfInBounds_toArray,List.set_cons_zero,List.set_cons_succ]
       refine AnyZ.ready (rs:=[12]) (by kernel_rfl) (by simp) ?_
       refine AllZ.cons (o:=⟨some 50,.call {callee:= .value (.func 38),args:=#[.tmp 49,.const (.int .i64 3)],argTypes:=#[26,3]},4,"made.go:169",#[⟨11,.data⟩,⟨10,.chain⟩],none⟩) rfl (fun K hK=> ?_) AllZ.nil
       go_simp
       (go_at_call 38;(with_reducible refine (Bool_any g n c A zs 3 _ HK.out.rs.dice (by decide) (by decide)).mono ?_);rintro e w' ⟨bb,rfl,hg2,hD2⟩)
       go_wp2_with fail
       refine AnyZ.go hK (A:=fun W=>Hid (wr.heap.size≤W.heap.size)∧Hid (BlkAt W Wa.heap.size namesV 9)∧Hid (SK 98 6 ePers PersS w g A n c zs (w.heap.size+2) [some W1.heap.size] (v1,v2,v3) noSV noSV (⟨zl,[],[],[]⟩:Rs.Cfg) w.heap.size (cfgA noSV noSV noSV noSV) 33 (w.heap.size+1) (cfgA (v1,v2,v3) (u1,u2,u3) noSV noSV) 33 (u1,u2,u3) pl W)∧Hid (BlkAt W W1.heap.size #[.string ⟨#[]⟩,.int .i64 0,.slice none 0 0,.int .i64 0,.int .i64 0,.bool false] 98)) (S':=fun W=>W.cell? ⟨w.heap.size+1,0,none⟩=some (.slice v1 v2 v3)∧W.cell? ⟨w.heap.size+1,1,none⟩=some (.slice u1 u2 u3)∧W.cell? ⟨Wa.heap.size,u2,none⟩=some (.string ⟨nm.toArray⟩)) (fun _ h=>h) ⟨Lib.hid (Nat.le_trans (SZ.out) hg2.size),Lib.hid ((NB.out).grown hg2 (by intro e;cases e;omega)),Lib.hid ((HK.out).call pP hg2 hD2),Lib.hid ((PB.out).grown hg2 (by intro e;cases e;omega))⟩ ⟨((HK.out).call pP hg2 hD2).k3.cell rfl,((HK.out).call pP hg2 hD2).k3.cell rfl,((NB.out).grown hg2 (by intro e;cases e;omega)).cell (names_at HNM.out)⟩ (fun W9 hA hH2=> ?_)
       clear hK K hH SZ NB HK PB
       obtain ⟨SZ,NB,HK,PB⟩:=hA
       have hH:=hH2
       clear hH2
       clear hg2 hD2
       try simp only [Act.put,List.setIfInBounds_toArray,List.set_cons_zero,List.set_cons_succ]
       refine AnyZ.take [15] (i:=13) (oi:=⟨some 51,.build 98 #[(0,.tmp 43),(1,.tmp 48),(5,.tmp 50)],98,"made.go:169",#[⟨5,.data⟩,⟨10,.data⟩,⟨12,.data⟩],none⟩) (v:= ?_) rfl (by kernel_rfl) (by kernel_rfl) (by kernel_rfl) (by kernel_rfl) (fun _ _ _ h=>h) (Or.inl ⟨by rfl, ?_⟩) hH ?_
       rotate_left
       focus (intro w hSw;(try dsimp only at hSw);go_simp;(try with_reducible rfl);done)
       try simp only [Act.put,List.setIfInBounds_toArray,List.set_cons_zero,List.set_cons_succ]
       refine AnyZ.last (o:=⟨none,.store 98 (.tmp 6) (.tmp 51),0,"made.go:169",#[⟨14,.data⟩,⟨13,.data⟩,⟨12,.chain⟩,⟨0,.phase⟩,⟨1,.phase⟩,⟨2,.phase⟩,⟨3,.phase⟩,⟨4,.phase⟩,⟨5,.phase⟩,⟨6,.phase⟩,⟨7,.phase⟩,⟨8,.phase⟩,⟨9,.phase⟩,⟨10,.phase⟩,⟨11,.phase⟩,⟨12,.phase⟩,⟨13,.phase⟩,⟨14,.phase⟩],none⟩) (by kernel_rfl) rfl (fun K hK=> ?_)
       have p0:=PB.out.cell (i:=0) rfl
       have p1:=PB.out.cell (i:=1) rfl
       have p2:=PB.out.cell (i:=2) rfl
       have p3:=PB.out.cell (i:=3) rfl
       have p4:=PB.out.cell (i:=4) rfl
       have p5:=PB.out.cell (i:=5) rfl
       have f0:=PB.out.free 0
       have f1:=PB.out.free 1
       have f2:=PB.out.free 2
       have f3:=PB.out.free 3
       have f4:=PB.out.free 4
       have f5:=PB.out.free 5
       go_simp
       refine hK.out _ _ ?_
       clear hK K hH
       try simp only [Act.put,List.setIfInBounds_toArray,List.set_cons_zero,List.set_cons_succ]
       refine AnyZ.done (by kernel_rfl) ?_ _
       clear p0 p1 p2 p3 p4 p5 f0 f1 f2 f3 f4 f5
       go_wp2_with fail
       go_meet
       exact ⟨W1.heap.size,z0,bb,rfl,hz0,hz1,Lib.hid ((((((HK.out.setx pP (List.mem_cons_self) (by omega) (by omega) 0 (.string ⟨nm.toArray⟩)).setx pP (List.mem_cons_self) (by omega) (by omega) 1 (.int .i64 z0)).setx pP (List.mem_cons_self) (by omega) (by omega) 2 (.slice none 0 0)).setx pP (List.mem_cons_self) (by omega) (by omega) 3 (.int .i64 0)).setx pP (List.mem_cons_self) (by omega) (by omega) 4 (.int .i64 0)).setx pP (List.mem_cons_self) (by omega) (by omega) 5 (.bool bb)),Lib.hid ((((((PB.out.set_ 0 (.string ⟨nm.toArray⟩)).set_ 1 (.int .i64 z0)).set_ 2 (.slice none 0 0)).set_ 3 (.int .i64 0)).set_ 4 (.int .i64 0)).set_ 5 (.bool bb))⟩
      refine AllZ.cons (o:=⟨some 6,.alloc 98,0,"made.go:169",#[],none⟩) rfl (fun K hK=> ?_) AllZ.nil
      have hpb:=SZ.out
      go_simp
      refine AnyZ.go hK (A:=fun W=>Hid (wr.heap.size≤W.heap.size)∧Hid (SK 98 6 ePers PersS w g A n c zs (w.heap.size+2) [some Wa.heap.size] (v1,v2,v3) noSV noSV (⟨zl,[],[],[]⟩:Rs.Cfg) w.heap.size (cfgA noSV noSV noSV noSV) 33 (w.heap.size+1) (cfgA (v1,v2,v3) (u1,u2,u3) noSV noSV) 33 (u1,u2,u3) pl W)∧Hid (BlkAt W Wa.heap.size #[.string ⟨#[]⟩,.int .i64 0,.slice none 0 0,.int .i64 0,.int .i64 0,.bool false] 98)) (S':=fun W=>W.cell? ⟨w.heap.size+1,0,none⟩=some (.slice v1 v2 v3)∧W.cell? ⟨w.heap.size+1,1,none⟩=some (.slice u1 u2 u3)) (fun _ h=>h) ⟨Lib.hid (Nat.le_trans (SZ.out) (((Below.refl _ _).alloc (Nat.le_refl _) _):Below _ _ _).size),Lib.hid (HK.out.exnew pP ((Below.refl _ _).alloc (Nat.le_refl _) _) rfl),Lib.hid ((blk_now rfl))⟩ ⟨(HK.out.exnew pP ((Below.refl _ _).alloc (Nat.le_refl _) _) rfl).k3.cell rfl,(HK.out.exnew pP ((Below.refl _ _).alloc (Nat.le_refl _) _) rfl).k3.cell rfl⟩ (fun W10 hA hH2=> ?_)
      clear hK K hH HK SZ
      obtain ⟨SZ,HK,PB⟩:=hA
      have hH:=hH2
      clear hH2
      try simp only [Act.put,List.setIfInBounds_toArray,List.set_cons_zero,List.set_cons_succ]
      refine AnyZ.ready (rs:=[0]) (by kernel_rfl) (by simp) ?_
      refine AllZ.cons (o:=⟨some 38,.call {callee:= .value (.func 36),args:=#[],argTypes:=#[]},86,"made.go:169",#[],none⟩) rfl (fun K hK=> ?_) AllZ.nil
      have hnb:=SZ.out
      go_simp
      (go_at_call 36;(with_reducible refine (names_any _).mono ?_);rintro e w' ⟨rfl,rfl⟩)
      go_wp2_with fail
      refine AnyZ.go hK (A:=fun W=>Hid (wr.heap.size≤W.heap.size)∧Hid (SK 98 6 ePers PersS w g A n c zs (w.heap.size+2) [some Wa.heap.size] (v1,v2,v3) noSV noSV (⟨zl,[],[],[]⟩:Rs.Cfg) w.heap.size (cfgA noSV noSV noSV noSV) 33 (w.heap.size+1) (cfgA (v1,v2,v3) (u1,u2,u3) noSV noSV) 33 (u1,u2,u3) pl W)∧Hid (BlkAt W Wa.heap.size #[.string ⟨#[]⟩,.int .i64 0,.slice none 0 0,.int .i64 0,.int .i64 0,.bool false] 98)∧Hid (BlkAt W W10.heap.size namesV 9)) (S':=fun W=>W.cell? ⟨w.heap.size+1,0,none⟩=some (.slice v1 v2 v3)∧W.cell? ⟨w.heap.size+1,1,none⟩=some (.slice u1 u2 u3)∧W.cell? ⟨W10.heap.size,u2,none⟩=some (.string ⟨nm.toArray⟩)) (fun _ h=>⟨h.1,h.2.1⟩) ⟨Lib.hid (Nat.le_trans (SZ.out) (((Below.refl _ _).alloc (Nat.le_refl _) _):Below _ _ _).size),Lib.hid ((HK.out).below pP ((Below.refl _ _).alloc (Nat.le_refl _) _)),Lib.hid ((PB.out).after ((Below.refl _ _).alloc (Nat.le_refl _) _)),Lib.hid ((blk_now rfl))⟩ ⟨((HK.out).below pP ((Below.refl _ _).alloc (Nat.le_refl _) _)).k3.cell rfl,((HK.out).below pP ((Below.refl _ _).alloc (Nat.le_refl _) _)).k3.cell rfl,((blk_now rfl)).cell (names_at HNM.out)⟩ (fun W11 hA hH2=> ?_)
      clear hK K hH SZ HK PB
      obtain ⟨SZ,HK,PB,NB⟩:=hA
      have hH:=hH2
      clear hH2
      try simp only [Act.put,List.setIfInBounds_toArray,List.set_cons_zero,List.set_cons_succ]
      refine AnyZ.take [15] (i:=4) (oi:=⟨some 42,.indexAddr 86 (.tmp 38) (.tmp 41),0,"made.go:169",#[⟨0,.data⟩,⟨3,.data⟩],none⟩) (v:= ?_) rfl (by kernel_rfl) (by kernel_rfl) (by kernel_rfl) (by kernel_rfl) (fun _ _ _ h=>h) (Or.inl ⟨by rfl, ?_⟩) hH ?_
      rotate_left
      focus (intro w hSw;(try dsimp only at hSw);go_simp;(try with_reducible rfl);done)
      try simp only [Act.put,List.setIfInBounds_toArray,List.set_cons_zero,List.set_cons_succ]
      refine AnyZ.take [15] (i:=5) (oi:=⟨some 43,.load 9 (.tmp 42),9,"made.go:169",#[⟨4,.data⟩],none⟩) (v:= ?_) rfl (by kernel_rfl) (by kernel_rfl) (by kernel_rfl) (by kernel_rfl) (fun _ _ _ h=>h) (Or.inl ⟨by rfl, ?_⟩) hH ?_
      rotate_left
      focus (intro w hSw;(try dsimp only at hSw);go_simp;(try with_reducible rfl);done)
      try simp only [Act.put,List.setIfInBounds_toArray,List.set_cons_zero,List.set_cons_succ]
      refine AnyZ.ready (rs:=[10]) (by kernel_rfl) (by simp) ?_
      refine AllZ.cons (o:=⟨some 48,.call {callee:= .value (.func 32),args:=#[.tmp 44,.tmp 47],argTypes:=#[26,3]},3,"made.go:169",#[⟨6,.data⟩,⟨9,.data⟩,⟨0,.chain⟩],none⟩) rfl (fun K hK=> ?_) AllZ.nil
      go_simp
      (go_at_call 32;(with_reducible refine (Next_any g n c A zs _ _ HK.out.rs.dice (by omega) (by omega)).mono ?_);rintro e w' ⟨z0,rfl,hz0,hz1,hg2,hD2⟩)
      go_wp2_with fail
      refine AnyZ.go hK (A:=fun W=>Hid (wr.heap.size≤W.heap.size)∧Hid (SK 98 6 ePers PersS w g A n c zs (w.heap.size+2) [some Wa.heap.size] (v1,v2,v3) noSV noSV (⟨zl,[],[],[]⟩:Rs.Cfg) w.heap.size (cfgA noSV noSV noSV noSV) 33 (w.heap.size+1) (cfgA (v1,v2,v3) (u1,u2,u3) noSV noSV) 33 (u1,u2,u3) pl W)∧Hid (BlkAt W Wa.heap.size #[.string ⟨#[]⟩,.int .i64 0,.slice none 0 0,.int .i64 0,.int .i64 0,.bool false] 98)∧Hid (BlkAt W W10.heap.size namesV 9)) (S':=fun W=>W.cell? ⟨w.heap.size+1,0,none⟩=some (.slice v1 v2 v3)∧W.cell? ⟨w.heap.size+1,1,none⟩=some (.slice u1 u2 u3)∧W.cell? ⟨W10.heap.size,u2,none⟩=some (.string ⟨nm.toArray⟩)) (fun _ h=>h) ⟨Lib.hid (Nat.le_trans (SZ.out) hg2.size),Lib.hid ((HK.out).call pP hg2 hD2),Lib.hid ((PB.out).grown hg2 (by intro e;cases e;omega)),Lib.hid ((NB.out).grown hg2 (by intro e;cases e;omega))⟩ ⟨((HK.out).call pP hg2 hD2).k3.cell rfl,((HK.out).call pP hg2 hD2).k3.cell rfl,((NB.out).grown hg2 (by intro e;cases e;omega)).cell (names_at HNM.out)⟩ (fun W12 hA hH2=> ?_)
      clear hK K hH SZ HK PB NB
      obtain ⟨SZ,HK,PB,NB⟩:=hA
      have hH:=hH2
      clear hH2
      clear hg2 hD2
      try simp only [Act.put,List.setIfInBounds_toArray,List.set_cons_zero,List.set_cons_succ]
      refine AnyZ.ready (rs:=[12]) (by kernel_rfl) (by simp) ?_
      refine AllZ.cons (o:=⟨some 50,.call {callee:= .value (.func 38),args:=#[.tmp 49,.const (.int .i64 3)],argTypes:=#[26,3]},4,"made.go:169",#[⟨11,.data⟩,⟨10,.chain⟩],none⟩) rfl (fun K hK=> ?_) AllZ.nil
      go_simp
      (go_at_call 38;(with_reducible refine (Bool_any g n c A zs 3 _ HK.out.rs.dice (by decide) (by decide)).mono ?_);rintro e w' ⟨bb,rfl,hg2,hD2⟩)
      go_wp2_with fail
      refine AnyZ.go hK (A:=fun W=>Hid (wr.heap.size≤W.heap.size)∧Hid (SK 98 6 ePers PersS w g A n c zs (w.heap.size+2) [some Wa.heap.size] (v1,v2,v3) noSV noSV (⟨zl,[],[],[]⟩:Rs.Cfg) w.heap.size (cfgA noSV noSV noSV noSV) 33 (w.heap.size+1) (cfgA (v1,v2,v3) (u1,u2,u3) noSV noSV) 33 (u1,u2,u3) pl W)∧Hid (BlkAt W Wa.heap.size #[.string ⟨#[]⟩,.int .i64 0,.slice none 0 0,.int .i64 0,.int .i64 0,.bool false] 98)∧Hid (BlkAt W W10.heap.size namesV 9)) (S':=fun W=>W.cell? ⟨w.heap.size+1,0,none⟩=some (.slice v1 v2 v3)∧W.cell? ⟨w.heap.size+1,1,none⟩=some (.slice u1 u2 u3)∧W.cell? ⟨W10.heap.size,u2,none⟩=some (.string ⟨nm.toArray⟩)) (fun _ h=>h) ⟨Lib.hid (Nat.le_trans (SZ.out) hg2.size),Lib.hid ((HK.out).call pP hg2 hD2),Lib.hid ((PB.out).grown hg2 (by intro e;cases e;omega)),Lib.hid ((NB.out).grown hg2 (by intro e;cases e;omega))⟩ ⟨((HK.out).call pP hg2 hD2).k3.cell rfl,((HK.out).call pP hg2 hD2).k3.cell rfl,((NB.out).grown hg2 (by intro e;cases e;omega)).cell (names_at HNM.out)⟩ (fun W13 hA hH2=> ?_)
      clear hK K hH SZ HK PB NB
      obtain ⟨SZ,HK,PB,NB⟩:=hA
      have hH:=hH2
      clear hH2
      clear hg2 hD2
      try simp only [Act.put,List.setIfInBounds_toArray,List.set_cons_zero,List.set_cons_succ]
      refine AnyZ.take [15] (i:=13) (oi:=⟨some 51,.build 98 #[(0,.tmp 43),(1,.tmp 48),(5,.tmp 50)],98,"made.go:169",#[⟨5,.data⟩,⟨10,.data⟩,⟨12,.data⟩],none⟩) (v:= ?_) rfl (by kernel_rfl) (by kernel_rfl) (by kernel_rfl) (by kernel_rfl) (fun _ _ _ h=>h) (Or.inl ⟨by rfl, ?_⟩) hH ?_
      rotate_left
      focus (intro w hSw;(try dsimp only at hSw);go_simp;(try with_reducible rfl);done)
      try simp only [Act.put,List.setIfInBounds_toArray,List.set_cons_zero,List.set_cons_succ]
      refine AnyZ.last (o:=⟨none,.store 98 (.tmp 6) (.tmp 51),0,"made.go:169",#[⟨14,.data⟩,⟨13,.data⟩,⟨12,.chain⟩,⟨0,.phase⟩,⟨1,.phase⟩,⟨2,.phase⟩,⟨3,.phase⟩,⟨4,.phase⟩,⟨5,.phase⟩,⟨6,.phase⟩,⟨7,.phase⟩,⟨8,.phase⟩,⟨9,.phase⟩,⟨10,.phase⟩,⟨11,.phase⟩,⟨12,.phase⟩,⟨13,.phase⟩,⟨14,.phase⟩],none⟩) (by kernel_rfl) rfl (fun K hK=> ?_)
      have p0:=PB.out.cell (i:=0) rfl
      have p1:=PB.out.cell (i:=1) rfl
      have p2:=PB.out.cell (i:=2) rfl
      have p3:=PB.out.cell (i:=3) rfl
      have p4:=PB.out.cell (i:=4) rfl
      have p5:=PB.out.cell (i:=5) rfl
      have f0:=PB.out.free 0
      have f1:=PB.out.free 1
      have f2:=PB.out.free 2
      have f3:=PB.out.free 3
      have f4:=PB.out.free 4
      have f5:=PB.out.free 5
      go_simp
      refine hK.out _ _ ?_
      clear hK K hH
      try simp only [Act.put,List.setIfInBounds_toArray,List.set_cons_zero,List.set_cons_succ]
      refine AnyZ.done (by kernel_rfl) ?_ _
      clear p0 p1 p2 p3 p4 p5 f0 f1 f2 f3 f4 f5
      go_wp2_with fail
      go_meet
      exact ⟨Wa.heap.size,z0,bb,rfl,hz0,hz1,Lib.hid ((((((HK.out.setx pP (List.mem_cons_self) (by omega) (by omega) 0 (.string ⟨nm.toArray⟩)).setx pP (List.mem_cons_self) (by omega) (by omega) 1 (.int .i64 z0)).setx pP (List.mem_cons_self) (by omega) (by omega) 2 (.slice none 0 0)).setx pP (List.mem_cons_self) (by omega) (by omega) 3 (.int .i64 0)).setx pP (List.mem_cons_self) (by omega) (by omega) 4 (.int .i64 0)).setx pP (List.mem_cons_self) (by omega) (by omega) 5 (.bool bb)),Lib.hid ((((((PB.out.set_ 0 (.string ⟨nm.toArray⟩)).set_ 1 (.int .i64 z0)).set_ 2 (.slice none 0 0)).set_ 3 (.int .i64 0)).set_ 4 (.int .i64 0)).set_ 5 (.bool bb))⟩
     case rest=>
      obtain ⟨bp,z0,bb,rfl,z1,z2,HK2,PB⟩:=hcut
      obtain ⟨w3,rfl⟩: ∃w3:World,w3=wc:=⟨_,rfl⟩
      clear HK
      have hbp:=HK2.out.exlt List.mem_cons_self
      obtain ⟨hb1,hb2,hb3⟩:=hbp
      have hbw:=PB.out.lt_
      go_wp2_with fail
      refine (Bool_any g n c A zs 2 _ HK2.out.rs.dice (by decide) (by decide)).mono ?_
      rintro e w4 ⟨qb,rfl,g4,D4⟩
      have HK4:=Lib.hid (HK2.out.call pP g4 D4)
      have PB4:=Lib.hid (PB.out.grown g4 (by intro e;cases e;omega))
      have hw4:=PB4.out.lt_
      have hs4:=HK4.out.rs.lo3
      clear HK2 PB g4 D4 hbw
      go_upto_if 53 with fail
      go_cut [] (fun wx=> ∃(q1:Option Addr) (q2 q3:Nat) (ql:Rs.Sp),Hid (Wk.Rt 0 ql∧ql.length≤3)∧Hid (SK 98 6 ePers PersS w g A n c zs (w.heap.size+2) [some bp] (v1,v2,v3) noSV noSV (⟨zl,[],[],[]⟩:Rs.Cfg) w.heap.size (cfgA noSV noSV noSV noSV) 33 (w.heap.size+1) (cfgA (v1,v2,v3) (u1,u2,u3) noSV noSV) 33 (u1,u2,u3) pl wx)∧Hid (BlkAt wx bp #[.string ⟨nm.toArray⟩,.int .i64 z0,.slice q1 q2 q3,.int .i64 0,.int .i64 0,.bool bb] 98)∧Hid (LInS 2 ePair (Ex (w.heap.size+2) (own1 (u1,u2,u3)++[some bp])) wx (q1,q2,q3) ql))
      case first =>
       cases qb
       ·go_wp2_with fail
        go_meet
        exact ⟨none,0,0,[],Lib.hid ⟨trivial,by simp⟩,HK4,PB4,Lib.hid (LInS.nil_ _ _)⟩
       ·go_wp2_with fail
        refine (Windows_any g n c A zs _ HK4.out.rs.dice).mono ?_
        rintro e w5 ⟨v,ql,rfl,hO,hRt,hql,g5,D5⟩
        obtain ⟨q1,q3,rfl,hc,hn,hl1⟩:=hO.shape
        have HQ:=Lib.hid (OwnL.lins (v:=(q1,ql.length,q3)) hO (S:=Ex (w.heap.size+2) (own1 (u1,u2,u3)++[some bp])) (fun q _ hq=>ex_new (m:=w4.heap.size) (fun q hq=>(HK4.out.rs.row.lt q hq).2.1) (fun q hq=>by simp at hq;subst hq;omega) hs4 hq) (by omega)).1
        have HK5:=Lib.hid (HK4.out.call pP g5 D5)
        have PB5:=Lib.hid (PB4.out.grown g5 (by intro e;cases e;omega))
        have HR:=Lib.hid (And.intro hRt hql)
        have p2:=PB5.out.cell (i:=2) rfl
        have f2:=PB5.out.free 2
        clear HK4 PB4 g5 D5 hO hRt hql hc hn hl1
        obtain ⟨q2,hq2⟩: ∃q,ql.length=q:=⟨_,rfl⟩
        rw [hq2] at HQ ⊢
        clear hq2
        go_wp2_with fail
        go_meet
        exact ⟨q1,q2,q3,ql,HR,Lib.hid (HK5.out.setx pP (List.mem_cons_self) (by omega) (by omega) 2 _),Lib.hid (PB5.out.set_ 2 _),Lib.hid (HQ.out.mv (Mv.set _ _ _ _ (fun hS=>hS.2 (by simp))))⟩
      case rest=>
       obtain ⟨q1,q2,q3,ql,HR,HK6,PB6,HQ6⟩:=hcut
       obtain ⟨w6,rfl⟩: ∃w6:World,w6=wc:=⟨_,rfl⟩
       have hw6:=PB6.out.lt_
       clear HK4 PB4 hw4 hs4
       go_upto_region 12 with fail
       go_cut [] (fun wx=> ∃(m1 m2:Int),Hid (Rs.hoursOk m1=true∧Rs.hoursOk m2=true)∧Hid (SK 98 6 ePers PersS w g A n c zs (w.heap.size+2) [some bp] (v1,v2,v3) noSV noSV (⟨zl,[],[],[]⟩:Rs.Cfg) w.heap.size (cfgA noSV noSV noSV noSV) 33 (w.heap.size+1) (cfgA (v1,v2,v3) (u1,u2,u3) noSV noSV) 33 (u1,u2,u3) pl wx)∧Hid (BlkAt wx bp #[.string ⟨nm.toArray⟩,.int .i64 z0,.slice q1 q2 q3,.int .i64 m1,.int .i64 m2,.bool bb] 98)∧Hid (LInS 2 ePair (Ex (w.heap.size+2) (own1 (u1,u2,u3)++[some bp])) wx (q1,q2,q3) ql))
       case first =>
        go_wp2_with fail
        refine (Pick_any g n c A zs [0,40,100,12] w6.heap.size 4 4 3 _ (HK6.out.alloc pP _).rs.dice (BlkAt.new w6 _ _) rfl (by omega) (by omega) (by omega)).mono ?_
        rintro e w7 ⟨p1,rfl,hp1,g7,D7⟩
        have hp11:0≤p1∧p1≤100:=by simp at hp1;omega
        have HH1:Hid (Rs.hoursOk (3600*p1)=true):=Lib.hid (by simp at hp1;rcases hp1 with rfl|rfl|rfl|rfl<;>rfl)
        obtain ⟨hpa,hpb⟩:=hp11
        have HK7:=Lib.hid ((HK6.out.alloc pP _).call pP g7 D7)
        have PB7:=Lib.hid ((PB6.out.alloc _).grown g7 (by intro e;cases e;omega))
        have HQ7:=Lib.hid (HQ6.out.mv ((Mv.of_below ((Below.refl _ _).alloc (Nat.le_refl _) _) (fun _ h _=>h)).trans (mv_ex g7 (fun r er=>by cases er;left;omega) (fun b hb=> .inl hb))))
        have hw7:=PB7.out.lt_
        clear HK6 PB6 HQ6 g7 D7 hp1
        go_wp2_with fail
        refine (Pick_any g n c A zs [0,11,24,1] w7.heap.size 4 4 3 _ (HK7.out.alloc pP _).rs.dice (BlkAt.new w7 _ _) rfl (by omega) (by omega) (by omega)).mono ?_
        rintro e w8 ⟨p2,rfl,hp2,g8,D8⟩
        have hp22:0≤p2∧p2≤100:=by simp at hp2;omega
        have HH2:Hid (Rs.hoursOk (3600*p2)=true):=Lib.hid (by simp at hp2;rcases hp2 with rfl|rfl|rfl|rfl<;>rfl)
        obtain ⟨hpc,hpd⟩:=hp22
        have HK8:=Lib.hid ((HK7.out.alloc pP _).call pP g8 D8)
        have PB8:=Lib.hid ((PB7.out.alloc _).grown g8 (by intro e;cases e;omega))
        have HQ8:=Lib.hid (HQ7.out.mv ((Mv.of_below ((Below.refl _ _).alloc (Nat.le_refl _) _) (fun _ h _=>h)).trans (mv_ex g8 (fun r er=>by cases er;left;omega) (fun b hb=> .inl hb))))
        have c3:=PB8.out.cell (i:=3) rfl
        have c4:=PB8.out.cell (i:=4) rfl
        have f3:=PB8.out.free 3
        have f4:=PB8.out.free 4
        clear HK7 PB7 HQ7 g8 D8 hp2
        go_wp2_with fail
        go_meet
        exact ⟨3600*p1,3600*p2,Lib.hid ⟨HH1.out,HH2.out⟩,Lib.hid ((HK8.out.setx pP (List.mem_cons_self) (by omega) (by omega) 3 _).setx pP (List.mem_cons_self) (by omega) (by omega) 4 _),Lib.hid ((PB8.out.set_ 3 _).set_ 4 _),Lib.hid ((HQ8.out.mv (Mv.set _ _ _ _ (fun hS=>hS.2 (by simp)))).mv (Mv.set _ _ _ _ (fun hS=>hS.2 (by simp))))⟩
       case rest=>
        obtain ⟨m1,m2,HH,HK8,PB8,HQ8⟩:=hcut
        obtain ⟨w8,rfl⟩: ∃w8:World,w8=wc:=⟨_,rfl⟩
        have hw8:=PB8.out.lt_
        clear HK6 PB6 HQ6 hw6
        obtain ⟨xs,x1,x2,x3,x4⟩:=HK8.out.rs.row
        have hxl:xs.length=u2:=by rw [←hu, ←x1,List.length_map]
        have hl3:=HK8.out.rs.lo3
        have k1:w8.cell? ⟨w.heap.size+1,1,none⟩=some (.slice u1 u2 u3):=HK8.out.k3.cell rfl
        have p0:=PB8.out.cell (i:=0) rfl
        have p1:=PB8.out.cell (i:=1) rfl
        have p2:=PB8.out.cell (i:=2) rfl
        have p3:=PB8.out.cell (i:=3) rfl
        have p4:=PB8.out.cell (i:=4) rfl
        have p5:=PB8.out.cell (i:=5) rfl
        have HX:=Lib.hid (And.intro x1 (And.intro x2 x3))
        have HXL:=Lib.hid hxl
        have hxb:xs.length≤900000:=by omega
        clear x1 x2 x3 x4 hxl
        go_wp2_with (at_builtin;refine wp_append_one kPer _ rfl _ _ rfl (w.heap.size+2) _ xs rfl (OwnL.alloc HX.out.2.1 _) w8.heap.size ((⟨nm,z0,ql,m1,m2,bb⟩:Rs.Pers),(q1,q2,q3)) rfl (one_new (blk_now rfl) (dpers_vals nm z0 ql m1 m2 bb q1 q2 q3)) hxb (by simp;omega) ?_;intro gg cap w9 hO9 hB9 hg9 hgo9 _;rw [HXL.out] at hO9 ⊢;have FK:=(HK8.out.alloc pP _).app pP (ex':=[]) HX.out.1 (fun z hz=>pP _ _ _ _ (Mv.of_below ((Below.refl _ _).alloc (Nat.le_refl _) _) (fun _ h _=>h)) _ _ (HX.out.2.2 z hz)) hg9 hgo9 hO9 (pP _ _ _ _ (Mv.of_below ((Below.refl _ _).alloc (Nat.le_refl _) _) (fun _ h _=>h)) _ _ HQ8.out) (fun r hr=>by cases hr) (fun hr=>by simp at hr;omega) (fun hr=>by simp at hr;omega) (fun r hr=>by simp at hr;subst hr;simp;omega);have y1:w9.cell? ⟨w.heap.size+1,1,none⟩=some (.slice u1 u2 u3):=FK.k3.cell rfl;have y2:=FK.k3.free 1;have HFK:=Lib.hid FK;clear FK hO9 hB9 hg9 hgo9 k1 p0 p1 p2 p3 p4 p5)
        have HF:=Lib.hid (show SK 98 6 ePers PersS w g A n c zs (w.heap.size+2) [] (v1,v2,v3) noSV noSV (⟨zl,[],[],[]⟩:Rs.Cfg) w.heap.size (cfgA noSV noSV noSV noSV) 33 (w.heap.size+1) (cfgA (v1,v2,v3) (some ⟨gg,0,none⟩,u2+1,cap) noSV noSV) 33 (some ⟨gg,0,none⟩,u2+1,cap) (pl++[⟨nm,z0,ql,m1,m2,bb⟩]) (w9.setCell ⟨w.heap.size+1,1,none⟩ (.slice (some ⟨gg,0,none⟩) (u2+1) cap)) from HFK.out.set3 pP 1 (.slice (some ⟨gg,0,none⟩) (u2+1) cap))
        have HN2:Hid ((∀p∈pl++[(⟨nm,z0,ql,m1,m2,bb⟩:Rs.Pers)],Rs.MP v2 p)∧(pl++[(⟨nm,z0,ql,m1,m2,bb⟩:Rs.Pers)]).map (·.name)=Rs.nmP.take (pl++[(⟨nm,z0,ql,m1,m2,bb⟩:Rs.Pers)]).length):=Lib.hid ⟨fun p hp=>by
         rcases List.mem_append.1 hp with hp|hp
         ·exact HN.out.1 p hp
         ·simp at hp;subst hp;exact ⟨by unfold Rs.isIx;simp;omega,HR.out.1,HR.out.2,HH.out.1,HH.out.2⟩,by
         have :=Rs.take_snoc (L:=Rs.nmP) (ns:=pl.map (·.name)) (x:=nm) (by rw [List.length_map];exact HN.out.2) (by rw [List.length_map,hu];exact HNM.out)
         simpa using this⟩
        clear HFK HX HXL HK8 PB8 HQ8
        go_wp2_with fail
        go_roundw
        case rel=>exact ⟨i-1,pl++[⟨nm,z0,ql,m1,m2,bb⟩],(some ⟨gg,0,none⟩,u2+1,cap),by go_num,by omega,by simp;omega,by simp;omega,HN2,HF⟩
        case measure=>simp [intOf];omega
    ·obtain rfl:i=0:=by omega
     have hu21:1≤u2:=by omega
     have hu22:u2≤4:=by omega
     have FC:=Lib.hid (show SK 76 3 eCal CalS w g A n c zs (w.heap.size+2) [] (v1,v2,v3) (u1,u2,u3) noSV (⟨zl,pl,[],[]⟩:Rs.Cfg) w.heap.size (cfgA noSV noSV noSV noSV) 33 (w.heap.size+1) (cfgA (v1,v2,v3) (u1,u2,u3) noSV noSV) 33 noSV [] wr from HK.out.turn ⟨HK.out.rs.fin.zones.mv (ZoneS.mv HK.out.mvAll) HK.out.mvAll,HK.out.rs.row.done (pP _ _ _ _ HK.out.mvAll) (fun q _ hq=>ex_none hq) (by omega),NestS.nil_ _ _⟩)
     have HU:=Lib.hid hu
     clear HK hu j1 j2 j3 hi i4 i5
     go_wp2_with fail
     refine (Next_any g n c A zs 2 _ FC.out.rs.dice (by decide) (by decide)).mono ?_
     rintro e w3 ⟨i6,rfl,i7,i8,g3,D3⟩
     have FC2:=Lib.hid (FC.out.call pC g3 D3)
     clear g3 D3 FC
     go_wp2_with fail
     go_loopw [7] (fun vi wr=> ∃(i:Int) (cl:List Rs.Cal) (v:SV),vi= .int .i64 i∧0≤i∧(cl.length:Int)+i≤1∧Hid ((∀x∈cl,Rs.MC v2 x)∧cl.map (·.name)=Rs.nmC.take cl.length)∧Hid (SK 76 3 eCal CalS w g A n c zs (w.heap.size+2) [] (v1,v2,v3) (u1,u2,u3) noSV (⟨zl,pl,[],[]⟩:Rs.Cfg) w.heap.size (cfgA noSV noSV noSV noSV) 33 (w.heap.size+1) (cfgA (v1,v2,v3) (u1,u2,u3) v noSV) 33 v cl wr)) (fun vi _=>(intOf vi).toNat)
     case atStart=>exact ⟨i6,[],noSV,by go_num,by omega,by simp;omega,Lib.hid ⟨(fun z hz=>by cases hz),rfl⟩,FC2⟩
     case round=>
      clear FC2
      obtain ⟨i,cl,⟨t1,t2,t3⟩,rfl,j1,j3,HNC,HK⟩:=hrel
      have ht:=HK.out.rs.row.len
      simp only at ht
      rw [ht] at j3
      by_cases hi:0<i
      ·have ht0:t2=0:=by omega
       have k0:wr.cell? ⟨w.heap.size+1,0,none⟩=some (.slice v1 v2 v3):=HK.out.k3.cell rfl
       go_wp2_with fail
       refine (Next_any g n c A zs v2 _ HK.out.rs.dice (by omega) (by omega)).mono ?_
       rintro e w4 ⟨z1,rfl,y1,y2,g4,D4⟩
       have HK4:=Lib.hid (HK.out.call pC g4 D4)
       have hl4:=HK4.out.rs.lo3
       have HK5:=Lib.hid (HK4.out.exnew (W':=w4.alloc (.cells #[.string ⟨#[100,97,121,115]⟩,.int .i64 z1,.slice none 0 0] 76)) pC ((Below.refl _ _).alloc (Nat.le_refl _) _) rfl)
       have PX:=Lib.hid (BlkAt.new w4 #[.string ⟨#[100,97,121,115]⟩,.int .i64 z1,.slice none 0 0] 76)
       clear HK HK4 g4 D4 k0
       go_wp2_with fail
       refine (Next_any g n c A zs 4 _ HK5.out.rs.dice (by decide) (by decide)).mono ?_
       rintro e w5 ⟨k0,rfl,k1,k2,g5,D5⟩
       have HK6:=Lib.hid ((HK5.out.call pC g5 D5).exless (ex':=[some w4.heap.size,(sv noSV).ownBlock]) pC (fun q hq=>by simpa [sv,noSV,Value.ownBlock] using hq) (fun hr=>by simp at hr ⊢;omega) (fun hr=>by simp at hr ⊢;omega))
       have PX6:=Lib.hid (PX.out.grown g5 (by intro e;cases e;omega))
       clear HK5 PX g5 D5
       go_wp2_with fail
       go_loopw [9,10] (fun vk vd wr=> ∃(k day:Int) (ds:List Int) (u:SV),vk= .int .i64 k∧vd= .int .i64 day∧0≤k∧(ds.length:Int)+k≤3∧20454≤day∧day≤20454+6*(ds.length:Int)∧Hid (Rs.Up 20454 ds day)∧Hid (SK 76 3 eCal CalS w g A n c zs (w.heap.size+2) [some w4.heap.size,(sv u).ownBlock] (v1,v2,v3) (u1,u2,u3) noSV (⟨zl,pl,[],[]⟩:Rs.Cfg) w.heap.size (cfgA noSV noSV noSV noSV) 33 (w.heap.size+1) (cfgA (v1,v2,v3) (u1,u2,u3) (t1,t2,t3) noSV) 33 (t1,t2,t3) cl wr)∧Hid (BlkAt wr w4.heap.size #[.string ⟨#[100,97,121,115]⟩,.int .i64 z1,sv u] 76)∧Hid (OwnL 3 1 eInt wr (w4.heap.size+1) (sv u) ds)) (fun vk _ _=>(intOf vk).toNat)
       case atStart=>exact ⟨k0,20454,[],noSV,rfl,rfl,k1,by simp;omega,by omega,by simp,Lib.hid (Int.le_refl _),HK6,PX6,Lib.hid (OwnL.nil_ _ _)⟩
       case round=>
        clear HK6 PX6
        obtain ⟨k,day,ds,⟨e1,e2,e3⟩,rfl,rfl,l1,l2,l3,l4,HUP,HK,PX,HO⟩:=hrel
        have he2:ds.length=e2:=by
         obtain ⟨A9,c9,ev, -⟩:=HO.out.shape
         unfold sv at ev
         simp only [Value.slice.injEq] at ev
         exact ev.2.1.symm
        have hxw:=PX.out.lt_
        have HOL:Hid (∀q,(sv (e1,e2,e3)).ownBlock=some q→w4.heap.size+1≤q∧q<wr.heap.size):=Lib.hid fun q hq=>World.ownsRow.lt HO.out q hq
        by_cases hk:0<k
        ·go_wp2_with fail
         refine (Next_any g n c A zs 6 _ HK.out.rs.dice (by decide) (by decide)).mono ?_
         rintro e w7 ⟨x,rfl,x1,x2,g7,D7⟩
         have HK7:=Lib.hid (HK.out.call pC g7 D7)
         have PX7:=Lib.hid (PX.out.grown g7 (by intro e;cases e;omega))
         have HO7:=Lib.hid (show OwnL 3 1 eInt w7 (w4.heap.size+1) (.slice e1 e2 e3) ds from HO.out.grown g7 (by omega))
         have m2:w7.cell? ⟨w4.heap.size,2,none⟩=some (.slice e1 e2 e3):=PX7.out.cell rfl
         have hl7:=PX7.out.lt_
         have hdl:ds.length≤900000:=by omega
         have HE2:=Lib.hid he2
         clear HK PX HO g7 D7 he2
         go_wp2_with (at_builtin;go_loud (refine wp_append_one kInt _ rfl _ _ rfl (w4.heap.size+1) _ ds rfl (OwnL.alloc HO7.out _) w7.heap.size (day+(1+x)) rfl (one_new (blk_now rfl) (int_vals _)) hdl (by simp;omega) ?_;intro gg cap w8 hO8 hB8 hg8 hgo8 _;rw [HE2.out] at hO8 ⊢;have FK:=(HK7.out.alloc pC _).row pC (ex':=[some w4.heap.size,some gg]) hg8 (fun q hq=>by rw [show (sv (e1,e2,e3)).ownBlock=some q from hq];simp) (fun hq=>by have :=HOL.out _ hq;omega) (fun hq=>by have :=HOL.out _ hq;omega) (fun q hq=>by simp only [List.mem_cons,Option.some.injEq,List.not_mem_nil,or_false] at hq;rcases hq with hq|hq;exact .inl (by simp [hq]);(rcases hgo8 with h9|h9;exact .inl (by rw [show (sv (e1,e2,e3)).ownBlock=some gg from h9];simp [hq]);exact .inr (by rw [hq,h9];exact Nat.le_refl _))) (fun hr=>(no_two hr (by omega) (fun r hr=>by have :=HOL.out _ hr;omega)).elim) (fun hr=>(no_two hr (by omega) (fun r hr=>by have :=HOL.out _ hr;omega)).elim);have PX8:=(PX7.out.alloc _).grown hg8 (fun hq=>by have :=HOL.out _ hq.symm;omega);have n1:w8.cell? ⟨w4.heap.size,2,none⟩=some (.slice e1 e2 e3):=PX8.cell rfl;have n2:=PX8.free 2;have HFK:=Lib.hid FK;have HPX:=Lib.hid PX8;have HO8:=Lib.hid hO8;clear FK PX8 hO8 hB8 hg8 hgo8 m2))
         have F1:=Lib.hid (HFK.out.setx pC (List.mem_cons_self) (by omega) (by omega) 2 (.slice (some ⟨gg,0,none⟩) (e2+1) cap))
         have F2:=Lib.hid (HPX.out.set_ 2 (.slice (some ⟨gg,0,none⟩) (e2+1) cap))
         have F3:=Lib.hid (HO8.out.grown (grown_set w8 w4.heap.size 2 (.slice (some ⟨gg,0,none⟩) (e2+1) cap)) (Nat.lt_succ_self _))
         have F4:=Lib.hid (HUP.out.snoc (d:=day+(1+x)) (by omega))
         clear HFK HPX HO8 HK7 PX7 HO7
         go_wp2_with fail
         go_roundw
         case rel=>exact ⟨k-1,day+(1+x),ds++[day+(1+x)],(some ⟨gg,0,none⟩,e2+1,cap),by go_num,by go_num,by omega,by simp;omega,by omega,by simp;omega,F4,F1,F2,F3⟩
         case measure=>simp [intOf];omega
        ·obtain rfl:k=0:=by omega
         have hds:ds.length≤3:=by omega
         have HQ:=Lib.hid (OwnL.lins (v:=(e1,e2,e3)) HO.out (S:=Ex (w.heap.size+2) (own1 (t1,t2,t3)++[some w4.heap.size])) (fun q ho hq=>⟨by omega,fun hx=>by
          rcases List.mem_append.1 hx with hx|hx
          ·have e5:some q=(sv (t1,t2,t3)).ownBlock:=by simpa [own1] using hx
           exact (HK.out.exlt (q:=q) (by rw [ho];simp)).2.2 e5.symm
          ·simp at hx;omega⟩) (by omega)).1
         have HK2:=Lib.hid (HK.out.exless (ex':=[some w4.heap.size]) pC (fun q hq=>by simp at hq ⊢;exact .inl hq) (fun hr=>(no_two hr (by omega) (fun r hr=>by have :=HOL.out _ hr;omega)).elim) (fun hr=>(no_two hr (by omega) (fun r hr=>by have :=HOL.out _ hr;omega)).elim))
         obtain ⟨xs,x1,x2,x3,x4⟩:=HK2.out.rs.row
         have hxl:xs.length=t2:=by rw [←ht, ←x1,List.length_map]
         have hl6:=HK2.out.rs.lo3
         have n0:wr.cell? ⟨w.heap.size+1,2,none⟩=some (.slice t1 t2 t3):=HK2.out.k3.cell rfl
         have p0:wr.cell? ⟨w4.heap.size,0,none⟩=some (.string ⟨#[100,97,121,115]⟩):=PX.out.cell rfl
         have p1:wr.cell? ⟨w4.heap.size,1,none⟩=some (.int .i64 z1):=PX.out.cell rfl
         have p2:wr.cell? ⟨w4.heap.size,2,none⟩=some (.slice e1 e2 e3):=PX.out.cell rfl
         have HX:=Lib.hid (And.intro x1 (And.intro x2 x3))
         have HXL:=Lib.hid hxl
         have HT2:=Lib.hid ht
         have HT0:=Lib.hid ht0
         have hxb:xs.length≤900000:=by omega
         have HDS:=Lib.hid hds
         clear x1 x2 x3 x4 hxl HK PX HO ht ht0 he2
         go_wp2_with (at_builtin;go_loud (refine wp_append_one kCal _ rfl _ _ rfl (w.heap.size+2) _ xs rfl (OwnL.alloc HX.out.2.1 _) wr.heap.size ((⟨[100,97,121,115],z1,ds⟩:Rs.Cal),(e1,e2,e3)) rfl (one_new (blk_now rfl) (dcal_vals [100,97,121,115] z1 ds e1 e2 e3)) hxb (by simp;omega) ?_;intro gg cap w9 hO9 hB9 hg9 hgo9 _;rw [HXL.out] at hO9 ⊢;have FK:=(HK2.out.alloc pC _).app pC (ex':=[]) HX.out.1 (fun z hz=>pC _ _ _ _ (Mv.of_below ((Below.refl _ _).alloc (Nat.le_refl _) _) (fun _ h _=>h)) _ _ (HX.out.2.2 z hz)) hg9 hgo9 hO9 (pC _ _ _ _ (Mv.of_below ((Below.refl _ _).alloc (Nat.le_refl _) _) (fun _ h _=>h)) _ _ ⟨HQ.out,fun d hd=>by have :=(Rs.Up.mem HUP.out).2 d hd;have :=HDS.out;unfold I64;omega⟩) (fun r hr=>by cases hr) (fun hr=>by simp at hr;omega) (fun hr=>by simp at hr;omega) (fun r hr=>by simp at hr;subst hr;simp;omega);have y1:w9.cell? ⟨w.heap.size+1,2,none⟩=some (.slice t1 t2 t3):=FK.k3.cell rfl;have y2:=FK.k3.free 2;have HFK:=Lib.hid FK;clear FK hO9 hB9 hg9 hgo9 n0 p0 p1 p2))
         have HF:=Lib.hid (show SK 76 3 eCal CalS w g A n c zs (w.heap.size+2) [] (v1,v2,v3) (u1,u2,u3) noSV (⟨zl,pl,[],[]⟩:Rs.Cfg) w.heap.size (cfgA noSV noSV noSV noSV) 33 (w.heap.size+1) (cfgA (v1,v2,v3) (u1,u2,u3) (some ⟨gg,0,none⟩,t2+1,cap) noSV) 33 (some ⟨gg,0,none⟩,t2+1,cap) (cl++[⟨[100,97,121,115],z1,ds⟩]) (w9.setCell ⟨w.heap.size+1,2,none⟩ (.slice (some ⟨gg,0,none⟩) (t2+1) cap)) from HFK.out.set3 pC 2 (.slice (some ⟨gg,0,none⟩) (t2+1) cap))
         have HN2:Hid ((∀x∈cl++[(⟨[100,97,121,115],z1,ds⟩:Rs.Cal)],Rs.MC v2 x)∧(cl++[(⟨[100,97,121,115],z1,ds⟩:Rs.Cal)]).map (·.name)=Rs.nmC.take (cl++[(⟨[100,97,121,115],z1,ds⟩:Rs.Cal)]).length):=Lib.hid ⟨fun p hp=>by
          rcases List.mem_append.1 hp with hp|hp
          ·exact HNC.out.1 p hp
          ·simp at hp;subst hp;exact ⟨by unfold Rs.isIx;simp;omega,by have :=HDS.out;simp only;omega,_,HUP.out,by have :=HDS.out;omega⟩,by
          have :=Rs.take_snoc (L:=Rs.nmC) (ns:=cl.map (·.name)) (x:=[100,97,121,115]) (by rw [List.length_map];exact HNC.out.2) (by rw [List.length_map,HT2.out,HT0.out];rfl)
          simpa using this⟩
         have hcl:cl.length=t2:=HT2.out
         clear HFK HX HXL HK2 HQ
         go_wp2_with fail
         go_roundw
         case rel=>exact ⟨i-1,cl++[⟨[100,97,121,115],z1,ds⟩],(some ⟨gg,0,none⟩,t2+1,cap),by go_num,by omega,by simp;omega,HN2,HF⟩
         case measure=>simp [intOf];omega
      ·obtain rfl:i=0:=by omega
       have FN:=HK.out.rs.row.done (pC _ _ _ _ HK.out.mvAll) (fun q _ hq=>ex_none hq) (by omega)
       have FS:=Lib.hid (show StaffS (Ex (w.heap.size+2) [none]) wr (v1,v2,v3) (u1,u2,u3) (t1,t2,t3) ⟨zl,pl,cl,[]⟩ from ⟨HK.out.rs.fin.zones.mv (ZoneS.mv HK.out.mvAll) HK.out.mvAll,HK.out.rs.fin.people.mv (PersS.mv HK.out.mvAll) HK.out.mvAll,FN⟩)
       have s0:wr.cell? ⟨w.heap.size+1,0,none⟩=some (.slice v1 v2 v3):=HK.out.k3.cell rfl
       have s1:wr.cell? ⟨w.heap.size+1,1,none⟩=some (.slice u1 u2 u3):=HK.out.k3.cell rfl
       have s2:wr.cell? ⟨w.heap.size+1,2,none⟩=some (.slice t1 t2 t3):=HK.out.k3.cell rfl
       have s3:wr.cell? ⟨w.heap.size+1,3,none⟩=some (.slice none 0 0):=HK.out.k3.cell rfl
       have r0:wr.cell? ⟨w.heap.size,0,none⟩=some (.slice none 0 0):=HK.out.k2.cell rfl
       have r1:wr.cell? ⟨w.heap.size,1,none⟩=some (.slice none 0 0):=HK.out.k2.cell rfl
       have r2:wr.cell? ⟨w.heap.size,2,none⟩=some (.slice none 0 0):=HK.out.k2.cell rfl
       have r3:wr.cell? ⟨w.heap.size,3,none⟩=some (.slice none 0 0):=HK.out.k2.cell rfl
       have f0:=HK.out.k2.free 0
       have f1:=HK.out.k2.free 1
       have f2:=HK.out.k2.free 2
       have f3:=HK.out.k2.free 3
       have HMD:=Lib.hid (show Rs.Made ⟨zl,pl,cl,[]⟩ from ⟨HM.out.2,by have :=HV.out;simp only;omega,HM.out.1,HN.out.2,by have :=HU.out;simp only;omega,fun p hp=>by have :=HN.out.1 p hp;rw [←HV.out] at this;exact this,HNC.out.2,by simp only;omega,fun x hx=>by have :=HNC.out.1 x hx;rw [←HV.out] at this;exact this,rfl,by simp,fun s hs=>by cases hs⟩)
       have HG:=Lib.hid HK.out.rs.grown
       have HD:=Lib.hid HK.out.rs.dice
       clear HK FN ht
       go_wp2_with fail
       refine bodyPost_ret (v:=cfgV (v1,v2,v3) (u1,u2,u3) (t1,t2,t3) noSV) (by simp [results,Tryz.results35,go_sem,r0,r1,r2,r3,f0,f1,f2,f3];rfl) rfl ?_
       have hb: ∀(W:World) (i:Nat) (u:Value),Below w.heap.size W (W.setCell ⟨w.heap.size,i,none⟩ u):=fun W i u=>(Below.refl _ W).setCell (p:=⟨w.heap.size,i,none⟩) (Nat.le_refl _) u
       have hs: ∀(W:World) (i:Nat) (u:Value),Mv (Ex (w.heap.size+2) [none]) W (Ex (w.heap.size+2) [none]) (W.setCell ⟨w.heap.size,i,none⟩ u):=fun W i u=>Mv.set W _ i u (fun hS=>by have :=hS.1;omega)
       refine ⟨(v1,v2,v3),(u1,u2,u3),(t1,t2,t3),⟨zl,pl,cl,[]⟩,rfl,FS.out.mv (((((hs _ 0 _).trans (hs _ 1 _)).trans (hs _ 2 _)).trans (hs _ 3 _)).trans (Mv.wider _ (fun b hb _=>by have :=hb.1;omega))),rfl,HMD.out,by have :=HV.out;simp only;omega,by have :=HU.out;simp only;omega, ?_, ?_⟩
       ·exact grown_then (grown_then (grown_then (grown_then HG.out (hb _ 0 _) (Nat.le_refl _)) (hb _ 1 _) (Nat.le_refl _)) (hb _ 2 _) (Nat.le_refl _)) (hb _ 3 _) (Nat.le_refl _)
       ·exact (((HD.out.below (hb _ 0 _) hgw).below (hb _ 1 _) hgw).below (hb _ 2 _) hgw).below (hb _ 3 _) hgw
end Go.Proofs.YtfamcohbnoibaaaGreatDoor
