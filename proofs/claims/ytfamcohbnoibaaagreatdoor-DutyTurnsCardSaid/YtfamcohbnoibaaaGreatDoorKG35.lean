import Derived.Test.YtfamcohbnoibaaaGreatDoorKG34
import Derived.Test.YtfamcohbnoibaaaGreatDoorShelf
import Derived.Sort.OwnSortedInts
import Derived.Test.YtfamcohbnoibaaaGreatDoorKG28
set_option linter.unusedVariables false
set_option linter.unusedSimpArgs false
set_option maxRecDepth 100000
namespace Go.Proofs.YtfamcohbnoibaaaGreatDoor
open Go.RowKit Go.Sort
theorem keeps_iff (zs:List Int) (j:Nat):Lib.keeps zs.toArray j=true↔j=0∨zs.getD j 0≠zs.getD (j-1) 0:=by
 unfold Lib.keeps
 rw [decide_eq_true_eq]
 have e: ∀i,zs.toArray[i]! =zs.getD i 0:=fun i=>by
  simp [List.getD,getElem!_def]
  cases zs[i]? <;>rfl
 rw [e,e]
theorem compact_def (zs:List Int):Lib.compact zs=((List.range zs.length).filter (Lib.keeps zs.toArray)).map fun j=>zs.getD j 0:=by
 unfold Lib.compact Lib.compactUpTo
 refine List.map_congr_left fun j _=> ?_
 simp [List.getD,getElem!_def]
 cases zs[j]? <;>rfl
theorem compact_asc {zs:List Int} (h:zs.Pairwise (· ≤ ·)):(Lib.compact zs).Pairwise (· < ·):=by
 have hp:=List.pairwise_iff_getElem.1 h
 have mono: ∀i j,i≤j→j<zs.length→zs.getD i 0≤zs.getD j 0:=fun i j hij hj=>by
  simp only [List.getD,List.getElem?_eq_getElem (show i<zs.length by omega),List.getElem?_eq_getElem hj,Option.getD_some]
  rcases Nat.lt_or_ge i j with h1|h1
  ·exact hp i j (by omega) hj h1
  ·obtain rfl:i=j:=by omega
   exact Int.le_refl _
 rw [compact_def,List.pairwise_map]
 refine List.Pairwise.imp_of_mem (fun {i j} hi hj hij=> ?_) (List.pairwise_lt_range.filter _)
 have h1:=(List.mem_filter.1 hj)
 have h2:=(keeps_iff zs j).1 h1.2
 have h3:=List.mem_range.1 h1.1
 have a:=mono i (j-1) (by omega) (by omega)
 have b:=mono (j-1) j (by omega) h3
 omega
theorem compact_mem {zs:List Int} {x:Int}:x∈Lib.compact zs↔x∈zs:=by
 rw [compact_def]
 constructor
 ·intro h
  obtain ⟨j,hj,rfl⟩:=List.mem_map.1 h
  have :=List.mem_range.1 (List.mem_filter.1 hj).1
  simp only [List.getD,List.getElem?_eq_getElem this,Option.getD_some]
  exact List.getElem_mem this
 ·intro h
  obtain ⟨j,hj⟩:=List.getElem?_of_mem h
  have key: ∀n j:Nat,j≤n→ ∀y,zs[j]? =some y→y∈((List.range zs.length).filter (Lib.keeps zs.toArray)).map fun j=>zs.getD j 0:=fun n=>by
   induction n with
   |zero=>
    intro j hj y hy
    have :=(List.getElem?_eq_some_iff.1 hy).1
    exact List.mem_map.2 ⟨j,List.mem_filter.2 ⟨List.mem_range.2 this,(keeps_iff zs j).2 (.inl (by omega))⟩,by simp [List.getD,hy]⟩
   |succ n ih=>
    intro j hj y hy
    have hl:=(List.getElem?_eq_some_iff.1 hy).1
    by_cases hk:j=0∨zs.getD j 0≠zs.getD (j-1) 0
    ·exact List.mem_map.2 ⟨j,List.mem_filter.2 ⟨List.mem_range.2 hl,(keeps_iff zs j).2 hk⟩,by simp [List.getD,hy]⟩
    ·refine ih (j-1) (by omega) y ?_
     have h1:zs.getD j 0=zs.getD (j-1) 0:=Classical.not_not.1 fun e=>hk (.inr e)
     have h2:j-1<zs.length:=by omega
     rw [List.getElem?_eq_getElem h2]
     simp only [List.getD,hy,List.getElem?_eq_getElem h2,Option.getD_some] at h1
     rw [h1]
  exact key j j (Nat.le_refl _) x hj
theorem compact_len (zs:List Int):(Lib.compact zs).length≤zs.length:=by
 rw [compact_def,List.length_map]
 exact Nat.le_trans (List.length_filter_le _ _) (by simp)
def sortL (xs:List Int):List Int:=xs.mergeSort fun x y=>decide (x≤y)
theorem sortL_asc (xs:List Int):(sortL xs).Pairwise (· ≤ ·):=
 (List.pairwise_mergeSort (le:=fun (x y:Int)=>decide (x≤y)) (fun x y z h1 h2=>by simp at *;omega) (fun x y=>by simp;omega) xs).imp fun h=>by simpa using h
theorem encInt (xs:List Int):encK 1 eInt xs=xs.map (Value.int .i64):=by
 induction xs with
 |nil=>rfl
 |cons x t ih=>rw [encK_cons,ih];rfl
section
variable {w:World} {B g n cap:Nat} {xs:List Int}
theorem own_holds (h:OwnL 3 1 eInt w B (.slice (some ⟨g,0,none⟩) n cap) xs):Holds (Value.int .i64) w g 0 xs.toArray∧n=xs.length∧xs.length≤cap∧B≤g∧g<w.heap.size:=by
 rcases h.row with ⟨hv, -⟩|⟨g',cap',hv,h1,h2,h3,h4⟩
 ·cases hv
 cases hv
 refine ⟨fun j hj=> ?_,rfl,h3,h1,h2⟩
 have hj':j<xs.length:=by simpa using hj
 obtain ⟨a,b⟩:=h4 j _ (List.getElem?_eq_getElem hj') 0 (by decide)
 simp only [Nat.mul_one,Nat.add_zero] at a b
 rw [Nat.zero_add]
 refine ⟨?_,b⟩
 rw [a]
 simp [eInt,hj']
theorem sort_own (h:OwnL 3 1 eInt w B (.slice (some ⟨g,0,none⟩) n cap) xs) (hn:n≤1000000):
  Calls Tryz.prog 92 #[.slice (some ⟨g,0,none⟩) n cap] w fun e w'=>e= .returned (.tuple #[])∧OwnL 3 1 eInt w' B (.slice (some ⟨g,0,none⟩) n cap) (sortL xs)∧w.grownBy w' (some g):=by
 obtain ⟨hH,rfl,hc,hB,hg⟩:=own_holds h
 refine (Tryz.slices_Sort_int g 0 cap xs w hH hg (by omega)).mono ?_
 rintro e w' ⟨rfl,m,os,rfl⟩
 refine ⟨rfl, ?_,grownBy_sortedI _⟩
 rcases h.2 with ⟨hv, -⟩|⟨g',cap',cur,hv,hB',hb,h1,h2,h3, -⟩
 ·cases hv
 cases hv
 have :=ownsRow_sortedI (base:=B) (n:=m) (os:=os) (ts:=sortL xs) (ss:=xs) (List.length_mergeSort xs) hB' hb h1 h2 h3
 unfold OwnL
 rw [encInt,show (sortL xs).length=xs.length from List.length_mergeSort xs]
 exact this
theorem compact_own (h:OwnL 3 1 eInt w B (.slice (some ⟨g,0,none⟩) n cap) xs) (hn:n≤1000000):
  Calls Tryz.prog 93 #[.slice (some ⟨g,0,none⟩) n cap] w fun e w'=>e= .returned (.slice (some ⟨g,0,none⟩) (Lib.compact xs).length cap)∧IntsAt w' (some ⟨g,0,none⟩) (Lib.compact xs)∧w.grownBy w' (some g):=by
 obtain ⟨hH,rfl,hc,hB,hg⟩:=own_holds h
 have hle:=compact_len xs
 refine (Tryz.slices_Compact_int g 0 cap xs w hH (by omega) hc).mono ?_
 rintro e w' ⟨rfl,q,rfl⟩
 have hgb:=grownBy_sortedI (w:=w) (g:=g) (n:=q) (os:=#[]) (Lib.compact xs++List.replicate (xs.length-(Lib.compact xs).length) 0).toArray
 rw [grow_empty] at hgb
 refine ⟨rfl,fun h0=>⟨g,0,rfl,by simpa using hg,fun i x hx j hj=> ?_⟩,hgb⟩
 obtain rfl:j=0:=by omega
 have hil:=(List.getElem?_eq_some_iff.1 hx).1
 have :=cell?_putRow (Value.int .i64) (Sort.ahead w q) g 0 xs.toArray (Lib.compact xs++List.replicate (xs.length-(Lib.compact xs).length) 0).toArray hH (by simp;omega) i (by simp;omega)
 rw [Nat.mul_one,Nat.add_zero]
 rw [this]
 have e:(Lib.compact xs++List.replicate (xs.length-(Lib.compact xs).length) 0).toArray[i]! =x:=by
  simp [getElem!_def,List.getElem?_append_left hil,hx]
 rw [e];rfl
end
end Go.Proofs.YtfamcohbnoibaaaGreatDoor
namespace Go.Proofs.YtfamcohbnoibaaaGreatDoor
open Go.RowKit Go.Sort
theorem run_append_none {P:Program} {w:World} (t ty e:TypeId) (i:TypeInfo) (ht:P.underlying t=some (.slice e)) (hi:P.info? e=some i) (A:Addr) (n cap:Nat) (hn:n≤cap) (a:Option Addr) (c:Nat):
  (Builtin.append_ #[t,t] ty #[.slice (some A) n cap,.slice a 0 c]).run P w= .ok (.slice (some A) n cap) w:=by
 cases a<;>simp [Builtin.append_,run_underlying ht,sizeOf,typeInfo,hi,Builtin.lenOf,Builtin.firstCells,loadCells,loadCellsFrom,storeCells,hn]
section
variable {α:Type} {k:Nat} {e:α→Nat→Value}
theorem wp_append_none {S T:TypeId} (K:KindOk S T k e) {ops:Array Oper} {rest:List Oper} {o:Oper} {a:Act} {Q:Exit→Act→World→Prop} (w:World) (hgd:o.guard=none) (s x:Operand)
  (ho:o.op= .call {callee:= .builtin .append,args:=#[s,x],argTypes:=#[S,S]}) (A:Addr) (n cap:Nat) (hs:a.eval s= .slice (some A) n cap) (hn:n≤cap) (a2:Option Addr) (c2:Nat) (hx:a.eval x= .slice a2 0 c2)
  (h:wpList Tryz.prog ops Q rest (a.put o.dst (.slice (some A) n cap)) w):wpList Tryz.prog ops Q (o::rest) a w:=by
 obtain ⟨i0,z,bytes,hi,hz0,hz1,hz2,hzz,hk2⟩:=K.info
 refine wpList_plain hgd fun K' hK=> ?_
 have hrun:=run_append_none (P:= Tryz.prog) (w:=w) S o.type T i0 K.under hi A n cap hn a2 c2
 unfold Oper.wp
 simp [execOp,ho,resolve,invoke,builtin,hs,hx,hrun,Result.andThen]
 exact hK _ _ h
end
def cutL (f t:Int) (hs:List Int) (set:List (Int×Int)):List Int:=Lib.compact (sortL (([f,t]++hs)++set.flatMap fun s=>[s.1,s.2]))
theorem own_two (w:World) (f t:Int):OwnL 3 1 eInt (w.alloc (.cells #[.int .i64 f,.int .i64 t] 3)) w.heap.size (.slice (some ⟨w.heap.size,0,none⟩) 2 2) [f,t]:=
 ⟨rfl,.inr ⟨w.heap.size,2,#[.int .i64 f,.int .i64 t],rfl,Nat.le_refl _,BlkAt.new w _ _,Nat.le_refl _,by decide,rfl,rfl⟩⟩
theorem two_new {W:World} {B:Nat} {a b:Int} {T:TypeId} (h:W.heap.size=B): ∀i x,[a,b][i]? =some x→ ∀j,j<1→(W.alloc (.cells #[.int .i64 a,.int .i64 b] T)).cell? ⟨B,0+i*1+j,none⟩=some (eInt x j):=fun i x hx j hj=>by
 obtain rfl:j=0:=by omega
 subst h
 have hB:=BlkAt.new W #[.int .i64 a,.int .i64 b] T
 rcases i with _|_|i
 ·simp at hx;subst hx;exact hB.cell rfl
 ·simp at hx;subst hx;exact hB.cell rfl
 ·simp at hx
theorem stp_sort {w w1 w2:World} {g n cap:Nat} (h:Stp w w1 (.slice none 0 0) (.slice (some ⟨g,0,none⟩) n cap)) (hb:Below w.heap.size w w1) (hg:w1.grownBy w2 (some g)):Below w.heap.size w w2:=
 hb.grown hg hb.size fun k hk=>by
  cases hk
  rcases h.2 g rfl with h1|h1
  ·cases h1
  ·exact h1
def CutsV (f t:Int) (hs:List Int) (set:List (Int×Int)) (w:World) (e:Ending) (w':World):Prop:= ∃(A:Option Addr) (c:Nat),e= .returned (.slice A (cutL f t hs set).length c)∧IntsAt w' A (cutL f t hs set)∧(cutL f t hs set).length≤c∧Below w.heap.size w w'
set_option maxHeartbeats 8000000 in
theorem cuts_is (f t:Int) (A1:Option Addr) (n1 c1:Nat) (set:List (Int×Int)) (A2:Option Addr) (n2 c2:Nat) (hs:List Int) (w:World) (h1:PairsAt w A1 set) (h2:IntsAt w A2 hs) (e1:set.length=n1) (e2:hs.length=n2) (b1:n1≤100000) (b2:n2≤100000):
  Calls Tryz.prog 60 #[.int .i64 f,.int .i64 t,.slice A1 n1 c1,.slice A2 n2 c2] w (CutsV f t hs set w):=by
 have H1:=Lib.hid h1;have H2:=Lib.hid h2;have E1:=Lib.hid e1;have E2:=Lib.hid e2
 clear h1 h2 e1 e2
 go_enter Tryz.func60,Tryz.ntmps60
 go_upto_region 1 with fail
 go_cut [9,12,13,14,15,16] (fun v9 v12 v13 v14 v15 v16 wx=> ∃(g cap:Nat),v9= .slice (some ⟨g,0,none⟩) (2+n2) cap∧Hid (OwnL 3 1 eInt wx w.heap.size (.slice (some ⟨g,0,none⟩) (2+n2) cap) ([f,t]++hs))∧Hid (Stp w wx (.slice none 0 0) (.slice (some ⟨g,0,none⟩) (2+n2) cap))∧Hid (Below w.heap.size w wx))
 case first =>
  have hO:=own_two w f t
  have hG:Stp w (w.alloc (.cells #[.int .i64 f,.int .i64 t] 3)) (.slice none 0 0) (.slice (some ⟨w.heap.size,0,none⟩) 2 2):=⟨grown_alloc (grown_refl _ _) _,fun g hg=> .inr (by cases hg;exact Nat.le_refl _)⟩
  have hb:=(Below.refl w.heap.size w).alloc (Nat.le_refl _) (.cells #[.int .i64 f,.int .i64 t] 3)
  have HO:=Lib.hid hO;have HG:=Lib.hid hG;have HB:=Lib.hid hb
  rcases Nat.eq_zero_or_pos n2 with h0|h0
  ·subst h0
   have HN:=Lib.hid (List.eq_nil_of_length_eq_zero E2.out)
   clear hO hG hb
   go_wp2_with (at_builtin;refine wp_append_none kInt _ rfl _ _ rfl ⟨w.heap.size,0,none⟩ 2 2 rfl (Nat.le_refl _) A2 c2 rfl ?_)
   go_meet
   exact ⟨w.heap.size,2,rfl,Lib.hid (by rw [HN.out];exact HO.out),HG,HB⟩
  ·obtain ⟨bk,of,rfl,hbk,hcc⟩:=H2.out (by have :=E2.out;omega)
   have HC:=Lib.hid (show ∀i x,hs[i]? =some x→ ∀j,j<1→(w.alloc (.cells #[.int .i64 f,.int .i64 t] 3)).cell? ⟨bk,of+i*1+j,none⟩=some (eInt x j) from fun i x hx j hj=>(((Below.refl w.heap.size w).alloc (Nat.le_refl _) _).cell (p:=⟨bk,of+i*1+j,none⟩) hbk).trans (hcc i x hx j hj))
   clear hO hG hb hcc
   go_wp2_with (at_builtin;refine wp_append_k kInt _ rfl _ _ rfl w.heap.size _ [f,t] rfl HO.out bk of n2 c2 hs E2.out h0 rfl HC.out (by simp;omega) (by simp) ?_;intro g cap w3 hO3 hB3 hg3 hgo _)
   go_meet
   refine ⟨g,cap,rfl,Lib.hid hO3,Lib.hid (HG.out.trans ⟨hg3,fun g' h=> ?_⟩),Lib.hid (HB.out.trans hB3)⟩
   simp only [Value.ownBlock,Option.some.injEq] at h
   subst h
   rcases hgo with h|h
   ·exact .inl h
   ·exact .inr (Nat.le_of_eq h.symm)
 case rest=>
  obtain ⟨g,cap,rfl,HO,HG,HB⟩:=hcut
  go_wp2_with fail
  go_loopw [9,19] (fun v i wr=> ∃(k g m cap:Nat) (ys:List Int),i= .int .i64 k∧k≤n1∧v= .slice (some ⟨g,0,none⟩) m cap∧m≤2+n2+2*k∧Hid (([f,t]++hs)++(set.take k).flatMap (fun s=>[s.1,s.2])=ys)∧Hid (OwnL 3 1 eInt wr w.heap.size (.slice (some ⟨g,0,none⟩) m cap) ys)∧Hid (Stp w wr (.slice none 0 0) (.slice (some ⟨g,0,none⟩) m cap))∧Hid (Below w.heap.size w wr)) (fun _ i _=>n1-(intOf i).toNat)
  case atStart=>exact ⟨0,g,2+n2,cap,[f,t]++hs,rfl,Nat.zero_le _,rfl,by omega,Lib.hid (by simp),HO,HG,HB⟩
  case round=>
   clear HO HG HB
   obtain ⟨k,g,m,cap,ys,rfl,hk,rfl,hmk,HE,HO,HG,HB⟩:=hrel
   have hsz:=HB.out.size
   have hmy:=(own_holds HO.out).2.1
   have HM:=Lib.hid hmy
   clear hmy
   by_cases hlt:k<n1
   ·obtain ⟨⟨a,b⟩,hx⟩:=get_ex (xs:=set) (i:=k) (by have :=E1.out;omega)
    obtain ⟨bk,of,rfl,hbk,hcc⟩:=(H1.out.below HB.out) (by have :=E1.out;omega)
    obtain ⟨s0,s1⟩:=pair_cells (hcc k _ hx)
    simp only at s0 s1
    have HE2:=Lib.hid (show ([f,t]++hs)++(set.take (k+1)).flatMap (fun s=>[s.1,s.2])=ys++[a,b] by rw [take_snoc' hx,List.flatMap_append, ←List.append_assoc,HE.out];rfl)
    clear hcc hx HE
    go_wp2_with (at_builtin;refine wp_append_k kInt _ rfl _ _ rfl w.heap.size _ ys rfl ((HO.out.alloc _).alloc _) (wr.heap.size+1) 0 2 2 [a,b] rfl (by omega) rfl (two_new (by simp)) (by have :=HM.out;omega) (by simp;omega) ?_;intro gg cap2 w3 hO3 hB3 hg3 hgo _)
    go_roundw
    case rel=>exact ⟨k+1,gg,ys.length+2,cap2,ys++[a,b],by go_num,by omega,rfl,by have :=HM.out;omega,HE2,Lib.hid hO3,Lib.hid (((HG.out.alloc (.cells #[.int .i64 a,.int .i64 b] 82)).alloc (.cells #[.int .i64 a,.int .i64 b] 3)).trans ⟨hg3,fun g' h=>(by simp only [Value.ownBlock,Option.some.injEq] at h;subst h;rcases hgo with h|h;exact .inl h;exact .inr (Nat.le_of_eq h.symm))⟩),Lib.hid (((HB.out.alloc hsz (.cells #[.int .i64 a,.int .i64 b] 82)).alloc (by simp;omega) (.cells #[.int .i64 a,.int .i64 b] 3)).trans hB3)⟩
    case measure=>simp [intOf];omega
   ·have HE2:=Lib.hid (show cutL f t hs set=Lib.compact (sortL ys) by unfold cutL;rw [←HE.out,List.take_of_length_le (by have :=E1.out;omega)])
    have hcl:=Nat.le_trans (compact_len (sortL ys)) (Nat.le_of_eq (List.length_mergeSort ys))
    have HCL:=Lib.hid hcl
    have HCP:=Lib.hid (own_holds HO.out).2.2.1
    clear hcl HE
    go_wp2_with (first|(go_at_call 92;refine (sort_own HO.out (by omega)).mono ?_;rintro e w5 ⟨rfl,hO5,hg5⟩;have HO5:=Lib.hid hO5;have HB5:=Lib.hid (stp_sort HG.out HB.out hg5);have HG5:=Lib.hid (show Stp w w5 (.slice none 0 0) (.slice (some ⟨g,0,none⟩) m cap) from HG.out.trans ⟨hg5,fun _ h=> .inl h⟩);clear hO5 hg5)|(go_at_call 93;refine (compact_own HO5.out (by omega)).mono ?_;rintro e w6 ⟨rfl,hi6,hg6⟩;have HI6:=Lib.hid hi6;have HB6:=Lib.hid (stp_sort HG5.out HB5.out hg6);clear hi6 hg6))
    go_ret
    exact ⟨some ⟨g,0,none⟩,cap,by rw [HE2.out];rfl,by rw [HE2.out];exact HI6.out,by rw [HE2.out];exact Nat.le_trans HCL.out HCP.out,HB6.out⟩
end Go.Proofs.YtfamcohbnoibaaaGreatDoor
