import Derived.Test.YtfamcohbnoibaaaGreatDoorKZse
import Derived.Test.YtfamcohbnoibaaaGreatDoorKZnk
set_option linter.unusedVariables false
set_option linter.unusedSimpArgs false
namespace Go.Proofs.YtfamcohbnoibaaaGreatDoor
open Go.RowKit
namespace Zs
open Go.Sort
theorem getB (d:Array (Int×Int)) (i:Nat):d[i]! =d.toList.getD i (0,0):=by
 rcases Nat.lt_or_ge i d.size with h|h
 ·simp [List.getD,h,getElem!_pos]
 ·rw [getElem!_neg d i (by omega)]
  simp [List.getD,h]
  rfl
theorem toList_swp (d:Array (Int×Int)) (i j:Nat):(swp d i j).toList=sw d.toList i j:=by
 unfold swp sw
 rw [getB,getB]
 simp
theorem adj_sb (l:L) (j:Nat) (h:j+1<l.length) (hlt:(l.getD (j+1) (0,0)).1<(l.getD j (0,0)).1):Sb (sw l (j+1) j) l:=by
 obtain ⟨u,hu⟩: ∃u,l.getD j (0,0)=u:=⟨_,rfl⟩
 obtain ⟨v,hv⟩: ∃v,l.getD (j+1) (0,0)=v:=⟨_,rfl⟩
 rw [hu,hv] at hlt
 have e:l=l.take j++u::([]++v::l.drop (j+2)):=by
  conv=>lhs;rw [←List.take_append_drop j l,drop_cons l j (by omega),drop_cons l (j+1) h,hu,hv]
  rfl
 have e2:sw l (j+1) j=l.take j++v::([]++u::l.drop (j+2)):=by
  conv=>lhs;rw [e]
  exact sw_mid' _ _ _ _ _ j (j+1) (by rw [List.length_take];omega) (by rw [List.length_take];simp;omega)
 rw [e2]
 conv=>rhs;rw [e]
 refine (Sb.refl (l.take j)).app ?_
 intro k
 have f:=Sb.flip (A:=[u]) (B:=[v]) (fun x hx y hy=>by simp at hx hy;subst hx;subst hy;exact hlt) k
 simp only [List.nil_append,ff_cons,ff_app,ff_nil,List.singleton_append] at f ⊢
 by_cases h1:v.1=k<;>by_cases h2:u.1=k<;>simp [h1,h2] at f ⊢
 omega
variable {lt:(Int×Int)→(Int×Int)→Bool}
theorem inner_size (a:Nat): ∀(i:Nat) (d:Array (Int×Int)),(insInner lt a i d).size=d.size
 |0,d=>rfl
 |j+1,d=>by
  unfold insInner
  by_cases h:(decide (j+1>a)&&lt d[j+1]! d[j]!)=true
  ·rw [if_pos h,inner_size a j,size_swp]
  ·rw [if_neg h]
theorem inner_sb (hlt: ∀x y,lt x y=true→x.1<y.1) (a:Nat): ∀(i:Nat) (d:Array (Int×Int)),i<d.size→Sb (insInner lt a i d).toList d.toList
 |0,d,_=>Sb.refl _
 |j+1,d,hi=>by
  unfold insInner
  by_cases h:(decide (j+1>a)&&lt d[j+1]! d[j]!)=true
  ·rw [if_pos h]
   refine (inner_sb hlt a j _ (by rw [size_swp];omega)).trans ?_
   rw [toList_swp]
   have h2:=hlt _ _ (Bool.and_eq_true_iff.1 h).2
   rw [getB,getB] at h2
   exact adj_sb _ j (by simpa using hi) h2
  ·rw [if_neg h];exact Sb.refl _
theorem outer_sb (hlt: ∀x y,lt x y=true→x.1<y.1) (a b:Nat) (k:Nat): ∀(i:Nat) (d:Array (Int×Int)),b-i=k→b≤d.size→Sb (insOuter lt a b i d).toList d.toList:=by
 induction k with
 |zero=>intro i d h hb;rw [insOuter,if_neg (by omega)];exact Sb.refl _
 |succ k ih=>
  intro i d h hb
  rw [insOuter,if_pos (by omega)]
  exact (ih (i+1) _ (by omega) (by rw [inner_size];exact hb)).trans (inner_sb hlt a i d (by omega))
theorem ins_row (hS:SWO lt) (hlt: ∀x y,lt x y=true→x.1<y.1) (hle: ∀x y,lt x y=false→y.1≤x.1) (P X S:L) (a b:Nat) (ha:P.length=a) (hb:a+X.length=b):
  (insertionSort lt (P++(X++S)).toArray a b).toList=P++(srt X++S):=by
 obtain ⟨hp,hs⟩:=insertionSort_holds (lt:=lt) hS (P++(X++S)).toArray a b (by omega) (by simp;omega)
 have hsb:=outer_sb hlt a b _ (a+1) (P++(X++S)).toArray rfl (by simp;omega)
 change Sb (insertionSort lt (P++(X++S)).toArray a b).toList _ at hsb
 obtain ⟨h1,h2, -⟩:=hp
 obtain ⟨l',hl'⟩: ∃l',(insertionSort lt (P++(X++S)).toArray a b).toList=l':=⟨_,rfl⟩
 have hget: ∀i,(insertionSort lt (P++(X++S)).toArray a b)[i]! =l'.getD i (0,0):=fun i=>by rw [getB,hl']
 have hlen:l'.length=P.length+X.length+S.length:=by rw [←hl'];simp only [Array.length_toList];rw [h1];simp;omega
 have hout: ∀i,i<a∨b≤i→l'.getD i (0,0)=(P++(X++S)).getD i (0,0):=fun i hi=>by
  have :=h2 i hi
  rw [hget,getB] at this
  exact this
 rw [hl'] at hsb ⊢
 have e:l'=l'.take a++((l'.drop a).take (b-a)++l'.drop b):=by
  conv=>lhs;rw [←List.take_append_drop a l', ←List.take_append_drop (b-a) (l'.drop a),List.drop_drop]
  rw [show a+(b-a)=b by omega]
 have ext: ∀{u v:L},u.length=v.length→(∀i,i<u.length→u.getD i (0,0)=v.getD i (0,0))→u=v:=fun {u v} h0 h=>by
  refine List.ext_getElem h0 fun i hi hj=> ?_
  have :=h i hi
  simpa [List.getD,hi,hj] using this
 have eP:l'.take a=P:=by
  refine ext (by rw [List.length_take];omega) fun i hi=> ?_
  rw [List.length_take] at hi
  rw [get_take (by omega),hout i (.inl (by omega))]
  exact get_A [] P (X++S) i i (by simp) (by omega)
 have eS:l'.drop b=S:=by
  refine ext (by rw [List.length_drop];omega) fun i hi=> ?_
  rw [List.length_drop] at hi
  rw [get_drop,hout _ (.inr (by omega))]
  have :=get_B P X S [] (b+i) i (by omega) (by omega)
  simpa using this
 rw [eP,eS] at e
 have eX:(l'.drop a).take (b-a)=srt X:=by
  refine srt_of ?_ ?_
  ·refine List.pairwise_iff_getElem.2 fun i j hi hj hij=> ?_
   rw [List.length_take,List.length_drop] at hi hj
   have :=hle _ _ (hs (a+i) (a+j) (by omega) (by omega) (by omega))
   rw [hget,hget] at this
   simpa [List.getD,show a+i<l'.length by omega,show a+j<l'.length by omega] using this
  ·rw [e] at hsb
   exact Sb.cut (P:=P) (S:=S) (by simpa using hsb)
 rw [eX] at e
 exact e
end Zs
def encS (x:Int×Int):List Value:=[.int .i64 x.1,.int .i64 x.2]
open Go.Shelf Go.Lib Go.Sort in
theorem closure_lays (blk off size:Nat) (w:World):CmpLays Tryz.prog 177 #[] encS 2 (fun x y=>Lib.compareInt x.1 y.1) blk off size w:=
 fun _ _ _ _ x y=>closure_any x y _
open Go.Shelf Go.Lib Go.Sort in
theorem lt_from (x y:Int×Int):ltOf (fun x y:Int×Int=>Lib.compareInt x.1 y.1) x y=decide (x.1<y.1):=by
 unfold ltOf Lib.compareInt
 by_cases h1:x.1<y.1
 ·simp [h1]
 ·by_cases h2:y.1<x.1<;>simp [h1,h2]
open Go.Shelf Go.Lib Go.Sort in
theorem swo_from:SWO (ltOf fun x y:Int×Int=>Lib.compareInt x.1 y.1) where
 irrefl x:=by rw [lt_from];simp
 trans x y z h1 h2:=by rw [lt_from] at *;simp at *;omega
 ntrans x y z h1 h2:=by rw [lt_from] at *;simp at *;omega
open Go.Shelf Go.Lib Go.Sort in
theorem holds_of {w:World} {g:Nat} {ys:Zs.L} (h:RowAt w g ys):HoldsK encS 2 w g 0 ys.toArray:=by
 intro j hj
 rw [size_flatK] at hj
 have hj':j<ys.length*2:=by simpa using hj
 have e:=get_flatK encS 2 ys.toArray j hj
 have hk:j/2<ys.length:=by omega
 obtain ⟨a,b,c,d⟩:=h.2 (j/2) hk
 have e2:ys.toArray[j/2]! =ys.getD (j/2) (0,0):=Zs.getB _ _
 rw [e,e2,Nat.zero_add]
 have hjm:j%2=0∨j%2=1:=by omega
 rcases hjm with hm|hm
 ·rw [hm]
  rw [show j/2*2=j by omega] at a c
  exact ⟨a,c⟩
 ·rw [hm]
  rw [show j/2*2+1=j by omega] at b d
  exact ⟨b,d⟩
open Go.Shelf Go.Lib Go.Sort in
theorem of_holds {w:World} {g:Nat} {d:Array (Int×Int)} (hg:g<w.heap.size) (h:HoldsK encS 2 w g 0 d):RowAt w g d.toList:=by
 refine ⟨hg,fun k hk=> ?_⟩
 have hk':k<d.size:=by simpa using hk
 have a:=h.cell (i:=k) (c:=0) hk' (by omega)
 have b:=h.cell (i:=k) (c:=1) hk' (by omega)
 have e2:d[k]! =d.toList.getD k (0,0):=Zs.getB _ _
 rw [e2,Nat.zero_add,Nat.add_zero] at a
 rw [e2,Nat.zero_add] at b
 exact ⟨a.1,b.1,a.2,b.2⟩
open Go.Shelf Go.Lib Go.Sort in
theorem below_sorted {w:World} {g n:Nat} {d:Array (Int×Int)} {os:Array Obj} {B:Nat} (hB:B≤g) (hBw:B≤w.heap.size):RowKit.Below B w (sortWorldK encS 2 w g 0 n d os):=by
 refine ⟨rfl,rfl,rfl,by simp [sortWorldK,grow,putRowK,putRow,mapBlock,ahead],fun k hk=> ?_⟩
 show ((w.heap.modify g _)++os)[k]? =w.heap[k]?
 rw [Array.getElem?_append_left (by simp;omega),Array.getElem?_modify,if_neg (by omega)]
open Go.Shelf Go.Lib Go.Sort in
theorem ins_any (g cap len a b:Nat) (P X S:Zs.L) (w:World) (hR:RowAt w g (P++(X++S))) (hl:P.length+X.length+S.length=len) (hn:len≤100000) (ha:P.length=a) (hb:a+X.length=b):
  Calls Tryz.prog 247 #[.slice (some ⟨g,0,none⟩) len cap,.int .i64 a,.int .i64 b,.func (.func 177) #[] #[]] w fun e w'=>e= .returned (.tuple #[])∧Sor w g w' (P++(Zs.srt X++S)):=by
 have eg: ∀args w,(callFunc 177 args).run Tryz.prog w= .ok (.enter 177 args) w:=enters_of Tryz.func177 (by kernel_rfl) rfl
 have hsz:(P++(X++S)).toArray.size=len:=by simp;omega
 have hcon:=AnyQ.insertionSortCmpFunc Tryz.insOcc 2 Tryz.isAgg200 Tryz.sizeOf200 encS (fun _=>rfl) (fun x v hv=>by simp [encS] at hv;rcases hv with rfl|rfl<;>rfl) (fun x y=>Lib.compareInt x.1 y.1) 177 #[] g 0 cap a b (P++(X++S)).toArray w eg (closure_lays g 0 _ w) (holds_of hR) hR.1 (by omega) (by omega) (by omega)
 change Calls Tryz.prog 247 _ _ _ at hcon
 rw [hsz] at hcon
 refine hcon.mono ?_
 rintro e w' ⟨rfl,n,os,rfl⟩
 have hrow:=Zs.ins_row swo_from (fun x y h=>by rw [lt_from] at h;simpa using h) (fun x y h=>by rw [lt_from] at h;simpa using h) P X S a b ha hb
 have hH:HoldsK encS 2 (sortWorldK encS 2 w g 0 n (insertionSort (ltOf fun x y:Int×Int=>Lib.compareInt x.1 y.1) (P++(X++S)).toArray a b) os) g 0 (insertionSort (ltOf fun x y:Int×Int=>Lib.compareInt x.1 y.1) (P++(X++S)).toArray a b):=
  holdsK_grow encS 2 _ os g 0 _ (by simpa [putRowK,putRow,mapBlock,ahead] using hR.1) (holdsK_putRowK encS 2 _ g 0 (P++(X++S)).toArray _ (holds_of hR) (by
   have :=congrArg List.length hrow
   simp only [Array.length_toList,List.length_append,Zs.srt_len] at this
   rw [this];simp))
 have hb':=below_sorted (w:=w) (g:=g) (n:=n) (d:=insertionSort (ltOf fun x y:Int×Int=>Lib.compareInt x.1 y.1) (P++(X++S)).toArray a b) (os:=os) (B:=g) (Nat.le_refl _) (Nat.le_of_lt hR.1)
 have hrr:=of_holds (Nat.lt_of_lt_of_le hR.1 hb'.size) hH
 rw [hrow] at hrr
 exact ⟨rfl,hrr,fun B h1=>below_sorted h1 (Nat.le_trans h1 (Nat.le_of_lt hR.1))⟩
end Go.Proofs.YtfamcohbnoibaaaGreatDoor
namespace Go.Proofs.YtfamcohbnoibaaaGreatDoor
open Go.RowKit
namespace Zs
theorem Blk.snoc {n:Nat} {bl:List L} {A:L} (h:Blk n bl) (hl:A.length=n) (hA:Asc A):Blk n (bl++[A]):=fun B hB=>by
 rcases List.mem_append.1 hB with h1|h1
 ·exact h B h1
 ·simp at h1;subst h1;exact ⟨hl,hA⟩
theorem Blk.nil {n:Nat}:Blk n []:=fun A h=>by cases h
theorem Blk.tail {n:Nat} {A:L} {bl:List L} (h:Blk n (A::bl)):Blk n bl:=fun B hB=>h B (by simp [hB])
end Zs
def St1 (w:World) (g:Nat) (l:Zs.L) (n a:Nat) (W:World):Prop:=
 ∃(bl:List Zs.L) (R:Zs.L),bl.flatten.length=a∧Zs.Blk 20 bl∧a+R.length=n∧Zs.Sb (bl.flatten++R) l∧Sor w g W (bl.flatten++R)
def St2 (w:World) (g:Nat) (l:Zs.L) (n bs:Nat) (W:World):Prop:=
 ∃r:Zs.L,Zs.Runs bs r∧r.length=n∧Zs.Sb r l∧Sor w g W r
def St3 (w:World) (g:Nat) (l:Zs.L) (n bs c a:Nat) (W:World):Prop:=
 ∃(q bl:List Zs.L) (S:Zs.L),q.flatten.length=a∧Zs.Blk c q∧Zs.Blk bs bl∧S.length<bs∧Zs.Asc S∧a+bl.length*bs+S.length=n∧Zs.Sb (q.flatten++(bl.flatten++S)) l∧Sor w g W (q.flatten++(bl.flatten++S))
def Go' (f:FuncId) (args:Array Value) (W:World) (Q:World→Prop):Prop:=Calls Tryz.prog f args W fun e w'=>e= .returned (.tuple #[])∧Q w'
theorem st1_step {w W:World} {g cap n a:Nat} {l:Zs.L} (hn:n≤100000) (h:St1 w g l n a W) (ha:a+20≤n):
  Go' 247 #[.slice (some ⟨g,0,none⟩) n cap,.int .i64 a,.int .i64 (a+20:Nat),.func (.func 177) #[] #[]] W (St1 w g l n (a+20)):=by
 obtain ⟨bl,R,h1,h2,h3,h4,h5⟩:=h
 have e:R=R.take 20++R.drop 20:=(List.take_append_drop 20 R).symm
 have lt:(R.take 20).length=20:=by rw [List.length_take];omega
 have ld:(R.drop 20).length=R.length-20:=by rw [List.length_drop]
 have hr:=h5.1
 rw [e] at hr
 refine (ins_any g cap n a (a+20) bl.flatten (R.take 20) (R.drop 20) W hr (by omega) hn h1 (by omega)).mono ?_
 rintro e w' ⟨rfl,hs⟩
 refine ⟨rfl,bl++[Zs.srt (R.take 20)],R.drop 20,by simp [Zs.srt_len, -List.length_flatten];omega,h2.snoc (by rw [Zs.srt_len];exact lt) (Zs.srt_asc _),by omega, ?_, ?_⟩
 ·refine Zs.Sb.trans ?_ h4
  rw [List.flatten_append,List.flatten_singleton,List.append_assoc]
  refine (Zs.Sb.refl _).app ?_
  conv=>rhs;rw [‹R=_›]
  exact (Zs.srt_sb _).app (Zs.Sb.refl _)
 ·rw [List.flatten_append,List.flatten_singleton,List.append_assoc]
  exact h5.trans hs
theorem st1_last {w W:World} {g cap n a:Nat} {l:Zs.L} (hn:n≤100000) (h:St1 w g l n a W) (ha:n<a+20):
  Go' 247 #[.slice (some ⟨g,0,none⟩) n cap,.int .i64 a,.int .i64 n,.func (.func 177) #[] #[]] W (St2 w g l n 20):=by
 obtain ⟨bl,R,h1,h2,h3,h4,h5⟩:=h
 have hr:=h5.1
 rw [←List.append_nil R] at hr
 refine (ins_any g cap n a n bl.flatten R [] W hr (by simp [-List.length_flatten];omega) hn h1 (by omega)).mono ?_
 rintro e w' ⟨rfl,hs⟩
 rw [List.append_nil] at hs
 refine ⟨rfl,bl.flatten++Zs.srt R,⟨bl,_,rfl,h2,by rw [Zs.srt_len];omega,Zs.srt_asc _⟩,by simp [Zs.srt_len, -List.length_flatten];omega, ?_,h5.trans hs⟩
 exact ((Zs.Sb.refl _).app (Zs.srt_sb _)).trans h4
theorem st3_start {w W:World} {g n bs c:Nat} {l:Zs.L} (h:St2 w g l n bs W):St3 w g l n bs c 0 W:=by
 obtain ⟨r,⟨bl,S,rfl,hb,hS,hA⟩,hl,hsb,hs⟩:=h
 have :=Zs.flat_len hb
 rw [List.length_append] at hl
 exact ⟨[],bl,S,rfl,Zs.Blk.nil,hb,hS,hA,by omega,by simpa using hsb,by simpa using hs⟩
theorem st3_step {w W:World} {g cap n bs c a:Nat} {l:Zs.L} (hn:n≤100000) (hbs:0<bs) (hc:c=2*bs) (h:St3 w g l n bs c a W) (ha:a+c≤n):
  Go' 248 #[.slice (some ⟨g,0,none⟩) n cap,.int .i64 a,.int .i64 (a+bs:Nat),.int .i64 (a+c:Nat),.func (.func 177) #[] #[]] W (St3 w g l n bs c (a+c)):=by
 obtain ⟨q,bl,S,h1,h2,h3,h4,h5,h6,h7,h8⟩:=h
 rcases bl with _|⟨A,_|⟨B,bl⟩⟩
 ·simp at h6;omega
 ·simp at h6;omega
 have hA:=h3 A (by simp)
 have hB:=h3 B (by simp)
 have e:q.flatten++((A::B::bl).flatten++S)=q.flatten++(A++(B++(bl.flatten++S))):=by simp
 have hr:=h8.1
 rw [e] at hr
 have hfl:=Zs.flat_len h3.tail.tail
 have hlen:a+(bs+(bs+(bl.length*bs+S.length)))=n:=by
  have :(A::B::bl).length*bs=bl.length*bs+bs+bs:=by simp only [List.length_cons,Nat.add_mul,Nat.one_mul]
  omega
 refine (sym_any g cap n hn (A.length+B.length+1) a (a+bs) (a+c) q.flatten A B (bl.flatten++S) (by rw [List.length_append];omega) h1 (by omega) (by omega) hA.2 hB.2 (by omega) (by omega) (by omega) W hr).mono ?_
 rintro e w' ⟨rfl,hs⟩
 refine ⟨rfl,q++[Zs.srt (A++B)],bl,S,by simp [Zs.srt_len, -List.length_flatten];omega,h2.snoc (by rw [Zs.srt_len,List.length_append];omega) (Zs.srt_asc _),h3.tail.tail,h4,h5,by omega, ?_, ?_⟩
 ·refine Zs.Sb.trans ?_ h7
  rw [List.flatten_append,List.flatten_singleton,List.append_assoc]
  refine (Zs.Sb.refl _).app ?_
  simp only [List.flatten_cons,List.append_assoc]
  have f:=(Zs.srt_sb (A++B)).app (Zs.Sb.refl (bl.flatten++S))
  rw [List.append_assoc] at f
  exact f
 ·rw [List.flatten_append,List.flatten_singleton,List.append_assoc]
  exact h8.trans hs
theorem st3_merge {w W:World} {g cap n bs c a:Nat} {l:Zs.L} (hn:n≤100000) (hbs:0<bs) (hc:c=2*bs) (h:St3 w g l n bs c a W) (ha:n<a+c) (hm:a+bs<n):
  Go' 248 #[.slice (some ⟨g,0,none⟩) n cap,.int .i64 a,.int .i64 (a+bs:Nat),.int .i64 n,.func (.func 177) #[] #[]] W (St2 w g l n c):=by
 obtain ⟨q,bl,S,h1,h2,h3,h4,h5,h6,h7,h8⟩:=h
 rcases bl with _|⟨A,_|⟨B,bl⟩⟩
 ·simp at h6;omega
 ·have hA:=h3 A (by simp)
  simp only [List.length_singleton,Nat.one_mul] at h6
  simp only [List.flatten_singleton] at h7 h8
  have hr:=h8.1
  rw [←List.append_nil S] at hr
  refine (sym_any g cap n hn (A.length+S.length+1) a (a+bs) n q.flatten A S [] (by simp [-List.length_flatten];omega) h1 (by omega) (by omega) hA.2 h5 (by omega) (by omega) (by omega) W hr).mono ?_
  rintro e w' ⟨rfl,hs⟩
  rw [List.append_nil] at hs
  refine ⟨rfl,q.flatten++Zs.srt (A++S),⟨q,_,rfl,h2,by rw [Zs.srt_len,List.length_append];omega,Zs.srt_asc _⟩,by simp [Zs.srt_len, -List.length_flatten];omega, ?_,h8.trans hs⟩
  exact ((Zs.Sb.refl _).app (Zs.srt_sb _)).trans h7
 ·exfalso
  have :(A::B::bl).length*bs=bl.length*bs+bs+bs:=by simp only [List.length_cons,Nat.add_mul,Nat.one_mul]
  omega
theorem st3_end {w W:World} {g n bs c a:Nat} {l:Zs.L} (hbs:0<bs) (hc:c=2*bs) (h:St3 w g l n bs c a W) (hm:n≤a+bs):St2 w g l n c W:=by
 obtain ⟨q,bl,S,h1,h2,h3,h4,h5,h6,h7,h8⟩:=h
 rcases bl with _|⟨A,_|⟨B,bl⟩⟩
 ·simp only [List.flatten_nil,List.nil_append] at h7 h8
  simp at h6
  exact ⟨_,⟨q,S,rfl,h2,by omega,h5⟩,by rw [List.length_append];omega,h7,h8⟩
 ·have hA:=h3 A (by simp)
  simp only [List.length_singleton,Nat.one_mul] at h6
  have hS:S=[]:=List.eq_nil_of_length_eq_zero (by omega)
  subst hS
  simp only [List.flatten_singleton,List.append_nil] at h7 h8
  exact ⟨_,⟨q,A,rfl,h2,by omega,hA.2⟩,by rw [List.length_append];simp at h6;omega,h7,h8⟩
 ·exfalso
  have :(A::B::bl).length*bs=bl.length*bs+bs+bs:=by simp only [List.length_cons,Nat.add_mul,Nat.one_mul]
  omega
set_option maxHeartbeats 8000000 in
set_option maxRecDepth 100000 in
theorem stable_any (g cap n:Nat) (l:Zs.L) (w:World) (hR:RowAt w g l) (hl:l.length=n) (hn:n≤100000):
  Calls Tryz.prog 210 #[.slice (some ⟨g,0,none⟩) n cap,.int .i64 n,.func (.func 177) #[] #[]] w fun e w'=>e= .returned (.tuple #[])∧Sor w g w' (Zs.srt l):=by
 have h0:St1 w g l n 0 w:=⟨[],l,rfl,Zs.Blk.nil,by omega,Zs.Sb.refl _,Sor.start hR⟩
 have H0:=Lib.hid h0
 clear h0 hR hl
 go_enter Tryz.func210,Tryz.ntmps210
 go_wp2_with fail
 go_loopw [7,8] (fun va vb wr=> ∃a:Nat,va= .int .i64 a∧vb= .int .i64 (a+20:Nat)∧a≤n∧Hid (St1 w g l n a wr)) (fun a _ _=>n-(intOf a).toNat)
 case atStart=>exact ⟨0,rfl,rfl,by omega,H0⟩
 case round=>
  clear H0
  obtain ⟨a,rfl,rfl,han,HS⟩:=hrel
  obtain ⟨b,hb⟩: ∃b,a+20=b:=⟨_,rfl⟩
  by_cases hlt:b≤n
  ·have C:=st1_step (cap:=cap) hn HS.out (by omega)
   rw [hb] at C ⊢
   have HC:=Lib.hid C
   have hab:a<b:=by omega
   have HB:=Lib.hid hb
   clear C hb
   as_aux_lemma=>
   go_wp2_with fail
   refine HC.out.mono ?_
   rintro e w1 ⟨rfl,h1⟩
   have H1:=Lib.hid h1
   clear h1
   go_wp2_with fail
   go_roundw
   case rel=>exact ⟨b,rfl,by go_num,hlt,H1⟩
   case measure=>simp [intOf];omega
  ·have C:=st1_last (cap:=cap) hn HS.out (by omega)
   rw [hb]
   have HC:=Lib.hid C
   clear C hb
   as_aux_lemma=>
   go_wp2_with fail
   refine HC.out.mono ?_
   rintro e w1 ⟨rfl,h1⟩
   have H1:=Lib.hid h1
   clear h1 HC HS
   go_wp2_with fail
   go_loopw [6] (fun vs wr=> ∃bs:Nat,vs= .int .i64 bs∧20≤bs∧bs≤200020∧Hid (St2 w g l n bs wr)) (fun s _=>n-(intOf s).toNat)
   case atStart=>exact ⟨20,rfl,by omega,by omega,H1⟩
   case round=>
    clear H1
    obtain ⟨bs,rfl,hb1,hb2,HS⟩:=hrel
    by_cases hlt2:bs<n
    ·obtain ⟨wo,hwo⟩: ∃wo:World,wo=wr:=⟨_,rfl⟩
     obtain ⟨c,hc⟩: ∃c,c=2*bs:=⟨_,rfl⟩
     have hci:2*(bs:Int)=(c:Int):=by omega
     have hci2:(bs:Int)*2=(c:Int):=by omega
     have hc1:c≤200020:=by omega
     have hc0:bs<c:=by omega
     have hbs0:0<bs:=by omega
     have H3:=Lib.hid (st3_start (c:=c) HS.out)
     have HCC:=Lib.hid hc
     clear hc HS hwo
     as_aux_lemma=>
     go_wp2_with fail
     go_loopw [7,8] (fun va vb wx=> ∃a b:Nat,va= .int .i64 a∧vb= .int .i64 b∧a≤n∧Hid (a+c=b)∧b≤400040∧Hid (St3 w g l n bs c a wx)) (fun a _ _=>n-(intOf a).toNat)
     case atStart=>exact ⟨0,c,rfl,rfl,by omega,Lib.hid (by omega),by omega,H3⟩
     case round=>
      clear H3
      obtain ⟨a,b,rfl,rfl,han,HAB,hbb,HS⟩:=hrel
      have habi:(a:Int)+bs=((a+bs:Nat):Int):=by omega
      obtain ⟨m,hm⟩: ∃m,a+bs=m:=⟨_,rfl⟩
      rw [hm] at habi
      have hab:a<b:=by have :=HAB.out;omega
      by_cases hlt3:b≤n
      ·have C:=st3_step (cap:=cap) hn hbs0 HCC.out HS.out (by have :=HAB.out;omega)
       rw [HAB.out,hm] at C
       have HC:=Lib.hid C
       clear C hm HS
       as_aux_lemma=>
       go_wp2_with fail
       refine HC.out.mono ?_
       rintro e w2 ⟨rfl,h2⟩
       have H2:=Lib.hid h2
       clear h2 HC
       go_wp2_with fail
       go_roundw
       case rel=>exact ⟨b,b+c,rfl,by go_num,hlt3,Lib.hid rfl,by omega,H2⟩
       case measure=>simp [intOf];omega
      ·by_cases hmn:m<n
       ·have C:=st3_merge (cap:=cap) hn hbs0 HCC.out HS.out (by have :=HAB.out;omega) (by omega)
        rw [hm] at C
        have HC:=Lib.hid C
        clear C hm HS
        as_aux_lemma=>
        go_wp2_with fail
        refine HC.out.mono ?_
        rintro e w2 ⟨rfl,h2⟩
        have H2:=Lib.hid h2
        clear h2 HC
        go_wp2_with fail
        go_roundw
        case rel=>exact ⟨c,rfl,by omega,hc1,H2⟩
        case measure=>simp [intOf];omega
       ·have H2:=Lib.hid (st3_end hbs0 HCC.out HS.out (by omega))
        clear hm HS
        as_aux_lemma=>
        go_wp2_with fail
        go_roundw
        case rel=>exact ⟨c,rfl,by omega,hc1,H2⟩
        case measure=>simp [intOf];omega
    ·obtain ⟨r,hr,hrl,hrs,hrw⟩:=HS.out
     have :=hr.whole (by omega) hrs
     subst this
     have HF:=Lib.hid hrw
     clear hr hrl hrs hrw HS
     as_aux_lemma=>
     go_wp2_with fail
     go_end0
     exact ⟨rfl,HF.out⟩
set_option maxHeartbeats 1000000 in
theorem sort_any (g cap n:Nat) (l:Zs.L) (w:World) (hR:RowAt w g l) (hl:l.length=n) (hn:n≤100000):
  Calls Tryz.prog 176 #[.slice (some ⟨g,0,none⟩) n cap,.func (.func 177) #[] #[]] w fun e w'=>e= .returned (.tuple #[])∧Sor w g w' (Zs.srt l):=by
 have HC:=Lib.hid (stable_any g cap n l w hR hl hn)
 clear hR hl
 go_enter Tryz.func176,Tryz.ntmps176
 go_wp2_with fail
 refine HC.out.mono ?_
 rintro e w1 ⟨rfl,h1⟩
 have H1:=Lib.hid h1
 clear h1
 go_wp2_with fail
 go_end0
 exact ⟨rfl,H1.out⟩
end Go.Proofs.YtfamcohbnoibaaaGreatDoor
namespace Go.Proofs.YtfamcohbnoibaaaGreatDoor
open Go.RowKit
theorem inDay_any (x:Int) (w:World):Calls Tryz.prog 172 #[.int .i64 x] w fun e w'=>e= .returned (.bool (Zn.okD x))∧w=w':=by
 by_cases h1:0≤x
 ·by_cases h2:x<86400
  ·have h:=Lib.hid (Zn.okD_iff.2 ⟨h1,h2⟩)
   go_enter Tryz.func172,Tryz.ntmps172
   go_wp2_with fail
   go_ret
   exact ⟨ret_bool h.out.symm,rfl⟩
  ·have h:=Lib.hid (show Zn.okD x=false by unfold Zn.okD;simp;omega)
   go_enter Tryz.func172,Tryz.ntmps172
   go_wp2_with fail
   go_ret
   exact ⟨ret_bool h.out.symm,rfl⟩
 ·have h:=Lib.hid (show Zn.okD x=false by unfold Zn.okD;simp;omega)
  go_enter Tryz.func172,Tryz.ntmps172
  go_wp2_with fail
  go_ret
  exact ⟨ret_bool h.out.symm,rfl⟩
theorem validOffset_any (x:Int) (w:World):Calls Tryz.prog 122 #[.int .i64 x] w fun e w'=>e= .returned (.bool (Zn.okO x))∧w=w':=by
 by_cases h1: -64800≤x
 ·by_cases h2:x≤64800
  ·have h:=Lib.hid (Zn.okO_iff.2 ⟨h1,h2⟩)
   go_enter Tryz.func122,Tryz.ntmps122
   go_wp2_with fail
   go_ret
   exact ⟨ret_bool h.out.symm,rfl⟩
  ·have h:=Lib.hid (show Zn.okO x=false by unfold Zn.okO;simp;omega)
   go_enter Tryz.func122,Tryz.ntmps122
   go_wp2_with fail
   go_ret
   exact ⟨ret_bool h.out.symm,rfl⟩
 ·have h:=Lib.hid (show Zn.okO x=false by unfold Zn.okO;simp;omega)
  go_enter Tryz.func122,Tryz.ntmps122
  go_wp2_with fail
  go_ret
  exact ⟨ret_bool h.out.symm,rfl⟩
set_option maxHeartbeats 1000000 in
theorem locSec_any (d s:Int) (w:World) (hd:I64 d) (hs:Zn.okD s=true):Calls Tryz.prog 173 #[.agg #[.int .i64 d,.int .i64 s]] w fun e w'=>e= .returned (.int .i64 (Zn.locS d s))∧Below w.heap.size w w':=by
 obtain ⟨d1,d2⟩:=hd
 rw [Zn.okD_iff] at hs
 obtain ⟨s1,s2⟩:=hs
 by_cases h1:d< -2
 ·have h:=Lib.hid (show Zn.locS d s= -2*86400+s by unfold Zn.locS Zn.clamp;omega)
  have m1:max d (-2)= -2:=by omega
  go_enter Tryz.func173,Tryz.ntmps173
  go_wp2_with fail
  go_ret
  exact ⟨ret_int (by rw [h.out];omega),(Below.refl _ _).alloc (Nat.le_refl _) _⟩
 ·by_cases h2:99422<d
  ·have h:=Lib.hid (show Zn.locS d s=99422*86400+s by unfold Zn.locS Zn.clamp;omega)
   have m1:max d (-2)=d:=by omega
   have m2:min d 99422=99422:=by omega
   go_enter Tryz.func173,Tryz.ntmps173
   go_wp2_with fail
   go_ret
   exact ⟨ret_int (by rw [h.out];omega),(Below.refl _ _).alloc (Nat.le_refl _) _⟩
  ·have h:=Lib.hid (show Zn.locS d s=d*86400+s by unfold Zn.locS Zn.clamp;omega)
   have m1:max d (-2)=d:=by omega
   have m2:min d 99422=d:=by omega
   go_enter Tryz.func173,Tryz.ntmps173
   go_wp2_with fail
   go_ret
   exact ⟨ret_int (by rw [h.out]),(Below.refl _ _).alloc (Nat.le_refl _) _⟩
theorem okR_split {r:Zn.Rule}:Zn.okR r=decide ((Civ.vldB r.fr r.mo 1=true∧1≤r.wk∧r.wk≤5∧0≤r.wd∧r.wd≤6)∧r.fr≤r.to∧r.to≤2240∧Zn.okD r.sec=true∧Zn.okO r.off=true):=by
 rw [Bool.eq_iff_iff,decide_eq_true_iff,Zn.okR_iff,Zn.okD_iff,Zn.okO_iff,Civ.vldB_iff]
 constructor
 ·intro h;exact ⟨⟨Zn.vld_first (by omega) (by omega) (by omega) (by omega),by omega⟩,by omega⟩
 ·rintro ⟨⟨⟨a,b,c,d,e,f⟩,g⟩,h⟩;omega
theorem bcell1 {W w1:World} {o:Obj} (hb:Below (W.alloc o).heap.size (W.alloc o) w1): ∀i,w1.cell? ⟨W.heap.size,i,none⟩=(W.alloc o).cell? ⟨W.heap.size,i,none⟩:=fun i=>hb.cell (p:=⟨W.heap.size,i,none⟩) (by simp)
set_option maxHeartbeats 4000000 in
theorem validRule_any (r:Zn.Rule) (w:World) (hT:CivT w) (hr:FitR r):Calls Tryz.prog 123 #[valR r] w fun e w'=>e= .returned (.bool (Zn.okR r))∧Below w.heap.size w w':=by
 obtain ⟨i1,i2,i3,i4,i5,i6,i7⟩:=hr
 obtain ⟨fr,t,mo,wk,wd,sec,off⟩:=r
 unfold valR
 simp only at i1 i2 i3 i4 i5 i6 i7 ⊢
 have hsp:=okR_split (r:=⟨fr,t,mo,wk,wd,sec,off⟩)
 simp only [Civ.vldB_iff] at hsp
 by_cases hN:Civ.vld fr mo 1∧1≤wk∧wk≤5∧0≤wd∧wd≤6
 ·have C:=nth_yes fr mo wk wd _ (hT.alloc (.cells #[.int .i64 fr,.int .i64 t,.int .i64 mo,.int .i64 wk,.int .i64 wd,.int .i64 sec,.int .i64 off] 148)) hN.1 hN.2.1 hN.2.2.1 hN.2.2.2.1 hN.2.2.2.2
  obtain ⟨day,hday⟩: ∃d,Civ.nthD (Civ.num fr mo 1) (Civ.dim fr mo) wk wd=d:=⟨_,rfl⟩
  rw [hday] at C
  have HC:=Lib.hid C
  by_cases h1:fr≤t
  ·by_cases h2:t≤2240
   ·cases hd:Zn.okD sec
    ·have h:=Lib.hid (show Zn.okR ⟨fr,t,mo,wk,wd,sec,off⟩=false by rw [hsp];simp [hd])
     have D:=Lib.hid hd
     clear hsp hd hN C hday
     go_enter Tryz.func123,Tryz.ntmps123
     go_wp2_with fail
     refine HC.out.mono ?_
     rintro e w1 ⟨rfl,hb⟩
     have hc:=bcell1 hb
     have C2:=fun W=>inDay_any sec W
     rw [D.out] at C2
     go_wp2_with ((go_at_call 172;refine (C2 _).mono ?_;rintro e w' ⟨rfl,rfl⟩))
     go_ret
     exact ⟨ret_bool h.out.symm,((Below.refl _ _).alloc (Nat.le_refl _) _).trans (hb.mono (by simp))⟩
    ·have h:=Lib.hid (show Zn.okR ⟨fr,t,mo,wk,wd,sec,off⟩=Zn.okO off by rw [hsp,Bool.eq_iff_iff];simp [hd,h1,h2];intro _;exact ⟨Civ.vldB_iff.2 hN.1,hN.2⟩)
     have D:=Lib.hid hd
     clear hsp hd hN C hday
     go_enter Tryz.func123,Tryz.ntmps123
     go_wp2_with fail
     refine HC.out.mono ?_
     rintro e w1 ⟨rfl,hb⟩
     have hc:=bcell1 hb
     have C2:=fun W=>inDay_any sec W
     rw [D.out] at C2
     have C3:=fun W=>validOffset_any off W
     generalize Zn.okO off=o at C3 h ⊢
     go_wp2_with (first|(go_at_call 172;refine (C2 _).mono ?_;rintro e w' ⟨rfl,rfl⟩)|(go_at_call 122;refine (C3 _).mono ?_;rintro e w' ⟨rfl,rfl⟩))
     go_ret
     exact ⟨ret_bool h.out.symm,((Below.refl _ _).alloc (Nat.le_refl _) _).trans (hb.mono (by simp))⟩
   ·have h:=Lib.hid (show Zn.okR ⟨fr,t,mo,wk,wd,sec,off⟩=false by rw [hsp];simp [h2])
    clear hsp hN C hday
    go_enter Tryz.func123,Tryz.ntmps123
    go_wp2_with fail
    refine HC.out.mono ?_
    rintro e w1 ⟨rfl,hb⟩
    have hc:=bcell1 hb
    go_wp2_with fail
    go_ret
    exact ⟨ret_bool h.out.symm,((Below.refl _ _).alloc (Nat.le_refl _) _).trans (hb.mono (by simp))⟩
  ·have h:=Lib.hid (show Zn.okR ⟨fr,t,mo,wk,wd,sec,off⟩=false by rw [hsp];simp [h1])
   clear hsp hN C hday
   go_enter Tryz.func123,Tryz.ntmps123
   go_wp2_with fail
   refine HC.out.mono ?_
   rintro e w1 ⟨rfl,hb⟩
   have hc:=bcell1 hb
   go_wp2_with fail
   go_ret
   exact ⟨ret_bool h.out.symm,((Below.refl _ _).alloc (Nat.le_refl _) _).trans (hb.mono (by simp))⟩
 ·have h:=Lib.hid (show Zn.okR ⟨fr,t,mo,wk,wd,sec,off⟩=false by rw [hsp];exact decide_eq_false fun h=>hN ⟨Civ.vldB_iff.1 h.1.1,h.1.2⟩)
  have C:=nth_no fr mo wk wd _ (hT.alloc (.cells #[.int .i64 fr,.int .i64 t,.int .i64 mo,.int .i64 wk,.int .i64 wd,.int .i64 sec,.int .i64 off] 148)) i1 i3 hN
  have HC:=Lib.hid C
  clear hsp hN C
  go_enter Tryz.func123,Tryz.ntmps123
  go_wp2_with fail
  refine HC.out.mono ?_
  rintro e w1 ⟨rfl,hb⟩
  have hc:=bcell1 hb
  go_wp2_with fail
  go_ret
  exact ⟨ret_bool h.out.symm,((Below.refl _ _).alloc (Nat.le_refl _) _).trans (hb.mono (by simp))⟩
end Go.Proofs.YtfamcohbnoibaaaGreatDoor
