import Derived.Test.YtfamcohbnoibaaaGreatDoorKSpn
import Derived.Test.YtfamcohbnoibaaaGreatDoorChecked
import Derived.WalkKit
import Derived.Below
import Derived.Lib.Hide
import Derived.Outline
import Derived.OwnWalk
import Derived.Deep.QuietTactic
import Derived.BigQuiet
import Derived.Laws.StructEq
import Derived.IntWalk
import Derived.Deep.AppendLies
import Derived.Laws.OwnMore
import Derived.StillTailTactics
import Derived.Test.YtfamcohbnoibaaaGreatDoorKG31
set_option linter.unusedVariables false
set_option linter.unusedSimpArgs false
namespace Go.Proofs.YtfamcohbnoibaaaGreatDoor
namespace Spw
open Go.RowKit
def SpansAt (w:World) (A:Option Addr) (xs:Spn.L):Prop:=
 0<xs.length→ ∃b off,A=some ⟨b,off,none⟩∧b<w.heap.size∧ ∀k,k<xs.length→w.cell? ⟨b,off+k*2,none⟩=some (.int .i64 (xs.getD k (0,0)).1)∧w.cell? ⟨b,off+k*2+1,none⟩=some (.int .i64 (xs.getD k (0,0)).2)
theorem bcell {W w1:World} (hb:Below W.heap.size W w1):(∀b o,b<W.heap.size→w1.cell? ⟨b,o,none⟩=W.cell? ⟨b,o,none⟩):=fun b o h=>hb.cell (p:=⟨b,o,none⟩) h
theorem bstep {W w1 w2:World} (h:Below W.heap.size W w1) (h2:Below w1.heap.size w1 w2):Below W.heap.size W w2:=h.trans (h2.mono h.size)
theorem below_drewN {B:Nat} {a w:World} (h:Below B a w) (n:Nat):Below B a (w.drewN n):=h.trans ⟨rfl,rfl,rfl,Nat.le_refl _,fun _ _=>rfl⟩
theorem SpansAt.nil_ {w:World} {A:Option Addr}:SpansAt w A []:=fun h=>absurd h (by simp)
theorem SpansAt.below {w w':World} {A:Option Addr} {xs:Spn.L} (h:SpansAt w A xs) (hb:Below w.heap.size w w'):SpansAt w' A xs:=fun h0=>by
 obtain ⟨b,off,e,hlt,hc⟩:=h h0
 exact ⟨b,off,e,Nat.lt_of_lt_of_le hlt hb.size,fun k hk=>⟨(bcell hb _ _ hlt).trans (hc k hk).1,(bcell hb _ _ hlt).trans (hc k hk).2⟩⟩
theorem SpansAt.alloc {w:World} {A:Option Addr} {xs:Spn.L} (h:SpansAt w A xs) (o:Obj):SpansAt (w.alloc o) A xs:=h.below ((Below.refl _ _).alloc (Nat.le_refl _) _)
set_option maxHeartbeats 1000000 in
theorem Valid_any (A:Option Addr) (n c:Nat) (xs:Spn.L) (w:World) (hA:SpansAt w A xs) (hn:xs.length=n) (hm:n≤9223372036854775807):
  Calls Tryz.prog 130 #[.slice A n c] w fun e w'=>e= .returned (.bool (Spn.vld xs))∧Below w.heap.size w w':=by
 by_cases hl:(4096:Int)<n
 ·have hv:Spn.vld xs=false:=by unfold Spn.vld;simp;omega
  clear hn
  go_enter Tryz.func130,Tryz.ntmps130
  go_wp2_with fail
  go_ret
  exact ⟨by rw [hv];rfl,Below.refl _ _⟩
 ·have hv:Spn.vld xs=Spn.okf (-1) xs:=by unfold Spn.vld;simp;omega
  have hl2:(n:Int)≤4096:=by omega
  have HV:=Lib.hid hv
  have HN:=Lib.hid hn
  clear hv hn hl
  go_enter Tryz.func130,Tryz.ntmps130
  go_wp2_with fail
  go_loopw [3,11] (fun e i wr=> ∃(k:Nat) (x:Int),k≤n∧i= .int .i64 k∧e= .int .i64 x∧Hid (Spn.okf (-1) xs=Spn.okf x (xs.drop k))∧Below w.heap.size w wr) (fun _ i _=>n-(intOf i).toNat)
  case atStart=>exact ⟨0, -1,Nat.zero_le _,rfl,rfl,Lib.hid rfl,Below.refl _ _⟩
  case round=>
   obtain ⟨k,x,hk,rfl,rfl,H,hB⟩:=hrel
   by_cases hlt:k<n
   ·obtain ⟨b,off,rfl,hb,hc⟩:=hA (by have :=HN.out;omega)
    obtain ⟨c0,c1⟩:=hc k (by have :=HN.out;omega)
    have c0':=(bcell hB _ _ hb).trans c0
    have c1':=(bcell hB _ _ hb).trans c1
    clear hc c0 c1
    have hz:=Nat.lt_of_lt_of_le hb hB.size
    obtain ⟨⟨f,t⟩,HS⟩: ∃s:Int×Int,Hid (xs.getD k (0,0)=s):=⟨_,Lib.hid rfl⟩
    rw [HS.out] at c0' c1'
    go_wp2_with fail
    all_goals
     first
     |(
      go_roundw
      case rel=>exact ⟨k+1,t,by omega,by go_num,rfl,Lib.hid (by rw [H.out,Spn.drop_cons xs k (0,0) (by have :=HN.out;omega),HS.out,Spn.okf_yes (by omega) (by omega) (by omega)]),hB.alloc hB.size _⟩
      case measure=>simp [intOf];omega)
     |(
      go_ret
      exact ⟨by rw [HV.out,H.out,Spn.drop_cons xs k (0,0) (by have :=HN.out;omega),HS.out,Spn.okf_no (by omega)];rfl,hB.alloc hB.size _⟩)
   ·go_wp2_with fail
    go_ret
    exact ⟨by rw [HV.out,H.out,List.drop_of_length_le (by have :=HN.out;omega)];rfl,hB⟩
end Spw
namespace Spw
open Go.RowKit
theorem ret_int {k:IntKind} {a b:Int} (h:a=b):Ending.returned (.int k a)= .returned (.int k b):=by rw [h]
theorem ret_bool {a b:Bool} (h:a=b):Ending.returned (.bool a)= .returned (.bool b):=by rw [h]
set_option maxHeartbeats 1000000 in
theorem border_any (A:Option Addr) (n c:Nat) (xs:Spn.L) (i:Int) (w:World) (hA:SpansAt w A xs) (hn:xs.length=n) (hm:(n:Int)≤4096) (h0:0≤i):
  Calls Tryz.prog 131 #[.slice A n c,.int .i64 i] w fun e w'=>e= .returned (.int .i64 (Spn.brd xs i))∧w=w':=by
 by_cases hi:2*(n:Int)≤i
 ·have hb:Spn.brd xs i=8589934593:=by unfold Spn.brd;rw [if_pos (by omega)]
  have HB:=Lib.hid hb
  clear hb hn
  go_enter Tryz.func131,Tryz.ntmps131
  go_wp2_with fail
  go_ret
  exact ⟨ret_int HB.out.symm,rfl⟩
 ·obtain ⟨b,off,rfl,hb,hc⟩:=hA (by omega)
  obtain ⟨m,hmi⟩: ∃m:Nat,i/2=(m:Int):=⟨(i/2).toNat,by omega⟩
  obtain ⟨c0,c1⟩:=hc m (by omega)
  clear hc
  have hmn:m<n:=by omega
  have hmn2:(m:Int)<n:=by omega
  have hbr:Spn.brd xs i=if i%2=0 then (xs.getD m (0,0)).1 else (xs.getD m (0,0)).2:=by unfold Spn.brd;rw [if_neg (by omega),hmi];rfl
  obtain ⟨⟨f,t⟩,HS⟩: ∃s:Int×Int,Hid (xs.getD m (0,0)=s):=⟨_,Lib.hid rfl⟩
  rw [HS.out] at c0 c1 hbr
  have HB:=Lib.hid hbr
  clear hbr hn
  by_cases he:i%2=0
  all_goals
   go_enter Tryz.func131,Tryz.ntmps131
   go_wp2_with fail
   go_ret
   exact ⟨ret_int (by rw [HB.out];simp [he]),rfl⟩
end Spw
namespace Spw
open Go.RowKit
end Spw
namespace Spw
open Go.RowKit
theorem info47:(Tryz.prog.info? 82).map (fun i=>(i.zero,i.size,i.bytes))=some (some (.agg #[.int .i64 0,.int .i64 0]),2,16):=by kernel_rfl
def enc (xs:Spn.L):List Value:=xs.flatMap fun s=>[.int .i64 s.1,.int .i64 s.2]
theorem enc_snoc (xs:Spn.L) (s:Int×Int):enc (xs++[s])=enc xs++[.int .i64 s.1,.int .i64 s.2]:=by simp [enc]
theorem enc_len (xs:Spn.L):(enc xs).length=xs.length*2:=by
 induction xs with
 |nil=>rfl
 |cons s r ih=>
  have e:enc (s::r)=[.int .i64 s.1,.int .i64 s.2]++enc r:=rfl
  rw [e,List.length_append,ih];simp;omega
theorem enc_get: ∀(xs:Spn.L) (k:Nat),k<xs.length→(enc xs)[k*2]? =some (.int .i64 (xs.getD k (0,0)).1)∧(enc xs)[k*2+1]? =some (.int .i64 (xs.getD k (0,0)).2)
 |[],_,h=>by simp at h
 |s::r,0,_=>⟨rfl,rfl⟩
 |s::r,k+1,h=>by
  have e:enc (s::r)=(.int .i64 s.1)::(.int .i64 s.2)::enc r:=rfl
  have ih:=enc_get r k (by simpa using h)
  rw [e,show (k+1)*2=k*2+1+1 by omega]
  exact ⟨by simpa using ih.1,by simpa using ih.2⟩
def Own (w:World) (B:Nat) (v:Value) (ys:Spn.L):Prop:=w.ownsRow B 82 2 v ys.length (enc ys)
theorem Own.nil_ (w:World) (B:Nat):Own w B (.slice none 0 0) []:=World.ownsRow_nil w B _ 2
theorem Own.shape {w:World} {B:Nat} {v:Value} {ys:Spn.L} (h:Own w B v ys): ∃A c,v= .slice A ys.length c∧SpansAt w A ys:=by
 rcases h.2 with ⟨rfl,h0⟩|⟨g,cap,cur,rfl,hb,hg,h1,h2,h3,h4⟩
 ·exact ⟨none,0,by rw [h0],fun h=>absurd h (by omega)⟩
 ·refine ⟨_,_,rfl,fun h0=>⟨g,0,rfl, ?_,fun k hk=> ?_⟩⟩
  ·rcases Nat.lt_or_ge g w.heap.size with hlt|hge
   ·exact hlt
   ·rw [Array.getElem?_eq_none hge] at hg;cases hg
  ·have hh:w.ownsRow B 82 2 (.slice (some ⟨g,0,none⟩) ys.length cap) ys.length (enc ys):=⟨h.1,.inr ⟨g,cap,cur,rfl,hb,hg,h1,h2,h3,h4⟩⟩
   have e:=enc_get ys k hk
   rw [Nat.zero_add]
   exact ⟨(hh.cellAt (k*2) (by omega)).trans e.1,(hh.cellAt (k*2+1) (by omega)).trans e.2⟩
theorem Own.alloc {w:World} {B:Nat} {v:Value} {ys:Spn.L} (h:Own w B v ys) (o:Obj):Own (w.alloc o) B v ys:=World.ownsRow.alloc h o
theorem Own.drewN {w:World} {B:Nat} {v:Value} {ys:Spn.L} (h:Own w B v ys) (n:Nat):Own (w.drewN n) B v ys:=h
theorem Own.below {w w':World} {B:Nat} {v:Value} {ys:Spn.L} (h:Own w B v ys) (hb:Below w.heap.size w w'):Own w' B v ys:=by
 refine ⟨h.1, ?_⟩
 rcases h.2 with h0|⟨g,cap,cur,e,hB,hg,hr⟩
 ·exact .inl h0
 ·refine .inr ⟨g,cap,cur,e,hB, ?_,hr⟩
  have hlt:g<w.heap.size:=by
   rcases Nat.lt_or_ge g w.heap.size with hlt|hge
   ·exact hlt
   ·rw [Array.getElem?_eq_none hge] at hg;cases hg
  exact (hb.block g hlt).trans hg
theorem one_cells (a b:Int): ∀u∈[Value.int .i64 a,Value.int .i64 b],u.oneCell'=true:=by
 intro u hu;simp at hu;rcases hu with rfl|rfl<;>rfl
theorem cell_new0 {W:World} {B:Nat} {a b:Value} {T:TypeId} (h:W.heap.size=B):(W.alloc (.cells #[a,b] T)).cell? ⟨B,0,none⟩=some a:=by subst h;simp
theorem cell_new1 {W:World} {B:Nat} {a b:Value} {T:TypeId} (h:W.heap.size=B):(W.alloc (.cells #[a,b] T)).cell? ⟨B,1,none⟩=some b:=by subst h;simp
theorem wp_append_span {ops:Array Oper} {rest:List Oper} {o:Oper} {a:Act} {Q:Exit→Act→World→Prop} (w:World) (hgd:o.guard=none) (s x:Operand)
  (ho:o.op= .call {callee:= .builtin .append,args:=#[s,x],argTypes:=#[51,51]}) (B:Nat) (v:Value) (ys:Spn.L) (hs:a.eval s=v) (hown:Own w B v ys)
  (blk:Nat) (p q:Int) (hx:a.eval x= .slice (some ⟨blk,0,none⟩) 1 1) (hb0:w.cell? ⟨blk,0,none⟩=some (.int .i64 p)) (hb1:w.cell? ⟨blk,1,none⟩=some (.int .i64 q))
  (hlen:ys.length≤1000000) (hB:B≤w.heap.size)
  (h: ∀g cap w',Own w' B (.slice (some ⟨g,0,none⟩) (ys.length+1) cap) (ys++[(p,q)])→Below B w w'→w.grownBy w' v.ownBlock→g<w'.heap.size→
   wpList Tryz.prog ops Q rest (a.put o.dst (.slice (some ⟨g,0,none⟩) (ys.length+1) cap)) w'):wpList Tryz.prog ops Q (o::rest) a w:=by
 obtain ⟨i0,hi0,hz0,hz1,hz2⟩:=info_parts info47
 refine wpList_append_lies w hgd s x 51 ho B 82 i0 _ 2 16 Tryz.underlying51 hi0 hz0 hz1 hz2 rfl (by omega) v ys.length (enc ys) hs hown ⟨blk,0,none⟩ 1 1 [.int .i64 p,.int .i64 q] hx rfl ?_ (one_cells p q) (by omega) (by simp only [maxLen];omega) (by omega) hB _ rfl ?_
 ·intro j u hu
  match j with
  |0=>simp at hu;subst hu;exact hb0
  |1=>simp at hu;subst hu;exact hb1
  |(k+2)=>simp at hu
 ·intro g cap w' h1 h2 h3 h4
  refine h g cap w' ?_ ?_ h2 h4
  ·unfold Own
   rw [enc_snoc,List.length_append]
   exact h1
  ·exact (Below.refl B w).grown h2 hB (fun k hk=>(World.ownsRow.lt hown k hk).1)
def Gives (ys:Spn.L) (er:Int) (w:World) (e:Ending) (w':World):Prop:=
 ∃A c,e= .returned (.tuple #[.slice A ys.length c,.int .i64 er])∧SpansAt w' A ys∧Below w.heap.size w w'
theorem Gives.none_ {er:Int} {w w':World} (hb:Below w.heap.size w w'):Gives [] er w (.returned (.tuple #[.slice none 0 0,.int .i64 er])) w':=
 ⟨none,0,rfl,SpansAt.nil_,hb⟩
def GivesK (ys:Spn.L) (er:Int) (w:World) (e:Ending) (w':World):Prop:=
 ∃A c,e= .returned (.tuple #[.slice A ys.length c,.int .i64 er])∧SpansAt w' A ys∧Below w.heap.size w w'∧ys.length≤c
theorem GivesK.none_ {er:Int} {w w':World} (hb:Below w.heap.size w w'):GivesK [] er w (.returned (.tuple #[.slice none 0 0,.int .i64 er])) w':=
 ⟨none,0,rfl,SpansAt.nil_,hb,Nat.le_refl _⟩
theorem Own.cap {w:World} {B:Nat} {v:Value} {ys:Spn.L} (h:Own w B v ys) {A:Option Addr} {n c:Nat} (hv:v= .slice A n c):ys.length≤c:=by
 subst hv
 rcases h.2 with ⟨hv,h0⟩|⟨g,cap,cur,hv,hb,hg,h1,h2,h3,h4⟩
 ·cases hv;omega
 ·cases hv;exact h1
end Spw
namespace Spw
open Go.RowKit
theorem enc_close (c:Spn.L) (f t p:Int):(enc (c++[(f,t)])).set (c.length*2+1) (.int .i64 p)=enc (c++[(f,p)]):=by
 rw [enc_snoc,enc_snoc]
 have h:=enc_len c
 rw [List.set_append_right _ _ (by omega),show c.length*2+1-(enc c).length=1 by omega]
 rfl
theorem Own.last {w:World} {B:Nat} {v:Value} {c:Spn.L} {f t:Int} (h:Own w B v (c++[(f,t)])):
  ∃g cap,v= .slice (some ⟨g,0,none⟩) (c.length+1) cap∧B≤g∧g<w.heap.size∧w.cell? ⟨g,c.length*2,none⟩=some (.int .i64 f)∧w.cell? ⟨g,c.length*2+1,none⟩=some (.int .i64 t)∧(∀j,w.frozen? ⟨g,j,none⟩=false)∧
   ∀p,Own (w.setCell ⟨g,c.length*2+1,none⟩ (.int .i64 p)) B v (c++[(f,p)]):=by
 obtain ⟨g,cap,hv,hb,hlt⟩:=World.ownsRow.form h (by simp)
 subst hv
 have e:=enc_get (c++[(f,t)]) c.length (by simp)
 have e1:(c++[(f,t)]).getD c.length (0,0)=(f,t):=by simp [List.getD]
 rw [e1] at e
 have hl:(c++[(f,t)]).length=c.length+1:=by simp
 refine ⟨g,cap,by rw [hl],hb,hlt,(World.ownsRow.cellAt h _ (by rw [hl];omega)).trans e.1,(World.ownsRow.cellAt h _ (by rw [hl];omega)).trans e.2,fun j=>World.ownsRow.frozenAt h j,fun p=> ?_⟩
 have hs:=(World.ownsRow.stored h (c.length*2+1) (.int .i64 p)).1
 rw [enc_close] at hs
 have hl2:(c++[(f,p)]).length=c.length+1:=by simp
 unfold Own
 rw [hl2]
 rw [hl] at hs ⊢
 exact hs
set_option maxHeartbeats 8000000 in
set_option maxRecDepth 100000 in
theorem combine_set (A B:Option Addr) (n m c d g:Nat) (keep:Bool→Bool→Bool) (xs ys:Spn.L) (w:World) (hA:SpansAt w A xs) (hB:SpansAt w B ys) (hn:xs.length=n) (hm:ys.length=m)
  (hx:Spn.vld xs=true) (hy:Spn.vld ys=true) (hk:keep false false=false) (eg: ∀args w,(callFunc g args).run Tryz.prog w= .ok (.enter g args) w)
  (hg: ∀x y W,Calls Tryz.prog g #[.bool x,.bool y] W fun e w'=>e= .returned (.bool (keep x y))∧W=w'):
  Calls Tryz.prog 82 #[.slice A n c,.slice B m d,.func (.func g) #[] #[]] w fun e w'=>
   ∃r,Hid (Spn.Comb keep xs ys r)∧GivesK (if (r.length:Int)≤4096 then r else []) (if (r.length:Int)≤4096 then 0 else 5) w e w':=by
 have V1:=Valid_any A n c xs w hA hn (by have :=((Spn.vld_iff xs).1 hx).1;omega)
 have V2:=fun W h=>Valid_any B m d ys W h hm (by have :=((Spn.vld_iff ys).1 hy).1;omega)
 rw [hx] at V1
 rw [hy] at V2
 have hn4:(n:Int)≤4096:=by have :=((Spn.vld_iff xs).1 hx).1;omega
 have hm4:(m:Int)≤4096:=by have :=((Spn.vld_iff ys).1 hy).1;omega
 have HN:=Lib.hid hn
 have HM:=Lib.hid hm
 have HX:=Lib.hid hx
 have HY:=Lib.hid hy
 have HK:=Lib.hid hk
 have HG:=Lib.hid hg
 clear hn hm hx hy hk hg
 go_enter Tryz.func82,Tryz.ntmps82
 go_wp2_with fail
 refine V1.mono ?_
 rintro e w1 ⟨rfl,b1⟩
 go_wp2_with fail
 refine (V2 w1 (hB.below b1)).mono ?_
 rintro e w2 ⟨rfl,b2⟩
 have B2:=bstep b1 b2
 clear b1 b2 V1 V2
 go_wp2_with fail
 go_loopw [8,9,10,11] (fun v o a b wr=> ∃(i j:Int) (opn:Bool) (out:Spn.L),a= .int .i64 i∧b= .int .i64 j∧o= .bool opn∧Own wr w.heap.size v out∧Below w.heap.size w wr∧Hid (∃p,Spn.Round keep xs ys i j p opn out)) (fun _ _ a b _=>(2*n-(intOf a).toNat)+(2*m-(intOf b).toNat))
 case atStart=>exact ⟨0,0,false,[],rfl,rfl,rfl,Own.nil_ _ _,B2,Lib.hid ⟨-1,Spn.Round.start HX.out HY.out HK.out⟩⟩
 case round=>
  obtain ⟨i,j,opn,out,rfl,rfl,rfl,hO,hW,HR⟩:=hrel
  obtain ⟨p,hR⟩:=HR.out
  have hRR:=Lib.hid hR
  have i0:=hR.pa.1
  have i1:=hR.pa.2.1
  have j0:=hR.pb.1
  have j1:=hR.pb.2.1
  have ol:=hR.len
  have pa:=hR.pa.2.2.2
  have pb:=hR.pb.2.2.2
  rw [HN.out] at i1
  rw [HM.out] at j1
  clear hR
  by_cases hij:i<2*(n:Int)∨j<2*(m:Int)
  ·obtain ⟨bA,hbA⟩: ∃v,Spn.brd xs i=v:=⟨_,rfl⟩
   obtain ⟨bB,hbB⟩: ∃v,Spn.brd ys j=v:=⟨_,rfl⟩
   have C1:=fun W h=>border_any A n c xs i W h HN.out hn4 i0
   have C2:=fun W h=>border_any B m d ys j W h HM.out hm4 j0
   rw [hbA] at C1 pa
   rw [hbB] at C2 pb
   have HA1:=Lib.hid hbA
   have HB1:=Lib.hid hbB
   have HC1:=Lib.hid C1
   have HC2:=Lib.hid C2
   clear C1 C2 hbA hbB
   have bAh:i<2*(n:Int)→bA≤8589934592:=fun h=>by have :=Spn.brd_hi HX.out i0 (by rw [HN.out];exact h);rw [HA1.out] at this;exact this
   have bBh:j<2*(m:Int)→bB≤8589934592:=fun h=>by have :=Spn.brd_hi HY.out j0 (by rw [HM.out];exact h);rw [HB1.out] at this;exact this
   have bAe:¬i<2*(n:Int)→bA=8589934593:=fun h=>by have :=Spn.brd_end (l:=xs) (i:=i) (by rw [HN.out];omega);rw [HA1.out] at this;exact this
   have bBe:¬j<2*(m:Int)→bB=8589934593:=fun h=>by have :=Spn.brd_end (l:=ys) (i:=j) (by rw [HM.out];omega);rw [HB1.out] at this;exact this
   have ol2:(out.length:Int)≤16384:=by omega
   have hwz:=hW.size
   have OPN:Hid (opn=true→ ∃c0 f0,out=c0++[(f0,0)]∧True):=Lib.hid (fun e=>by have h2:=hRR.out.sw;rw [e] at h2;obtain ⟨c0,f0,e2, -⟩:=h2.opened;exact ⟨c0,f0,e2,trivial⟩)
   rcases Int.lt_trichotomy bA bB with hcmp|hcmp|hcmp
   ·have li:i<2*(n:Int):=by omega
    have t1:(bB==bA)=false:=by simp;omega
    have t2:¬bB=bA:=by omega
    have hst: ∀kept:Bool,kept=keep (decide ((i+1)%2=1)) (decide ((j)%2=1))→Spn.Round keep xs ys (i+1) (j) bA kept (if kept=true then (if opn=true then out else out++[(bA,0)]) else if opn=true then Spn.close out bA else out):=fun kept hkept=>by
     have HR2:=hRR.out
     have PA:Spn.Passed xs (i+1) bA:=by
      have h:=Spn.Passed.step HX.out HR2.pa (by rw [HN.out];omega)
      first|exact h|(rw [HA1.out] at h;exact h)
     have PB:Spn.Passed ys (j) bA:=by
      have h:=HR2.pb.stay (q:=bA) (by omega) (by rw [HB1.out];omega)
      first|exact h|(rw [HB1.out] at h;exact h)
     exact HR2.next HX.out HY.out bA (i+1) (j) (by rw [HA1.out];omega) (by rw [HB1.out];omega) PA PB (by omega) (by omega) kept hkept
    have HST:=Lib.hid hst
    clear hst bAh bBh bAe bBe hRR HR
    as_aux_lemma=>
    go_wp2_with fail
    refine (HC1.out wr (hA.below hW)).mono ?_
    rintro e w' ⟨rfl,rfl⟩
    go_wp2_with fail
    refine (HC2.out wr (hB.below hW)).mono ?_
    rintro e w' ⟨rfl,rfl⟩
    go_wp2_with fail
    refine (HG.out _ _ _).mono ?_
    rintro e w' ⟨rfl,rfl⟩
    generalize hkb:keep _ _=kb
    have hr:=HST.out kb (by rw [←hkb];congr 1<;>simp)
    have HKB:=Lib.hid hkb
    clear hkb HST
    rcases kb with _|_<;>rcases opn with _|_
    ·go_wp2_with fail
     go_roundw
     case rel=>exact ⟨i+1,j,false,out,rfl,rfl,rfl,hO,hW,Lib.hid ⟨_,hr⟩⟩
     case measure=>simp [intOf];omega
    ·obtain ⟨c0,f0,rfl⟩: ∃c0 f0,out=c0++[(f0,0)]:=by obtain ⟨c0,f0,e, -⟩:=OPN.out rfl;exact ⟨c0,f0,e⟩
     obtain ⟨g0,cap,rfl,hg1,hg2,l0,l1,lf,hst⟩:=hO.last
     have hst:=hst bA
     have hr2:Spn.Round keep xs ys (i+1) (j) bA false (c0++[(f0,bA)]):=by rw [←Spn.close_snoc c0 f0 0 bA];exact hr
     have HR3:=Lib.hid hr2
     have hlen:c0.length≤16384:=by simp at ol2;omega
     clear hr hr2 hO ol ol2
     obtain ⟨ℓ,HL⟩: ∃ℓ,Hid (c0.length=ℓ):=⟨_,Lib.hid rfl⟩
     rw [HL.out] at l0 l1 hst hlen ⊢
     have lf1:=lf (ℓ*2+1)
     clear lf
     go_wp2_with fail
     go_roundw
     case rel=>exact ⟨i+1,j,false,_,rfl,rfl,rfl,hst,hW.setCell hg1 _,Lib.hid ⟨_,HR3.out⟩⟩
     case measure=>simp [intOf];omega
    ·have hr2:Spn.Round keep xs ys (i+1) (j) bA true (out++[(bA,0)]):=hr
     have HR3:=Lib.hid hr2
     clear hr hr2
     go_wp2_with (at_builtin;refine wp_append_span _ rfl _ _ rfl w.heap.size _ out rfl (hO.alloc _) wr.heap.size _ _ rfl (cell_new0 rfl) (cell_new1 rfl) (by omega) (by simp;omega) ?_;intro gg cap w2 hO2 hB2 _ hg2)
     have hBn:Below w.heap.size w w2:=(hW.alloc hW.size _).trans hB2
     clear hB2 hO
     go_wp2_with fail
     go_roundw
     case rel=>exact ⟨i+1,j,true,_,rfl,rfl,rfl,hO2,hBn,Lib.hid ⟨_,HR3.out⟩⟩
     case measure=>simp [intOf];omega
    ·go_wp2_with fail
     go_roundw
     case rel=>exact ⟨i+1,j,true,out,rfl,rfl,rfl,hO,hW,Lib.hid ⟨_,hr⟩⟩
     case measure=>simp [intOf];omega
   ·have li:i<2*(n:Int):=by omega
    have lj:j<2*(m:Int):=by omega
    subst hcmp
    have hst: ∀kept:Bool,kept=keep (decide ((i+1)%2=1)) (decide ((j+1)%2=1))→Spn.Round keep xs ys (i+1) (j+1) bA kept (if kept=true then (if opn=true then out else out++[(bA,0)]) else if opn=true then Spn.close out bA else out):=fun kept hkept=>by
     have HR2:=hRR.out
     have PA:Spn.Passed xs (i+1) bA:=by
      have h:=Spn.Passed.step HX.out HR2.pa (by rw [HN.out];omega)
      first|exact h|(rw [HA1.out] at h;exact h)
     have PB:Spn.Passed ys (j+1) bA:=by
      have h:=Spn.Passed.step HY.out HR2.pb (by rw [HM.out];omega)
      first|exact h|(rw [HB1.out] at h;exact h)
     exact HR2.next HX.out HY.out bA (i+1) (j+1) (by rw [HA1.out];omega) (by rw [HB1.out];omega) PA PB (by omega) (by omega) kept hkept
    have HST:=Lib.hid hst
    clear hst bAh bBh bAe bBe hRR HR
    as_aux_lemma=>
    go_wp2_with fail
    refine (HC1.out wr (hA.below hW)).mono ?_
    rintro e w' ⟨rfl,rfl⟩
    go_wp2_with fail
    refine (HC2.out wr (hB.below hW)).mono ?_
    rintro e w' ⟨rfl,rfl⟩
    go_wp2_with fail
    refine (HG.out _ _ _).mono ?_
    rintro e w' ⟨rfl,rfl⟩
    generalize hkb:keep _ _=kb
    have hr:=HST.out kb (by rw [←hkb];congr 1<;>simp)
    have HKB:=Lib.hid hkb
    clear hkb HST
    rcases kb with _|_<;>rcases opn with _|_
    ·go_wp2_with fail
     go_roundw
     case rel=>exact ⟨i+1,j+1,false,out,rfl,rfl,rfl,hO,hW,Lib.hid ⟨_,hr⟩⟩
     case measure=>simp [intOf];omega
    ·obtain ⟨c0,f0,rfl⟩: ∃c0 f0,out=c0++[(f0,0)]:=by obtain ⟨c0,f0,e, -⟩:=OPN.out rfl;exact ⟨c0,f0,e⟩
     obtain ⟨g0,cap,rfl,hg1,hg2,l0,l1,lf,hst⟩:=hO.last
     have hst:=hst bA
     have hr2:Spn.Round keep xs ys (i+1) (j+1) bA false (c0++[(f0,bA)]):=by rw [←Spn.close_snoc c0 f0 0 bA];exact hr
     have HR3:=Lib.hid hr2
     have hlen:c0.length≤16384:=by simp at ol2;omega
     clear hr hr2 hO ol ol2
     obtain ⟨ℓ,HL⟩: ∃ℓ,Hid (c0.length=ℓ):=⟨_,Lib.hid rfl⟩
     rw [HL.out] at l0 l1 hst hlen ⊢
     have lf1:=lf (ℓ*2+1)
     clear lf
     go_wp2_with fail
     go_roundw
     case rel=>exact ⟨i+1,j+1,false,_,rfl,rfl,rfl,hst,hW.setCell hg1 _,Lib.hid ⟨_,HR3.out⟩⟩
     case measure=>simp [intOf];omega
    ·have hr2:Spn.Round keep xs ys (i+1) (j+1) bA true (out++[(bA,0)]):=hr
     have HR3:=Lib.hid hr2
     clear hr hr2
     go_wp2_with (at_builtin;refine wp_append_span _ rfl _ _ rfl w.heap.size _ out rfl (hO.alloc _) wr.heap.size _ _ rfl (cell_new0 rfl) (cell_new1 rfl) (by omega) (by simp;omega) ?_;intro gg cap w2 hO2 hB2 _ hg2)
     have hBn:Below w.heap.size w w2:=(hW.alloc hW.size _).trans hB2
     clear hB2 hO
     go_wp2_with fail
     go_roundw
     case rel=>exact ⟨i+1,j+1,true,_,rfl,rfl,rfl,hO2,hBn,Lib.hid ⟨_,HR3.out⟩⟩
     case measure=>simp [intOf];omega
    ·go_wp2_with fail
     go_roundw
     case rel=>exact ⟨i+1,j+1,true,out,rfl,rfl,rfl,hO,hW,Lib.hid ⟨_,hr⟩⟩
     case measure=>simp [intOf];omega
   ·have lj:j<2*(m:Int):=by omega
    have t1:(bA==bB)=false:=by simp;omega
    have t2:¬bA=bB:=by omega
    have hst: ∀kept:Bool,kept=keep (decide ((i)%2=1)) (decide ((j+1)%2=1))→Spn.Round keep xs ys (i) (j+1) bB kept (if kept=true then (if opn=true then out else out++[(bB,0)]) else if opn=true then Spn.close out bB else out):=fun kept hkept=>by
     have HR2:=hRR.out
     have PA:Spn.Passed xs (i) bB:=by
      have h:=HR2.pa.stay (q:=bB) (by omega) (by rw [HA1.out];omega)
      first|exact h|(rw [HA1.out] at h;exact h)
     have PB:Spn.Passed ys (j+1) bB:=by
      have h:=Spn.Passed.step HY.out HR2.pb (by rw [HM.out];omega)
      first|exact h|(rw [HB1.out] at h;exact h)
     exact HR2.next HX.out HY.out bB (i) (j+1) (by rw [HA1.out];omega) (by rw [HB1.out];omega) PA PB (by omega) (by omega) kept hkept
    have HST:=Lib.hid hst
    clear hst bAh bBh bAe bBe hRR HR
    have hdis:decide (i<2*(n:Int))=decide (i<2*(n:Int)):=rfl
    clear hdis
    by_cases hi:i<2*(n:Int)
    all_goals
     go_wp2_with fail
     refine (HC1.out wr (hA.below hW)).mono ?_
     rintro e w' ⟨rfl,rfl⟩
     go_wp2_with fail
     refine (HC2.out wr (hB.below hW)).mono ?_
     rintro e w' ⟨rfl,rfl⟩
     go_wp2_with fail
     refine (HG.out _ _ _).mono ?_
     rintro e w' ⟨rfl,rfl⟩
     generalize hkb:keep _ _=kb
     have hr:=HST.out kb (by rw [←hkb];congr 1<;>simp)
     have HKB:=Lib.hid hkb
     clear hkb HST
     rcases kb with _|_<;>rcases opn with _|_
     ·go_wp2_with fail
      go_roundw
      case rel=>exact ⟨i,j+1,false,out,rfl,rfl,rfl,hO,hW,Lib.hid ⟨_,hr⟩⟩
      case measure=>simp [intOf];omega
     ·obtain ⟨c0,f0,rfl⟩: ∃c0 f0,out=c0++[(f0,0)]:=by obtain ⟨c0,f0,e, -⟩:=OPN.out rfl;exact ⟨c0,f0,e⟩
      obtain ⟨g0,cap,rfl,hg1,hg2,l0,l1,lf,hst⟩:=hO.last
      have hst:=hst bB
      have hr2:Spn.Round keep xs ys (i) (j+1) bB false (c0++[(f0,bB)]):=by rw [←Spn.close_snoc c0 f0 0 bB];exact hr
      have HR3:=Lib.hid hr2
      have hlen:c0.length≤16384:=by simp at ol2;omega
      clear hr hr2 hO ol ol2
      obtain ⟨ℓ,HL⟩: ∃ℓ,Hid (c0.length=ℓ):=⟨_,Lib.hid rfl⟩
      rw [HL.out] at l0 l1 hst hlen ⊢
      have lf1:=lf (ℓ*2+1)
      clear lf
      go_wp2_with fail
      go_roundw
      case rel=>exact ⟨i,j+1,false,_,rfl,rfl,rfl,hst,hW.setCell hg1 _,Lib.hid ⟨_,HR3.out⟩⟩
      case measure=>simp [intOf];omega
     ·have hr2:Spn.Round keep xs ys (i) (j+1) bB true (out++[(bB,0)]):=hr
      have HR3:=Lib.hid hr2
      clear hr hr2
      go_wp2_with (at_builtin;refine wp_append_span _ rfl _ _ rfl w.heap.size _ out rfl (hO.alloc _) wr.heap.size _ _ rfl (cell_new0 rfl) (cell_new1 rfl) (by omega) (by simp;omega) ?_;intro gg cap w2 hO2 hB2 _ hg2)
      have hBn:Below w.heap.size w w2:=(hW.alloc hW.size _).trans hB2
      clear hB2 hO
      go_wp2_with fail
      go_roundw
      case rel=>exact ⟨i,j+1,true,_,rfl,rfl,rfl,hO2,hBn,Lib.hid ⟨_,HR3.out⟩⟩
      case measure=>simp [intOf];omega
     ·go_wp2_with fail
      go_roundw
      case rel=>exact ⟨i,j+1,true,out,rfl,rfl,rfl,hO,hW,Lib.hid ⟨_,hr⟩⟩
      case measure=>simp [intOf];omega
  ·obtain ⟨A',c',rfl,hS⟩:=hO.shape
   have HCAP:=Lib.hid (hO.cap rfl)
   have hfin:Spn.Comb keep xs ys out:=hRR.out.final HX.out HY.out HK.out (by rw [HN.out];omega) (by rw [HM.out];omega)
   have HF:=Lib.hid hfin
   clear hfin
   have ni:¬i<2*(n:Int):=fun h=>hij (.inl h)
   have nj:¬j<2*(m:Int):=fun h=>hij (.inr h)
   clear hij
   generalize hL:out.length=ol' at *
   have HL:=Lib.hid hL
   clear hL
   by_cases hbig:(4096:Int)<(ol':Int)
   ·go_wp2_with fail
    go_ret2
    exact ⟨out,HF,by rw [HL.out,if_neg (by omega),if_neg (by omega)];exact GivesK.none_ hW⟩
   ·go_wp2_with fail
    go_ret2
    exact ⟨out,HF,by rw [HL.out,if_pos (by omega),if_pos (by omega)];exact ⟨A',c',by rw [HL.out];rfl,hS,hW,by first|exact HCAP.out|(rw [HL.out];exact HCAP.out)⟩⟩
end Spw
end Go.Proofs.YtfamcohbnoibaaaGreatDoor
