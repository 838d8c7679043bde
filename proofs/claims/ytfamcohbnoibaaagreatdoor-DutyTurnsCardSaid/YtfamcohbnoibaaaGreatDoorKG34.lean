import Derived.Test.YtfamcohbnoibaaaGreatDoorKG39
import Derived.Test.YtfamcohbnoibaaaGreatDoorKG28
import Derived.Test.YtfamcohbnoibaaaGreatDoorKG20
import Derived.Test.YtfamcohbnoibaaaGreatDoorKG25
set_option linter.unusedVariables false
set_option linter.unusedSimpArgs false
set_option maxRecDepth 100000
namespace Go.Proofs.YtfamcohbnoibaaaGreatDoor
open Go.RowKit
theorem kSeg:KindOk 23 62 3 eTrip:=⟨Tryz.underlying23,by obtain ⟨i,a,b,c,d⟩:=info_parts (show (Tryz.prog.info? 62).map (fun i=>(i.zero,i.size,i.bytes))=some (some (.agg #[.int .i64 0,.int .i64 0,.int .i64 0]),3,24) by kernel_rfl);exact ⟨i,_,_,a,b,c,d,rfl,by omega⟩,by omega,fun _ _=>rfl⟩
theorem encK_set3 {xs:List Sg.S} {i:Nat} {x:Sg.S} (hx:xs[i]? =some x) (b:Int):encK 3 eTrip (xs.set i (x.1,b,x.2.2))=(encK 3 eTrip xs).set (i*3+1) (.int .i64 b):=by
 induction xs generalizing i with
 |nil=>simp at hx
 |cons y t ih=>
  match i,hx with
  |0,hx=>
   simp at hx;subst hx
   simp [encK_cons,List.range_succ,eTrip]
  |i+1,hx=>
   have :=ih (i:=i) (by simpa using hx)
   simp only [List.set_cons_succ,encK_cons,this]
   simp [List.range_succ,Nat.add_mul]
theorem OwnL.set3 {T:TypeId} {w:World} {B g n cap:Nat} {xs:List Sg.S} (h:OwnL T 3 eTrip w B (.slice (some ⟨g,0,none⟩) n cap) xs) {i:Nat} {x:Sg.S} (hx:xs[i]? =some x) (b:Int):
  OwnL T 3 eTrip (w.setCell ⟨g,i*3+1,none⟩ (.int .i64 b)) B (.slice (some ⟨g,0,none⟩) n cap) (xs.set i (x.1,b,x.2.2)):=by
 rcases h.2 with ⟨hv, -⟩|⟨g',cap',cur,hv,hB,hg,hc1,hc2,hc3,hc4⟩
 ·cases hv
 cases hv
 unfold OwnL
 have hl:=encK_len (k:=3) (e:=eTrip) (xs.set i (x.1,b,x.2.2))
 rw [List.length_set] at hl ⊢
 refine ⟨hl,.inr ⟨g,cap,cur.setIfInBounds (i*3+1) (.int .i64 b),rfl,hB, ?_,hc1,hc2,by simpa using hc3, ?_⟩⟩
 ·have b1:BlkAt w g cur T:=hg
  exact BlkAt.set_ b1 (i*3+1) _
 ·rw [encK_set3 hx, ←hc4]
  simp only [Array.toList_setIfInBounds,List.take_set]
theorem app_skip {l:List Sg.S} {a b p:Int} (h:b≤a):Sg.app l (a,b,p)=l:=by unfold Sg.app;rw [if_pos h]
theorem app_first {a b p:Int} (h:¬b≤a):Sg.app [] (a,b,p)=[(a,b,p)]:=by unfold Sg.app;rw [if_neg h];rfl
theorem app_join {l:List Sg.S} {a b p:Int} {y:Sg.S} (h:¬b≤a) (h2:l.getLast? =some y) (h3:y.2.1=a) (h4:y.2.2=p):Sg.app l (a,b,p)=l.dropLast++[(y.1,b,y.2.2)]:=by
 subst h4
 unfold Sg.app;rw [if_neg h,h2];simp [h3]
theorem app_new {l:List Sg.S} {a b p:Int} {y:Sg.S} (h:¬b≤a) (h2:l.getLast? =some y) (h3:¬(y.2.1=a∧y.2.2=p)):Sg.app l (a,b,p)=l++[(a,b,p)]:=by
 unfold Sg.app;rw [if_neg h,h2];simp only;rw [if_neg h3]
theorem last_set3 {s:List Sg.S} {y:Sg.S} (h:s.getLast? =some y) (z:Sg.S):s.dropLast++[z]=s.set (s.length-1) z∧s[s.length-1]? =some y∧0<s.length:=by
 rcases List.eq_nil_or_concat s with rfl|⟨t,u,rfl⟩
 ·simp at h
 ·simp at h;subst h
  simp [List.set_append]
set_option maxHeartbeats 8000000 in
theorem Merge_any (A:Option Addr) (n c:Nat) (xs:List Sg.S) (w:World) (hA:ListAt 3 eTrip w A xs) (hn:xs.length=n) (hm:n≤900000):
  Calls Tryz.prog 26 #[.slice A n c] w fun e w'=> ∃v',e= .returned v'∧OwnL 62 3 eTrip w' w.heap.size v' (Sg.mrg xs)∧Below w.heap.size w w':=by
 have HA:=Lib.hid hA
 have HN:=Lib.hid hn
 clear hA hn
 go_enter Tryz.func26,Tryz.ntmps26
 go_wp2_with fail
 go_loopw [3,9] (fun v i wr=> ∃(k:Nat) (out:List Sg.S),i= .int .i64 k∧k≤n∧out.length≤k∧Hid ((xs.take k).foldl Sg.app []=out)∧Hid (OwnL 62 3 eTrip wr w.heap.size v out)∧Hid (Stp w wr (.slice none 0 0) v)) (fun _ i _=>n-(intOf i).toNat)
 case atStart=>exact ⟨0,[],rfl,Nat.zero_le _,Nat.le_refl _,Lib.hid rfl,Lib.hid (OwnL.nil_ _ _),Lib.hid (Stp.refl _ _)⟩
 case round=>
  obtain ⟨k,out,rfl,hk,hq,HE,HO,HS⟩:=hrel
  have HB:=Lib.hid (stp_bel HS.out (Below.refl _ w))
  have hsz:=HB.out.size
  by_cases hlt:k<n
  ·obtain ⟨⟨a,b,p⟩,hx⟩:=get_ex (xs:=xs) (i:=k) (by have :=HN.out;omega)
   obtain ⟨bk,of,rfl,hbk,hcc⟩:=(HA.out.below HB.out) (by have :=HN.out;omega)
   obtain ⟨s0,s1,s1',s2⟩:=trip_cells (hcc k _ hx)
   simp only at s0 s1 s1' s2
   have HT:=Lib.hid (show (xs.take (k+1)).foldl Sg.app []=Sg.app out (a,b,p) by rw [take_snoc' hx,List.foldl_append,HE.out];rfl)
   clear hcc hx HE
   by_cases h1:b≤a
   ·have HR:=Lib.hid (HT.out.trans (app_skip h1))
    clear HT
    go_wp2_with fail
    go_roundw
    case rel=>exact ⟨k+1,out,by go_num,by omega,by omega,HR,Lib.hid (HO.out.alloc _),Lib.hid (HS.out.alloc _)⟩
    case measure=>simp [intOf];omega
   ·cases h2:out.getLast? with
    |none=>
     rw [List.getLast?_eq_none_iff] at h2
     subst h2
     obtain ⟨A1,c1,rfl, -, -, -⟩:=HO.out.shape
     rw [List.length_nil] at HO HS
     have HR:=Lib.hid (HT.out.trans (app_first h1))
     clear HT
     go_wp2_with fail
     go_quiet (fail)
     go_wp2_with (at_builtin;refine wp_append_one kSeg _ rfl _ _ rfl w.heap.size _ [] rfl (((HO.out.alloc _).drewN _).alloc _) (wr.heap.size+1) (a,b,p) rfl (trip_new (by simp)) (by simp) (by simp;omega) ?_;intro gg cap w3 hO3 hB3 hg3 hgo _)
     go_roundw
     case rel=>exact ⟨k+1,_,by go_num,by omega,by simp,HR,Lib.hid hO3,Lib.hid (((HS.out.alloc (.cells #[.int .i64 a,.int .i64 b,.int .i64 p] 62)).drewN _).trans (Stp.app rfl hg3 hgo))⟩
     case measure=>simp [intOf];omega
    |some y=>
     obtain ⟨l1,l2,l3⟩:=last_set3 h2 (y.1,b,y.2.2)
     obtain ⟨q,hq2⟩: ∃q,out.length=q:=⟨_,rfl⟩
     rcases HO.out.row with ⟨-,h⟩|⟨g,cap,hv,h3,h4,h5,h6⟩
     ·subst h;simp at l3
     subst hv
     obtain ⟨t1,f1⟩:=h6 _ y l2 1 (by omega)
     obtain ⟨t2,f2⟩:=h6 _ y l2 2 (by omega)
     rw [hq2] at t1 f1 t2 f2 h5 l1 l2 l3 HO hq HS ⊢
     obtain ⟨y0,y1,y2⟩:=y
     have d1:wr.cell? ⟨g,(q-1)*3+1,none⟩=some (.int .i64 y1):=t1
     have d2:wr.cell? ⟨g,(q-1)*3+2,none⟩=some (.int .i64 y2):=t2
     have d2':wr.cell? ⟨g,(q-1)*3+1+1,none⟩=some (.int .i64 y2):=t2
     have i0:(0:Int)≤(q:Int)-1:=by omega
     have i1:(q:Int)-1<q:=by omega
     have i2:((q:Int)-1).toNat=q-1:=by omega
     have i3:(q:Int)≤900000:=by omega
     have i4:(1:Int)≤q:=by omega
     have i5:decide ((0:Int)≤(q:Int)-1)=true:=by simp;omega
     have i6:decide ((1:Int)≤(q:Int))=true:=by simp;omega
     have i7:decide (1≤q)=true:=by simp;omega
     have HQ:=Lib.hid hq2
     simp only at l1 l2
     have HL2:=Lib.hid l2
     by_cases he:y1=a
     ·have e1:(y1==a)=true:=by simpa using he
      by_cases hp:y2=p
      ·have e2:(y2==p)=true:=by simpa using hp
       have HR:=Lib.hid ((HT.out.trans (app_join h1 h2 he hp)).trans l1)
       clear t1 t2 l1 l2 h2 h6 HT hq2
       go_wp2_with fail
       go_quiet (fail)
       go_wp2_with fail
       go_roundw
       case rel=>exact ⟨k+1,_,by go_num,by omega,by rw [List.length_set];have :=HQ.out;omega,HR,Lib.hid (((HO.out.alloc _).drewN _).set3 HL2.out b),Lib.hid (((HS.out.alloc (.cells #[.int .i64 a,.int .i64 b,.int .i64 p] 62)).drewN _).trans ⟨grown_set _ g _ _,fun _ h=> .inl h⟩)⟩
       case measure=>simp [intOf];omega
      ·have e2:(y2==p)=false:=by simpa using hp
       have HR:=Lib.hid (HT.out.trans (app_new h1 h2 (fun e=>hp e.2)))
       clear t1 t2 l1 l2 h2 h6 HT hq2
       go_wp2_with fail
       go_quiet (fail)
       go_wp2_with (at_builtin;refine wp_append_one kSeg _ rfl _ _ rfl w.heap.size _ out rfl (((HO.out.alloc _).drewN _).alloc _) (wr.heap.size+1) (a,b,p) rfl (trip_new (by simp)) (by have :=HQ.out;omega) (by simp;omega) ?_;intro gg cap w3 hO3 hB3 hg3 hgo _)
       go_roundw
       case rel=>exact ⟨k+1,_,by go_num,by omega,by simp;have :=HQ.out;omega,HR,Lib.hid hO3,Lib.hid (((HS.out.alloc (.cells #[.int .i64 a,.int .i64 b,.int .i64 p] 62)).drewN _).trans (Stp.app rfl hg3 hgo))⟩
       case measure=>simp [intOf];omega
     ·have e1:(y1==a)=false:=by simpa using he
      have HR:=Lib.hid (HT.out.trans (app_new h1 h2 (fun e=>he e.1)))
      clear t1 t2 l1 l2 h2 h6 HT hq2
      go_wp2_with fail
      go_quiet (fail)
      go_wp2_with (at_builtin;refine wp_append_one kSeg _ rfl _ _ rfl w.heap.size _ out rfl (((HO.out.alloc _).drewN _).alloc _) (wr.heap.size+1) (a,b,p) rfl (trip_new (by simp)) (by have :=HQ.out;omega) (by simp;omega) ?_;intro gg cap w3 hO3 hB3 hg3 hgo _)
      go_roundw
      case rel=>exact ⟨k+1,_,by go_num,by omega,by simp;have :=HQ.out;omega,HR,Lib.hid hO3,Lib.hid (((HS.out.alloc (.cells #[.int .i64 a,.int .i64 b,.int .i64 p] 62)).drewN _).trans (Stp.app rfl hg3 hgo))⟩
      case measure=>simp [intOf];omega
  ·have HM:=Lib.hid (show Sg.mrg xs=out by rw [←HE.out,List.take_of_length_le (by have :=HN.out;omega)];rfl)
   go_wp2_with fail
   go_ret
   exact ⟨_,rfl,HM.out▸HO.out,HB.out⟩
theorem ints_tail {w:World} {b of:Nat} {x:Int} {t:List Int} (h:IntsAt w (some ⟨b,of,none⟩) (x::t)):IntsAt w (some ⟨b,of+1,none⟩) t:=fun h0=>by
 obtain ⟨b',of',ea,hlt,hc⟩:=h (by simp)
 cases ea
 refine ⟨b,of+1,rfl,hlt,fun i y hy j hj=> ?_⟩
 have :=hc (i+1) y (by simpa using hy) j hj
 rw [show of+1+i*1+j=of+(i+1)*1+j by omega]
 exact this
theorem ints_cell {w:World} {A:Option Addr} {l:List Int} (h:IntsAt w A l) {i:Nat} {x:Int} (hx:l[i]? =some x): ∃b of,A=some ⟨b,of,none⟩∧b<w.heap.size∧w.cell? ⟨b,of+i,none⟩=some (.int .i64 x):=by
 obtain ⟨b,of,ea,hb,hc⟩:=h (by have :=(List.getElem?_eq_some_iff.1 hx).1;omega)
 exact ⟨b,of,ea,hb,by have :=hc i x hx 0 (by decide);simpa [eInt] using this⟩
theorem get_drop {α:Type} {l:List α} {k:Nat}:(l.drop k)[0]? =l[k]? :=by simp
theorem ints_cut {w:World} {b of e:Nat} {l:List Int} {k:Nat} {x:Int} (h:IntsAt w (some ⟨b,of,none⟩) (l.drop k)) (hx:l[k]? =some x) (he:l.length-k≤e):IntsAt w (some (if e=1 then ⟨b,of,none⟩ else ⟨b,of+1,none⟩)) (l.drop (k+1)):=by
 by_cases h1:e=1
 ·rw [List.drop_of_length_le (by omega)];exact ListAt.nil_
 ·rw [if_neg h1]
  rw [drop_cons' hx] at h
  exact ints_tail h
open Go.RowKit
theorem pairs_cut {w:World} {b of e:Nat} {l:List (Int×Int)} {k:Nat} {x:Int×Int} (h:PairsAt w (some ⟨b,of,none⟩) (l.drop k)) (hx:l[k]? =some x) (he:l.length-k≤e):PairsAt w (some (if e=1 then ⟨b,of,none⟩ else ⟨b,of+2,none⟩)) (l.drop (k+1)):=by
 by_cases h1:e=1
 ·rw [List.drop_of_length_le (by omega)];exact ListAt.nil_
 ·rw [if_neg h1]
  rw [drop_cons' hx] at h
  exact pairs_tail h
set_option maxHeartbeats 16000000 in
theorem split_is {d:Sg.Dy} {f t:Int} {hs cs:List Int} {set:List (Int×Int)} (h:Sg.CutIn d f t hs cs set) (A0:Option Addr) (n0 c0:Nat) (A1:Option Addr) (n1 c1:Nat) (A2:Option Addr) (n2 c2:Nat) (A3:Option Addr) (n3 c3:Nat) (w:World) (h0:IntsAt w A0 cs) (h1:PairsAt w A1 set) (h2:IntsAt w A2 hs) (h3:IntsAt w A3 d.ms) (e0:cs.length=n0) (e1:set.length=n1) (e2:hs.length=n2) (e3:d.ms.length=n3) (k0:n0≤c0) (k1:n1≤c1) (k2:n2≤c2) (b0:n0≤900000) (b1:n1≤900000) (b2:n2≤900000) (b3:n3≤900000):
  Calls Tryz.prog 59 #[.slice A0 n0 c0,.slice A1 n1 c1,.slice A2 n2 c2,.slice A3 n3 c3,.int .i64 (d.sh f)] w fun e w'=> ∃v',e= .returned v'∧OwnL 62 3 eTrip w' w.heap.size v' (Sg.pcs d cs (n0-1))∧Below w.heap.size w w':=by
 have HS0:=Lib.hid (show -1≤d.sh f∧d.sh f≤2386092 from ⟨(h.ok.sh f).1,Rc.shift_le h.ok.z h.ok.rt (h.ok.sh f)⟩)
 obtain ⟨s0,hs0⟩: ∃s,d.sh f=s:=⟨_,rfl⟩
 have n01:1≤n0:=by have :=(List.getElem?_eq_some_iff.1 h.c0).1;omega
 obtain ⟨zb,zo,rfl,hzb, -⟩:=ints_cell h0 h.c0
 have HSF:=Lib.hid hs0
 rw [hs0] at HS0 ⊢
 have HH:=Lib.hid h
 have H0:=Lib.hid h0;have H1:=Lib.hid h1;have H2:=Lib.hid h2;have H3:=Lib.hid h3
 have E0:=Lib.hid e0;have E1:=Lib.hid e1;have E2:=Lib.hid e2;have E3:=Lib.hid e3
 have p0:(1:Int)≤n0:=by omega
 have p1:(n0:Int)≤c0:=by omega
 have p2:(1:Int)≤c0:=by omega
 have p3:(n0:Int)≤900000:=by omega
 clear h h0 h1 h2 h3 e0 e1 e2 e3 hs0
 go_enter Tryz.func59,Tryz.ntmps59
 go_upto_region 2 with fail
 go_cut [16,17,18,19] (fun v16 v17 v18 v19 wx=> ∃B:Option Addr,v17= .slice B (n0-1) (c0-1)∧v18= .int .i64 ((n0-1:Nat):Int)∧v19= .int .i64 0∧wx=w∧Hid (IntsAt w B (cs.drop 1)))
 case first =>
  by_cases hc:c0=1
  ·subst hc
   obtain rfl:n0=1:=by omega
   go_wp2_with fail
   go_meet
   exact ⟨some ⟨zb,zo,none⟩,rfl,rfl,rfl,rfl,Lib.hid (by rw [List.drop_of_length_le (by have :=E0.out;omega)];exact ListAt.nil_)⟩
  ·have hx:=HH.out.c0
   have HT:=Lib.hid (show IntsAt w (some ⟨zb,zo+1,none⟩) (cs.drop 1) by
    have h0:IntsAt w (some ⟨zb,zo,none⟩) (cs.drop 0):=H0.out
    have :=ints_cut (e:=c0) h0 hx (by have :=E0.out;omega)
    rwa [if_neg hc] at this)
   have q1:(1:Int)≤n0:=by omega
   clear hx
   go_wp2_with fail
   go_meet
   exact ⟨some ⟨zb,zo+1,none⟩,rfl,by go_num,rfl,rfl,HT⟩
 case rest=>
  obtain ⟨B,rfl,rfl,rfl,hw,HB0⟩:=hcut
  have hw:=hw.symm
  subst hw
  go_wp2_with fail
  go_loopw [1,2,4,11,19] (fun sv hv kv lv iv wr=> ∃(i k m r1 r2:Nat) (B1 B2:Option Addr) (g1 g2:Nat),iv= .int .i64 i∧i≤n0-1∧sv= .slice B1 r1 g1∧hv= .slice B2 r2 g2∧kv= .int .i64 (s0+k)∧Hid (r1+m=n1∧r1≤g1)∧Hid (r2+k=n2∧r2≤g2)∧Hid (∃c,cs[i]? =some c∧Sg.SpSt hs set c k m)∧Hid (PairsAt w B1 (set.drop m))∧Hid (IntsAt w B2 (hs.drop k))∧Hid (OwnL 62 3 eTrip wr w.heap.size lv (Sg.pcs d cs i))∧Hid (Stp w wr (.slice none 0 0) lv)) (fun _ _ _ _ iv _=>n0-(intOf iv).toNat)
  case atStart=>exact ⟨0,0,0,n1,n2,A1,A2,c1,c2,rfl,Nat.zero_le _,rfl,rfl,by simp,Lib.hid ⟨rfl,k1⟩,Lib.hid ⟨rfl,k2⟩,Lib.hid ⟨f,HH.out.c0,HH.out.start⟩,H1,H2,Lib.hid (OwnL.nil_ _ _),Lib.hid (Stp.refl _ _)⟩
  case round=>
   obtain ⟨i,k,m,r1,r2,B1,B2,g1,g2,rfl,hi,rfl,rfl,rfl,HR1,HR2,HST,HP1,HP2,HO,HS⟩:=hrel
   have HB:=Lib.hid (stp_bel HS.out (Below.refl _ w))
   have hsz:=HB.out.size
   by_cases hlt:i<n0-1
   ·obtain ⟨c,hc,hst⟩:=HST.out
    obtain ⟨c',hc'⟩:=get_ex (xs:=cs) (i:=i+1) (by have :=E0.out;omega)
    obtain ⟨b4,o4,rfl,hb4,x4⟩:=ints_cell (i:=i) (x:=c') (HB0.out.below HB.out) (by rw [List.getElem?_drop,Nat.add_comm];exact hc')
    obtain ⟨b5,o5,e5,hb5,x5⟩:=ints_cell (i:=i) (x:=c) (H0.out.below HB.out) hc
    cases e5
    have HC:=Lib.hid hc
    have HC':=Lib.hid hc'
    have HSS:=Lib.hid hst
    have HRB:=Lib.hid (show k≤n2∧m≤n1 from ⟨by have :=HR2.out;omega,by have :=HR1.out;omega⟩)
    have i1:(i:Int)<((n0-1:Nat):Int):=by omega
    have i2:(i:Int)<n0:=by omega
    have i0:(0:Int)≤i:=by omega
    clear hc hc' hst HST hlt
    go_upto_region 6 with fail
    go_cut [37] (fun v wx=> ∃bb:Bool,v= .bool bb∧wx=wr∧Hid (bb=true↔hs[k]? =some c))
    case first =>
     rcases Nat.eq_zero_or_pos r2 with hr|hr
     ·subst hr
      go_wp2_with fail
      go_meet
      exact ⟨false,rfl,rfl,Lib.hid ⟨fun h=>(by cases h),fun h=>by have :=(List.getElem?_eq_some_iff.1 h).1;have :=HR2.out;have :=E2.out;omega⟩⟩
     ·obtain ⟨x,hx⟩:=get_ex (xs:=hs) (i:=k) (by have :=HR2.out;have :=E2.out;omega)
      obtain ⟨b6,o6,rfl,hb6,x6⟩:=ints_cell (i:=0) (x:=x) (HP2.out.below HB.out) (by rw [get_drop];exact hx)
      rw [Nat.add_zero] at x6
      have r20:decide ((0:Int)<(r2:Int))=true:=by simp;omega
      have r21:(0:Int)<r2:=by omega
      have HX:=Lib.hid hx
      clear hx
      obtain ⟨bb,hbb⟩: ∃bb:Bool,(x==c)=bb:=⟨_,rfl⟩
      have HBB:=Lib.hid (show bb=true↔hs[k]? =some c by rw [HX.out, ←hbb];simp)
      go_wp2_with fail
      go_meet
      exact ⟨bb,by first|rfl|(rw [hbb]),rfl,HBB⟩
    case rest=>
     obtain ⟨bb,rfl,hw,HBB⟩:=hcut
     have hw:=hw.symm
     subst hw
     go_upto_if 37 with fail
     go_cut [2,4] (fun hv kv wx=> ∃(k' r2':Nat) (B2':Option Addr) (g2':Nat),hv= .slice B2' r2' g2'∧kv= .int .i64 (s0+k')∧wx=wr∧Hid (r2'+k'=n2∧r2'≤g2')∧Hid (IntsAt w B2' (hs.drop k'))∧Hid ((hs[k]? =some c∧k'=k+1)∨(hs[k]? ≠some c∧k'=k)))
     case first =>
      cases bb with
      |false=>
       go_wp2_with fail
       go_meet
       exact ⟨k,r2,B2,g2,rfl,rfl,rfl,HR2,HP2,Lib.hid (.inr ⟨fun h=>(by have :=HBB.out.2 h;cases this),rfl⟩)⟩
      |true=>
       have hx:=HBB.out.1 rfl
       have HX:=Lib.hid hx
       obtain ⟨b6,o6,rfl,hb6, -⟩:=ints_cell (i:=0) (x:=c) HP2.out (by rw [get_drop];exact hx)
       have hr1:1≤r2:=by have :=(List.getElem?_eq_some_iff.1 hx).1;have :=HR2.out;have :=E2.out;omega
       have q1:(1:Int)≤r2:=by omega
       have q2:(r2:Int)≤g2:=by have :=HR2.out;omega
       have q3:(1:Int)≤g2:=by omega
       have hs0:=HS0.out
       have hkb:=HRB.out
       have ⟨v1,v1'⟩:=wrapn (n:=s0+k+1) (by omega)
       have HT:=Lib.hid (ints_cut (e:=g2) HP2.out hx (by have :=HR2.out;have :=E2.out;omega))
       clear hs0 hkb hx
       by_cases hg:g2=1
       ·subst hg
        obtain rfl:r2=1:=by omega
        go_wp2_with fail
        go_meet
        exact ⟨k+1,0,some ⟨b6,o6,none⟩,0,rfl,by go_num,rfl,Lib.hid (by have :=HR2.out;omega),HT,Lib.hid (.inl ⟨HX.out,rfl⟩)⟩
       ·rw [if_neg hg] at HT
        go_wp2_with fail
        go_meet
        exact ⟨k+1,r2-1,some ⟨b6,o6+1,none⟩,g2-1,rfl,by go_num,rfl,Lib.hid (by have :=HR2.out;omega),HT,Lib.hid (.inl ⟨HX.out,rfl⟩)⟩
     case rest=>
      clear HBB HP2 HR2
      obtain ⟨k',r2',B2',g2',rfl,rfl,hw,HR2,HP2,HKK⟩:=hcut
      have hw:=hw.symm
      subst hw
      go_upto_region 9 with fail
      go_cut [52] (fun v wx=> ∃bb:Bool,v= .bool bb∧wx=wr∧Hid (bb=true↔ ∃y,set[m]? =some y∧y.2=c))
      case first =>
       rcases Nat.eq_zero_or_pos r1 with hr|hr
       ·subst hr
        go_wp2_with fail
        go_meet
        exact ⟨false,rfl,rfl,Lib.hid ⟨fun h=>(by cases h),fun ⟨y,h,_⟩=>by have :=(List.getElem?_eq_some_iff.1 h).1;have :=HR1.out;have :=E1.out;omega⟩⟩
       ·obtain ⟨⟨ya,yb⟩,hy⟩:=get_ex (xs:=set) (i:=m) (by have :=HR1.out;have :=E1.out;omega)
        obtain ⟨b7,o7,rfl,hb7,hc7⟩:=(HP1.out.below HB.out) (by rw [List.length_drop];have :=HR1.out;have :=E1.out;omega)
        obtain ⟨y0,y1⟩:=pair_cells (hc7 0 (ya,yb) (by rw [get_drop];exact hy))
        simp only [Nat.zero_mul,Nat.add_zero] at y0 y1
        have r20:decide ((0:Int)<(r1:Int))=true:=by simp;omega
        have r21:(0:Int)<r1:=by omega
        have HY:=Lib.hid hy
        clear hy hc7
        obtain ⟨bb,hbb⟩: ∃bb:Bool,(yb==c)=bb:=⟨_,rfl⟩
        have HBB:=Lib.hid (show bb=true↔ ∃y,set[m]? =some y∧y.2=c by rw [HY.out, ←hbb];simp)
        go_wp2_with fail
        go_meet
        exact ⟨bb,by first|rfl|(rw [hbb]),rfl,HBB⟩
      case rest=>
       obtain ⟨bb,rfl,hw,HBB⟩:=hcut
       have hw:=hw.symm
       subst hw
       go_upto_if 52 with fail
       go_cut [1] (fun sv wx=> ∃(m' r1':Nat) (B1':Option Addr) (g1':Nat),sv= .slice B1' r1' g1'∧wx=wr∧Hid (r1'+m'=n1∧r1'≤g1')∧Hid (PairsAt w B1' (set.drop m'))∧Hid ((∃y,set[m]? =some y∧y.2=c∧m'=m+1)∨((∀y,set[m]? =some y→y.2≠c)∧m'=m)))
       case first =>
        cases bb with
        |false=>
         go_wp2_with fail
         go_meet
         exact ⟨m,r1,B1,g1,rfl,rfl,HR1,HP1,Lib.hid (.inr ⟨fun y h e=>(by have :=HBB.out.2 ⟨y,h,e⟩;cases this),rfl⟩)⟩
        |true=>
         obtain ⟨y,hy,hyc⟩:=HBB.out.1 rfl
         have HY:=Lib.hid hy
         have HYC:=Lib.hid hyc
         obtain ⟨b7,o7,rfl,hb7, -⟩:=HP1.out (by rw [List.length_drop];have :=(List.getElem?_eq_some_iff.1 hy).1;omega)
         have hr1:1≤r1:=by have :=(List.getElem?_eq_some_iff.1 hy).1;have :=HR1.out;have :=E1.out;omega
         have q1:(1:Int)≤r1:=by omega
         have q2:(r1:Int)≤g1:=by have :=HR1.out;omega
         have q3:(1:Int)≤g1:=by omega
         have HT:=Lib.hid (pairs_cut (e:=g1) HP1.out hy (by have :=HR1.out;have :=E1.out;omega))
         clear hy hyc
         by_cases hg:g1=1
         ·subst hg
          obtain rfl:r1=1:=by omega
          go_wp2_with fail
          go_meet
          exact ⟨m+1,0,some ⟨b7,o7,none⟩,0,rfl,rfl,Lib.hid (by have :=HR1.out;omega),HT,Lib.hid (.inl ⟨y,HY.out,HYC.out,rfl⟩)⟩
         ·rw [if_neg hg] at HT
          go_wp2_with fail
          go_meet
          exact ⟨m+1,r1-1,some ⟨b7,o7+2,none⟩,g1-1,rfl,rfl,Lib.hid (by have :=HR1.out;omega),HT,Lib.hid (.inl ⟨y,HY.out,HYC.out,rfl⟩)⟩
       case rest=>
        clear HBB HP1 HR1
        obtain ⟨m',r1',B1',g1',rfl,hw,HR1,HP1,HMM⟩:=hcut
        have hw:=hw.symm
        subst hw
        have HAT:=Lib.hid (show Sg.SpAt hs set c k' m' from by
         obtain ⟨a1,a2⟩:=HSS.out.hand HH.out.hr.1 HKK.out
         obtain ⟨a3,a4⟩:=HSS.out.span HH.out.up.1 HMM.out
         exact ⟨a1,a2,a3,a4⟩)
        have HSH:=Lib.hid ((HH.out.shift HC.out HC'.out HAT.out).symm.trans rfl)
        rw [HSF.out] at HSH
        have HON:=Lib.hid (HH.out.onAt HC.out HC'.out HAT.out)
        clear HKK HMM HSS
        go_upto_region 12 with fail
        go_cut [65] (fun v wx=> ∃bb:Bool,v= .bool bb∧wx=wr∧Hid (d.on c=bb))
        case first =>
         rcases Nat.eq_zero_or_pos r1' with hr|hr
         ·subst hr
          go_wp2_with fail
          go_meet
          exact ⟨false,rfl,rfl,Lib.hid (Sg.bf fun h=>by obtain ⟨y,h, -⟩:=HON.out.1 h;have :=(List.getElem?_eq_some_iff.1 h).1;have :=HR1.out;have :=E1.out;omega)⟩
         ·obtain ⟨⟨ya,yb⟩,hy⟩:=get_ex (xs:=set) (i:=m') (by have :=HR1.out;have :=E1.out;omega)
          obtain ⟨b7,o7,rfl,hb7,hc7⟩:=(HP1.out.below HB.out) (by rw [List.length_drop];have :=HR1.out;have :=E1.out;omega)
          obtain ⟨y0,y1⟩:=pair_cells (hc7 0 (ya,yb) (by rw [get_drop];exact hy))
          simp only [Nat.zero_mul,Nat.add_zero] at y0 y1
          have r20:decide ((0:Int)<(r1':Int))=true:=by simp;omega
          have r21:(0:Int)<r1':=by omega
          have HY:=Lib.hid hy
          clear hy hc7
          obtain ⟨bb,hbb⟩: ∃bb:Bool,decide (ya≤c)=bb:=⟨_,rfl⟩
          have HBB:=Lib.hid (show d.on c=bb by
           have h:=HON.out
           rw [HY.out, ←hbb] at *
           simp only [Option.some.injEq,exists_eq_left'] at h
           by_cases hq:ya≤c
           ·rw [decide_eq_true hq];exact h.2 hq
           ·rw [decide_eq_false hq];exact Sg.bf fun e=>hq (h.1 e))
          go_wp2_with fail
          go_meet
          exact ⟨bb,by first|rfl|(rw [hbb]),rfl,HBB⟩
        case rest=>
         obtain ⟨bb,rfl,hw,HBB⟩:=hcut
         have hw:=hw.symm
         subst hw
         obtain ⟨sc,hsc⟩: ∃sc,s0+(k':Int)=sc:=⟨_,rfl⟩
         rw [hsc] at HSH ⊢
         go_upto_if 65 with fail
         go_cut [15] (fun pv wx=>wx=wr∧pv= .int .i64 (d.per c))
         case first =>
          cases bb with
          |false=>
           have HV:=Lib.hid (show -1=d.per c by unfold Sg.Dy.per;rw [HBB.out];rfl)
           go_wp2_with fail
           go_meet
           exact ⟨rfl,by rw [HV.out]⟩
          |true=>
           have hsc0:0≤sc:=by
            have h:=HBB.out
            unfold Sg.Dy.on at h
            rw [Bool.and_eq_true,decide_eq_true_eq] at h
            have :=HSH.out;omega
           have hn3:1≤n3:=by have :=HH.out.ok.m;have :=E3.out;omega
           obtain ⟨rn,hrn⟩: ∃rn:Nat,sc.toNat%n3=rn:=⟨_,rfl⟩
           have hr3:rn<n3:=by rw [←hrn];exact Nat.mod_lt _ (by omega)
           have ht:sc.tmod n3=(rn:Int):=by rw [Int.tmod_eq_emod_of_nonneg hsc0, ←hrn,Int.natCast_emod,Int.toNat_of_nonneg hsc0]
           have ht2:sc%(n3:Int)=(rn:Int):=by rw [←Int.tmod_eq_emod_of_nonneg hsc0];exact ht
           obtain ⟨x,hx⟩:=get_ex (xs:=d.ms) (i:=rn) (by have :=E3.out;omega)
           have HV:=Lib.hid (show x=d.per c by
            unfold Sg.Dy.per
            rw [HBB.out,if_pos rfl, ←HSH.out,E3.out,hrn,List.getD,hx];rfl)
           obtain ⟨b8,o8,rfl,hb8,x8⟩:=ints_cell (H3.out.below HB.out) hx
           have r0:(0:Int)≤rn:=by omega
           have r1:(rn:Int)<n3:=by omega
           have hm0:¬(n3:Int)=0:=by omega
           have ⟨v1,v1'⟩:=wrapn (n:=(rn:Int)) (by omega)
           clear hrn hx
           go_wp2_with fail
           go_meet
           exact ⟨rfl,by rw [HV.out]⟩
         case rest=>
          obtain ⟨hw,rfl⟩:=hcut
          have hw:=hw.symm
          subst hw
          go_wp2_with (at_builtin;refine wp_append_one kSeg _ rfl _ _ rfl w.heap.size _ (Sg.pcs d cs i) rfl (HO.out.alloc _) wr.heap.size (c,c',d.per c) rfl (trip_new rfl) (by rw [Sg.pcs_len];omega) (by simp;omega) ?_;intro gg cap w3 hO3 hB3 hg3 hgo _)
          go_roundw
          case rel=>exact ⟨i+1,k',m',r1',r2',B1',B2',g1',g2',by go_num,by omega,rfl,rfl,by rw [hsc],HR1,HR2,Lib.hid ⟨c',HC'.out,HH.out.next HC.out HC'.out HAT.out⟩,HP1,HP2,Lib.hid (by rw [Sg.pcs_succ HC.out HC'.out];have :=hO3;rw [Sg.pcs_len] at this ⊢;exact this),Lib.hid (HS.out.trans (Stp.app rfl hg3 hgo))⟩
          case measure=>simp [intOf];omega
   ·have HI:=Lib.hid (show i=n0-1 by omega)
    go_wp2_with fail
    go_ret
    exact ⟨_,rfl,HI.out▸HO.out,HB.out⟩
end Go.Proofs.YtfamcohbnoibaaaGreatDoor
