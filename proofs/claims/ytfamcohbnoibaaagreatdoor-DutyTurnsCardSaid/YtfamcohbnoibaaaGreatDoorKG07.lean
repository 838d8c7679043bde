import Derived.Test.YtfamcohbnoibaaaGreatDoorKG06
import Derived.Deep.RegionHeld3
import Derived.Test.YtfamcohbnoibaaaGreatDoorKG00
set_option linter.unusedVariables false
set_option linter.unusedSimpArgs false
set_option maxRecDepth 100000
namespace Go.Proofs.YtfamcohbnoibaaaGreatDoor
open Go.RowKit
theorem rule_cells {w:World} {b off i:Nat} {r:Zn.Rule} (h: ∀j,j<7→w.cell? ⟨b,off+i*7+j,none⟩=some (eRule r j)):
  w.cell? ⟨b,off+i*7,none⟩=some (.int .i64 r.fr)∧w.cell? ⟨b,off+i*7+1,none⟩=some (.int .i64 r.to)∧w.cell? ⟨b,off+i*7+2,none⟩=some (.int .i64 r.mo)∧w.cell? ⟨b,off+i*7+3,none⟩=some (.int .i64 r.wk)∧w.cell? ⟨b,off+i*7+4,none⟩=some (.int .i64 r.wd)∧w.cell? ⟨b,off+i*7+5,none⟩=some (.int .i64 r.sec)∧w.cell? ⟨b,off+i*7+6,none⟩=some (.int .i64 r.off):=
 ⟨h 0 (by omega),h 1 (by omega),h 2 (by omega),h 3 (by omega),h 4 (by omega),h 5 (by omega),h 6 (by omega)⟩
def RuleBlk (w:World) (b:Nat) (r:Zn.Rule):Prop:=BlkAt w b #[.int .i64 r.fr,.int .i64 r.to,.int .i64 r.mo,.int .i64 r.wk,.int .i64 r.wd,.int .i64 r.sec,.int .i64 r.off] 148
theorem RuleBlk.cells {w:World} {b:Nat} {r:Zn.Rule} (h:RuleBlk w b r):w.cell? ⟨b,0,none⟩=some (.int .i64 r.fr)∧w.cell? ⟨b,1,none⟩=some (.int .i64 r.to)∧w.cell? ⟨b,2,none⟩=some (.int .i64 r.mo)∧w.cell? ⟨b,3,none⟩=some (.int .i64 r.wk)∧w.cell? ⟨b,4,none⟩=some (.int .i64 r.wd)∧w.cell? ⟨b,5,none⟩=some (.int .i64 r.sec)∧w.cell? ⟨b,6,none⟩=some (.int .i64 r.off):=
 ⟨BlkAt.cell h rfl,BlkAt.cell h rfl,BlkAt.cell h rfl,BlkAt.cell h rfl,BlkAt.cell h rfl,BlkAt.cell h rfl,BlkAt.cell h rfl⟩
theorem pair_new {W:World} {B:Nat} {x:Int×Int} {T:TypeId} (h:W.heap.size=B): ∀j,j<2→(W.alloc (.cells #[.int .i64 x.1,.int .i64 x.2] T)).cell? ⟨B,j,none⟩=some (ePair x j):=fun j hj=>by
 subst h
 match j,hj with
 |0,_=>simp [ePair]
 |1,_=>simp [ePair]
def GivesP (xs:Zn.L) (w:World) (e:Ending) (w':World):Prop:= ∃A c,e= .returned (.slice A xs.length c)∧PairsAt w' A xs∧Below w.heap.size w w'
theorem flat_all {rs:List Zn.Rule} (h:rs.all Zn.okR=true) {k:Nat} {r:Zn.Rule} (hr:rs[k]? =some r):Zn.okR r=true:=List.all_eq_true.1 h r (List.mem_of_getElem? hr)
theorem flat_take_le (rs:List Zn.Rule): ∀k,(Zn.flat (rs.take k)).length≤(Zn.flat rs).length:=fun k=>by
 conv=>rhs;rw [←List.take_append_drop k rs]
 unfold Zn.flat
 rw [List.flatMap_append,List.length_append];omega
theorem to_row {w:World} {B:Nat} {v:Value} {xs:Zn.L} (h:OwnL 200 2 ePair w B v xs):(v= .slice none 0 0∧xs=[])∨ ∃g cap,v= .slice (some ⟨g,0,none⟩) xs.length cap∧B≤g∧RowAt w g xs:=by
 rcases h.row with h|⟨g,cap,rfl,hB,hg,hc,hx⟩
 ·exact .inl h
 ·refine .inr ⟨g,cap,rfl,hB,hg,fun k hk=> ?_⟩
  obtain ⟨x,hxk⟩:=get_ex hk
  have e:xs.getD k (0,0)=x:=by simp [List.getD,hxk]
  rw [e]
  have c0:=hx k x hxk 0 (by omega)
  have c1:=hx k x hxk 1 (by omega)
  exact ⟨c0.1,c1.1,c0.2,c1.2⟩
theorem row_pairs {w:World} {g:Nat} {xs:Zn.L} (h:RowAt w g xs):PairsAt w (some ⟨g,0,none⟩) xs:=fun h0=>by
 refine ⟨g,0,rfl,h.1,fun i x hx j hj=> ?_⟩
 have hi:=(List.getElem?_eq_some_iff.1 hx).1
 obtain ⟨a,b, -, -⟩:=h.2 i hi
 have e:xs.getD i (0,0)=x:=by simp [List.getD,hx]
 rw [e] at a b
 rw [Nat.zero_add]
 match j,hj with
 |0,_=>exact a
 |1,_=>exact b
theorem own_block {w:World} {B:Nat} {v:Value} {xs:Zn.L} {T:TypeId} (h:OwnL T 2 ePair w B v xs) {b:Nat} (hb:w.heap.size≤b):v.ownBlock≠some b:=fun e=>by
 have :=(World.ownsRow.lt h b e).2;omega
set_option maxHeartbeats 8000000 in
set_option maxRecDepth 100000 in
theorem occ_any (A:Option Addr) (n c m:Nat) (rs:List Zn.Rule) (w:World) (hT:CivT w) (hA:RulesAt w A rs) (hn:rs.length=n) (hn16:n≤16) (hok:rs.all Zn.okR=true) (hm:(Zn.flat rs).length=m) (hm640:m≤640):
  Calls Tryz.prog 125 #[.slice A n c,.int .i64 m] w (GivesP (Zs.srt (Zn.flat rs)) w):=by
 have HN:=Lib.hid hn
 have HOK:=Lib.hid hok
 have HM:=Lib.hid hm
 have HT:=Lib.hid hT
 clear hn hok hm hT
 go_enter Tryz.func125,Tryz.ntmps125
 go_wp2_with (at_make;refine wp_make_k kOcc w rfl _ _ rfl w.heap.size _ _ _ m rfl rfl rfl (by omega) (Nat.le_refl _) ?_;intro w0 hO0 hB0)
 obtain ⟨v0,hv0⟩: ∃v0,Value.slice (some ⟨w.heap.size,0,none⟩) 0 m=v0:=⟨_,rfl⟩
 rw [hv0] at hO0
 go_wp2_with fail
 go_loopw [5,15] (fun v i wr=> ∃k:Nat,k≤n∧i= .int .i64 k∧Hid (v≠ .slice none 0 0)∧Hid (OwnL 200 2 ePair wr w.heap.size v (Zn.flat (rs.take k)))∧Hid (Below w.heap.size w wr)) (fun _ i _=>n-(intOf i).toNat)
 case atStart=>exact ⟨0,Nat.zero_le _,rfl,Lib.hid (fun h=>by cases h),Lib.hid (by rw [hv0];exact hO0),Lib.hid hB0⟩
 case round=>
  clear hO0 hB0 hv0
  obtain ⟨k,hk,rfl,HNN,HO,HB⟩:=hrel
  by_cases hlt:k<n
  ·obtain ⟨r,hr⟩:=get_ex (xs:=rs) (i:=k) (by have :=HN.out;omega)
   obtain ⟨b,off,rfl,hb,hc⟩:=(hA.below HB.out) (by have :=HN.out;omega)
   obtain ⟨c0,c1,c2,c3,c4,c5,c6⟩:=rule_cells (hc k r hr)
   have hor:=flat_all HOK.out hr
   have hbd:=Zn.okR_iff.1 hor
   have htk:=take_snoc' hr
   have hfl:Zn.flat (rs.take (k+1))=Zn.flat (rs.take k)++Zn.occ r r.fr (Zn.yrs r):=by rw [htk,Zn.flat_snoc];rfl
   have hfle:=flat_take_le rs (k+1)
   rw [hfl,HM.out,List.length_append,Zn.occ_len] at hfle
   obtain ⟨L0,hL0⟩: ∃L0,Zn.flat (rs.take k)=L0:=⟨_,rfl⟩
   rw [hL0] at HO hfl hfle
   have HFL:=Lib.hid hfl
   have HOR:=Lib.hid hor
   have hy:(Zn.yrs r:Int)=r.to-r.fr+1:=by unfold Zn.yrs;omega
   have HY:=Lib.hid hy
   obtain ⟨wo,rfl⟩: ∃wo:World,wo=wr:=⟨_,rfl⟩
   have hblk:=own_block HO.out (Nat.le_refl _)
   have RB:RuleBlk (wo.alloc (.cells #[.int .i64 r.fr,.int .i64 r.to,.int .i64 r.mo,.int .i64 r.wk,.int .i64 r.wd,.int .i64 r.sec,.int .i64 r.off] 148)) wo.heap.size r:=BlkAt.new _ _ _
   have O1:=(HO.out.alloc (.cells #[.int .i64 r.fr,.int .i64 r.to,.int .i64 r.mo,.int .i64 r.wk,.int .i64 r.wd,.int .i64 r.sec,.int .i64 r.off] 148))
   have B1:=(HB.out.alloc HB.out.size (.cells #[.int .i64 r.fr,.int .i64 r.to,.int .i64 r.mo,.int .i64 r.wk,.int .i64 r.wd,.int .i64 r.sec,.int .i64 r.off] 148))
   have HNE:=Lib.hid hblk
   have hrz:=HB.out.size
   obtain ⟨fr,hfr⟩: ∃x,r.fr=x:=⟨_,rfl⟩
   obtain ⟨tt,htt⟩: ∃x,r.to=x:=⟨_,rfl⟩
   rw [hfr] at c0 hbd
   rw [htt] at c1 hbd
   have hbf:1970≤fr∧fr≤2240∧fr≤tt∧tt≤2240:=by omega
   obtain ⟨f1,f2,f3,f4⟩:=hbf
   rw [hfr,htt] at O1 B1 RB
   have O1:=Lib.hid O1
   have B1:=Lib.hid B1
   have HRB:=Lib.hid RB
   have HFT:Hid (r.fr=fr∧r.to=tt):=Lib.hid ⟨hfr,htt⟩
   clear hc hr hor htk hL0 hfl hy RB hblk hbd hfr htt HO
   as_aux_lemma=>
   go_wp2_with fail
   go_loopw [5,8] (fun v y wx=> ∃j:Nat,y= .int .i64 (fr+j)∧(j:Int)≤tt-fr+1∧Hid (v≠ .slice none 0 0)∧Hid (OwnL 200 2 ePair wx w.heap.size v (L0++Zn.occ r r.fr j))∧Hid (Below w.heap.size w wx)∧Hid (RuleBlk wx wo.heap.size r)∧Hid (v.ownBlock≠some wo.heap.size)) (fun _ y _=>(tt+1-intOf y).toNat)
   case atStart=>exact ⟨0,by simp,by omega,HNN,Lib.hid (by rw [show Zn.occ r r.fr 0=[] from rfl,List.append_nil];exact O1.out),B1,HRB,HNE⟩
   case round=>
    clear O1 B1 HRB HNE HNN
    obtain ⟨j,rfl,hj,HNN,HO,HB2,HRB,HNE⟩:=hrel
    obtain ⟨d0,d1,d2,d3,d4,d5,d6⟩:=RuleBlk.cells HRB.out
    rw [HFT.out.2] at d1
    by_cases hle:fr+j≤tt
    ·have hbd:=Zn.okR_iff.1 HOR.out
     rw [HFT.out.1,HFT.out.2] at hbd
     have hnb:=Zn.nth_bd (y:=fr+j) HOR.out (by have :=HFT.out;omega) (by have :=HFT.out;omega)
     have hT1:=HT.out.below HB2.out
     have C:=nth_yes (fr+j) r.mo r.wk r.wd wr hT1 (Zn.vld_first (by omega) (by omega) (by omega) (by omega)) (by omega) (by omega) (by omega) (by omega)
     change Calls _ _ _ _ (fun e w'=>e= .returned (.tuple #[.int .i64 (Zn.nth r (fr+j)),.int .i64 0])∧Below wr.heap.size wr w') at C
     have hsn:=Zn.occ_snoc r j r.fr
     rw [HFT.out.1] at hsn
     obtain ⟨D,hD⟩: ∃D,Zn.nth r (fr+j)=D:=⟨_,rfl⟩
     rw [hD] at C hnb hsn
     have HC:=Lib.hid C
     have HSN:=Lib.hid hsn
     obtain ⟨sec,hsec⟩: ∃x,r.sec=x:=⟨_,rfl⟩
     rw [hsec] at d5 hbd
     have s1:0≤sec∧sec<86400:=by omega
     obtain ⟨s1,s2⟩:=s1
     obtain ⟨n1,n2⟩:=hnb
     have HSE:=Lib.hid hsec
     have hlen:(L0++Zn.occ r r.fr j).length≤900000:=by rw [List.length_append,Zn.occ_len];have :=HY.out;have :=HFT.out;omega
     have hj0:(0:Int)≤j:=by omega
     clear hsn C hT1 hbd hD hsec
     as_aux_lemma=>
     go_wp2_with fail
     refine HC.out.mono ?_
     rintro e w1 ⟨rfl,hb1⟩
     have B3:=Lib.hid ((HB2.out).trans (hb1.mono HB2.out.size))
     have O3:=Lib.hid (HO.out.below hb1)
     have R3:=HRB.out.after hb1
     obtain ⟨e0,e1,e2,e3,e4,e5,e6⟩:=RuleBlk.cells R3
     rw [HSE.out] at e5
     have HR3:=Lib.hid R3
     clear R3 HC hb1 d0 d1 d2 d3 d4 d5 d6 HRB HB2 HO
     have hwz:=B3.out.size
     have hlt1:=BlkAt.lt_ HR3.out
     go_wp2_with (at_builtin;refine wp_append_one kOcc _ rfl _ _ rfl w.heap.size _ (L0++Zn.occ r r.fr j) rfl (O3.out.alloc _) w1.heap.size (D*86400+sec,r.off) rfl (pair_new (x:=(D*86400+sec,r.off)) rfl) hlen (by simp;omega) ?_;intro gg cap w2 hO4 hB4 hg4 hgo _)
     have B5:Below w.heap.size w w2:=(B3.out.alloc hwz _).trans hB4
     have R5:RuleBlk w2 wo.heap.size r:=(BlkAt.alloc HR3.out _).grown hg4 (fun e=>HNE.out e.symm)
     have N5:(Value.slice (some ⟨gg,0,none⟩) ((L0++Zn.occ r r.fr j).length+1) cap).ownBlock≠some wo.heap.size:=fun e=>by
      simp only [Value.ownBlock,Option.some.injEq] at e
      rcases hgo with h|h
      ·exact HNE.out (h.trans (congrArg some e))
      ·simp at h;omega
     have O5:=Lib.hid hO4
     have B5:=Lib.hid B5
     have R5:=Lib.hid R5
     have N5:=Lib.hid N5
     clear hO4 hB4 hg4 hgo
     go_wp2_with fail
     go_roundw
     case rel=>exact ⟨j+1,by go_num,by omega,Lib.hid (fun h=>by cases h),Lib.hid (by have :=O5.out;rw [List.length_append,List.append_assoc] at this;rw [HFT.out.1,HSN.out,HSE.out, ←HFT.out.1];exact this),B5,R5,N5⟩
     case measure=>simp [intOf];omega
    ·have hjy:j=Zn.yrs r:=by have :=HY.out;have :=HFT.out;omega
     have HO2:=HO.out
     rw [hjy, ←HFL.out] at HO2
     have HO2:=Lib.hid HO2
     clear hjy HO
     as_aux_lemma=>
     go_wp2_with fail
     go_roundw
     case rel=>exact ⟨k+1,by omega,by go_num,HNN,HO2,HB2⟩
     case measure=>simp [intOf];omega
  ·have hk2:rs.take k=rs:=List.take_of_length_le (by have :=HN.out;omega)
   rw [hk2] at HO
   rcases to_row HO.out with ⟨hv,h0⟩|⟨g,cap,rfl,hBg,hRow⟩
   ·exact absurd hv HNN.out
   ·have C:=sort_any g cap m (Zn.flat rs) wr hRow HM.out (by omega)
    have HC:=Lib.hid C
    have hsl:=Zs.srt_len (Zn.flat rs)
    rw [HM.out] at hsl ⊢
    have HSL:=Lib.hid hsl
    clear C hsl HO hRow hk2
    as_aux_lemma=>
    go_wp2_with fail
    refine HC.out.mono ?_
    rintro e w1 ⟨rfl,hs⟩
    have hP:=row_pairs hs.1
    have hB2:=HB.out.trans (hs.2 w.heap.size hBg)
    have HP:=Lib.hid hP
    have HB2:=Lib.hid hB2
    clear hs hP hB2
    go_wp2_with fail
    go_ret
    exact ⟨_,_,by rw [HSL.out];rfl,HP.out,HB2.out⟩
open Go.RowKit
def GivesT (ts:Zn.L) (er:Int) (w:World) (e:Ending) (w':World):Prop:= ∃A c,e= .returned (.tuple #[.slice A ts.length c,.int .i64 er])∧PairsAt w' A ts∧Below w.heap.size w w'
theorem GivesT.none_ {w w':World} {er:Int} (h:Below w.heap.size w w'):GivesT [] er w (.returned (.tuple #[.slice none 0 0,.int .i64 er])) w':=⟨none,0,rfl,ListAt.nil_,h⟩
def GivesC (ts:Zn.L) (er:Int) (w:World) (e:Ending) (w':World):Prop:= ∃A c,e= .returned (.tuple #[.slice A ts.length c,.int .i64 er])∧PairsAt w' A ts∧Below w.heap.size w w'∧ts.length≤c
theorem GivesC.none_ {w w':World} {er:Int} (h:Below w.heap.size w w'):GivesC [] er w (.returned (.tuple #[.slice none 0 0,.int .i64 er])) w':=⟨none,0,rfl,ListAt.nil_,h,Nat.le_refl 0⟩
theorem GivesC.weak {ts:Zn.L} {er:Int} {w:World} {e:Ending} {w':World} (h:GivesC ts er w e w'):GivesT ts er w e w':=by
 obtain ⟨A,c,h1,h2,h3, -⟩:=h
 exact ⟨A,c,h1,h2,h3⟩
def folR (f:Option Zn.L):Zn.L:=match f with|none=>[]|some l=>l
def folE (f:Option Zn.L):Int:=match f with|none=>6|some _=>0
def PairBlk (w:World) (b:Nat) (x:Int×Int) (T:TypeId):Prop:=BlkAt w b #[.int .i64 x.1,.int .i64 x.2] T
theorem PairBlk.cells {w:World} {b:Nat} {x:Int×Int} {T:TypeId} (h:PairBlk w b x T):w.cell? ⟨b,0,none⟩=some (.int .i64 x.1)∧w.cell? ⟨b,1,none⟩=some (.int .i64 x.2):=⟨BlkAt.cell h rfl,BlkAt.cell h rfl⟩
set_option maxHeartbeats 8000000 in
set_option maxRecDepth 100000 in
theorem follow_any (off:Int) (A:Option Addr) (n c:Nat) (l:Zn.L) (w:World) (hA:PairsAt w A l) (hn:l.length=n) (hn640:n≤640) (hoff:Zn.okO off=true) (hl: ∀x∈l,0≤x.1∧x.1≤8551958400∧ -64800≤x.2∧x.2≤64800):
  Calls Tryz.prog 124 #[.int .i64 off,.slice A n c] w (GivesC (folR (Zn.fol off 0 l)) (folE (Zn.fol off 0 l)) w):=by
 obtain ⟨f,hf⟩: ∃f,Zn.fol off 0 l=f:=⟨_,rfl⟩
 have hst:=Zn.At.start l off
 rw [hf] at hst ⊢
 have HN:=Lib.hid hn
 have HL:=Lib.hid hl
 have HST:=Lib.hid hst
 rw [Zn.okO_iff] at hoff
 obtain ⟨o1,o2⟩:=hoff
 clear hn hl hst hf
 go_enter Tryz.func124,Tryz.ntmps124
 go_wp2_with fail
 go_loopw [0,6,7,14] (fun vo v ve i wr=> ∃(k:Nat) (now ear:Int) (out:Zn.L),k≤n∧i= .int .i64 k∧vo= .int .i64 now∧ve= .int .i64 ear∧ -64800≤now∧now≤64800∧0≤ear∧ear≤8600000000∧out.length≤k∧Hid (Zn.At l f k now ear out)∧Hid (OwnL 134 2 ePair wr w.heap.size v out)∧Hid (Below w.heap.size w wr)) (fun _ _ _ i _=>n-(intOf i).toNat)
 case atStart=>exact ⟨0,off,0,[],Nat.zero_le _,rfl,rfl,rfl,o1,o2,by omega,by omega,by simp,HST,Lib.hid (OwnL.nil_ _ _),Lib.hid (Below.refl _ _)⟩
 case round=>
  clear HST o1 o2
  obtain ⟨k,now,ear,out,hk,rfl,rfl,rfl,w1,w2,e1,e2,hol,HAt,HO,HB⟩:=hrel
  by_cases hlt:k<n
  ·obtain ⟨⟨loc,o⟩,hx⟩:=get_ex (xs:=l) (i:=k) (by have :=HN.out;omega)
   obtain ⟨b,of,rfl,hb,hc⟩:=(hA.below HB.out) (by have :=HN.out;omega)
   obtain ⟨c0,c1⟩:=pair_cells (hc k _ hx)
   simp only at c0 c1
   have hbd:=HL.out _ (List.mem_of_getElem? hx)
   simp only at hbd
   obtain ⟨g1,g2,g3,g4⟩:=hbd
   have hgd:l.getD k (0,0)=(loc,o):=by simp [List.getD,hx]
   have hkl:k<l.length:=by have :=HN.out;omega
   have HGD:=Lib.hid hgd
   have hrz:=HB.out.size
   clear hc hx hgd
   by_cases hs:o=now
   ·have A2:=Lib.hid (HAt.out.skip hkl (by rw [HGD.out,hs]))
    subst hs
    clear HAt
    as_aux_lemma=>
    go_wp2_with fail
    go_roundw
    case rel=>exact ⟨k+1,o,ear,out,by omega,by go_num,rfl,rfl,w1,w2,e1,e2,by omega,A2,Lib.hid (HO.out.alloc _),Lib.hid (HB.out.alloc hrz _)⟩
    case measure=>simp [intOf];omega
   ·have hne:(o==now)=false:=by simpa using hs
    have s1:IntKind.i64.wrap (o-now)=o-now:=by rw [IntKind.wrap_i64];omega
    have s2:IntKind.i64.wrap (loc-now)=loc-now:=by rw [IntKind.wrap_i64];omega
    by_cases hbad:o-now≤ -86400∨86400≤o-now∨loc-now<ear∨8589934592<loc-now
    ·have hf:=HAt.out.bad hkl HGD.out hs hbad
     subst hf
     have hcs:(o-now≤ -86400)∨(¬o-now≤ -86400∧86400≤o-now)∨(¬o-now≤ -86400∧¬86400≤o-now∧loc-now<ear)∨(¬o-now≤ -86400∧¬86400≤o-now∧¬loc-now<ear∧8589934592<loc-now):=by omega
     clear hbad HAt
     have hcs2:(o-now≤ -86400)∨(¬o-now≤ -86400∧86400≤o-now)∨(¬o-now≤ -86400∧¬86400≤o-now∧loc-now<ear):=by omega
     clear hcs
     rcases hcs2 with h1|⟨h1,h2⟩|⟨h1,h2,h3⟩
     all_goals
      as_aux_lemma=>
      go_wp2_with fail
      go_quiet (fail)
      go_wp2_with fail
      go_ret2
      exact GivesC.none_ (below_drewN (HB.out.alloc hrz _) _)
    ·have A2:=Lib.hid (HAt.out.add hkl HGD.out hs hbad)
     have hcs:¬o-now≤ -86400∧¬86400≤o-now∧¬loc-now<ear∧¬8589934592<loc-now:=by omega
     obtain ⟨h1,h2,h3,h4⟩:=hcs
     have PB:PairBlk (wr.alloc (.cells #[.int .i64 loc,.int .i64 o] 200)) wr.heap.size (loc,o) 200:=BlkAt.new _ _ _
     have HPB:=Lib.hid PB
     have HNE:=Lib.hid (own_block HO.out (Nat.le_refl _))
     have hol2:out.length≤900000:=by omega
     clear hbad HAt PB
     as_aux_lemma=>
     go_wp2_with fail
     go_quiet (fail)
     go_wp2_with (at_builtin;refine wp_append_one kTra _ rfl _ _ rfl w.heap.size _ out rfl (((HO.out.alloc _).alloc _).drewN _) (wr.heap.size+1) (loc-now,o) rfl (pair_new (x:=(loc-now,o)) (by simp)) hol2 (by simp;omega) ?_;intro gg cap w3 hO3 hB3 hg3 hgo _;have P5:PairBlk w3 wr.heap.size (loc,o) 200:=((BlkAt.alloc HPB.out _).drewN nq).grown hg3 (fun e=>HNE.out e.symm);obtain ⟨d0,d1⟩:=PairBlk.cells P5;simp only at d0 d1)
     have B5:Below w.heap.size w w3:=(below_drewN ((HB.out.alloc hrz _).alloc (by simp;omega) _) nq).trans hB3
     have O5:=Lib.hid hO3
     have B5:=Lib.hid B5
     clear hO3 hB3 hg3 hgo P5 c0 c1
     go_wp2_with fail
     go_roundw
     case rel=>exact ⟨k+1,o,loc-now+604800,out++[(loc-now,o)],by omega,by go_num,rfl,rfl,g3,g4,by omega,by omega,by simp;omega,A2,O5,B5⟩
     case measure=>simp [intOf];omega
  ·obtain rfl:k=n:=by omega
   have hf:=HAt.out
   rw [←HN.out] at hf
   have hf2:=hf.done
   subst hf2
   obtain ⟨A1,c1,rfl,hcc, -,hS⟩:=HO.out.shape
   have HS:=Lib.hid hS
   have HCC:=Lib.hid hcc
   clear hf HAt hS HO hcc
   as_aux_lemma=>
   go_wp2_with fail
   go_ret2
   exact ⟨A1,c1,rfl,HS.out,HB.out,HCC.out⟩
open Go.RowKit
theorem cell_keep {w w':World} {b i:Nat} {v:Value} (h:w.cell? ⟨b,i,none⟩=some v) (hb:Below w.heap.size w w'):w'.cell? ⟨b,i,none⟩=some v:=
 (hb.cell (p:=⟨b,i,none⟩) (World.block_lt_of_cell? w _ h)).trans h
structure ZIn (w:World) (A:Option Addr) (n:Nat) (rs:List Zn.Rule):Prop where
 civ:CivT w
 at_:RulesAt w A rs
 len:rs.length=n
 fit: ∀r∈rs,FitR r
 le:n≤9223372036854775807
theorem ZIn.below {w w':World} {A:Option Addr} {n:Nat} {rs:List Zn.Rule} (h:ZIn w A n rs) (hb:Below w.heap.size w w'):ZIn w' A n rs:=⟨h.civ.below hb,h.at_.below hb,h.len,h.fit,h.le⟩
theorem ZIn.alloc {w:World} {A:Option Addr} {n:Nat} {rs:List Zn.Rule} (h:ZIn w A n rs) (o:Obj):ZIn (w.alloc o) A n rs:=h.below ((Below.refl _ _).alloc (Nat.le_refl _) _)
theorem tr1 {off:Int} {rs:List Zn.Rule} (h:Zn.okO off=false):Zn.trans off rs=([],1):=by unfold Zn.trans;rw [if_pos h]
theorem tr2 {off:Int} {rs:List Zn.Rule} (h:Zn.okO off=true) (h2:16<rs.length):Zn.trans off rs=([],5):=by unfold Zn.trans;rw [if_neg (by rw [h];decide),if_pos h2]
theorem tr3 {off:Int} {rs:List Zn.Rule} (h:Zn.okO off=true) (h2:rs.length≤16) {k:Nat} {r:Zn.Rule} (hk:rs[k]? =some r) (h3:Zn.okR r=false):Zn.trans off rs=([],1):=by
 unfold Zn.trans
 rw [if_neg (by rw [h];decide),if_neg (by omega),if_pos]
 rw [List.all_eq_false]
 exact ⟨r,List.mem_of_getElem? hk,by rw [h3];decide⟩
theorem tr4 {off:Int} {rs:List Zn.Rule} (h:Zn.okO off=true) (h2:rs.length≤16) (h3:rs.all Zn.okR=true) (h4:640<Zn.cnt rs):Zn.trans off rs=([],5):=by
 unfold Zn.trans
 rw [if_neg (by rw [h];decide),if_neg (by omega),if_neg (by rw [h3];decide),if_pos h4]
theorem tr5 {off:Int} {rs:List Zn.Rule} (h:Zn.okO off=true) (h2:rs.length≤16) (h3:rs.all Zn.okR=true) (h4:Zn.cnt rs≤640):Zn.trans off rs=(folR (Zn.fol off 0 (Zs.srt (Zn.flat rs))),folE (Zn.fol off 0 (Zs.srt (Zn.flat rs)))):=by
 unfold Zn.trans
 rw [if_neg (by rw [h];decide),if_neg (by omega),if_neg (by rw [h3];decide),if_neg (by omega)]
 cases Zn.fol off 0 (Zs.srt (Zn.flat rs))<;>rfl
theorem flat_bd {rs:List Zn.Rule} (h:rs.all Zn.okR=true): ∀x∈Zs.srt (Zn.flat rs),0≤x.1∧x.1≤8551958400∧ -64800≤x.2∧x.2≤64800:=fun x hx=>by
 rw [Zs.srt_mem] at hx
 obtain ⟨r,hr,hx⟩:=List.mem_flatMap.1 hx
 have hor:=List.all_eq_true.1 h r hr
 have hb:=Zn.okR_iff.1 hor
 have key: ∀(k:Nat) (y:Int),r.fr≤y→y+k≤r.to+1→ ∀x∈Zn.occ r y k,0≤x.1∧x.1≤8551958400∧ -64800≤x.2∧x.2≤64800:=by
  intro k
  induction k with
  |zero=>intro y _ _ x hx;cases hx
  |succ k ih=>
   intro y h1 h2 x hx
   rw [Zn.occ] at hx
   rcases List.mem_cons.1 hx with rfl|hx
   ·have :=Zn.nth_bd hor h1 (by omega)
    simp only;omega
   ·exact ih (y+1) (by omega) (by omega) x hx
 exact key _ _ (Int.le_refl _) (by unfold Zn.yrs;omega) x hx
def ZSt (w:World) (A:Option Addr) (n:Nat) (rs:List Zn.Rule) (W:World):Prop:=ZIn W A n rs∧Below w.heap.size w W
theorem ZSt.after {w W W':World} {A:Option Addr} {n:Nat} {rs:List Zn.Rule} (h:ZSt w A n rs W) (hb:Below W.heap.size W W'):ZSt w A n rs W':=⟨h.1.below hb,bstep h.2 hb⟩
theorem keepZ {w W W':World} {A:Option Addr} {n:Nat} {rs:List Zn.Rule} {b:Nat} {v1 v2:Value} (h:W.cell? ⟨b,1,none⟩=some v1∧W.cell? ⟨b,2,none⟩=some v2∧ZSt w A n rs W) (hb:Below W.heap.size W W'):
  W'.cell? ⟨b,1,none⟩=some v1∧W'.cell? ⟨b,2,none⟩=some v2∧ZSt w A n rs W':=⟨cell_keep h.1 hb,cell_keep h.2.1 hb,h.2.2.after hb⟩
set_option maxHeartbeats 8000000 in
set_option maxRecDepth 100000 in
theorem trans_any (s:ByteArray) (off:Int) (A:Option Addr) (n c:Nat) (rs:List Zn.Rule) (w:World) (hz:ZIn w A n rs) (ho:I64 off):
  Calls Tryz.prog 79 #[valZ s off A n c] w (GivesC (Zn.trans off rs).1 (Zn.trans off rs).2 w):=by
 obtain ⟨ts,er,htr⟩: ∃ts er,Zn.trans off rs=(ts,er):=⟨_,_,rfl⟩
 rw [htr]
 unfold valZ
 have hlen:=hz.len
 have hle:=hz.le
 have CO:=fun W=>validOffset_any off W
 cases hok:Zn.okO off
 ·rw [tr1 hok] at htr
  cases htr
  rw [hok] at CO
  have HCO:=Lib.hid CO
  clear CO hz hlen hok
  go_enter Tryz.func79,Tryz.ntmps79
  go_wp2_with (go_at_call 122;refine (HCO.out _).mono ?_;rintro e w' ⟨rfl,rfl⟩)
  go_ret2
  exact GivesC.none_ ((Below.refl _ _).alloc (Nat.le_refl _) _)
 rw [hok] at CO
 have HCO:=Lib.hid CO
 clear CO
 by_cases h16:(16:Int)<n
 ·rw [tr2 hok (by omega)] at htr
  cases htr
  clear hz hlen hok
  go_enter Tryz.func79,Tryz.ntmps79
  go_wp2_with (go_at_call 122;refine (HCO.out _).mono ?_;rintro e w' ⟨rfl,rfl⟩)
  go_ret2
  exact GivesC.none_ ((Below.refl _ _).alloc (Nat.le_refl _) _)
 have HTR:=Lib.hid htr
 have HZ:Hid (ZSt w A n rs (w.alloc (.cells #[.string s,.int .i64 off,.slice A n c] 71))):=Lib.hid ⟨hz.alloc _,(Below.refl _ _).alloc (Nat.le_refl _) _⟩
 have ZB:ZBlk (w.alloc (.cells #[.string s,.int .i64 off,.slice A n c] 71)) w.heap.size s off A n c:=BlkAt.new _ _ _
 have HZB:=Lib.hid ZB
 have HOK:=Lib.hid hok
 have HN:=Lib.hid hlen
 have n16:n≤16:=by omega
 have n16i:(n:Int)≤16:=by omega
 obtain ⟨bz,hbz⟩: ∃bz,w.heap.size=bz:=⟨_,rfl⟩
 have HBZ:=Lib.hid hbz
 have hcnt0:Zn.cnt (rs.take 0)=0:=rfl
 clear hz htr hok hlen ZB hbz h16 hcnt0
 go_enter Tryz.func79,Tryz.ntmps79
 go_wp2_with (go_at_call 122;refine (HCO.out _).mono ?_;rintro e w' ⟨rfl,rfl⟩)
 rw [HBZ.out] at HZB ⊢
 go_loopw [4,18] (fun vc i wr=> ∃(k:Nat) (q:Int),k≤n∧i= .int .i64 k∧vc= .int .i64 q∧Hid (Zn.cnt (rs.take k)=q)∧Hid ((rs.take k).all Zn.okR=true)∧Hid (ZSt w A n rs wr)∧Hid (ZBlk wr bz s off A n c)) (fun _ i _=>n-(intOf i).toNat)
 case atStart=>exact ⟨0,0,Nat.zero_le _,rfl,rfl,Lib.hid rfl,Lib.hid rfl,HZ,HZB⟩
 case round=>
  clear HZ HZB
  obtain ⟨k,q,hk,rfl,rfl,HQ,HA,HZ,HZB⟩:=hrel
  have hqb:=Zn.cnt_bd HA.out
  rw [HQ.out] at hqb
  have hlk:(rs.take k).length≤16:=by rw [List.length_take];have :=HN.out;omega
  obtain ⟨q1,q2⟩:=hqb
  have q3:q≤4336:=by omega
  clear q2 hlk
  obtain ⟨z0,z1,z2⟩:=ZBlk.cells HZB.out
  by_cases hlt:k<n
  ·obtain ⟨r,hr⟩:=get_ex (xs:=rs) (i:=k) (by have :=HN.out;omega)
   obtain ⟨b,of,rfl,hb,hc⟩:=HZ.out.1.at_ (by have :=HN.out;omega)
   obtain ⟨c0,c1,c2,c3,c4,c5,c6⟩:=rule_cells (hc k r hr)
   have hfit:=HZ.out.1.fit r (List.mem_of_getElem? hr)
   have hrz:=HZ.out.2.size
   have ZA:=Lib.hid (HZ.out.after ((Below.refl wr.heap.size wr).alloc (Nat.le_refl _) (.cells #[.int .i64 r.fr,.int .i64 r.to,.int .i64 r.mo,.int .i64 r.wk,.int .i64 r.wd,.int .i64 r.sec,.int .i64 r.off] 148)))
   have RB:RuleBlk (wr.alloc (.cells #[.int .i64 r.fr,.int .i64 r.to,.int .i64 r.mo,.int .i64 r.wk,.int .i64 r.wd,.int .i64 r.sec,.int .i64 r.off] 148)) wr.heap.size r:=BlkAt.new _ _ _
   have HRB:=Lib.hid RB
   have HZB2:=Lib.hid (BlkAt.alloc HZB.out (.cells #[.int .i64 r.fr,.int .i64 r.to,.int .i64 r.mo,.int .i64 r.wk,.int .i64 r.wd,.int .i64 r.sec,.int .i64 r.off] 148))
   have C:=fun W h=>validRule_any r W h hfit
   unfold valR at C
   have htk:=take_snoc' hr
   have HTK:=Lib.hid htk
   have HRK:=Lib.hid hr
   have HC:=Lib.hid C
   clear hc hr hfit RB C htk
   cases hor:Zn.okR r
   ·have htr:=tr3 HOK.out (by have :=HN.out;omega) HRK.out hor
    rw [HTR.out] at htr
    cases htr
    have C2:=HC.out _ ZA.out.1.civ
    rw [hor] at C2
    have HC2:=Lib.hid C2
    clear C2 hor HC
    as_aux_lemma=>
    go_wp2_with fail
    refine HC2.out.mono ?_
    rintro e w1 ⟨rfl,hb1⟩
    have hB:=bstep ZA.out.2 hb1
    go_wp2_with fail
    go_ret2
    exact GivesC.none_ hB
   ·have C2:=HC.out _ ZA.out.1.civ
    rw [hor] at C2
    have HC2:=Lib.hid C2
    have hbd:=Zn.okR_iff.1 hor
    obtain ⟨fr,hfr⟩: ∃x,r.fr=x:=⟨_,rfl⟩
    obtain ⟨tt,htt⟩: ∃x,r.to=x:=⟨_,rfl⟩
    have hcn:=Zn.cnt_snoc (rs.take k) r
    rw [←HTK.out,HQ.out] at hcn
    have hal:(rs.take (k+1)).all Zn.okR=true:=by rw [HTK.out,List.all_append,HA.out];simp [hor]
    rw [hfr,htt] at hcn hbd
    rw [hfr] at c0 ZA HRB HZB2 HC2
    rw [htt] at c1 ZA HRB HZB2 HC2
    have hb4:1970≤fr∧fr≤2240∧fr≤tt∧tt≤2240:=by omega
    obtain ⟨b1,b2,b3,b4⟩:=hb4
    have HCN:=Lib.hid hcn
    have HAL:=Lib.hid hal
    have HFT:Hid (r.fr=fr∧r.to=tt):=Lib.hid ⟨hfr,htt⟩
    clear C2 hor HC hcn hal hbd hfr htt
    as_aux_lemma=>
    go_wp2_with fail
    refine HC2.out.mono ?_
    rintro e w1 ⟨rfl,hb1⟩
    have Z1:=Lib.hid (ZA.out.after hb1)
    obtain ⟨d0,d1,d2,d3,d4,d5,d6⟩:=RuleBlk.cells (BlkAt.after HRB.out hb1)
    rw [HFT.out.1] at d0
    rw [HFT.out.2] at d1
    have ZB1:=Lib.hid (BlkAt.after HZB2.out hb1)
    clear hb1 c0 c1 c2 c3 c4 c5 c6 z0 z1 z2
    go_wp2_with fail
    go_roundw
    case rel=>exact ⟨k+1,q+(tt-fr+1),by omega,by go_num,rfl,HCN,HAL,Z1,ZB1⟩
    case measure=>simp [intOf];omega
  ·have hkk:rs.take k=rs:=List.take_of_length_le (by have :=HN.out;omega)
   rw [hkk] at HQ HA
   clear hkk
   by_cases hq:640<q
   ·have htr:=tr4 HOK.out (by have :=HN.out;omega) HA.out (by rw [HQ.out];exact hq)
    rw [HTR.out] at htr
    cases htr
    as_aux_lemma=>
    go_wp2_with fail
    go_ret2
    exact GivesC.none_ HZ.out.2
   ·have htr:=tr5 HOK.out (by have :=HN.out;omega) HA.out (by rw [HQ.out];omega)
    rw [HTR.out] at htr
    obtain ⟨rfl,rfl⟩:=Prod.mk.inj htr
    have hfl:=Zn.flat_len HA.out
    rw [HQ.out] at hfl
    obtain ⟨m,hm⟩: ∃m,(Zn.flat rs).length=m:=⟨_,rfl⟩
    rw [hm] at hfl
    have hm640:m≤640:=by omega
    subst hfl
    have CP:=fun W (h:ZSt w A n rs W)=>occ_any A n c m rs W h.1.civ h.1.at_ HN.out n16 HA.out hm hm640
    have CF:=fun W (A':Option Addr) (c':Nat) (h:PairsAt W A' (Zs.srt (Zn.flat rs)))=>follow_any off A' _ c' (Zs.srt (Zn.flat rs)) W h rfl (by rw [Zs.srt_len,hm];exact hm640) HOK.out (flat_bd HA.out)
    have HCP:=Lib.hid CP
    have HCF:=Lib.hid CF
    have S0:=show wr.cell? ⟨bz,1,none⟩=some (.int .i64 off)∧wr.cell? ⟨bz,2,none⟩=some (.slice A n c)∧ZSt w A n rs wr from ⟨z1,z2,HZ.out⟩
    obtain ⟨sl,hsl⟩: ∃sl,Zs.srt (Zn.flat rs)=sl:=⟨_,rfl⟩
    rw [hsl] at HCP HCF
    have HSL:=Lib.hid hsl
    clear CP CF hm htr HTR hsl
    as_aux_lemma=>
    go_wp2_with fail
    go_region_held3 (fun W=>W.cell? ⟨bz,1,none⟩=some (.int .i64 off)∧W.cell? ⟨bz,2,none⟩=some (.slice A n c)∧ZSt w A n rs W)
     (first|(exact keepZ S0 (Below.refl _ _).drew)|(exact keepZ (by assumption) hb)|assumption)
     (first|(go_at_call 125;refine (HCP.out _ ?_).mono ?_;exact (by assumption:_∧_∧ZSt w A n rs _).2.2;rintro e w' ⟨A',c',rfl,hP,hb⟩)|(go_at_call 124;refine (HCF.out _ _ _ ?_).mono ?_;assumption;rintro e w' ⟨A2,c2,rfl,hP2,hb,hcc⟩))
    all_goals
     go_wp2_with fail
     go_ret2
     exact ⟨A2,c2,by rw [HSL.out];rfl,by rw [HSL.out];exact hP2,(by assumption:_∧_∧ZSt w A n rs _).2.2.2,by rw [HSL.out];exact hcc⟩
theorem trans_is {off:Int} {rs:List Zn.Rule} {ts:Zn.L} {er:Int} (h:Zn.trans off rs=(ts,er)) (s:ByteArray) (A:Option Addr) (n c:Nat) (w:World) (hz:ZIn w A n rs) (ho:I64 off):
  Calls Tryz.prog 79 #[.agg #[.string s,.int .i64 off,.slice A n c]] w (GivesT ts er w):=by
 have :=trans_any s off A n c rs w hz ho
 rw [h] at this
 exact this.mono fun _ _=>GivesC.weak
theorem transC_is {off:Int} {rs:List Zn.Rule} {ts:Zn.L} {er:Int} (h:Zn.trans off rs=(ts,er)) (s:ByteArray) (A:Option Addr) (n c:Nat) (w:World) (hz:ZIn w A n rs) (ho:I64 off):
  Calls Tryz.prog 79 #[.agg #[.string s,.int .i64 off,.slice A n c]] w (GivesC ts er w):=by
 have :=trans_any s off A n c rs w hz ho
 rw [h] at this
 exact this
theorem below_alloc_call {w w1:World} {o:Obj} (h:Below (w.alloc o).heap.size (w.alloc o) w1):Below w.heap.size w w1:=((Below.refl _ _).alloc (Nat.le_refl _) o).trans (h.mono (by simp))
set_option maxHeartbeats 1000000 in
theorem check_is {off:Int} {rs:List Zn.Rule} {ts:Zn.L} {er:Int} (h:Zn.trans off rs=(ts,er)) (s:ByteArray) (A:Option Addr) (n c:Nat) (w:World) (hz:ZIn w A n rs) (ho:I64 off):
  Calls Tryz.prog 115 #[.agg #[.string s,.int .i64 off,.slice A n c]] w fun e w'=>e= .returned (.int .i64 er)∧Below w.heap.size w w':=by
 have C:=Lib.hid (trans_is h s A n c _ (hz.alloc (.cells #[.string s,.int .i64 off,.slice A n c] 71)) ho)
 clear h hz
 go_enter Tryz.func115,Tryz.ntmps115
 go_wp2_with fail
 refine C.out.mono ?_
 rintro e w1 ⟨A1,c1,rfl,hP,hb⟩
 go_wp2_with fail
 go_ret
 exact ⟨rfl,below_alloc_call hb⟩
open Go.RowKit
theorem kWin:KindOk 37 99 2 ePair:=⟨Tryz.underlying37,by obtain ⟨i,a,b,c,d⟩:=info_parts (show (Tryz.prog.info? 99).map (fun i=>(i.zero,i.size,i.bytes))=some (some (.agg #[.int .i64 0,.int .i64 0]),2,16) by kernel_rfl);exact ⟨i,_,_,a,b,c,d,rfl,by omega⟩,by omega,fun _ _=>rfl⟩
theorem kSpn:KindOk 51 82 2 ePair:=⟨Tryz.underlying51,by obtain ⟨i,a,b,c,d⟩:=info_parts (show (Tryz.prog.info? 82).map (fun i=>(i.zero,i.size,i.bytes))=some (some (.agg #[.int .i64 0,.int .i64 0]),2,16) by kernel_rfl);exact ⟨i,_,_,a,b,c,d,rfl,by omega⟩,by omega,fun _ _=>rfl⟩
structure WIn (w:World) (A:Option Addr) (n:Nat) (l:Wk.L):Prop where
 at_:PairsAt w A l
 len:l.length=n
 le:n≤9223372036854775807
theorem WIn.below {w w':World} {A:Option Addr} {n:Nat} {l:Wk.L} (h:WIn w A n l) (hb:Below w.heap.size w w'):WIn w' A n l:=⟨h.at_.below hb,h.len,h.le⟩
theorem WIn.alloc {w:World} {A:Option Addr} {n:Nat} {l:Wk.L} (h:WIn w A n l) (o:Obj):WIn (w.alloc o) A n l:=h.below ((Below.refl _ _).alloc (Nat.le_refl _) _)
theorem WIn.drewN {w:World} {A:Option Addr} {n:Nat} {l:Wk.L} (h:WIn w A n l) (q:Nat):WIn (w.drewN q) A n l:=⟨h.at_,h.len,h.le⟩
theorem WIn.get {w:World} {A:Option Addr} {n:Nat} {l:Wk.L} (h:WIn w A n l) {k:Nat} (hk:k<n):
  ∃(a b:Int) (bl of:Nat),l[k]? =some (a,b)∧A=some ⟨bl,of,none⟩∧bl<w.heap.size∧w.cell? ⟨bl,of+k*2,none⟩=some (.int .i64 a)∧w.cell? ⟨bl,of+k*2+1,none⟩=some (.int .i64 b):=by
 obtain ⟨⟨a,b⟩,hx⟩:=get_ex (xs:=l) (i:=k) (by have :=h.len;omega)
 obtain ⟨bl,of,e,hb,hc⟩:=h.at_ (by have :=h.len;omega)
 obtain ⟨c0,c1⟩:=pair_cells (hc k _ hx)
 exact ⟨a,b,bl,of,hx,e,hb,c0,c1⟩
set_option maxHeartbeats 4000000 in
theorem wchk_any (A:Option Addr) (n c:Nat) (l:Wk.L) (w:World) (hA:WIn w A n l):
  Calls Tryz.prog 109 #[.slice A n c] w fun e w'=>e= .returned (.int .i64 (Wk.chk l))∧Below w.heap.size w w':=by
 by_cases h14:14<(n:Int)
 ·have hv:Wk.chk l=5:=by unfold Wk.chk;rw [if_pos (by have :=hA.len;omega)]
  rw [hv]
  clear hA hv
  go_enter Tryz.func109,Tryz.ntmps109
  go_wp2_with fail
  go_ret
  exact ⟨rfl,Below.refl _ _⟩
 ·obtain ⟨R,hR⟩: ∃R,Wk.chk l=R:=⟨_,rfl⟩
  have hR2:Wk.chkF 0 l=R:=by rw [←hR];unfold Wk.chk;rw [if_neg (by have :=hA.len;omega)]
  rw [hR]
  have HR:=Lib.hid hR2
  have HA:=Lib.hid hA
  have hn14:n≤14:=by omega
  clear hR hR2 hA
  go_enter Tryz.func109,Tryz.ntmps109
  go_wp2_with fail
  go_loopw [3,11] (fun ve i wr=> ∃(k:Nat) (en:Int),k≤n∧i= .int .i64 k∧ve= .int .i64 en∧Hid (Wk.chkF en (l.drop k)=R)∧Hid (Below w.heap.size w wr)) (fun _ i _=>n-(intOf i).toNat)
  case atStart=>exact ⟨0,0,Nat.zero_le _,rfl,rfl,HR,Lib.hid (Below.refl _ _)⟩
  case round=>
   clear HR
   obtain ⟨k,en,hk,rfl,rfl,HR,HB⟩:=hrel
   by_cases hlt:k<n
   ·obtain ⟨a,b,bl,of,hx,rfl,hb,c0,c1⟩:=(HA.out.below HB.out).get hlt
    have hrz:=HB.out.size
    have hst:=HR.out
    rw [drop_cons' hx,Wk.chkF] at hst
    simp only at hst
    have HST:=Lib.hid hst
    clear hx hst HR
    by_cases h1:a<0
    ·obtain rfl:R=1:=by have :=HST.out;rw [if_pos (by omega)] at this;exact this.symm
     go_wp2_with fail
     go_ret
     exact ⟨rfl,HB.out.alloc hrz _⟩
    by_cases h2:b≤a
    ·obtain rfl:R=1:=by have :=HST.out;rw [if_pos (by omega)] at this;exact this.symm
     go_wp2_with fail
     go_ret
     exact ⟨rfl,HB.out.alloc hrz _⟩
    by_cases h3:604800<b
    ·obtain rfl:R=1:=by have :=HST.out;rw [if_pos (by omega)] at this;exact this.symm
     go_wp2_with fail
     go_ret
     exact ⟨rfl,HB.out.alloc hrz _⟩
    by_cases h4:a<en
    ·obtain rfl:R=6:=by have :=HST.out;rw [if_neg (by omega),if_pos h4] at this;exact this.symm
     go_wp2_with fail
     go_ret
     exact ⟨rfl,HB.out.alloc hrz _⟩
    ·have N:=Lib.hid (show Wk.chkF b (l.drop (k+1))=R by have :=HST.out;rw [if_neg (by omega),if_neg h4] at this;exact this)
     clear HST
     go_wp2_with fail
     go_roundw
     case rel=>exact ⟨k+1,b,by omega,by go_num,rfl,N,Lib.hid (HB.out.alloc hrz _)⟩
     case measure=>simp [intOf];omega
   ·obtain rfl:R=0:=by have :=HR.out;rw [List.drop_of_length_le (by have :=HA.out.len;omega)] at this;exact this.symm
    go_wp2_with fail
    go_ret
    exact ⟨rfl,HB.out⟩
theorem wchk_is {l:Wk.L} {R:Int} (h:Wk.chk l=R) (A:Option Addr) (n c:Nat) (w:World) (hA:WIn w A n l):
  Calls Tryz.prog 109 #[.slice A n c] w fun e w'=>e= .returned (.int .i64 R)∧Below w.heap.size w w':=h▸wchk_any A n c l w hA
end Go.Proofs.YtfamcohbnoibaaaGreatDoor
