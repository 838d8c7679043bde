import Derived.Test.YtfamcohbnoibaaaGreatDoorKG01
import Derived.Test.YtfamcohbnoibaaaGreatDoorKG00
import Derived.Test.YtfamcohbnoibaaaGreatDoorKZnk
import Derived.Deep.RegionHeld3
import Derived.Deep.DeepCutAuto
import Derived.Deep.CutBlock
set_option linter.unusedVariables false
set_option linter.unusedSimpArgs false
namespace Go.Proofs.YtfamcohbnoibaaaGreatDoor
open Go.RowKit
def Gd (off:Int) (rs:List Zn.Rule):Prop:=Zn.Good off rs∧Rs.mins off rs=true
theorem mins_of {off:Int} {rs:List Zn.Rule} (h:(60:Int) ∣ off) (h2: ∀r∈rs,(60:Int) ∣ r.off):Rs.mins off rs=true:=by
 unfold Rs.mins
 rw [Int.tmod_eq_zero_of_dvd h]
 simp only [beq_self_eq_true,Bool.true_and,Bool.not_eq_true',List.any_eq_false]
 intro r hr
 rw [Int.tmod_eq_zero_of_dvd (h2 r hr)]
 simp
theorem gd0 {off:Int} (h1: -42300≤off) (h2:off≤45000) (hd:(60:Int) ∣ off):Gd off []:=⟨Zn.good0 h1 h2,mins_of hd (fun r hr=>by cases hr)⟩
theorem gd1 {off last:Int} (h1: -42300≤off) (h2:off≤45000) (hd:(60:Int) ∣ off) (hl:last=2025∨last=2026):Gd off [⟨2025,last,3,5,6,7200,off+3600⟩,⟨2025,last,10,5,6,10800,off⟩]:=
 ⟨Zn.good1 h1 h2 hl,mins_of hd (fun r hr=>by simp at hr;rcases hr with rfl|rfl<;>simp only <;>omega)⟩
theorem gd3 {off x v s:Int} (h1: -42300≤off) (h2:off≤45000) (hd:(60:Int) ∣ off) (hv:0≤v∧v≤6) (hs:0≤s∧s≤84600) (hx: -64800≤x∧x≤64800) (hx2: -86400<x-off∧x-off<86400) (hdx:(60:Int) ∣ x):Gd off [⟨2026,2026,1,2,v,s,x⟩]:=
 ⟨Zn.good3 h1 h2 hv hs hx hx2,mins_of hd (fun r hr=>by simp at hr;subst hr;simp only;omega)⟩
def Zoned (s:ByteArray) (w:World) (g:Nat) (A:Option Addr) (n c:Nat) (zs:List Int) (e:Ending) (w':World):Prop:=
 ∃off A' n' c' rs,e= .returned (.agg #[.string s,.int .i64 off,.slice A' n' c'])∧Gd off rs∧rs.length=n'∧n'≤c'∧RulesAt w' A' rs∧(∀ad,A'=some ad→w.heap.size≤ad.block∧ad.block<w'.heap.size)∧w.grownBy w' (some g)∧Dice w' g A n c zs
theorem blk_after {w w':World} {b:Nat} {vs:Array Value} {T:TypeId} {g:Nat} (h:BlkAt w b vs T) (hg:w.grownBy w' (some g)) (hne:b≠g):BlkAt w' b vs T:=h.grown hg (fun e=>hne (Option.some.inj e))
theorem blk_new {W:World} {B:Nat} {vs:Array Value} {T:TypeId} (h:W.heap.size=B):BlkAt (W.alloc (.cells vs T)) B vs T:=by subst h;exact heap_alloc_new _ _
theorem ListAt.other {α:Type} {k:Nat} {e:α→Nat→Value} {w:World} {A:Option Addr} {xs:List α} (h:ListAt k e w A xs) {b i:Nat} (hne: ∀ad,A=some ad→ad.block≠b) (v:Value):ListAt k e (w.setCell ⟨b,i,none⟩ v) A xs:=fun h0=>by
 obtain ⟨b',off,ea,hlt,hc⟩:=h h0
 have hb:=hne _ ea
 simp only at hb
 exact ⟨b',off,ea,by simpa using hlt,fun i' x hx j hj=>by
  rw [World.cell?_setCell_other _ _ _ _ (by intro e;injection e with e;omega)]
  exact hc i' x hx j hj⟩
theorem rules_two {w:World} {b:Nat} {T:TypeId} {x0 x1 x2 x3 x4 x5 x6 y0 y1 y2 y3 y4 y5 y6:Int} (h:BlkAt w b #[.int .i64 x0,.int .i64 x1,.int .i64 x2,.int .i64 x3,.int .i64 x4,.int .i64 x5,.int .i64 x6,.int .i64 y0,.int .i64 y1,.int .i64 y2,.int .i64 y3,.int .i64 y4,.int .i64 y5,.int .i64 y6] T):
  RulesAt w (some ⟨b,0,none⟩) [⟨x0,x1,x2,x3,x4,x5,x6⟩,⟨y0,y1,y2,y3,y4,y5,y6⟩]:=fun _=>by
 refine ⟨b,0,rfl,BlkAt.lt_ h,fun i x hx j hj=> ?_⟩
 have hi:i=0∨i=1:=by have :=(List.getElem?_eq_some_iff.1 hx).1;simp at this;omega
 have hjj:j=0∨j=1∨j=2∨j=3∨j=4∨j=5∨j=6:=by omega
 rcases hi with rfl|rfl
 ·simp at hx;subst hx
  rcases hjj with rfl|rfl|rfl|rfl|rfl|rfl|rfl<;>exact BlkAt.cell h rfl
 ·simp at hx;subst hx
  rcases hjj with rfl|rfl|rfl|rfl|rfl|rfl|rfl<;>exact BlkAt.cell h rfl
theorem rules_one {w:World} {b:Nat} {T:TypeId} {x0 x1 x2 x3 x4 x5 x6:Int} (h:BlkAt w b #[.int .i64 x0,.int .i64 x1,.int .i64 x2,.int .i64 x3,.int .i64 x4,.int .i64 x5,.int .i64 x6] T):
  RulesAt w (some ⟨b,0,none⟩) [⟨x0,x1,x2,x3,x4,x5,x6⟩]:=fun _=>by
 refine ⟨b,0,rfl,BlkAt.lt_ h,fun i x hx j hj=> ?_⟩
 have hi:i=0:=by have :=(List.getElem?_eq_some_iff.1 hx).1;simp at this;omega
 have hjj:j=0∨j=1∨j=2∨j=3∨j=4∨j=5∨j=6:=by omega
 subst hi
 simp at hx;subst hx
 rcases hjj with rfl|rfl|rfl|rfl|rfl|rfl|rfl<;>exact BlkAt.cell h rfl
theorem zoned_fin {s:ByteArray} {w W:World} {g n c:Nat} {A:Option Addr} {zs:List Int} {off:Int} {A':Option Addr} {n' c':Nat} {rs:List Zn.Rule} (hG:Gd off rs) (hn:rs.length=n') (hc:n'≤c') (hR:RulesAt W A' rs) (hA: ∀ad,A'=some ad→w.heap.size<ad.block∧ad.block<W.heap.size)
  (hg:w.grownBy W (some g)) (hD:Dice W g A n c zs) (hlt:g<w.heap.size) (a b d:Value):
  Zoned s w g A n c zs (.returned (.agg #[.string s,.int .i64 off,.slice A' n' c'])) (((W.setCell ⟨w.heap.size,0,none⟩ a).setCell ⟨w.heap.size,1,none⟩ b).setCell ⟨w.heap.size,2,none⟩ d):=by
 have hB:Below w.heap.size W (((W.setCell ⟨w.heap.size,0,none⟩ a).setCell ⟨w.heap.size,1,none⟩ b).setCell ⟨w.heap.size,2,none⟩ d):=(((Below.refl _ _).setCell (by exact Nat.le_refl _) _).setCell (by exact Nat.le_refl _) _).setCell (by exact Nat.le_refl _) _
 have hA2: ∀ad,A'=some ad→ad.block≠w.heap.size:=fun ad e=>by have :=hA ad e;omega
 exact ⟨off,A',n',c',rs,rfl,hG,hn,hc,((hR.other hA2 a).other hA2 b).other hA2 d,(fun ad e=>by have :=hA ad e;have :=hB.size;omega),grown_then hg hB (Nat.le_refl _),hD.below hB hlt⟩
theorem BlkAt.free3 {w:World} {b:Nat} {vs:Array Value} {T:TypeId} (h:BlkAt w b vs T):w.frozen? ⟨b,0,none⟩=false∧w.frozen? ⟨b,1,none⟩=false∧w.frozen? ⟨b,2,none⟩=false:=by
 unfold BlkAt at h;simp [World.frozen?,h]
def ZMid (s:ByteArray) (w:World) (g:Nat) (A:Option Addr) (n c:Nat) (zs:List Int) (off:Int) (bz:Nat) (wx:World):Prop:=
 ∃A' n' c' rs,Gd off rs∧rs.length=n'∧n'≤c'∧RulesAt wx A' rs∧(∀ad,A'=some ad→w.heap.size<ad.block∧ad.block<wx.heap.size)∧w.grownBy wx (some g)∧Dice wx g A n c zs∧BlkAt wx w.heap.size #[.string ⟨#[]⟩,.int .i64 0,.slice none 0 0] 71∧BlkAt wx bz #[.string s,.int .i64 off,.slice A' n' c'] 71
theorem zmid_of {s:ByteArray} {w W:World} {g n c:Nat} {A:Option Addr} {zs:List Int} {off:Int} {bz b:Nat} {n' c':Nat} {rs:List Zn.Rule} (hG:Gd off rs) (hn:rs.length=n') (hc:n'≤c') (hbW:b<W.heap.size) (hR:RulesAt W (some ⟨b,0,none⟩) rs) (GW:w.grownBy W (some g)) (D:Dice W g A n c zs)
  (RB:BlkAt W w.heap.size #[.string ⟨#[]⟩,.int .i64 0,.slice none 0 0] 71) (ZB:BlkAt W bz #[.string s,.int .i64 off,.slice none 0 0] 71) (hgw:g<w.heap.size) (h1:w.heap.size<bz) (h2:bz<b):
  ZMid s w g A n c zs off bz (W.setCell ⟨bz,2,none⟩ (.slice (some ⟨b,0,none⟩) n' c')):=by
 have hB:Below bz W (W.setCell ⟨bz,2,none⟩ (.slice (some ⟨b,0,none⟩) n' c')):=(Below.refl _ _).setCell (by exact Nat.le_refl _) _
 refine ⟨some ⟨b,0,none⟩,n',c',rs,hG,hn,hc,hR.other (fun ad e=>by cases e;simp only;omega) _,(fun ad e=>by cases e;have :=hB.size;simp only;omega),grown_then GW hB (by omega),D.below hB (by omega),BlkAt.below RB hB h1, ?_⟩
 exact BlkAt.set_ ZB 2 _
theorem zmid_two {s:ByteArray} {w W:World} {g n c:Nat} {A:Option Addr} {zs:List Int} {off:Int} {bz:Nat} {x0 x1 x2 x3 x4 x5 x6 y0 y1 y2 y3 y4 y5 y6:Int} (hG:Gd off [⟨x0,x1,x2,x3,x4,x5,x6⟩,⟨y0,y1,y2,y3,y4,y5,y6⟩]) (GW:w.grownBy W (some g)) (D:Dice W g A n c zs)
  (RB:BlkAt W w.heap.size #[.string ⟨#[]⟩,.int .i64 0,.slice none 0 0] 71) (ZB:BlkAt W bz #[.string s,.int .i64 off,.slice none 0 0] 71) (hgw:g<w.heap.size) (h1:w.heap.size<bz) (h2:bz<W.heap.size):
  ZMid s w g A n c zs off bz ((W.alloc (.cells #[.int .i64 x0,.int .i64 x1,.int .i64 x2,.int .i64 x3,.int .i64 x4,.int .i64 x5,.int .i64 x6,.int .i64 y0,.int .i64 y1,.int .i64 y2,.int .i64 y3,.int .i64 y4,.int .i64 y5,.int .i64 y6] 148)).setCell ⟨bz,2,none⟩ (.slice (some ⟨W.heap.size,0,none⟩) 2 2)):=
 zmid_of hG rfl (Nat.le_refl _) (by simp) (rules_two (blk_new rfl)) (grown_alloc GW _) (D.alloc _) (BlkAt.alloc RB _) (BlkAt.alloc ZB _) hgw h1 h2
theorem zmid_one {s:ByteArray} {w W:World} {g n c:Nat} {A:Option Addr} {zs:List Int} {off:Int} {bz:Nat} {x0 x1 x2 x3 x4 x5 x6:Int} (hG:Gd off [⟨x0,x1,x2,x3,x4,x5,x6⟩]) (GW:w.grownBy W (some g)) (D:Dice W g A n c zs)
  (RB:BlkAt W w.heap.size #[.string ⟨#[]⟩,.int .i64 0,.slice none 0 0] 71) (ZB:BlkAt W bz #[.string s,.int .i64 off,.slice none 0 0] 71) (hgw:g<w.heap.size) (h1:w.heap.size<bz) (h2:bz<W.heap.size):
  ZMid s w g A n c zs off bz ((W.alloc (.cells #[.int .i64 x0,.int .i64 x1,.int .i64 x2,.int .i64 x3,.int .i64 x4,.int .i64 x5,.int .i64 x6] 148)).setCell ⟨bz,2,none⟩ (.slice (some ⟨W.heap.size,0,none⟩) 1 1)):=
 zmid_of hG rfl (Nat.le_refl _) (by simp) (rules_one (blk_new rfl)) (grown_alloc GW _) (D.alloc _) (BlkAt.alloc RB _) (BlkAt.alloc ZB _) hgw h1 h2
theorem good2w {off last a b c e f k v h:Int} (h1: -42300≤off) (h2:off≤45000) (hd:(60:Int) ∣ off) (hl:last=2025∨last=2026) (a1:0≤a) (a2:a<4) (b1:0≤b) (b2:b<7) (c1:0≤c) (c2:c<24) (e1:0≤e) (e2:e<8) (f1:0≤f) (f2:f<2) (hk:k∈[2,3,5]) (v1:0≤v) (v2:v<7) (hh1:0≤h) (hh2:h<24):
  Gd off [⟨2025,last,1,IntKind.i64.wrap (1+a),b,IntKind.i64.wrap (3600*c),IntKind.i64.wrap (off+IntKind.i64.wrap (1800*IntKind.i64.wrap (1+e)))⟩,⟨2025,last,IntKind.i64.wrap (2+f),k,v,IntKind.i64.wrap (3600*h),off⟩]:=by
 have w1:IntKind.i64.wrap (1+a)=1+a:=by rw [IntKind.wrap_i64];omega
 have w2:IntKind.i64.wrap (3600*c)=3600*c:=by rw [IntKind.wrap_i64];omega
 have w3:IntKind.i64.wrap (1+e)=1+e:=by rw [IntKind.wrap_i64];omega
 have w4:IntKind.i64.wrap (1800*(1+e))=1800*(1+e):=by rw [IntKind.wrap_i64];omega
 have w5:IntKind.i64.wrap (off+1800*(1+e))=off+1800*(1+e):=by rw [IntKind.wrap_i64];omega
 have w6:IntKind.i64.wrap (2+f)=2+f:=by rw [IntKind.wrap_i64];omega
 have w7:IntKind.i64.wrap (3600*h)=3600*h:=by rw [IntKind.wrap_i64];omega
 rw [w1,w2,w3,w4,w5,w6,w7]
 simp at hk
 exact ⟨Zn.good2 h1 h2 hl ⟨by omega,by omega⟩ ⟨b1,by omega⟩ ⟨by omega,by omega⟩ ⟨by omega,by omega⟩ (by omega) hk ⟨v1,by omega⟩ ⟨by omega,by omega⟩,mins_of hd (fun r hr=>by simp at hr;rcases hr with rfl|rfl<;>simp only <;>omega)⟩
structure SB (s:ByteArray) (w:World) (g:Nat) (A:Option Addr) (n c:Nat) (zs:List Int) (off:Int) (bz:Nat) (W:World):Prop where
 dice:Dice W g A n c zs
 grown:w.grownBy W (some g)
 res:BlkAt W w.heap.size #[.string ⟨#[]⟩,.int .i64 0,.slice none 0 0] 71
 zone:BlkAt W bz #[.string s,.int .i64 off,.slice none 0 0] 71
section
variable {s:ByteArray} {w W W':World} {g n c:Nat} {A:Option Addr} {zs:List Int} {off:Int} {bz:Nat}
theorem SB.alloc (h:SB s w g A n c zs off bz W) (o:Obj):SB s w g A n c zs off bz (W.alloc o):=⟨h.dice.alloc o,grown_alloc h.grown o,BlkAt.alloc h.res o,BlkAt.alloc h.zone o⟩
theorem SB.drew (h:SB s w g A n c zs off bz W):SB s w g A n c zs off bz W.drew:=⟨h.dice.drew,grown_drew h.grown,BlkAt.drewN h.res 1,BlkAt.drewN h.zone 1⟩
theorem SB.call (h:SB s w g A n c zs off bz W) (hg:W.grownBy W' (some g)) (hD:Dice W' g A n c zs) (h1:g<w.heap.size) (h2:w.heap.size<bz):SB s w g A n c zs off bz W':=
 ⟨hD,grown_trans h.grown hg,blk_after h.res hg (by omega),blk_after h.zone hg (by omega)⟩
theorem SB.c1 (h:SB s w g A n c zs off bz W):W.cell? ⟨bz,1,none⟩=some (.int .i64 off):=BlkAt.cell h.zone rfl
theorem SB.two (h:SB s w g A n c zs off bz W) (h1:g<w.heap.size) (h2:w.heap.size<bz) {x0 x1 x2 x3 x4 x5 x6 y0 y1 y2 y3 y4 y5 y6:Int} (hG:Gd off [⟨x0,x1,x2,x3,x4,x5,x6⟩,⟨y0,y1,y2,y3,y4,y5,y6⟩]):
  ZMid s w g A n c zs off bz ((W.alloc (.cells #[.int .i64 x0,.int .i64 x1,.int .i64 x2,.int .i64 x3,.int .i64 x4,.int .i64 x5,.int .i64 x6,.int .i64 y0,.int .i64 y1,.int .i64 y2,.int .i64 y3,.int .i64 y4,.int .i64 y5,.int .i64 y6] 148)).setCell ⟨bz,2,none⟩ (.slice (some ⟨W.heap.size,0,none⟩) 2 2)):=
 zmid_two hG h.grown h.dice h.res h.zone h1 h2 (BlkAt.lt_ h.zone)
theorem SB.one (h:SB s w g A n c zs off bz W) (h1:g<w.heap.size) (h2:w.heap.size<bz) {x0 x1 x2 x3 x4 x5 x6:Int} (hG:Gd off [⟨x0,x1,x2,x3,x4,x5,x6⟩]):
  ZMid s w g A n c zs off bz ((W.alloc (.cells #[.int .i64 x0,.int .i64 x1,.int .i64 x2,.int .i64 x3,.int .i64 x4,.int .i64 x5,.int .i64 x6] 148)).setCell ⟨bz,2,none⟩ (.slice (some ⟨W.heap.size,0,none⟩) 1 1)):=
 zmid_one hG h.grown h.dice h.res h.zone h1 h2 (BlkAt.lt_ h.zone)
theorem SB.kept (h:SB s w g A n c zs off bz W) (o:Obj) (v:Value):((W.alloc o).setCell ⟨bz,2,none⟩ v).cell? ⟨bz,1,none⟩=some (.int .i64 off):=
 (World.cell?_setCell_other _ _ _ _ (by intro e;injection e with _ e;omega)).trans (h.alloc o).c1
theorem SB.q2 (h:SB s w g A n c zs off bz W): ∀o,(W.alloc o).cell? ⟨bz,2,none⟩=some (.slice none 0 0):=fun o=>BlkAt.cell (BlkAt.alloc h.zone o) rfl
theorem SB.q3 (h:SB s w g A n c zs off bz W): ∀o,(W.alloc o).frozen? ⟨bz,2,none⟩=false:=fun o=>BlkAt.free (BlkAt.alloc h.zone o) 2
end
set_option maxHeartbeats 4000000 in
set_option maxRecDepth 100000 in
theorem Zone_any (g n c:Nat) (A:Option Addr) (zs:List Int) (s:ByteArray) (w:World) (h:Dice w g A n c zs):
  Calls Tryz.prog 68 #[.pointer (some ⟨g,0,none⟩),.string s] w (Zoned s w g A n c zs):=by
 have hgw:=h.lt_
 have hD:=Lib.hid h
 clear h
 go_enter Tryz.func68,Tryz.ntmps68
 go_wp2_with fail
 refine (Pick_any g n c A zs [0,4, -20,22,48, -47] (w.heap.size+1) 6 6 3 _ ((hD.out.alloc _).alloc _) ?_ rfl (by omega) (by omega) (by omega)).mono ?_
 ·exact blk_new (by simp)
 rintro e w1 ⟨pk,rfl,hpk,g1,D1⟩
 have hpk2: -47≤pk∧pk≤48:=by
  simp at hpk;omega
 clear hpk
 obtain ⟨pk1,pk2⟩:=hpk2
 go_wp2_with fail
 refine (Next_any g n c A zs 2 _ D1 (by omega) (by omega)).mono ?_
 rintro e w2 ⟨n2,rfl,n20,n21,g2,D2⟩
 go_wp2_with fail
 refine (Next_any g n c A zs 3 _ D2 (by omega) (by omega)).mono ?_
 rintro e w3 ⟨n3,rfl,n30,n31,g3,D3⟩
 have hmul:0≤n2*n3∧n2*n3≤2:=by
  have :n2=0∨n2=1:=by omega
  rcases this with rfl|rfl<;>omega
 obtain ⟨m,hm⟩: ∃m,n2*n3=m:=⟨_,rfl⟩
 rw [hm] at hmul
 have mw:IntKind.i64.wrap (n2*n3)=m:=by rw [hm,IntKind.wrap_i64];omega
 obtain ⟨hm0,hm2⟩:=hmul
 go_wp2_with fail
 refine (Next_any g n c A zs 2 _ (D3.alloc _) (by omega) (by omega)).mono ?_
 rintro e w4 ⟨n4,rfl,n40,n41,g4,D4⟩
 go_wp2_with fail
 refine (Next_any g n c A zs 4 _ D4 (by omega) (by omega)).mono ?_
 rintro e w5 ⟨n5,rfl,n50,n51,g5,D5⟩
 have RB:BlkAt w5 w.heap.size #[.string ⟨#[]⟩,.int .i64 0,.slice none 0 0] 71:=blk_after (blk_after (BlkAt.alloc (blk_after (blk_after (blk_after (BlkAt.alloc (blk_new rfl) _) g1 (by omega)) g2 (by omega)) g3 (by omega)) _) g4 (by omega)) g5 (by omega)
 have z1:=g1.size
 have z2:=g2.size
 have z3:=g3.size
 simp at z1
 have ZB:BlkAt w5 w3.heap.size #[.string s,.int .i64 (900*(pk+m)),.slice none 0 0] 71:=blk_after (blk_after (blk_new rfl) g4 (by omega)) g5 (by omega)
 have GW:w.grownBy w5 (some g):=grown_trans (grown_trans (grown_alloc (grown_trans (grown_trans (grown_trans (grown_alloc (grown_alloc (grown_refl w _) _) _) g1) g2) g3) _) g4) g5
 have z4:w3.heap.size+1≤w5.heap.size:=by have :=BlkAt.lt_ ZB;omega
 have z5:w.heap.size+2≤w3.heap.size:=by omega
 clear g1 g2 g3 g4 g5 D1 D2 D3 D4 hD mw z1 z2 z3
 have off1: -42300≤900*(pk+m):=by omega
 have off2:900*(pk+m)≤45000:=by omega
 have offd:(60:Int) ∣ 900*(pk+m):=by omega
 have HOD:=Lib.hid offd
 clear offd
 clear hm pk1 pk2 hm0 hm2 n20 n21 n30 n31
 have hl:2025+n4=2025∨2025+n4=2026:=by omega
 clear n40 n41
 have hk:n5=0∨n5=1∨n5=2∨n5=3:=by omega
 clear n50 n51
 obtain ⟨RBc0,RBc1,RBc2⟩:=(show w5.cell? ⟨w.heap.size,0,none⟩=some (.string ⟨#[]⟩)∧w5.cell? ⟨w.heap.size,1,none⟩=some (.int .i64 0)∧w5.cell? ⟨w.heap.size,2,none⟩=some (.slice none 0 0) from ⟨BlkAt.cell RB rfl,BlkAt.cell RB rfl,BlkAt.cell RB rfl⟩)
 have HRB:=Lib.hid RB
 have HZB:=Lib.hid ZB
 have HL:=Lib.hid hl
 go_upto_block 0 with fail
 go_cut [] (fun wx=>Hid (ZMid s w g A n c zs (900*(pk+m)) w3.heap.size wx))
 case first =>
  rcases hk with rfl|rfl|rfl|rfl
  ·have F:Hid (ZMid s w g A n c zs (900*(pk+m)) w3.heap.size w5):=Lib.hid ⟨none,0,0,[],gd0 off1 off2 HOD.out,rfl,Nat.le_refl _,ListAt.nil_,(fun _ e=>by cases e),GW,D5,RB,ZB⟩
   clear RB ZB hl
   go_wp2_with fail
   go_meet
   exact F
  ·have c1:w5.cell? ⟨w3.heap.size,1,none⟩=some (.int .i64 (900*(pk+m))):=BlkAt.cell ZB rfl
   have q2: ∀o,(w5.alloc o).cell? ⟨w3.heap.size,2,none⟩=some (.slice none 0 0):=fun o=>BlkAt.cell (BlkAt.alloc HZB.out o) rfl
   have q3: ∀o,(w5.alloc o).frozen? ⟨w3.heap.size,2,none⟩=false:=fun o=>BlkAt.free (BlkAt.alloc HZB.out o) 2
   have F:=fun x0 x1 x2 x3 x4 x5 x6 y0 y1 y2 y3 y4 y5 y6 h=>zmid_two (x0:=x0) (x1:=x1) (x2:=x2) (x3:=x3) (x4:=x4) (x5:=x5) (x6:=x6) (y0:=y0) (y1:=y1) (y2:=y2) (y3:=y3) (y4:=y4) (y5:=y5) (y6:=y6) (s:=s) (bz:=w3.heap.size) h GW D5 RB ZB hgw (by omega) (by omega)
   have HF:=Lib.hid F
   clear RB ZB hl F
   have hwr:IntKind.i64.wrap (900*(pk+m)+3600)=900*(pk+m)+3600:=by rw [IntKind.wrap_i64];omega
   go_wp2_with fail
   go_meet
   exact Lib.hid (HF.out _ _ _ _ _ _ _ _ _ _ _ _ _ _ (gd1 off1 off2 HOD.out HL.out))
  ·have SB0:SB s w g A n c zs (900*(pk+m)) w3.heap.size w5:=⟨D5,GW,RB,ZB⟩
   have C1:=SB0.c1
   have hwb:w.heap.size<w3.heap.size:=by omega
   have hgb:g<w5.heap.size:=by omega
   have hzb:w3.heap.size<w5.heap.size:=by omega
   clear RB ZB hl D5 GW RBc0 RBc1 RBc2
   go_upto_region 7 with fail
   go_region_held3 (fun W=>W.cell? ⟨w3.heap.size,1,none⟩=some (.int .i64 (900*(pk+m))))
    (first|exact C1|exact SB0.drew.c1|exact (SB0.alloc _).c1|exact (SB0.drew.alloc _).c1|exact (SB0.alloc _).drew.c1|assumption|exact hB.c1|exact SB.c1 (SB.alloc (by assumption) _)|exact SB.kept (by assumption) _ _)
    (first|(go_at_call 32;refine (Next_any g n c A zs _ _ (by first|exact SB.dice (by assumption)|exact (SB.alloc (by assumption) _).dice|exact SB0.drew.dice|exact (SB0.drew.alloc _).dice|exact (SB0.alloc _).drew.dice) (by omega) (by omega)).mono ?_;rintro e w' ⟨v,rfl,v0,v1,hg,hD⟩;have hz:=hg.size;(try simp at hz);have hB:SB s w g A n c zs (900*(pk+m)) w3.heap.size w':=SB.call (by first|assumption|exact SB.alloc (by assumption) _|exact SB0.drew|exact SB0.drew.alloc _|exact (SB0.alloc _).drew) hg hD hgw hwb;have hq2:=hB.q2;have hq3:=hB.q3)|(go_at_call 13;refine (Pick_any g n c A zs [2,3,5] _ 3 3 3 _ (by first|exact SB.dice (by assumption)|exact (SB.alloc (by assumption) _).dice) (by (repeat (any_goals (first|exact blk_new (by simp)|(refine blk_after ?_ (by assumption) ?_))));all_goals ((try simp);omega)) rfl (by omega) (by omega) (by (try simp);omega)).mono ?_;rintro e w' ⟨v,rfl,v0,hg,hD⟩;have hz:=hg.size;(try simp at hz);have hB:SB s w g A n c zs (900*(pk+m)) w3.heap.size w':=SB.call (by first|assumption|exact SB.alloc (by assumption) _) hg hD hgw hwb))
   all_goals
    go_wp2_with fail
    go_meet
    exact Lib.hid (SB.two (by assumption) hgw hwb (good2w off1 off2 HOD.out HL.out (by assumption) (by assumption) (by assumption) (by assumption) (by assumption) (by assumption) (by assumption) (by assumption) (by assumption) (by assumption) (by assumption) (by assumption) (by assumption) (by assumption) (by assumption)))
  ·have SB0:SB s w g A n c zs (900*(pk+m)) w3.heap.size w5:=⟨D5,GW,RB,ZB⟩
   have C1:=SB0.c1
   have hwb:w.heap.size<w3.heap.size:=by omega
   clear RB ZB hl D5 GW RBc0 RBc1 RBc2
   go_upto_region 9 with fail
   go_cut [7] (fun x wx=> ∃d:Int,x= .int .i64 (900*(pk+m)+d)∧ -82800≤d∧d≤82800∧Hid ((60:Int) ∣ d)∧Hid (SB s w g A n c zs (900*(pk+m)) w3.heap.size wx))
   case first =>
    go_region_held3 (fun W=>W.cell? ⟨w3.heap.size,1,none⟩=some (.int .i64 (900*(pk+m))))
     (first|exact C1|exact SB0.drew.c1|exact (SB0.alloc _).c1|exact (SB0.drew.alloc _).c1|exact (SB0.alloc _).drew.c1|assumption|exact hB.c1)
     (first|(go_at_call 13;refine (Pick_any g n c A zs [3600, -3600,82800, -82800,43200] _ 5 5 3 _ (by first|exact (SB0.alloc _).dice|exact (SB0.drew.alloc _).dice|exact (SB0.alloc _).drew.dice) (by exact blk_new (by simp)) rfl (by omega) (by omega) (by simp;omega)).mono ?_;rintro e w' ⟨d,rfl,hd,hg,hD⟩;have hd2: -82800≤d∧d≤82800:=(by simp at hd;omega);have hd3:Hid ((60:Int) ∣ d):=Lib.hid (by simp at hd;omega);have hw:IntKind.i64.wrap (900*(pk+m)+d)=900*(pk+m)+d:=(by rw [IntKind.wrap_i64];omega);have hB:SB s w g A n c zs (900*(pk+m)) w3.heap.size w':=SB.call (by first|exact SB0.alloc _|exact SB0.drew.alloc _|exact (SB0.alloc _).drew) hg hD hgw hwb))
    all_goals
     go_wp2_with fail
     go_meet
     exact ⟨d,rfl,hd2.1,hd2.2,hd3,Lib.hid hB⟩
   case rest=>
    obtain ⟨d,rfl,d1,d2,HD3,HB⟩:=hcut
    obtain ⟨w6,rfl⟩: ∃w6:World,w6=wc:=⟨_,rfl⟩
    clear C1 SB0
    obtain ⟨o,ho⟩: ∃o,900*(pk+m)=o:=⟨_,rfl⟩
    have HO:=Lib.hid ho
    rw [ho] at off1 off2 HB HOD ⊢
    rw [ho] at HZB
    clear ho
    obtain ⟨x,hx⟩: ∃x,o+d=x:=⟨_,rfl⟩
    rw [hx]
    have HXD:Hid ((60:Int) ∣ x):=Lib.hid (by rw [←hx];exact Int.dvd_add HOD.out HD3.out)
    have hxo: -86400<x-o∧x-o<86400:=by omega
    have h0o: -86400<0-o∧0-o<86400:=by omega
    have D6:=HB.out.dice
    clear hx d1 d2
    have fin: ∀y:Int, -64800≤y→y≤64800→ -86400<y-o∧y-o<86400→(60:Int) ∣ y→ ∀W v k,SB s w g A n c zs o w3.heap.size W→0≤v→v<7→0≤k→k<48→Hid (ZMid s w g A n c zs o w3.heap.size ((W.alloc (.cells #[.int .i64 2026,.int .i64 2026,.int .i64 1,.int .i64 2,.int .i64 v,.int .i64 (1800*k),.int .i64 y] 148)).setCell ⟨w3.heap.size,2,none⟩ (.slice (some ⟨W.heap.size,0,none⟩) 1 1))):=fun y y1 y2 y3 y4 W v k h v1 v2 k1 k2=>Lib.hid (h.one hgw hwb (gd3 off1 off2 HOD.out ⟨by omega,by omega⟩ ⟨by omega,by omega⟩ ⟨y1,y2⟩ y3 y4))
    have HFN:=Lib.hid fin
    clear fin
    by_cases x1:64800<x
    ·go_wp2_with fail
     refine (Next_any g n c A zs 7 _ D6 (by omega) (by omega)).mono ?_
     rintro e w7 ⟨v,rfl,v0,v1,g7,D7⟩
     have B7:=SB.call HB.out g7 D7 hgw hwb
     go_wp2_with fail
     refine (Next_any g n c A zs 48 _ D7 (by omega) (by omega)).mono ?_
     rintro e w8 ⟨k,rfl,k0,k1,g8,D8⟩
     have B8:=SB.call B7 g8 D8 hgw hwb
     have F:=HFN.out 0 (by omega) (by omega) h0o (Int.dvd_zero _) w8 v k B8 v0 v1 k0 k1
     have q2:=B8.q2
     have q3:=B8.q3
     clear B7 B8 D7 D8 g7 g8
     go_wp2_with fail
     go_meet
     rw [HO.out]
     exact F
    ·by_cases x2:x< -64800
     ·have x3:decide (x< -64800)=true:=decide_eq_true x2
      go_wp2_with fail
      refine (Next_any g n c A zs 7 _ D6 (by omega) (by omega)).mono ?_
      rintro e w7 ⟨v,rfl,v0,v1,g7,D7⟩
      have B7:=SB.call HB.out g7 D7 hgw hwb
      go_wp2_with fail
      refine (Next_any g n c A zs 48 _ D7 (by omega) (by omega)).mono ?_
      rintro e w8 ⟨k,rfl,k0,k1,g8,D8⟩
      have B8:=SB.call B7 g8 D8 hgw hwb
      have F:=HFN.out 0 (by omega) (by omega) h0o (Int.dvd_zero _) w8 v k B8 v0 v1 k0 k1
      have q2:=B8.q2
      have q3:=B8.q3
      clear B7 B8 D7 D8 g7 g8
      go_wp2_with fail
      go_meet
      rw [HO.out]
      exact F
     ·have x3:decide (x< -64800)=false:=decide_eq_false x2
      go_wp2_with fail
      refine (Next_any g n c A zs 7 _ D6 (by omega) (by omega)).mono ?_
      rintro e w7 ⟨v,rfl,v0,v1,g7,D7⟩
      have B7:=SB.call HB.out g7 D7 hgw hwb
      go_wp2_with fail
      refine (Next_any g n c A zs 48 _ D7 (by omega) (by omega)).mono ?_
      rintro e w8 ⟨k,rfl,k0,k1,g8,D8⟩
      have B8:=SB.call B7 g8 D8 hgw hwb
      have F:=HFN.out x (by omega) (by omega) hxo HXD.out w8 v k B8 v0 v1 k0 k1
      have q2:=B8.q2
      have q3:=B8.q3
      clear B7 B8 D7 D8 g7 g8
      go_wp2_with fail
      go_meet
      rw [HO.out]
      exact F
 case rest=>
  obtain ⟨w6,rfl⟩: ∃w6:World,w6=wc:=⟨_,rfl⟩
  obtain ⟨A',n',c',rs,hG,hn,hc,hR,hA,GW6,D6,RB6,ZB6⟩:=hcut.out
  obtain ⟨c0,c1,c2⟩:=(show w6.cell? ⟨w3.heap.size,0,none⟩=some (.string s)∧w6.cell? ⟨w3.heap.size,1,none⟩=some (.int .i64 (900*(pk+m)))∧w6.cell? ⟨w3.heap.size,2,none⟩=some (.slice A' n' c') from ⟨BlkAt.cell ZB6 rfl,BlkAt.cell ZB6 rfl,BlkAt.cell ZB6 rfl⟩)
  obtain ⟨r0,r1,r2⟩:=(show w6.cell? ⟨w.heap.size,0,none⟩=some (.string ⟨#[]⟩)∧w6.cell? ⟨w.heap.size,1,none⟩=some (.int .i64 0)∧w6.cell? ⟨w.heap.size,2,none⟩=some (.slice none 0 0) from ⟨BlkAt.cell RB6 rfl,BlkAt.cell RB6 rfl,BlkAt.cell RB6 rfl⟩)
  have F:=zoned_fin (s:=s) (W:=w6) (c':=c') hG hn hc hR hA GW6 D6 hgw
  obtain ⟨f0,f1,f2⟩:=RB6.free3
  have HF:=Lib.hid F
  clear RB6 ZB6 hcut F hG hn hc hR hA GW6 D6 RB ZB RBc0 RBc1 RBc2 GW D5 hl
  go_wp2_with fail
  refine bodyPost_ret (v:= .agg #[.string s,.int .i64 (900*(pk+m)),.slice A' n' c']) (by simp [results,Tryz.results68,go_sem,r0,r1,r2,f0,f1,f2]) rfl ?_
  exact HF.out _ _ _
end Go.Proofs.YtfamcohbnoibaaaGreatDoor
