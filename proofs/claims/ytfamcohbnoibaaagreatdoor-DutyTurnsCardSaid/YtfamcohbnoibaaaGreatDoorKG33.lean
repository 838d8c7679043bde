import Derived.Test.YtfamcohbnoibaaaGreatDoorKRk
import Derived.Test.YtfamcohbnoibaaaGreatDoorKG28
import Derived.Test.YtfamcohbnoibaaaGreatDoorKG25
import Derived.Test.YtfamcohbnoibaaaGreatDoorKG39
import Derived.Test.YtfamcohbnoibaaaGreatDoorKG41
import Derived.Test.YtfamcohbnoibaaaGreatDoorShelf
set_option linter.unusedVariables false
set_option linter.unusedSimpArgs false
set_option maxRecDepth 100000
namespace Go.Proofs.YtfamcohbnoibaaaGreatDoor
open Go.RowKit
structure DIn (w:World) (a b c d:SV) (C:Rs.Cfg) (l:Rs.Lay) (m q:SV):Prop where
 civ:CivT w
 cfg:CfgAt 0 w.heap.size w a b c d C
 lay:LayOk 0 w.heap.size w l (m,q)
theorem DIn.below {w w':World} {a b c d:SV} {C:Rs.Cfg} {l:Rs.Lay} {m q:SV} (h:DIn w a b c d C l m q) (hb:Below w.heap.size w w'):DIn w' a b c d C l m q:=
 ⟨h.civ.below hb,(h.cfg.below (Nat.le_refl _) hb).mono (Nat.le_refl _) hb.size,(LayOk.kept (.of_below hb (Nat.le_refl _)) h.lay).mono (Nat.le_refl _) hb.size⟩
theorem lin_one {α:Type} {k:Nat} {e:α→Nat→Value} {W:World} {g:Nat} {vs:Array Value} {T:TypeId} {x:α} (h:BlkAt W g vs T) (hv: ∀j,j<k→vs[j]? =some (e x j)):LIn k e 0 W.heap.size W (some ⟨g,0,none⟩,1,1) [x]:=
 ⟨fun _=>⟨g,0,rfl,h.lt_,fun i y hy j hj=>by
  rcases i with _|i
  ·simp only [List.getElem?_cons_zero,Option.some.injEq] at hy
   subst hy
   have :=h.cell (hv j hj)
   simpa using this
  ·simp at hy⟩,rfl,Nat.le_refl _,by simp,fun ad e=>by cases e;exact ⟨Nat.zero_le _,h.lt_⟩⟩
theorem alone_at {w W:World} {a b c d:SV} {C:Rs.Cfg} {l:Rs.Lay} {m1:Option Addr} {m2 m3:Nat} {q1:Option Addr} {q2 q3:Nat} (h:DIn w a b c d C l (m1,m2,m3) (q1,q2,q3)) (hb:Below w.heap.size w W) {g1 g2:Nat} {T1 T2:TypeId}
  (h1:BlkAt W g1 #[.string ⟨l.name.toArray⟩,.int .i64 l.zone,.int .i64 l.day,.int .i64 l.sec,.int .i64 l.unit,.int .i64 l.every,.slice m1 m2 m3,.slice q1 q2 q3,.int .i64 l.cal,.int .i64 l.mode] T1) (h2:BlkAt W g2 #[.string ⟨#[97,108,111,110,101]⟩,.slice (some ⟨g1,0,none⟩) 1 1,.slice none 0 0] T2):CfgAt 0 W.heap.size W a b c (some ⟨g2,0,none⟩,1,1) (Sg.alone C l):=by
 have h':=h.below hb
 refine ⟨h'.cfg.zones,h'.cfg.people,h'.cfg.cals,⟨[((⟨Sg.aloneN,[l],[]⟩:Rs.Sch),((some ⟨g1,0,none⟩,1,1),noSV))],rfl,lin_one h2 fun j hj=> ?_,fun x hx=> ?_⟩⟩
 ·rcases j with _|_|_|_<;>first|rfl|omega
 ·simp only [List.mem_singleton] at hx
  subst hx
  refine ⟨⟨[(l,((m1,m2,m3),(q1,q2,q3)))],rfl,lin_one h1 fun j hj=> ?_,fun y hy=> ?_⟩,LIn.nil_ _ _ _,fun y hy=>(by cases hy)⟩
  ·rcases j with _|_|_|_|_|_|_|_|_|_|_<;>first|rfl|omega
  ·simp only [List.mem_singleton] at hy
   subst hy
   exact h'.lay
theorem allocs5 (w:World) (v1 v2 v3 v4 v5:Array Value) (T1 T2 T3 T4 T5:TypeId):
  Below w.heap.size w (((((w.alloc (.cells v1 T1)).alloc (.cells v2 T2)).alloc (.cells v3 T3)).alloc (.cells v4 T4)).alloc (.cells v5 T5))∧BlkAt (((((w.alloc (.cells v1 T1)).alloc (.cells v2 T2)).alloc (.cells v3 T3)).alloc (.cells v4 T4)).alloc (.cells v5 T5)) w.heap.size v1 T1∧BlkAt (((((w.alloc (.cells v1 T1)).alloc (.cells v2 T2)).alloc (.cells v3 T3)).alloc (.cells v4 T4)).alloc (.cells v5 T5)) (w.heap.size+1+1) v3 T3∧BlkAt (((((w.alloc (.cells v1 T1)).alloc (.cells v2 T2)).alloc (.cells v3 T3)).alloc (.cells v4 T4)).alloc (.cells v5 T5)) (w.heap.size+1+1+1) v4 T4∧BlkAt (((((w.alloc (.cells v1 T1)).alloc (.cells v2 T2)).alloc (.cells v3 T3)).alloc (.cells v4 T4)).alloc (.cells v5 T5)) (w.heap.size+1+1+1+1) v5 T5:=by
 have h1:=BlkAt.new w v1 T1
 have h3:=BlkAt.new ((w.alloc (.cells v1 T1)).alloc (.cells v2 T2)) v3 T3
 have h4:=BlkAt.new (((w.alloc (.cells v1 T1)).alloc (.cells v2 T2)).alloc (.cells v3 T3)) v4 T4
 have h5:=BlkAt.new ((((w.alloc (.cells v1 T1)).alloc (.cells v2 T2)).alloc (.cells v3 T3)).alloc (.cells v4 T4)) v5 T5
 exact ⟨(((((Below.refl _ _).alloc (Nat.le_refl _) _).alloc (by simp) _).alloc (by simp;omega) _).alloc (by simp;omega) _).alloc (by simp;omega) _,h1.alloc _|>.alloc _|>.alloc _|>.alloc _,by have :=(h3.alloc (.cells v4 T4)).alloc (.cells v5 T5);simpa using this,by have :=h4.alloc (.cells v5 T5);simpa using this,by simpa using h5⟩
set_option maxHeartbeats 8000000 in
theorem fits_is {C:Rs.Cfg} {l:Rs.Lay} {R:Bool} (hR:Sg.fitS C l=R) (a1:Option Addr) (a2 a3:Nat) (b1:Option Addr) (b2 b3:Nat) (c1:Option Addr) (c2 c3:Nat) (d1:Option Addr) (d2 d3:Nat) (m1:Option Addr) (m2 m3:Nat) (q1:Option Addr) (q2 q3:Nat) (w:World) (h:DIn w (a1,a2,a3) (b1,b2,b3) (c1,c2,c3) (d1,d2,d3) C l (m1,m2,m3) (q1,q2,q3)):
  Calls Tryz.prog 43 #[.agg #[.slice a1 a2 a3,.slice b1 b2 b3,.slice c1 c2 c3,.slice d1 d2 d3],.agg #[.string ⟨l.name.toArray⟩,.int .i64 l.zone,.int .i64 l.day,.int .i64 l.sec,.int .i64 l.unit,.int .i64 l.every,.slice m1 m2 m3,.slice q1 q2 q3,.int .i64 l.cal,.int .i64 l.mode]] w fun e w'=>e= .returned (.bool R)∧Below w.heap.size w w':=by
 unfold Sg.fitS at hR
 obtain ⟨r1,hr1⟩: ∃r,Rs.chkS C=r:=⟨_,rfl⟩
 obtain ⟨r2,hr2⟩: ∃r,Rs.chkS (Sg.alone C l)=r:=⟨_,rfl⟩
 rw [hr1,hr2] at hR
 have HC:=Lib.hid (show ∀W,Below w.heap.size w W→_ from fun W hb=>check_cfg hr1 a1 b1 c1 d1 a2 a3 b2 b3 c2 c3 d2 d3 W (h.below hb).cfg (h.below hb).civ)
 have HA:=Lib.hid (show ∀(W:World) (g1 g2:Nat) (T1 T2:TypeId),Below w.heap.size w W→BlkAt W g1 #[.string ⟨l.name.toArray⟩,.int .i64 l.zone,.int .i64 l.day,.int .i64 l.sec,.int .i64 l.unit,.int .i64 l.every,.slice m1 m2 m3,.slice q1 q2 q3,.int .i64 l.cal,.int .i64 l.mode] T1→BlkAt W g2 #[.string ⟨#[97,108,111,110,101]⟩,.slice (some ⟨g1,0,none⟩) 1 1,.slice none 0 0] T2→_ from fun W g1 g2 T1 T2 hb h1 h2=>check_cfg hr2 a1 b1 c1 (some ⟨g2,0,none⟩) a2 a3 b2 b3 c2 c3 1 1 W (alone_at h hb h1 h2) (h.below hb).civ)
 clear h hr1 hr2
 go_enter Tryz.func43,Tryz.ntmps43
 go_upto_region 3 with fail
 obtain ⟨hb,k1,k3,k4,k5⟩:=allocs5 w #[.slice a1 a2 a3,.slice b1 b2 b3,.slice c1 c2 c3,.slice d1 d2 d3] #[.string ⟨l.name.toArray⟩,.int .i64 l.zone,.int .i64 l.day,.int .i64 l.sec,.int .i64 l.unit,.int .i64 l.every,.slice m1 m2 m3,.slice q1 q2 q3,.int .i64 l.cal,.int .i64 l.mode] #[.slice a1 a2 a3,.slice b1 b2 b3,.slice c1 c2 c3,.slice (some ⟨w.heap.size+1+1+1+1,0,none⟩) 1 1] #[.string ⟨l.name.toArray⟩,.int .i64 l.zone,.int .i64 l.day,.int .i64 l.sec,.int .i64 l.unit,.int .i64 l.every,.slice m1 m2 m3,.slice q1 q2 q3,.int .i64 l.cal,.int .i64 l.mode] #[.string ⟨#[97,108,111,110,101]⟩,.slice (some ⟨w.heap.size+1+1+1,0,none⟩) 1 1,.slice none 0 0] 33 39 33 39 90
 have HB:=Lib.hid hb;have K1:=Lib.hid k1;have K3:=Lib.hid k3;have K4:=Lib.hid k4;have K5:=Lib.hid k5
 clear hb k1 k3 k4 k5
 generalize (((((w.alloc (.cells #[.slice a1 a2 a3,.slice b1 b2 b3,.slice c1 c2 c3,.slice d1 d2 d3] 33)).alloc (.cells #[.string ⟨l.name.toArray⟩,.int .i64 l.zone,.int .i64 l.day,.int .i64 l.sec,.int .i64 l.unit,.int .i64 l.every,.slice m1 m2 m3,.slice q1 q2 q3,.int .i64 l.cal,.int .i64 l.mode] 39)).alloc (.cells #[.slice a1 a2 a3,.slice b1 b2 b3,.slice c1 c2 c3,.slice (some ⟨w.heap.size+1+1+1+1,0,none⟩) 1 1] 33)).alloc (.cells #[.string ⟨l.name.toArray⟩,.int .i64 l.zone,.int .i64 l.day,.int .i64 l.sec,.int .i64 l.unit,.int .i64 l.every,.slice m1 m2 m3,.slice q1 q2 q3,.int .i64 l.cal,.int .i64 l.mode] 39)).alloc (.cells #[.string ⟨#[97,108,111,110,101]⟩,.slice (some ⟨w.heap.size+1+1+1,0,none⟩) 1 1,.slice none 0 0] 90))=W at HB K1 K3 K4 K5 ⊢
 have x0:=K1.out.cell (i:=0) rfl;have x1:=K1.out.cell (i:=1) rfl;have x2:=K1.out.cell (i:=2) rfl;have x3:=K1.out.cell (i:=3) rfl
 by_cases hr:r1=0
 ·have hd1:(r1==0)=true:=by simpa using hr
  have HR:=Lib.hid (show (r2==0)=R by rw [←hR,decide_eq_true hr,Bool.true_and];by_cases h:r2=0<;>simp [h])
  clear hR hr
  go_wp2_with (first|(go_at_call 71;refine (HC.out _ HB.out).mono ?_;rintro e w1 ⟨rfl,hb1⟩;have HB1:=Lib.hid (bstep HB.out hb1);have J3:=Lib.hid (K3.out.after hb1);have J4:=Lib.hid (K4.out.after hb1);have J5:=Lib.hid (K5.out.after hb1);clear hb1 x0 x1 x2 x3 HC;have y0:=J3.out.cell (i:=0) rfl;have y1:=J3.out.cell (i:=1) rfl;have y2:=J3.out.cell (i:=2) rfl;have y3:=J3.out.cell (i:=3) rfl)|(go_at_call 71;refine (HA.out _ _ _ _ _ HB1.out J4.out J5.out).mono ?_;rintro e w2 ⟨rfl,hb2⟩;have HB2:=Lib.hid (bstep HB1.out hb2);clear hb2))
  go_ret
  exact ⟨ret_bool HR.out,HB2.out⟩
 ·have hd1:(r1==0)=false:=by simpa using hr
  have HR:=Lib.hid (show false=R by rw [←hR,decide_eq_false hr,Bool.false_and])
  clear hR hr
  go_wp2_with (go_at_call 71;refine (HC.out _ HB.out).mono ?_;rintro e w1 ⟨rfl,hb1⟩;have HB1:=Lib.hid (bstep HB.out hb1);clear hb1)
  go_ret
  exact ⟨ret_bool HR.out,HB1.out⟩
open Go.RowKit
structure DK (w:World) (a b c d:SV) (C:Rs.Cfg) (l:Rs.Lay) (m q:SV) (W:World):Prop where
 base:Below w.heap.size w W
 cfg:BlkAt W w.heap.size #[.slice a.1 a.2.1 a.2.2,.slice b.1 b.2.1 b.2.2,.slice c.1 c.2.1 c.2.2,.slice d.1 d.2.1 d.2.2] 33
 lay:BlkAt W (w.heap.size+1) #[.string ⟨l.name.toArray⟩,.int .i64 l.zone,.int .i64 l.day,.int .i64 l.sec,.int .i64 l.unit,.int .i64 l.every,.slice m.1 m.2.1 m.2.2,.slice q.1 q.2.1 q.2.2,.int .i64 l.cal,.int .i64 l.mode] 39
 din:DIn W a b c d C l m q
theorem DK.below {w W W':World} {a b c d:SV} {C:Rs.Cfg} {l:Rs.Lay} {m q:SV} (h:DK w a b c d C l m q W) (hb:Below W.heap.size W W'):DK w a b c d C l m q W':=
 ⟨bstep h.base hb,h.cfg.after hb,h.lay.after hb,h.din.below hb⟩
theorem DK.start {w:World} {C:Rs.Cfg} {l:Rs.Lay} {a1:Option Addr} {a2 a3:Nat} {b1:Option Addr} {b2 b3:Nat} {c1:Option Addr} {c2 c3:Nat} {d1:Option Addr} {d2 d3:Nat} {m1:Option Addr} {m2 m3:Nat} {q1:Option Addr} {q2 q3:Nat} (h:DIn w (a1,a2,a3) (b1,b2,b3) (c1,c2,c3) (d1,d2,d3) C l (m1,m2,m3) (q1,q2,q3)):DK w (a1,a2,a3) (b1,b2,b3) (c1,c2,c3) (d1,d2,d3) C l (m1,m2,m3) (q1,q2,q3) ((w.alloc (.cells #[.slice a1 a2 a3,.slice b1 b2 b3,.slice c1 c2 c3,.slice d1 d2 d3] 33)).alloc (.cells #[.string ⟨l.name.toArray⟩,.int .i64 l.zone,.int .i64 l.day,.int .i64 l.sec,.int .i64 l.unit,.int .i64 l.every,.slice m1 m2 m3,.slice q1 q2 q3,.int .i64 l.cal,.int .i64 l.mode] 39)):=by
 have hb:=((Below.refl w.heap.size w).alloc (Nat.le_refl _) (.cells #[.slice a1 a2 a3,.slice b1 b2 b3,.slice c1 c2 c3,.slice d1 d2 d3] 33)).alloc (by simp) (.cells #[.string ⟨l.name.toArray⟩,.int .i64 l.zone,.int .i64 l.day,.int .i64 l.sec,.int .i64 l.unit,.int .i64 l.every,.slice m1 m2 m3,.slice q1 q2 q3,.int .i64 l.cal,.int .i64 l.mode] 39)
 refine ⟨hb,BlkAt.alloc (BlkAt.new w _ _) _, ?_,h.below hb⟩
 have :=BlkAt.new (w.alloc (.cells #[.slice a1 a2 a3,.slice b1 b2 b3,.slice c1 c2 c3,.slice d1 d2 d3] 33)) #[.string ⟨l.name.toArray⟩,.int .i64 l.zone,.int .i64 l.day,.int .i64 l.sec,.int .i64 l.unit,.int .i64 l.every,.slice m1 m2 m3,.slice q1 q2 q3,.int .i64 l.cal,.int .i64 l.mode] 39
 simpa using this
theorem DIn.zoneAt {w:World} {a1:Option Addr} {a2 a3:Nat} {b c d:SV} {C:Rs.Cfg} {l:Rs.Lay} {m q:SV} (h:DIn w (a1,a2,a3) b c d C l m q) {i:Nat} {z:Rs.Zone} (hz:C.zones[i]? =some z) {ts:Zn.L} (ht:Zn.trans z.off z.rules=(ts,0)):
  i<a2∧ ∃(zb zo:Nat) (v1:Option Addr) (v2 v3:Nat),a1=some ⟨zb,zo,none⟩∧zb<w.heap.size∧w.cell? ⟨zb,zo+i*3,none⟩=some (.string ⟨z.name.toArray⟩)∧w.cell? ⟨zb,zo+i*3+1,none⟩=some (.int .i64 z.off)∧w.cell? ⟨zb,zo+i*3+2,none⟩=some (.slice v1 v2 v3)∧w.cell? ⟨zb,zo+i*3+1+1,none⟩=some (.slice v1 v2 v3)∧ZIn w v1 v2 z.rules∧I64 z.off:=by
 have hl:=h.cfg.zones.len
 have hi:i<a2:=by have :=(List.getElem?_eq_some_iff.1 hz).1;simp only at hl;omega
 obtain ⟨x,⟨v1,v2,v3⟩,zb,zo,hx,ea,hb,hc,hk⟩:=h.cfg.zones.get hi
 rw [hz] at hx;cases hx
 have hle:=(Zn.trans_ok ht).2.2.1
 have h1:=hk.1.len
 simp only at h1
 exact ⟨hi,zb,zo,v1,v2,v3,ea,hb,hc 0 (by omega),hc 1 (by omega),hc 2 (by omega),hc 2 (by omega),⟨h.civ,hk.1.at_,h1,hk.2.1,by omega⟩,hk.2.2⟩
theorem DIn.calAt {w:World} {a b:SV} {c1:Option Addr} {c2 c3:Nat} {d:SV} {C:Rs.Cfg} {l:Rs.Lay} {m q:SV} (h:DIn w a b (c1,c2,c3) d C l m q) {j:Nat} {x:Rs.Cal} (hx:C.cals[j]? =some x):
  j<c2∧ ∃(cb co:Nat) (u1:Option Addr) (u2 u3:Nat),c1=some ⟨cb,co,none⟩∧cb<w.heap.size∧w.cell? ⟨cb,co+j*3,none⟩=some (.string ⟨x.name.toArray⟩)∧w.cell? ⟨cb,co+j*3+1,none⟩=some (.int .i64 x.zone)∧w.cell? ⟨cb,co+j*3+2,none⟩=some (.slice u1 u2 u3)∧w.cell? ⟨cb,co+j*3+1+1,none⟩=some (.slice u1 u2 u3)∧LIn 1 eInt 0 w.heap.size w (u1,u2,u3) x.days:=by
 have hl:=h.cfg.cals.len
 have hj:j<c2:=by have :=(List.getElem?_eq_some_iff.1 hx).1;simp only at hl;omega
 obtain ⟨y,⟨u1,u2,u3⟩,cb,co,hy,ea,hb,hc,hk⟩:=h.cfg.cals.get hj
 rw [hx] at hy;cases hy
 exact ⟨hj,cb,co,u1,u2,u3,ea,hb,hc 0 (by omega),hc 1 (by omega),hc 2 (by omega),hc 2 (by omega),hk.1⟩
theorem DIn.wins {w:World} {a b c d:SV} {C:Rs.Cfg} {l:Rs.Lay} {m:SV} {q1:Option Addr} {q2 q3:Nat} (h:DIn w a b c d C l m (q1,q2,q3)):WIn w q1 q2 l.wins:=by
 have h1:=h.lay.2.1.len
 have h2:=h.lay.2.1.le
 simp only at h1 h2
 exact ⟨h.lay.2.1.at_,h1,by omega⟩
theorem loc_day {off:Int} {ts:Zn.L} {x:Int} (h:0≤x) (h2:x≤8589934592):(locV off ts 0 x).1=Zn.cl off ts x/86400∧offE 0 x=0:=by
 rw [locV_ok h h2 rfl]
 exact ⟨rfl,by unfold offE;rw [if_neg (by simp),if_neg (by omega)]⟩
theorem in_plain {off:Int} {ts:Zn.L} {ws:Wk.L} {x:Int} (hc:Wk.chk ws=0) (h:0≤x) (h2:x≤8589934592):inV off ts 0 ws x=Wk.within ws (Wk.sow (Zn.cl off ts x)):=by
 have e:=(loc_day (off:=off) (ts:=ts) h h2).2
 unfold inV secV
 rw [hc,e,offV_ok h h2,if_neg (by simp)]
 rfl
set_option maxHeartbeats 4000000 in
theorem inWin_is {off:Int} {rs:List Zn.Rule} {ts:Zn.L} (hZ:Zn.trans off rs=(ts,0)) (s:ByteArray) (A:Option Addr) (n c:Nat) (A2:Option Addr) (n2 c2:Nat) {ws:Wk.L} (hc:Wk.chk ws=0) (t:Int) (h0:0≤t) (h1:t≤8589934592) (w:World) (hz:ZIn w A n rs) (ho:I64 off) (hl:WIn w A2 n2 ws):
  Calls Tryz.prog 45 #[.agg #[.string s,.int .i64 off,.slice A n c],.slice A2 n2 c2,.int .i64 t] w fun e w'=>e= .returned (.bool (ws.isEmpty||Wk.within ws (Wk.sow (Zn.cl off ts t))))∧Below w.heap.size w w':=by
 have HI:=Lib.hid (show ∀W,Below w.heap.size w W→_ from fun W hb=>wkin_is hZ s A n c A2 n2 c2 ws t W (hz.below hb) ho (hl.below hb))
 rw [in_plain hc h0 h1] at HI
 have hlen:=hl.len
 obtain ⟨r,hr⟩: ∃r,Wk.within ws (Wk.sow (Zn.cl off ts t))=r:=⟨_,rfl⟩
 rw [hr] at HI ⊢
 have hB:=(Below.refl w.heap.size w).alloc (Nat.le_refl _) (.cells #[.string s,.int .i64 off,.slice A n c] 71)
 have HB:=Lib.hid hB
 cases ws with
 |nil=>
  obtain rfl:n2=0:=hlen.symm
  clear hz hl hr hZ hB
  go_enter Tryz.func45,Tryz.ntmps45
  go_wp2_with fail
  go_ret
  exact ⟨rfl,HB.out⟩
 |cons x tl=>
  have hn:((n2:Int)==0)=false:=by simp at hlen ⊢;omega
  have hn2:¬(n2:Int)=0:=by simp at hlen;omega
  show Calls _ _ _ _ fun e w'=>e= .returned (.bool (false||r))∧_
  rw [Bool.false_or]
  clear hz hl hr hZ hB hlen
  go_enter Tryz.func45,Tryz.ntmps45
  go_wp2_with (go_at_call 72;refine (HI.out _ HB.out).mono ?_;rintro e w1 ⟨rfl,hb1⟩;have HB1:=Lib.hid (bstep HB.out hb1);clear hb1)
  go_ret
  exact ⟨rfl,HB1.out⟩
open Go.RowKit
theorem DK.cs {w W:World} {C:Rs.Cfg} {l:Rs.Lay} {a1:Option Addr} {a2 a3:Nat} {b1:Option Addr} {b2 b3:Nat} {c1:Option Addr} {c2 c3:Nat} {d1:Option Addr} {d2 d3:Nat} {m1:Option Addr} {m2 m3:Nat} {q1:Option Addr} {q2 q3:Nat} (h:DK w (a1,a2,a3) (b1,b2,b3) (c1,c2,c3) (d1,d2,d3) C l (m1,m2,m3) (q1,q2,q3) W):
  W.cell? ⟨w.heap.size,0,none⟩=some (.slice a1 a2 a3)∧W.cell? ⟨w.heap.size,1,none⟩=some (.slice b1 b2 b3)∧W.cell? ⟨w.heap.size,2,none⟩=some (.slice c1 c2 c3)∧W.cell? ⟨w.heap.size,3,none⟩=some (.slice d1 d2 d3)∧W.cell? ⟨w.heap.size+1,0,none⟩=some (.string ⟨l.name.toArray⟩)∧W.cell? ⟨w.heap.size+1,1,none⟩=some (.int .i64 l.zone)∧W.cell? ⟨w.heap.size+1,2,none⟩=some (.int .i64 l.day)∧W.cell? ⟨w.heap.size+1,3,none⟩=some (.int .i64 l.sec)∧W.cell? ⟨w.heap.size+1,4,none⟩=some (.int .i64 l.unit)∧W.cell? ⟨w.heap.size+1,5,none⟩=some (.int .i64 l.every)∧W.cell? ⟨w.heap.size+1,6,none⟩=some (.slice m1 m2 m3)∧W.cell? ⟨w.heap.size+1,7,none⟩=some (.slice q1 q2 q3)∧W.cell? ⟨w.heap.size+1,8,none⟩=some (.int .i64 l.cal)∧W.cell? ⟨w.heap.size+1,9,none⟩=some (.int .i64 l.mode):=
 ⟨h.cfg.cell rfl,h.cfg.cell rfl,h.cfg.cell rfl,h.cfg.cell rfl,h.lay.cell rfl,h.lay.cell rfl,h.lay.cell rfl,h.lay.cell rfl,h.lay.cell rfl,h.lay.cell rfl,h.lay.cell rfl,h.lay.cell rfl,h.lay.cell rfl,h.lay.cell rfl⟩
theorem asc_pair: ∀{l:List Int},Rs.asc l=true→l.Pairwise (· < ·)
 |[],_=>List.Pairwise.nil
 |[a],_=>List.pairwise_singleton _ _
 |a::b::t,h=>by
  rw [Rs.asc,Bool.and_eq_true,decide_eq_true_eq] at h
  have ih:=asc_pair h.2
  refine List.pairwise_cons.2 ⟨fun x hx=> ?_,ih⟩
  rcases List.mem_cons.1 hx with rfl|hx
  ·exact h.1
  ·have :=(List.pairwise_cons.1 ih).1 x hx;omega
set_option maxHeartbeats 4000000 in
theorem bs_none (A:Option Addr) (c:Nat) (x:Int) (w:World):
  Calls Tryz.prog 74 #[.slice A 0 c,.int .i64 x] w fun e w'=> ∃i:Int,e= .returned (.tuple #[.int .i64 i,.bool false])∧Below w.heap.size w w':=by
 go_enter Tryz.func74,Tryz.ntmps74
 go_wp2_with fail
 go_loopw [7,8] (fun a b wr=>a= .int .i64 0∧b= .int .i64 0∧Below w.heap.size w wr) (fun _ _ _=>0)
 case atStart=>exact ⟨rfl,rfl,Below.refl _ _⟩
 case round=>
  obtain ⟨rfl,rfl,hb⟩:=hrel
  go_wp2_with fail
  go_ret2
  exact ⟨_,rfl,hb⟩
theorem bs_is {u1:Option Addr} {u2 u3:Nat} {ds:List Int} (ha:Rs.asc ds=true) (hl:ds.length≤64) (x:Int) (w:World) (h:LIn 1 eInt 0 w.heap.size w (u1,u2,u3) ds):
  Calls Tryz.prog 74 #[.slice u1 u2 u3,.int .i64 x] w fun e w'=> ∃i:Int,e= .returned (.tuple #[.int .i64 i,.bool (ds.contains x)])∧Below w.heap.size w w':=by
 have hlen:=h.len
 simp only at hlen
 rcases Nat.eq_zero_or_pos u2 with h0|h0
 ·subst h0
  obtain rfl:=List.eq_nil_of_length_eq_zero hlen
  exact bs_none u1 u3 x w
 ·obtain ⟨b,of,ea,hb,hc⟩:=h.at_ (by omega)
  simp only at ea
  subst ea
  refine (Tryz.slices_BinarySearch_int b of u2 u3 ds x w (by omega) (by omega) (fun j hj=> ?_) ?_).mono ?_
  ·have :=hc j _ (List.getElem?_eq_getElem hj) 0 (by decide)
   rw [List.getD,List.getElem?_eq_getElem hj]
   simpa [eInt] using this
  ·exact ((asc_pair ha).imp fun h=>Int.le_of_lt h).take
  ·rintro e w' ⟨rfl,q,rfl⟩
   rw [List.take_of_length_le (by omega)]
   exact ⟨_,rfl,below_drewN (Below.refl _ _) q⟩
set_option maxHeartbeats 8000000 in
theorem onDay_is {C:Rs.Cfg} {l:Rs.Lay} (hF:Sg.Fit C l) (a1:Option Addr) (a2 a3:Nat) (b1:Option Addr) (b2 b3:Nat) (c1:Option Addr) (c2 c3:Nat) (d1:Option Addr) (d2 d3:Nat) (m1:Option Addr) (m2 m3:Nat) (q1:Option Addr) (q2 q3:Nat) (t:Int) (h0:0≤t) (h1:t≤8589934592) (w:World) (h:DIn w (a1,a2,a3) (b1,b2,b3) (c1,c2,c3) (d1,d2,d3) C l (m1,m2,m3) (q1,q2,q3)):
  Calls Tryz.prog 46 #[.agg #[.slice a1 a2 a3,.slice b1 b2 b3,.slice c1 c2 c3,.slice d1 d2 d3],.agg #[.string ⟨l.name.toArray⟩,.int .i64 l.zone,.int .i64 l.day,.int .i64 l.sec,.int .i64 l.unit,.int .i64 l.every,.slice m1 m2 m3,.slice q1 q2 q3,.int .i64 l.cal,.int .i64 l.mode],.int .i64 t] w fun e w'=>e= .returned (.bool ((Sg.dy C l).cal t))∧Below w.heap.size w w':=by
 have HK:=Lib.hid (DK.start h)
 have hb0:=HK.out.base
 have HB:=Lib.hid hb0
 by_cases hm:l.mode=0
 ·have hd:(l.mode==0)=true:=by simpa using hm
  have HV:=Lib.hid (show (Sg.dy C l).cal t=true by unfold Sg.Dy.cal;rw [decide_eq_true (show (Sg.dy C l).mode=0 from hm)];rfl)
  clear h hb0 hF hm
  go_enter Tryz.func46,Tryz.ntmps46
  go_upto_region 1 with fail
  generalize ((w.alloc (.cells #[.slice a1 a2 a3,.slice b1 b2 b3,.slice c1 c2 c3,.slice d1 d2 d3] 33)).alloc (.cells #[.string ⟨l.name.toArray⟩,.int .i64 l.zone,.int .i64 l.day,.int .i64 l.sec,.int .i64 l.unit,.int .i64 l.every,.slice m1 m2 m3,.slice q1 q2 q3,.int .i64 l.cal,.int .i64 l.mode] 39))=W at HK HB ⊢
  obtain ⟨x0,x1,x2,x3,l0,l1,l2,l3,l4,l5,l6,l7,l8,l9⟩:=HK.out.cs
  go_wp2_with fail
  go_ret
  exact ⟨ret_bool HV.out.symm,HB.out⟩
 ·obtain ⟨⟨j,hj,hx⟩,⟨k,hk,hz⟩,htr,hasc,hl64,hday⟩:=hF.cal hm
  have hd:(l.mode==0)=false:=by simpa using hm
  obtain ⟨ts2,ets⟩: ∃ts,(Sg.dy C l).ts2=ts:=⟨_,rfl⟩
  have HV:=Lib.hid (show (Sg.dy C l).cal t=((Sg.lcal C l).days.contains (Zn.cl (Sg.lz2 C l).off ts2 t/86400)==(l.mode==2)) by
   unfold Sg.Dy.cal
   rw [decide_eq_false (show ¬(Sg.dy C l).mode=0 from hm),Bool.false_or, ←ets]
   rfl)
  rw [ets] at htr
  generalize Sg.lcal C l=x at hx hk hz hasc hl64 hday HV
  generalize Sg.lz2 C l=z at hz htr HV
  generalize (Sg.dy C l).cal t=V at HV ⊢
  obtain ⟨hj2,cb,co,u1,u2,u3,rfl, -, -, -, -, -, -⟩:=h.calAt hx
  obtain ⟨hk2,zb,zo,v1,v2,v3,rfl, -, -, -, -, -, -, -⟩:=h.zoneAt hz htr
  have HX:=Lib.hid hx;have HZ:=Lib.hid hz;have HTR:=Lib.hid htr;have HAS:=Lib.hid (And.intro hasc hl64)
  have j1:(j:Int)<c2:=by omega
  have j0:(0:Int)≤j:=by omega
  have k1:(k:Int)<a2:=by omega
  have k0:(0:Int)≤k:=by omega
  obtain ⟨⟨D,S⟩,hD⟩: ∃p,locV z.off ts2 0 t=p:=⟨_,rfl⟩
  obtain ⟨ld1,ld2⟩:=loc_day (off:=z.off) (ts:=ts2) h0 h1
  have HDD:=Lib.hid (show Zn.cl z.off ts2 t/86400=D by rw [←ld1,hD])
  have HTL:=Lib.hid (show ∀(s:ByteArray) (A:Option Addr) (n c:Nat) (W:World),ZIn W A n z.rules→I64 z.off→Calls Tryz.prog 73 #[.agg #[.string s,.int .i64 z.off,.slice A n c],.int .i64 t] W fun e w'=>e= .returned (.tuple #[.agg #[.int .i64 D,.int .i64 S],.int .i64 0])∧Below W.heap.size W w' from fun s A n c W hz ho=>by
   have :=toLocal_is htr s A n c t W hz ho
   rwa [hD,ld2] at this)
  have HJ:=Lib.hid hj;have HKK:=Lib.hid hk
  clear h hb0 hF hm hx hz htr hasc hl64 hday hD ld1 ld2 hj hk hj2 hk2 ets
  go_enter Tryz.func46,Tryz.ntmps46
  go_upto_region 1 with fail
  generalize ((w.alloc (.cells #[.slice (some ⟨zb,zo,none⟩) a2 a3,.slice b1 b2 b3,.slice (some ⟨cb,co,none⟩) c2 c3,.slice d1 d2 d3] 33)).alloc (.cells #[.string ⟨l.name.toArray⟩,.int .i64 l.zone,.int .i64 l.day,.int .i64 l.sec,.int .i64 l.unit,.int .i64 l.every,.slice m1 m2 m3,.slice q1 q2 q3,.int .i64 l.cal,.int .i64 l.mode] 39))=W at HK HB ⊢
  obtain ⟨-,cb',co',u1',u2',u3',e1,hcb,y0,y1,y2,y2',hli⟩:=HK.out.din.calAt HX.out
  cases e1
  obtain ⟨x0,x1,x2,x3,l0,l1,l2,l3,l4,l5,l6,l7,l8,l9⟩:=HK.out.cs
  rw [HJ.out] at l8
  rw [HKK.out] at y1
  have HLI:=Lib.hid hli
  clear hli
  go_upto_region 4 with fail
  have kb:=(Below.refl _ W).alloc (Nat.le_refl _) (.cells #[.string ⟨x.name.toArray⟩,.int .i64 k,.slice u1' u2' u3'] 76)
  have CB:=Lib.hid (BlkAt.new W #[.string ⟨x.name.toArray⟩,.int .i64 k,.slice u1' u2' u3'] 76)
  have HK4:=Lib.hid (HK.out.below kb)
  have HB4:=Lib.hid (bstep HB.out kb)
  have HL4:=Lib.hid ((HLI.out.kept (.of_below kb (Nat.le_refl _))).mono (Nat.le_refl _) kb.size)
  clear x0 x1 x2 x3 l0 l1 l2 l3 l4 l5 l6 l7 l8 l9 y0 y1 y2 y2' kb HK HB HLI hcb
  generalize hcx:W.heap.size=bx at CB ⊢
  generalize W.alloc (.cells #[.string ⟨x.name.toArray⟩,.int .i64 k,.slice u1' u2' u3'] 76)=W4 at CB HK4 HB4 HL4 ⊢
  clear hcx
  obtain ⟨-,zb',zo',v1',v2',v3',e2,hzb,z0,z1,z2,z2',hzi,ho⟩:=HK4.out.din.zoneAt HZ.out HTR.out
  cases e2
  obtain ⟨x0,x1,x2,x3,l0,l1,l2,l3,l4,l5,l6,l7,l8,l9⟩:=HK4.out.cs
  have g1:=CB.out.cell (i:=1) rfl;have g2:=CB.out.cell (i:=2) rfl
  have HTC:=Lib.hid (HTL.out ⟨z.name.toArray⟩ v1' v2' v3' W4 hzi ho)
  clear hzi ho
  go_upto_region 5 with (go_at_call 73;refine HTC.out.mono ?_;rintro e w5 ⟨rfl,hb5⟩)
  have kb:=hb5.alloc hb5.size (.cells #[.int .i64 D,.int .i64 S] 36)
  have LB:=Lib.hid (BlkAt.new w5 #[.int .i64 D,.int .i64 S] 36)
  have CB5:=Lib.hid (CB.out.after kb)
  have HK5:=Lib.hid (HK4.out.below kb)
  have HB5:=Lib.hid (bstep HB4.out kb)
  have HL5:=Lib.hid ((HL4.out.kept (.of_below kb (Nat.le_refl _))).mono (Nat.le_refl _) kb.size)
  clear x0 x1 x2 x3 l0 l1 l2 l3 l4 l5 l6 l7 l8 l9 z0 z1 z2 z2' g1 g2 kb hb5 HK4 HB4 HL4 CB hzb HTC
  generalize hlx:w5.heap.size=bl at LB ⊢
  generalize w5.alloc (.cells #[.int .i64 D,.int .i64 S] 36)=W5 at CB5 LB HK5 HB5 HL5 ⊢
  clear hlx
  obtain ⟨x0,x1,x2,x3,l0,l1,l2,l3,l4,l5,l6,l7,l8,l9⟩:=HK5.out.cs
  have g1:=CB5.out.cell (i:=1) rfl;have g2:=CB5.out.cell (i:=2) rfl
  have t0:=LB.out.cell (i:=0) rfl;have t1:=LB.out.cell (i:=1) rfl
  have HBS:=Lib.hid (bs_is HAS.out.1 HAS.out.2 D W5 HL5.out)
  rw [HDD.out] at HV
  generalize x.days.contains D=r at HV HBS
  go_upto_region 6 with (go_at_call 74;refine HBS.out.mono ?_;rintro e w6 ⟨i6,rfl,hb6⟩)
  have HK6:=Lib.hid (HK5.out.below hb6)
  have HB6:=Lib.hid (bstep HB5.out hb6)
  clear x0 x1 x2 x3 l0 l1 l2 l3 l4 l5 l6 l7 l8 l9 g1 g2 t0 t1 HK5 hb6 CB5 LB HL5 HBS
  obtain ⟨x0,x1,x2,x3,l0,l1,l2,l3,l4,l5,l6,l7,l8,l9⟩:=HK6.out.cs
  go_wp2_with fail
  go_ret
  exact ⟨ret_bool HV.out.symm,HB6.out⟩
end Go.Proofs.YtfamcohbnoibaaaGreatDoor
