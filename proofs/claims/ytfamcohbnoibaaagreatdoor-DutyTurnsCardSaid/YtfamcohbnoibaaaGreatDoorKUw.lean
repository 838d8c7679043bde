import Derived.Test.YtfamcohbnoibaaaGreatDoorKG38
import Derived.Test.YtfamcohbnoibaaaGreatDoorKDx
set_option linter.unusedVariables false
set_option linter.unusedSimpArgs false
set_option maxRecDepth 100000
namespace Go.Proofs.YtfamcohbnoibaaaGreatDoor
open Go.RowKit
theorem fit_made {C:Rs.Cfg} {l:Rs.Lay} (hM:Rs.Made C) (hl:Rs.ML C.zones.length C.people.length C.cals.length l) (hn:l.name=[97]):Sg.fitS C l=true:=by
 refine Sg.fit_yes (by kernel_rfl) (Rs.made_ok hM) (Rs.ml_ok hl ?_)
 unfold Rs.nameE
 rw [hn,if_neg (by rw [show Lx.nameS [97]=true by kernel_rfl];simp),if_neg (by omega)]
theorem good_ts {off:Int} {rs:List Zn.Rule} {ts:Zn.L} (h:Zn.Good off rs) (ht:Zn.trans off rs=(ts,0)):ts.length≤166:=by
 obtain ⟨ts',e,hb⟩:=h.ex
 rw [e] at ht
 obtain rfl:ts'=ts:=congrArg Prod.fst ht
 exact Wk.good_few (Zn.trans_vz e) hb
theorem small_made {C:Rs.Cfg} {l:Rs.Lay} (hZ: ∀z∈C.zones,Rs.MZ z) (hD: ∀x∈C.cals,x.days.length≤4) (hw:l.wins.length≤3) (hf:Sg.fitS C l=true):Sg.Small C l:=by
 have hF:=Sg.fit_of hf
 obtain ⟨i, -,hi⟩:=hF.z
 have h1:=good_ts (hZ _ (List.mem_of_getElem? hi)).1 hF.tr
 refine ⟨Nat.le_trans (Nat.mul_le_mul hw (show 57+2*((Sg.dy C l).ts.length+1)≤391 by omega)) (by decide),fun hm=> ?_⟩
 obtain ⟨⟨j, -,hj⟩,⟨k, -,hk⟩,htr, -⟩:=hF.cal hm
 have h2:=good_ts (hZ _ (List.mem_of_getElem? hk)).1 htr
 exact Nat.le_trans (Nat.mul_le_mul (hD _ (List.mem_of_getElem? hj)) (show (Sg.dy C l).ts2.length+1≤167 by omega)) (by decide)
structure LK (w:World) (lo:Nat) (a b c d:SV) (C:Rs.Cfg) (l:Rs.Lay) (m q:SV) (bc bl:Nat) (cv lv:Array Value) (W:World):Prop where
 base:Below w.heap.size w W
 civ:CivT w
 cfg:CfgAt lo W.heap.size W a b c d C
 lay:LayOk lo W.heap.size W l (m,q)
 bx:BlkAt W bc cv 33
 by_:BlkAt W bl lv 39
 lc:lo≤bc
 ll:lo≤bl
section
variable {w W W':World} {lo:Nat} {a b c d:SV} {C:Rs.Cfg} {l:Rs.Lay} {m q:SV} {bc bl:Nat} {cv lv:Array Value}
theorem LK.below (h:LK w lo a b c d C l m q bc bl cv lv W) (hb:Below W.heap.size W W'):LK w lo a b c d C l m q bc bl cv lv W':=
 ⟨bstep h.base hb,h.civ,(h.cfg.below (Nat.le_refl _) hb).mono (Nat.le_refl _) hb.size,(LayOk.kept (.of_below hb (Nat.le_refl _)) h.lay).mono (Nat.le_refl _) hb.size,h.bx.after hb,h.by_.after hb,h.lc,h.ll⟩
theorem LK.grown {g:Nat} (h:LK w lo a b c d C l m q bc bl cv lv W) (hg:W.grownBy W' (some g)) (h1:g<lo) (h2:w.heap.size≤g):LK w lo a b c d C l m q bc bl cv lv W':=by
 have l1:=h.lc
 have l2:=h.ll
 exact ⟨below_of_grown h.base hg h.base.size h2,h.civ,(h.cfg.kept (.of_grown hg h1 (Nat.le_refl _))).mono (Nat.le_refl _) hg.size,(LayOk.kept (.of_grown hg h1 (Nat.le_refl _)) h.lay).mono (Nat.le_refl _) hg.size,h.bx.grown hg (by intro e;cases e;omega),h.by_.grown hg (by intro e;cases e;omega),l1,l2⟩
theorem LK.din (h:LK w lo a b c d C l m q bc bl cv lv W):DIn W a b c d C l m q:=
 ⟨h.civ.below h.base,h.cfg.mono (Nat.zero_le _) (Nat.le_refl _),h.lay.mono (Nat.zero_le _) (Nat.le_refl _)⟩
end
section
variable {w W:World} {lo:Nat} {C:Rs.Cfg} {l:Rs.Lay} {a1:Option Addr} {a2 a3:Nat} {b1:Option Addr} {b2 b3:Nat} {c1:Option Addr} {c2 c3:Nat} {d1:Option Addr} {d2 d3:Nat} {m1:Option Addr} {m2 m3:Nat} {q1:Option Addr} {q2 q3:Nat} {bc bl:Nat} {cv lv:Array Value}
theorem LK.on (h:LK w lo (a1,a2,a3) (b1,b2,b3) (c1,c2,c3) (d1,d2,d3) C l (m1,m2,m3) (q1,q2,q3) bc bl cv lv W) (hn:l.name=[97]) {t:Int} (ht:I64 t):Calls Tryz.prog 16 #[.agg #[.slice a1 a2 a3,.slice b1 b2 b3,.slice c1 c2 c3,.slice d1 d2 d3],.agg #[.string ⟨#[97]⟩,.int .i64 l.zone,.int .i64 l.day,.int .i64 l.sec,.int .i64 l.unit,.int .i64 l.every,.slice m1 m2 m3,.slice q1 q2 q3,.int .i64 l.cal,.int .i64 l.mode],.int .i64 t] W fun e w'=>e= .returned (.bool (Sg.perS C l t != -1))∧Below W.heap.size W w':=by
 have :=On_is a1 a2 a3 b1 b2 b3 c1 c2 c3 d1 d2 d3 m1 m2 m3 q1 q2 q3 t ht W h.din
 rw [hn] at this
 exact this
theorem LK.seg (h:LK w lo (a1,a2,a3) (b1,b2,b3) (c1,c2,c3) (d1,d2,d3) C l (m1,m2,m3) (q1,q2,q3) bc bl cv lv W) (hn:l.name=[97]) (hs:Sg.fitS C l=true→Sg.Small C l) {f t:Int} (hf:I64 f) (ht:I64 t):Calls Tryz.prog 22 #[.agg #[.slice a1 a2 a3,.slice b1 b2 b3,.slice c1 c2 c3,.slice d1 d2 d3],.agg #[.string ⟨#[97]⟩,.int .i64 l.zone,.int .i64 l.day,.int .i64 l.sec,.int .i64 l.unit,.int .i64 l.every,.slice m1 m2 m3,.slice q1 q2 q3,.int .i64 l.cal,.int .i64 l.mode],.int .i64 f,.int .i64 t] W (SegV C l f t W):=by
 have :=Segments_is hs a1 a2 a3 b1 b2 b3 c1 c2 c3 d1 d2 d3 m1 m2 m3 q1 q2 q3 f t hf ht W h.din
 rw [hn] at this
 exact this
end
theorem seg_ok {C:Rs.Cfg} {l:Rs.Lay} (hf:Sg.fitS C l=true) {f t:Int} (h0:0≤f) (h1:f≤t) (h2:t≤8589934592) (h3:t-f≤20000000) {L:List Sg.S} {er:Int} (h:Sg.GOut (Sg.fitS C l) (Sg.dy C l).per f t L er) (he:Sg.fitS C l=true→0≤f→f≤t→t≤8589934592→t-f≤20000000→er=0):er=0∧Sg.Seg (Sg.dy C l).per none f t L:=by
 obtain rfl:=he hf h0 h1 h2 h3
 rw [hf] at h
 obtain ⟨s,h4,h5⟩:=h.yes rfl ⟨h0,by omega,h1,h2,by omega⟩
 rcases h5 with ⟨-,rfl, -⟩|⟨-, -,h6⟩
 ·exact ⟨rfl,h4⟩
 ·cases h6
theorem lay_drawn {S:Nat→Prop} {w:World} {l:Rs.Lay} {m q:SV} {lo:Nat} (h:LayS S w l (m,q)) (hS: ∀b,S b→lo≤b):LayOk lo w.heap.size w l (m,q):=⟨h.1.lin hS,h.2.1.lin hS,h.2.2⟩
end Go.Proofs.YtfamcohbnoibaaaGreatDoor
