import Derived.Test.YtfamcohbnoibaaaGreatDoorKG39
import Derived.Test.YtfamcohbnoibaaaGreatDoorKG29
import Derived.Test.YtfamcohbnoibaaaGreatDoorKG28
import Derived.Test.YtfamcohbnoibaaaGreatDoorKG34
import Derived.Test.YtfamcohbnoibaaaGreatDoorKG33
import Derived.Test.YtfamcohbnoibaaaGreatDoorKG32
set_option linter.unusedVariables false
set_option linter.unusedSimpArgs false
set_option maxRecDepth 100000
namespace Go.Proofs.YtfamcohbnoibaaaGreatDoor
open Go.RowKit
theorem own_one (w:World) (f t:Int) (T:TypeId):OwnL T 2 ePair (w.alloc (.cells #[.int .i64 f,.int .i64 t] T)) w.heap.size (.slice (some ⟨w.heap.size,0,none⟩) 1 1) [(f,t)]:=
 ⟨rfl,.inr ⟨w.heap.size,1,#[.int .i64 f,.int .i64 t],rfl,Nat.le_refl _,BlkAt.new w _ _,Nat.le_refl _,by decide,rfl,rfl⟩⟩
theorem addR_len3 {l:Wk.L} {off f t:Int} (s:Wk.L):(Wk.addR l off f t s).length≤s.length+l.length*((t-f)/604800+2).toNat:=by
 unfold Wk.addR
 split
 ·omega
 ·have h1:=addK_len l f t (Wk.wks (f-Wk.sow (f+off)) t) (f-Wk.sow (f+off)) s
  have h2:=Wk.sow_bd (f+off)
  have h3:Wk.wks (f-Wk.sow (f+off)) t≤((t-f)/604800+2).toNat:=by unfold Wk.wks;omega
  have :=Nat.mul_le_mul (Nat.le_refl l.length) h3
  omega
theorem tms_len3 {l:Wk.L} {t:Int}: ∀{ts s:Wk.L} {off f:Int},(Wk.tms s off ts l f t).length≤s.length+l.length*(((t-f)/604800).toNat+2*(ts.length+1))
 |[],s,off,f=>by
  have h1:=addR_len3 (l:=l) (off:=off) (f:=f) (t:=t) s
  have h2:=Nat.mul_le_mul (Nat.le_refl l.length) (show ((t-f)/604800+2).toNat≤((t-f)/604800).toNat+2*(([]:Wk.L).length+1) by simp;omega)
  rw [Wk.tms];omega
 |(a,o)::ts,s,off,f=>by
  have h2:=tms_len3 (l:=l) (t:=t) (ts:=ts) (s:=Wk.addR l off f (min a t) s) (off:=o) (f:=max a f)
  rw [Wk.tms,List.length_cons]
  by_cases ha:min a t≤f
  ·have e:Wk.addR l off f (min a t) s=s:=by unfold Wk.addR;rw [if_pos ha]
   rw [e] at h2 ⊢
   have h3:=Nat.mul_le_mul (Nat.le_refl l.length) (show ((t-max a f)/604800).toNat+2*(ts.length+1)≤((t-f)/604800).toNat+2*(ts.length+1+1) by omega)
   omega
  ·have h1:=addR_len3 (l:=l) (off:=off) (f:=f) (t:=min a t) s
   have h3:=Nat.mul_le_mul (Nat.le_refl l.length) (show ((min a t-f)/604800+2).toNat+(((t-max a f)/604800).toNat+2*(ts.length+1))≤((t-f)/604800).toNat+2*(ts.length+1+1) by omega)
   rw [Nat.mul_add] at h3
   omega
def WinV (K:Int→Bool) (f t:Int) (w:World) (e:Ending) (w':World):Prop:= ∃(s:List (Int×Int)) (A:Option Addr) (n c:Nat),e= .returned (.tuple #[.slice A n c,.int .i64 0])∧Wk.Up K s f t∧s.length=n∧n≤2000∧n≤c∧PairsAt w' A s∧Below w.heap.size w w'
theorem up_all {K:Int→Bool} {f t:Int} (h:f<t) (hk: ∀x,K x=true):Wk.Up K [(f,t)] f t:=by
 have :=Wk.up_add (Wk.up_nil K f) (Int.le_refl _) h (fun x _ _=>hk x)
 rw [addP_first (by omega)] at this
 exact this
set_option maxHeartbeats 4000000 in
theorem winTimes_is {off:Int} {rs:List Zn.Rule} {ts:Zn.L} (hZ:Zn.trans off rs=(ts,0)) (s:ByteArray) (A:Option Addr) (n c:Nat) (A2:Option Addr) (n2 c2:Nat) {ws:Wk.L} (hc:Wk.chk ws=0) (hsm:ws.length*(57+2*(ts.length+1))≤2000) (f t:Int) (h0:0≤f) (h1:f<t) (h2:t≤8589934592) (h3:t-f≤34560000) (w:World) (hz:ZIn w A n rs) (ho:I64 off) (hl:WIn w A2 n2 ws):
  Calls Tryz.prog 49 #[.agg #[.string s,.int .i64 off,.slice A n c],.slice A2 n2 c2,.int .i64 f,.int .i64 t] w (WinV (fun x=>ws.isEmpty||Wk.within ws (Wk.sow (Zn.cl off ts x))) f t w):=by
 have hlen:=hl.len
 have hB:=(Below.refl w.heap.size w).alloc (Nat.le_refl _) (.cells #[.string s,.int .i64 off,.slice A n c] 71)
 have HB:=Lib.hid hB
 cases ws with
 |nil=>
  obtain rfl:n2=0:=hlen.symm
  have HU:=Lib.hid (up_all (K:=fun x=>([]:Wk.L).isEmpty||Wk.within [] (Wk.sow (Zn.cl off ts x))) h1 (fun _=>rfl))
  have hO:=own_one (w.alloc (.cells #[.string s,.int .i64 off,.slice A n c] 71)) f t 82
  have HP:=Lib.hid (show PairsAt ((w.alloc (.cells #[.string s,.int .i64 off,.slice A n c] 71)).alloc (.cells #[.int .i64 f,.int .i64 t] 82)) (some ⟨w.heap.size+1,0,none⟩) [(f,t)] from by
   obtain ⟨A',c',e, -, -,hp⟩:=hO.shape
   cases e
   simpa using hp)
  have HB2:=Lib.hid (hB.alloc (by simp) (.cells #[.int .i64 f,.int .i64 t] 82))
  clear hz hl hZ hB hO h0 h1 h2 h3 hsm
  go_enter Tryz.func49,Tryz.ntmps49
  go_wp2_with fail
  go_ret2
  exact ⟨[(f,t)],some ⟨w.heap.size+1,0,none⟩,1,1,rfl,HU.out,rfl,by omega,Nat.le_refl _,HP.out,HB2.out⟩
 |cons x tl=>
  have hn:((n2:Int)==0)=false:=by simp at hlen ⊢;omega
  have hn2:¬(n2:Int)=0:=by simp at hlen;omega
  have hrt:=(Wk.chk_ok hc).1
  have hu:=Wk.tms_has (off:=off) (ts:=ts) (f:=f) (t:=t) hrt (by omega)
  have hq:okQ f t=true:=by unfold okQ;simp;omega
  have hle:=tms_len3 (l:=x::tl) (t:=t) (ts:=ts) (s:=[]) (off:=off) (f:=f)
  have hle:=Nat.le_trans hle (Nat.add_le_add_left (Nat.mul_le_mul_left _ (show ((t-f)/604800).toNat+2*(ts.length+1)≤57+2*(ts.length+1) by omega)) _)
  rw [List.length_nil,Nat.zero_add] at hle
  have hT:=times_is hZ s A n c A2 n2 c2 (x::tl) f t _ (hz.alloc (.cells #[.string s,.int .i64 off,.slice A n c] 71)) ho (hl.alloc _) (by unfold I64;omega) (by unfold I64;omega)
  have e1:tmV 0 (x::tl) f t (Wk.tms [] off ts (x::tl) f t)=Wk.tms [] off ts (x::tl) f t:=by unfold tmV;rw [if_neg (by simp),if_neg (by simpa using hc),if_neg (by rw [hq];simp),if_neg (by omega)]
  have e2:tmE 0 (x::tl) f t (Wk.tms [] off ts (x::tl) f t)=0:=by unfold tmE;rw [if_neg (by simp),if_neg (by simpa using hc),if_neg (by rw [hq];simp),if_neg (by omega)]
  rw [e1,e2] at hT
  have HU:=Lib.hid (show Wk.Up (fun y=>(x::tl).isEmpty||Wk.within (x::tl) (Wk.sow (Zn.cl off ts y))) (Wk.tms [] off ts (x::tl) f t) f t from hu)
  have HLE:=Lib.hid (Nat.le_trans hle hsm)
  generalize Wk.tms [] off ts (x::tl) f t=r at hT HU HLE
  have HT:=Lib.hid hT
  clear hz hl hZ hB hT hlen hu hq hle e1 e2 hrt hc hsm h0 h1 h2 h3
  go_enter Tryz.func49,Tryz.ntmps49
  go_wp2_with (go_at_call 78;refine HT.out.mono ?_;rintro e w1 ⟨A1,c1,rfl,hp,hb1,hc1⟩;have HP:=Lib.hid hp;have HC:=Lib.hid hc1;have HB1:=Lib.hid (bstep HB.out hb1);clear hp hb1 hc1)
  go_ret2
  exact ⟨r,A1,r.length,c1,rfl,HU.out,rfl,HLE.out,HC.out,HP.out,HB1.out⟩
def adS (days:List Int) (o f t:Int) (s:List (Int×Int)):List (Int×Int):=days.foldl (fun s d=>if max (d*86400-o) f<min (d*86400-o+86400) t then s++[(max (d*86400-o) f,min (d*86400-o+86400) t)] else s) s
theorem adS_len (o f t:Int): ∀(days:List Int) (s:List (Int×Int)),(adS days o f t s).length≤s.length+days.length
 |[],s=>by simp [adS]
 |d::r,s=>by
  have :=adS_len o f t r (if max (d*86400-o) f<min (d*86400-o+86400) t then s++[(max (d*86400-o) f,min (d*86400-o+86400) t)] else s)
  have h2:(if max (d*86400-o) f<min (d*86400-o+86400) t then s++[(max (d*86400-o) f,min (d*86400-o+86400) t)] else s).length≤s.length+1:=by split<;>simp
  have h3:(d::r).length=r.length+1:=rfl
  have h4:adS (d::r) o f t s=adS r o f t (if max (d*86400-o) f<min (d*86400-o+86400) t then s++[(max (d*86400-o) f,min (d*86400-o+86400) t)] else s):=rfl
  rw [h4,h3]
  omega
set_option maxHeartbeats 8000000 in
theorem addDays_is (v:Value) (s:List (Int×Int)) (A:Option Addr) (n c:Nat) (days:List Int) (o f t:Int) (B:Nat) (w:World) (hO:OwnL 82 2 ePair w B v s) (hs:s.length≤100000) (hB:B≤w.heap.size) (hA:IntsAt w A days) (hap:0<days.length→ ∀ad,A=some ad→v.ownBlock≠some ad.block) (hn:days.length=n) (hn6:n≤64) (hd: ∀x∈days,0≤x∧x<98981) (ho: -64800≤o∧o≤64800) (hf:0≤f∧f≤8589934592) (ht:0≤t∧t≤8589934592):
  Calls Tryz.prog 80 #[v,.slice A n c,.int .i64 o,.int .i64 f,.int .i64 t] w fun e w'=> ∃v',e= .returned v'∧OwnL 82 2 ePair w' B v' (adS days o f t s)∧Stp w w' v v':=by
 have HO:=Lib.hid hO;have HA:=Lib.hid hA;have HN:=Lib.hid hn;have HD:=Lib.hid hd;have HAP:=Lib.hid hap
 clear hO hA hn hd hap
 go_enter Tryz.func80,Tryz.ntmps80
 go_wp2_with fail
 go_loopw [0,17] (fun u i wr=> ∃(k:Nat) (s':List (Int×Int)),i= .int .i64 k∧k≤n∧s'.length≤s.length+k∧Hid (adS (days.take k) o f t s=s')∧Hid (OwnL 82 2 ePair wr B u s')∧Hid (Stp w wr v u)) (fun _ i _=>n-(intOf i).toNat)
 case atStart=>exact ⟨0,s,rfl,Nat.zero_le _,Nat.le_refl _,Lib.hid rfl,HO,Lib.hid (Stp.refl _ _)⟩
 case round=>
  clear HO
  obtain ⟨k,s',rfl,hk,hq,HE,HO,HS⟩:=hrel
  have hsz:=HS.out.1.size
  by_cases hlt:k<n
  ·obtain ⟨x,hx⟩:=get_ex (xs:=days) (i:=k) (by have :=HN.out;omega)
   obtain ⟨b,of,rfl,hb,x0⟩:=ints_cell (ListAt.stp HA.out HAP.out HS.out) hx
   obtain ⟨d1,d2⟩:=HD.out x (List.mem_of_getElem? hx)
   have ⟨v1,v1'⟩:=wrapn (n:=x*86400) (by omega)
   have ⟨v2,v2'⟩:=wrapn (n:=x*86400-o) (by omega)
   have ⟨v3,v3'⟩:=wrapn (n:=x*86400-o+86400) (by omega)
   obtain ⟨p,hp⟩: ∃p,max (x*86400-o) f=p:=⟨_,rfl⟩
   obtain ⟨q,hq2⟩: ∃q,min (x*86400-o+86400) t=q:=⟨_,rfl⟩
   have HE2:=Lib.hid (show adS (days.take (k+1)) o f t s=if p<q then s'++[(p,q)] else s' by
    have :=HE.out
    unfold adS at this ⊢
    rw [take_snoc' hx,List.foldl_append,this, ←hp, ←hq2]
    rfl)
   clear hx HE d1 d2
   by_cases hpq:p<q
   ·rw [if_pos hpq] at HE2
    have hd1:decide (p<q)=true:=by simpa using hpq
    go_wp2_with (at_builtin;refine wp_append_one kSpn _ rfl _ _ rfl B _ s' rfl ((HO.out.alloc _).alloc _) (wr.heap.size+1) (p,q) rfl (pair_new (x:=(p,q)) (by simp)) (by omega) (by simp;omega) ?_;intro gg cap w3 hO3 hB3 hg3 hgo _)
    go_roundw
    case rel=>exact ⟨k+1,s'++[(p,q)],by go_num,by omega,by simp;omega,HE2,Lib.hid hO3,Lib.hid ((HS.out.alloc (.cells #[.int .i64 p,.int .i64 q] 82)).trans (Stp.app rfl hg3 hgo))⟩
    case measure=>simp [intOf];omega
   ·rw [if_neg hpq] at HE2
    have hd1:decide (p<q)=false:=by simpa using hpq
    go_wp2_with fail
    go_roundw
    case rel=>exact ⟨k+1,s',by go_num,by omega,by omega,HE2,Lib.hid (HO.out.alloc _),Lib.hid (HS.out.alloc _)⟩
    case measure=>simp [intOf];omega
  ·have HE2:=Lib.hid (show adS days o f t s=s' by rw [←HE.out,List.take_of_length_le (by have :=HN.out;omega)])
   go_wp2_with fail
   go_ret
   exact ⟨_,rfl,HE2.out▸HO.out,HS.out⟩
open Go.RowKit
theorem spans_of {w:World} {A:Option Addr} {xs:Spn.L} (h:PairsAt w A xs):Spw.SpansAt w A xs:=fun h0=>by
 obtain ⟨b,of,ea,hb,hc⟩:=h h0
 refine ⟨b,of,ea,hb,fun k hk=> ?_⟩
 obtain ⟨a,b2⟩:=pair_cells (hc k _ (List.getElem?_eq_getElem hk))
 simp only [List.getD,List.getElem?_eq_getElem hk,Option.getD_some]
 exact ⟨a,b2⟩
theorem pairs_of {w:World} {A:Option Addr} {xs:Spn.L} (h:Spw.SpansAt w A xs):PairsAt w A xs:=fun h0=>by
 obtain ⟨b,of,ea,hb,hc⟩:=h h0
 refine ⟨b,of,ea,hb,fun k x hx j hj=> ?_⟩
 have hk:=(List.getElem?_eq_some_iff.1 hx).1
 obtain ⟨a,b2⟩:=hc k hk
 simp only [List.getD,hx,Option.getD_some] at a b2
 rcases j with _|_|j
 ·exact a
 ·exact b2
 ·omega
theorem asc_len: ∀{r l:List Int},r.Pairwise (· < ·)→(∀x∈r,x∈l)→r.length≤l.length
 |[],_,_,_=>by simp
 |a::t,l,h,hs=>by
  rw [List.pairwise_cons] at h
  have hm:=hs a (List.mem_cons_self ..)
  have :=asc_len (l:=l.erase a) h.2 fun x hx=>(List.mem_erase_of_ne (by have :=h.1 x hx;omega)).2 (hs x (List.mem_cons_of_mem _ hx))
  rw [List.length_erase_of_mem hm] at this
  have :=List.length_pos_of_mem hm
  simp only [List.length_cons];omega
theorem not_cov_start {r:Spn.L} (hc:Spn.Chain r) {s:Int×Int} (hs:s∈r):¬Spn.cov r (s.1-1):=by
 rintro ⟨v,hv,v1,v2⟩
 obtain ⟨i,hi,ei⟩:=List.getElem_of_mem hs
 obtain ⟨j,hj,ej⟩:=List.getElem_of_mem hv
 have hp:=List.pairwise_iff_getElem.1 hc.2
 rcases Nat.lt_trichotomy i j with h3|h3|h3
 ·have :=hp i j hi hj h3
  rw [ei,ej] at this
  have :=hc.1 s hs;omega
 ·subst h3;rw [ei] at ej;subst ej;omega
 ·have :=hp j i hj hi h3
  rw [ei,ej] at this;omega
theorem chain_fst {r:Spn.L} (hc:Spn.Chain r):(r.map (·.1)).Pairwise (· < ·):=by
 rw [List.pairwise_map]
 refine hc.2.imp_of_mem fun {a b} ha hb hab=> ?_
 have :=hc.1 a ha;omega
theorem chain_len {r l:Spn.L} (hc:Spn.Chain r) (h: ∀x,Spn.cov r x↔Spn.cov l x):r.length≤l.length:=by
 have :=asc_len (l:=l.map (·.1)) (chain_fst hc) fun x hx=>by
  obtain ⟨s,hs,rfl⟩:=List.mem_map.1 hx
  obtain ⟨u,hu,u1,u2⟩:=(h s.1).1 ⟨s,hs,Int.le_refl _,hc.1 s hs⟩
  rcases Int.lt_or_eq_of_le u1 with h1|h1
  ·exact absurd ((h (s.1-1)).2 ⟨u,hu,by omega,by omega⟩) (not_cov_start hc hs)
  ·exact List.mem_map.2 ⟨u,hu,h1⟩
 simpa using this
theorem comb_few {k:Int} {a b s:Spn.L} (hk:k=2∨k=3) (hva:Spn.vld a=true) (hvb:Spn.vld b=true) (hc:Spn.Comb (Spn.kind k) a b s):s.length≤a.length+2*b.length:=by
 have :=asc_len (l:=a.map (·.1)++(b.map (·.1)++b.map (·.2))) (chain_fst hc.1) fun x hx=>by
  obtain ⟨y,hy,rfl⟩:=List.mem_map.1 hx
  have h1:=(hc.2 y.1).2 ⟨y,hy,Int.le_refl _,hc.1.1 y hy⟩
  have h2:¬Spn.Kept (Spn.kind k) a b (y.1-1):=fun h=>not_cov_start hc.1 hy ((hc.2 _).1 h)
  unfold Spn.Kept at h1 h2
  have ha:=Spn.has_iff a y.1
  have ha':=Spn.has_iff a (y.1-1)
  have hb:=Spn.has_iff b y.1
  have hb':=Spn.has_iff b (y.1-1)
  have key:Spn.has a y.1=true∧(Spn.has a (y.1-1)=false∨(Spn.has b y.1=true∧Spn.has b (y.1-1)=false)∨(Spn.has b y.1=false∧Spn.has b (y.1-1)=true)):=by
   rcases hk with rfl|rfl<;>unfold Spn.kind at h1 h2<;>cases e1:Spn.has a y.1<;>cases e2:Spn.has b y.1<;>cases e3:Spn.has a (y.1-1)<;>cases e4:Spn.has b (y.1-1)<;>simp_all
  obtain ⟨k1,k2⟩:=key
  rcases k2 with k2|⟨k2,k3⟩|⟨k2,k3⟩
  ·obtain ⟨u,hu,u1,u2⟩:=(ha.1 k1).2
   refine List.mem_append_left _ (List.mem_map.2 ⟨u,hu, ?_⟩)
   rcases Int.lt_or_eq_of_le u1 with h|h
   ·rw [ha'.2 ⟨hva,u,hu,by omega,by omega⟩] at k2;cases k2
   ·exact h
  ·obtain ⟨u,hu,u1,u2⟩:=(hb.1 k2).2
   refine List.mem_append_right _ (List.mem_append_left _ (List.mem_map.2 ⟨u,hu, ?_⟩))
   rcases Int.lt_or_eq_of_le u1 with h|h
   ·rw [hb'.2 ⟨hvb,u,hu,by omega,by omega⟩] at k3;cases k3
   ·exact h
  ·obtain ⟨u,hu,u1,u2⟩:=(hb'.1 k3).2
   refine List.mem_append_right _ (List.mem_append_right _ (List.mem_map.2 ⟨u,hu, ?_⟩))
   rcases Int.lt_or_le y.1 u.2 with h|h
   ·rw [hb.2 ⟨hvb,u,hu,by omega,h⟩] at k2;cases k2
   ·omega
 simp only [List.length_map,List.length_append] at this
 omega
theorem cov_adS {o f t x:Int}: ∀{days:List Int} {s:List (Int×Int)},Spn.cov (adS days o f t s) x↔Spn.cov s x∨(f≤x∧x<t∧(x+o)/86400∈days)
 |[],s=>by simp [adS]
 |d::r,s=>by
  have h4:adS (d::r) o f t s=adS r o f t (if max (d*86400-o) f<min (d*86400-o+86400) t then s++[(max (d*86400-o) f,min (d*86400-o+86400) t)] else s):=rfl
  rw [h4,cov_adS,List.mem_cons]
  have key:Spn.cov (if max (d*86400-o) f<min (d*86400-o+86400) t then s++[(max (d*86400-o) f,min (d*86400-o+86400) t)] else s) x↔Spn.cov s x∨(f≤x∧x<t∧(x+o)/86400=d):=by
   split
   ·rw [Spn.cov_snoc]
    refine or_congr Iff.rfl ⟨fun h=>by simp only at h;omega,fun h=>by simp only;omega⟩
   ·exact ⟨.inl,fun h=>h.elim id fun h=>by omega⟩
  rw [key]
  constructor
  ·rintro ((h|⟨h1,h2,h3⟩)|⟨h1,h2,h3⟩)
   ·exact .inl h
   ·exact .inr ⟨h1,h2,.inl h3⟩
   ·exact .inr ⟨h1,h2,.inr h3⟩
  ·rintro (h|⟨h1,h2,h3|h3⟩)
   ·exact .inl (.inl h)
   ·exact .inl (.inr ⟨h1,h2,h3⟩)
   ·exact .inr ⟨h1,h2,h3⟩
theorem mem_adS {o f t:Int}: ∀{days:List Int} {s:List (Int×Int)}, ∀y∈adS days o f t s,y∈s∨(f≤y.1∧y.2≤t)
 |[],s,y,h=> .inl h
 |d::r,s,y,h=>by
  have h4:adS (d::r) o f t s=adS r o f t (if max (d*86400-o) f<min (d*86400-o+86400) t then s++[(max (d*86400-o) f,min (d*86400-o+86400) t)] else s):=rfl
  rw [h4] at h
  rcases mem_adS y h with h|h
  ·split at h
   ·rcases List.mem_append.1 h with h|h
    ·exact .inl h
    ·simp only [List.mem_singleton] at h
     subst h
     exact .inr ⟨by simp only;omega,by simp only;omega⟩
   ·exact .inl h
  ·exact .inr h
def dtS (days:List Int):Int→Zn.L→Int→List (Int×Int)→List (Int×Int)
 |o,[],f,s=>adS days o f 8589934592 s
 |o,(a,o')::ts,f,s=>dtS days o' ts a (adS days o f a s)
theorem dtS_len (days:List Int): ∀(ts:Zn.L) (o f:Int) (s:List (Int×Int)),(dtS days o ts f s).length≤s.length+days.length*(ts.length+1)
 |[],o,f,s=>by have :=adS_len o f 8589934592 days s;simpa [dtS] using this
 |(a,o')::ts,o,f,s=>by
  have h1:=adS_len o f a days s
  have h2:=dtS_len days ts o' a (adS days o f a s)
  rw [dtS,List.length_cons,Nat.mul_succ];omega
theorem cov_dtS {days:List Int} {x:Int}: ∀{ts:Zn.L} {o f ear:Int} {s:List (Int×Int)},Zn.VT o ear ts→f≤ear→(Spn.cov (dtS days o ts f s) x↔Spn.cov s x∨(f≤x∧x<8589934592∧(x+Zn.offAt o ts x)/86400∈days))
 |[],o,f,ear,s,_,_=>cov_adS
 |(a,o')::ts,o,f,ear,s,h,hf=>by
  obtain ⟨-, -, -,h4,h5,h6⟩:=h
  rw [dtS,cov_dtS h6 (by omega),cov_adS,Zn.offAt]
  by_cases hx:a≤x
  ·rw [if_pos hx]
   constructor
   ·rintro ((h|⟨h1,h2,h3⟩)|⟨h1,h2,h3⟩)
    ·exact .inl h
    ·omega
    ·exact .inr ⟨by omega,h2,h3⟩
   ·rintro (h|⟨h1,h2,h3⟩)
    ·exact .inl (.inl h)
    ·exact .inr ⟨hx,h2,h3⟩
  ·rw [if_neg hx]
   constructor
   ·rintro ((h|⟨h1,h2,h3⟩)|⟨h1,h2,h3⟩)
    ·exact .inl h
    ·exact .inr ⟨h1,by omega,h3⟩
    ·omega
   ·rintro (h|⟨h1,h2,h3⟩)
    ·exact .inl (.inl h)
    ·exact .inl (.inr ⟨h1,by omega,h3⟩)
theorem mem_dtS {days:List Int}: ∀{ts:Zn.L} {o f ear:Int} {s:List (Int×Int)},Zn.VT o ear ts→0≤f→f≤ear→(∀y∈s,0≤y.1∧y.2≤8589934592)→ ∀y∈dtS days o ts f s,0≤y.1∧y.2≤8589934592
 |[],o,f,ear,s,_,h0,_,hs,y,hy=>by
  rcases mem_adS y hy with h|h
  ·exact hs y h
  ·omega
 |(a,o')::ts,o,f,ear,s,h,h0,hf,hs,y,hy=>by
  obtain ⟨-, -, -,h4,h5,h6⟩:=h
  rw [dtS] at hy
  refine mem_dtS h6 (by omega) (by omega) (fun z hz=> ?_) y hy
  rcases mem_adS z hz with h|h
  ·exact hs z h
  ·omega
theorem day_norm {off:Int} {rs:List Zn.Rule} {ts:Zn.L} (hZ:Zn.trans off rs=(ts,0)) {days:List Int} (hsm:days.length*(ts.length+1)≤800) {r:Spn.L} {er:Int} (h:Spn.NR (dtS days off ts 0 []) r er):er=0∧Wk.Up (fun x=>days.contains (Zn.cl off ts x/86400)) r 0 8589934592∧r.length≤800:=by
 have hv:=(Zn.trans_ok hZ).2.2.2.2.2.1
 have hl:=dtS_len days ts off 0 []
 rw [List.length_nil,Nat.zero_add] at hl
 have hb:=mem_dtS (days:=days) (s:=[]) hv (Int.le_refl 0) (Int.le_refl 0) (fun y hy=>(by cases hy))
 rcases h with ⟨a, -⟩|⟨-,⟨y,hy,a⟩, -⟩|⟨-, -,⟨c1,c2⟩,rfl⟩
 ·omega
 ·have :=hb y hy
  obtain ⟨a1,a2⟩:=a
  omega
 ·have hc: ∀x,Spn.cov r x↔0≤x∧x<8589934592∧days.contains (Zn.cl off ts x/86400)=true:=fun x=>by
   rw [c2 x,cov_dtS hv (Int.le_refl 0),List.contains_iff_mem]
   exact ⟨fun h=>h.elim (fun h=>absurd h (Spn.cov_nil x)) id,.inr⟩
  refine ⟨rfl,⟨c1,fun y hy=> ?_,hc⟩,by have :=chain_len c1 c2;omega⟩
  have h1:=c1.1 y hy
  have h2:=(hc y.1).1 ⟨y,hy,Int.le_refl _,h1⟩
  have h3:=(hc (y.2-1)).1 ⟨y,hy,by omega,by omega⟩
  omega
def DayV (K:Int→Bool) (w:World) (e:Ending) (w':World):Prop:= ∃(s:List (Int×Int)) (A:Option Addr) (n c:Nat),e= .returned (.tuple #[.slice A n c,.int .i64 0])∧Wk.Up K s 0 8589934592∧s.length=n∧n≤800∧PairsAt w' A s∧Below w.heap.size w w'
theorem own_ap {w w1 wr:World} {v':Value} {A:Option Addr} {l:List Int} (h:Stp w1 wr (.slice none 0 0) v') (hb:Below w.heap.size w w1) (hA:IntsAt w A l):0<l.length→ ∀ad,A=some ad→v'.ownBlock≠some ad.block:=fun hn ad ea e=>by
 obtain ⟨b,o,ea2,hlt, -⟩:=hA hn
 rw [ea] at ea2;cases ea2
 rcases h.2 _ e with h3|h3
 ·cases h3
 ·have :=hb.size;simp only at h3;omega
set_option maxHeartbeats 8000000 in
theorem dayTimes_is {off:Int} {rs:List Zn.Rule} {ts:Zn.L} (hZ:Zn.trans off rs=(ts,0)) (s:ByteArray) (A:Option Addr) (n c:Nat) (A2:Option Addr) (n2 c2:Nat) {days:List Int} (hsm:days.length*(ts.length+1)≤800) (hd: ∀x∈days,0≤x∧x<98981) (hn:days.length=n2) (hn6:n2≤64) (w:World) (hz:ZIn w A n rs) (ho:I64 off) (hA:IntsAt w A2 days):
  Calls Tryz.prog 50 #[.agg #[.string s,.int .i64 off,.slice A n c],.slice A2 n2 c2] w (DayV (fun x=>days.contains (Zn.cl off ts x/86400)) w):=by
 have C:=Lib.hid (trans_is hZ s A n c _ (hz.alloc (.cells #[.string s,.int .i64 off,.slice A n c] 71)) ho)
 have HN:=Lib.hid (show ∀r er,Spn.NR (dtS days off ts 0 []) r er→_ from fun r er h=>day_norm hZ hsm h)
 obtain ⟨z1,z2,z3,z4,z5,z6,z7,z8⟩:=Zn.trans_ok hZ
 have HOK:=Lib.hid z8
 have HOF:=Lib.hid (Zn.okO_iff.1 z1)
 have HVT:=Lib.hid (show ∀x∈ts,0≤x.1∧x.1≤8589934592 from Zn.vt_bd (Int.le_refl 0) z6)
 have HD:=Lib.hid hd;have HA:=Lib.hid hA;have HL:=Lib.hid hn
 obtain ⟨N,hN⟩: ∃N,ts.length=N:=⟨_,rfl⟩
 have HNN:=Lib.hid hN
 have hN6:N≤640:=by omega
 have ZB:=Lib.hid (BlkAt.new w #[.string s,.int .i64 off,.slice A n c] 71)
 have HB0:=Lib.hid ((Below.refl w.heap.size w).alloc (Nat.le_refl _) (.cells #[.string s,.int .i64 off,.slice A n c] 71))
 clear hZ hsm hd hn hz ho hA z1 z2 z3 z4 z5 z6 z7 z8 hN
 go_enter Tryz.func50,Tryz.ntmps50
 go_upto_region 1 with fail
 generalize w.alloc (.cells #[.string s,.int .i64 off,.slice A n c] 71)=W at ZB HB0 C ⊢
 have x0:=ZB.out.cell (i:=0) rfl;have x1:=ZB.out.cell (i:=1) rfl;have x2:=ZB.out.cell (i:=2) rfl
 go_upto_region 3 with (go_at_call 79;refine C.out.mono ?_;rintro e w1 ⟨A1,c1,rfl,hP,hb⟩)
 have HP:=Lib.hid hP
 have ZB1:=Lib.hid (ZB.out.after hb)
 have HB1:=Lib.hid (bstep HB0.out hb)
 clear hP hb x0 x1 x2 ZB C HB0
 rw [HNN.out]
 have x0:=ZB1.out.cell (i:=0) rfl;have x1:=ZB1.out.cell (i:=1) rfl;have x2:=ZB1.out.cell (i:=2) rfl
 go_quiet (fail)
 have HB2:=Lib.hid (below_drewN HB1.out nq);have HP2:=Lib.hid (HP.out.drewN nq)
 generalize w1.drewN nq=w2 at HB2 HP2 ⊢
 clear x0 x1 x2 HP HB1 ZB1
 go_wp2_with fail
 go_loopw [8,9,10,22] (fun v vf vo i wr=> ∃(k:Nat) (f' o':Int) (ps:List (Int×Int)),i= .int .i64 k∧k≤N∧vf= .int .i64 f'∧vo= .int .i64 o'∧(0≤f'∧f'≤8589934592)∧(-64800≤o'∧o'≤64800)∧ps.length≤64*k∧Hid (dtS days o' (ts.drop k) f' ps=dtS days off ts 0 [])∧Hid (OwnL 82 2 ePair wr w.heap.size v ps)∧Hid (Stp w2 wr (.slice none 0 0) v)) (fun _ _ _ i _=>N-(intOf i).toNat)
 case atStart=>exact ⟨0,0,off,[],rfl,Nat.zero_le _,rfl,rfl,by omega,HOF.out,by simp,Lib.hid (by rw [List.drop_zero]),Lib.hid (OwnL.nil_ _ _),Lib.hid (Stp.refl _ _)⟩
 case round=>
  obtain ⟨k,f',o',ps,rfl,hk,rfl,rfl,hf',ho',hps,HE,HO,HS⟩:=hrel
  have HBR:=Lib.hid (stp_bel HS.out HB2.out)
  have hrz:=HBR.out.size
  have HAR:=Lib.hid (HA.out.below HBR.out)
  have HAP:=Lib.hid (own_ap HS.out HB2.out HA.out)
  by_cases hlt:k<N
  ·obtain ⟨⟨a,o2⟩,hx⟩:=get_ex (xs:=ts) (i:=k) (by have :=HNN.out;omega)
   obtain ⟨b,of,rfl,hb,hcc⟩:=(HP2.out.stp (fun _ ad e h=>by cases h) HS.out) (by have :=HNN.out;omega)
   obtain ⟨c0,c1'⟩:=pair_cells (hcc k _ hx)
   simp only at c0 c1'
   have hab:=HVT.out _ (List.mem_of_getElem? hx)
   have hob:=Zn.okO_iff.1 (HOK.out _ (List.mem_of_getElem? hx))
   simp only at hab hob
   have HE2:=Lib.hid (show dtS days o2 (ts.drop (k+1)) a (adS days o' f' a ps)=dtS days off ts 0 [] by have :=HE.out;rw [drop_cons' hx,dtS] at this;exact this)
   have HPB:=Lib.hid (show PairBlk (wr.alloc (.cells #[.int .i64 a,.int .i64 o2] 134)) wr.heap.size (a,o2) 134 from BlkAt.new _ _ _)
   have HNE:=Lib.hid (own_block HO.out (Nat.le_refl _))
   have HLN:=Lib.hid (adS_len o' f' a days ps)
   have CA:=Lib.hid (addDays_is _ ps A2 n2 c2 days o' f' a w.heap.size _ (HO.out.alloc (.cells #[.int .i64 a,.int .i64 o2] 134)) (by omega) (by simp;omega) (HAR.out.alloc _) HAP.out HL.out hn6 HD.out ho' hf' hab)
   clear hcc hx HE
   go_wp2_with (go_at_call 80;refine CA.out.mono ?_;rintro e w3 ⟨v3,rfl,O3,S3⟩)
   have P5:PairBlk w3 wr.heap.size (a,o2) 134:=BlkAt.grown HPB.out S3.1 (fun e=>HNE.out e.symm)
   obtain ⟨d0,d1⟩:=PairBlk.cells P5
   simp only at d0 d1
   have HO3:=Lib.hid O3
   have HS3:=Lib.hid ((HS.out.alloc (.cells #[.int .i64 a,.int .i64 o2] 134)).trans S3)
   clear P5 O3 S3 CA HO HS c0 c1'
   go_quiet (fail)
   go_wp2_with fail
   go_roundw
   case rel=>exact ⟨k+1,a,o2,_,by go_num,by omega,rfl,rfl,hab,hob,by have :=HLN.out;have :=HL.out;omega,HE2,HO3,Lib.hid (HS3.out.drewN _)⟩
   case measure=>simp [intOf];omega
  ·have HE2:=Lib.hid (show adS days o' f' 8589934592 ps=dtS days off ts 0 [] by have :=HE.out;rw [List.drop_of_length_le (by have :=HNN.out;omega),dtS] at this;exact this)
   have HLN:=Lib.hid (adS_len o' f' 8589934592 days ps)
   have CA:=Lib.hid (addDays_is _ ps A2 n2 c2 days o' f' 8589934592 w.heap.size _ HO.out (by omega) hrz HAR.out HAP.out HL.out hn6 HD.out ho' hf' (by omega))
   go_wp2_with (first|(go_at_call 80;refine CA.out.mono ?_;rintro e w3 ⟨v3,rfl,O3,S3⟩;obtain ⟨A3,c3,rfl, -, -,hp3⟩:=O3.shape;have HB3:=Lib.hid (stp_bel (HS.out.trans S3) HB2.out);have CN:=Lib.hid (Spw.Normal_any A3 _ c3 _ w3 (spans_of hp3) rfl (by have :=HLN.out;have :=HL.out;omega));clear O3 S3 hp3 CA)|(go_at_call 81;refine CN.out.mono ?_;rintro e w4 ⟨r,er,hr,A4,c4,rfl,hs4,hb4⟩;have HB4:=Lib.hid (bstep HB3.out hb4);have HR:=Lib.hid (HN.out r er (by have :=hr.out;rw [HE2.out] at this;exact this));have HS4:=Lib.hid hs4;clear hr hb4 hs4 CN))
   go_ret2
   obtain ⟨rfl,hu,hl4⟩:=HR.out
   exact ⟨r,A4,_,c4,rfl,hu,rfl,hl4,pairs_of HS4.out,HB4.out⟩
end Go.Proofs.YtfamcohbnoibaaaGreatDoor
