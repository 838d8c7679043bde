import Derived.Test.YtfamcohbnoibaaaGreatDoorKG08
import Derived.Test.YtfamcohbnoibaaaGreatDoorKG02
import Derived.Deep.RegionHeld3
set_option linter.unusedVariables false
set_option linter.unusedSimpArgs false
set_option maxRecDepth 100000
namespace Go.Proofs.YtfamcohbnoibaaaGreatDoor
open Go.RowKit
theorem ret_int2 {a b:Int} {p q:Bool} (h:a=b) (h2:p=q):Ending.returned (.tuple #[.int .i64 a,.bool p])= .returned (.tuple #[.int .i64 b,.bool q]):=by subst h;subst h2;rfl
theorem ix_cons {x:Rs.Nm} {ns:List Rs.Nm} {k:Nat} {y:Rs.Nm} (h:ns[k]? =some y):Rs.ix x (ns.drop k)=if y=x then 0 else Rs.ix x (ns.drop (k+1))+1:=by rw [drop_cons' h,Rs.ix]
theorem z_elem {lo hi:Nat} {w:World} {v:SV} {l:List Rs.Zone} (h:Nest 3 eZone ZoneOk lo hi w v l) {i:Nat} (hi':i<v.2.1):
  ∃(x:Rs.Zone) (y:SV) (b off:Nat),l[i]? =some x∧v.1=some ⟨b,off,none⟩∧b<w.heap.size∧w.cell? ⟨b,off+i*3,none⟩=some (.string ⟨x.name.toArray⟩)∧w.cell? ⟨b,off+i*3+1,none⟩=some (.int .i64 x.off)∧w.cell? ⟨b,off+i*3+2,none⟩=some (.slice y.1 y.2.1 y.2.2)∧ZoneOk lo hi w x y:=by
 obtain ⟨x,y,b,off,hx,ea,hb,hc,hp⟩:=h.get hi'
 exact ⟨x,y,b,off,hx,ea,hb,hc 0 (by decide),hc 1 (by decide),hc 2 (by decide),hp⟩
theorem z_nm (x:List UInt8) (i1:Int) (A2:Option Addr) (n2 c2:Nat) (w:World):Calls Tryz.prog 151 #[.agg #[.string ⟨x.toArray⟩,.int .i64 i1,.slice A2 n2 c2]] w fun e w'=>e= .returned (.string ⟨x.toArray⟩)∧Below w.heap.size w w':=by
 go_enter Tryz.func151,Tryz.ntmps151
 go_wp2_with fail
 go_ret
 exact ⟨rfl,(Below.refl _ _).alloc (Nat.le_refl _) _⟩
theorem sbz {x:List UInt8} {i1:Int} {A2:Option Addr} {n2 c2:Nat} {s:List UInt8} {b4 b5 g:Nat} {W wc:World} (h:wc.cell? ⟨b4,0,none⟩=some (.func (.func g) #[] #[])∧wc.cell? ⟨b5,0,none⟩=some (.string ⟨s.toArray⟩)∧wc.cell? ⟨W.heap.size,0,none⟩=some (.string ⟨x.toArray⟩)∧wc.cell? ⟨W.heap.size,1,none⟩=some (.int .i64 i1)∧wc.cell? ⟨W.heap.size,2,none⟩=some (.slice A2 n2 c2)∧Below W.heap.size W wc):Below W.heap.size W wc:=h.2.2.2.2.2
theorem keepz {x:List UInt8} {i1:Int} {A2:Option Addr} {n2 c2:Nat} {s:List UInt8} {b4 b5 g:Nat} {W wc w':World} (h:wc.cell? ⟨b4,0,none⟩=some (.func (.func g) #[] #[])∧wc.cell? ⟨b5,0,none⟩=some (.string ⟨s.toArray⟩)∧wc.cell? ⟨W.heap.size,0,none⟩=some (.string ⟨x.toArray⟩)∧wc.cell? ⟨W.heap.size,1,none⟩=some (.int .i64 i1)∧wc.cell? ⟨W.heap.size,2,none⟩=some (.slice A2 n2 c2)∧Below W.heap.size W wc) (hb:Below wc.heap.size wc w'):w'.cell? ⟨b4,0,none⟩=some (.func (.func g) #[] #[])∧w'.cell? ⟨b5,0,none⟩=some (.string ⟨s.toArray⟩)∧w'.cell? ⟨W.heap.size,0,none⟩=some (.string ⟨x.toArray⟩)∧w'.cell? ⟨W.heap.size,1,none⟩=some (.int .i64 i1)∧w'.cell? ⟨W.heap.size,2,none⟩=some (.slice A2 n2 c2)∧Below W.heap.size W w':=⟨cell_lift h.1 hb,cell_lift h.2.1 hb,cell_lift h.2.2.1 hb,cell_lift h.2.2.2.1 hb,cell_lift h.2.2.2.2.1 hb,bstep h.2.2.2.2.2 hb⟩
set_option maxHeartbeats 4000000 in
theorem z_eq (x:List UInt8) (i1:Int) (A2:Option Addr) (n2 c2:Nat) (s:List UInt8) (R:Bool) (hR:(x==s)=R) (b4 b5:Nat) (W:World) (h4:W.cell? ⟨b4,0,none⟩=some (.func (.func 151) #[] #[])) (h5:W.cell? ⟨b5,0,none⟩=some (.string ⟨s.toArray⟩)):
  Calls Tryz.prog 233 #[.agg #[.string ⟨x.toArray⟩,.int .i64 i1,.slice A2 n2 c2],.pointer (some ⟨b4,0,none⟩),.pointer (some ⟨b5,0,none⟩)] W fun e w'=>e= .returned (.bool R)∧Below W.heap.size W w':=by
 have B0:=(Below.refl _ W).alloc (Nat.le_refl _) (.cells #[.string ⟨x.toArray⟩,.int .i64 i1,.slice A2 n2 c2] 71)
 have N0:=BlkAt.new W #[.string ⟨x.toArray⟩,.int .i64 i1,.slice A2 n2 c2] 71
 have S1:((W.alloc (.cells #[.string ⟨x.toArray⟩,.int .i64 i1,.slice A2 n2 c2] 71)).cell? ⟨b4,0,none⟩=some (.func (.func 151) #[] #[])∧(W.alloc (.cells #[.string ⟨x.toArray⟩,.int .i64 i1,.slice A2 n2 c2] 71)).cell? ⟨b5,0,none⟩=some (.string ⟨s.toArray⟩)∧(W.alloc (.cells #[.string ⟨x.toArray⟩,.int .i64 i1,.slice A2 n2 c2] 71)).cell? ⟨W.heap.size,0,none⟩=some (.string ⟨x.toArray⟩)∧(W.alloc (.cells #[.string ⟨x.toArray⟩,.int .i64 i1,.slice A2 n2 c2] 71)).cell? ⟨W.heap.size,1,none⟩=some (.int .i64 i1)∧(W.alloc (.cells #[.string ⟨x.toArray⟩,.int .i64 i1,.slice A2 n2 c2] 71)).cell? ⟨W.heap.size,2,none⟩=some (.slice A2 n2 c2)∧Below W.heap.size W (W.alloc (.cells #[.string ⟨x.toArray⟩,.int .i64 i1,.slice A2 n2 c2] 71))):=⟨cell_lift h4 B0,cell_lift h5 B0,N0.cell rfl,N0.cell rfl,N0.cell rfl,B0⟩
 have HN:=Lib.hid (fun w=>z_nm x i1 A2 n2 c2 w)
 clear B0 N0 h4 h5
 go_enter Tryz.func233,Tryz.ntmps233
 go_wp2_with fail
 generalize W.alloc (.cells #[.string ⟨x.toArray⟩,.int .i64 i1,.slice A2 n2 c2] 71)=W1 at S1 ⊢
 go_region_held3 (fun w'=>w'.cell? ⟨b4,0,none⟩=some (.func (.func 151) #[] #[])∧w'.cell? ⟨b5,0,none⟩=some (.string ⟨s.toArray⟩)∧w'.cell? ⟨W.heap.size,0,none⟩=some (.string ⟨x.toArray⟩)∧w'.cell? ⟨W.heap.size,1,none⟩=some (.int .i64 i1)∧w'.cell? ⟨W.heap.size,2,none⟩=some (.slice A2 n2 c2)∧Below W.heap.size W w')
  (first|(exact keepz S1 (Below.refl _ _).drew)|(exact keepz (by assumption) hb))
  (first|(go_at_call 151;((with_reducible refine (HN.out _).mono ?_);rintro e w' ⟨rfl,hb⟩)))
 go_wp2_with fail
 go_ret
 exact ⟨rfl,sbz (by assumption)⟩
set_option maxHeartbeats 4000000 in
theorem z_ix (A:Option Addr) (n c b4 b5:Nat) (l:List Rs.Zone) (s:List UInt8) (R:Nat) (Z:Int) (hZ:(if R<n then (R:Int) else -1)=Z) (w:World) (hA:Nest 3 eZone ZoneOk 0 w.heap.size w (A,n,c) l) (hR:Rs.ix s (l.map (·.name))=R) (h4:w.cell? ⟨b4,0,none⟩=some (.func (.func 151) #[] #[])) (h5:w.cell? ⟨b5,0,none⟩=some (.string ⟨s.toArray⟩)):
  Calls Tryz.prog 232 #[.slice A n c,.func (.func 233) #[] #[.pointer (some ⟨b4,0,none⟩),.pointer (some ⟨b5,0,none⟩)]] w fun e w'=>e= .returned (.int .i64 Z)∧Below w.heap.size w w':=by
 have HZ:=Lib.hid hZ
 have HA:=Lib.hid hA
 have hlen:=hA.len
 simp only at hlen
 obtain ⟨hl1,hl2,hl3⟩:=hlen
 have HL:=Lib.hid hl1
 have HR0:Hid (Rs.ix s ((l.map (·.name)).drop 0)+0=R):=Lib.hid hR
 have HLE:=Lib.hid (show R≤n by rw [←hR, ←hl1];have :=Rs.ix_le s (l.map (·.name));rwa [List.length_map] at this)
 have H4:=Lib.hid h4
 have H5:=Lib.hid h5
 clear hA hR h4 h5 hl1 hl2 hZ
 go_enter Tryz.func232,Tryz.ntmps232
 go_wp2_with fail
 go_loopw [8] (fun i wr=> ∃(k:Nat),k≤n∧i= .int .i64 k∧Hid (Rs.ix s ((l.map (·.name)).drop k)+k=R)∧Hid (Below w.heap.size w wr)) (fun i _=>n-(intOf i).toNat)
 case atStart=>exact ⟨0,Nat.zero_le _,rfl,HR0,Lib.hid (Below.refl _ _)⟩
 case round=>
  clear HR0
  obtain ⟨k,hk,rfl,HR,HB⟩:=hrel
  by_cases hlt:k<n
  ·obtain ⟨x,y,b,off,hx,ea,hb,d0,d1,d2, -⟩:=z_elem (HA.out.kept (fun _ _=>ZoneOk.kept (.of_below HB.out (Nat.le_refl _))) (.of_below HB.out (Nat.le_refl _))) (i:=k) hlt
   simp only at ea
   subst ea
   have hnx:(l.map (·.name))[k]? =some x.name:=by rw [List.getElem?_map,hx];rfl
   have hst:=HR.out
   rw [ix_cons hnx] at hst
   clear hnx hx HR
   generalize x.name=xn at hst d0
   generalize x.off=i1 at d1
   generalize y.1=A2 at d2;generalize y.2.1=n2 at d2;generalize y.2.2=c2 at d2
   have HC4:=cell_lift H4.out HB.out
   have HC5:=cell_lift H5.out HB.out
   by_cases he:xn=s
   ·have N:=Lib.hid (show Z=(k:Int) by rw [if_pos he] at hst;rw [←HZ.out,if_pos (by omega)];omega)
    have C:=Lib.hid (z_eq xn i1 A2 n2 c2 s true (by simpa using he) b4 b5 wr HC4 HC5)
    clear he hst HC4 HC5 HLE
    go_wp2_with fail
    refine C.out.mono ?_
    rintro e w1 ⟨rfl,b1⟩
    have B1:=bstep HB.out b1
    go_wp2_with fail
    go_ret
    exact ⟨ret_int N.out.symm,B1⟩
   ·have N:=Lib.hid (show Rs.ix s ((l.map (·.name)).drop (k+1))+(k+1)=R by rw [if_neg he] at hst;omega)
    have C:=Lib.hid (z_eq xn i1 A2 n2 c2 s false (by simpa using he) b4 b5 wr HC4 HC5)
    clear he hst HC4 HC5
    go_wp2_with fail
    refine C.out.mono ?_
    rintro e w1 ⟨rfl,b1⟩
    have B1:=Lib.hid (bstep HB.out b1)
    clear b1
    go_wp2_with fail
    go_roundw
    case rel=>exact ⟨k+1,by omega,by go_num,N,B1⟩
    case measure=>simp [intOf];omega
  ·have N:=Lib.hid (show Z= -1 by have h:=HR.out;rw [List.drop_of_length_le (by rw [List.length_map,HL.out];omega)] at h;simp only [Rs.ix] at h;rw [←HZ.out,if_neg (by omega)])
   go_wp2_with fail
   go_ret
   exact ⟨ret_int N.out.symm,HB.out⟩
set_option maxHeartbeats 4000000 in
theorem z_find {l:List Rs.Zone} {s:List UInt8} {p:Int×Bool} (hp:Rs.findS (l.map (·.name)) s=p) (A:Option Addr) (n c:Nat) (w:World) (hA:Nest 3 eZone ZoneOk 0 w.heap.size w (A,n,c) l):
  Calls Tryz.prog 194 #[.slice A n c,.func (.func 151) #[] #[],.string ⟨s.toArray⟩] w fun e w'=>e= .returned (.tuple #[.int .i64 p.1,.bool p.2])∧Below w.heap.size w w':=by
 obtain ⟨R,hR⟩: ∃R,Rs.ix s (l.map (·.name))=R:=⟨_,rfl⟩
 have hlen:=hA.len
 simp only at hlen
 have hle:R≤n:=by rw [←hR, ←hlen.1];have :=Rs.ix_le s (l.map (·.name));rwa [List.length_map] at this
 have HP:Hid (p=if R<n then ((R:Int),true) else (0,false)):=Lib.hid (by rw [←hp];unfold Rs.findS;rw [hR,List.length_map,hlen.1])
 have B1:=(Below.refl _ w).alloc (Nat.le_refl _) (.cells #[.func (.func 151) #[] #[]] 180)
 have B2:=B1.alloc B1.size (.cells #[.string ⟨s.toArray⟩] 9)
 have N4:=BlkAt.alloc (BlkAt.new w #[.func (.func 151) #[] #[]] 180) (.cells #[.string ⟨s.toArray⟩] 9)
 have N5:=BlkAt.new (w.alloc (.cells #[.func (.func 151) #[] #[]] 180)) #[.string ⟨s.toArray⟩] 9
 rw [show (w.alloc (.cells #[.func (.func 151) #[] #[]] 180)).heap.size=w.heap.size+1 by simp] at N5
 have HA2:=(hA.kept (fun _ _=>ZoneOk.kept (.of_below B2 (Nat.le_refl _))) (.of_below B2 (Nat.le_refl _))).mono (fun _ _=>ZoneOk.mono (Nat.le_refl _) B2.size) (Nat.le_refl _) B2.size
 by_cases hlt:R<n
 ·have HQ:=Lib.hid (show p.1=(R:Int)∧p.2=true by rw [HP.out,if_pos hlt];exact ⟨rfl,rfl⟩)
  have C:=Lib.hid (z_ix A n c w.heap.size (w.heap.size+1) l s R _ (if_pos hlt) _ HA2 hR (N4.cell rfl) (N5.cell rfl))
  have HB:=Lib.hid B2
  have tst:decide ((R:Int)<0)=false:=by simp
  clear hp hA hR hlen N4 N5 HA2 B1 B2 HP hlt hle
  go_enter Tryz.func194,Tryz.ntmps194
  go_wp2_with fail
  refine C.out.mono ?_
  rintro e w1 ⟨rfl,b1⟩
  have B3:=bstep HB.out b1
  go_wp2_with fail
  go_ret2
  exact ⟨ret_int2 HQ.out.1.symm HQ.out.2.symm,B3⟩
 ·have HQ:=Lib.hid (show p.1=0∧p.2=false by rw [HP.out,if_neg hlt];exact ⟨rfl,rfl⟩)
  have C:=Lib.hid (z_ix A n c w.heap.size (w.heap.size+1) l s R _ (if_neg hlt) _ HA2 hR (N4.cell rfl) (N5.cell rfl))
  have HB:=Lib.hid B2
  have tst:decide ((-1:Int)<0)=true:=by simp
  clear hp hA hR hlen N4 N5 HA2 B1 B2 HP hlt hle
  go_enter Tryz.func194,Tryz.ntmps194
  go_wp2_with fail
  refine C.out.mono ?_
  rintro e w1 ⟨rfl,b1⟩
  have B3:=bstep HB.out b1
  go_wp2_with fail
  go_ret2
  exact ⟨ret_int2 HQ.out.1.symm HQ.out.2.symm,B3⟩
theorem p_elem {lo hi:Nat} {w:World} {v:SV} {l:List Rs.Pers} (h:Nest 6 ePers PersOk lo hi w v l) {i:Nat} (hi':i<v.2.1):
  ∃(x:Rs.Pers) (y:SV) (b off:Nat),l[i]? =some x∧v.1=some ⟨b,off,none⟩∧b<w.heap.size∧w.cell? ⟨b,off+i*6,none⟩=some (.string ⟨x.name.toArray⟩)∧w.cell? ⟨b,off+i*6+1,none⟩=some (.int .i64 x.zone)∧w.cell? ⟨b,off+i*6+2,none⟩=some (.slice y.1 y.2.1 y.2.2)∧w.cell? ⟨b,off+i*6+3,none⟩=some (.int .i64 x.maxw)∧w.cell? ⟨b,off+i*6+4,none⟩=some (.int .i64 x.minr)∧w.cell? ⟨b,off+i*6+5,none⟩=some (.bool x.cons)∧PersOk lo hi w x y:=by
 obtain ⟨x,y,b,off,hx,ea,hb,hc,hp⟩:=h.get hi'
 exact ⟨x,y,b,off,hx,ea,hb,hc 0 (by decide),hc 1 (by decide),hc 2 (by decide),hc 3 (by decide),hc 4 (by decide),hc 5 (by decide),hp⟩
theorem p_nm (x:List UInt8) (i1:Int) (A2:Option Addr) (n2 c2:Nat) (i3:Int) (i4:Int) (q5:Bool) (w:World):Calls Tryz.prog 154 #[.agg #[.string ⟨x.toArray⟩,.int .i64 i1,.slice A2 n2 c2,.int .i64 i3,.int .i64 i4,.bool q5]] w fun e w'=>e= .returned (.string ⟨x.toArray⟩)∧Below w.heap.size w w':=by
 go_enter Tryz.func154,Tryz.ntmps154
 go_wp2_with fail
 go_ret
 exact ⟨rfl,(Below.refl _ _).alloc (Nat.le_refl _) _⟩
theorem sbp {x:List UInt8} {i1:Int} {A2:Option Addr} {n2 c2:Nat} {i3:Int} {i4:Int} {q5:Bool} {s:List UInt8} {b4 b5 g:Nat} {W wc:World} (h:wc.cell? ⟨b4,0,none⟩=some (.func (.func g) #[] #[])∧wc.cell? ⟨b5,0,none⟩=some (.string ⟨s.toArray⟩)∧wc.cell? ⟨W.heap.size,0,none⟩=some (.string ⟨x.toArray⟩)∧wc.cell? ⟨W.heap.size,1,none⟩=some (.int .i64 i1)∧wc.cell? ⟨W.heap.size,2,none⟩=some (.slice A2 n2 c2)∧wc.cell? ⟨W.heap.size,3,none⟩=some (.int .i64 i3)∧wc.cell? ⟨W.heap.size,4,none⟩=some (.int .i64 i4)∧wc.cell? ⟨W.heap.size,5,none⟩=some (.bool q5)∧Below W.heap.size W wc):Below W.heap.size W wc:=h.2.2.2.2.2.2.2.2
theorem keepp {x:List UInt8} {i1:Int} {A2:Option Addr} {n2 c2:Nat} {i3:Int} {i4:Int} {q5:Bool} {s:List UInt8} {b4 b5 g:Nat} {W wc w':World} (h:wc.cell? ⟨b4,0,none⟩=some (.func (.func g) #[] #[])∧wc.cell? ⟨b5,0,none⟩=some (.string ⟨s.toArray⟩)∧wc.cell? ⟨W.heap.size,0,none⟩=some (.string ⟨x.toArray⟩)∧wc.cell? ⟨W.heap.size,1,none⟩=some (.int .i64 i1)∧wc.cell? ⟨W.heap.size,2,none⟩=some (.slice A2 n2 c2)∧wc.cell? ⟨W.heap.size,3,none⟩=some (.int .i64 i3)∧wc.cell? ⟨W.heap.size,4,none⟩=some (.int .i64 i4)∧wc.cell? ⟨W.heap.size,5,none⟩=some (.bool q5)∧Below W.heap.size W wc) (hb:Below wc.heap.size wc w'):w'.cell? ⟨b4,0,none⟩=some (.func (.func g) #[] #[])∧w'.cell? ⟨b5,0,none⟩=some (.string ⟨s.toArray⟩)∧w'.cell? ⟨W.heap.size,0,none⟩=some (.string ⟨x.toArray⟩)∧w'.cell? ⟨W.heap.size,1,none⟩=some (.int .i64 i1)∧w'.cell? ⟨W.heap.size,2,none⟩=some (.slice A2 n2 c2)∧w'.cell? ⟨W.heap.size,3,none⟩=some (.int .i64 i3)∧w'.cell? ⟨W.heap.size,4,none⟩=some (.int .i64 i4)∧w'.cell? ⟨W.heap.size,5,none⟩=some (.bool q5)∧Below W.heap.size W w':=⟨cell_lift h.1 hb,cell_lift h.2.1 hb,cell_lift h.2.2.1 hb,cell_lift h.2.2.2.1 hb,cell_lift h.2.2.2.2.1 hb,cell_lift h.2.2.2.2.2.1 hb,cell_lift h.2.2.2.2.2.2.1 hb,cell_lift h.2.2.2.2.2.2.2.1 hb,bstep h.2.2.2.2.2.2.2.2 hb⟩
set_option maxHeartbeats 4000000 in
theorem p_eq (x:List UInt8) (i1:Int) (A2:Option Addr) (n2 c2:Nat) (i3:Int) (i4:Int) (q5:Bool) (s:List UInt8) (R:Bool) (hR:(x==s)=R) (b4 b5:Nat) (W:World) (h4:W.cell? ⟨b4,0,none⟩=some (.func (.func 154) #[] #[])) (h5:W.cell? ⟨b5,0,none⟩=some (.string ⟨s.toArray⟩)):
  Calls Tryz.prog 236 #[.agg #[.string ⟨x.toArray⟩,.int .i64 i1,.slice A2 n2 c2,.int .i64 i3,.int .i64 i4,.bool q5],.pointer (some ⟨b4,0,none⟩),.pointer (some ⟨b5,0,none⟩)] W fun e w'=>e= .returned (.bool R)∧Below W.heap.size W w':=by
 have B0:=(Below.refl _ W).alloc (Nat.le_refl _) (.cells #[.string ⟨x.toArray⟩,.int .i64 i1,.slice A2 n2 c2,.int .i64 i3,.int .i64 i4,.bool q5] 98)
 have N0:=BlkAt.new W #[.string ⟨x.toArray⟩,.int .i64 i1,.slice A2 n2 c2,.int .i64 i3,.int .i64 i4,.bool q5] 98
 have S1:((W.alloc (.cells #[.string ⟨x.toArray⟩,.int .i64 i1,.slice A2 n2 c2,.int .i64 i3,.int .i64 i4,.bool q5] 98)).cell? ⟨b4,0,none⟩=some (.func (.func 154) #[] #[])∧(W.alloc (.cells #[.string ⟨x.toArray⟩,.int .i64 i1,.slice A2 n2 c2,.int .i64 i3,.int .i64 i4,.bool q5] 98)).cell? ⟨b5,0,none⟩=some (.string ⟨s.toArray⟩)∧(W.alloc (.cells #[.string ⟨x.toArray⟩,.int .i64 i1,.slice A2 n2 c2,.int .i64 i3,.int .i64 i4,.bool q5] 98)).cell? ⟨W.heap.size,0,none⟩=some (.string ⟨x.toArray⟩)∧(W.alloc (.cells #[.string ⟨x.toArray⟩,.int .i64 i1,.slice A2 n2 c2,.int .i64 i3,.int .i64 i4,.bool q5] 98)).cell? ⟨W.heap.size,1,none⟩=some (.int .i64 i1)∧(W.alloc (.cells #[.string ⟨x.toArray⟩,.int .i64 i1,.slice A2 n2 c2,.int .i64 i3,.int .i64 i4,.bool q5] 98)).cell? ⟨W.heap.size,2,none⟩=some (.slice A2 n2 c2)∧(W.alloc (.cells #[.string ⟨x.toArray⟩,.int .i64 i1,.slice A2 n2 c2,.int .i64 i3,.int .i64 i4,.bool q5] 98)).cell? ⟨W.heap.size,3,none⟩=some (.int .i64 i3)∧(W.alloc (.cells #[.string ⟨x.toArray⟩,.int .i64 i1,.slice A2 n2 c2,.int .i64 i3,.int .i64 i4,.bool q5] 98)).cell? ⟨W.heap.size,4,none⟩=some (.int .i64 i4)∧(W.alloc (.cells #[.string ⟨x.toArray⟩,.int .i64 i1,.slice A2 n2 c2,.int .i64 i3,.int .i64 i4,.bool q5] 98)).cell? ⟨W.heap.size,5,none⟩=some (.bool q5)∧Below W.heap.size W (W.alloc (.cells #[.string ⟨x.toArray⟩,.int .i64 i1,.slice A2 n2 c2,.int .i64 i3,.int .i64 i4,.bool q5] 98))):=⟨cell_lift h4 B0,cell_lift h5 B0,N0.cell rfl,N0.cell rfl,N0.cell rfl,N0.cell rfl,N0.cell rfl,N0.cell rfl,B0⟩
 have HN:=Lib.hid (fun w=>p_nm x i1 A2 n2 c2 i3 i4 q5 w)
 clear B0 N0 h4 h5
 go_enter Tryz.func236,Tryz.ntmps236
 go_wp2_with fail
 generalize W.alloc (.cells #[.string ⟨x.toArray⟩,.int .i64 i1,.slice A2 n2 c2,.int .i64 i3,.int .i64 i4,.bool q5] 98)=W1 at S1 ⊢
 go_region_held3 (fun w'=>w'.cell? ⟨b4,0,none⟩=some (.func (.func 154) #[] #[])∧w'.cell? ⟨b5,0,none⟩=some (.string ⟨s.toArray⟩)∧w'.cell? ⟨W.heap.size,0,none⟩=some (.string ⟨x.toArray⟩)∧w'.cell? ⟨W.heap.size,1,none⟩=some (.int .i64 i1)∧w'.cell? ⟨W.heap.size,2,none⟩=some (.slice A2 n2 c2)∧w'.cell? ⟨W.heap.size,3,none⟩=some (.int .i64 i3)∧w'.cell? ⟨W.heap.size,4,none⟩=some (.int .i64 i4)∧w'.cell? ⟨W.heap.size,5,none⟩=some (.bool q5)∧Below W.heap.size W w')
  (first|(exact keepp S1 (Below.refl _ _).drew)|(exact keepp (by assumption) hb))
  (first|(go_at_call 154;((with_reducible refine (HN.out _).mono ?_);rintro e w' ⟨rfl,hb⟩)))
 go_wp2_with fail
 go_ret
 exact ⟨rfl,sbp (by assumption)⟩
set_option maxHeartbeats 4000000 in
theorem p_ix (A:Option Addr) (n c b4 b5:Nat) (l:List Rs.Pers) (s:List UInt8) (R:Nat) (Z:Int) (hZ:(if R<n then (R:Int) else -1)=Z) (w:World) (hA:Nest 6 ePers PersOk 0 w.heap.size w (A,n,c) l) (hR:Rs.ix s (l.map (·.name))=R) (h4:w.cell? ⟨b4,0,none⟩=some (.func (.func 154) #[] #[])) (h5:w.cell? ⟨b5,0,none⟩=some (.string ⟨s.toArray⟩)):
  Calls Tryz.prog 235 #[.slice A n c,.func (.func 236) #[] #[.pointer (some ⟨b4,0,none⟩),.pointer (some ⟨b5,0,none⟩)]] w fun e w'=>e= .returned (.int .i64 Z)∧Below w.heap.size w w':=by
 have HZ:=Lib.hid hZ
 have HA:=Lib.hid hA
 have hlen:=hA.len
 simp only at hlen
 obtain ⟨hl1,hl2,hl3⟩:=hlen
 have HL:=Lib.hid hl1
 have HR0:Hid (Rs.ix s ((l.map (·.name)).drop 0)+0=R):=Lib.hid hR
 have HLE:=Lib.hid (show R≤n by rw [←hR, ←hl1];have :=Rs.ix_le s (l.map (·.name));rwa [List.length_map] at this)
 have H4:=Lib.hid h4
 have H5:=Lib.hid h5
 clear hA hR h4 h5 hl1 hl2 hZ
 go_enter Tryz.func235,Tryz.ntmps235
 go_wp2_with fail
 go_loopw [8] (fun i wr=> ∃(k:Nat),k≤n∧i= .int .i64 k∧Hid (Rs.ix s ((l.map (·.name)).drop k)+k=R)∧Hid (Below w.heap.size w wr)) (fun i _=>n-(intOf i).toNat)
 case atStart=>exact ⟨0,Nat.zero_le _,rfl,HR0,Lib.hid (Below.refl _ _)⟩
 case round=>
  clear HR0
  obtain ⟨k,hk,rfl,HR,HB⟩:=hrel
  by_cases hlt:k<n
  ·obtain ⟨x,y,b,off,hx,ea,hb,d0,d1,d2,d3,d4,d5, -⟩:=p_elem (HA.out.kept (fun _ _=>PersOk.kept (.of_below HB.out (Nat.le_refl _))) (.of_below HB.out (Nat.le_refl _))) (i:=k) hlt
   simp only at ea
   subst ea
   have hnx:(l.map (·.name))[k]? =some x.name:=by rw [List.getElem?_map,hx];rfl
   have hst:=HR.out
   rw [ix_cons hnx] at hst
   clear hnx hx HR
   generalize x.name=xn at hst d0
   generalize x.zone=i1 at d1
   generalize y.1=A2 at d2;generalize y.2.1=n2 at d2;generalize y.2.2=c2 at d2
   generalize x.maxw=i3 at d3
   generalize x.minr=i4 at d4
   generalize x.cons=i5 at d5
   have HC4:=cell_lift H4.out HB.out
   have HC5:=cell_lift H5.out HB.out
   by_cases he:xn=s
   ·have N:=Lib.hid (show Z=(k:Int) by rw [if_pos he] at hst;rw [←HZ.out,if_pos (by omega)];omega)
    have C:=Lib.hid (p_eq xn i1 A2 n2 c2 i3 i4 i5 s true (by simpa using he) b4 b5 wr HC4 HC5)
    clear he hst HC4 HC5 HLE
    go_wp2_with fail
    refine C.out.mono ?_
    rintro e w1 ⟨rfl,b1⟩
    have B1:=bstep HB.out b1
    go_wp2_with fail
    go_ret
    exact ⟨ret_int N.out.symm,B1⟩
   ·have N:=Lib.hid (show Rs.ix s ((l.map (·.name)).drop (k+1))+(k+1)=R by rw [if_neg he] at hst;omega)
    have C:=Lib.hid (p_eq xn i1 A2 n2 c2 i3 i4 i5 s false (by simpa using he) b4 b5 wr HC4 HC5)
    clear he hst HC4 HC5
    go_wp2_with fail
    refine C.out.mono ?_
    rintro e w1 ⟨rfl,b1⟩
    have B1:=Lib.hid (bstep HB.out b1)
    clear b1
    go_wp2_with fail
    go_roundw
    case rel=>exact ⟨k+1,by omega,by go_num,N,B1⟩
    case measure=>simp [intOf];omega
  ·have N:=Lib.hid (show Z= -1 by have h:=HR.out;rw [List.drop_of_length_le (by rw [List.length_map,HL.out];omega)] at h;simp only [Rs.ix] at h;rw [←HZ.out,if_neg (by omega)])
   go_wp2_with fail
   go_ret
   exact ⟨ret_int N.out.symm,HB.out⟩
set_option maxHeartbeats 4000000 in
theorem p_find {l:List Rs.Pers} {s:List UInt8} {p:Int×Bool} (hp:Rs.findS (l.map (·.name)) s=p) (A:Option Addr) (n c:Nat) (w:World) (hA:Nest 6 ePers PersOk 0 w.heap.size w (A,n,c) l):
  Calls Tryz.prog 197 #[.slice A n c,.func (.func 154) #[] #[],.string ⟨s.toArray⟩] w fun e w'=>e= .returned (.tuple #[.int .i64 p.1,.bool p.2])∧Below w.heap.size w w':=by
 obtain ⟨R,hR⟩: ∃R,Rs.ix s (l.map (·.name))=R:=⟨_,rfl⟩
 have hlen:=hA.len
 simp only at hlen
 have hle:R≤n:=by rw [←hR, ←hlen.1];have :=Rs.ix_le s (l.map (·.name));rwa [List.length_map] at this
 have HP:Hid (p=if R<n then ((R:Int),true) else (0,false)):=Lib.hid (by rw [←hp];unfold Rs.findS;rw [hR,List.length_map,hlen.1])
 have B1:=(Below.refl _ w).alloc (Nat.le_refl _) (.cells #[.func (.func 154) #[] #[]] 182)
 have B2:=B1.alloc B1.size (.cells #[.string ⟨s.toArray⟩] 9)
 have N4:=BlkAt.alloc (BlkAt.new w #[.func (.func 154) #[] #[]] 182) (.cells #[.string ⟨s.toArray⟩] 9)
 have N5:=BlkAt.new (w.alloc (.cells #[.func (.func 154) #[] #[]] 182)) #[.string ⟨s.toArray⟩] 9
 rw [show (w.alloc (.cells #[.func (.func 154) #[] #[]] 182)).heap.size=w.heap.size+1 by simp] at N5
 have HA2:=(hA.kept (fun _ _=>PersOk.kept (.of_below B2 (Nat.le_refl _))) (.of_below B2 (Nat.le_refl _))).mono (fun _ _=>PersOk.mono (Nat.le_refl _) B2.size) (Nat.le_refl _) B2.size
 by_cases hlt:R<n
 ·have HQ:=Lib.hid (show p.1=(R:Int)∧p.2=true by rw [HP.out,if_pos hlt];exact ⟨rfl,rfl⟩)
  have C:=Lib.hid (p_ix A n c w.heap.size (w.heap.size+1) l s R _ (if_pos hlt) _ HA2 hR (N4.cell rfl) (N5.cell rfl))
  have HB:=Lib.hid B2
  have tst:decide ((R:Int)<0)=false:=by simp
  clear hp hA hR hlen N4 N5 HA2 B1 B2 HP hlt hle
  go_enter Tryz.func197,Tryz.ntmps197
  go_wp2_with fail
  refine C.out.mono ?_
  rintro e w1 ⟨rfl,b1⟩
  have B3:=bstep HB.out b1
  go_wp2_with fail
  go_ret2
  exact ⟨ret_int2 HQ.out.1.symm HQ.out.2.symm,B3⟩
 ·have HQ:=Lib.hid (show p.1=0∧p.2=false by rw [HP.out,if_neg hlt];exact ⟨rfl,rfl⟩)
  have C:=Lib.hid (p_ix A n c w.heap.size (w.heap.size+1) l s R _ (if_neg hlt) _ HA2 hR (N4.cell rfl) (N5.cell rfl))
  have HB:=Lib.hid B2
  have tst:decide ((-1:Int)<0)=true:=by simp
  clear hp hA hR hlen N4 N5 HA2 B1 B2 HP hlt hle
  go_enter Tryz.func197,Tryz.ntmps197
  go_wp2_with fail
  refine C.out.mono ?_
  rintro e w1 ⟨rfl,b1⟩
  have B3:=bstep HB.out b1
  go_wp2_with fail
  go_ret2
  exact ⟨ret_int2 HQ.out.1.symm HQ.out.2.symm,B3⟩
theorem c_elem {lo hi:Nat} {w:World} {v:SV} {l:List Rs.Cal} (h:Nest 3 eCal CalOk lo hi w v l) {i:Nat} (hi':i<v.2.1):
  ∃(x:Rs.Cal) (y:SV) (b off:Nat),l[i]? =some x∧v.1=some ⟨b,off,none⟩∧b<w.heap.size∧w.cell? ⟨b,off+i*3,none⟩=some (.string ⟨x.name.toArray⟩)∧w.cell? ⟨b,off+i*3+1,none⟩=some (.int .i64 x.zone)∧w.cell? ⟨b,off+i*3+2,none⟩=some (.slice y.1 y.2.1 y.2.2)∧CalOk lo hi w x y:=by
 obtain ⟨x,y,b,off,hx,ea,hb,hc,hp⟩:=h.get hi'
 exact ⟨x,y,b,off,hx,ea,hb,hc 0 (by decide),hc 1 (by decide),hc 2 (by decide),hp⟩
theorem c_nm (x:List UInt8) (i1:Int) (A2:Option Addr) (n2 c2:Nat) (w:World):Calls Tryz.prog 158 #[.agg #[.string ⟨x.toArray⟩,.int .i64 i1,.slice A2 n2 c2]] w fun e w'=>e= .returned (.string ⟨x.toArray⟩)∧Below w.heap.size w w':=by
 go_enter Tryz.func158,Tryz.ntmps158
 go_wp2_with fail
 go_ret
 exact ⟨rfl,(Below.refl _ _).alloc (Nat.le_refl _) _⟩
theorem sbc {x:List UInt8} {i1:Int} {A2:Option Addr} {n2 c2:Nat} {s:List UInt8} {b4 b5 g:Nat} {W wc:World} (h:wc.cell? ⟨b4,0,none⟩=some (.func (.func g) #[] #[])∧wc.cell? ⟨b5,0,none⟩=some (.string ⟨s.toArray⟩)∧wc.cell? ⟨W.heap.size,0,none⟩=some (.string ⟨x.toArray⟩)∧wc.cell? ⟨W.heap.size,1,none⟩=some (.int .i64 i1)∧wc.cell? ⟨W.heap.size,2,none⟩=some (.slice A2 n2 c2)∧Below W.heap.size W wc):Below W.heap.size W wc:=h.2.2.2.2.2
theorem keepc {x:List UInt8} {i1:Int} {A2:Option Addr} {n2 c2:Nat} {s:List UInt8} {b4 b5 g:Nat} {W wc w':World} (h:wc.cell? ⟨b4,0,none⟩=some (.func (.func g) #[] #[])∧wc.cell? ⟨b5,0,none⟩=some (.string ⟨s.toArray⟩)∧wc.cell? ⟨W.heap.size,0,none⟩=some (.string ⟨x.toArray⟩)∧wc.cell? ⟨W.heap.size,1,none⟩=some (.int .i64 i1)∧wc.cell? ⟨W.heap.size,2,none⟩=some (.slice A2 n2 c2)∧Below W.heap.size W wc) (hb:Below wc.heap.size wc w'):w'.cell? ⟨b4,0,none⟩=some (.func (.func g) #[] #[])∧w'.cell? ⟨b5,0,none⟩=some (.string ⟨s.toArray⟩)∧w'.cell? ⟨W.heap.size,0,none⟩=some (.string ⟨x.toArray⟩)∧w'.cell? ⟨W.heap.size,1,none⟩=some (.int .i64 i1)∧w'.cell? ⟨W.heap.size,2,none⟩=some (.slice A2 n2 c2)∧Below W.heap.size W w':=⟨cell_lift h.1 hb,cell_lift h.2.1 hb,cell_lift h.2.2.1 hb,cell_lift h.2.2.2.1 hb,cell_lift h.2.2.2.2.1 hb,bstep h.2.2.2.2.2 hb⟩
set_option maxHeartbeats 4000000 in
theorem c_eq (x:List UInt8) (i1:Int) (A2:Option Addr) (n2 c2:Nat) (s:List UInt8) (R:Bool) (hR:(x==s)=R) (b4 b5:Nat) (W:World) (h4:W.cell? ⟨b4,0,none⟩=some (.func (.func 158) #[] #[])) (h5:W.cell? ⟨b5,0,none⟩=some (.string ⟨s.toArray⟩)):
  Calls Tryz.prog 238 #[.agg #[.string ⟨x.toArray⟩,.int .i64 i1,.slice A2 n2 c2],.pointer (some ⟨b4,0,none⟩),.pointer (some ⟨b5,0,none⟩)] W fun e w'=>e= .returned (.bool R)∧Below W.heap.size W w':=by
 have B0:=(Below.refl _ W).alloc (Nat.le_refl _) (.cells #[.string ⟨x.toArray⟩,.int .i64 i1,.slice A2 n2 c2] 76)
 have N0:=BlkAt.new W #[.string ⟨x.toArray⟩,.int .i64 i1,.slice A2 n2 c2] 76
 have S1:((W.alloc (.cells #[.string ⟨x.toArray⟩,.int .i64 i1,.slice A2 n2 c2] 76)).cell? ⟨b4,0,none⟩=some (.func (.func 158) #[] #[])∧(W.alloc (.cells #[.string ⟨x.toArray⟩,.int .i64 i1,.slice A2 n2 c2] 76)).cell? ⟨b5,0,none⟩=some (.string ⟨s.toArray⟩)∧(W.alloc (.cells #[.string ⟨x.toArray⟩,.int .i64 i1,.slice A2 n2 c2] 76)).cell? ⟨W.heap.size,0,none⟩=some (.string ⟨x.toArray⟩)∧(W.alloc (.cells #[.string ⟨x.toArray⟩,.int .i64 i1,.slice A2 n2 c2] 76)).cell? ⟨W.heap.size,1,none⟩=some (.int .i64 i1)∧(W.alloc (.cells #[.string ⟨x.toArray⟩,.int .i64 i1,.slice A2 n2 c2] 76)).cell? ⟨W.heap.size,2,none⟩=some (.slice A2 n2 c2)∧Below W.heap.size W (W.alloc (.cells #[.string ⟨x.toArray⟩,.int .i64 i1,.slice A2 n2 c2] 76))):=⟨cell_lift h4 B0,cell_lift h5 B0,N0.cell rfl,N0.cell rfl,N0.cell rfl,B0⟩
 have HN:=Lib.hid (fun w=>c_nm x i1 A2 n2 c2 w)
 clear B0 N0 h4 h5
 go_enter Tryz.func238,Tryz.ntmps238
 go_wp2_with fail
 generalize W.alloc (.cells #[.string ⟨x.toArray⟩,.int .i64 i1,.slice A2 n2 c2] 76)=W1 at S1 ⊢
 go_region_held3 (fun w'=>w'.cell? ⟨b4,0,none⟩=some (.func (.func 158) #[] #[])∧w'.cell? ⟨b5,0,none⟩=some (.string ⟨s.toArray⟩)∧w'.cell? ⟨W.heap.size,0,none⟩=some (.string ⟨x.toArray⟩)∧w'.cell? ⟨W.heap.size,1,none⟩=some (.int .i64 i1)∧w'.cell? ⟨W.heap.size,2,none⟩=some (.slice A2 n2 c2)∧Below W.heap.size W w')
  (first|(exact keepc S1 (Below.refl _ _).drew)|(exact keepc (by assumption) hb))
  (first|(go_at_call 158;((with_reducible refine (HN.out _).mono ?_);rintro e w' ⟨rfl,hb⟩)))
 go_wp2_with fail
 go_ret
 exact ⟨rfl,sbc (by assumption)⟩
set_option maxHeartbeats 4000000 in
theorem c_ix (A:Option Addr) (n c b4 b5:Nat) (l:List Rs.Cal) (s:List UInt8) (R:Nat) (Z:Int) (hZ:(if R<n then (R:Int) else -1)=Z) (w:World) (hA:Nest 3 eCal CalOk 0 w.heap.size w (A,n,c) l) (hR:Rs.ix s (l.map (·.name))=R) (h4:w.cell? ⟨b4,0,none⟩=some (.func (.func 158) #[] #[])) (h5:w.cell? ⟨b5,0,none⟩=some (.string ⟨s.toArray⟩)):
  Calls Tryz.prog 237 #[.slice A n c,.func (.func 238) #[] #[.pointer (some ⟨b4,0,none⟩),.pointer (some ⟨b5,0,none⟩)]] w fun e w'=>e= .returned (.int .i64 Z)∧Below w.heap.size w w':=by
 have HZ:=Lib.hid hZ
 have HA:=Lib.hid hA
 have hlen:=hA.len
 simp only at hlen
 obtain ⟨hl1,hl2,hl3⟩:=hlen
 have HL:=Lib.hid hl1
 have HR0:Hid (Rs.ix s ((l.map (·.name)).drop 0)+0=R):=Lib.hid hR
 have HLE:=Lib.hid (show R≤n by rw [←hR, ←hl1];have :=Rs.ix_le s (l.map (·.name));rwa [List.length_map] at this)
 have H4:=Lib.hid h4
 have H5:=Lib.hid h5
 clear hA hR h4 h5 hl1 hl2 hZ
 go_enter Tryz.func237,Tryz.ntmps237
 go_wp2_with fail
 go_loopw [8] (fun i wr=> ∃(k:Nat),k≤n∧i= .int .i64 k∧Hid (Rs.ix s ((l.map (·.name)).drop k)+k=R)∧Hid (Below w.heap.size w wr)) (fun i _=>n-(intOf i).toNat)
 case atStart=>exact ⟨0,Nat.zero_le _,rfl,HR0,Lib.hid (Below.refl _ _)⟩
 case round=>
  clear HR0
  obtain ⟨k,hk,rfl,HR,HB⟩:=hrel
  by_cases hlt:k<n
  ·obtain ⟨x,y,b,off,hx,ea,hb,d0,d1,d2, -⟩:=c_elem (HA.out.kept (fun _ _=>CalOk.kept (.of_below HB.out (Nat.le_refl _))) (.of_below HB.out (Nat.le_refl _))) (i:=k) hlt
   simp only at ea
   subst ea
   have hnx:(l.map (·.name))[k]? =some x.name:=by rw [List.getElem?_map,hx];rfl
   have hst:=HR.out
   rw [ix_cons hnx] at hst
   clear hnx hx HR
   generalize x.name=xn at hst d0
   generalize x.zone=i1 at d1
   generalize y.1=A2 at d2;generalize y.2.1=n2 at d2;generalize y.2.2=c2 at d2
   have HC4:=cell_lift H4.out HB.out
   have HC5:=cell_lift H5.out HB.out
   by_cases he:xn=s
   ·have N:=Lib.hid (show Z=(k:Int) by rw [if_pos he] at hst;rw [←HZ.out,if_pos (by omega)];omega)
    have C:=Lib.hid (c_eq xn i1 A2 n2 c2 s true (by simpa using he) b4 b5 wr HC4 HC5)
    clear he hst HC4 HC5 HLE
    go_wp2_with fail
    refine C.out.mono ?_
    rintro e w1 ⟨rfl,b1⟩
    have B1:=bstep HB.out b1
    go_wp2_with fail
    go_ret
    exact ⟨ret_int N.out.symm,B1⟩
   ·have N:=Lib.hid (show Rs.ix s ((l.map (·.name)).drop (k+1))+(k+1)=R by rw [if_neg he] at hst;omega)
    have C:=Lib.hid (c_eq xn i1 A2 n2 c2 s false (by simpa using he) b4 b5 wr HC4 HC5)
    clear he hst HC4 HC5
    go_wp2_with fail
    refine C.out.mono ?_
    rintro e w1 ⟨rfl,b1⟩
    have B1:=Lib.hid (bstep HB.out b1)
    clear b1
    go_wp2_with fail
    go_roundw
    case rel=>exact ⟨k+1,by omega,by go_num,N,B1⟩
    case measure=>simp [intOf];omega
  ·have N:=Lib.hid (show Z= -1 by have h:=HR.out;rw [List.drop_of_length_le (by rw [List.length_map,HL.out];omega)] at h;simp only [Rs.ix] at h;rw [←HZ.out,if_neg (by omega)])
   go_wp2_with fail
   go_ret
   exact ⟨ret_int N.out.symm,HB.out⟩
set_option maxHeartbeats 4000000 in
theorem c_find {l:List Rs.Cal} {s:List UInt8} {p:Int×Bool} (hp:Rs.findS (l.map (·.name)) s=p) (A:Option Addr) (n c:Nat) (w:World) (hA:Nest 3 eCal CalOk 0 w.heap.size w (A,n,c) l):
  Calls Tryz.prog 198 #[.slice A n c,.func (.func 158) #[] #[],.string ⟨s.toArray⟩] w fun e w'=>e= .returned (.tuple #[.int .i64 p.1,.bool p.2])∧Below w.heap.size w w':=by
 obtain ⟨R,hR⟩: ∃R,Rs.ix s (l.map (·.name))=R:=⟨_,rfl⟩
 have hlen:=hA.len
 simp only at hlen
 have hle:R≤n:=by rw [←hR, ←hlen.1];have :=Rs.ix_le s (l.map (·.name));rwa [List.length_map] at this
 have HP:Hid (p=if R<n then ((R:Int),true) else (0,false)):=Lib.hid (by rw [←hp];unfold Rs.findS;rw [hR,List.length_map,hlen.1])
 have B1:=(Below.refl _ w).alloc (Nat.le_refl _) (.cells #[.func (.func 158) #[] #[]] 185)
 have B2:=B1.alloc B1.size (.cells #[.string ⟨s.toArray⟩] 9)
 have N4:=BlkAt.alloc (BlkAt.new w #[.func (.func 158) #[] #[]] 185) (.cells #[.string ⟨s.toArray⟩] 9)
 have N5:=BlkAt.new (w.alloc (.cells #[.func (.func 158) #[] #[]] 185)) #[.string ⟨s.toArray⟩] 9
 rw [show (w.alloc (.cells #[.func (.func 158) #[] #[]] 185)).heap.size=w.heap.size+1 by simp] at N5
 have HA2:=(hA.kept (fun _ _=>CalOk.kept (.of_below B2 (Nat.le_refl _))) (.of_below B2 (Nat.le_refl _))).mono (fun _ _=>CalOk.mono (Nat.le_refl _) B2.size) (Nat.le_refl _) B2.size
 by_cases hlt:R<n
 ·have HQ:=Lib.hid (show p.1=(R:Int)∧p.2=true by rw [HP.out,if_pos hlt];exact ⟨rfl,rfl⟩)
  have C:=Lib.hid (c_ix A n c w.heap.size (w.heap.size+1) l s R _ (if_pos hlt) _ HA2 hR (N4.cell rfl) (N5.cell rfl))
  have HB:=Lib.hid B2
  have tst:decide ((R:Int)<0)=false:=by simp
  clear hp hA hR hlen N4 N5 HA2 B1 B2 HP hlt hle
  go_enter Tryz.func198,Tryz.ntmps198
  go_wp2_with fail
  refine C.out.mono ?_
  rintro e w1 ⟨rfl,b1⟩
  have B3:=bstep HB.out b1
  go_wp2_with fail
  go_ret2
  exact ⟨ret_int2 HQ.out.1.symm HQ.out.2.symm,B3⟩
 ·have HQ:=Lib.hid (show p.1=0∧p.2=false by rw [HP.out,if_neg hlt];exact ⟨rfl,rfl⟩)
  have C:=Lib.hid (c_ix A n c w.heap.size (w.heap.size+1) l s R _ (if_neg hlt) _ HA2 hR (N4.cell rfl) (N5.cell rfl))
  have HB:=Lib.hid B2
  have tst:decide ((-1:Int)<0)=true:=by simp
  clear hp hA hR hlen N4 N5 HA2 B1 B2 HP hlt hle
  go_enter Tryz.func198,Tryz.ntmps198
  go_wp2_with fail
  refine C.out.mono ?_
  rintro e w1 ⟨rfl,b1⟩
  have B3:=bstep HB.out b1
  go_wp2_with fail
  go_ret2
  exact ⟨ret_int2 HQ.out.1.symm HQ.out.2.symm,B3⟩
theorem s_elem {lo hi:Nat} {w:World} {v:SV} {l:List Rs.Sch} (h:Nest 3 eSch SchOk lo hi w v l) {i:Nat} (hi':i<v.2.1):
  ∃(x:Rs.Sch) (y:SV×SV) (b off:Nat),l[i]? =some x∧v.1=some ⟨b,off,none⟩∧b<w.heap.size∧w.cell? ⟨b,off+i*3,none⟩=some (.string ⟨x.name.toArray⟩)∧w.cell? ⟨b,off+i*3+1,none⟩=some (.slice y.1.1 y.1.2.1 y.1.2.2)∧w.cell? ⟨b,off+i*3+2,none⟩=some (.slice y.2.1 y.2.2.1 y.2.2.2)∧SchOk lo hi w x y:=by
 obtain ⟨x,y,b,off,hx,ea,hb,hc,hp⟩:=h.get hi'
 exact ⟨x,y,b,off,hx,ea,hb,hc 0 (by decide),hc 1 (by decide),hc 2 (by decide),hp⟩
theorem s_nm (x:List UInt8) (A1:Option Addr) (n1 c1:Nat) (A2:Option Addr) (n2 c2:Nat) (w:World):Calls Tryz.prog 163 #[.agg #[.string ⟨x.toArray⟩,.slice A1 n1 c1,.slice A2 n2 c2]] w fun e w'=>e= .returned (.string ⟨x.toArray⟩)∧Below w.heap.size w w':=by
 go_enter Tryz.func163,Tryz.ntmps163
 go_wp2_with fail
 go_ret
 exact ⟨rfl,(Below.refl _ _).alloc (Nat.le_refl _) _⟩
theorem sbs {x:List UInt8} {A1:Option Addr} {n1 c1:Nat} {A2:Option Addr} {n2 c2:Nat} {s:List UInt8} {b4 b5 g:Nat} {W wc:World} (h:wc.cell? ⟨b4,0,none⟩=some (.func (.func g) #[] #[])∧wc.cell? ⟨b5,0,none⟩=some (.string ⟨s.toArray⟩)∧wc.cell? ⟨W.heap.size,0,none⟩=some (.string ⟨x.toArray⟩)∧wc.cell? ⟨W.heap.size,1,none⟩=some (.slice A1 n1 c1)∧wc.cell? ⟨W.heap.size,2,none⟩=some (.slice A2 n2 c2)∧Below W.heap.size W wc):Below W.heap.size W wc:=h.2.2.2.2.2
theorem keeps {x:List UInt8} {A1:Option Addr} {n1 c1:Nat} {A2:Option Addr} {n2 c2:Nat} {s:List UInt8} {b4 b5 g:Nat} {W wc w':World} (h:wc.cell? ⟨b4,0,none⟩=some (.func (.func g) #[] #[])∧wc.cell? ⟨b5,0,none⟩=some (.string ⟨s.toArray⟩)∧wc.cell? ⟨W.heap.size,0,none⟩=some (.string ⟨x.toArray⟩)∧wc.cell? ⟨W.heap.size,1,none⟩=some (.slice A1 n1 c1)∧wc.cell? ⟨W.heap.size,2,none⟩=some (.slice A2 n2 c2)∧Below W.heap.size W wc) (hb:Below wc.heap.size wc w'):w'.cell? ⟨b4,0,none⟩=some (.func (.func g) #[] #[])∧w'.cell? ⟨b5,0,none⟩=some (.string ⟨s.toArray⟩)∧w'.cell? ⟨W.heap.size,0,none⟩=some (.string ⟨x.toArray⟩)∧w'.cell? ⟨W.heap.size,1,none⟩=some (.slice A1 n1 c1)∧w'.cell? ⟨W.heap.size,2,none⟩=some (.slice A2 n2 c2)∧Below W.heap.size W w':=⟨cell_lift h.1 hb,cell_lift h.2.1 hb,cell_lift h.2.2.1 hb,cell_lift h.2.2.2.1 hb,cell_lift h.2.2.2.2.1 hb,bstep h.2.2.2.2.2 hb⟩
set_option maxHeartbeats 4000000 in
theorem s_eq (x:List UInt8) (A1:Option Addr) (n1 c1:Nat) (A2:Option Addr) (n2 c2:Nat) (s:List UInt8) (R:Bool) (hR:(x==s)=R) (b4 b5:Nat) (W:World) (h4:W.cell? ⟨b4,0,none⟩=some (.func (.func 163) #[] #[])) (h5:W.cell? ⟨b5,0,none⟩=some (.string ⟨s.toArray⟩)):
  Calls Tryz.prog 242 #[.agg #[.string ⟨x.toArray⟩,.slice A1 n1 c1,.slice A2 n2 c2],.pointer (some ⟨b4,0,none⟩),.pointer (some ⟨b5,0,none⟩)] W fun e w'=>e= .returned (.bool R)∧Below W.heap.size W w':=by
 have B0:=(Below.refl _ W).alloc (Nat.le_refl _) (.cells #[.string ⟨x.toArray⟩,.slice A1 n1 c1,.slice A2 n2 c2] 90)
 have N0:=BlkAt.new W #[.string ⟨x.toArray⟩,.slice A1 n1 c1,.slice A2 n2 c2] 90
 have S1:((W.alloc (.cells #[.string ⟨x.toArray⟩,.slice A1 n1 c1,.slice A2 n2 c2] 90)).cell? ⟨b4,0,none⟩=some (.func (.func 163) #[] #[])∧(W.alloc (.cells #[.string ⟨x.toArray⟩,.slice A1 n1 c1,.slice A2 n2 c2] 90)).cell? ⟨b5,0,none⟩=some (.string ⟨s.toArray⟩)∧(W.alloc (.cells #[.string ⟨x.toArray⟩,.slice A1 n1 c1,.slice A2 n2 c2] 90)).cell? ⟨W.heap.size,0,none⟩=some (.string ⟨x.toArray⟩)∧(W.alloc (.cells #[.string ⟨x.toArray⟩,.slice A1 n1 c1,.slice A2 n2 c2] 90)).cell? ⟨W.heap.size,1,none⟩=some (.slice A1 n1 c1)∧(W.alloc (.cells #[.string ⟨x.toArray⟩,.slice A1 n1 c1,.slice A2 n2 c2] 90)).cell? ⟨W.heap.size,2,none⟩=some (.slice A2 n2 c2)∧Below W.heap.size W (W.alloc (.cells #[.string ⟨x.toArray⟩,.slice A1 n1 c1,.slice A2 n2 c2] 90))):=⟨cell_lift h4 B0,cell_lift h5 B0,N0.cell rfl,N0.cell rfl,N0.cell rfl,B0⟩
 have HN:=Lib.hid (fun w=>s_nm x A1 n1 c1 A2 n2 c2 w)
 clear B0 N0 h4 h5
 go_enter Tryz.func242,Tryz.ntmps242
 go_wp2_with fail
 generalize W.alloc (.cells #[.string ⟨x.toArray⟩,.slice A1 n1 c1,.slice A2 n2 c2] 90)=W1 at S1 ⊢
 go_region_held3 (fun w'=>w'.cell? ⟨b4,0,none⟩=some (.func (.func 163) #[] #[])∧w'.cell? ⟨b5,0,none⟩=some (.string ⟨s.toArray⟩)∧w'.cell? ⟨W.heap.size,0,none⟩=some (.string ⟨x.toArray⟩)∧w'.cell? ⟨W.heap.size,1,none⟩=some (.slice A1 n1 c1)∧w'.cell? ⟨W.heap.size,2,none⟩=some (.slice A2 n2 c2)∧Below W.heap.size W w')
  (first|(exact keeps S1 (Below.refl _ _).drew)|(exact keeps (by assumption) hb))
  (first|(go_at_call 163;((with_reducible refine (HN.out _).mono ?_);rintro e w' ⟨rfl,hb⟩)))
 go_wp2_with fail
 go_ret
 exact ⟨rfl,sbs (by assumption)⟩
set_option maxHeartbeats 4000000 in
theorem s_ix (A:Option Addr) (n c b4 b5:Nat) (l:List Rs.Sch) (s:List UInt8) (R:Nat) (Z:Int) (hZ:(if R<n then (R:Int) else -1)=Z) (w:World) (hA:Nest 3 eSch SchOk 0 w.heap.size w (A,n,c) l) (hR:Rs.ix s (l.map (·.name))=R) (h4:w.cell? ⟨b4,0,none⟩=some (.func (.func 163) #[] #[])) (h5:w.cell? ⟨b5,0,none⟩=some (.string ⟨s.toArray⟩)):
  Calls Tryz.prog 241 #[.slice A n c,.func (.func 242) #[] #[.pointer (some ⟨b4,0,none⟩),.pointer (some ⟨b5,0,none⟩)]] w fun e w'=>e= .returned (.int .i64 Z)∧Below w.heap.size w w':=by
 have HZ:=Lib.hid hZ
 have HA:=Lib.hid hA
 have hlen:=hA.len
 simp only at hlen
 obtain ⟨hl1,hl2,hl3⟩:=hlen
 have HL:=Lib.hid hl1
 have HR0:Hid (Rs.ix s ((l.map (·.name)).drop 0)+0=R):=Lib.hid hR
 have HLE:=Lib.hid (show R≤n by rw [←hR, ←hl1];have :=Rs.ix_le s (l.map (·.name));rwa [List.length_map] at this)
 have H4:=Lib.hid h4
 have H5:=Lib.hid h5
 clear hA hR h4 h5 hl1 hl2 hZ
 go_enter Tryz.func241,Tryz.ntmps241
 go_wp2_with fail
 go_loopw [8] (fun i wr=> ∃(k:Nat),k≤n∧i= .int .i64 k∧Hid (Rs.ix s ((l.map (·.name)).drop k)+k=R)∧Hid (Below w.heap.size w wr)) (fun i _=>n-(intOf i).toNat)
 case atStart=>exact ⟨0,Nat.zero_le _,rfl,HR0,Lib.hid (Below.refl _ _)⟩
 case round=>
  clear HR0
  obtain ⟨k,hk,rfl,HR,HB⟩:=hrel
  by_cases hlt:k<n
  ·obtain ⟨x,y,b,off,hx,ea,hb,d0,d1,d2, -⟩:=s_elem (HA.out.kept (fun _ _=>SchOk.kept (.of_below HB.out (Nat.le_refl _))) (.of_below HB.out (Nat.le_refl _))) (i:=k) hlt
   simp only at ea
   subst ea
   have hnx:(l.map (·.name))[k]? =some x.name:=by rw [List.getElem?_map,hx];rfl
   have hst:=HR.out
   rw [ix_cons hnx] at hst
   clear hnx hx HR
   generalize x.name=xn at hst d0
   generalize y.1.1=A1 at d1;generalize y.1.2.1=n1 at d1;generalize y.1.2.2=c1 at d1
   generalize y.2.1=A2 at d2;generalize y.2.2.1=n2 at d2;generalize y.2.2.2=c2 at d2
   have HC4:=cell_lift H4.out HB.out
   have HC5:=cell_lift H5.out HB.out
   by_cases he:xn=s
   ·have N:=Lib.hid (show Z=(k:Int) by rw [if_pos he] at hst;rw [←HZ.out,if_pos (by omega)];omega)
    have C:=Lib.hid (s_eq xn A1 n1 c1 A2 n2 c2 s true (by simpa using he) b4 b5 wr HC4 HC5)
    clear he hst HC4 HC5 HLE
    go_wp2_with fail
    refine C.out.mono ?_
    rintro e w1 ⟨rfl,b1⟩
    have B1:=bstep HB.out b1
    go_wp2_with fail
    go_ret
    exact ⟨ret_int N.out.symm,B1⟩
   ·have N:=Lib.hid (show Rs.ix s ((l.map (·.name)).drop (k+1))+(k+1)=R by rw [if_neg he] at hst;omega)
    have C:=Lib.hid (s_eq xn A1 n1 c1 A2 n2 c2 s false (by simpa using he) b4 b5 wr HC4 HC5)
    clear he hst HC4 HC5
    go_wp2_with fail
    refine C.out.mono ?_
    rintro e w1 ⟨rfl,b1⟩
    have B1:=Lib.hid (bstep HB.out b1)
    clear b1
    go_wp2_with fail
    go_roundw
    case rel=>exact ⟨k+1,by omega,by go_num,N,B1⟩
    case measure=>simp [intOf];omega
  ·have N:=Lib.hid (show Z= -1 by have h:=HR.out;rw [List.drop_of_length_le (by rw [List.length_map,HL.out];omega)] at h;simp only [Rs.ix] at h;rw [←HZ.out,if_neg (by omega)])
   go_wp2_with fail
   go_ret
   exact ⟨ret_int N.out.symm,HB.out⟩
set_option maxHeartbeats 4000000 in
theorem s_find {l:List Rs.Sch} {s:List UInt8} {p:Int×Bool} (hp:Rs.findS (l.map (·.name)) s=p) (A:Option Addr) (n c:Nat) (w:World) (hA:Nest 3 eSch SchOk 0 w.heap.size w (A,n,c) l):
  Calls Tryz.prog 201 #[.slice A n c,.func (.func 163) #[] #[],.string ⟨s.toArray⟩] w fun e w'=>e= .returned (.tuple #[.int .i64 p.1,.bool p.2])∧Below w.heap.size w w':=by
 obtain ⟨R,hR⟩: ∃R,Rs.ix s (l.map (·.name))=R:=⟨_,rfl⟩
 have hlen:=hA.len
 simp only at hlen
 have hle:R≤n:=by rw [←hR, ←hlen.1];have :=Rs.ix_le s (l.map (·.name));rwa [List.length_map] at this
 have HP:Hid (p=if R<n then ((R:Int),true) else (0,false)):=Lib.hid (by rw [←hp];unfold Rs.findS;rw [hR,List.length_map,hlen.1])
 have B1:=(Below.refl _ w).alloc (Nat.le_refl _) (.cells #[.func (.func 163) #[] #[]] 188)
 have B2:=B1.alloc B1.size (.cells #[.string ⟨s.toArray⟩] 9)
 have N4:=BlkAt.alloc (BlkAt.new w #[.func (.func 163) #[] #[]] 188) (.cells #[.string ⟨s.toArray⟩] 9)
 have N5:=BlkAt.new (w.alloc (.cells #[.func (.func 163) #[] #[]] 188)) #[.string ⟨s.toArray⟩] 9
 rw [show (w.alloc (.cells #[.func (.func 163) #[] #[]] 188)).heap.size=w.heap.size+1 by simp] at N5
 have HA2:=(hA.kept (fun _ _=>SchOk.kept (.of_below B2 (Nat.le_refl _))) (.of_below B2 (Nat.le_refl _))).mono (fun _ _=>SchOk.mono (Nat.le_refl _) B2.size) (Nat.le_refl _) B2.size
 by_cases hlt:R<n
 ·have HQ:=Lib.hid (show p.1=(R:Int)∧p.2=true by rw [HP.out,if_pos hlt];exact ⟨rfl,rfl⟩)
  have C:=Lib.hid (s_ix A n c w.heap.size (w.heap.size+1) l s R _ (if_pos hlt) _ HA2 hR (N4.cell rfl) (N5.cell rfl))
  have HB:=Lib.hid B2
  have tst:decide ((R:Int)<0)=false:=by simp
  clear hp hA hR hlen N4 N5 HA2 B1 B2 HP hlt hle
  go_enter Tryz.func201,Tryz.ntmps201
  go_wp2_with fail
  refine C.out.mono ?_
  rintro e w1 ⟨rfl,b1⟩
  have B3:=bstep HB.out b1
  go_wp2_with fail
  go_ret2
  exact ⟨ret_int2 HQ.out.1.symm HQ.out.2.symm,B3⟩
 ·have HQ:=Lib.hid (show p.1=0∧p.2=false by rw [HP.out,if_neg hlt];exact ⟨rfl,rfl⟩)
  have C:=Lib.hid (s_ix A n c w.heap.size (w.heap.size+1) l s R _ (if_neg hlt) _ HA2 hR (N4.cell rfl) (N5.cell rfl))
  have HB:=Lib.hid B2
  have tst:decide ((-1:Int)<0)=true:=by simp
  clear hp hA hR hlen N4 N5 HA2 B1 B2 HP hlt hle
  go_enter Tryz.func201,Tryz.ntmps201
  go_wp2_with fail
  refine C.out.mono ?_
  rintro e w1 ⟨rfl,b1⟩
  have B3:=bstep HB.out b1
  go_wp2_with fail
  go_ret2
  exact ⟨ret_int2 HQ.out.1.symm HQ.out.2.symm,B3⟩
theorem l_elem {lo hi:Nat} {w:World} {v:SV} {l:List Rs.Lay} (h:Nest 10 eLay LayOk lo hi w v l) {i:Nat} (hi':i<v.2.1):
  ∃(x:Rs.Lay) (y:SV×SV) (b off:Nat),l[i]? =some x∧v.1=some ⟨b,off,none⟩∧b<w.heap.size∧w.cell? ⟨b,off+i*10,none⟩=some (.string ⟨x.name.toArray⟩)∧w.cell? ⟨b,off+i*10+1,none⟩=some (.int .i64 x.zone)∧w.cell? ⟨b,off+i*10+2,none⟩=some (.int .i64 x.day)∧w.cell? ⟨b,off+i*10+3,none⟩=some (.int .i64 x.sec)∧w.cell? ⟨b,off+i*10+4,none⟩=some (.int .i64 x.unit)∧w.cell? ⟨b,off+i*10+5,none⟩=some (.int .i64 x.every)∧w.cell? ⟨b,off+i*10+6,none⟩=some (.slice y.1.1 y.1.2.1 y.1.2.2)∧w.cell? ⟨b,off+i*10+7,none⟩=some (.slice y.2.1 y.2.2.1 y.2.2.2)∧w.cell? ⟨b,off+i*10+8,none⟩=some (.int .i64 x.cal)∧w.cell? ⟨b,off+i*10+9,none⟩=some (.int .i64 x.mode)∧LayOk lo hi w x y:=by
 obtain ⟨x,y,b,off,hx,ea,hb,hc,hp⟩:=h.get hi'
 exact ⟨x,y,b,off,hx,ea,hb,hc 0 (by decide),hc 1 (by decide),hc 2 (by decide),hc 3 (by decide),hc 4 (by decide),hc 5 (by decide),hc 6 (by decide),hc 7 (by decide),hc 8 (by decide),hc 9 (by decide),hp⟩
theorem l_nm (x:List UInt8) (i1:Int) (i2:Int) (i3:Int) (i4:Int) (i5:Int) (A6:Option Addr) (n6 c6:Nat) (A7:Option Addr) (n7 c7:Nat) (i8:Int) (i9:Int) (w:World):Calls Tryz.prog 203 #[.agg #[.string ⟨x.toArray⟩,.int .i64 i1,.int .i64 i2,.int .i64 i3,.int .i64 i4,.int .i64 i5,.slice A6 n6 c6,.slice A7 n7 c7,.int .i64 i8,.int .i64 i9]] w fun e w'=>e= .returned (.string ⟨x.toArray⟩)∧Below w.heap.size w w':=by
 go_enter Tryz.func203,Tryz.ntmps203
 go_wp2_with fail
 go_ret
 exact ⟨rfl,(Below.refl _ _).alloc (Nat.le_refl _) _⟩
theorem sbl {x:List UInt8} {i1:Int} {i2:Int} {i3:Int} {i4:Int} {i5:Int} {A6:Option Addr} {n6 c6:Nat} {A7:Option Addr} {n7 c7:Nat} {i8:Int} {i9:Int} {s:List UInt8} {b4 b5 g:Nat} {W wc:World} (h:wc.cell? ⟨b4,0,none⟩=some (.func (.func g) #[] #[])∧wc.cell? ⟨b5,0,none⟩=some (.string ⟨s.toArray⟩)∧wc.cell? ⟨W.heap.size,0,none⟩=some (.string ⟨x.toArray⟩)∧wc.cell? ⟨W.heap.size,1,none⟩=some (.int .i64 i1)∧wc.cell? ⟨W.heap.size,2,none⟩=some (.int .i64 i2)∧wc.cell? ⟨W.heap.size,3,none⟩=some (.int .i64 i3)∧wc.cell? ⟨W.heap.size,4,none⟩=some (.int .i64 i4)∧wc.cell? ⟨W.heap.size,5,none⟩=some (.int .i64 i5)∧wc.cell? ⟨W.heap.size,6,none⟩=some (.slice A6 n6 c6)∧wc.cell? ⟨W.heap.size,7,none⟩=some (.slice A7 n7 c7)∧wc.cell? ⟨W.heap.size,8,none⟩=some (.int .i64 i8)∧wc.cell? ⟨W.heap.size,9,none⟩=some (.int .i64 i9)∧Below W.heap.size W wc):Below W.heap.size W wc:=h.2.2.2.2.2.2.2.2.2.2.2.2
theorem keepl {x:List UInt8} {i1:Int} {i2:Int} {i3:Int} {i4:Int} {i5:Int} {A6:Option Addr} {n6 c6:Nat} {A7:Option Addr} {n7 c7:Nat} {i8:Int} {i9:Int} {s:List UInt8} {b4 b5 g:Nat} {W wc w':World} (h:wc.cell? ⟨b4,0,none⟩=some (.func (.func g) #[] #[])∧wc.cell? ⟨b5,0,none⟩=some (.string ⟨s.toArray⟩)∧wc.cell? ⟨W.heap.size,0,none⟩=some (.string ⟨x.toArray⟩)∧wc.cell? ⟨W.heap.size,1,none⟩=some (.int .i64 i1)∧wc.cell? ⟨W.heap.size,2,none⟩=some (.int .i64 i2)∧wc.cell? ⟨W.heap.size,3,none⟩=some (.int .i64 i3)∧wc.cell? ⟨W.heap.size,4,none⟩=some (.int .i64 i4)∧wc.cell? ⟨W.heap.size,5,none⟩=some (.int .i64 i5)∧wc.cell? ⟨W.heap.size,6,none⟩=some (.slice A6 n6 c6)∧wc.cell? ⟨W.heap.size,7,none⟩=some (.slice A7 n7 c7)∧wc.cell? ⟨W.heap.size,8,none⟩=some (.int .i64 i8)∧wc.cell? ⟨W.heap.size,9,none⟩=some (.int .i64 i9)∧Below W.heap.size W wc) (hb:Below wc.heap.size wc w'):w'.cell? ⟨b4,0,none⟩=some (.func (.func g) #[] #[])∧w'.cell? ⟨b5,0,none⟩=some (.string ⟨s.toArray⟩)∧w'.cell? ⟨W.heap.size,0,none⟩=some (.string ⟨x.toArray⟩)∧w'.cell? ⟨W.heap.size,1,none⟩=some (.int .i64 i1)∧w'.cell? ⟨W.heap.size,2,none⟩=some (.int .i64 i2)∧w'.cell? ⟨W.heap.size,3,none⟩=some (.int .i64 i3)∧w'.cell? ⟨W.heap.size,4,none⟩=some (.int .i64 i4)∧w'.cell? ⟨W.heap.size,5,none⟩=some (.int .i64 i5)∧w'.cell? ⟨W.heap.size,6,none⟩=some (.slice A6 n6 c6)∧w'.cell? ⟨W.heap.size,7,none⟩=some (.slice A7 n7 c7)∧w'.cell? ⟨W.heap.size,8,none⟩=some (.int .i64 i8)∧w'.cell? ⟨W.heap.size,9,none⟩=some (.int .i64 i9)∧Below W.heap.size W w':=⟨cell_lift h.1 hb,cell_lift h.2.1 hb,cell_lift h.2.2.1 hb,cell_lift h.2.2.2.1 hb,cell_lift h.2.2.2.2.1 hb,cell_lift h.2.2.2.2.2.1 hb,cell_lift h.2.2.2.2.2.2.1 hb,cell_lift h.2.2.2.2.2.2.2.1 hb,cell_lift h.2.2.2.2.2.2.2.2.1 hb,cell_lift h.2.2.2.2.2.2.2.2.2.1 hb,cell_lift h.2.2.2.2.2.2.2.2.2.2.1 hb,cell_lift h.2.2.2.2.2.2.2.2.2.2.2.1 hb,bstep h.2.2.2.2.2.2.2.2.2.2.2.2 hb⟩
set_option maxHeartbeats 4000000 in
theorem l_eq (x:List UInt8) (i1:Int) (i2:Int) (i3:Int) (i4:Int) (i5:Int) (A6:Option Addr) (n6 c6:Nat) (A7:Option Addr) (n7 c7:Nat) (i8:Int) (i9:Int) (s:List UInt8) (R:Bool) (hR:(x==s)=R) (b4 b5:Nat) (W:World) (h4:W.cell? ⟨b4,0,none⟩=some (.func (.func 203) #[] #[])) (h5:W.cell? ⟨b5,0,none⟩=some (.string ⟨s.toArray⟩)):
  Calls Tryz.prog 258 #[.agg #[.string ⟨x.toArray⟩,.int .i64 i1,.int .i64 i2,.int .i64 i3,.int .i64 i4,.int .i64 i5,.slice A6 n6 c6,.slice A7 n7 c7,.int .i64 i8,.int .i64 i9],.pointer (some ⟨b4,0,none⟩),.pointer (some ⟨b5,0,none⟩)] W fun e w'=>e= .returned (.bool R)∧Below W.heap.size W w':=by
 have B0:=(Below.refl _ W).alloc (Nat.le_refl _) (.cells #[.string ⟨x.toArray⟩,.int .i64 i1,.int .i64 i2,.int .i64 i3,.int .i64 i4,.int .i64 i5,.slice A6 n6 c6,.slice A7 n7 c7,.int .i64 i8,.int .i64 i9] 39)
 have N0:=BlkAt.new W #[.string ⟨x.toArray⟩,.int .i64 i1,.int .i64 i2,.int .i64 i3,.int .i64 i4,.int .i64 i5,.slice A6 n6 c6,.slice A7 n7 c7,.int .i64 i8,.int .i64 i9] 39
 have S1:((W.alloc (.cells #[.string ⟨x.toArray⟩,.int .i64 i1,.int .i64 i2,.int .i64 i3,.int .i64 i4,.int .i64 i5,.slice A6 n6 c6,.slice A7 n7 c7,.int .i64 i8,.int .i64 i9] 39)).cell? ⟨b4,0,none⟩=some (.func (.func 203) #[] #[])∧(W.alloc (.cells #[.string ⟨x.toArray⟩,.int .i64 i1,.int .i64 i2,.int .i64 i3,.int .i64 i4,.int .i64 i5,.slice A6 n6 c6,.slice A7 n7 c7,.int .i64 i8,.int .i64 i9] 39)).cell? ⟨b5,0,none⟩=some (.string ⟨s.toArray⟩)∧(W.alloc (.cells #[.string ⟨x.toArray⟩,.int .i64 i1,.int .i64 i2,.int .i64 i3,.int .i64 i4,.int .i64 i5,.slice A6 n6 c6,.slice A7 n7 c7,.int .i64 i8,.int .i64 i9] 39)).cell? ⟨W.heap.size,0,none⟩=some (.string ⟨x.toArray⟩)∧(W.alloc (.cells #[.string ⟨x.toArray⟩,.int .i64 i1,.int .i64 i2,.int .i64 i3,.int .i64 i4,.int .i64 i5,.slice A6 n6 c6,.slice A7 n7 c7,.int .i64 i8,.int .i64 i9] 39)).cell? ⟨W.heap.size,1,none⟩=some (.int .i64 i1)∧(W.alloc (.cells #[.string ⟨x.toArray⟩,.int .i64 i1,.int .i64 i2,.int .i64 i3,.int .i64 i4,.int .i64 i5,.slice A6 n6 c6,.slice A7 n7 c7,.int .i64 i8,.int .i64 i9] 39)).cell? ⟨W.heap.size,2,none⟩=some (.int .i64 i2)∧(W.alloc (.cells #[.string ⟨x.toArray⟩,.int .i64 i1,.int .i64 i2,.int .i64 i3,.int .i64 i4,.int .i64 i5,.slice A6 n6 c6,.slice A7 n7 c7,.int .i64 i8,.int .i64 i9] 39)).cell? ⟨W.heap.size,3,none⟩=some (.int .i64 i3)∧(W.alloc (.cells #[.string ⟨x.toArray⟩,.int .i64 i1,.int .i64 i2,.int .i64 i3,.int .i64 i4,.int .i64 i5,.slice A6 n6 c6,.slice A7 n7 c7,.int .i64 i8,.int .i64 i9] 39)).cell? ⟨W.heap.size,4,none⟩=some (.int .i64 i4)∧(W.alloc (.cells #[.string ⟨x.toArray⟩,.int .i64 i1,.int .i64 i2,.int .i64 i3,.int .i64 i4,.int .i64 i5,.slice A6 n6 c6,.slice A7 n7 c7,.int .i64 i8,.int .i64 i9] 39)).cell? ⟨W.heap.size,5,none⟩=some (.int .i64 i5)∧(W.alloc (.cells #[.string ⟨x.toArray⟩,.int .i64 i1,.int .i64 i2,.int .i64 i3,.int .i64 i4,.int .i64 i5,.slice A6 n6 c6,.slice A7 n7 c7,.int .i64 i8,.int .i64 i9] 39)).cell? ⟨W.heap.size,6,none⟩=some (.slice A6 n6 c6)∧(W.alloc (.cells #[.string ⟨x.toArray⟩,.int .i64 i1,.int .i64 i2,.int .i64 i3,.int .i64 i4,.int .i64 i5,.slice A6 n6 c6,.slice A7 n7 c7,.int .i64 i8,.int .i64 i9] 39)).cell? ⟨W.heap.size,7,none⟩=some (.slice A7 n7 c7)∧(W.alloc (.cells #[.string ⟨x.toArray⟩,.int .i64 i1,.int .i64 i2,.int .i64 i3,.int .i64 i4,.int .i64 i5,.slice A6 n6 c6,.slice A7 n7 c7,.int .i64 i8,.int .i64 i9] 39)).cell? ⟨W.heap.size,8,none⟩=some (.int .i64 i8)∧(W.alloc (.cells #[.string ⟨x.toArray⟩,.int .i64 i1,.int .i64 i2,.int .i64 i3,.int .i64 i4,.int .i64 i5,.slice A6 n6 c6,.slice A7 n7 c7,.int .i64 i8,.int .i64 i9] 39)).cell? ⟨W.heap.size,9,none⟩=some (.int .i64 i9)∧Below W.heap.size W (W.alloc (.cells #[.string ⟨x.toArray⟩,.int .i64 i1,.int .i64 i2,.int .i64 i3,.int .i64 i4,.int .i64 i5,.slice A6 n6 c6,.slice A7 n7 c7,.int .i64 i8,.int .i64 i9] 39))):=⟨cell_lift h4 B0,cell_lift h5 B0,N0.cell rfl,N0.cell rfl,N0.cell rfl,N0.cell rfl,N0.cell rfl,N0.cell rfl,N0.cell rfl,N0.cell rfl,N0.cell rfl,N0.cell rfl,B0⟩
 have HN:=Lib.hid (fun w=>l_nm x i1 i2 i3 i4 i5 A6 n6 c6 A7 n7 c7 i8 i9 w)
 clear B0 N0 h4 h5
 go_enter Tryz.func258,Tryz.ntmps258
 go_wp2_with fail
 generalize W.alloc (.cells #[.string ⟨x.toArray⟩,.int .i64 i1,.int .i64 i2,.int .i64 i3,.int .i64 i4,.int .i64 i5,.slice A6 n6 c6,.slice A7 n7 c7,.int .i64 i8,.int .i64 i9] 39)=W1 at S1 ⊢
 go_region_held3 (fun w'=>w'.cell? ⟨b4,0,none⟩=some (.func (.func 203) #[] #[])∧w'.cell? ⟨b5,0,none⟩=some (.string ⟨s.toArray⟩)∧w'.cell? ⟨W.heap.size,0,none⟩=some (.string ⟨x.toArray⟩)∧w'.cell? ⟨W.heap.size,1,none⟩=some (.int .i64 i1)∧w'.cell? ⟨W.heap.size,2,none⟩=some (.int .i64 i2)∧w'.cell? ⟨W.heap.size,3,none⟩=some (.int .i64 i3)∧w'.cell? ⟨W.heap.size,4,none⟩=some (.int .i64 i4)∧w'.cell? ⟨W.heap.size,5,none⟩=some (.int .i64 i5)∧w'.cell? ⟨W.heap.size,6,none⟩=some (.slice A6 n6 c6)∧w'.cell? ⟨W.heap.size,7,none⟩=some (.slice A7 n7 c7)∧w'.cell? ⟨W.heap.size,8,none⟩=some (.int .i64 i8)∧w'.cell? ⟨W.heap.size,9,none⟩=some (.int .i64 i9)∧Below W.heap.size W w')
  (first|(exact keepl S1 (Below.refl _ _).drew)|(exact keepl (by assumption) hb))
  (first|(go_at_call 203;((with_reducible refine (HN.out _).mono ?_);rintro e w' ⟨rfl,hb⟩)))
 go_wp2_with fail
 go_ret
 exact ⟨rfl,sbl (by assumption)⟩
set_option maxHeartbeats 4000000 in
theorem l_ix (A:Option Addr) (n c b4 b5:Nat) (l:List Rs.Lay) (s:List UInt8) (R:Nat) (Z:Int) (hZ:(if R<n then (R:Int) else -1)=Z) (w:World) (hA:Nest 10 eLay LayOk 0 w.heap.size w (A,n,c) l) (hR:Rs.ix s (l.map (·.name))=R) (h4:w.cell? ⟨b4,0,none⟩=some (.func (.func 203) #[] #[])) (h5:w.cell? ⟨b5,0,none⟩=some (.string ⟨s.toArray⟩)):
  Calls Tryz.prog 257 #[.slice A n c,.func (.func 258) #[] #[.pointer (some ⟨b4,0,none⟩),.pointer (some ⟨b5,0,none⟩)]] w fun e w'=>e= .returned (.int .i64 Z)∧Below w.heap.size w w':=by
 have HZ:=Lib.hid hZ
 have HA:=Lib.hid hA
 have hlen:=hA.len
 simp only at hlen
 obtain ⟨hl1,hl2,hl3⟩:=hlen
 have HL:=Lib.hid hl1
 have HR0:Hid (Rs.ix s ((l.map (·.name)).drop 0)+0=R):=Lib.hid hR
 have HLE:=Lib.hid (show R≤n by rw [←hR, ←hl1];have :=Rs.ix_le s (l.map (·.name));rwa [List.length_map] at this)
 have H4:=Lib.hid h4
 have H5:=Lib.hid h5
 clear hA hR h4 h5 hl1 hl2 hZ
 go_enter Tryz.func257,Tryz.ntmps257
 go_wp2_with fail
 go_loopw [8] (fun i wr=> ∃(k:Nat),k≤n∧i= .int .i64 k∧Hid (Rs.ix s ((l.map (·.name)).drop k)+k=R)∧Hid (Below w.heap.size w wr)) (fun i _=>n-(intOf i).toNat)
 case atStart=>exact ⟨0,Nat.zero_le _,rfl,HR0,Lib.hid (Below.refl _ _)⟩
 case round=>
  clear HR0
  obtain ⟨k,hk,rfl,HR,HB⟩:=hrel
  by_cases hlt:k<n
  ·obtain ⟨x,y,b,off,hx,ea,hb,d0,d1,d2,d3,d4,d5,d6,d7,d8,d9, -⟩:=l_elem (HA.out.kept (fun _ _=>LayOk.kept (.of_below HB.out (Nat.le_refl _))) (.of_below HB.out (Nat.le_refl _))) (i:=k) hlt
   simp only at ea
   subst ea
   have hnx:(l.map (·.name))[k]? =some x.name:=by rw [List.getElem?_map,hx];rfl
   have hst:=HR.out
   rw [ix_cons hnx] at hst
   clear hnx hx HR
   generalize x.name=xn at hst d0
   generalize x.zone=i1 at d1
   generalize x.day=i2 at d2
   generalize x.sec=i3 at d3
   generalize x.unit=i4 at d4
   generalize x.every=i5 at d5
   generalize y.1.1=A6 at d6;generalize y.1.2.1=n6 at d6;generalize y.1.2.2=c6 at d6
   generalize y.2.1=A7 at d7;generalize y.2.2.1=n7 at d7;generalize y.2.2.2=c7 at d7
   generalize x.cal=i8 at d8
   generalize x.mode=i9 at d9
   have HC4:=cell_lift H4.out HB.out
   have HC5:=cell_lift H5.out HB.out
   by_cases he:xn=s
   ·have N:=Lib.hid (show Z=(k:Int) by rw [if_pos he] at hst;rw [←HZ.out,if_pos (by omega)];omega)
    have C:=Lib.hid (l_eq xn i1 i2 i3 i4 i5 A6 n6 c6 A7 n7 c7 i8 i9 s true (by simpa using he) b4 b5 wr HC4 HC5)
    clear he hst HC4 HC5 HLE
    go_wp2_with fail
    refine C.out.mono ?_
    rintro e w1 ⟨rfl,b1⟩
    have B1:=bstep HB.out b1
    go_wp2_with fail
    go_ret
    exact ⟨ret_int N.out.symm,B1⟩
   ·have N:=Lib.hid (show Rs.ix s ((l.map (·.name)).drop (k+1))+(k+1)=R by rw [if_neg he] at hst;omega)
    have C:=Lib.hid (l_eq xn i1 i2 i3 i4 i5 A6 n6 c6 A7 n7 c7 i8 i9 s false (by simpa using he) b4 b5 wr HC4 HC5)
    clear he hst HC4 HC5
    go_wp2_with fail
    refine C.out.mono ?_
    rintro e w1 ⟨rfl,b1⟩
    have B1:=Lib.hid (bstep HB.out b1)
    clear b1
    go_wp2_with fail
    go_roundw
    case rel=>exact ⟨k+1,by omega,by go_num,N,B1⟩
    case measure=>simp [intOf];omega
  ·have N:=Lib.hid (show Z= -1 by have h:=HR.out;rw [List.drop_of_length_le (by rw [List.length_map,HL.out];omega)] at h;simp only [Rs.ix] at h;rw [←HZ.out,if_neg (by omega)])
   go_wp2_with fail
   go_ret
   exact ⟨ret_int N.out.symm,HB.out⟩
set_option maxHeartbeats 4000000 in
theorem l_find {l:List Rs.Lay} {s:List UInt8} {p:Int×Bool} (hp:Rs.findS (l.map (·.name)) s=p) (A:Option Addr) (n c:Nat) (w:World) (hA:Nest 10 eLay LayOk 0 w.heap.size w (A,n,c) l):
  Calls Tryz.prog 243 #[.slice A n c,.func (.func 203) #[] #[],.string ⟨s.toArray⟩] w fun e w'=>e= .returned (.tuple #[.int .i64 p.1,.bool p.2])∧Below w.heap.size w w':=by
 obtain ⟨R,hR⟩: ∃R,Rs.ix s (l.map (·.name))=R:=⟨_,rfl⟩
 have hlen:=hA.len
 simp only at hlen
 have hle:R≤n:=by rw [←hR, ←hlen.1];have :=Rs.ix_le s (l.map (·.name));rwa [List.length_map] at this
 have HP:Hid (p=if R<n then ((R:Int),true) else (0,false)):=Lib.hid (by rw [←hp];unfold Rs.findS;rw [hR,List.length_map,hlen.1])
 have B1:=(Below.refl _ w).alloc (Nat.le_refl _) (.cells #[.func (.func 203) #[] #[]] 226)
 have B2:=B1.alloc B1.size (.cells #[.string ⟨s.toArray⟩] 9)
 have N4:=BlkAt.alloc (BlkAt.new w #[.func (.func 203) #[] #[]] 226) (.cells #[.string ⟨s.toArray⟩] 9)
 have N5:=BlkAt.new (w.alloc (.cells #[.func (.func 203) #[] #[]] 226)) #[.string ⟨s.toArray⟩] 9
 rw [show (w.alloc (.cells #[.func (.func 203) #[] #[]] 226)).heap.size=w.heap.size+1 by simp] at N5
 have HA2:=(hA.kept (fun _ _=>LayOk.kept (.of_below B2 (Nat.le_refl _))) (.of_below B2 (Nat.le_refl _))).mono (fun _ _=>LayOk.mono (Nat.le_refl _) B2.size) (Nat.le_refl _) B2.size
 by_cases hlt:R<n
 ·have HQ:=Lib.hid (show p.1=(R:Int)∧p.2=true by rw [HP.out,if_pos hlt];exact ⟨rfl,rfl⟩)
  have C:=Lib.hid (l_ix A n c w.heap.size (w.heap.size+1) l s R _ (if_pos hlt) _ HA2 hR (N4.cell rfl) (N5.cell rfl))
  have HB:=Lib.hid B2
  have tst:decide ((R:Int)<0)=false:=by simp
  clear hp hA hR hlen N4 N5 HA2 B1 B2 HP hlt hle
  go_enter Tryz.func243,Tryz.ntmps243
  go_wp2_with fail
  refine C.out.mono ?_
  rintro e w1 ⟨rfl,b1⟩
  have B3:=bstep HB.out b1
  go_wp2_with fail
  go_ret2
  exact ⟨ret_int2 HQ.out.1.symm HQ.out.2.symm,B3⟩
 ·have HQ:=Lib.hid (show p.1=0∧p.2=false by rw [HP.out,if_neg hlt];exact ⟨rfl,rfl⟩)
  have C:=Lib.hid (l_ix A n c w.heap.size (w.heap.size+1) l s R _ (if_neg hlt) _ HA2 hR (N4.cell rfl) (N5.cell rfl))
  have HB:=Lib.hid B2
  have tst:decide ((-1:Int)<0)=true:=by simp
  clear hp hA hR hlen N4 N5 HA2 B1 B2 HP hlt hle
  go_enter Tryz.func243,Tryz.ntmps243
  go_wp2_with fail
  refine C.out.mono ?_
  rintro e w1 ⟨rfl,b1⟩
  have B3:=bstep HB.out b1
  go_wp2_with fail
  go_ret2
  exact ⟨ret_int2 HQ.out.1.symm HQ.out.2.symm,B3⟩
end Go.Proofs.YtfamcohbnoibaaaGreatDoor
