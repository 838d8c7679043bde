import Derived.Test.YtfamcohbnoibaaaGreatDoorKG39
import Derived.Test.YtfamcohbnoibaaaGreatDoorKDz
set_option linter.unusedVariables false
set_option linter.unusedSimpArgs false
set_option maxRecDepth 100000
namespace Go.Proofs.YtfamcohbnoibaaaGreatDoor
open Go.RowKit
theorem rt_snoc: ∀{l:Wk.L} {e a b:Int},Wk.Rt e l→(∀x∈l,x.2≤a)→e≤a→a<b→b≤604800→Wk.Rt e (l++[(a,b)])
 |[],e,a,b,_,_,h1,h2,h3=>⟨h1,h2,h3,trivial⟩
 |x::t,e,a,b,⟨g1,g2,g3,g4⟩,h,h1,h2,h3=>⟨g1,g2,g3,rt_snoc g4 (fun y hy=>h y (List.mem_cons_of_mem _ hy)) (h x (by simp)) h2 h3⟩
def Windowed (w:World) (g:Nat) (A:Option Addr) (n c:Nat) (zs:List Int) (e:Ending) (w':World):Prop:=
 ∃v l,e= .returned v∧OwnL 99 2 ePair w' w.heap.size v l∧Wk.Rt 0 l∧l.length≤3∧w.grownBy w' (some g)∧Dice w' g A n c zs
set_option maxHeartbeats 4000000 in
theorem Windows_any (g n c:Nat) (A:Option Addr) (zs:List Int) (w:World) (h:Dice w g A n c zs):
  Calls Tryz.prog 39 #[.pointer (some ⟨g,0,none⟩)] w (Windowed w g A n c zs):=by
 have hgw:=h.lt_
 have C:=Lib.hid (Next_any g n c A zs 4 w h (by omega) (by omega))
 clear h
 go_enter Tryz.func39,Tryz.ntmps39
 go_wp2_with fail
 refine C.out.mono ?_
 rintro e w1 ⟨i0,rfl,i1,i2,g1,D1⟩
 have HG:=Lib.hid g1
 have HD:=Lib.hid D1
 clear g1 D1 C
 go_wp2_with fail
 go_loopw [3,4,5] (fun v va vi wr=> ∃(at_ i:Int) (l:Wk.L),va= .int .i64 at_∧vi= .int .i64 i∧0≤at_∧at_≤604800∧0≤i∧i≤3∧(l.length:Int)+i≤3∧Hid (Wk.Rt 0 l∧ ∀x∈l,x.2≤at_)∧Hid (OwnL 99 2 ePair wr w.heap.size v l)∧Hid (w.grownBy wr (some g))∧Hid (Dice wr g A n c zs)) (fun _ _ vi _=>(intOf vi).toNat)
 case atStart=>exact ⟨0,i0,[],rfl,rfl,by omega,by omega,i1,by omega,by simp;omega,Lib.hid ⟨trivial,fun x hx=>by cases hx⟩,Lib.hid (OwnL.nil_ _ _),HG,HD⟩
 case round=>
  clear HG HD
  obtain ⟨at_,i,l,rfl,rfl,a1,a2,j1,j2,hl,HR,HO,HG,HD⟩:=hrel
  by_cases hi:0<i
  ·have hz0:=HG.out.size
   go_wp2_with fail
   refine (Next_any g n c A zs 30 _ HD.out (by omega) (by omega)).mono ?_
   rintro e w2 ⟨x,rfl,x1,x2,g2,D2⟩
   have HO2:=Lib.hid (HO.out.grown g2 hgw)
   have HG2:=Lib.hid (grown_trans HG.out g2)
   have HD2:=Lib.hid D2
   clear g2 D2 HO HG HD
   go_wp2_with fail
   refine (Next_any g n c A zs 2 _ HD2.out (by omega) (by omega)).mono ?_
   rintro e w3 ⟨y,rfl,y1,y2,g3,D3⟩
   have HO3:=Lib.hid (HO2.out.grown g3 hgw)
   have HG3:=Lib.hid (grown_trans HG2.out g3)
   have HD3:=Lib.hid D3
   have hz3:=HG3.out.size
   clear g3 D3 HO2 HG2 HD2
   go_wp2_with fail
   refine (Pick_any g n c A zs [3600,28800,43200,86400,61,1] w3.heap.size 6 6 3 _ (HD3.out.alloc _) (BlkAt.new w3 _ _) rfl (by omega) (by omega) (by omega)).mono ?_
   rintro e w4 ⟨p,rfl,hp,g4,D4⟩
   have hp2:1≤p∧p≤86400:=by simp at hp;omega
   obtain ⟨p1,p2⟩:=hp2
   have HO4:=Lib.hid ((HO3.out.alloc _).grown g4 hgw)
   have HG4:=Lib.hid (grown_trans (grown_alloc HG3.out _) g4)
   have HD4:=Lib.hid D4
   have hz4:=HG4.out.size
   clear g4 D4 HO3 HG3 HD3 hp
   by_cases hbig:604800<at_+3600*x+60*y+p
   ·go_wp2_with fail
    go_ret
    exact ⟨_,l,rfl,HO4.out,HR.out.1,by omega,HG4.out,HD4.out⟩
   ·have N:=Lib.hid (show Wk.Rt 0 (l++[(at_+3600*x+60*y,at_+3600*x+60*y+p)])∧ ∀z∈l++[(at_+3600*x+60*y,at_+3600*x+60*y+p)],z.2≤at_+3600*x+60*y+p from
     ⟨rt_snoc HR.out.1 (fun z hz=>by have :=HR.out.2 z hz;omega) (by omega) (by omega) (by omega),fun z hz=>by
      rcases List.mem_append.1 hz with hz|hz
      ·have :=HR.out.2 z hz;omega
      ·simp at hz;subst hz;exact Int.le_refl _⟩)
    have hlen:l.length≤900000:=by omega
    clear HR
    go_wp2_with (at_builtin;refine wp_append_one kWin _ rfl _ _ rfl w.heap.size _ l rfl (HO4.out.alloc _) w4.heap.size (at_+3600*x+60*y,at_+3600*x+60*y+p) rfl (pair_new (x:=(at_+3600*x+60*y,at_+3600*x+60*y+p)) rfl) hlen (by simp;omega) ?_;intro gg cap w5 hO5 hB5 hg5 hgo _)
    have O5:=Lib.hid hO5
    have G5:=Lib.hid (grown_then (grown_alloc HG4.out _) hB5 (Nat.le_refl _))
    have D5:=Lib.hid ((HD4.out.alloc _).below hB5 hgw)
    clear hO5 hB5 hg5 hgo
    go_wp2_with fail
    go_roundw
    case rel=>exact ⟨at_+3600*x+60*y+p,i-1,_,rfl,rfl,by omega,by omega,by omega,by omega,by simp;omega,N,O5,G5,D5⟩
    case measure=>simp [intOf];omega
  ·go_wp2_with fail
   go_ret
   exact ⟨_,l,rfl,HO.out,HR.out.1,by omega,HG.out,HD.out⟩
def Instanted (w:World) (g:Nat) (A:Option Addr) (n c:Nat) (zs:List Int) (e:Ending) (w':World):Prop:=
 ∃v,e= .returned (.int .i64 v)∧1767139199≤v∧v≤1769212799∧w.grownBy w' (some g)∧Dice w' g A n c zs
set_option maxHeartbeats 2000000 in
theorem Instant_any (g n c:Nat) (A:Option Addr) (zs:List Int) (w:World) (h:Dice w g A n c zs):
  Calls Tryz.prog 14 #[.pointer (some ⟨g,0,none⟩)] w (Instanted w g A n c zs):=by
 have hgw:=h.lt_
 have C:=Lib.hid (Next_any g n c A zs 576 w h (by omega) (by omega))
 clear h
 go_enter Tryz.func14,Tryz.ntmps14
 go_wp2_with fail
 refine C.out.mono ?_
 rintro e w1 ⟨x,rfl,x1,x2,g1,D1⟩
 clear C
 go_wp2_with fail
 refine (Bool_any g n c A zs 3 _ D1 (by omega) (by omega)).mono ?_
 rintro e w2 ⟨b,rfl,g2,D2⟩
 have HG:=Lib.hid (grown_trans g1 g2)
 have HD:=Lib.hid D2
 have hz:=HG.out.size
 clear g1 g2 D1 D2
 cases b
 ·go_wp2_with fail
  go_ret
  exact ⟨_,rfl,by omega,by omega,HG.out,HD.out⟩
 ·go_wp2_with fail
  refine (Pick_any g n c A zs [-1,1,1800,3599] w2.heap.size 4 4 3 _ (HD.out.alloc _) (BlkAt.new w2 _ _) rfl (by omega) (by omega) (by omega)).mono ?_
  rintro e w3 ⟨p,rfl,hp,g3,D3⟩
  have hp2: -1≤p∧p≤3599:=by simp at hp;omega
  obtain ⟨p1,p2⟩:=hp2
  have HG3:=Lib.hid (grown_trans (grown_alloc HG.out _) g3)
  have HD3:=Lib.hid D3
  clear hp g3 D3
  go_wp2_with fail
  go_ret
  exact ⟨_,rfl,by omega,by omega,HG3.out,HD3.out⟩
end Go.Proofs.YtfamcohbnoibaaaGreatDoor
