import Derived.Test.YtfamcohbnoibaaaGreatDoorKG20
import Derived.Test.YtfamcohbnoibaaaGreatDoorKDz
set_option linter.unusedVariables false
set_option linter.unusedSimpArgs false
namespace Go.Proofs.YtfamcohbnoibaaaGreatDoor
open Go.RowKit
open Go.RowKit
theorem offE_ok {x:Int} (h:0≤x) (h2:x≤8589934592):offE 0 x=0:=by unfold offE;rw [if_neg (by simp),if_neg (by omega)]
theorem offV_ok {off:Int} {ts:Zn.L} {x:Int} (h:0≤x) (h2:x≤8589934592):offV off ts 0 x=Zn.offAt off ts x:=by unfold offV;rw [if_neg (by simp),if_neg (by omega)]
theorem locV_ok {off:Int} {ts:Zn.L} {x v:Int} (h:0≤x) (h2:x≤8589934592) (hv:Zn.cl off ts x=v):locV off ts 0 x=(v/86400,v%86400):=by
 unfold locV;rw [offE_ok h h2,if_neg (by simp),offV_ok h h2, ←hv];rfl
structure Leap (off:Int) (ts:Zn.L) (a_ b_ at_:Int):Prop where
 offa:offV off ts 0 (at_-1)=a_
 offb:offV off ts 0 at_=b_
 ea:offE 0 (at_-1)=0
 eb:offE 0 at_=0
 ne:a_≠b_
 lo:1600000000≤at_
 hi:at_≤1900000000
 abd: -64800≤a_∧a_≤64800
 bbd: -64800≤b_∧b_≤64800
structure ZK (w:World) (s:ByteArray) (off:Int) (A':Option Addr) (n' c':Nat) (rs:List Zn.Rule) (bz:Nat) (W:World):Prop where
 z:ZIn W A' n' rs
 zb:ZBlk W bz s off A' n' c'
 bel:Below w.heap.size w W
theorem ZK.after {w:World} {s:ByteArray} {off:Int} {A':Option Addr} {n' c':Nat} {rs:List Zn.Rule} {bz:Nat} {W W':World} (h:ZK w s off A' n' c' rs bz W) (hb:Below W.heap.size W W'):ZK w s off A' n' c' rs bz W':=
 ⟨h.z.below hb,BlkAt.after h.zb hb,bstep h.bel hb⟩
end Go.Proofs.YtfamcohbnoibaaaGreatDoor
