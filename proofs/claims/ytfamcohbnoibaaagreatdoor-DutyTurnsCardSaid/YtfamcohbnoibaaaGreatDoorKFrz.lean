import Derived.Test.YtfamcohbnoibaaaGreatDoorKZci
import Derived.Test.YtfamcohbnoibaaaGreatDoorKG01
import Derived.Test.YtfamcohbnoibaaaGreatDoorCards
import Derived.Test.YtfamcohbnoibaaaGreatDoorTie
import Derived.ProofKit
import Derived.OpenShut
import Derived.ChangeOld
import Derived.LaidMore
import Derived.LaidOnce
import Derived.Lib.LaidTab
import Derived.SevenTiedAt
import Derived.Below
import Derived.Carry
import Derived.ChangeSlices
set_option linter.unusedVariables false
set_option maxRecDepth 100000
namespace Go.Proofs.YtfamcohbnoibaaaGreatDoor
open Go.ChangeShapes Go.WideShapes Go.ChangeAt Go.RowKit
theorem wf_lo {n:Int} (h:(Lit.int .i64 n).wf=true): -9223372036854775808≤n:=by
 simp [Lit.wf,IntKind.min,IntKind.max,IntKind.signed,IntKind.bits] at h;omega
theorem wf_hi {n:Int} (h:(Lit.int .i64 n).wf=true):n≤9223372036854775807:=by
 simp [Lit.wf,IntKind.min,IntKind.max,IntKind.signed,IntKind.bits] at h;omega
theorem own:ownKnob Tryz.prog.godebug=none:=by kernel_rfl
theorem laidOut:laidOutB Tryz.prog=true:=by kernel_rfl
theorem gMonth: Tryz.prog.globalNamed "pagewatch/civil.monthLengths"=some 0:=by kernel_rfl
theorem gMonthType:(Tryz.prog.globals[0]?).map (·.type)=some 256:=by kernel_rfl
theorem cells12: Tryz.prog.cellsOf 256=12:=by kernel_rfl
theorem cells1: Tryz.prog.cellsOf 3=1:=by kernel_rfl
def laidList:List (String×DataW Unit):=[("pagewatch/civil.monthLengths",Rows.laid_pagewatch_civil_monthLengths)]
theorem door_met (os:Os) (args:Array Value):laidMetH Tryz.prog laidList ((World.doorLaid Tryz.prog 400 os).forCall (fun _ _=>0) ⟨#[],args,[]⟩).memory:=
 laidMetH_of_parts3 (fuel:=8) (laidMet_of_run' 8 (by kernel_rfl) (by kernel_rfl)) (by kernel_rfl) (by kernel_rfl)
theorem civT_of {W:World} (h:laidMetH Tryz.prog laidList W):CivT W:=by
 rw [MakeChecks.laidMetH_plain _ _ _ (by kernel_rfl)] at h
 have hT:Lib.TabIs Tryz.prog W "pagewatch/civil.monthLengths" .i64 civTab:=Lib.tabIs_of_head gMonth gMonthType Tryz.underlying256 Tryz.underlying3 cells1 cells12 h
 have hc: ∀i:Nat,i<12→W.cell? ⟨0,i,none⟩=some (.int .i64 (civTab.getD i 0)):=fun i hi=>hT.cell gMonth i hi
 exact ⟨Nat.lt_of_le_of_lt (Nat.zero_le _) (World.block_lt_of_cell? W _ (hc 0 (by decide))),hc⟩
theorem open_zs {H:Type} {enc:TypeId×Value→H} {W:World} {base b0:Nat} {spare:Nat→Bool} {held:Bool} {v:Value} {d:DataW H} {p:List MemPlace} (hv:Value.okWide Tryz.prog W .any b0 22 v)
  (h:DataW.Trod enc Tryz.prog W base spare held 22 v d p):
  ∃A n c zs,v= .slice A n c∧List.length zs=n∧NumsAt W A zs∧ ∀z∈zs, -9223372036854775808≤z∧z≤9223372036854775807:=by
 obtain ⟨a0,len,cap,rfl⟩:=okWide_slice Tryz.underlying22 hv
 obtain ⟨fuel,hf⟩:=h
 rcases open_ints Tryz.underlying22 Tryz.underlying3 cells1 hf with ⟨hcs,hx⟩|⟨a,len',cap',zs,hcs,_,hl,hm,hz,hx,hcell,hwz⟩
 ·simp [Value.cells] at hcs
  obtain ⟨rfl,rfl,rfl⟩:=hcs
  exact ⟨none,0,0,[],rfl,rfl,NumsAt.nil_,fun z hz=>by cases hz⟩
 ·simp [Value.cells] at hcs
  obtain ⟨rfl,rfl,rfl⟩:=hcs
  have hlz:len≤zs.length:=by rw [hz];split<;>omega
  refine ⟨some a,len,cap,zs.take len,rfl,by rw [List.length_take];omega,fun h0=> ?_,fun z h=>⟨wf_lo (hwz z (List.mem_of_mem_take h)),wf_hi (hwz z (List.mem_of_mem_take h))⟩⟩
  rw [List.length_take] at h0
  have c0:=hcell 0 (by omega)
  obtain ⟨b,off,spot⟩:=a
  have hspot:spot=none:=by simpa [Addr.add] using World.cell?_spot c0
  subst hspot
  refine ⟨b,off,rfl, ?_,fun k hk=> ?_⟩
  ·exact World.block_lt_of_cell? W _ c0
  ·rw [List.length_take] at hk
   have :=hcell k (by omega)
   rw [add_none] at this
   rw [this]
   simp [List.getD,show k<len by omega]
end Go.Proofs.YtfamcohbnoibaaaGreatDoor
