import Derived.Test.YtfamcohbnoibaaaGreatDoorKG01
import Derived.Test.YtfamcohbnoibaaaGreatDoorKZci
import Derived.Test.YtfamcohbnoibaaaGreatDoorKG00
set_option linter.unusedVariables false
set_option linter.unusedSimpArgs false
namespace Go.Proofs.YtfamcohbnoibaaaGreatDoor
open Go.RowKit
def ePair (x:Int×Int) (j:Nat):Value:= .int .i64 (if j=0 then x.1 else x.2)
def eTrip (x:Int×Int×Int) (j:Nat):Value:= .int .i64 (if j=0 then x.1 else if j=1 then x.2.1 else x.2.2)
def eInt (x:Int) (j:Nat):Value:= .int .i64 x
def eRule (r:Zn.Rule) (j:Nat):Value:= .int .i64 (match j with|0=>r.fr|1=>r.to|2=>r.mo|3=>r.wk|4=>r.wd|5=>r.sec|_=>r.off)
def valR (r:Zn.Rule):Value:= .agg #[.int .i64 r.fr,.int .i64 r.to,.int .i64 r.mo,.int .i64 r.wk,.int .i64 r.wd,.int .i64 r.sec,.int .i64 r.off]
def FitR (r:Zn.Rule):Prop:=I64 r.fr∧I64 r.to∧I64 r.mo∧I64 r.wk∧I64 r.wd∧I64 r.sec∧I64 r.off
abbrev PairsAt (w:World) (A:Option Addr) (xs:Zn.L):Prop:=ListAt 2 ePair w A xs
abbrev RulesAt (w:World) (A:Option Addr) (rs:List Zn.Rule):Prop:=ListAt 7 eRule w A rs
abbrev TripsAt (w:World) (A:Option Addr) (xs:Zn.S):Prop:=ListAt 3 eTrip w A xs
abbrev IntsAt (w:World) (A:Option Addr) (xs:List Int):Prop:=ListAt 1 eInt w A xs
theorem kOcc:KindOk 161 200 2 ePair:=⟨Tryz.underlying161,by obtain ⟨i,a,b,c,d⟩:=info_parts (show (Tryz.prog.info? 200).map (fun i=>(i.zero,i.size,i.bytes))=some (some (.agg #[.int .i64 0,.int .i64 0]),2,16) by kernel_rfl);exact ⟨i,_,_,a,b,c,d,rfl,by omega⟩,by omega,fun _ _=>rfl⟩
theorem kTra:KindOk 130 134 2 ePair:=⟨Tryz.underlying130,by obtain ⟨i,a,b,c,d⟩:=info_parts (show (Tryz.prog.info? 134).map (fun i=>(i.zero,i.size,i.bytes))=some (some (.agg #[.int .i64 0,.int .i64 0]),2,16) by kernel_rfl);exact ⟨i,_,_,a,b,c,d,rfl,by omega⟩,by omega,fun _ _=>rfl⟩
theorem kStr:KindOk 192 196 3 eTrip:=⟨Tryz.underlying192,by obtain ⟨i,a,b,c,d⟩:=info_parts (show (Tryz.prog.info? 196).map (fun i=>(i.zero,i.size,i.bytes))=some (some (.agg #[.int .i64 0,.int .i64 0,.int .i64 0]),3,24) by kernel_rfl);exact ⟨i,_,_,a,b,c,d,rfl,by omega⟩,by omega,fun _ _=>rfl⟩
theorem kInt:KindOk 22 3 1 eInt:=⟨Tryz.underlying22,by obtain ⟨i,a,b,c,d⟩:=info_parts (show (Tryz.prog.info? 3).map (fun i=>(i.zero,i.size,i.bytes))=some (some (.int .i64 0),1,8) by kernel_rfl);exact ⟨i,_,_,a,b,c,d,rfl,by omega⟩,by omega,fun _ _=>rfl⟩
theorem pair_cells {w:World} {b off i:Nat} {x:Int×Int} (h: ∀j,j<2→w.cell? ⟨b,off+i*2+j,none⟩=some (ePair x j)):w.cell? ⟨b,off+i*2,none⟩=some (.int .i64 x.1)∧w.cell? ⟨b,off+i*2+1,none⟩=some (.int .i64 x.2):=⟨h 0 (by omega),h 1 (by omega)⟩
theorem trip_cells {w:World} {b off i:Nat} {x:Int×Int×Int} (h: ∀j,j<3→w.cell? ⟨b,off+i*3+j,none⟩=some (eTrip x j)):w.cell? ⟨b,off+i*3,none⟩=some (.int .i64 x.1)∧w.cell? ⟨b,off+i*3+1,none⟩=some (.int .i64 x.2.1)∧w.cell? ⟨b,off+i*3+1+1,none⟩=some (.int .i64 x.2.2)∧w.cell? ⟨b,off+i*3+2,none⟩=some (.int .i64 x.2.2):=⟨h 0 (by omega),h 1 (by omega),h 2 (by omega),h 2 (by omega)⟩
def valZ (s:ByteArray) (off:Int) (A:Option Addr) (n c:Nat):Value:= .agg #[.string s,.int .i64 off,.slice A n c]
def ZBlk (w:World) (b:Nat) (s:ByteArray) (off:Int) (A:Option Addr) (n c:Nat):Prop:=BlkAt w b #[.string s,.int .i64 off,.slice A n c] 71
theorem ZBlk.cells {w:World} {b:Nat} {s:ByteArray} {off:Int} {A:Option Addr} {n c:Nat} (h:ZBlk w b s off A n c):w.cell? ⟨b,0,none⟩=some (.string s)∧w.cell? ⟨b,1,none⟩=some (.int .i64 off)∧w.cell? ⟨b,2,none⟩=some (.slice A n c):=⟨BlkAt.cell h rfl,BlkAt.cell h rfl,BlkAt.cell h rfl⟩
end Go.Proofs.YtfamcohbnoibaaaGreatDoor
