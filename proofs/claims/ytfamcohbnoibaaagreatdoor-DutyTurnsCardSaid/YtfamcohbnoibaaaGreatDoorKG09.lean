import Derived.Test.YtfamcohbnoibaaaGreatDoorKG08
import Derived.Deep.RegionHeld3
set_option linter.unusedVariables false
set_option linter.unusedSimpArgs false
set_option maxRecDepth 100000
namespace Go.Proofs.YtfamcohbnoibaaaGreatDoor
open Go.RowKit
theorem one_new {α:Type} {k:Nat} {e:α→Nat→Value} {W:World} {b:Nat} {y:α} {vs:Array Value} {T:TypeId} (h:BlkAt W b vs T) (hv: ∀j,j<k→vs[j]? =some (e y j)): ∀j,j<k→W.cell? ⟨b,j,none⟩=some (e y j):=fun j hj=>h.cell (hv j hj)
theorem blk_now {W:World} {B:Nat} {vs:Array Value} {T:TypeId} (h:W.heap.size=B):BlkAt (W.alloc (.cells vs T)) B vs T:=by subst h;exact heap_alloc_new _ _
end Go.Proofs.YtfamcohbnoibaaaGreatDoor
namespace Go.Proofs.YtfamcohbnoibaaaGreatDoor
open Go.RowKit
end Go.Proofs.YtfamcohbnoibaaaGreatDoor
namespace Go.Proofs.YtfamcohbnoibaaaGreatDoor
open Go.RowKit
def perC (p:Rs.Pers):Array Value:=#[.string ⟨p.name.toArray⟩,.int .i64 p.zone,.slice none 0 0,.int .i64 p.maxw,.int .i64 p.minr,.bool p.cons]
structure OptK (gp:Nat) (P:Rs.Pers) (w:World) (A:Option Addr) (n c:Nat) (r:List Lx.Tk) (p:Rs.Pers) (W:World):Prop where
 but:But gp w.heap.size w W
 at_:ListAt 3 eTok W A r
 far: ∀ad,A=some ad→ad.block≠gp
 len:r.length=n
 cap:n≤c
 blk:BlkAt W gp (perC p) 98
 lt:gp<w.heap.size
 ok:Rs.optOk r
 goal:Rs.optS r p=P
theorem OptK.rest {W:World} {A:Option Addr} {n c:Nat} {r:List Lx.Tk} (h:ListAt 3 eTok W A r) (hn:r.length=n) (hc:n≤c) (b off k:Nat) (ea:A=some ⟨b,off,none⟩) (hk:k≤n):ListAt 3 eTok W (if c=k then some ⟨b,off,none⟩ else some ⟨b,off+k*3,none⟩) (r.drop k):=by
 subst ea
 split
 ·have :r.drop k=[]:=List.drop_of_length_le (by omega)
  rw [this]
  exact ListAt.nil_
 ·exact h.rest k
end Go.Proofs.YtfamcohbnoibaaaGreatDoor
namespace Go.Proofs.YtfamcohbnoibaaaGreatDoor
open Go.RowKit
section
variable {w:World} {bc lo:Nat} {vs:Key→SV} {C:Rs.Cfg} (h:OwnC w bc lo vs C)
include h
end
end Go.Proofs.YtfamcohbnoibaaaGreatDoor
namespace Go.Proofs.YtfamcohbnoibaaaGreatDoor
open Go.RowKit
theorem int_vals (a:Int): ∀j,j<1→(#[Value.int .i64 a]:Array Value)[j]? =some (eInt a j):=fun j hj=>by
 rcases j with _|_<;>first|rfl|omega
end Go.Proofs.YtfamcohbnoibaaaGreatDoor
