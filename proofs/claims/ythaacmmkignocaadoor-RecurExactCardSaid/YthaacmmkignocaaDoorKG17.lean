/- Package resolve: setOptions. Package resolve, Build's actions: what stands behind an append and its store, kind by kind. Printed by gen_rz.py. -/
import Derived.Test.YthaacmmkignocaaDoorKG16
namespace Go.Proofs.YthaacmmkignocaaDoor
open Go.RowKit
set_option linter.unusedVariables false
set_option linter.unusedSimpArgs false
set_option maxRecDepth 100000
def perC (p : Rs.Pers) : Array Value := #[.string ⟨p.name.toArray⟩, .int .i64 p.zone, .slice none 0 0, .int .i64 p.maxw, .int .i64 p.minr, .bool p.cons]
/-- Where setOptions stands: the tokens that are left, and the person so far. -/
structure OptK (gp : Nat) (P : Rs.Pers) (w : World) (A : Option Addr) (n c : Nat) (r : List Lx.Tk) (p : Rs.Pers) (W : World) : Prop where
  but : But gp w.heap.size w W
  at_ : ListAt 3 eTok W A r
  far : ∀ ad, A = some ad → ad.block ≠ gp
  len : r.length = n
  cap : n ≤ c
  blk : BlkAt W gp (perC p) 75
  lt : gp < w.heap.size
  ok : Rs.optOk r
  goal : Rs.optS r p = P
/-- The tokens behind the first k. -/
theorem OptK.rest {W : World} {A : Option Addr} {n c : Nat} {r : List Lx.Tk} (h : ListAt 3 eTok W A r) (hn : r.length = n) (hc : n ≤ c) (b off k : Nat) (ea : A = some ⟨b, off, none⟩) (hk : k ≤ n) : ListAt 3 eTok W (if c = k then some ⟨b, off, none⟩ else some ⟨b, off + k * 3, none⟩) (r.drop k) := by
  subst ea
  split
  · have : r.drop k = [] := List.drop_of_length_le (by omega)
    rw [this]
    exact ListAt.nil_
  · exact h.rest k
end Go.Proofs.YthaacmmkignocaaDoor
namespace Go.Proofs.YthaacmmkignocaaDoor
open Go.RowKit
set_option linter.unusedVariables false
set_option linter.unusedSimpArgs false
set_option maxRecDepth 100000
section
variable {w : World} {bc lo : Nat} {vs : Key → SV} {C : Rs.Cfg} (h : OwnC w bc lo vs C)
include h
end
end Go.Proofs.YthaacmmkignocaaDoor
