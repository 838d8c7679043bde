/- What the laws of time zones share: the chapter's example. -/
import Derived.Test.YthaacmmkignocaaDoorKG29
import Derived.Test.YthaacmmkignocaaDoorKDz
namespace Go.Proofs.YthaacmmkignocaaDoor
open Go.RowKit
set_option linter.unusedVariables false
set_option linter.unusedSimpArgs false
theorem fit_of_ok {r : Zn.Rule} (h : Zn.okR r = true) : FitR r := by
  rw [Zn.okR_iff] at h
  unfold FitR I64
  omega
theorem zin_of {w : World} {A : Option Addr} {n : Nat} {rs : List Zn.Rule} (hT : CivT w) (hA : RulesAt w A rs) (hn : rs.length = n) (hok : rs.all Zn.okR = true) (hle : n ≤ 1000) : ZIn w A n rs :=
  ⟨hT, hA, hn, fun r hr => fit_of_ok (List.all_eq_true.1 hok r hr), by omega⟩
def exRules : List Zn.Rule := [⟨2020, 2030, 3, 5, 6, 7200, 7200⟩, ⟨2020, 2030, 10, 5, 6, 10800, 3600⟩]
def exTs : Zn.L := (Zn.trans 3600 exRules).1
theorem ex_trans : Zn.trans 3600 exRules = (exTs, 0) := Prod.ext rfl (by kernel_rfl)
theorem ex_ok : exRules.all Zn.okR = true := by kernel_rfl
end Go.Proofs.YthaacmmkignocaaDoor
