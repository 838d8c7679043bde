/- Tokens that are those of their words; and the words of the laws. The words of the laws. Lists of tokens compared; lines of words. Plain facts on statements: which tokens are one, the lines of a text, the words of tokens. Nothing of the program stands in it. Forms and statements in memory; rows that stand while another one grows. -/
import Derived.Test.YthaacmmkignocaaDoorKG06
import Derived.Lib.Join
import Derived.Test.YthaacmmkignocaaDoorKG01
namespace Go.Proofs.YthaacmmkignocaaDoor
open Go.RowKit
set_option linter.unusedVariables false
set_option linter.unusedSimpArgs false
set_option maxRecDepth 100000
theorem t1 : Lx.tokS [50, 48, 50, 54, 45, 48, 51, 45, 50, 57, 84, 48, 49, 58, 48, 48, 58, 48, 48, 90] = some (5, [], 1774746000) := by kernel_rfl
theorem t2 : Lx.tokS [50, 52, 58, 48, 48] = some (2, [], 86400) := by kernel_rfl
theorem t3 : Lx.tokS [50, 52, 58, 48, 49] = none := by kernel_rfl
theorem t4 : Lx.lineS [97, 32, 35, 32, 98] = some [(0, [97], 0)] := by kernel_rfl
theorem t5 : Lx.offTS (-5400) = [45, 48, 49, 58, 51, 48] := by
  have e : Lx.fullTS 5400 = [48, 49, 58, 51, 48, 58, 48, 48] := by
    unfold Lx.fullTS
    rw [show Int.tdiv 5400 3600 = 1 from by decide, show (Int.tdiv 5400 60).tmod 60 = 30 from by decide, show Int.tmod 5400 60 = 0 from by decide]
    rw [Lx.pad2 (n := 1) (by decide) (by decide), Lx.pad2 (n := 30) (by decide) (by decide), Lx.pad2 (n := 0) (by decide) (by decide)]
    decide
  unfold Lx.offTS Lx.clockTS
  rw [if_pos (by decide), show (-(-5400) : Int) = 5400 from by decide, e]
  decide
end Go.Proofs.YthaacmmkignocaaDoor
namespace Go.Proofs.YthaacmmkignocaaDoor
open Go.RowKit
set_option linter.unusedVariables false
set_option linter.unusedSimpArgs false
set_option maxRecDepth 100000
end Go.Proofs.YthaacmmkignocaaDoor
namespace Go.Proofs.YthaacmmkignocaaDoor
namespace Lx
open Go Go.Lib Go.Proofs.YthaacmmkignocaaDoor
end Lx
open Go.RowKit
set_option linter.unusedVariables false
set_option linter.unusedSimpArgs false
set_option maxRecDepth 100000
theorem tok_elem {w : World} {A : Option Addr} {ts : List Lx.Tk} (h : ListAt 3 eTok w A ts) {k : Nat} {y : Lx.Tk} (hy : ts[k]? = some y) :
    ∃ b off, A = some ⟨b, off, none⟩ ∧ w.cell? ⟨b, off + k * 3, none⟩ = some (.int .i64 y.1) ∧ w.cell? ⟨b, off + k * 3 + 1, none⟩ = some (.string ⟨y.2.1.toArray⟩) ∧ w.cell? ⟨b, off + k * 3 + 2, none⟩ = some (.int .i64 y.2.2) := by
  obtain ⟨b, off, e, hb, hc⟩ := h (by have := (List.getElem?_eq_some_iff.1 hy).1; omega)
  exact ⟨b, off, e, hc k y hy 0 (by decide), hc k y hy 1 (by decide), hc k y hy 2 (by decide)⟩
end Go.Proofs.YthaacmmkignocaaDoor
namespace Go.Proofs.YthaacmmkignocaaDoor
set_option linter.unusedVariables false
set_option maxRecDepth 100000
namespace Sy
open Go Go.Lib Go.Proofs.YthaacmmkignocaaDoor Lx
abbrev Fm := List UInt8 × List Int
def F : List Fm := [([122, 111, 110, 101], [0, 4]), ([114, 117, 108, 101], [1, 1, 0, 0, 0, 2, 4]), ([112, 101, 114, 115, 111, 110], [0, 0]), ([113, 117, 105, 101, 116], [0, 2, 0, 2]), ([99, 97, 108, 101, 110, 100, 97, 114], [0, 0]), ([100, 97, 121, 115], [3]), ([115, 99, 104, 101, 100, 117, 108, 101], [0]), ([108, 97, 121, 101, 114], [0, 0, 3, 2, 1, 0]), ([109, 101, 109, 98, 101, 114], [0]), ([111, 110], [0, 2, 0, 2]), ([110, 111, 116], [0]), ([111, 110, 108, 121], [0]), ([108, 101, 97, 118, 101], [0, 5, 5]), ([111, 118, 101, 114, 114, 105, 100, 101], [0, 5, 5]), ([115, 119, 97, 112], [0, 0, 5, 5])]
abbrev St := Int × List Tk
end Sy
end Go.Proofs.YthaacmmkignocaaDoor
namespace Go.Proofs.YthaacmmkignocaaDoor
open Go.RowKit
set_option linter.unusedVariables false
set_option linter.unusedSimpArgs false
set_option maxRecDepth 100000
section
variable {α : Type} {k : Nat} {e : α → Nat → Value}
/-- A part of a list. -/
theorem ListAt.sub {w : World} {b off : Nat} {xs : List α} (h : ListAt k e w (some ⟨b, off, none⟩) xs) (j m : Nat) : ListAt k e w (some ⟨b, off + j * k, none⟩) ((xs.drop j).take m) := fun h0 => by
  have hl : 0 < xs.length := by
    rw [List.length_take, List.length_drop] at h0
    omega
  obtain ⟨b', off', ea, hlt, hc⟩ := h hl
  cases ea
  refine ⟨b, _, rfl, hlt, fun i x hx q hq => ?_⟩
  have hx2 : xs[j + i]? = some x := by
    rw [List.getElem?_take] at hx
    split at hx
    · rwa [List.getElem?_drop] at hx
    · cases hx
  have := hc (j + i) x hx2 q hq
  rw [Nat.add_mul] at this
  rw [show off + j * k + i * k + q = off + (j * k + i * k) + q by omega]
  exact this
theorem ListAt.rest {w : World} {b off : Nat} {xs : List α} (h : ListAt k e w (some ⟨b, off, none⟩) xs) (j : Nat) : ListAt k e w (some ⟨b, off + j * k, none⟩) (xs.drop j) := by
  have := h.sub j (xs.drop j).length
  rwa [List.take_of_length_le (Nat.le_refl _)] at this
/-- It stands where another row grows. -/
theorem ListAt.grown {w w' : World} {A : Option Addr} {xs : List α} {row : Option Nat} (h : ListAt k e w A xs) (hg : w.grownBy w' row) (hr : ∀ ad, A = some ad → some ad.block ≠ row) : ListAt k e w' A xs := fun h0 => by
  obtain ⟨b, off, ea, hlt, hc⟩ := h h0
  have hne := hr _ ea
  refine ⟨b, off, ea, Nat.lt_of_lt_of_le hlt hg.size, fun i x hx j hj => ?_⟩
  exact (hg.cell_far ⟨b, off + i * k + j, none⟩ hlt hne).trans (hc i x hx j hj)
theorem ListAt.lt_ {w : World} {b off : Nat} {xs : List α} (h : ListAt k e w (some ⟨b, off, none⟩) xs) (h0 : 0 < xs.length) : b < w.heap.size := by
  obtain ⟨_, _, ea, hlt, _⟩ := h h0
  cases ea
  exact hlt
end
/-- A list of forms in a block. -/
def FmsAt (w : World) (b : Nat) (fs : List Sy.Fm) : Prop := ∀ k f, fs[k]? = some f → w.cell? ⟨b, k * 2, none⟩ = some (.string ⟨f.1.toArray⟩) ∧ ∃ A, w.cell? ⟨b, k * 2 + 1, none⟩ = some (.slice A f.2.length f.2.length) ∧ NumsAt w A f.2
theorem FmsAt.below {w w' : World} {b : Nat} {fs : List Sy.Fm} (h : FmsAt w b fs) (hb : Below w.heap.size w w') : FmsAt w' b fs := fun k f hk => by
  obtain ⟨h1, A, h2, h3⟩ := h k f hk
  exact ⟨cell_lift h1 hb, A, cell_lift h2 hb, h3.below hb⟩
abbrev Raw := Int × Option Addr × Nat × Nat
def eStm : Raw → Nat → Value := fun x j => match j with
  | 0 => .int .i64 x.1
  | _ => .slice x.2.1 x.2.2.1 x.2.2.2
/-- One statement: its line, and its tokens in memory. -/
structure StmIs (w : World) (x : Raw) (s : Sy.St) : Prop where
  line : x.1 = s.1
  len : x.2.2.1 = s.2.length
  cap : x.2.2.1 ≤ x.2.2.2
  small : s.2.length ≤ 600
  toks : ListAt 3 eTok w x.2.1 s.2
def Stms (w : World) (xs : List Raw) (ss : List Sy.St) : Prop := xs.length = ss.length ∧ ∀ (k : Nat) (x : Raw) (s : Sy.St), xs[k]? = some x → ss[k]? = some s → StmIs w x s
theorem StmIs.below {w w' : World} {x : Raw} {s : Sy.St} (h : StmIs w x s) (hb : Below w.heap.size w w') : StmIs w' x s := ⟨h.line, h.len, h.cap, h.small, h.toks.below hb⟩
theorem Stms.below {w w' : World} {xs : List Raw} {ss : List Sy.St} (h : Stms w xs ss) (hb : Below w.heap.size w w') : Stms w' xs ss := ⟨h.1, fun k x s hx hs => (h.2 k x s hx hs).below hb⟩
theorem Stms.snoc {w : World} {xs : List Raw} {ss : List Sy.St} (h : Stms w xs ss) {x : Raw} {s : Sy.St} (hx : StmIs w x s) : Stms w (xs ++ [x]) (ss ++ [s]) := by
  refine ⟨by simp [h.1], fun k y t hy ht => ?_⟩
  by_cases hk : k < xs.length
  · rw [List.getElem?_append_left hk] at hy
    rw [List.getElem?_append_left (by rw [← h.1]; exact hk)] at ht
    exact h.2 k y t hy ht
  · rw [List.getElem?_append_right (by omega)] at hy
    rw [List.getElem?_append_right (by have := h.1; omega)] at ht
    have h0 : k - xs.length = 0 := by
      rcases Nat.eq_zero_or_pos (k - xs.length) with h | h
      · exact h
      · rw [List.getElem?_eq_none (by simp; omega)] at hy; cases hy
    rw [h0] at hy
    rw [show k - ss.length = 0 by have := h.1; omega] at ht
    simp at hy ht
    subst hy; subst ht
    exact hx
/-- A list of statements in memory. -/
def StmsAt (w : World) (A : Option Addr) (ss : List Sy.St) : Prop := ∃ xs, ListAt 2 eStm w A xs ∧ Stms w xs ss
theorem StmsAt.below {w w' : World} {A : Option Addr} {ss : List Sy.St} (h : StmsAt w A ss) (hb : Below w.heap.size w w') : StmsAt w' A ss := by
  obtain ⟨xs, h1, h2⟩ := h
  exact ⟨xs, h1.below hb, h2.below hb⟩
theorem StmsAt.nil_ {w : World} {A : Option Addr} : StmsAt w A [] := ⟨[], ListAt.nil_, rfl, fun k x s h => by simp at h⟩
theorem StmsAt.get {w : World} {A : Option Addr} {ss : List Sy.St} (h : StmsAt w A ss) {k : Nat} {s : Sy.St} (hs : ss[k]? = some s) :
    ∃ b off T c, A = some ⟨b, off, none⟩ ∧ b < w.heap.size ∧ w.cell? ⟨b, off + k * 2, none⟩ = some (.int .i64 s.1) ∧ w.cell? ⟨b, off + k * 2 + 1, none⟩ = some (.slice T s.2.length c) ∧ s.2.length ≤ c ∧ s.2.length ≤ 600 ∧ ListAt 3 eTok w T s.2 := by
  obtain ⟨xs, h1, h2, h3⟩ := h
  have hk := (List.getElem?_eq_some_iff.1 hs).1
  obtain ⟨x, hx⟩ := get_ex (xs := xs) (i := k) (by omega)
  obtain ⟨b, off, ea, hb, hc⟩ := h1 (by omega)
  have hx3 := h3 k x s hx hs
  have c0 := hc k x hx 0 (by decide)
  have c1 := hc k x hx 1 (by decide)
  simp only [eStm] at c0 c1
  rw [hx3.line] at c0
  rw [hx3.len] at c1
  exact ⟨b, off, x.2.1, x.2.2.2, ea, hb, c0, c1, by rw [← hx3.len]; exact hx3.cap, hx3.small, hx3.toks⟩
end Go.Proofs.YthaacmmkignocaaDoor
