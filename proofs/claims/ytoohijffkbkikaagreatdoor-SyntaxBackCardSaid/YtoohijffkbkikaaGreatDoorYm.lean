/- Forms and statements in memory; rows that stand while another one grows. -/
import Derived.Test.YtoohijffkbkikaaGreatDoorLr
import Derived.Test.YtoohijffkbkikaaGreatDoorMad
import Derived.Test.YtoohijffkbkikaaGreatDoorYx
namespace Go.Proofs.YtoohijffkbkikaaGreatDoor
open Go.RowKit
set_option linter.unusedVariables false
set_option linter.unusedSimpArgs false
set_option maxRecDepth 100000

section
variable {α : Type} {k : Nat} {e : α → Nat → Value}
/-- A part of a list. -/
theorem ListAt.sub {w : World} {b off : Nat} {xs : List α} (h : ListAt k e w (some ⟨b, off, none⟩) xs) (j m : Nat) : ListAt k e w (some ⟨b, off + j * k, none⟩) ((xs.drop j).take m) := fun h0 => by
  have hl : 0 < xs.length := by
    rw [List.length_take, List.length_drop] at h0
    omega
  obtain ⟨b', off', ea, hlt, hc⟩ := h hl
  cases ea
  refine ⟨b, _, rfl, hlt, fun i x hx q hq => ?_⟩
  have hx2 : xs[j + i]? = some x := by
    rw [List.getElem?_take] at hx
    split at hx
    · rwa [List.getElem?_drop] at hx
    · cases hx
  have := hc (j + i) x hx2 q hq
  rw [Nat.add_mul] at this
  rw [show off + j * k + i * k + q = off + (j * k + i * k) + q by omega]
  exact this
theorem ListAt.rest {w : World} {b off : Nat} {xs : List α} (h : ListAt k e w (some ⟨b, off, none⟩) xs) (j : Nat) : ListAt k e w (some ⟨b, off + j * k, none⟩) (xs.drop j) := by
  have := h.sub j (xs.drop j).length
  rwa [List.take_of_length_le (Nat.le_refl _)] at this
/-- It stands where another row grows. -/
theorem ListAt.grown {w w' : World} {A : Option Addr} {xs : List α} {row : Option Nat} (h : ListAt k e w A xs) (hg : w.grownBy w' row) (hr : ∀ ad, A = some ad → some ad.block ≠ row) : ListAt k e w' A xs := fun h0 => by
  obtain ⟨b, off, ea, hlt, hc⟩ := h h0
  have hne := hr _ ea
  refine ⟨b, off, ea, Nat.lt_of_lt_of_le hlt hg.size, fun i x hx j hj => ?_⟩
  exact (hg.cell_far ⟨b, off + i * k + j, none⟩ hlt hne).trans (hc i x hx j hj)
theorem ListAt.lt_ {w : World} {b off : Nat} {xs : List α} (h : ListAt k e w (some ⟨b, off, none⟩) xs) (h0 : 0 < xs.length) : b < w.heap.size := by
  obtain ⟨_, _, ea, hlt, _⟩ := h h0
  cases ea
  exact hlt
end

/-! ### Forms -/
def fmW (w : World) : List Sy.Fm → World
  | [] => w
  | f :: r => match f.2 with
    | [] => fmW w r
    | z :: zs => fmW (w.alloc (.cells (numV (z :: zs)) 3)) r
def fmV (n : Nat) : List Sy.Fm → List Value
  | [] => []
  | f :: r => match f.2 with
    | [] => .string ⟨f.1.toArray⟩ :: .slice none 0 0 :: fmV n r
    | z :: zs => .string ⟨f.1.toArray⟩ :: .slice (some ⟨n, 0, none⟩) (zs.length + 1) (zs.length + 1) :: fmV (n + 1) r
theorem fmW_below : ∀ (fs : List Sy.Fm) (w : World), Below w.heap.size w (fmW w fs)
  | [], w => Below.refl _ _
  | (a, []) :: r, w => fmW_below r w
  | (a, z :: zs) :: r, w => bstep ((Below.refl _ _).alloc (Nat.le_refl _) _) (fmW_below r (w.alloc (.cells (numV (z :: zs)) 3)))
def fmN : List Sy.Fm → Nat
  | [] => 0
  | f :: r => match f.2 with
    | [] => fmN r
    | z :: zs => fmN r + 1
theorem fmW_size : ∀ (fs : List Sy.Fm) (w : World), (fmW w fs).heap.size = w.heap.size + fmN fs
  | [], w => rfl
  | (a, []) :: r, w => fmW_size r w
  | (a, z :: zs) :: r, w => by
    have := fmW_size r (w.alloc (.cells (numV (z :: zs)) 3))
    rw [show (w.alloc (.cells (numV (z :: zs)) 3)).heap.size = w.heap.size + 1 by simp] at this
    show (fmW (w.alloc (.cells (numV (z :: zs)) 3)) r).heap.size = w.heap.size + (fmN r + 1)
    omega
theorem ints_new (w : World) (zs : List Int) (T : TypeId) : NumsAt (w.alloc (.cells (numV zs) T)) (some ⟨w.heap.size, 0, none⟩) zs := fun h0 =>
  ⟨_, 0, rfl, by simp, fun k hk => by rw [Nat.zero_add]; exact BlkAt.cell (BlkAt.new w (numV zs) T) (numV_get hk)⟩
theorem fm_at : ∀ (fs : List Sy.Fm) (w : World) (k : Nat) (f : Sy.Fm), fs[k]? = some f → (fmV w.heap.size fs)[k * 2]? = some (.string ⟨f.1.toArray⟩) ∧ ∃ A, (fmV w.heap.size fs)[k * 2 + 1]? = some (.slice A f.2.length f.2.length) ∧ NumsAt (fmW w fs) A f.2
  | [], w, k, f, h => by simp at h
  | (a, []) :: r, w, 0, f, h => by
    simp at h; subst h
    exact ⟨rfl, none, rfl, NumsAt.nil_⟩
  | (a, z :: zs) :: r, w, 0, f, h => by
    simp at h; subst h
    exact ⟨rfl, some ⟨w.heap.size, 0, none⟩, rfl, (ints_new w (z :: zs) 3).below (fmW_below r (w.alloc (.cells (numV (z :: zs)) 3)))⟩
  | (a, []) :: r, w, k + 1, f, h => by
    have := fm_at r w k f (by simpa using h)
    rw [show (k + 1) * 2 = k * 2 + 1 + 1 by omega]
    exact this
  | (a, z :: zs) :: r, w, k + 1, f, h => by
    have := fm_at r (w.alloc (.cells (numV (z :: zs)) 3)) k f (by simpa using h)
    rw [show (w.alloc (.cells (numV (z :: zs)) 3)).heap.size = w.heap.size + 1 by simp] at this
    rw [show (k + 1) * 2 = k * 2 + 1 + 1 by omega]
    exact this
/-- A list of forms in a block. -/
def FmsAt (w : World) (b : Nat) (fs : List Sy.Fm) : Prop := ∀ k f, fs[k]? = some f → w.cell? ⟨b, k * 2, none⟩ = some (.string ⟨f.1.toArray⟩) ∧ ∃ A, w.cell? ⟨b, k * 2 + 1, none⟩ = some (.slice A f.2.length f.2.length) ∧ NumsAt w A f.2
theorem FmsAt.below {w w' : World} {b : Nat} {fs : List Sy.Fm} (h : FmsAt w b fs) (hb : Below w.heap.size w w') : FmsAt w' b fs := fun k f hk => by
  obtain ⟨h1, A, h2, h3⟩ := h k f hk
  exact ⟨cell_lift h1 hb, A, cell_lift h2 hb, h3.below hb⟩
theorem fms_new (w : World) (fs : List Sy.Fm) (T : TypeId) : FmsAt ((fmW w fs).alloc (.cells (fmV w.heap.size fs).toArray T)) (fmW w fs).heap.size fs := fun k f hk => by
  obtain ⟨h1, A, h2, h3⟩ := fm_at fs w k f hk
  have hb := BlkAt.new (fmW w fs) (fmV w.heap.size fs).toArray T
  exact ⟨hb.cell (by rw [List.getElem?_toArray]; exact h1), A, hb.cell (by rw [List.getElem?_toArray]; exact h2), h3.below ((Below.refl _ _).alloc (Nat.le_refl _) _)⟩

/-! ### Statements -/
abbrev Raw := Int × Option Addr × Nat × Nat
def eStm : Raw → Nat → Value := fun x j => match j with
  | 0 => .int .i64 x.1
  | _ => .slice x.2.1 x.2.2.1 x.2.2.2
theorem kStm : KindOk 30 38 2 eStm := ⟨Tryz.underlying30, by obtain ⟨i, a, b, c, d⟩ := info_parts (show (Tryz.prog.info? 38).map (fun i => (i.zero, i.size, i.bytes)) = some (some (.agg #[.int .i64 0, .slice none 0 0]), 2, 32) by kernel_rfl); exact ⟨i, _, _, a, b, c, d, rfl, by omega⟩, by omega, fun x j => by unfold eStm; split <;> rfl⟩
/-- One statement: its line, and its tokens in memory. -/
structure StmIs (w : World) (x : Raw) (s : Sy.St) : Prop where
  line : x.1 = s.1
  len : x.2.2.1 = s.2.length
  cap : x.2.2.1 ≤ x.2.2.2
  small : s.2.length ≤ 600
  toks : ListAt 3 eTok w x.2.1 s.2
def Stms (w : World) (xs : List Raw) (ss : List Sy.St) : Prop := xs.length = ss.length ∧ ∀ (k : Nat) (x : Raw) (s : Sy.St), xs[k]? = some x → ss[k]? = some s → StmIs w x s
theorem StmIs.below {w w' : World} {x : Raw} {s : Sy.St} (h : StmIs w x s) (hb : Below w.heap.size w w') : StmIs w' x s := ⟨h.line, h.len, h.cap, h.small, h.toks.below hb⟩
theorem Stms.below {w w' : World} {xs : List Raw} {ss : List Sy.St} (h : Stms w xs ss) (hb : Below w.heap.size w w') : Stms w' xs ss := ⟨h.1, fun k x s hx hs => (h.2 k x s hx hs).below hb⟩
theorem Stms.snoc {w : World} {xs : List Raw} {ss : List Sy.St} (h : Stms w xs ss) {x : Raw} {s : Sy.St} (hx : StmIs w x s) : Stms w (xs ++ [x]) (ss ++ [s]) := by
  refine ⟨by simp [h.1], fun k y t hy ht => ?_⟩
  by_cases hk : k < xs.length
  · rw [List.getElem?_append_left hk] at hy
    rw [List.getElem?_append_left (by rw [← h.1]; exact hk)] at ht
    exact h.2 k y t hy ht
  · rw [List.getElem?_append_right (by omega)] at hy
    rw [List.getElem?_append_right (by have := h.1; omega)] at ht
    have h0 : k - xs.length = 0 := by
      rcases Nat.eq_zero_or_pos (k - xs.length) with h | h
      · exact h
      · rw [List.getElem?_eq_none (by simp; omega)] at hy; cases hy
    rw [h0] at hy
    rw [show k - ss.length = 0 by have := h.1; omega] at ht
    simp at hy ht
    subst hy; subst ht
    exact hx
/-- A list of statements in memory. -/
def StmsAt (w : World) (A : Option Addr) (ss : List Sy.St) : Prop := ∃ xs, ListAt 2 eStm w A xs ∧ Stms w xs ss
theorem StmsAt.below {w w' : World} {A : Option Addr} {ss : List Sy.St} (h : StmsAt w A ss) (hb : Below w.heap.size w w') : StmsAt w' A ss := by
  obtain ⟨xs, h1, h2⟩ := h
  exact ⟨xs, h1.below hb, h2.below hb⟩
theorem StmsAt.nil_ {w : World} {A : Option Addr} : StmsAt w A [] := ⟨[], ListAt.nil_, rfl, fun k x s h => by simp at h⟩
theorem StmsAt.get {w : World} {A : Option Addr} {ss : List Sy.St} (h : StmsAt w A ss) {k : Nat} {s : Sy.St} (hs : ss[k]? = some s) :
    ∃ b off T c, A = some ⟨b, off, none⟩ ∧ b < w.heap.size ∧ w.cell? ⟨b, off + k * 2, none⟩ = some (.int .i64 s.1) ∧ w.cell? ⟨b, off + k * 2 + 1, none⟩ = some (.slice T s.2.length c) ∧ s.2.length ≤ c ∧ s.2.length ≤ 600 ∧ ListAt 3 eTok w T s.2 := by
  obtain ⟨xs, h1, h2, h3⟩ := h
  have hk := (List.getElem?_eq_some_iff.1 hs).1
  obtain ⟨x, hx⟩ := get_ex (xs := xs) (i := k) (by omega)
  obtain ⟨b, off, ea, hb, hc⟩ := h1 (by omega)
  have hx3 := h3 k x s hx hs
  have c0 := hc k x hx 0 (by decide)
  have c1 := hc k x hx 1 (by decide)
  simp only [eStm] at c0 c1
  rw [hx3.line] at c0
  rw [hx3.len] at c1
  exact ⟨b, off, x.2.1, x.2.2.2, ea, hb, c0, c1, by rw [← hx3.len]; exact hx3.cap, hx3.small, hx3.toks⟩
/-- A row of statements that the call owns: the tokens lie elsewhere. -/
def OwnS (w : World) (B : Nat) (v : Value) (ss : List Sy.St) : Prop := ∃ xs, OwnL 38 2 eStm w B v xs ∧ Stms w xs ss ∧ ∀ x ∈ xs, ∀ ad, x.2.1 = some ad → some ad.block ≠ v.ownBlock ∧ ad.block < w.heap.size
theorem OwnS.nil_ (w : World) (B : Nat) : OwnS w B (.slice none 0 0) [] := ⟨[], OwnL.nil_ _ _, ⟨rfl, fun k x s h => by simp at h⟩, fun x h => by cases h⟩
theorem OwnS.below {w w' : World} {B : Nat} {v : Value} {ss : List Sy.St} (h : OwnS w B v ss) (hb : Below w.heap.size w w') : OwnS w' B v ss := by
  obtain ⟨xs, h1, h2, h3⟩ := h
  exact ⟨xs, h1.below hb, h2.below hb, fun x hx ad e => ⟨(h3 x hx ad e).1, Nat.lt_of_lt_of_le (h3 x hx ad e).2 hb.size⟩⟩
theorem OwnS.alloc {w : World} {B : Nat} {v : Value} {ss : List Sy.St} (h : OwnS w B v ss) (o : Obj) : OwnS (w.alloc o) B v ss := h.below ((Below.refl _ _).alloc (Nat.le_refl _) o)
theorem OwnS.shape {w : World} {B : Nat} {v : Value} {ss : List Sy.St} (h : OwnS w B v ss) : ∃ A c, v = .slice A ss.length c ∧ ss.length ≤ c ∧ StmsAt w A ss := by
  obtain ⟨xs, h1, h2, h3⟩ := h
  obtain ⟨A, c, rfl, hc, _, hl⟩ := h1.shape
  have e := h2.1
  exact ⟨A, c, by rw [e], by rw [← e]; exact hc, xs, hl, h2⟩
theorem OwnS.own {w : World} {B : Nat} {v : Value} {ss : List Sy.St} (h : OwnS w B v ss) : ∀ g, v.ownBlock = some g → g < w.heap.size := by
  obtain ⟨xs, h1, h2, h3⟩ := h
  intro g hg
  exact (World.ownsRow.lt h1 g hg).2
end Go.Proofs.YtoohijffkbkikaaGreatDoor
