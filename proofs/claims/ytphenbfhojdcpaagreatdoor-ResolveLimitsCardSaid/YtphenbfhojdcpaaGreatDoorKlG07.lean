/- Tokens that are those of their words; and the words of the laws. The words of the laws. Lists of tokens compared; lines of words. Plain facts on statements: which tokens are one, the lines of a text, the words of tokens. Nothing of the program stands in it. Forms and statements in memory; rows that stand while another one grows. -/
import Derived.Test.YtphenbfhojdcpaaGreatDoorKlG06
import Derived.Lib.Join
import Derived.Test.YtphenbfhojdcpaaGreatDoorKlG01
namespace Go.Proofs.YtphenbfhojdcpaaGreatDoor
open Go.RowKit
set_option linter.unusedVariables false
set_option linter.unusedSimpArgs false
set_option maxRecDepth 100000
theorem t1 : Lx.tokS [50, 48, 50, 54, 45, 48, 51, 45, 50, 57, 84, 48, 49, 58, 48, 48, 58, 48, 48, 90] = some (5, [], 1774746000) := by kernel_rfl
theorem t2 : Lx.tokS [50, 52, 58, 48, 48] = some (2, [], 86400) := by kernel_rfl
theorem t3 : Lx.tokS [50, 52, 58, 48, 49] = none := by kernel_rfl
theorem t4 : Lx.lineS [97, 32, 35, 32, 98] = some [(0, [97], 0)] := by kernel_rfl
theorem t5 : Lx.offTS (-5400) = [45, 48, 49, 58, 51, 48] := by
  have e : Lx.fullTS 5400 = [48, 49, 58, 51, 48, 58, 48, 48] := by
    unfold Lx.fullTS
    rw [show Int.tdiv 5400 3600 = 1 from by decide, show (Int.tdiv 5400 60).tmod 60 = 30 from by decide, show Int.tmod 5400 60 = 0 from by decide]
    rw [Lx.pad2 (n := 1) (by decide) (by decide), Lx.pad2 (n := 30) (by decide) (by decide), Lx.pad2 (n := 0) (by decide) (by decide)]
    decide
  unfold Lx.offTS Lx.clockTS
  rw [if_pos (by decide), show (-(-5400) : Int) = 5400 from by decide, e]
  decide
end Go.Proofs.YtphenbfhojdcpaaGreatDoor
namespace Go.Proofs.YtphenbfhojdcpaaGreatDoor
open Go.RowKit
set_option linter.unusedVariables false
set_option linter.unusedSimpArgs false
set_option maxRecDepth 100000
end Go.Proofs.YtphenbfhojdcpaaGreatDoor
namespace Lx
open Go Go.Lib Go.Proofs.YtphenbfhojdcpaaGreatDoor
end Lx
namespace Go.Proofs.YtphenbfhojdcpaaGreatDoor
open Go.RowKit
set_option linter.unusedVariables false
set_option linter.unusedSimpArgs false
set_option maxRecDepth 100000
theorem tok_elem {w : World} {A : Option Addr} {ts : List Lx.Tk} (h : ListAt 3 eTok w A ts) {k : Nat} {y : Lx.Tk} (hy : ts[k]? = some y) :
    ∃ b off, A = some ⟨b, off, none⟩ ∧ w.cell? ⟨b, off + k * 3, none⟩ = some (.int .i64 y.1) ∧ w.cell? ⟨b, off + k * 3 + 1, none⟩ = some (.string ⟨y.2.1.toArray⟩) ∧ w.cell? ⟨b, off + k * 3 + 2, none⟩ = some (.int .i64 y.2.2) := by
  obtain ⟨b, off, e, hb, hc⟩ := h (by have := (List.getElem?_eq_some_iff.1 hy).1; omega)
  exact ⟨b, off, e, hc k y hy 0 (by decide), hc k y hy 1 (by decide), hc k y hy 2 (by decide)⟩
end Go.Proofs.YtphenbfhojdcpaaGreatDoor
set_option linter.unusedVariables false
set_option maxRecDepth 100000
namespace Sy
open Go Go.Lib Go.Proofs.YtphenbfhojdcpaaGreatDoor Lx
abbrev Fm := List UInt8 × List Int
def F : List Fm := [([122, 111, 110, 101], [0, 4]), ([114, 117, 108, 101], [1, 1, 0, 0, 0, 2, 4]), ([112, 101, 114, 115, 111, 110], [0, 0]), ([113, 117, 105, 101, 116], [0, 2, 0, 2]), ([99, 97, 108, 101, 110, 100, 97, 114], [0, 0]), ([100, 97, 121, 115], [3]), ([115, 99, 104, 101, 100, 117, 108, 101], [0]), ([108, 97, 121, 101, 114], [0, 0, 3, 2, 1, 0]), ([109, 101, 109, 98, 101, 114], [0]), ([111, 110], [0, 2, 0, 2]), ([110, 111, 116], [0]), ([111, 110, 108, 121], [0]), ([108, 101, 97, 118, 101], [0, 5, 5]), ([111, 118, 101, 114, 114, 105, 100, 101], [0, 5, 5]), ([115, 119, 97, 112], [0, 0, 5, 5])]
def optF : List Fm := [([119, 101, 101, 107], [1]), ([114, 101, 115, 116], [1]), ([99, 111, 110, 115, 101, 110, 116], [])]
/-- The tokens behind those of a form. -/
def cutS (f : Fm) : List Tk → Option (List Tk)
  | [] => none
  | t :: r => if f.2.length ≤ r.length ∧ t.1 = 0 ∧ t.2.1 = f.1 ∧ (r.take f.2.length).map (·.1) = f.2 then some (r.drop f.2.length) else none
def optG : List Fm → List Tk → List Tk
  | [], l => l
  | f :: fs, l => optG fs (match cutS f l with | some o => o | none => l)
def mayEnd (k : List UInt8) (l : List Tk) : Bool :=
  if k = [112, 101, 114, 115, 111, 110] then (optG optF l).isEmpty else if k = [100, 97, 121, 115] then l.all fun t => t.1 == 3 else if k = [109, 101, 109, 98, 101, 114] then l.all fun t => t.1 == 0 else l.isEmpty
def goS : List Fm → List Tk → Bool
  | [], _ => false
  | f :: fs, l => match cutS f l with | some o => mayEnd f.1 o | none => goS fs l
def formS (l : List Tk) : Bool := goS F l
theorem form_nil : formS [] = false := by kernel_rfl
theorem go_some {f : Fm} {fs : List Fm} {l o : List Tk} (h : cutS f l = some o) : goS (f :: fs) l = mayEnd f.1 o := by rw [goS, h]
theorem go_none {f : Fm} {fs : List Fm} {l : List Tk} (h : cutS f l = none) : goS (f :: fs) l = goS fs l := by rw [goS, h]
theorem cut_cons (f : Fm) (t : Tk) (r : List Tk) : cutS f (t :: r) = if f.2.length ≤ r.length ∧ t.1 = 0 ∧ t.2.1 = f.1 ∧ (r.take f.2.length).map (·.1) = f.2 then some (r.drop f.2.length) else none := rfl
theorem cut_len {f : Fm} {l o : List Tk} (h : cutS f l = some o) : o.length ≤ l.length := by
  cases l with
  | nil => cases h
  | cons t r =>
    rw [cut_cons] at h
    by_cases hc : f.2.length ≤ r.length ∧ t.1 = 0 ∧ t.2.1 = f.1 ∧ (r.take f.2.length).map (·.1) = f.2
    · rw [if_pos hc] at h
      cases h
      simp only [List.length_drop, List.length_cons]
      omega
    · rw [if_neg hc] at h
      cases h
def spl : List UInt8 → List UInt8 → List (List UInt8)
  | cur, [] => [cur]
  | cur, b :: t => if b = 10 then cur :: spl [] t else spl (cur ++ [b]) t
theorem spl_at : ∀ (x cur r : List UInt8), (10 : UInt8) ∉ x → spl cur (x ++ 10 :: r) = (cur ++ x) :: spl [] r
  | [], cur, r, _ => by simp [spl]
  | b :: x, cur, r, h => by
    simp only [List.mem_cons, not_or] at h
    rw [List.cons_append, spl, if_neg (fun e => h.1 e.symm), spl_at x _ r h.2]
    simp
theorem spl_end : ∀ (x cur : List UInt8), (10 : UInt8) ∉ x → spl cur x = [cur ++ x]
  | [], cur, _ => by simp [spl]
  | b :: x, cur, h => by
    simp only [List.mem_cons, not_or] at h
    rw [spl, if_neg (fun e => h.1 e.symm), spl_end x _ h.2]
    simp
theorem first10 : ∀ l : List UInt8, (10 : UInt8) ∉ l ∨ ∃ a c, l = a ++ 10 :: c ∧ (10 : UInt8) ∉ a
  | [] => .inl (by simp)
  | b :: t => by
    by_cases hb : b = 10
    · subst hb; exact .inr ⟨[], t, rfl, by simp⟩
    · rcases first10 t with h | ⟨a, c, rfl, h⟩
      · exact .inl (by simp only [List.mem_cons, not_or]; exact ⟨fun e => hb e.symm, h⟩)
      · exact .inr ⟨b :: a, c, rfl, by simp only [List.mem_cons, not_or]; exact ⟨fun e => hb e.symm, h⟩⟩
theorem spl_K : ∀ (k : Nat) (l : List UInt8), l.count 10 ≤ k → splitK [10] 0 k l = spl [] l
  | 0, l, h => by
    have hn : (10 : UInt8) ∉ l := List.count_eq_zero.1 (by omega)
    rw [spl_end l [] hn, splitK_last 0 hn]; rfl
  | k + 1, l, h => by
    rcases first10 l with hn | ⟨a, c, rfl, hn⟩
    · rw [spl_end l [] hn, splitK_last _ hn]; rfl
    · rw [spl_at a [] c hn, splitK_cons k hn, spl_K k c (by rw [List.count_append, List.count_cons_self] at h; omega)]; rfl
theorem spl_split (l : List UInt8) (k : Nat) (h : k = min (l.count 10 + 1) (l.length + 1) - 1) : splitK [10] 0 k l = spl [] l :=
  spl_K k l (by have := List.count_le_length (l := l) (a := (10 : UInt8)); omega)
theorem spl_bd : ∀ (l cur : List UInt8), (∀ x ∈ spl cur l, x.length ≤ cur.length + l.length) ∧ (spl cur l).length ≤ l.length + 1
  | [], cur => by simp [spl]
  | b :: t, cur => by
    rw [spl]
    by_cases hb : b = 10
    · rw [if_pos hb]
      have := spl_bd t []
      refine ⟨fun x hx => ?_, by simp; omega⟩
      simp only [List.mem_cons] at hx
      rcases hx with rfl | hx
      · simp
      · have := this.1 x hx; simp at this ⊢; omega
    · rw [if_neg hb]
      have := spl_bd t (cur ++ [b])
      refine ⟨fun x hx => ?_, by simp; omega⟩
      have := this.1 x hx; simp at this ⊢; omega
/-- The error of a line, and its tokens. -/
def stmS (x : List UInt8) : Int × List Tk :=
  if 512 < x.length then (5, []) else match lineS x with
  | none => (2, [])
  | some ts => if ts ≠ [] ∧ formS ts = false then (2, []) else (0, ts)
abbrev St := Int × List Tk
/-- Error, line, statements. -/
def parS : Nat → List (List UInt8) → Int × Int × List St
  | _, [] => (0, 0, [])
  | i, x :: r => if (stmS x).1 = 0 then (if (parS (i + 1) r).1 = 0 then (0, 0, if (stmS x).2 = [] then (parS (i + 1) r).2.2 else ((i : Int) + 1, (stmS x).2) :: (parS (i + 1) r).2.2) else parS (i + 1) r) else ((stmS x).1, (i : Int) + 1, [])
/-- What Parse holds so far, and what the other lines add. -/
def comb (acc : List St) (p : Int × Int × List St) : Int × Int × List St := if p.1 = 0 then (0, 0, acc ++ p.2.2) else p
theorem par_ok : ∀ (r : List (List UInt8)) (i : Nat), (parS i r).1 = 0 → (parS i r).2.1 = 0
  | [], i, _ => rfl
  | x :: r, i, h => by
    rw [parS] at h ⊢
    by_cases h1 : (stmS x).1 = 0
    · rw [if_pos h1] at h ⊢
      by_cases h2 : (parS (i + 1) r).1 = 0
      · rw [if_pos h2]
      · rw [if_neg h2] at h; exact absurd h h2
    · rw [if_neg h1] at h; exact absurd h h1
theorem comb_nil {r : List (List UInt8)} {i : Nat} : comb [] (parS i r) = parS i r := by
  unfold comb
  by_cases h : (parS i r).1 = 0
  · rw [if_pos h, List.nil_append]
    have h2 := par_ok r i h
    obtain ⟨⟨a, b, c⟩, hp⟩ : ∃ p, parS i r = p := ⟨_, rfl⟩
    rw [hp] at h h2 ⊢
    simp only at h h2 ⊢
    rw [h, h2]
  · rw [if_neg h]
theorem comb_bad {x : List UInt8} {r : List (List UInt8)} {acc : List St} {i : Nat} {e : Int} {ts : List Tk} (h : stmS x = (e, ts)) (he : e ≠ 0) : comb acc (parS i (x :: r)) = (e, (i : Int) + 1, []) := by
  have h1 : (stmS x).1 = e := by rw [h]
  rw [parS, if_neg (by rw [h1]; exact he), h1]
  unfold comb
  rw [if_neg he]
theorem comb_none {x : List UInt8} {r : List (List UInt8)} {acc : List St} {i : Nat} (h : stmS x = (0, [])) : comb acc (parS i (x :: r)) = comb acc (parS (i + 1) r) := by
  rw [parS, if_pos (by rw [h]), h]
  unfold comb
  by_cases h2 : (parS (i + 1) r).1 = 0
  · simp [h2]
  · simp [h2]
theorem comb_some {x : List UInt8} {r : List (List UInt8)} {acc : List St} {i : Nat} {ts : List Tk} (h : stmS x = (0, ts)) (hne : ts ≠ []) : comb acc (parS i (x :: r)) = comb (acc ++ [((i : Int) + 1, ts)]) (parS (i + 1) r) := by
  rw [parS, if_pos (by rw [h]), h]
  unfold comb
  by_cases h2 : (parS (i + 1) r).1 = 0
  · simp [h2, hne]
  · simp [h2]
end Sy
namespace Go.Proofs.YtphenbfhojdcpaaGreatDoor
open Go.RowKit
set_option linter.unusedVariables false
set_option linter.unusedSimpArgs false
set_option maxRecDepth 100000
section
variable {α : Type} {k : Nat} {e : α → Nat → Value}
/-- A part of a list. -/
theorem ListAt.sub {w : World} {b off : Nat} {xs : List α} (h : ListAt k e w (some ⟨b, off, none⟩) xs) (j m : Nat) : ListAt k e w (some ⟨b, off + j * k, none⟩) ((xs.drop j).take m) := fun h0 => by
  have hl : 0 < xs.length := by
    rw [List.length_take, List.length_drop] at h0
    omega
  obtain ⟨b', off', ea, hlt, hc⟩ := h hl
  cases ea
  refine ⟨b, _, rfl, hlt, fun i x hx q hq => ?_⟩
  have hx2 : xs[j + i]? = some x := by
    rw [List.getElem?_take] at hx
    split at hx
    · rwa [List.getElem?_drop] at hx
    · cases hx
  have := hc (j + i) x hx2 q hq
  rw [Nat.add_mul] at this
  rw [show off + j * k + i * k + q = off + (j * k + i * k) + q by omega]
  exact this
theorem ListAt.rest {w : World} {b off : Nat} {xs : List α} (h : ListAt k e w (some ⟨b, off, none⟩) xs) (j : Nat) : ListAt k e w (some ⟨b, off + j * k, none⟩) (xs.drop j) := by
  have := h.sub j (xs.drop j).length
  rwa [List.take_of_length_le (Nat.le_refl _)] at this
/-- It stands where another row grows. -/
theorem ListAt.grown {w w' : World} {A : Option Addr} {xs : List α} {row : Option Nat} (h : ListAt k e w A xs) (hg : w.grownBy w' row) (hr : ∀ ad, A = some ad → some ad.block ≠ row) : ListAt k e w' A xs := fun h0 => by
  obtain ⟨b, off, ea, hlt, hc⟩ := h h0
  have hne := hr _ ea
  refine ⟨b, off, ea, Nat.lt_of_lt_of_le hlt hg.size, fun i x hx j hj => ?_⟩
  exact (hg.cell_far ⟨b, off + i * k + j, none⟩ hlt hne).trans (hc i x hx j hj)
theorem ListAt.lt_ {w : World} {b off : Nat} {xs : List α} (h : ListAt k e w (some ⟨b, off, none⟩) xs) (h0 : 0 < xs.length) : b < w.heap.size := by
  obtain ⟨_, _, ea, hlt, _⟩ := h h0
  cases ea
  exact hlt
end
def fmW (w : World) : List Sy.Fm → World
  | [] => w
  | f :: r => match f.2 with
    | [] => fmW w r
    | z :: zs => fmW (w.alloc (.cells (numV (z :: zs)) 3)) r
def fmV (n : Nat) : List Sy.Fm → List Value
  | [] => []
  | f :: r => match f.2 with
    | [] => .string ⟨f.1.toArray⟩ :: .slice none 0 0 :: fmV n r
    | z :: zs => .string ⟨f.1.toArray⟩ :: .slice (some ⟨n, 0, none⟩) (zs.length + 1) (zs.length + 1) :: fmV (n + 1) r
theorem fmW_below : ∀ (fs : List Sy.Fm) (w : World), Below w.heap.size w (fmW w fs)
  | [], w => Below.refl _ _
  | (a, []) :: r, w => fmW_below r w
  | (a, z :: zs) :: r, w => bstep ((Below.refl _ _).alloc (Nat.le_refl _) _) (fmW_below r (w.alloc (.cells (numV (z :: zs)) 3)))
def fmN : List Sy.Fm → Nat
  | [] => 0
  | f :: r => match f.2 with
    | [] => fmN r
    | z :: zs => fmN r + 1
theorem fmW_size : ∀ (fs : List Sy.Fm) (w : World), (fmW w fs).heap.size = w.heap.size + fmN fs
  | [], w => rfl
  | (a, []) :: r, w => fmW_size r w
  | (a, z :: zs) :: r, w => by
    have := fmW_size r (w.alloc (.cells (numV (z :: zs)) 3))
    rw [show (w.alloc (.cells (numV (z :: zs)) 3)).heap.size = w.heap.size + 1 by simp] at this
    show (fmW (w.alloc (.cells (numV (z :: zs)) 3)) r).heap.size = w.heap.size + (fmN r + 1)
    omega
theorem ints_new (w : World) (zs : List Int) (T : TypeId) : NumsAt (w.alloc (.cells (numV zs) T)) (some ⟨w.heap.size, 0, none⟩) zs := fun h0 =>
  ⟨_, 0, rfl, by simp, fun k hk => by rw [Nat.zero_add]; exact BlkAt.cell (BlkAt.new w (numV zs) T) (numV_get hk)⟩
theorem fm_at : ∀ (fs : List Sy.Fm) (w : World) (k : Nat) (f : Sy.Fm), fs[k]? = some f → (fmV w.heap.size fs)[k * 2]? = some (.string ⟨f.1.toArray⟩) ∧ ∃ A, (fmV w.heap.size fs)[k * 2 + 1]? = some (.slice A f.2.length f.2.length) ∧ NumsAt (fmW w fs) A f.2
  | [], w, k, f, h => by simp at h
  | (a, []) :: r, w, 0, f, h => by
    simp at h; subst h
    exact ⟨rfl, none, rfl, NumsAt.nil_⟩
  | (a, z :: zs) :: r, w, 0, f, h => by
    simp at h; subst h
    exact ⟨rfl, some ⟨w.heap.size, 0, none⟩, rfl, (ints_new w (z :: zs) 3).below (fmW_below r (w.alloc (.cells (numV (z :: zs)) 3)))⟩
  | (a, []) :: r, w, k + 1, f, h => by
    have := fm_at r w k f (by simpa using h)
    rw [show (k + 1) * 2 = k * 2 + 1 + 1 by omega]
    exact this
  | (a, z :: zs) :: r, w, k + 1, f, h => by
    have := fm_at r (w.alloc (.cells (numV (z :: zs)) 3)) k f (by simpa using h)
    rw [show (w.alloc (.cells (numV (z :: zs)) 3)).heap.size = w.heap.size + 1 by simp] at this
    rw [show (k + 1) * 2 = k * 2 + 1 + 1 by omega]
    exact this
/-- A list of forms in a block. -/
def FmsAt (w : World) (b : Nat) (fs : List Sy.Fm) : Prop := ∀ k f, fs[k]? = some f → w.cell? ⟨b, k * 2, none⟩ = some (.string ⟨f.1.toArray⟩) ∧ ∃ A, w.cell? ⟨b, k * 2 + 1, none⟩ = some (.slice A f.2.length f.2.length) ∧ NumsAt w A f.2
theorem FmsAt.below {w w' : World} {b : Nat} {fs : List Sy.Fm} (h : FmsAt w b fs) (hb : Below w.heap.size w w') : FmsAt w' b fs := fun k f hk => by
  obtain ⟨h1, A, h2, h3⟩ := h k f hk
  exact ⟨cell_lift h1 hb, A, cell_lift h2 hb, h3.below hb⟩
theorem fms_new (w : World) (fs : List Sy.Fm) (T : TypeId) : FmsAt ((fmW w fs).alloc (.cells (fmV w.heap.size fs).toArray T)) (fmW w fs).heap.size fs := fun k f hk => by
  obtain ⟨h1, A, h2, h3⟩ := fm_at fs w k f hk
  have hb := BlkAt.new (fmW w fs) (fmV w.heap.size fs).toArray T
  exact ⟨hb.cell (by rw [List.getElem?_toArray]; exact h1), A, hb.cell (by rw [List.getElem?_toArray]; exact h2), h3.below ((Below.refl _ _).alloc (Nat.le_refl _) _)⟩
abbrev Raw := Int × Option Addr × Nat × Nat
def eStm : Raw → Nat → Value := fun x j => match j with
  | 0 => .int .i64 x.1
  | _ => .slice x.2.1 x.2.2.1 x.2.2.2
theorem kStm : KindOk 72 108 2 eStm := ⟨Tryz.underlying72, by obtain ⟨i, a, b, c, d⟩ := info_parts (show (Tryz.prog.info? 108).map (fun i => (i.zero, i.size, i.bytes)) = some (some (.agg #[.int .i64 0, .slice none 0 0]), 2, 32) by kernel_rfl); exact ⟨i, _, _, a, b, c, d, rfl, by omega⟩, by omega, fun x j => by unfold eStm; split <;> rfl⟩
/-- One statement: its line, and its tokens in memory. -/
structure StmIs (w : World) (x : Raw) (s : Sy.St) : Prop where
  line : x.1 = s.1
  len : x.2.2.1 = s.2.length
  cap : x.2.2.1 ≤ x.2.2.2
  small : s.2.length ≤ 600
  toks : ListAt 3 eTok w x.2.1 s.2
def Stms (w : World) (xs : List Raw) (ss : List Sy.St) : Prop := xs.length = ss.length ∧ ∀ (k : Nat) (x : Raw) (s : Sy.St), xs[k]? = some x → ss[k]? = some s → StmIs w x s
theorem StmIs.below {w w' : World} {x : Raw} {s : Sy.St} (h : StmIs w x s) (hb : Below w.heap.size w w') : StmIs w' x s := ⟨h.line, h.len, h.cap, h.small, h.toks.below hb⟩
theorem Stms.below {w w' : World} {xs : List Raw} {ss : List Sy.St} (h : Stms w xs ss) (hb : Below w.heap.size w w') : Stms w' xs ss := ⟨h.1, fun k x s hx hs => (h.2 k x s hx hs).below hb⟩
theorem Stms.snoc {w : World} {xs : List Raw} {ss : List Sy.St} (h : Stms w xs ss) {x : Raw} {s : Sy.St} (hx : StmIs w x s) : Stms w (xs ++ [x]) (ss ++ [s]) := by
  refine ⟨by simp [h.1], fun k y t hy ht => ?_⟩
  by_cases hk : k < xs.length
  · rw [List.getElem?_append_left hk] at hy
    rw [List.getElem?_append_left (by rw [← h.1]; exact hk)] at ht
    exact h.2 k y t hy ht
  · rw [List.getElem?_append_right (by omega)] at hy
    rw [List.getElem?_append_right (by have := h.1; omega)] at ht
    have h0 : k - xs.length = 0 := by
      rcases Nat.eq_zero_or_pos (k - xs.length) with h | h
      · exact h
      · rw [List.getElem?_eq_none (by simp; omega)] at hy; cases hy
    rw [h0] at hy
    rw [show k - ss.length = 0 by have := h.1; omega] at ht
    simp at hy ht
    subst hy; subst ht
    exact hx
/-- A list of statements in memory. -/
def StmsAt (w : World) (A : Option Addr) (ss : List Sy.St) : Prop := ∃ xs, ListAt 2 eStm w A xs ∧ Stms w xs ss
theorem StmsAt.below {w w' : World} {A : Option Addr} {ss : List Sy.St} (h : StmsAt w A ss) (hb : Below w.heap.size w w') : StmsAt w' A ss := by
  obtain ⟨xs, h1, h2⟩ := h
  exact ⟨xs, h1.below hb, h2.below hb⟩
theorem StmsAt.nil_ {w : World} {A : Option Addr} : StmsAt w A [] := ⟨[], ListAt.nil_, rfl, fun k x s h => by simp at h⟩
theorem StmsAt.get {w : World} {A : Option Addr} {ss : List Sy.St} (h : StmsAt w A ss) {k : Nat} {s : Sy.St} (hs : ss[k]? = some s) :
    ∃ b off T c, A = some ⟨b, off, none⟩ ∧ b < w.heap.size ∧ w.cell? ⟨b, off + k * 2, none⟩ = some (.int .i64 s.1) ∧ w.cell? ⟨b, off + k * 2 + 1, none⟩ = some (.slice T s.2.length c) ∧ s.2.length ≤ c ∧ s.2.length ≤ 600 ∧ ListAt 3 eTok w T s.2 := by
  obtain ⟨xs, h1, h2, h3⟩ := h
  have hk := (List.getElem?_eq_some_iff.1 hs).1
  obtain ⟨x, hx⟩ := get_ex (xs := xs) (i := k) (by omega)
  obtain ⟨b, off, ea, hb, hc⟩ := h1 (by omega)
  have hx3 := h3 k x s hx hs
  have c0 := hc k x hx 0 (by decide)
  have c1 := hc k x hx 1 (by decide)
  simp only [eStm] at c0 c1
  rw [hx3.line] at c0
  rw [hx3.len] at c1
  exact ⟨b, off, x.2.1, x.2.2.2, ea, hb, c0, c1, by rw [← hx3.len]; exact hx3.cap, hx3.small, hx3.toks⟩
/-- A row of statements that the call owns: the tokens lie elsewhere. -/
def OwnS (w : World) (B : Nat) (v : Value) (ss : List Sy.St) : Prop := ∃ xs, OwnL 108 2 eStm w B v xs ∧ Stms w xs ss ∧ ∀ x ∈ xs, ∀ ad, x.2.1 = some ad → some ad.block ≠ v.ownBlock ∧ ad.block < w.heap.size
theorem OwnS.nil_ (w : World) (B : Nat) : OwnS w B (.slice none 0 0) [] := ⟨[], OwnL.nil_ _ _, ⟨rfl, fun k x s h => by simp at h⟩, fun x h => by cases h⟩
theorem OwnS.below {w w' : World} {B : Nat} {v : Value} {ss : List Sy.St} (h : OwnS w B v ss) (hb : Below w.heap.size w w') : OwnS w' B v ss := by
  obtain ⟨xs, h1, h2, h3⟩ := h
  exact ⟨xs, h1.below hb, h2.below hb, fun x hx ad e => ⟨(h3 x hx ad e).1, Nat.lt_of_lt_of_le (h3 x hx ad e).2 hb.size⟩⟩
theorem OwnS.alloc {w : World} {B : Nat} {v : Value} {ss : List Sy.St} (h : OwnS w B v ss) (o : Obj) : OwnS (w.alloc o) B v ss := h.below ((Below.refl _ _).alloc (Nat.le_refl _) o)
theorem OwnS.shape {w : World} {B : Nat} {v : Value} {ss : List Sy.St} (h : OwnS w B v ss) : ∃ A c, v = .slice A ss.length c ∧ ss.length ≤ c ∧ StmsAt w A ss := by
  obtain ⟨xs, h1, h2, h3⟩ := h
  obtain ⟨A, c, rfl, hc, _, hl⟩ := h1.shape
  have e := h2.1
  exact ⟨A, c, by rw [e], by rw [← e]; exact hc, xs, hl, h2⟩
theorem OwnS.own {w : World} {B : Nat} {v : Value} {ss : List Sy.St} (h : OwnS w B v ss) : ∀ g, v.ownBlock = some g → g < w.heap.size := by
  obtain ⟨xs, h1, h2, h3⟩ := h
  intro g hg
  exact (World.ownsRow.lt h1 g hg).2
end Go.Proofs.YtphenbfhojdcpaaGreatDoor
