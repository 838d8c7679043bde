/- The examples of chapter 1: the law's function sane returns true. -/
import Derived.Test.YtnbfbkomgdnlnaaDoorCivD
namespace Go.Proofs.YtnbfbkomgdnlnaaDoor
open Go.RowKit
set_option linter.unusedVariables false

theorem bstep {W w w' : World} (h : Below W.heap.size W w) (k : Below w.heap.size w w') : Below W.heap.size W w' := h.trans (k.mono h.size)
theorem bstepA {W w w' : World} {o : Obj} (h : Below W.heap.size W w) (k : Below (w.alloc o).heap.size (w.alloc o) w') : Below W.heap.size W w' := bstep (h.alloc h.size o) k

/-- A date lies at block b. -/
def DateAt (w : World) (b : Nat) (y m d : Int) : Prop := w.cell? ⟨b, 0, none⟩ = some (.int .i64 y) ∧ w.cell? ⟨b, 1, none⟩ = some (.int .i64 m) ∧ w.cell? ⟨b, 2, none⟩ = some (.int .i64 d)
theorem DateAt.lt {w : World} {b : Nat} {y m d : Int} (h : DateAt w b y m d) : b < w.heap.size := World.block_lt_of_cell? w _ h.1
theorem DateAt.below {w w' : World} {b : Nat} {y m d : Int} (h : DateAt w b y m d) (k : Below w.heap.size w w') : DateAt w' b y m d :=
  ⟨(k.cell (p := ⟨b, 0, none⟩) h.lt).trans h.1, (k.cell (p := ⟨b, 1, none⟩) h.lt).trans h.2.1, (k.cell (p := ⟨b, 2, none⟩) h.lt).trans h.2.2⟩
theorem DateAt.alloc {w : World} {b : Nat} {y m d : Int} (h : DateAt w b y m d) (o : Obj) : DateAt (w.alloc o) b y m d := h.below ((Below.refl _ _).alloc (Nat.le_refl _) o)
theorem DateAt.drewN {w : World} {b : Nat} {y m d : Int} (h : DateAt w b y m d) (n : Nat) : DateAt (w.drewN n) b y m d := h.below (below_drewN (Below.refl _ _) n)
theorem DateAt.drew {w : World} {b : Nat} {y m d : Int} (h : DateAt w b y m d) : DateAt w.drew b y m d := h.below (Below.refl _ _).drew
theorem DateAt.new (w : World) (y m d : Int) (t : TypeId) : DateAt (w.alloc (.cells #[.int .i64 y, .int .i64 m, .int .i64 d] t)) w.heap.size y m d := by
  refine ⟨?_, ?_, ?_⟩ <;> simp

theorem day_is {y m d n : Int} (hv : Civ.vldB y m d = true) (hn : Civ.num y m d = n) (w : World) (hT : CivT w) :
    Calls Tryd.prog 9 #[.agg #[.int .i64 y, .int .i64 m, .int .i64 d]] w fun e w' => e = .returned (.tuple #[.int .i64 n, .int .i64 0]) ∧ Below w.heap.size w w' :=
  hn ▸ day_yes y m d w hT (Civ.vldB_iff.1 hv)
theorem nth_is {y m k v n : Int} (hv : Civ.vldB y m 1 = true) (hk : 1 ≤ k ∧ k ≤ 5 ∧ 0 ≤ v ∧ v ≤ 6) (hn : Civ.nthD (Civ.num y m 1) (Civ.dim y m) k v = n) (w : World) (hT : CivT w) :
    Calls Tryd.prog 21 #[.int .i64 y, .int .i64 m, .int .i64 k, .int .i64 v] w fun e w' => e = .returned (.tuple #[.int .i64 n, .int .i64 0]) ∧ Below w.heap.size w w' :=
  hn ▸ nth_yes y m k v w hT (Civ.vldB_iff.1 hv) hk.1 hk.2.1 hk.2.2.1 hk.2.2.2
theorem addm_is {y m d n y' m' d' : Int} (hv : Civ.vldB y m d = true) (h1 : Civ.amY y m n = y') (h2 : Civ.amM y m n = m') (h3 : min d (Civ.dim y' m') = d') (h4 : 1970 ≤ y') (h5 : y' ≤ 2240) (w : World) (hT : CivT w) :
    Calls Tryd.prog 11 #[.agg #[.int .i64 y, .int .i64 m, .int .i64 d], .int .i64 n] w fun e w' => e = .returned (.tuple #[.agg #[.int .i64 y', .int .i64 m', .int .i64 d'], .int .i64 0]) ∧ Below w.heap.size w w' := by
  subst h1 h2 h3
  exact addm_yes y m d n w hT (Civ.vldB_iff.1 hv) h4 h5
theorem week_is {y m d n a b : Int} (hv : Civ.vldB y m d = true) (hn : Civ.num y m d = n) (h1 : Civ.wkY n = a) (h2 : Civ.wkW n = b) (w : World) (hT : CivT w) :
    Calls Tryd.prog 13 #[.agg #[.int .i64 y, .int .i64 m, .int .i64 d]] w fun e w' => e = .returned (.tuple #[.int .i64 a, .int .i64 b, .int .i64 0]) ∧ Below w.heap.size w w' := by
  subst h1 h2
  exact week_yes y m d n w hT (Civ.vldB_iff.1 hv) hn
theorem wday_is {n k : Int} (h : Civ.wd n = k) (w : World) (h1 : -9223372036854775808 ≤ n) (h2 : n ≤ 9223372036854775807) :
    Calls Tryd.prog 25 #[.int .i64 n] w fun e w' => e = .returned (.int .i64 k) ∧ w = w' := h ▸ wday_any n w h1 h2

set_option maxHeartbeats 800000 in
theorem sane_any (w : World) (hT : CivT w) :
    Calls Tryd.prog 27 #[] w fun e w' => e = .returned (.bool true) ∧ Below w.heap.size w w' := by
  go_enter Tryd.func27, Tryd.ntmps27
  go_wp2_with fail
  refine (day_is (n := 11017) (by decide) (by decide) _ hT).mono ?_
  rintro e w1 ⟨rfl, b1⟩
  have hT1 := hT.below b1
  go_wp2_with fail
  refine (nth_is (n := 20541) (by decide) (by decide) (by decide) _ hT1).mono ?_
  rintro e w2 ⟨rfl, b2⟩
  have hT2 := hT1.below b2
  go_wp2_with fail
  refine (addm_is (y' := 2024) (m' := 2) (d' := 29) (by decide) (by decide) (by decide) (by decide) (by decide) (by decide) _ hT2).mono ?_
  rintro e w3 ⟨rfl, b3⟩
  have hT3 := hT2.below b3
  go_wp2_with fail
  refine (week_is (n := 18630) (a := 2020) (b := 53) (by decide) (by decide) (by decide) (by decide) _ (hT3.alloc _)).mono ?_
  rintro e w4 ⟨rfl, b4⟩
  obtain ⟨hc, hf⟩ := bcell b4
  go_wp2_with fail
  refine (wday_is (k := 2) (by decide) _ (by omega) (by omega)).mono ?_
  rintro e w' ⟨rfl, rfl⟩
  go_wp2_with fail
  go_ret
  exact ⟨rfl, bstepA (bstep (bstep b1 b2) b3) b4⟩
end Go.Proofs.YtnbfbkomgdnlnaaDoor
