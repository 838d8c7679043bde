/- The reference's small functions, and its occurrences. -/
import Derived.Test.YtndngkfiamdohaaDoorZni
import Derived.Test.YtndngkfiamdohaaDoorZcr
import Derived.Test.YtndngkfiamdohaaDoorGlc
import Derived.Deep.RegionHeld3
namespace Go.Proofs.YtndngkfiamdohaaDoor
open Go.RowKit
set_option linter.unusedVariables false
set_option maxRecDepth 100000
set_option linter.unusedSimpArgs false

def inB (n lo hi : Int) : Bool := decide (lo ≤ n ∧ n ≤ hi)
theorem inB_yes {n lo hi : Int} (h : lo ≤ n) (h2 : n ≤ hi) : inB n lo hi = true := by unfold inB; simp [h, h2]
theorem inB_no {n lo hi : Int} (h : n < lo ∨ hi < n) : inB n lo hi = false := by unfold inB; simp; omega
theorem in_any (n lo hi : Int) (w : World) : Calls Tryd.prog 50 #[.int .i64 n, .int .i64 lo, .int .i64 hi] w fun e w' => e = .returned (.bool (inB n lo hi)) ∧ w = w' := by
  by_cases h1 : lo ≤ n
  · by_cases h2 : n ≤ hi
    · have h := Lib.hid (inB_yes h1 h2)
      go_enter Tryd.func50, Tryd.ntmps50
      go_wp2_with fail
      go_ret
      exact ⟨ret_bool h.out.symm, rfl⟩
    · have h := Lib.hid (inB_no (n := n) (lo := lo) (hi := hi) (by omega))
      go_enter Tryd.func50, Tryd.ntmps50
      go_wp2_with fail
      go_ret
      exact ⟨ret_bool h.out.symm, rfl⟩
  · have h := Lib.hid (inB_no (n := n) (lo := lo) (hi := hi) (by omega))
    go_enter Tryd.func50, Tryd.ntmps50
    go_wp2_with fail
    go_ret
    exact ⟨ret_bool h.out.symm, rfl⟩
theorem in_is {n lo hi : Int} {b : Bool} (h : inB n lo hi = b) (w : World) : Calls Tryd.prog 50 #[.int .i64 n, .int .i64 lo, .int .i64 hi] w fun e w' => e = .returned (.bool b) ∧ w = w' := h ▸ in_any n lo hi w

set_option maxHeartbeats 4000000 in
theorem right_any (r : Zn.Rule) (w : World) : Calls Tryd.prog 61 #[valR r] w fun e w' => e = .returned (.bool (Zn.okR r)) ∧ Below w.heap.size w w' := by
  obtain ⟨fr, t, mo, wk, wd, sec, off⟩ := r
  unfold valR
  simp only
  have hsp : Zn.okR ⟨fr, t, mo, wk, wd, sec, off⟩ = (inB fr 1970 2240 && inB t fr 2240 && inB mo 1 12 && inB wk 1 5 && inB wd 0 6 && inB sec 0 86399 && inB off (-64800) 64800) := by
    rw [Bool.eq_iff_iff, Zn.okR_iff]; unfold inB; simp; omega
  rw [hsp]
  have b1 := fun W => in_any fr 1970 2240 W
  have b2 := fun W => in_any t fr 2240 W
  have b3 := fun W => in_any mo 1 12 W
  have b4 := fun W => in_any wk 1 5 W
  have b5 := fun W => in_any wd 0 6 W
  have b6 := fun W => in_any sec 0 86399 W
  have b7 := fun W => in_any off (-64800) 64800 W
  generalize inB fr 1970 2240 = p1 at b1 hsp ⊢
  generalize inB t fr 2240 = p2 at b2 hsp ⊢
  generalize inB mo 1 12 = p3 at b3 hsp ⊢
  generalize inB wk 1 5 = p4 at b4 hsp ⊢
  generalize inB wd 0 6 = p5 at b5 hsp ⊢
  generalize inB sec 0 86399 = p6 at b6 hsp ⊢
  generalize inB off (-64800) 64800 = p7 at b7 hsp ⊢
  clear hsp
  have H1 := Lib.hid b1
  have H2 := Lib.hid b2
  have H3 := Lib.hid b3
  have H4 := Lib.hid b4
  have H5 := Lib.hid b5
  have H6 := Lib.hid b6
  have H7 := Lib.hid b7
  clear b1 b2 b3 b4 b5 b6 b7
  cases p1
  · as_aux_lemma =>
    go_enter Tryd.func61, Tryd.ntmps61
    go_wp2_with fail
    refine (H1.out _).mono ?_
    rintro e w' ⟨rfl, rfl⟩
    go_wp2_with fail
    go_ret
    exact ⟨rfl, (Below.refl _ _).alloc (Nat.le_refl _) _⟩
  cases p2
  · as_aux_lemma =>
    go_enter Tryd.func61, Tryd.ntmps61
    go_wp2_with fail
    refine (H1.out _).mono ?_
    rintro e w' ⟨rfl, rfl⟩
    go_wp2_with fail
    refine (H2.out _).mono ?_
    rintro e w' ⟨rfl, rfl⟩
    go_wp2_with fail
    go_ret
    exact ⟨rfl, (Below.refl _ _).alloc (Nat.le_refl _) _⟩
  cases p3
  · as_aux_lemma =>
    go_enter Tryd.func61, Tryd.ntmps61
    go_wp2_with fail
    refine (H1.out _).mono ?_
    rintro e w' ⟨rfl, rfl⟩
    go_wp2_with fail
    refine (H2.out _).mono ?_
    rintro e w' ⟨rfl, rfl⟩
    go_wp2_with fail
    refine (H3.out _).mono ?_
    rintro e w' ⟨rfl, rfl⟩
    go_wp2_with fail
    go_ret
    exact ⟨rfl, (Below.refl _ _).alloc (Nat.le_refl _) _⟩
  cases p4
  · as_aux_lemma =>
    go_enter Tryd.func61, Tryd.ntmps61
    go_wp2_with fail
    refine (H1.out _).mono ?_
    rintro e w' ⟨rfl, rfl⟩
    go_wp2_with fail
    refine (H2.out _).mono ?_
    rintro e w' ⟨rfl, rfl⟩
    go_wp2_with fail
    refine (H3.out _).mono ?_
    rintro e w' ⟨rfl, rfl⟩
    go_wp2_with fail
    refine (H4.out _).mono ?_
    rintro e w' ⟨rfl, rfl⟩
    go_wp2_with fail
    go_ret
    exact ⟨rfl, (Below.refl _ _).alloc (Nat.le_refl _) _⟩
  cases p5
  · as_aux_lemma =>
    go_enter Tryd.func61, Tryd.ntmps61
    go_wp2_with fail
    refine (H1.out _).mono ?_
    rintro e w' ⟨rfl, rfl⟩
    go_wp2_with fail
    refine (H2.out _).mono ?_
    rintro e w' ⟨rfl, rfl⟩
    go_wp2_with fail
    refine (H3.out _).mono ?_
    rintro e w' ⟨rfl, rfl⟩
    go_wp2_with fail
    refine (H4.out _).mono ?_
    rintro e w' ⟨rfl, rfl⟩
    go_wp2_with fail
    refine (H5.out _).mono ?_
    rintro e w' ⟨rfl, rfl⟩
    go_wp2_with fail
    go_ret
    exact ⟨rfl, (Below.refl _ _).alloc (Nat.le_refl _) _⟩
  cases p6
  · as_aux_lemma =>
    go_enter Tryd.func61, Tryd.ntmps61
    go_wp2_with fail
    refine (H1.out _).mono ?_
    rintro e w' ⟨rfl, rfl⟩
    go_wp2_with fail
    refine (H2.out _).mono ?_
    rintro e w' ⟨rfl, rfl⟩
    go_wp2_with fail
    refine (H3.out _).mono ?_
    rintro e w' ⟨rfl, rfl⟩
    go_wp2_with fail
    refine (H4.out _).mono ?_
    rintro e w' ⟨rfl, rfl⟩
    go_wp2_with fail
    refine (H5.out _).mono ?_
    rintro e w' ⟨rfl, rfl⟩
    go_wp2_with fail
    refine (H6.out _).mono ?_
    rintro e w' ⟨rfl, rfl⟩
    go_wp2_with fail
    go_ret
    exact ⟨rfl, (Below.refl _ _).alloc (Nat.le_refl _) _⟩
  go_enter Tryd.func61, Tryd.ntmps61
  go_wp2_with fail
  refine (H1.out _).mono ?_
  rintro e w' ⟨rfl, rfl⟩
  go_wp2_with fail
  refine (H2.out _).mono ?_
  rintro e w' ⟨rfl, rfl⟩
  go_wp2_with fail
  refine (H3.out _).mono ?_
  rintro e w' ⟨rfl, rfl⟩
  go_wp2_with fail
  refine (H4.out _).mono ?_
  rintro e w' ⟨rfl, rfl⟩
  go_wp2_with fail
  refine (H5.out _).mono ?_
  rintro e w' ⟨rfl, rfl⟩
  go_wp2_with fail
  refine (H6.out _).mono ?_
  rintro e w' ⟨rfl, rfl⟩
  go_wp2_with fail
  refine (H7.out _).mono ?_
  rintro e w' ⟨rfl, rfl⟩
  go_wp2_with fail
  go_ret
  exact ⟨rfl, (Below.refl _ _).alloc (Nat.le_refl _) _⟩

/-! Storing a pair into a row of the call's own. -/
theorem encK_set {xs : Zn.L} {i : Nat} {x : Int × Int} (hi : i < xs.length) : encK 2 ePair (xs.set i x) = ((encK 2 ePair xs).set (i * 2) (.int .i64 x.1)).set (i * 2 + 1) (.int .i64 x.2) := by
  have e : xs = xs.take i ++ xs.getD i (0, 0) :: xs.drop (i + 1) := by
    conv => lhs; rw [← List.take_append_drop i xs, Zs.drop_cons xs i hi]
  obtain ⟨y, hy⟩ : ∃ y, xs.getD i (0, 0) = y := ⟨_, rfl⟩
  rw [hy] at e
  have lt : (xs.take i).length = i := by rw [List.length_take]; omega
  have le : (encK 2 ePair (xs.take i)).length = i * 2 := by rw [encK_len, lt]
  have c2 : ∀ z : Int × Int, (List.range 2).map (ePair z) = [.int .i64 z.1, .int .i64 z.2] := fun z => rfl
  conv => lhs; rw [e]
  conv => rhs; rw [e]
  rw [List.set_append_right _ _ (by omega), show i - (xs.take i).length = 0 by omega, List.set_cons_zero, encK_app, encK_app, encK_cons, encK_cons, c2, c2,
    List.set_append_right _ _ (by omega), show i * 2 - (encK 2 ePair (xs.take i)).length = 0 by omega, List.set_append_right _ _ (by omega), show i * 2 + 1 - (encK 2 ePair (xs.take i)).length = 1 by omega]
  rfl
theorem OwnL.setPair {T : TypeId} {w : World} {B g n cap : Nat} {xs : Zn.L} (h : OwnL T 2 ePair w B (.slice (some ⟨g, 0, none⟩) n cap) xs) {i : Nat} (hi : i < xs.length) (x : Int × Int) :
    OwnL T 2 ePair ((w.setCell ⟨g, i * 2, none⟩ (.int .i64 x.1)).setCell ⟨g, i * 2 + 1, none⟩ (.int .i64 x.2)) B (.slice (some ⟨g, 0, none⟩) n cap) (xs.set i x) := by
  rcases h.2 with ⟨hv, -⟩ | ⟨g', cap', cur, hv, hB, hg, hc1, hc2, hc3, hc4⟩
  · cases hv
  cases hv
  unfold OwnL
  have hl := encK_len (k := 2) (e := ePair) (xs.set i x)
  rw [List.length_set] at hl ⊢
  refine ⟨hl, .inr ⟨g, cap, (cur.setIfInBounds (i * 2) (.int .i64 x.1)).setIfInBounds (i * 2 + 1) (.int .i64 x.2), rfl, hB, ?_, hc1, hc2, by simpa using hc3, ?_⟩⟩
  · have b1 : BlkAt w g cur T := hg
    exact BlkAt.set_ (BlkAt.set_ b1 (i * 2) _) (i * 2 + 1) _
  · rw [encK_set hi, ← hc4]
    simp only [Array.toList_setIfInBounds, List.take_set]
end Go.Proofs.YtndngkfiamdohaaDoor
