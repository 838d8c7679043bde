/- What Valid, New and lowest of package ratio return, and Valid and New of its reference. They lay new memory and change nothing that was there. -/
import Derived.Test.YtcannkndedlooaaDoorRatA
import Derived.RegionTactic
import Derived.ChangeAlike
import Derived.Deep.RegionWith
import Derived.Deep.RegionHeld3
namespace Go.Proofs.YtcannkndedlooaaDoor
open Go.RowKit
set_option linter.unusedVariables false

theorem bcell {W w1 : World} (hb : Below W.heap.size W w1) : (∀ b o, b < W.heap.size → w1.cell? ⟨b, o, none⟩ = W.cell? ⟨b, o, none⟩) ∧ (∀ b o, b < W.heap.size → w1.frozen? ⟨b, o, none⟩ = W.frozen? ⟨b, o, none⟩) :=
  ⟨fun b o h => hb.cell (p := ⟨b, o, none⟩) h, fun b o h => hb.frozen (p := ⟨b, o, none⟩) h⟩
def I64 (n : Int) : Prop := -9223372036854775808 ≤ n ∧ n ≤ 9223372036854775807
theorem below_box (w : World) (o : Obj) (n : Nat) : Below w.heap.size w ((w.alloc o).drewN n) := below_drewN ((Below.refl _ _).alloc (Nat.le_refl _) o) n
theorem bstep {W w w' : World} (h : Below W.heap.size W w) (k : Below w.heap.size w w') : Below W.heap.size W w' := h.trans (k.mono h.size)
theorem bstepA {W w w' : World} {o : Obj} (h : Below W.heap.size W w) (k : Below (w.alloc o).heap.size (w.alloc o) w') : Below W.heap.size W w' := bstep (h.alloc h.size o) k

set_option maxHeartbeats 400000 in
theorem valid_yes (n d : Int) (w : World) (hv : Rt.vld n d) :
    Calls Tryd.prog 19 #[.agg #[.int .i64 n, .int .i64 d]] w fun e w' => e = .returned (.bool true) ∧ Below w.heap.size w w' := by
  obtain ⟨h1, h2, h3, h4, h5⟩ := hv
  have hg : ((Rt.g n d : Int) == 1) = true := by simp [h5]
  clear h5
  go_enter Tryd.func19, Tryd.ntmps19
  go_wp2_with fail
  refine (inR_yes n d _ h1 h2 h3 h4).mono ?_
  rintro e w' ⟨rfl, rfl⟩
  go_wp2_with fail
  refine (divisor_any n d _ h3 h4 h1 h2).mono ?_
  rintro e w' ⟨rfl, rfl⟩
  go_wp2_with fail
  go_ret
  exact ⟨rfl, (Below.refl _ _).alloc (Nat.le_refl _) _⟩
set_option maxHeartbeats 400000 in
theorem valid_no (n d : Int) (w : World) (hn : I64 n) (hd : I64 d) (hv : ¬ Rt.vld n d) :
    Calls Tryd.prog 19 #[.agg #[.int .i64 n, .int .i64 d]] w fun e w' => e = .returned (.bool false) ∧ Below w.heap.size w w' := by
  obtain ⟨hn1, hn2⟩ := hn
  obtain ⟨hd1, hd2⟩ := hd
  by_cases hr : 1 ≤ d ∧ d ≤ 4611686018427387904 ∧ -4611686018427387904 ≤ n ∧ n ≤ 4611686018427387904
  · have h5 : Rt.g n d ≠ 1 := fun h => hv ⟨hr.1, hr.2.1, hr.2.2.1, hr.2.2.2, h⟩
    have hg : ((Rt.g n d : Int) == 1) = false := by simp [h5]
    obtain ⟨h1, h2, h3, h4⟩ := hr
    clear h5 hv
    go_enter Tryd.func19, Tryd.ntmps19
    go_wp2_with fail
    refine (inR_yes n d _ h1 h2 h3 h4).mono ?_
    rintro e w' ⟨rfl, rfl⟩
    go_wp2_with fail
    refine (divisor_any n d _ h3 h4 h1 h2).mono ?_
    rintro e w' ⟨rfl, rfl⟩
    go_wp2_with fail
    go_ret
    exact ⟨rfl, (Below.refl _ _).alloc (Nat.le_refl _) _⟩
  · go_enter Tryd.func19, Tryd.ntmps19
    go_wp2_with fail
    refine (inR_no n d _ hr).mono ?_
    rintro e w' ⟨rfl, rfl⟩
    go_wp2_with fail
    go_ret
    exact ⟨rfl, (Below.refl _ _).alloc (Nat.le_refl _) _⟩
theorem valid_any (n d : Int) (w : World) (hn : I64 n) (hd : I64 d) :
    Calls Tryd.prog 19 #[.agg #[.int .i64 n, .int .i64 d]] w fun e w' => e = .returned (.bool (Rt.vldB n d)) ∧ Below w.heap.size w w' := by
  by_cases hv : Rt.vld n d
  · rw [Rt.vldB_iff.2 hv]; exact valid_yes n d w hv
  · rw [Rt.vldB_not.2 hv]; exact valid_no n d w hn hd hv

set_option maxHeartbeats 400000 in
theorem rvalid_yes (n d : Int) (w : World) (hv : Rt.vld n d) :
    Calls Tryd.prog 20 #[.agg #[.int .i64 n, .int .i64 d]] w fun e w' => e = .returned (.bool true) ∧ Below w.heap.size w w' := by
  obtain ⟨h1, h2, h3, h4, h5⟩ := hv
  have b1 := Rt.ab_bd h3 h4
  have hg : ((Rt.g (Rt.ab n) d : Int) == 1) = true := by rw [Rt.g_ab]; simp [h5]
  clear h5
  go_enter Tryd.func20, Tryd.ntmps20
  go_wp2_with fail
  go_quiet ((first | (go_at_call 38; exact qsame (rin_yes _ _ h3 h4)) | (go_at_call 33; exact qsame (rsize_any _ _ h3 h4)) | (go_at_call 30; exact qdrew (rgcd_any _ _ _ b1.1 b1.2 h1 h2))))
  go_wp2_with fail
  go_ret
  exact ⟨rfl, below_box _ _ _⟩
set_option maxHeartbeats 400000 in
theorem rvalid_no (n d : Int) (w : World) (hn : I64 n) (hd : I64 d) (hv : ¬ Rt.vld n d) :
    Calls Tryd.prog 20 #[.agg #[.int .i64 n, .int .i64 d]] w fun e w' => e = .returned (.bool false) ∧ Below w.heap.size w w' := by
  obtain ⟨hn1, hn2⟩ := hn
  obtain ⟨hd1, hd2⟩ := hd
  by_cases hr : -4611686018427387904 ≤ n ∧ n ≤ 4611686018427387904
  · obtain ⟨h3, h4⟩ := hr
    by_cases h1 : 1 ≤ d
    · by_cases h2 : d ≤ 4611686018427387904
      · have h5 : Rt.g n d ≠ 1 := fun h => hv ⟨h1, h2, h3, h4, h⟩
        have b1 := Rt.ab_bd h3 h4
        have hg : ((Rt.g (Rt.ab n) d : Int) == 1) = false := by rw [Rt.g_ab]; simp [h5]
        clear h5 hv
        go_enter Tryd.func20, Tryd.ntmps20
        go_wp2_with fail
        go_quiet ((first | (go_at_call 38; exact qsame (rin_yes _ _ h3 h4)) | (go_at_call 33; exact qsame (rsize_any _ _ h3 h4)) | (go_at_call 30; exact qdrew (rgcd_any _ _ _ b1.1 b1.2 h1 h2))))
        go_wp2_with fail
        go_ret
        exact ⟨rfl, below_box _ _ _⟩
      · have hd : decide (d ≤ 4611686018427387904) = false := by simp; omega
        clear hv
        go_enter Tryd.func20, Tryd.ntmps20
        go_wp2_with fail
        go_quiet ((go_at_call 38; exact qsame (rin_yes _ _ h3 h4)))
        go_wp2_with fail
        go_ret
        exact ⟨rfl, below_box _ _ _⟩
    · have hd : decide (1 ≤ d) = false := by simp; omega
      clear hv
      go_enter Tryd.func20, Tryd.ntmps20
      go_wp2_with fail
      go_quiet ((go_at_call 38; exact qsame (rin_yes _ _ h3 h4)))
      go_wp2_with fail
      go_ret
      exact ⟨rfl, below_box _ _ _⟩
  · go_enter Tryd.func20, Tryd.ntmps20
    go_wp2_with fail
    go_quiet ((go_at_call 38; exact qsame (rin_no _ _ hr)))
    go_wp2_with fail
    go_ret
    exact ⟨rfl, below_box _ _ _⟩
theorem rvalid_any (n d : Int) (w : World) (hn : I64 n) (hd : I64 d) :
    Calls Tryd.prog 20 #[.agg #[.int .i64 n, .int .i64 d]] w fun e w' => e = .returned (.bool (Rt.vldB n d)) ∧ Below w.heap.size w w' := by
  by_cases hv : Rt.vld n d
  · rw [Rt.vldB_iff.2 hv]; exact rvalid_yes n d w hv
  · rw [Rt.vldB_not.2 hv]; exact rvalid_no n d w hn hd hv

set_option maxHeartbeats 800000 in
theorem low_any (n d : Int) (w : World) (n1 : -4611686018427387904 ≤ n) (n2 : n ≤ 4611686018427387904) (d1 : 1 ≤ d) (d2 : d ≤ 4611686018427387904) :
    Calls Tryd.prog 41 #[.int .i64 n, .int .i64 d] w fun e w' => e = .returned (.agg #[.int .i64 (Rt.lowN n d), .int .i64 (Rt.lowD n d)]) ∧ Below w.heap.size w w' := by
  have hg1 := Rt.g_pos (a := n) d1
  have hg2 := Rt.g_le (a := n) d1
  have hg0 : ((Rt.g n d : Int) == 0) = false := by simp; omega
  go_enter Tryd.func41, Tryd.ntmps41
  go_wp2_with fail
  refine (divisor_any n d _ n1 n2 d1 d2).mono ?_
  rintro e w' ⟨rfl, rfl⟩
  go_wp2_with fail
  go_region
  go_wp2_with fail
  exact bodyPost_ret (v := .agg #[.int .i64 (Rt.lowN n d), .int .i64 (Rt.lowD n d)]) (by simp [results, Tryd.results41, go_sem, Rt.lowN, Rt.lowD]) rfl ⟨rfl, ((Below.refl _ _).alloc (Nat.le_refl _) _).drew⟩

/-- What New returns. -/
def newS (n d : Int) : Int × Int × Int := if 1 ≤ d ∧ d ≤ 4611686018427387904 ∧ -4611686018427387904 ≤ n ∧ n ≤ 4611686018427387904 then (Rt.lowN n d, Rt.lowD n d, 0) else (0, 0, 1)
def Ret3 (r : Int × Int × Int) (w : World) (e : Ending) (w' : World) : Prop := e = .returned (.tuple #[.agg #[.int .i64 r.1, .int .i64 r.2.1], .int .i64 r.2.2]) ∧ Below w.heap.size w w'

set_option maxHeartbeats 400000 in
theorem new_yes (n d : Int) (w : World) (h1 : 1 ≤ d) (h2 : d ≤ 4611686018427387904) (h3 : -4611686018427387904 ≤ n) (h4 : n ≤ 4611686018427387904) :
    Calls Tryd.prog 23 #[.int .i64 n, .int .i64 d] w fun e w' => e = .returned (.tuple #[.agg #[.int .i64 (Rt.lowN n d), .int .i64 (Rt.lowD n d)], .int .i64 0]) ∧ Below w.heap.size w w' := by
  go_enter Tryd.func23, Tryd.ntmps23
  go_wp2_with fail
  refine (inR_yes n d _ h1 h2 h3 h4).mono ?_
  rintro e w' ⟨rfl, rfl⟩
  go_wp2_with fail
  refine (low_any n d _ h3 h4 h1 h2).mono ?_
  rintro e w1 ⟨rfl, hb⟩
  obtain ⟨hc, hf⟩ := bcell hb
  have hz : w.heap.size < w1.heap.size := by have := hb.size; simp at this; omega
  go_wp2_with fail
  exact bodyPost_ret (v := .tuple #[.agg #[.int .i64 (Rt.lowN n d), .int .i64 (Rt.lowD n d)], .int .i64 0]) (by simp [results, Tryd.results23, go_sem, hc]) rfl ⟨rfl, (((Below.refl _ _).alloc (Nat.le_refl _) _).trans (hb.mono (by simp))).setCell (by simp) _ |>.setCell (by simp) _⟩
set_option maxHeartbeats 400000 in
theorem new_no (n d : Int) (w : World) (h : ¬ (1 ≤ d ∧ d ≤ 4611686018427387904 ∧ -4611686018427387904 ≤ n ∧ n ≤ 4611686018427387904)) :
    Calls Tryd.prog 23 #[.int .i64 n, .int .i64 d] w fun e w' => e = .returned (.tuple #[.agg #[.int .i64 0, .int .i64 0], .int .i64 1]) ∧ Below w.heap.size w w' := by
  go_enter Tryd.func23, Tryd.ntmps23
  go_wp2_with fail
  refine (inR_no n d _ h).mono ?_
  rintro e w' ⟨rfl, rfl⟩
  go_wp2_with fail
  exact bodyPost_ret (v := .tuple #[.agg #[.int .i64 0, .int .i64 0], .int .i64 1]) (by simp [results, Tryd.results23, go_sem]) rfl ⟨rfl, (Below.refl _ _).alloc (Nat.le_refl _) _⟩

set_option maxHeartbeats 800000 in
theorem rnew_yes (n d : Int) (w : World) (h1 : 1 ≤ d) (h2 : d ≤ 4611686018427387904) (h3 : -4611686018427387904 ≤ n) (h4 : n ≤ 4611686018427387904) :
    Calls Tryd.prog 24 #[.int .i64 n, .int .i64 d] w fun e w' => e = .returned (.tuple #[.agg #[.int .i64 (Rt.lowN n d), .int .i64 (Rt.lowD n d)], .int .i64 0]) ∧ Below w.heap.size w w' := by
  have b1 := Rt.ab_bd h3 h4
  have hg1 := Rt.g_pos (a := n) h1
  have hg2 := Rt.g_le (a := n) h1
  have hg0 : ((Rt.g n d : Int) == 0) = false := by simp; omega
  have ha := Lib.hid (Rt.g_ab n d)
  go_enter Tryd.func24, Tryd.ntmps24
  go_wp2_with fail
  refine (rin_yes n _ h3 h4).mono ?_
  rintro e w' ⟨rfl, rfl⟩
  go_wp2_with fail
  refine (rsize_any n _ h3 h4).mono ?_
  rintro e w' ⟨rfl, rfl⟩
  go_wp2_with fail
  refine (rgcd_any _ _ _ b1.1 b1.2 h1 h2).mono ?_
  rw [ha.out]
  rintro e w' ⟨rfl, m, rfl⟩
  go_wp2_with fail
  go_region
  go_wp2_with fail
  exact bodyPost_ret (v := .tuple #[.agg #[.int .i64 (Rt.lowN n d), .int .i64 (Rt.lowD n d)], .int .i64 0]) (by simp [results, Tryd.results24, go_sem, Rt.lowN, Rt.lowD]) rfl ⟨rfl, by first | exact (below_box _ _ _).drew | exact below_box _ _ _ | exact ((below_box _ _ _).setCell (by simp) _).setCell (by simp) _⟩
set_option maxHeartbeats 400000 in
theorem rnew_no (n d : Int) (w : World) (h : ¬ (1 ≤ d ∧ d ≤ 4611686018427387904 ∧ -4611686018427387904 ≤ n ∧ n ≤ 4611686018427387904)) :
    Calls Tryd.prog 24 #[.int .i64 n, .int .i64 d] w fun e w' => e = .returned (.tuple #[.agg #[.int .i64 0, .int .i64 0], .int .i64 1]) ∧ Below w.heap.size w w' := by
  by_cases hr : -4611686018427387904 ≤ n ∧ n ≤ 4611686018427387904
  · obtain ⟨h3, h4⟩ := hr
    rcases (show d < 1 ∨ (1 ≤ d ∧ 4611686018427387904 < d) by omega) with h1 | ⟨h1, h2⟩
    all_goals
      go_enter Tryd.func24, Tryd.ntmps24
      go_wp2_with fail
      refine (rin_yes n _ h3 h4).mono ?_
      rintro e w' ⟨rfl, rfl⟩
      go_wp2_with fail
      exact bodyPost_ret (v := .tuple #[.agg #[.int .i64 0, .int .i64 0], .int .i64 1]) (by simp [results, Tryd.results24, go_sem]) rfl ⟨rfl, (Below.refl _ _).alloc (Nat.le_refl _) _⟩
  · go_enter Tryd.func24, Tryd.ntmps24
    go_wp2_with fail
    refine (rin_no n _ hr).mono ?_
    rintro e w' ⟨rfl, rfl⟩
    go_wp2_with fail
    exact bodyPost_ret (v := .tuple #[.agg #[.int .i64 0, .int .i64 0], .int .i64 1]) (by simp [results, Tryd.results24, go_sem]) rfl ⟨rfl, (Below.refl _ _).alloc (Nat.le_refl _) _⟩

/-- Both New give one answer. -/
theorem new_both (n d : Int) : ∃ r : Int × Int × Int, (∀ w, Calls Tryd.prog 23 #[.int .i64 n, .int .i64 d] w (Ret3 r w)) ∧ (∀ w, Calls Tryd.prog 24 #[.int .i64 n, .int .i64 d] w (Ret3 r w)) := by
  by_cases h : 1 ≤ d ∧ d ≤ 4611686018427387904 ∧ -4611686018427387904 ≤ n ∧ n ≤ 4611686018427387904
  · exact ⟨(Rt.lowN n d, Rt.lowD n d, 0), fun w => new_yes n d w h.1 h.2.1 h.2.2.1 h.2.2.2, fun w => rnew_yes n d w h.1 h.2.1 h.2.2.1 h.2.2.2⟩
  · exact ⟨(0, 0, 1), fun w => new_no n d w h, fun w => rnew_no n d w h⟩

theorem size_pos (n : Int) (w : World) (h1 : 0 ≤ n) (h2 : n ≤ 4611686018427387904) :
    Calls Tryd.prog 48 #[.int .i64 n] w fun e w' => e = .returned (.int .u64 n) ∧ w = w' := by
  have h := size_any n w (by omega) h2
  rw [show Rt.ab n = n by unfold Rt.ab; rw [if_neg (by omega)]] at h
  exact h

theorem size_neg (n : Int) (w : World) (h1 : -4611686018427387904 ≤ n) (h2 : n < 0) :
    Calls Tryd.prog 48 #[.int .i64 n] w fun e w' => e = .returned (.int .u64 (-n)) ∧ w = w' := by
  have h := size_any n w h1 (by omega)
  rw [show Rt.ab n = -n by unfold Rt.ab; rw [if_pos h2]] at h
  exact h

/-- Two products of 124 bits, compared by their halves. -/
theorem halves {p q h1 l1 h2 l2 : Int} (e1 : p / 18446744073709551616 = h1) (e2 : p % 18446744073709551616 = l1) (e3 : q / 18446744073709551616 = h2) (e4 : q % 18446744073709551616 = l2) :
    (p < q ∧ (h1 < h2 ∨ (h1 = h2 ∧ l1 < l2))) ∨ (¬ p < q ∧ (h2 < h1 ∨ (h1 = h2 ∧ l2 ≤ l1))) := by omega
theorem half_bd {a b h l : Int} (a1 : 0 ≤ a) (a2 : a ≤ 4611686018427387904) (b1 : 0 ≤ b) (b2 : b ≤ 4611686018427387904) (e1 : a * b / 18446744073709551616 = h) (e2 : a * b % 18446744073709551616 = l) :
    0 ≤ h ∧ h ≤ 4611686018427387904 ∧ 0 ≤ l ∧ l < 18446744073709551616 := by
  have h3 : a * b ≤ 4611686018427387904 * 4611686018427387904 := Int.mul_le_mul a2 b2 b1 (by omega)
  have h4 : 0 ≤ a * b := Int.mul_nonneg a1 b1
  omega

set_option maxHeartbeats 800000 in
theorem smaller_any (an ad bn bd : Int) (w : World) (a1 : -4611686018427387904 ≤ an) (a2 : an ≤ 4611686018427387904) (b1 : -4611686018427387904 ≤ bn) (b2 : bn ≤ 4611686018427387904) (c1 : 1 ≤ ad) (c2 : ad ≤ 4611686018427387904) (d1 : 1 ≤ bd) (d2 : bd ≤ 4611686018427387904) (t : Bool) (ht : Rt.ltB (Rt.ab an) ad (Rt.ab bn) bd = t) :
    Calls Tryd.prog 34 #[.agg #[.int .i64 an, .int .i64 ad], .agg #[.int .i64 bn, .int .i64 bd]] w fun e w' => e = .returned (.bool t) ∧ Below w.heap.size w w' := by
  obtain ⟨h1, e1⟩ : ∃ h, Rt.ab an * bd / 18446744073709551616 = h := ⟨_, rfl⟩
  obtain ⟨l1, e2⟩ : ∃ h, Rt.ab an * bd % 18446744073709551616 = h := ⟨_, rfl⟩
  obtain ⟨h2, e3⟩ : ∃ h, Rt.ab bn * ad / 18446744073709551616 = h := ⟨_, rfl⟩
  obtain ⟨l2, e4⟩ : ∃ h, Rt.ab bn * ad % 18446744073709551616 = h := ⟨_, rfl⟩
  have v1 := Rt.ab_bd a1 a2
  have v2 := Rt.ab_bd b1 b2
  have hb := half_bd v1.1 v1.2 (show 0 ≤ bd by omega) d2 e1 e2
  have hb2 := half_bd v2.1 v2.2 (show 0 ≤ ad by omega) c2 e3 e4
  have hk := halves e1 e2 e3 e4
  have E1 := Lib.hid e1
  have E2 := Lib.hid e2
  have E3 := Lib.hid e3
  have E4 := Lib.hid e4
  clear e1 e2 e3 e4
  have ht' : (Rt.ab an * bd < Rt.ab bn * ad ∧ t = true) ∨ (¬ Rt.ab an * bd < Rt.ab bn * ad ∧ t = false) := by
    subst ht
    unfold Rt.ltB
    by_cases h : Rt.ab an * bd < Rt.ab bn * ad
    · exact .inl ⟨h, by simp [h]⟩
    · exact .inr ⟨h, by simp [h]⟩
  clear ht
  have hk2 : (t = true ∧ h1 < h2) ∨ (t = true ∧ h1 = h2 ∧ l1 < l2) ∨ (t = false ∧ h2 < h1) ∨ (t = false ∧ h1 = h2 ∧ l2 ≤ l1) := by
    rcases ht' with ⟨u, v⟩ | ⟨u, v⟩ <;> subst v <;> simp <;> omega
  clear hk ht'
  rcases hk2 with ⟨rfl, hlt⟩ | ⟨rfl, rfl, hlt⟩ | ⟨rfl, hlt⟩ | ⟨rfl, rfl, hlt⟩
  iterate 3
    · go_enter Tryd.func34, Tryd.ntmps34
      go_wp2_with fail
      go_quiet ((first | (go_at_call 48; first | exact qsame (size_pos _ _ (by omega) (by omega)) | exact qsame (size_any _ _ (by omega) (by omega))) | (go_at_call 47; exact qsame (mul64_is _ _ _ _ _ (by omega) (by omega) (by omega) (by omega) E1.out E2.out))))
      go_wp2_with fail
      go_quiet ((first | (go_at_call 48; first | exact qsame2 (size_pos _ _ (by omega) (by omega)) | exact qsame2 (size_any _ _ (by omega) (by omega))) | (go_at_call 47; exact qsame2 (mul64_is _ _ _ _ _ (by omega) (by omega) (by omega) (by omega) E3.out E4.out))))
      go_wp2_with fail
      go_ret
      exact ⟨by first | rfl | exact ret_bool (by simp; omega), below_drewN (((Below.refl _ _).alloc (Nat.le_refl _) _).alloc (by simp) _) _⟩
  · have hd : decide (l1 < l2) = false := by simp; omega
    go_enter Tryd.func34, Tryd.ntmps34
    go_wp2_with fail
    go_quiet ((first | (go_at_call 48; first | exact qsame (size_pos _ _ (by omega) (by omega)) | exact qsame (size_any _ _ (by omega) (by omega))) | (go_at_call 47; exact qsame (mul64_is _ _ _ _ _ (by omega) (by omega) (by omega) (by omega) E1.out E2.out))))
    go_wp2_with fail
    go_quiet ((first | (go_at_call 48; first | exact qsame2 (size_pos _ _ (by omega) (by omega)) | exact qsame2 (size_any _ _ (by omega) (by omega))) | (go_at_call 47; exact qsame2 (mul64_is _ _ _ _ _ (by omega) (by omega) (by omega) (by omega) E3.out E4.out))))
    go_wp2_with fail
    go_ret
    exact ⟨by first | rfl | exact ret_bool (by simp; omega), below_drewN (((Below.refl _ _).alloc (Nat.le_refl _) _).alloc (by simp) _) _⟩
end Go.Proofs.YtcannkndedlooaaDoor
