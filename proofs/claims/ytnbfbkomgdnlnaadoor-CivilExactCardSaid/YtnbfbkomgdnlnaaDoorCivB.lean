/- What package civil's functions on dates return: Valid, Day, DateOf, Nth, AddMonths, Week. They lay new memory and change nothing that was there. -/
import Derived.Test.YtnbfbkomgdnlnaaDoorCivA
namespace Go.Proofs.YtnbfbkomgdnlnaaDoor
open Go.RowKit
set_option linter.unusedVariables false

theorem bcell {W w1 : World} (hb : Below W.heap.size W w1) : (∀ b o, b < W.heap.size → w1.cell? ⟨b, o, none⟩ = W.cell? ⟨b, o, none⟩) ∧ (∀ b o, b < W.heap.size → w1.frozen? ⟨b, o, none⟩ = W.frozen? ⟨b, o, none⟩) :=
  ⟨fun b o h => hb.cell (p := ⟨b, o, none⟩) h, fun b o h => hb.frozen (p := ⟨b, o, none⟩) h⟩
theorem CivT.below {w w' : World} (h : CivT w) (hb : Below w.heap.size w w') : CivT w' :=
  ⟨Nat.lt_of_lt_of_le h.1 hb.size, fun i hi => by rw [hb.cell (p := ⟨0, i, none⟩) h.1]; exact h.2 i hi⟩
theorem CivT.alloc {w : World} (h : CivT w) (o : Obj) : CivT (w.alloc o) := h.below ((Below.refl _ _).alloc (Nat.le_refl _) o)
theorem CivT.drewN {w : World} (h : CivT w) (n : Nat) : CivT (w.drewN n) := h.below (below_drewN (Below.refl _ _) n)

theorem CivT.drew {w : World} (h : CivT w) : CivT w.drew := h.below (Below.refl _ _).drew

def I64 (n : Int) : Prop := -9223372036854775808 ≤ n ∧ n ≤ 9223372036854775807

theorem ret_pair {k : IntKind} {a b : Int} {v : Value} (h : a = b) : Ending.returned (.tuple #[.int k a, v]) = .returned (.tuple #[.int k b, v]) := by rw [h]
theorem below_box (w : World) (o : Obj) (n : Nat) : Below w.heap.size w ((w.alloc o).drewN n) := below_drewN ((Below.refl _ _).alloc (Nat.le_refl _) o) n

set_option maxHeartbeats 400000 in
theorem valid_any (y m d : Int) (w : World) (hT : CivT w) (iy : I64 y) (im : I64 m) (id : I64 d) :
    Calls Tryd.prog 15 #[.agg #[.int .i64 y, .int .i64 m, .int .i64 d]] w fun e w' => e = .returned (.bool (Civ.vldB y m d)) ∧ Below w.heap.size w w' := by
  obtain ⟨iy1, iy2⟩ := iy
  obtain ⟨im1, im2⟩ := im
  obtain ⟨id1, id2⟩ := id
  by_cases h1 : 1970 ≤ y
  · by_cases h2 : y ≤ 2240
    · by_cases h3 : 1 ≤ d
      · have hv := Lib.hid (Civ.vldB_last (m := m) h1 h2 h3)
        go_enter Tryd.func15, Tryd.ntmps15
        go_wp2_with fail
        go_quiet ((go_at_call 19; exact qsame (dim_any y m _ ((hT.alloc _).drewN _) iy1 iy2 im1 im2)))
        go_wp2_with fail
        go_ret
        exact ⟨ret_bool hv.out.symm, below_box _ _ _⟩
      · have hv := Lib.hid (Civ.vldB_not.2 (fun h : Civ.vld y m d => h3 h.2.2.2.2.1))
        have hd : decide (1 ≤ d) = false := by simpa using h3
        go_enter Tryd.func15, Tryd.ntmps15
        go_wp2_with fail
        go_quiet (fail)
        go_wp2_with fail
        go_ret
        exact ⟨ret_bool hv.out.symm, below_box _ _ _⟩
    · have hv := Lib.hid (Civ.vldB_not.2 (fun h : Civ.vld y m d => h2 h.2.1))
      have hd : decide (y ≤ 2240) = false := by simpa using h2
      go_enter Tryd.func15, Tryd.ntmps15
      go_wp2_with fail
      go_quiet (fail)
      go_wp2_with fail
      go_ret
      exact ⟨ret_bool hv.out.symm, below_box _ _ _⟩
  · have hv := Lib.hid (Civ.vldB_not.2 (fun h : Civ.vld y m d => h1 h.1))
    have hd : decide (1970 ≤ y) = false := by simpa using h1
    go_enter Tryd.func15, Tryd.ntmps15
    go_wp2_with fail
    go_quiet (fail)
    go_wp2_with fail
    go_ret
    exact ⟨ret_bool hv.out.symm, below_box _ _ _⟩
theorem valid_is {y m d : Int} {b : Bool} (hb : Civ.vldB y m d = b) (w : World) (hT : CivT w) (iy : I64 y) (im : I64 m) (id : I64 d) :
    Calls Tryd.prog 15 #[.agg #[.int .i64 y, .int .i64 m, .int .i64 d]] w fun e w' => e = .returned (.bool b) ∧ Below w.heap.size w w' :=
  hb ▸ valid_any y m d w hT iy im id

set_option maxHeartbeats 400000 in
theorem day_no (y m d : Int) (w : World) (hT : CivT w) (iy : I64 y) (im : I64 m) (id : I64 d) (hv : ¬ Civ.vld y m d) :
    Calls Tryd.prog 9 #[.agg #[.int .i64 y, .int .i64 m, .int .i64 d]] w fun e w' => e = .returned (.tuple #[.int .i64 0, .int .i64 1]) ∧ Below w.heap.size w w' := by
  have HV := Lib.hid (Civ.vldB_not.2 hv)
  clear hv
  go_enter Tryd.func9, Tryd.ntmps9
  go_wp2_with fail
  refine (valid_is HV.out _ (hT.alloc _) iy im id).mono ?_
  rintro e w1 ⟨rfl, hb⟩
  go_wp2_with fail
  go_ret2
  exact ⟨rfl, ((Below.refl _ _).alloc (Nat.le_refl _) _).trans (hb.mono (by simp))⟩

set_option maxHeartbeats 800000 in
theorem day_yes (y m d : Int) (w : World) (hT : CivT w) (hv : Civ.vld y m d) :
    Calls Tryd.prog 9 #[.agg #[.int .i64 y, .int .i64 m, .int .i64 d]] w fun e w' => e = .returned (.tuple #[.int .i64 (Civ.num y m d), .int .i64 0]) ∧ Below w.heap.size w w' := by
  have HV := Lib.hid (Civ.vldB_iff.2 hv)
  obtain ⟨v1, v2, v3, v4, v5, v6⟩ := hv
  have hnb := Civ.ny_bd v1 (show y ≤ 2241 by omega)
  have hdb := Civ.dim_bd y m
  go_enter Tryd.func9, Tryd.ntmps9
  go_wp2_with fail
  refine (valid_is HV.out _ (hT.alloc _) ⟨by omega, by omega⟩ ⟨by omega, by omega⟩ ⟨by omega, by omega⟩).mono ?_
  rintro e w1 ⟨rfl, hb⟩
  have hT1 := (hT.alloc _).below hb
  obtain ⟨hc, hf⟩ := bcell hb
  go_wp2_with fail
  go_quiet ((go_at_call 28; exact qsame (ny_any y _ v1 (by omega))))
  go_wp2_with fail
  go_loop [4, 5] (fun n i => ∃ k : Int, 1 ≤ k ∧ k ≤ m ∧ i = .int .i64 k ∧ n = .int .i64 (Civ.ny y + d - 1 + Civ.cum y k)) (fun _ i => (m - intOf i).toNat)
  case atStart => exact ⟨1, by omega, by omega, rfl, by rw [Civ.cum_1, Int.add_zero]⟩
  case round =>
    obtain ⟨k, hk1, hk2, rfl, rfl⟩ := hrel
    have hcb := Civ.cum_bd (y := y) hk1 (show k ≤ 13 by omega)
    have hdk := Civ.dim_bd y k
    by_cases hlt : k < m
    · have hcs := Lib.hid (Civ.cum_succ (y := y) hk1 (show k ≤ 12 by omega))
      go_wp2_with (go_at_call 19; refine (dim_any _ _ _ (hT1.drewN _) (by omega) (by omega) (by omega) (by omega)).mono ?_; rintro e w' ⟨rfl, rfl⟩)
      go_round
      case rel => exact ⟨k + 1, by omega, by omega, rfl, by rw [hcs.out]; go_num⟩
      case measure => simp [intOf]; omega
    · have hkm := Lib.hid (show k = m by omega)
      go_wp2_with fail
      go_ret2
      exact ⟨ret_pair (by rw [hkm.out]; unfold Civ.num; omega), below_drewN (((Below.refl _ _).alloc (Nat.le_refl _) _).trans (hb.mono (by simp))) _⟩

set_option maxHeartbeats 400000 in
theorem dateOf_no (n : Int) (w : World) (i : I64 n) (h : n < 0 ∨ 98981 ≤ n) :
    Calls Tryd.prog 23 #[.int .i64 n] w fun e w' => e = .returned (.tuple #[.agg #[.int .i64 0, .int .i64 0, .int .i64 0], .int .i64 1]) ∧ Below w.heap.size w w' := by
  obtain ⟨i1, i2⟩ := i
  by_cases h0 : n < 0
  · go_enter Tryd.func23, Tryd.ntmps23
    go_wp2_with fail
    exact bodyPost_ret (v := .tuple #[.agg #[.int .i64 0, .int .i64 0, .int .i64 0], .int .i64 1]) (by simp [results, Tryd.results23, go_sem]) rfl ⟨rfl, (Below.refl _ _).alloc (Nat.le_refl _) _⟩
  · have h1 : 98981 ≤ n := by omega
    go_enter Tryd.func23, Tryd.ntmps23
    go_wp2_with fail
    refine (ny_is Civ.ny_2241 _ (by omega) (by omega)).mono ?_
    rintro e w' ⟨rfl, rfl⟩
    go_wp2_with fail
    exact bodyPost_ret (v := .tuple #[.agg #[.int .i64 0, .int .i64 0, .int .i64 0], .int .i64 1]) (by simp [results, Tryd.results23, go_sem]) rfl ⟨rfl, (Below.refl _ _).alloc (Nat.le_refl _) _⟩

set_option maxHeartbeats 800000 in
theorem dateOf_yes (y m d : Int) (n : Int) (w : World) (hT : CivT w) (hv : Civ.vld y m d) (hn : Civ.num y m d = n) :
    Calls Tryd.prog 23 #[.int .i64 n] w fun e w' => e = .returned (.tuple #[.agg #[.int .i64 y, .int .i64 m, .int .i64 d], .int .i64 0]) ∧ Below w.heap.size w w' := by
  have HN := Lib.hid hn
  have nb := Civ.num_bd hv
  rw [hn] at nb
  clear hn
  have hy := Lib.hid (Civ.yo_of nb.2.2.1 nb.2.2.2.1 nb.2.2.2.2.1 nb.2.2.2.2.2)
  obtain ⟨v1, v2, v3, v4, v5, v6⟩ := hv
  have hnb := Civ.ny_bd v1 (show y ≤ 2241 by omega)
  go_enter Tryd.func23, Tryd.ntmps23
  go_wp2_with fail
  refine (ny_is Civ.ny_2241 _ (by omega) (by omega)).mono ?_
  rintro e w' ⟨rfl, rfl⟩
  go_wp2_with fail
  refine (yo_is hy.out _ (by omega) (by omega)).mono ?_
  rintro e w' ⟨rfl, rfl⟩
  go_wp2_with fail
  refine (ny_any y _ (by omega) (by omega)).mono ?_
  rintro e w' ⟨rfl, rfl⟩
  go_wp2_with fail
  have hT1 := hT.alloc (.cells #[.int .i64 0, .int .i64 0, .int .i64 0] 23)
  go_loop [5, 6] (fun r i => ∃ k : Int, 1 ≤ k ∧ k ≤ m ∧ i = .int .i64 k ∧ r = .int .i64 (n - Civ.ny y - Civ.cum y k)) (fun _ i => (m - intOf i).toNat)
  case atStart => exact ⟨1, by omega, by omega, rfl, by rw [Civ.cum_1, Int.sub_zero]⟩
  case round =>
    obtain ⟨k, hk1, hk2, rfl, rfl⟩ := hrel
    have hcb := Civ.cum_bd (y := y) hk1 (show k ≤ 13 by omega)
    have hdk := Civ.dim_bd y k
    have hcs := Lib.hid (Civ.cum_succ (y := y) hk1 (show k ≤ 12 by omega))
    by_cases hlt : k < m
    · have hle := Civ.cum_mono (y := y) (show 1 ≤ k + 1 by omega) (show k + 1 ≤ m by omega)
      have hge : Civ.dim y k ≤ n - Civ.ny y - Civ.cum y k := by have := hcs.out; omega
      have hk12 : k < 12 := by omega
      clear hle
      go_wp2_with (go_at_call 19; refine (dim_any _ _ _ hT1 (by omega) (by omega) (by omega) (by omega)).mono ?_; rintro e w' ⟨rfl, rfl⟩)
      go_round
      case rel => exact ⟨k + 1, by omega, by omega, rfl, by rw [hcs.out]; go_num⟩
      case measure => simp [intOf]; omega
    · have hkm := Lib.hid (show k = m by omega)
      have hdd := Lib.hid (show n - Civ.ny y - Civ.cum y k + 1 = d by rw [hkm.out, ← HN.out]; unfold Civ.num; omega)
      by_cases hk12 : k < 12
      · have hge : n - Civ.ny y - Civ.cum y k < Civ.dim y k := by have := hdd.out; have := hkm.out; subst this; omega
        go_wp2_with (go_at_call 19; refine (dim_any _ _ _ hT1 (by omega) (by omega) (by omega) (by omega)).mono ?_; rintro e w' ⟨rfl, rfl⟩)
        exact bodyPost_ret (v := .tuple #[.agg #[.int .i64 y, .int .i64 k, .int .i64 (n - Civ.ny y - Civ.cum y k + 1)], .int .i64 0]) (by simp [results, Tryd.results23, go_sem]) rfl ⟨by rw [hdd.out, hkm.out], (Below.refl _ _).alloc (Nat.le_refl _) _⟩
      · go_wp2_with fail
        exact bodyPost_ret (v := .tuple #[.agg #[.int .i64 y, .int .i64 k, .int .i64 (n - Civ.ny y - Civ.cum y k + 1)], .int .i64 0]) (by simp [results, Tryd.results23, go_sem]) rfl ⟨by rw [hdd.out, hkm.out], (Below.refl _ _).alloc (Nat.le_refl _) _⟩
end Go.Proofs.YtnbfbkomgdnlnaaDoor
