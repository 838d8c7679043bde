/- The law CivilNth returns true for all numbers. -/
import Derived.Test.YtnbfbkomgdnlnaaDoorCivWeeks
namespace Go.Proofs.YtnbfbkomgdnlnaaDoor
open Go.RowKit
set_option linter.unusedVariables false
namespace Civ
theorem wd_hit {P x v : Int} {c : Nat} (hP : wd P = v) (h : x = P + 7 * c) : wd x = v := by unfold wd at *; omega
theorem wd_miss {P x v : Int} {c : Nat} (hP : wd P = v) (h1 : x < P + 7 * c) (h2 : P + 7 * c < x + 7) : wd x ≠ v := by unfold wd at *; omega
theorem wd_first {F v : Int} (h0 : 0 ≤ v) (h6 : v ≤ 6) : wd (F + (v - wd F) % 7) = v := by unfold wd; omega
theorem nth_of {F L P k v : Int} (hP : P = F + (v - wd F) % 7) (n : Int) (h : (P + (k - 1) * 7 < F + L ∧ n = P + (k - 1) * 7) ∨ (F + L ≤ P + (k - 1) * 7 ∧ n = P + (k - 1) * 7 - 7)) : nthD F L k v = n := by
  unfold nthD; rw [← hP]; rcases h with ⟨a, rfl⟩ | ⟨a, rfl⟩
  · rw [if_neg (by omega)]
  · rw [if_pos a]
theorem num_add (y m k : Int) : num y m k = num y m 1 + (k - 1) := by unfold num; omega
end Civ

def nthL (P : Int) (c : Nat) : List Value := (List.range c).map fun i : Nat => Value.int .i64 (P + 7 * (i : Int))
theorem nthL_len (P : Int) (c : Nat) : (nthL P c).length = c := by simp [nthL]
theorem nthL_succ (P : Int) (c : Nat) : nthL P (c + 1) = nthL P c ++ [.int .i64 (P + 7 * c)] := by simp [nthL, List.range_succ]
theorem own_below {w w' : World} {base : Nat} {e : TypeId} {size : Nat} {v : Value} {n : Nat} {xs : List Value} (h : w.ownsRow base e size v n xs) (k : Below w.heap.size w w') : w'.ownsRow base e size v n xs :=
  h.kept (row := none) ⟨k.os, k.tape, k.output, k.size, fun i hi _ => k.block i hi⟩ (by cases v.ownBlock <;> simp)
theorem Tryd.infoInt : (Tryd.prog.info? 3).map (fun i => (i.zero, i.size, i.bytes)) = some (some (.int .i64 0), 1, 8) := by kernel_rfl

theorem own_succ {W : World} {base : Nat} {e : TypeId} {size : Nat} {v : Value} {k : Nat} {xs : List Value} (h : W.ownsRow base e size v (k + 1) xs) : ∃ g cap, v = .slice (some ⟨g, 0, none⟩) (k + 1) cap := by
  rcases h.2 with ⟨_, h0⟩ | ⟨g, cap, _, rfl, _⟩
  · omega
  · exact ⟨g, cap, rfl⟩
/-- The first loop: the days of the weekday, one after the other. -/
def NthInv (w0 : World) (F P L : Int) (wr : World) (v : Value) (k c : Nat) : Prop :=
  1 ≤ k ∧ (k : Int) ≤ L + 1 ∧ F + (k - 1) ≤ P + 7 * c ∧ P + 7 * c < F + (k - 1) + 7 ∧ Below w0.heap.size w0 wr ∧ CivT wr ∧ wr.ownsRow w0.heap.size 3 1 v c (nthL P c)
def NthInv2 (w0 : World) (P : Int) (g c : Nat) (wr : World) : Prop :=
  Below w0.heap.size w0 wr ∧ CivT wr ∧ ∀ j : Nat, j < c → wr.cell? ⟨g, j, none⟩ = some (.int .i64 (P + 7 * j))

set_option maxRecDepth 100000 in
set_option maxHeartbeats 6400000 in
theorem nthlaw_any (n mo wk : Int) (w : World) (hT : CivT w) (i1 : -9223372036854775808 ≤ n) (i2 : n ≤ 9223372036854775807) (i3 : -9223372036854775808 ≤ mo) (i4 : mo ≤ 9223372036854775807) (i5 : -9223372036854775808 ≤ wk) (i6 : wk ≤ 9223372036854775807) :
    Calls Tryd.prog 7 #[.int .i64 n, .int .i64 mo, .int .i64 wk] w fun e w' => e = .returned (.bool true) ∧ Below w.heap.size w w' := by
  obtain ⟨i0, hi, hz0, hz1, hz2⟩ := info_parts Tryd.infoInt
  obtain ⟨y, hy⟩ : ∃ y, y = 1970 + n % 271 := ⟨_, rfl⟩
  obtain ⟨m, hm⟩ : ∃ m, m = 1 + mo % 12 := ⟨_, rfl⟩
  obtain ⟨v, hv⟩ : ∃ v, v = wk % 7 := ⟨_, rfl⟩
  have y1 : 1970 ≤ y ∧ y ≤ 2240 := by omega
  have m1 : 1 ≤ m ∧ m ≤ 12 := by omega
  have v1 : 0 ≤ v ∧ v ≤ 6 := by omega
  have HY := Lib.hid hy
  have HM := Lib.hid hm
  have HV := Lib.hid hv
  clear hy hm hv
  have L1 := Civ.dim_lo (y := y) m1.1 m1.2
  have L2 := Civ.dim_bd y m
  obtain ⟨F, hF⟩ : ∃ F, F = Civ.num y m 1 := ⟨_, rfl⟩
  obtain ⟨P, hP⟩ : ∃ P, P = F + (v - Civ.wd F) % 7 := ⟨_, rfl⟩
  have P1 : F ≤ P ∧ P ≤ F + 6 := by omega
  have hPv := Lib.hid (show Civ.wd P = v by rw [hP]; exact Civ.wd_first v1.1 v1.2)
  have HF := Lib.hid hF
  have HP := Lib.hid hP
  clear hF hP
  go_enter Tryd.func7, Tryd.ntmps7
  go_wp2_with fail
  refine (Mod_any n 271 _ i1 i2 (by omega) (by omega)).mono ?_
  rintro e w' ⟨rfl, rfl⟩
  go_wp2_with fail
  refine (Mod_any mo 12 _ i3 i4 (by omega) (by omega)).mono ?_
  rintro e w' ⟨rfl, rfl⟩
  go_wp2_with fail
  refine (Mod_any wk 7 _ i5 i6 (by omega) (by omega)).mono ?_
  rintro e w' ⟨rfl, rfl⟩
  go_wp2_with fail
  rw [← HY.out, ← HM.out, ← HV.out]
  go_loopw [10, 11] (fun s i wr => ∃ k c : Nat, i = .int .i64 k ∧ NthInv w F P (Civ.dim y m) wr s k c) (fun _ i _ => (Civ.dim y m + 1 - intOf i).toNat)
  case atStart => exact ⟨1, 0, rfl, by omega, by omega, by omega, by omega, Below.refl _ _, hT, World.ownsRow_nil _ _ _ _⟩
  case round =>
    obtain ⟨k, c, rfl, k1, k2, c1, c2, I1, I2, I3⟩ := hrel
    by_cases hkL : (k : Int) ≤ Civ.dim y m
    · have hvk : Civ.vld y m k := ⟨y1.1, y1.2, m1.1, m1.2, by omega, hkL⟩
      have nk := Lib.hid (Civ.num_add y m k)
      have nkb := (Civ.num_bd hvk).2.2.2.2
      have hx : Civ.num y m k = F + (k - 1) := by rw [nk.out, HF.out]
      by_cases hit : F + ((k : Int) - 1) = P + 7 * c
      · have hw := Lib.hid (Civ.wd_hit (c := c) hPv.out (show Civ.num y m k = P + 7 * c by omega))
        have hxe := Lib.hid (show Civ.num y m k = P + 7 * c by omega)
        clear hx hit
        go_wp2_with fail
        refine (dim_any _ _ _ I2 (by omega) (by omega) (by omega) (by omega)).mono ?_
        rintro e w' ⟨rfl, rfl⟩
        go_wp2_with fail
        refine (day_yes y m k _ I2 hvk).mono ?_
        rintro e w1 ⟨rfl, b1⟩
        have hT1 := I2.below b1
        have hown := own_below I3 b1
        have B1 : Below w.heap.size w w1 := I1.trans (b1.mono I1.size)
        go_wp2_with fail
        refine (wday_is hw.out _ (by omega) (by omega)).mono ?_
        rintro e w' ⟨rfl, rfl⟩
        go_wp2_with (at_builtin; refine wpList_append_own _ rfl _ _ 43 rfl w.heap.size 3 i0 (.int .i64 0) 1 8 Tryd.underlying43 hi hz0 hz1 hz2 rfl (by decide) _ _ _ rfl (hown.alloc _) ⟨w1.heap.size, 0, none⟩ 1 1 [.int .i64 (Civ.num y m k)] rfl rfl ?c1 ?c2 ?c3 ?c4 ?c5 ?_)
        case c1 =>
          intro j u hj
          match j, hj with
          | 0, hj => simp at hj; subst hj; simp [Addr.add]
        case c2 => intro u hu; simp at hu; subst hu; rfl
        case c3 => unfold maxLen; omega
        case c4 => omega
        case c5 => have := B1.size; simp; omega
        intro v' w2 hown' hgrow _
        have B2 : Below w.heap.size w w2 := (B1.alloc B1.size _).grown hgrow (by have := B1.size; simp; omega) (fun r hr => (hown.lt r hr).1)
        have hT2 : CivT w2 := hT.below B2
        rw [hxe.out, ← nthL_succ] at hown'
        go_wp2_with fail
        go_roundw
        case rel => exact ⟨k + 1, c + 1, by go_num, by omega, by omega, by have := hxe.out; have := nk.out; have := HF.out; omega, by have := hxe.out; have := nk.out; have := HF.out; omega, B2, hT2, hown'⟩
        case measure => simp [intOf]; omega
      · have hw : (Civ.wd (Civ.num y m k) == v) = false := by
          have := Civ.wd_miss (P := P) (c := c) (x := Civ.num y m k) hPv.out (by omega) (by omega)
          simpa using this
        clear hx
        go_wp2_with fail
        refine (dim_any _ _ _ I2 (by omega) (by omega) (by omega) (by omega)).mono ?_
        rintro e w' ⟨rfl, rfl⟩
        go_wp2_with fail
        refine (day_yes y m k _ I2 hvk).mono ?_
        rintro e w1 ⟨rfl, b1⟩
        have hT1 := I2.below b1
        have hown := own_below I3 b1
        have B1 : Below w.heap.size w w1 := I1.trans (b1.mono I1.size)
        go_wp2_with fail
        refine (wday_any _ _ (by omega) (by omega)).mono ?_
        rintro e w' ⟨rfl, rfl⟩
        go_wp2_with fail
        go_roundw
        case rel => exact ⟨k + 1, c, by go_num, by omega, by omega, by omega, by omega, B1, hT1, hown⟩
        case measure => simp [intOf]; omega
    · have hc45 : c = 4 ∨ c = 5 := by omega
      have hv1 : Civ.vld y m 1 := ⟨y1.1, y1.2, m1.1, m1.2, by omega, by omega⟩
      rcases hc45 with rfl | rfl
      · obtain ⟨g, cap, hs⟩ := own_succ (k := 3) I3
        have hg := I3.lt
        rw [hs] at I3 ⊢
        have J0 : NthInv2 w P g 4 wr := ⟨I1, I2, fun j hj => by rw [I3.cellAt j (by omega)]; simp [nthL, List.getElem?_map, List.getElem?_range hj]⟩
        clear hs hg I3
        go_wp2_with fail
        refine (dim_any _ _ _ I2 (by omega) (by omega) (by omega) (by omega)).mono ?_
        rintro e w' ⟨rfl, rfl⟩
        go_wp2_with fail
        clear I1 I2
        obtain ⟨wo, hwo⟩ : ∃ wo : World, wo = wr := ⟨_, rfl⟩
        go_loopw [14] (fun i wr2 => ∃ k : Nat, 1 ≤ k ∧ k ≤ 6 ∧ i = .int .i64 k ∧ NthInv2 w P g 4 wr2) (fun i _ => (6 - intOf i).toNat)
        case atStart => exact ⟨1, by omega, by omega, rfl, J0⟩
        case round =>
        obtain ⟨k, k1, k2, rfl, J1, J2, J3⟩ := hrel
        clear J0
        have hk : k = 1 ∨ k = 2 ∨ k = 3 ∨ k = 4 ∨ k = 5 ∨ k = 6 := by omega
        rcases hk with rfl | rfl | rfl | rfl | rfl | rfl
        · go_wp2_with fail
          refine (nth_is (n := P) (Civ.vldB_iff.2 hv1) ⟨by omega, by omega, v1.1, v1.2⟩ (by rw [← HF.out]; exact Civ.nth_of HP.out _ (.inl ⟨by omega, by omega⟩)) _ J2).mono ?_
          rintro e w1 ⟨rfl, b1⟩
          have hT1 := J2.below b1
          have B1 : Below w.heap.size w w1 := J1.trans (b1.mono J1.size)
          have q0 : w1.cell? ⟨g, 0, none⟩ = some (.int .i64 (P)) := by have := cell_keep (J3 0 (by omega)) b1; simpa using this
          have q1 : w1.cell? ⟨g, 1, none⟩ = some (.int .i64 (P + 7)) := by have := cell_keep (J3 1 (by omega)) b1; simpa using this
          have q2 : w1.cell? ⟨g, 2, none⟩ = some (.int .i64 (P + 14)) := by have := cell_keep (J3 2 (by omega)) b1; simpa using this
          have q3 : w1.cell? ⟨g, 3, none⟩ = some (.int .i64 (P + 21)) := by have := cell_keep (J3 3 (by omega)) b1; simpa using this
          go_wp2_with fail
          go_roundw
          case rel => exact ⟨1+1, by omega, by omega, by go_num, B1, hT1, fun j hj => cell_keep (J3 j hj) b1⟩
          case measure => simp [intOf]
        · go_wp2_with fail
          refine (nth_is (n := P + 7) (Civ.vldB_iff.2 hv1) ⟨by omega, by omega, v1.1, v1.2⟩ (by rw [← HF.out]; exact Civ.nth_of HP.out _ (.inl ⟨by omega, by omega⟩)) _ J2).mono ?_
          rintro e w1 ⟨rfl, b1⟩
          have hT1 := J2.below b1
          have B1 : Below w.heap.size w w1 := J1.trans (b1.mono J1.size)
          have q0 : w1.cell? ⟨g, 0, none⟩ = some (.int .i64 (P)) := by have := cell_keep (J3 0 (by omega)) b1; simpa using this
          have q1 : w1.cell? ⟨g, 1, none⟩ = some (.int .i64 (P + 7)) := by have := cell_keep (J3 1 (by omega)) b1; simpa using this
          have q2 : w1.cell? ⟨g, 2, none⟩ = some (.int .i64 (P + 14)) := by have := cell_keep (J3 2 (by omega)) b1; simpa using this
          have q3 : w1.cell? ⟨g, 3, none⟩ = some (.int .i64 (P + 21)) := by have := cell_keep (J3 3 (by omega)) b1; simpa using this
          go_wp2_with fail
          go_roundw
          case rel => exact ⟨2+1, by omega, by omega, by go_num, B1, hT1, fun j hj => cell_keep (J3 j hj) b1⟩
          case measure => simp [intOf]
        · go_wp2_with fail
          refine (nth_is (n := P + 14) (Civ.vldB_iff.2 hv1) ⟨by omega, by omega, v1.1, v1.2⟩ (by rw [← HF.out]; exact Civ.nth_of HP.out _ (.inl ⟨by omega, by omega⟩)) _ J2).mono ?_
          rintro e w1 ⟨rfl, b1⟩
          have hT1 := J2.below b1
          have B1 : Below w.heap.size w w1 := J1.trans (b1.mono J1.size)
          have q0 : w1.cell? ⟨g, 0, none⟩ = some (.int .i64 (P)) := by have := cell_keep (J3 0 (by omega)) b1; simpa using this
          have q1 : w1.cell? ⟨g, 1, none⟩ = some (.int .i64 (P + 7)) := by have := cell_keep (J3 1 (by omega)) b1; simpa using this
          have q2 : w1.cell? ⟨g, 2, none⟩ = some (.int .i64 (P + 14)) := by have := cell_keep (J3 2 (by omega)) b1; simpa using this
          have q3 : w1.cell? ⟨g, 3, none⟩ = some (.int .i64 (P + 21)) := by have := cell_keep (J3 3 (by omega)) b1; simpa using this
          go_wp2_with fail
          go_roundw
          case rel => exact ⟨3+1, by omega, by omega, by go_num, B1, hT1, fun j hj => cell_keep (J3 j hj) b1⟩
          case measure => simp [intOf]
        · go_wp2_with fail
          refine (nth_is (n := P + 21) (Civ.vldB_iff.2 hv1) ⟨by omega, by omega, v1.1, v1.2⟩ (by rw [← HF.out]; exact Civ.nth_of HP.out _ (.inl ⟨by omega, by omega⟩)) _ J2).mono ?_
          rintro e w1 ⟨rfl, b1⟩
          have hT1 := J2.below b1
          have B1 : Below w.heap.size w w1 := J1.trans (b1.mono J1.size)
          have q0 : w1.cell? ⟨g, 0, none⟩ = some (.int .i64 (P)) := by have := cell_keep (J3 0 (by omega)) b1; simpa using this
          have q1 : w1.cell? ⟨g, 1, none⟩ = some (.int .i64 (P + 7)) := by have := cell_keep (J3 1 (by omega)) b1; simpa using this
          have q2 : w1.cell? ⟨g, 2, none⟩ = some (.int .i64 (P + 14)) := by have := cell_keep (J3 2 (by omega)) b1; simpa using this
          have q3 : w1.cell? ⟨g, 3, none⟩ = some (.int .i64 (P + 21)) := by have := cell_keep (J3 3 (by omega)) b1; simpa using this
          go_wp2_with fail
          go_roundw
          case rel => exact ⟨4+1, by omega, by omega, by go_num, B1, hT1, fun j hj => cell_keep (J3 j hj) b1⟩
          case measure => simp [intOf]
        · go_wp2_with fail
          refine (nth_is (n := P + 21) (Civ.vldB_iff.2 hv1) ⟨by omega, by omega, v1.1, v1.2⟩ (by rw [← HF.out]; exact Civ.nth_of HP.out _ (.inr ⟨by omega, by omega⟩)) _ J2).mono ?_
          rintro e w1 ⟨rfl, b1⟩
          have hT1 := J2.below b1
          have B1 : Below w.heap.size w w1 := J1.trans (b1.mono J1.size)
          have q0 : w1.cell? ⟨g, 0, none⟩ = some (.int .i64 (P)) := by have := cell_keep (J3 0 (by omega)) b1; simpa using this
          have q1 : w1.cell? ⟨g, 1, none⟩ = some (.int .i64 (P + 7)) := by have := cell_keep (J3 1 (by omega)) b1; simpa using this
          have q2 : w1.cell? ⟨g, 2, none⟩ = some (.int .i64 (P + 14)) := by have := cell_keep (J3 2 (by omega)) b1; simpa using this
          have q3 : w1.cell? ⟨g, 3, none⟩ = some (.int .i64 (P + 21)) := by have := cell_keep (J3 3 (by omega)) b1; simpa using this
          go_wp2_with fail
          go_roundw
          case rel => exact ⟨5+1, by omega, by omega, by go_num, B1, hT1, fun j hj => cell_keep (J3 j hj) b1⟩
          case measure => simp [intOf]
        · go_wp2_with fail
          refine (sane_any _ J2).mono ?_
          rintro e w1 ⟨rfl, b1⟩
          go_wp2_with fail
          go_ret
          exact ⟨rfl, bstep J1 b1⟩
      · obtain ⟨g, cap, hs⟩ := own_succ (k := 4) I3
        have hg := I3.lt
        rw [hs] at I3 ⊢
        have J0 : NthInv2 w P g 5 wr := ⟨I1, I2, fun j hj => by rw [I3.cellAt j (by omega)]; simp [nthL, List.getElem?_map, List.getElem?_range hj]⟩
        clear hs hg I3
        go_wp2_with fail
        refine (dim_any _ _ _ I2 (by omega) (by omega) (by omega) (by omega)).mono ?_
        rintro e w' ⟨rfl, rfl⟩
        go_wp2_with fail
        clear I1 I2
        obtain ⟨wo, hwo⟩ : ∃ wo : World, wo = wr := ⟨_, rfl⟩
        go_loopw [14] (fun i wr2 => ∃ k : Nat, 1 ≤ k ∧ k ≤ 6 ∧ i = .int .i64 k ∧ NthInv2 w P g 5 wr2) (fun i _ => (6 - intOf i).toNat)
        case atStart => exact ⟨1, by omega, by omega, rfl, J0⟩
        case round =>
        obtain ⟨k, k1, k2, rfl, J1, J2, J3⟩ := hrel
        clear J0
        have hk : k = 1 ∨ k = 2 ∨ k = 3 ∨ k = 4 ∨ k = 5 ∨ k = 6 := by omega
        rcases hk with rfl | rfl | rfl | rfl | rfl | rfl
        · go_wp2_with fail
          refine (nth_is (n := P) (Civ.vldB_iff.2 hv1) ⟨by omega, by omega, v1.1, v1.2⟩ (by rw [← HF.out]; exact Civ.nth_of HP.out _ (.inl ⟨by omega, by omega⟩)) _ J2).mono ?_
          rintro e w1 ⟨rfl, b1⟩
          have hT1 := J2.below b1
          have B1 : Below w.heap.size w w1 := J1.trans (b1.mono J1.size)
          have q0 : w1.cell? ⟨g, 0, none⟩ = some (.int .i64 (P)) := by have := cell_keep (J3 0 (by omega)) b1; simpa using this
          have q1 : w1.cell? ⟨g, 1, none⟩ = some (.int .i64 (P + 7)) := by have := cell_keep (J3 1 (by omega)) b1; simpa using this
          have q2 : w1.cell? ⟨g, 2, none⟩ = some (.int .i64 (P + 14)) := by have := cell_keep (J3 2 (by omega)) b1; simpa using this
          have q3 : w1.cell? ⟨g, 3, none⟩ = some (.int .i64 (P + 21)) := by have := cell_keep (J3 3 (by omega)) b1; simpa using this
          have q4 : w1.cell? ⟨g, 4, none⟩ = some (.int .i64 (P + 28)) := by have := cell_keep (J3 4 (by omega)) b1; simpa using this
          go_wp2_with fail
          go_roundw
          case rel => exact ⟨1+1, by omega, by omega, by go_num, B1, hT1, fun j hj => cell_keep (J3 j hj) b1⟩
          case measure => simp [intOf]
        · go_wp2_with fail
          refine (nth_is (n := P + 7) (Civ.vldB_iff.2 hv1) ⟨by omega, by omega, v1.1, v1.2⟩ (by rw [← HF.out]; exact Civ.nth_of HP.out _ (.inl ⟨by omega, by omega⟩)) _ J2).mono ?_
          rintro e w1 ⟨rfl, b1⟩
          have hT1 := J2.below b1
          have B1 : Below w.heap.size w w1 := J1.trans (b1.mono J1.size)
          have q0 : w1.cell? ⟨g, 0, none⟩ = some (.int .i64 (P)) := by have := cell_keep (J3 0 (by omega)) b1; simpa using this
          have q1 : w1.cell? ⟨g, 1, none⟩ = some (.int .i64 (P + 7)) := by have := cell_keep (J3 1 (by omega)) b1; simpa using this
          have q2 : w1.cell? ⟨g, 2, none⟩ = some (.int .i64 (P + 14)) := by have := cell_keep (J3 2 (by omega)) b1; simpa using this
          have q3 : w1.cell? ⟨g, 3, none⟩ = some (.int .i64 (P + 21)) := by have := cell_keep (J3 3 (by omega)) b1; simpa using this
          have q4 : w1.cell? ⟨g, 4, none⟩ = some (.int .i64 (P + 28)) := by have := cell_keep (J3 4 (by omega)) b1; simpa using this
          go_wp2_with fail
          go_roundw
          case rel => exact ⟨2+1, by omega, by omega, by go_num, B1, hT1, fun j hj => cell_keep (J3 j hj) b1⟩
          case measure => simp [intOf]
        · go_wp2_with fail
          refine (nth_is (n := P + 14) (Civ.vldB_iff.2 hv1) ⟨by omega, by omega, v1.1, v1.2⟩ (by rw [← HF.out]; exact Civ.nth_of HP.out _ (.inl ⟨by omega, by omega⟩)) _ J2).mono ?_
          rintro e w1 ⟨rfl, b1⟩
          have hT1 := J2.below b1
          have B1 : Below w.heap.size w w1 := J1.trans (b1.mono J1.size)
          have q0 : w1.cell? ⟨g, 0, none⟩ = some (.int .i64 (P)) := by have := cell_keep (J3 0 (by omega)) b1; simpa using this
          have q1 : w1.cell? ⟨g, 1, none⟩ = some (.int .i64 (P + 7)) := by have := cell_keep (J3 1 (by omega)) b1; simpa using this
          have q2 : w1.cell? ⟨g, 2, none⟩ = some (.int .i64 (P + 14)) := by have := cell_keep (J3 2 (by omega)) b1; simpa using this
          have q3 : w1.cell? ⟨g, 3, none⟩ = some (.int .i64 (P + 21)) := by have := cell_keep (J3 3 (by omega)) b1; simpa using this
          have q4 : w1.cell? ⟨g, 4, none⟩ = some (.int .i64 (P + 28)) := by have := cell_keep (J3 4 (by omega)) b1; simpa using this
          go_wp2_with fail
          go_roundw
          case rel => exact ⟨3+1, by omega, by omega, by go_num, B1, hT1, fun j hj => cell_keep (J3 j hj) b1⟩
          case measure => simp [intOf]
        · go_wp2_with fail
          refine (nth_is (n := P + 21) (Civ.vldB_iff.2 hv1) ⟨by omega, by omega, v1.1, v1.2⟩ (by rw [← HF.out]; exact Civ.nth_of HP.out _ (.inl ⟨by omega, by omega⟩)) _ J2).mono ?_
          rintro e w1 ⟨rfl, b1⟩
          have hT1 := J2.below b1
          have B1 : Below w.heap.size w w1 := J1.trans (b1.mono J1.size)
          have q0 : w1.cell? ⟨g, 0, none⟩ = some (.int .i64 (P)) := by have := cell_keep (J3 0 (by omega)) b1; simpa using this
          have q1 : w1.cell? ⟨g, 1, none⟩ = some (.int .i64 (P + 7)) := by have := cell_keep (J3 1 (by omega)) b1; simpa using this
          have q2 : w1.cell? ⟨g, 2, none⟩ = some (.int .i64 (P + 14)) := by have := cell_keep (J3 2 (by omega)) b1; simpa using this
          have q3 : w1.cell? ⟨g, 3, none⟩ = some (.int .i64 (P + 21)) := by have := cell_keep (J3 3 (by omega)) b1; simpa using this
          have q4 : w1.cell? ⟨g, 4, none⟩ = some (.int .i64 (P + 28)) := by have := cell_keep (J3 4 (by omega)) b1; simpa using this
          go_wp2_with fail
          go_roundw
          case rel => exact ⟨4+1, by omega, by omega, by go_num, B1, hT1, fun j hj => cell_keep (J3 j hj) b1⟩
          case measure => simp [intOf]
        · go_wp2_with fail
          refine (nth_is (n := P + 28) (Civ.vldB_iff.2 hv1) ⟨by omega, by omega, v1.1, v1.2⟩ (by rw [← HF.out]; exact Civ.nth_of HP.out _ (.inl ⟨by omega, by omega⟩)) _ J2).mono ?_
          rintro e w1 ⟨rfl, b1⟩
          have hT1 := J2.below b1
          have B1 : Below w.heap.size w w1 := J1.trans (b1.mono J1.size)
          have q0 : w1.cell? ⟨g, 0, none⟩ = some (.int .i64 (P)) := by have := cell_keep (J3 0 (by omega)) b1; simpa using this
          have q1 : w1.cell? ⟨g, 1, none⟩ = some (.int .i64 (P + 7)) := by have := cell_keep (J3 1 (by omega)) b1; simpa using this
          have q2 : w1.cell? ⟨g, 2, none⟩ = some (.int .i64 (P + 14)) := by have := cell_keep (J3 2 (by omega)) b1; simpa using this
          have q3 : w1.cell? ⟨g, 3, none⟩ = some (.int .i64 (P + 21)) := by have := cell_keep (J3 3 (by omega)) b1; simpa using this
          have q4 : w1.cell? ⟨g, 4, none⟩ = some (.int .i64 (P + 28)) := by have := cell_keep (J3 4 (by omega)) b1; simpa using this
          go_wp2_with fail
          go_roundw
          case rel => exact ⟨5+1, by omega, by omega, by go_num, B1, hT1, fun j hj => cell_keep (J3 j hj) b1⟩
          case measure => simp [intOf]
        · go_wp2_with fail
          refine (sane_any _ J2).mono ?_
          rintro e w1 ⟨rfl, b1⟩
          go_wp2_with fail
          go_ret
          exact ⟨rfl, bstep J1 b1⟩
end Go.Proofs.YtnbfbkomgdnlnaaDoor
