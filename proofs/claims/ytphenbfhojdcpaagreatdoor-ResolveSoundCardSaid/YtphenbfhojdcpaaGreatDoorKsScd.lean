/- Package resolve: addRule. Printed by gen_sb.py. -/
import Derived.Test.YtphenbfhojdcpaaGreatDoorKsSca
import Derived.Deep.RegionHeld3
namespace Go.Proofs.YtphenbfhojdcpaaGreatDoor
open Go.RowKit
set_option linter.unusedVariables false
set_option linter.unusedSimpArgs false
set_option maxRecDepth 100000
theorem rule_vals (r : Zn.Rule) : ∀ j, j < 7 → (#[Value.int .i64 r.fr, .int .i64 r.to, .int .i64 r.mo, .int .i64 r.wk, .int .i64 r.wd, .int .i64 r.sec, .int .i64 r.off] : Array Value)[j]? = some (eRule r j) := fun j hj => by
  rcases j with _ | _ | _ | _ | _ | _ | _ | _ <;> first | rfl | omega
set_option maxHeartbeats 16000000 in
theorem addRule_is {C : Rs.Cfg} {N : Nat} {l : List Lx.Tk} (A : Option Addr) (n c bc lo : Nat) (vs : Key → SV) (w : World) (h : OwnC w bc lo vs C) (hG : GoodC N C) (hN : N ≤ 900000) (hT : TokIn w bc A l) (hl : 7 ≤ l.length) (hn : l.length = n) (hn6 : n ≤ 1000) (hX : LexT w) :
    Calls Tryz.prog 86 #[.pointer (some ⟨bc, 0, none⟩), .slice A n c] w (StepV bc lo w (Rs.addRule C l)) := by
  obtain ⟨b, off, _k0, rfl, hb, -, -, t0, -⟩ := hT.get (i := 0) (by omega)
  obtain ⟨b_, off_, _k1, ea, -, -, -, t1, -⟩ := hT.get (i := 1) (by omega)
  cases ea
  obtain ⟨b_, off_, _k2, ea, -, -, t2, -, -⟩ := hT.get (i := 2) (by omega)
  cases ea
  obtain ⟨b_, off_, _k3, ea, -, -, t3, -, -⟩ := hT.get (i := 3) (by omega)
  cases ea
  obtain ⟨b_, off_, _k4, ea, -, -, t4, -, -⟩ := hT.get (i := 4) (by omega)
  cases ea
  obtain ⟨b_, off_, _k5, ea, -, -, -, t5, -⟩ := hT.get (i := 5) (by omega)
  cases ea
  obtain ⟨b_, off_, _k6, ea, -, -, -, t6, -⟩ := hT.get (i := 6) (by omega)
  cases ea
  have hlt := h.lt
  have hle := h.le
  have i0 : (0 : Int) < n := by omega
  have j0 : 0 < n := by omega
  have i1 : (1 : Int) < n := by omega
  have j1 : 1 < n := by omega
  have i2 : (2 : Int) < n := by omega
  have j2 : 2 < n := by omega
  have i3 : (3 : Int) < n := by omega
  have j3 : 3 < n := by omega
  have i4 : (4 : Int) < n := by omega
  have j4 : 4 < n := by omega
  have i5 : (5 : Int) < n := by omega
  have j5 : 5 < n := by omega
  have i6 : (6 : Int) < n := by omega
  have j6 : 6 < n := by omega
  have i9 : (1 : Int) ≤ n := by omega
  obtain ⟨pm, hpm⟩ : ∃ p, Sy.posS (Rs.tx l 2) Sy.monthsL 1 = p := ⟨_, rfl⟩
  obtain ⟨po, hpo⟩ : ∃ p, Sy.posS (Rs.tx l 3) Sy.ordsL 1 = p := ⟨_, rfl⟩
  obtain ⟨pd, hpd⟩ : ∃ p, Rs.dayP (Rs.tx l 4) = p := ⟨_, rfl⟩
  unfold Rs.addRule Rs.ruleT
  rw [hpm, hpo, hpd]
  obtain ⟨am, bm⟩ := pm
  obtain ⟨ao, bo⟩ := po
  obtain ⟨ad, bd⟩ := pd
  have CM := Lib.hid (fun W hW => month_is hpm W hW)
  have CO := Lib.hid (fun W hW => ordinal_is hpo W hW)
  have CD := Lib.hid (fun W hW => weekday_is hpd W hW)
  have HX := Lib.hid hX
  have HT0 := Lib.hid t0
  have HT1 := Lib.hid t1
  have HT2 := Lib.hid (show w.cell? ⟨b, off + 6 + 1, none⟩ = some (.string ⟨(Rs.tx l 2).toArray⟩) from t2)
  have HT3 := Lib.hid (show w.cell? ⟨b, off + 9 + 1, none⟩ = some (.string ⟨(Rs.tx l 3).toArray⟩) from t3)
  have HT4 := Lib.hid (show w.cell? ⟨b, off + 12 + 1, none⟩ = some (.string ⟨(Rs.tx l 4).toArray⟩) from t4)
  have HT5 := Lib.hid t5
  have HT6 := Lib.hid t6
  clear hpm hpo hpd hX t0 t1 t2 t3 t4 t5 t6
  cases bm
  · rw [if_pos (by simp)]
    go_enter Tryz.func86, Tryz.ntmps86
    have x2 := HT2.out
    go_wp2_with fail
    refine (CM.out _ HX.out).mono ?_
    rintro e w1 ⟨rfl, b1⟩
    have x3 := cell_lift HT3.out b1
    go_wp2_with fail
    refine (CO.out _ (HX.out.below b1)).mono ?_
    rintro e w2 ⟨rfl, b2'⟩
    have b2 := bstep b1 b2'
    have x4 := cell_lift HT4.out b2
    go_wp2_with fail
    refine (CD.out _ (HX.out.below b2)).mono ?_
    rintro e w3 ⟨rfl, b3'⟩
    have b3 := bstep b2 b3'
    clear b1 b2' b2 b3' x2 x3 x4
    go_wp2_with fail
    go_ret
    exact step_err (.of_below b3 hle) (.of_below b3) (by decide)
  cases bo
  · rw [if_pos (by simp)]
    go_enter Tryz.func86, Tryz.ntmps86
    have x2 := HT2.out
    go_wp2_with fail
    refine (CM.out _ HX.out).mono ?_
    rintro e w1 ⟨rfl, b1⟩
    have x3 := cell_lift HT3.out b1
    go_wp2_with fail
    refine (CO.out _ (HX.out.below b1)).mono ?_
    rintro e w2 ⟨rfl, b2'⟩
    have b2 := bstep b1 b2'
    have x4 := cell_lift HT4.out b2
    go_wp2_with fail
    refine (CD.out _ (HX.out.below b2)).mono ?_
    rintro e w3 ⟨rfl, b3'⟩
    have b3 := bstep b2 b3'
    clear b1 b2' b2 b3' x2 x3 x4
    go_wp2_with fail
    go_ret
    exact step_err (.of_below b3 hle) (.of_below b3) (by decide)
  cases bd
  · rw [if_pos (by simp)]
    go_enter Tryz.func86, Tryz.ntmps86
    have x2 := HT2.out
    go_wp2_with fail
    refine (CM.out _ HX.out).mono ?_
    rintro e w1 ⟨rfl, b1⟩
    have x3 := cell_lift HT3.out b1
    go_wp2_with fail
    refine (CO.out _ (HX.out.below b1)).mono ?_
    rintro e w2 ⟨rfl, b2'⟩
    have b2 := bstep b1 b2'
    have x4 := cell_lift HT4.out b2
    go_wp2_with fail
    refine (CD.out _ (HX.out.below b2)).mono ?_
    rintro e w3 ⟨rfl, b3'⟩
    have b3 := bstep b2 b3'
    clear b1 b2' b2 b3' x2 x3 x4
    go_wp2_with fail
    go_ret
    exact step_err (.of_below b3 hle) (.of_below b3) (by decide)
  rw [if_neg (by simp)]
  have hln := h.len_z
  cases hla : Rs.lastOf C.zones with
  | none =>
    simp only
    obtain ⟨v2, hv2⟩ : ∃ v, vs .zn = v := ⟨_, rfl⟩
    have k1 := h.slices.1
    rw [hv2] at hln k1
    obtain ⟨A2, n2, c2⟩ := v2
    simp only at hln k1
    obtain rfl : n2 = 0 := by rw [← hln]; exact lastOf_none hla
    clear hla hln hv2
    go_enter Tryz.func86, Tryz.ntmps86
    have x2 := HT2.out
    go_wp2_with fail
    refine (CM.out _ HX.out).mono ?_
    rintro e w1 ⟨rfl, b1⟩
    have x3 := cell_lift HT3.out b1
    go_wp2_with fail
    refine (CO.out _ (HX.out.below b1)).mono ?_
    rintro e w2 ⟨rfl, b2'⟩
    have b2 := bstep b1 b2'
    have x4 := cell_lift HT4.out b2
    go_wp2_with fail
    refine (CD.out _ (HX.out.below b2)).mono ?_
    rintro e w3 ⟨rfl, b3'⟩
    have b3 := bstep b2 b3'
    clear b1 b2' b2 b3' x2 x3 x4
    have k2 := cell_lift k1 b3
    go_wp2_with fail
    refine (last_z0 _ _ _).mono ?_
    rintro e w9 ⟨rfl, rfl⟩
    go_wp2_with fail
    go_ret
    exact step_err (.of_below b3 hle) (.of_below b3) (by decide)
  | some z =>
    simp only
    obtain ⟨hz, hm1⟩ := lastOf_some hla
    obtain ⟨rr, hrr⟩ : ∃ r : Zn.Rule, (⟨Rs.nm l 0, Rs.nm l 1, am, ao, ad, Rs.nm l 5, Rs.nm l 6⟩ : Zn.Rule) = r := ⟨_, rfl⟩
    rw [hrr]
    have hset : Rs.setLast C.zones { z with rules := z.rules ++ [rr] } = C.zones.set (C.zones.length - 1) { z with rules := z.rules ++ [rr] } := rfl
    rw [hset]
    generalize hm : C.zones.length - 1 = m at hz hm1 ⊢
    obtain ⟨gz, cap0, ez, hcap, hlo, hsz, hcl⟩ := h.lastZ hz
    have hap0 := h.apart (κ := .zn) (κ' := .ru m) (fun e => by cases e) (g := gz) (by rw [ez]; rfl)
    have k1 := h.slices.1
    rw [ez] at k1
    simp only at k1
    have hlen6 : C.zones.length ≤ 1000000 := by have := hG.zl; omega
    have LP := Lib.hid (last_z gz C.zones.length m cap0 hm1.symm hlen6)
    generalize hpl : C.zones.length = np at LP k1
    have hq1 := (hG.zs z (List.mem_of_getElem? hz)).1
    clear hla hln hm hset hpl hm1 hcap hlen6
    go_enter Tryz.func86, Tryz.ntmps86
    have x2 := HT2.out
    go_wp2_with fail
    refine (CM.out _ HX.out).mono ?_
    rintro e w1 ⟨rfl, b1⟩
    have x3 := cell_lift HT3.out b1
    go_wp2_with fail
    refine (CO.out _ (HX.out.below b1)).mono ?_
    rintro e w2 ⟨rfl, b2'⟩
    have b2 := bstep b1 b2'
    have x4 := cell_lift HT4.out b2
    go_wp2_with fail
    refine (CD.out _ (HX.out.below b2)).mono ?_
    rintro e w3 ⟨rfl, b3'⟩
    have b3 := bstep b2 b3'
    clear b1 b2' b2 b3' x2 x3 x4
    have k2 := cell_lift k1 b3
    go_wp2_with fail
    refine (LP.out _).mono ?_
    rintro e w9 ⟨rfl, rfl⟩
    have h3 := h.below b3
    have HB3 := Lib.hid (But.of_below (bc := bc) b3 hle)
    have hle3 := h3.le
    have hlt3 := h3.lt
    have hs3 := b3.size
    have u0 : w3.cell? ⟨b, off + 2, none⟩ = some (.int .i64 (Rs.nm l 0)) := cell_lift (by simpa using HT0.out) b3
    have u1 : w3.cell? ⟨b, off + 3 + 2, none⟩ = some (.int .i64 (Rs.nm l 1)) := cell_lift (by simpa using HT1.out) b3
    have u5 : w3.cell? ⟨b, off + 15 + 2, none⟩ = some (.int .i64 (Rs.nm l 5)) := cell_lift HT5.out b3
    have u6 : w3.cell? ⟨b, off + 18 + 2, none⟩ = some (.int .i64 (Rs.nm l 6)) := cell_lift HT6.out b3
    have hcl2 : w3.cell? ⟨gz, m * 3 + 2, none⟩ = some (eZone (z, vs (.ru m)) 2) := cell_lift (hcl 2 (by omega)).1 b3
    have hfr2 : w3.frozen? ⟨gz, m * 3 + 2, none⟩ = false := (b3.frozen (p := ⟨gz, m * 3 + 2, none⟩) hsz).trans (hcl 2 (by omega)).2
    simp only [eZone] at hcl2
    have HRR := Lib.hid hrr
    clear hcl k1 k2 LP hrr
    go_wp2_with fail
    obtain ⟨hO1, hlen1⟩ := own_list (h3.rRu hz) (by omega)
    have s0 := hcl2
    have hfr := hfr2
    have hrow : ∀ g, (sv (vs (.ru m))).ownBlock = some g → lo ≤ g ∧ g < w.heap.size := fun g hg => h.far hg
    have hap := hap0
    obtain ⟨v1, hv1⟩ : ∃ v, vs (.ru m) = v := ⟨_, rfl⟩
    rw [hv1] at hO1 hlen1 hrow hap
    try rw [hv1] at s0
    obtain ⟨A1, n1, c1⟩ := v1
    simp only [sv] at s0 hO1 hrow hlen1 hap
    have HZ : Hid ((z.rules).length = n1 ∧ n1 ≤ 900000) := Lib.hid ⟨hlen1, by omega⟩
    have HO := Lib.hid hO1
    have hσ : some gz ≠ (Value.slice A1 n1 c1).ownBlock := fun e => hap e.symm
    have r0 : some b ≠ (Value.slice A1 n1 c1).ownBlock := fun e => by have := hrow _ e.symm; omega
    have hz0 : b ≠ gz := by omega
    have m0 : w3.cell? ⟨b, off + 2, none⟩ = some (.int .i64 (Rs.nm l 0)) := u0
    have r1 : some b ≠ (Value.slice A1 n1 c1).ownBlock := fun e => by have := hrow _ e.symm; omega
    have hz1 : b ≠ gz := by omega
    have m1 : w3.cell? ⟨b, off + 3 + 2, none⟩ = some (.int .i64 (Rs.nm l 1)) := u1
    have r2 : some b ≠ (Value.slice A1 n1 c1).ownBlock := fun e => by have := hrow _ e.symm; omega
    have hz2 : b ≠ gz := by omega
    have m2 : w3.cell? ⟨b, off + 15 + 2, none⟩ = some (.int .i64 (Rs.nm l 5)) := u5
    have r3 : some b ≠ (Value.slice A1 n1 c1).ownBlock := fun e => by have := hrow _ e.symm; omega
    have hz3 : b ≠ gz := by omega
    have m3 : w3.cell? ⟨b, off + 18 + 2, none⟩ = some (.int .i64 (Rs.nm l 6)) := u6
    have HS : Hid (∀ W, w3.grownBy W (Value.slice A1 n1 c1).ownBlock → W.cell? ⟨b, off + 2, none⟩ = some (.int .i64 (Rs.nm l 0)) ∧ W.cell? ⟨b, off + 3 + 2, none⟩ = some (.int .i64 (Rs.nm l 1)) ∧ W.cell? ⟨b, off + 15 + 2, none⟩ = some (.int .i64 (Rs.nm l 5)) ∧ W.cell? ⟨b, off + 18 + 2, none⟩ = some (.int .i64 (Rs.nm l 6))) := Lib.hid fun W hW => ⟨lim r0 m0 W hW, lim r1 m1 W hW, lim r2 m2 W hW, lim r3 m3 W hW⟩
    have HZ2 : Hid (∀ W v, w3.grownBy W (Value.slice A1 n1 c1).ownBlock → (W.setCell ⟨gz, m * 3 + 2, none⟩ v).cell? ⟨b, off + 2, none⟩ = some (.int .i64 (Rs.nm l 0)) ∧ (W.setCell ⟨gz, m * 3 + 2, none⟩ v).cell? ⟨b, off + 3 + 2, none⟩ = some (.int .i64 (Rs.nm l 1)) ∧ (W.setCell ⟨gz, m * 3 + 2, none⟩ v).cell? ⟨b, off + 15 + 2, none⟩ = some (.int .i64 (Rs.nm l 5)) ∧ (W.setCell ⟨gz, m * 3 + 2, none⟩ v).cell? ⟨b, off + 18 + 2, none⟩ = some (.int .i64 (Rs.nm l 6))) := Lib.hid fun W v hW => ⟨limZ r0 hz0 m0 W v hW, limZ r1 hz1 m1 W v hW, limZ r2 hz2 m2 W v hW, limZ r3 hz3 m3 W v hW⟩
    have HC : Hid (∀ W, w3.grownBy W (Value.slice A1 n1 c1).ownBlock → W.cell? ⟨gz, m * 3 + 2, none⟩ = some (.slice A1 n1 c1)) := Lib.hid (lim hσ s0)
    have HCF : Hid (∀ W, w3.grownBy W (Value.slice A1 n1 c1).ownBlock → W.frozen? ⟨gz, m * 3 + 2, none⟩ = false) := Lib.hid (limF hσ (by omega) hfr)
    have HF := Lib.hid (fun (W W1 : World) (g cap : Nat) => fin_rule (W := W) (W1 := W1) (g := g) (cap := cap) (r := ⟨Rs.nm l 0, Rs.nm l 1, am, ao, ad, Rs.nm l 5, Rs.nm l 6⟩) h3 hz rfl hv1 hlen1 (by rw [ez]))
    clear hO1 hrow hlen1 s0 hfr hσ r0 hz0 m0 r1 hz1 m1 r2 hz2 m2 r3 hz3 m3
    go_wp2_with fail
    refine wp_region_held_drew (S := fun W => W.cell? ⟨b, off + 2, none⟩ = some (.int .i64 (Rs.nm l 0)) ∧ W.cell? ⟨b, off + 3 + 2, none⟩ = some (.int .i64 (Rs.nm l 1)) ∧ W.cell? ⟨b, off + 15 + 2, none⟩ = some (.int .i64 (Rs.nm l 5)) ∧ W.cell? ⟨b, off + 18 + 2, none⟩ = some (.int .i64 (Rs.nm l 6))) (by kernel_rfl) (HS.out _ (grown_drew (grown_refl _ _))) (fun hH => ?_)
    refine wpAnyH_take (i := 0) (oi := ⟨some 53, .move (.tmp 11), 176, "build.go:68", #[], none⟩) (v := ?_) rfl (by kernel_rfl) (by kernel_rfl) (by kernel_rfl) (fun _ _ _ h => h) (Or.inl ⟨by rfl, ?_⟩) hH ?_
    rotate_left
    focus (intro w hSw; (try dsimp only at hSw); go_simp; (try with_reducible rfl); done)
    try simp only [Act.put, List.setIfInBounds_toArray, List.set_cons_zero, List.set_cons_succ]
    refine wpAnyH_take (i := 1) (oi := ⟨some 54, .move (.tmp 11), 176, "build.go:68", #[], none⟩) (v := ?_) rfl (by kernel_rfl) (by kernel_rfl) (by kernel_rfl) (fun _ _ _ h => h) (Or.inl ⟨by rfl, ?_⟩) hH ?_
    rotate_left
    focus (intro w hSw; (try dsimp only at hSw); go_simp; (try with_reducible rfl); done)
    try simp only [Act.put, List.setIfInBounds_toArray, List.set_cons_zero, List.set_cons_succ]
    refine wpAnyH_take (i := 2) (oi := ⟨some 55, .nilCheck (.tmp 54), 0, "build.go:68", #[⟨1, .data⟩], none⟩) (v := ?_) rfl (by kernel_rfl) (by kernel_rfl) (by kernel_rfl) (fun _ _ _ h => h) (Or.inl ⟨by rfl, ?_⟩) hH ?_
    rotate_left
    focus (intro w hSw; (try dsimp only at hSw); go_simp; (try with_reducible rfl); done)
    try simp only [Act.put, List.setIfInBounds_toArray, List.set_cons_zero, List.set_cons_succ]
    refine wpAnyH_take (i := 3) (oi := ⟨some 56, .fieldAddr 32 (.tmp 55) 2, 0, "build.go:68", #[⟨2, .data⟩], none⟩) (v := ?_) rfl (by kernel_rfl) (by kernel_rfl) (by kernel_rfl) (fun _ _ _ h => h) (Or.inl ⟨by rfl, ?_⟩) hH ?_
    rotate_left
    focus (intro w hSw; (try dsimp only at hSw); go_simp; (try with_reducible rfl); done)
    try simp only [Act.put, List.setIfInBounds_toArray, List.set_cons_zero, List.set_cons_succ]
    refine wpAnyH_take (i := 5) (oi := ⟨some 58, .move (.tmp 1), 104, "build.go:68", #[], none⟩) (v := ?_) rfl (by kernel_rfl) (by kernel_rfl) (by kernel_rfl) (fun _ _ _ h => h) (Or.inl ⟨by rfl, ?_⟩) hH ?_
    rotate_left
    focus (intro w hSw; (try dsimp only at hSw); go_simp; (try with_reducible rfl); done)
    try simp only [Act.put, List.setIfInBounds_toArray, List.set_cons_zero, List.set_cons_succ]
    refine wpAnyH_take (i := 6) (oi := ⟨some 59, .indexAddr 104 (.tmp 58) (.const (.int .i64 0)), 0, "build.go:68", #[⟨5, .data⟩], none⟩) (v := ?_) rfl (by kernel_rfl) (by kernel_rfl) (by kernel_rfl) (fun _ _ _ h => h) (Or.inl ⟨by rfl, ?_⟩) hH ?_
    rotate_left
    focus (intro w hSw; (try dsimp only at hSw); go_simp; (try with_reducible rfl); done)
    try simp only [Act.put, List.setIfInBounds_toArray, List.set_cons_zero, List.set_cons_succ]
    refine wpAnyH_take (i := 7) (oi := ⟨some 60, .fieldAddr 115 (.tmp 59) 2, 0, "build.go:68", #[⟨6, .data⟩], none⟩) (v := ?_) rfl (by kernel_rfl) (by kernel_rfl) (by kernel_rfl) (fun _ _ _ h => h) (Or.inl ⟨by rfl, ?_⟩) hH ?_
    rotate_left
    focus (intro w hSw; (try dsimp only at hSw); go_simp; (try with_reducible rfl); done)
    try simp only [Act.put, List.setIfInBounds_toArray, List.set_cons_zero, List.set_cons_succ]
    refine wpAnyH_take (i := 8) (oi := ⟨some 61, .load 3 (.tmp 60), 3, "build.go:68", #[⟨7, .data⟩], none⟩) (v := ?_) rfl (by kernel_rfl) (by kernel_rfl) (by kernel_rfl) (fun _ _ _ h => h) (Or.inl ⟨by rfl, ?_⟩) hH ?_
    rotate_left
    focus (intro w hSw; (try dsimp only at hSw); go_simp; (try with_reducible rfl); done)
    try simp only [Act.put, List.setIfInBounds_toArray, List.set_cons_zero, List.set_cons_succ]
    refine wpAnyH_take (i := 9) (oi := ⟨some 62, .move (.tmp 1), 104, "build.go:68", #[], none⟩) (v := ?_) rfl (by kernel_rfl) (by kernel_rfl) (by kernel_rfl) (fun _ _ _ h => h) (Or.inl ⟨by rfl, ?_⟩) hH ?_
    rotate_left
    focus (intro w hSw; (try dsimp only at hSw); go_simp; (try with_reducible rfl); done)
    try simp only [Act.put, List.setIfInBounds_toArray, List.set_cons_zero, List.set_cons_succ]
    refine wpAnyH_take (i := 10) (oi := ⟨some 63, .indexAddr 104 (.tmp 62) (.const (.int .i64 1)), 0, "build.go:68", #[⟨9, .data⟩], none⟩) (v := ?_) rfl (by kernel_rfl) (by kernel_rfl) (by kernel_rfl) (fun _ _ _ h => h) (Or.inl ⟨by rfl, ?_⟩) hH ?_
    rotate_left
    focus (intro w hSw; (try dsimp only at hSw); go_simp; (try with_reducible rfl); done)
    try simp only [Act.put, List.setIfInBounds_toArray, List.set_cons_zero, List.set_cons_succ]
    refine wpAnyH_take (i := 11) (oi := ⟨some 64, .fieldAddr 115 (.tmp 63) 2, 0, "build.go:68", #[⟨10, .data⟩], none⟩) (v := ?_) rfl (by kernel_rfl) (by kernel_rfl) (by kernel_rfl) (fun _ _ _ h => h) (Or.inl ⟨by rfl, ?_⟩) hH ?_
    rotate_left
    focus (intro w hSw; (try dsimp only at hSw); go_simp; (try with_reducible rfl); done)
    try simp only [Act.put, List.setIfInBounds_toArray, List.set_cons_zero, List.set_cons_succ]
    refine wpAnyH_take (i := 12) (oi := ⟨some 65, .load 3 (.tmp 64), 3, "build.go:68", #[⟨11, .data⟩], none⟩) (v := ?_) rfl (by kernel_rfl) (by kernel_rfl) (by kernel_rfl) (fun _ _ _ h => h) (Or.inl ⟨by rfl, ?_⟩) hH ?_
    rotate_left
    focus (intro w hSw; (try dsimp only at hSw); go_simp; (try with_reducible rfl); done)
    try simp only [Act.put, List.setIfInBounds_toArray, List.set_cons_zero, List.set_cons_succ]
    refine wpAnyH_take (i := 13) (oi := ⟨some 66, .move (.tmp 5), 3, "build.go:68", #[], none⟩) (v := ?_) rfl (by kernel_rfl) (by kernel_rfl) (by kernel_rfl) (fun _ _ _ h => h) (Or.inl ⟨by rfl, ?_⟩) hH ?_
    rotate_left
    focus (intro w hSw; (try dsimp only at hSw); go_simp; (try with_reducible rfl); done)
    try simp only [Act.put, List.setIfInBounds_toArray, List.set_cons_zero, List.set_cons_succ]
    refine wpAnyH_take (i := 14) (oi := ⟨some 67, .move (.tmp 7), 3, "build.go:68", #[], none⟩) (v := ?_) rfl (by kernel_rfl) (by kernel_rfl) (by kernel_rfl) (fun _ _ _ h => h) (Or.inl ⟨by rfl, ?_⟩) hH ?_
    rotate_left
    focus (intro w hSw; (try dsimp only at hSw); go_simp; (try with_reducible rfl); done)
    try simp only [Act.put, List.setIfInBounds_toArray, List.set_cons_zero, List.set_cons_succ]
    refine wpAnyH_take (i := 15) (oi := ⟨some 68, .move (.tmp 9), 3, "build.go:68", #[], none⟩) (v := ?_) rfl (by kernel_rfl) (by kernel_rfl) (by kernel_rfl) (fun _ _ _ h => h) (Or.inl ⟨by rfl, ?_⟩) hH ?_
    rotate_left
    focus (intro w hSw; (try dsimp only at hSw); go_simp; (try with_reducible rfl); done)
    try simp only [Act.put, List.setIfInBounds_toArray, List.set_cons_zero, List.set_cons_succ]
    refine wpAnyH_take (i := 16) (oi := ⟨some 69, .move (.tmp 1), 104, "build.go:68", #[], none⟩) (v := ?_) rfl (by kernel_rfl) (by kernel_rfl) (by kernel_rfl) (fun _ _ _ h => h) (Or.inl ⟨by rfl, ?_⟩) hH ?_
    rotate_left
    focus (intro w hSw; (try dsimp only at hSw); go_simp; (try with_reducible rfl); done)
    try simp only [Act.put, List.setIfInBounds_toArray, List.set_cons_zero, List.set_cons_succ]
    refine wpAnyH_take (i := 17) (oi := ⟨some 70, .indexAddr 104 (.tmp 69) (.const (.int .i64 5)), 0, "build.go:68", #[⟨16, .data⟩], none⟩) (v := ?_) rfl (by kernel_rfl) (by kernel_rfl) (by kernel_rfl) (fun _ _ _ h => h) (Or.inl ⟨by rfl, ?_⟩) hH ?_
    rotate_left
    focus (intro w hSw; (try dsimp only at hSw); go_simp; (try with_reducible rfl); done)
    try simp only [Act.put, List.setIfInBounds_toArray, List.set_cons_zero, List.set_cons_succ]
    refine wpAnyH_take (i := 18) (oi := ⟨some 71, .fieldAddr 115 (.tmp 70) 2, 0, "build.go:68", #[⟨17, .data⟩], none⟩) (v := ?_) rfl (by kernel_rfl) (by kernel_rfl) (by kernel_rfl) (fun _ _ _ h => h) (Or.inl ⟨by rfl, ?_⟩) hH ?_
    rotate_left
    focus (intro w hSw; (try dsimp only at hSw); go_simp; (try with_reducible rfl); done)
    try simp only [Act.put, List.setIfInBounds_toArray, List.set_cons_zero, List.set_cons_succ]
    refine wpAnyH_take (i := 19) (oi := ⟨some 72, .load 3 (.tmp 71), 3, "build.go:68", #[⟨18, .data⟩], none⟩) (v := ?_) rfl (by kernel_rfl) (by kernel_rfl) (by kernel_rfl) (fun _ _ _ h => h) (Or.inl ⟨by rfl, ?_⟩) hH ?_
    rotate_left
    focus (intro w hSw; (try dsimp only at hSw); go_simp; (try with_reducible rfl); done)
    try simp only [Act.put, List.setIfInBounds_toArray, List.set_cons_zero, List.set_cons_succ]
    refine wpAnyH_take (i := 20) (oi := ⟨some 73, .move (.tmp 1), 104, "build.go:68", #[], none⟩) (v := ?_) rfl (by kernel_rfl) (by kernel_rfl) (by kernel_rfl) (fun _ _ _ h => h) (Or.inl ⟨by rfl, ?_⟩) hH ?_
    rotate_left
    focus (intro w hSw; (try dsimp only at hSw); go_simp; (try with_reducible rfl); done)
    try simp only [Act.put, List.setIfInBounds_toArray, List.set_cons_zero, List.set_cons_succ]
    refine wpAnyH_take (i := 21) (oi := ⟨some 74, .indexAddr 104 (.tmp 73) (.const (.int .i64 6)), 0, "build.go:68", #[⟨20, .data⟩], none⟩) (v := ?_) rfl (by kernel_rfl) (by kernel_rfl) (by kernel_rfl) (fun _ _ _ h => h) (Or.inl ⟨by rfl, ?_⟩) hH ?_
    rotate_left
    focus (intro w hSw; (try dsimp only at hSw); go_simp; (try with_reducible rfl); done)
    try simp only [Act.put, List.setIfInBounds_toArray, List.set_cons_zero, List.set_cons_succ]
    refine wpAnyH_take (i := 22) (oi := ⟨some 75, .fieldAddr 115 (.tmp 74) 2, 0, "build.go:68", #[⟨21, .data⟩], none⟩) (v := ?_) rfl (by kernel_rfl) (by kernel_rfl) (by kernel_rfl) (fun _ _ _ h => h) (Or.inl ⟨by rfl, ?_⟩) hH ?_
    rotate_left
    focus (intro w hSw; (try dsimp only at hSw); go_simp; (try with_reducible rfl); done)
    try simp only [Act.put, List.setIfInBounds_toArray, List.set_cons_zero, List.set_cons_succ]
    refine wpAnyH_take (i := 23) (oi := ⟨some 76, .load 3 (.tmp 75), 3, "build.go:68", #[⟨22, .data⟩], none⟩) (v := ?_) rfl (by kernel_rfl) (by kernel_rfl) (by kernel_rfl) (fun _ _ _ h => h) (Or.inl ⟨by rfl, ?_⟩) hH ?_
    rotate_left
    focus (intro w hSw; (try dsimp only at hSw); go_simp; (try with_reducible rfl); done)
    try simp only [Act.put, List.setIfInBounds_toArray, List.set_cons_zero, List.set_cons_succ]
    refine wpAnyH_take (i := 24) (oi := ⟨some 77, .build 118 #[(0, .tmp 61), (1, .tmp 65), (2, .tmp 66), (3, .tmp 67), (4, .tmp 68), (5, .tmp 72), (6, .tmp 76)], 118, "build.go:68", #[⟨8, .data⟩, ⟨12, .data⟩, ⟨13, .data⟩, ⟨14, .data⟩, ⟨15, .data⟩, ⟨19, .data⟩, ⟨23, .data⟩], none⟩) (v := ?_) rfl (by kernel_rfl) (by kernel_rfl) (by kernel_rfl) (fun _ _ _ h => h) (Or.inl ⟨by rfl, ?_⟩) hH ?_
    rotate_left
    focus (intro w hSw; (try dsimp only at hSw); go_simp; (try with_reducible rfl); done)
    try simp only [Act.put, List.setIfInBounds_toArray, List.set_cons_zero, List.set_cons_succ]
    refine wpAnyH_ready (rs := [4, 25]) (by kernel_rfl) (by simp) ?_
    refine AllReadyH.cons (o := ⟨some 57, .load 30 (.tmp 56), 30, "build.go:68", #[⟨3, .data⟩], none⟩) rfl (fun K hK => ?_) (AllReadyH.cons (o := ⟨some 78, .buildSlice 30 1 #[(0, .tmp 77)], 30, "build.go:68", #[⟨24, .data⟩], none⟩) rfl (fun K hK => ?_) AllReadyH.nil)
    · have y0 := HC.out _ (grown_drew (grown_refl _ _))
      have y3 := fun o => HC.out _ (grown_drew (grown_alloc (grown_refl w3 _) o))
      have y4 := fun o => HC.out _ (grown_alloc (grown_drew (grown_refl w3 _)) o)
      go_simp
      clear y0 y3 y4
      refine hK.out _ _ (HS.out _ (by first | exact grown_drew (grown_refl _ _) | exact grown_drew (grown_alloc (grown_refl _ _) _) | exact grown_alloc (grown_drew (grown_refl _ _)) _)) (fun hH2 => ?_)
      clear hK K hH
      have hH := hH2
      clear hH2
      try simp only [Act.put, List.setIfInBounds_toArray, List.set_cons_zero, List.set_cons_succ]
      refine wpAnyH_ready (rs := [25]) (by kernel_rfl) (by simp) ?_
      refine AllReadyH.cons (o := ⟨some 78, .buildSlice 30 1 #[(0, .tmp 77)], 30, "build.go:68", #[⟨24, .data⟩], none⟩) rfl (fun K hK => ?_) AllReadyH.nil
      go_simp
      refine hK.out _ _ (HS.out _ (by first | exact grown_drew (grown_refl _ _) | exact grown_drew (grown_alloc (grown_refl _ _) _) | exact grown_alloc (grown_drew (grown_refl _ _)) _)) (fun hH2 => ?_)
      clear hK K hH
      have hH := hH2
      clear hH2
      try simp only [Act.put, List.setIfInBounds_toArray, List.set_cons_zero, List.set_cons_succ]
      refine wpAnyH_ready (rs := [26]) (by kernel_rfl) (by simp) ?_
      refine AllReadyH.cons (o := ⟨some 79, .call { callee := .builtin .append, args := #[.tmp 57, .tmp 78], argTypes := #[30, 30] }, 30, "build.go:68", #[⟨4, .data⟩, ⟨25, .data⟩], none⟩) rfl (fun K hK => ?_) AllReadyH.nil
      (refine step_append_row kRule _ (by rfl) (.tmp 57) (.tmp 78) (by rfl) lo (.slice A1 n1 c1) (z.rules) (by rfl) (by first | exact (HO.out.alloc _).drewN 1 | exact (HO.out.drewN 1).alloc _) w3.heap.size ⟨Rs.nm l 0, Rs.nm l 1, am, ao, ad, Rs.nm l 5, Rs.nm l 6⟩ (by rfl) (one_new (by first | exact BlkAt.drewN (blk_now rfl) 1 | exact blk_now rfl) (rule_vals ⟨Rs.nm l 0, Rs.nm l 1, am, ao, ad, Rs.nm l 5, Rs.nm l 6⟩)) (by have := HZ.out; omega) (by simp; omega) ?_; intro g cap w' hO' hg hgo hlt'; have hq : w3.grownBy w' (Value.slice A1 n1 c1).ownBlock := grown_trans (by first | exact grown_drew (grown_alloc (grown_refl _ _) _) | exact grown_alloc (grown_drew (grown_refl _ _)) _) hg; have y1 := HC.out _ hq; have y2 := HCF.out _ hq)
      refine hK.out _ _ (HS.out _ hq) (fun hH2 => ?_)
      clear hK K hH
      have hH := hH2
      clear hH2
      try simp only [Act.put, List.setIfInBounds_toArray, List.set_cons_zero, List.set_cons_succ]
      refine wpAnyH_take (i := 27) (oi := ⟨some 80, .nilCheck (.tmp 53), 0, "build.go:68", #[⟨0, .data⟩, ⟨0, .phase⟩, ⟨1, .phase⟩, ⟨2, .phase⟩, ⟨3, .phase⟩, ⟨4, .phase⟩, ⟨5, .phase⟩, ⟨6, .phase⟩, ⟨7, .phase⟩, ⟨8, .phase⟩, ⟨9, .phase⟩, ⟨10, .phase⟩, ⟨11, .phase⟩, ⟨12, .phase⟩, ⟨13, .phase⟩, ⟨14, .phase⟩, ⟨15, .phase⟩, ⟨16, .phase⟩, ⟨17, .phase⟩, ⟨18, .phase⟩, ⟨19, .phase⟩, ⟨20, .phase⟩, ⟨21, .phase⟩, ⟨22, .phase⟩, ⟨23, .phase⟩, ⟨24, .phase⟩, ⟨25, .phase⟩, ⟨26, .phase⟩], none⟩) (v := ?_) rfl (by kernel_rfl) (by kernel_rfl) (by kernel_rfl) (fun _ _ _ h => h) (Or.inl ⟨by rfl, ?_⟩) hH ?_
      rotate_left
      focus (intro w hSw; (try dsimp only at hSw); go_simp; (try with_reducible rfl); done)
      try simp only [Act.put, List.setIfInBounds_toArray, List.set_cons_zero, List.set_cons_succ]
      refine wpAnyH_take (i := 28) (oi := ⟨some 81, .fieldAddr 32 (.tmp 80) 2, 0, "build.go:68", #[⟨27, .data⟩, ⟨0, .phase⟩, ⟨1, .phase⟩, ⟨2, .phase⟩, ⟨3, .phase⟩, ⟨4, .phase⟩, ⟨5, .phase⟩, ⟨6, .phase⟩, ⟨7, .phase⟩, ⟨8, .phase⟩, ⟨9, .phase⟩, ⟨10, .phase⟩, ⟨11, .phase⟩, ⟨12, .phase⟩, ⟨13, .phase⟩, ⟨14, .phase⟩, ⟨15, .phase⟩, ⟨16, .phase⟩, ⟨17, .phase⟩, ⟨18, .phase⟩, ⟨19, .phase⟩, ⟨20, .phase⟩, ⟨21, .phase⟩, ⟨22, .phase⟩, ⟨23, .phase⟩, ⟨24, .phase⟩, ⟨25, .phase⟩, ⟨26, .phase⟩], none⟩) (v := ?_) rfl (by kernel_rfl) (by kernel_rfl) (by kernel_rfl) (fun _ _ _ h => h) (Or.inl ⟨by rfl, ?_⟩) hH ?_
      rotate_left
      focus (intro w hSw; (try dsimp only at hSw); go_simp; (try with_reducible rfl); done)
      try simp only [Act.put, List.setIfInBounds_toArray, List.set_cons_zero, List.set_cons_succ]
      refine wpAnyH_ready (rs := [29]) (by kernel_rfl) (by simp) ?_
      refine AllReadyH.cons (o := ⟨none, .store 30 (.tmp 81) (.tmp 79), 0, "build.go:68", #[⟨28, .data⟩, ⟨26, .data⟩, ⟨26, .chain⟩, ⟨0, .phase⟩, ⟨1, .phase⟩, ⟨2, .phase⟩, ⟨3, .phase⟩, ⟨4, .phase⟩, ⟨5, .phase⟩, ⟨6, .phase⟩, ⟨7, .phase⟩, ⟨8, .phase⟩, ⟨9, .phase⟩, ⟨10, .phase⟩, ⟨11, .phase⟩, ⟨12, .phase⟩, ⟨13, .phase⟩, ⟨14, .phase⟩, ⟨15, .phase⟩, ⟨16, .phase⟩, ⟨17, .phase⟩, ⟨18, .phase⟩, ⟨19, .phase⟩, ⟨20, .phase⟩, ⟨21, .phase⟩, ⟨22, .phase⟩, ⟨23, .phase⟩, ⟨24, .phase⟩, ⟨25, .phase⟩, ⟨26, .phase⟩], none⟩) rfl (fun K hK => ?_) AllReadyH.nil
      go_simp
      refine hK.out _ _ (HZ2.out _ _ hq) (fun hH2 => ?_)
      clear hK K hH
      have hH := hH2
      clear hH2
      try simp only [Act.put, List.setIfInBounds_toArray, List.set_cons_zero, List.set_cons_succ]
      refine wpAnyH_done (by kernel_rfl) ?_ _
      rw [HZ.out.1]
      go_wp2_with fail
      go_ret
      rw [← HRR.out]
      exact (HF.out _ _ _ _ (by first | exact bdrewN ((Below.refl _ _).alloc (Nat.le_refl _) _) 1 | exact (bdrewN (Below.refl _ _) 1).alloc (Nat.le_refl _) _) hO' hg hgo).step HB3.out
    · go_simp
      refine hK.out _ _ (HS.out _ (by first | exact grown_drew (grown_refl _ _) | exact grown_drew (grown_alloc (grown_refl _ _) _) | exact grown_alloc (grown_drew (grown_refl _ _)) _)) (fun hH2 => ?_)
      clear hK K hH
      have hH := hH2
      clear hH2
      try simp only [Act.put, List.setIfInBounds_toArray, List.set_cons_zero, List.set_cons_succ]
      refine wpAnyH_ready (rs := [4]) (by kernel_rfl) (by simp) ?_
      refine AllReadyH.cons (o := ⟨some 57, .load 30 (.tmp 56), 30, "build.go:68", #[⟨3, .data⟩], none⟩) rfl (fun K hK => ?_) AllReadyH.nil
      have y0 := HC.out _ (grown_drew (grown_refl _ _))
      have y3 := fun o => HC.out _ (grown_drew (grown_alloc (grown_refl w3 _) o))
      have y4 := fun o => HC.out _ (grown_alloc (grown_drew (grown_refl w3 _)) o)
      go_simp
      clear y0 y3 y4
      refine hK.out _ _ (HS.out _ (by first | exact grown_drew (grown_refl _ _) | exact grown_drew (grown_alloc (grown_refl _ _) _) | exact grown_alloc (grown_drew (grown_refl _ _)) _)) (fun hH2 => ?_)
      clear hK K hH
      have hH := hH2
      clear hH2
      try simp only [Act.put, List.setIfInBounds_toArray, List.set_cons_zero, List.set_cons_succ]
      refine wpAnyH_ready (rs := [26]) (by kernel_rfl) (by simp) ?_
      refine AllReadyH.cons (o := ⟨some 79, .call { callee := .builtin .append, args := #[.tmp 57, .tmp 78], argTypes := #[30, 30] }, 30, "build.go:68", #[⟨4, .data⟩, ⟨25, .data⟩], none⟩) rfl (fun K hK => ?_) AllReadyH.nil
      (refine step_append_row kRule _ (by rfl) (.tmp 57) (.tmp 78) (by rfl) lo (.slice A1 n1 c1) (z.rules) (by rfl) (by first | exact (HO.out.alloc _).drewN 1 | exact (HO.out.drewN 1).alloc _) w3.heap.size ⟨Rs.nm l 0, Rs.nm l 1, am, ao, ad, Rs.nm l 5, Rs.nm l 6⟩ (by rfl) (one_new (by first | exact BlkAt.drewN (blk_now rfl) 1 | exact blk_now rfl) (rule_vals ⟨Rs.nm l 0, Rs.nm l 1, am, ao, ad, Rs.nm l 5, Rs.nm l 6⟩)) (by have := HZ.out; omega) (by simp; omega) ?_; intro g cap w' hO' hg hgo hlt'; have hq : w3.grownBy w' (Value.slice A1 n1 c1).ownBlock := grown_trans (by first | exact grown_drew (grown_alloc (grown_refl _ _) _) | exact grown_alloc (grown_drew (grown_refl _ _)) _) hg; have y1 := HC.out _ hq; have y2 := HCF.out _ hq)
      refine hK.out _ _ (HS.out _ hq) (fun hH2 => ?_)
      clear hK K hH
      have hH := hH2
      clear hH2
      try simp only [Act.put, List.setIfInBounds_toArray, List.set_cons_zero, List.set_cons_succ]
      refine wpAnyH_take (i := 27) (oi := ⟨some 80, .nilCheck (.tmp 53), 0, "build.go:68", #[⟨0, .data⟩, ⟨0, .phase⟩, ⟨1, .phase⟩, ⟨2, .phase⟩, ⟨3, .phase⟩, ⟨4, .phase⟩, ⟨5, .phase⟩, ⟨6, .phase⟩, ⟨7, .phase⟩, ⟨8, .phase⟩, ⟨9, .phase⟩, ⟨10, .phase⟩, ⟨11, .phase⟩, ⟨12, .phase⟩, ⟨13, .phase⟩, ⟨14, .phase⟩, ⟨15, .phase⟩, ⟨16, .phase⟩, ⟨17, .phase⟩, ⟨18, .phase⟩, ⟨19, .phase⟩, ⟨20, .phase⟩, ⟨21, .phase⟩, ⟨22, .phase⟩, ⟨23, .phase⟩, ⟨24, .phase⟩, ⟨25, .phase⟩, ⟨26, .phase⟩], none⟩) (v := ?_) rfl (by kernel_rfl) (by kernel_rfl) (by kernel_rfl) (fun _ _ _ h => h) (Or.inl ⟨by rfl, ?_⟩) hH ?_
      rotate_left
      focus (intro w hSw; (try dsimp only at hSw); go_simp; (try with_reducible rfl); done)
      try simp only [Act.put, List.setIfInBounds_toArray, List.set_cons_zero, List.set_cons_succ]
      refine wpAnyH_take (i := 28) (oi := ⟨some 81, .fieldAddr 32 (.tmp 80) 2, 0, "build.go:68", #[⟨27, .data⟩, ⟨0, .phase⟩, ⟨1, .phase⟩, ⟨2, .phase⟩, ⟨3, .phase⟩, ⟨4, .phase⟩, ⟨5, .phase⟩, ⟨6, .phase⟩, ⟨7, .phase⟩, ⟨8, .phase⟩, ⟨9, .phase⟩, ⟨10, .phase⟩, ⟨11, .phase⟩, ⟨12, .phase⟩, ⟨13, .phase⟩, ⟨14, .phase⟩, ⟨15, .phase⟩, ⟨16, .phase⟩, ⟨17, .phase⟩, ⟨18, .phase⟩, ⟨19, .phase⟩, ⟨20, .phase⟩, ⟨21, .phase⟩, ⟨22, .phase⟩, ⟨23, .phase⟩, ⟨24, .phase⟩, ⟨25, .phase⟩, ⟨26, .phase⟩], none⟩) (v := ?_) rfl (by kernel_rfl) (by kernel_rfl) (by kernel_rfl) (fun _ _ _ h => h) (Or.inl ⟨by rfl, ?_⟩) hH ?_
      rotate_left
      focus (intro w hSw; (try dsimp only at hSw); go_simp; (try with_reducible rfl); done)
      try simp only [Act.put, List.setIfInBounds_toArray, List.set_cons_zero, List.set_cons_succ]
      refine wpAnyH_ready (rs := [29]) (by kernel_rfl) (by simp) ?_
      refine AllReadyH.cons (o := ⟨none, .store 30 (.tmp 81) (.tmp 79), 0, "build.go:68", #[⟨28, .data⟩, ⟨26, .data⟩, ⟨26, .chain⟩, ⟨0, .phase⟩, ⟨1, .phase⟩, ⟨2, .phase⟩, ⟨3, .phase⟩, ⟨4, .phase⟩, ⟨5, .phase⟩, ⟨6, .phase⟩, ⟨7, .phase⟩, ⟨8, .phase⟩, ⟨9, .phase⟩, ⟨10, .phase⟩, ⟨11, .phase⟩, ⟨12, .phase⟩, ⟨13, .phase⟩, ⟨14, .phase⟩, ⟨15, .phase⟩, ⟨16, .phase⟩, ⟨17, .phase⟩, ⟨18, .phase⟩, ⟨19, .phase⟩, ⟨20, .phase⟩, ⟨21, .phase⟩, ⟨22, .phase⟩, ⟨23, .phase⟩, ⟨24, .phase⟩, ⟨25, .phase⟩, ⟨26, .phase⟩], none⟩) rfl (fun K hK => ?_) AllReadyH.nil
      go_simp
      refine hK.out _ _ (HZ2.out _ _ hq) (fun hH2 => ?_)
      clear hK K hH
      have hH := hH2
      clear hH2
      try simp only [Act.put, List.setIfInBounds_toArray, List.set_cons_zero, List.set_cons_succ]
      refine wpAnyH_done (by kernel_rfl) ?_ _
      rw [HZ.out.1]
      go_wp2_with fail
      go_ret
      rw [← HRR.out]
      exact (HF.out _ _ _ _ (by first | exact bdrewN ((Below.refl _ _).alloc (Nat.le_refl _) _) 1 | exact (bdrewN (Below.refl _ _) 1).alloc (Nat.le_refl _) _) hO' hg hgo).step HB3.out
end Go.Proofs.YtphenbfhojdcpaaGreatDoor
