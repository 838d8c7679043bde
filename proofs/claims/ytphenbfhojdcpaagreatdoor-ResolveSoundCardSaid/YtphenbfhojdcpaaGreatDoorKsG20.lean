/- Package resolve: addQuiet. Printed by gen_sb.py. Package resolve: addDays. Printed by gen_sc.py. -/
import Derived.Test.YtphenbfhojdcpaaGreatDoorKsSca
import Derived.Deep.RegionHeld3
import Derived.Test.YtphenbfhojdcpaaGreatDoorKsG17
namespace Go.Proofs.YtphenbfhojdcpaaGreatDoor
open Go.RowKit
set_option linter.unusedVariables false
set_option linter.unusedSimpArgs false
set_option maxRecDepth 100000
theorem pair_vals (a b : Int) : ∀ j, j < 2 → (#[Value.int .i64 a, .int .i64 b] : Array Value)[j]? = some (ePair (a, b) j) := fun j hj => by
  rcases j with _ | _ | _ <;> first | rfl | omega
set_option maxHeartbeats 16000000 in
theorem addQuiet_is {C : Rs.Cfg} {N : Nat} {l : List Lx.Tk} (A : Option Addr) (n c bc lo : Nat) (vs : Key → SV) (w : World) (h : OwnC w bc lo vs C) (hG : GoodC N C) (hN : N ≤ 900000) (hT : TokIn w bc A l) (hl : 4 ≤ l.length) (hn : l.length = n) (hn6 : n ≤ 1000) (hX : LexT w) :
    Calls Tryz.prog 88 #[.pointer (some ⟨bc, 0, none⟩), .slice A n c] w (StepV bc lo w (Rs.addQuiet C l)) := by
  have hlt := h.lt
  have hle := h.le
  obtain ⟨p, hp⟩ : ∃ p, Rs.winS l = p := ⟨_, rfl⟩
  unfold Rs.addQuiet
  rw [hp]
  have CW := Lib.hid (window_is hp A n c bc w hT hl hn hn6 (by omega) hX)
  obtain ⟨⟨f, t⟩, ok⟩ := p
  simp only at CW
  clear hp
  cases ok
  · rw [if_pos rfl]
    go_enter Tryz.func88, Tryz.ntmps88
    go_wp2_with fail
    refine CW.out.mono ?_
    rintro e w1 ⟨rfl, b1⟩
    have B1 := b1.alloc b1.size (.cells #[.int .i64 f, .int .i64 t] 120)
    go_wp2_with fail
    go_ret
    exact step_err (.of_below B1 hle) (.of_below B1) (by decide)
  rw [if_neg (by simp)]
  simp only
  have hln := h.len_p
  cases hla : Rs.lastOf C.people with
  | none =>
    simp only
    obtain ⟨v2, hv2⟩ : ∃ v, vs .pe = v := ⟨_, rfl⟩
    have k1 := h.slices.2.1
    rw [hv2] at hln k1
    obtain ⟨A2, n2, c2⟩ := v2
    simp only at hln k1
    obtain rfl : n2 = 0 := by rw [← hln]; exact lastOf_none hla
    clear hla hln hv2
    go_enter Tryz.func88, Tryz.ntmps88
    go_wp2_with fail
    refine CW.out.mono ?_
    rintro e w1 ⟨rfl, b1⟩
    have B1 := b1.alloc b1.size (.cells #[.int .i64 f, .int .i64 t] 120)
    have k2 := cell_lift k1 B1
    go_wp2_with fail
    refine (last_p0 _ _ _).mono ?_
    rintro e w9 ⟨rfl, rfl⟩
    go_wp2_with fail
    go_ret
    exact step_err (.of_below B1 hle) (.of_below B1) (by decide)
  | some z =>
    simp only
    obtain ⟨hz, hm1⟩ := lastOf_some hla
    have hset : Rs.setLast C.people { z with quiet := z.quiet ++ [(f, t)] } = C.people.set (C.people.length - 1) { z with quiet := z.quiet ++ [(f, t)] } := rfl
    rw [hset]
    generalize hm : C.people.length - 1 = m at hz hm1 ⊢
    obtain ⟨gz, cap0, ez, hcap, hlo, hsz, hcl⟩ := h.lastP hz
    have hap0 := h.apart (κ := .pe) (κ' := .qu m) (fun e => by cases e) (g := gz) (by rw [ez]; rfl)
    have k1 := h.slices.2.1
    rw [ez] at k1
    simp only at k1
    have hlen6 : C.people.length ≤ 1000000 := by have := hG.pl; omega
    have LP := Lib.hid (last_p gz C.people.length m cap0 hm1.symm hlen6)
    generalize hpl : C.people.length = np at LP k1
    have hq1 := hG.ps z (List.mem_of_getElem? hz)
    clear hla hln hm hset hpl hm1 hcap hlen6
    go_enter Tryz.func88, Tryz.ntmps88
    go_wp2_with fail
    refine CW.out.mono ?_
    rintro e w1 ⟨rfl, b1⟩
    have B2 := b1.alloc b1.size (.cells #[.int .i64 f, .int .i64 t] 120)
    have N2 := BlkAt.new w1 #[.int .i64 f, .int .i64 t] 120
    have hs1 := b1.size
    have k2 := cell_lift k1 B2
    go_wp2_with fail
    refine (LP.out _).mono ?_
    rintro e w9 ⟨rfl, rfl⟩
    generalize w1.alloc (.cells #[.int .i64 f, .int .i64 t] 120) = w2 at B2 N2 k2 ⊢
    have h2 := h.below B2
    have HB2 := Lib.hid (But.of_below (bc := bc) B2 hle)
    have hle2 := h2.le
    have hlt2 := h2.lt
    have hs2 := B2.size
    have hNl := N2.lt_
    have hcl2 : w2.cell? ⟨gz, m * 6 + 2, none⟩ = some (ePers (z, vs (.qu m)) 2) := cell_lift (hcl 2 (by omega)).1 B2
    have hfr2 : w2.frozen? ⟨gz, m * 6 + 2, none⟩ = false := (B2.frozen (p := ⟨gz, m * 6 + 2, none⟩) hsz).trans (hcl 2 (by omega)).2
    simp only [ePers] at hcl2
    clear hcl k1 k2 LP CW B2 b1
    go_wp2_with fail
    obtain ⟨hO1, hlen1⟩ := own_list (h2.rQu hz) (by omega)
    have s0 := hcl2
    have hfr := hfr2
    have hrow : ∀ g, (sv (vs (.qu m))).ownBlock = some g → lo ≤ g ∧ g < w.heap.size := fun g hg => h.far hg
    have hap := hap0
    obtain ⟨v1, hv1⟩ : ∃ v, vs (.qu m) = v := ⟨_, rfl⟩
    rw [hv1] at hO1 hlen1 hrow hap
    try rw [hv1] at s0
    obtain ⟨A1, n1, c1⟩ := v1
    simp only [sv] at s0 hO1 hrow hlen1 hap
    have HZ : Hid ((z.quiet).length = n1 ∧ n1 ≤ 900000) := Lib.hid ⟨hlen1, by omega⟩
    have HO := Lib.hid hO1
    have hσ : some gz ≠ (Value.slice A1 n1 c1).ownBlock := fun e => hap e.symm
    have r0 : some w1.heap.size ≠ (Value.slice A1 n1 c1).ownBlock := fun e => by have := hrow _ e.symm; omega
    have hz0 : w1.heap.size ≠ gz := by omega
    have m0 : w2.cell? ⟨w1.heap.size, 0, none⟩ = some (.int .i64 f) := N2.cell rfl
    have r1 : some w1.heap.size ≠ (Value.slice A1 n1 c1).ownBlock := fun e => by have := hrow _ e.symm; omega
    have hz1 : w1.heap.size ≠ gz := by omega
    have m1 : w2.cell? ⟨w1.heap.size, 1, none⟩ = some (.int .i64 t) := N2.cell rfl
    have HS : Hid (∀ W, w2.grownBy W (Value.slice A1 n1 c1).ownBlock → W.cell? ⟨w1.heap.size, 0, none⟩ = some (.int .i64 f) ∧ W.cell? ⟨w1.heap.size, 1, none⟩ = some (.int .i64 t)) := Lib.hid fun W hW => ⟨lim r0 m0 W hW, lim r1 m1 W hW⟩
    have HZ2 : Hid (∀ W v, w2.grownBy W (Value.slice A1 n1 c1).ownBlock → (W.setCell ⟨gz, m * 6 + 2, none⟩ v).cell? ⟨w1.heap.size, 0, none⟩ = some (.int .i64 f) ∧ (W.setCell ⟨gz, m * 6 + 2, none⟩ v).cell? ⟨w1.heap.size, 1, none⟩ = some (.int .i64 t)) := Lib.hid fun W v hW => ⟨limZ r0 hz0 m0 W v hW, limZ r1 hz1 m1 W v hW⟩
    have HC : Hid (∀ W, w2.grownBy W (Value.slice A1 n1 c1).ownBlock → W.cell? ⟨gz, m * 6 + 2, none⟩ = some (.slice A1 n1 c1)) := Lib.hid (lim hσ s0)
    have HCF : Hid (∀ W, w2.grownBy W (Value.slice A1 n1 c1).ownBlock → W.frozen? ⟨gz, m * 6 + 2, none⟩ = false) := Lib.hid (limF hσ (by omega) hfr)
    have HF := Lib.hid (fun (W W1 : World) (g cap : Nat) => fin_quietw (W := W) (W1 := W1) (g := g) (cap := cap) (r := (f, t)) h2 hz rfl hv1 hlen1 (by rw [ez]) )
    clear hO1 hrow hlen1 s0 hfr hσ r0 hz0 m0 r1 hz1 m1
    go_wp2_with fail
    refine wp_region_held_drew (S := fun W => W.cell? ⟨w1.heap.size, 0, none⟩ = some (.int .i64 f) ∧ W.cell? ⟨w1.heap.size, 1, none⟩ = some (.int .i64 t)) (by kernel_rfl) (HS.out _ (grown_drew (grown_refl _ _))) (fun hH => ?_)
    refine wpAnyH_take (i := 0) (oi := ⟨some 22, .move (.tmp 7), 179, "build.go:106", #[], none⟩) (v := ?_) rfl (by kernel_rfl) (by kernel_rfl) (by kernel_rfl) (fun _ _ _ h => h) (Or.inl ⟨by rfl, ?_⟩) hH ?_
    rotate_left
    focus (intro w hSw; (try dsimp only at hSw); go_simp; (try with_reducible rfl); done)
    try simp only [Act.put, List.setIfInBounds_toArray, List.set_cons_zero, List.set_cons_succ]
    refine wpAnyH_take (i := 1) (oi := ⟨some 23, .move (.tmp 7), 179, "build.go:106", #[], none⟩) (v := ?_) rfl (by kernel_rfl) (by kernel_rfl) (by kernel_rfl) (fun _ _ _ h => h) (Or.inl ⟨by rfl, ?_⟩) hH ?_
    rotate_left
    focus (intro w hSw; (try dsimp only at hSw); go_simp; (try with_reducible rfl); done)
    try simp only [Act.put, List.setIfInBounds_toArray, List.set_cons_zero, List.set_cons_succ]
    refine wpAnyH_take (i := 2) (oi := ⟨some 24, .nilCheck (.tmp 23), 0, "build.go:106", #[⟨1, .data⟩], none⟩) (v := ?_) rfl (by kernel_rfl) (by kernel_rfl) (by kernel_rfl) (fun _ _ _ h => h) (Or.inl ⟨by rfl, ?_⟩) hH ?_
    rotate_left
    focus (intro w hSw; (try dsimp only at hSw); go_simp; (try with_reducible rfl); done)
    try simp only [Act.put, List.setIfInBounds_toArray, List.set_cons_zero, List.set_cons_succ]
    refine wpAnyH_take (i := 3) (oi := ⟨some 25, .fieldAddr 35 (.tmp 24) 2, 0, "build.go:106", #[⟨2, .data⟩], none⟩) (v := ?_) rfl (by kernel_rfl) (by kernel_rfl) (by kernel_rfl) (fun _ _ _ h => h) (Or.inl ⟨by rfl, ?_⟩) hH ?_
    rotate_left
    focus (intro w hSw; (try dsimp only at hSw); go_simp; (try with_reducible rfl); done)
    try simp only [Act.put, List.setIfInBounds_toArray, List.set_cons_zero, List.set_cons_succ]
    refine wpAnyH_take (i := 5) (oi := ⟨some 27, .load 120 (.tmp 5), 120, "build.go:106", #[], none⟩) (v := ?_) rfl (by kernel_rfl) (by kernel_rfl) (by kernel_rfl) (fun _ _ _ h => h) (Or.inl ⟨by rfl, ?_⟩) hH ?_
    rotate_left
    focus (intro w hSw; (try dsimp only at hSw); go_simp; (try with_reducible rfl); done)
    try simp only [Act.put, List.setIfInBounds_toArray, List.set_cons_zero, List.set_cons_succ]
    refine wpAnyH_ready (rs := [4, 6]) (by kernel_rfl) (by simp) ?_
    refine AllReadyH.cons (o := ⟨some 26, .load 33 (.tmp 25), 33, "build.go:106", #[⟨3, .data⟩], none⟩) rfl (fun K hK => ?_) (AllReadyH.cons (o := ⟨some 28, .buildSlice 33 1 #[(0, .tmp 27)], 33, "build.go:106", #[⟨5, .data⟩], none⟩) rfl (fun K hK => ?_) AllReadyH.nil)
    · have y0 := HC.out _ (grown_drew (grown_refl _ _))
      have y3 := fun o => HC.out _ (grown_drew (grown_alloc (grown_refl w2 _) o))
      have y4 := fun o => HC.out _ (grown_alloc (grown_drew (grown_refl w2 _)) o)
      go_simp
      clear y0 y3 y4
      refine hK.out _ _ (HS.out _ (by first | exact grown_drew (grown_refl _ _) | exact grown_drew (grown_alloc (grown_refl _ _) _) | exact grown_alloc (grown_drew (grown_refl _ _)) _)) (fun hH2 => ?_)
      clear hK K hH
      have hH := hH2
      clear hH2
      try simp only [Act.put, List.setIfInBounds_toArray, List.set_cons_zero, List.set_cons_succ]
      refine wpAnyH_ready (rs := [6]) (by kernel_rfl) (by simp) ?_
      refine AllReadyH.cons (o := ⟨some 28, .buildSlice 33 1 #[(0, .tmp 27)], 33, "build.go:106", #[⟨5, .data⟩], none⟩) rfl (fun K hK => ?_) AllReadyH.nil
      go_simp
      refine hK.out _ _ (HS.out _ (by first | exact grown_drew (grown_refl _ _) | exact grown_drew (grown_alloc (grown_refl _ _) _) | exact grown_alloc (grown_drew (grown_refl _ _)) _)) (fun hH2 => ?_)
      clear hK K hH
      have hH := hH2
      clear hH2
      try simp only [Act.put, List.setIfInBounds_toArray, List.set_cons_zero, List.set_cons_succ]
      refine wpAnyH_ready (rs := [7]) (by kernel_rfl) (by simp) ?_
      refine AllReadyH.cons (o := ⟨some 29, .call { callee := .builtin .append, args := #[.tmp 26, .tmp 28], argTypes := #[33, 33] }, 33, "build.go:106", #[⟨4, .data⟩, ⟨6, .data⟩], none⟩) rfl (fun K hK => ?_) AllReadyH.nil
      (refine step_append_row kWiR _ (by rfl) (.tmp 26) (.tmp 28) (by rfl) lo (.slice A1 n1 c1) (z.quiet) (by rfl) (by first | exact (HO.out.alloc _).drewN 1 | exact (HO.out.drewN 1).alloc _) w2.heap.size (f, t) (by rfl) (one_new (by first | exact BlkAt.drewN (blk_now rfl) 1 | exact blk_now rfl) (pair_vals _ _)) (by have := HZ.out; omega) (by simp; omega) ?_; intro g cap w' hO' hg hgo hlt'; have hq : w2.grownBy w' (Value.slice A1 n1 c1).ownBlock := grown_trans (by first | exact grown_drew (grown_alloc (grown_refl _ _) _) | exact grown_alloc (grown_drew (grown_refl _ _)) _) hg; have y1 := HC.out _ hq; have y2 := HCF.out _ hq)
      refine hK.out _ _ (HS.out _ hq) (fun hH2 => ?_)
      clear hK K hH
      have hH := hH2
      clear hH2
      try simp only [Act.put, List.setIfInBounds_toArray, List.set_cons_zero, List.set_cons_succ]
      refine wpAnyH_take (i := 8) (oi := ⟨some 30, .nilCheck (.tmp 22), 0, "build.go:106", #[⟨0, .data⟩, ⟨0, .phase⟩, ⟨1, .phase⟩, ⟨2, .phase⟩, ⟨3, .phase⟩, ⟨4, .phase⟩, ⟨5, .phase⟩, ⟨6, .phase⟩, ⟨7, .phase⟩], none⟩) (v := ?_) rfl (by kernel_rfl) (by kernel_rfl) (by kernel_rfl) (fun _ _ _ h => h) (Or.inl ⟨by rfl, ?_⟩) hH ?_
      rotate_left
      focus (intro w hSw; (try dsimp only at hSw); go_simp; (try with_reducible rfl); done)
      try simp only [Act.put, List.setIfInBounds_toArray, List.set_cons_zero, List.set_cons_succ]
      refine wpAnyH_take (i := 9) (oi := ⟨some 31, .fieldAddr 35 (.tmp 30) 2, 0, "build.go:106", #[⟨8, .data⟩, ⟨0, .phase⟩, ⟨1, .phase⟩, ⟨2, .phase⟩, ⟨3, .phase⟩, ⟨4, .phase⟩, ⟨5, .phase⟩, ⟨6, .phase⟩, ⟨7, .phase⟩], none⟩) (v := ?_) rfl (by kernel_rfl) (by kernel_rfl) (by kernel_rfl) (fun _ _ _ h => h) (Or.inl ⟨by rfl, ?_⟩) hH ?_
      rotate_left
      focus (intro w hSw; (try dsimp only at hSw); go_simp; (try with_reducible rfl); done)
      try simp only [Act.put, List.setIfInBounds_toArray, List.set_cons_zero, List.set_cons_succ]
      refine wpAnyH_ready (rs := [10]) (by kernel_rfl) (by simp) ?_
      refine AllReadyH.cons (o := ⟨none, .store 33 (.tmp 31) (.tmp 29), 0, "build.go:106", #[⟨9, .data⟩, ⟨7, .data⟩, ⟨7, .chain⟩, ⟨0, .phase⟩, ⟨1, .phase⟩, ⟨2, .phase⟩, ⟨3, .phase⟩, ⟨4, .phase⟩, ⟨5, .phase⟩, ⟨6, .phase⟩, ⟨7, .phase⟩], none⟩) rfl (fun K hK => ?_) AllReadyH.nil
      go_simp
      refine hK.out _ _ (HZ2.out _ _ hq) (fun hH2 => ?_)
      clear hK K hH
      have hH := hH2
      clear hH2
      try simp only [Act.put, List.setIfInBounds_toArray, List.set_cons_zero, List.set_cons_succ]
      refine wpAnyH_done (by kernel_rfl) ?_ _
      rw [HZ.out.1]
      go_wp2_with fail
      go_ret
      exact (HF.out _ _ _ _ (by first | exact bdrewN ((Below.refl _ _).alloc (Nat.le_refl _) _) 1 | exact (bdrewN (Below.refl _ _) 1).alloc (Nat.le_refl _) _) hO' hg hgo).step HB2.out
    · go_simp
      refine hK.out _ _ (HS.out _ (by first | exact grown_drew (grown_refl _ _) | exact grown_drew (grown_alloc (grown_refl _ _) _) | exact grown_alloc (grown_drew (grown_refl _ _)) _)) (fun hH2 => ?_)
      clear hK K hH
      have hH := hH2
      clear hH2
      try simp only [Act.put, List.setIfInBounds_toArray, List.set_cons_zero, List.set_cons_succ]
      refine wpAnyH_ready (rs := [4]) (by kernel_rfl) (by simp) ?_
      refine AllReadyH.cons (o := ⟨some 26, .load 33 (.tmp 25), 33, "build.go:106", #[⟨3, .data⟩], none⟩) rfl (fun K hK => ?_) AllReadyH.nil
      have y0 := HC.out _ (grown_drew (grown_refl _ _))
      have y3 := fun o => HC.out _ (grown_drew (grown_alloc (grown_refl w2 _) o))
      have y4 := fun o => HC.out _ (grown_alloc (grown_drew (grown_refl w2 _)) o)
      go_simp
      clear y0 y3 y4
      refine hK.out _ _ (HS.out _ (by first | exact grown_drew (grown_refl _ _) | exact grown_drew (grown_alloc (grown_refl _ _) _) | exact grown_alloc (grown_drew (grown_refl _ _)) _)) (fun hH2 => ?_)
      clear hK K hH
      have hH := hH2
      clear hH2
      try simp only [Act.put, List.setIfInBounds_toArray, List.set_cons_zero, List.set_cons_succ]
      refine wpAnyH_ready (rs := [7]) (by kernel_rfl) (by simp) ?_
      refine AllReadyH.cons (o := ⟨some 29, .call { callee := .builtin .append, args := #[.tmp 26, .tmp 28], argTypes := #[33, 33] }, 33, "build.go:106", #[⟨4, .data⟩, ⟨6, .data⟩], none⟩) rfl (fun K hK => ?_) AllReadyH.nil
      (refine step_append_row kWiR _ (by rfl) (.tmp 26) (.tmp 28) (by rfl) lo (.slice A1 n1 c1) (z.quiet) (by rfl) (by first | exact (HO.out.alloc _).drewN 1 | exact (HO.out.drewN 1).alloc _) w2.heap.size (f, t) (by rfl) (one_new (by first | exact BlkAt.drewN (blk_now rfl) 1 | exact blk_now rfl) (pair_vals _ _)) (by have := HZ.out; omega) (by simp; omega) ?_; intro g cap w' hO' hg hgo hlt'; have hq : w2.grownBy w' (Value.slice A1 n1 c1).ownBlock := grown_trans (by first | exact grown_drew (grown_alloc (grown_refl _ _) _) | exact grown_alloc (grown_drew (grown_refl _ _)) _) hg; have y1 := HC.out _ hq; have y2 := HCF.out _ hq)
      refine hK.out _ _ (HS.out _ hq) (fun hH2 => ?_)
      clear hK K hH
      have hH := hH2
      clear hH2
      try simp only [Act.put, List.setIfInBounds_toArray, List.set_cons_zero, List.set_cons_succ]
      refine wpAnyH_take (i := 8) (oi := ⟨some 30, .nilCheck (.tmp 22), 0, "build.go:106", #[⟨0, .data⟩, ⟨0, .phase⟩, ⟨1, .phase⟩, ⟨2, .phase⟩, ⟨3, .phase⟩, ⟨4, .phase⟩, ⟨5, .phase⟩, ⟨6, .phase⟩, ⟨7, .phase⟩], none⟩) (v := ?_) rfl (by kernel_rfl) (by kernel_rfl) (by kernel_rfl) (fun _ _ _ h => h) (Or.inl ⟨by rfl, ?_⟩) hH ?_
      rotate_left
      focus (intro w hSw; (try dsimp only at hSw); go_simp; (try with_reducible rfl); done)
      try simp only [Act.put, List.setIfInBounds_toArray, List.set_cons_zero, List.set_cons_succ]
      refine wpAnyH_take (i := 9) (oi := ⟨some 31, .fieldAddr 35 (.tmp 30) 2, 0, "build.go:106", #[⟨8, .data⟩, ⟨0, .phase⟩, ⟨1, .phase⟩, ⟨2, .phase⟩, ⟨3, .phase⟩, ⟨4, .phase⟩, ⟨5, .phase⟩, ⟨6, .phase⟩, ⟨7, .phase⟩], none⟩) (v := ?_) rfl (by kernel_rfl) (by kernel_rfl) (by kernel_rfl) (fun _ _ _ h => h) (Or.inl ⟨by rfl, ?_⟩) hH ?_
      rotate_left
      focus (intro w hSw; (try dsimp only at hSw); go_simp; (try with_reducible rfl); done)
      try simp only [Act.put, List.setIfInBounds_toArray, List.set_cons_zero, List.set_cons_succ]
      refine wpAnyH_ready (rs := [10]) (by kernel_rfl) (by simp) ?_
      refine AllReadyH.cons (o := ⟨none, .store 33 (.tmp 31) (.tmp 29), 0, "build.go:106", #[⟨9, .data⟩, ⟨7, .data⟩, ⟨7, .chain⟩, ⟨0, .phase⟩, ⟨1, .phase⟩, ⟨2, .phase⟩, ⟨3, .phase⟩, ⟨4, .phase⟩, ⟨5, .phase⟩, ⟨6, .phase⟩, ⟨7, .phase⟩], none⟩) rfl (fun K hK => ?_) AllReadyH.nil
      go_simp
      refine hK.out _ _ (HZ2.out _ _ hq) (fun hH2 => ?_)
      clear hK K hH
      have hH := hH2
      clear hH2
      try simp only [Act.put, List.setIfInBounds_toArray, List.set_cons_zero, List.set_cons_succ]
      refine wpAnyH_done (by kernel_rfl) ?_ _
      rw [HZ.out.1]
      go_wp2_with fail
      go_ret
      exact (HF.out _ _ _ _ (by first | exact bdrewN ((Below.refl _ _).alloc (Nat.le_refl _) _) 1 | exact (bdrewN (Below.refl _ _) 1).alloc (Nat.le_refl _) _) hO' hg hgo).step HB2.out
end Go.Proofs.YtphenbfhojdcpaaGreatDoor
namespace Go.Proofs.YtphenbfhojdcpaaGreatDoor
open Go.RowKit
set_option linter.unusedVariables false
set_option linter.unusedSimpArgs false
set_option maxRecDepth 100000
theorem int_vals (a : Int) : ∀ j, j < 1 → (#[Value.int .i64 a] : Array Value)[j]? = some (eInt a j) := fun j hj => by
  rcases j with _ | _ <;> first | rfl | omega
/-- The configuration behind k of the days. -/
def daysC (C : Rs.Cfg) (m : Nat) (x : Rs.Cal) (ds : List Int) : Rs.Cfg := { C with cals := C.cals.set m { x with days := x.days ++ ds } }
theorem daysC_nil {C : Rs.Cfg} {m : Nat} {x : Rs.Cal} (h : C.cals[m]? = some x) : daysC C m x [] = C := by
  unfold daysC
  have e : ({ x with days := x.days ++ [] } : Rs.Cal) = x := by cases x; simp
  rw [e]
  have : C.cals.set m x = C.cals := by
    refine List.ext_getElem? fun i => ?_
    by_cases hi : i = m
    · subst hi; rw [set_self h, h]
    · rw [set_other hi]
  rw [this]
theorem daysC_get {C : Rs.Cfg} {m : Nat} {x : Rs.Cal} {ds : List Int} (h : C.cals[m]? = some x) : (daysC C m x ds).cals[m]? = some { x with days := x.days ++ ds } := set_self h
theorem daysC_snoc {C : Rs.Cfg} {m : Nat} {x : Rs.Cal} {ds : List Int} {d : Int} : { daysC C m x ds with cals := (daysC C m x ds).cals.set m { ({ x with days := x.days ++ ds } : Rs.Cal) with days := ({ x with days := x.days ++ ds } : Rs.Cal).days ++ [d] } } = daysC C m x (ds ++ [d]) := by
  unfold daysC
  simp only [List.set_set, List.append_assoc]
set_option maxHeartbeats 16000000 in
theorem addDays_is {C : Rs.Cfg} {N : Nat} {l : List Lx.Tk} (A : Option Addr) (n c bc lo : Nat) (vs : Key → SV) (w : World) (h : OwnC w bc lo vs C) (hG : GoodC N C) (hN : N ≤ 890000) (hT : TokIn w bc A l) (hl : 1 ≤ l.length) (hn : l.length = n) (hn6 : n ≤ 1000) :
    Calls Tryz.prog 90 #[.pointer (some ⟨bc, 0, none⟩), .slice A n c] w (StepV bc lo w (Rs.addDays C l)) := by
  have hlt := h.lt
  have hle := h.le
  have hln := h.len_c
  unfold Rs.addDays
  cases hla : Rs.lastOf C.cals with
  | none =>
    simp only
    obtain ⟨v2, hv2⟩ : ∃ v, vs .ca = v := ⟨_, rfl⟩
    have k1 := h.slices.2.2.1
    rw [hv2] at hln k1
    obtain ⟨A2, n2, c2⟩ := v2
    simp only at hln k1
    obtain rfl : n2 = 0 := by rw [← hln]; exact lastOf_none hla
    clear hla hln hv2
    go_enter Tryz.func90, Tryz.ntmps90
    go_wp2_with fail
    refine (last_c0 _ _ _).mono ?_
    rintro e w9 ⟨rfl, rfl⟩
    go_wp2_with fail
    go_ret
    exact step_err (.refl _ _ _) (.refl _) (by decide)
  | some x =>
    simp only
    obtain ⟨hz, hm1⟩ := lastOf_some hla
    have hset : ({ C with cals := Rs.setLast C.cals { x with days := x.days ++ l.map (·.2.2) } } : Rs.Cfg) = daysC C (C.cals.length - 1) x (l.map (·.2.2)) := rfl
    rw [hset]
    generalize hm : C.cals.length - 1 = m at hz hm1 ⊢
    obtain ⟨gz, cap0, ez, hcap, hlo, hsz, hcl⟩ := h.lastC hz
    have k1 := h.slices.2.2.1
    rw [ez] at k1
    simp only at k1
    have hlen6 : C.cals.length ≤ 1000000 := by have := hG.cl; omega
    have LP := Lib.hid (last_c gz C.cals.length m cap0 hm1.symm hlen6)
    generalize hpl : C.cals.length = np at LP k1
    have HD := Lib.hid (hG.cs x (List.mem_of_getElem? hz)).1
    have H0 : Hid (But bc lo w w ∧ ∃ vs', OwnC w bc lo vs' (daysC C m x ((l.take 0).map (·.2.2))) ∧ vs' .ca = vs .ca) := Lib.hid ⟨.refl _ _ _, vs, by rw [List.take_zero, List.map_nil, daysC_nil hz]; exact h, rfl⟩
    have HN := Lib.hid hn
    have HT := Lib.hid hT
    have HZ0 := Lib.hid hz
    have HE := Lib.hid ez
    clear hla hln hm hset hpl hm1 hcap hlen6 hcl h hG hT hn hz ez hlo
    go_enter Tryz.func90, Tryz.ntmps90
    go_wp2_with fail
    refine (LP.out _).mono ?_
    rintro e w9 ⟨rfl, rfl⟩
    clear LP k1
    go_wp2_with fail
    go_loopw [17] (fun i wr => ∃ (k : Nat), k ≤ n ∧ i = .int .i64 k ∧ Hid (But bc lo w wr ∧ ∃ vs', OwnC wr bc lo vs' (daysC C m x ((l.take k).map (·.2.2))) ∧ vs' .ca = vs .ca)) (fun i _ => n - (intOf i).toNat)
    case atStart => exact ⟨0, Nat.zero_le _, rfl, H0⟩
    case round =>
      clear H0
      obtain ⟨k, hk, rfl, HK⟩ := hrel
      by_cases hlt2 : k < n
      · obtain ⟨hbk, vk, hok, hvk⟩ := HK.out
        obtain ⟨⟨yk, yt, yn⟩, hy⟩ := get_ex (xs := l) (i := k) (by rw [HN.out]; exact hlt2)
        obtain ⟨b, off, rfl, c0, c1, c2⟩ := tok_elem (HT.out.but hbk hlt).at_ hy
        simp only at c0 c1 c2
        have hfb := HT.out.far _ rfl
        simp only at hfb
        have B2 := (Below.refl wr.heap.size wr).alloc (Nat.le_refl _) (.cells #[.int .i64 yk, .string ⟨yt.toArray⟩, .int .i64 yn] 115)
        have N2 := BlkAt.new wr #[.int .i64 yk, .string ⟨yt.toArray⟩, .int .i64 yn] 115
        have hzk := daysC_get (ds := (l.take k).map (·.2.2)) HZ0.out
        obtain ⟨ds, hds⟩ : ∃ ds, x.days ++ (l.take k).map (·.2.2) = ds := ⟨_, rfl⟩
        rw [hds] at hzk
        obtain ⟨g1, cap1, ez1, -, hlo1, hsz1, hcl1⟩ := hok.lastC hzk
        have eg : g1 = gz := by have := hvk.symm.trans ez1; rw [HE.out] at this; injection this with h1 h2; injection h1 with h1; injection h1 with h1 h2; exact h1.symm
        subst eg
        have hap0 := hok.apart (κ := .ca) (κ' := .da m) (fun e => by cases e) (g := g1) (by rw [ez1]; rfl)
        have hez : (vk .ca).1 = some ⟨g1, 0, none⟩ := by rw [ez1]
        have hdl : ds.length ≤ 900000 := by
          rw [← hds]
          have h1 := HD.out
          have h2 := HN.out
          rw [List.length_append, List.length_map, List.length_take]
          omega
        go_wp2_with fail
        generalize wr.alloc (.cells #[.int .i64 yk, .string ⟨yt.toArray⟩, .int .i64 yn] 115) = w2 at B2 N2 ⊢
        have h2 := hok.below B2
        have HB2 := Lib.hid (hbk.trans (.of_below (bc := bc) B2 hok.le))
        have hle2 := h2.le
        have hlt22 := h2.lt
        have hs2 := B2.size
        have hNl := N2.lt_
        have hcl2 : w2.cell? ⟨g1, m * 3 + 2, none⟩ = some (eCal (({ x with days := ds } : Rs.Cal), vk (.da m)) 2) := cell_lift (hcl1 2 (by omega)).1 B2
        have hfr2 : w2.frozen? ⟨g1, m * 3 + 2, none⟩ = false := (B2.frozen (p := ⟨g1, m * 3 + 2, none⟩) hsz1).trans (hcl1 2 (by omega)).2
        simp only [eCal] at hcl2
        have N : Hid (daysC C m x ((l.take (k + 1)).map (·.2.2)) = { daysC C m x ((l.take k).map (·.2.2)) with cals := (daysC C m x ((l.take k).map (·.2.2))).cals.set m { ({ x with days := ds } : Rs.Cal) with days := ({ x with days := ds } : Rs.Cal).days ++ [yn] } }) := Lib.hid (by rw [← hds, daysC_snoc, take_snoc' hy, List.map_append]; rfl)
        clear hcl1 hy HK c0 c1 c2 hds
        obtain ⟨hO1, hlen1⟩ := own_list (h2.rDa hzk) (by omega)
        have s0 := hcl2
        have hfr := hfr2
        have hrow : ∀ g, (sv (vk (.da m))).ownBlock = some g → lo ≤ g ∧ g < wr.heap.size := fun g hg => hok.far hg
        have hap := hap0
        obtain ⟨v1, hv1⟩ : ∃ v, vk (.da m) = v := ⟨_, rfl⟩
        rw [hv1] at hO1 hlen1 hrow hap
        try rw [hv1] at s0
        obtain ⟨A1, n1, c1⟩ := v1
        simp only [sv] at s0 hO1 hrow hlen1 hap
        have HZ : Hid ((ds).length = n1 ∧ n1 ≤ 900000) := Lib.hid ⟨hlen1, hlen1 ▸ hdl⟩
        have HO := Lib.hid hO1
        have hσ : some g1 ≠ (Value.slice A1 n1 c1).ownBlock := fun e => hap e.symm
        have r0 : some wr.heap.size ≠ (Value.slice A1 n1 c1).ownBlock := fun e => by have := hrow _ e.symm; omega
        have hz0 : wr.heap.size ≠ g1 := by omega
        have m0 : w2.cell? ⟨wr.heap.size, 2, none⟩ = some (.int .i64 yn) := N2.cell rfl
        have HS : Hid (∀ W, w2.grownBy W (Value.slice A1 n1 c1).ownBlock → W.cell? ⟨wr.heap.size, 2, none⟩ = some (.int .i64 yn)) := Lib.hid fun W hW => lim r0 m0 W hW
        have HZ2 : Hid (∀ W v, w2.grownBy W (Value.slice A1 n1 c1).ownBlock → (W.setCell ⟨g1, m * 3 + 2, none⟩ v).cell? ⟨wr.heap.size, 2, none⟩ = some (.int .i64 yn)) := Lib.hid fun W v hW => limZ r0 hz0 m0 W v hW
        have HC : Hid (∀ W, w2.grownBy W (Value.slice A1 n1 c1).ownBlock → W.cell? ⟨g1, m * 3 + 2, none⟩ = some (.slice A1 n1 c1)) := Lib.hid (lim hσ s0)
        have HCF : Hid (∀ W, w2.grownBy W (Value.slice A1 n1 c1).ownBlock → W.frozen? ⟨g1, m * 3 + 2, none⟩ = false) := Lib.hid (limF hσ (by omega) hfr)
        have HF := Lib.hid (fun (W W1 : World) (g cap : Nat) => fin_day2 (W := W) (W1 := W1) (g := g) (cap := cap) (r := yn) h2 hzk rfl hv1 hlen1 hez)
        clear hO1 hrow hlen1 s0 hfr hσ r0 hz0 m0
        go_wp2_with fail
        refine wp_region_held_drew (S := fun W => W.cell? ⟨wr.heap.size, 2, none⟩ = some (.int .i64 yn)) (by kernel_rfl) (HS.out _ (grown_drew (grown_refl _ _))) (fun hH => ?_)
        refine wpAnyH_take (i := 0) (oi := ⟨some 21, .move (.tmp 5), 183, "build.go:125", #[], none⟩) (v := ?_) rfl (by kernel_rfl) (by kernel_rfl) (by kernel_rfl) (fun _ _ _ h => h) (Or.inl ⟨by rfl, ?_⟩) hH ?_
        rotate_left
        focus (intro w hSw; (try dsimp only at hSw); go_simp; (try with_reducible rfl); done)
        try simp only [Act.put, List.setIfInBounds_toArray, List.set_cons_zero, List.set_cons_succ]
        refine wpAnyH_take (i := 1) (oi := ⟨some 22, .move (.tmp 5), 183, "build.go:125", #[], none⟩) (v := ?_) rfl (by kernel_rfl) (by kernel_rfl) (by kernel_rfl) (fun _ _ _ h => h) (Or.inl ⟨by rfl, ?_⟩) hH ?_
        rotate_left
        focus (intro w hSw; (try dsimp only at hSw); go_simp; (try with_reducible rfl); done)
        try simp only [Act.put, List.setIfInBounds_toArray, List.set_cons_zero, List.set_cons_succ]
        refine wpAnyH_take (i := 2) (oi := ⟨some 23, .nilCheck (.tmp 22), 0, "build.go:125", #[⟨1, .data⟩], none⟩) (v := ?_) rfl (by kernel_rfl) (by kernel_rfl) (by kernel_rfl) (fun _ _ _ h => h) (Or.inl ⟨by rfl, ?_⟩) hH ?_
        rotate_left
        focus (intro w hSw; (try dsimp only at hSw); go_simp; (try with_reducible rfl); done)
        try simp only [Act.put, List.setIfInBounds_toArray, List.set_cons_zero, List.set_cons_succ]
        refine wpAnyH_take (i := 3) (oi := ⟨some 24, .fieldAddr 79 (.tmp 23) 2, 0, "build.go:125", #[⟨2, .data⟩], none⟩) (v := ?_) rfl (by kernel_rfl) (by kernel_rfl) (by kernel_rfl) (fun _ _ _ h => h) (Or.inl ⟨by rfl, ?_⟩) hH ?_
        rotate_left
        focus (intro w hSw; (try dsimp only at hSw); go_simp; (try with_reducible rfl); done)
        try simp only [Act.put, List.setIfInBounds_toArray, List.set_cons_zero, List.set_cons_succ]
        refine wpAnyH_take (i := 5) (oi := ⟨some 26, .fieldAddr 115 (.tmp 7) 2, 0, "build.go:125", #[], none⟩) (v := ?_) rfl (by kernel_rfl) (by kernel_rfl) (by kernel_rfl) (fun _ _ _ h => h) (Or.inl ⟨by rfl, ?_⟩) hH ?_
        rotate_left
        focus (intro w hSw; (try dsimp only at hSw); go_simp; (try with_reducible rfl); done)
        try simp only [Act.put, List.setIfInBounds_toArray, List.set_cons_zero, List.set_cons_succ]
        refine wpAnyH_take (i := 6) (oi := ⟨some 27, .load 3 (.tmp 26), 3, "build.go:125", #[⟨5, .data⟩], none⟩) (v := ?_) rfl (by kernel_rfl) (by kernel_rfl) (by kernel_rfl) (fun _ _ _ h => h) (Or.inl ⟨by rfl, ?_⟩) hH ?_
        rotate_left
        focus (intro w hSw; (try dsimp only at hSw); go_simp; (try with_reducible rfl); done)
        try simp only [Act.put, List.setIfInBounds_toArray, List.set_cons_zero, List.set_cons_succ]
        refine wpAnyH_ready (rs := [4, 7]) (by kernel_rfl) (by simp) ?_
        refine AllReadyH.cons (o := ⟨some 25, .load 38 (.tmp 24), 38, "build.go:125", #[⟨3, .data⟩], none⟩) rfl (fun K hK => ?_) (AllReadyH.cons (o := ⟨some 28, .buildSlice 38 1 #[(0, .tmp 27)], 38, "build.go:125", #[⟨6, .data⟩], none⟩) rfl (fun K hK => ?_) AllReadyH.nil)
        · have y0 := HC.out _ (grown_drew (grown_refl _ _))
          have y3 := fun o => HC.out _ (grown_drew (grown_alloc (grown_refl w2 _) o))
          have y4 := fun o => HC.out _ (grown_alloc (grown_drew (grown_refl w2 _)) o)
          go_simp
          clear y0 y3 y4
          refine hK.out _ _ (HS.out _ (by first | exact grown_drew (grown_refl _ _) | exact grown_drew (grown_alloc (grown_refl _ _) _) | exact grown_alloc (grown_drew (grown_refl _ _)) _)) (fun hH2 => ?_)
          clear hK K hH
          have hH := hH2
          clear hH2
          try simp only [Act.put, List.setIfInBounds_toArray, List.set_cons_zero, List.set_cons_succ]
          refine wpAnyH_ready (rs := [7]) (by kernel_rfl) (by simp) ?_
          refine AllReadyH.cons (o := ⟨some 28, .buildSlice 38 1 #[(0, .tmp 27)], 38, "build.go:125", #[⟨6, .data⟩], none⟩) rfl (fun K hK => ?_) AllReadyH.nil
          go_simp
          refine hK.out _ _ (HS.out _ (by first | exact grown_drew (grown_refl _ _) | exact grown_drew (grown_alloc (grown_refl _ _) _) | exact grown_alloc (grown_drew (grown_refl _ _)) _)) (fun hH2 => ?_)
          clear hK K hH
          have hH := hH2
          clear hH2
          try simp only [Act.put, List.setIfInBounds_toArray, List.set_cons_zero, List.set_cons_succ]
          refine wpAnyH_ready (rs := [8]) (by kernel_rfl) (by simp) ?_
          refine AllReadyH.cons (o := ⟨some 29, .call { callee := .builtin .append, args := #[.tmp 25, .tmp 28], argTypes := #[38, 38] }, 38, "build.go:125", #[⟨4, .data⟩, ⟨7, .data⟩], none⟩) rfl (fun K hK => ?_) AllReadyH.nil
          (refine step_append_row kInt _ (by rfl) (.tmp 25) (.tmp 28) (by rfl) lo (.slice A1 n1 c1) (ds) (by rfl) (by first | exact (HO.out.alloc _).drewN 1 | exact (HO.out.drewN 1).alloc _) w2.heap.size yn (by rfl) (one_new (by first | exact BlkAt.drewN (blk_now rfl) 1 | exact blk_now rfl) (int_vals _)) (by have := HZ.out; omega) (by simp; omega) ?_; intro g cap w' hO' hg hgo hlt'; have hq : w2.grownBy w' (Value.slice A1 n1 c1).ownBlock := grown_trans (by first | exact grown_drew (grown_alloc (grown_refl _ _) _) | exact grown_alloc (grown_drew (grown_refl _ _)) _) hg; have y1 := HC.out _ hq; have y2 := HCF.out _ hq)
          refine hK.out _ _ (HS.out _ hq) (fun hH2 => ?_)
          clear hK K hH
          have hH := hH2
          clear hH2
          try simp only [Act.put, List.setIfInBounds_toArray, List.set_cons_zero, List.set_cons_succ]
          refine wpAnyH_take (i := 9) (oi := ⟨some 30, .nilCheck (.tmp 21), 0, "build.go:125", #[⟨0, .data⟩, ⟨0, .phase⟩, ⟨1, .phase⟩, ⟨2, .phase⟩, ⟨3, .phase⟩, ⟨4, .phase⟩, ⟨5, .phase⟩, ⟨6, .phase⟩, ⟨7, .phase⟩, ⟨8, .phase⟩], none⟩) (v := ?_) rfl (by kernel_rfl) (by kernel_rfl) (by kernel_rfl) (fun _ _ _ h => h) (Or.inl ⟨by rfl, ?_⟩) hH ?_
          rotate_left
          focus (intro w hSw; (try dsimp only at hSw); go_simp; (try with_reducible rfl); done)
          try simp only [Act.put, List.setIfInBounds_toArray, List.set_cons_zero, List.set_cons_succ]
          refine wpAnyH_take (i := 10) (oi := ⟨some 31, .fieldAddr 79 (.tmp 30) 2, 0, "build.go:125", #[⟨9, .data⟩, ⟨0, .phase⟩, ⟨1, .phase⟩, ⟨2, .phase⟩, ⟨3, .phase⟩, ⟨4, .phase⟩, ⟨5, .phase⟩, ⟨6, .phase⟩, ⟨7, .phase⟩, ⟨8, .phase⟩], none⟩) (v := ?_) rfl (by kernel_rfl) (by kernel_rfl) (by kernel_rfl) (fun _ _ _ h => h) (Or.inl ⟨by rfl, ?_⟩) hH ?_
          rotate_left
          focus (intro w hSw; (try dsimp only at hSw); go_simp; (try with_reducible rfl); done)
          try simp only [Act.put, List.setIfInBounds_toArray, List.set_cons_zero, List.set_cons_succ]
          refine wpAnyH_ready (rs := [11]) (by kernel_rfl) (by simp) ?_
          refine AllReadyH.cons (o := ⟨none, .store 38 (.tmp 31) (.tmp 29), 0, "build.go:125", #[⟨10, .data⟩, ⟨8, .data⟩, ⟨8, .chain⟩, ⟨0, .phase⟩, ⟨1, .phase⟩, ⟨2, .phase⟩, ⟨3, .phase⟩, ⟨4, .phase⟩, ⟨5, .phase⟩, ⟨6, .phase⟩, ⟨7, .phase⟩, ⟨8, .phase⟩], none⟩) rfl (fun K hK => ?_) AllReadyH.nil
          go_simp
          refine hK.out _ _ (HZ2.out _ _ hq) (fun hH2 => ?_)
          clear hK K hH
          have hH := hH2
          clear hH2
          try simp only [Act.put, List.setIfInBounds_toArray, List.set_cons_zero, List.set_cons_succ]
          refine wpAnyH_done (by kernel_rfl) ?_ _
          rw [HZ.out.1]
          go_wp2_with fail
          go_roundw
          case rel =>
            have hf := HF.out _ _ _ _ (by first | exact bdrewN ((Below.refl _ _).alloc (Nat.le_refl _) _) 1 | exact (bdrewN (Below.refl _ _) 1).alloc (Nat.le_refl _) _) hO' hg hgo
            obtain ⟨f1, vf, f2, f3⟩ := hf
            exact ⟨k + 1, by omega, by go_num, Lib.hid ⟨HB2.out.trans f1, vf, by rw [N.out]; exact f2, f3.trans hvk⟩⟩
          case measure => (simp [intOf]; omega)
        · go_simp
          refine hK.out _ _ (HS.out _ (by first | exact grown_drew (grown_refl _ _) | exact grown_drew (grown_alloc (grown_refl _ _) _) | exact grown_alloc (grown_drew (grown_refl _ _)) _)) (fun hH2 => ?_)
          clear hK K hH
          have hH := hH2
          clear hH2
          try simp only [Act.put, List.setIfInBounds_toArray, List.set_cons_zero, List.set_cons_succ]
          refine wpAnyH_ready (rs := [4]) (by kernel_rfl) (by simp) ?_
          refine AllReadyH.cons (o := ⟨some 25, .load 38 (.tmp 24), 38, "build.go:125", #[⟨3, .data⟩], none⟩) rfl (fun K hK => ?_) AllReadyH.nil
          have y0 := HC.out _ (grown_drew (grown_refl _ _))
          have y3 := fun o => HC.out _ (grown_drew (grown_alloc (grown_refl w2 _) o))
          have y4 := fun o => HC.out _ (grown_alloc (grown_drew (grown_refl w2 _)) o)
          go_simp
          clear y0 y3 y4
          refine hK.out _ _ (HS.out _ (by first | exact grown_drew (grown_refl _ _) | exact grown_drew (grown_alloc (grown_refl _ _) _) | exact grown_alloc (grown_drew (grown_refl _ _)) _)) (fun hH2 => ?_)
          clear hK K hH
          have hH := hH2
          clear hH2
          try simp only [Act.put, List.setIfInBounds_toArray, List.set_cons_zero, List.set_cons_succ]
          refine wpAnyH_ready (rs := [8]) (by kernel_rfl) (by simp) ?_
          refine AllReadyH.cons (o := ⟨some 29, .call { callee := .builtin .append, args := #[.tmp 25, .tmp 28], argTypes := #[38, 38] }, 38, "build.go:125", #[⟨4, .data⟩, ⟨7, .data⟩], none⟩) rfl (fun K hK => ?_) AllReadyH.nil
          (refine step_append_row kInt _ (by rfl) (.tmp 25) (.tmp 28) (by rfl) lo (.slice A1 n1 c1) (ds) (by rfl) (by first | exact (HO.out.alloc _).drewN 1 | exact (HO.out.drewN 1).alloc _) w2.heap.size yn (by rfl) (one_new (by first | exact BlkAt.drewN (blk_now rfl) 1 | exact blk_now rfl) (int_vals _)) (by have := HZ.out; omega) (by simp; omega) ?_; intro g cap w' hO' hg hgo hlt'; have hq : w2.grownBy w' (Value.slice A1 n1 c1).ownBlock := grown_trans (by first | exact grown_drew (grown_alloc (grown_refl _ _) _) | exact grown_alloc (grown_drew (grown_refl _ _)) _) hg; have y1 := HC.out _ hq; have y2 := HCF.out _ hq)
          refine hK.out _ _ (HS.out _ hq) (fun hH2 => ?_)
          clear hK K hH
          have hH := hH2
          clear hH2
          try simp only [Act.put, List.setIfInBounds_toArray, List.set_cons_zero, List.set_cons_succ]
          refine wpAnyH_take (i := 9) (oi := ⟨some 30, .nilCheck (.tmp 21), 0, "build.go:125", #[⟨0, .data⟩, ⟨0, .phase⟩, ⟨1, .phase⟩, ⟨2, .phase⟩, ⟨3, .phase⟩, ⟨4, .phase⟩, ⟨5, .phase⟩, ⟨6, .phase⟩, ⟨7, .phase⟩, ⟨8, .phase⟩], none⟩) (v := ?_) rfl (by kernel_rfl) (by kernel_rfl) (by kernel_rfl) (fun _ _ _ h => h) (Or.inl ⟨by rfl, ?_⟩) hH ?_
          rotate_left
          focus (intro w hSw; (try dsimp only at hSw); go_simp; (try with_reducible rfl); done)
          try simp only [Act.put, List.setIfInBounds_toArray, List.set_cons_zero, List.set_cons_succ]
          refine wpAnyH_take (i := 10) (oi := ⟨some 31, .fieldAddr 79 (.tmp 30) 2, 0, "build.go:125", #[⟨9, .data⟩, ⟨0, .phase⟩, ⟨1, .phase⟩, ⟨2, .phase⟩, ⟨3, .phase⟩, ⟨4, .phase⟩, ⟨5, .phase⟩, ⟨6, .phase⟩, ⟨7, .phase⟩, ⟨8, .phase⟩], none⟩) (v := ?_) rfl (by kernel_rfl) (by kernel_rfl) (by kernel_rfl) (fun _ _ _ h => h) (Or.inl ⟨by rfl, ?_⟩) hH ?_
          rotate_left
          focus (intro w hSw; (try dsimp only at hSw); go_simp; (try with_reducible rfl); done)
          try simp only [Act.put, List.setIfInBounds_toArray, List.set_cons_zero, List.set_cons_succ]
          refine wpAnyH_ready (rs := [11]) (by kernel_rfl) (by simp) ?_
          refine AllReadyH.cons (o := ⟨none, .store 38 (.tmp 31) (.tmp 29), 0, "build.go:125", #[⟨10, .data⟩, ⟨8, .data⟩, ⟨8, .chain⟩, ⟨0, .phase⟩, ⟨1, .phase⟩, ⟨2, .phase⟩, ⟨3, .phase⟩, ⟨4, .phase⟩, ⟨5, .phase⟩, ⟨6, .phase⟩, ⟨7, .phase⟩, ⟨8, .phase⟩], none⟩) rfl (fun K hK => ?_) AllReadyH.nil
          go_simp
          refine hK.out _ _ (HZ2.out _ _ hq) (fun hH2 => ?_)
          clear hK K hH
          have hH := hH2
          clear hH2
          try simp only [Act.put, List.setIfInBounds_toArray, List.set_cons_zero, List.set_cons_succ]
          refine wpAnyH_done (by kernel_rfl) ?_ _
          rw [HZ.out.1]
          go_wp2_with fail
          go_roundw
          case rel =>
            have hf := HF.out _ _ _ _ (by first | exact bdrewN ((Below.refl _ _).alloc (Nat.le_refl _) _) 1 | exact (bdrewN (Below.refl _ _) 1).alloc (Nat.le_refl _) _) hO' hg hgo
            obtain ⟨f1, vf, f2, f3⟩ := hf
            exact ⟨k + 1, by omega, by go_num, Lib.hid ⟨HB2.out.trans f1, vf, by rw [N.out]; exact f2, f3.trans hvk⟩⟩
          case measure => (simp [intOf]; omega)
      · have hk2 : k = n := by omega
        obtain ⟨hbk, vk, hok, hvk⟩ := HK.out
        have hfin : StepV bc lo w (0, daysC C m x (l.map (·.2.2))) (.returned (.int .i64 0)) wr := ⟨rfl, hbk, fun _ => ⟨vk, by rw [List.take_of_length_le (by rw [HN.out]; omega)] at hok; exact hok⟩, fun h => absurd rfl h⟩
        have HFI := Lib.hid hfin
        clear hfin hok hbk hvk HK hk2
        go_wp2_with fail
        go_ret
        exact HFI.out
end Go.Proofs.YtphenbfhojdcpaaGreatDoor
