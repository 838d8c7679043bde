/- Package resolve: lastLayer and addWindow. Printed by gen_sc.py. -/
import Derived.Test.YtphenbfhojdcpaaGreatDoorKsG20
import Derived.Deep.RegionHeld3
namespace Go.Proofs.YtphenbfhojdcpaaGreatDoor
open Go.RowKit
set_option linter.unusedVariables false
set_option linter.unusedSimpArgs false
set_option maxRecDepth 100000
set_option maxHeartbeats 4000000 in
theorem lastLayer_no {C : Rs.Cfg} {N : Nat} {bc lo : Nat} {vs : Key → SV} {w : World} (h : OwnC w bc lo vs C) (hG : GoodC N C) (hN : N ≤ 900000) (hl : Rs.lastLay C = none) : Calls Tryz.prog 135 #[.pointer (some ⟨bc, 0, none⟩)] w fun e w' => e = .returned (.pointer none) ∧ w = w' := by
  have hln := h.len_s
  have k1 := h.slices.2.2.2
  unfold Rs.lastLay at hl
  cases hla : Rs.lastOf C.scheds with
  | none =>
    obtain ⟨v2, hv2⟩ : ∃ v, vs .sc = v := ⟨_, rfl⟩
    rw [hv2] at hln k1
    obtain ⟨A2, n2, c2⟩ := v2
    simp only at hln k1
    obtain rfl : n2 = 0 := by rw [← hln]; exact lastOf_none hla
    clear hla hln hv2 hl
    go_enter Tryz.func135, Tryz.ntmps135
    go_wp2_with fail
    refine (last_s0 _ _ _).mono ?_
    rintro e w9 ⟨rfl, rfl⟩
    go_wp2_with fail
    go_ret
    exact ⟨rfl, rfl⟩
  | some s =>
    rw [hla] at hl
    simp only at hl
    have hl2 : Rs.lastOf s.lays = none := by
      cases hq : Rs.lastOf s.lays with
      | none => rfl
      | some y => rw [hq] at hl; cases hl
    obtain ⟨hz, hm1⟩ := lastOf_some hla
    generalize hm : C.scheds.length - 1 = m at hz hm1
    obtain ⟨gz, cap0, ez, hcap, hlo, hsz, hcl⟩ := h.lastS hz
    rw [ez] at k1
    simp only at k1
    have hlen6 : C.scheds.length ≤ 1000000 := by have := hG.sl; omega
    have LP := Lib.hid (last_s gz C.scheds.length m cap0 hm1.symm hlen6)
    generalize hpl : C.scheds.length = np at LP k1
    have hll := h.len_l hz
    have c1 := (hcl 1 (by omega)).1
    simp only [eSch] at c1
    obtain ⟨v2, hv2⟩ : ∃ v, vs (.la m) = v := ⟨_, rfl⟩
    rw [hv2] at hll c1
    obtain ⟨A2, n2, c2⟩ := v2
    simp only at hll c1
    obtain rfl : n2 = 0 := by rw [← hll]; exact lastOf_none hl2
    clear hla hln hv2 hl hl2 hcl hm hpl hm1 hll hcap
    go_enter Tryz.func135, Tryz.ntmps135
    go_wp2_with fail
    refine (LP.out _).mono ?_
    rintro e w9 ⟨rfl, rfl⟩
    go_wp2_with fail
    refine (last_l0 _ _ _).mono ?_
    rintro e w9 ⟨rfl, rfl⟩
    go_wp2_with fail
    go_ret
    exact ⟨rfl, rfl⟩
theorem lastLay_some {C : Rs.Cfg} {s : Rs.Sch} {l : Rs.Lay} (h : Rs.lastLay C = some (s, l)) : C.scheds[C.scheds.length - 1]? = some s ∧ C.scheds.length - 1 + 1 = C.scheds.length ∧ s.lays[s.lays.length - 1]? = some l ∧ s.lays.length - 1 + 1 = s.lays.length := by
  unfold Rs.lastLay at h
  cases hla : Rs.lastOf C.scheds with
  | none => rw [hla] at h; cases h
  | some s' =>
    rw [hla] at h
    simp only at h
    cases hq : Rs.lastOf s'.lays with
    | none => rw [hq] at h; cases h
    | some y =>
      rw [hq] at h
      cases h
      exact ⟨(lastOf_some hla).1, (lastOf_some hla).2, (lastOf_some hq).1, (lastOf_some hq).2⟩
set_option maxHeartbeats 4000000 in
theorem lastLayer_yes {C : Rs.Cfg} {N : Nat} {bc lo n m gl cap : Nat} {s : Rs.Sch} {l : Rs.Lay} {vs : Key → SV} {w : World} (h : OwnC w bc lo vs C) (hG : GoodC N C) (hN : N ≤ 900000) (hs : C.scheds[n]? = some s) (hn : n + 1 = C.scheds.length) (hl : s.lays[m]? = some l) (hm : m + 1 = s.lays.length) (ez : vs (.la n) = (some ⟨gl, 0, none⟩, s.lays.length, cap)) :
    Calls Tryz.prog 135 #[.pointer (some ⟨bc, 0, none⟩)] w fun e w' => e = .returned (.pointer (some ⟨gl, m * 10, none⟩)) ∧ w = w' := by
  have k1 := h.slices.2.2.2
  obtain ⟨gz, cap0, ez2, hcap, hlo, hsz, hcl⟩ := h.lastS hs
  rw [ez2] at k1
  simp only at k1
  have hlen6 : C.scheds.length ≤ 1000000 := by have := hG.sl; omega
  have hlen7 : s.lays.length ≤ 1000000 := by have := (hG.ss s (List.mem_of_getElem? hs)).1; omega
  have LP := Lib.hid (last_s gz C.scheds.length n cap0 hn.symm hlen6)
  have LQ := Lib.hid (last_l gl s.lays.length m cap hm.symm hlen7)
  generalize hpl : C.scheds.length = np at LP k1
  have c1 := (hcl 1 (by omega)).1
  simp only [eSch] at c1
  rw [ez] at c1
  simp only at c1
  generalize hpm : s.lays.length = nq at LQ c1
  clear hcl hn hm hpl hcap hpm hlen6 hlen7 hs hl ez ez2
  go_enter Tryz.func135, Tryz.ntmps135
  go_wp2_with fail
  refine (LP.out _).mono ?_
  rintro e w9 ⟨rfl, rfl⟩
  go_wp2_with fail
  refine (LQ.out _).mono ?_
  rintro e w9 ⟨rfl, rfl⟩
  go_wp2_with fail
  go_ret
  exact ⟨rfl, rfl⟩
set_option maxHeartbeats 16000000 in
theorem addWin_is {C : Rs.Cfg} {N : Nat} {l : List Lx.Tk} (A : Option Addr) (n c bc lo : Nat) (vs : Key → SV) (w : World) (h : OwnC w bc lo vs C) (hG : GoodC N C) (hN : N ≤ 900000) (hT : TokIn w bc A l) (hl : 4 ≤ l.length) (hn : l.length = n) (hn6 : n ≤ 1000) (hX : LexT w) :
    Calls Tryz.prog 94 #[.pointer (some ⟨bc, 0, none⟩), .slice A n c] w (StepV bc lo w (Rs.addWin C l)) := by
  have hlt := h.lt
  have hle := h.le
  obtain ⟨p, hp⟩ : ∃ p, Rs.winS l = p := ⟨_, rfl⟩
  unfold Rs.addWin
  rw [hp]
  have CW := Lib.hid (window_is hp A n c bc w hT hl hn hn6 (by omega) hX)
  obtain ⟨⟨f, t⟩, ok⟩ := p
  simp only at CW
  clear hp
  cases ok
  · rw [if_pos rfl]
    go_enter Tryz.func94, Tryz.ntmps94
    go_wp2_with fail
    refine CW.out.mono ?_
    rintro e w1 ⟨rfl, b1⟩
    have B1 := b1.alloc b1.size (.cells #[.int .i64 f, .int .i64 t] 120)
    go_wp2_with fail
    go_ret
    exact step_err (.of_below B1 hle) (.of_below B1) (by decide)
  rw [if_neg (by simp)]
  simp only
  cases hla : Rs.lastLay C with
  | none =>
    simp only
    have HL := Lib.hid (fun (W : World) (hW : Below w.heap.size w W) => lastLayer_no (h.below hW) hG hN hla)
    clear hla
    go_enter Tryz.func94, Tryz.ntmps94
    go_wp2_with fail
    refine CW.out.mono ?_
    rintro e w1 ⟨rfl, b1⟩
    have B1 := b1.alloc b1.size (.cells #[.int .i64 f, .int .i64 t] 120)
    go_wp2_with fail
    refine (HL.out _ B1).mono ?_
    rintro e w9 ⟨rfl, rfl⟩
    go_wp2_with fail
    go_ret
    exact step_err (.of_below B1 hle) (.of_below B1) (by decide)
  | some sy =>
    obtain ⟨s, y⟩ := sy
    simp only
    obtain ⟨hs, hn1, hy, hm1⟩ := lastLay_some hla
    have hset : Rs.setLay C s { y with wins := y.wins ++ [(f, t)] } = { C with scheds := C.scheds.set (C.scheds.length - 1) { s with lays := s.lays.set (s.lays.length - 1) { y with wins := y.wins ++ [(f, t)] } } } := rfl
    rw [hset]
    generalize C.scheds.length - 1 = i at hs hn1 ⊢
    generalize s.lays.length - 1 = m at hy hm1 ⊢
    obtain ⟨gl, cap0, ez, hcap, hlo, hsz, hcl⟩ := h.lastL hs hy
    have hap0 := h.apart (κ := .la i) (κ' := .wi i m) (fun e => by cases e) (g := gl) (by rw [ez]; rfl)
    have HL := Lib.hid (fun (W : World) (hW : Below w.heap.size w W) => lastLayer_yes (h.below hW) hG hN hs hn1 hy hm1 ez)
    have hq1 := ((hG.ss s (List.mem_of_getElem? hs)).2.2.2 y (List.mem_of_getElem? hy)).2.1
    clear hla hset hn1 hm1 hcap
    go_enter Tryz.func94, Tryz.ntmps94
    go_wp2_with fail
    refine CW.out.mono ?_
    rintro e w1 ⟨rfl, b1⟩
    have B2 := b1.alloc b1.size (.cells #[.int .i64 f, .int .i64 t] 120)
    have N2 := BlkAt.new w1 #[.int .i64 f, .int .i64 t] 120
    have hs1 := b1.size
    go_wp2_with fail
    refine (HL.out _ B2).mono ?_
    rintro e w9 ⟨rfl, rfl⟩
    generalize w1.alloc (.cells #[.int .i64 f, .int .i64 t] 120) = w2 at B2 N2 ⊢
    have h2 := h.below B2
    have HB2 := Lib.hid (But.of_below (bc := bc) B2 hle)
    have hle2 := h2.le
    have hlt2 := h2.lt
    have hs2 := B2.size
    have hNl := N2.lt_
    have hcl2 : w2.cell? ⟨gl, m * 10 + 7, none⟩ = some (eLay (y, (vs (.me i m), vs (.wi i m))) 7) := cell_lift (hcl 7 (by omega)).1 B2
    have hfr2 : w2.frozen? ⟨gl, m * 10 + 7, none⟩ = false := (B2.frozen (p := ⟨gl, m * 10 + 7, none⟩) hsz).trans (hcl 7 (by omega)).2
    simp only [eLay] at hcl2
    clear hcl HL CW B2 b1
    go_wp2_with fail
    obtain ⟨hO1, hlen1⟩ := own_list (h2.rWi hs hy) (by omega)
    have s0 := hcl2
    have hfr := hfr2
    have hrow : ∀ g, (sv (vs (.wi i m))).ownBlock = some g → lo ≤ g ∧ g < w.heap.size := fun g hg => h.far hg
    have hap := hap0
    obtain ⟨v1, hv1⟩ : ∃ v, vs (.wi i m) = v := ⟨_, rfl⟩
    rw [hv1] at hO1 hlen1 hrow hap
    try rw [hv1] at s0
    obtain ⟨A1, n1, c1⟩ := v1
    simp only [sv] at s0 hO1 hrow hlen1 hap
    have HZ : Hid ((y.wins).length = n1 ∧ n1 ≤ 900000) := Lib.hid ⟨hlen1, by omega⟩
    have HO := Lib.hid hO1
    have hσ : some gl ≠ (Value.slice A1 n1 c1).ownBlock := fun e => hap e.symm
    have r0 : some w1.heap.size ≠ (Value.slice A1 n1 c1).ownBlock := fun e => by have := hrow _ e.symm; omega
    have hz0 : w1.heap.size ≠ gl := by omega
    have m0 : w2.cell? ⟨w1.heap.size, 0, none⟩ = some (.int .i64 f) := N2.cell rfl
    have r1 : some w1.heap.size ≠ (Value.slice A1 n1 c1).ownBlock := fun e => by have := hrow _ e.symm; omega
    have hz1 : w1.heap.size ≠ gl := by omega
    have m1 : w2.cell? ⟨w1.heap.size, 1, none⟩ = some (.int .i64 t) := N2.cell rfl
    have HS : Hid (∀ W, w2.grownBy W (Value.slice A1 n1 c1).ownBlock → W.cell? ⟨w1.heap.size, 0, none⟩ = some (.int .i64 f) ∧ W.cell? ⟨w1.heap.size, 1, none⟩ = some (.int .i64 t)) := Lib.hid fun W hW => ⟨lim r0 m0 W hW, lim r1 m1 W hW⟩
    have HZ2 : Hid (∀ W v, w2.grownBy W (Value.slice A1 n1 c1).ownBlock → (W.setCell ⟨gl, m * 10 + 7, none⟩ v).cell? ⟨w1.heap.size, 0, none⟩ = some (.int .i64 f) ∧ (W.setCell ⟨gl, m * 10 + 7, none⟩ v).cell? ⟨w1.heap.size, 1, none⟩ = some (.int .i64 t)) := Lib.hid fun W v hW => ⟨limZ r0 hz0 m0 W v hW, limZ r1 hz1 m1 W v hW⟩
    have HC : Hid (∀ W, w2.grownBy W (Value.slice A1 n1 c1).ownBlock → W.cell? ⟨gl, m * 10 + 7, none⟩ = some (.slice A1 n1 c1)) := Lib.hid (lim hσ s0)
    have HCF : Hid (∀ W, w2.grownBy W (Value.slice A1 n1 c1).ownBlock → W.frozen? ⟨gl, m * 10 + 7, none⟩ = false) := Lib.hid (limF hσ (by omega) hfr)
    have HF := Lib.hid (fun (W W1 : World) (g cap : Nat) => fin_window (W := W) (W1 := W1) (g := g) (cap := cap) (r := (f, t)) h2 hs hy rfl rfl hv1 hlen1 (by rw [ez]) )
    clear hO1 hrow hlen1 s0 hfr hσ r0 hz0 m0 r1 hz1 m1
    go_wp2_with fail
    refine wp_region_held_drew (S := fun W => W.cell? ⟨w1.heap.size, 0, none⟩ = some (.int .i64 f) ∧ W.cell? ⟨w1.heap.size, 1, none⟩ = some (.int .i64 t)) (by kernel_rfl) (HS.out _ (grown_drew (grown_refl _ _))) (fun hH => ?_)
    refine wpAnyH_take (i := 0) (oi := ⟨some 19, .move (.tmp 7), 187, "build.go:177", #[], none⟩) (v := ?_) rfl (by kernel_rfl) (by kernel_rfl) (by kernel_rfl) (fun _ _ _ h => h) (Or.inl ⟨by rfl, ?_⟩) hH ?_
    rotate_left
    focus (intro w hSw; (try dsimp only at hSw); go_simp; (try with_reducible rfl); done)
    try simp only [Act.put, List.setIfInBounds_toArray, List.set_cons_zero, List.set_cons_succ]
    refine wpAnyH_take (i := 1) (oi := ⟨some 20, .move (.tmp 7), 187, "build.go:177", #[], none⟩) (v := ?_) rfl (by kernel_rfl) (by kernel_rfl) (by kernel_rfl) (fun _ _ _ h => h) (Or.inl ⟨by rfl, ?_⟩) hH ?_
    rotate_left
    focus (intro w hSw; (try dsimp only at hSw); go_simp; (try with_reducible rfl); done)
    try simp only [Act.put, List.setIfInBounds_toArray, List.set_cons_zero, List.set_cons_succ]
    refine wpAnyH_take (i := 2) (oi := ⟨some 21, .nilCheck (.tmp 20), 0, "build.go:177", #[⟨1, .data⟩], none⟩) (v := ?_) rfl (by kernel_rfl) (by kernel_rfl) (by kernel_rfl) (fun _ _ _ h => h) (Or.inl ⟨by rfl, ?_⟩) hH ?_
    rotate_left
    focus (intro w hSw; (try dsimp only at hSw); go_simp; (try with_reducible rfl); done)
    try simp only [Act.put, List.setIfInBounds_toArray, List.set_cons_zero, List.set_cons_succ]
    refine wpAnyH_take (i := 3) (oi := ⟨some 22, .fieldAddr 40 (.tmp 21) 6, 0, "build.go:177", #[⟨2, .data⟩], none⟩) (v := ?_) rfl (by kernel_rfl) (by kernel_rfl) (by kernel_rfl) (fun _ _ _ h => h) (Or.inl ⟨by rfl, ?_⟩) hH ?_
    rotate_left
    focus (intro w hSw; (try dsimp only at hSw); go_simp; (try with_reducible rfl); done)
    try simp only [Act.put, List.setIfInBounds_toArray, List.set_cons_zero, List.set_cons_succ]
    refine wpAnyH_take (i := 5) (oi := ⟨some 24, .load 120 (.tmp 5), 120, "build.go:177", #[], none⟩) (v := ?_) rfl (by kernel_rfl) (by kernel_rfl) (by kernel_rfl) (fun _ _ _ h => h) (Or.inl ⟨by rfl, ?_⟩) hH ?_
    rotate_left
    focus (intro w hSw; (try dsimp only at hSw); go_simp; (try with_reducible rfl); done)
    try simp only [Act.put, List.setIfInBounds_toArray, List.set_cons_zero, List.set_cons_succ]
    refine wpAnyH_ready (rs := [4, 6]) (by kernel_rfl) (by simp) ?_
    refine AllReadyH.cons (o := ⟨some 23, .load 33 (.tmp 22), 33, "build.go:177", #[⟨3, .data⟩], none⟩) rfl (fun K hK => ?_) (AllReadyH.cons (o := ⟨some 25, .buildSlice 33 1 #[(0, .tmp 24)], 33, "build.go:177", #[⟨5, .data⟩], none⟩) rfl (fun K hK => ?_) AllReadyH.nil)
    · have y0 := HC.out _ (grown_drew (grown_refl _ _))
      have y3 := fun o => HC.out _ (grown_drew (grown_alloc (grown_refl w2 _) o))
      have y4 := fun o => HC.out _ (grown_alloc (grown_drew (grown_refl w2 _)) o)
      go_simp
      clear y0 y3 y4
      refine hK.out _ _ (HS.out _ (by first | exact grown_drew (grown_refl _ _) | exact grown_drew (grown_alloc (grown_refl _ _) _) | exact grown_alloc (grown_drew (grown_refl _ _)) _)) (fun hH2 => ?_)
      clear hK K hH
      have hH := hH2
      clear hH2
      try simp only [Act.put, List.setIfInBounds_toArray, List.set_cons_zero, List.set_cons_succ]
      refine wpAnyH_ready (rs := [6]) (by kernel_rfl) (by simp) ?_
      refine AllReadyH.cons (o := ⟨some 25, .buildSlice 33 1 #[(0, .tmp 24)], 33, "build.go:177", #[⟨5, .data⟩], none⟩) rfl (fun K hK => ?_) AllReadyH.nil
      go_simp
      refine hK.out _ _ (HS.out _ (by first | exact grown_drew (grown_refl _ _) | exact grown_drew (grown_alloc (grown_refl _ _) _) | exact grown_alloc (grown_drew (grown_refl _ _)) _)) (fun hH2 => ?_)
      clear hK K hH
      have hH := hH2
      clear hH2
      try simp only [Act.put, List.setIfInBounds_toArray, List.set_cons_zero, List.set_cons_succ]
      refine wpAnyH_ready (rs := [7]) (by kernel_rfl) (by simp) ?_
      refine AllReadyH.cons (o := ⟨some 26, .call { callee := .builtin .append, args := #[.tmp 23, .tmp 25], argTypes := #[33, 33] }, 33, "build.go:177", #[⟨4, .data⟩, ⟨6, .data⟩], none⟩) rfl (fun K hK => ?_) AllReadyH.nil
      (refine step_append_row kWiR _ (by rfl) (.tmp 23) (.tmp 25) (by rfl) lo (.slice A1 n1 c1) (y.wins) (by rfl) (by first | exact (HO.out.alloc _).drewN 1 | exact (HO.out.drewN 1).alloc _) w2.heap.size (f, t) (by rfl) (one_new (by first | exact BlkAt.drewN (blk_now rfl) 1 | exact blk_now rfl) (pair_vals _ _)) (by have := HZ.out; omega) (by simp; omega) ?_; intro g cap w' hO' hg hgo hlt'; have hq : w2.grownBy w' (Value.slice A1 n1 c1).ownBlock := grown_trans (by first | exact grown_drew (grown_alloc (grown_refl _ _) _) | exact grown_alloc (grown_drew (grown_refl _ _)) _) hg; have y1 := HC.out _ hq; have y2 := HCF.out _ hq)
      refine hK.out _ _ (HS.out _ hq) (fun hH2 => ?_)
      clear hK K hH
      have hH := hH2
      clear hH2
      try simp only [Act.put, List.setIfInBounds_toArray, List.set_cons_zero, List.set_cons_succ]
      refine wpAnyH_take (i := 8) (oi := ⟨some 27, .nilCheck (.tmp 19), 0, "build.go:177", #[⟨0, .data⟩, ⟨0, .phase⟩, ⟨1, .phase⟩, ⟨2, .phase⟩, ⟨3, .phase⟩, ⟨4, .phase⟩, ⟨5, .phase⟩, ⟨6, .phase⟩, ⟨7, .phase⟩], none⟩) (v := ?_) rfl (by kernel_rfl) (by kernel_rfl) (by kernel_rfl) (fun _ _ _ h => h) (Or.inl ⟨by rfl, ?_⟩) hH ?_
      rotate_left
      focus (intro w hSw; (try dsimp only at hSw); go_simp; (try with_reducible rfl); done)
      try simp only [Act.put, List.setIfInBounds_toArray, List.set_cons_zero, List.set_cons_succ]
      refine wpAnyH_take (i := 9) (oi := ⟨some 28, .fieldAddr 40 (.tmp 27) 6, 0, "build.go:177", #[⟨8, .data⟩, ⟨0, .phase⟩, ⟨1, .phase⟩, ⟨2, .phase⟩, ⟨3, .phase⟩, ⟨4, .phase⟩, ⟨5, .phase⟩, ⟨6, .phase⟩, ⟨7, .phase⟩], none⟩) (v := ?_) rfl (by kernel_rfl) (by kernel_rfl) (by kernel_rfl) (fun _ _ _ h => h) (Or.inl ⟨by rfl, ?_⟩) hH ?_
      rotate_left
      focus (intro w hSw; (try dsimp only at hSw); go_simp; (try with_reducible rfl); done)
      try simp only [Act.put, List.setIfInBounds_toArray, List.set_cons_zero, List.set_cons_succ]
      refine wpAnyH_ready (rs := [10]) (by kernel_rfl) (by simp) ?_
      refine AllReadyH.cons (o := ⟨none, .store 33 (.tmp 28) (.tmp 26), 0, "build.go:177", #[⟨9, .data⟩, ⟨7, .data⟩, ⟨7, .chain⟩, ⟨0, .phase⟩, ⟨1, .phase⟩, ⟨2, .phase⟩, ⟨3, .phase⟩, ⟨4, .phase⟩, ⟨5, .phase⟩, ⟨6, .phase⟩, ⟨7, .phase⟩], none⟩) rfl (fun K hK => ?_) AllReadyH.nil
      go_simp
      refine hK.out _ _ (HZ2.out _ _ hq) (fun hH2 => ?_)
      clear hK K hH
      have hH := hH2
      clear hH2
      try simp only [Act.put, List.setIfInBounds_toArray, List.set_cons_zero, List.set_cons_succ]
      refine wpAnyH_done (by kernel_rfl) ?_ _
      rw [HZ.out.1]
      go_wp2_with fail
      go_ret
      exact (HF.out _ _ _ _ (by first | exact bdrewN ((Below.refl _ _).alloc (Nat.le_refl _) _) 1 | exact (bdrewN (Below.refl _ _) 1).alloc (Nat.le_refl _) _) hO' hg hgo).step HB2.out
    · go_simp
      refine hK.out _ _ (HS.out _ (by first | exact grown_drew (grown_refl _ _) | exact grown_drew (grown_alloc (grown_refl _ _) _) | exact grown_alloc (grown_drew (grown_refl _ _)) _)) (fun hH2 => ?_)
      clear hK K hH
      have hH := hH2
      clear hH2
      try simp only [Act.put, List.setIfInBounds_toArray, List.set_cons_zero, List.set_cons_succ]
      refine wpAnyH_ready (rs := [4]) (by kernel_rfl) (by simp) ?_
      refine AllReadyH.cons (o := ⟨some 23, .load 33 (.tmp 22), 33, "build.go:177", #[⟨3, .data⟩], none⟩) rfl (fun K hK => ?_) AllReadyH.nil
      have y0 := HC.out _ (grown_drew (grown_refl _ _))
      have y3 := fun o => HC.out _ (grown_drew (grown_alloc (grown_refl w2 _) o))
      have y4 := fun o => HC.out _ (grown_alloc (grown_drew (grown_refl w2 _)) o)
      go_simp
      clear y0 y3 y4
      refine hK.out _ _ (HS.out _ (by first | exact grown_drew (grown_refl _ _) | exact grown_drew (grown_alloc (grown_refl _ _) _) | exact grown_alloc (grown_drew (grown_refl _ _)) _)) (fun hH2 => ?_)
      clear hK K hH
      have hH := hH2
      clear hH2
      try simp only [Act.put, List.setIfInBounds_toArray, List.set_cons_zero, List.set_cons_succ]
      refine wpAnyH_ready (rs := [7]) (by kernel_rfl) (by simp) ?_
      refine AllReadyH.cons (o := ⟨some 26, .call { callee := .builtin .append, args := #[.tmp 23, .tmp 25], argTypes := #[33, 33] }, 33, "build.go:177", #[⟨4, .data⟩, ⟨6, .data⟩], none⟩) rfl (fun K hK => ?_) AllReadyH.nil
      (refine step_append_row kWiR _ (by rfl) (.tmp 23) (.tmp 25) (by rfl) lo (.slice A1 n1 c1) (y.wins) (by rfl) (by first | exact (HO.out.alloc _).drewN 1 | exact (HO.out.drewN 1).alloc _) w2.heap.size (f, t) (by rfl) (one_new (by first | exact BlkAt.drewN (blk_now rfl) 1 | exact blk_now rfl) (pair_vals _ _)) (by have := HZ.out; omega) (by simp; omega) ?_; intro g cap w' hO' hg hgo hlt'; have hq : w2.grownBy w' (Value.slice A1 n1 c1).ownBlock := grown_trans (by first | exact grown_drew (grown_alloc (grown_refl _ _) _) | exact grown_alloc (grown_drew (grown_refl _ _)) _) hg; have y1 := HC.out _ hq; have y2 := HCF.out _ hq)
      refine hK.out _ _ (HS.out _ hq) (fun hH2 => ?_)
      clear hK K hH
      have hH := hH2
      clear hH2
      try simp only [Act.put, List.setIfInBounds_toArray, List.set_cons_zero, List.set_cons_succ]
      refine wpAnyH_take (i := 8) (oi := ⟨some 27, .nilCheck (.tmp 19), 0, "build.go:177", #[⟨0, .data⟩, ⟨0, .phase⟩, ⟨1, .phase⟩, ⟨2, .phase⟩, ⟨3, .phase⟩, ⟨4, .phase⟩, ⟨5, .phase⟩, ⟨6, .phase⟩, ⟨7, .phase⟩], none⟩) (v := ?_) rfl (by kernel_rfl) (by kernel_rfl) (by kernel_rfl) (fun _ _ _ h => h) (Or.inl ⟨by rfl, ?_⟩) hH ?_
      rotate_left
      focus (intro w hSw; (try dsimp only at hSw); go_simp; (try with_reducible rfl); done)
      try simp only [Act.put, List.setIfInBounds_toArray, List.set_cons_zero, List.set_cons_succ]
      refine wpAnyH_take (i := 9) (oi := ⟨some 28, .fieldAddr 40 (.tmp 27) 6, 0, "build.go:177", #[⟨8, .data⟩, ⟨0, .phase⟩, ⟨1, .phase⟩, ⟨2, .phase⟩, ⟨3, .phase⟩, ⟨4, .phase⟩, ⟨5, .phase⟩, ⟨6, .phase⟩, ⟨7, .phase⟩], none⟩) (v := ?_) rfl (by kernel_rfl) (by kernel_rfl) (by kernel_rfl) (fun _ _ _ h => h) (Or.inl ⟨by rfl, ?_⟩) hH ?_
      rotate_left
      focus (intro w hSw; (try dsimp only at hSw); go_simp; (try with_reducible rfl); done)
      try simp only [Act.put, List.setIfInBounds_toArray, List.set_cons_zero, List.set_cons_succ]
      refine wpAnyH_ready (rs := [10]) (by kernel_rfl) (by simp) ?_
      refine AllReadyH.cons (o := ⟨none, .store 33 (.tmp 28) (.tmp 26), 0, "build.go:177", #[⟨9, .data⟩, ⟨7, .data⟩, ⟨7, .chain⟩, ⟨0, .phase⟩, ⟨1, .phase⟩, ⟨2, .phase⟩, ⟨3, .phase⟩, ⟨4, .phase⟩, ⟨5, .phase⟩, ⟨6, .phase⟩, ⟨7, .phase⟩], none⟩) rfl (fun K hK => ?_) AllReadyH.nil
      go_simp
      refine hK.out _ _ (HZ2.out _ _ hq) (fun hH2 => ?_)
      clear hK K hH
      have hH := hH2
      clear hH2
      try simp only [Act.put, List.setIfInBounds_toArray, List.set_cons_zero, List.set_cons_succ]
      refine wpAnyH_done (by kernel_rfl) ?_ _
      rw [HZ.out.1]
      go_wp2_with fail
      go_ret
      exact (HF.out _ _ _ _ (by first | exact bdrewN ((Below.refl _ _).alloc (Nat.le_refl _) _) 1 | exact (bdrewN (Below.refl _ _) 1).alloc (Nat.le_refl _) _) hO' hg hgo).step HB2.out
end Go.Proofs.YtphenbfhojdcpaaGreatDoor
