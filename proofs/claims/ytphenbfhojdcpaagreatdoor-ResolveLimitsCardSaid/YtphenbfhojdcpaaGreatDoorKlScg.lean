/- Package resolve: addLayer. Printed by gen_sd.py. -/
import Derived.Test.YtphenbfhojdcpaaGreatDoorKlSca
import Derived.Deep.RegionHeld3
namespace Go.Proofs.YtphenbfhojdcpaaGreatDoor
open Go.RowKit
set_option linter.unusedVariables false
set_option linter.unusedSimpArgs false
set_option maxRecDepth 100000
theorem lay_vals (l : Rs.Lay) (h1 : l.mem = []) (h2 : l.wins = []) : ∀ j, j < 10 → (#[Value.string ⟨l.name.toArray⟩, .int .i64 l.zone, .int .i64 l.day, .int .i64 l.sec, .int .i64 l.unit, .int .i64 l.every, .slice none 0 0, .slice none 0 0, .int .i64 l.cal, .int .i64 l.mode] : Array Value)[j]? = some (eLay (l, (noSV, noSV)) j) := fun j hj => by
  rcases j with _ | _ | _ | _ | _ | _ | _ | _ | _ | _ | _ <;> first | rfl | omega
set_option maxHeartbeats 16000000 in
theorem addLay_is {C : Rs.Cfg} {N : Nat} {l : List Lx.Tk} (A : Option Addr) (n c bc lo : Nat) (vs : Key → SV) (w : World) (h : OwnC w bc lo vs C) (hG : GoodC N C) (hN : N ≤ 900000) (hT : TokIn w bc A l) (hl : 6 ≤ l.length) (hn : l.length = n) (hn6 : n ≤ 1000) :
    Calls Tryz.prog 92 #[.pointer (some ⟨bc, 0, none⟩), .slice A n c] w (StepV bc lo w (Rs.addLay C l)) := by
  obtain ⟨b, off, _k0, rfl, hb, -, t0, -, -⟩ := hT.get (i := 0) (by omega)
  obtain ⟨b_, off_, _k1, ea, -, -, t1, -, -⟩ := hT.get (i := 1) (by omega)
  cases ea
  obtain ⟨b_, off_, _k2, ea, -, -, -, t2, -⟩ := hT.get (i := 2) (by omega)
  cases ea
  obtain ⟨b_, off_, _k3, ea, -, -, -, t3, -⟩ := hT.get (i := 3) (by omega)
  cases ea
  obtain ⟨b_, off_, _k4, ea, -, -, -, t4, -⟩ := hT.get (i := 4) (by omega)
  cases ea
  obtain ⟨b_, off_, _k5, ea, -, -, t5, -, -⟩ := hT.get (i := 5) (by omega)
  cases ea
  have i0 : (0 : Int) < n := by omega
  have j0 : 0 < n := by omega
  have i1 : (1 : Int) < n := by omega
  have j1 : 1 < n := by omega
  have i2 : (2 : Int) < n := by omega
  have j2 : 2 < n := by omega
  have i3 : (3 : Int) < n := by omega
  have j3 : 3 < n := by omega
  have i4 : (4 : Int) < n := by omega
  have j4 : 4 < n := by omega
  have i5 : (5 : Int) < n := by omega
  have j5 : 5 < n := by omega
  have i9 : (1 : Int) ≤ n := by omega
  have hlt := h.lt
  have hle := h.le
  obtain ⟨pu, hpu⟩ : ∃ p, Rs.unitS (Rs.tx l 5) = p := ⟨_, rfl⟩
  unfold Rs.addLay
  rw [hpu]
  have CU := Lib.hid (unit_is hpu w)
  obtain ⟨un, bu⟩ := pu
  have x5 : w.cell? ⟨b, off + 15 + 1, none⟩ = some (.string ⟨(Rs.tx l 5).toArray⟩) := t5
  clear hpu
  cases bu
  · rw [if_pos rfl]
    go_enter Tryz.func92, Tryz.ntmps92
    go_wp2_with fail
    refine CU.out.mono ?_
    rintro e w9 ⟨rfl, rfl⟩
    go_wp2_with fail
    go_ret
    exact step_err (.refl _ _ _) (.refl _) (by decide)
  rw [if_neg (by simp)]
  have hln := h.len_s
  cases hla : Rs.lastOf C.scheds with
  | none =>
    simp only
    obtain ⟨v2, hv2⟩ : ∃ v, vs .sc = v := ⟨_, rfl⟩
    have k1 := h.slices.2.2.2
    rw [hv2] at hln k1
    obtain ⟨A2, n2, c2⟩ := v2
    simp only at hln k1
    obtain rfl : n2 = 0 := by rw [← hln]; exact lastOf_none hla
    clear hla hln hv2
    go_enter Tryz.func92, Tryz.ntmps92
    go_wp2_with fail
    refine CU.out.mono ?_
    rintro e w9 ⟨rfl, rfl⟩
    go_wp2_with fail
    refine (last_s0 _ _ _).mono ?_
    rintro e w9 ⟨rfl, rfl⟩
    go_wp2_with fail
    go_ret
    exact step_err (.refl _ _ _) (.refl _) (by decide)
  | some z =>
    simp only
    obtain ⟨hz, hm1⟩ := lastOf_some hla
    obtain ⟨gz, cap0, ez, hcap, hlo, hsz, hcl⟩ := h.lastS hz
    have hap0 := h.apart (κ := .sc) (κ' := .la (C.scheds.length - 1)) (fun e => by cases e) (g := gz) (by rw [ez]; rfl)
    have k1 := h.slices.2.2.2
    rw [ez] at k1
    simp only at k1
    have hlen6 : C.scheds.length ≤ 1000000 := by have := hG.sl; omega
    have LP := Lib.hid (last_s gz C.scheds.length (C.scheds.length - 1) cap0 hm1.symm hlen6)
    have hq1 := (hG.ss z (List.mem_of_getElem? hz)).1
    have hcf := h.cfg hG (by omega)
    obtain ⟨p, hp⟩ : ∃ p, Rs.findS C.zn (Rs.tx l 1) = p := ⟨_, rfl⟩
    rw [hp]
    have HP := Lib.hid hp
    have HZN := Lib.hid hcf.zones
    obtain ⟨q, ok⟩ := p
    obtain ⟨vz, hvz⟩ : ∃ v, vs .zn = v := ⟨_, rfl⟩
    rw [hvz] at HZN
    have hs0 := h.slices.1
    rw [hvz] at hs0
    obtain ⟨AZ, nz, cz⟩ := vz
    simp only at hs0
    have HS0 : Hid (∀ W, Below w.heap.size w W → W.cell? ⟨bc, 0, none⟩ = some (.slice AZ nz cz) ∧ W.cell? ⟨b, off + 3 + 1, none⟩ = some (.string ⟨(Rs.tx l 1).toArray⟩)) := Lib.hid fun W hW => ⟨cell_lift hs0 hW, cell_lift (by simpa using t1) hW⟩
    have CF := Lib.hid (fun (W : World) (hW : Below w.heap.size w W) => z_find HP.out AZ nz cz W (z_nest HZN.out hW))
    clear hp hcf hs0 hvz
    cases ok
    · rw [if_pos rfl]
      generalize C.scheds.length - 1 = m at hz hm1 LP
      generalize hpl : C.scheds.length = np at LP k1
      clear hla hln hpl hm1 hcap hlen6
      go_enter Tryz.func92, Tryz.ntmps92
      go_wp2_with fail
      refine CU.out.mono ?_
      rintro e w9 ⟨rfl, rfl⟩
      go_wp2_with fail
      refine (LP.out _).mono ?_
      rintro e w9 ⟨rfl, rfl⟩
      go_wp2_with fail
      go_region_held3 (fun W => W.cell? ⟨bc, 0, none⟩ = some (.slice AZ nz cz) ∧ W.cell? ⟨b, off + 3 + 1, none⟩ = some (.string ⟨(Rs.tx l 1).toArray⟩))
        (first | exact HS0.out _ (bdrewN (Below.refl _ _) 1) | exact HS0.out _ hw2)
        (first | (go_at_call 70; ((with_reducible refine (CF.out _ (Below.refl _ _).drew).mono ?_); rintro e w2 ⟨rfl, hb2⟩; have hw2 : Below w.heap.size w w2 := ((Below.refl w.heap.size w).drew).trans hb2)))
      go_wp2_with fail
      go_ret
      exact step_err (.of_below hw2 hle) (.of_below hw2) (by decide)
    rw [if_neg (by simp)]
    obtain ⟨LY, hLY⟩ : ∃ y : Rs.Lay, (⟨Rs.tx l 0, q, Rs.nm l 2, Rs.nm l 3, un, Rs.nm l 4, [], [], 0, 0⟩ : Rs.Lay) = y := ⟨_, rfl⟩
    have hset : Rs.setSch C { z with lays := z.lays ++ [⟨Rs.tx l 0, q, Rs.nm l 2, Rs.nm l 3, un, Rs.nm l 4, [], [], 0, 0⟩] } = { C with scheds := C.scheds.set (C.scheds.length - 1) { z with lays := z.lays ++ [LY] } } := by rw [← hLY]; rfl
    rw [hset]
    generalize C.scheds.length - 1 = m at hz hm1 hap0 LP hcl ⊢
    generalize hpl : C.scheds.length = np at LP k1
    clear hla hln hset hpl hm1 hcap hlen6
    go_enter Tryz.func92, Tryz.ntmps92
    go_wp2_with fail
    refine CU.out.mono ?_
    rintro e w9 ⟨rfl, rfl⟩
    go_wp2_with fail
    refine (LP.out _).mono ?_
    rintro e w9 ⟨rfl, rfl⟩
    go_wp2_with fail
    go_region_held3 (fun W => W.cell? ⟨bc, 0, none⟩ = some (.slice AZ nz cz) ∧ W.cell? ⟨b, off + 3 + 1, none⟩ = some (.string ⟨(Rs.tx l 1).toArray⟩))
      (first | exact HS0.out _ (bdrewN (Below.refl _ _) 1) | exact HS0.out _ hw2)
      (first | (go_at_call 70; ((with_reducible refine (CF.out _ (Below.refl _ _).drew).mono ?_); rintro e w2 ⟨rfl, hb2⟩; have hw2 : Below w.heap.size w w2 := ((Below.refl w.heap.size w).drew).trans hb2)))
    go_wp2_with fail
    have t0' : w2.cell? ⟨b, off + 1, none⟩ = some (.string ⟨(Rs.tx l 0).toArray⟩) := cell_lift (by simpa using t0) hw2
    have t2' : w2.cell? ⟨b, off + 6 + 2, none⟩ = some (.int .i64 (Rs.nm l 2)) := cell_lift t2 hw2
    have t3' : w2.cell? ⟨b, off + 9 + 2, none⟩ = some (.int .i64 (Rs.nm l 3)) := cell_lift t3 hw2
    have t4' : w2.cell? ⟨b, off + 12 + 2, none⟩ = some (.int .i64 (Rs.nm l 4)) := cell_lift t4 hw2
    have h2 := h.below hw2
    have hle2 := h2.le
    have hlt2 := h2.lt
    have hs2 := hw2.size
    have HS1 : Hid (∀ W, Below w2.heap.size w2 W → W.cell? ⟨b, off + 6 + 2, none⟩ = some (.int .i64 (Rs.nm l 2)) ∧ W.cell? ⟨b, off + 9 + 2, none⟩ = some (.int .i64 (Rs.nm l 3))) := Lib.hid fun W hW => ⟨cell_lift t2' hW, cell_lift t3' hW⟩
    go_region_held3 (fun W => W.cell? ⟨b, off + 6 + 2, none⟩ = some (.int .i64 (Rs.nm l 2)) ∧ W.cell? ⟨b, off + 9 + 2, none⟩ = some (.int .i64 (Rs.nm l 3)))
      (first | exact HS1.out _ (bdrewN (Below.refl _ _) 1) | exact HS1.out _ ((bdrewN (Below.refl _ _) 1).alloc (Nat.le_refl _) _) | exact HS1.out _ (bdrewN ((Below.refl _ _).alloc (Nat.le_refl _) _) 1))
      (fail)
    have B3 : Below w2.heap.size w2 (w2.alloc (.cells #[.int .i64 (Rs.nm l 2), .int .i64 (Rs.nm l 3)] 37)).drew := ((Below.refl _ _).alloc (Nat.le_refl _) _).drew
    have N3 : BlkAt (w2.alloc (.cells #[.int .i64 (Rs.nm l 2), .int .i64 (Rs.nm l 3)] 37)).drew w2.heap.size #[.int .i64 (Rs.nm l 2), .int .i64 (Rs.nm l 3)] 37 := BlkAt.drewN (BlkAt.new _ _ _) 1
    generalize (w2.alloc (.cells #[.int .i64 (Rs.nm l 2), .int .i64 (Rs.nm l 3)] 37)).drew = w3 at B3 N3 ⊢
    have h3 := h2.below B3
    have HB3 := Lib.hid ((But.of_below (bc := bc) hw2 hle).below B3 hle)
    have hle3 := h3.le
    have hlt3 := h3.lt
    have hs3 := B3.size
    have hNl := N3.lt_
    have u0 := cell_lift t0' B3
    have u4 := cell_lift t4' B3
    have B03 := bstep hw2 B3
    have hcl2 : w3.cell? ⟨gz, m * 3 + 1, none⟩ = some (eSch (z, (vs (.la m), vs (.ed m))) 1) := cell_lift (hcl 1 (by omega)).1 B03
    have hfr2 : w3.frozen? ⟨gz, m * 3 + 1, none⟩ = false := (B03.frozen (p := ⟨gz, m * 3 + 1, none⟩) hsz).trans (hcl 1 (by omega)).2
    simp only [eSch] at hcl2
    have HLY := Lib.hid hLY
    clear hcl k1 LP CU B03 B3 t0' t2' t3' t4' hLY hb2 hw2 HS1
    go_wp2_with fail
    obtain ⟨hO1, hlen1⟩ := own_list (h3.rLa hz) (by omega)
    have s0 := hcl2
    have hfr := hfr2
    have hrow : ∀ g, (sv (vs (.la m))).ownBlock = some g → lo ≤ g ∧ g < w2.heap.size := fun g hg => h2.far hg
    have hap := hap0
    obtain ⟨v1, hv1⟩ : ∃ v, vs (.la m) = v := ⟨_, rfl⟩
    rw [hv1] at hO1 hlen1 hrow hap
    try rw [hv1] at s0
    obtain ⟨A1, n1, c1⟩ := v1
    simp only [sv] at s0 hO1 hrow hlen1 hap
    have HZ : Hid ((withIx (fun j => (vs (.me m j), vs (.wi m j))) z.lays).length = n1 ∧ n1 ≤ 900000) := Lib.hid ⟨hlen1, by rw [withIx_len] at hlen1; omega⟩
    have HO := Lib.hid hO1
    have hσ : some gz ≠ (Value.slice A1 n1 c1).ownBlock := fun e => hap e.symm
    have r0 : some b ≠ (Value.slice A1 n1 c1).ownBlock := fun e => by have := hrow _ e.symm; omega
    have hz0 : b ≠ gz := by omega
    have m0 : w3.cell? ⟨b, off + 1, none⟩ = some (.string ⟨(Rs.tx l 0).toArray⟩) := u0
    have r1 : some b ≠ (Value.slice A1 n1 c1).ownBlock := fun e => by have := hrow _ e.symm; omega
    have hz1 : b ≠ gz := by omega
    have m1 : w3.cell? ⟨b, off + 12 + 2, none⟩ = some (.int .i64 (Rs.nm l 4)) := u4
    have r2 : some w2.heap.size ≠ (Value.slice A1 n1 c1).ownBlock := fun e => by have := hrow _ e.symm; omega
    have hz2 : w2.heap.size ≠ gz := by omega
    have m2 : w3.cell? ⟨w2.heap.size, 0, none⟩ = some (.int .i64 (Rs.nm l 2)) := N3.cell rfl
    have r3 : some w2.heap.size ≠ (Value.slice A1 n1 c1).ownBlock := fun e => by have := hrow _ e.symm; omega
    have hz3 : w2.heap.size ≠ gz := by omega
    have m3 : w3.cell? ⟨w2.heap.size, 1, none⟩ = some (.int .i64 (Rs.nm l 3)) := N3.cell rfl
    have HS : Hid (∀ W, w3.grownBy W (Value.slice A1 n1 c1).ownBlock → W.cell? ⟨b, off + 1, none⟩ = some (.string ⟨(Rs.tx l 0).toArray⟩) ∧ W.cell? ⟨b, off + 12 + 2, none⟩ = some (.int .i64 (Rs.nm l 4)) ∧ W.cell? ⟨w2.heap.size, 0, none⟩ = some (.int .i64 (Rs.nm l 2)) ∧ W.cell? ⟨w2.heap.size, 1, none⟩ = some (.int .i64 (Rs.nm l 3))) := Lib.hid fun W hW => ⟨lim r0 m0 W hW, lim r1 m1 W hW, lim r2 m2 W hW, lim r3 m3 W hW⟩
    have HZ2 : Hid (∀ W v, w3.grownBy W (Value.slice A1 n1 c1).ownBlock → (W.setCell ⟨gz, m * 3 + 1, none⟩ v).cell? ⟨b, off + 1, none⟩ = some (.string ⟨(Rs.tx l 0).toArray⟩) ∧ (W.setCell ⟨gz, m * 3 + 1, none⟩ v).cell? ⟨b, off + 12 + 2, none⟩ = some (.int .i64 (Rs.nm l 4)) ∧ (W.setCell ⟨gz, m * 3 + 1, none⟩ v).cell? ⟨w2.heap.size, 0, none⟩ = some (.int .i64 (Rs.nm l 2)) ∧ (W.setCell ⟨gz, m * 3 + 1, none⟩ v).cell? ⟨w2.heap.size, 1, none⟩ = some (.int .i64 (Rs.nm l 3))) := Lib.hid fun W v hW => ⟨limZ r0 hz0 m0 W v hW, limZ r1 hz1 m1 W v hW, limZ r2 hz2 m2 W v hW, limZ r3 hz3 m3 W v hW⟩
    have HC : Hid (∀ W, w3.grownBy W (Value.slice A1 n1 c1).ownBlock → W.cell? ⟨gz, m * 3 + 1, none⟩ = some (.slice A1 n1 c1)) := Lib.hid (lim hσ s0)
    have HCF : Hid (∀ W, w3.grownBy W (Value.slice A1 n1 c1).ownBlock → W.frozen? ⟨gz, m * 3 + 1, none⟩ = false) := Lib.hid (limF hσ (by omega) hfr)
    have HF := Lib.hid (fun (W W1 : World) (g cap : Nat) => fin_layer (W := W) (W1 := W1) (g := g) (cap := cap) (r := ⟨Rs.tx l 0, q, Rs.nm l 2, Rs.nm l 3, un, Rs.nm l 4, [], [], 0, 0⟩) h3 hz rfl rfl rfl hv1 (by rw [withIx_len] at hlen1; exact hlen1) (by rw [ez]))
    clear hO1 hrow hlen1 s0 hfr hσ r0 hz0 m0 r1 hz1 m1 r2 hz2 m2 r3 hz3 m3
    go_wp2_with fail
    refine wp_region_held_drew (S := fun W => W.cell? ⟨b, off + 1, none⟩ = some (.string ⟨(Rs.tx l 0).toArray⟩) ∧ W.cell? ⟨b, off + 12 + 2, none⟩ = some (.int .i64 (Rs.nm l 4)) ∧ W.cell? ⟨w2.heap.size, 0, none⟩ = some (.int .i64 (Rs.nm l 2)) ∧ W.cell? ⟨w2.heap.size, 1, none⟩ = some (.int .i64 (Rs.nm l 3))) (by kernel_rfl) (HS.out _ (grown_drew (grown_refl _ _))) (fun hH => ?_)
    refine wpAnyH_take (i := 0) (oi := ⟨some 50, .move (.tmp 7), 185, "build.go:149", #[], none⟩) (v := ?_) rfl (by kernel_rfl) (by kernel_rfl) (by kernel_rfl) (fun _ _ _ h => h) (Or.inl ⟨by rfl, ?_⟩) hH ?_
    rotate_left
    focus (intro w hSw; (try dsimp only at hSw); go_simp; (try with_reducible rfl); done)
    try simp only [Act.put, List.setIfInBounds_toArray, List.set_cons_zero, List.set_cons_succ]
    refine wpAnyH_take (i := 1) (oi := ⟨some 51, .move (.tmp 7), 185, "build.go:149", #[], none⟩) (v := ?_) rfl (by kernel_rfl) (by kernel_rfl) (by kernel_rfl) (fun _ _ _ h => h) (Or.inl ⟨by rfl, ?_⟩) hH ?_
    rotate_left
    focus (intro w hSw; (try dsimp only at hSw); go_simp; (try with_reducible rfl); done)
    try simp only [Act.put, List.setIfInBounds_toArray, List.set_cons_zero, List.set_cons_succ]
    refine wpAnyH_take (i := 2) (oi := ⟨some 52, .nilCheck (.tmp 51), 0, "build.go:149", #[⟨1, .data⟩], none⟩) (v := ?_) rfl (by kernel_rfl) (by kernel_rfl) (by kernel_rfl) (fun _ _ _ h => h) (Or.inl ⟨by rfl, ?_⟩) hH ?_
    rotate_left
    focus (intro w hSw; (try dsimp only at hSw); go_simp; (try with_reducible rfl); done)
    try simp only [Act.put, List.setIfInBounds_toArray, List.set_cons_zero, List.set_cons_succ]
    refine wpAnyH_take (i := 3) (oi := ⟨some 53, .fieldAddr 44 (.tmp 52) 1, 0, "build.go:149", #[⟨2, .data⟩], none⟩) (v := ?_) rfl (by kernel_rfl) (by kernel_rfl) (by kernel_rfl) (fun _ _ _ h => h) (Or.inl ⟨by rfl, ?_⟩) hH ?_
    rotate_left
    focus (intro w hSw; (try dsimp only at hSw); go_simp; (try with_reducible rfl); done)
    try simp only [Act.put, List.setIfInBounds_toArray, List.set_cons_zero, List.set_cons_succ]
    refine wpAnyH_take (i := 5) (oi := ⟨some 55, .move (.tmp 1), 104, "build.go:149", #[], none⟩) (v := ?_) rfl (by kernel_rfl) (by kernel_rfl) (by kernel_rfl) (fun _ _ _ h => h) (Or.inl ⟨by rfl, ?_⟩) hH ?_
    rotate_left
    focus (intro w hSw; (try dsimp only at hSw); go_simp; (try with_reducible rfl); done)
    try simp only [Act.put, List.setIfInBounds_toArray, List.set_cons_zero, List.set_cons_succ]
    refine wpAnyH_take (i := 6) (oi := ⟨some 56, .indexAddr 104 (.tmp 55) (.const (.int .i64 0)), 0, "build.go:149", #[⟨5, .data⟩], none⟩) (v := ?_) rfl (by kernel_rfl) (by kernel_rfl) (by kernel_rfl) (fun _ _ _ h => h) (Or.inl ⟨by rfl, ?_⟩) hH ?_
    rotate_left
    focus (intro w hSw; (try dsimp only at hSw); go_simp; (try with_reducible rfl); done)
    try simp only [Act.put, List.setIfInBounds_toArray, List.set_cons_zero, List.set_cons_succ]
    refine wpAnyH_take (i := 7) (oi := ⟨some 57, .fieldAddr 115 (.tmp 56) 1, 0, "build.go:149", #[⟨6, .data⟩], none⟩) (v := ?_) rfl (by kernel_rfl) (by kernel_rfl) (by kernel_rfl) (fun _ _ _ h => h) (Or.inl ⟨by rfl, ?_⟩) hH ?_
    rotate_left
    focus (intro w hSw; (try dsimp only at hSw); go_simp; (try with_reducible rfl); done)
    try simp only [Act.put, List.setIfInBounds_toArray, List.set_cons_zero, List.set_cons_succ]
    refine wpAnyH_take (i := 8) (oi := ⟨some 58, .load 9 (.tmp 57), 9, "build.go:149", #[⟨7, .data⟩], none⟩) (v := ?_) rfl (by kernel_rfl) (by kernel_rfl) (by kernel_rfl) (fun _ _ _ h => h) (Or.inl ⟨by rfl, ?_⟩) hH ?_
    rotate_left
    focus (intro w hSw; (try dsimp only at hSw); go_simp; (try with_reducible rfl); done)
    try simp only [Act.put, List.setIfInBounds_toArray, List.set_cons_zero, List.set_cons_succ]
    refine wpAnyH_take (i := 9) (oi := ⟨some 59, .move (.tmp 8), 3, "build.go:149", #[], none⟩) (v := ?_) rfl (by kernel_rfl) (by kernel_rfl) (by kernel_rfl) (fun _ _ _ h => h) (Or.inl ⟨by rfl, ?_⟩) hH ?_
    rotate_left
    focus (intro w hSw; (try dsimp only at hSw); go_simp; (try with_reducible rfl); done)
    try simp only [Act.put, List.setIfInBounds_toArray, List.set_cons_zero, List.set_cons_succ]
    refine wpAnyH_take (i := 10) (oi := ⟨some 60, .load 37 (.tmp 9), 37, "build.go:149", #[], none⟩) (v := ?_) rfl (by kernel_rfl) (by kernel_rfl) (by kernel_rfl) (fun _ _ _ h => h) (Or.inl ⟨by rfl, ?_⟩) hH ?_
    rotate_left
    focus (intro w hSw; (try dsimp only at hSw); go_simp; (try with_reducible rfl); done)
    try simp only [Act.put, List.setIfInBounds_toArray, List.set_cons_zero, List.set_cons_succ]
    refine wpAnyH_take (i := 11) (oi := ⟨some 61, .move (.tmp 5), 3, "build.go:149", #[], none⟩) (v := ?_) rfl (by kernel_rfl) (by kernel_rfl) (by kernel_rfl) (fun _ _ _ h => h) (Or.inl ⟨by rfl, ?_⟩) hH ?_
    rotate_left
    focus (intro w hSw; (try dsimp only at hSw); go_simp; (try with_reducible rfl); done)
    try simp only [Act.put, List.setIfInBounds_toArray, List.set_cons_zero, List.set_cons_succ]
    refine wpAnyH_take (i := 12) (oi := ⟨some 62, .move (.tmp 1), 104, "build.go:149", #[], none⟩) (v := ?_) rfl (by kernel_rfl) (by kernel_rfl) (by kernel_rfl) (fun _ _ _ h => h) (Or.inl ⟨by rfl, ?_⟩) hH ?_
    rotate_left
    focus (intro w hSw; (try dsimp only at hSw); go_simp; (try with_reducible rfl); done)
    try simp only [Act.put, List.setIfInBounds_toArray, List.set_cons_zero, List.set_cons_succ]
    refine wpAnyH_take (i := 13) (oi := ⟨some 63, .indexAddr 104 (.tmp 62) (.const (.int .i64 4)), 0, "build.go:149", #[⟨12, .data⟩], none⟩) (v := ?_) rfl (by kernel_rfl) (by kernel_rfl) (by kernel_rfl) (fun _ _ _ h => h) (Or.inl ⟨by rfl, ?_⟩) hH ?_
    rotate_left
    focus (intro w hSw; (try dsimp only at hSw); go_simp; (try with_reducible rfl); done)
    try simp only [Act.put, List.setIfInBounds_toArray, List.set_cons_zero, List.set_cons_succ]
    refine wpAnyH_take (i := 14) (oi := ⟨some 64, .fieldAddr 115 (.tmp 63) 2, 0, "build.go:149", #[⟨13, .data⟩], none⟩) (v := ?_) rfl (by kernel_rfl) (by kernel_rfl) (by kernel_rfl) (fun _ _ _ h => h) (Or.inl ⟨by rfl, ?_⟩) hH ?_
    rotate_left
    focus (intro w hSw; (try dsimp only at hSw); go_simp; (try with_reducible rfl); done)
    try simp only [Act.put, List.setIfInBounds_toArray, List.set_cons_zero, List.set_cons_succ]
    refine wpAnyH_take (i := 15) (oi := ⟨some 65, .load 3 (.tmp 64), 3, "build.go:149", #[⟨14, .data⟩], none⟩) (v := ?_) rfl (by kernel_rfl) (by kernel_rfl) (by kernel_rfl) (fun _ _ _ h => h) (Or.inl ⟨by rfl, ?_⟩) hH ?_
    rotate_left
    focus (intro w hSw; (try dsimp only at hSw); go_simp; (try with_reducible rfl); done)
    try simp only [Act.put, List.setIfInBounds_toArray, List.set_cons_zero, List.set_cons_succ]
    refine wpAnyH_take (i := 16) (oi := ⟨some 66, .build 40 #[(0, .tmp 58), (1, .tmp 59), (2, .tmp 60), (3, .tmp 61), (4, .tmp 65)], 40, "build.go:149", #[⟨8, .data⟩, ⟨9, .data⟩, ⟨10, .data⟩, ⟨11, .data⟩, ⟨15, .data⟩], none⟩) (v := ?_) rfl (by kernel_rfl) (by kernel_rfl) (by kernel_rfl) (fun _ _ _ h => h) (Or.inl ⟨by rfl, ?_⟩) hH ?_
    rotate_left
    focus (intro w hSw; (try dsimp only at hSw); go_simp; (try with_reducible rfl); done)
    try simp only [Act.put, List.setIfInBounds_toArray, List.set_cons_zero, List.set_cons_succ]
    refine wpAnyH_ready (rs := [4, 17]) (by kernel_rfl) (by simp) ?_
    refine AllReadyH.cons (o := ⟨some 54, .load 41 (.tmp 53), 41, "build.go:149", #[⟨3, .data⟩], none⟩) rfl (fun K hK => ?_) (AllReadyH.cons (o := ⟨some 67, .buildSlice 41 1 #[(0, .tmp 66)], 41, "build.go:149", #[⟨16, .data⟩], none⟩) rfl (fun K hK => ?_) AllReadyH.nil)
    · have y0 := HC.out _ (grown_drew (grown_refl _ _))
      have y3 := fun o => HC.out _ (grown_drew (grown_alloc (grown_refl w3 _) o))
      have y4 := fun o => HC.out _ (grown_alloc (grown_drew (grown_refl w3 _)) o)
      go_simp
      clear y0 y3 y4
      refine hK.out _ _ (HS.out _ (by first | exact grown_drew (grown_refl _ _) | exact grown_drew (grown_alloc (grown_refl _ _) _) | exact grown_alloc (grown_drew (grown_refl _ _)) _)) (fun hH2 => ?_)
      clear hK K hH
      have hH := hH2
      clear hH2
      try simp only [Act.put, List.setIfInBounds_toArray, List.set_cons_zero, List.set_cons_succ]
      refine wpAnyH_ready (rs := [17]) (by kernel_rfl) (by simp) ?_
      refine AllReadyH.cons (o := ⟨some 67, .buildSlice 41 1 #[(0, .tmp 66)], 41, "build.go:149", #[⟨16, .data⟩], none⟩) rfl (fun K hK => ?_) AllReadyH.nil
      go_simp
      refine hK.out _ _ (HS.out _ (by first | exact grown_drew (grown_refl _ _) | exact grown_drew (grown_alloc (grown_refl _ _) _) | exact grown_alloc (grown_drew (grown_refl _ _)) _)) (fun hH2 => ?_)
      clear hK K hH
      have hH := hH2
      clear hH2
      try simp only [Act.put, List.setIfInBounds_toArray, List.set_cons_zero, List.set_cons_succ]
      refine wpAnyH_ready (rs := [18]) (by kernel_rfl) (by simp) ?_
      refine AllReadyH.cons (o := ⟨some 68, .call { callee := .builtin .append, args := #[.tmp 54, .tmp 67], argTypes := #[41, 41] }, 41, "build.go:149", #[⟨4, .data⟩, ⟨17, .data⟩], none⟩) rfl (fun K hK => ?_) AllReadyH.nil
      (refine step_append_row kLay _ (by rfl) (.tmp 54) (.tmp 67) (by rfl) lo (.slice A1 n1 c1) (withIx (fun j => (vs (.me m j), vs (.wi m j))) z.lays) (by rfl) (by first | exact (HO.out.alloc _).drewN 1 | exact (HO.out.drewN 1).alloc _) w3.heap.size (⟨Rs.tx l 0, q, Rs.nm l 2, Rs.nm l 3, un, Rs.nm l 4, [], [], 0, 0⟩, (noSV, noSV)) (by rfl) (one_new (by first | exact BlkAt.drewN (blk_now rfl) 1 | exact blk_now rfl) (lay_vals ⟨Rs.tx l 0, q, Rs.nm l 2, Rs.nm l 3, un, Rs.nm l 4, [], [], 0, 0⟩ rfl rfl)) (by have := HZ.out; omega) (by simp; omega) ?_; intro g cap w' hO' hg hgo hlt'; have hq : w3.grownBy w' (Value.slice A1 n1 c1).ownBlock := grown_trans (by first | exact grown_drew (grown_alloc (grown_refl _ _) _) | exact grown_alloc (grown_drew (grown_refl _ _)) _) hg; have y1 := HC.out _ hq; have y2 := HCF.out _ hq)
      refine hK.out _ _ (HS.out _ hq) (fun hH2 => ?_)
      clear hK K hH
      have hH := hH2
      clear hH2
      try simp only [Act.put, List.setIfInBounds_toArray, List.set_cons_zero, List.set_cons_succ]
      refine wpAnyH_take (i := 19) (oi := ⟨some 69, .nilCheck (.tmp 50), 0, "build.go:149", #[⟨0, .data⟩, ⟨0, .phase⟩, ⟨1, .phase⟩, ⟨2, .phase⟩, ⟨3, .phase⟩, ⟨4, .phase⟩, ⟨5, .phase⟩, ⟨6, .phase⟩, ⟨7, .phase⟩, ⟨8, .phase⟩, ⟨9, .phase⟩, ⟨10, .phase⟩, ⟨11, .phase⟩, ⟨12, .phase⟩, ⟨13, .phase⟩, ⟨14, .phase⟩, ⟨15, .phase⟩, ⟨16, .phase⟩, ⟨17, .phase⟩, ⟨18, .phase⟩], none⟩) (v := ?_) rfl (by kernel_rfl) (by kernel_rfl) (by kernel_rfl) (fun _ _ _ h => h) (Or.inl ⟨by rfl, ?_⟩) hH ?_
      rotate_left
      focus (intro w hSw; (try dsimp only at hSw); go_simp; (try with_reducible rfl); done)
      try simp only [Act.put, List.setIfInBounds_toArray, List.set_cons_zero, List.set_cons_succ]
      refine wpAnyH_take (i := 20) (oi := ⟨some 70, .fieldAddr 44 (.tmp 69) 1, 0, "build.go:149", #[⟨19, .data⟩, ⟨0, .phase⟩, ⟨1, .phase⟩, ⟨2, .phase⟩, ⟨3, .phase⟩, ⟨4, .phase⟩, ⟨5, .phase⟩, ⟨6, .phase⟩, ⟨7, .phase⟩, ⟨8, .phase⟩, ⟨9, .phase⟩, ⟨10, .phase⟩, ⟨11, .phase⟩, ⟨12, .phase⟩, ⟨13, .phase⟩, ⟨14, .phase⟩, ⟨15, .phase⟩, ⟨16, .phase⟩, ⟨17, .phase⟩, ⟨18, .phase⟩], none⟩) (v := ?_) rfl (by kernel_rfl) (by kernel_rfl) (by kernel_rfl) (fun _ _ _ h => h) (Or.inl ⟨by rfl, ?_⟩) hH ?_
      rotate_left
      focus (intro w hSw; (try dsimp only at hSw); go_simp; (try with_reducible rfl); done)
      try simp only [Act.put, List.setIfInBounds_toArray, List.set_cons_zero, List.set_cons_succ]
      refine wpAnyH_ready (rs := [21]) (by kernel_rfl) (by simp) ?_
      refine AllReadyH.cons (o := ⟨none, .store 41 (.tmp 70) (.tmp 68), 0, "build.go:149", #[⟨20, .data⟩, ⟨18, .data⟩, ⟨18, .chain⟩, ⟨0, .phase⟩, ⟨1, .phase⟩, ⟨2, .phase⟩, ⟨3, .phase⟩, ⟨4, .phase⟩, ⟨5, .phase⟩, ⟨6, .phase⟩, ⟨7, .phase⟩, ⟨8, .phase⟩, ⟨9, .phase⟩, ⟨10, .phase⟩, ⟨11, .phase⟩, ⟨12, .phase⟩, ⟨13, .phase⟩, ⟨14, .phase⟩, ⟨15, .phase⟩, ⟨16, .phase⟩, ⟨17, .phase⟩, ⟨18, .phase⟩], none⟩) rfl (fun K hK => ?_) AllReadyH.nil
      go_simp
      refine hK.out _ _ (HZ2.out _ _ hq) (fun hH2 => ?_)
      clear hK K hH
      have hH := hH2
      clear hH2
      try simp only [Act.put, List.setIfInBounds_toArray, List.set_cons_zero, List.set_cons_succ]
      refine wpAnyH_done (by kernel_rfl) ?_ _
      rw [HZ.out.1]
      go_wp2_with fail
      go_ret
      rw [← HLY.out]
      exact (HF.out _ _ _ _ (by first | exact bdrewN ((Below.refl _ _).alloc (Nat.le_refl _) _) 1 | exact (bdrewN (Below.refl _ _) 1).alloc (Nat.le_refl _) _) hO' hg hgo).step HB3.out
    · go_simp
      refine hK.out _ _ (HS.out _ (by first | exact grown_drew (grown_refl _ _) | exact grown_drew (grown_alloc (grown_refl _ _) _) | exact grown_alloc (grown_drew (grown_refl _ _)) _)) (fun hH2 => ?_)
      clear hK K hH
      have hH := hH2
      clear hH2
      try simp only [Act.put, List.setIfInBounds_toArray, List.set_cons_zero, List.set_cons_succ]
      refine wpAnyH_ready (rs := [4]) (by kernel_rfl) (by simp) ?_
      refine AllReadyH.cons (o := ⟨some 54, .load 41 (.tmp 53), 41, "build.go:149", #[⟨3, .data⟩], none⟩) rfl (fun K hK => ?_) AllReadyH.nil
      have y0 := HC.out _ (grown_drew (grown_refl _ _))
      have y3 := fun o => HC.out _ (grown_drew (grown_alloc (grown_refl w3 _) o))
      have y4 := fun o => HC.out _ (grown_alloc (grown_drew (grown_refl w3 _)) o)
      go_simp
      clear y0 y3 y4
      refine hK.out _ _ (HS.out _ (by first | exact grown_drew (grown_refl _ _) | exact grown_drew (grown_alloc (grown_refl _ _) _) | exact grown_alloc (grown_drew (grown_refl _ _)) _)) (fun hH2 => ?_)
      clear hK K hH
      have hH := hH2
      clear hH2
      try simp only [Act.put, List.setIfInBounds_toArray, List.set_cons_zero, List.set_cons_succ]
      refine wpAnyH_ready (rs := [18]) (by kernel_rfl) (by simp) ?_
      refine AllReadyH.cons (o := ⟨some 68, .call { callee := .builtin .append, args := #[.tmp 54, .tmp 67], argTypes := #[41, 41] }, 41, "build.go:149", #[⟨4, .data⟩, ⟨17, .data⟩], none⟩) rfl (fun K hK => ?_) AllReadyH.nil
      (refine step_append_row kLay _ (by rfl) (.tmp 54) (.tmp 67) (by rfl) lo (.slice A1 n1 c1) (withIx (fun j => (vs (.me m j), vs (.wi m j))) z.lays) (by rfl) (by first | exact (HO.out.alloc _).drewN 1 | exact (HO.out.drewN 1).alloc _) w3.heap.size (⟨Rs.tx l 0, q, Rs.nm l 2, Rs.nm l 3, un, Rs.nm l 4, [], [], 0, 0⟩, (noSV, noSV)) (by rfl) (one_new (by first | exact BlkAt.drewN (blk_now rfl) 1 | exact blk_now rfl) (lay_vals ⟨Rs.tx l 0, q, Rs.nm l 2, Rs.nm l 3, un, Rs.nm l 4, [], [], 0, 0⟩ rfl rfl)) (by have := HZ.out; omega) (by simp; omega) ?_; intro g cap w' hO' hg hgo hlt'; have hq : w3.grownBy w' (Value.slice A1 n1 c1).ownBlock := grown_trans (by first | exact grown_drew (grown_alloc (grown_refl _ _) _) | exact grown_alloc (grown_drew (grown_refl _ _)) _) hg; have y1 := HC.out _ hq; have y2 := HCF.out _ hq)
      refine hK.out _ _ (HS.out _ hq) (fun hH2 => ?_)
      clear hK K hH
      have hH := hH2
      clear hH2
      try simp only [Act.put, List.setIfInBounds_toArray, List.set_cons_zero, List.set_cons_succ]
      refine wpAnyH_take (i := 19) (oi := ⟨some 69, .nilCheck (.tmp 50), 0, "build.go:149", #[⟨0, .data⟩, ⟨0, .phase⟩, ⟨1, .phase⟩, ⟨2, .phase⟩, ⟨3, .phase⟩, ⟨4, .phase⟩, ⟨5, .phase⟩, ⟨6, .phase⟩, ⟨7, .phase⟩, ⟨8, .phase⟩, ⟨9, .phase⟩, ⟨10, .phase⟩, ⟨11, .phase⟩, ⟨12, .phase⟩, ⟨13, .phase⟩, ⟨14, .phase⟩, ⟨15, .phase⟩, ⟨16, .phase⟩, ⟨17, .phase⟩, ⟨18, .phase⟩], none⟩) (v := ?_) rfl (by kernel_rfl) (by kernel_rfl) (by kernel_rfl) (fun _ _ _ h => h) (Or.inl ⟨by rfl, ?_⟩) hH ?_
      rotate_left
      focus (intro w hSw; (try dsimp only at hSw); go_simp; (try with_reducible rfl); done)
      try simp only [Act.put, List.setIfInBounds_toArray, List.set_cons_zero, List.set_cons_succ]
      refine wpAnyH_take (i := 20) (oi := ⟨some 70, .fieldAddr 44 (.tmp 69) 1, 0, "build.go:149", #[⟨19, .data⟩, ⟨0, .phase⟩, ⟨1, .phase⟩, ⟨2, .phase⟩, ⟨3, .phase⟩, ⟨4, .phase⟩, ⟨5, .phase⟩, ⟨6, .phase⟩, ⟨7, .phase⟩, ⟨8, .phase⟩, ⟨9, .phase⟩, ⟨10, .phase⟩, ⟨11, .phase⟩, ⟨12, .phase⟩, ⟨13, .phase⟩, ⟨14, .phase⟩, ⟨15, .phase⟩, ⟨16, .phase⟩, ⟨17, .phase⟩, ⟨18, .phase⟩], none⟩) (v := ?_) rfl (by kernel_rfl) (by kernel_rfl) (by kernel_rfl) (fun _ _ _ h => h) (Or.inl ⟨by rfl, ?_⟩) hH ?_
      rotate_left
      focus (intro w hSw; (try dsimp only at hSw); go_simp; (try with_reducible rfl); done)
      try simp only [Act.put, List.setIfInBounds_toArray, List.set_cons_zero, List.set_cons_succ]
      refine wpAnyH_ready (rs := [21]) (by kernel_rfl) (by simp) ?_
      refine AllReadyH.cons (o := ⟨none, .store 41 (.tmp 70) (.tmp 68), 0, "build.go:149", #[⟨20, .data⟩, ⟨18, .data⟩, ⟨18, .chain⟩, ⟨0, .phase⟩, ⟨1, .phase⟩, ⟨2, .phase⟩, ⟨3, .phase⟩, ⟨4, .phase⟩, ⟨5, .phase⟩, ⟨6, .phase⟩, ⟨7, .phase⟩, ⟨8, .phase⟩, ⟨9, .phase⟩, ⟨10, .phase⟩, ⟨11, .phase⟩, ⟨12, .phase⟩, ⟨13, .phase⟩, ⟨14, .phase⟩, ⟨15, .phase⟩, ⟨16, .phase⟩, ⟨17, .phase⟩, ⟨18, .phase⟩], none⟩) rfl (fun K hK => ?_) AllReadyH.nil
      go_simp
      refine hK.out _ _ (HZ2.out _ _ hq) (fun hH2 => ?_)
      clear hK K hH
      have hH := hH2
      clear hH2
      try simp only [Act.put, List.setIfInBounds_toArray, List.set_cons_zero, List.set_cons_succ]
      refine wpAnyH_done (by kernel_rfl) ?_ _
      rw [HZ.out.1]
      go_wp2_with fail
      go_ret
      rw [← HLY.out]
      exact (HF.out _ _ _ _ (by first | exact bdrewN ((Below.refl _ _).alloc (Nat.le_refl _) _) 1 | exact (bdrewN (Below.refl _ _) 1).alloc (Nat.le_refl _) _) hO' hg hgo).step HB3.out
end Go.Proofs.YtphenbfhojdcpaaGreatDoor
