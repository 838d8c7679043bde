/- Package resolve: what addEdit hands back. Printed by gen_sg.py. -/
import Derived.Test.YtphenbfhojdcpaaGreatDoorKsG21
import Derived.LoopN
import Derived.Deep.RegionHeld3
namespace Go.Proofs.YtphenbfhojdcpaaGreatDoor
open Go.RowKit
set_option linter.unusedVariables false
set_option linter.unusedSimpArgs false
set_option maxRecDepth 100000
theorem edi_vals (x : Rs.Edit) : ∀ j, j < 5 → (#[Value.int .i64 x.kind, .int .i64 x.a, .int .i64 x.b, .int .i64 x.fr, .int .i64 x.to] : Array Value)[j]? = some (eEdit x j) := fun j hj => by
  rcases j with _ | _ | _ | _ | _ | _ <;> first | rfl | omega
theorem arr_cells {W : World} {g : Nat} {a b : Int} {T : TypeId} (h : BlkAt W g #[.int .i64 a, .int .i64 b] T) : W.cell? ⟨g, 0, none⟩ = some (.int .i64 a) ∧ W.cell? ⟨g, 1, none⟩ = some (.int .i64 b) ∧ W.frozen? ⟨g, 0, none⟩ = false ∧ W.frozen? ⟨g, 1, none⟩ = false := ⟨h.cell rfl, h.cell rfl, h.free 0, h.free 1⟩
set_option maxHeartbeats 16000000 in
theorem edit_A {C : Rs.Cfg} {N : Nat} {l : List Lx.Tk} (A : Option Addr) (c bc lo : Nat) (vs : Key → SV) (w : World) (h : OwnC w bc lo vs C) (hG : GoodC N C) (hN : N ≤ 890000) (hT : TokIn w bc A l) (hn : l.length = 3) (hcn : 3 ≤ c) (gk : Nat) (hgk : w.cell? ⟨gk, 0, none⟩ = some (.int .i64 0)) (hg1 : gk < lo) {m : Nat} {z : Rs.Sch} (hz : C.scheds[m]? = some z) (hm1 : m + 1 = C.scheds.length) (q0 : Int) (hp0 : Rs.findS C.pn (Rs.tx l 0) = (q0, true)) :
    Calls Tryz.prog 137 #[.pointer (some ⟨bc, 0, none⟩), .slice A 3 c, .pointer (some ⟨gk, 0, none⟩)] w (StepV bc lo w (0, { C with scheds := C.scheds.set m { z with edits := z.edits ++ [⟨0, q0, 0, Rs.nm l 1, Rs.nm l 2⟩] } })) := by
  obtain ⟨b, off, _k0, rfl, hb, tk0, t0, tm0, -⟩ := hT.get (i := 0) (by omega)
  obtain ⟨b_, off_, _k1, ea, -, -, -, t1, -⟩ := hT.get (i := 1) (by omega)
  cases ea
  obtain ⟨b_, off_, _k2, ea, -, -, -, t2, -⟩ := hT.get (i := 2) (by omega)
  cases ea
  have hlt := h.lt
  have hle := h.le
  have i1 : (1 : Int) ≤ c := by omega
  have i2 : (2 : Int) ≤ c := by omega
  have i3 : (3 : Int) ≤ c := by omega
  obtain ⟨gz, cap0, ez, hcap, hlo, hsz, hcl⟩ := h.lastS hz
  have hap0 := h.apart (κ := .sc) (κ' := .ed m) (fun e => by cases e) (g := gz) (by rw [ez]; rfl)
  have k1 := h.slices.2.2.2
  rw [ez] at k1
  simp only at k1
  have hlen6 : C.scheds.length ≤ 1000000 := by have := hG.sl; omega
  have LP := Lib.hid (last_s gz C.scheds.length m cap0 hm1.symm hlen6)
  generalize hpl : C.scheds.length = np at LP k1
  have hq1 := (hG.ss z (List.mem_of_getElem? hz)).2.1
  have hpn := h.pnest (by have := hG.pl; omega) (fun p hp => by have := hG.ps p hp; omega)
  have HPN := Lib.hid hpn
  have hsl := h.slices
  obtain ⟨vz, hvz⟩ : ∃ v, vs .zn = v := ⟨_, rfl⟩
  obtain ⟨vp, hvp⟩ : ∃ v, vs .pe = v := ⟨_, rfl⟩
  obtain ⟨vc, hvc⟩ : ∃ v, vs .ca = v := ⟨_, rfl⟩
  rw [hvz, hvp, hvc, ez] at hsl
  rw [hvp] at HPN
  obtain ⟨P1, p1, r1⟩ := vz
  obtain ⟨P2, p2, r2⟩ := vp
  obtain ⟨P3, p3, r3⟩ := vc
  rw [hpl] at hsl
  simp only at hsl
  have HSL : Hid (∀ W, Below w.heap.size w W → W.cell? ⟨bc, 0, none⟩ = some (.slice P1 p1 r1) ∧ W.cell? ⟨bc, 1, none⟩ = some (.slice P2 p2 r2) ∧ W.cell? ⟨bc, 2, none⟩ = some (.slice P3 p3 r3) ∧ W.cell? ⟨bc, 3, none⟩ = some (.slice (some ⟨gz, 0, none⟩) np cap0)) := Lib.hid fun W hW => ⟨cell_lift hsl.1 hW, cell_lift hsl.2.1 hW, cell_lift hsl.2.2.1 hW, cell_lift hsl.2.2.2 hW⟩
  have HCL := Lib.hid (hcl 2 (by omega))
  have HGK := Lib.hid hgk
  clear hcl hpl hm1 hcap hlen6 hpn hsl hvz hvp hvc hgk
  have HT0 := Lib.hid (And.intro tk0 (And.intro t0 tm0))
  clear tk0 t0 tm0
  have HT1 := Lib.hid t1
  clear t1
  have HT2 := Lib.hid t2
  clear t2
  have CF0 := Lib.hid (fun (W : World) (hW : Below w.heap.size w W) => Person_is (l := C.people) hp0 P1 P2 P3 (some ⟨gz, 0, none⟩) p1 r1 p2 r2 p3 r3 np cap0 W (p_nest HPN.out hW))
  clear hp0
  obtain ⟨x0, hxx0⟩ : ∃ x, Rs.tx l 0 = x := ⟨_, rfl⟩
  rw [hxx0] at HT0 CF0
  clear hxx0
  go_enter Tryz.func137, Tryz.ntmps137
  go_wp2_with fail
  refine (LP.out _).mono ?_
  rintro e w9 ⟨rfl, rfl⟩
  go_wp2_with fail
  go_quiet (fail)
  go_wp2_with fail
  have BA : Below w.heap.size w ((w.drewN nq).alloc (.cells #[.int .i64 0, .int .i64 0] 189)) := (bdrewN (Below.refl _ _) nq).alloc (Nat.le_refl _) _
  have NA : BlkAt ((w.drewN nq).alloc (.cells #[.int .i64 0, .int .i64 0] 189)) w.heap.size #[.int .i64 0, .int .i64 0] 189 := blk_now rfl
  have BA0 := Lib.hid BA
  have NA0 := Lib.hid NA
  refine wp_loop_rounds 2 ?_
  generalize (w.drewN nq).alloc (.cells #[.int .i64 0, .int .i64 0] 189) = W0 at BA NA BA0 NA0 ⊢
  have u0a : W0.cell? ⟨b, off, none⟩ = some (.int .i64 _k0) := cell_lift (by simpa using HT0.out.1) BA
  have u0b : W0.cell? ⟨b, off + 1, none⟩ = some (.string ⟨x0.toArray⟩) := cell_lift (by simpa using HT0.out.2.1) BA
  have u0c : W0.cell? ⟨b, off + 2, none⟩ = some (.int .i64 (Rs.nm l 0)) := cell_lift (by simpa using HT0.out.2.2) BA
  have BY := bstep BA ((Below.refl _ _).alloc (Nat.le_refl _) (.cells #[.int .i64 _k0, .string ⟨x0.toArray⟩, .int .i64 (Rs.nm l 0)] 115))
  have NY := BlkAt.alloc NA (.cells #[.int .i64 _k0, .string ⟨x0.toArray⟩, .int .i64 (Rs.nm l 0)] 115)
  have TY := BlkAt.new W0 #[.int .i64 _k0, .string ⟨x0.toArray⟩, .int .i64 (Rs.nm l 0)] 115
  rw [rounds_succ]
  go_wp2_with fail
  generalize W0.alloc (.cells #[.int .i64 _k0, .string ⟨x0.toArray⟩, .int .i64 (Rs.nm l 0)] 115) = Y0 at BY NY TY ⊢
  have tc1 : Y0.cell? ⟨W0.heap.size, 1, none⟩ = some (.string ⟨x0.toArray⟩) := TY.cell rfl
  have HS0 : Hid (∀ W, Below Y0.heap.size Y0 W → W.cell? ⟨bc, 0, none⟩ = some (.slice P1 p1 r1) ∧ W.cell? ⟨bc, 1, none⟩ = some (.slice P2 p2 r2) ∧ W.cell? ⟨bc, 2, none⟩ = some (.slice P3 p3 r3) ∧ W.cell? ⟨bc, 3, none⟩ = some (.slice (some ⟨gz, 0, none⟩) np cap0) ∧ W.cell? ⟨W0.heap.size, 1, none⟩ = some (.string ⟨x0.toArray⟩)) := Lib.hid fun W hW => ⟨(HSL.out W (bstep BY hW)).1, (HSL.out W (bstep BY hW)).2.1, (HSL.out W (bstep BY hW)).2.2.1, (HSL.out W (bstep BY hW)).2.2.2, cell_lift tc1 hW⟩
  have CG := Lib.hid (fun (W : World) (hW : Below Y0.heap.size Y0 W) => CF0.out W (bstep BY hW))
  clear tc1 u0a u0b u0c
  go_region_held3 (fun W => W.cell? ⟨bc, 0, none⟩ = some (.slice P1 p1 r1) ∧ W.cell? ⟨bc, 1, none⟩ = some (.slice P2 p2 r2) ∧ W.cell? ⟨bc, 2, none⟩ = some (.slice P3 p3 r3) ∧ W.cell? ⟨bc, 3, none⟩ = some (.slice (some ⟨gz, 0, none⟩) np cap0) ∧ W.cell? ⟨W0.heap.size, 1, none⟩ = some (.string ⟨x0.toArray⟩))
    (first | exact HS0.out _ (bdrewN (Below.refl _ _) 1) | exact HS0.out _ hw3)
    (first | (go_at_call 16; ((with_reducible refine (CG.out _ (Below.refl _ _).drew).mono ?_); rintro e Z0 ⟨rfl, hb3⟩; have hw3 : Below Y0.heap.size Y0 Z0 := ((Below.refl Y0.heap.size Y0).drew).trans hb3)))
  have BZ := bstep BY hw3
  have NZ := NY.after hw3
  have TZ := TY.after hw3
  have g1 : Z0.cell? ⟨gk, 0, none⟩ = some (.int .i64 0) := cell_lift HGK.out BZ
  have tz1 : Z0.cell? ⟨W0.heap.size, 1, none⟩ = some (.string ⟨x0.toArray⟩) := TZ.cell rfl
  obtain ⟨a0, a1, af0, af1⟩ := arr_cells NZ
  have HBZ := Lib.hid BZ
  have HNZ := Lib.hid NZ
  clear hb3 HS0 CG BA NA BA0 NA0 BY NY TY TZ BZ NZ hw3
  go_wp2_with fail
  have BA : Below w.heap.size w (Z0.setCell ⟨w.heap.size, 0, none⟩ (.int .i64 (q0))) := HBZ.out.setCell (p := ⟨w.heap.size, 0, none⟩) (Nat.le_refl _) _
  have NA : BlkAt (Z0.setCell ⟨w.heap.size, 0, none⟩ (.int .i64 (q0))) w.heap.size #[.int .i64 (q0), .int .i64 (0)] 189 := HNZ.out.set_ 0 _
  have BA0 := Lib.hid BA
  have NA0 := Lib.hid NA
  generalize Z0.setCell ⟨w.heap.size, 0, none⟩ (.int .i64 (q0)) = W1 at BA NA BA0 NA0 ⊢
  clear a0 a1 af0 af1 g1 tz1 HBZ HNZ
  have h3 := h.below BA
  have HB3 := Lib.hid (But.of_below (bc := bc) BA hle)
  have hle3 := h3.le
  have hlt3 := h3.lt
  have hs3 := BA.size
  have u1 : W1.cell? ⟨b, off + 3 + 2, none⟩ = some (.int .i64 (Rs.nm l 1)) := cell_lift HT1.out BA
  have u2 : W1.cell? ⟨b, off + 3 + 3 + 2, none⟩ = some (.int .i64 (Rs.nm l 2)) := cell_lift HT2.out BA
  have g1 : W1.cell? ⟨gk, 0, none⟩ = some (.int .i64 0) := cell_lift HGK.out BA
  have hcl2 : W1.cell? ⟨gz, m * 3 + 2, none⟩ = some (eSch (z, (vs (.la m), vs (.ed m))) 2) := cell_lift HCL.out.1 BA
  have hfr2 : W1.frozen? ⟨gz, m * 3 + 2, none⟩ = false := (BA.frozen (p := ⟨gz, m * 3 + 2, none⟩) hsz).trans HCL.out.2
  simp only [eSch] at hcl2
  clear BA0 NA0 LP k1
  rw [rounds_succ]
  go_wp2_with fail
  obtain ⟨hO1, hlen1⟩ := own_list (h3.rEd hz) (by omega)
  have s0 := hcl2
  have hfr := hfr2
  have hrow : ∀ g, (sv (vs (.ed m))).ownBlock = some g → lo ≤ g ∧ g < w.heap.size := fun g hg => h.far hg
  have hap := hap0
  obtain ⟨v1, hv1⟩ : ∃ v, vs (.ed m) = v := ⟨_, rfl⟩
  rw [hv1] at hO1 hlen1 hrow hap
  try rw [hv1] at s0
  obtain ⟨A1, n1, c1⟩ := v1
  simp only [sv] at s0 hO1 hrow hlen1 hap
  have HZ : Hid ((z.edits).length = n1 ∧ n1 ≤ 900000) := Lib.hid ⟨hlen1, by omega⟩
  have HO := Lib.hid hO1
  have hσ : some gz ≠ (Value.slice A1 n1 c1).ownBlock := fun e => hap e.symm
  have r0 : some gk ≠ (Value.slice A1 n1 c1).ownBlock := fun e => by have := hrow _ e.symm; omega
  have hz0 : gk ≠ gz := by omega
  have m0 : W1.cell? ⟨gk, 0, none⟩ = some (.int .i64 0) := g1
  have r1 : some w.heap.size ≠ (Value.slice A1 n1 c1).ownBlock := fun e => by have := hrow _ e.symm; omega
  have hz1 : w.heap.size ≠ gz := by omega
  have m1 : W1.cell? ⟨w.heap.size, 0, none⟩ = some (.int .i64 (q0)) := NA.cell rfl
  have r2 : some w.heap.size ≠ (Value.slice A1 n1 c1).ownBlock := fun e => by have := hrow _ e.symm; omega
  have hz2 : w.heap.size ≠ gz := by omega
  have m2 : W1.cell? ⟨w.heap.size, 1, none⟩ = some (.int .i64 (0)) := NA.cell rfl
  have r3 : some b ≠ (Value.slice A1 n1 c1).ownBlock := fun e => by have := hrow _ e.symm; omega
  have hz3 : b ≠ gz := by omega
  have m3 : W1.cell? ⟨b, off + 3 + 2, none⟩ = some (.int .i64 (Rs.nm l 1)) := u1
  have r4 : some b ≠ (Value.slice A1 n1 c1).ownBlock := fun e => by have := hrow _ e.symm; omega
  have hz4 : b ≠ gz := by omega
  have m4 : W1.cell? ⟨b, off + 3 + 3 + 2, none⟩ = some (.int .i64 (Rs.nm l 2)) := u2
  have HS : Hid (∀ W, W1.grownBy W (Value.slice A1 n1 c1).ownBlock → W.cell? ⟨gk, 0, none⟩ = some (.int .i64 0) ∧ W.cell? ⟨w.heap.size, 0, none⟩ = some (.int .i64 (q0)) ∧ W.cell? ⟨w.heap.size, 1, none⟩ = some (.int .i64 (0)) ∧ W.cell? ⟨b, off + 3 + 2, none⟩ = some (.int .i64 (Rs.nm l 1)) ∧ W.cell? ⟨b, off + 3 + 3 + 2, none⟩ = some (.int .i64 (Rs.nm l 2))) := Lib.hid fun W hW => ⟨lim r0 m0 W hW, lim r1 m1 W hW, lim r2 m2 W hW, lim r3 m3 W hW, lim r4 m4 W hW⟩
  have HZ2 : Hid (∀ W v, W1.grownBy W (Value.slice A1 n1 c1).ownBlock → (W.setCell ⟨gz, m * 3 + 2, none⟩ v).cell? ⟨gk, 0, none⟩ = some (.int .i64 0) ∧ (W.setCell ⟨gz, m * 3 + 2, none⟩ v).cell? ⟨w.heap.size, 0, none⟩ = some (.int .i64 (q0)) ∧ (W.setCell ⟨gz, m * 3 + 2, none⟩ v).cell? ⟨w.heap.size, 1, none⟩ = some (.int .i64 (0)) ∧ (W.setCell ⟨gz, m * 3 + 2, none⟩ v).cell? ⟨b, off + 3 + 2, none⟩ = some (.int .i64 (Rs.nm l 1)) ∧ (W.setCell ⟨gz, m * 3 + 2, none⟩ v).cell? ⟨b, off + 3 + 3 + 2, none⟩ = some (.int .i64 (Rs.nm l 2))) := Lib.hid fun W v hW => ⟨limZ r0 hz0 m0 W v hW, limZ r1 hz1 m1 W v hW, limZ r2 hz2 m2 W v hW, limZ r3 hz3 m3 W v hW, limZ r4 hz4 m4 W v hW⟩
  have HC : Hid (∀ W, W1.grownBy W (Value.slice A1 n1 c1).ownBlock → W.cell? ⟨gz, m * 3 + 2, none⟩ = some (.slice A1 n1 c1)) := Lib.hid (lim hσ s0)
  have HCF : Hid (∀ W, W1.grownBy W (Value.slice A1 n1 c1).ownBlock → W.frozen? ⟨gz, m * 3 + 2, none⟩ = false) := Lib.hid (limF hσ (by omega) hfr)
  have HF := Lib.hid (fun (W W1 : World) (g cap : Nat) => fin_edit (W := W) (W1 := W1) (g := g) (cap := cap) (r := ⟨0, q0, 0, Rs.nm l 1, Rs.nm l 2⟩) h3 hz rfl hv1 hlen1 (by rw [ez]))
  clear hO1 hrow hlen1 s0 hfr hσ r0 hz0 m0 r1 hz1 m1 r2 hz2 m2 r3 hz3 m3 r4 hz4 m4
  go_wp2_with fail
  refine wp_region_held_drew (S := fun W => W.cell? ⟨gk, 0, none⟩ = some (.int .i64 0) ∧ W.cell? ⟨w.heap.size, 0, none⟩ = some (.int .i64 (q0)) ∧ W.cell? ⟨w.heap.size, 1, none⟩ = some (.int .i64 (0)) ∧ W.cell? ⟨b, off + 3 + 2, none⟩ = some (.int .i64 (Rs.nm l 1)) ∧ W.cell? ⟨b, off + 3 + 3 + 2, none⟩ = some (.int .i64 (Rs.nm l 2))) (by kernel_rfl) (HS.out _ (grown_drew (grown_refl _ _))) (fun hH => ?_)
  refine wpAnyH_take (i := 0) (oi := ⟨some 60, .move (.tmp 6), 185, "build.go:216", #[], none⟩) (v := ?_) rfl (by kernel_rfl) (by kernel_rfl) (by kernel_rfl) (fun _ _ _ h => h) (Or.inl ⟨by rfl, ?_⟩) hH ?_
  rotate_left
  focus (intro w hSw; (try dsimp only at hSw); go_simp; (try with_reducible rfl); done)
  try simp only [Act.put, List.setIfInBounds_toArray, List.set_cons_zero, List.set_cons_succ]
  refine wpAnyH_take (i := 1) (oi := ⟨some 61, .move (.tmp 6), 185, "build.go:216", #[], none⟩) (v := ?_) rfl (by kernel_rfl) (by kernel_rfl) (by kernel_rfl) (fun _ _ _ h => h) (Or.inl ⟨by rfl, ?_⟩) hH ?_
  rotate_left
  focus (intro w hSw; (try dsimp only at hSw); go_simp; (try with_reducible rfl); done)
  try simp only [Act.put, List.setIfInBounds_toArray, List.set_cons_zero, List.set_cons_succ]
  refine wpAnyH_take (i := 2) (oi := ⟨some 62, .nilCheck (.tmp 61), 0, "build.go:216", #[⟨1, .data⟩], none⟩) (v := ?_) rfl (by kernel_rfl) (by kernel_rfl) (by kernel_rfl) (fun _ _ _ h => h) (Or.inl ⟨by rfl, ?_⟩) hH ?_
  rotate_left
  focus (intro w hSw; (try dsimp only at hSw); go_simp; (try with_reducible rfl); done)
  try simp only [Act.put, List.setIfInBounds_toArray, List.set_cons_zero, List.set_cons_succ]
  refine wpAnyH_take (i := 3) (oi := ⟨some 63, .fieldAddr 44 (.tmp 62) 2, 0, "build.go:216", #[⟨2, .data⟩], none⟩) (v := ?_) rfl (by kernel_rfl) (by kernel_rfl) (by kernel_rfl) (fun _ _ _ h => h) (Or.inl ⟨by rfl, ?_⟩) hH ?_
  rotate_left
  focus (intro w hSw; (try dsimp only at hSw); go_simp; (try with_reducible rfl); done)
  try simp only [Act.put, List.setIfInBounds_toArray, List.set_cons_zero, List.set_cons_succ]
  refine wpAnyH_take (i := 5) (oi := ⟨some 65, .load 3 (.tmp 2), 3, "build.go:216", #[], none⟩) (v := ?_) rfl (by kernel_rfl) (by kernel_rfl) (by kernel_rfl) (fun _ _ _ h => h) (Or.inl ⟨by rfl, ?_⟩) hH ?_
  rotate_left
  focus (intro w hSw; (try dsimp only at hSw); go_simp; (try with_reducible rfl); done)
  try simp only [Act.put, List.setIfInBounds_toArray, List.set_cons_zero, List.set_cons_succ]
  refine wpAnyH_take (i := 6) (oi := ⟨some 66, .indexAddr 189 (.tmp 9) (.const (.int .i64 0)), 0, "build.go:216", #[], none⟩) (v := ?_) rfl (by kernel_rfl) (by kernel_rfl) (by kernel_rfl) (fun _ _ _ h => h) (Or.inl ⟨by rfl, ?_⟩) hH ?_
  rotate_left
  focus (intro w hSw; (try dsimp only at hSw); go_simp; (try with_reducible rfl); done)
  try simp only [Act.put, List.setIfInBounds_toArray, List.set_cons_zero, List.set_cons_succ]
  refine wpAnyH_take (i := 7) (oi := ⟨some 67, .load 3 (.tmp 66), 3, "build.go:216", #[⟨6, .data⟩], none⟩) (v := ?_) rfl (by kernel_rfl) (by kernel_rfl) (by kernel_rfl) (fun _ _ _ h => h) (Or.inl ⟨by rfl, ?_⟩) hH ?_
  rotate_left
  focus (intro w hSw; (try dsimp only at hSw); go_simp; (try with_reducible rfl); done)
  try simp only [Act.put, List.setIfInBounds_toArray, List.set_cons_zero, List.set_cons_succ]
  refine wpAnyH_take (i := 8) (oi := ⟨some 68, .indexAddr 189 (.tmp 9) (.const (.int .i64 1)), 0, "build.go:216", #[], none⟩) (v := ?_) rfl (by kernel_rfl) (by kernel_rfl) (by kernel_rfl) (fun _ _ _ h => h) (Or.inl ⟨by rfl, ?_⟩) hH ?_
  rotate_left
  focus (intro w hSw; (try dsimp only at hSw); go_simp; (try with_reducible rfl); done)
  try simp only [Act.put, List.setIfInBounds_toArray, List.set_cons_zero, List.set_cons_succ]
  refine wpAnyH_take (i := 9) (oi := ⟨some 69, .load 3 (.tmp 68), 3, "build.go:216", #[⟨8, .data⟩], none⟩) (v := ?_) rfl (by kernel_rfl) (by kernel_rfl) (by kernel_rfl) (fun _ _ _ h => h) (Or.inl ⟨by rfl, ?_⟩) hH ?_
  rotate_left
  focus (intro w hSw; (try dsimp only at hSw); go_simp; (try with_reducible rfl); done)
  try simp only [Act.put, List.setIfInBounds_toArray, List.set_cons_zero, List.set_cons_succ]
  refine wpAnyH_take (i := 10) (oi := ⟨some 70, .move (.tmp 8), 104, "build.go:216", #[], none⟩) (v := ?_) rfl (by kernel_rfl) (by kernel_rfl) (by kernel_rfl) (fun _ _ _ h => h) (Or.inl ⟨by rfl, ?_⟩) hH ?_
  rotate_left
  focus (intro w hSw; (try dsimp only at hSw); go_simp; (try with_reducible rfl); done)
  try simp only [Act.put, List.setIfInBounds_toArray, List.set_cons_zero, List.set_cons_succ]
  refine wpAnyH_take (i := 11) (oi := ⟨some 71, .indexAddr 104 (.tmp 70) (.const (.int .i64 0)), 0, "build.go:216", #[⟨10, .data⟩], none⟩) (v := ?_) rfl (by kernel_rfl) (by kernel_rfl) (by kernel_rfl) (fun _ _ _ h => h) (Or.inl ⟨by rfl, ?_⟩) hH ?_
  rotate_left
  focus (intro w hSw; (try dsimp only at hSw); go_simp; (try with_reducible rfl); done)
  try simp only [Act.put, List.setIfInBounds_toArray, List.set_cons_zero, List.set_cons_succ]
  refine wpAnyH_take (i := 12) (oi := ⟨some 72, .fieldAddr 115 (.tmp 71) 2, 0, "build.go:216", #[⟨11, .data⟩], none⟩) (v := ?_) rfl (by kernel_rfl) (by kernel_rfl) (by kernel_rfl) (fun _ _ _ h => h) (Or.inl ⟨by rfl, ?_⟩) hH ?_
  rotate_left
  focus (intro w hSw; (try dsimp only at hSw); go_simp; (try with_reducible rfl); done)
  try simp only [Act.put, List.setIfInBounds_toArray, List.set_cons_zero, List.set_cons_succ]
  refine wpAnyH_take (i := 13) (oi := ⟨some 73, .load 3 (.tmp 72), 3, "build.go:216", #[⟨12, .data⟩], none⟩) (v := ?_) rfl (by kernel_rfl) (by kernel_rfl) (by kernel_rfl) (fun _ _ _ h => h) (Or.inl ⟨by rfl, ?_⟩) hH ?_
  rotate_left
  focus (intro w hSw; (try dsimp only at hSw); go_simp; (try with_reducible rfl); done)
  try simp only [Act.put, List.setIfInBounds_toArray, List.set_cons_zero, List.set_cons_succ]
  refine wpAnyH_take (i := 14) (oi := ⟨some 74, .move (.tmp 8), 104, "build.go:216", #[], none⟩) (v := ?_) rfl (by kernel_rfl) (by kernel_rfl) (by kernel_rfl) (fun _ _ _ h => h) (Or.inl ⟨by rfl, ?_⟩) hH ?_
  rotate_left
  focus (intro w hSw; (try dsimp only at hSw); go_simp; (try with_reducible rfl); done)
  try simp only [Act.put, List.setIfInBounds_toArray, List.set_cons_zero, List.set_cons_succ]
  refine wpAnyH_take (i := 15) (oi := ⟨some 75, .indexAddr 104 (.tmp 74) (.const (.int .i64 1)), 0, "build.go:216", #[⟨14, .data⟩], none⟩) (v := ?_) rfl (by kernel_rfl) (by kernel_rfl) (by kernel_rfl) (fun _ _ _ h => h) (Or.inl ⟨by rfl, ?_⟩) hH ?_
  rotate_left
  focus (intro w hSw; (try dsimp only at hSw); go_simp; (try with_reducible rfl); done)
  try simp only [Act.put, List.setIfInBounds_toArray, List.set_cons_zero, List.set_cons_succ]
  refine wpAnyH_take (i := 16) (oi := ⟨some 76, .fieldAddr 115 (.tmp 75) 2, 0, "build.go:216", #[⟨15, .data⟩], none⟩) (v := ?_) rfl (by kernel_rfl) (by kernel_rfl) (by kernel_rfl) (fun _ _ _ h => h) (Or.inl ⟨by rfl, ?_⟩) hH ?_
  rotate_left
  focus (intro w hSw; (try dsimp only at hSw); go_simp; (try with_reducible rfl); done)
  try simp only [Act.put, List.setIfInBounds_toArray, List.set_cons_zero, List.set_cons_succ]
  refine wpAnyH_take (i := 17) (oi := ⟨some 77, .load 3 (.tmp 76), 3, "build.go:216", #[⟨16, .data⟩], none⟩) (v := ?_) rfl (by kernel_rfl) (by kernel_rfl) (by kernel_rfl) (fun _ _ _ h => h) (Or.inl ⟨by rfl, ?_⟩) hH ?_
  rotate_left
  focus (intro w hSw; (try dsimp only at hSw); go_simp; (try with_reducible rfl); done)
  try simp only [Act.put, List.setIfInBounds_toArray, List.set_cons_zero, List.set_cons_succ]
  refine wpAnyH_take (i := 18) (oi := ⟨some 78, .build 46 #[(0, .tmp 65), (1, .tmp 67), (2, .tmp 69), (3, .tmp 73), (4, .tmp 77)], 46, "build.go:216", #[⟨5, .data⟩, ⟨7, .data⟩, ⟨9, .data⟩, ⟨13, .data⟩, ⟨17, .data⟩], none⟩) (v := ?_) rfl (by kernel_rfl) (by kernel_rfl) (by kernel_rfl) (fun _ _ _ h => h) (Or.inl ⟨by rfl, ?_⟩) hH ?_
  rotate_left
  focus (intro w hSw; (try dsimp only at hSw); go_simp; (try with_reducible rfl); done)
  try simp only [Act.put, List.setIfInBounds_toArray, List.set_cons_zero, List.set_cons_succ]
  refine wpAnyH_ready (rs := [4, 19]) (by kernel_rfl) (by simp) ?_
  refine AllReadyH.cons (o := ⟨some 64, .load 42 (.tmp 63), 42, "build.go:216", #[⟨3, .data⟩], none⟩) rfl (fun K hK => ?_) (AllReadyH.cons (o := ⟨some 79, .buildSlice 42 1 #[(0, .tmp 78)], 42, "build.go:216", #[⟨18, .data⟩], none⟩) rfl (fun K hK => ?_) AllReadyH.nil)
  · have y0 := HC.out _ (grown_drew (grown_refl _ _))
    have y3 := fun o => HC.out _ (grown_drew (grown_alloc (grown_refl W1 _) o))
    have y4 := fun o => HC.out _ (grown_alloc (grown_drew (grown_refl W1 _)) o)
    go_simp
    clear y0 y3 y4
    refine hK.out _ _ (HS.out _ (by first | exact grown_drew (grown_refl _ _) | exact grown_drew (grown_alloc (grown_refl _ _) _) | exact grown_alloc (grown_drew (grown_refl _ _)) _)) (fun hH2 => ?_)
    clear hK K hH
    have hH := hH2
    clear hH2
    try simp only [Act.put, List.setIfInBounds_toArray, List.set_cons_zero, List.set_cons_succ]
    refine wpAnyH_ready (rs := [19]) (by kernel_rfl) (by simp) ?_
    refine AllReadyH.cons (o := ⟨some 79, .buildSlice 42 1 #[(0, .tmp 78)], 42, "build.go:216", #[⟨18, .data⟩], none⟩) rfl (fun K hK => ?_) AllReadyH.nil
    go_simp
    refine hK.out _ _ (HS.out _ (by first | exact grown_drew (grown_refl _ _) | exact grown_drew (grown_alloc (grown_refl _ _) _) | exact grown_alloc (grown_drew (grown_refl _ _)) _)) (fun hH2 => ?_)
    clear hK K hH
    have hH := hH2
    clear hH2
    try simp only [Act.put, List.setIfInBounds_toArray, List.set_cons_zero, List.set_cons_succ]
    refine wpAnyH_ready (rs := [20]) (by kernel_rfl) (by simp) ?_
    refine AllReadyH.cons (o := ⟨some 80, .call { callee := .builtin .append, args := #[.tmp 64, .tmp 79], argTypes := #[42, 42] }, 42, "build.go:216", #[⟨4, .data⟩, ⟨19, .data⟩], none⟩) rfl (fun K hK => ?_) AllReadyH.nil
    (refine step_append_row kEdi _ (by rfl) (.tmp 64) (.tmp 79) (by rfl) lo (.slice A1 n1 c1) (z.edits) (by rfl) (by first | exact (HO.out.alloc _).drewN 1 | exact (HO.out.drewN 1).alloc _) W1.heap.size (⟨0, q0, 0, Rs.nm l 1, Rs.nm l 2⟩ : Rs.Edit) (by rfl) (one_new (by first | exact BlkAt.drewN (blk_now rfl) 1 | exact blk_now rfl) (edi_vals ⟨0, q0, 0, Rs.nm l 1, Rs.nm l 2⟩)) (by have := HZ.out; omega) (by simp; omega) ?_; intro g cap w' hO' hg hgo hlt'; have hq : W1.grownBy w' (Value.slice A1 n1 c1).ownBlock := grown_trans (by first | exact grown_drew (grown_alloc (grown_refl _ _) _) | exact grown_alloc (grown_drew (grown_refl _ _)) _) hg; have y1 := HC.out _ hq; have y2 := HCF.out _ hq)
    refine hK.out _ _ (HS.out _ hq) (fun hH2 => ?_)
    clear hK K hH
    have hH := hH2
    clear hH2
    try simp only [Act.put, List.setIfInBounds_toArray, List.set_cons_zero, List.set_cons_succ]
    refine wpAnyH_take (i := 21) (oi := ⟨some 81, .nilCheck (.tmp 60), 0, "build.go:216", #[⟨0, .data⟩, ⟨0, .phase⟩, ⟨1, .phase⟩, ⟨2, .phase⟩, ⟨3, .phase⟩, ⟨4, .phase⟩, ⟨5, .phase⟩, ⟨6, .phase⟩, ⟨7, .phase⟩, ⟨8, .phase⟩, ⟨9, .phase⟩, ⟨10, .phase⟩, ⟨11, .phase⟩, ⟨12, .phase⟩, ⟨13, .phase⟩, ⟨14, .phase⟩, ⟨15, .phase⟩, ⟨16, .phase⟩, ⟨17, .phase⟩, ⟨18, .phase⟩, ⟨19, .phase⟩, ⟨20, .phase⟩], none⟩) (v := ?_) rfl (by kernel_rfl) (by kernel_rfl) (by kernel_rfl) (fun _ _ _ h => h) (Or.inl ⟨by rfl, ?_⟩) hH ?_
    rotate_left
    focus (intro w hSw; (try dsimp only at hSw); go_simp; (try with_reducible rfl); done)
    try simp only [Act.put, List.setIfInBounds_toArray, List.set_cons_zero, List.set_cons_succ]
    refine wpAnyH_take (i := 22) (oi := ⟨some 82, .fieldAddr 44 (.tmp 81) 2, 0, "build.go:216", #[⟨21, .data⟩, ⟨0, .phase⟩, ⟨1, .phase⟩, ⟨2, .phase⟩, ⟨3, .phase⟩, ⟨4, .phase⟩, ⟨5, .phase⟩, ⟨6, .phase⟩, ⟨7, .phase⟩, ⟨8, .phase⟩, ⟨9, .phase⟩, ⟨10, .phase⟩, ⟨11, .phase⟩, ⟨12, .phase⟩, ⟨13, .phase⟩, ⟨14, .phase⟩, ⟨15, .phase⟩, ⟨16, .phase⟩, ⟨17, .phase⟩, ⟨18, .phase⟩, ⟨19, .phase⟩, ⟨20, .phase⟩], none⟩) (v := ?_) rfl (by kernel_rfl) (by kernel_rfl) (by kernel_rfl) (fun _ _ _ h => h) (Or.inl ⟨by rfl, ?_⟩) hH ?_
    rotate_left
    focus (intro w hSw; (try dsimp only at hSw); go_simp; (try with_reducible rfl); done)
    try simp only [Act.put, List.setIfInBounds_toArray, List.set_cons_zero, List.set_cons_succ]
    refine wpAnyH_ready (rs := [23]) (by kernel_rfl) (by simp) ?_
    refine AllReadyH.cons (o := ⟨none, .store 42 (.tmp 82) (.tmp 80), 0, "build.go:216", #[⟨22, .data⟩, ⟨20, .data⟩, ⟨20, .chain⟩, ⟨0, .phase⟩, ⟨1, .phase⟩, ⟨2, .phase⟩, ⟨3, .phase⟩, ⟨4, .phase⟩, ⟨5, .phase⟩, ⟨6, .phase⟩, ⟨7, .phase⟩, ⟨8, .phase⟩, ⟨9, .phase⟩, ⟨10, .phase⟩, ⟨11, .phase⟩, ⟨12, .phase⟩, ⟨13, .phase⟩, ⟨14, .phase⟩, ⟨15, .phase⟩, ⟨16, .phase⟩, ⟨17, .phase⟩, ⟨18, .phase⟩, ⟨19, .phase⟩, ⟨20, .phase⟩], none⟩) rfl (fun K hK => ?_) AllReadyH.nil
    go_simp
    refine hK.out _ _ (HZ2.out _ _ hq) (fun hH2 => ?_)
    clear hK K hH
    have hH := hH2
    clear hH2
    try simp only [Act.put, List.setIfInBounds_toArray, List.set_cons_zero, List.set_cons_succ]
    refine wpAnyH_done (by kernel_rfl) ?_ _
    rw [HZ.out.1]
    go_wp2_with fail
    go_ret
    exact (HF.out _ _ _ _ (by first | exact bdrewN ((Below.refl _ _).alloc (Nat.le_refl _) _) 1 | exact (bdrewN (Below.refl _ _) 1).alloc (Nat.le_refl _) _) hO' hg hgo).step HB3.out
  · go_simp
    refine hK.out _ _ (HS.out _ (by first | exact grown_drew (grown_refl _ _) | exact grown_drew (grown_alloc (grown_refl _ _) _) | exact grown_alloc (grown_drew (grown_refl _ _)) _)) (fun hH2 => ?_)
    clear hK K hH
    have hH := hH2
    clear hH2
    try simp only [Act.put, List.setIfInBounds_toArray, List.set_cons_zero, List.set_cons_succ]
    refine wpAnyH_ready (rs := [4]) (by kernel_rfl) (by simp) ?_
    refine AllReadyH.cons (o := ⟨some 64, .load 42 (.tmp 63), 42, "build.go:216", #[⟨3, .data⟩], none⟩) rfl (fun K hK => ?_) AllReadyH.nil
    have y0 := HC.out _ (grown_drew (grown_refl _ _))
    have y3 := fun o => HC.out _ (grown_drew (grown_alloc (grown_refl W1 _) o))
    have y4 := fun o => HC.out _ (grown_alloc (grown_drew (grown_refl W1 _)) o)
    go_simp
    clear y0 y3 y4
    refine hK.out _ _ (HS.out _ (by first | exact grown_drew (grown_refl _ _) | exact grown_drew (grown_alloc (grown_refl _ _) _) | exact grown_alloc (grown_drew (grown_refl _ _)) _)) (fun hH2 => ?_)
    clear hK K hH
    have hH := hH2
    clear hH2
    try simp only [Act.put, List.setIfInBounds_toArray, List.set_cons_zero, List.set_cons_succ]
    refine wpAnyH_ready (rs := [20]) (by kernel_rfl) (by simp) ?_
    refine AllReadyH.cons (o := ⟨some 80, .call { callee := .builtin .append, args := #[.tmp 64, .tmp 79], argTypes := #[42, 42] }, 42, "build.go:216", #[⟨4, .data⟩, ⟨19, .data⟩], none⟩) rfl (fun K hK => ?_) AllReadyH.nil
    (refine step_append_row kEdi _ (by rfl) (.tmp 64) (.tmp 79) (by rfl) lo (.slice A1 n1 c1) (z.edits) (by rfl) (by first | exact (HO.out.alloc _).drewN 1 | exact (HO.out.drewN 1).alloc _) W1.heap.size (⟨0, q0, 0, Rs.nm l 1, Rs.nm l 2⟩ : Rs.Edit) (by rfl) (one_new (by first | exact BlkAt.drewN (blk_now rfl) 1 | exact blk_now rfl) (edi_vals ⟨0, q0, 0, Rs.nm l 1, Rs.nm l 2⟩)) (by have := HZ.out; omega) (by simp; omega) ?_; intro g cap w' hO' hg hgo hlt'; have hq : W1.grownBy w' (Value.slice A1 n1 c1).ownBlock := grown_trans (by first | exact grown_drew (grown_alloc (grown_refl _ _) _) | exact grown_alloc (grown_drew (grown_refl _ _)) _) hg; have y1 := HC.out _ hq; have y2 := HCF.out _ hq)
    refine hK.out _ _ (HS.out _ hq) (fun hH2 => ?_)
    clear hK K hH
    have hH := hH2
    clear hH2
    try simp only [Act.put, List.setIfInBounds_toArray, List.set_cons_zero, List.set_cons_succ]
    refine wpAnyH_take (i := 21) (oi := ⟨some 81, .nilCheck (.tmp 60), 0, "build.go:216", #[⟨0, .data⟩, ⟨0, .phase⟩, ⟨1, .phase⟩, ⟨2, .phase⟩, ⟨3, .phase⟩, ⟨4, .phase⟩, ⟨5, .phase⟩, ⟨6, .phase⟩, ⟨7, .phase⟩, ⟨8, .phase⟩, ⟨9, .phase⟩, ⟨10, .phase⟩, ⟨11, .phase⟩, ⟨12, .phase⟩, ⟨13, .phase⟩, ⟨14, .phase⟩, ⟨15, .phase⟩, ⟨16, .phase⟩, ⟨17, .phase⟩, ⟨18, .phase⟩, ⟨19, .phase⟩, ⟨20, .phase⟩], none⟩) (v := ?_) rfl (by kernel_rfl) (by kernel_rfl) (by kernel_rfl) (fun _ _ _ h => h) (Or.inl ⟨by rfl, ?_⟩) hH ?_
    rotate_left
    focus (intro w hSw; (try dsimp only at hSw); go_simp; (try with_reducible rfl); done)
    try simp only [Act.put, List.setIfInBounds_toArray, List.set_cons_zero, List.set_cons_succ]
    refine wpAnyH_take (i := 22) (oi := ⟨some 82, .fieldAddr 44 (.tmp 81) 2, 0, "build.go:216", #[⟨21, .data⟩, ⟨0, .phase⟩, ⟨1, .phase⟩, ⟨2, .phase⟩, ⟨3, .phase⟩, ⟨4, .phase⟩, ⟨5, .phase⟩, ⟨6, .phase⟩, ⟨7, .phase⟩, ⟨8, .phase⟩, ⟨9, .phase⟩, ⟨10, .phase⟩, ⟨11, .phase⟩, ⟨12, .phase⟩, ⟨13, .phase⟩, ⟨14, .phase⟩, ⟨15, .phase⟩, ⟨16, .phase⟩, ⟨17, .phase⟩, ⟨18, .phase⟩, ⟨19, .phase⟩, ⟨20, .phase⟩], none⟩) (v := ?_) rfl (by kernel_rfl) (by kernel_rfl) (by kernel_rfl) (fun _ _ _ h => h) (Or.inl ⟨by rfl, ?_⟩) hH ?_
    rotate_left
    focus (intro w hSw; (try dsimp only at hSw); go_simp; (try with_reducible rfl); done)
    try simp only [Act.put, List.setIfInBounds_toArray, List.set_cons_zero, List.set_cons_succ]
    refine wpAnyH_ready (rs := [23]) (by kernel_rfl) (by simp) ?_
    refine AllReadyH.cons (o := ⟨none, .store 42 (.tmp 82) (.tmp 80), 0, "build.go:216", #[⟨22, .data⟩, ⟨20, .data⟩, ⟨20, .chain⟩, ⟨0, .phase⟩, ⟨1, .phase⟩, ⟨2, .phase⟩, ⟨3, .phase⟩, ⟨4, .phase⟩, ⟨5, .phase⟩, ⟨6, .phase⟩, ⟨7, .phase⟩, ⟨8, .phase⟩, ⟨9, .phase⟩, ⟨10, .phase⟩, ⟨11, .phase⟩, ⟨12, .phase⟩, ⟨13, .phase⟩, ⟨14, .phase⟩, ⟨15, .phase⟩, ⟨16, .phase⟩, ⟨17, .phase⟩, ⟨18, .phase⟩, ⟨19, .phase⟩, ⟨20, .phase⟩], none⟩) rfl (fun K hK => ?_) AllReadyH.nil
    go_simp
    refine hK.out _ _ (HZ2.out _ _ hq) (fun hH2 => ?_)
    clear hK K hH
    have hH := hH2
    clear hH2
    try simp only [Act.put, List.setIfInBounds_toArray, List.set_cons_zero, List.set_cons_succ]
    refine wpAnyH_done (by kernel_rfl) ?_ _
    rw [HZ.out.1]
    go_wp2_with fail
    go_ret
    exact (HF.out _ _ _ _ (by first | exact bdrewN ((Below.refl _ _).alloc (Nat.le_refl _) _) 1 | exact (bdrewN (Below.refl _ _) 1).alloc (Nat.le_refl _) _) hO' hg hgo).step HB3.out
set_option maxHeartbeats 16000000 in
theorem edit_Ae {C : Rs.Cfg} {N : Nat} {l : List Lx.Tk} (A : Option Addr) (c bc lo : Nat) (vs : Key → SV) (w : World) (h : OwnC w bc lo vs C) (hG : GoodC N C) (hN : N ≤ 890000) (hT : TokIn w bc A l) (hn : l.length = 3) (hcn : 3 ≤ c) (gk : Nat) (hgk : w.cell? ⟨gk, 0, none⟩ = some (.int .i64 0)) (hg1 : gk < lo) {m : Nat} {z : Rs.Sch} (hz : C.scheds[m]? = some z) (hm1 : m + 1 = C.scheds.length) (q0 : Int) (hp0 : Rs.findS C.pn (Rs.tx l 0) = (q0, false)) :
    Calls Tryz.prog 137 #[.pointer (some ⟨bc, 0, none⟩), .slice A 3 c, .pointer (some ⟨gk, 0, none⟩)] w (StepV bc lo w (3, C)) := by
  obtain ⟨b, off, _k0, rfl, hb, tk0, t0, tm0, -⟩ := hT.get (i := 0) (by omega)
  obtain ⟨b_, off_, _k1, ea, -, -, -, t1, -⟩ := hT.get (i := 1) (by omega)
  cases ea
  obtain ⟨b_, off_, _k2, ea, -, -, -, t2, -⟩ := hT.get (i := 2) (by omega)
  cases ea
  have hlt := h.lt
  have hle := h.le
  have i1 : (1 : Int) ≤ c := by omega
  have i2 : (2 : Int) ≤ c := by omega
  have i3 : (3 : Int) ≤ c := by omega
  obtain ⟨gz, cap0, ez, hcap, hlo, hsz, hcl⟩ := h.lastS hz
  have hap0 := h.apart (κ := .sc) (κ' := .ed m) (fun e => by cases e) (g := gz) (by rw [ez]; rfl)
  have k1 := h.slices.2.2.2
  rw [ez] at k1
  simp only at k1
  have hlen6 : C.scheds.length ≤ 1000000 := by have := hG.sl; omega
  have LP := Lib.hid (last_s gz C.scheds.length m cap0 hm1.symm hlen6)
  generalize hpl : C.scheds.length = np at LP k1
  have hq1 := (hG.ss z (List.mem_of_getElem? hz)).2.1
  have hpn := h.pnest (by have := hG.pl; omega) (fun p hp => by have := hG.ps p hp; omega)
  have HPN := Lib.hid hpn
  have hsl := h.slices
  obtain ⟨vz, hvz⟩ : ∃ v, vs .zn = v := ⟨_, rfl⟩
  obtain ⟨vp, hvp⟩ : ∃ v, vs .pe = v := ⟨_, rfl⟩
  obtain ⟨vc, hvc⟩ : ∃ v, vs .ca = v := ⟨_, rfl⟩
  rw [hvz, hvp, hvc, ez] at hsl
  rw [hvp] at HPN
  obtain ⟨P1, p1, r1⟩ := vz
  obtain ⟨P2, p2, r2⟩ := vp
  obtain ⟨P3, p3, r3⟩ := vc
  rw [hpl] at hsl
  simp only at hsl
  have HSL : Hid (∀ W, Below w.heap.size w W → W.cell? ⟨bc, 0, none⟩ = some (.slice P1 p1 r1) ∧ W.cell? ⟨bc, 1, none⟩ = some (.slice P2 p2 r2) ∧ W.cell? ⟨bc, 2, none⟩ = some (.slice P3 p3 r3) ∧ W.cell? ⟨bc, 3, none⟩ = some (.slice (some ⟨gz, 0, none⟩) np cap0)) := Lib.hid fun W hW => ⟨cell_lift hsl.1 hW, cell_lift hsl.2.1 hW, cell_lift hsl.2.2.1 hW, cell_lift hsl.2.2.2 hW⟩
  have HCL := Lib.hid (hcl 2 (by omega))
  have HGK := Lib.hid hgk
  clear hcl hpl hm1 hcap hlen6 hpn hsl hvz hvp hvc hgk
  have HT0 := Lib.hid (And.intro tk0 (And.intro t0 tm0))
  clear tk0 t0 tm0
  have HT1 := Lib.hid t1
  clear t1
  have HT2 := Lib.hid t2
  clear t2
  have CF0 := Lib.hid (fun (W : World) (hW : Below w.heap.size w W) => Person_is (l := C.people) hp0 P1 P2 P3 (some ⟨gz, 0, none⟩) p1 r1 p2 r2 p3 r3 np cap0 W (p_nest HPN.out hW))
  clear hp0
  obtain ⟨x0, hxx0⟩ : ∃ x, Rs.tx l 0 = x := ⟨_, rfl⟩
  rw [hxx0] at HT0 CF0
  clear hxx0
  go_enter Tryz.func137, Tryz.ntmps137
  go_wp2_with fail
  refine (LP.out _).mono ?_
  rintro e w9 ⟨rfl, rfl⟩
  go_wp2_with fail
  go_quiet (fail)
  go_wp2_with fail
  have BA : Below w.heap.size w ((w.drewN nq).alloc (.cells #[.int .i64 0, .int .i64 0] 189)) := (bdrewN (Below.refl _ _) nq).alloc (Nat.le_refl _) _
  have NA : BlkAt ((w.drewN nq).alloc (.cells #[.int .i64 0, .int .i64 0] 189)) w.heap.size #[.int .i64 0, .int .i64 0] 189 := blk_now rfl
  have BA0 := Lib.hid BA
  have NA0 := Lib.hid NA
  refine wp_loop_rounds 2 ?_
  generalize (w.drewN nq).alloc (.cells #[.int .i64 0, .int .i64 0] 189) = W0 at BA NA BA0 NA0 ⊢
  have u0a : W0.cell? ⟨b, off, none⟩ = some (.int .i64 _k0) := cell_lift (by simpa using HT0.out.1) BA
  have u0b : W0.cell? ⟨b, off + 1, none⟩ = some (.string ⟨x0.toArray⟩) := cell_lift (by simpa using HT0.out.2.1) BA
  have u0c : W0.cell? ⟨b, off + 2, none⟩ = some (.int .i64 (Rs.nm l 0)) := cell_lift (by simpa using HT0.out.2.2) BA
  have BY := bstep BA ((Below.refl _ _).alloc (Nat.le_refl _) (.cells #[.int .i64 _k0, .string ⟨x0.toArray⟩, .int .i64 (Rs.nm l 0)] 115))
  have NY := BlkAt.alloc NA (.cells #[.int .i64 _k0, .string ⟨x0.toArray⟩, .int .i64 (Rs.nm l 0)] 115)
  have TY := BlkAt.new W0 #[.int .i64 _k0, .string ⟨x0.toArray⟩, .int .i64 (Rs.nm l 0)] 115
  rw [rounds_succ]
  go_wp2_with fail
  generalize W0.alloc (.cells #[.int .i64 _k0, .string ⟨x0.toArray⟩, .int .i64 (Rs.nm l 0)] 115) = Y0 at BY NY TY ⊢
  have tc1 : Y0.cell? ⟨W0.heap.size, 1, none⟩ = some (.string ⟨x0.toArray⟩) := TY.cell rfl
  have HS0 : Hid (∀ W, Below Y0.heap.size Y0 W → W.cell? ⟨bc, 0, none⟩ = some (.slice P1 p1 r1) ∧ W.cell? ⟨bc, 1, none⟩ = some (.slice P2 p2 r2) ∧ W.cell? ⟨bc, 2, none⟩ = some (.slice P3 p3 r3) ∧ W.cell? ⟨bc, 3, none⟩ = some (.slice (some ⟨gz, 0, none⟩) np cap0) ∧ W.cell? ⟨W0.heap.size, 1, none⟩ = some (.string ⟨x0.toArray⟩)) := Lib.hid fun W hW => ⟨(HSL.out W (bstep BY hW)).1, (HSL.out W (bstep BY hW)).2.1, (HSL.out W (bstep BY hW)).2.2.1, (HSL.out W (bstep BY hW)).2.2.2, cell_lift tc1 hW⟩
  have CG := Lib.hid (fun (W : World) (hW : Below Y0.heap.size Y0 W) => CF0.out W (bstep BY hW))
  clear tc1 u0a u0b u0c
  go_region_held3 (fun W => W.cell? ⟨bc, 0, none⟩ = some (.slice P1 p1 r1) ∧ W.cell? ⟨bc, 1, none⟩ = some (.slice P2 p2 r2) ∧ W.cell? ⟨bc, 2, none⟩ = some (.slice P3 p3 r3) ∧ W.cell? ⟨bc, 3, none⟩ = some (.slice (some ⟨gz, 0, none⟩) np cap0) ∧ W.cell? ⟨W0.heap.size, 1, none⟩ = some (.string ⟨x0.toArray⟩))
    (first | exact HS0.out _ (bdrewN (Below.refl _ _) 1) | exact HS0.out _ hw3)
    (first | (go_at_call 16; ((with_reducible refine (CG.out _ (Below.refl _ _).drew).mono ?_); rintro e Z0 ⟨rfl, hb3⟩; have hw3 : Below Y0.heap.size Y0 Z0 := ((Below.refl Y0.heap.size Y0).drew).trans hb3)))
  have BZ := bstep BY hw3
  have NZ := NY.after hw3
  have TZ := TY.after hw3
  have g1 : Z0.cell? ⟨gk, 0, none⟩ = some (.int .i64 0) := cell_lift HGK.out BZ
  have tz1 : Z0.cell? ⟨W0.heap.size, 1, none⟩ = some (.string ⟨x0.toArray⟩) := TZ.cell rfl
  obtain ⟨a0, a1, af0, af1⟩ := arr_cells NZ
  have HBZ := Lib.hid BZ
  have HNZ := Lib.hid NZ
  clear hb3 HS0 CG BA NA BA0 NA0 BY NY TY TZ BZ NZ hw3
  go_wp2_with fail
  go_ret
  exact step_err (.of_below HBZ.out hle) (.of_below HBZ.out) (by decide)
set_option maxHeartbeats 16000000 in
theorem edit_B {C : Rs.Cfg} {N : Nat} {l : List Lx.Tk} (A : Option Addr) (c bc lo : Nat) (vs : Key → SV) (w : World) (h : OwnC w bc lo vs C) (hG : GoodC N C) (hN : N ≤ 890000) (hT : TokIn w bc A l) (hn : l.length = 3) (hcn : 3 ≤ c) (gk : Nat) (hgk : w.cell? ⟨gk, 0, none⟩ = some (.int .i64 1)) (hg1 : gk < lo) {m : Nat} {z : Rs.Sch} (hz : C.scheds[m]? = some z) (hm1 : m + 1 = C.scheds.length) (q0 : Int) (hp0 : Rs.findS C.pn (Rs.tx l 0) = (q0, true)) (hx0 : ¬ Rs.tx l 0 = Rs.nobodyW) :
    Calls Tryz.prog 137 #[.pointer (some ⟨bc, 0, none⟩), .slice A 3 c, .pointer (some ⟨gk, 0, none⟩)] w (StepV bc lo w (0, { C with scheds := C.scheds.set m { z with edits := z.edits ++ [⟨1, q0, 0, Rs.nm l 1, Rs.nm l 2⟩] } })) := by
  obtain ⟨b, off, _k0, rfl, hb, tk0, t0, tm0, -⟩ := hT.get (i := 0) (by omega)
  obtain ⟨b_, off_, _k1, ea, -, -, -, t1, -⟩ := hT.get (i := 1) (by omega)
  cases ea
  obtain ⟨b_, off_, _k2, ea, -, -, -, t2, -⟩ := hT.get (i := 2) (by omega)
  cases ea
  have hlt := h.lt
  have hle := h.le
  have i1 : (1 : Int) ≤ c := by omega
  have i2 : (2 : Int) ≤ c := by omega
  have i3 : (3 : Int) ≤ c := by omega
  obtain ⟨gz, cap0, ez, hcap, hlo, hsz, hcl⟩ := h.lastS hz
  have hap0 := h.apart (κ := .sc) (κ' := .ed m) (fun e => by cases e) (g := gz) (by rw [ez]; rfl)
  have k1 := h.slices.2.2.2
  rw [ez] at k1
  simp only at k1
  have hlen6 : C.scheds.length ≤ 1000000 := by have := hG.sl; omega
  have LP := Lib.hid (last_s gz C.scheds.length m cap0 hm1.symm hlen6)
  generalize hpl : C.scheds.length = np at LP k1
  have hq1 := (hG.ss z (List.mem_of_getElem? hz)).2.1
  have hpn := h.pnest (by have := hG.pl; omega) (fun p hp => by have := hG.ps p hp; omega)
  have HPN := Lib.hid hpn
  have hsl := h.slices
  obtain ⟨vz, hvz⟩ : ∃ v, vs .zn = v := ⟨_, rfl⟩
  obtain ⟨vp, hvp⟩ : ∃ v, vs .pe = v := ⟨_, rfl⟩
  obtain ⟨vc, hvc⟩ : ∃ v, vs .ca = v := ⟨_, rfl⟩
  rw [hvz, hvp, hvc, ez] at hsl
  rw [hvp] at HPN
  obtain ⟨P1, p1, r1⟩ := vz
  obtain ⟨P2, p2, r2⟩ := vp
  obtain ⟨P3, p3, r3⟩ := vc
  rw [hpl] at hsl
  simp only at hsl
  have HSL : Hid (∀ W, Below w.heap.size w W → W.cell? ⟨bc, 0, none⟩ = some (.slice P1 p1 r1) ∧ W.cell? ⟨bc, 1, none⟩ = some (.slice P2 p2 r2) ∧ W.cell? ⟨bc, 2, none⟩ = some (.slice P3 p3 r3) ∧ W.cell? ⟨bc, 3, none⟩ = some (.slice (some ⟨gz, 0, none⟩) np cap0)) := Lib.hid fun W hW => ⟨cell_lift hsl.1 hW, cell_lift hsl.2.1 hW, cell_lift hsl.2.2.1 hW, cell_lift hsl.2.2.2 hW⟩
  have HCL := Lib.hid (hcl 2 (by omega))
  have HGK := Lib.hid hgk
  clear hcl hpl hm1 hcap hlen6 hpn hsl hvz hvp hvc hgk
  have HT0 := Lib.hid (And.intro tk0 (And.intro t0 tm0))
  clear tk0 t0 tm0
  have HT1 := Lib.hid t1
  clear t1
  have HT2 := Lib.hid t2
  clear t2
  have CF0 := Lib.hid (fun (W : World) (hW : Below w.heap.size w W) => Person_is (l := C.people) hp0 P1 P2 P3 (some ⟨gz, 0, none⟩) p1 r1 p2 r2 p3 r3 np cap0 W (p_nest HPN.out hW))
  clear hp0
  obtain ⟨x0, hxx0⟩ : ∃ x, Rs.tx l 0 = x := ⟨_, rfl⟩
  rw [hxx0] at HT0 CF0 hx0
  have e0 : (x0 == [110, 111, 98, 111, 100, 121]) = false := by simpa [Rs.nobodyW] using hx0
  clear hx0
  clear hxx0
  go_enter Tryz.func137, Tryz.ntmps137
  go_wp2_with fail
  refine (LP.out _).mono ?_
  rintro e w9 ⟨rfl, rfl⟩
  go_wp2_with fail
  go_quiet (fail)
  go_wp2_with fail
  have BA : Below w.heap.size w ((w.drewN nq).alloc (.cells #[.int .i64 0, .int .i64 0] 189)) := (bdrewN (Below.refl _ _) nq).alloc (Nat.le_refl _) _
  have NA : BlkAt ((w.drewN nq).alloc (.cells #[.int .i64 0, .int .i64 0] 189)) w.heap.size #[.int .i64 0, .int .i64 0] 189 := blk_now rfl
  have BA0 := Lib.hid BA
  have NA0 := Lib.hid NA
  refine wp_loop_rounds 2 ?_
  generalize (w.drewN nq).alloc (.cells #[.int .i64 0, .int .i64 0] 189) = W0 at BA NA BA0 NA0 ⊢
  have u0a : W0.cell? ⟨b, off, none⟩ = some (.int .i64 _k0) := cell_lift (by simpa using HT0.out.1) BA
  have u0b : W0.cell? ⟨b, off + 1, none⟩ = some (.string ⟨x0.toArray⟩) := cell_lift (by simpa using HT0.out.2.1) BA
  have u0c : W0.cell? ⟨b, off + 2, none⟩ = some (.int .i64 (Rs.nm l 0)) := cell_lift (by simpa using HT0.out.2.2) BA
  have BY := bstep BA ((Below.refl _ _).alloc (Nat.le_refl _) (.cells #[.int .i64 _k0, .string ⟨x0.toArray⟩, .int .i64 (Rs.nm l 0)] 115))
  have NY := BlkAt.alloc NA (.cells #[.int .i64 _k0, .string ⟨x0.toArray⟩, .int .i64 (Rs.nm l 0)] 115)
  have TY := BlkAt.new W0 #[.int .i64 _k0, .string ⟨x0.toArray⟩, .int .i64 (Rs.nm l 0)] 115
  rw [rounds_succ]
  go_wp2_with fail
  generalize W0.alloc (.cells #[.int .i64 _k0, .string ⟨x0.toArray⟩, .int .i64 (Rs.nm l 0)] 115) = Y0 at BY NY TY ⊢
  have tc1 : Y0.cell? ⟨W0.heap.size, 1, none⟩ = some (.string ⟨x0.toArray⟩) := TY.cell rfl
  have HS0 : Hid (∀ W, Below Y0.heap.size Y0 W → W.cell? ⟨bc, 0, none⟩ = some (.slice P1 p1 r1) ∧ W.cell? ⟨bc, 1, none⟩ = some (.slice P2 p2 r2) ∧ W.cell? ⟨bc, 2, none⟩ = some (.slice P3 p3 r3) ∧ W.cell? ⟨bc, 3, none⟩ = some (.slice (some ⟨gz, 0, none⟩) np cap0) ∧ W.cell? ⟨W0.heap.size, 1, none⟩ = some (.string ⟨x0.toArray⟩)) := Lib.hid fun W hW => ⟨(HSL.out W (bstep BY hW)).1, (HSL.out W (bstep BY hW)).2.1, (HSL.out W (bstep BY hW)).2.2.1, (HSL.out W (bstep BY hW)).2.2.2, cell_lift tc1 hW⟩
  have CG := Lib.hid (fun (W : World) (hW : Below Y0.heap.size Y0 W) => CF0.out W (bstep BY hW))
  clear tc1 u0a u0b u0c
  go_region_held3 (fun W => W.cell? ⟨bc, 0, none⟩ = some (.slice P1 p1 r1) ∧ W.cell? ⟨bc, 1, none⟩ = some (.slice P2 p2 r2) ∧ W.cell? ⟨bc, 2, none⟩ = some (.slice P3 p3 r3) ∧ W.cell? ⟨bc, 3, none⟩ = some (.slice (some ⟨gz, 0, none⟩) np cap0) ∧ W.cell? ⟨W0.heap.size, 1, none⟩ = some (.string ⟨x0.toArray⟩))
    (first | exact HS0.out _ (bdrewN (Below.refl _ _) 1) | exact HS0.out _ hw3)
    (first | (go_at_call 16; ((with_reducible refine (CG.out _ (Below.refl _ _).drew).mono ?_); rintro e Z0 ⟨rfl, hb3⟩; have hw3 : Below Y0.heap.size Y0 Z0 := ((Below.refl Y0.heap.size Y0).drew).trans hb3)))
  have BZ := bstep BY hw3
  have NZ := NY.after hw3
  have TZ := TY.after hw3
  have g1 : Z0.cell? ⟨gk, 0, none⟩ = some (.int .i64 1) := cell_lift HGK.out BZ
  have tz1 : Z0.cell? ⟨W0.heap.size, 1, none⟩ = some (.string ⟨x0.toArray⟩) := TZ.cell rfl
  obtain ⟨a0, a1, af0, af1⟩ := arr_cells NZ
  have HBZ := Lib.hid BZ
  have HNZ := Lib.hid NZ
  clear hb3 HS0 CG BA NA BA0 NA0 BY NY TY TZ BZ NZ hw3
  go_wp2_with fail
  have BA : Below w.heap.size w (Z0.setCell ⟨w.heap.size, 0, none⟩ (.int .i64 (q0))) := HBZ.out.setCell (p := ⟨w.heap.size, 0, none⟩) (Nat.le_refl _) _
  have NA : BlkAt (Z0.setCell ⟨w.heap.size, 0, none⟩ (.int .i64 (q0))) w.heap.size #[.int .i64 (q0), .int .i64 (0)] 189 := HNZ.out.set_ 0 _
  have BA0 := Lib.hid BA
  have NA0 := Lib.hid NA
  generalize Z0.setCell ⟨w.heap.size, 0, none⟩ (.int .i64 (q0)) = W1 at BA NA BA0 NA0 ⊢
  clear a0 a1 af0 af1 g1 tz1 HBZ HNZ
  have h3 := h.below BA
  have HB3 := Lib.hid (But.of_below (bc := bc) BA hle)
  have hle3 := h3.le
  have hlt3 := h3.lt
  have hs3 := BA.size
  have u1 : W1.cell? ⟨b, off + 3 + 2, none⟩ = some (.int .i64 (Rs.nm l 1)) := cell_lift HT1.out BA
  have u2 : W1.cell? ⟨b, off + 3 + 3 + 2, none⟩ = some (.int .i64 (Rs.nm l 2)) := cell_lift HT2.out BA
  have g1 : W1.cell? ⟨gk, 0, none⟩ = some (.int .i64 1) := cell_lift HGK.out BA
  have hcl2 : W1.cell? ⟨gz, m * 3 + 2, none⟩ = some (eSch (z, (vs (.la m), vs (.ed m))) 2) := cell_lift HCL.out.1 BA
  have hfr2 : W1.frozen? ⟨gz, m * 3 + 2, none⟩ = false := (BA.frozen (p := ⟨gz, m * 3 + 2, none⟩) hsz).trans HCL.out.2
  simp only [eSch] at hcl2
  clear BA0 NA0 LP k1
  rw [rounds_succ]
  go_wp2_with fail
  obtain ⟨hO1, hlen1⟩ := own_list (h3.rEd hz) (by omega)
  have s0 := hcl2
  have hfr := hfr2
  have hrow : ∀ g, (sv (vs (.ed m))).ownBlock = some g → lo ≤ g ∧ g < w.heap.size := fun g hg => h.far hg
  have hap := hap0
  obtain ⟨v1, hv1⟩ : ∃ v, vs (.ed m) = v := ⟨_, rfl⟩
  rw [hv1] at hO1 hlen1 hrow hap
  try rw [hv1] at s0
  obtain ⟨A1, n1, c1⟩ := v1
  simp only [sv] at s0 hO1 hrow hlen1 hap
  have HZ : Hid ((z.edits).length = n1 ∧ n1 ≤ 900000) := Lib.hid ⟨hlen1, by omega⟩
  have HO := Lib.hid hO1
  have hσ : some gz ≠ (Value.slice A1 n1 c1).ownBlock := fun e => hap e.symm
  have r0 : some gk ≠ (Value.slice A1 n1 c1).ownBlock := fun e => by have := hrow _ e.symm; omega
  have hz0 : gk ≠ gz := by omega
  have m0 : W1.cell? ⟨gk, 0, none⟩ = some (.int .i64 1) := g1
  have r1 : some w.heap.size ≠ (Value.slice A1 n1 c1).ownBlock := fun e => by have := hrow _ e.symm; omega
  have hz1 : w.heap.size ≠ gz := by omega
  have m1 : W1.cell? ⟨w.heap.size, 0, none⟩ = some (.int .i64 (q0)) := NA.cell rfl
  have r2 : some w.heap.size ≠ (Value.slice A1 n1 c1).ownBlock := fun e => by have := hrow _ e.symm; omega
  have hz2 : w.heap.size ≠ gz := by omega
  have m2 : W1.cell? ⟨w.heap.size, 1, none⟩ = some (.int .i64 (0)) := NA.cell rfl
  have r3 : some b ≠ (Value.slice A1 n1 c1).ownBlock := fun e => by have := hrow _ e.symm; omega
  have hz3 : b ≠ gz := by omega
  have m3 : W1.cell? ⟨b, off + 3 + 2, none⟩ = some (.int .i64 (Rs.nm l 1)) := u1
  have r4 : some b ≠ (Value.slice A1 n1 c1).ownBlock := fun e => by have := hrow _ e.symm; omega
  have hz4 : b ≠ gz := by omega
  have m4 : W1.cell? ⟨b, off + 3 + 3 + 2, none⟩ = some (.int .i64 (Rs.nm l 2)) := u2
  have HS : Hid (∀ W, W1.grownBy W (Value.slice A1 n1 c1).ownBlock → W.cell? ⟨gk, 0, none⟩ = some (.int .i64 1) ∧ W.cell? ⟨w.heap.size, 0, none⟩ = some (.int .i64 (q0)) ∧ W.cell? ⟨w.heap.size, 1, none⟩ = some (.int .i64 (0)) ∧ W.cell? ⟨b, off + 3 + 2, none⟩ = some (.int .i64 (Rs.nm l 1)) ∧ W.cell? ⟨b, off + 3 + 3 + 2, none⟩ = some (.int .i64 (Rs.nm l 2))) := Lib.hid fun W hW => ⟨lim r0 m0 W hW, lim r1 m1 W hW, lim r2 m2 W hW, lim r3 m3 W hW, lim r4 m4 W hW⟩
  have HZ2 : Hid (∀ W v, W1.grownBy W (Value.slice A1 n1 c1).ownBlock → (W.setCell ⟨gz, m * 3 + 2, none⟩ v).cell? ⟨gk, 0, none⟩ = some (.int .i64 1) ∧ (W.setCell ⟨gz, m * 3 + 2, none⟩ v).cell? ⟨w.heap.size, 0, none⟩ = some (.int .i64 (q0)) ∧ (W.setCell ⟨gz, m * 3 + 2, none⟩ v).cell? ⟨w.heap.size, 1, none⟩ = some (.int .i64 (0)) ∧ (W.setCell ⟨gz, m * 3 + 2, none⟩ v).cell? ⟨b, off + 3 + 2, none⟩ = some (.int .i64 (Rs.nm l 1)) ∧ (W.setCell ⟨gz, m * 3 + 2, none⟩ v).cell? ⟨b, off + 3 + 3 + 2, none⟩ = some (.int .i64 (Rs.nm l 2))) := Lib.hid fun W v hW => ⟨limZ r0 hz0 m0 W v hW, limZ r1 hz1 m1 W v hW, limZ r2 hz2 m2 W v hW, limZ r3 hz3 m3 W v hW, limZ r4 hz4 m4 W v hW⟩
  have HC : Hid (∀ W, W1.grownBy W (Value.slice A1 n1 c1).ownBlock → W.cell? ⟨gz, m * 3 + 2, none⟩ = some (.slice A1 n1 c1)) := Lib.hid (lim hσ s0)
  have HCF : Hid (∀ W, W1.grownBy W (Value.slice A1 n1 c1).ownBlock → W.frozen? ⟨gz, m * 3 + 2, none⟩ = false) := Lib.hid (limF hσ (by omega) hfr)
  have HF := Lib.hid (fun (W W1 : World) (g cap : Nat) => fin_edit (W := W) (W1 := W1) (g := g) (cap := cap) (r := ⟨1, q0, 0, Rs.nm l 1, Rs.nm l 2⟩) h3 hz rfl hv1 hlen1 (by rw [ez]))
  clear hO1 hrow hlen1 s0 hfr hσ r0 hz0 m0 r1 hz1 m1 r2 hz2 m2 r3 hz3 m3 r4 hz4 m4
  go_wp2_with fail
  refine wp_region_held_drew (S := fun W => W.cell? ⟨gk, 0, none⟩ = some (.int .i64 1) ∧ W.cell? ⟨w.heap.size, 0, none⟩ = some (.int .i64 (q0)) ∧ W.cell? ⟨w.heap.size, 1, none⟩ = some (.int .i64 (0)) ∧ W.cell? ⟨b, off + 3 + 2, none⟩ = some (.int .i64 (Rs.nm l 1)) ∧ W.cell? ⟨b, off + 3 + 3 + 2, none⟩ = some (.int .i64 (Rs.nm l 2))) (by kernel_rfl) (HS.out _ (grown_drew (grown_refl _ _))) (fun hH => ?_)
  refine wpAnyH_take (i := 0) (oi := ⟨some 60, .move (.tmp 6), 185, "build.go:216", #[], none⟩) (v := ?_) rfl (by kernel_rfl) (by kernel_rfl) (by kernel_rfl) (fun _ _ _ h => h) (Or.inl ⟨by rfl, ?_⟩) hH ?_
  rotate_left
  focus (intro w hSw; (try dsimp only at hSw); go_simp; (try with_reducible rfl); done)
  try simp only [Act.put, List.setIfInBounds_toArray, List.set_cons_zero, List.set_cons_succ]
  refine wpAnyH_take (i := 1) (oi := ⟨some 61, .move (.tmp 6), 185, "build.go:216", #[], none⟩) (v := ?_) rfl (by kernel_rfl) (by kernel_rfl) (by kernel_rfl) (fun _ _ _ h => h) (Or.inl ⟨by rfl, ?_⟩) hH ?_
  rotate_left
  focus (intro w hSw; (try dsimp only at hSw); go_simp; (try with_reducible rfl); done)
  try simp only [Act.put, List.setIfInBounds_toArray, List.set_cons_zero, List.set_cons_succ]
  refine wpAnyH_take (i := 2) (oi := ⟨some 62, .nilCheck (.tmp 61), 0, "build.go:216", #[⟨1, .data⟩], none⟩) (v := ?_) rfl (by kernel_rfl) (by kernel_rfl) (by kernel_rfl) (fun _ _ _ h => h) (Or.inl ⟨by rfl, ?_⟩) hH ?_
  rotate_left
  focus (intro w hSw; (try dsimp only at hSw); go_simp; (try with_reducible rfl); done)
  try simp only [Act.put, List.setIfInBounds_toArray, List.set_cons_zero, List.set_cons_succ]
  refine wpAnyH_take (i := 3) (oi := ⟨some 63, .fieldAddr 44 (.tmp 62) 2, 0, "build.go:216", #[⟨2, .data⟩], none⟩) (v := ?_) rfl (by kernel_rfl) (by kernel_rfl) (by kernel_rfl) (fun _ _ _ h => h) (Or.inl ⟨by rfl, ?_⟩) hH ?_
  rotate_left
  focus (intro w hSw; (try dsimp only at hSw); go_simp; (try with_reducible rfl); done)
  try simp only [Act.put, List.setIfInBounds_toArray, List.set_cons_zero, List.set_cons_succ]
  refine wpAnyH_take (i := 5) (oi := ⟨some 65, .load 3 (.tmp 2), 3, "build.go:216", #[], none⟩) (v := ?_) rfl (by kernel_rfl) (by kernel_rfl) (by kernel_rfl) (fun _ _ _ h => h) (Or.inl ⟨by rfl, ?_⟩) hH ?_
  rotate_left
  focus (intro w hSw; (try dsimp only at hSw); go_simp; (try with_reducible rfl); done)
  try simp only [Act.put, List.setIfInBounds_toArray, List.set_cons_zero, List.set_cons_succ]
  refine wpAnyH_take (i := 6) (oi := ⟨some 66, .indexAddr 189 (.tmp 9) (.const (.int .i64 0)), 0, "build.go:216", #[], none⟩) (v := ?_) rfl (by kernel_rfl) (by kernel_rfl) (by kernel_rfl) (fun _ _ _ h => h) (Or.inl ⟨by rfl, ?_⟩) hH ?_
  rotate_left
  focus (intro w hSw; (try dsimp only at hSw); go_simp; (try with_reducible rfl); done)
  try simp only [Act.put, List.setIfInBounds_toArray, List.set_cons_zero, List.set_cons_succ]
  refine wpAnyH_take (i := 7) (oi := ⟨some 67, .load 3 (.tmp 66), 3, "build.go:216", #[⟨6, .data⟩], none⟩) (v := ?_) rfl (by kernel_rfl) (by kernel_rfl) (by kernel_rfl) (fun _ _ _ h => h) (Or.inl ⟨by rfl, ?_⟩) hH ?_
  rotate_left
  focus (intro w hSw; (try dsimp only at hSw); go_simp; (try with_reducible rfl); done)
  try simp only [Act.put, List.setIfInBounds_toArray, List.set_cons_zero, List.set_cons_succ]
  refine wpAnyH_take (i := 8) (oi := ⟨some 68, .indexAddr 189 (.tmp 9) (.const (.int .i64 1)), 0, "build.go:216", #[], none⟩) (v := ?_) rfl (by kernel_rfl) (by kernel_rfl) (by kernel_rfl) (fun _ _ _ h => h) (Or.inl ⟨by rfl, ?_⟩) hH ?_
  rotate_left
  focus (intro w hSw; (try dsimp only at hSw); go_simp; (try with_reducible rfl); done)
  try simp only [Act.put, List.setIfInBounds_toArray, List.set_cons_zero, List.set_cons_succ]
  refine wpAnyH_take (i := 9) (oi := ⟨some 69, .load 3 (.tmp 68), 3, "build.go:216", #[⟨8, .data⟩], none⟩) (v := ?_) rfl (by kernel_rfl) (by kernel_rfl) (by kernel_rfl) (fun _ _ _ h => h) (Or.inl ⟨by rfl, ?_⟩) hH ?_
  rotate_left
  focus (intro w hSw; (try dsimp only at hSw); go_simp; (try with_reducible rfl); done)
  try simp only [Act.put, List.setIfInBounds_toArray, List.set_cons_zero, List.set_cons_succ]
  refine wpAnyH_take (i := 10) (oi := ⟨some 70, .move (.tmp 8), 104, "build.go:216", #[], none⟩) (v := ?_) rfl (by kernel_rfl) (by kernel_rfl) (by kernel_rfl) (fun _ _ _ h => h) (Or.inl ⟨by rfl, ?_⟩) hH ?_
  rotate_left
  focus (intro w hSw; (try dsimp only at hSw); go_simp; (try with_reducible rfl); done)
  try simp only [Act.put, List.setIfInBounds_toArray, List.set_cons_zero, List.set_cons_succ]
  refine wpAnyH_take (i := 11) (oi := ⟨some 71, .indexAddr 104 (.tmp 70) (.const (.int .i64 0)), 0, "build.go:216", #[⟨10, .data⟩], none⟩) (v := ?_) rfl (by kernel_rfl) (by kernel_rfl) (by kernel_rfl) (fun _ _ _ h => h) (Or.inl ⟨by rfl, ?_⟩) hH ?_
  rotate_left
  focus (intro w hSw; (try dsimp only at hSw); go_simp; (try with_reducible rfl); done)
  try simp only [Act.put, List.setIfInBounds_toArray, List.set_cons_zero, List.set_cons_succ]
  refine wpAnyH_take (i := 12) (oi := ⟨some 72, .fieldAddr 115 (.tmp 71) 2, 0, "build.go:216", #[⟨11, .data⟩], none⟩) (v := ?_) rfl (by kernel_rfl) (by kernel_rfl) (by kernel_rfl) (fun _ _ _ h => h) (Or.inl ⟨by rfl, ?_⟩) hH ?_
  rotate_left
  focus (intro w hSw; (try dsimp only at hSw); go_simp; (try with_reducible rfl); done)
  try simp only [Act.put, List.setIfInBounds_toArray, List.set_cons_zero, List.set_cons_succ]
  refine wpAnyH_take (i := 13) (oi := ⟨some 73, .load 3 (.tmp 72), 3, "build.go:216", #[⟨12, .data⟩], none⟩) (v := ?_) rfl (by kernel_rfl) (by kernel_rfl) (by kernel_rfl) (fun _ _ _ h => h) (Or.inl ⟨by rfl, ?_⟩) hH ?_
  rotate_left
  focus (intro w hSw; (try dsimp only at hSw); go_simp; (try with_reducible rfl); done)
  try simp only [Act.put, List.setIfInBounds_toArray, List.set_cons_zero, List.set_cons_succ]
  refine wpAnyH_take (i := 14) (oi := ⟨some 74, .move (.tmp 8), 104, "build.go:216", #[], none⟩) (v := ?_) rfl (by kernel_rfl) (by kernel_rfl) (by kernel_rfl) (fun _ _ _ h => h) (Or.inl ⟨by rfl, ?_⟩) hH ?_
  rotate_left
  focus (intro w hSw; (try dsimp only at hSw); go_simp; (try with_reducible rfl); done)
  try simp only [Act.put, List.setIfInBounds_toArray, List.set_cons_zero, List.set_cons_succ]
  refine wpAnyH_take (i := 15) (oi := ⟨some 75, .indexAddr 104 (.tmp 74) (.const (.int .i64 1)), 0, "build.go:216", #[⟨14, .data⟩], none⟩) (v := ?_) rfl (by kernel_rfl) (by kernel_rfl) (by kernel_rfl) (fun _ _ _ h => h) (Or.inl ⟨by rfl, ?_⟩) hH ?_
  rotate_left
  focus (intro w hSw; (try dsimp only at hSw); go_simp; (try with_reducible rfl); done)
  try simp only [Act.put, List.setIfInBounds_toArray, List.set_cons_zero, List.set_cons_succ]
  refine wpAnyH_take (i := 16) (oi := ⟨some 76, .fieldAddr 115 (.tmp 75) 2, 0, "build.go:216", #[⟨15, .data⟩], none⟩) (v := ?_) rfl (by kernel_rfl) (by kernel_rfl) (by kernel_rfl) (fun _ _ _ h => h) (Or.inl ⟨by rfl, ?_⟩) hH ?_
  rotate_left
  focus (intro w hSw; (try dsimp only at hSw); go_simp; (try with_reducible rfl); done)
  try simp only [Act.put, List.setIfInBounds_toArray, List.set_cons_zero, List.set_cons_succ]
  refine wpAnyH_take (i := 17) (oi := ⟨some 77, .load 3 (.tmp 76), 3, "build.go:216", #[⟨16, .data⟩], none⟩) (v := ?_) rfl (by kernel_rfl) (by kernel_rfl) (by kernel_rfl) (fun _ _ _ h => h) (Or.inl ⟨by rfl, ?_⟩) hH ?_
  rotate_left
  focus (intro w hSw; (try dsimp only at hSw); go_simp; (try with_reducible rfl); done)
  try simp only [Act.put, List.setIfInBounds_toArray, List.set_cons_zero, List.set_cons_succ]
  refine wpAnyH_take (i := 18) (oi := ⟨some 78, .build 46 #[(0, .tmp 65), (1, .tmp 67), (2, .tmp 69), (3, .tmp 73), (4, .tmp 77)], 46, "build.go:216", #[⟨5, .data⟩, ⟨7, .data⟩, ⟨9, .data⟩, ⟨13, .data⟩, ⟨17, .data⟩], none⟩) (v := ?_) rfl (by kernel_rfl) (by kernel_rfl) (by kernel_rfl) (fun _ _ _ h => h) (Or.inl ⟨by rfl, ?_⟩) hH ?_
  rotate_left
  focus (intro w hSw; (try dsimp only at hSw); go_simp; (try with_reducible rfl); done)
  try simp only [Act.put, List.setIfInBounds_toArray, List.set_cons_zero, List.set_cons_succ]
  refine wpAnyH_ready (rs := [4, 19]) (by kernel_rfl) (by simp) ?_
  refine AllReadyH.cons (o := ⟨some 64, .load 42 (.tmp 63), 42, "build.go:216", #[⟨3, .data⟩], none⟩) rfl (fun K hK => ?_) (AllReadyH.cons (o := ⟨some 79, .buildSlice 42 1 #[(0, .tmp 78)], 42, "build.go:216", #[⟨18, .data⟩], none⟩) rfl (fun K hK => ?_) AllReadyH.nil)
  · have y0 := HC.out _ (grown_drew (grown_refl _ _))
    have y3 := fun o => HC.out _ (grown_drew (grown_alloc (grown_refl W1 _) o))
    have y4 := fun o => HC.out _ (grown_alloc (grown_drew (grown_refl W1 _)) o)
    go_simp
    clear y0 y3 y4
    refine hK.out _ _ (HS.out _ (by first | exact grown_drew (grown_refl _ _) | exact grown_drew (grown_alloc (grown_refl _ _) _) | exact grown_alloc (grown_drew (grown_refl _ _)) _)) (fun hH2 => ?_)
    clear hK K hH
    have hH := hH2
    clear hH2
    try simp only [Act.put, List.setIfInBounds_toArray, List.set_cons_zero, List.set_cons_succ]
    refine wpAnyH_ready (rs := [19]) (by kernel_rfl) (by simp) ?_
    refine AllReadyH.cons (o := ⟨some 79, .buildSlice 42 1 #[(0, .tmp 78)], 42, "build.go:216", #[⟨18, .data⟩], none⟩) rfl (fun K hK => ?_) AllReadyH.nil
    go_simp
    refine hK.out _ _ (HS.out _ (by first | exact grown_drew (grown_refl _ _) | exact grown_drew (grown_alloc (grown_refl _ _) _) | exact grown_alloc (grown_drew (grown_refl _ _)) _)) (fun hH2 => ?_)
    clear hK K hH
    have hH := hH2
    clear hH2
    try simp only [Act.put, List.setIfInBounds_toArray, List.set_cons_zero, List.set_cons_succ]
    refine wpAnyH_ready (rs := [20]) (by kernel_rfl) (by simp) ?_
    refine AllReadyH.cons (o := ⟨some 80, .call { callee := .builtin .append, args := #[.tmp 64, .tmp 79], argTypes := #[42, 42] }, 42, "build.go:216", #[⟨4, .data⟩, ⟨19, .data⟩], none⟩) rfl (fun K hK => ?_) AllReadyH.nil
    (refine step_append_row kEdi _ (by rfl) (.tmp 64) (.tmp 79) (by rfl) lo (.slice A1 n1 c1) (z.edits) (by rfl) (by first | exact (HO.out.alloc _).drewN 1 | exact (HO.out.drewN 1).alloc _) W1.heap.size (⟨1, q0, 0, Rs.nm l 1, Rs.nm l 2⟩ : Rs.Edit) (by rfl) (one_new (by first | exact BlkAt.drewN (blk_now rfl) 1 | exact blk_now rfl) (edi_vals ⟨1, q0, 0, Rs.nm l 1, Rs.nm l 2⟩)) (by have := HZ.out; omega) (by simp; omega) ?_; intro g cap w' hO' hg hgo hlt'; have hq : W1.grownBy w' (Value.slice A1 n1 c1).ownBlock := grown_trans (by first | exact grown_drew (grown_alloc (grown_refl _ _) _) | exact grown_alloc (grown_drew (grown_refl _ _)) _) hg; have y1 := HC.out _ hq; have y2 := HCF.out _ hq)
    refine hK.out _ _ (HS.out _ hq) (fun hH2 => ?_)
    clear hK K hH
    have hH := hH2
    clear hH2
    try simp only [Act.put, List.setIfInBounds_toArray, List.set_cons_zero, List.set_cons_succ]
    refine wpAnyH_take (i := 21) (oi := ⟨some 81, .nilCheck (.tmp 60), 0, "build.go:216", #[⟨0, .data⟩, ⟨0, .phase⟩, ⟨1, .phase⟩, ⟨2, .phase⟩, ⟨3, .phase⟩, ⟨4, .phase⟩, ⟨5, .phase⟩, ⟨6, .phase⟩, ⟨7, .phase⟩, ⟨8, .phase⟩, ⟨9, .phase⟩, ⟨10, .phase⟩, ⟨11, .phase⟩, ⟨12, .phase⟩, ⟨13, .phase⟩, ⟨14, .phase⟩, ⟨15, .phase⟩, ⟨16, .phase⟩, ⟨17, .phase⟩, ⟨18, .phase⟩, ⟨19, .phase⟩, ⟨20, .phase⟩], none⟩) (v := ?_) rfl (by kernel_rfl) (by kernel_rfl) (by kernel_rfl) (fun _ _ _ h => h) (Or.inl ⟨by rfl, ?_⟩) hH ?_
    rotate_left
    focus (intro w hSw; (try dsimp only at hSw); go_simp; (try with_reducible rfl); done)
    try simp only [Act.put, List.setIfInBounds_toArray, List.set_cons_zero, List.set_cons_succ]
    refine wpAnyH_take (i := 22) (oi := ⟨some 82, .fieldAddr 44 (.tmp 81) 2, 0, "build.go:216", #[⟨21, .data⟩, ⟨0, .phase⟩, ⟨1, .phase⟩, ⟨2, .phase⟩, ⟨3, .phase⟩, ⟨4, .phase⟩, ⟨5, .phase⟩, ⟨6, .phase⟩, ⟨7, .phase⟩, ⟨8, .phase⟩, ⟨9, .phase⟩, ⟨10, .phase⟩, ⟨11, .phase⟩, ⟨12, .phase⟩, ⟨13, .phase⟩, ⟨14, .phase⟩, ⟨15, .phase⟩, ⟨16, .phase⟩, ⟨17, .phase⟩, ⟨18, .phase⟩, ⟨19, .phase⟩, ⟨20, .phase⟩], none⟩) (v := ?_) rfl (by kernel_rfl) (by kernel_rfl) (by kernel_rfl) (fun _ _ _ h => h) (Or.inl ⟨by rfl, ?_⟩) hH ?_
    rotate_left
    focus (intro w hSw; (try dsimp only at hSw); go_simp; (try with_reducible rfl); done)
    try simp only [Act.put, List.setIfInBounds_toArray, List.set_cons_zero, List.set_cons_succ]
    refine wpAnyH_ready (rs := [23]) (by kernel_rfl) (by simp) ?_
    refine AllReadyH.cons (o := ⟨none, .store 42 (.tmp 82) (.tmp 80), 0, "build.go:216", #[⟨22, .data⟩, ⟨20, .data⟩, ⟨20, .chain⟩, ⟨0, .phase⟩, ⟨1, .phase⟩, ⟨2, .phase⟩, ⟨3, .phase⟩, ⟨4, .phase⟩, ⟨5, .phase⟩, ⟨6, .phase⟩, ⟨7, .phase⟩, ⟨8, .phase⟩, ⟨9, .phase⟩, ⟨10, .phase⟩, ⟨11, .phase⟩, ⟨12, .phase⟩, ⟨13, .phase⟩, ⟨14, .phase⟩, ⟨15, .phase⟩, ⟨16, .phase⟩, ⟨17, .phase⟩, ⟨18, .phase⟩, ⟨19, .phase⟩, ⟨20, .phase⟩], none⟩) rfl (fun K hK => ?_) AllReadyH.nil
    go_simp
    refine hK.out _ _ (HZ2.out _ _ hq) (fun hH2 => ?_)
    clear hK K hH
    have hH := hH2
    clear hH2
    try simp only [Act.put, List.setIfInBounds_toArray, List.set_cons_zero, List.set_cons_succ]
    refine wpAnyH_done (by kernel_rfl) ?_ _
    rw [HZ.out.1]
    go_wp2_with fail
    go_ret
    exact (HF.out _ _ _ _ (by first | exact bdrewN ((Below.refl _ _).alloc (Nat.le_refl _) _) 1 | exact (bdrewN (Below.refl _ _) 1).alloc (Nat.le_refl _) _) hO' hg hgo).step HB3.out
  · go_simp
    refine hK.out _ _ (HS.out _ (by first | exact grown_drew (grown_refl _ _) | exact grown_drew (grown_alloc (grown_refl _ _) _) | exact grown_alloc (grown_drew (grown_refl _ _)) _)) (fun hH2 => ?_)
    clear hK K hH
    have hH := hH2
    clear hH2
    try simp only [Act.put, List.setIfInBounds_toArray, List.set_cons_zero, List.set_cons_succ]
    refine wpAnyH_ready (rs := [4]) (by kernel_rfl) (by simp) ?_
    refine AllReadyH.cons (o := ⟨some 64, .load 42 (.tmp 63), 42, "build.go:216", #[⟨3, .data⟩], none⟩) rfl (fun K hK => ?_) AllReadyH.nil
    have y0 := HC.out _ (grown_drew (grown_refl _ _))
    have y3 := fun o => HC.out _ (grown_drew (grown_alloc (grown_refl W1 _) o))
    have y4 := fun o => HC.out _ (grown_alloc (grown_drew (grown_refl W1 _)) o)
    go_simp
    clear y0 y3 y4
    refine hK.out _ _ (HS.out _ (by first | exact grown_drew (grown_refl _ _) | exact grown_drew (grown_alloc (grown_refl _ _) _) | exact grown_alloc (grown_drew (grown_refl _ _)) _)) (fun hH2 => ?_)
    clear hK K hH
    have hH := hH2
    clear hH2
    try simp only [Act.put, List.setIfInBounds_toArray, List.set_cons_zero, List.set_cons_succ]
    refine wpAnyH_ready (rs := [20]) (by kernel_rfl) (by simp) ?_
    refine AllReadyH.cons (o := ⟨some 80, .call { callee := .builtin .append, args := #[.tmp 64, .tmp 79], argTypes := #[42, 42] }, 42, "build.go:216", #[⟨4, .data⟩, ⟨19, .data⟩], none⟩) rfl (fun K hK => ?_) AllReadyH.nil
    (refine step_append_row kEdi _ (by rfl) (.tmp 64) (.tmp 79) (by rfl) lo (.slice A1 n1 c1) (z.edits) (by rfl) (by first | exact (HO.out.alloc _).drewN 1 | exact (HO.out.drewN 1).alloc _) W1.heap.size (⟨1, q0, 0, Rs.nm l 1, Rs.nm l 2⟩ : Rs.Edit) (by rfl) (one_new (by first | exact BlkAt.drewN (blk_now rfl) 1 | exact blk_now rfl) (edi_vals ⟨1, q0, 0, Rs.nm l 1, Rs.nm l 2⟩)) (by have := HZ.out; omega) (by simp; omega) ?_; intro g cap w' hO' hg hgo hlt'; have hq : W1.grownBy w' (Value.slice A1 n1 c1).ownBlock := grown_trans (by first | exact grown_drew (grown_alloc (grown_refl _ _) _) | exact grown_alloc (grown_drew (grown_refl _ _)) _) hg; have y1 := HC.out _ hq; have y2 := HCF.out _ hq)
    refine hK.out _ _ (HS.out _ hq) (fun hH2 => ?_)
    clear hK K hH
    have hH := hH2
    clear hH2
    try simp only [Act.put, List.setIfInBounds_toArray, List.set_cons_zero, List.set_cons_succ]
    refine wpAnyH_take (i := 21) (oi := ⟨some 81, .nilCheck (.tmp 60), 0, "build.go:216", #[⟨0, .data⟩, ⟨0, .phase⟩, ⟨1, .phase⟩, ⟨2, .phase⟩, ⟨3, .phase⟩, ⟨4, .phase⟩, ⟨5, .phase⟩, ⟨6, .phase⟩, ⟨7, .phase⟩, ⟨8, .phase⟩, ⟨9, .phase⟩, ⟨10, .phase⟩, ⟨11, .phase⟩, ⟨12, .phase⟩, ⟨13, .phase⟩, ⟨14, .phase⟩, ⟨15, .phase⟩, ⟨16, .phase⟩, ⟨17, .phase⟩, ⟨18, .phase⟩, ⟨19, .phase⟩, ⟨20, .phase⟩], none⟩) (v := ?_) rfl (by kernel_rfl) (by kernel_rfl) (by kernel_rfl) (fun _ _ _ h => h) (Or.inl ⟨by rfl, ?_⟩) hH ?_
    rotate_left
    focus (intro w hSw; (try dsimp only at hSw); go_simp; (try with_reducible rfl); done)
    try simp only [Act.put, List.setIfInBounds_toArray, List.set_cons_zero, List.set_cons_succ]
    refine wpAnyH_take (i := 22) (oi := ⟨some 82, .fieldAddr 44 (.tmp 81) 2, 0, "build.go:216", #[⟨21, .data⟩, ⟨0, .phase⟩, ⟨1, .phase⟩, ⟨2, .phase⟩, ⟨3, .phase⟩, ⟨4, .phase⟩, ⟨5, .phase⟩, ⟨6, .phase⟩, ⟨7, .phase⟩, ⟨8, .phase⟩, ⟨9, .phase⟩, ⟨10, .phase⟩, ⟨11, .phase⟩, ⟨12, .phase⟩, ⟨13, .phase⟩, ⟨14, .phase⟩, ⟨15, .phase⟩, ⟨16, .phase⟩, ⟨17, .phase⟩, ⟨18, .phase⟩, ⟨19, .phase⟩, ⟨20, .phase⟩], none⟩) (v := ?_) rfl (by kernel_rfl) (by kernel_rfl) (by kernel_rfl) (fun _ _ _ h => h) (Or.inl ⟨by rfl, ?_⟩) hH ?_
    rotate_left
    focus (intro w hSw; (try dsimp only at hSw); go_simp; (try with_reducible rfl); done)
    try simp only [Act.put, List.setIfInBounds_toArray, List.set_cons_zero, List.set_cons_succ]
    refine wpAnyH_ready (rs := [23]) (by kernel_rfl) (by simp) ?_
    refine AllReadyH.cons (o := ⟨none, .store 42 (.tmp 82) (.tmp 80), 0, "build.go:216", #[⟨22, .data⟩, ⟨20, .data⟩, ⟨20, .chain⟩, ⟨0, .phase⟩, ⟨1, .phase⟩, ⟨2, .phase⟩, ⟨3, .phase⟩, ⟨4, .phase⟩, ⟨5, .phase⟩, ⟨6, .phase⟩, ⟨7, .phase⟩, ⟨8, .phase⟩, ⟨9, .phase⟩, ⟨10, .phase⟩, ⟨11, .phase⟩, ⟨12, .phase⟩, ⟨13, .phase⟩, ⟨14, .phase⟩, ⟨15, .phase⟩, ⟨16, .phase⟩, ⟨17, .phase⟩, ⟨18, .phase⟩, ⟨19, .phase⟩, ⟨20, .phase⟩], none⟩) rfl (fun K hK => ?_) AllReadyH.nil
    go_simp
    refine hK.out _ _ (HZ2.out _ _ hq) (fun hH2 => ?_)
    clear hK K hH
    have hH := hH2
    clear hH2
    try simp only [Act.put, List.setIfInBounds_toArray, List.set_cons_zero, List.set_cons_succ]
    refine wpAnyH_done (by kernel_rfl) ?_ _
    rw [HZ.out.1]
    go_wp2_with fail
    go_ret
    exact (HF.out _ _ _ _ (by first | exact bdrewN ((Below.refl _ _).alloc (Nat.le_refl _) _) 1 | exact (bdrewN (Below.refl _ _) 1).alloc (Nat.le_refl _) _) hO' hg hgo).step HB3.out
set_option maxHeartbeats 16000000 in
theorem edit_Be {C : Rs.Cfg} {N : Nat} {l : List Lx.Tk} (A : Option Addr) (c bc lo : Nat) (vs : Key → SV) (w : World) (h : OwnC w bc lo vs C) (hG : GoodC N C) (hN : N ≤ 890000) (hT : TokIn w bc A l) (hn : l.length = 3) (hcn : 3 ≤ c) (gk : Nat) (hgk : w.cell? ⟨gk, 0, none⟩ = some (.int .i64 1)) (hg1 : gk < lo) {m : Nat} {z : Rs.Sch} (hz : C.scheds[m]? = some z) (hm1 : m + 1 = C.scheds.length) (q0 : Int) (hp0 : Rs.findS C.pn (Rs.tx l 0) = (q0, false)) (hx0 : ¬ Rs.tx l 0 = Rs.nobodyW) :
    Calls Tryz.prog 137 #[.pointer (some ⟨bc, 0, none⟩), .slice A 3 c, .pointer (some ⟨gk, 0, none⟩)] w (StepV bc lo w (3, C)) := by
  obtain ⟨b, off, _k0, rfl, hb, tk0, t0, tm0, -⟩ := hT.get (i := 0) (by omega)
  obtain ⟨b_, off_, _k1, ea, -, -, -, t1, -⟩ := hT.get (i := 1) (by omega)
  cases ea
  obtain ⟨b_, off_, _k2, ea, -, -, -, t2, -⟩ := hT.get (i := 2) (by omega)
  cases ea
  have hlt := h.lt
  have hle := h.le
  have i1 : (1 : Int) ≤ c := by omega
  have i2 : (2 : Int) ≤ c := by omega
  have i3 : (3 : Int) ≤ c := by omega
  obtain ⟨gz, cap0, ez, hcap, hlo, hsz, hcl⟩ := h.lastS hz
  have hap0 := h.apart (κ := .sc) (κ' := .ed m) (fun e => by cases e) (g := gz) (by rw [ez]; rfl)
  have k1 := h.slices.2.2.2
  rw [ez] at k1
  simp only at k1
  have hlen6 : C.scheds.length ≤ 1000000 := by have := hG.sl; omega
  have LP := Lib.hid (last_s gz C.scheds.length m cap0 hm1.symm hlen6)
  generalize hpl : C.scheds.length = np at LP k1
  have hq1 := (hG.ss z (List.mem_of_getElem? hz)).2.1
  have hpn := h.pnest (by have := hG.pl; omega) (fun p hp => by have := hG.ps p hp; omega)
  have HPN := Lib.hid hpn
  have hsl := h.slices
  obtain ⟨vz, hvz⟩ : ∃ v, vs .zn = v := ⟨_, rfl⟩
  obtain ⟨vp, hvp⟩ : ∃ v, vs .pe = v := ⟨_, rfl⟩
  obtain ⟨vc, hvc⟩ : ∃ v, vs .ca = v := ⟨_, rfl⟩
  rw [hvz, hvp, hvc, ez] at hsl
  rw [hvp] at HPN
  obtain ⟨P1, p1, r1⟩ := vz
  obtain ⟨P2, p2, r2⟩ := vp
  obtain ⟨P3, p3, r3⟩ := vc
  rw [hpl] at hsl
  simp only at hsl
  have HSL : Hid (∀ W, Below w.heap.size w W → W.cell? ⟨bc, 0, none⟩ = some (.slice P1 p1 r1) ∧ W.cell? ⟨bc, 1, none⟩ = some (.slice P2 p2 r2) ∧ W.cell? ⟨bc, 2, none⟩ = some (.slice P3 p3 r3) ∧ W.cell? ⟨bc, 3, none⟩ = some (.slice (some ⟨gz, 0, none⟩) np cap0)) := Lib.hid fun W hW => ⟨cell_lift hsl.1 hW, cell_lift hsl.2.1 hW, cell_lift hsl.2.2.1 hW, cell_lift hsl.2.2.2 hW⟩
  have HCL := Lib.hid (hcl 2 (by omega))
  have HGK := Lib.hid hgk
  clear hcl hpl hm1 hcap hlen6 hpn hsl hvz hvp hvc hgk
  have HT0 := Lib.hid (And.intro tk0 (And.intro t0 tm0))
  clear tk0 t0 tm0
  have HT1 := Lib.hid t1
  clear t1
  have HT2 := Lib.hid t2
  clear t2
  have CF0 := Lib.hid (fun (W : World) (hW : Below w.heap.size w W) => Person_is (l := C.people) hp0 P1 P2 P3 (some ⟨gz, 0, none⟩) p1 r1 p2 r2 p3 r3 np cap0 W (p_nest HPN.out hW))
  clear hp0
  obtain ⟨x0, hxx0⟩ : ∃ x, Rs.tx l 0 = x := ⟨_, rfl⟩
  rw [hxx0] at HT0 CF0 hx0
  have e0 : (x0 == [110, 111, 98, 111, 100, 121]) = false := by simpa [Rs.nobodyW] using hx0
  clear hx0
  clear hxx0
  go_enter Tryz.func137, Tryz.ntmps137
  go_wp2_with fail
  refine (LP.out _).mono ?_
  rintro e w9 ⟨rfl, rfl⟩
  go_wp2_with fail
  go_quiet (fail)
  go_wp2_with fail
  have BA : Below w.heap.size w ((w.drewN nq).alloc (.cells #[.int .i64 0, .int .i64 0] 189)) := (bdrewN (Below.refl _ _) nq).alloc (Nat.le_refl _) _
  have NA : BlkAt ((w.drewN nq).alloc (.cells #[.int .i64 0, .int .i64 0] 189)) w.heap.size #[.int .i64 0, .int .i64 0] 189 := blk_now rfl
  have BA0 := Lib.hid BA
  have NA0 := Lib.hid NA
  refine wp_loop_rounds 2 ?_
  generalize (w.drewN nq).alloc (.cells #[.int .i64 0, .int .i64 0] 189) = W0 at BA NA BA0 NA0 ⊢
  have u0a : W0.cell? ⟨b, off, none⟩ = some (.int .i64 _k0) := cell_lift (by simpa using HT0.out.1) BA
  have u0b : W0.cell? ⟨b, off + 1, none⟩ = some (.string ⟨x0.toArray⟩) := cell_lift (by simpa using HT0.out.2.1) BA
  have u0c : W0.cell? ⟨b, off + 2, none⟩ = some (.int .i64 (Rs.nm l 0)) := cell_lift (by simpa using HT0.out.2.2) BA
  have BY := bstep BA ((Below.refl _ _).alloc (Nat.le_refl _) (.cells #[.int .i64 _k0, .string ⟨x0.toArray⟩, .int .i64 (Rs.nm l 0)] 115))
  have NY := BlkAt.alloc NA (.cells #[.int .i64 _k0, .string ⟨x0.toArray⟩, .int .i64 (Rs.nm l 0)] 115)
  have TY := BlkAt.new W0 #[.int .i64 _k0, .string ⟨x0.toArray⟩, .int .i64 (Rs.nm l 0)] 115
  rw [rounds_succ]
  go_wp2_with fail
  generalize W0.alloc (.cells #[.int .i64 _k0, .string ⟨x0.toArray⟩, .int .i64 (Rs.nm l 0)] 115) = Y0 at BY NY TY ⊢
  have tc1 : Y0.cell? ⟨W0.heap.size, 1, none⟩ = some (.string ⟨x0.toArray⟩) := TY.cell rfl
  have HS0 : Hid (∀ W, Below Y0.heap.size Y0 W → W.cell? ⟨bc, 0, none⟩ = some (.slice P1 p1 r1) ∧ W.cell? ⟨bc, 1, none⟩ = some (.slice P2 p2 r2) ∧ W.cell? ⟨bc, 2, none⟩ = some (.slice P3 p3 r3) ∧ W.cell? ⟨bc, 3, none⟩ = some (.slice (some ⟨gz, 0, none⟩) np cap0) ∧ W.cell? ⟨W0.heap.size, 1, none⟩ = some (.string ⟨x0.toArray⟩)) := Lib.hid fun W hW => ⟨(HSL.out W (bstep BY hW)).1, (HSL.out W (bstep BY hW)).2.1, (HSL.out W (bstep BY hW)).2.2.1, (HSL.out W (bstep BY hW)).2.2.2, cell_lift tc1 hW⟩
  have CG := Lib.hid (fun (W : World) (hW : Below Y0.heap.size Y0 W) => CF0.out W (bstep BY hW))
  clear tc1 u0a u0b u0c
  go_region_held3 (fun W => W.cell? ⟨bc, 0, none⟩ = some (.slice P1 p1 r1) ∧ W.cell? ⟨bc, 1, none⟩ = some (.slice P2 p2 r2) ∧ W.cell? ⟨bc, 2, none⟩ = some (.slice P3 p3 r3) ∧ W.cell? ⟨bc, 3, none⟩ = some (.slice (some ⟨gz, 0, none⟩) np cap0) ∧ W.cell? ⟨W0.heap.size, 1, none⟩ = some (.string ⟨x0.toArray⟩))
    (first | exact HS0.out _ (bdrewN (Below.refl _ _) 1) | exact HS0.out _ hw3)
    (first | (go_at_call 16; ((with_reducible refine (CG.out _ (Below.refl _ _).drew).mono ?_); rintro e Z0 ⟨rfl, hb3⟩; have hw3 : Below Y0.heap.size Y0 Z0 := ((Below.refl Y0.heap.size Y0).drew).trans hb3)))
  have BZ := bstep BY hw3
  have NZ := NY.after hw3
  have TZ := TY.after hw3
  have g1 : Z0.cell? ⟨gk, 0, none⟩ = some (.int .i64 1) := cell_lift HGK.out BZ
  have tz1 : Z0.cell? ⟨W0.heap.size, 1, none⟩ = some (.string ⟨x0.toArray⟩) := TZ.cell rfl
  obtain ⟨a0, a1, af0, af1⟩ := arr_cells NZ
  have HBZ := Lib.hid BZ
  have HNZ := Lib.hid NZ
  clear hb3 HS0 CG BA NA BA0 NA0 BY NY TY TZ BZ NZ hw3
  go_wp2_with fail
  go_ret
  exact step_err (.of_below HBZ.out hle) (.of_below HBZ.out) (by decide)
set_option maxHeartbeats 16000000 in
theorem edit_Bo {C : Rs.Cfg} {N : Nat} {l : List Lx.Tk} (A : Option Addr) (c bc lo : Nat) (vs : Key → SV) (w : World) (h : OwnC w bc lo vs C) (hG : GoodC N C) (hN : N ≤ 890000) (hT : TokIn w bc A l) (hn : l.length = 3) (hcn : 3 ≤ c) (gk : Nat) (hgk : w.cell? ⟨gk, 0, none⟩ = some (.int .i64 1)) (hg1 : gk < lo) {m : Nat} {z : Rs.Sch} (hz : C.scheds[m]? = some z) (hm1 : m + 1 = C.scheds.length)  (hx0 : Rs.tx l 0 = Rs.nobodyW) :
    Calls Tryz.prog 137 #[.pointer (some ⟨bc, 0, none⟩), .slice A 3 c, .pointer (some ⟨gk, 0, none⟩)] w (StepV bc lo w (0, { C with scheds := C.scheds.set m { z with edits := z.edits ++ [⟨1, -1, 0, Rs.nm l 1, Rs.nm l 2⟩] } })) := by
  obtain ⟨b, off, _k0, rfl, hb, tk0, t0, tm0, -⟩ := hT.get (i := 0) (by omega)
  obtain ⟨b_, off_, _k1, ea, -, -, -, t1, -⟩ := hT.get (i := 1) (by omega)
  cases ea
  obtain ⟨b_, off_, _k2, ea, -, -, -, t2, -⟩ := hT.get (i := 2) (by omega)
  cases ea
  have hlt := h.lt
  have hle := h.le
  have i1 : (1 : Int) ≤ c := by omega
  have i2 : (2 : Int) ≤ c := by omega
  have i3 : (3 : Int) ≤ c := by omega
  obtain ⟨gz, cap0, ez, hcap, hlo, hsz, hcl⟩ := h.lastS hz
  have hap0 := h.apart (κ := .sc) (κ' := .ed m) (fun e => by cases e) (g := gz) (by rw [ez]; rfl)
  have k1 := h.slices.2.2.2
  rw [ez] at k1
  simp only at k1
  have hlen6 : C.scheds.length ≤ 1000000 := by have := hG.sl; omega
  have LP := Lib.hid (last_s gz C.scheds.length m cap0 hm1.symm hlen6)
  generalize hpl : C.scheds.length = np at LP k1
  have hq1 := (hG.ss z (List.mem_of_getElem? hz)).2.1
  have hpn := h.pnest (by have := hG.pl; omega) (fun p hp => by have := hG.ps p hp; omega)
  have HPN := Lib.hid hpn
  have hsl := h.slices
  obtain ⟨vz, hvz⟩ : ∃ v, vs .zn = v := ⟨_, rfl⟩
  obtain ⟨vp, hvp⟩ : ∃ v, vs .pe = v := ⟨_, rfl⟩
  obtain ⟨vc, hvc⟩ : ∃ v, vs .ca = v := ⟨_, rfl⟩
  rw [hvz, hvp, hvc, ez] at hsl
  rw [hvp] at HPN
  obtain ⟨P1, p1, r1⟩ := vz
  obtain ⟨P2, p2, r2⟩ := vp
  obtain ⟨P3, p3, r3⟩ := vc
  rw [hpl] at hsl
  simp only at hsl
  have HSL : Hid (∀ W, Below w.heap.size w W → W.cell? ⟨bc, 0, none⟩ = some (.slice P1 p1 r1) ∧ W.cell? ⟨bc, 1, none⟩ = some (.slice P2 p2 r2) ∧ W.cell? ⟨bc, 2, none⟩ = some (.slice P3 p3 r3) ∧ W.cell? ⟨bc, 3, none⟩ = some (.slice (some ⟨gz, 0, none⟩) np cap0)) := Lib.hid fun W hW => ⟨cell_lift hsl.1 hW, cell_lift hsl.2.1 hW, cell_lift hsl.2.2.1 hW, cell_lift hsl.2.2.2 hW⟩
  have HCL := Lib.hid (hcl 2 (by omega))
  have HGK := Lib.hid hgk
  clear hcl hpl hm1 hcap hlen6 hpn hsl hvz hvp hvc hgk
  have HT0 := Lib.hid (And.intro tk0 (And.intro t0 tm0))
  clear tk0 t0 tm0
  have HT1 := Lib.hid t1
  clear t1
  have HT2 := Lib.hid t2
  clear t2
  obtain ⟨pp0, hpp0⟩ : ∃ p, Rs.findS C.pn (Rs.tx l 0) = p := ⟨_, rfl⟩
  have CF0 := Lib.hid (fun (W : World) (hW : Below w.heap.size w W) => Person_is (l := C.people) hpp0 P1 P2 P3 (some ⟨gz, 0, none⟩) p1 r1 p2 r2 p3 r3 np cap0 W (p_nest HPN.out hW))
  clear hpp0
  obtain ⟨q0, ok0⟩ := pp0
  obtain ⟨x0, hxx0⟩ : ∃ x, Rs.tx l 0 = x := ⟨_, rfl⟩
  rw [hxx0] at HT0 CF0 hx0
  have hx0_2 : x0 = [110, 111, 98, 111, 100, 121] := hx0
  clear hx0
  subst hx0_2
  clear hxx0
  go_enter Tryz.func137, Tryz.ntmps137
  go_wp2_with fail
  refine (LP.out _).mono ?_
  rintro e w9 ⟨rfl, rfl⟩
  go_wp2_with fail
  go_quiet (fail)
  go_wp2_with fail
  have BA : Below w.heap.size w ((w.drewN nq).alloc (.cells #[.int .i64 0, .int .i64 0] 189)) := (bdrewN (Below.refl _ _) nq).alloc (Nat.le_refl _) _
  have NA : BlkAt ((w.drewN nq).alloc (.cells #[.int .i64 0, .int .i64 0] 189)) w.heap.size #[.int .i64 0, .int .i64 0] 189 := blk_now rfl
  have BA0 := Lib.hid BA
  have NA0 := Lib.hid NA
  refine wp_loop_rounds 2 ?_
  generalize (w.drewN nq).alloc (.cells #[.int .i64 0, .int .i64 0] 189) = W0 at BA NA BA0 NA0 ⊢
  have u0a : W0.cell? ⟨b, off, none⟩ = some (.int .i64 _k0) := cell_lift (by simpa using HT0.out.1) BA
  have u0b : W0.cell? ⟨b, off + 1, none⟩ = some (.string ⟨#[110, 111, 98, 111, 100, 121]⟩) := cell_lift (by simpa using HT0.out.2.1) BA
  have u0c : W0.cell? ⟨b, off + 2, none⟩ = some (.int .i64 (Rs.nm l 0)) := cell_lift (by simpa using HT0.out.2.2) BA
  have BY := bstep BA ((Below.refl _ _).alloc (Nat.le_refl _) (.cells #[.int .i64 _k0, .string ⟨#[110, 111, 98, 111, 100, 121]⟩, .int .i64 (Rs.nm l 0)] 115))
  have NY := BlkAt.alloc NA (.cells #[.int .i64 _k0, .string ⟨#[110, 111, 98, 111, 100, 121]⟩, .int .i64 (Rs.nm l 0)] 115)
  have TY := BlkAt.new W0 #[.int .i64 _k0, .string ⟨#[110, 111, 98, 111, 100, 121]⟩, .int .i64 (Rs.nm l 0)] 115
  rw [rounds_succ]
  go_wp2_with fail
  generalize W0.alloc (.cells #[.int .i64 _k0, .string ⟨#[110, 111, 98, 111, 100, 121]⟩, .int .i64 (Rs.nm l 0)] 115) = Y0 at BY NY TY ⊢
  have tc1 : Y0.cell? ⟨W0.heap.size, 1, none⟩ = some (.string ⟨#[110, 111, 98, 111, 100, 121]⟩) := TY.cell rfl
  have HS0 : Hid (∀ W, Below Y0.heap.size Y0 W → W.cell? ⟨bc, 0, none⟩ = some (.slice P1 p1 r1) ∧ W.cell? ⟨bc, 1, none⟩ = some (.slice P2 p2 r2) ∧ W.cell? ⟨bc, 2, none⟩ = some (.slice P3 p3 r3) ∧ W.cell? ⟨bc, 3, none⟩ = some (.slice (some ⟨gz, 0, none⟩) np cap0) ∧ W.cell? ⟨W0.heap.size, 1, none⟩ = some (.string ⟨#[110, 111, 98, 111, 100, 121]⟩)) := Lib.hid fun W hW => ⟨(HSL.out W (bstep BY hW)).1, (HSL.out W (bstep BY hW)).2.1, (HSL.out W (bstep BY hW)).2.2.1, (HSL.out W (bstep BY hW)).2.2.2, cell_lift tc1 hW⟩
  have CG := Lib.hid (fun (W : World) (hW : Below Y0.heap.size Y0 W) => CF0.out W (bstep BY hW))
  clear tc1 u0a u0b u0c
  go_region_held3 (fun W => W.cell? ⟨bc, 0, none⟩ = some (.slice P1 p1 r1) ∧ W.cell? ⟨bc, 1, none⟩ = some (.slice P2 p2 r2) ∧ W.cell? ⟨bc, 2, none⟩ = some (.slice P3 p3 r3) ∧ W.cell? ⟨bc, 3, none⟩ = some (.slice (some ⟨gz, 0, none⟩) np cap0) ∧ W.cell? ⟨W0.heap.size, 1, none⟩ = some (.string ⟨#[110, 111, 98, 111, 100, 121]⟩))
    (first | exact HS0.out _ (bdrewN (Below.refl _ _) 1) | exact HS0.out _ hw3)
    (first | (go_at_call 16; ((with_reducible refine (CG.out _ (Below.refl _ _).drew).mono ?_); rintro e Z0 ⟨rfl, hb3⟩; have hw3 : Below Y0.heap.size Y0 Z0 := ((Below.refl Y0.heap.size Y0).drew).trans hb3)))
  have BZ := bstep BY hw3
  have NZ := NY.after hw3
  have TZ := TY.after hw3
  have g1 : Z0.cell? ⟨gk, 0, none⟩ = some (.int .i64 1) := cell_lift HGK.out BZ
  have tz1 : Z0.cell? ⟨W0.heap.size, 1, none⟩ = some (.string ⟨#[110, 111, 98, 111, 100, 121]⟩) := TZ.cell rfl
  obtain ⟨a0, a1, af0, af1⟩ := arr_cells NZ
  have HBZ := Lib.hid BZ
  have HNZ := Lib.hid NZ
  clear hb3 HS0 CG BA NA BA0 NA0 BY NY TY TZ BZ NZ hw3
  go_wp2_with fail
  have BA : Below w.heap.size w (Z0.setCell ⟨w.heap.size, 0, none⟩ (.int .i64 (-1))) := HBZ.out.setCell (p := ⟨w.heap.size, 0, none⟩) (Nat.le_refl _) _
  have NA : BlkAt (Z0.setCell ⟨w.heap.size, 0, none⟩ (.int .i64 (-1))) w.heap.size #[.int .i64 (-1), .int .i64 (0)] 189 := HNZ.out.set_ 0 _
  have BA0 := Lib.hid BA
  have NA0 := Lib.hid NA
  generalize Z0.setCell ⟨w.heap.size, 0, none⟩ (.int .i64 (-1)) = W1 at BA NA BA0 NA0 ⊢
  clear a0 a1 af0 af1 g1 tz1 HBZ HNZ
  have h3 := h.below BA
  have HB3 := Lib.hid (But.of_below (bc := bc) BA hle)
  have hle3 := h3.le
  have hlt3 := h3.lt
  have hs3 := BA.size
  have u1 : W1.cell? ⟨b, off + 3 + 2, none⟩ = some (.int .i64 (Rs.nm l 1)) := cell_lift HT1.out BA
  have u2 : W1.cell? ⟨b, off + 3 + 3 + 2, none⟩ = some (.int .i64 (Rs.nm l 2)) := cell_lift HT2.out BA
  have g1 : W1.cell? ⟨gk, 0, none⟩ = some (.int .i64 1) := cell_lift HGK.out BA
  have hcl2 : W1.cell? ⟨gz, m * 3 + 2, none⟩ = some (eSch (z, (vs (.la m), vs (.ed m))) 2) := cell_lift HCL.out.1 BA
  have hfr2 : W1.frozen? ⟨gz, m * 3 + 2, none⟩ = false := (BA.frozen (p := ⟨gz, m * 3 + 2, none⟩) hsz).trans HCL.out.2
  simp only [eSch] at hcl2
  clear BA0 NA0 LP k1
  rw [rounds_succ]
  go_wp2_with fail
  obtain ⟨hO1, hlen1⟩ := own_list (h3.rEd hz) (by omega)
  have s0 := hcl2
  have hfr := hfr2
  have hrow : ∀ g, (sv (vs (.ed m))).ownBlock = some g → lo ≤ g ∧ g < w.heap.size := fun g hg => h.far hg
  have hap := hap0
  obtain ⟨v1, hv1⟩ : ∃ v, vs (.ed m) = v := ⟨_, rfl⟩
  rw [hv1] at hO1 hlen1 hrow hap
  try rw [hv1] at s0
  obtain ⟨A1, n1, c1⟩ := v1
  simp only [sv] at s0 hO1 hrow hlen1 hap
  have HZ : Hid ((z.edits).length = n1 ∧ n1 ≤ 900000) := Lib.hid ⟨hlen1, by omega⟩
  have HO := Lib.hid hO1
  have hσ : some gz ≠ (Value.slice A1 n1 c1).ownBlock := fun e => hap e.symm
  have r0 : some gk ≠ (Value.slice A1 n1 c1).ownBlock := fun e => by have := hrow _ e.symm; omega
  have hz0 : gk ≠ gz := by omega
  have m0 : W1.cell? ⟨gk, 0, none⟩ = some (.int .i64 1) := g1
  have r1 : some w.heap.size ≠ (Value.slice A1 n1 c1).ownBlock := fun e => by have := hrow _ e.symm; omega
  have hz1 : w.heap.size ≠ gz := by omega
  have m1 : W1.cell? ⟨w.heap.size, 0, none⟩ = some (.int .i64 (-1)) := NA.cell rfl
  have r2 : some w.heap.size ≠ (Value.slice A1 n1 c1).ownBlock := fun e => by have := hrow _ e.symm; omega
  have hz2 : w.heap.size ≠ gz := by omega
  have m2 : W1.cell? ⟨w.heap.size, 1, none⟩ = some (.int .i64 (0)) := NA.cell rfl
  have r3 : some b ≠ (Value.slice A1 n1 c1).ownBlock := fun e => by have := hrow _ e.symm; omega
  have hz3 : b ≠ gz := by omega
  have m3 : W1.cell? ⟨b, off + 3 + 2, none⟩ = some (.int .i64 (Rs.nm l 1)) := u1
  have r4 : some b ≠ (Value.slice A1 n1 c1).ownBlock := fun e => by have := hrow _ e.symm; omega
  have hz4 : b ≠ gz := by omega
  have m4 : W1.cell? ⟨b, off + 3 + 3 + 2, none⟩ = some (.int .i64 (Rs.nm l 2)) := u2
  have HS : Hid (∀ W, W1.grownBy W (Value.slice A1 n1 c1).ownBlock → W.cell? ⟨gk, 0, none⟩ = some (.int .i64 1) ∧ W.cell? ⟨w.heap.size, 0, none⟩ = some (.int .i64 (-1)) ∧ W.cell? ⟨w.heap.size, 1, none⟩ = some (.int .i64 (0)) ∧ W.cell? ⟨b, off + 3 + 2, none⟩ = some (.int .i64 (Rs.nm l 1)) ∧ W.cell? ⟨b, off + 3 + 3 + 2, none⟩ = some (.int .i64 (Rs.nm l 2))) := Lib.hid fun W hW => ⟨lim r0 m0 W hW, lim r1 m1 W hW, lim r2 m2 W hW, lim r3 m3 W hW, lim r4 m4 W hW⟩
  have HZ2 : Hid (∀ W v, W1.grownBy W (Value.slice A1 n1 c1).ownBlock → (W.setCell ⟨gz, m * 3 + 2, none⟩ v).cell? ⟨gk, 0, none⟩ = some (.int .i64 1) ∧ (W.setCell ⟨gz, m * 3 + 2, none⟩ v).cell? ⟨w.heap.size, 0, none⟩ = some (.int .i64 (-1)) ∧ (W.setCell ⟨gz, m * 3 + 2, none⟩ v).cell? ⟨w.heap.size, 1, none⟩ = some (.int .i64 (0)) ∧ (W.setCell ⟨gz, m * 3 + 2, none⟩ v).cell? ⟨b, off + 3 + 2, none⟩ = some (.int .i64 (Rs.nm l 1)) ∧ (W.setCell ⟨gz, m * 3 + 2, none⟩ v).cell? ⟨b, off + 3 + 3 + 2, none⟩ = some (.int .i64 (Rs.nm l 2))) := Lib.hid fun W v hW => ⟨limZ r0 hz0 m0 W v hW, limZ r1 hz1 m1 W v hW, limZ r2 hz2 m2 W v hW, limZ r3 hz3 m3 W v hW, limZ r4 hz4 m4 W v hW⟩
  have HC : Hid (∀ W, W1.grownBy W (Value.slice A1 n1 c1).ownBlock → W.cell? ⟨gz, m * 3 + 2, none⟩ = some (.slice A1 n1 c1)) := Lib.hid (lim hσ s0)
  have HCF : Hid (∀ W, W1.grownBy W (Value.slice A1 n1 c1).ownBlock → W.frozen? ⟨gz, m * 3 + 2, none⟩ = false) := Lib.hid (limF hσ (by omega) hfr)
  have HF := Lib.hid (fun (W W1 : World) (g cap : Nat) => fin_edit (W := W) (W1 := W1) (g := g) (cap := cap) (r := ⟨1, -1, 0, Rs.nm l 1, Rs.nm l 2⟩) h3 hz rfl hv1 hlen1 (by rw [ez]))
  clear hO1 hrow hlen1 s0 hfr hσ r0 hz0 m0 r1 hz1 m1 r2 hz2 m2 r3 hz3 m3 r4 hz4 m4
  go_wp2_with fail
  refine wp_region_held_drew (S := fun W => W.cell? ⟨gk, 0, none⟩ = some (.int .i64 1) ∧ W.cell? ⟨w.heap.size, 0, none⟩ = some (.int .i64 (-1)) ∧ W.cell? ⟨w.heap.size, 1, none⟩ = some (.int .i64 (0)) ∧ W.cell? ⟨b, off + 3 + 2, none⟩ = some (.int .i64 (Rs.nm l 1)) ∧ W.cell? ⟨b, off + 3 + 3 + 2, none⟩ = some (.int .i64 (Rs.nm l 2))) (by kernel_rfl) (HS.out _ (grown_drew (grown_refl _ _))) (fun hH => ?_)
  refine wpAnyH_take (i := 0) (oi := ⟨some 60, .move (.tmp 6), 185, "build.go:216", #[], none⟩) (v := ?_) rfl (by kernel_rfl) (by kernel_rfl) (by kernel_rfl) (fun _ _ _ h => h) (Or.inl ⟨by rfl, ?_⟩) hH ?_
  rotate_left
  focus (intro w hSw; (try dsimp only at hSw); go_simp; (try with_reducible rfl); done)
  try simp only [Act.put, List.setIfInBounds_toArray, List.set_cons_zero, List.set_cons_succ]
  refine wpAnyH_take (i := 1) (oi := ⟨some 61, .move (.tmp 6), 185, "build.go:216", #[], none⟩) (v := ?_) rfl (by kernel_rfl) (by kernel_rfl) (by kernel_rfl) (fun _ _ _ h => h) (Or.inl ⟨by rfl, ?_⟩) hH ?_
  rotate_left
  focus (intro w hSw; (try dsimp only at hSw); go_simp; (try with_reducible rfl); done)
  try simp only [Act.put, List.setIfInBounds_toArray, List.set_cons_zero, List.set_cons_succ]
  refine wpAnyH_take (i := 2) (oi := ⟨some 62, .nilCheck (.tmp 61), 0, "build.go:216", #[⟨1, .data⟩], none⟩) (v := ?_) rfl (by kernel_rfl) (by kernel_rfl) (by kernel_rfl) (fun _ _ _ h => h) (Or.inl ⟨by rfl, ?_⟩) hH ?_
  rotate_left
  focus (intro w hSw; (try dsimp only at hSw); go_simp; (try with_reducible rfl); done)
  try simp only [Act.put, List.setIfInBounds_toArray, List.set_cons_zero, List.set_cons_succ]
  refine wpAnyH_take (i := 3) (oi := ⟨some 63, .fieldAddr 44 (.tmp 62) 2, 0, "build.go:216", #[⟨2, .data⟩], none⟩) (v := ?_) rfl (by kernel_rfl) (by kernel_rfl) (by kernel_rfl) (fun _ _ _ h => h) (Or.inl ⟨by rfl, ?_⟩) hH ?_
  rotate_left
  focus (intro w hSw; (try dsimp only at hSw); go_simp; (try with_reducible rfl); done)
  try simp only [Act.put, List.setIfInBounds_toArray, List.set_cons_zero, List.set_cons_succ]
  refine wpAnyH_take (i := 5) (oi := ⟨some 65, .load 3 (.tmp 2), 3, "build.go:216", #[], none⟩) (v := ?_) rfl (by kernel_rfl) (by kernel_rfl) (by kernel_rfl) (fun _ _ _ h => h) (Or.inl ⟨by rfl, ?_⟩) hH ?_
  rotate_left
  focus (intro w hSw; (try dsimp only at hSw); go_simp; (try with_reducible rfl); done)
  try simp only [Act.put, List.setIfInBounds_toArray, List.set_cons_zero, List.set_cons_succ]
  refine wpAnyH_take (i := 6) (oi := ⟨some 66, .indexAddr 189 (.tmp 9) (.const (.int .i64 0)), 0, "build.go:216", #[], none⟩) (v := ?_) rfl (by kernel_rfl) (by kernel_rfl) (by kernel_rfl) (fun _ _ _ h => h) (Or.inl ⟨by rfl, ?_⟩) hH ?_
  rotate_left
  focus (intro w hSw; (try dsimp only at hSw); go_simp; (try with_reducible rfl); done)
  try simp only [Act.put, List.setIfInBounds_toArray, List.set_cons_zero, List.set_cons_succ]
  refine wpAnyH_take (i := 7) (oi := ⟨some 67, .load 3 (.tmp 66), 3, "build.go:216", #[⟨6, .data⟩], none⟩) (v := ?_) rfl (by kernel_rfl) (by kernel_rfl) (by kernel_rfl) (fun _ _ _ h => h) (Or.inl ⟨by rfl, ?_⟩) hH ?_
  rotate_left
  focus (intro w hSw; (try dsimp only at hSw); go_simp; (try with_reducible rfl); done)
  try simp only [Act.put, List.setIfInBounds_toArray, List.set_cons_zero, List.set_cons_succ]
  refine wpAnyH_take (i := 8) (oi := ⟨some 68, .indexAddr 189 (.tmp 9) (.const (.int .i64 1)), 0, "build.go:216", #[], none⟩) (v := ?_) rfl (by kernel_rfl) (by kernel_rfl) (by kernel_rfl) (fun _ _ _ h => h) (Or.inl ⟨by rfl, ?_⟩) hH ?_
  rotate_left
  focus (intro w hSw; (try dsimp only at hSw); go_simp; (try with_reducible rfl); done)
  try simp only [Act.put, List.setIfInBounds_toArray, List.set_cons_zero, List.set_cons_succ]
  refine wpAnyH_take (i := 9) (oi := ⟨some 69, .load 3 (.tmp 68), 3, "build.go:216", #[⟨8, .data⟩], none⟩) (v := ?_) rfl (by kernel_rfl) (by kernel_rfl) (by kernel_rfl) (fun _ _ _ h => h) (Or.inl ⟨by rfl, ?_⟩) hH ?_
  rotate_left
  focus (intro w hSw; (try dsimp only at hSw); go_simp; (try with_reducible rfl); done)
  try simp only [Act.put, List.setIfInBounds_toArray, List.set_cons_zero, List.set_cons_succ]
  refine wpAnyH_take (i := 10) (oi := ⟨some 70, .move (.tmp 8), 104, "build.go:216", #[], none⟩) (v := ?_) rfl (by kernel_rfl) (by kernel_rfl) (by kernel_rfl) (fun _ _ _ h => h) (Or.inl ⟨by rfl, ?_⟩) hH ?_
  rotate_left
  focus (intro w hSw; (try dsimp only at hSw); go_simp; (try with_reducible rfl); done)
  try simp only [Act.put, List.setIfInBounds_toArray, List.set_cons_zero, List.set_cons_succ]
  refine wpAnyH_take (i := 11) (oi := ⟨some 71, .indexAddr 104 (.tmp 70) (.const (.int .i64 0)), 0, "build.go:216", #[⟨10, .data⟩], none⟩) (v := ?_) rfl (by kernel_rfl) (by kernel_rfl) (by kernel_rfl) (fun _ _ _ h => h) (Or.inl ⟨by rfl, ?_⟩) hH ?_
  rotate_left
  focus (intro w hSw; (try dsimp only at hSw); go_simp; (try with_reducible rfl); done)
  try simp only [Act.put, List.setIfInBounds_toArray, List.set_cons_zero, List.set_cons_succ]
  refine wpAnyH_take (i := 12) (oi := ⟨some 72, .fieldAddr 115 (.tmp 71) 2, 0, "build.go:216", #[⟨11, .data⟩], none⟩) (v := ?_) rfl (by kernel_rfl) (by kernel_rfl) (by kernel_rfl) (fun _ _ _ h => h) (Or.inl ⟨by rfl, ?_⟩) hH ?_
  rotate_left
  focus (intro w hSw; (try dsimp only at hSw); go_simp; (try with_reducible rfl); done)
  try simp only [Act.put, List.setIfInBounds_toArray, List.set_cons_zero, List.set_cons_succ]
  refine wpAnyH_take (i := 13) (oi := ⟨some 73, .load 3 (.tmp 72), 3, "build.go:216", #[⟨12, .data⟩], none⟩) (v := ?_) rfl (by kernel_rfl) (by kernel_rfl) (by kernel_rfl) (fun _ _ _ h => h) (Or.inl ⟨by rfl, ?_⟩) hH ?_
  rotate_left
  focus (intro w hSw; (try dsimp only at hSw); go_simp; (try with_reducible rfl); done)
  try simp only [Act.put, List.setIfInBounds_toArray, List.set_cons_zero, List.set_cons_succ]
  refine wpAnyH_take (i := 14) (oi := ⟨some 74, .move (.tmp 8), 104, "build.go:216", #[], none⟩) (v := ?_) rfl (by kernel_rfl) (by kernel_rfl) (by kernel_rfl) (fun _ _ _ h => h) (Or.inl ⟨by rfl, ?_⟩) hH ?_
  rotate_left
  focus (intro w hSw; (try dsimp only at hSw); go_simp; (try with_reducible rfl); done)
  try simp only [Act.put, List.setIfInBounds_toArray, List.set_cons_zero, List.set_cons_succ]
  refine wpAnyH_take (i := 15) (oi := ⟨some 75, .indexAddr 104 (.tmp 74) (.const (.int .i64 1)), 0, "build.go:216", #[⟨14, .data⟩], none⟩) (v := ?_) rfl (by kernel_rfl) (by kernel_rfl) (by kernel_rfl) (fun _ _ _ h => h) (Or.inl ⟨by rfl, ?_⟩) hH ?_
  rotate_left
  focus (intro w hSw; (try dsimp only at hSw); go_simp; (try with_reducible rfl); done)
  try simp only [Act.put, List.setIfInBounds_toArray, List.set_cons_zero, List.set_cons_succ]
  refine wpAnyH_take (i := 16) (oi := ⟨some 76, .fieldAddr 115 (.tmp 75) 2, 0, "build.go:216", #[⟨15, .data⟩], none⟩) (v := ?_) rfl (by kernel_rfl) (by kernel_rfl) (by kernel_rfl) (fun _ _ _ h => h) (Or.inl ⟨by rfl, ?_⟩) hH ?_
  rotate_left
  focus (intro w hSw; (try dsimp only at hSw); go_simp; (try with_reducible rfl); done)
  try simp only [Act.put, List.setIfInBounds_toArray, List.set_cons_zero, List.set_cons_succ]
  refine wpAnyH_take (i := 17) (oi := ⟨some 77, .load 3 (.tmp 76), 3, "build.go:216", #[⟨16, .data⟩], none⟩) (v := ?_) rfl (by kernel_rfl) (by kernel_rfl) (by kernel_rfl) (fun _ _ _ h => h) (Or.inl ⟨by rfl, ?_⟩) hH ?_
  rotate_left
  focus (intro w hSw; (try dsimp only at hSw); go_simp; (try with_reducible rfl); done)
  try simp only [Act.put, List.setIfInBounds_toArray, List.set_cons_zero, List.set_cons_succ]
  refine wpAnyH_take (i := 18) (oi := ⟨some 78, .build 46 #[(0, .tmp 65), (1, .tmp 67), (2, .tmp 69), (3, .tmp 73), (4, .tmp 77)], 46, "build.go:216", #[⟨5, .data⟩, ⟨7, .data⟩, ⟨9, .data⟩, ⟨13, .data⟩, ⟨17, .data⟩], none⟩) (v := ?_) rfl (by kernel_rfl) (by kernel_rfl) (by kernel_rfl) (fun _ _ _ h => h) (Or.inl ⟨by rfl, ?_⟩) hH ?_
  rotate_left
  focus (intro w hSw; (try dsimp only at hSw); go_simp; (try with_reducible rfl); done)
  try simp only [Act.put, List.setIfInBounds_toArray, List.set_cons_zero, List.set_cons_succ]
  refine wpAnyH_ready (rs := [4, 19]) (by kernel_rfl) (by simp) ?_
  refine AllReadyH.cons (o := ⟨some 64, .load 42 (.tmp 63), 42, "build.go:216", #[⟨3, .data⟩], none⟩) rfl (fun K hK => ?_) (AllReadyH.cons (o := ⟨some 79, .buildSlice 42 1 #[(0, .tmp 78)], 42, "build.go:216", #[⟨18, .data⟩], none⟩) rfl (fun K hK => ?_) AllReadyH.nil)
  · have y0 := HC.out _ (grown_drew (grown_refl _ _))
    have y3 := fun o => HC.out _ (grown_drew (grown_alloc (grown_refl W1 _) o))
    have y4 := fun o => HC.out _ (grown_alloc (grown_drew (grown_refl W1 _)) o)
    go_simp
    clear y0 y3 y4
    refine hK.out _ _ (HS.out _ (by first | exact grown_drew (grown_refl _ _) | exact grown_drew (grown_alloc (grown_refl _ _) _) | exact grown_alloc (grown_drew (grown_refl _ _)) _)) (fun hH2 => ?_)
    clear hK K hH
    have hH := hH2
    clear hH2
    try simp only [Act.put, List.setIfInBounds_toArray, List.set_cons_zero, List.set_cons_succ]
    refine wpAnyH_ready (rs := [19]) (by kernel_rfl) (by simp) ?_
    refine AllReadyH.cons (o := ⟨some 79, .buildSlice 42 1 #[(0, .tmp 78)], 42, "build.go:216", #[⟨18, .data⟩], none⟩) rfl (fun K hK => ?_) AllReadyH.nil
    go_simp
    refine hK.out _ _ (HS.out _ (by first | exact grown_drew (grown_refl _ _) | exact grown_drew (grown_alloc (grown_refl _ _) _) | exact grown_alloc (grown_drew (grown_refl _ _)) _)) (fun hH2 => ?_)
    clear hK K hH
    have hH := hH2
    clear hH2
    try simp only [Act.put, List.setIfInBounds_toArray, List.set_cons_zero, List.set_cons_succ]
    refine wpAnyH_ready (rs := [20]) (by kernel_rfl) (by simp) ?_
    refine AllReadyH.cons (o := ⟨some 80, .call { callee := .builtin .append, args := #[.tmp 64, .tmp 79], argTypes := #[42, 42] }, 42, "build.go:216", #[⟨4, .data⟩, ⟨19, .data⟩], none⟩) rfl (fun K hK => ?_) AllReadyH.nil
    (refine step_append_row kEdi _ (by rfl) (.tmp 64) (.tmp 79) (by rfl) lo (.slice A1 n1 c1) (z.edits) (by rfl) (by first | exact (HO.out.alloc _).drewN 1 | exact (HO.out.drewN 1).alloc _) W1.heap.size (⟨1, -1, 0, Rs.nm l 1, Rs.nm l 2⟩ : Rs.Edit) (by rfl) (one_new (by first | exact BlkAt.drewN (blk_now rfl) 1 | exact blk_now rfl) (edi_vals ⟨1, -1, 0, Rs.nm l 1, Rs.nm l 2⟩)) (by have := HZ.out; omega) (by simp; omega) ?_; intro g cap w' hO' hg hgo hlt'; have hq : W1.grownBy w' (Value.slice A1 n1 c1).ownBlock := grown_trans (by first | exact grown_drew (grown_alloc (grown_refl _ _) _) | exact grown_alloc (grown_drew (grown_refl _ _)) _) hg; have y1 := HC.out _ hq; have y2 := HCF.out _ hq)
    refine hK.out _ _ (HS.out _ hq) (fun hH2 => ?_)
    clear hK K hH
    have hH := hH2
    clear hH2
    try simp only [Act.put, List.setIfInBounds_toArray, List.set_cons_zero, List.set_cons_succ]
    refine wpAnyH_take (i := 21) (oi := ⟨some 81, .nilCheck (.tmp 60), 0, "build.go:216", #[⟨0, .data⟩, ⟨0, .phase⟩, ⟨1, .phase⟩, ⟨2, .phase⟩, ⟨3, .phase⟩, ⟨4, .phase⟩, ⟨5, .phase⟩, ⟨6, .phase⟩, ⟨7, .phase⟩, ⟨8, .phase⟩, ⟨9, .phase⟩, ⟨10, .phase⟩, ⟨11, .phase⟩, ⟨12, .phase⟩, ⟨13, .phase⟩, ⟨14, .phase⟩, ⟨15, .phase⟩, ⟨16, .phase⟩, ⟨17, .phase⟩, ⟨18, .phase⟩, ⟨19, .phase⟩, ⟨20, .phase⟩], none⟩) (v := ?_) rfl (by kernel_rfl) (by kernel_rfl) (by kernel_rfl) (fun _ _ _ h => h) (Or.inl ⟨by rfl, ?_⟩) hH ?_
    rotate_left
    focus (intro w hSw; (try dsimp only at hSw); go_simp; (try with_reducible rfl); done)
    try simp only [Act.put, List.setIfInBounds_toArray, List.set_cons_zero, List.set_cons_succ]
    refine wpAnyH_take (i := 22) (oi := ⟨some 82, .fieldAddr 44 (.tmp 81) 2, 0, "build.go:216", #[⟨21, .data⟩, ⟨0, .phase⟩, ⟨1, .phase⟩, ⟨2, .phase⟩, ⟨3, .phase⟩, ⟨4, .phase⟩, ⟨5, .phase⟩, ⟨6, .phase⟩, ⟨7, .phase⟩, ⟨8, .phase⟩, ⟨9, .phase⟩, ⟨10, .phase⟩, ⟨11, .phase⟩, ⟨12, .phase⟩, ⟨13, .phase⟩, ⟨14, .phase⟩, ⟨15, .phase⟩, ⟨16, .phase⟩, ⟨17, .phase⟩, ⟨18, .phase⟩, ⟨19, .phase⟩, ⟨20, .phase⟩], none⟩) (v := ?_) rfl (by kernel_rfl) (by kernel_rfl) (by kernel_rfl) (fun _ _ _ h => h) (Or.inl ⟨by rfl, ?_⟩) hH ?_
    rotate_left
    focus (intro w hSw; (try dsimp only at hSw); go_simp; (try with_reducible rfl); done)
    try simp only [Act.put, List.setIfInBounds_toArray, List.set_cons_zero, List.set_cons_succ]
    refine wpAnyH_ready (rs := [23]) (by kernel_rfl) (by simp) ?_
    refine AllReadyH.cons (o := ⟨none, .store 42 (.tmp 82) (.tmp 80), 0, "build.go:216", #[⟨22, .data⟩, ⟨20, .data⟩, ⟨20, .chain⟩, ⟨0, .phase⟩, ⟨1, .phase⟩, ⟨2, .phase⟩, ⟨3, .phase⟩, ⟨4, .phase⟩, ⟨5, .phase⟩, ⟨6, .phase⟩, ⟨7, .phase⟩, ⟨8, .phase⟩, ⟨9, .phase⟩, ⟨10, .phase⟩, ⟨11, .phase⟩, ⟨12, .phase⟩, ⟨13, .phase⟩, ⟨14, .phase⟩, ⟨15, .phase⟩, ⟨16, .phase⟩, ⟨17, .phase⟩, ⟨18, .phase⟩, ⟨19, .phase⟩, ⟨20, .phase⟩], none⟩) rfl (fun K hK => ?_) AllReadyH.nil
    go_simp
    refine hK.out _ _ (HZ2.out _ _ hq) (fun hH2 => ?_)
    clear hK K hH
    have hH := hH2
    clear hH2
    try simp only [Act.put, List.setIfInBounds_toArray, List.set_cons_zero, List.set_cons_succ]
    refine wpAnyH_done (by kernel_rfl) ?_ _
    rw [HZ.out.1]
    go_wp2_with fail
    go_ret
    exact (HF.out _ _ _ _ (by first | exact bdrewN ((Below.refl _ _).alloc (Nat.le_refl _) _) 1 | exact (bdrewN (Below.refl _ _) 1).alloc (Nat.le_refl _) _) hO' hg hgo).step HB3.out
  · go_simp
    refine hK.out _ _ (HS.out _ (by first | exact grown_drew (grown_refl _ _) | exact grown_drew (grown_alloc (grown_refl _ _) _) | exact grown_alloc (grown_drew (grown_refl _ _)) _)) (fun hH2 => ?_)
    clear hK K hH
    have hH := hH2
    clear hH2
    try simp only [Act.put, List.setIfInBounds_toArray, List.set_cons_zero, List.set_cons_succ]
    refine wpAnyH_ready (rs := [4]) (by kernel_rfl) (by simp) ?_
    refine AllReadyH.cons (o := ⟨some 64, .load 42 (.tmp 63), 42, "build.go:216", #[⟨3, .data⟩], none⟩) rfl (fun K hK => ?_) AllReadyH.nil
    have y0 := HC.out _ (grown_drew (grown_refl _ _))
    have y3 := fun o => HC.out _ (grown_drew (grown_alloc (grown_refl W1 _) o))
    have y4 := fun o => HC.out _ (grown_alloc (grown_drew (grown_refl W1 _)) o)
    go_simp
    clear y0 y3 y4
    refine hK.out _ _ (HS.out _ (by first | exact grown_drew (grown_refl _ _) | exact grown_drew (grown_alloc (grown_refl _ _) _) | exact grown_alloc (grown_drew (grown_refl _ _)) _)) (fun hH2 => ?_)
    clear hK K hH
    have hH := hH2
    clear hH2
    try simp only [Act.put, List.setIfInBounds_toArray, List.set_cons_zero, List.set_cons_succ]
    refine wpAnyH_ready (rs := [20]) (by kernel_rfl) (by simp) ?_
    refine AllReadyH.cons (o := ⟨some 80, .call { callee := .builtin .append, args := #[.tmp 64, .tmp 79], argTypes := #[42, 42] }, 42, "build.go:216", #[⟨4, .data⟩, ⟨19, .data⟩], none⟩) rfl (fun K hK => ?_) AllReadyH.nil
    (refine step_append_row kEdi _ (by rfl) (.tmp 64) (.tmp 79) (by rfl) lo (.slice A1 n1 c1) (z.edits) (by rfl) (by first | exact (HO.out.alloc _).drewN 1 | exact (HO.out.drewN 1).alloc _) W1.heap.size (⟨1, -1, 0, Rs.nm l 1, Rs.nm l 2⟩ : Rs.Edit) (by rfl) (one_new (by first | exact BlkAt.drewN (blk_now rfl) 1 | exact blk_now rfl) (edi_vals ⟨1, -1, 0, Rs.nm l 1, Rs.nm l 2⟩)) (by have := HZ.out; omega) (by simp; omega) ?_; intro g cap w' hO' hg hgo hlt'; have hq : W1.grownBy w' (Value.slice A1 n1 c1).ownBlock := grown_trans (by first | exact grown_drew (grown_alloc (grown_refl _ _) _) | exact grown_alloc (grown_drew (grown_refl _ _)) _) hg; have y1 := HC.out _ hq; have y2 := HCF.out _ hq)
    refine hK.out _ _ (HS.out _ hq) (fun hH2 => ?_)
    clear hK K hH
    have hH := hH2
    clear hH2
    try simp only [Act.put, List.setIfInBounds_toArray, List.set_cons_zero, List.set_cons_succ]
    refine wpAnyH_take (i := 21) (oi := ⟨some 81, .nilCheck (.tmp 60), 0, "build.go:216", #[⟨0, .data⟩, ⟨0, .phase⟩, ⟨1, .phase⟩, ⟨2, .phase⟩, ⟨3, .phase⟩, ⟨4, .phase⟩, ⟨5, .phase⟩, ⟨6, .phase⟩, ⟨7, .phase⟩, ⟨8, .phase⟩, ⟨9, .phase⟩, ⟨10, .phase⟩, ⟨11, .phase⟩, ⟨12, .phase⟩, ⟨13, .phase⟩, ⟨14, .phase⟩, ⟨15, .phase⟩, ⟨16, .phase⟩, ⟨17, .phase⟩, ⟨18, .phase⟩, ⟨19, .phase⟩, ⟨20, .phase⟩], none⟩) (v := ?_) rfl (by kernel_rfl) (by kernel_rfl) (by kernel_rfl) (fun _ _ _ h => h) (Or.inl ⟨by rfl, ?_⟩) hH ?_
    rotate_left
    focus (intro w hSw; (try dsimp only at hSw); go_simp; (try with_reducible rfl); done)
    try simp only [Act.put, List.setIfInBounds_toArray, List.set_cons_zero, List.set_cons_succ]
    refine wpAnyH_take (i := 22) (oi := ⟨some 82, .fieldAddr 44 (.tmp 81) 2, 0, "build.go:216", #[⟨21, .data⟩, ⟨0, .phase⟩, ⟨1, .phase⟩, ⟨2, .phase⟩, ⟨3, .phase⟩, ⟨4, .phase⟩, ⟨5, .phase⟩, ⟨6, .phase⟩, ⟨7, .phase⟩, ⟨8, .phase⟩, ⟨9, .phase⟩, ⟨10, .phase⟩, ⟨11, .phase⟩, ⟨12, .phase⟩, ⟨13, .phase⟩, ⟨14, .phase⟩, ⟨15, .phase⟩, ⟨16, .phase⟩, ⟨17, .phase⟩, ⟨18, .phase⟩, ⟨19, .phase⟩, ⟨20, .phase⟩], none⟩) (v := ?_) rfl (by kernel_rfl) (by kernel_rfl) (by kernel_rfl) (fun _ _ _ h => h) (Or.inl ⟨by rfl, ?_⟩) hH ?_
    rotate_left
    focus (intro w hSw; (try dsimp only at hSw); go_simp; (try with_reducible rfl); done)
    try simp only [Act.put, List.setIfInBounds_toArray, List.set_cons_zero, List.set_cons_succ]
    refine wpAnyH_ready (rs := [23]) (by kernel_rfl) (by simp) ?_
    refine AllReadyH.cons (o := ⟨none, .store 42 (.tmp 82) (.tmp 80), 0, "build.go:216", #[⟨22, .data⟩, ⟨20, .data⟩, ⟨20, .chain⟩, ⟨0, .phase⟩, ⟨1, .phase⟩, ⟨2, .phase⟩, ⟨3, .phase⟩, ⟨4, .phase⟩, ⟨5, .phase⟩, ⟨6, .phase⟩, ⟨7, .phase⟩, ⟨8, .phase⟩, ⟨9, .phase⟩, ⟨10, .phase⟩, ⟨11, .phase⟩, ⟨12, .phase⟩, ⟨13, .phase⟩, ⟨14, .phase⟩, ⟨15, .phase⟩, ⟨16, .phase⟩, ⟨17, .phase⟩, ⟨18, .phase⟩, ⟨19, .phase⟩, ⟨20, .phase⟩], none⟩) rfl (fun K hK => ?_) AllReadyH.nil
    go_simp
    refine hK.out _ _ (HZ2.out _ _ hq) (fun hH2 => ?_)
    clear hK K hH
    have hH := hH2
    clear hH2
    try simp only [Act.put, List.setIfInBounds_toArray, List.set_cons_zero, List.set_cons_succ]
    refine wpAnyH_done (by kernel_rfl) ?_ _
    rw [HZ.out.1]
    go_wp2_with fail
    go_ret
    exact (HF.out _ _ _ _ (by first | exact bdrewN ((Below.refl _ _).alloc (Nat.le_refl _) _) 1 | exact (bdrewN (Below.refl _ _) 1).alloc (Nat.le_refl _) _) hO' hg hgo).step HB3.out
set_option maxHeartbeats 16000000 in
theorem edit_C {C : Rs.Cfg} {N : Nat} {l : List Lx.Tk} (A : Option Addr) (c bc lo : Nat) (vs : Key → SV) (w : World) (h : OwnC w bc lo vs C) (hG : GoodC N C) (hN : N ≤ 890000) (hT : TokIn w bc A l) (hn : l.length = 4) (hcn : 4 ≤ c) (gk : Nat) (hgk : w.cell? ⟨gk, 0, none⟩ = some (.int .i64 2)) (hg1 : gk < lo) {m : Nat} {z : Rs.Sch} (hz : C.scheds[m]? = some z) (hm1 : m + 1 = C.scheds.length) (q0 : Int) (q1 : Int) (hp0 : Rs.findS C.pn (Rs.tx l 0) = (q0, true)) (hp1 : Rs.findS C.pn (Rs.tx l 1) = (q1, true)) :
    Calls Tryz.prog 137 #[.pointer (some ⟨bc, 0, none⟩), .slice A 4 c, .pointer (some ⟨gk, 0, none⟩)] w (StepV bc lo w (0, { C with scheds := C.scheds.set m { z with edits := z.edits ++ [⟨2, q0, q1, Rs.nm l 2, Rs.nm l 3⟩] } })) := by
  obtain ⟨b, off, _k0, rfl, hb, tk0, t0, tm0, -⟩ := hT.get (i := 0) (by omega)
  obtain ⟨b_, off_, _k1, ea, -, tk1, t1, tm1, -⟩ := hT.get (i := 1) (by omega)
  cases ea
  obtain ⟨b_, off_, _k2, ea, -, -, -, t2, -⟩ := hT.get (i := 2) (by omega)
  cases ea
  obtain ⟨b_, off_, _k3, ea, -, -, -, t3, -⟩ := hT.get (i := 3) (by omega)
  cases ea
  have hlt := h.lt
  have hle := h.le
  have i1 : (1 : Int) ≤ c := by omega
  have i2 : (2 : Int) ≤ c := by omega
  have i3 : (4 : Int) ≤ c := by omega
  obtain ⟨gz, cap0, ez, hcap, hlo, hsz, hcl⟩ := h.lastS hz
  have hap0 := h.apart (κ := .sc) (κ' := .ed m) (fun e => by cases e) (g := gz) (by rw [ez]; rfl)
  have k1 := h.slices.2.2.2
  rw [ez] at k1
  simp only at k1
  have hlen6 : C.scheds.length ≤ 1000000 := by have := hG.sl; omega
  have LP := Lib.hid (last_s gz C.scheds.length m cap0 hm1.symm hlen6)
  generalize hpl : C.scheds.length = np at LP k1
  have hq1 := (hG.ss z (List.mem_of_getElem? hz)).2.1
  have hpn := h.pnest (by have := hG.pl; omega) (fun p hp => by have := hG.ps p hp; omega)
  have HPN := Lib.hid hpn
  have hsl := h.slices
  obtain ⟨vz, hvz⟩ : ∃ v, vs .zn = v := ⟨_, rfl⟩
  obtain ⟨vp, hvp⟩ : ∃ v, vs .pe = v := ⟨_, rfl⟩
  obtain ⟨vc, hvc⟩ : ∃ v, vs .ca = v := ⟨_, rfl⟩
  rw [hvz, hvp, hvc, ez] at hsl
  rw [hvp] at HPN
  obtain ⟨P1, p1, r1⟩ := vz
  obtain ⟨P2, p2, r2⟩ := vp
  obtain ⟨P3, p3, r3⟩ := vc
  rw [hpl] at hsl
  simp only at hsl
  have HSL : Hid (∀ W, Below w.heap.size w W → W.cell? ⟨bc, 0, none⟩ = some (.slice P1 p1 r1) ∧ W.cell? ⟨bc, 1, none⟩ = some (.slice P2 p2 r2) ∧ W.cell? ⟨bc, 2, none⟩ = some (.slice P3 p3 r3) ∧ W.cell? ⟨bc, 3, none⟩ = some (.slice (some ⟨gz, 0, none⟩) np cap0)) := Lib.hid fun W hW => ⟨cell_lift hsl.1 hW, cell_lift hsl.2.1 hW, cell_lift hsl.2.2.1 hW, cell_lift hsl.2.2.2 hW⟩
  have HCL := Lib.hid (hcl 2 (by omega))
  have HGK := Lib.hid hgk
  clear hcl hpl hm1 hcap hlen6 hpn hsl hvz hvp hvc hgk
  have HT0 := Lib.hid (And.intro tk0 (And.intro t0 tm0))
  clear tk0 t0 tm0
  have HT1 := Lib.hid (And.intro tk1 (And.intro t1 tm1))
  clear tk1 t1 tm1
  have HT2 := Lib.hid t2
  clear t2
  have HT3 := Lib.hid t3
  clear t3
  have CF0 := Lib.hid (fun (W : World) (hW : Below w.heap.size w W) => Person_is (l := C.people) hp0 P1 P2 P3 (some ⟨gz, 0, none⟩) p1 r1 p2 r2 p3 r3 np cap0 W (p_nest HPN.out hW))
  clear hp0
  obtain ⟨x0, hxx0⟩ : ∃ x, Rs.tx l 0 = x := ⟨_, rfl⟩
  rw [hxx0] at HT0 CF0
  clear hxx0
  have CF1 := Lib.hid (fun (W : World) (hW : Below w.heap.size w W) => Person_is (l := C.people) hp1 P1 P2 P3 (some ⟨gz, 0, none⟩) p1 r1 p2 r2 p3 r3 np cap0 W (p_nest HPN.out hW))
  clear hp1
  obtain ⟨x1, hxx1⟩ : ∃ x, Rs.tx l 1 = x := ⟨_, rfl⟩
  rw [hxx1] at HT1 CF1
  clear hxx1
  go_enter Tryz.func137, Tryz.ntmps137
  go_wp2_with fail
  refine (LP.out _).mono ?_
  rintro e w9 ⟨rfl, rfl⟩
  go_wp2_with fail
  go_quiet (fail)
  go_wp2_with fail
  have BA : Below w.heap.size w ((w.drewN nq).alloc (.cells #[.int .i64 0, .int .i64 0] 189)) := (bdrewN (Below.refl _ _) nq).alloc (Nat.le_refl _) _
  have NA : BlkAt ((w.drewN nq).alloc (.cells #[.int .i64 0, .int .i64 0] 189)) w.heap.size #[.int .i64 0, .int .i64 0] 189 := blk_now rfl
  have BA0 := Lib.hid BA
  have NA0 := Lib.hid NA
  refine wp_loop_rounds 3 ?_
  generalize (w.drewN nq).alloc (.cells #[.int .i64 0, .int .i64 0] 189) = W0 at BA NA BA0 NA0 ⊢
  have u0a : W0.cell? ⟨b, off, none⟩ = some (.int .i64 _k0) := cell_lift (by simpa using HT0.out.1) BA
  have u0b : W0.cell? ⟨b, off + 1, none⟩ = some (.string ⟨x0.toArray⟩) := cell_lift (by simpa using HT0.out.2.1) BA
  have u0c : W0.cell? ⟨b, off + 2, none⟩ = some (.int .i64 (Rs.nm l 0)) := cell_lift (by simpa using HT0.out.2.2) BA
  have BY := bstep BA ((Below.refl _ _).alloc (Nat.le_refl _) (.cells #[.int .i64 _k0, .string ⟨x0.toArray⟩, .int .i64 (Rs.nm l 0)] 115))
  have NY := BlkAt.alloc NA (.cells #[.int .i64 _k0, .string ⟨x0.toArray⟩, .int .i64 (Rs.nm l 0)] 115)
  have TY := BlkAt.new W0 #[.int .i64 _k0, .string ⟨x0.toArray⟩, .int .i64 (Rs.nm l 0)] 115
  rw [rounds_succ]
  go_wp2_with fail
  generalize W0.alloc (.cells #[.int .i64 _k0, .string ⟨x0.toArray⟩, .int .i64 (Rs.nm l 0)] 115) = Y0 at BY NY TY ⊢
  have tc1 : Y0.cell? ⟨W0.heap.size, 1, none⟩ = some (.string ⟨x0.toArray⟩) := TY.cell rfl
  have HS0 : Hid (∀ W, Below Y0.heap.size Y0 W → W.cell? ⟨bc, 0, none⟩ = some (.slice P1 p1 r1) ∧ W.cell? ⟨bc, 1, none⟩ = some (.slice P2 p2 r2) ∧ W.cell? ⟨bc, 2, none⟩ = some (.slice P3 p3 r3) ∧ W.cell? ⟨bc, 3, none⟩ = some (.slice (some ⟨gz, 0, none⟩) np cap0) ∧ W.cell? ⟨W0.heap.size, 1, none⟩ = some (.string ⟨x0.toArray⟩)) := Lib.hid fun W hW => ⟨(HSL.out W (bstep BY hW)).1, (HSL.out W (bstep BY hW)).2.1, (HSL.out W (bstep BY hW)).2.2.1, (HSL.out W (bstep BY hW)).2.2.2, cell_lift tc1 hW⟩
  have CG := Lib.hid (fun (W : World) (hW : Below Y0.heap.size Y0 W) => CF0.out W (bstep BY hW))
  clear tc1 u0a u0b u0c
  go_region_held3 (fun W => W.cell? ⟨bc, 0, none⟩ = some (.slice P1 p1 r1) ∧ W.cell? ⟨bc, 1, none⟩ = some (.slice P2 p2 r2) ∧ W.cell? ⟨bc, 2, none⟩ = some (.slice P3 p3 r3) ∧ W.cell? ⟨bc, 3, none⟩ = some (.slice (some ⟨gz, 0, none⟩) np cap0) ∧ W.cell? ⟨W0.heap.size, 1, none⟩ = some (.string ⟨x0.toArray⟩))
    (first | exact HS0.out _ (bdrewN (Below.refl _ _) 1) | exact HS0.out _ hw3)
    (first | (go_at_call 16; ((with_reducible refine (CG.out _ (Below.refl _ _).drew).mono ?_); rintro e Z0 ⟨rfl, hb3⟩; have hw3 : Below Y0.heap.size Y0 Z0 := ((Below.refl Y0.heap.size Y0).drew).trans hb3)))
  have BZ := bstep BY hw3
  have NZ := NY.after hw3
  have TZ := TY.after hw3
  have g1 : Z0.cell? ⟨gk, 0, none⟩ = some (.int .i64 2) := cell_lift HGK.out BZ
  have tz1 : Z0.cell? ⟨W0.heap.size, 1, none⟩ = some (.string ⟨x0.toArray⟩) := TZ.cell rfl
  obtain ⟨a0, a1, af0, af1⟩ := arr_cells NZ
  have HBZ := Lib.hid BZ
  have HNZ := Lib.hid NZ
  clear hb3 HS0 CG BA NA BA0 NA0 BY NY TY TZ BZ NZ hw3
  go_wp2_with fail
  have BA : Below w.heap.size w (Z0.setCell ⟨w.heap.size, 0, none⟩ (.int .i64 (q0))) := HBZ.out.setCell (p := ⟨w.heap.size, 0, none⟩) (Nat.le_refl _) _
  have NA : BlkAt (Z0.setCell ⟨w.heap.size, 0, none⟩ (.int .i64 (q0))) w.heap.size #[.int .i64 (q0), .int .i64 (0)] 189 := HNZ.out.set_ 0 _
  have BA0 := Lib.hid BA
  have NA0 := Lib.hid NA
  generalize Z0.setCell ⟨w.heap.size, 0, none⟩ (.int .i64 (q0)) = W1 at BA NA BA0 NA0 ⊢
  clear a0 a1 af0 af1 g1 tz1 HBZ HNZ
  have u1a : W1.cell? ⟨b, off + 3, none⟩ = some (.int .i64 _k1) := cell_lift (by simpa using HT1.out.1) BA
  have u1b : W1.cell? ⟨b, off + 3 + 1, none⟩ = some (.string ⟨x1.toArray⟩) := cell_lift (by simpa using HT1.out.2.1) BA
  have u1c : W1.cell? ⟨b, off + 3 + 2, none⟩ = some (.int .i64 (Rs.nm l 1)) := cell_lift (by simpa using HT1.out.2.2) BA
  have BY := bstep BA ((Below.refl _ _).alloc (Nat.le_refl _) (.cells #[.int .i64 _k1, .string ⟨x1.toArray⟩, .int .i64 (Rs.nm l 1)] 115))
  have NY := BlkAt.alloc NA (.cells #[.int .i64 _k1, .string ⟨x1.toArray⟩, .int .i64 (Rs.nm l 1)] 115)
  have TY := BlkAt.new W1 #[.int .i64 _k1, .string ⟨x1.toArray⟩, .int .i64 (Rs.nm l 1)] 115
  rw [rounds_succ]
  go_wp2_with fail
  generalize W1.alloc (.cells #[.int .i64 _k1, .string ⟨x1.toArray⟩, .int .i64 (Rs.nm l 1)] 115) = Y1 at BY NY TY ⊢
  have tc1 : Y1.cell? ⟨W1.heap.size, 1, none⟩ = some (.string ⟨x1.toArray⟩) := TY.cell rfl
  have HS0 : Hid (∀ W, Below Y1.heap.size Y1 W → W.cell? ⟨bc, 0, none⟩ = some (.slice P1 p1 r1) ∧ W.cell? ⟨bc, 1, none⟩ = some (.slice P2 p2 r2) ∧ W.cell? ⟨bc, 2, none⟩ = some (.slice P3 p3 r3) ∧ W.cell? ⟨bc, 3, none⟩ = some (.slice (some ⟨gz, 0, none⟩) np cap0) ∧ W.cell? ⟨W1.heap.size, 1, none⟩ = some (.string ⟨x1.toArray⟩)) := Lib.hid fun W hW => ⟨(HSL.out W (bstep BY hW)).1, (HSL.out W (bstep BY hW)).2.1, (HSL.out W (bstep BY hW)).2.2.1, (HSL.out W (bstep BY hW)).2.2.2, cell_lift tc1 hW⟩
  have CG := Lib.hid (fun (W : World) (hW : Below Y1.heap.size Y1 W) => CF1.out W (bstep BY hW))
  clear tc1 u1a u1b u1c
  go_region_held3 (fun W => W.cell? ⟨bc, 0, none⟩ = some (.slice P1 p1 r1) ∧ W.cell? ⟨bc, 1, none⟩ = some (.slice P2 p2 r2) ∧ W.cell? ⟨bc, 2, none⟩ = some (.slice P3 p3 r3) ∧ W.cell? ⟨bc, 3, none⟩ = some (.slice (some ⟨gz, 0, none⟩) np cap0) ∧ W.cell? ⟨W1.heap.size, 1, none⟩ = some (.string ⟨x1.toArray⟩))
    (first | exact HS0.out _ (bdrewN (Below.refl _ _) 1) | exact HS0.out _ hw3)
    (first | (go_at_call 16; ((with_reducible refine (CG.out _ (Below.refl _ _).drew).mono ?_); rintro e Z1 ⟨rfl, hb3⟩; have hw3 : Below Y1.heap.size Y1 Z1 := ((Below.refl Y1.heap.size Y1).drew).trans hb3)))
  have BZ := bstep BY hw3
  have NZ := NY.after hw3
  have TZ := TY.after hw3
  have g1 : Z1.cell? ⟨gk, 0, none⟩ = some (.int .i64 2) := cell_lift HGK.out BZ
  have tz1 : Z1.cell? ⟨W1.heap.size, 1, none⟩ = some (.string ⟨x1.toArray⟩) := TZ.cell rfl
  obtain ⟨a0, a1, af0, af1⟩ := arr_cells NZ
  have HBZ := Lib.hid BZ
  have HNZ := Lib.hid NZ
  clear hb3 HS0 CG BA NA BA0 NA0 BY NY TY TZ BZ NZ hw3
  go_wp2_with fail
  have BA : Below w.heap.size w (Z1.setCell ⟨w.heap.size, 1, none⟩ (.int .i64 (q1))) := HBZ.out.setCell (p := ⟨w.heap.size, 1, none⟩) (Nat.le_refl _) _
  have NA : BlkAt (Z1.setCell ⟨w.heap.size, 1, none⟩ (.int .i64 (q1))) w.heap.size #[.int .i64 (q0), .int .i64 (q1)] 189 := HNZ.out.set_ 1 _
  have BA0 := Lib.hid BA
  have NA0 := Lib.hid NA
  generalize Z1.setCell ⟨w.heap.size, 1, none⟩ (.int .i64 (q1)) = W2 at BA NA BA0 NA0 ⊢
  clear a0 a1 af0 af1 g1 tz1 HBZ HNZ
  have h3 := h.below BA
  have HB3 := Lib.hid (But.of_below (bc := bc) BA hle)
  have hle3 := h3.le
  have hlt3 := h3.lt
  have hs3 := BA.size
  have u1 : W2.cell? ⟨b, off + 6 + 2, none⟩ = some (.int .i64 (Rs.nm l 2)) := cell_lift HT2.out BA
  have u2 : W2.cell? ⟨b, off + 6 + 3 + 2, none⟩ = some (.int .i64 (Rs.nm l 3)) := cell_lift HT3.out BA
  have g1 : W2.cell? ⟨gk, 0, none⟩ = some (.int .i64 2) := cell_lift HGK.out BA
  have hcl2 : W2.cell? ⟨gz, m * 3 + 2, none⟩ = some (eSch (z, (vs (.la m), vs (.ed m))) 2) := cell_lift HCL.out.1 BA
  have hfr2 : W2.frozen? ⟨gz, m * 3 + 2, none⟩ = false := (BA.frozen (p := ⟨gz, m * 3 + 2, none⟩) hsz).trans HCL.out.2
  simp only [eSch] at hcl2
  clear BA0 NA0 LP k1
  rw [rounds_succ]
  go_wp2_with fail
  obtain ⟨hO1, hlen1⟩ := own_list (h3.rEd hz) (by omega)
  have s0 := hcl2
  have hfr := hfr2
  have hrow : ∀ g, (sv (vs (.ed m))).ownBlock = some g → lo ≤ g ∧ g < w.heap.size := fun g hg => h.far hg
  have hap := hap0
  obtain ⟨v1, hv1⟩ : ∃ v, vs (.ed m) = v := ⟨_, rfl⟩
  rw [hv1] at hO1 hlen1 hrow hap
  try rw [hv1] at s0
  obtain ⟨A1, n1, c1⟩ := v1
  simp only [sv] at s0 hO1 hrow hlen1 hap
  have HZ : Hid ((z.edits).length = n1 ∧ n1 ≤ 900000) := Lib.hid ⟨hlen1, by omega⟩
  have HO := Lib.hid hO1
  have hσ : some gz ≠ (Value.slice A1 n1 c1).ownBlock := fun e => hap e.symm
  have r0 : some gk ≠ (Value.slice A1 n1 c1).ownBlock := fun e => by have := hrow _ e.symm; omega
  have hz0 : gk ≠ gz := by omega
  have m0 : W2.cell? ⟨gk, 0, none⟩ = some (.int .i64 2) := g1
  have r1 : some w.heap.size ≠ (Value.slice A1 n1 c1).ownBlock := fun e => by have := hrow _ e.symm; omega
  have hz1 : w.heap.size ≠ gz := by omega
  have m1 : W2.cell? ⟨w.heap.size, 0, none⟩ = some (.int .i64 (q0)) := NA.cell rfl
  have r2 : some w.heap.size ≠ (Value.slice A1 n1 c1).ownBlock := fun e => by have := hrow _ e.symm; omega
  have hz2 : w.heap.size ≠ gz := by omega
  have m2 : W2.cell? ⟨w.heap.size, 1, none⟩ = some (.int .i64 (q1)) := NA.cell rfl
  have r3 : some b ≠ (Value.slice A1 n1 c1).ownBlock := fun e => by have := hrow _ e.symm; omega
  have hz3 : b ≠ gz := by omega
  have m3 : W2.cell? ⟨b, off + 6 + 2, none⟩ = some (.int .i64 (Rs.nm l 2)) := u1
  have r4 : some b ≠ (Value.slice A1 n1 c1).ownBlock := fun e => by have := hrow _ e.symm; omega
  have hz4 : b ≠ gz := by omega
  have m4 : W2.cell? ⟨b, off + 6 + 3 + 2, none⟩ = some (.int .i64 (Rs.nm l 3)) := u2
  have HS : Hid (∀ W, W2.grownBy W (Value.slice A1 n1 c1).ownBlock → W.cell? ⟨gk, 0, none⟩ = some (.int .i64 2) ∧ W.cell? ⟨w.heap.size, 0, none⟩ = some (.int .i64 (q0)) ∧ W.cell? ⟨w.heap.size, 1, none⟩ = some (.int .i64 (q1)) ∧ W.cell? ⟨b, off + 6 + 2, none⟩ = some (.int .i64 (Rs.nm l 2)) ∧ W.cell? ⟨b, off + 6 + 3 + 2, none⟩ = some (.int .i64 (Rs.nm l 3))) := Lib.hid fun W hW => ⟨lim r0 m0 W hW, lim r1 m1 W hW, lim r2 m2 W hW, lim r3 m3 W hW, lim r4 m4 W hW⟩
  have HZ2 : Hid (∀ W v, W2.grownBy W (Value.slice A1 n1 c1).ownBlock → (W.setCell ⟨gz, m * 3 + 2, none⟩ v).cell? ⟨gk, 0, none⟩ = some (.int .i64 2) ∧ (W.setCell ⟨gz, m * 3 + 2, none⟩ v).cell? ⟨w.heap.size, 0, none⟩ = some (.int .i64 (q0)) ∧ (W.setCell ⟨gz, m * 3 + 2, none⟩ v).cell? ⟨w.heap.size, 1, none⟩ = some (.int .i64 (q1)) ∧ (W.setCell ⟨gz, m * 3 + 2, none⟩ v).cell? ⟨b, off + 6 + 2, none⟩ = some (.int .i64 (Rs.nm l 2)) ∧ (W.setCell ⟨gz, m * 3 + 2, none⟩ v).cell? ⟨b, off + 6 + 3 + 2, none⟩ = some (.int .i64 (Rs.nm l 3))) := Lib.hid fun W v hW => ⟨limZ r0 hz0 m0 W v hW, limZ r1 hz1 m1 W v hW, limZ r2 hz2 m2 W v hW, limZ r3 hz3 m3 W v hW, limZ r4 hz4 m4 W v hW⟩
  have HC : Hid (∀ W, W2.grownBy W (Value.slice A1 n1 c1).ownBlock → W.cell? ⟨gz, m * 3 + 2, none⟩ = some (.slice A1 n1 c1)) := Lib.hid (lim hσ s0)
  have HCF : Hid (∀ W, W2.grownBy W (Value.slice A1 n1 c1).ownBlock → W.frozen? ⟨gz, m * 3 + 2, none⟩ = false) := Lib.hid (limF hσ (by omega) hfr)
  have HF := Lib.hid (fun (W W1 : World) (g cap : Nat) => fin_edit (W := W) (W1 := W1) (g := g) (cap := cap) (r := ⟨2, q0, q1, Rs.nm l 2, Rs.nm l 3⟩) h3 hz rfl hv1 hlen1 (by rw [ez]))
  clear hO1 hrow hlen1 s0 hfr hσ r0 hz0 m0 r1 hz1 m1 r2 hz2 m2 r3 hz3 m3 r4 hz4 m4
  go_wp2_with fail
  refine wp_region_held_drew (S := fun W => W.cell? ⟨gk, 0, none⟩ = some (.int .i64 2) ∧ W.cell? ⟨w.heap.size, 0, none⟩ = some (.int .i64 (q0)) ∧ W.cell? ⟨w.heap.size, 1, none⟩ = some (.int .i64 (q1)) ∧ W.cell? ⟨b, off + 6 + 2, none⟩ = some (.int .i64 (Rs.nm l 2)) ∧ W.cell? ⟨b, off + 6 + 3 + 2, none⟩ = some (.int .i64 (Rs.nm l 3))) (by kernel_rfl) (HS.out _ (grown_drew (grown_refl _ _))) (fun hH => ?_)
  refine wpAnyH_take (i := 0) (oi := ⟨some 60, .move (.tmp 6), 185, "build.go:216", #[], none⟩) (v := ?_) rfl (by kernel_rfl) (by kernel_rfl) (by kernel_rfl) (fun _ _ _ h => h) (Or.inl ⟨by rfl, ?_⟩) hH ?_
  rotate_left
  focus (intro w hSw; (try dsimp only at hSw); go_simp; (try with_reducible rfl); done)
  try simp only [Act.put, List.setIfInBounds_toArray, List.set_cons_zero, List.set_cons_succ]
  refine wpAnyH_take (i := 1) (oi := ⟨some 61, .move (.tmp 6), 185, "build.go:216", #[], none⟩) (v := ?_) rfl (by kernel_rfl) (by kernel_rfl) (by kernel_rfl) (fun _ _ _ h => h) (Or.inl ⟨by rfl, ?_⟩) hH ?_
  rotate_left
  focus (intro w hSw; (try dsimp only at hSw); go_simp; (try with_reducible rfl); done)
  try simp only [Act.put, List.setIfInBounds_toArray, List.set_cons_zero, List.set_cons_succ]
  refine wpAnyH_take (i := 2) (oi := ⟨some 62, .nilCheck (.tmp 61), 0, "build.go:216", #[⟨1, .data⟩], none⟩) (v := ?_) rfl (by kernel_rfl) (by kernel_rfl) (by kernel_rfl) (fun _ _ _ h => h) (Or.inl ⟨by rfl, ?_⟩) hH ?_
  rotate_left
  focus (intro w hSw; (try dsimp only at hSw); go_simp; (try with_reducible rfl); done)
  try simp only [Act.put, List.setIfInBounds_toArray, List.set_cons_zero, List.set_cons_succ]
  refine wpAnyH_take (i := 3) (oi := ⟨some 63, .fieldAddr 44 (.tmp 62) 2, 0, "build.go:216", #[⟨2, .data⟩], none⟩) (v := ?_) rfl (by kernel_rfl) (by kernel_rfl) (by kernel_rfl) (fun _ _ _ h => h) (Or.inl ⟨by rfl, ?_⟩) hH ?_
  rotate_left
  focus (intro w hSw; (try dsimp only at hSw); go_simp; (try with_reducible rfl); done)
  try simp only [Act.put, List.setIfInBounds_toArray, List.set_cons_zero, List.set_cons_succ]
  refine wpAnyH_take (i := 5) (oi := ⟨some 65, .load 3 (.tmp 2), 3, "build.go:216", #[], none⟩) (v := ?_) rfl (by kernel_rfl) (by kernel_rfl) (by kernel_rfl) (fun _ _ _ h => h) (Or.inl ⟨by rfl, ?_⟩) hH ?_
  rotate_left
  focus (intro w hSw; (try dsimp only at hSw); go_simp; (try with_reducible rfl); done)
  try simp only [Act.put, List.setIfInBounds_toArray, List.set_cons_zero, List.set_cons_succ]
  refine wpAnyH_take (i := 6) (oi := ⟨some 66, .indexAddr 189 (.tmp 9) (.const (.int .i64 0)), 0, "build.go:216", #[], none⟩) (v := ?_) rfl (by kernel_rfl) (by kernel_rfl) (by kernel_rfl) (fun _ _ _ h => h) (Or.inl ⟨by rfl, ?_⟩) hH ?_
  rotate_left
  focus (intro w hSw; (try dsimp only at hSw); go_simp; (try with_reducible rfl); done)
  try simp only [Act.put, List.setIfInBounds_toArray, List.set_cons_zero, List.set_cons_succ]
  refine wpAnyH_take (i := 7) (oi := ⟨some 67, .load 3 (.tmp 66), 3, "build.go:216", #[⟨6, .data⟩], none⟩) (v := ?_) rfl (by kernel_rfl) (by kernel_rfl) (by kernel_rfl) (fun _ _ _ h => h) (Or.inl ⟨by rfl, ?_⟩) hH ?_
  rotate_left
  focus (intro w hSw; (try dsimp only at hSw); go_simp; (try with_reducible rfl); done)
  try simp only [Act.put, List.setIfInBounds_toArray, List.set_cons_zero, List.set_cons_succ]
  refine wpAnyH_take (i := 8) (oi := ⟨some 68, .indexAddr 189 (.tmp 9) (.const (.int .i64 1)), 0, "build.go:216", #[], none⟩) (v := ?_) rfl (by kernel_rfl) (by kernel_rfl) (by kernel_rfl) (fun _ _ _ h => h) (Or.inl ⟨by rfl, ?_⟩) hH ?_
  rotate_left
  focus (intro w hSw; (try dsimp only at hSw); go_simp; (try with_reducible rfl); done)
  try simp only [Act.put, List.setIfInBounds_toArray, List.set_cons_zero, List.set_cons_succ]
  refine wpAnyH_take (i := 9) (oi := ⟨some 69, .load 3 (.tmp 68), 3, "build.go:216", #[⟨8, .data⟩], none⟩) (v := ?_) rfl (by kernel_rfl) (by kernel_rfl) (by kernel_rfl) (fun _ _ _ h => h) (Or.inl ⟨by rfl, ?_⟩) hH ?_
  rotate_left
  focus (intro w hSw; (try dsimp only at hSw); go_simp; (try with_reducible rfl); done)
  try simp only [Act.put, List.setIfInBounds_toArray, List.set_cons_zero, List.set_cons_succ]
  refine wpAnyH_take (i := 10) (oi := ⟨some 70, .move (.tmp 8), 104, "build.go:216", #[], none⟩) (v := ?_) rfl (by kernel_rfl) (by kernel_rfl) (by kernel_rfl) (fun _ _ _ h => h) (Or.inl ⟨by rfl, ?_⟩) hH ?_
  rotate_left
  focus (intro w hSw; (try dsimp only at hSw); go_simp; (try with_reducible rfl); done)
  try simp only [Act.put, List.setIfInBounds_toArray, List.set_cons_zero, List.set_cons_succ]
  refine wpAnyH_take (i := 11) (oi := ⟨some 71, .indexAddr 104 (.tmp 70) (.const (.int .i64 0)), 0, "build.go:216", #[⟨10, .data⟩], none⟩) (v := ?_) rfl (by kernel_rfl) (by kernel_rfl) (by kernel_rfl) (fun _ _ _ h => h) (Or.inl ⟨by rfl, ?_⟩) hH ?_
  rotate_left
  focus (intro w hSw; (try dsimp only at hSw); go_simp; (try with_reducible rfl); done)
  try simp only [Act.put, List.setIfInBounds_toArray, List.set_cons_zero, List.set_cons_succ]
  refine wpAnyH_take (i := 12) (oi := ⟨some 72, .fieldAddr 115 (.tmp 71) 2, 0, "build.go:216", #[⟨11, .data⟩], none⟩) (v := ?_) rfl (by kernel_rfl) (by kernel_rfl) (by kernel_rfl) (fun _ _ _ h => h) (Or.inl ⟨by rfl, ?_⟩) hH ?_
  rotate_left
  focus (intro w hSw; (try dsimp only at hSw); go_simp; (try with_reducible rfl); done)
  try simp only [Act.put, List.setIfInBounds_toArray, List.set_cons_zero, List.set_cons_succ]
  refine wpAnyH_take (i := 13) (oi := ⟨some 73, .load 3 (.tmp 72), 3, "build.go:216", #[⟨12, .data⟩], none⟩) (v := ?_) rfl (by kernel_rfl) (by kernel_rfl) (by kernel_rfl) (fun _ _ _ h => h) (Or.inl ⟨by rfl, ?_⟩) hH ?_
  rotate_left
  focus (intro w hSw; (try dsimp only at hSw); go_simp; (try with_reducible rfl); done)
  try simp only [Act.put, List.setIfInBounds_toArray, List.set_cons_zero, List.set_cons_succ]
  refine wpAnyH_take (i := 14) (oi := ⟨some 74, .move (.tmp 8), 104, "build.go:216", #[], none⟩) (v := ?_) rfl (by kernel_rfl) (by kernel_rfl) (by kernel_rfl) (fun _ _ _ h => h) (Or.inl ⟨by rfl, ?_⟩) hH ?_
  rotate_left
  focus (intro w hSw; (try dsimp only at hSw); go_simp; (try with_reducible rfl); done)
  try simp only [Act.put, List.setIfInBounds_toArray, List.set_cons_zero, List.set_cons_succ]
  refine wpAnyH_take (i := 15) (oi := ⟨some 75, .indexAddr 104 (.tmp 74) (.const (.int .i64 1)), 0, "build.go:216", #[⟨14, .data⟩], none⟩) (v := ?_) rfl (by kernel_rfl) (by kernel_rfl) (by kernel_rfl) (fun _ _ _ h => h) (Or.inl ⟨by rfl, ?_⟩) hH ?_
  rotate_left
  focus (intro w hSw; (try dsimp only at hSw); go_simp; (try with_reducible rfl); done)
  try simp only [Act.put, List.setIfInBounds_toArray, List.set_cons_zero, List.set_cons_succ]
  refine wpAnyH_take (i := 16) (oi := ⟨some 76, .fieldAddr 115 (.tmp 75) 2, 0, "build.go:216", #[⟨15, .data⟩], none⟩) (v := ?_) rfl (by kernel_rfl) (by kernel_rfl) (by kernel_rfl) (fun _ _ _ h => h) (Or.inl ⟨by rfl, ?_⟩) hH ?_
  rotate_left
  focus (intro w hSw; (try dsimp only at hSw); go_simp; (try with_reducible rfl); done)
  try simp only [Act.put, List.setIfInBounds_toArray, List.set_cons_zero, List.set_cons_succ]
  refine wpAnyH_take (i := 17) (oi := ⟨some 77, .load 3 (.tmp 76), 3, "build.go:216", #[⟨16, .data⟩], none⟩) (v := ?_) rfl (by kernel_rfl) (by kernel_rfl) (by kernel_rfl) (fun _ _ _ h => h) (Or.inl ⟨by rfl, ?_⟩) hH ?_
  rotate_left
  focus (intro w hSw; (try dsimp only at hSw); go_simp; (try with_reducible rfl); done)
  try simp only [Act.put, List.setIfInBounds_toArray, List.set_cons_zero, List.set_cons_succ]
  refine wpAnyH_take (i := 18) (oi := ⟨some 78, .build 46 #[(0, .tmp 65), (1, .tmp 67), (2, .tmp 69), (3, .tmp 73), (4, .tmp 77)], 46, "build.go:216", #[⟨5, .data⟩, ⟨7, .data⟩, ⟨9, .data⟩, ⟨13, .data⟩, ⟨17, .data⟩], none⟩) (v := ?_) rfl (by kernel_rfl) (by kernel_rfl) (by kernel_rfl) (fun _ _ _ h => h) (Or.inl ⟨by rfl, ?_⟩) hH ?_
  rotate_left
  focus (intro w hSw; (try dsimp only at hSw); go_simp; (try with_reducible rfl); done)
  try simp only [Act.put, List.setIfInBounds_toArray, List.set_cons_zero, List.set_cons_succ]
  refine wpAnyH_ready (rs := [4, 19]) (by kernel_rfl) (by simp) ?_
  refine AllReadyH.cons (o := ⟨some 64, .load 42 (.tmp 63), 42, "build.go:216", #[⟨3, .data⟩], none⟩) rfl (fun K hK => ?_) (AllReadyH.cons (o := ⟨some 79, .buildSlice 42 1 #[(0, .tmp 78)], 42, "build.go:216", #[⟨18, .data⟩], none⟩) rfl (fun K hK => ?_) AllReadyH.nil)
  · have y0 := HC.out _ (grown_drew (grown_refl _ _))
    have y3 := fun o => HC.out _ (grown_drew (grown_alloc (grown_refl W2 _) o))
    have y4 := fun o => HC.out _ (grown_alloc (grown_drew (grown_refl W2 _)) o)
    go_simp
    clear y0 y3 y4
    refine hK.out _ _ (HS.out _ (by first | exact grown_drew (grown_refl _ _) | exact grown_drew (grown_alloc (grown_refl _ _) _) | exact grown_alloc (grown_drew (grown_refl _ _)) _)) (fun hH2 => ?_)
    clear hK K hH
    have hH := hH2
    clear hH2
    try simp only [Act.put, List.setIfInBounds_toArray, List.set_cons_zero, List.set_cons_succ]
    refine wpAnyH_ready (rs := [19]) (by kernel_rfl) (by simp) ?_
    refine AllReadyH.cons (o := ⟨some 79, .buildSlice 42 1 #[(0, .tmp 78)], 42, "build.go:216", #[⟨18, .data⟩], none⟩) rfl (fun K hK => ?_) AllReadyH.nil
    go_simp
    refine hK.out _ _ (HS.out _ (by first | exact grown_drew (grown_refl _ _) | exact grown_drew (grown_alloc (grown_refl _ _) _) | exact grown_alloc (grown_drew (grown_refl _ _)) _)) (fun hH2 => ?_)
    clear hK K hH
    have hH := hH2
    clear hH2
    try simp only [Act.put, List.setIfInBounds_toArray, List.set_cons_zero, List.set_cons_succ]
    refine wpAnyH_ready (rs := [20]) (by kernel_rfl) (by simp) ?_
    refine AllReadyH.cons (o := ⟨some 80, .call { callee := .builtin .append, args := #[.tmp 64, .tmp 79], argTypes := #[42, 42] }, 42, "build.go:216", #[⟨4, .data⟩, ⟨19, .data⟩], none⟩) rfl (fun K hK => ?_) AllReadyH.nil
    (refine step_append_row kEdi _ (by rfl) (.tmp 64) (.tmp 79) (by rfl) lo (.slice A1 n1 c1) (z.edits) (by rfl) (by first | exact (HO.out.alloc _).drewN 1 | exact (HO.out.drewN 1).alloc _) W2.heap.size (⟨2, q0, q1, Rs.nm l 2, Rs.nm l 3⟩ : Rs.Edit) (by rfl) (one_new (by first | exact BlkAt.drewN (blk_now rfl) 1 | exact blk_now rfl) (edi_vals ⟨2, q0, q1, Rs.nm l 2, Rs.nm l 3⟩)) (by have := HZ.out; omega) (by simp; omega) ?_; intro g cap w' hO' hg hgo hlt'; have hq : W2.grownBy w' (Value.slice A1 n1 c1).ownBlock := grown_trans (by first | exact grown_drew (grown_alloc (grown_refl _ _) _) | exact grown_alloc (grown_drew (grown_refl _ _)) _) hg; have y1 := HC.out _ hq; have y2 := HCF.out _ hq)
    refine hK.out _ _ (HS.out _ hq) (fun hH2 => ?_)
    clear hK K hH
    have hH := hH2
    clear hH2
    try simp only [Act.put, List.setIfInBounds_toArray, List.set_cons_zero, List.set_cons_succ]
    refine wpAnyH_take (i := 21) (oi := ⟨some 81, .nilCheck (.tmp 60), 0, "build.go:216", #[⟨0, .data⟩, ⟨0, .phase⟩, ⟨1, .phase⟩, ⟨2, .phase⟩, ⟨3, .phase⟩, ⟨4, .phase⟩, ⟨5, .phase⟩, ⟨6, .phase⟩, ⟨7, .phase⟩, ⟨8, .phase⟩, ⟨9, .phase⟩, ⟨10, .phase⟩, ⟨11, .phase⟩, ⟨12, .phase⟩, ⟨13, .phase⟩, ⟨14, .phase⟩, ⟨15, .phase⟩, ⟨16, .phase⟩, ⟨17, .phase⟩, ⟨18, .phase⟩, ⟨19, .phase⟩, ⟨20, .phase⟩], none⟩) (v := ?_) rfl (by kernel_rfl) (by kernel_rfl) (by kernel_rfl) (fun _ _ _ h => h) (Or.inl ⟨by rfl, ?_⟩) hH ?_
    rotate_left
    focus (intro w hSw; (try dsimp only at hSw); go_simp; (try with_reducible rfl); done)
    try simp only [Act.put, List.setIfInBounds_toArray, List.set_cons_zero, List.set_cons_succ]
    refine wpAnyH_take (i := 22) (oi := ⟨some 82, .fieldAddr 44 (.tmp 81) 2, 0, "build.go:216", #[⟨21, .data⟩, ⟨0, .phase⟩, ⟨1, .phase⟩, ⟨2, .phase⟩, ⟨3, .phase⟩, ⟨4, .phase⟩, ⟨5, .phase⟩, ⟨6, .phase⟩, ⟨7, .phase⟩, ⟨8, .phase⟩, ⟨9, .phase⟩, ⟨10, .phase⟩, ⟨11, .phase⟩, ⟨12, .phase⟩, ⟨13, .phase⟩, ⟨14, .phase⟩, ⟨15, .phase⟩, ⟨16, .phase⟩, ⟨17, .phase⟩, ⟨18, .phase⟩, ⟨19, .phase⟩, ⟨20, .phase⟩], none⟩) (v := ?_) rfl (by kernel_rfl) (by kernel_rfl) (by kernel_rfl) (fun _ _ _ h => h) (Or.inl ⟨by rfl, ?_⟩) hH ?_
    rotate_left
    focus (intro w hSw; (try dsimp only at hSw); go_simp; (try with_reducible rfl); done)
    try simp only [Act.put, List.setIfInBounds_toArray, List.set_cons_zero, List.set_cons_succ]
    refine wpAnyH_ready (rs := [23]) (by kernel_rfl) (by simp) ?_
    refine AllReadyH.cons (o := ⟨none, .store 42 (.tmp 82) (.tmp 80), 0, "build.go:216", #[⟨22, .data⟩, ⟨20, .data⟩, ⟨20, .chain⟩, ⟨0, .phase⟩, ⟨1, .phase⟩, ⟨2, .phase⟩, ⟨3, .phase⟩, ⟨4, .phase⟩, ⟨5, .phase⟩, ⟨6, .phase⟩, ⟨7, .phase⟩, ⟨8, .phase⟩, ⟨9, .phase⟩, ⟨10, .phase⟩, ⟨11, .phase⟩, ⟨12, .phase⟩, ⟨13, .phase⟩, ⟨14, .phase⟩, ⟨15, .phase⟩, ⟨16, .phase⟩, ⟨17, .phase⟩, ⟨18, .phase⟩, ⟨19, .phase⟩, ⟨20, .phase⟩], none⟩) rfl (fun K hK => ?_) AllReadyH.nil
    go_simp
    refine hK.out _ _ (HZ2.out _ _ hq) (fun hH2 => ?_)
    clear hK K hH
    have hH := hH2
    clear hH2
    try simp only [Act.put, List.setIfInBounds_toArray, List.set_cons_zero, List.set_cons_succ]
    refine wpAnyH_done (by kernel_rfl) ?_ _
    rw [HZ.out.1]
    go_wp2_with fail
    go_ret
    exact (HF.out _ _ _ _ (by first | exact bdrewN ((Below.refl _ _).alloc (Nat.le_refl _) _) 1 | exact (bdrewN (Below.refl _ _) 1).alloc (Nat.le_refl _) _) hO' hg hgo).step HB3.out
  · go_simp
    refine hK.out _ _ (HS.out _ (by first | exact grown_drew (grown_refl _ _) | exact grown_drew (grown_alloc (grown_refl _ _) _) | exact grown_alloc (grown_drew (grown_refl _ _)) _)) (fun hH2 => ?_)
    clear hK K hH
    have hH := hH2
    clear hH2
    try simp only [Act.put, List.setIfInBounds_toArray, List.set_cons_zero, List.set_cons_succ]
    refine wpAnyH_ready (rs := [4]) (by kernel_rfl) (by simp) ?_
    refine AllReadyH.cons (o := ⟨some 64, .load 42 (.tmp 63), 42, "build.go:216", #[⟨3, .data⟩], none⟩) rfl (fun K hK => ?_) AllReadyH.nil
    have y0 := HC.out _ (grown_drew (grown_refl _ _))
    have y3 := fun o => HC.out _ (grown_drew (grown_alloc (grown_refl W2 _) o))
    have y4 := fun o => HC.out _ (grown_alloc (grown_drew (grown_refl W2 _)) o)
    go_simp
    clear y0 y3 y4
    refine hK.out _ _ (HS.out _ (by first | exact grown_drew (grown_refl _ _) | exact grown_drew (grown_alloc (grown_refl _ _) _) | exact grown_alloc (grown_drew (grown_refl _ _)) _)) (fun hH2 => ?_)
    clear hK K hH
    have hH := hH2
    clear hH2
    try simp only [Act.put, List.setIfInBounds_toArray, List.set_cons_zero, List.set_cons_succ]
    refine wpAnyH_ready (rs := [20]) (by kernel_rfl) (by simp) ?_
    refine AllReadyH.cons (o := ⟨some 80, .call { callee := .builtin .append, args := #[.tmp 64, .tmp 79], argTypes := #[42, 42] }, 42, "build.go:216", #[⟨4, .data⟩, ⟨19, .data⟩], none⟩) rfl (fun K hK => ?_) AllReadyH.nil
    (refine step_append_row kEdi _ (by rfl) (.tmp 64) (.tmp 79) (by rfl) lo (.slice A1 n1 c1) (z.edits) (by rfl) (by first | exact (HO.out.alloc _).drewN 1 | exact (HO.out.drewN 1).alloc _) W2.heap.size (⟨2, q0, q1, Rs.nm l 2, Rs.nm l 3⟩ : Rs.Edit) (by rfl) (one_new (by first | exact BlkAt.drewN (blk_now rfl) 1 | exact blk_now rfl) (edi_vals ⟨2, q0, q1, Rs.nm l 2, Rs.nm l 3⟩)) (by have := HZ.out; omega) (by simp; omega) ?_; intro g cap w' hO' hg hgo hlt'; have hq : W2.grownBy w' (Value.slice A1 n1 c1).ownBlock := grown_trans (by first | exact grown_drew (grown_alloc (grown_refl _ _) _) | exact grown_alloc (grown_drew (grown_refl _ _)) _) hg; have y1 := HC.out _ hq; have y2 := HCF.out _ hq)
    refine hK.out _ _ (HS.out _ hq) (fun hH2 => ?_)
    clear hK K hH
    have hH := hH2
    clear hH2
    try simp only [Act.put, List.setIfInBounds_toArray, List.set_cons_zero, List.set_cons_succ]
    refine wpAnyH_take (i := 21) (oi := ⟨some 81, .nilCheck (.tmp 60), 0, "build.go:216", #[⟨0, .data⟩, ⟨0, .phase⟩, ⟨1, .phase⟩, ⟨2, .phase⟩, ⟨3, .phase⟩, ⟨4, .phase⟩, ⟨5, .phase⟩, ⟨6, .phase⟩, ⟨7, .phase⟩, ⟨8, .phase⟩, ⟨9, .phase⟩, ⟨10, .phase⟩, ⟨11, .phase⟩, ⟨12, .phase⟩, ⟨13, .phase⟩, ⟨14, .phase⟩, ⟨15, .phase⟩, ⟨16, .phase⟩, ⟨17, .phase⟩, ⟨18, .phase⟩, ⟨19, .phase⟩, ⟨20, .phase⟩], none⟩) (v := ?_) rfl (by kernel_rfl) (by kernel_rfl) (by kernel_rfl) (fun _ _ _ h => h) (Or.inl ⟨by rfl, ?_⟩) hH ?_
    rotate_left
    focus (intro w hSw; (try dsimp only at hSw); go_simp; (try with_reducible rfl); done)
    try simp only [Act.put, List.setIfInBounds_toArray, List.set_cons_zero, List.set_cons_succ]
    refine wpAnyH_take (i := 22) (oi := ⟨some 82, .fieldAddr 44 (.tmp 81) 2, 0, "build.go:216", #[⟨21, .data⟩, ⟨0, .phase⟩, ⟨1, .phase⟩, ⟨2, .phase⟩, ⟨3, .phase⟩, ⟨4, .phase⟩, ⟨5, .phase⟩, ⟨6, .phase⟩, ⟨7, .phase⟩, ⟨8, .phase⟩, ⟨9, .phase⟩, ⟨10, .phase⟩, ⟨11, .phase⟩, ⟨12, .phase⟩, ⟨13, .phase⟩, ⟨14, .phase⟩, ⟨15, .phase⟩, ⟨16, .phase⟩, ⟨17, .phase⟩, ⟨18, .phase⟩, ⟨19, .phase⟩, ⟨20, .phase⟩], none⟩) (v := ?_) rfl (by kernel_rfl) (by kernel_rfl) (by kernel_rfl) (fun _ _ _ h => h) (Or.inl ⟨by rfl, ?_⟩) hH ?_
    rotate_left
    focus (intro w hSw; (try dsimp only at hSw); go_simp; (try with_reducible rfl); done)
    try simp only [Act.put, List.setIfInBounds_toArray, List.set_cons_zero, List.set_cons_succ]
    refine wpAnyH_ready (rs := [23]) (by kernel_rfl) (by simp) ?_
    refine AllReadyH.cons (o := ⟨none, .store 42 (.tmp 82) (.tmp 80), 0, "build.go:216", #[⟨22, .data⟩, ⟨20, .data⟩, ⟨20, .chain⟩, ⟨0, .phase⟩, ⟨1, .phase⟩, ⟨2, .phase⟩, ⟨3, .phase⟩, ⟨4, .phase⟩, ⟨5, .phase⟩, ⟨6, .phase⟩, ⟨7, .phase⟩, ⟨8, .phase⟩, ⟨9, .phase⟩, ⟨10, .phase⟩, ⟨11, .phase⟩, ⟨12, .phase⟩, ⟨13, .phase⟩, ⟨14, .phase⟩, ⟨15, .phase⟩, ⟨16, .phase⟩, ⟨17, .phase⟩, ⟨18, .phase⟩, ⟨19, .phase⟩, ⟨20, .phase⟩], none⟩) rfl (fun K hK => ?_) AllReadyH.nil
    go_simp
    refine hK.out _ _ (HZ2.out _ _ hq) (fun hH2 => ?_)
    clear hK K hH
    have hH := hH2
    clear hH2
    try simp only [Act.put, List.setIfInBounds_toArray, List.set_cons_zero, List.set_cons_succ]
    refine wpAnyH_done (by kernel_rfl) ?_ _
    rw [HZ.out.1]
    go_wp2_with fail
    go_ret
    exact (HF.out _ _ _ _ (by first | exact bdrewN ((Below.refl _ _).alloc (Nat.le_refl _) _) 1 | exact (bdrewN (Below.refl _ _) 1).alloc (Nat.le_refl _) _) hO' hg hgo).step HB3.out
set_option maxHeartbeats 16000000 in
theorem edit_C0 {C : Rs.Cfg} {N : Nat} {l : List Lx.Tk} (A : Option Addr) (c bc lo : Nat) (vs : Key → SV) (w : World) (h : OwnC w bc lo vs C) (hG : GoodC N C) (hN : N ≤ 890000) (hT : TokIn w bc A l) (hn : l.length = 4) (hcn : 4 ≤ c) (gk : Nat) (hgk : w.cell? ⟨gk, 0, none⟩ = some (.int .i64 2)) (hg1 : gk < lo) {m : Nat} {z : Rs.Sch} (hz : C.scheds[m]? = some z) (hm1 : m + 1 = C.scheds.length) (q0 : Int) (hp0 : Rs.findS C.pn (Rs.tx l 0) = (q0, false)) :
    Calls Tryz.prog 137 #[.pointer (some ⟨bc, 0, none⟩), .slice A 4 c, .pointer (some ⟨gk, 0, none⟩)] w (StepV bc lo w (3, C)) := by
  obtain ⟨b, off, _k0, rfl, hb, tk0, t0, tm0, -⟩ := hT.get (i := 0) (by omega)
  obtain ⟨b_, off_, _k1, ea, -, tk1, t1, tm1, -⟩ := hT.get (i := 1) (by omega)
  cases ea
  obtain ⟨b_, off_, _k2, ea, -, -, -, t2, -⟩ := hT.get (i := 2) (by omega)
  cases ea
  obtain ⟨b_, off_, _k3, ea, -, -, -, t3, -⟩ := hT.get (i := 3) (by omega)
  cases ea
  have hlt := h.lt
  have hle := h.le
  have i1 : (1 : Int) ≤ c := by omega
  have i2 : (2 : Int) ≤ c := by omega
  have i3 : (4 : Int) ≤ c := by omega
  obtain ⟨gz, cap0, ez, hcap, hlo, hsz, hcl⟩ := h.lastS hz
  have hap0 := h.apart (κ := .sc) (κ' := .ed m) (fun e => by cases e) (g := gz) (by rw [ez]; rfl)
  have k1 := h.slices.2.2.2
  rw [ez] at k1
  simp only at k1
  have hlen6 : C.scheds.length ≤ 1000000 := by have := hG.sl; omega
  have LP := Lib.hid (last_s gz C.scheds.length m cap0 hm1.symm hlen6)
  generalize hpl : C.scheds.length = np at LP k1
  have hq1 := (hG.ss z (List.mem_of_getElem? hz)).2.1
  have hpn := h.pnest (by have := hG.pl; omega) (fun p hp => by have := hG.ps p hp; omega)
  have HPN := Lib.hid hpn
  have hsl := h.slices
  obtain ⟨vz, hvz⟩ : ∃ v, vs .zn = v := ⟨_, rfl⟩
  obtain ⟨vp, hvp⟩ : ∃ v, vs .pe = v := ⟨_, rfl⟩
  obtain ⟨vc, hvc⟩ : ∃ v, vs .ca = v := ⟨_, rfl⟩
  rw [hvz, hvp, hvc, ez] at hsl
  rw [hvp] at HPN
  obtain ⟨P1, p1, r1⟩ := vz
  obtain ⟨P2, p2, r2⟩ := vp
  obtain ⟨P3, p3, r3⟩ := vc
  rw [hpl] at hsl
  simp only at hsl
  have HSL : Hid (∀ W, Below w.heap.size w W → W.cell? ⟨bc, 0, none⟩ = some (.slice P1 p1 r1) ∧ W.cell? ⟨bc, 1, none⟩ = some (.slice P2 p2 r2) ∧ W.cell? ⟨bc, 2, none⟩ = some (.slice P3 p3 r3) ∧ W.cell? ⟨bc, 3, none⟩ = some (.slice (some ⟨gz, 0, none⟩) np cap0)) := Lib.hid fun W hW => ⟨cell_lift hsl.1 hW, cell_lift hsl.2.1 hW, cell_lift hsl.2.2.1 hW, cell_lift hsl.2.2.2 hW⟩
  have HCL := Lib.hid (hcl 2 (by omega))
  have HGK := Lib.hid hgk
  clear hcl hpl hm1 hcap hlen6 hpn hsl hvz hvp hvc hgk
  have HT0 := Lib.hid (And.intro tk0 (And.intro t0 tm0))
  clear tk0 t0 tm0
  have HT1 := Lib.hid (And.intro tk1 (And.intro t1 tm1))
  clear tk1 t1 tm1
  have HT2 := Lib.hid t2
  clear t2
  have HT3 := Lib.hid t3
  clear t3
  have CF0 := Lib.hid (fun (W : World) (hW : Below w.heap.size w W) => Person_is (l := C.people) hp0 P1 P2 P3 (some ⟨gz, 0, none⟩) p1 r1 p2 r2 p3 r3 np cap0 W (p_nest HPN.out hW))
  clear hp0
  obtain ⟨x0, hxx0⟩ : ∃ x, Rs.tx l 0 = x := ⟨_, rfl⟩
  rw [hxx0] at HT0 CF0
  clear hxx0
  go_enter Tryz.func137, Tryz.ntmps137
  go_wp2_with fail
  refine (LP.out _).mono ?_
  rintro e w9 ⟨rfl, rfl⟩
  go_wp2_with fail
  go_quiet (fail)
  go_wp2_with fail
  have BA : Below w.heap.size w ((w.drewN nq).alloc (.cells #[.int .i64 0, .int .i64 0] 189)) := (bdrewN (Below.refl _ _) nq).alloc (Nat.le_refl _) _
  have NA : BlkAt ((w.drewN nq).alloc (.cells #[.int .i64 0, .int .i64 0] 189)) w.heap.size #[.int .i64 0, .int .i64 0] 189 := blk_now rfl
  have BA0 := Lib.hid BA
  have NA0 := Lib.hid NA
  refine wp_loop_rounds 3 ?_
  generalize (w.drewN nq).alloc (.cells #[.int .i64 0, .int .i64 0] 189) = W0 at BA NA BA0 NA0 ⊢
  have u0a : W0.cell? ⟨b, off, none⟩ = some (.int .i64 _k0) := cell_lift (by simpa using HT0.out.1) BA
  have u0b : W0.cell? ⟨b, off + 1, none⟩ = some (.string ⟨x0.toArray⟩) := cell_lift (by simpa using HT0.out.2.1) BA
  have u0c : W0.cell? ⟨b, off + 2, none⟩ = some (.int .i64 (Rs.nm l 0)) := cell_lift (by simpa using HT0.out.2.2) BA
  have BY := bstep BA ((Below.refl _ _).alloc (Nat.le_refl _) (.cells #[.int .i64 _k0, .string ⟨x0.toArray⟩, .int .i64 (Rs.nm l 0)] 115))
  have NY := BlkAt.alloc NA (.cells #[.int .i64 _k0, .string ⟨x0.toArray⟩, .int .i64 (Rs.nm l 0)] 115)
  have TY := BlkAt.new W0 #[.int .i64 _k0, .string ⟨x0.toArray⟩, .int .i64 (Rs.nm l 0)] 115
  rw [rounds_succ]
  go_wp2_with fail
  generalize W0.alloc (.cells #[.int .i64 _k0, .string ⟨x0.toArray⟩, .int .i64 (Rs.nm l 0)] 115) = Y0 at BY NY TY ⊢
  have tc1 : Y0.cell? ⟨W0.heap.size, 1, none⟩ = some (.string ⟨x0.toArray⟩) := TY.cell rfl
  have HS0 : Hid (∀ W, Below Y0.heap.size Y0 W → W.cell? ⟨bc, 0, none⟩ = some (.slice P1 p1 r1) ∧ W.cell? ⟨bc, 1, none⟩ = some (.slice P2 p2 r2) ∧ W.cell? ⟨bc, 2, none⟩ = some (.slice P3 p3 r3) ∧ W.cell? ⟨bc, 3, none⟩ = some (.slice (some ⟨gz, 0, none⟩) np cap0) ∧ W.cell? ⟨W0.heap.size, 1, none⟩ = some (.string ⟨x0.toArray⟩)) := Lib.hid fun W hW => ⟨(HSL.out W (bstep BY hW)).1, (HSL.out W (bstep BY hW)).2.1, (HSL.out W (bstep BY hW)).2.2.1, (HSL.out W (bstep BY hW)).2.2.2, cell_lift tc1 hW⟩
  have CG := Lib.hid (fun (W : World) (hW : Below Y0.heap.size Y0 W) => CF0.out W (bstep BY hW))
  clear tc1 u0a u0b u0c
  go_region_held3 (fun W => W.cell? ⟨bc, 0, none⟩ = some (.slice P1 p1 r1) ∧ W.cell? ⟨bc, 1, none⟩ = some (.slice P2 p2 r2) ∧ W.cell? ⟨bc, 2, none⟩ = some (.slice P3 p3 r3) ∧ W.cell? ⟨bc, 3, none⟩ = some (.slice (some ⟨gz, 0, none⟩) np cap0) ∧ W.cell? ⟨W0.heap.size, 1, none⟩ = some (.string ⟨x0.toArray⟩))
    (first | exact HS0.out _ (bdrewN (Below.refl _ _) 1) | exact HS0.out _ hw3)
    (first | (go_at_call 16; ((with_reducible refine (CG.out _ (Below.refl _ _).drew).mono ?_); rintro e Z0 ⟨rfl, hb3⟩; have hw3 : Below Y0.heap.size Y0 Z0 := ((Below.refl Y0.heap.size Y0).drew).trans hb3)))
  have BZ := bstep BY hw3
  have NZ := NY.after hw3
  have TZ := TY.after hw3
  have g1 : Z0.cell? ⟨gk, 0, none⟩ = some (.int .i64 2) := cell_lift HGK.out BZ
  have tz1 : Z0.cell? ⟨W0.heap.size, 1, none⟩ = some (.string ⟨x0.toArray⟩) := TZ.cell rfl
  obtain ⟨a0, a1, af0, af1⟩ := arr_cells NZ
  have HBZ := Lib.hid BZ
  have HNZ := Lib.hid NZ
  clear hb3 HS0 CG BA NA BA0 NA0 BY NY TY TZ BZ NZ hw3
  go_wp2_with fail
  go_ret
  exact step_err (.of_below HBZ.out hle) (.of_below HBZ.out) (by decide)
set_option maxHeartbeats 16000000 in
theorem edit_C1 {C : Rs.Cfg} {N : Nat} {l : List Lx.Tk} (A : Option Addr) (c bc lo : Nat) (vs : Key → SV) (w : World) (h : OwnC w bc lo vs C) (hG : GoodC N C) (hN : N ≤ 890000) (hT : TokIn w bc A l) (hn : l.length = 4) (hcn : 4 ≤ c) (gk : Nat) (hgk : w.cell? ⟨gk, 0, none⟩ = some (.int .i64 2)) (hg1 : gk < lo) {m : Nat} {z : Rs.Sch} (hz : C.scheds[m]? = some z) (hm1 : m + 1 = C.scheds.length) (q0 : Int) (q1 : Int) (hp0 : Rs.findS C.pn (Rs.tx l 0) = (q0, true)) (hp1 : Rs.findS C.pn (Rs.tx l 1) = (q1, false)) :
    Calls Tryz.prog 137 #[.pointer (some ⟨bc, 0, none⟩), .slice A 4 c, .pointer (some ⟨gk, 0, none⟩)] w (StepV bc lo w (3, C)) := by
  obtain ⟨b, off, _k0, rfl, hb, tk0, t0, tm0, -⟩ := hT.get (i := 0) (by omega)
  obtain ⟨b_, off_, _k1, ea, -, tk1, t1, tm1, -⟩ := hT.get (i := 1) (by omega)
  cases ea
  obtain ⟨b_, off_, _k2, ea, -, -, -, t2, -⟩ := hT.get (i := 2) (by omega)
  cases ea
  obtain ⟨b_, off_, _k3, ea, -, -, -, t3, -⟩ := hT.get (i := 3) (by omega)
  cases ea
  have hlt := h.lt
  have hle := h.le
  have i1 : (1 : Int) ≤ c := by omega
  have i2 : (2 : Int) ≤ c := by omega
  have i3 : (4 : Int) ≤ c := by omega
  obtain ⟨gz, cap0, ez, hcap, hlo, hsz, hcl⟩ := h.lastS hz
  have hap0 := h.apart (κ := .sc) (κ' := .ed m) (fun e => by cases e) (g := gz) (by rw [ez]; rfl)
  have k1 := h.slices.2.2.2
  rw [ez] at k1
  simp only at k1
  have hlen6 : C.scheds.length ≤ 1000000 := by have := hG.sl; omega
  have LP := Lib.hid (last_s gz C.scheds.length m cap0 hm1.symm hlen6)
  generalize hpl : C.scheds.length = np at LP k1
  have hq1 := (hG.ss z (List.mem_of_getElem? hz)).2.1
  have hpn := h.pnest (by have := hG.pl; omega) (fun p hp => by have := hG.ps p hp; omega)
  have HPN := Lib.hid hpn
  have hsl := h.slices
  obtain ⟨vz, hvz⟩ : ∃ v, vs .zn = v := ⟨_, rfl⟩
  obtain ⟨vp, hvp⟩ : ∃ v, vs .pe = v := ⟨_, rfl⟩
  obtain ⟨vc, hvc⟩ : ∃ v, vs .ca = v := ⟨_, rfl⟩
  rw [hvz, hvp, hvc, ez] at hsl
  rw [hvp] at HPN
  obtain ⟨P1, p1, r1⟩ := vz
  obtain ⟨P2, p2, r2⟩ := vp
  obtain ⟨P3, p3, r3⟩ := vc
  rw [hpl] at hsl
  simp only at hsl
  have HSL : Hid (∀ W, Below w.heap.size w W → W.cell? ⟨bc, 0, none⟩ = some (.slice P1 p1 r1) ∧ W.cell? ⟨bc, 1, none⟩ = some (.slice P2 p2 r2) ∧ W.cell? ⟨bc, 2, none⟩ = some (.slice P3 p3 r3) ∧ W.cell? ⟨bc, 3, none⟩ = some (.slice (some ⟨gz, 0, none⟩) np cap0)) := Lib.hid fun W hW => ⟨cell_lift hsl.1 hW, cell_lift hsl.2.1 hW, cell_lift hsl.2.2.1 hW, cell_lift hsl.2.2.2 hW⟩
  have HCL := Lib.hid (hcl 2 (by omega))
  have HGK := Lib.hid hgk
  clear hcl hpl hm1 hcap hlen6 hpn hsl hvz hvp hvc hgk
  have HT0 := Lib.hid (And.intro tk0 (And.intro t0 tm0))
  clear tk0 t0 tm0
  have HT1 := Lib.hid (And.intro tk1 (And.intro t1 tm1))
  clear tk1 t1 tm1
  have HT2 := Lib.hid t2
  clear t2
  have HT3 := Lib.hid t3
  clear t3
  have CF0 := Lib.hid (fun (W : World) (hW : Below w.heap.size w W) => Person_is (l := C.people) hp0 P1 P2 P3 (some ⟨gz, 0, none⟩) p1 r1 p2 r2 p3 r3 np cap0 W (p_nest HPN.out hW))
  clear hp0
  obtain ⟨x0, hxx0⟩ : ∃ x, Rs.tx l 0 = x := ⟨_, rfl⟩
  rw [hxx0] at HT0 CF0
  clear hxx0
  have CF1 := Lib.hid (fun (W : World) (hW : Below w.heap.size w W) => Person_is (l := C.people) hp1 P1 P2 P3 (some ⟨gz, 0, none⟩) p1 r1 p2 r2 p3 r3 np cap0 W (p_nest HPN.out hW))
  clear hp1
  obtain ⟨x1, hxx1⟩ : ∃ x, Rs.tx l 1 = x := ⟨_, rfl⟩
  rw [hxx1] at HT1 CF1
  clear hxx1
  go_enter Tryz.func137, Tryz.ntmps137
  go_wp2_with fail
  refine (LP.out _).mono ?_
  rintro e w9 ⟨rfl, rfl⟩
  go_wp2_with fail
  go_quiet (fail)
  go_wp2_with fail
  have BA : Below w.heap.size w ((w.drewN nq).alloc (.cells #[.int .i64 0, .int .i64 0] 189)) := (bdrewN (Below.refl _ _) nq).alloc (Nat.le_refl _) _
  have NA : BlkAt ((w.drewN nq).alloc (.cells #[.int .i64 0, .int .i64 0] 189)) w.heap.size #[.int .i64 0, .int .i64 0] 189 := blk_now rfl
  have BA0 := Lib.hid BA
  have NA0 := Lib.hid NA
  refine wp_loop_rounds 3 ?_
  generalize (w.drewN nq).alloc (.cells #[.int .i64 0, .int .i64 0] 189) = W0 at BA NA BA0 NA0 ⊢
  have u0a : W0.cell? ⟨b, off, none⟩ = some (.int .i64 _k0) := cell_lift (by simpa using HT0.out.1) BA
  have u0b : W0.cell? ⟨b, off + 1, none⟩ = some (.string ⟨x0.toArray⟩) := cell_lift (by simpa using HT0.out.2.1) BA
  have u0c : W0.cell? ⟨b, off + 2, none⟩ = some (.int .i64 (Rs.nm l 0)) := cell_lift (by simpa using HT0.out.2.2) BA
  have BY := bstep BA ((Below.refl _ _).alloc (Nat.le_refl _) (.cells #[.int .i64 _k0, .string ⟨x0.toArray⟩, .int .i64 (Rs.nm l 0)] 115))
  have NY := BlkAt.alloc NA (.cells #[.int .i64 _k0, .string ⟨x0.toArray⟩, .int .i64 (Rs.nm l 0)] 115)
  have TY := BlkAt.new W0 #[.int .i64 _k0, .string ⟨x0.toArray⟩, .int .i64 (Rs.nm l 0)] 115
  rw [rounds_succ]
  go_wp2_with fail
  generalize W0.alloc (.cells #[.int .i64 _k0, .string ⟨x0.toArray⟩, .int .i64 (Rs.nm l 0)] 115) = Y0 at BY NY TY ⊢
  have tc1 : Y0.cell? ⟨W0.heap.size, 1, none⟩ = some (.string ⟨x0.toArray⟩) := TY.cell rfl
  have HS0 : Hid (∀ W, Below Y0.heap.size Y0 W → W.cell? ⟨bc, 0, none⟩ = some (.slice P1 p1 r1) ∧ W.cell? ⟨bc, 1, none⟩ = some (.slice P2 p2 r2) ∧ W.cell? ⟨bc, 2, none⟩ = some (.slice P3 p3 r3) ∧ W.cell? ⟨bc, 3, none⟩ = some (.slice (some ⟨gz, 0, none⟩) np cap0) ∧ W.cell? ⟨W0.heap.size, 1, none⟩ = some (.string ⟨x0.toArray⟩)) := Lib.hid fun W hW => ⟨(HSL.out W (bstep BY hW)).1, (HSL.out W (bstep BY hW)).2.1, (HSL.out W (bstep BY hW)).2.2.1, (HSL.out W (bstep BY hW)).2.2.2, cell_lift tc1 hW⟩
  have CG := Lib.hid (fun (W : World) (hW : Below Y0.heap.size Y0 W) => CF0.out W (bstep BY hW))
  clear tc1 u0a u0b u0c
  go_region_held3 (fun W => W.cell? ⟨bc, 0, none⟩ = some (.slice P1 p1 r1) ∧ W.cell? ⟨bc, 1, none⟩ = some (.slice P2 p2 r2) ∧ W.cell? ⟨bc, 2, none⟩ = some (.slice P3 p3 r3) ∧ W.cell? ⟨bc, 3, none⟩ = some (.slice (some ⟨gz, 0, none⟩) np cap0) ∧ W.cell? ⟨W0.heap.size, 1, none⟩ = some (.string ⟨x0.toArray⟩))
    (first | exact HS0.out _ (bdrewN (Below.refl _ _) 1) | exact HS0.out _ hw3)
    (first | (go_at_call 16; ((with_reducible refine (CG.out _ (Below.refl _ _).drew).mono ?_); rintro e Z0 ⟨rfl, hb3⟩; have hw3 : Below Y0.heap.size Y0 Z0 := ((Below.refl Y0.heap.size Y0).drew).trans hb3)))
  have BZ := bstep BY hw3
  have NZ := NY.after hw3
  have TZ := TY.after hw3
  have g1 : Z0.cell? ⟨gk, 0, none⟩ = some (.int .i64 2) := cell_lift HGK.out BZ
  have tz1 : Z0.cell? ⟨W0.heap.size, 1, none⟩ = some (.string ⟨x0.toArray⟩) := TZ.cell rfl
  obtain ⟨a0, a1, af0, af1⟩ := arr_cells NZ
  have HBZ := Lib.hid BZ
  have HNZ := Lib.hid NZ
  clear hb3 HS0 CG BA NA BA0 NA0 BY NY TY TZ BZ NZ hw3
  go_wp2_with fail
  have BA : Below w.heap.size w (Z0.setCell ⟨w.heap.size, 0, none⟩ (.int .i64 (q0))) := HBZ.out.setCell (p := ⟨w.heap.size, 0, none⟩) (Nat.le_refl _) _
  have NA : BlkAt (Z0.setCell ⟨w.heap.size, 0, none⟩ (.int .i64 (q0))) w.heap.size #[.int .i64 (q0), .int .i64 (0)] 189 := HNZ.out.set_ 0 _
  have BA0 := Lib.hid BA
  have NA0 := Lib.hid NA
  generalize Z0.setCell ⟨w.heap.size, 0, none⟩ (.int .i64 (q0)) = W1 at BA NA BA0 NA0 ⊢
  clear a0 a1 af0 af1 g1 tz1 HBZ HNZ
  have u1a : W1.cell? ⟨b, off + 3, none⟩ = some (.int .i64 _k1) := cell_lift (by simpa using HT1.out.1) BA
  have u1b : W1.cell? ⟨b, off + 3 + 1, none⟩ = some (.string ⟨x1.toArray⟩) := cell_lift (by simpa using HT1.out.2.1) BA
  have u1c : W1.cell? ⟨b, off + 3 + 2, none⟩ = some (.int .i64 (Rs.nm l 1)) := cell_lift (by simpa using HT1.out.2.2) BA
  have BY := bstep BA ((Below.refl _ _).alloc (Nat.le_refl _) (.cells #[.int .i64 _k1, .string ⟨x1.toArray⟩, .int .i64 (Rs.nm l 1)] 115))
  have NY := BlkAt.alloc NA (.cells #[.int .i64 _k1, .string ⟨x1.toArray⟩, .int .i64 (Rs.nm l 1)] 115)
  have TY := BlkAt.new W1 #[.int .i64 _k1, .string ⟨x1.toArray⟩, .int .i64 (Rs.nm l 1)] 115
  rw [rounds_succ]
  go_wp2_with fail
  generalize W1.alloc (.cells #[.int .i64 _k1, .string ⟨x1.toArray⟩, .int .i64 (Rs.nm l 1)] 115) = Y1 at BY NY TY ⊢
  have tc1 : Y1.cell? ⟨W1.heap.size, 1, none⟩ = some (.string ⟨x1.toArray⟩) := TY.cell rfl
  have HS0 : Hid (∀ W, Below Y1.heap.size Y1 W → W.cell? ⟨bc, 0, none⟩ = some (.slice P1 p1 r1) ∧ W.cell? ⟨bc, 1, none⟩ = some (.slice P2 p2 r2) ∧ W.cell? ⟨bc, 2, none⟩ = some (.slice P3 p3 r3) ∧ W.cell? ⟨bc, 3, none⟩ = some (.slice (some ⟨gz, 0, none⟩) np cap0) ∧ W.cell? ⟨W1.heap.size, 1, none⟩ = some (.string ⟨x1.toArray⟩)) := Lib.hid fun W hW => ⟨(HSL.out W (bstep BY hW)).1, (HSL.out W (bstep BY hW)).2.1, (HSL.out W (bstep BY hW)).2.2.1, (HSL.out W (bstep BY hW)).2.2.2, cell_lift tc1 hW⟩
  have CG := Lib.hid (fun (W : World) (hW : Below Y1.heap.size Y1 W) => CF1.out W (bstep BY hW))
  clear tc1 u1a u1b u1c
  go_region_held3 (fun W => W.cell? ⟨bc, 0, none⟩ = some (.slice P1 p1 r1) ∧ W.cell? ⟨bc, 1, none⟩ = some (.slice P2 p2 r2) ∧ W.cell? ⟨bc, 2, none⟩ = some (.slice P3 p3 r3) ∧ W.cell? ⟨bc, 3, none⟩ = some (.slice (some ⟨gz, 0, none⟩) np cap0) ∧ W.cell? ⟨W1.heap.size, 1, none⟩ = some (.string ⟨x1.toArray⟩))
    (first | exact HS0.out _ (bdrewN (Below.refl _ _) 1) | exact HS0.out _ hw3)
    (first | (go_at_call 16; ((with_reducible refine (CG.out _ (Below.refl _ _).drew).mono ?_); rintro e Z1 ⟨rfl, hb3⟩; have hw3 : Below Y1.heap.size Y1 Z1 := ((Below.refl Y1.heap.size Y1).drew).trans hb3)))
  have BZ := bstep BY hw3
  have NZ := NY.after hw3
  have TZ := TY.after hw3
  have g1 : Z1.cell? ⟨gk, 0, none⟩ = some (.int .i64 2) := cell_lift HGK.out BZ
  have tz1 : Z1.cell? ⟨W1.heap.size, 1, none⟩ = some (.string ⟨x1.toArray⟩) := TZ.cell rfl
  obtain ⟨a0, a1, af0, af1⟩ := arr_cells NZ
  have HBZ := Lib.hid BZ
  have HNZ := Lib.hid NZ
  clear hb3 HS0 CG BA NA BA0 NA0 BY NY TY TZ BZ NZ hw3
  go_wp2_with fail
  go_ret
  exact step_err (.of_below HBZ.out hle) (.of_below HBZ.out) (by decide)
set_option maxHeartbeats 4000000 in
theorem edit_none {C : Rs.Cfg} (A : Option Addr) (n c bc lo : Nat) (vs : Key → SV) (w : World) (h : OwnC w bc lo vs C) (gk : Nat) (hla : Rs.lastOf C.scheds = none) :
    Calls Tryz.prog 137 #[.pointer (some ⟨bc, 0, none⟩), .slice A n c, .pointer (some ⟨gk, 0, none⟩)] w (StepV bc lo w (9, C)) := by
  have hln := h.len_s
  obtain ⟨v2, hv2⟩ : ∃ v, vs .sc = v := ⟨_, rfl⟩
  have k1 := h.slices.2.2.2
  rw [hv2] at hln k1
  obtain ⟨A2, n2, c2⟩ := v2
  simp only at hln k1
  obtain rfl : n2 = 0 := by rw [← hln]; exact lastOf_none hla
  clear hla hln hv2
  go_enter Tryz.func137, Tryz.ntmps137
  go_wp2_with fail
  refine (last_s0 _ _ _).mono ?_
  rintro e w9 ⟨rfl, rfl⟩
  go_wp2_with fail
  go_ret
  exact step_err (.refl _ _ _) (.refl _) (by decide)
theorem addEdit_is {C : Rs.Cfg} {N : Nat} {l : List Lx.Tk} (A : Option Addr) (n c bc lo : Nat) (vs : Key → SV) (w : World) (h : OwnC w bc lo vs C) (hG : GoodC N C) (hN : N ≤ 890000) (hT : TokIn w bc A l) (hn : l.length = n) (hcn : n ≤ c) (kind : Int) (gk : Nat) (hgk : w.cell? ⟨gk, 0, none⟩ = some (.int .i64 kind)) (hg1 : gk < lo) (hk : (n = 3 ∧ (kind = 0 ∨ kind = 1)) ∨ (n = 4 ∧ kind = 2)) :
    Calls Tryz.prog 137 #[.pointer (some ⟨bc, 0, none⟩), .slice A n c, .pointer (some ⟨gk, 0, none⟩)] w (StepV bc lo w (Rs.addEdit kind C l)) := by
  unfold Rs.addEdit
  cases hla : Rs.lastOf C.scheds with
  | none => exact edit_none A n c bc lo vs w h gk hla
  | some z =>
    simp only
    obtain ⟨hz, hm1⟩ := lastOf_some hla
    have hset : ∀ z', Rs.setSch C z' = { C with scheds := C.scheds.set (C.scheds.length - 1) z' } := fun _ => rfl
    have hfs : ∀ x, ∃ q b, Rs.findS C.pn x = (q, b) := fun x => ⟨_, _, rfl⟩
    obtain ⟨q0, b0, h0⟩ := hfs (Rs.tx l 0)
    obtain ⟨q1, b1, h1⟩ := hfs (Rs.tx l 1)
    rcases hk with ⟨rfl, rfl | rfl⟩ | ⟨rfl, rfl⟩
    · rw [show Rs.whoS 0 C.pn (Rs.tx l 0) = (q0, b0) by unfold Rs.whoS; rw [if_neg (by simp), h0]]
      cases b0
      · rw [if_pos rfl]
        exact edit_Ae A c bc lo vs w h hG hN hT hn hcn gk hgk hg1 hz hm1 q0 h0
      · rw [if_neg (by simp), if_neg (by omega), hset]
        exact edit_A A c bc lo vs w h hG hN hT hn hcn gk hgk hg1 hz hm1 q0 h0
    · by_cases hx : Rs.tx l 0 = Rs.nobodyW
      · rw [show Rs.whoS 1 C.pn (Rs.tx l 0) = (-1, true) by unfold Rs.whoS; rw [if_pos ⟨rfl, hx⟩]]
        rw [if_neg (by simp), if_neg (by omega), hset]
        exact edit_Bo A c bc lo vs w h hG hN hT hn hcn gk hgk hg1 hz hm1 hx
      · rw [show Rs.whoS 1 C.pn (Rs.tx l 0) = (q0, b0) by unfold Rs.whoS; rw [if_neg (fun e => hx e.2), h0]]
        cases b0
        · rw [if_pos rfl]
          exact edit_Be A c bc lo vs w h hG hN hT hn hcn gk hgk hg1 hz hm1 q0 h0 hx
        · rw [if_neg (by simp), if_neg (by omega), hset]
          exact edit_B A c bc lo vs w h hG hN hT hn hcn gk hgk hg1 hz hm1 q0 h0 hx
    · rw [show Rs.whoS 2 C.pn (Rs.tx l 0) = (q0, b0) by unfold Rs.whoS; rw [if_neg (by simp), h0], show Rs.whoS 2 C.pn (Rs.tx l 1) = (q1, b1) by unfold Rs.whoS; rw [if_neg (by simp), h1]]
      cases b0
      · rw [if_pos rfl]
        exact edit_C0 A c bc lo vs w h hG hN hT hn hcn gk hgk hg1 hz hm1 q0 h0
      · rw [if_neg (by simp), if_pos hn]
        cases b1
        · rw [if_pos rfl]
          exact edit_C1 A c bc lo vs w h hG hN hT hn hcn gk hgk hg1 hz hm1 q0 q1 h0 h1
        · rw [if_neg (by simp), hset]
          exact edit_C A c bc lo vs w h hG hN hT hn hcn gk hgk hg1 hz hm1 q0 q1 h0 h1
end Go.Proofs.YtphenbfhojdcpaaGreatDoor
