/- Package resolve: addPerson. Printed by gen_sb.py. -/
import Derived.Test.YtphenbfhojdcpaaGreatDoorKlSca
import Derived.Deep.RegionHeld3
namespace Go.Proofs.YtphenbfhojdcpaaGreatDoor
open Go.RowKit
set_option linter.unusedVariables false
set_option linter.unusedSimpArgs false
set_option maxRecDepth 100000
theorem per_vals {p : Rs.Pers} (h : p.quiet = []) : ∀ j, j < 6 → (#[Value.string ⟨p.name.toArray⟩, .int .i64 p.zone, .slice none 0 0, .int .i64 p.maxw, .int .i64 p.minr, .bool p.cons] : Array Value)[j]? = some (ePers (p, noSV) j) := fun j hj => by
  rcases j with _ | _ | _ | _ | _ | _ | _ <;> first | rfl | omega
theorem opt_quiet : ∀ (n : Nat) (l : List Lx.Tk) (p : Rs.Pers), l.length ≤ n → (Rs.optS l p).quiet = p.quiet
  | _, [], p, _ => rfl
  | _, [_], p, _ => rfl
  | n + 1, t :: u :: r, p, h => by
    have h1 : (u :: r).length ≤ n := by simpa using h
    have h2 : r.length ≤ n := by simp at h1; omega
    unfold Rs.optS
    split
    · exact opt_quiet n r _ h2
    · split
      · exact opt_quiet n r _ h2
      · exact opt_quiet n (u :: r) _ h1
theorem but_below {w w3 : World} {o : Obj} (h : But w.heap.size (w.alloc o).heap.size (w.alloc o) w3) : Below w.heap.size w w3 :=
  ⟨h.os, h.tape, h.output, Nat.le_trans (by simp) h.size, fun k hk => (h.block k (by simp; omega) (by omega)).trans (((Below.refl w.heap.size w).alloc (Nat.le_refl _) o).block k hk)⟩
set_option maxHeartbeats 16000000 in
theorem addPers_is {C : Rs.Cfg} {N : Nat} {l : List Lx.Tk} (A : Option Addr) (n c bc lo : Nat) (vs : Key → SV) (w : World) (h : OwnC w bc lo vs C) (hG : GoodC N C) (hN : N ≤ 900000) (hT : TokIn w bc A l) (hl : 2 ≤ l.length) (hn : l.length = n) (hn6 : n ≤ 1000) (hcn : n ≤ c) (hok : Rs.optOk (l.drop 2)) :
    Calls Tryz.prog 87 #[.pointer (some ⟨bc, 0, none⟩), .slice A n c] w (StepV bc lo w (Rs.addPerson C l)) := by
  obtain ⟨b, off, _k0, rfl, hb, -, t0, -, -⟩ := hT.get (i := 0) (by omega)
  obtain ⟨b_, off_, _k1, ea, -, -, t1, -, -⟩ := hT.get (i := 1) (by omega)
  cases ea
  have z0 : (0 : Int) < n := by omega
  have z2 : 0 < n := by omega
  have z4 : (1 : Int) ≤ n := by omega
  have hlt := h.lt
  have hle := h.le
  have z1 : (1 : Int) < n := by omega
  have z3 : 1 < n := by omega
  have z5 : (2 : Int) ≤ n := by omega
  have z6 : (2 : Int) ≤ c := by omega
  have hcf := h.cfg hG (by omega)
  obtain ⟨p, hp⟩ : ∃ p, Rs.findS C.zn (Rs.tx l 1) = p := ⟨_, rfl⟩
  unfold Rs.addPerson
  rw [hp]
  have HP := Lib.hid hp
  have HZN := Lib.hid hcf.zones
  obtain ⟨q, ok⟩ := p
  obtain ⟨vz, hvz⟩ : ∃ v, vs .zn = v := ⟨_, rfl⟩
  rw [hvz] at HZN
  have hs0 := h.slices.1
  rw [hvz] at hs0
  obtain ⟨AZ, nz, cz⟩ := vz
  simp only at hs0
  have HS0 : Hid (∀ W, Below w.heap.size w W → W.cell? ⟨bc, 0, none⟩ = some (.slice AZ nz cz) ∧ W.cell? ⟨b, off + 3 + 1, none⟩ = some (.string ⟨(Rs.tx l 1).toArray⟩)) := Lib.hid fun W hW => ⟨cell_lift hs0 hW, cell_lift (by simpa using t1) hW⟩
  have CF := Lib.hid (fun (W : World) (hW : Below w.heap.size w W) => z_find HP.out AZ nz cz W (z_nest HZN.out hW))
  have hq0 := opt_quiet (l.drop 2).length (l.drop 2) ⟨Rs.tx l 0, q, [], 0, 0, false⟩ (Nat.le_refl _)
  obtain ⟨PP, hPP⟩ : ∃ P, Rs.optS (l.drop 2) ⟨Rs.tx l 0, q, [], 0, 0, false⟩ = P := ⟨_, rfl⟩
  rw [hPP] at hq0
  simp only at hq0
  have HPP := Lib.hid hPP
  have HOK := Lib.hid hok
  have HN := Lib.hid hn
  clear hp hcf hs0 hvz hok
  cases ok
  · rw [if_pos rfl]
    clear hPP
    go_enter Tryz.func87, Tryz.ntmps87
    go_wp2_with fail
    go_region_held3 (fun W => W.cell? ⟨bc, 0, none⟩ = some (.slice AZ nz cz) ∧ W.cell? ⟨b, off + 3 + 1, none⟩ = some (.string ⟨(Rs.tx l 1).toArray⟩))
      (first | exact HS0.out _ (bdrewN (Below.refl _ _) 1) | exact HS0.out _ hw2)
      (first | (go_at_call 70; ((with_reducible refine (CF.out _ (Below.refl _ _).drew).mono ?_); rintro e w2 ⟨rfl, hb2⟩; have hw2 : Below w.heap.size w w2 := ((Below.refl w.heap.size w).drew).trans hb2)))
    go_wp2_with fail
    go_ret
    exact step_err (.of_below hw2 hle) (.of_below hw2) (by decide)
  · rw [if_neg (by simp), hPP]
    clear hPP
    go_enter Tryz.func87, Tryz.ntmps87
    go_wp2_with fail
    go_region_held3 (fun W => W.cell? ⟨bc, 0, none⟩ = some (.slice AZ nz cz) ∧ W.cell? ⟨b, off + 3 + 1, none⟩ = some (.string ⟨(Rs.tx l 1).toArray⟩))
      (first | exact HS0.out _ (bdrewN (Below.refl _ _) 1) | exact HS0.out _ hw2)
      (first | (go_at_call 70; ((with_reducible refine (CF.out _ (Below.refl _ _).drew).mono ?_); rintro e w2 ⟨rfl, hb2⟩; have hw2 : Below w.heap.size w w2 := ((Below.refl w.heap.size w).drew).trans hb2)))

    have h2 := h.below hw2
    have hT2 := hT.but (.of_below hw2 hle) hlt
    have HB2 := Lib.hid (But.of_below (bc := bc) hw2 hle)
    have t0' : w2.cell? ⟨b, off + 1, none⟩ = some (.string ⟨(Rs.tx l 0).toArray⟩) := cell_lift (by simpa using t0) hw2
    have hle2 := h2.le
    have hlt2 := h2.lt
    have hs2 := hw2.size
    have PB := BlkAt.new w2 (perC ⟨Rs.tx l 0, q, [], 0, 0, false⟩) 35
    have hTA := hT2.at_.alloc (.cells (perC ⟨Rs.tx l 0, q, [], 0, 0, false⟩) 35)
    have CO := fun (A' : Option Addr) (n' c' : Nat) (hA' : ListAt 3 eTok (w2.alloc (.cells (perC ⟨Rs.tx l 0, q, [], 0, 0, false⟩) 35)) A' (l.drop 2)) (hne : ∀ ad, A' = some ad → ad.block ≠ w2.heap.size) (hn' : (l.drop 2).length = n') (hc' : n' ≤ c') => opts_is HPP.out HOK.out w2.heap.size A' n' c' _ PB hA' hne hn' hc' (by rw [← hn', List.length_drop]; omega)
    have hR2 := OptK.rest hTA hn hcn b off 2 rfl (by omega)
    have hld : (l.drop 2).length = n - 2 := by rw [List.length_drop]; omega
    have hfb : b ≠ w2.heap.size := by omega
    have C2 := Lib.hid (CO _ (n - 2) (c - 2) hR2 (fun ad e => by split at e <;> cases e <;> exact hfb) hld (by omega))
    clear hb2 hw2 CO hR2 hTA PB hld
    by_cases hc2 : c = 2
    · subst hc2
      obtain rfl : n = 2 := by omega
      simp only [if_true] at C2
      unfold perC at C2
      go_wp2_with fail
      refine C2.out.mono ?_
      rintro e w3 ⟨rfl, PB3, U3⟩
      have hw3 := but_below U3
      have h3 := h2.below hw3
      have HB3 := Lib.hid (HB2.out.trans (.of_below hw3 hle2))
      have hle3 := h3.le
      have hlt3 := h3.lt
      have hs3 := hw3.size
      have PB3' := PB3.lt_
      go_wp2_with fail
      obtain ⟨hO1, hlen1⟩ := own_list (h3.row .pe) (by omega)
      have s0 := h3.slices.2.1
      have hfr := h3.free 1
      have hrow : ∀ g, (sv (vs .pe)).ownBlock = some g → lo ≤ g ∧ g < w2.heap.size := fun g hg => h2.far hg
      obtain ⟨v1, hv1⟩ : ∃ v, vs .pe = v := ⟨_, rfl⟩
      rw [hv1] at hO1 hlen1 hrow
      try rw [hv1] at s0
      obtain ⟨A1, n1, c1⟩ := v1
      simp only [sv] at s0 hO1 hrow hlen1
      have HZ : Hid ((withIx (fun i => vs (.qu i)) C.people).length = n1 ∧ n1 ≤ 900000) := Lib.hid ⟨hlen1, by rw [withIx_len] at hlen1; have := hG.pl; omega⟩
      have HO := Lib.hid hO1
      have hσ : some bc ≠ (Value.slice A1 n1 c1).ownBlock := fun e => by have := hrow _ e.symm; have := h3.lt; omega
      have r0 : some w2.heap.size ≠ (Value.slice A1 n1 c1).ownBlock := fun e => by have := hrow _ e.symm; omega
      have hz0 : w2.heap.size ≠ bc := by omega
      have m0 : w3.cell? ⟨w2.heap.size, 0, none⟩ = some (.string ⟨PP.name.toArray⟩) := PB3.cell rfl
      have r1 : some w2.heap.size ≠ (Value.slice A1 n1 c1).ownBlock := fun e => by have := hrow _ e.symm; omega
      have hz1 : w2.heap.size ≠ bc := by omega
      have m1 : w3.cell? ⟨w2.heap.size, 1, none⟩ = some (.int .i64 PP.zone) := PB3.cell rfl
      have r2 : some w2.heap.size ≠ (Value.slice A1 n1 c1).ownBlock := fun e => by have := hrow _ e.symm; omega
      have hz2 : w2.heap.size ≠ bc := by omega
      have m2 : w3.cell? ⟨w2.heap.size, 2, none⟩ = some (.slice none 0 0) := PB3.cell rfl
      have r3 : some w2.heap.size ≠ (Value.slice A1 n1 c1).ownBlock := fun e => by have := hrow _ e.symm; omega
      have hz3 : w2.heap.size ≠ bc := by omega
      have m3 : w3.cell? ⟨w2.heap.size, 3, none⟩ = some (.int .i64 PP.maxw) := PB3.cell rfl
      have r4 : some w2.heap.size ≠ (Value.slice A1 n1 c1).ownBlock := fun e => by have := hrow _ e.symm; omega
      have hz4 : w2.heap.size ≠ bc := by omega
      have m4 : w3.cell? ⟨w2.heap.size, 4, none⟩ = some (.int .i64 PP.minr) := PB3.cell rfl
      have r5 : some w2.heap.size ≠ (Value.slice A1 n1 c1).ownBlock := fun e => by have := hrow _ e.symm; omega
      have hz5 : w2.heap.size ≠ bc := by omega
      have m5 : w3.cell? ⟨w2.heap.size, 5, none⟩ = some (.bool PP.cons) := PB3.cell rfl
      have HS : Hid (∀ W, w3.grownBy W (Value.slice A1 n1 c1).ownBlock → W.cell? ⟨w2.heap.size, 0, none⟩ = some (.string ⟨PP.name.toArray⟩) ∧ W.cell? ⟨w2.heap.size, 1, none⟩ = some (.int .i64 PP.zone) ∧ W.cell? ⟨w2.heap.size, 2, none⟩ = some (.slice none 0 0) ∧ W.cell? ⟨w2.heap.size, 3, none⟩ = some (.int .i64 PP.maxw) ∧ W.cell? ⟨w2.heap.size, 4, none⟩ = some (.int .i64 PP.minr) ∧ W.cell? ⟨w2.heap.size, 5, none⟩ = some (.bool PP.cons)) := Lib.hid fun W hW => ⟨lim r0 m0 W hW, lim r1 m1 W hW, lim r2 m2 W hW, lim r3 m3 W hW, lim r4 m4 W hW, lim r5 m5 W hW⟩
      have HZ2 : Hid (∀ W v, w3.grownBy W (Value.slice A1 n1 c1).ownBlock → (W.setCell ⟨bc, 1, none⟩ v).cell? ⟨w2.heap.size, 0, none⟩ = some (.string ⟨PP.name.toArray⟩) ∧ (W.setCell ⟨bc, 1, none⟩ v).cell? ⟨w2.heap.size, 1, none⟩ = some (.int .i64 PP.zone) ∧ (W.setCell ⟨bc, 1, none⟩ v).cell? ⟨w2.heap.size, 2, none⟩ = some (.slice none 0 0) ∧ (W.setCell ⟨bc, 1, none⟩ v).cell? ⟨w2.heap.size, 3, none⟩ = some (.int .i64 PP.maxw) ∧ (W.setCell ⟨bc, 1, none⟩ v).cell? ⟨w2.heap.size, 4, none⟩ = some (.int .i64 PP.minr) ∧ (W.setCell ⟨bc, 1, none⟩ v).cell? ⟨w2.heap.size, 5, none⟩ = some (.bool PP.cons)) := Lib.hid fun W v hW => ⟨limZ r0 hz0 m0 W v hW, limZ r1 hz1 m1 W v hW, limZ r2 hz2 m2 W v hW, limZ r3 hz3 m3 W v hW, limZ r4 hz4 m4 W v hW, limZ r5 hz5 m5 W v hW⟩
      have HC : Hid (∀ W, w3.grownBy W (Value.slice A1 n1 c1).ownBlock → W.cell? ⟨bc, 1, none⟩ = some (.slice A1 n1 c1)) := Lib.hid (lim hσ s0)
      have HCF : Hid (∀ W, w3.grownBy W (Value.slice A1 n1 c1).ownBlock → W.frozen? ⟨bc, 1, none⟩ = false) := Lib.hid (limF hσ (by omega) hfr)
      have HF := Lib.hid (fun (W W1 : World) (g cap : Nat) => fin_pers (W := W) (W1 := W1) (g := g) (cap := cap) (z := PP) h3 hv1 hq0 (by rw [withIx_len] at hlen1; exact hlen1))
      clear hO1 hrow hlen1 s0 hfr hσ r0 hz0 m0 r1 hz1 m1 r2 hz2 m2 r3 hz3 m3 r4 hz4 m4 r5 hz5 m5
      go_wp2_with fail
      refine wp_region_held_drew (S := fun W => W.cell? ⟨w2.heap.size, 0, none⟩ = some (.string ⟨PP.name.toArray⟩) ∧ W.cell? ⟨w2.heap.size, 1, none⟩ = some (.int .i64 PP.zone) ∧ W.cell? ⟨w2.heap.size, 2, none⟩ = some (.slice none 0 0) ∧ W.cell? ⟨w2.heap.size, 3, none⟩ = some (.int .i64 PP.maxw) ∧ W.cell? ⟨w2.heap.size, 4, none⟩ = some (.int .i64 PP.minr) ∧ W.cell? ⟨w2.heap.size, 5, none⟩ = some (.bool PP.cons)) (by kernel_rfl) (HS.out _ (grown_drew (grown_refl _ _))) (fun hH => ?_)
      refine wpAnyH_take (i := 0) (oi := ⟨some 31, .move (.tmp 0), 116, "build.go:79", #[], none⟩) (v := ?_) rfl (by kernel_rfl) (by kernel_rfl) (by kernel_rfl) (fun _ _ _ h => h) (Or.inl ⟨by rfl, ?_⟩) hH ?_
      rotate_left
      focus (intro w hSw; (try dsimp only at hSw); go_simp; (try with_reducible rfl); done)
      try simp only [Act.put, List.setIfInBounds_toArray, List.set_cons_zero, List.set_cons_succ]
      refine wpAnyH_take (i := 1) (oi := ⟨some 32, .move (.tmp 0), 116, "build.go:79", #[], none⟩) (v := ?_) rfl (by kernel_rfl) (by kernel_rfl) (by kernel_rfl) (fun _ _ _ h => h) (Or.inl ⟨by rfl, ?_⟩) hH ?_
      rotate_left
      focus (intro w hSw; (try dsimp only at hSw); go_simp; (try with_reducible rfl); done)
      try simp only [Act.put, List.setIfInBounds_toArray, List.set_cons_zero, List.set_cons_succ]
      refine wpAnyH_take (i := 2) (oi := ⟨some 33, .nilCheck (.tmp 32), 0, "build.go:79", #[⟨1, .data⟩], none⟩) (v := ?_) rfl (by kernel_rfl) (by kernel_rfl) (by kernel_rfl) (fun _ _ _ h => h) (Or.inl ⟨by rfl, ?_⟩) hH ?_
      rotate_left
      focus (intro w hSw; (try dsimp only at hSw); go_simp; (try with_reducible rfl); done)
      try simp only [Act.put, List.setIfInBounds_toArray, List.set_cons_zero, List.set_cons_succ]
      refine wpAnyH_take (i := 3) (oi := ⟨some 34, .fieldAddr 27 (.tmp 33) 1, 0, "build.go:79", #[⟨2, .data⟩], none⟩) (v := ?_) rfl (by kernel_rfl) (by kernel_rfl) (by kernel_rfl) (fun _ _ _ h => h) (Or.inl ⟨by rfl, ?_⟩) hH ?_
      rotate_left
      focus (intro w hSw; (try dsimp only at hSw); go_simp; (try with_reducible rfl); done)
      try simp only [Act.put, List.setIfInBounds_toArray, List.set_cons_zero, List.set_cons_succ]
      refine wpAnyH_take (i := 5) (oi := ⟨some 36, .load 35 (.tmp 7), 35, "build.go:79", #[], none⟩) (v := ?_) rfl (by kernel_rfl) (by kernel_rfl) (by kernel_rfl) (fun _ _ _ h => h) (Or.inl ⟨by rfl, ?_⟩) hH ?_
      rotate_left
      focus (intro w hSw; (try dsimp only at hSw); go_simp; (try with_reducible rfl); done)
      try simp only [Act.put, List.setIfInBounds_toArray, List.set_cons_zero, List.set_cons_succ]
      refine wpAnyH_ready (rs := [4, 6]) (by kernel_rfl) (by simp) ?_
      refine AllReadyH.cons (o := ⟨some 35, .load 23 (.tmp 34), 23, "build.go:79", #[⟨3, .data⟩], none⟩) rfl (fun K hK => ?_) (AllReadyH.cons (o := ⟨some 37, .buildSlice 23 1 #[(0, .tmp 36)], 23, "build.go:79", #[⟨5, .data⟩], none⟩) rfl (fun K hK => ?_) AllReadyH.nil)
      · have y0 := HC.out _ (grown_drew (grown_refl _ _))
        have y3 := fun o => HC.out _ (grown_drew (grown_alloc (grown_refl w3 _) o))
        have y4 := fun o => HC.out _ (grown_alloc (grown_drew (grown_refl w3 _)) o)
        go_simp
        clear y0 y3 y4
        refine hK.out _ _ (HS.out _ (by first | exact grown_drew (grown_refl _ _) | exact grown_drew (grown_alloc (grown_refl _ _) _) | exact grown_alloc (grown_drew (grown_refl _ _)) _)) (fun hH2 => ?_)
        clear hK K hH
        have hH := hH2
        clear hH2
        try simp only [Act.put, List.setIfInBounds_toArray, List.set_cons_zero, List.set_cons_succ]
        refine wpAnyH_ready (rs := [6]) (by kernel_rfl) (by simp) ?_
        refine AllReadyH.cons (o := ⟨some 37, .buildSlice 23 1 #[(0, .tmp 36)], 23, "build.go:79", #[⟨5, .data⟩], none⟩) rfl (fun K hK => ?_) AllReadyH.nil
        go_simp
        refine hK.out _ _ (HS.out _ (by first | exact grown_drew (grown_refl _ _) | exact grown_drew (grown_alloc (grown_refl _ _) _) | exact grown_alloc (grown_drew (grown_refl _ _)) _)) (fun hH2 => ?_)
        clear hK K hH
        have hH := hH2
        clear hH2
        try simp only [Act.put, List.setIfInBounds_toArray, List.set_cons_zero, List.set_cons_succ]
        refine wpAnyH_ready (rs := [7]) (by kernel_rfl) (by simp) ?_
        refine AllReadyH.cons (o := ⟨some 38, .call { callee := .builtin .append, args := #[.tmp 35, .tmp 37], argTypes := #[23, 23] }, 23, "build.go:79", #[⟨4, .data⟩, ⟨6, .data⟩], none⟩) rfl (fun K hK => ?_) AllReadyH.nil
        (refine step_append_row kPer _ (by rfl) (.tmp 35) (.tmp 37) (by rfl) lo (.slice A1 n1 c1) (withIx (fun i => vs (.qu i)) C.people) (by rfl) (by first | exact (HO.out.alloc _).drewN 1 | exact (HO.out.drewN 1).alloc _) w3.heap.size (PP, noSV) (by rfl) (one_new (by first | exact BlkAt.drewN (blk_now rfl) 1 | exact blk_now rfl) (per_vals hq0)) (by have := HZ.out; omega) (by simp; omega) ?_; intro g cap w' hO' hg hgo hlt'; have hq : w3.grownBy w' (Value.slice A1 n1 c1).ownBlock := grown_trans (by first | exact grown_drew (grown_alloc (grown_refl _ _) _) | exact grown_alloc (grown_drew (grown_refl _ _)) _) hg; have y1 := HC.out _ hq; have y2 := HCF.out _ hq)
        refine hK.out _ _ (HS.out _ hq) (fun hH2 => ?_)
        clear hK K hH
        have hH := hH2
        clear hH2
        try simp only [Act.put, List.setIfInBounds_toArray, List.set_cons_zero, List.set_cons_succ]
        refine wpAnyH_take (i := 8) (oi := ⟨some 39, .nilCheck (.tmp 31), 0, "build.go:79", #[⟨0, .data⟩, ⟨0, .phase⟩, ⟨1, .phase⟩, ⟨2, .phase⟩, ⟨3, .phase⟩, ⟨4, .phase⟩, ⟨5, .phase⟩, ⟨6, .phase⟩, ⟨7, .phase⟩], none⟩) (v := ?_) rfl (by kernel_rfl) (by kernel_rfl) (by kernel_rfl) (fun _ _ _ h => h) (Or.inl ⟨by rfl, ?_⟩) hH ?_
        rotate_left
        focus (intro w hSw; (try dsimp only at hSw); go_simp; (try with_reducible rfl); done)
        try simp only [Act.put, List.setIfInBounds_toArray, List.set_cons_zero, List.set_cons_succ]
        refine wpAnyH_take (i := 9) (oi := ⟨some 40, .fieldAddr 27 (.tmp 39) 1, 0, "build.go:79", #[⟨8, .data⟩, ⟨0, .phase⟩, ⟨1, .phase⟩, ⟨2, .phase⟩, ⟨3, .phase⟩, ⟨4, .phase⟩, ⟨5, .phase⟩, ⟨6, .phase⟩, ⟨7, .phase⟩], none⟩) (v := ?_) rfl (by kernel_rfl) (by kernel_rfl) (by kernel_rfl) (fun _ _ _ h => h) (Or.inl ⟨by rfl, ?_⟩) hH ?_
        rotate_left
        focus (intro w hSw; (try dsimp only at hSw); go_simp; (try with_reducible rfl); done)
        try simp only [Act.put, List.setIfInBounds_toArray, List.set_cons_zero, List.set_cons_succ]
        refine wpAnyH_ready (rs := [10]) (by kernel_rfl) (by simp) ?_
        refine AllReadyH.cons (o := ⟨none, .store 23 (.tmp 40) (.tmp 38), 0, "build.go:79", #[⟨9, .data⟩, ⟨7, .data⟩, ⟨7, .chain⟩, ⟨0, .phase⟩, ⟨1, .phase⟩, ⟨2, .phase⟩, ⟨3, .phase⟩, ⟨4, .phase⟩, ⟨5, .phase⟩, ⟨6, .phase⟩, ⟨7, .phase⟩], none⟩) rfl (fun K hK => ?_) AllReadyH.nil
        go_simp
        refine hK.out _ _ (HZ2.out _ _ hq) (fun hH2 => ?_)
        clear hK K hH
        have hH := hH2
        clear hH2
        try simp only [Act.put, List.setIfInBounds_toArray, List.set_cons_zero, List.set_cons_succ]
        refine wpAnyH_done (by kernel_rfl) ?_ _
        rw [HZ.out.1]
        go_wp2_with fail
        go_ret
        exact (HF.out _ _ _ _ (by first | exact bdrewN ((Below.refl _ _).alloc (Nat.le_refl _) _) 1 | exact (bdrewN (Below.refl _ _) 1).alloc (Nat.le_refl _) _) hO' hg hgo).step HB3.out
      · go_simp
        refine hK.out _ _ (HS.out _ (by first | exact grown_drew (grown_refl _ _) | exact grown_drew (grown_alloc (grown_refl _ _) _) | exact grown_alloc (grown_drew (grown_refl _ _)) _)) (fun hH2 => ?_)
        clear hK K hH
        have hH := hH2
        clear hH2
        try simp only [Act.put, List.setIfInBounds_toArray, List.set_cons_zero, List.set_cons_succ]
        refine wpAnyH_ready (rs := [4]) (by kernel_rfl) (by simp) ?_
        refine AllReadyH.cons (o := ⟨some 35, .load 23 (.tmp 34), 23, "build.go:79", #[⟨3, .data⟩], none⟩) rfl (fun K hK => ?_) AllReadyH.nil
        have y0 := HC.out _ (grown_drew (grown_refl _ _))
        have y3 := fun o => HC.out _ (grown_drew (grown_alloc (grown_refl w3 _) o))
        have y4 := fun o => HC.out _ (grown_alloc (grown_drew (grown_refl w3 _)) o)
        go_simp
        clear y0 y3 y4
        refine hK.out _ _ (HS.out _ (by first | exact grown_drew (grown_refl _ _) | exact grown_drew (grown_alloc (grown_refl _ _) _) | exact grown_alloc (grown_drew (grown_refl _ _)) _)) (fun hH2 => ?_)
        clear hK K hH
        have hH := hH2
        clear hH2
        try simp only [Act.put, List.setIfInBounds_toArray, List.set_cons_zero, List.set_cons_succ]
        refine wpAnyH_ready (rs := [7]) (by kernel_rfl) (by simp) ?_
        refine AllReadyH.cons (o := ⟨some 38, .call { callee := .builtin .append, args := #[.tmp 35, .tmp 37], argTypes := #[23, 23] }, 23, "build.go:79", #[⟨4, .data⟩, ⟨6, .data⟩], none⟩) rfl (fun K hK => ?_) AllReadyH.nil
        (refine step_append_row kPer _ (by rfl) (.tmp 35) (.tmp 37) (by rfl) lo (.slice A1 n1 c1) (withIx (fun i => vs (.qu i)) C.people) (by rfl) (by first | exact (HO.out.alloc _).drewN 1 | exact (HO.out.drewN 1).alloc _) w3.heap.size (PP, noSV) (by rfl) (one_new (by first | exact BlkAt.drewN (blk_now rfl) 1 | exact blk_now rfl) (per_vals hq0)) (by have := HZ.out; omega) (by simp; omega) ?_; intro g cap w' hO' hg hgo hlt'; have hq : w3.grownBy w' (Value.slice A1 n1 c1).ownBlock := grown_trans (by first | exact grown_drew (grown_alloc (grown_refl _ _) _) | exact grown_alloc (grown_drew (grown_refl _ _)) _) hg; have y1 := HC.out _ hq; have y2 := HCF.out _ hq)
        refine hK.out _ _ (HS.out _ hq) (fun hH2 => ?_)
        clear hK K hH
        have hH := hH2
        clear hH2
        try simp only [Act.put, List.setIfInBounds_toArray, List.set_cons_zero, List.set_cons_succ]
        refine wpAnyH_take (i := 8) (oi := ⟨some 39, .nilCheck (.tmp 31), 0, "build.go:79", #[⟨0, .data⟩, ⟨0, .phase⟩, ⟨1, .phase⟩, ⟨2, .phase⟩, ⟨3, .phase⟩, ⟨4, .phase⟩, ⟨5, .phase⟩, ⟨6, .phase⟩, ⟨7, .phase⟩], none⟩) (v := ?_) rfl (by kernel_rfl) (by kernel_rfl) (by kernel_rfl) (fun _ _ _ h => h) (Or.inl ⟨by rfl, ?_⟩) hH ?_
        rotate_left
        focus (intro w hSw; (try dsimp only at hSw); go_simp; (try with_reducible rfl); done)
        try simp only [Act.put, List.setIfInBounds_toArray, List.set_cons_zero, List.set_cons_succ]
        refine wpAnyH_take (i := 9) (oi := ⟨some 40, .fieldAddr 27 (.tmp 39) 1, 0, "build.go:79", #[⟨8, .data⟩, ⟨0, .phase⟩, ⟨1, .phase⟩, ⟨2, .phase⟩, ⟨3, .phase⟩, ⟨4, .phase⟩, ⟨5, .phase⟩, ⟨6, .phase⟩, ⟨7, .phase⟩], none⟩) (v := ?_) rfl (by kernel_rfl) (by kernel_rfl) (by kernel_rfl) (fun _ _ _ h => h) (Or.inl ⟨by rfl, ?_⟩) hH ?_
        rotate_left
        focus (intro w hSw; (try dsimp only at hSw); go_simp; (try with_reducible rfl); done)
        try simp only [Act.put, List.setIfInBounds_toArray, List.set_cons_zero, List.set_cons_succ]
        refine wpAnyH_ready (rs := [10]) (by kernel_rfl) (by simp) ?_
        refine AllReadyH.cons (o := ⟨none, .store 23 (.tmp 40) (.tmp 38), 0, "build.go:79", #[⟨9, .data⟩, ⟨7, .data⟩, ⟨7, .chain⟩, ⟨0, .phase⟩, ⟨1, .phase⟩, ⟨2, .phase⟩, ⟨3, .phase⟩, ⟨4, .phase⟩, ⟨5, .phase⟩, ⟨6, .phase⟩, ⟨7, .phase⟩], none⟩) rfl (fun K hK => ?_) AllReadyH.nil
        go_simp
        refine hK.out _ _ (HZ2.out _ _ hq) (fun hH2 => ?_)
        clear hK K hH
        have hH := hH2
        clear hH2
        try simp only [Act.put, List.setIfInBounds_toArray, List.set_cons_zero, List.set_cons_succ]
        refine wpAnyH_done (by kernel_rfl) ?_ _
        rw [HZ.out.1]
        go_wp2_with fail
        go_ret
        exact (HF.out _ _ _ _ (by first | exact bdrewN ((Below.refl _ _).alloc (Nat.le_refl _) _) 1 | exact (bdrewN (Below.refl _ _) 1).alloc (Nat.le_refl _) _) hO' hg hgo).step HB3.out
    · simp only [if_neg hc2] at C2
      unfold perC at C2
      go_wp2_with fail
      refine C2.out.mono ?_
      rintro e w3 ⟨rfl, PB3, U3⟩
      have hw3 := but_below U3
      have h3 := h2.below hw3
      have HB3 := Lib.hid (HB2.out.trans (.of_below hw3 hle2))
      have hle3 := h3.le
      have hlt3 := h3.lt
      have hs3 := hw3.size
      have PB3' := PB3.lt_
      go_wp2_with fail
      obtain ⟨hO1, hlen1⟩ := own_list (h3.row .pe) (by omega)
      have s0 := h3.slices.2.1
      have hfr := h3.free 1
      have hrow : ∀ g, (sv (vs .pe)).ownBlock = some g → lo ≤ g ∧ g < w2.heap.size := fun g hg => h2.far hg
      obtain ⟨v1, hv1⟩ : ∃ v, vs .pe = v := ⟨_, rfl⟩
      rw [hv1] at hO1 hlen1 hrow
      try rw [hv1] at s0
      obtain ⟨A1, n1, c1⟩ := v1
      simp only [sv] at s0 hO1 hrow hlen1
      have HZ : Hid ((withIx (fun i => vs (.qu i)) C.people).length = n1 ∧ n1 ≤ 900000) := Lib.hid ⟨hlen1, by rw [withIx_len] at hlen1; have := hG.pl; omega⟩
      have HO := Lib.hid hO1
      have hσ : some bc ≠ (Value.slice A1 n1 c1).ownBlock := fun e => by have := hrow _ e.symm; have := h3.lt; omega
      have r0 : some w2.heap.size ≠ (Value.slice A1 n1 c1).ownBlock := fun e => by have := hrow _ e.symm; omega
      have hz0 : w2.heap.size ≠ bc := by omega
      have m0 : w3.cell? ⟨w2.heap.size, 0, none⟩ = some (.string ⟨PP.name.toArray⟩) := PB3.cell rfl
      have r1 : some w2.heap.size ≠ (Value.slice A1 n1 c1).ownBlock := fun e => by have := hrow _ e.symm; omega
      have hz1 : w2.heap.size ≠ bc := by omega
      have m1 : w3.cell? ⟨w2.heap.size, 1, none⟩ = some (.int .i64 PP.zone) := PB3.cell rfl
      have r2 : some w2.heap.size ≠ (Value.slice A1 n1 c1).ownBlock := fun e => by have := hrow _ e.symm; omega
      have hz2 : w2.heap.size ≠ bc := by omega
      have m2 : w3.cell? ⟨w2.heap.size, 2, none⟩ = some (.slice none 0 0) := PB3.cell rfl
      have r3 : some w2.heap.size ≠ (Value.slice A1 n1 c1).ownBlock := fun e => by have := hrow _ e.symm; omega
      have hz3 : w2.heap.size ≠ bc := by omega
      have m3 : w3.cell? ⟨w2.heap.size, 3, none⟩ = some (.int .i64 PP.maxw) := PB3.cell rfl
      have r4 : some w2.heap.size ≠ (Value.slice A1 n1 c1).ownBlock := fun e => by have := hrow _ e.symm; omega
      have hz4 : w2.heap.size ≠ bc := by omega
      have m4 : w3.cell? ⟨w2.heap.size, 4, none⟩ = some (.int .i64 PP.minr) := PB3.cell rfl
      have r5 : some w2.heap.size ≠ (Value.slice A1 n1 c1).ownBlock := fun e => by have := hrow _ e.symm; omega
      have hz5 : w2.heap.size ≠ bc := by omega
      have m5 : w3.cell? ⟨w2.heap.size, 5, none⟩ = some (.bool PP.cons) := PB3.cell rfl
      have HS : Hid (∀ W, w3.grownBy W (Value.slice A1 n1 c1).ownBlock → W.cell? ⟨w2.heap.size, 0, none⟩ = some (.string ⟨PP.name.toArray⟩) ∧ W.cell? ⟨w2.heap.size, 1, none⟩ = some (.int .i64 PP.zone) ∧ W.cell? ⟨w2.heap.size, 2, none⟩ = some (.slice none 0 0) ∧ W.cell? ⟨w2.heap.size, 3, none⟩ = some (.int .i64 PP.maxw) ∧ W.cell? ⟨w2.heap.size, 4, none⟩ = some (.int .i64 PP.minr) ∧ W.cell? ⟨w2.heap.size, 5, none⟩ = some (.bool PP.cons)) := Lib.hid fun W hW => ⟨lim r0 m0 W hW, lim r1 m1 W hW, lim r2 m2 W hW, lim r3 m3 W hW, lim r4 m4 W hW, lim r5 m5 W hW⟩
      have HZ2 : Hid (∀ W v, w3.grownBy W (Value.slice A1 n1 c1).ownBlock → (W.setCell ⟨bc, 1, none⟩ v).cell? ⟨w2.heap.size, 0, none⟩ = some (.string ⟨PP.name.toArray⟩) ∧ (W.setCell ⟨bc, 1, none⟩ v).cell? ⟨w2.heap.size, 1, none⟩ = some (.int .i64 PP.zone) ∧ (W.setCell ⟨bc, 1, none⟩ v).cell? ⟨w2.heap.size, 2, none⟩ = some (.slice none 0 0) ∧ (W.setCell ⟨bc, 1, none⟩ v).cell? ⟨w2.heap.size, 3, none⟩ = some (.int .i64 PP.maxw) ∧ (W.setCell ⟨bc, 1, none⟩ v).cell? ⟨w2.heap.size, 4, none⟩ = some (.int .i64 PP.minr) ∧ (W.setCell ⟨bc, 1, none⟩ v).cell? ⟨w2.heap.size, 5, none⟩ = some (.bool PP.cons)) := Lib.hid fun W v hW => ⟨limZ r0 hz0 m0 W v hW, limZ r1 hz1 m1 W v hW, limZ r2 hz2 m2 W v hW, limZ r3 hz3 m3 W v hW, limZ r4 hz4 m4 W v hW, limZ r5 hz5 m5 W v hW⟩
      have HC : Hid (∀ W, w3.grownBy W (Value.slice A1 n1 c1).ownBlock → W.cell? ⟨bc, 1, none⟩ = some (.slice A1 n1 c1)) := Lib.hid (lim hσ s0)
      have HCF : Hid (∀ W, w3.grownBy W (Value.slice A1 n1 c1).ownBlock → W.frozen? ⟨bc, 1, none⟩ = false) := Lib.hid (limF hσ (by omega) hfr)
      have HF := Lib.hid (fun (W W1 : World) (g cap : Nat) => fin_pers (W := W) (W1 := W1) (g := g) (cap := cap) (z := PP) h3 hv1 hq0 (by rw [withIx_len] at hlen1; exact hlen1))
      clear hO1 hrow hlen1 s0 hfr hσ r0 hz0 m0 r1 hz1 m1 r2 hz2 m2 r3 hz3 m3 r4 hz4 m4 r5 hz5 m5
      go_wp2_with fail
      refine wp_region_held_drew (S := fun W => W.cell? ⟨w2.heap.size, 0, none⟩ = some (.string ⟨PP.name.toArray⟩) ∧ W.cell? ⟨w2.heap.size, 1, none⟩ = some (.int .i64 PP.zone) ∧ W.cell? ⟨w2.heap.size, 2, none⟩ = some (.slice none 0 0) ∧ W.cell? ⟨w2.heap.size, 3, none⟩ = some (.int .i64 PP.maxw) ∧ W.cell? ⟨w2.heap.size, 4, none⟩ = some (.int .i64 PP.minr) ∧ W.cell? ⟨w2.heap.size, 5, none⟩ = some (.bool PP.cons)) (by kernel_rfl) (HS.out _ (grown_drew (grown_refl _ _))) (fun hH => ?_)
      refine wpAnyH_take (i := 0) (oi := ⟨some 31, .move (.tmp 0), 116, "build.go:79", #[], none⟩) (v := ?_) rfl (by kernel_rfl) (by kernel_rfl) (by kernel_rfl) (fun _ _ _ h => h) (Or.inl ⟨by rfl, ?_⟩) hH ?_
      rotate_left
      focus (intro w hSw; (try dsimp only at hSw); go_simp; (try with_reducible rfl); done)
      try simp only [Act.put, List.setIfInBounds_toArray, List.set_cons_zero, List.set_cons_succ]
      refine wpAnyH_take (i := 1) (oi := ⟨some 32, .move (.tmp 0), 116, "build.go:79", #[], none⟩) (v := ?_) rfl (by kernel_rfl) (by kernel_rfl) (by kernel_rfl) (fun _ _ _ h => h) (Or.inl ⟨by rfl, ?_⟩) hH ?_
      rotate_left
      focus (intro w hSw; (try dsimp only at hSw); go_simp; (try with_reducible rfl); done)
      try simp only [Act.put, List.setIfInBounds_toArray, List.set_cons_zero, List.set_cons_succ]
      refine wpAnyH_take (i := 2) (oi := ⟨some 33, .nilCheck (.tmp 32), 0, "build.go:79", #[⟨1, .data⟩], none⟩) (v := ?_) rfl (by kernel_rfl) (by kernel_rfl) (by kernel_rfl) (fun _ _ _ h => h) (Or.inl ⟨by rfl, ?_⟩) hH ?_
      rotate_left
      focus (intro w hSw; (try dsimp only at hSw); go_simp; (try with_reducible rfl); done)
      try simp only [Act.put, List.setIfInBounds_toArray, List.set_cons_zero, List.set_cons_succ]
      refine wpAnyH_take (i := 3) (oi := ⟨some 34, .fieldAddr 27 (.tmp 33) 1, 0, "build.go:79", #[⟨2, .data⟩], none⟩) (v := ?_) rfl (by kernel_rfl) (by kernel_rfl) (by kernel_rfl) (fun _ _ _ h => h) (Or.inl ⟨by rfl, ?_⟩) hH ?_
      rotate_left
      focus (intro w hSw; (try dsimp only at hSw); go_simp; (try with_reducible rfl); done)
      try simp only [Act.put, List.setIfInBounds_toArray, List.set_cons_zero, List.set_cons_succ]
      refine wpAnyH_take (i := 5) (oi := ⟨some 36, .load 35 (.tmp 7), 35, "build.go:79", #[], none⟩) (v := ?_) rfl (by kernel_rfl) (by kernel_rfl) (by kernel_rfl) (fun _ _ _ h => h) (Or.inl ⟨by rfl, ?_⟩) hH ?_
      rotate_left
      focus (intro w hSw; (try dsimp only at hSw); go_simp; (try with_reducible rfl); done)
      try simp only [Act.put, List.setIfInBounds_toArray, List.set_cons_zero, List.set_cons_succ]
      refine wpAnyH_ready (rs := [4, 6]) (by kernel_rfl) (by simp) ?_
      refine AllReadyH.cons (o := ⟨some 35, .load 23 (.tmp 34), 23, "build.go:79", #[⟨3, .data⟩], none⟩) rfl (fun K hK => ?_) (AllReadyH.cons (o := ⟨some 37, .buildSlice 23 1 #[(0, .tmp 36)], 23, "build.go:79", #[⟨5, .data⟩], none⟩) rfl (fun K hK => ?_) AllReadyH.nil)
      · have y0 := HC.out _ (grown_drew (grown_refl _ _))
        have y3 := fun o => HC.out _ (grown_drew (grown_alloc (grown_refl w3 _) o))
        have y4 := fun o => HC.out _ (grown_alloc (grown_drew (grown_refl w3 _)) o)
        go_simp
        clear y0 y3 y4
        refine hK.out _ _ (HS.out _ (by first | exact grown_drew (grown_refl _ _) | exact grown_drew (grown_alloc (grown_refl _ _) _) | exact grown_alloc (grown_drew (grown_refl _ _)) _)) (fun hH2 => ?_)
        clear hK K hH
        have hH := hH2
        clear hH2
        try simp only [Act.put, List.setIfInBounds_toArray, List.set_cons_zero, List.set_cons_succ]
        refine wpAnyH_ready (rs := [6]) (by kernel_rfl) (by simp) ?_
        refine AllReadyH.cons (o := ⟨some 37, .buildSlice 23 1 #[(0, .tmp 36)], 23, "build.go:79", #[⟨5, .data⟩], none⟩) rfl (fun K hK => ?_) AllReadyH.nil
        go_simp
        refine hK.out _ _ (HS.out _ (by first | exact grown_drew (grown_refl _ _) | exact grown_drew (grown_alloc (grown_refl _ _) _) | exact grown_alloc (grown_drew (grown_refl _ _)) _)) (fun hH2 => ?_)
        clear hK K hH
        have hH := hH2
        clear hH2
        try simp only [Act.put, List.setIfInBounds_toArray, List.set_cons_zero, List.set_cons_succ]
        refine wpAnyH_ready (rs := [7]) (by kernel_rfl) (by simp) ?_
        refine AllReadyH.cons (o := ⟨some 38, .call { callee := .builtin .append, args := #[.tmp 35, .tmp 37], argTypes := #[23, 23] }, 23, "build.go:79", #[⟨4, .data⟩, ⟨6, .data⟩], none⟩) rfl (fun K hK => ?_) AllReadyH.nil
        (refine step_append_row kPer _ (by rfl) (.tmp 35) (.tmp 37) (by rfl) lo (.slice A1 n1 c1) (withIx (fun i => vs (.qu i)) C.people) (by rfl) (by first | exact (HO.out.alloc _).drewN 1 | exact (HO.out.drewN 1).alloc _) w3.heap.size (PP, noSV) (by rfl) (one_new (by first | exact BlkAt.drewN (blk_now rfl) 1 | exact blk_now rfl) (per_vals hq0)) (by have := HZ.out; omega) (by simp; omega) ?_; intro g cap w' hO' hg hgo hlt'; have hq : w3.grownBy w' (Value.slice A1 n1 c1).ownBlock := grown_trans (by first | exact grown_drew (grown_alloc (grown_refl _ _) _) | exact grown_alloc (grown_drew (grown_refl _ _)) _) hg; have y1 := HC.out _ hq; have y2 := HCF.out _ hq)
        refine hK.out _ _ (HS.out _ hq) (fun hH2 => ?_)
        clear hK K hH
        have hH := hH2
        clear hH2
        try simp only [Act.put, List.setIfInBounds_toArray, List.set_cons_zero, List.set_cons_succ]
        refine wpAnyH_take (i := 8) (oi := ⟨some 39, .nilCheck (.tmp 31), 0, "build.go:79", #[⟨0, .data⟩, ⟨0, .phase⟩, ⟨1, .phase⟩, ⟨2, .phase⟩, ⟨3, .phase⟩, ⟨4, .phase⟩, ⟨5, .phase⟩, ⟨6, .phase⟩, ⟨7, .phase⟩], none⟩) (v := ?_) rfl (by kernel_rfl) (by kernel_rfl) (by kernel_rfl) (fun _ _ _ h => h) (Or.inl ⟨by rfl, ?_⟩) hH ?_
        rotate_left
        focus (intro w hSw; (try dsimp only at hSw); go_simp; (try with_reducible rfl); done)
        try simp only [Act.put, List.setIfInBounds_toArray, List.set_cons_zero, List.set_cons_succ]
        refine wpAnyH_take (i := 9) (oi := ⟨some 40, .fieldAddr 27 (.tmp 39) 1, 0, "build.go:79", #[⟨8, .data⟩, ⟨0, .phase⟩, ⟨1, .phase⟩, ⟨2, .phase⟩, ⟨3, .phase⟩, ⟨4, .phase⟩, ⟨5, .phase⟩, ⟨6, .phase⟩, ⟨7, .phase⟩], none⟩) (v := ?_) rfl (by kernel_rfl) (by kernel_rfl) (by kernel_rfl) (fun _ _ _ h => h) (Or.inl ⟨by rfl, ?_⟩) hH ?_
        rotate_left
        focus (intro w hSw; (try dsimp only at hSw); go_simp; (try with_reducible rfl); done)
        try simp only [Act.put, List.setIfInBounds_toArray, List.set_cons_zero, List.set_cons_succ]
        refine wpAnyH_ready (rs := [10]) (by kernel_rfl) (by simp) ?_
        refine AllReadyH.cons (o := ⟨none, .store 23 (.tmp 40) (.tmp 38), 0, "build.go:79", #[⟨9, .data⟩, ⟨7, .data⟩, ⟨7, .chain⟩, ⟨0, .phase⟩, ⟨1, .phase⟩, ⟨2, .phase⟩, ⟨3, .phase⟩, ⟨4, .phase⟩, ⟨5, .phase⟩, ⟨6, .phase⟩, ⟨7, .phase⟩], none⟩) rfl (fun K hK => ?_) AllReadyH.nil
        go_simp
        refine hK.out _ _ (HZ2.out _ _ hq) (fun hH2 => ?_)
        clear hK K hH
        have hH := hH2
        clear hH2
        try simp only [Act.put, List.setIfInBounds_toArray, List.set_cons_zero, List.set_cons_succ]
        refine wpAnyH_done (by kernel_rfl) ?_ _
        rw [HZ.out.1]
        go_wp2_with fail
        go_ret
        exact (HF.out _ _ _ _ (by first | exact bdrewN ((Below.refl _ _).alloc (Nat.le_refl _) _) 1 | exact (bdrewN (Below.refl _ _) 1).alloc (Nat.le_refl _) _) hO' hg hgo).step HB3.out
      · go_simp
        refine hK.out _ _ (HS.out _ (by first | exact grown_drew (grown_refl _ _) | exact grown_drew (grown_alloc (grown_refl _ _) _) | exact grown_alloc (grown_drew (grown_refl _ _)) _)) (fun hH2 => ?_)
        clear hK K hH
        have hH := hH2
        clear hH2
        try simp only [Act.put, List.setIfInBounds_toArray, List.set_cons_zero, List.set_cons_succ]
        refine wpAnyH_ready (rs := [4]) (by kernel_rfl) (by simp) ?_
        refine AllReadyH.cons (o := ⟨some 35, .load 23 (.tmp 34), 23, "build.go:79", #[⟨3, .data⟩], none⟩) rfl (fun K hK => ?_) AllReadyH.nil
        have y0 := HC.out _ (grown_drew (grown_refl _ _))
        have y3 := fun o => HC.out _ (grown_drew (grown_alloc (grown_refl w3 _) o))
        have y4 := fun o => HC.out _ (grown_alloc (grown_drew (grown_refl w3 _)) o)
        go_simp
        clear y0 y3 y4
        refine hK.out _ _ (HS.out _ (by first | exact grown_drew (grown_refl _ _) | exact grown_drew (grown_alloc (grown_refl _ _) _) | exact grown_alloc (grown_drew (grown_refl _ _)) _)) (fun hH2 => ?_)
        clear hK K hH
        have hH := hH2
        clear hH2
        try simp only [Act.put, List.setIfInBounds_toArray, List.set_cons_zero, List.set_cons_succ]
        refine wpAnyH_ready (rs := [7]) (by kernel_rfl) (by simp) ?_
        refine AllReadyH.cons (o := ⟨some 38, .call { callee := .builtin .append, args := #[.tmp 35, .tmp 37], argTypes := #[23, 23] }, 23, "build.go:79", #[⟨4, .data⟩, ⟨6, .data⟩], none⟩) rfl (fun K hK => ?_) AllReadyH.nil
        (refine step_append_row kPer _ (by rfl) (.tmp 35) (.tmp 37) (by rfl) lo (.slice A1 n1 c1) (withIx (fun i => vs (.qu i)) C.people) (by rfl) (by first | exact (HO.out.alloc _).drewN 1 | exact (HO.out.drewN 1).alloc _) w3.heap.size (PP, noSV) (by rfl) (one_new (by first | exact BlkAt.drewN (blk_now rfl) 1 | exact blk_now rfl) (per_vals hq0)) (by have := HZ.out; omega) (by simp; omega) ?_; intro g cap w' hO' hg hgo hlt'; have hq : w3.grownBy w' (Value.slice A1 n1 c1).ownBlock := grown_trans (by first | exact grown_drew (grown_alloc (grown_refl _ _) _) | exact grown_alloc (grown_drew (grown_refl _ _)) _) hg; have y1 := HC.out _ hq; have y2 := HCF.out _ hq)
        refine hK.out _ _ (HS.out _ hq) (fun hH2 => ?_)
        clear hK K hH
        have hH := hH2
        clear hH2
        try simp only [Act.put, List.setIfInBounds_toArray, List.set_cons_zero, List.set_cons_succ]
        refine wpAnyH_take (i := 8) (oi := ⟨some 39, .nilCheck (.tmp 31), 0, "build.go:79", #[⟨0, .data⟩, ⟨0, .phase⟩, ⟨1, .phase⟩, ⟨2, .phase⟩, ⟨3, .phase⟩, ⟨4, .phase⟩, ⟨5, .phase⟩, ⟨6, .phase⟩, ⟨7, .phase⟩], none⟩) (v := ?_) rfl (by kernel_rfl) (by kernel_rfl) (by kernel_rfl) (fun _ _ _ h => h) (Or.inl ⟨by rfl, ?_⟩) hH ?_
        rotate_left
        focus (intro w hSw; (try dsimp only at hSw); go_simp; (try with_reducible rfl); done)
        try simp only [Act.put, List.setIfInBounds_toArray, List.set_cons_zero, List.set_cons_succ]
        refine wpAnyH_take (i := 9) (oi := ⟨some 40, .fieldAddr 27 (.tmp 39) 1, 0, "build.go:79", #[⟨8, .data⟩, ⟨0, .phase⟩, ⟨1, .phase⟩, ⟨2, .phase⟩, ⟨3, .phase⟩, ⟨4, .phase⟩, ⟨5, .phase⟩, ⟨6, .phase⟩, ⟨7, .phase⟩], none⟩) (v := ?_) rfl (by kernel_rfl) (by kernel_rfl) (by kernel_rfl) (fun _ _ _ h => h) (Or.inl ⟨by rfl, ?_⟩) hH ?_
        rotate_left
        focus (intro w hSw; (try dsimp only at hSw); go_simp; (try with_reducible rfl); done)
        try simp only [Act.put, List.setIfInBounds_toArray, List.set_cons_zero, List.set_cons_succ]
        refine wpAnyH_ready (rs := [10]) (by kernel_rfl) (by simp) ?_
        refine AllReadyH.cons (o := ⟨none, .store 23 (.tmp 40) (.tmp 38), 0, "build.go:79", #[⟨9, .data⟩, ⟨7, .data⟩, ⟨7, .chain⟩, ⟨0, .phase⟩, ⟨1, .phase⟩, ⟨2, .phase⟩, ⟨3, .phase⟩, ⟨4, .phase⟩, ⟨5, .phase⟩, ⟨6, .phase⟩, ⟨7, .phase⟩], none⟩) rfl (fun K hK => ?_) AllReadyH.nil
        go_simp
        refine hK.out _ _ (HZ2.out _ _ hq) (fun hH2 => ?_)
        clear hK K hH
        have hH := hH2
        clear hH2
        try simp only [Act.put, List.setIfInBounds_toArray, List.set_cons_zero, List.set_cons_succ]
        refine wpAnyH_done (by kernel_rfl) ?_ _
        rw [HZ.out.1]
        go_wp2_with fail
        go_ret
        exact (HF.out _ _ _ _ (by first | exact bdrewN ((Below.refl _ _).alloc (Nat.le_refl _) _) 1 | exact (bdrewN (Below.refl _ _) 1).alloc (Nat.le_refl _) _) hO' hg hgo).step HB3.out
end Go.Proofs.YtphenbfhojdcpaaGreatDoor
