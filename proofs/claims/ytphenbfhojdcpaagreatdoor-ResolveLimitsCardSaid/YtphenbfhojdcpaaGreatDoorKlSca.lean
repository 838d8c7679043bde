/- Package resolve: addSchedule and addCalendar. Printed by gen_sa.py. -/
import Derived.Test.YtphenbfhojdcpaaGreatDoorKlG17
import Derived.Test.YtphenbfhojdcpaaGreatDoorKlRd
import Derived.Deep.RegionHeld3
namespace Go.Proofs.YtphenbfhojdcpaaGreatDoor
open Go.RowKit
set_option linter.unusedVariables false
set_option linter.unusedSimpArgs false
set_option maxRecDepth 100000
theorem sch_vals (x : List UInt8) : ∀ j, j < 3 → (#[Value.string ⟨x.toArray⟩, .slice none 0 0, .slice none 0 0] : Array Value)[j]? = some (eSch ((⟨x, [], []⟩ : Rs.Sch), (noSV, noSV)) j) := fun j hj => by
  rcases j with _ | _ | _ | _ <;> first | rfl | omega
set_option maxHeartbeats 8000000 in
theorem addSch_is {C : Rs.Cfg} {N : Nat} {l : List Lx.Tk} (A : Option Addr) (n c bc lo : Nat) (vs : Key → SV) (w : World) (h : OwnC w bc lo vs C) (hG : GoodC N C) (hN : N ≤ 900000) (hT : TokIn w bc A l) (hl : 1 ≤ l.length) (hn : l.length = n) (hn6 : n ≤ 1000) :
    Calls Tryz.prog 91 #[.pointer (some ⟨bc, 0, none⟩), .slice A n c] w (StepV bc lo w (Rs.addSch C l)) := by
  obtain ⟨b, off, _k0, rfl, hb, -, t0, -, -⟩ := hT.get (i := 0) (by omega)
  have z0 : (0 : Int) < n := by omega
  have z2 : 0 < n := by omega
  have z4 : (1 : Int) ≤ n := by omega
  have hlt := h.lt
  have hle := h.le
  go_enter Tryz.func91, Tryz.ntmps91
  obtain ⟨hO1, hlen1⟩ := own_list (h.row .sc) (by omega)
  have s0 := h.slices.2.2.2
  have hfr := h.free 3
  have hrow : ∀ g, (sv (vs .sc)).ownBlock = some g → lo ≤ g ∧ g < w.heap.size := fun g hg => h.far hg
  obtain ⟨v1, hv1⟩ : ∃ v, vs .sc = v := ⟨_, rfl⟩
  rw [hv1] at hO1 hlen1 hrow
  try rw [hv1] at s0
  obtain ⟨A1, n1, c1⟩ := v1
  simp only [sv] at s0 hO1 hrow hlen1
  have HZ : Hid ((withIx (fun i => (vs (.la i), vs (.ed i))) C.scheds).length = n1 ∧ n1 ≤ 900000) := Lib.hid ⟨hlen1, by rw [withIx_len] at hlen1; have := hG.sl; omega⟩
  have HO := Lib.hid hO1
  have hσ : some bc ≠ (Value.slice A1 n1 c1).ownBlock := fun e => by have := hrow _ e.symm; have := h.lt; omega
  have r0 : some b ≠ (Value.slice A1 n1 c1).ownBlock := fun e => by have := hrow _ e.symm; omega
  have hz0 : b ≠ bc := by omega
  have m0 : w.cell? ⟨b, off + 1, none⟩ = some (.string ⟨(Rs.tx l 0).toArray⟩) := by simpa using t0
  have HS : Hid (∀ W, w.grownBy W (Value.slice A1 n1 c1).ownBlock → W.cell? ⟨b, off + 1, none⟩ = some (.string ⟨(Rs.tx l 0).toArray⟩)) := Lib.hid fun W hW => lim r0 m0 W hW
  have HZ2 : Hid (∀ W v, w.grownBy W (Value.slice A1 n1 c1).ownBlock → (W.setCell ⟨bc, 3, none⟩ v).cell? ⟨b, off + 1, none⟩ = some (.string ⟨(Rs.tx l 0).toArray⟩)) := Lib.hid fun W v hW => limZ r0 hz0 m0 W v hW
  have HC : Hid (∀ W, w.grownBy W (Value.slice A1 n1 c1).ownBlock → W.cell? ⟨bc, 3, none⟩ = some (.slice A1 n1 c1)) := Lib.hid (lim hσ s0)
  have HCF : Hid (∀ W, w.grownBy W (Value.slice A1 n1 c1).ownBlock → W.frozen? ⟨bc, 3, none⟩ = false) := Lib.hid (limF hσ (by omega) hfr)
  have HF := Lib.hid (fun (W W1 : World) (g cap : Nat) => fin_sch (W := W) (W1 := W1) (g := g) (cap := cap) (z := ⟨Rs.tx l 0, [], []⟩) h hv1 rfl rfl (by rw [withIx_len] at hlen1; exact hlen1))
  clear hO1 hrow hlen1 s0 hfr hσ r0 hz0 m0
  go_wp2_with fail
  refine wp_region_held_drew (S := fun W => W.cell? ⟨b, off + 1, none⟩ = some (.string ⟨(Rs.tx l 0).toArray⟩)) (by kernel_rfl) (HS.out _ (grown_drew (grown_refl _ _))) (fun hH => ?_)
  refine wpAnyH_take (i := 0) (oi := ⟨some 5, .move (.tmp 0), 116, "build.go:131", #[], none⟩) (v := ?_) rfl (by kernel_rfl) (by kernel_rfl) (by kernel_rfl) (fun _ _ _ h => h) (Or.inl ⟨by rfl, ?_⟩) hH ?_
  rotate_left
  focus (intro w hSw; (try dsimp only at hSw); go_simp; (try with_reducible rfl); done)
  try simp only [Act.put, List.setIfInBounds_toArray, List.set_cons_zero, List.set_cons_succ]
  refine wpAnyH_take (i := 1) (oi := ⟨some 6, .move (.tmp 0), 116, "build.go:131", #[], none⟩) (v := ?_) rfl (by kernel_rfl) (by kernel_rfl) (by kernel_rfl) (fun _ _ _ h => h) (Or.inl ⟨by rfl, ?_⟩) hH ?_
  rotate_left
  focus (intro w hSw; (try dsimp only at hSw); go_simp; (try with_reducible rfl); done)
  try simp only [Act.put, List.setIfInBounds_toArray, List.set_cons_zero, List.set_cons_succ]
  refine wpAnyH_take (i := 2) (oi := ⟨some 7, .nilCheck (.tmp 6), 0, "build.go:131", #[⟨1, .data⟩], none⟩) (v := ?_) rfl (by kernel_rfl) (by kernel_rfl) (by kernel_rfl) (fun _ _ _ h => h) (Or.inl ⟨by rfl, ?_⟩) hH ?_
  rotate_left
  focus (intro w hSw; (try dsimp only at hSw); go_simp; (try with_reducible rfl); done)
  try simp only [Act.put, List.setIfInBounds_toArray, List.set_cons_zero, List.set_cons_succ]
  refine wpAnyH_take (i := 3) (oi := ⟨some 8, .fieldAddr 27 (.tmp 7) 3, 0, "build.go:131", #[⟨2, .data⟩], none⟩) (v := ?_) rfl (by kernel_rfl) (by kernel_rfl) (by kernel_rfl) (fun _ _ _ h => h) (Or.inl ⟨by rfl, ?_⟩) hH ?_
  rotate_left
  focus (intro w hSw; (try dsimp only at hSw); go_simp; (try with_reducible rfl); done)
  try simp only [Act.put, List.setIfInBounds_toArray, List.set_cons_zero, List.set_cons_succ]
  refine wpAnyH_take (i := 5) (oi := ⟨some 10, .move (.tmp 1), 104, "build.go:131", #[], none⟩) (v := ?_) rfl (by kernel_rfl) (by kernel_rfl) (by kernel_rfl) (fun _ _ _ h => h) (Or.inl ⟨by rfl, ?_⟩) hH ?_
  rotate_left
  focus (intro w hSw; (try dsimp only at hSw); go_simp; (try with_reducible rfl); done)
  try simp only [Act.put, List.setIfInBounds_toArray, List.set_cons_zero, List.set_cons_succ]
  refine wpAnyH_take (i := 6) (oi := ⟨some 11, .indexAddr 104 (.tmp 10) (.const (.int .i64 0)), 0, "build.go:131", #[⟨5, .data⟩], none⟩) (v := ?_) rfl (by kernel_rfl) (by kernel_rfl) (by kernel_rfl) (fun _ _ _ h => h) (Or.inl ⟨by rfl, ?_⟩) hH ?_
  rotate_left
  focus (intro w hSw; (try dsimp only at hSw); go_simp; (try with_reducible rfl); done)
  try simp only [Act.put, List.setIfInBounds_toArray, List.set_cons_zero, List.set_cons_succ]
  refine wpAnyH_take (i := 7) (oi := ⟨some 12, .fieldAddr 115 (.tmp 11) 1, 0, "build.go:131", #[⟨6, .data⟩], none⟩) (v := ?_) rfl (by kernel_rfl) (by kernel_rfl) (by kernel_rfl) (fun _ _ _ h => h) (Or.inl ⟨by rfl, ?_⟩) hH ?_
  rotate_left
  focus (intro w hSw; (try dsimp only at hSw); go_simp; (try with_reducible rfl); done)
  try simp only [Act.put, List.setIfInBounds_toArray, List.set_cons_zero, List.set_cons_succ]
  refine wpAnyH_take (i := 8) (oi := ⟨some 13, .load 9 (.tmp 12), 9, "build.go:131", #[⟨7, .data⟩], none⟩) (v := ?_) rfl (by kernel_rfl) (by kernel_rfl) (by kernel_rfl) (fun _ _ _ h => h) (Or.inl ⟨by rfl, ?_⟩) hH ?_
  rotate_left
  focus (intro w hSw; (try dsimp only at hSw); go_simp; (try with_reducible rfl); done)
  try simp only [Act.put, List.setIfInBounds_toArray, List.set_cons_zero, List.set_cons_succ]
  refine wpAnyH_take (i := 9) (oi := ⟨some 14, .build 44 #[(0, .tmp 13)], 44, "build.go:131", #[⟨8, .data⟩], none⟩) (v := ?_) rfl (by kernel_rfl) (by kernel_rfl) (by kernel_rfl) (fun _ _ _ h => h) (Or.inl ⟨by rfl, ?_⟩) hH ?_
  rotate_left
  focus (intro w hSw; (try dsimp only at hSw); go_simp; (try with_reducible rfl); done)
  try simp only [Act.put, List.setIfInBounds_toArray, List.set_cons_zero, List.set_cons_succ]
  refine wpAnyH_ready (rs := [4, 10]) (by kernel_rfl) (by simp) ?_
  refine AllReadyH.cons (o := ⟨some 9, .load 25 (.tmp 8), 25, "build.go:131", #[⟨3, .data⟩], none⟩) rfl (fun K hK => ?_) (AllReadyH.cons (o := ⟨some 15, .buildSlice 25 1 #[(0, .tmp 14)], 25, "build.go:131", #[⟨9, .data⟩], none⟩) rfl (fun K hK => ?_) AllReadyH.nil)
  · have y0 := HC.out _ (grown_drew (grown_refl _ _))
    have y3 := fun o => HC.out _ (grown_drew (grown_alloc (grown_refl w _) o))
    have y4 := fun o => HC.out _ (grown_alloc (grown_drew (grown_refl w _)) o)
    go_simp
    clear y0 y3 y4
    refine hK.out _ _ (HS.out _ (by first | exact grown_drew (grown_refl _ _) | exact grown_drew (grown_alloc (grown_refl _ _) _) | exact grown_alloc (grown_drew (grown_refl _ _)) _)) (fun hH2 => ?_)
    clear hK K hH
    have hH := hH2
    clear hH2
    try simp only [Act.put, List.setIfInBounds_toArray, List.set_cons_zero, List.set_cons_succ]
    refine wpAnyH_ready (rs := [10]) (by kernel_rfl) (by simp) ?_
    refine AllReadyH.cons (o := ⟨some 15, .buildSlice 25 1 #[(0, .tmp 14)], 25, "build.go:131", #[⟨9, .data⟩], none⟩) rfl (fun K hK => ?_) AllReadyH.nil
    go_simp
    refine hK.out _ _ (HS.out _ (by first | exact grown_drew (grown_refl _ _) | exact grown_drew (grown_alloc (grown_refl _ _) _) | exact grown_alloc (grown_drew (grown_refl _ _)) _)) (fun hH2 => ?_)
    clear hK K hH
    have hH := hH2
    clear hH2
    try simp only [Act.put, List.setIfInBounds_toArray, List.set_cons_zero, List.set_cons_succ]
    refine wpAnyH_ready (rs := [11]) (by kernel_rfl) (by simp) ?_
    refine AllReadyH.cons (o := ⟨some 16, .call { callee := .builtin .append, args := #[.tmp 9, .tmp 15], argTypes := #[25, 25] }, 25, "build.go:131", #[⟨4, .data⟩, ⟨10, .data⟩], none⟩) rfl (fun K hK => ?_) AllReadyH.nil
    (refine step_append_row kSch _ (by rfl) (.tmp 9) (.tmp 15) (by rfl) lo (.slice A1 n1 c1) (withIx (fun i => (vs (.la i), vs (.ed i))) C.scheds) (by rfl) (by first | exact (HO.out.alloc _).drewN 1 | exact (HO.out.drewN 1).alloc _) w.heap.size (⟨Rs.tx l 0, [], []⟩, (noSV, noSV)) (by rfl) (one_new (by first | exact BlkAt.drewN (blk_now rfl) 1 | exact blk_now rfl) (sch_vals _)) (by have := HZ.out; omega) (by simp; omega) ?_; intro g cap w' hO' hg hgo hlt'; have hq : w.grownBy w' (Value.slice A1 n1 c1).ownBlock := grown_trans (by first | exact grown_drew (grown_alloc (grown_refl _ _) _) | exact grown_alloc (grown_drew (grown_refl _ _)) _) hg; have y1 := HC.out _ hq; have y2 := HCF.out _ hq)
    refine hK.out _ _ (HS.out _ hq) (fun hH2 => ?_)
    clear hK K hH
    have hH := hH2
    clear hH2
    try simp only [Act.put, List.setIfInBounds_toArray, List.set_cons_zero, List.set_cons_succ]
    refine wpAnyH_take (i := 12) (oi := ⟨some 17, .nilCheck (.tmp 5), 0, "build.go:131", #[⟨0, .data⟩, ⟨0, .phase⟩, ⟨1, .phase⟩, ⟨2, .phase⟩, ⟨3, .phase⟩, ⟨4, .phase⟩, ⟨5, .phase⟩, ⟨6, .phase⟩, ⟨7, .phase⟩, ⟨8, .phase⟩, ⟨9, .phase⟩, ⟨10, .phase⟩, ⟨11, .phase⟩], none⟩) (v := ?_) rfl (by kernel_rfl) (by kernel_rfl) (by kernel_rfl) (fun _ _ _ h => h) (Or.inl ⟨by rfl, ?_⟩) hH ?_
    rotate_left
    focus (intro w hSw; (try dsimp only at hSw); go_simp; (try with_reducible rfl); done)
    try simp only [Act.put, List.setIfInBounds_toArray, List.set_cons_zero, List.set_cons_succ]
    refine wpAnyH_take (i := 13) (oi := ⟨some 18, .fieldAddr 27 (.tmp 17) 3, 0, "build.go:131", #[⟨12, .data⟩, ⟨0, .phase⟩, ⟨1, .phase⟩, ⟨2, .phase⟩, ⟨3, .phase⟩, ⟨4, .phase⟩, ⟨5, .phase⟩, ⟨6, .phase⟩, ⟨7, .phase⟩, ⟨8, .phase⟩, ⟨9, .phase⟩, ⟨10, .phase⟩, ⟨11, .phase⟩], none⟩) (v := ?_) rfl (by kernel_rfl) (by kernel_rfl) (by kernel_rfl) (fun _ _ _ h => h) (Or.inl ⟨by rfl, ?_⟩) hH ?_
    rotate_left
    focus (intro w hSw; (try dsimp only at hSw); go_simp; (try with_reducible rfl); done)
    try simp only [Act.put, List.setIfInBounds_toArray, List.set_cons_zero, List.set_cons_succ]
    refine wpAnyH_ready (rs := [14]) (by kernel_rfl) (by simp) ?_
    refine AllReadyH.cons (o := ⟨none, .store 25 (.tmp 18) (.tmp 16), 0, "build.go:131", #[⟨13, .data⟩, ⟨11, .data⟩, ⟨11, .chain⟩, ⟨0, .phase⟩, ⟨1, .phase⟩, ⟨2, .phase⟩, ⟨3, .phase⟩, ⟨4, .phase⟩, ⟨5, .phase⟩, ⟨6, .phase⟩, ⟨7, .phase⟩, ⟨8, .phase⟩, ⟨9, .phase⟩, ⟨10, .phase⟩, ⟨11, .phase⟩], none⟩) rfl (fun K hK => ?_) AllReadyH.nil
    go_simp
    refine hK.out _ _ (HZ2.out _ _ hq) (fun hH2 => ?_)
    clear hK K hH
    have hH := hH2
    clear hH2
    try simp only [Act.put, List.setIfInBounds_toArray, List.set_cons_zero, List.set_cons_succ]
    refine wpAnyH_done (by kernel_rfl) ?_ _
    rw [HZ.out.1]
    go_wp2_with fail
    go_ret
    exact (HF.out _ _ _ _ (by first | exact bdrewN ((Below.refl _ _).alloc (Nat.le_refl _) _) 1 | exact (bdrewN (Below.refl _ _) 1).alloc (Nat.le_refl _) _) hO' hg hgo).step (.refl _ _ _)
  · go_simp
    refine hK.out _ _ (HS.out _ (by first | exact grown_drew (grown_refl _ _) | exact grown_drew (grown_alloc (grown_refl _ _) _) | exact grown_alloc (grown_drew (grown_refl _ _)) _)) (fun hH2 => ?_)
    clear hK K hH
    have hH := hH2
    clear hH2
    try simp only [Act.put, List.setIfInBounds_toArray, List.set_cons_zero, List.set_cons_succ]
    refine wpAnyH_ready (rs := [4]) (by kernel_rfl) (by simp) ?_
    refine AllReadyH.cons (o := ⟨some 9, .load 25 (.tmp 8), 25, "build.go:131", #[⟨3, .data⟩], none⟩) rfl (fun K hK => ?_) AllReadyH.nil
    have y0 := HC.out _ (grown_drew (grown_refl _ _))
    have y3 := fun o => HC.out _ (grown_drew (grown_alloc (grown_refl w _) o))
    have y4 := fun o => HC.out _ (grown_alloc (grown_drew (grown_refl w _)) o)
    go_simp
    clear y0 y3 y4
    refine hK.out _ _ (HS.out _ (by first | exact grown_drew (grown_refl _ _) | exact grown_drew (grown_alloc (grown_refl _ _) _) | exact grown_alloc (grown_drew (grown_refl _ _)) _)) (fun hH2 => ?_)
    clear hK K hH
    have hH := hH2
    clear hH2
    try simp only [Act.put, List.setIfInBounds_toArray, List.set_cons_zero, List.set_cons_succ]
    refine wpAnyH_ready (rs := [11]) (by kernel_rfl) (by simp) ?_
    refine AllReadyH.cons (o := ⟨some 16, .call { callee := .builtin .append, args := #[.tmp 9, .tmp 15], argTypes := #[25, 25] }, 25, "build.go:131", #[⟨4, .data⟩, ⟨10, .data⟩], none⟩) rfl (fun K hK => ?_) AllReadyH.nil
    (refine step_append_row kSch _ (by rfl) (.tmp 9) (.tmp 15) (by rfl) lo (.slice A1 n1 c1) (withIx (fun i => (vs (.la i), vs (.ed i))) C.scheds) (by rfl) (by first | exact (HO.out.alloc _).drewN 1 | exact (HO.out.drewN 1).alloc _) w.heap.size (⟨Rs.tx l 0, [], []⟩, (noSV, noSV)) (by rfl) (one_new (by first | exact BlkAt.drewN (blk_now rfl) 1 | exact blk_now rfl) (sch_vals _)) (by have := HZ.out; omega) (by simp; omega) ?_; intro g cap w' hO' hg hgo hlt'; have hq : w.grownBy w' (Value.slice A1 n1 c1).ownBlock := grown_trans (by first | exact grown_drew (grown_alloc (grown_refl _ _) _) | exact grown_alloc (grown_drew (grown_refl _ _)) _) hg; have y1 := HC.out _ hq; have y2 := HCF.out _ hq)
    refine hK.out _ _ (HS.out _ hq) (fun hH2 => ?_)
    clear hK K hH
    have hH := hH2
    clear hH2
    try simp only [Act.put, List.setIfInBounds_toArray, List.set_cons_zero, List.set_cons_succ]
    refine wpAnyH_take (i := 12) (oi := ⟨some 17, .nilCheck (.tmp 5), 0, "build.go:131", #[⟨0, .data⟩, ⟨0, .phase⟩, ⟨1, .phase⟩, ⟨2, .phase⟩, ⟨3, .phase⟩, ⟨4, .phase⟩, ⟨5, .phase⟩, ⟨6, .phase⟩, ⟨7, .phase⟩, ⟨8, .phase⟩, ⟨9, .phase⟩, ⟨10, .phase⟩, ⟨11, .phase⟩], none⟩) (v := ?_) rfl (by kernel_rfl) (by kernel_rfl) (by kernel_rfl) (fun _ _ _ h => h) (Or.inl ⟨by rfl, ?_⟩) hH ?_
    rotate_left
    focus (intro w hSw; (try dsimp only at hSw); go_simp; (try with_reducible rfl); done)
    try simp only [Act.put, List.setIfInBounds_toArray, List.set_cons_zero, List.set_cons_succ]
    refine wpAnyH_take (i := 13) (oi := ⟨some 18, .fieldAddr 27 (.tmp 17) 3, 0, "build.go:131", #[⟨12, .data⟩, ⟨0, .phase⟩, ⟨1, .phase⟩, ⟨2, .phase⟩, ⟨3, .phase⟩, ⟨4, .phase⟩, ⟨5, .phase⟩, ⟨6, .phase⟩, ⟨7, .phase⟩, ⟨8, .phase⟩, ⟨9, .phase⟩, ⟨10, .phase⟩, ⟨11, .phase⟩], none⟩) (v := ?_) rfl (by kernel_rfl) (by kernel_rfl) (by kernel_rfl) (fun _ _ _ h => h) (Or.inl ⟨by rfl, ?_⟩) hH ?_
    rotate_left
    focus (intro w hSw; (try dsimp only at hSw); go_simp; (try with_reducible rfl); done)
    try simp only [Act.put, List.setIfInBounds_toArray, List.set_cons_zero, List.set_cons_succ]
    refine wpAnyH_ready (rs := [14]) (by kernel_rfl) (by simp) ?_
    refine AllReadyH.cons (o := ⟨none, .store 25 (.tmp 18) (.tmp 16), 0, "build.go:131", #[⟨13, .data⟩, ⟨11, .data⟩, ⟨11, .chain⟩, ⟨0, .phase⟩, ⟨1, .phase⟩, ⟨2, .phase⟩, ⟨3, .phase⟩, ⟨4, .phase⟩, ⟨5, .phase⟩, ⟨6, .phase⟩, ⟨7, .phase⟩, ⟨8, .phase⟩, ⟨9, .phase⟩, ⟨10, .phase⟩, ⟨11, .phase⟩], none⟩) rfl (fun K hK => ?_) AllReadyH.nil
    go_simp
    refine hK.out _ _ (HZ2.out _ _ hq) (fun hH2 => ?_)
    clear hK K hH
    have hH := hH2
    clear hH2
    try simp only [Act.put, List.setIfInBounds_toArray, List.set_cons_zero, List.set_cons_succ]
    refine wpAnyH_done (by kernel_rfl) ?_ _
    rw [HZ.out.1]
    go_wp2_with fail
    go_ret
    exact (HF.out _ _ _ _ (by first | exact bdrewN ((Below.refl _ _).alloc (Nat.le_refl _) _) 1 | exact (bdrewN (Below.refl _ _) 1).alloc (Nat.le_refl _) _) hO' hg hgo).step (.refl _ _ _)
end Go.Proofs.YtphenbfhojdcpaaGreatDoor
