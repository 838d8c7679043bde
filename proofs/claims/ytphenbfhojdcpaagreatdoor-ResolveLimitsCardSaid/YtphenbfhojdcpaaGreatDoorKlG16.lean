/- Package resolve: addZone. Package resolve: last, unitOf, near, hours, window, Ordinal, lastLayer. Printed by gen_rx.py. -/
import Derived.Test.YtphenbfhojdcpaaGreatDoorKlG15
import Derived.Deep.RegionHeld3
namespace Go.Proofs.YtphenbfhojdcpaaGreatDoor
open Go.RowKit
set_option linter.unusedVariables false
set_option linter.unusedSimpArgs false
set_option maxRecDepth 100000
/-- The cells of a block that holds one element. -/
theorem one_new {α : Type} {k : Nat} {e : α → Nat → Value} {W : World} {b : Nat} {y : α} {vs : Array Value} {T : TypeId} (h : BlkAt W b vs T) (hv : ∀ j, j < k → vs[j]? = some (e y j)) : ∀ j, j < k → W.cell? ⟨b, j, none⟩ = some (e y j) := fun j hj => h.cell (hv j hj)
theorem blk_now {W : World} {B : Nat} {vs : Array Value} {T : TypeId} (h : W.heap.size = B) : BlkAt (W.alloc (.cells vs T)) B vs T := by subst h; exact heap_alloc_new _ _
theorem zone_vals (x : List UInt8) (o : Int) : ∀ j, j < 3 → (#[Value.string ⟨x.toArray⟩, .int .i64 o, .slice none 0 0] : Array Value)[j]? = some (eZone ((⟨x, o, []⟩ : Rs.Zone), noSV) j) := fun j hj => by
  rcases j with _ | _ | _ | _ <;> first | rfl | omega
theorem zone_fin {w W W1 : World} {bc lo : Nat} {vs : Key → SV} {C : Rs.Cfg} {A1 : Option Addr} {n1 c1 g cap : Nat} {z : Rs.Zone} (h : OwnC w bc lo vs C) (hv : vs .zn = (A1, n1, c1)) (hz : z.rules = []) (hm : C.zones.length = n1) (hW : Below w.heap.size w W)
    (ho : OwnL 32 3 eZone W1 lo (.slice (some ⟨g, 0, none⟩) ((withIx (fun i => vs (.ru i)) C.zones).length + 1) cap) (withIx (fun i => vs (.ru i)) C.zones ++ [(z, noSV)])) (hg : W.grownBy W1 (Value.slice A1 n1 c1).ownBlock) (hn : (Value.slice A1 n1 c1).ownBlock = some g ∨ g = W.heap.size) :
    StepV bc lo w (0, { C with zones := C.zones ++ [z] }) (.returned (.int .i64 0)) (W1.setCell ⟨bc, 0, none⟩ (.slice (some ⟨g, 0, none⟩) (n1 + 1) cap)) := by
  have e : Value.slice A1 n1 c1 = sv (vs .zn) := by rw [hv]; rfl
  rw [e] at hg hn
  rw [withIx_len, hm] at ho
  have hle := h.le
  have hs := hW.size
  have hb1 : But bc lo w W1 := (But.of_below hW hle).trans (.of_grown hg (by omega) (fun g' hg' => .inl (h.far hg').1))
  refine ⟨rfl, hb1.trans (.set bc 0 _ (Nat.le_trans hle hb1.size) (.inr rfl)), fun _ => ?_, fun h => absurd rfl h⟩
  exact OwnC.zone (h.below hW) hz hm.symm ho hg hn
set_option maxHeartbeats 8000000 in
theorem addZone_is {C : Rs.Cfg} {N : Nat} {l : List Lx.Tk} (A : Option Addr) (n c bc lo : Nat) (vs : Key → SV) (w : World) (h : OwnC w bc lo vs C) (hG : GoodC N C) (hN : N ≤ 900000) (hT : TokIn w bc A l) (hl : 2 ≤ l.length) (hn : l.length = n) (hn6 : n ≤ 1000) :
    Calls Tryz.prog 85 #[.pointer (some ⟨bc, 0, none⟩), .slice A n c] w (StepV bc lo w (Rs.addZone C l)) := by
  obtain ⟨b, off, k0, rfl, hb, -, t0, -, -⟩ := hT.get (i := 0) (by omega)
  obtain ⟨b', off', k1, ea, hb', -, -, t1, -⟩ := hT.get (i := 1) (by omega)
  simp only [Option.some.injEq, Addr.mk.injEq, and_true] at ea
  obtain ⟨rfl, rfl⟩ := ea
  obtain ⟨hO, hlen⟩ := own_list (h.row .zn) (by omega)
  have s0 := h.slices.1
  have hfr := h.free 0
  have hrow : ∀ g, (sv (vs .zn)).ownBlock = some g → lo ≤ g := fun g hg => (h.far (κ := .zn) hg).1
  have hlt := h.lt
  have hle := h.le
  obtain ⟨v1, hv1⟩ : ∃ v, vs .zn = v := ⟨_, rfl⟩
  rw [hv1] at hO hlen s0 hrow
  obtain ⟨A1, n1, c1⟩ := v1
  unfold sv at hO hrow
  simp only at hlen s0 hO hrow
  rw [withIx_len] at hlen
  have HZ : Hid (C.zones.length = n1 ∧ n1 ≤ 900000) := Lib.hid ⟨hlen, by have := hG.zl; omega⟩
  have HO := Lib.hid hO
  have HR := Lib.hid hrow
  have d1 : some bc ≠ (Value.slice A1 n1 c1).ownBlock := fun e => by have := hrow bc e.symm; omega
  have d2 : some b ≠ (Value.slice A1 n1 c1).ownBlock := fun e => by have := hrow b e.symm; omega
  have HS : Hid (∀ W, w.grownBy W (Value.slice A1 n1 c1).ownBlock → W.cell? ⟨b, off + 1, none⟩ = some (.string ⟨(Rs.tx l 0).toArray⟩) ∧ W.cell? ⟨b, off + 3 + 2, none⟩ = some (.int .i64 (Rs.nm l 1))) := Lib.hid fun W hW =>
    ⟨hW.cell (by simpa using t0) d2, hW.cell (by simpa using t1) d2⟩
  have HZ2 : Hid (∀ W v, w.grownBy W (Value.slice A1 n1 c1).ownBlock → (W.setCell ⟨bc, 0, none⟩ v).cell? ⟨b, off + 1, none⟩ = some (.string ⟨(Rs.tx l 0).toArray⟩) ∧ (W.setCell ⟨bc, 0, none⟩ v).cell? ⟨b, off + 3 + 2, none⟩ = some (.int .i64 (Rs.nm l 1))) := Lib.hid fun W v hW => by
    have h1 := HS.out W hW
    exact ⟨(World.cell?_setCell_other _ _ _ _ (by intro e; have e := congrArg Addr.block e; simp only at e; omega)).trans h1.1, (World.cell?_setCell_other _ _ _ _ (by intro e; have e := congrArg Addr.block e; simp only at e; omega)).trans h1.2⟩
  have HC : Hid (∀ W, w.grownBy W (Value.slice A1 n1 c1).ownBlock → W.cell? ⟨bc, 0, none⟩ = some (.slice A1 n1 c1)) := Lib.hid fun W hW => hW.cell s0 d1
  have HCF : Hid (∀ W, w.grownBy W (Value.slice A1 n1 c1).ownBlock → W.frozen? ⟨bc, 0, none⟩ = false) := Lib.hid fun W hW => (World.frozen?_of_block (hW.block bc (by omega) d1)).trans hfr
  have HF := Lib.hid (fun (W W1 : World) (g cap : Nat) => zone_fin (W := W) (W1 := W1) (g := g) (cap := cap) (z := ⟨Rs.tx l 0, Rs.nm l 1, []⟩) h hv1 rfl hlen)
  clear hO hrow hlen hT hG t0 t1 s0 hv1 h hfr d1 d2
  have z0 : (0 : Int) < n := by omega
  have z1 : (1 : Int) < n := by omega
  have z2 : 0 < n := by omega
  have z3 : 1 < n := by omega
  have z4 : (1 : Int) ≤ n := by omega
  go_enter Tryz.func85, Tryz.ntmps85
  go_wp2_with fail
  refine wp_region_held_drew (S := fun W => W.cell? ⟨b, off + 1, none⟩ = some (.string ⟨(Rs.tx l 0).toArray⟩) ∧ W.cell? ⟨b, off + 3 + 2, none⟩ = some (.int .i64 (Rs.nm l 1))) (by kernel_rfl) (HS.out _ (grown_drew (grown_refl _ _))) (fun hH => ?_)
  refine wpAnyH_take (i := 0) (oi := ⟨some 5, .move (.tmp 0), 116, "build.go:53", #[], none⟩) (v := ?_) rfl (by kernel_rfl) (by kernel_rfl) (by kernel_rfl) (fun _ _ _ h => h) (Or.inl ⟨by rfl, ?_⟩) hH ?_
  rotate_left
  focus (intro w hSw; (try dsimp only at hSw); go_simp; (try with_reducible rfl); done)
  try simp only [Act.put, List.setIfInBounds_toArray, List.set_cons_zero, List.set_cons_succ]
  refine wpAnyH_take (i := 1) (oi := ⟨some 6, .move (.tmp 0), 116, "build.go:53", #[], none⟩) (v := ?_) rfl (by kernel_rfl) (by kernel_rfl) (by kernel_rfl) (fun _ _ _ h => h) (Or.inl ⟨by rfl, ?_⟩) hH ?_
  rotate_left
  focus (intro w hSw; (try dsimp only at hSw); go_simp; (try with_reducible rfl); done)
  try simp only [Act.put, List.setIfInBounds_toArray, List.set_cons_zero, List.set_cons_succ]
  refine wpAnyH_take (i := 2) (oi := ⟨some 7, .nilCheck (.tmp 6), 0, "build.go:53", #[⟨1, .data⟩], none⟩) (v := ?_) rfl (by kernel_rfl) (by kernel_rfl) (by kernel_rfl) (fun _ _ _ h => h) (Or.inl ⟨by rfl, ?_⟩) hH ?_
  rotate_left
  focus (intro w hSw; (try dsimp only at hSw); go_simp; (try with_reducible rfl); done)
  try simp only [Act.put, List.setIfInBounds_toArray, List.set_cons_zero, List.set_cons_succ]
  refine wpAnyH_take (i := 3) (oi := ⟨some 8, .fieldAddr 27 (.tmp 7) 0, 0, "build.go:53", #[⟨2, .data⟩], none⟩) (v := ?_) rfl (by kernel_rfl) (by kernel_rfl) (by kernel_rfl) (fun _ _ _ h => h) (Or.inl ⟨by rfl, ?_⟩) hH ?_
  rotate_left
  focus (intro w hSw; (try dsimp only at hSw); go_simp; (try with_reducible rfl); done)
  try simp only [Act.put, List.setIfInBounds_toArray, List.set_cons_zero, List.set_cons_succ]
  refine wpAnyH_take (i := 5) (oi := ⟨some 10, .move (.tmp 1), 104, "build.go:53", #[], none⟩) (v := ?_) rfl (by kernel_rfl) (by kernel_rfl) (by kernel_rfl) (fun _ _ _ h => h) (Or.inl ⟨by rfl, ?_⟩) hH ?_
  rotate_left
  focus (intro w hSw; (try dsimp only at hSw); go_simp; (try with_reducible rfl); done)
  try simp only [Act.put, List.setIfInBounds_toArray, List.set_cons_zero, List.set_cons_succ]
  refine wpAnyH_take (i := 6) (oi := ⟨some 11, .indexAddr 104 (.tmp 10) (.const (.int .i64 0)), 0, "build.go:53", #[⟨5, .data⟩], none⟩) (v := ?_) rfl (by kernel_rfl) (by kernel_rfl) (by kernel_rfl) (fun _ _ _ h => h) (Or.inl ⟨by rfl, ?_⟩) hH ?_
  rotate_left
  focus (intro w hSw; (try dsimp only at hSw); go_simp; (try with_reducible rfl); done)
  try simp only [Act.put, List.setIfInBounds_toArray, List.set_cons_zero, List.set_cons_succ]
  refine wpAnyH_take (i := 7) (oi := ⟨some 12, .fieldAddr 115 (.tmp 11) 1, 0, "build.go:53", #[⟨6, .data⟩], none⟩) (v := ?_) rfl (by kernel_rfl) (by kernel_rfl) (by kernel_rfl) (fun _ _ _ h => h) (Or.inl ⟨by rfl, ?_⟩) hH ?_
  rotate_left
  focus (intro w hSw; (try dsimp only at hSw); go_simp; (try with_reducible rfl); done)
  try simp only [Act.put, List.setIfInBounds_toArray, List.set_cons_zero, List.set_cons_succ]
  refine wpAnyH_take (i := 8) (oi := ⟨some 13, .load 9 (.tmp 12), 9, "build.go:53", #[⟨7, .data⟩], none⟩) (v := ?_) rfl (by kernel_rfl) (by kernel_rfl) (by kernel_rfl) (fun _ _ _ h => h) (Or.inl ⟨by rfl, ?_⟩) hH ?_
  rotate_left
  focus (intro w hSw; (try dsimp only at hSw); go_simp; (try with_reducible rfl); done)
  try simp only [Act.put, List.setIfInBounds_toArray, List.set_cons_zero, List.set_cons_succ]
  refine wpAnyH_take (i := 9) (oi := ⟨some 14, .move (.tmp 1), 104, "build.go:53", #[], none⟩) (v := ?_) rfl (by kernel_rfl) (by kernel_rfl) (by kernel_rfl) (fun _ _ _ h => h) (Or.inl ⟨by rfl, ?_⟩) hH ?_
  rotate_left
  focus (intro w hSw; (try dsimp only at hSw); go_simp; (try with_reducible rfl); done)
  try simp only [Act.put, List.setIfInBounds_toArray, List.set_cons_zero, List.set_cons_succ]
  refine wpAnyH_take (i := 10) (oi := ⟨some 15, .indexAddr 104 (.tmp 14) (.const (.int .i64 1)), 0, "build.go:53", #[⟨9, .data⟩], none⟩) (v := ?_) rfl (by kernel_rfl) (by kernel_rfl) (by kernel_rfl) (fun _ _ _ h => h) (Or.inl ⟨by rfl, ?_⟩) hH ?_
  rotate_left
  focus (intro w hSw; (try dsimp only at hSw); go_simp; (try with_reducible rfl); done)
  try simp only [Act.put, List.setIfInBounds_toArray, List.set_cons_zero, List.set_cons_succ]
  refine wpAnyH_take (i := 11) (oi := ⟨some 16, .fieldAddr 115 (.tmp 15) 2, 0, "build.go:53", #[⟨10, .data⟩], none⟩) (v := ?_) rfl (by kernel_rfl) (by kernel_rfl) (by kernel_rfl) (fun _ _ _ h => h) (Or.inl ⟨by rfl, ?_⟩) hH ?_
  rotate_left
  focus (intro w hSw; (try dsimp only at hSw); go_simp; (try with_reducible rfl); done)
  try simp only [Act.put, List.setIfInBounds_toArray, List.set_cons_zero, List.set_cons_succ]
  refine wpAnyH_take (i := 12) (oi := ⟨some 17, .load 3 (.tmp 16), 3, "build.go:53", #[⟨11, .data⟩], none⟩) (v := ?_) rfl (by kernel_rfl) (by kernel_rfl) (by kernel_rfl) (fun _ _ _ h => h) (Or.inl ⟨by rfl, ?_⟩) hH ?_
  rotate_left
  focus (intro w hSw; (try dsimp only at hSw); go_simp; (try with_reducible rfl); done)
  try simp only [Act.put, List.setIfInBounds_toArray, List.set_cons_zero, List.set_cons_succ]
  refine wpAnyH_take (i := 13) (oi := ⟨some 18, .build 32 #[(0, .tmp 13), (1, .tmp 17)], 32, "build.go:53", #[⟨8, .data⟩, ⟨12, .data⟩], none⟩) (v := ?_) rfl (by kernel_rfl) (by kernel_rfl) (by kernel_rfl) (fun _ _ _ h => h) (Or.inl ⟨by rfl, ?_⟩) hH ?_
  rotate_left
  focus (intro w hSw; (try dsimp only at hSw); go_simp; (try with_reducible rfl); done)
  try simp only [Act.put, List.setIfInBounds_toArray, List.set_cons_zero, List.set_cons_succ]
  refine wpAnyH_ready (rs := [4, 14]) (by kernel_rfl) (by simp) ?_
  refine AllReadyH.cons (o := ⟨some 9, .load 22 (.tmp 8), 22, "build.go:53", #[⟨3, .data⟩], none⟩) rfl (fun K hK => ?_) (AllReadyH.cons (o := ⟨some 19, .buildSlice 22 1 #[(0, .tmp 18)], 22, "build.go:53", #[⟨13, .data⟩], none⟩) rfl (fun K hK => ?_) AllReadyH.nil)
  · have y0 := HC.out _ (grown_drew (grown_refl _ _))
    have y3 := fun o => HC.out _ (grown_drew (grown_alloc (grown_refl w _) o))
    have y4 := fun o => HC.out _ (grown_alloc (grown_drew (grown_refl w _)) o)
    go_simp
    clear y0 y3 y4
    refine hK.out _ _ (HS.out _ (by first | exact grown_drew (grown_refl _ _) | exact grown_drew (grown_alloc (grown_refl _ _) _) | exact grown_alloc (grown_drew (grown_refl _ _)) _)) (fun hH2 => ?_)
    clear hK K hH
    have hH := hH2
    clear hH2
    try simp only [Act.put, List.setIfInBounds_toArray, List.set_cons_zero, List.set_cons_succ]
    refine wpAnyH_ready (rs := [14]) (by kernel_rfl) (by simp) ?_
    refine AllReadyH.cons (o := ⟨some 19, .buildSlice 22 1 #[(0, .tmp 18)], 22, "build.go:53", #[⟨13, .data⟩], none⟩) rfl (fun K hK => ?_) AllReadyH.nil
    go_simp
    refine hK.out _ _ (HS.out _ (by first | exact grown_drew (grown_refl _ _) | exact grown_drew (grown_alloc (grown_refl _ _) _) | exact grown_alloc (grown_drew (grown_refl _ _)) _)) (fun hH2 => ?_)
    clear hK K hH
    have hH := hH2
    clear hH2
    try simp only [Act.put, List.setIfInBounds_toArray, List.set_cons_zero, List.set_cons_succ]
    refine wpAnyH_ready (rs := [15]) (by kernel_rfl) (by simp) ?_
    refine AllReadyH.cons (o := ⟨some 20, .call { callee := .builtin .append, args := #[.tmp 9, .tmp 19], argTypes := #[22, 22] }, 22, "build.go:53", #[⟨4, .data⟩, ⟨14, .data⟩], none⟩) rfl (fun K hK => ?_) AllReadyH.nil
    (refine step_append_row kZon _ (by rfl) (.tmp 9) (.tmp 19) (by rfl) lo (.slice A1 n1 c1) (withIx (fun i => vs (.ru i)) C.zones) (by rfl) (by first | exact (HO.out.alloc _).drewN 1 | exact (HO.out.drewN 1).alloc _) w.heap.size (⟨Rs.tx l 0, Rs.nm l 1, []⟩, noSV) (by rfl) (one_new (by first | exact BlkAt.drewN (blk_now rfl) 1 | exact blk_now rfl) (zone_vals _ _)) (by rw [withIx_len]; have := HZ.out; omega) (by simp; omega) ?_; intro g cap w' hO' hg hgo hlt'; have hq : w.grownBy w' (Value.slice A1 n1 c1).ownBlock := grown_trans (by first | exact grown_drew (grown_alloc (grown_refl _ _) _) | exact grown_alloc (grown_drew (grown_refl _ _)) _) hg; have y1 := HC.out _ hq; have y2 := HCF.out _ hq)
    refine hK.out _ _ (HS.out _ hq) (fun hH2 => ?_)
    clear hK K hH
    have hH := hH2
    clear hH2
    try simp only [Act.put, List.setIfInBounds_toArray, List.set_cons_zero, List.set_cons_succ]
    refine wpAnyH_take (i := 16) (oi := ⟨some 21, .nilCheck (.tmp 5), 0, "build.go:53", #[⟨0, .data⟩, ⟨0, .phase⟩, ⟨1, .phase⟩, ⟨2, .phase⟩, ⟨3, .phase⟩, ⟨4, .phase⟩, ⟨5, .phase⟩, ⟨6, .phase⟩, ⟨7, .phase⟩, ⟨8, .phase⟩, ⟨9, .phase⟩, ⟨10, .phase⟩, ⟨11, .phase⟩, ⟨12, .phase⟩, ⟨13, .phase⟩, ⟨14, .phase⟩, ⟨15, .phase⟩], none⟩) (v := ?_) rfl (by kernel_rfl) (by kernel_rfl) (by kernel_rfl) (fun _ _ _ h => h) (Or.inl ⟨by rfl, ?_⟩) hH ?_
    rotate_left
    focus (intro w hSw; (try dsimp only at hSw); go_simp; (try with_reducible rfl); done)
    try simp only [Act.put, List.setIfInBounds_toArray, List.set_cons_zero, List.set_cons_succ]
    refine wpAnyH_take (i := 17) (oi := ⟨some 22, .fieldAddr 27 (.tmp 21) 0, 0, "build.go:53", #[⟨16, .data⟩, ⟨0, .phase⟩, ⟨1, .phase⟩, ⟨2, .phase⟩, ⟨3, .phase⟩, ⟨4, .phase⟩, ⟨5, .phase⟩, ⟨6, .phase⟩, ⟨7, .phase⟩, ⟨8, .phase⟩, ⟨9, .phase⟩, ⟨10, .phase⟩, ⟨11, .phase⟩, ⟨12, .phase⟩, ⟨13, .phase⟩, ⟨14, .phase⟩, ⟨15, .phase⟩], none⟩) (v := ?_) rfl (by kernel_rfl) (by kernel_rfl) (by kernel_rfl) (fun _ _ _ h => h) (Or.inl ⟨by rfl, ?_⟩) hH ?_
    rotate_left
    focus (intro w hSw; (try dsimp only at hSw); go_simp; (try with_reducible rfl); done)
    try simp only [Act.put, List.setIfInBounds_toArray, List.set_cons_zero, List.set_cons_succ]
    refine wpAnyH_ready (rs := [18]) (by kernel_rfl) (by simp) ?_
    refine AllReadyH.cons (o := ⟨none, .store 22 (.tmp 22) (.tmp 20), 0, "build.go:53", #[⟨17, .data⟩, ⟨15, .data⟩, ⟨15, .chain⟩, ⟨0, .phase⟩, ⟨1, .phase⟩, ⟨2, .phase⟩, ⟨3, .phase⟩, ⟨4, .phase⟩, ⟨5, .phase⟩, ⟨6, .phase⟩, ⟨7, .phase⟩, ⟨8, .phase⟩, ⟨9, .phase⟩, ⟨10, .phase⟩, ⟨11, .phase⟩, ⟨12, .phase⟩, ⟨13, .phase⟩, ⟨14, .phase⟩, ⟨15, .phase⟩], none⟩) rfl (fun K hK => ?_) AllReadyH.nil
    go_simp
    refine hK.out _ _ (HZ2.out _ _ hq) (fun hH2 => ?_)
    clear hK K hH
    have hH := hH2
    clear hH2
    try simp only [Act.put, List.setIfInBounds_toArray, List.set_cons_zero, List.set_cons_succ]
    refine wpAnyH_done (by kernel_rfl) ?_ _
    rw [withIx_len, HZ.out.1]
    go_wp2_with fail
    go_ret
    exact HF.out _ _ _ _ (by first | exact bdrewN ((Below.refl _ _).alloc (Nat.le_refl _) _) 1 | exact (bdrewN (Below.refl _ _) 1).alloc (Nat.le_refl _) _) hO' hg hgo
  · go_simp
    refine hK.out _ _ (HS.out _ (by first | exact grown_drew (grown_refl _ _) | exact grown_drew (grown_alloc (grown_refl _ _) _) | exact grown_alloc (grown_drew (grown_refl _ _)) _)) (fun hH2 => ?_)
    clear hK K hH
    have hH := hH2
    clear hH2
    try simp only [Act.put, List.setIfInBounds_toArray, List.set_cons_zero, List.set_cons_succ]
    refine wpAnyH_ready (rs := [4]) (by kernel_rfl) (by simp) ?_
    refine AllReadyH.cons (o := ⟨some 9, .load 22 (.tmp 8), 22, "build.go:53", #[⟨3, .data⟩], none⟩) rfl (fun K hK => ?_) AllReadyH.nil
    have y0 := HC.out _ (grown_drew (grown_refl _ _))
    have y3 := fun o => HC.out _ (grown_drew (grown_alloc (grown_refl w _) o))
    have y4 := fun o => HC.out _ (grown_alloc (grown_drew (grown_refl w _)) o)
    go_simp
    clear y0 y3 y4
    refine hK.out _ _ (HS.out _ (by first | exact grown_drew (grown_refl _ _) | exact grown_drew (grown_alloc (grown_refl _ _) _) | exact grown_alloc (grown_drew (grown_refl _ _)) _)) (fun hH2 => ?_)
    clear hK K hH
    have hH := hH2
    clear hH2
    try simp only [Act.put, List.setIfInBounds_toArray, List.set_cons_zero, List.set_cons_succ]
    refine wpAnyH_ready (rs := [15]) (by kernel_rfl) (by simp) ?_
    refine AllReadyH.cons (o := ⟨some 20, .call { callee := .builtin .append, args := #[.tmp 9, .tmp 19], argTypes := #[22, 22] }, 22, "build.go:53", #[⟨4, .data⟩, ⟨14, .data⟩], none⟩) rfl (fun K hK => ?_) AllReadyH.nil
    (refine step_append_row kZon _ (by rfl) (.tmp 9) (.tmp 19) (by rfl) lo (.slice A1 n1 c1) (withIx (fun i => vs (.ru i)) C.zones) (by rfl) (by first | exact (HO.out.alloc _).drewN 1 | exact (HO.out.drewN 1).alloc _) w.heap.size (⟨Rs.tx l 0, Rs.nm l 1, []⟩, noSV) (by rfl) (one_new (by first | exact BlkAt.drewN (blk_now rfl) 1 | exact blk_now rfl) (zone_vals _ _)) (by rw [withIx_len]; have := HZ.out; omega) (by simp; omega) ?_; intro g cap w' hO' hg hgo hlt'; have hq : w.grownBy w' (Value.slice A1 n1 c1).ownBlock := grown_trans (by first | exact grown_drew (grown_alloc (grown_refl _ _) _) | exact grown_alloc (grown_drew (grown_refl _ _)) _) hg; have y1 := HC.out _ hq; have y2 := HCF.out _ hq)
    refine hK.out _ _ (HS.out _ hq) (fun hH2 => ?_)
    clear hK K hH
    have hH := hH2
    clear hH2
    try simp only [Act.put, List.setIfInBounds_toArray, List.set_cons_zero, List.set_cons_succ]
    refine wpAnyH_take (i := 16) (oi := ⟨some 21, .nilCheck (.tmp 5), 0, "build.go:53", #[⟨0, .data⟩, ⟨0, .phase⟩, ⟨1, .phase⟩, ⟨2, .phase⟩, ⟨3, .phase⟩, ⟨4, .phase⟩, ⟨5, .phase⟩, ⟨6, .phase⟩, ⟨7, .phase⟩, ⟨8, .phase⟩, ⟨9, .phase⟩, ⟨10, .phase⟩, ⟨11, .phase⟩, ⟨12, .phase⟩, ⟨13, .phase⟩, ⟨14, .phase⟩, ⟨15, .phase⟩], none⟩) (v := ?_) rfl (by kernel_rfl) (by kernel_rfl) (by kernel_rfl) (fun _ _ _ h => h) (Or.inl ⟨by rfl, ?_⟩) hH ?_
    rotate_left
    focus (intro w hSw; (try dsimp only at hSw); go_simp; (try with_reducible rfl); done)
    try simp only [Act.put, List.setIfInBounds_toArray, List.set_cons_zero, List.set_cons_succ]
    refine wpAnyH_take (i := 17) (oi := ⟨some 22, .fieldAddr 27 (.tmp 21) 0, 0, "build.go:53", #[⟨16, .data⟩, ⟨0, .phase⟩, ⟨1, .phase⟩, ⟨2, .phase⟩, ⟨3, .phase⟩, ⟨4, .phase⟩, ⟨5, .phase⟩, ⟨6, .phase⟩, ⟨7, .phase⟩, ⟨8, .phase⟩, ⟨9, .phase⟩, ⟨10, .phase⟩, ⟨11, .phase⟩, ⟨12, .phase⟩, ⟨13, .phase⟩, ⟨14, .phase⟩, ⟨15, .phase⟩], none⟩) (v := ?_) rfl (by kernel_rfl) (by kernel_rfl) (by kernel_rfl) (fun _ _ _ h => h) (Or.inl ⟨by rfl, ?_⟩) hH ?_
    rotate_left
    focus (intro w hSw; (try dsimp only at hSw); go_simp; (try with_reducible rfl); done)
    try simp only [Act.put, List.setIfInBounds_toArray, List.set_cons_zero, List.set_cons_succ]
    refine wpAnyH_ready (rs := [18]) (by kernel_rfl) (by simp) ?_
    refine AllReadyH.cons (o := ⟨none, .store 22 (.tmp 22) (.tmp 20), 0, "build.go:53", #[⟨17, .data⟩, ⟨15, .data⟩, ⟨15, .chain⟩, ⟨0, .phase⟩, ⟨1, .phase⟩, ⟨2, .phase⟩, ⟨3, .phase⟩, ⟨4, .phase⟩, ⟨5, .phase⟩, ⟨6, .phase⟩, ⟨7, .phase⟩, ⟨8, .phase⟩, ⟨9, .phase⟩, ⟨10, .phase⟩, ⟨11, .phase⟩, ⟨12, .phase⟩, ⟨13, .phase⟩, ⟨14, .phase⟩, ⟨15, .phase⟩], none⟩) rfl (fun K hK => ?_) AllReadyH.nil
    go_simp
    refine hK.out _ _ (HZ2.out _ _ hq) (fun hH2 => ?_)
    clear hK K hH
    have hH := hH2
    clear hH2
    try simp only [Act.put, List.setIfInBounds_toArray, List.set_cons_zero, List.set_cons_succ]
    refine wpAnyH_done (by kernel_rfl) ?_ _
    rw [withIx_len, HZ.out.1]
    go_wp2_with fail
    go_ret
    exact HF.out _ _ _ _ (by first | exact bdrewN ((Below.refl _ _).alloc (Nat.le_refl _) _) 1 | exact (bdrewN (Below.refl _ _) 1).alloc (Nat.le_refl _) _) hO' hg hgo
end Go.Proofs.YtphenbfhojdcpaaGreatDoor
namespace Go.Proofs.YtphenbfhojdcpaaGreatDoor
open Go.RowKit
set_option linter.unusedVariables false
set_option linter.unusedSimpArgs false
set_option maxRecDepth 100000
theorem last_s0 (A : Option Addr) (c : Nat) (w : World) : Calls Tryz.prog 134 #[.slice A 0 c] w fun e w' => e = .returned (.pointer none) ∧ w = w' := by
  go_enter Tryz.func134, Tryz.ntmps134
  go_wp2_with fail
  go_ret
  exact ⟨rfl, rfl⟩
theorem last_s (g n m c : Nat) (hn : n = m + 1) (hc : n ≤ 1000000) (w : World) : Calls Tryz.prog 134 #[.slice (some ⟨g, 0, none⟩) n c] w fun e w' => e = .returned (.pointer (some ⟨g, m * 3, none⟩)) ∧ w = w' := by
  have h0 : ((n : Int) == 0) = false := by simp; omega
  have h1 : (0 : Int) ≤ (n : Int) - 1 := by omega
  have h2 : (n : Int) - 1 < n := by omega
  have h3 : ((n : Int) - 1).toNat = m := by omega
  clear hn
  go_enter Tryz.func134, Tryz.ntmps134
  go_wp2_with fail
  go_ret
  exact ⟨rfl, rfl⟩
theorem last_l0 (A : Option Addr) (c : Nat) (w : World) : Calls Tryz.prog 169 #[.slice A 0 c] w fun e w' => e = .returned (.pointer none) ∧ w = w' := by
  go_enter Tryz.func169, Tryz.ntmps169
  go_wp2_with fail
  go_ret
  exact ⟨rfl, rfl⟩
theorem last_l (g n m c : Nat) (hn : n = m + 1) (hc : n ≤ 1000000) (w : World) : Calls Tryz.prog 169 #[.slice (some ⟨g, 0, none⟩) n c] w fun e w' => e = .returned (.pointer (some ⟨g, m * 10, none⟩)) ∧ w = w' := by
  have h0 : ((n : Int) == 0) = false := by simp; omega
  have h1 : (0 : Int) ≤ (n : Int) - 1 := by omega
  have h2 : (n : Int) - 1 < n := by omega
  have h3 : ((n : Int) - 1).toNat = m := by omega
  clear hn
  go_enter Tryz.func169, Tryz.ntmps169
  go_wp2_with fail
  go_ret
  exact ⟨rfl, rfl⟩
theorem unit_is {x : List UInt8} {p : Int × Bool} (hp : Rs.unitS x = p) (w : World) : Calls Tryz.prog 133 #[.string ⟨x.toArray⟩] w fun e w' => e = .returned (.tuple #[.int .i64 p.1, .bool p.2]) ∧ w = w' := by
  subst hp
  unfold Rs.unitS Rs.hoursW Rs.daysW Rs.weeksW
  by_cases h1 : x = [104, 111, 117, 114, 115]
  · subst h1
    go_enter Tryz.func133, Tryz.ntmps133
    go_wp2_with fail
    go_ret2
    exact ⟨rfl, rfl⟩
  have e1 : (x == [104, 111, 117, 114, 115]) = false := by simpa using h1
  rw [if_neg h1]
  by_cases h2 : x = [100, 97, 121, 115]
  · subst h2
    go_enter Tryz.func133, Tryz.ntmps133
    go_wp2_with fail
    go_ret2
    exact ⟨rfl, rfl⟩
  have e2 : (x == [100, 97, 121, 115]) = false := by simpa using h2
  rw [if_neg h2]
  by_cases h3 : x = [119, 101, 101, 107, 115]
  · subst h3
    go_enter Tryz.func133, Tryz.ntmps133
    go_wp2_with fail
    go_ret2
    exact ⟨rfl, rfl⟩
  have e3 : (x == [119, 101, 101, 107, 115]) = false := by simpa using h3
  rw [if_neg h3]
  go_enter Tryz.func133, Tryz.ntmps133
  go_wp2_with fail
  go_ret2
  exact ⟨rfl, rfl⟩
theorem near_is {n m : Int} (h : Rs.near n = m) (w : World) : Calls Tryz.prog 168 #[.int .i64 n] w fun e w' => e = .returned (.int .i64 m) ∧ w = w' := by
  have HM := Lib.hid (show min (max n (-1209600)) 1209600 = m from h)
  clear h
  go_enter Tryz.func168, Tryz.ntmps168
  go_wp2_with fail
  go_ret
  exact ⟨ret_int HM.out, rfl⟩
theorem near_bd (n : Int) : -1209600 ≤ Rs.near n ∧ Rs.near n ≤ 1209600 := by unfold Rs.near; omega
theorem hours_tok {n m : Int} (h : Rs.hrs n = m) (k : Int) (s : ByteArray) (w : World) : Calls Tryz.prog 167 #[.agg #[.int .i64 k, .string s, .int .i64 n]] w fun e w' => e = .returned (.int .i64 m) ∧ Below w.heap.size w w' := by
  obtain ⟨q, hq⟩ : ∃ q, Rs.near n = q := ⟨_, rfl⟩
  have hb := near_bd n
  rw [hq] at hb
  have C := Lib.hid (fun W => near_is hq W)
  have HM := Lib.hid (show q * 3600 = m by rw [← h, ← hq]; rfl)
  have ew : IntKind.i64.wrap (q * 3600) = q * 3600 := by rw [IntKind.wrap_i64]; omega
  clear h hq
  go_enter Tryz.func167, Tryz.ntmps167
  go_wp2_with fail
  refine (C.out _).mono ?_
  rintro e w' ⟨rfl, rfl⟩
  go_wp2_with fail
  go_ret
  exact ⟨ret_int HM.out, (Below.refl _ _).alloc (Nat.le_refl _) _⟩
end Go.Proofs.YtphenbfhojdcpaaGreatDoor
