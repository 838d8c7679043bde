/- The law ResolveLimits returns true for every number. Printed by gen_tn.py. -/
import Derived.Test.YtphenbfhojdcpaaGreatDoorKlG28
import Derived.Deep.DeepCutAuto
import Derived.Test.YtphenbfhojdcpaaGreatDoorKlG16
import Derived.Test.YtphenbfhojdcpaaGreatDoorKlSdv
import Derived.Deep.RegionHeld3
namespace Go.Proofs.YtphenbfhojdcpaaGreatDoor
open Go.RowKit
set_option linter.unusedVariables false
set_option linter.unusedSimpArgs false
set_option maxRecDepth 100000
theorem tpers_vals (k : Nat) : ∀ j, j < 6 → (#[Value.string ⟨(Rs.nmL k).toArray⟩, .int .i64 0, .slice none 0 0, .int .i64 0, .int .i64 0, .bool false] : Array Value)[j]? = some (ePers (Rs.persL k, noSV) j) := fun j hj => by
  rcases j with _ | _ | _ | _ | _ | _ | _ <;> first | rfl | omega
theorem tint_vals (a : Int) : ∀ j, j < 1 → (#[Value.int .i64 a] : Array Value)[j]? = some (eInt a j) := fun j hj => by
  rcases j with _ | _ <;> first | rfl | omega
theorem tlay_vals (m : Int) (k : Nat) (m1 : Option Addr) (m3 : Nat) : ∀ j, j < 10 → (#[.string ⟨(Rs.nmL k).toArray⟩, .int .i64 0, .int .i64 1, .int .i64 0, .int .i64 0, .int .i64 400, .slice m1 12 m3, .slice none 0 0, .int .i64 0, .int .i64 0] : Array Value)[j]? = some (eLay (Rs.layL m k, ((m1, 12, m3), noSV)) j) := fun j hj => by
  rcases j with _ | _ | _ | _ | _ | _ | _ | _ | _ | _ | _ <;> first | rfl | omega
theorem tedi_vals (k : Nat) : ∀ j, j < 5 → (#[Value.int .i64 0, .int .i64 0, .int .i64 0, .int .i64 k, .int .i64 ((k : Int) + 1)] : Array Value)[j]? = some (eEdit (Rs.ediL k) j) := fun j hj => by
  rcases j with _ | _ | _ | _ | _ | _ <;> first | rfl | omega
theorem tsch_vals (m : Int) (k : Nat) (y1 : Option Addr) (y3 : Nat) (e1 : Option Addr) (e3 : Nat) : ∀ j, j < 3 → (#[.string ⟨(Rs.nmL k).toArray⟩, .slice y1 6 y3, .slice e1 48 e3] : Array Value)[j]? = some (eSch (Rs.schL m k, ((y1, 6, y3), (e1, 48, e3))) j) := fun j hj => by
  rcases j with _ | _ | _ | _ <;> first | rfl | omega
theorem len0 {α : Type} {n : Nat} {l : List α} (h : l.length = n) (hn : n ≤ 900000) : l.length ≤ 900000 := by omega
set_option maxHeartbeats 64000000 in
theorem reslimits_any (nv : Int) (n0 : 0 ≤ nv) (n1 : nv ≤ 255) (w : World) (hT : LexT w) :
    Calls Tryz.prog 3 #[.int .u8 nv] w fun e w' => e = .returned (.bool true) ∧ Below w.heap.size w w' := by
  have HT := Lib.hid hT
  clear hT
  obtain ⟨m, hm⟩ : ∃ m, nv.tmod 32 = m := ⟨_, rfl⟩
  have hm' : nv % 32 = m := by rw [← hm, Int.tmod_eq_emod_of_nonneg n0]
  have m0 : 0 ≤ m := by omega
  have m1 : m < 32 := by omega
  have HMM := Lib.hid (And.intro m0 m1)
  have e0 := (Below.refl w.heap.size w).alloc (Nat.le_refl _) (.cells (cfgA (some ⟨w.heap.size + 1, 0, none⟩, 1, 1) noSV noSV noSV) 27)
  have e1 := e0.alloc (by simp) (.cells #[.string ⟨#[122]⟩, .int .i64 0, .slice none 0 0] 32)
  have ez : BlkAt ((w.alloc (.cells (cfgA (some ⟨w.heap.size + 1, 0, none⟩, 1, 1) noSV noSV noSV) 27)).alloc (.cells #[.string ⟨#[122]⟩, .int .i64 0, .slice none 0 0] 32)) (w.heap.size + 1) #[.string ⟨#[122]⟩, .int .i64 0, .slice none 0 0] 32 := blk_now (by simp)
  have ec : BlkAt ((w.alloc (.cells (cfgA (some ⟨w.heap.size + 1, 0, none⟩, 1, 1) noSV noSV noSV) 27)).alloc (.cells #[.string ⟨#[122]⟩, .int .i64 0, .slice none 0 0] 32)) w.heap.size (cfgA (some ⟨w.heap.size + 1, 0, none⟩, 1, 1) noSV noSV noSV) 27 := BlkAt.alloc (BlkAt.new w _ _) _
  have hlz := ez.lt_
  have HK := Lib.hid (show BS w (w.heap.size + 2) w.heap.size (cfgA (some ⟨w.heap.size + 1, 0, none⟩, 1, 1) (none, 0, 0) noSV noSV) w.heap.size (cfgA (some ⟨w.heap.size + 1, 0, none⟩, 1, 1) (none, 0, 0) noSV noSV) 27 w.heap.size (cfgA (some ⟨w.heap.size + 1, 0, none⟩, 1, 1) (none, 0, 0) noSV noSV) 27 (FinL (some ⟨w.heap.size + 1, 0, none⟩, 1, 1) noSV noSV noSV noSV 0 0 0 0 m) ((w.alloc (.cells (cfgA (some ⟨w.heap.size + 1, 0, none⟩, 1, 1) noSV noSV noSV) 27)).alloc (.cells #[.string ⟨#[122]⟩, .int .i64 0, .slice none 0 0] 32)) from ⟨e1, ec, ec, ec, ⟨by omega, by omega⟩, ⟨by omega, by omega⟩, ⟨by omega, by omega⟩, hlz, ⟨⟨[(⟨[122], 0, []⟩, noSV)], rfl, ⟨fun _ => ⟨w.heap.size + 1, 0, rfl, hlz, fun i x hx j hj => by
    have hi : i = 0 := by have := (List.getElem?_eq_some_iff.1 hx).1; simp at this; omega
    subst hi
    simp at hx; subst hx
    rcases j with _ | _ | _ | _
    · exact ez.cell rfl
    · exact ez.cell rfl
    · exact ez.cell rfl
    · omega⟩, rfl, by simp, by simp, fun ad ea => by cases ea; exact ⟨⟨by simp, by simp, by simp, by simp, by simp⟩, hlz⟩⟩, fun x hx => by simp at hx; subst hx; exact ⟨LInS.nil_ _ _, (fun r hr => by cases hr), by unfold I64; simp⟩⟩, NestS.nil_ _ _, LInS.nil_ _ _, NestS.nil_ _ _, LInS.nil_ _ _⟩⟩)
  clear e0 e1 ez ec hlz
  go_enter Tryz.func3, Tryz.ntmps3
  go_wp2_with fail
  go_loopw [5] (fun vi wr => ∃ (k : Nat) (A : Option Addr) (cap : Nat), vi = .int .i64 k ∧ k ≤ 32 ∧ Hid (BS w (w.heap.size + 2) w.heap.size (cfgA (some ⟨w.heap.size + 1, 0, none⟩, 1, 1) (A, k, cap) noSV noSV) w.heap.size (cfgA (some ⟨w.heap.size + 1, 0, none⟩, 1, 1) (A, k, cap) noSV noSV) 27 w.heap.size (cfgA (some ⟨w.heap.size + 1, 0, none⟩, 1, 1) (A, k, cap) noSV noSV) 27 (FinL (some ⟨w.heap.size + 1, 0, none⟩, 1, 1) noSV noSV noSV noSV 0 0 0 0 m) wr) ∧ Hid (OwnL 35 6 ePers wr (w.heap.size + 2) (.slice A k cap) (PLs k))) (fun vi _ => 32 - (intOf vi).toNat)
  case atStart => exact ⟨0, none, 0, rfl, by omega, HK, Lib.hid (OwnL.nil_ _ _)⟩
  case round =>
    clear HK
    obtain ⟨k, A, cap, rfl, hk, HK, OE⟩ := hrel
    by_cases hlt : k < 32
    · have hlen := len0 (PLs_len k) (by omega)
      go_wp2_with fail
      refine AnyZ.start 9 (A := fun W => Hid (BS w (w.heap.size + 2) w.heap.size (cfgA (some ⟨w.heap.size + 1, 0, none⟩, 1, 1) (A, k, cap) noSV noSV) w.heap.size (cfgA (some ⟨w.heap.size + 1, 0, none⟩, 1, 1) (A, k, cap) noSV noSV) 27 w.heap.size (cfgA (some ⟨w.heap.size + 1, 0, none⟩, 1, 1) (A, k, cap) noSV noSV) 27 (FinL (some ⟨w.heap.size + 1, 0, none⟩, 1, 1) noSV noSV noSV noSV 0 0 0 0 m) W) ∧ Hid (OwnL 35 6 ePers W (w.heap.size + 2) (.slice A k cap) (PLs k))) (S := fun W => W.cell? ⟨w.heap.size, 1, none⟩ = some (.slice A k cap)) (by kernel_rfl) ⟨Lib.hid (HK.out.drew (fmv (some ⟨w.heap.size + 1, 0, none⟩, 1, 1) noSV noSV noSV noSV 0 0 0 0 m)), Lib.hid (OwnL.drewN OE.out 1)⟩ ((HK.out.drew (fmv (some ⟨w.heap.size + 1, 0, none⟩, 1, 1) noSV noSV noSV noSV 0 0 0 0 m)).k1.cell rfl) (fun Wa hA hH => ?_)
      obtain ⟨HK, OE⟩ := hA
      refine AnyZ.take [9] (i := 0) (oi := ⟨some 25, .fieldAddr 27 (.tmp 3) 1, 0, "law.go:95", #[], none⟩) (v := ?_) rfl (by kernel_rfl) (by kernel_rfl) (by kernel_rfl) (by kernel_rfl) (fun _ _ _ h => h) (Or.inl ⟨by rfl, ?_⟩) hH ?_
      rotate_left
      focus (intro w hSw; (try dsimp only at hSw); go_simp; (try with_reducible rfl); done)
      try simp only [Act.put, List.setIfInBounds_toArray, List.set_cons_zero, List.set_cons_succ]
      refine AnyZ.take [9] (i := 1) (oi := ⟨some 26, .load 23 (.tmp 25), 23, "law.go:95", #[⟨0, .data⟩], none⟩) (v := ?_) rfl (by kernel_rfl) (by kernel_rfl) (by kernel_rfl) (by kernel_rfl) (fun _ _ _ h => h) (Or.inl ⟨by rfl, ?_⟩) hH ?_
      rotate_left
      focus (intro w hSw; (try dsimp only at hSw); go_simp; (try with_reducible rfl); done)
      try simp only [Act.put, List.setIfInBounds_toArray, List.set_cons_zero, List.set_cons_succ]
      refine AnyZ.take [9] (i := 2) (oi := ⟨some 27, .move (.tmp 4), 29, "law.go:95", #[], none⟩) (v := ?_) rfl (by kernel_rfl) (by kernel_rfl) (by kernel_rfl) (by kernel_rfl) (fun _ _ _ h => h) (Or.inl ⟨by rfl, ?_⟩) hH ?_
      rotate_left
      focus (intro w hSw; (try dsimp only at hSw); go_simp; (try with_reducible rfl); done)
      try simp only [Act.put, List.setIfInBounds_toArray, List.set_cons_zero, List.set_cons_succ]
      refine AnyZ.take [9] (i := 3) (oi := ⟨some 28, .move (.tmp 5), 3, "law.go:95", #[], none⟩) (v := ?_) rfl (by kernel_rfl) (by kernel_rfl) (by kernel_rfl) (by kernel_rfl) (fun _ _ _ h => h) (Or.inl ⟨by rfl, ?_⟩) hH ?_
      rotate_left
      focus (intro w hSw; (try dsimp only at hSw); go_simp; (try with_reducible rfl); done)
      try simp only [Act.put, List.setIfInBounds_toArray, List.set_cons_zero, List.set_cons_succ]
      refine AnyZ.ready (rs := [4]) (by kernel_rfl) (by simp) ?_
      refine AllZ.cons (o := ⟨some 29, .call { callee := .value (.tmp 27), args := #[.tmp 28], argTypes := #[3] }, 9, "law.go:95", #[⟨2, .data⟩, ⟨3, .data⟩], none⟩) rfl (fun K hK => ?_) AllZ.nil
      go_simp
      (go_at_call 6; (with_reducible refine (nmL_any k hlt _).mono ?_); rintro e w' ⟨rfl, hb2⟩)
      go_wp2_with fail
      refine AnyZ.go hK (A := fun W => Hid (BS w (w.heap.size + 2) w.heap.size (cfgA (some ⟨w.heap.size + 1, 0, none⟩, 1, 1) (A, k, cap) noSV noSV) w.heap.size (cfgA (some ⟨w.heap.size + 1, 0, none⟩, 1, 1) (A, k, cap) noSV noSV) 27 w.heap.size (cfgA (some ⟨w.heap.size + 1, 0, none⟩, 1, 1) (A, k, cap) noSV noSV) 27 (FinL (some ⟨w.heap.size + 1, 0, none⟩, 1, 1) noSV noSV noSV noSV 0 0 0 0 m) W) ∧ Hid (OwnL 35 6 ePers W (w.heap.size + 2) (.slice A k cap) (PLs k))) (S' := fun W => W.cell? ⟨w.heap.size, 1, none⟩ = some (.slice A k cap)) (fun _ h => h) ⟨Lib.hid ((HK.out).below (fmv (some ⟨w.heap.size + 1, 0, none⟩, 1, 1) noSV noSV noSV noSV 0 0 0 0 m) hb2), Lib.hid ((OE.out).below hb2)⟩ (((HK.out).below (fmv (some ⟨w.heap.size + 1, 0, none⟩, 1, 1) noSV noSV noSV noSV 0 0 0 0 m) hb2).k1.cell rfl) (fun W1 hA hH2 => ?_)
      clear hK K hH HK OE
      obtain ⟨HK, OE⟩ := hA
      have hH := hH2
      clear hH2
      clear hb2
      try simp only [Act.put, List.setIfInBounds_toArray, List.set_cons_zero, List.set_cons_succ]
      refine AnyZ.take [9] (i := 5) (oi := ⟨some 30, .build 35 #[(0, .tmp 29)], 35, "law.go:95", #[⟨4, .data⟩], none⟩) (v := ?_) rfl (by kernel_rfl) (by kernel_rfl) (by kernel_rfl) (by kernel_rfl) (fun _ _ _ h => h) (Or.inl ⟨by rfl, ?_⟩) hH ?_
      rotate_left
      focus (intro w hSw; (try dsimp only at hSw); go_simp; (try with_reducible rfl); done)
      try simp only [Act.put, List.setIfInBounds_toArray, List.set_cons_zero, List.set_cons_succ]
      refine AnyZ.ready (rs := [6]) (by kernel_rfl) (by simp) ?_
      refine AllZ.cons (o := ⟨some 31, .buildSlice 23 1 #[(0, .tmp 30)], 23, "law.go:95", #[⟨5, .data⟩], none⟩) rfl (fun K hK => ?_) AllZ.nil
      go_simp
      refine AnyZ.go hK (A := fun W => Hid (BS w (w.heap.size + 2) w.heap.size (cfgA (some ⟨w.heap.size + 1, 0, none⟩, 1, 1) (A, k, cap) noSV noSV) w.heap.size (cfgA (some ⟨w.heap.size + 1, 0, none⟩, 1, 1) (A, k, cap) noSV noSV) 27 w.heap.size (cfgA (some ⟨w.heap.size + 1, 0, none⟩, 1, 1) (A, k, cap) noSV noSV) 27 (FinL (some ⟨w.heap.size + 1, 0, none⟩, 1, 1) noSV noSV noSV noSV 0 0 0 0 m) W) ∧ Hid (OwnL 35 6 ePers W (w.heap.size + 2) (.slice A k cap) (PLs k)) ∧ Hid (BlkAt W W1.heap.size #[.string ⟨(Rs.nmL k).toArray⟩, .int .i64 0, .slice none 0 0, .int .i64 0, .int .i64 0, .bool false] 35)) (S' := fun W => W.cell? ⟨w.heap.size, 1, none⟩ = some (.slice A k cap)) (fun _ h => h) ⟨Lib.hid ((HK.out).below (fmv (some ⟨w.heap.size + 1, 0, none⟩, 1, 1) noSV noSV noSV noSV 0 0 0 0 m) ((Below.refl _ _).alloc (Nat.le_refl _) _)), Lib.hid ((OE.out).below ((Below.refl _ _).alloc (Nat.le_refl _) _)), Lib.hid ((blk_now rfl))⟩ (((HK.out).below (fmv (some ⟨w.heap.size + 1, 0, none⟩, 1, 1) noSV noSV noSV noSV 0 0 0 0 m) ((Below.refl _ _).alloc (Nat.le_refl _) _)).k1.cell rfl) (fun W2 hA hH2 => ?_)
      clear hK K hH HK OE
      obtain ⟨HK, OE, EB⟩ := hA
      have hH := hH2
      clear hH2
      try simp only [Act.put, List.setIfInBounds_toArray, List.set_cons_zero, List.set_cons_succ]
      refine AnyZ.ready (rs := [7]) (by kernel_rfl) (by simp) ?_
      refine AllZ.cons (o := ⟨some 32, .call { callee := .builtin .append, args := #[.tmp 26, .tmp 31], argTypes := #[23, 23] }, 23, "law.go:95", #[⟨1, .data⟩, ⟨6, .data⟩, ⟨4, .chain⟩], none⟩) rfl (fun K hK => ?_) AllZ.nil
      have hB7 := HK.out.le
      (refine step_append_row kPer _ (by rfl) (.tmp 26) (.tmp 31) (by rfl) (w.heap.size + 2) (.slice A k cap) (PLs k) (by rfl) OE.out W1.heap.size (Rs.persL k, noSV) (by rfl) (one_new EB.out (tpers_vals k)) hlen hB7 ?_; intro gg cap' w3 hO3 hg3 hgo3 hlt3)
      rw [PLs_len, ← PLs_succ] at hO3
      rw [PLs_len]
      have hbl := Lib.hid ((Below.refl (w.heap.size + 2) W2).grown hg3 hB7 (fun q hq => (World.ownsRow.lt OE.out q hq).1))
      refine AnyZ.go hK (A := fun W => Hid (BS w (w.heap.size + 2) w.heap.size (cfgA (some ⟨w.heap.size + 1, 0, none⟩, 1, 1) (A, k, cap) noSV noSV) w.heap.size (cfgA (some ⟨w.heap.size + 1, 0, none⟩, 1, 1) (A, k, cap) noSV noSV) 27 w.heap.size (cfgA (some ⟨w.heap.size + 1, 0, none⟩, 1, 1) (A, k, cap) noSV noSV) 27 (FinL (some ⟨w.heap.size + 1, 0, none⟩, 1, 1) noSV noSV noSV noSV 0 0 0 0 m) W) ∧ Hid (OwnL 35 6 ePers W (w.heap.size + 2) (.slice (some ⟨gg, 0, none⟩) (k + 1) cap') (PLs (k + 1)))) (S' := fun W => W.cell? ⟨w.heap.size, 1, none⟩ = some (.slice A k cap)) (fun _ h => h) ⟨Lib.hid ((HK.out).row (fmv (some ⟨w.heap.size + 1, 0, none⟩, 1, 1) noSV noSV noSV noSV 0 0 0 0 m) hbl.out), Lib.hid (hO3)⟩ (((HK.out).row (fmv (some ⟨w.heap.size + 1, 0, none⟩, 1, 1) noSV noSV noSV noSV 0 0 0 0 m) hbl.out).k1.cell rfl) (fun W3 hA hH2 => ?_)
      clear hK K hH HK OE EB
      obtain ⟨HK, OE⟩ := hA
      have hH := hH2
      clear hH2
      clear hB7 hbl hO3 hg3 hgo3 hlt3
      try simp only [Act.put, List.setIfInBounds_toArray, List.set_cons_zero, List.set_cons_succ]
      refine AnyZ.take [9] (i := 8) (oi := ⟨some 33, .fieldAddr 27 (.tmp 3) 1, 0, "law.go:95", #[⟨0, .phase⟩, ⟨1, .phase⟩, ⟨2, .phase⟩, ⟨3, .phase⟩, ⟨4, .phase⟩, ⟨5, .phase⟩, ⟨6, .phase⟩, ⟨7, .phase⟩], none⟩) (v := ?_) rfl (by kernel_rfl) (by kernel_rfl) (by kernel_rfl) (by kernel_rfl) (fun _ _ _ h => h) (Or.inl ⟨by rfl, ?_⟩) hH ?_
      rotate_left
      focus (intro w hSw; (try dsimp only at hSw); go_simp; (try with_reducible rfl); done)
      try simp only [Act.put, List.setIfInBounds_toArray, List.set_cons_zero, List.set_cons_succ]
      refine AnyZ.last (o := ⟨none, .store 23 (.tmp 33) (.tmp 32), 0, "law.go:95", #[⟨8, .data⟩, ⟨7, .data⟩, ⟨7, .chain⟩, ⟨0, .phase⟩, ⟨1, .phase⟩, ⟨2, .phase⟩, ⟨3, .phase⟩, ⟨4, .phase⟩, ⟨5, .phase⟩, ⟨6, .phase⟩, ⟨7, .phase⟩], none⟩) (by kernel_rfl) rfl (fun K hK => ?_)
      have y8 : W3.cell? ⟨w.heap.size, 1, none⟩ = some (.slice A k cap) := HK.out.k1.cell rfl
      have y9 := HK.out.k1.free 1
      go_simp
      refine hK.out _ _ ?_
      clear hK K hH
      try simp only [Act.put, List.setIfInBounds_toArray, List.set_cons_zero, List.set_cons_succ]
      refine AnyZ.done (by kernel_rfl) ?_ _
      have F1 := Lib.hid (show BS w (w.heap.size + 2) w.heap.size (cfgA (some ⟨w.heap.size + 1, 0, none⟩, 1, 1) (some ⟨gg, 0, none⟩, k + 1, cap') noSV noSV) w.heap.size (cfgA (some ⟨w.heap.size + 1, 0, none⟩, 1, 1) (some ⟨gg, 0, none⟩, k + 1, cap') noSV noSV) 27 w.heap.size (cfgA (some ⟨w.heap.size + 1, 0, none⟩, 1, 1) (some ⟨gg, 0, none⟩, k + 1, cap') noSV noSV) 27 (FinL (some ⟨w.heap.size + 1, 0, none⟩, 1, 1) noSV noSV noSV noSV 0 0 0 0 m) (W3.setCell ⟨w.heap.size, 1, none⟩ (.slice (some ⟨gg, 0, none⟩) (k + 1) cap')) from HK.out.set (fmv (some ⟨w.heap.size + 1, 0, none⟩, 1, 1) noSV noSV noSV noSV 0 0 0 0 m) w.heap.size 1 _ (.inl rfl) (.inl ⟨rfl, rfl⟩) (.inl ⟨rfl, rfl⟩) (.inl ⟨rfl, rfl⟩))
      have F2 := Lib.hid (OE.out.grown (grown_set W3 w.heap.size 1 (.slice (some ⟨gg, 0, none⟩) (k + 1) cap')) (by omega))
      clear y8 y9 HK OE
      go_wp2_with fail
      go_roundw
      case rel => exact ⟨k + 1, some ⟨gg, 0, none⟩, cap', by go_num, by omega, F1, F2⟩
      case measure => simp [intOf]; omega
    · obtain rfl : k = 32 := by omega
      obtain ⟨p1, rfl⟩ : ∃ p, p = A := ⟨_, rfl⟩
      obtain ⟨p3, rfl⟩ : ∃ p, p = cap := ⟨_, rfl⟩
      obtain ⟨bL, hbL⟩ : ∃ b, wr.heap.size = b := ⟨_, rfl⟩
      have hle := HK.out.le
      have hbw : w.heap.size + 2 ≤ bL := by omega
      have al := (Below.refl wr.heap.size wr).alloc (Nat.le_refl _) (.cells #[.string ⟨#[]⟩, .int .i64 0, .int .i64 1, .int .i64 0, .int .i64 0, .int .i64 400, .slice none 0 0, .slice none 0 0, .int .i64 0, .int .i64 0] 40)
      have smv := sx_mv (w := w) (W := wr) (hi := w.heap.size + 2) (hi' := bL + 1) (b1 := w.heap.size) (b2 := w.heap.size) (b3 := w.heap.size) (b1' := w.heap.size) (b2' := bL) (b3' := bL) (al.mono hle) (by omega) (fun b _ e => .inl e) (fun b h e => by omega) (fun b h e => by omega)
      have hfin := fmv (some ⟨w.heap.size + 1, 0, none⟩, 1, 1) noSV noSV noSV noSV 0 0 0 0 m _ _ _ _ smv HK.out.fin
      have hrow := OwnL.lt_rng OE.out
      have HK2 := Lib.hid (show BS w (bL + 1) w.heap.size (cfgA (some ⟨w.heap.size + 1, 0, none⟩, 1, 1) (p1, 32, p3) noSV noSV) bL #[.string ⟨#[]⟩, .int .i64 0, .int .i64 1, .int .i64 0, .int .i64 0, .int .i64 400, .slice none 0 0, .slice none 0 0, .int .i64 0, .int .i64 0] 40 bL #[.string ⟨#[]⟩, .int .i64 0, .int .i64 1, .int .i64 0, .int .i64 0, .int .i64 400, .slice none 0 0, .slice none 0 0, .int .i64 0, .int .i64 0] 40 (FinL (some ⟨w.heap.size + 1, 0, none⟩, 1, 1) (p1, 32, p3) noSV noSV noSV 32 0 0 0 m) (wr.alloc (.cells #[.string ⟨#[]⟩, .int .i64 0, .int .i64 1, .int .i64 0, .int .i64 0, .int .i64 400, .slice none 0 0, .slice none 0 0, .int .i64 0, .int .i64 0] 40)) from ⟨bstep HK.out.base al, HK.out.k1.after al, blk_now hbL, blk_now hbL, ⟨by omega, by omega⟩, ⟨by omega, by omega⟩, ⟨by omega, by omega⟩, by simp; omega, ⟨hfin.zones, ⟨PLs 32, PLs_fst 32, (OwnL.lins (v := (p1, 32, p3)) (OE.out.below al) (S := Sx w (bL + 1) w.heap.size bL bL) (fun q hq hB => by have := hrow q hq; exact ⟨by omega, by omega, by omega, by omega, by omega⟩) (by rw [PLs_len]; omega)).1, fun x hx => by
        obtain ⟨i, -, rfl⟩ := List.mem_map.1 hx
        exact LInS.nil_ _ _⟩, LInS.nil_ _ _, NestS.nil_ _ _, LInS.nil_ _ _⟩⟩)
      clear al smv hfin hrow HK OE
      go_wp2_with fail
      go_loopw [7] (fun vi wr => ∃ (k : Nat) (A : Option Addr) (cap : Nat), vi = .int .i64 k ∧ k ≤ 12 ∧ Hid (BS w (bL + 1) w.heap.size (cfgA (some ⟨w.heap.size + 1, 0, none⟩, 1, 1) (p1, 32, p3) noSV noSV) bL #[.string ⟨#[]⟩, .int .i64 0, .int .i64 1, .int .i64 0, .int .i64 0, .int .i64 400, .slice A k cap, .slice none 0 0, .int .i64 0, .int .i64 0] 40 bL #[.string ⟨#[]⟩, .int .i64 0, .int .i64 1, .int .i64 0, .int .i64 0, .int .i64 400, .slice A k cap, .slice none 0 0, .int .i64 0, .int .i64 0] 40 (FinL (some ⟨w.heap.size + 1, 0, none⟩, 1, 1) (p1, 32, p3) noSV noSV noSV 32 0 0 0 m) wr) ∧ Hid (OwnL 3 1 eInt wr (bL + 1) (.slice A k cap) (Rs.memL m k))) (fun vi _ => 12 - (intOf vi).toNat)
      case atStart => exact ⟨0, none, 0, rfl, by omega, HK2, Lib.hid (OwnL.nil_ _ _)⟩
      case round =>
        clear HK2 hle
        obtain ⟨k, A, cap, rfl, hk2, HK, OE⟩ := hrel
        have hle := HK.out.le
        by_cases hlt : k < 12
        · have hlen := len0 (mem_len m k) (by omega)
          have q0 : wr.cell? ⟨bL, 6, none⟩ = some (.slice A k cap) := HK.out.k2.cell rfl
          go_wp2_with (at_builtin; go_loud (refine wp_append_one kInt _ rfl _ _ rfl (bL + 1) _ (Rs.memL m k) rfl (OwnL.alloc OE.out _) wr.heap.size m rfl (one_new (blk_now rfl) (tint_vals m)) hlen (by simp; omega) ?_; intro gg cap' w3 hO3 hB3 hg3 hgo3 _; rw [mem_len, ← mem_succ] at hO3; rw [mem_len]; have FK := (HK.out.alloc (fmv (some ⟨w.heap.size + 1, 0, none⟩, 1, 1) (p1, 32, p3) noSV noSV noSV 32 0 0 0 m) _).row (fmv (some ⟨w.heap.size + 1, 0, none⟩, 1, 1) (p1, 32, p3) noSV noSV noSV 32 0 0 0 m) hB3; have z1 : w3.cell? ⟨bL, 6, none⟩ = some (.slice A k cap) := FK.k2.cell rfl; have z2 := FK.k2.free 6; have HFK := Lib.hid FK; have HO3 := Lib.hid hO3; clear FK hO3 hB3 hg3 hgo3 q0))
          have F1 := Lib.hid (show BS w (bL + 1) w.heap.size (cfgA (some ⟨w.heap.size + 1, 0, none⟩, 1, 1) (p1, 32, p3) noSV noSV) bL #[.string ⟨#[]⟩, .int .i64 0, .int .i64 1, .int .i64 0, .int .i64 0, .int .i64 400, .slice (some ⟨gg, 0, none⟩) (k + 1) cap', .slice none 0 0, .int .i64 0, .int .i64 0] 40 bL #[.string ⟨#[]⟩, .int .i64 0, .int .i64 1, .int .i64 0, .int .i64 0, .int .i64 400, .slice (some ⟨gg, 0, none⟩) (k + 1) cap', .slice none 0 0, .int .i64 0, .int .i64 0] 40 (FinL (some ⟨w.heap.size + 1, 0, none⟩, 1, 1) (p1, 32, p3) noSV noSV noSV 32 0 0 0 m) (w3.setCell ⟨bL, 6, none⟩ (.slice (some ⟨gg, 0, none⟩) (k + 1) cap')) from HFK.out.set (fmv (some ⟨w.heap.size + 1, 0, none⟩, 1, 1) (p1, 32, p3) noSV noSV noSV 32 0 0 0 m) bL 6 _ (.inr (.inl rfl)) (.inr ⟨by omega, rfl⟩) (.inl ⟨rfl, rfl⟩) (.inl ⟨rfl, rfl⟩))
          have F2 := Lib.hid (HO3.out.grown (grown_set w3 bL 6 (.slice (some ⟨gg, 0, none⟩) (k + 1) cap')) (Nat.lt_succ_self _))
          clear HFK HO3 HK OE
          go_wp2_with fail
          refine ⟨?_, ?_⟩
          · (repeat apply Exists.intro)
            refine ⟨?_, rfl⟩
            exact ⟨k + 1, some ⟨gg, 0, none⟩, cap', by go_num, by omega, F1, F2⟩
          · simp [intOf]; omega
        · obtain rfl : k = 12 := by omega
          obtain ⟨g1, rfl⟩ : ∃ p, p = A := ⟨_, rfl⟩
          obtain ⟨g3, rfl⟩ : ∃ p, p = cap := ⟨_, rfl⟩
          obtain ⟨bS, hbS⟩ : ∃ b, wr.heap.size = b := ⟨_, rfl⟩
          have hbs : bL + 1 ≤ bS := by omega
          have al := (Below.refl wr.heap.size wr).alloc (Nat.le_refl _) (.cells #[.string ⟨#[115]⟩, .slice none 0 0, .slice none 0 0] 44)
          have smv := sx_mv (w := w) (W := wr) (hi := bL + 1) (hi' := bS + 1) (b1 := w.heap.size) (b2 := bL) (b3 := bL) (b1' := w.heap.size) (b2' := bL) (b3' := bS) (al.mono hle) (by omega) (fun b _ e => .inl e) (fun b _ e => .inr (.inl e)) (fun b h e => by omega)
          have hfin := fmv (some ⟨w.heap.size + 1, 0, none⟩, 1, 1) (p1, 32, p3) noSV noSV noSV 32 0 0 0 m _ _ _ _ smv HK.out.fin
          have hrow := OwnL.lt_rng OE.out
          have HK3 := Lib.hid (show BS w (bS + 1) w.heap.size (cfgA (some ⟨w.heap.size + 1, 0, none⟩, 1, 1) (p1, 32, p3) noSV noSV) bL #[.string ⟨#[]⟩, .int .i64 0, .int .i64 1, .int .i64 0, .int .i64 0, .int .i64 400, .slice g1 12 g3, .slice none 0 0, .int .i64 0, .int .i64 0] 40 bS #[.string ⟨#[115]⟩, .slice none 0 0, .slice none 0 0] 44 (FinL (some ⟨w.heap.size + 1, 0, none⟩, 1, 1) (p1, 32, p3) (g1, 12, g3) noSV noSV 32 12 0 0 m) (wr.alloc (.cells #[.string ⟨#[115]⟩, .slice none 0 0, .slice none 0 0] 44)) from ⟨bstep HK.out.base al, HK.out.k1.after al, HK.out.k2.after al, blk_now hbS, ⟨by omega, by omega⟩, ⟨by omega, by omega⟩, ⟨by omega, by omega⟩, by simp; omega, ⟨hfin.zones, hfin.people, (OwnL.lins (v := (g1, 12, g3)) (OE.out.below al) (S := Sx w (bS + 1) w.heap.size bL bS) (fun q hq hB => by have := hrow q hq; exact ⟨by omega, by omega, by omega, by omega, by omega⟩) (by rw [mem_len]; omega)).1, NestS.nil_ _ _, LInS.nil_ _ _⟩⟩)
          clear al smv hfin hrow HK OE hle
          go_wp2_with fail
          go_loopw [9] (fun vi wr => ∃ (k : Nat) (A : Option Addr) (cap : Nat) (nb : ByteArray), vi = .int .i64 k ∧ k ≤ 6 ∧ Hid (BS w (bS + 1) w.heap.size (cfgA (some ⟨w.heap.size + 1, 0, none⟩, 1, 1) (p1, 32, p3) noSV noSV) bL #[.string nb, .int .i64 0, .int .i64 1, .int .i64 0, .int .i64 0, .int .i64 400, .slice g1 12 g3, .slice none 0 0, .int .i64 0, .int .i64 0] 40 bS #[.string ⟨#[115]⟩, .slice A k cap, .slice none 0 0] 44 (FinL (some ⟨w.heap.size + 1, 0, none⟩, 1, 1) (p1, 32, p3) (g1, 12, g3) noSV noSV 32 12 0 0 m) wr) ∧ Hid (OwnL 40 10 eLay wr (bS + 1) (.slice A k cap) (YLs m (g1, 12, g3) k))) (fun vi _ => 6 - (intOf vi).toNat)
          case atStart => exact ⟨0, none, 0, _, rfl, by omega, HK3, Lib.hid (OwnL.nil_ _ _)⟩
          case round =>
            clear HK3
            obtain ⟨k, A, cap, nb, rfl, hk3, HK, OE⟩ := hrel
            by_cases hlt : k < 6
            · have hlen := len0 (YLs_len m (g1, 12, g3) k) (by omega)
              go_wp2_with fail
              refine (nmL_any k (by omega) _).mono ?_
              rintro e w2 ⟨rfl, hb2⟩
              have HKa := Lib.hid (HK.out.below (fmv (some ⟨w.heap.size + 1, 0, none⟩, 1, 1) (p1, 32, p3) (g1, 12, g3) noSV noSV 32 12 0 0 m) hb2)
              have OEa := Lib.hid (OE.out.below hb2)
              have q0 : w2.cell? ⟨bL, 0, none⟩ = some (.string nb) := HKa.out.k2.cell rfl
              have q1 := HKa.out.k2.free 0
              have HKb := Lib.hid (show BS w (bS + 1) w.heap.size (cfgA (some ⟨w.heap.size + 1, 0, none⟩, 1, 1) (p1, 32, p3) noSV noSV) bL #[.string ⟨(Rs.nmL k).toArray⟩, .int .i64 0, .int .i64 1, .int .i64 0, .int .i64 0, .int .i64 400, .slice g1 12 g3, .slice none 0 0, .int .i64 0, .int .i64 0] 40 bS #[.string ⟨#[115]⟩, .slice A k cap, .slice none 0 0] 44 (FinL (some ⟨w.heap.size + 1, 0, none⟩, 1, 1) (p1, 32, p3) (g1, 12, g3) noSV noSV 32 12 0 0 m) (w2.setCell ⟨bL, 0, none⟩ (.string ⟨(Rs.nmL k).toArray⟩)) from HKa.out.set (fmv (some ⟨w.heap.size + 1, 0, none⟩, 1, 1) (p1, 32, p3) (g1, 12, g3) noSV noSV 32 12 0 0 m) bL 0 _ (.inr (.inl rfl)) (.inr ⟨by omega, rfl⟩) (.inl ⟨rfl, rfl⟩) (.inr ⟨by omega, rfl⟩))
              have OEb := Lib.hid (OEa.out.grown (grown_set w2 bL 0 (.string ⟨(Rs.nmL k).toArray⟩)) (by omega))
              have hle := HKb.out.le
              have z0 := HKb.out.k2.cell (i := 0) rfl
              have z1 := HKb.out.k2.cell (i := 1) rfl
              have z2 := HKb.out.k2.cell (i := 2) rfl
              have z3 := HKb.out.k2.cell (i := 3) rfl
              have z4 := HKb.out.k2.cell (i := 4) rfl
              have z5 := HKb.out.k2.cell (i := 5) rfl
              have z6 := HKb.out.k2.cell (i := 6) rfl
              have z7 := HKb.out.k2.cell (i := 7) rfl
              have z8 := HKb.out.k2.cell (i := 8) rfl
              have z9 := HKb.out.k2.cell (i := 9) rfl
              have y0 := HKb.out.k3.cell (i := 1) rfl
              clear hb2 HK OE HKa OEa
              go_wp2_with (at_builtin; go_loud (refine wp_append_one kLay _ rfl _ _ rfl (bS + 1) _ (YLs m (g1, 12, g3) k) rfl (OwnL.alloc OEb.out _) w2.heap.size (Rs.layL m k, ((g1, 12, g3), noSV)) rfl (one_new (blk_now (by simp)) (tlay_vals m k g1 g3)) hlen (by simp at hle ⊢; omega) ?_; intro gg cap' w3 hO3 hB3 hg3 hgo3 _; rw [YLs_len, ← YLs_succ] at hO3; rw [YLs_len]; have FK := (HKb.out.alloc (fmv (some ⟨w.heap.size + 1, 0, none⟩, 1, 1) (p1, 32, p3) (g1, 12, g3) noSV noSV 32 12 0 0 m) _).row (fmv (some ⟨w.heap.size + 1, 0, none⟩, 1, 1) (p1, 32, p3) (g1, 12, g3) noSV noSV 32 12 0 0 m) hB3; have x1 : w3.cell? ⟨bS, 1, none⟩ = some (.slice A k cap) := FK.k3.cell rfl; have x2 := FK.k3.free 1; have HFK := Lib.hid FK; have HO3 := Lib.hid hO3; clear FK hO3 hB3 hg3 hgo3 q0 q1 z0 z1 z2 z3 z4 z5 z6 z7 z8 z9 y0))
              have F1 := Lib.hid (show BS w (bS + 1) w.heap.size (cfgA (some ⟨w.heap.size + 1, 0, none⟩, 1, 1) (p1, 32, p3) noSV noSV) bL #[.string ⟨(Rs.nmL k).toArray⟩, .int .i64 0, .int .i64 1, .int .i64 0, .int .i64 0, .int .i64 400, .slice g1 12 g3, .slice none 0 0, .int .i64 0, .int .i64 0] 40 bS #[.string ⟨#[115]⟩, .slice (some ⟨gg, 0, none⟩) (k + 1) cap', .slice none 0 0] 44 (FinL (some ⟨w.heap.size + 1, 0, none⟩, 1, 1) (p1, 32, p3) (g1, 12, g3) noSV noSV 32 12 0 0 m) (w3.setCell ⟨bS, 1, none⟩ (.slice (some ⟨gg, 0, none⟩) (k + 1) cap')) from HFK.out.set (fmv (some ⟨w.heap.size + 1, 0, none⟩, 1, 1) (p1, 32, p3) (g1, 12, g3) noSV noSV 32 12 0 0 m) bS 1 _ (.inr (.inr rfl)) (.inr ⟨by omega, rfl⟩) (.inr ⟨by omega, rfl⟩) (.inl ⟨rfl, rfl⟩))
              have F2 := Lib.hid (HO3.out.grown (grown_set w3 bS 1 (.slice (some ⟨gg, 0, none⟩) (k + 1) cap')) (Nat.lt_succ_self _))
              clear HFK HO3 HKb OEb
              go_wp2_with fail
              refine ⟨?_, ?_⟩
              · (repeat apply Exists.intro)
                refine ⟨?_, rfl⟩
                exact ⟨k + 1, some ⟨gg, 0, none⟩, cap', _, by go_num, by omega, F1, F2⟩
              · simp [intOf]; omega
            · obtain rfl : k = 6 := by omega
              obtain ⟨y1, rfl⟩ : ∃ p, p = A := ⟨_, rfl⟩
              obtain ⟨y3, rfl⟩ : ∃ p, p = cap := ⟨_, rfl⟩
              obtain ⟨h4, hh4⟩ : ∃ b, wr.heap.size = b := ⟨_, rfl⟩
              have hle := HK.out.le
              rw [hh4] at hle
              have smv := sx_mv (w := w) (W := wr) (W' := wr) (hi := bS + 1) (hi' := h4) (b1 := w.heap.size) (b2 := bL) (b3 := bS) (b1' := w.heap.size) (b2' := bL) (b3' := bS) (Below.refl _ _) hle (fun b _ e => .inl e) (fun b _ e => .inr (.inl e)) (fun b _ e => .inr (.inr e))
              have hfin := fmv (some ⟨w.heap.size + 1, 0, none⟩, 1, 1) (p1, 32, p3) (g1, 12, g3) noSV noSV 32 12 0 0 m _ _ _ _ smv HK.out.fin
              have hrow := OwnL.lt_rng OE.out
              have HK4 := Lib.hid (show BS w h4 w.heap.size (cfgA (some ⟨w.heap.size + 1, 0, none⟩, 1, 1) (p1, 32, p3) noSV noSV) bL #[.string nb, .int .i64 0, .int .i64 1, .int .i64 0, .int .i64 0, .int .i64 400, .slice g1 12 g3, .slice none 0 0, .int .i64 0, .int .i64 0] 40 bS #[.string ⟨#[115]⟩, .slice y1 6 y3, .slice none 0 0] 44 (FinL (some ⟨w.heap.size + 1, 0, none⟩, 1, 1) (p1, 32, p3) (g1, 12, g3) (y1, 6, y3) noSV 32 12 6 0 m) wr from ⟨HK.out.base, HK.out.k1, HK.out.k2, HK.out.k3, ⟨by omega, by omega⟩, ⟨by omega, by omega⟩, ⟨by omega, by omega⟩, by omega, ⟨hfin.zones, hfin.people, hfin.mem, ⟨YLs m (g1, 12, g3) 6, YLs_fst _ _ _, (OwnL.lins (v := (y1, 6, y3)) OE.out (S := Sx w h4 w.heap.size bL bS) (fun q hq hB => by have := hrow q hq; exact ⟨by omega, by omega, by omega, by omega, by omega⟩) (by rw [YLs_len]; omega)).1, fun x hx => by
                obtain ⟨i, -, rfl⟩ := List.mem_map.1 hx
                exact ⟨hfin.mem, LInS.nil_ _ _, by unfold I64; simp [Rs.layL]⟩⟩, LInS.nil_ _ _⟩⟩)
              have h4b : bS + 1 ≤ h4 := hle
              clear smv hfin hrow HK OE hh4 hle
              go_wp2_with fail
              go_loopw [10] (fun vi wr => ∃ (k : Nat) (A : Option Addr) (cap : Nat), vi = .int .i64 k ∧ k ≤ 48 ∧ Hid (BS w h4 w.heap.size (cfgA (some ⟨w.heap.size + 1, 0, none⟩, 1, 1) (p1, 32, p3) noSV noSV) bL #[.string nb, .int .i64 0, .int .i64 1, .int .i64 0, .int .i64 0, .int .i64 400, .slice g1 12 g3, .slice none 0 0, .int .i64 0, .int .i64 0] 40 bS #[.string ⟨#[115]⟩, .slice y1 6 y3, .slice A k cap] 44 (FinL (some ⟨w.heap.size + 1, 0, none⟩, 1, 1) (p1, 32, p3) (g1, 12, g3) (y1, 6, y3) noSV 32 12 6 0 m) wr) ∧ Hid (OwnL 46 5 eEdit wr h4 (.slice A k cap) (Rs.edisL k))) (fun vi _ => 48 - (intOf vi).toNat)
              case atStart => exact ⟨0, none, 0, rfl, by omega, HK4, Lib.hid (OwnL.nil_ _ _)⟩
              case round =>
                clear HK4
                obtain ⟨k, A, cap, rfl, hk4, HK, OE⟩ := hrel
                have hle := HK.out.le
                by_cases hlt : k < 48
                · have hlen := len0 (Rs.len_edis k) (by omega)
                  have q0 : wr.cell? ⟨bS, 2, none⟩ = some (.slice A k cap) := HK.out.k3.cell rfl
                  go_wp2_with (at_builtin; go_loud (refine wp_append_one kEdi _ rfl _ _ rfl h4 _ (Rs.edisL k) rfl (OwnL.alloc OE.out _) wr.heap.size (Rs.ediL k) rfl (one_new (blk_now rfl) (tedi_vals k)) hlen (by simp; omega) ?_; intro gg cap' w3 hO3 hB3 hg3 hgo3 _; rw [Rs.len_edis, ← edis_succ] at hO3; rw [Rs.len_edis]; have FK := (HK.out.alloc (fmv (some ⟨w.heap.size + 1, 0, none⟩, 1, 1) (p1, 32, p3) (g1, 12, g3) (y1, 6, y3) noSV 32 12 6 0 m) _).row (fmv (some ⟨w.heap.size + 1, 0, none⟩, 1, 1) (p1, 32, p3) (g1, 12, g3) (y1, 6, y3) noSV 32 12 6 0 m) hB3; have z1 : w3.cell? ⟨bS, 2, none⟩ = some (.slice A k cap) := FK.k3.cell rfl; have z2 := FK.k3.free 2; have HFK := Lib.hid FK; have HO3 := Lib.hid hO3; clear FK hO3 hB3 hg3 hgo3 q0))
                  have F1 := Lib.hid (show BS w h4 w.heap.size (cfgA (some ⟨w.heap.size + 1, 0, none⟩, 1, 1) (p1, 32, p3) noSV noSV) bL #[.string nb, .int .i64 0, .int .i64 1, .int .i64 0, .int .i64 0, .int .i64 400, .slice g1 12 g3, .slice none 0 0, .int .i64 0, .int .i64 0] 40 bS #[.string ⟨#[115]⟩, .slice y1 6 y3, .slice (some ⟨gg, 0, none⟩) (k + 1) cap'] 44 (FinL (some ⟨w.heap.size + 1, 0, none⟩, 1, 1) (p1, 32, p3) (g1, 12, g3) (y1, 6, y3) noSV 32 12 6 0 m) (w3.setCell ⟨bS, 2, none⟩ (.slice (some ⟨gg, 0, none⟩) (k + 1) cap')) from HFK.out.set (fmv (some ⟨w.heap.size + 1, 0, none⟩, 1, 1) (p1, 32, p3) (g1, 12, g3) (y1, 6, y3) noSV 32 12 6 0 m) bS 2 _ (.inr (.inr rfl)) (.inr ⟨by omega, rfl⟩) (.inr ⟨by omega, rfl⟩) (.inl ⟨rfl, rfl⟩))
                  have F2 := Lib.hid (HO3.out.grown (grown_set w3 bS 2 (.slice (some ⟨gg, 0, none⟩) (k + 1) cap')) (by omega))
                  clear HFK HO3 HK OE
                  go_wp2_with fail
                  refine ⟨?_, ?_⟩
                  · (repeat apply Exists.intro)
                    refine ⟨?_, rfl⟩
                    exact ⟨k + 1, some ⟨gg, 0, none⟩, cap', by go_num, by omega, F1, F2⟩
                  · simp [intOf]; omega
                · obtain rfl : k = 48 := by omega
                  obtain ⟨e1, rfl⟩ : ∃ p, p = A := ⟨_, rfl⟩
                  obtain ⟨e3, rfl⟩ : ∃ p, p = cap := ⟨_, rfl⟩
                  obtain ⟨h5, hh5⟩ : ∃ b, wr.heap.size = b := ⟨_, rfl⟩
                  rw [hh5] at hle
                  have smv := sx_mv (w := w) (W := wr) (W' := wr) (hi := h4) (hi' := h5) (b1 := w.heap.size) (b2 := bL) (b3 := bS) (b1' := w.heap.size) (b2' := bL) (b3' := bS) (Below.refl _ _) hle (fun b _ e => .inl e) (fun b _ e => .inr (.inl e)) (fun b _ e => .inr (.inr e))
                  have hfin := fmv (some ⟨w.heap.size + 1, 0, none⟩, 1, 1) (p1, 32, p3) (g1, 12, g3) (y1, 6, y3) noSV 32 12 6 0 m _ _ _ _ smv HK.out.fin
                  have hrow := OwnL.lt_rng OE.out
                  have HK5 := Lib.hid (show BS w h5 w.heap.size (cfgA (some ⟨w.heap.size + 1, 0, none⟩, 1, 1) (p1, 32, p3) noSV noSV) bL #[.string nb, .int .i64 0, .int .i64 1, .int .i64 0, .int .i64 0, .int .i64 400, .slice g1 12 g3, .slice none 0 0, .int .i64 0, .int .i64 0] 40 bS #[.string ⟨#[115]⟩, .slice y1 6 y3, .slice e1 48 e3] 44 (FinL (some ⟨w.heap.size + 1, 0, none⟩, 1, 1) (p1, 32, p3) (g1, 12, g3) (y1, 6, y3) (e1, 48, e3) 32 12 6 48 m) wr from ⟨HK.out.base, HK.out.k1, HK.out.k2, HK.out.k3, ⟨by omega, by omega⟩, ⟨by omega, by omega⟩, ⟨by omega, by omega⟩, by omega, ⟨hfin.zones, hfin.people, hfin.mem, hfin.lays, (OwnL.lins (v := (e1, 48, e3)) OE.out (S := Sx w h5 w.heap.size bL bS) (fun q hq hB => by have := hrow q hq; exact ⟨by omega, by omega, by omega, by omega, by omega⟩) (by rw [Rs.len_edis]; omega)).1⟩⟩)
                  have h5b : h4 ≤ h5 := hle
                  clear smv hfin hrow HK OE hh5 hle
                  go_wp2_with fail
                  go_loopw [11] (fun vi wr => ∃ (k : Nat) (A : Option Addr) (cap : Nat) (n2 : ByteArray), vi = .int .i64 k ∧ k ≤ 12 ∧ Hid (BS w h5 w.heap.size (cfgA (some ⟨w.heap.size + 1, 0, none⟩, 1, 1) (p1, 32, p3) noSV (A, k, cap)) bL #[.string nb, .int .i64 0, .int .i64 1, .int .i64 0, .int .i64 0, .int .i64 400, .slice g1 12 g3, .slice none 0 0, .int .i64 0, .int .i64 0] 40 bS #[.string n2, .slice y1 6 y3, .slice e1 48 e3] 44 (FinL (some ⟨w.heap.size + 1, 0, none⟩, 1, 1) (p1, 32, p3) (g1, 12, g3) (y1, 6, y3) (e1, 48, e3) 32 12 6 48 m) wr) ∧ Hid (OwnL 44 3 eSch wr h5 (.slice A k cap) (SLs m (y1, 6, y3) (e1, 48, e3) k))) (fun vi _ => 12 - (intOf vi).toNat)
                  case atStart => exact ⟨0, none, 0, _, rfl, by omega, HK5, Lib.hid (OwnL.nil_ _ _)⟩
                  case round =>
                    clear HK5
                    obtain ⟨k, A, cap, n2, rfl, hk5, HK, OE⟩ := hrel
                    by_cases hlt : k < 12
                    · have hlen := len0 (SLs_len m (y1, 6, y3) (e1, 48, e3) k) (by omega)
                      go_wp2_with fail
                      refine (nmL_any k (by omega) _).mono ?_
                      rintro e w2 ⟨rfl, hb2⟩
                      have HKa := Lib.hid (HK.out.below (fmv (some ⟨w.heap.size + 1, 0, none⟩, 1, 1) (p1, 32, p3) (g1, 12, g3) (y1, 6, y3) (e1, 48, e3) 32 12 6 48 m) hb2)
                      have OEa := Lib.hid (OE.out.below hb2)
                      have q0 : w2.cell? ⟨bS, 0, none⟩ = some (.string n2) := HKa.out.k3.cell rfl
                      have q1 := HKa.out.k3.free 0
                      have HKb := Lib.hid (show BS w h5 w.heap.size (cfgA (some ⟨w.heap.size + 1, 0, none⟩, 1, 1) (p1, 32, p3) noSV (A, k, cap)) bL #[.string nb, .int .i64 0, .int .i64 1, .int .i64 0, .int .i64 0, .int .i64 400, .slice g1 12 g3, .slice none 0 0, .int .i64 0, .int .i64 0] 40 bS #[.string ⟨(Rs.nmL k).toArray⟩, .slice y1 6 y3, .slice e1 48 e3] 44 (FinL (some ⟨w.heap.size + 1, 0, none⟩, 1, 1) (p1, 32, p3) (g1, 12, g3) (y1, 6, y3) (e1, 48, e3) 32 12 6 48 m) (w2.setCell ⟨bS, 0, none⟩ (.string ⟨(Rs.nmL k).toArray⟩)) from HKa.out.set (fmv (some ⟨w.heap.size + 1, 0, none⟩, 1, 1) (p1, 32, p3) (g1, 12, g3) (y1, 6, y3) (e1, 48, e3) 32 12 6 48 m) bS 0 _ (.inr (.inr rfl)) (.inr ⟨by omega, rfl⟩) (.inr ⟨by omega, rfl⟩) (.inl ⟨rfl, rfl⟩))
                      have OEb := Lib.hid (OEa.out.grown (grown_set w2 bS 0 (.string ⟨(Rs.nmL k).toArray⟩)) (by omega))
                      have hle := HKb.out.le
                      have z0 := HKb.out.k3.cell (i := 0) rfl
                      have z1 := HKb.out.k3.cell (i := 1) rfl
                      have z2 := HKb.out.k3.cell (i := 2) rfl
                      have y0 : (w2.setCell ⟨bS, 0, none⟩ (.string ⟨(Rs.nmL k).toArray⟩)).cell? ⟨w.heap.size, 3, none⟩ = some (.slice A k cap) := HKb.out.k1.cell rfl
                      clear hb2 HK OE HKa OEa
                      go_wp2_with (at_builtin; go_loud (refine wp_append_one kSch _ rfl _ _ rfl h5 _ (SLs m (y1, 6, y3) (e1, 48, e3) k) rfl (OwnL.alloc OEb.out _) w2.heap.size (Rs.schL m k, ((y1, 6, y3), (e1, 48, e3))) rfl (one_new (blk_now (by simp)) (tsch_vals m k y1 y3 e1 e3)) hlen (by simp at hle ⊢; omega) ?_; intro gg cap' w3 hO3 hB3 hg3 hgo3 _; rw [SLs_len, ← SLs_succ] at hO3; rw [SLs_len]; have FK := (HKb.out.alloc (fmv (some ⟨w.heap.size + 1, 0, none⟩, 1, 1) (p1, 32, p3) (g1, 12, g3) (y1, 6, y3) (e1, 48, e3) 32 12 6 48 m) _).row (fmv (some ⟨w.heap.size + 1, 0, none⟩, 1, 1) (p1, 32, p3) (g1, 12, g3) (y1, 6, y3) (e1, 48, e3) 32 12 6 48 m) hB3; have x1 : w3.cell? ⟨w.heap.size, 3, none⟩ = some (.slice A k cap) := FK.k1.cell rfl; have x2 := FK.k1.free 3; have HFK := Lib.hid FK; have HO3 := Lib.hid hO3; clear FK hO3 hB3 hg3 hgo3 q0 q1 z0 z1 z2 y0))
                      have F1 := Lib.hid (show BS w h5 w.heap.size (cfgA (some ⟨w.heap.size + 1, 0, none⟩, 1, 1) (p1, 32, p3) noSV (some ⟨gg, 0, none⟩, k + 1, cap')) bL #[.string nb, .int .i64 0, .int .i64 1, .int .i64 0, .int .i64 0, .int .i64 400, .slice g1 12 g3, .slice none 0 0, .int .i64 0, .int .i64 0] 40 bS #[.string ⟨(Rs.nmL k).toArray⟩, .slice y1 6 y3, .slice e1 48 e3] 44 (FinL (some ⟨w.heap.size + 1, 0, none⟩, 1, 1) (p1, 32, p3) (g1, 12, g3) (y1, 6, y3) (e1, 48, e3) 32 12 6 48 m) (w3.setCell ⟨w.heap.size, 3, none⟩ (.slice (some ⟨gg, 0, none⟩) (k + 1) cap')) from HFK.out.set (fmv (some ⟨w.heap.size + 1, 0, none⟩, 1, 1) (p1, 32, p3) (g1, 12, g3) (y1, 6, y3) (e1, 48, e3) 32 12 6 48 m) w.heap.size 3 _ (.inl rfl) (.inl ⟨rfl, rfl⟩) (.inr ⟨by omega, rfl⟩) (.inr ⟨by omega, rfl⟩))
                      have F2 := Lib.hid (HO3.out.grown (grown_set w3 w.heap.size 3 (.slice (some ⟨gg, 0, none⟩) (k + 1) cap')) (by omega))
                      clear HFK HO3 HKb OEb
                      go_wp2_with fail
                      refine ⟨?_, ?_⟩
                      · (repeat apply Exists.intro)
                        refine ⟨?_, rfl⟩
                        exact ⟨k + 1, some ⟨gg, 0, none⟩, cap', _, by go_num, by omega, F1, F2⟩
                      · simp [intOf]; omega
                    · obtain rfl : k = 12 := by omega
                      obtain ⟨s1, rfl⟩ : ∃ p, p = A := ⟨_, rfl⟩
                      obtain ⟨s3, rfl⟩ : ∃ p, p = cap := ⟨_, rfl⟩
                      have mvt : Mv (Sx w h5 w.heap.size bL bS) wr (fun _ => True) wr := Mv.wider wr (fun b _ _ => trivial)
                      have hfin := fmv (some ⟨w.heap.size + 1, 0, none⟩, 1, 1) (p1, 32, p3) (g1, 12, g3) (y1, 6, y3) (e1, 48, e3) 32 12 6 48 m _ _ _ _ mvt HK.out.fin
                      have hsch : NestS 3 eSch SchS (fun _ => True) wr (s1, 12, s3) (Rs.cfgL m).scheds := ⟨SLs m (y1, 6, y3) (e1, 48, e3) 12, SLs_fst _ _ _ _, (OwnL.lins (v := (s1, 12, s3)) OE.out (S := fun _ => True) (fun q hq hB => trivial) (by rw [SLs_len]; omega)).1, fun x hx => by
                        obtain ⟨i, -, rfl⟩ := List.mem_map.1 hx
                        exact ⟨hfin.lays, hfin.edits, fun z hz => by
                          obtain ⟨j, hj, rfl⟩ := List.mem_map.1 hz
                          have := List.mem_range.1 hj
                          unfold I64 Rs.ediL
                          simp only
                          omega⟩⟩
                      have HCF := Lib.hid (show CfgAt 0 wr.heap.size wr (some ⟨w.heap.size + 1, 0, none⟩, 1, 1) (p1, 32, p3) noSV (s1, 12, s3) (Rs.cfgL m) from cfg_of (C := Rs.cfgL m) (S := fun _ => True) ⟨hfin.zones, hfin.people, NestS.nil_ _ _⟩ hsch (fun b _ => Nat.zero_le b))
                      have c0 : wr.cell? ⟨w.heap.size, 0, none⟩ = some (.slice (some ⟨w.heap.size + 1, 0, none⟩) 1 1) := HK.out.k1.cell rfl
                      have c1 : wr.cell? ⟨w.heap.size, 1, none⟩ = some (.slice p1 32 p3) := HK.out.k1.cell rfl
                      have c2 : wr.cell? ⟨w.heap.size, 2, none⟩ = some (.slice none 0 0) := HK.out.k1.cell rfl
                      have c3 : wr.cell? ⟨w.heap.size, 3, none⟩ = some (.slice s1 12 s3) := HK.out.k1.cell rfl
                      have HT5 := Lib.hid (HT.out.below HK.out.base)
                      have HCH := Lib.hid (check_cfg (Rs.chk_lim HMM.out.1 HMM.out.2) (some ⟨w.heap.size + 1, 0, none⟩) p1 none s1 1 1 32 p3 0 0 12 s3 _ HCF.out HT5.out.civ)
                      obtain ⟨zs, ps, ys, hcl⟩ := cl_of (mv := (g1, 12, g3)) HK.out.base HK.out.k1 HK.out.k2 hfin (OwnL.lins (v := (s1, 12, s3)) OE.out (S := TT) (fun q hq hB => trivial) (by rw [SLs_len]; omega)).1
                      have HCL := Lib.hid hcl
                      clear mvt hfin hsch hcl
                      go_wp2_with fail
                      refine HCH.out.mono ?_
                      rintro e wa0 ⟨rfl, bb3⟩
                      have H0 := Lib.hid (HCL.out.below bb3)
                      clear bb3 HCL HCH HCF HT5 HK OE c0 c1 c2 c3
                      have ⟨lz, lp, ly⟩ := cp_len H0.out
                      have c0 : wa0.cell? ⟨w.heap.size, 0, none⟩ = some (.slice (some ⟨w.heap.size + 1, 0, none⟩) 1 1) := H0.out.blk.cell rfl
                      have c1 : wa0.cell? ⟨w.heap.size, 1, none⟩ = some (.slice p1 32 p3) := H0.out.blk.cell rfl
                      have c2 : wa0.cell? ⟨w.heap.size, 2, none⟩ = some (.slice none 0 0) := H0.out.blk.cell rfl
                      have c3 : wa0.cell? ⟨w.heap.size, 3, none⟩ = some (.slice s1 12 s3) := H0.out.blk.cell rfl
                      go_wp2_with fail
                      refine H0.out.copy.mono ?_
                      rintro e wb0 ⟨ρ0, bo0, a1_0, b1_0, d1_0, r1_0, a2_0, a3_0, b2_0, b3_0, d2_0, d3_0, r2_0, r3_0, rfl, hC⟩
                      have HC := Lib.hid hC
                      clear hC c0 c1 c2 c3
                      go_upto_region 31 with fail
                      go_cut [] (fun wx => ∃ (gg cap : Nat), Hid (Below wa0.heap.size wa0 wx ∧ DoneC wb0.heap.size (a1_0, a2_0, a3_0) (some ⟨gg, 0, none⟩, 33, cap) (d1_0, d2_0, d3_0) (r1_0, r2_0, r3_0) (Rs.cfgX m) wx))
                      case first =>
                        have hlen : ps.length ≤ 900000 := by omega
                        have hle := HC.out.cx.le
                        go_wp2_with (at_builtin; go_loud (refine wp_append_one kPer _ rfl _ _ rfl (wa0.heap.size + 2) _ ps rfl (OwnL.alloc (own_x HC.out) _) (wb0.heap.size + 1) morP rfl (one_new (blk_now (by simp)) mor_pe) hlen (by simp; omega) ?_; intro gg cap w5 hO hB hg hgo _; rw [lp] at hO ⊢; have F := step_x H0.out HC.out hO hg hgo; have HF := Lib.hid (fin_x H0.out HC.out F); have x1 := HF.out.1.1; have x2 := HF.out.1.2; simp only [sv] at x1; clear hO hB hg hgo F))
                        go_wp2_with fail
                        go_meet
                        exact ⟨gg, cap, Lib.hid HF.out.2⟩
                      case rest =>
                        obtain ⟨gx, cx, HD⟩ := hcut
                        obtain ⟨wa1, rfl⟩ : ∃ wa1 : World, wa1 = wc := ⟨_, rfl⟩
                        have H1 := Lib.hid (H0.out.below HD.out.1)
                        have D0 := Lib.hid HD.out.2
                        clear HD HC H0
                        have c0 : wa1.cell? ⟨w.heap.size, 0, none⟩ = some (.slice (some ⟨w.heap.size + 1, 0, none⟩) 1 1) := H1.out.blk.cell rfl
                        have c1 : wa1.cell? ⟨w.heap.size, 1, none⟩ = some (.slice p1 32 p3) := H1.out.blk.cell rfl
                        have c2 : wa1.cell? ⟨w.heap.size, 2, none⟩ = some (.slice none 0 0) := H1.out.blk.cell rfl
                        have c3 : wa1.cell? ⟨w.heap.size, 3, none⟩ = some (.slice s1 12 s3) := H1.out.blk.cell rfl
                        go_wp2_with fail
                        refine H1.out.copy.mono ?_
                        rintro e wb1 ⟨ρ1, bo1, a1_1, b1_1, d1_1, r1_1, a2_1, a3_1, b2_1, b3_1, d2_1, d3_1, r2_1, r3_1, rfl, hC⟩
                        have HC := Lib.hid hC
                        clear hC c0 c1 c2 c3
                        go_upto_region 33 with fail
                        go_cut [] (fun wx => ∃ (gg cap : Nat), Hid (Below wa1.heap.size wa1 wx ∧ DoneC wb1.heap.size (a1_1, a2_1, a3_1) (b1_1, b2_1, b3_1) (d1_1, d2_1, d3_1) (some ⟨gg, 0, none⟩, 13, cap) (Rs.cfgY m) wx))
                        case first =>
                          have hcl : (cpL ρ1 (xsL m (y1, 6, y3) (e1, 48, e3) ys) 12).length = 12 := cpL12_len
                          have hlen : (cpL ρ1 (xsL m (y1, 6, y3) (e1, 48, e3) ys) 12).length ≤ 900000 := by omega
                          have hle := HC.out.cx.le
                          go_wp2_with (at_builtin; go_loud (refine wp_append_one kSch _ rfl _ _ rfl (wa1.heap.size + 2) _ (cpL ρ1 (xsL m (y1, 6, y3) (e1, 48, e3) ys) 12) rfl (OwnL.alloc (own_y HC.out) _) (wb1.heap.size + 1) morS rfl (one_new (blk_now (by simp)) mor_sc) hlen (by simp; omega) ?_; intro gg cap w5 hO hB hg hgo _; rw [hcl] at hO ⊢; have F := step_y HC.out hO hg hgo; have HF := Lib.hid (fin_y H1.out HC.out F); have x1 := HF.out.1.1; have x2 := HF.out.1.2; simp only [sv] at x1; clear hO hB hg hgo F))
                          go_wp2_with fail
                          go_meet
                          exact ⟨gg, cap, Lib.hid HF.out.2⟩
                        case rest =>
                          obtain ⟨gy, cy, HD⟩ := hcut
                          obtain ⟨wa2, rfl⟩ : ∃ wa2 : World, wa2 = wc := ⟨_, rfl⟩
                          have H2 := Lib.hid (H1.out.below HD.out.1)
                          have D0b := Lib.hid (D0.out.below HD.out.1)
                          have D1 := Lib.hid HD.out.2
                          clear HD HC H1 D0
                          have c0 : wa2.cell? ⟨w.heap.size, 0, none⟩ = some (.slice (some ⟨w.heap.size + 1, 0, none⟩) 1 1) := H2.out.blk.cell rfl
                          have c1 : wa2.cell? ⟨w.heap.size, 1, none⟩ = some (.slice p1 32 p3) := H2.out.blk.cell rfl
                          have c2 : wa2.cell? ⟨w.heap.size, 2, none⟩ = some (.slice none 0 0) := H2.out.blk.cell rfl
                          have c3 : wa2.cell? ⟨w.heap.size, 3, none⟩ = some (.slice s1 12 s3) := H2.out.blk.cell rfl
                          go_wp2_with fail
                          refine H2.out.copy.mono ?_
                          rintro e wb2 ⟨ρ2, bo2, a1_2, b1_2, d1_2, r1_2, a2_2, a3_2, b2_2, b3_2, d2_2, d3_2, r2_2, r3_2, rfl, hC⟩
                          have HC := Lib.hid hC
                          clear hC c0 c1 c2 c3
                          obtain ⟨⟨gs2, rc2, hr⟩, hf⟩ := HC.out.forms H2.out
                          cases hr
                          obtain ⟨ge2, ce2, he⟩ := (hf 0 (by omega)).2
                          have HV := Lib.hid he
                          clear he hf
                          go_upto_region 35 with fail
                          go_cut [] (fun wx => ∃ (gg cap : Nat), Hid (Below wa2.heap.size wa2 wx ∧ DoneC wb2.heap.size (a1_2, a2_2, a3_2) (b1_2, b2_2, b3_2) (d1_2, d2_2, d3_2) (some ⟨gs2, 0, none⟩, 12, r3_2) (Rs.cfgT m 0 (Rs.schZ m)) wx))
                          case first =>
                            refine AnyZ.start 12 (A := fun W => Hid (CX wa2 (wa2.heap.size + 2) (upd ρ2 (.ru 1) (xR (a1_2, a2_2, a3_2) (b1_2, b2_2, b3_2) (d1_2, d2_2, d3_2) (some ⟨gs2, 0, none⟩, 12, r3_2) wb2.heap.size)) W)) (S := fun W => W.cell? ⟨wb2.heap.size, 3, none⟩ = some (.slice (some ⟨gs2, 0, none⟩) 12 r3_2) ∧ W.cell? ⟨gs2, 2, none⟩ = some (.slice (some ⟨ge2, 0, none⟩) 48 ce2)) (by kernel_rfl) (Lib.hid (HC.out.x.drew)) ⟨x_x (HC.out.x.drew), (z_cell (i := 0) HC.out (by omega) rfl HV.out (HC.out.x.drew)).2⟩ (fun Wa hA hH => ?_)
                            have HX := hA
                            clear hA
                            refine AnyZ.take [12] (i := 0) (oi := ⟨some 111, .fieldAddr 27 (.tmp 14) 3, 0, "law.go:121", #[], none⟩) (v := ?_) rfl (by kernel_rfl) (by kernel_rfl) (by kernel_rfl) (by kernel_rfl) (fun _ _ _ h => h) (Or.inl ⟨by rfl, ?_⟩) hH ?_
                            rotate_left
                            focus (intro w hSw; (try dsimp only at hSw); go_simp; (try with_reducible rfl); done)
                            try simp only [Act.put, List.setIfInBounds_toArray, List.set_cons_zero, List.set_cons_succ]
                            refine AnyZ.take [12] (i := 1) (oi := ⟨some 112, .load 25 (.tmp 111), 25, "law.go:121", #[⟨0, .data⟩], none⟩) (v := ?_) rfl (by kernel_rfl) (by kernel_rfl) (by kernel_rfl) (by kernel_rfl) (fun _ _ _ h => h) (Or.inl ⟨by rfl, ?_⟩) hH ?_
                            rotate_left
                            focus (intro w hSw; (try dsimp only at hSw); go_simp; (try with_reducible rfl); done)
                            try simp only [Act.put, List.setIfInBounds_toArray, List.set_cons_zero, List.set_cons_succ]
                            refine AnyZ.take [12] (i := 2) (oi := ⟨some 113, .fieldAddr 27 (.tmp 14) 3, 0, "law.go:121", #[], none⟩) (v := ?_) rfl (by kernel_rfl) (by kernel_rfl) (by kernel_rfl) (by kernel_rfl) (fun _ _ _ h => h) (Or.inl ⟨by rfl, ?_⟩) hH ?_
                            rotate_left
                            focus (intro w hSw; (try dsimp only at hSw); go_simp; (try with_reducible rfl); done)
                            try simp only [Act.put, List.setIfInBounds_toArray, List.set_cons_zero, List.set_cons_succ]
                            refine AnyZ.take [12] (i := 3) (oi := ⟨some 114, .load 25 (.tmp 113), 25, "law.go:121", #[⟨2, .data⟩], none⟩) (v := ?_) rfl (by kernel_rfl) (by kernel_rfl) (by kernel_rfl) (by kernel_rfl) (fun _ _ _ h => h) (Or.inl ⟨by rfl, ?_⟩) hH ?_
                            rotate_left
                            focus (intro w hSw; (try dsimp only at hSw); go_simp; (try with_reducible rfl); done)
                            try simp only [Act.put, List.setIfInBounds_toArray, List.set_cons_zero, List.set_cons_succ]
                            refine AnyZ.take [12] (i := 4) (oi := ⟨some 115, .indexAddr 25 (.tmp 114) (.const (.int .i64 0)), 0, "law.go:121", #[⟨3, .data⟩], none⟩) (v := ?_) rfl (by kernel_rfl) (by kernel_rfl) (by kernel_rfl) (by kernel_rfl) (fun _ _ _ h => h) (Or.inl ⟨by rfl, ?_⟩) hH ?_
                            rotate_left
                            focus (intro w hSw; (try dsimp only at hSw); go_simp; (try with_reducible rfl); done)
                            try simp only [Act.put, List.setIfInBounds_toArray, List.set_cons_zero, List.set_cons_succ]
                            refine AnyZ.take [12] (i := 5) (oi := ⟨some 116, .fieldAddr 44 (.tmp 115) 2, 0, "law.go:121", #[⟨4, .data⟩], none⟩) (v := ?_) rfl (by kernel_rfl) (by kernel_rfl) (by kernel_rfl) (by kernel_rfl) (fun _ _ _ h => h) (Or.inl ⟨by rfl, ?_⟩) hH ?_
                            rotate_left
                            focus (intro w hSw; (try dsimp only at hSw); go_simp; (try with_reducible rfl); done)
                            try simp only [Act.put, List.setIfInBounds_toArray, List.set_cons_zero, List.set_cons_succ]
                            refine AnyZ.take [12] (i := 6) (oi := ⟨some 117, .load 42 (.tmp 116), 42, "law.go:121", #[⟨5, .data⟩], none⟩) (v := ?_) rfl (by kernel_rfl) (by kernel_rfl) (by kernel_rfl) (by kernel_rfl) (fun _ _ _ h => h) (Or.inl ⟨by rfl, ?_⟩) hH ?_
                            rotate_left
                            focus (intro w hSw; (try dsimp only at hSw); go_simp; (try with_reducible rfl); done)
                            try simp only [Act.put, List.setIfInBounds_toArray, List.set_cons_zero, List.set_cons_succ]
                            refine AnyZ.take [12] (i := 7) (oi := ⟨some 118, .build 46 #[(4, .const (.int .i64 1))], 46, "law.go:121", #[], none⟩) (v := ?_) rfl (by kernel_rfl) (by kernel_rfl) (by kernel_rfl) (by kernel_rfl) (fun _ _ _ h => h) (Or.inl ⟨by rfl, ?_⟩) hH ?_
                            rotate_left
                            focus (intro w hSw; (try dsimp only at hSw); go_simp; (try with_reducible rfl); done)
                            try simp only [Act.put, List.setIfInBounds_toArray, List.set_cons_zero, List.set_cons_succ]
                            refine AnyZ.ready (rs := [8]) (by kernel_rfl) (by simp) ?_
                            refine AllZ.cons (o := ⟨some 119, .buildSlice 42 1 #[(0, .tmp 118)], 42, "law.go:121", #[⟨7, .data⟩], none⟩) rfl (fun K hK => ?_) AllZ.nil
                            go_simp
                            refine AnyZ.go hK (A := fun W => Hid (CX wa2 (wa2.heap.size + 2) (upd ρ2 (.ru 1) (xR (a1_2, a2_2, a3_2) (b1_2, b2_2, b3_2) (d1_2, d2_2, d3_2) (some ⟨gs2, 0, none⟩, 12, r3_2) wb2.heap.size)) W) ∧ Hid (BlkAt W Wa.heap.size #[.int .i64 0, .int .i64 0, .int .i64 0, .int .i64 0, .int .i64 1] 46)) (S' := fun W => W.cell? ⟨wb2.heap.size, 3, none⟩ = some (.slice (some ⟨gs2, 0, none⟩) 12 r3_2) ∧ W.cell? ⟨gs2, 2, none⟩ = some (.slice (some ⟨ge2, 0, none⟩) 48 ce2)) (fun _ h => h) ⟨Lib.hid ((HX.out).below ((Below.refl _ _).alloc (Nat.le_refl _) _)), Lib.hid ((blk_now rfl))⟩ ⟨x_x ((HX.out).below ((Below.refl _ _).alloc (Nat.le_refl _) _)), (z_cell (i := 0) HC.out (by omega) rfl HV.out ((HX.out).below ((Below.refl _ _).alloc (Nat.le_refl _) _))).2⟩ (fun W1 hA hH2 => ?_)
                            clear hK K hH HX
                            obtain ⟨HX, EB⟩ := hA
                            have hH := hH2
                            clear hH2
                            try simp only [Act.put, List.setIfInBounds_toArray, List.set_cons_zero, List.set_cons_succ]
                            refine AnyZ.ready (rs := [9]) (by kernel_rfl) (by simp) ?_
                            refine AllZ.cons (o := ⟨some 120, .call { callee := .builtin .append, args := #[.tmp 117, .tmp 119], argTypes := #[42, 42] }, 42, "law.go:121", #[⟨6, .data⟩, ⟨8, .data⟩], none⟩) rfl (fun K hK => ?_) AllZ.nil
                            (refine step_append_row kEdi _ (by rfl) (.tmp 117) (.tmp 119) (by rfl) (wa2.heap.size + 2) (.slice (some ⟨ge2, 0, none⟩) 48 ce2) (Rs.edisL 48) (by rfl) (by have hh := own_z HC.out HX.out; rw [HV.out] at hh; exact hh) Wa.heap.size morE (by rfl) (one_new EB.out mor_ed) (by rw [Rs.len_edis]; omega) HX.out.le ?_; intro gg cap wq hO hg hgo hlt)
                            rw [Rs.len_edis] at hO ⊢
                            refine AnyZ.go hK (A := fun W => Hid (CX wa2 (wa2.heap.size + 2) (upd (upd ρ2 (.ru 1) (xR (a1_2, a2_2, a3_2) (b1_2, b2_2, b3_2) (d1_2, d2_2, d3_2) (some ⟨gs2, 0, none⟩, 12, r3_2) wb2.heap.size)) (.ed 0) (rowZ gg cap)) W)) (S' := fun W => W.cell? ⟨wb2.heap.size, 3, none⟩ = some (.slice (some ⟨gs2, 0, none⟩) 12 r3_2) ∧ W.cell? ⟨gs2, 2, none⟩ = some (.slice (some ⟨ge2, 0, none⟩) 48 ce2)) (fun _ h => h) (Lib.hid (step_z HC.out HV.out HX.out hO hg hgo)) ⟨z_x (step_z HC.out HV.out HX.out hO hg hgo), z_sc H2.out HC.out HV.out (step_z HC.out HV.out HX.out hO hg hgo)⟩ (fun W2 hA hH2 => ?_)
                            clear hK K hH HX EB
                            have HX := hA
                            clear hA
                            have hH := hH2
                            clear hH2
                            clear hO hg hgo hlt
                            try simp only [Act.put, List.setIfInBounds_toArray, List.set_cons_zero, List.set_cons_succ]
                            refine AnyZ.take [11, 12] (i := 10) (oi := ⟨some 121, .indexAddr 25 (.tmp 112) (.const (.int .i64 0)), 0, "law.go:121", #[⟨1, .data⟩, ⟨0, .phase⟩, ⟨1, .phase⟩, ⟨2, .phase⟩, ⟨3, .phase⟩, ⟨4, .phase⟩, ⟨5, .phase⟩, ⟨6, .phase⟩, ⟨7, .phase⟩, ⟨8, .phase⟩, ⟨9, .phase⟩], none⟩) (v := ?_) rfl (by kernel_rfl) (by kernel_rfl) (by kernel_rfl) (by kernel_rfl) (fun _ _ _ h => h) (Or.inl ⟨by rfl, ?_⟩) hH ?_
                            rotate_left
                            focus (intro w hSw; (try dsimp only at hSw); go_simp; (try with_reducible rfl); done)
                            try simp only [Act.put, List.setIfInBounds_toArray, List.set_cons_zero, List.set_cons_succ]
                            refine AnyZ.take [12] (i := 11) (oi := ⟨some 122, .fieldAddr 44 (.tmp 121) 2, 0, "law.go:121", #[⟨10, .data⟩, ⟨0, .phase⟩, ⟨1, .phase⟩, ⟨2, .phase⟩, ⟨3, .phase⟩, ⟨4, .phase⟩, ⟨5, .phase⟩, ⟨6, .phase⟩, ⟨7, .phase⟩, ⟨8, .phase⟩, ⟨9, .phase⟩], none⟩) (v := ?_) rfl (by kernel_rfl) (by kernel_rfl) (by kernel_rfl) (by kernel_rfl) (fun _ _ _ h => h) (Or.inl ⟨by rfl, ?_⟩) hH ?_
                            rotate_left
                            focus (intro w hSw; (try dsimp only at hSw); go_simp; (try with_reducible rfl); done)
                            try simp only [Act.put, List.setIfInBounds_toArray, List.set_cons_zero, List.set_cons_succ]
                            refine AnyZ.last (o := ⟨none, .store 42 (.tmp 122) (.tmp 120), 0, "law.go:121", #[⟨11, .data⟩, ⟨9, .data⟩, ⟨9, .chain⟩, ⟨0, .phase⟩, ⟨1, .phase⟩, ⟨2, .phase⟩, ⟨3, .phase⟩, ⟨4, .phase⟩, ⟨5, .phase⟩, ⟨6, .phase⟩, ⟨7, .phase⟩, ⟨8, .phase⟩, ⟨9, .phase⟩], none⟩) (by kernel_rfl) rfl (fun K hK => ?_)
                            have y1 : W2.cell? ⟨gs2, 2, none⟩ = some (.slice (some ⟨ge2, 0, none⟩) 48 ce2) := z_sc H2.out HC.out HV.out HX.out
                            have y2 := (fin_z H2.out HC.out HX.out).1.2
                            go_simp
                            refine hK.out _ _ ?_
                            clear hK K hH
                            try simp only [Act.put, List.setIfInBounds_toArray, List.set_cons_zero, List.set_cons_succ]
                            refine AnyZ.done (by kernel_rfl) ?_ _
                            clear y1 y2
                            go_wp2_with fail
                            go_meet
                            exact ⟨gg, cap, Lib.hid (fin_z H2.out HC.out HX.out).2⟩
                          case rest =>
                            obtain ⟨gz, cz, HD⟩ := hcut
                            obtain ⟨wa3, rfl⟩ : ∃ wa3 : World, wa3 = wc := ⟨_, rfl⟩
                            have H3 := Lib.hid (H2.out.below HD.out.1)
                            have D0b' := Lib.hid (D0b.out.below HD.out.1)
                            have D1' := Lib.hid (D1.out.below HD.out.1)
                            have D2 := Lib.hid HD.out.2
                            clear HD HC HV H2 D0b D1
                            have c0 : wa3.cell? ⟨w.heap.size, 0, none⟩ = some (.slice (some ⟨w.heap.size + 1, 0, none⟩) 1 1) := H3.out.blk.cell rfl
                            have c1 : wa3.cell? ⟨w.heap.size, 1, none⟩ = some (.slice p1 32 p3) := H3.out.blk.cell rfl
                            have c2 : wa3.cell? ⟨w.heap.size, 2, none⟩ = some (.slice none 0 0) := H3.out.blk.cell rfl
                            have c3 : wa3.cell? ⟨w.heap.size, 3, none⟩ = some (.slice s1 12 s3) := H3.out.blk.cell rfl
                            go_wp2_with fail
                            refine H3.out.copy.mono ?_
                            rintro e wb3 ⟨ρ3, bo3, a1_3, b1_3, d1_3, r1_3, a2_3, a3_3, b2_3, b3_3, d2_3, d3_3, r2_3, r3_3, rfl, hC⟩
                            have HC := Lib.hid hC
                            clear hC c0 c1 c2 c3
                            obtain ⟨⟨gs3, rc3, hr⟩, hf⟩ := HC.out.forms H3.out
                            cases hr
                            obtain ⟨ge3, ce3, he⟩ := (hf 0 (by omega)).1
                            have HV := Lib.hid he
                            clear he hf
                            go_upto_region 37 with fail
                            go_cut [] (fun wx => ∃ (gg cap : Nat), Hid (Below wa3.heap.size wa3 wx ∧ DoneC wb3.heap.size (a1_3, a2_3, a3_3) (b1_3, b2_3, b3_3) (d1_3, d2_3, d3_3) (some ⟨gs3, 0, none⟩, 12, r3_3) (Rs.cfgT m 0 (Rs.schU m nb.data.toList)) wx))
                            case first =>
                              refine AnyZ.start 12 (A := fun W => Hid (CX wa3 (wa3.heap.size + 2) (upd ρ3 (.ru 1) (xR (a1_3, a2_3, a3_3) (b1_3, b2_3, b3_3) (d1_3, d2_3, d3_3) (some ⟨gs3, 0, none⟩, 12, r3_3) wb3.heap.size)) W)) (S := fun W => W.cell? ⟨wb3.heap.size, 3, none⟩ = some (.slice (some ⟨gs3, 0, none⟩) 12 r3_3) ∧ W.cell? ⟨gs3, 1, none⟩ = some (.slice (some ⟨ge3, 0, none⟩) 6 ce3) ∧ W.cell? ⟨bL, 0, none⟩ = some (.string nb) ∧ W.cell? ⟨bL, 1, none⟩ = some (.int .i64 0) ∧ W.cell? ⟨bL, 2, none⟩ = some (.int .i64 1) ∧ W.cell? ⟨bL, 3, none⟩ = some (.int .i64 0) ∧ W.cell? ⟨bL, 4, none⟩ = some (.int .i64 0) ∧ W.cell? ⟨bL, 5, none⟩ = some (.int .i64 400) ∧ W.cell? ⟨bL, 6, none⟩ = some (.slice g1 12 g3) ∧ W.cell? ⟨bL, 7, none⟩ = some (.slice none 0 0) ∧ W.cell? ⟨bL, 8, none⟩ = some (.int .i64 0) ∧ W.cell? ⟨bL, 9, none⟩ = some (.int .i64 0)) (by kernel_rfl) (Lib.hid (HC.out.x.drew)) ⟨x_x (HC.out.x.drew), (z_cell (i := 0) HC.out (by omega) HV.out rfl (HC.out.x.drew)).1, (H3.out.below ((HC.out.x.drew)).base).lay.cell rfl, (H3.out.below ((HC.out.x.drew)).base).lay.cell rfl, (H3.out.below ((HC.out.x.drew)).base).lay.cell rfl, (H3.out.below ((HC.out.x.drew)).base).lay.cell rfl, (H3.out.below ((HC.out.x.drew)).base).lay.cell rfl, (H3.out.below ((HC.out.x.drew)).base).lay.cell rfl, (H3.out.below ((HC.out.x.drew)).base).lay.cell rfl, (H3.out.below ((HC.out.x.drew)).base).lay.cell rfl, (H3.out.below ((HC.out.x.drew)).base).lay.cell rfl, (H3.out.below ((HC.out.x.drew)).base).lay.cell rfl⟩ (fun Wa hA hH => ?_)
                              have HX := hA
                              clear hA
                              refine AnyZ.take [12] (i := 0) (oi := ⟨some 125, .fieldAddr 27 (.tmp 15) 3, 0, "law.go:123", #[], none⟩) (v := ?_) rfl (by kernel_rfl) (by kernel_rfl) (by kernel_rfl) (by kernel_rfl) (fun _ _ _ h => h) (Or.inl ⟨by rfl, ?_⟩) hH ?_
                              rotate_left
                              focus (intro w hSw; (try dsimp only at hSw); go_simp; (try with_reducible rfl); done)
                              try simp only [Act.put, List.setIfInBounds_toArray, List.set_cons_zero, List.set_cons_succ]
                              refine AnyZ.take [12] (i := 1) (oi := ⟨some 126, .load 25 (.tmp 125), 25, "law.go:123", #[⟨0, .data⟩], none⟩) (v := ?_) rfl (by kernel_rfl) (by kernel_rfl) (by kernel_rfl) (by kernel_rfl) (fun _ _ _ h => h) (Or.inl ⟨by rfl, ?_⟩) hH ?_
                              rotate_left
                              focus (intro w hSw; (try dsimp only at hSw); go_simp; (try with_reducible rfl); done)
                              try simp only [Act.put, List.setIfInBounds_toArray, List.set_cons_zero, List.set_cons_succ]
                              refine AnyZ.take [12] (i := 2) (oi := ⟨some 127, .fieldAddr 27 (.tmp 15) 3, 0, "law.go:123", #[], none⟩) (v := ?_) rfl (by kernel_rfl) (by kernel_rfl) (by kernel_rfl) (by kernel_rfl) (fun _ _ _ h => h) (Or.inl ⟨by rfl, ?_⟩) hH ?_
                              rotate_left
                              focus (intro w hSw; (try dsimp only at hSw); go_simp; (try with_reducible rfl); done)
                              try simp only [Act.put, List.setIfInBounds_toArray, List.set_cons_zero, List.set_cons_succ]
                              refine AnyZ.take [12] (i := 3) (oi := ⟨some 128, .load 25 (.tmp 127), 25, "law.go:123", #[⟨2, .data⟩], none⟩) (v := ?_) rfl (by kernel_rfl) (by kernel_rfl) (by kernel_rfl) (by kernel_rfl) (fun _ _ _ h => h) (Or.inl ⟨by rfl, ?_⟩) hH ?_
                              rotate_left
                              focus (intro w hSw; (try dsimp only at hSw); go_simp; (try with_reducible rfl); done)
                              try simp only [Act.put, List.setIfInBounds_toArray, List.set_cons_zero, List.set_cons_succ]
                              refine AnyZ.take [12] (i := 4) (oi := ⟨some 129, .indexAddr 25 (.tmp 128) (.const (.int .i64 0)), 0, "law.go:123", #[⟨3, .data⟩], none⟩) (v := ?_) rfl (by kernel_rfl) (by kernel_rfl) (by kernel_rfl) (by kernel_rfl) (fun _ _ _ h => h) (Or.inl ⟨by rfl, ?_⟩) hH ?_
                              rotate_left
                              focus (intro w hSw; (try dsimp only at hSw); go_simp; (try with_reducible rfl); done)
                              try simp only [Act.put, List.setIfInBounds_toArray, List.set_cons_zero, List.set_cons_succ]
                              refine AnyZ.take [12] (i := 5) (oi := ⟨some 130, .fieldAddr 44 (.tmp 129) 1, 0, "law.go:123", #[⟨4, .data⟩], none⟩) (v := ?_) rfl (by kernel_rfl) (by kernel_rfl) (by kernel_rfl) (by kernel_rfl) (fun _ _ _ h => h) (Or.inl ⟨by rfl, ?_⟩) hH ?_
                              rotate_left
                              focus (intro w hSw; (try dsimp only at hSw); go_simp; (try with_reducible rfl); done)
                              try simp only [Act.put, List.setIfInBounds_toArray, List.set_cons_zero, List.set_cons_succ]
                              refine AnyZ.take [12] (i := 6) (oi := ⟨some 131, .load 41 (.tmp 130), 41, "law.go:123", #[⟨5, .data⟩], none⟩) (v := ?_) rfl (by kernel_rfl) (by kernel_rfl) (by kernel_rfl) (by kernel_rfl) (fun _ _ _ h => h) (Or.inl ⟨by rfl, ?_⟩) hH ?_
                              rotate_left
                              focus (intro w hSw; (try dsimp only at hSw); go_simp; (try with_reducible rfl); done)
                              try simp only [Act.put, List.setIfInBounds_toArray, List.set_cons_zero, List.set_cons_succ]
                              refine AnyZ.take [12] (i := 7) (oi := ⟨some 132, .load 40 (.tmp 6), 40, "law.go:123", #[], none⟩) (v := ?_) rfl (by kernel_rfl) (by kernel_rfl) (by kernel_rfl) (by kernel_rfl) (fun _ _ _ h => h) (Or.inl ⟨by rfl, ?_⟩) hH ?_
                              rotate_left
                              focus (intro w hSw; (try dsimp only at hSw); go_simp; (try with_reducible rfl); done)
                              try simp only [Act.put, List.setIfInBounds_toArray, List.set_cons_zero, List.set_cons_succ]
                              refine AnyZ.ready (rs := [8]) (by kernel_rfl) (by simp) ?_
                              refine AllZ.cons (o := ⟨some 133, .buildSlice 41 1 #[(0, .tmp 132)], 41, "law.go:123", #[⟨7, .data⟩], none⟩) rfl (fun K hK => ?_) AllZ.nil
                              go_simp
                              refine AnyZ.go hK (A := fun W => Hid (CX wa3 (wa3.heap.size + 2) (upd ρ3 (.ru 1) (xR (a1_3, a2_3, a3_3) (b1_3, b2_3, b3_3) (d1_3, d2_3, d3_3) (some ⟨gs3, 0, none⟩, 12, r3_3) wb3.heap.size)) W) ∧ Hid (BlkAt W Wa.heap.size #[.string nb, .int .i64 0, .int .i64 1, .int .i64 0, .int .i64 0, .int .i64 400, .slice g1 12 g3, .slice none 0 0, .int .i64 0, .int .i64 0] 40)) (S' := fun W => W.cell? ⟨wb3.heap.size, 3, none⟩ = some (.slice (some ⟨gs3, 0, none⟩) 12 r3_3) ∧ W.cell? ⟨gs3, 1, none⟩ = some (.slice (some ⟨ge3, 0, none⟩) 6 ce3) ∧ W.cell? ⟨bL, 0, none⟩ = some (.string nb) ∧ W.cell? ⟨bL, 1, none⟩ = some (.int .i64 0) ∧ W.cell? ⟨bL, 2, none⟩ = some (.int .i64 1) ∧ W.cell? ⟨bL, 3, none⟩ = some (.int .i64 0) ∧ W.cell? ⟨bL, 4, none⟩ = some (.int .i64 0) ∧ W.cell? ⟨bL, 5, none⟩ = some (.int .i64 400) ∧ W.cell? ⟨bL, 6, none⟩ = some (.slice g1 12 g3) ∧ W.cell? ⟨bL, 7, none⟩ = some (.slice none 0 0) ∧ W.cell? ⟨bL, 8, none⟩ = some (.int .i64 0) ∧ W.cell? ⟨bL, 9, none⟩ = some (.int .i64 0)) (fun _ h => h) ⟨Lib.hid ((HX.out).below ((Below.refl _ _).alloc (Nat.le_refl _) _)), Lib.hid ((blk_now rfl))⟩ ⟨x_x ((HX.out).below ((Below.refl _ _).alloc (Nat.le_refl _) _)), (z_cell (i := 0) HC.out (by omega) HV.out rfl ((HX.out).below ((Below.refl _ _).alloc (Nat.le_refl _) _))).1, (H3.out.below (((HX.out).below ((Below.refl _ _).alloc (Nat.le_refl _) _))).base).lay.cell rfl, (H3.out.below (((HX.out).below ((Below.refl _ _).alloc (Nat.le_refl _) _))).base).lay.cell rfl, (H3.out.below (((HX.out).below ((Below.refl _ _).alloc (Nat.le_refl _) _))).base).lay.cell rfl, (H3.out.below (((HX.out).below ((Below.refl _ _).alloc (Nat.le_refl _) _))).base).lay.cell rfl, (H3.out.below (((HX.out).below ((Below.refl _ _).alloc (Nat.le_refl _) _))).base).lay.cell rfl, (H3.out.below (((HX.out).below ((Below.refl _ _).alloc (Nat.le_refl _) _))).base).lay.cell rfl, (H3.out.below (((HX.out).below ((Below.refl _ _).alloc (Nat.le_refl _) _))).base).lay.cell rfl, (H3.out.below (((HX.out).below ((Below.refl _ _).alloc (Nat.le_refl _) _))).base).lay.cell rfl, (H3.out.below (((HX.out).below ((Below.refl _ _).alloc (Nat.le_refl _) _))).base).lay.cell rfl, (H3.out.below (((HX.out).below ((Below.refl _ _).alloc (Nat.le_refl _) _))).base).lay.cell rfl⟩ (fun W1 hA hH2 => ?_)
                              clear hK K hH HX
                              obtain ⟨HX, EB⟩ := hA
                              have hH := hH2
                              clear hH2
                              try simp only [Act.put, List.setIfInBounds_toArray, List.set_cons_zero, List.set_cons_succ]
                              refine AnyZ.ready (rs := [9]) (by kernel_rfl) (by simp) ?_
                              refine AllZ.cons (o := ⟨some 134, .call { callee := .builtin .append, args := #[.tmp 131, .tmp 133], argTypes := #[41, 41] }, 41, "law.go:123", #[⟨6, .data⟩, ⟨8, .data⟩], none⟩) rfl (fun K hK => ?_) AllZ.nil
                              (refine step_append_row kLay _ (by rfl) (.tmp 131) (.tmp 133) (by rfl) (wa3.heap.size + 2) (.slice (some ⟨ge3, 0, none⟩) 6 ce3) ys (by rfl) (by have hh := own_u HC.out HX.out; rw [HV.out] at hh; exact hh) Wa.heap.size (Rs.layU m nb.data.toList, ((g1, 12, g3), noSV)) (by rfl) (one_new EB.out (mor_la m nb g1 g3)) (by omega) HX.out.le ?_; intro gg cap wq hO hg hgo hlt)
                              rw [ly] at hO ⊢
                              refine AnyZ.go hK (A := fun W => Hid (CX wa3 (wa3.heap.size + 2) (upd (upd ρ3 (.ru 1) (xR (a1_3, a2_3, a3_3) (b1_3, b2_3, b3_3) (d1_3, d2_3, d3_3) (some ⟨gs3, 0, none⟩, 12, r3_3) wb3.heap.size)) (.la 0) (rowU ys m nb.data.toList (g1, 12, g3) gg cap)) W)) (S' := fun W => W.cell? ⟨wb3.heap.size, 3, none⟩ = some (.slice (some ⟨gs3, 0, none⟩) 12 r3_3) ∧ W.cell? ⟨gs3, 1, none⟩ = some (.slice (some ⟨ge3, 0, none⟩) 6 ce3) ∧ W.cell? ⟨bL, 0, none⟩ = some (.string nb) ∧ W.cell? ⟨bL, 1, none⟩ = some (.int .i64 0) ∧ W.cell? ⟨bL, 2, none⟩ = some (.int .i64 1) ∧ W.cell? ⟨bL, 3, none⟩ = some (.int .i64 0) ∧ W.cell? ⟨bL, 4, none⟩ = some (.int .i64 0) ∧ W.cell? ⟨bL, 5, none⟩ = some (.int .i64 400) ∧ W.cell? ⟨bL, 6, none⟩ = some (.slice g1 12 g3) ∧ W.cell? ⟨bL, 7, none⟩ = some (.slice none 0 0) ∧ W.cell? ⟨bL, 8, none⟩ = some (.int .i64 0) ∧ W.cell? ⟨bL, 9, none⟩ = some (.int .i64 0)) (fun _ h => h) (Lib.hid (step_u ly HC.out HV.out HX.out hO hg hgo)) ⟨u_x (step_u ly HC.out HV.out HX.out hO hg hgo), u_sc H3.out HC.out HV.out (step_u ly HC.out HV.out HX.out hO hg hgo), (H3.out.below ((step_u ly HC.out HV.out HX.out hO hg hgo)).base).lay.cell rfl, (H3.out.below ((step_u ly HC.out HV.out HX.out hO hg hgo)).base).lay.cell rfl, (H3.out.below ((step_u ly HC.out HV.out HX.out hO hg hgo)).base).lay.cell rfl, (H3.out.below ((step_u ly HC.out HV.out HX.out hO hg hgo)).base).lay.cell rfl, (H3.out.below ((step_u ly HC.out HV.out HX.out hO hg hgo)).base).lay.cell rfl, (H3.out.below ((step_u ly HC.out HV.out HX.out hO hg hgo)).base).lay.cell rfl, (H3.out.below ((step_u ly HC.out HV.out HX.out hO hg hgo)).base).lay.cell rfl, (H3.out.below ((step_u ly HC.out HV.out HX.out hO hg hgo)).base).lay.cell rfl, (H3.out.below ((step_u ly HC.out HV.out HX.out hO hg hgo)).base).lay.cell rfl, (H3.out.below ((step_u ly HC.out HV.out HX.out hO hg hgo)).base).lay.cell rfl⟩ (fun W2 hA hH2 => ?_)
                              clear hK K hH HX EB
                              have HX := hA
                              clear hA
                              have hH := hH2
                              clear hH2
                              clear hO hg hgo hlt
                              try simp only [Act.put, List.setIfInBounds_toArray, List.set_cons_zero, List.set_cons_succ]
                              refine AnyZ.take [11, 12] (i := 10) (oi := ⟨some 135, .indexAddr 25 (.tmp 126) (.const (.int .i64 0)), 0, "law.go:123", #[⟨1, .data⟩, ⟨0, .phase⟩, ⟨1, .phase⟩, ⟨2, .phase⟩, ⟨3, .phase⟩, ⟨4, .phase⟩, ⟨5, .phase⟩, ⟨6, .phase⟩, ⟨7, .phase⟩, ⟨8, .phase⟩, ⟨9, .phase⟩], none⟩) (v := ?_) rfl (by kernel_rfl) (by kernel_rfl) (by kernel_rfl) (by kernel_rfl) (fun _ _ _ h => h) (Or.inl ⟨by rfl, ?_⟩) hH ?_
                              rotate_left
                              focus (intro w hSw; (try dsimp only at hSw); go_simp; (try with_reducible rfl); done)
                              try simp only [Act.put, List.setIfInBounds_toArray, List.set_cons_zero, List.set_cons_succ]
                              refine AnyZ.take [12] (i := 11) (oi := ⟨some 136, .fieldAddr 44 (.tmp 135) 1, 0, "law.go:123", #[⟨10, .data⟩, ⟨0, .phase⟩, ⟨1, .phase⟩, ⟨2, .phase⟩, ⟨3, .phase⟩, ⟨4, .phase⟩, ⟨5, .phase⟩, ⟨6, .phase⟩, ⟨7, .phase⟩, ⟨8, .phase⟩, ⟨9, .phase⟩], none⟩) (v := ?_) rfl (by kernel_rfl) (by kernel_rfl) (by kernel_rfl) (by kernel_rfl) (fun _ _ _ h => h) (Or.inl ⟨by rfl, ?_⟩) hH ?_
                              rotate_left
                              focus (intro w hSw; (try dsimp only at hSw); go_simp; (try with_reducible rfl); done)
                              try simp only [Act.put, List.setIfInBounds_toArray, List.set_cons_zero, List.set_cons_succ]
                              refine AnyZ.last (o := ⟨none, .store 41 (.tmp 136) (.tmp 134), 0, "law.go:123", #[⟨11, .data⟩, ⟨9, .data⟩, ⟨9, .chain⟩, ⟨0, .phase⟩, ⟨1, .phase⟩, ⟨2, .phase⟩, ⟨3, .phase⟩, ⟨4, .phase⟩, ⟨5, .phase⟩, ⟨6, .phase⟩, ⟨7, .phase⟩, ⟨8, .phase⟩, ⟨9, .phase⟩], none⟩) (by kernel_rfl) rfl (fun K hK => ?_)
                              have y1 : W2.cell? ⟨gs3, 1, none⟩ = some (.slice (some ⟨ge3, 0, none⟩) 6 ce3) := u_sc H3.out HC.out HV.out HX.out
                              have y2 := (fin_u H3.out HC.out HX.out).1.2
                              go_simp
                              refine hK.out _ _ ?_
                              clear hK K hH
                              try simp only [Act.put, List.setIfInBounds_toArray, List.set_cons_zero, List.set_cons_succ]
                              refine AnyZ.done (by kernel_rfl) ?_ _
                              clear y1 y2
                              go_wp2_with fail
                              go_meet
                              exact ⟨gg, cap, Lib.hid (fin_u H3.out HC.out HX.out).2⟩
                            case rest =>
                              obtain ⟨gu, cu, HD⟩ := hcut
                              obtain ⟨wa4, rfl⟩ : ∃ wa4 : World, wa4 = wc := ⟨_, rfl⟩
                              have H4 := Lib.hid (H3.out.below HD.out.1)
                              have D0b'' := Lib.hid (D0b'.out.below HD.out.1)
                              have D1'' := Lib.hid (D1'.out.below HD.out.1)
                              have D2' := Lib.hid (D2.out.below HD.out.1)
                              have D3 := Lib.hid HD.out.2
                              clear HD HC HV H3 D0b' D1' D2
                              have c0 : wa4.cell? ⟨w.heap.size, 0, none⟩ = some (.slice (some ⟨w.heap.size + 1, 0, none⟩) 1 1) := H4.out.blk.cell rfl
                              have c1 : wa4.cell? ⟨w.heap.size, 1, none⟩ = some (.slice p1 32 p3) := H4.out.blk.cell rfl
                              have c2 : wa4.cell? ⟨w.heap.size, 2, none⟩ = some (.slice none 0 0) := H4.out.blk.cell rfl
                              have c3 : wa4.cell? ⟨w.heap.size, 3, none⟩ = some (.slice s1 12 s3) := H4.out.blk.cell rfl
                              go_wp2_with fail
                              refine H4.out.copy.mono ?_
                              rintro e wb4 ⟨ρ4, bo4, a1_4, b1_4, d1_4, r1_4, a2_4, a3_4, b2_4, b3_4, d2_4, d3_4, r2_4, r3_4, rfl, hC⟩
                              have HC := Lib.hid hC
                              clear hC c0 c1 c2 c3
                              obtain ⟨⟨gs4, rc4, hr⟩, hf⟩ := HC.out.forms H4.out
                              cases hr
                              obtain ⟨gl4, cl4, he⟩ := (hf 1 (by omega)).1
                              have HV := Lib.hid he
                              have HLT : Hid (∀ κ g, (sv ((upd ρ4 (.ru 1) (xR (a1_4, a2_4, a3_4) (b1_4, b2_4, b3_4) (d1_4, d2_4, d3_4) (some ⟨gs4, 0, none⟩, 12, r3_4) wb4.heap.size)) κ).v).ownBlock = some g → g < wb4.heap.size + 1) := Lib.hid (fun κ g hg => by have := HC.out.x.lt κ g hg; simpa using this)
                              have hgl : gl4 < wb4.heap.size := (Row.lt (HC.out.cx.rows.own (.la 1)) (own_some (by rw [he]))).2
                              clear he hf
                              go_upto_region 39 with fail
                              go_cut [] (fun wx => Hid (Below wa4.heap.size wa4 wx ∧ DoneC wb4.heap.size (a1_4, a2_4, a3_4) (b1_4, b2_4, b3_4) (d1_4, d2_4, d3_4) (some ⟨gs4, 0, none⟩, 12, r3_4) (Rs.cfgT m 1 (Rs.schV m)) wx))
                              case first =>
                                refine AnyZ.start 12 (A := fun W => Hid (CX wa4 (wa4.heap.size + 2) (upd ρ4 (.ru 1) (xR (a1_4, a2_4, a3_4) (b1_4, b2_4, b3_4) (d1_4, d2_4, d3_4) (some ⟨gs4, 0, none⟩, 12, r3_4) wb4.heap.size)) W) ∧ Hid (wb4.heap.size + 1 ≤ W.heap.size)) (S := fun W => W.cell? ⟨wb4.heap.size, 3, none⟩ = some (.slice (some ⟨gs4, 0, none⟩) 12 r3_4) ∧ W.cell? ⟨gs4, 4, none⟩ = some (.slice (some ⟨gl4, 0, none⟩) 6 cl4) ∧ W.cell? ⟨bL, 6, none⟩ = some (.slice g1 12 g3)) (by kernel_rfl) ⟨Lib.hid (HC.out.x.drew), Lib.hid ((by simp))⟩ ⟨x_x (HC.out.x.drew), (z_cell (i := 1) HC.out (by omega) HV.out rfl (HC.out.x.drew)).1, (H4.out.below ((HC.out.x.drew)).base).lay.cell rfl⟩ (fun Wa hA hH => ?_)
                                obtain ⟨HX, HB⟩ := hA
                                refine AnyZ.take [12] (i := 0) (oi := ⟨some 139, .fieldAddr 27 (.tmp 16) 3, 0, "law.go:125", #[], none⟩) (v := ?_) rfl (by kernel_rfl) (by kernel_rfl) (by kernel_rfl) (by kernel_rfl) (fun _ _ _ h => h) (Or.inl ⟨by rfl, ?_⟩) hH ?_
                                rotate_left
                                focus (intro w hSw; (try dsimp only at hSw); go_simp; (try with_reducible rfl); done)
                                try simp only [Act.put, List.setIfInBounds_toArray, List.set_cons_zero, List.set_cons_succ]
                                refine AnyZ.take [12] (i := 1) (oi := ⟨some 140, .load 25 (.tmp 139), 25, "law.go:125", #[⟨0, .data⟩], none⟩) (v := ?_) rfl (by kernel_rfl) (by kernel_rfl) (by kernel_rfl) (by kernel_rfl) (fun _ _ _ h => h) (Or.inl ⟨by rfl, ?_⟩) hH ?_
                                rotate_left
                                focus (intro w hSw; (try dsimp only at hSw); go_simp; (try with_reducible rfl); done)
                                try simp only [Act.put, List.setIfInBounds_toArray, List.set_cons_zero, List.set_cons_succ]
                                refine AnyZ.take [12] (i := 2) (oi := ⟨some 141, .indexAddr 25 (.tmp 140) (.const (.int .i64 1)), 0, "law.go:125", #[⟨1, .data⟩], none⟩) (v := ?_) rfl (by kernel_rfl) (by kernel_rfl) (by kernel_rfl) (by kernel_rfl) (fun _ _ _ h => h) (Or.inl ⟨by rfl, ?_⟩) hH ?_
                                rotate_left
                                focus (intro w hSw; (try dsimp only at hSw); go_simp; (try with_reducible rfl); done)
                                try simp only [Act.put, List.setIfInBounds_toArray, List.set_cons_zero, List.set_cons_succ]
                                refine AnyZ.take [12] (i := 3) (oi := ⟨some 142, .fieldAddr 44 (.tmp 141) 1, 0, "law.go:125", #[⟨2, .data⟩], none⟩) (v := ?_) rfl (by kernel_rfl) (by kernel_rfl) (by kernel_rfl) (by kernel_rfl) (fun _ _ _ h => h) (Or.inl ⟨by rfl, ?_⟩) hH ?_
                                rotate_left
                                focus (intro w hSw; (try dsimp only at hSw); go_simp; (try with_reducible rfl); done)
                                try simp only [Act.put, List.setIfInBounds_toArray, List.set_cons_zero, List.set_cons_succ]
                                refine AnyZ.take [12] (i := 4) (oi := ⟨some 143, .load 41 (.tmp 142), 41, "law.go:125", #[⟨3, .data⟩], none⟩) (v := ?_) rfl (by kernel_rfl) (by kernel_rfl) (by kernel_rfl) (by kernel_rfl) (fun _ _ _ h => h) (Or.inl ⟨by rfl, ?_⟩) hH ?_
                                rotate_left
                                focus (intro w hSw; (try dsimp only at hSw); go_simp; (try with_reducible rfl); done)
                                try simp only [Act.put, List.setIfInBounds_toArray, List.set_cons_zero, List.set_cons_succ]
                                refine AnyZ.take [12] (i := 5) (oi := ⟨some 144, .fieldAddr 40 (.tmp 6) 5, 0, "law.go:125", #[], none⟩) (v := ?_) rfl (by kernel_rfl) (by kernel_rfl) (by kernel_rfl) (by kernel_rfl) (fun _ _ _ h => h) (Or.inl ⟨by rfl, ?_⟩) hH ?_
                                rotate_left
                                focus (intro w hSw; (try dsimp only at hSw); go_simp; (try with_reducible rfl); done)
                                try simp only [Act.put, List.setIfInBounds_toArray, List.set_cons_zero, List.set_cons_succ]
                                refine AnyZ.take [12] (i := 6) (oi := ⟨some 145, .load 38 (.tmp 144), 38, "law.go:125", #[⟨5, .data⟩], none⟩) (v := ?_) rfl (by kernel_rfl) (by kernel_rfl) (by kernel_rfl) (by kernel_rfl) (fun _ _ _ h => h) (Or.inl ⟨by rfl, ?_⟩) hH ?_
                                rotate_left
                                focus (intro w hSw; (try dsimp only at hSw); go_simp; (try with_reducible rfl); done)
                                try simp only [Act.put, List.setIfInBounds_toArray, List.set_cons_zero, List.set_cons_succ]
                                refine AnyZ.ready (rs := [7, 8]) (by kernel_rfl) (by simp) ?_
                                refine AllZ.cons (o := ⟨some 146, .call { callee := .builtin .append, args := #[.const (.slice none 0 0), .tmp 145], argTypes := #[38, 38] }, 38, "law.go:125", #[⟨6, .data⟩], none⟩) rfl (fun K hK => ?_) ?_
                                · refine step_copy kInt Wa (by rfl) (.tmp 145) (by rfl) (wb4.heap.size + 1) (g1, 12, g3) (Rs.memL m 12) (by rfl) ((H4.out.below HX.out.base).me.1) H4.out.me.2.1 H4.out.me.2.2.1 H4.out.me.2.2.2 HB.out ?_
                                  intro q1 q2 q3 wq ho hl hg hf
                                  have hl2 : q2 = 12 := by rw [← hl, mem_len]
                                  subst hl2
                                  refine AnyZ.go hK (A := fun W => Hid (CX wa4 (wa4.heap.size + 2) (upd ρ4 (.ru 1) (xR (a1_4, a2_4, a3_4) (b1_4, b2_4, b3_4) (d1_4, d2_4, d3_4) (some ⟨gs4, 0, none⟩, 12, r3_4) wb4.heap.size)) W) ∧ Hid (wb4.heap.size + 1 ≤ W.heap.size) ∧ Hid (OwnL 3 1 eInt W (wb4.heap.size + 1) (.slice q1 12 q3) (Rs.memL m 12))) (S' := fun W => W.cell? ⟨wb4.heap.size, 3, none⟩ = some (.slice (some ⟨gs4, 0, none⟩) 12 r3_4) ∧ W.cell? ⟨gs4, 4, none⟩ = some (.slice (some ⟨gl4, 0, none⟩) 6 cl4) ∧ W.cell? ⟨bL, 6, none⟩ = some (.slice g1 12 g3)) (fun _ h => h) ⟨Lib.hid ((HX.out).far HLT.out (by have := HC.out.cx.le; omega) hg (fun g e => by cases e)), Lib.hid (Nat.le_trans (HB.out) hg.size), Lib.hid (ho)⟩ ⟨x_x ((HX.out).far HLT.out (by have := HC.out.cx.le; omega) hg (fun g e => by cases e)), (z_cell (i := 1) HC.out (by omega) HV.out rfl ((HX.out).far HLT.out (by have := HC.out.cx.le; omega) hg (fun g e => by cases e))).1, (H4.out.below (((HX.out).far HLT.out (by have := HC.out.cx.le; omega) hg (fun g e => by cases e))).base).lay.cell rfl⟩ (fun W1 hA hH2 => ?_)
                                  clear hK K hH HX HB
                                  obtain ⟨HX, HB, OM⟩ := hA
                                  have hH := hH2
                                  clear hH2
                                  clear ho hl hg hf
                                  try simp only [Act.put, List.setIfInBounds_toArray, List.set_cons_zero, List.set_cons_succ]
                                  refine AnyZ.ready (rs := [8]) (by kernel_rfl) (by simp) ?_
                                  refine AllZ.cons (o := ⟨some 147, .buildSlice 38 1 #[(0, .const (.int .i64 0))], 38, "law.go:125", #[], none⟩) rfl (fun K hK => ?_) AllZ.nil
                                  go_simp
                                  refine AnyZ.go hK (A := fun W => Hid (CX wa4 (wa4.heap.size + 2) (upd ρ4 (.ru 1) (xR (a1_4, a2_4, a3_4) (b1_4, b2_4, b3_4) (d1_4, d2_4, d3_4) (some ⟨gs4, 0, none⟩, 12, r3_4) wb4.heap.size)) W) ∧ Hid (wb4.heap.size + 1 ≤ W.heap.size) ∧ Hid (OwnL 3 1 eInt W (wb4.heap.size + 1) (.slice q1 12 q3) (Rs.memL m 12)) ∧ Hid (BlkAt W W1.heap.size #[.int .i64 0] 3)) (S' := fun W => W.cell? ⟨wb4.heap.size, 3, none⟩ = some (.slice (some ⟨gs4, 0, none⟩) 12 r3_4) ∧ W.cell? ⟨gs4, 4, none⟩ = some (.slice (some ⟨gl4, 0, none⟩) 6 cl4) ∧ W.cell? ⟨bL, 6, none⟩ = some (.slice g1 12 g3)) (fun _ h => h) ⟨Lib.hid ((HX.out).below ((Below.refl _ _).alloc (Nat.le_refl _) _)), Lib.hid (Nat.le_trans (HB.out) (((Below.refl _ _).alloc (Nat.le_refl _) _) : Below _ _ _).size), Lib.hid ((OM.out).below ((Below.refl _ _).alloc (Nat.le_refl _) _)), Lib.hid ((blk_now rfl))⟩ ⟨x_x ((HX.out).below ((Below.refl _ _).alloc (Nat.le_refl _) _)), (z_cell (i := 1) HC.out (by omega) HV.out rfl ((HX.out).below ((Below.refl _ _).alloc (Nat.le_refl _) _))).1, (H4.out.below (((HX.out).below ((Below.refl _ _).alloc (Nat.le_refl _) _))).base).lay.cell rfl⟩ (fun W2 hA hH2 => ?_)
                                  clear hK K hH HX HB OM
                                  obtain ⟨HX, HB, OM, EB⟩ := hA
                                  have hH := hH2
                                  clear hH2
                                  try simp only [Act.put, List.setIfInBounds_toArray, List.set_cons_zero, List.set_cons_succ]
                                  refine AnyZ.ready (rs := [9]) (by kernel_rfl) (by simp) ?_
                                  refine AllZ.cons (o := ⟨some 148, .call { callee := .builtin .append, args := #[.tmp 146, .tmp 147], argTypes := #[38, 38] }, 38, "law.go:125", #[⟨7, .data⟩, ⟨8, .data⟩, ⟨7, .chain⟩], none⟩) rfl (fun K hK => ?_) AllZ.nil
                                  (refine step_append_row kInt _ (by rfl) (.tmp 146) (.tmp 147) (by rfl) (wb4.heap.size + 1) (.slice q1 12 q3) (Rs.memL m 12) (by rfl) OM.out W1.heap.size (0 : Int) (by rfl) (one_new EB.out (int_vals _)) (by rw [mem_len]; omega) HB.out ?_; intro gg cap wq hO hg hgo hlt)
                                  rw [mem_len] at hO ⊢
                                  refine AnyZ.go hK (A := fun W => Hid (CX wa4 (wa4.heap.size + 2) (upd ρ4 (.ru 1) (xR (a1_4, a2_4, a3_4) (b1_4, b2_4, b3_4) (d1_4, d2_4, d3_4) (some ⟨gs4, 0, none⟩, 12, r3_4) wb4.heap.size)) W) ∧ Hid (wb4.heap.size + 1 ≤ W.heap.size) ∧ Hid (OwnL 3 1 eInt W (wb4.heap.size + 1) (.slice (some ⟨gg, 0, none⟩) 13 cap) (Rs.memL m 12 ++ [(0 : Int)]))) (S' := fun W => W.cell? ⟨wb4.heap.size, 3, none⟩ = some (.slice (some ⟨gs4, 0, none⟩) 12 r3_4) ∧ W.cell? ⟨gs4, 4, none⟩ = some (.slice (some ⟨gl4, 0, none⟩) 6 cl4) ∧ W.cell? ⟨bL, 6, none⟩ = some (.slice g1 12 g3)) (fun _ h => h) ⟨Lib.hid ((HX.out).far HLT.out (by have := HC.out.cx.le; omega) hg (fun g e => (World.ownsRow.lt OM.out g e).1)), Lib.hid (Nat.le_trans (HB.out) hg.size), Lib.hid (hO)⟩ ⟨x_x ((HX.out).far HLT.out (by have := HC.out.cx.le; omega) hg (fun g e => (World.ownsRow.lt OM.out g e).1)), (z_cell (i := 1) HC.out (by omega) HV.out rfl ((HX.out).far HLT.out (by have := HC.out.cx.le; omega) hg (fun g e => (World.ownsRow.lt OM.out g e).1))).1, (H4.out.below (((HX.out).far HLT.out (by have := HC.out.cx.le; omega) hg (fun g e => (World.ownsRow.lt OM.out g e).1))).base).lay.cell rfl⟩ (fun W3 hA hH2 => ?_)
                                  clear hK K hH HX HB OM EB
                                  obtain ⟨HX, HB, ON⟩ := hA
                                  have hH := hH2
                                  clear hH2
                                  clear hO hg hgo hlt
                                  try simp only [Act.put, List.setIfInBounds_toArray, List.set_cons_zero, List.set_cons_succ]
                                  refine AnyZ.take [11, 12] (i := 10) (oi := ⟨some 149, .indexAddr 41 (.tmp 143) (.const (.int .i64 2)), 0, "law.go:125", #[⟨4, .data⟩, ⟨0, .phase⟩, ⟨1, .phase⟩, ⟨2, .phase⟩, ⟨3, .phase⟩, ⟨4, .phase⟩, ⟨5, .phase⟩, ⟨6, .phase⟩, ⟨7, .phase⟩, ⟨8, .phase⟩, ⟨9, .phase⟩], none⟩) (v := ?_) rfl (by kernel_rfl) (by kernel_rfl) (by kernel_rfl) (by kernel_rfl) (fun _ _ _ h => h) (Or.inl ⟨by rfl, ?_⟩) hH ?_
                                  rotate_left
                                  focus (intro w hSw; (try dsimp only at hSw); go_simp; (try with_reducible rfl); done)
                                  try simp only [Act.put, List.setIfInBounds_toArray, List.set_cons_zero, List.set_cons_succ]
                                  refine AnyZ.take [12] (i := 11) (oi := ⟨some 150, .fieldAddr 40 (.tmp 149) 5, 0, "law.go:125", #[⟨10, .data⟩, ⟨0, .phase⟩, ⟨1, .phase⟩, ⟨2, .phase⟩, ⟨3, .phase⟩, ⟨4, .phase⟩, ⟨5, .phase⟩, ⟨6, .phase⟩, ⟨7, .phase⟩, ⟨8, .phase⟩, ⟨9, .phase⟩], none⟩) (v := ?_) rfl (by kernel_rfl) (by kernel_rfl) (by kernel_rfl) (by kernel_rfl) (fun _ _ _ h => h) (Or.inl ⟨by rfl, ?_⟩) hH ?_
                                  rotate_left
                                  focus (intro w hSw; (try dsimp only at hSw); go_simp; (try with_reducible rfl); done)
                                  try simp only [Act.put, List.setIfInBounds_toArray, List.set_cons_zero, List.set_cons_succ]
                                  refine AnyZ.last (o := ⟨none, .store 38 (.tmp 150) (.tmp 148), 0, "law.go:125", #[⟨11, .data⟩, ⟨9, .data⟩, ⟨9, .chain⟩, ⟨0, .phase⟩, ⟨1, .phase⟩, ⟨2, .phase⟩, ⟨3, .phase⟩, ⟨4, .phase⟩, ⟨5, .phase⟩, ⟨6, .phase⟩, ⟨7, .phase⟩, ⟨8, .phase⟩, ⟨9, .phase⟩], none⟩) (by kernel_rfl) rfl (fun K hK => ?_)
                                  obtain ⟨y0, y1⟩ := (fin_v H4.out HC.out HV.out HX.out ON.out (by omega)).1.2
                                  simp only [sv] at y1
                                  have y2 := (fin_v H4.out HC.out HV.out HX.out ON.out (by omega)).1.1
                                  go_simp
                                  refine hK.out _ _ ?_
                                  clear hK K hH
                                  try simp only [Act.put, List.setIfInBounds_toArray, List.set_cons_zero, List.set_cons_succ]
                                  refine AnyZ.done (by kernel_rfl) ?_ _
                                  clear y1 y2
                                  go_wp2_with fail
                                  go_meet
                                  exact Lib.hid (fin_v H4.out HC.out HV.out HX.out ON.out (by omega)).2
                                refine AllZ.cons (o := ⟨some 147, .buildSlice 38 1 #[(0, .const (.int .i64 0))], 38, "law.go:125", #[], none⟩) rfl (fun K hK => ?_) AllZ.nil
                                go_simp
                                refine AnyZ.go hK (A := fun W => Hid (CX wa4 (wa4.heap.size + 2) (upd ρ4 (.ru 1) (xR (a1_4, a2_4, a3_4) (b1_4, b2_4, b3_4) (d1_4, d2_4, d3_4) (some ⟨gs4, 0, none⟩, 12, r3_4) wb4.heap.size)) W) ∧ Hid (wb4.heap.size + 1 ≤ W.heap.size) ∧ Hid (BlkAt W Wa.heap.size #[.int .i64 0] 3)) (S' := fun W => W.cell? ⟨wb4.heap.size, 3, none⟩ = some (.slice (some ⟨gs4, 0, none⟩) 12 r3_4) ∧ W.cell? ⟨gs4, 4, none⟩ = some (.slice (some ⟨gl4, 0, none⟩) 6 cl4) ∧ W.cell? ⟨bL, 6, none⟩ = some (.slice g1 12 g3)) (fun _ h => h) ⟨Lib.hid ((HX.out).below ((Below.refl _ _).alloc (Nat.le_refl _) _)), Lib.hid (Nat.le_trans (HB.out) (((Below.refl _ _).alloc (Nat.le_refl _) _) : Below _ _ _).size), Lib.hid ((blk_now rfl))⟩ ⟨x_x ((HX.out).below ((Below.refl _ _).alloc (Nat.le_refl _) _)), (z_cell (i := 1) HC.out (by omega) HV.out rfl ((HX.out).below ((Below.refl _ _).alloc (Nat.le_refl _) _))).1, (H4.out.below (((HX.out).below ((Below.refl _ _).alloc (Nat.le_refl _) _))).base).lay.cell rfl⟩ (fun W4 hA hH2 => ?_)
                                clear hK K hH HX HB
                                obtain ⟨HX, HB, EB⟩ := hA
                                have hH := hH2
                                clear hH2
                                try simp only [Act.put, List.setIfInBounds_toArray, List.set_cons_zero, List.set_cons_succ]
                                refine AnyZ.ready (rs := [7]) (by kernel_rfl) (by simp) ?_
                                refine AllZ.cons (o := ⟨some 146, .call { callee := .builtin .append, args := #[.const (.slice none 0 0), .tmp 145], argTypes := #[38, 38] }, 38, "law.go:125", #[⟨6, .data⟩], none⟩) rfl (fun K hK => ?_) AllZ.nil
                                refine step_copy kInt W4 (by rfl) (.tmp 145) (by rfl) (wb4.heap.size + 1) (g1, 12, g3) (Rs.memL m 12) (by rfl) ((H4.out.below HX.out.base).me.1) H4.out.me.2.1 H4.out.me.2.2.1 H4.out.me.2.2.2 HB.out ?_
                                intro q1 q2 q3 wq ho hl hg hf
                                have hl2 : q2 = 12 := by rw [← hl, mem_len]
                                subst hl2
                                refine AnyZ.go hK (A := fun W => Hid (CX wa4 (wa4.heap.size + 2) (upd ρ4 (.ru 1) (xR (a1_4, a2_4, a3_4) (b1_4, b2_4, b3_4) (d1_4, d2_4, d3_4) (some ⟨gs4, 0, none⟩, 12, r3_4) wb4.heap.size)) W) ∧ Hid (wb4.heap.size + 1 ≤ W.heap.size) ∧ Hid (BlkAt W Wa.heap.size #[.int .i64 0] 3) ∧ Hid (OwnL 3 1 eInt W (wb4.heap.size + 1) (.slice q1 12 q3) (Rs.memL m 12))) (S' := fun W => W.cell? ⟨wb4.heap.size, 3, none⟩ = some (.slice (some ⟨gs4, 0, none⟩) 12 r3_4) ∧ W.cell? ⟨gs4, 4, none⟩ = some (.slice (some ⟨gl4, 0, none⟩) 6 cl4) ∧ W.cell? ⟨bL, 6, none⟩ = some (.slice g1 12 g3)) (fun _ h => h) ⟨Lib.hid ((HX.out).far HLT.out (by have := HC.out.cx.le; omega) hg (fun g e => by cases e)), Lib.hid (Nat.le_trans (HB.out) hg.size), Lib.hid ((EB.out).grown hg (by intro e; cases e)), Lib.hid (ho)⟩ ⟨x_x ((HX.out).far HLT.out (by have := HC.out.cx.le; omega) hg (fun g e => by cases e)), (z_cell (i := 1) HC.out (by omega) HV.out rfl ((HX.out).far HLT.out (by have := HC.out.cx.le; omega) hg (fun g e => by cases e))).1, (H4.out.below (((HX.out).far HLT.out (by have := HC.out.cx.le; omega) hg (fun g e => by cases e))).base).lay.cell rfl⟩ (fun W5 hA hH2 => ?_)
                                clear hK K hH HX HB EB
                                obtain ⟨HX, HB, EB, OM⟩ := hA
                                have hH := hH2
                                clear hH2
                                clear ho hl hg hf
                                try simp only [Act.put, List.setIfInBounds_toArray, List.set_cons_zero, List.set_cons_succ]
                                refine AnyZ.ready (rs := [9]) (by kernel_rfl) (by simp) ?_
                                refine AllZ.cons (o := ⟨some 148, .call { callee := .builtin .append, args := #[.tmp 146, .tmp 147], argTypes := #[38, 38] }, 38, "law.go:125", #[⟨7, .data⟩, ⟨8, .data⟩, ⟨7, .chain⟩], none⟩) rfl (fun K hK => ?_) AllZ.nil
                                (refine step_append_row kInt _ (by rfl) (.tmp 146) (.tmp 147) (by rfl) (wb4.heap.size + 1) (.slice q1 12 q3) (Rs.memL m 12) (by rfl) OM.out Wa.heap.size (0 : Int) (by rfl) (one_new EB.out (int_vals _)) (by rw [mem_len]; omega) HB.out ?_; intro gg cap wq hO hg hgo hlt)
                                rw [mem_len] at hO ⊢
                                refine AnyZ.go hK (A := fun W => Hid (CX wa4 (wa4.heap.size + 2) (upd ρ4 (.ru 1) (xR (a1_4, a2_4, a3_4) (b1_4, b2_4, b3_4) (d1_4, d2_4, d3_4) (some ⟨gs4, 0, none⟩, 12, r3_4) wb4.heap.size)) W) ∧ Hid (wb4.heap.size + 1 ≤ W.heap.size) ∧ Hid (OwnL 3 1 eInt W (wb4.heap.size + 1) (.slice (some ⟨gg, 0, none⟩) 13 cap) (Rs.memL m 12 ++ [(0 : Int)]))) (S' := fun W => W.cell? ⟨wb4.heap.size, 3, none⟩ = some (.slice (some ⟨gs4, 0, none⟩) 12 r3_4) ∧ W.cell? ⟨gs4, 4, none⟩ = some (.slice (some ⟨gl4, 0, none⟩) 6 cl4) ∧ W.cell? ⟨bL, 6, none⟩ = some (.slice g1 12 g3)) (fun _ h => h) ⟨Lib.hid ((HX.out).far HLT.out (by have := HC.out.cx.le; omega) hg (fun g e => (World.ownsRow.lt OM.out g e).1)), Lib.hid (Nat.le_trans (HB.out) hg.size), Lib.hid (hO)⟩ ⟨x_x ((HX.out).far HLT.out (by have := HC.out.cx.le; omega) hg (fun g e => (World.ownsRow.lt OM.out g e).1)), (z_cell (i := 1) HC.out (by omega) HV.out rfl ((HX.out).far HLT.out (by have := HC.out.cx.le; omega) hg (fun g e => (World.ownsRow.lt OM.out g e).1))).1, (H4.out.below (((HX.out).far HLT.out (by have := HC.out.cx.le; omega) hg (fun g e => (World.ownsRow.lt OM.out g e).1))).base).lay.cell rfl⟩ (fun W6 hA hH2 => ?_)
                                clear hK K hH HX HB EB OM
                                obtain ⟨HX, HB, ON⟩ := hA
                                have hH := hH2
                                clear hH2
                                clear hO hg hgo hlt
                                try simp only [Act.put, List.setIfInBounds_toArray, List.set_cons_zero, List.set_cons_succ]
                                refine AnyZ.take [11, 12] (i := 10) (oi := ⟨some 149, .indexAddr 41 (.tmp 143) (.const (.int .i64 2)), 0, "law.go:125", #[⟨4, .data⟩, ⟨0, .phase⟩, ⟨1, .phase⟩, ⟨2, .phase⟩, ⟨3, .phase⟩, ⟨4, .phase⟩, ⟨5, .phase⟩, ⟨6, .phase⟩, ⟨7, .phase⟩, ⟨8, .phase⟩, ⟨9, .phase⟩], none⟩) (v := ?_) rfl (by kernel_rfl) (by kernel_rfl) (by kernel_rfl) (by kernel_rfl) (fun _ _ _ h => h) (Or.inl ⟨by rfl, ?_⟩) hH ?_
                                rotate_left
                                focus (intro w hSw; (try dsimp only at hSw); go_simp; (try with_reducible rfl); done)
                                try simp only [Act.put, List.setIfInBounds_toArray, List.set_cons_zero, List.set_cons_succ]
                                refine AnyZ.take [12] (i := 11) (oi := ⟨some 150, .fieldAddr 40 (.tmp 149) 5, 0, "law.go:125", #[⟨10, .data⟩, ⟨0, .phase⟩, ⟨1, .phase⟩, ⟨2, .phase⟩, ⟨3, .phase⟩, ⟨4, .phase⟩, ⟨5, .phase⟩, ⟨6, .phase⟩, ⟨7, .phase⟩, ⟨8, .phase⟩, ⟨9, .phase⟩], none⟩) (v := ?_) rfl (by kernel_rfl) (by kernel_rfl) (by kernel_rfl) (by kernel_rfl) (fun _ _ _ h => h) (Or.inl ⟨by rfl, ?_⟩) hH ?_
                                rotate_left
                                focus (intro w hSw; (try dsimp only at hSw); go_simp; (try with_reducible rfl); done)
                                try simp only [Act.put, List.setIfInBounds_toArray, List.set_cons_zero, List.set_cons_succ]
                                refine AnyZ.last (o := ⟨none, .store 38 (.tmp 150) (.tmp 148), 0, "law.go:125", #[⟨11, .data⟩, ⟨9, .data⟩, ⟨9, .chain⟩, ⟨0, .phase⟩, ⟨1, .phase⟩, ⟨2, .phase⟩, ⟨3, .phase⟩, ⟨4, .phase⟩, ⟨5, .phase⟩, ⟨6, .phase⟩, ⟨7, .phase⟩, ⟨8, .phase⟩, ⟨9, .phase⟩], none⟩) (by kernel_rfl) rfl (fun K hK => ?_)
                                obtain ⟨y0, y1⟩ := (fin_v H4.out HC.out HV.out HX.out ON.out (by omega)).1.2
                                simp only [sv] at y1
                                have y2 := (fin_v H4.out HC.out HV.out HX.out ON.out (by omega)).1.1
                                go_simp
                                refine hK.out _ _ ?_
                                clear hK K hH
                                try simp only [Act.put, List.setIfInBounds_toArray, List.set_cons_zero, List.set_cons_succ]
                                refine AnyZ.done (by kernel_rfl) ?_ _
                                clear y1 y2
                                go_wp2_with fail
                                go_meet
                                exact Lib.hid (fin_v H4.out HC.out HV.out HX.out ON.out (by omega)).2
                              case rest =>
                                have HD := hcut
                                obtain ⟨wa5, rfl⟩ : ∃ wa5 : World, wa5 = wc := ⟨_, rfl⟩
                                have H5 := Lib.hid (H4.out.below HD.out.1)
                                have D0b''' := Lib.hid (D0b''.out.below HD.out.1)
                                have D1''' := Lib.hid (D1''.out.below HD.out.1)
                                have D2'' := Lib.hid (D2'.out.below HD.out.1)
                                have D3' := Lib.hid (D3.out.below HD.out.1)
                                have D4 := Lib.hid HD.out.2
                                clear HD HC HV HLT hgl H4 hcut D0b'' D1'' D2' D3
                                have c0 : wa5.cell? ⟨w.heap.size, 0, none⟩ = some (.slice (some ⟨w.heap.size + 1, 0, none⟩) 1 1) := H5.out.blk.cell rfl
                                have c1 : wa5.cell? ⟨w.heap.size, 1, none⟩ = some (.slice p1 32 p3) := H5.out.blk.cell rfl
                                have c2 : wa5.cell? ⟨w.heap.size, 2, none⟩ = some (.slice none 0 0) := H5.out.blk.cell rfl
                                have c3 : wa5.cell? ⟨w.heap.size, 3, none⟩ = some (.slice s1 12 s3) := H5.out.blk.cell rfl
                                go_wp2_with fail
                                refine H5.out.copy.mono ?_
                                rintro e wb5 ⟨ρ5, bo5, a1_5, b1_5, d1_5, r1_5, a2_5, a3_5, b2_5, b3_5, d2_5, d3_5, r2_5, r3_5, rfl, hC⟩
                                have HC := Lib.hid hC
                                clear hC c0 c1 c2 c3
                                obtain ⟨⟨gs5, rc5, hr⟩, hf⟩ := HC.out.forms H5.out
                                cases hr
                                obtain ⟨gl5, cl5, he⟩ := (hf 1 (by omega)).1
                                have HV := Lib.hid he
                                clear he hf
                                go_upto_region 41 with fail
                                go_cut [] (fun wx => Hid (Below wa5.heap.size wa5 wx ∧ DoneC wb5.heap.size (a1_5, a2_5, a3_5) (b1_5, b2_5, b3_5) (d1_5, d2_5, d3_5) (some ⟨gs5, 0, none⟩, 12, r3_5) (Rs.cfgT m 1 (Rs.schW m)) wx))
                                case first =>
                                  have x1 : wb5.cell? ⟨gs5, 4, none⟩ = some (.slice (some ⟨gl5, 0, none⟩) 6 cl5) := w_sc HC.out HV.out
                                  have x2 := (w_cell H5.out HC.out HV.out).1
                                  have x3 := (w_cell H5.out HC.out HV.out).2
                                  have hgl : gl5 < wb5.heap.size := (Row.lt (HC.out.cx.rows.own (.la 1)) (own_some (by rw [HV.out]))).2
                                  have hgs : gs5 < wb5.heap.size := (Row.lt (HC.out.cx.rows.own .sc) (own_some (by rw [HC.out.vr]))).2
                                  go_wp2_with fail
                                  go_meet
                                  have hw := fin_w H5.out HC.out HV.out HC.out.x
                                  rw [World.setCell_alloc_past _ gl5 25 _ hgl] at hw
                                  exact Lib.hid hw
                                case rest =>
                                  have HD := hcut
                                  obtain ⟨wa6, rfl⟩ : ∃ wa6 : World, wa6 = wc := ⟨_, rfl⟩
                                  have H6 := Lib.hid (H5.out.below HD.out.1)
                                  have D0b'''' := Lib.hid (D0b'''.out.below HD.out.1)
                                  have D1'''' := Lib.hid (D1'''.out.below HD.out.1)
                                  have D2''' := Lib.hid (D2''.out.below HD.out.1)
                                  have D3'' := Lib.hid (D3'.out.below HD.out.1)
                                  have D4' := Lib.hid (D4.out.below HD.out.1)
                                  have D5 := Lib.hid HD.out.2
                                  clear HD HC HV H5 hcut D0b''' D1''' D2'' D3' D4
                                  have HT6 := Lib.hid (HT.out.below H6.out.base)
                                  have k0 : wa6.cell? ⟨wb0.heap.size, 0, none⟩ = some (sv (a1_0, a2_0, a3_0)) := D0b''''.out.blk.cell rfl
                                  have k1 : wa6.cell? ⟨wb0.heap.size, 1, none⟩ = some (sv (some ⟨gx, 0, none⟩, 33, cx)) := D0b''''.out.blk.cell rfl
                                  have k2 : wa6.cell? ⟨wb0.heap.size, 2, none⟩ = some (sv (d1_0, d2_0, d3_0)) := D0b''''.out.blk.cell rfl
                                  have k3 : wa6.cell? ⟨wb0.heap.size, 3, none⟩ = some (sv (r1_0, r2_0, r3_0)) := D0b''''.out.blk.cell rfl
                                  simp only [sv] at k0 k1 k2 k3
                                  have HCH := Lib.hid (check_cfg (Rs.chk_x m) _ _ _ _ _ _ _ _ _ _ _ _ wa6 D0b''''.out.cfg HT6.out.civ)
                                  go_wp2_with fail
                                  refine HCH.out.mono ?_
                                  rintro e wc0 ⟨rfl, hbb⟩
                                  have HT6_ := Lib.hid (HT6.out.below hbb)
                                  have HB0 := Lib.hid (bstep H6.out.base hbb)
                                  have D1''''_ := Lib.hid (D1''''.out.below hbb)
                                  have D2'''_ := Lib.hid (D2'''.out.below hbb)
                                  have D3''_ := Lib.hid (D3''.out.below hbb)
                                  have D4'_ := Lib.hid (D4'.out.below hbb)
                                  have D5_ := Lib.hid (D5.out.below hbb)
                                  clear HCH hbb k0 k1 k2 k3 HT6 D0b'''' D1'''' D2''' D3'' D4' D5
                                  have k0 : wc0.cell? ⟨wb1.heap.size, 0, none⟩ = some (sv (a1_1, a2_1, a3_1)) := D1''''_.out.blk.cell rfl
                                  have k1 : wc0.cell? ⟨wb1.heap.size, 1, none⟩ = some (sv (b1_1, b2_1, b3_1)) := D1''''_.out.blk.cell rfl
                                  have k2 : wc0.cell? ⟨wb1.heap.size, 2, none⟩ = some (sv (d1_1, d2_1, d3_1)) := D1''''_.out.blk.cell rfl
                                  have k3 : wc0.cell? ⟨wb1.heap.size, 3, none⟩ = some (sv (some ⟨gy, 0, none⟩, 13, cy)) := D1''''_.out.blk.cell rfl
                                  simp only [sv] at k0 k1 k2 k3
                                  have HCH := Lib.hid (check_cfg (Rs.chk_y m) _ _ _ _ _ _ _ _ _ _ _ _ wc0 D1''''_.out.cfg HT6_.out.civ)
                                  go_wp2_with fail
                                  refine HCH.out.mono ?_
                                  rintro e wc1 ⟨rfl, hbb⟩
                                  have HT6__ := Lib.hid (HT6_.out.below hbb)
                                  have HB1 := Lib.hid (bstep HB0.out hbb)
                                  have D2'''__ := Lib.hid (D2'''_.out.below hbb)
                                  have D3''__ := Lib.hid (D3''_.out.below hbb)
                                  have D4'__ := Lib.hid (D4'_.out.below hbb)
                                  have D5__ := Lib.hid (D5_.out.below hbb)
                                  clear HCH hbb k0 k1 k2 k3 HT6_ D1''''_ D2'''_ D3''_ D4'_ D5_
                                  have k0 : wc1.cell? ⟨wb2.heap.size, 0, none⟩ = some (sv (a1_2, a2_2, a3_2)) := D2'''__.out.blk.cell rfl
                                  have k1 : wc1.cell? ⟨wb2.heap.size, 1, none⟩ = some (sv (b1_2, b2_2, b3_2)) := D2'''__.out.blk.cell rfl
                                  have k2 : wc1.cell? ⟨wb2.heap.size, 2, none⟩ = some (sv (d1_2, d2_2, d3_2)) := D2'''__.out.blk.cell rfl
                                  have k3 : wc1.cell? ⟨wb2.heap.size, 3, none⟩ = some (sv (some ⟨gs2, 0, none⟩, 12, r3_2)) := D2'''__.out.blk.cell rfl
                                  simp only [sv] at k0 k1 k2 k3
                                  have HCH := Lib.hid (check_cfg (Rs.chk_z HMM.out.1 HMM.out.2) _ _ _ _ _ _ _ _ _ _ _ _ wc1 D2'''__.out.cfg HT6__.out.civ)
                                  go_wp2_with fail
                                  refine HCH.out.mono ?_
                                  rintro e wc2 ⟨rfl, hbb⟩
                                  have HT6___ := Lib.hid (HT6__.out.below hbb)
                                  have HB2 := Lib.hid (bstep HB1.out hbb)
                                  have D3''___ := Lib.hid (D3''__.out.below hbb)
                                  have D4'___ := Lib.hid (D4'__.out.below hbb)
                                  have D5___ := Lib.hid (D5__.out.below hbb)
                                  clear HCH hbb k0 k1 k2 k3 HT6__ D2'''__ D3''__ D4'__ D5__
                                  have k0 : wc2.cell? ⟨wb3.heap.size, 0, none⟩ = some (sv (a1_3, a2_3, a3_3)) := D3''___.out.blk.cell rfl
                                  have k1 : wc2.cell? ⟨wb3.heap.size, 1, none⟩ = some (sv (b1_3, b2_3, b3_3)) := D3''___.out.blk.cell rfl
                                  have k2 : wc2.cell? ⟨wb3.heap.size, 2, none⟩ = some (sv (d1_3, d2_3, d3_3)) := D3''___.out.blk.cell rfl
                                  have k3 : wc2.cell? ⟨wb3.heap.size, 3, none⟩ = some (sv (some ⟨gs3, 0, none⟩, 12, r3_3)) := D3''___.out.blk.cell rfl
                                  simp only [sv] at k0 k1 k2 k3
                                  have HCH := Lib.hid (check_cfg (Rs.chk_u HMM.out.1 HMM.out.2 nb.data.toList) _ _ _ _ _ _ _ _ _ _ _ _ wc2 D3''___.out.cfg HT6___.out.civ)
                                  go_wp2_with fail
                                  refine HCH.out.mono ?_
                                  rintro e wc3 ⟨rfl, hbb⟩
                                  have HT6____ := Lib.hid (HT6___.out.below hbb)
                                  have HB3 := Lib.hid (bstep HB2.out hbb)
                                  have D4'____ := Lib.hid (D4'___.out.below hbb)
                                  have D5____ := Lib.hid (D5___.out.below hbb)
                                  clear HCH hbb k0 k1 k2 k3 HT6___ D3''___ D4'___ D5___
                                  have k0 : wc3.cell? ⟨wb4.heap.size, 0, none⟩ = some (sv (a1_4, a2_4, a3_4)) := D4'____.out.blk.cell rfl
                                  have k1 : wc3.cell? ⟨wb4.heap.size, 1, none⟩ = some (sv (b1_4, b2_4, b3_4)) := D4'____.out.blk.cell rfl
                                  have k2 : wc3.cell? ⟨wb4.heap.size, 2, none⟩ = some (sv (d1_4, d2_4, d3_4)) := D4'____.out.blk.cell rfl
                                  have k3 : wc3.cell? ⟨wb4.heap.size, 3, none⟩ = some (sv (some ⟨gs4, 0, none⟩, 12, r3_4)) := D4'____.out.blk.cell rfl
                                  simp only [sv] at k0 k1 k2 k3
                                  have HCH := Lib.hid (check_cfg (Rs.chk_v HMM.out.1 HMM.out.2) _ _ _ _ _ _ _ _ _ _ _ _ wc3 D4'____.out.cfg HT6____.out.civ)
                                  go_wp2_with fail
                                  refine HCH.out.mono ?_
                                  rintro e wc4 ⟨rfl, hbb⟩
                                  have HT6_____ := Lib.hid (HT6____.out.below hbb)
                                  have HB4 := Lib.hid (bstep HB3.out hbb)
                                  have D5_____ := Lib.hid (D5____.out.below hbb)
                                  clear HCH hbb k0 k1 k2 k3 HT6____ D4'____ D5____
                                  have k0 : wc4.cell? ⟨wb5.heap.size, 0, none⟩ = some (sv (a1_5, a2_5, a3_5)) := D5_____.out.blk.cell rfl
                                  have k1 : wc4.cell? ⟨wb5.heap.size, 1, none⟩ = some (sv (b1_5, b2_5, b3_5)) := D5_____.out.blk.cell rfl
                                  have k2 : wc4.cell? ⟨wb5.heap.size, 2, none⟩ = some (sv (d1_5, d2_5, d3_5)) := D5_____.out.blk.cell rfl
                                  have k3 : wc4.cell? ⟨wb5.heap.size, 3, none⟩ = some (sv (some ⟨gs5, 0, none⟩, 12, r3_5)) := D5_____.out.blk.cell rfl
                                  simp only [sv] at k0 k1 k2 k3
                                  have HCH := Lib.hid (check_cfg (Rs.chk_w HMM.out.1 HMM.out.2) _ _ _ _ _ _ _ _ _ _ _ _ wc4 D5_____.out.cfg HT6_____.out.civ)
                                  go_wp2_with fail
                                  refine HCH.out.mono ?_
                                  rintro e wc5 ⟨rfl, hbb⟩
                                  have HT6______ := Lib.hid (HT6_____.out.below hbb)
                                  have HB5 := Lib.hid (bstep HB4.out hbb)
                                  clear HCH hbb k0 k1 k2 k3 HT6_____ D5_____
                                  go_wp2_with fail
                                  refine (sane8_any _ HT6______.out).mono ?_
                                  rintro e w9 ⟨rfl, hb9⟩
                                  go_wp2_with fail
                                  go_ret
                                  exact ⟨by rfl, bstep HB5.out hb9⟩
end Go.Proofs.YtphenbfhojdcpaaGreatDoor
