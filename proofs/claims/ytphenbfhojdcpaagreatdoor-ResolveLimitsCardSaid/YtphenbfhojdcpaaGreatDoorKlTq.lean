/- made.Copy: rows of its own for the lists of a configuration, and for the layers and edits of each schedule. Printed by gen_tq.py. -/
import Derived.Test.YtphenbfhojdcpaaGreatDoorKlG27
import Derived.Test.YtphenbfhojdcpaaGreatDoorKlG16
import Derived.Deep.RegionHeld3
import Derived.Deep.DeepCutAuto
namespace Go.Proofs.YtphenbfhojdcpaaGreatDoor
open Go.RowKit
set_option linter.unusedVariables false
set_option linter.unusedSimpArgs false
set_option maxRecDepth 100000
theorem csch_vals (sn : Rs.Sch) (nb : ByteArray) (h : (⟨sn.name.toArray⟩ : ByteArray) = nb) (y1 : Option Addr) (y2 y3 : Nat) (e1 : Option Addr) (e2 e3 : Nat) : ∀ j, j < 3 → (#[.string nb, .slice y1 y2 y3, .slice e1 e2 e3] : Array Value)[j]? = some (eSch (sn, ((y1, y2, y3), (e1, e2, e3))) j) := fun j hj => by
  subst h
  rcases j with _ | _ | _ | _ <;> first | rfl | omega
set_option maxHeartbeats 16000000 in
theorem copy_is {zs : List (Rs.Zone × SV)} {ps : List (Rs.Pers × SV)} {cs : List (Rs.Cal × SV)} {xs : List SCp} (z1 p1 c1 s1 : Option Addr) (z2 z3 p2 p3 c2 c3 s2 s3 : Nat) (w : World) (hz : Src 3 eZone w (z1, z2, z3) zs) (hp : Src 6 ePers w (p1, p2, p3) ps) (hc : Src 3 eCal w (c1, c2, c3) cs) (hs : Src 3 eSch w (s1, s2, s3) (xs.map (·.s)))
    (hx : ∀ x ∈ xs, Src 10 eLay w x.s.2.1 x.ys ∧ Src 5 eEdit w x.s.2.2 x.es) : Calls Tryz.prog 8 #[.agg #[.slice z1 z2 z3, .slice p1 p2 p3, .slice c1 c2 c3, .slice s1 s2 s3]] w fun e w' => ∃ (ρ : Key → Row) (bo : Nat), e = .returned (cfgV (ρ .zn).v (ρ .pe).v (ρ .ca).v (ρ .sc).v) ∧ Below w.heap.size w w' ∧ w.heap.size + 2 ≤ w'.heap.size ∧ Rows w' (w.heap.size + 2) ρ ∧ Cp bo zs ps cs xs xs.length ρ := by
  have HZ := Lib.hid hz
  have HP := Lib.hid hp
  have HC := Lib.hid hc
  have HS := Lib.hid hs
  have HX := Lib.hid hx
  have nx : xs.length = s2 := by have := hs.2.1; rw [List.length_map] at this; exact this
  have ns : s2 ≤ 900000 := by have := hs.2.2.2; rw [List.length_map] at this; omega
  have HN := Lib.hid nx
  clear hz hp hc hs hx nx
  have HK := Lib.hid (show CpW w (z1, z2, z3) (p1, p2, p3) (c1, c2, c3) (s1, s2, s3) (mkZ nilR nilR nilR nilR) ((w.alloc (.cells #[.slice z1 z2 z3, .slice p1 p2 p3, .slice c1 c2 c3, .slice s1 s2 s3] 27)).alloc (.cells cfN 27)) from ⟨((Below.refl w.heap.size w).alloc (Nat.le_refl _) _).alloc (by simp) _, BlkAt.alloc (BlkAt.new w _ _) _, blk_now (by simp), by rw [mkZ_nil]; exact Rows.nil_ _ _, by simp⟩)
  go_enter Tryz.func8, Tryz.ntmps8
  go_upto_region 1 with fail
  go_cut [3] (fun p wx => ∃ (bo : Nat) (ρ : Key → Row), p = .pointer (some ⟨bo, 0, none⟩) ∧ Hid (CpW w (z1, z2, z3) (p1, p2, p3) (c1, c2, c3) (s1, s2, s3) ρ wx ∧ Cp bo zs ps cs xs 0 ρ))
  case first =>
    refine AnyZ.start 11 (A := fun W => Hid (CpW w (z1, z2, z3) (p1, p2, p3) (c1, c2, c3) (s1, s2, s3) (mkZ nilR nilR nilR nilR) W)) (S := fun W => W.cell? ⟨w.heap.size, 0, none⟩ = some (.slice z1 z2 z3) ∧ W.cell? ⟨w.heap.size, 1, none⟩ = some (.slice p1 p2 p3) ∧ W.cell? ⟨w.heap.size, 2, none⟩ = some (.slice c1 c2 c3)) (by kernel_rfl) (Lib.hid (HK.out.drew)) ⟨(HK.out.drew).box.cell rfl, (HK.out.drew).box.cell rfl, (HK.out.drew).box.cell rfl⟩ (fun Wa hA hH => ?_)
    have HK := hA
    clear hA
    refine AnyZ.take [11] (i := 0) (oi := ⟨some 6, .fieldAddr 27 (.tmp 1) 0, 0, "made.go:267", #[], none⟩) (v := ?_) rfl (by kernel_rfl) (by kernel_rfl) (by kernel_rfl) (by kernel_rfl) (fun _ _ _ h => h) (Or.inl ⟨by rfl, ?_⟩) hH ?_
    rotate_left
    focus (intro w hSw; (try dsimp only at hSw); go_simp; (try with_reducible rfl); done)
    try simp only [Act.put, List.setIfInBounds_toArray, List.set_cons_zero, List.set_cons_succ]
    refine AnyZ.take [11] (i := 1) (oi := ⟨some 7, .load 22 (.tmp 6), 22, "made.go:267", #[⟨0, .data⟩], none⟩) (v := ?_) rfl (by kernel_rfl) (by kernel_rfl) (by kernel_rfl) (by kernel_rfl) (fun _ _ _ h => h) (Or.inl ⟨by rfl, ?_⟩) hH ?_
    rotate_left
    focus (intro w hSw; (try dsimp only at hSw); go_simp; (try with_reducible rfl); done)
    try simp only [Act.put, List.setIfInBounds_toArray, List.set_cons_zero, List.set_cons_succ]
    refine AnyZ.take [11] (i := 3) (oi := ⟨some 9, .fieldAddr 27 (.tmp 1) 1, 0, "made.go:267", #[], none⟩) (v := ?_) rfl (by kernel_rfl) (by kernel_rfl) (by kernel_rfl) (by kernel_rfl) (fun _ _ _ h => h) (Or.inl ⟨by rfl, ?_⟩) hH ?_
    rotate_left
    focus (intro w hSw; (try dsimp only at hSw); go_simp; (try with_reducible rfl); done)
    try simp only [Act.put, List.setIfInBounds_toArray, List.set_cons_zero, List.set_cons_succ]
    refine AnyZ.take [11] (i := 4) (oi := ⟨some 10, .load 23 (.tmp 9), 23, "made.go:267", #[⟨3, .data⟩], none⟩) (v := ?_) rfl (by kernel_rfl) (by kernel_rfl) (by kernel_rfl) (by kernel_rfl) (fun _ _ _ h => h) (Or.inl ⟨by rfl, ?_⟩) hH ?_
    rotate_left
    focus (intro w hSw; (try dsimp only at hSw); go_simp; (try with_reducible rfl); done)
    try simp only [Act.put, List.setIfInBounds_toArray, List.set_cons_zero, List.set_cons_succ]
    refine AnyZ.take [11] (i := 6) (oi := ⟨some 12, .fieldAddr 27 (.tmp 1) 2, 0, "made.go:267", #[], none⟩) (v := ?_) rfl (by kernel_rfl) (by kernel_rfl) (by kernel_rfl) (by kernel_rfl) (fun _ _ _ h => h) (Or.inl ⟨by rfl, ?_⟩) hH ?_
    rotate_left
    focus (intro w hSw; (try dsimp only at hSw); go_simp; (try with_reducible rfl); done)
    try simp only [Act.put, List.setIfInBounds_toArray, List.set_cons_zero, List.set_cons_succ]
    refine AnyZ.take [11] (i := 7) (oi := ⟨some 13, .load 24 (.tmp 12), 24, "made.go:267", #[⟨6, .data⟩], none⟩) (v := ?_) rfl (by kernel_rfl) (by kernel_rfl) (by kernel_rfl) (by kernel_rfl) (fun _ _ _ h => h) (Or.inl ⟨by rfl, ?_⟩) hH ?_
    rotate_left
    focus (intro w hSw; (try dsimp only at hSw); go_simp; (try with_reducible rfl); done)
    try simp only [Act.put, List.setIfInBounds_toArray, List.set_cons_zero, List.set_cons_succ]
    refine AnyZ.ready (rs := [2, 10]) (by kernel_rfl) (by simp) ?_
    refine AllZ.cons (o := ⟨some 8, .call { callee := .builtin .append, args := #[.const (.slice none 0 0), .tmp 7], argTypes := #[22, 22] }, 22, "made.go:267", #[⟨1, .data⟩], none⟩) rfl (fun K hK => ?_) ?_
    · refine step_copy kZon Wa (by rfl) (.tmp 7) (by rfl) (w.heap.size + 2) (z1, z2, z3) zs (by rfl) (HZ.out.at_ HK.out.base) HZ.out.2.1 HZ.out.2.2.1 HZ.out.2.2.2 HK.out.le ?_
      intro u1 u2 u3 wq ho hl hg hf
      refine AnyZ.go hK (A := fun W => Hid (CpW w (z1, z2, z3) (p1, p2, p3) (c1, c2, c3) (s1, s2, s3) (mkZ ⟨32, 3, (u1, u2, u3), encK 3 eZone zs⟩ nilR nilR nilR) W)) (S' := fun W => W.cell? ⟨w.heap.size, 0, none⟩ = some (.slice z1 z2 z3) ∧ W.cell? ⟨w.heap.size, 1, none⟩ = some (.slice p1 p2 p3) ∧ W.cell? ⟨w.heap.size, 2, none⟩ = some (.slice c1 c2 c3)) (fun _ h => h) (Lib.hid (HK.out.zn (u := (u1, u2, u3)) ho hl hg hf)) ⟨(HK.out.zn (u := (u1, u2, u3)) ho hl hg hf).box.cell rfl, (HK.out.zn (u := (u1, u2, u3)) ho hl hg hf).box.cell rfl, (HK.out.zn (u := (u1, u2, u3)) ho hl hg hf).box.cell rfl⟩ (fun W1 hA hH2 => ?_)
      clear hK K hH HK
      have HK := hA
      clear hA
      have hH := hH2
      clear hH2
      clear ho hl hg hf
      try simp only [Act.put, List.setIfInBounds_toArray, List.set_cons_zero, List.set_cons_succ]
      refine AnyZ.ready (rs := [5, 10]) (by kernel_rfl) (by simp) ?_
      refine AllZ.cons (o := ⟨some 11, .call { callee := .builtin .append, args := #[.const (.slice none 0 0), .tmp 10], argTypes := #[23, 23] }, 23, "made.go:267", #[⟨4, .data⟩, ⟨2, .chain⟩], none⟩) rfl (fun K hK => ?_) ?_
      · refine step_copy kPer W1 (by rfl) (.tmp 10) (by rfl) (w.heap.size + 2) (p1, p2, p3) ps (by rfl) (HP.out.at_ HK.out.base) HP.out.2.1 HP.out.2.2.1 HP.out.2.2.2 HK.out.le ?_
        intro v1 v2 v3 wq ho hl hg hf
        refine AnyZ.go hK (A := fun W => Hid (CpW w (z1, z2, z3) (p1, p2, p3) (c1, c2, c3) (s1, s2, s3) (mkZ ⟨32, 3, (u1, u2, u3), encK 3 eZone zs⟩ ⟨35, 6, (v1, v2, v3), encK 6 ePers ps⟩ nilR nilR) W)) (S' := fun W => W.cell? ⟨w.heap.size, 0, none⟩ = some (.slice z1 z2 z3) ∧ W.cell? ⟨w.heap.size, 1, none⟩ = some (.slice p1 p2 p3) ∧ W.cell? ⟨w.heap.size, 2, none⟩ = some (.slice c1 c2 c3)) (fun _ h => h) (Lib.hid (HK.out.pe (u := (v1, v2, v3)) ho hl hg hf)) ⟨(HK.out.pe (u := (v1, v2, v3)) ho hl hg hf).box.cell rfl, (HK.out.pe (u := (v1, v2, v3)) ho hl hg hf).box.cell rfl, (HK.out.pe (u := (v1, v2, v3)) ho hl hg hf).box.cell rfl⟩ (fun W2 hA hH2 => ?_)
        clear hK K hH HK
        have HK := hA
        clear hA
        have hH := hH2
        clear hH2
        clear ho hl hg hf
        try simp only [Act.put, List.setIfInBounds_toArray, List.set_cons_zero, List.set_cons_succ]
        refine AnyZ.ready (rs := [8, 10]) (by kernel_rfl) (by simp) ?_
        refine AllZ.cons (o := ⟨some 14, .call { callee := .builtin .append, args := #[.const (.slice none 0 0), .tmp 13], argTypes := #[24, 24] }, 24, "made.go:267", #[⟨7, .data⟩, ⟨5, .chain⟩], none⟩) rfl (fun K hK => ?_) ?_
        · refine step_copy kCal W2 (by rfl) (.tmp 13) (by rfl) (w.heap.size + 2) (c1, c2, c3) cs (by rfl) (HC.out.at_ HK.out.base) HC.out.2.1 HC.out.2.2.1 HC.out.2.2.2 HK.out.le ?_
          intro x1 x2 x3 wq ho hl hg hf
          refine AnyZ.go hK (A := fun W => Hid (CpW w (z1, z2, z3) (p1, p2, p3) (c1, c2, c3) (s1, s2, s3) (mkZ ⟨32, 3, (u1, u2, u3), encK 3 eZone zs⟩ ⟨35, 6, (v1, v2, v3), encK 6 ePers ps⟩ ⟨79, 3, (x1, x2, x3), encK 3 eCal cs⟩ nilR) W)) (S' := fun W => W.cell? ⟨w.heap.size, 0, none⟩ = some (.slice z1 z2 z3) ∧ W.cell? ⟨w.heap.size, 1, none⟩ = some (.slice p1 p2 p3) ∧ W.cell? ⟨w.heap.size, 2, none⟩ = some (.slice c1 c2 c3)) (fun _ h => h) (Lib.hid (HK.out.ca (u := (x1, x2, x3)) ho hl hg hf)) ⟨(HK.out.ca (u := (x1, x2, x3)) ho hl hg hf).box.cell rfl, (HK.out.ca (u := (x1, x2, x3)) ho hl hg hf).box.cell rfl, (HK.out.ca (u := (x1, x2, x3)) ho hl hg hf).box.cell rfl⟩ (fun W3 hA hH2 => ?_)
          clear hK K hH HK
          have HK := hA
          clear hA
          have hH := hH2
          clear hH2
          clear ho hl hg hf
          try simp only [Act.put, List.setIfInBounds_toArray, List.set_cons_zero, List.set_cons_succ]
          refine AnyZ.take [11] (i := 9) (oi := ⟨some 15, .build 27 #[(0, .tmp 8), (1, .tmp 11), (2, .tmp 14)], 27, "made.go:267", #[⟨2, .data⟩, ⟨5, .data⟩, ⟨8, .data⟩], none⟩) (v := ?_) rfl (by kernel_rfl) (by kernel_rfl) (by kernel_rfl) (by kernel_rfl) (fun _ _ _ h => h) (Or.inl ⟨by rfl, ?_⟩) hH ?_
          rotate_left
          focus (intro w hSw; (try dsimp only at hSw); go_simp; (try with_reducible rfl); done)
          try simp only [Act.put, List.setIfInBounds_toArray, List.set_cons_zero, List.set_cons_succ]
          refine AnyZ.ready (rs := [10]) (by kernel_rfl) (by simp) ?_
          refine AllZ.cons (o := ⟨some 3, .alloc 27, 0, "made.go:267", #[], none⟩) rfl (fun K hK => ?_) AllZ.nil
          go_simp
          refine AnyZ.go hK (A := fun W => Hid (CpW w (z1, z2, z3) (p1, p2, p3) (c1, c2, c3) (s1, s2, s3) (mkZ ⟨32, 3, (u1, u2, u3), encK 3 eZone zs⟩ ⟨35, 6, (v1, v2, v3), encK 6 ePers ps⟩ ⟨79, 3, (x1, x2, x3), encK 3 eCal cs⟩ ⟨27, 4, (some ⟨W3.heap.size, 0, none⟩, 1, 1), cfN.toList⟩) W)) (S' := fun W => W.cell? ⟨w.heap.size, 0, none⟩ = some (.slice z1 z2 z3) ∧ W.cell? ⟨w.heap.size, 1, none⟩ = some (.slice p1 p2 p3) ∧ W.cell? ⟨w.heap.size, 2, none⟩ = some (.slice c1 c2 c3)) (fun _ h => h) (Lib.hid (HK.out.ou)) ⟨(HK.out.ou).box.cell rfl, (HK.out.ou).box.cell rfl, (HK.out.ou).box.cell rfl⟩ (fun W4 hA hH2 => ?_)
          clear hK K hH HK
          have HK := hA
          clear hA
          have hH := hH2
          clear hH2
          try simp only [Act.put, List.setIfInBounds_toArray, List.set_cons_zero, List.set_cons_succ]
          refine AnyZ.last (o := ⟨none, .store 27 (.tmp 3) (.tmp 15), 0, "made.go:267", #[⟨10, .data⟩, ⟨9, .data⟩, ⟨8, .chain⟩, ⟨0, .phase⟩, ⟨1, .phase⟩, ⟨2, .phase⟩, ⟨3, .phase⟩, ⟨4, .phase⟩, ⟨5, .phase⟩, ⟨6, .phase⟩, ⟨7, .phase⟩, ⟨8, .phase⟩, ⟨9, .phase⟩, ⟨10, .phase⟩], none⟩) (by kernel_rfl) rfl (fun K hK => ?_)
          have ⟨q0, f0⟩ := HK.out.zcell (j := 0) (by omega)
          have ⟨q1, f1⟩ := HK.out.zcell (j := 1) (by omega)
          have ⟨q2, f2⟩ := HK.out.zcell (j := 2) (by omega)
          have ⟨q3, f3⟩ := HK.out.zcell (j := 3) (by omega)
          simp only [cfN, cfgA, noSV, List.getElem?_cons_zero, List.getElem?_cons_succ] at q0 q1 q2 q3
          go_simp
          refine hK.out _ _ ?_
          clear hK K hH
          try simp only [Act.put, List.setIfInBounds_toArray, List.set_cons_zero, List.set_cons_succ]
          refine AnyZ.done (by kernel_rfl) ?_ _
          clear q0 q1 q2 q3 f0 f1 f2 f3
          go_wp2_with fail
          go_meet
          obtain ⟨ρ, hr1, hr2⟩ := cp_zero (xs := xs) (u1 := (u1, u2, u3)) (u2 := (v1, v2, v3)) (u3 := (x1, x2, x3)) ((((HK.out.ouset 0 (.slice u1 u2 u3)).ouset 1 (.slice v1 v2 v3)).ouset 2 (.slice x1 x2 x3)).ouset 3 (.slice none 0 0))
          exact ⟨W3.heap.size, ρ, rfl, Lib.hid ⟨hr1, hr2⟩⟩
        refine AllZ.cons (o := ⟨some 3, .alloc 27, 0, "made.go:267", #[], none⟩) rfl (fun K hK => ?_) AllZ.nil
        go_simp
        refine AnyZ.go hK (A := fun W => Hid (CpW w (z1, z2, z3) (p1, p2, p3) (c1, c2, c3) (s1, s2, s3) (mkZ ⟨32, 3, (u1, u2, u3), encK 3 eZone zs⟩ ⟨35, 6, (v1, v2, v3), encK 6 ePers ps⟩ nilR ⟨27, 4, (some ⟨W2.heap.size, 0, none⟩, 1, 1), cfN.toList⟩) W)) (S' := fun W => W.cell? ⟨w.heap.size, 0, none⟩ = some (.slice z1 z2 z3) ∧ W.cell? ⟨w.heap.size, 1, none⟩ = some (.slice p1 p2 p3) ∧ W.cell? ⟨w.heap.size, 2, none⟩ = some (.slice c1 c2 c3)) (fun _ h => h) (Lib.hid (HK.out.ou)) ⟨(HK.out.ou).box.cell rfl, (HK.out.ou).box.cell rfl, (HK.out.ou).box.cell rfl⟩ (fun W5 hA hH2 => ?_)
        clear hK K hH HK
        have HK := hA
        clear hA
        have hH := hH2
        clear hH2
        try simp only [Act.put, List.setIfInBounds_toArray, List.set_cons_zero, List.set_cons_succ]
        refine AnyZ.ready (rs := [8]) (by kernel_rfl) (by simp) ?_
        refine AllZ.cons (o := ⟨some 14, .call { callee := .builtin .append, args := #[.const (.slice none 0 0), .tmp 13], argTypes := #[24, 24] }, 24, "made.go:267", #[⟨7, .data⟩, ⟨5, .chain⟩], none⟩) rfl (fun K hK => ?_) AllZ.nil
        refine step_copy kCal W5 (by rfl) (.tmp 13) (by rfl) (w.heap.size + 2) (c1, c2, c3) cs (by rfl) (HC.out.at_ HK.out.base) HC.out.2.1 HC.out.2.2.1 HC.out.2.2.2 HK.out.le ?_
        intro x1 x2 x3 wq ho hl hg hf
        refine AnyZ.go hK (A := fun W => Hid (CpW w (z1, z2, z3) (p1, p2, p3) (c1, c2, c3) (s1, s2, s3) (mkZ ⟨32, 3, (u1, u2, u3), encK 3 eZone zs⟩ ⟨35, 6, (v1, v2, v3), encK 6 ePers ps⟩ ⟨79, 3, (x1, x2, x3), encK 3 eCal cs⟩ ⟨27, 4, (some ⟨W2.heap.size, 0, none⟩, 1, 1), cfN.toList⟩) W)) (S' := fun W => W.cell? ⟨w.heap.size, 0, none⟩ = some (.slice z1 z2 z3) ∧ W.cell? ⟨w.heap.size, 1, none⟩ = some (.slice p1 p2 p3) ∧ W.cell? ⟨w.heap.size, 2, none⟩ = some (.slice c1 c2 c3)) (fun _ h => h) (Lib.hid (HK.out.ca (u := (x1, x2, x3)) ho hl hg hf)) ⟨(HK.out.ca (u := (x1, x2, x3)) ho hl hg hf).box.cell rfl, (HK.out.ca (u := (x1, x2, x3)) ho hl hg hf).box.cell rfl, (HK.out.ca (u := (x1, x2, x3)) ho hl hg hf).box.cell rfl⟩ (fun W6 hA hH2 => ?_)
        clear hK K hH HK
        have HK := hA
        clear hA
        have hH := hH2
        clear hH2
        clear ho hl hg hf
        try simp only [Act.put, List.setIfInBounds_toArray, List.set_cons_zero, List.set_cons_succ]
        refine AnyZ.take [11] (i := 9) (oi := ⟨some 15, .build 27 #[(0, .tmp 8), (1, .tmp 11), (2, .tmp 14)], 27, "made.go:267", #[⟨2, .data⟩, ⟨5, .data⟩, ⟨8, .data⟩], none⟩) (v := ?_) rfl (by kernel_rfl) (by kernel_rfl) (by kernel_rfl) (by kernel_rfl) (fun _ _ _ h => h) (Or.inl ⟨by rfl, ?_⟩) hH ?_
        rotate_left
        focus (intro w hSw; (try dsimp only at hSw); go_simp; (try with_reducible rfl); done)
        try simp only [Act.put, List.setIfInBounds_toArray, List.set_cons_zero, List.set_cons_succ]
        refine AnyZ.last (o := ⟨none, .store 27 (.tmp 3) (.tmp 15), 0, "made.go:267", #[⟨10, .data⟩, ⟨9, .data⟩, ⟨8, .chain⟩, ⟨0, .phase⟩, ⟨1, .phase⟩, ⟨2, .phase⟩, ⟨3, .phase⟩, ⟨4, .phase⟩, ⟨5, .phase⟩, ⟨6, .phase⟩, ⟨7, .phase⟩, ⟨8, .phase⟩, ⟨9, .phase⟩, ⟨10, .phase⟩], none⟩) (by kernel_rfl) rfl (fun K hK => ?_)
        have ⟨q0, f0⟩ := HK.out.zcell (j := 0) (by omega)
        have ⟨q1, f1⟩ := HK.out.zcell (j := 1) (by omega)
        have ⟨q2, f2⟩ := HK.out.zcell (j := 2) (by omega)
        have ⟨q3, f3⟩ := HK.out.zcell (j := 3) (by omega)
        simp only [cfN, cfgA, noSV, List.getElem?_cons_zero, List.getElem?_cons_succ] at q0 q1 q2 q3
        go_simp
        refine hK.out _ _ ?_
        clear hK K hH
        try simp only [Act.put, List.setIfInBounds_toArray, List.set_cons_zero, List.set_cons_succ]
        refine AnyZ.done (by kernel_rfl) ?_ _
        clear q0 q1 q2 q3 f0 f1 f2 f3
        go_wp2_with fail
        go_meet
        obtain ⟨ρ, hr1, hr2⟩ := cp_zero (xs := xs) (u1 := (u1, u2, u3)) (u2 := (v1, v2, v3)) (u3 := (x1, x2, x3)) ((((HK.out.ouset 0 (.slice u1 u2 u3)).ouset 1 (.slice v1 v2 v3)).ouset 2 (.slice x1 x2 x3)).ouset 3 (.slice none 0 0))
        exact ⟨W2.heap.size, ρ, rfl, Lib.hid ⟨hr1, hr2⟩⟩
      refine AllZ.cons (o := ⟨some 3, .alloc 27, 0, "made.go:267", #[], none⟩) rfl (fun K hK => ?_) AllZ.nil
      go_simp
      refine AnyZ.go hK (A := fun W => Hid (CpW w (z1, z2, z3) (p1, p2, p3) (c1, c2, c3) (s1, s2, s3) (mkZ ⟨32, 3, (u1, u2, u3), encK 3 eZone zs⟩ nilR nilR ⟨27, 4, (some ⟨W1.heap.size, 0, none⟩, 1, 1), cfN.toList⟩) W)) (S' := fun W => W.cell? ⟨w.heap.size, 0, none⟩ = some (.slice z1 z2 z3) ∧ W.cell? ⟨w.heap.size, 1, none⟩ = some (.slice p1 p2 p3) ∧ W.cell? ⟨w.heap.size, 2, none⟩ = some (.slice c1 c2 c3)) (fun _ h => h) (Lib.hid (HK.out.ou)) ⟨(HK.out.ou).box.cell rfl, (HK.out.ou).box.cell rfl, (HK.out.ou).box.cell rfl⟩ (fun W7 hA hH2 => ?_)
      clear hK K hH HK
      have HK := hA
      clear hA
      have hH := hH2
      clear hH2
      try simp only [Act.put, List.setIfInBounds_toArray, List.set_cons_zero, List.set_cons_succ]
      refine AnyZ.ready (rs := [5]) (by kernel_rfl) (by simp) ?_
      refine AllZ.cons (o := ⟨some 11, .call { callee := .builtin .append, args := #[.const (.slice none 0 0), .tmp 10], argTypes := #[23, 23] }, 23, "made.go:267", #[⟨4, .data⟩, ⟨2, .chain⟩], none⟩) rfl (fun K hK => ?_) AllZ.nil
      refine step_copy kPer W7 (by rfl) (.tmp 10) (by rfl) (w.heap.size + 2) (p1, p2, p3) ps (by rfl) (HP.out.at_ HK.out.base) HP.out.2.1 HP.out.2.2.1 HP.out.2.2.2 HK.out.le ?_
      intro v1 v2 v3 wq ho hl hg hf
      refine AnyZ.go hK (A := fun W => Hid (CpW w (z1, z2, z3) (p1, p2, p3) (c1, c2, c3) (s1, s2, s3) (mkZ ⟨32, 3, (u1, u2, u3), encK 3 eZone zs⟩ ⟨35, 6, (v1, v2, v3), encK 6 ePers ps⟩ nilR ⟨27, 4, (some ⟨W1.heap.size, 0, none⟩, 1, 1), cfN.toList⟩) W)) (S' := fun W => W.cell? ⟨w.heap.size, 0, none⟩ = some (.slice z1 z2 z3) ∧ W.cell? ⟨w.heap.size, 1, none⟩ = some (.slice p1 p2 p3) ∧ W.cell? ⟨w.heap.size, 2, none⟩ = some (.slice c1 c2 c3)) (fun _ h => h) (Lib.hid (HK.out.pe (u := (v1, v2, v3)) ho hl hg hf)) ⟨(HK.out.pe (u := (v1, v2, v3)) ho hl hg hf).box.cell rfl, (HK.out.pe (u := (v1, v2, v3)) ho hl hg hf).box.cell rfl, (HK.out.pe (u := (v1, v2, v3)) ho hl hg hf).box.cell rfl⟩ (fun W8 hA hH2 => ?_)
      clear hK K hH HK
      have HK := hA
      clear hA
      have hH := hH2
      clear hH2
      clear ho hl hg hf
      try simp only [Act.put, List.setIfInBounds_toArray, List.set_cons_zero, List.set_cons_succ]
      refine AnyZ.ready (rs := [8]) (by kernel_rfl) (by simp) ?_
      refine AllZ.cons (o := ⟨some 14, .call { callee := .builtin .append, args := #[.const (.slice none 0 0), .tmp 13], argTypes := #[24, 24] }, 24, "made.go:267", #[⟨7, .data⟩, ⟨5, .chain⟩], none⟩) rfl (fun K hK => ?_) AllZ.nil
      refine step_copy kCal W8 (by rfl) (.tmp 13) (by rfl) (w.heap.size + 2) (c1, c2, c3) cs (by rfl) (HC.out.at_ HK.out.base) HC.out.2.1 HC.out.2.2.1 HC.out.2.2.2 HK.out.le ?_
      intro x1 x2 x3 wq ho hl hg hf
      refine AnyZ.go hK (A := fun W => Hid (CpW w (z1, z2, z3) (p1, p2, p3) (c1, c2, c3) (s1, s2, s3) (mkZ ⟨32, 3, (u1, u2, u3), encK 3 eZone zs⟩ ⟨35, 6, (v1, v2, v3), encK 6 ePers ps⟩ ⟨79, 3, (x1, x2, x3), encK 3 eCal cs⟩ ⟨27, 4, (some ⟨W1.heap.size, 0, none⟩, 1, 1), cfN.toList⟩) W)) (S' := fun W => W.cell? ⟨w.heap.size, 0, none⟩ = some (.slice z1 z2 z3) ∧ W.cell? ⟨w.heap.size, 1, none⟩ = some (.slice p1 p2 p3) ∧ W.cell? ⟨w.heap.size, 2, none⟩ = some (.slice c1 c2 c3)) (fun _ h => h) (Lib.hid (HK.out.ca (u := (x1, x2, x3)) ho hl hg hf)) ⟨(HK.out.ca (u := (x1, x2, x3)) ho hl hg hf).box.cell rfl, (HK.out.ca (u := (x1, x2, x3)) ho hl hg hf).box.cell rfl, (HK.out.ca (u := (x1, x2, x3)) ho hl hg hf).box.cell rfl⟩ (fun W9 hA hH2 => ?_)
      clear hK K hH HK
      have HK := hA
      clear hA
      have hH := hH2
      clear hH2
      clear ho hl hg hf
      try simp only [Act.put, List.setIfInBounds_toArray, List.set_cons_zero, List.set_cons_succ]
      refine AnyZ.take [11] (i := 9) (oi := ⟨some 15, .build 27 #[(0, .tmp 8), (1, .tmp 11), (2, .tmp 14)], 27, "made.go:267", #[⟨2, .data⟩, ⟨5, .data⟩, ⟨8, .data⟩], none⟩) (v := ?_) rfl (by kernel_rfl) (by kernel_rfl) (by kernel_rfl) (by kernel_rfl) (fun _ _ _ h => h) (Or.inl ⟨by rfl, ?_⟩) hH ?_
      rotate_left
      focus (intro w hSw; (try dsimp only at hSw); go_simp; (try with_reducible rfl); done)
      try simp only [Act.put, List.setIfInBounds_toArray, List.set_cons_zero, List.set_cons_succ]
      refine AnyZ.last (o := ⟨none, .store 27 (.tmp 3) (.tmp 15), 0, "made.go:267", #[⟨10, .data⟩, ⟨9, .data⟩, ⟨8, .chain⟩, ⟨0, .phase⟩, ⟨1, .phase⟩, ⟨2, .phase⟩, ⟨3, .phase⟩, ⟨4, .phase⟩, ⟨5, .phase⟩, ⟨6, .phase⟩, ⟨7, .phase⟩, ⟨8, .phase⟩, ⟨9, .phase⟩, ⟨10, .phase⟩], none⟩) (by kernel_rfl) rfl (fun K hK => ?_)
      have ⟨q0, f0⟩ := HK.out.zcell (j := 0) (by omega)
      have ⟨q1, f1⟩ := HK.out.zcell (j := 1) (by omega)
      have ⟨q2, f2⟩ := HK.out.zcell (j := 2) (by omega)
      have ⟨q3, f3⟩ := HK.out.zcell (j := 3) (by omega)
      simp only [cfN, cfgA, noSV, List.getElem?_cons_zero, List.getElem?_cons_succ] at q0 q1 q2 q3
      go_simp
      refine hK.out _ _ ?_
      clear hK K hH
      try simp only [Act.put, List.setIfInBounds_toArray, List.set_cons_zero, List.set_cons_succ]
      refine AnyZ.done (by kernel_rfl) ?_ _
      clear q0 q1 q2 q3 f0 f1 f2 f3
      go_wp2_with fail
      go_meet
      obtain ⟨ρ, hr1, hr2⟩ := cp_zero (xs := xs) (u1 := (u1, u2, u3)) (u2 := (v1, v2, v3)) (u3 := (x1, x2, x3)) ((((HK.out.ouset 0 (.slice u1 u2 u3)).ouset 1 (.slice v1 v2 v3)).ouset 2 (.slice x1 x2 x3)).ouset 3 (.slice none 0 0))
      exact ⟨W1.heap.size, ρ, rfl, Lib.hid ⟨hr1, hr2⟩⟩
    refine AllZ.cons (o := ⟨some 3, .alloc 27, 0, "made.go:267", #[], none⟩) rfl (fun K hK => ?_) AllZ.nil
    go_simp
    refine AnyZ.go hK (A := fun W => Hid (CpW w (z1, z2, z3) (p1, p2, p3) (c1, c2, c3) (s1, s2, s3) (mkZ nilR nilR nilR ⟨27, 4, (some ⟨Wa.heap.size, 0, none⟩, 1, 1), cfN.toList⟩) W)) (S' := fun W => W.cell? ⟨w.heap.size, 0, none⟩ = some (.slice z1 z2 z3) ∧ W.cell? ⟨w.heap.size, 1, none⟩ = some (.slice p1 p2 p3) ∧ W.cell? ⟨w.heap.size, 2, none⟩ = some (.slice c1 c2 c3)) (fun _ h => h) (Lib.hid (HK.out.ou)) ⟨(HK.out.ou).box.cell rfl, (HK.out.ou).box.cell rfl, (HK.out.ou).box.cell rfl⟩ (fun W10 hA hH2 => ?_)
    clear hK K hH HK
    have HK := hA
    clear hA
    have hH := hH2
    clear hH2
    try simp only [Act.put, List.setIfInBounds_toArray, List.set_cons_zero, List.set_cons_succ]
    refine AnyZ.ready (rs := [2]) (by kernel_rfl) (by simp) ?_
    refine AllZ.cons (o := ⟨some 8, .call { callee := .builtin .append, args := #[.const (.slice none 0 0), .tmp 7], argTypes := #[22, 22] }, 22, "made.go:267", #[⟨1, .data⟩], none⟩) rfl (fun K hK => ?_) AllZ.nil
    refine step_copy kZon W10 (by rfl) (.tmp 7) (by rfl) (w.heap.size + 2) (z1, z2, z3) zs (by rfl) (HZ.out.at_ HK.out.base) HZ.out.2.1 HZ.out.2.2.1 HZ.out.2.2.2 HK.out.le ?_
    intro u1 u2 u3 wq ho hl hg hf
    refine AnyZ.go hK (A := fun W => Hid (CpW w (z1, z2, z3) (p1, p2, p3) (c1, c2, c3) (s1, s2, s3) (mkZ ⟨32, 3, (u1, u2, u3), encK 3 eZone zs⟩ nilR nilR ⟨27, 4, (some ⟨Wa.heap.size, 0, none⟩, 1, 1), cfN.toList⟩) W)) (S' := fun W => W.cell? ⟨w.heap.size, 0, none⟩ = some (.slice z1 z2 z3) ∧ W.cell? ⟨w.heap.size, 1, none⟩ = some (.slice p1 p2 p3) ∧ W.cell? ⟨w.heap.size, 2, none⟩ = some (.slice c1 c2 c3)) (fun _ h => h) (Lib.hid (HK.out.zn (u := (u1, u2, u3)) ho hl hg hf)) ⟨(HK.out.zn (u := (u1, u2, u3)) ho hl hg hf).box.cell rfl, (HK.out.zn (u := (u1, u2, u3)) ho hl hg hf).box.cell rfl, (HK.out.zn (u := (u1, u2, u3)) ho hl hg hf).box.cell rfl⟩ (fun W11 hA hH2 => ?_)
    clear hK K hH HK
    have HK := hA
    clear hA
    have hH := hH2
    clear hH2
    clear ho hl hg hf
    try simp only [Act.put, List.setIfInBounds_toArray, List.set_cons_zero, List.set_cons_succ]
    refine AnyZ.ready (rs := [5]) (by kernel_rfl) (by simp) ?_
    refine AllZ.cons (o := ⟨some 11, .call { callee := .builtin .append, args := #[.const (.slice none 0 0), .tmp 10], argTypes := #[23, 23] }, 23, "made.go:267", #[⟨4, .data⟩, ⟨2, .chain⟩], none⟩) rfl (fun K hK => ?_) AllZ.nil
    refine step_copy kPer W11 (by rfl) (.tmp 10) (by rfl) (w.heap.size + 2) (p1, p2, p3) ps (by rfl) (HP.out.at_ HK.out.base) HP.out.2.1 HP.out.2.2.1 HP.out.2.2.2 HK.out.le ?_
    intro v1 v2 v3 wq ho hl hg hf
    refine AnyZ.go hK (A := fun W => Hid (CpW w (z1, z2, z3) (p1, p2, p3) (c1, c2, c3) (s1, s2, s3) (mkZ ⟨32, 3, (u1, u2, u3), encK 3 eZone zs⟩ ⟨35, 6, (v1, v2, v3), encK 6 ePers ps⟩ nilR ⟨27, 4, (some ⟨Wa.heap.size, 0, none⟩, 1, 1), cfN.toList⟩) W)) (S' := fun W => W.cell? ⟨w.heap.size, 0, none⟩ = some (.slice z1 z2 z3) ∧ W.cell? ⟨w.heap.size, 1, none⟩ = some (.slice p1 p2 p3) ∧ W.cell? ⟨w.heap.size, 2, none⟩ = some (.slice c1 c2 c3)) (fun _ h => h) (Lib.hid (HK.out.pe (u := (v1, v2, v3)) ho hl hg hf)) ⟨(HK.out.pe (u := (v1, v2, v3)) ho hl hg hf).box.cell rfl, (HK.out.pe (u := (v1, v2, v3)) ho hl hg hf).box.cell rfl, (HK.out.pe (u := (v1, v2, v3)) ho hl hg hf).box.cell rfl⟩ (fun W12 hA hH2 => ?_)
    clear hK K hH HK
    have HK := hA
    clear hA
    have hH := hH2
    clear hH2
    clear ho hl hg hf
    try simp only [Act.put, List.setIfInBounds_toArray, List.set_cons_zero, List.set_cons_succ]
    refine AnyZ.ready (rs := [8]) (by kernel_rfl) (by simp) ?_
    refine AllZ.cons (o := ⟨some 14, .call { callee := .builtin .append, args := #[.const (.slice none 0 0), .tmp 13], argTypes := #[24, 24] }, 24, "made.go:267", #[⟨7, .data⟩, ⟨5, .chain⟩], none⟩) rfl (fun K hK => ?_) AllZ.nil
    refine step_copy kCal W12 (by rfl) (.tmp 13) (by rfl) (w.heap.size + 2) (c1, c2, c3) cs (by rfl) (HC.out.at_ HK.out.base) HC.out.2.1 HC.out.2.2.1 HC.out.2.2.2 HK.out.le ?_
    intro x1 x2 x3 wq ho hl hg hf
    refine AnyZ.go hK (A := fun W => Hid (CpW w (z1, z2, z3) (p1, p2, p3) (c1, c2, c3) (s1, s2, s3) (mkZ ⟨32, 3, (u1, u2, u3), encK 3 eZone zs⟩ ⟨35, 6, (v1, v2, v3), encK 6 ePers ps⟩ ⟨79, 3, (x1, x2, x3), encK 3 eCal cs⟩ ⟨27, 4, (some ⟨Wa.heap.size, 0, none⟩, 1, 1), cfN.toList⟩) W)) (S' := fun W => W.cell? ⟨w.heap.size, 0, none⟩ = some (.slice z1 z2 z3) ∧ W.cell? ⟨w.heap.size, 1, none⟩ = some (.slice p1 p2 p3) ∧ W.cell? ⟨w.heap.size, 2, none⟩ = some (.slice c1 c2 c3)) (fun _ h => h) (Lib.hid (HK.out.ca (u := (x1, x2, x3)) ho hl hg hf)) ⟨(HK.out.ca (u := (x1, x2, x3)) ho hl hg hf).box.cell rfl, (HK.out.ca (u := (x1, x2, x3)) ho hl hg hf).box.cell rfl, (HK.out.ca (u := (x1, x2, x3)) ho hl hg hf).box.cell rfl⟩ (fun W13 hA hH2 => ?_)
    clear hK K hH HK
    have HK := hA
    clear hA
    have hH := hH2
    clear hH2
    clear ho hl hg hf
    try simp only [Act.put, List.setIfInBounds_toArray, List.set_cons_zero, List.set_cons_succ]
    refine AnyZ.take [11] (i := 9) (oi := ⟨some 15, .build 27 #[(0, .tmp 8), (1, .tmp 11), (2, .tmp 14)], 27, "made.go:267", #[⟨2, .data⟩, ⟨5, .data⟩, ⟨8, .data⟩], none⟩) (v := ?_) rfl (by kernel_rfl) (by kernel_rfl) (by kernel_rfl) (by kernel_rfl) (fun _ _ _ h => h) (Or.inl ⟨by rfl, ?_⟩) hH ?_
    rotate_left
    focus (intro w hSw; (try dsimp only at hSw); go_simp; (try with_reducible rfl); done)
    try simp only [Act.put, List.setIfInBounds_toArray, List.set_cons_zero, List.set_cons_succ]
    refine AnyZ.last (o := ⟨none, .store 27 (.tmp 3) (.tmp 15), 0, "made.go:267", #[⟨10, .data⟩, ⟨9, .data⟩, ⟨8, .chain⟩, ⟨0, .phase⟩, ⟨1, .phase⟩, ⟨2, .phase⟩, ⟨3, .phase⟩, ⟨4, .phase⟩, ⟨5, .phase⟩, ⟨6, .phase⟩, ⟨7, .phase⟩, ⟨8, .phase⟩, ⟨9, .phase⟩, ⟨10, .phase⟩], none⟩) (by kernel_rfl) rfl (fun K hK => ?_)
    have ⟨q0, f0⟩ := HK.out.zcell (j := 0) (by omega)
    have ⟨q1, f1⟩ := HK.out.zcell (j := 1) (by omega)
    have ⟨q2, f2⟩ := HK.out.zcell (j := 2) (by omega)
    have ⟨q3, f3⟩ := HK.out.zcell (j := 3) (by omega)
    simp only [cfN, cfgA, noSV, List.getElem?_cons_zero, List.getElem?_cons_succ] at q0 q1 q2 q3
    go_simp
    refine hK.out _ _ ?_
    clear hK K hH
    try simp only [Act.put, List.setIfInBounds_toArray, List.set_cons_zero, List.set_cons_succ]
    refine AnyZ.done (by kernel_rfl) ?_ _
    clear q0 q1 q2 q3 f0 f1 f2 f3
    go_wp2_with fail
    go_meet
    obtain ⟨ρ, hr1, hr2⟩ := cp_zero (xs := xs) (u1 := (u1, u2, u3)) (u2 := (v1, v2, v3)) (u3 := (x1, x2, x3)) ((((HK.out.ouset 0 (.slice u1 u2 u3)).ouset 1 (.slice v1 v2 v3)).ouset 2 (.slice x1 x2 x3)).ouset 3 (.slice none 0 0))
    exact ⟨Wa.heap.size, ρ, rfl, Lib.hid ⟨hr1, hr2⟩⟩
  case rest =>
    clear HK
    obtain ⟨bo, ρ, rfl, HK⟩ := hcut
    obtain ⟨w0, rfl⟩ : ∃ w0 : World, w0 = wc := ⟨_, rfl⟩
    go_wp2_with fail
    go_loopw [4] (fun vi wr => ∃ (k : Nat) (ρ : Key → Row), vi = .int .i64 k ∧ k ≤ s2 ∧ Hid (CpW w (z1, z2, z3) (p1, p2, p3) (c1, c2, c3) (s1, s2, s3) ρ wr ∧ Cp bo zs ps cs xs k ρ)) (fun vi _ => s2 - (intOf vi).toNat)
    case atStart => exact ⟨0, ρ, rfl, Nat.zero_le _, HK⟩
    case round =>
      clear HK
      obtain ⟨k, ρ, rfl, hk, HK⟩ := hrel
      have k3 : wr.cell? ⟨w.heap.size, 3, none⟩ = some (.slice s1 s2 s3) := HK.out.1.box.cell rfl
      by_cases hlt : k < s2
      · obtain ⟨⟨⟨sn, ⟨y1, y2, y3⟩, e1, e2, e3⟩, ys, es⟩, hgx⟩ := get_ex (xs := xs) (i := k) (by rw [HN.out]; exact hlt)
        have HG := Lib.hid hgx
        have HE := Lib.hid (HX.out _ (List.mem_of_getElem? hgx))
        obtain ⟨b, off, ea, hb, hc⟩ := (HS.out.at_ HK.out.1.base) (by rw [List.length_map, HN.out]; omega)
        have hc := hc k (sn, ((y1, y2, y3), (e1, e2, e3))) (by rw [List.getElem?_map, hgx]; rfl)
        simp only at ea
        subst ea
        have t0 := hc 0 (by decide)
        have t1 := hc 1 (by decide)
        have t2 := hc 2 (by decide)
        simp only [eSch, Nat.add_zero] at t0 t1 t2
        obtain ⟨nb, hnb⟩ : ∃ nb : ByteArray, (⟨sn.name.toArray⟩ : ByteArray) = nb := ⟨_, rfl⟩
        rw [hnb] at t0
        have HNB := Lib.hid hnb
        have HK1 := Lib.hid (show CpW w (z1, z2, z3) (p1, p2, p3) (c1, c2, c3) (some ⟨b, off, none⟩, s2, s3) (mkR ρ k (ρ (.la k)) (ρ (.ed k)) (ρ .sc) (ρ (.ru 0)) ⟨44, 3, (some ⟨wr.heap.size, 0, none⟩, 1, 1), [.string nb, .slice y1 y2 y3, .slice e1 e2 e3]⟩) (wr.alloc (.cells #[.string nb, .slice y1 y2 y3, .slice e1 e2 e3] 44)) from HK.out.1.snew HK.out.2.s k #[.string nb, .slice y1 y2 y3, .slice e1 e2 e3] 44)
        have HCP := Lib.hid HK.out.2
        clear HK hgx hnb hc
        go_upto_region 6 with fail
        go_cut [] (fun wx => ∃ (u1 v1 : Option Addr) (u2 u3 v2 v3 : Nat), Hid (CpW w (z1, z2, z3) (p1, p2, p3) (c1, c2, c3) (some ⟨b, off, none⟩, s2, s3) (mkR ρ k ⟨40, 10, (u1, u2, u3), encK 10 eLay ys⟩ ⟨46, 5, (v1, v2, v3), encK 5 eEdit es⟩ (ρ .sc) (ρ (.ru 0)) ⟨44, 3, (some ⟨wr.heap.size, 0, none⟩, 1, 1), [.string nb, .slice u1 u2 u3, .slice v1 v2 v3]⟩) wx))
        case first =>
          refine AnyQ.start [7, 8, 9] (A := fun W => Hid (CpW w (z1, z2, z3) (p1, p2, p3) (c1, c2, c3) (some ⟨b, off, none⟩, s2, s3) (mkR ρ k (ρ (.la k)) (ρ (.ed k)) (ρ .sc) (ρ (.ru 0)) ⟨44, 3, (some ⟨wr.heap.size, 0, none⟩, 1, 1), [.string nb, .slice y1 y2 y3, .slice e1 e2 e3]⟩) W)) (S := (fun W => W.cell? ⟨wr.heap.size, 1, none⟩ = some (.slice y1 y2 y3) ∧ W.cell? ⟨wr.heap.size, 2, none⟩ = some (.slice e1 e2 e3))) (by kernel_rfl) (Lib.hid HK1.out.drew) ⟨(HK1.out.drew.scell (j := 1) (by omega)).1, (HK1.out.drew.scell (j := 2) (by omega)).1⟩ (fun Wa HK hH => ?_)
          refine AnyQ.take [7, 8, 9] (i := 0) (oi := ⟨some 28, .fieldAddr 44 (.tmp 5) 1, 0, "made.go:270", #[], none⟩) (v := ?_) rfl (by kernel_rfl) (by kernel_rfl) (by kernel_rfl) (by kernel_rfl) (fun _ _ _ h => h) (Or.inl ⟨by rfl, ?_⟩) hH ?_
          rotate_left
          focus (intro w hSw; (try dsimp only at hSw); go_simp; (try with_reducible rfl); done)
          try simp only [Act.put, List.setIfInBounds_toArray, List.set_cons_zero, List.set_cons_succ]
          refine AnyQ.take [7, 8, 9] (i := 1) (oi := ⟨some 29, .load 41 (.tmp 28), 41, "made.go:270", #[⟨0, .data⟩], none⟩) (v := ?_) rfl (by kernel_rfl) (by kernel_rfl) (by kernel_rfl) (by kernel_rfl) (fun _ _ _ h => h) (Or.inl ⟨by rfl, ?_⟩) hH ?_
          rotate_left
          focus (intro w hSw; (try dsimp only at hSw); go_simp; (try with_reducible rfl); done)
          try simp only [Act.put, List.setIfInBounds_toArray, List.set_cons_zero, List.set_cons_succ]
          refine AnyQ.take [7, 8, 9] (i := 3) (oi := ⟨some 31, .fieldAddr 44 (.tmp 5) 2, 0, "made.go:270", #[], none⟩) (v := ?_) rfl (by kernel_rfl) (by kernel_rfl) (by kernel_rfl) (by kernel_rfl) (fun _ _ _ h => h) (Or.inl ⟨by rfl, ?_⟩) hH ?_
          rotate_left
          focus (intro w hSw; (try dsimp only at hSw); go_simp; (try with_reducible rfl); done)
          try simp only [Act.put, List.setIfInBounds_toArray, List.set_cons_zero, List.set_cons_succ]
          refine AnyQ.take [7, 8, 9] (i := 4) (oi := ⟨some 32, .load 42 (.tmp 31), 42, "made.go:270", #[⟨3, .data⟩], none⟩) (v := ?_) rfl (by kernel_rfl) (by kernel_rfl) (by kernel_rfl) (by kernel_rfl) (fun _ _ _ h => h) (Or.inl ⟨by rfl, ?_⟩) hH ?_
          rotate_left
          focus (intro w hSw; (try dsimp only at hSw); go_simp; (try with_reducible rfl); done)
          try simp only [Act.put, List.setIfInBounds_toArray, List.set_cons_zero, List.set_cons_succ]
          refine AnyQ.ready (rs := [2]) (by kernel_rfl) (by simp) ?_
          refine AllQ.cons (o := ⟨some 30, .call { callee := .builtin .append, args := #[.const (.slice none 0 0), .tmp 29], argTypes := #[41, 41] }, 41, "made.go:270", #[⟨1, .data⟩], none⟩) rfl (fun K hK => ?_) AllQ.nil
          refine step_copy kLay Wa (by rfl) (.tmp 29) (by rfl) (w.heap.size + 2) (y1, y2, y3) ys (by rfl) (HE.out.1.at_ HK.out.base) HE.out.1.2.1 HE.out.1.2.2.1 HE.out.1.2.2.2 HK.out.le ?_
          intro u1 u2 u3 wq ho hl hg hf
          have HQ := HK.out.la (u := (u1, u2, u3)) (HCP.out.no k (Nat.le_refl _)).1 ho hl hg hf
          refine AnyQ.go hK (A := fun W => Hid (CpW w (z1, z2, z3) (p1, p2, p3) (c1, c2, c3) (some ⟨b, off, none⟩, s2, s3) (mkR ρ k ⟨40, 10, (u1, u2, u3), encK 10 eLay ys⟩ (ρ (.ed k)) (ρ .sc) (ρ (.ru 0)) ⟨44, 3, (some ⟨wr.heap.size, 0, none⟩, 1, 1), [.string nb, .slice y1 y2 y3, .slice e1 e2 e3]⟩) W)) (S' := (fun W => W.cell? ⟨wr.heap.size, 1, none⟩ = some (.slice y1 y2 y3) ∧ W.cell? ⟨wr.heap.size, 2, none⟩ = some (.slice e1 e2 e3))) (fun _ h => h) (Lib.hid HQ) ⟨(HQ.scell (j := 1) (by omega)).1, (HQ.scell (j := 2) (by omega)).1⟩ (fun Wb HK2 hH2 => ?_)
          clear hK K hH HK ho hl hg hf HQ
          try simp only [Act.put, List.setIfInBounds_toArray, List.set_cons_zero, List.set_cons_succ]
          have hH := hH2
          clear hH2
          refine AnyQ.take [7, 8, 9] (i := 6) (oi := ⟨some 34, .fieldAddr 44 (.tmp 5) 1, 0, "made.go:270", #[⟨0, .phase⟩, ⟨1, .phase⟩, ⟨2, .phase⟩, ⟨3, .phase⟩, ⟨4, .phase⟩, { on := 5, ground := .textOnly Go.Departure.lateStoresUnsure }], none⟩) (v := ?_) rfl (by kernel_rfl) (by kernel_rfl) (by kernel_rfl) (by kernel_rfl) (fun _ _ _ h => h) (Or.inl ⟨by rfl, ?_⟩) hH ?_
          rotate_left
          focus (intro w hSw; (try dsimp only at hSw); go_simp; (try with_reducible rfl); done)
          try simp only [Act.put, List.setIfInBounds_toArray, List.set_cons_zero, List.set_cons_succ]
          refine AnyQ.ready (rs := [5]) (by kernel_rfl) (by simp) ?_
          refine AllQ.cons (o := ⟨some 33, .call { callee := .builtin .append, args := #[.const (.slice none 0 0), .tmp 32], argTypes := #[42, 42] }, 42, "made.go:270", #[⟨4, .data⟩, ⟨2, .chain⟩], none⟩) rfl (fun K hK => ?_) AllQ.nil
          refine step_copy kEdi Wb (by rfl) (.tmp 32) (by rfl) (w.heap.size + 2) (e1, e2, e3) es (by rfl) (HE.out.2.at_ HK2.out.base) HE.out.2.2.1 HE.out.2.2.2.1 HE.out.2.2.2.2 HK2.out.le ?_
          intro v1 v2 v3 wq ho hl hg hf
          have HQ := HK2.out.ed (u := (v1, v2, v3)) (HCP.out.no k (Nat.le_refl _)).2 ho hl hg hf
          refine AnyQ.go hK (A := fun W => Hid (CpW w (z1, z2, z3) (p1, p2, p3) (c1, c2, c3) (some ⟨b, off, none⟩, s2, s3) (mkR ρ k ⟨40, 10, (u1, u2, u3), encK 10 eLay ys⟩ ⟨46, 5, (v1, v2, v3), encK 5 eEdit es⟩ (ρ .sc) (ρ (.ru 0)) ⟨44, 3, (some ⟨wr.heap.size, 0, none⟩, 1, 1), [.string nb, .slice y1 y2 y3, .slice e1 e2 e3]⟩) W)) (S' := (fun W => W.cell? ⟨wr.heap.size, 1, none⟩ = some (.slice y1 y2 y3) ∧ W.cell? ⟨wr.heap.size, 2, none⟩ = some (.slice e1 e2 e3))) (fun _ h => h) (Lib.hid HQ) ⟨(HQ.scell (j := 1) (by omega)).1, (HQ.scell (j := 2) (by omega)).1⟩ (fun Wc HK3 hH2 => ?_)
          clear hK K hH HK2 ho hl hg hf HQ
          try simp only [Act.put, List.setIfInBounds_toArray, List.set_cons_zero, List.set_cons_succ]
          have hH := hH2
          clear hH2
          have ⟨q1, f1⟩ := HK3.out.scell (j := 1) (by omega)
          have ⟨q2, f2⟩ := HK3.out.scell (j := 2) (by omega)
          simp only [List.getElem?_cons_zero, List.getElem?_cons_succ] at q1 q2
          refine AnyQ.last (i := 7) (o := ⟨none, .store 41 (.tmp 34) (.tmp 30), 0, "made.go:270", #[⟨6, .data⟩, ⟨2, .data⟩, ⟨5, .chain⟩, ⟨0, .phase⟩, ⟨1, .phase⟩, ⟨2, .phase⟩, ⟨3, .phase⟩, ⟨4, .phase⟩, { on := 5, ground := .textOnly Go.Departure.lateStoresUnsure }], none⟩) (by simp) (by kernel_rfl) rfl (fun K hK => ?_)
          go_simp
          refine hK.out _ _ ?_
          clear hK K hH
          try simp only [Act.put, List.setIfInBounds_toArray, List.set_cons_zero, List.set_cons_succ]
          refine AnyQ.free (i := 8) (oi := ⟨some 35, .fieldAddr 44 (.tmp 5) 2, 0, "made.go:270", #[⟨0, .phase⟩, ⟨1, .phase⟩, ⟨2, .phase⟩, ⟨3, .phase⟩, ⟨4, .phase⟩, ⟨5, .phase⟩, ⟨6, .phase⟩, ⟨7, .phase⟩], none⟩) (v := ?_) (by kernel_rfl) rfl (Or.inl ⟨by rfl, ?_⟩) (by simp) ?_
          rotate_left
          focus (intro w hSw; (try subst hSw); go_simp; (try with_reducible rfl); done)
          try simp only [Act.put, List.setIfInBounds_toArray, List.set_cons_zero, List.set_cons_succ]
          refine AnyQ.last (i := 9) (o := ⟨none, .store 42 (.tmp 35) (.tmp 33), 0, "made.go:270", #[⟨8, .data⟩, ⟨5, .data⟩, ⟨7, .chain⟩, ⟨0, .phase⟩, ⟨1, .phase⟩, ⟨2, .phase⟩, ⟨3, .phase⟩, ⟨4, .phase⟩, ⟨5, .phase⟩, ⟨6, .phase⟩, ⟨7, .phase⟩], none⟩) (by simp) (by kernel_rfl) rfl (fun K hK => ?_)
          go_simp
          refine hK.out _ _ ?_
          clear hK K
          try simp only [Act.put, List.setIfInBounds_toArray, List.set_cons_zero, List.set_cons_succ]
          refine AnyQ.done (by kernel_rfl) ?_ _
          clear q1 q2 f1 f2
          go_wp2_with fail
          go_meet
          exact ⟨u1, v1, u2, u3, v2, v3, Lib.hid ((HK3.out.sset 1 (.slice u1 u2 u3)).sset 2 (.slice v1 v2 v3))⟩
        case rest =>
          obtain ⟨u1, v1, u2, u3, v2, v3, HK4⟩ := hcut
          obtain ⟨w4, rfl⟩ : ∃ w4 : World, w4 = wc := ⟨_, rfl⟩
          clear HK1 t0 t1 t2 k3
          obtain ⟨r1, r2, r3, hr⟩ : ∃ r1 r2 r3, (ρ .sc).v = (r1, r2, r3) := ⟨_, _, _, rfl⟩
          have HR := Lib.hid hr
          have hso := Lib.hid (show OwnL 44 3 eSch w4 (w.heap.size + 2) (.slice r1 r2 r3) (cpL ρ xs k) ∧ (cpL ρ xs k).length = r2 from by
            have h1 := HCP.out.sc
            rw [hr] at h1
            exact HK4.out.rows.list (((mkR_get _ _ _ _ _ _ _).2.2.1).trans h1) (by omega))
          have hcl := cpL_len (ρ := ρ) (xs := xs) (k := k) (by rw [HN.out]; omega)
          have HOU := Lib.hid (show CpW w (z1, z2, z3) (p1, p2, p3) (c1, c2, c3) (some ⟨b, off, none⟩, s2, s3) (mkR ρ k ⟨40, 10, (u1, u2, u3), encK 10 eLay ys⟩ ⟨46, 5, (v1, v2, v3), encK 5 eEdit es⟩ (ρ .sc) ⟨27, 4, (some ⟨bo, 0, none⟩, 1, 1), [sv (ρ .zn).v, sv (ρ .pe).v, sv (ρ .ca).v, sv (r1, r2, r3)]⟩ ⟨44, 3, (some ⟨wr.heap.size, 0, none⟩, 1, 1), [.string nb, .slice u1 u2 u3, .slice v1 v2 v3]⟩) w4 from by
            have h1 := HCP.out.out
            rw [hr] at h1
            have h2 := HK4.out
            rw [h1] at h2
            exact h2)
          have ⟨o3, g3⟩ := HOU.out.ocell (j := 3) (by omega)
          have ⟨q0, f0⟩ := HOU.out.scell (j := 0) (by omega)
          have ⟨q1, f1⟩ := HOU.out.scell (j := 1) (by omega)
          have ⟨q2, f2⟩ := HOU.out.scell (j := 2) (by omega)
          simp only [List.getElem?_cons_zero, List.getElem?_cons_succ, sv] at q0 q1 q2 o3
          have hlen : (cpL ρ xs k).length ≤ 900000 := by omega
          have hle := HK4.out.le
          have hr2 : k = r2 := by rw [← hcl]; exact hso.out.2
          clear HK4 hr
          subst hr2
          go_wp2_with (at_builtin; go_loud (refine wp_append_one kSch _ rfl _ _ rfl (w.heap.size + 2) _ (cpL ρ xs k) rfl (OwnL.alloc hso.out.1 _) w4.heap.size (sn, ((u1, u2, u3), (v1, v2, v3))) rfl (one_new (blk_now (by simp)) (csch_vals sn nb HNB.out u1 u2 u3 v1 v2 v3)) hlen (by simp; omega) ?_; intro gg cap w5 hO hB hg hgo _; rw [hcl] at hO ⊢; have FK := (HOU.out.alloc _).sc (u := (some ⟨gg, 0, none⟩, k + 1, cap)) hO (by rw [List.length_append, hcl]; rfl) (by rw [HR.out]; exact hg) (fun q hq => by have e2 : some gg = some q := hq; cases e2; rw [HR.out]; exact hgo.imp id (fun e => by rw [e]; exact Nat.le_refl _)); have x1 := (FK.ocell (j := 3) (by omega)).1; have x2 := (FK.ocell (j := 3) (by omega)).2; simp only [List.getElem?_cons_zero, List.getElem?_cons_succ, sv] at x1; have HFK := Lib.hid FK; clear FK hO hB hg hgo hso o3 g3 q0 q1 q2 f0 f1 f2))
          go_wp2_with fail
          go_roundw
          case rel => exact ⟨k + 1, _, by go_num, by omega, Lib.hid ⟨(HFK.out.oset 3 (.slice (some ⟨gg, 0, none⟩) (k + 1) cap)).sdrop, cp_succ (vs := (some ⟨gg, 0, none⟩, k + 1, cap)) HCP.out HG.out⟩⟩
          case measure => simp [intOf]; omega
      · obtain rfl : k = s2 := by omega
        obtain ⟨a1, a2, a3, ha⟩ : ∃ a1 a2 a3, (ρ .zn).v = (a1, a2, a3) := ⟨_, _, _, rfl⟩
        obtain ⟨b1, b2, b3, hb⟩ : ∃ a1 a2 a3, (ρ .pe).v = (a1, a2, a3) := ⟨_, _, _, rfl⟩
        obtain ⟨d1, d2, d3, hd⟩ : ∃ a1 a2 a3, (ρ .ca).v = (a1, a2, a3) := ⟨_, _, _, rfl⟩
        obtain ⟨r1, r2, r3, hr⟩ : ∃ a1 a2 a3, (ρ .sc).v = (a1, a2, a3) := ⟨_, _, _, rfl⟩
        have he : ρ (.ru 0) = ⟨27, 4, (some ⟨bo, 0, none⟩, 1, 1), [.slice a1 a2 a3, .slice b1 b2 b3, .slice d1 d2 d3, .slice r1 r2 r3]⟩ := by rw [HK.out.2.out, ha, hb, hd, hr]; rfl
        have o0 := HK.out.1.rows.cell he (j := 0) (by omega)
        have o1 := HK.out.1.rows.cell he (j := 1) (by omega)
        have o2 := HK.out.1.rows.cell he (j := 2) (by omega)
        have o3 := HK.out.1.rows.cell he (j := 3) (by omega)
        simp only [List.getElem?_cons_zero, List.getElem?_cons_succ] at o0 o1 o2 o3
        have r0 : wr.cell? ⟨w.heap.size + 1, 0, none⟩ = some (.slice none 0 0) := HK.out.1.res.cell rfl
        have r1' : wr.cell? ⟨w.heap.size + 1, 1, none⟩ = some (.slice none 0 0) := HK.out.1.res.cell rfl
        have r2' : wr.cell? ⟨w.heap.size + 1, 2, none⟩ = some (.slice none 0 0) := HK.out.1.res.cell rfl
        have r3' : wr.cell? ⟨w.heap.size + 1, 3, none⟩ = some (.slice none 0 0) := HK.out.1.res.cell rfl
        have f0 := HK.out.1.res.free 0
        have f1 := HK.out.1.res.free 1
        have f2 := HK.out.1.res.free 2
        have f3 := HK.out.1.res.free 3
        have HV := Lib.hid (show cfgV (ρ .zn).v (ρ .pe).v (ρ .ca).v (ρ .sc).v = cfgV (a1, a2, a3) (b1, b2, b3) (d1, d2, d3) (r1, r2, r3) from by rw [ha, hb, hd, hr])
        clear ha hb hd hr he
        go_wp2_with fail
        refine bodyPost_ret (v := cfgV (a1, a2, a3) (b1, b2, b3) (d1, d2, d3) (r1, r2, r3)) (by simp [results, Tryz.results8, go_sem, r0, r1', r2', r3', f0, f1, f2, f3]; rfl) rfl ?_
        have hb : ∀ (W : World) (i : Nat) (u : Value), Below (w.heap.size + 1) W (W.setCell ⟨w.heap.size + 1, i, none⟩ u) := fun W i u => (Below.refl _ W).setCell (p := ⟨w.heap.size + 1, i, none⟩) (Nat.le_refl _) u
        have hr : ∀ (W : World) (i : Nat) (u : Value), Rows W (w.heap.size + 2) ρ → Rows (W.setCell ⟨w.heap.size + 1, i, none⟩ u) (w.heap.size + 2) ρ := fun W i u h => h.still (grown_set W (w.heap.size + 1) i u) (fun g e => by cases e; exact Nat.lt_succ_self _)
        refine ⟨ρ, bo, by rw [HV.out], ?_, by simpa using HK.out.1.le, hr _ 3 _ (hr _ 2 _ (hr _ 1 _ (hr _ 0 _ HK.out.1.rows))), by rw [HN.out]; exact HK.out.2⟩
        exact HK.out.1.base.trans ((((hb wr 0 (.slice a1 a2 a3)).trans (hb _ 1 (.slice b1 b2 b3))).trans ((hb _ 2 (.slice d1 d2 d3)).trans (hb _ 3 (.slice r1 r2 r3)))).mono (Nat.le_succ _))
end Go.Proofs.YtphenbfhojdcpaaGreatDoor
