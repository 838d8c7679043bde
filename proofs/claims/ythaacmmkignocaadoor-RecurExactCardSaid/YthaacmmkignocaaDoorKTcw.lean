/- The law RecurExact returns true for all arguments. Printed by gen_tex.py. -/
import Derived.Test.YthaacmmkignocaaDoorKG33
import Derived.Test.YthaacmmkignocaaDoorKTcc
import Derived.Deep.RegionHeld3
namespace Go.Proofs.YthaacmmkignocaaDoor
open Go.RowKit
set_option linter.unusedVariables false
set_option linter.unusedSimpArgs false
set_option maxRecDepth 100000
set_option maxHeartbeats 16000000 in
theorem recurexact_any (A : Option Addr) (n c : Nat) (zs : List Int) (rn : ByteArray) (rz rD rS ru re : Int) (r1 : Option Addr) (r2 r3 : Nat) (s1 : Option Addr) (s2 s3 : Nat) (rc rm kk xx tt : Int) (w : World) (hT : CivT w) (hA : NumsAt w A zs) (hn : zs.length = n) (hf : ∀ z ∈ zs, -9223372036854775808 ≤ z ∧ z ≤ 9223372036854775807) (hrD : I64 rD) (hrS : I64 rS) (hru : I64 ru) (hre : I64 re) (hr2 : r2 ≤ 9223372036854775807) (hkk : I64 kk) (hxx : I64 xx) (hto : I64 tt) :
    Calls Tryd.prog 4 #[.slice A n c, .agg #[.string rn, .int .i64 rz, .int .i64 rD, .int .i64 rS, .int .i64 ru, .int .i64 re, .slice r1 r2 r3, .slice s1 s2 s3, .int .i64 rc, .int .i64 rm], .int .i64 kk, .int .i64 xx, .int .i64 tt] w fun e w' => e = .returned (.bool true) ∧ Below w.heap.size w w' := by
  have RB := Lib.hid (BlkAt.new w #[.string rn, .int .i64 rz, .int .i64 rD, .int .i64 rS, .int .i64 ru, .int .i64 re, .slice r1 r2 r3, .slice s1 s2 s3, .int .i64 rc, .int .i64 rm] 38)
  have H0 := Lib.hid ((Below.refl _ w).alloc (Nat.le_refl _) (.cells #[.string rn, .int .i64 rz, .int .i64 rD, .int .i64 rS, .int .i64 ru, .int .i64 re, .slice r1 r2 r3, .slice s1 s2 s3, .int .i64 rc, .int .i64 rm] 38))
  have hlt0 : w.heap.size < (w.alloc (.cells #[.string rn, .int .i64 rz, .int .i64 rD, .int .i64 rS, .int .i64 ru, .int .i64 re, .slice r1 r2 r3, .slice s1 s2 s3, .int .i64 rc, .int .i64 rm] 38)).heap.size := by simp
  have HA0 := Lib.hid (NumsAt.below hA H0.out)
  have HT0 := Lib.hid (hT.below H0.out)
  have HRI := Lib.hid (And.intro hrD (And.intro hrS (And.intro hru (And.intro hre hr2))))
  clear hT hA hrD hrS hru hre hr2
  by_cases h5 : n ≤ 500
  · have hl : decide ((n : Int) ≤ 500) = true := by simp; omega
    go_enter Tryd.func4, Tryd.ntmps4
    go_upto_region 1 with fail
    obtain ⟨rb, hrb⟩ : ∃ b, w.heap.size = b := ⟨_, rfl⟩
    have H00 := Lib.hid (show ∀ V, Below (w.alloc (.cells #[.string rn, .int .i64 rz, .int .i64 rD, .int .i64 rS, .int .i64 ru, .int .i64 re, .slice r1 r2 r3, .slice s1 s2 s3, .int .i64 rc, .int .i64 rm] 38)).heap.size (w.alloc (.cells #[.string rn, .int .i64 rz, .int .i64 rD, .int .i64 rS, .int .i64 ru, .int .i64 re, .slice r1 r2 r3, .slice s1 s2 s3, .int .i64 rc, .int .i64 rm] 38)) V → Below w.heap.size w V from fun V hb => H0.out.trans (hb.mono H0.out.size))
    rw [hrb] at RB hlt0
    rw [hrb]
    generalize hw0 : w.alloc (.cells #[.string rn, .int .i64 rz, .int .i64 rD, .int .i64 rS, .int .i64 ru, .int .i64 re, .slice r1 r2 r3, .slice s1 s2 s3, .int .i64 rc, .int .i64 rm] 38) = w0 at RB hlt0 HA0 HT0 H00 ⊢
    have D0 := Lib.hid (Dice.start (c := c) HA0.out hn h5 hf)
    clear hn hf hw0 H0 HA0
    go_wp2_with fail
    refine (Light_any A n c _).mono ?_
    rw [hl]
    rintro e w' ⟨rfl, rfl⟩
    go_wp2_with fail
    refine (Roll_any A n c _).mono ?_
    rintro e w' ⟨rfl, rfl⟩
    go_wp2_with fail
    refine (Staff_any w0.heap.size n c A zs _ D0.out).mono ?_
    rintro e w1 ⟨⟨a1, a2, a3⟩, ⟨b1, b2, b3⟩, ⟨d1, d2, d3⟩, C, rfl, hS, -, hM, hz1, hp1, hg, hD⟩
    simp only [cfgV, noSV]
    have B1 := Lib.hid (below_of_grown ((Below.refl _ w0).alloc (Nat.le_refl _) (.cells #[.slice A n c, .int .i64 0] 69)) hg (by simp) (Nat.le_refl _))
    have hza := hS.zones.len; have hpa := hS.people.len; have hca := hS.cals.len
    simp only at hza hpa hca
    have hzl := hM.zl; have hpl := hM.pl; have hcl := hM.cl
    have HM := Lib.hid hM
    have hgl := hD.lt_
    have HX0 := Lib.hid (show XP w0 A n c zs w1.heap.size #[.slice a1 a2 a3, .slice b1 b2 b3, .slice d1 d2 d3, .slice none 0 0] (a1, a2, a3) (b1, b2, b3) (d1, d2, d3) C (w1.alloc (.cells #[.slice a1 a2 a3, .slice b1 b2 b3, .slice d1 d2 d3, .slice none 0 0] 32)) from
      ⟨B1.out.alloc B1.out.size _, hD.alloc _, BlkAt.new w1 _ _, StaffS.mv hS (Mv.of_below (S' := SQ w0.heap.size w1.heap.size) ((Below.refl _ w1).alloc (Nat.le_refl _) _) (fun b h h2 => by simp at h; exact ⟨by omega, h2⟩)), hgl⟩)
    clear hS hM hg hD D0 B1 h5
    go_upto_region 5 with fail
    obtain ⟨cb, hcb⟩ : ∃ b, w1.heap.size = b := ⟨_, rfl⟩
    rw [hcb] at HX0 hgl
    rw [hcb]
    generalize w1.alloc (.cells #[.slice a1 a2 a3, .slice b1 b2 b3, .slice d1 d2 d3, .slice none 0 0] 32) = W2 at HX0 ⊢
    obtain ⟨zb, zo, ea⟩ := HX0.out.first (show 0 < a2 by omega)
    simp only at ea
    subst ea
    go_cut [13] (fun p wx => ∃ (x : Rs.Zone) (v1 : Option Addr) (v2 v3 bz : Nat), p = .pointer (some ⟨bz, 0, none⟩) ∧ Hid (XP w0 A n c zs cb #[.slice (some ⟨zb, zo, none⟩) a2 a3, .slice b1 b2 b3, .slice d1 d2 d3, .slice none 0 0] (some ⟨zb, zo, none⟩, a2, a3) (b1, b2, b3) (d1, d2, d3) C wx) ∧ Hid (BlkAt wx bz #[.string ⟨x.name.toArray⟩, .int .i64 x.off, .slice v1 v2 v3] 42) ∧ Hid (ZoneS (SQ w0.heap.size cb) wx x (v1, v2, v3)) ∧ Hid (Rs.MZ x) ∧ w0.heap.size < bz)
    case first =>
      refine AnyZ.start 10 (A := fun W => Hid (XP w0 A n c zs cb #[.slice (some ⟨zb, zo, none⟩) a2 a3, .slice b1 b2 b3, .slice d1 d2 d3, .slice none 0 0] (some ⟨zb, zo, none⟩, a2, a3) (b1, b2, b3) (d1, d2, d3) C W)) (S := fun W => W.cell? ⟨cb, 0, none⟩ = some (.slice (some ⟨zb, zo, none⟩) a2 a3)) (by kernel_rfl) (Lib.hid (HX0.out.below (Below.refl _ _).drew)) ((HX0.out.below (Below.refl _ _).drew).cfg.cell rfl) (fun Wa hA hH => ?_)
      have HX := hA
      clear hA
      refine AnyZ.take [10] (i := 0) (oi := ⟨some 48, .fieldAddr 32 (.tmp 12) 0, 0, "law.go:60", #[], none⟩) (v := ?_) rfl (by kernel_rfl) (by kernel_rfl) (by kernel_rfl) (by kernel_rfl) (fun _ _ _ h => h) (Or.inl ⟨by rfl, ?_⟩) hH ?_
      rotate_left
      focus (intro w hSw; (try dsimp only at hSw); go_simp; (try with_reducible rfl); done)
      try simp only [Act.put, List.setIfInBounds_toArray, List.set_cons_zero, List.set_cons_succ]
      refine AnyZ.take [10] (i := 1) (oi := ⟨some 49, .load 27 (.tmp 48), 27, "law.go:60", #[⟨0, .data⟩], none⟩) (v := ?_) rfl (by kernel_rfl) (by kernel_rfl) (by kernel_rfl) (by kernel_rfl) (fun _ _ _ h => h) (Or.inl ⟨by rfl, ?_⟩) hH ?_
      rotate_left
      focus (intro w hSw; (try dsimp only at hSw); go_simp; (try with_reducible rfl); done)
      try simp only [Act.put, List.setIfInBounds_toArray, List.set_cons_zero, List.set_cons_succ]
      refine AnyZ.take [10] (i := 2) (oi := ⟨some 50, .move (.tmp 11), 25, "law.go:60", #[], none⟩) (v := ?_) rfl (by kernel_rfl) (by kernel_rfl) (by kernel_rfl) (by kernel_rfl) (fun _ _ _ h => h) (Or.inl ⟨by rfl, ?_⟩) hH ?_
      rotate_left
      focus (intro w hSw; (try dsimp only at hSw); go_simp; (try with_reducible rfl); done)
      try simp only [Act.put, List.setIfInBounds_toArray, List.set_cons_zero, List.set_cons_succ]
      refine AnyZ.take [10] (i := 3) (oi := ⟨some 51, .fieldAddr 32 (.tmp 12) 0, 0, "law.go:60", #[], none⟩) (v := ?_) rfl (by kernel_rfl) (by kernel_rfl) (by kernel_rfl) (by kernel_rfl) (fun _ _ _ h => h) (Or.inl ⟨by rfl, ?_⟩) hH ?_
      rotate_left
      focus (intro w hSw; (try dsimp only at hSw); go_simp; (try with_reducible rfl); done)
      try simp only [Act.put, List.setIfInBounds_toArray, List.set_cons_zero, List.set_cons_succ]
      refine AnyZ.take [10] (i := 4) (oi := ⟨some 52, .load 27 (.tmp 51), 27, "law.go:60", #[⟨3, .data⟩], none⟩) (v := ?_) rfl (by kernel_rfl) (by kernel_rfl) (by kernel_rfl) (by kernel_rfl) (fun _ _ _ h => h) (Or.inl ⟨by rfl, ?_⟩) hH ?_
      rotate_left
      focus (intro w hSw; (try dsimp only at hSw); go_simp; (try with_reducible rfl); done)
      try simp only [Act.put, List.setIfInBounds_toArray, List.set_cons_zero, List.set_cons_succ]
      refine AnyZ.take [10] (i := 5) (oi := ⟨some 53, .call { callee := .builtin .len, args := #[.tmp 52], argTypes := #[27] }, 3, "law.go:60", #[⟨4, .data⟩], none⟩) (v := ?_) rfl (by kernel_rfl) (by kernel_rfl) (by kernel_rfl) (by kernel_rfl) (fun _ _ _ h => h) (Or.inl ⟨by rfl, ?_⟩) hH ?_
      rotate_left
      focus (intro w hSw; (try dsimp only at hSw); go_simp; (try with_reducible rfl); done)
      try simp only [Act.put, List.setIfInBounds_toArray, List.set_cons_zero, List.set_cons_succ]
      refine AnyZ.ready (rs := [6, 9]) (by kernel_rfl) (by simp) ?_
      refine AllZ.cons (o := ⟨some 54, .call { callee := .value (.func 17), args := #[.tmp 50, .tmp 53], argTypes := #[25, 3] }, 3, "law.go:60", #[⟨2, .data⟩, ⟨5, .data⟩], none⟩) rfl (fun K hK => ?_) ?_
      · go_simp
        (go_at_call 17; (with_reducible refine (Next_any w0.heap.size n c A zs _ _ HX.out.dice (by omega) (by omega)).mono ?_); rintro e w' ⟨zi, rfl, zi0, zi1, hg2, hD2⟩)
        go_wp2_with fail
        obtain ⟨i, rfl⟩ : ∃ i : Nat, zi = i := ⟨zi.toNat, by omega⟩
        have hia : i < a2 := by omega
        obtain ⟨x, v1, v2, v3, hzj⟩ := HX.out.pick HM.out hia rfl
        refine AnyZ.go hK (A := fun W => Hid (XP w0 A n c zs cb #[.slice (some ⟨zb, zo, none⟩) a2 a3, .slice b1 b2 b3, .slice d1 d2 d3, .slice none 0 0] (some ⟨zb, zo, none⟩, a2, a3) (b1, b2, b3) (d1, d2, d3) C W) ∧ Hid (ZJ w0.heap.size cb x (v1, v2, v3) zb (zo + i * 3) W)) (S' := fun W => W.cell? ⟨cb, 0, none⟩ = some (.slice (some ⟨zb, zo, none⟩) a2 a3) ∧ W.cell? ⟨zb, zo + i * 3, none⟩ = some (.string ⟨x.name.toArray⟩) ∧ W.cell? ⟨zb, zo + i * 3 + 1, none⟩ = some (.int .i64 x.off) ∧ W.cell? ⟨zb, zo + i * 3 + 2, none⟩ = some (.slice v1 v2 v3)) (fun _ h => (h.1)) ⟨Lib.hid ((HX.out).call hg2 hD2), Lib.hid (hzj.call hg2)⟩ ⟨((HX.out).call hg2 hD2).cfg.cell rfl, (hzj.call hg2).cells 0 (by omega), (hzj.call hg2).cells 1 (by omega), (hzj.call hg2).cells 2 (by omega)⟩ (fun W1 hA hH2 => ?_)
        clear hK K hH HX
        obtain ⟨HX, HJ⟩ := hA
        have hH := hH2
        clear hH2
        clear hg2 hD2 hzj
        try simp only [Act.put, List.setIfInBounds_toArray, List.set_cons_zero, List.set_cons_succ]
        refine AnyZ.take [10] (i := 7) (oi := ⟨some 55, .indexAddr 27 (.tmp 49) (.tmp 54), 0, "law.go:60", #[⟨1, .data⟩, ⟨6, .data⟩], none⟩) (v := ?_) rfl (by kernel_rfl) (by kernel_rfl) (by kernel_rfl) (by kernel_rfl) (fun _ _ _ h => h) (Or.inl ⟨by rfl, ?_⟩) hH ?_
        rotate_left
        focus (intro w hSw; (try dsimp only at hSw); go_simp; (try with_reducible rfl); done)
        try simp only [Act.put, List.setIfInBounds_toArray, List.set_cons_zero, List.set_cons_succ]
        refine AnyZ.take [10] (i := 8) (oi := ⟨some 56, .load 42 (.tmp 55), 42, "law.go:60", #[⟨7, .data⟩], none⟩) (v := ?_) rfl (by kernel_rfl) (by kernel_rfl) (by kernel_rfl) (by kernel_rfl) (fun _ _ _ h => h) (Or.inl ⟨by rfl, ?_⟩) hH ?_
        rotate_left
        focus (intro w hSw; (try dsimp only at hSw); go_simp; (try with_reducible rfl); done)
        try simp only [Act.put, List.setIfInBounds_toArray, List.set_cons_zero, List.set_cons_succ]
        refine AnyZ.ready (rs := [9]) (by kernel_rfl) (by simp) ?_
        refine AllZ.cons (o := ⟨some 13, .alloc 42, 0, "law.go:60", #[], none⟩) rfl (fun K hK => ?_) AllZ.nil
        go_simp
        have hzl9 := HX.out.dice.lt_
        have HNB := Lib.hid HX.out.cfg.lt_
        refine AnyZ.go hK (A := fun W => Hid (XP w0 A n c zs cb #[.slice (some ⟨zb, zo, none⟩) a2 a3, .slice b1 b2 b3, .slice d1 d2 d3, .slice none 0 0] (some ⟨zb, zo, none⟩, a2, a3) (b1, b2, b3) (d1, d2, d3) C W) ∧ Hid (ZJ w0.heap.size cb x (v1, v2, v3) zb (zo + i * 3) W) ∧ Hid (BlkAt W W1.heap.size #[.string ⟨#[]⟩, .int .i64 0, .slice none 0 0] 42)) (S' := fun W => W.cell? ⟨cb, 0, none⟩ = some (.slice (some ⟨zb, zo, none⟩) a2 a3) ∧ W.cell? ⟨zb, zo + i * 3, none⟩ = some (.string ⟨x.name.toArray⟩) ∧ W.cell? ⟨zb, zo + i * 3 + 1, none⟩ = some (.int .i64 x.off) ∧ W.cell? ⟨zb, zo + i * 3 + 2, none⟩ = some (.slice v1 v2 v3)) (fun _ h => h) ⟨Lib.hid ((HX.out).below ((Below.refl _ _).alloc (Nat.le_refl _) _)), Lib.hid ((HJ.out).below ((Below.refl _ _).alloc (Nat.le_refl _) _)), Lib.hid ((BlkAt.new _ _ _))⟩ ⟨((HX.out).below ((Below.refl _ _).alloc (Nat.le_refl _) _)).cfg.cell rfl, ((HJ.out).below ((Below.refl _ _).alloc (Nat.le_refl _) _)).cells 0 (by omega), ((HJ.out).below ((Below.refl _ _).alloc (Nat.le_refl _) _)).cells 1 (by omega), ((HJ.out).below ((Below.refl _ _).alloc (Nat.le_refl _) _)).cells 2 (by omega)⟩ (fun W2 hA hH2 => ?_)
        clear hK K hH HX HJ
        obtain ⟨HX, HJ, NB⟩ := hA
        have hH := hH2
        clear hH2
        try simp only [Act.put, List.setIfInBounds_toArray, List.set_cons_zero, List.set_cons_succ]
        refine AnyZ.last (o := ⟨none, .store 42 (.tmp 13) (.tmp 56), 0, "law.go:60", #[⟨9, .data⟩, ⟨8, .data⟩, ⟨6, .chain⟩, ⟨0, .phase⟩, ⟨1, .phase⟩, ⟨2, .phase⟩, ⟨3, .phase⟩, ⟨4, .phase⟩, ⟨5, .phase⟩, ⟨6, .phase⟩, ⟨7, .phase⟩, ⟨8, .phase⟩, ⟨9, .phase⟩], none⟩) (by kernel_rfl) rfl (fun K hK => ?_)
        have n0 := NB.out.cell (i := 0) rfl; have n1 := NB.out.cell (i := 1) rfl; have n2 := NB.out.cell (i := 2) rfl; have f0 := NB.out.free 0; have f1 := NB.out.free 1; have f2 := NB.out.free 2
        go_simp
        refine hK.out _ _ ?_
        clear hK K hH
        try simp only [Act.put, List.setIfInBounds_toArray, List.set_cons_zero, List.set_cons_succ]
        refine AnyZ.done (by kernel_rfl) ?_ _
        have hnb := HNB.out
        clear n0 n1 n2 f0 f1 f2
        go_wp2_with fail
        go_meet
        refine ⟨x, v1, v2, v3, W1.heap.size, rfl, Lib.hid (((HX.out.set hnb 0 _).set hnb 1 _).set hnb 2 _), Lib.hid ?_, Lib.hid (((HJ.out.zs.set hnb 0 _).set hnb 1 _).set hnb 2 _), Lib.hid HJ.out.mz, by have := HX.out.hcb; omega⟩
        have := ((NB.out.set_ 0 (.string ⟨x.name.toArray⟩)).set_ 1 (.int .i64 x.off)).set_ 2 (.slice v1 v2 v3)
        simpa using this
      refine AllZ.cons (o := ⟨some 13, .alloc 42, 0, "law.go:60", #[], none⟩) rfl (fun K hK => ?_) AllZ.nil
      go_simp
      have hzl9 := HX.out.dice.lt_
      have HNB := Lib.hid HX.out.cfg.lt_
      refine AnyZ.go hK (A := fun W => Hid (XP w0 A n c zs cb #[.slice (some ⟨zb, zo, none⟩) a2 a3, .slice b1 b2 b3, .slice d1 d2 d3, .slice none 0 0] (some ⟨zb, zo, none⟩, a2, a3) (b1, b2, b3) (d1, d2, d3) C W) ∧ Hid (BlkAt W Wa.heap.size #[.string ⟨#[]⟩, .int .i64 0, .slice none 0 0] 42)) (S' := fun W => W.cell? ⟨cb, 0, none⟩ = some (.slice (some ⟨zb, zo, none⟩) a2 a3)) (fun _ h => h) ⟨Lib.hid ((HX.out).below ((Below.refl _ _).alloc (Nat.le_refl _) _)), Lib.hid ((BlkAt.new _ _ _))⟩ (((HX.out).below ((Below.refl _ _).alloc (Nat.le_refl _) _)).cfg.cell rfl) (fun W3 hA hH2 => ?_)
      clear hK K hH HX
      obtain ⟨HX, NB⟩ := hA
      have hH := hH2
      clear hH2
      try simp only [Act.put, List.setIfInBounds_toArray, List.set_cons_zero, List.set_cons_succ]
      refine AnyZ.ready (rs := [6]) (by kernel_rfl) (by simp) ?_
      refine AllZ.cons (o := ⟨some 54, .call { callee := .value (.func 17), args := #[.tmp 50, .tmp 53], argTypes := #[25, 3] }, 3, "law.go:60", #[⟨2, .data⟩, ⟨5, .data⟩], none⟩) rfl (fun K hK => ?_) AllZ.nil
      go_simp
      (go_at_call 17; (with_reducible refine (Next_any w0.heap.size n c A zs _ _ HX.out.dice (by omega) (by omega)).mono ?_); rintro e w' ⟨zi, rfl, zi0, zi1, hg2, hD2⟩)
      go_wp2_with fail
      obtain ⟨i, rfl⟩ : ∃ i : Nat, zi = i := ⟨zi.toNat, by omega⟩
      have hia : i < a2 := by omega
      obtain ⟨x, v1, v2, v3, hzj⟩ := HX.out.pick HM.out hia rfl
      refine AnyZ.go hK (A := fun W => Hid (XP w0 A n c zs cb #[.slice (some ⟨zb, zo, none⟩) a2 a3, .slice b1 b2 b3, .slice d1 d2 d3, .slice none 0 0] (some ⟨zb, zo, none⟩, a2, a3) (b1, b2, b3) (d1, d2, d3) C W) ∧ Hid (BlkAt W Wa.heap.size #[.string ⟨#[]⟩, .int .i64 0, .slice none 0 0] 42) ∧ Hid (ZJ w0.heap.size cb x (v1, v2, v3) zb (zo + i * 3) W)) (S' := fun W => W.cell? ⟨cb, 0, none⟩ = some (.slice (some ⟨zb, zo, none⟩) a2 a3) ∧ W.cell? ⟨zb, zo + i * 3, none⟩ = some (.string ⟨x.name.toArray⟩) ∧ W.cell? ⟨zb, zo + i * 3 + 1, none⟩ = some (.int .i64 x.off) ∧ W.cell? ⟨zb, zo + i * 3 + 2, none⟩ = some (.slice v1 v2 v3)) (fun _ h => (h.1)) ⟨Lib.hid ((HX.out).call hg2 hD2), Lib.hid ((NB.out).grown hg2 (fun e => by have := Option.some.inj e; omega)), Lib.hid (hzj.call hg2)⟩ ⟨((HX.out).call hg2 hD2).cfg.cell rfl, (hzj.call hg2).cells 0 (by omega), (hzj.call hg2).cells 1 (by omega), (hzj.call hg2).cells 2 (by omega)⟩ (fun W4 hA hH2 => ?_)
      clear hK K hH HX NB
      obtain ⟨HX, NB, HJ⟩ := hA
      have hH := hH2
      clear hH2
      clear hg2 hD2 hzj
      try simp only [Act.put, List.setIfInBounds_toArray, List.set_cons_zero, List.set_cons_succ]
      refine AnyZ.take [10] (i := 7) (oi := ⟨some 55, .indexAddr 27 (.tmp 49) (.tmp 54), 0, "law.go:60", #[⟨1, .data⟩, ⟨6, .data⟩], none⟩) (v := ?_) rfl (by kernel_rfl) (by kernel_rfl) (by kernel_rfl) (by kernel_rfl) (fun _ _ _ h => h) (Or.inl ⟨by rfl, ?_⟩) hH ?_
      rotate_left
      focus (intro w hSw; (try dsimp only at hSw); go_simp; (try with_reducible rfl); done)
      try simp only [Act.put, List.setIfInBounds_toArray, List.set_cons_zero, List.set_cons_succ]
      refine AnyZ.take [10] (i := 8) (oi := ⟨some 56, .load 42 (.tmp 55), 42, "law.go:60", #[⟨7, .data⟩], none⟩) (v := ?_) rfl (by kernel_rfl) (by kernel_rfl) (by kernel_rfl) (by kernel_rfl) (fun _ _ _ h => h) (Or.inl ⟨by rfl, ?_⟩) hH ?_
      rotate_left
      focus (intro w hSw; (try dsimp only at hSw); go_simp; (try with_reducible rfl); done)
      try simp only [Act.put, List.setIfInBounds_toArray, List.set_cons_zero, List.set_cons_succ]
      refine AnyZ.last (o := ⟨none, .store 42 (.tmp 13) (.tmp 56), 0, "law.go:60", #[⟨9, .data⟩, ⟨8, .data⟩, ⟨6, .chain⟩, ⟨0, .phase⟩, ⟨1, .phase⟩, ⟨2, .phase⟩, ⟨3, .phase⟩, ⟨4, .phase⟩, ⟨5, .phase⟩, ⟨6, .phase⟩, ⟨7, .phase⟩, ⟨8, .phase⟩, ⟨9, .phase⟩], none⟩) (by kernel_rfl) rfl (fun K hK => ?_)
      have n0 := NB.out.cell (i := 0) rfl; have n1 := NB.out.cell (i := 1) rfl; have n2 := NB.out.cell (i := 2) rfl; have f0 := NB.out.free 0; have f1 := NB.out.free 1; have f2 := NB.out.free 2
      go_simp
      refine hK.out _ _ ?_
      clear hK K hH
      try simp only [Act.put, List.setIfInBounds_toArray, List.set_cons_zero, List.set_cons_succ]
      refine AnyZ.done (by kernel_rfl) ?_ _
      have hnb := HNB.out
      clear n0 n1 n2 f0 f1 f2
      go_wp2_with fail
      go_meet
      refine ⟨x, v1, v2, v3, Wa.heap.size, rfl, Lib.hid (((HX.out.set hnb 0 _).set hnb 1 _).set hnb 2 _), Lib.hid ?_, Lib.hid (((HJ.out.zs.set hnb 0 _).set hnb 1 _).set hnb 2 _), Lib.hid HJ.out.mz, by have := HX.out.hcb; omega⟩
      have := ((NB.out.set_ 0 (.string ⟨x.name.toArray⟩)).set_ 1 (.int .i64 x.off)).set_ 2 (.slice v1 v2 v3)
      simpa using this
    case rest =>
      obtain ⟨x, v1, v2, v3, bz, rfl, HX2, ZB2, ZS2, HMZ, hbz⟩ := hcut
      clear HX0
      have hgood := HMZ.out.1
      obtain ⟨ts, htr, -⟩ := hgood.ex
      have hv := Zn.trans_vz htr
      have hoff : I64 x.off := ZS2.out.2.2
      have HTR := Lib.hid htr; have HV := Lib.hid hv; have HOFF := Lib.hid hoff
      have HL2 := Lib.hid (show XL w0 A n c zs cb bz #[.string ⟨x.name.toArray⟩, .int .i64 x.off, .slice v1 v2 v3] x (v1, v2, v3) wc from ⟨HX2.out.base, HX2.out.dice, ZB2.out, ZS2.out, hbz⟩)
      have CB := Lib.hid HX2.out.cfg
      clear hgood htr hv hoff ZB2 ZS2 hbz HX2
      have c0 := CB.out.cell (i := 0) rfl; have c1 := CB.out.cell (i := 1) rfl; have c2 := CB.out.cell (i := 2) rfl; have c3 := CB.out.cell (i := 3) rfl
      go_upto_region 7 with (go_at_call 12; refine (Layer_lit w0.heap.size n c A zs (some ⟨zb, zo, none⟩) b1 d1 none a2 a3 b2 b3 d2 d3 0 0 [97] (by omega) (by omega) (by omega) (by omega) (by omega) _ HL2.out.dice).mono ?_; rintro e w3 ⟨l, m1, m2, m3, q1, q2, q3, rfl, -, hml, hls, hg3, hD3⟩)
      obtain ⟨hz, e1, e2, e3, e4, e5, e6, e7, ⟨e8, e9⟩, hmn, hm3, -, -, -, -⟩ := hml
      have hmem := hls.1.len
      simp only at hmem
      have hmm2 : m2 ≤ 3 := by omega
      have HLI := Lib.hid (show I64 l.day ∧ I64 l.sec ∧ I64 l.unit ∧ I64 l.every from ⟨⟨by omega, by omega⟩, ⟨by omega, by omega⟩, ⟨by omega, by omega⟩, ⟨by omega, by omega⟩⟩)
      have HL3 := Lib.hid ((HL2.out.call hg3 hD3).below ((Below.refl _ w3).alloc (Nat.le_refl _) (.cells #[.string ⟨#[97]⟩, .int .i64 l.zone, .int .i64 l.day, .int .i64 l.sec, .int .i64 l.unit, .int .i64 l.every, .slice m1 m2 m3, .slice q1 q2 q3, .int .i64 l.cal, .int .i64 l.mode] 38)))
      have LB := Lib.hid (BlkAt.new w3 #[.string ⟨#[97]⟩, .int .i64 l.zone, .int .i64 l.day, .int .i64 l.sec, .int .i64 l.unit, .int .i64 l.every, .slice m1 m2 m3, .slice q1 q2 q3, .int .i64 l.cal, .int .i64 l.mode] 38)
      have hlb : w0.heap.size < w3.heap.size := hD3.lt_
      clear hz e1 e2 e3 e4 e5 e6 e7 e8 e9 hmn hm3 hls hg3 hD3 hmem c0 c1 c2 c3 CB HL2 HM
      generalize hlb2 : w3.heap.size = lb at LB hlb ⊢
      generalize w3.alloc (.cells #[.string ⟨#[97]⟩, .int .i64 l.zone, .int .i64 l.day, .int .i64 l.sec, .int .i64 l.unit, .int .i64 l.every, .slice m1 m2 m3, .slice q1 q2 q3, .int .i64 l.cal, .int .i64 l.mode] 38) = W3 at LB HL3 ⊢
      clear hlb2
      have RB3 := Lib.hid (RB.out.below HL3.out.base hlt0)

      have HK0 := Lib.hid (show BlkAt W3 lb #[.string ⟨#[97]⟩, .int .i64 l.zone, .int .i64 l.day, .int .i64 l.sec, .int .i64 l.unit, .int .i64 l.every, .slice m1 m2 m3, .slice q1 q2 q3, .int .i64 l.cal, .int .i64 l.mode] 38 ∧ BlkAt W3 rb #[.string rn, .int .i64 rz, .int .i64 rD, .int .i64 rS, .int .i64 ru, .int .i64 re, .slice r1 r2 r3, .slice s1 s2 s3, .int .i64 rc, .int .i64 rm] 38 ∧ XL w0 A n c zs cb bz #[.string ⟨x.name.toArray⟩, .int .i64 x.off, .slice v1 v2 v3] x (v1, v2, v3) W3 from ⟨LB.out, RB3.out, HL3.out⟩)
      have HKG := Lib.hid (show ∀ V V' : World, (BlkAt V lb #[.string ⟨#[97]⟩, .int .i64 l.zone, .int .i64 l.day, .int .i64 l.sec, .int .i64 l.unit, .int .i64 l.every, .slice m1 m2 m3, .slice q1 q2 q3, .int .i64 l.cal, .int .i64 l.mode] 38 ∧ BlkAt V rb #[.string rn, .int .i64 rz, .int .i64 rD, .int .i64 rS, .int .i64 ru, .int .i64 re, .slice r1 r2 r3, .slice s1 s2 s3, .int .i64 rc, .int .i64 rm] 38 ∧ XL w0 A n c zs cb bz #[.string ⟨x.name.toArray⟩, .int .i64 x.off, .slice v1 v2 v3] x (v1, v2, v3) V) → V.grownBy V' (some w0.heap.size) → Dice V' w0.heap.size A n c zs → (BlkAt V' lb #[.string ⟨#[97]⟩, .int .i64 l.zone, .int .i64 l.day, .int .i64 l.sec, .int .i64 l.unit, .int .i64 l.every, .slice m1 m2 m3, .slice q1 q2 q3, .int .i64 l.cal, .int .i64 l.mode] 38 ∧ BlkAt V' rb #[.string rn, .int .i64 rz, .int .i64 rD, .int .i64 rS, .int .i64 ru, .int .i64 re, .slice r1 r2 r3, .slice s1 s2 s3, .int .i64 rc, .int .i64 rm] 38 ∧ XL w0 A n c zs cb bz #[.string ⟨x.name.toArray⟩, .int .i64 x.off, .slice v1 v2 v3] x (v1, v2, v3) V') from fun V V' h hg hD => ⟨(h.1.grown hg (by intro e; cases e; exact Nat.lt_irrefl _ hlb)), (h.2.1.grown hg (by intro e; cases e; exact Nat.lt_irrefl _ hlt0)), h.2.2.call hg hD⟩)
      have HKB := Lib.hid (show ∀ V V' : World, (BlkAt V lb #[.string ⟨#[97]⟩, .int .i64 l.zone, .int .i64 l.day, .int .i64 l.sec, .int .i64 l.unit, .int .i64 l.every, .slice m1 m2 m3, .slice q1 q2 q3, .int .i64 l.cal, .int .i64 l.mode] 38 ∧ BlkAt V rb #[.string rn, .int .i64 rz, .int .i64 rD, .int .i64 rS, .int .i64 ru, .int .i64 re, .slice r1 r2 r3, .slice s1 s2 s3, .int .i64 rc, .int .i64 rm] 38 ∧ XL w0 A n c zs cb bz #[.string ⟨x.name.toArray⟩, .int .i64 x.off, .slice v1 v2 v3] x (v1, v2, v3) V) → Below V.heap.size V V' → (BlkAt V' lb #[.string ⟨#[97]⟩, .int .i64 l.zone, .int .i64 l.day, .int .i64 l.sec, .int .i64 l.unit, .int .i64 l.every, .slice m1 m2 m3, .slice q1 q2 q3, .int .i64 l.cal, .int .i64 l.mode] 38 ∧ BlkAt V' rb #[.string rn, .int .i64 rz, .int .i64 rD, .int .i64 rS, .int .i64 ru, .int .i64 re, .slice r1 r2 r3, .slice s1 s2 s3, .int .i64 rc, .int .i64 rm] 38 ∧ XL w0 A n c zs cb bz #[.string ⟨x.name.toArray⟩, .int .i64 x.off, .slice v1 v2 v3] x (v1, v2, v3) V') from fun V V' h hb => ⟨h.1.after hb, h.2.1.after hb, h.2.2.below hb⟩)
      have HKS := Lib.hid (show ∀ V : World, (BlkAt V lb #[.string ⟨#[97]⟩, .int .i64 l.zone, .int .i64 l.day, .int .i64 l.sec, .int .i64 l.unit, .int .i64 l.every, .slice m1 m2 m3, .slice q1 q2 q3, .int .i64 l.cal, .int .i64 l.mode] 38 ∧ BlkAt V rb #[.string rn, .int .i64 rz, .int .i64 rD, .int .i64 rS, .int .i64 ru, .int .i64 re, .slice r1 r2 r3, .slice s1 s2 s3, .int .i64 rc, .int .i64 rm] 38 ∧ XL w0 A n c zs cb bz #[.string ⟨x.name.toArray⟩, .int .i64 x.off, .slice v1 v2 v3] x (v1, v2, v3) V) → (V.cell? ⟨lb, 0, none⟩ = some (.string ⟨#[97]⟩) ∧ V.cell? ⟨lb, 1, none⟩ = some (.int .i64 l.zone) ∧ V.cell? ⟨lb, 2, none⟩ = some (.int .i64 l.day) ∧ V.cell? ⟨lb, 3, none⟩ = some (.int .i64 l.sec) ∧ V.cell? ⟨lb, 4, none⟩ = some (.int .i64 l.unit) ∧ V.cell? ⟨lb, 5, none⟩ = some (.int .i64 l.every) ∧ V.cell? ⟨lb, 6, none⟩ = some (.slice m1 m2 m3) ∧ V.cell? ⟨lb, 7, none⟩ = some (.slice q1 q2 q3) ∧ V.cell? ⟨lb, 8, none⟩ = some (.int .i64 l.cal) ∧ V.cell? ⟨lb, 9, none⟩ = some (.int .i64 l.mode) ∧ V.cell? ⟨rb, 0, none⟩ = some (.string rn) ∧ V.cell? ⟨rb, 1, none⟩ = some (.int .i64 rz) ∧ V.cell? ⟨rb, 2, none⟩ = some (.int .i64 rD) ∧ V.cell? ⟨rb, 3, none⟩ = some (.int .i64 rS) ∧ V.cell? ⟨rb, 4, none⟩ = some (.int .i64 ru) ∧ V.cell? ⟨rb, 5, none⟩ = some (.int .i64 re) ∧ V.cell? ⟨rb, 6, none⟩ = some (.slice r1 r2 r3) ∧ V.cell? ⟨rb, 7, none⟩ = some (.slice s1 s2 s3) ∧ V.cell? ⟨rb, 8, none⟩ = some (.int .i64 rc) ∧ V.cell? ⟨rb, 9, none⟩ = some (.int .i64 rm) ∧ Hid (BlkAt V lb #[.string ⟨#[97]⟩, .int .i64 l.zone, .int .i64 l.day, .int .i64 l.sec, .int .i64 l.unit, .int .i64 l.every, .slice m1 m2 m3, .slice q1 q2 q3, .int .i64 l.cal, .int .i64 l.mode] 38 ∧ BlkAt V rb #[.string rn, .int .i64 rz, .int .i64 rD, .int .i64 rS, .int .i64 ru, .int .i64 re, .slice r1 r2 r3, .slice s1 s2 s3, .int .i64 rc, .int .i64 rm] 38 ∧ XL w0 A n c zs cb bz #[.string ⟨x.name.toArray⟩, .int .i64 x.off, .slice v1 v2 v3] x (v1, v2, v3) V)) from fun V h => ⟨h.1.cell rfl, h.1.cell rfl, h.1.cell rfl, h.1.cell rfl, h.1.cell rfl, h.1.cell rfl, h.1.cell rfl, h.1.cell rfl, h.1.cell rfl, h.1.cell rfl, h.2.1.cell rfl, h.2.1.cell rfl, h.2.1.cell rfl, h.2.1.cell rfl, h.2.1.cell rfl, h.2.1.cell rfl, h.2.1.cell rfl, h.2.1.cell rfl, h.2.1.cell rfl, h.2.1.cell rfl, Lib.hid h⟩)
      have HKL := Lib.hid (show ∀ V : World, (V.cell? ⟨lb, 0, none⟩ = some (.string ⟨#[97]⟩) ∧ V.cell? ⟨lb, 1, none⟩ = some (.int .i64 l.zone) ∧ V.cell? ⟨lb, 2, none⟩ = some (.int .i64 l.day) ∧ V.cell? ⟨lb, 3, none⟩ = some (.int .i64 l.sec) ∧ V.cell? ⟨lb, 4, none⟩ = some (.int .i64 l.unit) ∧ V.cell? ⟨lb, 5, none⟩ = some (.int .i64 l.every) ∧ V.cell? ⟨lb, 6, none⟩ = some (.slice m1 m2 m3) ∧ V.cell? ⟨lb, 7, none⟩ = some (.slice q1 q2 q3) ∧ V.cell? ⟨lb, 8, none⟩ = some (.int .i64 l.cal) ∧ V.cell? ⟨lb, 9, none⟩ = some (.int .i64 l.mode) ∧ V.cell? ⟨rb, 0, none⟩ = some (.string rn) ∧ V.cell? ⟨rb, 1, none⟩ = some (.int .i64 rz) ∧ V.cell? ⟨rb, 2, none⟩ = some (.int .i64 rD) ∧ V.cell? ⟨rb, 3, none⟩ = some (.int .i64 rS) ∧ V.cell? ⟨rb, 4, none⟩ = some (.int .i64 ru) ∧ V.cell? ⟨rb, 5, none⟩ = some (.int .i64 re) ∧ V.cell? ⟨rb, 6, none⟩ = some (.slice r1 r2 r3) ∧ V.cell? ⟨rb, 7, none⟩ = some (.slice s1 s2 s3) ∧ V.cell? ⟨rb, 8, none⟩ = some (.int .i64 rc) ∧ V.cell? ⟨rb, 9, none⟩ = some (.int .i64 rm) ∧ Hid (BlkAt V lb #[.string ⟨#[97]⟩, .int .i64 l.zone, .int .i64 l.day, .int .i64 l.sec, .int .i64 l.unit, .int .i64 l.every, .slice m1 m2 m3, .slice q1 q2 q3, .int .i64 l.cal, .int .i64 l.mode] 38 ∧ BlkAt V rb #[.string rn, .int .i64 rz, .int .i64 rD, .int .i64 rS, .int .i64 ru, .int .i64 re, .slice r1 r2 r3, .slice s1 s2 s3, .int .i64 rc, .int .i64 rm] 38 ∧ XL w0 A n c zs cb bz #[.string ⟨x.name.toArray⟩, .int .i64 x.off, .slice v1 v2 v3] x (v1, v2, v3) V)) → (BlkAt V lb #[.string ⟨#[97]⟩, .int .i64 l.zone, .int .i64 l.day, .int .i64 l.sec, .int .i64 l.unit, .int .i64 l.every, .slice m1 m2 m3, .slice q1 q2 q3, .int .i64 l.cal, .int .i64 l.mode] 38 ∧ BlkAt V rb #[.string rn, .int .i64 rz, .int .i64 rD, .int .i64 rS, .int .i64 ru, .int .i64 re, .slice r1 r2 r3, .slice s1 s2 s3, .int .i64 rc, .int .i64 rm] 38 ∧ XL w0 A n c zs cb bz #[.string ⟨x.name.toArray⟩, .int .i64 x.off, .slice v1 v2 v3] x (v1, v2, v3) V) from fun V h => h.2.2.2.2.2.2.2.2.2.2.2.2.2.2.2.2.2.2.2.2.out)
      clear LB RB3 HL3
      go_upto_region 7 with fail
      go_region_held3 (fun V => V.cell? ⟨lb, 0, none⟩ = some (.string ⟨#[97]⟩) ∧ V.cell? ⟨lb, 1, none⟩ = some (.int .i64 l.zone) ∧ V.cell? ⟨lb, 2, none⟩ = some (.int .i64 l.day) ∧ V.cell? ⟨lb, 3, none⟩ = some (.int .i64 l.sec) ∧ V.cell? ⟨lb, 4, none⟩ = some (.int .i64 l.unit) ∧ V.cell? ⟨lb, 5, none⟩ = some (.int .i64 l.every) ∧ V.cell? ⟨lb, 6, none⟩ = some (.slice m1 m2 m3) ∧ V.cell? ⟨lb, 7, none⟩ = some (.slice q1 q2 q3) ∧ V.cell? ⟨lb, 8, none⟩ = some (.int .i64 l.cal) ∧ V.cell? ⟨lb, 9, none⟩ = some (.int .i64 l.mode) ∧ V.cell? ⟨rb, 0, none⟩ = some (.string rn) ∧ V.cell? ⟨rb, 1, none⟩ = some (.int .i64 rz) ∧ V.cell? ⟨rb, 2, none⟩ = some (.int .i64 rD) ∧ V.cell? ⟨rb, 3, none⟩ = some (.int .i64 rS) ∧ V.cell? ⟨rb, 4, none⟩ = some (.int .i64 ru) ∧ V.cell? ⟨rb, 5, none⟩ = some (.int .i64 re) ∧ V.cell? ⟨rb, 6, none⟩ = some (.slice r1 r2 r3) ∧ V.cell? ⟨rb, 7, none⟩ = some (.slice s1 s2 s3) ∧ V.cell? ⟨rb, 8, none⟩ = some (.int .i64 rc) ∧ V.cell? ⟨rb, 9, none⟩ = some (.int .i64 rm) ∧ Hid (BlkAt V lb #[.string ⟨#[97]⟩, .int .i64 l.zone, .int .i64 l.day, .int .i64 l.sec, .int .i64 l.unit, .int .i64 l.every, .slice m1 m2 m3, .slice q1 q2 q3, .int .i64 l.cal, .int .i64 l.mode] 38 ∧ BlkAt V rb #[.string rn, .int .i64 rz, .int .i64 rD, .int .i64 rS, .int .i64 ru, .int .i64 re, .slice r1 r2 r3, .slice s1 s2 s3, .int .i64 rc, .int .i64 rm] 38 ∧ XL w0 A n c zs cb bz #[.string ⟨x.name.toArray⟩, .int .i64 x.off, .slice v1 v2 v3] x (v1, v2, v3) V))
        (first | (exact HKS.out _ (HKB.out _ _ HK0.out (Below.refl _ _).drew)) | (exact HKS.out _ (HKG.out _ _ (HKL.out _ (by assumption)) hg hD)))
        (first | (go_at_call 18; ((with_reducible refine (odd_any w0.heap.size n c A zs ⟨#[97]⟩ l.zone l.day l.sec l.unit l.every m1 m2 m3 q1 q2 q3 l.cal l.mode HLI.out.1 HLI.out.2.1 HLI.out.2.2.1 HLI.out.2.2.2 (by omega) _ (HKL.out _ (by assumption)).2.2.dice).mono ?_); rintro e w' ⟨oD, oS, ou, oe, o1, o2, o3, rfl, k1, k2, k3, k4, k5, hg, hD⟩)))
      rename_i hS7
      have HL7 := Lib.hid (HKL.out _ hS7).2.2
      have HOI := Lib.hid (And.intro k1 (And.intro k2 (And.intro k3 (And.intro k4 k5))))
      clear hS7 HK0 HKG HKB HKS HKL k1 k2 k3 k4 k5 hg hD
      go_wp2_with fail
      go_loopw [66] (fun y wx => ∃ j : Nat, j ≤ 3 ∧ y = .int .i64 j ∧ Hid (XL w0 A n c zs cb bz #[.string ⟨x.name.toArray⟩, .int .i64 x.off, .slice v1 v2 v3] x (v1, v2, v3) wx)) (fun y _ => 3 - (intOf y).toNat)
      case atStart => exact ⟨0, by omega, rfl, HL7⟩
      case round =>
        clear HL7
        obtain ⟨j, hj, rfl, HX⟩ := hrel
        by_cases hlt : j < 3
        · obtain ⟨yn, yz, yD, yS, yu, ye, y1, y2, y3, p1, p2, p3, yc, ym, hix, hyi⟩ : ∃ (yn : ByteArray) (yz yD yS yu ye : Int) (y1 : Option Addr) (y2 y3 : Nat) (p1 : Option Addr) (p2 p3 : Nat) (yc ym : Int), (∀ V, (Instr.index 53 (.agg #[.string ⟨#[97]⟩, .int .i64 l.zone, .int .i64 l.day, .int .i64 l.sec, .int .i64 l.unit, .int .i64 l.every, .slice m1 m2 m3, .slice q1 q2 q3, .int .i64 l.cal, .int .i64 l.mode, .string ⟨#[97]⟩, .int .i64 l.zone, .int .i64 oD, .int .i64 oS, .int .i64 ou, .int .i64 oe, .slice o1 o2 o3, .slice q1 q2 q3, .int .i64 l.cal, .int .i64 l.mode, .string rn, .int .i64 rz, .int .i64 rD, .int .i64 rS, .int .i64 ru, .int .i64 re, .slice r1 r2 r3, .slice s1 s2 s3, .int .i64 rc, .int .i64 rm]) (.int .i64 (j : Int))).run Tryd.prog V = .ok (.agg #[.string yn, .int .i64 yz, .int .i64 yD, .int .i64 yS, .int .i64 yu, .int .i64 ye, .slice y1 y2 y3, .slice p1 p2 p3, .int .i64 yc, .int .i64 ym]) V) ∧ I64 yD ∧ I64 yS ∧ I64 yu ∧ I64 ye ∧ y2 ≤ 9223372036854775807 := by
            have : j = 0 ∨ j = 1 ∨ j = 2 := by omega
            rcases this with rfl | rfl | rfl
            · exact ⟨⟨#[97]⟩, l.zone, l.day, l.sec, l.unit, l.every, m1, m2, m3, q1, q2, q3, l.cal, l.mode, fun _ => by kernel_rfl, HLI.out.1, HLI.out.2.1, HLI.out.2.2.1, HLI.out.2.2.2, Nat.le_trans hmm2 (by decide)⟩
            · exact ⟨⟨#[97]⟩, l.zone, oD, oS, ou, oe, o1, o2, o3, q1, q2, q3, l.cal, l.mode, fun _ => by kernel_rfl, HOI.out.1, HOI.out.2.1, HOI.out.2.2.1, HOI.out.2.2.2.1, Nat.le_trans HOI.out.2.2.2.2 (by decide)⟩
            · exact ⟨rn, rz, rD, rS, ru, re, r1, r2, r3, s1, s2, s3, rc, rm, fun _ => by kernel_rfl, HRI.out.1, HRI.out.2.1, HRI.out.2.2.1, HRI.out.2.2.2.1, HRI.out.2.2.2.2⟩
          have HYI := Lib.hid hyi
          have hlt2 : (j : Int) < 3 := by omega
          have hj0 : (0 : Int) ≤ j := by omega
          have YB := Lib.hid (BlkAt.new wr #[.string yn, .int .i64 yz, .int .i64 yD, .int .i64 yS, .int .i64 yu, .int .i64 ye, .slice y1 y2 y3, .slice p1 p2 p3, .int .i64 yc, .int .i64 ym] 38)
          have HX9 := Lib.hid (HX.out.below ((Below.refl _ wr).alloc (Nat.le_refl _) (.cells #[.string yn, .int .i64 yz, .int .i64 yD, .int .i64 yS, .int .i64 yu, .int .i64 ye, .slice y1 y2 y3, .slice p1 p2 p3, .int .i64 yc, .int .i64 ym] 38)))
          have hyl : w0.heap.size < wr.heap.size := HX.out.dice.lt_
          clear hyi
          go_upto_region 10 with fail
          clear hix HX
          generalize hyb : wr.heap.size = yb at YB hyl ⊢
          generalize wr.alloc (.cells #[.string yn, .int .i64 yz, .int .i64 yD, .int .i64 yS, .int .i64 yu, .int .i64 ye, .slice y1 y2 y3, .slice p1 p2 p3, .int .i64 yc, .int .i64 ym] 38) = W9 at YB HX9 ⊢
          clear hyb
          have HE9 := Lib.hid (show (XL w0 A n c zs cb bz #[.string ⟨x.name.toArray⟩, .int .i64 x.off, .slice v1 v2 v3] x (v1, v2, v3) W9) ∧ BlkAt W9 yb #[.string yn, .int .i64 yz, .int .i64 yD, .int .i64 yS, .int .i64 yu, .int .i64 ye, .slice y1 y2 y3, .slice p1 p2 p3, .int .i64 yc, .int .i64 ym] 38 from ⟨HX9.out, YB.out⟩)
          have HEB := Lib.hid (show ∀ V V' : World, ((XL w0 A n c zs cb bz #[.string ⟨x.name.toArray⟩, .int .i64 x.off, .slice v1 v2 v3] x (v1, v2, v3) V) ∧ BlkAt V yb #[.string yn, .int .i64 yz, .int .i64 yD, .int .i64 yS, .int .i64 yu, .int .i64 ye, .slice y1 y2 y3, .slice p1 p2 p3, .int .i64 yc, .int .i64 ym] 38) → Below V.heap.size V V' → ((XL w0 A n c zs cb bz #[.string ⟨x.name.toArray⟩, .int .i64 x.off, .slice v1 v2 v3] x (v1, v2, v3) V') ∧ BlkAt V' yb #[.string yn, .int .i64 yz, .int .i64 yD, .int .i64 yS, .int .i64 yu, .int .i64 ye, .slice y1 y2 y3, .slice p1 p2 p3, .int .i64 yc, .int .i64 ym] 38) from fun V V' h hb => ⟨h.1.below hb, h.2.after hb⟩)
          have HEG := Lib.hid (show ∀ V V' : World, ((XL w0 A n c zs cb bz #[.string ⟨x.name.toArray⟩, .int .i64 x.off, .slice v1 v2 v3] x (v1, v2, v3) V) ∧ BlkAt V yb #[.string yn, .int .i64 yz, .int .i64 yD, .int .i64 yS, .int .i64 yu, .int .i64 ye, .slice y1 y2 y3, .slice p1 p2 p3, .int .i64 yc, .int .i64 ym] 38) → V.grownBy V' (some w0.heap.size) → Dice V' w0.heap.size A n c zs → ((XL w0 A n c zs cb bz #[.string ⟨x.name.toArray⟩, .int .i64 x.off, .slice v1 v2 v3] x (v1, v2, v3) V') ∧ BlkAt V' yb #[.string yn, .int .i64 yz, .int .i64 yD, .int .i64 yS, .int .i64 yu, .int .i64 ye, .slice y1 y2 y3, .slice p1 p2 p3, .int .i64 yc, .int .i64 ym] 38) from fun V V' h hg hD => ⟨h.1.call hg hD, h.2.grown hg (by intro e; cases e; exact Nat.lt_irrefl _ hyl)⟩)
          have HES := Lib.hid (show ∀ V : World, ((XL w0 A n c zs cb bz #[.string ⟨x.name.toArray⟩, .int .i64 x.off, .slice v1 v2 v3] x (v1, v2, v3) V) ∧ BlkAt V yb #[.string yn, .int .i64 yz, .int .i64 yD, .int .i64 yS, .int .i64 yu, .int .i64 ye, .slice y1 y2 y3, .slice p1 p2 p3, .int .i64 yc, .int .i64 ym] 38) → (V.cell? ⟨bz, 0, none⟩ = some (.string ⟨x.name.toArray⟩) ∧ V.cell? ⟨bz, 1, none⟩ = some (.int .i64 x.off) ∧ V.cell? ⟨bz, 2, none⟩ = some (.slice v1 v2 v3) ∧ V.cell? ⟨yb, 0, none⟩ = some (.string yn) ∧ V.cell? ⟨yb, 1, none⟩ = some (.int .i64 yz) ∧ V.cell? ⟨yb, 2, none⟩ = some (.int .i64 yD) ∧ V.cell? ⟨yb, 3, none⟩ = some (.int .i64 yS) ∧ V.cell? ⟨yb, 4, none⟩ = some (.int .i64 yu) ∧ V.cell? ⟨yb, 5, none⟩ = some (.int .i64 ye) ∧ V.cell? ⟨yb, 6, none⟩ = some (.slice y1 y2 y3) ∧ V.cell? ⟨yb, 7, none⟩ = some (.slice p1 p2 p3) ∧ V.cell? ⟨yb, 8, none⟩ = some (.int .i64 yc) ∧ V.cell? ⟨yb, 9, none⟩ = some (.int .i64 ym) ∧ Hid ((XL w0 A n c zs cb bz #[.string ⟨x.name.toArray⟩, .int .i64 x.off, .slice v1 v2 v3] x (v1, v2, v3) V) ∧ BlkAt V yb #[.string yn, .int .i64 yz, .int .i64 yD, .int .i64 yS, .int .i64 yu, .int .i64 ye, .slice y1 y2 y3, .slice p1 p2 p3, .int .i64 yc, .int .i64 ym] 38)) from fun V h => ⟨h.1.z.cell rfl, h.1.z.cell rfl, h.1.z.cell rfl, h.2.cell rfl, h.2.cell rfl, h.2.cell rfl, h.2.cell rfl, h.2.cell rfl, h.2.cell rfl, h.2.cell rfl, h.2.cell rfl, h.2.cell rfl, h.2.cell rfl, Lib.hid h⟩)
          have HEL := Lib.hid (show ∀ V : World, (V.cell? ⟨bz, 0, none⟩ = some (.string ⟨x.name.toArray⟩) ∧ V.cell? ⟨bz, 1, none⟩ = some (.int .i64 x.off) ∧ V.cell? ⟨bz, 2, none⟩ = some (.slice v1 v2 v3) ∧ V.cell? ⟨yb, 0, none⟩ = some (.string yn) ∧ V.cell? ⟨yb, 1, none⟩ = some (.int .i64 yz) ∧ V.cell? ⟨yb, 2, none⟩ = some (.int .i64 yD) ∧ V.cell? ⟨yb, 3, none⟩ = some (.int .i64 yS) ∧ V.cell? ⟨yb, 4, none⟩ = some (.int .i64 yu) ∧ V.cell? ⟨yb, 5, none⟩ = some (.int .i64 ye) ∧ V.cell? ⟨yb, 6, none⟩ = some (.slice y1 y2 y3) ∧ V.cell? ⟨yb, 7, none⟩ = some (.slice p1 p2 p3) ∧ V.cell? ⟨yb, 8, none⟩ = some (.int .i64 yc) ∧ V.cell? ⟨yb, 9, none⟩ = some (.int .i64 ym) ∧ Hid ((XL w0 A n c zs cb bz #[.string ⟨x.name.toArray⟩, .int .i64 x.off, .slice v1 v2 v3] x (v1, v2, v3) V) ∧ BlkAt V yb #[.string yn, .int .i64 yz, .int .i64 yD, .int .i64 yS, .int .i64 yu, .int .i64 ye, .slice y1 y2 y3, .slice p1 p2 p3, .int .i64 yc, .int .i64 ym] 38)) → ((XL w0 A n c zs cb bz #[.string ⟨x.name.toArray⟩, .int .i64 x.off, .slice v1 v2 v3] x (v1, v2, v3) V) ∧ BlkAt V yb #[.string yn, .int .i64 yz, .int .i64 yD, .int .i64 yS, .int .i64 yu, .int .i64 ye, .slice y1 y2 y3, .slice p1 p2 p3, .int .i64 yc, .int .i64 ym] 38) from fun V h => h.2.2.2.2.2.2.2.2.2.2.2.2.2.out)
          have HPC := Lib.hid (show ∀ V : World, ((XL w0 A n c zs cb bz #[.string ⟨x.name.toArray⟩, .int .i64 x.off, .slice v1 v2 v3] x (v1, v2, v3) V) ∧ BlkAt V yb #[.string yn, .int .i64 yz, .int .i64 yD, .int .i64 yS, .int .i64 yu, .int .i64 ye, .slice y1 y2 y3, .slice p1 p2 p3, .int .i64 yc, .int .i64 ym] 38) → _ from fun V h => pchk_is HTR.out yu ye yD yS ⟨x.name.toArray⟩ v1 v2 v3 yn yz y1 y2 y3 p1 p2 p3 yc ym V (h.1.zin HT0.out HMZ.out) HOFF.out)
          have HRC := Lib.hid (show ∀ V : World, ((XL w0 A n c zs cb bz #[.string ⟨x.name.toArray⟩, .int .i64 x.off, .slice v1 v2 v3] x (v1, v2, v3) V) ∧ BlkAt V yb #[.string yn, .int .i64 yz, .int .i64 yD, .int .i64 yS, .int .i64 yu, .int .i64 ye, .slice y1 y2 y3, .slice p1 p2 p3, .int .i64 yc, .int .i64 ym] 38) → _ from fun V h => rchk_is HTR.out yu ye yD yS ⟨x.name.toArray⟩ v1 v2 v3 yn yz y1 y2 y3 p1 p2 p3 yc ym V (h.1.zin HT0.out HMZ.out) HOFF.out)
          clear YB HX9
          go_cut [75] (fun v wx => v = .bool false ∧ Hid ((XL w0 A n c zs cb bz #[.string ⟨x.name.toArray⟩, .int .i64 x.off, .slice v1 v2 v3] x (v1, v2, v3) wx) ∧ BlkAt wx yb #[.string yn, .int .i64 yz, .int .i64 yD, .int .i64 yS, .int .i64 yu, .int .i64 ye, .slice y1 y2 y3, .slice p1 p2 p3, .int .i64 yc, .int .i64 ym] 38))
          case first =>
            go_region_held3 (fun V => V.cell? ⟨bz, 0, none⟩ = some (.string ⟨x.name.toArray⟩) ∧ V.cell? ⟨bz, 1, none⟩ = some (.int .i64 x.off) ∧ V.cell? ⟨bz, 2, none⟩ = some (.slice v1 v2 v3) ∧ V.cell? ⟨yb, 0, none⟩ = some (.string yn) ∧ V.cell? ⟨yb, 1, none⟩ = some (.int .i64 yz) ∧ V.cell? ⟨yb, 2, none⟩ = some (.int .i64 yD) ∧ V.cell? ⟨yb, 3, none⟩ = some (.int .i64 yS) ∧ V.cell? ⟨yb, 4, none⟩ = some (.int .i64 yu) ∧ V.cell? ⟨yb, 5, none⟩ = some (.int .i64 ye) ∧ V.cell? ⟨yb, 6, none⟩ = some (.slice y1 y2 y3) ∧ V.cell? ⟨yb, 7, none⟩ = some (.slice p1 p2 p3) ∧ V.cell? ⟨yb, 8, none⟩ = some (.int .i64 yc) ∧ V.cell? ⟨yb, 9, none⟩ = some (.int .i64 ym) ∧ Hid ((XL w0 A n c zs cb bz #[.string ⟨x.name.toArray⟩, .int .i64 x.off, .slice v1 v2 v3] x (v1, v2, v3) V) ∧ BlkAt V yb #[.string yn, .int .i64 yz, .int .i64 yD, .int .i64 yS, .int .i64 yu, .int .i64 ye, .slice y1 y2 y3, .slice p1 p2 p3, .int .i64 yc, .int .i64 ym] 38))
              (first | (exact HES.out _ (HEB.out _ _ HE9.out (Below.refl _ _).drew)) | (exact HES.out _ (HEB.out _ _ (HEL.out _ (by assumption)) hb)))
              (first | (go_at_call 19; ((with_reducible refine (HPC.out _ (HEL.out _ (by assumption))).mono ?_); rintro e w' ⟨rfl, hb⟩)) | (go_at_call 20; ((with_reducible refine (HRC.out _ (HEL.out _ (by assumption))).mono ?_); rintro e w' ⟨rfl, hb⟩)))
            rename_i hS10
            have HE10 := Lib.hid (HEL.out _ hS10)
            clear hS10
            go_wp2_with fail
            go_meet
            exact ⟨by simp, HE10⟩
          case rest =>
            obtain ⟨rfl, HE10⟩ := hcut
            clear HE9 HES HEL HPC HRC
            have HPH := Lib.hid (show ∀ (N : Int) (V : World), I64 N → ((XL w0 A n c zs cb bz #[.string ⟨x.name.toArray⟩, .int .i64 x.off, .slice v1 v2 v3] x (v1, v2, v3) V) ∧ BlkAt V yb #[.string yn, .int .i64 yz, .int .i64 yD, .int .i64 yS, .int .i64 yu, .int .i64 ye, .slice y1 y2 y3, .slice p1 p2 p3, .int .i64 yc, .int .i64 ym] 38) → _ from fun N V hN h => pHan_is HTR.out yu ye yD yS ⟨x.name.toArray⟩ v1 v2 v3 yn yz y1 y2 y3 p1 p2 p3 yc ym N V (h.1.zin HT0.out HMZ.out) HOFF.out hN)
            have HRH := Lib.hid (show ∀ (N : Int) (V : World), I64 N → ((XL w0 A n c zs cb bz #[.string ⟨x.name.toArray⟩, .int .i64 x.off, .slice v1 v2 v3] x (v1, v2, v3) V) ∧ BlkAt V yb #[.string yn, .int .i64 yz, .int .i64 yD, .int .i64 yS, .int .i64 yu, .int .i64 ye, .slice y1 y2 y3, .slice p1 p2 p3, .int .i64 yc, .int .i64 ym] 38) → _ from fun N V hN h => rHan_is HTR.out yu ye yD yS ⟨x.name.toArray⟩ v1 v2 v3 yn yz y1 y2 y3 p1 p2 p3 yc ym N V (h.1.zin HT0.out HMZ.out) HOFF.out hN)
            have HPS := Lib.hid (show ∀ (N : Int) (V : World), I64 N → ((XL w0 A n c zs cb bz #[.string ⟨x.name.toArray⟩, .int .i64 x.off, .slice v1 v2 v3] x (v1, v2, v3) V) ∧ BlkAt V yb #[.string yn, .int .i64 yz, .int .i64 yD, .int .i64 yS, .int .i64 yu, .int .i64 ye, .slice y1 y2 y3, .slice p1 p2 p3, .int .i64 yc, .int .i64 ym] 38) → _ from fun N V hN h => pShi_is HTR.out yu ye yD yS ⟨x.name.toArray⟩ v1 v2 v3 yn yz y1 y2 y3 p1 p2 p3 yc ym N V (h.1.zin HT0.out HMZ.out) HOFF.out hN)
            have HRS := Lib.hid (show ∀ (N : Int) (V : World), I64 N → ((XL w0 A n c zs cb bz #[.string ⟨x.name.toArray⟩, .int .i64 x.off, .slice v1 v2 v3] x (v1, v2, v3) V) ∧ BlkAt V yb #[.string yn, .int .i64 yz, .int .i64 yD, .int .i64 yS, .int .i64 yu, .int .i64 ye, .slice y1 y2 y3, .slice p1 p2 p3, .int .i64 yc, .int .i64 ym] 38) → _ from fun N V hN h => rShi_is HTR.out yu ye yD yS ⟨x.name.toArray⟩ v1 v2 v3 yn yz y1 y2 y3 p1 p2 p3 yc ym N V (h.1.zin HT0.out HMZ.out) HOFF.out hN)
            have HPT := Lib.hid (show ∀ (N : Int) (V : World), I64 N → ((XL w0 A n c zs cb bz #[.string ⟨x.name.toArray⟩, .int .i64 x.off, .slice v1 v2 v3] x (v1, v2, v3) V) ∧ BlkAt V yb #[.string yn, .int .i64 yz, .int .i64 yD, .int .i64 yS, .int .i64 yu, .int .i64 ye, .slice y1 y2 y3, .slice p1 p2 p3, .int .i64 yc, .int .i64 ym] 38) → _ from fun N V hN h => pTurn_is HTR.out yu ye yD yS ⟨x.name.toArray⟩ v1 v2 v3 yn yz y1 y2 y3 p1 p2 p3 yc ym N V (h.1.zin HT0.out HMZ.out) HOFF.out hN HYI.out.2.2.2.2)
            have HRT := Lib.hid (show ∀ (N : Int) (V : World), I64 N → ((XL w0 A n c zs cb bz #[.string ⟨x.name.toArray⟩, .int .i64 x.off, .slice v1 v2 v3] x (v1, v2, v3) V) ∧ BlkAt V yb #[.string yn, .int .i64 yz, .int .i64 yD, .int .i64 yS, .int .i64 yu, .int .i64 ye, .slice y1 y2 y3, .slice p1 p2 p3, .int .i64 yc, .int .i64 ym] 38) → _ from fun N V hN h => rTurn_is HTR.out yu ye yD yS ⟨x.name.toArray⟩ v1 v2 v3 yn yz y1 y2 y3 p1 p2 p3 yc ym N V (h.1.zin HT0.out HMZ.out) HOFF.out hN HYI.out.2.2.2.2)
            have HPV := Lib.hid (show ∀ (f t : Int) (V : World), I64 f → I64 t → ((XL w0 A n c zs cb bz #[.string ⟨x.name.toArray⟩, .int .i64 x.off, .slice v1 v2 v3] x (v1, v2, v3) V) ∧ BlkAt V yb #[.string yn, .int .i64 yz, .int .i64 yD, .int .i64 yS, .int .i64 yu, .int .i64 ye, .slice y1 y2 y3, .slice p1 p2 p3, .int .i64 yc, .int .i64 ym] 38) → _ from fun f t V hf ht h => pHdv_is HTR.out yu ye yD yS ⟨x.name.toArray⟩ v1 v2 v3 yn yz y1 y2 y3 p1 p2 p3 yc ym f t V (h.1.zin HT0.out HMZ.out) HOFF.out hf ht)
            have HRV := Lib.hid (show ∀ (f t : Int) (V : World), I64 f → I64 t → ((XL w0 A n c zs cb bz #[.string ⟨x.name.toArray⟩, .int .i64 x.off, .slice v1 v2 v3] x (v1, v2, v3) V) ∧ BlkAt V yb #[.string yn, .int .i64 yz, .int .i64 yD, .int .i64 yS, .int .i64 yu, .int .i64 ye, .slice y1 y2 y3, .slice p1 p2 p3, .int .i64 yc, .int .i64 ym] 38) → _ from fun f t V hf ht h => rHdv_is HTR.out yu ye yD yS ⟨x.name.toArray⟩ v1 v2 v3 yn yz y1 y2 y3 p1 p2 p3 yc ym f t V (h.1.zin HT0.out HMZ.out) HOFF.out hf ht)
            obtain ⟨H, hH⟩ : ∃ H, Rc.hV x.off ts yu ye yD yS = H := ⟨_, rfl⟩
            obtain ⟨ok, hok⟩ : ∃ b, Rc.okL yu ye yD yS y2 = b := ⟨_, rfl⟩
            rw [hH, hok] at HPH HRH HPS HRS HPT HRT HPV HRV
            clear hH hok
            obtain ⟨mk, hmk⟩ : ∃ q, kk % 40 = q := ⟨_, rfl⟩
            have hmk2 : I64 mk := ⟨by omega, by omega⟩
            obtain ⟨Wq, rfl⟩ : ∃ q : World, q = wc := ⟨_, rfl⟩
            go_wp2_with (first | (go_at_call 13; refine (Mod_any kk 40 _ hkk.1 hkk.2 (by decide) (by decide)).mono ?_; rintro e wm ⟨rfl, rfl⟩; rw [hmk]) | (go_at_call 17; refine (Next_any w0.heap.size n c A zs 9 _ HE10.out.1.dice (by decide) (by decide)).mono ?_; rintro e w12 ⟨t9, rfl, t90, t91, hg9, hD9⟩; have ⟨u9, u9'⟩ := wrapn (n := t9 - 1) (by omega)))
            have HE12 := Lib.hid (HEG.out _ _ HE10.out hg9 hD9)
            have ht9 : I64 (t9 - 1) := ⟨by omega, by omega⟩
            clear hg9 hD9 HE10 hmk t90 t91 u9 u9'
            go_loopw [83] (fun y wx => ∃ i : Nat, i ≤ 4 ∧ y = .int .i64 i ∧ Hid ((XL w0 A n c zs cb bz #[.string ⟨x.name.toArray⟩, .int .i64 x.off, .slice v1 v2 v3] x (v1, v2, v3) wx) ∧ BlkAt wx yb #[.string yn, .int .i64 yz, .int .i64 yD, .int .i64 yS, .int .i64 yu, .int .i64 ye, .slice y1 y2 y3, .slice p1 p2 p3, .int .i64 yc, .int .i64 ym] 38)) (fun y _ => 4 - (intOf y).toNat)
            case atStart => exact ⟨0, by omega, rfl, HE12⟩
            case round =>
              clear HE12
              obtain ⟨i, hi4, rfl, HI⟩ := hrel
              by_cases hil : i < 4
              · obtain ⟨N, hN, hni⟩ : ∃ N : Int, I64 N ∧ ∀ V, (Instr.index 55 (.agg #[.int .i64 kk, .int .i64 mk, .int .i64 (t9 - 1), .int .i64 2386093]) (.int .i64 (i : Int))).run Tryd.prog V = .ok (.int .i64 N) V := by
                  have : i = 0 ∨ i = 1 ∨ i = 2 ∨ i = 3 := by omega
                  rcases this with rfl | rfl | rfl | rfl
                  · exact ⟨kk, hkk, fun _ => by kernel_rfl⟩
                  · exact ⟨mk, hmk2, fun _ => by kernel_rfl⟩
                  · exact ⟨t9 - 1, ht9, fun _ => by kernel_rfl⟩
                  · exact ⟨2386093, ⟨by omega, by omega⟩, fun _ => by kernel_rfl⟩
                have hil2 : (i : Int) < 4 := by omega
                have hi0 : (0 : Int) ≤ i := by omega
                have z0 := HI.out.1.z.cell (i := 0) rfl; have z1 := HI.out.1.z.cell (i := 1) rfl; have z2 := HI.out.1.z.cell (i := 2) rfl; have y_0 := HI.out.2.cell (i := 0) rfl; have y_1 := HI.out.2.cell (i := 1) rfl; have y_2 := HI.out.2.cell (i := 2) rfl; have y_3 := HI.out.2.cell (i := 3) rfl; have y_4 := HI.out.2.cell (i := 4) rfl; have y_5 := HI.out.2.cell (i := 5) rfl; have y_6 := HI.out.2.cell (i := 6) rfl; have y_7 := HI.out.2.cell (i := 7) rfl; have y_8 := HI.out.2.cell (i := 8) rfl; have y_9 := HI.out.2.cell (i := 9) rfl
                go_upto_region 15 with fail
                clear hni
                go_upto_region 16 with (go_at_call 14; refine (HPH.out N _ hN HI.out).mono ?_; rintro e w15 ⟨rfl, hb15⟩; have HI15 := Lib.hid (HEB.out _ _ HI.out hb15); clear hb15 z0 z1 z2 y_0 y_1 y_2 y_3 y_4 y_5 y_6 y_7 y_8 y_9)
                have z0 := HI15.out.1.z.cell (i := 0) rfl; have z1 := HI15.out.1.z.cell (i := 1) rfl; have z2 := HI15.out.1.z.cell (i := 2) rfl; have y_0 := HI15.out.2.cell (i := 0) rfl; have y_1 := HI15.out.2.cell (i := 1) rfl; have y_2 := HI15.out.2.cell (i := 2) rfl; have y_3 := HI15.out.2.cell (i := 3) rfl; have y_4 := HI15.out.2.cell (i := 4) rfl; have y_5 := HI15.out.2.cell (i := 5) rfl; have y_6 := HI15.out.2.cell (i := 6) rfl; have y_7 := HI15.out.2.cell (i := 7) rfl; have y_8 := HI15.out.2.cell (i := 8) rfl; have y_9 := HI15.out.2.cell (i := 9) rfl
                go_wp2_with (go_at_call 21; refine (HRH.out N _ hN HI15.out).mono ?_; rintro e w16 ⟨rfl, hb16⟩; have HI16 := Lib.hid (HEB.out _ _ HI15.out hb16); clear hb16 z0 z1 z2 y_0 y_1 y_2 y_3 y_4 y_5 y_6 y_7 y_8 y_9)
                go_roundw
                case rel => exact ⟨i + 1, Nat.succ_le_of_lt hil, by go_num, HI16⟩
                case measure => exact meas_up hil
              · go_wp2_with (go_at_call 22; refine (Instant_any w0.heap.size n c A zs _ HI.out.1.dice).mono ?_; rintro e w20 ⟨ti, rfl, ti0, ti1, hg20, hD20⟩; have ⟨u1, u1'⟩ := wrapn (n := ti + 1036800) (by omega); have ⟨u2, u2'⟩ := wrapn (n := ti - 1) (by omega))
                have HE20 := Lib.hid (HEG.out _ _ HI.out hg20 hD20)
                have hti : I64 ti := ⟨by omega, by omega⟩
                have hti2 : I64 (ti + 1036800) ∧ I64 (ti - 1) := ⟨⟨by omega, by omega⟩, ⟨by omega, by omega⟩⟩
                clear hg20 hD20 HI
                go_loopw [114] (fun y wx => ∃ i : Nat, i ≤ 4 ∧ y = .int .i64 i ∧ Hid ((XL w0 A n c zs cb bz #[.string ⟨x.name.toArray⟩, .int .i64 x.off, .slice v1 v2 v3] x (v1, v2, v3) wx) ∧ BlkAt wx yb #[.string yn, .int .i64 yz, .int .i64 yD, .int .i64 yS, .int .i64 yu, .int .i64 ye, .slice y1 y2 y3, .slice p1 p2 p3, .int .i64 yc, .int .i64 ym] 38)) (fun y _ => 4 - (intOf y).toNat)
                case atStart => exact ⟨0, by omega, rfl, HE20⟩
                case round =>
                  clear HE20
                  obtain ⟨i2, hi42, rfl, HI⟩ := hrel
                  by_cases hil2 : i2 < 4
                  · obtain ⟨N, hN, hni⟩ : ∃ N : Int, I64 N ∧ ∀ V, (Instr.index 55 (.agg #[.int .i64 xx, .int .i64 ti, .int .i64 0, .int .i64 8589934592]) (.int .i64 (i2 : Int))).run Tryd.prog V = .ok (.int .i64 N) V := by
                      have : i2 = 0 ∨ i2 = 1 ∨ i2 = 2 ∨ i2 = 3 := by omega
                      rcases this with rfl | rfl | rfl | rfl
                      · exact ⟨xx, hxx, fun _ => by kernel_rfl⟩
                      · exact ⟨ti, hti, fun _ => by kernel_rfl⟩
                      · exact ⟨0, ⟨by omega, by omega⟩, fun _ => by kernel_rfl⟩
                      · exact ⟨8589934592, ⟨by omega, by omega⟩, fun _ => by kernel_rfl⟩
                    have hil22 : (i2 : Int) < 4 := by omega
                    have hi02 : (0 : Int) ≤ i2 := by omega
                    have z0 := HI.out.1.z.cell (i := 0) rfl; have z1 := HI.out.1.z.cell (i := 1) rfl; have z2 := HI.out.1.z.cell (i := 2) rfl; have y_0 := HI.out.2.cell (i := 0) rfl; have y_1 := HI.out.2.cell (i := 1) rfl; have y_2 := HI.out.2.cell (i := 2) rfl; have y_3 := HI.out.2.cell (i := 3) rfl; have y_4 := HI.out.2.cell (i := 4) rfl; have y_5 := HI.out.2.cell (i := 5) rfl; have y_6 := HI.out.2.cell (i := 6) rfl; have y_7 := HI.out.2.cell (i := 7) rfl; have y_8 := HI.out.2.cell (i := 8) rfl; have y_9 := HI.out.2.cell (i := 9) rfl
                    go_upto_region 24 with fail
                    clear hni
                    go_upto_region 25 with (go_at_call 23; refine (HPS.out N _ hN HI.out).mono ?_; rintro e w24 ⟨k1, e1, rfl, s1', hb24⟩; have HI24 := Lib.hid (HEB.out _ _ HI.out hb24); have S1 := Lib.hid s1'; clear hb24 s1' z0 z1 z2 y_0 y_1 y_2 y_3 y_4 y_5 y_6 y_7 y_8 y_9)
                    have z0 := HI24.out.1.z.cell (i := 0) rfl; have z1 := HI24.out.1.z.cell (i := 1) rfl; have z2 := HI24.out.1.z.cell (i := 2) rfl; have y_0 := HI24.out.2.cell (i := 0) rfl; have y_1 := HI24.out.2.cell (i := 1) rfl; have y_2 := HI24.out.2.cell (i := 2) rfl; have y_3 := HI24.out.2.cell (i := 3) rfl; have y_4 := HI24.out.2.cell (i := 4) rfl; have y_5 := HI24.out.2.cell (i := 5) rfl; have y_6 := HI24.out.2.cell (i := 6) rfl; have y_7 := HI24.out.2.cell (i := 7) rfl; have y_8 := HI24.out.2.cell (i := 8) rfl; have y_9 := HI24.out.2.cell (i := 9) rfl
                    go_upto_region 26 with (go_at_call 24; refine (HRS.out N _ hN HI24.out).mono ?_; rintro e w25 ⟨k2, e2, rfl, s2', hb25⟩; obtain ⟨rfl, rfl⟩ := S1.out.eq s2'; have HI25 := Lib.hid (HEB.out _ _ HI24.out hb25); clear hb25 s2' z0 z1 z2 y_0 y_1 y_2 y_3 y_4 y_5 y_6 y_7 y_8 y_9)
                    have z0 := HI25.out.1.z.cell (i := 0) rfl; have z1 := HI25.out.1.z.cell (i := 1) rfl; have z2 := HI25.out.1.z.cell (i := 2) rfl; have y_0 := HI25.out.2.cell (i := 0) rfl; have y_1 := HI25.out.2.cell (i := 1) rfl; have y_2 := HI25.out.2.cell (i := 2) rfl; have y_3 := HI25.out.2.cell (i := 3) rfl; have y_4 := HI25.out.2.cell (i := 4) rfl; have y_5 := HI25.out.2.cell (i := 5) rfl; have y_6 := HI25.out.2.cell (i := 6) rfl; have y_7 := HI25.out.2.cell (i := 7) rfl; have y_8 := HI25.out.2.cell (i := 8) rfl; have y_9 := HI25.out.2.cell (i := 9) rfl
                    go_upto_region 27 with (go_at_call 25; refine (HPT.out N _ hN HI25.out).mono ?_; rintro e w26 ⟨k3, e3, rfl, s3', hb26⟩; obtain ⟨rfl, rfl⟩ := S1.out.eq s3'; have HI26 := Lib.hid (HEB.out _ _ HI25.out hb26); clear hb26 s3' z0 z1 z2 y_0 y_1 y_2 y_3 y_4 y_5 y_6 y_7 y_8 y_9)
                    have z0 := HI26.out.1.z.cell (i := 0) rfl; have z1 := HI26.out.1.z.cell (i := 1) rfl; have z2 := HI26.out.1.z.cell (i := 2) rfl; have y_0 := HI26.out.2.cell (i := 0) rfl; have y_1 := HI26.out.2.cell (i := 1) rfl; have y_2 := HI26.out.2.cell (i := 2) rfl; have y_3 := HI26.out.2.cell (i := 3) rfl; have y_4 := HI26.out.2.cell (i := 4) rfl; have y_5 := HI26.out.2.cell (i := 5) rfl; have y_6 := HI26.out.2.cell (i := 6) rfl; have y_7 := HI26.out.2.cell (i := 7) rfl; have y_8 := HI26.out.2.cell (i := 8) rfl; have y_9 := HI26.out.2.cell (i := 9) rfl
                    go_upto_region 28 with (go_at_call 26; refine (HRT.out N _ hN HI26.out).mono ?_; rintro e w27 ⟨k4, e4, rfl, s4', hb27⟩; obtain ⟨rfl, rfl⟩ := S1.out.eq s4'; have HI27 := Lib.hid (HEB.out _ _ HI26.out hb27); clear hb27 s4' z0 z1 z2 y_0 y_1 y_2 y_3 y_4 y_5 y_6 y_7 y_8 y_9)
                    clear S1
                    go_wp2_with fail
                    go_roundw
                    case rel => exact ⟨i2 + 1, Nat.succ_le_of_lt hil2, by go_num, HI27⟩
                    case measure => exact meas_up hil2
                  · go_wp2_with fail
                    go_loopw [176] (fun y wx => ∃ i : Nat, i ≤ 3 ∧ y = .int .i64 i ∧ Hid ((XL w0 A n c zs cb bz #[.string ⟨x.name.toArray⟩, .int .i64 x.off, .slice v1 v2 v3] x (v1, v2, v3) wx) ∧ BlkAt wx yb #[.string yn, .int .i64 yz, .int .i64 yD, .int .i64 yS, .int .i64 yu, .int .i64 ye, .slice y1 y2 y3, .slice p1 p2 p3, .int .i64 yc, .int .i64 ym] 38)) (fun y _ => 3 - (intOf y).toNat)
                    case atStart => exact ⟨0, by omega, rfl, HI⟩
                    case round =>
                      clear HI
                      obtain ⟨i3, hi43, rfl, HI⟩ := hrel
                      by_cases hil3 : i3 < 3
                      · obtain ⟨f, t, hft, htt', hni⟩ : ∃ f t : Int, I64 f ∧ I64 t ∧ ∀ V, (Instr.index 58 (.agg #[.int .i64 ti, .int .i64 (ti + 1036800), .int .i64 xx, .int .i64 tt, .int .i64 ti, .int .i64 (ti - 1)]) (.int .i64 (i3 : Int))).run Tryd.prog V = .ok (.agg #[.int .i64 f, .int .i64 t]) V := by
                          have : i3 = 0 ∨ i3 = 1 ∨ i3 = 2 := by omega
                          rcases this with rfl | rfl | rfl
                          · exact ⟨ti, ti + 1036800, hti, hti2.1, fun _ => by kernel_rfl⟩
                          · exact ⟨xx, tt, hxx, hto, fun _ => by kernel_rfl⟩
                          · exact ⟨ti, ti - 1, hti, hti2.2, fun _ => by kernel_rfl⟩
                        have hil32 : (i3 : Int) < 3 := by omega
                        have hi03 : (0 : Int) ≤ i3 := by omega
                        obtain ⟨wR, rfl⟩ : ∃ q : World, q = wr := ⟨_, rfl⟩
                        go_upto_region 34 with fail
                        clear hni
                        have FB := Lib.hid (BlkAt.new wR #[.int .i64 f, .int .i64 t] 57)
                        have HI34 := Lib.hid (HEB.out _ _ HI.out ((Below.refl _ wR).alloc (Nat.le_refl _) (.cells #[.int .i64 f, .int .i64 t] 57)))
                        clear HI
                        generalize hfb : wR.heap.size = fb at FB ⊢
                        generalize wR.alloc (.cells #[.int .i64 f, .int .i64 t] 57) = W34 at FB HI34 ⊢
                        clear hfb
                        have z0 := HI34.out.1.z.cell (i := 0) rfl; have z1 := HI34.out.1.z.cell (i := 1) rfl; have z2 := HI34.out.1.z.cell (i := 2) rfl; have y_0 := HI34.out.2.cell (i := 0) rfl; have y_1 := HI34.out.2.cell (i := 1) rfl; have y_2 := HI34.out.2.cell (i := 2) rfl; have y_3 := HI34.out.2.cell (i := 3) rfl; have y_4 := HI34.out.2.cell (i := 4) rfl; have y_5 := HI34.out.2.cell (i := 5) rfl; have y_6 := HI34.out.2.cell (i := 6) rfl; have y_7 := HI34.out.2.cell (i := 7) rfl; have y_8 := HI34.out.2.cell (i := 8) rfl; have y_9 := HI34.out.2.cell (i := 9) rfl
                        have f0 := FB.out.cell (i := 0) rfl; have f1 := FB.out.cell (i := 1) rfl
                        go_upto_region 35 with (go_at_call 27; refine (HPV.out f t _ hft htt' HI34.out).mono ?_; rintro e w34 ⟨L, er, B1, cc1, rfl, hr1, hi1, hl1, hb34⟩; have HI35 := Lib.hid (HEB.out _ _ HI34.out hb34); have FB35 := Lib.hid (FB.out.after hb34); have HR1 := Lib.hid hr1; have HJ1 := Lib.hid hi1; clear hb34 hr1 hi1 f0 f1 z0 z1 z2 y_0 y_1 y_2 y_3 y_4 y_5 y_6 y_7 y_8 y_9)
                        have z0 := HI35.out.1.z.cell (i := 0) rfl; have z1 := HI35.out.1.z.cell (i := 1) rfl; have z2 := HI35.out.1.z.cell (i := 2) rfl; have y_0 := HI35.out.2.cell (i := 0) rfl; have y_1 := HI35.out.2.cell (i := 1) rfl; have y_2 := HI35.out.2.cell (i := 2) rfl; have y_3 := HI35.out.2.cell (i := 3) rfl; have y_4 := HI35.out.2.cell (i := 4) rfl; have y_5 := HI35.out.2.cell (i := 5) rfl; have y_6 := HI35.out.2.cell (i := 6) rfl; have y_7 := HI35.out.2.cell (i := 7) rfl; have y_8 := HI35.out.2.cell (i := 8) rfl; have y_9 := HI35.out.2.cell (i := 9) rfl
                        have f0 := FB35.out.cell (i := 0) rfl; have f1 := FB35.out.cell (i := 1) rfl
                        go_upto_region 36 with (go_at_call 28; refine (HRV.out f t _ hft htt' HI35.out).mono ?_; rintro e w35 ⟨L2, er2, B2, cc2, rfl, hr2, hi2, hl2, hb35⟩; obtain ⟨rfl, rfl⟩ := HR1.out.eq hr2; have HI36 := Lib.hid (HEB.out _ _ HI35.out hb35); have HJ2 := Lib.hid hi2; have HJ12 := Lib.hid (HJ1.out.below hb35); clear hb35 hr2 hi2 f0 f1 HR1 z0 z1 z2 y_0 y_1 y_2 y_3 y_4 y_5 y_6 y_7 y_8 y_9)
                        go_wp2_with (go_at_call 29; refine (same10_any B1 B2 L.length cc1 cc2 w35 HJ12.out HJ2.out rfl (Nat.le_trans hl1 (by decide))).mono ?_; rintro e w36 ⟨rfl, hb36⟩; have HI37 := Lib.hid (HEB.out _ _ HI36.out hb36); clear hb36)
                        go_roundw
                        case rel => exact ⟨i3 + 1, Nat.succ_le_of_lt hil3, by go_num, HI37⟩
                        case measure => exact meas_up hil3
                      · go_wp2_with fail
                        go_roundw
                        case rel => exact ⟨j + 1, Nat.succ_le_of_lt hlt, by go_num, Lib.hid HI.out.1⟩
                        case measure => exact meas_up hlt
        · go_wp2_with fail
          refine (sane10_any _ (HT0.out.below HX.out.base)).mono ?_
          rintro e wz ⟨rfl, bz9⟩
          go_wp2_with fail
          go_ret
          exact ⟨rfl, by first | exact H00.out _ (bstep HX.out.base bz9) | (rw [hrb] at H00; exact H00.out _ (bstep HX.out.base bz9)) | (rw [← hrb]; exact H00.out _ (bstep HX.out.base bz9))⟩
  · have hl : decide ((n : Int) ≤ 500) = false := by simp; omega
    clear hn hf HA0
    go_enter Tryd.func4, Tryd.ntmps4
    go_upto_region 1 with fail
    have H00 := Lib.hid (show ∀ V, Below (w.alloc (.cells #[.string rn, .int .i64 rz, .int .i64 rD, .int .i64 rS, .int .i64 ru, .int .i64 re, .slice r1 r2 r3, .slice s1 s2 s3, .int .i64 rc, .int .i64 rm] 38)).heap.size (w.alloc (.cells #[.string rn, .int .i64 rz, .int .i64 rD, .int .i64 rS, .int .i64 ru, .int .i64 re, .slice r1 r2 r3, .slice s1 s2 s3, .int .i64 rc, .int .i64 rm] 38)) V → Below w.heap.size w V from fun V hb => H0.out.trans (hb.mono H0.out.size))
    generalize w.alloc (.cells #[.string rn, .int .i64 rz, .int .i64 rD, .int .i64 rS, .int .i64 ru, .int .i64 re, .slice r1 r2 r3, .slice s1 s2 s3, .int .i64 rc, .int .i64 rm] 38) = w0 at HT0 H00 ⊢
    go_wp2_with fail
    refine (Light_any A n c _).mono ?_
    rw [hl]
    rintro e w' ⟨rfl, rfl⟩
    go_wp2_with fail
    refine (sane10_any _ HT0.out).mono ?_
    rintro e w1 ⟨rfl, b1⟩
    go_wp2_with fail
    go_ret
    exact ⟨rfl, H00.out _ b1⟩
end Go.Proofs.YthaacmmkignocaaDoor
