/- The reference of layer 10: handover and shift. Printed by gen_tcb.py. -/
import Derived.Test.YthaacmmkignocaaDoorKZre
import Derived.Test.YthaacmmkignocaaDoorKZlx
import Derived.Test.YthaacmmkignocaaDoorKG34
namespace Go.Proofs.YthaacmmkignocaaDoor
open Go.RowKit
set_option linter.unusedVariables false
set_option linter.unusedSimpArgs false
set_option maxRecDepth 100000
theorem fstV_none {off : Int} {ts : Zn.L} {D S : Int} (hs : Zn.okD S = true) (h : Zn.fst (Zn.locS D S) (Zn.strs 0 off ts) = none) : fstV off ts 0 D S = 0 ∧ fstE off ts 0 D S = 10 := by
  unfold fstV fstE
  simp [hs, h, fstR, fstC]
/-- What handover hands back. -/
def HanV (H : Option Int) (w : World) (e : Ending) (w' : World) : Prop := ∃ (v : Int) (b : Bool), e = .returned (.tuple #[.int .i64 v, .bool b]) ∧ Below w.heap.size w w' ∧ (b = true → H = some v) ∧ (b = false → H = none)
set_option maxHeartbeats 8000000 in
theorem rhan_is {off : Int} {rs : List Zn.Rule} {ts : Zn.L} (hZ : Zn.trans off rs = (ts, 0)) {u ee D S : Int} (hr : Rc.Rt u ee D S) (s : ByteArray) (A : Option Addr) (n c : Nat) (nm : ByteArray) (lz : Int) (m1 : Option Addr) (m2 m3 : Nat) (q1 : Option Addr) (q2 q3 : Nat) (lc lm : Int) (k : Int) (w : World) (hz : ZIn w A n rs) (ho : I64 off) (h0 : 0 ≤ k) (h1 : k ≤ 3000000) :
    Calls Tryd.prog 47 #[.agg #[.string s, .int .i64 off, .slice A n c], .agg #[.string nm, .int .i64 lz, .int .i64 D, .int .i64 S, .int .i64 u, .int .i64 ee, .slice m1 m2 m3, .slice q1 q2 q3, .int .i64 lc, .int .i64 lm], .int .i64 k] w (HanV (Rc.hV off ts u ee D S k) w) := by
  have HC := Lib.hid (show ∀ (d : Int), I64 d → ∀ W, Below w.heap.size w W → Calls Tryd.prog 16 #[.agg #[.string s, .int .i64 off, .slice A n c], .agg #[.int .i64 d, .int .i64 S]] W (GivesF (fstV off ts 0 d S) (fstE off ts 0 d S) W) from fun d hd W hb => rfirst_is hZ s A n c d S W (hz.below hb) ho hd)
  have e1 := hr.n1; have e4 := hr.n4; have d1 := hr.d1; have d2 := hr.dm; have u0 := hr.u0; have u2 := hr.u2
  have p0 : 0 ≤ k * ee := Int.mul_nonneg h0 (by omega)
  have p1 : k * ee ≤ 3000000 * 400 := Int.mul_le_mul h1 e4 (by omega) (by omega)
  have hHV := Lib.hid (show Rc.hV off ts u ee D S k = Rc.hV off ts u ee D S k from rfl)
  obtain ⟨p, hp⟩ : ∃ p, k * ee = p := ⟨_, rfl⟩
  rw [hp] at p0 p1
  have ⟨w1, w1'⟩ := wrapn (n := p) (by omega)
  have ⟨w2, w2'⟩ := wrapn (n := p * 3600) (by omega)
  have ⟨w3, w3'⟩ := wrapn (n := p * 7) (by omega)
  have hok := hr.okD
  by_cases hu : u = 0
  · subst hu
    have ZB := Lib.hid (show BlkAt ((w.alloc (.cells #[.string s, .int .i64 off, .slice A n c] 42)).alloc (.cells #[.string nm, .int .i64 lz, .int .i64 D, .int .i64 S, .int .i64 0, .int .i64 ee, .slice m1 m2 m3, .slice q1 q2 q3, .int .i64 lc, .int .i64 lm] 38)) w.heap.size #[.string s, .int .i64 off, .slice A n c] 42 from BlkAt.alloc (BlkAt.new w _ _) _)
    have LB := Lib.hid (show BlkAt ((w.alloc (.cells #[.string s, .int .i64 off, .slice A n c] 42)).alloc (.cells #[.string nm, .int .i64 lz, .int .i64 D, .int .i64 S, .int .i64 0, .int .i64 ee, .slice m1 m2 m3, .slice q1 q2 q3, .int .i64 lc, .int .i64 lm] 38)) (w.heap.size + 1) #[.string nm, .int .i64 lz, .int .i64 D, .int .i64 S, .int .i64 0, .int .i64 ee, .slice m1 m2 m3, .slice q1 q2 q3, .int .i64 lc, .int .i64 lm] 38 from by have := BlkAt.new (w.alloc (.cells #[.string s, .int .i64 off, .slice A n c] 42)) #[.string nm, .int .i64 lz, .int .i64 D, .int .i64 S, .int .i64 0, .int .i64 ee, .slice m1 m2 m3, .slice q1 q2 q3, .int .i64 lc, .int .i64 lm] 38; simpa using this)
    have HB := Lib.hid (((Below.refl w.heap.size w).alloc (Nat.le_refl _) (.cells #[.string s, .int .i64 off, .slice A n c] 42)).alloc (by simp) (.cells #[.string nm, .int .i64 lz, .int .i64 D, .int .i64 S, .int .i64 0, .int .i64 ee, .slice m1 m2 m3, .slice q1 q2 q3, .int .i64 lc, .int .i64 lm] 38))
    have hD : I64 D := ⟨by omega, by omega⟩
    cases hf : Zn.fst (Zn.locS D S) (Zn.strs 0 off ts) with
    | none =>
      have HN := Lib.hid (show Rc.hV off ts 0 ee D S k = none by unfold Rc.hV; rw [if_pos rfl, hf]; rfl)
      have hfv := fstV_none hok hf
      have ⟨w4, w4'⟩ := wrapn (n := 0 + p * 3600) (by omega)
      have HD := Lib.hid hD
      clear hz hf hok hHV hr hD
      go_enter Tryd.func47, Tryd.ntmps47
      go_upto_region 1 with fail
      generalize (w.alloc (.cells #[.string s, .int .i64 off, .slice A n c] 42)).alloc (.cells #[.string nm, .int .i64 lz, .int .i64 D, .int .i64 S, .int .i64 0, .int .i64 ee, .slice m1 m2 m3, .slice q1 q2 q3, .int .i64 lc, .int .i64 lm] 38) = W0 at ZB LB HB ⊢
      have z0 := ZB.out.cell (i := 0) rfl; have z1 := ZB.out.cell (i := 1) rfl; have z2 := ZB.out.cell (i := 2) rfl; have l0 := LB.out.cell (i := 0) rfl; have l1 := LB.out.cell (i := 1) rfl; have l2 := LB.out.cell (i := 2) rfl; have l3 := LB.out.cell (i := 3) rfl; have l4 := LB.out.cell (i := 4) rfl; have l5 := LB.out.cell (i := 5) rfl; have l6 := LB.out.cell (i := 6) rfl; have l7 := LB.out.cell (i := 7) rfl; have l8 := LB.out.cell (i := 8) rfl; have l9 := LB.out.cell (i := 9) rfl;
      go_wp2_with (go_at_call 16; refine (HC.out D HD.out _ HB.out).mono ?_; rintro e w5 ⟨rfl, hb5⟩; rw [hfv.1, hfv.2]; have l4' := (LB.out.after hb5).cell (i := 4) rfl; have l5' := (LB.out.after hb5).cell (i := 5) rfl; have HB5 := Lib.hid (bstep HB.out hb5); clear hb5)
      go_wp2_with fail
      go_ret2
      exact ⟨_, _, rfl, HB5.out, fun h => (by cases h), fun _ => HN.out⟩
    | some x =>
      obtain ⟨x1, x2, -⟩ := Rc.fst_facts (Zn.trans_vz hZ) (Rc.locS_lo hr.d1 hr.s0) hf
      have hfv := fstV_ok hok rfl hf
      have ⟨w4, w4'⟩ := wrapn (n := x + p * 3600) (by omega)
      have HD := Lib.hid hD
      by_cases hm : x + p * 3600 ≤ 8589934592
      · have HN := Lib.hid (show Rc.hV off ts 0 ee D S k = some (x + p * 3600) by unfold Rc.hV; rw [if_pos rfl, hf, hp]; simp only [Option.bind_some]; exact if_pos hm)
        clear hz hf hok hHV hr hD
        go_enter Tryd.func47, Tryd.ntmps47
        go_upto_region 1 with fail
        generalize (w.alloc (.cells #[.string s, .int .i64 off, .slice A n c] 42)).alloc (.cells #[.string nm, .int .i64 lz, .int .i64 D, .int .i64 S, .int .i64 0, .int .i64 ee, .slice m1 m2 m3, .slice q1 q2 q3, .int .i64 lc, .int .i64 lm] 38) = W0 at ZB LB HB ⊢
        have z0 := ZB.out.cell (i := 0) rfl; have z1 := ZB.out.cell (i := 1) rfl; have z2 := ZB.out.cell (i := 2) rfl; have l0 := LB.out.cell (i := 0) rfl; have l1 := LB.out.cell (i := 1) rfl; have l2 := LB.out.cell (i := 2) rfl; have l3 := LB.out.cell (i := 3) rfl; have l4 := LB.out.cell (i := 4) rfl; have l5 := LB.out.cell (i := 5) rfl; have l6 := LB.out.cell (i := 6) rfl; have l7 := LB.out.cell (i := 7) rfl; have l8 := LB.out.cell (i := 8) rfl; have l9 := LB.out.cell (i := 9) rfl;
        go_wp2_with (go_at_call 16; refine (HC.out D HD.out _ HB.out).mono ?_; rintro e w5 ⟨rfl, hb5⟩; rw [hfv.1, hfv.2]; have l4' := (LB.out.after hb5).cell (i := 4) rfl; have l5' := (LB.out.after hb5).cell (i := 5) rfl; have HB5 := Lib.hid (bstep HB.out hb5); clear hb5)
        go_wp2_with fail
        go_ret2
        exact ⟨_, _, rfl, HB5.out, fun _ => HN.out, fun h => (by simp at h)⟩
      · have HN := Lib.hid (show Rc.hV off ts 0 ee D S k = none by unfold Rc.hV; rw [if_pos rfl, hf, hp]; simp only [Option.bind_some]; exact if_neg hm)
        clear hz hf hok hHV hr hD
        go_enter Tryd.func47, Tryd.ntmps47
        go_upto_region 1 with fail
        generalize (w.alloc (.cells #[.string s, .int .i64 off, .slice A n c] 42)).alloc (.cells #[.string nm, .int .i64 lz, .int .i64 D, .int .i64 S, .int .i64 0, .int .i64 ee, .slice m1 m2 m3, .slice q1 q2 q3, .int .i64 lc, .int .i64 lm] 38) = W0 at ZB LB HB ⊢
        have z0 := ZB.out.cell (i := 0) rfl; have z1 := ZB.out.cell (i := 1) rfl; have z2 := ZB.out.cell (i := 2) rfl; have l0 := LB.out.cell (i := 0) rfl; have l1 := LB.out.cell (i := 1) rfl; have l2 := LB.out.cell (i := 2) rfl; have l3 := LB.out.cell (i := 3) rfl; have l4 := LB.out.cell (i := 4) rfl; have l5 := LB.out.cell (i := 5) rfl; have l6 := LB.out.cell (i := 6) rfl; have l7 := LB.out.cell (i := 7) rfl; have l8 := LB.out.cell (i := 8) rfl; have l9 := LB.out.cell (i := 9) rfl;
        go_wp2_with (go_at_call 16; refine (HC.out D HD.out _ HB.out).mono ?_; rintro e w5 ⟨rfl, hb5⟩; rw [hfv.1, hfv.2]; have l4' := (LB.out.after hb5).cell (i := 4) rfl; have l5' := (LB.out.after hb5).cell (i := 5) rfl; have HB5 := Lib.hid (bstep HB.out hb5); clear hb5)
        go_wp2_with fail
        go_ret2
        exact ⟨_, _, rfl, HB5.out, fun h => False.elim (by have := of_decide_eq_true h; omega), fun _ => HN.out⟩
  · have fu : (u == 0) = false := by simpa using hu
    have key : ∀ (q : Int), D + q = D + k * Rc.stp u ee → ∃ (x : Int) (b : Bool), fstV off ts 0 (D + q) S = x ∧ (fstE off ts 0 (D + q) S == 0) = b ∧ (b = true → Rc.hV off ts u ee D S k = some x) ∧ (b = false → Rc.hV off ts u ee D S k = none) := fun q hq => by
      have e0 : Rc.hV off ts u ee D S k = Zn.fst (Zn.locS (D + q) S) (Zn.strs 0 off ts) := by unfold Rc.hV; rw [if_neg hu, hq]
      cases hf : Zn.fst (Zn.locS (D + q) S) (Zn.strs 0 off ts) with
      | none =>
        have hfv := fstV_none hok hf
        refine ⟨_, _, rfl, rfl, fun h => ?_, fun _ => ?_⟩
        · rw [hfv.2] at h; cases h
        · rw [e0, hf]
      | some y =>
        have hfv := fstV_ok hok rfl hf
        refine ⟨_, _, rfl, rfl, fun _ => ?_, fun h => ?_⟩
        · rw [e0, hf, hfv.1]
        · rw [hfv.2] at h; cases h
    by_cases h2 : u = 2
    · subst h2
      obtain ⟨x, b, hx, hb, g1, g2⟩ := key (p * 7) (by unfold Rc.stp; rw [if_pos rfl, ← hp, Int.mul_assoc])
      have HG := Lib.hid (And.intro g1 g2)
      have ⟨w4, w4'⟩ := wrapn (n := D + p * 7) (by omega)
      have HD := Lib.hid (show I64 (D + p * 7) from ⟨by omega, by omega⟩)
      have HX := Lib.hid hx
      generalize hfe : fstE off ts 0 (D + p * 7) S = er at hb
      have HE := Lib.hid hfe
      have ZB := Lib.hid (show BlkAt ((w.alloc (.cells #[.string s, .int .i64 off, .slice A n c] 42)).alloc (.cells #[.string nm, .int .i64 lz, .int .i64 D, .int .i64 S, .int .i64 2, .int .i64 ee, .slice m1 m2 m3, .slice q1 q2 q3, .int .i64 lc, .int .i64 lm] 38)) w.heap.size #[.string s, .int .i64 off, .slice A n c] 42 from BlkAt.alloc (BlkAt.new w _ _) _)
      have LB := Lib.hid (show BlkAt ((w.alloc (.cells #[.string s, .int .i64 off, .slice A n c] 42)).alloc (.cells #[.string nm, .int .i64 lz, .int .i64 D, .int .i64 S, .int .i64 2, .int .i64 ee, .slice m1 m2 m3, .slice q1 q2 q3, .int .i64 lc, .int .i64 lm] 38)) (w.heap.size + 1) #[.string nm, .int .i64 lz, .int .i64 D, .int .i64 S, .int .i64 2, .int .i64 ee, .slice m1 m2 m3, .slice q1 q2 q3, .int .i64 lc, .int .i64 lm] 38 from by have := BlkAt.new (w.alloc (.cells #[.string s, .int .i64 off, .slice A n c] 42)) #[.string nm, .int .i64 lz, .int .i64 D, .int .i64 S, .int .i64 2, .int .i64 ee, .slice m1 m2 m3, .slice q1 q2 q3, .int .i64 lc, .int .i64 lm] 38; simpa using this)
      have HB := Lib.hid (((Below.refl w.heap.size w).alloc (Nat.le_refl _) (.cells #[.string s, .int .i64 off, .slice A n c] 42)).alloc (by simp) (.cells #[.string nm, .int .i64 lz, .int .i64 D, .int .i64 S, .int .i64 2, .int .i64 ee, .slice m1 m2 m3, .slice q1 q2 q3, .int .i64 lc, .int .i64 lm] 38))
      clear hz hok hHV hr key g1 g2 hx hfe
      go_enter Tryd.func47, Tryd.ntmps47
      go_upto_region 1 with fail
      generalize (w.alloc (.cells #[.string s, .int .i64 off, .slice A n c] 42)).alloc (.cells #[.string nm, .int .i64 lz, .int .i64 D, .int .i64 S, .int .i64 2, .int .i64 ee, .slice m1 m2 m3, .slice q1 q2 q3, .int .i64 lc, .int .i64 lm] 38) = W0 at ZB LB HB ⊢
      have z0 := ZB.out.cell (i := 0) rfl; have z1 := ZB.out.cell (i := 1) rfl; have z2 := ZB.out.cell (i := 2) rfl; have l0 := LB.out.cell (i := 0) rfl; have l1 := LB.out.cell (i := 1) rfl; have l2 := LB.out.cell (i := 2) rfl; have l3 := LB.out.cell (i := 3) rfl; have l4 := LB.out.cell (i := 4) rfl; have l5 := LB.out.cell (i := 5) rfl; have l6 := LB.out.cell (i := 6) rfl; have l7 := LB.out.cell (i := 7) rfl; have l8 := LB.out.cell (i := 8) rfl; have l9 := LB.out.cell (i := 9) rfl;
      go_wp2_with (go_at_call 16; refine (HC.out (D + p * 7) HD.out _ HB.out).mono ?_; rintro e w5 ⟨rfl, hb5⟩; rw [HX.out, HE.out]; have HB5 := Lib.hid (bstep HB.out hb5); clear hb5)
      go_wp2_with fail
      go_ret2
      exact ⟨_, _, rfl, HB5.out, HG.out.1, HG.out.2⟩
    · obtain rfl : u = 1 := by omega
      obtain ⟨x, b, hx, hb, g1, g2⟩ := key p (by unfold Rc.stp; rw [if_neg (by omega), hp])
      have HG := Lib.hid (And.intro g1 g2)
      have ⟨w4, w4'⟩ := wrapn (n := D + p) (by omega)
      have HD := Lib.hid (show I64 (D + p) from ⟨by omega, by omega⟩)
      have HX := Lib.hid hx
      generalize hfe : fstE off ts 0 (D + p) S = er at hb
      have HE := Lib.hid hfe
      have ZB := Lib.hid (show BlkAt ((w.alloc (.cells #[.string s, .int .i64 off, .slice A n c] 42)).alloc (.cells #[.string nm, .int .i64 lz, .int .i64 D, .int .i64 S, .int .i64 1, .int .i64 ee, .slice m1 m2 m3, .slice q1 q2 q3, .int .i64 lc, .int .i64 lm] 38)) w.heap.size #[.string s, .int .i64 off, .slice A n c] 42 from BlkAt.alloc (BlkAt.new w _ _) _)
      have LB := Lib.hid (show BlkAt ((w.alloc (.cells #[.string s, .int .i64 off, .slice A n c] 42)).alloc (.cells #[.string nm, .int .i64 lz, .int .i64 D, .int .i64 S, .int .i64 1, .int .i64 ee, .slice m1 m2 m3, .slice q1 q2 q3, .int .i64 lc, .int .i64 lm] 38)) (w.heap.size + 1) #[.string nm, .int .i64 lz, .int .i64 D, .int .i64 S, .int .i64 1, .int .i64 ee, .slice m1 m2 m3, .slice q1 q2 q3, .int .i64 lc, .int .i64 lm] 38 from by have := BlkAt.new (w.alloc (.cells #[.string s, .int .i64 off, .slice A n c] 42)) #[.string nm, .int .i64 lz, .int .i64 D, .int .i64 S, .int .i64 1, .int .i64 ee, .slice m1 m2 m3, .slice q1 q2 q3, .int .i64 lc, .int .i64 lm] 38; simpa using this)
      have HB := Lib.hid (((Below.refl w.heap.size w).alloc (Nat.le_refl _) (.cells #[.string s, .int .i64 off, .slice A n c] 42)).alloc (by simp) (.cells #[.string nm, .int .i64 lz, .int .i64 D, .int .i64 S, .int .i64 1, .int .i64 ee, .slice m1 m2 m3, .slice q1 q2 q3, .int .i64 lc, .int .i64 lm] 38))
      clear hz hok hHV hr key g1 g2 hx hfe
      go_enter Tryd.func47, Tryd.ntmps47
      go_upto_region 1 with fail
      generalize (w.alloc (.cells #[.string s, .int .i64 off, .slice A n c] 42)).alloc (.cells #[.string nm, .int .i64 lz, .int .i64 D, .int .i64 S, .int .i64 1, .int .i64 ee, .slice m1 m2 m3, .slice q1 q2 q3, .int .i64 lc, .int .i64 lm] 38) = W0 at ZB LB HB ⊢
      have z0 := ZB.out.cell (i := 0) rfl; have z1 := ZB.out.cell (i := 1) rfl; have z2 := ZB.out.cell (i := 2) rfl; have l0 := LB.out.cell (i := 0) rfl; have l1 := LB.out.cell (i := 1) rfl; have l2 := LB.out.cell (i := 2) rfl; have l3 := LB.out.cell (i := 3) rfl; have l4 := LB.out.cell (i := 4) rfl; have l5 := LB.out.cell (i := 5) rfl; have l6 := LB.out.cell (i := 6) rfl; have l7 := LB.out.cell (i := 7) rfl; have l8 := LB.out.cell (i := 8) rfl; have l9 := LB.out.cell (i := 9) rfl;
      go_wp2_with (go_at_call 16; refine (HC.out (D + p) HD.out _ HB.out).mono ?_; rintro e w5 ⟨rfl, hb5⟩; rw [HX.out, HE.out]; have HB5 := Lib.hid (bstep HB.out hb5); clear hb5)
      go_wp2_with fail
      go_ret2
      exact ⟨_, _, rfl, HB5.out, HG.out.1, HG.out.2⟩
/-- What shift hands back. -/
def ShiV (H : Int → Option Int) (t : Int) (w : World) (e : Ending) (w' : World) : Prop := ∃ k : Int, e = .returned (.int .i64 k) ∧ Rc.ShiftIs H t k ∧ Below w.heap.size w w'
set_option maxHeartbeats 8000000 in
theorem rshi_is {off : Int} {rs : List Zn.Rule} {ts : Zn.L} (hZ : Zn.trans off rs = (ts, 0)) {u ee D S : Int} (hr : Rc.Rt u ee D S) (s : ByteArray) (A : Option Addr) (n c : Nat) (nm : ByteArray) (lz : Int) (m1 : Option Addr) (m2 m3 : Nat) (q1 : Option Addr) (q2 q3 : Nat) (lc lm : Int) (t : Int) (w : World) (hz : ZIn w A n rs) (ho : I64 off) (h0 : 0 ≤ t) (h1 : t ≤ 8589934592) :
    Calls Tryd.prog 49 #[.agg #[.string s, .int .i64 off, .slice A n c], .agg #[.string nm, .int .i64 lz, .int .i64 D, .int .i64 S, .int .i64 u, .int .i64 ee, .slice m1 m2 m3, .slice q1 q2 q3, .int .i64 lc, .int .i64 lm], .int .i64 t] w (ShiV (Rc.hV off ts u ee D S) t w) := by
  have hv := Zn.trans_vz hZ
  have HC := Lib.hid (show ∀ (d : Int), I64 d → ∀ W, Below w.heap.size w W → Calls Tryd.prog 16 #[.agg #[.string s, .int .i64 off, .slice A n c], .agg #[.int .i64 d, .int .i64 S]] W (GivesF (fstV off ts 0 d S) (fstE off ts 0 d S) W) from fun d hd W hb => rfirst_is hZ s A n c d S W (hz.below hb) ho hd)
  have HL := Lib.hid (show ∀ W, Below w.heap.size w W → _ from fun W hb => rtoLocal_is hZ s A n c t W (hz.below hb) ho)
  have HH := Lib.hid (show ∀ (k : Int) W, Below w.heap.size w W → 0 ≤ k → k ≤ 3000000 → _ from fun k W hb g0 g1 => rhan_is hZ hr s A n c nm lz m1 m2 m3 q1 q2 q3 lc lm k W (hz.below hb) ho g0 g1)
  have e1 := hr.n1; have e4 := hr.n4; have d1 := hr.d1; have d2 := hr.dm; have u0 := hr.u0; have u2 := hr.u2
  have hok := hr.okD
  by_cases hu : u = 0
  · subst hu
    have ZB := Lib.hid (show BlkAt ((w.alloc (.cells #[.string s, .int .i64 off, .slice A n c] 42)).alloc (.cells #[.string nm, .int .i64 lz, .int .i64 D, .int .i64 S, .int .i64 0, .int .i64 ee, .slice m1 m2 m3, .slice q1 q2 q3, .int .i64 lc, .int .i64 lm] 38)) w.heap.size #[.string s, .int .i64 off, .slice A n c] 42 from BlkAt.alloc (BlkAt.new w _ _) _)
    have LB := Lib.hid (show BlkAt ((w.alloc (.cells #[.string s, .int .i64 off, .slice A n c] 42)).alloc (.cells #[.string nm, .int .i64 lz, .int .i64 D, .int .i64 S, .int .i64 0, .int .i64 ee, .slice m1 m2 m3, .slice q1 q2 q3, .int .i64 lc, .int .i64 lm] 38)) (w.heap.size + 1) #[.string nm, .int .i64 lz, .int .i64 D, .int .i64 S, .int .i64 0, .int .i64 ee, .slice m1 m2 m3, .slice q1 q2 q3, .int .i64 lc, .int .i64 lm] 38 from by have := BlkAt.new (w.alloc (.cells #[.string s, .int .i64 off, .slice A n c] 42)) #[.string nm, .int .i64 lz, .int .i64 D, .int .i64 S, .int .i64 0, .int .i64 ee, .slice m1 m2 m3, .slice q1 q2 q3, .int .i64 lc, .int .i64 lm] 38; simpa using this)
    have HB := Lib.hid (((Below.refl w.heap.size w).alloc (Nat.le_refl _) (.cells #[.string s, .int .i64 off, .slice A n c] 42)).alloc (by simp) (.cells #[.string nm, .int .i64 lz, .int .i64 D, .int .i64 S, .int .i64 0, .int .i64 ee, .slice m1 m2 m3, .slice q1 q2 q3, .int .i64 lc, .int .i64 lm] 38))
    have hD : I64 D := ⟨by omega, by omega⟩
    cases hf : Zn.fst (Zn.locS D S) (Zn.strs 0 off ts) with
    | none =>
      have HN := Lib.hid (Rc.shift_hours_no hv hr (t := t) (fun x e => by rw [hf] at e; cases e))
      have hfv := fstV_none hok hf
      have HD := Lib.hid hD
      clear hz hf hok hr hD hv HL HH
      go_enter Tryd.func49, Tryd.ntmps49
      go_upto_region 2 with fail
      generalize (w.alloc (.cells #[.string s, .int .i64 off, .slice A n c] 42)).alloc (.cells #[.string nm, .int .i64 lz, .int .i64 D, .int .i64 S, .int .i64 0, .int .i64 ee, .slice m1 m2 m3, .slice q1 q2 q3, .int .i64 lc, .int .i64 lm] 38) = W0 at ZB LB HB ⊢
      have z0 := ZB.out.cell (i := 0) rfl; have z1 := ZB.out.cell (i := 1) rfl; have z2 := ZB.out.cell (i := 2) rfl; have l0 := LB.out.cell (i := 0) rfl; have l1 := LB.out.cell (i := 1) rfl; have l2 := LB.out.cell (i := 2) rfl; have l3 := LB.out.cell (i := 3) rfl; have l4 := LB.out.cell (i := 4) rfl; have l5 := LB.out.cell (i := 5) rfl; have l6 := LB.out.cell (i := 6) rfl; have l7 := LB.out.cell (i := 7) rfl; have l8 := LB.out.cell (i := 8) rfl; have l9 := LB.out.cell (i := 9) rfl;
      go_wp2_with (go_at_call 16; refine (HC.out D HD.out _ HB.out).mono ?_; rintro e w5 ⟨rfl, hb5⟩; rw [hfv.1, hfv.2]; have HB5 := Lib.hid (bstep HB.out hb5); clear hb5)
      go_wp2_with fail
      go_ret
      exact ⟨_, rfl, HN.out, HB5.out⟩
    | some x =>
      obtain ⟨x1, x2, -⟩ := Rc.fst_facts hv (Rc.locS_lo hr.d1 hr.s0) hf
      have hfv := fstV_ok hok rfl hf
      have HD := Lib.hid hD
      by_cases hm : x ≤ t
      · have HN := Lib.hid (Rc.shift_hours hv hr hf h1 hm)
        have hq0 : 0 ≤ (t - x) / (3600 * ee) := Int.ediv_nonneg (by omega) (by omega)
        have hq1 : (t - x) / (3600 * ee) ≤ t - x := Int.ediv_le_self _ (by omega)
        have ht : (t - x).tdiv (3600 * ee) = (t - x) / (3600 * ee) := Int.tdiv_eq_ediv_of_nonneg (by omega)
        obtain ⟨q, hq⟩ : ∃ q, (t - x) / (3600 * ee) = q := ⟨_, rfl⟩
        rw [hq] at HN hq0 hq1 ht
        have ⟨v1, v1'⟩ := wrapn (n := t - x) (by omega)
        have ⟨v2, v2'⟩ := wrapn (n := 3600 * ee) (by omega)
        have ⟨v3, v3'⟩ := wrapn (n := q) (by omega)
        have hne : ¬ 3600 * ee = 0 := by omega
        clear hz hf hok hr hD hv HL HH
        go_enter Tryd.func49, Tryd.ntmps49
        go_upto_region 2 with fail
        generalize (w.alloc (.cells #[.string s, .int .i64 off, .slice A n c] 42)).alloc (.cells #[.string nm, .int .i64 lz, .int .i64 D, .int .i64 S, .int .i64 0, .int .i64 ee, .slice m1 m2 m3, .slice q1 q2 q3, .int .i64 lc, .int .i64 lm] 38) = W0 at ZB LB HB ⊢
        have z0 := ZB.out.cell (i := 0) rfl; have z1 := ZB.out.cell (i := 1) rfl; have z2 := ZB.out.cell (i := 2) rfl; have l0 := LB.out.cell (i := 0) rfl; have l1 := LB.out.cell (i := 1) rfl; have l2 := LB.out.cell (i := 2) rfl; have l3 := LB.out.cell (i := 3) rfl; have l4 := LB.out.cell (i := 4) rfl; have l5 := LB.out.cell (i := 5) rfl; have l6 := LB.out.cell (i := 6) rfl; have l7 := LB.out.cell (i := 7) rfl; have l8 := LB.out.cell (i := 8) rfl; have l9 := LB.out.cell (i := 9) rfl;
        go_wp2_with (go_at_call 16; refine (HC.out D HD.out _ HB.out).mono ?_; rintro e w5 ⟨rfl, hb5⟩; rw [hfv.1, hfv.2]; have l5' := (LB.out.after hb5).cell (i := 5) rfl; have HB5 := Lib.hid (bstep HB.out hb5); clear hb5)
        go_wp2_with fail
        go_ret
        exact ⟨_, rfl, HN.out, HB5.out⟩
      · have HN := Lib.hid (Rc.shift_hours_no hv hr (t := t) (fun y e => by rw [hf] at e; cases e; omega))
        clear hz hf hok hr hD hv HL HH
        go_enter Tryd.func49, Tryd.ntmps49
        go_upto_region 2 with fail
        generalize (w.alloc (.cells #[.string s, .int .i64 off, .slice A n c] 42)).alloc (.cells #[.string nm, .int .i64 lz, .int .i64 D, .int .i64 S, .int .i64 0, .int .i64 ee, .slice m1 m2 m3, .slice q1 q2 q3, .int .i64 lc, .int .i64 lm] 38) = W0 at ZB LB HB ⊢
        have z0 := ZB.out.cell (i := 0) rfl; have z1 := ZB.out.cell (i := 1) rfl; have z2 := ZB.out.cell (i := 2) rfl; have l0 := LB.out.cell (i := 0) rfl; have l1 := LB.out.cell (i := 1) rfl; have l2 := LB.out.cell (i := 2) rfl; have l3 := LB.out.cell (i := 3) rfl; have l4 := LB.out.cell (i := 4) rfl; have l5 := LB.out.cell (i := 5) rfl; have l6 := LB.out.cell (i := 6) rfl; have l7 := LB.out.cell (i := 7) rfl; have l8 := LB.out.cell (i := 8) rfl; have l9 := LB.out.cell (i := 9) rfl;
        go_wp2_with (go_at_call 16; refine (HC.out D HD.out _ HB.out).mono ?_; rintro e w5 ⟨rfl, hb5⟩; rw [hfv.1, hfv.2]; have HB5 := Lib.hid (bstep HB.out hb5); clear hb5)
        go_wp2_with fail
        go_ret
        exact ⟨_, rfl, HN.out, HB5.out⟩
  · have fu : (u == 0) = false := by simpa using hu
    have hstp := hr.step
    have hst7 : Rc.stp u ee ≤ 2800 := by unfold Rc.stp; split <;> omega
    have hbd := hv.bd t
    obtain ⟨V, hV⟩ : ∃ V, Zn.cl off ts t = V := ⟨_, rfl⟩
    have hV2 : -64800 ≤ V ∧ V ≤ 8589999392 := by rw [← hV]; unfold Zn.cl; omega
    have hlo := locV_ok (off := off) (ts := ts) h0 h1 hV
    have hof := offE_ok h0 h1
    obtain ⟨dy, hdy⟩ : ∃ d, V / 86400 = d := ⟨_, rfl⟩
    obtain ⟨dsec, hds⟩ : ∃ d, V % 86400 = d := ⟨_, rfl⟩
    rw [hdy, hds] at hlo
    have hdy2 : -1 ≤ dy ∧ dy ≤ 99423 := by omega
    have HG := Lib.hid (show ∀ (j a : Int), 0 ≤ j → dy + 3 ≤ D + j * Rc.stp u ee → Rc.hV off ts u ee D S j = some a → t < a from fun j a hj hf ea => Rc.guess hv hr hu h0 h1 (by rw [hV, hdy]) hj hf ea)
    have HS := Lib.hid (show ∀ k a : Int, 0 ≤ k → Rc.hV off ts u ee D S k = some a → a ≤ t → (∀ j, k < j → 0 ≤ j → ∀ b, Rc.hV off ts u ee D S j = some b → t < b) → Rc.ShiftIs (Rc.hV off ts u ee D S) t k from fun k a hk ea ha hj => ⟨by omega, fun _ => ⟨a, ea, ha⟩, hj⟩)
    obtain ⟨H, hH⟩ : ∃ H, Rc.hV off ts u ee D S = H := ⟨_, rfl⟩
    have HH2 := Lib.hid (show ∀ (k : Int) W, Below w.heap.size w W → 0 ≤ k → k ≤ 3000000 → Calls Tryd.prog 47 #[.agg #[.string s, .int .i64 off, .slice A n c], .agg #[.string nm, .int .i64 lz, .int .i64 D, .int .i64 S, .int .i64 u, .int .i64 ee, .slice m1 m2 m3, .slice q1 q2 q3, .int .i64 lc, .int .i64 lm], .int .i64 k] W (HanV (H k) W) from fun k W hb g0 g1 => by rw [← hH]; exact HH.out k W hb g0 g1)
    rw [hH] at HG HS ⊢
    obtain ⟨mx, hmx⟩ : ∃ m, max (dy + 2 - D) 0 = m := ⟨_, rfl⟩
    have hmx2 : dy + 2 - D ≤ mx ∧ 0 ≤ mx ∧ mx ≤ 99425 := by omega
    have ⟨v1, v1'⟩ := wrapn (n := dy + 2) (by omega)
    have ⟨v2, v2'⟩ := wrapn (n := dy + 2 - D) (by omega)
    obtain ⟨nn, hnn⟩ : ∃ n, Rc.stp u ee = n := ⟨_, rfl⟩
    rw [hnn] at hstp hst7 HG
    have hq0 : 0 ≤ mx / nn := Int.ediv_nonneg (by omega) (by omega)
    have hq1 : mx / nn ≤ mx := Int.ediv_le_self _ (by omega)
    have hq2 : mx < (mx / nn + 1) * nn := Int.lt_ediv_add_one_mul_self _ (by omega)
    have ht : mx.tdiv nn = mx / nn := Int.tdiv_eq_ediv_of_nonneg (by omega)
    obtain ⟨q, hq⟩ : ∃ q, mx / nn = q := ⟨_, rfl⟩
    rw [hq] at hq0 hq1 hq2 ht
    have hne : ¬ nn = 0 := by omega
    have ⟨v3, v3'⟩ := wrapn (n := q) (by omega)
    have HQ := Lib.hid (show ∀ j, q < j → 0 ≤ j → ∀ a, H j = some a → t < a from fun j hj hj0 a ea => by
      have h2 := Int.mul_le_mul_of_nonneg_right (show q + 1 ≤ j by omega) (show 0 ≤ nn by omega)
      exact HG.out j a hj0 (by omega) ea)
    have HLO := Lib.hid hlo; have HOF := Lib.hid hof
    by_cases h2 : u = 2
    · have fu2 : (u == 2) = true := by simpa using h2
      have hn7 : ee * 7 = nn := by rw [← hnn]; unfold Rc.stp; rw [if_pos h2]
      have ⟨v4, v4'⟩ := wrapn (n := ee * 7) (by omega)
      have ZB := Lib.hid (show BlkAt ((w.alloc (.cells #[.string s, .int .i64 off, .slice A n c] 42)).alloc (.cells #[.string nm, .int .i64 lz, .int .i64 D, .int .i64 S, .int .i64 u, .int .i64 ee, .slice m1 m2 m3, .slice q1 q2 q3, .int .i64 lc, .int .i64 lm] 38)) w.heap.size #[.string s, .int .i64 off, .slice A n c] 42 from BlkAt.alloc (BlkAt.new w _ _) _)
      have LB := Lib.hid (show BlkAt ((w.alloc (.cells #[.string s, .int .i64 off, .slice A n c] 42)).alloc (.cells #[.string nm, .int .i64 lz, .int .i64 D, .int .i64 S, .int .i64 u, .int .i64 ee, .slice m1 m2 m3, .slice q1 q2 q3, .int .i64 lc, .int .i64 lm] 38)) (w.heap.size + 1) #[.string nm, .int .i64 lz, .int .i64 D, .int .i64 S, .int .i64 u, .int .i64 ee, .slice m1 m2 m3, .slice q1 q2 q3, .int .i64 lc, .int .i64 lm] 38 from by have := BlkAt.new (w.alloc (.cells #[.string s, .int .i64 off, .slice A n c] 42)) #[.string nm, .int .i64 lz, .int .i64 D, .int .i64 S, .int .i64 u, .int .i64 ee, .slice m1 m2 m3, .slice q1 q2 q3, .int .i64 lc, .int .i64 lm] 38; simpa using this)
      have HB := Lib.hid (((Below.refl w.heap.size w).alloc (Nat.le_refl _) (.cells #[.string s, .int .i64 off, .slice A n c] 42)).alloc (by simp) (.cells #[.string nm, .int .i64 lz, .int .i64 D, .int .i64 S, .int .i64 u, .int .i64 ee, .slice m1 m2 m3, .slice q1 q2 q3, .int .i64 lc, .int .i64 lm] 38))
      clear hz hok hr hv HC HH HG hH hV hV2 hbd hlo hof hdy hds hnn hq h2 hq2
      go_enter Tryd.func49, Tryd.ntmps49
      go_upto_region 2 with fail
      generalize (w.alloc (.cells #[.string s, .int .i64 off, .slice A n c] 42)).alloc (.cells #[.string nm, .int .i64 lz, .int .i64 D, .int .i64 S, .int .i64 u, .int .i64 ee, .slice m1 m2 m3, .slice q1 q2 q3, .int .i64 lc, .int .i64 lm] 38) = W0 at ZB LB HB ⊢
      have z0 := ZB.out.cell (i := 0) rfl; have z1 := ZB.out.cell (i := 1) rfl; have z2 := ZB.out.cell (i := 2) rfl; have l0 := LB.out.cell (i := 0) rfl; have l1 := LB.out.cell (i := 1) rfl; have l2 := LB.out.cell (i := 2) rfl; have l3 := LB.out.cell (i := 3) rfl; have l4 := LB.out.cell (i := 4) rfl; have l5 := LB.out.cell (i := 5) rfl; have l6 := LB.out.cell (i := 6) rfl; have l7 := LB.out.cell (i := 7) rfl; have l8 := LB.out.cell (i := 8) rfl; have l9 := LB.out.cell (i := 9) rfl;
      go_upto_region 8 with (go_at_call 15; refine (HL.out _ HB.out).mono ?_; rintro e w5 ⟨rfl, hb5⟩; rw [HLO.out, HOF.out])
      have LB5 := Lib.hid (BlkAt.alloc (LB.out.after hb5) (.cells #[.int .i64 dy, .int .i64 dsec] 35))
      have ZB5 := Lib.hid (BlkAt.alloc (ZB.out.after hb5) (.cells #[.int .i64 dy, .int .i64 dsec] 35))
      have DB5 := Lib.hid (BlkAt.new w5 #[.int .i64 dy, .int .i64 dsec] 35)
      have HB5 := Lib.hid ((bstep HB.out hb5).alloc (bstep HB.out hb5).size (.cells #[.int .i64 dy, .int .i64 dsec] 35))
      generalize hbl : w5.heap.size = bl at DB5 ⊢
      generalize w5.alloc (.cells #[.int .i64 dy, .int .i64 dsec] 35) = W5 at LB5 ZB5 DB5 HB5 ⊢
      clear z0 z1 z2 l0 l1 l2 l3 l4 l5 l6 l7 l8 l9 hb5 HB LB ZB hbl
      have z0 := ZB5.out.cell (i := 0) rfl; have z1 := ZB5.out.cell (i := 1) rfl; have z2 := ZB5.out.cell (i := 2) rfl; have l0 := LB5.out.cell (i := 0) rfl; have l1 := LB5.out.cell (i := 1) rfl; have l2 := LB5.out.cell (i := 2) rfl; have l3 := LB5.out.cell (i := 3) rfl; have l4 := LB5.out.cell (i := 4) rfl; have l5 := LB5.out.cell (i := 5) rfl; have l6 := LB5.out.cell (i := 6) rfl; have l7 := LB5.out.cell (i := 7) rfl; have l8 := LB5.out.cell (i := 8) rfl; have l9 := LB5.out.cell (i := 9) rfl;
      have dd0 := DB5.out.cell (i := 0) rfl
      go_wp2_with fail
      go_loopw [7] (fun v wr => ∃ k : Int, v = .int .i64 k ∧ -1 ≤ k ∧ k ≤ 100000 ∧ Hid (Below W5.heap.size W5 wr) ∧ Hid (∀ j, k < j → 0 ≤ j → ∀ a, H j = some a → t < a)) (fun v _ => (intOf v + 1).toNat)
      case atStart => exact ⟨q, rfl, by omega, by omega, Lib.hid (Below.refl _ _), HQ⟩
      case round =>
        obtain ⟨k, rfl, k0, k1, HW, HJ⟩ := hrel
        have KZ := Lib.hid (ZB5.out.after HW.out); have KL := Lib.hid (LB5.out.after HW.out)
        clear z0 z1 z2 l0 l1 l2 l3 l4 l5 l6 l7 l8 l9 dd0
        have z0 := KZ.out.cell (i := 0) rfl; have z1 := KZ.out.cell (i := 1) rfl; have z2 := KZ.out.cell (i := 2) rfl; have l0 := KL.out.cell (i := 0) rfl; have l1 := KL.out.cell (i := 1) rfl; have l2 := KL.out.cell (i := 2) rfl; have l3 := KL.out.cell (i := 3) rfl; have l4 := KL.out.cell (i := 4) rfl; have l5 := KL.out.cell (i := 5) rfl; have l6 := KL.out.cell (i := 6) rfl; have l7 := KL.out.cell (i := 7) rfl; have l8 := KL.out.cell (i := 8) rfl; have l9 := KL.out.cell (i := 9) rfl;
        by_cases hk : 0 ≤ k
        · have ⟨g1, g1'⟩ := wrapn (n := k - 1) (by omega)
          go_wp2_with (go_at_call 47; refine (HH2.out k _ (HB5.out.trans (HW.out.mono HB5.out.size)) hk (by omega)).mono ?_; rintro e w6 ⟨x, b, rfl, hb6, hA, hB⟩; have HAB := Lib.hid (And.intro hA hB); have HW6 := Lib.hid (bstep HW.out hb6); clear hA hB hb6; rcases b with _ | _; rotate_left; by_cases hx : x ≤ t)
          · go_ret
            exact ⟨k, rfl, HS.out k x hk (HAB.out.1 trivial) hx HJ.out, HB5.out.trans (HW6.out.mono HB5.out.size)⟩
          · refine ⟨⟨k - 1, rfl, by omega, by omega, HW6, Lib.hid fun j hj hj0 a ea => ?_⟩, by simp [intOf]; omega⟩
            rcases Int.lt_or_eq_of_le (show k ≤ j by omega) with hlt | rfl
            · exact HJ.out j hlt hj0 a ea
            · rw [HAB.out.1 trivial] at ea; cases ea; omega
          · refine ⟨⟨k - 1, rfl, by omega, by omega, HW6, Lib.hid fun j hj hj0 a ea => ?_⟩, by simp [intOf]; omega⟩
            rcases Int.lt_or_eq_of_le (show k ≤ j by omega) with hlt | rfl
            · exact HJ.out j hlt hj0 a ea
            · rw [HAB.out.2 trivial] at ea; cases ea
        · obtain rfl : k = -1 := by omega
          go_wp2_with fail
          go_ret
          exact ⟨-1, rfl, ⟨by omega, fun h => by omega, HJ.out⟩, HB5.out.trans (HW.out.mono HB5.out.size)⟩
    · have fu2 : (u == 2) = false := by simpa using h2
      have hn7 : ee = nn := by rw [← hnn]; unfold Rc.stp; rw [if_neg h2]
      subst hn7
      have ZB := Lib.hid (show BlkAt ((w.alloc (.cells #[.string s, .int .i64 off, .slice A n c] 42)).alloc (.cells #[.string nm, .int .i64 lz, .int .i64 D, .int .i64 S, .int .i64 u, .int .i64 ee, .slice m1 m2 m3, .slice q1 q2 q3, .int .i64 lc, .int .i64 lm] 38)) w.heap.size #[.string s, .int .i64 off, .slice A n c] 42 from BlkAt.alloc (BlkAt.new w _ _) _)
      have LB := Lib.hid (show BlkAt ((w.alloc (.cells #[.string s, .int .i64 off, .slice A n c] 42)).alloc (.cells #[.string nm, .int .i64 lz, .int .i64 D, .int .i64 S, .int .i64 u, .int .i64 ee, .slice m1 m2 m3, .slice q1 q2 q3, .int .i64 lc, .int .i64 lm] 38)) (w.heap.size + 1) #[.string nm, .int .i64 lz, .int .i64 D, .int .i64 S, .int .i64 u, .int .i64 ee, .slice m1 m2 m3, .slice q1 q2 q3, .int .i64 lc, .int .i64 lm] 38 from by have := BlkAt.new (w.alloc (.cells #[.string s, .int .i64 off, .slice A n c] 42)) #[.string nm, .int .i64 lz, .int .i64 D, .int .i64 S, .int .i64 u, .int .i64 ee, .slice m1 m2 m3, .slice q1 q2 q3, .int .i64 lc, .int .i64 lm] 38; simpa using this)
      have HB := Lib.hid (((Below.refl w.heap.size w).alloc (Nat.le_refl _) (.cells #[.string s, .int .i64 off, .slice A n c] 42)).alloc (by simp) (.cells #[.string nm, .int .i64 lz, .int .i64 D, .int .i64 S, .int .i64 u, .int .i64 ee, .slice m1 m2 m3, .slice q1 q2 q3, .int .i64 lc, .int .i64 lm] 38))
      clear hz hok hr hv HC HH HG hH hV hV2 hbd hlo hof hdy hds hnn hq h2 hq2
      go_enter Tryd.func49, Tryd.ntmps49
      go_upto_region 2 with fail
      generalize (w.alloc (.cells #[.string s, .int .i64 off, .slice A n c] 42)).alloc (.cells #[.string nm, .int .i64 lz, .int .i64 D, .int .i64 S, .int .i64 u, .int .i64 ee, .slice m1 m2 m3, .slice q1 q2 q3, .int .i64 lc, .int .i64 lm] 38) = W0 at ZB LB HB ⊢
      have z0 := ZB.out.cell (i := 0) rfl; have z1 := ZB.out.cell (i := 1) rfl; have z2 := ZB.out.cell (i := 2) rfl; have l0 := LB.out.cell (i := 0) rfl; have l1 := LB.out.cell (i := 1) rfl; have l2 := LB.out.cell (i := 2) rfl; have l3 := LB.out.cell (i := 3) rfl; have l4 := LB.out.cell (i := 4) rfl; have l5 := LB.out.cell (i := 5) rfl; have l6 := LB.out.cell (i := 6) rfl; have l7 := LB.out.cell (i := 7) rfl; have l8 := LB.out.cell (i := 8) rfl; have l9 := LB.out.cell (i := 9) rfl;
      go_upto_region 8 with (go_at_call 15; refine (HL.out _ HB.out).mono ?_; rintro e w5 ⟨rfl, hb5⟩; rw [HLO.out, HOF.out])
      have LB5 := Lib.hid (BlkAt.alloc (LB.out.after hb5) (.cells #[.int .i64 dy, .int .i64 dsec] 35))
      have ZB5 := Lib.hid (BlkAt.alloc (ZB.out.after hb5) (.cells #[.int .i64 dy, .int .i64 dsec] 35))
      have DB5 := Lib.hid (BlkAt.new w5 #[.int .i64 dy, .int .i64 dsec] 35)
      have HB5 := Lib.hid ((bstep HB.out hb5).alloc (bstep HB.out hb5).size (.cells #[.int .i64 dy, .int .i64 dsec] 35))
      generalize hbl : w5.heap.size = bl at DB5 ⊢
      generalize w5.alloc (.cells #[.int .i64 dy, .int .i64 dsec] 35) = W5 at LB5 ZB5 DB5 HB5 ⊢
      clear z0 z1 z2 l0 l1 l2 l3 l4 l5 l6 l7 l8 l9 hb5 HB LB ZB hbl
      have z0 := ZB5.out.cell (i := 0) rfl; have z1 := ZB5.out.cell (i := 1) rfl; have z2 := ZB5.out.cell (i := 2) rfl; have l0 := LB5.out.cell (i := 0) rfl; have l1 := LB5.out.cell (i := 1) rfl; have l2 := LB5.out.cell (i := 2) rfl; have l3 := LB5.out.cell (i := 3) rfl; have l4 := LB5.out.cell (i := 4) rfl; have l5 := LB5.out.cell (i := 5) rfl; have l6 := LB5.out.cell (i := 6) rfl; have l7 := LB5.out.cell (i := 7) rfl; have l8 := LB5.out.cell (i := 8) rfl; have l9 := LB5.out.cell (i := 9) rfl;
      have dd0 := DB5.out.cell (i := 0) rfl
      go_wp2_with fail
      go_loopw [7] (fun v wr => ∃ k : Int, v = .int .i64 k ∧ -1 ≤ k ∧ k ≤ 100000 ∧ Hid (Below W5.heap.size W5 wr) ∧ Hid (∀ j, k < j → 0 ≤ j → ∀ a, H j = some a → t < a)) (fun v _ => (intOf v + 1).toNat)
      case atStart => exact ⟨q, rfl, by omega, by omega, Lib.hid (Below.refl _ _), HQ⟩
      case round =>
        obtain ⟨k, rfl, k0, k1, HW, HJ⟩ := hrel
        have KZ := Lib.hid (ZB5.out.after HW.out); have KL := Lib.hid (LB5.out.after HW.out)
        clear z0 z1 z2 l0 l1 l2 l3 l4 l5 l6 l7 l8 l9 dd0
        have z0 := KZ.out.cell (i := 0) rfl; have z1 := KZ.out.cell (i := 1) rfl; have z2 := KZ.out.cell (i := 2) rfl; have l0 := KL.out.cell (i := 0) rfl; have l1 := KL.out.cell (i := 1) rfl; have l2 := KL.out.cell (i := 2) rfl; have l3 := KL.out.cell (i := 3) rfl; have l4 := KL.out.cell (i := 4) rfl; have l5 := KL.out.cell (i := 5) rfl; have l6 := KL.out.cell (i := 6) rfl; have l7 := KL.out.cell (i := 7) rfl; have l8 := KL.out.cell (i := 8) rfl; have l9 := KL.out.cell (i := 9) rfl;
        by_cases hk : 0 ≤ k
        · have ⟨g1, g1'⟩ := wrapn (n := k - 1) (by omega)
          go_wp2_with (go_at_call 47; refine (HH2.out k _ (HB5.out.trans (HW.out.mono HB5.out.size)) hk (by omega)).mono ?_; rintro e w6 ⟨x, b, rfl, hb6, hA, hB⟩; have HAB := Lib.hid (And.intro hA hB); have HW6 := Lib.hid (bstep HW.out hb6); clear hA hB hb6; rcases b with _ | _; rotate_left; by_cases hx : x ≤ t)
          · go_ret
            exact ⟨k, rfl, HS.out k x hk (HAB.out.1 trivial) hx HJ.out, HB5.out.trans (HW6.out.mono HB5.out.size)⟩
          · refine ⟨⟨k - 1, rfl, by omega, by omega, HW6, Lib.hid fun j hj hj0 a ea => ?_⟩, by simp [intOf]; omega⟩
            rcases Int.lt_or_eq_of_le (show k ≤ j by omega) with hlt | rfl
            · exact HJ.out j hlt hj0 a ea
            · rw [HAB.out.1 trivial] at ea; cases ea; omega
          · refine ⟨⟨k - 1, rfl, by omega, by omega, HW6, Lib.hid fun j hj hj0 a ea => ?_⟩, by simp [intOf]; omega⟩
            rcases Int.lt_or_eq_of_le (show k ≤ j by omega) with hlt | rfl
            · exact HJ.out j hlt hj0 a ea
            · rw [HAB.out.2 trivial] at ea; cases ea
        · obtain rfl : k = -1 := by omega
          go_wp2_with fail
          go_ret
          exact ⟨-1, rfl, ⟨by omega, fun h => by omega, HJ.out⟩, HB5.out.trans (HW.out.mono HB5.out.size)⟩
end Go.Proofs.YthaacmmkignocaaDoor
