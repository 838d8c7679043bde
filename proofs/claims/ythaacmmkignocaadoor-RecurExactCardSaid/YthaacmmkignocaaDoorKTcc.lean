/- The reference of layer 10: Check, Handover, Shift, Turn, Handovers. Printed by gen_tcc.py. -/
import Derived.Test.YthaacmmkignocaaDoorKTcb
import Derived.Test.YthaacmmkignocaaDoorKG34
import Derived.Test.YthaacmmkignocaaDoorKWrq
import Derived.Deep.RegionHeld3
namespace Go.Proofs.YthaacmmkignocaaDoor
open Go.RowKit
set_option linter.unusedVariables false
set_option linter.unusedSimpArgs false
set_option maxRecDepth 100000
set_option maxHeartbeats 8000000 in
theorem rchk_is {off : Int} {rs : List Zn.Rule} {ts : Zn.L} (hZ : Zn.trans off rs = (ts, 0)) (u ee D S : Int) (s : ByteArray) (A : Option Addr) (n c : Nat) (nm : ByteArray) (lz : Int) (m1 : Option Addr) (m2 m3 : Nat) (q1 : Option Addr) (q2 q3 : Nat) (lc lm : Int) (w : World) (hz : ZIn w A n rs) (ho : I64 off) :
    Calls Tryd.prog 20 #[.agg #[.string s, .int .i64 off, .slice A n c], .agg #[.string nm, .int .i64 lz, .int .i64 D, .int .i64 S, .int .i64 u, .int .i64 ee, .slice m1 m2 m3, .slice q1 q2 q3, .int .i64 lc, .int .i64 lm]] w fun e w' => e = .returned (.int .i64 (Rc.chkO (Rc.okL u ee D S m2))) ∧ Below w.heap.size w w' := by
  have HC := Lib.hid (show ∀ W, Below w.heap.size w W → _ from fun W hb => rcheck_is hZ s A n c W (hz.below hb) ho)
  have ZB := Lib.hid (show BlkAt ((w.alloc (.cells #[.string s, .int .i64 off, .slice A n c] 42)).alloc (.cells #[.string nm, .int .i64 lz, .int .i64 D, .int .i64 S, .int .i64 u, .int .i64 ee, .slice m1 m2 m3, .slice q1 q2 q3, .int .i64 lc, .int .i64 lm] 38)) w.heap.size #[.string s, .int .i64 off, .slice A n c] 42 from BlkAt.alloc (BlkAt.new w _ _) _)
  have LB := Lib.hid (show BlkAt ((w.alloc (.cells #[.string s, .int .i64 off, .slice A n c] 42)).alloc (.cells #[.string nm, .int .i64 lz, .int .i64 D, .int .i64 S, .int .i64 u, .int .i64 ee, .slice m1 m2 m3, .slice q1 q2 q3, .int .i64 lc, .int .i64 lm] 38)) (w.heap.size + 1) #[.string nm, .int .i64 lz, .int .i64 D, .int .i64 S, .int .i64 u, .int .i64 ee, .slice m1 m2 m3, .slice q1 q2 q3, .int .i64 lc, .int .i64 lm] 38 from by have := BlkAt.new (w.alloc (.cells #[.string s, .int .i64 off, .slice A n c] 42)) #[.string nm, .int .i64 lz, .int .i64 D, .int .i64 S, .int .i64 u, .int .i64 ee, .slice m1 m2 m3, .slice q1 q2 q3, .int .i64 lc, .int .i64 lm] 38; simpa using this)
  have HB := Lib.hid (((Below.refl w.heap.size w).alloc (Nat.le_refl _) (.cells #[.string s, .int .i64 off, .slice A n c] 42)).alloc (by simp) (.cells #[.string nm, .int .i64 lz, .int .i64 D, .int .i64 S, .int .i64 u, .int .i64 ee, .slice m1 m2 m3, .slice q1 q2 q3, .int .i64 lc, .int .i64 lm] 38))
  clear hz
  go_enter Tryd.func20, Tryd.ntmps20
  go_upto_region 1 with fail
  generalize (w.alloc (.cells #[.string s, .int .i64 off, .slice A n c] 42)).alloc (.cells #[.string nm, .int .i64 lz, .int .i64 D, .int .i64 S, .int .i64 u, .int .i64 ee, .slice m1 m2 m3, .slice q1 q2 q3, .int .i64 lc, .int .i64 lm] 38) = W0 at ZB LB HB ⊢
  have z0 := ZB.out.cell (i := 0) rfl; have z1 := ZB.out.cell (i := 1) rfl; have z2 := ZB.out.cell (i := 2) rfl; have l0 := LB.out.cell (i := 0) rfl; have l1 := LB.out.cell (i := 1) rfl; have l2 := LB.out.cell (i := 2) rfl; have l3 := LB.out.cell (i := 3) rfl; have l4 := LB.out.cell (i := 4) rfl; have l5 := LB.out.cell (i := 5) rfl; have l6 := LB.out.cell (i := 6) rfl; have l7 := LB.out.cell (i := 7) rfl; have l8 := LB.out.cell (i := 8) rfl; have l9 := LB.out.cell (i := 9) rfl;
  go_wp2_with (go_at_call 46; refine (HC.out _ HB.out).mono ?_; rintro e w5 ⟨rfl, hb5⟩; have KL := Lib.hid (LB.out.after hb5); have k0 := KL.out.cell (i := 0) rfl; have k1 := KL.out.cell (i := 1) rfl; have k2 := KL.out.cell (i := 2) rfl; have k3 := KL.out.cell (i := 3) rfl; have k4 := KL.out.cell (i := 4) rfl; have k5 := KL.out.cell (i := 5) rfl; have k6 := KL.out.cell (i := 6) rfl; have k7 := KL.out.cell (i := 7) rfl; have k8 := KL.out.cell (i := 8) rfl; have k9 := KL.out.cell (i := 9) rfl; have HB5 := Lib.hid (bstep HB.out hb5); clear hb5 z0 z1 z2 l0 l1 l2 l3 l4 l5 l6 l7 l8 l9)
  all_goals first
    | (have h0 : Rc.okL u ee D S m2 = true := decide_eq_true (by (try simp only [beq_eq_false_iff_ne, ne_eq] at *); omega)
       go_ret
       exact ⟨by rw [h0]; rfl, HB5.out⟩)
    | (have h0 : Rc.okL u ee D S m2 = false := decide_eq_false (by (try simp only [beq_iff_eq] at *); omega)
       go_ret
       exact ⟨by rw [h0]; rfl, HB5.out⟩)
set_option maxHeartbeats 8000000 in
theorem rHan_is {off : Int} {rs : List Zn.Rule} {ts : Zn.L} (hZ : Zn.trans off rs = (ts, 0)) (u ee D S : Int) (s : ByteArray) (A : Option Addr) (n c : Nat) (nm : ByteArray) (lz : Int) (m1 : Option Addr) (m2 m3 : Nat) (q1 : Option Addr) (q2 q3 : Nat) (lc lm : Int) (k : Int) (w : World) (hz : ZIn w A n rs) (ho : I64 off) (hk : I64 k) :
    Calls Tryd.prog 21 #[.agg #[.string s, .int .i64 off, .slice A n c], .agg #[.string nm, .int .i64 lz, .int .i64 D, .int .i64 S, .int .i64 u, .int .i64 ee, .slice m1 m2 m3, .slice q1 q2 q3, .int .i64 lc, .int .i64 lm], .int .i64 k] w (GivesF (Rc.hOut (Rc.okL u ee D S m2) k (Rc.hV off ts u ee D S k)).1 (Rc.hOut (Rc.okL u ee D S m2) k (Rc.hV off ts u ee D S k)).2 w) := by
  have HCK := Lib.hid (show ∀ W, Below w.heap.size w W → _ from fun W hb => rchk_is hZ u ee D S s A n c nm lz m1 m2 m3 q1 q2 q3 lc lm W (hz.below hb) ho)
  have HHN := Lib.hid (show ∀ (hr : Rc.Rt u ee D S) (k : Int) W, Below w.heap.size w W → 0 ≤ k → k ≤ 3000000 → _ from fun hr k W hb g0 g1 => rhan_is hZ hr s A n c nm lz m1 m2 m3 q1 q2 q3 lc lm k W (hz.below hb) ho g0 g1)
  cases hok : Rc.okL u ee D S m2 with
  | false =>
    have HO := Lib.hid (show Rc.chkO (Rc.okL u ee D S m2) = 8 by rw [hok]; rfl)
    rw [Rc.hOut_no]
    have ZB := Lib.hid (show BlkAt ((w.alloc (.cells #[.string s, .int .i64 off, .slice A n c] 42)).alloc (.cells #[.string nm, .int .i64 lz, .int .i64 D, .int .i64 S, .int .i64 u, .int .i64 ee, .slice m1 m2 m3, .slice q1 q2 q3, .int .i64 lc, .int .i64 lm] 38)) w.heap.size #[.string s, .int .i64 off, .slice A n c] 42 from BlkAt.alloc (BlkAt.new w _ _) _)
    have LB := Lib.hid (show BlkAt ((w.alloc (.cells #[.string s, .int .i64 off, .slice A n c] 42)).alloc (.cells #[.string nm, .int .i64 lz, .int .i64 D, .int .i64 S, .int .i64 u, .int .i64 ee, .slice m1 m2 m3, .slice q1 q2 q3, .int .i64 lc, .int .i64 lm] 38)) (w.heap.size + 1) #[.string nm, .int .i64 lz, .int .i64 D, .int .i64 S, .int .i64 u, .int .i64 ee, .slice m1 m2 m3, .slice q1 q2 q3, .int .i64 lc, .int .i64 lm] 38 from by have := BlkAt.new (w.alloc (.cells #[.string s, .int .i64 off, .slice A n c] 42)) #[.string nm, .int .i64 lz, .int .i64 D, .int .i64 S, .int .i64 u, .int .i64 ee, .slice m1 m2 m3, .slice q1 q2 q3, .int .i64 lc, .int .i64 lm] 38; simpa using this)
    have HB := Lib.hid (((Below.refl w.heap.size w).alloc (Nat.le_refl _) (.cells #[.string s, .int .i64 off, .slice A n c] 42)).alloc (by simp) (.cells #[.string nm, .int .i64 lz, .int .i64 D, .int .i64 S, .int .i64 u, .int .i64 ee, .slice m1 m2 m3, .slice q1 q2 q3, .int .i64 lc, .int .i64 lm] 38))
    clear hz hok HHN
    go_enter Tryd.func21, Tryd.ntmps21
    go_upto_region 1 with fail
    generalize (w.alloc (.cells #[.string s, .int .i64 off, .slice A n c] 42)).alloc (.cells #[.string nm, .int .i64 lz, .int .i64 D, .int .i64 S, .int .i64 u, .int .i64 ee, .slice m1 m2 m3, .slice q1 q2 q3, .int .i64 lc, .int .i64 lm] 38) = W0 at ZB LB HB ⊢
    have z0 := ZB.out.cell (i := 0) rfl; have z1 := ZB.out.cell (i := 1) rfl; have z2 := ZB.out.cell (i := 2) rfl; have l0 := LB.out.cell (i := 0) rfl; have l1 := LB.out.cell (i := 1) rfl; have l2 := LB.out.cell (i := 2) rfl; have l3 := LB.out.cell (i := 3) rfl; have l4 := LB.out.cell (i := 4) rfl; have l5 := LB.out.cell (i := 5) rfl; have l6 := LB.out.cell (i := 6) rfl; have l7 := LB.out.cell (i := 7) rfl; have l8 := LB.out.cell (i := 8) rfl; have l9 := LB.out.cell (i := 9) rfl;
    go_wp2_with (go_at_call 20; refine (HCK.out _ HB.out).mono ?_; rintro e w5 ⟨rfl, hb5⟩; rw [HO.out]; have HB5 := Lib.hid (bstep HB.out hb5); clear hb5)
    go_ret2
    exact ⟨rfl, HB5.out⟩
  | true =>
    have HO := Lib.hid (show Rc.chkO (Rc.okL u ee D S m2) = 0 by rw [hok]; rfl)
    obtain ⟨hr, -⟩ := Rc.okL_rt hok
    by_cases h0 : k < 0
    · rw [Rc.hOut_neg h0]
      have ZB := Lib.hid (show BlkAt ((w.alloc (.cells #[.string s, .int .i64 off, .slice A n c] 42)).alloc (.cells #[.string nm, .int .i64 lz, .int .i64 D, .int .i64 S, .int .i64 u, .int .i64 ee, .slice m1 m2 m3, .slice q1 q2 q3, .int .i64 lc, .int .i64 lm] 38)) w.heap.size #[.string s, .int .i64 off, .slice A n c] 42 from BlkAt.alloc (BlkAt.new w _ _) _)
      have LB := Lib.hid (show BlkAt ((w.alloc (.cells #[.string s, .int .i64 off, .slice A n c] 42)).alloc (.cells #[.string nm, .int .i64 lz, .int .i64 D, .int .i64 S, .int .i64 u, .int .i64 ee, .slice m1 m2 m3, .slice q1 q2 q3, .int .i64 lc, .int .i64 lm] 38)) (w.heap.size + 1) #[.string nm, .int .i64 lz, .int .i64 D, .int .i64 S, .int .i64 u, .int .i64 ee, .slice m1 m2 m3, .slice q1 q2 q3, .int .i64 lc, .int .i64 lm] 38 from by have := BlkAt.new (w.alloc (.cells #[.string s, .int .i64 off, .slice A n c] 42)) #[.string nm, .int .i64 lz, .int .i64 D, .int .i64 S, .int .i64 u, .int .i64 ee, .slice m1 m2 m3, .slice q1 q2 q3, .int .i64 lc, .int .i64 lm] 38; simpa using this)
      have HB := Lib.hid (((Below.refl w.heap.size w).alloc (Nat.le_refl _) (.cells #[.string s, .int .i64 off, .slice A n c] 42)).alloc (by simp) (.cells #[.string nm, .int .i64 lz, .int .i64 D, .int .i64 S, .int .i64 u, .int .i64 ee, .slice m1 m2 m3, .slice q1 q2 q3, .int .i64 lc, .int .i64 lm] 38))
      clear hz hok HHN
      go_enter Tryd.func21, Tryd.ntmps21
      go_upto_region 1 with fail
      generalize (w.alloc (.cells #[.string s, .int .i64 off, .slice A n c] 42)).alloc (.cells #[.string nm, .int .i64 lz, .int .i64 D, .int .i64 S, .int .i64 u, .int .i64 ee, .slice m1 m2 m3, .slice q1 q2 q3, .int .i64 lc, .int .i64 lm] 38) = W0 at ZB LB HB ⊢
      have z0 := ZB.out.cell (i := 0) rfl; have z1 := ZB.out.cell (i := 1) rfl; have z2 := ZB.out.cell (i := 2) rfl; have l0 := LB.out.cell (i := 0) rfl; have l1 := LB.out.cell (i := 1) rfl; have l2 := LB.out.cell (i := 2) rfl; have l3 := LB.out.cell (i := 3) rfl; have l4 := LB.out.cell (i := 4) rfl; have l5 := LB.out.cell (i := 5) rfl; have l6 := LB.out.cell (i := 6) rfl; have l7 := LB.out.cell (i := 7) rfl; have l8 := LB.out.cell (i := 8) rfl; have l9 := LB.out.cell (i := 9) rfl;
      go_wp2_with (go_at_call 20; refine (HCK.out _ HB.out).mono ?_; rintro e w5 ⟨rfl, hb5⟩; rw [HO.out]; have HB5 := Lib.hid (bstep HB.out hb5); clear hb5)
      go_ret2
      exact ⟨rfl, HB5.out⟩
    · by_cases h1 : 2386092 < k
      · rw [Rc.hV_high (Zn.trans_vz hZ) hr h1, Rc.hOut_none (by omega)]
        have ZB := Lib.hid (show BlkAt ((w.alloc (.cells #[.string s, .int .i64 off, .slice A n c] 42)).alloc (.cells #[.string nm, .int .i64 lz, .int .i64 D, .int .i64 S, .int .i64 u, .int .i64 ee, .slice m1 m2 m3, .slice q1 q2 q3, .int .i64 lc, .int .i64 lm] 38)) w.heap.size #[.string s, .int .i64 off, .slice A n c] 42 from BlkAt.alloc (BlkAt.new w _ _) _)
        have LB := Lib.hid (show BlkAt ((w.alloc (.cells #[.string s, .int .i64 off, .slice A n c] 42)).alloc (.cells #[.string nm, .int .i64 lz, .int .i64 D, .int .i64 S, .int .i64 u, .int .i64 ee, .slice m1 m2 m3, .slice q1 q2 q3, .int .i64 lc, .int .i64 lm] 38)) (w.heap.size + 1) #[.string nm, .int .i64 lz, .int .i64 D, .int .i64 S, .int .i64 u, .int .i64 ee, .slice m1 m2 m3, .slice q1 q2 q3, .int .i64 lc, .int .i64 lm] 38 from by have := BlkAt.new (w.alloc (.cells #[.string s, .int .i64 off, .slice A n c] 42)) #[.string nm, .int .i64 lz, .int .i64 D, .int .i64 S, .int .i64 u, .int .i64 ee, .slice m1 m2 m3, .slice q1 q2 q3, .int .i64 lc, .int .i64 lm] 38; simpa using this)
        have HB := Lib.hid (((Below.refl w.heap.size w).alloc (Nat.le_refl _) (.cells #[.string s, .int .i64 off, .slice A n c] 42)).alloc (by simp) (.cells #[.string nm, .int .i64 lz, .int .i64 D, .int .i64 S, .int .i64 u, .int .i64 ee, .slice m1 m2 m3, .slice q1 q2 q3, .int .i64 lc, .int .i64 lm] 38))
        clear hz hok HHN
        go_enter Tryd.func21, Tryd.ntmps21
        go_upto_region 1 with fail
        generalize (w.alloc (.cells #[.string s, .int .i64 off, .slice A n c] 42)).alloc (.cells #[.string nm, .int .i64 lz, .int .i64 D, .int .i64 S, .int .i64 u, .int .i64 ee, .slice m1 m2 m3, .slice q1 q2 q3, .int .i64 lc, .int .i64 lm] 38) = W0 at ZB LB HB ⊢
        have z0 := ZB.out.cell (i := 0) rfl; have z1 := ZB.out.cell (i := 1) rfl; have z2 := ZB.out.cell (i := 2) rfl; have l0 := LB.out.cell (i := 0) rfl; have l1 := LB.out.cell (i := 1) rfl; have l2 := LB.out.cell (i := 2) rfl; have l3 := LB.out.cell (i := 3) rfl; have l4 := LB.out.cell (i := 4) rfl; have l5 := LB.out.cell (i := 5) rfl; have l6 := LB.out.cell (i := 6) rfl; have l7 := LB.out.cell (i := 7) rfl; have l8 := LB.out.cell (i := 8) rfl; have l9 := LB.out.cell (i := 9) rfl;
        go_wp2_with (go_at_call 20; refine (HCK.out _ HB.out).mono ?_; rintro e w5 ⟨rfl, hb5⟩; rw [HO.out]; have HB5 := Lib.hid (bstep HB.out hb5); clear hb5)
        go_ret2
        exact ⟨rfl, HB5.out⟩
      · have HHN2 := Lib.hid (HHN.out hr k)
        obtain ⟨H, hH⟩ : ∃ H, Rc.hV off ts u ee D S k = H := ⟨_, rfl⟩
        rw [hH] at HHN2 ⊢
        have ZB := Lib.hid (show BlkAt ((w.alloc (.cells #[.string s, .int .i64 off, .slice A n c] 42)).alloc (.cells #[.string nm, .int .i64 lz, .int .i64 D, .int .i64 S, .int .i64 u, .int .i64 ee, .slice m1 m2 m3, .slice q1 q2 q3, .int .i64 lc, .int .i64 lm] 38)) w.heap.size #[.string s, .int .i64 off, .slice A n c] 42 from BlkAt.alloc (BlkAt.new w _ _) _)
        have LB := Lib.hid (show BlkAt ((w.alloc (.cells #[.string s, .int .i64 off, .slice A n c] 42)).alloc (.cells #[.string nm, .int .i64 lz, .int .i64 D, .int .i64 S, .int .i64 u, .int .i64 ee, .slice m1 m2 m3, .slice q1 q2 q3, .int .i64 lc, .int .i64 lm] 38)) (w.heap.size + 1) #[.string nm, .int .i64 lz, .int .i64 D, .int .i64 S, .int .i64 u, .int .i64 ee, .slice m1 m2 m3, .slice q1 q2 q3, .int .i64 lc, .int .i64 lm] 38 from by have := BlkAt.new (w.alloc (.cells #[.string s, .int .i64 off, .slice A n c] 42)) #[.string nm, .int .i64 lz, .int .i64 D, .int .i64 S, .int .i64 u, .int .i64 ee, .slice m1 m2 m3, .slice q1 q2 q3, .int .i64 lc, .int .i64 lm] 38; simpa using this)
        have HB := Lib.hid (((Below.refl w.heap.size w).alloc (Nat.le_refl _) (.cells #[.string s, .int .i64 off, .slice A n c] 42)).alloc (by simp) (.cells #[.string nm, .int .i64 lz, .int .i64 D, .int .i64 S, .int .i64 u, .int .i64 ee, .slice m1 m2 m3, .slice q1 q2 q3, .int .i64 lc, .int .i64 lm] 38))
        clear hz hok HHN hH
        go_enter Tryd.func21, Tryd.ntmps21
        go_upto_region 1 with fail
        generalize (w.alloc (.cells #[.string s, .int .i64 off, .slice A n c] 42)).alloc (.cells #[.string nm, .int .i64 lz, .int .i64 D, .int .i64 S, .int .i64 u, .int .i64 ee, .slice m1 m2 m3, .slice q1 q2 q3, .int .i64 lc, .int .i64 lm] 38) = W0 at ZB LB HB ⊢
        have z0 := ZB.out.cell (i := 0) rfl; have z1 := ZB.out.cell (i := 1) rfl; have z2 := ZB.out.cell (i := 2) rfl; have l0 := LB.out.cell (i := 0) rfl; have l1 := LB.out.cell (i := 1) rfl; have l2 := LB.out.cell (i := 2) rfl; have l3 := LB.out.cell (i := 3) rfl; have l4 := LB.out.cell (i := 4) rfl; have l5 := LB.out.cell (i := 5) rfl; have l6 := LB.out.cell (i := 6) rfl; have l7 := LB.out.cell (i := 7) rfl; have l8 := LB.out.cell (i := 8) rfl; have l9 := LB.out.cell (i := 9) rfl;
        go_upto_region 7 with (go_at_call 20; refine (HCK.out _ HB.out).mono ?_; rintro e w5 ⟨rfl, hb5⟩; rw [HO.out]; have HB5 := Lib.hid (bstep HB.out hb5); have KZ := Lib.hid (ZB.out.after hb5); have KL := Lib.hid (LB.out.after hb5); clear hb5 z0 z1 z2 l0 l1 l2 l3 l4 l5 l6 l7 l8 l9)
        have z0 := KZ.out.cell (i := 0) rfl; have z1 := KZ.out.cell (i := 1) rfl; have z2 := KZ.out.cell (i := 2) rfl; have l0 := KL.out.cell (i := 0) rfl; have l1 := KL.out.cell (i := 1) rfl; have l2 := KL.out.cell (i := 2) rfl; have l3 := KL.out.cell (i := 3) rfl; have l4 := KL.out.cell (i := 4) rfl; have l5 := KL.out.cell (i := 5) rfl; have l6 := KL.out.cell (i := 6) rfl; have l7 := KL.out.cell (i := 7) rfl; have l8 := KL.out.cell (i := 8) rfl; have l9 := KL.out.cell (i := 9) rfl;
        go_wp2_with (go_at_call 47; refine (HHN2.out _ HB5.out (by omega) (by omega)).mono ?_; rintro e w6 ⟨x, b, rfl, hb6, hA, hB⟩; have HB6 := Lib.hid (bstep HB5.out hb6); clear hb6 z0 z1 z2 l0 l1 l2 l3 l4 l5 l6 l7 l8 l9; cases b)
        · rw [hB trivial, Rc.hOut_none (by omega)]
          go_ret2
          exact ⟨rfl, HB6.out⟩
        · rw [hA trivial, Rc.hOut_some (by omega)]
          go_ret2
          exact ⟨rfl, HB6.out⟩
set_option maxHeartbeats 8000000 in
theorem rShi_is {off : Int} {rs : List Zn.Rule} {ts : Zn.L} (hZ : Zn.trans off rs = (ts, 0)) (u ee D S : Int) (s : ByteArray) (A : Option Addr) (n c : Nat) (nm : ByteArray) (lz : Int) (m1 : Option Addr) (m2 m3 : Nat) (q1 : Option Addr) (q2 q3 : Nat) (lc lm : Int) (t : Int) (w : World) (hz : ZIn w A n rs) (ho : I64 off) (hk : I64 t) :
    Calls Tryd.prog 24 #[.agg #[.string s, .int .i64 off, .slice A n c], .agg #[.string nm, .int .i64 lz, .int .i64 D, .int .i64 S, .int .i64 u, .int .i64 ee, .slice m1 m2 m3, .slice q1 q2 q3, .int .i64 lc, .int .i64 lm], .int .i64 t] w fun e w' => ∃ k er : Int, e = .returned (.tuple #[.int .i64 k, .int .i64 er]) ∧ Rc.SOut (Rc.okL u ee D S m2) (Rc.hV off ts u ee D S) t k er ∧ Below w.heap.size w w' := by
  have HCK := Lib.hid (show ∀ W, Below w.heap.size w W → _ from fun W hb => rchk_is hZ u ee D S s A n c nm lz m1 m2 m3 q1 q2 q3 lc lm W (hz.below hb) ho)
  have HHN := Lib.hid (show ∀ (hr : Rc.Rt u ee D S) (t : Int) W, Below w.heap.size w W → 0 ≤ t → t ≤ 8589934592 → _ from fun hr k W hb g0 g1 => rshi_is hZ hr s A n c nm lz m1 m2 m3 q1 q2 q3 lc lm k W (hz.below hb) ho g0 g1)
  cases hok : Rc.okL u ee D S m2 with
  | false =>
    have HO := Lib.hid (show Rc.chkO (Rc.okL u ee D S m2) = 8 by rw [hok]; rfl)
    have ZB := Lib.hid (show BlkAt ((w.alloc (.cells #[.string s, .int .i64 off, .slice A n c] 42)).alloc (.cells #[.string nm, .int .i64 lz, .int .i64 D, .int .i64 S, .int .i64 u, .int .i64 ee, .slice m1 m2 m3, .slice q1 q2 q3, .int .i64 lc, .int .i64 lm] 38)) w.heap.size #[.string s, .int .i64 off, .slice A n c] 42 from BlkAt.alloc (BlkAt.new w _ _) _)
    have LB := Lib.hid (show BlkAt ((w.alloc (.cells #[.string s, .int .i64 off, .slice A n c] 42)).alloc (.cells #[.string nm, .int .i64 lz, .int .i64 D, .int .i64 S, .int .i64 u, .int .i64 ee, .slice m1 m2 m3, .slice q1 q2 q3, .int .i64 lc, .int .i64 lm] 38)) (w.heap.size + 1) #[.string nm, .int .i64 lz, .int .i64 D, .int .i64 S, .int .i64 u, .int .i64 ee, .slice m1 m2 m3, .slice q1 q2 q3, .int .i64 lc, .int .i64 lm] 38 from by have := BlkAt.new (w.alloc (.cells #[.string s, .int .i64 off, .slice A n c] 42)) #[.string nm, .int .i64 lz, .int .i64 D, .int .i64 S, .int .i64 u, .int .i64 ee, .slice m1 m2 m3, .slice q1 q2 q3, .int .i64 lc, .int .i64 lm] 38; simpa using this)
    have HB := Lib.hid (((Below.refl w.heap.size w).alloc (Nat.le_refl _) (.cells #[.string s, .int .i64 off, .slice A n c] 42)).alloc (by simp) (.cells #[.string nm, .int .i64 lz, .int .i64 D, .int .i64 S, .int .i64 u, .int .i64 ee, .slice m1 m2 m3, .slice q1 q2 q3, .int .i64 lc, .int .i64 lm] 38))
    clear hz hok HHN
    go_enter Tryd.func24, Tryd.ntmps24
    go_upto_region 1 with fail
    generalize (w.alloc (.cells #[.string s, .int .i64 off, .slice A n c] 42)).alloc (.cells #[.string nm, .int .i64 lz, .int .i64 D, .int .i64 S, .int .i64 u, .int .i64 ee, .slice m1 m2 m3, .slice q1 q2 q3, .int .i64 lc, .int .i64 lm] 38) = W0 at ZB LB HB ⊢
    have z0 := ZB.out.cell (i := 0) rfl; have z1 := ZB.out.cell (i := 1) rfl; have z2 := ZB.out.cell (i := 2) rfl; have l0 := LB.out.cell (i := 0) rfl; have l1 := LB.out.cell (i := 1) rfl; have l2 := LB.out.cell (i := 2) rfl; have l3 := LB.out.cell (i := 3) rfl; have l4 := LB.out.cell (i := 4) rfl; have l5 := LB.out.cell (i := 5) rfl; have l6 := LB.out.cell (i := 6) rfl; have l7 := LB.out.cell (i := 7) rfl; have l8 := LB.out.cell (i := 8) rfl; have l9 := LB.out.cell (i := 9) rfl;
    go_wp2_with (go_at_call 20; refine (HCK.out _ HB.out).mono ?_; rintro e w5 ⟨rfl, hb5⟩; rw [HO.out]; have HB5 := Lib.hid (bstep HB.out hb5); clear hb5)
    go_ret2
    exact ⟨0, 8, rfl, ⟨fun _ => ⟨rfl, rfl⟩, fun h => (by cases h), fun h => (by cases h)⟩, HB5.out⟩
  | true =>
    have HO := Lib.hid (show Rc.chkO (Rc.okL u ee D S m2) = 0 by rw [hok]; rfl)
    obtain ⟨hr, -⟩ := Rc.okL_rt hok
    by_cases h0 : t < 0 ∨ 8589934592 < t
    · have h0' : (decide (t < 0) || decide (8589934592 < t)) = true := by simpa using h0
      have ZB := Lib.hid (show BlkAt ((w.alloc (.cells #[.string s, .int .i64 off, .slice A n c] 42)).alloc (.cells #[.string nm, .int .i64 lz, .int .i64 D, .int .i64 S, .int .i64 u, .int .i64 ee, .slice m1 m2 m3, .slice q1 q2 q3, .int .i64 lc, .int .i64 lm] 38)) w.heap.size #[.string s, .int .i64 off, .slice A n c] 42 from BlkAt.alloc (BlkAt.new w _ _) _)
      have LB := Lib.hid (show BlkAt ((w.alloc (.cells #[.string s, .int .i64 off, .slice A n c] 42)).alloc (.cells #[.string nm, .int .i64 lz, .int .i64 D, .int .i64 S, .int .i64 u, .int .i64 ee, .slice m1 m2 m3, .slice q1 q2 q3, .int .i64 lc, .int .i64 lm] 38)) (w.heap.size + 1) #[.string nm, .int .i64 lz, .int .i64 D, .int .i64 S, .int .i64 u, .int .i64 ee, .slice m1 m2 m3, .slice q1 q2 q3, .int .i64 lc, .int .i64 lm] 38 from by have := BlkAt.new (w.alloc (.cells #[.string s, .int .i64 off, .slice A n c] 42)) #[.string nm, .int .i64 lz, .int .i64 D, .int .i64 S, .int .i64 u, .int .i64 ee, .slice m1 m2 m3, .slice q1 q2 q3, .int .i64 lc, .int .i64 lm] 38; simpa using this)
      have HB := Lib.hid (((Below.refl w.heap.size w).alloc (Nat.le_refl _) (.cells #[.string s, .int .i64 off, .slice A n c] 42)).alloc (by simp) (.cells #[.string nm, .int .i64 lz, .int .i64 D, .int .i64 S, .int .i64 u, .int .i64 ee, .slice m1 m2 m3, .slice q1 q2 q3, .int .i64 lc, .int .i64 lm] 38))
      clear hz hok HHN
      go_enter Tryd.func24, Tryd.ntmps24
      go_upto_region 1 with fail
      generalize (w.alloc (.cells #[.string s, .int .i64 off, .slice A n c] 42)).alloc (.cells #[.string nm, .int .i64 lz, .int .i64 D, .int .i64 S, .int .i64 u, .int .i64 ee, .slice m1 m2 m3, .slice q1 q2 q3, .int .i64 lc, .int .i64 lm] 38) = W0 at ZB LB HB ⊢
      have z0 := ZB.out.cell (i := 0) rfl; have z1 := ZB.out.cell (i := 1) rfl; have z2 := ZB.out.cell (i := 2) rfl; have l0 := LB.out.cell (i := 0) rfl; have l1 := LB.out.cell (i := 1) rfl; have l2 := LB.out.cell (i := 2) rfl; have l3 := LB.out.cell (i := 3) rfl; have l4 := LB.out.cell (i := 4) rfl; have l5 := LB.out.cell (i := 5) rfl; have l6 := LB.out.cell (i := 6) rfl; have l7 := LB.out.cell (i := 7) rfl; have l8 := LB.out.cell (i := 8) rfl; have l9 := LB.out.cell (i := 9) rfl;
      go_wp2_with (go_at_call 20; refine (HCK.out _ HB.out).mono ?_; rintro e w5 ⟨rfl, hb5⟩; rw [HO.out]; have HB5 := Lib.hid (bstep HB.out hb5); clear hb5)
      all_goals first | (exfalso; omega) | skip
      all_goals (go_ret2; exact ⟨0, 1, rfl, ⟨fun h => (by cases h), fun _ _ => ⟨rfl, rfl⟩, fun _ a b => by omega⟩, HB5.out⟩)
    · have HHN2 := Lib.hid (HHN.out hr t)
      have t0 : 0 ≤ t := by omega
      have t1 : t ≤ 8589934592 := by omega
      have ZB := Lib.hid (show BlkAt ((w.alloc (.cells #[.string s, .int .i64 off, .slice A n c] 42)).alloc (.cells #[.string nm, .int .i64 lz, .int .i64 D, .int .i64 S, .int .i64 u, .int .i64 ee, .slice m1 m2 m3, .slice q1 q2 q3, .int .i64 lc, .int .i64 lm] 38)) w.heap.size #[.string s, .int .i64 off, .slice A n c] 42 from BlkAt.alloc (BlkAt.new w _ _) _)
      have LB := Lib.hid (show BlkAt ((w.alloc (.cells #[.string s, .int .i64 off, .slice A n c] 42)).alloc (.cells #[.string nm, .int .i64 lz, .int .i64 D, .int .i64 S, .int .i64 u, .int .i64 ee, .slice m1 m2 m3, .slice q1 q2 q3, .int .i64 lc, .int .i64 lm] 38)) (w.heap.size + 1) #[.string nm, .int .i64 lz, .int .i64 D, .int .i64 S, .int .i64 u, .int .i64 ee, .slice m1 m2 m3, .slice q1 q2 q3, .int .i64 lc, .int .i64 lm] 38 from by have := BlkAt.new (w.alloc (.cells #[.string s, .int .i64 off, .slice A n c] 42)) #[.string nm, .int .i64 lz, .int .i64 D, .int .i64 S, .int .i64 u, .int .i64 ee, .slice m1 m2 m3, .slice q1 q2 q3, .int .i64 lc, .int .i64 lm] 38; simpa using this)
      have HB := Lib.hid (((Below.refl w.heap.size w).alloc (Nat.le_refl _) (.cells #[.string s, .int .i64 off, .slice A n c] 42)).alloc (by simp) (.cells #[.string nm, .int .i64 lz, .int .i64 D, .int .i64 S, .int .i64 u, .int .i64 ee, .slice m1 m2 m3, .slice q1 q2 q3, .int .i64 lc, .int .i64 lm] 38))
      clear hz hok HHN h0
      go_enter Tryd.func24, Tryd.ntmps24
      go_upto_region 1 with fail
      generalize (w.alloc (.cells #[.string s, .int .i64 off, .slice A n c] 42)).alloc (.cells #[.string nm, .int .i64 lz, .int .i64 D, .int .i64 S, .int .i64 u, .int .i64 ee, .slice m1 m2 m3, .slice q1 q2 q3, .int .i64 lc, .int .i64 lm] 38) = W0 at ZB LB HB ⊢
      have z0 := ZB.out.cell (i := 0) rfl; have z1 := ZB.out.cell (i := 1) rfl; have z2 := ZB.out.cell (i := 2) rfl; have l0 := LB.out.cell (i := 0) rfl; have l1 := LB.out.cell (i := 1) rfl; have l2 := LB.out.cell (i := 2) rfl; have l3 := LB.out.cell (i := 3) rfl; have l4 := LB.out.cell (i := 4) rfl; have l5 := LB.out.cell (i := 5) rfl; have l6 := LB.out.cell (i := 6) rfl; have l7 := LB.out.cell (i := 7) rfl; have l8 := LB.out.cell (i := 8) rfl; have l9 := LB.out.cell (i := 9) rfl;
      go_upto_region 5 with (go_at_call 20; refine (HCK.out _ HB.out).mono ?_; rintro e w5 ⟨rfl, hb5⟩; rw [HO.out]; have HB5 := Lib.hid (bstep HB.out hb5); have KZ := Lib.hid (ZB.out.after hb5); have KL := Lib.hid (LB.out.after hb5); clear hb5 z0 z1 z2 l0 l1 l2 l3 l4 l5 l6 l7 l8 l9)
      have z0 := KZ.out.cell (i := 0) rfl; have z1 := KZ.out.cell (i := 1) rfl; have z2 := KZ.out.cell (i := 2) rfl; have l0 := KL.out.cell (i := 0) rfl; have l1 := KL.out.cell (i := 1) rfl; have l2 := KL.out.cell (i := 2) rfl; have l3 := KL.out.cell (i := 3) rfl; have l4 := KL.out.cell (i := 4) rfl; have l5 := KL.out.cell (i := 5) rfl; have l6 := KL.out.cell (i := 6) rfl; have l7 := KL.out.cell (i := 7) rfl; have l8 := KL.out.cell (i := 8) rfl; have l9 := KL.out.cell (i := 9) rfl;
      go_wp2_with (go_at_call 49; refine (HHN2.out _ HB5.out t0 t1).mono ?_; rintro e w6 ⟨k, rfl, hs, hb6⟩; have HB6 := Lib.hid (bstep HB5.out hb6); have HS := Lib.hid hs; clear hb6 hs z0 z1 z2 l0 l1 l2 l3 l4 l5 l6 l7 l8 l9)
      go_ret2
      exact ⟨k, 0, rfl, ⟨fun h => (by cases h), fun _ h => by omega, fun _ _ _ => ⟨rfl, HS.out⟩⟩, HB6.out⟩
set_option maxHeartbeats 8000000 in
theorem rTurn_is {off : Int} {rs : List Zn.Rule} {ts : Zn.L} (hZ : Zn.trans off rs = (ts, 0)) (u ee D S : Int) (s : ByteArray) (A : Option Addr) (n c : Nat) (nm : ByteArray) (lz : Int) (m1 : Option Addr) (m2 m3 : Nat) (q1 : Option Addr) (q2 q3 : Nat) (lc lm : Int) (t : Int) (w : World) (hz : ZIn w A n rs) (ho : I64 off) (hk : I64 t) (hm : m2 ≤ 9223372036854775807) :
    Calls Tryd.prog 26 #[.agg #[.string s, .int .i64 off, .slice A n c], .agg #[.string nm, .int .i64 lz, .int .i64 D, .int .i64 S, .int .i64 u, .int .i64 ee, .slice m1 m2 m3, .slice q1 q2 q3, .int .i64 lc, .int .i64 lm], .int .i64 t] w fun e w' => ∃ k er : Int, e = .returned (.tuple #[.int .i64 (Rc.turnV k er m2), .int .i64 er]) ∧ Rc.SOut (Rc.okL u ee D S m2) (Rc.hV off ts u ee D S) t k er ∧ Below w.heap.size w w' := by
  have HHN := Lib.hid (show ∀ W, Below w.heap.size w W → _ from fun W hb => rShi_is hZ u ee D S s A n c nm lz m1 m2 m3 q1 q2 q3 lc lm t W (hz.below hb) ho hk)
  have HQ := Lib.hid (show ∀ k er : Int, Rc.SOut (Rc.okL u ee D S m2) (Rc.hV off ts u ee D S) t k er → (er = 0 ∧ -1 ≤ k ∧ k ≤ 2386092 ∧ 0 < m2) ∨ (k = 0 ∧ (er = 1 ∨ er = 8)) from fun k er h => by
    cases hok : Rc.okL u ee D S m2 with
    | false => obtain ⟨a, b⟩ := h.no hok; exact .inr ⟨a, .inr b⟩
    | true =>
      obtain ⟨hr, hm⟩ := Rc.okL_rt hok
      by_cases hf : t < 0 ∨ 8589934592 < t
      · obtain ⟨a, b⟩ := h.far hok hf; exact .inr ⟨a, .inl b⟩
      · obtain ⟨a, b⟩ := h.yes hok (by omega) (by omega)
        exact .inl ⟨a, b.1, Rc.shift_le (Zn.trans_vz hZ) hr b, hm⟩)
  have ZB := Lib.hid (show BlkAt ((w.alloc (.cells #[.string s, .int .i64 off, .slice A n c] 42)).alloc (.cells #[.string nm, .int .i64 lz, .int .i64 D, .int .i64 S, .int .i64 u, .int .i64 ee, .slice m1 m2 m3, .slice q1 q2 q3, .int .i64 lc, .int .i64 lm] 38)) w.heap.size #[.string s, .int .i64 off, .slice A n c] 42 from BlkAt.alloc (BlkAt.new w _ _) _)
  have LB := Lib.hid (show BlkAt ((w.alloc (.cells #[.string s, .int .i64 off, .slice A n c] 42)).alloc (.cells #[.string nm, .int .i64 lz, .int .i64 D, .int .i64 S, .int .i64 u, .int .i64 ee, .slice m1 m2 m3, .slice q1 q2 q3, .int .i64 lc, .int .i64 lm] 38)) (w.heap.size + 1) #[.string nm, .int .i64 lz, .int .i64 D, .int .i64 S, .int .i64 u, .int .i64 ee, .slice m1 m2 m3, .slice q1 q2 q3, .int .i64 lc, .int .i64 lm] 38 from by have := BlkAt.new (w.alloc (.cells #[.string s, .int .i64 off, .slice A n c] 42)) #[.string nm, .int .i64 lz, .int .i64 D, .int .i64 S, .int .i64 u, .int .i64 ee, .slice m1 m2 m3, .slice q1 q2 q3, .int .i64 lc, .int .i64 lm] 38; simpa using this)
  have HB := Lib.hid (((Below.refl w.heap.size w).alloc (Nat.le_refl _) (.cells #[.string s, .int .i64 off, .slice A n c] 42)).alloc (by simp) (.cells #[.string nm, .int .i64 lz, .int .i64 D, .int .i64 S, .int .i64 u, .int .i64 ee, .slice m1 m2 m3, .slice q1 q2 q3, .int .i64 lc, .int .i64 lm] 38))
  clear hz
  go_enter Tryd.func26, Tryd.ntmps26
  go_upto_region 1 with fail
  generalize (w.alloc (.cells #[.string s, .int .i64 off, .slice A n c] 42)).alloc (.cells #[.string nm, .int .i64 lz, .int .i64 D, .int .i64 S, .int .i64 u, .int .i64 ee, .slice m1 m2 m3, .slice q1 q2 q3, .int .i64 lc, .int .i64 lm] 38) = W0 at ZB LB HB ⊢
  have z0 := ZB.out.cell (i := 0) rfl; have z1 := ZB.out.cell (i := 1) rfl; have z2 := ZB.out.cell (i := 2) rfl; have l0 := LB.out.cell (i := 0) rfl; have l1 := LB.out.cell (i := 1) rfl; have l2 := LB.out.cell (i := 2) rfl; have l3 := LB.out.cell (i := 3) rfl; have l4 := LB.out.cell (i := 4) rfl; have l5 := LB.out.cell (i := 5) rfl; have l6 := LB.out.cell (i := 6) rfl; have l7 := LB.out.cell (i := 7) rfl; have l8 := LB.out.cell (i := 8) rfl; have l9 := LB.out.cell (i := 9) rfl;
  go_upto_region 2 with (go_at_call 24; refine (HHN.out _ HB.out).mono ?_; rintro e w5 ⟨k, er, rfl, hs, hb5⟩; have HB5 := Lib.hid (bstep HB.out hb5); have KL := Lib.hid (LB.out.after hb5); have HS := Lib.hid hs; clear hb5 hs z0 z1 z2 l0 l1 l2 l3 l4 l5 l6 l7 l8 l9)
  have k6 := KL.out.cell (i := 6) rfl
  rcases HQ.out k er HS.out with ⟨rfl, b1, b2, b3⟩ | ⟨rfl, he⟩
  · by_cases hk0 : k < 0
    · obtain rfl : k = -1 := by omega
      go_wp2_with fail
      go_ret2
      exact ⟨-1, 0, rfl, HS.out, HB5.out⟩
    · have hm0 : ¬ (m2 : Int) = 0 := by omega
      have k0 : 0 ≤ k := by omega
      have e0 := Int.emod_nonneg k (show (m2 : Int) ≠ 0 by omega)
      have e1 := Int.emod_lt_of_pos k (show (0 : Int) < m2 by omega)
      have ht : k.tmod m2 = k % m2 := Int.tmod_eq_emod_of_nonneg k0
      obtain ⟨q, hq⟩ : ∃ q, k % (m2 : Int) = q := ⟨_, rfl⟩
      have HT := Lib.hid (show Rc.turnV k 0 m2 = q by unfold Rc.turnV; rw [if_neg (by simp), if_neg (by omega), hq])
      rw [hq] at e0 e1 ht
      have ⟨v1, v1'⟩ := wrapn (n := q) (by omega)
      go_wp2_with fail
      go_ret2
      exact ⟨k, 0, by rw [HT.out]; rfl, HS.out, HB5.out⟩
  · have hn : (er != 0) = true := by rcases he with rfl | rfl <;> rfl
    have HT := Lib.hid (show Rc.turnV 0 er m2 = 0 by unfold Rc.turnV; rw [if_pos (by simpa using hn)])
    clear he
    go_wp2_with fail
    go_ret2
    exact ⟨0, er, by rw [HT.out]; rfl, HS.out, HB5.out⟩
set_option maxHeartbeats 16000000 in
theorem rHdv_is {off : Int} {rs : List Zn.Rule} {ts : Zn.L} (hZ : Zn.trans off rs = (ts, 0)) (u ee D S : Int) (s : ByteArray) (A : Option Addr) (n c : Nat) (nm : ByteArray) (lz : Int) (m1 : Option Addr) (m2 m3 : Nat) (q1 : Option Addr) (q2 q3 : Nat) (lc lm : Int) (f t : Int) (w : World) (hz : ZIn w A n rs) (ho : I64 off) (hf : I64 f) (ht : I64 t) :
    Calls Tryd.prog 28 #[.agg #[.string s, .int .i64 off, .slice A n c], .agg #[.string nm, .int .i64 lz, .int .i64 D, .int .i64 S, .int .i64 u, .int .i64 ee, .slice m1 m2 m3, .slice q1 q2 q3, .int .i64 lc, .int .i64 lm], .int .i64 f, .int .i64 t] w (HdvV (Rc.okL u ee D S m2) (Rc.hV off ts u ee D S) f t w) := by
  have HCK := Lib.hid (show ∀ W, Below w.heap.size w W → _ from fun W hb => rchk_is hZ u ee D S s A n c nm lz m1 m2 m3 q1 q2 q3 lc lm W (hz.below hb) ho)
  have HSN := Lib.hid (show ∀ (hr : Rc.Rt u ee D S) (t : Int) W, Below w.heap.size w W → 0 ≤ t → t ≤ 8589934592 → _ from fun hr k W hb g0 g1 => rshi_is hZ hr s A n c nm lz m1 m2 m3 q1 q2 q3 lc lm k W (hz.below hb) ho g0 g1)
  have HHN := Lib.hid (show ∀ (hr : Rc.Rt u ee D S) (k : Int) W, Below w.heap.size w W → 0 ≤ k → k ≤ 3000000 → _ from fun hr k W hb g0 g1 => rhan_is hZ hr s A n c nm lz m1 m2 m3 q1 q2 q3 lc lm k W (hz.below hb) ho g0 g1)
  have HRG := Lib.hid (fun W => rrange_any f t W hf ht)
  cases hok : Rc.okL u ee D S m2 with
  | false =>
    have HO := Lib.hid (show Rc.chkO (Rc.okL u ee D S m2) = 8 by rw [hok]; rfl)
    have ZB := Lib.hid (show BlkAt ((w.alloc (.cells #[.string s, .int .i64 off, .slice A n c] 42)).alloc (.cells #[.string nm, .int .i64 lz, .int .i64 D, .int .i64 S, .int .i64 u, .int .i64 ee, .slice m1 m2 m3, .slice q1 q2 q3, .int .i64 lc, .int .i64 lm] 38)) w.heap.size #[.string s, .int .i64 off, .slice A n c] 42 from BlkAt.alloc (BlkAt.new w _ _) _)
    have LB := Lib.hid (show BlkAt ((w.alloc (.cells #[.string s, .int .i64 off, .slice A n c] 42)).alloc (.cells #[.string nm, .int .i64 lz, .int .i64 D, .int .i64 S, .int .i64 u, .int .i64 ee, .slice m1 m2 m3, .slice q1 q2 q3, .int .i64 lc, .int .i64 lm] 38)) (w.heap.size + 1) #[.string nm, .int .i64 lz, .int .i64 D, .int .i64 S, .int .i64 u, .int .i64 ee, .slice m1 m2 m3, .slice q1 q2 q3, .int .i64 lc, .int .i64 lm] 38 from by have := BlkAt.new (w.alloc (.cells #[.string s, .int .i64 off, .slice A n c] 42)) #[.string nm, .int .i64 lz, .int .i64 D, .int .i64 S, .int .i64 u, .int .i64 ee, .slice m1 m2 m3, .slice q1 q2 q3, .int .i64 lc, .int .i64 lm] 38; simpa using this)
    have HB := Lib.hid (((Below.refl w.heap.size w).alloc (Nat.le_refl _) (.cells #[.string s, .int .i64 off, .slice A n c] 42)).alloc (by simp) (.cells #[.string nm, .int .i64 lz, .int .i64 D, .int .i64 S, .int .i64 u, .int .i64 ee, .slice m1 m2 m3, .slice q1 q2 q3, .int .i64 lc, .int .i64 lm] 38))
    clear hz hok HHN HSN
    go_enter Tryd.func28, Tryd.ntmps28
    go_upto_region 1 with fail
    generalize (w.alloc (.cells #[.string s, .int .i64 off, .slice A n c] 42)).alloc (.cells #[.string nm, .int .i64 lz, .int .i64 D, .int .i64 S, .int .i64 u, .int .i64 ee, .slice m1 m2 m3, .slice q1 q2 q3, .int .i64 lc, .int .i64 lm] 38) = W0 at ZB LB HB ⊢
    have z0 := ZB.out.cell (i := 0) rfl; have z1 := ZB.out.cell (i := 1) rfl; have z2 := ZB.out.cell (i := 2) rfl; have l0 := LB.out.cell (i := 0) rfl; have l1 := LB.out.cell (i := 1) rfl; have l2 := LB.out.cell (i := 2) rfl; have l3 := LB.out.cell (i := 3) rfl; have l4 := LB.out.cell (i := 4) rfl; have l5 := LB.out.cell (i := 5) rfl; have l6 := LB.out.cell (i := 6) rfl; have l7 := LB.out.cell (i := 7) rfl; have l8 := LB.out.cell (i := 8) rfl; have l9 := LB.out.cell (i := 9) rfl;
    go_wp2_with (go_at_call 20; refine (HCK.out _ HB.out).mono ?_; rintro e w5 ⟨rfl, hb5⟩; rw [HO.out]; have HB5 := Lib.hid (bstep HB.out hb5); clear hb5)
    go_ret2
    exact ⟨[], 8, none, 0, rfl, ⟨fun _ => ⟨rfl, rfl⟩, fun h => (by cases h), fun h => (by cases h)⟩, ListAt.nil_, by simp, HB5.out⟩
  | true =>
    have HO := Lib.hid (show Rc.chkO (Rc.okL u ee D S m2) = 0 by rw [hok]; rfl)
    obtain ⟨hr, -⟩ := Rc.okL_rt hok
    cases hq : okQ f t with
    | false =>
      have HQ := Lib.hid hq
      have hq2 := of_decide_eq_false hq
      have ZB := Lib.hid (show BlkAt ((w.alloc (.cells #[.string s, .int .i64 off, .slice A n c] 42)).alloc (.cells #[.string nm, .int .i64 lz, .int .i64 D, .int .i64 S, .int .i64 u, .int .i64 ee, .slice m1 m2 m3, .slice q1 q2 q3, .int .i64 lc, .int .i64 lm] 38)) w.heap.size #[.string s, .int .i64 off, .slice A n c] 42 from BlkAt.alloc (BlkAt.new w _ _) _)
      have LB := Lib.hid (show BlkAt ((w.alloc (.cells #[.string s, .int .i64 off, .slice A n c] 42)).alloc (.cells #[.string nm, .int .i64 lz, .int .i64 D, .int .i64 S, .int .i64 u, .int .i64 ee, .slice m1 m2 m3, .slice q1 q2 q3, .int .i64 lc, .int .i64 lm] 38)) (w.heap.size + 1) #[.string nm, .int .i64 lz, .int .i64 D, .int .i64 S, .int .i64 u, .int .i64 ee, .slice m1 m2 m3, .slice q1 q2 q3, .int .i64 lc, .int .i64 lm] 38 from by have := BlkAt.new (w.alloc (.cells #[.string s, .int .i64 off, .slice A n c] 42)) #[.string nm, .int .i64 lz, .int .i64 D, .int .i64 S, .int .i64 u, .int .i64 ee, .slice m1 m2 m3, .slice q1 q2 q3, .int .i64 lc, .int .i64 lm] 38; simpa using this)
      have HB := Lib.hid (((Below.refl w.heap.size w).alloc (Nat.le_refl _) (.cells #[.string s, .int .i64 off, .slice A n c] 42)).alloc (by simp) (.cells #[.string nm, .int .i64 lz, .int .i64 D, .int .i64 S, .int .i64 u, .int .i64 ee, .slice m1 m2 m3, .slice q1 q2 q3, .int .i64 lc, .int .i64 lm] 38))
      clear hz hok HHN HSN hq
      go_enter Tryd.func28, Tryd.ntmps28
      go_upto_region 1 with fail
      generalize (w.alloc (.cells #[.string s, .int .i64 off, .slice A n c] 42)).alloc (.cells #[.string nm, .int .i64 lz, .int .i64 D, .int .i64 S, .int .i64 u, .int .i64 ee, .slice m1 m2 m3, .slice q1 q2 q3, .int .i64 lc, .int .i64 lm] 38) = W0 at ZB LB HB ⊢
      have z0 := ZB.out.cell (i := 0) rfl; have z1 := ZB.out.cell (i := 1) rfl; have z2 := ZB.out.cell (i := 2) rfl; have l0 := LB.out.cell (i := 0) rfl; have l1 := LB.out.cell (i := 1) rfl; have l2 := LB.out.cell (i := 2) rfl; have l3 := LB.out.cell (i := 3) rfl; have l4 := LB.out.cell (i := 4) rfl; have l5 := LB.out.cell (i := 5) rfl; have l6 := LB.out.cell (i := 6) rfl; have l7 := LB.out.cell (i := 7) rfl; have l8 := LB.out.cell (i := 8) rfl; have l9 := LB.out.cell (i := 9) rfl;
      go_upto_region 3 with (go_at_call 20; refine (HCK.out _ HB.out).mono ?_; rintro e w5 ⟨rfl, hb5⟩; rw [HO.out]; have HB5 := Lib.hid (bstep HB.out hb5); clear hb5 z0 z1 z2 l0 l1 l2 l3 l4 l5 l6 l7 l8 l9)
      go_wp2_with (go_at_call 51; refine (HRG.out _).mono ?_; rintro e w6 ⟨rfl, rfl⟩; rw [HQ.out])
      all_goals (go_ret2; exact ⟨[], 1, none, 0, rfl, ⟨fun h => (by cases h), fun _ _ => ⟨rfl, rfl⟩, fun _ h => absurd (by omega) hq2⟩, ListAt.nil_, by simp, HB5.out⟩)
    | true =>
      have HQ := Lib.hid hq
      have hq2 := of_decide_eq_true hq
      have hv := Zn.trans_vz hZ
      have HSN2 := Lib.hid (HSN.out hr f)
      have HHN2 := Lib.hid (HHN.out hr)
      have HF := Lib.hid (show ∀ s k a : Int, Rc.ShiftIs (Rc.hV off ts u ee D S) f s → Rc.hV off ts u ee D S k = some a → max 0 s ≤ k → a < t → k - max 0 s ≤ 100000 from fun s k a hs ea hk ha => Rc.few hv hr hs ea hk ha hq2.2.2.2)
      have HHI := Lib.hid (show ∀ k a : Int, Rc.hV off ts u ee D S k = some a → k ≤ 2386092 from fun k a ea => by
        rcases Int.lt_or_le 2386092 k with hlt | hle
        · rw [Rc.hV_high hv hr hlt] at ea; cases ea
        · exact hle)
      have HGS := Lib.hid (show ∀ s : Int, Rc.ShiftIs (Rc.hV off ts u ee D S) f s → Rc.Gather (Rc.hV off ts u ee D S) f t (max 0 s) [] from fun s hs => Rc.Gather.start hv hr hs rfl)
      have HGT := Lib.hid (show ∀ (k a : Int) (l : List Int), Rc.Gather (Rc.hV off ts u ee D S) f t k l → 0 ≤ k → Rc.hV off ts u ee D S k = some a → f ≤ a → a < t → Rc.Gather (Rc.hV off ts u ee D S) f t (k + 1) (l ++ [a]) from fun k a l h hk ha g1 g2 => h.take hv hr hk ha g1 g2)
      have HGD := Lib.hid (show ∀ (k : Int) (l : List Int), Rc.Gather (Rc.hV off ts u ee D S) f t k l → 0 ≤ k → (∀ a, Rc.hV off ts u ee D S k = some a → t ≤ a) → Rc.RangeIs (Rc.hV off ts u ee D S) f t l from fun k l h hk he => h.done hv hr hk he)
      obtain ⟨H, hH⟩ : ∃ H, Rc.hV off ts u ee D S = H := ⟨_, rfl⟩
      rw [hH] at HSN2 HHN2 HF HHI HGS HGT HGD ⊢
      have ZB := Lib.hid (show BlkAt ((w.alloc (.cells #[.string s, .int .i64 off, .slice A n c] 42)).alloc (.cells #[.string nm, .int .i64 lz, .int .i64 D, .int .i64 S, .int .i64 u, .int .i64 ee, .slice m1 m2 m3, .slice q1 q2 q3, .int .i64 lc, .int .i64 lm] 38)) w.heap.size #[.string s, .int .i64 off, .slice A n c] 42 from BlkAt.alloc (BlkAt.new w _ _) _)
      have LB := Lib.hid (show BlkAt ((w.alloc (.cells #[.string s, .int .i64 off, .slice A n c] 42)).alloc (.cells #[.string nm, .int .i64 lz, .int .i64 D, .int .i64 S, .int .i64 u, .int .i64 ee, .slice m1 m2 m3, .slice q1 q2 q3, .int .i64 lc, .int .i64 lm] 38)) (w.heap.size + 1) #[.string nm, .int .i64 lz, .int .i64 D, .int .i64 S, .int .i64 u, .int .i64 ee, .slice m1 m2 m3, .slice q1 q2 q3, .int .i64 lc, .int .i64 lm] 38 from by have := BlkAt.new (w.alloc (.cells #[.string s, .int .i64 off, .slice A n c] 42)) #[.string nm, .int .i64 lz, .int .i64 D, .int .i64 S, .int .i64 u, .int .i64 ee, .slice m1 m2 m3, .slice q1 q2 q3, .int .i64 lc, .int .i64 lm] 38; simpa using this)
      have HB := Lib.hid (((Below.refl w.heap.size w).alloc (Nat.le_refl _) (.cells #[.string s, .int .i64 off, .slice A n c] 42)).alloc (by simp) (.cells #[.string nm, .int .i64 lz, .int .i64 D, .int .i64 S, .int .i64 u, .int .i64 ee, .slice m1 m2 m3, .slice q1 q2 q3, .int .i64 lc, .int .i64 lm] 38))
      clear hz hok HHN HSN hq hH hv
      go_enter Tryd.func28, Tryd.ntmps28
      go_upto_region 1 with fail
      generalize (w.alloc (.cells #[.string s, .int .i64 off, .slice A n c] 42)).alloc (.cells #[.string nm, .int .i64 lz, .int .i64 D, .int .i64 S, .int .i64 u, .int .i64 ee, .slice m1 m2 m3, .slice q1 q2 q3, .int .i64 lc, .int .i64 lm] 38) = W0 at ZB LB HB ⊢
      have z0 := ZB.out.cell (i := 0) rfl; have z1 := ZB.out.cell (i := 1) rfl; have z2 := ZB.out.cell (i := 2) rfl; have l0 := LB.out.cell (i := 0) rfl; have l1 := LB.out.cell (i := 1) rfl; have l2 := LB.out.cell (i := 2) rfl; have l3 := LB.out.cell (i := 3) rfl; have l4 := LB.out.cell (i := 4) rfl; have l5 := LB.out.cell (i := 5) rfl; have l6 := LB.out.cell (i := 6) rfl; have l7 := LB.out.cell (i := 7) rfl; have l8 := LB.out.cell (i := 8) rfl; have l9 := LB.out.cell (i := 9) rfl;
      go_upto_region 3 with (go_at_call 20; refine (HCK.out _ HB.out).mono ?_; rintro e w5 ⟨rfl, hb5⟩; rw [HO.out]; have HB5 := Lib.hid (bstep HB.out hb5); have KZ := Lib.hid (ZB.out.after hb5); have KL := Lib.hid (LB.out.after hb5); clear hb5 z0 z1 z2 l0 l1 l2 l3 l4 l5 l6 l7 l8 l9)
      go_upto_region 6 with (go_at_call 51; refine (HRG.out _).mono ?_; rintro e w6 ⟨rfl, rfl⟩; rw [HQ.out])
      have z0 := KZ.out.cell (i := 0) rfl; have z1 := KZ.out.cell (i := 1) rfl; have z2 := KZ.out.cell (i := 2) rfl; have l0 := KL.out.cell (i := 0) rfl; have l1 := KL.out.cell (i := 1) rfl; have l2 := KL.out.cell (i := 2) rfl; have l3 := KL.out.cell (i := 3) rfl; have l4 := KL.out.cell (i := 4) rfl; have l5 := KL.out.cell (i := 5) rfl; have l6 := KL.out.cell (i := 6) rfl; have l7 := KL.out.cell (i := 7) rfl; have l8 := KL.out.cell (i := 8) rfl; have l9 := KL.out.cell (i := 9) rfl;
      go_wp2_with (go_at_call 49; refine (HSN2.out _ HB5.out (by omega) (by omega)).mono ?_; rintro e w6 ⟨sh, rfl, hs, hb6⟩; have HB6 := Lib.hid (bstep HB5.out hb6); have HS := Lib.hid hs; have YZ := Lib.hid (KZ.out.after hb6); have YL := Lib.hid (KL.out.after hb6); clear hb6 hs z0 z1 z2 l0 l1 l2 l3 l4 l5 l6 l7 l8 l9)
      have hs1 := HS.out.1
      have hsu : sh ≤ 2386092 := by
        rcases Int.lt_or_le sh 0 with h1 | h1
        · omega
        · obtain ⟨a, ea, -⟩ := HS.out.2.1 h1
          exact HHI.out sh a ea
      go_loopw [10, 11] (fun v y wr => ∃ (k : Int) (L : List Int), y = .int .i64 k ∧ max 0 sh ≤ k ∧ k ≤ 2386093 ∧ Hid ((L.length : Int) ≤ k - max 0 sh ∧ L.length ≤ 100001) ∧ Hid (Rc.Gather H f t k L) ∧ Hid (OwnL 3 1 eInt wr w6.heap.size v L) ∧ Hid (Below w6.heap.size w6 wr)) (fun _ y _ => (2386094 - intOf y).toNat)
      case atStart => exact ⟨max 0 sh, [], rfl, by omega, by omega, Lib.hid (by simp), Lib.hid (HGS.out sh HS.out), Lib.hid (OwnL.nil_ _ _), Lib.hid (Below.refl _ _)⟩
      case round =>
        obtain ⟨k, L, rfl, k0, k1, HN, HG, HL, HW⟩ := hrel
        have HWW := Lib.hid (HB6.out.trans (HW.out.mono HB6.out.size))
        have MZ := Lib.hid (YZ.out.after HW.out); have ML := Lib.hid (YL.out.after HW.out)
        have g0 : 0 ≤ k := by omega
        have z0 := MZ.out.cell (i := 0) rfl; have z1 := MZ.out.cell (i := 1) rfl; have z2 := MZ.out.cell (i := 2) rfl; have l0 := ML.out.cell (i := 0) rfl; have l1 := ML.out.cell (i := 1) rfl; have l2 := ML.out.cell (i := 2) rfl; have l3 := ML.out.cell (i := 3) rfl; have l4 := ML.out.cell (i := 4) rfl; have l5 := ML.out.cell (i := 5) rfl; have l6 := ML.out.cell (i := 6) rfl; have l7 := ML.out.cell (i := 7) rfl; have l8 := ML.out.cell (i := 8) rfl; have l9 := ML.out.cell (i := 9) rfl;
        go_upto_region 8 with (go_at_call 47; refine (HHN2.out k _ HWW.out g0 (by omega)).mono ?_; rintro e w7 ⟨x, b, rfl, hb7, hA, hB⟩; have HW7 := Lib.hid (bstep HWW.out hb7); have HL7 := Lib.hid (HL.out.below hb7); have HX7 := Lib.hid (bstep HW.out hb7); have HAB := Lib.hid (And.intro hA hB); clear hb7 hA hB z0 z1 z2 l0 l1 l2 l3 l4 l5 l6 l7 l8 l9)
        by_cases hb : b = true ∧ x < t
        · obtain ⟨rfl, hxt⟩ := hb
          have hxt' : ¬ t ≤ x := by omega
          have hHk := HAB.out.1 rfl
          have kk := HHI.out k x hHk
          have ⟨e1, e1'⟩ := wrapn (n := k + 1) (by omega)
          have hle1 : L.length ≤ 100000 := by
            have := HF.out sh k x HS.out hHk k0 hxt
            have := HN.out
            omega
          have hlen : L.length ≤ 900000 := by omega
          by_cases hxf : f ≤ x
          · have HGN := Lib.hid (HGT.out k x L HG.out g0 hHk hxf hxt)
            have hs7 := HX7.out.size
            clear hHk
            go_wp2_with (at_builtin; refine wp_append_one kInt _ rfl _ _ rfl w6.heap.size _ L rfl (HL7.out.alloc _) w7.heap.size x rfl (int_new rfl) hlen (by simp; omega) ?_; intro gg cap w8 hO8 hB8 hg8 hgo _; have HO8 := Lib.hid hO8; have HX8 := Lib.hid ((HX7.out.alloc hs7 (.cells #[.int .i64 x] 3)).trans hB8); clear hO8 hB8 hg8 hgo)
            refine ⟨⟨k + 1, L ++ [x], rfl, by omega, by omega, Lib.hid (by rw [List.length_append, List.length_singleton]; have := HN.out; omega), HGN, ?_, HX8⟩, by simp [intOf]; omega⟩
            exact HO8
          · have HGN := Lib.hid (HG.out.skip hHk (show x < f by omega))
            have hxf' : x < f := by omega
            clear hHk hxf
            go_wp2_with fail
            exact ⟨⟨k + 1, L, rfl, by omega, by omega, Lib.hid (by have := HN.out; omega), HGN, HL7, HX7⟩, by simp [intOf]; omega⟩
        · have HD := Lib.hid (HGD.out k L HG.out g0 (fun a ea => by
            cases b with
            | false => rw [HAB.out.2 rfl] at ea; cases ea
            | true =>
              rw [HAB.out.1 rfl] at ea
              cases ea
              have : ¬ x < t := fun h => hb ⟨rfl, h⟩
              omega))
          have hlen : L.length ≤ 900000 := by have := HN.out; omega
          obtain ⟨B, cc, rfl, -, -, hI⟩ := HL7.out.shape
          have HI := Lib.hid hI
          clear hI
          cases b with
          | false =>
            clear hb
            go_wp2_with fail
            go_ret2
            exact ⟨L, 0, B, cc, rfl, ⟨fun h => (by cases h), fun _ h => absurd ⟨hq2.1, by omega, hq2.2.1, hq2.2.2.1, hq2.2.2.2⟩ h, fun _ _ => ⟨rfl, HD.out⟩⟩, HI.out, hlen, HW7.out⟩
          | true =>
            have hxt : t ≤ x := by
              have : ¬ x < t := fun h => hb ⟨rfl, h⟩
              omega
            clear hb
            go_wp2_with fail
            go_ret2
            exact ⟨L, 0, B, cc, rfl, ⟨fun h => (by cases h), fun _ h => absurd ⟨hq2.1, by omega, hq2.2.1, hq2.2.2.1, hq2.2.2.2⟩ h, fun _ _ => ⟨rfl, HD.out⟩⟩, HI.out, hlen, HW7.out⟩
end Go.Proofs.YthaacmmkignocaaDoor
