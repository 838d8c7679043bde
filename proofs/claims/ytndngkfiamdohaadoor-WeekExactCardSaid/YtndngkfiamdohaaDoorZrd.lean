/- The reference's Check, Horizon, OffsetAt and ToLocal. -/
import Derived.Test.YtndngkfiamdohaaDoorZrc
namespace Go.Proofs.YtndngkfiamdohaaDoor
open Go.RowKit
set_option linter.unusedVariables false
set_option maxRecDepth 100000
set_option linter.unusedSimpArgs false

set_option maxHeartbeats 2000000 in
theorem roffset_any (s : ByteArray) (off : Int) (A : Option Addr) (n c : Nat) (B : Option Addr) (m d : Nat) (ts : Zn.L) (x : Int) (w : World) (hP : PairsAt w B ts) (hm : ts.length = m) (h640 : m ≤ 640) :
    Calls Tryd.prog 51 #[.agg #[.string s, .int .i64 off, .slice A n c], .slice B m d, .int .i64 x] w fun e w' => e = .returned (.int .i64 (Zn.offAt off ts x)) ∧ Below w.heap.size w w' := by
  have HP := Lib.hid hP
  have HM := Lib.hid hm
  obtain ⟨r, hr⟩ : ∃ r, Zn.offAt off ts x = r := ⟨_, rfl⟩
  have HR : Hid (Zn.offAt off (ts.drop 0) x = r) := Lib.hid hr
  rw [hr]
  clear hP hm hr
  go_enter Tryd.func51, Tryd.ntmps51
  go_wp2_with fail
  go_loopw [7, 8] (fun vn vi wr => ∃ (k : Nat) (nn : Int), k ≤ m ∧ vi = .int .i64 k ∧ vn = .int .i64 nn ∧ Hid (Zn.offAt nn (ts.drop k) x = r) ∧ Hid (Below w.heap.size w wr)) (fun _ i _ => m - (intOf i).toNat)
  case atStart => exact ⟨0, off, Nat.zero_le _, rfl, rfl, HR, Lib.hid ((Below.refl _ _).alloc (Nat.le_refl _) _)⟩
  case round =>
    clear HR
    obtain ⟨k, nn, hk, rfl, rfl, HO, HB⟩ := hrel
    by_cases hlt : k < m
    · obtain ⟨⟨a, o⟩, hx⟩ := get_ex (xs := ts) (i := k) (by have := HM.out; omega)
      obtain ⟨b, of, rfl, hb, hc⟩ := (HP.out.below HB.out) (by have := HM.out; omega)
      obtain ⟨c0, c1⟩ := pair_cells (hc k _ hx)
      simp only at c0 c1
      have hst := offAt_drop (n := nn) (x := x) hx
      rw [HO.out] at hst
      have HST := Lib.hid hst
      have p1 : (0 : Int) ≤ k := by omega
      have p2 : (k : Int) < m := by omega
      clear hc hx hst HO
      by_cases ha : a ≤ x
      · have e := HST.out
        rw [if_pos ha] at e
        have HE := Lib.hid e.symm
        have t1 : decide (a ≤ x) = true := decide_eq_true ha
        clear e HST
        go_wp2_with fail
        go_roundw
        case rel => exact ⟨k + 1, o, by omega, by go_num, rfl, HE, HB⟩
        case measure => simp [intOf]; omega
      · have e := HST.out
        rw [if_neg ha] at e
        have HE := Lib.hid e
        have t1 : decide (a ≤ x) = false := decide_eq_false ha
        clear e HST
        go_wp2_with fail
        go_ret
        exact ⟨ret_int HE.out.symm, HB.out⟩
    · have hkk : ts.drop k = [] := List.drop_of_length_le (by have := HM.out; omega)
      have e := HO.out
      rw [hkk] at e
      have HE := Lib.hid (show nn = r from e)
      clear hkk e HO
      go_wp2_with fail
      go_ret
      exact ⟨ret_int HE.out, HB.out⟩

set_option maxHeartbeats 4000000 in
theorem roffAt_is {off : Int} {rs : List Zn.Rule} {ts : Zn.L} {er : Int} (h : Zn.trans off rs = (ts, er)) (s : ByteArray) (A : Option Addr) (n c : Nat) (x : Int) (w : World) (hz : ZIn w A n rs) (ho : I64 off) :
    Calls Tryd.prog 32 #[.agg #[.string s, .int .i64 off, .slice A n c], .int .i64 x] w fun e w' => e = .returned (.tuple #[.int .i64 (offV off ts er x), .int .i64 (offE er x)]) ∧ Below w.heap.size w w' := by
  have C := Lib.hid (rtrans_is h s A n c _ (hz.alloc (.cells #[.string s, .int .i64 off, .slice A n c] 32)) ho)
  clear hz
  by_cases he : er = 0
  · subst he
    by_cases hx : x < 0 ∨ 8589934592 < x
    · have hv := Lib.hid (show offV off ts 0 x = 0 ∧ offE 0 x = 1 by unfold offV offE; simp [hx])
      have H1 := Lib.hid (fun W => in_is (inB_no (n := x) (lo := 0) (hi := 8589934592) hx) W)
      clear h hx
      go_enter Tryd.func32, Tryd.ntmps32
      go_wp2_with fail
      refine C.out.mono ?_
      rintro e w1 ⟨A1, c1, rfl, hP, hb⟩
      go_wp2_with (go_at_call 50; refine (H1.out _).mono ?_; rintro e w' ⟨rfl, rfl⟩)
      go_ret2
      exact ⟨by rw [hv.out.1, hv.out.2]; rfl, below_alloc_call hb⟩
    · obtain ⟨k1, k2, k3, k4, k5, k6, k7, k8⟩ := Zn.trans_ok h
      have hv := Lib.hid (show offV off ts 0 x = Zn.offAt off ts x ∧ offE 0 x = 0 by unfold offV offE; simp [hx])
      have H1 := Lib.hid (fun W => in_is (inB_yes (n := x) (lo := 0) (hi := 8589934592) (by omega) (by omega)) W)
      obtain ⟨q, hq⟩ : ∃ q, ts.length = q := ⟨_, rfl⟩
      have q640 : q ≤ 640 := by omega
      have HQ := Lib.hid hq
      clear h hx k1 k2 k3 k4 k5 k6 k7 k8
      go_enter Tryd.func32, Tryd.ntmps32
      go_wp2_with fail
      refine C.out.mono ?_
      rintro e w1 ⟨A1, c1, rfl, hP, hb⟩
      rw [hq]
      have Z1 : ZBlk w1 w.heap.size s off A n c := BlkAt.after (BlkAt.new _ _ _) hb
      obtain ⟨z0, z1, z2⟩ := ZBlk.cells Z1
      have HB := Lib.hid (below_alloc_call hb)
      have C2 := Lib.hid (roffset_any s off A n c A1 q c1 ts x w1 hP HQ.out q640)
      clear hb hP hq Z1
      go_wp2_with (go_at_call 50; refine (H1.out _).mono ?_; rintro e w' ⟨rfl, rfl⟩)
      refine C2.out.mono ?_
      rintro e w2 ⟨rfl, b2⟩
      go_wp2_with fail
      go_ret2
      exact ⟨by rw [hv.out.1, hv.out.2]; rfl, bstep HB.out b2⟩
  · have hv := Lib.hid (show offV off ts er x = 0 ∧ offE er x = 8 by unfold offV offE; simp [he])
    have hne : (er != 0) = true := by simpa using he
    clear h he
    go_enter Tryd.func32, Tryd.ntmps32
    go_wp2_with fail
    refine C.out.mono ?_
    rintro e w1 ⟨A1, c1, rfl, hP, hb⟩
    go_wp2_with fail
    go_ret2
    exact ⟨by rw [hv.out.1, hv.out.2]; rfl, below_alloc_call hb⟩

set_option maxHeartbeats 1000000 in
theorem rlocal_any (t o : Int) (w : World) (h1 : -100000 ≤ t + o) (h2 : t + o ≤ 9000000000) (h3 : I64 t) (h4 : I64 o) :
    Calls Tryd.prog 59 #[.int .i64 t, .int .i64 o] w fun e w' => e = .returned (.agg #[.int .i64 (Zn.toL (t + o)).1, .int .i64 (Zn.toL (t + o)).2]) ∧ Below w.heap.size w w' := by
  obtain ⟨v, hv⟩ : ∃ v, t + o = v := ⟨_, rfl⟩
  have s1 : IntKind.i64.wrap (t + o) = v := by rw [hv, IntKind.wrap_i64]; omega
  have s2 : IntKind.i64.wrap (v + 864000) = v + 864000 := by rw [IntKind.wrap_i64]; omega
  have q1 : 0 ≤ v + 864000 := by omega
  have l1 : (Zn.toL (t + o)).1 = (v + 864000) / 86400 - 10 := by rw [hv]; unfold Zn.toL; simp only; omega
  have l2 : (Zn.toL (t + o)).2 = (v + 864000) % 86400 := by rw [hv]; unfold Zn.toL; simp only; omega
  rw [l1, l2]
  have v1 : v ≤ 9000000000 := by omega
  clear l1 l2 h1 h2
  go_enter Tryd.func59, Tryd.ntmps59
  go_wp2_with fail
  refine bodyPost_ret (v := .agg #[.int .i64 ((v + 864000) / 86400 - 10), .int .i64 ((v + 864000) % 86400)]) (by simp [results, Tryd.results59, go_sem]) rfl ⟨rfl, ?_⟩
  first | exact (Below.refl _ _).alloc (Nat.le_refl _) _ | exact (((Below.refl _ _).alloc (Nat.le_refl _) _).setCell (by exact Nat.le_refl _) _).setCell (by exact Nat.le_refl _) _

set_option maxHeartbeats 4000000 in
theorem rtoLocal_is {off : Int} {rs : List Zn.Rule} {ts : Zn.L} {er : Int} (h : Zn.trans off rs = (ts, er)) (s : ByteArray) (A : Option Addr) (n c : Nat) (x : Int) (w : World) (hz : ZIn w A n rs) (ho : I64 off) :
    Calls Tryd.prog 42 #[.agg #[.string s, .int .i64 off, .slice A n c], .int .i64 x] w fun e w' => e = .returned (.tuple #[.agg #[.int .i64 (locV off ts er x).1, .int .i64 (locV off ts er x).2], .int .i64 (offE er x)]) ∧ Below w.heap.size w w' := by
  have C := roffAt_is h s A n c x _ ((hz.alloc (.cells #[.string s, .int .i64 off, .slice A n c] 32)).alloc (.cells #[.int .i64 0, .int .i64 0] 76)) ho
  by_cases he : offE er x = 0
  · have hlv : locV off ts er x = Zn.toL (x + offV off ts er x) := by unfold locV; rw [if_neg (by simpa using he)]
    have hb : 0 ≤ x ∧ x ≤ 8589934592 ∧ -64800 ≤ offV off ts er x ∧ offV off ts er x ≤ 64800 := by
      unfold offE at he
      by_cases h0 : er = 0
      · subst h0
        by_cases hx : x < 0 ∨ 8589934592 < x
        · simp [hx] at he
        · obtain ⟨k1, k2, k3, k4, k5, k6, k7, k8⟩ := Zn.trans_ok h
          have := offAt_bd x k1 k8
          rw [Zn.okO_iff] at this
          have hv : offV off ts 0 x = Zn.offAt off ts x := by unfold offV; simp [hx]
          rw [hv]; omega
      · simp [h0] at he
    rw [he] at C ⊢
    rw [hlv]
    generalize offV off ts er x = o at C hlv hb
    have CL := fun W => rlocal_any x o W (by omega) (by omega) ⟨by omega, by omega⟩ ⟨by omega, by omega⟩
    generalize Zn.toL (x + o) = l at CL ⊢
    obtain ⟨l0, l1⟩ := l
    simp only at CL ⊢
    have HC := Lib.hid C
    have HCL := Lib.hid CL
    clear hlv C CL hz h he hb
    go_enter Tryd.func42, Tryd.ntmps42
    go_wp2_with fail
    refine HC.out.mono ?_
    rintro e w1 ⟨rfl, hb⟩
    go_wp2_with fail
    refine (HCL.out _).mono ?_
    rintro e w2 ⟨rfl, hb2⟩
    have B := BlkAt.after (BlkAt.after (BlkAt.new (w.alloc (.cells #[.string s, .int .i64 off, .slice A n c] 32)) #[.int .i64 0, .int .i64 0] 76) hb) hb2
    rw [show (w.alloc (.cells #[.string s, .int .i64 off, .slice A n c] 32)).heap.size = w.heap.size + 1 by simp] at B
    have e0 := BlkAt.cell B (i := 0) rfl
    have e1 := BlkAt.cell B (i := 1) rfl
    have f0 := BlkAt.free B 0
    have f1 := BlkAt.free B 1
    have hzz := BlkAt.lt_ B
    have HB := Lib.hid (bstep (two_boxes hb) hb2)
    clear B hb hb2
    go_wp2_with fail
    refine bodyPost_ret (v := .tuple #[.agg #[.int .i64 l0, .int .i64 l1], .int .i64 0]) (by simp [results, Tryd.results42, go_sem, e0, e1, f0, f1, hzz]) rfl ⟨rfl, ?_⟩
    exact (HB.out.setCell (by simp) _).setCell (by simp) _
  · have hlv : locV off ts er x = (0, 0) := by unfold locV; rw [if_pos he]
    rw [hlv]
    have hne : (offE er x != 0) = true := by simpa using he
    generalize offE er x = ee at C hne ⊢
    generalize offV off ts er x = o at C
    have HC := Lib.hid C
    clear hlv C hz h he
    go_enter Tryd.func42, Tryd.ntmps42
    go_wp2_with fail
    refine HC.out.mono ?_
    rintro e w1 ⟨rfl, hb⟩
    have B := BlkAt.after (BlkAt.new (w.alloc (.cells #[.string s, .int .i64 off, .slice A n c] 32)) #[.int .i64 0, .int .i64 0] 76) hb
    rw [show (w.alloc (.cells #[.string s, .int .i64 off, .slice A n c] 32)).heap.size = w.heap.size + 1 by simp] at B
    have e0 := BlkAt.cell B (i := 0) rfl
    have e1 := BlkAt.cell B (i := 1) rfl
    have f0 := BlkAt.free B 0
    have f1 := BlkAt.free B 1
    have hzz := BlkAt.lt_ B
    have HB := Lib.hid (two_boxes hb)
    clear B hb
    go_wp2_with fail
    refine bodyPost_ret (v := .tuple #[.agg #[.int .i64 0, .int .i64 0], .int .i64 ee]) (by simp [results, Tryd.results42, go_sem, e0, e1, f0, f1, hzz]) rfl ⟨rfl, ?_⟩
    exact (HB.out.setCell (by simp) _).setCell (by simp) _
end Go.Proofs.YtndngkfiamdohaaDoor
