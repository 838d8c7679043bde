/- Package zone's ToLocal and stretches. -/
import Derived.Test.YtndngkfiamdohaaDoorZne
namespace Go.Proofs.YtndngkfiamdohaaDoor
open Go.RowKit
set_option linter.unusedVariables false
set_option maxRecDepth 100000
set_option linter.unusedSimpArgs false

theorem offAt_bd {off : Int} {ts : Zn.L} (x : Int) (h : Zn.okO off = true) (h2 : ∀ y ∈ ts, Zn.okO y.2 = true) : Zn.okO (Zn.offAt off ts x) = true := by
  induction ts generalizing off with
  | nil => exact h
  | cons y t ih =>
    obtain ⟨a, o⟩ := y
    rw [Zn.offAt]
    split
    · exact ih (h2 (a, o) (by simp)) (fun y hy => h2 y (by simp [hy]))
    · exact h
/-- The local time of x. -/
def locV (off : Int) (ts : Zn.L) (er x : Int) : Int × Int := if offE er x ≠ 0 then (0, 0) else Zn.toL (x + offV off ts er x)

set_option maxHeartbeats 4000000 in
theorem toLocal_is {off : Int} {rs : List Zn.Rule} {ts : Zn.L} {er : Int} (h : Zn.trans off rs = (ts, er)) (s : ByteArray) (A : Option Addr) (n c : Nat) (x : Int) (w : World) (hz : ZIn w A n rs) (ho : I64 off) :
    Calls Tryd.prog 40 #[.agg #[.string s, .int .i64 off, .slice A n c], .int .i64 x] w fun e w' => e = .returned (.tuple #[.agg #[.int .i64 (locV off ts er x).1, .int .i64 (locV off ts er x).2], .int .i64 (offE er x)]) ∧ Below w.heap.size w w' := by
  have C := offAt_is h s A n c x _ ((hz.alloc (.cells #[.string s, .int .i64 off, .slice A n c] 32)).alloc (.cells #[.int .i64 0, .int .i64 0] 76)) ho
  by_cases he : offE er x = 0
  · have hlv : locV off ts er x = Zn.toL (x + offV off ts er x) := by unfold locV; rw [if_neg (by simpa using he)]
    have hb : 0 ≤ x ∧ x ≤ 8589934592 ∧ -64800 ≤ offV off ts er x ∧ offV off ts er x ≤ 64800 := by
      unfold offE at he
      by_cases h0 : er = 0
      · subst h0
        by_cases hx : x < 0 ∨ 8589934592 < x
        · simp [hx] at he
        · obtain ⟨k1, k2, k3, k4, k5, k6, k7, k8⟩ := Zn.trans_ok h
          have := offAt_bd x k1 k8
          rw [Zn.okO_iff] at this
          have hv : offV off ts 0 x = Zn.offAt off ts x := by unfold offV; simp [hx]
          rw [hv]; omega
      · simp [h0] at he
    rw [he] at C ⊢
    generalize offV off ts er x = o at C hlv hb
    obtain ⟨b1, b2, b3, b4⟩ := hb
    have q1 : 0 ≤ x + o + 86400 := by omega
    have hl1 : (locV off ts er x).1 = (x + o + 86400) / 86400 - 1 := by rw [hlv]; unfold Zn.toL; simp only; omega
    have hl2 : (locV off ts er x).2 = (x + o + 86400) % 86400 := by rw [hlv]; unfold Zn.toL; simp only; omega
    rw [hl1, hl2]
    have HC := Lib.hid C
    clear hlv C hl1 hl2 hz h he
    go_enter Tryd.func40, Tryd.ntmps40
    go_wp2_with fail
    refine HC.out.mono ?_
    rintro e w1 ⟨rfl, hb⟩
    have B := BlkAt.after (BlkAt.new (w.alloc (.cells #[.string s, .int .i64 off, .slice A n c] 32)) #[.int .i64 0, .int .i64 0] 76) hb
    rw [show (w.alloc (.cells #[.string s, .int .i64 off, .slice A n c] 32)).heap.size = w.heap.size + 1 by simp] at B
    have e0 := BlkAt.cell B (i := 0) rfl
    have e1 := BlkAt.cell B (i := 1) rfl
    have f0 := BlkAt.free B 0
    have f1 := BlkAt.free B 1
    have hzz := BlkAt.lt_ B
    have HB := Lib.hid (two_boxes hb)
    clear B hb
    go_wp2_with fail
    refine bodyPost_ret (v := .tuple #[.agg #[.int .i64 ((x + o + 86400) / 86400 - 1), .int .i64 ((x + o + 86400) % 86400)], .int .i64 0]) (by simp [results, Tryd.results40, go_sem, e0, e1, f0, f1, hzz]) rfl ⟨rfl, ?_⟩
    exact (HB.out.setCell (by simp) _).setCell (by simp) _
  · have hlv : locV off ts er x = (0, 0) := by unfold locV; rw [if_pos he]
    rw [hlv]
    have hne : (offE er x != 0) = true := by simpa using he
    generalize offE er x = ee at C hne ⊢
    generalize offV off ts er x = o at C
    have HC := Lib.hid C
    clear hlv C hz h he
    go_enter Tryd.func40, Tryd.ntmps40
    go_wp2_with fail
    refine HC.out.mono ?_
    rintro e w1 ⟨rfl, hb⟩
    have B := BlkAt.after (BlkAt.new (w.alloc (.cells #[.string s, .int .i64 off, .slice A n c] 32)) #[.int .i64 0, .int .i64 0] 76) hb
    rw [show (w.alloc (.cells #[.string s, .int .i64 off, .slice A n c] 32)).heap.size = w.heap.size + 1 by simp] at B
    have e0 := BlkAt.cell B (i := 0) rfl
    have e1 := BlkAt.cell B (i := 1) rfl
    have f0 := BlkAt.free B 0
    have f1 := BlkAt.free B 1
    have hzz := BlkAt.lt_ B
    have HB := Lib.hid (two_boxes hb)
    clear B hb
    go_wp2_with fail
    refine bodyPost_ret (v := .tuple #[.agg #[.int .i64 0, .int .i64 0], .int .i64 ee]) (by simp [results, Tryd.results40, go_sem, e0, e1, f0, f1, hzz]) rfl ⟨rfl, ?_⟩
    exact (HB.out.setCell (by simp) _).setCell (by simp) _
end Go.Proofs.YtndngkfiamdohaaDoor
