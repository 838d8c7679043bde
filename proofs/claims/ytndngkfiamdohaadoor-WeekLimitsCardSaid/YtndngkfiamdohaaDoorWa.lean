/- Package week: Check and Length. -/
import Derived.Test.YtndngkfiamdohaaDoorWk
import Derived.Test.YtndngkfiamdohaaDoorZnd
namespace Go.Proofs.YtndngkfiamdohaaDoor
open Go.RowKit
set_option linter.unusedVariables false
set_option linter.unusedSimpArgs false
set_option maxRecDepth 100000

theorem kWin : KindOk 22 24 2 ePair := ⟨Tryd.underlying22, by obtain ⟨i, a, b, c, d⟩ := info_parts (show (Tryd.prog.info? 24).map (fun i => (i.zero, i.size, i.bytes)) = some (some (.agg #[.int .i64 0, .int .i64 0]), 2, 16) by kernel_rfl); exact ⟨i, _, _, a, b, c, d, rfl, by omega⟩, by omega, fun _ _ => rfl⟩
theorem kSpn : KindOk 26 38 2 ePair := ⟨Tryd.underlying26, by obtain ⟨i, a, b, c, d⟩ := info_parts (show (Tryd.prog.info? 38).map (fun i => (i.zero, i.size, i.bytes)) = some (some (.agg #[.int .i64 0, .int .i64 0]), 2, 16) by kernel_rfl); exact ⟨i, _, _, a, b, c, d, rfl, by omega⟩, by omega, fun _ _ => rfl⟩
/-- What is known of a list of windows that comes to a call. -/
structure WIn (w : World) (A : Option Addr) (n : Nat) (l : Wk.L) : Prop where
  at_ : PairsAt w A l
  len : l.length = n
  le : n ≤ 9223372036854775807
theorem WIn.below {w w' : World} {A : Option Addr} {n : Nat} {l : Wk.L} (h : WIn w A n l) (hb : Below w.heap.size w w') : WIn w' A n l := ⟨h.at_.below hb, h.len, h.le⟩
theorem WIn.alloc {w : World} {A : Option Addr} {n : Nat} {l : Wk.L} (h : WIn w A n l) (o : Obj) : WIn (w.alloc o) A n l := h.below ((Below.refl _ _).alloc (Nat.le_refl _) _)
theorem WIn.drewN {w : World} {A : Option Addr} {n : Nat} {l : Wk.L} (h : WIn w A n l) (q : Nat) : WIn (w.drewN q) A n l := ⟨h.at_, h.len, h.le⟩
theorem WIn.get {w : World} {A : Option Addr} {n : Nat} {l : Wk.L} (h : WIn w A n l) {k : Nat} (hk : k < n) :
    ∃ (a b : Int) (bl of : Nat), l[k]? = some (a, b) ∧ A = some ⟨bl, of, none⟩ ∧ bl < w.heap.size ∧ w.cell? ⟨bl, of + k * 2, none⟩ = some (.int .i64 a) ∧ w.cell? ⟨bl, of + k * 2 + 1, none⟩ = some (.int .i64 b) := by
  obtain ⟨⟨a, b⟩, hx⟩ := get_ex (xs := l) (i := k) (by have := h.len; omega)
  obtain ⟨bl, of, e, hb, hc⟩ := h.at_ (by have := h.len; omega)
  obtain ⟨c0, c1⟩ := pair_cells (hc k _ hx)
  exact ⟨a, b, bl, of, hx, e, hb, c0, c1⟩

set_option maxHeartbeats 4000000 in
theorem wchk_any (A : Option Addr) (n c : Nat) (l : Wk.L) (w : World) (hA : WIn w A n l) :
    Calls Tryd.prog 11 #[.slice A n c] w fun e w' => e = .returned (.int .i64 (Wk.chk l)) ∧ Below w.heap.size w w' := by
  by_cases h14 : 14 < (n : Int)
  · have hv : Wk.chk l = 5 := by unfold Wk.chk; rw [if_pos (by have := hA.len; omega)]
    rw [hv]
    clear hA hv
    go_enter Tryd.func11, Tryd.ntmps11
    go_wp2_with fail
    go_ret
    exact ⟨rfl, Below.refl _ _⟩
  · obtain ⟨R, hR⟩ : ∃ R, Wk.chk l = R := ⟨_, rfl⟩
    have hR2 : Wk.chkF 0 l = R := by rw [← hR]; unfold Wk.chk; rw [if_neg (by have := hA.len; omega)]
    rw [hR]
    have HR := Lib.hid hR2
    have HA := Lib.hid hA
    have hn14 : n ≤ 14 := by omega
    clear hR hR2 hA
    go_enter Tryd.func11, Tryd.ntmps11
    go_wp2_with fail
    go_loopw [3, 11] (fun ve i wr => ∃ (k : Nat) (en : Int), k ≤ n ∧ i = .int .i64 k ∧ ve = .int .i64 en ∧ Hid (Wk.chkF en (l.drop k) = R) ∧ Hid (Below w.heap.size w wr)) (fun _ i _ => n - (intOf i).toNat)
    case atStart => exact ⟨0, 0, Nat.zero_le _, rfl, rfl, HR, Lib.hid (Below.refl _ _)⟩
    case round =>
      clear HR
      obtain ⟨k, en, hk, rfl, rfl, HR, HB⟩ := hrel
      by_cases hlt : k < n
      · obtain ⟨a, b, bl, of, hx, rfl, hb, c0, c1⟩ := (HA.out.below HB.out).get hlt
        have hrz := HB.out.size
        have hst := HR.out
        rw [drop_cons' hx, Wk.chkF] at hst
        simp only at hst
        have HST := Lib.hid hst
        clear hx hst HR
        by_cases h1 : a < 0
        · obtain rfl : R = 1 := by have := HST.out; rw [if_pos (by omega)] at this; exact this.symm
          go_wp2_with fail
          go_ret
          exact ⟨rfl, HB.out.alloc hrz _⟩
        by_cases h2 : b ≤ a
        · obtain rfl : R = 1 := by have := HST.out; rw [if_pos (by omega)] at this; exact this.symm
          go_wp2_with fail
          go_ret
          exact ⟨rfl, HB.out.alloc hrz _⟩
        by_cases h3 : 604800 < b
        · obtain rfl : R = 1 := by have := HST.out; rw [if_pos (by omega)] at this; exact this.symm
          go_wp2_with fail
          go_ret
          exact ⟨rfl, HB.out.alloc hrz _⟩
        by_cases h4 : a < en
        · obtain rfl : R = 6 := by have := HST.out; rw [if_neg (by omega), if_pos h4] at this; exact this.symm
          go_wp2_with fail
          go_ret
          exact ⟨rfl, HB.out.alloc hrz _⟩
        · have N := Lib.hid (show Wk.chkF b (l.drop (k + 1)) = R by have := HST.out; rw [if_neg (by omega), if_neg h4] at this; exact this)
          clear HST
          go_wp2_with fail
          go_roundw
          case rel => exact ⟨k + 1, b, by omega, by go_num, rfl, N, Lib.hid (HB.out.alloc hrz _)⟩
          case measure => simp [intOf]; omega
      · obtain rfl : R = 0 := by have := HR.out; rw [List.drop_of_length_le (by have := HA.out.len; omega)] at this; exact this.symm
        go_wp2_with fail
        go_ret
        exact ⟨rfl, HB.out⟩
theorem wchk_is {l : Wk.L} {R : Int} (h : Wk.chk l = R) (A : Option Addr) (n c : Nat) (w : World) (hA : WIn w A n l) :
    Calls Tryd.prog 11 #[.slice A n c] w fun e w' => e = .returned (.int .i64 R) ∧ Below w.heap.size w w' := h ▸ wchk_any A n c l w hA

theorem lens_snoc (l : Wk.L) (x : Int × Int) : Wk.lenS (l ++ [x]) = Wk.lenS l + (x.2 - x.1) := by rw [Wk.lenS_app]; simp [Wk.lenS]
theorem lens_bd {l : Wk.L} (h : Wk.chk l = 0) (k : Nat) : 0 ≤ Wk.lenS (l.take k) ∧ Wk.lenS (l.take k) ≤ 604800 := by
  have h1 := (Wk.chk_ok h).1
  have h2 := Wk.lenS_app (l.take k) (l.drop k)
  rw [List.take_append_drop] at h2
  have h3 : Wk.Rt 0 (l.take k) := by
    clear h2 h
    generalize (0 : Int) = e at h1
    induction k generalizing l e with
    | zero => exact trivial
    | succ k ih =>
      match l, h1 with
      | [], _ => exact trivial
      | x :: t, ⟨a, b, c, d⟩ => exact ⟨a, b, c, ih _ d⟩
  have := h3.lens
  omega

set_option maxHeartbeats 4000000 in
theorem wlen_any (A : Option Addr) (n c : Nat) (l : Wk.L) (w : World) (hA : WIn w A n l) :
    Calls Tryd.prog 12 #[.slice A n c] w fun e w' => e = .returned (.int .i64 (Wk.lenW l)) ∧ Below w.heap.size w w' := by
  have hC := wchk_any A n c l w hA
  by_cases hc : Wk.chk l = 0
  · have hl : Wk.lenW l = Wk.lenS l := by unfold Wk.lenW; rw [if_pos hc]
    have hbd := lens_bd hc
    have hmem := fun x h => (Wk.chk_ok hc).1.mem x h
    have hn14 : n ≤ 14 := by have := (Wk.chk_ok hc).2; have := hA.len; omega
    rw [hc] at hC
    rw [hl]
    have HA := Lib.hid hA
    have HC := Lib.hid hC
    have HBD := Lib.hid hbd
    have HM := Lib.hid hmem
    clear hA hC hbd hc hl hmem
    go_enter Tryd.func12, Tryd.ntmps12
    go_wp2_with fail
    refine HC.out.mono ?_
    rintro e w1 ⟨rfl, b1⟩
    have HB1 := Lib.hid b1
    clear b1 HC
    go_wp2_with fail
    go_loopw [3, 11] (fun vs i wr => ∃ (k : Nat) (s : Int), k ≤ n ∧ i = .int .i64 k ∧ vs = .int .i64 s ∧ Hid (Wk.lenS (l.take k) = s) ∧ Hid (Below w.heap.size w wr)) (fun _ i _ => n - (intOf i).toNat)
    case atStart => exact ⟨0, 0, Nat.zero_le _, rfl, rfl, Lib.hid rfl, HB1⟩
    case round =>
      clear HB1
      obtain ⟨k, s, hk, rfl, rfl, HS, HB⟩ := hrel
      by_cases hlt : k < n
      · obtain ⟨a, b, bl, of, hx, rfl, hb, c0, c1⟩ := (HA.out.below HB.out).get hlt
        have hrz := HB.out.size
        have hm := HM.out _ (List.mem_of_getElem? hx)
        simp only at hm
        obtain ⟨m1, m2, m3⟩ := hm
        have hs := HBD.out k
        rw [HS.out] at hs
        have N := Lib.hid (show Wk.lenS (l.take (k + 1)) = s + (b - a) by rw [take_snoc' hx, lens_snoc, HS.out])
        clear hx HS
        go_wp2_with fail
        go_roundw
        case rel => exact ⟨k + 1, s + (b - a), by omega, by go_num, rfl, N, Lib.hid (HB.out.alloc hrz _)⟩
        case measure => simp [intOf]; omega
      · have hs := HS.out
        rw [List.take_of_length_le (by have := HA.out.len; omega)] at hs
        have HS2 := Lib.hid hs
        clear hs HS
        go_wp2_with fail
        go_ret
        exact ⟨ret_int HS2.out.symm, HB.out⟩
  · have hl : Wk.lenW l = 0 := by unfold Wk.lenW; rw [if_neg hc]
    have hne : (Wk.chk l != 0) = true := by simpa using hc
    rw [hl]
    obtain ⟨R, hR⟩ : ∃ R, Wk.chk l = R := ⟨_, rfl⟩
    rw [hR] at hC hne
    have HC := Lib.hid hC
    clear hA hC hl hR hc
    go_enter Tryd.func12, Tryd.ntmps12
    go_wp2_with fail
    refine HC.out.mono ?_
    rintro e w1 ⟨rfl, b1⟩
    go_wp2_with fail
    go_ret
    exact ⟨rfl, b1⟩
end Go.Proofs.YtndngkfiamdohaaDoor
