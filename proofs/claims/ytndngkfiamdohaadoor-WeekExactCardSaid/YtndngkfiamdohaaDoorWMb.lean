/- Plain facts on the reference's pieces and Join. No program is named here. The reference of windows: Check, Length, Within, Range. The reference of windows: Range, Second, In, Invert. The reference of windows: Invert. The reference of windows: piece and Join. The reference of windows: Times. -/
import Derived.Test.YtndngkfiamdohaaDoorWMa
import Derived.Deep.QuietTactic
import Derived.Test.YtndngkfiamdohaaDoorZrd
import Derived.Deep.DeepCutAuto
import Derived.Deep.RegionHeld3
namespace Go.Proofs.YtndngkfiamdohaaDoor
set_option linter.unusedVariables false
set_option linter.unusedSimpArgs false
namespace Wk
def pc (f t m : Int) : L → L
  | [] => []
  | w :: r => if max f (m + w.1) < min t (m + w.2) then (max f (m + w.1), min t (m + w.2)) :: pc f t m r else pc f t m r
def pcK (l : L) (f t : Int) : Nat → Int → L
  | 0, _ => []
  | k + 1, m => pc f t m l ++ pcK l f t k (m + 604800)
def pcR (l : L) (off f t : Int) : L := pcK l f t (wks (f - sow (f + off)) t) (f - sow (f + off))
def jn (s : L) (x : Int × Int) : L := match s.getLast? with
  | none => s ++ [x]
  | some y => if y.2 = x.1 then s.dropLast ++ [(y.1, x.2)] else s ++ [x]
def joinL (s xs : L) : L := xs.foldl jn s
theorem jn_add {s : L} {a b : Int} (h : a < b) : jn s (a, b) = addP s a b := by
  unfold jn addP; rw [if_neg (by omega)]; rfl
theorem join_pc (f t m : Int) : ∀ (l s : L), joinL s (pc f t m l) = addW l f t m s
  | [], s => rfl
  | w :: r, s => by
    unfold pc
    rw [show addW (w :: r) f t m s = addW r f t m (addP s (max (m + w.1) f) (min (m + w.2) t)) from rfl, Int.max_comm (m + w.1) f, Int.min_comm (m + w.2) t]
    split
    · rename_i h
      rw [show joinL s ((max f (m + w.1), min t (m + w.2)) :: pc f t m r) = joinL (jn s (max f (m + w.1), min t (m + w.2))) (pc f t m r) from rfl, jn_add h, join_pc f t m r]
    · rename_i h
      rw [join_pc f t m r, addP_skip (by omega)]
theorem joinL_app (s a b : L) : joinL s (a ++ b) = joinL (joinL s a) b := by unfold joinL; exact List.foldl_append
theorem join_pcK (l : L) (f t : Int) : ∀ (k : Nat) (m : Int) (s : L), joinL s (pcK l f t k m) = addK l f t k m s
  | 0, m, s => rfl
  | k + 1, m, s => by rw [pcK, joinL_app, join_pc, join_pcK l f t k, addK]
theorem join_pcR {l : L} {off f t : Int} {s : L} (h : f < t) : joinL s (pcR l off f t) = addR l off f t s := by
  unfold pcR addR; rw [if_neg (by omega), join_pcK]
theorem pc_len (f t m : Int) : ∀ l : L, (pc f t m l).length ≤ l.length
  | [] => Nat.le_refl _
  | w :: r => by
    have := pc_len f t m r
    unfold pc; split <;> simp <;> omega
theorem pcK_len (l : L) (f t : Int) : ∀ (k : Nat) (m : Int), (pcK l f t k m).length ≤ l.length * k
  | 0, m => by simp [pcK]
  | k + 1, m => by
    have h1 := pcK_len l f t k (m + 604800)
    have h2 := pc_len f t m l
    rw [pcK, List.length_append, Nat.mul_succ]; omega
theorem pcR_len {l : L} {off f t : Int} (hc : l.length ≤ 14) (hft : t - f ≤ 34560000) : (pcR l off f t).length ≤ 840 := by
  unfold pcR
  have h1 := pcK_len l f t (wks (f - sow (f + off)) t) (f - sow (f + off))
  have h2 := sow_bd (f + off)
  have h4 : wks (f - sow (f + off)) t ≤ 60 := by unfold wks; omega
  have h5 := Nat.mul_le_mul hc h4
  omega
theorem pcK_step {l : L} {f t m : Int} (h : m < t) : pcK l f t (wks m t) m = pc f t m l ++ pcK l f t (wks (m + 604800) t) (m + 604800) := by rw [wks_step h]; rfl
theorem pcK_done {l : L} {f t m : Int} (h : t ≤ m) : pcK l f t (wks m t) m = [] := by rw [wks_done h]; rfl
end Wk
end Go.Proofs.YtndngkfiamdohaaDoor
namespace Go.Proofs.YtndngkfiamdohaaDoor
open Go.RowKit
set_option linter.unusedVariables false
set_option linter.unusedSimpArgs false
set_option maxRecDepth 100000

set_option maxHeartbeats 4000000 in
theorem rwchk_any (A : Option Addr) (n c : Nat) (l : Wk.L) (w : World) (hA : WIn w A n l) :
    Calls Tryd.prog 22 #[.slice A n c] w fun e w' => e = .returned (.int .i64 (Wk.chk l)) ∧ Below w.heap.size w w' := by
  by_cases h14 : 14 < (n : Int)
  · have hv : Wk.chk l = 5 := by unfold Wk.chk; rw [if_pos (by have := hA.len; omega)]
    rw [hv]
    clear hA hv
    go_enter Tryd.func22, Tryd.ntmps22
    go_wp2_with fail
    go_ret
    exact ⟨rfl, Below.refl _ _⟩
  · obtain ⟨R, hR⟩ : ∃ R, Wk.chk l = R := ⟨_, rfl⟩
    have hR2 : Wk.chkF 0 l = R := by rw [← hR]; unfold Wk.chk; rw [if_neg (by have := hA.len; omega)]
    rw [hR]
    have HR := Lib.hid hR2
    have HA := Lib.hid hA
    have hn14 : n ≤ 14 := by omega
    clear hR hR2 hA
    go_enter Tryd.func22, Tryd.ntmps22
    go_wp2_with fail
    go_loopw [3] (fun i wr => ∃ (k : Nat) (x : Int), k ≤ n ∧ i = .int .i64 k ∧ Hid (Wk.chkF x (l.drop k) = R) ∧ Hid (k = 0 → x = 0) ∧ Hid (0 < k → ∃ p, l[k - 1]? = some (p, x)) ∧ Hid (Below w.heap.size w wr)) (fun i _ => n - (intOf i).toNat)
    case atStart => exact ⟨0, 0, Nat.zero_le _, rfl, HR, Lib.hid (fun _ => rfl), Lib.hid (fun h => absurd h (by omega)), Lib.hid (Below.refl _ _)⟩
    case round =>
      clear HR
      obtain ⟨k, x, hk, rfl, HR, HX0, HX1, HB⟩ := hrel
      by_cases hlt : k < n
      · have hW := HA.out.below HB.out
        obtain ⟨a, b, bl, of, hx, rfl, hb, c0, c1⟩ := hW.get hlt
        have hst := HR.out
        rw [drop_cons' hx, Wk.chkF] at hst
        simp only at hst
        have HST := Lib.hid hst
        have HGX := Lib.hid hx
        have hlt2 : (k : Int) < n := by omega
        have hk0 : (0 : Int) ≤ k := by omega
        clear hx hst HR
        by_cases hkz : k = 0
        · have HXZ := Lib.hid (HX0.out hkz)
          have dk : decide ((0 : Int) < k) = false := by simp; omega
          have dk2 : decide (0 < k) = false := by simp; omega
          clear hkz
          by_cases h1 : a < 0
          · have d1 : decide (a < 0) = true := decide_eq_true h1
            obtain rfl : R = 1 := by have := HST.out; rw [if_pos (by omega)] at this; exact this.symm
            go_wp2_with fail
            go_quiet (fail)
            go_wp2_with fail
            go_ret
            first | exact ⟨rfl, below_drewN HB.out _⟩ | exact ⟨rfl, below_drewN (below_drewN HB.out _) _⟩
          have d1 : decide (a < 0) = false := decide_eq_false h1
          by_cases h2 : b ≤ a
          · have d2 : decide (b ≤ a) = true := decide_eq_true h2
            obtain rfl : R = 1 := by have := HST.out; rw [if_pos (by omega)] at this; exact this.symm
            go_wp2_with fail
            go_quiet (fail)
            go_wp2_with fail
            go_ret
            first | exact ⟨rfl, below_drewN HB.out _⟩ | exact ⟨rfl, below_drewN (below_drewN HB.out _) _⟩
          have d2 : decide (b ≤ a) = false := decide_eq_false h2
          by_cases h3 : 604800 < b
          · have d3 : decide (604800 < b) = true := decide_eq_true h3
            obtain rfl : R = 1 := by have := HST.out; rw [if_pos (by omega)] at this; exact this.symm
            go_wp2_with fail
            go_quiet (fail)
            go_wp2_with fail
            go_ret
            first | exact ⟨rfl, below_drewN HB.out _⟩ | exact ⟨rfl, below_drewN (below_drewN HB.out _) _⟩
          have d3 : decide (604800 < b) = false := decide_eq_false h3
          have h4 : ¬ a < x := by have := HXZ.out; omega
          have N := Lib.hid (show Wk.chkF b (l.drop (k + 1)) = R by have := HST.out; rw [if_neg (by omega), if_neg h4] at this; exact this)
          have NX := Lib.hid (show 0 < k + 1 → ∃ p, l[k + 1 - 1]? = some (p, b) from fun _ => ⟨a, HGX.out⟩)
          go_wp2_with fail
          go_quiet (fail)
          go_wp2_with fail
          go_quiet (fail)
          go_wp2_with fail
          go_roundw
          case rel => exact ⟨k + 1, b, by omega, by go_num, N, Lib.hid (fun h => absurd h (by omega)), NX, Lib.hid (below_drewN HB.out _)⟩
          case measure => simp [intOf]; omega
        · obtain ⟨p, hp⟩ := HX1.out (by omega)
          obtain ⟨bl2, of2, e2, -, hc2⟩ := hW.at_ (by have := hW.len; omega)
          cases e2
          obtain ⟨-, e1⟩ := pair_cells (hc2 (k - 1) _ hp)
          simp only at e1
          have dk : decide ((0 : Int) < k) = true := by simp; omega
          have dk2 : decide (0 < k) = true := by simp; omega
          have hk1 : (0 : Int) ≤ (k : Int) - 1 := by omega
          have hk2 : (k : Int) - 1 < n := by omega
          have hk3 : ((k : Int) - 1).toNat = k - 1 := by omega
          clear hc2 hp
          by_cases h1 : a < 0
          · have d1 : decide (a < 0) = true := decide_eq_true h1
            obtain rfl : R = 1 := by have := HST.out; rw [if_pos (by omega)] at this; exact this.symm
            go_wp2_with fail
            go_quiet (fail)
            go_wp2_with fail
            go_ret
            first | exact ⟨rfl, below_drewN HB.out _⟩ | exact ⟨rfl, below_drewN (below_drewN HB.out _) _⟩
          have d1 : decide (a < 0) = false := decide_eq_false h1
          by_cases h2 : b ≤ a
          · have d2 : decide (b ≤ a) = true := decide_eq_true h2
            obtain rfl : R = 1 := by have := HST.out; rw [if_pos (by omega)] at this; exact this.symm
            go_wp2_with fail
            go_quiet (fail)
            go_wp2_with fail
            go_ret
            first | exact ⟨rfl, below_drewN HB.out _⟩ | exact ⟨rfl, below_drewN (below_drewN HB.out _) _⟩
          have d2 : decide (b ≤ a) = false := decide_eq_false h2
          by_cases h3 : 604800 < b
          · have d3 : decide (604800 < b) = true := decide_eq_true h3
            obtain rfl : R = 1 := by have := HST.out; rw [if_pos (by omega)] at this; exact this.symm
            go_wp2_with fail
            go_quiet (fail)
            go_wp2_with fail
            go_ret
            first | exact ⟨rfl, below_drewN HB.out _⟩ | exact ⟨rfl, below_drewN (below_drewN HB.out _) _⟩
          have d3 : decide (604800 < b) = false := decide_eq_false h3
          by_cases h4 : a < x
          · have d4 : decide (a < x) = true := decide_eq_true h4
            obtain rfl : R = 6 := by have := HST.out; rw [if_neg (by omega), if_pos h4] at this; exact this.symm
            go_wp2_with fail
            go_quiet (fail)
            go_wp2_with fail
            go_quiet (fail)
            go_wp2_with fail
            go_ret
            first | exact ⟨rfl, below_drewN HB.out _⟩ | exact ⟨rfl, below_drewN (below_drewN HB.out _) _⟩
          have d4 : decide (a < x) = false := decide_eq_false h4
          have N := Lib.hid (show Wk.chkF b (l.drop (k + 1)) = R by have := HST.out; rw [if_neg (by omega), if_neg h4] at this; exact this)
          have NX := Lib.hid (show 0 < k + 1 → ∃ p, l[k + 1 - 1]? = some (p, b) from fun _ => ⟨a, HGX.out⟩)
          go_wp2_with fail
          go_quiet (fail)
          go_wp2_with fail
          go_quiet (fail)
          go_wp2_with fail
          go_roundw
          case rel => exact ⟨k + 1, b, by omega, by go_num, N, Lib.hid (fun h => absurd h (by omega)), NX, Lib.hid (below_drewN HB.out _)⟩
          case measure => simp [intOf]; omega
      · obtain rfl : R = 0 := by have := HR.out; rw [List.drop_of_length_le (by have := HA.out.len; omega)] at this; exact this.symm
        go_wp2_with fail
        go_ret
        exact ⟨rfl, HB.out⟩

set_option maxHeartbeats 1000000 in
theorem rwithin_any (A : Option Addr) (n c : Nat) (l : Wk.L) (s : Int) (w : World) (hA : WIn w A n l) :
    Calls Tryd.prog 44 #[.slice A n c, .int .i64 s] w fun e w' => e = .returned (.bool (Wk.within l s)) ∧ Below w.heap.size w w' := by
  have HA := Lib.hid hA
  have hn := hA.le
  clear hA
  go_enter Tryd.func44, Tryd.ntmps44
  go_wp2_with fail
  go_loopw [5] (fun i wr => ∃ k : Nat, k ≤ n ∧ i = .int .i64 k ∧ Hid (Wk.within l s = Wk.within (l.drop k) s) ∧ Hid (Below w.heap.size w wr)) (fun i _ => n - (intOf i).toNat)
  case atStart => exact ⟨0, Nat.zero_le _, rfl, Lib.hid rfl, Lib.hid (Below.refl _ _)⟩
  case round =>
    obtain ⟨k, hk, rfl, HW, HB⟩ := hrel
    by_cases hlt : k < n
    · obtain ⟨a, b, bl, of, hx, rfl, hb, c0, c1⟩ := (HA.out.below HB.out).get hlt
      have hw := HW.out
      rw [drop_cons' hx, Wk.within_cons] at hw
      simp only at hw
      have HWW := Lib.hid hw
      clear hx hw HW
      by_cases h1 : a ≤ s
      · by_cases h2 : s < b
        · have HV := Lib.hid (show Wk.within l s = true by rw [HWW.out, decide_eq_true ⟨h1, h2⟩]; rfl)
          clear HWW
          go_wp2_with fail
          go_ret
          exact ⟨ret_bool HV.out.symm, HB.out⟩
        · have HV := Lib.hid (show Wk.within l s = Wk.within (l.drop (k + 1)) s by rw [HWW.out, decide_eq_false (by omega)]; rfl)
          clear HWW
          go_wp2_with fail
          go_roundw
          case rel => exact ⟨k + 1, by omega, by go_num, HV, HB⟩
          case measure => simp [intOf]; omega
      · have HV := Lib.hid (show Wk.within l s = Wk.within (l.drop (k + 1)) s by rw [HWW.out, decide_eq_false (by omega)]; rfl)
        clear HWW
        go_wp2_with fail
        go_roundw
        case rel => exact ⟨k + 1, by omega, by go_num, HV, HB⟩
        case measure => simp [intOf]; omega
    · have HV := Lib.hid (show Wk.within l s = false by rw [HW.out, List.drop_of_length_le (by have := HA.out.len; omega)]; rfl)
      go_wp2_with fail
      go_ret
      exact ⟨ret_bool HV.out.symm, HB.out⟩

set_option maxHeartbeats 4000000 in
theorem rwlen_any (A : Option Addr) (n c : Nat) (l : Wk.L) (w : World) (hA : WIn w A n l) :
    Calls Tryd.prog 23 #[.slice A n c] w fun e w' => e = .returned (.int .i64 (Wk.lenW l)) ∧ Below w.heap.size w w' := by
  have hC := fun W h => rwchk_any A n c l W h
  by_cases hc : Wk.chk l = 0
  · have hl : Wk.lenW l = Wk.lenS l := by unfold Wk.lenW; rw [if_pos hc]
    have hbd := lens_bd hc
    have hmem := fun x h => (Wk.chk_ok hc).1.mem x h
    have hn14 : n ≤ 14 := by have := (Wk.chk_ok hc).2; have := hA.len; omega
    rw [hc] at hC
    rw [hl]
    have HA := Lib.hid hA
    have HC := Lib.hid hC
    have HBD := Lib.hid hbd
    have HM := Lib.hid hmem
    clear hA hC hbd hc hl hmem
    go_enter Tryd.func23, Tryd.ntmps23
    go_wp2_with fail
    go_loopw [3, 4] (fun vs i wr => ∃ (k : Nat) (s : Int), k ≤ n ∧ i = .int .i64 k ∧ vs = .int .i64 s ∧ Hid (Wk.lenS (l.take k) = s) ∧ Hid (Below w.heap.size w wr)) (fun _ i _ => n - (intOf i).toNat)
    case atStart => exact ⟨0, 0, Nat.zero_le _, rfl, rfl, Lib.hid rfl, Lib.hid (Below.refl _ _)⟩
    case round =>
      obtain ⟨k, s, hk, rfl, rfl, HS, HB⟩ := hrel
      by_cases hlt : k < n
      · have hlt2 : (k : Int) < n := by omega
        have hk0 : (0 : Int) ≤ k := by omega
        go_wp2_with fail
        refine (HC.out wr (HA.out.below HB.out)).mono ?_
        rintro e w1 ⟨rfl, b1⟩
        have HB1 := Lib.hid (bstep HB.out b1)
        clear b1
        obtain ⟨a, b, bl, of, hx, rfl, hb, c0, c1⟩ := (HA.out.below HB1.out).get hlt
        have hm := HM.out _ (List.mem_of_getElem? hx)
        simp only at hm
        obtain ⟨m1, m2, m3⟩ := hm
        have hs := HBD.out k
        rw [HS.out] at hs
        obtain ⟨s1, s2⟩ := hs
        have N := Lib.hid (show Wk.lenS (l.take (k + 1)) = s + (b - a) by rw [take_snoc' hx, lens_snoc, HS.out])
        have e1 : IntKind.i64.wrap (b - a) = b - a := by rw [IntKind.wrap_i64]; omega
        have e2 : IntKind.i64.wrap (s + (b - a)) = s + (b - a) := by rw [IntKind.wrap_i64]; omega
        clear hx HS
        go_wp2_with fail
        go_quiet (fail)
        clear e1 e2
        go_wp2_with fail
        go_roundw
        case rel => exact ⟨k + 1, s + (b - a), by omega, by go_num, rfl, N, Lib.hid (below_drewN HB1.out _)⟩
        case measure => simp [intOf]; omega
      · have hs := HS.out
        rw [List.take_of_length_le (by have := HA.out.len; omega)] at hs
        have HS2 := Lib.hid hs
        clear hs HS
        go_wp2_with fail
        go_ret
        exact ⟨ret_int HS2.out.symm, HB.out⟩
  · have hl : Wk.lenW l = 0 := by unfold Wk.lenW; rw [if_neg hc]
    have h0' : 0 < n := by
      rcases Nat.eq_zero_or_pos n with h | h
      · exact absurd (by rw [List.eq_nil_of_length_eq_zero (hA.len.trans h)]; rfl) hc
      · exact h
    have h0 : (0 : Int) < n := by omega
    rw [hl]
    obtain ⟨R, hR⟩ : ∃ R, Wk.chk l = R := ⟨_, rfl⟩
    rw [hR] at hC hc
    have hne : (R == 0) = false := by simpa using hc
    have HC := Lib.hid (hC w hA)
    clear hA hC hl hR hc
    go_enter Tryd.func23, Tryd.ntmps23
    go_wp2_with fail
    refine wp_loop_rounds 1 ?_
    rw [rounds_succ]
    go_wp2_with fail
    refine HC.out.mono ?_
    rintro e w1 ⟨rfl, b1⟩
    go_wp2_with fail
    go_ret
    exact ⟨rfl, b1⟩
end Go.Proofs.YtndngkfiamdohaaDoor
namespace Go.Proofs.YtndngkfiamdohaaDoor
open Go.RowKit
set_option linter.unusedVariables false
set_option linter.unusedSimpArgs false
set_option maxRecDepth 100000

set_option maxHeartbeats 1000000 in
theorem rrange_any (f t : Int) (w : World) (hf : I64 f) (ht : I64 t) :
    Calls Tryd.prog 46 #[.int .i64 f, .int .i64 t] w fun e w' => e = .returned (.bool (okQ f t)) ∧ w = w' := by
  by_cases h1 : 0 ≤ f
  · by_cases h2 : f ≤ 8589934592
    · by_cases h3 : f ≤ t
      · by_cases h4 : t ≤ 8589934592
        · by_cases h5 : t - f ≤ 34560000
          · have hd := Lib.hid (show okQ f t = true by unfold okQ; exact decide_eq_true (by omega))
            go_enter Tryd.func46, Tryd.ntmps46
            go_wp2_with fail
            go_ret
            exact ⟨ret_bool (by rw [hd.out]), rfl⟩
          · have hd := Lib.hid (show okQ f t = false by unfold okQ; exact decide_eq_false (by omega))
            go_enter Tryd.func46, Tryd.ntmps46
            go_wp2_with fail
            go_ret
            exact ⟨ret_bool (by rw [hd.out]), rfl⟩
        · have hd := Lib.hid (show okQ f t = false by unfold okQ; exact decide_eq_false (by omega))
          go_enter Tryd.func46, Tryd.ntmps46
          go_wp2_with fail
          go_ret
          exact ⟨ret_bool (by rw [hd.out]), rfl⟩
      · have hd := Lib.hid (show okQ f t = false by unfold okQ; exact decide_eq_false (by omega))
        go_enter Tryd.func46, Tryd.ntmps46
        go_wp2_with fail
        go_ret
        exact ⟨ret_bool (by rw [hd.out]), rfl⟩
    · have hd := Lib.hid (show okQ f t = false by unfold okQ; exact decide_eq_false (by omega))
      go_enter Tryd.func46, Tryd.ntmps46
      go_wp2_with fail
      go_ret
      exact ⟨ret_bool (by rw [hd.out]), rfl⟩
  · have hd := Lib.hid (show okQ f t = false by unfold okQ; exact decide_eq_false (by omega))
    go_enter Tryd.func46, Tryd.ntmps46
    go_wp2_with fail
    go_ret
    exact ⟨ret_bool (by rw [hd.out]), rfl⟩

set_option maxHeartbeats 1000000 in
theorem rsecond_any (D S K : Int) (w : World) (hK : Civ.wd D = K) (d1 : -200000 ≤ D) (d2 : D ≤ 200000) (s1 : 0 ≤ S) (s2 : S < 86400) :
    Calls Tryd.prog 43 #[.agg #[.int .i64 D, .int .i64 S]] w fun e w' => e = .returned (.int .i64 (K * 86400 + S)) ∧ Below w.heap.size w w' := by
  have WD := fun W => hK ▸ rwday_any D W (by omega) (by omega)
  have hb := Civ.wd_bd D
  rw [hK] at hb
  obtain ⟨k1, k2⟩ := hb
  have HW := Lib.hid WD
  have e1 : IntKind.i64.wrap (K * 86400) = K * 86400 := by rw [IntKind.wrap_i64]; omega
  have e2 : IntKind.i64.wrap (K * 86400 + S) = K * 86400 + S := by rw [IntKind.wrap_i64]; omega
  clear WD hK
  go_enter Tryd.func43, Tryd.ntmps43
  go_wp2_with fail
  go_quiet ((go_at_call 60; exact qsame (HW.out _)))
  go_wp2_with fail
  go_ret
  exact ⟨rfl, below_drewN ((Below.refl _ _).alloc (Nat.le_refl _) _) _⟩

set_option maxHeartbeats 4000000 in
theorem rsec_is {off : Int} {rs : List Zn.Rule} {ts : Zn.L} {er : Int} (h : Zn.trans off rs = (ts, er)) (s : ByteArray) (A : Option Addr) (n c : Nat) (x : Int) (w : World) (hz : ZIn w A n rs) (ho : I64 off) :
    Calls Tryd.prog 26 #[.agg #[.string s, .int .i64 off, .slice A n c], .int .i64 x] w fun e w' => e = .returned (.tuple #[.int .i64 (secV off ts er x), .int .i64 (offE er x)]) ∧ Below w.heap.size w w' := by
  have C := rtoLocal_is h s A n c x _ (hz.alloc (.cells #[.string s, .int .i64 off, .slice A n c] 32)) ho
  by_cases he : offE er x = 0
  · obtain ⟨D, S, K, hl, hK, k1, k2, s1, s2, d1, d2, hv⟩ := loc_parts h he
    rw [he, hl] at C
    rw [he, hv]
    have WD := fun W => rsecond_any D S K W hK (by omega) (by omega) s1 s2
    have HC := Lib.hid C
    have HW := Lib.hid WD
    clear h hz C hl hK hv WD he
    go_enter Tryd.func26, Tryd.ntmps26
    go_wp2_with fail
    refine HC.out.mono ?_
    rintro e w1 ⟨rfl, hb⟩
    have B1 : Below w.heap.size w w1 := below_alloc_call hb
    have HB := Lib.hid B1
    have hsz := B1.size
    clear hb B1
    go_wp2_with fail
    refine (HW.out _).mono ?_
    rintro e w2 ⟨rfl, hb2⟩
    have HB2 := Lib.hid ((HB.out.alloc hsz (.cells #[.int .i64 D, .int .i64 S] 76)).trans (hb2.mono (by simp; omega)))
    clear hb2
    go_wp2_with fail
    go_ret2
    exact ⟨rfl, HB2.out⟩
  · have hv : secV off ts er x = 0 := by unfold secV; rw [if_pos he]
    have hne : (offE er x != 0) = true := by simpa using he
    rw [hv]
    generalize offE er x = ee at C hne ⊢
    obtain ⟨⟨D, S⟩, hl⟩ : ∃ p, locV off ts er x = p := ⟨_, rfl⟩
    rw [hl] at C
    have HC := Lib.hid C
    clear h hz C hl hv he
    go_enter Tryd.func26, Tryd.ntmps26
    go_wp2_with fail
    refine HC.out.mono ?_
    rintro e w1 ⟨rfl, hb⟩
    have B1 : Below w.heap.size w w1 := below_alloc_call hb
    have HB := Lib.hid B1
    have hsz := B1.size
    clear hb B1
    go_wp2_with fail
    go_ret2
    exact ⟨rfl, HB.out.alloc hsz _⟩

set_option maxHeartbeats 4000000 in
theorem rin_is {off : Int} {rs : List Zn.Rule} {ts : Zn.L} {er : Int} (h : Zn.trans off rs = (ts, er)) (s : ByteArray) (A : Option Addr) (n c : Nat) (A2 : Option Addr) (n2 c2 : Nat) (l : Wk.L) (x : Int) (w : World) (hz : ZIn w A n rs) (ho : I64 off) (hl : WIn w A2 n2 l) :
    Calls Tryd.prog 27 #[.agg #[.string s, .int .i64 off, .slice A n c], .slice A2 n2 c2, .int .i64 x] w fun e w' => e = .returned (.bool (inV off ts er l x)) ∧ Below w.heap.size w w' := by
  have C := Lib.hid (rsec_is h s A n c x _ (hz.alloc (.cells #[.string s, .int .i64 off, .slice A n c] 32)) ho)
  obtain ⟨S, hS⟩ : ∃ S, secV off ts er x = S := ⟨_, rfl⟩
  obtain ⟨ee, hee⟩ : ∃ ee, offE er x = ee := ⟨_, rfl⟩
  rw [hS, hee] at C
  have hv : inV off ts er l x = (decide (ee = 0) && (decide (Wk.chk l = 0) && Wk.within l S)) := by unfold inV; rw [hS, hee]
  rw [hv]
  have HL := Lib.hid hl
  clear h hz hS hee hv hl
  by_cases he : ee = 0
  · subst he
    by_cases hc : Wk.chk l = 0
    · have HC := fun W (hW : WIn W A2 n2 l) => hc ▸ rwchk_any A2 n2 c2 l W hW
      have CH := Lib.hid HC
      have HR := Lib.hid (show (decide ((0 : Int) = 0) && (decide (Wk.chk l = 0) && Wk.within l S)) = Wk.within l S by rw [decide_eq_true hc]; simp)
      clear HC hc
      go_enter Tryd.func27, Tryd.ntmps27
      go_wp2_with fail
      refine C.out.mono ?_
      rintro e w1 ⟨rfl, b1⟩
      have B1 := Lib.hid (below_alloc_call b1)
      clear b1
      go_wp2_with fail
      refine (CH.out _ (HL.out.below B1.out)).mono ?_
      rintro e w2 ⟨rfl, b2⟩
      have B2 := Lib.hid (bstep B1.out b2)
      clear b2
      go_wp2_with fail
      refine (rwithin_any A2 n2 c2 l S _ (HL.out.below B2.out)).mono ?_
      rintro e w3 ⟨rfl, b3⟩
      go_wp2_with fail
      go_ret
      exact ⟨ret_bool HR.out.symm, bstep B2.out b3⟩
    · obtain ⟨R, hR⟩ : ∃ R, Wk.chk l = R := ⟨_, rfl⟩
      rw [hR] at hc
      have hne : (R == 0) = false := by simpa using hc
      have HC := fun W (hW : WIn W A2 n2 l) => hR ▸ rwchk_any A2 n2 c2 l W hW
      have CH := Lib.hid HC
      have HR := Lib.hid (show (decide ((0 : Int) = 0) && (decide (Wk.chk l = 0) && Wk.within l S)) = false by rw [hR, decide_eq_false hc]; simp)
      clear HC hc hR
      go_enter Tryd.func27, Tryd.ntmps27
      go_wp2_with fail
      refine C.out.mono ?_
      rintro e w1 ⟨rfl, b1⟩
      have B1 := Lib.hid (below_alloc_call b1)
      clear b1
      go_wp2_with fail
      refine (CH.out _ (HL.out.below B1.out)).mono ?_
      rintro e w2 ⟨rfl, b2⟩
      have B2 := Lib.hid (bstep B1.out b2)
      clear b2
      go_wp2_with fail
      go_ret
      exact ⟨ret_bool HR.out.symm, B2.out⟩
  · have hne : (ee == 0) = false := by simpa using he
    have HR := Lib.hid (show (decide (ee = 0) && (decide (Wk.chk l = 0) && Wk.within l S)) = false by rw [decide_eq_false he]; simp)
    clear he
    go_enter Tryd.func27, Tryd.ntmps27
    go_wp2_with fail
    refine C.out.mono ?_
    rintro e w1 ⟨rfl, b1⟩
    have B1 := Lib.hid (below_alloc_call b1)
    clear b1
    go_wp2_with fail
    go_ret
    exact ⟨ret_bool HR.out.symm, B1.out⟩
end Go.Proofs.YtndngkfiamdohaaDoor
namespace Go.Proofs.YtndngkfiamdohaaDoor
open Go.RowKit
set_option linter.unusedVariables false
set_option linter.unusedSimpArgs false
set_option maxRecDepth 100000

set_option maxHeartbeats 8000000 in
theorem rwinv_any (A : Option Addr) (n c : Nat) (l : Wk.L) (w : World) (hA : WIn w A n l) :
    Calls Tryd.prog 21 #[.slice A n c] w (GivesT (Wk.invV l) (Wk.invE l) w) := by
  have hC := rwchk_any A n c l w hA
  by_cases hc : Wk.chk l = 0
  · have hn14 : n ≤ 14 := by have := (Wk.chk_ok hc).2; have := hA.len; omega
    obtain ⟨R, hR⟩ : ∃ R, Wk.inv 0 l = R := ⟨_, rfl⟩
    have hv : Wk.invV l = if 14 < R.length then [] else R := by unfold Wk.invV; rw [if_pos hc, hR]
    have he : Wk.invE l = if 14 < R.length then 5 else 0 := by unfold Wk.invE; rw [if_pos hc, hR]
    obtain ⟨RV, hRV⟩ : ∃ RV, Wk.invV l = RV := ⟨_, rfl⟩
    obtain ⟨RE, hRE⟩ : ∃ RE, Wk.invE l = RE := ⟨_, rfl⟩
    rw [hRV] at hv
    rw [hRE] at he
    rw [hRV, hRE]
    have HV1 := Lib.hid (show 14 < R.length → RV = [] ∧ RE = 5 from fun h => by rw [hv, he, if_pos h, if_pos h]; exact ⟨rfl, rfl⟩)
    have HV2 := Lib.hid (show ¬ 14 < R.length → RV = R ∧ RE = 0 from fun h => by rw [hv, he, if_neg h, if_neg h]; exact ⟨rfl, rfl⟩)
    rw [hc] at hC
    have HA := Lib.hid hA
    have HC := Lib.hid hC
    have HR := Lib.hid hR
    clear hA hC hc hR hv he hRV hRE
    go_enter Tryd.func21, Tryd.ntmps21
    go_wp2_with fail
    refine HC.out.mono ?_
    rintro e w1 ⟨rfl, b1⟩
    have HB1 := Lib.hid b1
    clear b1 HC
    go_wp2_with fail
    go_loopw [4, 5, 6] (fun vo ve i wr => ∃ (k : Nat) (en : Int) (out : Zn.L), k ≤ n + 1 ∧ i = .int .i64 k ∧ ve = .int .i64 en ∧ out.length ≤ k ∧ Hid (k ≤ n → out ++ Wk.inv en (l.drop k) = R) ∧ Hid (k = n + 1 → out = R) ∧ Hid (OwnL 24 2 ePair wr w.heap.size vo out) ∧ Hid (Below w.heap.size w wr)) (fun _ _ i _ => n + 1 - (intOf i).toNat)
    case atStart => exact ⟨0, 0, [], Nat.zero_le _, rfl, rfl, by simp, Lib.hid (fun _ => by simpa using HR.out), Lib.hid (fun h => absurd h (by omega)), Lib.hid (OwnL.nil_ _ _), HB1⟩
    case round =>
      clear HB1 HR
      obtain ⟨k, en, out, hk, rfl, rfl, hol, HR, HR9, HO, HB⟩ := hrel
      have hrz := HB.out.size
      have hol2 : out.length ≤ 900000 := by omega
      by_cases hlt : k < n
      · obtain ⟨a, b, bl, of, hx, rfl, hb, c0, c1⟩ := (HA.out.below HB.out).get hlt
        have hst := HR.out (by omega)
        rw [drop_cons' hx, Wk.inv] at hst
        simp only at hst
        have HST := Lib.hid hst
        have hlt2 : (k : Int) < n := by omega
        have hk0 : (0 : Int) ≤ k := by omega
        clear hx hst HR HR9
        by_cases h1 : en < a
        · have N := Lib.hid (show k + 1 ≤ n → (out ++ [(en, a)]) ++ Wk.inv b (l.drop (k + 1)) = R from fun _ => by rw [← HST.out, if_pos h1]; simp)
          clear HST
          go_wp2_with fail
          go_quiet (fail)
          go_wp2_with (at_builtin; refine wp_append_one kWin _ rfl _ _ rfl w.heap.size _ out rfl ((HO.out.drewN _).alloc _) wr.heap.size (en, a) rfl (pair_new (x := (en, a)) (by simp)) hol2 (by simp; omega) ?_; intro gg cap w3 hO3 hB3 hg3 hgo _)
          have B5 : Below w.heap.size w w3 := ((below_drewN HB.out nq).alloc hrz _).trans hB3
          have O5 := Lib.hid hO3
          have B5 := Lib.hid B5
          clear hO3 hB3 hg3 hgo c0 c1
          go_wp2_with fail
          go_roundw
          case rel => exact ⟨k + 1, b, out ++ [(en, a)], by omega, by go_num, rfl, by simp; omega, N, Lib.hid (fun h => absurd h (by omega)), O5, B5⟩
          case measure => simp [intOf]; omega
        · have N := Lib.hid (show k + 1 ≤ n → out ++ Wk.inv b (l.drop (k + 1)) = R from fun _ => by rw [← HST.out, if_neg h1])
          clear HST
          go_wp2_with fail
          go_quiet (fail)
          go_wp2_with fail
          go_roundw
          case rel => exact ⟨k + 1, b, out, by omega, by go_num, rfl, by omega, N, Lib.hid (fun h => absurd h (by omega)), Lib.hid (HO.out.drewN _), Lib.hid (below_drewN HB.out _)⟩
          case measure => simp [intOf]; omega
      · by_cases heq : k = n
        · subst heq
          have hst := HR.out (by omega)
          rw [List.drop_of_length_le (by have := HA.out.len; omega), Wk.inv] at hst
          have HST := Lib.hid hst
          clear hst HR HR9
          by_cases h1 : en < 604800
          · have N := Lib.hid (show out ++ [(en, 604800)] = R by rw [← HST.out, if_pos h1])
            clear HST
            go_wp2_with (at_builtin; refine wp_append_one kWin _ rfl _ _ rfl w.heap.size _ out rfl (HO.out.alloc _) wr.heap.size (en, 604800) rfl (pair_new (x := (en, 604800)) rfl) hol2 (by simp; omega) ?_; intro gg cap w3 hO3 hB3 hg3 hgo _)
            have B5 : Below w.heap.size w w3 := (HB.out.alloc hrz _).trans hB3
            have O5 := Lib.hid hO3
            have B5 := Lib.hid B5
            clear hO3 hB3 hg3 hgo
            go_wp2_with fail
            go_roundw
            case rel => exact ⟨k + 1, 604800, out ++ [(en, 604800)], by omega, by go_num, rfl, by simp; omega, Lib.hid (fun h => absurd h (by omega)), Lib.hid (fun _ => N.out), O5, B5⟩
            case measure => simp [intOf]
          · have N := Lib.hid (show out = R by rw [← HST.out, if_neg h1]; simp)
            clear HST
            go_wp2_with fail
            go_roundw
            case rel => exact ⟨k + 1, 604800, out, by omega, by go_num, rfl, by omega, Lib.hid (fun h => absurd h (by omega)), Lib.hid (fun _ => N.out), HO, HB⟩
            case measure => simp [intOf]
        · have N := HR9.out (by omega)
          subst N
          obtain ⟨A1, c1, rfl, -, -, hS⟩ := HO.out.shape
          have HS := Lib.hid hS
          obtain ⟨q, hq⟩ : ∃ q, out.length = q := ⟨_, rfl⟩
          have HQ := Lib.hid hq
          rw [hq]
          clear hS HR HR9 HO
          by_cases hl : 14 < q
          · have g1 : (14 : Int) < (q : Int) := by omega
            obtain ⟨rfl, rfl⟩ := HV1.out (by rw [HQ.out]; exact hl)
            go_wp2_with fail
            go_ret2
            exact GivesT.none_ HB.out
          · have g1 : ¬ (14 : Int) < (q : Int) := by omega
            obtain ⟨rfl, rfl⟩ := HV2.out (by rw [HQ.out]; exact hl)
            go_wp2_with fail
            go_ret2
            exact ⟨A1, c1, by rw [HQ.out]; rfl, HS.out, HB.out⟩
  · have hv : Wk.invV l = [] := by unfold Wk.invV; rw [if_neg hc]
    have he : Wk.invE l = 8 := by unfold Wk.invE; rw [if_neg hc]
    rw [hv, he]
    obtain ⟨R, hR⟩ : ∃ R, Wk.chk l = R := ⟨_, rfl⟩
    rw [hR] at hC hc
    have hne : (R != 0) = true := by simpa using hc
    have HC := Lib.hid hC
    clear hA hC hR hc hv he
    go_enter Tryd.func21, Tryd.ntmps21
    go_wp2_with fail
    refine HC.out.mono ?_
    rintro e w1 ⟨rfl, b1⟩
    go_wp2_with fail
    go_ret2
    exact GivesT.none_ b1
end Go.Proofs.YtndngkfiamdohaaDoor
namespace Go.Proofs.YtndngkfiamdohaaDoor
open Go.RowKit
set_option linter.unusedVariables false
set_option linter.unusedSimpArgs false
set_option maxRecDepth 100000

theorem wkeep2 {W0 W W' : World} {a b : Addr} {u v : Value} (h : W.cell? a = some u ∧ W.cell? b = some v ∧ Below W0.heap.size W0 W) (hb : Below W.heap.size W W') : W'.cell? a = some u ∧ W'.cell? b = some v ∧ Below W0.heap.size W0 W' :=
  ⟨(hb.cell (World.block_lt_of_cell? W _ h.1)).trans h.1, (hb.cell (World.block_lt_of_cell? W _ h.2.1)).trans h.2.1, bstep h.2.2 hb⟩

set_option maxHeartbeats 8000000 in
theorem rpiece_any (A : Option Addr) (n c : Nat) (l : Wk.L) (off f t : Int) (w : World) (hA : WIn w A n l) (hc : Wk.chk l = 0) (ho : Zn.okO off = true) (f0 : 0 ≤ f) (ft : f < t) (t0 : t ≤ 8589934592) (d0 : t - f ≤ 34560000) :
    Calls Tryd.prog 48 #[.slice A n c, .int .i64 f, .int .i64 t, .int .i64 off] w fun e w' => ∃ v, e = .returned v ∧ OwnL 38 2 ePair w' w.heap.size v (Wk.pcR l off f t) ∧ Below w.heap.size w w' := by
  obtain ⟨R, hR⟩ : ∃ R, Wk.pcR l off f t = R := ⟨_, rfl⟩
  rw [hR]
  unfold Wk.pcR at hR
  rw [Zn.okO_iff] at ho
  obtain ⟨o1, o2⟩ := ho
  have hsw := Wk.sow_bd (f + off)
  obtain ⟨S, hS⟩ : ∃ S, Wk.sow (f + off) = S := ⟨_, rfl⟩
  rw [hS] at hR hsw
  obtain ⟨s1, s2⟩ := hsw
  have p0 : 0 ≤ f + off + 864000 := by omega
  have hK : Civ.wd ((f + off + 864000) / 86400 - 10) * 86400 + (f + off + 864000) % 86400 = S := by
    rw [← hS, Wk.sow, show (f + off + 864000) / 86400 - 10 = (f + off) / 86400 by omega, show (f + off + 864000) % 86400 = (f + off) % 86400 by omega]
  have CS := fun W => rsecond_any ((f + off + 864000) / 86400 - 10) ((f + off + 864000) % 86400) _ W rfl (by omega) (by omega) (by omega) (by omega)
  rw [hK] at CS
  have hn14 : n ≤ 14 := by have := (Wk.chk_ok hc).2; have := hA.len; omega
  have hmem := fun x h => (Wk.chk_ok hc).1.mem x h
  have HCS := Lib.hid CS
  have HA := Lib.hid hA
  have HM := Lib.hid hmem
  have HR := Lib.hid hR
  clear hA hc hR CS hK hS hmem
  go_enter Tryd.func48, Tryd.ntmps48
  go_wp2_with fail
  refine (HCS.out _).mono ?_
  rintro e w1 ⟨rfl, b1⟩
  have HB1 := Lib.hid b1
  have q1 : f + off - S - off = f - S := by omega
  clear b1 HCS
  go_wp2_with fail
  clear q1
  go_loopw [9, 10] (fun v' vm wr => ∃ (j : Nat) (m : Int) (s' : Wk.L), vm = .int .i64 m ∧ Hid (m = f - S + 604800 * j) ∧ f - S ≤ m ∧ m ≤ t + 604800 ∧ Hid (s' ++ Wk.pcK l f t (Wk.wks m t) m = R) ∧ Hid (OwnL 38 2 ePair wr w.heap.size v' s') ∧ Hid (s'.length ≤ 14 * j) ∧ Hid (Below w.heap.size w wr)) (fun _ vm _ => (t - intOf vm).toNat)
  case atStart => exact ⟨0, f - S, [], rfl, Lib.hid (by simp), by omega, by omega, Lib.hid (by simpa using HR.out), Lib.hid (OwnL.nil_ _ _), Lib.hid (by simp), HB1⟩
  case round =>
    clear HB1 HR
    obtain ⟨j, m, s', rfl, HJ, m1, m2, HR, HO, HLN, HB⟩ := hrel
    by_cases hlt : m < t
    · have hr := HR.out
      rw [Wk.pcK_step hlt, ← List.append_assoc] at hr
      obtain ⟨Q, hQ⟩ : ∃ Q, s' ++ Wk.pc f t m l = Q := ⟨_, rfl⟩
      rw [hQ] at hr
      have HR2 := Lib.hid hr
      have HQ := Lib.hid hQ
      have hj : j ≤ 59 := by have := HJ.out; omega
      clear hQ hr HR
      go_wp2_with fail
      go_loopw [9, 11] (fun v2 i wr => ∃ (k : Nat) (s2 : Wk.L), k ≤ n ∧ i = .int .i64 k ∧ Hid (s2 ++ Wk.pc f t m (l.drop k) = Q) ∧ Hid (OwnL 38 2 ePair wr w.heap.size v2 s2) ∧ Hid (s2.length ≤ s'.length + k) ∧ Hid (Below w.heap.size w wr)) (fun _ i _ => n - (intOf i).toNat)
      case atStart => exact ⟨0, s', Nat.zero_le _, rfl, Lib.hid (by rw [List.drop_zero]; exact HQ.out), HO, Lib.hid (by simp), HB⟩
      case round =>
        clear HO HB HQ
        obtain ⟨k, s2, hk, rfl, HQ, HO, HL2, HB⟩ := hrel
        by_cases hlt2 : k < n
        · obtain ⟨a, b, bl, of, hx, rfl, hb, c0, c1⟩ := (HA.out.below HB.out).get hlt2
          have hm := HM.out _ (List.mem_of_getElem? hx)
          simp only at hm
          obtain ⟨g1, g2, g3⟩ := hm
          have N := HQ.out
          rw [drop_cons' hx, Wk.pc] at N
          simp only at N
          obtain ⟨mx, hmx⟩ : ∃ mx, max f (m + a) = mx := ⟨_, rfl⟩
          obtain ⟨mn, hmn⟩ : ∃ mn, min t (m + b) = mn := ⟨_, rfl⟩
          rw [hmx, hmn] at N
          have HN := Lib.hid N
          have hrz := HB.out.size
          have w1' : IntKind.i64.wrap (m + a) = m + a := by rw [IntKind.wrap_i64]; omega
          have w2' : IntKind.i64.wrap (m + b) = m + b := by rw [IntKind.wrap_i64]; omega
          have hlen : s2.length ≤ 900000 := by have := HL2.out; have := HLN.out; omega
          have k0 : (0 : Int) ≤ k := by omega
          have k1 : (k : Int) < n := by omega
          have S0 := (show wr.cell? ⟨bl, of + k * 2, none⟩ = some (.int .i64 a) ∧ wr.cell? ⟨bl, of + k * 2 + 1, none⟩ = some (.int .i64 b) ∧ Below wr.heap.size wr wr from ⟨c0, c1, Below.refl _ _⟩)
          clear hx N HQ
          go_upto_region 8 with fail
          go_cut [12] (fun p wx => ∃ bq : Nat, p = .pointer (some ⟨bq, 0, none⟩) ∧ Hid (BlkAt wx bq #[.int .i64 mx, .int .i64 mn] 38) ∧ Hid (Below wr.heap.size wr wx))
          case first =>
            go_region_held3 (fun W => W.cell? ⟨bl, of + k * 2, none⟩ = some (.int .i64 a) ∧ W.cell? ⟨bl, of + k * 2 + 1, none⟩ = some (.int .i64 b) ∧ Below wr.heap.size wr W)
              (first | exact S0 | exact wkeep2 S0 (Below.refl _ _).drew | assumption | exact wkeep2 S0 ((Below.refl _ _).alloc (Nat.le_refl _) _).drew | exact wkeep2 (by assumption) ((Below.refl _ _).alloc (Nat.le_refl _) _))
              (fail)
            all_goals
              go_wp2_with fail
              go_meet
              exact ⟨_, rfl, Lib.hid (BlkAt.drewN (BlkAt.new wr _ _) 1), Lib.hid ((Below.refl _ _).alloc (Nat.le_refl _) _).drew⟩
          case rest =>
            obtain ⟨bq, rfl, HQ2, HBx⟩ := hcut
            obtain ⟨w6, rfl⟩ : ∃ w6 : World, w6 = wc := ⟨_, rfl⟩
            have e0 := BlkAt.cell HQ2.out (i := 0) rfl
            have e1 := BlkAt.cell HQ2.out (i := 1) rfl
            have hbq := BlkAt.lt_ HQ2.out
            have O6 := Lib.hid (HO.out.below HBx.out)
            have B6 := Lib.hid (bstep HB.out HBx.out)
            have hrz6 := B6.out.size
            clear S0 c0 c1 HO HB w1' w2'
            by_cases hmm : mx < mn
            · have N := Lib.hid (show (s2 ++ [(mx, mn)]) ++ Wk.pc f t m (l.drop (k + 1)) = Q by rw [← HN.out, if_pos hmm]; simp)
              clear HN
              go_wp2_with (at_builtin; refine wp_append_one kSpn _ rfl _ _ rfl w.heap.size _ s2 rfl (O6.out.alloc _) w6.heap.size (mx, mn) rfl (pair_new (x := (mx, mn)) rfl) hlen (by simp; omega) ?_; intro gg cap w7 hO3 hB3 hg3 hgo _)
              have B5 := Lib.hid ((B6.out.alloc hrz6 _).trans hB3)
              have O5 := Lib.hid hO3
              clear hO3 hB3 hg3 hgo
              go_wp2_with fail
              go_roundw
              case rel => exact ⟨k + 1, s2 ++ [(mx, mn)], by omega, by go_num, N, O5, Lib.hid (by have := HL2.out; simp; omega), B5⟩
              case measure => simp [intOf]; omega
            · have N := Lib.hid (show s2 ++ Wk.pc f t m (l.drop (k + 1)) = Q by rw [← HN.out, if_neg hmm])
              clear HN
              go_wp2_with fail
              go_roundw
              case rel => exact ⟨k + 1, s2, by omega, by go_num, N, O6, Lib.hid (by have := HL2.out; omega), B6⟩
              case measure => simp [intOf]; omega
        · have hq := HQ.out
          rw [List.drop_of_length_le (by have := HA.out.len; omega), Wk.pc, List.append_nil] at hq
          subst hq
          have HLN2 := Lib.hid (show s2.length ≤ 14 * (j + 1) by have := HL2.out; have := HLN.out; omega)
          have HJ2 := Lib.hid (show m + 604800 = f - S + 604800 * ((j + 1 : Nat) : Int) by have := HJ.out; omega)
          clear HQ HL2
          go_wp2_with fail
          go_roundw
          case rel => exact ⟨j + 1, m + 604800, s2, rfl, HJ2, by omega, by omega, HR2, HO, HLN2, HB⟩
          case measure => simp [intOf]; omega
    · have hr := HR.out
      rw [Wk.pcK_done (by omega), List.append_nil] at hr
      subst hr
      go_wp2_with fail
      go_ret
      exact ⟨_, rfl, HO.out, HB.out⟩

set_option maxHeartbeats 8000000 in
theorem rjoin_any (v : Value) (s : Wk.L) (A : Option Addr) (m c : Nat) (xs : Wk.L) (B : Nat) (w : World) (hO : OwnL 38 2 ePair w B v s) (hl : s.length + xs.length ≤ 900000) (hB : B ≤ w.heap.size) (hA : WIn w A m xs) (hap : 0 < m → ∀ ad, A = some ad → v.ownBlock ≠ some ad.block) :
    Calls Tryd.prog 47 #[v, .slice A m c] w fun e w' => ∃ v', e = .returned v' ∧ OwnL 38 2 ePair w' B v' (Wk.joinL s xs) ∧ Stp w w' v v' := by
  obtain ⟨R, hR⟩ : ∃ R, Wk.joinL s xs = R := ⟨_, rfl⟩
  rw [hR]
  have HR := Lib.hid hR
  have HO := Lib.hid hO
  have HA := Lib.hid hA
  have HAP := Lib.hid hap
  have hm9 : m ≤ 900000 := by have := hA.len; omega
  have HL := Lib.hid (show s.length + m ≤ 900000 by have := hA.len; omega)
  clear hR hO hA hap hl
  go_enter Tryd.func47, Tryd.ntmps47
  go_wp2_with fail
  go_loopw [0, 5] (fun v2 i wr => ∃ (k : Nat) (s2 : Wk.L), k ≤ m ∧ i = .int .i64 k ∧ Hid (Wk.joinL s2 (xs.drop k) = R) ∧ Hid (OwnL 38 2 ePair wr B v2 s2) ∧ Hid (s2.length ≤ s.length + k) ∧ Hid (Stp w wr v v2)) (fun _ i _ => m - (intOf i).toNat)
  case atStart => exact ⟨0, s, Nat.zero_le _, rfl, Lib.hid (by rw [List.drop_zero]; exact HR.out), HO, Lib.hid (by simp), Lib.hid (Stp.refl _ _)⟩
  case round =>
    clear HO HR
    obtain ⟨k, s2, hk, rfl, HR, HO, HL2, HS⟩ := hrel
    by_cases hlt : k < m
    · have hat := HA.out.at_.stp (fun h => HAP.out (by have := HA.out.len; omega)) HS.out
      obtain ⟨a, b, bl, of, hx, rfl, hb, c0, c1⟩ := (WIn.mk hat HA.out.len HA.out.le).get hlt
      have hnb : v.ownBlock ≠ some bl := HAP.out (by omega) _ rfl
      have hrz : B ≤ wr.heap.size := Nat.le_trans hB HS.out.1.size
      have hlen : s2.length ≤ 900000 := by have := HL2.out; have := HL.out; omega
      have hr := HR.out
      rw [drop_cons' hx, show ∀ t, Wk.joinL s2 ((a, b) :: t) = Wk.joinL (Wk.jn s2 (a, b)) t from fun _ => rfl] at hr
      have HR2 := Lib.hid hr
      have k0 : (0 : Int) ≤ k := by omega
      have k1 : (k : Int) < m := by omega
      clear hat hx hr HR
      cases h2 : s2.getLast? with
      | none =>
        rw [List.getLast?_eq_none_iff] at h2
        subst h2
        obtain ⟨A1, c1', rfl, -, -, -⟩ := HO.out.shape
        have N := Lib.hid (show Wk.joinL ([] ++ [(a, b)]) (xs.drop (k + 1)) = R from HR2.out)
        have HO2 := Lib.hid (show OwnL 38 2 ePair wr B (.slice A1 0 c1') [] from HO.out)
        clear HR2
        rw [List.length_nil]
        go_wp2_with fail
        go_quiet (fail)
        go_wp2_with (at_builtin; refine wp_append_one kSpn _ rfl _ _ rfl B _ [] rfl ((HO2.out.drewN _).alloc _) wr.heap.size (a, b) rfl (pair_new (x := (a, b)) (by simp)) (by simp) (by simp; omega) ?_; intro gg cap w7 hO3 hB3 hg3 hgo _)
        have S5 := Lib.hid (HS.out.trans (((Stp.refl _ _).drewN _).trans (Stp.app (n := 0 + 1) (cap := cap) rfl hg3 hgo)))
        have O5 := Lib.hid hO3
        clear hO3 hB3 hg3 hgo
        go_wp2_with fail
        go_roundw
        case rel => exact ⟨k + 1, _, by omega, by go_num, N, O5, Lib.hid (by simp; omega), S5⟩
        case measure => simp [intOf]; omega
      | some y =>
        obtain ⟨l1, l2, l3⟩ := last_set h2 (y.1, b)
        obtain ⟨q, hq⟩ : ∃ q, s2.length = q := ⟨_, rfl⟩
        rcases HO.out.row with ⟨-, h⟩ | ⟨g, cap, hv, h3, h4, h5, h6⟩
        · subst h; simp at l3
        · subst hv
          obtain ⟨cl, f1⟩ := h6 _ y l2 1 (by omega)
          rw [hq] at cl f1 h5 l1 l2 l3 HO HS hlen HL2 ⊢
          have hc : wr.cell? ⟨g, (q - 1) * 2 + 1, none⟩ = some (.int .i64 y.2) := cl
          have hgb : g ≠ bl := fun e => by
            rcases HS.out.2 g rfl with h7 | h7
            · exact hnb (by rw [h7, e])
            · obtain ⟨b', o', ea, hlt', -⟩ := HA.out.at_ (by have := HA.out.len; omega)
              cases ea; omega
          have i0 : (0 : Int) ≤ (q : Int) - 1 := by omega
          have i1 : (q : Int) - 1 < q := by omega
          have i2 : ((q : Int) - 1).toNat = q - 1 := by omega
          have i3 : (q : Int) ≤ 900000 := by omega
          have i4 : (1 : Int) ≤ q := by omega
          have dq : decide ((0 : Int) < q) = true := by simp; omega
          have dq2 : decide (0 < q) = true := by simp; omega
          have HQ := Lib.hid hq
          by_cases he : y.2 = a
          · have N := Lib.hid (show Wk.joinL (s2.set (q - 1) (y.1, b)) (xs.drop (k + 1)) = R by rw [← l1, ← HR2.out]; unfold Wk.jn; rw [h2]; simp [he])
            have O2 := Lib.hid ((HO.out.drewN 1).set2 l2 b)
            have O2' := Lib.hid (HO.out.set2 l2 b)
            rw [he] at hc
            clear cl l1 l2 h2 h6 HO hq HR2
            go_wp2_with fail
            go_quiet (fail)
            go_wp2_with fail
            go_roundw
            case rel => exact ⟨k + 1, _, by omega, by go_num, N, O2', Lib.hid (by have := HL2.out; rw [List.length_set, HQ.out]; omega), Lib.hid (HS.out.trans (((Stp.refl _ _).drewN _).trans ⟨grown_set _ g _ _, fun _ h => .inl h⟩))⟩
            case measure => simp [intOf]; omega
          · have N := Lib.hid (show Wk.joinL (s2 ++ [(a, b)]) (xs.drop (k + 1)) = R by rw [← HR2.out]; unfold Wk.jn; rw [h2]; simp [he])
            obtain ⟨y2, hy2⟩ : ∃ y2, y.2 = y2 := ⟨_, rfl⟩
            rw [hy2] at hc he
            have hne : (y2 == a) = false := by simpa using he
            clear cl l1 l2 h2 h6 hy2 HR2
            go_wp2_with fail
            go_quiet (fail)
            go_wp2_with (at_builtin; refine wp_append_one kSpn _ rfl _ _ rfl B _ s2 rfl ((HO.out.drewN _).alloc _) wr.heap.size (a, b) rfl (pair_new (x := (a, b)) (by simp)) (by rw [HQ.out]; exact hlen) (by simp; omega) ?_; intro gg cap2 w7 hO3 hB3 hg3 hgo _)
            have S5 := Lib.hid (HS.out.trans (((Stp.refl _ _).drewN _).trans (Stp.app (n := q + 1) (cap := cap2) rfl hg3 hgo)))
            have hO4 := hO3
            rw [HQ.out] at hO4
            have O5 := Lib.hid hO4
            clear hO3 hO4 hB3 hg3 hgo
            go_wp2_with fail
            go_roundw
            case rel => exact ⟨k + 1, _, by omega, by go_num, N, O5, Lib.hid (by have := HL2.out; simp; omega), S5⟩
            case measure => simp [intOf]; omega
    · have hr := HR.out
      rw [List.drop_of_length_le (by have := HA.out.len; omega), show Wk.joinL s2 [] = s2 from rfl] at hr
      subst hr
      go_wp2_with fail
      go_ret
      exact ⟨_, rfl, HO.out, HS.out⟩
end Go.Proofs.YtndngkfiamdohaaDoor
namespace Go.Proofs.YtndngkfiamdohaaDoor
open Go.RowKit
set_option linter.unusedVariables false
set_option linter.unusedSimpArgs false
set_option maxRecDepth 100000

set_option maxHeartbeats 16000000 in
theorem rtimes_is {off : Int} {rs : List Zn.Rule} {ts : Zn.L} {er : Int} (h : Zn.trans off rs = (ts, er)) (s : ByteArray) (A : Option Addr) (n c : Nat) (A2 : Option Addr) (n2 c2 : Nat) (l : Wk.L) (f t : Int) (w : World) (hz : ZIn w A n rs) (ho : I64 off) (hl : WIn w A2 n2 l) (hf : I64 f) (ht : I64 t) :
    Calls Tryd.prog 28 #[.agg #[.string s, .int .i64 off, .slice A n c], .slice A2 n2 c2, .int .i64 f, .int .i64 t] w (GivesT (tmV er l f t (Wk.tms [] off ts l f t)) (tmE er l f t (Wk.tms [] off ts l f t)) w) := by
  have C := Lib.hid (rtrans_is h s A n c _ (hz.alloc (.cells #[.string s, .int .i64 off, .slice A n c] 32)) ho)
  obtain ⟨R, hR⟩ : ∃ R, Wk.tms [] off ts l f t = R := ⟨_, rfl⟩
  rw [hR]
  obtain ⟨RV, hRV⟩ : ∃ RV, tmV er l f t R = RV := ⟨_, rfl⟩
  obtain ⟨RE, hRE⟩ : ∃ RE, tmE er l f t R = RE := ⟨_, rfl⟩
  rw [hRV, hRE]
  unfold tmV at hRV
  unfold tmE at hRE
  have HL := Lib.hid hl
  have HT := Lib.hid hz.civ
  have CQ := Lib.hid (fun W => rrange_any f t W hf ht)
  by_cases he : er = 0
  · subst he
    rw [if_neg (by simp)] at hRV hRE
    obtain ⟨k1, k2, k3, k4, k5, k6, k7, k8⟩ := Zn.trans_ok h
    by_cases hc : Wk.chk l = 0
    · rw [if_neg (by simpa using hc)] at hRV hRE
      have HC := fun W (hW : WIn W A2 n2 l) => hc ▸ rwchk_any A2 n2 c2 l W hW
      have CH := Lib.hid HC
      clear HC
      by_cases hq : okQ f t = true
      · rw [if_neg (by rw [hq]; decide)] at hRV hRE
        rw [hq] at CQ
        have hq2 : 0 ≤ f ∧ f ≤ t ∧ t ≤ 8589934592 ∧ t - f ≤ 34560000 := by unfold okQ at hq; simpa using hq
        obtain ⟨q1, q2, q3, q4⟩ := hq2
        have HV1 := Lib.hid (show 4096 < R.length → RV = [] ∧ RE = 5 from fun h => by rw [← hRV, ← hRE, if_pos h, if_pos h]; exact ⟨rfl, rfl⟩)
        have HV2 := Lib.hid (show ¬ 4096 < R.length → RV = R ∧ RE = 0 from fun h => by rw [← hRV, ← hRE, if_neg h, if_neg h]; exact ⟨rfl, rfl⟩)
        have HR := Lib.hid hR
        have HK1 := Lib.hid k1
        have HK8 := Lib.hid k8
        have HASC := Lib.hid (vt_asc' k6)
        have HCC := Lib.hid hc
        obtain ⟨N, hN⟩ : ∃ N, ts.length = N := ⟨_, rfl⟩
        have hN2 : N ≤ 640 := by omega
        have HN := Lib.hid hN
        clear hRV hRE hR k1 k2 k3 k4 k5 k6 k7 k8 hc hq h hz hl hN
        go_enter Tryd.func28, Tryd.ntmps28
        go_wp2_with fail
        refine C.out.mono ?_
        rintro e w1 ⟨A1, c1, rfl, hP, hb⟩
        have HZB := Lib.hid (box_zone hb)
        have HB1 := Lib.hid (below_alloc_call hb)
        have HP := Lib.hid hP
        clear hb hP C
        go_wp2_with fail
        refine (CH.out _ (HL.out.below HB1.out)).mono ?_
        rintro e w2 ⟨rfl, b2⟩
        have HB2 := Lib.hid (bstep HB1.out b2)
        have HP2 := Lib.hid (HP.out.below b2)
        have HZB2 := Lib.hid (BlkAt.after HZB.out b2)
        clear b2 HB1 HP HZB
        go_wp2_with fail
        refine (CQ.out _).mono ?_
        rintro e w3 ⟨rfl, rfl⟩
        rw [HN.out]
        go_wp2_with fail
        go_loopw [12, 13] (fun vs i wr => ∃ (k : Nat) (f' o' : Int) (s' : Wk.L) (v' : Value), v' = vs ∧ k ≤ N + 1 ∧ i = .int .i64 ((k : Int) - 1) ∧ Hid (k = 0 → f' = f ∧ o' = off) ∧ Hid (0 < k → k ≤ N → ∃ a, ts[k - 1]? = some (a, o') ∧ f' = max f a) ∧ f ≤ f' ∧ Hid (Zn.okO o' = true) ∧ Hid (k ≤ N → Wk.tms s' o' (ts.drop k) l f' t = R) ∧ Hid (k = N + 1 → s' = R) ∧ s'.length ≤ 840 * k ∧ Hid (OwnL 38 2 ePair wr w.heap.size v' s') ∧ Hid (Stp w2 wr (.slice none 0 0) v')) (fun _ i _ => (N + 1 - intOf i).toNat)
        case atStart => exact ⟨0, f, off, [], _, rfl, Nat.zero_le _, rfl, Lib.hid (fun _ => ⟨rfl, rfl⟩), Lib.hid (fun h => absurd h (by omega)), Int.le_refl _, HK1, Lib.hid (fun _ => by rw [List.drop_zero]; exact HR.out), Lib.hid (fun h => absurd h (by omega)), by simp, Lib.hid (OwnL.nil_ _ _), Lib.hid (Stp.refl _ _)⟩
        case round =>
          clear HR HK1
          obtain ⟨k, f', o', s', v', rfl, hk, rfl, HX0, HX1, hf', HO1, HR, HR9, hsl, HO, HS⟩ := hrel
          have HBR := Lib.hid (stp_bel HS.out HB2.out)
          have hrz := HBR.out.size
          have hT1 := HT.out.below HBR.out
          have HW1 := Lib.hid (HL.out.below HBR.out)
          have hap := stp_ap HS.out HB2.out HL.out
          by_cases hlt : k ≤ N
          · have hPP := HP2.out.stp (fun _ ad e h => by cases h) HS.out
            have ZB3 : ZBlk wr w.heap.size s off A n c := BlkAt.grown HZB2.out HS.out.1 (fun e => by cases e)
            obtain ⟨z0, z1, z2⟩ := ZBlk.cells ZB3
            have e1 : (k : Int) - 1 + 1 = k := by omega
            -- the piece of this round, and what follows
            have nx : ∃ b' f2 o2, (∀ s3, Wk.addR l o' f' b' s' = s3 → (k + 1 ≤ N → Wk.tms s3 o2 (ts.drop (k + 1)) l f2 t = R) ∧ (k + 1 = N + 1 → s3 = R)) ∧ (k + 1 ≤ N → ∃ a, ts[k + 1 - 1]? = some (a, o2) ∧ f2 = max f a) ∧ f ≤ f2 ∧ Zn.okO o2 = true ∧ b' ≤ t ∧ ((k < N ∧ ∃ a, ts[k]? = some (a, o2) ∧ min t a = b') ∨ (k = N ∧ b' = t)) := by
              have hr := HR.out hlt
              by_cases hkN : k < N
              · obtain ⟨⟨a, o⟩, hx⟩ := get_ex (xs := ts) (i := k) (by have := HN.out; omega)
                rw [drop_cons' hx, Wk.tms] at hr
                have hm : max a f' = max f a := by
                  rcases Nat.eq_zero_or_pos k with h0 | h0
                  · have := (HX0.out h0).1; omega
                  · obtain ⟨a0, ha0, hfa⟩ := HX1.out h0 (by omega)
                    have hh := HASC.out (k - 1) k (by omega) (by have := HN.out; omega)
                    rw [show ts.getD k (0, 0) = (a, o) by simp [List.getD, hx], show ts.getD (k - 1) (0, 0) = (a0, o') by simp [List.getD, ha0]] at hh
                    simp only at hh
                    omega
                refine ⟨min t a, max f a, o, fun s3 hs => ⟨fun _ => ?_, fun h => by omega⟩, fun _ => ⟨a, hx, rfl⟩, by omega, HK8.out _ (List.mem_of_getElem? hx), by omega, .inl ⟨hkN, a, hx, rfl⟩⟩
                rw [hm, show min a t = min t a from Int.min_comm _ _, hs] at hr
                exact hr
              · refine ⟨t, f', o', fun s3 hs => ⟨fun h => by omega, fun h => ?_⟩, fun h => absurd h (by omega), hf', HO1.out, Int.le_refl _, .inr ⟨by omega, rfl⟩⟩
                rw [List.drop_of_length_le (by have := HN.out; omega), Wk.tms, hs] at hr
                exact hr
            obtain ⟨b', f2, o2, fn, hnx, hf2, hok2, hbt, hcs⟩ := nx
            have FIN := Lib.hid fn
            have HNX := Lib.hid (show 0 < k + 1 → k + 1 ≤ N → ∃ a, ts[k + 1 - 1]? = some (a, o2) ∧ f2 = max f a from fun _ h => hnx h)
            have HOK2 := Lib.hid hok2
            have HPPC := Lib.hid (show ∀ j x, ts[j]? = some x → ∃ bl of, A1 = some ⟨bl, of, none⟩ ∧ bl < wr.heap.size ∧ wr.cell? ⟨bl, of + j * 2, none⟩ = some (.int .i64 x.1) ∧ wr.cell? ⟨bl, of + j * 2 + 1, none⟩ = some (.int .i64 x.2) from fun j x hx => by
              obtain ⟨bl, of, e, hb, hc⟩ := hPP (by have := (List.getElem?_eq_some_iff.1 hx).1; omega)
              obtain ⟨c0, c1⟩ := pair_cells (hc j x hx)
              exact ⟨bl, of, e, hb, c0, c1⟩)
            clear fn hnx hok2 ZB3 HR HR9 hPP
            rcases hcs with ⟨hkN, a, hx, hmn⟩ | ⟨hkN, hbt2⟩
            · obtain ⟨bl, of, e9, hbl, d0, d1⟩ := HPPC.out k _ hx
              simp only at d0 d1
              have kN1 : (k : Int) < N := by omega
              have kN0 : (0 : Int) ≤ k := by omega
              subst e9
              clear hx
              by_cases hkz : k = 0
              · obtain ⟨g1, g2⟩ := HX0.out hkz
                subst hkz
                subst g1
                subst g2
                simp only [Nat.zero_mul, Nat.add_zero] at d0 d1
                clear e1
                by_cases hab : f' < b'
                · have CP := Lib.hid (fun W (hW : WIn W A2 n2 l) => rpiece_any A2 n2 c2 l o' f' b' W hW HCC.out HO1.out (by omega) hab (by omega) (by omega))
                  have hxl := Wk.pcR_len (l := l) (off := o') (f := f') (t := b') (Wk.chk_ok HCC.out).2 (by omega)
                  have hjn := Wk.join_pcR (l := l) (off := o') (s := s') hab
                  have hal := addR_len (l := l) (off := o') (f := f') (t := b') s' (Wk.chk_ok HCC.out).2 (fun _ => by omega)
                  obtain ⟨xs, hxs⟩ : ∃ xs, Wk.pcR l o' f' b' = xs := ⟨_, rfl⟩
                  rw [hxs] at CP hxl hjn
                  have FN := Lib.hid (FIN.out _ hjn.symm)
                  rw [← hjn] at hal
                  have HAL := Lib.hid hal
                  clear hxs hjn hal FIN
                  go_wp2_with fail
                  refine (CP.out _ HW1.out).mono ?_
                  rintro e w4 ⟨v4, rfl, O4, b4⟩
                  have hO4 := HO.out.below b4
                  have hS4 := HS.out.below b4
                  have hsz4 : wr.heap.size ≤ w4.heap.size := b4.size
                  have hap4 : ∀ g, v4.ownBlock = some g → v'.ownBlock ≠ some g := fun g hg e => by
                    have u1 : wr.heap.size ≤ g := (World.ownsRow.lt O4 g hg).1
                    have u2 := (World.ownsRow.lt HO.out g e).2
                    omega
                  have HO4 := Lib.hid hO4
                  have HS4 := Lib.hid hS4
                  have HAP4 := Lib.hid hap4
                  have HO4x := Lib.hid O4
                  obtain ⟨A4, c4, rfl, -, -, hL4⟩ := O4.shape
                  obtain ⟨q4, hq4⟩ : ∃ q4, xs.length = q4 := ⟨_, rfl⟩
                  have hap5 : 0 < q4 → ∀ ad, A4 = some ad → v'.ownBlock ≠ some ad.block := fun h ad e => by
                    subst e
                    rcases HO4x.out.row with ⟨hn, -⟩ | ⟨g, cap, hv, -⟩
                    · cases hn
                    · have hg : ad = ⟨g, 0, none⟩ := by injection hv with h1; exact Option.some.inj h1
                      subst hg
                      exact HAP4.out g rfl
                  have CJ := Lib.hid (rjoin_any v' s' A4 q4 c4 xs w.heap.size w4 HO4.out (by omega) (by omega) ⟨hL4, hq4, by omega⟩ hap5)
                  rw [hq4]
                  clear hO4 hS4 hap4 hap5 hL4 O4 b4 CP HO HS HO4x HO4 HAP4
                  go_wp2_with fail
                  refine CJ.out.mono ?_
                  rintro e w5 ⟨v5, rfl, O5, S5⟩
                  have HO5 := Lib.hid O5
                  have HS6 := Lib.hid (HS4.out.trans S5)
                  have hal2 := HAL.out
                  clear O5 S5 HS4 CJ
                  go_wp2_with fail
                  go_roundw
                  case rel => exact ⟨0 + 1, f2, o2, _, _, rfl, by omega, by first | rfl | (congr 1; omega), Lib.hid (fun h => absurd h (by omega)), HNX, hf2, HOK2, Lib.hid (fun h => FN.out.1 (by first | exact h | omega)), Lib.hid (fun _ => FN.out.2 (by first | trivial | omega)), by omega, HO5, HS6⟩
                  case measure => first | (simp [intOf]; done) | (simp [intOf]; omega)
                · have FN := Lib.hid (FIN.out s' (by unfold Wk.addR; rw [if_pos (by omega)]))
                  clear FIN
                  go_wp2_with fail
                  go_roundw
                  case rel => exact ⟨0 + 1, f2, o2, s', _, rfl, by omega, by first | rfl | (congr 1; omega), Lib.hid (fun h => absurd h (by omega)), HNX, hf2, HOK2, Lib.hid (fun h => FN.out.1 (by first | exact h | omega)), Lib.hid (fun _ => FN.out.2 (by first | trivial | omega)), by omega, HO, HS⟩
                  case measure => first | (simp [intOf]; done) | (simp [intOf]; omega)
              · obtain ⟨a0, ha0, hfa⟩ := HX1.out (by omega) (by omega)
                obtain ⟨bl0, of0, e8, hbl0, x0, x1⟩ := HPPC.out (k - 1) _ ha0
                simp only at x0 x1
                cases e8
                have m1 : max f a0 = f' := hfa.symm
                have i0 : (0 : Int) ≤ (k : Int) - 1 := by omega
                have i1 : (k : Int) - 1 < N := by omega
                have i2 : ((k : Int) - 1).toNat = k - 1 := by omega
                clear ha0 hfa
                by_cases hab : f' < b'
                · have CP := Lib.hid (fun W (hW : WIn W A2 n2 l) => rpiece_any A2 n2 c2 l o' f' b' W hW HCC.out HO1.out (by omega) hab (by omega) (by omega))
                  have hxl := Wk.pcR_len (l := l) (off := o') (f := f') (t := b') (Wk.chk_ok HCC.out).2 (by omega)
                  have hjn := Wk.join_pcR (l := l) (off := o') (s := s') hab
                  have hal := addR_len (l := l) (off := o') (f := f') (t := b') s' (Wk.chk_ok HCC.out).2 (fun _ => by omega)
                  obtain ⟨xs, hxs⟩ : ∃ xs, Wk.pcR l o' f' b' = xs := ⟨_, rfl⟩
                  rw [hxs] at CP hxl hjn
                  have FN := Lib.hid (FIN.out _ hjn.symm)
                  rw [← hjn] at hal
                  have HAL := Lib.hid hal
                  clear hxs hjn hal FIN
                  go_wp2_with fail
                  go_quiet (fail)
                  go_wp2_with fail
                  refine (CP.out _ (HW1.out.drewN _)).mono ?_
                  rintro e w4 ⟨v4, rfl, O4, b4⟩
                  have hO4 := (HO.out.drewN nq).below b4
                  have hS4 := (HS.out.drewN nq).below b4
                  have hsz4 : wr.heap.size ≤ w4.heap.size := b4.size
                  have hap4 : ∀ g, v4.ownBlock = some g → v'.ownBlock ≠ some g := fun g hg e => by
                    have u1 : wr.heap.size ≤ g := (World.ownsRow.lt O4 g hg).1
                    have u2 := (World.ownsRow.lt HO.out g e).2
                    omega
                  have HO4 := Lib.hid hO4
                  have HS4 := Lib.hid hS4
                  have HAP4 := Lib.hid hap4
                  have HO4x := Lib.hid O4
                  obtain ⟨A4, c4, rfl, -, -, hL4⟩ := O4.shape
                  obtain ⟨q4, hq4⟩ : ∃ q4, xs.length = q4 := ⟨_, rfl⟩
                  have hap5 : 0 < q4 → ∀ ad, A4 = some ad → v'.ownBlock ≠ some ad.block := fun h ad e => by
                    subst e
                    rcases HO4x.out.row with ⟨hn, -⟩ | ⟨g, cap, hv, -⟩
                    · cases hn
                    · have hg : ad = ⟨g, 0, none⟩ := by injection hv with h1; exact Option.some.inj h1
                      subst hg
                      exact HAP4.out g rfl
                  have CJ := Lib.hid (rjoin_any v' s' A4 q4 c4 xs w.heap.size w4 HO4.out (by omega) (by omega) ⟨hL4, hq4, by omega⟩ hap5)
                  rw [hq4]
                  clear hO4 hS4 hap4 hap5 hL4 O4 b4 CP HO HS HO4x HO4 HAP4
                  go_wp2_with fail
                  refine CJ.out.mono ?_
                  rintro e w5 ⟨v5, rfl, O5, S5⟩
                  have HO5 := Lib.hid O5
                  have HS6 := Lib.hid (HS4.out.trans S5)
                  have hal2 := HAL.out
                  clear O5 S5 HS4 CJ
                  go_wp2_with fail
                  go_roundw
                  case rel => exact ⟨k + 1, f2, o2, _, _, rfl, by omega, by first | rfl | (congr 1; omega), Lib.hid (fun h => absurd h (by omega)), HNX, hf2, HOK2, Lib.hid (fun h => FN.out.1 (by first | exact h | omega)), Lib.hid (fun _ => FN.out.2 (by first | trivial | omega)), by omega, HO5, HS6⟩
                  case measure => first | (simp [intOf]; done) | (simp [intOf]; omega)
                · have FN := Lib.hid (FIN.out s' (by unfold Wk.addR; rw [if_pos (by omega)]))
                  clear FIN
                  go_wp2_with fail
                  go_quiet (fail)
                  go_wp2_with fail
                  go_roundw
                  case rel => exact ⟨k + 1, f2, o2, s', _, rfl, by omega, by first | rfl | (congr 1; omega), Lib.hid (fun h => absurd h (by omega)), HNX, hf2, HOK2, Lib.hid (fun h => FN.out.1 (by first | exact h | omega)), Lib.hid (fun _ => FN.out.2 (by first | trivial | omega)), by omega, Lib.hid (HO.out.drewN _), Lib.hid (HS.out.drewN _)⟩
                  case measure => first | (simp [intOf]; done) | (simp [intOf]; omega)
            · subst hkN
              subst hbt2
              by_cases hkz : k = 0
              · obtain ⟨g1, g2⟩ := HX0.out hkz
                subst hkz
                subst g1
                subst g2
                by_cases hab : f' < b'
                · have CP := Lib.hid (fun W (hW : WIn W A2 n2 l) => rpiece_any A2 n2 c2 l o' f' b' W hW HCC.out HO1.out (by omega) hab (by omega) (by omega))
                  have hxl := Wk.pcR_len (l := l) (off := o') (f := f') (t := b') (Wk.chk_ok HCC.out).2 (by omega)
                  have hjn := Wk.join_pcR (l := l) (off := o') (s := s') hab
                  have hal := addR_len (l := l) (off := o') (f := f') (t := b') s' (Wk.chk_ok HCC.out).2 (fun _ => by omega)
                  obtain ⟨xs, hxs⟩ : ∃ xs, Wk.pcR l o' f' b' = xs := ⟨_, rfl⟩
                  rw [hxs] at CP hxl hjn
                  have FN := Lib.hid (FIN.out _ hjn.symm)
                  rw [← hjn] at hal
                  have HAL := Lib.hid hal
                  clear hxs hjn hal FIN
                  go_wp2_with fail
                  refine (CP.out _ HW1.out).mono ?_
                  rintro e w4 ⟨v4, rfl, O4, b4⟩
                  have hO4 := HO.out.below b4
                  have hS4 := HS.out.below b4
                  have hsz4 : wr.heap.size ≤ w4.heap.size := b4.size
                  have hap4 : ∀ g, v4.ownBlock = some g → v'.ownBlock ≠ some g := fun g hg e => by
                    have u1 : wr.heap.size ≤ g := (World.ownsRow.lt O4 g hg).1
                    have u2 := (World.ownsRow.lt HO.out g e).2
                    omega
                  have HO4 := Lib.hid hO4
                  have HS4 := Lib.hid hS4
                  have HAP4 := Lib.hid hap4
                  have HO4x := Lib.hid O4
                  obtain ⟨A4, c4, rfl, -, -, hL4⟩ := O4.shape
                  obtain ⟨q4, hq4⟩ : ∃ q4, xs.length = q4 := ⟨_, rfl⟩
                  have hap5 : 0 < q4 → ∀ ad, A4 = some ad → v'.ownBlock ≠ some ad.block := fun h ad e => by
                    subst e
                    rcases HO4x.out.row with ⟨hn, -⟩ | ⟨g, cap, hv, -⟩
                    · cases hn
                    · have hg : ad = ⟨g, 0, none⟩ := by injection hv with h1; exact Option.some.inj h1
                      subst hg
                      exact HAP4.out g rfl
                  have CJ := Lib.hid (rjoin_any v' s' A4 q4 c4 xs w.heap.size w4 HO4.out (by omega) (by omega) ⟨hL4, hq4, by omega⟩ hap5)
                  rw [hq4]
                  clear hO4 hS4 hap4 hap5 hL4 O4 b4 CP HO HS HO4x HO4 HAP4
                  go_wp2_with fail
                  refine CJ.out.mono ?_
                  rintro e w5 ⟨v5, rfl, O5, S5⟩
                  have HO5 := Lib.hid O5
                  have HS6 := Lib.hid (HS4.out.trans S5)
                  have hal2 := HAL.out
                  clear O5 S5 HS4 CJ
                  go_wp2_with fail
                  go_roundw
                  case rel => exact ⟨0 + 1, f2, o2, _, _, rfl, by omega, by first | rfl | (congr 1; omega), Lib.hid (fun h => absurd h (by omega)), HNX, hf2, HOK2, Lib.hid (fun h => FN.out.1 (by first | exact h | omega)), Lib.hid (fun _ => FN.out.2 (by first | trivial | omega)), by omega, HO5, HS6⟩
                  case measure => first | (simp [intOf]; done) | (simp [intOf]; omega)
                · have FN := Lib.hid (FIN.out s' (by unfold Wk.addR; rw [if_pos (by omega)]))
                  clear FIN
                  go_wp2_with fail
                  go_roundw
                  case rel => exact ⟨0 + 1, f2, o2, s', _, rfl, by omega, by first | rfl | (congr 1; omega), Lib.hid (fun h => absurd h (by omega)), HNX, hf2, HOK2, Lib.hid (fun h => FN.out.1 (by first | exact h | omega)), Lib.hid (fun _ => FN.out.2 (by first | trivial | omega)), by omega, HO, HS⟩
                  case measure => first | (simp [intOf]; done) | (simp [intOf]; omega)
              · obtain ⟨a0, ha0, hfa⟩ := HX1.out (by omega) (by omega)
                obtain ⟨bl0, of0, e8, hbl0, x0, x1⟩ := HPPC.out (k - 1) _ ha0
                simp only at x0 x1
                subst e8
                have m1 : max f a0 = f' := hfa.symm
                have i0 : (0 : Int) ≤ (k : Int) - 1 := by omega
                have i1 : (k : Int) - 1 < k := by omega
                have i2 : ((k : Int) - 1).toNat = k - 1 := by omega
                clear ha0 hfa
                by_cases hab : f' < b'
                · have CP := Lib.hid (fun W (hW : WIn W A2 n2 l) => rpiece_any A2 n2 c2 l o' f' b' W hW HCC.out HO1.out (by omega) hab (by omega) (by omega))
                  have hxl := Wk.pcR_len (l := l) (off := o') (f := f') (t := b') (Wk.chk_ok HCC.out).2 (by omega)
                  have hjn := Wk.join_pcR (l := l) (off := o') (s := s') hab
                  have hal := addR_len (l := l) (off := o') (f := f') (t := b') s' (Wk.chk_ok HCC.out).2 (fun _ => by omega)
                  obtain ⟨xs, hxs⟩ : ∃ xs, Wk.pcR l o' f' b' = xs := ⟨_, rfl⟩
                  rw [hxs] at CP hxl hjn
                  have FN := Lib.hid (FIN.out _ hjn.symm)
                  rw [← hjn] at hal
                  have HAL := Lib.hid hal
                  clear hxs hjn hal FIN
                  go_wp2_with fail
                  go_quiet (fail)
                  go_wp2_with fail
                  refine (CP.out _ (HW1.out.drewN _)).mono ?_
                  rintro e w4 ⟨v4, rfl, O4, b4⟩
                  have hO4 := (HO.out.drewN nq).below b4
                  have hS4 := (HS.out.drewN nq).below b4
                  have hsz4 : wr.heap.size ≤ w4.heap.size := b4.size
                  have hap4 : ∀ g, v4.ownBlock = some g → v'.ownBlock ≠ some g := fun g hg e => by
                    have u1 : wr.heap.size ≤ g := (World.ownsRow.lt O4 g hg).1
                    have u2 := (World.ownsRow.lt HO.out g e).2
                    omega
                  have HO4 := Lib.hid hO4
                  have HS4 := Lib.hid hS4
                  have HAP4 := Lib.hid hap4
                  have HO4x := Lib.hid O4
                  obtain ⟨A4, c4, rfl, -, -, hL4⟩ := O4.shape
                  obtain ⟨q4, hq4⟩ : ∃ q4, xs.length = q4 := ⟨_, rfl⟩
                  have hap5 : 0 < q4 → ∀ ad, A4 = some ad → v'.ownBlock ≠ some ad.block := fun h ad e => by
                    subst e
                    rcases HO4x.out.row with ⟨hn, -⟩ | ⟨g, cap, hv, -⟩
                    · cases hn
                    · have hg : ad = ⟨g, 0, none⟩ := by injection hv with h1; exact Option.some.inj h1
                      subst hg
                      exact HAP4.out g rfl
                  have CJ := Lib.hid (rjoin_any v' s' A4 q4 c4 xs w.heap.size w4 HO4.out (by omega) (by omega) ⟨hL4, hq4, by omega⟩ hap5)
                  rw [hq4]
                  clear hO4 hS4 hap4 hap5 hL4 O4 b4 CP HO HS HO4x HO4 HAP4
                  go_wp2_with fail
                  refine CJ.out.mono ?_
                  rintro e w5 ⟨v5, rfl, O5, S5⟩
                  have HO5 := Lib.hid O5
                  have HS6 := Lib.hid (HS4.out.trans S5)
                  have hal2 := HAL.out
                  clear O5 S5 HS4 CJ
                  go_wp2_with fail
                  go_roundw
                  case rel => exact ⟨k + 1, f2, o2, _, _, rfl, by omega, by first | rfl | (congr 1; omega), Lib.hid (fun h => absurd h (by omega)), HNX, hf2, HOK2, Lib.hid (fun h => FN.out.1 (by first | exact h | omega)), Lib.hid (fun _ => FN.out.2 (by first | trivial | omega)), by omega, HO5, HS6⟩
                  case measure => first | (simp [intOf]; done) | (simp [intOf]; omega)
                · have FN := Lib.hid (FIN.out s' (by unfold Wk.addR; rw [if_pos (by omega)]))
                  clear FIN
                  go_wp2_with fail
                  go_quiet (fail)
                  go_wp2_with fail
                  go_roundw
                  case rel => exact ⟨k + 1, f2, o2, s', _, rfl, by omega, by first | rfl | (congr 1; omega), Lib.hid (fun h => absurd h (by omega)), HNX, hf2, HOK2, Lib.hid (fun h => FN.out.1 (by first | exact h | omega)), Lib.hid (fun _ => FN.out.2 (by first | trivial | omega)), by omega, Lib.hid (HO.out.drewN _), Lib.hid (HS.out.drewN _)⟩
                  case measure => first | (simp [intOf]; done) | (simp [intOf]; omega)
          · have hr := HR9.out (by omega)
            subst hr
            obtain ⟨A3, c3, rfl, -, -, hS⟩ := HO.out.shape
            have HS4 := Lib.hid hS
            obtain ⟨q, hq⟩ : ∃ q, s'.length = q := ⟨_, rfl⟩
            have HQ := Lib.hid hq
            rw [hq]
            have e2 : ¬ (k : Int) - 1 < N := by omega
            clear hS HO HR HR9
            by_cases hl4 : 4096 < q
            · have g1 : (4096 : Int) < (q : Int) := by omega
              obtain ⟨rfl, rfl⟩ := HV1.out (by rw [HQ.out]; exact hl4)
              go_wp2_with fail
              go_ret2
              exact GivesT.none_ HBR.out
            · have g1 : ¬ (4096 : Int) < (q : Int) := by omega
              obtain ⟨rfl, rfl⟩ := HV2.out (by rw [HQ.out]; exact hl4)
              go_wp2_with fail
              go_ret2
              exact ⟨A3, c3, by rw [HQ.out]; rfl, HS4.out, HBR.out⟩
      · have hq' : okQ f t = false := by simpa using hq
        rw [if_pos hq'] at hRV hRE
        rw [hq'] at CQ
        subst hRV hRE
        clear hq hq' hc k1 k2 k3 k4 k5 k6 k7 k8 h hz hl hR
        go_enter Tryd.func28, Tryd.ntmps28
        go_wp2_with fail
        refine C.out.mono ?_
        rintro e w1 ⟨A1, c1, rfl, hP, hb⟩
        have HB1 := Lib.hid (below_alloc_call hb)
        clear hb hP
        go_wp2_with fail
        refine (CH.out _ (HL.out.below HB1.out)).mono ?_
        rintro e w2 ⟨rfl, b2⟩
        have HB2 := Lib.hid (bstep HB1.out b2)
        clear b2
        go_wp2_with fail
        refine (CQ.out _).mono ?_
        rintro e w3 ⟨rfl, rfl⟩
        go_wp2_with fail
        go_ret2
        exact GivesT.none_ HB2.out
    · rw [if_pos hc] at hRV hRE
      subst hRV hRE
      obtain ⟨Q, hQ⟩ : ∃ Q, Wk.chk l = Q := ⟨_, rfl⟩
      rw [hQ] at hc
      have hne : (Q != 0) = true := by simpa using hc
      have HC := fun W (hW : WIn W A2 n2 l) => hQ ▸ rwchk_any A2 n2 c2 l W hW
      have CH := Lib.hid HC
      clear HC hc k1 k2 k3 k4 k5 k6 k7 k8 h hz hl hR
      go_enter Tryd.func28, Tryd.ntmps28
      go_wp2_with fail
      refine C.out.mono ?_
      rintro e w1 ⟨A1, c1, rfl, hP, hb⟩
      have HB1 := Lib.hid (below_alloc_call hb)
      clear hb hP
      go_wp2_with fail
      refine (CH.out _ (HL.out.below HB1.out)).mono ?_
      rintro e w2 ⟨rfl, b2⟩
      have HB2 := Lib.hid (bstep HB1.out b2)
      clear b2
      go_wp2_with fail
      go_ret2
      exact GivesT.none_ HB2.out
  · rw [if_pos he] at hRV hRE
    subst hRV hRE
    have hne : (er != 0) = true := by simpa using he
    clear he h hz hl hR
    go_enter Tryd.func28, Tryd.ntmps28
    go_wp2_with fail
    refine C.out.mono ?_
    rintro e w1 ⟨A1, c1, rfl, hP, hb⟩
    have HB1 := Lib.hid (below_alloc_call hb)
    clear hb hP
    go_wp2_with fail
    go_ret2
    exact GivesT.none_ HB1.out
end Go.Proofs.YtndngkfiamdohaaDoor
