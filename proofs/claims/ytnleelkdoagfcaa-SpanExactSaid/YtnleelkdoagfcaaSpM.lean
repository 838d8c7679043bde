/- The reference's Clip, and the chapter's examples. -/
import Derived.Test.YtnleelkdoagfcaaSpL
import Derived.Test.YtnleelkdoagfcaaSpI
namespace Go.Proofs.Ytnleelkdoagfcaa
open Go.RowKit
set_option linter.unusedVariables false
set_option linter.unusedSimpArgs false

theorem SpansAt.lit (w : World) (xs : Spn.L) {g : Nat} (hg : w.heap.size = g) (h : xs.length ≤ 1000) : SpansAt (w.alloc (.cells (enc xs).toArray 47)) (some ⟨g, 0, none⟩) xs := by
  subst hg
  have ho : Own (w.alloc (.cells (enc xs).toArray 47)) w.heap.size (.slice (some ⟨w.heap.size, 0, none⟩) xs.length xs.length) xs := by
    have := World.ownsRow_lit (base := w.heap.size) (e := 47) (size := 2) w (enc xs).toArray xs.length (Nat.le_refl _) (by unfold maxLen; omega) (by simp [enc_len])
    simpa [Own] using this
  obtain ⟨A, c, e, hs⟩ := ho.shape
  injection e with e1 e2 e3
  rw [e1]; exact hs

set_option maxHeartbeats 4000000 in
theorem RClip_any (A : Option Addr) (n c : Nat) (xs : Spn.L) (f t : Int) (w : World) (hA : SpansAt w A xs) (hn : xs.length = n) (hm : n ≤ 9223372036854775807) :
    Calls Try.prog 33 #[.slice A n c, .int .i64 f, .int .i64 t] w (Gives (if Spn.vld xs = true then Spn.clp f t xs else []) (if Spn.vld xs = true then 0 else 8) w) := by
  have hV := RValid_any A n c xs w hA hn hm
  by_cases hv : Spn.vld xs = true
  · rw [if_pos hv, if_pos hv]
    have h4 : (n : Int) ≤ 4096 := by have := ((Spn.vld_iff xs).1 hv).1; omega
    rw [hv] at hV
    have HN := Lib.hid hn
    clear hn hv
    go_enter Try.func33, Try.ntmps33
    go_wp2_with fail
    refine hV.mono ?_
    rintro e w1 ⟨rfl, b1⟩
    have hA1 := hA.below b1
    go_wp2_with fail
    go_loopw [8, 9] (fun v i wr => ∃ k : Nat, k ≤ n ∧ i = .int .i64 k ∧ Own wr w.heap.size v (Spn.clp f t (xs.take k)) ∧ Below w.heap.size w wr) (fun _ i _ => n - (intOf i).toNat)
    case atStart => exact ⟨0, Nat.zero_le _, rfl, Own.nil_ _ _, b1⟩
    case round =>
      obtain ⟨k, hk, rfl, hO, hB⟩ := hrel
      by_cases hlt : k < n
      · obtain ⟨b, off, rfl, hb, hc⟩ := (hA.below hB) (by have := HN.out; omega)
        obtain ⟨c0, c1⟩ := hc k (by have := HN.out; omega)
        clear hc
        obtain ⟨⟨g, u⟩, HS⟩ : ∃ s : Int × Int, Hid (xs.getD k (0, 0) = s) := ⟨_, Lib.hid rfl⟩
        rw [HS.out] at c0 c1
        simp only at c0 c1
        have hT := congrArg (Spn.clp f t) (Spn.take_snoc xs k (0, 0) (by have := HN.out; omega))
        rw [HS.out, Spn.clp_snoc] at hT
        simp only at hT
        have hlen := Spn.clp_len f t (xs.take k)
        have hlt2 : (xs.take k).length = k := by rw [List.length_take]; have := HN.out; omega
        rw [hlt2] at hlen
        clear hlt2
        obtain ⟨ys, HY⟩ : ∃ ys, Hid (Spn.clp f t (xs.take k) = ys) := ⟨_, Lib.hid rfl⟩
        rw [HY.out] at hO hlen hT
        have HT := Lib.hid hT
        clear hT
        have hbz := hB.size
        have k0 : (0 : Int) ≤ k := by omega
        have k1 : (k : Int) < n := by omega
        have hyl : ys.length ≤ 1000000 := by omega
        go_upto_region 8 with fail
        go_cut [10] (fun s wx => s = .pointer (some ⟨wr.heap.size, 0, none⟩) ∧ wx.cell? ⟨wr.heap.size, 0, none⟩ = some (.int .i64 (max g f)) ∧ wx.cell? ⟨wr.heap.size, 1, none⟩ = some (.int .i64 (min u t)) ∧ wr.heap.size < wx.heap.size ∧ Below wr.heap.size wr wx)
        case first =>
          go_region_held3 (fun W => W.cell? ⟨b, off + k * 2, none⟩ = some (.int .i64 g) ∧ W.cell? ⟨b, off + k * 2 + 1, none⟩ = some (.int .i64 u)) (first | (exact ⟨c0, c1⟩) | go_keep) (fail)
          all_goals
            go_wp2_with fail
            go_meet
            exact ⟨rfl, cell_new0 rfl, cell_new1 rfl, by simp, ((Below.refl _ _).alloc (Nat.le_refl _) _).drew⟩
        case rest =>
          obtain ⟨rfl, y0, y1, hlt3, B1⟩ := hcut
          obtain ⟨wx, rfl, B1⟩ := name_world (P := fun W => Below wr.heap.size wr W) B1
          have hO1 := hO.below B1
          have hB1 := bstep hB B1
          generalize max g f = mx at *
          generalize min u t = mn at *
          clear c0 c1 hO hB B1 hA1
          by_cases p3 : mx < mn
          · have hT2 := HT.out
            rw [if_pos p3] at hT2
            have hbz1 := hB1.size
            go_wp2_with (at_builtin; refine wp_append_span _ rfl _ _ rfl w.heap.size _ ys rfl (hO1.alloc _) wx.heap.size mx mn rfl (cell_new0 rfl) (cell_new1 rfl) hyl (by simp; omega) ?_; intro gg cap w2 hO2 hB2 _ hg2)
            rw [← hT2] at hO2
            have hBn : Below w.heap.size w w2 := (hB1.alloc hB1.size _).trans hB2
            clear hT2 hB2
            go_wp2_with fail
            go_roundw
            case rel => exact ⟨k + 1, by omega, by go_num, hO2, hBn⟩
            case measure => simp [intOf]; omega
          · have hT2 := HT.out
            rw [if_neg p3, List.append_nil] at hT2
            rw [← hT2] at hO1
            clear hT2
            go_wp2_with fail
            go_roundw
            case rel => exact ⟨k + 1, by omega, by go_num, hO1, hB1⟩
            case measure => simp [intOf]; omega
      · obtain ⟨A', c', rfl, hS⟩ := hO.shape
        have hk2 : xs.take k = xs := List.take_of_length_le (by have := HN.out; omega)
        rw [hk2] at hS ⊢
        clear hk2
        go_wp2_with fail
        go_ret2
        exact ⟨A', c', rfl, hS, hB⟩
  · have hv' : Spn.vld xs = false := by simpa using hv
    rw [if_neg hv, if_neg hv]
    rw [hv'] at hV
    clear hn hv hv'
    go_enter Try.func33, Try.ntmps33
    go_wp2_with fail
    refine hV.mono ?_
    rintro e w1 ⟨rfl, b1⟩
    go_wp2_with fail
    go_ret2
    exact Gives.none_ b1

theorem ex_norm {r : Spn.L} {er : Int} (h : Spn.NR [(5, 9), (1, 3), (3, 4), (7, 6)] r er) : r = [(1, 4), (5, 9)] ∧ er = 0 := by
  refine h.uniq (.inr (.inr ⟨by decide, ?_, ⟨⟨by simp, by simp⟩, fun x => ?_⟩, rfl⟩))
  · rintro ⟨s, hs, h1, h2⟩
    simp at hs
    rcases hs with rfl | rfl | rfl | rfl <;> simp at h1 h2
  · simp only [Spn.cov_cons, Spn.cov_nil, or_false]
    omega
theorem ex_minus {r : Spn.L} {er : Int} (h : RC (Spn.kind 3) [(0, 10)] [(2, 3), (5, 20)] r er) : r = [(0, 2), (3, 5)] ∧ er = 0 := by
  have va : Spn.vld [(0, 10)] = true := by decide
  have vb : Spn.vld [(2, 3), (5, 20)] = true := by decide
  refine h.uniq (.inl ⟨va, vb, [(0, 2), (3, 5)], ⟨⟨by simp, by simp⟩, fun x => ?_⟩, by simp, by simp⟩)
  have ka : Spn.has [(0, 10)] x = decide (0 ≤ x ∧ x < 10) := by
    rw [Bool.eq_iff_iff, Spn.has_iff]; simp [va, Spn.cov_cons, Spn.cov_nil]
  have kb : Spn.has [(2, 3), (5, 20)] x = decide ((2 ≤ x ∧ x < 3) ∨ (5 ≤ x ∧ x < 20)) := by
    rw [Bool.eq_iff_iff, Spn.has_iff]; simp [vb, Spn.cov_cons, Spn.cov_nil]
  unfold Spn.Kept
  rw [ka, kb]
  simp only [Spn.kind, Spn.cov_cons, Spn.cov_nil, or_false]
  simp
  omega
theorem ex_gap : Spn.gap [(0, 10)] 4 = 10 := by decide

set_option maxHeartbeats 4000000 in
theorem sane_any (w : World) : Calls Try.prog 9 #[] w fun e w' => e = .returned (.bool true) ∧ Below w.heap.size w w' := by
  have S1 : SpansAt (w.alloc (.cells #[.int .i64 5, .int .i64 9, .int .i64 1, .int .i64 3, .int .i64 3, .int .i64 4, .int .i64 7, .int .i64 6] 47)) (some ⟨w.heap.size, 0, none⟩) [(5, 9), (1, 3), (3, 4), (7, 6)] := SpansAt.lit w [(5, 9), (1, 3), (3, 4), (7, 6)] rfl (by decide)
  have N1 := Normal_any _ 4 4 _ _ S1 rfl (by omega)
  go_enter Try.func9, Try.ntmps9
  go_wp2_with fail
  refine N1.mono ?_
  rintro e w1 ⟨r, er, HR, A1, c1, rfl, R1, b1⟩
  obtain ⟨rfl, rfl⟩ := ex_norm HR.out
  have B1 : Below w.heap.size w w1 := ((Below.refl _ _).alloc (Nat.le_refl _) _).trans (b1.mono (by simp))
  clear N1 S1 b1 HR
  have S2 : SpansAt (w1.alloc (.cells #[.int .i64 0, .int .i64 10] 47)) (some ⟨w1.heap.size, 0, none⟩) [(0, 10)] := SpansAt.lit w1 [(0, 10)] rfl (by decide)
  have S3 : SpansAt ((w1.alloc (.cells #[.int .i64 0, .int .i64 10] 47)).alloc (.cells #[.int .i64 2, .int .i64 3, .int .i64 5, .int .i64 20] 47)) (some ⟨w1.heap.size + 1, 0, none⟩) [(2, 3), (5, 20)] := SpansAt.lit _ [(2, 3), (5, 20)] (by simp) (by decide)
  have N2 := Minus_any _ _ 1 2 1 2 _ _ _ (S2.alloc _) S3 rfl rfl (by omega) (by omega)
  go_wp2_with fail
  refine N2.mono ?_
  rintro e w2 ⟨r, er, HR, A2, c2, rfl, R2, b2⟩
  obtain ⟨rfl, rfl⟩ := ex_minus HR.out
  have b12 : Below w1.heap.size w1 w2 := (((Below.refl _ _).alloc (Nat.le_refl _) _).alloc (by simp) _).trans (b2.mono (by simp; omega))
  have B2 := bstep B1 b12
  have R1b := R1.below b12
  clear N2 S2 S3 b2 b12 HR R1 B1
  have T1 : SpansAt (w2.alloc (.cells #[.int .i64 1, .int .i64 4, .int .i64 5, .int .i64 9] 47)) (some ⟨w2.heap.size, 0, none⟩) [(1, 4), (5, 9)] := SpansAt.lit w2 [(1, 4), (5, 9)] rfl (by decide)
  have E1 := same_any _ _ 2 2 c1 2 _ _ _ (R1b.alloc _) T1 rfl rfl (by omega) (by omega)
  rw [decide_eq_true (show [((1 : Int), (4 : Int)), (5, 9)] = [(1, 4), (5, 9)] from rfl)] at E1
  go_wp2_with fail
  refine E1.mono ?_
  rintro e w3 ⟨rfl, b3⟩
  have b13 : Below w2.heap.size w2 w3 := ((Below.refl _ _).alloc (Nat.le_refl _) _).trans (b3.mono (by simp))
  have B3 := bstep B2 b13
  have R2b := R2.below b13
  clear E1 T1 b3 b13 R2 B2 R1b
  have T2 : SpansAt (w3.alloc (.cells #[.int .i64 0, .int .i64 2, .int .i64 3, .int .i64 5] 47)) (some ⟨w3.heap.size, 0, none⟩) [(0, 2), (3, 5)] := SpansAt.lit w3 [(0, 2), (3, 5)] rfl (by decide)
  have E2 := same_any _ _ 2 2 c2 2 _ _ _ (R2b.alloc _) T2 rfl rfl (by omega) (by omega)
  rw [decide_eq_true (show [((0 : Int), (2 : Int)), (3, 5)] = [(0, 2), (3, 5)] from rfl)] at E2
  go_wp2_with fail
  refine E2.mono ?_
  rintro e w4 ⟨rfl, b4⟩
  have B4 := bstep B3 (((Below.refl w3.heap.size w3).alloc (Nat.le_refl _) _).trans (b4.mono (by simp)))
  clear E2 T2 b4 R2b B3
  have T3 : SpansAt (w4.alloc (.cells #[.int .i64 0, .int .i64 10] 47)) (some ⟨w4.heap.size, 0, none⟩) [(0, 10)] := SpansAt.lit w4 [(0, 10)] rfl (by decide)
  have G1 := Gap_any _ 1 1 _ 4 _ T3 rfl (by omega)
  rw [ex_gap] at G1
  go_wp2_with fail
  refine G1.mono ?_
  rintro e w5 ⟨rfl, b5⟩
  have B5 := bstep B4 (((Below.refl w4.heap.size w4).alloc (Nat.le_refl _) _).trans (b5.mono (by simp)))
  go_wp2_with fail
  go_ret
  exact ⟨rfl, B5⟩
end Go.Proofs.Ytnleelkdoagfcaa
