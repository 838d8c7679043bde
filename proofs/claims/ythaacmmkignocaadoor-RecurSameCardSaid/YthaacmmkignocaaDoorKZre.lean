/- The reference's FromLocal and First. -/
import Derived.Test.YthaacmmkignocaaDoorKG31
namespace Go.Proofs.YthaacmmkignocaaDoor
open Go.RowKit
set_option linter.unusedVariables false
set_option linter.unusedSimpArgs false
/-- What the k-th stretch is, in the words of the reference's loop. -/
theorem strk_cases {off : Int} {ts : Zn.L} {W : World} {A1 : Option Addr} {q k : Nat} {j : Int} (hP : PairsAt W A1 ts) (hq : ts.length = q) (hk : k ≤ q) (hj : (k : Int) = j + 1) :
    ((j < 0 ∧ frK ts k = 0 ∧ ofK off ts k = off) ∨ (∃ b of, 0 ≤ j ∧ A1 = some ⟨b, of, none⟩ ∧ W.cell? ⟨b, of + j.toNat * 2, none⟩ = some (.int .i64 (frK ts k)) ∧ W.cell? ⟨b, of + j.toNat * 2 + 1, none⟩ = some (.int .i64 (ofK off ts k)))) ∧
    ((¬ j + 1 < q ∧ toK ts k = 8589934593) ∨ (j + 1 < q ∧ ∃ b of, A1 = some ⟨b, of, none⟩ ∧ W.cell? ⟨b, of + k * 2, none⟩ = some (.int .i64 (toK ts k)))) := by
  constructor
  · rcases Nat.eq_zero_or_pos k with h0 | h0
    · exact .inl ⟨by omega, by subst h0; rfl, by subst h0; rfl⟩
    · obtain ⟨⟨a, o⟩, hx⟩ := get_ex (xs := ts) (i := k - 1) (by omega)
      obtain ⟨b, of, hA, hb, hc⟩ := hP (by omega)
      have hkk : k - 1 + 1 = k := by omega
      have e1 := frK_succ hx
      have e2 := ofK_succ (off := off) hx
      rw [hkk] at e1 e2
      have hjt : j.toNat = k - 1 := by omega
      obtain ⟨c0, c1⟩ := pair_cells (hc _ _ hx)
      rw [e1, e2, hjt]
      exact .inr ⟨b, of, by omega, hA, c0, c1⟩
  · rcases Nat.lt_or_ge k q with h0 | h0
    · obtain ⟨⟨a, o⟩, hx⟩ := get_ex (xs := ts) (i := k) (by omega)
      obtain ⟨b, of, hA, hb, hc⟩ := hP (by omega)
      have e1 := toK_in hx
      obtain ⟨c0, c1⟩ := pair_cells (hc _ _ hx)
      rw [e1]
      exact .inr ⟨by omega, b, of, hA, c0⟩
    · exact .inl ⟨by omega, toK_out (by omega)⟩
set_option maxHeartbeats 8000000 in
set_option maxRecDepth 100000 in
theorem rfromLocal_ok {off : Int} {rs : List Zn.Rule} {ts : Zn.L} (h : Zn.trans off rs = (ts, 0)) (s : ByteArray) (A : Option Addr) (n c : Nat) (d sec : Int) (w : World) (hz : ZIn w A n rs) (ho : I64 off) (d1 : -2 ≤ d) (d2 : d ≤ 99422) (hs : Zn.okD sec = true) :
    Calls Tryd.prog 30 #[.agg #[.string s, .int .i64 off, .slice A n c], .agg #[.int .i64 d, .int .i64 sec]] w (GivesI (Zn.frm (Zn.locS d sec) (Zn.strs 0 off ts)) 0 w) := by
  have C := Lib.hid (rtrans_is h s A n c _ ((hz.alloc (.cells #[.string s, .int .i64 off, .slice A n c] 42)).alloc (.cells #[.int .i64 d, .int .i64 sec] 35)) ho)
  have HTR := Lib.hid h
  have q640 := (Zn.trans_ok h).2.2.2.2.2.2.1
  have hs2 := Zn.okD_iff.1 hs
  obtain ⟨s1, s2⟩ := hs2
  have hvv := loc_small d1 d2 sec
  obtain ⟨v, hv⟩ : ∃ v, Zn.locS d sec = v := ⟨_, rfl⟩
  rw [hv] at hvv ⊢
  have v1 : -172800 ≤ v := by omega
  have v2 : v < 8590147200 := by omega
  have w1 : IntKind.i64.wrap (d * 86400) = d * 86400 := by rw [IntKind.wrap_i64]; omega
  have w2 : IntKind.i64.wrap (d * 86400 + sec) = v := by rw [← hvv, IntKind.wrap_i64]; omega
  have H1 := Lib.hid (fun W => in_is (inB_yes (n := sec) (lo := 0) (hi := 86399) s1 (by omega)) W)
  have H2 := Lib.hid (fun W => small_any d W)
  have hin := inB_yes d1 d2
  rw [hin] at H2
  obtain ⟨q, hq⟩ : ∃ q, ts.length = q := ⟨_, rfl⟩
  rw [hq] at q640
  have HQ := Lib.hid hq
  obtain ⟨ss, hss⟩ : ∃ ss, Zn.strs 0 off ts = ss := ⟨_, rfl⟩
  have hsl := Zn.strs_len ts 0 off
  rw [hss] at hsl ⊢
  rw [hq] at hsl
  have HSS := Lib.hid hss
  have HSLN := Lib.hid hsl
  clear hz h hv hss hs hin hvv hsl s1 s2
  go_enter Tryd.func30, Tryd.ntmps30
  go_wp2_with fail
  refine C.out.mono ?_
  rintro e w1 ⟨A1, c1, rfl, hP, hb⟩
  rw [hq]
  have ZB : ZBlk w1 w.heap.size s off A n c := BlkAt.after (BlkAt.alloc (BlkAt.new w _ _) _) hb
  have LB : BlkAt w1 (w.heap.size + 1) #[.int .i64 d, .int .i64 sec] 35 := by
    have e := BlkAt.after (BlkAt.new (w.alloc (.cells #[.string s, .int .i64 off, .slice A n c] 42)) #[.int .i64 d, .int .i64 sec] 35) hb
    rwa [show (w.alloc (.cells #[.string s, .int .i64 off, .slice A n c] 42)).heap.size = w.heap.size + 1 by simp] at e
  have HB := Lib.hid (two_boxes hb)
  have HP := Lib.hid hP
  have HZB := Lib.hid ZB
  have HLB := Lib.hid LB
  obtain ⟨l0, l1⟩ := (show w1.cell? ⟨w.heap.size + 1, 0, none⟩ = some (.int .i64 d) ∧ w1.cell? ⟨w.heap.size + 1, 1, none⟩ = some (.int .i64 sec) from ⟨BlkAt.cell LB rfl, BlkAt.cell LB rfl⟩)
  clear hb hP hq ZB LB
  go_wp2_with (first | (go_at_call 41; refine (H1.out _).mono ?_; rintro e w' ⟨rfl, rfl⟩) | (go_at_call 42; refine (H2.out _).mono ?_; rintro e w' ⟨rfl, rfl⟩))
  go_loopw [8, 9] (fun vo i wr => ∃ (k : Nat) (j : Int), k ≤ q + 1 ∧ (k : Int) = j + 1 ∧ i = .int .i64 j ∧ Hid (OwnL 3 1 eInt wr w1.heap.size vo (Zn.frm v (ss.take k))) ∧ Hid (Below w1.heap.size w1 wr)) (fun _ i _ => (q - intOf i).toNat)
  case atStart => exact ⟨0, -1, Nat.zero_le _, by omega, rfl, Lib.hid (OwnL.nil_ _ _), Lib.hid (Below.refl _ _)⟩
  case round =>
    clear l0 l1
    obtain ⟨k, j, hk, hkj, rfl, HO, HB2⟩ := hrel
    by_cases hlt : j < q
    · have hst := strs_get off ts k (by have := HQ.out; omega)
      rw [HSS.out] at hst
      have hsn := frm_snoc (v := v) hst
      have hbd := frK_bd HTR.out (k := k) (by have := HQ.out; omega)
      obtain ⟨CA, CB⟩ := strk_cases (off := off) (HP.out.below HB2.out) HQ.out (show k ≤ q by omega) hkj
      obtain ⟨F, hF⟩ : ∃ F, frK ts k = F := ⟨_, rfl⟩
      obtain ⟨T, hT⟩ : ∃ F, toK ts k = F := ⟨_, rfl⟩
      obtain ⟨O, hO⟩ : ∃ F, ofK off ts k = F := ⟨_, rfl⟩
      rw [hF, hO] at CA
      rw [hT] at CB
      rw [hF, hT, hO] at hsn hbd
      obtain ⟨b1, b2, b3, b4, b5, b6⟩ := hbd
      obtain ⟨z0, z1, z2⟩ := ZBlk.cells (BlkAt.after HZB.out HB2.out)
      have LB := BlkAt.after HLB.out HB2.out
      obtain ⟨l0, l1⟩ := (show wr.cell? ⟨w.heap.size + 1, 0, none⟩ = some (.int .i64 d) ∧ wr.cell? ⟨w.heap.size + 1, 1, none⟩ = some (.int .i64 sec) from ⟨BlkAt.cell LB rfl, BlkAt.cell LB rfl⟩)
      have hfl := frm_len v (ss.take k)
      have hlen : (Zn.frm v (ss.take k)).length ≤ 900000 := by rw [List.length_take, HSLN.out] at hfl; omega
      obtain ⟨xs, hxs⟩ : ∃ xs, Zn.frm v (ss.take k) = xs := ⟨_, rfl⟩
      rw [hxs] at HO hsn hlen
      have NY : F ≤ v - O → v - O < T → Hid (Zn.frm v (ss.take (k + 1)) = xs ++ [v - O]) := fun h1 h2 => Lib.hid (by rw [hsn, if_pos ⟨h1, by omega⟩])
      have NN : ¬ (F ≤ v - O ∧ v - O < T) → Hid (Zn.frm v (ss.take (k + 1)) = xs) := fun h1 => Lib.hid (by rw [hsn, if_neg (by omega), List.append_nil])
      have w3 : IntKind.i64.wrap (v - O) = v - O := by rw [IntKind.wrap_i64]; omega
      have w4 : IntKind.i64.wrap (j + 1) = j + 1 := by rw [IntKind.wrap_i64]; omega
      have w5 : (j + 1).toNat = k := by omega
      have w6 : (0 : Int) ≤ j + 1 := by omega
      have hrz := HB2.out.size
      have HNY := Lib.hid NY
      have HNN := Lib.hid NN
      clear hst hsn LB hfl hxs NY NN hF hT hO
      rcases CA with ⟨j0, f0, o0⟩ | ⟨b, of, j0, hA1, a0, a1⟩
      · subst f0
        subst o0
        rcases CB with ⟨jq, t0⟩ | ⟨jq, b, of, hA1, d0⟩
        · subst t0
          by_cases p1 : 0 ≤ v - O
          · by_cases p2 : v - O < 8589934593
            · have N := HNY.out p1 p2
              clear HNY HNN
              go_wp2_with (at_builtin; refine wp_append_one kInt _ rfl _ _ rfl w1.heap.size _ xs rfl (by first | exact HO.out.alloc _ | exact (OwnL.drewN HO.out _).alloc _) wr.heap.size (v - O) rfl (int_new rfl) hlen (by simp; omega) ?_; intro gg cap w3 hO3 hB3 hg3 hgo _)
              have B3 : Hid (Below w1.heap.size w1 w3) := Lib.hid (by first | exact (HB2.out.alloc hrz _).trans hB3 | exact ((below_drewN HB2.out _).alloc hrz _).trans hB3)
              rw [← N.out] at hO3
              have O3 := Lib.hid hO3
              clear hO3 hB3 hg3 hgo N
              go_wp2_with fail
              go_roundw
              case rel => exact ⟨k + 1, j + 1, by omega, by omega, by go_num, O3, B3⟩
              case measure => simp [intOf]; omega
            · have N := HNN.out (fun h => p2 h.2)
              have O3 := HO.out
              rw [← N.out] at O3
              have O3 := Lib.hid O3
              clear HNY HNN N
              go_wp2_with fail
              go_roundw
              case rel => exact ⟨k + 1, j + 1, by omega, by omega, by go_num, (by first | exact O3 | exact Lib.hid O3.out), (by first | exact HB2 | exact Lib.hid (below_drewN HB2.out _))⟩
              case measure => simp [intOf]; omega
          · have N := HNN.out (fun h => p1 h.1)
            have O3 := HO.out
            rw [← N.out] at O3
            have O3 := Lib.hid O3
            clear HNY HNN N
            go_wp2_with fail
            go_roundw
            case rel => exact ⟨k + 1, j + 1, by omega, by omega, by go_num, (by first | exact O3 | exact Lib.hid O3.out), (by first | exact HB2 | exact Lib.hid (below_drewN HB2.out _))⟩
            case measure => simp [intOf]; omega
        · subst hA1
          by_cases p1 : 0 ≤ v - O
          · by_cases p2 : v - O < T
            · have N := HNY.out p1 p2
              clear HNY HNN
              go_wp2_with (at_builtin; refine wp_append_one kInt _ rfl _ _ rfl w1.heap.size _ xs rfl (by first | exact HO.out.alloc _ | exact (OwnL.drewN HO.out _).alloc _) wr.heap.size (v - O) rfl (int_new rfl) hlen (by simp; omega) ?_; intro gg cap w3 hO3 hB3 hg3 hgo _)
              have B3 : Hid (Below w1.heap.size w1 w3) := Lib.hid (by first | exact (HB2.out.alloc hrz _).trans hB3 | exact ((below_drewN HB2.out _).alloc hrz _).trans hB3)
              rw [← N.out] at hO3
              have O3 := Lib.hid hO3
              clear hO3 hB3 hg3 hgo N
              go_wp2_with fail
              go_roundw
              case rel => exact ⟨k + 1, j + 1, by omega, by omega, by go_num, O3, B3⟩
              case measure => simp [intOf]; omega
            · have N := HNN.out (fun h => p2 h.2)
              have O3 := HO.out
              rw [← N.out] at O3
              have O3 := Lib.hid O3
              clear HNY HNN N
              go_wp2_with fail
              go_roundw
              case rel => exact ⟨k + 1, j + 1, by omega, by omega, by go_num, (by first | exact O3 | exact Lib.hid O3.out), (by first | exact HB2 | exact Lib.hid (below_drewN HB2.out _))⟩
              case measure => simp [intOf]; omega
          · have N := HNN.out (fun h => p1 h.1)
            have O3 := HO.out
            rw [← N.out] at O3
            have O3 := Lib.hid O3
            clear HNY HNN N
            go_wp2_with fail
            go_roundw
            case rel => exact ⟨k + 1, j + 1, by omega, by omega, by go_num, (by first | exact O3 | exact Lib.hid O3.out), (by first | exact HB2 | exact Lib.hid (below_drewN HB2.out _))⟩
            case measure => simp [intOf]; omega
      · subst hA1
        rcases CB with ⟨jq, t0⟩ | ⟨jq, b', of', hA1, d0⟩
        · subst t0
          by_cases p1 : F ≤ v - O
          · by_cases p2 : v - O < 8589934593
            · have N := HNY.out p1 p2
              clear HNY HNN
              go_wp2_with fail
              go_quiet (fail)
              go_wp2_with (at_builtin; refine wp_append_one kInt _ rfl _ _ rfl w1.heap.size _ xs rfl (by first | exact HO.out.alloc _ | exact (OwnL.drewN HO.out _).alloc _) wr.heap.size (v - O) rfl (int_new rfl) hlen (by simp; omega) ?_; intro gg cap w3 hO3 hB3 hg3 hgo _)
              have B3 : Hid (Below w1.heap.size w1 w3) := Lib.hid (by first | exact (HB2.out.alloc hrz _).trans hB3 | exact ((below_drewN HB2.out _).alloc hrz _).trans hB3)
              rw [← N.out] at hO3
              have O3 := Lib.hid hO3
              clear hO3 hB3 hg3 hgo N
              go_wp2_with fail
              go_roundw
              case rel => exact ⟨k + 1, j + 1, by omega, by omega, by go_num, O3, B3⟩
              case measure => simp [intOf]; omega
            · have N := HNN.out (fun h => p2 h.2)
              have O3 := HO.out
              rw [← N.out] at O3
              have O3 := Lib.hid O3
              clear HNY HNN N
              go_wp2_with fail
              go_quiet (fail)
              go_wp2_with fail
              go_roundw
              case rel => exact ⟨k + 1, j + 1, by omega, by omega, by go_num, (by first | exact O3 | exact Lib.hid O3.out), (by first | exact HB2 | exact Lib.hid (below_drewN HB2.out _))⟩
              case measure => simp [intOf]; omega
          · have N := HNN.out (fun h => p1 h.1)
            have O3 := HO.out
            rw [← N.out] at O3
            have O3 := Lib.hid O3
            clear HNY HNN N
            go_wp2_with fail
            go_quiet (fail)
            go_wp2_with fail
            go_roundw
            case rel => exact ⟨k + 1, j + 1, by omega, by omega, by go_num, (by first | exact O3 | exact Lib.hid O3.out), (by first | exact HB2 | exact Lib.hid (below_drewN HB2.out _))⟩
            case measure => simp [intOf]; omega
        · cases hA1
          by_cases p1 : F ≤ v - O
          · by_cases p2 : v - O < T
            · have N := HNY.out p1 p2
              clear HNY HNN
              go_wp2_with fail
              go_quiet (fail)
              go_wp2_with (at_builtin; refine wp_append_one kInt _ rfl _ _ rfl w1.heap.size _ xs rfl (by first | exact HO.out.alloc _ | exact (OwnL.drewN HO.out _).alloc _) wr.heap.size (v - O) rfl (int_new rfl) hlen (by simp; omega) ?_; intro gg cap w3 hO3 hB3 hg3 hgo _)
              have B3 : Hid (Below w1.heap.size w1 w3) := Lib.hid (by first | exact (HB2.out.alloc hrz _).trans hB3 | exact ((below_drewN HB2.out _).alloc hrz _).trans hB3)
              rw [← N.out] at hO3
              have O3 := Lib.hid hO3
              clear hO3 hB3 hg3 hgo N
              go_wp2_with fail
              go_roundw
              case rel => exact ⟨k + 1, j + 1, by omega, by omega, by go_num, O3, B3⟩
              case measure => simp [intOf]; omega
            · have N := HNN.out (fun h => p2 h.2)
              have O3 := HO.out
              rw [← N.out] at O3
              have O3 := Lib.hid O3
              clear HNY HNN N
              go_wp2_with fail
              go_quiet (fail)
              go_wp2_with fail
              go_roundw
              case rel => exact ⟨k + 1, j + 1, by omega, by omega, by go_num, (by first | exact O3 | exact Lib.hid O3.out), (by first | exact HB2 | exact Lib.hid (below_drewN HB2.out _))⟩
              case measure => simp [intOf]; omega
          · have N := HNN.out (fun h => p1 h.1)
            have O3 := HO.out
            rw [← N.out] at O3
            have O3 := Lib.hid O3
            clear HNY HNN N
            go_wp2_with fail
            go_quiet (fail)
            go_wp2_with fail
            go_roundw
            case rel => exact ⟨k + 1, j + 1, by omega, by omega, by go_num, (by first | exact O3 | exact Lib.hid O3.out), (by first | exact HB2 | exact Lib.hid (below_drewN HB2.out _))⟩
            case measure => simp [intOf]; omega
    · have hkk : ss.take k = ss := List.take_of_length_le (by have := HSLN.out; omega)
      rw [hkk] at HO
      obtain ⟨A4, c4, rfl, -, -, hS⟩ := HO.out.shape
      have HS := Lib.hid hS
      have B4 := Lib.hid (HB.out.trans (HB2.out.mono HB.out.size))
      clear hS HO hkk
      go_wp2_with fail
      go_ret2
      exact ⟨A4, c4, rfl, HS.out, B4.out⟩
set_option maxHeartbeats 8000000 in
set_option maxRecDepth 100000 in
theorem rfirst_ok {off : Int} {rs : List Zn.Rule} {ts : Zn.L} (h : Zn.trans off rs = (ts, 0)) (s : ByteArray) (A : Option Addr) (n c : Nat) (d sec : Int) (w : World) (hz : ZIn w A n rs) (ho : I64 off) (d1 : -2 ≤ d) (d2 : d ≤ 99422) (hs : Zn.okD sec = true) :
    Calls Tryd.prog 16 #[.agg #[.string s, .int .i64 off, .slice A n c], .agg #[.int .i64 d, .int .i64 sec]] w (GivesF (fstR (Zn.fst (Zn.locS d sec) (Zn.strs 0 off ts))) (fstC (Zn.fst (Zn.locS d sec) (Zn.strs 0 off ts))) w) := by
  have C := Lib.hid (rtrans_is h s A n c _ ((hz.alloc (.cells #[.string s, .int .i64 off, .slice A n c] 42)).alloc (.cells #[.int .i64 d, .int .i64 sec] 35)) ho)
  have HTR := Lib.hid h
  have q640 := (Zn.trans_ok h).2.2.2.2.2.2.1
  have hs2 := Zn.okD_iff.1 hs
  obtain ⟨s1, s2⟩ := hs2
  have hvv := loc_small d1 d2 sec
  obtain ⟨v, hv⟩ : ∃ v, Zn.locS d sec = v := ⟨_, rfl⟩
  rw [hv] at hvv ⊢
  have v1 : -172800 ≤ v := by omega
  have v2 : v < 8590147200 := by omega
  have w1 : IntKind.i64.wrap (d * 86400) = d * 86400 := by rw [IntKind.wrap_i64]; omega
  have w2 : IntKind.i64.wrap (d * 86400 + sec) = v := by rw [← hvv, IntKind.wrap_i64]; omega
  have H1 := Lib.hid (fun W => in_is (inB_yes (n := sec) (lo := 0) (hi := 86399) s1 (by omega)) W)
  have H2 := Lib.hid (fun W => small_any d W)
  have hin := inB_yes d1 d2
  rw [hin] at H2
  obtain ⟨q, hq⟩ : ∃ q, ts.length = q := ⟨_, rfl⟩
  rw [hq] at q640
  have HQ := Lib.hid hq
  obtain ⟨ss, hss⟩ : ∃ ss, Zn.strs 0 off ts = ss := ⟨_, rfl⟩
  have hsl := Zn.strs_len ts 0 off
  rw [hss] at hsl ⊢
  rw [hq] at hsl
  have HSS := Lib.hid hss
  have HSLN := Lib.hid hsl
  clear hz h hv hss hs hin hvv hsl s1 s2
  go_enter Tryd.func16, Tryd.ntmps16
  go_wp2_with fail
  refine C.out.mono ?_
  rintro e w1 ⟨A1, c1, rfl, hP, hb⟩
  rw [hq]
  have ZB : ZBlk w1 w.heap.size s off A n c := BlkAt.after (BlkAt.alloc (BlkAt.new w _ _) _) hb
  have LB : BlkAt w1 (w.heap.size + 1) #[.int .i64 d, .int .i64 sec] 35 := by
    have e := BlkAt.after (BlkAt.new (w.alloc (.cells #[.string s, .int .i64 off, .slice A n c] 42)) #[.int .i64 d, .int .i64 sec] 35) hb
    rwa [show (w.alloc (.cells #[.string s, .int .i64 off, .slice A n c] 42)).heap.size = w.heap.size + 1 by simp] at e
  have HB := Lib.hid (two_boxes hb)
  have HP := Lib.hid hP
  have HZB := Lib.hid ZB
  have HLB := Lib.hid LB
  obtain ⟨l0, l1⟩ := (show w1.cell? ⟨w.heap.size + 1, 0, none⟩ = some (.int .i64 d) ∧ w1.cell? ⟨w.heap.size + 1, 1, none⟩ = some (.int .i64 sec) from ⟨BlkAt.cell LB rfl, BlkAt.cell LB rfl⟩)
  clear hb hP hq ZB LB
  go_wp2_with (first | (go_at_call 41; refine (H1.out _).mono ?_; rintro e w' ⟨rfl, rfl⟩) | (go_at_call 42; refine (H2.out _).mono ?_; rintro e w' ⟨rfl, rfl⟩))
  obtain ⟨r, hr⟩ : ∃ r, Zn.fst v ss = r := ⟨_, rfl⟩
  have HR := Lib.hid hr
  have HR0 : Hid (Zn.fst v (ss.drop 0) = r) := Lib.hid hr
  rw [hr]
  clear hr
  go_loopw [8] (fun i wr => ∃ (k : Nat) (j : Int), k ≤ q + 1 ∧ (k : Int) = j + 1 ∧ i = .int .i64 j ∧ Hid (Zn.fst v (ss.drop k) = r) ∧ Hid (Below w1.heap.size w1 wr)) (fun i _ => (q - intOf i).toNat)
  case atStart => exact ⟨0, -1, Nat.zero_le _, by omega, rfl, HR0, Lib.hid (Below.refl _ _)⟩
  case round =>
    clear l0 l1 HR0
    obtain ⟨k, j, hk, hkj, rfl, HO, HB2⟩ := hrel
    by_cases hlt : j < q
    · have hst := strs_get off ts k (by have := HQ.out; omega)
      rw [HSS.out] at hst
      have hsn := fst_step (v := v) hst
      rw [HO.out, Int.max_comm] at hsn
      have hbd := frK_bd HTR.out (k := k) (by have := HQ.out; omega)
      obtain ⟨CA, CB⟩ := strk_cases (off := off) (HP.out.below HB2.out) HQ.out (show k ≤ q by omega) hkj
      obtain ⟨F, hF⟩ : ∃ F, frK ts k = F := ⟨_, rfl⟩
      obtain ⟨T, hT⟩ : ∃ F, toK ts k = F := ⟨_, rfl⟩
      obtain ⟨O, hO⟩ : ∃ F, ofK off ts k = F := ⟨_, rfl⟩
      rw [hF, hO] at CA
      rw [hT] at CB
      rw [hF, hT, hO] at hsn hbd
      obtain ⟨b1, b2, b3, b4, b5, b6⟩ := hbd
      obtain ⟨z0, z1, z2⟩ := ZBlk.cells (BlkAt.after HZB.out HB2.out)
      have LB := BlkAt.after HLB.out HB2.out
      obtain ⟨l0, l1⟩ := (show wr.cell? ⟨w.heap.size + 1, 0, none⟩ = some (.int .i64 d) ∧ wr.cell? ⟨w.heap.size + 1, 1, none⟩ = some (.int .i64 sec) from ⟨BlkAt.cell LB rfl, BlkAt.cell LB rfl⟩)
      obtain ⟨m, m1⟩ : ∃ m, max F (v - O) = m := ⟨_, rfl⟩
      rw [m1] at hsn
      have NY : m < T → Hid (r = some m) := fun h1 => Lib.hid (by rw [hsn, if_pos (by omega)])
      have NN : ¬ m < T → Hid (Zn.fst v (ss.drop (k + 1)) = r) := fun h1 => Lib.hid (by rw [hsn, if_neg (by omega)])
      have w3 : IntKind.i64.wrap (v - O) = v - O := by rw [IntKind.wrap_i64]; omega
      have w4 : IntKind.i64.wrap (j + 1) = j + 1 := by rw [IntKind.wrap_i64]; omega
      have w5 : (j + 1).toNat = k := by omega
      have w6 : (0 : Int) ≤ j + 1 := by omega
      have HNY := Lib.hid NY
      have HNN := Lib.hid NN
      have B4 := Lib.hid (HB.out.trans (HB2.out.mono HB.out.size))
      clear hst hsn LB NY NN hF hT hO HO
      rcases CA with ⟨j0, f0, o0⟩ | ⟨b, of, j0, hA1, a0, a1⟩
      · subst f0
        subst o0
        rcases CB with ⟨jq, t0⟩ | ⟨jq, b, of, hA1, d0⟩
        · subst t0
          by_cases p1 : m < 8589934593
          · have N := HNY.out p1
            clear HNY HNN
            go_wp2_with fail
            go_ret2
            exact ⟨by rw [N.out]; rfl, (by first | exact B4.out | exact below_drewN B4.out _)⟩
          · have N := HNN.out p1
            clear HNY HNN
            go_wp2_with fail
            go_roundw
            case rel => exact ⟨k + 1, j + 1, by omega, by omega, by go_num, N, (by first | exact HB2 | exact Lib.hid (below_drewN HB2.out _))⟩
            case measure => simp [intOf]; omega
        · subst hA1
          by_cases p1 : m < T
          · have N := HNY.out p1
            clear HNY HNN
            go_wp2_with fail
            go_ret2
            exact ⟨by rw [N.out]; rfl, (by first | exact B4.out | exact below_drewN B4.out _)⟩
          · have N := HNN.out p1
            clear HNY HNN
            go_wp2_with fail
            go_roundw
            case rel => exact ⟨k + 1, j + 1, by omega, by omega, by go_num, N, (by first | exact HB2 | exact Lib.hid (below_drewN HB2.out _))⟩
            case measure => simp [intOf]; omega
      · subst hA1
        rcases CB with ⟨jq, t0⟩ | ⟨jq, b', of', hA1, d0⟩
        · subst t0
          by_cases p1 : m < 8589934593
          · have N := HNY.out p1
            clear HNY HNN
            go_wp2_with fail
            go_quiet (fail)
            go_wp2_with fail
            go_ret2
            exact ⟨by rw [N.out]; rfl, (by first | exact B4.out | exact below_drewN B4.out _)⟩
          · have N := HNN.out p1
            clear HNY HNN
            go_wp2_with fail
            go_quiet (fail)
            go_wp2_with fail
            go_roundw
            case rel => exact ⟨k + 1, j + 1, by omega, by omega, by go_num, N, (by first | exact HB2 | exact Lib.hid (below_drewN HB2.out _))⟩
            case measure => simp [intOf]; omega
        · cases hA1
          by_cases p1 : m < T
          · have N := HNY.out p1
            clear HNY HNN
            go_wp2_with fail
            go_quiet (fail)
            go_wp2_with fail
            go_ret2
            exact ⟨by rw [N.out]; rfl, (by first | exact B4.out | exact below_drewN B4.out _)⟩
          · have N := HNN.out p1
            clear HNY HNN
            go_wp2_with fail
            go_quiet (fail)
            go_wp2_with fail
            go_roundw
            case rel => exact ⟨k + 1, j + 1, by omega, by omega, by go_num, N, (by first | exact HB2 | exact Lib.hid (below_drewN HB2.out _))⟩
            case measure => simp [intOf]; omega
    · have hkk : ss.drop k = [] := List.drop_of_length_le (by have := HSLN.out; omega)
      have e := HO.out
      rw [hkk] at e
      have HE := Lib.hid e.symm
      have B4 := Lib.hid (HB.out.trans (HB2.out.mono HB.out.size))
      clear hkk e HO
      go_wp2_with fail
      go_ret2
      exact ⟨by rw [HR.out, HE.out]; rfl, B4.out⟩
set_option maxHeartbeats 2000000 in
theorem rfromLocal_is {off : Int} {rs : List Zn.Rule} {ts : Zn.L} {er : Int} (h : Zn.trans off rs = (ts, er)) (s : ByteArray) (A : Option Addr) (n c : Nat) (d sec : Int) (w : World) (hz : ZIn w A n rs) (ho : I64 off) (hd : I64 d) :
    Calls Tryd.prog 30 #[.agg #[.string s, .int .i64 off, .slice A n c], .agg #[.int .i64 d, .int .i64 sec]] w (GivesI (frmV off ts er d sec) (frmE er sec) w) := by
  have C := Lib.hid (rtrans_is h s A n c _ ((hz.alloc (.cells #[.string s, .int .i64 off, .slice A n c] 42)).alloc (.cells #[.int .i64 d, .int .i64 sec] 35)) ho)
  by_cases he : er = 0
  · subst he
    cases hs : Zn.okD sec
    · have H1 := Lib.hid (fun W => in_is (inB_no (n := sec) (lo := 0) (hi := 86399) (by unfold Zn.okD at hs; simp at hs; omega)) W)
      have hv : frmV off ts 0 d sec = [] ∧ frmE 0 sec = 1 := by unfold frmV frmE; simp [hs]
      rw [hv.1, hv.2]
      clear hz h hs hv
      go_enter Tryd.func30, Tryd.ntmps30
      go_wp2_with fail
      refine C.out.mono ?_
      rintro e w1 ⟨A1, c1, rfl, hP, hb⟩
      have l1 : w1.cell? ⟨w.heap.size + 1, 1, none⟩ = some (.int .i64 sec) := by
        have e := BlkAt.cell (BlkAt.after (BlkAt.new (w.alloc (.cells #[.string s, .int .i64 off, .slice A n c] 42)) #[.int .i64 d, .int .i64 sec] 35) hb) (i := 1) rfl
        simpa using e
      have HB := Lib.hid (two_boxes hb)
      clear hb hP
      go_wp2_with (go_at_call 41; refine (H1.out _).mono ?_; rintro e w' ⟨rfl, rfl⟩)
      go_ret2
      exact GivesI.none_ HB.out
    · have hv : frmV off ts 0 d sec = Zn.frm (Zn.locS d sec) (Zn.strs 0 off ts) ∧ frmE 0 sec = 0 := by unfold frmV frmE; simp [hs]
      rw [hv.1, hv.2]
      by_cases hsm : -2 ≤ d ∧ d ≤ 99422
      · exact rfromLocal_ok h s A n c d sec w hz ho hsm.1 hsm.2 hs
      · rw [frm_far h hsm hs]
        have hs2 := Zn.okD_iff.1 hs
        have H1 := Lib.hid (fun W => in_is (inB_yes (n := sec) (lo := 0) (hi := 86399) (by omega) (by omega)) W)
        have H2 := Lib.hid (fun W => small_any d W)
        have hin := inB_no (n := d) (lo := -2) (hi := 99422) (by omega)
        rw [hin] at H2
        clear hz h hs hs2 hin hv hsm
        go_enter Tryd.func30, Tryd.ntmps30
        go_wp2_with fail
        refine C.out.mono ?_
        rintro e w1 ⟨A1, c1, rfl, hP, hb⟩
        have LB : BlkAt w1 (w.heap.size + 1) #[.int .i64 d, .int .i64 sec] 35 := by
          have e := BlkAt.after (BlkAt.new (w.alloc (.cells #[.string s, .int .i64 off, .slice A n c] 42)) #[.int .i64 d, .int .i64 sec] 35) hb
          rwa [show (w.alloc (.cells #[.string s, .int .i64 off, .slice A n c] 42)).heap.size = w.heap.size + 1 by simp] at e
        obtain ⟨l0, l1⟩ := (show w1.cell? ⟨w.heap.size + 1, 0, none⟩ = some (.int .i64 d) ∧ w1.cell? ⟨w.heap.size + 1, 1, none⟩ = some (.int .i64 sec) from ⟨BlkAt.cell LB rfl, BlkAt.cell LB rfl⟩)
        have HB := Lib.hid (two_boxes hb)
        clear hb hP LB
        go_wp2_with (first | (go_at_call 41; refine (H1.out _).mono ?_; rintro e w' ⟨rfl, rfl⟩) | (go_at_call 42; refine (H2.out _).mono ?_; rintro e w' ⟨rfl, rfl⟩))
        go_ret2
        exact GivesI.none_ HB.out
  · have hne : (er != 0) = true := by simpa using he
    have hv : frmV off ts er d sec = [] ∧ frmE er sec = 8 := by unfold frmV frmE; simp [he]
    rw [hv.1, hv.2]
    clear hz h hv he
    go_enter Tryd.func30, Tryd.ntmps30
    go_wp2_with fail
    refine C.out.mono ?_
    rintro e w1 ⟨A1, c1, rfl, hP, hb⟩
    go_wp2_with fail
    go_ret2
    exact GivesI.none_ (two_boxes hb)
set_option maxHeartbeats 2000000 in
theorem rfirst_is {off : Int} {rs : List Zn.Rule} {ts : Zn.L} {er : Int} (h : Zn.trans off rs = (ts, er)) (s : ByteArray) (A : Option Addr) (n c : Nat) (d sec : Int) (w : World) (hz : ZIn w A n rs) (ho : I64 off) (hd : I64 d) :
    Calls Tryd.prog 16 #[.agg #[.string s, .int .i64 off, .slice A n c], .agg #[.int .i64 d, .int .i64 sec]] w (GivesF (fstV off ts er d sec) (fstE off ts er d sec) w) := by
  have C := Lib.hid (rtrans_is h s A n c _ ((hz.alloc (.cells #[.string s, .int .i64 off, .slice A n c] 42)).alloc (.cells #[.int .i64 d, .int .i64 sec] 35)) ho)
  by_cases he : er = 0
  · subst he
    cases hs : Zn.okD sec
    · have H1 := Lib.hid (fun W => in_is (inB_no (n := sec) (lo := 0) (hi := 86399) (by unfold Zn.okD at hs; simp at hs; omega)) W)
      have hv : fstV off ts 0 d sec = 0 ∧ fstE off ts 0 d sec = 1 := by unfold fstV fstE; simp [hs]
      rw [hv.1, hv.2]
      clear hz h hs hv
      go_enter Tryd.func16, Tryd.ntmps16
      go_wp2_with fail
      refine C.out.mono ?_
      rintro e w1 ⟨A1, c1, rfl, hP, hb⟩
      have l1 : w1.cell? ⟨w.heap.size + 1, 1, none⟩ = some (.int .i64 sec) := by
        have e := BlkAt.cell (BlkAt.after (BlkAt.new (w.alloc (.cells #[.string s, .int .i64 off, .slice A n c] 42)) #[.int .i64 d, .int .i64 sec] 35) hb) (i := 1) rfl
        simpa using e
      have HB := Lib.hid (two_boxes hb)
      clear hb hP
      go_wp2_with (go_at_call 41; refine (H1.out _).mono ?_; rintro e w' ⟨rfl, rfl⟩)
      go_ret2
      exact ⟨rfl, HB.out⟩
    · have hv : fstV off ts 0 d sec = fstR (Zn.fst (Zn.locS d sec) (Zn.strs 0 off ts)) ∧ fstE off ts 0 d sec = fstC (Zn.fst (Zn.locS d sec) (Zn.strs 0 off ts)) := by unfold fstV fstE; simp [hs]
      rw [hv.1, hv.2]
      by_cases hsm : -2 ≤ d ∧ d ≤ 99422
      · exact rfirst_ok h s A n c d sec w hz ho hsm.1 hsm.2 hs
      · by_cases hel : d < -2
        · rw [fst_early h hel hs]
          have hs2 := Zn.okD_iff.1 hs
          have H1 := Lib.hid (fun W => in_is (inB_yes (n := sec) (lo := 0) (hi := 86399) (by omega) (by omega)) W)
          clear hz h hs hs2 hv hsm
          go_enter Tryd.func16, Tryd.ntmps16
          go_wp2_with fail
          refine C.out.mono ?_
          rintro e w1 ⟨A1, c1, rfl, hP, hb⟩
          have LB : BlkAt w1 (w.heap.size + 1) #[.int .i64 d, .int .i64 sec] 35 := by
            have e := BlkAt.after (BlkAt.new (w.alloc (.cells #[.string s, .int .i64 off, .slice A n c] 42)) #[.int .i64 d, .int .i64 sec] 35) hb
            rwa [show (w.alloc (.cells #[.string s, .int .i64 off, .slice A n c] 42)).heap.size = w.heap.size + 1 by simp] at e
          obtain ⟨l0, l1⟩ := (show w1.cell? ⟨w.heap.size + 1, 0, none⟩ = some (.int .i64 d) ∧ w1.cell? ⟨w.heap.size + 1, 1, none⟩ = some (.int .i64 sec) from ⟨BlkAt.cell LB rfl, BlkAt.cell LB rfl⟩)
          have HB := Lib.hid (two_boxes hb)
          clear hb hP LB
          go_wp2_with (go_at_call 41; refine (H1.out _).mono ?_; rintro e w' ⟨rfl, rfl⟩)
          go_ret2
          exact ⟨rfl, HB.out⟩
        · have hlate : 99422 < d := by omega
          rw [fst_far h hlate hs]
          have hs2 := Zn.okD_iff.1 hs
          have H1 := Lib.hid (fun W => in_is (inB_yes (n := sec) (lo := 0) (hi := 86399) (by omega) (by omega)) W)
          have H2 := Lib.hid (fun W => small_any d W)
          have hin := inB_no (n := d) (lo := -2) (hi := 99422) (by omega)
          rw [hin] at H2
          clear hz h hs hs2 hin hv hsm
          go_enter Tryd.func16, Tryd.ntmps16
          go_wp2_with fail
          refine C.out.mono ?_
          rintro e w1 ⟨A1, c1, rfl, hP, hb⟩
          have LB : BlkAt w1 (w.heap.size + 1) #[.int .i64 d, .int .i64 sec] 35 := by
            have e := BlkAt.after (BlkAt.new (w.alloc (.cells #[.string s, .int .i64 off, .slice A n c] 42)) #[.int .i64 d, .int .i64 sec] 35) hb
            rwa [show (w.alloc (.cells #[.string s, .int .i64 off, .slice A n c] 42)).heap.size = w.heap.size + 1 by simp] at e
          obtain ⟨l0, l1⟩ := (show w1.cell? ⟨w.heap.size + 1, 0, none⟩ = some (.int .i64 d) ∧ w1.cell? ⟨w.heap.size + 1, 1, none⟩ = some (.int .i64 sec) from ⟨BlkAt.cell LB rfl, BlkAt.cell LB rfl⟩)
          have HB := Lib.hid (two_boxes hb)
          clear hb hP LB
          go_wp2_with (first | (go_at_call 41; refine (H1.out _).mono ?_; rintro e w' ⟨rfl, rfl⟩) | (go_at_call 42; refine (H2.out _).mono ?_; rintro e w' ⟨rfl, rfl⟩))
          go_ret2
          exact ⟨rfl, HB.out⟩
  · have hne : (er != 0) = true := by simpa using he
    have hv : fstV off ts er d sec = 0 ∧ fstE off ts er d sec = 8 := by unfold fstV fstE; simp [he]
    rw [hv.1, hv.2]
    clear hz h hv he
    go_enter Tryd.func16, Tryd.ntmps16
    go_wp2_with fail
    refine C.out.mono ?_
    rintro e w1 ⟨A1, c1, rfl, hP, hb⟩
    go_wp2_with fail
    go_ret2
    exact ⟨rfl, two_boxes hb⟩
end Go.Proofs.YthaacmmkignocaaDoor
