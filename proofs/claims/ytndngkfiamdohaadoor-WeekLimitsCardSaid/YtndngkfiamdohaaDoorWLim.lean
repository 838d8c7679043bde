/- The law WeekLimits returns true for all numbers. -/
import Derived.Test.YtndngkfiamdohaaDoorWlk
import Derived.Test.YtndngkfiamdohaaDoorZox
namespace Go.Proofs.YtndngkfiamdohaaDoor
open Go.RowKit
set_option linter.unusedVariables false
set_option linter.unusedSimpArgs false
set_option maxRecDepth 100000

/-- The first k windows of the limits. -/
def wl (k : Nat) : Wk.L := (List.range k).map fun (i : Nat) => ((i : Int) * 40000, (i : Int) * 40000 + 40000)
theorem wl_len (k : Nat) : (wl k).length = k := by simp [wl]
theorem wl_snoc (k : Nat) : wl (k + 1) = wl k ++ [((k : Int) * 40000, (k : Int) * 40000 + 40000)] := by simp [wl, List.range_succ]
def wmore : Wk.L := wl 14 ++ [(600000, 604800)]
def wover : Wk.L := (wl 14).set 5 (199999, 240000)
def wwhole : Wk.L := [(0, 604800)]
theorem wl_chk : Wk.chk (wl 14) = 0 := by kernel_rfl
theorem wmore_chk : Wk.chk wmore = 5 := by kernel_rfl
theorem wover_chk : Wk.chk wover = 6 := by kernel_rfl
theorem wl_lenW : Wk.lenW (wl 14) = 560000 := by kernel_rfl
theorem wwhole_chk : Wk.chk wwhole = 0 := by kernel_rfl
theorem wwhole_inv : Wk.invV wwhole = [] := by kernel_rfl
theorem wwhole_invE : Wk.invE wwhole = 0 := by kernel_rfl
theorem wwhole_rt : Wk.Rt 0 wwhole := ⟨Int.le_refl 0, by decide, by decide, trivial⟩
theorem wwhole_in (v : Int) : Wk.within wwhole (Wk.sow v) = true := by
  have := Wk.sow_bd v
  unfold wwhole
  rw [Wk.within_cons, decide_eq_true this]; rfl
theorem wwhole_tms {x t : Int} (h : x < t) : Wk.tms [] 0 [] wwhole x t = [(x, t)] := by
  have hu := Wk.tms_has (off := 0) (ts := []) wwhole_rt (show x ≤ t by omega)
  refine Spn.uniq _ _ hu.1 (Spn.chain_cons.2 ⟨h, (fun y hy => by cases hy), Spn.chain_nil⟩) (fun y => ?_)
  rw [hu.2.2 y, Spn.cov_cons]
  constructor
  · rintro ⟨a, b, -⟩; exact .inl ⟨a, b⟩
  · rintro (⟨a, b⟩ | a)
    · exact ⟨a, b, wwhole_in _⟩
    · exact absurd a (Spn.cov_nil y)
theorem wwhole_inV {x : Int} (h : 0 ≤ x) (h2 : x ≤ 8589934592) : inV 0 [] 0 wwhole x = true := by
  obtain ⟨e1, e2⟩ := secV_plain (off := 0) h h2
  unfold inV
  rw [e1, e2, wwhole_in, wwhole_chk]; rfl
/-- What is known once the lists are made. -/
structure LM (w : World) (A1 A2 A3 A4 : Option Addr) (W : World) : Prop where
  a1 : WIn W A1 14 (wl 14)
  a2 : WIn W A2 15 wmore
  a3 : WIn W A3 14 wover
  a4 : WIn W A4 1 wwhole
  bel : Below w.heap.size w W
theorem LM.after {w W W' : World} {A1 A2 A3 A4 : Option Addr} (h : LM w A1 A2 A3 A4 W) (hb : Below W.heap.size W W') : LM w A1 A2 A3 A4 W' := ⟨h.a1.below hb, h.a2.below hb, h.a3.below hb, h.a4.below hb, bstep h.bel hb⟩
theorem pairs_cells {W : World} {g n : Nat} {xs : Zn.L} (h : WIn W (some ⟨g, 0, none⟩) n xs) : ∀ i x, xs[i]? = some x → ∀ j, j < 2 → W.cell? ⟨g, 0 + i * 2 + j, none⟩ = some (ePair x j) := fun i x hx j hj => by
  obtain ⟨b', o', e, hlt, hc⟩ := h.at_ (by have := (List.getElem?_eq_some_iff.1 hx).1; omega)
  cases e
  exact hc i x hx j hj

/-- What is read and written of the sixth window. -/
theorem over_cells {w : World} {B g cap : Nat} (h : OwnL 24 2 ePair w B (.slice (some ⟨g, 0, none⟩) (0 + 14) cap) (wl 14)) :
    w.cell? ⟨g, 10, none⟩ = some (.int .i64 200000) ∧ w.frozen? ⟨g, 10, none⟩ = false ∧ B ≤ g ∧ g < w.heap.size ∧ PairsAt w (some ⟨g, 0, none⟩) (wl 14) := by
  rcases h.row with ⟨-, h0⟩ | ⟨g', cap', hv, h1, h2, h3, h4⟩
  · exact absurd (congrArg List.length h0) (by rw [wl_len]; decide)
  · cases hv
    obtain ⟨A9, c9, hv9, -, -, hS9⟩ := h.shape
    cases hv9
    obtain ⟨c0, f0⟩ := h4 5 (200000, 240000) rfl 0 (by omega)
    exact ⟨c0, f0, h1, h2, hS9⟩

set_option maxHeartbeats 8000000 in
theorem wlim_law (k : Int) (w : World) (hT : CivT w) (k1 : -9223372036854775808 ≤ k) (k2 : k ≤ 9223372036854775807) :
    Calls Tryd.prog 3 #[.int .i64 k] w fun e w' => e = .returned (.bool true) ∧ Below w.heap.size w w' := by
  have hM := fun W => Mod_any k 8589934592 W k1 k2 (by omega) (by omega)
  have hkm : 0 ≤ k % 8589934592 ∧ k % 8589934592 < 8589934592 := by omega
  generalize k % 8589934592 = x at hM hkm
  obtain ⟨x1, x2⟩ := hkm
  have HM := Lib.hid hM
  have HT := Lib.hid hT
  clear hM hT
  go_enter Tryd.func3, Tryd.ntmps3
  go_wp2_with fail
  go_loopw [3, 4] (fun v i wr => ∃ j : Nat, i = .int .i64 j ∧ j ≤ 14 ∧ Hid (OwnL 24 2 ePair wr w.heap.size v (wl j)) ∧ Hid (Below w.heap.size w wr)) (fun _ i _ => 14 - (intOf i).toNat)
  case atStart => exact ⟨0, rfl, by omega, Lib.hid (by rw [show wl 0 = [] from rfl]; exact OwnL.nil_ _ _), Lib.hid (Below.refl _ _)⟩
  case round =>
    obtain ⟨j, rfl, hj, HO, HB⟩ := hrel
    have hrz := HB.out.size
    by_cases hlt : j < 14
    · have hlen : (wl j).length ≤ 900000 := by rw [wl_len]; omega
      go_wp2_with (at_builtin; refine wp_append_one kWin _ rfl _ _ rfl w.heap.size _ (wl j) rfl (HO.out.alloc _) wr.heap.size ((j : Int) * 40000, (j : Int) * 40000 + 40000) rfl (pair_new (x := ((j : Int) * 40000, (j : Int) * 40000 + 40000)) rfl) hlen (by simp; omega) ?_; intro gg cap w3 hO3 hB3 hg3 hgo _)
      have B5 := Lib.hid ((HB.out.alloc hrz _).trans hB3)
      rw [← wl_snoc] at hO3
      have O5 := Lib.hid hO3
      clear hO3 hB3 hg3 hgo HO HB
      go_wp2_with fail
      go_roundw
      case rel => exact ⟨j + 1, by go_num, by omega, O5, B5⟩
      case measure => simp [intOf]; omega
    · obtain rfl : j = 14 := by omega
      rcases HO.out.row with ⟨-, h0⟩ | ⟨g, cap, rfl, hg1, hg2, hg3, hg4⟩
      · exact absurd (congrArg List.length h0) (by rw [wl_len]; decide)
      rw [wl_len] at HO hg3 ⊢
      obtain ⟨A9, c9, hv9, -, -, hS9⟩ := HO.out.shape
      rw [wl_len] at hv9
      cases hv9
      have W1 := Lib.hid (show WIn wr (some ⟨g, 0, none⟩) 14 (wl 14) from ⟨hS9, wl_len 14, by omega⟩)
      clear hS9 hg4 HO
      go_wp2_with (first | (at_builtin; refine wp_append_k kWin _ rfl _ _ rfl wr.heap.size _ [] rfl (OwnL.nil_ _ _) g 0 14 cap (wl 14) (wl_len 14) (by omega) rfl (pairs_cells W1.out) (by simp) (Nat.le_refl _) ?_; intro g2 cap2 w2 hO2 hB2 hg2' hgo2 _; (have hO2' := hO2); rw [List.nil_append, List.length_nil] at hO2'; (have O2 := Lib.hid hO2'); (have B2 := Lib.hid hB2); (have hz2 := hB2.size); clear hO2 hO2' hB2 hg2' hgo2) | ((at_builtin; refine wp_append_one kWin _ rfl _ _ rfl wr.heap.size _ (wl 14) rfl (O2.out.alloc _) w2.heap.size (600000, 604800) rfl (pair_new (x := (600000, 604800)) rfl) (by rw [wl_len]; omega) (by simp; omega) ?_; intro g3 cap3 w3 hO3 hB3 hg3' hgo3 _; (have B3 := Lib.hid (B2.out.trans (((Below.refl wr.heap.size w2).alloc hz2 _).trans hB3))); (have W3 := Lib.hid (W1.out.below B3.out)); (have hz3 := B3.out.size); rw [wl_len] at hO3; (have O3 := Lib.hid hO3); clear hO3 hB3 hg3' hgo3); rw [wl_len]) | (at_builtin; refine wp_append_k kWin _ rfl _ _ rfl w3.heap.size _ [] rfl (OwnL.nil_ _ _) g 0 14 cap (wl 14) (wl_len 14) (by omega) rfl (pairs_cells W3.out) (by simp) (Nat.le_refl _) ?_; intro g4 cap4 w4 hO4 hB4 hg4' hgo4 _; (have hO4' := hO4); rw [List.nil_append, List.length_nil] at hO4'; (have O4 := Lib.hid hO4'); (have B4 := Lib.hid hB4); (have hz4 := hB4.size); (have R4 := Lib.hid (over_cells hO4')); obtain ⟨q4, q5, q6, q7, q8⟩ := R4.out; clear hO4 hO4' hB4 hg4' hgo4))
      -- all lists, as they stand now
      obtain ⟨W5, hW5⟩ : ∃ W5 : World, (w4.setCell ⟨g4, 10, none⟩ (.int .i64 199999)).alloc (.cells #[.int .i64 0, .int .i64 604800] 24) = W5 := ⟨_, rfl⟩
      have b3 : Below w3.heap.size w3 W5 := by
        rw [← hW5]; exact (B4.out.setCell (by exact q6) _).alloc (by simp; exact hz4) _
      have b1 : Below wr.heap.size wr W5 := B3.out.trans (b3.mono hz3)
      have a1 : WIn W5 (some ⟨g, 0, none⟩) 14 (wl 14) := W1.out.below b1
      have a2 : WIn W5 (some ⟨g3, 0, none⟩) 15 wmore := by
        obtain ⟨A9, c9, hv9, -, -, hS9⟩ := O3.out.shape
        cases hv9
        exact ⟨hS9.below b3, by unfold wmore; simp [wl_len], by omega⟩
      have a3 : WIn W5 (some ⟨g4, 0, none⟩) 14 wover := by
        have h9 : ∀ j', j' < 2 → j' ≠ 0 → ePair (199999, 240000) j' = ePair (200000, 240000) j' := fun j' hj' hne => by
          have h8 : j' = 1 := by omega
          subst h8; rfl
        have h1 := ListAt.set1 (i := 5) (j := 0) (x := (200000, 240000)) (x' := (199999, 240000)) (u := .int .i64 199999) q8 rfl (by omega) rfl h9
        have h2 := h1.alloc (.cells #[.int .i64 0, .int .i64 604800] 24)
        rw [← hW5]
        exact ⟨h2, by simp [wover, wl_len], by omega⟩
      have a4 : WIn W5 (some ⟨w4.heap.size, 0, none⟩) 1 wwhole := by
        rw [← hW5]
        exact ⟨pairs_one (blk_new (by simp)), rfl, by omega⟩
      have K5 : LM w (some ⟨g, 0, none⟩) (some ⟨g3, 0, none⟩) (some ⟨g4, 0, none⟩) (some ⟨w4.heap.size, 0, none⟩) W5 := ⟨a1, a2, a3, a4, bstep HB.out b1⟩
      have HK5 := Lib.hid K5
      clear b1 b3 a1 a2 a3 a4 K5 q4 q5 q6 q7 q8 R4 O2 O3 O4 B2 B3 B4 W1 W3 HB hz2 hz3 hz4 hrz hg1 hg2 hg3
      rw [hW5]
      obtain ⟨b4, hb4⟩ : ∃ b4, w4.heap.size = b4 := ⟨_, rfl⟩
      rw [hb4] at HK5 ⊢
      clear hW5 hb4
      refine (HM.out _).mono ?_
      rintro e w6 ⟨rfl, rfl⟩
      obtain ⟨T, hTT⟩ : ∃ T, min (x + 34560000) 8589934592 = T := ⟨_, rfl⟩
      have hxT : x < T ∧ T ≤ 8589934592 ∧ T - x ≤ 34560000 := by omega
      obtain ⟨t1, t2, t3⟩ := hxT
      have htm := wwhole_tms t1
      obtain ⟨tv, te⟩ := tm_ok (l := wwhole) (f := x) (t := T) (r := [(x, T)]) wwhole_chk (okQ_ok (by omega) (by omega) (by omega) (by omega)) (by simp)
      have CT := fun W (h : CivT W) (hl : WIn W (some ⟨b4, 0, none⟩) 1 wwhole) => times_is (trans_nil okO0) ⟨#[]⟩ none 0 0 (some ⟨b4, 0, none⟩) 1 1 wwhole x T W (zin_nil h) ⟨by omega, by omega⟩ hl ⟨by omega, by omega⟩ ⟨by omega, by omega⟩
      rw [htm, tv, te] at CT
      have CI := fun W (h : CivT W) (hl : WIn W (some ⟨b4, 0, none⟩) 1 wwhole) => wkin_is (trans_nil okO0) ⟨#[]⟩ none 0 0 (some ⟨b4, 0, none⟩) 1 1 wwhole x W (zin_nil h) ⟨by omega, by omega⟩ hl
      rw [wwhole_inV (by omega) (by omega)] at CI
      have CV := fun W (hl : WIn W (some ⟨b4, 0, none⟩) 1 wwhole) => winv_is wwhole_inv wwhole_invE (some ⟨b4, 0, none⟩) 1 1 W hl
      have C1 := fun W (hl : WIn W (some ⟨g, 0, none⟩) 14 (wl 14)) => wchk_is wl_chk (some ⟨g, 0, none⟩) 14 cap W hl
      have C2 := fun W (hl : WIn W (some ⟨g3, 0, none⟩) 15 wmore) => wchk_is wmore_chk (some ⟨g3, 0, none⟩) 15 cap3 W hl
      have C3 := fun W (hl : WIn W (some ⟨g4, 0, none⟩) 14 wover) => wchk_is wover_chk (some ⟨g4, 0, none⟩) 14 cap4 W hl
      have C4 := fun W (hl : WIn W (some ⟨g, 0, none⟩) 14 (wl 14)) => wl_lenW ▸ wlen_any (some ⟨g, 0, none⟩) 14 cap (wl 14) W hl
      have HCT := Lib.hid CT
      have HCI := Lib.hid CI
      have HCV := Lib.hid CV
      have HC1 := Lib.hid C1
      have HC2 := Lib.hid C2
      have HC3 := Lib.hid C3
      have HC4 := Lib.hid C4
      clear htm tv te CT CI CV C1 C2 C3 C4
      go_wp2_with fail
      refine (HCT.out _ (HT.out.below HK5.out.bel) HK5.out.a4).mono ?_
      rintro e w7 ⟨A7, c7, rfl, hP7, b7⟩
      have HP7 := Lib.hid hP7
      have HK7 := Lib.hid (HK5.out.after b7)
      clear b7 hP7 HK5
      go_wp2_with fail
      refine (HCV.out _ HK7.out.a4).mono ?_
      rintro e w8 ⟨A8, c8, rfl, -, b8⟩
      have HP8 := Lib.hid (HP7.out.below b8)
      have HK8 := Lib.hid (HK7.out.after b8)
      clear b8 HK7 HP7
      go_wp2_with fail
      refine (HC1.out _ HK8.out.a1).mono ?_
      rintro e w9 ⟨rfl, b9⟩
      have HP9 := Lib.hid (HP8.out.below b9)
      have HK9 := Lib.hid (HK8.out.after b9)
      clear b9 HK8 HP8
      go_wp2_with fail
      refine (HC2.out _ HK9.out.a2).mono ?_
      rintro e w10 ⟨rfl, b10⟩
      have HP10 := Lib.hid (HP9.out.below b10)
      have HK10 := Lib.hid (HK9.out.after b10)
      clear b10 HK9 HP9
      go_wp2_with fail
      refine (HC3.out _ HK10.out.a3).mono ?_
      rintro e w11 ⟨rfl, b11⟩
      have HP11 := Lib.hid (HP10.out.below b11)
      have HK11 := Lib.hid (HK10.out.after b11)
      clear b11 HK10 HP10
      go_wp2_with fail
      refine (HC4.out _ HK11.out.a1).mono ?_
      rintro e w12 ⟨rfl, b12⟩
      have HP12 := Lib.hid (HP11.out.below b12)
      have HK12 := Lib.hid (HK11.out.after b12)
      clear b12 HK11 HP11
      go_wp2_with fail
      refine (HCI.out _ (HT.out.below HK12.out.bel) HK12.out.a4).mono ?_
      rintro e w13 ⟨rfl, b13⟩
      have HK13 := Lib.hid (HK12.out.after b13)
      obtain ⟨bl, of, e9, hb, hc⟩ := (HP12.out.below b13) (by simp)
      subst e9
      obtain ⟨d0, d1⟩ := pair_cells (hc 0 _ rfl)
      simp only [Nat.zero_mul, Nat.add_zero] at d0 d1
      have HS := Lib.hid (wsane_any w13 (HT.out.below HK13.out.bel))
      clear b13 HK12 HP12 hc
      go_wp2_with fail
      refine HS.out.mono ?_
      rintro e w14 ⟨rfl, b14⟩
      go_wp2_with fail
      go_ret
      exact ⟨rfl, bstep HK13.out.bel b14⟩
end Go.Proofs.YtndngkfiamdohaaDoor
