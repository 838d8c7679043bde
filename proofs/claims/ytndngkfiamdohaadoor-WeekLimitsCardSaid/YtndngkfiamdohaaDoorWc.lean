/- Package week: Invert. -/
import Derived.Test.YtndngkfiamdohaaDoorWa
namespace Go.Proofs.YtndngkfiamdohaaDoor
open Go.RowKit
set_option linter.unusedVariables false
set_option linter.unusedSimpArgs false
set_option maxRecDepth 100000

/-- The call hands back these pairs and this error. -/
theorem gives_own {T : TypeId} {w wr : World} {v : Value} {xs : Zn.L} {er : Int} (h : OwnL T 2 ePair wr w.heap.size v xs) (hb : Below w.heap.size w wr) : GivesT xs er w (.returned (.tuple #[v, .int .i64 er])) wr := by
  obtain ⟨A, c, rfl, -, -, hS⟩ := h.shape
  exact ⟨A, c, rfl, hS, hb⟩

set_option maxHeartbeats 8000000 in
theorem winv_any (A : Option Addr) (n c : Nat) (l : Wk.L) (w : World) (hA : WIn w A n l) :
    Calls Tryd.prog 10 #[.slice A n c] w (GivesT (Wk.invV l) (Wk.invE l) w) := by
  have hC := wchk_any A n c l w hA
  by_cases hc : Wk.chk l = 0
  · have hn14 : n ≤ 14 := by have := (Wk.chk_ok hc).2; have := hA.len; omega
    have hmem := fun x h => (Wk.chk_ok hc).1.mem x h
    obtain ⟨R, hR⟩ : ∃ R, Wk.inv 0 l = R := ⟨_, rfl⟩
    have hv : Wk.invV l = if 14 < R.length then [] else R := by unfold Wk.invV; rw [if_pos hc, hR]
    have he : Wk.invE l = if 14 < R.length then 5 else 0 := by unfold Wk.invE; rw [if_pos hc, hR]
    obtain ⟨RV, hRV⟩ : ∃ RV, Wk.invV l = RV := ⟨_, rfl⟩
    obtain ⟨RE, hRE⟩ : ∃ RE, Wk.invE l = RE := ⟨_, rfl⟩
    rw [hRV] at hv
    rw [hRE] at he
    rw [hRV, hRE]
    have HV1 := Lib.hid (show 14 < R.length → RV = [] ∧ RE = 5 from fun h => by rw [hv, he, if_pos h, if_pos h]; exact ⟨rfl, rfl⟩)
    have HV2 := Lib.hid (show ¬ 14 < R.length → RV = R ∧ RE = 0 from fun h => by rw [hv, he, if_neg h, if_neg h]; exact ⟨rfl, rfl⟩)
    rw [hc] at hC
    have HA := Lib.hid hA
    have HC := Lib.hid hC
    have HM := Lib.hid hmem
    have HR := Lib.hid hR
    clear hA hC hc hmem hR hv he hRV hRE
    go_enter Tryd.func10, Tryd.ntmps10
    go_wp2_with fail
    refine HC.out.mono ?_
    rintro e w1 ⟨rfl, b1⟩
    have HB1 := Lib.hid b1
    clear b1 HC
    go_wp2_with fail
    go_loopw [4, 5, 13] (fun vo ve i wr => ∃ (k : Nat) (en : Int) (out : Zn.L), k ≤ n ∧ i = .int .i64 k ∧ ve = .int .i64 en ∧ out.length ≤ k ∧ Hid (out ++ Wk.inv en (l.drop k) = R) ∧ Hid (OwnL 24 2 ePair wr w.heap.size vo out) ∧ Hid (Below w.heap.size w wr)) (fun _ _ i _ => n - (intOf i).toNat)
    case atStart => exact ⟨0, 0, [], Nat.zero_le _, rfl, rfl, by simp, Lib.hid (by simpa using HR.out), Lib.hid (OwnL.nil_ _ _), HB1⟩
    case round =>
      clear HB1 HR
      obtain ⟨k, en, out, hk, rfl, rfl, hol, HR, HO, HB⟩ := hrel
      by_cases hlt : k < n
      · obtain ⟨a, b, bl, of, hx, rfl, hb, c0, c1⟩ := (HA.out.below HB.out).get hlt
        have hrz := HB.out.size
        have hst := HR.out
        rw [drop_cons' hx, Wk.inv] at hst
        simp only at hst
        have HST := Lib.hid hst
        have hol2 : out.length ≤ 900000 := by omega
        have HNE := Lib.hid (own_block HO.out (Nat.le_refl _))
        clear hx hst HR
        by_cases h1 : en < a
        · have N := Lib.hid (show (out ++ [(en, a)]) ++ Wk.inv b (l.drop (k + 1)) = R by rw [← HST.out, if_pos h1]; simp)
          have PB : PairBlk (wr.alloc (.cells #[.int .i64 a, .int .i64 b] 24)) wr.heap.size (a, b) 24 := BlkAt.new _ _ _
          have HPB := Lib.hid PB
          clear HST PB
          go_wp2_with (at_builtin; refine wp_append_one kWin _ rfl _ _ rfl w.heap.size _ out rfl ((HO.out.alloc _).alloc _) (wr.heap.size + 1) (en, a) rfl (pair_new (x := (en, a)) (by simp)) hol2 (by simp; omega) ?_; intro gg cap w3 hO3 hB3 hg3 hgo _; have P5 : PairBlk w3 wr.heap.size (a, b) 24 := (BlkAt.alloc HPB.out _).grown hg3 (fun e => HNE.out e.symm); obtain ⟨d0, d1⟩ := PairBlk.cells P5; simp only at d0 d1)
          have B5 : Below w.heap.size w w3 := ((HB.out.alloc hrz _).alloc (by simp; omega) _).trans hB3
          have O5 := Lib.hid hO3
          have B5 := Lib.hid B5
          clear hO3 hB3 hg3 hgo P5 c0 c1
          go_wp2_with fail
          go_roundw
          case rel => exact ⟨k + 1, b, out ++ [(en, a)], by omega, by go_num, rfl, by simp; omega, N, O5, B5⟩
          case measure => simp [intOf]; omega
        · have N := Lib.hid (show out ++ Wk.inv b (l.drop (k + 1)) = R by rw [← HST.out, if_neg h1])
          clear HST
          go_wp2_with fail
          go_roundw
          case rel => exact ⟨k + 1, b, out, by omega, by go_num, rfl, by omega, N, Lib.hid (HO.out.alloc _), Lib.hid (HB.out.alloc hrz _)⟩
          case measure => simp [intOf]; omega
      · have hst := HR.out
        rw [List.drop_of_length_le (by have := HA.out.len; omega), Wk.inv] at hst
        have HST := Lib.hid hst
        have hol2 : out.length ≤ 900000 := by omega
        have hrz := HB.out.size
        clear hst HR
        by_cases h1 : en < 604800
        · have N := Lib.hid (show out ++ [(en, 604800)] = R by rw [← HST.out, if_pos h1])
          have hRl : R.length = out.length + 1 := by rw [← N.out]; simp
          clear HST
          by_cases hl : 14 < out.length + 1
          · have g1 : (14 : Int) < (out.length : Int) + 1 := by omega
            obtain ⟨rfl, rfl⟩ := HV1.out (by omega)
            go_wp2_with (at_builtin; refine wp_append_one kWin _ rfl _ _ rfl w.heap.size _ out rfl (HO.out.alloc _) wr.heap.size (en, 604800) rfl (pair_new (x := (en, 604800)) rfl) hol2 (by simp; omega) ?_; intro gg cap w3 hO3 hB3 hg3 hgo _)
            have B5 : Below w.heap.size w w3 := (HB.out.alloc hrz _).trans hB3
            clear hO3 hB3 hg3 hgo
            go_wp2_with fail
            go_ret2
            exact GivesT.none_ B5
          · have g1 : ¬ (14 : Int) < (out.length : Int) + 1 := by omega
            obtain ⟨rfl, rfl⟩ := HV2.out (by omega)
            go_wp2_with (at_builtin; refine wp_append_one kWin _ rfl _ _ rfl w.heap.size _ out rfl (HO.out.alloc _) wr.heap.size (en, 604800) rfl (pair_new (x := (en, 604800)) rfl) hol2 (by simp; omega) ?_; intro gg cap w3 hO3 hB3 hg3 hgo _)
            have B5 : Below w.heap.size w w3 := (HB.out.alloc hrz _).trans hB3
            have O5 := Lib.hid hO3
            clear hO3 hB3 hg3 hgo
            go_wp2_with fail
            go_ret2
            exact N.out ▸ gives_own O5.out B5
        · have N := Lib.hid (show out = R by rw [← HST.out, if_neg h1]; simp)
          clear HST
          have N2 := N.out
          subst N2
          obtain ⟨A1, c1, rfl, -, -, hS⟩ := HO.out.shape
          have HS := Lib.hid hS
          obtain ⟨q, hq⟩ : ∃ q, out.length = q := ⟨_, rfl⟩
          have HQ := Lib.hid hq
          rw [hq]
          clear hS N HO
          by_cases hl : 14 < q
          · have g1 : (14 : Int) < (q : Int) := by omega
            obtain ⟨rfl, rfl⟩ := HV1.out (by rw [HQ.out]; exact hl)
            go_wp2_with fail
            go_ret2
            exact GivesT.none_ HB.out
          · have g1 : ¬ (14 : Int) < (q : Int) := by omega
            obtain ⟨rfl, rfl⟩ := HV2.out (by rw [HQ.out]; exact hl)
            go_wp2_with fail
            go_ret2
            exact ⟨A1, c1, by rw [HQ.out]; rfl, HS.out, HB.out⟩
  · have hv : Wk.invV l = [] := by unfold Wk.invV; rw [if_neg hc]
    have he : Wk.invE l = 8 := by unfold Wk.invE; rw [if_neg hc]
    rw [hv, he]
    obtain ⟨R, hR⟩ : ∃ R, Wk.chk l = R := ⟨_, rfl⟩
    rw [hR] at hC hc
    have hne : (R != 0) = true := by simpa using hc
    have HC := Lib.hid hC
    clear hA hC hR hc hv he
    go_enter Tryd.func10, Tryd.ntmps10
    go_wp2_with fail
    refine HC.out.mono ?_
    rintro e w1 ⟨rfl, b1⟩
    go_wp2_with fail
    go_ret2
    exact GivesT.none_ b1
theorem winv_is {l : Wk.L} {v : Zn.L} {e : Int} (h : Wk.invV l = v) (h2 : Wk.invE l = e) (A : Option Addr) (n c : Nat) (w : World) (hA : WIn w A n l) :
    Calls Tryd.prog 10 #[.slice A n c] w (GivesT v e w) := h ▸ h2 ▸ winv_any A n c l w hA
end Go.Proofs.YtndngkfiamdohaaDoor
