/- Package week: Times. -/
import Derived.Test.YtndngkfiamdohaaDoorWe
import Derived.Test.YtndngkfiamdohaaDoorWc
namespace Go.Proofs.YtndngkfiamdohaaDoor
open Go.RowKit
set_option linter.unusedVariables false
set_option linter.unusedSimpArgs false
set_option maxRecDepth 100000

def okQ (f t : Int) : Bool := decide (0 ≤ f ∧ f ≤ t ∧ t ≤ 8589934592 ∧ t - f ≤ 34560000)
/-- The error of Times, and the set. -/
def tmE (er : Int) (l : Wk.L) (f t : Int) (r : Wk.L) : Int := if er ≠ 0 then 8 else if Wk.chk l ≠ 0 then 8 else if okQ f t = false then 1 else if 4096 < r.length then 5 else 0
def tmV (er : Int) (l : Wk.L) (f t : Int) (r : Wk.L) : Wk.L := if er ≠ 0 then [] else if Wk.chk l ≠ 0 then [] else if okQ f t = false then [] else if 4096 < r.length then [] else r
theorem addK_len (l : Wk.L) (f t : Int) : ∀ (k : Nat) (m : Int) (s : Wk.L), (Wk.addK l f t k m s).length ≤ s.length + l.length * k
  | 0, m, s => by simp [Wk.addK]
  | k + 1, m, s => by
    have h1 := addK_len l f t k (m + 604800) (Wk.addW l f t m s)
    have h2 := addW_len l f t m s
    rw [Wk.addK, Nat.mul_succ]; omega
theorem addR_len {l : Wk.L} {off f t : Int} (s : Wk.L) (hc : l.length ≤ 14) (hft : f < t → t - f ≤ 34560000) : (Wk.addR l off f t s).length ≤ s.length + 840 := by
  unfold Wk.addR
  split
  · omega
  · have h1 := addK_len l f t (Wk.wks (f - Wk.sow (f + off)) t) (f - Wk.sow (f + off)) s
    have h2 := Wk.sow_bd (f + off)
    have h3 := hft (by omega)
    have h4 : Wk.wks (f - Wk.sow (f + off)) t ≤ 60 := by unfold Wk.wks; omega
    have h5 := Nat.mul_le_mul hc h4
    omega
theorem stp_bel {w w1 wr : World} {v' : Value} (h : Stp w1 wr (.slice none 0 0) v') (hb : Below w.heap.size w w1) : Below w.heap.size w wr :=
  hb.trans ((Below.refl _ _).grown h.1 hb.size (fun q hq => by cases hq))
theorem stp_ap {w w1 wr : World} {v' : Value} {A : Option Addr} {n : Nat} {l : Wk.L} (h : Stp w1 wr (.slice none 0 0) v') (hb : Below w.heap.size w w1) (hA : WIn w A n l) : 0 < n → ∀ ad, A = some ad → v'.ownBlock ≠ some ad.block := fun hn ad ea e => by
  obtain ⟨b, o, ea2, hlt, -⟩ := hA.at_ (by have := hA.len; omega)
  rw [ea] at ea2; cases ea2
  rcases h.2 _ e with h3 | h3
  · cases h3
  · have := hb.size; simp only at h3; omega

theorem box_zone {w w1 : World} {s : ByteArray} {off : Int} {A : Option Addr} {n c : Nat} (hb : Below (w.alloc (.cells #[.string s, .int .i64 off, .slice A n c] 32)).heap.size (w.alloc (.cells #[.string s, .int .i64 off, .slice A n c] 32)) w1) : ZBlk w1 w.heap.size s off A n c := BlkAt.after (BlkAt.new w _ _) hb

set_option maxHeartbeats 8000000 in
theorem times_is {off : Int} {rs : List Zn.Rule} {ts : Zn.L} {er : Int} (h : Zn.trans off rs = (ts, er)) (s : ByteArray) (A : Option Addr) (n c : Nat) (A2 : Option Addr) (n2 c2 : Nat) (l : Wk.L) (f t : Int) (w : World) (hz : ZIn w A n rs) (ho : I64 off) (hl : WIn w A2 n2 l) (hf : I64 f) (ht : I64 t) :
    Calls Tryd.prog 9 #[.agg #[.string s, .int .i64 off, .slice A n c], .slice A2 n2 c2, .int .i64 f, .int .i64 t] w (GivesT (tmV er l f t (Wk.tms [] off ts l f t)) (tmE er l f t (Wk.tms [] off ts l f t)) w) := by
  have C := Lib.hid (trans_is h s A n c _ (hz.alloc (.cells #[.string s, .int .i64 off, .slice A n c] 32)) ho)
  obtain ⟨R, hR⟩ : ∃ R, Wk.tms [] off ts l f t = R := ⟨_, rfl⟩
  rw [hR]
  obtain ⟨RV, hRV⟩ : ∃ RV, tmV er l f t R = RV := ⟨_, rfl⟩
  obtain ⟨RE, hRE⟩ : ∃ RE, tmE er l f t R = RE := ⟨_, rfl⟩
  rw [hRV, hRE]
  unfold tmV at hRV
  unfold tmE at hRE
  have HL := Lib.hid hl
  have HT := Lib.hid hz.civ
  by_cases he : er = 0
  · subst he
    rw [if_neg (by simp)] at hRV hRE
    obtain ⟨k1, k2, k3, k4, k5, k6, k7, k8⟩ := Zn.trans_ok h
    by_cases hc : Wk.chk l = 0
    · rw [if_neg (by simpa using hc)] at hRV hRE
      have HC := fun W (hW : WIn W A2 n2 l) => hc ▸ wchk_any A2 n2 c2 l W hW
      have CH := Lib.hid HC
      clear HC
      by_cases hq : okQ f t = true
      · rw [if_neg (by rw [hq]; decide)] at hRV hRE
        have hq2 : 0 ≤ f ∧ f ≤ t ∧ t ≤ 8589934592 ∧ t - f ≤ 34560000 := by unfold okQ at hq; simpa using hq
        obtain ⟨q1, q2, q3, q4⟩ := hq2
        have HV1 := Lib.hid (show 4096 < R.length → RV = [] ∧ RE = 5 from fun h => by rw [← hRV, ← hRE, if_pos h, if_pos h]; exact ⟨rfl, rfl⟩)
        have HV2 := Lib.hid (show ¬ 4096 < R.length → RV = R ∧ RE = 0 from fun h => by rw [← hRV, ← hRE, if_neg h, if_neg h]; exact ⟨rfl, rfl⟩)
        have HR := Lib.hid hR
        have HK1 := Lib.hid k1
        have HK8 := Lib.hid k8
        have HCC := Lib.hid hc
        obtain ⟨N, hN⟩ : ∃ N, ts.length = N := ⟨_, rfl⟩
        have hN2 : N ≤ 640 := by omega
        have HN := Lib.hid hN
        clear hRV hRE hR k1 k2 k3 k4 k5 k6 k7 k8 hc hq h hz hl hN
        go_enter Tryd.func9, Tryd.ntmps9
        go_wp2_with fail
        refine C.out.mono ?_
        rintro e w1 ⟨A1, c1, rfl, hP, hb⟩
        have HZB := Lib.hid (box_zone hb)
        have HB1 := Lib.hid (below_alloc_call hb)
        have HP := Lib.hid hP
        clear hb hP C
        go_wp2_with fail
        refine (CH.out _ (HL.out.below HB1.out)).mono ?_
        rintro e w2 ⟨rfl, b2⟩
        have HB2 := Lib.hid (bstep HB1.out b2)
        have HP2 := Lib.hid (HP.out.below b2)
        obtain ⟨z0, z1, z2⟩ := ZBlk.cells (BlkAt.after HZB.out b2)
        clear b2 HB1 HP HZB
        rw [HN.out]
        go_wp2_with fail
        go_loopw [2, 12, 13, 49] (fun vf v' vo i wr => ∃ (k : Nat) (f' o' : Int) (s' : Wk.L), k ≤ N ∧ i = .int .i64 k ∧ vf = .int .i64 f' ∧ vo = .int .i64 o' ∧ f ≤ f' ∧ Hid (Zn.okO o' = true) ∧ Hid (Wk.tms s' o' (ts.drop k) l f' t = R) ∧ s'.length ≤ 840 * k ∧ Hid (OwnL 38 2 ePair wr w.heap.size v' s') ∧ Hid (Stp w2 wr (.slice none 0 0) v')) (fun _ _ _ i _ => N - (intOf i).toNat)
        case atStart => exact ⟨0, f, off, [], Nat.zero_le _, rfl, rfl, rfl, Int.le_refl _, HK1, Lib.hid (by rw [List.drop_zero]; exact HR.out), by simp, Lib.hid (OwnL.nil_ _ _), Lib.hid (Stp.refl _ _)⟩
        case round =>
          clear HR HK1
          obtain ⟨k, f', o', s', hk, rfl, rfl, rfl, hf', HO1, HR, hsl, HO, HS⟩ := hrel
          have HBR := Lib.hid (stp_bel HS.out HB2.out)
          have hrz := HBR.out.size
          have hT1 := HT.out.below HBR.out
          have hW1 := HL.out.below HBR.out
          have hap := stp_ap HS.out HB2.out HL.out
          by_cases hlt : k < N
          · obtain ⟨⟨a, o2⟩, hx⟩ := get_ex (xs := ts) (i := k) (by have := HN.out; omega)
            obtain ⟨b, of, rfl, hb, hcc⟩ := (HP2.out.stp (fun _ ad e h => by cases h) HS.out) (by have := HN.out; omega)
            obtain ⟨c0, c1⟩ := pair_cells (hcc k _ hx)
            simp only at c0 c1
            have hk8 := Lib.hid (HK8.out _ (List.mem_of_getElem? hx))
            have hr := HR.out
            rw [drop_cons' hx, Wk.tms] at hr
            have HR2 := Lib.hid hr
            obtain ⟨mn, hmn⟩ : ∃ mn, min a t = mn := ⟨_, rfl⟩
            rw [hmn] at HR2
            have PB : PairBlk (wr.alloc (.cells #[.int .i64 a, .int .i64 o2] 66)) wr.heap.size (a, o2) 66 := BlkAt.new _ _ _
            have HPB := Lib.hid PB
            have HNE := Lib.hid (own_block HO.out (Nat.le_refl _))
            have CA := Lib.hid (addR_any _ s' A2 n2 c2 l o' f' mn w.heap.size _ (HO.out.alloc (.cells #[.int .i64 a, .int .i64 o2] 66)) (by omega) (by simp; omega) (hT1.below ((Below.refl _ _).alloc (Nat.le_refl _) _)) (hW1.alloc _) hap HCC.out HO1.out (fun h => by omega))
            have HLN := Lib.hid (addR_len (l := l) (off := o') (f := f') (t := mn) s' (Wk.chk_ok HCC.out).2 (fun h => by omega))
            clear hcc hx hr HR PB hT1 hW1 hap
            go_wp2_with fail
            refine CA.out.mono ?_
            rintro e w3 ⟨v3, rfl, O3, S3⟩
            have P5 : PairBlk w3 wr.heap.size (a, o2) 66 := BlkAt.grown HPB.out S3.1 (fun e => HNE.out e.symm)
            obtain ⟨d0, d1⟩ := PairBlk.cells P5
            simp only at d0 d1
            have HO3 := Lib.hid O3
            have HS3 := Lib.hid ((HS.out.alloc (.cells #[.int .i64 a, .int .i64 o2] 66)).trans S3)
            clear P5 O3 S3 CA HO HS c0 c1
            go_wp2_with fail
            go_quiet (fail)
            go_wp2_with fail
            go_roundw
            case rel => exact ⟨k + 1, max a f', o2, _, by omega, by go_num, rfl, rfl, by omega, hk8, HR2, by have := HLN.out; omega, HO3, Lib.hid (HS3.out.drewN _)⟩
            case measure => simp [intOf]; omega
          · have hr := HR.out
            rw [List.drop_of_length_le (by have := HN.out; omega), Wk.tms] at hr
            have CA := Lib.hid (addR_any _ s' A2 n2 c2 l o' f' t w.heap.size _ HO.out (by omega) hrz hT1 hW1 hap HCC.out HO1.out (fun h => by omega))
            rw [hr] at CA
            clear hr HR hT1 hW1 hap
            go_wp2_with fail
            refine CA.out.mono ?_
            rintro e w3 ⟨v3, rfl, O3, S3⟩
            have HS3 := Lib.hid (stp_bel (HS.out.trans S3) HB2.out)
            obtain ⟨A3, c3, rfl, -, -, hS⟩ := O3.shape
            have HS4 := Lib.hid hS
            obtain ⟨q, hq⟩ : ∃ q, R.length = q := ⟨_, rfl⟩
            have HQ := Lib.hid hq
            rw [hq]
            clear O3 S3 CA HO HS hS
            by_cases hl4 : 4096 < q
            · have g1 : (4096 : Int) < (q : Int) := by omega
              obtain ⟨rfl, rfl⟩ := HV1.out (by rw [HQ.out]; exact hl4)
              go_wp2_with fail
              go_ret2
              exact GivesT.none_ HS3.out
            · have g1 : ¬ (4096 : Int) < (q : Int) := by omega
              obtain ⟨rfl, rfl⟩ := HV2.out (by rw [HQ.out]; exact hl4)
              go_wp2_with fail
              go_ret2
              exact ⟨A3, c3, by rw [HQ.out]; rfl, HS4.out, HS3.out⟩
      · have hq' : okQ f t = false := by simpa using hq
        rw [if_pos hq'] at hRV hRE
        subst hRV hRE
        have hcs : f < 0 ∨ (¬ f < 0 ∧ t < f) ∨ (¬ f < 0 ∧ ¬ t < f ∧ 8589934592 < t) ∨ (¬ f < 0 ∧ ¬ t < f ∧ ¬ 8589934592 < t ∧ 34560000 < t - f) := by unfold okQ at hq'; simp at hq'; omega
        clear hq hq' hc k1 k2 k3 k4 k5 k6 k7 k8 h hz hl hR
        rcases hcs with h1 | ⟨h1, h2⟩ | ⟨h1, h2, h3⟩ | ⟨h1, h2, h3, h4⟩
        all_goals
          go_enter Tryd.func9, Tryd.ntmps9
          go_wp2_with fail
          refine C.out.mono ?_
          rintro e w1 ⟨A1, c1, rfl, hP, hb⟩
          have HB1 := Lib.hid (below_alloc_call hb)
          clear hb hP
          go_wp2_with fail
          refine (CH.out _ (HL.out.below HB1.out)).mono ?_
          rintro e w2 ⟨rfl, b2⟩
          have HB2 := Lib.hid (bstep HB1.out b2)
          clear b2
          go_wp2_with fail
          go_ret2
          exact GivesT.none_ HB2.out
    · rw [if_pos hc] at hRV hRE
      subst hRV hRE
      obtain ⟨Q, hQ⟩ : ∃ Q, Wk.chk l = Q := ⟨_, rfl⟩
      rw [hQ] at hc
      have hne : (Q != 0) = true := by simpa using hc
      have HC := fun W (hW : WIn W A2 n2 l) => hQ ▸ wchk_any A2 n2 c2 l W hW
      have CH := Lib.hid HC
      clear HC hc k1 k2 k3 k4 k5 k6 k7 k8 h hz hl hR
      go_enter Tryd.func9, Tryd.ntmps9
      go_wp2_with fail
      refine C.out.mono ?_
      rintro e w1 ⟨A1, c1, rfl, hP, hb⟩
      have HB1 := Lib.hid (below_alloc_call hb)
      clear hb hP
      go_wp2_with fail
      refine (CH.out _ (HL.out.below HB1.out)).mono ?_
      rintro e w2 ⟨rfl, b2⟩
      have HB2 := Lib.hid (bstep HB1.out b2)
      clear b2
      go_wp2_with fail
      go_ret2
      exact GivesT.none_ HB2.out
  · rw [if_pos he] at hRV hRE
    subst hRV hRE
    have hne : (er != 0) = true := by simpa using he
    clear he h hz hl hR
    go_enter Tryd.func9, Tryd.ntmps9
    go_wp2_with fail
    refine C.out.mono ?_
    rintro e w1 ⟨A1, c1, rfl, hP, hb⟩
    have HB1 := Lib.hid (below_alloc_call hb)
    clear hb hP
    go_wp2_with fail
    go_ret2
    exact GivesT.none_ HB1.out
end Go.Proofs.YtndngkfiamdohaaDoor
