/- The law SyntaxBack returns true for every list of numbers. -/
import Derived.Test.YtoohijffkbkikaaGreatDoorYe
namespace Go.Proofs.YtoohijffkbkikaaGreatDoor
open Go.RowKit
set_option linter.unusedVariables false
set_option linter.unusedSimpArgs false
set_option maxRecDepth 100000

/-- Cells and lists that a drawn region reads. -/
theorem keepR {a1 a2 a3 : Addr} {v1 v2 v3 : Value} {T1 T2 : Option Addr} {ts : List Lx.Tk} {W wc w' : World} (h : wc.cell? a1 = some v1 ∧ wc.cell? a2 = some v2 ∧ wc.cell? a3 = some v3 ∧ ListAt 3 eTok wc T1 ts ∧ ListAt 3 eTok wc T2 ts ∧ Below W.heap.size W wc) (hb : Below wc.heap.size wc w') :
    w'.cell? a1 = some v1 ∧ w'.cell? a2 = some v2 ∧ w'.cell? a3 = some v3 ∧ ListAt 3 eTok w' T1 ts ∧ ListAt 3 eTok w' T2 ts ∧ Below W.heap.size W w' :=
  ⟨cell_lift h.1 hb, cell_lift h.2.1 hb, cell_lift h.2.2.1 hb, h.2.2.2.1.below hb, h.2.2.2.2.1.below hb, bstep h.2.2.2.2.2 hb⟩
theorem sR1 {a b c d e f : Prop} (h : a ∧ b ∧ c ∧ d ∧ e ∧ f) : d := h.2.2.2.1
theorem sR2 {a b c d e f : Prop} (h : a ∧ b ∧ c ∧ d ∧ e ∧ f) : e := h.2.2.2.2.1
theorem sRB {a b c d e f : Prop} (h : a ∧ b ∧ c ∧ d ∧ e ∧ f) : f := h.2.2.2.2.2
theorem data_list (l : List UInt8) : (⟨l.toArray⟩ : ByteArray).data.toList = l := rfl
set_option maxHeartbeats 16000000 in
theorem sback_any (A : Option Addr) (n c : Nat) (zs : List Int) (w : World) (hT : LexT w) (hA : NumsAt w A zs) (hn : zs.length = n) (hf : ∀ z ∈ zs, -9223372036854775808 ≤ z ∧ z ≤ 9223372036854775807) :
    Calls Tryz.prog 4 #[.slice A n c] w fun e w' => e = .returned (.bool true) ∧ Below w.heap.size w w' := by
  have HT := Lib.hid hT
  clear hT
  by_cases h5 : n ≤ 500
  · have hl : decide ((n : Int) ≤ 500) = true := by simp; omega
    have D0 := Lib.hid (Dice.start (c := c) hA hn h5 hf)
    clear hA hn hf
    go_enter Tryz.func4, Tryz.ntmps4
    go_wp2_with fail
    refine (Light_any A n c _).mono ?_
    rw [hl]
    rintro e w' ⟨rfl, rfl⟩
    go_wp2_with fail
    refine (Roll_any A n c _).mono ?_
    rintro e w' ⟨rfl, rfl⟩
    go_wp2_with fail
    refine (draw_is w.heap.size n c A zs _ D0.out).mono ?_
    rintro e w1 ⟨L, xs, x, rfl, hG, hg, _⟩
    have B1 := Lib.hid (below_of_grown ((Below.refl _ w).alloc (Nat.le_refl _) (.cells #[.slice A n c, .int .i64 0] 52)) hg (by simp) (Nat.le_refl _))
    have T1 := Lib.hid (HT.out.below B1.out)
    obtain ⟨ss, ys, hF⟩ := back_facts hG
    have HLz := Lib.hid (show L.size ≤ 65536 by have := hG.size; rw [Lib.size_eq]; omega)
    have HF := Lib.hid hF
    have hm9 := hF.few
    obtain ⟨m, hm⟩ : ∃ m, ss.length = m := ⟨_, rfl⟩
    have HM := Lib.hid hm
    have HM2 := Lib.hid (show (numS 0 ss).length = m by rw [num_len]; exact hm)
    have HFz := Lib.hid (show (⟨(flat ys).toArray⟩ : ByteArray).size ≤ 65536 by
      rw [ba_size]
      have h1 := flat_len ys hF.lines.small
      have h2 : ys.length * 513 ≤ 9 * 513 := Nat.mul_le_mul_right _ (by rw [← hF.lines.1]; omega)
      omega)
    rw [hm] at hm9
    clear hG hg hF D0 hl hm
    go_wp2_with fail
    refine (parse_is (s := L) HF.out.first HLz.out _ T1.out).mono ?_
    rintro e w2 ⟨A2, c2, rfl, hs2, hc2, b2⟩
    simp only at hs2 hc2 ⊢
    rw [HM.out] at hc2 ⊢
    have HS2 := Lib.hid hs2
    have B2 := Lib.hid (bstep B1.out b2)
    have T2 := Lib.hid (T1.out.below b2)
    clear hs2 b2 B1 T1
    go_wp2_with fail
    refine (stext_is HF.out.lines A2 m c2 _ T2.out HS2.out HM.out hc2 (by omega)).mono ?_
    rintro e w3 ⟨rfl, b3⟩
    have HS3 := Lib.hid (HS2.out.below b3)
    have B3 := Lib.hid (bstep B2.out b3)
    have T3 := Lib.hid (T2.out.below b3)
    clear b3 B2 T2 HS2
    go_wp2_with fail
    refine (parse_is (s := ⟨(flat ys).toArray⟩) HF.out.again HFz.out _ T3.out).mono ?_
    rintro e w4 ⟨A4, c4, rfl, hs4, hc4, b4⟩
    simp only at hs4 hc4 ⊢
    rw [HM2.out] at hc4 ⊢
    have HS4 := Lib.hid (HS3.out.below b4)
    have HQ4 := Lib.hid hs4
    have B4 := Lib.hid (bstep B3.out b4)
    have T4 := Lib.hid (T3.out.below b4)
    clear b4 hs4 B3 T3 HS3
    go_wp2_with fail
    refine (stext_is (HF.out.lines.num 0) A4 m c4 _ T4.out HQ4.out HM2.out hc4 (by omega)).mono ?_
    rintro e w5 ⟨rfl, b5⟩
    have HS5 := Lib.hid (HS4.out.below b5)
    have HQ5 := Lib.hid (HQ4.out.below b5)
    have B5 := Lib.hid (bstep B4.out b5)
    have T5 := Lib.hid (T4.out.below b5)
    clear b5 B4 T4 HS4 HQ4
    go_wp2_with fail
    go_loopw [78] (fun i wr => ∃ k : Nat, k ≤ m ∧ i = .int .i64 k ∧ Hid (Below w5.heap.size w5 wr)) (fun i _ => m - (intOf i).toNat)
    case atStart => exact ⟨0, Nat.zero_le _, rfl, Lib.hid (Below.refl _ _)⟩
    case round =>
      obtain ⟨k, hk, rfl, HB⟩ := hrel
      by_cases hlt : k < m
      · obtain ⟨⟨sl, ts⟩, hs⟩ := get_ex (xs := ss) (i := k) (by rw [HM.out]; exact hlt)
        have hq := num_get ss 0 k _ hs
        obtain ⟨y, hy⟩ := get_ex (xs := ys) (i := k) (by rw [← HF.out.lines.1, HM.out]; exact hlt)
        have HFo := Lib.hid (HF.out.lines.2 k _ y hs hy).form
        obtain ⟨bl, ol, T1, ct1, rfl, hbl, _, c1, hct1, h61, hl1⟩ := (HS5.out.below HB.out).get hs
        obtain ⟨bm, om, T2, ct2, rfl, hbm, d0, d1, hct2, h62, hl2⟩ := (HQ5.out.below HB.out).get hq
        simp only at c1 d0 d1 hct1 hct2 h61 h62 hl1 hl2 HFo
        rw [show ((0 : Nat) : Int) + (k : Int) + 1 = (k : Int) + 1 by omega] at d0
        obtain ⟨q, hqn⟩ : ∃ q, ts.length = q := ⟨_, rfl⟩
        have HQN := Lib.hid hqn
        rw [hqn] at c1 d1 hct1 hct2 h61 h62
        have S1 : wr.cell? ⟨bm, om + k * 2, none⟩ = some (.int .i64 ((k : Int) + 1)) ∧ wr.cell? ⟨bm, om + k * 2 + 1, none⟩ = some (.slice T2 q ct2) ∧ wr.cell? ⟨bl, ol + k * 2 + 1, none⟩ = some (.slice T1 q ct1) ∧ ListAt 3 eTok wr T2 ts ∧ ListAt 3 eTok wr T1 ts ∧ Below w5.heap.size w5 wr := ⟨d0, d1, c1, hl2, hl1, HB.out⟩
        have q6 : q ≤ 1000 := by omega
        have wk : IntKind.i64.wrap ((k : Int) + 1) = (k : Int) + 1 := by rw [IntKind.wrap_i64]; omega
        have wn : ((k : Int) + 1 != (k : Int) + 1) = false := by simp
        clear hs hq hy hl1 hl2 hqn HB
        go_wp2_with fail
        go_region_held3 (fun w' => w'.cell? ⟨bm, om + k * 2, none⟩ = some (.int .i64 ((k : Int) + 1)) ∧ w'.cell? ⟨bm, om + k * 2 + 1, none⟩ = some (.slice T2 q ct2) ∧ w'.cell? ⟨bl, ol + k * 2 + 1, none⟩ = some (.slice T1 q ct1) ∧ ListAt 3 eTok w' T2 ts ∧ ListAt 3 eTok w' T1 ts ∧ Below w5.heap.size w5 w')
          (first | (exact keepR S1 (Below.refl _ _).drew) | (exact keepR (by assumption) hb))
          (first | (go_at_call 26; ((with_reducible refine (toks_yes _ _ _ _ _ ts _ (sR1 (by assumption)) (sR2 (by assumption)) HQN.out q6).mono ?_); rintro e w' ⟨rfl, hb⟩)) | (go_at_call 18; ((with_reducible refine (form_is HFo.out _ _ _ _ (sR1 (by assumption)) HQN.out hct2 q6).mono ?_); rintro e w' ⟨rfl, hb⟩)))
        go_wp2_with fail
        go_roundw
        case rel => exact ⟨k + 1, by omega, by go_num, Lib.hid (sRB (by assumption))⟩
        case measure => simp [intOf]; omega
      · have T6 := Lib.hid (T5.out.below HB.out)
        have B6 := Lib.hid (bstep B5.out HB.out)
        go_wp2_with fail
        refine (sane_any _ T6.out).mono ?_
        rintro e w7 ⟨rfl, b7⟩
        have B7 := bstep B6.out b7
        go_wp2_with fail
        go_ret
        exact ⟨rfl, B7⟩
  · have hl : decide ((n : Int) ≤ 500) = false := by simp; omega
    clear hA hn hf
    go_enter Tryz.func4, Tryz.ntmps4
    go_wp2_with fail
    refine (Light_any A n c _).mono ?_
    rw [hl]
    rintro e w' ⟨rfl, rfl⟩
    go_wp2_with fail
    refine (sane_any _ HT.out).mono ?_
    rintro e w1 ⟨rfl, b1⟩
    go_wp2_with fail
    go_ret
    exact ⟨rfl, b1⟩
end Go.Proofs.YtoohijffkbkikaaGreatDoor
