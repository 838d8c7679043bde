/- The program's combination of two sets: one loop over the borders of both. -/
import Derived.Test.YtnleelkdoagfcaaSpD
import Derived.Test.YtnleelkdoagfcaaSpm
namespace Go.Proofs.Ytnleelkdoagfcaa
open Go.RowKit
set_option linter.unusedVariables false
set_option linter.unusedSimpArgs false

theorem enc_close (c : Spn.L) (f t p : Int) : (enc (c ++ [(f, t)])).set (c.length * 2 + 1) (.int .i64 p) = enc (c ++ [(f, p)]) := by
  rw [enc_snoc, enc_snoc]
  have h := enc_len c
  rw [List.set_append_right _ _ (by omega), show c.length * 2 + 1 - (enc c).length = 1 by omega]
  rfl
/-- An owned list that is not empty: its last span, in memory. -/
theorem Own.last {w : World} {B : Nat} {v : Value} {c : Spn.L} {f t : Int} (h : Own w B v (c ++ [(f, t)])) :
    ∃ g cap, v = .slice (some ⟨g, 0, none⟩) (c.length + 1) cap ∧ B ≤ g ∧ g < w.heap.size ∧ w.cell? ⟨g, c.length * 2, none⟩ = some (.int .i64 f) ∧ w.cell? ⟨g, c.length * 2 + 1, none⟩ = some (.int .i64 t) ∧ (∀ j, w.frozen? ⟨g, j, none⟩ = false) ∧
      ∀ p, Own (w.setCell ⟨g, c.length * 2 + 1, none⟩ (.int .i64 p)) B v (c ++ [(f, p)]) := by
  obtain ⟨g, cap, hv, hb, hlt⟩ := World.ownsRow.form h (by simp)
  subst hv
  have e := enc_get (c ++ [(f, t)]) c.length (by simp)
  have e1 : (c ++ [(f, t)]).getD c.length (0, 0) = (f, t) := by simp [List.getD]
  rw [e1] at e
  have hl : (c ++ [(f, t)]).length = c.length + 1 := by simp
  refine ⟨g, cap, by rw [hl], hb, hlt, (World.ownsRow.cellAt h _ (by rw [hl]; omega)).trans e.1, (World.ownsRow.cellAt h _ (by rw [hl]; omega)).trans e.2, fun j => World.ownsRow.frozenAt h j, fun p => ?_⟩
  have hs := (World.ownsRow.stored h (c.length * 2 + 1) (.int .i64 p)).1
  rw [enc_close] at hs
  have hl2 : (c ++ [(f, p)]).length = c.length + 1 := by simp
  unfold Own
  rw [hl2]
  rw [hl] at hs ⊢
  exact hs

set_option maxHeartbeats 8000000 in
set_option maxRecDepth 100000 in
theorem combine_set (A B : Option Addr) (n m c d g : Nat) (keep : Bool → Bool → Bool) (xs ys : Spn.L) (w : World) (hA : SpansAt w A xs) (hB : SpansAt w B ys) (hn : xs.length = n) (hm : ys.length = m)
    (hx : Spn.vld xs = true) (hy : Spn.vld ys = true) (hk : keep false false = false) (eg : ∀ args w, (callFunc g args).run Try.prog w = .ok (.enter g args) w)
    (hg : ∀ x y W, Calls Try.prog g #[.bool x, .bool y] W fun e w' => e = .returned (.bool (keep x y)) ∧ W = w') :
    Calls Try.prog 41 #[.slice A n c, .slice B m d, .func (.func g) #[] #[]] w fun e w' =>
      ∃ r, Hid (Spn.Comb keep xs ys r) ∧ Gives (if (r.length : Int) ≤ 4096 then r else []) (if (r.length : Int) ≤ 4096 then 0 else 5) w e w' := by
  have V1 := Valid_any A n c xs w hA hn (by have := ((Spn.vld_iff xs).1 hx).1; omega)
  have V2 := fun W h => Valid_any B m d ys W h hm (by have := ((Spn.vld_iff ys).1 hy).1; omega)
  rw [hx] at V1
  rw [hy] at V2
  have hn4 : (n : Int) ≤ 4096 := by have := ((Spn.vld_iff xs).1 hx).1; omega
  have hm4 : (m : Int) ≤ 4096 := by have := ((Spn.vld_iff ys).1 hy).1; omega
  have HN := Lib.hid hn
  have HM := Lib.hid hm
  have HX := Lib.hid hx
  have HY := Lib.hid hy
  have HK := Lib.hid hk
  have HG := Lib.hid hg
  clear hn hm hx hy hk hg
  go_enter Try.func41, Try.ntmps41
  go_wp2_with fail
  refine V1.mono ?_
  rintro e w1 ⟨rfl, b1⟩
  go_wp2_with fail
  refine (V2 w1 (hB.below b1)).mono ?_
  rintro e w2 ⟨rfl, b2⟩
  have B2 := bstep b1 b2
  clear b1 b2 V1 V2
  go_wp2_with fail
  go_loopw [8, 9, 10, 11] (fun v o a b wr => ∃ (i j : Int) (opn : Bool) (out : Spn.L), a = .int .i64 i ∧ b = .int .i64 j ∧ o = .bool opn ∧ Own wr w.heap.size v out ∧ Below w.heap.size w wr ∧ Hid (∃ p, Spn.Round keep xs ys i j p opn out)) (fun _ _ a b _ => (2 * n - (intOf a).toNat) + (2 * m - (intOf b).toNat))
  case atStart => exact ⟨0, 0, false, [], rfl, rfl, rfl, Own.nil_ _ _, B2, Lib.hid ⟨-1, Spn.Round.start HX.out HY.out HK.out⟩⟩
  case round =>
    obtain ⟨i, j, opn, out, rfl, rfl, rfl, hO, hW, HR⟩ := hrel
    obtain ⟨p, hR⟩ := HR.out
    have hRR := Lib.hid hR
    have i0 := hR.pa.1
    have i1 := hR.pa.2.1
    have j0 := hR.pb.1
    have j1 := hR.pb.2.1
    have ol := hR.len
    have pa := hR.pa.2.2.2
    have pb := hR.pb.2.2.2
    rw [HN.out] at i1
    rw [HM.out] at j1
    clear hR
    by_cases hij : i < 2 * (n : Int) ∨ j < 2 * (m : Int)
    · obtain ⟨bA, hbA⟩ : ∃ v, Spn.brd xs i = v := ⟨_, rfl⟩
      obtain ⟨bB, hbB⟩ : ∃ v, Spn.brd ys j = v := ⟨_, rfl⟩
      have C1 := fun W h => border_any A n c xs i W h HN.out hn4 i0
      have C2 := fun W h => border_any B m d ys j W h HM.out hm4 j0
      rw [hbA] at C1 pa
      rw [hbB] at C2 pb
      have HA1 := Lib.hid hbA
      have HB1 := Lib.hid hbB
      have HC1 := Lib.hid C1
      have HC2 := Lib.hid C2
      clear C1 C2 hbA hbB
      have bAh : i < 2 * (n : Int) → bA ≤ 8589934592 := fun h => by have := Spn.brd_hi HX.out i0 (by rw [HN.out]; exact h); rw [HA1.out] at this; exact this
      have bBh : j < 2 * (m : Int) → bB ≤ 8589934592 := fun h => by have := Spn.brd_hi HY.out j0 (by rw [HM.out]; exact h); rw [HB1.out] at this; exact this
      have bAe : ¬ i < 2 * (n : Int) → bA = 8589934593 := fun h => by have := Spn.brd_end (l := xs) (i := i) (by rw [HN.out]; omega); rw [HA1.out] at this; exact this
      have bBe : ¬ j < 2 * (m : Int) → bB = 8589934593 := fun h => by have := Spn.brd_end (l := ys) (i := j) (by rw [HM.out]; omega); rw [HB1.out] at this; exact this
      have ol2 : (out.length : Int) ≤ 16384 := by omega
      have hwz := hW.size
      have OPN : Hid (opn = true → ∃ c0 f0, out = c0 ++ [(f0, 0)] ∧ True) := Lib.hid (fun e => by have h2 := hRR.out.sw; rw [e] at h2; obtain ⟨c0, f0, e2, -⟩ := h2.opened; exact ⟨c0, f0, e2, trivial⟩)
      rcases Int.lt_trichotomy bA bB with hcmp | hcmp | hcmp
      · have li : i < 2 * (n : Int) := by omega
        have t1 : (bB == bA) = false := by simp; omega
        have t2 : ¬ bB = bA := by omega
        have hst : ∀ kept : Bool, kept = keep (decide ((i + 1) % 2 = 1)) (decide ((j) % 2 = 1)) → Spn.Round keep xs ys (i + 1) (j) bA kept (if kept = true then (if opn = true then out else out ++ [(bA, 0)]) else if opn = true then Spn.close out bA else out) := fun kept hkept => by
          have HR2 := hRR.out
          have PA : Spn.Passed xs (i + 1) bA := by
            have h := Spn.Passed.step HX.out HR2.pa (by rw [HN.out]; omega)
            first | exact h | (rw [HA1.out] at h; exact h)
          have PB : Spn.Passed ys (j) bA := by
            have h := HR2.pb.stay (q := bA) (by omega) (by rw [HB1.out]; omega)
            first | exact h | (rw [HB1.out] at h; exact h)
          exact HR2.next HX.out HY.out bA (i + 1) (j) (by rw [HA1.out]; omega) (by rw [HB1.out]; omega) PA PB (by omega) (by omega) kept hkept
        have HST := Lib.hid hst
        clear hst bAh bBh bAe bBe hRR HR
        as_aux_lemma =>
        go_wp2_with fail
        refine (HC1.out wr (hA.below hW)).mono ?_
        rintro e w' ⟨rfl, rfl⟩
        go_wp2_with fail
        refine (HC2.out wr (hB.below hW)).mono ?_
        rintro e w' ⟨rfl, rfl⟩
        go_wp2_with fail
        refine (HG.out _ _ _).mono ?_
        rintro e w' ⟨rfl, rfl⟩
        generalize hkb : keep _ _ = kb
        have hr := HST.out kb (by rw [← hkb]; congr 1 <;> simp)
        have HKB := Lib.hid hkb
        clear hkb HST
        rcases kb with _ | _ <;> rcases opn with _ | _
        · go_wp2_with fail
          go_roundw
          case rel => exact ⟨i + 1, j, false, out, rfl, rfl, rfl, hO, hW, Lib.hid ⟨_, hr⟩⟩
          case measure => simp [intOf]; omega
        · obtain ⟨c0, f0, rfl⟩ : ∃ c0 f0, out = c0 ++ [(f0, 0)] := by obtain ⟨c0, f0, e, -⟩ := OPN.out rfl; exact ⟨c0, f0, e⟩
          obtain ⟨g0, cap, rfl, hg1, hg2, l0, l1, lf, hst⟩ := hO.last
          have hst := hst bA
          have hr2 : Spn.Round keep xs ys (i + 1) (j) bA false (c0 ++ [(f0, bA)]) := by rw [← Spn.close_snoc c0 f0 0 bA]; exact hr
          have HR3 := Lib.hid hr2
          have hlen : c0.length ≤ 16384 := by simp at ol2; omega
          clear hr hr2 hO ol ol2
          obtain ⟨ℓ, HL⟩ : ∃ ℓ, Hid (c0.length = ℓ) := ⟨_, Lib.hid rfl⟩
          rw [HL.out] at l0 l1 hst hlen ⊢
          have lf1 := lf (ℓ * 2 + 1)
          clear lf
          go_wp2_with fail
          go_roundw
          case rel => exact ⟨i + 1, j, false, _, rfl, rfl, rfl, hst, hW.setCell hg1 _, Lib.hid ⟨_, HR3.out⟩⟩
          case measure => simp [intOf]; omega
        · have hr2 : Spn.Round keep xs ys (i + 1) (j) bA true (out ++ [(bA, 0)]) := hr
          have HR3 := Lib.hid hr2
          clear hr hr2
          go_wp2_with (at_builtin; refine wp_append_span _ rfl _ _ rfl w.heap.size _ out rfl (hO.alloc _) wr.heap.size _ _ rfl (cell_new0 rfl) (cell_new1 rfl) (by omega) (by simp; omega) ?_; intro gg cap w2 hO2 hB2 _ hg2)
          have hBn : Below w.heap.size w w2 := (hW.alloc hW.size _).trans hB2
          clear hB2 hO
          go_wp2_with fail
          go_roundw
          case rel => exact ⟨i + 1, j, true, _, rfl, rfl, rfl, hO2, hBn, Lib.hid ⟨_, HR3.out⟩⟩
          case measure => simp [intOf]; omega
        · go_wp2_with fail
          go_roundw
          case rel => exact ⟨i + 1, j, true, out, rfl, rfl, rfl, hO, hW, Lib.hid ⟨_, hr⟩⟩
          case measure => simp [intOf]; omega
      · have li : i < 2 * (n : Int) := by omega
        have lj : j < 2 * (m : Int) := by omega
        subst hcmp
        have hst : ∀ kept : Bool, kept = keep (decide ((i + 1) % 2 = 1)) (decide ((j + 1) % 2 = 1)) → Spn.Round keep xs ys (i + 1) (j + 1) bA kept (if kept = true then (if opn = true then out else out ++ [(bA, 0)]) else if opn = true then Spn.close out bA else out) := fun kept hkept => by
          have HR2 := hRR.out
          have PA : Spn.Passed xs (i + 1) bA := by
            have h := Spn.Passed.step HX.out HR2.pa (by rw [HN.out]; omega)
            first | exact h | (rw [HA1.out] at h; exact h)
          have PB : Spn.Passed ys (j + 1) bA := by
            have h := Spn.Passed.step HY.out HR2.pb (by rw [HM.out]; omega)
            first | exact h | (rw [HB1.out] at h; exact h)
          exact HR2.next HX.out HY.out bA (i + 1) (j + 1) (by rw [HA1.out]; omega) (by rw [HB1.out]; omega) PA PB (by omega) (by omega) kept hkept
        have HST := Lib.hid hst
        clear hst bAh bBh bAe bBe hRR HR
        as_aux_lemma =>
        go_wp2_with fail
        refine (HC1.out wr (hA.below hW)).mono ?_
        rintro e w' ⟨rfl, rfl⟩
        go_wp2_with fail
        refine (HC2.out wr (hB.below hW)).mono ?_
        rintro e w' ⟨rfl, rfl⟩
        go_wp2_with fail
        refine (HG.out _ _ _).mono ?_
        rintro e w' ⟨rfl, rfl⟩
        generalize hkb : keep _ _ = kb
        have hr := HST.out kb (by rw [← hkb]; congr 1 <;> simp)
        have HKB := Lib.hid hkb
        clear hkb HST
        rcases kb with _ | _ <;> rcases opn with _ | _
        · go_wp2_with fail
          go_roundw
          case rel => exact ⟨i + 1, j + 1, false, out, rfl, rfl, rfl, hO, hW, Lib.hid ⟨_, hr⟩⟩
          case measure => simp [intOf]; omega
        · obtain ⟨c0, f0, rfl⟩ : ∃ c0 f0, out = c0 ++ [(f0, 0)] := by obtain ⟨c0, f0, e, -⟩ := OPN.out rfl; exact ⟨c0, f0, e⟩
          obtain ⟨g0, cap, rfl, hg1, hg2, l0, l1, lf, hst⟩ := hO.last
          have hst := hst bA
          have hr2 : Spn.Round keep xs ys (i + 1) (j + 1) bA false (c0 ++ [(f0, bA)]) := by rw [← Spn.close_snoc c0 f0 0 bA]; exact hr
          have HR3 := Lib.hid hr2
          have hlen : c0.length ≤ 16384 := by simp at ol2; omega
          clear hr hr2 hO ol ol2
          obtain ⟨ℓ, HL⟩ : ∃ ℓ, Hid (c0.length = ℓ) := ⟨_, Lib.hid rfl⟩
          rw [HL.out] at l0 l1 hst hlen ⊢
          have lf1 := lf (ℓ * 2 + 1)
          clear lf
          go_wp2_with fail
          go_roundw
          case rel => exact ⟨i + 1, j + 1, false, _, rfl, rfl, rfl, hst, hW.setCell hg1 _, Lib.hid ⟨_, HR3.out⟩⟩
          case measure => simp [intOf]; omega
        · have hr2 : Spn.Round keep xs ys (i + 1) (j + 1) bA true (out ++ [(bA, 0)]) := hr
          have HR3 := Lib.hid hr2
          clear hr hr2
          go_wp2_with (at_builtin; refine wp_append_span _ rfl _ _ rfl w.heap.size _ out rfl (hO.alloc _) wr.heap.size _ _ rfl (cell_new0 rfl) (cell_new1 rfl) (by omega) (by simp; omega) ?_; intro gg cap w2 hO2 hB2 _ hg2)
          have hBn : Below w.heap.size w w2 := (hW.alloc hW.size _).trans hB2
          clear hB2 hO
          go_wp2_with fail
          go_roundw
          case rel => exact ⟨i + 1, j + 1, true, _, rfl, rfl, rfl, hO2, hBn, Lib.hid ⟨_, HR3.out⟩⟩
          case measure => simp [intOf]; omega
        · go_wp2_with fail
          go_roundw
          case rel => exact ⟨i + 1, j + 1, true, out, rfl, rfl, rfl, hO, hW, Lib.hid ⟨_, hr⟩⟩
          case measure => simp [intOf]; omega
      · have lj : j < 2 * (m : Int) := by omega
        have t1 : (bA == bB) = false := by simp; omega
        have t2 : ¬ bA = bB := by omega
        have hst : ∀ kept : Bool, kept = keep (decide ((i) % 2 = 1)) (decide ((j + 1) % 2 = 1)) → Spn.Round keep xs ys (i) (j + 1) bB kept (if kept = true then (if opn = true then out else out ++ [(bB, 0)]) else if opn = true then Spn.close out bB else out) := fun kept hkept => by
          have HR2 := hRR.out
          have PA : Spn.Passed xs (i) bB := by
            have h := HR2.pa.stay (q := bB) (by omega) (by rw [HA1.out]; omega)
            first | exact h | (rw [HA1.out] at h; exact h)
          have PB : Spn.Passed ys (j + 1) bB := by
            have h := Spn.Passed.step HY.out HR2.pb (by rw [HM.out]; omega)
            first | exact h | (rw [HB1.out] at h; exact h)
          exact HR2.next HX.out HY.out bB (i) (j + 1) (by rw [HA1.out]; omega) (by rw [HB1.out]; omega) PA PB (by omega) (by omega) kept hkept
        have HST := Lib.hid hst
        clear hst bAh bBh bAe bBe hRR HR
        have hdis : decide (i < 2 * (n : Int)) = decide (i < 2 * (n : Int)) := rfl
        clear hdis
        by_cases hi : i < 2 * (n : Int)
        all_goals
          go_wp2_with fail
          refine (HC1.out wr (hA.below hW)).mono ?_
          rintro e w' ⟨rfl, rfl⟩
          go_wp2_with fail
          refine (HC2.out wr (hB.below hW)).mono ?_
          rintro e w' ⟨rfl, rfl⟩
          go_wp2_with fail
          refine (HG.out _ _ _).mono ?_
          rintro e w' ⟨rfl, rfl⟩
          generalize hkb : keep _ _ = kb
          have hr := HST.out kb (by rw [← hkb]; congr 1 <;> simp)
          have HKB := Lib.hid hkb
          clear hkb HST
          rcases kb with _ | _ <;> rcases opn with _ | _
          · go_wp2_with fail
            go_roundw
            case rel => exact ⟨i, j + 1, false, out, rfl, rfl, rfl, hO, hW, Lib.hid ⟨_, hr⟩⟩
            case measure => simp [intOf]; omega
          · obtain ⟨c0, f0, rfl⟩ : ∃ c0 f0, out = c0 ++ [(f0, 0)] := by obtain ⟨c0, f0, e, -⟩ := OPN.out rfl; exact ⟨c0, f0, e⟩
            obtain ⟨g0, cap, rfl, hg1, hg2, l0, l1, lf, hst⟩ := hO.last
            have hst := hst bB
            have hr2 : Spn.Round keep xs ys (i) (j + 1) bB false (c0 ++ [(f0, bB)]) := by rw [← Spn.close_snoc c0 f0 0 bB]; exact hr
            have HR3 := Lib.hid hr2
            have hlen : c0.length ≤ 16384 := by simp at ol2; omega
            clear hr hr2 hO ol ol2
            obtain ⟨ℓ, HL⟩ : ∃ ℓ, Hid (c0.length = ℓ) := ⟨_, Lib.hid rfl⟩
            rw [HL.out] at l0 l1 hst hlen ⊢
            have lf1 := lf (ℓ * 2 + 1)
            clear lf
            go_wp2_with fail
            go_roundw
            case rel => exact ⟨i, j + 1, false, _, rfl, rfl, rfl, hst, hW.setCell hg1 _, Lib.hid ⟨_, HR3.out⟩⟩
            case measure => simp [intOf]; omega
          · have hr2 : Spn.Round keep xs ys (i) (j + 1) bB true (out ++ [(bB, 0)]) := hr
            have HR3 := Lib.hid hr2
            clear hr hr2
            go_wp2_with (at_builtin; refine wp_append_span _ rfl _ _ rfl w.heap.size _ out rfl (hO.alloc _) wr.heap.size _ _ rfl (cell_new0 rfl) (cell_new1 rfl) (by omega) (by simp; omega) ?_; intro gg cap w2 hO2 hB2 _ hg2)
            have hBn : Below w.heap.size w w2 := (hW.alloc hW.size _).trans hB2
            clear hB2 hO
            go_wp2_with fail
            go_roundw
            case rel => exact ⟨i, j + 1, true, _, rfl, rfl, rfl, hO2, hBn, Lib.hid ⟨_, HR3.out⟩⟩
            case measure => simp [intOf]; omega
          · go_wp2_with fail
            go_roundw
            case rel => exact ⟨i, j + 1, true, out, rfl, rfl, rfl, hO, hW, Lib.hid ⟨_, hr⟩⟩
            case measure => simp [intOf]; omega
    · obtain ⟨A', c', rfl, hS⟩ := hO.shape
      have hfin : Spn.Comb keep xs ys out := hRR.out.final HX.out HY.out HK.out (by rw [HN.out]; omega) (by rw [HM.out]; omega)
      have HF := Lib.hid hfin
      clear hfin
      have ni : ¬ i < 2 * (n : Int) := fun h => hij (.inl h)
      have nj : ¬ j < 2 * (m : Int) := fun h => hij (.inr h)
      clear hij
      generalize hL : out.length = ol' at *
      have HL := Lib.hid hL
      clear hL
      by_cases hbig : (4096 : Int) < (ol' : Int)
      · go_wp2_with fail
        go_ret2
        exact ⟨out, HF, by rw [HL.out, if_neg (by omega), if_neg (by omega)]; exact Gives.none_ hW⟩
      · go_wp2_with fail
        go_ret2
        exact ⟨out, HF, by rw [HL.out, if_pos (by omega), if_pos (by omega)]; exact ⟨A', c', by rw [HL.out]; rfl, hS, hW⟩⟩
end Go.Proofs.Ytnleelkdoagfcaa
