/- Package syntax: the options of a person, how a statement may end, and Form. -/
import Derived.Test.YtoohijffkbkikaaGreatDoorYg
namespace Go.Proofs.YtoohijffkbkikaaGreatDoor
open Go.RowKit
set_option linter.unusedVariables false
set_option linter.unusedSimpArgs false
set_option maxRecDepth 100000

theorem fcut_is {f : Sy.Fm} {ts : List Lx.Tk} {o : Option (List Lx.Tk)} (ho : Sy.cutS f ts = o) (K A : Option Addr) (n c : Nat) (w : World) (hK : NumsAt w K f.2) (hA : ListAt 3 eTok w A ts) (hn : ts.length = n) (hc : n ≤ c) (hs : n ≤ 1000) (hf : f.2.length ≤ 10) :
    Calls Tryz.prog 37 #[.agg #[.string ⟨f.1.toArray⟩, .slice K f.2.length f.2.length], .slice A n c] w (CutV o w) := by
  by_cases h : n < 1 + f.2.length
  · exact cut_none ⟨f.1.toArray⟩ f.2 K A n c f.2.length w rfl hf h o (by rw [← ho]; exact cut_short (by omega))
  · cases ts with
    | nil => simp at hn; omega
    | cons y r =>
      obtain ⟨b, off, ea, -, -⟩ := hA (by simp)
      subst ea
      simp at hn
      exact cut_any f K b off n c y r w hK hA hn hc hs hf (by omega) o ho
theorem F_small {f : Sy.Fm} {k : Nat} (h : Sy.F[k]? = some f) : f.2.length ≤ 10 := by
  have hall : (Sy.F.all fun f => decide (f.2.length ≤ 10)) = true := by kernel_rfl
  simpa using List.all_eq_true.1 hall f (List.mem_of_getElem? h)
theorem O_small {f : Sy.Fm} {k : Nat} (h : Sy.optF[k]? = some f) : f.2.length ≤ 10 := by
  have hall : (Sy.optF.all fun f => decide (f.2.length ≤ 10)) = true := by kernel_rfl
  simpa using List.all_eq_true.1 hall f (List.mem_of_getElem? h)
theorem opt_some {f : Sy.Fm} {fs : List Sy.Fm} {l o : List Lx.Tk} (h : Sy.cutS f l = some o) : Sy.optG (f :: fs) l = Sy.optG fs o := by rw [Sy.optG, h]
theorem opt_none {f : Sy.Fm} {fs : List Sy.Fm} {l : List Lx.Tk} (h : Sy.cutS f l = none) : Sy.optG (f :: fs) l = Sy.optG fs l := by rw [Sy.optG, h]

set_option maxHeartbeats 8000000 in
theorem opts_any (A : Option Addr) (n c : Nat) (ts R : List Lx.Tk) (w : World) (hA : ListAt 3 eTok w A ts) (hn : ts.length = n) (hc : n ≤ c) (hs : n ≤ 1000) (hR : Sy.optG Sy.optF ts = R) :
    Calls Tryz.prog 61 #[.slice A n c] w fun e w' => (∃ A' c', e = .returned (.slice A' R.length c')) ∧ Below w.heap.size w w' := by
  have HF := Lib.hid (fms_new w Sy.optF 72)
  have HB := Lib.hid (fmW_below Sy.optF w)
  have HB2 := Lib.hid (HB.out.alloc HB.out.size (.cells (fmV w.heap.size Sy.optF).toArray 72))
  have key : ∀ (W : World) (b : Nat), W = (fmW w Sy.optF).alloc (.cells (fmV w.heap.size Sy.optF).toArray 72) → b = w.heap.size + 2 → FmsAt W b Sy.optF ∧ Below w.heap.size w W := by
    rintro _ _ rfl h
    obtain rfl : _ = (fmW w Sy.optF).heap.size := h.trans (fmW_size Sy.optF w).symm
    exact ⟨HF.out, HB2.out⟩
  have KEY := Lib.hid key
  have HR0 : Hid (Sy.optG (Sy.optF.drop 0) ts = R) := Lib.hid hR
  have HA := Lib.hid hA
  have HN := Lib.hid hn
  have K := KEY.out (((w.alloc (.cells #[.int .i64 1] 3)).alloc (.cells #[.int .i64 1] 3)).alloc (.cells #[.string ⟨#[119, 101, 101, 107]⟩, .slice (some ⟨w.heap.size, 0, none⟩) 1 1, .string ⟨#[114, 101, 115, 116]⟩, .slice (some ⟨w.heap.size + 1, 0, none⟩) 1 1, .string ⟨#[99, 111, 110, 115, 101, 110, 116]⟩, .slice none 0 0] 72)) _ (by kernel_rfl) rfl
  clear key KEY HF HB HB2 hR hA hn
  go_enter Tryz.func61, Tryz.ntmps61
  go_wp2_with fail
  go_loopw [0, 14] (fun v i wr => ∃ (k : Nat) (l : List Lx.Tk) (A' : Option Addr) (m c' : Nat), k ≤ 3 ∧ i = .int .i64 k ∧ v = .slice A' m c' ∧ Hid (ListAt 3 eTok wr A' l) ∧ l.length = m ∧ m ≤ c' ∧ m ≤ 1000 ∧ Hid (Sy.optG (Sy.optF.drop k) l = R) ∧ Hid (FmsAt wr (w.heap.size + 2) Sy.optF) ∧ Hid (Below w.heap.size w wr)) (fun _ i _ => 3 - (intOf i).toNat)
  case atStart =>
    exact ⟨0, ts, A, n, c, by omega, rfl, rfl, Lib.hid (HA.out.below K.2), HN.out, hc, hs, HR0, Lib.hid K.1, Lib.hid K.2⟩
  case round =>
    clear HR0 K HN HA
    obtain ⟨k, l, A', m, c', hk, rfl, rfl, HL, hm, hmc, hms, HR, HF, HB⟩ := hrel
    have HM := Lib.hid hm
    clear hm
    by_cases hlt : k < 3
    · obtain ⟨⟨kw, ks⟩, hf⟩ := get_ex (xs := Sy.optF) (i := k) hlt
      obtain ⟨f0, K, f1, hK⟩ := HF.out k (kw, ks) hf
      simp only at f0 f1 hK
      have hst := HR.out
      rw [drop_cons' hf] at hst
      have HST := Lib.hid hst
      have H10 := Lib.hid (O_small hf)
      have hrz := HB.out.size
      have HK := Lib.hid (hK.below ((Below.refl _ wr).alloc (Nat.le_refl _) (.cells #[.string ⟨kw.toArray⟩, .slice K ks.length ks.length] 72)))
      have HL2 := Lib.hid (HL.out.alloc (.cells #[.string ⟨kw.toArray⟩, .slice K ks.length ks.length] 72))
      have HF2 := Lib.hid (HF.out.below ((Below.refl _ wr).alloc (Nat.le_refl _) (.cells #[.string ⟨kw.toArray⟩, .slice K ks.length ks.length] 72)))
      have HB2 := Lib.hid (HB.out.alloc hrz (.cells #[.string ⟨kw.toArray⟩, .slice K ks.length ks.length] 72))
      clear hst HR hf hK HF HB
      obtain ⟨o, ho⟩ : ∃ o, Sy.cutS (kw, ks) l = o := ⟨_, rfl⟩
      have HO := Lib.hid ho
      clear ho
      go_wp2_with fail
      refine (fcut_is (f := (kw, ks)) HO.out K A' m c' _ HK.out HL2.out HM.out hmc hms H10.out).mono ?_
      rintro e w1 ⟨⟨ho, rfl⟩ | ⟨r, A2, c2, ho, rfl, hc2, hl2⟩, b1⟩
      · have N := Lib.hid (show Sy.optG (Sy.optF.drop (k + 1)) l = R by rw [← HST.out, opt_none (by rw [HO.out]; exact ho)])
        have HL3 := Lib.hid (HL2.out.below b1)
        have HF3 := Lib.hid (HF2.out.below b1)
        have HB3 := Lib.hid (bstep HB2.out b1)
        clear ho b1 HST
        go_wp2_with fail
        go_roundw
        case rel => exact ⟨k + 1, l, A', m, c', by omega, by go_num, rfl, HL3, HM.out, hmc, hms, N, HF3, HB3⟩
        case measure => simp [intOf]; omega
      · have N := Lib.hid (show Sy.optG (Sy.optF.drop (k + 1)) r = R by rw [← HST.out, opt_some (by rw [HO.out]; exact ho)])
        have hrl := Sy.cut_len (HO.out.trans ho)
        have hrl2 : r.length ≤ 1000 := by have := HM.out; omega
        have HL3 := Lib.hid (hl2.below b1)
        have HF3 := Lib.hid (HF2.out.below b1)
        have HB3 := Lib.hid (bstep HB2.out b1)
        obtain ⟨q, hq⟩ : ∃ q, r.length = q := ⟨_, rfl⟩
        have HQ := Lib.hid hq
        rw [hq] at hc2 hrl2 ⊢
        clear ho b1 HST hl2 hrl hq
        go_wp2_with fail
        go_roundw
        case rel => exact ⟨k + 1, r, A2, q, c2, by omega, by go_num, rfl, HL3, HQ.out, hc2, hrl2, N, HF3, HB3⟩
        case measure => simp [intOf]; omega
    · have N := Lib.hid (show R.length = m by rw [← HR.out, List.drop_of_length_le (by show 3 ≤ k; omega)]; exact HM.out)
      go_wp2_with fail
      go_ret
      exact ⟨⟨A', c', by rw [N.out]; rfl⟩, HB.out⟩

theorem isEmpty_len {R : List Lx.Tk} {m : Nat} (h : R.length = m) : ((m : Int) == 0) = R.isEmpty := by
  subst h
  cases R with
  | nil => rfl
  | cons a t => simp only [List.length_cons, List.isEmpty_cons, beq_eq_false_iff_ne, ne_eq]; omega
set_option maxHeartbeats 8000000 in
theorem mayEnd_is {kw : List UInt8} {ts : List Lx.Tk} {R : Bool} (hR : Sy.mayEnd kw ts = R) (K A : Option Addr) (nk n c : Nat) (w : World) (hA : ListAt 3 eTok w A ts) (hn : ts.length = n) (hc : n ≤ c) (hs : n ≤ 1000) :
    Calls Tryz.prog 38 #[.agg #[.string ⟨kw.toArray⟩, .slice K nk nk], .slice A n c] w fun e w' => e = .returned (.bool R) ∧ Below w.heap.size w w' := by
  have B0 := (Below.refl _ w).alloc (Nat.le_refl _) (.cells #[.string ⟨kw.toArray⟩, .slice K nk nk] 72)
  have HL := Lib.hid (hA.alloc (.cells #[.string ⟨kw.toArray⟩, .slice K nk nk] 72))
  have HN := Lib.hid hn
  unfold Sy.mayEnd at hR
  by_cases h1 : kw = [112, 101, 114, 115, 111, 110]
  · rw [if_pos h1] at hR
    subst h1
    have C := Lib.hid (opts_any A n c ts _ _ HL.out hn hc hs rfl)
    have HR := Lib.hid hR
    clear hA hn hR
    go_enter Tryz.func38, Tryz.ntmps38
    go_wp2_with fail
    refine C.out.mono ?_
    rintro e w1 ⟨⟨A', c', rfl⟩, b1⟩
    have B1 := bstep B0 b1
    obtain ⟨q, hq⟩ : ∃ q, (Sy.optG Sy.optF ts).length = q := ⟨_, rfl⟩
    have HQ := Lib.hid (isEmpty_len hq)
    rw [hq]
    clear hq b1
    go_wp2_with fail
    go_ret
    exact ⟨ret_bool (by rw [← HR.out]; exact HQ.out), B1⟩
  · rw [if_neg h1] at hR
    have e1 : (kw == [112, 101, 114, 115, 111, 110]) = false := by simpa using h1
    by_cases h2 : kw = [100, 97, 121, 115]
    · rw [if_pos h2] at hR
      subst h2
      have C := Lib.hid (all_any A n c ts 3 R _ HL.out hn (by omega) hR)
      clear hA hn hR e1 h1
      go_enter Tryz.func38, Tryz.ntmps38
      go_wp2_with fail
      refine C.out.mono ?_
      rintro e w1 ⟨rfl, b1⟩
      have B1 := bstep B0 b1
      go_wp2_with fail
      go_ret
      exact ⟨rfl, B1⟩
    · rw [if_neg h2] at hR
      have e2 : (kw == [100, 97, 121, 115]) = false := by simpa using h2
      by_cases h3 : kw = [109, 101, 109, 98, 101, 114]
      · rw [if_pos h3] at hR
        subst h3
        have C := Lib.hid (all_any A n c ts 0 R _ HL.out hn (by omega) hR)
        clear hA hn hR e1 h1 e2 h2
        go_enter Tryz.func38, Tryz.ntmps38
        go_wp2_with fail
        refine C.out.mono ?_
        rintro e w1 ⟨rfl, b1⟩
        have B1 := bstep B0 b1
        go_wp2_with fail
        go_ret
        exact ⟨rfl, B1⟩
      · rw [if_neg h3] at hR
        have e3 : (kw == [109, 101, 109, 98, 101, 114]) = false := by simpa using h3
        have HR := Lib.hid ((isEmpty_len hn).trans hR)
        clear hA hn hR
        go_enter Tryz.func38, Tryz.ntmps38
        go_wp2_with fail
        go_ret
        exact ⟨ret_bool HR.out, B0⟩

set_option maxHeartbeats 8000000 in
theorem form_is {ts : List Lx.Tk} {R : Bool} (hR : Sy.formS ts = R) (A : Option Addr) (n c : Nat) (w : World) (hA : ListAt 3 eTok w A ts) (hn : ts.length = n) (hc : n ≤ c) (hs : n ≤ 1000) :
    Calls Tryz.prog 18 #[.slice A n c] w fun e w' => e = .returned (.bool R) ∧ Below w.heap.size w w' := by
  have HR0 : Hid (Sy.goS (Sy.F.drop 0) ts = R) := Lib.hid hR
  have HA := Lib.hid hA
  have HN := Lib.hid hn
  clear hR hA hn
  go_enter Tryz.func18, Tryz.ntmps18
  go_wp2_with fail
  refine (forms_any _).mono ?_
  rintro e w2 ⟨b, rfl, hF, hb2, b2⟩
  have HF2 := Lib.hid hF
  have HB2 := Lib.hid b2
  clear hF b2
  go_wp2_with fail
  go_loopw [9] (fun i wr => ∃ k : Nat, k ≤ 15 ∧ i = .int .i64 k ∧ Hid (Sy.goS (Sy.F.drop k) ts = R) ∧ Hid (Below w2.heap.size w2 wr)) (fun i _ => 15 - (intOf i).toNat)
  case atStart => exact ⟨0, by omega, rfl, HR0, Lib.hid (Below.refl _ _)⟩
  case round =>
    clear HR0
    obtain ⟨k, hk, rfl, HR, HB⟩ := hrel
    by_cases hlt : k < 15
    · obtain ⟨⟨kw, ks⟩, hf⟩ := get_ex (xs := Sy.F) (i := k) hlt
      obtain ⟨f0, K, f1, hK⟩ := (HF2.out.below HB.out) k (kw, ks) hf
      simp only at f0 f1 hK
      have hst := HR.out
      rw [drop_cons' hf] at hst
      have HST := Lib.hid hst
      have H10 := Lib.hid (F_small hf)
      have hrz := HB.out.size
      have hbr : b < wr.heap.size := by omega
      have HBA := Lib.hid ((Below.refl _ wr).alloc (Nat.le_refl _) (.cells #[.string ⟨kw.toArray⟩, .slice K ks.length ks.length] 72))
      have HK := Lib.hid (hK.below HBA.out)
      have HB3 := Lib.hid (HB.out.alloc hrz (.cells #[.string ⟨kw.toArray⟩, .slice K ks.length ks.length] 72))
      have HL := Lib.hid ((HA.out.below HB2.out).below HB3.out)
      have W0 := BlkAt.new wr #[.string ⟨kw.toArray⟩, .slice K ks.length ks.length] 72
      clear hst HR hf hK HB
      obtain ⟨o, ho⟩ : ∃ o, Sy.cutS (kw, ks) ts = o := ⟨_, rfl⟩
      have HO := Lib.hid ho
      clear ho
      go_wp2_with fail
      refine (fcut_is (f := (kw, ks)) HO.out K A n c _ HK.out HL.out HN.out hc hs H10.out).mono ?_
      rintro e w1 ⟨⟨ho, rfl⟩ | ⟨r, A2, c2, ho, rfl, hc2, hl2⟩, b1⟩
      · have N := Lib.hid (show Sy.goS (Sy.F.drop (k + 1)) ts = R by rw [← HST.out, Sy.go_none (by rw [HO.out]; exact ho)])
        have HB4 := Lib.hid (bstep HB3.out b1)
        clear ho b1 HST W0
        go_wp2_with fail
        go_roundw
        case rel => exact ⟨k + 1, by omega, by go_num, N, HB4⟩
        case measure => simp [intOf]; omega
      · have N := Lib.hid (show Sy.mayEnd kw r = R by rw [← HST.out, Sy.go_some (HO.out.trans ho)])
        have hrl := Sy.cut_len (HO.out.trans ho)
        have hrl2 : r.length ≤ 1000 := by have := HN.out; omega
        have W1 := W0.after b1
        have w0 : w1.cell? ⟨wr.heap.size, 0, none⟩ = some (.string ⟨kw.toArray⟩) := W1.cell rfl
        have w1' : w1.cell? ⟨wr.heap.size, 1, none⟩ = some (.slice K ks.length ks.length) := W1.cell rfl
        have HL3 := Lib.hid (hl2.below b1)
        have HB4 := Lib.hid (bstep HB3.out b1)
        obtain ⟨q, hq⟩ : ∃ q, r.length = q := ⟨_, rfl⟩
        have HQ := Lib.hid hq
        rw [hq] at hc2 hrl2 ⊢
        clear ho b1 HST hl2 hrl hq W0 W1
        go_wp2_with fail
        refine (mayEnd_is N.out K A2 ks.length q c2 _ HL3.out HQ.out hc2 hrl2).mono ?_
        rintro e w4 ⟨rfl, b4⟩
        have B5 := bstep HB2.out (bstep HB4.out b4)
        go_wp2_with fail
        go_ret
        exact ⟨rfl, B5⟩
    · have N := Lib.hid (show R = false by rw [← HR.out, List.drop_of_length_le (by show 15 ≤ k; omega)]; rfl)
      have B5 := bstep HB2.out HB.out
      go_wp2_with fail
      go_ret
      rw [N.out]
      exact ⟨rfl, B5⟩
end Go.Proofs.YtoohijffkbkikaaGreatDoor
