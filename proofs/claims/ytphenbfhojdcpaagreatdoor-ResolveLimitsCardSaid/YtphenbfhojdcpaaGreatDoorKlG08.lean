/- Package syntax: the tokens behind a form, the options of a person, how a statement may end, and Form. Package syntax: the options of a person, how a statement may end, and Form. -/
import Derived.Test.YtphenbfhojdcpaaGreatDoorKlYf
namespace Go.Proofs.YtphenbfhojdcpaaGreatDoor
open Go.RowKit
set_option linter.unusedVariables false
set_option linter.unusedSimpArgs false
set_option maxRecDepth 100000
/-- What cut hands back. -/
def CutV (o : Option (List Lx.Tk)) (w : World) (e : Ending) (w' : World) : Prop :=
  ((o = none ∧ e = .returned (.tuple #[.slice none 0 0, .bool false])) ∨ ∃ (r : List Lx.Tk) (A : Option Addr) (c : Nat), o = some r ∧ e = .returned (.tuple #[.slice A r.length c, .bool true]) ∧ r.length ≤ c ∧ ListAt 3 eTok w A r) ∧ Below w.heap.size w w'
theorem CutV.no {o : Option (List Lx.Tk)} {w w' : World} (h : o = none) (hb : Below w.heap.size w w') : CutV o w (.returned (.tuple #[.slice none 0 0, .bool false])) w' := ⟨.inl ⟨h, rfl⟩, hb⟩
theorem CutV.yes {o : Option (List Lx.Tk)} {w w' : World} {r : List Lx.Tk} {A : Option Addr} {c : Nat} (h : o = some r) (hc : r.length ≤ c) (hl : ListAt 3 eTok w A r) (hb : Below w.heap.size w w') : CutV o w (.returned (.tuple #[.slice A r.length c, .bool true])) w' := ⟨.inr ⟨r, A, c, h, rfl, hc, hl⟩, hb⟩
theorem CutV.yes2 {o : Option (List Lx.Tk)} {w w' : World} {r : List Lx.Tk} {A : Option Addr} {m c : Nat} (h : o = some r) (hm : r.length = m) (hc : m ≤ c) (hl : ListAt 3 eTok w A r) (hb : Below w.heap.size w w') : CutV o w (.returned (.tuple #[.slice A m c, .bool true])) w' := by
  subst hm
  exact CutV.yes h hc hl hb
theorem list_zero {w : World} {A : Option Addr} {r : List Lx.Tk} (h : r.length = 0) : ListAt 3 eTok w A r := fun h0 => absurd h0 (by omega)
theorem cut_short {f : Sy.Fm} {ts : List Lx.Tk} (h : ts.length < 1 + f.2.length) : Sy.cutS f ts = none := by
  cases ts with
  | nil => rfl
  | cons t r => rw [Sy.cut_cons, if_neg]; simp at h; omega
theorem keepF {b : Nat} {v : Value} {W wc w' : World} (h : wc.cell? ⟨b, 1, none⟩ = some v ∧ Below W.heap.size W wc) (hb : Below wc.heap.size wc w') : w'.cell? ⟨b, 1, none⟩ = some v ∧ Below W.heap.size W w' := ⟨cell_lift h.1 hb, bstep h.2 hb⟩
theorem sFB {a : Prop} {W wc : World} (h : a ∧ Below W.heap.size W wc) : Below W.heap.size W wc := h.2
set_option maxHeartbeats 4000000 in
theorem cut_none (kw : ByteArray) (ks : List Int) (K : Option Addr) (A : Option Addr) (n c nk : Nat) (w : World) (hk : ks.length = nk) (hk10 : nk ≤ 10) (h : n < 1 + nk) (o : Option (List Lx.Tk)) (ho : o = none) :
    Calls Tryz.prog 98 #[.agg #[.string kw, .slice K nk nk], .slice A n c] w (CutV o w) := by
  have h1 : decide ((n : Int) < 1 + nk) = true := by simp; omega
  have h2 : decide ((n : Int) < 1 + (nk : Int)) = true := h1
  have B0 := (Below.refl _ w).alloc (Nat.le_refl _) (.cells #[.string kw, .slice K nk nk] 153)
  clear h hk
  go_enter Tryz.func98, Tryz.ntmps98
  go_wp2_with fail
  go_quiet (fail)
  go_wp2_with fail
  go_ret2
  exact CutV.no ho (bdrewN B0 _)
set_option maxHeartbeats 4000000 in
theorem cut_any (f : Sy.Fm) (K : Option Addr) (b off n c : Nat) (y : Lx.Tk) (r : List Lx.Tk) (w : World) (hK : NumsAt w K f.2) (hA : ListAt 3 eTok w (some ⟨b, off, none⟩) (y :: r)) (hn : r.length + 1 = n) (hc : n ≤ c) (hs : n ≤ 1000) (hf : f.2.length ≤ 10) (hle : f.2.length ≤ r.length) (o : Option (List Lx.Tk)) (ho : Sy.cutS f (y :: r) = o) :
    Calls Tryz.prog 98 #[.agg #[.string ⟨f.1.toArray⟩, .slice K f.2.length f.2.length], .slice (some ⟨b, off, none⟩) n c] w (CutV o w) := by
  obtain ⟨kw, ks⟩ := f
  obtain ⟨yk, yt, yn⟩ := y
  simp only at hK hf hle ⊢
  obtain ⟨nk, hnk⟩ : ∃ nk, ks.length = nk := ⟨_, rfl⟩
  rw [hnk] at hf hle ⊢
  have hblt := hA.lt_ (by simp)
  obtain ⟨_, _, ea, c0, c1, c2⟩ := tok_elem (k := 0) hA (show ((yk, yt, yn) :: r)[0]? = some (yk, yt, yn) from rfl)
  cases ea
  simp only [Nat.zero_mul, Nat.add_zero] at c0 c1 c2
  have h1 : decide ((n : Int) < 1 + nk) = false := by simp; omega
  have W0 := BlkAt.new w #[.string ⟨kw.toArray⟩, .slice K nk nk] 153
  have w0 : (w.alloc (.cells #[.string ⟨kw.toArray⟩, .slice K nk nk] 153)).cell? ⟨w.heap.size, 0, none⟩ = some (.string ⟨kw.toArray⟩) := W0.cell rfl
  have w1 : (w.alloc (.cells #[.string ⟨kw.toArray⟩, .slice K nk nk] 153)).cell? ⟨w.heap.size, 1, none⟩ = some (.slice K nk nk) := W0.cell rfl
  have B0 := (Below.refl _ w).alloc (Nat.le_refl _) (.cells #[.string ⟨kw.toArray⟩, .slice K nk nk] 153)
  have d0 := cell_lift c0 B0
  have d1 := cell_lift c1 B0
  have n1 : (1 : Int) ≤ n := by omega
  have n0 : (0 : Int) < n := by omega
  have HNK := Lib.hid hnk
  have HN := Lib.hid hn
  by_cases hk : yk = 0
  · subst hk
    have k1 : ((0 : Int) != 0) = false := by decide
    by_cases ht : yt = kw
    · subst ht
      have L1 := hA.sub 1 nk
      have L2 := Lib.hid (hA.rest (1 + nk))
      simp only [List.drop_succ_cons, List.drop_zero, Nat.one_mul] at L1
      have hr2 : ((0, yt, yn) :: r).drop (1 + nk) = r.drop nk := by rw [Nat.add_comm, List.drop_succ_cons]
      rw [hr2] at L2
      have hlr : (r.drop nk).length = n - (1 + nk) := by rw [List.length_drop]; omega
      obtain ⟨q, hq⟩ : ∃ q, (((r.take nk).map (·.1)) == ks) = q := ⟨_, rfl⟩
      have L1' : ListAt 3 eTok w (if c = 1 then some ⟨b, off, none⟩ else some ⟨b, off + 3, none⟩) (r.take nk) := by
        by_cases hc1 : c = 1
        · have : r = [] := List.eq_nil_of_length_eq_zero (by omega)
          subst this
          rw [List.take_nil]
          exact ListAt.nil_
        · rw [if_neg hc1]; exact L1
      have C := fun (cc : Nat) (W : World) (hB : Below w.heap.size w W) => eqf_any (if c = 1 then some ⟨b, off, none⟩ else some ⟨b, off + 3, none⟩) K ((1 + (nk : Int)).toNat - 1) cc nk nk (r.take nk) ks q W (L1'.below hB) (by rw [List.length_take]; omega) (hK.below hB) hnk (by omega) hq
      have HC := Lib.hid C
      have s1 : (1 : Int) ≤ 1 + nk := by omega
      have s2 : (1 + nk : Int) ≤ n := by omega
      have s3 : (1 + nk : Int) ≤ c := by omega
      have HO : Hid (o = if q = true then some (r.drop nk) else none) := by
        refine Lib.hid ?_
        rw [← ho, ← hq, Sy.cut_cons]
        by_cases he : (r.take nk).map (·.1) = ks
        · rw [if_pos (by simp only [hnk]; exact ⟨hle, trivial, trivial, he⟩), if_pos (by simpa using he), hnk]
        · rw [if_neg (by simp only [hnk]; exact fun h => he h.2.2.2), if_neg (by simpa using he)]
      have HLR := Lib.hid hlr
      clear ho hA hK hq C L1 L1' hr2 hlr c0 c1 c2 hn hnk
      by_cases hc1 : c = 1
      · rw [if_pos hc1, show (1 + (nk : Int)).toNat - 1 = 0 by omega] at HC
        subst hc1
        have s4 : (1 + nk : Int) ≤ 1 := by omega
        cases q
        · have HO2 : Hid (o = none) := Lib.hid (by rw [HO.out]; rfl)
          go_enter Tryz.func98, Tryz.ntmps98
          go_wp2_with fail
          go_quiet (fail)
          have S1 : ((w.alloc (.cells #[.string ⟨yt.toArray⟩, .slice K nk nk] 153)).drewN nq).cell? ⟨w.heap.size, 1, none⟩ = some (.slice K nk nk) ∧ Below w.heap.size w ((w.alloc (.cells #[.string ⟨yt.toArray⟩, .slice K nk nk] 153)).drewN nq) := ⟨w1, bdrewN B0 nq⟩
          clear w0 w1 B0 d0 d1 W0
          go_wp2_with fail
          generalize (w.alloc (.cells #[.string ⟨yt.toArray⟩, .slice K nk nk] 153)).drewN nq = W1 at S1 ⊢
          go_region_held3 (fun w' => w'.cell? ⟨w.heap.size, 1, none⟩ = some (.slice K nk nk) ∧ Below w.heap.size w w')
            (first | (exact keepF S1 (Below.refl _ _).drew) | (exact keepF (by assumption) hb))
            (first | (go_at_call 139; ((with_reducible refine (HC.out _ _ (sFB (by assumption))).mono ?_); rintro e w' ⟨rfl, hb⟩)))
          go_wp2_with fail
          all_goals go_ret2
          all_goals exact CutV.no HO2.out (sFB (by assumption))
        · have HO2 : Hid (o = some (r.drop nk)) := Lib.hid (by rw [HO.out]; rfl)
          go_enter Tryz.func98, Tryz.ntmps98
          go_wp2_with fail
          go_quiet (fail)
          have S1 : ((w.alloc (.cells #[.string ⟨yt.toArray⟩, .slice K nk nk] 153)).drewN nq).cell? ⟨w.heap.size, 1, none⟩ = some (.slice K nk nk) ∧ Below w.heap.size w ((w.alloc (.cells #[.string ⟨yt.toArray⟩, .slice K nk nk] 153)).drewN nq) := ⟨w1, bdrewN B0 nq⟩
          clear w0 w1 B0 d0 d1 W0
          go_wp2_with fail
          generalize (w.alloc (.cells #[.string ⟨yt.toArray⟩, .slice K nk nk] 153)).drewN nq = W1 at S1 ⊢
          go_region_held3 (fun w' => w'.cell? ⟨w.heap.size, 1, none⟩ = some (.slice K nk nk) ∧ Below w.heap.size w w')
            (first | (exact keepF S1 (Below.refl _ _).drew) | (exact keepF (by assumption) hb))
            (first | (go_at_call 139; ((with_reducible refine (HC.out _ _ (sFB (by assumption))).mono ?_); rintro e w' ⟨rfl, hb⟩)))
          go_wp2_with fail
          all_goals go_ret2
          all_goals exact CutV.yes2 HO2.out HLR.out (by omega) (by first | exact list_zero (by have := HLR.out; omega) | exact L2.out) (sFB (by assumption))
      · rw [if_neg hc1] at HC
        cases q
        · have HO2 : Hid (o = none) := Lib.hid (by rw [HO.out]; rfl)
          go_enter Tryz.func98, Tryz.ntmps98
          go_wp2_with fail
          go_quiet (fail)
          have S1 : ((w.alloc (.cells #[.string ⟨yt.toArray⟩, .slice K nk nk] 153)).drewN nq).cell? ⟨w.heap.size, 1, none⟩ = some (.slice K nk nk) ∧ Below w.heap.size w ((w.alloc (.cells #[.string ⟨yt.toArray⟩, .slice K nk nk] 153)).drewN nq) := ⟨w1, bdrewN B0 nq⟩
          clear w0 w1 B0 d0 d1 W0
          go_wp2_with fail
          generalize (w.alloc (.cells #[.string ⟨yt.toArray⟩, .slice K nk nk] 153)).drewN nq = W1 at S1 ⊢
          go_region_held3 (fun w' => w'.cell? ⟨w.heap.size, 1, none⟩ = some (.slice K nk nk) ∧ Below w.heap.size w w')
            (first | (exact keepF S1 (Below.refl _ _).drew) | (exact keepF (by assumption) hb))
            (first | (go_at_call 139; ((with_reducible refine (HC.out _ _ (sFB (by assumption))).mono ?_); rintro e w' ⟨rfl, hb⟩)))
          go_wp2_with fail
          all_goals go_ret2
          all_goals exact CutV.no HO2.out (sFB (by assumption))
        · have HO2 : Hid (o = some (r.drop nk)) := Lib.hid (by rw [HO.out]; rfl)
          go_enter Tryz.func98, Tryz.ntmps98
          go_wp2_with fail
          go_quiet (fail)
          have S1 : ((w.alloc (.cells #[.string ⟨yt.toArray⟩, .slice K nk nk] 153)).drewN nq).cell? ⟨w.heap.size, 1, none⟩ = some (.slice K nk nk) ∧ Below w.heap.size w ((w.alloc (.cells #[.string ⟨yt.toArray⟩, .slice K nk nk] 153)).drewN nq) := ⟨w1, bdrewN B0 nq⟩
          clear w0 w1 B0 d0 d1 W0
          go_wp2_with fail
          generalize (w.alloc (.cells #[.string ⟨yt.toArray⟩, .slice K nk nk] 153)).drewN nq = W1 at S1 ⊢
          go_region_held3 (fun w' => w'.cell? ⟨w.heap.size, 1, none⟩ = some (.slice K nk nk) ∧ Below w.heap.size w w')
            (first | (exact keepF S1 (Below.refl _ _).drew) | (exact keepF (by assumption) hb))
            (first | (go_at_call 139; ((with_reducible refine (HC.out _ _ (sFB (by assumption))).mono ?_); rintro e w' ⟨rfl, hb⟩)))
          go_wp2_with fail
          all_goals go_ret2
          all_goals exact CutV.yes2 HO2.out HLR.out (by omega) (by first | exact list_zero (by have := HLR.out; omega) | exact L2.out) (sFB (by assumption))
    · have HO : Hid (o = none) := Lib.hid (by rw [← ho, Sy.cut_cons, if_neg (fun h => ht h.2.2.1)])
      have t1 : (yt == kw) = false := by simpa using ht
      have t2 : (yt != kw) = true := by simpa using ht
      clear ho hA hK c0 c1 c2 hn hnk
      go_enter Tryz.func98, Tryz.ntmps98
      go_wp2_with fail
      go_quiet (fail)
      go_wp2_with fail
      go_ret2
      exact CutV.no HO.out (bdrewN B0 _)
  · have HO : Hid (o = none) := Lib.hid (by rw [← ho, Sy.cut_cons, if_neg (fun h => hk h.2.1)])
    have t1 : (yk == 0) = false := by simpa using hk
    have t2 : (yk != 0) = true := by simpa using hk
    clear ho hA hK c0 c1 c2 hn hnk
    go_enter Tryz.func98, Tryz.ntmps98
    go_wp2_with fail
    go_quiet (fail)
    go_wp2_with fail
    go_ret2
    exact CutV.no HO.out (bdrewN B0 _)
end Go.Proofs.YtphenbfhojdcpaaGreatDoor
namespace Go.Proofs.YtphenbfhojdcpaaGreatDoor
open Go.RowKit
set_option linter.unusedVariables false
set_option linter.unusedSimpArgs false
set_option maxRecDepth 100000
theorem fcut_is {f : Sy.Fm} {ts : List Lx.Tk} {o : Option (List Lx.Tk)} (ho : Sy.cutS f ts = o) (K A : Option Addr) (n c : Nat) (w : World) (hK : NumsAt w K f.2) (hA : ListAt 3 eTok w A ts) (hn : ts.length = n) (hc : n ≤ c) (hs : n ≤ 1000) (hf : f.2.length ≤ 10) :
    Calls Tryz.prog 98 #[.agg #[.string ⟨f.1.toArray⟩, .slice K f.2.length f.2.length], .slice A n c] w (CutV o w) := by
  by_cases h : n < 1 + f.2.length
  · exact cut_none ⟨f.1.toArray⟩ f.2 K A n c f.2.length w rfl hf h o (by rw [← ho]; exact cut_short (by omega))
  · cases ts with
    | nil => simp at hn; omega
    | cons y r =>
      obtain ⟨b, off, ea, -, -⟩ := hA (by simp)
      subst ea
      simp at hn
      exact cut_any f K b off n c y r w hK hA hn hc hs hf (by omega) o ho
theorem F_small {f : Sy.Fm} {k : Nat} (h : Sy.F[k]? = some f) : f.2.length ≤ 10 := by
  have hall : (Sy.F.all fun f => decide (f.2.length ≤ 10)) = true := by kernel_rfl
  simpa using List.all_eq_true.1 hall f (List.mem_of_getElem? h)
theorem O_small {f : Sy.Fm} {k : Nat} (h : Sy.optF[k]? = some f) : f.2.length ≤ 10 := by
  have hall : (Sy.optF.all fun f => decide (f.2.length ≤ 10)) = true := by kernel_rfl
  simpa using List.all_eq_true.1 hall f (List.mem_of_getElem? h)
theorem opt_some {f : Sy.Fm} {fs : List Sy.Fm} {l o : List Lx.Tk} (h : Sy.cutS f l = some o) : Sy.optG (f :: fs) l = Sy.optG fs o := by rw [Sy.optG, h]
theorem opt_none {f : Sy.Fm} {fs : List Sy.Fm} {l : List Lx.Tk} (h : Sy.cutS f l = none) : Sy.optG (f :: fs) l = Sy.optG fs l := by rw [Sy.optG, h]
set_option maxHeartbeats 8000000 in
theorem opts_any (A : Option Addr) (n c : Nat) (ts R : List Lx.Tk) (w : World) (hA : ListAt 3 eTok w A ts) (hn : ts.length = n) (hc : n ≤ c) (hs : n ≤ 1000) (hR : Sy.optG Sy.optF ts = R) :
    Calls Tryz.prog 140 #[.slice A n c] w fun e w' => (∃ A' c', e = .returned (.slice A' R.length c')) ∧ Below w.heap.size w w' := by
  have HF := Lib.hid (fms_new w Sy.optF 153)
  have HB := Lib.hid (fmW_below Sy.optF w)
  have HB2 := Lib.hid (HB.out.alloc HB.out.size (.cells (fmV w.heap.size Sy.optF).toArray 153))
  have key : ∀ (W : World) (b : Nat), W = (fmW w Sy.optF).alloc (.cells (fmV w.heap.size Sy.optF).toArray 153) → b = w.heap.size + 2 → FmsAt W b Sy.optF ∧ Below w.heap.size w W := by
    rintro _ _ rfl h
    obtain rfl : _ = (fmW w Sy.optF).heap.size := h.trans (fmW_size Sy.optF w).symm
    exact ⟨HF.out, HB2.out⟩
  have KEY := Lib.hid key
  have HR0 : Hid (Sy.optG (Sy.optF.drop 0) ts = R) := Lib.hid hR
  have HA := Lib.hid hA
  have HN := Lib.hid hn
  have K := KEY.out (((w.alloc (.cells #[.int .i64 1] 3)).alloc (.cells #[.int .i64 1] 3)).alloc (.cells #[.string ⟨#[119, 101, 101, 107]⟩, .slice (some ⟨w.heap.size, 0, none⟩) 1 1, .string ⟨#[114, 101, 115, 116]⟩, .slice (some ⟨w.heap.size + 1, 0, none⟩) 1 1, .string ⟨#[99, 111, 110, 115, 101, 110, 116]⟩, .slice none 0 0] 153)) _ (by kernel_rfl) rfl
  clear key KEY HF HB HB2 hR hA hn
  go_enter Tryz.func140, Tryz.ntmps140
  go_wp2_with fail
  go_loopw [0, 14] (fun v i wr => ∃ (k : Nat) (l : List Lx.Tk) (A' : Option Addr) (m c' : Nat), k ≤ 3 ∧ i = .int .i64 k ∧ v = .slice A' m c' ∧ Hid (ListAt 3 eTok wr A' l) ∧ l.length = m ∧ m ≤ c' ∧ m ≤ 1000 ∧ Hid (Sy.optG (Sy.optF.drop k) l = R) ∧ Hid (FmsAt wr (w.heap.size + 2) Sy.optF) ∧ Hid (Below w.heap.size w wr)) (fun _ i _ => 3 - (intOf i).toNat)
  case atStart =>
    exact ⟨0, ts, A, n, c, by omega, rfl, rfl, Lib.hid (HA.out.below K.2), HN.out, hc, hs, HR0, Lib.hid K.1, Lib.hid K.2⟩
  case round =>
    clear HR0 K HN HA
    obtain ⟨k, l, A', m, c', hk, rfl, rfl, HL, hm, hmc, hms, HR, HF, HB⟩ := hrel
    have HM := Lib.hid hm
    clear hm
    by_cases hlt : k < 3
    · obtain ⟨⟨kw, ks⟩, hf⟩ := get_ex (xs := Sy.optF) (i := k) hlt
      obtain ⟨f0, K, f1, hK⟩ := HF.out k (kw, ks) hf
      simp only at f0 f1 hK
      have hst := HR.out
      rw [drop_cons' hf] at hst
      have HST := Lib.hid hst
      have H10 := Lib.hid (O_small hf)
      have hrz := HB.out.size
      have HK := Lib.hid (hK.below ((Below.refl _ wr).alloc (Nat.le_refl _) (.cells #[.string ⟨kw.toArray⟩, .slice K ks.length ks.length] 153)))
      have HL2 := Lib.hid (HL.out.alloc (.cells #[.string ⟨kw.toArray⟩, .slice K ks.length ks.length] 153))
      have HF2 := Lib.hid (HF.out.below ((Below.refl _ wr).alloc (Nat.le_refl _) (.cells #[.string ⟨kw.toArray⟩, .slice K ks.length ks.length] 153)))
      have HB2 := Lib.hid (HB.out.alloc hrz (.cells #[.string ⟨kw.toArray⟩, .slice K ks.length ks.length] 153))
      clear hst HR hf hK HF HB
      obtain ⟨o, ho⟩ : ∃ o, Sy.cutS (kw, ks) l = o := ⟨_, rfl⟩
      have HO := Lib.hid ho
      clear ho
      go_wp2_with fail
      refine (fcut_is (f := (kw, ks)) HO.out K A' m c' _ HK.out HL2.out HM.out hmc hms H10.out).mono ?_
      rintro e w1 ⟨⟨ho, rfl⟩ | ⟨r, A2, c2, ho, rfl, hc2, hl2⟩, b1⟩
      · have N := Lib.hid (show Sy.optG (Sy.optF.drop (k + 1)) l = R by rw [← HST.out, opt_none (by rw [HO.out]; exact ho)])
        have HL3 := Lib.hid (HL2.out.below b1)
        have HF3 := Lib.hid (HF2.out.below b1)
        have HB3 := Lib.hid (bstep HB2.out b1)
        clear ho b1 HST
        go_wp2_with fail
        go_roundw
        case rel => exact ⟨k + 1, l, A', m, c', by omega, by go_num, rfl, HL3, HM.out, hmc, hms, N, HF3, HB3⟩
        case measure => simp [intOf]; omega
      · have N := Lib.hid (show Sy.optG (Sy.optF.drop (k + 1)) r = R by rw [← HST.out, opt_some (by rw [HO.out]; exact ho)])
        have hrl := Sy.cut_len (HO.out.trans ho)
        have hrl2 : r.length ≤ 1000 := by have := HM.out; omega
        have HL3 := Lib.hid (hl2.below b1)
        have HF3 := Lib.hid (HF2.out.below b1)
        have HB3 := Lib.hid (bstep HB2.out b1)
        obtain ⟨q, hq⟩ : ∃ q, r.length = q := ⟨_, rfl⟩
        have HQ := Lib.hid hq
        rw [hq] at hc2 hrl2 ⊢
        clear ho b1 HST hl2 hrl hq
        go_wp2_with fail
        go_roundw
        case rel => exact ⟨k + 1, r, A2, q, c2, by omega, by go_num, rfl, HL3, HQ.out, hc2, hrl2, N, HF3, HB3⟩
        case measure => simp [intOf]; omega
    · have N := Lib.hid (show R.length = m by rw [← HR.out, List.drop_of_length_le (by show 3 ≤ k; omega)]; exact HM.out)
      go_wp2_with fail
      go_ret
      exact ⟨⟨A', c', by rw [N.out]; rfl⟩, HB.out⟩
theorem isEmpty_len {R : List Lx.Tk} {m : Nat} (h : R.length = m) : ((m : Int) == 0) = R.isEmpty := by
  subst h
  cases R with
  | nil => rfl
  | cons a t => simp only [List.length_cons, List.isEmpty_cons, beq_eq_false_iff_ne, ne_eq]; omega
set_option maxHeartbeats 8000000 in
theorem mayEnd_is {kw : List UInt8} {ts : List Lx.Tk} {R : Bool} (hR : Sy.mayEnd kw ts = R) (K A : Option Addr) (nk n c : Nat) (w : World) (hA : ListAt 3 eTok w A ts) (hn : ts.length = n) (hc : n ≤ c) (hs : n ≤ 1000) :
    Calls Tryz.prog 99 #[.agg #[.string ⟨kw.toArray⟩, .slice K nk nk], .slice A n c] w fun e w' => e = .returned (.bool R) ∧ Below w.heap.size w w' := by
  have B0 := (Below.refl _ w).alloc (Nat.le_refl _) (.cells #[.string ⟨kw.toArray⟩, .slice K nk nk] 153)
  have HL := Lib.hid (hA.alloc (.cells #[.string ⟨kw.toArray⟩, .slice K nk nk] 153))
  have HN := Lib.hid hn
  unfold Sy.mayEnd at hR
  by_cases h1 : kw = [112, 101, 114, 115, 111, 110]
  · rw [if_pos h1] at hR
    subst h1
    have C := Lib.hid (opts_any A n c ts _ _ HL.out hn hc hs rfl)
    have HR := Lib.hid hR
    clear hA hn hR
    go_enter Tryz.func99, Tryz.ntmps99
    go_wp2_with fail
    refine C.out.mono ?_
    rintro e w1 ⟨⟨A', c', rfl⟩, b1⟩
    have B1 := bstep B0 b1
    obtain ⟨q, hq⟩ : ∃ q, (Sy.optG Sy.optF ts).length = q := ⟨_, rfl⟩
    have HQ := Lib.hid (isEmpty_len hq)
    rw [hq]
    clear hq b1
    go_wp2_with fail
    go_ret
    exact ⟨ret_bool (by rw [← HR.out]; exact HQ.out), B1⟩
  · rw [if_neg h1] at hR
    have e1 : (kw == [112, 101, 114, 115, 111, 110]) = false := by simpa using h1
    by_cases h2 : kw = [100, 97, 121, 115]
    · rw [if_pos h2] at hR
      subst h2
      have C := Lib.hid (all_any A n c ts 3 R _ HL.out hn (by omega) hR)
      clear hA hn hR e1 h1
      go_enter Tryz.func99, Tryz.ntmps99
      go_wp2_with fail
      refine C.out.mono ?_
      rintro e w1 ⟨rfl, b1⟩
      have B1 := bstep B0 b1
      go_wp2_with fail
      go_ret
      exact ⟨rfl, B1⟩
    · rw [if_neg h2] at hR
      have e2 : (kw == [100, 97, 121, 115]) = false := by simpa using h2
      by_cases h3 : kw = [109, 101, 109, 98, 101, 114]
      · rw [if_pos h3] at hR
        subst h3
        have C := Lib.hid (all_any A n c ts 0 R _ HL.out hn (by omega) hR)
        clear hA hn hR e1 h1 e2 h2
        go_enter Tryz.func99, Tryz.ntmps99
        go_wp2_with fail
        refine C.out.mono ?_
        rintro e w1 ⟨rfl, b1⟩
        have B1 := bstep B0 b1
        go_wp2_with fail
        go_ret
        exact ⟨rfl, B1⟩
      · rw [if_neg h3] at hR
        have e3 : (kw == [109, 101, 109, 98, 101, 114]) = false := by simpa using h3
        have HR := Lib.hid ((isEmpty_len hn).trans hR)
        clear hA hn hR
        go_enter Tryz.func99, Tryz.ntmps99
        go_wp2_with fail
        go_ret
        exact ⟨ret_bool HR.out, B0⟩
set_option maxHeartbeats 8000000 in
theorem form_is {ts : List Lx.Tk} {R : Bool} (hR : Sy.formS ts = R) (A : Option Addr) (n c : Nat) (w : World) (hA : ListAt 3 eTok w A ts) (hn : ts.length = n) (hc : n ≤ c) (hs : n ≤ 1000) :
    Calls Tryz.prog 58 #[.slice A n c] w fun e w' => e = .returned (.bool R) ∧ Below w.heap.size w w' := by
  have HR0 : Hid (Sy.goS (Sy.F.drop 0) ts = R) := Lib.hid hR
  have HA := Lib.hid hA
  have HN := Lib.hid hn
  clear hR hA hn
  go_enter Tryz.func58, Tryz.ntmps58
  go_wp2_with fail
  refine (forms_any _).mono ?_
  rintro e w2 ⟨b, rfl, hF, hb2, b2⟩
  have HF2 := Lib.hid hF
  have HB2 := Lib.hid b2
  clear hF b2
  go_wp2_with fail
  go_loopw [9] (fun i wr => ∃ k : Nat, k ≤ 15 ∧ i = .int .i64 k ∧ Hid (Sy.goS (Sy.F.drop k) ts = R) ∧ Hid (Below w2.heap.size w2 wr)) (fun i _ => 15 - (intOf i).toNat)
  case atStart => exact ⟨0, by omega, rfl, HR0, Lib.hid (Below.refl _ _)⟩
  case round =>
    clear HR0
    obtain ⟨k, hk, rfl, HR, HB⟩ := hrel
    by_cases hlt : k < 15
    · obtain ⟨⟨kw, ks⟩, hf⟩ := get_ex (xs := Sy.F) (i := k) hlt
      obtain ⟨f0, K, f1, hK⟩ := (HF2.out.below HB.out) k (kw, ks) hf
      simp only at f0 f1 hK
      have hst := HR.out
      rw [drop_cons' hf] at hst
      have HST := Lib.hid hst
      have H10 := Lib.hid (F_small hf)
      have hrz := HB.out.size
      have hbr : b < wr.heap.size := by omega
      have HBA := Lib.hid ((Below.refl _ wr).alloc (Nat.le_refl _) (.cells #[.string ⟨kw.toArray⟩, .slice K ks.length ks.length] 153))
      have HK := Lib.hid (hK.below HBA.out)
      have HB3 := Lib.hid (HB.out.alloc hrz (.cells #[.string ⟨kw.toArray⟩, .slice K ks.length ks.length] 153))
      have HL := Lib.hid ((HA.out.below HB2.out).below HB3.out)
      have W0 := BlkAt.new wr #[.string ⟨kw.toArray⟩, .slice K ks.length ks.length] 153
      clear hst HR hf hK HB
      obtain ⟨o, ho⟩ : ∃ o, Sy.cutS (kw, ks) ts = o := ⟨_, rfl⟩
      have HO := Lib.hid ho
      clear ho
      go_wp2_with fail
      refine (fcut_is (f := (kw, ks)) HO.out K A n c _ HK.out HL.out HN.out hc hs H10.out).mono ?_
      rintro e w1 ⟨⟨ho, rfl⟩ | ⟨r, A2, c2, ho, rfl, hc2, hl2⟩, b1⟩
      · have N := Lib.hid (show Sy.goS (Sy.F.drop (k + 1)) ts = R by rw [← HST.out, Sy.go_none (by rw [HO.out]; exact ho)])
        have HB4 := Lib.hid (bstep HB3.out b1)
        clear ho b1 HST W0
        go_wp2_with fail
        go_roundw
        case rel => exact ⟨k + 1, by omega, by go_num, N, HB4⟩
        case measure => simp [intOf]; omega
      · have N := Lib.hid (show Sy.mayEnd kw r = R by rw [← HST.out, Sy.go_some (HO.out.trans ho)])
        have hrl := Sy.cut_len (HO.out.trans ho)
        have hrl2 : r.length ≤ 1000 := by have := HN.out; omega
        have W1 := W0.after b1
        have w0 : w1.cell? ⟨wr.heap.size, 0, none⟩ = some (.string ⟨kw.toArray⟩) := W1.cell rfl
        have w1' : w1.cell? ⟨wr.heap.size, 1, none⟩ = some (.slice K ks.length ks.length) := W1.cell rfl
        have HL3 := Lib.hid (hl2.below b1)
        have HB4 := Lib.hid (bstep HB3.out b1)
        obtain ⟨q, hq⟩ : ∃ q, r.length = q := ⟨_, rfl⟩
        have HQ := Lib.hid hq
        rw [hq] at hc2 hrl2 ⊢
        clear ho b1 HST hl2 hrl hq W0 W1
        go_wp2_with fail
        refine (mayEnd_is N.out K A2 ks.length q c2 _ HL3.out HQ.out hc2 hrl2).mono ?_
        rintro e w4 ⟨rfl, b4⟩
        have B5 := bstep HB2.out (bstep HB4.out b4)
        go_wp2_with fail
        go_ret
        exact ⟨rfl, B5⟩
    · have N := Lib.hid (show R = false by rw [← HR.out, List.drop_of_length_le (by show 15 ≤ k; omega)]; rfl)
      have B5 := bstep HB2.out HB.out
      go_wp2_with fail
      go_ret
      rw [N.out]
      exact ⟨rfl, B5⟩
end Go.Proofs.YtphenbfhojdcpaaGreatDoor
