/- Package syntax: the tokens behind a form, the options of a person, how a statement may end, and Form. -/
import Derived.Test.YtoohijffkbkikaaGreatDoorYf
namespace Go.Proofs.YtoohijffkbkikaaGreatDoor
open Go.RowKit
set_option linter.unusedVariables false
set_option linter.unusedSimpArgs false
set_option maxRecDepth 100000

/-- What cut hands back. -/
def CutV (o : Option (List Lx.Tk)) (w : World) (e : Ending) (w' : World) : Prop :=
  ((o = none ∧ e = .returned (.tuple #[.slice none 0 0, .bool false])) ∨ ∃ (r : List Lx.Tk) (A : Option Addr) (c : Nat), o = some r ∧ e = .returned (.tuple #[.slice A r.length c, .bool true]) ∧ r.length ≤ c ∧ ListAt 3 eTok w A r) ∧ Below w.heap.size w w'
theorem CutV.no {o : Option (List Lx.Tk)} {w w' : World} (h : o = none) (hb : Below w.heap.size w w') : CutV o w (.returned (.tuple #[.slice none 0 0, .bool false])) w' := ⟨.inl ⟨h, rfl⟩, hb⟩
theorem CutV.yes {o : Option (List Lx.Tk)} {w w' : World} {r : List Lx.Tk} {A : Option Addr} {c : Nat} (h : o = some r) (hc : r.length ≤ c) (hl : ListAt 3 eTok w A r) (hb : Below w.heap.size w w') : CutV o w (.returned (.tuple #[.slice A r.length c, .bool true])) w' := ⟨.inr ⟨r, A, c, h, rfl, hc, hl⟩, hb⟩
theorem CutV.yes2 {o : Option (List Lx.Tk)} {w w' : World} {r : List Lx.Tk} {A : Option Addr} {m c : Nat} (h : o = some r) (hm : r.length = m) (hc : m ≤ c) (hl : ListAt 3 eTok w A r) (hb : Below w.heap.size w w') : CutV o w (.returned (.tuple #[.slice A m c, .bool true])) w' := by
  subst hm
  exact CutV.yes h hc hl hb
theorem list_zero {w : World} {A : Option Addr} {r : List Lx.Tk} (h : r.length = 0) : ListAt 3 eTok w A r := fun h0 => absurd h0 (by omega)
theorem cut_short {f : Sy.Fm} {ts : List Lx.Tk} (h : ts.length < 1 + f.2.length) : Sy.cutS f ts = none := by
  cases ts with
  | nil => rfl
  | cons t r => rw [Sy.cut_cons, if_neg]; simp at h; omega
theorem keepF {b : Nat} {v : Value} {W wc w' : World} (h : wc.cell? ⟨b, 1, none⟩ = some v ∧ Below W.heap.size W wc) (hb : Below wc.heap.size wc w') : w'.cell? ⟨b, 1, none⟩ = some v ∧ Below W.heap.size W w' := ⟨cell_lift h.1 hb, bstep h.2 hb⟩

theorem sFB {a : Prop} {W wc : World} (h : a ∧ Below W.heap.size W wc) : Below W.heap.size W wc := h.2

set_option maxHeartbeats 4000000 in
theorem cut_none (kw : ByteArray) (ks : List Int) (K : Option Addr) (A : Option Addr) (n c nk : Nat) (w : World) (hk : ks.length = nk) (hk10 : nk ≤ 10) (h : n < 1 + nk) (o : Option (List Lx.Tk)) (ho : o = none) :
    Calls Tryz.prog 37 #[.agg #[.string kw, .slice K nk nk], .slice A n c] w (CutV o w) := by
  have h1 : decide ((n : Int) < 1 + nk) = true := by simp; omega
  have h2 : decide ((n : Int) < 1 + (nk : Int)) = true := h1
  have B0 := (Below.refl _ w).alloc (Nat.le_refl _) (.cells #[.string kw, .slice K nk nk] 72)
  clear h hk
  go_enter Tryz.func37, Tryz.ntmps37
  go_wp2_with fail
  go_quiet (fail)
  go_wp2_with fail
  go_ret2
  exact CutV.no ho (bdrewN B0 _)
set_option maxHeartbeats 4000000 in
theorem cut_any (f : Sy.Fm) (K : Option Addr) (b off n c : Nat) (y : Lx.Tk) (r : List Lx.Tk) (w : World) (hK : NumsAt w K f.2) (hA : ListAt 3 eTok w (some ⟨b, off, none⟩) (y :: r)) (hn : r.length + 1 = n) (hc : n ≤ c) (hs : n ≤ 1000) (hf : f.2.length ≤ 10) (hle : f.2.length ≤ r.length) (o : Option (List Lx.Tk)) (ho : Sy.cutS f (y :: r) = o) :
    Calls Tryz.prog 37 #[.agg #[.string ⟨f.1.toArray⟩, .slice K f.2.length f.2.length], .slice (some ⟨b, off, none⟩) n c] w (CutV o w) := by
  obtain ⟨kw, ks⟩ := f
  obtain ⟨yk, yt, yn⟩ := y
  simp only at hK hf hle ⊢
  obtain ⟨nk, hnk⟩ : ∃ nk, ks.length = nk := ⟨_, rfl⟩
  rw [hnk] at hf hle ⊢
  have hblt := hA.lt_ (by simp)
  obtain ⟨_, _, ea, c0, c1, c2⟩ := tok_elem (k := 0) hA (show ((yk, yt, yn) :: r)[0]? = some (yk, yt, yn) from rfl)
  cases ea
  simp only [Nat.zero_mul, Nat.add_zero] at c0 c1 c2
  have h1 : decide ((n : Int) < 1 + nk) = false := by simp; omega
  have W0 := BlkAt.new w #[.string ⟨kw.toArray⟩, .slice K nk nk] 72
  have w0 : (w.alloc (.cells #[.string ⟨kw.toArray⟩, .slice K nk nk] 72)).cell? ⟨w.heap.size, 0, none⟩ = some (.string ⟨kw.toArray⟩) := W0.cell rfl
  have w1 : (w.alloc (.cells #[.string ⟨kw.toArray⟩, .slice K nk nk] 72)).cell? ⟨w.heap.size, 1, none⟩ = some (.slice K nk nk) := W0.cell rfl
  have B0 := (Below.refl _ w).alloc (Nat.le_refl _) (.cells #[.string ⟨kw.toArray⟩, .slice K nk nk] 72)
  have d0 := cell_lift c0 B0
  have d1 := cell_lift c1 B0
  have n1 : (1 : Int) ≤ n := by omega
  have n0 : (0 : Int) < n := by omega
  have HNK := Lib.hid hnk
  have HN := Lib.hid hn
  by_cases hk : yk = 0
  · subst hk
    have k1 : ((0 : Int) != 0) = false := by decide
    by_cases ht : yt = kw
    · subst ht
      have L1 := hA.sub 1 nk
      have L2 := Lib.hid (hA.rest (1 + nk))
      simp only [List.drop_succ_cons, List.drop_zero, Nat.one_mul] at L1
      have hr2 : ((0, yt, yn) :: r).drop (1 + nk) = r.drop nk := by rw [Nat.add_comm, List.drop_succ_cons]
      rw [hr2] at L2
      have hlr : (r.drop nk).length = n - (1 + nk) := by rw [List.length_drop]; omega
      obtain ⟨q, hq⟩ : ∃ q, (((r.take nk).map (·.1)) == ks) = q := ⟨_, rfl⟩
      have L1' : ListAt 3 eTok w (if c = 1 then some ⟨b, off, none⟩ else some ⟨b, off + 3, none⟩) (r.take nk) := by
        by_cases hc1 : c = 1
        · have : r = [] := List.eq_nil_of_length_eq_zero (by omega)
          subst this
          rw [List.take_nil]
          exact ListAt.nil_
        · rw [if_neg hc1]; exact L1
      have C := fun (cc : Nat) (W : World) (hB : Below w.heap.size w W) => eqf_any (if c = 1 then some ⟨b, off, none⟩ else some ⟨b, off + 3, none⟩) K ((1 + (nk : Int)).toNat - 1) cc nk nk (r.take nk) ks q W (L1'.below hB) (by rw [List.length_take]; omega) (hK.below hB) hnk (by omega) hq
      have HC := Lib.hid C
      have s1 : (1 : Int) ≤ 1 + nk := by omega
      have s2 : (1 + nk : Int) ≤ n := by omega
      have s3 : (1 + nk : Int) ≤ c := by omega
      have HO : Hid (o = if q = true then some (r.drop nk) else none) := by
        refine Lib.hid ?_
        rw [← ho, ← hq, Sy.cut_cons]
        by_cases he : (r.take nk).map (·.1) = ks
        · rw [if_pos (by simp only [hnk]; exact ⟨hle, trivial, trivial, he⟩), if_pos (by simpa using he), hnk]
        · rw [if_neg (by simp only [hnk]; exact fun h => he h.2.2.2), if_neg (by simpa using he)]
      have HLR := Lib.hid hlr
      clear ho hA hK hq C L1 L1' hr2 hlr c0 c1 c2 hn hnk
      by_cases hc1 : c = 1
      · rw [if_pos hc1, show (1 + (nk : Int)).toNat - 1 = 0 by omega] at HC
        subst hc1
        have s4 : (1 + nk : Int) ≤ 1 := by omega
        cases q
        · have HO2 : Hid (o = none) := Lib.hid (by rw [HO.out]; rfl)
          go_enter Tryz.func37, Tryz.ntmps37
          go_wp2_with fail
          go_quiet (fail)
          have S1 : ((w.alloc (.cells #[.string ⟨yt.toArray⟩, .slice K nk nk] 72)).drewN nq).cell? ⟨w.heap.size, 1, none⟩ = some (.slice K nk nk) ∧ Below w.heap.size w ((w.alloc (.cells #[.string ⟨yt.toArray⟩, .slice K nk nk] 72)).drewN nq) := ⟨w1, bdrewN B0 nq⟩
          clear w0 w1 B0 d0 d1 W0
          go_wp2_with fail
          generalize (w.alloc (.cells #[.string ⟨yt.toArray⟩, .slice K nk nk] 72)).drewN nq = W1 at S1 ⊢
          go_region_held3 (fun w' => w'.cell? ⟨w.heap.size, 1, none⟩ = some (.slice K nk nk) ∧ Below w.heap.size w w')
            (first | (exact keepF S1 (Below.refl _ _).drew) | (exact keepF (by assumption) hb))
            (first | (go_at_call 60; ((with_reducible refine (HC.out _ _ (sFB (by assumption))).mono ?_); rintro e w' ⟨rfl, hb⟩)))
          go_wp2_with fail
          all_goals go_ret2
          all_goals exact CutV.no HO2.out (sFB (by assumption))
        · have HO2 : Hid (o = some (r.drop nk)) := Lib.hid (by rw [HO.out]; rfl)
          go_enter Tryz.func37, Tryz.ntmps37
          go_wp2_with fail
          go_quiet (fail)
          have S1 : ((w.alloc (.cells #[.string ⟨yt.toArray⟩, .slice K nk nk] 72)).drewN nq).cell? ⟨w.heap.size, 1, none⟩ = some (.slice K nk nk) ∧ Below w.heap.size w ((w.alloc (.cells #[.string ⟨yt.toArray⟩, .slice K nk nk] 72)).drewN nq) := ⟨w1, bdrewN B0 nq⟩
          clear w0 w1 B0 d0 d1 W0
          go_wp2_with fail
          generalize (w.alloc (.cells #[.string ⟨yt.toArray⟩, .slice K nk nk] 72)).drewN nq = W1 at S1 ⊢
          go_region_held3 (fun w' => w'.cell? ⟨w.heap.size, 1, none⟩ = some (.slice K nk nk) ∧ Below w.heap.size w w')
            (first | (exact keepF S1 (Below.refl _ _).drew) | (exact keepF (by assumption) hb))
            (first | (go_at_call 60; ((with_reducible refine (HC.out _ _ (sFB (by assumption))).mono ?_); rintro e w' ⟨rfl, hb⟩)))
          go_wp2_with fail
          all_goals go_ret2
          all_goals exact CutV.yes2 HO2.out HLR.out (by omega) (by first | exact list_zero (by have := HLR.out; omega) | exact L2.out) (sFB (by assumption))
      · rw [if_neg hc1] at HC
        cases q
        · have HO2 : Hid (o = none) := Lib.hid (by rw [HO.out]; rfl)
          go_enter Tryz.func37, Tryz.ntmps37
          go_wp2_with fail
          go_quiet (fail)
          have S1 : ((w.alloc (.cells #[.string ⟨yt.toArray⟩, .slice K nk nk] 72)).drewN nq).cell? ⟨w.heap.size, 1, none⟩ = some (.slice K nk nk) ∧ Below w.heap.size w ((w.alloc (.cells #[.string ⟨yt.toArray⟩, .slice K nk nk] 72)).drewN nq) := ⟨w1, bdrewN B0 nq⟩
          clear w0 w1 B0 d0 d1 W0
          go_wp2_with fail
          generalize (w.alloc (.cells #[.string ⟨yt.toArray⟩, .slice K nk nk] 72)).drewN nq = W1 at S1 ⊢
          go_region_held3 (fun w' => w'.cell? ⟨w.heap.size, 1, none⟩ = some (.slice K nk nk) ∧ Below w.heap.size w w')
            (first | (exact keepF S1 (Below.refl _ _).drew) | (exact keepF (by assumption) hb))
            (first | (go_at_call 60; ((with_reducible refine (HC.out _ _ (sFB (by assumption))).mono ?_); rintro e w' ⟨rfl, hb⟩)))
          go_wp2_with fail
          all_goals go_ret2
          all_goals exact CutV.no HO2.out (sFB (by assumption))
        · have HO2 : Hid (o = some (r.drop nk)) := Lib.hid (by rw [HO.out]; rfl)
          go_enter Tryz.func37, Tryz.ntmps37
          go_wp2_with fail
          go_quiet (fail)
          have S1 : ((w.alloc (.cells #[.string ⟨yt.toArray⟩, .slice K nk nk] 72)).drewN nq).cell? ⟨w.heap.size, 1, none⟩ = some (.slice K nk nk) ∧ Below w.heap.size w ((w.alloc (.cells #[.string ⟨yt.toArray⟩, .slice K nk nk] 72)).drewN nq) := ⟨w1, bdrewN B0 nq⟩
          clear w0 w1 B0 d0 d1 W0
          go_wp2_with fail
          generalize (w.alloc (.cells #[.string ⟨yt.toArray⟩, .slice K nk nk] 72)).drewN nq = W1 at S1 ⊢
          go_region_held3 (fun w' => w'.cell? ⟨w.heap.size, 1, none⟩ = some (.slice K nk nk) ∧ Below w.heap.size w w')
            (first | (exact keepF S1 (Below.refl _ _).drew) | (exact keepF (by assumption) hb))
            (first | (go_at_call 60; ((with_reducible refine (HC.out _ _ (sFB (by assumption))).mono ?_); rintro e w' ⟨rfl, hb⟩)))
          go_wp2_with fail
          all_goals go_ret2
          all_goals exact CutV.yes2 HO2.out HLR.out (by omega) (by first | exact list_zero (by have := HLR.out; omega) | exact L2.out) (sFB (by assumption))
    · have HO : Hid (o = none) := Lib.hid (by rw [← ho, Sy.cut_cons, if_neg (fun h => ht h.2.2.1)])
      have t1 : (yt == kw) = false := by simpa using ht
      have t2 : (yt != kw) = true := by simpa using ht
      clear ho hA hK c0 c1 c2 hn hnk
      go_enter Tryz.func37, Tryz.ntmps37
      go_wp2_with fail
      go_quiet (fail)
      go_wp2_with fail
      go_ret2
      exact CutV.no HO.out (bdrewN B0 _)
  · have HO : Hid (o = none) := Lib.hid (by rw [← ho, Sy.cut_cons, if_neg (fun h => hk h.2.1)])
    have t1 : (yk == 0) = false := by simpa using hk
    have t2 : (yk != 0) = true := by simpa using hk
    clear ho hA hK c0 c1 c2 hn hnk
    go_enter Tryz.func37, Tryz.ntmps37
    go_wp2_with fail
    go_quiet (fail)
    go_wp2_with fail
    go_ret2
    exact CutV.no HO.out (bdrewN B0 _)
end Go.Proofs.YtoohijffkbkikaaGreatDoor
