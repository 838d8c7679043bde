/- The reference's small functions, and its occurrences. The reference's occurrences: all occurrences of valid rules, in the stable order. -/
import Derived.Test.YthaacmmkignocaaDoorKG29
import Derived.Test.YthaacmmkignocaaDoorKZcr
import Derived.Test.YthaacmmkignocaaDoorKGlc
import Derived.Deep.RegionHeld3
import Derived.Deep.RegionLaw
import Derived.Deep.CutBlock
namespace Go.Proofs.YthaacmmkignocaaDoor
open Go.RowKit
set_option linter.unusedVariables false
set_option maxRecDepth 100000
set_option linter.unusedSimpArgs false
def inB (n lo hi : Int) : Bool := decide (lo ≤ n ∧ n ≤ hi)
theorem inB_yes {n lo hi : Int} (h : lo ≤ n) (h2 : n ≤ hi) : inB n lo hi = true := by unfold inB; simp [h, h2]
theorem inB_no {n lo hi : Int} (h : n < lo ∨ hi < n) : inB n lo hi = false := by unfold inB; simp; omega
theorem in_any (n lo hi : Int) (w : World) : Calls Tryd.prog 41 #[.int .i64 n, .int .i64 lo, .int .i64 hi] w fun e w' => e = .returned (.bool (inB n lo hi)) ∧ w = w' := by
  by_cases h1 : lo ≤ n
  · by_cases h2 : n ≤ hi
    · have h := Lib.hid (inB_yes h1 h2)
      go_enter Tryd.func41, Tryd.ntmps41
      go_wp2_with fail
      go_ret
      exact ⟨ret_bool h.out.symm, rfl⟩
    · have h := Lib.hid (inB_no (n := n) (lo := lo) (hi := hi) (by omega))
      go_enter Tryd.func41, Tryd.ntmps41
      go_wp2_with fail
      go_ret
      exact ⟨ret_bool h.out.symm, rfl⟩
  · have h := Lib.hid (inB_no (n := n) (lo := lo) (hi := hi) (by omega))
    go_enter Tryd.func41, Tryd.ntmps41
    go_wp2_with fail
    go_ret
    exact ⟨ret_bool h.out.symm, rfl⟩
theorem in_is {n lo hi : Int} {b : Bool} (h : inB n lo hi = b) (w : World) : Calls Tryd.prog 41 #[.int .i64 n, .int .i64 lo, .int .i64 hi] w fun e w' => e = .returned (.bool b) ∧ w = w' := h ▸ in_any n lo hi w
set_option maxHeartbeats 4000000 in
theorem right_any (r : Zn.Rule) (w : World) : Calls Tryd.prog 56 #[valR r] w fun e w' => e = .returned (.bool (Zn.okR r)) ∧ Below w.heap.size w w' := by
  obtain ⟨fr, t, mo, wk, wd, sec, off⟩ := r
  unfold valR
  simp only
  have hsp : Zn.okR ⟨fr, t, mo, wk, wd, sec, off⟩ = (inB fr 1970 2240 && inB t fr 2240 && inB mo 1 12 && inB wk 1 5 && inB wd 0 6 && inB sec 0 86399 && inB off (-64800) 64800) := by
    rw [Bool.eq_iff_iff, Zn.okR_iff]; unfold inB; simp; omega
  rw [hsp]
  have b1 := fun W => in_any fr 1970 2240 W
  have b2 := fun W => in_any t fr 2240 W
  have b3 := fun W => in_any mo 1 12 W
  have b4 := fun W => in_any wk 1 5 W
  have b5 := fun W => in_any wd 0 6 W
  have b6 := fun W => in_any sec 0 86399 W
  have b7 := fun W => in_any off (-64800) 64800 W
  generalize inB fr 1970 2240 = p1 at b1 hsp ⊢
  generalize inB t fr 2240 = p2 at b2 hsp ⊢
  generalize inB mo 1 12 = p3 at b3 hsp ⊢
  generalize inB wk 1 5 = p4 at b4 hsp ⊢
  generalize inB wd 0 6 = p5 at b5 hsp ⊢
  generalize inB sec 0 86399 = p6 at b6 hsp ⊢
  generalize inB off (-64800) 64800 = p7 at b7 hsp ⊢
  clear hsp
  have H1 := Lib.hid b1
  have H2 := Lib.hid b2
  have H3 := Lib.hid b3
  have H4 := Lib.hid b4
  have H5 := Lib.hid b5
  have H6 := Lib.hid b6
  have H7 := Lib.hid b7
  clear b1 b2 b3 b4 b5 b6 b7
  cases p1
  · as_aux_lemma =>
    go_enter Tryd.func56, Tryd.ntmps56
    go_wp2_with fail
    refine (H1.out _).mono ?_
    rintro e w' ⟨rfl, rfl⟩
    go_wp2_with fail
    go_ret
    exact ⟨rfl, (Below.refl _ _).alloc (Nat.le_refl _) _⟩
  cases p2
  · as_aux_lemma =>
    go_enter Tryd.func56, Tryd.ntmps56
    go_wp2_with fail
    refine (H1.out _).mono ?_
    rintro e w' ⟨rfl, rfl⟩
    go_wp2_with fail
    refine (H2.out _).mono ?_
    rintro e w' ⟨rfl, rfl⟩
    go_wp2_with fail
    go_ret
    exact ⟨rfl, (Below.refl _ _).alloc (Nat.le_refl _) _⟩
  cases p3
  · as_aux_lemma =>
    go_enter Tryd.func56, Tryd.ntmps56
    go_wp2_with fail
    refine (H1.out _).mono ?_
    rintro e w' ⟨rfl, rfl⟩
    go_wp2_with fail
    refine (H2.out _).mono ?_
    rintro e w' ⟨rfl, rfl⟩
    go_wp2_with fail
    refine (H3.out _).mono ?_
    rintro e w' ⟨rfl, rfl⟩
    go_wp2_with fail
    go_ret
    exact ⟨rfl, (Below.refl _ _).alloc (Nat.le_refl _) _⟩
  cases p4
  · as_aux_lemma =>
    go_enter Tryd.func56, Tryd.ntmps56
    go_wp2_with fail
    refine (H1.out _).mono ?_
    rintro e w' ⟨rfl, rfl⟩
    go_wp2_with fail
    refine (H2.out _).mono ?_
    rintro e w' ⟨rfl, rfl⟩
    go_wp2_with fail
    refine (H3.out _).mono ?_
    rintro e w' ⟨rfl, rfl⟩
    go_wp2_with fail
    refine (H4.out _).mono ?_
    rintro e w' ⟨rfl, rfl⟩
    go_wp2_with fail
    go_ret
    exact ⟨rfl, (Below.refl _ _).alloc (Nat.le_refl _) _⟩
  cases p5
  · as_aux_lemma =>
    go_enter Tryd.func56, Tryd.ntmps56
    go_wp2_with fail
    refine (H1.out _).mono ?_
    rintro e w' ⟨rfl, rfl⟩
    go_wp2_with fail
    refine (H2.out _).mono ?_
    rintro e w' ⟨rfl, rfl⟩
    go_wp2_with fail
    refine (H3.out _).mono ?_
    rintro e w' ⟨rfl, rfl⟩
    go_wp2_with fail
    refine (H4.out _).mono ?_
    rintro e w' ⟨rfl, rfl⟩
    go_wp2_with fail
    refine (H5.out _).mono ?_
    rintro e w' ⟨rfl, rfl⟩
    go_wp2_with fail
    go_ret
    exact ⟨rfl, (Below.refl _ _).alloc (Nat.le_refl _) _⟩
  cases p6
  · as_aux_lemma =>
    go_enter Tryd.func56, Tryd.ntmps56
    go_wp2_with fail
    refine (H1.out _).mono ?_
    rintro e w' ⟨rfl, rfl⟩
    go_wp2_with fail
    refine (H2.out _).mono ?_
    rintro e w' ⟨rfl, rfl⟩
    go_wp2_with fail
    refine (H3.out _).mono ?_
    rintro e w' ⟨rfl, rfl⟩
    go_wp2_with fail
    refine (H4.out _).mono ?_
    rintro e w' ⟨rfl, rfl⟩
    go_wp2_with fail
    refine (H5.out _).mono ?_
    rintro e w' ⟨rfl, rfl⟩
    go_wp2_with fail
    refine (H6.out _).mono ?_
    rintro e w' ⟨rfl, rfl⟩
    go_wp2_with fail
    go_ret
    exact ⟨rfl, (Below.refl _ _).alloc (Nat.le_refl _) _⟩
  go_enter Tryd.func56, Tryd.ntmps56
  go_wp2_with fail
  refine (H1.out _).mono ?_
  rintro e w' ⟨rfl, rfl⟩
  go_wp2_with fail
  refine (H2.out _).mono ?_
  rintro e w' ⟨rfl, rfl⟩
  go_wp2_with fail
  refine (H3.out _).mono ?_
  rintro e w' ⟨rfl, rfl⟩
  go_wp2_with fail
  refine (H4.out _).mono ?_
  rintro e w' ⟨rfl, rfl⟩
  go_wp2_with fail
  refine (H5.out _).mono ?_
  rintro e w' ⟨rfl, rfl⟩
  go_wp2_with fail
  refine (H6.out _).mono ?_
  rintro e w' ⟨rfl, rfl⟩
  go_wp2_with fail
  refine (H7.out _).mono ?_
  rintro e w' ⟨rfl, rfl⟩
  go_wp2_with fail
  go_ret
  exact ⟨rfl, (Below.refl _ _).alloc (Nat.le_refl _) _⟩
theorem encK_set {xs : Zn.L} {i : Nat} {x : Int × Int} (hi : i < xs.length) : encK 2 ePair (xs.set i x) = ((encK 2 ePair xs).set (i * 2) (.int .i64 x.1)).set (i * 2 + 1) (.int .i64 x.2) := by
  have e : xs = xs.take i ++ xs.getD i (0, 0) :: xs.drop (i + 1) := by
    conv => lhs; rw [← List.take_append_drop i xs, Zs.drop_cons xs i hi]
  obtain ⟨y, hy⟩ : ∃ y, xs.getD i (0, 0) = y := ⟨_, rfl⟩
  rw [hy] at e
  have lt : (xs.take i).length = i := by rw [List.length_take]; omega
  have le : (encK 2 ePair (xs.take i)).length = i * 2 := by rw [encK_len, lt]
  have c2 : ∀ z : Int × Int, (List.range 2).map (ePair z) = [.int .i64 z.1, .int .i64 z.2] := fun z => rfl
  conv => lhs; rw [e]
  conv => rhs; rw [e]
  rw [List.set_append_right _ _ (by omega), show i - (xs.take i).length = 0 by omega, List.set_cons_zero, encK_app, encK_app, encK_cons, encK_cons, c2, c2,
    List.set_append_right _ _ (by omega), show i * 2 - (encK 2 ePair (xs.take i)).length = 0 by omega, List.set_append_right _ _ (by omega), show i * 2 + 1 - (encK 2 ePair (xs.take i)).length = 1 by omega]
  rfl
theorem OwnL.setPair {T : TypeId} {w : World} {B g n cap : Nat} {xs : Zn.L} (h : OwnL T 2 ePair w B (.slice (some ⟨g, 0, none⟩) n cap) xs) {i : Nat} (hi : i < xs.length) (x : Int × Int) :
    OwnL T 2 ePair ((w.setCell ⟨g, i * 2, none⟩ (.int .i64 x.1)).setCell ⟨g, i * 2 + 1, none⟩ (.int .i64 x.2)) B (.slice (some ⟨g, 0, none⟩) n cap) (xs.set i x) := by
  rcases h.2 with ⟨hv, -⟩ | ⟨g', cap', cur, hv, hB, hg, hc1, hc2, hc3, hc4⟩
  · cases hv
  cases hv
  unfold OwnL
  have hl := encK_len (k := 2) (e := ePair) (xs.set i x)
  rw [List.length_set] at hl ⊢
  refine ⟨hl, .inr ⟨g, cap, (cur.setIfInBounds (i * 2) (.int .i64 x.1)).setIfInBounds (i * 2 + 1) (.int .i64 x.2), rfl, hB, ?_, hc1, hc2, by simpa using hc3, ?_⟩⟩
  · have b1 : BlkAt w g cur T := hg
    exact BlkAt.set_ (BlkAt.set_ b1 (i * 2) _) (i * 2 + 1) _
  · rw [encK_set hi, ← hc4]
    simp only [Array.toList_setIfInBounds, List.take_set]
end Go.Proofs.YthaacmmkignocaaDoor
namespace Go.Proofs.YthaacmmkignocaaDoor
open Go.RowKit
set_option linter.unusedVariables false
set_option maxRecDepth 100000
set_option linter.unusedSimpArgs false
theorem kOccR : KindOk 103 105 2 ePair := ⟨Tryd.underlying103, by obtain ⟨i, a, b, c, d⟩ := info_parts (show (Tryd.prog.info? 105).map (fun i => (i.zero, i.size, i.bytes)) = some (some (.agg #[.int .i64 0, .int .i64 0]), 2, 16) by kernel_rfl); exact ⟨i, _, _, a, b, c, d, rfl, by omega⟩, by omega, fun _ _ => rfl⟩
/-- What the drawn call of Nth keeps. -/
theorem keepN {W0 W W' : World} {b i j l : Nat} {a0 a1 a2 : Value} (h : W.cell? ⟨b, i, none⟩ = some a0 ∧ W.cell? ⟨b, j, none⟩ = some a1 ∧ W.cell? ⟨b, l, none⟩ = some a2 ∧ Below W0.heap.size W0 W) (hb : Below W.heap.size W W') :
    W'.cell? ⟨b, i, none⟩ = some a0 ∧ W'.cell? ⟨b, j, none⟩ = some a1 ∧ W'.cell? ⟨b, l, none⟩ = some a2 ∧ Below W0.heap.size W0 W' := by
  obtain ⟨h0, h1, h2, h3⟩ := h
  exact ⟨cell_keep h0 hb, cell_keep h1 hb, cell_keep h2 hb, bstep h3 hb⟩
theorem flat_occ_len {rs : List Zn.Rule} (r : Zn.Rule) (k j : Nat) (hr : rs[k]? = some r) (hj : j ≤ Zn.yrs r) : (Zn.flat (rs.take k) ++ Zn.occ r r.fr j).length ≤ (Zn.flat rs).length := by
  have := flat_take_le rs (k + 1)
  rw [take_snoc' hr, Zn.flat_snoc] at this
  unfold Zn.occR at this
  rw [List.length_append, Zn.occ_len] at this ⊢
  omega
set_option maxHeartbeats 4000000 in
set_option maxRecDepth 100000 in
theorem rocc_any (A : Option Addr) (n c : Nat) (rs : List Zn.Rule) (w : World) (hA : RulesAt w A rs) (hn : rs.length = n) (hn16 : n ≤ 16) (hok : rs.all Zn.okR = true) (hm640 : (Zn.flat rs).length ≤ 640) :
    Calls Tryd.prog 57 #[.slice A n c] w (GivesP (Zs.srt (Zn.flat rs)) w) := by
  have HN := Lib.hid hn
  have HOK := Lib.hid hok
  have HM := Lib.hid hm640
  clear hn hok hm640
  go_enter Tryd.func57, Tryd.ntmps57
  go_wp2_with fail
  go_loopw [3, 4] (fun v i wr => ∃ k : Nat, k ≤ n ∧ i = .int .i64 k ∧ Hid (OwnL 105 2 ePair wr w.heap.size v (Zs.srt (Zn.flat (rs.take k)))) ∧ Hid (Below w.heap.size w wr)) (fun _ i _ => n - (intOf i).toNat)
  case atStart => exact ⟨0, Nat.zero_le _, rfl, Lib.hid (OwnL.nil_ _ _), Lib.hid (Below.refl _ _)⟩
  case round =>
    obtain ⟨k, hk, rfl, HO, HB⟩ := hrel
    by_cases hlt : k < n
    · obtain ⟨r, hr⟩ := get_ex (xs := rs) (i := k) (by have := HN.out; omega)
      obtain ⟨b, off, rfl, hb, hc⟩ := hA (by have := HN.out; omega)
      obtain ⟨c0, c1, c2, c3, c4, c5, c6⟩ := rule_cells (hc k r hr)
      have hor := flat_all HOK.out hr
      have hbd := Zn.okR_iff.1 hor
      have hfl : Zn.flat (rs.take (k + 1)) = Zn.flat (rs.take k) ++ Zn.occ r r.fr (Zn.yrs r) := by rw [take_snoc' hr, Zn.flat_snoc]; rfl
      have hlen := fun j => flat_occ_len r k j hr
      obtain ⟨L0, hL0⟩ : ∃ L0, Zn.flat (rs.take k) = L0 := ⟨_, rfl⟩
      rw [hL0] at HO hfl hlen
      have HFL := Lib.hid hfl
      have HLEN := Lib.hid hlen
      have HOR := Lib.hid hor
      have hy : (Zn.yrs r : Int) = r.to - r.fr + 1 := by unfold Zn.yrs; omega
      have HY := Lib.hid hy
      obtain ⟨fr, hfr⟩ : ∃ x, r.fr = x := ⟨_, rfl⟩
      obtain ⟨tt, htt⟩ : ∃ x, r.to = x := ⟨_, rfl⟩
      have e0 := (HB.out.cell (p := ⟨b, off + k * 7, none⟩) hb).trans c0
      have e1 := (HB.out.cell (p := ⟨b, off + k * 7 + 1, none⟩) hb).trans c1
      rw [hfr] at e0 c0 hbd
      rw [htt] at e1 c1 hbd
      have hbf : 1970 ≤ fr ∧ fr ≤ 2240 ∧ fr ≤ tt ∧ tt ≤ 2240 := by omega
      obtain ⟨f1, f2, f3, f4⟩ := hbf
      have HFT : Hid (r.fr = fr ∧ r.to = tt) := Lib.hid ⟨hfr, htt⟩
      obtain ⟨wo, rfl⟩ : ∃ wo : World, wo = wr := ⟨_, rfl⟩
      clear hc hr hor hL0 hfl hy hbd hfr htt hlen
      go_wp2_with fail
      go_loopw [3, 5] (fun v y wx => ∃ j : Nat, y = .int .i64 (fr + j) ∧ (j : Int) ≤ tt - fr + 1 ∧ Hid (OwnL 105 2 ePair wx w.heap.size v (Zs.srt (L0 ++ Zn.occ r r.fr j))) ∧ Hid (Below w.heap.size w wx)) (fun _ y _ => (tt + 1 - intOf y).toNat)
      case atStart => exact ⟨0, by simp, by omega, Lib.hid (by rw [show Zn.occ r r.fr 0 = [] from rfl, List.append_nil]; exact HO.out), HB⟩
      case round =>
        clear HO HB e0 e1
        obtain ⟨j, rfl, hj, HO, HB⟩ := hrel
        have e1 := (HB.out.cell (p := ⟨b, off + k * 7 + 1, none⟩) hb).trans c1
        by_cases hle : fr + j ≤ tt
        · have e2 := (HB.out.cell (p := ⟨b, off + k * 7 + 2, none⟩) hb).trans c2
          have e3 := (HB.out.cell (p := ⟨b, off + k * 7 + 3, none⟩) hb).trans c3
          have e4 := (HB.out.cell (p := ⟨b, off + k * 7 + 4, none⟩) hb).trans c4
          have hbd := Zn.okR_iff.1 HOR.out
          rw [HFT.out.1, HFT.out.2] at hbd
          have hnb := Zn.nth_bd (y := fr + j) HOR.out (by have := HFT.out; omega) (by have := HFT.out; omega)
          have C := fun W => rnth_yes (fr + j) r.mo r.wk r.wd W (Zn.vld_first (by omega) (by omega) (by omega) (by omega)) (by omega) (by omega) (by omega) (by omega)
          change ∀ W, Calls _ _ _ W (fun e w' => e = .returned (.tuple #[.int .i64 (Zn.nth r (fr + j)), .int .i64 0]) ∧ Below W.heap.size W w') at C
          have hsn := Zn.occ_snoc r j r.fr
          rw [HFT.out.1] at hsn
          obtain ⟨D, hD⟩ : ∃ D, Zn.nth r (fr + j) = D := ⟨_, rfl⟩
          rw [hD] at C hnb hsn
          have HC := Lib.hid C
          have HSN := Lib.hid hsn
          obtain ⟨sec, hsec⟩ : ∃ x, r.sec = x := ⟨_, rfl⟩
          obtain ⟨of, hof⟩ : ∃ x, r.off = x := ⟨_, rfl⟩
          have hs5 := c5
          have hs6 := c6
          rw [hsec] at hbd hs5
          rw [hof] at hbd hs6
          have s12 : 0 ≤ sec ∧ sec < 86400 := by omega
          obtain ⟨s1, s2⟩ := s12
          obtain ⟨n1, n2⟩ := hnb
          have HSE : Hid (r.sec = sec ∧ r.off = of) := Lib.hid ⟨hsec, hof⟩
          have hlen : (Zs.srt (L0 ++ Zn.occ r r.fr j)).length ≤ 640 := by rw [Zs.srt_len]; have := HLEN.out j (by have := HY.out; have := HFT.out; omega); have := HM.out; omega
          have hj0 : (0 : Int) ≤ j := by omega
          have S0 := keepN (W0 := wr) (W := wr) ⟨e2, e3, e4, Below.refl _ _⟩ (Below.refl _ _).drew
          have S1 := keepN (W0 := wr) (W := wr) ⟨e2, e3, e4, Below.refl _ _⟩ (Below.refl _ _)
          have hkn : (k : Int) < n := by omega
          have hk0 : (0 : Int) ≤ k := by omega
          clear hsn C hbd hD hsec hof
          go_upto_region 8 with fail
          go_cut [6, 7] (fun d e wx => d = .int .i64 D ∧ e = .int .i64 0 ∧ Hid (Below wr.heap.size wr wx))
          case first =>
            go_region_held3 (fun W => W.cell? ⟨b, off + k * 7 + 2, none⟩ = some (.int .i64 r.mo) ∧ W.cell? ⟨b, off + k * 7 + 3, none⟩ = some (.int .i64 r.wk) ∧ W.cell? ⟨b, off + k * 7 + 4, none⟩ = some (.int .i64 r.wd) ∧ Below wr.heap.size wr W)
              (first | (exact S0) | (exact keepN S1 (Below.refl _ _).drew) | assumption | (exact keepN (by assumption) hb))
              (first | (go_at_call 64; refine (HC.out _).mono ?_; rintro e w' ⟨rfl, hb⟩))
            all_goals
              go_wp2_with fail
              go_meet
              exact ⟨rfl, rfl, Lib.hid (by assumption : _ ∧ _ ∧ _ ∧ Below wr.heap.size wr _).2.2.2⟩
          case rest =>
            obtain ⟨rfl, rfl, HB3⟩ := hcut
            obtain ⟨w1, rfl⟩ : ∃ w1 : World, w1 = wc := ⟨_, rfl⟩
            have O1 := Lib.hid (HO.out.below HB3.out)
            have B1 := Lib.hid (HB.out.trans (HB3.out.mono HB.out.size))
            have g5 := (B1.out.cell (p := ⟨b, off + k * 7 + 5, none⟩) hb).trans hs5
            have g6 := (B1.out.cell (p := ⟨b, off + k * 7 + 6, none⟩) hb).trans hs6
            have sm : IntKind.i64.wrap (D * 86400) = D * 86400 := by rw [IntKind.wrap_i64]; omega
            have sa : IntKind.i64.wrap (D * 86400 + sec) = D * 86400 + sec := by rw [IntKind.wrap_i64]; omega
            have HNB := Lib.hid (own_block O1.out (Nat.le_refl _))
            clear S0 S1 HO HB HB3 HC e1 e2 e3 e4
            go_upto_region 9 with fail
            go_cut [8] (fun p wx => p = .pointer (some ⟨w1.heap.size, 0, none⟩) ∧ Hid (PairBlk wx w1.heap.size (D * 86400 + sec, of) 105 ∧ Below w1.heap.size w1 wx))
            case first =>
              go_region_held3 (fun W => W.cell? ⟨b, off + k * 7 + 5, none⟩ = some (.int .i64 sec) ∧ W.cell? ⟨b, off + k * 7 + 6, none⟩ = some (.int .i64 of))
                (first | (exact ⟨g5, g6⟩) | go_keep)
                (fail)
              all_goals
                go_wp2_with fail
                go_meet
                exact ⟨rfl, Lib.hid ⟨BlkAt.new _ _ _, ((Below.refl _ _).alloc (Nat.le_refl _) _).drew⟩⟩
            case rest =>
              obtain ⟨rfl, HPB⟩ := hcut
              obtain ⟨w2, rfl⟩ : ∃ w2 : World, w2 = wc := ⟨_, rfl⟩
              have O2 := Lib.hid (O1.out.below HPB.out.2)
              have B2 := Lib.hid (B1.out.trans (HPB.out.2.mono B1.out.size))
              obtain ⟨out, hout⟩ : ∃ out, Zs.srt (L0 ++ Zn.occ r r.fr j) = out := ⟨_, rfl⟩
              rw [hout] at O2 hlen
              have hasc : Zs.Asc out := by rw [← hout]; exact Zs.srt_asc _
              have hnext : ∀ l, l = Zs.insr (D * 86400 + sec, of) out → l = Zs.srt (L0 ++ Zn.occ r r.fr (j + 1)) := fun l hl => by
                rw [hl, ← hout, HFT.out.1, HSN.out, HSE.out.1, HSE.out.2, ← List.append_assoc, Zs.srt_snoc]
              have HNX := Lib.hid hnext
              have HAS := Lib.hid hasc
              obtain ⟨A2, cc, rfl, hcc, hcn, hLA⟩ := O2.out.shape
              obtain ⟨loc, hloc⟩ : ∃ loc, D * 86400 + sec = loc := ⟨_, rfl⟩
              obtain ⟨no, hno⟩ : ∃ no, out.length = no := ⟨_, rfl⟩
              rw [hloc] at HPB HNX
              rw [hno] at hlen hcc
              have HLA := Lib.hid hLA
              have HNO := Lib.hid hno
              have hbx := (BlkAt.lt_ HPB.out.1)
              clear hout hasc hnext hLA hloc hno hcn O1 B1 g5 g6 sm sa
              obtain ⟨x0, x1⟩ := PairBlk.cells HPB.out.1
              simp only at x0 x1
              rw [HNO.out]
              go_upto_block 4 with fail
              go_cut [9] (fun vk wx => ∃ p q : Nat, vk = .int .i64 p ∧ p ≤ no ∧ wx = w2.drewN q ∧ Hid ((∀ z ∈ out.take p, z.1 ≤ loc) ∧ ∀ z ∈ out.drop p, loc < z.1))
              case first =>
                go_wp2_with fail
                go_loopw [9] (fun vk wx => ∃ p q : Nat, vk = .int .i64 p ∧ p ≤ no ∧ wx = w2.drewN q ∧ Hid (∀ z ∈ out.drop p, loc < z.1)) (fun k _ => (intOf k).toNat)
                case atStart => exact ⟨no, 0, rfl, Nat.le_refl _, rfl, Lib.hid (by rw [List.drop_of_length_le (by have := HNO.out; omega)]; intro z hz; cases hz)⟩
                case round =>
                  obtain ⟨p, q, rfl, hp, rfl, HG⟩ := hrel
                  by_cases hp0 : 0 < p
                  · obtain ⟨⟨y1, y2⟩, hy⟩ := get_ex (xs := out) (i := p - 1) (by have := HNO.out; omega)
                    obtain ⟨b2, of2, rfl, hb2, hc2⟩ := HLA.out (by have := HNO.out; omega)
                    obtain ⟨d0, d1⟩ := pair_cells (hc2 _ _ hy)
                    simp only at d0 d1
                    have p1 : ((p : Int) - 1).toNat = p - 1 := by omega
                    have p2 : (0 : Int) ≤ (p : Int) - 1 := by omega
                    have p3 : (1 : Int) ≤ p := by omega
                    have p4 : (p : Int) - 1 < no := by omega
                    have p5 : IntKind.i64.wrap ((p : Int) - 1) = (p : Int) - 1 := by rw [IntKind.wrap_i64]; omega
                    have p6 : decide (0 < p) = true := by simpa using hp0
                    have p7 : decide ((0 : Int) < (p : Int)) = true := by simp; omega
                    have hgd : out.getD (p - 1) (0, 0) = (y1, y2) := by simp [List.getD, hy]
                    have HGD := Lib.hid hgd
                    have HFN : ¬ loc < y1 → Hid ((∀ z ∈ out.take p, z.1 ≤ loc) ∧ ∀ z ∈ out.drop p, loc < z.1) := fun h => Lib.hid ⟨Zs.all_take (by have := HNO.out; omega) fun i hi => by
                      have := Zs.asc_get HAS.out (i := i) (j := p - 1) (by omega) (by have := HNO.out; omega)
                      rw [HGD.out] at this; simp only at this; omega, HG.out⟩
                    have HFY : loc < y1 → Hid (∀ z ∈ out.drop (p - 1), loc < z.1) := fun h => Lib.hid fun z hz => by
                      rw [Zs.drop_cons out (p - 1) (by have := HNO.out; omega), HGD.out, show p - 1 + 1 = p by omega] at hz
                      rcases List.mem_cons.1 hz with rfl | hz
                      · exact h
                      · exact HG.out z hz
                    have HFN := Lib.hid HFN
                    have HFY := Lib.hid HFY
                    clear hc2 hy hgd
                    by_cases hgt : loc < y1
                    · have t1 : decide (loc < y1) = true := decide_eq_true hgt
                      have N := HFY.out hgt
                      clear HFN HFY
                      go_wp2_with fail
                      go_quiet (fail)
                      go_wp2_with fail
                      go_roundw
                      case rel => exact ⟨p - 1, _, by go_num, by omega, rfl, N⟩
                      case measure => simp [intOf]; omega
                    · have t1 : decide (loc < y1) = false := decide_eq_false hgt
                      have N := HFN.out hgt
                      clear HFN HFY
                      go_wp2_with fail
                      go_quiet (fail)
                      go_wp2_with fail
                      go_meet
                      exact ⟨p, _, rfl, hp, World.drewN_drewN _ _ _, N⟩
                  · obtain rfl : p = 0 := by omega
                    have N : Hid ((∀ z ∈ out.take 0, z.1 ≤ loc) ∧ ∀ z ∈ out.drop 0, loc < z.1) := Lib.hid ⟨fun z hz => by simp at hz, HG.out⟩
                    go_wp2_with fail
                    go_quiet (fail)
                    go_wp2_with fail
                    go_meet
                    exact ⟨0, _, rfl, hp, World.drewN_drewN _ _ _, N⟩
              case rest =>
                obtain ⟨p, q, rfl, hp, rfl, HFN⟩ := hcut
                have O3 := O2.out
                rw [HNO.out] at O3 HNB
                have O3 := Lib.hid O3
                have hol : out.length ≤ 900000 := by have := HNO.out; omega
                have hB2z := B2.out.size
                clear O2
                go_wp2_with (at_builtin; go_loud (refine wp_append_one kOccR _ rfl _ _ rfl w.heap.size _ out rfl ((O3.out.alloc _).drewN _) w2.heap.size (loc, of) rfl (pair_new (x := (loc, of)) rfl) hol (by simp; omega) ?_; intro gg cap w3 hO4 hB4 hg4 hgo hgz; have P4 : PairBlk w3 w1.heap.size (loc, of) 105 := ((BlkAt.alloc HPB.out.1 _).drewN q).grown hg4 (fun e => HNB.out e.symm)))
                rw [HNO.out] at hO4 ⊢
                have B4 := Lib.hid ((below_drewN (B2.out.alloc hB2z _) q).trans hB4)
                have hne : w1.heap.size ≠ gg := fun e => by
                  rcases hgo with h | h
                  · exact HNB.out (h.trans (congrArg some e.symm))
                  · simp at h; omega
                have hcap : no + 1 ≤ cap := by
                  obtain ⟨_, _, he, h1, _⟩ := hO4.shape
                  simp only [Value.slice.injEq] at he
                  obtain ⟨_, h3, h4⟩ := he
                  rw [List.length_append, List.length_singleton, HNO.out] at h1
                  omega
                have O4 := Lib.hid hO4
                have HP4 := Lib.hid P4
                clear hO4 hB4 hg4 hgo P4 O3 HPB x0 x1
                have q1 : (p : Int) + 1 ≤ (no : Int) + 1 := by omega
                have q2 : (p : Int) ≤ (no : Int) + 1 := by omega
                have q3 : (0 : Int) ≤ (p : Int) + 1 := by omega
                have q4 : ((p : Int) + 1).toNat = p + 1 := by omega
                have q5 : IntKind.i64.wrap ((p : Int) + 1) = (p : Int) + 1 := by rw [IntKind.wrap_i64]; omega
                have q6 : ¬ cap = p := by omega
                have q7 : p + 1 ≤ no + 1 := by omega
                have q8 : p ≤ no + 1 := by omega
                have hmin : Nat.min (no + 1 - p) (no - p) = no - p := Nat.min_eq_right (by omega)
                have HMIN := Lib.hid hmin
                have hle1 : p + 1 + (no - p) ≤ (out ++ [(loc, of)]).length := by rw [List.length_append, List.length_singleton, HNO.out]; omega
                have hle2 : p + (no - p) ≤ (out ++ [(loc, of)]).length := by rw [List.length_append, List.length_singleton, HNO.out]; omega
                have HLE := Lib.hid (And.intro hle1 hle2)
                have hins := Zs.ins_copy (loc, of) out p (by have := HNO.out; omega) HFN.out.1 HFN.out.2
                rw [HNO.out] at hins
                have HINS := Lib.hid hins
                have hpl : p < ((out ++ [(loc, of)]).take (p + 1) ++ (((out ++ [(loc, of)]).drop p).take (no - p) ++ (out ++ [(loc, of)]).drop (p + 1 + (no - p)))).length := by
                  have e := congrArg List.length HINS.out
                  rw [List.length_set, Zs.insr_len, HNO.out] at e
                  omega
                have HPL := Lib.hid hpl
                obtain ⟨zs, hzs⟩ : ∃ zs, (out ++ [(loc, of)]).take (p + 1) ++ (((out ++ [(loc, of)]).drop p).take (no - p) ++ (out ++ [(loc, of)]).drop (p + 1 + (no - p))) = zs := ⟨_, rfl⟩
                rw [hzs] at HPL HINS
                have HZS := Lib.hid hzs
                clear hmin hle1 hle2 hins hpl hzs
                have O5 : OwnL 105 2 ePair w3.drew w.heap.size (.slice (some ⟨gg, 0, none⟩) (no + 1) cap) (out ++ [(loc, of)]) := O4.out
                have HO5 := Lib.hid O5
                clear O5 O4
                have HNE := Lib.hid hne
                go_upto_region 14 with fail
                go_cut [] (fun wx => Hid (OwnL 105 2 ePair wx w.heap.size (.slice (some ⟨gg, 0, none⟩) (no + 1) cap) zs ∧ PairBlk wx w1.heap.size (loc, of) 105 ∧ Below w.heap.size w wx))
                case first =>
                 have HFIN : ∀ w4 : World, OwnL 105 2 ePair w4 w.heap.size (.slice (some ⟨gg, 0, none⟩) (no + 1) cap) zs → w3.drew.grownBy w4 (some gg) → Hid (OwnL 105 2 ePair w4 w.heap.size (.slice (some ⟨gg, 0, none⟩) (no + 1) cap) zs ∧ PairBlk w4 w1.heap.size (loc, of) 105 ∧ Below w.heap.size w w4) := fun w4 h1 h2 => by
                   have hgB : w.heap.size ≤ gg := by
                     rcases HO5.out.row with ⟨h, -⟩ | ⟨g, cp, h, hb, -⟩
                     · cases h
                     · have e : gg = g := congrArg Addr.block (Option.some.inj (Value.slice.inj h).1)
                       omega
                   exact Lib.hid ⟨h1, (BlkAt.drewN HP4.out 1).grown h2 (fun e => HNE.out (Option.some.inj e)), B4.out.drew.grown h2 B4.out.drew.size (fun q hq => by cases hq; exact hgB)⟩
                 have HFIN := Lib.hid HFIN
                 by_cases hc1 : cap = p + 1
                 · subst hc1
                   have hnp : no ≤ p := by omega
                   go_region_law ((refine step_copy_own kOccR _ (by rfl) (.tmp 88) (.tmp 91) (by rfl) w.heap.size gg (no + 1) (p + 1) (out ++ [(loc, of)]) (by exact HO5.out) (some ⟨gg, 0, none⟩) (some ⟨gg, p * 2, none⟩) (no - p) 0 (no + 1 - p) 1 (by simp [Act.eval, Act.put]; omega) (by simp [Act.eval, Act.put]) (no - p) (p + 1) p (by exact HMIN.out) (by exact fun h => absurd h (by omega)) (by exact HLE.out.1) (by exact HLE.out.2) ?_; intro w4 hO5 hg5))
                   rw [HZS.out] at hO5
                   have F := HFIN.out w4 hO5 hg5
                   go_wp2_with fail
                   go_meet
                   exact F
                 · go_region_law ((refine step_copy_own kOccR _ (by rfl) (.tmp 88) (.tmp 91) (by rfl) w.heap.size gg (no + 1) cap (out ++ [(loc, of)]) (by exact HO5.out) (some ⟨gg, (p + 1) * 2, none⟩) (some ⟨gg, p * 2, none⟩) (no - p) (cap - (p + 1)) (no + 1 - p) (cap - p) (by simp [Act.eval, Act.put]) (by simp [Act.eval, Act.put]) (no - p) (p + 1) p (by exact HMIN.out) (by exact fun _ => ⟨rfl, rfl⟩) (by exact HLE.out.1) (by exact HLE.out.2) ?_; intro w4 hO5 hg5))
                   rw [HZS.out] at hO5
                   have F := HFIN.out w4 hO5 hg5
                   go_wp2_with fail
                   go_meet
                   exact F
                case rest =>
                  obtain ⟨w5, rfl⟩ : ∃ w5 : World, w5 = wc := ⟨_, rfl⟩
                  obtain ⟨O6, P6, B6⟩ := hcut.out
                  obtain ⟨⟨z1, z2⟩, hz⟩ := get_ex (xs := zs) (i := p) HPL.out
                  have hrow : ∃ g, gg = g ∧ w.heap.size ≤ g ∧ g < w5.heap.size ∧ ∀ j, j < 2 → w5.cell? ⟨g, p * 2 + j, none⟩ = some (ePair (z1, z2) j) ∧ w5.frozen? ⟨g, p * 2 + j, none⟩ = false := by
                    rcases O6.row with ⟨h, -⟩ | ⟨g, cp, h, h1, h2, h3, h4⟩
                    · cases h
                    · have e : gg = g := congrArg Addr.block (Option.some.inj (Value.slice.inj h).1)
                      exact ⟨g, e, h1, h2, fun j hj => h4 p _ hz j hj⟩
                  obtain ⟨_, rfl, hgB, hgS, hrc⟩ := hrow
                  have a0 : w5.cell? ⟨gg, p * 2, none⟩ = some (.int .i64 z1) := (hrc 0 (by omega)).1
                  have a1 : w5.cell? ⟨gg, p * 2 + 1, none⟩ = some (.int .i64 z2) := (hrc 1 (by omega)).1
                  have a2 : w5.frozen? ⟨gg, p * 2, none⟩ = false := (hrc 0 (by omega)).2
                  have a3 : w5.frozen? ⟨gg, p * 2 + 1, none⟩ = false := (hrc 1 (by omega)).2
                  obtain ⟨y0, y1⟩ := PairBlk.cells P6
                  simp only at y0 y1
                  have O7 := O6.setPair HPL.out (loc, of)
                  rw [HINS.out] at O7
                  rw [HNX.out _ rfl] at O7
                  have O7 := Lib.hid O7
                  have B7 := Lib.hid ((B6.setCell (p := ⟨gg, p * 2, none⟩) hgB (.int .i64 loc)).setCell (p := ⟨gg, p * 2 + 1, none⟩) hgB (.int .i64 of))
                  have r1 : (0 : Int) ≤ p := by omega
                  have r2 : (p : Int) < (no : Int) + 1 := by omega
                  have r3 : p < no + 1 := by omega
                  have r4 : (p : Int).toNat = p := by omega
                  have r5 : IntKind.i64.wrap (fr + (j : Int) + 1) = fr + (j : Int) + 1 := by rw [IntKind.wrap_i64]; omega
                  clear O6 P6 B6 hz hrc
                  go_wp2_with fail
                  go_roundw
                  case rel => exact ⟨j + 1, by go_num, by omega, O7, B7⟩
                  case measure => simp [intOf]; omega
        · have hjy : j = Zn.yrs r := by have := HY.out; have := HFT.out; omega
          have HO2 := HO.out
          rw [hjy, ← HFL.out] at HO2
          have HO2 := Lib.hid HO2
          clear hjy HO
          go_wp2_with fail
          go_roundw
          case rel => exact ⟨k + 1, by omega, by go_num, HO2, HB⟩
          case measure => simp [intOf]; omega
    · have hk2 : rs.take k = rs := List.take_of_length_le (by have := HN.out; omega)
      rw [hk2] at HO
      obtain ⟨A4, c4, rfl, -, -, hS⟩ := HO.out.shape
      have HS := Lib.hid hS
      clear hS HO hk2
      go_wp2_with fail
      go_ret
      exact ⟨A4, c4, rfl, HS.out, HB.out⟩
end Go.Proofs.YthaacmmkignocaaDoor
