/- Package zone's occurrences: all occurrences of valid rules, in the stable order. -/
import Derived.Test.YtndngkfiamdohaaDoorZna
namespace Go.Proofs.YtndngkfiamdohaaDoor
open Go.RowKit
set_option linter.unusedVariables false
set_option linter.unusedSimpArgs false

theorem rule_cells {w : World} {b off i : Nat} {r : Zn.Rule} (h : ∀ j, j < 7 → w.cell? ⟨b, off + i * 7 + j, none⟩ = some (eRule r j)) :
    w.cell? ⟨b, off + i * 7, none⟩ = some (.int .i64 r.fr) ∧ w.cell? ⟨b, off + i * 7 + 1, none⟩ = some (.int .i64 r.to) ∧ w.cell? ⟨b, off + i * 7 + 2, none⟩ = some (.int .i64 r.mo) ∧ w.cell? ⟨b, off + i * 7 + 3, none⟩ = some (.int .i64 r.wk) ∧ w.cell? ⟨b, off + i * 7 + 4, none⟩ = some (.int .i64 r.wd) ∧ w.cell? ⟨b, off + i * 7 + 5, none⟩ = some (.int .i64 r.sec) ∧ w.cell? ⟨b, off + i * 7 + 6, none⟩ = some (.int .i64 r.off) :=
  ⟨h 0 (by omega), h 1 (by omega), h 2 (by omega), h 3 (by omega), h 4 (by omega), h 5 (by omega), h 6 (by omega)⟩
/-- A rule lies at block b. -/
def RuleBlk (w : World) (b : Nat) (r : Zn.Rule) : Prop := BlkAt w b #[.int .i64 r.fr, .int .i64 r.to, .int .i64 r.mo, .int .i64 r.wk, .int .i64 r.wd, .int .i64 r.sec, .int .i64 r.off] 74
theorem RuleBlk.cells {w : World} {b : Nat} {r : Zn.Rule} (h : RuleBlk w b r) : w.cell? ⟨b, 0, none⟩ = some (.int .i64 r.fr) ∧ w.cell? ⟨b, 1, none⟩ = some (.int .i64 r.to) ∧ w.cell? ⟨b, 2, none⟩ = some (.int .i64 r.mo) ∧ w.cell? ⟨b, 3, none⟩ = some (.int .i64 r.wk) ∧ w.cell? ⟨b, 4, none⟩ = some (.int .i64 r.wd) ∧ w.cell? ⟨b, 5, none⟩ = some (.int .i64 r.sec) ∧ w.cell? ⟨b, 6, none⟩ = some (.int .i64 r.off) :=
  ⟨BlkAt.cell h rfl, BlkAt.cell h rfl, BlkAt.cell h rfl, BlkAt.cell h rfl, BlkAt.cell h rfl, BlkAt.cell h rfl, BlkAt.cell h rfl⟩
theorem pair_new {W : World} {B : Nat} {x : Int × Int} {T : TypeId} (h : W.heap.size = B) : ∀ j, j < 2 → (W.alloc (.cells #[.int .i64 x.1, .int .i64 x.2] T)).cell? ⟨B, j, none⟩ = some (ePair x j) := fun j hj => by
  subst h
  match j, hj with
  | 0, _ => simp [ePair]
  | 1, _ => simp [ePair]
/-- What the call hands back. -/
def GivesP (xs : Zn.L) (w : World) (e : Ending) (w' : World) : Prop := ∃ A c, e = .returned (.slice A xs.length c) ∧ PairsAt w' A xs ∧ Below w.heap.size w w'
theorem flat_all {rs : List Zn.Rule} (h : rs.all Zn.okR = true) {k : Nat} {r : Zn.Rule} (hr : rs[k]? = some r) : Zn.okR r = true := List.all_eq_true.1 h r (List.mem_of_getElem? hr)
theorem flat_take_le (rs : List Zn.Rule) : ∀ k, (Zn.flat (rs.take k)).length ≤ (Zn.flat rs).length := fun k => by
  conv => rhs; rw [← List.take_append_drop k rs]
  unfold Zn.flat
  rw [List.flatMap_append, List.length_append]; omega
theorem to_row {w : World} {B : Nat} {v : Value} {xs : Zn.L} (h : OwnL 98 2 ePair w B v xs) : (v = .slice none 0 0 ∧ xs = []) ∨ ∃ g cap, v = .slice (some ⟨g, 0, none⟩) xs.length cap ∧ B ≤ g ∧ RowAt w g xs := by
  rcases h.row with h | ⟨g, cap, rfl, hB, hg, hc, hx⟩
  · exact .inl h
  · refine .inr ⟨g, cap, rfl, hB, hg, fun k hk => ?_⟩
    obtain ⟨x, hxk⟩ := get_ex hk
    have e : xs.getD k (0, 0) = x := by simp [List.getD, hxk]
    rw [e]
    have c0 := hx k x hxk 0 (by omega)
    have c1 := hx k x hxk 1 (by omega)
    exact ⟨c0.1, c1.1, c0.2, c1.2⟩
theorem row_pairs {w : World} {g : Nat} {xs : Zn.L} (h : RowAt w g xs) : PairsAt w (some ⟨g, 0, none⟩) xs := fun h0 => by
  refine ⟨g, 0, rfl, h.1, fun i x hx j hj => ?_⟩
  have hi := (List.getElem?_eq_some_iff.1 hx).1
  obtain ⟨a, b, -, -⟩ := h.2 i hi
  have e : xs.getD i (0, 0) = x := by simp [List.getD, hx]
  rw [e] at a b
  rw [Nat.zero_add]
  match j, hj with
  | 0, _ => exact a
  | 1, _ => exact b
theorem own_block {w : World} {B : Nat} {v : Value} {xs : Zn.L} {T : TypeId} (h : OwnL T 2 ePair w B v xs) {b : Nat} (hb : w.heap.size ≤ b) : v.ownBlock ≠ some b := fun e => by
  have := (World.ownsRow.lt h b e).2; omega

set_option maxHeartbeats 8000000 in
set_option maxRecDepth 100000 in
theorem occ_any (A : Option Addr) (n c m : Nat) (rs : List Zn.Rule) (w : World) (hT : CivT w) (hA : RulesAt w A rs) (hn : rs.length = n) (hn16 : n ≤ 16) (hok : rs.all Zn.okR = true) (hm : (Zn.flat rs).length = m) (hm640 : m ≤ 640) :
    Calls Tryd.prog 55 #[.slice A n c, .int .i64 m] w (GivesP (Zs.srt (Zn.flat rs)) w) := by
  have HN := Lib.hid hn
  have HOK := Lib.hid hok
  have HM := Lib.hid hm
  have HT := Lib.hid hT
  clear hn hok hm hT
  go_enter Tryd.func55, Tryd.ntmps55
  go_wp2_with (at_make; refine wp_make_k kOcc w rfl _ _ rfl w.heap.size _ _ _ m rfl rfl rfl (by omega) (Nat.le_refl _) ?_; intro w0 hO0 hB0)
  obtain ⟨v0, hv0⟩ : ∃ v0, Value.slice (some ⟨w.heap.size, 0, none⟩) 0 m = v0 := ⟨_, rfl⟩
  rw [hv0] at hO0
  go_wp2_with fail
  go_loopw [5, 15] (fun v i wr => ∃ k : Nat, k ≤ n ∧ i = .int .i64 k ∧ Hid (v ≠ .slice none 0 0) ∧ Hid (OwnL 98 2 ePair wr w.heap.size v (Zn.flat (rs.take k))) ∧ Hid (Below w.heap.size w wr)) (fun _ i _ => n - (intOf i).toNat)
  case atStart => exact ⟨0, Nat.zero_le _, rfl, Lib.hid (fun h => by cases h), Lib.hid (by rw [hv0]; exact hO0), Lib.hid hB0⟩
  case round =>
    clear hO0 hB0 hv0
    obtain ⟨k, hk, rfl, HNN, HO, HB⟩ := hrel
    by_cases hlt : k < n
    · obtain ⟨r, hr⟩ := get_ex (xs := rs) (i := k) (by have := HN.out; omega)
      obtain ⟨b, off, rfl, hb, hc⟩ := (hA.below HB.out) (by have := HN.out; omega)
      obtain ⟨c0, c1, c2, c3, c4, c5, c6⟩ := rule_cells (hc k r hr)
      have hor := flat_all HOK.out hr
      have hbd := Zn.okR_iff.1 hor
      have htk := take_snoc' hr
      have hfl : Zn.flat (rs.take (k + 1)) = Zn.flat (rs.take k) ++ Zn.occ r r.fr (Zn.yrs r) := by rw [htk, Zn.flat_snoc]; rfl
      have hfle := flat_take_le rs (k + 1)
      rw [hfl, HM.out, List.length_append, Zn.occ_len] at hfle
      obtain ⟨L0, hL0⟩ : ∃ L0, Zn.flat (rs.take k) = L0 := ⟨_, rfl⟩
      rw [hL0] at HO hfl hfle
      have HFL := Lib.hid hfl
      have HOR := Lib.hid hor
      have hy : (Zn.yrs r : Int) = r.to - r.fr + 1 := by unfold Zn.yrs; omega
      have HY := Lib.hid hy
      obtain ⟨wo, rfl⟩ : ∃ wo : World, wo = wr := ⟨_, rfl⟩
      have hblk := own_block HO.out (Nat.le_refl _)
      have RB : RuleBlk (wo.alloc (.cells #[.int .i64 r.fr, .int .i64 r.to, .int .i64 r.mo, .int .i64 r.wk, .int .i64 r.wd, .int .i64 r.sec, .int .i64 r.off] 74)) wo.heap.size r := BlkAt.new _ _ _
      have O1 := (HO.out.alloc (.cells #[.int .i64 r.fr, .int .i64 r.to, .int .i64 r.mo, .int .i64 r.wk, .int .i64 r.wd, .int .i64 r.sec, .int .i64 r.off] 74))
      have B1 := (HB.out.alloc HB.out.size (.cells #[.int .i64 r.fr, .int .i64 r.to, .int .i64 r.mo, .int .i64 r.wk, .int .i64 r.wd, .int .i64 r.sec, .int .i64 r.off] 74))
      have HNE := Lib.hid hblk
      have hrz := HB.out.size
      obtain ⟨fr, hfr⟩ : ∃ x, r.fr = x := ⟨_, rfl⟩
      obtain ⟨tt, htt⟩ : ∃ x, r.to = x := ⟨_, rfl⟩
      rw [hfr] at c0 hbd
      rw [htt] at c1 hbd
      have hbf : 1970 ≤ fr ∧ fr ≤ 2240 ∧ fr ≤ tt ∧ tt ≤ 2240 := by omega
      obtain ⟨f1, f2, f3, f4⟩ := hbf
      rw [hfr, htt] at O1 B1 RB
      have O1 := Lib.hid O1
      have B1 := Lib.hid B1
      have HRB := Lib.hid RB
      have HFT : Hid (r.fr = fr ∧ r.to = tt) := Lib.hid ⟨hfr, htt⟩
      clear hc hr hor htk hL0 hfl hy RB hblk hbd hfr htt HO
      as_aux_lemma =>
      go_wp2_with fail
      go_loopw [5, 8] (fun v y wx => ∃ j : Nat, y = .int .i64 (fr + j) ∧ (j : Int) ≤ tt - fr + 1 ∧ Hid (v ≠ .slice none 0 0) ∧ Hid (OwnL 98 2 ePair wx w.heap.size v (L0 ++ Zn.occ r r.fr j)) ∧ Hid (Below w.heap.size w wx) ∧ Hid (RuleBlk wx wo.heap.size r) ∧ Hid (v.ownBlock ≠ some wo.heap.size)) (fun _ y _ => (tt + 1 - intOf y).toNat)
      case atStart => exact ⟨0, by simp, by omega, HNN, Lib.hid (by rw [show Zn.occ r r.fr 0 = [] from rfl, List.append_nil]; exact O1.out), B1, HRB, HNE⟩
      case round =>
        clear O1 B1 HRB HNE HNN
        obtain ⟨j, rfl, hj, HNN, HO, HB2, HRB, HNE⟩ := hrel
        obtain ⟨d0, d1, d2, d3, d4, d5, d6⟩ := RuleBlk.cells HRB.out
        rw [HFT.out.2] at d1
        by_cases hle : fr + j ≤ tt
        · have hbd := Zn.okR_iff.1 HOR.out
          rw [HFT.out.1, HFT.out.2] at hbd
          have hnb := Zn.nth_bd (y := fr + j) HOR.out (by have := HFT.out; omega) (by have := HFT.out; omega)
          have hT1 := HT.out.below HB2.out
          have C := nth_yes (fr + j) r.mo r.wk r.wd wr hT1 (Zn.vld_first (by omega) (by omega) (by omega) (by omega)) (by omega) (by omega) (by omega) (by omega)
          change Calls _ _ _ _ (fun e w' => e = .returned (.tuple #[.int .i64 (Zn.nth r (fr + j)), .int .i64 0]) ∧ Below wr.heap.size wr w') at C
          have hsn := Zn.occ_snoc r j r.fr
          rw [HFT.out.1] at hsn
          obtain ⟨D, hD⟩ : ∃ D, Zn.nth r (fr + j) = D := ⟨_, rfl⟩
          rw [hD] at C hnb hsn
          have HC := Lib.hid C
          have HSN := Lib.hid hsn
          obtain ⟨sec, hsec⟩ : ∃ x, r.sec = x := ⟨_, rfl⟩
          rw [hsec] at d5 hbd
          have s1 : 0 ≤ sec ∧ sec < 86400 := by omega
          obtain ⟨s1, s2⟩ := s1
          obtain ⟨n1, n2⟩ := hnb
          have HSE := Lib.hid hsec
          have hlen : (L0 ++ Zn.occ r r.fr j).length ≤ 900000 := by rw [List.length_append, Zn.occ_len]; have := HY.out; have := HFT.out; omega
          have hj0 : (0 : Int) ≤ j := by omega
          clear hsn C hT1 hbd hD hsec
          as_aux_lemma =>
          go_wp2_with fail
          refine HC.out.mono ?_
          rintro e w1 ⟨rfl, hb1⟩
          have B3 := Lib.hid ((HB2.out).trans (hb1.mono HB2.out.size))
          have O3 := Lib.hid (HO.out.below hb1)
          have R3 := HRB.out.after hb1
          obtain ⟨e0, e1, e2, e3, e4, e5, e6⟩ := RuleBlk.cells R3
          rw [HSE.out] at e5
          have HR3 := Lib.hid R3
          clear R3 HC hb1 d0 d1 d2 d3 d4 d5 d6 HRB HB2 HO
          have hwz := B3.out.size
          have hlt1 := BlkAt.lt_ HR3.out
          go_wp2_with (at_builtin; refine wp_append_one kOcc _ rfl _ _ rfl w.heap.size _ (L0 ++ Zn.occ r r.fr j) rfl (O3.out.alloc _) w1.heap.size (D * 86400 + sec, r.off) rfl (pair_new (x := (D * 86400 + sec, r.off)) rfl) hlen (by simp; omega) ?_; intro gg cap w2 hO4 hB4 hg4 hgo _)
          have B5 : Below w.heap.size w w2 := (B3.out.alloc hwz _).trans hB4
          have R5 : RuleBlk w2 wo.heap.size r := (BlkAt.alloc HR3.out _).grown hg4 (fun e => HNE.out e.symm)
          have N5 : (Value.slice (some ⟨gg, 0, none⟩) ((L0 ++ Zn.occ r r.fr j).length + 1) cap).ownBlock ≠ some wo.heap.size := fun e => by
            simp only [Value.ownBlock, Option.some.injEq] at e
            rcases hgo with h | h
            · exact HNE.out (h.trans (congrArg some e))
            · simp at h; omega
          have O5 := Lib.hid hO4
          have B5 := Lib.hid B5
          have R5 := Lib.hid R5
          have N5 := Lib.hid N5
          clear hO4 hB4 hg4 hgo
          go_wp2_with fail
          go_roundw
          case rel => exact ⟨j + 1, by go_num, by omega, Lib.hid (fun h => by cases h), Lib.hid (by have := O5.out; rw [List.length_append, List.append_assoc] at this; rw [HFT.out.1, HSN.out, HSE.out, ← HFT.out.1]; exact this), B5, R5, N5⟩
          case measure => simp [intOf]; omega
        · have hjy : j = Zn.yrs r := by have := HY.out; have := HFT.out; omega
          have HO2 := HO.out
          rw [hjy, ← HFL.out] at HO2
          have HO2 := Lib.hid HO2
          clear hjy HO
          as_aux_lemma =>
          go_wp2_with fail
          go_roundw
          case rel => exact ⟨k + 1, by omega, by go_num, HNN, HO2, HB2⟩
          case measure => simp [intOf]; omega
    · have hk2 : rs.take k = rs := List.take_of_length_le (by have := HN.out; omega)
      rw [hk2] at HO
      rcases to_row HO.out with ⟨hv, h0⟩ | ⟨g, cap, rfl, hBg, hRow⟩
      · exact absurd hv HNN.out
      · have C := sort_any g cap m (Zn.flat rs) wr hRow HM.out (by omega)
        have HC := Lib.hid C
        have hsl := Zs.srt_len (Zn.flat rs)
        rw [HM.out] at hsl ⊢
        have HSL := Lib.hid hsl
        clear C hsl HO hRow hk2
        as_aux_lemma =>
        go_wp2_with fail
        refine HC.out.mono ?_
        rintro e w1 ⟨rfl, hs⟩
        have hP := row_pairs hs.1
        have hB2 := HB.out.trans (hs.2 w.heap.size hBg)
        have HP := Lib.hid hP
        have HB2 := Lib.hid hB2
        clear hs hP hB2
        go_wp2_with fail
        go_ret
        exact ⟨_, _, by rw [HSL.out]; rfl, HP.out, HB2.out⟩
end Go.Proofs.YtndngkfiamdohaaDoor
