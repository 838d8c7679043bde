/- The law ZoneBack returns true for all lists and numbers. -/
import Derived.Test.YtegnfmpbhindaaaDoorZlx
import Derived.Deep.DeepCutAuto
namespace Go.Proofs.YtegnfmpbhindaaaDoor
open Go.RowKit
set_option linter.unusedVariables false
set_option linter.unusedSimpArgs false

/-- What stands in ZoneBack's loop. -/
structure BK (w : World) (s : ByteArray) (off : Int) (A' : Option Addr) (n' c' : Nat) (rs : List Zn.Rule) (bz bl : Nat) (D S : Int) (Ax : Option Addr) (xs : List Int) (W : World) : Prop where
  z : ZIn W A' n' rs
  zb : ZBlk W bz s off A' n' c'
  lb : BlkAt W bl #[.int .i64 D, .int .i64 S] 52
  ints : IntsAt W Ax xs
  bel : Below w.heap.size w W
theorem BK.after {w : World} {s : ByteArray} {off : Int} {A' : Option Addr} {n' c' : Nat} {rs : List Zn.Rule} {bz bl : Nat} {D S : Int} {Ax : Option Addr} {xs : List Int} {W W' : World} (h : BK w s off A' n' c' rs bz bl D S Ax xs W) (hb : Below W.heap.size W W') : BK w s off A' n' c' rs bz bl D S Ax xs W' :=
  ⟨h.z.below hb, BlkAt.after h.zb hb, BlkAt.after h.lb hb, h.ints.below hb, bstep h.bel hb⟩

theorem BK.cells {w : World} {s : ByteArray} {off : Int} {A' : Option Addr} {n' c' : Nat} {rs : List Zn.Rule} {bz bl : Nat} {D S : Int} {b o : Nat} {xs : List Int} {W : World} (h : BK w s off A' n' c' rs bz bl D S (some ⟨b, o, none⟩) xs W) {q : Nat} {t : Int} (hq : xs[q]? = some t) :
    W.cell? ⟨bz, 0, none⟩ = some (.string s) ∧ W.cell? ⟨bz, 1, none⟩ = some (.int .i64 off) ∧ W.cell? ⟨bz, 2, none⟩ = some (.slice A' n' c') ∧ W.cell? ⟨b, o + q, none⟩ = some (.int .i64 t) := by
  obtain ⟨z0, z1, z2⟩ := ZBlk.cells h.zb
  obtain ⟨b', o', e, hb, hc⟩ := h.ints (by have := (List.getElem?_eq_some_iff.1 hq).1; omega)
  cases e
  have := hc q t hq 0 (by omega)
  exact ⟨z0, z1, z2, by simpa [eInt] using this⟩

set_option maxHeartbeats 8000000 in
set_option maxRecDepth 100000 in
theorem back_law (A : Option Addr) (n c : Nat) (zs : List Int) (k : Int) (w : World) (hT : CivT w) (hA : NumsAt w A zs) (hn : zs.length = n) (hf : ∀ z ∈ zs, -9223372036854775808 ≤ z ∧ z ≤ 9223372036854775807) (k1 : -9223372036854775808 ≤ k) (k2 : k ≤ 9223372036854775807) :
    Calls Tryd.prog 5 #[.slice A n c, .int .i64 k] w fun e w' => e = .returned (.bool true) ∧ Below w.heap.size w w' := by
  have HL := Light_any A n c w
  by_cases h5 : (n : Int) ≤ 500
  · rw [decide_eq_true h5] at HL
    have hD := Dice.start (c := c) hA hn (by omega) hf
    have hR := Roll_any A n c w
    have B1 := (Below.refl w.heap.size w).alloc (Nat.le_refl _) (.cells #[.slice A n c, .int .i64 0] 70)
    have hS := Zone_any _ _ _ _ _ ⟨#[97]⟩ _ hD
    have T1 := hT.below B1
    have hM := fun W => Mod_any k 94608000 W k1 k2 (by omega) (by omega)
    obtain ⟨x, hx⟩ : ∃ x, 1767225600 + k % 94608000 - 31536000 = x := ⟨_, rfl⟩
    have hx1 : 1600000000 ≤ x ∧ x ≤ 1900000000 := by omega
    have y1 : 0 ≤ k % 94608000 ∧ k % 94608000 < 94608000 := by omega
    generalize k % 94608000 = y at hM y1 hx
    obtain ⟨y1, y2⟩ := y1
    have HM := Lib.hid hM
    clear hA hn hf hM
    go_enter Tryd.func5, Tryd.ntmps5
    go_wp2_with fail
    refine HL.mono ?_
    rintro e w1 ⟨rfl, rfl⟩
    go_wp2_with fail
    refine hR.mono ?_
    rintro e w1 ⟨rfl, rfl⟩
    go_wp2_with fail
    refine hS.mono ?_
    rintro e w2 ⟨off, A', n', c', rs, rfl, hG, hrn, hRS, G2, D2⟩
    have B2 := below_of_grown B1 G2 (by simp) (Nat.le_refl _)
    have hci : ∀ i : Nat, i < 12 → 0 ≠ (w.heap.size : Nat) := fun i _ => by have := World.block_lt_of_cell? w _ (hT.2 0 (by omega)); simp only at this; omega
    have T2 : CivT w2 := hT.below B2
    obtain ⟨ts, htr, htb⟩ := hG.ex
    have hz : ZIn w2 A' n' rs := zin_of T2 hRS hrn hG.all (by have := hG.len; omega)
    have hoff : I64 off := ⟨by have := hG.lo; omega, by have := hG.hi; omega⟩
    obtain ⟨D, S, x0, xs, HK⟩ := back_of (Zn.trans_vz htr) hx1.1 hx1.2
    have C1 := fun W h => toLocal_is htr ⟨#[97]⟩ A' n' c' x W h hoff
    rw [HK.loc, HK.offe] at C1
    have i64D : I64 D := ⟨by have := HK.dlo; omega, by have := HK.dhi; omega⟩
    have C2 := fun W h => fromLocal_is htr ⟨#[97]⟩ A' n' c' D S W h hoff i64D
    rw [HK.frm, HK.frme] at C2
    have C3 := fun W h => first_is htr ⟨#[97]⟩ A' n' c' D S W h hoff i64D
    rw [HK.fst, HK.fste] at C3
    have C4 := fun W (h : ZIn W A' n' rs) t (ht : t ∈ xs) => toLocal_is htr ⟨#[97]⟩ A' n' c' t W h hoff
    have C4 : ∀ W (h : ZIn W A' n' rs) t (ht : t ∈ xs), Calls Tryd.prog 26 #[.agg #[.string ⟨#[97]⟩, .int .i64 off, .slice A' n' c'], .int .i64 t] W fun e w' => e = .returned (.tuple #[.agg #[.int .i64 D, .int .i64 S], .int .i64 0]) ∧ Below W.heap.size W w' := fun W h t ht => by
      have := C4 W h t ht
      rw [(HK.all t ht).1, (HK.all t ht).2.1] at this
      exact this
    have H1 := Lib.hid C1
    have H2 := Lib.hid C2
    have H3 := Lib.hid C3
    have H4 := Lib.hid C4
    have HB2 := Lib.hid B2
    clear C1 C2 C3 C4 hS hR HL hD D2 G2 B1 B2 htb hG hRS hrn hci T1 hoff i64D
    go_wp2_with fail
    refine (HM.out _).mono ?_
    rintro e w3 ⟨rfl, rfl⟩
    go_wp2_with fail
    refine (H1.out _ (hz.alloc _)).mono ?_
    rintro e w3 ⟨rfl, b3⟩
    have Z3 := (hz.alloc _).below b3
    have ZB3 : ZBlk w3 w2.heap.size ⟨#[97]⟩ off A' n' c' := BlkAt.after (blk_new rfl) b3
    have HB3 := Lib.hid (bstepA HB2.out b3)
    have hz3 := b3.size
    simp at hz3
    have ZB3a := BlkAt.alloc ZB3 (.cells #[.int .i64 D, .int .i64 S] 52)
    have LB3 : BlkAt (w3.alloc (.cells #[.int .i64 D, .int .i64 S] 52)) w3.heap.size #[.int .i64 D, .int .i64 S] 52 := blk_new rfl
    have HB3a := Lib.hid ((HB3.out).alloc HB3.out.size (.cells #[.int .i64 D, .int .i64 S] 52))
    have Z3a := Z3.alloc (.cells #[.int .i64 D, .int .i64 S] 52)
    obtain ⟨c0, c1, c2⟩ := ZBlk.cells ZB3a
    clear b3 ZB3 HB2 H1 hz Z3
    go_wp2_with fail
    refine (H2.out _ Z3a).mono ?_
    rintro e w4 ⟨Ax, cx, rfl, I4, b4⟩
    have Z4 := Z3a.below b4
    have ZB4 := BlkAt.after ZB3a b4
    have LB4 := BlkAt.after LB3 b4
    have HB4 := Lib.hid (bstep HB3a.out b4)
    clear c0 c1 c2
    obtain ⟨c0, c1, c2⟩ := ZBlk.cells ZB4
    obtain ⟨l0, l1⟩ := (show w4.cell? ⟨w3.heap.size, 0, none⟩ = some (.int .i64 D) ∧ w4.cell? ⟨w3.heap.size, 1, none⟩ = some (.int .i64 S) from ⟨BlkAt.cell LB4 rfl, BlkAt.cell LB4 rfl⟩)
    clear b4 ZB3a LB3 HB3 HB3a Z3a H2
    go_wp2_with fail
    refine (H3.out _ Z4).mono ?_
    rintro e w5 ⟨rfl, b5⟩
    have K5 : BK w ⟨#[97]⟩ off A' n' c' rs w2.heap.size w3.heap.size D S Ax xs w5 := ⟨Z4.below b5, BlkAt.after ZB4 b5, BlkAt.after LB4 b5, I4.below b5, bstep HB4.out b5⟩
    clear c0 c1 c2 l0 l1 Z4 ZB4 LB4 I4 HB4 b5 H3
    have HK5 := Lib.hid K5
    have hl1 := HK.len1
    have hl2 := HK.len2
    have hhd := HK.head
    have HKK := Lib.hid HK
    obtain ⟨b, o, rfl, hb, hc⟩ := K5.ints (by omega)
    have d0 : w5.cell? ⟨b, o, none⟩ = some (.int .i64 x0) := by
      obtain ⟨y0, hy0⟩ := get_ex (xs := xs) (i := 0) (by omega)
      have := hc 0 _ hy0 0 (by omega)
      rw [← hhd, show xs.getD 0 0 = y0 by simp [List.getD, hy0]]
      simpa [eInt] using this
    obtain ⟨L, hL⟩ : ∃ L, xs.length = L := ⟨_, rfl⟩
    rw [hL] at hl1 hl2 ⊢
    have HLL := Lib.hid hL
    have t1 : decide ((L : Int) < 1) = false := by simp; omega
    have t2 : decide ((2 : Int) < L) = false := by simp; omega
    have t3 : decide (L < 1) = false := by simp; omega
    have t4 : decide (2 < L) = false := by simp; omega
    clear hc K5 HK hhd hL
    go_wp2_with fail
    go_loopw [14, 77] (fun f i wr => ∃ (q : Nat) (fb : Bool), i = .int .i64 q ∧ q ≤ L ∧ f = .bool fb ∧ Hid (fb = decide (x ∈ xs.take q)) ∧ Hid (BK w ⟨#[97]⟩ off A' n' c' rs w2.heap.size w3.heap.size D S (some ⟨b, o, none⟩) xs wr)) (fun _ i _ => L - (intOf i).toNat)
    case atStart => exact ⟨0, false, rfl, by omega, rfl, Lib.hid (by simp), HK5⟩
    case round =>
      clear HK5 d0
      obtain ⟨q, fb, rfl, hq, rfl, HF, HB⟩ := hrel
      by_cases hlt : q < L
      · obtain ⟨t, ht⟩ := get_ex (xs := xs) (i := q) (by have := HLL.out; omega)
        have hmem : t ∈ xs := List.mem_of_getElem? ht
        have HT := Lib.hid ht
        have HMM := Lib.hid hmem
        have S0 := HB.out.cells ht
        have S1 := (HB.out.after (Below.refl _ _).drew).cells ht
        have hA2 : Below wr.heap.size wr (wr.alloc (.cells #[.int .i64 0, .int .i64 0] 52)).drew := ((Below.refl _ _).alloc (Nat.le_refl _) _).drew
        have S2 := (HB.out.after hA2).cells ht
        have hq1 : (0 : Int) ≤ q := by omega
        have hq2 : (q : Int) < L := by omega
        clear ht hmem
        as_aux_lemma =>
        go_upto_region 15 with fail
        go_cut [16, 17] (fun p h wx => ∃ bq : Nat, p = .pointer (some ⟨bq, 0, none⟩) ∧ h = .int .i64 0 ∧ Hid (BlkAt wx bq #[.int .i64 D, .int .i64 S] 52) ∧ Hid (BK w ⟨#[97]⟩ off A' n' c' rs w2.heap.size w3.heap.size D S (some ⟨b, o, none⟩) xs wx))
        case first =>
          as_aux_lemma =>
          go_region_held3 (fun W => W.cell? ⟨w2.heap.size, 0, none⟩ = some (.string ⟨#[97]⟩) ∧ W.cell? ⟨w2.heap.size, 1, none⟩ = some (.int .i64 off) ∧ W.cell? ⟨w2.heap.size, 2, none⟩ = some (.slice A' n' c') ∧ W.cell? ⟨b, o + q, none⟩ = some (.int .i64 t))
            (first | exact S0 | exact S1 | assumption | exact S2 | exact hK.cells HT.out | exact (hK.after ((Below.refl _ _).alloc (Nat.le_refl _) _)).cells HT.out | exact (BK.after HB.out ((hbw.setCell (by exact Nat.le_refl _) _).setCell (by exact Nat.le_refl _) _)).cells HT.out)
            (first | (go_at_call 26; refine (H4.out _ (by first | exact HB.out.z | exact (HB.out.after (Below.refl _ _).drew).z | exact (HB.out.after hA2).z) t HMM.out).mono ?_; rintro e w' ⟨rfl, hb⟩; have hbw : Below wr.heap.size wr w' := (by first | exact hb | exact (Below.refl _ _).drew.trans hb | exact hA2.trans (hb.mono hA2.size)); have hK := BK.after HB.out hbw; (try (have hN : BlkAt w' wr.heap.size #[.int .i64 0, .int .i64 0] 52 := BlkAt.after (BlkAt.drewN (blk_new rfl) 1) hb; have n0 := BlkAt.cell (i := 0) hN rfl; have n1 := BlkAt.cell (i := 1) hN rfl; have n2 := BlkAt.free hN 0; have n3 := BlkAt.free hN 1))))
          all_goals
            go_wp2_with fail
            go_meet
            first
            | exact ⟨_, rfl, rfl, Lib.hid (blk_new rfl), Lib.hid (hK.after ((Below.refl _ _).alloc (Nat.le_refl _) _))⟩
            | exact ⟨_, rfl, rfl, Lib.hid (BlkAt.set_ (BlkAt.set_ hN 0 _) 1 _), Lib.hid (BK.after HB.out ((hbw.setCell (by exact Nat.le_refl _) _).setCell (by exact Nat.le_refl _) _))⟩
        case rest =>
          obtain ⟨bq, rfl, rfl, HQ, HB6⟩ := hcut
          obtain ⟨w6, rfl⟩ : ∃ w6 : World, w6 = wc := ⟨_, rfl⟩
          obtain ⟨y0, y1⟩ := (show w6.cell? ⟨bq, 0, none⟩ = some (.int .i64 D) ∧ w6.cell? ⟨bq, 1, none⟩ = some (.int .i64 S) from ⟨BlkAt.cell HQ.out rfl, BlkAt.cell HQ.out rfl⟩)
          obtain ⟨l0, l1⟩ := (show w6.cell? ⟨w3.heap.size, 0, none⟩ = some (.int .i64 D) ∧ w6.cell? ⟨w3.heap.size, 1, none⟩ = some (.int .i64 S) from ⟨BlkAt.cell HB6.out.lb rfl, BlkAt.cell HB6.out.lb rfl⟩)
          obtain ⟨-, -, -, e1⟩ := HB6.out.cells HT.out
          have HFN : ∀ b2 : Bool, b2 = (fb || decide (t = x)) → Hid (b2 = decide (x ∈ xs.take (q + 1))) := fun b2 h => Lib.hid (by
            rw [h, HF.out, take_snoc' HT.out, Bool.eq_iff_iff]
            simp only [Bool.or_eq_true, decide_eq_true_eq, List.mem_append, List.mem_singleton]
            constructor
            · rintro (a | a)
              · exact .inl a
              · exact .inr a.symm
            · rintro (a | a)
              · exact .inl a
              · exact .inr a.symm)
          have HFN := Lib.hid HFN
          have p5 : IntKind.i64.wrap ((q : Int) - 1) = (q : Int) - 1 := by rw [IntKind.wrap_i64]; omega
          clear S0 S1 S2 hA2
          by_cases hq0 : q = 0
          · have g1 : decide ((0 : Int) < q) = false := by simp; omega
            have g2 : decide (0 < q) = false := by simp; omega
            clear hq0
            cases fb
            all_goals
              by_cases htx : t = x
              · have u1 : (t == x) = true := by simp [htx]
                have N1 := HFN.out true (by simp [htx])
                clear HFN
                as_aux_lemma =>
                go_wp2_with fail
                go_quiet (fail)
                go_wp2_with fail
                go_roundw
                case rel => exact ⟨q + 1, true, by go_num, by omega, rfl, N1, Lib.hid (HB6.out.after (below_drewN (Below.refl _ _) _))⟩
                case measure => simp [intOf]; omega
              · have u1 : (t == x) = false := by simp [htx]
                have N1 := HFN.out _ (by rw [decide_eq_false htx])
                simp only [Bool.or_false] at N1
                clear HFN
                as_aux_lemma =>
                go_wp2_with fail
                go_quiet (fail)
                go_wp2_with fail
                go_roundw
                case rel => exact ⟨q + 1, _, by go_num, by omega, rfl, N1, Lib.hid (HB6.out.after (below_drewN (Below.refl _ _) _))⟩
                case measure => simp [intOf]; omega
          · obtain ⟨u, hu⟩ := get_ex (xs := xs) (i := q - 1) (by have := HLL.out; omega)
            have hut : u < t := by
              have h2 : L = 2 := by omega
              have hq1' : q = 1 := by omega
              subst hq1'
              have := HKK.out.asc (by have := HLL.out; omega)
              have ht := HT.out
              simp only [List.getD, ht, show (1 : Nat) - 1 = 0 from rfl] at hu this
              rw [hu] at this
              simpa using this
            obtain ⟨-, -, -, e2⟩ := HB6.out.cells hu
            have g1 : decide ((0 : Int) < q) = true := by simp; omega
            have g2 : decide (0 < q) = true := by simp; omega
            have g3 : decide (t ≤ u) = false := by simp; omega
            have r1 : ((q : Int) - 1).toNat = q - 1 := by omega
            have r2 : (0 : Int) ≤ (q : Int) - 1 := by omega
            have r3 : (q : Int) - 1 < L := by omega
            clear hu
            cases fb
            all_goals
              by_cases htx : t = x
              · have u1 : (t == x) = true := by simp [htx]
                have N1 := HFN.out true (by simp [htx])
                clear HFN
                as_aux_lemma =>
                go_wp2_with fail
                go_quiet (fail)
                go_wp2_with fail
                go_roundw
                case rel => exact ⟨q + 1, true, by go_num, by omega, rfl, N1, Lib.hid (HB6.out.after (below_drewN (Below.refl _ _) _))⟩
                case measure => simp [intOf]; omega
              · have u1 : (t == x) = false := by simp [htx]
                have N1 := HFN.out _ (by rw [decide_eq_false htx])
                simp only [Bool.or_false] at N1
                clear HFN
                as_aux_lemma =>
                go_wp2_with fail
                go_quiet (fail)
                go_wp2_with fail
                go_roundw
                case rel => exact ⟨q + 1, _, by go_num, by omega, rfl, N1, Lib.hid (HB6.out.after (below_drewN (Below.refl _ _) _))⟩
                case measure => simp [intOf]; omega
      · obtain rfl : q = L := by omega
        have hfb : fb = true := by rw [HF.out, List.take_of_length_le (by have := HLL.out; omega)]; exact decide_eq_true HKK.out.mem
        subst hfb
        have HS := Lib.hid (sane_any wr HB.out.z.civ)
        as_aux_lemma =>
        go_wp2_with fail
        refine HS.out.mono ?_
        rintro e w7 ⟨rfl, b7⟩
        go_wp2_with fail
        go_ret
        exact ⟨rfl, bstep HB.out.bel b7⟩
  · rw [decide_eq_false h5] at HL
    have HS := Lib.hid (sane_any w hT)
    clear hA hf
    go_enter Tryd.func5, Tryd.ntmps5
    go_wp2_with fail
    refine HL.mono ?_
    rintro e w1 ⟨rfl, rfl⟩
    go_wp2_with fail
    refine HS.out.mono ?_
    rintro e w7 ⟨rfl, b7⟩
    go_wp2_with fail
    go_ret
    exact ⟨rfl, b7⟩
end Go.Proofs.YtegnfmpbhindaaaDoor
