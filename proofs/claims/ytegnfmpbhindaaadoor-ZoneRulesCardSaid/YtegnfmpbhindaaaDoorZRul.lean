/- The law ZoneRules returns true for all lists and numbers. -/
import Derived.Test.YtegnfmpbhindaaaDoorZlx
import Derived.Test.YtegnfmpbhindaaaDoorZcr
import Derived.Deep.DeepCutAuto
namespace Go.Proofs.YtegnfmpbhindaaaDoor
open Go.RowKit
set_option linter.unusedVariables false
set_option linter.unusedSimpArgs false

/-- The zone's value at its block, and its transitions. -/
structure ZT (w : World) (s : ByteArray) (off : Int) (A' : Option Addr) (n' c' : Nat) (rs : List Zn.Rule) (bz : Nat) (At : Option Addr) (ts : Zn.L) (W : World) : Prop where
  k : ZK w s off A' n' c' rs bz W
  ts : PairsAt W At ts
theorem ZT.after {w : World} {s : ByteArray} {off : Int} {A' : Option Addr} {n' c' : Nat} {rs : List Zn.Rule} {bz : Nat} {At : Option Addr} {ts : Zn.L} {W W' : World} (h : ZT w s off A' n' c' rs bz At ts W) (hb : Below W.heap.size W W') : ZT w s off A' n' c' rs bz At ts W' :=
  ⟨h.k.after hb, h.ts.below hb⟩
theorem ZT.cells {w : World} {s : ByteArray} {off : Int} {A' : Option Addr} {n' c' : Nat} {rs : List Zn.Rule} {bz : Nat} {b o : Nat} {ts : Zn.L} {W : World} (h : ZT w s off A' n' c' rs bz (some ⟨b, o, none⟩) ts W) {i : Nat} (hi : i < ts.length) :
    W.cell? ⟨b, o + i * 2, none⟩ = some (.int .i64 (ts.getD i (0, 0)).1) ∧ W.cell? ⟨b, o + i * 2 + 1, none⟩ = some (.int .i64 (ts.getD i (0, 0)).2) := by
  obtain ⟨b', o', e, hb, hc⟩ := h.ts (by omega)
  cases e
  obtain ⟨x, hx⟩ := get_ex hi
  have := pair_cells (hc i x hx)
  rw [show ts.getD i (0, 0) = x by simp [List.getD, hx]]
  exact this
/-- What region 11 of ZoneRules reads. -/
theorem ZT.reads1 {w : World} {s : ByteArray} {off : Int} {A' : Option Addr} {n' c' : Nat} {rs : List Zn.Rule} {bz : Nat} {b o : Nat} {ts : Zn.L} {W : World} (h : ZT w s off A' n' c' rs bz (some ⟨b, o, none⟩) ts W) {q : Nat} {aa : Int} (hq : q < ts.length) (e1 : (ts.getD q (0, 0)).1 = aa) :
    W.cell? ⟨bz, 0, none⟩ = some (.string s) ∧ W.cell? ⟨bz, 1, none⟩ = some (.int .i64 off) ∧ W.cell? ⟨bz, 2, none⟩ = some (.slice A' n' c') ∧ W.cell? ⟨b, o + q * 2, none⟩ = some (.int .i64 aa) := by
  obtain ⟨z0, z1, z2⟩ := ZBlk.cells h.k.zb
  exact ⟨z0, z1, z2, by rw [← e1]; exact (h.cells hq).1⟩
/-- Whether one of the first j years of a rule gives this transition. -/
def hitY (r : Zn.Rule) (v o : Int) (j : Nat) : Prop := ∃ i : Nat, i < j ∧ Zn.nth r (r.fr + i) * 86400 + r.sec = v ∧ r.off = o
/-- Whether one of the rules does. -/
def hitR (rs : List Zn.Rule) (v o : Int) : Prop := ∃ r ∈ rs, hitY r v o (Zn.yrs r)
theorem hitY_zero {r : Zn.Rule} {v o : Int} : ¬ hitY r v o 0 := fun ⟨i, h, _⟩ => by omega
theorem hitY_succ {r : Zn.Rule} {v o : Int} {j : Nat} : hitY r v o (j + 1) ↔ hitY r v o j ∨ (Zn.nth r (r.fr + j) * 86400 + r.sec = v ∧ r.off = o) := by
  constructor
  · rintro ⟨i, h1, h2, h3⟩
    rcases Nat.lt_or_ge i j with h | h
    · exact .inl ⟨i, h, h2, h3⟩
    · obtain rfl : i = j := by omega
      exact .inr ⟨h2, h3⟩
  · rintro (⟨i, h1, h2, h3⟩ | ⟨h2, h3⟩)
    · exact ⟨i, by omega, h2, h3⟩
    · exact ⟨j, by omega, h2, h3⟩
theorem hitR_snoc {rs : List Zn.Rule} {r : Zn.Rule} {v o : Int} : hitR (rs ++ [r]) v o ↔ hitR rs v o ∨ hitY r v o (Zn.yrs r) := by
  unfold hitR
  constructor
  · rintro ⟨x, hx, h⟩
    rcases List.mem_append.1 hx with hx | hx
    · exact .inl ⟨x, hx, h⟩
    · simp only [List.mem_singleton] at hx; subst hx; exact .inr h
  · rintro (⟨x, hx, h⟩ | h)
    · exact ⟨x, by simp [hx], h⟩
    · exact ⟨r, by simp, h⟩
theorem hitR_nil {v o : Int} : ¬ hitR [] v o := fun ⟨_, h, _⟩ => by cases h
theorem hit_of {off : Int} {rs : List Zn.Rule} {ts : Zn.L} (h : Zn.trans off rs = (ts, 0)) {q : Nat} (hq : q < ts.length) : hitR rs ((ts.getD q (0, 0)).1 + Zn.offAt off ts ((ts.getD q (0, 0)).1 - 1)) (ts.getD q (0, 0)).2 := by
  obtain ⟨x, hx⟩ := get_ex hq
  obtain ⟨a, o⟩ := x
  obtain ⟨k, r, y, h1, h2, h3, h4, h5⟩ := Zn.trans_from h hx
  rw [show ts.getD q (0, 0) = (a, o) by simp [List.getD, hx]]
  refine ⟨r, List.mem_of_getElem? h1, (y - r.fr).toNat, ?_, ?_, h5⟩
  · unfold Zn.yrs; omega
  · rw [show r.fr + ((y - r.fr).toNat : Int) = y by omega]; exact h4

/-- The third loop's state: the zone, its transitions, the rule's copy. -/
structure ZR (w : World) (s : ByteArray) (off : Int) (A' : Option Addr) (n' c' : Nat) (rs : List Zn.Rule) (bz : Nat) (At : Option Addr) (ts : Zn.L) (br : Nat) (r : Zn.Rule) (W : World) : Prop where
  t : ZT w s off A' n' c' rs bz At ts W
  r : RuleBlk W br r
theorem ZR.after {w : World} {s : ByteArray} {off : Int} {A' : Option Addr} {n' c' : Nat} {rs : List Zn.Rule} {bz : Nat} {At : Option Addr} {ts : Zn.L} {br : Nat} {r : Zn.Rule} {W W' : World} (h : ZR w s off A' n' c' rs bz At ts br r W) (hb : Below W.heap.size W W') : ZR w s off A' n' c' rs bz At ts br r W' :=
  ⟨h.t.after hb, BlkAt.after h.r hb⟩

set_option maxHeartbeats 8000000 in
set_option maxRecDepth 100000 in
theorem rules_law (A : Option Addr) (n c : Nat) (zs : List Int) (k : Int) (w : World) (hT : CivT w) (hA : NumsAt w A zs) (hn : zs.length = n) (hf : ∀ z ∈ zs, -9223372036854775808 ≤ z ∧ z ≤ 9223372036854775807) (k1 : -9223372036854775808 ≤ k) (k2 : k ≤ 9223372036854775807) :
    Calls Tryd.prog 8 #[.slice A n c, .int .i64 k] w fun e w' => e = .returned (.bool true) ∧ Below w.heap.size w w' := by
  have HL := Light_any A n c w
  by_cases h5 : (n : Int) ≤ 500
  · rw [decide_eq_true h5] at HL
    have hD := Dice.start (c := c) hA hn (by omega) hf
    have hR := Roll_any A n c w
    have B1 := (Below.refl w.heap.size w).alloc (Nat.le_refl _) (.cells #[.slice A n c, .int .i64 0] 70)
    have hS := Zone_any _ _ _ _ _ ⟨#[97]⟩ _ hD
    have T1 := hT.below B1
    clear hA hn hf
    go_enter Tryd.func8, Tryd.ntmps8
    go_wp2_with fail
    refine HL.mono ?_
    rintro e w1 ⟨rfl, rfl⟩
    go_wp2_with fail
    refine hR.mono ?_
    rintro e w1 ⟨rfl, rfl⟩
    go_wp2_with fail
    refine hS.mono ?_
    rintro e w2 ⟨off, A', n', c', rs, rfl, hG, hrn, hRS, G2, D2⟩
    have B2 := below_of_grown B1 G2 (by simp) (Nat.le_refl _)
    have T2 : CivT w2 := hT.below B2
    obtain ⟨ts, htr, htb⟩ := hG.ex
    have hz : ZIn w2 A' n' rs := zin_of T2 hRS hrn hG.all (by have := hG.len; omega)
    have hoff : I64 off := ⟨by have := hG.lo; omega, by have := hG.hi; omega⟩
    have hvz := Lib.hid (Zn.trans_vz htr)
    have HTR := Lib.hid htr
    have hl640 : ts.length ≤ 640 := (Zn.trans_ok htr).2.2.2.2.2.2.1
    have C0 := fun W h => trans_is htr ⟨#[97]⟩ A' n' c' W h hoff
    have C2 := fun W h x => offAt_is htr ⟨#[97]⟩ A' n' c' x W h hoff
    have H0 := Lib.hid C0
    have H2 := Lib.hid C2
    have HTB := Lib.hid htb
    have HRN := Lib.hid hrn
    have HOK := Lib.hid hG.all
    have hn2 : n' ≤ 2 := by have := hG.len; omega
    have K2 : ZK w ⟨#[97]⟩ off A' n' c' rs w2.heap.size (w2.alloc (.cells #[.string ⟨#[97]⟩, .int .i64 off, .slice A' n' c'] 27)) := ⟨hz.alloc _, blk_new rfl, B2.alloc B2.size _⟩
    clear C0 C2 hS hR HL hD D2 G2 B1 B2 htb hG hRS hrn T1 hoff hz T2 htr
    go_wp2_with fail
    refine (H0.out _ K2.z).mono ?_
    rintro e w3 ⟨At, ct, rfl, PT, b3⟩
    have HK3 : Hid (ZT w ⟨#[97]⟩ off A' n' c' rs w2.heap.size At ts w3) := Lib.hid ⟨K2.after b3, PT⟩
    obtain ⟨L, hL⟩ : ∃ L, ts.length = L := ⟨_, rfl⟩
    have HLL := Lib.hid hL
    rw [hL] at hl640 ⊢
    clear b3 K2 PT H0 hL
    go_wp2_with fail
    go_loopw [36] (fun i wr => ∃ q : Nat, i = .int .i64 q ∧ q ≤ L ∧ Hid (ZT w ⟨#[97]⟩ off A' n' c' rs w2.heap.size At ts wr)) (fun i _ => L - (intOf i).toNat)
    case atStart => exact ⟨0, rfl, by omega, HK3⟩
    case round =>
      clear HK3
      obtain ⟨q, rfl, hq, HB⟩ := hrel
      by_cases hlt : q < L
      · obtain ⟨b, o, rfl, -, -⟩ := HB.out.ts (by have := HLL.out; omega)
        have hqL : q < ts.length := by have := HLL.out; omega
        obtain ⟨a_, hlp⟩ := leap_of (k := q) hvz.out hqL HTB.out
        have hit := hit_of HTR.out hqL
        obtain ⟨at_, hat⟩ : ∃ x, (ts.getD q (0, 0)).1 = x := ⟨_, rfl⟩
        obtain ⟨b_, hbt⟩ : ∃ x, (ts.getD q (0, 0)).2 = x := ⟨_, rfl⟩
        rw [hat, hbt] at hlp hit
        have hoa := hlp.offa
        have g1 := hlp.lo
        have g2 := hlp.hi
        rw [offV_ok (by omega) (by omega)] at hoa
        rw [hoa] at hit
        have HAT := Lib.hid hat
        have HBT := Lib.hid hbt
        have HLP := Lib.hid hlp
        obtain ⟨g31, g32⟩ := hlp.abd
        have C2a := fun W h => H2.out W h (at_ - 1)
        rw [hlp.offa, hlp.ea] at C2a
        have HCA := Lib.hid C2a
        have p1 : (0 : Int) ≤ q := by omega
        have p2 : (q : Int) < L := by omega
        have r1 : IntKind.i64.wrap (at_ - 1) = at_ - 1 := by rw [IntKind.wrap_i64]; omega
        have S0 := HB.out.reads1 hqL HAT.out
        have S1 := (HB.out.after (Below.refl _ _).drew).reads1 hqL HAT.out
        have HIT := Lib.hid hit
        obtain ⟨wo, rfl⟩ : ∃ wo : World, wo = wr := ⟨_, rfl⟩
        clear hat hbt hlp hoa C2a hit
        as_aux_lemma =>
        go_upto_region 11 with fail
        go_cut [10, 11] (fun x y wx => x = .int .i64 a_ ∧ y = .int .i64 0 ∧ Hid (ZT w ⟨#[97]⟩ off A' n' c' rs w2.heap.size (some ⟨b, o, none⟩) ts wx))
        case first =>
          as_aux_lemma =>
          go_region_held3 (fun W => W.cell? ⟨w2.heap.size, 0, none⟩ = some (.string ⟨#[97]⟩) ∧ W.cell? ⟨w2.heap.size, 1, none⟩ = some (.int .i64 off) ∧ W.cell? ⟨w2.heap.size, 2, none⟩ = some (.slice A' n' c') ∧ W.cell? ⟨b, o + q * 2, none⟩ = some (.int .i64 at_))
            (first | exact S0 | exact S1 | assumption | exact hK.reads1 hqL HAT.out)
            (first | (go_at_call 24; refine (HCA.out _ (by first | exact HB.out.k.z | exact (HB.out.after (Below.refl _ _).drew).k.z)).mono ?_; rintro e w' ⟨rfl, hb⟩; have hK : ZT w ⟨#[97]⟩ off A' n' c' rs w2.heap.size (some ⟨b, o, none⟩) ts w' := ZT.after (by first | exact HB.out | exact HB.out.after (Below.refl _ _).drew) hb))
          all_goals
            go_wp2_with fail
            go_meet
            exact ⟨rfl, rfl, Lib.hid hK⟩
        case rest =>
          obtain ⟨rfl, rfl, HK6⟩ := hcut
          obtain ⟨w6, rfl⟩ : ∃ w6 : World, w6 = wc := ⟨_, rfl⟩
          clear S0 S1 r1 HB
          obtain ⟨c0, c1, c2⟩ := ZBlk.cells HK6.out.k.zb
          have a0 := (HK6.out.cells hqL).1
          rw [HAT.out] at a0
          obtain ⟨v, hv⟩ : ∃ v, at_ + a_ = v := ⟨_, rfl⟩
          rw [hv] at HIT
          have v1 : 1500000000 ≤ v := by omega
          have v2 : v ≤ 2000000000 := by omega
          go_wp2_with fail
          go_loopw [13, 62] (fun f i wx => ∃ (p : Nat) (fb : Bool), i = .int .i64 p ∧ p ≤ n' ∧ f = .bool fb ∧ Hid (fb = true ↔ hitR (rs.take p) v b_) ∧ Hid (ZT w ⟨#[97]⟩ off A' n' c' rs w2.heap.size (some ⟨b, o, none⟩) ts wx)) (fun _ i _ => n' - (intOf i).toNat)
          case atStart => exact ⟨0, false, rfl, by omega, rfl, Lib.hid (by simp [hitR_nil]), HK6⟩
          case round =>
            clear c0 c1 c2 a0 HK6
            obtain ⟨p, fb, rfl, hp, rfl, HF, HB2⟩ := hrel
            by_cases hpl : p < n'
            · obtain ⟨r, hr⟩ := get_ex (xs := rs) (i := p) (by have := HRN.out; omega)
              obtain ⟨b2, o2, rfl, hb2, hc2⟩ := HB2.out.k.z.at_ (by have := HRN.out; omega)
              obtain ⟨e0, e1, e2, e3, e4, e5, e6⟩ := rule_cells (hc2 p r hr)
              have hor := flat_all HOK.out hr
              have hbd := Zn.okR_iff.1 hor
              have hy : (Zn.yrs r : Int) = r.to - r.fr + 1 := by unfold Zn.yrs; omega
              have hsn : ∀ x : Bool, (x = true ↔ hitR (rs.take p) v b_ ∨ hitY r v b_ (Zn.yrs r)) → Hid (x = true ↔ hitR (rs.take (p + 1)) v b_) := fun x h => Lib.hid (by rw [take_snoc' hr, hitR_snoc]; exact h)
              have HSN := Lib.hid hsn
              have HY := Lib.hid hy
              have HOR := Lib.hid hor
              obtain ⟨fr, tt, mo, wk, wd, sec, of⟩ := r
              simp only at e0 e1 e2 e3 e4 e5 e6 hbd
              obtain ⟨wp, rfl⟩ : ∃ wp : World, wp = wr := ⟨_, rfl⟩
              have h3 : ZR w ⟨#[97]⟩ off (some ⟨b2, o2, none⟩) n' c' rs w2.heap.size (some ⟨b, o, none⟩) ts wp.heap.size ⟨fr, tt, mo, wk, wd, sec, of⟩ (wp.alloc (.cells #[.int .i64 fr, .int .i64 tt, .int .i64 mo, .int .i64 wk, .int .i64 wd, .int .i64 sec, .int .i64 of] 23)) := ⟨HB2.out.after ((Below.refl _ _).alloc (Nat.le_refl _) _), blk_new rfl⟩
              have H3 := Lib.hid h3
              have q1 : (0 : Int) ≤ p := by omega
              have q2 : (p : Int) < n' := by omega
              have hbf : 1970 ≤ fr ∧ fr ≤ 2240 ∧ fr ≤ tt ∧ tt ≤ 2240 := by omega
              obtain ⟨f1, f2, f3, f4⟩ := hbf
              have HBD := Lib.hid hbd
              clear hc2 hr hor hy hsn h3 hbd
              as_aux_lemma =>
              go_wp2_with fail
              go_loopw [13, 16] (fun f y wy => ∃ (j : Nat) (fc : Bool), y = .int .i64 (fr + j) ∧ (j : Int) ≤ tt - fr + 1 ∧ f = .bool fc ∧ Hid (fc = true ↔ hitR (rs.take p) v b_ ∨ hitY ⟨fr, tt, mo, wk, wd, sec, of⟩ v b_ j) ∧ Hid (ZR w ⟨#[97]⟩ off (some ⟨b2, o2, none⟩) n' c' rs w2.heap.size (some ⟨b, o, none⟩) ts wp.heap.size ⟨fr, tt, mo, wk, wd, sec, of⟩ wy)) (fun _ y _ => (tt + 1 - intOf y).toNat)
              case atStart => exact ⟨0, fb, by simp, by omega, rfl, Lib.hid (by rw [HF.out]; simp [hitY_zero]), H3⟩
              case round =>
                clear e0 e1 e2 e3 e4 e5 e6 H3 HF HB2
                obtain ⟨j, fc, rfl, hj, rfl, HF, HB7⟩ := hrel
                obtain ⟨m0, m1, m2, m3, m4, m5, m6⟩ := RuleBlk.cells HB7.out.r
                simp only at m0 m1 m2 m3 m4 m5 m6
                by_cases hle : fr + j ≤ tt
                · have hbd := HBD.out
                  have C := fun W => rnth_yes (fr + j) mo wk wd W (Zn.vld_first (by omega) (by omega) (by omega) (by omega)) (by omega) (by omega) (by omega) (by omega)
                  change ∀ W, Calls _ _ _ W (fun e w' => e = .returned (.tuple #[.int .i64 (Zn.nth ⟨fr, tt, mo, wk, wd, sec, of⟩ (fr + j)), .int .i64 0]) ∧ Below W.heap.size W w') at C
                  have hnb := Zn.nth_bd (y := fr + j) HOR.out (by simp only; omega) (by simp only; omega)
                  have hss := fun x : Bool => fun h : (x = true ↔ fc = true ∨ (Zn.nth ⟨fr, tt, mo, wk, wd, sec, of⟩ (fr + j) * 86400 + sec = v ∧ of = b_)) => (show Hid (x = true ↔ hitR (rs.take p) v b_ ∨ hitY ⟨fr, tt, mo, wk, wd, sec, of⟩ v b_ (j + 1)) from Lib.hid (by rw [hitY_succ, ← or_assoc, ← HF.out]; exact h))
                  obtain ⟨D, hD⟩ : ∃ D, Zn.nth ⟨fr, tt, mo, wk, wd, sec, of⟩ (fr + j) = D := ⟨_, rfl⟩
                  rw [hD] at C hnb hss
                  have HC := Lib.hid C
                  have HSS := Lib.hid hss
                  obtain ⟨n1, n2⟩ := hnb
                  have s12 : 0 ≤ sec ∧ sec < 86400 := by omega
                  obtain ⟨s1, s2⟩ := s12
                  have hj0 : (0 : Int) ≤ j := by omega
                  clear C hss hD hbd
                  as_aux_lemma =>
                  go_wp2_with fail
                  refine (HC.out _).mono ?_
                  rintro e w8 ⟨rfl, b8⟩
                  have HB8 := Lib.hid (HB7.out.after b8)
                  clear m0 m1 m2 m3 m4 m5 m6 b8 HB7 HC
                  obtain ⟨m0, m1, m2, m3, m4, m5, m6⟩ := RuleBlk.cells HB8.out.r
                  simp only at m0 m1 m2 m3 m4 m5 m6
                  have a1 := (HB8.out.t.cells hqL).2
                  rw [HBT.out] at a1
                  have wD : IntKind.i64.wrap (D * 86400) = D * 86400 := by rw [IntKind.wrap_i64]; omega
                  have wS : IntKind.i64.wrap (D * 86400 + sec) = D * 86400 + sec := by rw [IntKind.wrap_i64]; omega
                  go_upto_region 23 with fail
                  cases fc
                  · by_cases hv1 : D * 86400 + sec = v
                    · by_cases ho1 : of = b_
                      · have u1 : (D * 86400 + sec == v) = true := by simp [hv1]
                        have u2 : (of == b_) = true := by simp [ho1]
                        have N1 := HSS.out true (by simp [hv1, ho1])
                        clear hv1 ho1 HSS HF
                        as_aux_lemma =>
                        go_wp2_with fail
                        go_quiet (fail)
                        go_wp2_with fail
                        go_roundw
                        case rel => exact ⟨j + 1, true, by go_num, by omega, rfl, (by first | exact N1 | exact Lib.hid (by have := N1.out; simpa using this)), Lib.hid (HB8.out.after (below_drewN (Below.refl _ _) _))⟩
                        case measure => simp [intOf]; omega
                      · have u1 : (D * 86400 + sec == v) = true := by simp [hv1]
                        have u2 : (of == b_) = false := by simp [ho1]
                        have N1 := HSS.out false (by simp [ho1])
                        clear hv1 ho1 HSS HF
                        as_aux_lemma =>
                        go_wp2_with fail
                        go_quiet (fail)
                        go_wp2_with fail
                        go_roundw
                        case rel => exact ⟨j + 1, false, by go_num, by omega, rfl, (by first | exact N1 | exact Lib.hid (by have := N1.out; simpa using this)), Lib.hid (HB8.out.after (below_drewN (Below.refl _ _) _))⟩
                        case measure => simp [intOf]; omega
                    · have u1 : (D * 86400 + sec == v) = false := by simp [hv1]
                      have N1 := HSS.out false (by simp [hv1])
                      clear hv1 HSS HF
                      as_aux_lemma =>
                      go_wp2_with fail
                      go_quiet (fail)
                      go_wp2_with fail
                      go_roundw
                      case rel => exact ⟨j + 1, false, by go_num, by omega, rfl, (by first | exact N1 | exact Lib.hid (by have := N1.out; simpa using this)), Lib.hid (HB8.out.after (below_drewN (Below.refl _ _) _))⟩
                      case measure => simp [intOf]; omega
                  · have N1 := HSS.out true (by simp)
                    clear HSS HF
                    as_aux_lemma =>
                    go_wp2_with fail
                    go_quiet (fail)
                    go_wp2_with fail
                    go_roundw
                    case rel => exact ⟨j + 1, true, by go_num, by omega, rfl, (by first | exact N1 | exact Lib.hid (by have := N1.out; simpa using this)), Lib.hid (HB8.out.after (below_drewN (Below.refl _ _) _))⟩
                    case measure => simp [intOf]; omega
                · have hjy : j = Zn.yrs ⟨fr, tt, mo, wk, wd, sec, of⟩ := by have := HY.out; omega
                  have N1 := HSN.out fc (by rw [← hjy]; exact HF.out)
                  clear hjy HF
                  as_aux_lemma =>
                  go_wp2_with fail
                  go_roundw
                  case rel => exact ⟨p + 1, fc, by go_num, by omega, rfl, N1, Lib.hid HB7.out.t⟩
                  case measure => simp [intOf]; omega
            · have hpn : rs.take p = rs := List.take_of_length_le (by have := HRN.out; omega)
              have hfb : fb = true := HF.out.2 (by rw [hpn]; exact HIT.out)
              subst hfb
              have a0 := (HB2.out.cells hqL).1
              rw [HAT.out] at a0
              clear HF hpn
              by_cases hq0 : q = 0
              · have g5 : decide ((0 : Int) < q) = false := by simp; omega
                have g6 : decide (0 < q) = false := by simp; omega
                clear hq0
                as_aux_lemma =>
                go_wp2_with fail
                go_quiet (fail)
                go_wp2_with fail
                go_roundw
                case rel => exact ⟨q + 1, by go_num, by omega, Lib.hid (HB2.out.after (below_drewN (Below.refl _ _) _))⟩
                case measure => simp [intOf]; omega
              · have hw := Zn.trans_week HTR.out (i := q - 1) (by omega)
                rw [show q - 1 + 1 = q by omega, HAT.out] at hw
                have x0 := (HB2.out.cells (i := q - 1) (by omega)).1
                obtain ⟨y, hy⟩ : ∃ y, (ts.getD (q - 1) (0, 0)).1 = y := ⟨_, rfl⟩
                rw [hy] at x0 hw
                have hyb : 0 ≤ y := by
                  have hm : ts.getD (q - 1) (0, 0) ∈ ts := by
                    rw [show ts.getD (q - 1) (0, 0) = ts[q - 1]'(by omega) by simp [List.getD, show q - 1 < ts.length by omega]]; exact List.getElem_mem _
                  have := (HTB.out _ hm).1
                  omega
                have g5 : decide ((0 : Int) < q) = true := by simp; omega
                have g6 : decide (0 < q) = true := by simp; omega
                have w1 : IntKind.i64.wrap (at_ - y) = at_ - y := by rw [IntKind.wrap_i64]; omega
                have w2' : IntKind.i64.wrap ((q : Int) - 1) = (q : Int) - 1 := by rw [IntKind.wrap_i64]; omega
                have g7 : decide (at_ - y < 604800) = false := by simp; omega
                have z1 : (0 : Int) ≤ (q : Int) - 1 := by omega
                have z2 : (q : Int) - 1 < L := by omega
                have z3 : ((q : Int) - 1).toNat = q - 1 := by omega
                have z4 : (1 : Int) ≤ q := by omega
                clear hq0 hw hy
                as_aux_lemma =>
                go_wp2_with fail
                go_quiet (fail)
                go_wp2_with fail
                go_roundw
                case rel => exact ⟨q + 1, by go_num, by omega, Lib.hid (HB2.out.after (below_drewN (Below.refl _ _) _))⟩
                case measure => simp [intOf]; omega
      · obtain rfl : q = L := by omega
        have HS := Lib.hid (sane_any wr HB.out.k.z.civ)
        as_aux_lemma =>
        go_wp2_with fail
        refine HS.out.mono ?_
        rintro e w7 ⟨rfl, b7⟩
        go_wp2_with fail
        go_ret
        exact ⟨rfl, bstep HB.out.k.bel b7⟩
  · rw [decide_eq_false h5] at HL
    have HS := Lib.hid (sane_any w hT)
    clear hA hf
    go_enter Tryd.func8, Tryd.ntmps8
    go_wp2_with fail
    refine HL.mono ?_
    rintro e w1 ⟨rfl, rfl⟩
    go_wp2_with fail
    refine HS.out.mono ?_
    rintro e w7 ⟨rfl, b7⟩
    go_wp2_with fail
    go_ret
    exact ⟨rfl, b7⟩
end Go.Proofs.YtegnfmpbhindaaaDoor
