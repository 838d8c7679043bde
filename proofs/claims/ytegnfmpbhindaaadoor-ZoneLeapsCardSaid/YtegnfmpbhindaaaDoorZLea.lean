/- The law ZoneLeaps returns true for all lists and numbers. -/
import Derived.Test.YtegnfmpbhindaaaDoorZlx
import Derived.Deep.DeepCutAuto
namespace Go.Proofs.YtegnfmpbhindaaaDoor
open Go.RowKit
set_option linter.unusedVariables false
set_option linter.unusedSimpArgs false

/-- The zone's value at its block, and its transitions. -/
structure ZT (w : World) (s : ByteArray) (off : Int) (A' : Option Addr) (n' c' : Nat) (rs : List Zn.Rule) (bz : Nat) (At : Option Addr) (ts : Zn.L) (W : World) : Prop where
  k : ZK w s off A' n' c' rs bz W
  ts : PairsAt W At ts
theorem ZT.after {w : World} {s : ByteArray} {off : Int} {A' : Option Addr} {n' c' : Nat} {rs : List Zn.Rule} {bz : Nat} {At : Option Addr} {ts : Zn.L} {W W' : World} (h : ZT w s off A' n' c' rs bz At ts W) (hb : Below W.heap.size W W') : ZT w s off A' n' c' rs bz At ts W' :=
  ⟨h.k.after hb, h.ts.below hb⟩
theorem ZT.cells {w : World} {s : ByteArray} {off : Int} {A' : Option Addr} {n' c' : Nat} {rs : List Zn.Rule} {bz : Nat} {b o : Nat} {ts : Zn.L} {W : World} (h : ZT w s off A' n' c' rs bz (some ⟨b, o, none⟩) ts W) {i : Nat} (hi : i < ts.length) :
    W.cell? ⟨b, o + i * 2, none⟩ = some (.int .i64 (ts.getD i (0, 0)).1) ∧ W.cell? ⟨b, o + i * 2 + 1, none⟩ = some (.int .i64 (ts.getD i (0, 0)).2) := by
  obtain ⟨b', o', e, hb, hc⟩ := h.ts (by omega)
  cases e
  obtain ⟨x, hx⟩ := get_ex hi
  have := pair_cells (hc i x hx)
  rw [show ts.getD i (0, 0) = x by simp [List.getD, hx]]
  exact this
/-- What region 14 of ZoneLeaps reads. -/
theorem ZT.reads {w : World} {s : ByteArray} {off : Int} {A' : Option Addr} {n' c' : Nat} {rs : List Zn.Rule} {bz : Nat} {b o : Nat} {ts : Zn.L} {W : World} (h : ZT w s off A' n' c' rs bz (some ⟨b, o, none⟩) ts W) {q p : Nat} {bb hh : Int} (hq : q < ts.length) (hp : p < ts.length) (e1 : (ts.getD q (0, 0)).2 = bb) (e2 : (ts.getD p (0, 0)).1 = hh) :
    W.cell? ⟨bz, 0, none⟩ = some (.string s) ∧ W.cell? ⟨bz, 1, none⟩ = some (.int .i64 off) ∧ W.cell? ⟨bz, 2, none⟩ = some (.slice A' n' c') ∧ W.cell? ⟨b, o + q * 2 + 1, none⟩ = some (.int .i64 bb) ∧ W.cell? ⟨b, o + p * 2, none⟩ = some (.int .i64 hh) := by
  obtain ⟨z0, z1, z2⟩ := ZBlk.cells h.k.zb
  exact ⟨z0, z1, z2, by rw [← e1]; exact (h.cells hq).2, by rw [← e2]; exact (h.cells hp).1⟩

set_option maxHeartbeats 8000000 in
set_option maxRecDepth 100000 in
theorem leaps_law (A : Option Addr) (n c : Nat) (zs : List Int) (k m : Int) (w : World) (hT : CivT w) (hA : NumsAt w A zs) (hn : zs.length = n) (hf : ∀ z ∈ zs, -9223372036854775808 ≤ z ∧ z ≤ 9223372036854775807) (k1 : -9223372036854775808 ≤ k) (k2 : k ≤ 9223372036854775807) (m1 : -9223372036854775808 ≤ m) (m2 : m ≤ 9223372036854775807) :
    Calls Tryd.prog 6 #[.slice A n c, .int .i64 k, .int .i64 m] w fun e w' => e = .returned (.bool true) ∧ Below w.heap.size w w' := by
  have HL := Light_any A n c w
  by_cases h5 : (n : Int) ≤ 500
  · rw [decide_eq_true h5] at HL
    have hD := Dice.start (c := c) hA hn (by omega) hf
    have hR := Roll_any A n c w
    have B1 := (Below.refl w.heap.size w).alloc (Nat.le_refl _) (.cells #[.slice A n c, .int .i64 0] 70)
    have hS := Zone_any _ _ _ _ _ ⟨#[97]⟩ _ hD
    have T1 := hT.below B1
    clear hA hn hf
    go_enter Tryd.func6, Tryd.ntmps6
    go_wp2_with fail
    refine HL.mono ?_
    rintro e w1 ⟨rfl, rfl⟩
    go_wp2_with fail
    refine hR.mono ?_
    rintro e w1 ⟨rfl, rfl⟩
    go_wp2_with fail
    refine hS.mono ?_
    rintro e w2 ⟨off, A', n', c', rs, rfl, hG, hrn, hRS, G2, D2⟩
    have B2 := below_of_grown B1 G2 (by simp) (Nat.le_refl _)
    have T2 : CivT w2 := hT.below B2
    obtain ⟨ts, htr, htb⟩ := hG.ex
    have hz : ZIn w2 A' n' rs := zin_of T2 hRS hrn hG.all (by have := hG.len; omega)
    have hoff : I64 off := ⟨by have := hG.lo; omega, by have := hG.hi; omega⟩
    have hvz := Lib.hid (Zn.trans_vz htr)
    have hl640 : ts.length ≤ 640 := (Zn.trans_ok htr).2.2.2.2.2.2.1
    have C0 := fun W h => trans_is htr ⟨#[97]⟩ A' n' c' W h hoff
    have C1 := fun W h => horizon_is htr ⟨#[97]⟩ A' n' c' W h hoff hl640
    have C2 := fun W h x => offAt_is htr ⟨#[97]⟩ A' n' c' x W h hoff
    have C3 := fun W h d s (hd : I64 d) => fromLocal_is htr ⟨#[97]⟩ A' n' c' d s W h hoff hd
    have C4 := fun W h d s (hd : I64 d) => first_is htr ⟨#[97]⟩ A' n' c' d s W h hoff hd
    have H0 := Lib.hid C0
    have H1 := Lib.hid C1
    have H2 := Lib.hid C2
    have H3 := Lib.hid C3
    have H4 := Lib.hid C4
    have HTB := Lib.hid htb
    have K2 : ZK w ⟨#[97]⟩ off A' n' c' rs w2.heap.size (w2.alloc (.cells #[.string ⟨#[97]⟩, .int .i64 off, .slice A' n' c'] 27)) := ⟨hz.alloc _, blk_new rfl, B2.alloc B2.size _⟩
    clear C0 C1 C2 C3 C4 hS hR HL hD D2 G2 B1 B2 htb hG hRS hrn T1 hoff hz T2
    go_wp2_with fail
    refine (H0.out _ K2.z).mono ?_
    rintro e w3 ⟨At, ct, rfl, PT, b3⟩
    have K3 : ZT w ⟨#[97]⟩ off A' n' c' rs w2.heap.size At ts w3 := ⟨K2.after b3, PT⟩
    obtain ⟨c0, c1, c2⟩ := ZBlk.cells K3.k.zb
    have HK3 := Lib.hid K3
    clear b3 K2 PT H0 K3
    by_cases hL0 : ts.length = 0
    · have hts : ts = [] := List.eq_nil_of_length_eq_zero hL0
      subst hts
      have H1' := H1.out w3 HK3.out.k.z
      rw [show horizon [] = 0 from rfl] at H1'
      have H1 := Lib.hid H1'
      have e0 : (([] : Zn.L).length) = 0 := rfl
      rw [e0]
      clear hL0 H1' e0 hl640
      as_aux_lemma =>
      go_wp2_with fail
      refine H1.out.mono ?_
      rintro e w4 ⟨rfl, b4⟩
      have HS := Lib.hid (sane_any w4 (HK3.out.k.z.civ.below b4))
      have B4 := Lib.hid (bstep HK3.out.k.bel b4)
      clear b4
      go_wp2_with fail
      refine HS.out.mono ?_
      rintro e w7 ⟨rfl, b7⟩
      go_wp2_with fail
      go_ret
      exact ⟨rfl, bstep B4.out b7⟩
    · obtain ⟨b, o, rfl, -, -⟩ := HK3.out.ts (by omega)
      obtain ⟨L, hL⟩ : ∃ L, ts.length = L := ⟨_, rfl⟩
      have HLL := Lib.hid hL
      obtain ⟨q, hq⟩ : ∃ q : Nat, k % (L : Int) = q := ⟨(k % (L : Int)).toNat, by have := Int.emod_nonneg k (show (L : Int) ≠ 0 by omega); omega⟩
      have hqL : q < L := by have := Int.emod_lt_of_pos k (show (0 : Int) < (L : Int) by omega); omega
      have hM := fun W => Mod_any k L W k1 k2 (by omega) (by omega)
      rw [hq] at hM
      have HM := Lib.hid hM
      obtain ⟨a_, hlp⟩ := leap_of (k := q) hvz.out (by omega) HTB.out
      obtain ⟨at_, hat⟩ : ∃ x, (ts.getD q (0, 0)).1 = x := ⟨_, rfl⟩
      obtain ⟨b_, hbt⟩ : ∃ x, (ts.getD q (0, 0)).2 = x := ⟨_, rfl⟩
      rw [hat, hbt] at hlp
      have HAT := Lib.hid hat
      have HBT := Lib.hid hbt
      have HLP := Lib.hid hlp
      have a0 := (HK3.out.cells (i := q) (by omega)).1
      rw [hat] at a0
      have p1 : (0 : Int) ≤ q := by omega
      have p2 : (q : Int) < L := by omega
      have t1 : decide ((L : Int) = 0) = false := by simp; omega
      have t2 : ((L : Int) == 0) = false := by simp; omega
      have t3 : (L == 0) = false := by simp; omega
      rw [hL] at hl640 hL0 ⊢
      clear hat hbt hlp hq hM hL
      have C2a := fun W h => H2.out W h (at_ - 1)
      rw [HLP.out.offa, HLP.out.ea] at C2a
      have C2b := fun W h => H2.out W h at_
      rw [HLP.out.offb, HLP.out.eb] at C2b
      have HCA := Lib.hid C2a
      have HCB := Lib.hid C2b
      have g1 := HLP.out.lo
      have g2 := HLP.out.hi
      have g3 := HLP.out.abd
      have g4 := HLP.out.bbd
      obtain ⟨g31, g32⟩ := g3
      obtain ⟨g41, g42⟩ := g4
      have hne := HLP.out.ne
      have HNE := Lib.hid hne
      obtain ⟨hh, hhr⟩ : ∃ x, (ts.getD (L - 1) (0, 0)).1 = x := ⟨_, rfl⟩
      have hhz : horizon ts = hh := by unfold horizon; rw [if_neg (by have := HLL.out; omega), HLL.out]; exact hhr
      have C1 := H1.out
      rw [hhz] at C1
      have HC1 := Lib.hid C1
      have HHR := Lib.hid hhr
      have hLL : L - 1 < ts.length := by have := HLL.out; omega
      have hqLL : q < ts.length := by have := HLL.out; omega
      clear C2a C2b H1 H2 hne hhz hhr C1
      as_aux_lemma =>
      go_wp2_with fail
      refine (HM.out _).mono ?_
      rintro e w4 ⟨rfl, rfl⟩
      go_wp2_with fail
      refine (HCA.out _ HK3.out.k.z).mono ?_
      rintro e w4 ⟨rfl, b4⟩
      have K4 := HK3.out.after b4
      clear c0 c1 c2 a0
      obtain ⟨c0, c1, c2⟩ := ZBlk.cells K4.k.zb
      have HK4 := Lib.hid K4
      clear b4 K4 HK3
      go_wp2_with fail
      refine (HCB.out _ HK4.out.k.z).mono ?_
      rintro e w5 ⟨rfl, b5⟩
      have K5 := HK4.out.after b5
      clear c0 c1 c2
      have HK5 := Lib.hid K5
      have S0 := HK5.out.reads hqLL hLL HBT.out HHR.out
      have S1 := (HK5.out.after (Below.refl _ _).drew).reads hqLL hLL HBT.out HHR.out
      clear b5 K5 HK4
      have ne1 : (a_ == b_) = false := by simp; exact HNE.out
      have r1 : IntKind.i64.wrap ((L : Int) - 1) = (L : Int) - 1 := by rw [IntKind.wrap_i64]; omega
      have r2 : (0 : Int) ≤ (L : Int) - 1 := by omega
      have r5 : (1 : Int) ≤ L := by omega
      have r6 : 1 ≤ L := by omega
      have r3 : (L : Int) - 1 < L := by omega
      have r4 : ((L : Int) - 1).toNat = L - 1 := by omega
      go_upto_region 14 with fail
      go_cut [101] (fun x wx => x = .bool false ∧ Hid (ZT w ⟨#[97]⟩ off A' n' c' rs w2.heap.size (some ⟨b, o, none⟩) ts wx))
      case first =>
        as_aux_lemma =>
        go_region_held3 (fun W => W.cell? ⟨w2.heap.size, 0, none⟩ = some (.string ⟨#[97]⟩) ∧ W.cell? ⟨w2.heap.size, 1, none⟩ = some (.int .i64 off) ∧ W.cell? ⟨w2.heap.size, 2, none⟩ = some (.slice A' n' c') ∧ W.cell? ⟨b, o + q * 2 + 1, none⟩ = some (.int .i64 b_) ∧ W.cell? ⟨b, o + (L - 1) * 2, none⟩ = some (.int .i64 hh))
          (first | exact S0 | exact S1 | assumption | exact hK.reads hqLL hLL HBT.out HHR.out)
          (first | (go_at_call 21; refine (HC1.out _ (by first | exact HK5.out.k.z | exact (HK5.out.after (Below.refl _ _).drew).k.z)).mono ?_; rintro e w' ⟨rfl, hb⟩; have hK : ZT w ⟨#[97]⟩ off A' n' c' rs w2.heap.size (some ⟨b, o, none⟩) ts w' := ZT.after (by first | exact HK5.out | exact HK5.out.after (Below.refl _ _).drew) hb))
        all_goals
          go_wp2_with fail
          go_meet
          exact ⟨rfl, Lib.hid hK⟩
      case rest =>
        obtain ⟨rfl, HK6⟩ := hcut
        obtain ⟨w6, rfl⟩ : ∃ w6 : World, w6 = wc := ⟨_, rfl⟩
        clear S0 S1 HK5 r1 r2 r3 r4
        obtain ⟨c0, c1, c2⟩ := ZBlk.cells HK6.out.k.zb
        have hM2 := fun W s h1 h2 => Mod_any m s W m1 m2 h1 h2
        have HM2 := Lib.hid hM2
        clear hM2
        by_cases hlt : a_ < b_
        · have q1 : min a_ b_ = a_ := by omega
          have q2 : decide (b_ - a_ < 0) = false := by simp; omega
          have q3 : 1 ≤ b_ - a_ := by omega
          have y1 : 0 ≤ m % (b_ - a_) ∧ m % (b_ - a_) < b_ - a_ := ⟨Int.emod_nonneg _ (by omega), Int.emod_lt_of_pos _ (by omega)⟩
          have C := fun W => HM2.out W (b_ - a_) (by omega) (by omega)
          generalize m % (b_ - a_) = y at C y1
          obtain ⟨y1, y2⟩ := y1
          obtain ⟨v, hv⟩ : ∃ v, at_ + a_ + y = v := ⟨_, rfl⟩
          obtain ⟨f1, f2, f3, f4⟩ := HLP.out.fwd hvz.out hlt (v := v) (by omega) (by omega)
          have v1 : 0 ≤ v := by omega
          have v2 : v ≤ 3000000000 := by omega
          have C3 := fun W h => H3.out W h (v / 86400) (v % 86400) ⟨by omega, by omega⟩
          rw [f1, f2] at C3
          have C4 := fun W h => H4.out W h (v / 86400) (v % 86400) ⟨by omega, by omega⟩
          rw [f3, f4] at C4
          obtain ⟨D, hD⟩ : ∃ D, v / 86400 = D := ⟨_, rfl⟩
          obtain ⟨S, hS⟩ : ∃ S, v % 86400 = S := ⟨_, rfl⟩
          rw [hD, hS] at C3 C4
          have HC := Lib.hid C
          have HC3 := Lib.hid C3
          have HC4 := Lib.hid C4
          have g5 : decide (a_ < b_) = true := decide_eq_true hlt
          clear C C3 C4 f1 f2 f3 f4 H3 H4 HM2
          have HK7 := Lib.hid (HK6.out.after ((Below.refl _ _).alloc (Nat.le_refl _) (.cells #[.int .i64 D, .int .i64 S] 52)))
          obtain ⟨d0, d1, d2⟩ := ZBlk.cells HK7.out.k.zb
          as_aux_lemma =>
          go_wp2_with fail
          refine (HC.out _).mono ?_
          rintro e w7 ⟨rfl, rfl⟩
          go_wp2_with fail
          refine (HC3.out _ HK7.out.k.z).mono ?_
          rintro e w8 ⟨Ax, cx, rfl, I8, b8⟩
          have K8 := HK7.out.after b8
          have LB8 : BlkAt w8 w6.heap.size #[.int .i64 D, .int .i64 S] 52 := BlkAt.after (blk_new rfl) b8
          have HK8 := Lib.hid K8
          clear d0 d1 d2 K8
          obtain ⟨d0, d1, d2⟩ := ZBlk.cells HK8.out.k.zb
          obtain ⟨l0, l1⟩ := (show w8.cell? ⟨w6.heap.size, 0, none⟩ = some (.int .i64 D) ∧ w8.cell? ⟨w6.heap.size, 1, none⟩ = some (.int .i64 S) from ⟨BlkAt.cell LB8 rfl, BlkAt.cell LB8 rfl⟩)
          clear b8 LB8 HK7 HC3
          go_wp2_with fail
          refine (HC4.out _ HK8.out.k.z).mono ?_
          rintro e w9 ⟨rfl, b9⟩
          have I9 := I8.below b9
          have HK9 := Lib.hid (HK8.out.after b9)
          clear d0 d1 d2 l0 l1 I8 b9 HK8 HC4
          have HS := Lib.hid (sane_any w9 HK9.out.k.z.civ)
          clear I9
          go_wp2_with fail
          refine HS.out.mono ?_
          rintro e w10 ⟨rfl, b10⟩
          have HB := Lib.hid (bstep HK9.out.k.bel b10)
          clear b10 HK9 HS
          go_wp2_with fail
          go_ret
          exact ⟨rfl, HB.out⟩
        · have hlt2 : b_ < a_ := by have := HNE.out; omega
          have q1 : min a_ b_ = b_ := by omega
          have q2 : decide (b_ - a_ < 0) = true := by simp; omega
          have q3 : 1 ≤ a_ - b_ := by omega
          have q4 : -(b_ - a_) = a_ - b_ := by omega
          have y1 : 0 ≤ m % (a_ - b_) ∧ m % (a_ - b_) < a_ - b_ := ⟨Int.emod_nonneg _ (by omega), Int.emod_lt_of_pos _ (by omega)⟩
          have C := fun W => HM2.out W (a_ - b_) (by omega) (by omega)
          generalize m % (a_ - b_) = y at C y1
          obtain ⟨y1, y2⟩ := y1
          obtain ⟨v, hv⟩ : ∃ v, at_ + b_ + y = v := ⟨_, rfl⟩
          obtain ⟨f1, f2, f3, f4⟩ := HLP.out.bwd hvz.out hlt2 (v := v) (by omega) (by omega)
          have v1 : 0 ≤ v := by omega
          have v2 : v ≤ 3000000000 := by omega
          have C3 := fun W h => H3.out W h (v / 86400) (v % 86400) ⟨by omega, by omega⟩
          obtain ⟨p, hp⟩ : ∃ p, v - a_ = p := ⟨_, rfl⟩
          obtain ⟨r, hr⟩ : ∃ r, v - b_ = r := ⟨_, rfl⟩
          rw [f1, f2, hp, hr] at C3
          have C4 := fun W h => H4.out W h (v / 86400) (v % 86400) ⟨by omega, by omega⟩
          rw [f3, f4, hp] at C4
          obtain ⟨D, hD⟩ : ∃ D, v / 86400 = D := ⟨_, rfl⟩
          obtain ⟨S, hS⟩ : ∃ S, v % 86400 = S := ⟨_, rfl⟩
          rw [hD, hS] at C3 C4
          have HC := Lib.hid C
          have HC3 := Lib.hid C3
          have HC4 := Lib.hid C4
          have g5 : decide (a_ < b_) = false := decide_eq_false hlt
          have u1 : p < at_ := by omega
          have u2 : at_ ≤ r := by omega
          have u3 : r - p = a_ - b_ := by omega
          have U3 := Lib.hid u3
          clear u3 hp hr C C3 C4 f1 f2 f3 f4 H3 H4 HM2
          have HK7 := Lib.hid (HK6.out.after ((Below.refl _ _).alloc (Nat.le_refl _) (.cells #[.int .i64 D, .int .i64 S] 52)))
          obtain ⟨d0, d1, d2⟩ := ZBlk.cells HK7.out.k.zb
          as_aux_lemma =>
          go_wp2_with fail
          refine (HC.out _).mono ?_
          rintro e w7 ⟨rfl, rfl⟩
          go_wp2_with fail
          refine (HC3.out _ HK7.out.k.z).mono ?_
          rintro e w8 ⟨Ax, cx, rfl, I8, b8⟩
          have K8 := HK7.out.after b8
          have LB8 : BlkAt w8 w6.heap.size #[.int .i64 D, .int .i64 S] 52 := BlkAt.after (blk_new rfl) b8
          have HK8 := Lib.hid K8
          clear d0 d1 d2 K8
          obtain ⟨d0, d1, d2⟩ := ZBlk.cells HK8.out.k.zb
          obtain ⟨l0, l1⟩ := (show w8.cell? ⟨w6.heap.size, 0, none⟩ = some (.int .i64 D) ∧ w8.cell? ⟨w6.heap.size, 1, none⟩ = some (.int .i64 S) from ⟨BlkAt.cell LB8 rfl, BlkAt.cell LB8 rfl⟩)
          clear b8 LB8 HK7 HC3
          go_wp2_with fail
          refine (HC4.out _ HK8.out.k.z).mono ?_
          rintro e w9 ⟨rfl, b9⟩
          have I9 := I8.below b9
          have HK9 := Lib.hid (HK8.out.after b9)
          clear d0 d1 d2 l0 l1 I8 b9 HK8 HC4
          obtain ⟨b3, o3, rfl, -, hc⟩ := I9 (by simp)
          have x0 : w9.cell? ⟨b3, o3, none⟩ = some (.int .i64 p) := hc 0 _ rfl 0 (by omega)
          have x1 : w9.cell? ⟨b3, o3 + 1, none⟩ = some (.int .i64 r) := hc 1 _ rfl 0 (by omega)
          have uw : IntKind.i64.wrap (r - p) = a_ - b_ := by rw [U3.out, IntKind.wrap_i64]; omega
          have u4 : decide (p < at_) = true := decide_eq_true u1
          have u5 : decide (at_ ≤ r) = true := decide_eq_true u2
          have S0 : w9.cell? ⟨b3, o3, none⟩ = some (.int .i64 p) ∧ w9.cell? ⟨b3, o3 + 1, none⟩ = some (.int .i64 r) := ⟨x0, x1⟩
          have S1 : w9.drew.cell? ⟨b3, o3, none⟩ = some (.int .i64 p) ∧ w9.drew.cell? ⟨b3, o3 + 1, none⟩ = some (.int .i64 r) := ⟨x0, x1⟩
          clear I9 hc
          go_upto_region 27 with fail
          go_region_held3 (fun W => W.cell? ⟨b3, o3, none⟩ = some (.int .i64 p) ∧ W.cell? ⟨b3, o3 + 1, none⟩ = some (.int .i64 r))
            (first | exact S0 | exact S1 | assumption | exact ⟨cell_keep x0 hb2, cell_keep x1 hb2⟩)
            (first | (go_at_call 12; refine (sane_any _ (by first | exact HK9.out.k.z.civ | exact HK9.out.k.z.civ.drew)).mono ?_; rintro e w' ⟨rfl, hb⟩; have hb2 : Below w9.heap.size w9 w' := (by first | exact hb | exact (Below.refl _ _).drew.trans hb)))
          all_goals
            go_wp2_with fail
            go_ret
            exact ⟨rfl, bstep HK9.out.k.bel hb2⟩
  · rw [decide_eq_false h5] at HL
    have HS := Lib.hid (sane_any w hT)
    clear hA hf
    go_enter Tryd.func6, Tryd.ntmps6
    go_wp2_with fail
    refine HL.mono ?_
    rintro e w1 ⟨rfl, rfl⟩
    go_wp2_with fail
    refine HS.out.mono ?_
    rintro e w7 ⟨rfl, b7⟩
    go_wp2_with fail
    go_ret
    exact ⟨rfl, b7⟩
end Go.Proofs.YtegnfmpbhindaaaDoor
