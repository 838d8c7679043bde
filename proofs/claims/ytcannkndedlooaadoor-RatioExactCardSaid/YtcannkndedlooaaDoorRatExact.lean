/- The law RatioExact returns true for every two structs and every two numbers. -/
import Derived.Test.YtcannkndedlooaaDoorRatL
namespace Go.Proofs.YtcannkndedlooaaDoor
open Go.RowKit
set_option linter.unusedVariables false
set_option linter.unusedSimpArgs false

/-- Two ratios lie at block b. -/
def PairAt (w : World) (b : Nat) (p1 p2 p3 p4 : Int) : Prop := w.cell? ⟨b, 0, none⟩ = some (.int .i64 p1) ∧ w.cell? ⟨b, 1, none⟩ = some (.int .i64 p2) ∧ w.cell? ⟨b, 2, none⟩ = some (.int .i64 p3) ∧ w.cell? ⟨b, 3, none⟩ = some (.int .i64 p4)
theorem PairAt.lt {w : World} {b : Nat} {p1 p2 p3 p4 : Int} (h : PairAt w b p1 p2 p3 p4) : b < w.heap.size := World.block_lt_of_cell? w _ h.1
theorem PairAt.below {w w' : World} {b : Nat} {p1 p2 p3 p4 : Int} (h : PairAt w b p1 p2 p3 p4) (k : Below w.heap.size w w') : PairAt w' b p1 p2 p3 p4 :=
  ⟨(k.cell (p := ⟨b, 0, none⟩) h.lt).trans h.1, (k.cell (p := ⟨b, 1, none⟩) h.lt).trans h.2.1, (k.cell (p := ⟨b, 2, none⟩) h.lt).trans h.2.2.1, (k.cell (p := ⟨b, 3, none⟩) h.lt).trans h.2.2.2⟩
theorem PairAt.new (w : World) (p1 p2 p3 p4 : Int) (t : TypeId) : PairAt (w.alloc (.cells #[.int .i64 p1, .int .i64 p2, .int .i64 p3, .int .i64 p4] t)) w.heap.size p1 p2 p3 p4 := by
  refine ⟨?_, ?_, ?_, ?_⟩ <;> simp
theorem PairAt.store {w : World} {b b' : Nat} {p1 p2 p3 p4 : Int} (h : PairAt w b p1 p2 p3 p4) (hne : b ≠ b') (p q : Int) : PairAt ((w.setCell ⟨b', 0, none⟩ (.int .i64 p)).setCell ⟨b', 1, none⟩ (.int .i64 q)) b p1 p2 p3 p4 := by
  obtain ⟨h0, h1, h2, h3⟩ := h
  refine ⟨?_, ?_, ?_, ?_⟩ <;> simp [go_sem, h0, h1, h2, h3, hne, Ne.symm hne]
theorem RatAt.other {w : World} {b b' : Nat} {n d : Int} (h : RatAt w b n d) (hne : b ≠ b') (p q : Int) : RatAt ((w.setCell ⟨b', 0, none⟩ (.int .i64 p)).setCell ⟨b', 1, none⟩ (.int .i64 q)) b n d := by
  obtain ⟨h0, h1, h2, h3⟩ := h
  refine ⟨?_, ?_, ?_, ?_⟩ <;> simp [go_sem, h0, h1, h2, h3, hne, Ne.symm hne]
theorem RatAt.same {w : World} {b : Nat} {n d : Int} (h : RatAt w b n d) (p q : Int) : RatAt ((w.setCell ⟨b, 0, none⟩ (.int .i64 p)).setCell ⟨b, 1, none⟩ (.int .i64 q)) b p q := by
  obtain ⟨h0, h1, h2, h3⟩ := h
  refine ⟨?_, ?_, ?_, ?_⟩ <;> simp [go_sem, h0, h1, h2, h3]
theorem below_store {W w : World} {b : Nat} (h : Below W.heap.size W w) (hb : W.heap.size ≤ b) (p q : Int) : Below W.heap.size W ((w.setCell ⟨b, 0, none⟩ (.int .i64 p)).setCell ⟨b, 1, none⟩ (.int .i64 q)) := (h.setCell hb _).setCell hb _

theorem radd_is {an ad bn bd p q e : Int} (h : Rt.addS an ad bn bd = (p, q, e)) (w : World) (ia : I64 an ∧ I64 ad) (ib : I64 bn ∧ I64 bd) :
    Calls Tryd.prog 10 #[.agg #[.int .i64 an, .int .i64 ad], .agg #[.int .i64 bn, .int .i64 bd]] w fun x w' => x = .returned (.tuple #[.agg #[.int .i64 p, .int .i64 q], .int .i64 e]) ∧ Below w.heap.size w w' := by
  have k := rAdd_any an ad bn bd w ia ib
  rw [h] at k
  exact k
theorem rsub_is {an ad bn bd p q e : Int} (h : Rt.subS an ad bn bd = (p, q, e)) (w : World) (ia : I64 an ∧ I64 ad) (ib : I64 bn ∧ I64 bd) :
    Calls Tryd.prog 12 #[.agg #[.int .i64 an, .int .i64 ad], .agg #[.int .i64 bn, .int .i64 bd]] w fun x w' => x = .returned (.tuple #[.agg #[.int .i64 p, .int .i64 q], .int .i64 e]) ∧ Below w.heap.size w w' := by
  have k := rSub_any an ad bn bd w ia ib
  rw [h] at k
  exact k
theorem rmul_is {an ad bn bd p q e : Int} (h : Rt.mulS an ad bn bd = (p, q, e)) (w : World) (ia : I64 an ∧ I64 ad) (ib : I64 bn ∧ I64 bd) :
    Calls Tryd.prog 14 #[.agg #[.int .i64 an, .int .i64 ad], .agg #[.int .i64 bn, .int .i64 bd]] w fun x w' => x = .returned (.tuple #[.agg #[.int .i64 p, .int .i64 q], .int .i64 e]) ∧ Below w.heap.size w w' := by
  have k := rMul_any an ad bn bd w ia ib
  rw [h] at k
  exact k
theorem rdiv_is {an ad bn bd p q e : Int} (h : Rt.divS an ad bn bd = (p, q, e)) (w : World) (ia : I64 an ∧ I64 ad) (ib : I64 bn ∧ I64 bd) :
    Calls Tryd.prog 16 #[.agg #[.int .i64 an, .int .i64 ad], .agg #[.int .i64 bn, .int .i64 bd]] w fun x w' => x = .returned (.tuple #[.agg #[.int .i64 p, .int .i64 q], .int .i64 e]) ∧ Below w.heap.size w w' := by
  have k := rDiv_any an ad bn bd w ia ib
  rw [h] at k
  exact k
theorem rless_is {an ad bn bd : Int} {t : Bool} (h : Rt.lessB an ad bn bd = t) (w : World) (ia : I64 an ∧ I64 ad) (ib : I64 bn ∧ I64 bd) :
    Calls Tryd.prog 18 #[.agg #[.int .i64 an, .int .i64 ad], .agg #[.int .i64 bn, .int .i64 bd]] w fun x w' => x = .returned (.bool t) ∧ Below w.heap.size w w' := h ▸ rLess_any an ad bn bd w ia ib
theorem valid_is {n d : Int} {t : Bool} (h : Rt.vldB n d = t) (w : World) (ia : I64 n ∧ I64 d) :
    Calls Tryd.prog 19 #[.agg #[.int .i64 n, .int .i64 d]] w fun x w' => x = .returned (.bool t) ∧ Below w.heap.size w w' := h ▸ valid_any n d w ia.1 ia.2
theorem rvalid_is {n d : Int} {t : Bool} (h : Rt.vldB n d = t) (w : World) (ia : I64 n ∧ I64 d) :
    Calls Tryd.prog 20 #[.agg #[.int .i64 n, .int .i64 d]] w fun x w' => x = .returned (.bool t) ∧ Below w.heap.size w w' := h ▸ rvalid_any n d w ia.1 ia.2
theorem new_is {n d p q e : Int} (h : ∀ w, Calls Tryd.prog 23 #[.int .i64 n, .int .i64 d] w (Ret3 (p, q, e) w)) (w : World) :
    Calls Tryd.prog 23 #[.int .i64 n, .int .i64 d] w fun x w' => x = .returned (.tuple #[.agg #[.int .i64 p, .int .i64 q], .int .i64 e]) ∧ Below w.heap.size w w' := h w
theorem rnew_is {n d p q e : Int} (h : ∀ w, Calls Tryd.prog 24 #[.int .i64 n, .int .i64 d] w (Ret3 (p, q, e) w)) (w : World) :
    Calls Tryd.prog 24 #[.int .i64 n, .int .i64 d] w fun x w' => x = .returned (.tuple #[.agg #[.int .i64 p, .int .i64 q], .int .i64 e]) ∧ Below w.heap.size w w' := h w
theorem cell_kept {w w' : World} {b i : Nat} {v : Value} (h : w.cell? ⟨b, i, none⟩ = some v) (hb : Below w.heap.size w w') : w'.cell? ⟨b, i, none⟩ = some v := (hb.cell (p := ⟨b, i, none⟩) (World.block_lt_of_cell? w _ h)).trans h
theorem keepE {bp bu bv : Nat} {p1 p2 p3 p4 r1 r2 : Int} {W wc w' : World} (h : wc.cell? ⟨bp, 0, none⟩ = some (.int .i64 p1) ∧ wc.cell? ⟨bp, 1, none⟩ = some (.int .i64 p2) ∧ wc.cell? ⟨bp, 2, none⟩ = some (.int .i64 p3) ∧ wc.cell? ⟨bp, 3, none⟩ = some (.int .i64 p4) ∧ wc.cell? ⟨bu, 0, none⟩ = some (.int .i64 r1) ∧ wc.cell? ⟨bu, 1, none⟩ = some (.int .i64 r2) ∧ wc.cell? ⟨bv, 0, none⟩ = some (.int .i64 r1) ∧ wc.cell? ⟨bv, 1, none⟩ = some (.int .i64 r2) ∧ RatT wc ∧ Below W.heap.size W wc) (hb : Below wc.heap.size wc w') :
    w'.cell? ⟨bp, 0, none⟩ = some (.int .i64 p1) ∧ w'.cell? ⟨bp, 1, none⟩ = some (.int .i64 p2) ∧ w'.cell? ⟨bp, 2, none⟩ = some (.int .i64 p3) ∧ w'.cell? ⟨bp, 3, none⟩ = some (.int .i64 p4) ∧ w'.cell? ⟨bu, 0, none⟩ = some (.int .i64 r1) ∧ w'.cell? ⟨bu, 1, none⟩ = some (.int .i64 r2) ∧ w'.cell? ⟨bv, 0, none⟩ = some (.int .i64 r1) ∧ w'.cell? ⟨bv, 1, none⟩ = some (.int .i64 r2) ∧ RatT w' ∧ Below W.heap.size W w' := by
  obtain ⟨a1, a2, a3, a4, a5, a6, a7, a8, a9, a10⟩ := h
  exact ⟨cell_kept a1 hb, cell_kept a2 hb, cell_kept a3 hb, cell_kept a4 hb, cell_kept a5 hb, cell_kept a6 hb, cell_kept a7 hb, cell_kept a8 hb, a9.below hb, bstep a10 hb⟩
theorem tE {a1 a2 a3 a4 a5 a6 a7 a8 : Prop} {W wc : World} (h : a1 ∧ a2 ∧ a3 ∧ a4 ∧ a5 ∧ a6 ∧ a7 ∧ a8 ∧ RatT wc ∧ Below W.heap.size W wc) : RatT wc := h.2.2.2.2.2.2.2.2.1

set_option maxRecDepth 100000 in
set_option maxHeartbeats 6400000 in
theorem exact_any (an ad bn bd n d : Int) (w : World) (hT : RatT w) (ia1 : I64 an) (ia2 : I64 ad) (ib1 : I64 bn) (ib2 : I64 bd) (i1 : -9223372036854775808 ≤ n) (i2 : n ≤ 9223372036854775807) (i3 : -9223372036854775808 ≤ d) (i4 : d ≤ 9223372036854775807) :
    Calls Tryd.prog 3 #[.agg #[.int .i64 an, .int .i64 ad], .agg #[.int .i64 bn, .int .i64 bd], .int .i64 n, .int .i64 d] w fun e w' => e = .returned (.bool true) ∧ Below w.heap.size w w' := by
  obtain ⟨⟨g1, g2, g3⟩, hg1, hg2⟩ := new_both n d
  have A0 := (RatAt.new w an ad 23).alloc (.cells #[.int .i64 bn, .int .i64 bd] 23)
  have B0 := RatAt.new1 w (.cells #[.int .i64 an, .int .i64 ad] 23) bn bd 23
  have L0 := below2 w (.cells #[.int .i64 an, .int .i64 ad] 23) (.cells #[.int .i64 bn, .int .i64 bd] 23)
  go_enter Tryd.func3, Tryd.ntmps3
  go_wp2_with fail
  refine (draw_any n d _ i1 i2 i3 i4).mono ?_
  rintro e w1 ⟨xn, xd, hx, rfl, b1⟩
  have A1 := A0.below b1
  have B1 := B0.below b1
  have L1 := bstep L0 b1
  go_wp2_with fail
  refine (draw_any d n _ i3 i4 i1 i2).mono ?_
  rintro e w2 ⟨yn, yd, hy, rfl, b2⟩
  have A2 := A1.below b2
  have B2 := B1.below b2
  have L2 := bstep L1 b2
  have L2a := L2.alloc L2.size (.cells #[.int .i64 xn, .int .i64 xd] 23)
  have L2b := L2a.alloc L2a.size (.cells #[.int .i64 yn, .int .i64 yd] 23)
  have T2 := hT.below L2b
  have HIX := Lib.hid (vld_i64 hx)
  have HIY := Lib.hid (vld_i64 hy)
  have ⟨a0, a1, _, _⟩ := A2
  have ⟨c0, c1, _, _⟩ := B2
  have az := A2.lt
  have bz := B2.lt
  clear hx hy b1 b2 A0 B0 A1 B1 L0 L1
  go_wp2_with fail
  clear a0 a1 c0 c1
  go_loopw [40] (fun i wr => ∃ k : Nat, k ≤ 4 ∧ i = .int .i64 k ∧ RatT wr ∧ Below w.heap.size w wr) (fun i _ => (4 - intOf i).toNat)
  case atStart => exact ⟨0, by omega, rfl, T2, L2b⟩
  case round =>
    obtain ⟨k, hk, rfl, I1, I2⟩ := hrel
    clear A2 B2 L2 L2a L2b T2 az bz
    have H0 : ∀ k : Nat, k < 4 → ∃ p1 p2 p3 p4 : Int, ((I64 p1 ∧ I64 p2) ∧ (I64 p3 ∧ I64 p4)) ∧ ∀ w, (Instr.index 26 (.agg #[.int .i64 an, .int .i64 ad, .int .i64 bn, .int .i64 bd, .int .i64 xn, .int .i64 xd, .int .i64 yn, .int .i64 yd, .int .i64 xn, .int .i64 xd, .int .i64 an, .int .i64 ad, .int .i64 yn, .int .i64 yd, .int .i64 xn, .int .i64 xd]) (.int .i64 (k : Int))).run Tryd.prog w = .ok (.agg #[.int .i64 p1, .int .i64 p2, .int .i64 p3, .int .i64 p4]) w := fun k hk => by
      have hk4 : k = 0 ∨ k = 1 ∨ k = 2 ∨ k = 3 := by omega
      rcases hk4 with rfl | rfl | rfl | rfl
      · exact ⟨_, _, _, _, ⟨⟨ia1, ia2⟩, ⟨ib1, ib2⟩⟩, fun _ => by kernel_rfl⟩
      · exact ⟨_, _, _, _, ⟨HIX.out, HIY.out⟩, fun _ => by kernel_rfl⟩
      · exact ⟨_, _, _, _, ⟨HIX.out, ⟨ia1, ia2⟩⟩, fun _ => by kernel_rfl⟩
      · exact ⟨_, _, _, _, ⟨HIY.out, HIX.out⟩, fun _ => by kernel_rfl⟩
    by_cases hlt : k < 4
    · obtain ⟨p1, p2, p3, p4, hi, hidx⟩ := H0 k hlt
      as_aux_lemma =>
      clear H0
      have IA := Lib.hid hi.1
      have IB := Lib.hid hi.2
      clear hi
      obtain ⟨u1, u2, u3, hu⟩ : ∃ p q e, Rt.addS p1 p2 p3 p4 = (p, q, e) := ⟨_, _, _, rfl⟩
      obtain ⟨s1, s2, s3, hs⟩ : ∃ p q e, Rt.subS p1 p2 p3 p4 = (p, q, e) := ⟨_, _, _, rfl⟩
      obtain ⟨m1, m2, m3, hm⟩ : ∃ p q e, Rt.mulS p1 p2 p3 p4 = (p, q, e) := ⟨_, _, _, rfl⟩
      obtain ⟨r1, r2, r3, hr⟩ : ∃ p q e, Rt.divS p1 p2 p3 p4 = (p, q, e) := ⟨_, _, _, rfl⟩
      obtain ⟨tl, hl⟩ : ∃ t, Rt.lessB p1 p2 p3 p4 = t := ⟨_, rfl⟩
      obtain ⟨tv, hv⟩ : ∃ t, Rt.vldB p1 p2 = t := ⟨_, rfl⟩
      obtain ⟨tx, hx⟩ : ∃ t, (⟨(Rt.txtS p1 p2).toArray⟩ : ByteArray) = t := ⟨_, rfl⟩
      have HU := Lib.hid hu
      have HS := Lib.hid hs
      have HM := Lib.hid hm
      have HR := Lib.hid hr
      have HL := Lib.hid hl
      have HV := Lib.hid hv
      have HT := Lib.hid hx
      clear hu hs hm hr hl hv hx
      have P0 := PairAt.new wr p1 p2 p3 p4 25
      have L0 := I2.alloc I2.size (.cells #[.int .i64 p1, .int .i64 p2, .int .i64 p3, .int .i64 p4] 25)
      have hbp : w.heap.size ≤ wr.heap.size := I2.size
      go_wp2_with fail
      refine (add_is HU.out _ IA.out IB.out).mono ?_
      rintro e w1 ⟨rfl, b1⟩
      have P1 := P0.below b1
      have L1 := bstep L0 b1
      have hpu0 := P1.lt
      obtain ⟨bp, hbp2⟩ : ∃ b, b = wr.heap.size := ⟨_, rfl⟩
      rw [← hbp2] at P1 hbp hpu0 ⊢
      clear hbp2 P0 L0 b1
      have P1a := P1.below ((Below.refl _ _).alloc (Nat.le_refl _) (.cells #[.int .i64 u1, .int .i64 u2] 23))
      have U1 := RatAt.new w1 u1 u2 23
      have L1a := L1.alloc L1.size (.cells #[.int .i64 u1, .int .i64 u2] 23)
      have hbu : w.heap.size ≤ w1.heap.size := L1.size
      have ⟨c0, c1, c2, c3⟩ := P1
      go_wp2_with fail
      refine (radd_is HU.out _ IA.out IB.out).mono ?_
      rintro e w2 ⟨rfl, b2⟩
      clear c0 c1 c2 c3
      have P2 := P1a.below b2
      have U2 := U1.below b2
      have L2 := bstep L1a b2
      have huv0 := U2.lt
      obtain ⟨bu, hbu2⟩ : ∃ b, b = w1.heap.size := ⟨_, rfl⟩
      rw [← hbu2] at U2 hbu hpu0 huv0 ⊢
      clear hbu2 P1 P1a U1 L1 L1a b2
      have P2a := P2.below ((Below.refl _ _).alloc (Nat.le_refl _) (.cells #[.int .i64 u1, .int .i64 u2] 23))
      have U2a := U2.alloc (.cells #[.int .i64 u1, .int .i64 u2] 23)
      have V2 := RatAt.new w2 u1 u2 23
      have L2a := L2.alloc L2.size (.cells #[.int .i64 u1, .int .i64 u2] 23)
      have hbv : w.heap.size ≤ w2.heap.size := L2.size
      have hpv0 := P2.lt
      have ⟨c0, c1, c2, c3⟩ := P2
      have ⟨d0, d1, d2, d3⟩ := U2
      go_wp2_with fail
      refine (sub_is HS.out _ IA.out IB.out).mono ?_
      rintro e w3 ⟨rfl, b3⟩
      clear c0 c1 c2 c3 d0 d1 d2 d3
      have P3 := P2a.below b3
      have U3 := U2a.below b3
      have V3 := V2.below b3
      have L3 := bstep L2a b3
      obtain ⟨bv, hbv2⟩ : ∃ b, b = w2.heap.size := ⟨_, rfl⟩
      rw [← hbv2] at V3 hbv huv0 hpv0 ⊢
      clear hbv2 P2 P2a U2 U2a V2 L2 L2a b3
      have npu : bp ≠ bu := by omega
      have nup : bu ≠ bp := by omega
      have npv : bp ≠ bv := by omega
      have nvp : bv ≠ bp := by omega
      have nuv : bu ≠ bv := by omega
      have nvu : bv ≠ bu := by omega
      have Ps := P3.store npu s1 s2
      have Us := U3.same s1 s2
      have Vs := V3.other nvu s1 s2
      have Ls := below_store L3 hbu s1 s2
      have ⟨c0, c1, c2, c3⟩ := P3
      have ⟨d0, d1, d2, d3⟩ := U3
      have ⟨f0, f1, f2, f3⟩ := V3
      go_wp2_with fail
      refine (rsub_is HS.out _ IA.out IB.out).mono ?_
      rintro e w4 ⟨rfl, b4⟩
      clear c0 c1 c2 c3 d0 d1 d2 d3 f0 f1 f2 f3
      have P4 := Ps.below b4
      have U4 := Us.below b4
      have V4 := Vs.below b4
      have L4 := bstep Ls b4
      clear Ps Us Vs Ls P3 U3 V3 L3 b4
      have Ps := P4.store npv s1 s2
      have Us := U4.other nuv s1 s2
      have Vs := V4.same s1 s2
      have Ls := below_store L4 hbv s1 s2
      have ⟨c0, c1, c2, c3⟩ := P4
      have ⟨d0, d1, d2, d3⟩ := U4
      have ⟨f0, f1, f2, f3⟩ := V4
      go_wp2_with fail
      refine (mul_is HM.out _ IA.out IB.out).mono ?_
      rintro e w5 ⟨rfl, b5⟩
      clear c0 c1 c2 c3 d0 d1 d2 d3 f0 f1 f2 f3
      have P5 := Ps.below b5
      have U5 := Us.below b5
      have V5 := Vs.below b5
      have L5 := bstep Ls b5
      clear Ps Us Vs Ls P4 U4 V4 L4 b5
      have Ps := P5.store npu m1 m2
      have Us := U5.same m1 m2
      have Vs := V5.other nvu m1 m2
      have Ls := below_store L5 hbu m1 m2
      have ⟨c0, c1, c2, c3⟩ := P5
      have ⟨d0, d1, d2, d3⟩ := U5
      have ⟨f0, f1, f2, f3⟩ := V5
      go_wp2_with fail
      refine (rmul_is HM.out _ IA.out IB.out).mono ?_
      rintro e w6 ⟨rfl, b6⟩
      clear c0 c1 c2 c3 d0 d1 d2 d3 f0 f1 f2 f3
      have P6 := Ps.below b6
      have U6 := Us.below b6
      have V6 := Vs.below b6
      have L6 := bstep Ls b6
      clear Ps Us Vs Ls P5 U5 V5 L5 b6
      have Ps := P6.store npv m1 m2
      have Us := U6.other nuv m1 m2
      have Vs := V6.same m1 m2
      have Ls := below_store L6 hbv m1 m2
      have ⟨c0, c1, c2, c3⟩ := P6
      have ⟨d0, d1, d2, d3⟩ := U6
      have ⟨f0, f1, f2, f3⟩ := V6
      go_wp2_with fail
      refine (div_is HR.out _ IA.out IB.out).mono ?_
      rintro e w7 ⟨rfl, b7⟩
      clear c0 c1 c2 c3 d0 d1 d2 d3 f0 f1 f2 f3
      have P7 := Ps.below b7
      have U7 := Us.below b7
      have V7 := Vs.below b7
      have L7 := bstep Ls b7
      clear Ps Us Vs Ls P6 U6 V6 L6 b7
      have Ps := P7.store npu r1 r2
      have Us := U7.same r1 r2
      have Vs := V7.other nvu r1 r2
      have Ls := below_store L7 hbu r1 r2
      have ⟨c0, c1, c2, c3⟩ := P7
      have ⟨d0, d1, d2, d3⟩ := U7
      have ⟨f0, f1, f2, f3⟩ := V7
      go_wp2_with fail
      refine (rdiv_is HR.out _ IA.out IB.out).mono ?_
      rintro e w8 ⟨rfl, b8⟩
      clear c0 c1 c2 c3 d0 d1 d2 d3 f0 f1 f2 f3
      have P8 := Ps.below b8
      have U8 := Us.below b8
      have V8 := Vs.below b8
      have L8 := bstep Ls b8
      clear Ps Us Vs Ls P7 U7 V7 L7 b8
      have Ps := P8.store npv r1 r2
      have Us := U8.other nuv r1 r2
      have Vs := V8.same r1 r2
      have Ls := below_store L8 hbv r1 r2
      have Ts := hT.below Ls
      have S0 : (fun w' => w'.cell? ⟨bp, 0, none⟩ = some (.int .i64 p1) ∧ w'.cell? ⟨bp, 1, none⟩ = some (.int .i64 p2) ∧ w'.cell? ⟨bp, 2, none⟩ = some (.int .i64 p3) ∧ w'.cell? ⟨bp, 3, none⟩ = some (.int .i64 p4) ∧ w'.cell? ⟨bu, 0, none⟩ = some (.int .i64 r1) ∧ w'.cell? ⟨bu, 1, none⟩ = some (.int .i64 r2) ∧ w'.cell? ⟨bv, 0, none⟩ = some (.int .i64 r1) ∧ w'.cell? ⟨bv, 1, none⟩ = some (.int .i64 r2) ∧ RatT w' ∧ Below w.heap.size w w') ((w8.setCell ⟨bv, 0, none⟩ (.int .i64 r1)).setCell ⟨bv, 1, none⟩ (.int .i64 r2)) := ⟨Ps.1, Ps.2.1, Ps.2.2.1, Ps.2.2.2, Us.1, Us.2.1, Vs.1, Vs.2.1, Ts, Ls⟩
      have ⟨c0, c1, c2, c3⟩ := P8
      have ⟨d0, d1, d2, d3⟩ := U8
      have ⟨f0, f1, f2, f3⟩ := V8
      go_wp2_with fail
      clear c0 c1 c2 c3 d0 d1 d2 d3 f0 f1 f2 f3
      go_region_held3 (fun w' => w'.cell? ⟨bp, 0, none⟩ = some (.int .i64 p1) ∧ w'.cell? ⟨bp, 1, none⟩ = some (.int .i64 p2) ∧ w'.cell? ⟨bp, 2, none⟩ = some (.int .i64 p3) ∧ w'.cell? ⟨bp, 3, none⟩ = some (.int .i64 p4) ∧ w'.cell? ⟨bu, 0, none⟩ = some (.int .i64 r1) ∧ w'.cell? ⟨bu, 1, none⟩ = some (.int .i64 r2) ∧ w'.cell? ⟨bv, 0, none⟩ = some (.int .i64 r1) ∧ w'.cell? ⟨bv, 1, none⟩ = some (.int .i64 r2) ∧ RatT w' ∧ Below w.heap.size w w')
        (first | (exact keepE S0 (Below.refl _ _).drew) | (exact keepE (by assumption) hb))
        (first | (go_at_call 17; (with_reducible refine (less_is HL.out _ IA.out IB.out).mono ?_); rintro e w' ⟨rfl, hb⟩) | (go_at_call 18; (with_reducible refine (rless_is HL.out _ IA.out IB.out).mono ?_); rintro e w' ⟨rfl, hb⟩) | (go_at_call 19; (with_reducible refine (valid_is HV.out _ IA.out).mono ?_); rintro e w' ⟨rfl, hb⟩) | (go_at_call 20; (with_reducible refine (rvalid_is HV.out _ IA.out).mono ?_); rintro e w' ⟨rfl, hb⟩) | (go_at_call 21; (with_reducible refine (text_is HT.out _ ?_ IA.out.1 IA.out.2).mono ?_); exact tE (by assumption); rintro e w' ⟨rfl, hb⟩) | (go_at_call 22; (with_reducible refine (rtext_is HT.out _ ?_ IA.out.1 IA.out.2).mono ?_); exact tE (by assumption); rintro e w' ⟨rfl, hb⟩))
      rename_i SQ
      have TQ := tE SQ
      have LQ := SQ.2.2.2.2.2.2.2.2.2
      clear SQ S0
      go_wp2_with fail
      go_roundw
      case rel => exact ⟨k + 1, by omega, by go_num, TQ, LQ⟩
      case measure => simp [intOf]; omega
    · have hk4 : k = 4 := by omega
      subst hk4
      as_aux_lemma =>
      clear H0
      go_wp2_with fail
      refine (new_is hg1 _).mono ?_
      rintro e w1 ⟨rfl, b1⟩
      have L1 := bstep I2 b1
      have U1 := RatAt.new w1 g1 g2 23
      have L1a := L1.alloc L1.size (.cells #[.int .i64 g1, .int .i64 g2] 23)
      go_wp2_with fail
      refine (rnew_is hg2 _).mono ?_
      rintro e w2 ⟨rfl, b2⟩
      have U2 := U1.below b2
      have uz := U2.lt
      have ⟨u0, u1, _, _⟩ := U2
      have L2 := bstep L1a b2
      have L2a := L2.alloc L2.size (.cells #[.int .i64 g1, .int .i64 g2] 23)
      have T2 := hT.below L2a
      go_wp2_with fail
      refine (sane_any _ T2).mono ?_
      rintro e w3 ⟨rfl, b3⟩
      go_wp2_with fail
      go_ret
      exact ⟨rfl, bstep L2a b3⟩
end Go.Proofs.YtcannkndedlooaaDoor
