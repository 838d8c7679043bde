/- The law SpanForms returns true for all lists and numbers. -/
import Derived.Test.YtnleelkdoagfcaaSpW
import Derived.IntWalk
namespace Go.Proofs.Ytnleelkdoagfcaa
open Go.RowKit
set_option linter.unusedVariables false
set_option linter.unusedSimpArgs false

/-- append of some spans, at a step of a region that draws its order. -/
theorem step_append_spans {ops : Array Oper} {o : Oper} {a : Act} {K : Act → World → Prop} {Q : Exit → Act → World → Prop} {E : Prop} (w : World) (hgd : o.guard = none) (s x : Operand)
    (ho : o.op = .call { callee := .builtin .append, args := #[s, x], argTypes := #[22, 22] }) (B : Nat) (v : Value) (ys : Spn.L) (hs : a.eval s = v) (hown : Own w B v ys)
    (blk m : Nat) (zs : Spn.L) (hm : zs.length = m) (h0 : 0 < m) (hx : a.eval x = .slice (some ⟨blk, 0, none⟩) m m) (hb : w.heap[blk]? = some (.cells (enc zs).toArray 47 (0, 0)))
    (hlen : ys.length + m ≤ 1000000) (hB : B ≤ w.heap.size)
    (h : ∀ v' w', Own w' B v' (ys ++ zs) → Below B w w' → w.grownBy w' v.ownBlock → K (a.put o.dst v') w') :
    if Region.wanted o (yielded ops a.tmps) = true then Oper.wp Try.prog o a w K Q else E := by
  obtain ⟨i0, hi0, hz0, hz1, hz2⟩ := info_parts info47
  refine step_append_lies w hgd s x 22 ho B 47 i0 _ 2 16 Try.underlying22 hi0 hz0 hz1 hz2 rfl (by omega) v ys.length (enc ys) hs hown ⟨blk, 0, none⟩ m m (enc zs) hx (by rw [enc_len, hm]) ?_ ?_ h0 (by simp only [maxLen]; omega) (by omega) hB _ rfl ?_
  · intro j u hu
    exact World.news_of_block hb j u (by simpa using hu)
  · intro u hu
    simp only [enc, List.mem_flatMap] at hu
    obtain ⟨s, -, hu⟩ := hu
    exact one_cells _ _ u hu
  · intro g cap w' h1 h2 h3 h4
    refine h _ w' ?_ ((Below.refl B w).grown h2 hB (fun k hk => (World.ownsRow.lt hown k hk).1)) h2
    unfold Own
    rw [List.length_append, hm]
    have e : enc (ys ++ zs) = enc ys ++ enc zs := by simp [enc]
    rw [e]
    exact h1

/-- the pieces of the spans from j on. -/
structure Cut (r : Spn.L) (j : Nat) (ys : Spn.L) : Prop where
  cov : ∀ x, Spn.cov ys x ↔ Spn.cov (r.drop j) x
  ok : ∀ s ∈ ys, s.1 < s.2 → 0 ≤ s.1 ∧ s.2 ≤ 66
  len : ys.length + 3 * j = 3 * r.length
theorem Cut.start (r : Spn.L) : Cut r r.length [] := ⟨fun x => by simp, (fun s hs => by cases hs), by simp⟩
theorem Cut.step {r ys : Spn.L} {q : Nat} {f t m c : Int} (h : Cut r (q + 1) ys) (hq : q < r.length) (hs : r.getD q (0, 0) = (f, t)) (hf : 0 ≤ f) (ht : t ≤ 66) (h1 : f ≤ m) (h2 : m ≤ t) : Cut r q (ys ++ [(m, t), (f, m), (c, c - 1)]) := by
  refine ⟨fun x => ?_, fun s hs => ?_, by have := h.len; simp; omega⟩
  · rw [Spn.cov_append, h.cov x, Spn.drop_cons r q (0, 0) hq, hs, Spn.cov_cons]
    simp only [Spn.cov_cons, Spn.cov_nil, or_false]
    constructor
    · rintro (h | h | h | h)
      · exact .inr h
      · exact .inl (by omega)
      · exact .inl (by omega)
      · omega
    · rintro (h | h)
      · by_cases hx : x < m
        · exact .inr (.inr (.inl (by omega)))
        · exact .inr (.inl (by omega))
      · exact .inl h
  · intro hlt
    rcases List.mem_append.1 hs with hs | hs
    · exact h.ok s hs hlt
    · simp only [List.mem_cons, List.not_mem_nil, or_false] at hs
      rcases hs with rfl | rfl | rfl <;> simp only at hlt ⊢ <;> omega

set_option maxHeartbeats 8000000 in
set_option maxRecDepth 100000 in
theorem forms_law (A : Option Addr) (n c : Nat) (zs : List Int) (x : Int) (w : World) (hA : IntsAt w A zs) (hn : zs.length = n) (hf : ∀ z ∈ zs, -9223372036854775808 ≤ z ∧ z ≤ 9223372036854775807) (x1 : -9223372036854775808 ≤ x) (x2 : x ≤ 9223372036854775807) :
    Calls Try.prog 6 #[.slice A n c, .int .i64 x] w fun e w' => e = .returned (.bool true) ∧ Below w.heap.size w w' := by
  have HL := Light_any A n c w
  by_cases h5 : (n : Int) ≤ 500
  · rw [decide_eq_true h5] at HL
    have hD := Dice.start (c := c) hA hn (by omega) hf
    have hR := Roll_any A n c w
    have B1 := (Below.refl w.heap.size w).alloc (Nat.le_refl _) (.cells #[.slice A n c, .int .i64 0] 51)
    have hS := Set_any _ _ _ _ _ _ hD
    have tb := tmod_bd x 50 (by omega)
    obtain ⟨tb1, tb2⟩ := tb
    clear hA hn hf
    go_enter Try.func6, Try.ntmps6
    go_wp2_with fail
    refine HL.mono ?_
    rintro e w1 ⟨rfl, rfl⟩
    go_wp2_with fail
    refine hR.mono ?_
    rintro e w1 ⟨rfl, rfl⟩
    go_wp2_with fail
    refine hS.mono ?_
    rintro e w2 ⟨R, cr, r, rfl, SR, SM, G2, D2⟩
    have B2 := below_of_grown B1 G2 (by simp) (Nat.le_refl _)
    have hall := Spn.vld_all SM.1
    have hch := ((Spn.vld_iff r).1 SM.1).2.2
    have hsh := chain_short (lo := 0) (hi := 66) r hch (fun s hs => ⟨(hall s hs).1, SM.2 s hs⟩) (by omega)
    have HV := Lib.hid SM.1
    have H66 := Lib.hid SM.2
    have HALL := Lib.hid hall
    obtain ⟨L, HLEN⟩ : ∃ L, Hid (r.length = L) := ⟨_, Lib.hid rfl⟩
    rw [HLEN.out] at hsh ⊢
    have hL40 : (L : Int) ≤ 40 := by omega
    clear hS hR HL hD D2 G2 SM B1 hall hch hsh
    go_wp2_with fail
    go_loopw [7, 8] (fun v i wr => ∃ (j : Nat) (ys : Spn.L), i = .int .i64 ((j : Int) - 1) ∧ j ≤ L ∧ Own wr w2.heap.size v ys ∧ Hid (Cut r j ys) ∧ Below w2.heap.size w2 wr) (fun _ i _ => (intOf i + 1).toNat)
    case atStart => exact ⟨L, [], rfl, Nat.le_refl _, Own.nil_ _ _, Lib.hid (by rw [← HLEN.out]; exact Cut.start r), Below.refl _ _⟩
    case round =>
      obtain ⟨j, ys, rfl, hj, hO, HC, hW⟩ := hrel
      have hyl := HC.out.len
      rw [HLEN.out] at hyl
      by_cases hj0 : 0 < j
      · obtain ⟨q, rfl⟩ : ∃ q, j = q + 1 := ⟨j - 1, by omega⟩
        rw [show ((q + 1 : Nat) : Int) - 1 = (q : Int) by omega]
        obtain ⟨b, off, rfl, hb, hc⟩ := SR (by have := HLEN.out; omega)
        obtain ⟨c0, c1⟩ := hc q (by have := HLEN.out; omega)
        have c0' := (bcell hW _ _ hb).trans c0
        have c1' := (bcell hW _ _ hb).trans c1
        clear hc c0 c1
        have hmem := Spn.getD_mem (l := r) (k := q) (by have := HLEN.out; omega)
        have ha := HALL.out _ hmem
        have h6 := H66.out _ hmem
        obtain ⟨⟨f, t⟩, HS⟩ : ∃ s : Int × Int, Hid (r.getD q (0, 0) = s) := ⟨_, Lib.hid rfl⟩
        rw [HS.out] at c0' c1' ha h6
        obtain ⟨f0, f1, f2⟩ := ha
        simp only at c0' c1' f0 f1 f2 h6
        have hM := fun W => Mod_any x (1 + t - f) W x1 x2 (by omega) (by omega)
        have m1 := Int.emod_nonneg x (show 1 + t - f ≠ 0 by omega)
        have m2 := Int.emod_lt_of_pos x (show 0 < 1 + t - f by omega)
        generalize x % (1 + t - f) = mm at hM m1 m2
        obtain ⟨m, hm⟩ : ∃ m, m = f + mm := ⟨_, rfl⟩
        have hcut := fun cc => HC.out.step (c := cc) (m := m) (by have := HLEN.out; omega) HS.out f0 h6 (by omega) (by omega)
        have HCUT := Lib.hid hcut
        have HMM := Lib.hid hM
        have q0 : (0 : Int) ≤ q := by omega
        have q1 : (q : Int) < L := by omega
        have hlb := Nat.lt_of_lt_of_le hb hW.size
        have hwz := hW.size
        have hyl3 : ys.length + 3 ≤ 1000000 := by omega
        have mb : m ≤ 66 ∧ 0 ≤ m := by omega
        have ew1 : IntKind.i64.wrap (1 + t) = 1 + t := IntWalk.i64_in _ (by omega)
        have ew2 : IntKind.i64.wrap (1 + t - f) = 1 + t - f := IntWalk.i64_in _ (by omega)
        have ew3 : IntKind.i64.wrap (f + mm) = m := by rw [IntWalk.i64_in _ (by omega)]; omega
        obtain ⟨cm, hcm⟩ : ∃ z, z = x.tmod 50 := ⟨_, rfl⟩
        have ew4 : IntKind.i64.wrap (x.tmod 50) = cm := by rw [hcm]; exact IntWalk.i64_in _ (by omega)
        have ew5 : IntKind.i64.wrap (cm - 1) = cm - 1 := IntWalk.i64_in _ (by omega)
        have ew6 : x.tmod 50 = cm := hcm.symm
        clear hcut hM hcm hm hyl m1 m2
        go_wp2_with fail
        go_quiet ((go_at_call 34; with_reducible exact qsame (HMM.out _)))
        go_wp2_with fail
        go_region_held3 (fun W => W.cell? ⟨b, off + q * 2, none⟩ = some (.int .i64 f) ∧ W.cell? ⟨b, off + q * 2 + 1, none⟩ = some (.int .i64 t)) (first | (exact ⟨c0', c1'⟩) | go_keep | (exact ⟨keepc hB2 hb hlb rfl c0', keepc hB2 hb hlb rfl c1'⟩))
          ((refine step_append_spans _ (by rfl) _ _ (by rfl) w2.heap.size _ ys (by rfl) (by exact hO.alloc _) wr.heap.size 3 [(m, t), (f, m), (cm, cm - 1)] (by rfl) (by omega) (by rfl) (by exact heap_alloc_new wr _) hyl3 (by simp; omega) ?_; intro v' w3 hO2 hB2 _))
        have hBn : Below w2.heap.size w2 w3 := (below_drewN (hW.alloc hW.size _) _).trans hB2
        clear ew1 ew2 ew3 ew4 ew5 ew6
        go_wp2_with fail
        go_roundw
        case rel => exact ⟨q, _, rfl, by omega, hO2, Lib.hid (HCUT.out cm), hBn⟩
        case measure => simp [intOf]
      · obtain rfl : j = 0 := by omega
        have hcov := HC.out.cov
        have hok := HC.out.ok
        obtain ⟨A3, c3, rfl, hS3⟩ := hO.shape
        have N1 := Normal_any A3 _ c3 ys wr hS3 rfl (by omega)
        obtain ⟨Ly, HLY⟩ : ∃ z, Hid (ys.length = z) := ⟨_, Lib.hid rfl⟩
        rw [HLY.out] at N1 hyl ⊢
        have HN1 := Lib.hid N1
        have hnb : ¬ Spn.Bad ys := by
          rintro ⟨s, hs, h1, h2⟩
          have := hok s hs h1; omega
        have hnb2 : ¬ Spn.Bad r := by
          rintro ⟨s, hs, h1, h2⟩
          have := HALL.out s hs; omega
        have g1 : Spn.NR ys r 0 := .inr (.inr ⟨by have := HLY.out; omega, hnb, ⟨((Spn.vld_iff r).1 HV.out).2.2, fun x => by rw [hcov x, List.drop_zero]⟩, rfl⟩)
        have g2 : Spn.NR r r 0 := .inr (.inr ⟨by have := HLEN.out; omega, hnb2, ⟨((Spn.vld_iff r).1 HV.out).2.2, fun x => Iff.rfl⟩, rfl⟩)
        have G1 := Lib.hid g1
        have G2 := Lib.hid g2
        clear g1 g2 hnb hnb2 hcov hok N1 hO
        have SRr := SR.below hW
        have Bw := bstep B2 hW
        rw [show ((0 : Nat) : Int) - 1 = -1 by omega]
        go_wp2_with fail
        refine HN1.out.mono ?_
        rintro e w3 ⟨r1, e1, HR1, A4, c4, rfl, S4, b4⟩
        obtain ⟨rfl, rfl⟩ := HR1.out.uniq G1.out
        have SR4 := SRr.below b4
        have Bw4 := bstep Bw b4
        rw [HLEN.out]
        clear HN1 hS3 b4 SRr Bw HR1 G1
        have N2 := Normal_any R L cr r1 w3 SR4 HLEN.out (by omega)
        go_wp2_with fail
        refine N2.mono ?_
        rintro e w4 ⟨r2, e2, HR2, A5, c5, rfl, S5, b5⟩
        obtain ⟨rfl, rfl⟩ := HR2.out.uniq G2.out
        rw [HLEN.out]
        have SR5 := SR4.below b5
        have S45 := S4.below b5
        have Bw5 := bstep Bw4 b5
        clear N2 S4 SR4 b5 Bw4 HR2 G2
        have E1 := same_any A4 R L L c4 cr _ _ w4 S45 SR5 HLEN.out HLEN.out (by omega) (by omega)
        rw [decide_eq_true rfl] at E1
        go_wp2_with fail
        refine E1.mono ?_
        rintro e w5 ⟨rfl, b6⟩
        have E2 := same_any A5 R L L c5 cr _ _ w5 (S5.below b6) (SR5.below b6) HLEN.out HLEN.out (by omega) (by omega)
        rw [decide_eq_true rfl] at E2
        have Bw6 := bstep Bw5 b6
        go_wp2_with fail
        refine E2.mono ?_
        rintro e w6 ⟨rfl, b7⟩
        have Bw7 := bstep Bw6 b7
        go_wp2_with fail
        refine (sane_any w6).mono ?_
        rintro e w7 ⟨rfl, b8⟩
        have Bw8 := bstep Bw7 b8
        go_wp2_with fail
        go_ret
        exact ⟨rfl, Bw8⟩
  · rw [decide_eq_false h5] at HL
    clear hA hn hf h5
    go_enter Try.func6, Try.ntmps6
    go_wp2_with fail
    refine HL.mono ?_
    rintro e w1 ⟨rfl, rfl⟩
    go_wp2_with fail
    refine (sane_any w).mono ?_
    rintro e w2 ⟨rfl, b2⟩
    go_wp2_with fail
    go_ret
    exact ⟨rfl, b2⟩
end Go.Proofs.Ytnleelkdoagfcaa
