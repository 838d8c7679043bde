/- Numbers that are drawn from a list: Roll, Next, Span, Set. -/
import Derived.Test.YtnleelkdoagfcaaSpH
namespace Go.Proofs.Ytnleelkdoagfcaa
open Go.RowKit
set_option linter.unusedVariables false
set_option linter.unusedSimpArgs false

/-- Block g is a Dice over a slice, at a place. -/
def DiceAt (w : World) (g : Nat) (A : Option Addr) (n c : Nat) (p : Nat) : Prop := w.heap[g]? = some (.cells #[.slice A n c, .int .i64 (p : Int)] 51 (0, 0))
section
variable {w w' : World} {g n c p : Nat} {A : Option Addr}
theorem DiceAt.lt_ (h : DiceAt w g A n c p) : g < w.heap.size := by
  rcases Nat.lt_or_ge g w.heap.size with hlt | hge
  · exact hlt
  · unfold DiceAt at h; rw [Array.getElem?_eq_none hge] at h; cases h
theorem DiceAt.cells (h : DiceAt w g A n c p) : w.cell? ⟨g, 0, none⟩ = some (.slice A n c) ∧ w.cell? ⟨g, 1, none⟩ = some (.int .i64 (p : Int)) ∧ w.frozen? ⟨g, 1, none⟩ = false :=
  ⟨(cell_of_row w g 0 _ _ (0, 0) h).trans rfl, (cell_of_row w g 1 _ _ (0, 0) h).trans rfl, by unfold DiceAt at h; simp [World.frozen?, h]⟩
theorem DiceAt.drewN (h : DiceAt w g A n c p) (q : Nat) : DiceAt (w.drewN q) g A n c p := h
theorem DiceAt.below {B : Nat} (h : DiceAt w g A n c p) (hb : Below B w w') (hg : g < B) : DiceAt w' g A n c p := (hb.block g hg).trans h
theorem DiceAt.set_ (h : DiceAt w g A n c p) (q : Nat) : DiceAt (w.setCell ⟨g, 1, none⟩ (.int .i64 (q : Int))) g A n c q := by
  unfold DiceAt at h ⊢
  simp [World.setCell, Array.getElem?_modify, h]
theorem DiceAt.other (h : DiceAt w g A n c p) {i : Nat} (hi : 2 ≤ i) : w.cell? ⟨g, i, none⟩ = none :=
  (cell_of_row w g i _ _ (0, 0) h).trans (by simp; omega)
theorem DiceAt.ne_spans (h : DiceAt w g A n c p) {b off : Nat} {f t : Int} (h0 : w.cell? ⟨b, off, none⟩ = some (.int .i64 f)) (h1 : w.cell? ⟨b, off + 1, none⟩ = some (.int .i64 t)) : b ≠ g := by
  rintro rfl
  match off with
  | 0 => rw [h.cells.1] at h0; cases h0
  | off + 1 => rw [h.other (i := off + 1 + 1) (by omega)] at h1; cases h1
end
theorem SpansAt.grown {w w' : World} {g n c p : Nat} {A A' : Option Addr} {xs : Spn.L} (h : SpansAt w A xs) (hD : DiceAt w g A' n c p) (hg : w.grownBy w' (some g)) : SpansAt w' A xs := fun h0 => by
  obtain ⟨b, off, e, hlt, hc⟩ := h h0
  have c0 := hc 0 h0
  rw [Nat.zero_mul, Nat.add_zero] at c0
  have hne := hD.ne_spans c0.1 c0.2
  exact ⟨b, off, e, Nat.lt_of_lt_of_le hlt hg.size, fun k hk => ⟨(hg.cell_far ⟨b, off + k * 2, none⟩ hlt (fun e => hne (by injection e))).trans (hc k hk).1, (hg.cell_far ⟨b, off + k * 2 + 1, none⟩ hlt (fun e => hne (by injection e))).trans (hc k hk).2⟩⟩
theorem grown_trans {w w1 w2 : World} {row : Option Nat} (h : w.grownBy w1 row) (h2 : w1.grownBy w2 row) : w.grownBy w2 row :=
  ⟨h2.os.trans h.os, h2.tape.trans h.tape, h2.output.trans h.output, Nat.le_trans h.size h2.size, fun k hk hr => (h2.block k (Nat.lt_of_lt_of_le hk h.size) hr).trans (h.block k hk hr)⟩
theorem grown_then {w w1 w2 : World} {row : Option Nat} {B : Nat} (h : w.grownBy w1 row) (h2 : Below B w1 w2) (hB : w.heap.size ≤ B) : w.grownBy w2 row :=
  ⟨h2.os.trans h.os, h2.tape.trans h.tape, h2.output.trans h.output, Nat.le_trans h.size h2.size, fun k hk hr => (h2.block k (by omega)).trans (h.block k hk hr)⟩
theorem grown_refl (w : World) (row : Option Nat) : w.grownBy w row := World.grownBy.refl w row
theorem grown_drewN {w w1 : World} {row : Option Nat} (h : w.grownBy w1 row) (q : Nat) : w.grownBy (w1.drewN q) row := ⟨h.os, h.tape, h.output, h.size, h.block⟩
theorem IntsAt.grown {w w' : World} {A : Option Addr} {zs : List Int} {g : Nat} (h : IntsAt w A zs) (hg : w.grownBy w' (some g)) (hne : 0 < zs.length → ∀ ad, A = some ad → ad.block < g) : IntsAt w' A zs := fun h0 => by
  obtain ⟨b, off, e, hlt, hc⟩ := h h0
  have := hne h0 _ e
  simp only at this
  exact ⟨b, off, e, Nat.lt_of_lt_of_le hlt hg.size, fun k hk => (hg.cell_far ⟨b, off + k, none⟩ hlt (fun e => by injection e with e; simp only at e; omega)).trans (hc k hk)⟩

theorem grown_set (w : World) (g i : Nat) (u : Value) : w.grownBy (w.setCell ⟨g, i, none⟩ u) (some g) :=
  ⟨rfl, rfl, rfl, by simp, fun k hk hr => Below.heap_setCell w ⟨g, i, none⟩ u k (fun e => hr (by rw [e]))⟩
/-- What is known of a Dice and the list that it goes through. -/
structure Dice (w : World) (g : Nat) (A : Option Addr) (n c : Nat) (zs : List Int) : Prop where
  at_ : ∃ p, p ≤ n ∧ DiceAt w g A n c p
  len : zs.length = n
  le : n ≤ 500
  ints : IntsAt w A zs
  fits : ∀ z ∈ zs, -9223372036854775808 ≤ z ∧ z ≤ 9223372036854775807
  far : 0 < n → ∀ ad, A = some ad → ad.block < g
theorem Dice.lt_ {w : World} {g n c : Nat} {A : Option Addr} {zs : List Int} (h : Dice w g A n c zs) : g < w.heap.size := by obtain ⟨p, _, h⟩ := h.at_; exact h.lt_
theorem Dice.below {w w' : World} {g n c B : Nat} {A : Option Addr} {zs : List Int} (h : Dice w g A n c zs) (hb : Below B w w') (hg : g < B) : Dice w' g A n c zs := by
  obtain ⟨p, hp, hd⟩ := h.at_
  refine ⟨⟨p, hp, hd.below hb hg⟩, h.len, h.le, fun h0 => ?_, h.fits, h.far⟩
  obtain ⟨b, off, e, hlt, hc⟩ := h.ints h0
  have := h.far (by have := h.len; omega) _ e
  simp only at this
  exact ⟨b, off, e, Nat.lt_of_lt_of_le hlt hb.size, fun k hk => (hb.cell (p := ⟨b, off + k, none⟩) (by simp only; omega)).trans (hc k hk)⟩
theorem tmod_bd (y k : Int) (hk : 0 < k) : -k < y.tmod k ∧ y.tmod k < k := by
  have a := Int.tmod_lt_of_pos y hk
  have b := Int.lt_tmod_of_pos y hk
  exact ⟨b, a⟩
/-- What Next hands back. -/
def Drawn (m : Int) (w : World) (g : Nat) (A : Option Addr) (n c : Nat) (zs : List Int) (e : Ending) (w' : World) : Prop :=
  ∃ v, e = .returned (.int .i64 v) ∧ 0 ≤ v ∧ v < m ∧ w.grownBy w' (some g) ∧ Dice w' g A n c zs

set_option maxHeartbeats 2000000 in
theorem Next_any (g n c : Nat) (A : Option Addr) (zs : List Int) (m : Int) (w : World) (h : Dice w g A n c zs) (m1 : 1 ≤ m) (m2 : m ≤ 1000000) :
    Calls Try.prog 25 #[.pointer (some ⟨g, 0, none⟩), .int .i64 m] w (Drawn m w g A n c zs) := by
  obtain ⟨p, hp, hd⟩ := h.at_
  obtain ⟨d0, d1, d2⟩ := hd.cells
  have HD := Lib.hid hd
  have HH := Lib.hid h
  have n5 := h.le
  have hm0 : (m == 0) = false := by simp; omega
  have hm1 : decide (m < 1) = false := by simp; omega
  have hlen := h.len
  by_cases hpn : p = n
  · have e1 : decide ((n : Int) ≤ p) = true := by simp; omega
    have e2 : decide (n ≤ p) = true := by simp; omega
    clear hd h hlen hpn
    go_enter Try.func25, Try.ntmps25
    go_wp2_with fail
    go_quiet (fail)
    go_wp2_with fail
    go_ret
    exact ⟨0, rfl, by omega, by omega, grown_drewN (grown_refl _ _) _, ⟨⟨p, hp, HD.out⟩, HH.out.len, HH.out.le, HH.out.ints, HH.out.fits, HH.out.far⟩⟩
  · have e1 : decide ((n : Int) ≤ p) = false := by simp; omega
    have e2 : decide (n ≤ p) = false := by simp; omega
    obtain ⟨b, off, rfl, hb, hc⟩ := h.ints (by omega)
    have x0 := hc p (by omega)
    have hx := h.fits _ (Sps.getD_mem (l := zs) (k := p) (by omega))
    have hbg := h.far (by omega) _ rfl
    simp only at hbg
    obtain ⟨x, HX⟩ : ∃ x, Hid (zs.getD p 0 = x) := ⟨_, Lib.hid rfl⟩
    rw [HX.out] at x0 hx
    obtain ⟨x1, x2⟩ := hx
    have tb := tmod_bd x m (by omega)
    obtain ⟨tb1, tb2⟩ := tb
    have p0 : (0 : Int) ≤ p := by omega
    have p1 : (p : Int) < n := by omega
    have hlt := hd.lt_
    have hbne : b ≠ g := by omega
    clear hd h hlen hpn hc
    have fin : ∀ (v : Int) (W : World) (q : Nat), 0 ≤ v → v < m → W = (w.setCell ⟨g, 1, none⟩ (.int .i64 ((p : Int) + 1))).drewN q → Drawn m w g (some ⟨b, off, none⟩) n c zs (.returned (.int .i64 v)) W := fun v W q v0 v1 hW => by
      subst hW
      have hg : w.grownBy ((w.setCell ⟨g, 1, none⟩ (.int .i64 ((p : Int) + 1))).drewN q) (some g) := grown_drewN (grown_set w g 1 _) q
      exact ⟨v, rfl, v0, v1, hg, ⟨⟨p + 1, by omega, by have := HD.out.set_ (p + 1); exact this.drewN q⟩, HH.out.len, HH.out.le, HH.out.ints.grown hg (fun h0 => HH.out.far (by have := HH.out.len; omega)), HH.out.fits, HH.out.far⟩⟩
    have FIN := Lib.hid fin
    clear fin
    by_cases hneg : x.tmod m < 0
    all_goals
      go_enter Try.func25, Try.ntmps25
      go_wp2_with fail
      go_quiet (fail)
      go_wp2_with fail
      go_quiet (fail)
      go_wp2_with fail
      go_ret
      exact FIN.out _ _ _ (by omega) (by omega) rfl

theorem Light_any (A : Option Addr) (n c : Nat) (w : World) : Calls Try.prog 8 #[.slice A n c] w fun e w' => e = .returned (.bool (decide ((n : Int) ≤ 500))) ∧ w = w' := by
  go_enter Try.func8, Try.ntmps8
  go_wp2_with fail
  go_ret
  exact ⟨rfl, rfl⟩
theorem Roll_any (A : Option Addr) (n c : Nat) (w : World) : Calls Try.prog 10 #[.slice A n c] w fun e w' => e = .returned (.pointer (some ⟨w.heap.size, 0, none⟩)) ∧ w' = w.alloc (.cells #[.slice A n c, .int .i64 0] 51) := by
  go_enter Try.func10, Try.ntmps10
  go_wp2_with fail
  go_ret
  exact ⟨rfl, rfl⟩
/-- What Span hands back. -/
def Spanned (w : World) (g : Nat) (A : Option Addr) (n c : Nat) (zs : List Int) (e : Ending) (w' : World) : Prop :=
  ∃ f t, e = .returned (.agg #[.int .i64 f, .int .i64 t]) ∧ 0 ≤ f ∧ f ≤ 59 ∧ f - 1 ≤ t ∧ t ≤ 66 ∧ w.grownBy w' (some g) ∧ Dice w' g A n c zs
theorem own2g {w wr : World} {a b : Value} {T : TypeId} {g : Nat} (hg : g ≠ w.heap.size) (hB : (w.alloc (.cells #[a, b] T)).grownBy wr (some g)) :
    wr.cell? ⟨w.heap.size, 0, none⟩ = some a ∧ wr.cell? ⟨w.heap.size, 1, none⟩ = some b ∧ wr.frozen? ⟨w.heap.size, 0, none⟩ = false ∧ wr.frozen? ⟨w.heap.size, 1, none⟩ = false ∧ w.heap.size < wr.heap.size :=
  have hne : ∀ i, some (Addr.mk w.heap.size i none).block ≠ some g := fun i e => hg (by injection e with e; exact e.symm)
  ⟨(hB.cell_far ⟨w.heap.size, 0, none⟩ (by simp) (hne 0)).trans (by simp), (hB.cell_far ⟨w.heap.size, 1, none⟩ (by simp) (hne 1)).trans (by simp), (hB.frozen_far ⟨w.heap.size, 0, none⟩ (by simp) (hne 0)).trans (by simp), (hB.frozen_far ⟨w.heap.size, 1, none⟩ (by simp) (hne 1)).trans (by simp), by have := hB.size; simp at this; omega⟩

set_option maxHeartbeats 2000000 in
theorem Span_any (g n c : Nat) (A : Option Addr) (zs : List Int) (w : World) (h : Dice w g A n c zs) :
    Calls Try.prog 35 #[.pointer (some ⟨g, 0, none⟩)] w (Spanned w g A n c zs) := by
  have hgw := h.lt_
  have D1 := h.below ((Below.refl w.heap.size w).alloc (Nat.le_refl _) (.cells #[.int .i64 0, .int .i64 0] 47)) hgw
  have N1 := Next_any g n c A zs 60 _ D1 (by omega) (by omega)
  clear h
  go_enter Try.func35, Try.ntmps35
  go_wp2_with fail
  refine N1.mono ?_
  rintro e w1 ⟨f, rfl, f0, f1, g1, D2⟩
  have N2 := Next_any g n c A zs 9 _ D2 (by omega) (by omega)
  go_wp2_with fail
  refine N2.mono ?_
  rintro e w2 ⟨k, rfl, k0, k1, g2, D3⟩
  have g12 := grown_trans g1 g2
  obtain ⟨q0, q1, z0, z1, hz⟩ := own2g (by omega) g12
  clear N1 N2 D1 D2
  go_wp2_with fail
  refine bodyPost_ret (v := .agg #[.int .i64 f, .int .i64 (f + k - 1)]) (by simp [results, Try.results35, go_sem, q0, q1, z0, z1, hz]) rfl ?_
  have hB : Below w.heap.size (w.alloc (.cells #[.int .i64 0, .int .i64 0] 47)) (w.alloc (.cells #[.int .i64 0, .int .i64 0] 47)) := Below.refl _ _
  have hS : Below w.heap.size w2 ((w2.setCell ⟨w.heap.size, 0, none⟩ (.int .i64 f)).setCell ⟨w.heap.size, 1, none⟩ (.int .i64 (f + k - 1))) := ((Below.refl _ _).setCell (by exact Nat.le_refl _) _).setCell (by exact Nat.le_refl _) _
  refine ⟨f, f + k - 1, rfl, f0, by omega, by omega, by omega, ?_, D3.below hS hgw⟩
  exact grown_then (grown_trans (World.grownBy_alloc w _ _) g12) hS (Nat.le_refl _)

theorem Own.grown {w w' : World} {B g : Nat} {v : Value} {ys : Spn.L} (h : Own w B v ys) (hg : w.grownBy w' (some g)) (hlt : g < B) : Own w' B v ys :=
  World.ownsRow.kept h hg (.inr fun e => by have := (World.ownsRow.lt h g e).1; omega)
/-- A set of small numbers. -/
def Small (r : Spn.L) : Prop := Spn.vld r = true ∧ ∀ s ∈ r, s.2 ≤ 66
theorem chain_short {lo hi : Int} : ∀ (r : Spn.L), Spn.Chain r → (∀ s ∈ r, lo ≤ s.1 ∧ s.2 ≤ hi) → lo ≤ hi → 2 * (r.length : Int) ≤ hi - lo + 1
  | [], _, _, h => by simp; omega
  | s :: r, hc, hb, h => by
    obtain ⟨a, b, c⟩ := Spn.chain_cons.1 hc
    have hs := hb s (by simp)
    by_cases he : r = []
    · subst he; simp; omega
    · have := chain_short (lo := s.2 + 1) (hi := hi) r c (fun t ht => ⟨by have := b t ht; omega, (hb t (by simp [ht])).2⟩) (by
        obtain ⟨t, ht⟩ := List.exists_mem_of_ne_nil r he
        have := b t ht; have := (hb t (by simp [ht])).2; have := c.1 t ht; omega)
      simp only [List.length_cons]
      omega
theorem norm_small {l r : Spn.L} (h : Spn.Norm l r) (hl : ∀ s ∈ l, 0 ≤ s.1 ∧ s.2 ≤ 66) : Small r := by
  have hb : ∀ s ∈ r, 0 ≤ s.1 ∧ s.2 ≤ 66 := fun s hs => by
    have hlt := h.1.1 s hs
    obtain ⟨t, ht, a, b⟩ := (h.2 s.1).1 ⟨s, hs, by omega, by omega⟩
    obtain ⟨u, hu, a', b'⟩ := (h.2 (s.2 - 1)).1 ⟨s, hs, by omega, by omega⟩
    have := hl t ht; have := hl u hu
    exact ⟨by omega, by omega⟩
  have hlen := chain_short (lo := 0) (hi := 66) r h.1 hb (by omega)
  exact ⟨(Spn.vld_iff r).2 ⟨by omega, fun s hs => ⟨(hb s hs).1, by have := (hb s hs).2; omega⟩, h.1⟩, fun s hs => (hb s hs).2⟩
/-- What Set hands back. -/
def SetOf (w : World) (g : Nat) (A : Option Addr) (n c : Nat) (zs : List Int) (e : Ending) (w' : World) : Prop :=
  ∃ R cr r, e = .returned (.slice R (List.length r) cr) ∧ SpansAt w' R r ∧ Small r ∧ w.grownBy w' (some g) ∧ Dice w' g A n c zs

set_option maxHeartbeats 4000000 in
theorem Set_any (g n c : Nat) (A : Option Addr) (zs : List Int) (w : World) (h : Dice w g A n c zs) :
    Calls Try.prog 11 #[.pointer (some ⟨g, 0, none⟩)] w (SetOf w g A n c zs) := by
  have hgw := h.lt_
  have N1 := Next_any g n c A zs 7 _ h (by omega) (by omega)
  clear h
  go_enter Try.func11, Try.ntmps11
  go_wp2_with fail
  refine N1.mono ?_
  rintro e w1 ⟨i0, rfl, i1, i2, g1, D1⟩
  clear N1
  go_wp2_with fail
  go_loopw [3, 4] (fun v i wr => ∃ (k : Int) (ys : Spn.L), i = .int .i64 k ∧ 0 ≤ k ∧ k + ys.length ≤ 6 ∧ Own wr w.heap.size v ys ∧ Hid (∀ s ∈ ys, 0 ≤ s.1 ∧ s.1 < s.2 ∧ s.2 ≤ 66) ∧ w.grownBy wr (some g) ∧ Dice wr g A n c zs) (fun _ i _ => (intOf i).toNat)
  case atStart => exact ⟨i0, [], rfl, i1, by simp; omega, Own.nil_ _ _, Lib.hid (fun s hs => by cases hs), g1, D1⟩
  case round =>
    clear g1 D1
    obtain ⟨k, ys, rfl, k0, k6, hO, HB, hG, hD⟩ := hrel
    by_cases hk : 0 < k
    · have S1 := Span_any g n c A zs wr hD
      go_wp2_with fail
      refine S1.mono ?_
      rintro e w2 ⟨f, t, rfl, f0, f1, t0, t1, g2, D2⟩
      have hO2 := hO.grown g2 hgw
      have G2 := grown_trans hG g2
      have hz2 := G2.size
      clear S1 hO g2 hD hG
      have hyl : ys.length ≤ 1000000 := by omega
      by_cases hft : f < t
      · go_wp2_with (at_builtin; refine wp_append_span _ rfl _ _ rfl w.heap.size _ ys rfl ((hO2.alloc _).alloc _) (w2.heap.size + 1) f t rfl (cell_new0 (by simp)) (cell_new1 (by simp)) hyl (by simp; omega) ?_; intro gg cap w3 hO3 hB3 _ _)
        have hB4 : Below w.heap.size w2 w3 := (((Below.refl w.heap.size w2).alloc hz2 _).alloc (by simp; omega) _).trans hB3
        go_wp2_with fail
        go_roundw
        case rel => exact ⟨k - 1, _, rfl, by omega, by simp; omega, hO3, Lib.hid (fun s hs => by
            rcases List.mem_append.1 hs with hs | hs
            · exact HB.out s hs
            · simp only [List.mem_singleton] at hs; subst hs; exact ⟨f0, hft, by simp only; omega⟩), grown_then G2 hB4 (Nat.le_refl _), D2.below hB4 hgw⟩
        case measure => simp [intOf]; omega
      · have hB4 : Below w.heap.size w2 (w2.alloc (.cells #[.int .i64 f, .int .i64 t] 47)) := (Below.refl w.heap.size w2).alloc hz2 _
        go_wp2_with fail
        go_roundw
        case rel => exact ⟨k - 1, ys, rfl, by omega, by omega, hO2.alloc _, HB, grown_then G2 hB4 (Nat.le_refl _), D2.below hB4 hgw⟩
        case measure => simp [intOf]; omega
    · obtain ⟨A1, c1, rfl, hS⟩ := hO.shape
      have hfit : Fits ys := fun s hs => by have := HB.out s hs; exact ⟨⟨by omega, by omega⟩, by omega, by omega⟩
      have R1 := RNormal_any A1 _ c1 ys wr hS hfit rfl (by omega)
      obtain ⟨L, HL⟩ : ∃ L, Hid (ys.length = L) := ⟨_, Lib.hid rfl⟩
      rw [HL.out] at R1 k6 ⊢
      have HR1 := Lib.hid R1
      clear R1 hO
      go_wp2_with fail
      refine HR1.out.mono ?_
      rintro e w3 ⟨r, er, HNR, A2, c2, rfl, hS2, hB⟩
      have hsm : Small r := by
        rcases HNR.out with ⟨a, -, -⟩ | ⟨-, ⟨s, hs, h1, h2⟩, -, -⟩ | ⟨-, -, hn, -⟩
        · have := HL.out; omega
        · have := HB.out s hs; omega
        · exact norm_small hn fun s hs => by have := HB.out s hs; omega
      have HSM := Lib.hid hsm
      have G3 := grown_then hG hB hG.size
      have D3 := hD.below hB hD.lt_
      clear hsm HR1 hB hG hD
      go_wp2_with fail
      go_ret
      exact ⟨A2, c2, r, rfl, hS2, HSM.out, G3, D3⟩
end Go.Proofs.Ytnleelkdoagfcaa
