/- Rows of pairs in memory; the comparison of two occurrences; exchanging two ranges. -/
import Derived.Test.YtndngkfiamdohaaDoorZci
import Derived.Test.YtndngkfiamdohaaDoorZso
import Derived.Test.YtndngkfiamdohaaDoorShelf
import Derived.IntWalk
import Derived.BigRegion
import Derived.Deep.LoopGhost
namespace Go.Proofs.YtndngkfiamdohaaDoor
open Go.RowKit
set_option linter.unusedVariables false
set_option linter.unusedSimpArgs false

/-- The cells of block g hold these pairs, from its head on, and none of them is frozen. -/
def RowAt (w : World) (g : Nat) (ds : Zs.L) : Prop :=
  g < w.heap.size ∧ ∀ k, k < ds.length → w.cell? ⟨g, k * 2, none⟩ = some (.int .i64 (ds.getD k (0, 0)).1) ∧ w.cell? ⟨g, k * 2 + 1, none⟩ = some (.int .i64 (ds.getD k (0, 0)).2) ∧ w.frozen? ⟨g, k * 2, none⟩ = false ∧ w.frozen? ⟨g, k * 2 + 1, none⟩ = false
section
variable {w w' : World} {g : Nat} {ds : Zs.L}
theorem RowAt.below {B : Nat} (h : RowAt w g ds) (hb : Below B w w') (hg : g < B) : RowAt w' g ds :=
  ⟨Nat.lt_of_lt_of_le h.1 hb.size, fun k hk => by
    obtain ⟨a, b, c, d⟩ := h.2 k hk
    exact ⟨(hb.cell (p := ⟨g, k * 2, none⟩) hg).trans a, (hb.cell (p := ⟨g, k * 2 + 1, none⟩) hg).trans b, (hb.frozen (p := ⟨g, k * 2, none⟩) hg).trans c, (hb.frozen (p := ⟨g, k * 2 + 1, none⟩) hg).trans d⟩⟩
theorem RowAt.alloc (h : RowAt w g ds) (o : Obj) : RowAt (w.alloc o) g ds := h.below ((Below.refl _ _).alloc (Nat.le_refl _) o) h.1
theorem RowAt.drewN (h : RowAt w g ds) (q : Nat) : RowAt (w.drewN q) g ds := h
theorem RowAt.drew (h : RowAt w g ds) : RowAt w.drew g ds := h
theorem getD_set (ds : Zs.L) (q k : Nat) (s : Int × Int) (hq : q < ds.length) : (ds.set q s).getD k (0, 0) = if k = q then s else ds.getD k (0, 0) := by
  simp only [List.getD, List.getElem?_set]
  by_cases e : q = k
  · subst e; simp [hq]
  · simp [e, Ne.symm e]
theorem RowAt.set_ (h : RowAt w g ds) {q : Nat} (hq : q < ds.length) (f t : Int) : RowAt ((w.setCell ⟨g, q * 2, none⟩ (.int .i64 f)).setCell ⟨g, q * 2 + 1, none⟩ (.int .i64 t)) g (ds.set q (f, t)) := by
  refine ⟨by simpa using h.1, fun k hk => ?_⟩
  rw [List.length_set] at hk
  obtain ⟨a, b, c, d⟩ := h.2 k hk
  obtain ⟨a', b', -, -⟩ := h.2 q hq
  rw [getD_set ds q k _ hq]
  simp only [World.frozen?_setCell]
  refine ⟨?_, ?_, c, d⟩
  · rw [World.cell?_setCell_other _ _ _ _ (by intro e; injection e with _ e; omega)]
    by_cases e : k = q
    · subst e; rw [if_pos rfl]; exact World.cell?_setCell_same _ _ _ a'
    · rw [if_neg e, World.cell?_setCell_other _ _ _ _ (by intro e2; injection e2 with _ e2; omega)]; exact a
  · by_cases e : k = q
    · subst e; rw [if_pos rfl]
      exact World.cell?_setCell_same _ _ _ ((World.cell?_setCell_other _ _ _ _ (by intro e; injection e with _ e; omega)).trans b')
    · rw [if_neg e, World.cell?_setCell_other _ _ _ _ (by intro e2; injection e2 with _ e2; omega), World.cell?_setCell_other _ _ _ _ (by intro e2; injection e2 with _ e2; omega)]; exact b
end
/-- The world's row is ds, and nothing below it has changed. -/
def Sor (w : World) (g : Nat) (W : World) (ds : Zs.L) : Prop := RowAt W g ds ∧ ∀ B, B ≤ g → Below B w W
theorem Sor.start {w : World} {g : Nat} {ds : Zs.L} (h : RowAt w g ds) : Sor w g w ds := ⟨h, fun _ _ => Below.refl _ _⟩
theorem Sor.trans {w w1 w2 : World} {g : Nat} {ds d2 : Zs.L} (h : Sor w g w1 ds) (h2 : Sor w1 g w2 d2) : Sor w g w2 d2 := ⟨h2.1, fun B hB => (h.2 B hB).trans (h2.2 B hB)⟩
theorem Sor.grown {w w1 w2 : World} {g : Nat} {ds : Zs.L} (h : Sor w g w1 ds) (h2 : Below w1.heap.size w1 w2) : Sor w g w2 ds :=
  ⟨h.1.below h2 h.1.1, fun B hB => (h.2 B hB).trans (h2.mono (by have := h.1.1; omega))⟩

theorem Sor.drew {w w1 : World} {g : Nat} {ds : Zs.L} (h : Sor w g w1 ds) : Sor w g w1.drew ds := ⟨h.1, fun B hB => (h.2 B hB).drew⟩
/-- What stands at two places, and what is there behind an exchange. -/
theorem swapped {w W : World} {g : Nat} {ds : Zs.L} (h : Sor w g W ds) {i j : Nat} (hi : i < ds.length) (hj : j < ds.length) {x1 x2 y1 y2 : Int} (hx : ds.getD i (0, 0) = (x1, x2)) (hy : ds.getD j (0, 0) = (y1, y2)) :
    Sor w g ((((W.setCell ⟨g, i * 2, none⟩ (.int .i64 y1)).setCell ⟨g, i * 2 + 1, none⟩ (.int .i64 y2)).setCell ⟨g, j * 2, none⟩ (.int .i64 x1)).setCell ⟨g, j * 2 + 1, none⟩ (.int .i64 x2)) (Zs.sw ds i j) := by
  refine ⟨?_, fun B hB => ((((h.2 B hB).setCell hB _).setCell hB _).setCell hB _).setCell hB _⟩
  unfold Zs.sw
  rw [hx, hy]
  exact (h.1.set_ hi y1 y2).set_ (by rw [List.length_set]; exact hj) x1 x2

set_option maxHeartbeats 4000000 in
set_option maxRecDepth 100000 in
theorem swr_any (g cap len a b n : Nat) (F : Value) (P X M Y S : Zs.L) (w : World) (hR : RowAt w g (P ++ (X ++ (M ++ (Y ++ S))))) (hl : P.length + X.length + M.length + Y.length + S.length = len) (hn : len ≤ 100000)
    (ha : P.length = a) (hx : X.length = n) (hy : Y.length = n) (hb : a + n + M.length = b) :
    Calls Tryd.prog 87 #[.slice (some ⟨g, 0, none⟩) len cap, .int .i64 a, .int .i64 b, .int .i64 n, F] w fun e w' =>
      e = .returned (.tuple #[]) ∧ Sor w g w' (P ++ (Y ++ (M ++ (X ++ S)))) := by
  have R0 := Sor.start hR
  rw [← Zs.rng_start] at R0
  have HL := Lib.hid hl
  have HX := Lib.hid hx
  have HY := Lib.hid hy
  have HA := Lib.hid ha
  have HB := Lib.hid hb
  have hbl : b + n ≤ len := by omega
  have hab : a + n ≤ b := by omega
  clear hl hx hy ha hb hR
  go_enter Tryd.func87, Tryd.ntmps87
  go_wp2_with fail
  go_loopw [10] (fun i wr => ∃ k : Nat, k ≤ n ∧ i = .int .i64 k ∧ Sor w g wr (Zs.rng P X M Y S k)) (fun i _ => n - (intOf i).toNat)
  case atStart => exact ⟨0, Nat.zero_le _, rfl, R0⟩
  case round =>
    clear R0
    obtain ⟨k, hk, rfl, hS⟩ := hrel
    by_cases hlt : k < n
    · have hll := Zs.rng_len P X M Y S k (by have := HX.out; have := HY.out; omega)
      have hi : a + k < (Zs.rng P X M Y S k).length := by have := HL.out; omega
      have hj : b + k < (Zs.rng P X M Y S k).length := by have := HL.out; omega
      obtain ⟨⟨x1, x2⟩, hx⟩ : ∃ x : Int × Int, (Zs.rng P X M Y S k).getD (a + k) (0, 0) = x := ⟨_, rfl⟩
      obtain ⟨⟨y1, y2⟩, hy⟩ : ∃ x : Int × Int, (Zs.rng P X M Y S k).getD (b + k) (0, 0) = x := ⟨_, rfl⟩
      have hst := Zs.rng_step P X M Y S k n HX.out HY.out hlt (a + k) (b + k) (by rw [HA.out]) (by rw [HA.out, ← HB.out])
      have hsw := fun W (h : Sor w g W (Zs.rng P X M Y S k)) => swapped h hi hj hx hy
      rw [hst] at hsw
      obtain ⟨p1, p2, p3, p4⟩ := hS.1.2 _ hi
      obtain ⟨q1, q2, q3, q4⟩ := hS.1.2 _ hj
      rw [hx] at p1 p2
      rw [hy] at q1 q2
      obtain ⟨iN, hiN⟩ : ∃ q, a + k = q := ⟨_, rfl⟩
      obtain ⟨jN, hjN⟩ : ∃ q, b + k = q := ⟨_, rfl⟩
      have hij : iN ≠ jN := by omega
      have ea : ((a : Int) + k).toNat = iN := by omega
      have eb : ((b : Int) + k).toNat = jN := by omega
      have pa : (0 : Int) ≤ (a : Int) + k := by omega
      have pb : (0 : Int) ≤ (b : Int) + k := by omega
      have ba : (a : Int) + k < len := by omega
      have bb : (b : Int) + k < len := by omega
      have ra : IntKind.i64.wrap ((a : Int) + k) = (a : Int) + k := by rw [IntKind.wrap_i64]; omega
      have rb : IntKind.i64.wrap ((b : Int) + k) = (b : Int) + k := by rw [IntKind.wrap_i64]; omega
      rw [hiN] at p1 p2 p3 p4 hsw
      rw [hjN] at q1 q2 q3 q4 hsw
      simp only at p1 p2 q1 q2
      have HSW := Lib.hid hsw
      have HSO := Lib.hid hS
      clear hS hst hsw hx hy hi hj hll hiN hjN
      go_wp2_with fail
      go_big_region
      go_wp2_with fail
      go_roundw
      case rel => exact ⟨k + 1, by omega, by go_num, (HSW.out _ HSO.out).drew⟩
      case measure => simp [intOf]; omega
    · obtain rfl : k = n := by omega
      have hfin := hS
      rw [Zs.rng_end _ _ _ _ _ k HX.out HY.out] at hfin
      have HF := Lib.hid hfin
      clear hfin hS
      go_wp2_with fail
      go_end0
      exact ⟨rfl, HF.out⟩
end Go.Proofs.YtndngkfiamdohaaDoor
