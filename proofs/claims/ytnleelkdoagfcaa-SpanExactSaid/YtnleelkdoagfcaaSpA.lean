/- Lists of spans in memory, and the small functions over them. -/
import Derived.Test.YtnleelkdoagfcaaSpn
import Derived.Test.YtnleelkdoagfcaaChecked
import Derived.WalkKit
import Derived.Below
import Derived.Lib.Hide
import Derived.Outline
import Derived.OwnWalk
import Derived.Deep.QuietTactic
import Derived.BigQuiet
namespace Go.Proofs.Ytnleelkdoagfcaa
open Go.RowKit
set_option linter.unusedVariables false

/-- The slice's cells hold these spans. -/
def SpansAt (w : World) (A : Option Addr) (xs : Spn.L) : Prop :=
  0 < xs.length → ∃ b off, A = some ⟨b, off, none⟩ ∧ b < w.heap.size ∧ ∀ k, k < xs.length → w.cell? ⟨b, off + k * 2, none⟩ = some (.int .i64 (xs.getD k (0, 0)).1) ∧ w.cell? ⟨b, off + k * 2 + 1, none⟩ = some (.int .i64 (xs.getD k (0, 0)).2)
/-- The numbers fit their kind. -/
def Fits (xs : Spn.L) : Prop := ∀ s ∈ xs, (-9223372036854775808 ≤ s.1 ∧ s.1 ≤ 9223372036854775807) ∧ -9223372036854775808 ≤ s.2 ∧ s.2 ≤ 9223372036854775807

theorem bcell {W w1 : World} (hb : Below W.heap.size W w1) : (∀ b o, b < W.heap.size → w1.cell? ⟨b, o, none⟩ = W.cell? ⟨b, o, none⟩) := fun b o h => hb.cell (p := ⟨b, o, none⟩) h
theorem bstep {W w1 w2 : World} (h : Below W.heap.size W w1) (h2 : Below w1.heap.size w1 w2) : Below W.heap.size W w2 := h.trans (h2.mono h.size)

theorem below_drewN {B : Nat} {a w : World} (h : Below B a w) (n : Nat) : Below B a (w.drewN n) := h.trans ⟨rfl, rfl, rfl, Nat.le_refl _, fun _ _ => rfl⟩

theorem SpansAt.nil_ {w : World} {A : Option Addr} : SpansAt w A [] := fun h => absurd h (by simp)
theorem SpansAt.below {w w' : World} {A : Option Addr} {xs : Spn.L} (h : SpansAt w A xs) (hb : Below w.heap.size w w') : SpansAt w' A xs := fun h0 => by
  obtain ⟨b, off, e, hlt, hc⟩ := h h0
  exact ⟨b, off, e, Nat.lt_of_lt_of_le hlt hb.size, fun k hk => ⟨(bcell hb _ _ hlt).trans (hc k hk).1, (bcell hb _ _ hlt).trans (hc k hk).2⟩⟩
theorem SpansAt.alloc {w : World} {A : Option Addr} {xs : Spn.L} (h : SpansAt w A xs) (o : Obj) : SpansAt (w.alloc o) A xs := h.below ((Below.refl _ _).alloc (Nat.le_refl _) _)

theorem own2 {w wr : World} {a b : Value} {T : TypeId} (hB : Below (w.alloc (.cells #[a, b] T)).heap.size (w.alloc (.cells #[a, b] T)) wr) :
    wr.cell? ⟨w.heap.size, 0, none⟩ = some a ∧ wr.cell? ⟨w.heap.size, 1, none⟩ = some b ∧ wr.frozen? ⟨w.heap.size, 0, none⟩ = false ∧ wr.frozen? ⟨w.heap.size, 1, none⟩ = false ∧ w.heap.size < wr.heap.size ∧ Below w.heap.size w wr :=
  ⟨(hB.cell (p := ⟨w.heap.size, 0, none⟩) (by simp)).trans (by simp), (hB.cell (p := ⟨w.heap.size, 1, none⟩) (by simp)).trans (by simp), (hB.frozen (p := ⟨w.heap.size, 0, none⟩) (by simp)).trans (by simp), (hB.frozen (p := ⟨w.heap.size, 1, none⟩) (by simp)).trans (by simp),
    by have := hB.size; simp at this; omega, ((Below.refl _ _).alloc (Nat.le_refl _) _).trans (hB.mono (by simp))⟩

set_option maxHeartbeats 1000000 in
theorem Valid_any (A : Option Addr) (n c : Nat) (xs : Spn.L) (w : World) (hA : SpansAt w A xs) (hn : xs.length = n) (hm : n ≤ 9223372036854775807) :
    Calls Try.prog 15 #[.slice A n c] w fun e w' => e = .returned (.bool (Spn.vld xs)) ∧ Below w.heap.size w w' := by
  by_cases hl : (4096 : Int) < n
  · have hv : Spn.vld xs = false := by unfold Spn.vld; simp; omega
    clear hn
    go_enter Try.func15, Try.ntmps15
    go_wp2_with fail
    go_ret
    exact ⟨by rw [hv]; rfl, Below.refl _ _⟩
  · have hv : Spn.vld xs = Spn.okf (-1) xs := by unfold Spn.vld; simp; omega
    have hl2 : (n : Int) ≤ 4096 := by omega
    have HV := Lib.hid hv
    have HN := Lib.hid hn
    clear hv hn hl
    go_enter Try.func15, Try.ntmps15
    go_wp2_with fail
    go_loopw [3, 11] (fun e i wr => ∃ (k : Nat) (x : Int), k ≤ n ∧ i = .int .i64 k ∧ e = .int .i64 x ∧ Hid (Spn.okf (-1) xs = Spn.okf x (xs.drop k)) ∧ Below w.heap.size w wr) (fun _ i _ => n - (intOf i).toNat)
    case atStart => exact ⟨0, -1, Nat.zero_le _, rfl, rfl, Lib.hid rfl, Below.refl _ _⟩
    case round =>
      obtain ⟨k, x, hk, rfl, rfl, H, hB⟩ := hrel
      by_cases hlt : k < n
      · obtain ⟨b, off, rfl, hb, hc⟩ := hA (by have := HN.out; omega)
        obtain ⟨c0, c1⟩ := hc k (by have := HN.out; omega)
        have c0' := (bcell hB _ _ hb).trans c0
        have c1' := (bcell hB _ _ hb).trans c1
        clear hc c0 c1
        have hz := Nat.lt_of_lt_of_le hb hB.size
        obtain ⟨⟨f, t⟩, HS⟩ : ∃ s : Int × Int, Hid (xs.getD k (0, 0) = s) := ⟨_, Lib.hid rfl⟩
        rw [HS.out] at c0' c1'
        go_wp2_with fail
        all_goals
          first
          | (go_roundw
             case rel => exact ⟨k + 1, t, by omega, by go_num, rfl, Lib.hid (by rw [H.out, Spn.drop_cons xs k (0, 0) (by have := HN.out; omega), HS.out, Spn.okf_yes (by omega) (by omega) (by omega)]), hB.alloc hB.size _⟩
             case measure => simp [intOf]; omega)
          | (go_ret
             exact ⟨by rw [HV.out, H.out, Spn.drop_cons xs k (0, 0) (by have := HN.out; omega), HS.out, Spn.okf_no (by omega)]; rfl, hB.alloc hB.size _⟩)
      · go_wp2_with fail
        go_ret
        exact ⟨by rw [HV.out, H.out, List.drop_of_length_le (by have := HN.out; omega)]; rfl, hB⟩
end Go.Proofs.Ytnleelkdoagfcaa
