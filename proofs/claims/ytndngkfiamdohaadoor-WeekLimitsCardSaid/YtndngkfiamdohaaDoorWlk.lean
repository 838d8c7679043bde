/- What stands while a law over a drawn zone and drawn windows goes on. -/
import Derived.Test.YtndngkfiamdohaaDoorWsh
import Derived.Test.YtndngkfiamdohaaDoorWma
import Derived.Test.YtndngkfiamdohaaDoorWkl
namespace Go.Proofs.YtndngkfiamdohaaDoor
open Go.RowKit
set_option linter.unusedVariables false
set_option linter.unusedSimpArgs false
set_option maxRecDepth 100000

theorem ListAt.gr {α : Type} {k : Nat} {e : α → Nat → Value} {w w1 : World} {A : Option Addr} {xs : List α} {g : Nat} (h : ListAt k e w A xs) (ha : 0 < xs.length → ∀ ad, A = some ad → ad.block ≠ g) (hs : w.grownBy w1 (some g)) : ListAt k e w1 A xs := fun h0 => by
  obtain ⟨b, off, ea, hlt, hc⟩ := h h0
  have hne := ha h0 _ ea
  simp only at hne
  exact ⟨b, off, ea, Nat.lt_of_lt_of_le hlt hs.size, fun i x hx j hj => (hs.cell_far ⟨b, off + i * k + j, none⟩ hlt (fun e => hne (Option.some.inj e))).trans (hc i x hx j hj)⟩
/-- The rules of a drawn zone are not the Dice. -/
theorem rules_far {w : World} {A A' : Option Addr} {g n c : Nat} {zs : List Int} {rs : List Zn.Rule} (h : RulesAt w A' rs) (hd : Dice w g A n c zs) : 0 < rs.length → ∀ ad, A' = some ad → ad.block ≠ g := fun h0 ad ea e => by
  obtain ⟨b, off, ea2, hlt, hc⟩ := h h0
  rw [ea] at ea2; cases ea2
  simp only at e; subst e
  obtain ⟨x, hx⟩ := get_ex h0
  obtain ⟨p, -, hb⟩ := hd.at_
  have h1 := hc 0 x hx 6 (by omega)
  have h2 := cell_of_row w b (off + 0 * 7 + 6) _ _ (0, 0) hb
  rw [h1] at h2
  simp at h2
theorem pairs_far {w : World} {A A' : Option Addr} {g n c : Nat} {zs : List Int} {xs : Zn.L} (h : PairsAt w A' xs) (hd : Dice w g A n c zs) : 0 < xs.length → ∀ ad, A' = some ad → ad.block ≠ g := fun h0 ad ea e => by
  obtain ⟨b, off, ea2, hlt, hc⟩ := h h0
  rw [ea] at ea2; cases ea2
  simp only at e; subst e
  obtain ⟨x, hx⟩ := get_ex h0
  obtain ⟨p, -, hb⟩ := hd.at_
  have h1 := hc 0 x hx 0 (by omega)
  have h2 := cell_of_row w b (off + 0 * 2 + 0) _ _ (0, 0) hb
  have h3 := hc 0 x hx 1 (by omega)
  have h4 := cell_of_row w b (off + 0 * 2 + 1) _ _ (0, 0) hb
  rw [h1] at h2
  rw [h3] at h4
  rcases off with _ | off
  · simp [ePair] at h2
  · simp at h4
/-- What is known while a law goes on. -/
structure LK (w : World) (off : Int) (A' : Option Addr) (n' c' : Nat) (rs : List Zn.Rule) (bz : Nat) (A5 : Option Addr) (n5 : Nat) (l : Wk.L) (W : World) : Prop where
  z : ZIn W A' n' rs
  zb : ZBlk W bz ⟨#[97]⟩ off A' n' c'
  win : WIn W A5 n5 l
  bel : Below w.heap.size w W
section
variable {w : World} {off : Int} {A' : Option Addr} {n' c' : Nat} {rs : List Zn.Rule} {bz : Nat} {A5 : Option Addr} {n5 : Nat} {l : Wk.L} {W W' : World}
theorem LK.after (h : LK w off A' n' c' rs bz A5 n5 l W) (hb : Below W.heap.size W W') : LK w off A' n' c' rs bz A5 n5 l W' := ⟨h.z.below hb, BlkAt.after h.zb hb, h.win.below hb, bstep h.bel hb⟩
theorem LK.alloc (h : LK w off A' n' c' rs bz A5 n5 l W) (o : Obj) : LK w off A' n' c' rs bz A5 n5 l (W.alloc o) := h.after ((Below.refl _ _).alloc (Nat.le_refl _) o)
theorem LK.drewN (h : LK w off A' n' c' rs bz A5 n5 l W) (q : Nat) : LK w off A' n' c' rs bz A5 n5 l (W.drewN q) := h.after (below_drewN (Below.refl _ _) q)
end
theorem tm_ok {l : Wk.L} {f t : Int} {r : Wk.L} (hc : Wk.chk l = 0) (hq : okQ f t = true) (hr : r.length ≤ 4096) : tmV 0 l f t r = r ∧ tmE 0 l f t r = 0 := by
  unfold tmV tmE
  rw [if_neg (by simp), if_neg (by simpa using hc), if_neg (by rw [hq]; decide), if_neg (by omega), if_neg (by simp), if_neg (by simpa using hc), if_neg (by rw [hq]; decide), if_neg (by omega)]
  exact ⟨rfl, rfl⟩
theorem okQ_ok {f t : Int} (h1 : 0 ≤ f) (h2 : f ≤ t) (h3 : t ≤ 8589934592) (h4 : t - f ≤ 34560000) : okQ f t = true := by unfold okQ; exact decide_eq_true ⟨h1, h2, h3, h4⟩
end Go.Proofs.YtndngkfiamdohaaDoor
