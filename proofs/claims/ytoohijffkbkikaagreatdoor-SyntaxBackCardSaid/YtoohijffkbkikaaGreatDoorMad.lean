/- Numbers that are drawn from a list: Light, Roll, Next, Bool, Pick, Mod. -/
import Derived.Test.YtoohijffkbkikaaGreatDoorGl
import Derived.WalkSpells
import Derived.WalkLawsBesides
import Derived.IntWalk
namespace Go.Proofs.YtoohijffkbkikaaGreatDoor
open Go.RowKit
set_option linter.unusedVariables false
set_option linter.unusedSimpArgs false

/-- The slice's cells hold these numbers. -/
def NumsAt (w : World) (A : Option Addr) (zs : List Int) : Prop :=
  0 < zs.length → ∃ b off, A = some ⟨b, off, none⟩ ∧ b < w.heap.size ∧ ∀ k, k < zs.length → w.cell? ⟨b, off + k, none⟩ = some (.int .i64 (zs.getD k 0))
theorem NumsAt.below {w w' : World} {A : Option Addr} {zs : List Int} (h : NumsAt w A zs) (hb : Below w.heap.size w w') : NumsAt w' A zs := fun h0 => by
  obtain ⟨b, off, e, hlt, hc⟩ := h h0
  exact ⟨b, off, e, Nat.lt_of_lt_of_le hlt hb.size, fun k hk => (hb.cell (p := ⟨b, off + k, none⟩) hlt).trans (hc k hk)⟩
theorem NumsAt.nil_ {w : World} {A : Option Addr} : NumsAt w A [] := fun h => absurd h (by simp)
theorem nget_mem {l : List Int} {k : Nat} (h : k < l.length) : l.getD k 0 ∈ l := by
  rw [show l.getD k 0 = l[k] by simp [List.getD, h]]; exact List.getElem_mem h
/-- Block g is a Dice over a slice, at a place. -/
def DiceAt (w : World) (g : Nat) (A : Option Addr) (n c : Nat) (p : Nat) : Prop := BlkAt w g #[.slice A n c, .int .i64 (p : Int)] 52
section
variable {w w' : World} {g n c p : Nat} {A : Option Addr}
theorem DiceAt.cells (h : DiceAt w g A n c p) : w.cell? ⟨g, 0, none⟩ = some (.slice A n c) ∧ w.cell? ⟨g, 1, none⟩ = some (.int .i64 (p : Int)) ∧ w.frozen? ⟨g, 1, none⟩ = false :=
  ⟨BlkAt.cell h rfl, BlkAt.cell h rfl, by unfold DiceAt BlkAt at h; simp [World.frozen?, h]⟩
theorem DiceAt.set_ (h : DiceAt w g A n c p) (q : Nat) : DiceAt (w.setCell ⟨g, 1, none⟩ (.int .i64 (q : Int))) g A n c q := by
  unfold DiceAt BlkAt at h ⊢
  simp [World.setCell, Array.getElem?_modify, h]
end
theorem grown_trans {w w1 w2 : World} {row : Option Nat} (h : w.grownBy w1 row) (h2 : w1.grownBy w2 row) : w.grownBy w2 row :=
  ⟨h2.os.trans h.os, h2.tape.trans h.tape, h2.output.trans h.output, Nat.le_trans h.size h2.size, fun k hk hr => (h2.block k (Nat.lt_of_lt_of_le hk h.size) hr).trans (h.block k hk hr)⟩
theorem grown_then {w w1 w2 : World} {row : Option Nat} {B : Nat} (h : w.grownBy w1 row) (h2 : Below B w1 w2) (hB : w.heap.size ≤ B) : w.grownBy w2 row :=
  ⟨h2.os.trans h.os, h2.tape.trans h.tape, h2.output.trans h.output, Nat.le_trans h.size h2.size, fun k hk hr => (h2.block k (by omega)).trans (h.block k hk hr)⟩
theorem grown_refl (w : World) (row : Option Nat) : w.grownBy w row := World.grownBy.refl w row
theorem grown_drewN {w w1 : World} {row : Option Nat} (h : w.grownBy w1 row) (q : Nat) : w.grownBy (w1.drewN q) row := ⟨h.os, h.tape, h.output, h.size, h.block⟩
theorem grown_drew {w w1 : World} {row : Option Nat} (h : w.grownBy w1 row) : w.grownBy w1.drew row := ⟨h.os, h.tape, h.output, h.size, h.block⟩
theorem grown_set (w : World) (g i : Nat) (u : Value) : w.grownBy (w.setCell ⟨g, i, none⟩ u) (some g) :=
  ⟨rfl, rfl, rfl, by simp, fun k hk hr => Below.heap_setCell w ⟨g, i, none⟩ u k (fun e => hr (by rw [e]))⟩
theorem grown_alloc {w w1 : World} {row : Option Nat} (h : w.grownBy w1 row) (o : Obj) : w.grownBy (w1.alloc o) row := grown_then h ((Below.refl _ _).alloc (Nat.le_refl _) o) h.size
theorem NumsAt.grown {w w' : World} {A : Option Addr} {zs : List Int} {g : Nat} (h : NumsAt w A zs) (hg : w.grownBy w' (some g)) (hne : 0 < zs.length → ∀ ad, A = some ad → ad.block < g) : NumsAt w' A zs := fun h0 => by
  obtain ⟨b, off, e, hlt, hc⟩ := h h0
  have := hne h0 _ e
  simp only at this
  exact ⟨b, off, e, Nat.lt_of_lt_of_le hlt hg.size, fun k hk => (hg.cell_far ⟨b, off + k, none⟩ hlt (fun e => by injection e with e; simp only at e; omega)).trans (hc k hk)⟩
theorem below_of_grown {w w1 w2 : World} {B g : Nat} (h : Below B w w1) (hg : w1.grownBy w2 (some g)) (hB : B ≤ w1.heap.size) (hgB : B ≤ g) : Below B w w2 := h.grown hg hB (fun k hk => by cases hk; exact hgB)

/-- What is known of a Dice and the list that it goes through. -/
structure Dice (w : World) (g : Nat) (A : Option Addr) (n c : Nat) (zs : List Int) : Prop where
  at_ : ∃ p, p ≤ n ∧ DiceAt w g A n c p
  len : zs.length = n
  le : n ≤ 500
  ints : NumsAt w A zs
  fits : ∀ z ∈ zs, -9223372036854775808 ≤ z ∧ z ≤ 9223372036854775807
  far : 0 < n → ∀ ad, A = some ad → ad.block < g
theorem Dice.lt_ {w : World} {g n c : Nat} {A : Option Addr} {zs : List Int} (h : Dice w g A n c zs) : g < w.heap.size := by obtain ⟨p, _, h⟩ := h.at_; exact BlkAt.lt_ h
theorem Dice.below {w w' : World} {g n c B : Nat} {A : Option Addr} {zs : List Int} (h : Dice w g A n c zs) (hb : Below B w w') (hg : g < B) : Dice w' g A n c zs := by
  obtain ⟨p, hp, hd⟩ := h.at_
  refine ⟨⟨p, hp, BlkAt.below hd hb hg⟩, h.len, h.le, fun h0 => ?_, h.fits, h.far⟩
  obtain ⟨b, off, e, hlt, hc⟩ := h.ints h0
  have := h.far (by have := h.len; omega) _ e
  simp only at this
  exact ⟨b, off, e, Nat.lt_of_lt_of_le hlt hb.size, fun k hk => (hb.cell (p := ⟨b, off + k, none⟩) (by simp only; omega)).trans (hc k hk)⟩
theorem Dice.after {w w' : World} {g n c : Nat} {A : Option Addr} {zs : List Int} (h : Dice w g A n c zs) (hb : Below w.heap.size w w') : Dice w' g A n c zs := h.below hb h.lt_
theorem Dice.alloc {w : World} {g n c : Nat} {A : Option Addr} {zs : List Int} (h : Dice w g A n c zs) (o : Obj) : Dice (w.alloc o) g A n c zs := h.after ((Below.refl _ _).alloc (Nat.le_refl _) o)
theorem Dice.drew {w : World} {g n c : Nat} {A : Option Addr} {zs : List Int} (h : Dice w g A n c zs) : Dice w.drew g A n c zs := h.after (Below.refl _ _).drew
theorem Dice.start {w : World} {A : Option Addr} {n c : Nat} {zs : List Int} (hA : NumsAt w A zs) (hn : zs.length = n) (h5 : n ≤ 500) (hf : ∀ z ∈ zs, -9223372036854775808 ≤ z ∧ z ≤ 9223372036854775807) :
    Dice (w.alloc (.cells #[.slice A n c, .int .i64 0] 52)) w.heap.size A n c zs :=
  ⟨⟨0, Nat.zero_le _, heap_alloc_new w _⟩, hn, h5, hA.below ((Below.refl _ _).alloc (Nat.le_refl _) _), hf, fun h0 ad e => by
    obtain ⟨b, off, e2, hlt, -⟩ := hA (by omega)
    rw [e2] at e
    cases e
    exact hlt⟩
theorem dmod_bd (y k : Int) (hk : 0 < k) : -k < y.tmod k ∧ y.tmod k < k := by
  have a := Int.tmod_lt_of_pos y hk
  have b := Int.lt_tmod_of_pos y hk
  exact ⟨b, a⟩
/-- What Next hands back. -/
def Drawn (m : Int) (w : World) (g : Nat) (A : Option Addr) (n c : Nat) (zs : List Int) (e : Ending) (w' : World) : Prop :=
  ∃ v, e = .returned (.int .i64 v) ∧ 0 ≤ v ∧ v < m ∧ w.grownBy w' (some g) ∧ Dice w' g A n c zs

set_option maxHeartbeats 2000000 in
theorem Next_any (g n c : Nat) (A : Option Addr) (zs : List Int) (m : Int) (w : World) (h : Dice w g A n c zs) (m1 : 1 ≤ m) (m2 : m ≤ 1000000) :
    Calls Tryz.prog 16 #[.pointer (some ⟨g, 0, none⟩), .int .i64 m] w (Drawn m w g A n c zs) := by
  obtain ⟨p, hp, hd⟩ := h.at_
  obtain ⟨d0, d1, d2⟩ := hd.cells
  have HD := Lib.hid hd
  have HH := Lib.hid h
  have n5 := h.le
  have hm0 : (m == 0) = false := by simp; omega
  have hm1 : decide (m < 1) = false := by simp; omega
  have hlen := h.len
  by_cases hpn : p = n
  · have e1 : decide ((n : Int) ≤ p) = true := by simp; omega
    have e2 : decide (n ≤ p) = true := by simp; omega
    clear hd h hlen hpn
    go_enter Tryz.func16, Tryz.ntmps16
    go_wp2_with fail
    go_quiet (fail)
    go_wp2_with fail
    go_ret
    exact ⟨0, rfl, by omega, by omega, grown_drewN (grown_refl _ _) _, ⟨⟨p, hp, HD.out⟩, HH.out.len, HH.out.le, HH.out.ints, HH.out.fits, HH.out.far⟩⟩
  · have e1 : decide ((n : Int) ≤ p) = false := by simp; omega
    have e2 : decide (n ≤ p) = false := by simp; omega
    obtain ⟨b, off, rfl, hb, hc⟩ := h.ints (by omega)
    have x0 := hc p (by omega)
    have hx := h.fits _ (nget_mem (l := zs) (k := p) (by omega))
    have hbg := h.far (by omega) _ rfl
    simp only at hbg
    obtain ⟨x, HX⟩ : ∃ x, Hid (zs.getD p 0 = x) := ⟨_, Lib.hid rfl⟩
    rw [HX.out] at x0 hx
    obtain ⟨x1, x2⟩ := hx
    have tb := dmod_bd x m (by omega)
    obtain ⟨tb1, tb2⟩ := tb
    have p0 : (0 : Int) ≤ p := by omega
    have p1 : (p : Int) < n := by omega
    have hlt := BlkAt.lt_ hd
    have hbne : b ≠ g := by omega
    clear hd h hlen hpn hc
    have fin : ∀ (v : Int) (W : World) (q : Nat), 0 ≤ v → v < m → W = (w.setCell ⟨g, 1, none⟩ (.int .i64 ((p : Int) + 1))).drewN q → Drawn m w g (some ⟨b, off, none⟩) n c zs (.returned (.int .i64 v)) W := fun v W q v0 v1 hW => by
      subst hW
      have hg : w.grownBy ((w.setCell ⟨g, 1, none⟩ (.int .i64 ((p : Int) + 1))).drewN q) (some g) := grown_drewN (grown_set w g 1 _) q
      exact ⟨v, rfl, v0, v1, hg, ⟨⟨p + 1, by omega, by have := HD.out.set_ (p + 1); exact BlkAt.drewN this q⟩, HH.out.len, HH.out.le, HH.out.ints.grown hg (fun h0 => HH.out.far (by have := HH.out.len; omega)), HH.out.fits, HH.out.far⟩⟩
    have FIN := Lib.hid fin
    clear fin
    by_cases hneg : x.tmod m < 0
    all_goals
      go_enter Tryz.func16, Tryz.ntmps16
      go_wp2_with fail
      go_quiet (fail)
      go_wp2_with fail
      go_quiet (fail)
      go_wp2_with fail
      go_ret
      exact FIN.out _ _ _ (by omega) (by omega) rfl

theorem Light_any (A : Option Addr) (n c : Nat) (w : World) : Calls Tryz.prog 6 #[.slice A n c] w fun e w' => e = .returned (.bool (decide ((n : Int) ≤ 500))) ∧ w = w' := by
  go_enter Tryz.func6, Tryz.ntmps6
  go_wp2_with fail
  go_ret
  exact ⟨rfl, rfl⟩
theorem Roll_any (A : Option Addr) (n c : Nat) (w : World) : Calls Tryz.prog 8 #[.slice A n c] w fun e w' => e = .returned (.pointer (some ⟨w.heap.size, 0, none⟩)) ∧ w' = w.alloc (.cells #[.slice A n c, .int .i64 0] 52) := by
  go_enter Tryz.func8, Tryz.ntmps8
  go_wp2_with fail
  go_ret
  exact ⟨rfl, rfl⟩

/-- What Pick hands back. -/
def Picked (ls : List Int) (w : World) (g : Nat) (A : Option Addr) (n c : Nat) (zs : List Int) (e : Ending) (w' : World) : Prop :=
  ∃ v, e = .returned (.int .i64 v) ∧ v ∈ ls ∧ w.grownBy w' (some g) ∧ Dice w' g A n c zs
def numV (ls : List Int) : Array Value := (ls.map (Value.int .i64)).toArray
theorem numV_get {ls : List Int} {k : Nat} (h : k < ls.length) : (numV ls)[k]? = some (.int .i64 (ls.getD k 0)) := by
  simp [numV, List.getD, h]
set_option maxHeartbeats 1000000 in
theorem Pick_any (g n c : Nat) (A : Option Addr) (zs ls : List Int) (b m cc : Nat) (T : TypeId) (w : World) (h : Dice w g A n c zs) (hb : BlkAt w b (numV ls) T) (hl : ls.length = m) (m1 : 1 ≤ m) (m2 : m ≤ 1000) (hne : b ≠ g) :
    Calls Tryz.prog 17 #[.pointer (some ⟨g, 0, none⟩), .slice (some ⟨b, 0, none⟩) m cc] w (Picked ls w g A n c zs) := by
  have N1 := Next_any g n c A zs m w h (by omega) (by omega)
  have HB := Lib.hid hb
  have HL := Lib.hid hl
  clear h hb hl
  go_enter Tryz.func17, Tryz.ntmps17
  go_wp2_with fail
  refine N1.mono ?_
  rintro e w1 ⟨v, rfl, v0, v1, g1, D1⟩
  obtain ⟨k, rfl⟩ : ∃ k : Nat, v = k := ⟨v.toNat, by omega⟩
  have hk : k < ls.length := by have := HL.out; omega
  have c1 := BlkAt.cell (HB.out.grown g1 (fun e => hne (Option.some.inj e))) (numV_get hk)
  have hm := nget_mem hk
  obtain ⟨x, hx⟩ : ∃ x, ls.getD k 0 = x := ⟨_, rfl⟩
  rw [hx] at c1 hm
  have HM := Lib.hid hm
  have hk2 : k < m := by omega
  clear hx hk N1 hm
  go_wp2_with fail
  go_ret
  exact ⟨x, rfl, HM.out, g1, D1⟩
/-- What Bool hands back. -/
def Tossed (w : World) (g : Nat) (A : Option Addr) (n c : Nat) (zs : List Int) (e : Ending) (w' : World) : Prop :=
  ∃ v, e = .returned (.bool v) ∧ w.grownBy w' (some g) ∧ Dice w' g A n c zs
set_option maxHeartbeats 1000000 in
theorem Bool_any (g n c : Nat) (A : Option Addr) (zs : List Int) (m : Int) (w : World) (h : Dice w g A n c zs) (m1 : 1 ≤ m) (m2 : m ≤ 1000000) :
    Calls Tryz.prog 15 #[.pointer (some ⟨g, 0, none⟩), .int .i64 m] w (Tossed w g A n c zs) := by
  have N1 := Next_any g n c A zs m w h (by omega) (by omega)
  clear h
  go_enter Tryz.func15, Tryz.ntmps15
  go_wp2_with fail
  refine N1.mono ?_
  rintro e w1 ⟨v, rfl, v0, v1, g1, D1⟩
  clear N1
  go_wp2_with fail
  go_ret
  exact ⟨_, rfl, g1, D1⟩
end Go.Proofs.YtoohijffkbkikaaGreatDoor
