/- Package resolve: setOptions. Package resolve, Build's actions: what stands behind an append and its store, kind by kind. Printed by gen_rz.py. -/
import Derived.Test.YtphenbfhojdcpaaGreatDoorKlG16
namespace Go.Proofs.YtphenbfhojdcpaaGreatDoor
open Go.RowKit
set_option linter.unusedVariables false
set_option linter.unusedSimpArgs false
set_option maxRecDepth 100000
def perC (p : Rs.Pers) : Array Value := #[.string ⟨p.name.toArray⟩, .int .i64 p.zone, .slice none 0 0, .int .i64 p.maxw, .int .i64 p.minr, .bool p.cons]
theorem per_cells {W : World} {g : Nat} {p : Rs.Pers} (h : BlkAt W g (perC p) 35) : W.cell? ⟨g, 3, none⟩ = some (.int .i64 p.maxw) ∧ W.cell? ⟨g, 4, none⟩ = some (.int .i64 p.minr) ∧ W.cell? ⟨g, 5, none⟩ = some (.bool p.cons) ∧ W.frozen? ⟨g, 3, none⟩ = false ∧ W.frozen? ⟨g, 4, none⟩ = false ∧ W.frozen? ⟨g, 5, none⟩ = false :=
  ⟨h.cell rfl, h.cell rfl, h.cell rfl, h.free 3, h.free 4, h.free 5⟩
/-- Where setOptions stands: the tokens that are left, and the person so far. -/
structure OptK (gp : Nat) (P : Rs.Pers) (w : World) (A : Option Addr) (n c : Nat) (r : List Lx.Tk) (p : Rs.Pers) (W : World) : Prop where
  but : But gp w.heap.size w W
  at_ : ListAt 3 eTok W A r
  far : ∀ ad, A = some ad → ad.block ≠ gp
  len : r.length = n
  cap : n ≤ c
  blk : BlkAt W gp (perC p) 35
  lt : gp < w.heap.size
  ok : Rs.optOk r
  goal : Rs.optS r p = P
theorem list_set {W : World} {A : Option Addr} {r : List Lx.Tk} {gp i : Nat} {u : Value} (h : ListAt 3 eTok W A r) (hf : ∀ ad, A = some ad → ad.block ≠ gp) : ListAt 3 eTok (W.setCell ⟨gp, i, none⟩ u) A r := by
  refine h.grown (grown_set W gp i u) (fun ad ea e => hf ad ea ?_)
  exact Option.some.inj e
/-- The tokens behind the first k. -/
theorem OptK.rest {W : World} {A : Option Addr} {n c : Nat} {r : List Lx.Tk} (h : ListAt 3 eTok W A r) (hn : r.length = n) (hc : n ≤ c) (b off k : Nat) (ea : A = some ⟨b, off, none⟩) (hk : k ≤ n) : ListAt 3 eTok W (if c = k then some ⟨b, off, none⟩ else some ⟨b, off + k * 3, none⟩) (r.drop k) := by
  subst ea
  split
  · have : r.drop k = [] := List.drop_of_length_le (by omega)
    rw [this]
    exact ListAt.nil_
  · exact h.rest k
theorem optS_week {t u : Lx.Tk} {r : List Lx.Tk} {p : Rs.Pers} (h : t.2.1 = Rs.weekW) : Rs.optS (t :: u :: r) p = Rs.optS r { p with maxw := Rs.hrs u.2.2 } := if_pos h
theorem optS_rest {t u : Lx.Tk} {r : List Lx.Tk} {p : Rs.Pers} (h0 : ¬ t.2.1 = Rs.weekW) (h : t.2.1 = Rs.restW) : Rs.optS (t :: u :: r) p = Rs.optS r { p with minr := Rs.hrs u.2.2 } := (if_neg h0).trans (if_pos h)
theorem optS_cons {t u : Lx.Tk} {r : List Lx.Tk} {p : Rs.Pers} (h0 : ¬ t.2.1 = Rs.weekW) (h : ¬ t.2.1 = Rs.restW) : Rs.optS (t :: u :: r) p = Rs.optS (u :: r) { p with cons := true } := (if_neg h0).trans (if_neg h)
set_option maxHeartbeats 8000000 in
theorem opts_is {P : Rs.Pers} {l : List Lx.Tk} {p0 : Rs.Pers} (hP : Rs.optS l p0 = P) (hok : Rs.optOk l) (gp : Nat) (A : Option Addr) (n c : Nat) (w : World) (hg : BlkAt w gp (perC p0) 35) (hA : ListAt 3 eTok w A l) (hne : ∀ ad, A = some ad → ad.block ≠ gp) (hn : l.length = n) (hc : n ≤ c) (hn6 : n ≤ 1000) :
    Calls Tryz.prog 129 #[.pointer (some ⟨gp, 0, none⟩), .slice A n c] w fun e w' => e = .returned (.tuple #[]) ∧ BlkAt w' gp (perC P) 35 ∧ But gp w.heap.size w w' := by
  have HK := Lib.hid (OptK.mk (.refl _ _ w) hA hne hn hc hg hg.lt_ hok hP)
  clear hg hA hne hc hok hP
  go_enter Tryz.func129, Tryz.ntmps129
  go_wp2_with fail
  go_loopw [1] (fun i wr => ∃ (A' : Option Addr) (n' c' : Nat) (r : List Lx.Tk) (p : Rs.Pers), n' ≤ 1000 ∧ i = .slice A' n' c' ∧ Hid (OptK gp P w A' n' c' r p wr)) (fun i _ => match i with | .slice _ m _ => m | _ => 0)
  case atStart => exact ⟨A, n, c, l, p0, hn6, rfl, HK⟩
  case round =>
    clear HK
    obtain ⟨A', n', c', r, p, h6, rfl, HK⟩ := hrel
    have hlen := HK.out.len
    rcases r with _ | ⟨t, r⟩
    · obtain rfl : n' = 0 := by simpa using hlen.symm
      have HP := Lib.hid (show p = P from HK.out.goal)
      have hB := Lib.hid HK.out.blk
      have hU := Lib.hid HK.out.but
      clear HK
      go_wp2_with fail
      go_end0
      exact ⟨rfl, HP.out ▸ hB.out, hU.out⟩
    · obtain ⟨tk, tt, tn⟩ := t
      obtain ⟨b, off, rfl, c0, c1, c2⟩ := tok_elem (k := 0) HK.out.at_ (show ((tk, tt, tn) :: r)[0]? = some (tk, tt, tn) from rfl)
      simp only [Nat.zero_mul, Nat.add_zero] at c0 c1 c2
      have hfb := HK.out.far _ rfl
      simp only at hfb
      have hl1 : r.length + 1 = n' := hlen
      have hcap := HK.out.cap
      have n0 : (0 : Int) < n' := by omega
      have n1 : (1 : Int) ≤ n' := by omega
      have n2 : (1 : Int) ≤ c' := by omega
      have n3 : 0 < n' := by omega
      by_cases hw : tt = [119, 101, 101, 107]
      · subst hw
        rcases r with _ | ⟨u, r⟩
        · exact absurd rfl (HK.out.ok).1
        obtain ⟨b', off', ea, d0, d1, d2⟩ := tok_elem (k := 1) HK.out.at_ (show ((tk, [119, 101, 101, 107], tn) :: u :: r)[1]? = some u from rfl)
        cases ea
        simp only [Nat.one_mul] at d0 d1 d2
        have hl2 : r.length + 2 = n' := hlen
        have hL := OptK.rest HK.out.at_ hlen hcap b off 2 rfl (by omega)
        simp only [List.drop_succ_cons, List.drop_zero] at hL
        have hok : Rs.optOk r := by have h := HK.out.ok; unfold Rs.optOk at h; rw [if_pos (.inl rfl)] at h; exact h
        have hgo : Rs.optS r { p with maxw := Rs.hrs u.2.2 } = P := by have h := HK.out.goal; rwa [optS_week rfl] at h
        obtain ⟨hm, hhm⟩ : ∃ q, Rs.hrs u.2.2 = q := ⟨_, rfl⟩
        rw [hhm] at hgo
        have HH := Lib.hid hhm
        have i1 : (1 : Int) < n' := by omega
        have i2 : (2 : Int) ≤ n' := by omega
        have i3 : (2 : Int) ≤ c' := by omega
        have HS : Hid (∀ W, Below wr.heap.size wr W → W.cell? ⟨b, off + 3, none⟩ = some (.int .i64 u.1) ∧ W.cell? ⟨b, off + 3 + 1, none⟩ = some (.string ⟨u.2.1.toArray⟩) ∧ W.cell? ⟨b, off + 3 + 2, none⟩ = some (.int .i64 u.2.2)) := Lib.hid fun W hW => ⟨cell_lift d0 hW, cell_lift d1 hW, cell_lift d2 hW⟩
        have HZ : Hid (∀ W v, Below wr.heap.size wr W → (W.setCell ⟨gp, 3, none⟩ v).cell? ⟨b, off + 3, none⟩ = some (.int .i64 u.1) ∧ (W.setCell ⟨gp, 3, none⟩ v).cell? ⟨b, off + 3 + 1, none⟩ = some (.string ⟨u.2.1.toArray⟩) ∧ (W.setCell ⟨gp, 3, none⟩ v).cell? ⟨b, off + 3 + 2, none⟩ = some (.int .i64 u.2.2)) := Lib.hid fun W v hW => by
          have h1 := HS.out W hW
          have hx : ∀ j, (⟨gp, 3, none⟩ : Addr) ≠ ⟨b, j, none⟩ := fun j e => hfb (congrArg Addr.block e).symm
          exact ⟨(World.cell?_setCell_other _ _ _ _ (hx _)).trans h1.1, (World.cell?_setCell_other _ _ _ _ (hx _)).trans h1.2.1, (World.cell?_setCell_other _ _ _ _ (hx _)).trans h1.2.2⟩
        have HY : Hid (∀ W, Below wr.heap.size wr W → W.cell? ⟨gp, 3, none⟩ = some (.int .i64 p.maxw) ∧ W.frozen? ⟨gp, 3, none⟩ = false) := Lib.hid fun W hW => by have h := per_cells (HK.out.blk.after hW); exact ⟨h.1, h.2.2.2.1⟩
        have HFIN : Hid (∀ W, Below wr.heap.size wr W → OptK gp P w (if c' = 2 then some ⟨b, off, none⟩ else some ⟨b, off + 6, none⟩) (n' - 2) (c' - 2) r { p with maxw := hm } (W.setCell ⟨gp, 3, none⟩ (.int .i64 hm))) := Lib.hid fun W hW => by
          refine ⟨(HK.out.but.below hW (Nat.le_refl _)).trans (.set gp 3 _ (Nat.le_trans HK.out.but.size hW.size) (.inr rfl)), ?_, ?_, by omega, by omega, ?_, HK.out.lt, hok, hgo⟩
          · refine list_set (hL.below hW) (fun ad e => ?_)
            split at e <;> cases e <;> exact hfb
          · intro ad e
            split at e <;> cases e <;> exact hfb
          · exact (HK.out.blk.after hW).set_ 3 (.int .i64 hm)
        clear hL hok hgo hhm d0 d1 d2
        by_cases hc2 : c' = 2
        · subst hc2
          obtain rfl : n' = 2 := by omega
          have hcz := True.intro
          simp only [if_true] at HFIN
          clear HK hcz
          go_wp2_with fail
          go_region_held3 (fun W => W.cell? ⟨b, off + 3, none⟩ = some (.int .i64 u.1) ∧ W.cell? ⟨b, off + 3 + 1, none⟩ = some (.string ⟨u.2.1.toArray⟩) ∧ W.cell? ⟨b, off + 3 + 2, none⟩ = some (.int .i64 u.2.2))
            (first | exact HS.out _ (bdrewN (Below.refl _ _) 1) | exact HS.out _ hq | exact HZ.out _ _ hq | exact HZ.out _ _ (bdrewN (Below.refl _ _) 1))
            (first | (go_at_call 167; ((with_reducible refine (hours_tok HH.out _ _ _).mono ?_); rintro e w' ⟨rfl, hb⟩; have hq : Below wr.heap.size wr w' := (bdrewN (Below.refl _ _) 1).trans hb; have y1 := (HY.out _ hq).1; have y2 := (HY.out _ hq).2)))
          go_wp2_with fail
          go_roundw
          case rel => exact ⟨_, _, _, _, _, by omega, rfl, Lib.hid (HFIN.out _ hq)⟩
          case measure => (first | (simp; done) | (simp; omega))
        · skip
          have hcz : ((c' : Int) - 2).toNat ≠ 0 := by omega
          simp only [if_neg hc2] at HFIN
          clear HK hcz
          go_wp2_with fail
          go_region_held3 (fun W => W.cell? ⟨b, off + 3, none⟩ = some (.int .i64 u.1) ∧ W.cell? ⟨b, off + 3 + 1, none⟩ = some (.string ⟨u.2.1.toArray⟩) ∧ W.cell? ⟨b, off + 3 + 2, none⟩ = some (.int .i64 u.2.2))
            (first | exact HS.out _ (bdrewN (Below.refl _ _) 1) | exact HS.out _ hq | exact HZ.out _ _ hq | exact HZ.out _ _ (bdrewN (Below.refl _ _) 1))
            (first | (go_at_call 167; ((with_reducible refine (hours_tok HH.out _ _ _).mono ?_); rintro e w' ⟨rfl, hb⟩; have hq : Below wr.heap.size wr w' := (bdrewN (Below.refl _ _) 1).trans hb; have y1 := (HY.out _ hq).1; have y2 := (HY.out _ hq).2)))
          go_wp2_with fail
          go_roundw
          case rel => exact ⟨_, _, _, _, _, by omega, rfl, Lib.hid (HFIN.out _ hq)⟩
          case measure => (first | (simp; done) | (simp; omega))
      have e1 : (tt == [119, 101, 101, 107]) = false := by simpa using hw
      by_cases hr : tt = [114, 101, 115, 116]
      · subst hr
        rcases r with _ | ⟨u, r⟩
        · exact absurd rfl (HK.out.ok).2
        obtain ⟨b', off', ea, d0, d1, d2⟩ := tok_elem (k := 1) HK.out.at_ (show ((tk, [114, 101, 115, 116], tn) :: u :: r)[1]? = some u from rfl)
        cases ea
        simp only [Nat.one_mul] at d0 d1 d2
        have hl2 : r.length + 2 = n' := hlen
        have hL := OptK.rest HK.out.at_ hlen hcap b off 2 rfl (by omega)
        simp only [List.drop_succ_cons, List.drop_zero] at hL
        have hok : Rs.optOk r := by have h := HK.out.ok; unfold Rs.optOk at h; rw [if_pos (.inr rfl)] at h; exact h
        have hgo : Rs.optS r { p with minr := Rs.hrs u.2.2 } = P := by have h := HK.out.goal; rwa [optS_rest (fun e => by simp [Rs.weekW] at e) rfl] at h
        obtain ⟨hm, hhm⟩ : ∃ q, Rs.hrs u.2.2 = q := ⟨_, rfl⟩
        rw [hhm] at hgo
        have HH := Lib.hid hhm
        have i1 : (1 : Int) < n' := by omega
        have i2 : (2 : Int) ≤ n' := by omega
        have i3 : (2 : Int) ≤ c' := by omega
        have HS : Hid (∀ W, Below wr.heap.size wr W → W.cell? ⟨b, off + 3, none⟩ = some (.int .i64 u.1) ∧ W.cell? ⟨b, off + 3 + 1, none⟩ = some (.string ⟨u.2.1.toArray⟩) ∧ W.cell? ⟨b, off + 3 + 2, none⟩ = some (.int .i64 u.2.2)) := Lib.hid fun W hW => ⟨cell_lift d0 hW, cell_lift d1 hW, cell_lift d2 hW⟩
        have HZ : Hid (∀ W v, Below wr.heap.size wr W → (W.setCell ⟨gp, 4, none⟩ v).cell? ⟨b, off + 3, none⟩ = some (.int .i64 u.1) ∧ (W.setCell ⟨gp, 4, none⟩ v).cell? ⟨b, off + 3 + 1, none⟩ = some (.string ⟨u.2.1.toArray⟩) ∧ (W.setCell ⟨gp, 4, none⟩ v).cell? ⟨b, off + 3 + 2, none⟩ = some (.int .i64 u.2.2)) := Lib.hid fun W v hW => by
          have h1 := HS.out W hW
          have hx : ∀ j, (⟨gp, 4, none⟩ : Addr) ≠ ⟨b, j, none⟩ := fun j e => hfb (congrArg Addr.block e).symm
          exact ⟨(World.cell?_setCell_other _ _ _ _ (hx _)).trans h1.1, (World.cell?_setCell_other _ _ _ _ (hx _)).trans h1.2.1, (World.cell?_setCell_other _ _ _ _ (hx _)).trans h1.2.2⟩
        have HY : Hid (∀ W, Below wr.heap.size wr W → W.cell? ⟨gp, 4, none⟩ = some (.int .i64 p.minr) ∧ W.frozen? ⟨gp, 4, none⟩ = false) := Lib.hid fun W hW => by have h := per_cells (HK.out.blk.after hW); exact ⟨h.2.1, h.2.2.2.2.1⟩
        have HFIN : Hid (∀ W, Below wr.heap.size wr W → OptK gp P w (if c' = 2 then some ⟨b, off, none⟩ else some ⟨b, off + 6, none⟩) (n' - 2) (c' - 2) r { p with minr := hm } (W.setCell ⟨gp, 4, none⟩ (.int .i64 hm))) := Lib.hid fun W hW => by
          refine ⟨(HK.out.but.below hW (Nat.le_refl _)).trans (.set gp 4 _ (Nat.le_trans HK.out.but.size hW.size) (.inr rfl)), ?_, ?_, by omega, by omega, ?_, HK.out.lt, hok, hgo⟩
          · refine list_set (hL.below hW) (fun ad e => ?_)
            split at e <;> cases e <;> exact hfb
          · intro ad e
            split at e <;> cases e <;> exact hfb
          · exact (HK.out.blk.after hW).set_ 4 (.int .i64 hm)
        clear hL hok hgo hhm d0 d1 d2
        by_cases hc2 : c' = 2
        · subst hc2
          obtain rfl : n' = 2 := by omega
          have hcz := True.intro
          simp only [if_true] at HFIN
          clear HK hcz
          go_wp2_with fail
          go_region_held3 (fun W => W.cell? ⟨b, off + 3, none⟩ = some (.int .i64 u.1) ∧ W.cell? ⟨b, off + 3 + 1, none⟩ = some (.string ⟨u.2.1.toArray⟩) ∧ W.cell? ⟨b, off + 3 + 2, none⟩ = some (.int .i64 u.2.2))
            (first | exact HS.out _ (bdrewN (Below.refl _ _) 1) | exact HS.out _ hq | exact HZ.out _ _ hq | exact HZ.out _ _ (bdrewN (Below.refl _ _) 1))
            (first | (go_at_call 167; ((with_reducible refine (hours_tok HH.out _ _ _).mono ?_); rintro e w' ⟨rfl, hb⟩; have hq : Below wr.heap.size wr w' := (bdrewN (Below.refl _ _) 1).trans hb; have y1 := (HY.out _ hq).1; have y2 := (HY.out _ hq).2)))
          go_wp2_with fail
          go_roundw
          case rel => exact ⟨_, _, _, _, _, by omega, rfl, Lib.hid (HFIN.out _ hq)⟩
          case measure => (first | (simp; done) | (simp; omega))
        · skip
          have hcz : ((c' : Int) - 2).toNat ≠ 0 := by omega
          simp only [if_neg hc2] at HFIN
          clear HK hcz
          go_wp2_with fail
          go_region_held3 (fun W => W.cell? ⟨b, off + 3, none⟩ = some (.int .i64 u.1) ∧ W.cell? ⟨b, off + 3 + 1, none⟩ = some (.string ⟨u.2.1.toArray⟩) ∧ W.cell? ⟨b, off + 3 + 2, none⟩ = some (.int .i64 u.2.2))
            (first | exact HS.out _ (bdrewN (Below.refl _ _) 1) | exact HS.out _ hq | exact HZ.out _ _ hq | exact HZ.out _ _ (bdrewN (Below.refl _ _) 1))
            (first | (go_at_call 167; ((with_reducible refine (hours_tok HH.out _ _ _).mono ?_); rintro e w' ⟨rfl, hb⟩; have hq : Below wr.heap.size wr w' := (bdrewN (Below.refl _ _) 1).trans hb; have y1 := (HY.out _ hq).1; have y2 := (HY.out _ hq).2)))
          go_wp2_with fail
          go_roundw
          case rel => exact ⟨_, _, _, _, _, by omega, rfl, Lib.hid (HFIN.out _ hq)⟩
          case measure => (first | (simp; done) | (simp; omega))
      have e2 : (tt == [114, 101, 115, 116]) = false := by simpa using hr
      have hL := OptK.rest HK.out.at_ hlen hcap b off 1 rfl (by omega)
      simp only [List.drop_succ_cons, List.drop_zero, Nat.one_mul] at hL
      have hok : Rs.optOk r := by
        have h := HK.out.ok
        rcases r with _ | ⟨u, r⟩
        · exact trivial
        · unfold Rs.optOk at h; rw [if_neg (fun hh => hh.elim hw hr)] at h; exact h
      have hgo : Rs.optS r { p with cons := true } = P := by
        have h := HK.out.goal
        rcases r with _ | ⟨u, r⟩
        · exact h
        · rwa [optS_cons hw hr] at h
      have HFIN : Hid (∀ W, Below wr.heap.size wr W → OptK gp P w (if c' = 1 then some ⟨b, off, none⟩ else some ⟨b, off + 3, none⟩) (n' - 1) (c' - 1) r { p with cons := true } (W.setCell ⟨gp, 5, none⟩ (.bool true))) := Lib.hid fun W hW => by
        refine ⟨(HK.out.but.below hW (Nat.le_refl _)).trans (.set gp 5 _ (Nat.le_trans HK.out.but.size hW.size) (.inr rfl)), ?_, ?_, by omega, by omega, ?_, HK.out.lt, hok, hgo⟩
        · refine list_set (hL.below hW) (fun ad e => ?_)
          split at e <;> cases e <;> exact hfb
        · intro ad e
          split at e <;> cases e <;> exact hfb
        · exact (HK.out.blk.after hW).set_ 5 (.bool true)
      have HC0 := Lib.hid c0
      have y1 : wr.drew.cell? ⟨gp, 5, none⟩ = some (.bool p.cons) := (per_cells HK.out.blk).2.2.1
      have y2 : wr.drew.frozen? ⟨gp, 5, none⟩ = false := (per_cells HK.out.blk).2.2.2.2.2
      have hx : (⟨gp, 5, none⟩ : Addr) ≠ ⟨b, off, none⟩ := fun e => hfb (congrArg Addr.block e).symm
      have HX := Lib.hid hx
      clear hL hok hgo hw hr hx
      by_cases hc1 : c' = 1
      · subst hc1
        obtain rfl : n' = 1 := by omega
        simp only [if_true] at HFIN
        clear HK
        go_wp2_with fail
        go_region_held3 (fun W => W.cell? ⟨b, off, none⟩ = some (.int .i64 tk))
          (first | exact HC0.out | exact (World.cell?_setCell_other _ _ _ _ HX.out).trans HC0.out)
          (fail)
        go_wp2_with fail
        go_roundw
        case rel => exact ⟨_, _, _, _, _, by omega, rfl, Lib.hid (HFIN.out _ (bdrewN (Below.refl _ _) 1))⟩
        case measure => (first | (simp; done) | (simp; omega))
      · skip
        simp only [if_neg hc1] at HFIN
        clear HK
        go_wp2_with fail
        go_region_held3 (fun W => W.cell? ⟨b, off, none⟩ = some (.int .i64 tk))
          (first | exact HC0.out | exact (World.cell?_setCell_other _ _ _ _ HX.out).trans HC0.out)
          (fail)
        go_wp2_with fail
        go_roundw
        case rel => exact ⟨_, _, _, _, _, by omega, rfl, Lib.hid (HFIN.out _ (bdrewN (Below.refl _ _) 1))⟩
        case measure => (first | (simp; done) | (simp; omega))
end Go.Proofs.YtphenbfhojdcpaaGreatDoor
namespace Go.Proofs.YtphenbfhojdcpaaGreatDoor
open Go.RowKit
set_option linter.unusedVariables false
set_option linter.unusedSimpArgs false
set_option maxRecDepth 100000
/-- A cell outside the row that grows. -/
theorem lim {w : World} {row : Option Nat} {b i : Nat} {u : Value} (hb : some b ≠ row) (h : w.cell? ⟨b, i, none⟩ = some u) : ∀ W, w.grownBy W row → W.cell? ⟨b, i, none⟩ = some u := fun W hW => hW.cell h hb
theorem limZ {w : World} {row : Option Nat} {b i σ j : Nat} {u : Value} (hb : some b ≠ row) (hs : b ≠ σ) (h : w.cell? ⟨b, i, none⟩ = some u) : ∀ W v, w.grownBy W row → (W.setCell ⟨σ, j, none⟩ v).cell? ⟨b, i, none⟩ = some u := fun W v hW =>
  (World.cell?_setCell_other _ _ _ _ (fun e => hs (congrArg Addr.block e).symm)).trans (hW.cell h hb)
theorem limF {w : World} {row : Option Nat} {b i : Nat} (hb : some b ≠ row) (hlt : b < w.heap.size) (h : w.frozen? ⟨b, i, none⟩ = false) : ∀ W, w.grownBy W row → W.frozen? ⟨b, i, none⟩ = false := fun W hW => (World.frozen?_of_block (hW.block b hlt hb)).trans h
/-- The cells of an element of a row. -/
theorem own_cell {α : Type} {k : Nat} {e : α → Nat → Value} {T : TypeId} {v : SV} {xs : List α} {w : World} {lo : Nat} (h : Row.own ⟨T, k, v, encK k e xs⟩ w lo) (hk : 0 < k) {i : Nat} {x : α} (hx : xs[i]? = some x) :
    ∃ g cap, v = (some ⟨g, 0, none⟩, xs.length, cap) ∧ xs.length ≤ cap ∧ lo ≤ g ∧ g < w.heap.size ∧ ∀ j, j < k → w.cell? ⟨g, i * k + j, none⟩ = some (e x j) ∧ w.frozen? ⟨g, i * k + j, none⟩ = false := by
  obtain ⟨h1, h2⟩ := own_list h hk
  obtain ⟨A, n, c⟩ := v
  rcases h1.row with ⟨-, h0⟩ | ⟨g, cap, hv, h3, h4, h5, h6⟩
  · rw [h0] at hx; simp at hx
  · unfold sv at hv
    simp only [Value.slice.injEq] at hv
    obtain ⟨rfl, rfl, rfl⟩ := hv
    exact ⟨g, c, rfl, h5, h3, h4, h6 i x hx⟩
/-- A step of a configuration that is being built. -/
def Grew (bc lo : Nat) (w : World) (C : Rs.Cfg) (W : World) : Prop := But bc lo w W ∧ ∃ vs', OwnC W bc lo vs' C
theorem Grew.step {bc lo : Nat} {w W : World} {C : Rs.Cfg} (h : Grew bc lo w C W) {w0 : World} (hb : But bc lo w0 w) : StepV bc lo w0 (0, C) (.returned (.int .i64 0)) W := ⟨rfl, hb.trans h.1, fun _ => h.2, fun h => absurd rfl h⟩
theorem step_err {bc lo : Nat} {w W : World} {n : Int} {C : Rs.Cfg} (hb : But bc lo w W) (hs : Stm w W) (hn : n ≠ 0) : StepV bc lo w (n, C) (.returned (.int .i64 n)) W := ⟨rfl, hb, fun h => absurd h hn, fun _ => hs⟩
theorem lastOf_some {α : Type} {l : List α} {x : α} (h : Rs.lastOf l = some x) : l[l.length - 1]? = some x ∧ l.length - 1 + 1 = l.length := ⟨h, by have := lt_get h; omega⟩
theorem lastOf_none {α : Type} {l : List α} (h : Rs.lastOf l = none) : l.length = 0 := by
  unfold Rs.lastOf at h
  rw [List.getElem?_eq_none_iff] at h
  omega
theorem fin_pers {w W W1 : World} {bc lo : Nat} {vs : Key → SV} {C : Rs.Cfg} {A1 : Option Addr} {n1 c1 g cap : Nat} {z : Rs.Pers} (h : OwnC w bc lo vs C) (hv : vs .pe = (A1, n1, c1)) (hz : z.quiet = []) (hm : C.people.length = n1) (hW : Below w.heap.size w W)
    (ho : OwnL 35 6 ePers W1 lo (.slice (some ⟨g, 0, none⟩) ((withIx (fun i => vs (.qu i)) C.people).length + 1) cap) (withIx (fun i => vs (.qu i)) C.people ++ [(z, noSV)])) (hg : W.grownBy W1 (Value.slice A1 n1 c1).ownBlock) (hn : (Value.slice A1 n1 c1).ownBlock = some g ∨ g = W.heap.size) :
    Grew bc lo w { C with people := C.people ++ [z] } (W1.setCell ⟨bc, 1, none⟩ (.slice (some ⟨g, 0, none⟩) (n1 + 1) cap)) := by
  have e : Value.slice A1 n1 c1 = sv (vs .pe) := by rw [hv]; rfl
  rw [e] at hg hn
  have hle := h.le
  have hsz := hW.size
  have hb1 : But bc lo w W1 := (But.of_below hW hle).trans (.of_grown hg (by omega) (fun g' hg' => .inl (h.far hg').1))
  rw [withIx_len, hm] at ho
  exact ⟨hb1.trans (.set bc 1 _ (Nat.le_trans hle hb1.size) (.inr rfl)), OwnC.pers (h.below hW) hz hm.symm ho hg hn⟩
theorem fin_sch {w W W1 : World} {bc lo : Nat} {vs : Key → SV} {C : Rs.Cfg} {A1 : Option Addr} {n1 c1 g cap : Nat} {z : Rs.Sch} (h : OwnC w bc lo vs C) (hv : vs .sc = (A1, n1, c1)) (hz : z.lays = []) (hz2 : z.edits = []) (hm : C.scheds.length = n1) (hW : Below w.heap.size w W)
    (ho : OwnL 44 3 eSch W1 lo (.slice (some ⟨g, 0, none⟩) ((withIx (fun i => (vs (.la i), vs (.ed i))) C.scheds).length + 1) cap) (withIx (fun i => (vs (.la i), vs (.ed i))) C.scheds ++ [(z, (noSV, noSV))])) (hg : W.grownBy W1 (Value.slice A1 n1 c1).ownBlock) (hn : (Value.slice A1 n1 c1).ownBlock = some g ∨ g = W.heap.size) :
    Grew bc lo w { C with scheds := C.scheds ++ [z] } (W1.setCell ⟨bc, 3, none⟩ (.slice (some ⟨g, 0, none⟩) (n1 + 1) cap)) := by
  have e : Value.slice A1 n1 c1 = sv (vs .sc) := by rw [hv]; rfl
  rw [e] at hg hn
  have hle := h.le
  have hsz := hW.size
  have hb1 : But bc lo w W1 := (But.of_below hW hle).trans (.of_grown hg (by omega) (fun g' hg' => .inl (h.far hg').1))
  rw [withIx_len, hm] at ho
  exact ⟨hb1.trans (.set bc 3 _ (Nat.le_trans hle hb1.size) (.inr rfl)), OwnC.sch (h.below hW) hz hz2 hm.symm ho hg hn⟩
theorem fin_layer {w W W1 : World} {bc lo : Nat} {vs : Key → SV} {C : Rs.Cfg} {A1 : Option Addr} {n1 c1 g cap n gz : Nat} {z z' : Rs.Sch} {r : Rs.Lay} (h : OwnC w bc lo vs C) (hz : C.scheds[n]? = some z) (hr1 : r.mem = []) (hr2 : r.wins = []) (hz' : z' = { z with lays := z.lays ++ [r] }) (hv : vs (.la n) = (A1, n1, c1)) (hm : z.lays.length = n1) (ez : (vs .sc).1 = some ⟨gz, 0, none⟩) (hW : Below w.heap.size w W)
    (ho : OwnL 40 10 eLay W1 lo (.slice (some ⟨g, 0, none⟩) ((withIx (fun j => (vs (.me n j), vs (.wi n j))) z.lays).length + 1) cap) ((withIx (fun j => (vs (.me n j), vs (.wi n j))) z.lays) ++ [(r, (noSV, noSV))])) (hg : W.grownBy W1 (Value.slice A1 n1 c1).ownBlock) (hn : (Value.slice A1 n1 c1).ownBlock = some g ∨ g = W.heap.size) :
    Grew bc lo w { C with scheds := C.scheds.set n z' } (W1.setCell ⟨gz, n * 3 + 1, none⟩ (.slice (some ⟨g, 0, none⟩) (n1 + 1) cap)) := by
  have e : Value.slice A1 n1 c1 = sv (vs (.la n)) := by rw [hv]; rfl
  rw [e] at hg hn
  have hle := h.le
  have hsz := hW.size
  have hb1 : But bc lo w W1 := (But.of_below hW hle).trans (.of_grown hg (by omega) (fun g' hg' => .inl (h.far hg').1))
  rw [withIx_len] at ho
  rw [hm] at ho
  exact ⟨hb1.trans (.set gz _ _ (Nat.le_trans hle hb1.size) (.inl (h.gne ez).2.1)), OwnC.layer (h.below hW) hz hr1 hr2 hz' hm.symm ho hg hn ez⟩
theorem fin_member2 {w W W1 : World} {bc lo : Nat} {vs : Key → SV} {C : Rs.Cfg} {A1 : Option Addr} {n1 c1 g cap n m gl : Nat} {s s' : Rs.Sch} {l l' : Rs.Lay} {r : Int} (h : OwnC w bc lo vs C) (hs : C.scheds[n]? = some s) (hl : s.lays[m]? = some l) (hl' : l' = { l with mem := l.mem ++ [r] }) (hs' : s' = { s with lays := s.lays.set m l' }) (hv : vs (.me n m) = (A1, n1, c1)) (hm : l.mem.length = n1) (ez : (vs (.la n)).1 = some ⟨gl, 0, none⟩) (hW : Below w.heap.size w W)
    (ho : OwnL 3 1 eInt W1 lo (.slice (some ⟨g, 0, none⟩) (l.mem.length + 1) cap) (l.mem ++ [r])) (hg : W.grownBy W1 (Value.slice A1 n1 c1).ownBlock) (hn : (Value.slice A1 n1 c1).ownBlock = some g ∨ g = W.heap.size) :
    But bc lo w (W1.setCell ⟨gl, m * 10 + 6, none⟩ (.slice (some ⟨g, 0, none⟩) (n1 + 1) cap)) ∧ Stm w (W1.setCell ⟨gl, m * 10 + 6, none⟩ (.slice (some ⟨g, 0, none⟩) (n1 + 1) cap)) ∧ ∃ vs', OwnC (W1.setCell ⟨gl, m * 10 + 6, none⟩ (.slice (some ⟨g, 0, none⟩) (n1 + 1) cap)) bc lo vs' { C with scheds := C.scheds.set n s' } ∧ vs' (.la n) = vs (.la n) := by
  have e : Value.slice A1 n1 c1 = sv (vs (.me n m)) := by rw [hv]; rfl
  rw [e] at hg hn
  have hle := h.le
  have hsz := hW.size
  have hb1 : But bc lo w W1 := (But.of_below hW hle).trans (.of_grown hg (by omega) (fun g' hg' => .inl (h.far hg').1))
  rw [hm] at ho
  have hst : Stm w (W1.setCell ⟨gl, m * 10 + 6, none⟩ (.slice (some ⟨g, 0, none⟩) (n1 + 1) cap))   := fun k cs T fr hT hk => by
    have hlt := (Array.getElem?_eq_some_iff.1 hk).1
    have h1 := hW.block k hlt
    have h2 := hg.block k (by omega) (fun ee => h.typ ee.symm cs T fr hT hk)
    have h3 := (grown_set W1 gl (m * 10 + 6) (.slice (some ⟨g, 0, none⟩) (n1 + 1) cap)).block k (by have := hg.size; omega) (fun ee => h.typ (κ := .la n) (g := gl) (by show (Value.slice (vs (.la n)).1 _ _).ownBlock = _; rw [ez]; rfl) cs T fr hT (by cases ee; exact hk))
    exact h3.trans (h2.trans h1)
  exact ⟨hb1.trans (.set gl _ _ (Nat.le_trans hle hb1.size) (.inl (h.gne ez).2.1)), hst, OwnC.member (h.below hW) hs hl hl' hs' hm.symm ho hg hn ez⟩
section
variable {w : World} {bc lo : Nat} {vs : Key → SV} {C : Rs.Cfg} (h : OwnC w bc lo vs C)
include h
theorem OwnC.lastS {i : Nat} {z : Rs.Sch} (hz : C.scheds[i]? = some z) : ∃ g cap, vs .sc = (some ⟨g, 0, none⟩, C.scheds.length, cap) ∧ C.scheds.length ≤ cap ∧ lo ≤ g ∧ g < w.heap.size ∧ ∀ j, j < 3 → w.cell? ⟨g, i * 3 + j, none⟩ = some (eSch (z, (vs (.la i), vs (.ed i))) j) ∧ w.frozen? ⟨g, i * 3 + j, none⟩ = false := by
  obtain ⟨g, cap, h1, h2, h3⟩ := own_cell (h.row .sc) (by omega) (i := i) (x := (z, (vs (.la i), vs (.ed i)))) (by rw [withIx_get, hz]; rfl)
  rw [withIx_len] at h1 h2
  exact ⟨g, cap, h1, h2, h3⟩
theorem OwnC.lastL {i m : Nat} {s : Rs.Sch} (hs : C.scheds[i]? = some s) {l : Rs.Lay} (hl : s.lays[m]? = some l) : ∃ g cap, vs (.la i) = (some ⟨g, 0, none⟩, s.lays.length, cap) ∧ s.lays.length ≤ cap ∧ lo ≤ g ∧ g < w.heap.size ∧ ∀ j, j < 10 → w.cell? ⟨g, m * 10 + j, none⟩ = some (eLay (l, (vs (.me i m), vs (.wi i m))) j) ∧ w.frozen? ⟨g, m * 10 + j, none⟩ = false := by
  obtain ⟨g, cap, h1, h2, h3⟩ := own_cell (h.rLa hs) (by omega) (i := m) (x := (l, (vs (.me i m), vs (.wi i m)))) (by rw [withIx_get, hl]; rfl)
  rw [withIx_len] at h1 h2
  exact ⟨g, cap, h1, h2, h3⟩
theorem OwnC.len_s : C.scheds.length = (vs .sc).2.1 := by
  have := (own_list (h.row .sc) (by omega)).2
  rwa [withIx_len] at this
theorem OwnC.len_l {i : Nat} {s : Rs.Sch} (hs : C.scheds[i]? = some s) : s.lays.length = (vs (.la i)).2.1 := by
  have := (own_list (h.rLa hs) (by omega)).2
  rwa [withIx_len] at this
end
end Go.Proofs.YtphenbfhojdcpaaGreatDoor
