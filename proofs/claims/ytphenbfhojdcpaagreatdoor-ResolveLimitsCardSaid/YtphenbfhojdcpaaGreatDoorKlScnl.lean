/- A configuration that is being built, read: its lists lie from block lo on (as OwnC.cfg, with lo in the place of 0). -/
import Derived.Test.YtphenbfhojdcpaaGreatDoorKlG15
namespace Go.Proofs.YtphenbfhojdcpaaGreatDoor
open Go.RowKit
set_option linter.unusedVariables false
set_option linter.unusedSimpArgs false
set_option maxRecDepth 100000
section
variable {α : Type} {k : Nat} {e : α → Nat → Value}
theorem lin_ownL {T : TypeId} {v : SV} {xs : List α} {w : World} {lo : Nat} (h : Row.own ⟨T, k, v, encK k e xs⟩ w lo) (hk : 0 < k) (hl : xs.length ≤ 1000000) : LIn k e lo w.heap.size w v xs := by
  obtain ⟨h1, h2⟩ := own_list h hk
  obtain ⟨A, c, ev, hc, hn, hl1⟩ := h1.shape
  obtain ⟨A', n', c'⟩ := v
  unfold sv at ev
  simp only [Value.slice.injEq] at ev h2
  obtain ⟨rfl, e2, rfl⟩ := ev
  refine ⟨hl1, h2, by simp only; omega, by simp only; omega, fun ad ea => ?_⟩
  simp only at ea
  subst ea
  have := Row.lt h (g := ad.block) rfl
  omega
end
theorem OwnC.cfgL {w : World} {bc lo N : Nat} {vs : Key → SV} {C : Rs.Cfg} (h : OwnC w bc lo vs C) (hG : GoodC N C) (hN : N ≤ 1000000) : CfgAt lo w.heap.size w (vs .zn) (vs .pe) (vs .ca) (vs .sc) C := by
  refine ⟨⟨withIx (fun i => vs (.ru i)) C.zones, withIx_fst, lin_ownL (h.row .zn) (by omega) (by rw [withIx_len]; have := hG.zl; omega), ?_⟩, ⟨withIx (fun i => vs (.qu i)) C.people, withIx_fst, lin_ownL (h.row .pe) (by omega) (by rw [withIx_len]; have := hG.pl; omega), ?_⟩,
    ⟨withIx (fun i => vs (.da i)) C.cals, withIx_fst, lin_ownL (h.row .ca) (by omega) (by rw [withIx_len]; have := hG.cl; omega), ?_⟩, ⟨withIx (fun i => (vs (.la i), vs (.ed i))) C.scheds, withIx_fst, lin_ownL (h.row .sc) (by omega) (by rw [withIx_len]; have := hG.sl; omega), ?_⟩⟩
  · intro x hx
    obtain ⟨i, hi⟩ := List.getElem?_of_mem hx
    rw [withIx_get] at hi
    cases hz : C.zones[i]? with
    | none => rw [hz] at hi; cases hi
    | some z =>
      rw [hz] at hi
      cases hi
      have hg := hG.zs z (List.mem_of_getElem? hz)
      have hr := h.rRu hz
      exact ⟨lin_ownL hr (by omega) (by have := hg.1; simp; omega), hg.2.2, hg.2.1⟩
  · intro x hx
    obtain ⟨i, hi⟩ := List.getElem?_of_mem hx
    rw [withIx_get] at hi
    cases hz : C.people[i]? with
    | none => rw [hz] at hi; cases hi
    | some z =>
      rw [hz] at hi
      cases hi
      have hg := hG.ps z (List.mem_of_getElem? hz)
      have hr := h.rQu hz
      exact lin_ownL hr (by omega) (by have := hg; simp; omega)
  · intro x hx
    obtain ⟨i, hi⟩ := List.getElem?_of_mem hx
    rw [withIx_get] at hi
    cases hz : C.cals[i]? with
    | none => rw [hz] at hi; cases hi
    | some z =>
      rw [hz] at hi
      cases hi
      have hg := hG.cs z (List.mem_of_getElem? hz)
      have hr := h.rDa hz
      exact ⟨lin_ownL hr (by omega) (by have := hg.1; simp; omega), hg.2⟩
  · intro x hx
    obtain ⟨i, hi⟩ := List.getElem?_of_mem hx
    rw [withIx_get] at hi
    cases hz : C.scheds[i]? with
    | none => rw [hz] at hi; cases hi
    | some z =>
      rw [hz] at hi
      cases hi
      have hg := hG.ss z (List.mem_of_getElem? hz)
      have hr := h.rLa hz
      have hr2 := h.rEd hz
      refine ⟨⟨withIx (fun j => (vs (.me i j), vs (.wi i j))) z.lays, withIx_fst, lin_ownL hr (by omega) (by rw [withIx_len]; have := hg.1; omega), ?_⟩, lin_ownL hr2 (by omega) (by have := hg.2.1; simp; omega), hg.2.2.1⟩
      intro y hy
      obtain ⟨j, hj⟩ := List.getElem?_of_mem hy
      rw [withIx_get] at hj
      cases hl : z.lays[j]? with
      | none => rw [hl] at hj; cases hj
      | some l =>
        rw [hl] at hj
        cases hj
        have hg2 := hg.2.2.2 l (List.mem_of_getElem? hl)
        have h1 := h.rMe hz hl
        have h2 := h.rWi hz hl
        exact ⟨lin_ownL h1 (by omega) (by have := hg2.1; simp; omega), lin_ownL h2 (by omega) (by have := hg2.2.1; simp; omega), hg2.2.2⟩
end Go.Proofs.YtphenbfhojdcpaaGreatDoor
