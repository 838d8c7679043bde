/- Package resolve: lastLayer and addWindow. Printed by gen_sc.py. -/
import Derived.Test.YtphenbfhojdcpaaGreatDoorKlG20
import Derived.Deep.RegionHeld3
namespace Go.Proofs.YtphenbfhojdcpaaGreatDoor
open Go.RowKit
set_option linter.unusedVariables false
set_option linter.unusedSimpArgs false
set_option maxRecDepth 100000
set_option maxHeartbeats 4000000 in
theorem lastLayer_no {C : Rs.Cfg} {N : Nat} {bc lo : Nat} {vs : Key → SV} {w : World} (h : OwnC w bc lo vs C) (hG : GoodC N C) (hN : N ≤ 900000) (hl : Rs.lastLay C = none) : Calls Tryz.prog 135 #[.pointer (some ⟨bc, 0, none⟩)] w fun e w' => e = .returned (.pointer none) ∧ w = w' := by
  have hln := h.len_s
  have k1 := h.slices.2.2.2
  unfold Rs.lastLay at hl
  cases hla : Rs.lastOf C.scheds with
  | none =>
    obtain ⟨v2, hv2⟩ : ∃ v, vs .sc = v := ⟨_, rfl⟩
    rw [hv2] at hln k1
    obtain ⟨A2, n2, c2⟩ := v2
    simp only at hln k1
    obtain rfl : n2 = 0 := by rw [← hln]; exact lastOf_none hla
    clear hla hln hv2 hl
    go_enter Tryz.func135, Tryz.ntmps135
    go_wp2_with fail
    refine (last_s0 _ _ _).mono ?_
    rintro e w9 ⟨rfl, rfl⟩
    go_wp2_with fail
    go_ret
    exact ⟨rfl, rfl⟩
  | some s =>
    rw [hla] at hl
    simp only at hl
    have hl2 : Rs.lastOf s.lays = none := by
      cases hq : Rs.lastOf s.lays with
      | none => rfl
      | some y => rw [hq] at hl; cases hl
    obtain ⟨hz, hm1⟩ := lastOf_some hla
    generalize hm : C.scheds.length - 1 = m at hz hm1
    obtain ⟨gz, cap0, ez, hcap, hlo, hsz, hcl⟩ := h.lastS hz
    rw [ez] at k1
    simp only at k1
    have hlen6 : C.scheds.length ≤ 1000000 := by have := hG.sl; omega
    have LP := Lib.hid (last_s gz C.scheds.length m cap0 hm1.symm hlen6)
    generalize hpl : C.scheds.length = np at LP k1
    have hll := h.len_l hz
    have c1 := (hcl 1 (by omega)).1
    simp only [eSch] at c1
    obtain ⟨v2, hv2⟩ : ∃ v, vs (.la m) = v := ⟨_, rfl⟩
    rw [hv2] at hll c1
    obtain ⟨A2, n2, c2⟩ := v2
    simp only at hll c1
    obtain rfl : n2 = 0 := by rw [← hll]; exact lastOf_none hl2
    clear hla hln hv2 hl hl2 hcl hm hpl hm1 hll hcap
    go_enter Tryz.func135, Tryz.ntmps135
    go_wp2_with fail
    refine (LP.out _).mono ?_
    rintro e w9 ⟨rfl, rfl⟩
    go_wp2_with fail
    refine (last_l0 _ _ _).mono ?_
    rintro e w9 ⟨rfl, rfl⟩
    go_wp2_with fail
    go_ret
    exact ⟨rfl, rfl⟩
theorem lastLay_some {C : Rs.Cfg} {s : Rs.Sch} {l : Rs.Lay} (h : Rs.lastLay C = some (s, l)) : C.scheds[C.scheds.length - 1]? = some s ∧ C.scheds.length - 1 + 1 = C.scheds.length ∧ s.lays[s.lays.length - 1]? = some l ∧ s.lays.length - 1 + 1 = s.lays.length := by
  unfold Rs.lastLay at h
  cases hla : Rs.lastOf C.scheds with
  | none => rw [hla] at h; cases h
  | some s' =>
    rw [hla] at h
    simp only at h
    cases hq : Rs.lastOf s'.lays with
    | none => rw [hq] at h; cases h
    | some y =>
      rw [hq] at h
      cases h
      exact ⟨(lastOf_some hla).1, (lastOf_some hla).2, (lastOf_some hq).1, (lastOf_some hq).2⟩
set_option maxHeartbeats 4000000 in
theorem lastLayer_yes {C : Rs.Cfg} {N : Nat} {bc lo n m gl cap : Nat} {s : Rs.Sch} {l : Rs.Lay} {vs : Key → SV} {w : World} (h : OwnC w bc lo vs C) (hG : GoodC N C) (hN : N ≤ 900000) (hs : C.scheds[n]? = some s) (hn : n + 1 = C.scheds.length) (hl : s.lays[m]? = some l) (hm : m + 1 = s.lays.length) (ez : vs (.la n) = (some ⟨gl, 0, none⟩, s.lays.length, cap)) :
    Calls Tryz.prog 135 #[.pointer (some ⟨bc, 0, none⟩)] w fun e w' => e = .returned (.pointer (some ⟨gl, m * 10, none⟩)) ∧ w = w' := by
  have k1 := h.slices.2.2.2
  obtain ⟨gz, cap0, ez2, hcap, hlo, hsz, hcl⟩ := h.lastS hs
  rw [ez2] at k1
  simp only at k1
  have hlen6 : C.scheds.length ≤ 1000000 := by have := hG.sl; omega
  have hlen7 : s.lays.length ≤ 1000000 := by have := (hG.ss s (List.mem_of_getElem? hs)).1; omega
  have LP := Lib.hid (last_s gz C.scheds.length n cap0 hn.symm hlen6)
  have LQ := Lib.hid (last_l gl s.lays.length m cap hm.symm hlen7)
  generalize hpl : C.scheds.length = np at LP k1
  have c1 := (hcl 1 (by omega)).1
  simp only [eSch] at c1
  rw [ez] at c1
  simp only at c1
  generalize hpm : s.lays.length = nq at LQ c1
  clear hcl hn hm hpl hcap hpm hlen6 hlen7 hs hl ez ez2
  go_enter Tryz.func135, Tryz.ntmps135
  go_wp2_with fail
  refine (LP.out _).mono ?_
  rintro e w9 ⟨rfl, rfl⟩
  go_wp2_with fail
  refine (LQ.out _).mono ?_
  rintro e w9 ⟨rfl, rfl⟩
  go_wp2_with fail
  go_ret
  exact ⟨rfl, rfl⟩
end Go.Proofs.YtphenbfhojdcpaaGreatDoor
