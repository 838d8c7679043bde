/- Package resolve: Person, Schedule, and what useCalendar hands back. Printed by gen_se.py. Package resolve: addMembers. Printed by gen_sf.py. -/
import Derived.Test.YtphenbfhojdcpaaGreatDoorKlScf
import Derived.Test.YtphenbfhojdcpaaGreatDoorKlRk
import Derived.Deep.RegionHeld3
import Derived.Test.YtphenbfhojdcpaaGreatDoorKlG20
namespace Go.Proofs.YtphenbfhojdcpaaGreatDoor
open Go.RowKit
set_option linter.unusedVariables false
set_option linter.unusedSimpArgs false
set_option maxRecDepth 100000
set_option maxHeartbeats 2000000 in
theorem Person_is {l : List Rs.Pers} {x : List UInt8} {p : Int × Bool} (hp : Rs.findS (l.map (·.name)) x = p) (A1 A2 A3 A4 : Option Addr) (n1 c1 n2 c2 n3 c3 n4 c4 : Nat) (w : World) (hA : Nest 6 ePers PersOk 0 w.heap.size w (A2, n2, c2) l) :
    Calls Tryz.prog 16 #[.agg #[.slice A1 n1 c1, .slice A2 n2 c2, .slice A3 n3 c3, .slice A4 n4 c4], .string ⟨x.toArray⟩] w fun e w' => e = .returned (.tuple #[.int .i64 p.1, .bool p.2]) ∧ Below w.heap.size w w' := by
  have B0 := (Below.refl _ w).alloc (Nat.le_refl _) (.cells #[.slice A1 n1 c1, .slice A2 n2 c2, .slice A3 n3 c3, .slice A4 n4 c4] 27)
  have C := Lib.hid (p_find hp A2 n2 c2 _ (p_nest hA B0))
  clear hp hA
  go_enter Tryz.func16, Tryz.ntmps16
  go_wp2_with fail
  refine C.out.mono ?_
  rintro e w1 ⟨rfl, b1⟩
  have B1 := bstep B0 b1
  go_wp2_with fail
  go_ret2
  exact ⟨rfl, B1⟩
set_option maxHeartbeats 2000000 in
theorem Schedule_is {l : List Rs.Sch} {x : List UInt8} {p : Int × Bool} (hp : Rs.findS (l.map (·.name)) x = p) (A1 A2 A3 A4 : Option Addr) (n1 c1 n2 c2 n3 c3 n4 c4 : Nat) (w : World) (hA : Nest 3 eSch SchOk 0 w.heap.size w (A4, n4, c4) l) :
    Calls Tryz.prog 17 #[.agg #[.slice A1 n1 c1, .slice A2 n2 c2, .slice A3 n3 c3, .slice A4 n4 c4], .string ⟨x.toArray⟩] w fun e w' => e = .returned (.tuple #[.int .i64 p.1, .bool p.2]) ∧ Below w.heap.size w w' := by
  have B0 := (Below.refl _ w).alloc (Nat.le_refl _) (.cells #[.slice A1 n1 c1, .slice A2 n2 c2, .slice A3 n3 c3, .slice A4 n4 c4] 27)
  have C := Lib.hid (s_find hp A4 n4 c4 _ (s_nest hA B0))
  clear hp hA
  go_enter Tryz.func17, Tryz.ntmps17
  go_wp2_with fail
  refine C.out.mono ?_
  rintro e w1 ⟨rfl, b1⟩
  have B1 := bstep B0 b1
  go_wp2_with fail
  go_ret2
  exact ⟨rfl, B1⟩
end Go.Proofs.YtphenbfhojdcpaaGreatDoor
namespace Go.Proofs.YtphenbfhojdcpaaGreatDoor
open Go.RowKit
set_option linter.unusedVariables false
set_option linter.unusedSimpArgs false
set_option maxRecDepth 100000
def memC (C : Rs.Cfg) (i m : Nat) (s : Rs.Sch) (y : Rs.Lay) (ms : List Int) : Rs.Cfg := { C with scheds := C.scheds.set i { s with lays := s.lays.set m { y with mem := y.mem ++ ms } } }
theorem set_id {α : Type} {l : List α} {m : Nat} {x : α} (h : l[m]? = some x) : l.set m x = l := by
  refine List.ext_getElem? fun i => ?_
  by_cases hi : i = m
  · subst hi; rw [set_self h, h]
  · rw [set_other hi]
theorem memC_nil {C : Rs.Cfg} {i m : Nat} {s : Rs.Sch} {y : Rs.Lay} (h : C.scheds[i]? = some s) (hy : s.lays[m]? = some y) : memC C i m s y [] = C := by
  unfold memC
  have e : ({ y with mem := y.mem ++ [] } : Rs.Lay) = y := by cases y; simp
  rw [e, set_id hy]
  have e2 : ({ s with lays := s.lays } : Rs.Sch) = s := rfl
  rw [e2, set_id h]
theorem memC_snoc {C : Rs.Cfg} {i m : Nat} {s : Rs.Sch} {y : Rs.Lay} {ms ds : List Int} {d : Int} (hd : y.mem ++ ms = ds) : ({ memC C i m s y ms with scheds := (memC C i m s y ms).scheds.set i { ({ s with lays := s.lays.set m { y with mem := ds } } : Rs.Sch) with lays := (s.lays.set m { y with mem := ds }).set m { ({ y with mem := ds } : Rs.Lay) with mem := ds ++ [d] } } } : Rs.Cfg) = memC C i m s y (ms ++ [d]) := by
  subst hd
  unfold memC
  simp only [List.set_set, List.append_assoc]
theorem memS_snoc {ns : List Rs.Nm} : ∀ {l : List Lx.Tk} {a : List Int} {t : Lx.Tk} {q : Int}, Rs.memS ns l = some a → Rs.findS ns t.2.1 = (q, true) → Rs.memS ns (l ++ [t]) = some (a ++ [q])
  | [], a, t, q, h, hf => by
    cases h
    show Rs.memS ns [t] = _
    unfold Rs.memS
    rw [hf]
    rfl
  | u :: r, a, t, q, h, hf => by
    unfold Rs.memS at h
    show Rs.memS ns (u :: (r ++ [t])) = _
    unfold Rs.memS
    by_cases hu : (Rs.findS ns u.2.1).2 = false
    · rw [if_pos hu] at h; cases h
    · rw [if_neg hu] at h ⊢
      cases hr : Rs.memS ns r with
      | none => rw [hr] at h; cases h
      | some b =>
        rw [hr] at h
        cases h
        rw [memS_snoc hr hf]
        rfl
theorem memS_bad {ns : List Rs.Nm} : ∀ {l : List Lx.Tk} {a : List Int} {t : Lx.Tk} {r : List Lx.Tk} {q : Int}, Rs.memS ns l = some a → Rs.findS ns t.2.1 = (q, false) → Rs.memS ns (l ++ t :: r) = none
  | [], a, t, r, q, h, hf => by
    show Rs.memS ns (t :: r) = _
    unfold Rs.memS
    rw [hf]
    rfl
  | u :: l, a, t, r, q, h, hf => by
    unfold Rs.memS at h
    show Rs.memS ns (u :: (l ++ t :: r)) = _
    unfold Rs.memS
    by_cases hu : (Rs.findS ns u.2.1).2 = false
    · rw [if_pos hu]
    · rw [if_neg hu] at h ⊢
      cases hr : Rs.memS ns l with
      | none => rw [hr] at h; cases h
      | some b => rw [memS_bad hr hf]
/-- The people, while the rest grows. -/
theorem OwnC.pnest {w : World} {bc lo : Nat} {vs : Key → SV} {C : Rs.Cfg} (h : OwnC w bc lo vs C) (hl : C.people.length ≤ 1000000) (hq : ∀ p ∈ C.people, p.quiet.length ≤ 1000000) : Nest 6 ePers PersOk 0 w.heap.size w (vs .pe) C.people := by
  refine ⟨withIx (fun i => vs (.qu i)) C.people, withIx_fst, lin_own (h.row .pe) (by omega) (by rw [withIx_len]; omega), ?_⟩
  intro x hx
  obtain ⟨i, hi⟩ := List.getElem?_of_mem hx
  rw [withIx_get] at hi
  cases hz : C.people[i]? with
  | none => rw [hz] at hi; cases hi
  | some z =>
    rw [hz] at hi
    cases hi
    exact lin_own (h.rQu hz) (by omega) (hq z (List.mem_of_getElem? hz))
set_option maxHeartbeats 16000000 in
theorem addMem_is {C : Rs.Cfg} {N : Nat} {l : List Lx.Tk} (A : Option Addr) (n c bc lo : Nat) (vs : Key → SV) (w : World) (h : OwnC w bc lo vs C) (hG : GoodC N C) (hN : N ≤ 890000) (hT : TokIn w bc A l) (hl : 1 ≤ l.length) (hn : l.length = n) (hn6 : n ≤ 1000) :
    Calls Tryz.prog 93 #[.pointer (some ⟨bc, 0, none⟩), .slice A n c] w (StepV bc lo w (Rs.addMem C l)) := by
  have hlt := h.lt
  have hle := h.le
  have hN9 : N ≤ 900000 := by omega
  obtain ⟨R, hR⟩ : ∃ R, Rs.addMem C l = R := ⟨_, rfl⟩
  rw [hR]
  unfold Rs.addMem at hR
  cases hla : Rs.lastLay C with
  | none =>
    rw [hla] at hR
    subst hR
    simp only
    have HL := Lib.hid (lastLayer_no h hG hN9 hla)
    clear hla
    go_enter Tryz.func93, Tryz.ntmps93
    go_wp2_with fail
    refine HL.out.mono ?_
    rintro e w9 ⟨rfl, rfl⟩
    go_wp2_with fail
    go_ret
    exact step_err (.refl _ _ _) (.refl _) (by decide)
  | some sy =>
    obtain ⟨s, y⟩ := sy
    rw [hla] at hR
    simp only at hR
    obtain ⟨hs, hn1, hy, hm1⟩ := lastLay_some hla
    have hset : ∀ y', Rs.setLay C s y' = { C with scheds := C.scheds.set (C.scheds.length - 1) { s with lays := s.lays.set (s.lays.length - 1) y' } } := fun _ => rfl
    have hRn : Rs.memS C.pn l = none → R = (3, C) := fun e => by rw [e] at hR; exact hR.symm
    have hRs : ∀ m, Rs.memS C.pn l = some m → R = (0, memC C (C.scheds.length - 1) (s.lays.length - 1) s y m) := fun m e => by rw [e] at hR; exact hR.symm
    clear hR hset
    generalize C.scheds.length - 1 = i at hs hn1 hRs
    generalize s.lays.length - 1 = m at hy hm1 hRs
    obtain ⟨gl, cap0, ez, hcap, hlo, hsz, hcl⟩ := h.lastL hs hy
    have HL := Lib.hid (lastLayer_yes h hG hN9 hs hn1 hy hm1 ez)
    have H0 : Hid (Rs.memS C.pn (l.take 0) = some [] ∧ ([] : List Int).length = 0 ∧ But bc lo w w ∧ Stm w w ∧ ∃ vs', OwnC w bc lo vs' (memC C i m s y []) ∧ vs' (.la i) = vs (.la i)) := Lib.hid ⟨by rw [List.take_zero]; rfl, rfl, .refl _ _ _, .refl _, vs, by rw [memC_nil hs hy]; exact h, rfl⟩
    have HD := Lib.hid ((hG.ss s (List.mem_of_getElem? hs)).2.2.2 y (List.mem_of_getElem? hy)).1
    have HPL : Hid (C.people.length ≤ 1000000 ∧ ∀ p ∈ C.people, p.quiet.length ≤ 1000000) := Lib.hid ⟨by have := hG.pl; omega, fun p hp => by have := hG.ps p hp; omega⟩
    have HN := Lib.hid hn
    have HT := Lib.hid hT
    have HS := Lib.hid hs
    have HY := Lib.hid hy
    have HE := Lib.hid ez
    have HRN := Lib.hid hRn
    have HRS := Lib.hid hRs
    clear hla hn1 hm1 hcap hcl h hG hT hn hs hy ez hlo hRn hRs
    go_enter Tryz.func93, Tryz.ntmps93
    go_wp2_with fail
    refine HL.out.mono ?_
    rintro e w9 ⟨rfl, rfl⟩
    clear HL
    go_wp2_with fail
    go_loopw [16] (fun i' wr => ∃ (k : Nat) (ms : List Int), k ≤ n ∧ i' = .int .i64 k ∧ Hid (Rs.memS C.pn (l.take k) = some ms ∧ ms.length = k ∧ But bc lo w wr ∧ Stm w wr ∧ ∃ vs', OwnC wr bc lo vs' (memC C i m s y ms) ∧ vs' (.la i) = vs (.la i))) (fun i' _ => n - (intOf i').toNat)
    case atStart => exact ⟨0, [], Nat.zero_le _, rfl, H0⟩
    case round =>
      clear H0
      obtain ⟨k, ms, hk, rfl, HK⟩ := hrel
      by_cases hlt2 : k < n
      · obtain ⟨hms, hml, hbk, hst0, vk, hok, hvk⟩ := HK.out
        have HST := Lib.hid hst0
        clear hst0
        obtain ⟨⟨yk, yt, yn⟩, hyt⟩ := get_ex (xs := l) (i := k) (by rw [HN.out]; exact hlt2)
        obtain ⟨b, off, rfl, c0, c1, c2⟩ := tok_elem (HT.out.but hbk hlt).at_ hyt
        simp only at c0 c1 c2
        have hfb := HT.out.far _ rfl
        simp only at hfb
        have B2 := (Below.refl wr.heap.size wr).alloc (Nat.le_refl _) (.cells #[.int .i64 yk, .string ⟨yt.toArray⟩, .int .i64 yn] 115)
        have N2 := BlkAt.new wr #[.int .i64 yk, .string ⟨yt.toArray⟩, .int .i64 yn] 115
        obtain ⟨p, hp⟩ : ∃ p, Rs.findS C.pn yt = p := ⟨_, rfl⟩
        have hpn := hok.pnest (show (memC C i m s y ms).people.length ≤ 1000000 from HPL.out.1) HPL.out.2
        go_wp2_with fail
        generalize wr.alloc (.cells #[.int .i64 yk, .string ⟨yt.toArray⟩, .int .i64 yn] 115) = w2 at B2 N2 ⊢
        have h2 := hok.below B2
        have hB2 := hbk.trans (.of_below (bc := bc) B2 hok.le)
        have hsl := h2.slices
        have hpn2 := p_nest hpn B2
        obtain ⟨vz, hvz⟩ : ∃ v, vk .zn = v := ⟨_, rfl⟩
        obtain ⟨vp, hvp⟩ : ∃ v, vk .pe = v := ⟨_, rfl⟩
        obtain ⟨vc, hvc⟩ : ∃ v, vk .ca = v := ⟨_, rfl⟩
        obtain ⟨vs4, hvs4⟩ : ∃ v, vk .sc = v := ⟨_, rfl⟩
        rw [hvz, hvp, hvc, hvs4] at hsl
        rw [hvp] at hpn2
        obtain ⟨P1, p1, q1⟩ := vz
        obtain ⟨P2, p2, q2⟩ := vp
        obtain ⟨P3, p3, q3⟩ := vc
        obtain ⟨P4, p4, q4⟩ := vs4
        simp only at hsl
        have tc1 : w2.cell? ⟨wr.heap.size, 1, none⟩ = some (.string ⟨yt.toArray⟩) := N2.cell rfl
        have HS0 : Hid (∀ W, Below w2.heap.size w2 W → W.cell? ⟨bc, 0, none⟩ = some (.slice P1 p1 q1) ∧ W.cell? ⟨bc, 1, none⟩ = some (.slice P2 p2 q2) ∧ W.cell? ⟨bc, 2, none⟩ = some (.slice P3 p3 q3) ∧ W.cell? ⟨bc, 3, none⟩ = some (.slice P4 p4 q4) ∧ W.cell? ⟨wr.heap.size, 1, none⟩ = some (.string ⟨yt.toArray⟩)) := Lib.hid fun W hW => ⟨cell_lift hsl.1 hW, cell_lift hsl.2.1 hW, cell_lift hsl.2.2.1 hW, cell_lift hsl.2.2.2 hW, cell_lift tc1 hW⟩
        have CF := Lib.hid (fun (W : World) (hW : Below w2.heap.size w2 W) => Person_is (l := C.people) hp P1 P2 P3 P4 p1 q1 p2 q2 p3 q3 p4 q4 W (p_nest hpn2 hW))
        clear hsl hpn2 hpn hvz hvp hvc hvs4 tc1
        obtain ⟨q, ok⟩ := p
        have HP := Lib.hid hp
        clear hp
        go_region_held3 (fun W => W.cell? ⟨bc, 0, none⟩ = some (.slice P1 p1 q1) ∧ W.cell? ⟨bc, 1, none⟩ = some (.slice P2 p2 q2) ∧ W.cell? ⟨bc, 2, none⟩ = some (.slice P3 p3 q3) ∧ W.cell? ⟨bc, 3, none⟩ = some (.slice P4 p4 q4) ∧ W.cell? ⟨wr.heap.size, 1, none⟩ = some (.string ⟨yt.toArray⟩))
          (first | exact HS0.out _ (bdrewN (Below.refl _ _) 1) | exact HS0.out _ hw3)
          (first | (go_at_call 16; ((with_reducible refine (CF.out _ (Below.refl _ _).drew).mono ?_); rintro e w3 ⟨rfl, hb3⟩; have hw3 : Below w2.heap.size w2 w3 := ((Below.refl w2.heap.size w2).drew).trans hb3)))
        cases ok
        · have HST3 := Lib.hid ((HST.out.trans (.of_below B2)).trans (.of_below hw3))
          have HR := Lib.hid (HRN.out (by rw [← List.take_append_drop k l, drop_cons' hyt]; exact memS_bad hms HP.out))
          have HB3 := Lib.hid (hB2.below hw3 hle)
          clear hyt HK c0 c1 c2
          go_wp2_with fail
          go_ret
          rw [HR.out]
          exact step_err HB3.out HST3.out (by decide)
        · have hs1 : (memC C i m s y ms).scheds[i]? = some { s with lays := s.lays.set m { y with mem := y.mem ++ ms } } := set_self HS.out
          have hy1 : (s.lays.set m { y with mem := y.mem ++ ms })[m]? = some { y with mem := y.mem ++ ms } := set_self HY.out
          obtain ⟨ds, hds⟩ : ∃ ds, y.mem ++ ms = ds := ⟨_, rfl⟩
          rw [hds] at hs1 hy1
          obtain ⟨g1, cap1, ez1, -, hlo1, hsz1, hcl1⟩ := hok.lastL hs1 hy1
          have eg : g1 = gl := by have := hvk.symm.trans ez1; rw [HE.out] at this; injection this with h1 h2; injection h1 with h1; injection h1 with h1 h2; exact h1.symm
          subst eg
          have hap0 := hok.apart (κ := .la i) (κ' := .me i m) (fun e => by cases e) (g := g1) (by rw [ez1]; rfl)
          have hez : (vk (.la i)).1 = some ⟨g1, 0, none⟩ := by rw [ez1]
          have hdl : ds.length ≤ 900000 := by
            rw [← hds, List.length_append]
            have h1 := HD.out
            omega
          have h3 := h2.below hw3
          have B23 := bstep B2 hw3
          have HB3 := Lib.hid (hB2.below hw3 hle)
          have HST3 := Lib.hid ((HST.out.trans (.of_below B2)).trans (.of_below hw3))
          have s0 : w3.cell? ⟨g1, m * 10 + 6, none⟩ = some (eLay (({ y with mem := ds } : Rs.Lay), (vk (.me i m), vk (.wi i m))) 6) := cell_lift (hcl1 6 (by omega)).1 B23
          have hfr : w3.frozen? ⟨g1, m * 10 + 6, none⟩ = false := (B23.frozen (p := ⟨g1, m * 10 + 6, none⟩) hsz1).trans (hcl1 6 (by omega)).2
          simp only [eLay] at s0
          obtain ⟨hO1, hlen1⟩ := own_list (h3.rMe hs1 hy1) (by omega)
          obtain ⟨v1, hv1⟩ : ∃ v, vk (.me i m) = v := ⟨_, rfl⟩
          rw [hv1] at hO1 hlen1 hap0 s0
          obtain ⟨A1, n1, c1'⟩ := v1
          simp only [sv] at s0 hO1 hlen1 hap0
          have HO := Lib.hid hO1
          have HZ : Hid (ds.length = n1 ∧ n1 ≤ 900000) := Lib.hid ⟨hlen1, hlen1 ▸ hdl⟩
          have HF := Lib.hid (fun (W W1 : World) (g cap : Nat) => fin_member2 (W := W) (W1 := W1) (g := g) (cap := cap) (r := q) h3 hs1 hy1 rfl rfl hv1 hlen1 hez)
          have N : Hid (memC C i m s y (ms ++ [q]) = { memC C i m s y ms with scheds := (memC C i m s y ms).scheds.set i { ({ s with lays := s.lays.set m { y with mem := ds } } : Rs.Sch) with lays := (s.lays.set m { y with mem := ds }).set m { ({ y with mem := ds } : Rs.Lay) with mem := ds ++ [q] } } }) := Lib.hid (memC_snoc hds).symm
          have N2' : Hid (Rs.memS C.pn (l.take (k + 1)) = some (ms ++ [q]) ∧ (ms ++ [q]).length = k + 1) := Lib.hid ⟨by rw [take_snoc' hyt]; exact memS_snoc hms HP.out, by simp [hml]⟩
          have hσ : some g1 ≠ (Value.slice A1 n1 c1').ownBlock := fun e => hap0 e.symm
          have HC : Hid (∀ W, w3.grownBy W (Value.slice A1 n1 c1').ownBlock → W.cell? ⟨g1, m * 10 + 6, none⟩ = some (.slice A1 n1 c1') ∧ W.frozen? ⟨g1, m * 10 + 6, none⟩ = false) := Lib.hid fun W hW => ⟨lim hσ s0 W hW, limF hσ (by have := B23.size; omega) hfr W hW⟩
          have hle3 := h3.le
          clear hcl1 hyt HK c0 c1 c2 hds hO1 hlen1 hap0 hfr hσ hs1 hy1 hdl hv1 hez ez1 hb3 B23
          go_wp2_with (at_builtin; refine wp_append_one kInt _ rfl _ _ rfl lo (.slice A1 n1 c1') ds rfl (HO.out.alloc _) w3.heap.size q rfl (one_new (blk_now rfl) (int_vals _)) (by have := HZ.out; omega) (by simp; omega) ?_; intro g cap w' hO' hB' hg hgo hlt'; have hq : w3.grownBy w' (Value.slice A1 n1 c1').ownBlock := grown_trans (grown_alloc (grown_refl _ _) _) hg; have y1 := (HC.out _ hq).1; have y2 := (HC.out _ hq).2; rw [HZ.out.1])
          go_roundw
          case rel =>
            have hf := HF.out _ _ _ _ ((Below.refl _ _).alloc (Nat.le_refl _) _) hO' hg hgo
            obtain ⟨f1, fs, vf, f2, f3⟩ := hf
            exact ⟨k + 1, ms ++ [q], by omega, by go_num, Lib.hid ⟨N2'.out.1, N2'.out.2, HB3.out.trans f1, HST3.out.trans fs, vf, by rw [N.out]; exact f2, f3.trans hvk⟩⟩
          case measure => (simp [intOf]; omega)
      · have hk2 : k = n := by omega
        obtain ⟨hms, hml, hbk, -, vk, hok, hvk⟩ := HK.out
        rw [List.take_of_length_le (by rw [HN.out]; omega)] at hms
        have hfin : StepV bc lo w R (.returned (.int .i64 0)) wr := by rw [HRS.out ms hms]; exact ⟨rfl, hbk, fun _ => ⟨vk, hok⟩, fun h => absurd rfl h⟩
        have HFI := Lib.hid hfin
        clear hfin hok hbk hvk HK hk2 hms hml
        go_wp2_with fail
        go_ret
        exact HFI.out
end Go.Proofs.YtphenbfhojdcpaaGreatDoor
