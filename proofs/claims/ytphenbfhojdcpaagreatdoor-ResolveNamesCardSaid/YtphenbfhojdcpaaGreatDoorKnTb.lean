/- The law ResolveNames returns true for every list of numbers and every string. -/
import Derived.Test.YtphenbfhojdcpaaGreatDoorKnDx
import Derived.Test.YtphenbfhojdcpaaGreatDoorKnSdv
namespace Go.Proofs.YtphenbfhojdcpaaGreatDoor
open Go.RowKit
set_option linter.unusedVariables false
set_option linter.unusedSimpArgs false
set_option maxRecDepth 100000
theorem str_of (s : ByteArray) : ∃ x : List UInt8, s = ⟨x.toArray⟩ := ⟨s.data.toList, by cases s; simp⟩
theorem any_succ {ns : List Rs.Nm} {x y : Rs.Nm} {k : Nat} (h : ns[k]? = some y) : (ns.take (k + 1)).any (fun z => decide (z = x)) = ((ns.take k).any (fun z => decide (z = x)) || decide (y = x)) := by
  rw [List.take_add_one, h, List.any_append]
  simp
/-- What stands while the names are looked up. -/
structure NmK (w : World) (bc : Nat) (C : Rs.Cfg) (a b d v : SV) (W : World) : Prop where
  base : Below w.heap.size w W
  cfg : BlkAt W bc #[.slice a.1 a.2.1 a.2.2, .slice b.1 b.2.1 b.2.2, .slice d.1 d.2.1 d.2.2, .slice v.1 v.2.1 v.2.2] 27
  at_ : CfgAt 0 W.heap.size W a b d v C
  lex : LexT W
theorem NmK.below {w W W' : World} {bc : Nat} {C : Rs.Cfg} {a b d v : SV} (h : NmK w bc C a b d v W) (hb : Below W.heap.size W W') : NmK w bc C a b d v W' :=
  ⟨bstep h.base hb, h.cfg.after hb, cfg_in h.at_ hb, h.lex.below hb⟩
theorem NmK.cells {w W : World} {bc : Nat} {C : Rs.Cfg} {a1 b1 d1 v1 : Option Addr} {a2 a3 b2 b3 d2 d3 v2 v3 : Nat} (h : NmK w bc C (a1, a2, a3) (b1, b2, b3) (d1, d2, d3) (v1, v2, v3) W) : W.cell? ⟨bc, 0, none⟩ = some (.slice a1 a2 a3) ∧ W.cell? ⟨bc, 1, none⟩ = some (.slice b1 b2 b3) ∧ W.cell? ⟨bc, 2, none⟩ = some (.slice d1 d2 d3) ∧ W.cell? ⟨bc, 3, none⟩ = some (.slice v1 v2 v3) := ⟨h.cfg.cell rfl, h.cfg.cell rfl, h.cfg.cell rfl, h.cfg.cell rfl⟩
theorem cells_lift {W W' : World} {bc bp o : Nat} {a1 b1 d1 v1 : Option Addr} {a2 a3 b2 b3 d2 d3 v2 v3 : Nat} {u : Value} (h : (W.cell? ⟨bc, 0, none⟩ = some (.slice a1 a2 a3) ∧ W.cell? ⟨bc, 1, none⟩ = some (.slice b1 b2 b3) ∧ W.cell? ⟨bc, 2, none⟩ = some (.slice d1 d2 d3) ∧ W.cell? ⟨bc, 3, none⟩ = some (.slice v1 v2 v3)) ∧ W.cell? ⟨bp, o, none⟩ = some u) (hb : Below W.heap.size W W') :
    W'.cell? ⟨bc, 0, none⟩ = some (.slice a1 a2 a3) ∧ W'.cell? ⟨bc, 1, none⟩ = some (.slice b1 b2 b3) ∧ W'.cell? ⟨bc, 2, none⟩ = some (.slice d1 d2 d3) ∧ W'.cell? ⟨bc, 3, none⟩ = some (.slice v1 v2 v3) ∧ W'.cell? ⟨bp, o, none⟩ = some u :=
  ⟨cell_lift h.1.1 hb, cell_lift h.1.2.1 hb, cell_lift h.1.2.2.1 hb, cell_lift h.1.2.2.2 hb, cell_lift h.2 hb⟩
set_option maxHeartbeats 16000000 in
theorem resnames_any (A : Option Addr) (n c : Nat) (zs : List Int) (s : ByteArray) (w : World) (hT : LexT w) (hA : NumsAt w A zs) (hn : zs.length = n) (hf : ∀ z ∈ zs, -9223372036854775808 ≤ z ∧ z ≤ 9223372036854775807) :
    Calls Tryz.prog 5 #[.slice A n c, .string s] w fun e w' => e = .returned (.bool true) ∧ Below w.heap.size w w' := by
  have HT := Lib.hid hT
  clear hT
  obtain ⟨x, rfl⟩ := str_of s
  by_cases h5 : n ≤ 500
  · have hl : decide ((n : Int) ≤ 500) = true := by simp; omega
    obtain ⟨z, hz⟩ : ∃ z, (⟨x.toArray⟩ : ByteArray).size = z := ⟨_, rfl⟩
    by_cases h100 : 100 < z
    · clear hA hn hf
      go_enter Tryz.func5, Tryz.ntmps5
      go_wp2_with fail
      refine (Light_any A n c _).mono ?_
      rw [hl]
      rintro e w' ⟨rfl, rfl⟩
      go_wp2_with fail
      refine (sane8_any _ HT.out).mono ?_
      rintro e w1 ⟨rfl, b1⟩
      go_wp2_with fail
      go_ret
      exact ⟨rfl, b1⟩
    · have D0 := Lib.hid (Dice.start (c := c) hA hn h5 hf)
      clear hA hn hf
      go_enter Tryz.func5, Tryz.ntmps5
      go_wp2_with fail
      refine (Light_any A n c _).mono ?_
      rw [hl]
      rintro e w' ⟨rfl, rfl⟩
      go_wp2_with fail
      refine (Roll_any A n c _).mono ?_
      rintro e w' ⟨rfl, rfl⟩
      go_wp2_with fail
      refine (Config_any w.heap.size n c A zs 3 (by decide) (by decide) _ D0.out).mono ?_
      rintro e w1 ⟨⟨a1, a2, a3⟩, ⟨b1, b2, b3⟩, ⟨d1, d2, d3⟩, ⟨v1, v2, v3⟩, C, rfl, hC, hM, -, -, -, -, hg, -⟩
      simp only [cfgV]
      have B1 := Lib.hid (below_of_grown ((Below.refl _ w).alloc (Nat.le_refl _) (.cells #[.slice A n c, .int .i64 0] 71)) hg (by simp) (Nat.le_refl _))
      have hpl : C.people.length = b2 := hC.people.len.1
      have hsl : C.scheds.length = v2 := hC.scheds.len.1
      have k1 := (Below.refl _ w1).alloc (Nat.le_refl _) (.cells #[.slice a1 a2 a3, .slice b1 b2 b3, .slice d1 d2 d3, .slice v1 v2 v3] 27)
      obtain ⟨bc, hbc⟩ : ∃ b, w1.heap.size = b := ⟨_, rfl⟩
      have HK := Lib.hid (show NmK w bc C (a1, a2, a3) (b1, b2, b3) (d1, d2, d3) (v1, v2, v3) (w1.alloc (.cells #[.slice a1 a2 a3, .slice b1 b2 b3, .slice d1 d2 d3, .slice v1 v2 v3] 27)) from ⟨bstep B1.out k1, blk_new hbc, cfg_in (hC.mono (Nat.zero_le _) (Nat.le_refl _)) k1, HT.out.below (bstep B1.out k1)⟩)
      have HM := Lib.hid hM
      have hpb : b2 ≤ 4 := by have := hM.pl; omega
      have hsb : v2 ≤ 3 := by have := hM.sl; omega
      have HPL := Lib.hid hpl
      have HSL := Lib.hid hsl
      have HCH := Lib.hid (check_cfg (Rs.made_ok hM) a1 b1 d1 v1 a2 a3 b2 b3 d2 d3 v2 v3 _ HK.out.at_ HK.out.lex.civ)
      have z0 := HK.out.cells.1
      have z1 := HK.out.cells.2.1
      have z2 := HK.out.cells.2.2.1
      have z3 := HK.out.cells.2.2.2
      clear hC hM hg D0 k1 hpl hsl B1
      go_wp2_with fail
      refine HCH.out.mono ?_
      rintro e w2 ⟨rfl, b2'⟩
      have HK2 := Lib.hid (HK.out.below b2')
      have y1 := HK2.out.cells.2.1
      clear b2' HCH HK z0 z1 z2 z3 hbc
      go_wp2_with fail
      go_loopw [6, 33] (fun vt vi wr => ∃ k : Nat, k ≤ b2 ∧ vi = .int .i64 k ∧ vt = .bool (((C.people.map (·.name)).take k).any fun y => decide (y = x)) ∧ Hid (NmK w bc C (a1, a2, a3) (b1, b2, b3) (d1, d2, d3) (v1, v2, v3) wr)) (fun _ vi _ => b2 - (intOf vi).toNat)
      case atStart => exact ⟨0, Nat.zero_le _, rfl, rfl, HK2⟩
      case round =>
        clear HK2 y1
        obtain ⟨k, hk, rfl, rfl, HK⟩ := hrel
        obtain ⟨th, hth⟩ : ∃ t, (((C.people.map (·.name)).take k).any fun y => decide (y = x)) = t := ⟨_, rfl⟩
        have HTH := Lib.hid hth
        rw [hth]
        clear hth
        by_cases hlt : k < b2
        · obtain ⟨p, y, bp, op, hp, ea, hbp, d0, -⟩ := p_elem HK.out.at_.people (i := k) hlt
          simp only at ea
          subst ea
          have hnk : (C.people.map (·.name))[k]? = some p.name := by rw [List.getElem?_map, hp]; rfl
          have HF := Lib.hid (show Rs.findS (C.people.map (·.name)) p.name = ((k : Int), true) from Rs.find_made Rs.okP HM.out.pn hnk)
          have HSU := Lib.hid (any_succ (x := x) hnk)
          obtain ⟨nm, hnm⟩ : ∃ q, p.name = q := ⟨_, rfl⟩
          rw [hnm] at d0 HF HSU
          have HC := Lib.hid (And.intro HK.out.cells d0)
          have HS := Lib.hid (fun W (hW : Below wr.heap.size wr W) => cells_lift HC.out hW)
          have HPP := Lib.hid (fun W (hW : Below wr.heap.size wr W) => Person_is HF.out a1 (some ⟨bp, op, none⟩) d1 v1 a2 a3 b2 b3 d2 d3 v2 v3 W (cfg_in HK.out.at_ hW).people)
          have z4 : (0 : Int) ≤ (k : Int) := by omega
          have z5 : (k : Int) < (b2 : Int) := by omega
          clear hp hnk hbp d0 hnm y
          go_wp2_with fail
          go_region_held3 (fun W => W.cell? ⟨bc, 0, none⟩ = some (.slice a1 a2 a3) ∧ W.cell? ⟨bc, 1, none⟩ = some (.slice (some ⟨bp, op, none⟩) b2 b3) ∧ W.cell? ⟨bc, 2, none⟩ = some (.slice d1 d2 d3) ∧ W.cell? ⟨bc, 3, none⟩ = some (.slice v1 v2 v3) ∧ W.cell? ⟨bp, op + k * 6, none⟩ = some (.string ⟨nm.toArray⟩))
            (first | exact HS.out _ (Below.refl _ _).drew | exact HS.out _ hw2)
            (first | (go_at_call 16; ((with_reducible refine (HPP.out _ (Below.refl _ _).drew).mono ?_); rintro e w2 ⟨rfl, hb2⟩; have hw2 : Below wr.heap.size wr w2 := ((Below.refl wr.heap.size wr).drew).trans hb2)))
          have HK3 := Lib.hid (HK.out.below hw2)
          obtain ⟨y0, y1, y2, y3, y4⟩ := HS.out _ hw2
          clear y0 y2 y3 hw2 hb2 HPP HS HC HF
          cases th
          · by_cases hx : nm = x
            · subst hx
              have HT2 : Hid ((((C.people.map (·.name)).take (k + 1)).any fun y => decide (y = nm)) = true) := Lib.hid (by rw [HSU.out]; simp)
              go_wp2_with fail
              go_roundw
              case rel => exact ⟨k + 1, by omega, by go_num, by rw [HT2.out], HK3⟩
              case measure => simp [intOf]; omega
            · have HT2 : Hid ((((C.people.map (·.name)).take (k + 1)).any fun y => decide (y = x)) = false) := Lib.hid (by rw [HSU.out, HTH.out]; simp [hx])
              have e1 : ¬ (⟨nm.toArray⟩ : ByteArray).toList = (⟨x.toArray⟩ : ByteArray).toList := by
                rw [Lib.toList_data, Lib.toList_data]
                simpa using hx
              have e2 : ((⟨nm.toArray⟩ : ByteArray).toList == (⟨x.toArray⟩ : ByteArray).toList) = false := by simpa using e1
              have e3 : (nm == x) = false := by simpa using hx
              clear hx
              go_wp2_with fail
              go_roundw
              case rel => exact ⟨k + 1, by omega, by go_num, by rw [HT2.out], HK3⟩
              case measure => simp [intOf]; omega
          · have HT2 : Hid ((((C.people.map (·.name)).take (k + 1)).any fun y => decide (y = x)) = true) := Lib.hid (by rw [HSU.out, HTH.out]; simp)
            go_wp2_with fail
            go_roundw
            case rel => exact ⟨k + 1, by omega, by go_num, by rw [HT2.out], HK3⟩
            case measure => simp [intOf]; omega
        · have hkb : k = b2 := by omega
          have HTA : Hid ((Rs.findS (C.people.map (·.name)) x).2 = th) := Lib.hid (by
            rw [Rs.find_there, ← HTH.out, hkb, List.take_of_length_le (by rw [List.length_map, HPL.out]; exact Nat.le_refl _)])
          have y3 := HK.out.cells.2.2.2
          clear hkb HTH
          go_wp2_with fail
          go_loopw [69] (fun vi wr => ∃ k : Nat, k ≤ v2 ∧ vi = .int .i64 k ∧ Hid (NmK w bc C (a1, a2, a3) (b1, b2, b3) (d1, d2, d3) (v1, v2, v3) wr)) (fun vi _ => v2 - (intOf vi).toNat)
          case atStart => exact ⟨0, Nat.zero_le _, rfl, HK⟩
          case round =>
            clear HK y3
            obtain ⟨k, hk, rfl, HK⟩ := hrel
            by_cases hlt : k < v2
            · obtain ⟨p, y, bp, op, hp, ea, hbp, d0, -⟩ := s_elem HK.out.at_.scheds (i := k) hlt
              simp only at ea
              subst ea
              have hnk : (C.scheds.map (·.name))[k]? = some p.name := by rw [List.getElem?_map, hp]; rfl
              have HF := Lib.hid (show Rs.findS (C.scheds.map (·.name)) p.name = ((k : Int), true) from Rs.find_made Rs.okS HM.out.sn hnk)
              obtain ⟨nm, hnm⟩ : ∃ q, p.name = q := ⟨_, rfl⟩
              rw [hnm] at d0 HF
              have HC := Lib.hid (And.intro HK.out.cells d0)
              have HS := Lib.hid (fun W (hW : Below wr.heap.size wr W) => cells_lift HC.out hW)
              have HPP := Lib.hid (fun W (hW : Below wr.heap.size wr W) => Schedule_is HF.out a1 b1 d1 (some ⟨bp, op, none⟩) a2 a3 b2 b3 d2 d3 v2 v3 W (cfg_in HK.out.at_ hW).scheds)
              have z4 : (0 : Int) ≤ (k : Int) := by omega
              have z5 : (k : Int) < (v2 : Int) := by omega
              clear hp hnk hbp d0 hnm y
              go_wp2_with fail
              go_region_held3 (fun W => W.cell? ⟨bc, 0, none⟩ = some (.slice a1 a2 a3) ∧ W.cell? ⟨bc, 1, none⟩ = some (.slice b1 b2 b3) ∧ W.cell? ⟨bc, 2, none⟩ = some (.slice d1 d2 d3) ∧ W.cell? ⟨bc, 3, none⟩ = some (.slice (some ⟨bp, op, none⟩) v2 v3) ∧ W.cell? ⟨bp, op + k * 3, none⟩ = some (.string ⟨nm.toArray⟩))
                (first | exact HS.out _ (Below.refl _ _).drew | exact HS.out _ hw2)
                (first | (go_at_call 17; ((with_reducible refine (HPP.out _ (Below.refl _ _).drew).mono ?_); rintro e w2 ⟨rfl, hb2⟩; have hw2 : Below wr.heap.size wr w2 := ((Below.refl wr.heap.size wr).drew).trans hb2)))
              have HK3 := Lib.hid (HK.out.below hw2)
              clear hw2 hb2 HPP HS HC HF
              go_wp2_with fail
              go_roundw
              case rel => exact ⟨k + 1, by omega, by go_num, HK3⟩
              case measure => simp [intOf]; omega
            · have y0 := HK.out.cells.1
              have y1 := HK.out.cells.2.1
              have y2 := HK.out.cells.2.2.1
              have y3 := HK.out.cells.2.2.2
              obtain ⟨⟨f0, f1⟩, hf⟩ : ∃ f, Rs.findS (C.people.map (·.name)) x = f := ⟨_, rfl⟩
              have HP := Lib.hid (Person_is hf a1 b1 d1 v1 a2 a3 b2 b3 d2 d3 v2 v3 _ HK.out.at_.people)
              have hft : f1 = th := by have := HTA.out; rw [hf] at this; exact this
              subst hft
              clear hf HTA
              go_wp2_with fail
              refine HP.out.mono ?_
              rintro e w3 ⟨rfl, bb3⟩
              have HK3 := Lib.hid (HK.out.below bb3)
              clear bb3 HP HK y0 y1 y2 y3
              go_wp2_with fail
              refine (sane8_any _ HK3.out.lex).mono ?_
              rintro e w4 ⟨rfl, bb4⟩
              have B4 := bstep HK3.out.base bb4
              go_wp2_with fail
              go_ret
              exact ⟨rfl, B4⟩
  · have hl : decide ((n : Int) ≤ 500) = false := by simp; omega
    clear hA hn hf
    go_enter Tryz.func5, Tryz.ntmps5
    go_wp2_with fail
    refine (Light_any A n c _).mono ?_
    rw [hl]
    rintro e w' ⟨rfl, rfl⟩
    go_wp2_with fail
    refine (sane8_any _ HT.out).mono ?_
    rintro e w1 ⟨rfl, b1⟩
    go_wp2_with fail
    go_ret
    exact ⟨rfl, b1⟩
end Go.Proofs.YtphenbfhojdcpaaGreatDoor
