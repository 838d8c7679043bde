/- The law ZoneExact returns true for all zones, lists and numbers. -/
import Derived.Test.YtegnfmpbhindaaaDoorZE2
namespace Go.Proofs.YtegnfmpbhindaaaDoor
open Go.RowKit
set_option linter.unusedVariables false
set_option linter.unusedSimpArgs false

set_option maxHeartbeats 16000000 in
set_option maxRecDepth 100000 in
theorem exact_law (s0 : ByteArray) (o0 : Int) (A0 : Option Addr) (n0 c0 : Nat) (raw : List Zn.Rule) (A : Option Addr) (n c : Nat) (zs : List Int) (x day sec : Int) (w : World) (hT : CivT w)
    (hR : RulesAt w A0 raw) (hr : raw.length = n0) (hF : ∀ r ∈ raw, FitR r) (hi0 : I64 o0) (hA : NumsAt w A zs) (hn : zs.length = n) (hf : ∀ z ∈ zs, -9223372036854775808 ≤ z ∧ z ≤ 9223372036854775807)
    (x1 : -9223372036854775808 ≤ x) (x2 : x ≤ 9223372036854775807) (d1 : -9223372036854775808 ≤ day) (d2 : day ≤ 9223372036854775807) (t1 : -9223372036854775808 ≤ sec) (t2 : sec ≤ 9223372036854775807) :
    Calls Tryd.prog 4 #[.agg #[.string s0, .int .i64 o0, .slice A0 n0 c0], .slice A n c, .int .i64 x, .int .i64 day, .int .i64 sec] w fun e w' => e = .returned (.bool true) ∧ Below w.heap.size w w' := by
  by_cases h20 : (20 : Int) < n0
  · have HS := Lib.hid (sane_any _ (hT.below ((Below.refl _ _).alloc (Nat.le_refl _) (.cells #[.string s0, .int .i64 o0, .slice A0 n0 c0] 27))))
    clear hR hr hF hA hn hf
    go_enter Tryd.func4, Tryd.ntmps4
    go_wp2_with fail
    refine HS.out.mono ?_
    rintro e w7 ⟨rfl, b7⟩
    go_wp2_with fail
    go_ret
    exact ⟨rfl, below_alloc_call b7⟩
  have HL := Light_any A n c (w.alloc (.cells #[.string s0, .int .i64 o0, .slice A0 n0 c0] 27))
  by_cases h5 : (n : Int) ≤ 500
  · rw [decide_eq_true h5] at HL
    have hA1 := hA.below ((Below.refl _ _).alloc (Nat.le_refl _) (.cells #[.string s0, .int .i64 o0, .slice A0 n0 c0] 27))
    have D1 := Dice.start (c := c) hA1 hn (by omega) hf
    have hRo := Roll_any A n c (w.alloc (.cells #[.string s0, .int .i64 o0, .slice A0 n0 c0] 27))
    have B1 := ((Below.refl w.heap.size w).alloc (Nat.le_refl _) (.cells #[.string s0, .int .i64 o0, .slice A0 n0 c0] 27)).alloc (by simp) (.cells #[.slice A n c, .int .i64 0] 70)
    have R1 := (hR.alloc (.cells #[.string s0, .int .i64 o0, .slice A0 n0 c0] 27)).alloc (.cells #[.slice A n c, .int .i64 0] 70)
    have Q1 : ZBlk ((w.alloc (.cells #[.string s0, .int .i64 o0, .slice A0 n0 c0] 27)).alloc (.cells #[.slice A n c, .int .i64 0] 70)) w.heap.size s0 o0 A0 n0 c0 := BlkAt.alloc (blk_new rfl) _
    have hgs : (w.alloc (.cells #[.string s0, .int .i64 o0, .slice A0 n0 c0] 27)).heap.size = w.heap.size + 1 := by simp
    rw [hgs] at D1 hRo
    have n20 : n0 ≤ 20 := by omega
    have HF0 := Lib.hid hF
    have HR0 := Lib.hid hr
    have HM := Lib.hid (fun (k : Int) (W : World) (k1 : -9223372036854775808 ≤ k) (k2 : k ≤ 9223372036854775807) (m : Int) (m1 : 1 ≤ m) (m2 : m ≤ 4611686018427387904) => Mod_any k m W k1 k2 m1 m2)
    clear hA hA1 hn hf hF hr hR
    go_enter Tryd.func4, Tryd.ntmps4
    go_wp2_with fail
    refine HL.mono ?_
    rintro e w1 ⟨rfl, rfl⟩
    go_wp2_with fail
    refine hRo.mono ?_
    rintro e w1 ⟨rfl, hw1⟩
    rw [← hw1] at D1 B1 R1 Q1
    have hS := Zone_any _ _ _ _ _ ⟨#[97]⟩ _ D1
    have rf1 := rules_far R1 D1
    clear hRo HL hw1 hgs
    go_wp2_with fail
    refine hS.mono ?_
    rintro e w2 ⟨oz, Az, nz, cz, rz, rfl, hG, hnz, RZ, G2, D2⟩
    have B2 := below_of_grown B1 G2 B1.size (by omega)
    have hsz2 := D2.lt_
    have X3 : XS w s0 o0 A0 n0 c0 raw (w.heap.size + 1) A n c zs oz Az nz cz rz w2.heap.size (w2.alloc (.cells #[.string ⟨#[97]⟩, .int .i64 oz, .slice Az nz cz] 27)) :=
      ⟨(hT.below B2).alloc _, (R1.diced G2 rf1).alloc _, BlkAt.alloc (blk_after Q1 G2 (by omega)) _, RZ.alloc _, blk_new rfl, D2.alloc _, B2.alloc B2.size _, by omega, by omega, Nat.le_refl _⟩
    have HX := Lib.hid X3
    have HG := Lib.hid hG
    have hoz : -64800 ≤ oz ∧ oz ≤ 64800 := ⟨by have := hG.lo; omega, by have := hG.hi; omega⟩
    have hnz2 : nz ≤ 2 := by have := hG.len; omega
    have HNZ := Lib.hid hnz
    have HALL := Lib.hid hG.all
    have HT := Lib.hid hT
    obtain ⟨oz1, oz2⟩ := hoz
    obtain ⟨w3, hw3⟩ : ∃ w3, w2.alloc (.cells #[.string ⟨#[97]⟩, .int .i64 oz, .slice Az nz cz] 27) = w3 := ⟨_, rfl⟩
    obtain ⟨bz, hbz⟩ : ∃ bz, w2.heap.size = bz := ⟨_, rfl⟩
    have HW3 := Lib.hid hw3
    have HBZ := Lib.hid hbz
    rw [hbz, hw3] at HX
    clear hS D1 B1 R1 Q1 rf1 hG hnz RZ G2 D2 B2 X3 hT hsz2 hw3 hbz
    go_upto_region 5 with fail
    rw [HBZ.out, HW3.out]
    go_cut [60, 61] (fun v i wx => ∃ o1 A1 n1 c1 r1 A3, i = .int .i64 0 ∧ v = .agg #[.string ⟨#[97]⟩, .int .i64 oz, .slice Az nz cz, .string ⟨#[97]⟩, .int .i64 o1, .slice A1 n1 c1, .string s0, .int .i64 o0, .slice A0 n0 c0, .string ⟨#[]⟩, .int .i64 3600, .slice A3 2 2] ∧ Hid (CivT wx ∧ Below w.heap.size w wx ∧ RulesAt wx Az rz ∧ RulesAt wx A0 raw ∧ RulesAt wx A1 r1 ∧ RulesAt wx A3 exRules ∧ r1.length = n1 ∧ n1 ≤ 3 ∧ (∀ r ∈ r1, FitR r) ∧ I64 o1))
    case first =>
      go_region_held3 (fun W => W.cell? ⟨bz, 0, none⟩ = some (.string ⟨#[97]⟩) ∧ W.cell? ⟨bz, 1, none⟩ = some (.int .i64 oz) ∧ W.cell? ⟨bz, 2, none⟩ = some (.slice Az nz cz) ∧ W.cell? ⟨w.heap.size, 0, none⟩ = some (.string s0) ∧ W.cell? ⟨w.heap.size, 1, none⟩ = some (.int .i64 o0) ∧ W.cell? ⟨w.heap.size, 2, none⟩ = some (.slice A0 n0 c0))
        (first | exact HX.out.cells | exact HX.out.drew.cells | assumption | exact hS1.cells | exact hS2.cells)
        (first | (go_at_call 16; refine (odd_any ⟨#[97]⟩ oz Az nz cz rz (w.heap.size + 1) A n c zs _ (by first | exact HX.out.dice | exact HX.out.drew.dice) (by first | exact HX.out.z | exact HX.out.drew.z) HNZ.out hnz2 HALL.out oz1 oz2).mono ?_; rintro e w' ⟨o1, A1, n1, c1, r1, rfl, hl1, hle1, hf1, hi1, hRA1, hg1, hD1⟩; have hS1 : XS w s0 o0 A0 n0 c0 raw (w.heap.size + 1) A n c zs oz Az nz cz rz bz w' := (by first | exact HX.out.call HT.out hg1 hD1 | exact HX.out.drew.call HT.out hg1 hD1)) | (go_at_call 17; refine (example_any _).mono ?_; rintro e w' ⟨rfl, hRA3, hb3⟩; have hS2 : XS w s0 o0 A0 n0 c0 raw (w.heap.size + 1) A n c zs oz Az nz cz rz bz w' := hS1.after hb3; have hRA2 := hRA1.below hb3))
      all_goals
        go_wp2_with fail
        go_meet
        exact ⟨o1, A1, n1, c1, r1, _, rfl, rfl, Lib.hid ⟨hS2.civ, hS2.bel, hS2.z, hS2.raw, hRA2, hRA3, hl1, hle1, hf1, hi1⟩⟩
    case rest =>
      obtain ⟨o1, A1, n1, c1, r1, A3, rfl, rfl, HC⟩ := hcut
      obtain ⟨w5, rfl⟩ : ∃ w5 : World, w5 = wc := ⟨_, rfl⟩
      have HP := Lib.hid (pickZ (W := w5) ⟨#[97]⟩ ⟨#[97]⟩ s0 ⟨#[]⟩ oz o1 o0 3600 Az A1 A0 A3 nz n1 n0 2 cz c1 c0 2 rz r1 raw exRules (zin_of HC.out.1 HC.out.2.2.1 HNZ.out HALL.out (by omega)) ⟨HC.out.1, HC.out.2.2.2.2.1, HC.out.2.2.2.2.2.2.1, HC.out.2.2.2.2.2.2.2.2.1, by have := HC.out.2.2.2.2.2.2.2.1; omega⟩ ⟨HC.out.1, HC.out.2.2.2.1, HR0.out, HF0.out, by omega⟩ (zin_of HC.out.1 HC.out.2.2.2.2.2.1 rfl ex_ok (by decide)) ⟨by omega, by omega⟩ HC.out.2.2.2.2.2.2.2.2.2 hi0 ⟨by omega, by omega⟩)
      have HB5 := Lib.hid HC.out.2.1
      clear HC HX HG HALL HNZ HF0 HR0
      go_wp2_with fail
      go_loopw [61] (fun i wr => ∃ k : Nat, k ≤ 4 ∧ i = .int .i64 k ∧ Hid (Below w5.heap.size w5 wr)) (fun i _ => (4 - intOf i).toNat)
      case atStart => exact ⟨0, by omega, rfl, Lib.hid (Below.refl _ _)⟩
      case round =>
        obtain ⟨k, hk, rfl, HBW⟩ := hrel
        by_cases hk4 : k < 4
        · obtain ⟨s, o, Ay, ny, cy, rs, IX, hz, ho⟩ := HP.out k hk4
          have k0 : (0 : Int) ≤ k := by omega
          have k1 : (k : Int) < 4 := by omega
          obtain ⟨ts, er, htr⟩ : ∃ ts er, Zn.trans o rs = (ts, er) := ⟨_, _, rfl⟩
          obtain ⟨wo, rfl⟩ : ∃ wo : World, wo = wr := ⟨_, rfl⟩
          have K6 : ZK w5 s o Ay ny cy rs wo.heap.size (wo.alloc (.cells #[.string s, .int .i64 o, .slice Ay ny cy] 27)) := ⟨(hz.below HBW.out).alloc _, blk_new rfl, HBW.out.alloc HBW.out.size _⟩
          have HK6 := Lib.hid K6
          have HTR := Lib.hid htr
          have H1 := Lib.hid (fun W h => trans_is htr s Ay ny cy W h ho)
          have H2 := Lib.hid (fun W h => rtrans_is htr s Ay ny cy W h ho)
          have H3 := Lib.hid (fun W h => check_is htr s Ay ny cy W h ho)
          have H4 := Lib.hid (fun W h => rcheck_is htr s Ay ny cy W h ho)
          have H5 := Lib.hid (fun W h => horizon_is htr s Ay ny cy W h ho (trans_len htr))
          have H6 := Lib.hid (fun W h => rhorizon_is htr s Ay ny cy W h ho (trans_len htr))
          have L640 := trans_len htr
          have HAT := Lib.hid (trans_at htr)
          obtain ⟨bz', hbz'⟩ : ∃ b, wo.heap.size = b := ⟨_, rfl⟩
          obtain ⟨L, hL⟩ : ∃ L, ts.length = L := ⟨_, rfl⟩
          rw [hL] at L640
          have HLL := Lib.hid hL
          have HBZ' := Lib.hid hbz'
          rw [hbz'] at HK6
          clear hz K6 htr hL hbz' HBW
          go_wp2_with fail
          refine (H1.out _ HK6.out.z).mono ?_
          rintro e w7 ⟨At, ct, rfl, PT, b7⟩
          have HK7 := Lib.hid (HK6.out.after b7)
          have HPT := Lib.hid PT
          rw [HLL.out, HBZ'.out]
          clear b7 PT HK6 IX H1
          obtain ⟨z0, z1, z2⟩ := ZBlk.cells HK7.out.zb
          go_wp2_with fail
          refine (H2.out _ HK7.out.z).mono ?_
          rintro e w8 ⟨Bt, dt, rfl, QT, b8⟩
          rw [HLL.out]
          have HY8 : Hid (YS w5 s o Ay ny cy rs bz' At Bt ts w8) := Lib.hid ⟨HK7.out.after b8, HPT.out.below b8, QT⟩
          clear b8 QT HPT HK7 z0 z1 z2 H2
          obtain ⟨z0, z1, z2⟩ := ZBlk.cells HY8.out.k.zb
          have S0 := show w8.cell? ⟨bz', 0, none⟩ = some (.string s) ∧ w8.cell? ⟨bz', 1, none⟩ = some (.int .i64 o) ∧ w8.cell? ⟨bz', 2, none⟩ = some (.slice Ay ny cy) ∧ YS w5 s o Ay ny cy rs bz' At Bt ts w8 from ⟨z0, z1, z2, HY8.out⟩
          go_upto_region 10 with fail
          go_cut [96] (fun v wx => v = .bool false ∧ Hid (YS w5 s o Ay ny cy rs bz' At Bt ts wx))
          case first =>
            go_region_held3 (fun W => W.cell? ⟨bz', 0, none⟩ = some (.string s) ∧ W.cell? ⟨bz', 1, none⟩ = some (.int .i64 o) ∧ W.cell? ⟨bz', 2, none⟩ = some (.slice Ay ny cy) ∧ YS w5 s o Ay ny cy rs bz' At Bt ts W)
              (first | (exact S0) | (exact keepY S0 (Below.refl _ _).drew) | assumption | (exact keepY (by assumption) hb))
              (first | (go_at_call 19; refine (same_yes At Bt L ct dt ts _ ?_ ?_ HLL.out L640).mono ?_; exact (by assumption : _ ∧ _ ∧ _ ∧ YS w5 s o Ay ny cy rs bz' At Bt ts _).2.2.2.a; exact (by assumption : _ ∧ _ ∧ _ ∧ YS w5 s o Ay ny cy rs bz' At Bt ts _).2.2.2.b; rintro e w' ⟨rfl, hb⟩) | (go_at_call 11; refine (H3.out _ ?_).mono ?_; exact (by assumption : _ ∧ _ ∧ _ ∧ YS w5 s o Ay ny cy rs bz' At Bt ts _).2.2.2.k.z; rintro e w' ⟨rfl, hb⟩) | (go_at_call 20; refine (H4.out _ ?_).mono ?_; exact (by assumption : _ ∧ _ ∧ _ ∧ YS w5 s o Ay ny cy rs bz' At Bt ts _).2.2.2.k.z; rintro e w' ⟨rfl, hb⟩) | (go_at_call 21; refine (H5.out _ ?_).mono ?_; exact (by assumption : _ ∧ _ ∧ _ ∧ YS w5 s o Ay ny cy rs bz' At Bt ts _).2.2.2.k.z; rintro e w' ⟨rfl, hb⟩) | (go_at_call 22; refine (H6.out _ ?_).mono ?_; exact (by assumption : _ ∧ _ ∧ _ ∧ YS w5 s o Ay ny cy rs bz' At Bt ts _).2.2.2.k.z; rintro e w' ⟨rfl, hb⟩))
            all_goals
              go_wp2_with fail
              go_meet
              exact ⟨rfl, Lib.hid (by assumption : _ ∧ _ ∧ _ ∧ YS w5 s o Ay ny cy rs bz' At Bt ts _).2.2.2⟩
          case rest =>
            obtain ⟨rfl, HY9⟩ := hcut
            obtain ⟨w9, rfl⟩ : ∃ w9 : World, w9 = wc := ⟨_, rfl⟩
            clear S0 z0 z1 z2 HY8 H3 H4 H5 H6
            go_upto_if 99 with fail
            go_cut [19] (fun v wx => ∃ near : Int, v = .int .i64 near ∧ 0 ≤ near ∧ near ≤ 8589934592 ∧ Hid (ZK w5 s o Ay ny cy rs bz' wx))
            case first =>
              by_cases hL0 : 0 < L
              · have hm := Int.emod_nonneg x (show (L : Int) ≠ 0 by omega)
                have hm2 := Int.emod_lt_of_pos x (show (0 : Int) < L by omega)
                obtain ⟨p, hp⟩ : ∃ p : Nat, x % (L : Int) = p := ⟨(x % (L : Int)).toNat, by omega⟩
                have CM := fun W => HM.out x W x1 x2 L (by omega) (by omega)
                rw [hp] at CM hm2
                have HCM := Lib.hid CM
                obtain ⟨⟨y, yo⟩, hy⟩ := get_ex (xs := ts) (i := p) (by have := HLL.out; omega)
                obtain ⟨b, of, rfl, hb, hc⟩ := HY9.out.b (by have := HLL.out; omega)
                obtain ⟨a0, a1⟩ := pair_cells (hc _ _ hy)
                have hyb := HAT.out _ (List.mem_of_getElem? hy)
                simp only at a0 a1 hyb
                obtain ⟨y1, y2⟩ := hyb
                have p0 : (0 : Int) ≤ p := by omega
                clear hm hp CM hy hc
                go_wp2_with (go_at_call 23; refine (HCM.out _).mono ?_; rintro e w' ⟨rfl, rfl⟩)
                go_meet
                exact ⟨y, rfl, y1, y2, Lib.hid HY9.out.k⟩
              ·
                go_wp2_with fail
                go_meet
                exact ⟨1767225600, rfl, by omega, by omega, Lib.hid HY9.out.k⟩
            case rest =>
              obtain ⟨near, rfl, near1, near2, HK9⟩ := hcut
              obtain ⟨w10, rfl⟩ : ∃ w10 : World, w10 = wc := ⟨_, rfl⟩
              have CM1 := Lib.hid (fun W => HM.out sec W t1 t2 9 (by omega) (by omega))
              have CM2 := Lib.hid (fun W => HM.out day W d1 d2 90000 (by omega) (by omega))
              clear HY9
              go_upto_region 15 with fail
              go_cut [119, 120] (fun v i wx => ∃ a b : Int, v = .agg #[.int .i64 x, .int .i64 a, .int .i64 b, .int .i64 0, .int .i64 8589934592] ∧ i = .int .i64 0 ∧ Hid (ZK w5 s o Ay ny cy rs bz' wx))
              case first =>
                go_wp2_with (go_at_call 23; first | ((with_reducible refine (CM1.out _).mono ?_); rintro e w' ⟨rfl, rfl⟩) | ((with_reducible refine (CM2.out _).mono ?_); rintro e w' ⟨rfl, rfl⟩))
                go_meet
                exact ⟨_, _, rfl, rfl, HK9⟩
              case rest =>
                obtain ⟨na, nb, rfl, rfl, HK10⟩ := hcut
                obtain ⟨w11, rfl⟩ : ∃ w11 : World, w11 = wc := ⟨_, rfl⟩
                clear CM1 CM2 HK9 HM
                go_upto_block 2 with fail
                refine b2_law HTR ho d1 d2 t1 t2 HK10 ?_
                intro v10 v21 v22 v23 v24 v25 v26 v27 v28 v29 v31 v32 v33 v34 v35 v36 v37 v38 v39 v120 v121 v122 v123 v124 v125 v126 v127 v128 v129 v130 v131 v132 v133 v134 v135 v136 v137 v138 v139 v140 v141 v142 v143 v144 v145 v146 v147 v148 v149 v150 v151 v152 v153 v154 v155 v156 v157 v158 v159 v160 v161 v162 v163 v164 v165 v166 v167 v168 v169 v170 v171 v172 v173 v174 v175 v176 v177 v178 v179 v180 v181 v182 v183 v184 v185 v186 v187 v188 v189 v190 v191 v192 v193 v194 v195 v196 v197 v198 v199 v200 v201 v202 v203 v204 v205 v206 v207 v208 v209 v210 v211 v212 v213 v214 v215 v216 v217 v218 v219 v220 v221 v222 v223 v224 v225 v226 v227 w'' HK11
                have HB12 := Lib.hid HK11.out.bel
                clear HK10 HK11
                go_wp2_with fail
                go_roundw
                case rel => exact ⟨k + 1, by omega, by go_num, HB12⟩
                case measure => simp [intOf]; omega
        · obtain rfl : k = 4 := by omega
          have B9 := Lib.hid (bstep HB5.out HBW.out)
          have HS := Lib.hid (sane_any wr (HT.out.below B9.out))
          go_wp2_with fail
          refine HS.out.mono ?_
          rintro e w7 ⟨rfl, b7⟩
          go_wp2_with fail
          go_ret
          exact ⟨rfl, bstep B9.out b7⟩
  · rw [decide_eq_false h5] at HL
    have HS := Lib.hid (sane_any _ (hT.below ((Below.refl _ _).alloc (Nat.le_refl _) (.cells #[.string s0, .int .i64 o0, .slice A0 n0 c0] 27))))
    clear hA hf hR hr hF
    go_enter Tryd.func4, Tryd.ntmps4
    go_wp2_with fail
    refine HL.mono ?_
    rintro e w1 ⟨rfl, rfl⟩
    go_wp2_with fail
    refine HS.out.mono ?_
    rintro e w7 ⟨rfl, b7⟩
    go_wp2_with fail
    go_ret
    exact ⟨rfl, below_alloc_call b7⟩
end Go.Proofs.YtegnfmpbhindaaaDoor
