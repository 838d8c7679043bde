/- ZoneExact's second loop: instants. -/
import Derived.Test.YtegnfmpbhindaaaDoorZE4
import Derived.Deep.CutBlock
namespace Go.Proofs.YtegnfmpbhindaaaDoor
open Go.RowKit
set_option linter.unusedVariables false
set_option linter.unusedSimpArgs false

set_option maxHeartbeats 16000000 in
set_option maxRecDepth 1000000 in
theorem b2_law {w5 : World} {s : ByteArray} {o : Int} {Ay : Option Addr} {ny cy : Nat} {rs : List Zn.Rule} {bz' : Nat} {ts : Zn.L} {er : Int} {x0 x1 x2 x3 x4 day sec : Int} {u0 u1 u2 u5 u6 u7 u8 u9 u10 u11 u12 u13 u15 u16 u17 u18 u19 u20 u21 u22 u23 u24 u25 u26 u27 u28 u29 u30 u31 u32 u33 u34 u35 u36 u37 u38 u39 u40 u41 u42 u43 u44 u45 u46 u47 u48 u49 u50 u51 u52 u53 u54 u55 u56 u57 u58 u59 u60 u61 u62 u63 u64 u65 u66 u67 u68 u69 u70 u71 u72 u73 u74 u75 u76 u77 u78 u79 u80 u81 u82 u83 u84 u85 u86 u87 u88 u89 u90 u91 u92 u93 u94 u95 u96 u97 u98 u99 u100 u101 u102 u103 u104 u105 u106 u107 u108 u109 u110 u111 u112 u113 u114 u115 u116 u117 u118 u121 u122 u123 u124 u125 u126 u127 u128 u129 u130 u131 u132 u133 u134 u135 u136 u137 u138 u139 u140 u141 u142 u143 u144 u145 u146 u147 u148 u149 u150 u151 u152 u153 u154 u155 u156 u157 u158 u159 u160 u161 u162 u163 u164 u165 u166 u167 u168 u169 u170 u171 u172 u173 u174 u175 u176 u177 u178 u179 u180 u181 u182 u183 u184 u185 u186 u187 u188 u189 u190 u191 u192 u193 u194 u195 u196 u197 u198 u199 u200 u201 u202 u203 u204 u205 u206 u207 u208 u209 u210 u211 u212 u213 u214 u215 u216 u217 u218 u219 u220 u221 u222 u223 u224 u225 u226 u227 u228 u229 : Value} {Q : Exit → Act → World → Prop} {wr0 : World} (HTR : Hid (Zn.trans o rs = (ts, er))) (ho : I64 o)
    (d1 : -9223372036854775808 ≤ day) (d2 : day ≤ 9223372036854775807) (t1 : -9223372036854775808 ≤ sec) (t2 : sec ≤ 9223372036854775807)
    (HK10 : Hid (ZK w5 s o Ay ny cy rs bz' wr0)) (hQ : ∀ (v10 v21 v22 v23 v24 v25 v26 v27 v28 v29 v31 v32 v33 v34 v35 v36 v37 v38 v39 v120 v121 v122 v123 v124 v125 v126 v127 v128 v129 v130 v131 v132 v133 v134 v135 v136 v137 v138 v139 v140 v141 v142 v143 v144 v145 v146 v147 v148 v149 v150 v151 v152 v153 v154 v155 v156 v157 v158 v159 v160 v161 v162 v163 v164 v165 v166 v167 v168 v169 v170 v171 v172 v173 v174 v175 v176 v177 v178 v179 v180 v181 v182 v183 v184 v185 v186 v187 v188 v189 v190 v191 v192 v193 v194 v195 v196 v197 v198 v199 v200 v201 v202 v203 v204 v205 v206 v207 v208 v209 v210 v211 v212 v213 v214 v215 v216 v217 v218 v219 v220 v221 v222 v223 v224 v225 v226 v227 : Value) (w'' : World), Hid (ZK w5 s o Ay ny cy rs bz' w'') → Q .normal ⟨#[u0, u1, u2, .int .i64 day, .int .i64 sec, u5, u6, u7, u8, u9, v10, u11, u12, u13, .pointer (some ⟨bz', 0, none⟩), u15, u16, u17, u18, u19, u20, v21, v22, v23, v24, v25, v26, v27, v28, v29, u30, v31, v32, v33, v34, v35, v36, v37, v38, v39, u40, u41, u42, u43, u44, u45, u46, u47, u48, u49, u50, u51, u52, u53, u54, u55, u56, u57, u58, u59, u60, u61, u62, u63, u64, u65, u66, u67, u68, u69, u70, u71, u72, u73, u74, u75, u76, u77, u78, u79, u80, u81, u82, u83, u84, u85, u86, u87, u88, u89, u90, u91, u92, u93, u94, u95, u96, u97, u98, u99, u100, u101, u102, u103, u104, u105, u106, u107, u108, u109, u110, u111, u112, u113, u114, u115, u116, u117, u118, .agg #[.int .i64 x0, .int .i64 x1, .int .i64 x2, .int .i64 x3, .int .i64 x4], v120, v121, v122, v123, v124, v125, v126, v127, v128, v129, v130, v131, v132, v133, v134, v135, v136, v137, v138, v139, v140, v141, v142, v143, v144, v145, v146, v147, v148, v149, v150, v151, v152, v153, v154, v155, v156, v157, v158, v159, v160, v161, v162, v163, v164, v165, v166, v167, v168, v169, v170, v171, v172, v173, v174, v175, v176, v177, v178, v179, v180, v181, v182, v183, v184, v185, v186, v187, v188, v189, v190, v191, v192, v193, v194, v195, v196, v197, v198, v199, v200, v201, v202, v203, v204, v205, v206, v207, v208, v209, v210, v211, v212, v213, v214, v215, v216, v217, v218, v219, v220, v221, v222, v223, v224, v225, v226, v227, u228, u229], []⟩ w'') :
    Code.wp Tryd.prog codeB2 Q ⟨#[u0, u1, u2, .int .i64 day, .int .i64 sec, u5, u6, u7, u8, u9, u10, u11, u12, u13, .pointer (some ⟨bz', 0, none⟩), u15, u16, u17, u18, u19, u20, u21, u22, u23, u24, u25, u26, u27, u28, u29, u30, u31, u32, u33, u34, u35, u36, u37, u38, u39, u40, u41, u42, u43, u44, u45, u46, u47, u48, u49, u50, u51, u52, u53, u54, u55, u56, u57, u58, u59, u60, u61, u62, u63, u64, u65, u66, u67, u68, u69, u70, u71, u72, u73, u74, u75, u76, u77, u78, u79, u80, u81, u82, u83, u84, u85, u86, u87, u88, u89, u90, u91, u92, u93, u94, u95, u96, u97, u98, u99, u100, u101, u102, u103, u104, u105, u106, u107, u108, u109, u110, u111, u112, u113, u114, u115, u116, u117, u118, .agg #[.int .i64 x0, .int .i64 x1, .int .i64 x2, .int .i64 x3, .int .i64 x4], .int .i64 0, u121, u122, u123, u124, u125, u126, u127, u128, u129, u130, u131, u132, u133, u134, u135, u136, u137, u138, u139, u140, u141, u142, u143, u144, u145, u146, u147, u148, u149, u150, u151, u152, u153, u154, u155, u156, u157, u158, u159, u160, u161, u162, u163, u164, u165, u166, u167, u168, u169, u170, u171, u172, u173, u174, u175, u176, u177, u178, u179, u180, u181, u182, u183, u184, u185, u186, u187, u188, u189, u190, u191, u192, u193, u194, u195, u196, u197, u198, u199, u200, u201, u202, u203, u204, u205, u206, u207, u208, u209, u210, u211, u212, u213, u214, u215, u216, u217, u218, u219, u220, u221, u222, u223, u224, u225, u226, u227, u228, u229], []⟩ wr0 := by
  have HQ := Lib.hid hQ
  have J1 := Lib.hid (fun W h x => offAt_is HTR.out s Ay ny cy x W h ho)
  have J2 := Lib.hid (fun W h x => roffAt_is HTR.out s Ay ny cy x W h ho)
  have J3 := Lib.hid (fun W h x => toLocal_is HTR.out s Ay ny cy x W h ho)
  have J4 := Lib.hid (fun W h x => rtoLocal_is HTR.out s Ay ny cy x W h ho)
  have HM := Lib.hid (fun (k : Int) (W : World) (k1 : -9223372036854775808 ≤ k) (k2 : k ≤ 9223372036854775807) (m : Int) (m1 : 1 ≤ m) (m2 : m ≤ 4611686018427387904) => Mod_any k m W k1 k2 m1 m2)
  have HP5 := Lib.hid (pick5 x0 x1 x2 x3 x4)
  clear hQ
  conv => arg 2; whnf
  go_wp2_with fail
  go_loopw [120] (fun i wr => ∃ q : Nat, q ≤ 5 ∧ i = .int .i64 q ∧ Hid (ZK w5 s o Ay ny cy rs bz' wr)) (fun i _ => (5 - intOf i).toNat)
  case atStart => exact ⟨0, by omega, rfl, HK10⟩
  case round =>
    clear HK10
    obtain ⟨q, hq, rfl, HK⟩ := hrel
    by_cases hq5 : q < 5
    · obtain ⟨v, IX⟩ := HP5.out q hq5
      have q0 : (0 : Int) ≤ q := by omega
      have q1 : (q : Int) < 5 := by omega
      have hlb := loc_bd HTR.out v
      have I1 := Lib.hid (fun W h => J1.out W h v)
      have I2 := Lib.hid (fun W h => J2.out W h v)
      have I3 := Lib.hid (fun W h => J3.out W h v)
      have I4 := Lib.hid (fun W h => J4.out W h v)
      generalize offV o ts er v = vo at I1 I2
      generalize offE er v = ve at I1 I2 I3 I4
      generalize locV o ts er v = vl at I3 I4 hlb
      obtain ⟨LD, LS⟩ := vl
      simp only at I3 I4 hlb
      obtain ⟨lb1, lb2⟩ := hlb
      obtain ⟨z0, z1, z2⟩ := ZBlk.cells HK.out.zb
      go_wp2_with fail
      refine (I1.out _ HK.out.z).mono ?_
      rintro e v1 ⟨rfl, b⟩
      have HK1 := Lib.hid (HK.out.after b)
      clear b z0 z1 z2 HK IX I1
      obtain ⟨z0, z1, z2⟩ := ZBlk.cells HK1.out.zb
      go_wp2_with fail
      refine (I2.out _ HK1.out.z).mono ?_
      rintro e v2 ⟨rfl, b⟩
      have HK2 := Lib.hid (HK1.out.after b)
      clear b z0 z1 z2 HK1 I2
      obtain ⟨z0, z1, z2⟩ := ZBlk.cells HK2.out.zb
      go_wp2_with fail
      refine (I3.out _ HK2.out.z).mono ?_
      rintro e v3 ⟨rfl, b⟩
      have HK3 := Lib.hid ((HK2.out.after b).after ((Below.refl _ _).alloc (Nat.le_refl _) (.cells #[.int .i64 LD, .int .i64 LS] 52)))
      have U3 : Hid (BlkAt (v3.alloc (.cells #[.int .i64 LD, .int .i64 LS] 52)) v3.heap.size #[.int .i64 LD, .int .i64 LS] 52) := Lib.hid (blk_new rfl)
      clear b z0 z1 z2 HK2 I3
      obtain ⟨z0, z1, z2⟩ := ZBlk.cells HK3.out.zb
      go_wp2_with fail
      refine (I4.out _ HK3.out.z).mono ?_
      rintro e v4 ⟨rfl, b⟩
      obtain ⟨bu, hbu⟩ : ∃ bu, v3.heap.size = bu := ⟨_, rfl⟩
      rw [hbu] at U3 ⊢
      have U4 := BlkAt.after U3.out b
      have hu4 := BlkAt.lt_ U4
      have K4 := (HK3.out.after b).after ((Below.refl _ _).alloc (Nat.le_refl _) (.cells #[.int .i64 LD, .int .i64 LS] 52))
      have U5 := BlkAt.alloc U4 (.cells #[.int .i64 LD, .int .i64 LS] 52)
      have V5 : BlkAt (v4.alloc (.cells #[.int .i64 LD, .int .i64 LS] 52)) v4.heap.size #[.int .i64 LD, .int .i64 LS] 52 := blk_new rfl
      obtain ⟨uu0, uu1⟩ := (show (v4.alloc (.cells #[.int .i64 LD, .int .i64 LS] 52)).cell? ⟨bu, 0, none⟩ = some (.int .i64 LD) ∧ (v4.alloc (.cells #[.int .i64 LD, .int .i64 LS] 52)).cell? ⟨bu, 1, none⟩ = some (.int .i64 LS) from ⟨BlkAt.cell U5 rfl, BlkAt.cell U5 rfl⟩)
      obtain ⟨y0, y1⟩ := (show (v4.alloc (.cells #[.int .i64 LD, .int .i64 LS] 52)).cell? ⟨v4.heap.size, 0, none⟩ = some (.int .i64 LD) ∧ (v4.alloc (.cells #[.int .i64 LD, .int .i64 LS] 52)).cell? ⟨v4.heap.size, 1, none⟩ = some (.int .i64 LS) from ⟨BlkAt.cell V5 rfl, BlkAt.cell V5 rfl⟩)
      have HK5 := Lib.hid K4
      have C1 := fun W => HM.out day W d1 d2 3 (by omega) (by omega)
      have C2 := fun W => HM.out sec W t1 t2 86402 (by omega) (by omega)
      have r1 := Int.emod_nonneg day (show (3 : Int) ≠ 0 by omega)
      have r2 := Int.emod_lt_of_pos day (show (0 : Int) < 3 by omega)
      have r3 := Int.emod_nonneg sec (show (86402 : Int) ≠ 0 by omega)
      have r4 := Int.emod_lt_of_pos sec (show (0 : Int) < 86402 by omega)
      generalize day % 3 = g3 at C1 r1 r2
      generalize sec % 86402 = g4 at C2 r3 r4
      have CM3 := Lib.hid C1
      have CM4 := Lib.hid C2
      have a1 : IntKind.i64.wrap (LD + g3) = LD + g3 := by rw [IntKind.wrap_i64]; omega
      have a2 : IntKind.i64.wrap (LD + g3 - 1) = LD + g3 - 1 := by rw [IntKind.wrap_i64]; omega
      have a3 : IntKind.i64.wrap (g4 - 1) = g4 - 1 := by rw [IntKind.wrap_i64]; omega
      have hne : bu ≠ v4.heap.size := by omega
      clear b z0 z1 z2 HK3 I4 U3 U4 hu4 K4 U5 V5 hbu C1 C2
      go_upto_region 24 with fail
      go_cut [120, 179, 180] from 120 to 227 (fun c v i wx => ∃ a b : Int, c = .int .i64 q ∧ v = .agg #[.int .i64 LD, .int .i64 LS, .int .i64 day, .int .i64 sec, .int .i64 a, .int .i64 b] ∧ I64 a ∧ i = .int .i64 0 ∧ Hid (ZK w5 s o Ay ny cy rs bz' wx))
      case first =>
        go_quiet ((go_at_call 23; first | with_reducible exact zsame (CM3.out _) | with_reducible exact zsame (CM4.out _)))
        go_wp2_with fail
        go_meet
        exact ⟨_, _, rfl, rfl, ⟨by omega, by omega⟩, rfl, Lib.hid (HK5.out.after (below_drewN (Below.refl _ _) _))⟩
      case rest =>
        obtain ⟨la, lb, rfl, rfl, ila, rfl, HK6⟩ := hcut
        obtain ⟨w12, rfl⟩ : ∃ w12 : World, w12 = wc := ⟨_, rfl⟩
        clear HK5 uu0 uu1 y0 y1 CM3 CM4 a1 a2 a3 hne r1 r2 r3 r4
        go_upto_block 4 with fail
        refine b4_law HTR ho ⟨by omega, by omega⟩ ⟨d1, d2⟩ ila HK6 ?_
        intro v10 v31 v32 v33 v34 v35 v36 v37 v38 v39 v180 v181 v182 v183 v184 v185 v186 v187 v188 v189 v190 v191 v192 v193 v194 v195 v196 v197 v198 v199 v200 v201 v202 v203 v204 v205 v206 v207 v208 v209 v210 v211 v212 v213 v214 v215 v216 v217 v218 v219 v220 v221 v222 v223 v224 v225 v226 w'' HK7
        go_wp2_with fail
        go_roundw
        case rel => exact ⟨q + 1, by omega, by go_num, HK7⟩
        case measure => simp [intOf]; omega
    · obtain rfl : q = 5 := by omega
      go_wp2_with fail
      apply HQ.out
      exact HK
end Go.Proofs.YtegnfmpbhindaaaDoor
