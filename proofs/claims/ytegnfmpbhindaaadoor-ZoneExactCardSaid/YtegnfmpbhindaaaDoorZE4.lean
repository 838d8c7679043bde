/- ZoneExact's innermost loop: local times. -/
import Derived.Test.YtegnfmpbhindaaaDoorZre
import Derived.Test.YtegnfmpbhindaaaDoorZof
import Derived.Test.YtegnfmpbhindaaaDoorZlx
import Derived.Deep.DeepCutAuto
namespace Go.Proofs.YtegnfmpbhindaaaDoor
open Go.RowKit
set_option linter.unusedVariables false
set_option linter.unusedSimpArgs false

set_option maxHeartbeats 1000000 in
theorem same_yes (A B : Option Addr) (n c d : Nat) (xs : Zn.L) (w : World) (hA : PairsAt w A xs) (hB : PairsAt w B xs) (hn : xs.length = n) (h640 : n ≤ 640) :
    Calls Tryd.prog 19 #[.slice A n c, .slice B n d] w fun e w' => e = .returned (.bool true) ∧ Below w.heap.size w w' := by
  have HN := Lib.hid hn
  have HA := Lib.hid hA
  have HB := Lib.hid hB
  clear hn hA hB
  go_enter Tryd.func19, Tryd.ntmps19
  go_wp2_with fail
  go_loopw [13] (fun i wr => ∃ k : Nat, k ≤ n ∧ i = .int .i64 k ∧ Hid (Below w.heap.size w wr)) (fun i _ => n - (intOf i).toNat)
  case atStart => exact ⟨0, Nat.zero_le _, rfl, Lib.hid (Below.refl _ _)⟩
  case round =>
    obtain ⟨k, hk, rfl, HW⟩ := hrel
    by_cases hlt : k < n
    · obtain ⟨⟨x, y⟩, hx⟩ := get_ex (xs := xs) (i := k) (by have := HN.out; omega)
      obtain ⟨b, o, rfl, hb, hc⟩ := (HA.out.below HW.out) (by have := HN.out; omega)
      obtain ⟨c0, c1⟩ := pair_cells (hc k _ hx)
      clear hc
      obtain ⟨b2, o2, rfl, hb2, hc⟩ := (HB.out.below HW.out) (by have := HN.out; omega)
      obtain ⟨d0, d1⟩ := pair_cells (hc k _ hx)
      simp only at c0 c1 d0 d1
      have p1 : (0 : Int) ≤ k := by omega
      have p2 : (k : Int) < n := by omega
      clear hc hx
      go_wp2_with fail
      go_quiet (fail)
      go_wp2_with fail
      go_roundw
      case rel => exact ⟨k + 1, by omega, by go_num, Lib.hid (below_drewN HW.out _)⟩
      case measure => simp [intOf]; omega
    · as_aux_lemma =>
      go_wp2_with fail
      go_ret
      exact ⟨rfl, HW.out⟩
set_option maxHeartbeats 1000000 in
theorem ints_yes (A B : Option Addr) (n c d : Nat) (xs : List Int) (w : World) (hA : IntsAt w A xs) (hB : IntsAt w B xs) (hn : xs.length = n) (h640 : n ≤ 1000) :
    Calls Tryd.prog 32 #[.slice A n c, .slice B n d] w fun e w' => e = .returned (.bool true) ∧ Below w.heap.size w w' := by
  have HN := Lib.hid hn
  have HA := Lib.hid hA
  have HB := Lib.hid hB
  clear hn hA hB
  go_enter Tryd.func32, Tryd.ntmps32
  go_wp2_with fail
  go_loopw [13] (fun i wr => ∃ k : Nat, k ≤ n ∧ i = .int .i64 k ∧ Hid (Below w.heap.size w wr)) (fun i _ => n - (intOf i).toNat)
  case atStart => exact ⟨0, Nat.zero_le _, rfl, Lib.hid (Below.refl _ _)⟩
  case round =>
    obtain ⟨k, hk, rfl, HW⟩ := hrel
    by_cases hlt : k < n
    · obtain ⟨x, hx⟩ := get_ex (xs := xs) (i := k) (by have := HN.out; omega)
      obtain ⟨b, o, rfl, hb, hc⟩ := (HA.out.below HW.out) (by have := HN.out; omega)
      have c0 : wr.cell? ⟨b, o + k, none⟩ = some (.int .i64 x) := by have := hc k _ hx 0 (by omega); simpa [eInt] using this
      clear hc
      obtain ⟨b2, o2, rfl, hb2, hc⟩ := (HB.out.below HW.out) (by have := HN.out; omega)
      have d0 : wr.cell? ⟨b2, o2 + k, none⟩ = some (.int .i64 x) := by have := hc k _ hx 0 (by omega); simpa [eInt] using this
      have p1 : (0 : Int) ≤ k := by omega
      have p2 : (k : Int) < n := by omega
      clear hc hx
      go_wp2_with fail
      go_quiet (fail)
      go_wp2_with fail
      go_roundw
      case rel => exact ⟨k + 1, by omega, by go_num, Lib.hid (below_drewN HW.out _)⟩
      case measure => simp [intOf]; omega
    · as_aux_lemma =>
      go_wp2_with fail
      go_ret
      exact ⟨rfl, HW.out⟩

/-! What the rounds go over. -/
theorem pickZ {W : World} (s0 s1 s2 s3 : ByteArray) (o0 o1 o2 o3 : Int) (A0 A1 A2 A3 : Option Addr) (n0 n1 n2 n3 c0 c1 c2 c3 : Nat) (r0 r1 r2 r3 : List Zn.Rule)
    (z0 : ZIn W A0 n0 r0) (z1 : ZIn W A1 n1 r1) (z2 : ZIn W A2 n2 r2) (z3 : ZIn W A3 n3 r3) (i0 : I64 o0) (i1 : I64 o1) (i2 : I64 o2) (i3 : I64 o3) (k : Nat) (hk : k < 4) :
    ∃ s o A n c rs, (∀ w, (Instr.index 42 (.agg #[.string s0, .int .i64 o0, .slice A0 n0 c0, .string s1, .int .i64 o1, .slice A1 n1 c1, .string s2, .int .i64 o2, .slice A2 n2 c2, .string s3, .int .i64 o3, .slice A3 n3 c3]) (.int .i64 (k : Int))).run Tryd.prog w = .ok (.agg #[.string s, .int .i64 o, .slice A n c]) w) ∧ ZIn W A n rs ∧ I64 o := by
  have h : k = 0 ∨ k = 1 ∨ k = 2 ∨ k = 3 := by omega
  rcases h with rfl | rfl | rfl | rfl
  · exact ⟨s0, o0, A0, n0, c0, r0, fun _ => by kernel_rfl, z0, i0⟩
  · exact ⟨s1, o1, A1, n1, c1, r1, fun _ => by kernel_rfl, z1, i1⟩
  · exact ⟨s2, o2, A2, n2, c2, r2, fun _ => by kernel_rfl, z2, i2⟩
  · exact ⟨s3, o3, A3, n3, c3, r3, fun _ => by kernel_rfl, z3, i3⟩
theorem pick5 (x0 x1 x2 x3 x4 : Int) (k : Nat) (hk : k < 5) : ∃ v : Int, ∀ w, (Instr.index 48 (.agg #[.int .i64 x0, .int .i64 x1, .int .i64 x2, .int .i64 x3, .int .i64 x4]) (.int .i64 (k : Int))).run Tryd.prog w = .ok (.int .i64 v) w := by
  have h : k = 0 ∨ k = 1 ∨ k = 2 ∨ k = 3 ∨ k = 4 := by omega
  rcases h with rfl | rfl | rfl | rfl | rfl
  · exact ⟨x0, fun _ => by kernel_rfl⟩
  · exact ⟨x1, fun _ => by kernel_rfl⟩
  · exact ⟨x2, fun _ => by kernel_rfl⟩
  · exact ⟨x3, fun _ => by kernel_rfl⟩
  · exact ⟨x4, fun _ => by kernel_rfl⟩
theorem pick3 (d0 s0 d1 s1 d2 s2 : Int) (i0 : I64 d0) (i1 : I64 d1) (i2 : I64 d2) (k : Nat) (hk : k < 3) : ∃ d s : Int, (∀ w, (Instr.index 55 (.agg #[.int .i64 d0, .int .i64 s0, .int .i64 d1, .int .i64 s1, .int .i64 d2, .int .i64 s2]) (.int .i64 (k : Int))).run Tryd.prog w = .ok (.agg #[.int .i64 d, .int .i64 s]) w) ∧ I64 d := by
  have h : k = 0 ∨ k = 1 ∨ k = 2 := by omega
  rcases h with rfl | rfl | rfl
  · exact ⟨d0, s0, fun _ => by kernel_rfl, i0⟩
  · exact ⟨d1, s1, fun _ => by kernel_rfl, i1⟩
  · exact ⟨d2, s2, fun _ => by kernel_rfl, i2⟩
theorem trans_len {off : Int} {rs : List Zn.Rule} {ts : Zn.L} {er : Int} (h : Zn.trans off rs = (ts, er)) : ts.length ≤ 640 := by
  have := Zn.trans_err off rs
  rw [h] at this
  rcases this with h1 | ⟨h1, -⟩
  · simp only at h1
    subst h1
    exact (Zn.trans_ok h).2.2.2.2.2.2.1
  · simp only at h1
    subst h1; simp
theorem trans_at {off : Int} {rs : List Zn.Rule} {ts : Zn.L} {er : Int} (h : Zn.trans off rs = (ts, er)) : ∀ x ∈ ts, 0 ≤ x.1 ∧ x.1 ≤ 8589934592 := by
  have := Zn.trans_err off rs
  rw [h] at this
  rcases this with h1 | ⟨h1, -⟩
  · simp only at h1
    subst h1
    obtain ⟨k1, k2, k3, k4, k5, k6, k7, k8⟩ := Zn.trans_ok h
    exact Zn.vt_bd (Int.le_refl 0) k6
  · simp only at h1
    subst h1
    intro x hx; cases hx
theorem loc_bd {off : Int} {rs : List Zn.Rule} {ts : Zn.L} {er : Int} (h : Zn.trans off rs = (ts, er)) (x : Int) : -2 ≤ (locV off ts er x).1 ∧ (locV off ts er x).1 ≤ 100000 := by
  unfold locV
  by_cases he : offE er x = 0
  · rw [if_neg (by simpa using he)]
    unfold offE at he
    by_cases h0 : er = 0
    · subst h0
      by_cases hx : x < 0 ∨ 8589934592 < x
      · simp [hx] at he
      · obtain ⟨k1, k2, k3, k4, k5, k6, k7, k8⟩ := Zn.trans_ok h
        have := offAt_bd x k1 k8
        rw [Zn.okO_iff] at this
        have hv : offV off ts 0 x = Zn.offAt off ts x := by unfold offV; simp [hx]
        rw [hv]
        unfold Zn.toL
        simp only
        omega
    · simp [h0] at he
  · rw [if_pos he]; simp
theorem frmV_len {off : Int} {rs : List Zn.Rule} {ts : Zn.L} {er : Int} (h : Zn.trans off rs = (ts, er)) (d s : Int) : (frmV off ts er d s).length ≤ 641 := by
  have := trans_len h
  unfold frmV
  split
  · simp
  split
  · simp
  · have := frm_len (Zn.locS d s) (Zn.strs 0 off ts)
    rw [Zn.strs_len] at this
    omega

theorem ListAt.diced {α : Type} {k : Nat} {e : α → Nat → Value} {w w' : World} {A : Option Addr} {xs : List α} {g : Nat} (h : ListAt k e w A xs) (hg : w.grownBy w' (some g)) (hne : 0 < xs.length → ∀ ad, A = some ad → ad.block ≠ g) : ListAt k e w' A xs := fun h0 => by
  obtain ⟨b, off, ea, hlt, hc⟩ := h h0
  have := hne h0 _ ea
  simp only at this
  exact ⟨b, off, ea, Nat.lt_of_lt_of_le hlt hg.size, fun i x hx j hj => (hg.cell_far ⟨b, off + i * k + j, none⟩ hlt (fun e => this (Option.some.inj e))).trans (hc i x hx j hj)⟩
/-- Rules do not lie where a Dice lies. -/
theorem rules_far {w : World} {B : Option Addr} {rs : List Zn.Rule} {g n c : Nat} {A : Option Addr} {zs : List Int} (h : RulesAt w B rs) (hD : Dice w g A n c zs) (h0 : 0 < rs.length) : ∀ ad, B = some ad → ad.block ≠ g := fun ad e e2 => by
  obtain ⟨b, off, ea, hlt, hc⟩ := h h0
  rw [ea] at e
  cases e
  simp only at e2
  subst e2
  obtain ⟨x, hx⟩ := get_ex h0
  obtain ⟨p, -, hd⟩ := hD.at_
  have c2 := hc 0 x hx 2 (by omega)
  rw [cell_of_row w b (off + 0 * 7 + 2) _ _ (0, 0) hd] at c2
  rw [Array.getElem?_eq_none (by simp)] at c2
  cases c2
/-- What stands ahead of the rounds. -/
structure XS (w : World) (s0 : ByteArray) (o0 : Int) (A0 : Option Addr) (n0 c0 : Nat) (raw : List Zn.Rule) (g : Nat) (A : Option Addr) (n c : Nat) (zs : List Int) (oz : Int) (Az : Option Addr) (nz cz : Nat) (rz : List Zn.Rule) (bz : Nat) (W : World) : Prop where
  civ : CivT W
  raw : RulesAt W A0 raw
  rawB : ZBlk W w.heap.size s0 o0 A0 n0 c0
  z : RulesAt W Az rz
  zb : ZBlk W bz ⟨#[97]⟩ oz Az nz cz
  dice : Dice W g A n c zs
  bel : Below w.heap.size w W
  gle : w.heap.size < g
  bne : bz ≠ g
  cg : 12 ≤ 12
section
variable {w W W' : World} {s0 : ByteArray} {o0 : Int} {A0 : Option Addr} {n0 c0 : Nat} {raw : List Zn.Rule} {g : Nat} {A : Option Addr} {n c : Nat} {zs : List Int} {oz : Int} {Az : Option Addr} {nz cz : Nat} {rz : List Zn.Rule} {bz : Nat}
theorem XS.after (h : XS w s0 o0 A0 n0 c0 raw g A n c zs oz Az nz cz rz bz W) (hb : Below W.heap.size W W') : XS w s0 o0 A0 n0 c0 raw g A n c zs oz Az nz cz rz bz W' :=
  ⟨h.civ.below hb, h.raw.below hb, BlkAt.after h.rawB hb, h.z.below hb, BlkAt.after h.zb hb, h.dice.after hb, bstep h.bel hb, h.gle, h.bne, h.cg⟩
theorem XS.drew (h : XS w s0 o0 A0 n0 c0 raw g A n c zs oz Az nz cz rz bz W) : XS w s0 o0 A0 n0 c0 raw g A n c zs oz Az nz cz rz bz W.drew := h.after (Below.refl _ _).drew
theorem XS.call (h : XS w s0 o0 A0 n0 c0 raw g A n c zs oz Az nz cz rz bz W) (hT : CivT w) (hg : W.grownBy W' (some g)) (hD : Dice W' g A n c zs) : XS w s0 o0 A0 n0 c0 raw g A n c zs oz Az nz cz rz bz W' := by
  have hlt := h.gle
  have hB := below_of_grown h.bel hg h.bel.size (by omega)
  exact ⟨hT.below hB, h.raw.diced hg (rules_far h.raw h.dice), blk_after h.rawB hg (by omega), h.z.diced hg (rules_far h.z h.dice), blk_after h.zb hg h.bne, hD, hB, h.gle, h.bne, h.cg⟩
theorem XS.cells (h : XS w s0 o0 A0 n0 c0 raw g A n c zs oz Az nz cz rz bz W) :
    W.cell? ⟨bz, 0, none⟩ = some (.string ⟨#[97]⟩) ∧ W.cell? ⟨bz, 1, none⟩ = some (.int .i64 oz) ∧ W.cell? ⟨bz, 2, none⟩ = some (.slice Az nz cz) ∧ W.cell? ⟨w.heap.size, 0, none⟩ = some (.string s0) ∧ W.cell? ⟨w.heap.size, 1, none⟩ = some (.int .i64 o0) ∧ W.cell? ⟨w.heap.size, 2, none⟩ = some (.slice A0 n0 c0) := by
  obtain ⟨a0, a1, a2⟩ := ZBlk.cells h.zb
  obtain ⟨b0, b1, b2⟩ := ZBlk.cells h.rawB
  exact ⟨a0, a1, a2, b0, b1, b2⟩
end
/-- The zone of a round, and its transitions twice. -/
structure YS (w : World) (s : ByteArray) (o : Int) (Ay : Option Addr) (ny cy : Nat) (rs : List Zn.Rule) (by_ : Nat) (At Bt : Option Addr) (ts : Zn.L) (W : World) : Prop where
  k : ZK w s o Ay ny cy rs by_ W
  a : PairsAt W At ts
  b : PairsAt W Bt ts
theorem YS.after {w : World} {s : ByteArray} {o : Int} {Ay : Option Addr} {ny cy : Nat} {rs : List Zn.Rule} {by_ : Nat} {At Bt : Option Addr} {ts : Zn.L} {W W' : World} (h : YS w s o Ay ny cy rs by_ At Bt ts W) (hb : Below W.heap.size W W') : YS w s o Ay ny cy rs by_ At Bt ts W' :=
  ⟨h.k.after hb, h.a.below hb, h.b.below hb⟩
theorem keepY {w : World} {s : ByteArray} {o : Int} {Ay : Option Addr} {ny cy : Nat} {rs : List Zn.Rule} {by_ : Nat} {At Bt : Option Addr} {ts : Zn.L} {W W' : World} {u0 u1 u2 : Value}
    (h : W.cell? ⟨by_, 0, none⟩ = some u0 ∧ W.cell? ⟨by_, 1, none⟩ = some u1 ∧ W.cell? ⟨by_, 2, none⟩ = some u2 ∧ YS w s o Ay ny cy rs by_ At Bt ts W) (hb : Below W.heap.size W W') :
    W'.cell? ⟨by_, 0, none⟩ = some u0 ∧ W'.cell? ⟨by_, 1, none⟩ = some u1 ∧ W'.cell? ⟨by_, 2, none⟩ = some u2 ∧ YS w s o Ay ny cy rs by_ At Bt ts W' :=
  ⟨cell_keep h.1 hb, cell_keep h.2.1 hb, cell_keep h.2.2.1 hb, h.2.2.2.after hb⟩

/-- The block n of a code. -/
def findBlock (n : Nat) : Code → Option Code
  | .block m c => if m = n then some (.block m c) else findBlock n c
  | .loop c => findBlock n c
  | .seq a b => match findBlock n a with
    | some c => some c
    | none => findBlock n b
  | .cond _ a b => match findBlock n a with
    | some c => some c
    | none => findBlock n b
  | _ => none
noncomputable def codeB4 : Code := ((Tryd.f4.body.bind (findBlock 4)).getD .skip)
noncomputable def codeB2 : Code := ((Tryd.f4.body.bind (findBlock 2)).getD .skip)

set_option maxHeartbeats 8000000 in
set_option maxRecDepth 1000000 in
theorem b4_law {w5 : World} {s : ByteArray} {o : Int} {Ay : Option Addr} {ny cy : Nat} {rs : List Zn.Rule} {bz' : Nat} {ts : Zn.L} {er : Int} {a0 b0 a1 b1 a2 b2 : Int} {u0 u1 u2 u3 u4 u5 u6 u7 u8 u9 u10 u11 u12 u13 u15 u16 u17 u18 u19 u20 u21 u22 u23 u24 u25 u26 u27 u28 u29 u30 u31 u32 u33 u34 u35 u36 u37 u38 u39 u40 u41 u42 u43 u44 u45 u46 u47 u48 u49 u50 u51 u52 u53 u54 u55 u56 u57 u58 u59 u60 u61 u62 u63 u64 u65 u66 u67 u68 u69 u70 u71 u72 u73 u74 u75 u76 u77 u78 u79 u80 u81 u82 u83 u84 u85 u86 u87 u88 u89 u90 u91 u92 u93 u94 u95 u96 u97 u98 u99 u100 u101 u102 u103 u104 u105 u106 u107 u108 u109 u110 u111 u112 u113 u114 u115 u116 u117 u118 u119 u120 u121 u122 u123 u124 u125 u126 u127 u128 u129 u130 u131 u132 u133 u134 u135 u136 u137 u138 u139 u140 u141 u142 u143 u144 u145 u146 u147 u148 u149 u150 u151 u152 u153 u154 u155 u156 u157 u158 u159 u160 u161 u162 u163 u164 u165 u166 u167 u168 u169 u170 u171 u172 u173 u174 u175 u176 u177 u178 u181 u182 u183 u184 u185 u186 u187 u188 u189 u190 u191 u192 u193 u194 u195 u196 u197 u198 u199 u200 u201 u202 u203 u204 u205 u206 u207 u208 u209 u210 u211 u212 u213 u214 u215 u216 u217 u218 u219 u220 u221 u222 u223 u224 u225 u226 u227 u228 u229 : Value} {Q : Exit → Act → World → Prop} {wr0 : World} (HTR : Hid (Zn.trans o rs = (ts, er))) (ho : I64 o) (i0 : I64 a0) (i1 : I64 a1) (i2 : I64 a2)
    (HK6 : Hid (ZK w5 s o Ay ny cy rs bz' wr0)) (hQ : ∀ (v10 v31 v32 v33 v34 v35 v36 v37 v38 v39 v180 v181 v182 v183 v184 v185 v186 v187 v188 v189 v190 v191 v192 v193 v194 v195 v196 v197 v198 v199 v200 v201 v202 v203 v204 v205 v206 v207 v208 v209 v210 v211 v212 v213 v214 v215 v216 v217 v218 v219 v220 v221 v222 v223 v224 v225 v226 : Value) (w'' : World), Hid (ZK w5 s o Ay ny cy rs bz' w'') → Q .normal ⟨#[u0, u1, u2, u3, u4, u5, u6, u7, u8, u9, v10, u11, u12, u13, .pointer (some ⟨bz', 0, none⟩), u15, u16, u17, u18, u19, u20, u21, u22, u23, u24, u25, u26, u27, u28, u29, u30, v31, v32, v33, v34, v35, v36, v37, v38, v39, u40, u41, u42, u43, u44, u45, u46, u47, u48, u49, u50, u51, u52, u53, u54, u55, u56, u57, u58, u59, u60, u61, u62, u63, u64, u65, u66, u67, u68, u69, u70, u71, u72, u73, u74, u75, u76, u77, u78, u79, u80, u81, u82, u83, u84, u85, u86, u87, u88, u89, u90, u91, u92, u93, u94, u95, u96, u97, u98, u99, u100, u101, u102, u103, u104, u105, u106, u107, u108, u109, u110, u111, u112, u113, u114, u115, u116, u117, u118, u119, u120, u121, u122, u123, u124, u125, u126, u127, u128, u129, u130, u131, u132, u133, u134, u135, u136, u137, u138, u139, u140, u141, u142, u143, u144, u145, u146, u147, u148, u149, u150, u151, u152, u153, u154, u155, u156, u157, u158, u159, u160, u161, u162, u163, u164, u165, u166, u167, u168, u169, u170, u171, u172, u173, u174, u175, u176, u177, u178, .agg #[.int .i64 a0, .int .i64 b0, .int .i64 a1, .int .i64 b1, .int .i64 a2, .int .i64 b2], v180, v181, v182, v183, v184, v185, v186, v187, v188, v189, v190, v191, v192, v193, v194, v195, v196, v197, v198, v199, v200, v201, v202, v203, v204, v205, v206, v207, v208, v209, v210, v211, v212, v213, v214, v215, v216, v217, v218, v219, v220, v221, v222, v223, v224, v225, v226, u227, u228, u229], []⟩ w'') :
    Code.wp Tryd.prog codeB4 Q ⟨#[u0, u1, u2, u3, u4, u5, u6, u7, u8, u9, u10, u11, u12, u13, .pointer (some ⟨bz', 0, none⟩), u15, u16, u17, u18, u19, u20, u21, u22, u23, u24, u25, u26, u27, u28, u29, u30, u31, u32, u33, u34, u35, u36, u37, u38, u39, u40, u41, u42, u43, u44, u45, u46, u47, u48, u49, u50, u51, u52, u53, u54, u55, u56, u57, u58, u59, u60, u61, u62, u63, u64, u65, u66, u67, u68, u69, u70, u71, u72, u73, u74, u75, u76, u77, u78, u79, u80, u81, u82, u83, u84, u85, u86, u87, u88, u89, u90, u91, u92, u93, u94, u95, u96, u97, u98, u99, u100, u101, u102, u103, u104, u105, u106, u107, u108, u109, u110, u111, u112, u113, u114, u115, u116, u117, u118, u119, u120, u121, u122, u123, u124, u125, u126, u127, u128, u129, u130, u131, u132, u133, u134, u135, u136, u137, u138, u139, u140, u141, u142, u143, u144, u145, u146, u147, u148, u149, u150, u151, u152, u153, u154, u155, u156, u157, u158, u159, u160, u161, u162, u163, u164, u165, u166, u167, u168, u169, u170, u171, u172, u173, u174, u175, u176, u177, u178, .agg #[.int .i64 a0, .int .i64 b0, .int .i64 a1, .int .i64 b1, .int .i64 a2, .int .i64 b2], .int .i64 0, u181, u182, u183, u184, u185, u186, u187, u188, u189, u190, u191, u192, u193, u194, u195, u196, u197, u198, u199, u200, u201, u202, u203, u204, u205, u206, u207, u208, u209, u210, u211, u212, u213, u214, u215, u216, u217, u218, u219, u220, u221, u222, u223, u224, u225, u226, u227, u228, u229], []⟩ wr0 := by
  have HQ := Lib.hid hQ
  have J5 := Lib.hid (fun W h d q hd => fromLocal_is HTR.out s Ay ny cy d q W h ho hd)
  have J6 := Lib.hid (fun W h d q hd => rfromLocal_is HTR.out s Ay ny cy d q W h ho hd)
  have J7 := Lib.hid (fun W h d q hd => first_is HTR.out s Ay ny cy d q W h ho hd)
  have J8 := Lib.hid (fun W h d q hd => rfirst_is HTR.out s Ay ny cy d q W h ho hd)
  have HP3 := Lib.hid (pick3 a0 b0 a1 b1 a2 b2 i0 i1 i2)
  clear hQ ho i0 i1 i2
  conv => arg 2; whnf
  go_wp2_with fail
  go_loopw [180] (fun i wr => ∃ p : Nat, p ≤ 3 ∧ i = .int .i64 p ∧ Hid (ZK w5 s o Ay ny cy rs bz' wr)) (fun i _ => (3 - intOf i).toNat)
  case atStart => exact ⟨0, by omega, rfl, HK6⟩
  case round =>
    clear HK6
    obtain ⟨p, hp, rfl, HK⟩ := hrel
    by_cases hp3 : p < 3
    · obtain ⟨ld, ls, IX, ild⟩ := HP3.out p hp3
      have p0 : (0 : Int) ≤ p := by omega
      have p1 : (p : Int) < 3 := by omega
      obtain ⟨wo2, rfl⟩ : ∃ wo2 : World, wo2 = wr := ⟨_, rfl⟩
      have I5 := Lib.hid (fun W h => J5.out W h ld ls ild)
      have I6 := Lib.hid (fun W h => J6.out W h ld ls ild)
      have I7 := Lib.hid (fun W h => J7.out W h ld ls ild)
      have I8 := Lib.hid (fun W h => J8.out W h ld ls ild)
      have hfl := frmV_len HTR.out ld ls
      generalize frmV o ts er ld ls = xs at I5 I6 hfl
      generalize frmE er ls = xe at I5 I6
      generalize fstV o ts er ld ls = fv at I7 I8
      generalize fstE o ts er ld ls = fe at I7 I8
      obtain ⟨M, hM⟩ : ∃ M, xs.length = M := ⟨_, rfl⟩
      rw [hM] at hfl
      have HMM := Lib.hid hM
      have HKa := Lib.hid (HK.out.after ((Below.refl _ _).alloc (Nat.le_refl _) (.cells #[.int .i64 ld, .int .i64 ls] 52)))
      have LBa : Hid (BlkAt (wo2.alloc (.cells #[.int .i64 ld, .int .i64 ls] 52)) wo2.heap.size #[.int .i64 ld, .int .i64 ls] 52) := Lib.hid (blk_new rfl)
      obtain ⟨z0, z1, z2⟩ := ZBlk.cells HKa.out.zb
      clear hM HK
      go_wp2_with fail
      refine (I5.out _ HKa.out.z).mono ?_
      rintro e v1 ⟨Ax, cx, rfl, PX, b⟩
      obtain ⟨bl, hbl⟩ : ∃ bl, wo2.heap.size = bl := ⟨_, rfl⟩
      rw [hbl] at LBa ⊢
      rw [HMM.out]
      have HK1 := Lib.hid (HKa.out.after b)
      have LB1 := Lib.hid (BlkAt.after LBa.out b)
      have HPX := Lib.hid PX
      clear b z0 z1 z2 HKa LBa PX IX hbl
      obtain ⟨z0, z1, z2⟩ := ZBlk.cells HK1.out.zb
      obtain ⟨l0, l1⟩ := (show v1.cell? ⟨bl, 0, none⟩ = some (.int .i64 ld) ∧ v1.cell? ⟨bl, 1, none⟩ = some (.int .i64 ls) from ⟨BlkAt.cell LB1.out rfl, BlkAt.cell LB1.out rfl⟩)
      go_wp2_with fail
      refine (I6.out _ HK1.out.z).mono ?_
      rintro e v2 ⟨Bx, dx, rfl, QX, b⟩
      rw [HMM.out]
      have HK2 := Lib.hid (HK1.out.after b)
      have LB2 := Lib.hid (BlkAt.after LB1.out b)
      have HPX2 := Lib.hid (And.intro (HPX.out.below b) QX)
      clear b z0 z1 z2 l0 l1 HK1 LB1 HPX QX
      obtain ⟨z0, z1, z2⟩ := ZBlk.cells HK2.out.zb
      obtain ⟨l0, l1⟩ := (show v2.cell? ⟨bl, 0, none⟩ = some (.int .i64 ld) ∧ v2.cell? ⟨bl, 1, none⟩ = some (.int .i64 ls) from ⟨BlkAt.cell LB2.out rfl, BlkAt.cell LB2.out rfl⟩)
      go_wp2_with fail
      refine (I7.out _ HK2.out.z).mono ?_
      rintro e v3 ⟨rfl, b⟩
      have HK3 := Lib.hid (HK2.out.after b)
      have LB3 := Lib.hid (BlkAt.after LB2.out b)
      have HPX3 := Lib.hid (And.intro (HPX2.out.1.below b) (HPX2.out.2.below b))
      clear b z0 z1 z2 l0 l1 HK2 LB2 HPX2
      obtain ⟨z0, z1, z2⟩ := ZBlk.cells HK3.out.zb
      obtain ⟨l0, l1⟩ := (show v3.cell? ⟨bl, 0, none⟩ = some (.int .i64 ld) ∧ v3.cell? ⟨bl, 1, none⟩ = some (.int .i64 ls) from ⟨BlkAt.cell LB3.out rfl, BlkAt.cell LB3.out rfl⟩)
      go_wp2_with fail
      refine (I8.out _ HK3.out.z).mono ?_
      rintro e v4 ⟨rfl, b⟩
      have HK4 := Lib.hid (HK3.out.after b)
      have HPX4 := Lib.hid (And.intro (HPX3.out.1.below b) (HPX3.out.2.below b))
      have CI := Lib.hid (ints_yes Ax Bx M cx dx xs v4 HPX4.out.1 HPX4.out.2 HMM.out (by omega))
      clear b z0 z1 z2 l0 l1 HK3 LB3 HPX3
      go_wp2_with fail
      refine CI.out.mono ?_
      rintro e v5 ⟨rfl, b⟩
      have HK5 := Lib.hid (HK4.out.after b)
      clear b CI HPX4 HK4
      go_wp2_with fail
      go_roundw
      case rel => exact ⟨p + 1, by omega, by go_num, HK5⟩
      case measure => simp [intOf]; omega
    · obtain rfl : p = 3 := by omega
      go_wp2_with fail
      apply HQ.out
      exact HK
end Go.Proofs.YtegnfmpbhindaaaDoor
