/- The law DutyJoins returns true for all arguments. Printed by gen_ux.py. -/
import Derived.Test.YtcnpedcdagiicaaGreatDoorKUw
import Derived.Test.YtcnpedcdagiicaaGreatDoorKTcr
set_option linter.unusedVariables false
set_option linter.unusedSimpArgs false
set_option maxRecDepth 100000
namespace Go.Proofs.YtcnpedcdagiicaaGreatDoor
open Go.RowKit
theorem neqSeg (a b c a' b' c' : Int) (w : World) : (binOp .neq 62 (.agg #[.int .i64 a, .int .i64 b, .int .i64 c]) (.agg #[.int .i64 a', .int .i64 b', .int .i64 c'])).run Tryz.prog w = .ok (.bool (!(a == a' && (b == b' && c == c')))) w := by
 have u3 := Tryz.underlying3
 have a3 := Tryz.isAgg3
 have z3 := Tryz.sizeOf3
 rw [run_neq_struct, show (10000 : Nat) = 9999 + 1 from rfl, run_equalIn_struct w 9999 62 _ _ hSeg1 hSeg2]
 simp only [Program.fieldsOf, Tryz.underlying62]
 go_simp
 by_cases h1 : a = a' <;> by_cases h2 : b = b' <;> by_cases h3 : c = c' <;> simp [h1, h2, h3]
theorem guardSeg2 (p q : Operand) (a b c a' b' c' : Int) (w : World) : (eqGuard .neq 62 p q (.agg #[.int .i64 a, .int .i64 b, .int .i64 c]) (.agg #[.int .i64 a', .int .i64 b', .int .i64 c'])).run Tryz.prog w = .ok () w :=
 run_eqGuard_agg w _ _ _ _ _ _ (by kernel_rfl)
set_option maxHeartbeats 4000000 in
theorem same11_yes (A B : Option Addr) (n c d : Nat) (xs : List Sg.S) (w : World) (hA : ListAt 3 eTrip w A xs) (hB : ListAt 3 eTrip w B xs) (hn : xs.length = n) (hm : n ≤ 900000) :
  Calls Tryz.prog 25 #[.slice A n c, .slice B n d] w fun e w' => e = .returned (.bool true) ∧ Below w.heap.size w w' := by
 have HA := Lib.hid hA; have HB := Lib.hid hB; have HN := Lib.hid hn
 clear hA hB hn
 go_enter Tryz.func25, Tryz.ntmps25
 go_wp2_with fail
 go_loopw [13] (fun i wr => ∃ k : Nat, i = .int .i64 k ∧ k ≤ n ∧ Hid (Below w.heap.size w wr)) (fun i _ => n - (intOf i).toNat)
 case atStart => exact ⟨0, rfl, Nat.zero_le _, Lib.hid (Below.refl _ _)⟩
 case round =>
  obtain ⟨k, rfl, hk, HW⟩ := hrel
  by_cases hlt : k < n
  ·obtain ⟨⟨a, b, p⟩, hx⟩ := get_ex (xs := xs) (i := k) (by have := HN.out; omega)
   obtain ⟨b1, o1, rfl, hb1, hc1⟩ := (HA.out.below HW.out) (by have := HN.out; omega)
   obtain ⟨b2, o2, rfl, hb2, hc2⟩ := (HB.out.below HW.out) (by have := HN.out; omega)
   obtain ⟨s0, s1, s1', s2⟩ := trip_cells (hc1 k _ hx)
   obtain ⟨t0, t1, t1', t2⟩ := trip_cells (hc2 k _ hx)
   simp only at s0 s1 s1' s2 t0 t1 t1' t2
   have hq1 := fun w => neqSeg a b p a b p w
   have hq2 := fun w => guardSeg2 (.tmp 19) (.tmp 23) a b p a b p w
   have k0 : (0 : Int) ≤ k := by omega
   have k1 : (k : Int) < n := by omega
   clear hc1 hc2 hx
   go_wp2_with fail
   go_quiet (fail)
   go_wp2_with fail
   go_roundw
   case rel => exact ⟨k + 1, by go_num, by omega, Lib.hid (below_drewN HW.out _)⟩
   case measure => simp [intOf]; omega
  ·go_wp2_with fail
   go_ret
   exact ⟨rfl, HW.out⟩
set_option maxHeartbeats 16000000 in
theorem dutyjoins_any (A : Option Addr) (n c : Nat) (zs : List Int) (kn : Int) (km : Int) (w : World) (hT : CivT w) (hA : NumsAt w A zs) (hn : zs.length = n) (hf : ∀ z ∈ zs, -9223372036854775808 ≤ z ∧ z ≤ 9223372036854775807) (hkn : I64 kn) (hkm : I64 km) :
  Calls Tryz.prog 5 #[.slice A n c, .int .i64 kn, .int .i64 km] w fun e w' => e = .returned (.bool true) ∧ Below w.heap.size w w' := by
 have HT := Lib.hid (show ∀ W, Below w.heap.size w W → CivT W from fun W hb => hT.below hb)
 clear hT
 by_cases h5 : n ≤ 500
 ·skip
  have hl : decide ((n : Int) ≤ 500) = true := by simp; omega
  have D0 := Lib.hid (Dice.start (c := c) hA hn h5 hf)
  clear hA hn hf
  go_enter Tryz.func5, Tryz.ntmps5
  go_wp2_with fail
  refine (Light_any A n c _).mono ?_
  rw [hl]
  rintro e w' ⟨rfl, rfl⟩
  go_wp2_with fail
  refine (Roll_any A n c _).mono ?_
  rintro e w' ⟨rfl, rfl⟩
  go_wp2_with fail
  refine (Config_any w.heap.size n c A zs 1 (by decide) (by decide) _ D0.out).mono ?_
  rintro e w1 ⟨⟨a1, a2, a3⟩, ⟨b1, b2, b3⟩, ⟨c1, c2, c3⟩, ⟨d1, d2, d3⟩, C, rfl, hC, hM, hz1, hp1, -, -, hg, hD⟩
  simp only [cfgV]
  have B1 := Lib.hid (below_of_grown ((Below.refl _ w).alloc (Nat.le_refl _) (.cells #[.slice A n c, .int .i64 0] 84)) hg (by simp) (Nat.le_refl _))
  have hza := hC.zones.len; have hpa := hC.people.len; have hca := hC.cals.len
  simp only at hza hpa hca
  have hzl := hM.zl; have hpl := hM.pl; have hcl := hM.cl
  have HM := Lib.hid hM
  have HLN := Lib.hid (show C.zones.length = a2 ∧ C.people.length = b2 ∧ C.cals.length = c2 from ⟨hza.1, hpa.1, hca.1⟩)
  have HC := Lib.hid (show CfgAt (w.heap.size + 1) w1.heap.size w1 (a1, a2, a3) (b1, b2, b3) (c1, c2, c3) (d1, d2, d3) C by have := hC; rwa [show (w.alloc (.cells #[.slice A n c, .int .i64 0] 84)).heap.size = w.heap.size + 1 by simp] at this)
  have hsz1 : w.heap.size + 1 ≤ w1.heap.size := by have := hg.size; simpa using this
  have CB := Lib.hid (BlkAt.new w1 #[.slice a1 a2 a3, .slice b1 b2 b3, .slice c1 c2 c3, .slice d1 d2 d3] 33)
  have k1 := (Below.refl _ w1).alloc (Nat.le_refl _) (.cells #[.slice a1 a2 a3, .slice b1 b2 b3, .slice c1 c2 c3, .slice d1 d2 d3] 33)
  have HC2 := Lib.hid ((HC.out.below (Nat.le_refl _) k1).mono (Nat.le_refl _) k1.size)
  have HD := Lib.hid (hD.after k1)
  have B2 := Lib.hid (bstep B1.out k1)
  have hbc : w.heap.size + 1 ≤ w1.heap.size := hsz1
  have hs2 : w1.heap.size + 1 ≤ (w1.alloc (.cells #[.slice a1 a2 a3, .slice b1 b2 b3, .slice c1 c2 c3, .slice d1 d2 d3] 33)).heap.size := by simp
  clear hC hM hg hD D0 B1 h5 k1 HC hsz1
  go_upto_region 5 with fail
  generalize hcb : w1.heap.size = bc at CB hbc hs2 ⊢
  generalize w1.alloc (.cells #[.slice a1 a2 a3, .slice b1 b2 b3, .slice c1 c2 c3, .slice d1 d2 d3] 33) = W2 at HC2 HD CB B2 hs2 ⊢
  clear hcb
  have y0 := CB.out.cell (i := 0) rfl; have y1 := CB.out.cell (i := 1) rfl; have y2 := CB.out.cell (i := 2) rfl; have y3 := CB.out.cell (i := 3) rfl
  go_upto_region 6 with (go_at_call 12; refine (Layer_lit w.heap.size n c A zs a1 b1 c1 d1 a2 a3 b2 b3 c2 c3 d2 d3 [97] (by omega) (by omega) (by omega) (by omega) (by omega) W2 HD.out).mono ?_; rintro e w3 ⟨l, m1, m2, m3, q1, q2, q3, rfl, hnm, hml, hls, hg3, hD3⟩)
  have hs3 := hg3.size
  have LB := BlkAt.new w3 #[.string ⟨#[97]⟩, .int .i64 l.zone, .int .i64 l.day, .int .i64 l.sec, .int .i64 l.unit, .int .i64 l.every, .slice m1 m2 m3, .slice q1 q2 q3, .int .i64 l.cal, .int .i64 l.mode] 39
  have k3 := (Below.refl _ w3).alloc (Nat.le_refl _) (.cells #[.string ⟨#[97]⟩, .int .i64 l.zone, .int .i64 l.day, .int .i64 l.sec, .int .i64 l.unit, .int .i64 l.every, .slice m1 m2 m3, .slice q1 q2 q3, .int .i64 l.cal, .int .i64 l.mode] 39)
  have HDC := Lib.hid (hD3.after k3)
  have HNM := Lib.hid hnm
  have HML := Lib.hid hml
  have HK := Lib.hid (show LK w (w.heap.size + 1) (a1, a2, a3) (b1, b2, b3) (c1, c2, c3) (d1, d2, d3) C l (m1, m2, m3) (q1, q2, q3) bc w3.heap.size #[.slice a1 a2 a3, .slice b1 b2 b3, .slice c1 c2 c3, .slice d1 d2 d3] #[.string ⟨#[97]⟩, .int .i64 l.zone, .int .i64 l.day, .int .i64 l.sec, .int .i64 l.unit, .int .i64 l.every, .slice m1 m2 m3, .slice q1 q2 q3, .int .i64 l.cal, .int .i64 l.mode] (w3.alloc (.cells #[.string ⟨#[97]⟩, .int .i64 l.zone, .int .i64 l.day, .int .i64 l.sec, .int .i64 l.unit, .int .i64 l.every, .slice m1 m2 m3, .slice q1 q2 q3, .int .i64 l.cal, .int .i64 l.mode] 39)) from
   ⟨bstep (below_of_grown B2.out hg3 B2.out.size (Nat.le_refl _)) k3, HT.out _ (Below.refl _ _), (((HC2.out.kept (.of_grown hg3 (by omega) (Nat.le_refl _))).mono (Nat.le_refl _) hs3).below (Nat.le_refl _) k3).mono (Nat.le_refl _) k3.size, (LayOk.kept (.of_below k3 (Nat.le_refl _)) (lay_drawn (lo := w.heap.size + 1) hls (fun b hb => by omega))).mono (Nat.le_refl _) k3.size, (CB.out.grown hg3 (by intro e; cases e; omega)).after k3, LB, hbc, by omega⟩)
  have HFT := Lib.hid (show Sg.fitS C l = true from fit_made HM.out (by rw [HLN.out.1, HLN.out.2.1, HLN.out.2.2]; exact hml) hnm)
  have HSM := Lib.hid (show Sg.Small C l from small_made HM.out.zs (fun x hx => (HM.out.cs x hx).2.1) (by obtain ⟨-, -, -, -, -, -, -, -, -, -, -, -, -, h, -⟩ := hml; exact h) HFT.out)
  clear y0 y1 y2 y3 hls hg3 hD3 k3 CB HD HC2 B2 hml hnm LB hs3 hbc hs2
  generalize hlb : w3.heap.size = bl at HK ⊢
  generalize w3.alloc (.cells #[.string ⟨#[97]⟩, .int .i64 l.zone, .int .i64 l.day, .int .i64 l.sec, .int .i64 l.unit, .int .i64 l.every, .slice m1 m2 m3, .slice q1 q2 q3, .int .i64 l.cal, .int .i64 l.mode] 39) = W3 at HDC HK ⊢
  clear hlb
  have x0 := HK.out.bx.cell (i := 0) rfl; have x1 := HK.out.bx.cell (i := 1) rfl; have x2 := HK.out.bx.cell (i := 2) rfl; have x3 := HK.out.bx.cell (i := 3) rfl; have l0 := HK.out.by_.cell (i := 0) rfl; have l1 := HK.out.by_.cell (i := 1) rfl; have l2 := HK.out.by_.cell (i := 2) rfl; have l3 := HK.out.by_.cell (i := 3) rfl; have l4 := HK.out.by_.cell (i := 4) rfl; have l5 := HK.out.by_.cell (i := 5) rfl; have l6 := HK.out.by_.cell (i := 6) rfl; have l7 := HK.out.by_.cell (i := 7) rfl; have l8 := HK.out.by_.cell (i := 8) rfl; have l9 := HK.out.by_.cell (i := 9) rfl
  go_upto_region 7 with (go_at_call 14; refine (Instant_any w.heap.size n c A zs W3 HDC.out).mono ?_; rintro e w4 ⟨f, rfl, f1, f2, hg4, hD4⟩)
  have HK4 := Lib.hid (HK.out.grown hg4 (by omega) (Nat.le_refl _))
  clear x0 x1 x2 x3 l0 l1 l2 l3 l4 l5 l6 l7 l8 l9 HK hg4 hD4 HDC
  obtain ⟨p, hp⟩ : ∃ p, kn % 518400 = p := ⟨_, rfl⟩
  obtain ⟨q, hq⟩ : ∃ q, km % 518400 = q := ⟨_, rfl⟩
  have hp0 : 0 ≤ p ∧ p < 518400 := by omega
  have hq0 : 0 ≤ q ∧ q < 518400 := by omega
  have HM1 := Lib.hid (show ∀ W, _ from fun W => Mod_any kn 518400 W hkn.1 hkn.2 (by omega) (by omega))
  have HM2 := Lib.hid (show ∀ W, _ from fun W => Mod_any km 518400 W hkm.1 hkm.2 (by omega) (by omega))
  rw [hp] at HM1
  rw [hq] at HM2
  obtain ⟨md, hmd⟩ : ∃ x, f + p = x := ⟨_, rfl⟩
  obtain ⟨to_, hto⟩ : ∃ x, md + q = x := ⟨_, rfl⟩
  have ⟨v1, v1'⟩ := wrapn (n := f + p) (by omega)
  have ⟨v2, v2'⟩ := wrapn (n := md + q) (by omega)
  have hb1 : f ≤ md ∧ md ≤ f + 518400 := by omega
  have hb2 : md ≤ to_ ∧ to_ ≤ f + 1036800 := by omega
  rw [hmd] at v1 v1'
  rw [hto] at v2 v2'
  clear hp hq
  go_upto_region 9 with (first | (go_at_call 28; refine (HM1.out _).mono ?_; rintro e w' ⟨rfl, rfl⟩; clear HM1) | (go_at_call 28; refine (HM2.out _).mono ?_; rintro e w' ⟨rfl, rfl⟩))
  clear v1 v1' v2 v2' hmd hto
  have x0 := HK4.out.bx.cell (i := 0) rfl; have x1 := HK4.out.bx.cell (i := 1) rfl; have x2 := HK4.out.bx.cell (i := 2) rfl; have x3 := HK4.out.bx.cell (i := 3) rfl; have l0 := HK4.out.by_.cell (i := 0) rfl; have l1 := HK4.out.by_.cell (i := 1) rfl; have l2 := HK4.out.by_.cell (i := 2) rfl; have l3 := HK4.out.by_.cell (i := 3) rfl; have l4 := HK4.out.by_.cell (i := 4) rfl; have l5 := HK4.out.by_.cell (i := 5) rfl; have l6 := HK4.out.by_.cell (i := 6) rfl; have l7 := HK4.out.by_.cell (i := 7) rfl; have l8 := HK4.out.by_.cell (i := 8) rfl; have l9 := HK4.out.by_.cell (i := 9) rfl
  go_upto_region 10 with (go_at_call 22; refine (HK4.out.seg HNM.out (fun _ => HSM.out) (by unfold I64; omega) (by unfold I64; omega)).mono ?_; rintro e w5 ⟨L5, r5, A5, n5, g5, rfl, hl5, ho5, he5, hp5, hn5, hb5⟩; obtain ⟨rfl, hs5⟩ := seg_ok HFT.out (by omega) (by omega) (by omega) (by omega) ho5 he5)
  have HK5 := Lib.hid (HK4.out.below hb5)
  have HS5 := Lib.hid hs5; have HL5 := Lib.hid hl5; have HP5 := Lib.hid hp5; have HN5 := Lib.hid hn5
  clear x0 x1 x2 x3 l0 l1 l2 l3 l4 l5 l6 l7 l8 l9 HK4 hs5 hl5 hp5 hn5 hb5 ho5 he5
  have x0 := HK5.out.bx.cell (i := 0) rfl; have x1 := HK5.out.bx.cell (i := 1) rfl; have x2 := HK5.out.bx.cell (i := 2) rfl; have x3 := HK5.out.bx.cell (i := 3) rfl; have l0 := HK5.out.by_.cell (i := 0) rfl; have l1 := HK5.out.by_.cell (i := 1) rfl; have l2 := HK5.out.by_.cell (i := 2) rfl; have l3 := HK5.out.by_.cell (i := 3) rfl; have l4 := HK5.out.by_.cell (i := 4) rfl; have l5 := HK5.out.by_.cell (i := 5) rfl; have l6 := HK5.out.by_.cell (i := 6) rfl; have l7 := HK5.out.by_.cell (i := 7) rfl; have l8 := HK5.out.by_.cell (i := 8) rfl; have l9 := HK5.out.by_.cell (i := 9) rfl
  go_upto_region 11 with (go_at_call 22; refine (HK5.out.seg HNM.out (fun _ => HSM.out) (by unfold I64; omega) (by unfold I64; omega)).mono ?_; rintro e w6 ⟨L6, r6, A6, n6, g6, rfl, hl6, ho6, he6, hp6, hn6, hb6⟩; obtain ⟨rfl, hs6⟩ := seg_ok HFT.out (by omega) (by omega) (by omega) (by omega) ho6 he6)
  have HK6 := Lib.hid (HK5.out.below hb6)
  have HS6 := Lib.hid hs6; have HL6 := Lib.hid hl6; have HP6 := Lib.hid hp6; have HN6 := Lib.hid hn6
  have HP56 := Lib.hid (HP5.out.below hb6)
  clear x0 x1 x2 x3 l0 l1 l2 l3 l4 l5 l6 l7 l8 l9 HK5 HP5 hs6 hl6 hp6 hn6 hb6 ho6 he6
  have x0 := HK6.out.bx.cell (i := 0) rfl; have x1 := HK6.out.bx.cell (i := 1) rfl; have x2 := HK6.out.bx.cell (i := 2) rfl; have x3 := HK6.out.bx.cell (i := 3) rfl; have l0 := HK6.out.by_.cell (i := 0) rfl; have l1 := HK6.out.by_.cell (i := 1) rfl; have l2 := HK6.out.by_.cell (i := 2) rfl; have l3 := HK6.out.by_.cell (i := 3) rfl; have l4 := HK6.out.by_.cell (i := 4) rfl; have l5 := HK6.out.by_.cell (i := 5) rfl; have l6 := HK6.out.by_.cell (i := 6) rfl; have l7 := HK6.out.by_.cell (i := 7) rfl; have l8 := HK6.out.by_.cell (i := 8) rfl; have l9 := HK6.out.by_.cell (i := 9) rfl
  go_upto_region 12 with (go_at_call 22; refine (HK6.out.seg HNM.out (fun _ => HSM.out) (by unfold I64; omega) (by unfold I64; omega)).mono ?_; rintro e w7 ⟨L7, r7, A7, n7, g7, rfl, hl7, ho7, he7, hp7, hn7, hb7⟩; obtain ⟨rfl, hs7⟩ := seg_ok HFT.out (by omega) (by omega) (by omega) (by omega) ho7 he7)
  have HB7 := Lib.hid (bstep HK6.out.base hb7)
  have HS7 := Lib.hid hs7; have HL7 := Lib.hid hl7; have HP7 := Lib.hid hp7; have HN7 := Lib.hid hn7
  have HP57 := Lib.hid (HP56.out.below hb7)
  have HP67 := Lib.hid (HP6.out.below hb7)
  have HEQ := Lib.hid (show Sg.mrg (L5 ++ L6) = L7 from (HS5.out.join HS6.out).uniq HS7.out)
  clear x0 x1 x2 x3 l0 l1 l2 l3 l4 l5 l6 l7 l8 l9 HK6 HP6 HP56 hs7 hl7 hp7 hn7 hb7 ho7 he7 f1 f2 hp0 hq0
  obtain ⟨A8, c8, w8, hrun, ho8, hb8, -, -⟩ := run_app kSeg 23 w7 w7.heap.size (.slice none 0 0) ([] : List Sg.S) (OwnL.nil_ _ _) A5 n5 g5 L5 HP57.out HL5.out (by have := HN5.out; simp only [List.length_nil]; omega) (Nat.le_refl _)
  simp only [List.length_nil, Nat.zero_add, List.nil_append] at hrun ho8
  obtain ⟨A9, c9, w9, hrun2, ho9, hb9, -, -⟩ := run_app kSeg 23 w8 w7.heap.size _ L5 ho8 A6 n6 g6 L6 (HP67.out.below hb8) HL6.out (by have := HN5.out; have := HN6.out; have := HL5.out; omega) hb8.size
  rw [HL5.out] at hrun2 ho9
  have HP9 := Lib.hid (show ListAt 3 eTrip w9 A9 (L5 ++ L6) from by obtain ⟨A', c', e1, -, -, h3⟩ := ho9.shape; simp only [Value.slice.injEq] at e1; rw [e1.1]; exact h3)
  have HB9 := Lib.hid (show Below w7.heap.size w7 w9 from hb8.trans hb9)
  have HRUN := Lib.hid hrun; have HRUN2 := Lib.hid hrun2
  clear hrun hrun2 ho8 ho9 hb8 hb9
  go_wp2_with (at_builtin; refine Stop.go ?_)
  refine Stop.at ?_
  refine wp_app_run (w := w7) (.const (.slice none 0 0)) (.tmp 75) ?hw rfl ?h1 ?h2 HRUN.out ?_
  case hw => kernel_rfl
  case h1 => rfl
  case h2 => rfl
  go_wp2_with (at_builtin; refine Stop.go ?_)
  refine Stop.at ?_
  refine wp_app_run (w := w8) (.tmp 76) (.tmp 77) ?hw rfl ?h1 ?h2 HRUN2.out ?_
  case hw => kernel_rfl
  case h1 => rfl
  case h2 => rfl
  go_wp2_with (first
   | (go_at_call 26; refine (Merge_any A9 (n5 + n6) c9 (L5 ++ L6) w9 HP9.out (by rw [List.length_append, HL5.out, HL6.out]) (by have := HN5.out; have := HN6.out; omega)).mono ?_; rintro e w10 ⟨v10, rfl, hO10, hB10⟩; obtain ⟨A10, c10, rfl, -, -, hp10⟩ := hO10.shape; rw [HEQ.out] at hp10 ⊢; rw [HL7.out]; have HB10 := Lib.hid (bstep HB9.out hB10); have HP10 := Lib.hid hp10; clear hO10 hB10 hp10)
   | (go_at_call 25; refine (same11_yes A10 A7 n7 c10 g7 L7 w10 HP10.out (HP7.out.below HB10.out) HL7.out (by have := HN7.out; omega)).mono ?_; rintro e w11 ⟨rfl, hB11⟩; have HB11 := Lib.hid (bstep HB10.out hB11); clear hB11)
   | (go_at_call 9; refine (sane11_any _ (HT.out _ (bstep HB7.out HB11.out))).mono ?_; rintro e w12 ⟨rfl, hB12⟩; have HB12 := Lib.hid (bstep (bstep HB7.out HB11.out) hB12); clear hB12))
  go_ret
  exact ⟨rfl, HB12.out⟩
 ·have hl : decide ((n : Int) ≤ 500) = false := by simp; omega
  clear hA hn hf
  go_enter Tryz.func5, Tryz.ntmps5
  go_wp2_with fail
  refine (Light_any A n c _).mono ?_
  rw [hl]
  rintro e w' ⟨rfl, rfl⟩
  go_wp2_with fail
  refine (sane11_any _ (HT.out _ (Below.refl _ _))).mono ?_
  rintro e w1 ⟨rfl, b1⟩
  go_wp2_with fail
  go_ret
  exact ⟨rfl, b1⟩
end Go.Proofs.YtcnpedcdagiicaaGreatDoor
