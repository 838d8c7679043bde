/- The law CivilExact returns true for all numbers. -/
import Derived.Test.YtnbfbkomgdnlnaaDoorCivX
import Derived.Deep.RegionHeld3
import Derived.Deep.DeepCutAuto
namespace Go.Proofs.YtnbfbkomgdnlnaaDoor
open Go.RowKit
set_option linter.unusedVariables false

theorem keepS {bz bp bq : Nat} {z0 z1 z2 pa pb pc : Int} {w6 wc w' : World} (h : wc.cell? ⟨bz, 0, none⟩ = some (.int .i64 z0) ∧ wc.cell? ⟨bz, 1, none⟩ = some (.int .i64 z1) ∧ wc.cell? ⟨bz, 2, none⟩ = some (.int .i64 z2) ∧ wc.cell? ⟨bp, 0, none⟩ = some (.int .i64 pa) ∧ wc.cell? ⟨bp, 1, none⟩ = some (.int .i64 pb) ∧ wc.cell? ⟨bp, 2, none⟩ = some (.int .i64 pc) ∧ wc.cell? ⟨bq, 0, none⟩ = some (.int .i64 pa) ∧ wc.cell? ⟨bq, 1, none⟩ = some (.int .i64 pb) ∧ wc.cell? ⟨bq, 2, none⟩ = some (.int .i64 pc) ∧ CivT wc ∧ Below w6.heap.size w6 wc) (hb : Below wc.heap.size wc w') :
    w'.cell? ⟨bz, 0, none⟩ = some (.int .i64 z0) ∧ w'.cell? ⟨bz, 1, none⟩ = some (.int .i64 z1) ∧ w'.cell? ⟨bz, 2, none⟩ = some (.int .i64 z2) ∧ w'.cell? ⟨bp, 0, none⟩ = some (.int .i64 pa) ∧ w'.cell? ⟨bp, 1, none⟩ = some (.int .i64 pb) ∧ w'.cell? ⟨bp, 2, none⟩ = some (.int .i64 pc) ∧ w'.cell? ⟨bq, 0, none⟩ = some (.int .i64 pa) ∧ w'.cell? ⟨bq, 1, none⟩ = some (.int .i64 pb) ∧ w'.cell? ⟨bq, 2, none⟩ = some (.int .i64 pc) ∧ CivT w' ∧ Below w6.heap.size w6 w' := by
  obtain ⟨a0, a1, a2, b0, b1, b2, c0, c1, c2, hT, hB⟩ := h
  exact ⟨cell_keep a0 hb, cell_keep a1 hb, cell_keep a2 hb, cell_keep b0 hb, cell_keep b1 hb, cell_keep b2 hb, cell_keep c0 hb, cell_keep c1 hb, cell_keep c2 hb, hT.below hb, bstep hB hb⟩
theorem civS {a0 a1 a2 b0 b1 b2 c0 c1 c2 : Prop} {w6 wc : World} (h : a0 ∧ a1 ∧ a2 ∧ b0 ∧ b1 ∧ b2 ∧ c0 ∧ c1 ∧ c2 ∧ CivT wc ∧ Below w6.heap.size w6 wc) : CivT wc := h.2.2.2.2.2.2.2.2.2.1

set_option maxRecDepth 100000 in
set_option maxHeartbeats 6400000 in
theorem exact_any (y m d n : Int) (w : World) (hT : CivT w) (i1 : -9223372036854775808 ≤ y) (i2 : y ≤ 9223372036854775807) (i3 : -9223372036854775808 ≤ m) (i4 : m ≤ 9223372036854775807) (i5 : -9223372036854775808 ≤ d) (i6 : d ≤ 9223372036854775807) (i7 : -9223372036854775808 ≤ n) (i8 : n ≤ 9223372036854775807) :
    Calls Tryd.prog 3 #[.int .i64 y, .int .i64 m, .int .i64 d, .int .i64 n] w fun e w' => e = .returned (.bool true) ∧ Below w.heap.size w w' := by
  obtain ⟨xy, hxy⟩ : ∃ xy, xy = 1968 + y % 275 := ⟨_, rfl⟩
  obtain ⟨xm, hxm⟩ : ∃ xm, xm = m % 14 := ⟨_, rfl⟩
  obtain ⟨xd, hxd⟩ : ∃ xd, xd = d % 33 := ⟨_, rfl⟩
  have ix : I64 xy ∧ I64 xm ∧ I64 xd := by unfold I64; omega
  have x1 : 1968 ≤ xy ∧ xy ≤ 2300 := by omega
  have HX := Lib.hid hxy
  have HXM := Lib.hid hxm
  have HXD := Lib.hid hxd
  clear hxy hxm hxd
  have tb := Civ.tmod_bd n 4000 (by omega)
  have s9 := IntWalk.i64_in (d % 9 - 1) (by omega)
  have it : I64 (n.tmod 4000) := by unfold I64; omega
  go_enter Tryd.func3, Tryd.ntmps3
  go_wp2_with fail
  refine (Mod_any y 275 _ i1 i2 (by omega) (by omega)).mono ?_
  rintro e w' ⟨rfl, rfl⟩
  go_wp2_with fail
  refine (Mod_any m 14 _ i3 i4 (by omega) (by omega)).mono ?_
  rintro e w' ⟨rfl, rfl⟩
  go_wp2_with fail
  refine (Mod_any d 33 _ i5 i6 (by omega) (by omega)).mono ?_
  rintro e w' ⟨rfl, rfl⟩
  go_wp2_with fail
  rw [← HX.out, ← HXM.out, ← HXD.out]
  have k0 : ∀ w, (Instr.index 25 (.agg #[.int .i64 y, .int .i64 m, .int .i64 d, .int .i64 xy, .int .i64 xm, .int .i64 xd]) (.int .i64 0)).run Tryd.prog w = .ok (.agg #[.int .i64 y, .int .i64 m, .int .i64 d]) w := fun _ => by kernel_rfl
  have k1 : ∀ w, (Instr.index 25 (.agg #[.int .i64 y, .int .i64 m, .int .i64 d, .int .i64 xy, .int .i64 xm, .int .i64 xd]) (.int .i64 1)).run Tryd.prog w = .ok (.agg #[.int .i64 xy, .int .i64 xm, .int .i64 xd]) w := fun _ => by kernel_rfl
  go_loopw [56] (fun i wr => ∃ k : Nat, k ≤ 2 ∧ i = .int .i64 k ∧ CivT wr ∧ Below w.heap.size w wr ∧ DateAt wr (w.heap.size + 1) xy xm xd) (fun i _ => (2 - intOf i).toNat)
  case atStart => exact ⟨0, by omega, rfl, (hT.alloc _).alloc _, ((Below.refl _ _).alloc (Nat.le_refl _) _).alloc (by simp) _, by simpa using DateAt.new (w.alloc (.cells #[.int .i64 y, .int .i64 m, .int .i64 d] 23)) xy xm xd 23⟩
  case round =>
    obtain ⟨k, hk, rfl, I1, I2, I3⟩ := hrel
    have hk3 : k = 0 ∨ k = 1 ∨ k = 2 := by omega
    rcases hk3 with rfl | rfl | rfl
    · as_aux_lemma =>
      obtain ⟨dv, de, hd1, hd2⟩ := day_both y m d ⟨i1, i2⟩ ⟨i3, i4⟩ ⟨i5, i6⟩
      obtain ⟨pa, pb, pc, pe, ha1, ha2⟩ := addm_both y m d (n.tmod 4000) ⟨i1, i2⟩ ⟨i3, i4⟩ ⟨i5, i6⟩ it
      obtain ⟨wy, ww, we, hw1, hw2⟩ := week_both y m d ⟨i1, i2⟩ ⟨i3, i4⟩ ⟨i5, i6⟩
      obtain ⟨vb, hv1, hv2⟩ := valid_both y m d ⟨i1, i2⟩ ⟨i3, i4⟩ ⟨i5, i6⟩
      obtain ⟨lb, hl1, hl2⟩ := leap_both y ⟨i1, i2⟩
      obtain ⟨db, hm1, hm2⟩ := dim_both y m ⟨i1, i2⟩ ⟨i3, i4⟩
      obtain ⟨nv, ne, hn1, hn2⟩ := nth_both y m (n % 7) (d % 9 - 1) ⟨i1, i2⟩ ⟨i3, i4⟩
      go_wp2_with fail
      refine (hd1.at _ (I1.alloc _)).mono ?_
      rintro e w1 ⟨rfl, b1⟩
      have hT1 := (I1.alloc _).below b1
      have Z1 := (DateAt.new wr y m d 23).below b1
      obtain ⟨bz, hbz⟩ : ∃ bz, bz = wr.heap.size := ⟨_, rfl⟩
      have B1 := bstepA I2 b1
      have X1 := (I3.alloc (.cells #[.int .i64 y, .int .i64 m, .int .i64 d] 23)).below b1
      rw [← hbz] at Z1 ⊢
      clear hbz
      have ⟨q0, q1, q2⟩ := Z1
      go_wp2_with fail
      refine (hd2.at _ hT1).mono ?_
      rintro e w2 ⟨rfl, b2⟩
      clear q0 q1 q2
      have hT2 := hT1.below b2
      have Z2 := Z1.below b2
      have B2 := bstep B1 b2
      have X2 := X1.below b2
      have ⟨q0, q1, q2⟩ := Z2
      go_wp2_with fail
      refine (ha1.at _ hT2).mono ?_
      rintro e w3 ⟨rfl, b3⟩
      clear q0 q1 q2
      have hT3 := (hT2.below b3).alloc (.cells #[.int .i64 pa, .int .i64 pb, .int .i64 pc] 23)
      have Z3 := (Z2.below b3).alloc (.cells #[.int .i64 pa, .int .i64 pb, .int .i64 pc] 23)
      have B3 := (bstep B2 b3).alloc (bstep B2 b3).size (.cells #[.int .i64 pa, .int .i64 pb, .int .i64 pc] 23)
      have X3 := (X2.below b3).alloc (.cells #[.int .i64 pa, .int .i64 pb, .int .i64 pc] 23)
      have P3 := DateAt.new w3 pa pb pc 23
      obtain ⟨bp, hbp⟩ : ∃ bp, bp = w3.heap.size := ⟨_, rfl⟩
      have l3 := (Z2.below b3).lt
      rw [← hbp] at P3
      have HBP := Lib.hid hbp
      clear hbp
      have ⟨q0, q1, q2⟩ := Z2.below b3
      go_wp2_with fail
      refine (ha2.at _ hT3).mono ?_
      rintro e w4 ⟨rfl, b4⟩
      clear q0 q1 q2
      rw [← HBP.out]
      have hT4 := (hT3.below b4).alloc (.cells #[.int .i64 pa, .int .i64 pb, .int .i64 pc] 23)
      have Z4 := (Z3.below b4).alloc (.cells #[.int .i64 pa, .int .i64 pb, .int .i64 pc] 23)
      have P4 := (P3.below b4).alloc (.cells #[.int .i64 pa, .int .i64 pb, .int .i64 pc] 23)
      have B4 := (bstep B3 b4).alloc (bstep B3 b4).size (.cells #[.int .i64 pa, .int .i64 pb, .int .i64 pc] 23)
      have X4 := (X3.below b4).alloc (.cells #[.int .i64 pa, .int .i64 pb, .int .i64 pc] 23)
      have Q4 := DateAt.new w4 pa pb pc 23
      obtain ⟨bq, hbq⟩ : ∃ bq, bq = w4.heap.size := ⟨_, rfl⟩
      have l4 := (Z3.below b4).lt
      rw [← hbq] at Q4
      have HBQ := Lib.hid hbq
      clear hbq
      have ⟨q0, q1, q2⟩ := Z3.below b4
      go_wp2_with fail
      refine (hw1.at _ hT4).mono ?_
      rintro e w5 ⟨rfl, b5⟩
      clear q0 q1 q2
      rw [← HBQ.out]
      have hT5 := hT4.below b5
      have Z5 := Z4.below b5
      have P5 := P4.below b5
      have Q5 := Q4.below b5
      have B5 := bstep B4 b5
      have X5 := X4.below b5
      have ⟨q0, q1, q2⟩ := Z5
      go_wp2_with fail
      refine (hw2.at _ hT5).mono ?_
      rintro e w6 ⟨rfl, b6⟩
      clear q0 q1 q2
      have hT6 := hT5.below b6
      have Z6 := Z5.below b6
      have P6 := P5.below b6
      have Q6 := Q5.below b6
      have B6 := bstep B5 b6
      have X6 := X5.below b6
      clear Z1 Z2 Z3 Z4 Z5 P3 P4 P5 Q4 Q5 X1 X2 X3 X4 X5 B1 B2 B3 B4 B5 hT1 hT2 hT3 hT4 hT5 b1 b2 b3 b4 b5 b6 l3 l4 HBP HBQ
      have S6 : w6.cell? ⟨bz, 0, none⟩ = some (.int .i64 y) ∧ w6.cell? ⟨bz, 1, none⟩ = some (.int .i64 m) ∧ w6.cell? ⟨bz, 2, none⟩ = some (.int .i64 d) ∧ w6.cell? ⟨bp, 0, none⟩ = some (.int .i64 pa) ∧ w6.cell? ⟨bp, 1, none⟩ = some (.int .i64 pb) ∧ w6.cell? ⟨bp, 2, none⟩ = some (.int .i64 pc) ∧ w6.cell? ⟨bq, 0, none⟩ = some (.int .i64 pa) ∧ w6.cell? ⟨bq, 1, none⟩ = some (.int .i64 pb) ∧ w6.cell? ⟨bq, 2, none⟩ = some (.int .i64 pc) ∧ CivT w6 ∧ Below w6.heap.size w6 w6 := ⟨Z6.1, Z6.2.1, Z6.2.2, P6.1, P6.2.1, P6.2.2, Q6.1, Q6.2.1, Q6.2.2, hT6, Below.refl _ _⟩
      go_upto_region 12 with fail
      go_cut [156] (fun s wx => s = .bool false ∧ wx.cell? ⟨bz, 0, none⟩ = some (.int .i64 y) ∧ wx.cell? ⟨bz, 1, none⟩ = some (.int .i64 m) ∧ wx.cell? ⟨bz, 2, none⟩ = some (.int .i64 d) ∧ wx.cell? ⟨bp, 0, none⟩ = some (.int .i64 pa) ∧ wx.cell? ⟨bp, 1, none⟩ = some (.int .i64 pb) ∧ wx.cell? ⟨bp, 2, none⟩ = some (.int .i64 pc) ∧ wx.cell? ⟨bq, 0, none⟩ = some (.int .i64 pa) ∧ wx.cell? ⟨bq, 1, none⟩ = some (.int .i64 pb) ∧ wx.cell? ⟨bq, 2, none⟩ = some (.int .i64 pc) ∧ CivT wx ∧ Below w6.heap.size w6 wx)
      case first => as_aux_lemma =>
        go_region_held3 (fun w' => w'.cell? ⟨bz, 0, none⟩ = some (.int .i64 y) ∧ w'.cell? ⟨bz, 1, none⟩ = some (.int .i64 m) ∧ w'.cell? ⟨bz, 2, none⟩ = some (.int .i64 d) ∧ w'.cell? ⟨bp, 0, none⟩ = some (.int .i64 pa) ∧ w'.cell? ⟨bp, 1, none⟩ = some (.int .i64 pb) ∧ w'.cell? ⟨bp, 2, none⟩ = some (.int .i64 pc) ∧ w'.cell? ⟨bq, 0, none⟩ = some (.int .i64 pa) ∧ w'.cell? ⟨bq, 1, none⟩ = some (.int .i64 pb) ∧ w'.cell? ⟨bq, 2, none⟩ = some (.int .i64 pc) ∧ CivT w' ∧ Below w6.heap.size w6 w')
          (first | (exact keepS S6 (Below.refl _ _).drew) | (exact keepS (by assumption) hb))
          (first | (go_at_call 15; refine (hv1.at _ ?_).mono ?_; exact civS (by assumption); rintro e w' ⟨rfl, hb⟩) | (go_at_call 16; refine (hv2.at _ ?_).mono ?_; exact civS (by assumption); rintro e w' ⟨rfl, hb⟩) | (go_at_call 17; refine (hl1.at _ ?_).mono ?_; exact civS (by assumption); rintro e w' ⟨rfl, hb⟩) | (go_at_call 18; refine (hl2.at _ ?_).mono ?_; exact civS (by assumption); rintro e w' ⟨rfl, hb⟩) | (go_at_call 19; refine (hm1.at _ ?_).mono ?_; exact civS (by assumption); rintro e w' ⟨rfl, hb⟩) | (go_at_call 20; refine (hm2.at _ ?_).mono ?_; exact civS (by assumption); rintro e w' ⟨rfl, hb⟩))
        go_wp2_with fail
        go_meet
        exact ⟨rfl, by assumption⟩
      case rest =>
        obtain ⟨rfl, SC⟩ := hcut
        go_upto_region 14 with fail
        go_cut [27, 28] (fun s t wx => s = .int .i64 nv ∧ t = .int .i64 ne ∧ wx.cell? ⟨bz, 0, none⟩ = some (.int .i64 y) ∧ wx.cell? ⟨bz, 1, none⟩ = some (.int .i64 m) ∧ wx.cell? ⟨bz, 2, none⟩ = some (.int .i64 d) ∧ wx.cell? ⟨bp, 0, none⟩ = some (.int .i64 pa) ∧ wx.cell? ⟨bp, 1, none⟩ = some (.int .i64 pb) ∧ wx.cell? ⟨bp, 2, none⟩ = some (.int .i64 pc) ∧ wx.cell? ⟨bq, 0, none⟩ = some (.int .i64 pa) ∧ wx.cell? ⟨bq, 1, none⟩ = some (.int .i64 pb) ∧ wx.cell? ⟨bq, 2, none⟩ = some (.int .i64 pc) ∧ CivT wx ∧ Below w6.heap.size w6 wx)
        case first => as_aux_lemma =>
          go_region_held3 (fun w' => w'.cell? ⟨bz, 0, none⟩ = some (.int .i64 y) ∧ w'.cell? ⟨bz, 1, none⟩ = some (.int .i64 m) ∧ w'.cell? ⟨bz, 2, none⟩ = some (.int .i64 d) ∧ w'.cell? ⟨bp, 0, none⟩ = some (.int .i64 pa) ∧ w'.cell? ⟨bp, 1, none⟩ = some (.int .i64 pb) ∧ w'.cell? ⟨bp, 2, none⟩ = some (.int .i64 pc) ∧ w'.cell? ⟨bq, 0, none⟩ = some (.int .i64 pa) ∧ w'.cell? ⟨bq, 1, none⟩ = some (.int .i64 pb) ∧ w'.cell? ⟨bq, 2, none⟩ = some (.int .i64 pc) ∧ CivT w' ∧ Below w6.heap.size w6 w')
            (first | (exact keepS SC (Below.refl _ _).drew) | assumption | (exact keepS (by assumption) hb))
            (first | (go_at_call 8; refine (Mod_any _ _ _ ?_ ?_ ?_ ?_).mono ?_; (first | assumption | omega); (first | assumption | omega); omega; omega; rintro e w' ⟨rfl, rfl⟩) | (go_at_call 21; refine (hn1.at _ ?_).mono ?_; exact civS (by assumption); rintro e w' ⟨rfl, hb⟩))
          go_wp2_with fail
          go_meet
          exact ⟨rfl, rfl, by assumption⟩
        case rest =>
          obtain ⟨rfl, rfl, SD⟩ := hcut
          go_upto_region 15 with fail
          go_cut [29, 30] (fun s t wx => s = .int .i64 nv ∧ t = .int .i64 ne ∧ wx.cell? ⟨bz, 0, none⟩ = some (.int .i64 y) ∧ wx.cell? ⟨bz, 1, none⟩ = some (.int .i64 m) ∧ wx.cell? ⟨bz, 2, none⟩ = some (.int .i64 d) ∧ wx.cell? ⟨bp, 0, none⟩ = some (.int .i64 pa) ∧ wx.cell? ⟨bp, 1, none⟩ = some (.int .i64 pb) ∧ wx.cell? ⟨bp, 2, none⟩ = some (.int .i64 pc) ∧ wx.cell? ⟨bq, 0, none⟩ = some (.int .i64 pa) ∧ wx.cell? ⟨bq, 1, none⟩ = some (.int .i64 pb) ∧ wx.cell? ⟨bq, 2, none⟩ = some (.int .i64 pc) ∧ CivT wx ∧ Below w6.heap.size w6 wx)
          case first => as_aux_lemma =>
            go_region_held3 (fun w' => w'.cell? ⟨bz, 0, none⟩ = some (.int .i64 y) ∧ w'.cell? ⟨bz, 1, none⟩ = some (.int .i64 m) ∧ w'.cell? ⟨bz, 2, none⟩ = some (.int .i64 d) ∧ w'.cell? ⟨bp, 0, none⟩ = some (.int .i64 pa) ∧ w'.cell? ⟨bp, 1, none⟩ = some (.int .i64 pb) ∧ w'.cell? ⟨bp, 2, none⟩ = some (.int .i64 pc) ∧ w'.cell? ⟨bq, 0, none⟩ = some (.int .i64 pa) ∧ w'.cell? ⟨bq, 1, none⟩ = some (.int .i64 pb) ∧ w'.cell? ⟨bq, 2, none⟩ = some (.int .i64 pc) ∧ CivT w' ∧ Below w6.heap.size w6 w')
              (first | (exact keepS SD (Below.refl _ _).drew) | assumption | (exact keepS (by assumption) hb))
              (first | (go_at_call 8; refine (Mod_any _ _ _ ?_ ?_ ?_ ?_).mono ?_; (first | assumption | omega); (first | assumption | omega); omega; omega; rintro e w' ⟨rfl, rfl⟩) | (go_at_call 22; refine (hn2.at _ ?_).mono ?_; exact civS (by assumption); rintro e w' ⟨rfl, hb⟩))
            go_wp2_with fail
            go_meet
            exact ⟨rfl, rfl, by assumption⟩
          case rest =>
            obtain ⟨rfl, rfl, SE⟩ := hcut
            have BE := SE.2.2.2.2.2.2.2.2.2.2
            have TE := civS SE
            go_wp2_with fail
            go_roundw
            case rel => exact ⟨1, by omega, by go_num, TE, bstep B6 BE, X6.below BE⟩
            case measure => simp [intOf]
    · as_aux_lemma =>
      obtain ⟨dv, de, hd1, hd2⟩ := day_both xy xm xd ix.1 ix.2.1 ix.2.2
      obtain ⟨pa, pb, pc, pe, ha1, ha2⟩ := addm_both xy xm xd (n.tmod 4000) ix.1 ix.2.1 ix.2.2 it
      obtain ⟨wy, ww, we, hw1, hw2⟩ := week_both xy xm xd ix.1 ix.2.1 ix.2.2
      obtain ⟨vb, hv1, hv2⟩ := valid_both xy xm xd ix.1 ix.2.1 ix.2.2
      obtain ⟨lb, hl1, hl2⟩ := leap_both xy ix.1
      obtain ⟨db, hm1, hm2⟩ := dim_both xy xm ix.1 ix.2.1
      obtain ⟨nv, ne, hn1, hn2⟩ := nth_both xy xm (n % 7) (d % 9 - 1) ix.1 ix.2.1
      go_wp2_with fail
      refine (hd1.at _ (I1.alloc _)).mono ?_
      rintro e w1 ⟨rfl, b1⟩
      have hT1 := (I1.alloc _).below b1
      have Z1 := (DateAt.new wr xy xm xd 23).below b1
      obtain ⟨bz, hbz⟩ : ∃ bz, bz = wr.heap.size := ⟨_, rfl⟩
      have B1 := bstepA I2 b1
      have X1 := (I3.alloc (.cells #[.int .i64 xy, .int .i64 xm, .int .i64 xd] 23)).below b1
      rw [← hbz] at Z1 ⊢
      clear hbz
      have ⟨q0, q1, q2⟩ := Z1
      go_wp2_with fail
      refine (hd2.at _ hT1).mono ?_
      rintro e w2 ⟨rfl, b2⟩
      clear q0 q1 q2
      have hT2 := hT1.below b2
      have Z2 := Z1.below b2
      have B2 := bstep B1 b2
      have X2 := X1.below b2
      have ⟨q0, q1, q2⟩ := Z2
      go_wp2_with fail
      refine (ha1.at _ hT2).mono ?_
      rintro e w3 ⟨rfl, b3⟩
      clear q0 q1 q2
      have hT3 := (hT2.below b3).alloc (.cells #[.int .i64 pa, .int .i64 pb, .int .i64 pc] 23)
      have Z3 := (Z2.below b3).alloc (.cells #[.int .i64 pa, .int .i64 pb, .int .i64 pc] 23)
      have B3 := (bstep B2 b3).alloc (bstep B2 b3).size (.cells #[.int .i64 pa, .int .i64 pb, .int .i64 pc] 23)
      have X3 := (X2.below b3).alloc (.cells #[.int .i64 pa, .int .i64 pb, .int .i64 pc] 23)
      have P3 := DateAt.new w3 pa pb pc 23
      obtain ⟨bp, hbp⟩ : ∃ bp, bp = w3.heap.size := ⟨_, rfl⟩
      have l3 := (Z2.below b3).lt
      rw [← hbp] at P3
      have HBP := Lib.hid hbp
      clear hbp
      have ⟨q0, q1, q2⟩ := Z2.below b3
      go_wp2_with fail
      refine (ha2.at _ hT3).mono ?_
      rintro e w4 ⟨rfl, b4⟩
      clear q0 q1 q2
      rw [← HBP.out]
      have hT4 := (hT3.below b4).alloc (.cells #[.int .i64 pa, .int .i64 pb, .int .i64 pc] 23)
      have Z4 := (Z3.below b4).alloc (.cells #[.int .i64 pa, .int .i64 pb, .int .i64 pc] 23)
      have P4 := (P3.below b4).alloc (.cells #[.int .i64 pa, .int .i64 pb, .int .i64 pc] 23)
      have B4 := (bstep B3 b4).alloc (bstep B3 b4).size (.cells #[.int .i64 pa, .int .i64 pb, .int .i64 pc] 23)
      have X4 := (X3.below b4).alloc (.cells #[.int .i64 pa, .int .i64 pb, .int .i64 pc] 23)
      have Q4 := DateAt.new w4 pa pb pc 23
      obtain ⟨bq, hbq⟩ : ∃ bq, bq = w4.heap.size := ⟨_, rfl⟩
      have l4 := (Z3.below b4).lt
      rw [← hbq] at Q4
      have HBQ := Lib.hid hbq
      clear hbq
      have ⟨q0, q1, q2⟩ := Z3.below b4
      go_wp2_with fail
      refine (hw1.at _ hT4).mono ?_
      rintro e w5 ⟨rfl, b5⟩
      clear q0 q1 q2
      rw [← HBQ.out]
      have hT5 := hT4.below b5
      have Z5 := Z4.below b5
      have P5 := P4.below b5
      have Q5 := Q4.below b5
      have B5 := bstep B4 b5
      have X5 := X4.below b5
      have ⟨q0, q1, q2⟩ := Z5
      go_wp2_with fail
      refine (hw2.at _ hT5).mono ?_
      rintro e w6 ⟨rfl, b6⟩
      clear q0 q1 q2
      have hT6 := hT5.below b6
      have Z6 := Z5.below b6
      have P6 := P5.below b6
      have Q6 := Q5.below b6
      have B6 := bstep B5 b6
      have X6 := X5.below b6
      clear Z1 Z2 Z3 Z4 Z5 P3 P4 P5 Q4 Q5 X1 X2 X3 X4 X5 B1 B2 B3 B4 B5 hT1 hT2 hT3 hT4 hT5 b1 b2 b3 b4 b5 b6 l3 l4 HBP HBQ
      have S6 : w6.cell? ⟨bz, 0, none⟩ = some (.int .i64 xy) ∧ w6.cell? ⟨bz, 1, none⟩ = some (.int .i64 xm) ∧ w6.cell? ⟨bz, 2, none⟩ = some (.int .i64 xd) ∧ w6.cell? ⟨bp, 0, none⟩ = some (.int .i64 pa) ∧ w6.cell? ⟨bp, 1, none⟩ = some (.int .i64 pb) ∧ w6.cell? ⟨bp, 2, none⟩ = some (.int .i64 pc) ∧ w6.cell? ⟨bq, 0, none⟩ = some (.int .i64 pa) ∧ w6.cell? ⟨bq, 1, none⟩ = some (.int .i64 pb) ∧ w6.cell? ⟨bq, 2, none⟩ = some (.int .i64 pc) ∧ CivT w6 ∧ Below w6.heap.size w6 w6 := ⟨Z6.1, Z6.2.1, Z6.2.2, P6.1, P6.2.1, P6.2.2, Q6.1, Q6.2.1, Q6.2.2, hT6, Below.refl _ _⟩
      go_upto_region 12 with fail
      go_cut [156] (fun s wx => s = .bool false ∧ wx.cell? ⟨bz, 0, none⟩ = some (.int .i64 xy) ∧ wx.cell? ⟨bz, 1, none⟩ = some (.int .i64 xm) ∧ wx.cell? ⟨bz, 2, none⟩ = some (.int .i64 xd) ∧ wx.cell? ⟨bp, 0, none⟩ = some (.int .i64 pa) ∧ wx.cell? ⟨bp, 1, none⟩ = some (.int .i64 pb) ∧ wx.cell? ⟨bp, 2, none⟩ = some (.int .i64 pc) ∧ wx.cell? ⟨bq, 0, none⟩ = some (.int .i64 pa) ∧ wx.cell? ⟨bq, 1, none⟩ = some (.int .i64 pb) ∧ wx.cell? ⟨bq, 2, none⟩ = some (.int .i64 pc) ∧ CivT wx ∧ Below w6.heap.size w6 wx)
      case first => as_aux_lemma =>
        go_region_held3 (fun w' => w'.cell? ⟨bz, 0, none⟩ = some (.int .i64 xy) ∧ w'.cell? ⟨bz, 1, none⟩ = some (.int .i64 xm) ∧ w'.cell? ⟨bz, 2, none⟩ = some (.int .i64 xd) ∧ w'.cell? ⟨bp, 0, none⟩ = some (.int .i64 pa) ∧ w'.cell? ⟨bp, 1, none⟩ = some (.int .i64 pb) ∧ w'.cell? ⟨bp, 2, none⟩ = some (.int .i64 pc) ∧ w'.cell? ⟨bq, 0, none⟩ = some (.int .i64 pa) ∧ w'.cell? ⟨bq, 1, none⟩ = some (.int .i64 pb) ∧ w'.cell? ⟨bq, 2, none⟩ = some (.int .i64 pc) ∧ CivT w' ∧ Below w6.heap.size w6 w')
          (first | (exact keepS S6 (Below.refl _ _).drew) | (exact keepS (by assumption) hb))
          (first | (go_at_call 15; refine (hv1.at _ ?_).mono ?_; exact civS (by assumption); rintro e w' ⟨rfl, hb⟩) | (go_at_call 16; refine (hv2.at _ ?_).mono ?_; exact civS (by assumption); rintro e w' ⟨rfl, hb⟩) | (go_at_call 17; refine (hl1.at _ ?_).mono ?_; exact civS (by assumption); rintro e w' ⟨rfl, hb⟩) | (go_at_call 18; refine (hl2.at _ ?_).mono ?_; exact civS (by assumption); rintro e w' ⟨rfl, hb⟩) | (go_at_call 19; refine (hm1.at _ ?_).mono ?_; exact civS (by assumption); rintro e w' ⟨rfl, hb⟩) | (go_at_call 20; refine (hm2.at _ ?_).mono ?_; exact civS (by assumption); rintro e w' ⟨rfl, hb⟩))
        go_wp2_with fail
        go_meet
        exact ⟨rfl, by assumption⟩
      case rest =>
        obtain ⟨rfl, SC⟩ := hcut
        go_upto_region 14 with fail
        go_cut [27, 28] (fun s t wx => s = .int .i64 nv ∧ t = .int .i64 ne ∧ wx.cell? ⟨bz, 0, none⟩ = some (.int .i64 xy) ∧ wx.cell? ⟨bz, 1, none⟩ = some (.int .i64 xm) ∧ wx.cell? ⟨bz, 2, none⟩ = some (.int .i64 xd) ∧ wx.cell? ⟨bp, 0, none⟩ = some (.int .i64 pa) ∧ wx.cell? ⟨bp, 1, none⟩ = some (.int .i64 pb) ∧ wx.cell? ⟨bp, 2, none⟩ = some (.int .i64 pc) ∧ wx.cell? ⟨bq, 0, none⟩ = some (.int .i64 pa) ∧ wx.cell? ⟨bq, 1, none⟩ = some (.int .i64 pb) ∧ wx.cell? ⟨bq, 2, none⟩ = some (.int .i64 pc) ∧ CivT wx ∧ Below w6.heap.size w6 wx)
        case first => as_aux_lemma =>
          go_region_held3 (fun w' => w'.cell? ⟨bz, 0, none⟩ = some (.int .i64 xy) ∧ w'.cell? ⟨bz, 1, none⟩ = some (.int .i64 xm) ∧ w'.cell? ⟨bz, 2, none⟩ = some (.int .i64 xd) ∧ w'.cell? ⟨bp, 0, none⟩ = some (.int .i64 pa) ∧ w'.cell? ⟨bp, 1, none⟩ = some (.int .i64 pb) ∧ w'.cell? ⟨bp, 2, none⟩ = some (.int .i64 pc) ∧ w'.cell? ⟨bq, 0, none⟩ = some (.int .i64 pa) ∧ w'.cell? ⟨bq, 1, none⟩ = some (.int .i64 pb) ∧ w'.cell? ⟨bq, 2, none⟩ = some (.int .i64 pc) ∧ CivT w' ∧ Below w6.heap.size w6 w')
            (first | (exact keepS SC (Below.refl _ _).drew) | assumption | (exact keepS (by assumption) hb))
            (first | (go_at_call 8; refine (Mod_any _ _ _ ?_ ?_ ?_ ?_).mono ?_; (first | assumption | omega); (first | assumption | omega); omega; omega; rintro e w' ⟨rfl, rfl⟩) | (go_at_call 21; refine (hn1.at _ ?_).mono ?_; exact civS (by assumption); rintro e w' ⟨rfl, hb⟩))
          go_wp2_with fail
          go_meet
          exact ⟨rfl, rfl, by assumption⟩
        case rest =>
          obtain ⟨rfl, rfl, SD⟩ := hcut
          go_upto_region 15 with fail
          go_cut [29, 30] (fun s t wx => s = .int .i64 nv ∧ t = .int .i64 ne ∧ wx.cell? ⟨bz, 0, none⟩ = some (.int .i64 xy) ∧ wx.cell? ⟨bz, 1, none⟩ = some (.int .i64 xm) ∧ wx.cell? ⟨bz, 2, none⟩ = some (.int .i64 xd) ∧ wx.cell? ⟨bp, 0, none⟩ = some (.int .i64 pa) ∧ wx.cell? ⟨bp, 1, none⟩ = some (.int .i64 pb) ∧ wx.cell? ⟨bp, 2, none⟩ = some (.int .i64 pc) ∧ wx.cell? ⟨bq, 0, none⟩ = some (.int .i64 pa) ∧ wx.cell? ⟨bq, 1, none⟩ = some (.int .i64 pb) ∧ wx.cell? ⟨bq, 2, none⟩ = some (.int .i64 pc) ∧ CivT wx ∧ Below w6.heap.size w6 wx)
          case first => as_aux_lemma =>
            go_region_held3 (fun w' => w'.cell? ⟨bz, 0, none⟩ = some (.int .i64 xy) ∧ w'.cell? ⟨bz, 1, none⟩ = some (.int .i64 xm) ∧ w'.cell? ⟨bz, 2, none⟩ = some (.int .i64 xd) ∧ w'.cell? ⟨bp, 0, none⟩ = some (.int .i64 pa) ∧ w'.cell? ⟨bp, 1, none⟩ = some (.int .i64 pb) ∧ w'.cell? ⟨bp, 2, none⟩ = some (.int .i64 pc) ∧ w'.cell? ⟨bq, 0, none⟩ = some (.int .i64 pa) ∧ w'.cell? ⟨bq, 1, none⟩ = some (.int .i64 pb) ∧ w'.cell? ⟨bq, 2, none⟩ = some (.int .i64 pc) ∧ CivT w' ∧ Below w6.heap.size w6 w')
              (first | (exact keepS SD (Below.refl _ _).drew) | assumption | (exact keepS (by assumption) hb))
              (first | (go_at_call 8; refine (Mod_any _ _ _ ?_ ?_ ?_ ?_).mono ?_; (first | assumption | omega); (first | assumption | omega); omega; omega; rintro e w' ⟨rfl, rfl⟩) | (go_at_call 22; refine (hn2.at _ ?_).mono ?_; exact civS (by assumption); rintro e w' ⟨rfl, hb⟩))
            go_wp2_with fail
            go_meet
            exact ⟨rfl, rfl, by assumption⟩
          case rest =>
            obtain ⟨rfl, rfl, SE⟩ := hcut
            have BE := SE.2.2.2.2.2.2.2.2.2.2
            have TE := civS SE
            go_wp2_with fail
            go_roundw
            case rel => exact ⟨2, by omega, by go_num, TE, bstep B6 BE, X6.below BE⟩
            case measure => simp [intOf]
    · as_aux_lemma =>
      have it0 : I64 d := ⟨i5, i6⟩
      have it1 : I64 (n % 99500 - 200) := by unfold I64; omega
      have it2 : I64 (n % 3) := by unfold I64; omega
      go_wp2_with fail
      refine (Mod_any n 99500 _ i7 i8 (by omega) (by omega)).mono ?_
      rintro e w' ⟨rfl, rfl⟩
      go_wp2_with fail
      refine (Mod_any n 3 _ i7 i8 (by omega) (by omega)).mono ?_
      rintro e w' ⟨rfl, rfl⟩
      go_wp2_with fail
      have l0 : ∀ w, (Instr.index 36 (.agg #[.int .i64 d, .int .i64 (n % 99500 - 200), .int .i64 (n % 3)]) (.int .i64 0)).run Tryd.prog w = .ok (.int .i64 d) w := fun _ => by kernel_rfl
      have l1 : ∀ w, (Instr.index 36 (.agg #[.int .i64 d, .int .i64 (n % 99500 - 200), .int .i64 (n % 3)]) (.int .i64 1)).run Tryd.prog w = .ok (.int .i64 (n % 99500 - 200)) w := fun _ => by kernel_rfl
      have l2' : ∀ w, (Instr.index 36 (.agg #[.int .i64 d, .int .i64 (n % 99500 - 200), .int .i64 (n % 3)]) (.int .i64 2)).run Tryd.prog w = .ok (.int .i64 (n % 3)) w := fun _ => by kernel_rfl
      go_loopw [199] (fun i wr => ∃ k : Nat, k ≤ 3 ∧ i = .int .i64 k ∧ CivT wr ∧ Below w.heap.size w wr ∧ DateAt wr (w.heap.size + 1) xy xm xd) (fun i _ => (3 - intOf i).toNat)
      case atStart => exact ⟨0, by omega, rfl, I1, I2, I3⟩
      case round =>
      obtain ⟨k, hk', rfl, J1, J2, J3⟩ := hrel
      have hk4 : k = 0 ∨ k = 1 ∨ k = 2 ∨ k = 3 := by omega
      rcases hk4 with rfl | rfl | rfl | rfl
      · as_aux_lemma =>
        obtain ⟨pa, pb, pc, pe, hd1, hd2⟩ := date_both (d) it0
        go_wp2_with fail
        refine (hd1.at _ J1).mono ?_
        rintro e w1 ⟨rfl, b1⟩
        have hT1 := (J1.below b1).alloc (.cells #[.int .i64 pa, .int .i64 pb, .int .i64 pc] 23)
        have P1 := DateAt.new w1 pa pb pc 23
        have B1 := (bstep J2 b1).alloc (bstep J2 b1).size (.cells #[.int .i64 pa, .int .i64 pb, .int .i64 pc] 23)
        have X1 := (J3.below b1).alloc (.cells #[.int .i64 pa, .int .i64 pb, .int .i64 pc] 23)
        go_wp2_with fail
        refine (hd2.at _ hT1).mono ?_
        rintro e w2 ⟨rfl, b2⟩
        have hT2 := (hT1.below b2).alloc (.cells #[.int .i64 pa, .int .i64 pb, .int .i64 pc] 23)
        have P2 := P1.below b2
        have B2 := (bstep B1 b2).alloc (bstep B1 b2).size (.cells #[.int .i64 pa, .int .i64 pb, .int .i64 pc] 23)
        have X2 := (X1.below b2).alloc (.cells #[.int .i64 pa, .int .i64 pb, .int .i64 pc] 23)
        have l2 := P2.lt
        have ⟨q0, q1, q2⟩ := P2
        clear P1 P2 X1 hT1 b1 b2
        go_wp2_with fail
        refine (wday_any _ _ (by omega) (by omega)).mono ?_
        rintro e w' ⟨rfl, rfl⟩
        go_wp2_with fail
        refine (rwday_any _ _ (by omega) (by omega)).mono ?_
        rintro e w' ⟨rfl, rfl⟩
        go_wp2_with fail
        go_roundw
        case rel => exact ⟨1, by omega, by go_num, hT2, B2, X2⟩
        case measure => simp [intOf]
      · as_aux_lemma =>
        obtain ⟨pa, pb, pc, pe, hd1, hd2⟩ := date_both (n % 99500 - 200) it1
        go_wp2_with fail
        refine (hd1.at _ J1).mono ?_
        rintro e w1 ⟨rfl, b1⟩
        have hT1 := (J1.below b1).alloc (.cells #[.int .i64 pa, .int .i64 pb, .int .i64 pc] 23)
        have P1 := DateAt.new w1 pa pb pc 23
        have B1 := (bstep J2 b1).alloc (bstep J2 b1).size (.cells #[.int .i64 pa, .int .i64 pb, .int .i64 pc] 23)
        have X1 := (J3.below b1).alloc (.cells #[.int .i64 pa, .int .i64 pb, .int .i64 pc] 23)
        go_wp2_with fail
        refine (hd2.at _ hT1).mono ?_
        rintro e w2 ⟨rfl, b2⟩
        have hT2 := (hT1.below b2).alloc (.cells #[.int .i64 pa, .int .i64 pb, .int .i64 pc] 23)
        have P2 := P1.below b2
        have B2 := (bstep B1 b2).alloc (bstep B1 b2).size (.cells #[.int .i64 pa, .int .i64 pb, .int .i64 pc] 23)
        have X2 := (X1.below b2).alloc (.cells #[.int .i64 pa, .int .i64 pb, .int .i64 pc] 23)
        have l2 := P2.lt
        have ⟨q0, q1, q2⟩ := P2
        clear P1 P2 X1 hT1 b1 b2
        go_wp2_with fail
        refine (wday_any _ _ (by omega) (by omega)).mono ?_
        rintro e w' ⟨rfl, rfl⟩
        go_wp2_with fail
        refine (rwday_any _ _ (by omega) (by omega)).mono ?_
        rintro e w' ⟨rfl, rfl⟩
        go_wp2_with fail
        go_roundw
        case rel => exact ⟨2, by omega, by go_num, hT2, B2, X2⟩
        case measure => simp [intOf]
      · as_aux_lemma =>
        obtain ⟨pa, pb, pc, pe, hd1, hd2⟩ := date_both (n % 3) it2
        go_wp2_with fail
        refine (hd1.at _ J1).mono ?_
        rintro e w1 ⟨rfl, b1⟩
        have hT1 := (J1.below b1).alloc (.cells #[.int .i64 pa, .int .i64 pb, .int .i64 pc] 23)
        have P1 := DateAt.new w1 pa pb pc 23
        have B1 := (bstep J2 b1).alloc (bstep J2 b1).size (.cells #[.int .i64 pa, .int .i64 pb, .int .i64 pc] 23)
        have X1 := (J3.below b1).alloc (.cells #[.int .i64 pa, .int .i64 pb, .int .i64 pc] 23)
        go_wp2_with fail
        refine (hd2.at _ hT1).mono ?_
        rintro e w2 ⟨rfl, b2⟩
        have hT2 := (hT1.below b2).alloc (.cells #[.int .i64 pa, .int .i64 pb, .int .i64 pc] 23)
        have P2 := P1.below b2
        have B2 := (bstep B1 b2).alloc (bstep B1 b2).size (.cells #[.int .i64 pa, .int .i64 pb, .int .i64 pc] 23)
        have X2 := (X1.below b2).alloc (.cells #[.int .i64 pa, .int .i64 pb, .int .i64 pc] 23)
        have l2 := P2.lt
        have ⟨q0, q1, q2⟩ := P2
        clear P1 P2 X1 hT1 b1 b2
        go_wp2_with fail
        refine (wday_any _ _ (by omega) (by omega)).mono ?_
        rintro e w' ⟨rfl, rfl⟩
        go_wp2_with fail
        refine (rwday_any _ _ (by omega) (by omega)).mono ?_
        rintro e w' ⟨rfl, rfl⟩
        go_wp2_with fail
        go_roundw
        case rel => exact ⟨3, by omega, by go_num, hT2, B2, X2⟩
        case measure => simp [intOf]
      · as_aux_lemma =>
        obtain ⟨pa, pb, pc, pe, ha1, ha2⟩ := addm_both xy xm xd n ix.1 ix.2.1 ix.2.2 ⟨i7, i8⟩
        have lx := J3.lt
        have ⟨q0, q1, q2⟩ := J3
        go_wp2_with fail
        refine (ha1.at _ J1).mono ?_
        rintro e w1 ⟨rfl, b1⟩
        clear q0 q1 q2
        have hT1 := (J1.below b1).alloc (.cells #[.int .i64 pa, .int .i64 pb, .int .i64 pc] 23)
        have P1 := DateAt.new w1 pa pb pc 23
        have B1 := (bstep J2 b1).alloc (bstep J2 b1).size (.cells #[.int .i64 pa, .int .i64 pb, .int .i64 pc] 23)
        have X1 := J3.below b1
        have lx1 := X1.lt
        have ⟨q0, q1, q2⟩ := X1
        go_wp2_with fail
        refine (ha2.at _ hT1).mono ?_
        rintro e w2 ⟨rfl, b2⟩
        clear q0 q1 q2
        have hT2 := (hT1.below b2).alloc (.cells #[.int .i64 pa, .int .i64 pb, .int .i64 pc] 23)
        have P2 := P1.below b2
        have B2 := (bstep B1 b2).alloc (bstep B1 b2).size (.cells #[.int .i64 pa, .int .i64 pb, .int .i64 pc] 23)
        have l2 := P2.lt
        have ⟨q0, q1, q2⟩ := P2
        go_wp2_with fail
        refine (sane_any _ hT2).mono ?_
        rintro e w3 ⟨rfl, b3⟩
        go_wp2_with fail
        go_ret
        exact ⟨rfl, bstep B2 b3⟩
end Go.Proofs.YtnbfbkomgdnlnaaDoor
