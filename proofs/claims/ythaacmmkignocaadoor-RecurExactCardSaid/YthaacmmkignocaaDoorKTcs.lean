/- pagewatchlaw10.sane. Printed by gen_tcs.py. -/
import Derived.Test.YthaacmmkignocaaDoorKG32
import Derived.Test.YthaacmmkignocaaDoorKG34
import Derived.Test.YthaacmmkignocaaDoorKDz
namespace Go.Proofs.YthaacmmkignocaaDoor
open Go.RowKit
set_option linter.unusedVariables false
set_option linter.unusedSimpArgs false
set_option maxRecDepth 100000
set_option maxHeartbeats 8000000 in
theorem sane10_any (w : World) (hT : CivT w) : Calls Tryd.prog 9 #[] w fun e w' => e = .returned (.bool true) ∧ Below w.heap.size w w' := by
  have ZB := Lib.hid (show BlkAt ((((w.alloc (.cells #[.int .i64 2020, .int .i64 2030, .int .i64 3, .int .i64 5, .int .i64 6, .int .i64 7200, .int .i64 7200, .int .i64 2020, .int .i64 2030, .int .i64 10, .int .i64 5, .int .i64 6, .int .i64 10800, .int .i64 3600] 67)).alloc (.cells #[.string ⟨#[]⟩, .int .i64 3600, .slice (some ⟨w.heap.size, 0, none⟩) 2 2] 42)).alloc (.cells #[.int .i64 7, .int .i64 8] 3)).alloc (.cells #[.string ⟨#[]⟩, .int .i64 0, .int .i64 20540, .int .i64 9000, .int .i64 1, .int .i64 1, .slice (some ⟨w.heap.size + 1 + 1, 0, none⟩) 2 2, .slice none 0 0, .int .i64 0, .int .i64 0] 38)) (w.heap.size + 1) #[.string ⟨#[]⟩, .int .i64 3600, .slice (some ⟨w.heap.size, 0, none⟩) 2 2] 42 from BlkAt.alloc (BlkAt.alloc (blk_new (by simp)) _) _)
  have LB := Lib.hid (show BlkAt ((((w.alloc (.cells #[.int .i64 2020, .int .i64 2030, .int .i64 3, .int .i64 5, .int .i64 6, .int .i64 7200, .int .i64 7200, .int .i64 2020, .int .i64 2030, .int .i64 10, .int .i64 5, .int .i64 6, .int .i64 10800, .int .i64 3600] 67)).alloc (.cells #[.string ⟨#[]⟩, .int .i64 3600, .slice (some ⟨w.heap.size, 0, none⟩) 2 2] 42)).alloc (.cells #[.int .i64 7, .int .i64 8] 3)).alloc (.cells #[.string ⟨#[]⟩, .int .i64 0, .int .i64 20540, .int .i64 9000, .int .i64 1, .int .i64 1, .slice (some ⟨w.heap.size + 1 + 1, 0, none⟩) 2 2, .slice none 0 0, .int .i64 0, .int .i64 0] 38)) (w.heap.size + 1 + 1 + 1) #[.string ⟨#[]⟩, .int .i64 0, .int .i64 20540, .int .i64 9000, .int .i64 1, .int .i64 1, .slice (some ⟨w.heap.size + 1 + 1, 0, none⟩) 2 2, .slice none 0 0, .int .i64 0, .int .i64 0] 38 from blk_new (by simp))
  have RB := Lib.hid (show RulesAt ((((w.alloc (.cells #[.int .i64 2020, .int .i64 2030, .int .i64 3, .int .i64 5, .int .i64 6, .int .i64 7200, .int .i64 7200, .int .i64 2020, .int .i64 2030, .int .i64 10, .int .i64 5, .int .i64 6, .int .i64 10800, .int .i64 3600] 67)).alloc (.cells #[.string ⟨#[]⟩, .int .i64 3600, .slice (some ⟨w.heap.size, 0, none⟩) 2 2] 42)).alloc (.cells #[.int .i64 7, .int .i64 8] 3)).alloc (.cells #[.string ⟨#[]⟩, .int .i64 0, .int .i64 20540, .int .i64 9000, .int .i64 1, .int .i64 1, .slice (some ⟨w.heap.size + 1 + 1, 0, none⟩) 2 2, .slice none 0 0, .int .i64 0, .int .i64 0] 38)) (some ⟨w.heap.size, 0, none⟩) exRules from rules_two (BlkAt.alloc (BlkAt.alloc (BlkAt.alloc (blk_new rfl) _) _) _))
  have HB := Lib.hid (show Below w.heap.size w ((((w.alloc (.cells #[.int .i64 2020, .int .i64 2030, .int .i64 3, .int .i64 5, .int .i64 6, .int .i64 7200, .int .i64 7200, .int .i64 2020, .int .i64 2030, .int .i64 10, .int .i64 5, .int .i64 6, .int .i64 10800, .int .i64 3600] 67)).alloc (.cells #[.string ⟨#[]⟩, .int .i64 3600, .slice (some ⟨w.heap.size, 0, none⟩) 2 2] 42)).alloc (.cells #[.int .i64 7, .int .i64 8] 3)).alloc (.cells #[.string ⟨#[]⟩, .int .i64 0, .int .i64 20540, .int .i64 9000, .int .i64 1, .int .i64 1, .slice (some ⟨w.heap.size + 1 + 1, 0, none⟩) 2 2, .slice none 0 0, .int .i64 0, .int .i64 0] 38)) from ((((Below.refl _ w).alloc (Nat.le_refl _) _).alloc (by simp) _).alloc (by simp; omega) _).alloc (by simp; omega) _)
  have ZI := Lib.hid (zin_of (hT.below HB.out) RB.out rfl ex_ok (by decide))
  clear RB hT
  go_enter Tryd.func9, Tryd.ntmps9
  go_upto_region 3 with fail
  generalize ((((w.alloc (.cells #[.int .i64 2020, .int .i64 2030, .int .i64 3, .int .i64 5, .int .i64 6, .int .i64 7200, .int .i64 7200, .int .i64 2020, .int .i64 2030, .int .i64 10, .int .i64 5, .int .i64 6, .int .i64 10800, .int .i64 3600] 67)).alloc (.cells #[.string ⟨#[]⟩, .int .i64 3600, .slice (some ⟨w.heap.size, 0, none⟩) 2 2] 42)).alloc (.cells #[.int .i64 7, .int .i64 8] 3)).alloc (.cells #[.string ⟨#[]⟩, .int .i64 0, .int .i64 20540, .int .i64 9000, .int .i64 1, .int .i64 1, .slice (some ⟨w.heap.size + 1 + 1, 0, none⟩) 2 2, .slice none 0 0, .int .i64 0, .int .i64 0] 38)) = W4 at ZB LB HB ZI ⊢
  obtain ⟨A0, hA0⟩ : ∃ A0, (some ⟨w.heap.size, 0, none⟩ : Option Addr) = A0 := ⟨_, rfl⟩
  obtain ⟨M0, hM0⟩ : ∃ A0, (some ⟨w.heap.size + 1 + 1, 0, none⟩ : Option Addr) = A0 := ⟨_, rfl⟩
  rw [hA0] at ZB ZI
  rw [hM0] at LB
  change Hid (ZIn W4 A0 2 exRules) at ZI
  clear hA0 hM0
  have i1 : I64 3600 := ⟨by omega, by omega⟩
  have CH := Lib.hid (show ∀ W, Below W4.heap.size W4 W → _ from fun W hb => pHdv_is ex_trans 1 1 20540 9000 ⟨#[]⟩ A0 2 2 ⟨#[]⟩ 0 M0 2 2 none 0 0 0 0 1774600000 1774900000 W (ZI.out.below hb) i1 ⟨by omega, by omega⟩ ⟨by omega, by omega⟩)
  have CS := Lib.hid (show ∀ W, Below W4.heap.size W4 W → _ from fun W hb => pShi_is ex_trans 1 1 20540 9000 ⟨#[]⟩ A0 2 2 ⟨#[]⟩ 0 M0 2 2 none 0 0 0 0 1774746000 W (ZI.out.below hb) i1 ⟨by omega, by omega⟩)
  have CT := Lib.hid (show ∀ W, Below W4.heap.size W4 W → _ from fun W hb => pTurn_is ex_trans 1 1 20540 9000 ⟨#[]⟩ A0 2 2 ⟨#[]⟩ 0 M0 2 2 none 0 0 0 0 1774746000 W (ZI.out.below hb) i1 ⟨by omega, by omega⟩ (by decide))
  have CN := Lib.hid (show ∀ W, Below W4.heap.size W4 W → _ from fun W hb => pHan_is ex_trans 1 1 20540 9000 ⟨#[]⟩ A0 2 2 ⟨#[]⟩ 0 M0 2 2 none 0 0 0 0 (-1) W (ZI.out.below hb) i1 ⟨by omega, by omega⟩)
  have z0 := ZB.out.cell (i := 0) rfl; have z1 := ZB.out.cell (i := 1) rfl; have z2 := ZB.out.cell (i := 2) rfl; have l0 := LB.out.cell (i := 0) rfl; have l1 := LB.out.cell (i := 1) rfl; have l2 := LB.out.cell (i := 2) rfl; have l3 := LB.out.cell (i := 3) rfl; have l4 := LB.out.cell (i := 4) rfl; have l5 := LB.out.cell (i := 5) rfl; have l6 := LB.out.cell (i := 6) rfl; have l7 := LB.out.cell (i := 7) rfl; have l8 := LB.out.cell (i := 8) rfl; have l9 := LB.out.cell (i := 9) rfl
  go_upto_region 4 with (go_at_call 27; refine (CH.out _ (Below.refl _ _)).mono ?_; rintro e w5 ⟨L, er, B, cc, rfl, hr, hi, hl, hb5⟩)
  obtain ⟨rfl, rfl⟩ := ex10_range hr
  have ZB5 := Lib.hid (ZB.out.after hb5); have LB5 := Lib.hid (LB.out.after hb5)
  have HI5 := Lib.hid hi; have HX5 := Lib.hid hb5
  clear hr hi hl hb5 CH
  clear z0 z1 z2 l0 l1 l2 l3 l4 l5 l6 l7 l8 l9
  have z0 := ZB5.out.cell (i := 0) rfl; have z1 := ZB5.out.cell (i := 1) rfl; have z2 := ZB5.out.cell (i := 2) rfl; have l0 := LB5.out.cell (i := 0) rfl; have l1 := LB5.out.cell (i := 1) rfl; have l2 := LB5.out.cell (i := 2) rfl; have l3 := LB5.out.cell (i := 3) rfl; have l4 := LB5.out.cell (i := 4) rfl; have l5 := LB5.out.cell (i := 5) rfl; have l6 := LB5.out.cell (i := 6) rfl; have l7 := LB5.out.cell (i := 7) rfl; have l8 := LB5.out.cell (i := 8) rfl; have l9 := LB5.out.cell (i := 9) rfl
  go_upto_region 5 with (go_at_call 23; refine (CS.out _ HX5.out).mono ?_; rintro e w6 ⟨k, er, rfl, hs, hb6⟩)
  obtain ⟨rfl, rfl⟩ := ex10_shift hs
  have ZB6 := Lib.hid (ZB5.out.after hb6); have LB6 := Lib.hid (LB5.out.after hb6)
  have HI6 := Lib.hid (HI5.out.below hb6); have HX6 := Lib.hid (bstep HX5.out hb6)
  clear hs hb6 CS
  clear z0 z1 z2 l0 l1 l2 l3 l4 l5 l6 l7 l8 l9
  have z0 := ZB6.out.cell (i := 0) rfl; have z1 := ZB6.out.cell (i := 1) rfl; have z2 := ZB6.out.cell (i := 2) rfl; have l0 := LB6.out.cell (i := 0) rfl; have l1 := LB6.out.cell (i := 1) rfl; have l2 := LB6.out.cell (i := 2) rfl; have l3 := LB6.out.cell (i := 3) rfl; have l4 := LB6.out.cell (i := 4) rfl; have l5 := LB6.out.cell (i := 5) rfl; have l6 := LB6.out.cell (i := 6) rfl; have l7 := LB6.out.cell (i := 7) rfl; have l8 := LB6.out.cell (i := 8) rfl; have l9 := LB6.out.cell (i := 9) rfl
  go_upto_region 6 with (go_at_call 25; refine (CT.out _ HX6.out).mono ?_; rintro e w7 ⟨k, er, rfl, hs, hb7⟩)
  obtain ⟨rfl, rfl⟩ := ex10_shift hs
  have ZB7 := Lib.hid (ZB6.out.after hb7); have LB7 := Lib.hid (LB6.out.after hb7)
  have HI7 := Lib.hid (HI6.out.below hb7); have HX7 := Lib.hid (bstep HX6.out hb7)
  clear hs hb7 CT
  rw [show Rc.turnV 1 0 2 = 1 from rfl]
  clear z0 z1 z2 l0 l1 l2 l3 l4 l5 l6 l7 l8 l9
  have z0 := ZB7.out.cell (i := 0) rfl; have z1 := ZB7.out.cell (i := 1) rfl; have z2 := ZB7.out.cell (i := 2) rfl; have l0 := LB7.out.cell (i := 0) rfl; have l1 := LB7.out.cell (i := 1) rfl; have l2 := LB7.out.cell (i := 2) rfl; have l3 := LB7.out.cell (i := 3) rfl; have l4 := LB7.out.cell (i := 4) rfl; have l5 := LB7.out.cell (i := 5) rfl; have l6 := LB7.out.cell (i := 6) rfl; have l7 := LB7.out.cell (i := 7) rfl; have l8 := LB7.out.cell (i := 8) rfl; have l9 := LB7.out.cell (i := 9) rfl
  go_upto_region 7 with (go_at_call 14; refine (CN.out _ HX7.out).mono ?_; rintro e w8 ⟨rfl, hb8⟩)
  have HI8 := Lib.hid (HI7.out.below hb8); have HX8 := Lib.hid (HB.out.trans ((bstep HX7.out hb8).mono HB.out.size))
  clear hb8 CN
  rw [show Rc.hOut (Rc.okL 1 1 20540 9000 2) (-1) (Rc.hV 3600 exTs 1 1 20540 9000 (-1)) = (0, 1) from ex10_neg]
  clear z0 z1 z2 l0 l1 l2 l3 l4 l5 l6 l7 l8 l9
  obtain ⟨b, of, rfl, hbl, hc⟩ := HI8.out (by decide)
  have c0 : w8.cell? ⟨b, of, none⟩ = some (.int .i64 1774661400) := hc 0 _ rfl 0 (by decide); have c1 : w8.cell? ⟨b, of + 1, none⟩ = some (.int .i64 1774746000) := hc 1 _ rfl 0 (by decide); have c2 : w8.cell? ⟨b, of + 2, none⟩ = some (.int .i64 1774830600) := hc 2 _ rfl 0 (by decide)
  clear hc
  go_wp2_with fail
  go_ret
  exact ⟨rfl, HX8.out⟩
end Go.Proofs.YthaacmmkignocaaDoor
