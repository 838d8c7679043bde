/- The law RatioOrder returns true for every five numbers. -/
import Derived.Test.YtcannkndedlooaaDoorRatL
import Derived.Test.YtcannkndedlooaaDoorRatO
namespace Go.Proofs.YtcannkndedlooaaDoor
open Go.RowKit
set_option linter.unusedVariables false
set_option linter.unusedSimpArgs false

theorem cell_keep {w w' : World} {b i : Nat} {v : Value} (h : w.cell? ⟨b, i, none⟩ = some v) (hb : Below w.heap.size w w') : w'.cell? ⟨b, i, none⟩ = some v := (hb.cell (p := ⟨b, i, none⟩) (World.block_lt_of_cell? w _ h)).trans h
theorem keep6 {b1 b2 b3 : Nat} {a1 a2 c1 c2 e1 e2 : Value} {W wc w' : World} (h : wc.cell? ⟨b1, 0, none⟩ = some a1 ∧ wc.cell? ⟨b1, 1, none⟩ = some a2 ∧ wc.cell? ⟨b2, 0, none⟩ = some c1 ∧ wc.cell? ⟨b2, 1, none⟩ = some c2 ∧ wc.cell? ⟨b3, 0, none⟩ = some e1 ∧ wc.cell? ⟨b3, 1, none⟩ = some e2 ∧ Below W.heap.size W wc) (hb : Below wc.heap.size wc w') :
    w'.cell? ⟨b1, 0, none⟩ = some a1 ∧ w'.cell? ⟨b1, 1, none⟩ = some a2 ∧ w'.cell? ⟨b2, 0, none⟩ = some c1 ∧ w'.cell? ⟨b2, 1, none⟩ = some c2 ∧ w'.cell? ⟨b3, 0, none⟩ = some e1 ∧ w'.cell? ⟨b3, 1, none⟩ = some e2 ∧ Below W.heap.size W w' :=
  ⟨cell_keep h.1 hb, cell_keep h.2.1 hb, cell_keep h.2.2.1 hb, cell_keep h.2.2.2.1 hb, cell_keep h.2.2.2.2.1 hb, cell_keep h.2.2.2.2.2.1 hb, bstep h.2.2.2.2.2.2 hb⟩

set_option maxRecDepth 100000 in
set_option maxHeartbeats 3200000 in
theorem order_any (a b c d n : Int) (w : World) (hT : RatT w) (i1 : -9223372036854775808 ≤ a) (i2 : a ≤ 9223372036854775807) (i3 : -9223372036854775808 ≤ b) (i4 : b ≤ 9223372036854775807) (i5 : -9223372036854775808 ≤ c) (i6 : c ≤ 9223372036854775807) (i7 : -9223372036854775808 ≤ d) (i8 : d ≤ 9223372036854775807) (i9 : -9223372036854775808 ≤ n) (i10 : n ≤ 9223372036854775807) :
    Calls Tryd.prog 7 #[.int .i64 a, .int .i64 b, .int .i64 c, .int .i64 d, .int .i64 n] w fun e w' => e = .returned (.bool true) ∧ Below w.heap.size w w' := by
  have T0 := hT
  have L0 := Below.refl w.heap.size w
  go_enter Tryd.func7, Tryd.ntmps7
  go_wp2_with fail
  refine (draw_any a b _ i1 i2 i3 i4).mono ?_
  rintro e w1 ⟨xn, xd, hx, rfl, b1⟩
  have T1 := T0.below b1
  have L1 := bstep L0 b1
  go_wp2_with fail
  refine (draw_any c d _ i5 i6 i7 i8).mono ?_
  rintro e w2 ⟨yn, yd, hy, rfl, b2⟩
  have T2 := T1.below b2
  have L2 := bstep L1 b2
  go_wp2_with fail
  refine (draw_any n a _ i9 i10 i1 i2).mono ?_
  rintro e w3 ⟨zn, zd, hz, rfl, b3⟩
  have T3 := T2.below b3
  have L3 := bstep L2 b3
  have HX := Lib.hid hx
  have IX := Lib.hid (vld_i64 hx)
  have HY := Lib.hid hy
  have IY := Lib.hid (vld_i64 hy)
  have HZ := Lib.hid hz
  have IZ := Lib.hid (vld_i64 hz)
  clear hx hy hz
  rcases Rt.order_ways HX.out HY.out with ⟨h1, h2, hne⟩ | ⟨h1, h2, hne⟩ | ⟨h1, h2, rfl, rfl⟩
  · have LXY := Lib.hid h1
    have LYX := Lib.hid h2
    have HNE := Lib.hid hne
    cases h3 : Rt.lessB yn yd zn zd with
    | true =>
      have LYZ := Lib.hid h3
      have LXZ := Lib.hid (Rt.less_tr HX.out HY.out HZ.out h1 h3)
      clear h1 h2 h3 hne
      rcases Rt.sub_ways HX.out HY.out with ⟨p, q, hs, hp⟩ | hs
      · rw [LXY.out] at hp
        have hp' : 0 < p := by simpa using hp
        have hp3 : decide (0 < p) = true := hp
        have LSU := Lib.hid hs
        clear hp hs
        as_aux_lemma =>
          have Xa1 := RatAt.new w3 xn xd 23
          have Ta1 := T3.alloc (.cells #[.int .i64 xn, .int .i64 xd] 23)
          have La1 := L3.alloc L3.size (.cells #[.int .i64 xn, .int .i64 xd] 23)
          have Xa2 := Xa1.alloc (.cells #[.int .i64 yn, .int .i64 yd] 23)
          have Ya2 := RatAt.new1 w3 (.cells #[.int .i64 xn, .int .i64 xd] 23) yn yd 23
          have Ta2 := Ta1.alloc (.cells #[.int .i64 yn, .int .i64 yd] 23)
          have La2 := La1.alloc La1.size (.cells #[.int .i64 yn, .int .i64 yd] 23)
          have Xa3 := Xa2.alloc (.cells #[.int .i64 zn, .int .i64 zd] 23)
          have Ya3 := Ya2.alloc (.cells #[.int .i64 zn, .int .i64 zd] 23)
          have Za3 := RatAt.new2 w3 (.cells #[.int .i64 xn, .int .i64 xd] 23) (.cells #[.int .i64 yn, .int .i64 yd] 23) zn zd 23
          have Ta3 := Ta2.alloc (.cells #[.int .i64 zn, .int .i64 zd] 23)
          have La3 := La2.alloc La2.size (.cells #[.int .i64 zn, .int .i64 zd] 23)
          have S0 : (fun w' => w'.cell? ⟨w3.heap.size, 0, none⟩ = some (.int .i64 xn) ∧ w'.cell? ⟨w3.heap.size, 1, none⟩ = some (.int .i64 xd) ∧ w'.cell? ⟨w3.heap.size + 1, 0, none⟩ = some (.int .i64 yn) ∧ w'.cell? ⟨w3.heap.size + 1, 1, none⟩ = some (.int .i64 yd) ∧ w'.cell? ⟨w3.heap.size + 2, 0, none⟩ = some (.int .i64 zn) ∧ w'.cell? ⟨w3.heap.size + 2, 1, none⟩ = some (.int .i64 zd) ∧ Below w.heap.size w w') (((w3.alloc (.cells #[.int .i64 xn, .int .i64 xd] 23)).alloc (.cells #[.int .i64 yn, .int .i64 yd] 23)).alloc (.cells #[.int .i64 zn, .int .i64 zd] 23)) := ⟨Xa3.1, Xa3.2.1, Ya3.1, Ya3.2.1, Za3.1, Za3.2.1, La3⟩
          go_wp2_with fail
          go_region_held3 (fun w' => w'.cell? ⟨w3.heap.size, 0, none⟩ = some (.int .i64 xn) ∧ w'.cell? ⟨w3.heap.size, 1, none⟩ = some (.int .i64 xd) ∧ w'.cell? ⟨w3.heap.size + 1, 0, none⟩ = some (.int .i64 yn) ∧ w'.cell? ⟨w3.heap.size + 1, 1, none⟩ = some (.int .i64 yd) ∧ w'.cell? ⟨w3.heap.size + 2, 0, none⟩ = some (.int .i64 zn) ∧ w'.cell? ⟨w3.heap.size + 2, 1, none⟩ = some (.int .i64 zd) ∧ Below w.heap.size w w')
            (first | (exact keep6 S0 (Below.refl _ _).drew) | (exact keep6 (by assumption) hb))
            (first | (go_at_call 17; (with_reducible refine (less_is LXY.out _ IX.out IY.out).mono ?_); rintro e w' ⟨rfl, hb⟩) | (go_at_call 17; (with_reducible refine (less_is LYX.out _ IY.out IX.out).mono ?_); rintro e w' ⟨rfl, hb⟩))
          rename_i SQ
          obtain ⟨x0, x1, y0, y1, z0, z1, LQ⟩ := SQ
          have zx := World.block_lt_of_cell? _ _ x0
          have zy := World.block_lt_of_cell? _ _ y0
          have zz := World.block_lt_of_cell? _ _ z0
          clear hb S0
          rcases HNE.out with e1 | ⟨rfl, e2⟩
          all_goals
            go_wp2_with fail
            with_reducible refine (less_is LYZ.out _ IY.out IZ.out).mono ?_
            rintro e wa ⟨rfl, ba⟩
            have SK := keep6 ⟨x0, x1, y0, y1, z0, z1, LQ⟩ ba
            clear x0 x1 y0 y1 z0 z1 zx zy zz
            obtain ⟨x0, x1, y0, y1, z0, z1, LQ⟩ := SK
            have zx := World.block_lt_of_cell? _ _ x0
            have zy := World.block_lt_of_cell? _ _ y0
            have zz := World.block_lt_of_cell? _ _ z0
            go_wp2_with fail
            with_reducible refine (less_is LXZ.out _ IX.out IZ.out).mono ?_
            rintro e wb ⟨rfl, bb⟩
            have SK := keep6 ⟨x0, x1, y0, y1, z0, z1, LQ⟩ bb
            clear x0 x1 y0 y1 z0 z1 zx zy zz
            obtain ⟨x0, x1, y0, y1, z0, z1, LQ⟩ := SK
            have zx := World.block_lt_of_cell? _ _ x0
            have zy := World.block_lt_of_cell? _ _ y0
            have zz := World.block_lt_of_cell? _ _ z0
            go_wp2_with fail
            with_reducible refine (sub_is LSU.out _ IY.out IX.out).mono ?_
            rintro e wc ⟨rfl, bc⟩
            have LC := bstep LQ bc
            have LC2 := LC.alloc LC.size (.cells #[.int .i64 p, .int .i64 q] 23)
            have TC := hT.below LC2
            go_wp2_with fail
            refine (sane_any _ TC).mono ?_
            rintro e wd ⟨rfl, bd⟩
            go_wp2_with fail
            go_ret
            exact ⟨rfl, bstep LC2 bd⟩
      · have LSU := Lib.hid hs
        clear hs
        as_aux_lemma =>
          have Xa1 := RatAt.new w3 xn xd 23
          have Ta1 := T3.alloc (.cells #[.int .i64 xn, .int .i64 xd] 23)
          have La1 := L3.alloc L3.size (.cells #[.int .i64 xn, .int .i64 xd] 23)
          have Xa2 := Xa1.alloc (.cells #[.int .i64 yn, .int .i64 yd] 23)
          have Ya2 := RatAt.new1 w3 (.cells #[.int .i64 xn, .int .i64 xd] 23) yn yd 23
          have Ta2 := Ta1.alloc (.cells #[.int .i64 yn, .int .i64 yd] 23)
          have La2 := La1.alloc La1.size (.cells #[.int .i64 yn, .int .i64 yd] 23)
          have Xa3 := Xa2.alloc (.cells #[.int .i64 zn, .int .i64 zd] 23)
          have Ya3 := Ya2.alloc (.cells #[.int .i64 zn, .int .i64 zd] 23)
          have Za3 := RatAt.new2 w3 (.cells #[.int .i64 xn, .int .i64 xd] 23) (.cells #[.int .i64 yn, .int .i64 yd] 23) zn zd 23
          have Ta3 := Ta2.alloc (.cells #[.int .i64 zn, .int .i64 zd] 23)
          have La3 := La2.alloc La2.size (.cells #[.int .i64 zn, .int .i64 zd] 23)
          have S0 : (fun w' => w'.cell? ⟨w3.heap.size, 0, none⟩ = some (.int .i64 xn) ∧ w'.cell? ⟨w3.heap.size, 1, none⟩ = some (.int .i64 xd) ∧ w'.cell? ⟨w3.heap.size + 1, 0, none⟩ = some (.int .i64 yn) ∧ w'.cell? ⟨w3.heap.size + 1, 1, none⟩ = some (.int .i64 yd) ∧ w'.cell? ⟨w3.heap.size + 2, 0, none⟩ = some (.int .i64 zn) ∧ w'.cell? ⟨w3.heap.size + 2, 1, none⟩ = some (.int .i64 zd) ∧ Below w.heap.size w w') (((w3.alloc (.cells #[.int .i64 xn, .int .i64 xd] 23)).alloc (.cells #[.int .i64 yn, .int .i64 yd] 23)).alloc (.cells #[.int .i64 zn, .int .i64 zd] 23)) := ⟨Xa3.1, Xa3.2.1, Ya3.1, Ya3.2.1, Za3.1, Za3.2.1, La3⟩
          go_wp2_with fail
          go_region_held3 (fun w' => w'.cell? ⟨w3.heap.size, 0, none⟩ = some (.int .i64 xn) ∧ w'.cell? ⟨w3.heap.size, 1, none⟩ = some (.int .i64 xd) ∧ w'.cell? ⟨w3.heap.size + 1, 0, none⟩ = some (.int .i64 yn) ∧ w'.cell? ⟨w3.heap.size + 1, 1, none⟩ = some (.int .i64 yd) ∧ w'.cell? ⟨w3.heap.size + 2, 0, none⟩ = some (.int .i64 zn) ∧ w'.cell? ⟨w3.heap.size + 2, 1, none⟩ = some (.int .i64 zd) ∧ Below w.heap.size w w')
            (first | (exact keep6 S0 (Below.refl _ _).drew) | (exact keep6 (by assumption) hb))
            (first | (go_at_call 17; (with_reducible refine (less_is LXY.out _ IX.out IY.out).mono ?_); rintro e w' ⟨rfl, hb⟩) | (go_at_call 17; (with_reducible refine (less_is LYX.out _ IY.out IX.out).mono ?_); rintro e w' ⟨rfl, hb⟩))
          rename_i SQ
          obtain ⟨x0, x1, y0, y1, z0, z1, LQ⟩ := SQ
          have zx := World.block_lt_of_cell? _ _ x0
          have zy := World.block_lt_of_cell? _ _ y0
          have zz := World.block_lt_of_cell? _ _ z0
          clear hb S0
          rcases HNE.out with e1 | ⟨rfl, e2⟩
          all_goals
            go_wp2_with fail
            with_reducible refine (less_is LYZ.out _ IY.out IZ.out).mono ?_
            rintro e wa ⟨rfl, ba⟩
            have SK := keep6 ⟨x0, x1, y0, y1, z0, z1, LQ⟩ ba
            clear x0 x1 y0 y1 z0 z1 zx zy zz
            obtain ⟨x0, x1, y0, y1, z0, z1, LQ⟩ := SK
            have zx := World.block_lt_of_cell? _ _ x0
            have zy := World.block_lt_of_cell? _ _ y0
            have zz := World.block_lt_of_cell? _ _ z0
            go_wp2_with fail
            with_reducible refine (less_is LXZ.out _ IX.out IZ.out).mono ?_
            rintro e wb ⟨rfl, bb⟩
            have SK := keep6 ⟨x0, x1, y0, y1, z0, z1, LQ⟩ bb
            clear x0 x1 y0 y1 z0 z1 zx zy zz
            obtain ⟨x0, x1, y0, y1, z0, z1, LQ⟩ := SK
            have zx := World.block_lt_of_cell? _ _ x0
            have zy := World.block_lt_of_cell? _ _ y0
            have zz := World.block_lt_of_cell? _ _ z0
            go_wp2_with fail
            with_reducible refine (sub_is LSU.out _ IY.out IX.out).mono ?_
            rintro e wc ⟨rfl, bc⟩
            have LC := bstep LQ bc
            have LC2 := LC.alloc LC.size (.cells #[.int .i64 0, .int .i64 0] 23)
            have TC := hT.below LC2
            go_wp2_with fail
            refine (sane_any _ TC).mono ?_
            rintro e wd ⟨rfl, bd⟩
            go_wp2_with fail
            go_ret
            exact ⟨rfl, bstep LC2 bd⟩
    | false =>
      have LYZ := Lib.hid h3
      clear h1 h2 h3 hne
      rcases Rt.sub_ways HX.out HY.out with ⟨p, q, hs, hp⟩ | hs
      · rw [LXY.out] at hp
        have hp' : 0 < p := by simpa using hp
        have hp3 : decide (0 < p) = true := hp
        have LSU := Lib.hid hs
        clear hp hs
        as_aux_lemma =>
          have Xa1 := RatAt.new w3 xn xd 23
          have Ta1 := T3.alloc (.cells #[.int .i64 xn, .int .i64 xd] 23)
          have La1 := L3.alloc L3.size (.cells #[.int .i64 xn, .int .i64 xd] 23)
          have Xa2 := Xa1.alloc (.cells #[.int .i64 yn, .int .i64 yd] 23)
          have Ya2 := RatAt.new1 w3 (.cells #[.int .i64 xn, .int .i64 xd] 23) yn yd 23
          have Ta2 := Ta1.alloc (.cells #[.int .i64 yn, .int .i64 yd] 23)
          have La2 := La1.alloc La1.size (.cells #[.int .i64 yn, .int .i64 yd] 23)
          have Xa3 := Xa2.alloc (.cells #[.int .i64 zn, .int .i64 zd] 23)
          have Ya3 := Ya2.alloc (.cells #[.int .i64 zn, .int .i64 zd] 23)
          have Za3 := RatAt.new2 w3 (.cells #[.int .i64 xn, .int .i64 xd] 23) (.cells #[.int .i64 yn, .int .i64 yd] 23) zn zd 23
          have Ta3 := Ta2.alloc (.cells #[.int .i64 zn, .int .i64 zd] 23)
          have La3 := La2.alloc La2.size (.cells #[.int .i64 zn, .int .i64 zd] 23)
          have S0 : (fun w' => w'.cell? ⟨w3.heap.size, 0, none⟩ = some (.int .i64 xn) ∧ w'.cell? ⟨w3.heap.size, 1, none⟩ = some (.int .i64 xd) ∧ w'.cell? ⟨w3.heap.size + 1, 0, none⟩ = some (.int .i64 yn) ∧ w'.cell? ⟨w3.heap.size + 1, 1, none⟩ = some (.int .i64 yd) ∧ w'.cell? ⟨w3.heap.size + 2, 0, none⟩ = some (.int .i64 zn) ∧ w'.cell? ⟨w3.heap.size + 2, 1, none⟩ = some (.int .i64 zd) ∧ Below w.heap.size w w') (((w3.alloc (.cells #[.int .i64 xn, .int .i64 xd] 23)).alloc (.cells #[.int .i64 yn, .int .i64 yd] 23)).alloc (.cells #[.int .i64 zn, .int .i64 zd] 23)) := ⟨Xa3.1, Xa3.2.1, Ya3.1, Ya3.2.1, Za3.1, Za3.2.1, La3⟩
          go_wp2_with fail
          go_region_held3 (fun w' => w'.cell? ⟨w3.heap.size, 0, none⟩ = some (.int .i64 xn) ∧ w'.cell? ⟨w3.heap.size, 1, none⟩ = some (.int .i64 xd) ∧ w'.cell? ⟨w3.heap.size + 1, 0, none⟩ = some (.int .i64 yn) ∧ w'.cell? ⟨w3.heap.size + 1, 1, none⟩ = some (.int .i64 yd) ∧ w'.cell? ⟨w3.heap.size + 2, 0, none⟩ = some (.int .i64 zn) ∧ w'.cell? ⟨w3.heap.size + 2, 1, none⟩ = some (.int .i64 zd) ∧ Below w.heap.size w w')
            (first | (exact keep6 S0 (Below.refl _ _).drew) | (exact keep6 (by assumption) hb))
            (first | (go_at_call 17; (with_reducible refine (less_is LXY.out _ IX.out IY.out).mono ?_); rintro e w' ⟨rfl, hb⟩) | (go_at_call 17; (with_reducible refine (less_is LYX.out _ IY.out IX.out).mono ?_); rintro e w' ⟨rfl, hb⟩))
          rename_i SQ
          obtain ⟨x0, x1, y0, y1, z0, z1, LQ⟩ := SQ
          have zx := World.block_lt_of_cell? _ _ x0
          have zy := World.block_lt_of_cell? _ _ y0
          have zz := World.block_lt_of_cell? _ _ z0
          clear hb S0
          rcases HNE.out with e1 | ⟨rfl, e2⟩
          all_goals
            go_wp2_with fail
            with_reducible refine (less_is LYZ.out _ IY.out IZ.out).mono ?_
            rintro e wa ⟨rfl, ba⟩
            have SK := keep6 ⟨x0, x1, y0, y1, z0, z1, LQ⟩ ba
            clear x0 x1 y0 y1 z0 z1 zx zy zz
            obtain ⟨x0, x1, y0, y1, z0, z1, LQ⟩ := SK
            have zx := World.block_lt_of_cell? _ _ x0
            have zy := World.block_lt_of_cell? _ _ y0
            have zz := World.block_lt_of_cell? _ _ z0
            go_wp2_with fail
            with_reducible refine (sub_is LSU.out _ IY.out IX.out).mono ?_
            rintro e wc ⟨rfl, bc⟩
            have LC := bstep LQ bc
            have LC2 := LC.alloc LC.size (.cells #[.int .i64 p, .int .i64 q] 23)
            have TC := hT.below LC2
            go_wp2_with fail
            refine (sane_any _ TC).mono ?_
            rintro e wd ⟨rfl, bd⟩
            go_wp2_with fail
            go_ret
            exact ⟨rfl, bstep LC2 bd⟩
      · have LSU := Lib.hid hs
        clear hs
        as_aux_lemma =>
          have Xa1 := RatAt.new w3 xn xd 23
          have Ta1 := T3.alloc (.cells #[.int .i64 xn, .int .i64 xd] 23)
          have La1 := L3.alloc L3.size (.cells #[.int .i64 xn, .int .i64 xd] 23)
          have Xa2 := Xa1.alloc (.cells #[.int .i64 yn, .int .i64 yd] 23)
          have Ya2 := RatAt.new1 w3 (.cells #[.int .i64 xn, .int .i64 xd] 23) yn yd 23
          have Ta2 := Ta1.alloc (.cells #[.int .i64 yn, .int .i64 yd] 23)
          have La2 := La1.alloc La1.size (.cells #[.int .i64 yn, .int .i64 yd] 23)
          have Xa3 := Xa2.alloc (.cells #[.int .i64 zn, .int .i64 zd] 23)
          have Ya3 := Ya2.alloc (.cells #[.int .i64 zn, .int .i64 zd] 23)
          have Za3 := RatAt.new2 w3 (.cells #[.int .i64 xn, .int .i64 xd] 23) (.cells #[.int .i64 yn, .int .i64 yd] 23) zn zd 23
          have Ta3 := Ta2.alloc (.cells #[.int .i64 zn, .int .i64 zd] 23)
          have La3 := La2.alloc La2.size (.cells #[.int .i64 zn, .int .i64 zd] 23)
          have S0 : (fun w' => w'.cell? ⟨w3.heap.size, 0, none⟩ = some (.int .i64 xn) ∧ w'.cell? ⟨w3.heap.size, 1, none⟩ = some (.int .i64 xd) ∧ w'.cell? ⟨w3.heap.size + 1, 0, none⟩ = some (.int .i64 yn) ∧ w'.cell? ⟨w3.heap.size + 1, 1, none⟩ = some (.int .i64 yd) ∧ w'.cell? ⟨w3.heap.size + 2, 0, none⟩ = some (.int .i64 zn) ∧ w'.cell? ⟨w3.heap.size + 2, 1, none⟩ = some (.int .i64 zd) ∧ Below w.heap.size w w') (((w3.alloc (.cells #[.int .i64 xn, .int .i64 xd] 23)).alloc (.cells #[.int .i64 yn, .int .i64 yd] 23)).alloc (.cells #[.int .i64 zn, .int .i64 zd] 23)) := ⟨Xa3.1, Xa3.2.1, Ya3.1, Ya3.2.1, Za3.1, Za3.2.1, La3⟩
          go_wp2_with fail
          go_region_held3 (fun w' => w'.cell? ⟨w3.heap.size, 0, none⟩ = some (.int .i64 xn) ∧ w'.cell? ⟨w3.heap.size, 1, none⟩ = some (.int .i64 xd) ∧ w'.cell? ⟨w3.heap.size + 1, 0, none⟩ = some (.int .i64 yn) ∧ w'.cell? ⟨w3.heap.size + 1, 1, none⟩ = some (.int .i64 yd) ∧ w'.cell? ⟨w3.heap.size + 2, 0, none⟩ = some (.int .i64 zn) ∧ w'.cell? ⟨w3.heap.size + 2, 1, none⟩ = some (.int .i64 zd) ∧ Below w.heap.size w w')
            (first | (exact keep6 S0 (Below.refl _ _).drew) | (exact keep6 (by assumption) hb))
            (first | (go_at_call 17; (with_reducible refine (less_is LXY.out _ IX.out IY.out).mono ?_); rintro e w' ⟨rfl, hb⟩) | (go_at_call 17; (with_reducible refine (less_is LYX.out _ IY.out IX.out).mono ?_); rintro e w' ⟨rfl, hb⟩))
          rename_i SQ
          obtain ⟨x0, x1, y0, y1, z0, z1, LQ⟩ := SQ
          have zx := World.block_lt_of_cell? _ _ x0
          have zy := World.block_lt_of_cell? _ _ y0
          have zz := World.block_lt_of_cell? _ _ z0
          clear hb S0
          rcases HNE.out with e1 | ⟨rfl, e2⟩
          all_goals
            go_wp2_with fail
            with_reducible refine (less_is LYZ.out _ IY.out IZ.out).mono ?_
            rintro e wa ⟨rfl, ba⟩
            have SK := keep6 ⟨x0, x1, y0, y1, z0, z1, LQ⟩ ba
            clear x0 x1 y0 y1 z0 z1 zx zy zz
            obtain ⟨x0, x1, y0, y1, z0, z1, LQ⟩ := SK
            have zx := World.block_lt_of_cell? _ _ x0
            have zy := World.block_lt_of_cell? _ _ y0
            have zz := World.block_lt_of_cell? _ _ z0
            go_wp2_with fail
            with_reducible refine (sub_is LSU.out _ IY.out IX.out).mono ?_
            rintro e wc ⟨rfl, bc⟩
            have LC := bstep LQ bc
            have LC2 := LC.alloc LC.size (.cells #[.int .i64 0, .int .i64 0] 23)
            have TC := hT.below LC2
            go_wp2_with fail
            refine (sane_any _ TC).mono ?_
            rintro e wd ⟨rfl, bd⟩
            go_wp2_with fail
            go_ret
            exact ⟨rfl, bstep LC2 bd⟩
  · have LXY := Lib.hid h1
    have LYX := Lib.hid h2
    have HNE := Lib.hid hne
    clear h1 h2 hne
    rcases Rt.sub_ways HX.out HY.out with ⟨p, q, hs, hp⟩ | hs
    · rw [LXY.out] at hp
      have hp' : ¬ 0 < p := by simpa using hp
      have hp3 : decide (0 < p) = false := hp
      have LSU := Lib.hid hs
      clear hp hs
      as_aux_lemma =>
        have Xa1 := RatAt.new w3 xn xd 23
        have Ta1 := T3.alloc (.cells #[.int .i64 xn, .int .i64 xd] 23)
        have La1 := L3.alloc L3.size (.cells #[.int .i64 xn, .int .i64 xd] 23)
        have Xa2 := Xa1.alloc (.cells #[.int .i64 yn, .int .i64 yd] 23)
        have Ya2 := RatAt.new1 w3 (.cells #[.int .i64 xn, .int .i64 xd] 23) yn yd 23
        have Ta2 := Ta1.alloc (.cells #[.int .i64 yn, .int .i64 yd] 23)
        have La2 := La1.alloc La1.size (.cells #[.int .i64 yn, .int .i64 yd] 23)
        have Xa3 := Xa2.alloc (.cells #[.int .i64 zn, .int .i64 zd] 23)
        have Ya3 := Ya2.alloc (.cells #[.int .i64 zn, .int .i64 zd] 23)
        have Za3 := RatAt.new2 w3 (.cells #[.int .i64 xn, .int .i64 xd] 23) (.cells #[.int .i64 yn, .int .i64 yd] 23) zn zd 23
        have Ta3 := Ta2.alloc (.cells #[.int .i64 zn, .int .i64 zd] 23)
        have La3 := La2.alloc La2.size (.cells #[.int .i64 zn, .int .i64 zd] 23)
        have S0 : (fun w' => w'.cell? ⟨w3.heap.size, 0, none⟩ = some (.int .i64 xn) ∧ w'.cell? ⟨w3.heap.size, 1, none⟩ = some (.int .i64 xd) ∧ w'.cell? ⟨w3.heap.size + 1, 0, none⟩ = some (.int .i64 yn) ∧ w'.cell? ⟨w3.heap.size + 1, 1, none⟩ = some (.int .i64 yd) ∧ w'.cell? ⟨w3.heap.size + 2, 0, none⟩ = some (.int .i64 zn) ∧ w'.cell? ⟨w3.heap.size + 2, 1, none⟩ = some (.int .i64 zd) ∧ Below w.heap.size w w') (((w3.alloc (.cells #[.int .i64 xn, .int .i64 xd] 23)).alloc (.cells #[.int .i64 yn, .int .i64 yd] 23)).alloc (.cells #[.int .i64 zn, .int .i64 zd] 23)) := ⟨Xa3.1, Xa3.2.1, Ya3.1, Ya3.2.1, Za3.1, Za3.2.1, La3⟩
        go_wp2_with fail
        go_region_held3 (fun w' => w'.cell? ⟨w3.heap.size, 0, none⟩ = some (.int .i64 xn) ∧ w'.cell? ⟨w3.heap.size, 1, none⟩ = some (.int .i64 xd) ∧ w'.cell? ⟨w3.heap.size + 1, 0, none⟩ = some (.int .i64 yn) ∧ w'.cell? ⟨w3.heap.size + 1, 1, none⟩ = some (.int .i64 yd) ∧ w'.cell? ⟨w3.heap.size + 2, 0, none⟩ = some (.int .i64 zn) ∧ w'.cell? ⟨w3.heap.size + 2, 1, none⟩ = some (.int .i64 zd) ∧ Below w.heap.size w w')
          (first | (exact keep6 S0 (Below.refl _ _).drew) | (exact keep6 (by assumption) hb))
          (first | (go_at_call 17; (with_reducible refine (less_is LXY.out _ IX.out IY.out).mono ?_); rintro e w' ⟨rfl, hb⟩) | (go_at_call 17; (with_reducible refine (less_is LYX.out _ IY.out IX.out).mono ?_); rintro e w' ⟨rfl, hb⟩))
        rename_i SQ
        obtain ⟨x0, x1, y0, y1, z0, z1, LQ⟩ := SQ
        have zx := World.block_lt_of_cell? _ _ x0
        have zy := World.block_lt_of_cell? _ _ y0
        have zz := World.block_lt_of_cell? _ _ z0
        clear hb S0
        rcases HNE.out with e1 | ⟨rfl, e2⟩
        all_goals
          go_wp2_with fail
          with_reducible refine (sub_is LSU.out _ IY.out IX.out).mono ?_
          rintro e wc ⟨rfl, bc⟩
          have LC := bstep LQ bc
          have LC2 := LC.alloc LC.size (.cells #[.int .i64 p, .int .i64 q] 23)
          have TC := hT.below LC2
          go_wp2_with fail
          refine (sane_any _ TC).mono ?_
          rintro e wd ⟨rfl, bd⟩
          go_wp2_with fail
          go_ret
          exact ⟨rfl, bstep LC2 bd⟩
    · have LSU := Lib.hid hs
      clear hs
      as_aux_lemma =>
        have Xa1 := RatAt.new w3 xn xd 23
        have Ta1 := T3.alloc (.cells #[.int .i64 xn, .int .i64 xd] 23)
        have La1 := L3.alloc L3.size (.cells #[.int .i64 xn, .int .i64 xd] 23)
        have Xa2 := Xa1.alloc (.cells #[.int .i64 yn, .int .i64 yd] 23)
        have Ya2 := RatAt.new1 w3 (.cells #[.int .i64 xn, .int .i64 xd] 23) yn yd 23
        have Ta2 := Ta1.alloc (.cells #[.int .i64 yn, .int .i64 yd] 23)
        have La2 := La1.alloc La1.size (.cells #[.int .i64 yn, .int .i64 yd] 23)
        have Xa3 := Xa2.alloc (.cells #[.int .i64 zn, .int .i64 zd] 23)
        have Ya3 := Ya2.alloc (.cells #[.int .i64 zn, .int .i64 zd] 23)
        have Za3 := RatAt.new2 w3 (.cells #[.int .i64 xn, .int .i64 xd] 23) (.cells #[.int .i64 yn, .int .i64 yd] 23) zn zd 23
        have Ta3 := Ta2.alloc (.cells #[.int .i64 zn, .int .i64 zd] 23)
        have La3 := La2.alloc La2.size (.cells #[.int .i64 zn, .int .i64 zd] 23)
        have S0 : (fun w' => w'.cell? ⟨w3.heap.size, 0, none⟩ = some (.int .i64 xn) ∧ w'.cell? ⟨w3.heap.size, 1, none⟩ = some (.int .i64 xd) ∧ w'.cell? ⟨w3.heap.size + 1, 0, none⟩ = some (.int .i64 yn) ∧ w'.cell? ⟨w3.heap.size + 1, 1, none⟩ = some (.int .i64 yd) ∧ w'.cell? ⟨w3.heap.size + 2, 0, none⟩ = some (.int .i64 zn) ∧ w'.cell? ⟨w3.heap.size + 2, 1, none⟩ = some (.int .i64 zd) ∧ Below w.heap.size w w') (((w3.alloc (.cells #[.int .i64 xn, .int .i64 xd] 23)).alloc (.cells #[.int .i64 yn, .int .i64 yd] 23)).alloc (.cells #[.int .i64 zn, .int .i64 zd] 23)) := ⟨Xa3.1, Xa3.2.1, Ya3.1, Ya3.2.1, Za3.1, Za3.2.1, La3⟩
        go_wp2_with fail
        go_region_held3 (fun w' => w'.cell? ⟨w3.heap.size, 0, none⟩ = some (.int .i64 xn) ∧ w'.cell? ⟨w3.heap.size, 1, none⟩ = some (.int .i64 xd) ∧ w'.cell? ⟨w3.heap.size + 1, 0, none⟩ = some (.int .i64 yn) ∧ w'.cell? ⟨w3.heap.size + 1, 1, none⟩ = some (.int .i64 yd) ∧ w'.cell? ⟨w3.heap.size + 2, 0, none⟩ = some (.int .i64 zn) ∧ w'.cell? ⟨w3.heap.size + 2, 1, none⟩ = some (.int .i64 zd) ∧ Below w.heap.size w w')
          (first | (exact keep6 S0 (Below.refl _ _).drew) | (exact keep6 (by assumption) hb))
          (first | (go_at_call 17; (with_reducible refine (less_is LXY.out _ IX.out IY.out).mono ?_); rintro e w' ⟨rfl, hb⟩) | (go_at_call 17; (with_reducible refine (less_is LYX.out _ IY.out IX.out).mono ?_); rintro e w' ⟨rfl, hb⟩))
        rename_i SQ
        obtain ⟨x0, x1, y0, y1, z0, z1, LQ⟩ := SQ
        have zx := World.block_lt_of_cell? _ _ x0
        have zy := World.block_lt_of_cell? _ _ y0
        have zz := World.block_lt_of_cell? _ _ z0
        clear hb S0
        rcases HNE.out with e1 | ⟨rfl, e2⟩
        all_goals
          go_wp2_with fail
          with_reducible refine (sub_is LSU.out _ IY.out IX.out).mono ?_
          rintro e wc ⟨rfl, bc⟩
          have LC := bstep LQ bc
          have LC2 := LC.alloc LC.size (.cells #[.int .i64 0, .int .i64 0] 23)
          have TC := hT.below LC2
          go_wp2_with fail
          refine (sane_any _ TC).mono ?_
          rintro e wd ⟨rfl, bd⟩
          go_wp2_with fail
          go_ret
          exact ⟨rfl, bstep LC2 bd⟩
  · have LXY := Lib.hid h1
    have LYX := Lib.hid h2
    clear h1 h2
    rcases Rt.sub_ways HX.out HY.out with ⟨p, q, hs, hp⟩ | hs
    · rw [LXY.out] at hp
      have hp' : ¬ 0 < p := by simpa using hp
      have hp3 : decide (0 < p) = false := hp
      have LSU := Lib.hid hs
      clear hp hs
      as_aux_lemma =>
        have Xa1 := RatAt.new w3 xn xd 23
        have Ta1 := T3.alloc (.cells #[.int .i64 xn, .int .i64 xd] 23)
        have La1 := L3.alloc L3.size (.cells #[.int .i64 xn, .int .i64 xd] 23)
        have Xa2 := Xa1.alloc (.cells #[.int .i64 xn, .int .i64 xd] 23)
        have Ya2 := RatAt.new1 w3 (.cells #[.int .i64 xn, .int .i64 xd] 23) xn xd 23
        have Ta2 := Ta1.alloc (.cells #[.int .i64 xn, .int .i64 xd] 23)
        have La2 := La1.alloc La1.size (.cells #[.int .i64 xn, .int .i64 xd] 23)
        have Xa3 := Xa2.alloc (.cells #[.int .i64 zn, .int .i64 zd] 23)
        have Ya3 := Ya2.alloc (.cells #[.int .i64 zn, .int .i64 zd] 23)
        have Za3 := RatAt.new2 w3 (.cells #[.int .i64 xn, .int .i64 xd] 23) (.cells #[.int .i64 xn, .int .i64 xd] 23) zn zd 23
        have Ta3 := Ta2.alloc (.cells #[.int .i64 zn, .int .i64 zd] 23)
        have La3 := La2.alloc La2.size (.cells #[.int .i64 zn, .int .i64 zd] 23)
        have S0 : (fun w' => w'.cell? ⟨w3.heap.size, 0, none⟩ = some (.int .i64 xn) ∧ w'.cell? ⟨w3.heap.size, 1, none⟩ = some (.int .i64 xd) ∧ w'.cell? ⟨w3.heap.size + 1, 0, none⟩ = some (.int .i64 xn) ∧ w'.cell? ⟨w3.heap.size + 1, 1, none⟩ = some (.int .i64 xd) ∧ w'.cell? ⟨w3.heap.size + 2, 0, none⟩ = some (.int .i64 zn) ∧ w'.cell? ⟨w3.heap.size + 2, 1, none⟩ = some (.int .i64 zd) ∧ Below w.heap.size w w') (((w3.alloc (.cells #[.int .i64 xn, .int .i64 xd] 23)).alloc (.cells #[.int .i64 xn, .int .i64 xd] 23)).alloc (.cells #[.int .i64 zn, .int .i64 zd] 23)) := ⟨Xa3.1, Xa3.2.1, Ya3.1, Ya3.2.1, Za3.1, Za3.2.1, La3⟩
        go_wp2_with fail
        go_region_held3 (fun w' => w'.cell? ⟨w3.heap.size, 0, none⟩ = some (.int .i64 xn) ∧ w'.cell? ⟨w3.heap.size, 1, none⟩ = some (.int .i64 xd) ∧ w'.cell? ⟨w3.heap.size + 1, 0, none⟩ = some (.int .i64 xn) ∧ w'.cell? ⟨w3.heap.size + 1, 1, none⟩ = some (.int .i64 xd) ∧ w'.cell? ⟨w3.heap.size + 2, 0, none⟩ = some (.int .i64 zn) ∧ w'.cell? ⟨w3.heap.size + 2, 1, none⟩ = some (.int .i64 zd) ∧ Below w.heap.size w w')
          (first | (exact keep6 S0 (Below.refl _ _).drew) | (exact keep6 (by assumption) hb))
          (first | (go_at_call 17; (with_reducible refine (less_is LXY.out _ IX.out IY.out).mono ?_); rintro e w' ⟨rfl, hb⟩) | (go_at_call 17; (with_reducible refine (less_is LYX.out _ IY.out IX.out).mono ?_); rintro e w' ⟨rfl, hb⟩))
        rename_i SQ
        obtain ⟨x0, x1, y0, y1, z0, z1, LQ⟩ := SQ
        have zx := World.block_lt_of_cell? _ _ x0
        have zy := World.block_lt_of_cell? _ _ y0
        have zz := World.block_lt_of_cell? _ _ z0
        clear hb S0
        go_wp2_with fail
        with_reducible refine (sub_is LSU.out _ IY.out IX.out).mono ?_
        rintro e wc ⟨rfl, bc⟩
        have LC := bstep LQ bc
        have LC2 := LC.alloc LC.size (.cells #[.int .i64 p, .int .i64 q] 23)
        have TC := hT.below LC2
        go_wp2_with fail
        refine (sane_any _ TC).mono ?_
        rintro e wd ⟨rfl, bd⟩
        go_wp2_with fail
        go_ret
        exact ⟨rfl, bstep LC2 bd⟩
    · have LSU := Lib.hid hs
      clear hs
      as_aux_lemma =>
        have Xa1 := RatAt.new w3 xn xd 23
        have Ta1 := T3.alloc (.cells #[.int .i64 xn, .int .i64 xd] 23)
        have La1 := L3.alloc L3.size (.cells #[.int .i64 xn, .int .i64 xd] 23)
        have Xa2 := Xa1.alloc (.cells #[.int .i64 xn, .int .i64 xd] 23)
        have Ya2 := RatAt.new1 w3 (.cells #[.int .i64 xn, .int .i64 xd] 23) xn xd 23
        have Ta2 := Ta1.alloc (.cells #[.int .i64 xn, .int .i64 xd] 23)
        have La2 := La1.alloc La1.size (.cells #[.int .i64 xn, .int .i64 xd] 23)
        have Xa3 := Xa2.alloc (.cells #[.int .i64 zn, .int .i64 zd] 23)
        have Ya3 := Ya2.alloc (.cells #[.int .i64 zn, .int .i64 zd] 23)
        have Za3 := RatAt.new2 w3 (.cells #[.int .i64 xn, .int .i64 xd] 23) (.cells #[.int .i64 xn, .int .i64 xd] 23) zn zd 23
        have Ta3 := Ta2.alloc (.cells #[.int .i64 zn, .int .i64 zd] 23)
        have La3 := La2.alloc La2.size (.cells #[.int .i64 zn, .int .i64 zd] 23)
        have S0 : (fun w' => w'.cell? ⟨w3.heap.size, 0, none⟩ = some (.int .i64 xn) ∧ w'.cell? ⟨w3.heap.size, 1, none⟩ = some (.int .i64 xd) ∧ w'.cell? ⟨w3.heap.size + 1, 0, none⟩ = some (.int .i64 xn) ∧ w'.cell? ⟨w3.heap.size + 1, 1, none⟩ = some (.int .i64 xd) ∧ w'.cell? ⟨w3.heap.size + 2, 0, none⟩ = some (.int .i64 zn) ∧ w'.cell? ⟨w3.heap.size + 2, 1, none⟩ = some (.int .i64 zd) ∧ Below w.heap.size w w') (((w3.alloc (.cells #[.int .i64 xn, .int .i64 xd] 23)).alloc (.cells #[.int .i64 xn, .int .i64 xd] 23)).alloc (.cells #[.int .i64 zn, .int .i64 zd] 23)) := ⟨Xa3.1, Xa3.2.1, Ya3.1, Ya3.2.1, Za3.1, Za3.2.1, La3⟩
        go_wp2_with fail
        go_region_held3 (fun w' => w'.cell? ⟨w3.heap.size, 0, none⟩ = some (.int .i64 xn) ∧ w'.cell? ⟨w3.heap.size, 1, none⟩ = some (.int .i64 xd) ∧ w'.cell? ⟨w3.heap.size + 1, 0, none⟩ = some (.int .i64 xn) ∧ w'.cell? ⟨w3.heap.size + 1, 1, none⟩ = some (.int .i64 xd) ∧ w'.cell? ⟨w3.heap.size + 2, 0, none⟩ = some (.int .i64 zn) ∧ w'.cell? ⟨w3.heap.size + 2, 1, none⟩ = some (.int .i64 zd) ∧ Below w.heap.size w w')
          (first | (exact keep6 S0 (Below.refl _ _).drew) | (exact keep6 (by assumption) hb))
          (first | (go_at_call 17; (with_reducible refine (less_is LXY.out _ IX.out IY.out).mono ?_); rintro e w' ⟨rfl, hb⟩) | (go_at_call 17; (with_reducible refine (less_is LYX.out _ IY.out IX.out).mono ?_); rintro e w' ⟨rfl, hb⟩))
        rename_i SQ
        obtain ⟨x0, x1, y0, y1, z0, z1, LQ⟩ := SQ
        have zx := World.block_lt_of_cell? _ _ x0
        have zy := World.block_lt_of_cell? _ _ y0
        have zz := World.block_lt_of_cell? _ _ z0
        clear hb S0
        go_wp2_with fail
        with_reducible refine (sub_is LSU.out _ IY.out IX.out).mono ?_
        rintro e wc ⟨rfl, bc⟩
        have LC := bstep LQ bc
        have LC2 := LC.alloc LC.size (.cells #[.int .i64 0, .int .i64 0] 23)
        have TC := hT.below LC2
        go_wp2_with fail
        refine (sane_any _ TC).mono ?_
        rintro e wd ⟨rfl, bd⟩
        go_wp2_with fail
        go_ret
        exact ⟨rfl, bstep LC2 bd⟩
end Go.Proofs.YtcannkndedlooaaDoor
