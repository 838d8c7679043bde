/- What sum and product of package ratio return. -/
import Derived.Test.YtcannkndedlooaaDoorRatB
namespace Go.Proofs.YtcannkndedlooaaDoor
open Go.RowKit
set_option linter.unusedVariables false
set_option linter.unusedSimpArgs false

theorem below3 (w : World) (a b c : Obj) : Below w.heap.size w (((w.alloc a).alloc b).alloc c) := ((((Below.refl _ _).alloc (Nat.le_refl _) a).alloc (by simp) b).alloc (by simp; omega) c)
theorem below2 (w : World) (a b : Obj) : Below w.heap.size w ((w.alloc a).alloc b) := (((Below.refl _ _).alloc (Nat.le_refl _) a).alloc (by simp) b)

/-- A ratio lies at block b, which may be written. -/
def RatAt (w : World) (b : Nat) (n d : Int) : Prop := w.cell? ⟨b, 0, none⟩ = some (.int .i64 n) ∧ w.cell? ⟨b, 1, none⟩ = some (.int .i64 d) ∧ w.frozen? ⟨b, 0, none⟩ = false ∧ w.frozen? ⟨b, 1, none⟩ = false
theorem RatAt.lt {w : World} {b : Nat} {n d : Int} (h : RatAt w b n d) : b < w.heap.size := World.block_lt_of_cell? w _ h.1
theorem RatAt.below {w w' : World} {b : Nat} {n d : Int} (h : RatAt w b n d) (k : Below w.heap.size w w') : RatAt w' b n d :=
  ⟨(k.cell (p := ⟨b, 0, none⟩) h.lt).trans h.1, (k.cell (p := ⟨b, 1, none⟩) h.lt).trans h.2.1, (k.frozen (p := ⟨b, 0, none⟩) h.lt).trans h.2.2.1, (k.frozen (p := ⟨b, 1, none⟩) h.lt).trans h.2.2.2⟩
theorem RatAt.alloc {w : World} {b : Nat} {n d : Int} (h : RatAt w b n d) (o : Obj) : RatAt (w.alloc o) b n d := h.below ((Below.refl _ _).alloc (Nat.le_refl _) o)
theorem RatAt.drewN {w : World} {b : Nat} {n d : Int} (h : RatAt w b n d) (k : Nat) : RatAt (w.drewN k) b n d := h.below (below_drewN (Below.refl _ _) k)
theorem RatAt.new (w : World) (n d : Int) (t : TypeId) : RatAt (w.alloc (.cells #[.int .i64 n, .int .i64 d] t)) w.heap.size n d := by
  refine ⟨?_, ?_, ?_, ?_⟩ <;> simp
theorem RatAt.new1 (w : World) (o : Obj) (n d : Int) (t : TypeId) : RatAt ((w.alloc o).alloc (.cells #[.int .i64 n, .int .i64 d] t)) (w.heap.size + 1) n d := by
  refine ⟨?_, ?_, ?_, ?_⟩ <;> simp
theorem RatAt.new2 (w : World) (o o2 : Obj) (n d : Int) (t : TypeId) : RatAt (((w.alloc o).alloc o2).alloc (.cells #[.int .i64 n, .int .i64 d] t)) (w.heap.size + 2) n d := by
  have h := RatAt.new ((w.alloc o).alloc o2) n d t
  rw [show ((w.alloc o).alloc o2).heap.size = w.heap.size + 2 by simp] at h
  exact h

set_option maxHeartbeats 1600000 in
theorem sum_ok (an ad bn bd x y s dd : Int) (tx ty td ts : Bool) (w : World) (ha : Rt.vld an ad) (hb : Rt.vld bn bd)
    (hx : Rt.tmN an (bd / Rt.g ad bd) = x) (hy : Rt.tmN bn (ad / Rt.g ad bd) = y) (hd : Rt.tmN (ad / Rt.g ad bd) bd = dd) (hs : Rt.plN x y = s)
    (tx0 : Rt.tmB an (bd / Rt.g ad bd) = tx) (ty0 : Rt.tmB bn (ad / Rt.g ad bd) = ty) (td0 : Rt.tmB (ad / Rt.g ad bd) bd = td) (ts0 : Rt.plB x y = ts)
    (hok : tx = true ∧ ty = true ∧ ts = true ∧ td = true) (fs : Rt.fits s) (d1 : 1 ≤ dd) (d2 : dd ≤ 4611686018427387904) :
    Calls Tryd.prog 29 #[.agg #[.int .i64 an, .int .i64 ad], .agg #[.int .i64 bn, .int .i64 bd]] w fun e w' => e = .returned (.tuple #[.agg #[.int .i64 (Rt.lowN s dd), .int .i64 (Rt.lowD s dd)], .int .i64 0]) ∧ Below w.heap.size w w' := by
  obtain ⟨rfl, rfl, rfl, rfl⟩ := hok
  obtain ⟨p1, p2, p3, p4, p5⟩ := ha
  obtain ⟨r1, r2, r3, r4, r5⟩ := hb
  clear p5 r5
  have g1 := Rt.g_pos (a := ad) r1
  have g2 := Rt.g_le (a := ad) r1
  have g0 : ((Rt.g ad bd : Int) == 0) = false := by simp; omega
  have q1 := Rt.divr_pos (a := ad) r1
  have q2 := Rt.divr_le (a := ad) r1
  have q3 := Rt.divl_pos p1 r1
  have q4 := Rt.divl_le (b := bd) p1
  have x1 := Rt.tmN_bd an (bd / Rt.g ad bd)
  have y1 := Rt.tmN_bd bn (ad / Rt.g ad bd)
  rw [hx] at x1
  rw [hy] at y1
  have HX := Lib.hid hx
  have HY := Lib.hid hy
  have HD := Lib.hid hd
  have HS := Lib.hid hs
  have TX := Lib.hid tx0
  have TY := Lib.hid ty0
  have TD := Lib.hid td0
  have TS := Lib.hid ts0
  clear hx hy hd hs tx0 ty0 td0 ts0
  have f1 := fs.1
  have f2 := fs.2
  clear fs
  go_enter Tryd.func29, Tryd.ntmps29
  go_wp2_with fail
  refine (divisor_any ad bd _ (by omega) p2 r1 r2).mono ?_
  rintro e w' ⟨rfl, rfl⟩
  go_wp2_with fail
  go_quiet ((go_at_call 45; exact qsame (times_is _ HX.out TX.out (by omega) (by omega) (by omega) (by omega))))
  go_wp2_with fail
  go_quiet ((go_at_call 45; exact qsame2 (times_is _ HY.out TY.out (by omega) (by omega) (by omega) (by omega))))
  go_wp2_with fail
  go_quiet ((go_at_call 45; exact qsame2 (times_is _ HD.out TD.out (by omega) (by omega) (by omega) (by omega))))
  go_wp2_with fail
  refine (plus_is _ HS.out TS.out (by omega) (by omega) (by omega) (by omega)).mono ?_
  rintro e w' ⟨rfl, rfl⟩
  go_wp2_with fail
  refine (low_any s dd _ (by omega) (by omega) (by omega) (by omega)).mono ?_
  rintro e w1 ⟨rfl, hb⟩
  have Z := ((RatAt.new2 w (.cells #[.int .i64 an, .int .i64 ad] 23) (.cells #[.int .i64 bn, .int .i64 bd] 23) 0 0 23).drewN _).below hb
  have hz := Z.lt
  have hB := Lib.hid (bstep (below_drewN (below3 _ _ _ _) _) hb)
  obtain ⟨z0, z1, k0, k1⟩ := Z
  clear hb
  go_wp2_with fail
  exact bodyPost_ret (v := .tuple #[.agg #[.int .i64 (Rt.lowN s dd), .int .i64 (Rt.lowD s dd)], .int .i64 0]) (by simp [results, Tryd.results29, go_sem, z0, z1, hz]) rfl ⟨rfl, (hB.out.setCell (by simp <;> omega) _).setCell (by simp <;> omega) _⟩

set_option maxHeartbeats 1600000 in
theorem sum_lim (an ad bn bd x y s dd : Int) (tx ty td ts : Bool) (w : World) (ha : Rt.vld an ad) (hb : Rt.vld bn bd)
    (hx : Rt.tmN an (bd / Rt.g ad bd) = x) (hy : Rt.tmN bn (ad / Rt.g ad bd) = y) (hd : Rt.tmN (ad / Rt.g ad bd) bd = dd) (hs : Rt.plN x y = s)
    (tx0 : Rt.tmB an (bd / Rt.g ad bd) = tx) (ty0 : Rt.tmB bn (ad / Rt.g ad bd) = ty) (td0 : Rt.tmB (ad / Rt.g ad bd) bd = td) (ts0 : Rt.plB x y = ts)
    (hno : tx = false ∨ (tx = true ∧ ty = false) ∨ (tx = true ∧ ty = true ∧ ts = false) ∨ (tx = true ∧ ty = true ∧ ts = true ∧ td = false)) :
    Calls Tryd.prog 29 #[.agg #[.int .i64 an, .int .i64 ad], .agg #[.int .i64 bn, .int .i64 bd]] w fun e w' => e = .returned (.tuple #[.agg #[.int .i64 0, .int .i64 0], .int .i64 5]) ∧ Below w.heap.size w w' := by
  obtain ⟨p1, p2, p3, p4, p5⟩ := ha
  obtain ⟨r1, r2, r3, r4, r5⟩ := hb
  clear p5 r5
  have g1 := Rt.g_pos (a := ad) r1
  have g2 := Rt.g_le (a := ad) r1
  have g0 : ((Rt.g ad bd : Int) == 0) = false := by simp; omega
  have q1 := Rt.divr_pos (a := ad) r1
  have q2 := Rt.divr_le (a := ad) r1
  have q3 := Rt.divl_pos p1 r1
  have q4 := Rt.divl_le (b := bd) p1
  have x1 := Rt.tmN_bd an (bd / Rt.g ad bd)
  have y1 := Rt.tmN_bd bn (ad / Rt.g ad bd)
  rw [hx] at x1
  rw [hy] at y1
  have HX := Lib.hid hx
  have HY := Lib.hid hy
  have HD := Lib.hid hd
  have HS := Lib.hid hs
  have TX := Lib.hid tx0
  have TY := Lib.hid ty0
  have TD := Lib.hid td0
  have TS := Lib.hid ts0
  clear hx hy hd hs tx0 ty0 td0 ts0
  rcases hno with rfl | ⟨rfl, rfl⟩ | ⟨rfl, rfl, rfl⟩ | ⟨rfl, rfl, rfl, rfl⟩
  all_goals
    go_enter Tryd.func29, Tryd.ntmps29
    go_wp2_with fail
    refine (divisor_any ad bd _ (by omega) p2 r1 r2).mono ?_
    rintro e w' ⟨rfl, rfl⟩
    go_wp2_with fail
    go_quiet ((go_at_call 45; exact qsame (times_is _ HX.out TX.out (by omega) (by omega) (by omega) (by omega))))
    go_wp2_with fail
    go_quiet ((go_at_call 45; exact qsame2 (times_is _ HY.out TY.out (by omega) (by omega) (by omega) (by omega))))
    go_wp2_with fail
    go_quiet ((go_at_call 45; exact qsame2 (times_is _ HD.out TD.out (by omega) (by omega) (by omega) (by omega))))
    go_wp2_with fail
    refine (plus_is _ HS.out TS.out (by omega) (by omega) (by omega) (by omega)).mono ?_
    rintro e w' ⟨rfl, rfl⟩
    go_wp2_with fail
    exact bodyPost_ret (v := .tuple #[.agg #[.int .i64 0, .int .i64 0], .int .i64 5]) (by simp [results, Tryd.results29, go_sem]) rfl ⟨rfl, by first | exact below_drewN (below3 _ _ _ _) _ | exact ((below_drewN (below3 _ _ _ _) _).setCell (by simp <;> omega) _).setCell (by simp <;> omega) _⟩

theorem sum_any (an ad bn bd : Int) (w : World) (ha : Rt.vld an ad) (hb : Rt.vld bn bd) : Calls Tryd.prog 29 #[.agg #[.int .i64 an, .int .i64 ad], .agg #[.int .i64 bn, .int .i64 bd]] w (Ret3 (Rt.sumS an ad bn bd) w) := by
  obtain ⟨x, hx⟩ : ∃ x, Rt.tmN an (bd / Rt.g ad bd) = x := ⟨_, rfl⟩
  obtain ⟨y, hy⟩ : ∃ x, Rt.tmN bn (ad / Rt.g ad bd) = x := ⟨_, rfl⟩
  obtain ⟨dd, hd⟩ : ∃ x, Rt.tmN (ad / Rt.g ad bd) bd = x := ⟨_, rfl⟩
  obtain ⟨s, hs⟩ : ∃ z, Rt.plN x y = z := ⟨_, rfl⟩
  obtain ⟨tx, tx0⟩ : ∃ x, Rt.tmB an (bd / Rt.g ad bd) = x := ⟨_, rfl⟩
  obtain ⟨ty, ty0⟩ : ∃ x, Rt.tmB bn (ad / Rt.g ad bd) = x := ⟨_, rfl⟩
  obtain ⟨td, td0⟩ : ∃ x, Rt.tmB (ad / Rt.g ad bd) bd = x := ⟨_, rfl⟩
  obtain ⟨ts, ts0⟩ : ∃ z, Rt.plB x y = z := ⟨_, rfl⟩
  rcases Rt.sum_cases ha.1 hb.1 hx hy hd hs tx0 ty0 td0 ts0 with ⟨hr, hok, hf, h1, h2⟩ | ⟨hr, hno⟩
  · rw [hr]; exact sum_ok an ad bn bd x y s dd tx ty td ts w ha hb hx hy hd hs tx0 ty0 td0 ts0 hok hf h1 h2
  · rw [hr]; exact sum_lim an ad bn bd x y s dd tx ty td ts w ha hb hx hy hd hs tx0 ty0 td0 ts0 hno

set_option maxHeartbeats 1600000 in
theorem prod_ok (an ad bn bd x dd : Int) (tx td : Bool) (w : World) (p1 : 1 ≤ ad) (p2 : ad ≤ 4611686018427387904) (p3 : -4611686018427387904 ≤ an) (p4 : an ≤ 4611686018427387904) (r1 : 1 ≤ bd) (r2 : bd ≤ 4611686018427387904) (r3 : -4611686018427387904 ≤ bn) (r4 : bn ≤ 4611686018427387904)
    (hx : Rt.tmN (an.tdiv (Rt.g an bd)) (bn.tdiv (Rt.g bn ad)) = x) (hd : Rt.tmN (ad / Rt.g bn ad) (bd / Rt.g an bd) = dd)
    (tx0 : Rt.tmB (an.tdiv (Rt.g an bd)) (bn.tdiv (Rt.g bn ad)) = tx) (td0 : Rt.tmB (ad / Rt.g bn ad) (bd / Rt.g an bd) = td)
    (hok : tx = true ∧ td = true) :
    Calls Tryd.prog 32 #[.agg #[.int .i64 an, .int .i64 ad], .agg #[.int .i64 bn, .int .i64 bd]] w fun e w' => e = .returned (.tuple #[.agg #[.int .i64 x, .int .i64 dd], .int .i64 0]) ∧ Below w.heap.size w w' := by
  obtain ⟨rfl, rfl⟩ := hok
  have g1 := Rt.g_pos (a := an) r1
  have g2 := Rt.g_le (a := an) r1
  have g0 : ((Rt.g an bd : Int) == 0) = false := by simp; omega
  have e1 := Rt.g_pos (a := bn) p1
  have e2 := Rt.g_le (a := bn) p1
  have e0 : ((Rt.g bn ad : Int) == 0) = false := by simp; omega
  have q1 := Rt.divr_pos (a := an) r1
  have q2 := Rt.divr_le (a := an) r1
  have q3 := Rt.divr_pos (a := bn) p1
  have q4 := Rt.divr_le (a := bn) p1
  have u1 := Rt.quol_bd (b := bd) p3 p4
  have u2 := Rt.quol_bd (b := ad) r3 r4
  have HX := Lib.hid hx
  have HD := Lib.hid hd
  have TX := Lib.hid tx0
  have TD := Lib.hid td0
  clear hx hd tx0 td0
  go_enter Tryd.func32, Tryd.ntmps32
  go_wp2_with fail
  go_quiet ((go_at_call 37; exact qsame (divisor_any _ _ _ (by omega) (by omega) (by omega) (by omega))))
  go_wp2_with fail
  go_quiet ((go_at_call 45; exact qsame2 (times_is _ HX.out TX.out (by omega) (by omega) (by omega) (by omega))))
  go_wp2_with fail
  go_quiet ((go_at_call 45; exact qsame2 (times_is _ HD.out TD.out (by omega) (by omega) (by omega) (by omega))))
  go_wp2_with fail
  exact bodyPost_ret (v := .tuple #[.agg #[.int .i64 x, .int .i64 dd], .int .i64 0]) (by simp [results, Tryd.results32, go_sem]) rfl ⟨rfl, by first | exact below_drewN (below3 _ _ _ _) _ | exact ((below_drewN (below3 _ _ _ _) _).setCell (by simp <;> omega) _).setCell (by simp <;> omega) _⟩

set_option maxHeartbeats 1600000 in
theorem prod_lim (an ad bn bd x dd : Int) (tx td : Bool) (w : World) (p1 : 1 ≤ ad) (p2 : ad ≤ 4611686018427387904) (p3 : -4611686018427387904 ≤ an) (p4 : an ≤ 4611686018427387904) (r1 : 1 ≤ bd) (r2 : bd ≤ 4611686018427387904) (r3 : -4611686018427387904 ≤ bn) (r4 : bn ≤ 4611686018427387904)
    (hx : Rt.tmN (an.tdiv (Rt.g an bd)) (bn.tdiv (Rt.g bn ad)) = x) (hd : Rt.tmN (ad / Rt.g bn ad) (bd / Rt.g an bd) = dd)
    (tx0 : Rt.tmB (an.tdiv (Rt.g an bd)) (bn.tdiv (Rt.g bn ad)) = tx) (td0 : Rt.tmB (ad / Rt.g bn ad) (bd / Rt.g an bd) = td)
    (hno : tx = false ∨ (tx = true ∧ td = false)) :
    Calls Tryd.prog 32 #[.agg #[.int .i64 an, .int .i64 ad], .agg #[.int .i64 bn, .int .i64 bd]] w fun e w' => e = .returned (.tuple #[.agg #[.int .i64 0, .int .i64 0], .int .i64 5]) ∧ Below w.heap.size w w' := by
  have g1 := Rt.g_pos (a := an) r1
  have g2 := Rt.g_le (a := an) r1
  have g0 : ((Rt.g an bd : Int) == 0) = false := by simp; omega
  have e1 := Rt.g_pos (a := bn) p1
  have e2 := Rt.g_le (a := bn) p1
  have e0 : ((Rt.g bn ad : Int) == 0) = false := by simp; omega
  have q1 := Rt.divr_pos (a := an) r1
  have q2 := Rt.divr_le (a := an) r1
  have q3 := Rt.divr_pos (a := bn) p1
  have q4 := Rt.divr_le (a := bn) p1
  have u1 := Rt.quol_bd (b := bd) p3 p4
  have u2 := Rt.quol_bd (b := ad) r3 r4
  have HX := Lib.hid hx
  have HD := Lib.hid hd
  have TX := Lib.hid tx0
  have TD := Lib.hid td0
  clear hx hd tx0 td0
  rcases hno with rfl | ⟨rfl, rfl⟩
  all_goals
    go_enter Tryd.func32, Tryd.ntmps32
    go_wp2_with fail
    go_quiet ((go_at_call 37; exact qsame (divisor_any _ _ _ (by omega) (by omega) (by omega) (by omega))))
    go_wp2_with fail
    go_quiet ((go_at_call 45; exact qsame2 (times_is _ HX.out TX.out (by omega) (by omega) (by omega) (by omega))))
    go_wp2_with fail
    go_quiet ((go_at_call 45; exact qsame2 (times_is _ HD.out TD.out (by omega) (by omega) (by omega) (by omega))))
    go_wp2_with fail
    exact bodyPost_ret (v := .tuple #[.agg #[.int .i64 0, .int .i64 0], .int .i64 5]) (by simp [results, Tryd.results32, go_sem]) rfl ⟨rfl, by first | exact below_drewN (below3 _ _ _ _) _ | exact ((below_drewN (below3 _ _ _ _) _).setCell (by simp <;> omega) _).setCell (by simp <;> omega) _⟩

theorem prod_any (an ad bn bd : Int) (w : World) (p1 : 1 ≤ ad) (p2 : ad ≤ 4611686018427387904) (p3 : Rt.fits an) (r1 : 1 ≤ bd) (r2 : bd ≤ 4611686018427387904) (r3 : Rt.fits bn) : Calls Tryd.prog 32 #[.agg #[.int .i64 an, .int .i64 ad], .agg #[.int .i64 bn, .int .i64 bd]] w (Ret3 (Rt.prodS an ad bn bd) w) := by
  obtain ⟨x, hx⟩ : ∃ x, Rt.tmN (an.tdiv (Rt.g an bd)) (bn.tdiv (Rt.g bn ad)) = x := ⟨_, rfl⟩
  obtain ⟨dd, hd⟩ : ∃ x, Rt.tmN (ad / Rt.g bn ad) (bd / Rt.g an bd) = x := ⟨_, rfl⟩
  obtain ⟨tx, tx0⟩ : ∃ x, Rt.tmB (an.tdiv (Rt.g an bd)) (bn.tdiv (Rt.g bn ad)) = x := ⟨_, rfl⟩
  obtain ⟨td, td0⟩ : ∃ x, Rt.tmB (ad / Rt.g bn ad) (bd / Rt.g an bd) = x := ⟨_, rfl⟩
  rcases Rt.prod_cases hx hd tx0 td0 with ⟨hr, hok⟩ | ⟨hr, hno⟩
  · rw [hr]; exact prod_ok an ad bn bd x dd tx td w p1 p2 p3.1 p3.2 r1 r2 r3.1 r3.2 hx hd tx0 td0 hok
  · rw [hr]; exact prod_lim an ad bn bd x dd tx td w p1 p2 p3.1 p3.2 r1 r2 r3.1 r3.2 hx hd tx0 td0 hno
end Go.Proofs.YtcannkndedlooaaDoor
