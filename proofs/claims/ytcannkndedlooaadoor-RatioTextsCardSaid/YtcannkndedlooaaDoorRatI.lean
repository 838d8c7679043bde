/- What Parse of package ratio returns. -/
import Derived.Test.YtcannkndedlooaaDoorRatH
import Derived.Lib.CutLaws
namespace Go.Proofs.YtcannkndedlooaaDoor
open Go.RowKit
set_option linter.unusedVariables false
set_option linter.unusedSimpArgs false

theorem ret_cut {a a' b b' : ByteArray} {f f' : Bool} (h1 : a = a') (h2 : b = b') (h3 : f = f') : Ending.returned (.tuple #[.string a, .string b, .bool f]) = .returned (.tuple #[.string a', .string b', .bool f']) := by rw [h1, h2, h3]
set_option maxRecDepth 100000 in
set_option maxHeartbeats 800000 in
theorem lcut_is {s : ByteArray} {a b : List UInt8} {f : Bool} (hc : Rt.cutS s.data.toList = (a, b, f)) (w : World) (hs : s.size ≤ 1000) :
    Calls Tryd.prog 51 #[.string s, .string ⟨#[47]⟩] w fun e w' => e = .returned (.tuple #[.string ⟨a.toArray⟩, .string ⟨b.toArray⟩, .bool f]) ∧ ∃ n, w' = w.drewN n := by
  have hi1 : Lib.indexByte s.data.toList 47 = Lib.indexB s ⟨#[47]⟩ := (Lib.index_one _ _).symm
  have HI := Lib.hid hi1
  have ec : Rt.cutS s.data.toList = Lib.cut s.data.toList (⟨#[47]⟩ : ByteArray).data.toList := rfl
  rw [ec] at hc
  clear hi1 ec
  rcases Lib.indexB_cases s ⟨#[47]⟩ with hix | ⟨i, hix, hroom⟩
  · obtain ⟨e1, e2, e3⟩ := Lib.cutB_miss s ⟨#[47]⟩ hix
    rw [hc] at e1 e2 e3
    have E := Lib.hid (And.intro e1 (And.intro e2 e3))
    have HX := Lib.hid hix
    clear hc e1 e2 e3 hix
    go_enter Tryd.func51, Tryd.ntmps51
    go_wp2_with fail
    refine (Tryd.stringslite_Index_one s 47 _).mono ?_
    rw [HI.out, HX.out]
    rintro e w' ⟨rfl, hw⟩
    subst hw
    go_wp2_with fail
    go_ret3
    exact ⟨ret_cut E.out.1.symm E.out.2.1.symm E.out.2.2.symm, 0, rfl⟩
  · obtain ⟨e1, e2, e3⟩ := Lib.cutB_hit s ⟨#[47]⟩ i hix
    rw [hc] at e1 e2 e3
    have hone : (⟨#[47]⟩ : ByteArray).size = 1 := rfl
    rw [hone] at hroom e2
    have c1 : (0 : Int) ≤ ↑i := by omega
    have c2 : (↑i : Int) ≤ ↑s.size := by omega
    have c3 : (0 : Int) ≤ ↑i + 1 := by omega
    have c4 : (↑i + 1 : Int) ≤ ↑s.size := by omega
    have E := Lib.hid (And.intro e1 (And.intro e2 e3))
    have HX := Lib.hid hix
    clear hc e1 e2 e3 hix hone
    go_enter Tryd.func51, Tryd.ntmps51
    go_wp2_with fail
    refine (Tryd.stringslite_Index_one s 47 _).mono ?_
    rw [HI.out, HX.out]
    rintro e w' ⟨rfl, hw⟩
    subst hw
    go_wp2_with fail
    go_quiet (fail)
    go_wp2_with fail
    go_ret3
    exact ⟨ret_cut E.out.1.symm E.out.2.1.symm E.out.2.2.symm, _, rfl⟩
theorem cut_is {s : ByteArray} {a b : List UInt8} {f : Bool} (hc : Rt.cutS s.data.toList = (a, b, f)) (w : World) (hs : s.size ≤ 1000) :
    Calls Tryd.prog 42 #[.string s, .string ⟨#[47]⟩] w fun e w' => e = .returned (.tuple #[.string ⟨a.toArray⟩, .string ⟨b.toArray⟩, .bool f]) ∧ ∃ n, w' = w.drewN n := by
  have HC := Lib.hid hc
  clear hc
  go_enter Tryd.func42, Tryd.ntmps42
  go_wp2_with fail
  refine (lcut_is HC.out _ hs).mono ?_
  rintro e w' ⟨rfl, n, rfl⟩
  go_wp2_with fail
  go_ret3
  exact ⟨rfl, n, rfl⟩

theorem atoi_ok {s : ByteArray} {v : Int} (h : Lib.atoiAll s.data.toList = .ok v) (w : World) (hs : s.size ≤ 1000) :
    Calls Tryd.prog 43 #[.string s] w fun e w' => e = .returned (.tuple #[.int .i64 v, .nilIface]) ∧ Below w.heap.size w w' := by
  refine (Tryd.strconv_Atoi_ok s (by omega) v h w).mono ?_
  rintro e w' ⟨rfl, hw⟩
  refine ⟨rfl, ?_⟩
  rcases hw with rfl | ⟨t, rfl⟩
  · exact Below.refl _ _
  · exact Lib.bytesWorld_below _ _ _
/-- A number and an error that is not nil. -/
def BadNum (w : World) (e : Ending) (w' : World) : Prop := ∃ (v : Int) (a : Addr), I64 v ∧ e = .returned (.tuple #[.int .i64 v, .iface 68 (.pointer (some a))]) ∧ Below w.heap.size w w'
theorem atoi_bad {s : ByteArray} (h : ∀ v, Lib.atoiAll s.data.toList ≠ .ok v) (w : World) (hT : RatT w) (hs : s.size ≤ 1000) :
    Calls Tryd.prog 43 #[.string s] w (BadNum w) := by
  cases hc : Lib.atoiAll s.data.toList with
  | ok v => exact absurd hc (h v)
  | range =>
    obtain ⟨tp, p, hv⟩ := hT.2.2
    refine (Tryd.strconv_Atoi_range_var s (by omega) hc tp p w hv).mono ?_
    rintro e w' ⟨N, rfl, _, _, hb⟩
    exact ⟨_, _, Lib.atoiSat_bounds _, rfl, hb⟩
  | _ =>
    obtain ⟨tp, p, hv⟩ := hT.2.1
    refine Calls.mono (Any.strconv_Atoi_syntax_var Tryd.laysC172 s (by omega) hc tp p w hv) ?_
    rintro e w' ⟨N, rfl, _, _, hb⟩
    exact ⟨0, _, ⟨by omega, by omega⟩, rfl, hb⟩
theorem text_is {n d : Int} {s : ByteArray} (hs : (⟨(Rt.txtS n d).toArray⟩ : ByteArray) = s) (w : World) (hT : RatT w) (hn : I64 n) (hd : I64 d) :
    Calls Tryd.prog 21 #[.agg #[.int .i64 n, .int .i64 d]] w fun e w' => e = .returned (.string s) ∧ Below w.heap.size w w' := hs ▸ text_any n d w hT hn hd
theorem rtext_is {n d : Int} {s : ByteArray} (hs : (⟨(Rt.txtS n d).toArray⟩ : ByteArray) = s) (w : World) (hT : RatT w) (hn : I64 n) (hd : I64 d) :
    Calls Tryd.prog 22 #[.agg #[.int .i64 n, .int .i64 d]] w fun e w' => e = .returned (.string s) ∧ Below w.heap.size w w' := hs ▸ rtext_any n d w hT hn hd

theorem list_ne {t s : ByteArray} (h : t ≠ s) : (t.toList == s.toList) = false := by
  rw [Lib.toList_data, Lib.toList_data]
  simp only [beq_eq_false_iff_ne]
  intro e
  exact h (by rw [← Lib.mk_data t, ← Lib.mk_data s, e])

set_option maxRecDepth 100000 in
set_option maxHeartbeats 1600000 in
theorem pa_yes (n d : Int) (s a b t : ByteArray) (w : World) (hT : RatT w) (hz : s.size ≤ 1000)
    (ha1 : a.size ≤ 1000) (hb1 : b.size ≤ 1000) (hc : Rt.cutS s.data.toList = (a.data.toList, b.data.toList, true)) (ha : Lib.atoiAll a.data.toList = .ok n) (hb : Lib.atoiAll b.data.toList = .ok d) (hn : I64 n) (hd : I64 d) (ht : (⟨(Rt.txtS n d).toArray⟩ : ByteArray) = s) :
    Calls Tryd.prog 26 #[.string s] w fun e w' => e = .returned (.tuple #[.agg #[.int .i64 n, .int .i64 d], .int .i64 0]) ∧ Below w.heap.size w w' := by
  have HC := Lib.hid hc
  have HA := Lib.hid ha
  have HB := Lib.hid hb
  have HT := Lib.hid ht
  have HN := Lib.hid hn
  have HD := Lib.hid hd
  have Z0 := RatAt.new w 0 0 23
  have T0 := hT.alloc (.cells #[.int .i64 0, .int .i64 0] 23)
  have L0 : Below w.heap.size w (w.alloc (.cells #[.int .i64 0, .int .i64 0] 23)) := (Below.refl _ _).alloc (Nat.le_refl _) _
  clear hc ha hb ht hn hd
  go_enter Tryd.func26, Tryd.ntmps26
  go_wp2_with fail
  refine (cut_is HC.out _ hz).mono ?_
  rintro e w' ⟨rfl, k, rfl⟩
  go_wp2_with fail
  refine (atoi_ok (s := a) HA.out _ ha1).mono ?_
  rintro e w1 ⟨rfl, b1⟩
  have Z1 := (Z0.drewN k).below b1
  have T1 := (T0.drewN k).below b1
  have L1 := bstep (below_drewN L0 k) b1
  go_wp2_with fail
  refine (atoi_ok (s := b) HB.out _ hb1).mono ?_
  rintro e w2 ⟨rfl, b2⟩
  have Z2 := (Z1.below b2).alloc (.cells #[.int .i64 n, .int .i64 d] 23)
  have T2 := (T1.below b2).alloc (.cells #[.int .i64 n, .int .i64 d] 23)
  have R2 := RatAt.new w2 n d 23
  have L2 := (bstep L1 b2).alloc (bstep L1 b2).size (.cells #[.int .i64 n, .int .i64 d] 23)
  have hz2 : w.heap.size < w2.heap.size := (Z1.below b2).lt
  go_wp2_with fail
  refine (text_is HT.out _ T2 HN.out HD.out).mono ?_
  rintro e w3 ⟨rfl, b3⟩
  have Z3 := Z2.below b3
  have R3 := R2.below b3
  have L3 := bstep L2 b3
  have ⟨z0, z1, k0, k1⟩ := Z3
  have ⟨r0, r1, _, _⟩ := R3
  go_wp2_with fail
  exact bodyPost_ret (v := .tuple #[.agg #[.int .i64 n, .int .i64 d], .int .i64 0]) (by simp [results, Tryd.results26, go_sem, z0, z1]) rfl ⟨rfl, (L3.setCell (by simp <;> omega) _).setCell (by simp <;> omega) _⟩

set_option maxRecDepth 100000 in
set_option maxHeartbeats 1600000 in
theorem pa_ne (n d : Int) (s a b t : ByteArray) (w : World) (hT : RatT w) (hz : s.size ≤ 1000)
    (ha1 : a.size ≤ 1000) (hb1 : b.size ≤ 1000) (hc : Rt.cutS s.data.toList = (a.data.toList, b.data.toList, true)) (ha : Lib.atoiAll a.data.toList = .ok n) (hb : Lib.atoiAll b.data.toList = .ok d) (hn : I64 n) (hd : I64 d) (ht : (⟨(Rt.txtS n d).toArray⟩ : ByteArray) = t) (hne : t ≠ s) :
    Calls Tryd.prog 26 #[.string s] w fun e w' => e = .returned (.tuple #[.agg #[.int .i64 0, .int .i64 0], .int .i64 2]) ∧ Below w.heap.size w w' := by
  have HC := Lib.hid hc
  have HA := Lib.hid ha
  have HB := Lib.hid hb
  have HT := Lib.hid ht
  have HN := Lib.hid hn
  have HD := Lib.hid hd
  have e1 := list_ne hne
  have Z0 := RatAt.new w 0 0 23
  have T0 := hT.alloc (.cells #[.int .i64 0, .int .i64 0] 23)
  have L0 : Below w.heap.size w (w.alloc (.cells #[.int .i64 0, .int .i64 0] 23)) := (Below.refl _ _).alloc (Nat.le_refl _) _
  clear hc ha hb ht hn hd hne
  go_enter Tryd.func26, Tryd.ntmps26
  go_wp2_with fail
  refine (cut_is HC.out _ hz).mono ?_
  rintro e w' ⟨rfl, k, rfl⟩
  go_wp2_with fail
  refine (atoi_ok (s := a) HA.out _ ha1).mono ?_
  rintro e w1 ⟨rfl, b1⟩
  have Z1 := (Z0.drewN k).below b1
  have T1 := (T0.drewN k).below b1
  have L1 := bstep (below_drewN L0 k) b1
  go_wp2_with fail
  refine (atoi_ok (s := b) HB.out _ hb1).mono ?_
  rintro e w2 ⟨rfl, b2⟩
  have Z2 := (Z1.below b2).alloc (.cells #[.int .i64 n, .int .i64 d] 23)
  have T2 := (T1.below b2).alloc (.cells #[.int .i64 n, .int .i64 d] 23)
  have R2 := RatAt.new w2 n d 23
  have L2 := (bstep L1 b2).alloc (bstep L1 b2).size (.cells #[.int .i64 n, .int .i64 d] 23)
  have hz2 : w.heap.size < w2.heap.size := (Z1.below b2).lt
  go_wp2_with fail
  refine (text_is HT.out _ T2 HN.out HD.out).mono ?_
  rintro e w3 ⟨rfl, b3⟩
  have Z3 := Z2.below b3
  have R3 := R2.below b3
  have L3 := bstep L2 b3
  have ⟨z0, z1, k0, k1⟩ := Z3
  have ⟨r0, r1, _, _⟩ := R3
  go_wp2_with fail
  exact bodyPost_ret (v := .tuple #[.agg #[.int .i64 0, .int .i64 0], .int .i64 2]) (by simp [results, Tryd.results26, go_sem, z0, z1]) rfl ⟨rfl, (L3.setCell (by simp <;> omega) _).setCell (by simp <;> omega) _⟩

set_option maxRecDepth 100000 in
set_option maxHeartbeats 1600000 in
theorem pa_ab (d : Int) (s a b t : ByteArray) (w : World) (hT : RatT w) (hz : s.size ≤ 1000)
    (ha1 : a.size ≤ 1000) (hb1 : b.size ≤ 1000) (hc : Rt.cutS s.data.toList = (a.data.toList, b.data.toList, true)) (ha : ∀ v, Lib.atoiAll a.data.toList ≠ .ok v) (hb : Lib.atoiAll b.data.toList = .ok d) :
    Calls Tryd.prog 26 #[.string s] w fun e w' => e = .returned (.tuple #[.agg #[.int .i64 0, .int .i64 0], .int .i64 2]) ∧ Below w.heap.size w w' := by
  have HC := Lib.hid hc
  have HA := Lib.hid ha
  have HB := Lib.hid hb
  have Z0 := RatAt.new w 0 0 23
  have T0 := hT.alloc (.cells #[.int .i64 0, .int .i64 0] 23)
  have L0 : Below w.heap.size w (w.alloc (.cells #[.int .i64 0, .int .i64 0] 23)) := (Below.refl _ _).alloc (Nat.le_refl _) _
  clear hc ha hb
  go_enter Tryd.func26, Tryd.ntmps26
  go_wp2_with fail
  refine (cut_is HC.out _ hz).mono ?_
  rintro e w' ⟨rfl, k, rfl⟩
  go_wp2_with fail
  refine (atoi_bad (s := a) HA.out _ (T0.drewN k) ha1).mono ?_
  rintro e w1 ⟨va, pa, ia, rfl, b1⟩
  have Z1 := (Z0.drewN k).below b1
  have T1 := (T0.drewN k).below b1
  have L1 := bstep (below_drewN L0 k) b1
  go_wp2_with fail
  refine (atoi_ok (s := b) HB.out _ hb1).mono ?_
  rintro e w2 ⟨rfl, b2⟩
  have Z2 := (Z1.below b2).alloc (.cells #[.int .i64 va, .int .i64 d] 23)
  have T2 := (T1.below b2).alloc (.cells #[.int .i64 va, .int .i64 d] 23)
  have R2 := RatAt.new w2 va d 23
  have L2 := (bstep L1 b2).alloc (bstep L1 b2).size (.cells #[.int .i64 va, .int .i64 d] 23)
  have hz2 : w.heap.size < w2.heap.size := (Z1.below b2).lt
  have ⟨z0, z1, k0, k1⟩ := Z1.below b2
  go_wp2_with fail
  have L3 := ((bstep L1 b2).setCell (p := ⟨w.heap.size, 0, none⟩) (Nat.le_refl _) (.int .i64 0)).setCell (p := ⟨w.heap.size, 1, none⟩) (Nat.le_refl _) (.int .i64 0)
  have hz3 := Nat.ne_of_lt hz2
  exact bodyPost_ret (v := .tuple #[.agg #[.int .i64 0, .int .i64 0], .int .i64 2]) (by simp [results, Tryd.results26, go_sem, z0, z1, hz2, hz3]) rfl ⟨rfl, L3.alloc L3.size _⟩

set_option maxRecDepth 100000 in
set_option maxHeartbeats 1600000 in
theorem pa_bb (n : Int) (s a b t : ByteArray) (w : World) (hT : RatT w) (hz : s.size ≤ 1000)
    (ha1 : a.size ≤ 1000) (hb1 : b.size ≤ 1000) (hc : Rt.cutS s.data.toList = (a.data.toList, b.data.toList, true)) (ha : Lib.atoiAll a.data.toList = .ok n) (hb : ∀ v, Lib.atoiAll b.data.toList ≠ .ok v) :
    Calls Tryd.prog 26 #[.string s] w fun e w' => e = .returned (.tuple #[.agg #[.int .i64 0, .int .i64 0], .int .i64 2]) ∧ Below w.heap.size w w' := by
  have HC := Lib.hid hc
  have HA := Lib.hid ha
  have HB := Lib.hid hb
  have Z0 := RatAt.new w 0 0 23
  have T0 := hT.alloc (.cells #[.int .i64 0, .int .i64 0] 23)
  have L0 : Below w.heap.size w (w.alloc (.cells #[.int .i64 0, .int .i64 0] 23)) := (Below.refl _ _).alloc (Nat.le_refl _) _
  clear hc ha hb
  go_enter Tryd.func26, Tryd.ntmps26
  go_wp2_with fail
  refine (cut_is HC.out _ hz).mono ?_
  rintro e w' ⟨rfl, k, rfl⟩
  go_wp2_with fail
  refine (atoi_ok (s := a) HA.out _ ha1).mono ?_
  rintro e w1 ⟨rfl, b1⟩
  have Z1 := (Z0.drewN k).below b1
  have T1 := (T0.drewN k).below b1
  have L1 := bstep (below_drewN L0 k) b1
  go_wp2_with fail
  refine (atoi_bad (s := b) HB.out _ T1 hb1).mono ?_
  rintro e w2 ⟨vb, pb, ib, rfl, b2⟩
  have Z2 := (Z1.below b2).alloc (.cells #[.int .i64 n, .int .i64 vb] 23)
  have T2 := (T1.below b2).alloc (.cells #[.int .i64 n, .int .i64 vb] 23)
  have R2 := RatAt.new w2 n vb 23
  have L2 := (bstep L1 b2).alloc (bstep L1 b2).size (.cells #[.int .i64 n, .int .i64 vb] 23)
  have hz2 : w.heap.size < w2.heap.size := (Z1.below b2).lt
  have ⟨z0, z1, k0, k1⟩ := Z1.below b2
  go_wp2_with fail
  have L3 := ((bstep L1 b2).setCell (p := ⟨w.heap.size, 0, none⟩) (Nat.le_refl _) (.int .i64 0)).setCell (p := ⟨w.heap.size, 1, none⟩) (Nat.le_refl _) (.int .i64 0)
  have hz3 := Nat.ne_of_lt hz2
  exact bodyPost_ret (v := .tuple #[.agg #[.int .i64 0, .int .i64 0], .int .i64 2]) (by simp [results, Tryd.results26, go_sem, z0, z1, hz2, hz3]) rfl ⟨rfl, L3.alloc L3.size _⟩

set_option maxRecDepth 100000 in
set_option maxHeartbeats 1600000 in
theorem pa_abb (s a b t : ByteArray) (w : World) (hT : RatT w) (hz : s.size ≤ 1000)
    (ha1 : a.size ≤ 1000) (hb1 : b.size ≤ 1000) (hc : Rt.cutS s.data.toList = (a.data.toList, b.data.toList, true)) (ha : ∀ v, Lib.atoiAll a.data.toList ≠ .ok v) (hb : ∀ v, Lib.atoiAll b.data.toList ≠ .ok v) :
    Calls Tryd.prog 26 #[.string s] w fun e w' => e = .returned (.tuple #[.agg #[.int .i64 0, .int .i64 0], .int .i64 2]) ∧ Below w.heap.size w w' := by
  have HC := Lib.hid hc
  have HA := Lib.hid ha
  have HB := Lib.hid hb
  have Z0 := RatAt.new w 0 0 23
  have T0 := hT.alloc (.cells #[.int .i64 0, .int .i64 0] 23)
  have L0 : Below w.heap.size w (w.alloc (.cells #[.int .i64 0, .int .i64 0] 23)) := (Below.refl _ _).alloc (Nat.le_refl _) _
  clear hc ha hb
  go_enter Tryd.func26, Tryd.ntmps26
  go_wp2_with fail
  refine (cut_is HC.out _ hz).mono ?_
  rintro e w' ⟨rfl, k, rfl⟩
  go_wp2_with fail
  refine (atoi_bad (s := a) HA.out _ (T0.drewN k) ha1).mono ?_
  rintro e w1 ⟨va, pa, ia, rfl, b1⟩
  have Z1 := (Z0.drewN k).below b1
  have T1 := (T0.drewN k).below b1
  have L1 := bstep (below_drewN L0 k) b1
  go_wp2_with fail
  refine (atoi_bad (s := b) HB.out _ T1 hb1).mono ?_
  rintro e w2 ⟨vb, pb, ib, rfl, b2⟩
  have Z2 := (Z1.below b2).alloc (.cells #[.int .i64 va, .int .i64 vb] 23)
  have T2 := (T1.below b2).alloc (.cells #[.int .i64 va, .int .i64 vb] 23)
  have R2 := RatAt.new w2 va vb 23
  have L2 := (bstep L1 b2).alloc (bstep L1 b2).size (.cells #[.int .i64 va, .int .i64 vb] 23)
  have hz2 : w.heap.size < w2.heap.size := (Z1.below b2).lt
  have ⟨z0, z1, k0, k1⟩ := Z1.below b2
  go_wp2_with fail
  have L3 := ((bstep L1 b2).setCell (p := ⟨w.heap.size, 0, none⟩) (Nat.le_refl _) (.int .i64 0)).setCell (p := ⟨w.heap.size, 1, none⟩) (Nat.le_refl _) (.int .i64 0)
  have hz3 := Nat.ne_of_lt hz2
  exact bodyPost_ret (v := .tuple #[.agg #[.int .i64 0, .int .i64 0], .int .i64 2]) (by simp [results, Tryd.results26, go_sem, z0, z1, hz2, hz3]) rfl ⟨rfl, L3.alloc L3.size _⟩

set_option maxRecDepth 100000 in
set_option maxHeartbeats 1600000 in
theorem ps_yes (n : Int) (s t : ByteArray) (w : World) (hT : RatT w) (hz : s.size ≤ 1000)
    (hc : Rt.cutS s.data.toList = (s.data.toList, [], false)) (ha : Lib.atoiAll s.data.toList = .ok n) (hn : I64 n) (ht : (⟨(Rt.txtS n 1).toArray⟩ : ByteArray) = s) :
    Calls Tryd.prog 26 #[.string s] w fun e w' => e = .returned (.tuple #[.agg #[.int .i64 n, .int .i64 1], .int .i64 0]) ∧ Below w.heap.size w w' := by
  have HC := Lib.hid hc
  have HA := Lib.hid ha
  have HT := Lib.hid ht
  have HN := Lib.hid hn
  have Z0 := RatAt.new w 0 0 23
  have T0 := hT.alloc (.cells #[.int .i64 0, .int .i64 0] 23)
  have L0 : Below w.heap.size w (w.alloc (.cells #[.int .i64 0, .int .i64 0] 23)) := (Below.refl _ _).alloc (Nat.le_refl _) _
  clear hc ha ht hn
  go_enter Tryd.func26, Tryd.ntmps26
  go_wp2_with fail
  refine (cut_is HC.out _ hz).mono ?_
  rintro e w' ⟨rfl, k, rfl⟩
  go_wp2_with fail
  refine (atoi_ok (s := s) HA.out _ hz).mono ?_
  rintro e w1 ⟨rfl, b1⟩
  have Z1 := (Z0.drewN k).below b1
  have T1 := (T0.drewN k).below b1
  have L1 := bstep (below_drewN L0 k) b1
  go_wp2_with fail
  refine (atoi_ok (s := ⟨#[49]⟩) (v := 1) (by decide) _ (by decide)).mono ?_
  rintro e w2 ⟨rfl, b2⟩
  have Z2 := (Z1.below b2).alloc (.cells #[.int .i64 n, .int .i64 1] 23)
  have T2 := (T1.below b2).alloc (.cells #[.int .i64 n, .int .i64 1] 23)
  have R2 := RatAt.new w2 n 1 23
  have L2 := (bstep L1 b2).alloc (bstep L1 b2).size (.cells #[.int .i64 n, .int .i64 1] 23)
  have hz2 : w.heap.size < w2.heap.size := (Z1.below b2).lt
  go_wp2_with fail
  refine (text_is HT.out _ T2 HN.out ⟨by omega, by omega⟩).mono ?_
  rintro e w3 ⟨rfl, b3⟩
  have Z3 := Z2.below b3
  have R3 := R2.below b3
  have L3 := bstep L2 b3
  have ⟨z0, z1, k0, k1⟩ := Z3
  have ⟨r0, r1, _, _⟩ := R3
  go_wp2_with fail
  exact bodyPost_ret (v := .tuple #[.agg #[.int .i64 n, .int .i64 1], .int .i64 0]) (by simp [results, Tryd.results26, go_sem, z0, z1]) rfl ⟨rfl, (L3.setCell (by simp <;> omega) _).setCell (by simp <;> omega) _⟩

set_option maxRecDepth 100000 in
set_option maxHeartbeats 1600000 in
theorem ps_ne (n : Int) (s t : ByteArray) (w : World) (hT : RatT w) (hz : s.size ≤ 1000)
    (hc : Rt.cutS s.data.toList = (s.data.toList, [], false)) (ha : Lib.atoiAll s.data.toList = .ok n) (hn : I64 n) (ht : (⟨(Rt.txtS n 1).toArray⟩ : ByteArray) = t) (hne : t ≠ s) :
    Calls Tryd.prog 26 #[.string s] w fun e w' => e = .returned (.tuple #[.agg #[.int .i64 0, .int .i64 0], .int .i64 2]) ∧ Below w.heap.size w w' := by
  have HC := Lib.hid hc
  have HA := Lib.hid ha
  have HT := Lib.hid ht
  have HN := Lib.hid hn
  have e1 := list_ne hne
  have Z0 := RatAt.new w 0 0 23
  have T0 := hT.alloc (.cells #[.int .i64 0, .int .i64 0] 23)
  have L0 : Below w.heap.size w (w.alloc (.cells #[.int .i64 0, .int .i64 0] 23)) := (Below.refl _ _).alloc (Nat.le_refl _) _
  clear hc ha ht hn hne
  go_enter Tryd.func26, Tryd.ntmps26
  go_wp2_with fail
  refine (cut_is HC.out _ hz).mono ?_
  rintro e w' ⟨rfl, k, rfl⟩
  go_wp2_with fail
  refine (atoi_ok (s := s) HA.out _ hz).mono ?_
  rintro e w1 ⟨rfl, b1⟩
  have Z1 := (Z0.drewN k).below b1
  have T1 := (T0.drewN k).below b1
  have L1 := bstep (below_drewN L0 k) b1
  go_wp2_with fail
  refine (atoi_ok (s := ⟨#[49]⟩) (v := 1) (by decide) _ (by decide)).mono ?_
  rintro e w2 ⟨rfl, b2⟩
  have Z2 := (Z1.below b2).alloc (.cells #[.int .i64 n, .int .i64 1] 23)
  have T2 := (T1.below b2).alloc (.cells #[.int .i64 n, .int .i64 1] 23)
  have R2 := RatAt.new w2 n 1 23
  have L2 := (bstep L1 b2).alloc (bstep L1 b2).size (.cells #[.int .i64 n, .int .i64 1] 23)
  have hz2 : w.heap.size < w2.heap.size := (Z1.below b2).lt
  go_wp2_with fail
  refine (text_is HT.out _ T2 HN.out ⟨by omega, by omega⟩).mono ?_
  rintro e w3 ⟨rfl, b3⟩
  have Z3 := Z2.below b3
  have R3 := R2.below b3
  have L3 := bstep L2 b3
  have ⟨z0, z1, k0, k1⟩ := Z3
  have ⟨r0, r1, _, _⟩ := R3
  go_wp2_with fail
  exact bodyPost_ret (v := .tuple #[.agg #[.int .i64 0, .int .i64 0], .int .i64 2]) (by simp [results, Tryd.results26, go_sem, z0, z1]) rfl ⟨rfl, (L3.setCell (by simp <;> omega) _).setCell (by simp <;> omega) _⟩

set_option maxRecDepth 100000 in
set_option maxHeartbeats 1600000 in
theorem ps_ab (s t : ByteArray) (w : World) (hT : RatT w) (hz : s.size ≤ 1000)
    (hc : Rt.cutS s.data.toList = (s.data.toList, [], false)) (ha : ∀ v, Lib.atoiAll s.data.toList ≠ .ok v) :
    Calls Tryd.prog 26 #[.string s] w fun e w' => e = .returned (.tuple #[.agg #[.int .i64 0, .int .i64 0], .int .i64 2]) ∧ Below w.heap.size w w' := by
  have HC := Lib.hid hc
  have HA := Lib.hid ha
  have Z0 := RatAt.new w 0 0 23
  have T0 := hT.alloc (.cells #[.int .i64 0, .int .i64 0] 23)
  have L0 : Below w.heap.size w (w.alloc (.cells #[.int .i64 0, .int .i64 0] 23)) := (Below.refl _ _).alloc (Nat.le_refl _) _
  clear hc ha
  go_enter Tryd.func26, Tryd.ntmps26
  go_wp2_with fail
  refine (cut_is HC.out _ hz).mono ?_
  rintro e w' ⟨rfl, k, rfl⟩
  go_wp2_with fail
  refine (atoi_bad (s := s) HA.out _ (T0.drewN k) hz).mono ?_
  rintro e w1 ⟨va, pa, ia, rfl, b1⟩
  have Z1 := (Z0.drewN k).below b1
  have T1 := (T0.drewN k).below b1
  have L1 := bstep (below_drewN L0 k) b1
  go_wp2_with fail
  refine (atoi_ok (s := ⟨#[49]⟩) (v := 1) (by decide) _ (by decide)).mono ?_
  rintro e w2 ⟨rfl, b2⟩
  have Z2 := (Z1.below b2).alloc (.cells #[.int .i64 va, .int .i64 1] 23)
  have T2 := (T1.below b2).alloc (.cells #[.int .i64 va, .int .i64 1] 23)
  have R2 := RatAt.new w2 va 1 23
  have L2 := (bstep L1 b2).alloc (bstep L1 b2).size (.cells #[.int .i64 va, .int .i64 1] 23)
  have hz2 : w.heap.size < w2.heap.size := (Z1.below b2).lt
  have ⟨z0, z1, k0, k1⟩ := Z1.below b2
  go_wp2_with fail
  have L3 := ((bstep L1 b2).setCell (p := ⟨w.heap.size, 0, none⟩) (Nat.le_refl _) (.int .i64 0)).setCell (p := ⟨w.heap.size, 1, none⟩) (Nat.le_refl _) (.int .i64 0)
  have hz3 := Nat.ne_of_lt hz2
  exact bodyPost_ret (v := .tuple #[.agg #[.int .i64 0, .int .i64 0], .int .i64 2]) (by simp [results, Tryd.results26, go_sem, z0, z1, hz2, hz3]) rfl ⟨rfl, L3.alloc L3.size _⟩

theorem ba (l : List UInt8) : (⟨l.toArray⟩ : ByteArray).data.toList = l := rfl
theorem ba_size (l : List UInt8) : (⟨l.toArray⟩ : ByteArray).size = l.length := by simp [ByteArray.size]
theorem ba_eq (s : ByteArray) : (⟨s.data.toList.toArray⟩ : ByteArray) = s := Lib.mk_data s
theorem cutS_le {l a b : List UInt8} {f : Bool} (h : Rt.cutS l = (a, b, f)) : a.length ≤ l.length ∧ b.length ≤ l.length ∧ (f = false → a = l ∧ b = []) := by
  unfold Rt.cutS Lib.cut at h
  split at h
  · simp only [Prod.mk.injEq] at h
    obtain ⟨rfl, rfl, rfl⟩ := h
    refine ⟨by simp <;> omega, by simp, fun h => by cases h⟩
  · simp only [Prod.mk.injEq] at h
    obtain ⟨rfl, rfl, rfl⟩ := h
    exact ⟨Nat.le_refl _, Nat.zero_le _, fun _ => ⟨rfl, rfl⟩⟩
/-- A text of a valid ratio is read as this ratio. -/
theorem parse_yes {n d : Int} (s : ByteArray) (w : World) (hT : RatT w) (hz : s.size ≤ 1000) (h : Rt.IsTxt s.data.toList n d) :
    Calls Tryd.prog 26 #[.string s] w (Ret3 (n, d, 0) w) := by
  obtain ⟨hv, hl⟩ := h
  have hc := Rt.cut_txt (n := n) (d := d)
  rw [hl] at hc
  have hs : (⟨(Rt.txtS n d).toArray⟩ : ByteArray) = s := by rw [Rt.txtS_yes hv, hl]
  obtain ⟨v1, v2, v3, v4, v5⟩ := hv
  have sz := itoa_size v3 v4
  have sd := itoa_size (show -4611686018427387904 ≤ d by omega) v2
  by_cases h1 : d = 1
  · subst h1
    simp only [if_true, ne_eq, not_true, decide_false] at hc
    have ha := (cutS_le hc).2.2 rfl
    refine ps_yes n s s w hT hz ?_ ?_ ⟨by omega, by omega⟩ hs
    · rw [hc, ha.1]
    · rw [← ha.1]; exact Rt.itoa_ok v3 v4
  · simp only [h1, if_false, ne_eq, not_false_eq_true, decide_true] at hc
    exact pa_yes n d s ⟨(Lib.itoa n).toArray⟩ ⟨(Lib.itoa d).toArray⟩ s w hT hz (by omega) (by omega) hc (Rt.itoa_ok v3 v4) (Rt.itoa_ok (by omega) v2) ⟨by omega, by omega⟩ ⟨by omega, by omega⟩ hs
/-- Every other text is refused. -/
theorem parse_no (s : ByteArray) (w : World) (hT : RatT w) (hz : s.size ≤ 1000) (h : ∀ n d, ¬ Rt.IsTxt s.data.toList n d) :
    Calls Tryd.prog 26 #[.string s] w (Ret3 (0, 0, 2) w) := by
  obtain ⟨a, b, f, hc⟩ : ∃ a b f, Rt.cutS s.data.toList = (a, b, f) := ⟨_, _, _, rfl⟩
  have hle := cutS_le hc
  have hsl : s.size = s.data.toList.length := Lib.size_eq s
  have sa := ba_size a
  have sb := ba_size b
  have hne : ∀ (n d : Int), s.data.toList ≠ [] → (⟨(Rt.txtS n d).toArray⟩ : ByteArray) ≠ s := fun n d hs e => by
    refine h n d (Rt.txtS_eq hs ?_)
    rw [← e]
  cases f with
  | true =>
    by_cases ha : ∃ v, Lib.atoiAll a = .ok v
    · obtain ⟨n, ha⟩ := ha
      have hs : s.data.toList ≠ [] := by
        intro e
        rw [e] at hle
        have : a = [] := List.eq_nil_of_length_eq_zero (by simpa using hle.1)
        subst this
        cases ha
      by_cases hb : ∃ v, Lib.atoiAll b = .ok v
      · obtain ⟨d, hb⟩ := hb
        exact pa_ne n d s ⟨a.toArray⟩ ⟨b.toArray⟩ _ w hT hz (by omega) (by omega) hc ha hb (Lib.atoiAll_bounds ha) (Lib.atoiAll_bounds hb) rfl (hne n d hs)
      · exact pa_bb n s ⟨a.toArray⟩ ⟨b.toArray⟩ s w hT hz (by omega) (by omega) hc ha (fun v e => hb ⟨v, e⟩)
    · by_cases hb : ∃ v, Lib.atoiAll b = .ok v
      · obtain ⟨d, hb⟩ := hb
        exact pa_ab d s ⟨a.toArray⟩ ⟨b.toArray⟩ s w hT hz (by omega) (by omega) hc (fun v e => ha ⟨v, e⟩) hb
      · exact pa_abb s ⟨a.toArray⟩ ⟨b.toArray⟩ s w hT hz (by omega) (by omega) hc (fun v e => ha ⟨v, e⟩) (fun v e => hb ⟨v, e⟩)
  | false =>
    obtain ⟨rfl, rfl⟩ := hle.2.2 rfl
    by_cases ha : ∃ v, Lib.atoiAll s.data.toList = .ok v
    · obtain ⟨n, ha⟩ := ha
      have hs : s.data.toList ≠ [] := by
        intro e
        rw [e] at ha
        cases ha
      exact ps_ne n s _ w hT hz hc ha (Lib.atoiAll_bounds ha) rfl (hne n 1 hs)
    · exact ps_ab s s w hT hz hc (fun v e => ha ⟨v, e⟩)
end Go.Proofs.YtcannkndedlooaaDoor
