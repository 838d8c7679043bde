/- What Token of package lexer returns. -/
import Derived.Test.YtphenbfhojdcpaaGreatDoorKlG05
namespace Go.Proofs.YtphenbfhojdcpaaGreatDoor
open Go.RowKit
set_option linter.unusedVariables false
set_option linter.unusedSimpArgs false
set_option maxRecDepth 100000
/-- A token, or ErrText. -/
def TokV (o : Option Lx.Tk) (w : World) (e : Ending) (w' : World) : Prop :=
  (o = none ∧ e = .returned (.tuple #[.agg #[.int .i64 0, .string ⟨#[]⟩, .int .i64 0], .int .i64 2]) ∧ Below w.heap.size w w') ∨
  (∃ (k : Int) (t : List UInt8) (n : Int), o = some (k, t, n) ∧ e = .returned (.tuple #[.agg #[.int .i64 k, .string ⟨t.toArray⟩, .int .i64 n], .int .i64 0]) ∧ Below w.heap.size w w')
theorem TokV.no {o : Option Lx.Tk} {w w' : World} (h : o = none) (hb : Below w.heap.size w w') : TokV o w (.returned (.tuple #[.agg #[.int .i64 0, .string ⟨#[]⟩, .int .i64 0], .int .i64 2])) w' := .inl ⟨h, rfl, hb⟩
theorem TokV.yes {o : Option Lx.Tk} {k n : Int} {w w' : World} (h : o = some (k, [], n)) (hb : Below w.heap.size w w') : TokV o w (.returned (.tuple #[.agg #[.int .i64 k, .string ⟨#[]⟩, .int .i64 n], .int .i64 0])) w' := .inr ⟨k, [], n, h, rfl, hb⟩
theorem lead_i {s : ByteArray} {z : Int} (h : ((Lx.lead s.data.toList : Nat) : Int) = z) (w : World) : Calls Tryz.prog 159 #[.string s] w fun e w' => e = .returned (.int .i64 z) ∧ Below w.heap.size w w' := h ▸ lead_any s w
theorem le1 (n : Nat) : n ≤ n + 1 := Nat.le_succ n
set_option maxHeartbeats 4000000 in
theorem tok_name (s : ByteArray) (w : World) (k : Int) (HK : Hid (((Lx.lead s.data.toList : Nat) : Int) = k)) (HN : Hid (Lx.nameS s.data.toList = true)) (o : Option Lx.Tk) (HO : Hid (o = some (0, s.data.toList, 0))) :
    Calls Tryz.prog 124 #[.string s] w (TokV o w) := by
  have R0 := (TokB.new w 0 ⟨#[]⟩ 0).alloc (.cells #[.int .i64 0, .string ⟨#[]⟩, .int .i64 0] 115)
  have T0 := TokB.new1 w (.cells #[.int .i64 0, .string ⟨#[]⟩, .int .i64 0] 115) 0 ⟨#[]⟩ 0
  have B0 := (Below.refl _ w).alloc (Nat.le_refl _) (.cells #[.int .i64 0, .string ⟨#[]⟩, .int .i64 0] 115)
  have B0 := B0.alloc B0.size (.cells #[.int .i64 0, .string ⟨#[]⟩, .int .i64 0] 115)
  have hne : ¬ w.heap.size + 1 = w.heap.size := by omega
  have hne2 : ¬ w.heap.size = w.heap.size + 1 := by omega
  go_enter Tryz.func124, Tryz.ntmps124
  go_wp2_with fail
  refine (lead_i HK.out _).mono ?_
  rintro e w1 ⟨rfl, b1⟩
  have R1 := R0.after b1
  have T1 := T0.after b1
  have B1 := bstep B0 b1
  go_wp2_with fail
  refine (name_is HN.out _).mono ?_
  rintro e w2 ⟨rfl, b2⟩
  have R2 := R1.after b2
  have T2 := T1.after b2
  have B2 := bstep B1 b2
  clear R0 T0 B0 b1 R1 T1 B1 b2
  have ⟨r0, r1, r2, f0, f1, f2⟩ := R2.cells
  have ⟨t0, t1, t2, g0, g1, g2⟩ := T2.cells
  go_wp2_with fail
  exact bodyPost_ret (v := .tuple #[.agg #[.int .i64 0, .string s, .int .i64 0], .int .i64 0]) (by simp [results, Tryz.results124, go_sem, r0, r1, r2, t0, t1, t2, hne, hne2]) rfl (.inr ⟨0, s.data.toList, 0, HO.out, by rw [Lib.mk_data], (below_set (below_set (below_set (below_set (below_set B2 (le1 _) _) (le1 _) _) (Nat.le_refl _) _) (Nat.le_refl _) _) (Nat.le_refl _) _)⟩)
set_option maxHeartbeats 4000000 in
theorem tok_none (s : ByteArray) (w : World) (k : Int) (HK : Hid (((Lx.lead s.data.toList : Nat) : Int) = k)) (HN : Hid (Lx.nameS s.data.toList = false)) (o : Option Lx.Tk) (HO : Hid (o = none))
    (h1 : (k == (s.size : Int)) = false) (h2 : (k == 2) = false) (h3 : (k == 4) = false) (h4 : (k == 0) = false) :
    Calls Tryz.prog 124 #[.string s] w (TokV o w) := by
  have R0 := (TokB.new w 0 ⟨#[]⟩ 0).alloc (.cells #[.int .i64 0, .string ⟨#[]⟩, .int .i64 0] 115)
  have T0 := TokB.new1 w (.cells #[.int .i64 0, .string ⟨#[]⟩, .int .i64 0] 115) 0 ⟨#[]⟩ 0
  have B0 := (Below.refl _ w).alloc (Nat.le_refl _) (.cells #[.int .i64 0, .string ⟨#[]⟩, .int .i64 0] 115)
  have B0 := B0.alloc B0.size (.cells #[.int .i64 0, .string ⟨#[]⟩, .int .i64 0] 115)
  have hne : ¬ w.heap.size + 1 = w.heap.size := by omega
  have hne2 : ¬ w.heap.size = w.heap.size + 1 := by omega
  go_enter Tryz.func124, Tryz.ntmps124
  go_wp2_with fail
  refine (lead_i HK.out _).mono ?_
  rintro e w1 ⟨rfl, b1⟩
  have R1 := R0.after b1
  have T1 := T0.after b1
  have B1 := bstep B0 b1
  go_wp2_with fail
  refine (name_is HN.out _).mono ?_
  rintro e w2 ⟨rfl, b2⟩
  have R2 := R1.after b2
  have T2 := T1.after b2
  have B2 := bstep B1 b2
  clear R0 T0 B0 b1 R1 T1 B1 b2
  have ⟨r0, r1, r2, f0, f1, f2⟩ := R2.cells
  have ⟨t0, t1, t2, g0, g1, g2⟩ := T2.cells
  go_wp2_with fail
  exact bodyPost_ret (v := .tuple #[.agg #[.int .i64 0, .string ⟨#[]⟩, .int .i64 0], .int .i64 2]) (by simp [results, Tryz.results124, go_sem, r0, r1, r2, t0, t1, t2, hne, hne2]) rfl (TokV.no HO.out (below_set (below_set (below_set B2 (Nat.le_refl _) _) (Nat.le_refl _) _) (Nat.le_refl _) _))
set_option maxHeartbeats 4000000 in
theorem tok_number_ (s : ByteArray) (w : World) (hT : LexT w) (hs : s.size ≤ 3000000000) (HK : Hid (((Lx.lead s.data.toList : Nat) : Int) = (s.size : Int))) (HN : Hid (Lx.nameS s.data.toList = false))  (HD : Hid (Lx.alldig s.data.toList = true)) (p : Option Int) (HP : Hid (Lx.numS s.data.toList = p)) (o : Option Lx.Tk) (HO : Hid (o = p.map fun n => (1, [], n))) :
    Calls Tryz.prog 124 #[.string s] w (TokV o w) := by
  have HT := Lib.hid hT
  clear hT
  have R0 := (TokB.new w 0 ⟨#[]⟩ 0).alloc (.cells #[.int .i64 0, .string ⟨#[]⟩, .int .i64 0] 115)
  have T0 := TokB.new1 w (.cells #[.int .i64 0, .string ⟨#[]⟩, .int .i64 0] 115) 0 ⟨#[]⟩ 0
  have B0 := (Below.refl _ w).alloc (Nat.le_refl _) (.cells #[.int .i64 0, .string ⟨#[]⟩, .int .i64 0] 115)
  have B0 := B0.alloc B0.size (.cells #[.int .i64 0, .string ⟨#[]⟩, .int .i64 0] 115)
  have hne : ¬ w.heap.size + 1 = w.heap.size := by omega
  have hne2 : ¬ w.heap.size = w.heap.size + 1 := by omega
  go_enter Tryz.func124, Tryz.ntmps124
  go_wp2_with fail
  refine (lead_i HK.out _).mono ?_
  rintro e w1 ⟨rfl, b1⟩
  have R1 := R0.after b1
  have T1 := T0.after b1
  have B1 := bstep B0 b1
  go_wp2_with fail
  refine (name_is HN.out _).mono ?_
  rintro e w2 ⟨rfl, b2⟩
  have R2 := R1.after b2
  have T2 := T1.after b2
  have B2 := bstep B1 b2
  clear R0 T0 B0 b1 R1 T1 B1 b2
  have ⟨r0, r1, r2, f0, f1, f2⟩ := R2.cells
  have ⟨t0, t1, t2, g0, g1, g2⟩ := T2.cells
  have B3 := below_set (i := 0) B2 (le1 _) (.int .i64 1)
  have T3 := Lib.hid (HT.out.below B3)
  have R3 := R2.other (i := 0) (g := w.heap.size + 1) hne (.int .i64 1)
  have K3 := T2.kind 1
  go_wp2_with fail
  refine (number_is HP.out _ T3.out hs HD.out).mono ?_
  intro e w4 hw4
  obtain ⟨v, HV, v1, v2, rfl, b4⟩ := num2_open hw4
  clear hw4
  have R4 := R3.after b4
  have K4 := K3.after b4
  have B4 := bstep B3 b4
  clear R2 T2 B2 B3 T3 R3 K3 b4 r0 r1 r2 f0 f1 f2 t0 t1 t2 g0 g1 g2
  have ⟨r0, r1, r2, f0, f1, f2⟩ := R4.cells
  have ⟨t0, t1, t2, g0, g1, g2⟩ := K4.cells
  cases p with
  | none =>
    have HO : Hid (o = none) := Lib.hid HO.out
    simp only [Option.isSome_none]
    go_wp2_with fail
    exact bodyPost_ret (v := .tuple #[.agg #[.int .i64 0, .string ⟨#[]⟩, .int .i64 0], .int .i64 2]) (by simp [results, Tryz.results124, go_sem, r0, r1, r2, t0, t1, t2, hne, hne2]) rfl (TokV.no HO.out (below_set (below_set (below_set (below_set B4 (le1 _) _) (Nat.le_refl _) _) (Nat.le_refl _) _) (Nat.le_refl _) _))
  | some n =>
    obtain rfl : v = n := HV.out.2 n rfl
    have HO : Hid (o = some (1, [], v)) := Lib.hid HO.out
    simp only [Option.isSome_some]
    go_wp2_with fail
    exact bodyPost_ret (v := .tuple #[.agg #[.int .i64 1, .string ⟨#[]⟩, .int .i64 v], .int .i64 0]) (by simp [results, Tryz.results124, go_sem, r0, r1, r2, t0, t1, t2, hne, hne2]) rfl (TokV.yes HO.out (below_set (below_set (below_set (below_set B4 (le1 _) _) (Nat.le_refl _) _) (Nat.le_refl _) _) (Nat.le_refl _) _))
set_option maxHeartbeats 4000000 in
theorem tok_clock_ (s : ByteArray) (w : World) (hT : LexT w) (hs : s.size ≤ 3000000000) (HK : Hid (((Lx.lead s.data.toList : Nat) : Int) = 2)) (HN : Hid (Lx.nameS s.data.toList = false)) (h1 : ((2 : Int) == (s.size : Int)) = false) (p : Option Int) (HP : Hid (Lx.clockS s.data.toList = p)) (o : Option Lx.Tk) (HO : Hid (o = p.map fun n => (2, [], n))) :
    Calls Tryz.prog 124 #[.string s] w (TokV o w) := by
  have HT := Lib.hid hT
  clear hT
  have R0 := (TokB.new w 0 ⟨#[]⟩ 0).alloc (.cells #[.int .i64 0, .string ⟨#[]⟩, .int .i64 0] 115)
  have T0 := TokB.new1 w (.cells #[.int .i64 0, .string ⟨#[]⟩, .int .i64 0] 115) 0 ⟨#[]⟩ 0
  have B0 := (Below.refl _ w).alloc (Nat.le_refl _) (.cells #[.int .i64 0, .string ⟨#[]⟩, .int .i64 0] 115)
  have B0 := B0.alloc B0.size (.cells #[.int .i64 0, .string ⟨#[]⟩, .int .i64 0] 115)
  have hne : ¬ w.heap.size + 1 = w.heap.size := by omega
  have hne2 : ¬ w.heap.size = w.heap.size + 1 := by omega
  go_enter Tryz.func124, Tryz.ntmps124
  go_wp2_with fail
  refine (lead_i HK.out _).mono ?_
  rintro e w1 ⟨rfl, b1⟩
  have R1 := R0.after b1
  have T1 := T0.after b1
  have B1 := bstep B0 b1
  go_wp2_with fail
  refine (name_is HN.out _).mono ?_
  rintro e w2 ⟨rfl, b2⟩
  have R2 := R1.after b2
  have T2 := T1.after b2
  have B2 := bstep B1 b2
  clear R0 T0 B0 b1 R1 T1 B1 b2
  have ⟨r0, r1, r2, f0, f1, f2⟩ := R2.cells
  have ⟨t0, t1, t2, g0, g1, g2⟩ := T2.cells
  have B3 := below_set (i := 0) B2 (le1 _) (.int .i64 2)
  have T3 := Lib.hid (HT.out.below B3)
  have R3 := R2.other (i := 0) (g := w.heap.size + 1) hne (.int .i64 2)
  have K3 := T2.kind 2
  go_wp2_with fail
  refine (clock_is HP.out _ T3.out hs).mono ?_
  intro e w4 hw4
  obtain ⟨v, HV, v1, v2, rfl, b4⟩ := num2_open hw4
  clear hw4
  have R4 := R3.after b4
  have K4 := K3.after b4
  have B4 := bstep B3 b4
  clear R2 T2 B2 B3 T3 R3 K3 b4 r0 r1 r2 f0 f1 f2 t0 t1 t2 g0 g1 g2
  have ⟨r0, r1, r2, f0, f1, f2⟩ := R4.cells
  have ⟨t0, t1, t2, g0, g1, g2⟩ := K4.cells
  cases p with
  | none =>
    have HO : Hid (o = none) := Lib.hid HO.out
    simp only [Option.isSome_none]
    go_wp2_with fail
    exact bodyPost_ret (v := .tuple #[.agg #[.int .i64 0, .string ⟨#[]⟩, .int .i64 0], .int .i64 2]) (by simp [results, Tryz.results124, go_sem, r0, r1, r2, t0, t1, t2, hne, hne2]) rfl (TokV.no HO.out (below_set (below_set (below_set (below_set B4 (le1 _) _) (Nat.le_refl _) _) (Nat.le_refl _) _) (Nat.le_refl _) _))
  | some n =>
    obtain rfl : v = n := HV.out.2 n rfl
    have HO : Hid (o = some (2, [], v)) := Lib.hid HO.out
    simp only [Option.isSome_some]
    go_wp2_with fail
    exact bodyPost_ret (v := .tuple #[.agg #[.int .i64 2, .string ⟨#[]⟩, .int .i64 v], .int .i64 0]) (by simp [results, Tryz.results124, go_sem, r0, r1, r2, t0, t1, t2, hne, hne2]) rfl (TokV.yes HO.out (below_set (below_set (below_set (below_set B4 (le1 _) _) (Nat.le_refl _) _) (Nat.le_refl _) _) (Nat.le_refl _) _))
set_option maxHeartbeats 4000000 in
theorem tok_instant_ (s : ByteArray) (w : World) (hT : LexT w) (hs : s.size ≤ 3000000000) (HK : Hid (((Lx.lead s.data.toList : Nat) : Int) = 4)) (HN : Hid (Lx.nameS s.data.toList = false)) (h1 : ((4 : Int) == (s.size : Int)) = false) (HC : Hid (decide ((84 : UInt8) ∈ s.data.toList) = true)) (p : Option Int) (HP : Hid (Lx.instS s.data.toList = p)) (o : Option Lx.Tk) (HO : Hid (o = p.map fun n => (5, [], n))) :
    Calls Tryz.prog 124 #[.string s] w (TokV o w) := by
  have HT := Lib.hid hT
  clear hT
  have R0 := (TokB.new w 0 ⟨#[]⟩ 0).alloc (.cells #[.int .i64 0, .string ⟨#[]⟩, .int .i64 0] 115)
  have T0 := TokB.new1 w (.cells #[.int .i64 0, .string ⟨#[]⟩, .int .i64 0] 115) 0 ⟨#[]⟩ 0
  have B0 := (Below.refl _ w).alloc (Nat.le_refl _) (.cells #[.int .i64 0, .string ⟨#[]⟩, .int .i64 0] 115)
  have B0 := B0.alloc B0.size (.cells #[.int .i64 0, .string ⟨#[]⟩, .int .i64 0] 115)
  have hne : ¬ w.heap.size + 1 = w.heap.size := by omega
  have hne2 : ¬ w.heap.size = w.heap.size + 1 := by omega
  go_enter Tryz.func124, Tryz.ntmps124
  go_wp2_with fail
  refine (lead_i HK.out _).mono ?_
  rintro e w1 ⟨rfl, b1⟩
  have R1 := R0.after b1
  have T1 := T0.after b1
  have B1 := bstep B0 b1
  go_wp2_with fail
  refine (name_is HN.out _).mono ?_
  rintro e w2 ⟨rfl, b2⟩
  have R2 := R1.after b2
  have T2 := T1.after b2
  have B2 := bstep B1 b2
  clear R0 T0 B0 b1 R1 T1 B1 b2
  have ⟨r0, r1, r2, f0, f1, f2⟩ := R2.cells
  have ⟨t0, t1, t2, g0, g1, g2⟩ := T2.cells
  have B3 := below_set (i := 0) B2 (le1 _) (.int .i64 5)
  have T3 := Lib.hid (HT.out.below B3)
  have R3 := R2.other (i := 0) (g := w.heap.size + 1) hne (.int .i64 5)
  have K3 := T2.kind 5
  go_wp2_with fail
  refine (contains_is HC.out _).mono ?_
  rintro e w' ⟨rfl, rfl⟩
  go_wp2_with fail
  refine (instant_is HP.out _ T3.out hs).mono ?_
  intro e w4 hw4
  obtain ⟨v, HV, v1, v2, rfl, b4⟩ := num2_open hw4
  clear hw4
  have R4 := R3.after b4
  have K4 := K3.after b4
  have B4 := bstep B3 b4
  clear R2 T2 B2 B3 T3 R3 K3 b4 r0 r1 r2 f0 f1 f2 t0 t1 t2 g0 g1 g2
  have ⟨r0, r1, r2, f0, f1, f2⟩ := R4.cells
  have ⟨t0, t1, t2, g0, g1, g2⟩ := K4.cells
  cases p with
  | none =>
    have HO : Hid (o = none) := Lib.hid HO.out
    simp only [Option.isSome_none]
    go_wp2_with fail
    exact bodyPost_ret (v := .tuple #[.agg #[.int .i64 0, .string ⟨#[]⟩, .int .i64 0], .int .i64 2]) (by simp [results, Tryz.results124, go_sem, r0, r1, r2, t0, t1, t2, hne, hne2]) rfl (TokV.no HO.out (below_set (below_set (below_set (below_set B4 (le1 _) _) (Nat.le_refl _) _) (Nat.le_refl _) _) (Nat.le_refl _) _))
  | some n =>
    obtain rfl : v = n := HV.out.2 n rfl
    have HO : Hid (o = some (5, [], v)) := Lib.hid HO.out
    simp only [Option.isSome_some]
    go_wp2_with fail
    exact bodyPost_ret (v := .tuple #[.agg #[.int .i64 5, .string ⟨#[]⟩, .int .i64 v], .int .i64 0]) (by simp [results, Tryz.results124, go_sem, r0, r1, r2, t0, t1, t2, hne, hne2]) rfl (TokV.yes HO.out (below_set (below_set (below_set (below_set B4 (le1 _) _) (Nat.le_refl _) _) (Nat.le_refl _) _) (Nat.le_refl _) _))
set_option maxHeartbeats 4000000 in
theorem tok_date_ (s : ByteArray) (w : World) (hT : LexT w) (hs : s.size ≤ 3000000000) (HK : Hid (((Lx.lead s.data.toList : Nat) : Int) = 4)) (HN : Hid (Lx.nameS s.data.toList = false)) (h1 : ((4 : Int) == (s.size : Int)) = false) (HC : Hid (decide ((84 : UInt8) ∈ s.data.toList) = false)) (p : Option Int) (HP : Hid (Lx.dateS s.data.toList = p)) (o : Option Lx.Tk) (HO : Hid (o = p.map fun n => (3, [], n))) :
    Calls Tryz.prog 124 #[.string s] w (TokV o w) := by
  have HT := Lib.hid hT
  clear hT
  have R0 := (TokB.new w 0 ⟨#[]⟩ 0).alloc (.cells #[.int .i64 0, .string ⟨#[]⟩, .int .i64 0] 115)
  have T0 := TokB.new1 w (.cells #[.int .i64 0, .string ⟨#[]⟩, .int .i64 0] 115) 0 ⟨#[]⟩ 0
  have B0 := (Below.refl _ w).alloc (Nat.le_refl _) (.cells #[.int .i64 0, .string ⟨#[]⟩, .int .i64 0] 115)
  have B0 := B0.alloc B0.size (.cells #[.int .i64 0, .string ⟨#[]⟩, .int .i64 0] 115)
  have hne : ¬ w.heap.size + 1 = w.heap.size := by omega
  have hne2 : ¬ w.heap.size = w.heap.size + 1 := by omega
  go_enter Tryz.func124, Tryz.ntmps124
  go_wp2_with fail
  refine (lead_i HK.out _).mono ?_
  rintro e w1 ⟨rfl, b1⟩
  have R1 := R0.after b1
  have T1 := T0.after b1
  have B1 := bstep B0 b1
  go_wp2_with fail
  refine (name_is HN.out _).mono ?_
  rintro e w2 ⟨rfl, b2⟩
  have R2 := R1.after b2
  have T2 := T1.after b2
  have B2 := bstep B1 b2
  clear R0 T0 B0 b1 R1 T1 B1 b2
  have ⟨r0, r1, r2, f0, f1, f2⟩ := R2.cells
  have ⟨t0, t1, t2, g0, g1, g2⟩ := T2.cells
  have B3 := below_set (i := 0) B2 (le1 _) (.int .i64 3)
  have T3 := Lib.hid (HT.out.below B3)
  have R3 := R2.other (i := 0) (g := w.heap.size + 1) hne (.int .i64 3)
  have K3 := T2.kind 3
  go_wp2_with fail
  refine (contains_is HC.out _).mono ?_
  rintro e w' ⟨rfl, rfl⟩
  go_wp2_with fail
  refine (date_is HP.out _ T3.out (by omega)).mono ?_
  intro e w4 hw4
  obtain ⟨v, HV, v1, v2, rfl, b4⟩ := num2_open hw4
  clear hw4
  have R4 := R3.after b4
  have K4 := K3.after b4
  have B4 := bstep B3 b4
  clear R2 T2 B2 B3 T3 R3 K3 b4 r0 r1 r2 f0 f1 f2 t0 t1 t2 g0 g1 g2
  have ⟨r0, r1, r2, f0, f1, f2⟩ := R4.cells
  have ⟨t0, t1, t2, g0, g1, g2⟩ := K4.cells
  cases p with
  | none =>
    have HO : Hid (o = none) := Lib.hid HO.out
    simp only [Option.isSome_none]
    go_wp2_with fail
    exact bodyPost_ret (v := .tuple #[.agg #[.int .i64 0, .string ⟨#[]⟩, .int .i64 0], .int .i64 2]) (by simp [results, Tryz.results124, go_sem, r0, r1, r2, t0, t1, t2, hne, hne2]) rfl (TokV.no HO.out (below_set (below_set (below_set (below_set B4 (le1 _) _) (Nat.le_refl _) _) (Nat.le_refl _) _) (Nat.le_refl _) _))
  | some n =>
    obtain rfl : v = n := HV.out.2 n rfl
    have HO : Hid (o = some (3, [], v)) := Lib.hid HO.out
    simp only [Option.isSome_some]
    go_wp2_with fail
    exact bodyPost_ret (v := .tuple #[.agg #[.int .i64 3, .string ⟨#[]⟩, .int .i64 v], .int .i64 0]) (by simp [results, Tryz.results124, go_sem, r0, r1, r2, t0, t1, t2, hne, hne2]) rfl (TokV.yes HO.out (below_set (below_set (below_set (below_set B4 (le1 _) _) (Nat.le_refl _) _) (Nat.le_refl _) _) (Nat.le_refl _) _))
set_option maxHeartbeats 4000000 in
theorem tok_offset_ (s : ByteArray) (w : World) (hT : LexT w) (hs : s.size ≤ 3000000000) (HK : Hid (((Lx.lead s.data.toList : Nat) : Int) = 0)) (HN : Hid (Lx.nameS s.data.toList = false)) (h1 : ((0 : Int) == (s.size : Int)) = false) (p : Option Int) (HP : Hid (Lx.offS s.data.toList = p)) (o : Option Lx.Tk) (HO : Hid (o = p.map fun n => (4, [], n))) :
    Calls Tryz.prog 124 #[.string s] w (TokV o w) := by
  have HT := Lib.hid hT
  clear hT
  have R0 := (TokB.new w 0 ⟨#[]⟩ 0).alloc (.cells #[.int .i64 0, .string ⟨#[]⟩, .int .i64 0] 115)
  have T0 := TokB.new1 w (.cells #[.int .i64 0, .string ⟨#[]⟩, .int .i64 0] 115) 0 ⟨#[]⟩ 0
  have B0 := (Below.refl _ w).alloc (Nat.le_refl _) (.cells #[.int .i64 0, .string ⟨#[]⟩, .int .i64 0] 115)
  have B0 := B0.alloc B0.size (.cells #[.int .i64 0, .string ⟨#[]⟩, .int .i64 0] 115)
  have hne : ¬ w.heap.size + 1 = w.heap.size := by omega
  have hne2 : ¬ w.heap.size = w.heap.size + 1 := by omega
  go_enter Tryz.func124, Tryz.ntmps124
  go_wp2_with fail
  refine (lead_i HK.out _).mono ?_
  rintro e w1 ⟨rfl, b1⟩
  have R1 := R0.after b1
  have T1 := T0.after b1
  have B1 := bstep B0 b1
  go_wp2_with fail
  refine (name_is HN.out _).mono ?_
  rintro e w2 ⟨rfl, b2⟩
  have R2 := R1.after b2
  have T2 := T1.after b2
  have B2 := bstep B1 b2
  clear R0 T0 B0 b1 R1 T1 B1 b2
  have ⟨r0, r1, r2, f0, f1, f2⟩ := R2.cells
  have ⟨t0, t1, t2, g0, g1, g2⟩ := T2.cells
  have B3 := below_set (i := 0) B2 (le1 _) (.int .i64 4)
  have T3 := Lib.hid (HT.out.below B3)
  have R3 := R2.other (i := 0) (g := w.heap.size + 1) hne (.int .i64 4)
  have K3 := T2.kind 4
  go_wp2_with fail
  refine (offset_is HP.out _ T3.out hs).mono ?_
  intro e w4 hw4
  obtain ⟨v, HV, v1, v2, rfl, b4⟩ := num2_open hw4
  clear hw4
  have R4 := R3.after b4
  have K4 := K3.after b4
  have B4 := bstep B3 b4
  clear R2 T2 B2 B3 T3 R3 K3 b4 r0 r1 r2 f0 f1 f2 t0 t1 t2 g0 g1 g2
  have ⟨r0, r1, r2, f0, f1, f2⟩ := R4.cells
  have ⟨t0, t1, t2, g0, g1, g2⟩ := K4.cells
  cases p with
  | none =>
    have HO : Hid (o = none) := Lib.hid HO.out
    simp only [Option.isSome_none]
    go_wp2_with fail
    exact bodyPost_ret (v := .tuple #[.agg #[.int .i64 0, .string ⟨#[]⟩, .int .i64 0], .int .i64 2]) (by simp [results, Tryz.results124, go_sem, r0, r1, r2, t0, t1, t2, hne, hne2]) rfl (TokV.no HO.out (below_set (below_set (below_set (below_set B4 (le1 _) _) (Nat.le_refl _) _) (Nat.le_refl _) _) (Nat.le_refl _) _))
  | some n =>
    obtain rfl : v = n := HV.out.2 n rfl
    have HO : Hid (o = some (4, [], v)) := Lib.hid HO.out
    simp only [Option.isSome_some]
    go_wp2_with fail
    exact bodyPost_ret (v := .tuple #[.agg #[.int .i64 4, .string ⟨#[]⟩, .int .i64 v], .int .i64 0]) (by simp [results, Tryz.results124, go_sem, r0, r1, r2, t0, t1, t2, hne, hne2]) rfl (TokV.yes HO.out (below_set (below_set (below_set (below_set B4 (le1 _) _) (Nat.le_refl _) _) (Nat.le_refl _) _) (Nat.le_refl _) _))
theorem token_any (s : ByteArray) (w : World) (hT : LexT w) (hs : s.size ≤ 3000000000) : Calls Tryz.prog 124 #[.string s] w (TokV (Lx.tokS s.data.toList) w) := by
  have hz := Lib.size_eq s
  by_cases hn : Lx.nameS s.data.toList = true
  · exact tok_name s w _ (Lib.hid rfl) (Lib.hid hn) _ (Lib.hid (by unfold Lx.tokS; rw [if_pos hn]))
  · have hn2 : Lx.nameS s.data.toList = false := by simpa using hn
    by_cases h1 : Lx.lead s.data.toList = s.data.toList.length
    · exact tok_number_ s w hT hs (Lib.hid (by omega)) (Lib.hid hn2) (Lib.hid (Lx.lead_all.1 h1)) _ (Lib.hid rfl) _ (Lib.hid (by unfold Lx.tokS; rw [if_neg hn, if_pos h1]))
    · by_cases h2 : Lx.lead s.data.toList = 2
      · exact tok_clock_ s w hT hs (Lib.hid (by omega)) (Lib.hid hn2) (by simp only [beq_eq_false_iff_ne, ne_eq]; omega) _ (Lib.hid rfl) _ (Lib.hid (by unfold Lx.tokS; rw [if_neg hn, if_neg h1, if_pos h2]))
      · by_cases h3 : Lx.lead s.data.toList = 4
        · by_cases h4 : (84 : UInt8) ∈ s.data.toList
          · exact tok_instant_ s w hT hs (Lib.hid (by omega)) (Lib.hid hn2) (by simp only [beq_eq_false_iff_ne, ne_eq]; omega) (Lib.hid (decide_eq_true h4)) _ (Lib.hid rfl) _ (Lib.hid (by unfold Lx.tokS; rw [if_neg hn, if_neg h1, if_neg h2, if_pos ⟨h3, h4⟩]))
          · exact tok_date_ s w hT hs (Lib.hid (by omega)) (Lib.hid hn2) (by simp only [beq_eq_false_iff_ne, ne_eq]; omega) (Lib.hid (decide_eq_false h4)) _ (Lib.hid rfl) _ (Lib.hid (by unfold Lx.tokS; rw [if_neg hn, if_neg h1, if_neg h2, if_neg (fun h => h4 h.2), if_pos h3]))
        · by_cases h5 : Lx.lead s.data.toList = 0
          · exact tok_offset_ s w hT hs (Lib.hid (by omega)) (Lib.hid hn2) (by simp only [beq_eq_false_iff_ne, ne_eq]; omega) _ (Lib.hid rfl) _ (Lib.hid (by unfold Lx.tokS; rw [if_neg hn, if_neg h1, if_neg h2, if_neg (fun h => h3 h.1), if_neg h3, if_pos h5]))
          · exact tok_none s w _ (Lib.hid rfl) (Lib.hid hn2) _ (Lib.hid (by unfold Lx.tokS; rw [if_neg hn, if_neg h1, if_neg h2, if_neg (fun h => h3 h.1), if_neg h3, if_neg h5])) (by simp only [beq_eq_false_iff_ne, ne_eq]; omega) (by simp only [beq_eq_false_iff_ne, ne_eq]; omega) (by simp only [beq_eq_false_iff_ne, ne_eq]; omega) (by simp only [beq_eq_false_iff_ne, ne_eq]; omega)
end Go.Proofs.YtphenbfhojdcpaaGreatDoor
