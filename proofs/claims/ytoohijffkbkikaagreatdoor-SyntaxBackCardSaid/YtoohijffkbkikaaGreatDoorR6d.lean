/- The reference of layer 6: Token. -/
import Derived.Test.YtoohijffkbkikaaGreatDoorR6c
namespace L6
open Go Go.Lib Go.Proofs.YtoohijffkbkikaaGreatDoor
def tok6S (l : List UInt8) : Option Lx.Tk :=
  if Lx.nameS l = true then some (0, l, 0)
  else if form6 l = [100, 100, 58, 100, 100] ∨ form6 l = [100, 100, 58, 100, 100, 58, 100, 100] then (if 0 ≤ clk6 l ∧ clk6 l ≤ 86400 then some (2, [], clk6 l) else none)
  else if form6 l = [100, 100, 100, 100, 45, 100, 100, 45, 100, 100] then (if 0 ≤ date6 l then some (3, [], date6 l) else none)
  else if form6 l = [43, 100, 100, 58, 100, 100] ∨ form6 l = [45, 100, 100, 58, 100, 100] then (if clk6 (l.drop 1) < 0 ∨ 64800 < clk6 (l.drop 1) then none else some (4, [], if l.head? = some 45 then -clk6 (l.drop 1) else clk6 (l.drop 1)))
  else if form6 l = [100, 100, 100, 100, 45, 100, 100, 45, 100, 100, 84, 100, 100, 58, 100, 100, 58, 100, 100, 90] then (if 0 ≤ date6 (l.take 10) ∧ 0 ≤ clk6 ((l.drop 11).take 8) ∧ clk6 ((l.drop 11).take 8) < 86400 then some (5, [], date6 (l.take 10) * 86400 + clk6 ((l.drop 11).take 8)) else none)
  else if form6 l = List.replicate l.length 100 ∧ 1 ≤ l.length ∧ l.length ≤ 9 then (if l.head? ≠ some 48 ∨ l.length = 1 then some (1, [], val6 0 l) else none)
  else none
theorem form6_len (l : List UInt8) : (form6 l).length = l.length := by simp [form6]
theorem form6_head {l f : List UInt8} {x : UInt8} (h : form6 l = x :: f) (hx : x ≠ 100) : l.head? = some x := by
  cases l with
  | nil => simp [form6] at h
  | cons c t =>
    simp only [form6, List.map_cons, List.cons.injEq] at h
    by_cases hd : Lx.digR c.toNat = true
    · rw [if_pos hd] at h
      exact absurd h.1.symm hx
    · rw [if_neg hd] at h
      rw [h.1]
      rfl
end L6
namespace Go.Proofs.YtoohijffkbkikaaGreatDoor
open Go.RowKit
set_option linter.unusedVariables false
set_option linter.unusedSimpArgs false
set_option maxRecDepth 100000

set_option maxHeartbeats 4000000 in
theorem t6_name (s : ByteArray) (w : World) (hz : s.size ≤ 1000000000) (HN : Hid (Lx.nameS s.data.toList = true)) (o : Option Lx.Tk) (HO : Hid (o = some (0, s.data.toList, 0))) :
    Calls Tryz.prog 51 #[.string s] w (TokV o w) := by
  have R0 := TokB.new w 0 ⟨#[]⟩ 0
  have B0 := (Below.refl _ w).alloc (Nat.le_refl _) (.cells #[.int .i64 0, .string ⟨#[]⟩, .int .i64 0] 44)
  have ⟨r0, r1, r2, f0, f1, f2⟩ := R0.cells
  go_enter Tryz.func51, Tryz.ntmps51
  go_wp2_with fail
  refine (name6_is HN.out _ (by omega)).mono ?_
  rintro e w' ⟨rfl, rfl⟩
  go_wp2_with fail
  exact bodyPost_ret (v := .tuple #[.agg #[.int .i64 0, .string s, .int .i64 0], .int .i64 0]) (by simp [results, Tryz.results51, go_sem, r0, r1, r2]) rfl (.inr ⟨0, s.data.toList, 0, HO.out, by rw [Lib.mk_data], ((Below.refl _ _).alloc (Nat.le_refl _) _)⟩)
set_option maxHeartbeats 4000000 in
theorem t6_none (s : ByteArray) (w : World) (hz : s.size ≤ 1000000000) (HN : Hid (Lx.nameS s.data.toList = false)) (F : ByteArray) (HF : Hid ((⟨(L6.form6 s.data.toList).toArray⟩ : ByteArray) = F)) (g0 : (F.toList == [100, 100, 58, 100, 100]) = false) (g1 : (F.toList == [100, 100, 58, 100, 100, 58, 100, 100]) = false) (g2 : (F.toList == [100, 100, 100, 100, 45, 100, 100, 45, 100, 100]) = false) (g3 : (F.toList == [43, 100, 100, 58, 100, 100]) = false) (g4 : (F.toList == [45, 100, 100, 58, 100, 100]) = false) (g5 : (F.toList == [100, 100, 100, 100, 45, 100, 100, 45, 100, 100, 84, 100, 100, 58, 100, 100, 58, 100, 100, 90]) = false) (g6 : (F.toList == [100]) = false) (g7 : (F.toList == [100, 100]) = false) (g8 : (F.toList == [100, 100, 100]) = false) (g9 : (F.toList == [100, 100, 100, 100]) = false) (g10 : (F.toList == [100, 100, 100, 100, 100]) = false) (g11 : (F.toList == [100, 100, 100, 100, 100, 100]) = false) (g12 : (F.toList == [100, 100, 100, 100, 100, 100, 100]) = false) (g13 : (F.toList == [100, 100, 100, 100, 100, 100, 100, 100]) = false) (g14 : (F.toList == [100, 100, 100, 100, 100, 100, 100, 100, 100]) = false) (o : Option Lx.Tk) (HO : Hid (o = none)) :
    Calls Tryz.prog 51 #[.string s] w (TokV o w) := by
  have R0 := TokB.new w 0 ⟨#[]⟩ 0
  have B0 := (Below.refl _ w).alloc (Nat.le_refl _) (.cells #[.int .i64 0, .string ⟨#[]⟩, .int .i64 0] 44)
  have ⟨r0, r1, r2, f0, f1, f2⟩ := R0.cells
  go_enter Tryz.func51, Tryz.ntmps51
  go_wp2_with fail
  refine (name6_is HN.out _ (by omega)).mono ?_
  rintro e w' ⟨rfl, rfl⟩
  go_wp2_with fail
  refine (form6_is HF.out _ (by omega)).mono ?_
  rintro e w' ⟨rfl, rfl⟩
  go_wp2_with fail
  exact bodyPost_ret (v := .tuple #[.agg #[.int .i64 0, .string ⟨#[]⟩, .int .i64 0], .int .i64 2]) (by simp [results, Tryz.results51, go_sem, r0, r1, r2]) rfl (TokV.no HO.out ((Below.refl _ _).alloc (Nat.le_refl _) _))
set_option maxHeartbeats 4000000 in
theorem t6_c5 (s : ByteArray) (w : World) (hz : s.size ≤ 1000000000) (HN : Hid (Lx.nameS s.data.toList = false)) (HF : Hid ((⟨(L6.form6 s.data.toList).toArray⟩ : ByteArray) = ⟨#[100, 100, 58, 100, 100]⟩)) (h5 : s.size = 5 ∨ s.size = 8) (v : Int) (HV : Hid (L6.clk6 s.data.toList = v)) (o : Option Lx.Tk) (HO : Hid (o = if 0 ≤ v ∧ v ≤ 86400 then some (2, [], v) else none)) :
    Calls Tryz.prog 51 #[.string s] w (TokV o w) := by
  have R0 := TokB.new w 0 ⟨#[]⟩ 0
  have B0 := (Below.refl _ w).alloc (Nat.le_refl _) (.cells #[.int .i64 0, .string ⟨#[]⟩, .int .i64 0] 44)
  have ⟨r0, r1, r2, f0, f1, f2⟩ := R0.cells
  go_enter Tryz.func51, Tryz.ntmps51
  go_wp2_with fail
  refine (name6_is HN.out _ (by omega)).mono ?_
  rintro e w' ⟨rfl, rfl⟩
  go_wp2_with fail
  refine (form6_is HF.out _ (by omega)).mono ?_
  rintro e w' ⟨rfl, rfl⟩
  go_wp2_with fail
  refine (clk6_is HV.out _ h5).mono ?_
  rintro e w1 ⟨rfl, b1⟩
  have R1 := R0.after b1
  have B1 := bstep B0 b1
  clear R0 B0 b1 r0 r1 r2 f0 f1 f2
  have ⟨r0, r1, r2, f0, f1, f2⟩ := R1.cells
  by_cases h1 : 0 ≤ v
  · by_cases h2 : v ≤ 86400
    · have HO : Hid (o = some (2, [], v)) := Lib.hid (by rw [HO.out, if_pos ⟨h1, h2⟩])
      go_wp2_with fail
      exact bodyPost_ret (v := .tuple #[.agg #[.int .i64 2, .string ⟨#[]⟩, .int .i64 v], .int .i64 0]) (by simp [results, Tryz.results51, go_sem, r0, r1, r2]) rfl (TokV.yes HO.out (below_set (below_set (below_set B1 (Nat.le_refl _) _) (Nat.le_refl _) _) (Nat.le_refl _) _))
    · have HO : Hid (o = none) := Lib.hid (by rw [HO.out, if_neg (fun h => h2 h.2)])
      have h2' : decide (v ≤ (86400 : Int)) = false := by simpa using h2
      go_wp2_with fail
      exact bodyPost_ret (v := .tuple #[.agg #[.int .i64 0, .string ⟨#[]⟩, .int .i64 0], .int .i64 2]) (by simp [results, Tryz.results51, go_sem, r0, r1, r2]) rfl (TokV.no HO.out (below_set (below_set (below_set B1 (Nat.le_refl _) _) (Nat.le_refl _) _) (Nat.le_refl _) _))
  · have HO : Hid (o = none) := Lib.hid (by rw [HO.out, if_neg (fun h => h1 h.1)])
    have h1' : decide ((0 : Int) ≤ v) = false := by simpa using h1
    go_wp2_with fail
    exact bodyPost_ret (v := .tuple #[.agg #[.int .i64 0, .string ⟨#[]⟩, .int .i64 0], .int .i64 2]) (by simp [results, Tryz.results51, go_sem, r0, r1, r2]) rfl (TokV.no HO.out (below_set (below_set (below_set B1 (Nat.le_refl _) _) (Nat.le_refl _) _) (Nat.le_refl _) _))
set_option maxHeartbeats 4000000 in
theorem t6_c8 (s : ByteArray) (w : World) (hz : s.size ≤ 1000000000) (HN : Hid (Lx.nameS s.data.toList = false)) (HF : Hid ((⟨(L6.form6 s.data.toList).toArray⟩ : ByteArray) = ⟨#[100, 100, 58, 100, 100, 58, 100, 100]⟩)) (h5 : s.size = 5 ∨ s.size = 8) (v : Int) (HV : Hid (L6.clk6 s.data.toList = v)) (o : Option Lx.Tk) (HO : Hid (o = if 0 ≤ v ∧ v ≤ 86400 then some (2, [], v) else none)) :
    Calls Tryz.prog 51 #[.string s] w (TokV o w) := by
  have R0 := TokB.new w 0 ⟨#[]⟩ 0
  have B0 := (Below.refl _ w).alloc (Nat.le_refl _) (.cells #[.int .i64 0, .string ⟨#[]⟩, .int .i64 0] 44)
  have ⟨r0, r1, r2, f0, f1, f2⟩ := R0.cells
  go_enter Tryz.func51, Tryz.ntmps51
  go_wp2_with fail
  refine (name6_is HN.out _ (by omega)).mono ?_
  rintro e w' ⟨rfl, rfl⟩
  go_wp2_with fail
  refine (form6_is HF.out _ (by omega)).mono ?_
  rintro e w' ⟨rfl, rfl⟩
  go_wp2_with fail
  refine (clk6_is HV.out _ h5).mono ?_
  rintro e w1 ⟨rfl, b1⟩
  have R1 := R0.after b1
  have B1 := bstep B0 b1
  clear R0 B0 b1 r0 r1 r2 f0 f1 f2
  have ⟨r0, r1, r2, f0, f1, f2⟩ := R1.cells
  by_cases h1 : 0 ≤ v
  · by_cases h2 : v ≤ 86400
    · have HO : Hid (o = some (2, [], v)) := Lib.hid (by rw [HO.out, if_pos ⟨h1, h2⟩])
      go_wp2_with fail
      exact bodyPost_ret (v := .tuple #[.agg #[.int .i64 2, .string ⟨#[]⟩, .int .i64 v], .int .i64 0]) (by simp [results, Tryz.results51, go_sem, r0, r1, r2]) rfl (TokV.yes HO.out (below_set (below_set (below_set B1 (Nat.le_refl _) _) (Nat.le_refl _) _) (Nat.le_refl _) _))
    · have HO : Hid (o = none) := Lib.hid (by rw [HO.out, if_neg (fun h => h2 h.2)])
      have h2' : decide (v ≤ (86400 : Int)) = false := by simpa using h2
      go_wp2_with fail
      exact bodyPost_ret (v := .tuple #[.agg #[.int .i64 0, .string ⟨#[]⟩, .int .i64 0], .int .i64 2]) (by simp [results, Tryz.results51, go_sem, r0, r1, r2]) rfl (TokV.no HO.out (below_set (below_set (below_set B1 (Nat.le_refl _) _) (Nat.le_refl _) _) (Nat.le_refl _) _))
  · have HO : Hid (o = none) := Lib.hid (by rw [HO.out, if_neg (fun h => h1 h.1)])
    have h1' : decide ((0 : Int) ≤ v) = false := by simpa using h1
    go_wp2_with fail
    exact bodyPost_ret (v := .tuple #[.agg #[.int .i64 0, .string ⟨#[]⟩, .int .i64 0], .int .i64 2]) (by simp [results, Tryz.results51, go_sem, r0, r1, r2]) rfl (TokV.no HO.out (below_set (below_set (below_set B1 (Nat.le_refl _) _) (Nat.le_refl _) _) (Nat.le_refl _) _))
set_option maxHeartbeats 4000000 in
theorem t6_dt (s : ByteArray) (w : World) (hz : s.size ≤ 1000000000) (HN : Hid (Lx.nameS s.data.toList = false)) (HF : Hid ((⟨(L6.form6 s.data.toList).toArray⟩ : ByteArray) = ⟨#[100, 100, 100, 100, 45, 100, 100, 45, 100, 100]⟩)) (h5 : 10 ≤ s.size) (v : Int) (HV : Hid (L6.date6 s.data.toList = v)) (o : Option Lx.Tk) (HO : Hid (o = if 0 ≤ v then some (3, [], v) else none)) :
    Calls Tryz.prog 51 #[.string s] w (TokV o w) := by
  have R0 := TokB.new w 0 ⟨#[]⟩ 0
  have B0 := (Below.refl _ w).alloc (Nat.le_refl _) (.cells #[.int .i64 0, .string ⟨#[]⟩, .int .i64 0] 44)
  have ⟨r0, r1, r2, f0, f1, f2⟩ := R0.cells
  go_enter Tryz.func51, Tryz.ntmps51
  go_wp2_with fail
  refine (name6_is HN.out _ (by omega)).mono ?_
  rintro e w' ⟨rfl, rfl⟩
  go_wp2_with fail
  refine (form6_is HF.out _ (by omega)).mono ?_
  rintro e w' ⟨rfl, rfl⟩
  go_wp2_with fail
  refine (date6_is HV.out _ h5 hz).mono ?_
  rintro e w1 ⟨rfl, b1⟩
  have R1 := R0.after b1
  have B1 := bstep B0 b1
  clear R0 B0 b1 r0 r1 r2 f0 f1 f2
  have ⟨r0, r1, r2, f0, f1, f2⟩ := R1.cells
  by_cases h1 : 0 ≤ v
  · have HO : Hid (o = some (3, [], v)) := Lib.hid (by rw [HO.out, if_pos h1])
    go_wp2_with fail
    exact bodyPost_ret (v := .tuple #[.agg #[.int .i64 3, .string ⟨#[]⟩, .int .i64 v], .int .i64 0]) (by simp [results, Tryz.results51, go_sem, r0, r1, r2]) rfl (TokV.yes HO.out (below_set (below_set (below_set B1 (Nat.le_refl _) _) (Nat.le_refl _) _) (Nat.le_refl _) _))
  · have HO : Hid (o = none) := Lib.hid (by rw [HO.out, if_neg h1])
    have h1' : decide ((0 : Int) ≤ v) = false := by simpa using h1
    go_wp2_with fail
    exact bodyPost_ret (v := .tuple #[.agg #[.int .i64 0, .string ⟨#[]⟩, .int .i64 0], .int .i64 2]) (by simp [results, Tryz.results51, go_sem, r0, r1, r2]) rfl (TokV.no HO.out (below_set (below_set (below_set B1 (Nat.le_refl _) _) (Nat.le_refl _) _) (Nat.le_refl _) _))
set_option maxHeartbeats 4000000 in
theorem t6_op (s : ByteArray) (w : World) (hz : s.size ≤ 1000000000) (HN : Hid (Lx.nameS s.data.toList = false)) (HF : Hid ((⟨(L6.form6 s.data.toList).toArray⟩ : ByteArray) = ⟨#[43, 100, 100, 58, 100, 100]⟩)) (h6 : s.size = 6) (hc : s.data.toList[0]? = some 43) (v : Int) (HV : Hid (L6.clk6 (s.data.toList.drop 1) = v)) (o : Option Lx.Tk) (HO : Hid (o = if v < 0 ∨ 64800 < v then none else some (4, [], v))) :
    Calls Tryz.prog 51 #[.string s] w (TokV o w) := by
  have k0 : ∀ w, (Instr.index 9 (.string s) (.int .i64 0)).run Tryz.prog w = .ok (.int .u8 43) w := fun w => str_at hc 9 Tryz.underlying9 w
  obtain ⟨u, hu⟩ : ∃ u, s.extract 1 s.size = u := ⟨_, rfl⟩
  have hul := ext_list s 1 s.size
  rw [hu] at hul
  have hzz := Lib.size_eq s
  have hul2 : u.data.toList = s.data.toList.drop 1 := by rw [hul]; exact List.take_of_length_le (by simp <;> omega)
  have huz : u.size = 5 := by rw [Lib.size_eq, hul2, List.length_drop]; omega
  have HU := Lib.hid (show L6.clk6 u.data.toList = v by rw [hul2]; exact HV.out)
  have HUZ := Lib.hid huz
  have s1 : (1 : Int) ≤ s.size := by omega
  have H6 := Lib.hid h6
  have hvb := L6.clk6_bd (s.data.toList.drop 1)
  rw [HV.out] at hvb
  clear hul hul2 huz hzz hc h6
  have R0 := TokB.new w 0 ⟨#[]⟩ 0
  have B0 := (Below.refl _ w).alloc (Nat.le_refl _) (.cells #[.int .i64 0, .string ⟨#[]⟩, .int .i64 0] 44)
  have ⟨r0, r1, r2, f0, f1, f2⟩ := R0.cells
  go_enter Tryz.func51, Tryz.ntmps51
  go_wp2_with fail
  refine (name6_is HN.out _ (by omega)).mono ?_
  rintro e w' ⟨rfl, rfl⟩
  go_wp2_with fail
  refine (form6_is HF.out _ (by omega)).mono ?_
  rintro e w' ⟨rfl, rfl⟩
  go_wp2_with fail
  refine (clk6_is HU.out _ (.inl HUZ.out)).mono ?_
  rintro e w1 ⟨rfl, b1⟩
  have R1 := R0.after b1
  have B1 := bstep B0 b1
  clear R0 B0 b1 r0 r1 r2 f0 f1 f2
  have ⟨r0, r1, r2, f0, f1, f2⟩ := R1.cells
  have u0 := wr_ (-v) (by omega)
  by_cases h1 : v < 0
  · have HO : Hid (o = none) := Lib.hid (by rw [HO.out, if_pos (.inl h1)])
    go_wp2_with fail
    exact bodyPost_ret (v := .tuple #[.agg #[.int .i64 0, .string ⟨#[]⟩, .int .i64 0], .int .i64 2]) (by simp [results, Tryz.results51, go_sem, r0, r1, r2]) rfl (TokV.no HO.out (below_set (below_set (below_set B1 (Nat.le_refl _) _) (Nat.le_refl _) _) (Nat.le_refl _) _))
  · have h1' : decide (v < (0 : Int)) = false := by simpa using h1
    by_cases h2 : 64800 < v
    · have HO : Hid (o = none) := Lib.hid (by rw [HO.out, if_pos (.inr h2)])
      go_wp2_with fail
      exact bodyPost_ret (v := .tuple #[.agg #[.int .i64 0, .string ⟨#[]⟩, .int .i64 0], .int .i64 2]) (by simp [results, Tryz.results51, go_sem, r0, r1, r2]) rfl (TokV.no HO.out (below_set (below_set (below_set B1 (Nat.le_refl _) _) (Nat.le_refl _) _) (Nat.le_refl _) _))
    · have h2' : decide ((64800 : Int) < v) = false := by simpa using h2
      have HO : Hid (o = some (4, [], v)) := Lib.hid (by rw [HO.out, if_neg (by omega)])
      go_wp2_with fail
      exact bodyPost_ret (v := .tuple #[.agg #[.int .i64 4, .string ⟨#[]⟩, .int .i64 v], .int .i64 0]) (by simp [results, Tryz.results51, go_sem, r0, r1, r2]) rfl (TokV.yes HO.out (below_set (below_set (below_set B1 (Nat.le_refl _) _) (Nat.le_refl _) _) (Nat.le_refl _) _))
set_option maxHeartbeats 4000000 in
theorem t6_om (s : ByteArray) (w : World) (hz : s.size ≤ 1000000000) (HN : Hid (Lx.nameS s.data.toList = false)) (HF : Hid ((⟨(L6.form6 s.data.toList).toArray⟩ : ByteArray) = ⟨#[45, 100, 100, 58, 100, 100]⟩)) (h6 : s.size = 6) (hc : s.data.toList[0]? = some 45) (v : Int) (HV : Hid (L6.clk6 (s.data.toList.drop 1) = v)) (o : Option Lx.Tk) (HO : Hid (o = if v < 0 ∨ 64800 < v then none else some (4, [], -v))) :
    Calls Tryz.prog 51 #[.string s] w (TokV o w) := by
  have k0 : ∀ w, (Instr.index 9 (.string s) (.int .i64 0)).run Tryz.prog w = .ok (.int .u8 45) w := fun w => str_at hc 9 Tryz.underlying9 w
  obtain ⟨u, hu⟩ : ∃ u, s.extract 1 s.size = u := ⟨_, rfl⟩
  have hul := ext_list s 1 s.size
  rw [hu] at hul
  have hzz := Lib.size_eq s
  have hul2 : u.data.toList = s.data.toList.drop 1 := by rw [hul]; exact List.take_of_length_le (by simp <;> omega)
  have huz : u.size = 5 := by rw [Lib.size_eq, hul2, List.length_drop]; omega
  have HU := Lib.hid (show L6.clk6 u.data.toList = v by rw [hul2]; exact HV.out)
  have HUZ := Lib.hid huz
  have s1 : (1 : Int) ≤ s.size := by omega
  have H6 := Lib.hid h6
  have hvb := L6.clk6_bd (s.data.toList.drop 1)
  rw [HV.out] at hvb
  clear hul hul2 huz hzz hc h6
  have R0 := TokB.new w 0 ⟨#[]⟩ 0
  have B0 := (Below.refl _ w).alloc (Nat.le_refl _) (.cells #[.int .i64 0, .string ⟨#[]⟩, .int .i64 0] 44)
  have ⟨r0, r1, r2, f0, f1, f2⟩ := R0.cells
  go_enter Tryz.func51, Tryz.ntmps51
  go_wp2_with fail
  refine (name6_is HN.out _ (by omega)).mono ?_
  rintro e w' ⟨rfl, rfl⟩
  go_wp2_with fail
  refine (form6_is HF.out _ (by omega)).mono ?_
  rintro e w' ⟨rfl, rfl⟩
  go_wp2_with fail
  refine (clk6_is HU.out _ (.inl HUZ.out)).mono ?_
  rintro e w1 ⟨rfl, b1⟩
  have R1 := R0.after b1
  have B1 := bstep B0 b1
  clear R0 B0 b1 r0 r1 r2 f0 f1 f2
  have ⟨r0, r1, r2, f0, f1, f2⟩ := R1.cells
  have u0 := wr_ (-v) (by omega)
  by_cases h1 : v < 0
  · have HO : Hid (o = none) := Lib.hid (by rw [HO.out, if_pos (.inl h1)])
    go_wp2_with fail
    exact bodyPost_ret (v := .tuple #[.agg #[.int .i64 0, .string ⟨#[]⟩, .int .i64 0], .int .i64 2]) (by simp [results, Tryz.results51, go_sem, r0, r1, r2]) rfl (TokV.no HO.out (below_set (below_set (below_set B1 (Nat.le_refl _) _) (Nat.le_refl _) _) (Nat.le_refl _) _))
  · have h1' : decide (v < (0 : Int)) = false := by simpa using h1
    by_cases h2 : 64800 < v
    · have HO : Hid (o = none) := Lib.hid (by rw [HO.out, if_pos (.inr h2)])
      go_wp2_with fail
      exact bodyPost_ret (v := .tuple #[.agg #[.int .i64 0, .string ⟨#[]⟩, .int .i64 0], .int .i64 2]) (by simp [results, Tryz.results51, go_sem, r0, r1, r2]) rfl (TokV.no HO.out (below_set (below_set (below_set B1 (Nat.le_refl _) _) (Nat.le_refl _) _) (Nat.le_refl _) _))
    · have h2' : decide ((64800 : Int) < v) = false := by simpa using h2
      have HO : Hid (o = some (4, [], -v)) := Lib.hid (by rw [HO.out, if_neg (by omega)])
      go_wp2_with fail
      exact bodyPost_ret (v := .tuple #[.agg #[.int .i64 4, .string ⟨#[]⟩, .int .i64 (-v)], .int .i64 0]) (by simp [results, Tryz.results51, go_sem, r0, r1, r2]) rfl (TokV.yes HO.out (below_set (below_set (below_set B1 (Nat.le_refl _) _) (Nat.le_refl _) _) (Nat.le_refl _) _))
theorem keepT6 {b : Nat} {o : Obj} {W wc w' : World} (h : wc.heap[b]? = some o ∧ Below W.heap.size W wc) (hb : Below wc.heap.size wc w') : w'.heap[b]? = some o ∧ Below W.heap.size W w' :=
  ⟨(hb.block b (by rcases Nat.lt_or_ge b wc.heap.size with h1 | h1; exact h1; rw [Array.getElem?_eq_none h1] at h; cases h.1)).trans h.1, bstep h.2 hb⟩
set_option maxHeartbeats 4000000 in
theorem t6_it (s : ByteArray) (w : World) (hz : s.size ≤ 1000000000) (HN : Hid (Lx.nameS s.data.toList = false)) (HF : Hid ((⟨(L6.form6 s.data.toList).toArray⟩ : ByteArray) = ⟨#[100, 100, 100, 100, 45, 100, 100, 45, 100, 100, 84, 100, 100, 58, 100, 100, 58, 100, 100, 90]⟩)) (h20 : s.size = 20) (d n : Int) (HD : Hid (L6.date6 (s.data.toList.take 10) = d)) (HV : Hid (L6.clk6 ((s.data.toList.drop 11).take 8) = n)) (o : Option Lx.Tk) (HO : Hid (o = if 0 ≤ d ∧ 0 ≤ n ∧ n < 86400 then some (5, [], d * 86400 + n) else none)) :
    Calls Tryz.prog 51 #[.string s] w (TokV o w) := by
  obtain ⟨a, ha⟩ : ∃ a, s.extract 0 10 = a := ⟨_, rfl⟩
  obtain ⟨b, hb⟩ : ∃ b, s.extract 11 19 = b := ⟨_, rfl⟩
  have la := ext_list s 0 10
  have lb := ext_list s 11 19
  rw [ha] at la
  rw [hb] at lb
  have hzz := Lib.size_eq s
  have za : a.size = 10 := by rw [Lib.size_eq, la]; simp; omega
  have zb : b.size = 8 := by rw [Lib.size_eq, lb]; simp; omega
  have HA := Lib.hid (show L6.date6 a.data.toList = d by rw [la]; exact HD.out)
  have HB := Lib.hid (show L6.clk6 b.data.toList = n by rw [lb]; exact HV.out)
  have z1 : 10 ≤ a.size := by omega
  have z1' : a.size ≤ 1000000000 := by omega
  have HZB : Hid (b.size = 5 ∨ b.size = 8) := Lib.hid (.inr zb)
  have s1 : (10 : Int) ≤ s.size := by omega
  have s2 : (19 : Int) ≤ s.size := by omega
  have H6 := Lib.hid h20
  have hdb := L6.date6_bd (s.data.toList.take 10)
  rw [HD.out] at hdb
  have hvb := L6.clk6_bd ((s.data.toList.drop 11).take 8)
  rw [HV.out] at hvb
  have u1 := wr_ (d * 86400) (by omega)
  have u2 := wr_ (d * 86400 + n) (by omega)
  clear la lb za zb hzz h20
  have R0 := TokB.new w 0 ⟨#[]⟩ 0
  have B0 := (Below.refl _ w).alloc (Nat.le_refl _) (.cells #[.int .i64 0, .string ⟨#[]⟩, .int .i64 0] 44)
  have ⟨r0, r1, r2, f0, f1, f2⟩ := R0.cells
  go_enter Tryz.func51, Tryz.ntmps51
  go_wp2_with fail
  refine (name6_is HN.out _ (by omega)).mono ?_
  rintro e w' ⟨rfl, rfl⟩
  go_wp2_with fail
  refine (form6_is HF.out _ (by omega)).mono ?_
  rintro e w' ⟨rfl, rfl⟩
  have S1 : (w.alloc (.cells #[.int .i64 0, .string ⟨#[]⟩, .int .i64 0] 44)).heap[w.heap.size]? = some (.cells #[.int .i64 0, .string ⟨#[]⟩, .int .i64 0] 44 (0, 0)) ∧ Below w.heap.size w (w.alloc (.cells #[.int .i64 0, .string ⟨#[]⟩, .int .i64 0] 44)) := ⟨R0, B0⟩
  clear R0 B0 r0 r1 r2 f0 f1 f2
  go_wp2_with fail
  go_region_held3 (fun w' => w'.heap[w.heap.size]? = some (.cells #[.int .i64 0, .string ⟨#[]⟩, .int .i64 0] 44 (0, 0)) ∧ Below w.heap.size w w') (first | (exact keepT6 S1 (Below.refl _ _).drew) | (exact keepT6 (by assumption) hb))
    (first | (go_at_call 74; ((with_reducible refine (date6_is HA.out _ z1 z1').mono ?_); rintro e w' ⟨rfl, hb⟩)) | (go_at_call 73; ((with_reducible refine (clk6_is HB.out _ HZB.out).mono ?_); rintro e w' ⟨rfl, hb⟩)))
  clear S1
  have hS := ‹_ ∧ Below w.heap.size w _›
  have R1 : TokB _ w.heap.size 0 ⟨#[]⟩ 0 := hS.1
  have B1 := hS.2
  have ⟨r0, r1, r2, f0, f1, f2⟩ := R1.cells
  by_cases h1 : 0 ≤ d
  · by_cases h2 : 0 ≤ n
    · by_cases h3 : n < 86400
      · have HO : Hid (o = some (5, [], d * 86400 + n)) := Lib.hid (by rw [HO.out, if_pos ⟨h1, h2, h3⟩])
        go_wp2_with fail
        exact bodyPost_ret (v := .tuple #[.agg #[.int .i64 5, .string ⟨#[]⟩, .int .i64 (d * 86400 + n)], .int .i64 0]) (by simp [results, Tryz.results51, go_sem, r0, r1, r2]) rfl (TokV.yes HO.out (below_set (below_set (below_set B1 (Nat.le_refl _) _) (Nat.le_refl _) _) (Nat.le_refl _) _))
      · have HO : Hid (o = none) := Lib.hid (by rw [HO.out, if_neg (fun h => h3 h.2.2)])
        have h3' : decide (n < (86400 : Int)) = false := by simpa using h3
        go_wp2_with fail
        exact bodyPost_ret (v := .tuple #[.agg #[.int .i64 0, .string ⟨#[]⟩, .int .i64 0], .int .i64 2]) (by simp [results, Tryz.results51, go_sem, r0, r1, r2]) rfl (TokV.no HO.out (below_set (below_set (below_set B1 (Nat.le_refl _) _) (Nat.le_refl _) _) (Nat.le_refl _) _))
    · have HO : Hid (o = none) := Lib.hid (by rw [HO.out, if_neg (fun h => h2 h.2.1)])
      have h2' : decide ((0 : Int) ≤ n) = false := by simpa using h2
      go_wp2_with fail
      exact bodyPost_ret (v := .tuple #[.agg #[.int .i64 0, .string ⟨#[]⟩, .int .i64 0], .int .i64 2]) (by simp [results, Tryz.results51, go_sem, r0, r1, r2]) rfl (TokV.no HO.out (below_set (below_set (below_set B1 (Nat.le_refl _) _) (Nat.le_refl _) _) (Nat.le_refl _) _))
  · have HO : Hid (o = none) := Lib.hid (by rw [HO.out, if_neg (fun h => h1 h.1)])
    have h1' : decide ((0 : Int) ≤ d) = false := by simpa using h1
    go_wp2_with fail
    exact bodyPost_ret (v := .tuple #[.agg #[.int .i64 0, .string ⟨#[]⟩, .int .i64 0], .int .i64 2]) (by simp [results, Tryz.results51, go_sem, r0, r1, r2]) rfl (TokV.no HO.out (below_set (below_set (below_set B1 (Nat.le_refl _) _) (Nat.le_refl _) _) (Nat.le_refl _) _))
set_option maxHeartbeats 4000000 in
theorem t6_n1 (s : ByteArray) (w : World) (hz : s.size ≤ 1000000000) (HN : Hid (Lx.nameS s.data.toList = false)) (HF : Hid ((⟨(L6.form6 s.data.toList).toArray⟩ : ByteArray) = ⟨#[100]⟩)) (hk : s.size = 1) (c : UInt8) (hc : s.data.toList[0]? = some c) (v : Nat) (HV : Hid (L6.val6 0 s.data.toList = v)) (o : Option Lx.Tk) (HO : Hid (o = if c ≠ 48 ∨ s.size = 1 then some (1, [], (v : Int)) else none)) :
    Calls Tryz.prog 51 #[.string s] w (TokV o w) := by
  have k0 : ∀ w, (Instr.index 9 (.string s) (.int .i64 0)).run Tryz.prog w = .ok (.int .u8 (c.toNat : Int)) w := fun w => str_at hc 9 Tryz.underlying9 w
  have hs10 : s.size ≤ 10 := by omega
  clear hc
  have R0 := TokB.new w 0 ⟨#[]⟩ 0
  have B0 := (Below.refl _ w).alloc (Nat.le_refl _) (.cells #[.int .i64 0, .string ⟨#[]⟩, .int .i64 0] 44)
  have ⟨r0, r1, r2, f0, f1, f2⟩ := R0.cells
  go_enter Tryz.func51, Tryz.ntmps51
  go_wp2_with fail
  refine (name6_is HN.out _ (by omega)).mono ?_
  rintro e w' ⟨rfl, rfl⟩
  go_wp2_with fail
  refine (form6_is HF.out _ (by omega)).mono ?_
  rintro e w' ⟨rfl, rfl⟩
  by_cases h1 : c = 48
  · subst h1
    have HO : Hid (o = some (1, [], (v : Int))) := Lib.hid (by rw [HO.out, if_pos (.inr hk)])
    go_wp2_with fail
    refine (num6_is HV.out _ hs10).mono ?_
    rintro e w' ⟨rfl, rfl⟩
    go_wp2_with fail
    exact bodyPost_ret (v := .tuple #[.agg #[.int .i64 1, .string ⟨#[]⟩, .int .i64 (v : Int)], .int .i64 0]) (by simp [results, Tryz.results51, go_sem, r0, r1, r2]) rfl (TokV.yes HO.out ((Below.refl _ _).alloc (Nat.le_refl _) _))
  · have h1' : ((c.toNat : Int) != 48) = true := by
      simp only [bne_iff_ne, ne_eq]
      intro h
      exact h1 (UInt8.toNat_inj.1 (by show c.toNat = 48; omega))
    have HO : Hid (o = some (1, [], (v : Int))) := Lib.hid (by rw [HO.out, if_pos (.inl h1)])
    go_wp2_with fail
    refine (num6_is HV.out _ hs10).mono ?_
    rintro e w' ⟨rfl, rfl⟩
    go_wp2_with fail
    exact bodyPost_ret (v := .tuple #[.agg #[.int .i64 1, .string ⟨#[]⟩, .int .i64 (v : Int)], .int .i64 0]) (by simp [results, Tryz.results51, go_sem, r0, r1, r2]) rfl (TokV.yes HO.out ((Below.refl _ _).alloc (Nat.le_refl _) _))
set_option maxHeartbeats 4000000 in
theorem t6_n2 (s : ByteArray) (w : World) (hz : s.size ≤ 1000000000) (HN : Hid (Lx.nameS s.data.toList = false)) (HF : Hid ((⟨(L6.form6 s.data.toList).toArray⟩ : ByteArray) = ⟨#[100, 100]⟩)) (hk : s.size = 2) (c : UInt8) (hc : s.data.toList[0]? = some c) (v : Nat) (HV : Hid (L6.val6 0 s.data.toList = v)) (o : Option Lx.Tk) (HO : Hid (o = if c ≠ 48 ∨ s.size = 1 then some (1, [], (v : Int)) else none)) :
    Calls Tryz.prog 51 #[.string s] w (TokV o w) := by
  have k0 : ∀ w, (Instr.index 9 (.string s) (.int .i64 0)).run Tryz.prog w = .ok (.int .u8 (c.toNat : Int)) w := fun w => str_at hc 9 Tryz.underlying9 w
  have hs10 : s.size ≤ 10 := by omega
  clear hc
  have R0 := TokB.new w 0 ⟨#[]⟩ 0
  have B0 := (Below.refl _ w).alloc (Nat.le_refl _) (.cells #[.int .i64 0, .string ⟨#[]⟩, .int .i64 0] 44)
  have ⟨r0, r1, r2, f0, f1, f2⟩ := R0.cells
  go_enter Tryz.func51, Tryz.ntmps51
  go_wp2_with fail
  refine (name6_is HN.out _ (by omega)).mono ?_
  rintro e w' ⟨rfl, rfl⟩
  go_wp2_with fail
  refine (form6_is HF.out _ (by omega)).mono ?_
  rintro e w' ⟨rfl, rfl⟩
  by_cases h1 : c = 48
  · subst h1
    have HO : Hid (o = none) := Lib.hid (by rw [HO.out, if_neg (by rw [hk]; decide)])
    go_wp2_with fail
    exact bodyPost_ret (v := .tuple #[.agg #[.int .i64 0, .string ⟨#[]⟩, .int .i64 0], .int .i64 2]) (by simp [results, Tryz.results51, go_sem, r0, r1, r2]) rfl (TokV.no HO.out ((Below.refl _ _).alloc (Nat.le_refl _) _))
  · have h1' : ((c.toNat : Int) != 48) = true := by
      simp only [bne_iff_ne, ne_eq]
      intro h
      exact h1 (UInt8.toNat_inj.1 (by show c.toNat = 48; omega))
    have HO : Hid (o = some (1, [], (v : Int))) := Lib.hid (by rw [HO.out, if_pos (.inl h1)])
    go_wp2_with fail
    refine (num6_is HV.out _ hs10).mono ?_
    rintro e w' ⟨rfl, rfl⟩
    go_wp2_with fail
    exact bodyPost_ret (v := .tuple #[.agg #[.int .i64 1, .string ⟨#[]⟩, .int .i64 (v : Int)], .int .i64 0]) (by simp [results, Tryz.results51, go_sem, r0, r1, r2]) rfl (TokV.yes HO.out ((Below.refl _ _).alloc (Nat.le_refl _) _))
set_option maxHeartbeats 4000000 in
theorem t6_n3 (s : ByteArray) (w : World) (hz : s.size ≤ 1000000000) (HN : Hid (Lx.nameS s.data.toList = false)) (HF : Hid ((⟨(L6.form6 s.data.toList).toArray⟩ : ByteArray) = ⟨#[100, 100, 100]⟩)) (hk : s.size = 3) (c : UInt8) (hc : s.data.toList[0]? = some c) (v : Nat) (HV : Hid (L6.val6 0 s.data.toList = v)) (o : Option Lx.Tk) (HO : Hid (o = if c ≠ 48 ∨ s.size = 1 then some (1, [], (v : Int)) else none)) :
    Calls Tryz.prog 51 #[.string s] w (TokV o w) := by
  have k0 : ∀ w, (Instr.index 9 (.string s) (.int .i64 0)).run Tryz.prog w = .ok (.int .u8 (c.toNat : Int)) w := fun w => str_at hc 9 Tryz.underlying9 w
  have hs10 : s.size ≤ 10 := by omega
  clear hc
  have R0 := TokB.new w 0 ⟨#[]⟩ 0
  have B0 := (Below.refl _ w).alloc (Nat.le_refl _) (.cells #[.int .i64 0, .string ⟨#[]⟩, .int .i64 0] 44)
  have ⟨r0, r1, r2, f0, f1, f2⟩ := R0.cells
  go_enter Tryz.func51, Tryz.ntmps51
  go_wp2_with fail
  refine (name6_is HN.out _ (by omega)).mono ?_
  rintro e w' ⟨rfl, rfl⟩
  go_wp2_with fail
  refine (form6_is HF.out _ (by omega)).mono ?_
  rintro e w' ⟨rfl, rfl⟩
  by_cases h1 : c = 48
  · subst h1
    have HO : Hid (o = none) := Lib.hid (by rw [HO.out, if_neg (by rw [hk]; decide)])
    go_wp2_with fail
    exact bodyPost_ret (v := .tuple #[.agg #[.int .i64 0, .string ⟨#[]⟩, .int .i64 0], .int .i64 2]) (by simp [results, Tryz.results51, go_sem, r0, r1, r2]) rfl (TokV.no HO.out ((Below.refl _ _).alloc (Nat.le_refl _) _))
  · have h1' : ((c.toNat : Int) != 48) = true := by
      simp only [bne_iff_ne, ne_eq]
      intro h
      exact h1 (UInt8.toNat_inj.1 (by show c.toNat = 48; omega))
    have HO : Hid (o = some (1, [], (v : Int))) := Lib.hid (by rw [HO.out, if_pos (.inl h1)])
    go_wp2_with fail
    refine (num6_is HV.out _ hs10).mono ?_
    rintro e w' ⟨rfl, rfl⟩
    go_wp2_with fail
    exact bodyPost_ret (v := .tuple #[.agg #[.int .i64 1, .string ⟨#[]⟩, .int .i64 (v : Int)], .int .i64 0]) (by simp [results, Tryz.results51, go_sem, r0, r1, r2]) rfl (TokV.yes HO.out ((Below.refl _ _).alloc (Nat.le_refl _) _))
set_option maxHeartbeats 4000000 in
theorem t6_n4 (s : ByteArray) (w : World) (hz : s.size ≤ 1000000000) (HN : Hid (Lx.nameS s.data.toList = false)) (HF : Hid ((⟨(L6.form6 s.data.toList).toArray⟩ : ByteArray) = ⟨#[100, 100, 100, 100]⟩)) (hk : s.size = 4) (c : UInt8) (hc : s.data.toList[0]? = some c) (v : Nat) (HV : Hid (L6.val6 0 s.data.toList = v)) (o : Option Lx.Tk) (HO : Hid (o = if c ≠ 48 ∨ s.size = 1 then some (1, [], (v : Int)) else none)) :
    Calls Tryz.prog 51 #[.string s] w (TokV o w) := by
  have k0 : ∀ w, (Instr.index 9 (.string s) (.int .i64 0)).run Tryz.prog w = .ok (.int .u8 (c.toNat : Int)) w := fun w => str_at hc 9 Tryz.underlying9 w
  have hs10 : s.size ≤ 10 := by omega
  clear hc
  have R0 := TokB.new w 0 ⟨#[]⟩ 0
  have B0 := (Below.refl _ w).alloc (Nat.le_refl _) (.cells #[.int .i64 0, .string ⟨#[]⟩, .int .i64 0] 44)
  have ⟨r0, r1, r2, f0, f1, f2⟩ := R0.cells
  go_enter Tryz.func51, Tryz.ntmps51
  go_wp2_with fail
  refine (name6_is HN.out _ (by omega)).mono ?_
  rintro e w' ⟨rfl, rfl⟩
  go_wp2_with fail
  refine (form6_is HF.out _ (by omega)).mono ?_
  rintro e w' ⟨rfl, rfl⟩
  by_cases h1 : c = 48
  · subst h1
    have HO : Hid (o = none) := Lib.hid (by rw [HO.out, if_neg (by rw [hk]; decide)])
    go_wp2_with fail
    exact bodyPost_ret (v := .tuple #[.agg #[.int .i64 0, .string ⟨#[]⟩, .int .i64 0], .int .i64 2]) (by simp [results, Tryz.results51, go_sem, r0, r1, r2]) rfl (TokV.no HO.out ((Below.refl _ _).alloc (Nat.le_refl _) _))
  · have h1' : ((c.toNat : Int) != 48) = true := by
      simp only [bne_iff_ne, ne_eq]
      intro h
      exact h1 (UInt8.toNat_inj.1 (by show c.toNat = 48; omega))
    have HO : Hid (o = some (1, [], (v : Int))) := Lib.hid (by rw [HO.out, if_pos (.inl h1)])
    go_wp2_with fail
    refine (num6_is HV.out _ hs10).mono ?_
    rintro e w' ⟨rfl, rfl⟩
    go_wp2_with fail
    exact bodyPost_ret (v := .tuple #[.agg #[.int .i64 1, .string ⟨#[]⟩, .int .i64 (v : Int)], .int .i64 0]) (by simp [results, Tryz.results51, go_sem, r0, r1, r2]) rfl (TokV.yes HO.out ((Below.refl _ _).alloc (Nat.le_refl _) _))
set_option maxHeartbeats 4000000 in
theorem t6_n5 (s : ByteArray) (w : World) (hz : s.size ≤ 1000000000) (HN : Hid (Lx.nameS s.data.toList = false)) (HF : Hid ((⟨(L6.form6 s.data.toList).toArray⟩ : ByteArray) = ⟨#[100, 100, 100, 100, 100]⟩)) (hk : s.size = 5) (c : UInt8) (hc : s.data.toList[0]? = some c) (v : Nat) (HV : Hid (L6.val6 0 s.data.toList = v)) (o : Option Lx.Tk) (HO : Hid (o = if c ≠ 48 ∨ s.size = 1 then some (1, [], (v : Int)) else none)) :
    Calls Tryz.prog 51 #[.string s] w (TokV o w) := by
  have k0 : ∀ w, (Instr.index 9 (.string s) (.int .i64 0)).run Tryz.prog w = .ok (.int .u8 (c.toNat : Int)) w := fun w => str_at hc 9 Tryz.underlying9 w
  have hs10 : s.size ≤ 10 := by omega
  clear hc
  have R0 := TokB.new w 0 ⟨#[]⟩ 0
  have B0 := (Below.refl _ w).alloc (Nat.le_refl _) (.cells #[.int .i64 0, .string ⟨#[]⟩, .int .i64 0] 44)
  have ⟨r0, r1, r2, f0, f1, f2⟩ := R0.cells
  go_enter Tryz.func51, Tryz.ntmps51
  go_wp2_with fail
  refine (name6_is HN.out _ (by omega)).mono ?_
  rintro e w' ⟨rfl, rfl⟩
  go_wp2_with fail
  refine (form6_is HF.out _ (by omega)).mono ?_
  rintro e w' ⟨rfl, rfl⟩
  by_cases h1 : c = 48
  · subst h1
    have HO : Hid (o = none) := Lib.hid (by rw [HO.out, if_neg (by rw [hk]; decide)])
    go_wp2_with fail
    exact bodyPost_ret (v := .tuple #[.agg #[.int .i64 0, .string ⟨#[]⟩, .int .i64 0], .int .i64 2]) (by simp [results, Tryz.results51, go_sem, r0, r1, r2]) rfl (TokV.no HO.out ((Below.refl _ _).alloc (Nat.le_refl _) _))
  · have h1' : ((c.toNat : Int) != 48) = true := by
      simp only [bne_iff_ne, ne_eq]
      intro h
      exact h1 (UInt8.toNat_inj.1 (by show c.toNat = 48; omega))
    have HO : Hid (o = some (1, [], (v : Int))) := Lib.hid (by rw [HO.out, if_pos (.inl h1)])
    go_wp2_with fail
    refine (num6_is HV.out _ hs10).mono ?_
    rintro e w' ⟨rfl, rfl⟩
    go_wp2_with fail
    exact bodyPost_ret (v := .tuple #[.agg #[.int .i64 1, .string ⟨#[]⟩, .int .i64 (v : Int)], .int .i64 0]) (by simp [results, Tryz.results51, go_sem, r0, r1, r2]) rfl (TokV.yes HO.out ((Below.refl _ _).alloc (Nat.le_refl _) _))
set_option maxHeartbeats 4000000 in
theorem t6_n6 (s : ByteArray) (w : World) (hz : s.size ≤ 1000000000) (HN : Hid (Lx.nameS s.data.toList = false)) (HF : Hid ((⟨(L6.form6 s.data.toList).toArray⟩ : ByteArray) = ⟨#[100, 100, 100, 100, 100, 100]⟩)) (hk : s.size = 6) (c : UInt8) (hc : s.data.toList[0]? = some c) (v : Nat) (HV : Hid (L6.val6 0 s.data.toList = v)) (o : Option Lx.Tk) (HO : Hid (o = if c ≠ 48 ∨ s.size = 1 then some (1, [], (v : Int)) else none)) :
    Calls Tryz.prog 51 #[.string s] w (TokV o w) := by
  have k0 : ∀ w, (Instr.index 9 (.string s) (.int .i64 0)).run Tryz.prog w = .ok (.int .u8 (c.toNat : Int)) w := fun w => str_at hc 9 Tryz.underlying9 w
  have hs10 : s.size ≤ 10 := by omega
  clear hc
  have R0 := TokB.new w 0 ⟨#[]⟩ 0
  have B0 := (Below.refl _ w).alloc (Nat.le_refl _) (.cells #[.int .i64 0, .string ⟨#[]⟩, .int .i64 0] 44)
  have ⟨r0, r1, r2, f0, f1, f2⟩ := R0.cells
  go_enter Tryz.func51, Tryz.ntmps51
  go_wp2_with fail
  refine (name6_is HN.out _ (by omega)).mono ?_
  rintro e w' ⟨rfl, rfl⟩
  go_wp2_with fail
  refine (form6_is HF.out _ (by omega)).mono ?_
  rintro e w' ⟨rfl, rfl⟩
  by_cases h1 : c = 48
  · subst h1
    have HO : Hid (o = none) := Lib.hid (by rw [HO.out, if_neg (by rw [hk]; decide)])
    go_wp2_with fail
    exact bodyPost_ret (v := .tuple #[.agg #[.int .i64 0, .string ⟨#[]⟩, .int .i64 0], .int .i64 2]) (by simp [results, Tryz.results51, go_sem, r0, r1, r2]) rfl (TokV.no HO.out ((Below.refl _ _).alloc (Nat.le_refl _) _))
  · have h1' : ((c.toNat : Int) != 48) = true := by
      simp only [bne_iff_ne, ne_eq]
      intro h
      exact h1 (UInt8.toNat_inj.1 (by show c.toNat = 48; omega))
    have HO : Hid (o = some (1, [], (v : Int))) := Lib.hid (by rw [HO.out, if_pos (.inl h1)])
    go_wp2_with fail
    refine (num6_is HV.out _ hs10).mono ?_
    rintro e w' ⟨rfl, rfl⟩
    go_wp2_with fail
    exact bodyPost_ret (v := .tuple #[.agg #[.int .i64 1, .string ⟨#[]⟩, .int .i64 (v : Int)], .int .i64 0]) (by simp [results, Tryz.results51, go_sem, r0, r1, r2]) rfl (TokV.yes HO.out ((Below.refl _ _).alloc (Nat.le_refl _) _))
set_option maxHeartbeats 4000000 in
theorem t6_n7 (s : ByteArray) (w : World) (hz : s.size ≤ 1000000000) (HN : Hid (Lx.nameS s.data.toList = false)) (HF : Hid ((⟨(L6.form6 s.data.toList).toArray⟩ : ByteArray) = ⟨#[100, 100, 100, 100, 100, 100, 100]⟩)) (hk : s.size = 7) (c : UInt8) (hc : s.data.toList[0]? = some c) (v : Nat) (HV : Hid (L6.val6 0 s.data.toList = v)) (o : Option Lx.Tk) (HO : Hid (o = if c ≠ 48 ∨ s.size = 1 then some (1, [], (v : Int)) else none)) :
    Calls Tryz.prog 51 #[.string s] w (TokV o w) := by
  have k0 : ∀ w, (Instr.index 9 (.string s) (.int .i64 0)).run Tryz.prog w = .ok (.int .u8 (c.toNat : Int)) w := fun w => str_at hc 9 Tryz.underlying9 w
  have hs10 : s.size ≤ 10 := by omega
  clear hc
  have R0 := TokB.new w 0 ⟨#[]⟩ 0
  have B0 := (Below.refl _ w).alloc (Nat.le_refl _) (.cells #[.int .i64 0, .string ⟨#[]⟩, .int .i64 0] 44)
  have ⟨r0, r1, r2, f0, f1, f2⟩ := R0.cells
  go_enter Tryz.func51, Tryz.ntmps51
  go_wp2_with fail
  refine (name6_is HN.out _ (by omega)).mono ?_
  rintro e w' ⟨rfl, rfl⟩
  go_wp2_with fail
  refine (form6_is HF.out _ (by omega)).mono ?_
  rintro e w' ⟨rfl, rfl⟩
  by_cases h1 : c = 48
  · subst h1
    have HO : Hid (o = none) := Lib.hid (by rw [HO.out, if_neg (by rw [hk]; decide)])
    go_wp2_with fail
    exact bodyPost_ret (v := .tuple #[.agg #[.int .i64 0, .string ⟨#[]⟩, .int .i64 0], .int .i64 2]) (by simp [results, Tryz.results51, go_sem, r0, r1, r2]) rfl (TokV.no HO.out ((Below.refl _ _).alloc (Nat.le_refl _) _))
  · have h1' : ((c.toNat : Int) != 48) = true := by
      simp only [bne_iff_ne, ne_eq]
      intro h
      exact h1 (UInt8.toNat_inj.1 (by show c.toNat = 48; omega))
    have HO : Hid (o = some (1, [], (v : Int))) := Lib.hid (by rw [HO.out, if_pos (.inl h1)])
    go_wp2_with fail
    refine (num6_is HV.out _ hs10).mono ?_
    rintro e w' ⟨rfl, rfl⟩
    go_wp2_with fail
    exact bodyPost_ret (v := .tuple #[.agg #[.int .i64 1, .string ⟨#[]⟩, .int .i64 (v : Int)], .int .i64 0]) (by simp [results, Tryz.results51, go_sem, r0, r1, r2]) rfl (TokV.yes HO.out ((Below.refl _ _).alloc (Nat.le_refl _) _))
set_option maxHeartbeats 4000000 in
theorem t6_n8 (s : ByteArray) (w : World) (hz : s.size ≤ 1000000000) (HN : Hid (Lx.nameS s.data.toList = false)) (HF : Hid ((⟨(L6.form6 s.data.toList).toArray⟩ : ByteArray) = ⟨#[100, 100, 100, 100, 100, 100, 100, 100]⟩)) (hk : s.size = 8) (c : UInt8) (hc : s.data.toList[0]? = some c) (v : Nat) (HV : Hid (L6.val6 0 s.data.toList = v)) (o : Option Lx.Tk) (HO : Hid (o = if c ≠ 48 ∨ s.size = 1 then some (1, [], (v : Int)) else none)) :
    Calls Tryz.prog 51 #[.string s] w (TokV o w) := by
  have k0 : ∀ w, (Instr.index 9 (.string s) (.int .i64 0)).run Tryz.prog w = .ok (.int .u8 (c.toNat : Int)) w := fun w => str_at hc 9 Tryz.underlying9 w
  have hs10 : s.size ≤ 10 := by omega
  clear hc
  have R0 := TokB.new w 0 ⟨#[]⟩ 0
  have B0 := (Below.refl _ w).alloc (Nat.le_refl _) (.cells #[.int .i64 0, .string ⟨#[]⟩, .int .i64 0] 44)
  have ⟨r0, r1, r2, f0, f1, f2⟩ := R0.cells
  go_enter Tryz.func51, Tryz.ntmps51
  go_wp2_with fail
  refine (name6_is HN.out _ (by omega)).mono ?_
  rintro e w' ⟨rfl, rfl⟩
  go_wp2_with fail
  refine (form6_is HF.out _ (by omega)).mono ?_
  rintro e w' ⟨rfl, rfl⟩
  by_cases h1 : c = 48
  · subst h1
    have HO : Hid (o = none) := Lib.hid (by rw [HO.out, if_neg (by rw [hk]; decide)])
    go_wp2_with fail
    exact bodyPost_ret (v := .tuple #[.agg #[.int .i64 0, .string ⟨#[]⟩, .int .i64 0], .int .i64 2]) (by simp [results, Tryz.results51, go_sem, r0, r1, r2]) rfl (TokV.no HO.out ((Below.refl _ _).alloc (Nat.le_refl _) _))
  · have h1' : ((c.toNat : Int) != 48) = true := by
      simp only [bne_iff_ne, ne_eq]
      intro h
      exact h1 (UInt8.toNat_inj.1 (by show c.toNat = 48; omega))
    have HO : Hid (o = some (1, [], (v : Int))) := Lib.hid (by rw [HO.out, if_pos (.inl h1)])
    go_wp2_with fail
    refine (num6_is HV.out _ hs10).mono ?_
    rintro e w' ⟨rfl, rfl⟩
    go_wp2_with fail
    exact bodyPost_ret (v := .tuple #[.agg #[.int .i64 1, .string ⟨#[]⟩, .int .i64 (v : Int)], .int .i64 0]) (by simp [results, Tryz.results51, go_sem, r0, r1, r2]) rfl (TokV.yes HO.out ((Below.refl _ _).alloc (Nat.le_refl _) _))
set_option maxHeartbeats 4000000 in
theorem t6_n9 (s : ByteArray) (w : World) (hz : s.size ≤ 1000000000) (HN : Hid (Lx.nameS s.data.toList = false)) (HF : Hid ((⟨(L6.form6 s.data.toList).toArray⟩ : ByteArray) = ⟨#[100, 100, 100, 100, 100, 100, 100, 100, 100]⟩)) (hk : s.size = 9) (c : UInt8) (hc : s.data.toList[0]? = some c) (v : Nat) (HV : Hid (L6.val6 0 s.data.toList = v)) (o : Option Lx.Tk) (HO : Hid (o = if c ≠ 48 ∨ s.size = 1 then some (1, [], (v : Int)) else none)) :
    Calls Tryz.prog 51 #[.string s] w (TokV o w) := by
  have k0 : ∀ w, (Instr.index 9 (.string s) (.int .i64 0)).run Tryz.prog w = .ok (.int .u8 (c.toNat : Int)) w := fun w => str_at hc 9 Tryz.underlying9 w
  have hs10 : s.size ≤ 10 := by omega
  clear hc
  have R0 := TokB.new w 0 ⟨#[]⟩ 0
  have B0 := (Below.refl _ w).alloc (Nat.le_refl _) (.cells #[.int .i64 0, .string ⟨#[]⟩, .int .i64 0] 44)
  have ⟨r0, r1, r2, f0, f1, f2⟩ := R0.cells
  go_enter Tryz.func51, Tryz.ntmps51
  go_wp2_with fail
  refine (name6_is HN.out _ (by omega)).mono ?_
  rintro e w' ⟨rfl, rfl⟩
  go_wp2_with fail
  refine (form6_is HF.out _ (by omega)).mono ?_
  rintro e w' ⟨rfl, rfl⟩
  by_cases h1 : c = 48
  · subst h1
    have HO : Hid (o = none) := Lib.hid (by rw [HO.out, if_neg (by rw [hk]; decide)])
    go_wp2_with fail
    exact bodyPost_ret (v := .tuple #[.agg #[.int .i64 0, .string ⟨#[]⟩, .int .i64 0], .int .i64 2]) (by simp [results, Tryz.results51, go_sem, r0, r1, r2]) rfl (TokV.no HO.out ((Below.refl _ _).alloc (Nat.le_refl _) _))
  · have h1' : ((c.toNat : Int) != 48) = true := by
      simp only [bne_iff_ne, ne_eq]
      intro h
      exact h1 (UInt8.toNat_inj.1 (by show c.toNat = 48; omega))
    have HO : Hid (o = some (1, [], (v : Int))) := Lib.hid (by rw [HO.out, if_pos (.inl h1)])
    go_wp2_with fail
    refine (num6_is HV.out _ hs10).mono ?_
    rintro e w' ⟨rfl, rfl⟩
    go_wp2_with fail
    exact bodyPost_ret (v := .tuple #[.agg #[.int .i64 1, .string ⟨#[]⟩, .int .i64 (v : Int)], .int .i64 0]) (by simp [results, Tryz.results51, go_sem, r0, r1, r2]) rfl (TokV.yes HO.out ((Below.refl _ _).alloc (Nat.le_refl _) _))

theorem arr_ne {F : ByteArray} {l f : List UInt8} (h : (⟨l.toArray⟩ : ByteArray) = F) (hne : ¬ l = f) : (F.toList == f) = false := by
  rw [Lib.toList_data, ← h]
  exact beq_eq_false_iff_ne.2 hne
theorem arr_eq {l f : List UInt8} (h : l = f) : (⟨l.toArray⟩ : ByteArray) = ⟨f.toArray⟩ := by rw [h]
theorem token6_any (s : ByteArray) (w : World) (hz : s.size ≤ 1000000000) : Calls Tryz.prog 51 #[.string s] w (TokV (L6.tok6S s.data.toList) w) := by
  have hs := Lib.size_eq s
  have hfl := L6.form6_len s.data.toList
  by_cases hn : Lx.nameS s.data.toList = true
  · exact t6_name s w hz (Lib.hid hn) _ (Lib.hid (by unfold L6.tok6S; rw [if_pos hn]))
  have HN : Hid (Lx.nameS s.data.toList = false) := Lib.hid (by simpa using hn)
  by_cases hc5 : L6.form6 s.data.toList = [100, 100, 58, 100, 100]
  · have e : s.size = 5 := by rw [hs, ← hfl, hc5]; rfl
    exact t6_c5 s w hz HN (Lib.hid (arr_eq hc5)) (.inl e) _ (Lib.hid rfl) _ (Lib.hid (by unfold L6.tok6S; rw [if_neg hn, if_pos (.inl hc5)]))
  by_cases hc8 : L6.form6 s.data.toList = [100, 100, 58, 100, 100, 58, 100, 100]
  · have e : s.size = 8 := by rw [hs, ← hfl, hc8]; rfl
    exact t6_c8 s w hz HN (Lib.hid (arr_eq hc8)) (.inr e) _ (Lib.hid rfl) _ (Lib.hid (by unfold L6.tok6S; rw [if_neg hn, if_pos (.inr hc8)]))
  have n1 : ¬ (L6.form6 s.data.toList = [100, 100, 58, 100, 100] ∨ L6.form6 s.data.toList = [100, 100, 58, 100, 100, 58, 100, 100]) := by simp only [not_or]; exact ⟨hc5, hc8⟩
  by_cases hdt : L6.form6 s.data.toList = [100, 100, 100, 100, 45, 100, 100, 45, 100, 100]
  · have e : s.size = 10 := by rw [hs, ← hfl, hdt]; rfl
    exact t6_dt s w hz HN (Lib.hid (arr_eq hdt)) (by omega) _ (Lib.hid rfl) _ (Lib.hid (by unfold L6.tok6S; rw [if_neg hn, if_neg n1, if_pos hdt]))
  by_cases hop : L6.form6 s.data.toList = [43, 100, 100, 58, 100, 100]
  · have e : s.size = 6 := by rw [hs, ← hfl, hop]; rfl
    have hh := L6.form6_head hop (by decide)
    exact t6_op s w hz HN (Lib.hid (arr_eq hop)) e (by rw [← List.head?_eq_getElem?]; exact hh) _ (Lib.hid rfl) _ (Lib.hid (by unfold L6.tok6S; rw [if_neg hn, if_neg n1, if_neg hdt, if_pos (.inl hop), hh]; rfl))
  by_cases hom : L6.form6 s.data.toList = [45, 100, 100, 58, 100, 100]
  · have e : s.size = 6 := by rw [hs, ← hfl, hom]; rfl
    have hh := L6.form6_head hom (by decide)
    exact t6_om s w hz HN (Lib.hid (arr_eq hom)) e (by rw [← List.head?_eq_getElem?]; exact hh) _ (Lib.hid rfl) _ (Lib.hid (by unfold L6.tok6S; rw [if_neg hn, if_neg n1, if_neg hdt, if_pos (.inr hom), hh]; rfl))
  have n3 : ¬ (L6.form6 s.data.toList = [43, 100, 100, 58, 100, 100] ∨ L6.form6 s.data.toList = [45, 100, 100, 58, 100, 100]) := by simp only [not_or]; exact ⟨hop, hom⟩
  by_cases hit : L6.form6 s.data.toList = [100, 100, 100, 100, 45, 100, 100, 45, 100, 100, 84, 100, 100, 58, 100, 100, 58, 100, 100, 90]
  · have e : s.size = 20 := by rw [hs, ← hfl, hit]; rfl
    exact t6_it s w hz HN (Lib.hid (arr_eq hit)) e _ _ (Lib.hid rfl) (Lib.hid rfl) _ (Lib.hid (by unfold L6.tok6S; rw [if_neg hn, if_neg n1, if_neg hdt, if_neg n3, if_pos hit]))
  by_cases hn1 : L6.form6 s.data.toList = [100]
  · have e : s.size = 1 := by rw [hs, ← hfl, hn1]; rfl
    obtain ⟨c, hc⟩ : ∃ c, s.data.toList[0]? = some c := ⟨_, List.getElem?_eq_getElem (by omega)⟩
    have hr : L6.form6 s.data.toList = List.replicate s.data.toList.length 100 ∧ 1 ≤ s.data.toList.length ∧ s.data.toList.length ≤ 9 := by rw [← hs, e]; exact ⟨hn1, by decide, by decide⟩
    exact t6_n1 s w hz HN (Lib.hid (arr_eq hn1)) e c hc _ (Lib.hid rfl) _ (Lib.hid (by unfold L6.tok6S; rw [if_neg hn, if_neg n1, if_neg hdt, if_neg n3, if_neg hit, if_pos hr, List.head?_eq_getElem?, hc, ← hs]; simp only [ne_eq, Option.some.injEq]))
  by_cases hn2 : L6.form6 s.data.toList = [100, 100]
  · have e : s.size = 2 := by rw [hs, ← hfl, hn2]; rfl
    obtain ⟨c, hc⟩ : ∃ c, s.data.toList[0]? = some c := ⟨_, List.getElem?_eq_getElem (by omega)⟩
    have hr : L6.form6 s.data.toList = List.replicate s.data.toList.length 100 ∧ 1 ≤ s.data.toList.length ∧ s.data.toList.length ≤ 9 := by rw [← hs, e]; exact ⟨hn2, by decide, by decide⟩
    exact t6_n2 s w hz HN (Lib.hid (arr_eq hn2)) e c hc _ (Lib.hid rfl) _ (Lib.hid (by unfold L6.tok6S; rw [if_neg hn, if_neg n1, if_neg hdt, if_neg n3, if_neg hit, if_pos hr, List.head?_eq_getElem?, hc, ← hs]; simp only [ne_eq, Option.some.injEq]))
  by_cases hn3 : L6.form6 s.data.toList = [100, 100, 100]
  · have e : s.size = 3 := by rw [hs, ← hfl, hn3]; rfl
    obtain ⟨c, hc⟩ : ∃ c, s.data.toList[0]? = some c := ⟨_, List.getElem?_eq_getElem (by omega)⟩
    have hr : L6.form6 s.data.toList = List.replicate s.data.toList.length 100 ∧ 1 ≤ s.data.toList.length ∧ s.data.toList.length ≤ 9 := by rw [← hs, e]; exact ⟨hn3, by decide, by decide⟩
    exact t6_n3 s w hz HN (Lib.hid (arr_eq hn3)) e c hc _ (Lib.hid rfl) _ (Lib.hid (by unfold L6.tok6S; rw [if_neg hn, if_neg n1, if_neg hdt, if_neg n3, if_neg hit, if_pos hr, List.head?_eq_getElem?, hc, ← hs]; simp only [ne_eq, Option.some.injEq]))
  by_cases hn4 : L6.form6 s.data.toList = [100, 100, 100, 100]
  · have e : s.size = 4 := by rw [hs, ← hfl, hn4]; rfl
    obtain ⟨c, hc⟩ : ∃ c, s.data.toList[0]? = some c := ⟨_, List.getElem?_eq_getElem (by omega)⟩
    have hr : L6.form6 s.data.toList = List.replicate s.data.toList.length 100 ∧ 1 ≤ s.data.toList.length ∧ s.data.toList.length ≤ 9 := by rw [← hs, e]; exact ⟨hn4, by decide, by decide⟩
    exact t6_n4 s w hz HN (Lib.hid (arr_eq hn4)) e c hc _ (Lib.hid rfl) _ (Lib.hid (by unfold L6.tok6S; rw [if_neg hn, if_neg n1, if_neg hdt, if_neg n3, if_neg hit, if_pos hr, List.head?_eq_getElem?, hc, ← hs]; simp only [ne_eq, Option.some.injEq]))
  by_cases hn5 : L6.form6 s.data.toList = [100, 100, 100, 100, 100]
  · have e : s.size = 5 := by rw [hs, ← hfl, hn5]; rfl
    obtain ⟨c, hc⟩ : ∃ c, s.data.toList[0]? = some c := ⟨_, List.getElem?_eq_getElem (by omega)⟩
    have hr : L6.form6 s.data.toList = List.replicate s.data.toList.length 100 ∧ 1 ≤ s.data.toList.length ∧ s.data.toList.length ≤ 9 := by rw [← hs, e]; exact ⟨hn5, by decide, by decide⟩
    exact t6_n5 s w hz HN (Lib.hid (arr_eq hn5)) e c hc _ (Lib.hid rfl) _ (Lib.hid (by unfold L6.tok6S; rw [if_neg hn, if_neg n1, if_neg hdt, if_neg n3, if_neg hit, if_pos hr, List.head?_eq_getElem?, hc, ← hs]; simp only [ne_eq, Option.some.injEq]))
  by_cases hn6 : L6.form6 s.data.toList = [100, 100, 100, 100, 100, 100]
  · have e : s.size = 6 := by rw [hs, ← hfl, hn6]; rfl
    obtain ⟨c, hc⟩ : ∃ c, s.data.toList[0]? = some c := ⟨_, List.getElem?_eq_getElem (by omega)⟩
    have hr : L6.form6 s.data.toList = List.replicate s.data.toList.length 100 ∧ 1 ≤ s.data.toList.length ∧ s.data.toList.length ≤ 9 := by rw [← hs, e]; exact ⟨hn6, by decide, by decide⟩
    exact t6_n6 s w hz HN (Lib.hid (arr_eq hn6)) e c hc _ (Lib.hid rfl) _ (Lib.hid (by unfold L6.tok6S; rw [if_neg hn, if_neg n1, if_neg hdt, if_neg n3, if_neg hit, if_pos hr, List.head?_eq_getElem?, hc, ← hs]; simp only [ne_eq, Option.some.injEq]))
  by_cases hn7 : L6.form6 s.data.toList = [100, 100, 100, 100, 100, 100, 100]
  · have e : s.size = 7 := by rw [hs, ← hfl, hn7]; rfl
    obtain ⟨c, hc⟩ : ∃ c, s.data.toList[0]? = some c := ⟨_, List.getElem?_eq_getElem (by omega)⟩
    have hr : L6.form6 s.data.toList = List.replicate s.data.toList.length 100 ∧ 1 ≤ s.data.toList.length ∧ s.data.toList.length ≤ 9 := by rw [← hs, e]; exact ⟨hn7, by decide, by decide⟩
    exact t6_n7 s w hz HN (Lib.hid (arr_eq hn7)) e c hc _ (Lib.hid rfl) _ (Lib.hid (by unfold L6.tok6S; rw [if_neg hn, if_neg n1, if_neg hdt, if_neg n3, if_neg hit, if_pos hr, List.head?_eq_getElem?, hc, ← hs]; simp only [ne_eq, Option.some.injEq]))
  by_cases hn8 : L6.form6 s.data.toList = [100, 100, 100, 100, 100, 100, 100, 100]
  · have e : s.size = 8 := by rw [hs, ← hfl, hn8]; rfl
    obtain ⟨c, hc⟩ : ∃ c, s.data.toList[0]? = some c := ⟨_, List.getElem?_eq_getElem (by omega)⟩
    have hr : L6.form6 s.data.toList = List.replicate s.data.toList.length 100 ∧ 1 ≤ s.data.toList.length ∧ s.data.toList.length ≤ 9 := by rw [← hs, e]; exact ⟨hn8, by decide, by decide⟩
    exact t6_n8 s w hz HN (Lib.hid (arr_eq hn8)) e c hc _ (Lib.hid rfl) _ (Lib.hid (by unfold L6.tok6S; rw [if_neg hn, if_neg n1, if_neg hdt, if_neg n3, if_neg hit, if_pos hr, List.head?_eq_getElem?, hc, ← hs]; simp only [ne_eq, Option.some.injEq]))
  by_cases hn9 : L6.form6 s.data.toList = [100, 100, 100, 100, 100, 100, 100, 100, 100]
  · have e : s.size = 9 := by rw [hs, ← hfl, hn9]; rfl
    obtain ⟨c, hc⟩ : ∃ c, s.data.toList[0]? = some c := ⟨_, List.getElem?_eq_getElem (by omega)⟩
    have hr : L6.form6 s.data.toList = List.replicate s.data.toList.length 100 ∧ 1 ≤ s.data.toList.length ∧ s.data.toList.length ≤ 9 := by rw [← hs, e]; exact ⟨hn9, by decide, by decide⟩
    exact t6_n9 s w hz HN (Lib.hid (arr_eq hn9)) e c hc _ (Lib.hid rfl) _ (Lib.hid (by unfold L6.tok6S; rw [if_neg hn, if_neg n1, if_neg hdt, if_neg n3, if_neg hit, if_pos hr, List.head?_eq_getElem?, hc, ← hs]; simp only [ne_eq, Option.some.injEq]))
  refine t6_none s w hz HN _ (Lib.hid rfl) (arr_ne rfl hc5) (arr_ne rfl hc8) (arr_ne rfl hdt) (arr_ne rfl hop) (arr_ne rfl hom) (arr_ne rfl hit) (arr_ne rfl hn1) (arr_ne rfl hn2) (arr_ne rfl hn3) (arr_ne rfl hn4) (arr_ne rfl hn5) (arr_ne rfl hn6) (arr_ne rfl hn7) (arr_ne rfl hn8) (arr_ne rfl hn9) _ (Lib.hid ?_)
  unfold L6.tok6S
  rw [if_neg hn, if_neg n1, if_neg hdt, if_neg n3, if_neg hit, if_neg]
  rintro ⟨h1, h2, h3⟩
  obtain ⟨m, hm⟩ : ∃ m, s.data.toList.length = m := ⟨_, rfl⟩
  rw [hm] at h1 h2 h3
  have : m = 1 ∨ m = 2 ∨ m = 3 ∨ m = 4 ∨ m = 5 ∨ m = 6 ∨ m = 7 ∨ m = 8 ∨ m = 9 := by omega
  rcases this with rfl | rfl | rfl | rfl | rfl | rfl | rfl | rfl | rfl
  · exact hn1 h1
  · exact hn2 h1
  · exact hn3 h1
  · exact hn4 h1
  · exact hn5 h1
  · exact hn6 h1
  · exact hn7 h1
  · exact hn8 h1
  · exact hn9 h1
theorem token6_is {s : ByteArray} {o : Option Lx.Tk} (h : L6.tok6S s.data.toList = o) (w : World) (hz : s.size ≤ 1000000000) : Calls Tryz.prog 51 #[.string s] w (TokV o w) := h ▸ token6_any s w hz
end Go.Proofs.YtoohijffkbkikaaGreatDoor
