/- law08's examples. -/
import Derived.Test.YtphenbfhojdcpaaGreatDoorKlG25
import Derived.Test.YtphenbfhojdcpaaGreatDoorKlG21
namespace Go.Proofs.YtphenbfhojdcpaaGreatDoor
open Go.RowKit
set_option linter.unusedVariables false
set_option linter.unusedSimpArgs false
set_option maxRecDepth 100000
theorem one_of {α β : Type} {f : α → β} {l : List α} {b : β} (h : l.map f = [b]) : ∃ x, l = [x] ∧ f x = b := by
  match l, h with
  | [], h => cases h
  | [x], h => exact ⟨x, rfl, by simpa using h⟩
  | x :: y :: r, h => simp at h
/-- The cells of the one layer's unit. -/
theorem unit_cells {lo hi : Nat} {w : World} {v : SV} {l : List Rs.Sch} (h : Nest 3 eSch SchOk lo hi w v l) (hu : l.map (fun s => s.lays.map (·.unit)) = [[2]]) :
    v.2.1 = 1 ∧ ∃ (b off : Nat) (vl : SV) (b2 off2 : Nat), v.1 = some ⟨b, off, none⟩ ∧ w.cell? ⟨b, off + 1, none⟩ = some (.slice vl.1 vl.2.1 vl.2.2) ∧ vl.2.1 = 1 ∧ vl.1 = some ⟨b2, off2, none⟩ ∧ w.cell? ⟨b2, off2 + 4, none⟩ = some (.int .i64 2) := by
  obtain ⟨x, rfl, hx⟩ := one_of hu
  obtain ⟨y, hy, hyu⟩ := one_of hx
  have hl := h.len.1
  have h1 : v.2.1 = 1 := hl.symm
  obtain ⟨x', vy, b, off, hx', ea, hb, c0, c1, c2, hok⟩ := s_elem h (i := 0) (by omega)
  have : x' = x := by simpa using hx'.symm
  subst this
  have hL := hok.1
  rw [hy] at hL
  have h2 : vy.1.2.1 = 1 := hL.len.1.symm
  obtain ⟨y', vz, b2, off2, hy', ea2, hb2, d0, d1, d2, d3, d4, dr⟩ := l_elem hL (i := 0) (by omega)
  have : y' = y := by simpa using hy'.symm
  subst this
  refine ⟨h1, b, off, vy.1, b2, off2, ea, by simpa using c1, h2, ea2, ?_⟩
  rw [← hyu]
  simpa using d4
theorem t2_eq : (⟨R8.t2.toArray⟩ : ByteArray) = ⟨#[122, 111, 110, 101, 32, 122, 32, 43, 48, 48, 58, 48, 48, 10, 112, 101, 114, 115, 111, 110, 32, 97, 32, 122, 10, 109, 101, 109, 98, 101, 114, 32, 97, 10]⟩ := rfl
theorem t3_eq : (⟨R8.t3.toArray⟩ : ByteArray) = ⟨#[112, 101, 114, 115, 111, 110, 32, 97, 32, 121, 10]⟩ := rfl
/-- Load at a text, the configuration's value written out. -/
def LoadE (e0 l0 : Int) (C : Rs.Cfg) (w : World) (e : Ending) (w' : World) : Prop := ∃ (a1 : Option Addr) (a2 a3 : Nat) (b1 : Option Addr) (b2 b3 : Nat) (c1 : Option Addr) (c2 c3 : Nat) (d1 : Option Addr) (d2 d3 : Nat), e = .returned (.tuple #[.agg #[.slice a1 a2 a3, .slice b1 b2 b3, .slice c1 c2 c3, .slice d1 d2 d3], .int .i64 l0, .int .i64 e0]) ∧ Below w.heap.size w w' ∧ CfgAt w.heap.size w'.heap.size w' (a1, a2, a3) (b1, b2, b3) (c1, c2, c3) (d1, d2, d3) C
theorem loadE {x : List UInt8} (h : R8.okP (Sy.parS 0 (Sy.spl [] x)) = true) (hk : ((Sy.parS 0 (Sy.spl [] x)).2.2.all fun s => smallS s.2) = true) (hl : x.length ≤ 65536) {e0 l0 : Int} (h1 : (Rs.loadS x).1 = e0) (h2 : (Rs.loadS x).2.1 = l0) (w : World) (hT : LexT w) : Calls Tryz.prog 13 #[.string ⟨x.toArray⟩] w (LoadE e0 l0 (Rs.loadS x).2.2 w) := by
  refine (load_at h hk hl w hT).mono ?_
  rintro e w' ⟨⟨a1, a2, a3⟩, ⟨b1, b2, b3⟩, ⟨c1, c2, c3⟩, ⟨d1, d2, d3⟩, rfl, hb, hc, -⟩
  exact ⟨a1, a2, a3, b1, b2, b3, c1, c2, c3, d1, d2, d3, by rw [h1, h2]; rfl, hb, hc⟩
set_option maxHeartbeats 8000000 in
theorem sane8_any (w : World) (hT : LexT w) : Calls Tryz.prog 9 #[] w fun e w' => e = .returned (.bool true) ∧ Below w.heap.size w w' := by
  have L1 := Lib.hid (fun W (hW : LexT W) => loadE R8.p1 ky1 (by decide) R8.s1.1 R8.s1.2 W hW)
  have L2 := Lib.hid (fun W (hW : LexT W) => loadE R8.p2 ky2 (by decide) R8.s2.1 R8.s2.2 W hW)
  have L3 := Lib.hid (fun W (hW : LexT W) => loadE R8.p3 ky3 (by decide) R8.s3.1 R8.s3.2 W hW)
  rw [t2_eq] at L2
  rw [t3_eq] at L3
  obtain ⟨C, hC⟩ : ∃ C, (Rs.loadS R8.t1).2.2 = C := ⟨_, rfl⟩
  obtain ⟨q1, q2, q3⟩ := R8.s1n
  rw [hC] at L1 q1 q2 q3
  have HQ := Lib.hid q3
  have P1 : Rs.findS (C.people.map (·.name)) [97] = (0, true) := by rw [q1]; rfl
  have P2 : Rs.findS (C.scheds.map (·.name)) [115] = (0, true) := by rw [q2]; rfl
  have HP1 := Lib.hid P1
  have HP2 := Lib.hid P2
  have HT := Lib.hid hT
  clear q1 q2 q3 P1 P2 hT hC
  go_enter Tryz.func9, Tryz.ntmps9
  go_wp2_with fail
  refine (text8_any w).mono ?_
  rintro e w' ⟨rfl, rfl⟩
  go_wp2_with fail
  refine (L1.out _ HT.out).mono ?_
  rintro e w1 ⟨a1, a2, a3, b1, b2, b3, c1, c2, c3, d1, d2, d3, rfl, bb1, hc1⟩
  have k1 := (Below.refl _ w1).alloc (Nat.le_refl _) (.cells #[.slice a1 a2 a3, .slice b1 b2 b3, .slice c1 c2 c3, .slice d1 d2 d3] 27)
  have N1 := Lib.hid (BlkAt.new w1 #[.slice a1 a2 a3, .slice b1 b2 b3, .slice c1 c2 c3, .slice d1 d2 d3] 27)
  have HC1 := Lib.hid (hc1.below (Nat.le_refl _) k1)
  have B1 := Lib.hid (bb1.alloc bb1.size (.cells #[.slice a1 a2 a3, .slice b1 b2 b3, .slice c1 c2 c3, .slice d1 d2 d3] 27))
  have T1 := Lib.hid (HT.out.below B1.out)
  clear k1 bb1 hc1 L1
  go_wp2_with fail
  refine (L2.out _ T1.out).mono ?_
  rintro e w2 ⟨e1, e2, e3, f1, f2, f3, g1, g2, g3, h1, h2, h3, rfl, bb2, -⟩
  have B2 := Lib.hid ((bb2.alloc bb2.size (.cells #[.slice e1 e2 e3, .slice f1 f2 f3, .slice g1 g2 g3, .slice h1 h2 h3] 27)))
  have T2 := Lib.hid (T1.out.below B2.out)
  clear bb2 L2
  go_wp2_with fail
  refine (L3.out _ T2.out).mono ?_
  rintro e w3 ⟨i1, i2, i3, j1, j2, j3, m1, m2, m3, o1, o2, o3, rfl, bb3, -⟩
  have B3 := Lib.hid ((bb3.alloc bb3.size (.cells #[.slice i1 i2 i3, .slice j1 j2 j3, .slice m1 m2 m3, .slice o1 o2 o3] 27)))
  have B23 := Lib.hid (bstep B2.out B3.out)
  have N3 := N1.out.after B23.out
  have x0 := N3.cell (i := 0) rfl
  have x1 := N3.cell (i := 1) rfl
  have x2 := N3.cell (i := 2) rfl
  have x3 := N3.cell (i := 3) rfl
  have HN3 := Lib.hid N3
  have HC3 := Lib.hid (HC1.out.below (show w1.heap.size ≤ _ from (Below.refl _ w1).alloc (Nat.le_refl _) (.cells #[.slice a1 a2 a3, .slice b1 b2 b3, .slice c1 c2 c3, .slice d1 d2 d3] 27) |>.size) B23.out)
  clear bb3 L3 N3
  have hsz : w1.heap.size ≤ (w3.alloc (.cells #[.slice i1 i2 i3, .slice j1 j2 j3, .slice m1 m2 m3, .slice o1 o2 o3] 27)).heap.size := Nat.le_trans ((Below.refl _ w1).alloc (Nat.le_refl _) (.cells #[.slice a1 a2 a3, .slice b1 b2 b3, .slice c1 c2 c3, .slice d1 d2 d3] 27) |>.size) B23.out.size
  have HSZ := Lib.hid hsz
  clear hsz
  go_wp2_with fail
  refine (Person_is HP1.out a1 b1 c1 d1 a2 a3 b2 b3 c2 c3 d2 d3 _ ((HC3.out.mono (Nat.zero_le _) HSZ.out).people)).mono ?_
  rintro e w4 ⟨rfl, bb4⟩
  have N4 := HN3.out.after bb4
  have y0 := N4.cell (i := 0) rfl
  have y1 := N4.cell (i := 1) rfl
  have y2 := N4.cell (i := 2) rfl
  have y3 := N4.cell (i := 3) rfl
  have HN4 := Lib.hid N4
  have B4 := Lib.hid (bstep (bstep B1.out B23.out) bb4)
  have HC4 := Lib.hid (HC3.out.below HSZ.out bb4)
  have HSZ4 := Lib.hid (Nat.le_trans HSZ.out bb4.size)
  clear bb4 N4 x0 x1 x2 x3
  go_wp2_with fail
  refine (Schedule_is HP2.out a1 b1 c1 d1 a2 a3 b2 b3 c2 c3 d2 d3 _ ((HC4.out.mono (Nat.zero_le _) HSZ4.out).scheds)).mono ?_
  rintro e w5 ⟨rfl, bb5⟩
  have N5 := HN4.out.after bb5
  have z3 := N5.cell (i := 3) rfl
  have B5 := Lib.hid (bstep B4.out bb5)
  have HC5 := HC4.out.below HSZ4.out bb5
  obtain ⟨u1, b, off, ⟨v1, v2, v3⟩, b', off', u2, u3, u4, u5, u6⟩ := unit_cells HC5.scheds HQ.out
  simp only at u1 u2 u3 u4 u5
  subst u1
  subst u2
  subst u4
  subst u5
  clear bb5 N5 HC5 y0 y1 y2 y3
  go_wp2_with fail
  go_ret
  exact ⟨rfl, B5.out⟩
end Go.Proofs.YtphenbfhojdcpaaGreatDoor
