/- Rotating a range of a row. -/
import Derived.Test.YtndngkfiamdohaaDoorZsa
namespace Go.Proofs.YtndngkfiamdohaaDoor
open Go.RowKit
set_option linter.unusedVariables false
set_option linter.unusedSimpArgs false

theorem swr_is {g cap len : Nat} {F : Value} {P X M Y S : Zs.L} {w : World} (hR : RowAt w g (P ++ (X ++ (M ++ (Y ++ S))))) (hl : P.length + X.length + M.length + Y.length + S.length = len) (hn : len ≤ 100000)
    {a b n : Int} (hx : X.length = Y.length) (ha : a = P.length) (hnn : n = X.length) (hb : b = P.length + X.length + M.length) :
    Calls Tryd.prog 87 #[.slice (some ⟨g, 0, none⟩) len cap, .int .i64 a, .int .i64 b, .int .i64 n, F] w fun e w' =>
      e = .returned (.tuple #[]) ∧ Sor w g w' (P ++ (Y ++ (M ++ (X ++ S)))) := by
  have := swr_any g cap len P.length (P.length + X.length + M.length) X.length F P X M Y S w hR hl hn rfl rfl hx.symm rfl
  rw [ha, hb, hnn]
  simpa using this

set_option maxHeartbeats 4000000 in
set_option maxRecDepth 100000 in
theorem rot_any (g cap len a m b : Nat) (F : Value) (P A B S : Zs.L) (w : World) (hR : RowAt w g (P ++ (A ++ (B ++ S)))) (hl : P.length + A.length + B.length + S.length = len) (hn : len ≤ 100000)
    (ha : P.length = a) (hm : a + A.length = m) (hb : m + B.length = b) (hA : 0 < A.length) (hB : 0 < B.length) :
    Calls Tryd.prog 86 #[.slice (some ⟨g, 0, none⟩) len cap, .int .i64 a, .int .i64 m, .int .i64 b, F] w fun e w' =>
      e = .returned (.tuple #[]) ∧ Sor w g w' (P ++ (B ++ (A ++ S))) := by
  have R0 := Sor.start hR
  have hmi : (m : Int) - a = A.length := by omega
  have hbj : (b : Int) - m = B.length := by omega
  obtain ⟨i0, hi0⟩ : ∃ q, A.length = q := ⟨_, rfl⟩
  obtain ⟨j0, hj0⟩ : ∃ q, B.length = q := ⟨_, rfl⟩
  rw [hi0] at hmi hA
  rw [hj0] at hbj hB
  have hml : m ≤ len := by omega
  have hma : i0 ≤ m := by omega
  have hbl : b ≤ len := by omega
  have ham : a ≤ m := by omega
  have hmb : m ≤ b := by omega
  have HS0 : Hid (P.length + i0 = m ∧ m + j0 + S.length = len ∧ A.length = i0 ∧ B.length = j0) := Lib.hid ⟨by omega, by omega, hi0, hj0⟩
  have HMI := Lib.hid hmi
  have HBJ := Lib.hid hbj
  have HR0 := Lib.hid R0
  clear hl ha hm hb hR hi0 hj0 hmi hbj R0
  go_enter Tryd.func86, Tryd.ntmps86
  go_wp2_with fail
  go_loopw [10, 11] (fun vi vj wr => ∃ (i j : Nat) (P' A' B' S' : Zs.L), vi = .int .i64 i ∧ vj = .int .i64 j ∧ 0 < i ∧ 0 < j ∧ i ≤ m ∧ m + j ≤ len ∧ Hid (Sor w g wr (P' ++ (A' ++ (B' ++ S')))) ∧ Hid (P'.length + i = m ∧ m + j + S'.length = len ∧ A'.length = i ∧ B'.length = j) ∧ Hid (P' ++ (B' ++ (A' ++ S')) = P ++ (B ++ (A ++ S)))) (fun i j _ => (intOf i).toNat + (intOf j).toNat)
  case atStart => exact ⟨i0, j0, P, A, B, S, by rw [HMI.out], by rw [HBJ.out], hA, hB, by omega, by have := HS0.out; omega, HR0, HS0, Lib.hid rfl⟩
  case round =>
    clear HR0 HS0
    obtain ⟨i, j, P', A', B', S', rfl, rfl, hi, hj, him, hjl, HS, HL, HT⟩ := hrel
    have hi' : (0 : Int) < i := by omega
    have hj' : (0 : Int) < j := by omega
    by_cases hij : i = j
    · subst hij
      have C := fun W (h : RowAt W g (P' ++ (A' ++ ([] ++ (B' ++ S'))))) => swr_is (g := g) (cap := cap) (F := F) (M := []) (a := (m : Int) - i) (b := m) (n := i) h (by have := HL.out; simp; omega) hn (by have := HL.out; omega) (by have := HL.out; omega) (by have := HL.out; omega) (by have := HL.out; simp; omega)
      have C1 := C wr HS.out.1
      have HC := Lib.hid C1
      clear C C1
      go_wp2_with fail
      refine HC.out.mono ?_
      rintro e w1 ⟨rfl, h1⟩
      have h2 := HS.out.trans h1
      rw [List.nil_append, HT.out] at h2
      have H2 := Lib.hid h2
      clear h1 h2
      go_wp2_with fail
      go_end0
      exact ⟨rfl, H2.out⟩
    · have hne : ((i : Int) == j) = false := by simp; omega
      by_cases hgt : j < i
      · have hgt' : (j : Int) < i := by omega
        obtain ⟨A1, A2, e1, e2, e3⟩ : ∃ A1 A2 : Zs.L, A' = A1 ++ A2 ∧ A1.length = j ∧ A2.length = i - j := ⟨A'.take j, A'.drop j, (List.take_append_drop _ _).symm, by have := HL.out; rw [List.length_take]; omega, by have := HL.out; rw [List.length_drop]; omega⟩
        have C := fun W (h : RowAt W g (P' ++ (A1 ++ (A2 ++ (B' ++ S'))))) => swr_is (g := g) (cap := cap) (F := F) (M := A2) (a := (m : Int) - i) (b := m) (n := j) h (by have := HL.out; omega) hn (by have := HL.out; omega) (by have := HL.out; omega) (by omega) (by have := HL.out; omega)
        have hs := HS.out
        rw [e1, List.append_assoc] at hs
        have C1 := C wr hs.1
        have HC := Lib.hid C1
        have HS1 := Lib.hid hs
        have HE : Hid (A' = A1 ++ A2 ∧ A1.length = j ∧ A2.length = i - j) := Lib.hid ⟨e1, e2, e3⟩
        clear C C1 hs e1 e2 e3
        go_wp2_with fail
        refine HC.out.mono ?_
        rintro e w1 ⟨rfl, h1⟩
        have h2 := HS1.out.trans h1
        have H2 := Lib.hid h2
        clear h1 h2
        go_wp2_with fail
        go_roundw
        case rel => exact ⟨i - j, j, P' ++ B', A2, A1, S', by go_num, rfl, by omega, by omega, by omega, by omega, Lib.hid (by have := H2.out; simpa using this), Lib.hid (by have a := HL.out; have b := HE.out; rw [List.length_append]; omega), Lib.hid (by rw [← HT.out, HE.out.1]; simp)⟩
        case measure => simp [intOf]; omega
      · have hgt' : ¬ (j : Int) < i := by omega
        have hlt' : (i : Int) < j := by omega
        obtain ⟨B1, B2, e1, e2, e3⟩ : ∃ B1 B2 : Zs.L, B' = B1 ++ B2 ∧ B1.length = j - i ∧ B2.length = i := ⟨B'.take (j - i), B'.drop (j - i), (List.take_append_drop _ _).symm, by have := HL.out; rw [List.length_take]; omega, by have := HL.out; rw [List.length_drop]; omega⟩
        have C := fun W (h : RowAt W g (P' ++ (A' ++ (B1 ++ (B2 ++ S'))))) => swr_is (g := g) (cap := cap) (F := F) (M := B1) (a := (m : Int) - i) (b := (m : Int) + j - i) (n := i) h (by have := HL.out; omega) hn (by have := HL.out; omega) (by have := HL.out; omega) (by have := HL.out; omega) (by have := HL.out; omega)
        have hs := HS.out
        rw [e1, List.append_assoc] at hs
        have C1 := C wr hs.1
        have HC := Lib.hid C1
        have HS1 := Lib.hid hs
        have HE : Hid (B' = B1 ++ B2 ∧ B1.length = j - i ∧ B2.length = i) := Lib.hid ⟨e1, e2, e3⟩
        clear C C1 hs e1 e2 e3
        go_wp2_with fail
        refine HC.out.mono ?_
        rintro e w1 ⟨rfl, h1⟩
        have h2 := HS1.out.trans h1
        have H2 := Lib.hid h2
        clear h1 h2
        go_wp2_with fail
        go_roundw
        case rel => exact ⟨i, j - i, P', B2, B1, A' ++ S', rfl, by go_num, by omega, by omega, by omega, by omega, Lib.hid (by have := H2.out; simpa using this), Lib.hid (by have a := HL.out; have b := HE.out; rw [List.length_append]; omega), Lib.hid (by rw [← HT.out, HE.out.1]; simp)⟩
        case measure => simp [intOf]; omega
end Go.Proofs.YtndngkfiamdohaaDoor
