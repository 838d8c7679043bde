/- What pad, fullClockText, clockText and offsetText of package lexer return. -/
import Derived.Test.YtoohijffkbkikaaGreatDoorLk
namespace Go.Proofs.YtoohijffkbkikaaGreatDoor
open Go.RowKit
set_option linter.unusedVariables false
set_option linter.unusedSimpArgs false
set_option maxRecDepth 100000

theorem ret_str {a b : ByteArray} (h : a = b) : Ending.returned (.string a) = .returned (.string b) := by rw [h]
theorem rep_is {c : Nat} {z : Int} {r : ByteArray} (hz : (c : Int) = z) (hc : c ≤ 4) (hr : (⟨(Lib.repeatL [48] c).toArray⟩ : ByteArray) = r) (w : World) :
    Calls Tryz.prog 150 #[.string ⟨#[48]⟩, .int .i64 z] w fun e w' => e = .returned (.string r) ∧ Below w.heap.size w w' := by
  subst hz
  refine (Tryz.strings_Repeat ⟨#[48]⟩ c w (by omega) (by rw [ba_one]; omega)).mono ?_
  rintro e w' ⟨rfl, hb⟩
  exact ⟨ret_str hr, hb⟩
theorem itoa_size {n : Int} (h : I64 n) : (⟨(Lib.itoa n).toArray⟩ : ByteArray).size ≤ 21 := by
  rw [ba_size]
  exact Lib.itoa_length_le n h.1 h.2
theorem mk_app (a b : List UInt8) : (⟨a.toArray⟩ ++ ⟨b.toArray⟩ : ByteArray) = ⟨(a ++ b).toArray⟩ := by
  rw [ByteArray.mk_append_mk]
set_option maxHeartbeats 1600000 in
theorem pad_any (n : Int) (W : Nat) (w : World) (hT : LexT w) (hn : I64 n) (hW : W ≤ 4) :
    Calls Tryz.prog 131 #[.int .i64 n, .int .i64 (W : Int)] w fun e w' => e = .returned (.string ⟨(Lx.padS n W).toArray⟩) ∧ Below w.heap.size w w' := by
  obtain ⟨s, hs⟩ : ∃ s, (⟨(Lib.itoa n).toArray⟩ : ByteArray) = s := ⟨_, rfl⟩
  have hsz := itoa_size hn
  have hsl : s.size = (Lib.itoa n).length := by rw [← hs, ba_size]
  rw [hs] at hsz
  obtain ⟨r, hr⟩ : ∃ r, (⟨(Lib.repeatL [48] (W - s.size)).toArray⟩ : ByteArray) = r := ⟨_, rfl⟩
  have hrz : r.size ≤ 4 := by rw [← hr, ba_size, Lib.repeatL_length]; simp; omega
  have HR := Lib.hid (show r ++ s = ⟨(Lx.padS n W).toArray⟩ by
    unfold Lx.padS
    rw [← hsl, ← hr, ← hs, mk_app])
  have HS := Lib.hid hs
  have HRR := Lib.hid hr
  have HN := Lib.hid hn
  have HT := Lib.hid hT
  have n1 : ¬ 9223372036854775807 < r.size + s.size := by omega
  clear hr hs hsl hn hT
  by_cases hle : s.size ≤ W
  · obtain ⟨c, hc⟩ : ∃ c, W - s.size = c := ⟨_, rfl⟩
    rw [hc] at HRR
    have hc4 : c ≤ 4 := by omega
    have hq : (W : Int) - s.size = (c : Int) := by omega
    clear hc
    go_enter Tryz.func131, Tryz.ntmps131
    go_wp2_with fail
    refine (itoa_is HS.out _ HT.out HN.out.1 HN.out.2).mono ?_
    rintro e w1 ⟨rfl, b1⟩
    go_wp2_with fail
    refine (rep_is rfl hc4 HRR.out _).mono ?_
    rintro e w2 ⟨rfl, b2⟩
    go_wp2_with fail
    go_ret
    exact ⟨ret_str HR.out, bstep b1 b2⟩
  · have hc : W - s.size = 0 := by omega
    rw [hc] at HRR
    obtain ⟨z, hz⟩ : ∃ z, (W : Int) - s.size = z := ⟨_, rfl⟩
    have hz0 : z < 0 := by omega
    have hz1 : -100 ≤ z := by omega
    have hm : max z 0 = 0 := by omega
    clear hc
    go_enter Tryz.func131, Tryz.ntmps131
    go_wp2_with fail
    refine (itoa_is HS.out _ HT.out HN.out.1 HN.out.2).mono ?_
    rintro e w1 ⟨rfl, b1⟩
    go_wp2_with fail
    refine (rep_is (c := 0) rfl (by omega) HRR.out _).mono ?_
    rintro e w2 ⟨rfl, b2⟩
    go_wp2_with fail
    go_ret
    exact ⟨ret_str HR.out, bstep b1 b2⟩
theorem pad2_is {n : Int} {s : ByteArray} (h : (⟨(Lx.padS n 2).toArray⟩ : ByteArray) = s) (w : World) (hT : LexT w) (hn : I64 n) :
    Calls Tryz.prog 131 #[.int .i64 n, .int .i64 2] w fun e w' => e = .returned (.string s) ∧ Below w.heap.size w w' := h ▸ pad_any n 2 w hT hn (by decide)
theorem pad4_is {n : Int} {s : ByteArray} (h : (⟨(Lx.padS n 4).toArray⟩ : ByteArray) = s) (w : World) (hT : LexT w) (hn : I64 n) :
    Calls Tryz.prog 131 #[.int .i64 n, .int .i64 4] w fun e w' => e = .returned (.string s) ∧ Below w.heap.size w w' := h ▸ pad_any n 4 w hT hn (by decide)
theorem pad_size {n : Int} {W : Nat} (h : I64 n) (hW : W ≤ 4) : (Lx.padS n W).length ≤ 25 := by
  have := Lib.itoa_length_le n h.1 h.2
  unfold Lx.padS
  rw [List.length_append, Lib.repeatL_length]
  simp
  omega

set_option maxHeartbeats 1600000 in
theorem fullText_any (n : Int) (w : World) (hT : LexT w) (hn : I64 n) :
    Calls Tryz.prog 106 #[.int .i64 n] w fun e w' => e = .returned (.string ⟨(Lx.fullTS n).toArray⟩) ∧ Below w.heap.size w w' := by
  obtain ⟨A, hA⟩ : ∃ A, n.tdiv 3600 = A := ⟨_, rfl⟩
  obtain ⟨B', hB'⟩ : ∃ B, n.tdiv 60 = B := ⟨_, rfl⟩
  obtain ⟨B, hB⟩ : ∃ B, B'.tmod 60 = B := ⟨_, rfl⟩
  obtain ⟨C, hC⟩ : ∃ C, n.tmod 60 = C := ⟨_, rfl⟩
  have qA := Int.mul_tdiv_add_tmod n 3600
  have rA := Civ.tmod_bd n 3600 (by omega)
  have qB := Int.mul_tdiv_add_tmod n 60
  have rB := Civ.tmod_bd n 60 (by omega)
  have rC := Civ.tmod_bd B' 60 (by omega)
  rw [hA] at qA
  rw [hB', hC] at qB
  rw [hC] at rB
  rw [hB] at rC
  have iA : I64 A := ⟨by have := hn.1; omega, by have := hn.2; omega⟩
  have iB' : I64 B' := ⟨by have := hn.1; omega, by have := hn.2; omega⟩
  have iB : I64 B := ⟨by omega, by omega⟩
  have iC : I64 C := ⟨by omega, by omega⟩
  obtain ⟨a, ha⟩ : ∃ a, (⟨(Lx.padS A 2).toArray⟩ : ByteArray) = a := ⟨_, rfl⟩
  obtain ⟨b, hb⟩ : ∃ b, (⟨(Lx.padS B 2).toArray⟩ : ByteArray) = b := ⟨_, rfl⟩
  obtain ⟨c, hc⟩ : ∃ c, (⟨(Lx.padS C 2).toArray⟩ : ByteArray) = c := ⟨_, rfl⟩
  have za : a.size ≤ 25 := by rw [← ha, ba_size]; exact pad_size iA (by decide)
  have zb : b.size ≤ 25 := by rw [← hb, ba_size]; exact pad_size iB (by decide)
  have zc : c.size ≤ 25 := by rw [← hc, ba_size]; exact pad_size iC (by decide)
  have HR := Lib.hid (show a ++ ⟨#[58]⟩ ++ b ++ ⟨#[58]⟩ ++ c = ⟨(Lx.fullTS n).toArray⟩ by
    unfold Lx.fullTS
    rw [hA, hB', hB, hC, ← ha, ← hb, ← hc]
    show (ByteArray.mk (Lx.padS A 2).toArray ++ ByteArray.mk [58].toArray ++ ByteArray.mk (Lx.padS B 2).toArray ++ ByteArray.mk [58].toArray ++ ByteArray.mk (Lx.padS C 2).toArray) = _
    rw [mk_app, mk_app, mk_app, mk_app]
    simp)
  have HA := Lib.hid ha
  have HB := Lib.hid hb
  have HC := Lib.hid hc
  have IA := Lib.hid iA
  have IB := Lib.hid iB
  have IC := Lib.hid iC
  have HT := Lib.hid hT
  have n1 : ¬ 9223372036854775807 < a.size + 1 := by omega
  have n2 : ¬ 9223372036854775807 < a.size + 1 + b.size := by omega
  have n3 : ¬ 9223372036854775807 < a.size + 1 + b.size + 1 := by omega
  have n4 : ¬ 9223372036854775807 < a.size + 1 + b.size + 1 + c.size := by omega
  have j1 := iB'.1
  have j2 := iB'.2
  have j3 := iA.1
  have j4 := iA.2
  clear ha hb hc iA iB iC qA qB rA iB' hT hn
  go_enter Tryz.func106, Tryz.ntmps106
  go_wp2_with fail
  refine (pad2_is HA.out _ HT.out IA.out).mono ?_
  rintro e w1 ⟨rfl, b1⟩
  go_wp2_with fail
  refine (pad2_is HB.out _ (HT.out.below b1) IB.out).mono ?_
  rintro e w2 ⟨rfl, b2⟩
  go_wp2_with fail
  refine (pad2_is HC.out _ ((HT.out.below b1).below b2) IC.out).mono ?_
  rintro e w3 ⟨rfl, b3⟩
  go_wp2_with fail
  go_ret
  exact ⟨ret_str HR.out, bstep (bstep b1 b2) b3⟩
end Go.Proofs.YtoohijffkbkikaaGreatDoor
