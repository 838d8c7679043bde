/- Tokens that are those of their words; and the words of the laws. -/
import Derived.Test.YtgihhhigjcgobaaGreatDoorLr
namespace Go.Proofs.YtgihhhigjcgobaaGreatDoor
open Go.RowKit
set_option linter.unusedVariables false
set_option linter.unusedSimpArgs false
set_option maxRecDepth 100000

/-- A token without a text, and its word. -/
structure GoodTok (K N : Int) (s : List UInt8) : Prop where
  spell : SpellIs K [] N s
  back : Lx.tokS s = some (K, [], N)
  noname : Lx.nameS s = false
  len : s.length ≤ 100
  iK : I64 K
  lo : -9223372036854775807 ≤ N
  hi : N ≤ 9223372036854775807
theorem i64_small {k : Int} (h : 0 ≤ k ∧ k ≤ 10) : I64 k := ⟨by omega, by omega⟩
theorem good_number {n : Int} (h0 : 0 ≤ n) (h1 : n ≤ 999999999) : GoodTok 1 n (Lib.itoa n) ∧ (Lib.itoa n).length ≤ 9 := by
  obtain ⟨a, b, c⟩ := Lx.tok_number h0 h1
  exact ⟨⟨.inr (.inl ⟨rfl, rfl⟩), a, b, by omega, i64_small (by omega), by omega, by omega⟩, c⟩
theorem good_clock {n : Int} (h0 : 0 ≤ n) (h1 : n ≤ 86400) : GoodTok 2 n (Lx.clockTS n) ∧ (n % 60 = 0 → (Lx.clockTS n).length = 5) ∧ (Lx.clockTS n).length ≤ 8 := by
  obtain ⟨a, b, c⟩ := Lx.tok_clock h0 h1
  refine ⟨⟨.inr (.inr (.inl ⟨rfl, rfl⟩)), a, b, by omega, i64_small (by omega), by omega, by omega⟩, fun h => ?_, c⟩
  rcases Lx.clock_form h0 (show n < 360000 by omega) with ⟨_, x, y, z, u, _, _, _, _, e, _⟩ | ⟨hz, _⟩
  · rw [e]; rfl
  · exact absurd h hz
theorem good_date {n : Int} (h0 : 0 ≤ n) (h1 : n < 98981) : ∃ s, GoodTok 3 n s ∧ s.length = 10 := by
  obtain ⟨y, m, d, hv, hn⟩ := Civ.date_ex n h0 h1
  obtain ⟨a, b, c⟩ := Lx.tok_date hv
  rw [hn] at a
  exact ⟨_, ⟨.inr (.inr (.inr (.inl ⟨rfl, y, m, d, .inl ⟨hv, hn⟩, rfl⟩))), a, b, by omega, i64_small (by omega), by omega, by omega⟩, c⟩
theorem good_offset {n : Int} (h0 : -64800 ≤ n) (h1 : n ≤ 64800) (h2 : n % 60 = 0) : GoodTok 4 n (Lx.offTS n) ∧ (Lx.offTS n).length = 6 := by
  obtain ⟨a, b, c⟩ := Lx.tok_offset h0 h1 h2
  exact ⟨⟨.inr (.inr (.inr (.inr (.inl ⟨rfl, rfl⟩)))), a, b, by omega, i64_small (by omega), by omega, by omega⟩, c⟩
theorem good_instant {n : Int} (h0 : 0 ≤ n) (h1 : n < 8551958400) : ∃ s, GoodTok 5 n s ∧ s.length = 20 := by
  have e1 : n.tdiv 86400 = n / 86400 := Int.tdiv_eq_ediv_of_nonneg h0
  have e2 : n.tmod 86400 = n % 86400 := Int.tmod_eq_emod_of_nonneg h0
  obtain ⟨y, m, d, hv, hn⟩ := Civ.date_ex (n / 86400) (by omega) (by omega)
  obtain ⟨a, b, c⟩ := Lx.tok_instant (n := n % 86400) hv (by omega) (by omega)
  rw [hn, show n / 86400 * 86400 + n % 86400 = n by omega] at a
  refine ⟨_, ⟨.inr (.inr (.inr (.inr (.inr (.inl ⟨rfl, y, m, d, .inl ⟨hv, by rw [e1]; exact hn⟩, rfl⟩))))), ?_, ?_, ?_, i64_small (by omega), by omega, by omega⟩, ?_⟩
  · rw [e2]; exact a
  · rw [e2]; exact b
  · rw [e2]; omega
  · rw [e2]; exact c
/-- Text of a good token. -/
theorem text_good {K N : Int} {s : List UInt8} (h : GoodTok K N s) (w : World) (hT : LexT w) : Calls Tryz.prog 20 #[.agg #[.int .i64 K, .string ⟨#[]⟩, .int .i64 N]] w fun e w' => e = .returned (.tuple #[.string ⟨s.toArray⟩, .int .i64 0]) ∧ Below w.heap.size w w' :=
  text_yes (t := ⟨#[]⟩) (Lib.hid h.spell) (Lib.hid h.back) w hT h.iK h.lo h.hi (by have := h.len; omega)
/-- Token of its word. -/
theorem token_good {K N : Int} {s : List UInt8} (h : GoodTok K N s) (w : World) (hT : LexT w) : Calls Tryz.prog 12 #[.string ⟨s.toArray⟩] w fun e w' => e = .returned (.tuple #[.agg #[.int .i64 K, .string ⟨#[]⟩, .int .i64 N], .int .i64 0]) ∧ Below w.heap.size w w' := by
  refine (token_is (s := ⟨s.toArray⟩) h.back w hT (by rw [ba_size]; have := h.len; omega)).mono ?_
  rintro e w' (⟨hn, _⟩ | ⟨k, t, n, hkk, rfl, hb⟩)
  · cases hn
  · cases hkk
    exact ⟨rfl, hb⟩

/-! ### sane -/
theorem tok_is_some {s : ByteArray} {k n : Int} {t : List UInt8} (h : Lx.tokS s.data.toList = some (k, t, n)) (w : World) (hT : LexT w) (hs : s.size ≤ 3000000000) :
    Calls Tryz.prog 12 #[.string s] w fun e w' => e = .returned (.tuple #[.agg #[.int .i64 k, .string ⟨t.toArray⟩, .int .i64 n], .int .i64 0]) ∧ Below w.heap.size w w' := by
  refine (token_is h w hT hs).mono ?_
  rintro e w' (⟨hn, _⟩ | ⟨k, t, n, hkk, rfl, hb⟩)
  · cases hn
  · cases hkk
    exact ⟨rfl, hb⟩
theorem tok_is_none {s : ByteArray} (h : Lx.tokS s.data.toList = none) (w : World) (hT : LexT w) (hs : s.size ≤ 3000000000) :
    Calls Tryz.prog 12 #[.string s] w fun e w' => e = .returned (.tuple #[.agg #[.int .i64 0, .string ⟨#[]⟩, .int .i64 0], .int .i64 2]) ∧ Below w.heap.size w w' := by
  refine (token_is h w hT hs).mono ?_
  rintro e w' (⟨_, rfl, hb⟩ | ⟨k, t, n, hkk, _⟩)
  · exact ⟨rfl, hb⟩
  · cases hkk
theorem line_is_some {s : ByteArray} {ts : List Lx.Tk} (h : Lx.lineS s.data.toList = some ts) (w : World) (hT : LexT w) (hs : s.size ≤ 512) :
    Calls Tryz.prog 14 #[.string s] w fun e w' => ∃ (A : Option Addr) (c : Nat), e = .returned (.tuple #[.slice A ts.length c, .int .i64 0]) ∧ ListAt 3 eTok w' A ts ∧ ts.length ≤ 600 ∧ Below w.heap.size w w' := by
  refine (line_is h w hT hs).mono ?_
  rintro e w' (⟨hn, _⟩ | ⟨ts', A, c, hkk, rfl, h1, h2, h3⟩)
  · cases hn
  · cases hkk
    exact ⟨A, c, rfl, h1, h2, h3⟩
theorem t1 : Lx.tokS [50, 48, 50, 54, 45, 48, 51, 45, 50, 57, 84, 48, 49, 58, 48, 48, 58, 48, 48, 90] = some (5, [], 1774746000) := by kernel_rfl
theorem t2 : Lx.tokS [50, 52, 58, 48, 48] = some (2, [], 86400) := by kernel_rfl
theorem t3 : Lx.tokS [50, 52, 58, 48, 49] = none := by kernel_rfl
theorem t4 : Lx.lineS [97, 32, 35, 32, 98] = some [(0, [97], 0)] := by kernel_rfl
theorem t5 : Lx.offTS (-5400) = [45, 48, 49, 58, 51, 48] := by
  have e : Lx.fullTS 5400 = [48, 49, 58, 51, 48, 58, 48, 48] := by
    unfold Lx.fullTS
    rw [show Int.tdiv 5400 3600 = 1 from by decide, show (Int.tdiv 5400 60).tmod 60 = 30 from by decide, show Int.tmod 5400 60 = 0 from by decide]
    rw [Lx.pad2 (n := 1) (by decide) (by decide), Lx.pad2 (n := 30) (by decide) (by decide), Lx.pad2 (n := 0) (by decide) (by decide)]
    decide
  unfold Lx.offTS Lx.clockTS
  rw [if_pos (by decide), show (-(-5400) : Int) = 5400 from by decide, e]
  decide
set_option maxHeartbeats 4000000 in
theorem sane_any (w : World) (hT : LexT w) : Calls Tryz.prog 8 #[] w fun e w' => e = .returned (.bool true) ∧ Below w.heap.size w w' := by
  have HG := Lib.hid (good_offset (n := -5400) (by decide) (by decide) (by decide)).1
  have H1 := Lib.hid t1
  have H2 := Lib.hid t2
  have H3 := Lib.hid t3
  have H4 := Lib.hid t4
  have H5 := Lib.hid t5
  have HT := Lib.hid hT
  clear hT
  go_enter Tryz.func8, Tryz.ntmps8
  go_wp2_with fail
  refine (tok_is_some (s := ⟨#[50, 48, 50, 54, 45, 48, 51, 45, 50, 57, 84, 48, 49, 58, 48, 48, 58, 48, 48, 90]⟩) H1.out _ HT.out (by decide)).mono ?_
  rintro e w1 ⟨rfl, b1⟩
  have K1 := TokB.new w1 5 ⟨#[]⟩ 1774746000
  have B1 := b1.alloc b1.size (.cells #[.int .i64 5, .string ⟨#[]⟩, .int .i64 1774746000] 23)
  have T1 := Lib.hid (HT.out.below B1)
  clear b1
  go_wp2_with fail
  refine (tok_is_some (s := ⟨#[50, 52, 58, 48, 48]⟩) H2.out _ T1.out (by decide)).mono ?_
  rintro e w2 ⟨rfl, b2⟩
  have K2 := (K1.after b2).alloc (.cells #[.int .i64 2, .string ⟨#[]⟩, .int .i64 86400] 23)
  have J2 := TokB.new w2 2 ⟨#[]⟩ 86400
  have B2 := (bstep B1 b2).alloc (bstep B1 b2).size (.cells #[.int .i64 2, .string ⟨#[]⟩, .int .i64 86400] 23)
  have T2 := Lib.hid (HT.out.below B2)
  clear b2 B1 K1
  go_wp2_with fail
  refine (tok_is_none (s := ⟨#[50, 52, 58, 48, 49]⟩) H3.out _ T2.out (by decide)).mono ?_
  rintro e w3 ⟨rfl, b3⟩
  have K3 := (K2.after b3).alloc (.cells #[.int .i64 0, .string ⟨#[]⟩, .int .i64 0] 23)
  have J3 := (J2.after b3).alloc (.cells #[.int .i64 0, .string ⟨#[]⟩, .int .i64 0] 23)
  have B3 := (bstep B2 b3).alloc (bstep B2 b3).size (.cells #[.int .i64 0, .string ⟨#[]⟩, .int .i64 0] 23)
  have T3 := Lib.hid (HT.out.below B3)
  clear b3 B2 K2 J2
  go_wp2_with fail
  refine (line_is_some (s := ⟨#[97, 32, 35, 32, 98]⟩) H4.out _ T3.out (by decide)).mono ?_
  rintro e w4 ⟨A, c, rfl, _, _, b4⟩
  have K4 := K3.after b4
  have J4 := J3.after b4
  have B4 := bstep B3 b4
  have T4 := Lib.hid (HT.out.below B4)
  clear b4 B3 K3 J3
  go_wp2_with fail
  refine (text_good HG.out _ T4.out).mono ?_
  rw [H5.out]
  rintro e w5 ⟨rfl, b5⟩
  have K5 := K4.after b5
  have J5 := J4.after b5
  have B5 := bstep B4 b5
  clear b5 B4 K4 J4
  have ⟨k0, k1, k2, _, _, _⟩ := K5.cells
  have ⟨j0, j1, j2, _, _, _⟩ := J5.cells
  go_wp2_with fail
  go_ret
  exact ⟨rfl, B5⟩
end Go.Proofs.YtgihhhigjcgobaaGreatDoor
