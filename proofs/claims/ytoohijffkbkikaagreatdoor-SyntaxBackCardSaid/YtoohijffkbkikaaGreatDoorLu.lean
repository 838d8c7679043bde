/- Tokens that are those of their words; and the words of the laws. -/
import Derived.Test.YtoohijffkbkikaaGreatDoorLr
namespace Go.Proofs.YtoohijffkbkikaaGreatDoor
open Go.RowKit
set_option linter.unusedVariables false
set_option linter.unusedSimpArgs false
set_option maxRecDepth 100000

/-- A token without a text, and its word. -/
structure GoodTok (K N : Int) (s : List UInt8) : Prop where
  spell : SpellIs K [] N s
  back : Lx.tokS s = some (K, [], N)
  noname : Lx.nameS s = false
  len : s.length ≤ 100
  iK : I64 K
  lo : -9223372036854775807 ≤ N
  hi : N ≤ 9223372036854775807
theorem i64_small {k : Int} (h : 0 ≤ k ∧ k ≤ 10) : I64 k := ⟨by omega, by omega⟩
theorem good_number {n : Int} (h0 : 0 ≤ n) (h1 : n ≤ 999999999) : GoodTok 1 n (Lib.itoa n) ∧ (Lib.itoa n).length ≤ 9 := by
  obtain ⟨a, b, c⟩ := Lx.tok_number h0 h1
  exact ⟨⟨.inr (.inl ⟨rfl, rfl⟩), a, b, by omega, i64_small (by omega), by omega, by omega⟩, c⟩
theorem good_clock {n : Int} (h0 : 0 ≤ n) (h1 : n ≤ 86400) : GoodTok 2 n (Lx.clockTS n) ∧ (n % 60 = 0 → (Lx.clockTS n).length = 5) ∧ (Lx.clockTS n).length ≤ 8 := by
  obtain ⟨a, b, c⟩ := Lx.tok_clock h0 h1
  refine ⟨⟨.inr (.inr (.inl ⟨rfl, rfl⟩)), a, b, by omega, i64_small (by omega), by omega, by omega⟩, fun h => ?_, c⟩
  rcases Lx.clock_form h0 (show n < 360000 by omega) with ⟨_, x, y, z, u, _, _, _, _, e, _⟩ | ⟨hz, _⟩
  · rw [e]; rfl
  · exact absurd h hz
theorem good_date {n : Int} (h0 : 0 ≤ n) (h1 : n < 98981) : ∃ s, GoodTok 3 n s ∧ s.length = 10 := by
  obtain ⟨y, m, d, hv, hn⟩ := Civ.date_ex n h0 h1
  obtain ⟨a, b, c⟩ := Lx.tok_date hv
  rw [hn] at a
  exact ⟨_, ⟨.inr (.inr (.inr (.inl ⟨rfl, y, m, d, .inl ⟨hv, hn⟩, rfl⟩))), a, b, by omega, i64_small (by omega), by omega, by omega⟩, c⟩
theorem good_offset {n : Int} (h0 : -64800 ≤ n) (h1 : n ≤ 64800) (h2 : n % 60 = 0) : GoodTok 4 n (Lx.offTS n) ∧ (Lx.offTS n).length = 6 := by
  obtain ⟨a, b, c⟩ := Lx.tok_offset h0 h1 h2
  exact ⟨⟨.inr (.inr (.inr (.inr (.inl ⟨rfl, rfl⟩)))), a, b, by omega, i64_small (by omega), by omega, by omega⟩, c⟩
theorem good_instant {n : Int} (h0 : 0 ≤ n) (h1 : n < 8551958400) : ∃ s, GoodTok 5 n s ∧ s.length = 20 := by
  have e1 : n.tdiv 86400 = n / 86400 := Int.tdiv_eq_ediv_of_nonneg h0
  have e2 : n.tmod 86400 = n % 86400 := Int.tmod_eq_emod_of_nonneg h0
  obtain ⟨y, m, d, hv, hn⟩ := Civ.date_ex (n / 86400) (by omega) (by omega)
  obtain ⟨a, b, c⟩ := Lx.tok_instant (n := n % 86400) hv (by omega) (by omega)
  rw [hn, show n / 86400 * 86400 + n % 86400 = n by omega] at a
  refine ⟨_, ⟨.inr (.inr (.inr (.inr (.inr (.inl ⟨rfl, y, m, d, .inl ⟨hv, by rw [e1]; exact hn⟩, rfl⟩))))), ?_, ?_, ?_, i64_small (by omega), by omega, by omega⟩, ?_⟩
  · rw [e2]; exact a
  · rw [e2]; exact b
  · rw [e2]; omega
  · rw [e2]; exact c
/-- Text of a good token. -/
theorem text_good {K N : Int} {s : List UInt8} (h : GoodTok K N s) (w : World) (hT : LexT w) : Calls Tryz.prog 52 #[.agg #[.int .i64 K, .string ⟨#[]⟩, .int .i64 N]] w fun e w' => e = .returned (.tuple #[.string ⟨s.toArray⟩, .int .i64 0]) ∧ Below w.heap.size w w' :=
  text_yes (t := ⟨#[]⟩) (Lib.hid h.spell) (Lib.hid h.back) w hT h.iK h.lo h.hi (by have := h.len; omega)
/-- Token of its word. -/
theorem token_good {K N : Int} {s : List UInt8} (h : GoodTok K N s) (w : World) (hT : LexT w) : Calls Tryz.prog 70 #[.string ⟨s.toArray⟩] w fun e w' => e = .returned (.tuple #[.agg #[.int .i64 K, .string ⟨#[]⟩, .int .i64 N], .int .i64 0]) ∧ Below w.heap.size w w' := by
  refine (token_is (s := ⟨s.toArray⟩) h.back w hT (by rw [ba_size]; have := h.len; omega)).mono ?_
  rintro e w' (⟨hn, _⟩ | ⟨k, t, n, hkk, rfl, hb⟩)
  · cases hn
  · cases hkk
    exact ⟨rfl, hb⟩

/-! ### sane -/
theorem tok_is_some {s : ByteArray} {k n : Int} {t : List UInt8} (h : Lx.tokS s.data.toList = some (k, t, n)) (w : World) (hT : LexT w) (hs : s.size ≤ 3000000000) :
    Calls Tryz.prog 70 #[.string s] w fun e w' => e = .returned (.tuple #[.agg #[.int .i64 k, .string ⟨t.toArray⟩, .int .i64 n], .int .i64 0]) ∧ Below w.heap.size w w' := by
  refine (token_is h w hT hs).mono ?_
  rintro e w' (⟨hn, _⟩ | ⟨k, t, n, hkk, rfl, hb⟩)
  · cases hn
  · cases hkk
    exact ⟨rfl, hb⟩
theorem tok_is_none {s : ByteArray} (h : Lx.tokS s.data.toList = none) (w : World) (hT : LexT w) (hs : s.size ≤ 3000000000) :
    Calls Tryz.prog 70 #[.string s] w fun e w' => e = .returned (.tuple #[.agg #[.int .i64 0, .string ⟨#[]⟩, .int .i64 0], .int .i64 2]) ∧ Below w.heap.size w w' := by
  refine (token_is h w hT hs).mono ?_
  rintro e w' (⟨_, rfl, hb⟩ | ⟨k, t, n, hkk, _⟩)
  · exact ⟨rfl, hb⟩
  · cases hkk
theorem line_is_some {s : ByteArray} {ts : List Lx.Tk} (h : Lx.lineS s.data.toList = some ts) (w : World) (hT : LexT w) (hs : s.size ≤ 512) :
    Calls Tryz.prog 49 #[.string s] w fun e w' => ∃ (A : Option Addr) (c : Nat), e = .returned (.tuple #[.slice A ts.length c, .int .i64 0]) ∧ ListAt 3 eTok w' A ts ∧ ts.length ≤ 600 ∧ Below w.heap.size w w' := by
  refine (line_is h w hT hs).mono ?_
  rintro e w' (⟨hn, _⟩ | ⟨ts', A, c, hkk, rfl, h1, h2, h3⟩)
  · cases hn
  · cases hkk
    exact ⟨A, c, rfl, h1, h2, h3.1⟩
theorem t1 : Lx.tokS [50, 48, 50, 54, 45, 48, 51, 45, 50, 57, 84, 48, 49, 58, 48, 48, 58, 48, 48, 90] = some (5, [], 1774746000) := by kernel_rfl
theorem t2 : Lx.tokS [50, 52, 58, 48, 48] = some (2, [], 86400) := by kernel_rfl
theorem t3 : Lx.tokS [50, 52, 58, 48, 49] = none := by kernel_rfl
theorem t4 : Lx.lineS [97, 32, 35, 32, 98] = some [(0, [97], 0)] := by kernel_rfl
theorem t5 : Lx.offTS (-5400) = [45, 48, 49, 58, 51, 48] := by
  have e : Lx.fullTS 5400 = [48, 49, 58, 51, 48, 58, 48, 48] := by
    unfold Lx.fullTS
    rw [show Int.tdiv 5400 3600 = 1 from by decide, show (Int.tdiv 5400 60).tmod 60 = 30 from by decide, show Int.tmod 5400 60 = 0 from by decide]
    rw [Lx.pad2 (n := 1) (by decide) (by decide), Lx.pad2 (n := 30) (by decide) (by decide), Lx.pad2 (n := 0) (by decide) (by decide)]
    decide
  unfold Lx.offTS Lx.clockTS
  rw [if_pos (by decide), show (-(-5400) : Int) = 5400 from by decide, e]
  decide
end Go.Proofs.YtoohijffkbkikaaGreatDoor
