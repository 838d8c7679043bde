/- The words of the laws. -/
import Derived.Test.YtoohijffkbkikaaGreatDoorLu
namespace Go.Proofs.YtoohijffkbkikaaGreatDoor
open Go.RowKit
set_option linter.unusedVariables false
set_option linter.unusedSimpArgs false
set_option maxRecDepth 100000

def wordsL : List (List UInt8) := [[97], [122, 57, 95, 45], [65], [57, 97], [48], [48, 48], [55], [57, 57, 57, 57, 57, 57, 57, 57, 57], [49, 48, 48, 48, 48, 48, 48, 48, 48, 48], [48, 49], [50, 52, 58, 48, 48], [50, 52, 58, 48, 48, 58, 48, 49], [50, 51, 58, 53, 57, 58, 53, 57], [49, 50, 58, 54, 48], [49, 58, 48, 48], [50, 48, 50, 54, 45, 48, 50, 45, 50, 56], [50, 48, 50, 54, 45, 48, 50, 45, 50, 57], [50, 48, 50, 52, 45, 48, 50, 45, 50, 57], [49, 57, 54, 57, 45, 49, 50, 45, 51, 49], [50, 50, 52, 48, 45, 49, 50, 45, 51, 49], [50, 50, 52, 49, 45, 48, 49, 45, 48, 49], [43, 49, 56, 58, 48, 48], [43, 49, 56, 58, 48, 49], [45, 48, 48, 58, 48, 48], [45, 49, 55, 58, 53, 57], [43, 49, 58, 48, 48], [50, 48, 50, 54, 45, 48, 49, 45, 48, 49, 84, 48, 48, 58, 48, 48, 58, 48, 48, 90], [50, 48, 50, 54, 45, 48, 49, 45, 48, 49, 84, 50, 52, 58, 48, 48, 58, 48, 48, 90], [50, 48, 50, 54, 45, 49, 51, 45, 48, 49, 84, 48, 48, 58, 48, 48, 58, 48, 48, 90], [50, 48, 50, 54, 45, 48, 49, 45, 48, 49, 116, 48, 48, 58, 48, 48, 58, 48, 48, 90], [97, 98, 99, 100, 101, 102, 103, 104, 105, 106, 107, 108, 109, 110, 111, 112, 113, 114, 115, 116, 117, 118, 119, 120], [97, 98, 99, 100, 101, 102, 103, 104, 105, 106, 107, 108, 109, 110, 111, 112, 113, 114, 115, 116, 117, 118, 119, 120, 121], [], [35], [97, 35, 98], [110, 111, 98, 111, 100, 121]]
def wordsV : Array Value := (wordsL.map fun x => Value.string ⟨x.toArray⟩).toArray
theorem wordsV_eq : wordsV = #[.string ⟨#[97]⟩, .string ⟨#[122, 57, 95, 45]⟩, .string ⟨#[65]⟩, .string ⟨#[57, 97]⟩, .string ⟨#[48]⟩, .string ⟨#[48, 48]⟩, .string ⟨#[55]⟩, .string ⟨#[57, 57, 57, 57, 57, 57, 57, 57, 57]⟩, .string ⟨#[49, 48, 48, 48, 48, 48, 48, 48, 48, 48]⟩, .string ⟨#[48, 49]⟩, .string ⟨#[50, 52, 58, 48, 48]⟩, .string ⟨#[50, 52, 58, 48, 48, 58, 48, 49]⟩, .string ⟨#[50, 51, 58, 53, 57, 58, 53, 57]⟩, .string ⟨#[49, 50, 58, 54, 48]⟩, .string ⟨#[49, 58, 48, 48]⟩, .string ⟨#[50, 48, 50, 54, 45, 48, 50, 45, 50, 56]⟩, .string ⟨#[50, 48, 50, 54, 45, 48, 50, 45, 50, 57]⟩, .string ⟨#[50, 48, 50, 52, 45, 48, 50, 45, 50, 57]⟩, .string ⟨#[49, 57, 54, 57, 45, 49, 50, 45, 51, 49]⟩, .string ⟨#[50, 50, 52, 48, 45, 49, 50, 45, 51, 49]⟩, .string ⟨#[50, 50, 52, 49, 45, 48, 49, 45, 48, 49]⟩, .string ⟨#[43, 49, 56, 58, 48, 48]⟩, .string ⟨#[43, 49, 56, 58, 48, 49]⟩, .string ⟨#[45, 48, 48, 58, 48, 48]⟩, .string ⟨#[45, 49, 55, 58, 53, 57]⟩, .string ⟨#[43, 49, 58, 48, 48]⟩, .string ⟨#[50, 48, 50, 54, 45, 48, 49, 45, 48, 49, 84, 48, 48, 58, 48, 48, 58, 48, 48, 90]⟩, .string ⟨#[50, 48, 50, 54, 45, 48, 49, 45, 48, 49, 84, 50, 52, 58, 48, 48, 58, 48, 48, 90]⟩, .string ⟨#[50, 48, 50, 54, 45, 49, 51, 45, 48, 49, 84, 48, 48, 58, 48, 48, 58, 48, 48, 90]⟩, .string ⟨#[50, 48, 50, 54, 45, 48, 49, 45, 48, 49, 116, 48, 48, 58, 48, 48, 58, 48, 48, 90]⟩, .string ⟨#[97, 98, 99, 100, 101, 102, 103, 104, 105, 106, 107, 108, 109, 110, 111, 112, 113, 114, 115, 116, 117, 118, 119, 120]⟩, .string ⟨#[97, 98, 99, 100, 101, 102, 103, 104, 105, 106, 107, 108, 109, 110, 111, 112, 113, 114, 115, 116, 117, 118, 119, 120, 121]⟩, .string ⟨#[]⟩, .string ⟨#[35]⟩, .string ⟨#[97, 35, 98]⟩, .string ⟨#[110, 111, 98, 111, 100, 121]⟩] := by kernel_rfl
theorem wordsL_len : wordsL.length = 36 := by kernel_rfl
theorem wordsV_at {j : Nat} {x : List UInt8} (h : wordsL[j]? = some x) : wordsV[j]? = some (.string ⟨x.toArray⟩) := by
  unfold wordsV
  rw [List.getElem?_toArray, List.getElem?_map, h]
  rfl
/-- A word that is no token, or one whose token has a word that is no longer. -/
def GoodW (x : List UInt8) : Prop := Lx.tokS x = none ∨ ∃ (K N : Int) (t s : List UInt8), Lx.tokS x = some (K, t, N) ∧ SpellIs K t N s ∧ Lx.tokS s = some (K, t, N) ∧ s.length ≤ x.length ∧ I64 K ∧ -9223372036854775807 ≤ N ∧ N ≤ 9223372036854775807
theorem gw_tok {x s : List UInt8} {K N : Int} (h : Lx.tokS x = some (K, [], N)) (g : GoodTok K N s) (hl : s.length ≤ x.length) : GoodW x := .inr ⟨K, N, [], s, h, g.spell, g.back, hl, g.iK, g.lo, g.hi⟩
theorem gw_word {x : List UInt8} (h : Lx.tokS x = some (0, x, 0)) : GoodW x := .inr ⟨0, 0, x, x, h, .inl ⟨rfl, rfl⟩, h, Nat.le_refl _, i64_small (by omega), by omega, by omega⟩
theorem gw_number {x : List UInt8} {n : Int} (h : Lx.tokS x = some (1, [], n)) (h0 : 0 ≤ n) (h1 : n < 10 ^ x.length) (h2 : n ≤ 999999999) (h3 : 1 ≤ x.length) : GoodW x := by
  refine gw_tok h (good_number h0 h2).1 ?_
  unfold Lib.itoa
  rw [if_neg (by omega), Lib.decDigits_length]
  refine Lx.nDigits_le _ _ h3 ?_
  have : ((n.toNat : Nat) : Int) < ((10 ^ x.length : Nat) : Int) := by rw [Int.toNat_of_nonneg h0]; simpa using h1
  omega
theorem gw_clock {x : List UInt8} {n : Int} (h : Lx.tokS x = some (2, [], n)) (h0 : 0 ≤ n) (h1 : n ≤ 86400) (h2 : (n % 60 = 0 ∧ 5 ≤ x.length) ∨ 8 ≤ x.length) : GoodW x := by
  obtain ⟨g, a, b⟩ := good_clock h0 h1
  refine gw_tok h g ?_
  rcases h2 with ⟨hz, h5⟩ | h8
  · rw [a hz]; exact h5
  · omega
theorem gw_date {x : List UInt8} {n : Int} (h : Lx.tokS x = some (3, [], n)) (h0 : 0 ≤ n) (h1 : n < 98981) (h2 : 10 ≤ x.length) : GoodW x := by
  obtain ⟨s, g, a⟩ := good_date h0 h1
  exact gw_tok h g (by omega)
theorem gw_offset {x : List UInt8} {n : Int} (h : Lx.tokS x = some (4, [], n)) (h0 : -64800 ≤ n) (h1 : n ≤ 64800) (h2 : n % 60 = 0) (h3 : 6 ≤ x.length) : GoodW x := by
  obtain ⟨g, a⟩ := good_offset h0 h1 h2
  exact gw_tok h g (by omega)
theorem gw_instant {x : List UInt8} {n : Int} (h : Lx.tokS x = some (5, [], n)) (h0 : 0 ≤ n) (h1 : n < 8551958400) (h2 : 20 ≤ x.length) : GoodW x := by
  obtain ⟨s, g, a⟩ := good_instant h0 h1
  exact gw_tok h g (by omega)
theorem gw0 : GoodW [97] := gw_word (by kernel_rfl)
theorem gw1 : GoodW [122, 57, 95, 45] := gw_word (by kernel_rfl)
theorem gw2 : GoodW [65] := .inl (by kernel_rfl)
theorem gw3 : GoodW [57, 97] := .inl (by kernel_rfl)
theorem gw4 : GoodW [48] := gw_number (n := 0) (by kernel_rfl) (by decide) (by decide) (by decide) (by decide)
theorem gw5 : GoodW [48, 48] := .inl (by kernel_rfl)
theorem gw6 : GoodW [55] := gw_number (n := 7) (by kernel_rfl) (by decide) (by decide) (by decide) (by decide)
theorem gw7 : GoodW [57, 57, 57, 57, 57, 57, 57, 57, 57] := gw_number (n := 999999999) (by kernel_rfl) (by decide) (by decide) (by decide) (by decide)
theorem gw8 : GoodW [49, 48, 48, 48, 48, 48, 48, 48, 48, 48] := .inl (by kernel_rfl)
theorem gw9 : GoodW [48, 49] := .inl (by kernel_rfl)
theorem gw10 : GoodW [50, 52, 58, 48, 48] := gw_clock (n := 86400) (by kernel_rfl) (by decide) (by decide) (by decide)
theorem gw11 : GoodW [50, 52, 58, 48, 48, 58, 48, 49] := .inl (by kernel_rfl)
theorem gw12 : GoodW [50, 51, 58, 53, 57, 58, 53, 57] := gw_clock (n := 86399) (by kernel_rfl) (by decide) (by decide) (by decide)
theorem gw13 : GoodW [49, 50, 58, 54, 48] := .inl (by kernel_rfl)
theorem gw14 : GoodW [49, 58, 48, 48] := .inl (by kernel_rfl)
theorem gw15 : GoodW [50, 48, 50, 54, 45, 48, 50, 45, 50, 56] := gw_date (n := 20512) (by kernel_rfl) (by decide) (by decide) (by decide)
theorem gw16 : GoodW [50, 48, 50, 54, 45, 48, 50, 45, 50, 57] := .inl (by kernel_rfl)
theorem gw17 : GoodW [50, 48, 50, 52, 45, 48, 50, 45, 50, 57] := gw_date (n := 19782) (by kernel_rfl) (by decide) (by decide) (by decide)
theorem gw18 : GoodW [49, 57, 54, 57, 45, 49, 50, 45, 51, 49] := .inl (by kernel_rfl)
theorem gw19 : GoodW [50, 50, 52, 48, 45, 49, 50, 45, 51, 49] := gw_date (n := 98980) (by kernel_rfl) (by decide) (by decide) (by decide)
theorem gw20 : GoodW [50, 50, 52, 49, 45, 48, 49, 45, 48, 49] := .inl (by kernel_rfl)
theorem gw21 : GoodW [43, 49, 56, 58, 48, 48] := gw_offset (n := 64800) (by kernel_rfl) (by decide) (by decide) (by decide) (by decide)
theorem gw22 : GoodW [43, 49, 56, 58, 48, 49] := .inl (by kernel_rfl)
theorem gw23 : GoodW [45, 48, 48, 58, 48, 48] := gw_offset (n := 0) (by kernel_rfl) (by decide) (by decide) (by decide) (by decide)
theorem gw24 : GoodW [45, 49, 55, 58, 53, 57] := gw_offset (n := -64740) (by kernel_rfl) (by decide) (by decide) (by decide) (by decide)
theorem gw25 : GoodW [43, 49, 58, 48, 48] := .inl (by kernel_rfl)
theorem gw26 : GoodW [50, 48, 50, 54, 45, 48, 49, 45, 48, 49, 84, 48, 48, 58, 48, 48, 58, 48, 48, 90] := gw_instant (n := 1767225600) (by kernel_rfl) (by decide) (by decide) (by decide)
theorem gw27 : GoodW [50, 48, 50, 54, 45, 48, 49, 45, 48, 49, 84, 50, 52, 58, 48, 48, 58, 48, 48, 90] := .inl (by kernel_rfl)
theorem gw28 : GoodW [50, 48, 50, 54, 45, 49, 51, 45, 48, 49, 84, 48, 48, 58, 48, 48, 58, 48, 48, 90] := .inl (by kernel_rfl)
theorem gw29 : GoodW [50, 48, 50, 54, 45, 48, 49, 45, 48, 49, 116, 48, 48, 58, 48, 48, 58, 48, 48, 90] := .inl (by kernel_rfl)
theorem gw30 : GoodW [97, 98, 99, 100, 101, 102, 103, 104, 105, 106, 107, 108, 109, 110, 111, 112, 113, 114, 115, 116, 117, 118, 119, 120] := gw_word (by kernel_rfl)
theorem gw31 : GoodW [97, 98, 99, 100, 101, 102, 103, 104, 105, 106, 107, 108, 109, 110, 111, 112, 113, 114, 115, 116, 117, 118, 119, 120, 121] := .inl (by kernel_rfl)
theorem gw32 : GoodW [] := .inl (by kernel_rfl)
theorem gw33 : GoodW [35] := .inl (by kernel_rfl)
theorem gw34 : GoodW [97, 35, 98] := .inl (by kernel_rfl)
theorem gw35 : GoodW [110, 111, 98, 111, 100, 121] := gw_word (by kernel_rfl)
theorem words_good : ∀ x ∈ wordsL, GoodW x := by
  intro x hx
  unfold wordsL at hx
  simp only [List.mem_cons, List.mem_nil_iff, or_false] at hx
  rcases hx with rfl | rfl | rfl | rfl | rfl | rfl | rfl | rfl | rfl | rfl | rfl | rfl | rfl | rfl | rfl | rfl | rfl | rfl | rfl | rfl | rfl | rfl | rfl | rfl | rfl | rfl | rfl | rfl | rfl | rfl | rfl | rfl | rfl | rfl | rfl | rfl
  · exact gw0
  · exact gw1
  · exact gw2
  · exact gw3
  · exact gw4
  · exact gw5
  · exact gw6
  · exact gw7
  · exact gw8
  · exact gw9
  · exact gw10
  · exact gw11
  · exact gw12
  · exact gw13
  · exact gw14
  · exact gw15
  · exact gw16
  · exact gw17
  · exact gw18
  · exact gw19
  · exact gw20
  · exact gw21
  · exact gw22
  · exact gw23
  · exact gw24
  · exact gw25
  · exact gw26
  · exact gw27
  · exact gw28
  · exact gw29
  · exact gw30
  · exact gw31
  · exact gw32
  · exact gw33
  · exact gw34
  · exact gw35
/-- A word that a line may hold: printable, without spaces and #, and not empty. -/
def okW (x : List UInt8) : Bool := !x.isEmpty && decide (x.length ≤ 24) && x.all fun b => Lx.prB b && !(b == 32) && !(b == 35)
theorem words_ok : ∀ x ∈ wordsL, Lx.tokS x = none ∨ okW x = true := by
  have h : (wordsL.all fun x => (Lx.tokS x).isNone || okW x) = true := by kernel_rfl
  intro x hx
  have := List.all_eq_true.1 h x hx
  simp only [Bool.or_eq_true, Option.isNone_iff_eq_none] at this
  exact this
end Go.Proofs.YtoohijffkbkikaaGreatDoor
