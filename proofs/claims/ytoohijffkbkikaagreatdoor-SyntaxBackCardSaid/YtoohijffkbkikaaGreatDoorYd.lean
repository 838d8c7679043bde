/- The laws of layer 7: the lines that are drawn, lists of tokens compared, the drawn text, the examples. -/
import Derived.Test.YtoohijffkbkikaaGreatDoorYp
import Derived.Test.YtoohijffkbkikaaGreatDoorYt
import Derived.Test.YtoohijffkbkikaaGreatDoorYn
namespace Go.Proofs.YtoohijffkbkikaaGreatDoor
open Go.RowKit
set_option linter.unusedVariables false
set_option linter.unusedSimpArgs false
set_option maxRecDepth 100000

def linesL : List (List UInt8) := [[122, 111, 110, 101, 32, 97, 32, 43, 48, 49, 58, 48, 48], [122, 111, 110, 101, 32, 97, 32, 48, 49, 58, 48, 48], [114, 117, 108, 101, 32, 50, 48, 50, 48, 32, 50, 48, 51, 48, 32, 109, 97, 114, 32, 108, 97, 115, 116, 32, 115, 117, 110, 32, 48, 50, 58, 48, 48, 32, 43, 48, 50, 58, 48, 48], [114, 117, 108, 101, 32, 50, 48, 50, 48, 32, 109, 97, 114, 32, 108, 97, 115, 116, 32, 115, 117, 110, 32, 48, 50, 58, 48, 48, 32, 43, 48, 50, 58, 48, 48], [112, 101, 114, 115, 111, 110, 32, 112, 32, 97], [112, 101, 114, 115, 111, 110, 32, 112, 32, 97, 32, 119, 101, 101, 107, 32, 52, 48], [112, 101, 114, 115, 111, 110, 32, 112, 32, 97, 32, 114, 101, 115, 116, 32, 49, 49], [112, 101, 114, 115, 111, 110, 32, 112, 32, 97, 32, 119, 101, 101, 107, 32, 52, 48, 32, 114, 101, 115, 116, 32, 49, 49, 32, 99, 111, 110, 115, 101, 110, 116], [112, 101, 114, 115, 111, 110, 32, 112, 32, 97, 32, 114, 101, 115, 116, 32, 49, 49, 32, 119, 101, 101, 107, 32, 52, 48], [112, 101, 114, 115, 111, 110, 32, 112, 32, 97, 32, 99, 111, 110, 115, 101, 110, 116, 32, 99, 111, 110, 115, 101, 110, 116], [112, 101, 114, 115, 111, 110, 32, 112, 32, 97, 32, 119, 101, 101, 107], [112, 101, 114, 115, 111, 110, 32, 112], [113, 117, 105, 101, 116, 32, 109, 111, 110, 32, 50, 50, 58, 48, 48, 32, 109, 111, 110, 32, 50, 52, 58, 48, 48], [113, 117, 105, 101, 116, 32, 109, 111, 110, 32, 50, 50, 58, 48, 48], [99, 97, 108, 101, 110, 100, 97, 114, 32, 99, 32, 97], [100, 97, 121, 115, 32, 50, 48, 50, 54, 45, 48, 49, 45, 48, 49], [100, 97, 121, 115, 32, 50, 48, 50, 54, 45, 48, 49, 45, 48, 49, 32, 50, 48, 50, 54, 45, 48, 49, 45, 48, 50], [100, 97, 121, 115], [100, 97, 121, 115, 32, 50, 48, 50, 54, 45, 48, 49, 45, 48, 49, 32, 120], [115, 99, 104, 101, 100, 117, 108, 101, 32, 115], [115, 99, 104, 101, 100, 117, 108, 101], [108, 97, 121, 101, 114, 32, 108, 32, 97, 32, 50, 48, 50, 54, 45, 48, 49, 45, 48, 53, 32, 48, 57, 58, 48, 48, 32, 49, 32, 119, 101, 101, 107, 115], [108, 97, 121, 101, 114, 32, 108, 32, 97, 32, 50, 48, 50, 54, 45, 48, 49, 45, 48, 53, 32, 49, 32, 119, 101, 101, 107, 115], [109, 101, 109, 98, 101, 114, 32, 112, 32, 113, 32, 114], [109, 101, 109, 98, 101, 114], [111, 110, 32, 109, 111, 110, 32, 48, 57, 58, 48, 48, 32, 102, 114, 105, 32, 49, 55, 58, 48, 48], [110, 111, 116, 32, 99], [111, 110, 108, 121, 32, 99], [111, 110, 108, 121, 32, 99, 32, 100], [108, 101, 97, 118, 101, 32, 112, 32, 50, 48, 50, 54, 45, 48, 49, 45, 48, 49, 84, 48, 48, 58, 48, 48, 58, 48, 48, 90, 32, 50, 48, 50, 54, 45, 48, 49, 45, 48, 50, 84, 48, 48, 58, 48, 48, 58, 48, 48, 90], [111, 118, 101, 114, 114, 105, 100, 101, 32, 110, 111, 98, 111, 100, 121, 32, 50, 48, 50, 54, 45, 48, 49, 45, 48, 49, 84, 48, 48, 58, 48, 48, 58, 48, 48, 90, 32, 50, 48, 50, 54, 45, 48, 49, 45, 48, 50, 84, 48, 48, 58, 48, 48, 58, 48, 48, 90], [115, 119, 97, 112, 32, 112, 32, 113, 32, 50, 48, 50, 54, 45, 48, 49, 45, 48, 49, 84, 48, 48, 58, 48, 48, 58, 48, 48, 90, 32, 50, 48, 50, 54, 45, 48, 49, 45, 48, 50, 84, 48, 48, 58, 48, 48, 58, 48, 48, 90], [115, 119, 97, 112, 32, 112, 32, 50, 48, 50, 54, 45, 48, 49, 45, 48, 49, 84, 48, 48, 58, 48, 48, 58, 48, 48, 90, 32, 50, 48, 50, 54, 45, 48, 49, 45, 48, 50, 84, 48, 48, 58, 48, 48, 58, 48, 48, 90], [], [32, 32, 32], [35, 32, 111, 110, 108, 121, 32, 116, 104, 105, 115], [122, 111, 110, 101, 32, 97, 32, 43, 48, 49, 58, 48, 48, 32, 35, 32, 119, 105, 116, 104, 32, 116, 104, 105, 115], [117, 110, 107, 110, 111, 119, 110, 32, 97], [49, 32, 97], [122, 111, 110, 101]]
def linesV : Array Value := (linesL.map fun x => Value.string ⟨x.toArray⟩).toArray
theorem linesV_eq : linesV = #[.string ⟨#[122, 111, 110, 101, 32, 97, 32, 43, 48, 49, 58, 48, 48]⟩, .string ⟨#[122, 111, 110, 101, 32, 97, 32, 48, 49, 58, 48, 48]⟩, .string ⟨#[114, 117, 108, 101, 32, 50, 48, 50, 48, 32, 50, 48, 51, 48, 32, 109, 97, 114, 32, 108, 97, 115, 116, 32, 115, 117, 110, 32, 48, 50, 58, 48, 48, 32, 43, 48, 50, 58, 48, 48]⟩, .string ⟨#[114, 117, 108, 101, 32, 50, 48, 50, 48, 32, 109, 97, 114, 32, 108, 97, 115, 116, 32, 115, 117, 110, 32, 48, 50, 58, 48, 48, 32, 43, 48, 50, 58, 48, 48]⟩, .string ⟨#[112, 101, 114, 115, 111, 110, 32, 112, 32, 97]⟩, .string ⟨#[112, 101, 114, 115, 111, 110, 32, 112, 32, 97, 32, 119, 101, 101, 107, 32, 52, 48]⟩, .string ⟨#[112, 101, 114, 115, 111, 110, 32, 112, 32, 97, 32, 114, 101, 115, 116, 32, 49, 49]⟩, .string ⟨#[112, 101, 114, 115, 111, 110, 32, 112, 32, 97, 32, 119, 101, 101, 107, 32, 52, 48, 32, 114, 101, 115, 116, 32, 49, 49, 32, 99, 111, 110, 115, 101, 110, 116]⟩, .string ⟨#[112, 101, 114, 115, 111, 110, 32, 112, 32, 97, 32, 114, 101, 115, 116, 32, 49, 49, 32, 119, 101, 101, 107, 32, 52, 48]⟩, .string ⟨#[112, 101, 114, 115, 111, 110, 32, 112, 32, 97, 32, 99, 111, 110, 115, 101, 110, 116, 32, 99, 111, 110, 115, 101, 110, 116]⟩, .string ⟨#[112, 101, 114, 115, 111, 110, 32, 112, 32, 97, 32, 119, 101, 101, 107]⟩, .string ⟨#[112, 101, 114, 115, 111, 110, 32, 112]⟩, .string ⟨#[113, 117, 105, 101, 116, 32, 109, 111, 110, 32, 50, 50, 58, 48, 48, 32, 109, 111, 110, 32, 50, 52, 58, 48, 48]⟩, .string ⟨#[113, 117, 105, 101, 116, 32, 109, 111, 110, 32, 50, 50, 58, 48, 48]⟩, .string ⟨#[99, 97, 108, 101, 110, 100, 97, 114, 32, 99, 32, 97]⟩, .string ⟨#[100, 97, 121, 115, 32, 50, 48, 50, 54, 45, 48, 49, 45, 48, 49]⟩, .string ⟨#[100, 97, 121, 115, 32, 50, 48, 50, 54, 45, 48, 49, 45, 48, 49, 32, 50, 48, 50, 54, 45, 48, 49, 45, 48, 50]⟩, .string ⟨#[100, 97, 121, 115]⟩, .string ⟨#[100, 97, 121, 115, 32, 50, 48, 50, 54, 45, 48, 49, 45, 48, 49, 32, 120]⟩, .string ⟨#[115, 99, 104, 101, 100, 117, 108, 101, 32, 115]⟩, .string ⟨#[115, 99, 104, 101, 100, 117, 108, 101]⟩, .string ⟨#[108, 97, 121, 101, 114, 32, 108, 32, 97, 32, 50, 48, 50, 54, 45, 48, 49, 45, 48, 53, 32, 48, 57, 58, 48, 48, 32, 49, 32, 119, 101, 101, 107, 115]⟩, .string ⟨#[108, 97, 121, 101, 114, 32, 108, 32, 97, 32, 50, 48, 50, 54, 45, 48, 49, 45, 48, 53, 32, 49, 32, 119, 101, 101, 107, 115]⟩, .string ⟨#[109, 101, 109, 98, 101, 114, 32, 112, 32, 113, 32, 114]⟩, .string ⟨#[109, 101, 109, 98, 101, 114]⟩, .string ⟨#[111, 110, 32, 109, 111, 110, 32, 48, 57, 58, 48, 48, 32, 102, 114, 105, 32, 49, 55, 58, 48, 48]⟩, .string ⟨#[110, 111, 116, 32, 99]⟩, .string ⟨#[111, 110, 108, 121, 32, 99]⟩, .string ⟨#[111, 110, 108, 121, 32, 99, 32, 100]⟩, .string ⟨#[108, 101, 97, 118, 101, 32, 112, 32, 50, 48, 50, 54, 45, 48, 49, 45, 48, 49, 84, 48, 48, 58, 48, 48, 58, 48, 48, 90, 32, 50, 48, 50, 54, 45, 48, 49, 45, 48, 50, 84, 48, 48, 58, 48, 48, 58, 48, 48, 90]⟩, .string ⟨#[111, 118, 101, 114, 114, 105, 100, 101, 32, 110, 111, 98, 111, 100, 121, 32, 50, 48, 50, 54, 45, 48, 49, 45, 48, 49, 84, 48, 48, 58, 48, 48, 58, 48, 48, 90, 32, 50, 48, 50, 54, 45, 48, 49, 45, 48, 50, 84, 48, 48, 58, 48, 48, 58, 48, 48, 90]⟩, .string ⟨#[115, 119, 97, 112, 32, 112, 32, 113, 32, 50, 48, 50, 54, 45, 48, 49, 45, 48, 49, 84, 48, 48, 58, 48, 48, 58, 48, 48, 90, 32, 50, 48, 50, 54, 45, 48, 49, 45, 48, 50, 84, 48, 48, 58, 48, 48, 58, 48, 48, 90]⟩, .string ⟨#[115, 119, 97, 112, 32, 112, 32, 50, 48, 50, 54, 45, 48, 49, 45, 48, 49, 84, 48, 48, 58, 48, 48, 58, 48, 48, 90, 32, 50, 48, 50, 54, 45, 48, 49, 45, 48, 50, 84, 48, 48, 58, 48, 48, 58, 48, 48, 90]⟩, .string ⟨#[]⟩, .string ⟨#[32, 32, 32]⟩, .string ⟨#[35, 32, 111, 110, 108, 121, 32, 116, 104, 105, 115]⟩, .string ⟨#[122, 111, 110, 101, 32, 97, 32, 43, 48, 49, 58, 48, 48, 32, 35, 32, 119, 105, 116, 104, 32, 116, 104, 105, 115]⟩, .string ⟨#[117, 110, 107, 110, 111, 119, 110, 32, 97]⟩, .string ⟨#[49, 32, 97]⟩, .string ⟨#[122, 111, 110, 101]⟩] := by kernel_rfl
theorem linesV_at {j : Nat} {x : List UInt8} (h : linesL[j]? = some x) : linesV[j]? = some (.string ⟨x.toArray⟩) := by
  unfold linesV
  rw [List.getElem?_toArray, List.getElem?_map, h]
  rfl
theorem lines_any (w : World) : Calls Tryz.prog 27 #[] w fun e w' => e = .returned (.slice (some ⟨w.heap.size, 0, none⟩) 40 40) ∧ w' = w.alloc (.cells linesV 9) := by
  have HW := Lib.hid linesV_eq
  go_enter Tryz.func27, Tryz.ntmps27
  go_wp2_with fail
  go_ret
  rw [HW.out]
  exact ⟨rfl, rfl⟩
/-- A line that is a statement, or says nothing. -/
structure GL (x : List UInt8) : Prop where
  ok : (Sy.stmS x).1 = 0
  no10 : (10 : UInt8) ∉ x
  len : x.length ≤ 80
  toks : (Sy.stmS x).2.length ≤ 20
theorem gl_nil : GL [] := ⟨by kernel_rfl, by simp, by simp, by rw [show (Sy.stmS []).2 = [] by kernel_rfl]; simp⟩
theorem lines_all : (linesL.all fun x => decide (x.length ≤ 80) && !(x.contains 10) && (S7.par7 x == 2 || (S7.par7 x == 0 && ((Sy.stmS x).1 == 0 && decide ((Sy.stmS x).2.length ≤ 20))))) = true := by kernel_rfl
theorem lines_get {j : Nat} (h : j < 40) : ∃ x, linesL[j]? = some x ∧ x.length ≤ 80 ∧ (10 : UInt8) ∉ x ∧ (S7.par7 x = 2 ∨ (S7.par7 x = 0 ∧ GL x)) := by
  obtain ⟨x, hx⟩ := get_ex (xs := linesL) (i := j) h
  have ha := List.all_eq_true.1 lines_all x (List.mem_of_getElem? hx)
  simp only [Bool.and_eq_true, Bool.or_eq_true, decide_eq_true_eq, beq_iff_eq, Bool.not_eq_true', List.contains_eq_mem, decide_eq_false_iff_not] at ha
  obtain ⟨⟨h1, h2⟩, h3⟩ := ha
  exact ⟨x, hx, h1, h2, h3.elim .inl fun h => .inr ⟨h.1, ⟨h.2.1, h2, h1, h.2.2⟩⟩⟩

/-! ### Tokens compared -/
set_option maxHeartbeats 4000000 in
theorem toks_yes (A B : Option Addr) (n c c2 : Nat) (ts : List Lx.Tk) (w : World) (hA : ListAt 3 eTok w A ts) (hB : ListAt 3 eTok w B ts) (hn : ts.length = n) (hs : n ≤ 1000) :
    Calls Tryz.prog 26 #[.slice A n c, .slice B n c2] w fun e w' => e = .returned (.bool true) ∧ Below w.heap.size w w' := by
  have HA := Lib.hid hA
  have HB := Lib.hid hB
  have HN := Lib.hid hn
  clear hA hB hn
  go_enter Tryz.func26, Tryz.ntmps26
  go_wp2_with fail
  go_loopw [13] (fun i wr => ∃ k : Nat, k ≤ n ∧ i = .int .i64 k ∧ Hid (Below w.heap.size w wr)) (fun i _ => n - (intOf i).toNat)
  case atStart => exact ⟨0, Nat.zero_le _, rfl, Lib.hid (Below.refl _ _)⟩
  case round =>
    obtain ⟨k, hk, rfl, HK⟩ := hrel
    by_cases hlt : k < n
    · obtain ⟨⟨yk, yt, yn⟩, hy⟩ := get_ex (xs := ts) (i := k) (by rw [HN.out]; exact hlt)
      obtain ⟨b, off, rfl, c0, c1, c2⟩ := tok_elem (HA.out.below HK.out) hy
      obtain ⟨b', off', rfl, d0, d1, d2⟩ := tok_elem (HB.out.below HK.out) hy
      simp only at c0 c1 c2 d0 d1 d2
      clear hy
      go_wp2_with fail
      go_quiet (fail)
      go_wp2_with fail
      go_roundw
      case rel => exact ⟨k + 1, by omega, by go_num, Lib.hid (bdrewN HK.out _)⟩
      case measure => simp [intOf]; omega
    · go_wp2_with fail
      go_ret
      exact ⟨rfl, HK.out⟩

/-! ### The drawn text -/
/-- A text of good lines. -/
structure GT (s : List UInt8) (xs : List (List UInt8)) (x : List UInt8) : Prop where
  eq : s = flat xs ++ x
  all : ∀ y ∈ xs, GL y
  last : GL x
  few : xs.length ≤ 8
theorem flat_len81 : ∀ (ys : List (List UInt8)), (∀ y ∈ ys, GL y) → (flat ys).length ≤ ys.length * 81
  | [], _ => by simp [flat]
  | y :: ys, h => by
    have ih := flat_len81 ys (fun z hz => h z (by simp [hz]))
    have hy := (h y (by simp)).len
    show (y ++ [10] ++ flat ys).length ≤ _
    simp only [List.length_append, List.length_cons, List.length_nil, Nat.add_mul, Nat.one_mul]
    omega
theorem GT.size {s : List UInt8} {xs : List (List UInt8)} {x : List UInt8} (h : GT s xs x) : s.length ≤ 728 := by
  have h1 := flat_len81 xs h.all
  have h2 := h.last.len
  have h3 : xs.length * 81 ≤ 8 * 81 := Nat.mul_le_mul_right _ h.few
  rw [h.eq, List.length_append]
  omega
def DrawV (w : World) (g : Nat) (A : Option Addr) (n c : Nat) (zs : List Int) (e : Ending) (w' : World) : Prop :=
  ∃ (L : ByteArray) (xs : List (List UInt8)) (x : List UInt8), e = .returned (.string L) ∧ GT L.data.toList xs x ∧ w.grownBy w' (some g) ∧ Dice w' g A n c zs
/-- What stands at the loop's head. -/
structure DL (w : World) (bl g : Nat) (A : Option Addr) (n c : Nat) (zs : List Int) (wr : World) : Prop where
  lines : BlkAt wr bl linesV 9
  grown : w.grownBy wr (some g)
  dice : Dice wr g A n c zs
theorem DL.below {w wr w' : World} {bl g n c : Nat} {A : Option Addr} {zs : List Int} (h : DL w bl g A n c zs wr) (hb : Below wr.heap.size wr w') : DL w bl g A n c zs w' :=
  ⟨h.lines.after hb, grown_then h.grown hb h.grown.size, h.dice.after hb⟩
theorem DL.next {w wr w' : World} {bl g n c : Nat} {A : Option Addr} {zs : List Int} (h : DL w bl g A n c zs wr) (hne : bl ≠ g) (hg : wr.grownBy w' (some g)) (hd : Dice w' g A n c zs) : DL w bl g A n c zs w' :=
  ⟨h.lines.grown hg (fun e => hne (Option.some.inj e)), grown_trans h.grown hg, hd⟩
set_option maxHeartbeats 16000000 in
theorem draw_is (g n c : Nat) (A : Option Addr) (zs : List Int) (w : World) (h : Dice w g A n c zs) :
    Calls Tryz.prog 9 #[.pointer (some ⟨g, 0, none⟩), .bool true] w (DrawV w g A n c zs) := by
  have hgl := h.lt_
  have H0 := Lib.hid (show DL w w.heap.size g A n c zs (w.alloc (.cells linesV 9)) from ⟨BlkAt.new w _ _, grown_alloc (grown_refl w _) _, h.alloc _⟩)
  have hne : w.heap.size ≠ g := by omega
  clear h
  go_enter Tryz.func9, Tryz.ntmps9
  go_wp2_with fail
  refine (lines_any _).mono ?_
  rintro e w' ⟨rfl, rfl⟩
  go_wp2_with fail
  refine (Next_any g n c A zs 9 _ H0.out.dice (by decide) (by decide)).mono ?_
  rintro e w1 ⟨v1, rfl, v0, v1', hg1, D1⟩
  obtain ⟨k1, rfl⟩ : ∃ k1 : Nat, v1 = k1 := ⟨v1.toNat, by omega⟩
  have H1 := Lib.hid (H0.out.next hne hg1 D1)
  clear hg1 D1 H0
  go_wp2_with fail
  go_loopw [5, 7] (fun o i wr => ∃ (k : Nat) (L : ByteArray) (xs : List (List UInt8)) (x : List UInt8), k ≤ 8 ∧ i = .int .i64 k ∧ o = .string L ∧ Hid (GT L.data.toList xs x) ∧ (0 < k → x = []) ∧ xs.length + k ≤ 8 ∧ Hid (DL w w.heap.size g A n c zs wr)) (fun _ i _ => (intOf i).toNat)
  case atStart => exact ⟨k1, ⟨#[]⟩, [], [], by omega, rfl, rfl, Lib.hid ⟨rfl, (fun y hy => by cases hy), gl_nil, by simp⟩, fun _ => rfl, by simp; omega, H1⟩
  case round =>
    clear H1
    obtain ⟨k, L, xs, x, hk, rfl, rfl, HG, hx0, hxk, HD⟩ := hrel
    by_cases hpos : 0 < k
    · obtain rfl := hx0 hpos
      have t0 : decide ((0 : Int) < k) = true := by simp; omega
      have hLz : L.size ≤ 728 := by rw [Lib.size_eq]; exact HG.out.size
      go_wp2_with fail
      refine (Next_any g n c A zs 40 _ HD.out.dice (by decide) (by decide)).mono ?_
      rintro e w2 ⟨v, rfl, w0, w1', hg2, D2⟩
      obtain ⟨j, rfl⟩ : ∃ j : Nat, v = j := ⟨v.toNat, by omega⟩
      have H2 := Lib.hid (HD.out.next hne hg2 D2)
      obtain ⟨y, hy, hyz, hy10, hyy⟩ := lines_get (j := j) (by omega)
      have c0 : w2.cell? ⟨w.heap.size, j, none⟩ = some (.string ⟨y.toArray⟩) := H2.out.lines.cell (linesV_at hy)
      have C := Lib.hid (par7_is ⟨y.toArray⟩ w2 (by rw [ba_size]; omega) hy10)
      have yz : (⟨y.toArray⟩ : ByteArray).size ≤ 80 := by rw [ba_size]; exact hyz
      have n1 : ¬ 9223372036854775807 < L.size + (⟨y.toArray⟩ : ByteArray).size := by omega
      have n1' : ¬ 9223372036854775807 < L.size + y.length := by omega
      have n2 : ¬ 9223372036854775807 < (L ++ (⟨y.toArray⟩ : ByteArray)).size + 1 := by
        have : (L ++ (⟨y.toArray⟩ : ByteArray)).size = L.size + (⟨y.toArray⟩ : ByteArray).size := by rw [Lib.size_eq, app_data, List.length_append, ← Lib.size_eq]; simp [ba_size]
        omega
      have n3 : ¬ 9223372036854775807 < L.size + y.length + 1 := by omega
      have j0 : (j : Int) < 40 := by omega
      clear hg2 D2 hy HD hx0
      rcases hyy with hp | ⟨hp, hgl⟩
      · rw [show (⟨y.toArray⟩ : ByteArray).data.toList = y from rfl, hp] at C
        go_wp2_with fail
        refine C.out.mono ?_
        rintro e w3 ⟨⟨S, l, rfl⟩, b3⟩
        have H3 := Lib.hid (H2.out.below b3)
        clear b3
        go_wp2_with fail
        go_roundw
        case rel => exact ⟨k - 1, L, xs, [], by omega, by go_num, rfl, HG, fun _ => rfl, by omega, H3⟩
        case measure => simp [intOf]; omega
      · rw [show (⟨y.toArray⟩ : ByteArray).data.toList = y from rfl, hp] at C
        have NG := Lib.hid (show GT ((L ++ (⟨y.toArray⟩ : ByteArray)) ++ (⟨#[10]⟩ : ByteArray)).data.toList (xs ++ [y]) [] from ⟨by
          rw [app_data, app_data, HG.out.eq, flat_snoc]; simp, (fun z hz => by
          simp only [List.mem_append, List.mem_singleton] at hz
          rcases hz with hz | rfl
          · exact HG.out.all z hz
          · exact hgl), gl_nil, by simp; omega⟩)
        have NH := Lib.hid (show GT (L ++ (⟨y.toArray⟩ : ByteArray)).data.toList xs y from ⟨by rw [app_data, HG.out.eq, List.append_nil], HG.out.all, hgl, HG.out.few⟩)
        by_cases hk1 : 1 < k
        · have t1 : decide ((1 : Int) < k) = true := by simp; omega
          go_wp2_with fail
          refine C.out.mono ?_
          rintro e w3 ⟨⟨S, l, rfl⟩, b3⟩
          have H3 := Lib.hid (H2.out.below b3)
          clear b3
          go_wp2_with fail
          go_roundw
          case rel => exact ⟨k - 1, _, xs ++ [y], [], by omega, by go_num, rfl, NG, fun _ => rfl, by simp; omega, H3⟩
          case measure => simp [intOf]; omega
        · have hk1' : k = 1 := by omega
          subst hk1'
          go_wp2_with fail
          refine C.out.mono ?_
          rintro e w3 ⟨⟨S, l, rfl⟩, b3⟩
          have H3 := Lib.hid (H2.out.below b3)
          clear b3
          go_wp2_with fail
          refine (Bool_any g n c A zs 2 _ H3.out.dice (by decide) (by decide)).mono ?_
          rintro e w4 ⟨v, rfl, hg4, D4⟩
          have H4 := Lib.hid (H3.out.next hne hg4 D4)
          clear hg4 D4
          cases v
          · go_wp2_with fail
            go_roundw
            case rel => exact ⟨0, _, xs, y, by omega, by go_num, rfl, NH, (fun h => absurd h (by omega)), by omega, H4⟩
            case measure => simp [intOf]
          · go_wp2_with fail
            go_roundw
            case rel => exact ⟨0, _, xs ++ [y], [], by omega, by go_num, rfl, NG, (fun h => absurd h (by omega)), by simp; omega, H4⟩
            case measure => simp [intOf]
    · have hk0 : k = 0 := by omega
      subst hk0
      go_wp2_with fail
      go_ret
      exact ⟨L, xs, x, rfl, HG.out, HD.out.grown, HD.out.dice⟩
end Go.Proofs.YtoohijffkbkikaaGreatDoor
