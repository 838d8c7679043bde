/- The reference of layer 7: kinds, many, person, Form. -/
import Derived.Test.YtoohijffkbkikaaGreatDoorYm
import Derived.Test.YtoohijffkbkikaaGreatDoorR6f
set_option maxRecDepth 100000
namespace S7
open Go Go.Lib Go.Proofs.YtoohijffkbkikaaGreatDoor Lx
def kb (k : Int) : UInt8 := if k = 0 then 119 else if k = 1 then 110 else if k = 2 then 99 else if k = 3 then 100 else if k = 4 then 111 else 105
def kindsG : List UInt8 → List Tk → List UInt8
  | acc, [] => acc
  | acc, t :: r => if t.1 < 0 ∨ 5 < t.1 then [63] else kindsG (acc ++ [kb t.1]) r
theorem kinds_len : ∀ (l : List Tk) (acc : List UInt8), (kindsG acc l).length ≤ acc.length + l.length + 1
  | [], acc => by simp [kindsG]
  | t :: r, acc => by
    rw [kindsG]
    split
    · simp
    · have := kinds_len r (acc ++ [kb t.1])
      simp at this ⊢
      omega
def stepS (w : List UInt8) (l : List Tk) : List Tk := if 2 ≤ l.length ∧ kindsG [] (l.take 2) = [119, 110] ∧ (l.map (·.2.1)).head? = some w then l.drop 2 else l
def stepsS : List (List UInt8) → List Tk → List Tk
  | [], l => l
  | w :: ws, l => stepsS ws (stepS w l)
def endS (l : List Tk) : Bool := l.isEmpty || (decide (l.length = 1) && (kindsG [] l == [119]) && ((l.map (·.2.1)).head? == some [99, 111, 110, 115, 101, 110, 116]))
def persS (l : List Tk) : Bool := if l.length < 2 ∨ kindsG [] (l.take 2) ≠ [119, 119] then false else endS (stepsS [[119, 101, 101, 107], [114, 101, 115, 116]] (l.drop 2))
def F7 : List (List UInt8 × List UInt8) := [([122, 111, 110, 101], [119, 111]), ([114, 117, 108, 101], [110, 110, 119, 119, 119, 99, 111]), ([113, 117, 105, 101, 116], [119, 99, 119, 99]), ([99, 97, 108, 101, 110, 100, 97, 114], [119, 119]), ([100, 97, 121, 115], [100, 43]), ([115, 99, 104, 101, 100, 117, 108, 101], [119]), ([108, 97, 121, 101, 114], [119, 119, 100, 99, 110, 119]), ([109, 101, 109, 98, 101, 114], [119, 43]), ([111, 110], [119, 99, 119, 99]), ([110, 111, 116], [119]), ([111, 110, 108, 121], [119]), ([108, 101, 97, 118, 101], [119, 105, 105]), ([111, 118, 101, 114, 114, 105, 100, 101], [119, 105, 105]), ([115, 119, 97, 112], [119, 119, 105, 105])]
def manyS (s : List UInt8) (c : UInt8) : Bool := s.all (· == c) && !s.isEmpty
def hitS (k q : List UInt8) : Bool := k == q || (decide (q.length = 2) && (q[1]? == some 43) && manyS k (q.headD 0))
def goS (k kw : List UInt8) : List (List UInt8 × List UInt8) → Bool
  | [] => false
  | f :: fs => if f.1 = kw then hitS k f.2 else goS k kw fs
def form7 : List Tk → Bool
  | [] => false
  | t :: r => if t.1 ≠ 0 then false else if t.2.1 = [112, 101, 114, 115, 111, 110] then persS r else goS (kindsG [] r) t.2.1 F7
/-- The error of Parse at a text of one line. -/
def par7 (x : List UInt8) : Int := match L6.line6S x with
  | none => 2
  | some ts => if ts ≠ [] ∧ form7 ts = false then 2 else 0
end S7
namespace Go.Proofs.YtoohijffkbkikaaGreatDoor
open Go.RowKit
set_option linter.unusedVariables false
set_option linter.unusedSimpArgs false

theorem kind_cell (wr : World) (q : Nat) (h : q ≤ 5) : (wr.alloc (.cells #[.string ⟨#[119]⟩, .string ⟨#[110]⟩, .string ⟨#[99]⟩, .string ⟨#[100]⟩, .string ⟨#[111]⟩, .string ⟨#[105]⟩] 9)).cell? ⟨wr.heap.size, q, none⟩ = some (.string ⟨#[S7.kb (q : Int)]⟩) := by
  have W := BlkAt.new wr #[.string ⟨#[119]⟩, .string ⟨#[110]⟩, .string ⟨#[99]⟩, .string ⟨#[100]⟩, .string ⟨#[111]⟩, .string ⟨#[105]⟩] 9
  have : q = 0 ∨ q = 1 ∨ q = 2 ∨ q = 3 ∨ q = 4 ∨ q = 5 := by omega
  rcases this with rfl | rfl | rfl | rfl | rfl | rfl
  all_goals exact W.cell rfl
theorem ret_str7 {a b : ByteArray} (h : a = b) : Ending.returned (.string a) = .returned (.string b) := by rw [h]
set_option maxHeartbeats 4000000 in
theorem kinds_is {ts : List Lx.Tk} {R : List UInt8} (hR : S7.kindsG [] ts = R) (A : Option Addr) (n c : Nat) (w : World) (hA : ListAt 3 eTok w A ts) (hn : ts.length = n) (hs : n ≤ 1000) :
    Calls Tryz.prog 40 #[.slice A n c] w fun e w' => e = .returned (.string ⟨R.toArray⟩) ∧ Below w.heap.size w w' := by
  have HA := Lib.hid hA
  have HN := Lib.hid hn
  have HR0 : Hid (S7.kindsG [] (ts.drop 0) = R) := Lib.hid hR
  clear hA hn hR
  go_enter Tryz.func40, Tryz.ntmps40
  go_wp2_with fail
  go_loopw [3, 4] (fun o i wr => ∃ (k : Nat) (L : ByteArray), k ≤ n ∧ i = .int .i64 k ∧ o = .string L ∧ Hid (S7.kindsG L.data.toList (ts.drop k) = R) ∧ L.size = k ∧ Hid (Below w.heap.size w wr)) (fun _ i _ => n - (intOf i).toNat)
  case atStart => exact ⟨0, ⟨#[]⟩, Nat.zero_le _, rfl, rfl, HR0, rfl, Lib.hid (Below.refl _ _)⟩
  case round =>
    clear HR0
    obtain ⟨k, L, hk, rfl, rfl, HR, hLk, HB⟩ := hrel
    by_cases hlt : k < n
    · obtain ⟨⟨yk, yt, yn⟩, hy⟩ := get_ex (xs := ts) (i := k) (by rw [HN.out]; exact hlt)
      obtain ⟨b, off, rfl, c0, c1, c2⟩ := tok_elem (HA.out.below HB.out) hy
      simp only at c0 c1 c2
      have hst := HR.out
      rw [drop_cons' hy, S7.kindsG] at hst
      simp only at hst
      have hblt := (HA.out.below HB.out).lt_ (by rw [HN.out]; omega)
      by_cases h1 : yk < 0
      · have N := Lib.hid (show R = [63] by rw [← hst, if_pos (.inl h1)])
        have e1 : decide (yk < 0) = true := by simpa using h1
        clear hst hy HR
        go_wp2_with fail
        go_ret
        exact ⟨ret_str7 (by rw [N.out]), HB.out⟩
      · have e1 : decide (yk < 0) = false := by simpa using h1
        by_cases h2 : 5 < yk
        · have N := Lib.hid (show R = [63] by rw [← hst, if_pos (.inr h2)])
          have e2 : decide (5 < yk) = true := by simpa using h2
          clear hst hy HR
          go_wp2_with fail
          go_ret
          exact ⟨ret_str7 (by rw [N.out]), HB.out⟩
        · have e2 : decide (5 < yk) = false := by simpa using h2
          obtain ⟨q, rfl⟩ : ∃ q : Nat, yk = q := ⟨yk.toNat, by omega⟩
          rw [if_neg (by omega)] at hst
          have hq : q ≤ 5 := by omega
          have hkc := kind_cell wr q hq
          have hrz := HB.out.size
          have BA := (Below.refl _ wr).alloc (Nat.le_refl _) (.cells #[.string ⟨#[119]⟩, .string ⟨#[110]⟩, .string ⟨#[99]⟩, .string ⟨#[100]⟩, .string ⟨#[111]⟩, .string ⟨#[105]⟩] 9)
          have d0 := cell_lift c0 BA
          have N := Lib.hid (show S7.kindsG (L ++ (⟨#[S7.kb (q : Int)]⟩ : ByteArray)).data.toList (ts.drop (k + 1)) = R by rw [app_data]; exact hst)
          have NB := Lib.hid (HB.out.alloc hrz (.cells #[.string ⟨#[119]⟩, .string ⟨#[110]⟩, .string ⟨#[99]⟩, .string ⟨#[100]⟩, .string ⟨#[111]⟩, .string ⟨#[105]⟩] 9))
          have NL := Lib.hid (show (L ++ (⟨#[S7.kb (q : Int)]⟩ : ByteArray)).size = k + 1 by rw [Lib.size_eq, app_data, List.length_append, ← Lib.size_eq, hLk]; rfl)
          have n1 : ¬ 9223372036854775807 < L.size + 1 := by omega
          obtain ⟨u, hu⟩ : ∃ u, (⟨#[S7.kb (q : Int)]⟩ : ByteArray) = u := ⟨_, rfl⟩
          have hus : u.size = 1 := by rw [← hu]; rfl
          have n2 : ¬ 9223372036854775807 < L.size + u.size := by omega
          rw [hu] at hkc N NL
          clear hst hy HR BA hu
          go_wp2_with fail
          go_roundw
          case rel => exact ⟨k + 1, L ++ u, by omega, by go_num, rfl, N, NL.out, NB⟩
          case measure => simp [intOf]; omega
    · have N := Lib.hid (show (⟨R.toArray⟩ : ByteArray) = L by
        rw [← HR.out, List.drop_of_length_le (by rw [HN.out]; omega)]
        show (⟨L.data.toList.toArray⟩ : ByteArray) = L
        rw [Lib.mk_data])
      go_wp2_with fail
      go_ret
      exact ⟨ret_str7 N.out.symm, HB.out⟩

set_option maxHeartbeats 4000000 in
theorem many_is {s : ByteArray} {x : UInt8} {R : Bool} (hR : S7.manyS s.data.toList x = R) (w : World) (hs : s.size ≤ 10000) :
    Calls Tryz.prog 42 #[.string s, .string ⟨#[x]⟩] w fun e w' => e = .returned (.bool R) ∧ w = w' := by
  obtain ⟨n, hn⟩ : ∃ n, s.size = n := ⟨_, rfl⟩
  have hl : s.data.toList.length = n := by rw [← hn, Lib.size_eq]
  have HL := Lib.hid hl
  have hn2 : n ≤ 10000 := by omega
  have HR0 : Hid (((s.data.toList.drop 0).all (· == x) && !s.data.toList.isEmpty) = R) := Lib.hid hR
  clear hl hs hR
  go_enter Tryz.func42, Tryz.ntmps42
  go_wp2_with fail
  go_loopw [5] (fun i wr => ∃ k : Nat, k ≤ n ∧ i = .int .i64 k ∧ Hid (((s.data.toList.drop k).all (· == x) && !s.data.toList.isEmpty) = R) ∧ w = wr) (fun i _ => n - (intOf i).toNat)
  case atStart => exact ⟨0, Nat.zero_le _, rfl, HR0, rfl⟩
  case round =>
    clear HR0
    obtain ⟨k, hk, rfl, HR, rfl⟩ := hrel
    by_cases hlt : k < n
    · obtain ⟨c, hc⟩ : ∃ c, s.data.toList[k]? = some c := ⟨_, List.getElem?_eq_getElem (by rw [HL.out]; exact hlt)⟩
      have hst := HR.out
      rw [drop_cons' hc, List.all_cons] at hst
      have HS := Lib.hid hst
      obtain ⟨u, hu⟩ : ∃ u, s.extract k (k + 1) = u := ⟨_, rfl⟩
      have hul := extract_one hc
      rw [hu] at hul
      have s1 : (k : Int) ≤ k + 1 := by omega
      have s2 : (k : Int) + 1 ≤ s.size := by omega
      have s3 : (k : Int) + 1 ≤ n := by omega
      have hut : u.toList = [c] := by rw [Lib.toList_data]; exact hul
      by_cases he : c = x
      · subst he
        have N := Lib.hid (show ((s.data.toList.drop (k + 1)).all (· == c) && !s.data.toList.isEmpty) = R by
          have := HS.out
          rw [beq_self_eq_true, Bool.true_and] at this
          exact this)
        have q1 : (u.toList == [c]) = true := by rw [hut]; simp
        have q2 : (u.toList != [c]) = false := by rw [hut]; simp
        clear hc hst hul HR
        go_wp2_with fail
        go_roundw
        case rel => exact ⟨k + 1, by omega, by go_num, N, by first | rfl | trivial⟩
        case measure => simp [intOf]; omega
      · have N := Lib.hid (show R = false by
          rw [← HS.out, show (c == x) = false by simpa using he]; rfl)
        have q1 : (u.toList == [x]) = false := by rw [hut]; simpa using he
        have q2 : (u.toList != [x]) = true := by rw [hut]; simpa using he
        have q3 : ¬ u.toList = [x] := by rw [hut]; simpa using he
        have q4 : ¬ u.toList = [c] ∨ True := .inr trivial
        clear hc hst hul HR he hut
        go_wp2_with fail
        go_ret
        rw [N.out]
        exact ⟨rfl, rfl⟩
    · by_cases h0 : n = 0
      · have hs0 : s.data.toList = [] := List.eq_nil_of_length_eq_zero (by rw [HL.out]; exact h0)
        have N := Lib.hid (show R = false by rw [← HR.out, hs0]; simp)
        have q0 : s.toList = [] := by rw [Lib.toList_data]; exact hs0
        have q1 : (s.toList == []) = true := by rw [q0]; rfl
        clear HR
        go_wp2_with fail
        go_ret
        exact ⟨ret_bool (by rw [N.out]), rfl⟩
      · have hs0 : ¬ s.data.toList = [] := fun e => h0 (by rw [← HL.out, e]; rfl)
        have N := Lib.hid (show R = true by
          rw [← HR.out, List.drop_of_length_le (by rw [HL.out]; omega)]
          cases hd : s.data.toList with
          | nil => exact absurd hd hs0
          | cons a t => rfl)
        have q0 : ¬ s.toList = [] := by rw [Lib.toList_data]; exact hs0
        have q1 : (s.toList == []) = false := by simpa using q0
        have q2 : (s.toList != []) = true := by simpa using q0
        clear HR
        go_wp2_with fail
        go_ret
        exact ⟨ret_bool (by rw [N.out]), rfl⟩
end Go.Proofs.YtoohijffkbkikaaGreatDoor
