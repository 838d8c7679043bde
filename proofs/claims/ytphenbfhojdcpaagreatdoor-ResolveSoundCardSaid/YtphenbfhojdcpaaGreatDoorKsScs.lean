/- law08: its lines, its first text, the text that it draws. Printed by gen_ss.py. -/
import Derived.Test.YtphenbfhojdcpaaGreatDoorKsG10
import Derived.Test.YtphenbfhojdcpaaGreatDoorKsG09
import Derived.Test.YtphenbfhojdcpaaGreatDoorKsG01
namespace Go.Proofs.YtphenbfhojdcpaaGreatDoor
open Go.RowKit
set_option linter.unusedVariables false
set_option linter.unusedSimpArgs false
set_option maxRecDepth 100000
def lines8V : Array Value := (R8.linesL.map fun x => Value.string ⟨x.toArray⟩).toArray
theorem lines8V_eq : lines8V = #[.string ⟨#[122, 111, 110, 101, 32, 104, 101, 114, 101, 32, 43, 48, 49, 58, 48, 48]⟩, .string ⟨#[122, 111, 110, 101, 32, 116, 104, 101, 114, 101, 32, 45, 48, 53, 58, 48, 48]⟩, .string ⟨#[114, 117, 108, 101, 32, 50, 48, 50, 54, 32, 50, 48, 50, 55, 32, 109, 97, 114, 32, 108, 97, 115, 116, 32, 115, 117, 110, 32, 48, 50, 58, 48, 48, 32, 43, 48, 50, 58, 48, 48]⟩, .string ⟨#[114, 117, 108, 101, 32, 50, 48, 50, 54, 32, 50, 48, 50, 55, 32, 111, 99, 116, 32, 108, 97, 115, 116, 32, 115, 117, 110, 32, 48, 51, 58, 48, 48, 32, 43, 48, 49, 58, 48, 48]⟩, .string ⟨#[114, 117, 108, 101, 32, 50, 48, 50, 54, 32, 50, 48, 50, 54, 32, 102, 101, 98, 32, 116, 104, 105, 114, 100, 32, 115, 117, 110, 32, 48, 51, 58, 48, 48, 32, 43, 48, 49, 58, 48, 48]⟩, .string ⟨#[114, 117, 108, 101, 32, 50, 48, 50, 54, 32, 50, 48, 50, 54, 32, 102, 111, 111, 32, 108, 97, 115, 116, 32, 115, 117, 110, 32, 48, 51, 58, 48, 48, 32, 43, 48, 49, 58, 48, 48]⟩, .string ⟨#[112, 101, 114, 115, 111, 110, 32, 97, 100, 97, 32, 104, 101, 114, 101]⟩, .string ⟨#[112, 101, 114, 115, 111, 110, 32, 98, 111, 98, 32, 104, 101, 114, 101, 32, 119, 101, 101, 107, 32, 52, 48, 32, 114, 101, 115, 116, 32, 49, 49, 32, 99, 111, 110, 115, 101, 110, 116]⟩, .string ⟨#[112, 101, 114, 115, 111, 110, 32, 99, 108, 101, 111, 32, 110, 111, 119, 104, 101, 114, 101]⟩, .string ⟨#[112, 101, 114, 115, 111, 110, 32, 110, 111, 98, 111, 100, 121, 32, 104, 101, 114, 101]⟩, .string ⟨#[112, 101, 114, 115, 111, 110, 32, 97, 100, 97, 32, 116, 104, 101, 114, 101, 32, 119, 101, 101, 107, 32, 50, 48, 48]⟩, .string ⟨#[113, 117, 105, 101, 116, 32, 109, 111, 110, 32, 50, 50, 58, 48, 48, 32, 109, 111, 110, 32, 50, 52, 58, 48, 48]⟩, .string ⟨#[113, 117, 105, 101, 116, 32, 116, 117, 101, 32, 48, 48, 58, 48, 48, 32, 109, 111, 110, 32, 50, 50, 58, 48, 48]⟩, .string ⟨#[113, 117, 105, 101, 116, 32, 116, 111, 100, 97, 121, 32, 48, 48, 58, 48, 48, 32, 109, 111, 110, 32, 50, 50, 58, 48, 48]⟩, .string ⟨#[99, 97, 108, 101, 110, 100, 97, 114, 32, 100, 97, 121, 115, 32, 104, 101, 114, 101]⟩, .string ⟨#[100, 97, 121, 115, 32, 50, 48, 50, 54, 45, 48, 49, 45, 48, 55, 32, 50, 48, 50, 54, 45, 48, 49, 45, 48, 57]⟩, .string ⟨#[100, 97, 121, 115, 32, 50, 48, 50, 54, 45, 48, 49, 45, 48, 49]⟩, .string ⟨#[115, 99, 104, 101, 100, 117, 108, 101, 32, 102, 105, 114, 115, 116]⟩, .string ⟨#[115, 99, 104, 101, 100, 117, 108, 101, 32, 115, 101, 99, 111, 110, 100]⟩, .string ⟨#[108, 97, 121, 101, 114, 32, 108, 111, 119, 32, 104, 101, 114, 101, 32, 50, 48, 50, 54, 45, 48, 49, 45, 48, 53, 32, 48, 57, 58, 48, 48, 32, 49, 32, 100, 97, 121, 115]⟩, .string ⟨#[108, 97, 121, 101, 114, 32, 116, 111, 112, 32, 104, 101, 114, 101, 32, 50, 48, 50, 54, 45, 48, 49, 45, 48, 52, 32, 48, 48, 58, 48, 48, 32, 52, 48, 49, 32, 104, 111, 117, 114, 115]⟩, .string ⟨#[108, 97, 121, 101, 114, 32, 116, 111, 112, 32, 104, 101, 114, 101, 32, 50, 48, 50, 54, 45, 48, 49, 45, 48, 52, 32, 50, 52, 58, 48, 48, 32, 52, 32, 104, 111, 117, 114, 115]⟩, .string ⟨#[108, 97, 121, 101, 114, 32, 116, 111, 112, 32, 104, 101, 114, 101, 32, 50, 48, 50, 54, 45, 48, 49, 45, 48, 52, 32, 50, 51, 58, 48, 48, 32, 52, 32, 109, 111, 110, 116, 104, 115]⟩, .string ⟨#[109, 101, 109, 98, 101, 114, 32, 97, 100, 97, 32, 98, 111, 98]⟩, .string ⟨#[109, 101, 109, 98, 101, 114, 32, 98, 111, 98]⟩, .string ⟨#[109, 101, 109, 98, 101, 114, 32, 122, 101, 100]⟩, .string ⟨#[111, 110, 32, 109, 111, 110, 32, 48, 57, 58, 48, 48, 32, 109, 111, 110, 32, 49, 55, 58, 48, 48]⟩, .string ⟨#[111, 110, 32, 116, 117, 101, 32, 48, 57, 58, 48, 48, 32, 115, 117, 110, 32, 50, 52, 58, 48, 48]⟩, .string ⟨#[110, 111, 116, 32, 100, 97, 121, 115]⟩, .string ⟨#[111, 110, 108, 121, 32, 100, 97, 121, 115]⟩, .string ⟨#[111, 110, 108, 121, 32, 111, 116, 104, 101, 114]⟩, .string ⟨#[108, 101, 97, 118, 101, 32, 97, 100, 97, 32, 50, 48, 50, 54, 45, 48, 49, 45, 48, 54, 84, 48, 48, 58, 48, 48, 58, 48, 48, 90, 32, 50, 48, 50, 54, 45, 48, 49, 45, 48, 55, 84, 48, 48, 58, 48, 48, 58, 48, 48, 90]⟩, .string ⟨#[111, 118, 101, 114, 114, 105, 100, 101, 32, 110, 111, 98, 111, 100, 121, 32, 50, 48, 50, 54, 45, 48, 49, 45, 48, 54, 84, 48, 48, 58, 48, 48, 58, 48, 48, 90, 32, 50, 48, 50, 54, 45, 48, 49, 45, 48, 55, 84, 48, 48, 58, 48, 48, 58, 48, 48, 90]⟩, .string ⟨#[111, 118, 101, 114, 114, 105, 100, 101, 32, 98, 111, 98, 32, 50, 48, 50, 54, 45, 48, 49, 45, 48, 56, 84, 48, 48, 58, 48, 48, 58, 48, 48, 90, 32, 50, 48, 50, 54, 45, 48, 49, 45, 48, 55, 84, 48, 48, 58, 48, 48, 58, 48, 48, 90]⟩, .string ⟨#[115, 119, 97, 112, 32, 97, 100, 97, 32, 98, 111, 98, 32, 50, 48, 50, 54, 45, 48, 49, 45, 48, 54, 84, 48, 48, 58, 48, 48, 58, 48, 48, 90, 32, 50, 48, 50, 54, 45, 48, 49, 45, 48, 55, 84, 48, 48, 58, 48, 48, 58, 48, 48, 90]⟩, .string ⟨#[115, 119, 97, 112, 32, 97, 100, 97, 32, 97, 100, 97, 32, 50, 48, 50, 54, 45, 48, 49, 45, 48, 54, 84, 48, 48, 58, 48, 48, 58, 48, 48, 90, 32, 50, 48, 50, 54, 45, 48, 49, 45, 48, 55, 84, 48, 48, 58, 48, 48, 58, 48, 48, 90]⟩] := by kernel_rfl
theorem lines8V_at {j : Nat} {x : List UInt8} (h : R8.linesL[j]? = some x) : lines8V[j]? = some (.string ⟨x.toArray⟩) := by
  unfold lines8V
  rw [List.getElem?_toArray, List.getElem?_map, h]
  rfl
theorem lines8_any (w : World) : Calls Tryz.prog 24 #[] w fun e w' => e = .returned (.slice (some ⟨w.heap.size, 0, none⟩) 36 36) ∧ w' = w.alloc (.cells lines8V 9) := by
  have HW := Lib.hid lines8V_eq
  go_enter Tryz.func24, Tryz.ntmps24
  go_wp2_with fail
  go_ret
  rw [HW.out]
  exact ⟨rfl, rfl⟩
theorem lines8_get {j : Nat} (h : j < 36) : ∃ x, R8.linesL[j]? = some x ∧ x.length ≤ 80 ∧ x ∈ R8.linesL ++ R8.baseL ++ R8.saneL := by
  obtain ⟨x, hx⟩ : ∃ x, R8.linesL[j]? = some x := ⟨_, List.getElem?_eq_getElem (show j < R8.linesL.length from h)⟩
  have hm : x ∈ R8.linesL ++ R8.baseL ++ R8.saneL := by simp only [List.mem_append]; exact .inl (.inl (List.mem_of_getElem? hx))
  exact ⟨x, hx, (R8.ok_of hm).2.2.2.2.2, hm⟩
theorem txt_len : ∀ {ls : List (List UInt8)}, R8.In ls → (R8.txt ls).length ≤ 81 * ls.length
  | [], _ => by simp [R8.txt]
  | x :: r, h => by
    have ih := txt_len (ls := r) (fun y hy => h y (List.mem_cons_of_mem _ hy))
    have hx := (R8.ok_of (h x (by simp))).2.2.2.2.2
    have e : R8.txt (x :: r) = x ++ 10 :: R8.txt r := by unfold R8.txt; simp
    rw [e]
    simp only [List.length_append, List.length_cons]
    omega
theorem txt_snoc (ls : List (List UInt8)) (x : List UInt8) : R8.txt (ls ++ [x]) = R8.txt ls ++ x ++ [10] := by unfold R8.txt; simp
/-- What is drawn: a text of lines. -/
structure GT8 (L : ByteArray) (ls : List (List UInt8)) : Prop where
  eq : L.data.toList = R8.txt ls
  all : R8.In ls
theorem GT8.size {L : ByteArray} {ls : List (List UInt8)} (h : GT8 L ls) (hl : ls.length ≤ 11) : L.size ≤ 891 := by
  have h1 := txt_len h.all
  rw [Lib.size_eq, h.eq]
  omega
theorem GT8.add {L : ByteArray} {ls : List (List UInt8)} (h : GT8 L ls) {x : List UInt8} (hx : x ∈ R8.linesL ++ R8.baseL ++ R8.saneL) : GT8 (L ++ ((⟨x.toArray⟩ : ByteArray) ++ (⟨#[10]⟩ : ByteArray))) (ls ++ [x]) :=
  ⟨by rw [app_data, app_data, h.eq, txt_snoc]; simp, fun y hy => by
    rcases List.mem_append.1 hy with hy | hy
    · exact h.all y hy
    · simp at hy; subst hy; exact hx⟩
def b3L : List (List UInt8) := R8.baseL.take 3
theorem gt0 : GT8 ⟨#[]⟩ [] := ⟨rfl, fun x hx => by cases hx⟩
theorem gt3 : GT8 ⟨#[122, 111, 110, 101, 32, 104, 101, 114, 101, 32, 43, 48, 49, 58, 48, 48, 10, 112, 101, 114, 115, 111, 110, 32, 97, 100, 97, 32, 104, 101, 114, 101, 10, 112, 101, 114, 115, 111, 110, 32, 98, 111, 98, 32, 104, 101, 114, 101, 10]⟩ b3L := ⟨by kernel_rfl, fun x hx => by simp only [List.mem_append]; exact .inl (.inr (List.mem_of_mem_take hx))⟩
theorem gt7 : GT8 ((⟨#[122, 111, 110, 101, 32, 104, 101, 114, 101, 32, 43, 48, 49, 58, 48, 48, 10, 112, 101, 114, 115, 111, 110, 32, 97, 100, 97, 32, 104, 101, 114, 101, 10, 112, 101, 114, 115, 111, 110, 32, 98, 111, 98, 32, 104, 101, 114, 101, 10]⟩ : ByteArray) ++ (⟨([99, 97, 108, 101, 110, 100, 97, 114, 32, 100, 97, 121, 115, 32, 104, 101, 114, 101, 10, 115, 99, 104, 101, 100, 117, 108, 101, 32, 109, 97, 105, 110, 10, 108, 97, 121, 101, 114, 32, 98, 97, 115, 101, 32, 104, 101, 114, 101, 32, 50, 48, 50, 54, 45, 48, 49, 45, 48, 53, 32, 48, 56, 58, 48, 48, 32, 49, 32, 119, 101, 101, 107, 115, 10, 109, 101, 109, 98, 101, 114, 32, 97, 100, 97, 32, 98, 111, 98, 10] : List UInt8).toArray⟩ : ByteArray)) R8.baseL := ⟨by rw [app_data]; kernel_rfl, fun x hx => by simp only [List.mem_append]; exact .inl (.inr hx)⟩
def Draw8V (w : World) (g : Nat) (A : Option Addr) (n c : Nat) (zs : List Int) (e : Ending) (w' : World) : Prop :=
  ∃ (L : ByteArray) (ls : List (List UInt8)), e = .returned (.string L) ∧ GT8 L ls ∧ ls.length ≤ 11 ∧ w.grownBy w' (some g) ∧ Dice w' g A n c zs
structure DL8 (w : World) (bl g : Nat) (A : Option Addr) (n c : Nat) (zs : List Int) (wr : World) : Prop where
  lines : BlkAt wr bl lines8V 9
  grown : w.grownBy wr (some g)
  dice : Dice wr g A n c zs
theorem DL8.next {w wr w' : World} {bl g n c : Nat} {A : Option Addr} {zs : List Int} (h : DL8 w bl g A n c zs wr) (hne : bl ≠ g) (hg : wr.grownBy w' (some g)) (hd : Dice w' g A n c zs) : DL8 w bl g A n c zs w' :=
  ⟨h.lines.grown hg (fun e => hne (Option.some.inj e)), grown_trans h.grown hg, hd⟩
set_option maxHeartbeats 16000000 in
theorem draw8_is (g n c : Nat) (A : Option Addr) (zs : List Int) (w : World) (h : Dice w g A n c zs) :
    Calls Tryz.prog 11 #[.pointer (some ⟨g, 0, none⟩)] w (Draw8V w g A n c zs) := by
  have hgl := h.lt_
  have HD := Lib.hid h
  have HG0 := Lib.hid gt0
  have HG3 := Lib.hid gt3
  have HG7 := Lib.hid gt7
  clear h
  go_enter Tryz.func11, Tryz.ntmps11
  go_wp2_with fail
  refine (Next_any g n c A zs 6 _ HD.out (by decide) (by decide)).mono ?_
  rintro e w1 ⟨v1, rfl, v0, v1', hg1, D1⟩
  have HD1 := Lib.hid D1
  have HGr1 := Lib.hid hg1
  clear D1 hg1 HD
  by_cases hv : 0 < v1
  · go_wp2_with fail
    refine (Next_any g n c A zs 3 _ HD1.out (by decide) (by decide)).mono ?_
    rintro e w3 ⟨v3, rfl, y0, y1, hg3, D3⟩
    have HD3 := Lib.hid D3
    have HGr3 := Lib.hid (grown_trans HGr1.out hg3)
    clear D3 hg3 HD1 HGr1
    by_cases hv3 : 0 < v3
    · go_wp2_with fail
      refine (lines8_any _).mono ?_
      rintro e w' ⟨rfl, rfl⟩
      have H0 := Lib.hid (show DL8 w w3.heap.size g A n c zs (w3.alloc (.cells lines8V 9)) from ⟨BlkAt.new w3 _ _, grown_alloc HGr3.out _, HD3.out.alloc _⟩)
      have hne : w3.heap.size ≠ g := by have := HD3.out.lt_; omega
      go_wp2_with fail
      refine (Next_any g n c A zs 5 _ H0.out.dice (by decide) (by decide)).mono ?_
      rintro e w5 ⟨v5, rfl, z5, z5', hg5, D5⟩
      obtain ⟨k1, rfl⟩ : ∃ k1 : Nat, v5 = k1 := ⟨v5.toNat, by omega⟩
      have H1 := Lib.hid (H0.out.next hne hg5 D5)
      clear hg5 D5 H0
      go_wp2_with fail
      go_loopw [3, 5] (fun o i wr => ∃ (k : Nat) (L : ByteArray) (ls : List (List UInt8)), k ≤ 4 ∧ i = .int .i64 k ∧ o = .string L ∧ ls.length + k ≤ 11 ∧ Hid (GT8 L ls) ∧ Hid (DL8 w w3.heap.size g A n c zs wr)) (fun _ i _ => (intOf i).toNat)
      case atStart => exact ⟨k1, _, R8.baseL, by omega, rfl, rfl, Nat.le_trans (Nat.add_le_add (show (R8.baseL).length ≤ 7 by decide) (show k1 ≤ 4 by omega)) (Nat.le_refl _), HG7, H1⟩
      case round =>
        clear H1
        obtain ⟨k, L, ls, hk, rfl, rfl, hlk, HG, HD⟩ := hrel
        by_cases hpos : 0 < k
        · have t0 : decide ((0 : Int) < k) = true := by simp; omega
          have hLz : L.size ≤ 891 := HG.out.size (by omega)
          go_wp2_with fail
          refine (Next_any g n c A zs 36 _ HD.out.dice (by decide) (by decide)).mono ?_
          rintro e w2 ⟨v, rfl, w0, w1', hg2, D2⟩
          obtain ⟨j, rfl⟩ : ∃ j : Nat, v = j := ⟨v.toNat, by omega⟩
          have H2 := Lib.hid (HD.out.next hne hg2 D2)
          obtain ⟨y, hy, hyz, hyy⟩ := lines8_get (j := j) (by omega)
          have c0 : w2.cell? ⟨w3.heap.size, j, none⟩ = some (.string ⟨y.toArray⟩) := H2.out.lines.cell (lines8V_at hy)
          have yz : (⟨y.toArray⟩ : ByteArray).size ≤ 80 := by rw [ba_size]; exact hyz
          have n1 : ¬ 9223372036854775807 < (⟨y.toArray⟩ : ByteArray).size + 1 := by omega
          have n1' : ¬ 9223372036854775807 < y.length + 1 := by omega
          have e3 : ((⟨y.toArray⟩ : ByteArray) ++ (⟨#[10]⟩ : ByteArray)).size = (⟨y.toArray⟩ : ByteArray).size + 1 := by rw [Lib.size_eq, app_data, List.length_append, ← Lib.size_eq]; simp
          have n2 : ¬ 9223372036854775807 < L.size + ((⟨y.toArray⟩ : ByteArray) ++ (⟨#[10]⟩ : ByteArray)).size := by omega
          have n3 : ¬ 9223372036854775807 < L.size + (y.length + 1) := by omega
          have n4 : ¬ 9223372036854775807 < L.size + ((⟨y.toArray⟩ : ByteArray).size + 1) := by omega
          have j0 : (j : Int) < 36 := by omega
          have NG := Lib.hid (HG.out.add hyy)
          clear hg2 D2 hy HD e3 hyy
          go_wp2_with fail
          go_roundw
          case rel => exact ⟨k - 1, _, ls ++ [y], by omega, by go_num, rfl, by simp; omega, NG, H2⟩
          case measure => simp [intOf]; omega
        · have hk0 : k = 0 := by omega
          subst hk0
          go_wp2_with fail
          go_ret
          exact ⟨L, ls, rfl, HG.out, by omega, HD.out.grown, HD.out.dice⟩
    · go_wp2_with fail
      refine (lines8_any _).mono ?_
      rintro e w' ⟨rfl, rfl⟩
      have H0 := Lib.hid (show DL8 w w3.heap.size g A n c zs (w3.alloc (.cells lines8V 9)) from ⟨BlkAt.new w3 _ _, grown_alloc HGr3.out _, HD3.out.alloc _⟩)
      have hne : w3.heap.size ≠ g := by have := HD3.out.lt_; omega
      go_wp2_with fail
      refine (Next_any g n c A zs 5 _ H0.out.dice (by decide) (by decide)).mono ?_
      rintro e w5 ⟨v5, rfl, z5, z5', hg5, D5⟩
      obtain ⟨k1, rfl⟩ : ∃ k1 : Nat, v5 = k1 := ⟨v5.toNat, by omega⟩
      have H1 := Lib.hid (H0.out.next hne hg5 D5)
      clear hg5 D5 H0
      go_wp2_with fail
      go_loopw [3, 5] (fun o i wr => ∃ (k : Nat) (L : ByteArray) (ls : List (List UInt8)), k ≤ 4 ∧ i = .int .i64 k ∧ o = .string L ∧ ls.length + k ≤ 11 ∧ Hid (GT8 L ls) ∧ Hid (DL8 w w3.heap.size g A n c zs wr)) (fun _ i _ => (intOf i).toNat)
      case atStart => exact ⟨k1, _, b3L, by omega, rfl, rfl, Nat.le_trans (Nat.add_le_add (show (b3L).length ≤ 7 by decide) (show k1 ≤ 4 by omega)) (Nat.le_refl _), HG3, H1⟩
      case round =>
        clear H1
        obtain ⟨k, L, ls, hk, rfl, rfl, hlk, HG, HD⟩ := hrel
        by_cases hpos : 0 < k
        · have t0 : decide ((0 : Int) < k) = true := by simp; omega
          have hLz : L.size ≤ 891 := HG.out.size (by omega)
          go_wp2_with fail
          refine (Next_any g n c A zs 36 _ HD.out.dice (by decide) (by decide)).mono ?_
          rintro e w2 ⟨v, rfl, w0, w1', hg2, D2⟩
          obtain ⟨j, rfl⟩ : ∃ j : Nat, v = j := ⟨v.toNat, by omega⟩
          have H2 := Lib.hid (HD.out.next hne hg2 D2)
          obtain ⟨y, hy, hyz, hyy⟩ := lines8_get (j := j) (by omega)
          have c0 : w2.cell? ⟨w3.heap.size, j, none⟩ = some (.string ⟨y.toArray⟩) := H2.out.lines.cell (lines8V_at hy)
          have yz : (⟨y.toArray⟩ : ByteArray).size ≤ 80 := by rw [ba_size]; exact hyz
          have n1 : ¬ 9223372036854775807 < (⟨y.toArray⟩ : ByteArray).size + 1 := by omega
          have n1' : ¬ 9223372036854775807 < y.length + 1 := by omega
          have e3 : ((⟨y.toArray⟩ : ByteArray) ++ (⟨#[10]⟩ : ByteArray)).size = (⟨y.toArray⟩ : ByteArray).size + 1 := by rw [Lib.size_eq, app_data, List.length_append, ← Lib.size_eq]; simp
          have n2 : ¬ 9223372036854775807 < L.size + ((⟨y.toArray⟩ : ByteArray) ++ (⟨#[10]⟩ : ByteArray)).size := by omega
          have n3 : ¬ 9223372036854775807 < L.size + (y.length + 1) := by omega
          have n4 : ¬ 9223372036854775807 < L.size + ((⟨y.toArray⟩ : ByteArray).size + 1) := by omega
          have j0 : (j : Int) < 36 := by omega
          have NG := Lib.hid (HG.out.add hyy)
          clear hg2 D2 hy HD e3 hyy
          go_wp2_with fail
          go_roundw
          case rel => exact ⟨k - 1, _, ls ++ [y], by omega, by go_num, rfl, by simp; omega, NG, H2⟩
          case measure => simp [intOf]; omega
        · have hk0 : k = 0 := by omega
          subst hk0
          go_wp2_with fail
          go_ret
          exact ⟨L, ls, rfl, HG.out, by omega, HD.out.grown, HD.out.dice⟩
  · go_wp2_with fail
    refine (lines8_any _).mono ?_
    rintro e w' ⟨rfl, rfl⟩
    have H0 := Lib.hid (show DL8 w w1.heap.size g A n c zs (w1.alloc (.cells lines8V 9)) from ⟨BlkAt.new w1 _ _, grown_alloc HGr1.out _, HD1.out.alloc _⟩)
    have hne : w1.heap.size ≠ g := by have := HD1.out.lt_; omega
    go_wp2_with fail
    refine (Next_any g n c A zs 5 _ H0.out.dice (by decide) (by decide)).mono ?_
    rintro e w5 ⟨v5, rfl, z5, z5', hg5, D5⟩
    obtain ⟨k1, rfl⟩ : ∃ k1 : Nat, v5 = k1 := ⟨v5.toNat, by omega⟩
    have H1 := Lib.hid (H0.out.next hne hg5 D5)
    clear hg5 D5 H0
    go_wp2_with fail
    go_loopw [3, 5] (fun o i wr => ∃ (k : Nat) (L : ByteArray) (ls : List (List UInt8)), k ≤ 4 ∧ i = .int .i64 k ∧ o = .string L ∧ ls.length + k ≤ 11 ∧ Hid (GT8 L ls) ∧ Hid (DL8 w w1.heap.size g A n c zs wr)) (fun _ i _ => (intOf i).toNat)
    case atStart => exact ⟨k1, _, ([] : List (List UInt8)), by omega, rfl, rfl, Nat.le_trans (Nat.add_le_add (show (([] : List (List UInt8))).length ≤ 7 by decide) (show k1 ≤ 4 by omega)) (Nat.le_refl _), HG0, H1⟩
    case round =>
      clear H1
      obtain ⟨k, L, ls, hk, rfl, rfl, hlk, HG, HD⟩ := hrel
      by_cases hpos : 0 < k
      · have t0 : decide ((0 : Int) < k) = true := by simp; omega
        have hLz : L.size ≤ 891 := HG.out.size (by omega)
        go_wp2_with fail
        refine (Next_any g n c A zs 36 _ HD.out.dice (by decide) (by decide)).mono ?_
        rintro e w2 ⟨v, rfl, w0, w1', hg2, D2⟩
        obtain ⟨j, rfl⟩ : ∃ j : Nat, v = j := ⟨v.toNat, by omega⟩
        have H2 := Lib.hid (HD.out.next hne hg2 D2)
        obtain ⟨y, hy, hyz, hyy⟩ := lines8_get (j := j) (by omega)
        have c0 : w2.cell? ⟨w1.heap.size, j, none⟩ = some (.string ⟨y.toArray⟩) := H2.out.lines.cell (lines8V_at hy)
        have yz : (⟨y.toArray⟩ : ByteArray).size ≤ 80 := by rw [ba_size]; exact hyz
        have n1 : ¬ 9223372036854775807 < (⟨y.toArray⟩ : ByteArray).size + 1 := by omega
        have n1' : ¬ 9223372036854775807 < y.length + 1 := by omega
        have e3 : ((⟨y.toArray⟩ : ByteArray) ++ (⟨#[10]⟩ : ByteArray)).size = (⟨y.toArray⟩ : ByteArray).size + 1 := by rw [Lib.size_eq, app_data, List.length_append, ← Lib.size_eq]; simp
        have n2 : ¬ 9223372036854775807 < L.size + ((⟨y.toArray⟩ : ByteArray) ++ (⟨#[10]⟩ : ByteArray)).size := by omega
        have n3 : ¬ 9223372036854775807 < L.size + (y.length + 1) := by omega
        have n4 : ¬ 9223372036854775807 < L.size + ((⟨y.toArray⟩ : ByteArray).size + 1) := by omega
        have j0 : (j : Int) < 36 := by omega
        have NG := Lib.hid (HG.out.add hyy)
        clear hg2 D2 hy HD e3 hyy
        go_wp2_with fail
        go_roundw
        case rel => exact ⟨k - 1, _, ls ++ [y], by omega, by go_num, rfl, by simp; omega, NG, H2⟩
        case measure => simp [intOf]; omega
      · have hk0 : k = 0 := by omega
        subst hk0
        go_wp2_with fail
        go_ret
        exact ⟨L, ls, rfl, HG.out, by omega, HD.out.grown, HD.out.dice⟩
end Go.Proofs.YtphenbfhojdcpaaGreatDoor
