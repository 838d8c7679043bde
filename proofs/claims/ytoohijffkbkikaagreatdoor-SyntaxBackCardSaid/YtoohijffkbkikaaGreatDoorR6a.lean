/- The reference of layer 6: digits, forms, numbers, names. -/
import Derived.Test.YtoohijffkbkikaaGreatDoorLr
namespace L6
open Go Go.Lib Go.Proofs.YtoohijffkbkikaaGreatDoor
/-- A word in which d stands for each digit. -/
def form6 (l : List UInt8) : List UInt8 := l.map fun b => if Lx.digR b.toNat then 100 else b
def dv (b : UInt8) : Nat := (b.toNat + 208) % 256
def val6 (n : Nat) (l : List UInt8) : Nat := l.foldl (fun n b => 10 * n + dv b) n
theorem dv_le (b : UInt8) : dv b ≤ 255 := by unfold dv; omega
theorem val6_bd : ∀ (l : List UInt8) (n k : Nat), n + 29 ≤ 29 * 10 ^ k → val6 n l + 29 ≤ 29 * 10 ^ (k + l.length)
  | [], n, k, h => by simpa [val6] using h
  | b :: t, n, k, h => by
    have hb := dv_le b
    have hk : 1 ≤ 10 ^ k := Nat.pos_of_ne_zero (by simp)
    have := val6_bd t (10 * n + dv b) (k + 1) (by rw [Nat.pow_succ]; omega)
    rw [List.length_cons, show k + (t.length + 1) = k + 1 + t.length by omega]
    exact this
theorem val6_le {l : List UInt8} (h : l.length ≤ 10) : val6 0 l ≤ 290000000000 := by
  have := val6_bd l 0 0 (by decide)
  rw [Nat.zero_add] at this
  have h2 : 10 ^ l.length ≤ 10 ^ 10 := Nat.pow_le_pow_right (by decide) h
  omega
end L6
namespace Go.Proofs.YtoohijffkbkikaaGreatDoor
open Go.RowKit
set_option linter.unusedVariables false
set_option linter.unusedSimpArgs false
set_option maxRecDepth 100000

theorem d6_any (c : UInt8) (w : World) : Calls Tryz.prog 100 #[.int .u8 (c.toNat : Int)] w fun e w' => e = .returned (.bool (Lx.digR c.toNat)) ∧ w = w' := by
  go_enter Tryz.func100, Tryz.ntmps100
  go_wp2
  all_goals go_ret
  all_goals exact ⟨ret_bool (by rw [Bool.eq_iff_iff]; simp only [Lx.digR, Bool.and_eq_true, decide_eq_true_eq, Bool.false_eq_true, false_iff, true_iff]; omega), rfl⟩
theorem d6_is {c : UInt8} {b : Bool} (h : Lx.digR c.toNat = b) (w : World) : Calls Tryz.prog 100 #[.int .u8 (c.toNat : Int)] w fun e w' => e = .returned (.bool b) ∧ w = w' := h ▸ d6_any c w
theorem extract_one {s : ByteArray} {k : Nat} {c : UInt8} (h : s.data.toList[k]? = some c) : (s.extract k (k + 1)).data.toList = [c] := by
  rw [← Lib.toList_data, Lib.extract_toList, drop_cons' h]
  simp
set_option maxHeartbeats 1600000 in
theorem form6_any (s : ByteArray) (w : World) (hs : s.size ≤ 1000000000) :
    Calls Tryz.prog 72 #[.string s] w fun e w' => e = .returned (.string ⟨(L6.form6 s.data.toList).toArray⟩) ∧ w = w' := by
  obtain ⟨n, hn⟩ : ∃ n, s.size = n := ⟨_, rfl⟩
  have hl : s.data.toList.length = n := by rw [← hn, Lib.size_eq]
  have HL := Lib.hid hl
  have hn2 : n ≤ 1000000000 := by omega
  clear hl hs
  go_enter Tryz.func72, Tryz.ntmps72
  go_wp2_with fail
  go_loopw [3, 4] (fun o i wr => ∃ (k : Nat) (L : ByteArray), k ≤ n ∧ i = .int .i64 k ∧ o = .string L ∧ Hid (L.data.toList = L6.form6 (s.data.toList.take k)) ∧ w = wr) (fun _ i _ => n - (intOf i).toNat)
  case atStart => exact ⟨0, ⟨#[]⟩, Nat.zero_le _, rfl, rfl, Lib.hid rfl, rfl⟩
  case round =>
    obtain ⟨k, L, hk, rfl, rfl, HO, rfl⟩ := hrel
    by_cases hlt : k < n
    · obtain ⟨c, hc⟩ : ∃ c, s.data.toList[k]? = some c := ⟨_, List.getElem?_eq_getElem (by rw [HL.out]; exact hlt)⟩
      have k0 : ∀ w, (Instr.index 9 (.string s) (.int .i64 (k : Int))).run Tryz.prog w = .ok (.int .u8 (c.toNat : Int)) w := fun w => str_at hc 9 Tryz.underlying9 w
      have hLz : L.size ≤ n := by
        rw [Lib.size_eq, HO.out]
        unfold L6.form6
        rw [List.length_map, List.length_take]
        omega
      have n1 : ¬ 9223372036854775807 < L.size + 1 := by omega
      have HC := Lib.hid hc
      clear hc
      by_cases hd : Lx.digR c.toNat = true
      · have HD := Lib.hid hd
        have N := Lib.hid (show (L ++ ⟨#[100]⟩).data.toList = L6.form6 (s.data.toList.take (k + 1)) by
          rw [app_data, HO.out, take_snoc' HC.out]
          simp [L6.form6, HD.out])
        clear hd
        go_wp2_with fail
        refine (d6_is HD.out _).mono ?_
        rintro e w' ⟨rfl, rfl⟩
        go_wp2_with fail
        go_roundw
        case rel => exact ⟨k + 1, L ++ ⟨#[100]⟩, by omega, by go_num, rfl, N, by first | rfl | trivial⟩
        case measure => simp [intOf]; omega
      · have HD := Lib.hid (show Lx.digR c.toNat = false by simpa using hd)
        obtain ⟨u, hu⟩ : ∃ u, s.extract k (k + 1) = u := ⟨_, rfl⟩
        have hul := extract_one HC.out
        rw [hu] at hul
        have N := Lib.hid (show (L ++ u).data.toList = L6.form6 (s.data.toList.take (k + 1)) by
          rw [app_data, HO.out, take_snoc' HC.out, hul]
          simp [L6.form6, HD.out])
        have huz : u.size = 1 := by rw [Lib.size_eq, hul]; rfl
        have n2 : ¬ 9223372036854775807 < L.size + u.size := by omega
        have s1 : (k : Int) ≤ k + 1 := by omega
        have s2 : (k : Int) + 1 ≤ s.size := by omega
        clear hd hul huz
        go_wp2_with fail
        refine (d6_is HD.out _).mono ?_
        rintro e w' ⟨rfl, rfl⟩
        go_wp2_with fail
        go_roundw
        case rel => exact ⟨k + 1, L ++ u, by omega, by go_num, rfl, N, by first | rfl | trivial⟩
        case measure => simp [intOf]; omega
    · have N := Lib.hid (show L = ⟨(L6.form6 s.data.toList).toArray⟩ by
        have := HO.out
        rw [List.take_of_length_le (by rw [HL.out]; omega)] at this
        rw [← this, Lib.mk_data])
      go_wp2_with fail
      go_ret
      exact ⟨ret_str N.out, rfl⟩
theorem form6_is {s : ByteArray} {f : ByteArray} (h : (⟨(L6.form6 s.data.toList).toArray⟩ : ByteArray) = f) (w : World) (hs : s.size ≤ 1000000000) :
    Calls Tryz.prog 72 #[.string s] w fun e w' => e = .returned (.string f) ∧ w = w' := h ▸ form6_any s w hs
theorem u8_sub (c : UInt8) : IntKind.u8.wrap ((c.toNat : Int) - 48) = (L6.dv c : Int) := by
  have := c.toNat_lt
  rw [IntKind.wrap_u8]
  unfold L6.dv
  omega
theorem conv_u8i (k : Nat) (h : k ≤ 255) (w : World) : (convert 5 3 (.int .u8 (k : Int))).run Tryz.prog w = .ok (.int .i64 (k : Int)) w := by
  have h2 := IntWalk.i64_in (k : Int) (by omega)
  simp [convert, go_sem, h2]
set_option maxHeartbeats 1600000 in
theorem num6_any (s : ByteArray) (w : World) (hs : s.size ≤ 10) :
    Calls Tryz.prog 75 #[.string s] w fun e w' => e = .returned (.int .i64 (L6.val6 0 s.data.toList : Int)) ∧ w = w' := by
  obtain ⟨n, hn⟩ : ∃ n, s.size = n := ⟨_, rfl⟩
  have hl : s.data.toList.length = n := by rw [← hn, Lib.size_eq]
  have HL := Lib.hid hl
  have hn2 : n ≤ 10 := by omega
  clear hl hs
  go_enter Tryz.func75, Tryz.ntmps75
  go_wp2_with fail
  go_loopw [3, 4] (fun o i wr => ∃ (k : Nat) (v : Nat), k ≤ n ∧ i = .int .i64 k ∧ o = .int .i64 (v : Int) ∧ Hid (v = L6.val6 0 (s.data.toList.take k)) ∧ w = wr) (fun _ i _ => n - (intOf i).toNat)
  case atStart => exact ⟨0, 0, Nat.zero_le _, rfl, rfl, Lib.hid rfl, rfl⟩
  case round =>
    obtain ⟨k, v, hk, rfl, rfl, HO, rfl⟩ := hrel
    by_cases hlt : k < n
    · obtain ⟨c, hc⟩ : ∃ c, s.data.toList[k]? = some c := ⟨_, List.getElem?_eq_getElem (by rw [HL.out]; exact hlt)⟩
      have k0 : ∀ w, (Instr.index 9 (.string s) (.int .i64 (k : Int))).run Tryz.prog w = .ok (.int .u8 (c.toNat : Int)) w := fun w => str_at hc 9 Tryz.underlying9 w
      obtain ⟨d, hd⟩ : ∃ d, L6.dv c = d := ⟨_, rfl⟩
      have hd2 := L6.dv_le c
      rw [hd] at hd2
      have u1 : IntKind.u8.wrap ((c.toNat : Int) - 48) = (d : Int) := by rw [← hd]; exact u8_sub c
      have u2 := fun w => conv_u8i d hd2 w
      have hv : v ≤ 290000000000 := by
        rw [HO.out]
        exact L6.val6_le (by rw [List.length_take]; omega)
      have HN := Lib.hid (show ((10 * v + d : Nat) : Nat) = L6.val6 0 (s.data.toList.take (k + 1)) by
        rw [take_snoc' hc, HO.out, ← hd]
        simp [L6.val6, List.foldl_append])
      have HV : ((10 * v + d : Nat) : Int) = 10 * (v : Int) + d := by omega
      have HVV := Lib.hid HV
      clear hc hd HV
      go_wp2_with fail
      go_roundw
      case rel => exact ⟨k + 1, 10 * v + d, by omega, by go_num, by rw [HVV.out], HN, by first | rfl | trivial⟩
      case measure => simp [intOf]; omega
    · have N := Lib.hid (show v = L6.val6 0 s.data.toList by
        have := HO.out
        rw [List.take_of_length_le (by rw [HL.out]; omega)] at this
        exact this)
      go_wp2_with fail
      go_ret
      exact ⟨ret_int (by rw [N.out]), rfl⟩
theorem num6_is {s : ByteArray} {v : Nat} (h : L6.val6 0 s.data.toList = v) (w : World) (hs : s.size ≤ 10) :
    Calls Tryz.prog 75 #[.string s] w fun e w' => e = .returned (.int .i64 (v : Int)) ∧ w = w' := h ▸ num6_any s w hs
end Go.Proofs.YtoohijffkbkikaaGreatDoor
