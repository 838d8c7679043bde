/- What the reference's numerals and Text return: the same texts. -/
import Derived.Test.YtcannkndedlooaaDoorRatG
import Derived.Laws.IdiomStrings
namespace Go.Proofs.YtcannkndedlooaaDoor
open Go.RowKit
set_option linter.unusedVariables false
set_option linter.unusedSimpArgs false

theorem ret_str {a b : ByteArray} (h : a = b) : Ending.returned (.string a) = .returned (.string b) := by rw [h]
theorem one_byte (w : World) (x : Int) (c : UInt8) (hc : (c.toNat : Int) = x) :
    (convert 63 9 (.slice (some ⟨w.heap.size, 0, none⟩) 1 1)).run Tryd.prog (w.alloc (.cells #[.int .u8 x] 5)) = .ok (.string ⟨#[c]⟩) (w.alloc (.cells #[.int .u8 x] 5)) := by
  subst hc
  exact run_convert_bytes_back (P := Tryd.prog) (w.alloc (.cells #[.int .u8 (c.toNat : Int)] 5)) 63 9 5 ⟨w.heap.size, 0, none⟩ 1 [c] Tryd.underlying63 Tryd.underlying5 Tryd.underlying9 (fun j hj => by
    have h0 : j = 0 := by simpa using hj
    subst h0
    simp [Addr.add])

set_option maxRecDepth 100000 in
set_option maxHeartbeats 800000 in
theorem digits_go (k : Nat) : ∀ (u : Int) (s : ByteArray) (w : World), u.toNat ≤ k → 0 ≤ u → u ≤ 9223372036854775807 → (⟨(Lib.decDigits u.toNat).toArray⟩ : ByteArray) = s →
    Calls Tryd.prog 50 #[.int .u64 u] w fun e w' => e = .returned (.string s) ∧ Below w.heap.size w w' := by
  induction k using Nat.strongRecOn with
  | _ k ih =>
    intro u s w hk h0 h1 hs
    have hc : ((UInt8.ofNat (48 + (u % 10).toNat)).toNat : Int) = 48 + u % 10 := by
      rw [Rt.dig_nat (by omega)]; omega
    obtain ⟨c, hc0⟩ : ∃ c, UInt8.ofNat (48 + (u % 10).toNat) = c := ⟨_, rfl⟩
    rw [hc0] at hc
    have hcv := one_byte w (48 + u % 10) c hc
    clear hc
    by_cases hu : u < 10
    · have hr := Lib.hid (show s = ⟨#[c]⟩ by
        rw [← hs, ← hc0, Lib.decDigits, dif_pos (by omega)]
        rw [show (u % 10).toNat = u.toNat by omega])
      clear hs hc0
      go_enter Tryd.func50, Tryd.ntmps50
      go_wp2_with fail
      go_ret
      exact ⟨ret_str (by first | exact hr.out | exact hr.out.symm), (Below.refl _ _).alloc (Nat.le_refl _) _⟩
    · obtain ⟨t, ht⟩ : ∃ t, (⟨(Lib.decDigits (u / 10).toNat).toArray⟩ : ByteArray) = t := ⟨_, rfl⟩
      have hz : t.size ≤ 20 := by
        rw [← ht]
        have h2 := Lib.decDigits_length (u / 10).toNat
        have h3 := Lib.nDigits_le20 (u / 10).toNat (by omega)
        simp only [ByteArray.size, List.size_toArray]
        omega
      have n1 : ¬ 9223372036854775807 < t.size + 1 := by omega
      have hr := Lib.hid (show t ++ ⟨#[c]⟩ = s by
        rw [← hs, ← hc0, ← ht]
        have e : Lib.decDigits u.toNat = Lib.decDigits (u / 10).toNat ++ [UInt8.ofNat (48 + (u % 10).toNat)] := by
          rw [Lib.decDigits, dif_neg (by omega)]
          rw [show u.toNat / 10 = (u / 10).toNat by omega, show u.toNat % 10 = (u % 10).toNat by omega]
        rw [e]
        exact ByteArray.mk_append_mk _ _)
      have HT := Lib.hid ht
      clear hs hc0 ht
      go_enter Tryd.func50, Tryd.ntmps50
      go_wp2_with fail
      refine (ih (u / 10).toNat (by omega) (u / 10) t _ (Nat.le_refl _) (by omega) (by omega) HT.out).mono ?_
      rintro e w1 ⟨rfl, b1⟩
      go_wp2_with fail
      go_ret
      exact ⟨ret_str (by first | exact hr.out | exact hr.out.symm), bstepA (Below.refl _ _) b1⟩
theorem digits_is {u : Int} {s : ByteArray} (hs : (⟨(Lib.decDigits u.toNat).toArray⟩ : ByteArray) = s) (w : World) (h0 : 0 ≤ u) (h1 : u ≤ 9223372036854775807) :
    Calls Tryd.prog 50 #[.int .u64 u] w fun e w' => e = .returned (.string s) ∧ Below w.heap.size w w' :=
  digits_go _ u s w (Nat.le_refl _) h0 h1 hs

set_option maxRecDepth 100000 in
set_option maxHeartbeats 800000 in
theorem decimal_any {n : Int} {s : ByteArray} (hs : (⟨(Lib.itoa n).toArray⟩ : ByteArray) = s) (w : World) (h1 : -4611686018427387904 ≤ n) (h2 : n ≤ 4611686018427387904) :
    Calls Tryd.prog 40 #[.int .i64 n] w fun e w' => e = .returned (.string s) ∧ Below w.heap.size w w' := by
  by_cases hn : n < 0
  · obtain ⟨t, ht⟩ : ∃ t, (⟨(Lib.decDigits (-(n + 1) + 1).toNat).toArray⟩ : ByteArray) = t := ⟨_, rfl⟩
    have hz : t.size ≤ 20 := by
      rw [← ht]
      have h2 := Lib.decDigits_length (-(n + 1) + 1).toNat
      have h3 := Lib.nDigits_le20 (-(n + 1) + 1).toNat (by omega)
      simp only [ByteArray.size, List.size_toArray]
      omega
    have n1 : ¬ 9223372036854775807 < 1 + t.size := by omega
    have hr := Lib.hid (show ⟨#[45]⟩ ++ t = s by
      rw [← hs, ← ht]
      have e : Lib.itoa n = [45] ++ Lib.decDigits (-(n + 1) + 1).toNat := by
        unfold Lib.itoa
        rw [if_pos hn, show n.natAbs = (-(n + 1) + 1).toNat by omega]
        rfl
      rw [e]
      exact ByteArray.mk_append_mk [45] _)
    have HT := Lib.hid ht
    clear hs ht
    go_enter Tryd.func40, Tryd.ntmps40
    go_wp2_with fail
    refine (digits_is HT.out _ (by omega) (by omega)).mono ?_
    rintro e w1 ⟨rfl, b1⟩
    go_wp2_with fail
    go_ret
    exact ⟨ret_str (by first | exact hr.out | exact hr.out.symm), b1⟩
  · have HS := Lib.hid (show (⟨(Lib.decDigits n.toNat).toArray⟩ : ByteArray) = s by
      rw [← hs]
      unfold Lib.itoa
      rw [if_neg hn])
    clear hs
    go_enter Tryd.func40, Tryd.ntmps40
    go_wp2_with fail
    refine (digits_is HS.out _ (by omega) (by omega)).mono ?_
    rintro e w1 ⟨rfl, b1⟩
    go_wp2_with fail
    go_ret
    exact ⟨rfl, b1⟩

set_option maxRecDepth 100000 in
set_option maxHeartbeats 1600000 in
theorem rtext_long (n d : Int) (a b : ByteArray) (w : World) (hT : RatT w) (hv : Rt.vld n d) (h1 : d ≠ 1)
    (ha : (⟨(Lib.itoa n).toArray⟩ : ByteArray) = a) (hb : (⟨(Lib.itoa d).toArray⟩ : ByteArray) = b) (a1 : a.size ≤ 21) (b1 : b.size ≤ 21) :
    Calls Tryd.prog 22 #[.agg #[.int .i64 n, .int .i64 d]] w fun e w' => e = .returned (.string (a ++ ⟨#[47]⟩ ++ b)) ∧ Below w.heap.size w w' := by
  have HV := hv
  have ⟨u1, u2, u3, u4, _⟩ := hv
  have HA := Lib.hid ha
  have HB := Lib.hid hb
  have hd1 : ((d : Int) == 1) = false := by simp [h1]
  have A0 := RatAt.new w n d 23
  have T0 := hT.alloc (.cells #[.int .i64 n, .int .i64 d] 23)
  have n1 : ¬ 9223372036854775807 < a.size + 1 := by omega
  have n2 : ¬ 9223372036854775807 < a.size + 1 + b.size := by omega
  clear ha hb h1 hv
  go_enter Tryd.func22, Tryd.ntmps22
  go_wp2_with fail
  refine (rvalid_yes n d _ HV).mono ?_
  rintro e w1 ⟨rfl, b1⟩
  have A1 := A0.below b1
  have T1 := T0.below b1
  have L1 := bstepA (Below.refl _ _) b1
  have S1 : w1.cell? ⟨w.heap.size, 0, none⟩ = some (.int .i64 n) ∧ w1.cell? ⟨w.heap.size, 1, none⟩ = some (.int .i64 d) ∧ RatT w1 ∧ Below w.heap.size w w1 := ⟨A1.1, A1.2.1, T1, L1⟩
  have ⟨c0, c1, _, _⟩ := A1
  go_wp2_with fail
  go_region_held3 (fun w' => w'.cell? ⟨w.heap.size, 0, none⟩ = some (.int .i64 n) ∧ w'.cell? ⟨w.heap.size, 1, none⟩ = some (.int .i64 d) ∧ RatT w' ∧ Below w.heap.size w w')
    (first | (exact keepT S1 (Below.refl _ _).drew) | (exact keepT (by assumption) hb))
    (first | (go_at_call 40; (with_reducible refine (decimal_any HA.out _ ?_ ?_).mono ?_); omega; omega; rintro e w' ⟨rfl, hb⟩) | (go_at_call 40; (with_reducible refine (decimal_any HB.out _ ?_ ?_).mono ?_); omega; omega; rintro e w' ⟨rfl, hb⟩))
  go_wp2_with fail
  go_ret
  exact ⟨rfl, sB (by assumption)⟩

set_option maxRecDepth 100000 in
set_option maxHeartbeats 800000 in
theorem rtext_short (n : Int) (a : ByteArray) (w : World) (hT : RatT w) (hv : Rt.vld n 1) (ha : (⟨(Lib.itoa n).toArray⟩ : ByteArray) = a) :
    Calls Tryd.prog 22 #[.agg #[.int .i64 n, .int .i64 1]] w fun e w' => e = .returned (.string a) ∧ Below w.heap.size w w' := by
  have HV := hv
  have ⟨u1, u2, u3, u4, _⟩ := hv
  have HA := Lib.hid ha
  have A0 := RatAt.new w n 1 23
  have T0 := hT.alloc (.cells #[.int .i64 n, .int .i64 1] 23)
  clear ha hv
  go_enter Tryd.func22, Tryd.ntmps22
  go_wp2_with fail
  refine (rvalid_yes n 1 _ HV).mono ?_
  rintro e w1 ⟨rfl, b1⟩
  have A1 := A0.below b1
  have T1 := T0.below b1
  have L1 := bstepA (Below.refl _ _) b1
  have ⟨c0, c1, _, _⟩ := A1
  go_wp2_with fail
  refine (decimal_any HA.out _ (by omega) (by omega)).mono ?_
  rintro e w2 ⟨rfl, b2⟩
  go_wp2_with fail
  go_ret
  exact ⟨rfl, bstep L1 b2⟩
set_option maxHeartbeats 800000 in
theorem rtext_bad (n d : Int) (w : World) (hn : I64 n) (hd : I64 d) (hv : ¬ Rt.vld n d) :
    Calls Tryd.prog 22 #[.agg #[.int .i64 n, .int .i64 d]] w fun e w' => e = .returned (.string ⟨#[]⟩) ∧ Below w.heap.size w w' := by
  go_enter Tryd.func22, Tryd.ntmps22
  go_wp2_with fail
  refine (rvalid_no n d _ hn hd hv).mono ?_
  rintro e w1 ⟨rfl, b1⟩
  go_wp2_with fail
  go_ret
  exact ⟨rfl, bstepA (Below.refl _ _) b1⟩
theorem rtext_any (n d : Int) (w : World) (hT : RatT w) (hn : I64 n) (hd : I64 d) :
    Calls Tryd.prog 22 #[.agg #[.int .i64 n, .int .i64 d]] w fun e w' => e = .returned (.string ⟨(Rt.txtS n d).toArray⟩) ∧ Below w.heap.size w w' := by
  by_cases hv : Rt.vld n d
  · rw [Rt.txtS_yes hv]
    unfold Rt.txt
    by_cases h1 : d = 1
    · subst h1
      rw [if_pos rfl]
      exact rtext_short n _ w hT hv rfl
    · rw [if_neg h1, ← long_text]
      exact rtext_long n d _ _ w hT hv h1 rfl rfl (itoa_size hv.2.2.1 hv.2.2.2.1) (itoa_size (by have := hv.1; omega) hv.2.1)
  · rw [show Rt.txtS n d = [] by unfold Rt.txtS; rw [if_neg hv]]
    exact rtext_bad n d w hn hd hv
end Go.Proofs.YtcannkndedlooaaDoor
