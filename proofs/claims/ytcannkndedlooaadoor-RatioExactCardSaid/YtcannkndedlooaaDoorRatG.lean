/- What Text of package ratio and of its reference return, and what they call: numerals and the first slash. -/
import Derived.Test.YtcannkndedlooaaDoorRatF
import Derived.Test.YtcannkndedlooaaDoorRatT
import Derived.Lib.ItoaMem
namespace Go.Proofs.YtcannkndedlooaaDoor
open Go.RowKit
set_option linter.unusedVariables false
set_option linter.unusedSimpArgs false

/-- A package-level variable below holds what it held. -/
theorem var_below {P : Program} {W W' : World} {n : String} {cs : Array Value} (h : Below W.heap.size W W') (hv : W.var? P n = some cs) : W'.var? P n = some cs := by
  unfold World.var? at *
  cases hg : P.globalNamed n with
  | none => simp [hg] at hv
  | some g =>
    simp only [hg, Option.bind_some] at *
    have hlt : g < W.heap.size := by
      cases hh : W.heap[g]? with
      | none => simp [hh] at hv
      | some o => exact (Array.getElem?_eq_some_iff.1 hh).1
    rw [h.block g hlt]
    exact hv
/-- What the library's functions read: the table of powers of ten, the two errors. -/
def RatT (w : World) : Prop := Lib.TabIs Tryd.prog w "internal/strconv.uint64pow10" .u64 Lib.pow10Tab ∧ (∃ tp p, w.var? Tryd.prog "strconv.ErrSyntax" = some #[.iface tp p]) ∧ (∃ tp p, w.var? Tryd.prog "strconv.ErrRange" = some #[.iface tp p])
theorem RatT.below {w w' : World} (h : RatT w) (hb : Below w.heap.size w w') : RatT w' := by
  obtain ⟨h1, ⟨a, b, h2⟩, ⟨c, d, h3⟩⟩ := h
  exact ⟨var_below hb h1, ⟨a, b, var_below hb h2⟩, ⟨c, d, var_below hb h3⟩⟩
theorem RatT.alloc {w : World} (h : RatT w) (o : Obj) : RatT (w.alloc o) := h.below ((Below.refl _ _).alloc (Nat.le_refl _) o)
theorem RatT.drewN {w : World} (h : RatT w) (n : Nat) : RatT (w.drewN n) := h.below (below_drewN (Below.refl _ _) n)
theorem RatT.drew {w : World} (h : RatT w) : RatT w.drew := h.below (Below.refl _ _).drew

theorem below_grow (w : World) (k : Nat) (os : Array Obj) : Below w.heap.size w (Sort.grow (w.drewN k) os) := by
  refine ⟨rfl, rfl, rfl, by simp [Sort.grow, World.drewN], fun i hi => ?_⟩
  show (w.heap ++ os)[i]? = _
  rw [Array.getElem?_append_left hi]

theorem itoa_is {n : Int} {s : ByteArray} (hs : (⟨(Lib.itoa n).toArray⟩ : ByteArray) = s) (w : World) (hT : RatT w) (h0 : -9223372036854775808 ≤ n) (h1 : n ≤ 9223372036854775807) :
    Calls Tryd.prog 39 #[.int .i64 n] w fun e w' => e = .returned (.string s) ∧ Below w.heap.size w w' := by
  subst hs
  refine (Tryd.strconv_Itoa n h0 h1 w hT.1).mono ?_
  rintro e w' ⟨rfl, k, os, rfl⟩
  exact ⟨rfl, below_grow _ _ _⟩

def StrIs (s : ByteArray) (l : List UInt8) : Prop := s.data.toList = l
theorem keepT {b : Nat} {n d : Int} {W wc w' : World} (h : wc.cell? ⟨b, 0, none⟩ = some (.int .i64 n) ∧ wc.cell? ⟨b, 1, none⟩ = some (.int .i64 d) ∧ RatT wc ∧ Below W.heap.size W wc) (hb : Below wc.heap.size wc w') :
    w'.cell? ⟨b, 0, none⟩ = some (.int .i64 n) ∧ w'.cell? ⟨b, 1, none⟩ = some (.int .i64 d) ∧ RatT w' ∧ Below W.heap.size W w' :=
  ⟨(hb.cell (p := ⟨b, 0, none⟩) (World.block_lt_of_cell? wc _ h.1)).trans h.1, (hb.cell (p := ⟨b, 1, none⟩) (World.block_lt_of_cell? wc _ h.2.1)).trans h.2.1, h.2.2.1.below hb, bstep h.2.2.2 hb⟩
theorem sB {a b : Prop} {W wc : World} (h : a ∧ b ∧ RatT wc ∧ Below W.heap.size W wc) : Below W.heap.size W wc := h.2.2.2
theorem sT {a b : Prop} {W wc : World} (h : a ∧ b ∧ RatT wc ∧ Below W.heap.size W wc) : RatT wc := h.2.2.1

set_option maxRecDepth 100000 in
set_option maxHeartbeats 1600000 in
theorem text_long (n d : Int) (a b : ByteArray) (w : World) (hT : RatT w) (hv : Rt.vld n d) (h1 : d ≠ 1)
    (ha : (⟨(Lib.itoa n).toArray⟩ : ByteArray) = a) (hb : (⟨(Lib.itoa d).toArray⟩ : ByteArray) = b) (a1 : a.size ≤ 21) (b1 : b.size ≤ 21) :
    Calls Tryd.prog 21 #[.agg #[.int .i64 n, .int .i64 d]] w fun e w' => e = .returned (.string (a ++ ⟨#[47]⟩ ++ b)) ∧ Below w.heap.size w w' := by
  have HV := hv
  have ⟨u1, u2, u3, u4, _⟩ := hv
  have HA := Lib.hid ha
  have HB := Lib.hid hb
  have hd1 : ((d : Int) == 1) = false := by simp [h1]
  have A0 := RatAt.new w n d 23
  have T0 := hT.alloc (.cells #[.int .i64 n, .int .i64 d] 23)
  have n1 : ¬ 9223372036854775807 < a.size + 1 := by omega
  have n2 : ¬ 9223372036854775807 < a.size + 1 + b.size := by omega
  clear ha hb h1 hv
  go_enter Tryd.func21, Tryd.ntmps21
  go_wp2_with fail
  refine (valid_yes n d _ HV).mono ?_
  rintro e w1 ⟨rfl, b1⟩
  have A1 := A0.below b1
  have T1 := T0.below b1
  have L1 := bstepA (Below.refl _ _) b1
  have S1 : w1.cell? ⟨w.heap.size, 0, none⟩ = some (.int .i64 n) ∧ w1.cell? ⟨w.heap.size, 1, none⟩ = some (.int .i64 d) ∧ RatT w1 ∧ Below w.heap.size w w1 := ⟨A1.1, A1.2.1, T1, L1⟩
  have ⟨c0, c1, _, _⟩ := A1
  go_wp2_with fail
  go_region_held3 (fun w' => w'.cell? ⟨w.heap.size, 0, none⟩ = some (.int .i64 n) ∧ w'.cell? ⟨w.heap.size, 1, none⟩ = some (.int .i64 d) ∧ RatT w' ∧ Below w.heap.size w w')
    (first | (exact keepT S1 (Below.refl _ _).drew) | (exact keepT (by assumption) hb))
    (first | (go_at_call 39; refine (itoa_is HA.out _ ?_ ?_ ?_).mono ?_; exact sT (by assumption); omega; omega; rintro e w' ⟨rfl, hb⟩) | (go_at_call 39; refine (itoa_is HB.out _ ?_ ?_ ?_).mono ?_; exact sT (by assumption); omega; omega; rintro e w' ⟨rfl, hb⟩))
  go_wp2_with fail
  go_ret
  exact ⟨rfl, sB (by assumption)⟩

set_option maxRecDepth 100000 in
set_option maxHeartbeats 800000 in
theorem text_short (n : Int) (a : ByteArray) (w : World) (hT : RatT w) (hv : Rt.vld n 1) (ha : (⟨(Lib.itoa n).toArray⟩ : ByteArray) = a) :
    Calls Tryd.prog 21 #[.agg #[.int .i64 n, .int .i64 1]] w fun e w' => e = .returned (.string a) ∧ Below w.heap.size w w' := by
  have HV := hv
  have ⟨u1, u2, u3, u4, _⟩ := hv
  have HA := Lib.hid ha
  have A0 := RatAt.new w n 1 23
  have T0 := hT.alloc (.cells #[.int .i64 n, .int .i64 1] 23)
  clear ha hv
  go_enter Tryd.func21, Tryd.ntmps21
  go_wp2_with fail
  refine (valid_yes n 1 _ HV).mono ?_
  rintro e w1 ⟨rfl, b1⟩
  have A1 := A0.below b1
  have T1 := T0.below b1
  have L1 := bstepA (Below.refl _ _) b1
  have ⟨c0, c1, _, _⟩ := A1
  go_wp2_with fail
  refine (itoa_is HA.out _ T1 (by omega) (by omega)).mono ?_
  rintro e w2 ⟨rfl, b2⟩
  go_wp2_with fail
  go_ret
  exact ⟨rfl, bstep L1 b2⟩
set_option maxHeartbeats 800000 in
theorem text_bad (n d : Int) (w : World) (hn : I64 n) (hd : I64 d) (hv : ¬ Rt.vld n d) :
    Calls Tryd.prog 21 #[.agg #[.int .i64 n, .int .i64 d]] w fun e w' => e = .returned (.string ⟨#[]⟩) ∧ Below w.heap.size w w' := by
  go_enter Tryd.func21, Tryd.ntmps21
  go_wp2_with fail
  refine (valid_no n d _ hn hd hv).mono ?_
  rintro e w1 ⟨rfl, b1⟩
  go_wp2_with fail
  go_ret
  exact ⟨rfl, bstepA (Below.refl _ _) b1⟩
theorem itoa_size {n : Int} (h1 : -4611686018427387904 ≤ n) (h2 : n ≤ 4611686018427387904) : (⟨(Lib.itoa n).toArray⟩ : ByteArray).size ≤ 21 := by
  have := Lib.itoa_length_le n (by omega) (by omega)
  simpa [ByteArray.size] using this
theorem long_text (n d : Int) : (⟨(Lib.itoa n).toArray⟩ ++ ⟨#[47]⟩ ++ ⟨(Lib.itoa d).toArray⟩ : ByteArray) = ⟨(Lib.itoa n ++ 47 :: Lib.itoa d).toArray⟩ := by
  show (ByteArray.mk (Lib.itoa n).toArray ++ ByteArray.mk [47].toArray ++ ByteArray.mk (Lib.itoa d).toArray) = _
  rw [ByteArray.mk_append_mk, ByteArray.mk_append_mk, List.append_assoc]
  rfl
theorem text_any (n d : Int) (w : World) (hT : RatT w) (hn : I64 n) (hd : I64 d) :
    Calls Tryd.prog 21 #[.agg #[.int .i64 n, .int .i64 d]] w fun e w' => e = .returned (.string ⟨(Rt.txtS n d).toArray⟩) ∧ Below w.heap.size w w' := by
  by_cases hv : Rt.vld n d
  · rw [Rt.txtS_yes hv]
    unfold Rt.txt
    by_cases h1 : d = 1
    · subst h1
      rw [if_pos rfl]
      exact text_short n _ w hT hv rfl
    · rw [if_neg h1, ← long_text]
      exact text_long n d _ _ w hT hv h1 rfl rfl (itoa_size hv.2.2.1 hv.2.2.2.1) (itoa_size (by have := hv.1; omega) hv.2.1)
  · rw [show Rt.txtS n d = [] by unfold Rt.txtS; rw [if_neg hv]]
    exact text_bad n d w hn hd hv
end Go.Proofs.YtcannkndedlooaaDoor
