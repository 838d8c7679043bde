/- What instant of package lexer returns; and facts for Token. -/
import Derived.Test.YtoohijffkbkikaaGreatDoorLg
namespace Go.Proofs.YtoohijffkbkikaaGreatDoor
open Go.RowKit
set_option linter.unusedVariables false
set_option linter.unusedSimpArgs false
set_option maxRecDepth 100000

theorem suffix_is {s : ByteArray} {c : UInt8} {t : List UInt8} {b : Bool} (h : Lib.trimSuffix s.data.toList [c] = t) (h2 : Lib.hasSuffix s.data.toList [c] = b) (w : World) (hs : s.size ≤ 4000000000) :
    Calls Tryz.prog 124 #[.string s, .string ⟨#[c]⟩] w fun e w' => e = .returned (.tuple #[.string ⟨t.toArray⟩, .bool b]) ∧ w = w' :=
  (Tryz.strings_CutSuffix s ⟨#[c]⟩ w (by omega)).mono fun e w' ⟨h1, h3⟩ => ⟨by rw [h1, ← h, ← h2], h3.symm⟩
theorem first_mem {c : UInt8} : ∀ {l : List UInt8}, c ∈ l → ∃ a b, l = a ++ c :: b ∧ c ∉ a
  | [], h => by cases h
  | x :: t, h => by
    by_cases e : c = x
    · subst e; exact ⟨[], t, rfl, by simp⟩
    · have hm : c ∈ t := by simpa [e] using h
      obtain ⟨a, b, hab, hn⟩ := first_mem hm
      exact ⟨x :: a, b, by rw [hab]; rfl, by simp [e, hn]⟩
theorem contains_is {s : ByteArray} {c : UInt8} {b : Bool} (h : decide (c ∈ s.data.toList) = b) (w : World) : Calls Tryz.prog 96 #[.string s, .string ⟨#[c]⟩] w fun e w' => e = .returned (.bool b) ∧ w = w' := by
  refine (Tryz.strings_Contains_one s c w).mono fun e w' ⟨h1, h3⟩ => ⟨?_, h3.symm⟩
  rw [h1, ← h]
  refine ret_bool ?_
  rw [decide_eq_decide]
  have hx : Lib.indexByte s.data.toList c = Lib.index s.data.toList [c] := (Lib.index_one _ _).symm
  rw [hx]
  constructor
  · intro h0
    rcases Decidable.em (c ∈ s.data.toList) with hm | hm
    · exact hm
    · rw [Lx.index_none1 hm] at h0; omega
  · intro hm
    obtain ⟨a, b, hab, hna⟩ := first_mem hm
    rw [hab, Lx.index_at hna]
    omega
theorem cutS_le {l a b : List UInt8} {c : UInt8} {f : Bool} (h : Lib.cut l [c] = (a, b, f)) : a.length ≤ l.length ∧ b.length ≤ l.length := by
  unfold Lib.cut at h
  split at h
  · simp only [Prod.mk.injEq] at h
    obtain ⟨rfl, rfl, rfl⟩ := h
    exact ⟨by simp <;> omega, by simp⟩
  · simp only [Prod.mk.injEq] at h
    obtain ⟨rfl, rfl, rfl⟩ := h
    exact ⟨Nat.le_refl _, Nat.zero_le _⟩
def instV (u : Bool) (o1 o2 : Option Int) : Option Int := match o1, o2 with
  | some d, some n => if u = true ∧ n < 86400 then some (d * 86400 + n) else none
  | _, _ => none
theorem trim_le (l p : List UInt8) : (Lib.trimSuffix l p).length ≤ l.length := by
  unfold Lib.trimSuffix
  split
  · rw [List.length_take]; omega
  · exact Nat.le_refl _
theorem ba_size (l : List UInt8) : (⟨l.toArray⟩ : ByteArray).size = l.length := by simp [ByteArray.size]

set_option maxHeartbeats 4000000 in
theorem instant_any (s : ByteArray) (w : World) (hT : LexT w) (hs : s.size ≤ 3000000000) :
    Calls Tryz.prog 97 #[.string s] w (Num2 1000000000000 (Lx.instS s.data.toList) w) := by
  have hz := Lib.size_eq s
  obtain ⟨t, ht⟩ : ∃ t, Lib.trimSuffix s.data.toList [90] = t := ⟨_, rfl⟩
  obtain ⟨u, hu⟩ : ∃ u, Lib.hasSuffix s.data.toList [90] = u := ⟨_, rfl⟩
  obtain ⟨a, b, f, hc⟩ : ∃ a b f, Lib.cut t [84] = (a, b, f) := ⟨_, _, _, rfl⟩
  have htl : t.length ≤ s.data.toList.length := by rw [← ht]; exact trim_le _ _
  have hcl := cutS_le hc
  obtain ⟨o1, h1⟩ : ∃ o, Lx.dateS a = o := ⟨_, rfl⟩
  obtain ⟨o2, h2⟩ : ∃ o, Lx.fullS b = o := ⟨_, rfl⟩
  have hex : Lx.instS s.data.toList = instV u o1 o2 := by
    unfold Lx.instS
    rw [ht, hc, hu]
    simp only
    rw [h1, h2]
    rfl
  obtain ⟨o, ho⟩ : ∃ o, Lx.instS s.data.toList = o := ⟨_, rfl⟩
  rw [ho] at hex ⊢
  have HX := Lib.hid hex
  have HS := Lib.hid (And.intro ht hu)
  have HC := Lib.hid hc
  have H1 := Lib.hid h1
  have H2 := Lib.hid h2
  have HT := Lib.hid hT
  have z1 : (⟨t.toArray⟩ : ByteArray).size ≤ 4000000000 := by rw [ba_size]; omega
  have z2 : (⟨a.toArray⟩ : ByteArray).size ≤ 4000000000 := by rw [ba_size]; omega
  have z3 : (⟨b.toArray⟩ : ByteArray).size ≤ 4000000000 := by rw [ba_size]; omega
  have HZ := Lib.hid (And.intro z1 (And.intro z2 z3))
  clear hz ht hu hc htl hcl h1 h2 hex ho hT z1 z2 z3
  go_enter Tryz.func97, Tryz.ntmps97
  go_wp2_with fail
  refine (suffix_is HS.out.1 HS.out.2 _ (by omega)).mono ?_
  rintro e w' ⟨rfl, rfl⟩
  go_wp2_with fail
  refine (cut_is (s := ⟨t.toArray⟩) HC.out _ HZ.out.1).mono ?_
  rintro e w' ⟨rfl, q, rfl⟩
  go_wp2_with fail
  refine (date_is (s := ⟨a.toArray⟩) H1.out _ (HT.out.drewN q) HZ.out.2.1).mono ?_
  intro e w2 hw2
  obtain ⟨v, HV, v1, v2, rfl, b2⟩ := num2_open hw2
  clear hw2
  have T2 := Lib.hid ((HT.out.drewN q).below b2)
  have HB2 := Lib.hid (bstep (bdrewN (Below.refl _ _) q) b2)
  clear b2
  go_wp2_with fail
  refine (full_is (s := ⟨b.toArray⟩) H2.out _ T2.out HZ.out.2.2).mono ?_
  intro e w3 hw3
  obtain ⟨n, HN, n1, n2, rfl, b3⟩ := num2_open hw3
  clear hw3
  have HB3 := Lib.hid (bstep HB2.out b3)
  clear b3 HB2 T2
  have u1 := wr_ (v * 86400) (by omega)
  have u2 := wr_ (v * 86400 + n) (by omega)
  cases u with
  | false =>
    have HO : Hid (o = none) := Lib.hid (by rw [HX.out]; cases o1 <;> cases o2 <;> simp [instV])
    clear HX
    go_wp2_with fail
    go_ret2
    rw [HO.out]
    exact Num2.none_ (by omega) _ ⟨by omega, by omega⟩ (by omega) (by omega) HB3.out
  | true =>
    cases o1 with
    | none =>
      have HO : Hid (o = none) := Lib.hid HX.out
      clear HX
      simp only [Option.isSome_none]
      go_wp2_with fail
      go_ret2
      rw [HO.out]
      exact Num2.none_ (by omega) _ ⟨by omega, by omega⟩ (by omega) (by omega) HB3.out
    | some d =>
      obtain rfl : v = d := HV.out.2 d rfl
      cases o2 with
      | none =>
        have HO : Hid (o = none) := Lib.hid HX.out
        clear HX
        simp only [Option.isSome_none, Option.isSome_some]
        go_wp2_with fail
        go_ret2
        rw [HO.out]
        exact Num2.none_ (by omega) _ ⟨by omega, by omega⟩ (by omega) (by omega) HB3.out
      | some m =>
        obtain rfl : n = m := HN.out.2 m rfl
        simp only [Option.isSome_some]
        by_cases hlt : n < 86400
        · have HO : Hid (o = some (v * 86400 + n)) := Lib.hid (by rw [HX.out]; simp [instV, hlt])
          clear HX
          go_wp2_with fail
          go_ret2
          rw [HO.out]
          exact Num2.some_ _ ⟨by omega, by omega⟩ (by omega) (by omega) HB3.out
        · have HO : Hid (o = none) := Lib.hid (by rw [HX.out]; simp [instV, hlt])
          have hlt' : decide (n < (86400 : Int)) = false := by simp; omega
          clear HX
          go_wp2_with fail
          go_ret2
          rw [HO.out]
          exact Num2.none_ (by omega) _ ⟨by omega, by omega⟩ (by omega) (by omega) HB3.out
theorem instant_is {s : ByteArray} {o : Option Int} (h : Lx.instS s.data.toList = o) (w : World) (hT : LexT w) (hs : s.size ≤ 3000000000) : Calls Tryz.prog 97 #[.string s] w (Num2 1000000000000 o w) := h ▸ instant_any s w hT hs
theorem offset_is {s : ByteArray} {o : Option Int} (h : Lx.offS s.data.toList = o) (w : World) (hT : LexT w) (hs : s.size ≤ 3000000000) : Calls Tryz.prog 99 #[.string s] w (Num2 1000000 o w) := h ▸ offset_any s w hT hs
theorem number_is {s : ByteArray} {o : Option Int} (h : Lx.numS s.data.toList = o) (w : World) (hT : LexT w) (hs : s.size ≤ 3000000000) (hd : Lx.alldig s.data.toList = true) : Calls Tryz.prog 94 #[.string s] w (Num2 9223372036854775808 o w) := h ▸ number_any s w hT (by omega) hd

/-! ### A token in memory -/
def tokV (k : Int) (t : ByteArray) (n : Int) : Array Value := #[.int .i64 k, .string t, .int .i64 n]
/-- Block b is a token. -/
def TokB (w : World) (b : Nat) (k : Int) (t : ByteArray) (n : Int) : Prop := BlkAt w b #[.int .i64 k, .string t, .int .i64 n] 44
section
variable {w w' : World} {b : Nat} {k n : Int} {t : ByteArray}
theorem TokB.cells (h : TokB w b k t n) : w.cell? ⟨b, 0, none⟩ = some (.int .i64 k) ∧ w.cell? ⟨b, 1, none⟩ = some (.string t) ∧ w.cell? ⟨b, 2, none⟩ = some (.int .i64 n) ∧ w.frozen? ⟨b, 0, none⟩ = false ∧ w.frozen? ⟨b, 1, none⟩ = false ∧ w.frozen? ⟨b, 2, none⟩ = false :=
  ⟨BlkAt.cell h rfl, BlkAt.cell h rfl, BlkAt.cell h rfl, BlkAt.free h 0, BlkAt.free h 1, BlkAt.free h 2⟩
theorem TokB.lt_ (h : TokB w b k t n) : b < w.heap.size := BlkAt.lt_ h
theorem TokB.after (h : TokB w b k t n) (hb : Below w.heap.size w w') : TokB w' b k t n := BlkAt.after h hb
theorem TokB.below {B : Nat} (h : TokB w b k t n) (hb : Below B w w') (hB : b < B) : TokB w' b k t n := BlkAt.below h hb hB
theorem TokB.alloc (h : TokB w b k t n) (o : Obj) : TokB (w.alloc o) b k t n := BlkAt.alloc h o
theorem TokB.new (w : World) (k : Int) (t : ByteArray) (n : Int) : TokB (w.alloc (.cells #[.int .i64 k, .string t, .int .i64 n] 44)) w.heap.size k t n := BlkAt.new w _ _
theorem TokB.new1 (w : World) (o : Obj) (k : Int) (t : ByteArray) (n : Int) : TokB ((w.alloc o).alloc (.cells #[.int .i64 k, .string t, .int .i64 n] 44)) (w.heap.size + 1) k t n := by
  have := BlkAt.new (w.alloc o) #[.int .i64 k, .string t, .int .i64 n] 44
  unfold TokB
  simpa using this
theorem TokB.kind (h : TokB w b k t n) (k' : Int) : TokB (w.setCell ⟨b, 0, none⟩ (.int .i64 k')) b k' t n := BlkAt.set_ h 0 _
theorem TokB.text (h : TokB w b k t n) (t' : ByteArray) : TokB (w.setCell ⟨b, 1, none⟩ (.string t')) b k t' n := BlkAt.set_ h 1 _
theorem TokB.num (h : TokB w b k t n) (n' : Int) : TokB (w.setCell ⟨b, 2, none⟩ (.int .i64 n')) b k t n' := BlkAt.set_ h 2 _
theorem TokB.other (h : TokB w b k t n) {g i : Nat} (hne : g ≠ b) (v : Value) : TokB (w.setCell ⟨g, i, none⟩ v) b k t n := BlkAt.other h hne v
end
theorem ret_tok {k k' n n' e e' : Int} {t t' : ByteArray} (h1 : k = k') (h2 : t = t') (h3 : n = n') (h4 : e = e') : Ending.returned (.tuple #[.agg #[.int .i64 k, .string t, .int .i64 n], .int .i64 e]) = .returned (.tuple #[.agg #[.int .i64 k', .string t', .int .i64 n'], .int .i64 e']) := by rw [h1, h2, h3, h4]
end Go.Proofs.YtoohijffkbkikaaGreatDoor
