/- Plain facts on words: the word of a token is read as this token. Nothing of the program stands in it. -/
import Derived.Test.YtoohijffkbkikaaGreatDoorLx
set_option linter.unusedVariables false
namespace Lx
open Go Go.Lib Go.Proofs.YtoohijffkbkikaaGreatDoor

/-! ### Digits -/
def dg (k : Nat) : UInt8 := UInt8.ofNat (48 + k)
theorem dg_nat {k : Nat} (h : k < 10) : (dg k).toNat = 48 + k := by unfold dg; simp; omega
theorem dg_dig {k : Nat} (h : k < 10) : digR (dg k).toNat = true := by rw [dg_nat h]; simp [digR]; omega
theorem dec_dig (u : Nat) : alldig (decDigits u) = true := by
  induction u using Nat.strongRecOn with
  | _ u ih =>
    by_cases h : u < 10
    · rw [decDigits, dif_pos h]
      simp only [alldig, List.all_cons, List.all_nil, Bool.and_true]
      exact dg_dig h
    · rw [decDigits, dif_neg h]
      have h1 := ih (u / 10) (by omega)
      have h2 := dg_dig (show u % 10 < 10 by omega)
      simp only [alldig, List.all_append, List.all_cons, List.all_nil, Bool.and_true, Bool.and_eq_true] at h1 ⊢
      exact ⟨h1, h2⟩
theorem val_snoc (l : List UInt8) (b : UInt8) : val (l ++ [b]) = val l * 10 + (b.toNat - 48) := by simp [val, List.foldl_append]
theorem val_dec (u : Nat) : val (decDigits u) = u := by
  induction u using Nat.strongRecOn with
  | _ u ih =>
    by_cases h : u < 10
    · rw [decDigits, dif_pos h]
      have := dg_nat h
      simp only [dg] at this
      simp only [val, List.foldl_cons, List.foldl_nil, this]
      omega
    · rw [decDigits, dif_neg h, val_snoc, ih (u / 10) (by omega)]
      have := dg_nat (show u % 10 < 10 by omega)
      simp only [dg] at this
      rw [this]
      omega
theorem dec_len_pos (u : Nat) : 1 ≤ (decDigits u).length := by rw [decDigits_length]; exact nDigits_pos u
theorem dec_head (u : Nat) (h : 1 ≤ u) : (decDigits u).head? ≠ some 48 := by
  induction u using Nat.strongRecOn with
  | _ u ih =>
    by_cases h10 : u < 10
    · rw [decDigits, dif_pos h10]
      simp only [List.head?_cons, ne_eq, Option.some.injEq]
      intro e
      have := dg_nat h10
      simp only [dg] at this
      rw [e] at this
      simp at this
      omega
    · rw [decDigits, dif_neg h10, List.head?_append]
      have h1 := ih (u / 10) (by omega) (by omega)
      have h2 := dec_len_pos (u / 10)
      cases hh : (decDigits (u / 10)).head? with
      | none => rw [List.head?_eq_none_iff] at hh; rw [hh] at h2; simp at h2
      | some x => rw [hh] at h1; simpa using h1
/-- Two digits. -/
theorem pad2 {n : Int} (h0 : 0 ≤ n) (h1 : n < 100) : padS n 2 = [dg (n.toNat / 10), dg (n.toNat % 10)] := by
  unfold padS itoa
  rw [if_neg (by omega)]
  by_cases h : n.toNat < 10
  · rw [decDigits, dif_pos h]
    simp [repeatL, dg, Nat.div_eq_of_lt h, Nat.mod_eq_of_lt h]
  · rw [decDigits_two h (by omega)]
    simp [repeatL, dg]
theorem pad4 {n : Int} (h0 : 1000 ≤ n) (h1 : n < 10000) : padS n 4 = [dg (n.toNat / 1000), dg (n.toNat / 100 % 10), dg (n.toNat / 10 % 10), dg (n.toNat % 10)] := by
  unfold padS itoa
  rw [if_neg (by omega)]
  have e : decDigits n.toNat = [dg (n.toNat / 1000), dg (n.toNat / 100 % 10), dg (n.toNat / 10 % 10), dg (n.toNat % 10)] := by
    rw [decDigits, dif_neg (by omega), decDigits, dif_neg (by omega), decDigits_two (by omega) (by omega)]
    simp only [dg, List.cons_append, List.nil_append, Nat.div_div_eq_div_mul]
  rw [e]
  simp [repeatL]
theorem pad2_len {n : Int} (h0 : 0 ≤ n) (h1 : n < 100) : (padS n 2).length = 2 ∧ alldig (padS n 2) = true ∧ val (padS n 2) = n.toNat := by
  rw [pad2 h0 h1]
  have a := dg_nat (show n.toNat / 10 < 10 by omega)
  have b := dg_nat (show n.toNat % 10 < 10 by omega)
  have c := dg_dig (show n.toNat / 10 < 10 by omega)
  have d := dg_dig (show n.toNat % 10 < 10 by omega)
  refine ⟨rfl, by simp [alldig, c, d], ?_⟩
  simp only [val, List.foldl_cons, List.foldl_nil, a, b]
  omega
theorem pad4_len {n : Int} (h0 : 1000 ≤ n) (h1 : n < 10000) : (padS n 4).length = 4 ∧ alldig (padS n 4) = true ∧ val (padS n 4) = n.toNat := by
  rw [pad4 h0 h1]
  have a := dg_nat (show n.toNat / 1000 < 10 by omega)
  have b := dg_nat (show n.toNat / 100 % 10 < 10 by omega)
  have c := dg_nat (show n.toNat / 10 % 10 < 10 by omega)
  have d := dg_nat (show n.toNat % 10 < 10 by omega)
  have a' := dg_dig (show n.toNat / 1000 < 10 by omega)
  have b' := dg_dig (show n.toNat / 100 % 10 < 10 by omega)
  have c' := dg_dig (show n.toNat / 10 % 10 < 10 by omega)
  have d' := dg_dig (show n.toNat % 10 < 10 by omega)
  refine ⟨rfl, by simp [alldig, a', b', c', d'], ?_⟩
  simp only [val, List.foldl_cons, List.foldl_nil, a, b, c, d]
  omega

/-! ### Splitting -/
theorem alldig_no {l : List UInt8} {c : UInt8} (h : alldig l = true) (hc : digR c.toNat = false) : c ∉ l := fun hm => by
  have := List.all_eq_true.1 h c hm
  simp [hc] at this
theorem index_none1 {l : List UInt8} {c : UInt8} (h : c ∉ l) : index l [c] = -1 := by
  apply index_none
  intro j hj
  unfold occAt
  cases hd : l.drop j with
  | nil => rfl
  | cons x r =>
    have hm : x ∈ l := List.mem_of_mem_drop (by rw [hd]; simp)
    simp [List.isPrefixOf]
    exact fun e => h (e ▸ hm)
theorem index_at {a b : List UInt8} {c : UInt8} (h : c ∉ a) : index (a ++ c :: b) [c] = a.length := by
  apply index_first
  · simp
  · unfold occAt
    simp [List.isPrefixOf]
  · intro j hj
    unfold occAt
    cases hd : (a ++ c :: b).drop j with
    | nil => rfl
    | cons x r =>
      rw [List.drop_append_of_le_length (by omega)] at hd
      have hne : a.drop j ≠ [] := by
        intro e
        have := congrArg List.length e
        simp at this
        omega
      have hm : x ∈ a := by
        cases hx : a.drop j with
        | nil => exact absurd hx hne
        | cons y s =>
          rw [hx] at hd
          simp only [List.cons_append, List.cons.injEq] at hd
          rw [← hd.1]
          exact List.mem_of_mem_drop (by rw [hx]; simp)
      simp [List.isPrefixOf]
      exact fun e => h (e ▸ hm)
theorem splitK_cons {a b : List UInt8} {c : UInt8} (k : Nat) (h : c ∉ a) : splitK [c] 0 (k + 1) (a ++ c :: b) = a :: splitK [c] 0 k b := by
  have hi := index_at (b := b) h
  rw [splitK, if_neg (by rw [hi]; simp), hi]
  simp
theorem splitK_last {a : List UInt8} {c : UInt8} (k : Nat) (h : c ∉ a) : splitK [c] 0 k a = [a] := by
  cases k with
  | zero => rfl
  | succ k =>
    unfold splitK
    rw [if_pos (by rw [index_none1 h]; simp)]
theorem split3 {x y z : List UInt8} {c : UInt8} (hx : c ∉ x) (hy : c ∉ y) (hz : c ∉ z) (h1 : 1 ≤ (x ++ c :: (y ++ c :: z)).length - 2) : splitN (x ++ c :: (y ++ c :: z)) [c] 4 = [x, y, z] := by
  unfold splitN
  rw [show min 4 ((x ++ c :: (y ++ c :: z)).length + 1) - 1 = 3 by simp at h1 ⊢; omega]
  rw [splitK_cons 2 hx, splitK_cons 1 hy, splitK_last 1 hz]
theorem fields3 {x y z : List UInt8} {c : UInt8} {i j k : Nat} (hc : digR c.toNat = false) (hx : x.length = i ∧ alldig x = true) (hy : y.length = j ∧ alldig y = true) (hz : z.length = k ∧ alldig z = true) (h1 : 1 ≤ i) :
    fieldsS c [i, j, k] (x ++ c :: (y ++ c :: z)) = some [val x, val y, val z] := by
  have hs := split3 (alldig_no hx.2 hc) (alldig_no hy.2 hc) (alldig_no hz.2 hc) (by simp; omega)
  unfold fieldsS
  rw [hs]
  simp [hx.1, hy.1, hz.1, hx.2, hy.2, hz.2]

/-! ### Clocks -/
theorem full_back {n : Int} (h0 : 0 ≤ n) (h1 : n ≤ 86400) : fullS (fullTS n) = some n := by
  have e1 : n.tdiv 3600 = n / 3600 := Int.tdiv_eq_ediv_of_nonneg h0
  have e2 : (n.tdiv 60).tmod 60 = n / 60 % 60 := by rw [Int.tdiv_eq_ediv_of_nonneg h0, Int.tmod_eq_emod_of_nonneg (by omega)]
  have e3 : n.tmod 60 = n % 60 := Int.tmod_eq_emod_of_nonneg h0
  unfold fullS fullTS
  rw [e1, e2, e3]
  obtain ⟨a1, a2, a3⟩ := pad2_len (n := n / 3600) (by omega) (by omega)
  obtain ⟨b1, b2, b3⟩ := pad2_len (n := n / 60 % 60) (by omega) (by omega)
  obtain ⟨c1, c2, c3⟩ := pad2_len (n := n % 60) (by omega) (by omega)
  rw [fields3 (by decide) ⟨a1, a2⟩ ⟨b1, b2⟩ ⟨c1, c2⟩ (by omega), a3, b3, c3]
  simp only
  rw [if_pos (by omega)]
  congr 1
  omega
theorem full_len {n : Int} (h0 : 0 ≤ n) (h1 : n < 360000) : ∃ a b c d e f, a < 10 ∧ b < 10 ∧ c < 10 ∧ d < 10 ∧ e < 10 ∧ f < 10 ∧ fullTS n = [dg a, dg b, 58, dg c, dg d, 58, dg e, dg f] ∧ (n % 60 = 0 ↔ e = 0 ∧ f = 0) := by
  have e1 : n.tdiv 3600 = n / 3600 := Int.tdiv_eq_ediv_of_nonneg h0
  have e2 : (n.tdiv 60).tmod 60 = n / 60 % 60 := by rw [Int.tdiv_eq_ediv_of_nonneg h0, Int.tmod_eq_emod_of_nonneg (by omega)]
  have e3 : n.tmod 60 = n % 60 := Int.tmod_eq_emod_of_nonneg h0
  refine ⟨(n / 3600).toNat / 10, (n / 3600).toNat % 10, (n / 60 % 60).toNat / 10, (n / 60 % 60).toNat % 10, (n % 60).toNat / 10, (n % 60).toNat % 10, by omega, by omega, by omega, by omega, by omega, by omega, ?_, by omega⟩
  unfold fullTS
  rw [e1, e2, e3, pad2 (n := n / 3600) (by omega) (by omega), pad2 (n := n / 60 % 60) (by omega) (by omega), pad2 (n := n % 60) (by omega) (by omega)]
  rfl
theorem dg_inj {a b : Nat} (ha : a < 10) (hb : b < 10) (h : dg a = dg b) : a = b := by
  have := congrArg UInt8.toNat h
  rw [dg_nat ha, dg_nat hb] at this
  omega
theorem clock_form {n : Int} (h0 : 0 ≤ n) (h1 : n < 360000) :
    (n % 60 = 0 ∧ ∃ a b c d, a < 10 ∧ b < 10 ∧ c < 10 ∧ d < 10 ∧ clockTS n = [dg a, dg b, 58, dg c, dg d] ∧ fullTS n = clockTS n ++ [58, 48, 48]) ∨
    (n % 60 ≠ 0 ∧ clockTS n = fullTS n) := by
  obtain ⟨a, b, c, d, e, f, ha, hb, hc, hd, he, hf, hl, hz⟩ := full_len h0 h1
  unfold clockTS trimSuffix hasSuffix
  by_cases h : n % 60 = 0
  · obtain ⟨rfl, rfl⟩ := hz.1 h
    refine .inl ⟨h, a, b, c, d, ha, hb, hc, hd, ?_⟩
    have e48 : dg 0 = 48 := by decide
    rw [hl, e48]
    have hs : ([58, 48, 48] : List UInt8).isSuffixOf [dg a, dg b, 58, dg c, dg d, 58, 48, 48] = true := by simp [List.isSuffixOf, List.isPrefixOf]
    rw [if_pos hs]
    exact ⟨rfl, rfl⟩
  · refine .inr ⟨h, ?_⟩
    rw [hl]
    have hs : ([58, 48, 48] : List UInt8).isSuffixOf [dg a, dg b, 58, dg c, dg d, 58, dg e, dg f] = false := by
      rw [Bool.eq_false_iff]
      intro hh
      have e48 : (48 : UInt8) = dg 0 := by decide
      simp only [List.isSuffixOf, List.isPrefixOf, List.reverse_cons, List.reverse_nil, List.nil_append, List.cons_append, Bool.and_eq_true, beq_iff_eq] at hh
      rw [e48] at hh
      exact h (hz.2 ⟨(dg_inj (by omega) he hh.2.1).symm, (dg_inj (by omega) hf hh.1).symm⟩)
    rw [if_neg (by rw [hs]; decide)]
theorem clock_back {n : Int} (h0 : 0 ≤ n) (h1 : n ≤ 86400) : clockS (clockTS n) = some n := by
  unfold clockS
  rcases clock_form h0 (by omega) with ⟨hz, a, b, c, d, _, _, _, _, e1, e2⟩ | ⟨hz, e1⟩
  · rw [if_pos (by rw [e1]; rfl), ← e2]
    exact full_back h0 h1
  · obtain ⟨a, b, c, d, e, f, _, _, _, _, _, _, hl, _⟩ := full_len h0 (show n < 360000 by omega)
    rw [e1, if_neg (by rw [hl]; simp)]
    exact full_back h0 h1

/-! ### Dates -/
theorem date_back {y m d : Int} (h : Civ.vld y m d) : dateS (dTS y m d) = some (Civ.num y m d) := by
  have hb := Civ.vldB_iff.2 h
  obtain ⟨h1, h2, h3, h4, h5, h6⟩ := h
  have := Civ.dim_bd y m
  obtain ⟨a1, a2, a3⟩ := pad4_len (n := y) (by omega) (by omega)
  obtain ⟨b1, b2, b3⟩ := pad2_len (n := m) (by omega) (by omega)
  obtain ⟨c1, c2, c3⟩ := pad2_len (n := d) (by omega) (by omega)
  unfold dateS dTS
  rw [fields3 (by decide) ⟨a1, a2⟩ ⟨b1, b2⟩ ⟨c1, c2⟩ (by omega), a3, b3, c3]
  simp only
  rw [Int.toNat_of_nonneg (by omega), Int.toNat_of_nonneg (by omega), Int.toNat_of_nonneg (by omega), if_pos hb]
theorem date_len {y m d : Int} (h : Civ.vld y m d) : ∃ a b c e x, a < 10 ∧ b < 10 ∧ c < 10 ∧ e < 10 ∧ dTS y m d = dg a :: dg b :: dg c :: dg e :: 45 :: x ∧ x.length = 5 ∧ (84 : UInt8) ∉ dTS y m d ∧ (∀ q ∈ x, digR q.toNat = true ∨ q = 45) := by
  obtain ⟨h1, h2, h3, h4, h5, h6⟩ := h
  have := Civ.dim_bd y m
  obtain ⟨b1, b2, _⟩ := pad2_len (n := m) (by omega) (by omega)
  obtain ⟨c1, c2, _⟩ := pad2_len (n := d) (by omega) (by omega)
  obtain ⟨a1, a2, _⟩ := pad4_len (n := y) (by omega) (by omega)
  refine ⟨y.toNat / 1000, y.toNat / 100 % 10, y.toNat / 10 % 10, y.toNat % 10, padS m 2 ++ 45 :: padS d 2, by omega, by omega, by omega, by omega, ?_, by simp; omega, ?_, ?_⟩
  · unfold dTS
    rw [pad4 (n := y) (by omega) (by omega)]
    rfl
  · unfold dTS
    have n1 := alldig_no a2 (c := 84) (by decide)
    have n2 := alldig_no b2 (c := 84) (by decide)
    have n3 := alldig_no c2 (c := 84) (by decide)
    simp [n1, n2, n3]
  · intro q hq
    simp only [List.mem_append, List.mem_cons] at hq
    rcases hq with hq | rfl | hq
    · exact .inl (List.all_eq_true.1 b2 q hq)
    · exact .inr rfl
    · exact .inl (List.all_eq_true.1 c2 q hq)

/-! ### Tokens of words -/
theorem name_no {b : UInt8} {t : List UInt8} (h : lowR b.toNat = false) : nameS (b :: t) = false := by simp [nameS, h]
theorem low_dg {k : Nat} (h : k < 10) : lowR (dg k).toNat = false := by rw [dg_nat h]; simp [lowR]; omega
theorem nDigits_le : ∀ (k u : Nat), 1 ≤ k → u < 10 ^ k → nDigits u ≤ k
  | 0, _, h, _ => absurd h (by decide)
  | k + 1, u, _, hu => by
    by_cases h : u < 10
    · rw [nDigits_small h]; omega
    · rw [nDigits_big h]
      cases k with
      | zero => simp at hu; omega
      | succ k =>
        have := nDigits_le (k + 1) (u / 10) (by omega) (by rw [Nat.pow_succ] at hu ⊢; omega)
        omega
theorem tok_number {n : Int} (h0 : 0 ≤ n) (h1 : n ≤ 999999999) : tokS (itoa n) = some (1, [], n) ∧ nameS (itoa n) = false ∧ (itoa n).length ≤ 9 := by
  have e : itoa n = decDigits n.toNat := by unfold itoa; rw [if_neg (by omega)]
  have hd := dec_dig n.toNat
  have hp := dec_len_pos n.toNat
  have hl : (decDigits n.toNat).length ≤ 9 := by
    rw [decDigits_length]
    exact nDigits_le 9 n.toNat (by decide) (by omega)
  rw [e]
  have hn : nameS (decDigits n.toNat) = false := by
    cases hc : decDigits n.toNat with
    | nil => rfl
    | cons b t =>
      rw [hc] at hd
      simp only [alldig, List.all_cons, Bool.and_eq_true] at hd
      refine name_no ?_
      have := hd.1
      simp only [digR, lowR, Bool.and_eq_true, decide_eq_true_eq, Bool.and_eq_false_iff, decide_eq_false_iff_not] at this ⊢
      omega
  refine ⟨?_, hn, hl⟩
  unfold tokS
  rw [if_neg (by rw [hn]; decide), if_pos (lead_all.2 hd)]
  unfold numS
  rw [val_dec, if_pos]
  · simp only [Option.map_some]
    rw [Int.toNat_of_nonneg h0]
  · refine ⟨fun e => by rw [e] at hp; simp at hp, hl, ?_⟩
    by_cases hz : n.toNat = 0
    · left
      rw [hz, decDigits, dif_pos (by omega)]
      rfl
    · right
      exact dec_head _ (by omega)
theorem tok_clock {n : Int} (h0 : 0 ≤ n) (h1 : n ≤ 86400) : tokS (clockTS n) = some (2, [], n) ∧ nameS (clockTS n) = false ∧ (clockTS n).length ≤ 8 := by
  have hb := clock_back h0 h1
  have key : ∃ a b x, a < 10 ∧ b < 10 ∧ clockTS n = dg a :: dg b :: 58 :: x ∧ x.length ≤ 5 := by
    rcases clock_form h0 (show n < 360000 by omega) with ⟨_, a, b, c, d, ha, hb, _, _, e, _⟩ | ⟨_, e⟩
    · exact ⟨a, b, _, ha, hb, e, by simp⟩
    · obtain ⟨a, b, c, d, e', f, ha, hb, _, _, _, _, hl, _⟩ := full_len h0 (show n < 360000 by omega)
      exact ⟨a, b, _, ha, hb, e.trans hl, by simp⟩
  obtain ⟨a, b, x, ha, hb', e, hx⟩ := key
  have hn : nameS (clockTS n) = false := by rw [e]; exact name_no (low_dg ha)
  refine ⟨?_, hn, by rw [e]; simp; omega⟩
  have hl : lead (clockTS n) = 2 := by
    rw [e]
    simp only [lead, dg_dig ha, dg_dig hb', if_true]
    rw [if_neg (by decide)]
  unfold tokS
  rw [if_neg (by rw [hn]; decide), if_neg (by rw [hl, e]; simp), if_pos hl, hb]
  rfl
theorem tok_date {y m d : Int} (h : Civ.vld y m d) : tokS (dTS y m d) = some (3, [], Civ.num y m d) ∧ nameS (dTS y m d) = false ∧ (dTS y m d).length = 10 := by
  obtain ⟨a, b, c, e', x, ha, hb, hc, he, e, hx, hT, _⟩ := date_len h
  have hn : nameS (dTS y m d) = false := by rw [e]; exact name_no (low_dg ha)
  refine ⟨?_, hn, by rw [e]; simp; omega⟩
  have hl : lead (dTS y m d) = 4 := by
    rw [e]
    simp only [lead, dg_dig ha, dg_dig hb, dg_dig hc, dg_dig he, if_true]
    rw [if_neg (by decide)]
  unfold tokS
  rw [if_neg (by rw [hn]; decide), if_neg (by rw [hl, e]; simp), if_neg (by omega), if_neg (fun hh => hT hh.2), if_pos hl, date_back h]
  rfl
theorem off_lead {b : UInt8} {x : List UInt8} (h : digR b.toNat = false) : lead (b :: x) = 0 := by simp [lead, h]
theorem tok_offset {n : Int} (h0 : -64800 ≤ n) (h1 : n ≤ 64800) (h2 : n % 60 = 0) : tokS (offTS n) = some (4, [], n) ∧ nameS (offTS n) = false ∧ (offTS n).length = 6 := by
  have key : ∀ (b : UInt8) (k : Int), 0 ≤ k → k ≤ 64800 → k % 60 = 0 → (b = 43 ∨ b = 45) → tokS (b :: clockTS k) = some (4, [], if b = 43 then k else -k) ∧ nameS (b :: clockTS k) = false ∧ (b :: clockTS k).length = 6 := by
    intro b k k0 k1 k2 hb
    have hc := clock_back k0 (show k ≤ 86400 by omega)
    have h5 : (clockTS k).length = 5 := by
      rcases clock_form k0 (show k < 360000 by omega) with ⟨_, a, b, c, d, _, _, _, _, e, _⟩ | ⟨hz, _⟩
      · rw [e]; rfl
      · exact absurd k2 hz
    have hn : nameS (b :: clockTS k) = false := by rcases hb with rfl | rfl <;> exact name_no (by decide)
    refine ⟨?_, hn, by simp [h5]⟩
    have hl : lead (b :: clockTS k) = 0 := by rcases hb with rfl | rfl <;> exact off_lead (by decide)
    unfold tokS
    rw [if_neg (by rw [hn]; decide), if_neg (by rw [hl]; simp), if_neg (by omega), if_neg (by omega), if_neg (by omega), if_pos hl]
    unfold offS
    rw [if_pos (by simp [h5])]
    simp only [List.drop_succ_cons, List.drop_zero, hc, List.head?_cons]
    rw [if_pos k1]
    rcases hb with rfl | rfl
    · simp
    · simp
  unfold offTS
  by_cases hn : n < 0
  · rw [if_pos hn]
    have := key 45 (-n) (by omega) (by omega) (by omega) (.inr rfl)
    simpa using this
  · rw [if_neg hn]
    have := key 43 n (by omega) (by omega) (by omega) (.inl rfl)
    simpa using this
theorem cut_at {a b : List UInt8} {c : UInt8} (h : c ∉ a) : cut (a ++ c :: b) [c] = (a, b, true) := by
  unfold cut
  rw [index_at h, if_pos (by omega)]
  simp
theorem cut_no {a : List UInt8} {c : UInt8} (h : c ∉ a) : cut a [c] = (a, [], false) := by
  unfold cut
  rw [index_none1 h, if_neg (by omega)]
theorem suffix_one (a : List UInt8) (c : UInt8) : hasSuffix (a ++ [c]) [c] = true ∧ trimSuffix (a ++ [c]) [c] = a := by
  have : hasSuffix (a ++ [c]) [c] = true := by simp [hasSuffix, List.isSuffixOf_iff_suffix]
  refine ⟨this, ?_⟩
  unfold trimSuffix
  rw [if_pos this]
  simp
theorem tok_instant {y m d n : Int} (h : Civ.vld y m d) (h0 : 0 ≤ n) (h1 : n < 86400) : tokS (instTS y m d n) = some (5, [], Civ.num y m d * 86400 + n) ∧ nameS (instTS y m d n) = false ∧ (instTS y m d n).length = 20 := by
  obtain ⟨a, b, c, e', x, ha, hb, hc, he, e, hx, hT, _⟩ := date_len h
  obtain ⟨f1, f2, f3, f4, f5, f6, _, _, _, _, _, _, hf, _⟩ := full_len h0 (show n < 360000 by omega)
  have e2 : instTS y m d n = (dTS y m d ++ 84 :: fullTS n) ++ [90] := by unfold instTS; simp
  have e3 : ∃ z, instTS y m d n = dg a :: dg b :: dg c :: dg e' :: 45 :: z ∧ z.length = 15 ∧ (84 : UInt8) ∈ instTS y m d n := by
    refine ⟨x ++ 84 :: (fullTS n ++ [90]), ?_, by simp [hx, hf], ?_⟩
    · unfold instTS; rw [e]; rfl
    · unfold instTS; simp
  obtain ⟨z, e4, hz, hm⟩ := e3
  have hn : nameS (instTS y m d n) = false := by rw [e4]; exact name_no (low_dg ha)
  refine ⟨?_, hn, by rw [e4]; simp; omega⟩
  have hl : lead (instTS y m d n) = 4 := by
    rw [e4]
    simp only [lead, dg_dig ha, dg_dig hb, dg_dig hc, dg_dig he, if_true]
    rw [if_neg (by decide)]
  have hi : instS (instTS y m d n) = some (Civ.num y m d * 86400 + n) := by
    unfold instS
    rw [e2, (suffix_one _ 90).2, cut_at hT]
    simp only
    rw [date_back h, full_back h0 (by omega)]
    simp only
    rw [if_pos ⟨(suffix_one _ 90).1, h1⟩]
  unfold tokS
  rw [if_neg (by rw [hn]; decide), if_neg (by rw [hl, e4]; simp), if_neg (by omega), if_pos ⟨hl, hm⟩, hi]
  rfl
end Lx
