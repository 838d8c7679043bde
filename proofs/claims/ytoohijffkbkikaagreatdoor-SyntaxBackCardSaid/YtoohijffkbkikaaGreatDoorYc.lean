/- Every token that is read has a word: the shortest one, which a line may hold and which is read as this token. -/
import Derived.Test.YtoohijffkbkikaaGreatDoorLsm
import Derived.Lib.Join
set_option linter.unusedVariables false
set_option maxRecDepth 100000
namespace Lx
open Go Go.Lib Go.Proofs.YtoohijffkbkikaaGreatDoor
/-- The bytes of words but for names. -/
def wch (b : UInt8) : Bool := digR b.toNat || b == 43 || b == 45 || b == 58 || b == 84 || b == 90
theorem wch_dg {k : Nat} (h : k < 10) : wch (dg k) = true := by unfold wch; rw [dg_dig h]; rfl
theorem wch_dig {b : UInt8} (h : digR b.toNat = true) : wch b = true := by unfold wch; rw [h]; rfl
theorem okW_wch {l : List UInt8} (h : l.all wch = true) (h1 : l ≠ []) (h2 : l.length ≤ 24) : okW l = true := by
  unfold okW
  have e1 : l.isEmpty = false := by cases l <;> simp_all
  rw [e1, decide_eq_true h2]
  simp only [Bool.not_false, Bool.true_and, List.all_eq_true] at h ⊢
  intro b hb
  have hw := h b hb
  have key : b.toNat = b.toNat := rfl
  have n32 : (b == 32) = false := by
    rw [beq_eq_false_iff_ne]
    rintro rfl
    exact absurd hw (by decide)
  have n35 : (b == 35) = false := by
    rw [beq_eq_false_iff_ne]
    rintro rfl
    exact absurd hw (by decide)
  rw [n32, n35]
  unfold wch at hw
  simp only [Bool.or_eq_true, digR, Bool.and_eq_true, decide_eq_true_eq, beq_iff_eq] at hw
  simp only [prB, Bool.not_false, Bool.and_true, Bool.and_eq_true, decide_eq_true_eq]
  rcases hw with ((((hw | rfl) | rfl) | rfl) | rfl) | rfl
  · omega
  all_goals decide
theorem okW_name {l : List UInt8} (h : nameS l = true) : okW l = true := by
  cases l with
  | nil => cases h
  | cons b t =>
    unfold nameS at h
    simp only [Bool.and_eq_true, decide_eq_true_eq] at h
    obtain ⟨⟨h1, h2⟩, h3⟩ := h
    unfold okW
    rw [decide_eq_true h1]
    simp only [List.isEmpty_cons, Bool.not_false, Bool.true_and]
    refine List.all_eq_true.2 fun c hc => ?_
    have hn := List.all_eq_true.1 h3 c hc
    have n32 : (c == 32) = false := by
      rw [beq_eq_false_iff_ne]
      rintro rfl
      exact absurd hn (by decide)
    have n35 : (c == 35) = false := by
      rw [beq_eq_false_iff_ne]
      rintro rfl
      exact absurd hn (by decide)
    rw [n32, n35]
    simp only [othR, Bool.not_eq_true', Bool.and_eq_false_iff, Bool.not_eq_false', lowR, digR, Bool.and_eq_true, decide_eq_true_eq, beq_iff_eq] at hn
    simp only [prB, Bool.not_false, Bool.and_true, Bool.and_eq_true, decide_eq_true_eq]
    omega
theorem full_wch {n : Int} (h0 : 0 ≤ n) (h1 : n < 360000) : (fullTS n).all wch = true ∧ (fullTS n).length = 8 := by
  obtain ⟨a, b, c, d, e, f, ha, hb, hc, hd, he, hf, hl, _⟩ := full_len h0 h1
  rw [hl]
  simp [wch_dg ha, wch_dg hb, wch_dg hc, wch_dg hd, wch_dg he, wch_dg hf, show wch 58 = true from rfl]
theorem clock_wch {n : Int} (h0 : 0 ≤ n) (h1 : n < 360000) : (clockTS n).all wch = true ∧ 5 ≤ (clockTS n).length ∧ (clockTS n).length ≤ 8 := by
  rcases clock_form h0 h1 with ⟨_, a, b, c, d, ha, hb, hc, hd, hl, _⟩ | ⟨_, hl⟩
  · rw [hl]
    simp [wch_dg ha, wch_dg hb, wch_dg hc, wch_dg hd, show wch 58 = true from rfl]
  · rw [hl]
    have := full_wch h0 h1
    exact ⟨this.1, by omega, by omega⟩
theorem date_wch {y m d : Int} (h : Civ.vld y m d) : (dTS y m d).all wch = true ∧ (dTS y m d).length = 10 := by
  obtain ⟨a, b, c, e', x, ha, hb, hc, he, e, hx, _, hq⟩ := date_len h
  have hx2 : x.all wch = true := List.all_eq_true.2 fun q hm => by
    rcases hq q hm with h | rfl
    · exact wch_dig h
    · rfl
  rw [e]
  simp only [List.all_cons, wch_dg ha, wch_dg hb, wch_dg hc, wch_dg he, hx2, show wch 45 = true from rfl, Bool.and_self, List.length_cons, hx, true_and]
theorem digits_wch {l : List UInt8} (h : alldig l = true) : l.all wch = true := List.all_eq_true.2 fun b hb => wch_dig (List.all_eq_true.1 h b hb)
theorem date_some {l : List UInt8} {n : Int} (h : dateS l = some n) : ∃ y m d : Int, Civ.vld y m d ∧ Civ.num y m d = n := by
  unfold dateS at h
  split at h
  · split at h
    · rename_i hv
      cases h
      exact ⟨_, _, _, Civ.vldB_iff.1 hv, rfl⟩
    · cases h
  · cases h
theorem clock_some {l : List UInt8} {n : Int} (h : clockS l = some n) : 0 ≤ n ∧ n ≤ 86400 := by
  unfold clockS at h
  obtain ⟨_, _, _, _, _, _, _, _, h0, h1⟩ := full_some h
  exact ⟨h0, h1⟩
end Lx
namespace Go.Proofs.YtoohijffkbkikaaGreatDoor
open Go.RowKit
set_option linter.unusedSimpArgs false
/-- The word of a token. -/
structure TextIs (t : Lx.Tk) (s : List UInt8) : Prop where
  spell : SpellIs t.1 t.2.1 t.2.2 s
  back : Lx.tokS s = some t
  ok : okW s = true
  iK : I64 t.1
  lo : -9223372036854775807 ≤ t.2.2
  hi : t.2.2 ≤ 9223372036854775807
theorem TextIs.of_good {K N : Int} {s : List UInt8} (g : GoodTok K N s) (h : okW s = true) : TextIs (K, [], N) s := ⟨g.spell, g.back, h, g.iK, g.lo, g.hi⟩
theorem splitK_ne {c : UInt8} : ∀ (k : Nat) (l : List UInt8), Lib.splitK [c] 0 k l ≠ []
  | 0, l => by simp [Lib.splitK]
  | k + 1, l => by unfold Lib.splitK; split <;> simp
/-- hh:mm:ss with the seconds 00. -/
theorem fields_last0 {x : List UInt8} {h m s : Nat} (hx : x.length = 5) (hf : Lx.fieldsS 58 [2, 2, 2] (x ++ [58, 48, 48]) = some [h, m, s]) : s = 0 := by
  obtain ⟨h1, h2, h3⟩ := Lx.fields_some hf
  have go : ∀ (n : Nat) (l : List UInt8), l.length ≤ n → ∀ k, (∀ P, Lib.splitK [58] 0 k (l ++ [58, 48, 48]) = P → P.getLast? = some [48, 48] ∨ P.getLast? = some ((l ++ [58, 48, 48]).drop ((l ++ [58, 48, 48]).length - (P.getLast?.getD []).length)) ∧ k < P.length + 0 ∧ False ∨ 3 ≤ (P.getLast?.getD []).length) := by
    intro n
    induction n with
    | zero =>
      intro l hl k P hP
      have : l = [] := List.eq_nil_of_length_eq_zero (by omega)
      subst this
      cases k with
      | zero => simp only [Lib.splitK] at hP; subst hP; right; right; simp
      | succ k =>
        have := Lx.splitK_cons (a := []) (b := [48, 48]) (c := 58) k (by simp)
        rw [this, Lx.splitK_last k (by decide)] at hP
        subst hP
        left; rfl
    | succ n ih =>
      intro l hl k P hP
      cases k with
      | zero => simp only [Lib.splitK] at hP; subst hP; right; right; simp
      | succ k =>
        by_cases hm : (58 : UInt8) ∈ l
        · obtain ⟨a, b, rfl, ha⟩ : ∃ a b, l = a ++ 58 :: b ∧ (58 : UInt8) ∉ a := by
            clear ih hl hP
            induction l with
            | nil => cases hm
            | cons c t iht =>
              by_cases hc : c = 58
              · subst hc; exact ⟨[], t, rfl, by simp⟩
              · have hm2 : (58 : UInt8) ∈ t := by
                  simp only [List.mem_cons] at hm
                  rcases hm with h | h
                  · exact absurd h.symm hc
                  · exact h
                obtain ⟨a, b, rfl, ha⟩ := iht hm2
                exact ⟨c :: a, b, rfl, by simp only [List.mem_cons, not_or]; exact ⟨fun e => hc e.symm, ha⟩⟩
          rw [List.append_assoc, List.cons_append, Lx.splitK_cons k ha] at hP
          have hne := splitK_ne (c := 58) k (b ++ [58, 48, 48])
          obtain ⟨Q, hQ⟩ : ∃ Q, Lib.splitK [58] 0 k (b ++ [58, 48, 48]) = Q := ⟨_, rfl⟩
          rw [hQ] at hP hne
          have hlast : P.getLast? = Q.getLast? := by
            rw [← hP]
            cases Q with
            | nil => exact absurd rfl hne
            | cons q r => simp
          rw [hlast]
          rcases ih b (by simp at hl; omega) k Q hQ with h | h | h
          · exact .inl h
          · exact absurd h.2.2 (by simp)
          · exact .inr (.inr h)
        · rw [Lx.splitK_cons k hm, Lx.splitK_last k (by decide)] at hP
          subst hP
          left; simp
  match hp : Lib.splitN (x ++ [58, 48, 48]) [58] 4, h1, h2, h3 with
  | [p, q, r], h1, h2, h3 =>
    simp only [List.map_cons, List.map_nil, List.cons.injEq, and_true] at h1 h3
    have := go 5 x (by omega) _ _ hp
    rcases this with h | h | h
    · simp at h
      rw [← h3.2.2, h]
      decide
    · exact absurd h.2.2 (by simp)
    · simp at h
      omega
theorem clock5_mod {x : List UInt8} {n : Int} (hx : x.length = 5) (h : Lx.clockS x = some n) : n % 60 = 0 := by
  unfold Lx.clockS at h
  rw [if_pos hx] at h
  obtain ⟨a, b, d, hf, _, _, _, hn, _, _⟩ := Lx.full_some h
  have := fields_last0 hx hf
  subst this
  rw [hn]
  omega
theorem tok_text {x : List UInt8} {t : Lx.Tk} (h : Lx.tokS x = some t) : ∃ s, TextIs t s := by
  unfold Lx.tokS at h
  split at h
  · rename_i hn
    cases h
    exact ⟨x, .inl ⟨rfl, rfl⟩, by unfold Lx.tokS; rw [if_pos hn], Lx.okW_name hn, i64_small (by simp), by simp, by simp⟩
  split at h
  · rename_i hl
    cases hs : Lx.numS x with
    | none => rw [hs] at h; cases h
    | some n =>
      rw [hs] at h
      cases h
      obtain ⟨h0, h1⟩ := Lx.numS_bd (Lx.lead_all.1 hl) hs
      obtain ⟨g, hl9⟩ := good_number h0 h1
      refine ⟨_, TextIs.of_good g (Lx.okW_wch ?_ ?_ (by omega))⟩
      · unfold Lib.itoa
        rw [if_neg (by omega)]
        exact Lx.digits_wch (Lx.dec_dig _)
      · unfold Lib.itoa
        rw [if_neg (by omega)]
        intro e
        have := Lx.dec_len_pos n.toNat
        rw [e] at this
        simp at this
  split at h
  · cases hs : Lx.clockS x with
    | none => rw [hs] at h; cases h
    | some n =>
      rw [hs] at h
      cases h
      obtain ⟨h0, h1⟩ := Lx.clock_some hs
      obtain ⟨a, b, c⟩ := Lx.clock_wch h0 (show n < 360000 by omega)
      exact ⟨_, TextIs.of_good (good_clock h0 h1).1 (Lx.okW_wch a (fun e => by rw [e] at b; simp at b) (by omega))⟩
  split at h
  · cases hs : Lx.instS x with
    | none => rw [hs] at h; cases h
    | some n =>
      rw [hs] at h
      cases h
      unfold Lx.instS at hs
      split at hs
      · rename_i D S hD hS
        split at hs
        · rename_i hc
          cases hs
          obtain ⟨y, m, d, hv, rfl⟩ := Lx.date_some hD
          obtain ⟨_, _, _, _, _, _, _, _, s0, _⟩ := Lx.full_some hS
          have hb := (Civ.num_bd hv).2.2.2.2
          have e1 : (Civ.num y m d * 86400 + S).tdiv 86400 = Civ.num y m d := by rw [Int.tdiv_eq_ediv_of_nonneg (by omega)]; omega
          have e2 : (Civ.num y m d * 86400 + S).tmod 86400 = S := by rw [Int.tmod_eq_emod_of_nonneg (by omega)]; omega
          obtain ⟨a, b, c⟩ := Lx.tok_instant hv s0 hc.2
          have hd := Lx.date_wch hv
          have hf := Lx.full_wch s0 (show S < 360000 by omega)
          refine ⟨Lx.instTS y m d S, ⟨.inr (.inr (.inr (.inr (.inr (.inl ⟨rfl, y, m, d, .inl ⟨hv, ?_⟩, ?_⟩))))), a, Lx.okW_wch ?_ ?_ (by omega), i64_small (by simp), ?_, ?_⟩⟩
          · simp only; exact e1.symm
          · simp only; rw [e2]
          · unfold Lx.instTS
            simp only [List.all_append, List.all_cons, List.all_nil, hd.1, hf.1, show Lx.wch 84 = true from rfl, show Lx.wch 90 = true from rfl, Bool.and_self]
          · intro e; rw [e] at c; simp at c
          · simp only; omega
          · simp only; omega
        · cases hs
      · cases hs
  split at h
  · cases hs : Lx.dateS x with
    | none => rw [hs] at h; cases h
    | some n =>
      rw [hs] at h
      cases h
      obtain ⟨y, m, d, hv, rfl⟩ := Lx.date_some hs
      have hb := (Civ.num_bd hv).2.2.2.2
      obtain ⟨a, b, c⟩ := Lx.tok_date hv
      have hd := Lx.date_wch hv
      exact ⟨Lx.dTS y m d, ⟨.inr (.inr (.inr (.inl ⟨rfl, y, m, d, .inl ⟨hv, rfl⟩, rfl⟩))), a, Lx.okW_wch hd.1 (fun e => by rw [e] at c; simp at c) (by omega), i64_small (by simp), by simp only; omega, by simp only; omega⟩⟩
  split at h
  · cases hs : Lx.offS x with
    | none => rw [hs] at h; cases h
    | some n =>
      rw [hs] at h
      cases h
      unfold Lx.offS at hs
      split at hs
      · rename_i h6
        split at hs
        · rename_i k hk
          have hk0 := Lx.clock_some hk
          have hm := clock5_mod (by rw [List.length_drop, h6]) hk
          have hn : -64800 ≤ n ∧ n ≤ 64800 ∧ n % 60 = 0 := by
            split at hs
            · split at hs
              · cases hs; omega
              · split at hs
                · cases hs; omega
                · cases hs
            · cases hs
          obtain ⟨g, hl⟩ := good_offset hn.1 hn.2.1 hn.2.2
          refine ⟨_, TextIs.of_good g (Lx.okW_wch ?_ (fun e => by rw [e] at hl; simp at hl) (by omega))⟩
          unfold Lx.offTS
          split
          · have := Lx.clock_wch (n := -n) (by omega) (by omega)
            simp only [List.all_cons, this.1, show Lx.wch 45 = true from rfl, Bool.and_self]
          · have := Lx.clock_wch (n := n) (by omega) (by omega)
            simp only [List.all_cons, this.1, show Lx.wch 43 = true from rfl, Bool.and_self]
        · cases hs
      · cases hs
  · cases h
/-- Words of tokens. -/
def TextsAre (ts : List Lx.Tk) (ws : List (List UInt8)) : Prop := ts.length = ws.length ∧ ∀ (k : Nat) (t : Lx.Tk) (s : List UInt8), ts[k]? = some t → ws[k]? = some s → TextIs t s
theorem texts_ex : ∀ {xs : List (List UInt8)} {ts : List Lx.Tk}, Lx.toksS xs = some ts → ∃ ws, TextsAre ts ws
  | [], ts, h => by cases h; exact ⟨[], rfl, fun k t s h => by simp at h⟩
  | x :: xs, ts, h => by
    cases hx : Lx.tokS x with
    | none => rw [Lx.toks_none hx] at h; cases h
    | some t =>
      rw [Lx.toks_some hx] at h
      cases hr : Lx.toksS xs with
      | none => rw [hr] at h; cases h
      | some r =>
        rw [hr] at h
        cases h
        obtain ⟨s, hs⟩ := tok_text hx
        obtain ⟨ws, hl, hw⟩ := texts_ex hr
        refine ⟨s :: ws, by simp [hl], fun k t' s' h1 h2 => ?_⟩
        cases k with
        | zero => simp at h1 h2; subst h1; subst h2; exact hs
        | succ k => exact hw k t' s' (by simpa using h1) (by simpa using h2)
theorem TextsAre.tail {t : Lx.Tk} {ts : List Lx.Tk} {s : List UInt8} {ws : List (List UInt8)} (h : TextsAre (t :: ts) (s :: ws)) : TextIs t s ∧ TextsAre ts ws :=
  ⟨h.2 0 t s rfl rfl, by have := h.1; simp at this; exact this, fun k t' s' h1 h2 => h.2 (k + 1) t' s' (by simpa using h1) (by simpa using h2)⟩
theorem TextsAre.back : ∀ {ts : List Lx.Tk} {ws : List (List UInt8)}, TextsAre ts ws → Lx.toksS ws = some ts ∧ ∀ x ∈ ws, okW x = true
  | [], [], _ => ⟨rfl, fun x hx => by cases hx⟩
  | [], s :: ws, h => absurd h.1 (by simp)
  | t :: ts, [], h => absurd h.1 (by simp)
  | t :: ts, s :: ws, h => by
    obtain ⟨h1, h2⟩ := h.tail
    obtain ⟨a, b⟩ := TextsAre.back h2
    refine ⟨by rw [Lx.toks_some h1.back, a]; rfl, fun x hx => ?_⟩
    simp only [List.mem_cons] at hx
    rcases hx with rfl | hx
    · exact h1.ok
    · exact b x hx
/-- The line of words, joined by single spaces. -/
theorem join_joinS : ∀ (ws : List (List UInt8)), ws ≠ [] → Lx.joinS 1 ws = 32 :: Lib.join ws [32]
  | [], h => absurd rfl h
  | x :: ws, _ => by
    rw [Lib.join_cons, Lx.joinS_cons]
    have : ∀ r : List (List UInt8), Lx.joinS 1 r = Lib.joinTail [32] r := by
      intro r
      induction r with
      | nil => rfl
      | cons y r ih => rw [Lx.joinS_cons, ih]; simp [Lib.joinTail]
    rw [this]
    rfl
theorem line_cons {l : List UInt8} (h : (35 : UInt8) ∉ l) : Lx.lineS (32 :: l) = Lx.lineS l := by
  unfold Lx.lineS
  rw [Lx.prn_cons, show Lx.prB 32 = true from by decide, Bool.true_and, Lx.cut_no h, Lx.cut_no (a := 32 :: l) (by simp only [List.mem_cons, not_or]; exact ⟨by decide, h⟩)]
  simp only
  unfold Lib.fields
  rw [Lx.fg_space]
  rfl
theorem TextsAre.line {ts : List Lx.Tk} {ws : List (List UInt8)} (h : TextsAre ts ws) : Lx.lineS (Lib.join ws [32]) = some ts ∧ (10 : UInt8) ∉ Lib.join ws [32] ∧ (Lib.join ws [32]).length ≤ ws.length * 25 := by
  obtain ⟨a, b⟩ := h.back
  cases hw : ws with
  | nil =>
    subst hw
    refine ⟨?_, by simp [Lib.join_nil], by simp [Lib.join_nil]⟩
    rw [← a]
    rfl
  | cons x r =>
    have hj := join_joinS ws (by rw [hw]; simp)
    obtain ⟨p1, p2, p3⟩ := Lx.join_prn 1 ws b
    have hl := Lx.line_join (n := 1) (by decide) b
    rw [← hw]
    rw [hj] at p1 p2 p3 hl
    rw [Lx.prn_cons] at p1
    simp only [List.mem_cons, not_or, Bool.and_eq_true, List.length_cons] at p1 p2 p3
    rw [line_cons p2.2, a] at hl
    refine ⟨hl, fun hm => ?_, by omega⟩
    have := List.all_eq_true.1 p1.2 10 hm
    exact absurd this (by decide)
end Go.Proofs.YtoohijffkbkikaaGreatDoor
