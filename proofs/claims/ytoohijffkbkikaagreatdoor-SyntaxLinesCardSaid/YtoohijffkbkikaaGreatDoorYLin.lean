/- The law SyntaxLines returns true for every list of numbers. -/
import Derived.Test.YtoohijffkbkikaaGreatDoorYe
namespace Go.Proofs.YtoohijffkbkikaaGreatDoor
open Go.RowKit
set_option linter.unusedVariables false
set_option linter.unusedSimpArgs false
set_option maxRecDepth 100000

theorem flat_app (a b : List (List UInt8)) : flat (a ++ b) = flat a ++ flat b := by simp [flat]
theorem flat_count : ∀ (xs : List (List UInt8)), (∀ y ∈ xs, (10 : UInt8) ∉ y) → (flat xs).count 10 = xs.length
  | [], _ => rfl
  | y :: ys, h => by
    have ih := flat_count ys (fun z hz => h z (by simp [hz]))
    show (y ++ [10] ++ flat ys).count 10 = _
    rw [List.count_append, List.count_append, ih, List.count_eq_zero.2 (h y (by simp))]
    simp
    omega
/-- The three ways in which a drawn text may end. -/
theorem end_ways {s : List UInt8} {xs : List (List UInt8)} {x : List UInt8} (h : GT s xs x) :
    (s = [] ∧ s = flat []) ∨ (∃ k, s.length = k + 1 ∧ s[k]? = some 10 ∧ s = flat xs) ∨ (∃ k c, s.length = k + 1 ∧ s[k]? = some c ∧ c ≠ 10 ∧ s ++ [10] = flat (xs ++ [x])) := by
  by_cases hx : x = []
  · subst hx
    have hs : s = flat xs := by rw [h.eq, List.append_nil]
    rcases List.eq_nil_or_concat xs with hn | ⟨ys, y, hy⟩
    · subst hn
      exact .inl ⟨hs, hs⟩
    · right; left
      rw [List.concat_eq_append] at hy
      refine ⟨(flat ys ++ y).length, ?_, ?_, hs⟩
      · rw [hs, hy, flat_snoc]; simp; omega
      · rw [hs, hy, flat_snoc, ← List.append_assoc, List.getElem?_append_right (Nat.le_refl _), Nat.sub_self]
        rfl
  · right; right
    rcases List.eq_nil_or_concat x with hn | ⟨ys, y, hy⟩
    · exact absurd hn hx
    · rw [List.concat_eq_append] at hy
      refine ⟨(flat xs ++ ys).length, y, ?_, ?_, ?_, ?_⟩
      · rw [h.eq, hy]; simp; omega
      · rw [h.eq, hy, ← List.append_assoc, List.getElem?_append_right (Nat.le_refl _), Nat.sub_self]
        rfl
      · rintro rfl
        exact h.last.no10 (by rw [hy]; simp)
      · rw [h.eq, flat_snoc, List.append_assoc]
theorem stm_nothing : Sy.stmS [32, 32, 35, 32, 110, 111, 116, 104, 105, 110, 103] = (0, []) := by kernel_rfl
theorem stm_empty : Sy.stmS [] = (0, []) := by kernel_rfl
theorem stm_wrong : Sy.stmS [119, 114, 111, 110, 103, 32, 108, 105, 110, 101, 32, 104, 101, 114, 101, 32, 55] = (2, []) := by kernel_rfl
/-- What SyntaxLines meets: the statements of a text, of the same with two lines in it that say nothing, and the wrong line. -/
structure LineF (a b : List UInt8) (Z : Nat) (l m : List Sy.St) : Prop where
  first : Sy.parS 0 (Sy.spl [] (a ++ b)) = (0, 0, l)
  second : Sy.parS 0 (Sy.spl [] (a ++ [10, 32, 32, 35, 32, 110, 111, 116, 104, 105, 110, 103, 10] ++ b)) = (0, 0, m)
  wrong : Sy.parS 0 (Sy.spl [] (a ++ [119, 114, 111, 110, 103, 32, 108, 105, 110, 101, 32, 104, 101, 114, 101, 32, 55, 10] ++ b)) = (2, (Z : Int) + 1, [])
  count : a.count 10 = Z
  few : l.length ≤ 20
  same : m.length = l.length
  each : ∀ (k : Nat) (s : Sy.St), l[k]? = some s → ∃ t, m[k]? = some t ∧ t.2 = s.2 ∧ (t.1 = s.1 ∨ t.1 = s.1 + 2) ∧ 0 ≤ s.1 ∧ s.1 ≤ 1000
theorem sts_line : ∀ (xs : List (List UInt8)) (i : Nat), (∀ x ∈ xs, (Sy.stmS x).1 = 0) → ∀ s ∈ sts i xs, (0 : Int) ≤ s.1 ∧ s.1 ≤ i + xs.length
  | [], i, _, s, hs => by cases hs
  | x :: xs, i, h, s, hs => by
    have hr := fun y hy => h y (List.mem_cons_of_mem x hy)
    have ih := sts_line xs (i + 1) hr
    obtain ⟨⟨e, ts⟩, hp⟩ : ∃ p, Sy.stmS x = p := ⟨_, rfl⟩
    have h0 := h x (by simp)
    rw [hp] at h0
    simp only at h0
    subst h0
    have key : ∀ s ∈ sts (i + 1) xs, (0 : Int) ≤ s.1 ∧ s.1 ≤ i + (x :: xs).length := fun s hs => by
      have := ih s hs
      simp at this ⊢
      omega
    by_cases hne : ts = []
    · subst hne
      rw [sts_none hp] at hs
      exact key s hs
    · rw [sts_some hp hne hr] at hs
      simp only [List.mem_cons] at hs
      rcases hs with rfl | hs
      · simp; omega
      · exact key s hs
theorem line_facts {za xb : List (List UInt8)} {x a b : List UInt8} (ha : a = flat za) (hz : ∀ y ∈ za, GL y) (hzl : za.length ≤ 9) (hb : GT b xb x) : ∃ l m, LineF a b za.length l m := by
  have hB : ∀ y ∈ xb ++ [x], GL y := fun y hy => by
    simp only [List.mem_append, List.mem_singleton] at hy
    rcases hy with hy | rfl
    · exact hb.all y hy
    · exact hb.last
  have zok := fun y hy => (hz y hy).ok
  have bok := fun y hy => (hB y hy).ok
  have z10 := fun y hy => (hz y hy).no10
  have sb : Sy.spl [] b = xb ++ [x] := by rw [hb.eq, spl_flat xb x (fun y hy => (hb.all y hy).no10), spl_last hb.last.no10]
  have hab : ∀ y ∈ za ++ (xb ++ [x]), (Sy.stmS y).1 = 0 := fun y hy => by
    simp only [List.mem_append] at hy
    rcases hy with hy | hy
    · exact zok y hy
    · exact bok y (by simpa using hy)
  have hmid : ∀ y ∈ [[], [32, 32, 35, 32, 110, 111, 116, 104, 105, 110, 103]] ++ (xb ++ [x]), (Sy.stmS y).1 = 0 := fun y hy => by
    simp only [List.cons_append, List.nil_append, List.mem_cons] at hy
    rcases hy with rfl | rfl | hy
    · rw [stm_empty]
    · rw [stm_nothing]
    · exact bok y hy
  have hall : ∀ y ∈ za ++ ([[], [32, 32, 35, 32, 110, 111, 116, 104, 105, 110, 103]] ++ (xb ++ [x])), (Sy.stmS y).1 = 0 := fun y hy => by
    rcases List.mem_append.1 hy with hy | hy
    · exact zok y hy
    · exact hmid y hy
  have e1 : sts 0 (za ++ (xb ++ [x])) = sts 0 za ++ sts za.length (xb ++ [x]) := by
    have := sts_app (xs := za) (r := xb ++ [x]) 0 zok bok
    rw [Nat.zero_add] at this
    exact this
  have e2 : sts 0 (za ++ ([[], [32, 32, 35, 32, 110, 111, 116, 104, 105, 110, 103]] ++ (xb ++ [x]))) = sts 0 za ++ shiftL 2 (sts za.length (xb ++ [x])) := by
    have := sts_app (xs := za) (r := [[], [32, 32, 35, 32, 110, 111, 116, 104, 105, 110, 103]] ++ (xb ++ [x])) 0 zok hmid
    rw [Nat.zero_add] at this
    rw [this, ← sts_shift _ _ bok]
    congr 1
    show sts za.length ([] :: [32, 32, 35, 32, 110, 111, 116, 104, 105, 110, 103] :: (xb ++ [x])) = _
    rw [sts_none stm_empty, sts_none stm_nothing]
  refine ⟨sts 0 (za ++ (xb ++ [x])), sts 0 (za ++ ([[], [32, 32, 35, 32, 110, 111, 116, 104, 105, 110, 103]] ++ (xb ++ [x]))), ?_, ?_, ?_, ?_, ?_, ?_, ?_⟩
  · rw [ha, spl_flat za b z10, sb]
    exact par_all 0 hab
  · have e : a ++ [10, 32, 32, 35, 32, 110, 111, 116, 104, 105, 110, 103, 10] ++ b = flat (za ++ [[], [32, 32, 35, 32, 110, 111, 116, 104, 105, 110, 103]]) ++ b := by
      rw [ha, flat_app]; rfl
    rw [e, spl_flat _ b (fun y hy => by
      rcases List.mem_append.1 hy with hy | hy
      · exact z10 y hy
      · simp only [List.mem_cons, List.mem_nil_iff, or_false] at hy
        rcases hy with rfl | rfl
        · simp
        · decide), sb, List.append_assoc]
    exact par_all 0 hall
  · have e : a ++ [119, 114, 111, 110, 103, 32, 108, 105, 110, 101, 32, 104, 101, 114, 101, 32, 55, 10] ++ b = flat (za ++ [[119, 114, 111, 110, 103, 32, 108, 105, 110, 101, 32, 104, 101, 114, 101, 32, 55]]) ++ b := by
      rw [ha, flat_app]; rfl
    rw [e, spl_flat _ b (fun y hy => by
      rcases List.mem_append.1 hy with hy | hy
      · exact z10 y hy
      · simp only [List.mem_cons, List.mem_nil_iff, or_false] at hy
        subst hy
        decide), sb, List.append_assoc, (Sy.par_app za _ 0 zok).1]
    have := Sy.comb_bad (acc := (Sy.parS 0 za).2.2) (r := xb ++ [x]) (i := 0 + za.length) stm_wrong (by decide)
    rw [Nat.zero_add] at this ⊢
    exact this
  · rw [ha]
    exact flat_count za z10
  · have := sts_len _ 0 hab
    have h8 := hb.few
    simp at this ⊢
    omega
  · rw [e1, e2]
    simp [shiftL]
  · intro k s hs
    have hbd := sts_line _ 0 hab s (List.mem_of_getElem? hs)
    have hbd2 : (0 : Int) ≤ s.1 ∧ s.1 ≤ 1000 := by
      have h8 := hb.few
      simp at hbd
      omega
    rw [e1] at hs
    rw [e2]
    by_cases hk : k < (sts 0 za).length
    · rw [List.getElem?_append_left hk] at hs
      rw [List.getElem?_append_left hk]
      exact ⟨s, hs, rfl, .inl rfl, hbd2⟩
    · rw [List.getElem?_append_right (by omega)] at hs
      rw [List.getElem?_append_right (by omega)]
      refine ⟨(s.1 + 2, s.2), ?_, rfl, .inr rfl, hbd2⟩
      unfold shiftL
      rw [List.getElem?_map, hs]
      rfl
theorem keepQ {a1 a2 a3 a4 : Addr} {v1 v2 v3 v4 : Value} {T1 T2 : Option Addr} {ts : List Lx.Tk} {W wc w' : World} (h : wc.cell? a1 = some v1 ∧ wc.cell? a2 = some v2 ∧ wc.cell? a3 = some v3 ∧ wc.cell? a4 = some v4 ∧ ListAt 3 eTok wc T1 ts ∧ ListAt 3 eTok wc T2 ts ∧ Below W.heap.size W wc) (hb : Below wc.heap.size wc w') :
    w'.cell? a1 = some v1 ∧ w'.cell? a2 = some v2 ∧ w'.cell? a3 = some v3 ∧ w'.cell? a4 = some v4 ∧ ListAt 3 eTok w' T1 ts ∧ ListAt 3 eTok w' T2 ts ∧ Below W.heap.size W w' :=
  ⟨cell_lift h.1 hb, cell_lift h.2.1 hb, cell_lift h.2.2.1 hb, cell_lift h.2.2.2.1 hb, h.2.2.2.2.1.below hb, h.2.2.2.2.2.1.below hb, bstep h.2.2.2.2.2.2 hb⟩
theorem sQ1 {a b c d e f g : Prop} (h : a ∧ b ∧ c ∧ d ∧ e ∧ f ∧ g) : e := h.2.2.2.2.1
theorem sQ2 {a b c d e f g : Prop} (h : a ∧ b ∧ c ∧ d ∧ e ∧ f ∧ g) : f := h.2.2.2.2.2.1
theorem sQB {a b c d e f g : Prop} (h : a ∧ b ∧ c ∧ d ∧ e ∧ f ∧ g) : g := h.2.2.2.2.2.2
theorem count_take {l : List UInt8} {k : Nat} {c : UInt8} (h : l[k]? = some c) : (l.take (k + 1)).count 10 = (l.take k).count 10 + if c = 10 then 1 else 0 := by
  rw [take_snoc' h, List.count_append]
  by_cases e : c = 10
  · subst e; simp
  · have h0 : List.count 10 [c] = 0 := List.count_eq_zero.2 (by simp only [List.mem_singleton]; exact fun h => e h.symm)
    rw [if_neg e, h0]
set_option maxHeartbeats 32000000 in
theorem slines_any (A : Option Addr) (n c : Nat) (zs : List Int) (w : World) (hT : LexT w) (hA : NumsAt w A zs) (hn : zs.length = n) (hf : ∀ z ∈ zs, -9223372036854775808 ≤ z ∧ z ≤ 9223372036854775807) :
    Calls Tryz.prog 5 #[.slice A n c] w fun e w' => e = .returned (.bool true) ∧ Below w.heap.size w w' := by
  have HT := Lib.hid hT
  clear hT
  by_cases h5 : n ≤ 500
  · have hl : decide ((n : Int) ≤ 500) = true := by simp; omega
    have D0 := Lib.hid (Dice.start (c := c) hA hn h5 hf)
    clear hA hn hf
    go_enter Tryz.func5, Tryz.ntmps5
    go_wp2_with fail
    refine (Light_any A n c _).mono ?_
    rw [hl]
    rintro e w' ⟨rfl, rfl⟩
    go_wp2_with fail
    refine (Roll_any A n c _).mono ?_
    rintro e w' ⟨rfl, rfl⟩
    go_wp2_with fail
    refine (draw_is w.heap.size n c A zs _ D0.out).mono ?_
    rintro e w1 ⟨L, xa, x1, rfl, hG, hg, D1⟩
    have B1 := Lib.hid (below_of_grown ((Below.refl _ w).alloc (Nat.le_refl _) (.cells #[.slice A n c, .int .i64 0] 52)) hg (by simp) (Nat.le_refl _))
    have hz1 := B1.out.size
    have HG := Lib.hid hG
    have HD1 := Lib.hid D1
    clear hG hg D1 D0 hl
    go_wp2_with fail
    refine (draw_is w.heap.size n c A zs _ HD1.out).mono ?_
    rintro e w2 ⟨M, xb, x2, rfl, hG2, hg2, _⟩
    have B2 := Lib.hid (below_of_grown B1.out hg2 hz1 (Nat.le_refl _))
    have T2 := Lib.hid (HT.out.below B2.out)
    have HG2 := Lib.hid hG2
    have hLz : L.size ≤ 728 := by rw [Lib.size_eq]; exact HG.out.size
    have hMz : M.size ≤ 728 := by rw [Lib.size_eq]; exact HG2.out.size
    clear hG2 hg2 HD1 B1 hz1
    have key : ∃ (La : ByteArray) (za : List (List UInt8)), La.data.toList = flat za ∧ (∀ y ∈ za, GL y) ∧ za.length ≤ 9 ∧ La.size ≤ 729 ∧
        ((L.toList = [] ∧ La = L) ∨ (∃ k, L.size = k + 1 ∧ L.data.toList[k]? = some 10 ∧ La = L) ∨ (∃ k c, L.size = k + 1 ∧ L.data.toList[k]? = some c ∧ c ≠ 10 ∧ L ++ (⟨#[10]⟩ : ByteArray) = La)) := by
      rcases end_ways HG.out with ⟨h1, h2⟩ | ⟨k, h1, h2, h3⟩ | ⟨k, c', h1, h2, h3, h4⟩
      · exact ⟨L, [], h2, (fun y hy => by cases hy), by simp, by omega, .inl ⟨by rw [Lib.toList_data]; exact h1, rfl⟩⟩
      · exact ⟨L, xa, h3, HG.out.all, by have := HG.out.few; omega, by omega, .inr (.inl ⟨k, by rw [Lib.size_eq]; exact h1, h2, rfl⟩)⟩
      · refine ⟨L ++ (⟨#[10]⟩ : ByteArray), xa ++ [x1], by rw [app_data]; exact h4, fun y hy => ?_, by have := HG.out.few; simp; omega, ?_, .inr (.inr ⟨k, c', by rw [Lib.size_eq]; exact h1, h2, h3, rfl⟩)⟩
        · simp only [List.mem_append, List.mem_singleton] at hy
          rcases hy with hy | rfl
          · exact HG.out.all y hy
          · exact HG.out.last
        · rw [Lib.size_eq, app_data, List.length_append, ← Lib.size_eq]
          simp
          omega
    obtain ⟨La, za, hLa, hza, hzl, hLaz, hways⟩ := key
    obtain ⟨l, m, hF⟩ := line_facts hLa hza hzl HG2.out
    obtain ⟨Z, hZ⟩ : ∃ Z, za.length = Z := ⟨_, rfl⟩
    rw [hZ] at hF hzl
    have HF := Lib.hid hF
    obtain ⟨S1, hS1⟩ : ∃ S1, La ++ M = S1 := ⟨_, rfl⟩
    obtain ⟨S2, hS2⟩ : ∃ S2, La ++ (⟨#[10, 32, 32, 35, 32, 110, 111, 116, 104, 105, 110, 103, 10]⟩ : ByteArray) ++ M = S2 := ⟨_, rfl⟩
    obtain ⟨S3, hS3⟩ : ∃ S3, La ++ (⟨#[119, 114, 111, 110, 103, 32, 108, 105, 110, 101, 32, 104, 101, 114, 101, 32, 55, 10]⟩ : ByteArray) ++ M = S3 := ⟨_, rfl⟩
    have P1 := Lib.hid (show Sy.parS 0 (Sy.spl [] S1.data.toList) = (0, 0, l) by rw [← hS1, app_data]; exact hF.first)
    have P2 := Lib.hid (show Sy.parS 0 (Sy.spl [] S2.data.toList) = (0, 0, m) by rw [← hS2, app_data, app_data]; exact hF.second)
    have P3 := Lib.hid (show Sy.parS 0 (Sy.spl [] S3.data.toList) = (2, (Z : Int) + 1, []) by rw [← hS3, app_data, app_data]; exact hF.wrong)
    have Q1 := Lib.hid (show S1.size ≤ 65536 by rw [← hS1, Lib.size_eq, app_data, List.length_append, ← Lib.size_eq, ← Lib.size_eq]; omega)
    have Q2 := Lib.hid (show S2.size ≤ 65536 by rw [← hS2, Lib.size_eq, app_data, app_data, List.length_append, List.length_append, ← Lib.size_eq, ← Lib.size_eq, ← Lib.size_eq]; have : (⟨#[10, 32, 32, 35, 32, 110, 111, 116, 104, 105, 110, 103, 10]⟩ : ByteArray).size = 13 := rfl; omega)
    have Q3 := Lib.hid (show S3.size ≤ 65536 by rw [← hS3, Lib.size_eq, app_data, app_data, List.length_append, List.length_append, ← Lib.size_eq, ← Lib.size_eq, ← Lib.size_eq]; have : (⟨#[119, 114, 111, 110, 103, 32, 108, 105, 110, 101, 32, 104, 101, 114, 101, 32, 55, 10]⟩ : ByteArray).size = 18 := rfl; omega)
    have n0 : ¬ 9223372036854775807 < L.size + 1 := by omega
    have n1 : ¬ 9223372036854775807 < La.size + M.size := by omega
    have n2 : ¬ 9223372036854775807 < La.size + 13 := by omega
    have n3 : ¬ 9223372036854775807 < La.size + 13 + M.size := by omega
    have n4 : ¬ 9223372036854775807 < La.size + 18 := by omega
    have n5 : ¬ 9223372036854775807 < La.size + 18 + M.size := by omega
    obtain ⟨z, hz⟩ : ∃ z, La.size = z := ⟨_, rfl⟩
    have HLL := Lib.hid (show La.data.toList.length = z by rw [← Lib.size_eq]; exact hz)
    have hm20 := hF.few
    obtain ⟨q, hq⟩ : ∃ q, l.length = q := ⟨_, rfl⟩
    have HQ := Lib.hid hq
    have HQ2 := Lib.hid (show m.length = q by rw [hF.same]; exact hq)
    rw [hq] at hm20
    have HC := Lib.hid hF.count
    clear hF hLa hza hZ HG HG2 hq
    obtain ⟨bb, hbb⟩ : ∃ bb : Bool, (La.toList = [] ∧ La = L ∧ bb = false) ∨ (∃ k, L.size = k + 1 ∧ L.data.toList[k]? = some 10 ∧ La = L ∧ bb = false) ∨ (∃ k c, L.size = k + 1 ∧ L.data.toList[k]? = some c ∧ c ≠ 10 ∧ L ++ (⟨#[10]⟩ : ByteArray) = La ∧ bb = true) := by
      rcases hways with ⟨y1, y2⟩ | ⟨k, y1, y2, y3⟩ | ⟨k, c', y1, y2, y3, y4⟩
      · exact ⟨false, .inl ⟨by rw [y2]; exact y1, y2, rfl⟩⟩
      · exact ⟨false, .inr (.inl ⟨k, y1, y2, y3, rfl⟩)⟩
      · exact ⟨true, .inr (.inr ⟨k, c', y1, y2, y3, y4, rfl⟩)⟩
    have HJ : Hid ((bb = true ∧ L ++ (⟨#[10]⟩ : ByteArray) = La) ∨ (bb = false ∧ La = L)) := by
      refine Lib.hid ?_
      rcases hbb with ⟨_, y2, y3⟩ | ⟨k, _, _, y3, y4⟩ | ⟨k, c', _, _, _, y4, y5⟩
      · exact .inr ⟨y3, y2⟩
      · exact .inr ⟨y4, y3⟩
      · exact .inl ⟨y5, y4⟩
    have HBB := Lib.hid hbb
    clear hways hbb
    go_upto_region 5 with fail
    go_cut [37] (fun s wx => s = .bool bb ∧ wx = w2)
    case first =>
      rcases HBB.out with ⟨y1, rfl, rfl⟩ | ⟨k, y1, y2, rfl, rfl⟩ | ⟨k, c', y1, y2, y3, y4, rfl⟩
      · have y5 : (La.toList == []) = true := by rw [y1]; rfl
        clear HBB HJ HLL HC P1 P2 P3 Q1 Q2 Q3
        go_wp2_with fail
        go_meet
        exact ⟨rfl, rfl⟩
      · have y5 : ¬ La.toList = [] := by
          rw [Lib.toList_data]
          intro e
          rw [e] at y2
          simp at y2
        have y5' : (La.toList == []) = false := by simpa using y5
        have y6 : ∀ w, (Instr.index 9 (.string La) (.int .i64 (k : Int))).run Tryz.prog w = .ok (.int .u8 (10 : Int)) w := fun w => str_at (c := 10) y2 9 Tryz.underlying9 w
        have y7 : (1 : Int) ≤ k + 1 := by omega
        have y8 : IntKind.i64.wrap ((k : Int) + 1 - 1) = (k : Int) := by rw [IntKind.wrap_i64]; omega
        clear HBB HJ HLL HC P1 P2 P3 Q1 Q2 Q3 y2
        rw [hz] at y1
        subst y1
        go_wp2_with fail
        go_meet
        exact ⟨rfl, rfl⟩
      · have y5 : ¬ L.toList = [] := by
          rw [Lib.toList_data]
          intro e
          rw [e] at y2
          simp at y2
        have y5' : (L.toList == []) = false := by simpa using y5
        have y6 : ∀ w, (Instr.index 9 (.string L) (.int .i64 (k : Int))).run Tryz.prog w = .ok (.int .u8 (c'.toNat : Int)) w := fun w => str_at y2 9 Tryz.underlying9 w
        have y7 : (1 : Int) ≤ k + 1 := by omega
        have y8 : IntKind.i64.wrap ((k : Int) + 1 - 1) = (k : Int) := by rw [IntKind.wrap_i64]; omega
        have y9 : ((c'.toNat : Int) == 10) = false := by
          simp only [beq_eq_false_iff_ne, ne_eq]
          intro h
          exact y3 (UInt8.toNat_inj.1 (by show c'.toNat = 10; omega))
        have y9' : ((c'.toNat : Int) != 10) = true := by simp [y9, bne]
        clear HBB HJ HLL HC P1 P2 P3 Q1 Q2 Q3 y2 y4
        go_wp2_with fail
        go_meet
        exact ⟨rfl, rfl⟩
    case rest =>
     obtain ⟨rfl, hw⟩ := hcut
     have hw := hw.symm
     subst hw
     clear HBB
     go_upto_if 37 with fail
     go_cut [4] (fun s wx => s = .string La ∧ wx = w2)
     case first =>
      rcases HJ.out with ⟨rfl, y4⟩ | ⟨rfl, rfl⟩
      all_goals
        go_wp2_with fail
        go_meet
        exact ⟨rfl, rfl⟩
     case rest =>
      obtain ⟨rfl, hw⟩ := hcut
      have hw := hw.symm
      subst hw
      clear HJ
      go_wp2_with fail
      refine (parse_is (s := S1) P1.out Q1.out _ T2.out).mono ?_
      rintro e w3 ⟨A3, c3, rfl, hs3, hc3, b3⟩
      simp only at hs3 hc3 ⊢
      rw [HQ.out] at hc3 ⊢
      have HS3 := Lib.hid hs3
      have B3 := Lib.hid (bstep B2.out b3)
      have T3 := Lib.hid (T2.out.below b3)
      clear hs3 b3
      go_wp2_with fail
      refine (parse_is (s := S2) P2.out Q2.out _ T3.out).mono ?_
      rintro e w4 ⟨A4, c4, rfl, hs4, hc4, b4⟩
      simp only at hs4 hc4 ⊢
      rw [HQ2.out] at hc4 ⊢
      have HS4 := Lib.hid (HS3.out.below b4)
      have HM4 := Lib.hid hs4
      have B4 := Lib.hid (bstep B3.out b4)
      have T4 := Lib.hid (T3.out.below b4)
      clear hs4 b4 HS3 B3 T3
      go_wp2_with fail
      refine (parse_is (s := S3) P3.out Q3.out _ T4.out).mono ?_
      rintro e w5 ⟨A5, c5, rfl, _, _, b5⟩
      have HS5 := Lib.hid (HS4.out.below b5)
      have HM5 := Lib.hid (HM4.out.below b5)
      have B5 := Lib.hid (bstep B4.out b5)
      have T5 := Lib.hid (T4.out.below b5)
      clear b5 HS4 HM4 B4 T4
      go_wp2_with fail
      go_loop [15, 16] (fun c i => ∃ k j : Nat, k ≤ z ∧ i = .int .i64 k ∧ c = .int .i64 ((j : Int) + 1) ∧ Hid (j = (La.data.toList.take k).count 10) ∧ j ≤ k) (fun _ i => z - (intOf i).toNat)
      case atStart => exact ⟨0, 0, Nat.zero_le _, rfl, rfl, Lib.hid rfl, Nat.le_refl _⟩
      case round =>
        obtain ⟨k, j, hk, rfl, rfl, HJ, hjk⟩ := hrel
        by_cases hlt : k < z
        · have hkl : k < La.data.toList.length := by rw [HLL.out]; exact hlt
          obtain ⟨ch, hch⟩ : ∃ ch, La.data.toList[k]? = some ch := ⟨_, List.getElem?_eq_getElem hkl⟩
          have HT' := Lib.hid (count_take hch)
          have u6 : ∀ w, (Instr.index 9 (.string La) (.int .i64 (k : Int))).run Tryz.prog w = .ok (.int .u8 (ch.toNat : Int)) w := fun w => str_at hch 9 Tryz.underlying9 w
          clear hch hkl
          by_cases hc : ch = 10
          · subst hc
            have u9 : (((10 : UInt8).toNat : Int) == 10) = true := rfl
            go_wp2_with fail
            go_round
            case rel => exact ⟨k + 1, j + 1, by omega, by go_num, by go_num, Lib.hid (by rw [HT'.out, ← HJ.out]; simp), by omega⟩
            case measure => simp [intOf]; omega
          · have u9 : ((ch.toNat : Int) == 10) = false := by
              simp only [beq_eq_false_iff_ne, ne_eq]
              intro h
              exact hc (UInt8.toNat_inj.1 (by show ch.toNat = 10; omega))
            go_wp2_with fail
            go_round
            case rel => exact ⟨k + 1, j, by omega, by go_num, by go_num, Lib.hid (by rw [HT'.out, ← HJ.out, if_neg hc]; simp), by omega⟩
            case measure => simp [intOf]; omega
        · obtain rfl : j = Z := by
            rw [HJ.out, ← HC.out, List.take_of_length_le (by rw [HLL.out]; omega)]
          have v1 : ((j : Int) + 1 != (j : Int) + 1) = false := by simp
          have v2 : ((q : Int) != (q : Int)) = false := by simp
          clear HJ HC HLL
          go_wp2_with fail
          go_loopw [102] (fun i wr => ∃ k : Nat, k ≤ q ∧ i = .int .i64 k ∧ Hid (Below w5.heap.size w5 wr)) (fun i _ => q - (intOf i).toNat)
          case atStart => exact ⟨0, Nat.zero_le _, rfl, Lib.hid (Below.refl _ _)⟩
          case round =>
            obtain ⟨k, hk, rfl, HB⟩ := hrel
            by_cases hlt : k < q
            · obtain ⟨⟨sl, ts⟩, hs⟩ := get_ex (xs := l) (i := k) (by rw [HQ.out]; exact hlt)
              obtain ⟨⟨tl, tt⟩, ht, htt, htl, hs0, hs1⟩ := HF.out.each k _ hs
              simp only at htt htl hs0 hs1
              subst htt
              obtain ⟨bl, ol, T1, ct1, rfl, hbl, c0, c1, hct1, h61, hl1⟩ := (HS5.out.below HB.out).get hs
              obtain ⟨bm, om, T2, ct2, rfl, hbm, d0, d1, hct2, h62, hl2⟩ := (HM5.out.below HB.out).get ht
              simp only at c0 c1 d0 d1 hct1 hct2 h61 h62 hl1 hl2
              obtain ⟨p, hpn⟩ : ∃ p, tt.length = p := ⟨_, rfl⟩
              have HPN := Lib.hid hpn
              rw [hpn] at c1 d1 hct1 hct2 h61 h62
              have S1 : wr.cell? ⟨bm, om + k * 2, none⟩ = some (.int .i64 tl) ∧ wr.cell? ⟨bm, om + k * 2 + 1, none⟩ = some (.slice T2 p ct2) ∧ wr.cell? ⟨bl, ol + k * 2, none⟩ = some (.int .i64 sl) ∧ wr.cell? ⟨bl, ol + k * 2 + 1, none⟩ = some (.slice T1 p ct1) ∧ ListAt 3 eTok wr T1 tt ∧ ListAt 3 eTok wr T2 tt ∧ Below w5.heap.size w5 wr := ⟨d0, d1, c0, c1, hl1, hl2, HB.out⟩
              have q6 : p ≤ 1000 := by omega
              clear hs ht hl1 hl2 hpn HB c0 c1 d0 d1
              rcases htl with htl | htl
              · have v4 : (tl != sl) = false := by simp; omega
                have v4' : (tl == sl) = true := by simp; omega
                clear htl
                go_wp2_with fail
                refine wp_region_held_drew (S := fun w' => w'.cell? ⟨bm, om + k * 2, none⟩ = some (.int .i64 tl) ∧ w'.cell? ⟨bm, om + k * 2 + 1, none⟩ = some (.slice T2 p ct2) ∧ w'.cell? ⟨bl, ol + k * 2, none⟩ = some (.int .i64 sl) ∧ w'.cell? ⟨bl, ol + k * 2 + 1, none⟩ = some (.slice T1 p ct1) ∧ ListAt 3 eTok w' T1 tt ∧ ListAt 3 eTok w' T2 tt ∧ Below w5.heap.size w5 w') (by kernel_rfl) (keepQ S1 (Below.refl _ _).drew) (fun hH => ?_)
                first
                  | (refine wpAnyH_take (i := 0) (oi := { dst := some 105, op := Go.Op.move (Go.Operand.tmp 6), type := 30, pos := "law.go:153", after := #[], guard := none }) (v := ?_) rfl (by kernel_rfl) (by kernel_rfl) (by kernel_rfl) (fun _ _ _ h => h) (Or.inl ⟨by rfl, ?_⟩) hH ?_; rotate_left; (focus (intro w hSw; (try dsimp only at hSw); go_simp; (try with_reducible rfl); done)); try simp only [Act.put, List.setIfInBounds_toArray, List.set_cons_zero, List.set_cons_succ])
                  | (refine wpAnyH_take (i := 0) (oi := { dst := some 105, op := Go.Op.move (Go.Operand.tmp 6), type := 30, pos := "law.go:153", after := #[], guard := none }) (v := undef) rfl (by kernel_rfl) (by kernel_rfl) (by kernel_rfl) (fun _ _ _ h => h) (Or.inr ⟨by rfl, rfl⟩) hH ?_; try simp only [Act.put, List.setIfInBounds_toArray, List.set_cons_zero, List.set_cons_succ])
                first
                  | (refine wpAnyH_take (i := 1) (oi := { dst := some 106, op := Go.Op.move (Go.Operand.tmp 17), type := 3, pos := "law.go:153", after := #[], guard := none }) (v := ?_) rfl (by kernel_rfl) (by kernel_rfl) (by kernel_rfl) (fun _ _ _ h => h) (Or.inl ⟨by rfl, ?_⟩) hH ?_; rotate_left; (focus (intro w hSw; (try dsimp only at hSw); go_simp; (try with_reducible rfl); done)); try simp only [Act.put, List.setIfInBounds_toArray, List.set_cons_zero, List.set_cons_succ])
                  | (refine wpAnyH_take (i := 1) (oi := { dst := some 106, op := Go.Op.move (Go.Operand.tmp 17), type := 3, pos := "law.go:153", after := #[], guard := none }) (v := undef) rfl (by kernel_rfl) (by kernel_rfl) (by kernel_rfl) (fun _ _ _ h => h) (Or.inr ⟨by rfl, rfl⟩) hH ?_; try simp only [Act.put, List.setIfInBounds_toArray, List.set_cons_zero, List.set_cons_succ])
                first
                  | (refine wpAnyH_take (i := 2) (oi := { dst := some 107, op := Go.Op.indexAddr 30 (Go.Operand.tmp 105) (Go.Operand.tmp 106), type := 0, pos := "law.go:153", after := #[{ on := 0, ground := Go.Ground.data }, { on := 1, ground := Go.Ground.data }], guard := none }) (v := ?_) rfl (by kernel_rfl) (by kernel_rfl) (by kernel_rfl) (fun _ _ _ h => h) (Or.inl ⟨by rfl, ?_⟩) hH ?_; rotate_left; (focus (intro w hSw; (try dsimp only at hSw); go_simp; (try with_reducible rfl); done)); try simp only [Act.put, List.setIfInBounds_toArray, List.set_cons_zero, List.set_cons_succ])
                  | (refine wpAnyH_take (i := 2) (oi := { dst := some 107, op := Go.Op.indexAddr 30 (Go.Operand.tmp 105) (Go.Operand.tmp 106), type := 0, pos := "law.go:153", after := #[{ on := 0, ground := Go.Ground.data }, { on := 1, ground := Go.Ground.data }], guard := none }) (v := undef) rfl (by kernel_rfl) (by kernel_rfl) (by kernel_rfl) (fun _ _ _ h => h) (Or.inr ⟨by rfl, rfl⟩) hH ?_; try simp only [Act.put, List.setIfInBounds_toArray, List.set_cons_zero, List.set_cons_succ])
                first
                  | (refine wpAnyH_take (i := 3) (oi := { dst := some 108, op := Go.Op.fieldAddr 38 (Go.Operand.tmp 107) 1, type := 0, pos := "law.go:153", after := #[{ on := 2, ground := Go.Ground.data }], guard := none }) (v := ?_) rfl (by kernel_rfl) (by kernel_rfl) (by kernel_rfl) (fun _ _ _ h => h) (Or.inl ⟨by rfl, ?_⟩) hH ?_; rotate_left; (focus (intro w hSw; (try dsimp only at hSw); go_simp; (try with_reducible rfl); done)); try simp only [Act.put, List.setIfInBounds_toArray, List.set_cons_zero, List.set_cons_succ])
                  | (refine wpAnyH_take (i := 3) (oi := { dst := some 108, op := Go.Op.fieldAddr 38 (Go.Operand.tmp 107) 1, type := 0, pos := "law.go:153", after := #[{ on := 2, ground := Go.Ground.data }], guard := none }) (v := undef) rfl (by kernel_rfl) (by kernel_rfl) (by kernel_rfl) (fun _ _ _ h => h) (Or.inr ⟨by rfl, rfl⟩) hH ?_; try simp only [Act.put, List.setIfInBounds_toArray, List.set_cons_zero, List.set_cons_succ])
                first
                  | (refine wpAnyH_take (i := 4) (oi := { dst := some 109, op := Go.Op.load 22 (Go.Operand.tmp 108), type := 22, pos := "law.go:153", after := #[{ on := 3, ground := Go.Ground.data }], guard := none }) (v := ?_) rfl (by kernel_rfl) (by kernel_rfl) (by kernel_rfl) (fun _ _ _ h => h) (Or.inl ⟨by rfl, ?_⟩) hH ?_; rotate_left; (focus (intro w hSw; (try dsimp only at hSw); go_simp; (try with_reducible rfl); done)); try simp only [Act.put, List.setIfInBounds_toArray, List.set_cons_zero, List.set_cons_succ])
                  | (refine wpAnyH_take (i := 4) (oi := { dst := some 109, op := Go.Op.load 22 (Go.Operand.tmp 108), type := 22, pos := "law.go:153", after := #[{ on := 3, ground := Go.Ground.data }], guard := none }) (v := undef) rfl (by kernel_rfl) (by kernel_rfl) (by kernel_rfl) (fun _ _ _ h => h) (Or.inr ⟨by rfl, rfl⟩) hH ?_; try simp only [Act.put, List.setIfInBounds_toArray, List.set_cons_zero, List.set_cons_succ])
                first
                  | (refine wpAnyH_take (i := 5) (oi := { dst := some 110, op := Go.Op.move (Go.Operand.tmp 9), type := 30, pos := "law.go:153", after := #[], guard := none }) (v := ?_) rfl (by kernel_rfl) (by kernel_rfl) (by kernel_rfl) (fun _ _ _ h => h) (Or.inl ⟨by rfl, ?_⟩) hH ?_; rotate_left; (focus (intro w hSw; (try dsimp only at hSw); go_simp; (try with_reducible rfl); done)); try simp only [Act.put, List.setIfInBounds_toArray, List.set_cons_zero, List.set_cons_succ])
                  | (refine wpAnyH_take (i := 5) (oi := { dst := some 110, op := Go.Op.move (Go.Operand.tmp 9), type := 30, pos := "law.go:153", after := #[], guard := none }) (v := undef) rfl (by kernel_rfl) (by kernel_rfl) (by kernel_rfl) (fun _ _ _ h => h) (Or.inr ⟨by rfl, rfl⟩) hH ?_; try simp only [Act.put, List.setIfInBounds_toArray, List.set_cons_zero, List.set_cons_succ])
                first
                  | (refine wpAnyH_take (i := 6) (oi := { dst := some 111, op := Go.Op.move (Go.Operand.tmp 17), type := 3, pos := "law.go:153", after := #[], guard := none }) (v := ?_) rfl (by kernel_rfl) (by kernel_rfl) (by kernel_rfl) (fun _ _ _ h => h) (Or.inl ⟨by rfl, ?_⟩) hH ?_; rotate_left; (focus (intro w hSw; (try dsimp only at hSw); go_simp; (try with_reducible rfl); done)); try simp only [Act.put, List.setIfInBounds_toArray, List.set_cons_zero, List.set_cons_succ])
                  | (refine wpAnyH_take (i := 6) (oi := { dst := some 111, op := Go.Op.move (Go.Operand.tmp 17), type := 3, pos := "law.go:153", after := #[], guard := none }) (v := undef) rfl (by kernel_rfl) (by kernel_rfl) (by kernel_rfl) (fun _ _ _ h => h) (Or.inr ⟨by rfl, rfl⟩) hH ?_; try simp only [Act.put, List.setIfInBounds_toArray, List.set_cons_zero, List.set_cons_succ])
                first
                  | (refine wpAnyH_take (i := 7) (oi := { dst := some 112, op := Go.Op.indexAddr 30 (Go.Operand.tmp 110) (Go.Operand.tmp 111), type := 0, pos := "law.go:153", after := #[{ on := 5, ground := Go.Ground.data }, { on := 6, ground := Go.Ground.data }], guard := none }) (v := ?_) rfl (by kernel_rfl) (by kernel_rfl) (by kernel_rfl) (fun _ _ _ h => h) (Or.inl ⟨by rfl, ?_⟩) hH ?_; rotate_left; (focus (intro w hSw; (try dsimp only at hSw); go_simp; (try with_reducible rfl); done)); try simp only [Act.put, List.setIfInBounds_toArray, List.set_cons_zero, List.set_cons_succ])
                  | (refine wpAnyH_take (i := 7) (oi := { dst := some 112, op := Go.Op.indexAddr 30 (Go.Operand.tmp 110) (Go.Operand.tmp 111), type := 0, pos := "law.go:153", after := #[{ on := 5, ground := Go.Ground.data }, { on := 6, ground := Go.Ground.data }], guard := none }) (v := undef) rfl (by kernel_rfl) (by kernel_rfl) (by kernel_rfl) (fun _ _ _ h => h) (Or.inr ⟨by rfl, rfl⟩) hH ?_; try simp only [Act.put, List.setIfInBounds_toArray, List.set_cons_zero, List.set_cons_succ])
                first
                  | (refine wpAnyH_take (i := 8) (oi := { dst := some 113, op := Go.Op.fieldAddr 38 (Go.Operand.tmp 112) 1, type := 0, pos := "law.go:153", after := #[{ on := 7, ground := Go.Ground.data }], guard := none }) (v := ?_) rfl (by kernel_rfl) (by kernel_rfl) (by kernel_rfl) (fun _ _ _ h => h) (Or.inl ⟨by rfl, ?_⟩) hH ?_; rotate_left; (focus (intro w hSw; (try dsimp only at hSw); go_simp; (try with_reducible rfl); done)); try simp only [Act.put, List.setIfInBounds_toArray, List.set_cons_zero, List.set_cons_succ])
                  | (refine wpAnyH_take (i := 8) (oi := { dst := some 113, op := Go.Op.fieldAddr 38 (Go.Operand.tmp 112) 1, type := 0, pos := "law.go:153", after := #[{ on := 7, ground := Go.Ground.data }], guard := none }) (v := undef) rfl (by kernel_rfl) (by kernel_rfl) (by kernel_rfl) (fun _ _ _ h => h) (Or.inr ⟨by rfl, rfl⟩) hH ?_; try simp only [Act.put, List.setIfInBounds_toArray, List.set_cons_zero, List.set_cons_succ])
                first
                  | (refine wpAnyH_take (i := 9) (oi := { dst := some 114, op := Go.Op.load 22 (Go.Operand.tmp 113), type := 22, pos := "law.go:153", after := #[{ on := 8, ground := Go.Ground.data }], guard := none }) (v := ?_) rfl (by kernel_rfl) (by kernel_rfl) (by kernel_rfl) (fun _ _ _ h => h) (Or.inl ⟨by rfl, ?_⟩) hH ?_; rotate_left; (focus (intro w hSw; (try dsimp only at hSw); go_simp; (try with_reducible rfl); done)); try simp only [Act.put, List.setIfInBounds_toArray, List.set_cons_zero, List.set_cons_succ])
                  | (refine wpAnyH_take (i := 9) (oi := { dst := some 114, op := Go.Op.load 22 (Go.Operand.tmp 113), type := 22, pos := "law.go:153", after := #[{ on := 8, ground := Go.Ground.data }], guard := none }) (v := undef) rfl (by kernel_rfl) (by kernel_rfl) (by kernel_rfl) (fun _ _ _ h => h) (Or.inr ⟨by rfl, rfl⟩) hH ?_; try simp only [Act.put, List.setIfInBounds_toArray, List.set_cons_zero, List.set_cons_succ])
                refine wpAnyH_ready (rs := [10]) (by kernel_rfl) (by simp) ?_
                refine AllReadyH.cons (o := { dst := some 115, op := Go.Op.call { callee := Go.Callee.value (Go.Operand.func 26), args := #[Go.Operand.tmp 109, Go.Operand.tmp 114], argTypes := #[22, 22] }, type := 4, pos := "law.go:153", after := #[{ on := 4, ground := Go.Ground.data }, { on := 9, ground := Go.Ground.data }], guard := none }) rfl (fun K hK => ?_) AllReadyH.nil
                go_simp
                (go_at_call 26; ((with_reducible refine (toks_yes _ _ _ _ _ tt _ (sQ1 hH) (sQ2 hH) HPN.out q6).mono ?_); rintro e w' ⟨rfl, hb⟩))
                go_wp2_with fail
                refine hK.out _ _ (keepQ hH hb) (fun hH2 => ?_)
                clear hK K hH
                have hH := hH2
                clear hH2
                try simp only [Act.put, List.setIfInBounds_toArray, List.set_cons_zero, List.set_cons_succ]
                first
                  | (refine wpAnyH_take (i := 11) (oi := { dst := some 116, op := Go.Op.unOp Go.UnOp.not 4 (Go.Operand.tmp 115), type := 4, pos := "law.go:153", after := #[{ on := 10, ground := Go.Ground.data }], guard := none }) (v := ?_) rfl (by kernel_rfl) (by kernel_rfl) (by kernel_rfl) (fun _ _ _ h => h) (Or.inl ⟨by rfl, ?_⟩) hH ?_; rotate_left; (focus (intro w hSw; (try dsimp only at hSw); go_simp; (try with_reducible rfl); done)); try simp only [Act.put, List.setIfInBounds_toArray, List.set_cons_zero, List.set_cons_succ])
                  | (refine wpAnyH_take (i := 11) (oi := { dst := some 116, op := Go.Op.unOp Go.UnOp.not 4 (Go.Operand.tmp 115), type := 4, pos := "law.go:153", after := #[{ on := 10, ground := Go.Ground.data }], guard := none }) (v := undef) rfl (by kernel_rfl) (by kernel_rfl) (by kernel_rfl) (fun _ _ _ h => h) (Or.inr ⟨by rfl, rfl⟩) hH ?_; try simp only [Act.put, List.setIfInBounds_toArray, List.set_cons_zero, List.set_cons_succ])
                first
                  | (refine wpAnyH_take (i := 12) (oi := { dst := some 117, op := Go.Op.move (Go.Operand.tmp 116), type := 4, pos := "law.go:153", after := #[{ on := 11, ground := Go.Ground.data }, { on := 10, ground := Go.Ground.chain }], guard := none }) (v := ?_) rfl (by kernel_rfl) (by kernel_rfl) (by kernel_rfl) (fun _ _ _ h => h) (Or.inl ⟨by rfl, ?_⟩) hH ?_; rotate_left; (focus (intro w hSw; (try dsimp only at hSw); go_simp; (try with_reducible rfl); done)); try simp only [Act.put, List.setIfInBounds_toArray, List.set_cons_zero, List.set_cons_succ])
                  | (refine wpAnyH_take (i := 12) (oi := { dst := some 117, op := Go.Op.move (Go.Operand.tmp 116), type := 4, pos := "law.go:153", after := #[{ on := 11, ground := Go.Ground.data }, { on := 10, ground := Go.Ground.chain }], guard := none }) (v := undef) rfl (by kernel_rfl) (by kernel_rfl) (by kernel_rfl) (fun _ _ _ h => h) (Or.inr ⟨by rfl, rfl⟩) hH ?_; try simp only [Act.put, List.setIfInBounds_toArray, List.set_cons_zero, List.set_cons_succ])
                first
                  | (refine wpAnyH_take (i := 13) (oi := { dst := some 118, op := Go.Op.move (Go.Operand.tmp 9), type := 30, pos := "law.go:153", after := #[{ on := 12, ground := Go.Ground.guard }], guard := some (12, false) }) (v := ?_) rfl (by kernel_rfl) (by kernel_rfl) (by kernel_rfl) (fun _ _ _ h => h) (Or.inl ⟨by rfl, ?_⟩) hH ?_; rotate_left; (focus (intro w hSw; (try dsimp only at hSw); go_simp; (try with_reducible rfl); done)); try simp only [Act.put, List.setIfInBounds_toArray, List.set_cons_zero, List.set_cons_succ])
                  | (refine wpAnyH_take (i := 13) (oi := { dst := some 118, op := Go.Op.move (Go.Operand.tmp 9), type := 30, pos := "law.go:153", after := #[{ on := 12, ground := Go.Ground.guard }], guard := some (12, false) }) (v := undef) rfl (by kernel_rfl) (by kernel_rfl) (by kernel_rfl) (fun _ _ _ h => h) (Or.inr ⟨by rfl, rfl⟩) hH ?_; try simp only [Act.put, List.setIfInBounds_toArray, List.set_cons_zero, List.set_cons_succ])
                first
                  | (refine wpAnyH_take (i := 14) (oi := { dst := some 119, op := Go.Op.move (Go.Operand.tmp 17), type := 3, pos := "law.go:153", after := #[{ on := 12, ground := Go.Ground.guard }], guard := some (12, false) }) (v := ?_) rfl (by kernel_rfl) (by kernel_rfl) (by kernel_rfl) (fun _ _ _ h => h) (Or.inl ⟨by rfl, ?_⟩) hH ?_; rotate_left; (focus (intro w hSw; (try dsimp only at hSw); go_simp; (try with_reducible rfl); done)); try simp only [Act.put, List.setIfInBounds_toArray, List.set_cons_zero, List.set_cons_succ])
                  | (refine wpAnyH_take (i := 14) (oi := { dst := some 119, op := Go.Op.move (Go.Operand.tmp 17), type := 3, pos := "law.go:153", after := #[{ on := 12, ground := Go.Ground.guard }], guard := some (12, false) }) (v := undef) rfl (by kernel_rfl) (by kernel_rfl) (by kernel_rfl) (fun _ _ _ h => h) (Or.inr ⟨by rfl, rfl⟩) hH ?_; try simp only [Act.put, List.setIfInBounds_toArray, List.set_cons_zero, List.set_cons_succ])
                first
                  | (refine wpAnyH_take (i := 15) (oi := { dst := some 120, op := Go.Op.indexAddr 30 (Go.Operand.tmp 118) (Go.Operand.tmp 119), type := 0, pos := "law.go:153", after := #[{ on := 13, ground := Go.Ground.data }, { on := 14, ground := Go.Ground.data }, { on := 12, ground := Go.Ground.guard }], guard := some (12, false) }) (v := ?_) rfl (by kernel_rfl) (by kernel_rfl) (by kernel_rfl) (fun _ _ _ h => h) (Or.inl ⟨by rfl, ?_⟩) hH ?_; rotate_left; (focus (intro w hSw; (try dsimp only at hSw); go_simp; (try with_reducible rfl); done)); try simp only [Act.put, List.setIfInBounds_toArray, List.set_cons_zero, List.set_cons_succ])
                  | (refine wpAnyH_take (i := 15) (oi := { dst := some 120, op := Go.Op.indexAddr 30 (Go.Operand.tmp 118) (Go.Operand.tmp 119), type := 0, pos := "law.go:153", after := #[{ on := 13, ground := Go.Ground.data }, { on := 14, ground := Go.Ground.data }, { on := 12, ground := Go.Ground.guard }], guard := some (12, false) }) (v := undef) rfl (by kernel_rfl) (by kernel_rfl) (by kernel_rfl) (fun _ _ _ h => h) (Or.inr ⟨by rfl, rfl⟩) hH ?_; try simp only [Act.put, List.setIfInBounds_toArray, List.set_cons_zero, List.set_cons_succ])
                first
                  | (refine wpAnyH_take (i := 16) (oi := { dst := some 121, op := Go.Op.fieldAddr 38 (Go.Operand.tmp 120) 0, type := 0, pos := "law.go:153", after := #[{ on := 15, ground := Go.Ground.data }, { on := 12, ground := Go.Ground.guard }], guard := some (12, false) }) (v := ?_) rfl (by kernel_rfl) (by kernel_rfl) (by kernel_rfl) (fun _ _ _ h => h) (Or.inl ⟨by rfl, ?_⟩) hH ?_; rotate_left; (focus (intro w hSw; (try dsimp only at hSw); go_simp; (try with_reducible rfl); done)); try simp only [Act.put, List.setIfInBounds_toArray, List.set_cons_zero, List.set_cons_succ])
                  | (refine wpAnyH_take (i := 16) (oi := { dst := some 121, op := Go.Op.fieldAddr 38 (Go.Operand.tmp 120) 0, type := 0, pos := "law.go:153", after := #[{ on := 15, ground := Go.Ground.data }, { on := 12, ground := Go.Ground.guard }], guard := some (12, false) }) (v := undef) rfl (by kernel_rfl) (by kernel_rfl) (by kernel_rfl) (fun _ _ _ h => h) (Or.inr ⟨by rfl, rfl⟩) hH ?_; try simp only [Act.put, List.setIfInBounds_toArray, List.set_cons_zero, List.set_cons_succ])
                first
                  | (refine wpAnyH_take (i := 17) (oi := { dst := some 122, op := Go.Op.load 3 (Go.Operand.tmp 121), type := 3, pos := "law.go:153", after := #[{ on := 16, ground := Go.Ground.data }, { on := 12, ground := Go.Ground.guard }], guard := some (12, false) }) (v := ?_) rfl (by kernel_rfl) (by kernel_rfl) (by kernel_rfl) (fun _ _ _ h => h) (Or.inl ⟨by rfl, ?_⟩) hH ?_; rotate_left; (focus (intro w hSw; (try dsimp only at hSw); go_simp; (try with_reducible rfl); done)); try simp only [Act.put, List.setIfInBounds_toArray, List.set_cons_zero, List.set_cons_succ])
                  | (refine wpAnyH_take (i := 17) (oi := { dst := some 122, op := Go.Op.load 3 (Go.Operand.tmp 121), type := 3, pos := "law.go:153", after := #[{ on := 16, ground := Go.Ground.data }, { on := 12, ground := Go.Ground.guard }], guard := some (12, false) }) (v := undef) rfl (by kernel_rfl) (by kernel_rfl) (by kernel_rfl) (fun _ _ _ h => h) (Or.inr ⟨by rfl, rfl⟩) hH ?_; try simp only [Act.put, List.setIfInBounds_toArray, List.set_cons_zero, List.set_cons_succ])
                first
                  | (refine wpAnyH_take (i := 18) (oi := { dst := some 123, op := Go.Op.move (Go.Operand.tmp 6), type := 30, pos := "law.go:153", after := #[{ on := 12, ground := Go.Ground.guard }], guard := some (12, false) }) (v := ?_) rfl (by kernel_rfl) (by kernel_rfl) (by kernel_rfl) (fun _ _ _ h => h) (Or.inl ⟨by rfl, ?_⟩) hH ?_; rotate_left; (focus (intro w hSw; (try dsimp only at hSw); go_simp; (try with_reducible rfl); done)); try simp only [Act.put, List.setIfInBounds_toArray, List.set_cons_zero, List.set_cons_succ])
                  | (refine wpAnyH_take (i := 18) (oi := { dst := some 123, op := Go.Op.move (Go.Operand.tmp 6), type := 30, pos := "law.go:153", after := #[{ on := 12, ground := Go.Ground.guard }], guard := some (12, false) }) (v := undef) rfl (by kernel_rfl) (by kernel_rfl) (by kernel_rfl) (fun _ _ _ h => h) (Or.inr ⟨by rfl, rfl⟩) hH ?_; try simp only [Act.put, List.setIfInBounds_toArray, List.set_cons_zero, List.set_cons_succ])
                first
                  | (refine wpAnyH_take (i := 19) (oi := { dst := some 124, op := Go.Op.move (Go.Operand.tmp 17), type := 3, pos := "law.go:153", after := #[{ on := 12, ground := Go.Ground.guard }], guard := some (12, false) }) (v := ?_) rfl (by kernel_rfl) (by kernel_rfl) (by kernel_rfl) (fun _ _ _ h => h) (Or.inl ⟨by rfl, ?_⟩) hH ?_; rotate_left; (focus (intro w hSw; (try dsimp only at hSw); go_simp; (try with_reducible rfl); done)); try simp only [Act.put, List.setIfInBounds_toArray, List.set_cons_zero, List.set_cons_succ])
                  | (refine wpAnyH_take (i := 19) (oi := { dst := some 124, op := Go.Op.move (Go.Operand.tmp 17), type := 3, pos := "law.go:153", after := #[{ on := 12, ground := Go.Ground.guard }], guard := some (12, false) }) (v := undef) rfl (by kernel_rfl) (by kernel_rfl) (by kernel_rfl) (fun _ _ _ h => h) (Or.inr ⟨by rfl, rfl⟩) hH ?_; try simp only [Act.put, List.setIfInBounds_toArray, List.set_cons_zero, List.set_cons_succ])
                first
                  | (refine wpAnyH_take (i := 20) (oi := { dst := some 125, op := Go.Op.indexAddr 30 (Go.Operand.tmp 123) (Go.Operand.tmp 124), type := 0, pos := "law.go:153", after := #[{ on := 18, ground := Go.Ground.data }, { on := 19, ground := Go.Ground.data }, { on := 12, ground := Go.Ground.guard }], guard := some (12, false) }) (v := ?_) rfl (by kernel_rfl) (by kernel_rfl) (by kernel_rfl) (fun _ _ _ h => h) (Or.inl ⟨by rfl, ?_⟩) hH ?_; rotate_left; (focus (intro w hSw; (try dsimp only at hSw); go_simp; (try with_reducible rfl); done)); try simp only [Act.put, List.setIfInBounds_toArray, List.set_cons_zero, List.set_cons_succ])
                  | (refine wpAnyH_take (i := 20) (oi := { dst := some 125, op := Go.Op.indexAddr 30 (Go.Operand.tmp 123) (Go.Operand.tmp 124), type := 0, pos := "law.go:153", after := #[{ on := 18, ground := Go.Ground.data }, { on := 19, ground := Go.Ground.data }, { on := 12, ground := Go.Ground.guard }], guard := some (12, false) }) (v := undef) rfl (by kernel_rfl) (by kernel_rfl) (by kernel_rfl) (fun _ _ _ h => h) (Or.inr ⟨by rfl, rfl⟩) hH ?_; try simp only [Act.put, List.setIfInBounds_toArray, List.set_cons_zero, List.set_cons_succ])
                first
                  | (refine wpAnyH_take (i := 21) (oi := { dst := some 126, op := Go.Op.fieldAddr 38 (Go.Operand.tmp 125) 0, type := 0, pos := "law.go:153", after := #[{ on := 20, ground := Go.Ground.data }, { on := 12, ground := Go.Ground.guard }], guard := some (12, false) }) (v := ?_) rfl (by kernel_rfl) (by kernel_rfl) (by kernel_rfl) (fun _ _ _ h => h) (Or.inl ⟨by rfl, ?_⟩) hH ?_; rotate_left; (focus (intro w hSw; (try dsimp only at hSw); go_simp; (try with_reducible rfl); done)); try simp only [Act.put, List.setIfInBounds_toArray, List.set_cons_zero, List.set_cons_succ])
                  | (refine wpAnyH_take (i := 21) (oi := { dst := some 126, op := Go.Op.fieldAddr 38 (Go.Operand.tmp 125) 0, type := 0, pos := "law.go:153", after := #[{ on := 20, ground := Go.Ground.data }, { on := 12, ground := Go.Ground.guard }], guard := some (12, false) }) (v := undef) rfl (by kernel_rfl) (by kernel_rfl) (by kernel_rfl) (fun _ _ _ h => h) (Or.inr ⟨by rfl, rfl⟩) hH ?_; try simp only [Act.put, List.setIfInBounds_toArray, List.set_cons_zero, List.set_cons_succ])
                first
                  | (refine wpAnyH_take (i := 22) (oi := { dst := some 127, op := Go.Op.load 3 (Go.Operand.tmp 126), type := 3, pos := "law.go:153", after := #[{ on := 21, ground := Go.Ground.data }, { on := 12, ground := Go.Ground.guard }], guard := some (12, false) }) (v := ?_) rfl (by kernel_rfl) (by kernel_rfl) (by kernel_rfl) (fun _ _ _ h => h) (Or.inl ⟨by rfl, ?_⟩) hH ?_; rotate_left; (focus (intro w hSw; (try dsimp only at hSw); go_simp; (try with_reducible rfl); done)); try simp only [Act.put, List.setIfInBounds_toArray, List.set_cons_zero, List.set_cons_succ])
                  | (refine wpAnyH_take (i := 22) (oi := { dst := some 127, op := Go.Op.load 3 (Go.Operand.tmp 126), type := 3, pos := "law.go:153", after := #[{ on := 21, ground := Go.Ground.data }, { on := 12, ground := Go.Ground.guard }], guard := some (12, false) }) (v := undef) rfl (by kernel_rfl) (by kernel_rfl) (by kernel_rfl) (fun _ _ _ h => h) (Or.inr ⟨by rfl, rfl⟩) hH ?_; try simp only [Act.put, List.setIfInBounds_toArray, List.set_cons_zero, List.set_cons_succ])
                first
                  | (refine wpAnyH_take (i := 23) (oi := { dst := some 128, op := Go.Op.binOp Go.BinOp.neq 3 (Go.Operand.tmp 122) (Go.Operand.tmp 127) 3, type := 4, pos := "law.go:153", after := #[{ on := 17, ground := Go.Ground.data }, { on := 22, ground := Go.Ground.data }, { on := 12, ground := Go.Ground.guard }], guard := some (12, false) }) (v := ?_) rfl (by kernel_rfl) (by kernel_rfl) (by kernel_rfl) (fun _ _ _ h => h) (Or.inl ⟨by rfl, ?_⟩) hH ?_; rotate_left; (focus (intro w hSw; (try dsimp only at hSw); go_simp; (try with_reducible rfl); done)); try simp only [Act.put, List.setIfInBounds_toArray, List.set_cons_zero, List.set_cons_succ])
                  | (refine wpAnyH_take (i := 23) (oi := { dst := some 128, op := Go.Op.binOp Go.BinOp.neq 3 (Go.Operand.tmp 122) (Go.Operand.tmp 127) 3, type := 4, pos := "law.go:153", after := #[{ on := 17, ground := Go.Ground.data }, { on := 22, ground := Go.Ground.data }, { on := 12, ground := Go.Ground.guard }], guard := some (12, false) }) (v := undef) rfl (by kernel_rfl) (by kernel_rfl) (by kernel_rfl) (fun _ _ _ h => h) (Or.inr ⟨by rfl, rfl⟩) hH ?_; try simp only [Act.put, List.setIfInBounds_toArray, List.set_cons_zero, List.set_cons_succ])
                first
                  | (refine wpAnyH_take (i := 24) (oi := { dst := some 129, op := Go.Op.move (Go.Operand.tmp 128), type := 4, pos := "law.go:153", after := #[{ on := 23, ground := Go.Ground.data }, { on := 12, ground := Go.Ground.chain }, { on := 12, ground := Go.Ground.guard }], guard := some (12, false) }) (v := ?_) rfl (by kernel_rfl) (by kernel_rfl) (by kernel_rfl) (fun _ _ _ h => h) (Or.inl ⟨by rfl, ?_⟩) hH ?_; rotate_left; (focus (intro w hSw; (try dsimp only at hSw); go_simp; (try with_reducible rfl); done)); try simp only [Act.put, List.setIfInBounds_toArray, List.set_cons_zero, List.set_cons_succ])
                  | (refine wpAnyH_take (i := 24) (oi := { dst := some 129, op := Go.Op.move (Go.Operand.tmp 128), type := 4, pos := "law.go:153", after := #[{ on := 23, ground := Go.Ground.data }, { on := 12, ground := Go.Ground.chain }, { on := 12, ground := Go.Ground.guard }], guard := some (12, false) }) (v := undef) rfl (by kernel_rfl) (by kernel_rfl) (by kernel_rfl) (fun _ _ _ h => h) (Or.inr ⟨by rfl, rfl⟩) hH ?_; try simp only [Act.put, List.setIfInBounds_toArray, List.set_cons_zero, List.set_cons_succ])
                first
                  | (refine wpAnyH_take (i := 25) (oi := { dst := some 130, op := Go.Op.move (Go.Operand.tmp 9), type := 30, pos := "law.go:153", after := #[{ on := 24, ground := Go.Ground.guard }], guard := some (24, true) }) (v := ?_) rfl (by kernel_rfl) (by kernel_rfl) (by kernel_rfl) (fun _ _ _ h => h) (Or.inl ⟨by rfl, ?_⟩) hH ?_; rotate_left; (focus (intro w hSw; (try dsimp only at hSw); go_simp; (try with_reducible rfl); done)); try simp only [Act.put, List.setIfInBounds_toArray, List.set_cons_zero, List.set_cons_succ])
                  | (refine wpAnyH_take (i := 25) (oi := { dst := some 130, op := Go.Op.move (Go.Operand.tmp 9), type := 30, pos := "law.go:153", after := #[{ on := 24, ground := Go.Ground.guard }], guard := some (24, true) }) (v := undef) rfl (by kernel_rfl) (by kernel_rfl) (by kernel_rfl) (fun _ _ _ h => h) (Or.inr ⟨by rfl, rfl⟩) hH ?_; try simp only [Act.put, List.setIfInBounds_toArray, List.set_cons_zero, List.set_cons_succ])
                first
                  | (refine wpAnyH_take (i := 26) (oi := { dst := some 131, op := Go.Op.move (Go.Operand.tmp 17), type := 3, pos := "law.go:153", after := #[{ on := 24, ground := Go.Ground.guard }], guard := some (24, true) }) (v := ?_) rfl (by kernel_rfl) (by kernel_rfl) (by kernel_rfl) (fun _ _ _ h => h) (Or.inl ⟨by rfl, ?_⟩) hH ?_; rotate_left; (focus (intro w hSw; (try dsimp only at hSw); go_simp; (try with_reducible rfl); done)); try simp only [Act.put, List.setIfInBounds_toArray, List.set_cons_zero, List.set_cons_succ])
                  | (refine wpAnyH_take (i := 26) (oi := { dst := some 131, op := Go.Op.move (Go.Operand.tmp 17), type := 3, pos := "law.go:153", after := #[{ on := 24, ground := Go.Ground.guard }], guard := some (24, true) }) (v := undef) rfl (by kernel_rfl) (by kernel_rfl) (by kernel_rfl) (fun _ _ _ h => h) (Or.inr ⟨by rfl, rfl⟩) hH ?_; try simp only [Act.put, List.setIfInBounds_toArray, List.set_cons_zero, List.set_cons_succ])
                first
                  | (refine wpAnyH_take (i := 27) (oi := { dst := some 132, op := Go.Op.indexAddr 30 (Go.Operand.tmp 130) (Go.Operand.tmp 131), type := 0, pos := "law.go:153", after := #[{ on := 25, ground := Go.Ground.data }, { on := 26, ground := Go.Ground.data }, { on := 24, ground := Go.Ground.guard }], guard := some (24, true) }) (v := ?_) rfl (by kernel_rfl) (by kernel_rfl) (by kernel_rfl) (fun _ _ _ h => h) (Or.inl ⟨by rfl, ?_⟩) hH ?_; rotate_left; (focus (intro w hSw; (try dsimp only at hSw); go_simp; (try with_reducible rfl); done)); try simp only [Act.put, List.setIfInBounds_toArray, List.set_cons_zero, List.set_cons_succ])
                  | (refine wpAnyH_take (i := 27) (oi := { dst := some 132, op := Go.Op.indexAddr 30 (Go.Operand.tmp 130) (Go.Operand.tmp 131), type := 0, pos := "law.go:153", after := #[{ on := 25, ground := Go.Ground.data }, { on := 26, ground := Go.Ground.data }, { on := 24, ground := Go.Ground.guard }], guard := some (24, true) }) (v := undef) rfl (by kernel_rfl) (by kernel_rfl) (by kernel_rfl) (fun _ _ _ h => h) (Or.inr ⟨by rfl, rfl⟩) hH ?_; try simp only [Act.put, List.setIfInBounds_toArray, List.set_cons_zero, List.set_cons_succ])
                first
                  | (refine wpAnyH_take (i := 28) (oi := { dst := some 133, op := Go.Op.fieldAddr 38 (Go.Operand.tmp 132) 0, type := 0, pos := "law.go:153", after := #[{ on := 27, ground := Go.Ground.data }, { on := 24, ground := Go.Ground.guard }], guard := some (24, true) }) (v := ?_) rfl (by kernel_rfl) (by kernel_rfl) (by kernel_rfl) (fun _ _ _ h => h) (Or.inl ⟨by rfl, ?_⟩) hH ?_; rotate_left; (focus (intro w hSw; (try dsimp only at hSw); go_simp; (try with_reducible rfl); done)); try simp only [Act.put, List.setIfInBounds_toArray, List.set_cons_zero, List.set_cons_succ])
                  | (refine wpAnyH_take (i := 28) (oi := { dst := some 133, op := Go.Op.fieldAddr 38 (Go.Operand.tmp 132) 0, type := 0, pos := "law.go:153", after := #[{ on := 27, ground := Go.Ground.data }, { on := 24, ground := Go.Ground.guard }], guard := some (24, true) }) (v := undef) rfl (by kernel_rfl) (by kernel_rfl) (by kernel_rfl) (fun _ _ _ h => h) (Or.inr ⟨by rfl, rfl⟩) hH ?_; try simp only [Act.put, List.setIfInBounds_toArray, List.set_cons_zero, List.set_cons_succ])
                first
                  | (refine wpAnyH_take (i := 29) (oi := { dst := some 134, op := Go.Op.load 3 (Go.Operand.tmp 133), type := 3, pos := "law.go:153", after := #[{ on := 28, ground := Go.Ground.data }, { on := 24, ground := Go.Ground.guard }], guard := some (24, true) }) (v := ?_) rfl (by kernel_rfl) (by kernel_rfl) (by kernel_rfl) (fun _ _ _ h => h) (Or.inl ⟨by rfl, ?_⟩) hH ?_; rotate_left; (focus (intro w hSw; (try dsimp only at hSw); go_simp; (try with_reducible rfl); done)); try simp only [Act.put, List.setIfInBounds_toArray, List.set_cons_zero, List.set_cons_succ])
                  | (refine wpAnyH_take (i := 29) (oi := { dst := some 134, op := Go.Op.load 3 (Go.Operand.tmp 133), type := 3, pos := "law.go:153", after := #[{ on := 28, ground := Go.Ground.data }, { on := 24, ground := Go.Ground.guard }], guard := some (24, true) }) (v := undef) rfl (by kernel_rfl) (by kernel_rfl) (by kernel_rfl) (fun _ _ _ h => h) (Or.inr ⟨by rfl, rfl⟩) hH ?_; try simp only [Act.put, List.setIfInBounds_toArray, List.set_cons_zero, List.set_cons_succ])
                first
                  | (refine wpAnyH_take (i := 30) (oi := { dst := some 135, op := Go.Op.move (Go.Operand.tmp 6), type := 30, pos := "law.go:153", after := #[{ on := 24, ground := Go.Ground.guard }], guard := some (24, true) }) (v := ?_) rfl (by kernel_rfl) (by kernel_rfl) (by kernel_rfl) (fun _ _ _ h => h) (Or.inl ⟨by rfl, ?_⟩) hH ?_; rotate_left; (focus (intro w hSw; (try dsimp only at hSw); go_simp; (try with_reducible rfl); done)); try simp only [Act.put, List.setIfInBounds_toArray, List.set_cons_zero, List.set_cons_succ])
                  | (refine wpAnyH_take (i := 30) (oi := { dst := some 135, op := Go.Op.move (Go.Operand.tmp 6), type := 30, pos := "law.go:153", after := #[{ on := 24, ground := Go.Ground.guard }], guard := some (24, true) }) (v := undef) rfl (by kernel_rfl) (by kernel_rfl) (by kernel_rfl) (fun _ _ _ h => h) (Or.inr ⟨by rfl, rfl⟩) hH ?_; try simp only [Act.put, List.setIfInBounds_toArray, List.set_cons_zero, List.set_cons_succ])
                first
                  | (refine wpAnyH_take (i := 31) (oi := { dst := some 136, op := Go.Op.move (Go.Operand.tmp 17), type := 3, pos := "law.go:153", after := #[{ on := 24, ground := Go.Ground.guard }], guard := some (24, true) }) (v := ?_) rfl (by kernel_rfl) (by kernel_rfl) (by kernel_rfl) (fun _ _ _ h => h) (Or.inl ⟨by rfl, ?_⟩) hH ?_; rotate_left; (focus (intro w hSw; (try dsimp only at hSw); go_simp; (try with_reducible rfl); done)); try simp only [Act.put, List.setIfInBounds_toArray, List.set_cons_zero, List.set_cons_succ])
                  | (refine wpAnyH_take (i := 31) (oi := { dst := some 136, op := Go.Op.move (Go.Operand.tmp 17), type := 3, pos := "law.go:153", after := #[{ on := 24, ground := Go.Ground.guard }], guard := some (24, true) }) (v := undef) rfl (by kernel_rfl) (by kernel_rfl) (by kernel_rfl) (fun _ _ _ h => h) (Or.inr ⟨by rfl, rfl⟩) hH ?_; try simp only [Act.put, List.setIfInBounds_toArray, List.set_cons_zero, List.set_cons_succ])
                first
                  | (refine wpAnyH_take (i := 32) (oi := { dst := some 137, op := Go.Op.indexAddr 30 (Go.Operand.tmp 135) (Go.Operand.tmp 136), type := 0, pos := "law.go:153", after := #[{ on := 30, ground := Go.Ground.data }, { on := 31, ground := Go.Ground.data }, { on := 24, ground := Go.Ground.guard }], guard := some (24, true) }) (v := ?_) rfl (by kernel_rfl) (by kernel_rfl) (by kernel_rfl) (fun _ _ _ h => h) (Or.inl ⟨by rfl, ?_⟩) hH ?_; rotate_left; (focus (intro w hSw; (try dsimp only at hSw); go_simp; (try with_reducible rfl); done)); try simp only [Act.put, List.setIfInBounds_toArray, List.set_cons_zero, List.set_cons_succ])
                  | (refine wpAnyH_take (i := 32) (oi := { dst := some 137, op := Go.Op.indexAddr 30 (Go.Operand.tmp 135) (Go.Operand.tmp 136), type := 0, pos := "law.go:153", after := #[{ on := 30, ground := Go.Ground.data }, { on := 31, ground := Go.Ground.data }, { on := 24, ground := Go.Ground.guard }], guard := some (24, true) }) (v := undef) rfl (by kernel_rfl) (by kernel_rfl) (by kernel_rfl) (fun _ _ _ h => h) (Or.inr ⟨by rfl, rfl⟩) hH ?_; try simp only [Act.put, List.setIfInBounds_toArray, List.set_cons_zero, List.set_cons_succ])
                first
                  | (refine wpAnyH_take (i := 33) (oi := { dst := some 138, op := Go.Op.fieldAddr 38 (Go.Operand.tmp 137) 0, type := 0, pos := "law.go:153", after := #[{ on := 32, ground := Go.Ground.data }, { on := 24, ground := Go.Ground.guard }], guard := some (24, true) }) (v := ?_) rfl (by kernel_rfl) (by kernel_rfl) (by kernel_rfl) (fun _ _ _ h => h) (Or.inl ⟨by rfl, ?_⟩) hH ?_; rotate_left; (focus (intro w hSw; (try dsimp only at hSw); go_simp; (try with_reducible rfl); done)); try simp only [Act.put, List.setIfInBounds_toArray, List.set_cons_zero, List.set_cons_succ])
                  | (refine wpAnyH_take (i := 33) (oi := { dst := some 138, op := Go.Op.fieldAddr 38 (Go.Operand.tmp 137) 0, type := 0, pos := "law.go:153", after := #[{ on := 32, ground := Go.Ground.data }, { on := 24, ground := Go.Ground.guard }], guard := some (24, true) }) (v := undef) rfl (by kernel_rfl) (by kernel_rfl) (by kernel_rfl) (fun _ _ _ h => h) (Or.inr ⟨by rfl, rfl⟩) hH ?_; try simp only [Act.put, List.setIfInBounds_toArray, List.set_cons_zero, List.set_cons_succ])
                first
                  | (refine wpAnyH_take (i := 34) (oi := { dst := some 139, op := Go.Op.load 3 (Go.Operand.tmp 138), type := 3, pos := "law.go:153", after := #[{ on := 33, ground := Go.Ground.data }, { on := 24, ground := Go.Ground.guard }], guard := some (24, true) }) (v := ?_) rfl (by kernel_rfl) (by kernel_rfl) (by kernel_rfl) (fun _ _ _ h => h) (Or.inl ⟨by rfl, ?_⟩) hH ?_; rotate_left; (focus (intro w hSw; (try dsimp only at hSw); go_simp; (try with_reducible rfl); done)); try simp only [Act.put, List.setIfInBounds_toArray, List.set_cons_zero, List.set_cons_succ])
                  | (refine wpAnyH_take (i := 34) (oi := { dst := some 139, op := Go.Op.load 3 (Go.Operand.tmp 138), type := 3, pos := "law.go:153", after := #[{ on := 33, ground := Go.Ground.data }, { on := 24, ground := Go.Ground.guard }], guard := some (24, true) }) (v := undef) rfl (by kernel_rfl) (by kernel_rfl) (by kernel_rfl) (fun _ _ _ h => h) (Or.inr ⟨by rfl, rfl⟩) hH ?_; try simp only [Act.put, List.setIfInBounds_toArray, List.set_cons_zero, List.set_cons_succ])
                first
                  | (refine wpAnyH_take (i := 35) (oi := { dst := some 140, op := Go.Op.binOp Go.BinOp.add 3 (Go.Operand.tmp 139) (Go.Operand.const (Go.Value.int Go.IntKind.i64 2)) 3, type := 3, pos := "law.go:153", after := #[{ on := 34, ground := Go.Ground.data }, { on := 24, ground := Go.Ground.guard }], guard := some (24, true) }) (v := ?_) rfl (by kernel_rfl) (by kernel_rfl) (by kernel_rfl) (fun _ _ _ h => h) (Or.inl ⟨by rfl, ?_⟩) hH ?_; rotate_left; (focus (intro w hSw; (try dsimp only at hSw); go_simp; (try with_reducible rfl); done)); try simp only [Act.put, List.setIfInBounds_toArray, List.set_cons_zero, List.set_cons_succ])
                  | (refine wpAnyH_take (i := 35) (oi := { dst := some 140, op := Go.Op.binOp Go.BinOp.add 3 (Go.Operand.tmp 139) (Go.Operand.const (Go.Value.int Go.IntKind.i64 2)) 3, type := 3, pos := "law.go:153", after := #[{ on := 34, ground := Go.Ground.data }, { on := 24, ground := Go.Ground.guard }], guard := some (24, true) }) (v := undef) rfl (by kernel_rfl) (by kernel_rfl) (by kernel_rfl) (fun _ _ _ h => h) (Or.inr ⟨by rfl, rfl⟩) hH ?_; try simp only [Act.put, List.setIfInBounds_toArray, List.set_cons_zero, List.set_cons_succ])
                first
                  | (refine wpAnyH_take (i := 36) (oi := { dst := some 141, op := Go.Op.binOp Go.BinOp.neq 3 (Go.Operand.tmp 134) (Go.Operand.tmp 140) 3, type := 4, pos := "law.go:153", after := #[{ on := 29, ground := Go.Ground.data }, { on := 35, ground := Go.Ground.data }, { on := 24, ground := Go.Ground.guard }], guard := some (24, true) }) (v := ?_) rfl (by kernel_rfl) (by kernel_rfl) (by kernel_rfl) (fun _ _ _ h => h) (Or.inl ⟨by rfl, ?_⟩) hH ?_; rotate_left; (focus (intro w hSw; (try dsimp only at hSw); go_simp; (try with_reducible rfl); done)); try simp only [Act.put, List.setIfInBounds_toArray, List.set_cons_zero, List.set_cons_succ])
                  | (refine wpAnyH_take (i := 36) (oi := { dst := some 141, op := Go.Op.binOp Go.BinOp.neq 3 (Go.Operand.tmp 134) (Go.Operand.tmp 140) 3, type := 4, pos := "law.go:153", after := #[{ on := 29, ground := Go.Ground.data }, { on := 35, ground := Go.Ground.data }, { on := 24, ground := Go.Ground.guard }], guard := some (24, true) }) (v := undef) rfl (by kernel_rfl) (by kernel_rfl) (by kernel_rfl) (fun _ _ _ h => h) (Or.inr ⟨by rfl, rfl⟩) hH ?_; try simp only [Act.put, List.setIfInBounds_toArray, List.set_cons_zero, List.set_cons_succ])
                first
                  | (refine wpAnyH_take (i := 37) (oi := { dst := some 142, op := Go.Op.pick (Go.Operand.tmp 129) (Go.Operand.tmp 141) (Go.Operand.const (Go.Value.bool false)), type := 4, pos := "law.go:153", after := #[{ on := 24, ground := Go.Ground.data }, { on := 36, ground := Go.Ground.data }, { on := 12, ground := Go.Ground.guard }], guard := some (12, false) }) (v := ?_) rfl (by kernel_rfl) (by kernel_rfl) (by kernel_rfl) (fun _ _ _ h => h) (Or.inl ⟨by rfl, ?_⟩) hH ?_; rotate_left; (focus (intro w hSw; (try dsimp only at hSw); go_simp; (try with_reducible rfl); done)); try simp only [Act.put, List.setIfInBounds_toArray, List.set_cons_zero, List.set_cons_succ])
                  | (refine wpAnyH_take (i := 37) (oi := { dst := some 142, op := Go.Op.pick (Go.Operand.tmp 129) (Go.Operand.tmp 141) (Go.Operand.const (Go.Value.bool false)), type := 4, pos := "law.go:153", after := #[{ on := 24, ground := Go.Ground.data }, { on := 36, ground := Go.Ground.data }, { on := 12, ground := Go.Ground.guard }], guard := some (12, false) }) (v := undef) rfl (by kernel_rfl) (by kernel_rfl) (by kernel_rfl) (fun _ _ _ h => h) (Or.inr ⟨by rfl, rfl⟩) hH ?_; try simp only [Act.put, List.setIfInBounds_toArray, List.set_cons_zero, List.set_cons_succ])
                first
                  | (refine wpAnyH_take (i := 38) (oi := { dst := some 143, op := Go.Op.pick (Go.Operand.tmp 117) (Go.Operand.const (Go.Value.bool true)) (Go.Operand.tmp 142), type := 4, pos := "law.go:153", after := #[{ on := 12, ground := Go.Ground.data }, { on := 37, ground := Go.Ground.data }], guard := none }) (v := ?_) rfl (by kernel_rfl) (by kernel_rfl) (by kernel_rfl) (fun _ _ _ h => h) (Or.inl ⟨by rfl, ?_⟩) hH ?_; rotate_left; (focus (intro w hSw; (try dsimp only at hSw); go_simp; (try with_reducible rfl); done)); try simp only [Act.put, List.setIfInBounds_toArray, List.set_cons_zero, List.set_cons_succ])
                  | (refine wpAnyH_take (i := 38) (oi := { dst := some 143, op := Go.Op.pick (Go.Operand.tmp 117) (Go.Operand.const (Go.Value.bool true)) (Go.Operand.tmp 142), type := 4, pos := "law.go:153", after := #[{ on := 12, ground := Go.Ground.data }, { on := 37, ground := Go.Ground.data }], guard := none }) (v := undef) rfl (by kernel_rfl) (by kernel_rfl) (by kernel_rfl) (fun _ _ _ h => h) (Or.inr ⟨by rfl, rfl⟩) hH ?_; try simp only [Act.put, List.setIfInBounds_toArray, List.set_cons_zero, List.set_cons_succ])
                refine wpAnyH_done (by kernel_rfl) ?_ _
                go_wp2_with fail
                go_roundw
                case rel => exact ⟨k + 1, by omega, by go_num, Lib.hid (sQB hH)⟩
                case measure => simp [intOf]; omega
              · have v4 : (tl != sl) = true := by simp; omega
                have v4' : (tl == sl) = false := by simp; omega
                have v5 : (tl != tl) = false := by simp
                have v6 : IntKind.i64.wrap (sl + 2) = tl := by rw [IntKind.wrap_i64]; omega
                have v7 : ¬ tl = sl := by omega
                clear htl
                go_wp2_with fail
                go_region_held3 (fun w' => w'.cell? ⟨bm, om + k * 2, none⟩ = some (.int .i64 tl) ∧ w'.cell? ⟨bm, om + k * 2 + 1, none⟩ = some (.slice T2 p ct2) ∧ w'.cell? ⟨bl, ol + k * 2, none⟩ = some (.int .i64 sl) ∧ w'.cell? ⟨bl, ol + k * 2 + 1, none⟩ = some (.slice T1 p ct1) ∧ ListAt 3 eTok w' T1 tt ∧ ListAt 3 eTok w' T2 tt ∧ Below w5.heap.size w5 w')
                  (first | (exact keepQ S1 (Below.refl _ _).drew) | (exact keepQ (by assumption) hb))
                  ((go_at_call 26; ((with_reducible refine (toks_yes _ _ _ _ _ tt _ (sQ1 (by assumption)) (sQ2 (by assumption)) HPN.out q6).mono ?_); rintro e w' ⟨rfl, hb⟩)))
                go_wp2_with fail
                go_roundw
                case rel => exact ⟨k + 1, by omega, by go_num, Lib.hid (sQB (by assumption))⟩
                case measure => simp [intOf]; omega
            · have T6 := Lib.hid (T5.out.below HB.out)
              have B6 := Lib.hid (bstep B5.out HB.out)
              go_wp2_with fail
              refine (sane_any _ T6.out).mono ?_
              rintro e w7 ⟨rfl, b7⟩
              have B7 := bstep B6.out b7
              go_wp2_with fail
              go_ret
              exact ⟨rfl, B7⟩
  · have hl : decide ((n : Int) ≤ 500) = false := by simp; omega
    clear hA hn hf
    go_enter Tryz.func5, Tryz.ntmps5
    go_wp2_with fail
    refine (Light_any A n c _).mono ?_
    rw [hl]
    rintro e w' ⟨rfl, rfl⟩
    go_wp2_with fail
    refine (sane_any _ HT.out).mono ?_
    rintro e w1 ⟨rfl, b1⟩
    go_wp2_with fail
    go_ret
    exact ⟨rfl, b1⟩
end Go.Proofs.YtoohijffkbkikaaGreatDoor
