/- Lists of spans that a call makes: rows of its own; Clip of both. -/
import Derived.Test.YtnleelkdoagfcaaSpC
import Derived.Deep.AppendLies
import Derived.Laws.OwnMore
import Derived.StillTailTactics
namespace Go.Proofs.Ytnleelkdoagfcaa
open Go.RowKit
set_option linter.unusedVariables false
set_option linter.unusedSimpArgs false

theorem info47 : (Try.prog.info? 47).map (fun i => (i.zero, i.size, i.bytes)) = some (some (.agg #[.int .i64 0, .int .i64 0]), 2, 16) := by kernel_rfl
theorem info3 : (Try.prog.info? 3).map (fun i => (i.zero, i.size, i.bytes)) = some (some (.int .i64 0), 1, 8) := by kernel_rfl

/-- The cells of a list of spans. -/
def enc (xs : Spn.L) : List Value := xs.flatMap fun s => [.int .i64 s.1, .int .i64 s.2]
theorem enc_snoc (xs : Spn.L) (s : Int × Int) : enc (xs ++ [s]) = enc xs ++ [.int .i64 s.1, .int .i64 s.2] := by simp [enc]
theorem enc_len (xs : Spn.L) : (enc xs).length = xs.length * 2 := by
  induction xs with
  | nil => rfl
  | cons s r ih =>
    have e : enc (s :: r) = [.int .i64 s.1, .int .i64 s.2] ++ enc r := rfl
    rw [e, List.length_append, ih]; simp; omega
theorem enc_get : ∀ (xs : Spn.L) (k : Nat), k < xs.length → (enc xs)[k * 2]? = some (.int .i64 (xs.getD k (0, 0)).1) ∧ (enc xs)[k * 2 + 1]? = some (.int .i64 (xs.getD k (0, 0)).2)
  | [], _, h => by simp at h
  | s :: r, 0, _ => ⟨rfl, rfl⟩
  | s :: r, k + 1, h => by
    have e : enc (s :: r) = (.int .i64 s.1) :: (.int .i64 s.2) :: enc r := rfl
    have ih := enc_get r k (by simpa using h)
    rw [e, show (k + 1) * 2 = k * 2 + 1 + 1 by omega]
    exact ⟨by simpa using ih.1, by simpa using ih.2⟩

/-- A slice value that owns these spans, from block B on. -/
def Own (w : World) (B : Nat) (v : Value) (ys : Spn.L) : Prop := w.ownsRow B 47 2 v ys.length (enc ys)
theorem Own.nil_ (w : World) (B : Nat) : Own w B (.slice none 0 0) [] := World.ownsRow_nil w B _ 2
theorem Own.shape {w : World} {B : Nat} {v : Value} {ys : Spn.L} (h : Own w B v ys) : ∃ A c, v = .slice A ys.length c ∧ SpansAt w A ys := by
  rcases h.2 with ⟨rfl, h0⟩ | ⟨g, cap, cur, rfl, hb, hg, h1, h2, h3, h4⟩
  · exact ⟨none, 0, by rw [h0], fun h => absurd h (by omega)⟩
  · refine ⟨_, _, rfl, fun h0 => ⟨g, 0, rfl, ?_, fun k hk => ?_⟩⟩
    · rcases Nat.lt_or_ge g w.heap.size with hlt | hge
      · exact hlt
      · rw [Array.getElem?_eq_none hge] at hg; cases hg
    · have hh : w.ownsRow B 47 2 (.slice (some ⟨g, 0, none⟩) ys.length cap) ys.length (enc ys) := ⟨h.1, .inr ⟨g, cap, cur, rfl, hb, hg, h1, h2, h3, h4⟩⟩
      have e := enc_get ys k hk
      rw [Nat.zero_add]
      exact ⟨(hh.cellAt (k * 2) (by omega)).trans e.1, (hh.cellAt (k * 2 + 1) (by omega)).trans e.2⟩
theorem Own.alloc {w : World} {B : Nat} {v : Value} {ys : Spn.L} (h : Own w B v ys) (o : Obj) : Own (w.alloc o) B v ys := World.ownsRow.alloc h o
theorem Own.drewN {w : World} {B : Nat} {v : Value} {ys : Spn.L} (h : Own w B v ys) (n : Nat) : Own (w.drewN n) B v ys := h
theorem Own.below {w w' : World} {B : Nat} {v : Value} {ys : Spn.L} (h : Own w B v ys) (hb : Below w.heap.size w w') : Own w' B v ys := by
  refine ⟨h.1, ?_⟩
  rcases h.2 with h0 | ⟨g, cap, cur, e, hB, hg, hr⟩
  · exact .inl h0
  · refine .inr ⟨g, cap, cur, e, hB, ?_, hr⟩
    have hlt : g < w.heap.size := by
      rcases Nat.lt_or_ge g w.heap.size with hlt | hge
      · exact hlt
      · rw [Array.getElem?_eq_none hge] at hg; cases hg
    exact (hb.block g hlt).trans hg
theorem one_cells (a b : Int) : ∀ u ∈ [Value.int .i64 a, Value.int .i64 b], u.oneCell' = true := by
  intro u hu; simp at hu; rcases hu with rfl | rfl <;> rfl

theorem cell_new0 {W : World} {B : Nat} {a b : Value} {T : TypeId} (h : W.heap.size = B) : (W.alloc (.cells #[a, b] T)).cell? ⟨B, 0, none⟩ = some a := by subst h; simp
theorem cell_new1 {W : World} {B : Nat} {a b : Value} {T : TypeId} (h : W.heap.size = B) : (W.alloc (.cells #[a, b] T)).cell? ⟨B, 1, none⟩ = some b := by subst h; simp
/-- append of one span to a row of the call's own. -/
theorem wp_append_span {ops : Array Oper} {rest : List Oper} {o : Oper} {a : Act} {Q : Exit → Act → World → Prop} (w : World) (hgd : o.guard = none) (s x : Operand)
    (ho : o.op = .call { callee := .builtin .append, args := #[s, x], argTypes := #[22, 22] }) (B : Nat) (v : Value) (ys : Spn.L) (hs : a.eval s = v) (hown : Own w B v ys)
    (blk : Nat) (p q : Int) (hx : a.eval x = .slice (some ⟨blk, 0, none⟩) 1 1) (hb0 : w.cell? ⟨blk, 0, none⟩ = some (.int .i64 p)) (hb1 : w.cell? ⟨blk, 1, none⟩ = some (.int .i64 q))
    (hlen : ys.length ≤ 1000000) (hB : B ≤ w.heap.size)
    (h : ∀ g cap w', Own w' B (.slice (some ⟨g, 0, none⟩) (ys.length + 1) cap) (ys ++ [(p, q)]) → Below B w w' → w.grownBy w' v.ownBlock → g < w'.heap.size →
      wpList Try.prog ops Q rest (a.put o.dst (.slice (some ⟨g, 0, none⟩) (ys.length + 1) cap)) w') : wpList Try.prog ops Q (o :: rest) a w := by
  obtain ⟨i0, hi0, hz0, hz1, hz2⟩ := info_parts info47
  refine wpList_append_lies w hgd s x 22 ho B 47 i0 _ 2 16 Try.underlying22 hi0 hz0 hz1 hz2 rfl (by omega) v ys.length (enc ys) hs hown ⟨blk, 0, none⟩ 1 1 [.int .i64 p, .int .i64 q] hx rfl ?_ (one_cells p q) (by omega) (by simp only [maxLen]; omega) (by omega) hB _ rfl ?_
  · intro j u hu
    match j with
    | 0 => simp at hu; subst hu; exact hb0
    | 1 => simp at hu; subst hu; exact hb1
    | (k + 2) => simp at hu
  · intro g cap w' h1 h2 h3 h4
    refine h g cap w' ?_ ?_ h2 h4
    · unfold Own
      rw [enc_snoc, List.length_append]
      exact h1
    · exact (Below.refl B w).grown h2 hB (fun k hk => (World.ownsRow.lt hown k hk).1)

/-- What a call hands back that makes a list of spans. -/
def Gives (ys : Spn.L) (er : Int) (w : World) (e : Ending) (w' : World) : Prop :=
  ∃ A c, e = .returned (.tuple #[.slice A ys.length c, .int .i64 er]) ∧ SpansAt w' A ys ∧ Below w.heap.size w w'
theorem Gives.none_ {er : Int} {w w' : World} (hb : Below w.heap.size w w') : Gives [] er w (.returned (.tuple #[.slice none 0 0, .int .i64 er])) w' :=
  ⟨none, 0, rfl, SpansAt.nil_, hb⟩

set_option maxHeartbeats 4000000 in
theorem Clip_any (A : Option Addr) (n c : Nat) (xs : Spn.L) (f t : Int) (w : World) (hA : SpansAt w A xs) (hn : xs.length = n) (hm : n ≤ 9223372036854775807) :
    Calls Try.prog 32 #[.slice A n c, .int .i64 f, .int .i64 t] w (Gives (if Spn.vld xs = true then Spn.clp f t xs else []) (if Spn.vld xs = true then 0 else 8) w) := by
  have hV := Valid_any A n c xs w hA hn hm
  by_cases hv : Spn.vld xs = true
  · rw [if_pos hv, if_pos hv]
    have h4 : (n : Int) ≤ 4096 := by have := ((Spn.vld_iff xs).1 hv).1; omega
    rw [hv] at hV
    have HN := Lib.hid hn
    clear hn hv
    go_enter Try.func32, Try.ntmps32
    go_wp2_with fail
    refine hV.mono ?_
    rintro e w1 ⟨rfl, b1⟩
    have hA1 := hA.below b1
    go_wp2_with fail
    go_loopw [8, 17] (fun v i wr => ∃ k : Nat, k ≤ n ∧ i = .int .i64 k ∧ Own wr w.heap.size v (Spn.clp f t (xs.take k)) ∧ Below w.heap.size w wr) (fun _ i _ => n - (intOf i).toNat)
    case atStart => exact ⟨0, Nat.zero_le _, rfl, Own.nil_ _ _, b1⟩
    case round =>
      obtain ⟨k, hk, rfl, hO, hB⟩ := hrel
      by_cases hlt : k < n
      · obtain ⟨b, off, rfl, hb, hc⟩ := (hA.below hB) (by have := HN.out; omega)
        obtain ⟨c0, c1⟩ := hc k (by have := HN.out; omega)
        clear hc
        obtain ⟨⟨g, u⟩, HS⟩ : ∃ s : Int × Int, Hid (xs.getD k (0, 0) = s) := ⟨_, Lib.hid rfl⟩
        rw [HS.out] at c0 c1
        have hT := congrArg (Spn.clp f t) (Spn.take_snoc xs k (0, 0) (by have := HN.out; omega))
        rw [HS.out, Spn.clp_snoc] at hT
        have hlen := Spn.clp_len f t (xs.take k)
        have hlt2 : (xs.take k).length = k := by rw [List.length_take]; have := HN.out; omega
        rw [hlt2] at hlen
        clear hlt2
        obtain ⟨ys, HY⟩ : ∃ ys, Hid (Spn.clp f t (xs.take k) = ys) := ⟨_, Lib.hid rfl⟩
        rw [HY.out] at hO hlen hT
        have HT := Lib.hid hT
        clear hT
        have hbz := hB.size
        by_cases p3 : max g f < min u t
        · by_cases p1 : g < f <;> by_cases p2 : t < u
          all_goals
            go_wp2_with (at_builtin; refine wp_append_span _ rfl _ _ rfl w.heap.size _ ys rfl (((hO.alloc _).alloc _).alloc _) (wr.heap.size + 2) _ _ rfl (cell_new0 (by simp)) (cell_new1 (by simp)) (by omega) (by simp; omega) ?_; intro gg cap w2 hO2 hB2 _ hg2)
            have hT2 := HT.out
            rw [if_pos p3, show max g f = _ by first | exact Int.max_eq_right (by omega) | exact Int.max_eq_left (by omega), show min u t = _ by first | exact Int.min_eq_right (by omega) | exact Int.min_eq_left (by omega)] at hT2
            rw [← hT2] at hO2
            have hBn : Below w.heap.size w w2 := (((hB.alloc hB.size _).alloc (by simp; omega) _).alloc (by simp; omega) _).trans hB2
            clear hT2 hB2 hO
            go_wp2_with fail
            go_roundw
            case rel => exact ⟨k + 1, by omega, by go_num, hO2, hBn⟩
            case measure => simp [intOf]; omega
        · have hT2 := HT.out
          rw [if_neg p3, List.append_nil] at hT2
          rw [← hT2] at hO
          clear hT2
          by_cases p1 : g < f <;> by_cases p2 : t < u
          all_goals
            go_wp2_with fail
            go_roundw
            case rel => exact ⟨k + 1, by omega, by go_num, (hO.alloc _).alloc _, (hB.alloc hB.size _).alloc (by simp; omega) _⟩
            case measure => simp [intOf]; omega
      · obtain ⟨A', c', rfl, hS⟩ := hO.shape
        have hk2 : xs.take k = xs := List.take_of_length_le (by have := HN.out; omega)
        rw [hk2] at hS ⊢
        clear hk2
        go_wp2_with fail
        go_ret2
        exact ⟨A', c', rfl, hS, hB⟩
  · have hv' : Spn.vld xs = false := by simpa using hv
    rw [if_neg hv, if_neg hv]
    rw [hv'] at hV
    clear hn hv hv'
    go_enter Try.func32, Try.ntmps32
    go_wp2_with fail
    refine hV.mono ?_
    rintro e w1 ⟨rfl, b1⟩
    go_wp2_with fail
    go_ret2
    exact Gives.none_ b1
end Go.Proofs.Ytnleelkdoagfcaa
