/- Package week: add and addWeeks. -/
import Derived.Test.YtndngkfiamdohaaDoorWb
import Derived.Test.YtndngkfiamdohaaDoorMad
namespace Go.Proofs.YtndngkfiamdohaaDoor
open Go.RowKit
set_option linter.unusedVariables false
set_option linter.unusedSimpArgs false
set_option maxRecDepth 100000

theorem addP_skip {s : Wk.L} {a b : Int} (h : b ≤ a) : Wk.addP s a b = s := by unfold Wk.addP; rw [if_pos h]
theorem addP_first {a b : Int} (h : ¬ b ≤ a) : Wk.addP [] a b = [(a, b)] := by unfold Wk.addP; rw [if_neg h]; rfl
theorem addP_join {s : Wk.L} {a b : Int} {y : Int × Int} (h : ¬ b ≤ a) (h2 : s.getLast? = some y) (h3 : y.2 = a) : Wk.addP s a b = s.dropLast ++ [(y.1, b)] := by unfold Wk.addP; rw [if_neg h, h2]; simp [h3]
theorem addP_app {s : Wk.L} {a b : Int} {y : Int × Int} (h : ¬ b ≤ a) (h2 : s.getLast? = some y) (h3 : y.2 ≠ a) : Wk.addP s a b = s ++ [(a, b)] := by unfold Wk.addP; rw [if_neg h, h2]; simp [h3]
theorem addP_len (s : Wk.L) (a b : Int) : (Wk.addP s a b).length ≤ s.length + 1 := by
  by_cases h : b ≤ a
  · rw [addP_skip h]; omega
  · cases h2 : s.getLast? with
    | none => rw [List.getLast?_eq_none_iff] at h2; subst h2; rw [addP_first h]; exact Nat.le_refl _
    | some y =>
      by_cases h3 : y.2 = a
      · rw [addP_join h h2 h3]; simp
      · rw [addP_app h h2 h3]; simp
theorem addW_len (l : Wk.L) (f t m : Int) : ∀ s : Wk.L, (Wk.addW l f t m s).length ≤ s.length + l.length := by
  unfold Wk.addW
  induction l with
  | nil => intro s; simp
  | cons x r ih =>
    intro s
    rw [List.foldl_cons]
    have := ih (Wk.addP s (max (m + x.1) f) (min (m + x.2) t))
    have := addP_len s (max (m + x.1) f) (min (m + x.2) t)
    rw [List.length_cons]; omega
theorem last_set {s : Wk.L} {y : Int × Int} (h : s.getLast? = some y) (z : Int × Int) : s.dropLast ++ [z] = s.set (s.length - 1) z ∧ s[s.length - 1]? = some y ∧ 0 < s.length := by
  rcases List.eq_nil_or_concat s with rfl | ⟨t, u, rfl⟩
  · simp at h
  · simp at h; subst h
    simp [List.set_append]
theorem encK_set2 {xs : Zn.L} {i : Nat} {x : Int × Int} (hx : xs[i]? = some x) (b : Int) : encK 2 ePair (xs.set i (x.1, b)) = (encK 2 ePair xs).set (i * 2 + 1) (.int .i64 b) := by
  induction xs generalizing i with
  | nil => simp at hx
  | cons y t ih =>
    match i, hx with
    | 0, hx =>
      simp at hx; subst hx
      simp [encK_cons, List.range_succ, ePair]
    | i + 1, hx =>
      have := ih (i := i) (by simpa using hx)
      simp only [List.set_cons_succ, encK_cons, this]
      simp [List.range_succ, Nat.add_mul]
theorem OwnL.set2 {T : TypeId} {w : World} {B g n cap : Nat} {xs : Zn.L} (h : OwnL T 2 ePair w B (.slice (some ⟨g, 0, none⟩) n cap) xs) {i : Nat} {x : Int × Int} (hx : xs[i]? = some x) (b : Int) :
    OwnL T 2 ePair (w.setCell ⟨g, i * 2 + 1, none⟩ (.int .i64 b)) B (.slice (some ⟨g, 0, none⟩) n cap) (xs.set i (x.1, b)) := by
  rcases h.2 with ⟨hv, -⟩ | ⟨g', cap', cur, hv, hB, hg, hc1, hc2, hc3, hc4⟩
  · cases hv
  cases hv
  unfold OwnL
  have hl := encK_len (k := 2) (e := ePair) (xs.set i (x.1, b))
  rw [List.length_set] at hl ⊢
  refine ⟨hl, .inr ⟨g, cap, cur.setIfInBounds (i * 2 + 1) (.int .i64 b), rfl, hB, ?_, hc1, hc2, by simpa using hc3, ?_⟩⟩
  · have b1 : BlkAt w g cur T := hg
    exact BlkAt.set_ b1 (i * 2 + 1) _
  · rw [encK_set2 hx, ← hc4]
    simp only [Array.toList_setIfInBounds, List.take_set]
/-- A step in which only the row of v is written, and v' is that row or a new one. -/
def Stp (w w' : World) (v v' : Value) : Prop := w.grownBy w' v.ownBlock ∧ ∀ g, v'.ownBlock = some g → v.ownBlock = some g ∨ w.heap.size ≤ g
theorem Stp.refl (w : World) (v : Value) : Stp w w v v := ⟨grown_refl w _, fun g h => .inl h⟩
theorem Stp.trans {w w1 w2 : World} {v v1 v2 : Value} (h : Stp w w1 v v1) (h2 : Stp w1 w2 v1 v2) : Stp w w2 v v2 := by
  refine ⟨⟨h2.1.os.trans h.1.os, h2.1.tape.trans h.1.tape, h2.1.output.trans h.1.output, Nat.le_trans h.1.size h2.1.size, fun k hk hr => ?_⟩, fun g hg => ?_⟩
  · refine (h2.1.block k (Nat.lt_of_lt_of_le hk h.1.size) (fun e => ?_)).trans (h.1.block k hk hr)
    rcases h.2 k e.symm with h3 | h3
    · exact hr h3.symm
    · omega
  · rcases h2.2 g hg with h3 | h3
    · exact h.2 g h3
    · exact .inr (Nat.le_trans h.1.size h3)
theorem Stp.below {w w1 w2 : World} {v v1 : Value} (h : Stp w w1 v v1) (hb : Below w1.heap.size w1 w2) : Stp w w2 v v1 := ⟨grown_then h.1 hb h.1.size, h.2⟩
theorem Stp.alloc {w w1 : World} {v v1 : Value} (h : Stp w w1 v v1) (o : Obj) : Stp w (w1.alloc o) v v1 := h.below ((Below.refl _ _).alloc (Nat.le_refl _) o)
theorem Stp.drewN {w w1 : World} {v v1 : Value} (h : Stp w w1 v v1) (q : Nat) : Stp w (w1.drewN q) v v1 := ⟨grown_drewN h.1 q, h.2⟩
theorem Stp.toBelow {T : TypeId} {k : Nat} {α : Type} {e : α → Nat → Value} {xs : List α} {B : Nat} {w w1 : World} {v v1 : Value} (h : Stp w w1 v v1) (hO : OwnL T k e w B v xs) (hB : B ≤ w.heap.size) : Below B w w1 :=
  (Below.refl B w).grown h.1 hB (fun q hq => (World.ownsRow.lt hO q hq).1)
theorem Stp.app {w w0 w1 : World} {o : Obj} {v : Value} {g n cap : Nat} (hw : w0 = w.alloc o) (hg : w0.grownBy w1 v.ownBlock) (hgo : v.ownBlock = some g ∨ g = w0.heap.size) : Stp w w1 v (.slice (some ⟨g, 0, none⟩) n cap) := by
  subst hw
  refine ((Stp.refl w v).alloc o).trans ⟨hg, fun g' h => ?_⟩
  simp only [Value.ownBlock, Option.some.injEq] at h
  subst h
  rcases hgo with h | h
  · exact .inl h
  · exact .inr (by omega)

set_option maxHeartbeats 4000000 in
theorem add_any (v : Value) (s : Wk.L) (a b : Int) (B : Nat) (w : World) (hO : OwnL 38 2 ePair w B v s) (hl : s.length ≤ 900000) (hB : B ≤ w.heap.size) :
    Calls Tryd.prog 56 #[v, .int .i64 a, .int .i64 b] w fun e w' => ∃ v', e = .returned v' ∧ OwnL 38 2 ePair w' B v' (Wk.addP s a b) ∧ Stp w w' v v' := by
  obtain ⟨R, hR⟩ : ∃ R, Wk.addP s a b = R := ⟨_, rfl⟩
  rw [hR]
  have HO := Lib.hid hO
  by_cases h1 : b ≤ a
  · have HR := Lib.hid (show s = R by rw [← hR, addP_skip h1])
    clear hR hO
    go_enter Tryd.func56, Tryd.ntmps56
    go_wp2_with fail
    go_ret
    exact ⟨v, rfl, HR.out ▸ HO.out, Stp.refl _ _⟩
  · cases h2 : s.getLast? with
    | none =>
      rw [List.getLast?_eq_none_iff] at h2
      subst h2
      obtain ⟨A1, c1, rfl, -, -, -⟩ := hO.shape
      rw [List.length_nil] at HO ⊢
      have HR := Lib.hid (show [(a, b)] = R by rw [← hR, addP_first h1])
      clear hR hO
      go_enter Tryd.func56, Tryd.ntmps56
      go_wp2_with (at_builtin; refine wp_append_one kSpn _ rfl _ _ rfl B _ [] rfl (HO.out.alloc _) w.heap.size (a, b) rfl (pair_new (x := (a, b)) rfl) (by simp) (by simp; omega) ?_; intro gg cap w3 hO3 hB3 hg3 hgo _)
      go_wp2_with fail
      go_ret
      exact ⟨_, rfl, HR.out ▸ hO3, Stp.app rfl hg3 hgo⟩
    | some y =>
      obtain ⟨l1, l2, l3⟩ := last_set h2 (y.1, b)
      obtain ⟨q, hq⟩ : ∃ q, s.length = q := ⟨_, rfl⟩
      rcases hO.row with ⟨-, h⟩ | ⟨g, cap, hv, h3, h4, h5, h6⟩
      · subst h; simp at l3
      · subst hv
        obtain ⟨c1, f1⟩ := h6 _ y l2 1 (by omega)
        rw [hq] at c1 f1 h5 l1 l2 l3 HO hl ⊢
        have hc : w.cell? ⟨g, (q - 1) * 2 + 1, none⟩ = some (.int .i64 y.2) := c1
        have i0 : (0 : Int) ≤ (q : Int) - 1 := by omega
        have i1 : (q : Int) - 1 < q := by omega
        have i2 : ((q : Int) - 1).toNat = q - 1 := by omega
        have i3 : (q : Int) ≤ 900000 := by omega
        have i4 : (1 : Int) ≤ q := by omega
        have HQ := Lib.hid hq
        by_cases he : y.2 = a
        · have HR := Lib.hid (show s.set (q - 1) (y.1, b) = R by rw [← hR, addP_join h1 h2 he, l1])
          have O2 := Lib.hid (HO.out.set2 l2 b)
          have G := Lib.hid (show Stp w (w.setCell ⟨g, (q - 1) * 2 + 1, none⟩ (.int .i64 b)) (.slice (some ⟨g, 0, none⟩) q cap) (.slice (some ⟨g, 0, none⟩) q cap) from ⟨grown_set w g _ _, fun _ h => .inl h⟩)
          rw [he] at hc
          clear hR hO c1 l1 l2 h2 h6 HO hq
          go_enter Tryd.func56, Tryd.ntmps56
          go_wp2_with fail
          go_ret
          exact ⟨_, rfl, HR.out ▸ O2.out, G.out⟩
        · have HR := Lib.hid (show s ++ [(a, b)] = R by rw [← hR, addP_app h1 h2 he])
          have hne : (y.2 == a) = false := by simpa using he
          obtain ⟨y2, hy2⟩ : ∃ y2, y.2 = y2 := ⟨_, rfl⟩
          rw [hy2] at hc hne he
          clear hR hO c1 l1 l2 h2 h6 hy2
          go_enter Tryd.func56, Tryd.ntmps56
          go_wp2_with (at_builtin; refine wp_append_one kSpn _ rfl _ _ rfl B _ s rfl (HO.out.alloc _) w.heap.size (a, b) rfl (pair_new (x := (a, b)) rfl) (by rw [HQ.out]; exact hl) (by simp; omega) ?_; intro gg cap w3 hO3 hB3 hg3 hgo _)
          go_wp2_with fail
          go_ret
          exact ⟨_, rfl, by have := hO3; rw [HQ.out] at this; exact HR.out ▸ this, Stp.app rfl hg3 hgo⟩
end Go.Proofs.YtndngkfiamdohaaDoor
