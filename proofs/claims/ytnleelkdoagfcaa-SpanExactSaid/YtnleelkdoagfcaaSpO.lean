/- A set of numbers in the memory, point by point: what the functions do with small sets. -/
import Derived.Test.YtnleelkdoagfcaaSpW
set_option linter.unusedSimpArgs false
set_option linter.unusedVariables false
namespace Spn
theorem clp_mem {f t : Int} : ∀ {l : L} {u : Int × Int}, u ∈ clp f t l → ∃ s ∈ l, u.1 = max s.1 f ∧ u.2 = min s.2 t ∧ u.1 < u.2
  | [], u, h => by simp [clp] at h
  | s :: r, u, h => by
    simp only [clp] at h
    split at h
    · rcases List.mem_cons.1 h with rfl | h
      · exact ⟨s, by simp, rfl, rfl, by assumption⟩
      · obtain ⟨v, hv, e⟩ := clp_mem h; exact ⟨v, by simp [hv], e⟩
    · obtain ⟨v, hv, e⟩ := clp_mem h; exact ⟨v, by simp [hv], e⟩
theorem clp_chain (f t : Int) : ∀ l : L, Chain l → Chain (clp f t l)
  | [], h => h
  | s :: r, h => by
    obtain ⟨a, b, c⟩ := chain_cons.1 h
    simp only [clp]
    split
    · refine chain_cons.2 ⟨by assumption, fun u hu => ?_, clp_chain f t r c⟩
      obtain ⟨v, hv, e1, e2, e3⟩ := clp_mem hu
      have := b v hv
      simp only
      omega
    · exact clp_chain f t r c
theorem clp_cov (f t x : Int) : ∀ l : L, cov (clp f t l) x ↔ cov l x ∧ f ≤ x ∧ x < t
  | [] => by simp [clp, cov]
  | s :: r => by
    have ih := clp_cov f t x r
    simp only [clp]
    split <;> by_cases hc : cov r x <;> simp only [cov_cons, ih, hc, true_and, false_and, or_true, or_false, false_iff] <;> omega
/-- how many of the first n numbers. -/
def many (P : Int → Bool) : Nat → Int
  | 0 => 0
  | n + 1 => many P n + (if P (n : Int) = true then 1 else 0)
theorem many_bd (P : Int → Bool) : ∀ n, 0 ≤ many P n ∧ many P n ≤ n
  | 0 => by simp [many]
  | n + 1 => by have := many_bd P n; simp only [many]; split <;> omega
theorem many_tot (r : L) : ∀ n, tot r n = many (fun x => has r x) n
  | 0 => rfl
  | n + 1 => by simp only [tot, many, many_tot r n]
theorem many_or (P Q : Int → Bool) : ∀ n, many (fun x => P x || Q x) n + many (fun x => P x && Q x) n = many P n + many Q n
  | 0 => rfl
  | n + 1 => by
    have := many_or P Q n
    simp only [many]
    by_cases hp : P (n : Int) = true <;> by_cases hq : Q (n : Int) = true <;> simp [hp, hq] <;> omega
theorem many_minus (P Q : Int → Bool) : ∀ n, many (fun x => P x && !Q x) n + many (fun x => P x && Q x) n = many P n
  | 0 => rfl
  | n + 1 => by
    have := many_minus P Q n
    simp only [many]
    by_cases hp : P (n : Int) = true <;> by_cases hq : Q (n : Int) = true <;> simp [hp, hq] <;> omega
end Spn
namespace Go.Proofs.Ytnleelkdoagfcaa
open Go.RowKit
set_option linter.unusedSimpArgs false

theorem Small.short {r : Spn.L} (h : Small r) : (r.length : Int) ≤ 34 := by
  have := chain_short (lo := 0) (hi := 66) r ((Spn.vld_iff r).1 h.1).2.2 (fun s hs => ⟨(Spn.vld_all h.1 s hs).1, h.2 s hs⟩) (by omega)
  omega
theorem Small.comb {k : Int} {a b r : Spn.L} {er : Int} (h : RC (Spn.kind k) a b r er) (ha : Small a) (hb : Small b) : er = 0 ∧ Small r ∧ ∀ x, Spn.has r x = Spn.kind k (Spn.has a x) (Spn.has b x) := by
  rcases h with ⟨_, _, s, hs, rfl, rfl⟩ | ⟨h, _, _⟩
  · have lim : ∀ x, Spn.Kept (Spn.kind k) a b x → 0 ≤ x ∧ x < 66 := fun x hx => by
      have key : ∀ c, Small c → Spn.has c x = true → 0 ≤ x ∧ x < 66 := fun c hc hx => by
        obtain ⟨-, t, ht, p, q⟩ := (Spn.has_iff c x).1 hx
        have := Spn.vld_all hc.1 t ht; have := hc.2 t ht; omega
      unfold Spn.Kept at hx
      by_cases h1 : Spn.has a x = true
      · exact key a ha h1
      · by_cases h2 : Spn.has b x = true
        · exact key b hb h2
        · rw [show Spn.has a x = false by simpa using h1, show Spn.has b x = false by simpa using h2, Spn.kind_no] at hx; cases hx
    have hbd : ∀ t ∈ s, 0 ≤ t.1 ∧ t.2 ≤ 66 := fun t ht => by
      have hlt := hs.1.1 t ht
      have k1 := lim _ ((hs.2 t.1).2 ⟨t, ht, by omega, by omega⟩)
      have k2 := lim _ ((hs.2 (t.2 - 1)).2 ⟨t, ht, by omega, by omega⟩)
      omega
    have hl := chain_short (lo := 0) (hi := 66) s hs.1 hbd (by omega)
    rw [if_pos (by omega), if_pos (by omega)]
    have hv := Spn.comb_vld hs (Spn.kind_no k) ha.1 hb.1 (by omega)
    exact ⟨rfl, ⟨hv.1, fun t ht => (hbd t ht).2⟩, hv.2⟩
  · rcases h with h | h
    · rw [ha.1] at h; cases h
    · rw [hb.1] at h; cases h
theorem Small.clip {r : Spn.L} (h : Small r) (f t : Int) : Small (Spn.clp f t r) ∧ ∀ x, Spn.has (Spn.clp f t r) x = (Spn.has r x && decide (f ≤ x) && decide (x < t)) := by
  have hi := (Spn.vld_iff r).1 h.1
  have hv : Spn.vld (Spn.clp f t r) = true := (Spn.vld_iff _).2 ⟨Nat.le_trans (Spn.clp_len f t r) hi.1, fun s hs => by
    obtain ⟨v, hv, e1, e2, e3⟩ := Spn.clp_mem hs
    have := hi.2.1 v hv; omega, Spn.clp_chain f t r hi.2.2⟩
  refine ⟨⟨hv, fun s hs => ?_⟩, fun x => ?_⟩
  · obtain ⟨v, hv, e1, e2, e3⟩ := Spn.clp_mem hs
    have := h.2 v hv; omega
  · rw [Bool.eq_iff_iff, Spn.has_iff, Spn.clp_cov]
    simp only [hv, true_and, Bool.and_eq_true, decide_eq_true_eq, Spn.has_iff, h.1]
    exact ⟨fun ⟨a, b, c⟩ => ⟨⟨a, b⟩, c⟩, fun ⟨⟨a, b⟩, c⟩ => ⟨a, b, c⟩⟩

/-- a small set lies at v: P says which numbers it has. -/
def IsSet (w : World) (v : Value) (P : Int → Bool) : Prop := ∃ A c r, v = .slice A (List.length r) c ∧ SpansAt w A r ∧ Small r ∧ ∀ x, Spn.has r x = P x
theorem IsSet.below {w w' : World} {v : Value} {P : Int → Bool} (h : IsSet w v P) (hb : Below w.heap.size w w') : IsSet w' v P := by
  obtain ⟨A, c, r, e, S, q⟩ := h
  exact ⟨A, c, r, e, S.below hb, q⟩
theorem IsSet.grown {w w' : World} {v : Value} {P : Int → Bool} {g n c : Nat} {A : Option Addr} {zs : List Int} (h : IsSet w v P) (hD : Dice w g A n c zs) (hg : w.grownBy w' (some g)) : IsSet w' v P := by
  obtain ⟨A, c, r, e, S, q⟩ := h
  obtain ⟨p, hp, hd⟩ := hD.at_
  exact ⟨A, c, r, e, S.grown hd hg, q⟩
/-- what a function says that makes a set. -/
def Sets (P : Int → Bool) (w : World) (e : Ending) (w' : World) : Prop := ∃ v, e = .returned (.tuple #[v, .int .i64 0]) ∧ IsSet w' v P ∧ Below w.heap.size w w'
theorem sets_of {k : Int} {xs ys : Spn.L} {w w' : World} {e : Ending} {P Q : Int → Bool} (h : Combined (Spn.kind k) xs ys w e w') (hx : Small xs) (hy : Small ys) (hP : ∀ x, Spn.has xs x = P x) (hQ : ∀ x, Spn.has ys x = Q x) :
    Sets (fun x => Spn.kind k (P x) (Q x)) w e w' := by
  obtain ⟨r, er, HR, A, c, rfl, S, b⟩ := h
  obtain ⟨rfl, hs, hp⟩ := Small.comb HR.out hx hy
  exact ⟨_, rfl, ⟨A, c, r, rfl, S, hs, fun x => by rw [hp, hP, hQ]⟩, b⟩
variable {w : World} {u v : Value} {P Q : Int → Bool}
theorem union_set (h : IsSet w v P) (h' : IsSet w u Q) : Calls Try.prog 19 #[v, u] w (Sets (fun x => P x || Q x) w) := by
  obtain ⟨A, c, r, rfl, S, hs, hp⟩ := h
  obtain ⟨B, d, s, rfl, T, ht, hq⟩ := h'
  exact (Union_any A B _ _ c d r s w S T rfl rfl (by have := hs.short; omega) (by have := ht.short; omega)).mono fun e w' h => sets_of h hs ht hp hq
theorem meet_set (h : IsSet w v P) (h' : IsSet w u Q) : Calls Try.prog 21 #[v, u] w (Sets (fun x => P x && Q x) w) := by
  obtain ⟨A, c, r, rfl, S, hs, hp⟩ := h
  obtain ⟨B, d, s, rfl, T, ht, hq⟩ := h'
  exact (Meet_any A B _ _ c d r s w S T rfl rfl (by have := hs.short; omega) (by have := ht.short; omega)).mono fun e w' h => sets_of h hs ht hp hq
theorem minus_set (h : IsSet w v P) (h' : IsSet w u Q) : Calls Try.prog 23 #[v, u] w (Sets (fun x => P x && !Q x) w) := by
  obtain ⟨A, c, r, rfl, S, hs, hp⟩ := h
  obtain ⟨B, d, s, rfl, T, ht, hq⟩ := h'
  exact (Minus_any A B _ _ c d r s w S T rfl rfl (by have := hs.short; omega) (by have := ht.short; omega)).mono fun e w' h => sets_of h hs ht hp hq
theorem clip_set (h : IsSet w v P) (f t : Int) : Calls Try.prog 32 #[v, .int .i64 f, .int .i64 t] w (Sets (fun x => P x && decide (f ≤ x) && decide (x < t)) w) := by
  obtain ⟨A, c, r, rfl, S, hs, hp⟩ := h
  refine (Clip_any A _ c r f t w S rfl (by have := hs.short; omega)).mono fun e w' h => ?_
  rw [if_pos hs.1, if_pos hs.1] at h
  obtain ⟨B, d, rfl, T, b⟩ := h
  have := hs.clip f t
  exact ⟨_, rfl, ⟨B, d, _, rfl, T, this.1, fun x => by rw [this.2, hp]⟩, b⟩
theorem same_set (h : IsSet w v P) (h' : IsSet w u Q) (e : ∀ x, P x = Q x) : Calls Try.prog 14 #[v, u] w fun e w' => e = .returned (.bool true) ∧ Below w.heap.size w w' := by
  obtain ⟨A, c, r, rfl, S, hs, hp⟩ := h
  obtain ⟨B, d, s, rfl, T, ht, hq⟩ := h'
  have := same_any A B _ _ c d r s w S T rfl rfl (by have := hs.short; omega) (by have := ht.short; omega)
  rwa [decide_eq_true (Spn.vld_uniq hs.1 ht.1 fun x => by rw [hp, hq, e])] at this
theorem has_set (h : IsSet w v P) (x : Int) : Calls Try.prog 28 #[v, .int .i64 x] w fun e w' => e = .returned (.bool (P x)) ∧ Below w.heap.size w w' := by
  obtain ⟨A, c, r, rfl, S, hs, hp⟩ := h
  have := Has_any A _ c r x w S rfl (by have := hs.short; omega)
  rwa [hp] at this
theorem valid_set (h : IsSet w v P) : Calls Try.prog 15 #[v] w fun e w' => e = .returned (.bool true) ∧ Below w.heap.size w w' := by
  obtain ⟨A, c, r, rfl, S, hs, hp⟩ := h
  have := Valid_any A _ c r w S rfl (by have := hs.short; omega)
  rwa [hs.1] at this
theorem length_set (h : IsSet w v P) : Calls Try.prog 17 #[v] w fun e w' => e = .returned (.int .i64 (Spn.many P 80)) ∧ Below w.heap.size w w' := by
  obtain ⟨A, c, r, rfl, S, hs, hp⟩ := h
  have := Length_any A _ c r w S rfl (by have := hs.short; omega)
  rwa [show Spn.len r = Spn.many P 80 by
    unfold Spn.len
    rw [if_pos hs.1, Spn.sum_tot hs.1 80 fun s h => by have := hs.2 s h; omega, Spn.many_tot]
    congr 1; funext x; exact hp x] at this
/-- what a roll of a set does. -/
def Rolled (w : World) (g : Nat) (A : Option Addr) (n c : Nat) (zs : List Int) (e : Ending) (w' : World) : Prop := ∃ v P, e = .returned v ∧ IsSet w' v P ∧ w.grownBy w' (some g) ∧ Dice w' g A n c zs
theorem roll_set {g n c : Nat} {A : Option Addr} {zs : List Int} (h : Dice w g A n c zs) : Calls Try.prog 11 #[.pointer (some ⟨g, 0, none⟩)] w (Rolled w g A n c zs) :=
  (Set_any g n c A zs w h).mono fun e w' ⟨R, cr, r, he, S, hs, G, D⟩ => ⟨_, _, he, ⟨R, cr, r, rfl, S, hs, fun _ => rfl⟩, G, D⟩
end Go.Proofs.Ytnleelkdoagfcaa
