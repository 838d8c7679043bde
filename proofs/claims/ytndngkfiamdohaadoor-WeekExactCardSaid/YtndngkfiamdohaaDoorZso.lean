/- Plain facts on stable sorting of pairs by their first number: insertion, merging, exchanging ranges. No program is named here. -/
import Derived.Lib.Hide
namespace Go.Proofs.YtndngkfiamdohaaDoor
set_option linter.unusedSimpArgs false
set_option linter.unusedVariables false
namespace Zs
abbrev L := List (Int × Int)
def Asc (l : L) : Prop := l.Pairwise fun x y => x.1 ≤ y.1
/-- The elements with the key k, in their order. -/
def ff (k : Int) (l : L) : L := l.filter fun x => x.1 == k
/-- Equal ones stand in the same order in both. -/
def Sb (l r : L) : Prop := ∀ k, ff k l = ff k r
theorem ff_app (k : Int) (a b : L) : ff k (a ++ b) = ff k a ++ ff k b := List.filter_append ..
theorem ff_nil (k : Int) : ff k [] = [] := rfl
theorem ff_cons (k : Int) (x : Int × Int) (l : L) : ff k (x :: l) = if x.1 = k then x :: ff k l else ff k l := by
  unfold ff; rw [List.filter_cons]; by_cases h : x.1 = k <;> simp [h]
theorem mem_ff {k : Int} {x : Int × Int} {l : L} : x ∈ ff k l ↔ x ∈ l ∧ x.1 = k := by simp [ff]
theorem ff_none {k : Int} {l : L} (h : ∀ x ∈ l, x.1 ≠ k) : ff k l = [] := by
  unfold ff; rw [List.filter_eq_nil_iff]; intro x hx; simp [h x hx]
theorem Sb.refl (l : L) : Sb l l := fun _ => rfl
theorem Sb.trans {a b c : L} (h : Sb a b) (h2 : Sb b c) : Sb a c := fun k => (h k).trans (h2 k)
theorem Sb.symm {a b : L} (h : Sb a b) : Sb b a := fun k => (h k).symm
theorem Sb.app {a b c d : L} (h : Sb a b) (h2 : Sb c d) : Sb (a ++ c) (b ++ d) := fun k => by rw [ff_app, ff_app, h k, h2 k]
theorem Sb.mem {a b : L} (h : Sb a b) (x : Int × Int) : x ∈ a ↔ x ∈ b := by
  have e := h x.1
  have e1 : x ∈ ff x.1 a ↔ x ∈ ff x.1 b := by rw [e]
  simpa [mem_ff] using e1
theorem Sb.flip {A B : L} (h : ∀ x ∈ A, ∀ y ∈ B, y.1 < x.1) : Sb (A ++ B) (B ++ A) := fun k => by
  rw [ff_app, ff_app]
  by_cases hA : ∃ x ∈ A, x.1 = k
  · obtain ⟨x, hx, rfl⟩ := hA
    rw [ff_none (l := B) (fun y hy => by have := h x hx y hy; omega)]; simp
  · rw [ff_none (l := A) (fun y hy e => hA ⟨y, hy, e⟩)]; simp
theorem Sb.cut {P X Y S : L} (h : Sb (P ++ X ++ S) (P ++ Y ++ S)) : Sb X Y := fun k => by
  have := h k
  simp only [ff_app, List.append_assoc] at this
  exact List.append_cancel_right (List.append_cancel_left this)
theorem Asc.cons {x : Int × Int} {l : L} : Asc (x :: l) ↔ (∀ y ∈ l, x.1 ≤ y.1) ∧ Asc l := List.pairwise_cons
theorem Asc.app {a b : L} : Asc (a ++ b) ↔ Asc a ∧ Asc b ∧ ∀ x ∈ a, ∀ y ∈ b, x.1 ≤ y.1 := List.pairwise_append
theorem Asc.nil : Asc [] := List.Pairwise.nil
theorem Asc.one (x : Int × Int) : Asc [x] := List.pairwise_singleton ..
theorem uniq : ∀ {r r' : L}, Asc r → Asc r' → Sb r r' → r = r'
  | [], r', _, _, h => by
    rcases r' with _ | ⟨y, t⟩
    · rfl
    · exact absurd ((h.mem y).2 (by simp)) (by simp)
  | x :: t, [], _, _, h => absurd ((h.mem x).1 (by simp)) (by simp)
  | x :: t, y :: t', h1, h2, h => by
    obtain ⟨a1, a2⟩ := Asc.cons.1 h1
    obtain ⟨b1, b2⟩ := Asc.cons.1 h2
    have hx : y.1 ≤ x.1 := by
      have := (h.mem x).1 (by simp)
      rcases List.mem_cons.1 this with e | e
      · rw [e]; exact Int.le_refl _
      · exact b1 x e
    have hy : x.1 ≤ y.1 := by
      have := (h.mem y).2 (by simp)
      rcases List.mem_cons.1 this with e | e
      · rw [e]; exact Int.le_refl _
      · exact a1 y e
    have hk : x.1 = y.1 := by omega
    have e := h x.1
    rw [ff_cons, ff_cons, if_pos rfl, if_pos hk.symm] at e
    injection e with e0 e1
    subst e0
    rw [uniq a2 b2 fun k => ?_]
    by_cases hk2 : x.1 = k
    · rw [← hk2]; exact e1
    · have := h k
      rwa [ff_cons, ff_cons, if_neg hk2, if_neg hk2] at this

/-- x behind all that are not greater. -/
def insr (x : Int × Int) : L → L
  | [] => [x]
  | y :: t => if y.1 ≤ x.1 then y :: insr x t else x :: y :: t
/-- The stable order. -/
def srt (l : L) : L := l.foldl (fun o x => insr x o) []
theorem insr_mem (x : Int × Int) : ∀ (o : L) (z : Int × Int), z ∈ insr x o ↔ z = x ∨ z ∈ o
  | [], z => by simp [insr]
  | y :: t, z => by
    unfold insr
    by_cases h : y.1 ≤ x.1
    · rw [if_pos h, List.mem_cons, insr_mem x t z, List.mem_cons]
      constructor
      · rintro (a | a | a) <;> simp [a]
      · rintro (a | a | a) <;> simp [a]
    · rw [if_neg h]; simp
theorem insr_asc (x : Int × Int) : ∀ (o : L), Asc o → Asc (insr x o)
  | [], _ => Asc.one x
  | y :: t, h => by
    obtain ⟨a, b⟩ := Asc.cons.1 h
    unfold insr
    by_cases hy : y.1 ≤ x.1
    · rw [if_pos hy]
      refine Asc.cons.2 ⟨fun z hz => ?_, insr_asc x t b⟩
      rcases (insr_mem x t z).1 hz with rfl | hz
      · exact hy
      · exact a z hz
    · rw [if_neg hy]
      refine Asc.cons.2 ⟨fun z hz => ?_, h⟩
      rcases List.mem_cons.1 hz with rfl | hz
      · omega
      · have := a z hz; omega
theorem insr_at (x : Int × Int) : ∀ (o : L) (k : Nat), (∀ z ∈ o.take k, z.1 ≤ x.1) → (∀ z ∈ o.drop k, x.1 < z.1) → insr x o = o.take k ++ x :: o.drop k
  | [], k, _, _ => by simp [insr]
  | y :: t, 0, _, h => by
    have := h y (by simp)
    unfold insr; rw [if_neg (by omega)]; simp
  | y :: t, k + 1, h1, h2 => by
    have := h1 y (by simp)
    unfold insr; rw [if_pos this]
    rw [insr_at x t k (fun z hz => h1 z (by simp [hz])) (fun z hz => h2 z (by simpa using hz))]
    simp
theorem insr_sb (x : Int × Int) : ∀ (o : L), Asc o → Sb (insr x o) (o ++ [x])
  | [], _ => Sb.refl _
  | y :: t, h => by
    obtain ⟨a, b⟩ := Asc.cons.1 h
    unfold insr
    by_cases hy : y.1 ≤ x.1
    · rw [if_pos hy]
      intro k
      rw [List.cons_append, ff_cons, ff_cons, insr_sb x t b k]
    · rw [if_neg hy]
      intro k
      rw [← List.singleton_append (l := y :: t)]
      refine (Sb.flip (A := y :: t) (B := [x]) ?_).symm k
      intro z hz w hw
      simp only [List.mem_singleton] at hw; subst hw
      rcases List.mem_cons.1 hz with rfl | hz
      · omega
      · have := a z hz; omega
theorem ins_copy (x : Int × Int) (o : L) (k : Nat) (hk : k ≤ o.length) (h1 : ∀ z ∈ o.take k, z.1 ≤ x.1) (h2 : ∀ z ∈ o.drop k, x.1 < z.1) :
    ((o ++ [x]).take (k + 1) ++ (((o ++ [x]).drop k).take (o.length - k) ++ (o ++ [x]).drop (k + 1 + (o.length - k)))).set k x = insr x o := by
  rw [insr_at x o k h1 h2]
  have e1 : ∃ z, (o ++ [x]).take (k + 1) = o.take k ++ [z] := by
    rw [List.take_succ_eq_append_getElem (by simp; omega)]
    exact ⟨_, by rw [List.take_append_of_le_length hk]⟩
  obtain ⟨z, e1⟩ := e1
  have e2 : ((o ++ [x]).drop k).take (o.length - k) = o.drop k := by
    rw [List.drop_append_of_le_length hk]
    exact List.take_left' (by simp)
  have e3 : (o ++ [x]).drop (k + 1 + (o.length - k)) = [] := List.drop_of_length_le (by simp; omega)
  rw [e1, e2, e3, List.append_nil, List.append_assoc]
  rw [List.set_append_right _ _ (by simp; omega)]
  simp [Nat.min_eq_left hk]
theorem srt_snoc (l : L) (x : Int × Int) : srt (l ++ [x]) = insr x (srt l) := by unfold srt; simp
theorem snoc_ind {P : L → Prop} (l : L) (h0 : P []) (h1 : ∀ l x, P l → P (l ++ [x])) : P l := by
  rw [← List.reverse_reverse l]
  induction l.reverse with
  | nil => exact h0
  | cons x t ih => rw [List.reverse_cons]; exact h1 _ _ ih
theorem srt_ok (l : L) : Asc (srt l) ∧ Sb (srt l) l := by
  refine snoc_ind (P := fun l => Asc (srt l) ∧ Sb (srt l) l) l ⟨Asc.nil, Sb.refl _⟩ fun l x ih => ?_
  rw [srt_snoc]
  exact ⟨insr_asc x _ ih.1, (insr_sb x _ ih.1).trans (ih.2.app (Sb.refl _))⟩
theorem srt_of {r l : L} (h : Asc r) (h2 : Sb r l) : r = srt l := uniq h (srt_ok l).1 (h2.trans (srt_ok l).2.symm)
theorem srt_asc (l : L) : Asc (srt l) := (srt_ok l).1
theorem srt_sb (l : L) : Sb (srt l) l := (srt_ok l).2
theorem srt_self {l : L} (h : Asc l) : srt l = l := (srt_of h (Sb.refl l)).symm
theorem insr_len (x : Int × Int) : ∀ o : L, (insr x o).length = o.length + 1
  | [] => rfl
  | y :: t => by
    unfold insr
    by_cases h : y.1 ≤ x.1
    · rw [if_pos h, List.length_cons, insr_len x t, List.length_cons]
    · rw [if_neg h]; simp
theorem srt_len (l : L) : (srt l).length = l.length := by
  refine snoc_ind (P := fun l => (srt l).length = l.length) l rfl fun l x ih => ?_
  rw [srt_snoc, insr_len, ih, List.length_append, List.length_singleton]
theorem srt_mem (l : L) (x : Int × Int) : x ∈ srt l ↔ x ∈ l := (srt_sb l).mem x
theorem srt_sb_eq {l r : L} (h : Sb l r) : srt l = srt r := srt_of (srt_asc l) ((srt_sb l).trans h)

/-- The step of SymMerge. -/
theorem sym {A1 A2 B1 B2 : L} (hA : Asc (A1 ++ A2)) (hB : Asc (B1 ++ B2)) (h1 : ∀ x ∈ A2, ∀ y ∈ B1, y.1 < x.1) (h2 : ∀ x ∈ A1, ∀ y ∈ B2, x.1 ≤ y.1) :
    srt (A1 ++ B1) ++ srt (A2 ++ B2) = srt (A1 ++ A2 ++ (B1 ++ B2)) := by
  obtain ⟨_, _, a3⟩ := Asc.app.1 hA
  obtain ⟨_, _, b3⟩ := Asc.app.1 hB
  refine srt_of (Asc.app.2 ⟨srt_asc _, srt_asc _, fun x hx y hy => ?_⟩) ?_
  · rw [srt_mem, List.mem_append] at hx hy
    rcases hx with hx | hx <;> rcases hy with hy | hy
    · exact a3 x hx y hy
    · exact h2 x hx y hy
    · have := h1 y hy x hx; omega
    · exact b3 x hx y hy
  · have e := (Sb.refl A1).app ((Sb.flip (A := A2) (B := B1) h1).symm.app (Sb.refl B2))
    have e2 := (srt_sb (A1 ++ B1)).app (srt_sb (A2 ++ B2))
    rw [List.append_assoc] at e2
    simp only [List.append_assoc] at e e2 ⊢
    exact e2.trans e
theorem ins_left {x : Int × Int} {B1 B2 : L} (hB : Asc (B1 ++ B2)) (h1 : ∀ y ∈ B1, y.1 < x.1) (h2 : ∀ y ∈ B2, x.1 ≤ y.1) : B1 ++ x :: B2 = srt ([x] ++ (B1 ++ B2)) := by
  have := sym (A1 := []) (A2 := [x]) (B1 := B1) (B2 := B2) (Asc.one x) hB (fun z hz y hy => by simp at hz; subst hz; exact h1 y hy) (fun z hz => by cases hz)
  obtain ⟨b1, b2, _⟩ := Asc.app.1 hB
  rw [List.nil_append, srt_self b1, srt_self (l := [x] ++ B2) (Asc.cons.2 ⟨h2, b2⟩)] at this
  simpa using this
theorem ins_right {y : Int × Int} {A1 A2 : L} (hA : Asc (A1 ++ A2)) (h1 : ∀ x ∈ A1, x.1 ≤ y.1) (h2 : ∀ x ∈ A2, y.1 < x.1) : A1 ++ y :: A2 = srt (A1 ++ A2 ++ [y]) := by
  have := sym (A1 := A1) (A2 := A2) (B1 := [y]) (B2 := []) hA (by simpa using Asc.one y) (fun z hz w hw => by simp at hw; subst hw; exact h2 z hz) (fun z hz w hw => by cases hw)
  obtain ⟨b1, b2, _⟩ := Asc.app.1 hA
  rw [List.append_nil, srt_self b2, srt_self (l := A1 ++ [y]) (Asc.app.2 ⟨b1, Asc.one y, fun z hz w hw => by simp at hw; subst hw; exact h1 z hz⟩)] at this
  simpa using this

/-- Two elements are exchanged. -/
def sw (l : L) (i j : Nat) : L := (l.set i (l.getD j (0, 0))).set j (l.getD i (0, 0))
theorem sw_len (l : L) (i j : Nat) : (sw l i j).length = l.length := by simp [sw]
theorem getD_mid (P S : L) (x : Int × Int) (k : Nat) (h : k = P.length) : (P ++ x :: S).getD k (0, 0) = x := by subst h; simp [List.getD]
theorem set_mid (P S : L) (x y : Int × Int) (k : Nat) (h : k = P.length) : (P ++ x :: S).set k y = P ++ y :: S := by subst h; simp [List.set_append]
theorem sw_mid (P Q R : L) (x y : Int × Int) (i j : Nat) (hi : i = P.length) (hj : j = P.length + 1 + Q.length) : sw (P ++ x :: (Q ++ y :: R)) i j = P ++ y :: (Q ++ x :: R) := by
  have e : P ++ x :: (Q ++ y :: R) = (P ++ x :: Q) ++ y :: R := by simp
  have g1 := getD_mid P (Q ++ y :: R) x i hi
  have g2 : (P ++ x :: (Q ++ y :: R)).getD j (0, 0) = y := by rw [e]; exact getD_mid _ _ _ _ (by simp; omega)
  unfold sw
  rw [g1, g2, set_mid _ _ _ _ _ hi]
  have e2 : P ++ y :: (Q ++ y :: R) = (P ++ y :: Q) ++ y :: R := by simp
  rw [e2, set_mid _ _ _ _ _ (by simp; omega)]
  simp
theorem sw_mid' (P Q R : L) (x y : Int × Int) (i j : Nat) (hi : i = P.length) (hj : j = P.length + 1 + Q.length) : sw (P ++ x :: (Q ++ y :: R)) j i = P ++ y :: (Q ++ x :: R) := by
  rw [← sw_mid P Q R x y i j hi hj]
  unfold sw
  exact List.set_comm _ _ (by omega)
theorem take_snoc (l : L) (k : Nat) (h : k < l.length) : l.take (k + 1) = l.take k ++ [l.getD k (0, 0)] := by
  rw [List.take_succ_eq_append_getElem h]; simp [List.getD, h]
theorem drop_cons (l : L) (k : Nat) (h : k < l.length) : l.drop k = l.getD k (0, 0) :: l.drop (k + 1) := by
  rw [List.drop_eq_getElem_cons h]; simp [List.getD, h]
/-- The range X against the range Y, when k of both are done. -/
def rng (P X M Y S : L) (k : Nat) : L := P ++ (Y.take k ++ (X.drop k ++ (M ++ (X.take k ++ (Y.drop k ++ S)))))
theorem rng_start (P X M Y S : L) : rng P X M Y S 0 = P ++ (X ++ (M ++ (Y ++ S))) := by simp [rng]
theorem rng_end (P X M Y S : L) (n : Nat) (hx : X.length = n) (hy : Y.length = n) : rng P X M Y S n = P ++ (Y ++ (M ++ (X ++ S))) := by
  unfold rng
  rw [List.take_of_length_le (by omega), List.take_of_length_le (by omega), List.drop_of_length_le (by omega), List.drop_of_length_le (by omega)]
  simp
theorem rng_step (P X M Y S : L) (k n : Nat) (hx : X.length = n) (hy : Y.length = n) (hk : k < n) (i j : Nat) (hi : i = P.length + k) (hj : j = P.length + n + M.length + k) :
    sw (rng P X M Y S k) i j = rng P X M Y S (k + 1) := by
  unfold rng
  rw [drop_cons X k (by omega), drop_cons Y k (by omega), take_snoc Y k (by omega), take_snoc X k (by omega)]
  have e := sw_mid (P ++ Y.take k) (X.drop (k + 1) ++ (M ++ X.take k)) (Y.drop (k + 1) ++ S) (X.getD k (0, 0)) (Y.getD k (0, 0)) i j (by simp; omega) (by simp; omega)
  simp only [List.append_assoc, List.cons_append, List.nil_append, List.singleton_append] at e ⊢
  exact e
theorem rng_len (P X M Y S : L) (k : Nat) (hx : X.length = Y.length) : (rng P X M Y S k).length = P.length + X.length + M.length + Y.length + S.length := by
  unfold rng; simp; omega
/-- x goes up through B, when k are done. -/
def mvu (P : L) (x : Int × Int) (B S : L) (k : Nat) : L := P ++ (B.take k ++ x :: (B.drop k ++ S))
theorem mvu_step (P : L) (x : Int × Int) (B S : L) (k : Nat) (hk : k < B.length) (i j : Nat) (hi : i = P.length + k) (hj : j = P.length + k + 1) : sw (mvu P x B S k) i j = mvu P x B S (k + 1) := by
  unfold mvu
  rw [drop_cons B k hk, take_snoc B k hk]
  have e := sw_mid (P ++ B.take k) [] (B.drop (k + 1) ++ S) x (B.getD k (0, 0)) i j (by simp; omega) (by simp; omega)
  simp only [List.append_assoc, List.cons_append, List.nil_append, List.singleton_append] at e ⊢
  exact e
theorem mvu_step' (P : L) (x : Int × Int) (B S : L) (k : Nat) (hk : k < B.length) (i j : Nat) (hi : i = P.length + k) (hj : j = P.length + k + 1) : sw (mvu P x B S (k + 1)) j i = mvu P x B S k := by
  unfold mvu
  rw [drop_cons B k hk, take_snoc B k hk]
  have e := sw_mid' (P ++ B.take k) [] (B.drop (k + 1) ++ S) (B.getD k (0, 0)) x i j (by simp; omega) (by simp; omega)
  simp only [List.append_assoc, List.cons_append, List.nil_append, List.singleton_append] at e ⊢
  exact e
theorem mvu_len (P : L) (x : Int × Int) (B S : L) (k : Nat) : (mvu P x B S k).length = P.length + 1 + B.length + S.length := by unfold mvu; simp; omega

/-! Indices. -/
theorem asc_get {l : L} (h : Asc l) {i j : Nat} (hij : i ≤ j) (hj : j < l.length) : (l.getD i (0, 0)).1 ≤ (l.getD j (0, 0)).1 := by
  rcases Nat.lt_or_ge i j with h1 | h1
  · have := List.pairwise_iff_getElem.1 h i j (by omega) hj h1
    simpa [List.getD, hj, show i < l.length by omega] using this
  · obtain rfl : i = j := by omega
    exact Int.le_refl _
theorem get_mem {l : L} {i : Nat} (h : i < l.length) : l.getD i (0, 0) ∈ l := by
  simp [List.getD, h]
theorem mem_get {l : L} {x : Int × Int} (h : x ∈ l) : ∃ i, i < l.length ∧ l.getD i (0, 0) = x := by
  obtain ⟨i, hi, e⟩ := List.getElem_of_mem h
  exact ⟨i, hi, by simp [List.getD, hi, e]⟩
theorem get_take {l : L} {i k : Nat} (h : i < k) : (l.take k).getD i (0, 0) = l.getD i (0, 0) := by
  simp [List.getD, List.getElem?_take, h]
theorem get_drop {l : L} {i k : Nat} : (l.drop k).getD i (0, 0) = l.getD (k + i) (0, 0) := by
  simp [List.getD, List.getElem?_drop]
theorem all_take {l : L} {k : Nat} {Q : Int × Int → Prop} (hk : k ≤ l.length) (h : ∀ i, i < k → Q (l.getD i (0, 0))) : ∀ x ∈ l.take k, Q x := fun x hx => by
  obtain ⟨i, hi, rfl⟩ := mem_get hx
  rw [List.length_take] at hi
  rw [get_take (by omega)]
  exact h i (by omega)
theorem all_drop {l : L} {k : Nat} {Q : Int × Int → Prop} (h : ∀ i, k ≤ i → i < l.length → Q (l.getD i (0, 0))) : ∀ x ∈ l.drop k, Q x := fun x hx => by
  obtain ⟨i, hi, rfl⟩ := mem_get hx
  rw [List.length_drop] at hi
  rw [get_drop]
  exact h _ (by omega) (by omega)
/-- The element at i of the row P ++ A ++ B ++ S. -/
theorem get_A (P A R : L) (i k : Nat) (h : i = P.length + k) (hk : k < A.length) : (P ++ (A ++ R)).getD i (0, 0) = A.getD k (0, 0) := by
  subst h; simp [List.getD, List.getElem?_append, hk, show ¬ P.length + k < P.length by omega]
theorem get_B (P A B S : L) (i k : Nat) (h : i = P.length + A.length + k) (hk : k < B.length) : (P ++ (A ++ (B ++ S))).getD i (0, 0) = B.getD k (0, 0) := by
  have := get_A (P ++ A) B S i k (by simp; omega) hk
  simpa using this

/-! SymMerge's cut. -/
theorem cut_mono {P A B S : L} {a m b mid n s0 r0 : Nat} (hP : P.length = a) (hm : a + A.length = m) (hb : m + B.length = b) (hA : Asc A) (hB : Asc B) (hmid : mid = (a + b) / 2) (hn : n = mid + m)
    (hs : (mid < m ∧ s0 = n - b ∧ r0 = mid) ∨ (m ≤ mid ∧ s0 = a ∧ r0 = m)) {c c' : Nat} (h1 : s0 ≤ c) (h2 : c ≤ c') (h3 : c' < r0) :
    ((P ++ (A ++ (B ++ S))).getD c (0, 0)).1 ≤ ((P ++ (A ++ (B ++ S))).getD c' (0, 0)).1 ∧ ((P ++ (A ++ (B ++ S))).getD (n - 1 - c') (0, 0)).1 ≤ ((P ++ (A ++ (B ++ S))).getD (n - 1 - c) (0, 0)).1 := by
  have b1 : a ≤ c ∧ c' < m ∧ m ≤ n - 1 - c' ∧ n - 1 - c < b := by omega
  rw [get_A P A (B ++ S) c (c - a) (by omega) (by omega), get_A P A (B ++ S) c' (c' - a) (by omega) (by omega),
    get_B P A B S (n - 1 - c') (n - 1 - c' - m) (by omega) (by omega), get_B P A B S (n - 1 - c) (n - 1 - c - m) (by omega) (by omega)]
  exact ⟨asc_get hA (by omega) (by omega), asc_get hB (by omega) (by omega)⟩
theorem cutp {P A B S : L} {a m b mid n s0 r0 s : Nat} (hP : P.length = a) (hm : a + A.length = m) (hb : m + B.length = b) (hA : Asc A) (hB : Asc B) (hmid : mid = (a + b) / 2) (hn : n = mid + m)
    (hs : (mid < m ∧ s0 = n - b ∧ r0 = mid) ∨ (m ≤ mid ∧ s0 = a ∧ r0 = m)) (hs0 : s0 ≤ s) (hr0 : s ≤ r0)
    (h1 : ∀ c, s0 ≤ c → c < s → ((P ++ (A ++ (B ++ S))).getD c (0, 0)).1 ≤ ((P ++ (A ++ (B ++ S))).getD (n - 1 - c) (0, 0)).1)
    (h2 : ∀ c, s ≤ c → c < r0 → ((P ++ (A ++ (B ++ S))).getD (n - 1 - c) (0, 0)).1 < ((P ++ (A ++ (B ++ S))).getD c (0, 0)).1) :
    ∃ A1 A2 B1 B2, A = A1 ++ A2 ∧ B = B1 ++ B2 ∧ a + A1.length = s ∧ m + B1.length = n - s ∧ s ≤ m ∧ m ≤ n - s ∧ n - s ≤ b ∧ (∀ x ∈ A2, ∀ y ∈ B1, y.1 < x.1) ∧ (∀ x ∈ A1, ∀ y ∈ B2, x.1 ≤ y.1) := by
  have bd : a ≤ s ∧ s ≤ m ∧ m ≤ n - s ∧ n - s ≤ b := by omega
  refine ⟨A.take (s - a), A.drop (s - a), B.take (n - s - m), B.drop (n - s - m), (List.take_append_drop _ _).symm, (List.take_append_drop _ _).symm, by rw [List.length_take]; omega, by rw [List.length_take]; omega, by omega, by omega, by omega, ?_, ?_⟩
  · intro x hx y hy
    obtain ⟨i, hi, rfl⟩ := mem_get hx
    obtain ⟨j, hj, rfl⟩ := mem_get hy
    rw [List.length_drop] at hi
    rw [List.length_take] at hj
    rw [get_drop, get_take (by omega)]
    have hlt : s < r0 := by omega
    have t := h2 s (Nat.le_refl _) hlt
    rw [get_A P A (B ++ S) s (s - a) (by omega) (by omega), get_B P A B S (n - 1 - s) (n - 1 - s - m) (by omega) (by omega)] at t
    have u := asc_get hA (i := s - a) (j := s - a + i) (by omega) (by omega)
    have v := asc_get hB (i := j) (j := n - 1 - s - m) (by omega) (by omega)
    omega
  · intro x hx y hy
    obtain ⟨i, hi, rfl⟩ := mem_get hx
    obtain ⟨j, hj, rfl⟩ := mem_get hy
    rw [List.length_take] at hi
    rw [List.length_drop] at hj
    rw [get_drop, get_take (by omega)]
    have hlt : s0 < s := by omega
    have t := h1 (s - 1) (by omega) (by omega)
    rw [get_A P A (B ++ S) (s - 1) (s - 1 - a) (by omega) (by omega), get_B P A B S (n - 1 - (s - 1)) (n - s - m) (by omega) (by omega)] at t
    have u := asc_get hA (i := i) (j := s - 1 - a) (by omega) (by omega)
    have v := asc_get hB (i := n - s - m) (j := n - s - m + j) (by omega) (by omega)
    omega

/-! Blocks. -/
def Blk (n : Nat) (bl : List L) : Prop := ∀ A ∈ bl, A.length = n ∧ Asc A
theorem flat_len {n : Nat} : ∀ {bl : List L}, Blk n bl → bl.flatten.length = bl.length * n
  | [], _ => by simp
  | A :: t, h => by
    rw [List.flatten_cons, List.length_append, flat_len (bl := t) (fun B hB => h B (by simp [hB])), (h A (by simp)).1, List.length_cons, Nat.succ_mul]; omega
/-- A row of sorted blocks of n, and less than one more. -/
def Runs (n : Nat) (l : L) : Prop := ∃ bl S, l = bl.flatten ++ S ∧ Blk n bl ∧ S.length < n ∧ Asc S
theorem Runs.whole {n : Nat} {l l0 : L} (h : Runs n l) (hn : l.length ≤ n) (hs : Sb l l0) : l = srt l0 := by
  obtain ⟨bl, S, rfl, hb, hS, hA⟩ := h
  refine srt_of ?_ hs
  have := flat_len hb
  rw [List.length_append] at hn
  rcases bl with _ | ⟨A, _ | ⟨B, t⟩⟩
  · simpa using hA
  · have h1 := hb A (by simp)
    simp at this hn
    have h0 : S = [] := List.eq_nil_of_length_eq_zero (by omega)
    subst h0
    simpa using h1.2
  · exfalso
    simp only [List.length_cons, Nat.add_mul, Nat.one_mul] at this
    omega
end Zs
end Go.Proofs.YtndngkfiamdohaaDoor
