/- slices.SortStableFunc over occurrences: the row in the stable order of its first numbers. -/
import Derived.Test.YtndngkfiamdohaaDoorZse
namespace Go.Proofs.YtndngkfiamdohaaDoor
open Go.RowKit
set_option linter.unusedVariables false
set_option linter.unusedSimpArgs false

namespace Zs
open Go.Sort
theorem getB (d : Array (Int × Int)) (i : Nat) : d[i]! = d.toList.getD i (0, 0) := by
  rcases Nat.lt_or_ge i d.size with h | h
  · simp [List.getD, h, getElem!_pos]
  · rw [getElem!_neg d i (by omega)]
    simp [List.getD, h]
    rfl
theorem toList_swp (d : Array (Int × Int)) (i j : Nat) : (swp d i j).toList = sw d.toList i j := by
  unfold swp sw
  rw [getB, getB]
  simp
theorem adj_sb (l : L) (j : Nat) (h : j + 1 < l.length) (hlt : (l.getD (j + 1) (0, 0)).1 < (l.getD j (0, 0)).1) : Sb (sw l (j + 1) j) l := by
  obtain ⟨u, hu⟩ : ∃ u, l.getD j (0, 0) = u := ⟨_, rfl⟩
  obtain ⟨v, hv⟩ : ∃ v, l.getD (j + 1) (0, 0) = v := ⟨_, rfl⟩
  rw [hu, hv] at hlt
  have e : l = l.take j ++ u :: ([] ++ v :: l.drop (j + 2)) := by
    conv => lhs; rw [← List.take_append_drop j l, drop_cons l j (by omega), drop_cons l (j + 1) h, hu, hv]
    rfl
  have e2 : sw l (j + 1) j = l.take j ++ v :: ([] ++ u :: l.drop (j + 2)) := by
    conv => lhs; rw [e]
    exact sw_mid' _ _ _ _ _ j (j + 1) (by rw [List.length_take]; omega) (by rw [List.length_take]; simp; omega)
  rw [e2]
  conv => rhs; rw [e]
  refine (Sb.refl (l.take j)).app ?_
  intro k
  have f := Sb.flip (A := [u]) (B := [v]) (fun x hx y hy => by simp at hx hy; subst hx; subst hy; exact hlt) k
  simp only [List.nil_append, ff_cons, ff_app, ff_nil, List.singleton_append] at f ⊢
  by_cases h1 : v.1 = k <;> by_cases h2 : u.1 = k <;> simp [h1, h2] at f ⊢
  omega
variable {lt : (Int × Int) → (Int × Int) → Bool}
theorem inner_size (a : Nat) : ∀ (i : Nat) (d : Array (Int × Int)), (insInner lt a i d).size = d.size
  | 0, d => rfl
  | j + 1, d => by
    unfold insInner
    by_cases h : (decide (j + 1 > a) && lt d[j + 1]! d[j]!) = true
    · rw [if_pos h, inner_size a j, size_swp]
    · rw [if_neg h]
theorem inner_sb (hlt : ∀ x y, lt x y = true → x.1 < y.1) (a : Nat) : ∀ (i : Nat) (d : Array (Int × Int)), i < d.size → Sb (insInner lt a i d).toList d.toList
  | 0, d, _ => Sb.refl _
  | j + 1, d, hi => by
    unfold insInner
    by_cases h : (decide (j + 1 > a) && lt d[j + 1]! d[j]!) = true
    · rw [if_pos h]
      refine (inner_sb hlt a j _ (by rw [size_swp]; omega)).trans ?_
      rw [toList_swp]
      have h2 := hlt _ _ (Bool.and_eq_true_iff.1 h).2
      rw [getB, getB] at h2
      exact adj_sb _ j (by simpa using hi) h2
    · rw [if_neg h]; exact Sb.refl _
theorem outer_sb (hlt : ∀ x y, lt x y = true → x.1 < y.1) (a b : Nat) (k : Nat) : ∀ (i : Nat) (d : Array (Int × Int)), b - i = k → b ≤ d.size → Sb (insOuter lt a b i d).toList d.toList := by
  induction k with
  | zero => intro i d h hb; rw [insOuter, if_neg (by omega)]; exact Sb.refl _
  | succ k ih =>
    intro i d h hb
    rw [insOuter, if_pos (by omega)]
    exact (ih (i + 1) _ (by omega) (by rw [inner_size]; exact hb)).trans (inner_sb hlt a i d (by omega))
theorem ins_row (hS : SWO lt) (hlt : ∀ x y, lt x y = true → x.1 < y.1) (hle : ∀ x y, lt x y = false → y.1 ≤ x.1) (P X S : L) (a b : Nat) (ha : P.length = a) (hb : a + X.length = b) :
    (insertionSort lt (P ++ (X ++ S)).toArray a b).toList = P ++ (srt X ++ S) := by
  obtain ⟨hp, hs⟩ := insertionSort_holds (lt := lt) hS (P ++ (X ++ S)).toArray a b (by omega) (by simp; omega)
  have hsb := outer_sb hlt a b _ (a + 1) (P ++ (X ++ S)).toArray rfl (by simp; omega)
  change Sb (insertionSort lt (P ++ (X ++ S)).toArray a b).toList _ at hsb
  obtain ⟨h1, h2, -⟩ := hp
  obtain ⟨l', hl'⟩ : ∃ l', (insertionSort lt (P ++ (X ++ S)).toArray a b).toList = l' := ⟨_, rfl⟩
  have hget : ∀ i, (insertionSort lt (P ++ (X ++ S)).toArray a b)[i]! = l'.getD i (0, 0) := fun i => by rw [getB, hl']
  have hlen : l'.length = P.length + X.length + S.length := by rw [← hl']; simp only [Array.length_toList]; rw [h1]; simp; omega
  have hout : ∀ i, i < a ∨ b ≤ i → l'.getD i (0, 0) = (P ++ (X ++ S)).getD i (0, 0) := fun i hi => by
    have := h2 i hi
    rw [hget, getB] at this
    exact this
  rw [hl'] at hsb ⊢
  have e : l' = l'.take a ++ ((l'.drop a).take (b - a) ++ l'.drop b) := by
    conv => lhs; rw [← List.take_append_drop a l', ← List.take_append_drop (b - a) (l'.drop a), List.drop_drop]
    rw [show a + (b - a) = b by omega]
  have ext : ∀ {u v : L}, u.length = v.length → (∀ i, i < u.length → u.getD i (0, 0) = v.getD i (0, 0)) → u = v := fun {u v} h0 h => by
    refine List.ext_getElem h0 fun i hi hj => ?_
    have := h i hi
    simpa [List.getD, hi, hj] using this
  have eP : l'.take a = P := by
    refine ext (by rw [List.length_take]; omega) fun i hi => ?_
    rw [List.length_take] at hi
    rw [get_take (by omega), hout i (.inl (by omega))]
    exact get_A [] P (X ++ S) i i (by simp) (by omega)
  have eS : l'.drop b = S := by
    refine ext (by rw [List.length_drop]; omega) fun i hi => ?_
    rw [List.length_drop] at hi
    rw [get_drop, hout _ (.inr (by omega))]
    have := get_B P X S [] (b + i) i (by omega) (by omega)
    simpa using this
  rw [eP, eS] at e
  have eX : (l'.drop a).take (b - a) = srt X := by
    refine srt_of ?_ ?_
    · refine List.pairwise_iff_getElem.2 fun i j hi hj hij => ?_
      rw [List.length_take, List.length_drop] at hi hj
      have := hle _ _ (hs (a + i) (a + j) (by omega) (by omega) (by omega))
      rw [hget, hget] at this
      simpa [List.getD, show a + i < l'.length by omega, show a + j < l'.length by omega] using this
    · rw [e] at hsb
      exact Sb.cut (P := P) (S := S) (by simpa using hsb)
  rw [eX] at e
  exact e
end Zs

/-! ### The insertion sort of a part. -/
def encS (x : Int × Int) : List Value := [.int .i64 x.1, .int .i64 x.2]
open Go.Shelf Go.Lib Go.Sort in
theorem closure_lays (blk off size : Nat) (w : World) : CmpLays Tryd.prog 66 #[] encS 2 (fun x y => Lib.compareInt x.1 y.1) blk off size w :=
  fun _ _ _ _ x y => closure_any x y _
open Go.Shelf Go.Lib Go.Sort in
theorem lt_from (x y : Int × Int) : ltOf (fun x y : Int × Int => Lib.compareInt x.1 y.1) x y = decide (x.1 < y.1) := by
  unfold ltOf Lib.compareInt
  by_cases h1 : x.1 < y.1
  · simp [h1]
  · by_cases h2 : y.1 < x.1 <;> simp [h1, h2]
open Go.Shelf Go.Lib Go.Sort in
theorem swo_from : SWO (ltOf fun x y : Int × Int => Lib.compareInt x.1 y.1) where
  irrefl x := by rw [lt_from]; simp
  trans x y z h1 h2 := by rw [lt_from] at *; simp at *; omega
  ntrans x y z h1 h2 := by rw [lt_from] at *; simp at *; omega
open Go.Shelf Go.Lib Go.Sort in
theorem holds_of {w : World} {g : Nat} {ys : Zs.L} (h : RowAt w g ys) : HoldsK encS 2 w g 0 ys.toArray := by
  intro j hj
  rw [size_flatK] at hj
  have hj' : j < ys.length * 2 := by simpa using hj
  have e := get_flatK encS 2 ys.toArray j hj
  have hk : j / 2 < ys.length := by omega
  obtain ⟨a, b, c, d⟩ := h.2 (j / 2) hk
  have e2 : ys.toArray[j / 2]! = ys.getD (j / 2) (0, 0) := Zs.getB _ _
  rw [e, e2, Nat.zero_add]
  have hjm : j % 2 = 0 ∨ j % 2 = 1 := by omega
  rcases hjm with hm | hm
  · rw [hm]
    rw [show j / 2 * 2 = j by omega] at a c
    exact ⟨a, c⟩
  · rw [hm]
    rw [show j / 2 * 2 + 1 = j by omega] at b d
    exact ⟨b, d⟩
open Go.Shelf Go.Lib Go.Sort in
theorem of_holds {w : World} {g : Nat} {d : Array (Int × Int)} (hg : g < w.heap.size) (h : HoldsK encS 2 w g 0 d) : RowAt w g d.toList := by
  refine ⟨hg, fun k hk => ?_⟩
  have hk' : k < d.size := by simpa using hk
  have a := h.cell (i := k) (c := 0) hk' (by omega)
  have b := h.cell (i := k) (c := 1) hk' (by omega)
  have e2 : d[k]! = d.toList.getD k (0, 0) := Zs.getB _ _
  rw [e2, Nat.zero_add, Nat.add_zero] at a
  rw [e2, Nat.zero_add] at b
  exact ⟨a.1, b.1, a.2, b.2⟩
open Go.Shelf Go.Lib Go.Sort in
theorem below_sorted {w : World} {g n : Nat} {d : Array (Int × Int)} {os : Array Obj} {B : Nat} (hB : B ≤ g) (hBw : B ≤ w.heap.size) : RowKit.Below B w (sortWorldK encS 2 w g 0 n d os) := by
  refine ⟨rfl, rfl, rfl, by simp [sortWorldK, grow, putRowK, putRow, mapBlock, ahead], fun k hk => ?_⟩
  show ((w.heap.modify g _) ++ os)[k]? = w.heap[k]?
  rw [Array.getElem?_append_left (by simp; omega), Array.getElem?_modify, if_neg (by omega)]
open Go.Shelf Go.Lib Go.Sort in
theorem ins_any (g cap len a b : Nat) (P X S : Zs.L) (w : World) (hR : RowAt w g (P ++ (X ++ S))) (hl : P.length + X.length + S.length = len) (hn : len ≤ 100000) (ha : P.length = a) (hb : a + X.length = b) :
    Calls Tryd.prog 80 #[.slice (some ⟨g, 0, none⟩) len cap, .int .i64 a, .int .i64 b, .func (.func 66) #[] #[]] w fun e w' => e = .returned (.tuple #[]) ∧ Sor w g w' (P ++ (Zs.srt X ++ S)) := by
  have eg : ∀ args w, (callFunc 66 args).run Tryd.prog w = .ok (.enter 66 args) w := enters_of Tryd.func66 (by kernel_rfl) rfl
  have hsz : (P ++ (X ++ S)).toArray.size = len := by simp; omega
  have hcon := AnyQ.insertionSortCmpFunc Tryd.insOcc 2 Tryd.isAgg98 Tryd.sizeOf98 encS (fun _ => rfl) (fun x v hv => by simp [encS] at hv; rcases hv with rfl | rfl <;> rfl) (fun x y => Lib.compareInt x.1 y.1) 66 #[] g 0 cap a b (P ++ (X ++ S)).toArray w eg (closure_lays g 0 _ w) (holds_of hR) hR.1 (by omega) (by omega) (by omega)
  change Calls Tryd.prog 80 _ _ _ at hcon
  rw [hsz] at hcon
  refine hcon.mono ?_
  rintro e w' ⟨rfl, n, os, rfl⟩
  have hrow := Zs.ins_row swo_from (fun x y h => by rw [lt_from] at h; simpa using h) (fun x y h => by rw [lt_from] at h; simpa using h) P X S a b ha hb
  have hH : HoldsK encS 2 (sortWorldK encS 2 w g 0 n (insertionSort (ltOf fun x y : Int × Int => Lib.compareInt x.1 y.1) (P ++ (X ++ S)).toArray a b) os) g 0 (insertionSort (ltOf fun x y : Int × Int => Lib.compareInt x.1 y.1) (P ++ (X ++ S)).toArray a b) :=
    holdsK_grow encS 2 _ os g 0 _ (by simpa [putRowK, putRow, mapBlock, ahead] using hR.1) (holdsK_putRowK encS 2 _ g 0 (P ++ (X ++ S)).toArray _ (holds_of hR) (by
      have := congrArg List.length hrow
      simp only [Array.length_toList, List.length_append, Zs.srt_len] at this
      rw [this]; simp))
  have hb' := below_sorted (w := w) (g := g) (n := n) (d := insertionSort (ltOf fun x y : Int × Int => Lib.compareInt x.1 y.1) (P ++ (X ++ S)).toArray a b) (os := os) (B := g) (Nat.le_refl _) (Nat.le_of_lt hR.1)
  have hrr := of_holds (Nat.lt_of_lt_of_le hR.1 hb'.size) hH
  rw [hrow] at hrr
  exact ⟨rfl, hrr, fun B h1 => below_sorted h1 (Nat.le_trans h1 (Nat.le_of_lt hR.1))⟩
end Go.Proofs.YtndngkfiamdohaaDoor
