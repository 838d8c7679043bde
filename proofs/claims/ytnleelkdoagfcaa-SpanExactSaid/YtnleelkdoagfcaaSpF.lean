/- The reference's sorting of numbers. -/
import Derived.Test.YtnleelkdoagfcaaSpD
import Derived.Test.YtnleelkdoagfcaaSps
import Derived.IntWalk
import Derived.Deep.RegionHeld3
import Derived.Deep.DeepCutAuto
namespace Go.Proofs.Ytnleelkdoagfcaa
open Go.RowKit
set_option linter.unusedVariables false
set_option linter.unusedSimpArgs false

/-- The slice's cells hold these numbers. -/
def IntsAt (w : World) (A : Option Addr) (zs : List Int) : Prop :=
  0 < zs.length → ∃ b off, A = some ⟨b, off, none⟩ ∧ b < w.heap.size ∧ ∀ k, k < zs.length → w.cell? ⟨b, off + k, none⟩ = some (.int .i64 (zs.getD k 0))
theorem IntsAt.below {w w' : World} {A : Option Addr} {zs : List Int} (h : IntsAt w A zs) (hb : Below w.heap.size w w') : IntsAt w' A zs := fun h0 => by
  obtain ⟨b, off, e, hlt, hc⟩ := h h0
  exact ⟨b, off, e, Nat.lt_of_lt_of_le hlt hb.size, fun k hk => (bcell hb _ _ hlt).trans (hc k hk)⟩
theorem IntsAt.nil_ {w : World} {A : Option Addr} : IntsAt w A [] := fun h => absurd h (by simp)

def ints (zs : List Int) : List Value := zs.map (Value.int .i64)
/-- A slice value that owns these numbers, from block B on. -/
def OwnI (w : World) (B : Nat) (v : Value) (zs : List Int) : Prop := w.ownsRow B 3 1 v zs.length (ints zs)
theorem OwnI.nil_ (w : World) (B : Nat) : OwnI w B (.slice none 0 0) [] := World.ownsRow_nil w B _ 1
theorem ints_get (zs : List Int) (k : Nat) (h : k < zs.length) : (ints zs)[k]? = some (.int .i64 (zs.getD k 0)) := by
  simp [ints, List.getElem?_eq_getElem h, List.getD]
theorem OwnI.shape {w : World} {B : Nat} {v : Value} {zs : List Int} (h : OwnI w B v zs) : ∃ A c, v = .slice A zs.length c ∧ zs.length ≤ c ∧ (A = none → c = 0) ∧ IntsAt w A zs := by
  rcases h.2 with ⟨rfl, h0⟩ | ⟨g, cap, cur, rfl, hb, hg, h1, h2, h3, h4⟩
  · exact ⟨none, 0, by rw [h0], by omega, fun _ => rfl, fun h => absurd h (by omega)⟩
  · have hh : w.ownsRow B 3 1 (.slice (some ⟨g, 0, none⟩) zs.length cap) zs.length (ints zs) := ⟨h.1, .inr ⟨g, cap, cur, rfl, hb, hg, h1, h2, h3, h4⟩⟩
    have hlt : g < w.heap.size := by
      rcases Nat.lt_or_ge g w.heap.size with hlt | hge
      · exact hlt
      · rw [Array.getElem?_eq_none hge] at hg; cases hg
    refine ⟨_, _, rfl, h1, (fun h0 => by cases h0), fun h0 => ⟨g, 0, rfl, hlt, fun k hk => ?_⟩⟩
    rw [Nat.zero_add]
    exact (hh.cellAt k (by omega)).trans (ints_get zs k hk)
theorem OwnI.alloc {w : World} {B : Nat} {v : Value} {zs : List Int} (h : OwnI w B v zs) (o : Obj) : OwnI (w.alloc o) B v zs := World.ownsRow.alloc h o
theorem OwnI.drewN {w : World} {B : Nat} {v : Value} {zs : List Int} (h : OwnI w B v zs) (n : Nat) : OwnI (w.drewN n) B v zs := h
theorem OwnI.below {w w' : World} {B : Nat} {v : Value} {zs : List Int} (h : OwnI w B v zs) (hb : Below w.heap.size w w') : OwnI w' B v zs := by
  refine ⟨h.1, ?_⟩
  rcases h.2 with h0 | ⟨g, cap, cur, e, hB, hg, hr⟩
  · exact .inl h0
  · refine .inr ⟨g, cap, cur, e, hB, ?_, hr⟩
    have hlt : g < w.heap.size := by
      rcases Nat.lt_or_ge g w.heap.size with hlt | hge
      · exact hlt
      · rw [Array.getElem?_eq_none hge] at hg; cases hg
    exact (hb.block g hlt).trans hg
theorem cell_newi {W : World} {B : Nat} {a : Value} {T : TypeId} (h : W.heap.size = B) : (W.alloc (.cells #[a] T)).cell? ⟨B, 0, none⟩ = some a := by subst h; simp
theorem add_none (b off i : Nat) : (Addr.mk b off none).add i = ⟨b, off + i, none⟩ := by
  unfold Addr.add; split <;> simp_all
/-- append of some numbers to a row of the call's own. -/
theorem wp_append_ints {ops : Array Oper} {rest : List Oper} {o : Oper} {a : Act} {Q : Exit → Act → World → Prop} (w : World) (hgd : o.guard = none) (s x : Operand)
    (ho : o.op = .call { callee := .builtin .append, args := #[s, x], argTypes := #[23, 23] }) (B : Nat) (v : Value) (ys : List Int) (hs : a.eval s = v) (hown : OwnI w B v ys)
    (blk off m c : Nat) (zs : List Int) (hx : a.eval x = .slice (some ⟨blk, off, none⟩) m c) (hm : zs.length = m) (hc : ∀ k, k < m → w.cell? ⟨blk, off + k, none⟩ = some (.int .i64 (zs.getD k 0)))
    (hlen : ys.length + m ≤ 10000000) (hB : B ≤ w.heap.size)
    (h : ∀ v' w', OwnI w' B v' (ys ++ zs) → Below B w w' → w.grownBy w' v.ownBlock →
      wpList Try.prog ops Q rest (a.put o.dst v') w') : wpList Try.prog ops Q (o :: rest) a w := by
  obtain ⟨i0, hi0, hz0, hz1, hz2⟩ := info_parts info3
  refine wpList_append_own w hgd s x 23 ho B 3 i0 _ 1 8 Try.underlying23 hi0 hz0 hz1 hz2 rfl (by omega) v ys.length (ints ys) hs hown ⟨blk, off, none⟩ m c (ints zs) hx (by simp [ints, hm]) ?_ ?_ (by simp only [maxLen]; omega) (by omega) hB ?_
  · intro j u hu
    have hj : j < zs.length := by
      have := List.getElem?_eq_some_iff.1 hu
      obtain ⟨h, -⟩ := this
      simpa [ints] using h
    rw [ints_get zs j hj] at hu
    cases hu
    rw [add_none]
    exact hc j (by omega)
  · intro u hu
    simp only [ints, List.mem_map] at hu
    obtain ⟨z, -, rfl⟩ := hu
    rfl
  · intro v' w' h1 h2 h3
    refine h v' w' ?_ ((Below.refl B w).grown h2 hB (fun k hk => (World.ownsRow.lt hown k hk).1)) h2
    unfold OwnI
    rw [List.length_append, hm, ints, List.map_append]
    exact h1

/-- append of two numbers, at a step of a region that draws its order. -/
theorem step_append_pair {ops : Array Oper} {o : Oper} {a : Act} {K : Act → World → Prop} {Q : Exit → Act → World → Prop} {E : Prop} (w : World) (hgd : o.guard = none) (s x : Operand)
    (ho : o.op = .call { callee := .builtin .append, args := #[s, x], argTypes := #[23, 23] }) (B : Nat) (v : Value) (ys : List Int) (hs : a.eval s = v) (hown : OwnI w B v ys)
    (blk : Nat) (f t : Int) (hx : a.eval x = .slice (some ⟨blk, 0, none⟩) 2 2) (hc0 : w.cell? ⟨blk, 0, none⟩ = some (.int .i64 f)) (hc1 : w.cell? ⟨blk, 1, none⟩ = some (.int .i64 t))
    (hlen : ys.length ≤ 9000000) (hB : B ≤ w.heap.size)
    (h : ∀ v' w', OwnI w' B v' (ys ++ [f, t]) → Below B w w' → w.grownBy w' v.ownBlock → K (a.put o.dst v') w') :
    if Region.wanted o (yielded ops a.tmps) = true then Oper.wp Try.prog o a w K Q else E := by
  obtain ⟨i0, hi0, hz0, hz1, hz2⟩ := info_parts info3
  refine step_append_lies w hgd s x 23 ho B 3 i0 _ 1 8 Try.underlying23 hi0 hz0 hz1 hz2 rfl (by omega) v ys.length (ints ys) hs hown ⟨blk, 0, none⟩ 2 2 [.int .i64 f, .int .i64 t] hx rfl ?_ (one_cells f t) (by omega) (by simp only [maxLen]; omega) (by omega) hB _ rfl ?_
  · intro j u hu
    match j with
    | 0 => simp at hu; subst hu; exact hc0
    | 1 => simp at hu; subst hu; exact hc1
    | (k + 2) => simp at hu
  · intro g cap w' h1 h2 h3 h4
    refine h _ w' ?_ ((Below.refl B w).grown h2 hB (fun k hk => (World.ownsRow.lt hown k hk).1)) h2
    unfold OwnI
    rw [List.length_append, ints, List.map_append]
    exact h1
/-- append of a span, at a step of a region that draws its order. -/
theorem step_append_span {ops : Array Oper} {o : Oper} {a : Act} {K : Act → World → Prop} {Q : Exit → Act → World → Prop} {E : Prop} (w : World) (hgd : o.guard = none) (s x : Operand)
    (ho : o.op = .call { callee := .builtin .append, args := #[s, x], argTypes := #[22, 22] }) (B : Nat) (v : Value) (ys : Spn.L) (hs : a.eval s = v) (hown : Own w B v ys)
    (blk : Nat) (f t : Int) (hx : a.eval x = .slice (some ⟨blk, 0, none⟩) 1 1) (hc0 : w.cell? ⟨blk, 0, none⟩ = some (.int .i64 f)) (hc1 : w.cell? ⟨blk, 1, none⟩ = some (.int .i64 t))
    (hlen : ys.length ≤ 1000000) (hB : B ≤ w.heap.size)
    (h : ∀ v' w', Own w' B v' (ys ++ [(f, t)]) → Below B w w' → w.grownBy w' v.ownBlock → K (a.put o.dst v') w') :
    if Region.wanted o (yielded ops a.tmps) = true then Oper.wp Try.prog o a w K Q else E := by
  obtain ⟨i0, hi0, hz0, hz1, hz2⟩ := info_parts info47
  refine step_append_lies w hgd s x 22 ho B 47 i0 _ 2 16 Try.underlying22 hi0 hz0 hz1 hz2 rfl (by omega) v ys.length (enc ys) hs hown ⟨blk, 0, none⟩ 1 1 [.int .i64 f, .int .i64 t] hx rfl ?_ (one_cells f t) (by omega) (by simp only [maxLen]; omega) (by omega) hB _ rfl ?_
  · intro j u hu
    match j with
    | 0 => simp at hu; subst hu; exact hc0
    | 1 => simp at hu; subst hu; exact hc1
    | (k + 2) => simp at hu
  · intro g cap w' h1 h2 h3 h4
    refine h _ w' ?_ ((Below.refl B w).grown h2 hB (fun k hk => (World.ownsRow.lt hown k hk).1)) h2
    unfold Own
    rw [enc_snoc, List.length_append]
    exact h1
theorem name_world {P : World → Prop} {W : World} (h : P W) : ∃ W', W' = W ∧ P W' := ⟨W, rfl, h⟩
theorem wp_append_int1 {ops : Array Oper} {rest : List Oper} {o : Oper} {a : Act} {Q : Exit → Act → World → Prop} (w : World) (hgd : o.guard = none) (s x : Operand)
    (ho : o.op = .call { callee := .builtin .append, args := #[s, x], argTypes := #[23, 23] }) (B : Nat) (v : Value) (ys : List Int) (hs : a.eval s = v) (hown : OwnI w B v ys)
    (blk : Nat) (z : Int) (hx : a.eval x = .slice (some ⟨blk, 0, none⟩) 1 1) (hc : w.cell? ⟨blk, 0, none⟩ = some (.int .i64 z))
    (hlen : ys.length ≤ 9000000) (hB : B ≤ w.heap.size)
    (h : ∀ v' w', OwnI w' B v' (ys ++ [z]) → Below B w w' → w.grownBy w' v.ownBlock →
      wpList Try.prog ops Q rest (a.put o.dst v') w') : wpList Try.prog ops Q (o :: rest) a w :=
  wp_append_ints w hgd s x ho B v ys hs hown blk 0 1 1 [z] hx rfl (fun k hk => by obtain rfl : k = 0 := by omega
                                                                                  exact hc) (by omega) hB h
/-- What Sort hands back. -/
def Sorts (zs : List Int) (w : World) (e : Ending) (w' : World) : Prop :=
  ∃ A c ss, e = .returned (.slice A ss.length c) ∧ IntsAt w' A ss ∧ Sps.Srt zs ss ∧ Below w.heap.size w w'

theorem IntsAt.take_ {w : World} {A : Option Addr} {zs : List Int} (h : IntsAt w A zs) (k : Nat) : IntsAt w A (zs.take k) := fun h0 => by
  rw [List.length_take] at h0
  obtain ⟨b, off, e, hlt, hc⟩ := h (by omega)
  refine ⟨b, off, e, hlt, fun j hj => ?_⟩
  rw [List.length_take] at hj
  rw [hc j (by omega)]
  simp [List.getD, List.getElem?_take, show j < k by omega]
theorem IntsAt.drop_ {w : World} {b off : Nat} {zs : List Int} (h : IntsAt w (some ⟨b, off, none⟩) zs) (k : Nat) : IntsAt w (some ⟨b, off + k, none⟩) (zs.drop k) := fun h0 => by
  rw [List.length_drop] at h0
  obtain ⟨b', off', e, hlt, hc⟩ := h (by omega)
  cases e
  refine ⟨b, off + k, rfl, hlt, fun j hj => ?_⟩
  rw [List.length_drop] at hj
  rw [Nat.add_assoc, hc (k + j) (by omega)]
  simp [List.getD, List.getElem?_drop]

set_option maxHeartbeats 4000000 in
set_option maxRecDepth 100000 in
theorem Sort_small (A : Option Addr) (n c : Nat) (zs : List Int) (w : World) (hA : IntsAt w A zs) (hn : zs.length = n) (h2 : n < 2) (hnc : n ≤ c) (hc0 : A = none → c = 0) :
    Calls Try.prog 40 #[.slice A n c] w (Sorts zs w) := by
  have hi2 : (n : Int) < 2 := by omega
  rcases A with _ | ad
  · obtain rfl := hc0 rfl
    obtain rfl : n = 0 := by omega
    obtain rfl := List.eq_nil_of_length_eq_zero hn
    clear hn hc0
    go_enter Try.func40, Try.ntmps40
    go_wp2_with fail
    go_ret
    exact ⟨none, 0, [], rfl, IntsAt.nil_, Sps.Srt.nil_, Below.refl _ _⟩
  · have hS : Sps.Srt zs zs := by
      rcases zs with _ | ⟨z, _ | ⟨y, r⟩⟩
      · exact Sps.Srt.nil_
      · exact Sps.Srt.one z
      · simp at hn; omega
    have hcell : ∃ b off, (0 < n → ad = ⟨b, off, none⟩) ∧ ∀ k, k < n → w.cell? ⟨b, off + k, none⟩ = some (.int .i64 (zs.getD k 0)) := by
      rcases Nat.eq_zero_or_pos n with h | h
      · exact ⟨0, 0, fun h' => absurd h' (by omega), fun k hk => absurd hk (by omega)⟩
      · obtain ⟨b, off, e, hb, hc⟩ := hA (by omega)
        exact ⟨b, off, fun _ => by injection e, fun k hk => hc k (by omega)⟩
    obtain ⟨i0, hi0, hz0, hz1, hz2⟩ := info_parts info3
    have hnews : ∀ (j : Nat) (u : Value), (ints zs)[j]? = some u → w.cell? (ad.add j) = some u := by
      intro j u hu
      have hj : j < zs.length := by
        obtain ⟨h, -⟩ := List.getElem?_eq_some_iff.1 hu
        simpa [ints] using h
      rw [ints_get zs j hj] at hu
      cases hu
      obtain ⟨b, off, e, hc⟩ := hcell
      rw [e (by omega), add_none]
      exact hc j (by omega)
    have hone : ∀ u ∈ ints zs, u.oneCell' = true := by
      intro u hu
      simp only [ints, List.mem_map] at hu
      obtain ⟨z, -, rfl⟩ := hu
      rfl
    have HNW := Lib.hid hnews
    have HON := Lib.hid hone
    have HS := Lib.hid hS
    have HN := Lib.hid hn
    have hlz : (ints zs).length = n * 1 := by simp [ints, hn]
    have HLZ := Lib.hid hlz
    have HI0 := Lib.hid hi0
    have HZ0 := Lib.hid hz0
    have HZ1 := Lib.hid hz1
    have HZ2 := Lib.hid hz2
    clear hnews hone hS hcell hn hlz hi0 hz0 hz1 hz2 hA
    go_enter Try.func40, Try.ntmps40
    go_wp2_with (at_builtin; refine wpList_append_own w rfl _ _ 23 rfl w.heap.size 3 i0 _ 1 8 Try.underlying23 HI0.out HZ0.out HZ1.out HZ2.out rfl (by omega) _ 0 [] rfl (World.ownsRow_nil w _ _ 1) ad n c (ints zs) rfl HLZ.out HNW.out HON.out (by simp only [maxLen]; omega) (by omega) (Nat.le_refl _) ?_; intro v' w1 hown hgr _)
    have hO : OwnI w1 w.heap.size v' zs := by
      unfold OwnI
      rw [HN.out]
      rw [Nat.zero_add, List.nil_append] at hown
      exact hown
    obtain ⟨A', c', rfl, -, -, hI⟩ := hO.shape
    go_wp2_with fail
    go_ret
    exact ⟨A', c', zs, rfl, hI, HS.out, (Below.refl _ _).grown hgr (Nat.le_refl _) (fun k hk => by cases hk)⟩

set_option maxHeartbeats 4000000 in
set_option maxRecDepth 100000 in
theorem Sort_any (K : Nat) : ∀ (A : Option Addr) (n c : Nat) (zs : List Int) (w : World), n ≤ K → n ≤ 1000000 → IntsAt w A zs → zs.length = n → n ≤ c → (A = none → c = 0) →
    Calls Try.prog 40 #[.slice A n c] w (Sorts zs w) := by
  induction K with
  | zero => exact fun A n c zs w h1 _ hA hn hc hc0 => Sort_small A n c zs w hA hn (by omega) hc hc0
  | succ K ih =>
    intro A n c zs w hK hM hA hn hc hc0
    rcases Nat.lt_or_ge n 2 with h2 | h2
    · exact Sort_small A n c zs w hA hn h2 hc hc0
    · obtain ⟨b, off, rfl, hb, -⟩ := hA (by omega)
      obtain ⟨h, hh⟩ : ∃ h, h = n / 2 := ⟨_, rfl⟩
      have hq : (n : Int) / 2 = (h : Int) := by omega
      have q0 : (0 : Int) ≤ h := by omega
      have q1 : (h : Int) ≤ n := by omega
      have q2 : (n : Int) ≤ c := by omega
      have q3 : (h : Int) ≤ c := by omega
      have q4 : ¬ c = h := by omega
      have q5 : ¬ (n : Int) < 2 := by omega
      have ih1 := fun W h' => ih (some ⟨b, off, none⟩) h c (zs.take h) W (by omega) (by omega) h' (by rw [List.length_take]; omega) (by omega) (fun e => by cases e)
      have ih2 := fun W h' => ih (some ⟨b, off + h, none⟩) (n - h) (c - h) (zs.drop h) W (by omega) (by omega) h' (by rw [List.length_drop]; omega) (by omega) (fun e => by cases e)
      have H1 := Lib.hid ih1
      have H2 := Lib.hid ih2
      have HN := Lib.hid hn
      have HH := Lib.hid hh
      clear ih ih1 ih2 hn hc0 hh
      go_enter Try.func40, Try.ntmps40
      go_upto_region 4 with fail
      go_cut [4, 5] (fun s t wx => ∃ A1 c1 z1 A2 c2 z2, s = .slice A1 (List.length z1) c1 ∧ t = .slice A2 (List.length z2) c2 ∧ IntsAt wx A1 z1 ∧ IntsAt wx A2 z2 ∧ Hid (Sps.Srt (zs.take h) z1) ∧ Hid (Sps.Srt (zs.drop h) z2) ∧ Below w.heap.size w wx)
      case first =>
        have B0 := Below.refl w.heap.size w
        have hq2 : Int.tdiv (n : Int) 2 = (h : Int) := by rw [Int.tdiv_eq_ediv_of_nonneg (by omega)]; exact hq
        have hq3 : IntKind.i64.wrap (h : Int) = h := IntWalk.i64_in _ (by omega)
        go_region_held3 (fun W => Below w.heap.size w W) (first | (exact (by assumption : Below w.heap.size w _).drew) | exact Below.drew B0 | (exact bstep (by assumption) (by assumption)))
          (first
            | (go_at_call 40; ((with_reducible refine (H1.out _ ?_).mono ?_); exact (hA.take_ h).below (by assumption); rintro e w' ⟨A1, c1, z1, rfl, i1, s1, b1⟩))
            | (go_at_call 40; ((with_reducible refine (H2.out _ ?_).mono ?_); exact (hA.drop_ h).below (by assumption); rintro e w' ⟨A2, c2, z2, rfl, i2, s2, b2⟩)))
        clear hq2 hq3
        go_wp2_with fail
        go_meet
        exact ⟨A1, c1, z1, A2, c2, z2, rfl, rfl, i1.below b2, i2, Lib.hid s1, Lib.hid s2, by assumption⟩
      case rest =>
        obtain ⟨A1, c1, za, A2, c2, zb, rfl, rfl, I1, I2, S1, S2, B1⟩ := hcut
        obtain ⟨wx, rfl, B1⟩ := name_world (P := fun W => Below w.heap.size w W) B1
        have n1 : za.length ≤ 1000000 := by have := S1.out.2.2; rw [List.length_take] at this; omega
        have n2 : zb.length ≤ 1000000 := by have := S2.out.2.2; rw [List.length_drop, HN.out] at this; omega
        obtain ⟨na, HNA⟩ : ∃ k, Hid (za.length = k) := ⟨_, Lib.hid rfl⟩
        obtain ⟨nb, HNB⟩ : ∃ k, Hid (zb.length = k) := ⟨_, Lib.hid rfl⟩
        rw [HNA.out] at n1 ⊢
        rw [HNB.out] at n2 ⊢
        clear hA H1 H2
        go_wp2_with fail
        go_loopw [3, 6, 7] (fun v s t wr => ∃ (i j : Nat) (out : List Int), s = .int .i64 i ∧ t = .int .i64 j ∧ OwnI wr wx.heap.size v out ∧ Below wx.heap.size wx wr ∧ Hid (Sps.Merge za zb out i j)) (fun _ s t _ => (na - (intOf s).toNat) + (nb - (intOf t).toNat))
        case atStart => exact ⟨0, 0, [], rfl, rfl, OwnI.nil_ _ _, Below.refl _ _, Lib.hid (Sps.Merge.start _ _)⟩
        case round =>
          obtain ⟨i, j, out, rfl, rfl, hO, hW, HM⟩ := hrel
          have hA' := I1.below hW
          have hB' := I2.below hW
          have la := HM.out.la
          have lb := HM.out.lb
          have lo := HM.out.len
          rw [HNA.out] at la
          rw [HNB.out] at lb
          have hwz := hW.size
          obtain ⟨A3, c3, hv3, -, -, I3⟩ := hO.shape
          obtain ⟨no, HNO⟩ : ∃ k, Hid (out.length = k) := ⟨_, Lib.hid rfl⟩
          rw [HNO.out] at hv3 lo
          by_cases hij : i < na ∨ j < nb
          · by_cases hfa : i < na ∧ (j < nb → za.getD i 0 ≤ zb.getD j 0)
            · obtain ⟨hi, hle⟩ := hfa
              obtain ⟨ba, oa, rfl, hba, hca⟩ := hA' (by have := HNA.out; omega)
              have e0 := hca i (by have := HNA.out; omega)
              obtain ⟨x, HXX⟩ : ∃ x, Hid (za.getD i 0 = x) := ⟨_, Lib.hid rfl⟩
              rw [HXX.out] at e0 hle
              clear hca
              have FIN0 : x ∈ out → Hid (Sps.Merge za zb out (i + 1) j) := fun h => Lib.hid (HM.out.again S1.out.1 (by have := HNA.out; omega) (by rw [HXX.out]; exact h))
              have FIN1 : x ∉ out → Hid (Sps.Merge za zb (out ++ [x]) (i + 1) j) := fun h => Lib.hid (by
                have := HM.out.push S1.out.1 S2.out.1 (by have := HNA.out; omega) (by rw [HXX.out]; exact fun h2 => hle (by have := HNB.out; omega)) (by rw [HXX.out]; exact h)
                rw [HXX.out] at this
                exact this)
              have LAST : 0 < no → (x ∈ out ↔ out.getD (no - 1) 0 = x) := fun h => by
                have := HM.out.last (by have := HNA.out; omega) (by have := HNO.out; omega)
                rw [HXX.out, HNO.out] at this
                exact this
              have G0 := Lib.hid FIN0
              have G1 := Lib.hid FIN1
              have GL := Lib.hid LAST
              clear FIN0 FIN1 LAST
              subst hv3
              have i1 : (0 : Int) ≤ i := by omega
              have i2 : (i : Int) < na := by omega
              have t3 : decide (i < na) = true := by simpa using hi
              have t4 : decide ((i : Int) < na) = true := by simpa using hi
              by_cases hj : j < nb
              · have hle' := hle hj
                obtain ⟨bb, ob, rfl, hbb, hcb⟩ := hB' (by have := HNB.out; omega)
                have f0 := hcb j (by have := HNB.out; omega)
                obtain ⟨y, HYY⟩ : ∃ y, Hid (zb.getD j 0 = y) := ⟨_, Lib.hid rfl⟩
                rw [HYY.out] at f0 hle'
                clear hcb hle
                have j1 : (0 : Int) ≤ j := by omega
                have j2 : (j : Int) < nb := by omega
                have t1 : ((j : Int) == nb) = false := by simp; omega
                have t2 : (j == nb) = false := by simp; omega
                have t5 : decide (x ≤ y) = true := by simpa using hle'
                as_aux_lemma =>
                go_wp2_with fail
                go_quiet (fail)
                clear t1 t2 t3 t4 t5
                rcases Nat.eq_zero_or_pos no with hz | hz
                · have hnx : x ∉ out := by rw [List.eq_nil_of_length_eq_zero (HNO.out.trans hz)]; simp
                  have HM2 := G1.out hnx
                  subst hz
                  clear hnx
                  go_wp2_with (at_builtin; refine wp_append_int1 _ rfl _ _ rfl wx.heap.size _ out rfl ((hO.alloc _).drewN _) wr.heap.size x rfl (cell_newi rfl) (by have := HNO.out; omega) (by simp; omega) ?_; intro v' w2 hO2 hB2 _)
                  have hBn : Below wx.heap.size wx w2 := (below_drewN (hW.alloc hW.size _) _).trans hB2
                  clear hB2 hO
                  go_wp2_with fail
                  go_roundw
                  case rel => exact ⟨i + 1, j, _, by go_num, by go_num, hO2, hBn, HM2⟩
                  case measure => simp [intOf]; omega
                · obtain ⟨g3, o3, rfl, hg3, hc3⟩ := I3 (by have := HNO.out; omega)
                  have z0 := hc3 (no - 1) (by have := HNO.out; omega)
                  obtain ⟨z, HZ⟩ : ∃ z, Hid (out.getD (no - 1) 0 = z) := ⟨_, Lib.hid rfl⟩
                  rw [HZ.out] at z0
                  clear hc3
                  have k1 : (1 : Int) ≤ no := by omega
                  have k2 : ((no : Int) == 0) = false := by simp; omega
                  by_cases hzx : z = x
                  · have HM2 := G0.out ((GL.out hz).2 (by rw [HZ.out]; exact hzx))
                    subst hzx
                    go_wp2_with fail
                    go_roundw
                    case rel => exact ⟨i + 1, j, out, by go_num, by go_num, hO.drewN _, below_drewN hW _, HM2⟩
                    case measure => simp [intOf]; omega
                  · have hnx : x ∉ out := fun h => hzx (by rw [← HZ.out]; exact (GL.out hz).1 h)
                    have HM2 := G1.out hnx
                    have k3 : (z == x) = false := by simpa using hzx
                    clear hnx
                    go_wp2_with (at_builtin; refine wp_append_int1 _ rfl _ _ rfl wx.heap.size _ out rfl ((hO.alloc _).drewN _) wr.heap.size x rfl (cell_newi rfl) (by have := HNO.out; omega) (by simp; omega) ?_; intro v' w2 hO2 hB2 _)
                    have hBn : Below wx.heap.size wx w2 := (below_drewN (hW.alloc hW.size _) _).trans hB2
                    clear hB2 hO
                    go_wp2_with fail
                    go_roundw
                    case rel => exact ⟨i + 1, j, _, by go_num, by go_num, hO2, hBn, HM2⟩
                    case measure => simp [intOf]; omega
              · obtain rfl : j = nb := by omega
                clear hle
                have t1 : ((j : Int) == j) = true := by simp
                as_aux_lemma =>
                go_wp2_with fail
                go_quiet (fail)
                clear t1 t3 t4
                rcases Nat.eq_zero_or_pos no with hz | hz
                · have hnx : x ∉ out := by rw [List.eq_nil_of_length_eq_zero (HNO.out.trans hz)]; simp
                  have HM2 := G1.out hnx
                  subst hz
                  clear hnx
                  go_wp2_with (at_builtin; refine wp_append_int1 _ rfl _ _ rfl wx.heap.size _ out rfl ((hO.alloc _).drewN _) wr.heap.size x rfl (cell_newi rfl) (by have := HNO.out; omega) (by simp; omega) ?_; intro v' w2 hO2 hB2 _)
                  have hBn : Below wx.heap.size wx w2 := (below_drewN (hW.alloc hW.size _) _).trans hB2
                  clear hB2 hO
                  go_wp2_with fail
                  go_roundw
                  case rel => exact ⟨i + 1, j, _, by go_num, by go_num, hO2, hBn, HM2⟩
                  case measure => simp [intOf]; omega
                · obtain ⟨g3, o3, rfl, hg3, hc3⟩ := I3 (by have := HNO.out; omega)
                  have z0 := hc3 (no - 1) (by have := HNO.out; omega)
                  obtain ⟨z, HZ⟩ : ∃ z, Hid (out.getD (no - 1) 0 = z) := ⟨_, Lib.hid rfl⟩
                  rw [HZ.out] at z0
                  clear hc3
                  have k1 : (1 : Int) ≤ no := by omega
                  have k2 : ((no : Int) == 0) = false := by simp; omega
                  by_cases hzx : z = x
                  · have HM2 := G0.out ((GL.out hz).2 (by rw [HZ.out]; exact hzx))
                    subst hzx
                    go_wp2_with fail
                    go_roundw
                    case rel => exact ⟨i + 1, j, out, by go_num, by go_num, hO.drewN _, below_drewN hW _, HM2⟩
                    case measure => simp [intOf]; omega
                  · have hnx : x ∉ out := fun h => hzx (by rw [← HZ.out]; exact (GL.out hz).1 h)
                    have HM2 := G1.out hnx
                    have k3 : (z == x) = false := by simpa using hzx
                    clear hnx
                    go_wp2_with (at_builtin; refine wp_append_int1 _ rfl _ _ rfl wx.heap.size _ out rfl ((hO.alloc _).drewN _) wr.heap.size x rfl (cell_newi rfl) (by have := HNO.out; omega) (by simp; omega) ?_; intro v' w2 hO2 hB2 _)
                    have hBn : Below wx.heap.size wx w2 := (below_drewN (hW.alloc hW.size _) _).trans hB2
                    clear hB2 hO
                    go_wp2_with fail
                    go_roundw
                    case rel => exact ⟨i + 1, j, _, by go_num, by go_num, hO2, hBn, HM2⟩
                    case measure => simp [intOf]; omega
            · have hj : j < nb := by
                rcases Nat.lt_or_ge j nb with h | h
                · exact h
                · exact absurd ⟨by omega, fun h' => absurd h' (by omega)⟩ hfa
              obtain ⟨bb, ob, rfl, hbb, hcb⟩ := hB' (by have := HNB.out; omega)
              have f0 := hcb j (by have := HNB.out; omega)
              have hle : i < na → zb.getD j 0 ≤ za.getD i 0 := fun h => by
                rcases Int.lt_or_le (zb.getD j 0) (za.getD i 0) with h2 | h2
                · omega
                · exact absurd ⟨h, fun _ => h2⟩ hfa
              have hlt : i < na → zb.getD j 0 < za.getD i 0 := fun h => by
                rcases Int.lt_or_le (zb.getD j 0) (za.getD i 0) with h2 | h2
                · exact h2
                · exact absurd ⟨h, fun _ => h2⟩ hfa
              obtain ⟨y, HYY⟩ : ∃ y, Hid (zb.getD j 0 = y) := ⟨_, Lib.hid rfl⟩
              rw [HYY.out] at f0 hle hlt
              clear hcb hfa
              have FIN0 : y ∈ out → Hid (Sps.Merge za zb out i (j + 1)) := fun h => Lib.hid (HM.out.swap.again S2.out.1 (by have := HNB.out; omega) (by rw [HYY.out]; exact h)).swap
              have FIN1 : y ∉ out → Hid (Sps.Merge za zb (out ++ [y]) i (j + 1)) := fun h => Lib.hid (by
                have := HM.out.swap.push S2.out.1 S1.out.1 (by have := HNB.out; omega) (by rw [HYY.out]; exact fun h2 => hle (by have := HNA.out; omega)) (by rw [HYY.out]; exact h)
                rw [HYY.out] at this
                exact this.swap)
              have LAST : 0 < no → (y ∈ out ↔ out.getD (no - 1) 0 = y) := fun h => by
                have := HM.out.swap.last (by have := HNB.out; omega) (by have := HNO.out; omega)
                rw [HYY.out, HNO.out] at this
                exact this
              have G0 := Lib.hid FIN0
              have G1 := Lib.hid FIN1
              have GL := Lib.hid LAST
              clear FIN0 FIN1 LAST
              subst hv3
              clear hle
              have j1 : (0 : Int) ≤ j := by omega
              have j2 : (j : Int) < nb := by omega
              have t1 : ((j : Int) == nb) = false := by simp; omega
              have t2 : (j == nb) = false := by simp; omega
              by_cases hi : i < na
              · have hlt' := hlt hi
                obtain ⟨ba, oa, rfl, hba, hca⟩ := hA' (by have := HNA.out; omega)
                have e0 := hca i (by have := HNA.out; omega)
                obtain ⟨x, HXX⟩ : ∃ x, Hid (za.getD i 0 = x) := ⟨_, Lib.hid rfl⟩
                rw [HXX.out] at e0 hlt'
                clear hca hlt
                have i1 : (0 : Int) ≤ i := by omega
                have i2 : (i : Int) < na := by omega
                have t3 : decide (i < na) = true := by simpa using hi
                have t4 : decide ((i : Int) < na) = true := by simpa using hi
                have t5 : decide (x ≤ y) = false := by simp; omega
                as_aux_lemma =>
                go_wp2_with fail
                go_quiet (fail)
                clear t1 t2 t3 t4 t5
                rcases Nat.eq_zero_or_pos no with hz | hz
                · have hnx : y ∉ out := by rw [List.eq_nil_of_length_eq_zero (HNO.out.trans hz)]; simp
                  have HM2 := G1.out hnx
                  subst hz
                  clear hnx
                  go_wp2_with (at_builtin; refine wp_append_int1 _ rfl _ _ rfl wx.heap.size _ out rfl ((hO.alloc _).drewN _) wr.heap.size y rfl (cell_newi rfl) (by have := HNO.out; omega) (by simp; omega) ?_; intro v' w2 hO2 hB2 _)
                  have hBn : Below wx.heap.size wx w2 := (below_drewN (hW.alloc hW.size _) _).trans hB2
                  clear hB2 hO
                  go_wp2_with fail
                  go_roundw
                  case rel => exact ⟨i, j + 1, _, by go_num, by go_num, hO2, hBn, HM2⟩
                  case measure => simp [intOf]; omega
                · obtain ⟨g3, o3, rfl, hg3, hc3⟩ := I3 (by have := HNO.out; omega)
                  have z0 := hc3 (no - 1) (by have := HNO.out; omega)
                  obtain ⟨z, HZ⟩ : ∃ z, Hid (out.getD (no - 1) 0 = z) := ⟨_, Lib.hid rfl⟩
                  rw [HZ.out] at z0
                  clear hc3
                  have k1 : (1 : Int) ≤ no := by omega
                  have k2 : ((no : Int) == 0) = false := by simp; omega
                  by_cases hzx : z = y
                  · have HM2 := G0.out ((GL.out hz).2 (by rw [HZ.out]; exact hzx))
                    subst hzx
                    go_wp2_with fail
                    go_roundw
                    case rel => exact ⟨i, j + 1, out, by go_num, by go_num, hO.drewN _, below_drewN hW _, HM2⟩
                    case measure => simp [intOf]; omega
                  · have hnx : y ∉ out := fun h => hzx (by rw [← HZ.out]; exact (GL.out hz).1 h)
                    have HM2 := G1.out hnx
                    have k3 : (z == y) = false := by simpa using hzx
                    clear hnx
                    go_wp2_with (at_builtin; refine wp_append_int1 _ rfl _ _ rfl wx.heap.size _ out rfl ((hO.alloc _).drewN _) wr.heap.size y rfl (cell_newi rfl) (by have := HNO.out; omega) (by simp; omega) ?_; intro v' w2 hO2 hB2 _)
                    have hBn : Below wx.heap.size wx w2 := (below_drewN (hW.alloc hW.size _) _).trans hB2
                    clear hB2 hO
                    go_wp2_with fail
                    go_roundw
                    case rel => exact ⟨i, j + 1, _, by go_num, by go_num, hO2, hBn, HM2⟩
                    case measure => simp [intOf]; omega
              · obtain rfl : i = na := by omega
                clear hlt
                have t3 : decide (i < i) = false := by simp
                have t4 : decide ((i : Int) < i) = false := by simp
                as_aux_lemma =>
                go_wp2_with fail
                go_quiet (fail)
                clear t1 t2 t3 t4
                rcases Nat.eq_zero_or_pos no with hz | hz
                · have hnx : y ∉ out := by rw [List.eq_nil_of_length_eq_zero (HNO.out.trans hz)]; simp
                  have HM2 := G1.out hnx
                  subst hz
                  clear hnx
                  go_wp2_with (at_builtin; refine wp_append_int1 _ rfl _ _ rfl wx.heap.size _ out rfl ((hO.alloc _).drewN _) wr.heap.size y rfl (cell_newi rfl) (by have := HNO.out; omega) (by simp; omega) ?_; intro v' w2 hO2 hB2 _)
                  have hBn : Below wx.heap.size wx w2 := (below_drewN (hW.alloc hW.size _) _).trans hB2
                  clear hB2 hO
                  go_wp2_with fail
                  go_roundw
                  case rel => exact ⟨i, j + 1, _, by go_num, by go_num, hO2, hBn, HM2⟩
                  case measure => simp [intOf]; omega
                · obtain ⟨g3, o3, rfl, hg3, hc3⟩ := I3 (by have := HNO.out; omega)
                  have z0 := hc3 (no - 1) (by have := HNO.out; omega)
                  obtain ⟨z, HZ⟩ : ∃ z, Hid (out.getD (no - 1) 0 = z) := ⟨_, Lib.hid rfl⟩
                  rw [HZ.out] at z0
                  clear hc3
                  have k1 : (1 : Int) ≤ no := by omega
                  have k2 : ((no : Int) == 0) = false := by simp; omega
                  by_cases hzx : z = y
                  · have HM2 := G0.out ((GL.out hz).2 (by rw [HZ.out]; exact hzx))
                    subst hzx
                    go_wp2_with fail
                    go_roundw
                    case rel => exact ⟨i, j + 1, out, by go_num, by go_num, hO.drewN _, below_drewN hW _, HM2⟩
                    case measure => simp [intOf]; omega
                  · have hnx : y ∉ out := fun h => hzx (by rw [← HZ.out]; exact (GL.out hz).1 h)
                    have HM2 := G1.out hnx
                    have k3 : (z == y) = false := by simpa using hzx
                    clear hnx
                    go_wp2_with (at_builtin; refine wp_append_int1 _ rfl _ _ rfl wx.heap.size _ out rfl ((hO.alloc _).drewN _) wr.heap.size y rfl (cell_newi rfl) (by have := HNO.out; omega) (by simp; omega) ?_; intro v' w2 hO2 hB2 _)
                    have hBn : Below wx.heap.size wx w2 := (below_drewN (hW.alloc hW.size _) _).trans hB2
                    clear hB2 hO
                    go_wp2_with fail
                    go_roundw
                    case rel => exact ⟨i, j + 1, _, by go_num, by go_num, hO2, hBn, HM2⟩
                    case measure => simp [intOf]; omega
          · obtain rfl : i = na := by omega
            obtain rfl : j = nb := by omega
            have fin : Sps.Srt zs out := Sps.Srt.merge S1.out S2.out HM.out HNA.out.symm HNB.out.symm
            have FIN := Lib.hid fin
            clear fin
            subst hv3
            go_wp2_with fail
            go_ret
            exact ⟨A3, c3, out, by rw [HNO.out]; rfl, I3, FIN.out, B1.trans (hW.mono B1.size)⟩
end Go.Proofs.Ytnleelkdoagfcaa
