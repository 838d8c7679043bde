/- The reference's normal form of any spans: two maps that count, and the sorted borders. -/
import Derived.Test.YtnleelkdoagfcaaSpE
import Derived.Test.YtnleelkdoagfcaaSpF
import Derived.Test.YtnleelkdoagfcaaSpj
import Derived.IntWalk
import Derived.Maps.Own
import Derived.Maps.OwnOps
import Derived.Maps.OwnSet
import Derived.Maps.Views
namespace Go.Proofs.Ytnleelkdoagfcaa
open Go.RowKit Go.Maps
set_option linter.unusedVariables false
set_option linter.unusedSimpArgs false

theorem lawI : Keyed Try.prog 3 := int_keyed Try.underlying3
theorem zeroI (w : World) : (zeroValue 3).run Try.prog w = .ok (.int .i64 0) w := by kernel_rfl
def I64 (x : Int) : Prop := -9223372036854775808 ≤ x ∧ x ≤ 9223372036854775807
theorem I64.wf {x : Int} (h : I64 x) : (Lit.int .i64 x).wf = true := WalkArith.wf_i64 h

/-- Block b is a map that counts: F says how often. -/
def Tally (w : World) (b n : Nat) (F : Int → Int) : Prop :=
  ∃ D : DataW Unit, w.ownsMap Try.prog 3 (plainElem Try.prog 3) b n D ∧ ∀ x, D.atKey (.int .i64 x) (.lit (.int .i64 0)) = .lit (.int .i64 (F x))
theorem Tally.made (w : World) : Tally (w.alloc (.map #[] 0)) w.heap.size 0 (fun _ => 0) :=
  ⟨_, World.ownsMap_made w _ _ _, fun x => rfl⟩
theorem Tally.alloc {w : World} {b n : Nat} {F : Int → Int} (h : Tally w b n F) (o : Obj) : Tally (w.alloc o) b n F := by
  obtain ⟨D, h1, h2⟩ := h; exact ⟨D, h1.alloc o, h2⟩
theorem Tally.drewN {w : World} {b n : Nat} {F : Int → Int} (h : Tally w b n F) (q : Nat) : Tally (w.drewN q) b n F := h
theorem Tally.kept {w w' : World} {b n : Nat} {F : Int → Int} {row : Option Nat} (h : Tally w b n F) (hg : w.grownBy w' row) (hne : some b ≠ row) : Tally w' b n F := by
  obtain ⟨D, h1, h2⟩ := h; exact ⟨D, h1.kept hg hne, h2⟩
theorem Tally.below {w w' : World} {b n : Nat} {F : Int → Int} (h : Tally w b n F) (hb : Below w.heap.size w w') : Tally w' b n F := by
  obtain ⟨D, ⟨es, ck, e1, e2⟩, h2⟩ := h
  refine ⟨D, ⟨es, ck, (hb.block b ?_).trans e1, e2⟩, h2⟩
  rcases Nat.lt_or_ge b w.heap.size with hlt | hge
  · exact hlt
  · rw [Array.getElem?_eq_none hge] at e1; cases e1
theorem Tally.lt_ {w : World} {b n : Nat} {F : Int → Int} (h : Tally w b n F) : b < w.heap.size := by
  obtain ⟨D, h1, h2⟩ := h; exact h1.lt
theorem Tally.mono {w : World} {b n m : Nat} {F : Int → Int} (h : Tally w b n F) (hm : n ≤ m) : Tally w b m F := by
  obtain ⟨D, h1, h2⟩ := h; exact ⟨D, h1.mono hm, h2⟩
theorem Tally.ne {w : World} {b n B : Nat} {F : Int → Int} {v : Value} {ys : List Int} (h : Tally w b n F) (hO : OwnI w B v ys) : some b ≠ v.ownBlock := by
  obtain ⟨D, ⟨es, ck, e1, e2⟩, h2⟩ := h
  rcases hO.2 with ⟨rfl, h0⟩ | ⟨g, cap, cur, rfl, hb, hg, hr⟩
  · simp [Value.ownBlock]
  · simp only [Value.ownBlock]
    intro e
    cases e
    rw [hg] at e1
    cases e1
theorem Tally.run {w : World} {b n : Nat} {F : Int → Int} (h : Tally w b n F) {x : Int} (hx : I64 x) : (Instr.lookup 56 (.map (some b)) (.int .i64 x) false).run Try.prog w = .ok (.int .i64 (F x)) w := by
  obtain ⟨D, h1, h2⟩ := h
  obtain ⟨c, hr, hat, -⟩ := h1.lookup_int lawI Try.underlying56 Try.underlying3 (zeroI w) (keyOf_int_mk Try.underlying3 hx.wf)
  rw [h2 x] at hat
  cases hat
  exact hr
theorem wp_tally_lookup {ops : Array Oper} {rest : List Oper} {o : Oper} {a : Act} {Q : Exit → Act → World → Prop} (w : World) (hg : o.guard = none) (m x : Operand)
    (hop : o.op = .lookup 56 m x false) (b n : Nat) (F : Int → Int) (hm : a.eval m = .map (some b)) (h : Tally w b n F) (key c : Int) (hx : a.eval x = .int .i64 key) (hk : I64 key) (hc : F key = c)
    (hK : wpList Try.prog ops Q rest (a.put o.dst (.int .i64 c)) w) : wpList Try.prog ops Q (o :: rest) a w := by
  obtain ⟨D, h1, h2⟩ := h
  refine wpList_lookup_own_int w hg m x 56 hop 3 3 .i64 lawI Try.underlying56 Try.underlying3 (zeroI w) b n D hm h1 _ _ hx (keyOf_int_mk Try.underlying3 hk.wf) fun c' hat _ => ?_
  rw [h2 key, hc] at hat
  cases hat
  exact hK
theorem wp_tally_update {ops : Array Oper} {rest : List Oper} {o : Oper} {a : Act} {Q : Exit → Act → World → Prop} (w : World) (hg : o.guard = none) (m x v : Operand)
    (hop : o.op = .mapUpdate 56 m x v) (b n : Nat) (F : Int → Int) (hm : a.eval m = .map (some b)) (h : Tally w b n F) (key c : Int) (hx : a.eval x = .int .i64 key) (hk : I64 key)
    (hv : a.eval v = .int .i64 c) (hc : I64 c) (hn : n ≤ 1000000)
    (hK : ∀ w', Tally w' b (n + 1) (fun y => if y = key then c else F y) → w.grownBy w' (some b) → wpList Try.prog ops Q rest (a.put o.dst undef) w') : wpList Try.prog ops Q (o :: rest) a w := by
  obtain ⟨D, h1, h2⟩ := h
  refine wpList_mapUpdate_own w hg m x v 56 hop 3 3 lawI Try.underlying56 _ b n D hm h1 (by unfold maxLen; omega) _ _ _ hx hv (keyOf_int_mk Try.underlying3 hk.wf) _ [] (plainElem_int Try.underlying3 hc.wf) fun w' h3 h4 => ?_
  refine hK w' ⟨_, h3, fun y => ?_⟩ h4
  by_cases e : y = key
  · subst e
    rw [atKey_put_same h1.isMap (by trivial)]
    simp
  · rw [atKey_put_other (by intro h; injection h with _ h; exact e h)]
    simp only [e, if_false]
    exact h2 y
theorem OwnI.kept {w w' : World} {B : Nat} {v : Value} {ys : List Int} {row : Option Nat} (h : OwnI w B v ys) (hg : w.grownBy w' row) (hne : v.ownBlock = none ∨ v.ownBlock ≠ row) : OwnI w' B v ys := World.ownsRow.kept h hg hne
theorem wp_append_int2 {ops : Array Oper} {rest : List Oper} {o : Oper} {a : Act} {Q : Exit → Act → World → Prop} (w : World) (hgd : o.guard = none) (s x : Operand)
    (ho : o.op = .call { callee := .builtin .append, args := #[s, x], argTypes := #[23, 23] }) (B : Nat) (v : Value) (ys : List Int) (hs : a.eval s = v) (hown : OwnI w B v ys)
    (blk : Nat) (f t : Int) (hx : a.eval x = .slice (some ⟨blk, 0, none⟩) 2 2) (hc0 : w.cell? ⟨blk, 0, none⟩ = some (.int .i64 f)) (hc1 : w.cell? ⟨blk, 1, none⟩ = some (.int .i64 t))
    (hlen : ys.length ≤ 9000000) (hB : B ≤ w.heap.size)
    (h : ∀ v' w', OwnI w' B v' (ys ++ [f, t]) → Below B w w' → w.grownBy w' v.ownBlock →
      wpList Try.prog ops Q rest (a.put o.dst v') w') : wpList Try.prog ops Q (o :: rest) a w :=
  wp_append_ints w hgd s x ho B v ys hs hown blk 0 2 2 [f, t] hx rfl (fun k hk => by
    match k, hk with
    | 0, _ => exact hc0
    | 1, _ => exact hc1) (by omega) hB h
theorem two_allocs {w wr w2 : World} {B : Nat} {o1 o2 : Obj} (hW : Below w.heap.size w wr) (h2 : Below w.heap.size ((wr.alloc o1).alloc o2) w2) : Below w.heap.size w w2 :=
  ((hW.alloc hW.size _).alloc (by have := hW.size; simp; omega) _).trans h2
theorem grown_below {B : Nat} {w w' : World} {b : Nat} (hB : B ≤ w.heap.size) (hb : B ≤ b) (hg : w.grownBy w' (some b)) : Below B w w' := (Below.refl B w).grown hg hB (fun k hk => by cases hk; exact hb)

theorem OwnI.ne_new {w : World} {B k : Nat} {v : Value} {ys : List Int} (h : OwnI w B v ys) (hk : w.heap.size ≤ k) : some k ≠ v.ownBlock := fun e => by
  have := (World.ownsRow.lt h k e.symm).2; omega
theorem wp_append_at {ops : Array Oper} {rest : List Oper} {o : Oper} {a : Act} {Q : Exit → Act → World → Prop} (wr : World) (f t : Int) (hgd : o.guard = none) (s x : Operand)
    (ho : o.op = .call { callee := .builtin .append, args := #[s, x], argTypes := #[23, 23] }) (B : Nat) (v : Value) (ys : List Int) (hs : a.eval s = v) (hown : OwnI wr B v ys)
    (hx : a.eval x = .slice (some ⟨wr.heap.size + 1, 0, none⟩) 2 2) (hlen : ys.length ≤ 9000000) (hB : B ≤ wr.heap.size) {b5 b6 n : Nat} {F5 F6 : Int → Int} (T5 : Tally wr b5 n F5) (T6 : Tally wr b6 n F6)
    (h : ∀ v' w', OwnI w' B v' (ys ++ [f, t]) → Below B wr w' → Tally w' b5 n F5 → Tally w' b6 n F6 → w'.cell? ⟨wr.heap.size, 0, none⟩ = some (.int .i64 f) → w'.cell? ⟨wr.heap.size, 1, none⟩ = some (.int .i64 t) → wr.heap.size < w'.heap.size →
      wpList Try.prog ops Q rest (a.put o.dst v') w') :
    wpList Try.prog ops Q (o :: rest) a ((wr.alloc (.cells #[.int .i64 f, .int .i64 t] 47)).alloc (.cells #[.int .i64 f, .int .i64 t] 3)) := by
  have hO := (hown.alloc (.cells #[.int .i64 f, .int .i64 t] 47)).alloc (.cells #[.int .i64 f, .int .i64 t] 3)
  refine wp_append_int2 _ hgd s x ho B v ys hs hO (wr.heap.size + 1) f t hx (cell_new0 (by simp)) (cell_new1 (by simp)) hlen (by simp; omega) fun v' w' h1 h2 h3 => ?_
  refine h v' w' h1 ((((Below.refl B wr).alloc hB _).alloc (by simp; omega) _).trans h2) (((T5.alloc _).alloc _).kept h3 (((T5.alloc _).alloc _).ne hO)) (((T6.alloc _).alloc _).kept h3 (((T6.alloc _).alloc _).ne hO)) ?_ ?_ (by have := h3.size; simp at this; omega)
  · exact (h3.cell_far ⟨wr.heap.size, 0, none⟩ (by simp only [World.size_alloc]; omega) (hown.ne_new (Nat.le_refl _))).trans ((World.cell?_alloc_lt _ _ ⟨wr.heap.size, 0, none⟩ (by simp)).trans (cell_new0 rfl))
  · exact (h3.cell_far ⟨wr.heap.size, 1, none⟩ (by simp only [World.size_alloc]; omega) (hown.ne_new (Nat.le_refl _))).trans ((World.cell?_alloc_lt _ _ ⟨wr.heap.size, 1, none⟩ (by simp)).trans (cell_new1 rfl))
/-- What a store into a map leaves. -/
structure MapStored (w w' : World) (b : Nat) : Prop where
  own : ∀ {v B ys}, OwnI w B v ys → v.ownBlock ≠ some b → OwnI w' B v ys
  tally : ∀ {b' n F}, b' ≠ b → Tally w b' n F → Tally w' b' n F
  cell : ∀ {b' i u}, b' ≠ b → b' < w.heap.size → w.cell? ⟨b', i, none⟩ = some u → w'.cell? ⟨b', i, none⟩ = some u
  below : ∀ {B}, B ≤ w.heap.size → B ≤ b → Below B w w'
  size : w.heap.size ≤ w'.heap.size
theorem wp_tally_store {ops : Array Oper} {rest : List Oper} {o : Oper} {a : Act} {Q : Exit → Act → World → Prop} (w : World) (hg : o.guard = none) (m x v : Operand)
    (hop : o.op = .mapUpdate 56 m x v) (b n : Nat) (F : Int → Int) (hm : a.eval m = .map (some b)) (h : Tally w b n F) (key c : Int) (hx : a.eval x = .int .i64 key) (hk : I64 key)
    (hv : a.eval v = .int .i64 c) (hc : I64 c) (hn : n ≤ 1000000)
    (hK : ∀ w', Tally w' b (n + 1) (fun y => if y = key then c else F y) → MapStored w w' b → wpList Try.prog ops Q rest (a.put o.dst undef) w') : wpList Try.prog ops Q (o :: rest) a w :=
  wp_tally_update w hg m x v hop b n F hm h key c hx hk hv hc hn fun w' h1 h2 => hK w' h1
    ⟨fun h3 h4 => h3.kept h2 (.inr h4), fun h3 h4 => h4.kept h2 (fun e => h3 (by injection e)), fun h3 h4 h5 => (h2.cell_far ⟨_, _, none⟩ h4 (fun e => h3 (by injection e))).trans h5, fun h3 h4 => grown_below h3 h4 h2, h2.size⟩
theorem Tally.congr {w : World} {b n : Nat} {F G : Int → Int} (h : Tally w b n F) (e : ∀ x, F x = G x) : Tally w b n G := by
  rw [show G = F from funext fun x => (e x).symm]; exact h

set_option maxHeartbeats 8000000 in
set_option maxRecDepth 100000 in
theorem RNormal_any (A : Option Addr) (n c : Nat) (xs : Spn.L) (w : World) (hA : SpansAt w A xs) (hF : Fits xs) (hn : xs.length = n) (hm : n ≤ 9223372036854775807) :
    Calls Try.prog 13 #[.slice A n c] w fun e w' => ∃ r er, Hid (Spn.NR xs r er) ∧ Gives r er w e w' := by
  have hmm := @run_makeMap Try.prog
  by_cases hl : (4096 : Int) < n
  · have hr : Spn.NR xs [] 5 := .inl ⟨by omega, rfl, rfl⟩
    have HR := Lib.hid hr
    clear hn hr
    go_enter Try.func13, Try.ntmps13
    go_wp2_with fail
    go_ret2
    exact ⟨[], 5, HR, Gives.none_ (Below.refl _ _)⟩
  · have hl2 : (n : Int) ≤ 4096 := by omega
    have HN := Lib.hid hn
    clear hn hl
    go_enter Try.func13, Try.ntmps13
    go_wp2_with fail
    go_loopw [4, 7] (fun v i wr => ∃ k : Nat, k ≤ n ∧ i = .int .i64 k ∧ OwnI wr w.heap.size v (Spn.flat (Spn.parts (xs.take k))) ∧ Tally wr w.heap.size k (Spn.cntL (Spn.parts (xs.take k))) ∧ Tally wr (w.heap.size + 1) k (Spn.cntR (Spn.parts (xs.take k))) ∧ Hid (¬ Spn.Bad (xs.take k)) ∧ Below w.heap.size w wr) (fun _ i _ => n - (intOf i).toNat)
    case atStart => exact ⟨0, Nat.zero_le _, rfl, OwnI.nil_ _ _, (Tally.made w).alloc _, (by have h := Tally.made (w.alloc (.map #[] 0)); simp only [World.size_alloc] at h; exact h), Lib.hid Spn.bad_nil, ((Below.refl _ _).alloc (Nat.le_refl _) _).alloc (by simp) _⟩
    case round =>
      obtain ⟨k, hk, rfl, hO, T5, T6, HB, hW⟩ := hrel
      by_cases hlt : k < n
      · obtain ⟨b, off, rfl, hb, hc⟩ := hA (by have := HN.out; omega)
        obtain ⟨c0, c1⟩ := hc k (by have := HN.out; omega)
        have c0' := (bcell hW _ _ hb).trans c0
        have c1' := (bcell hW _ _ hb).trans c1
        clear hc c0 c1
        have hfit := hF _ (Spn.getD_mem (l := xs) (k := k) (by have := HN.out; omega))
        obtain ⟨⟨f, t⟩, HS⟩ : ∃ s : Int × Int, Hid (xs.getD k (0, 0) = s) := ⟨_, Lib.hid rfl⟩
        rw [HS.out] at c0' c1' hfit
        obtain ⟨⟨f1, f2⟩, t1, t2⟩ := hfit
        simp only at f1 f2 t1 t2 c0' c1'
        have hT : Spn.parts (xs.take (k + 1)) = Spn.parts (xs.take k) ++ (if f < t then [(f, t)] else []) := by rw [Spn.take_snoc xs k (0, 0) (by have := HN.out; omega), HS.out, Spn.parts_snoc]
        have hpl := Spn.parts_len (xs.take k)
        have hlk : (xs.take k).length = k := by rw [List.length_take]; have := HN.out; omega
        rw [hlk] at hpl
        have hk1 : k < xs.length := by have := HN.out; omega
        clear hlk
        have hwz := hW.size
        have hbz := Nat.lt_of_lt_of_le hb hW.size
        by_cases p1 : t ≤ f
        · have hB2 : ¬ Spn.Bad (xs.take (k + 1)) := Spn.bad_take hk1 HB.out (by rw [HS.out]; rintro ⟨h, -⟩; simp only at h; omega)
          rw [if_neg (by omega), List.append_nil] at hT
          rw [← hT] at hO T5 T6
          have HB2 := Lib.hid hB2
          clear hB2 hT
          go_wp2_with fail
          go_roundw
          case rel => exact ⟨k + 1, by omega, by go_num, hO.alloc _, (T5.alloc _).mono (by omega), (T6.alloc _).mono (by omega), HB2, hW.alloc hW.size _⟩
          case measure => simp [intOf]; omega
        · by_cases p2 : f < 0 ∨ 8589934592 < t
          · have hr : Spn.NR xs [] 1 := .inr (.inl ⟨by have := HN.out; omega, ⟨_, Spn.getD_mem hk1, by rw [HS.out]; exact ⟨by simp only; omega, p2⟩⟩, rfl, rfl⟩)
            have HR := Lib.hid hr
            clear hr hT
            by_cases p3 : f < 0
            all_goals
              go_wp2_with fail
              go_ret2
              exact ⟨[], 1, HR, Gives.none_ (hW.alloc hW.size _)⟩
          · have hB2 : ¬ Spn.Bad (xs.take (k + 1)) := Spn.bad_take hk1 HB.out (by rw [HS.out]; rintro ⟨-, h⟩; exact p2 h)
            have HB2 := Lib.hid hB2
            rw [if_pos (by omega)] at hT
            have p4 : ¬ f < 0 := by omega
            have p5 : ¬ 8589934592 < t := by omega
            obtain ⟨ps, HP⟩ : ∃ ps, Hid (Spn.parts (xs.take k) = ps) := ⟨_, Lib.hid rfl⟩
            rw [HP.out] at hO T5 T6 hT hpl
            have HT := Lib.hid hT
            have hfl := Spn.flat_len ps
            have hzl : (Spn.flat ps).length ≤ 100000 := by omega
            obtain ⟨zs, HZ⟩ : ∃ zs, Hid (Spn.flat ps = zs) := ⟨_, Lib.hid rfl⟩
            rw [HZ.out] at hO hzl
            have b5 := (Spn.cnt_bd ps f).2.1
            have b6 := (Spn.cnt_bd ps t).2.2
            obtain ⟨c5, HC5⟩ : ∃ c, Hid (Spn.cntL ps f = c) := ⟨_, Lib.hid rfl⟩
            obtain ⟨c6, HC6⟩ : ∃ c, Hid (Spn.cntR ps t = c) := ⟨_, Lib.hid rfl⟩
            rw [HC5.out] at b5
            rw [HC6.out] at b6
            obtain ⟨b51, b52⟩ := b5
            obtain ⟨b61, b62⟩ := b6
            have b53 : c5 ≤ 4096 := by omega
            have b63 : c6 ≤ 4096 := by omega
            clear hB2 hT p2 hfl b52 b62
            have r0 : I64 f := ⟨f1, f2⟩
            have r1 : I64 t := ⟨t1, t2⟩
            have r5 : I64 (c5 + 1) := ⟨by omega, by omega⟩
            have r6 : I64 (c6 + 1) := ⟨by omega, by omega⟩
            have hk9 : k ≤ 1000000 := by omega
            have hzl9 : zs.length ≤ 9000000 := by omega
            go_upto_region 13 with (at_builtin; refine wp_append_at wr f t rfl _ _ rfl w.heap.size _ zs rfl hO rfl hzl9 hwz T5 T6 ?_; intro v' w2 hO2 hB2 T5b T6b x0 x1 hw2)
            have W2 := hW.trans hB2
            have nO2 := T5b.ne hO2
            have nO2' := T6b.ne hO2
            have wn : wr.heap.size ≠ w.heap.size := by have := T5.lt_; omega
            clear hB2 hO T5 T6
            go_upto_region 14 with (first
              | (at_lookup; refine wp_tally_lookup _ rfl _ _ rfl w.heap.size k _ rfl T5b f c5 rfl r0 HC5.out ?_)
              | (at_mapUpdate; refine wp_tally_store _ rfl _ _ _ rfl w.heap.size k _ rfl T5b f (c5 + 1) rfl r0 rfl r5 hk9 ?_; intro w3 T5c M3))
            have T6c := M3.tally (Nat.succ_ne_self _) T6b
            have hO3 := M3.own hO2 (Ne.symm nO2)
            have W3 := W2.trans (M3.below W2.size (Nat.le_refl _))
            have y0 := M3.cell wn hw2 x0
            have y1 := M3.cell wn hw2 x1
            have hw3 := Nat.lt_of_lt_of_le hw2 M3.size
            clear x0 x1 T6b hO2 W2 M3 nO2 T5b
            go_wp2_with (first
              | (at_lookup; refine wp_tally_lookup _ rfl _ _ rfl (w.heap.size + 1) k _ rfl T6c t c6 rfl r1 HC6.out ?_)
              | (at_mapUpdate; refine wp_tally_store _ rfl _ _ _ rfl (w.heap.size + 1) k _ rfl T6c t (c6 + 1) rfl r1 rfl r6 hk9 ?_; intro w4 T6d M4))
            have T5d := M4.tally (Nat.ne_of_lt (Nat.lt_succ_self _)) T5c
            have hO4 := M4.own hO3 (Ne.symm nO2')
            have W4 := W3.trans (M4.below W3.size (Nat.le_succ _))
            clear T5c hO3 W3 M4 T6c
            have hfin : Spn.flat (Spn.parts (xs.take (k + 1))) = zs ++ [f, t] := by rw [HT.out, Spn.flat_snoc, HZ.out]
            rw [← hfin] at hO4
            have T5e := T5d.congr (G := Spn.cntL (Spn.parts (xs.take (k + 1)))) fun x => by
              rw [HT.out, Spn.cntL_snoc]
              by_cases e : x = f
              · subst e; simp [HC5.out]
              · simp only [if_neg e]; rw [if_neg (fun h => e h.symm)]; omega
            have T6e := T6d.congr (G := Spn.cntR (Spn.parts (xs.take (k + 1)))) fun x => by
              rw [HT.out, Spn.cntR_snoc]
              by_cases e : x = t
              · subst e; simp [HC6.out]
              · simp only [if_neg e]; rw [if_neg (fun h => e h.symm)]; omega
            clear T5d T6d hfin
            go_wp2_with fail
            go_roundw
            case rel => exact ⟨k + 1, by omega, by go_num, hO4, T5e, T6e, HB2, W4⟩
            case measure => simp [intOf]; omega
      · have hkn : xs.take k = xs := List.take_of_length_le (by have := HN.out; omega)
        rw [hkn] at hO T5 T6
        have hbad := HB.out
        rw [hkn] at hbad
        have HBAD := Lib.hid hbad
        have hkn4 : k ≤ 4096 := by omega
        clear hkn hbad
        have hfl := Spn.flat_len (Spn.parts xs)
        have hpl := Spn.parts_len xs
        have hAt : (Spn.flat (Spn.parts xs)).length ≤ 100000 := by have := HN.out; omega
        obtain ⟨A0, c0, rfl, hc1, hc2, hI⟩ := hO.shape
        have hSrt := Sort_any _ A0 _ c0 (Spn.flat (Spn.parts xs)) wr (Nat.le_refl _) (by omega) hI rfl hc1 hc2
        obtain ⟨na, HNA⟩ : ∃ q, Hid ((Spn.flat (Spn.parts xs)).length = q) := ⟨_, Lib.hid rfl⟩
        rw [HNA.out] at hSrt hAt ⊢
        have HSO := Lib.hid hSrt
        have PF : ∀ x ∈ Spn.flat (Spn.parts xs), I64 x := fun x hx => by
          obtain ⟨s, hs, e⟩ := Spn.mem_flat.1 hx
          have h := hF s (Spn.mem_parts.1 hs).1
          rcases e with rfl | rfl
          · exact h.1
          · exact h.2
        have HPF := Lib.hid PF
        have PL : ∀ s ∈ Spn.parts xs, s.1 < s.2 := fun s hs => (Spn.mem_parts.1 hs).2
        have HPL := Lib.hid PL
        have plen : ((Spn.parts xs).length : Int) ≤ 4096 := by have := HN.out; omega
        clear hSrt hO hc1 hc2 hI hfl hpl PF PL
        go_wp2_with fail
        refine HSO.out.mono ?_
        rintro e w3 ⟨A3, c3, ss, rfl, I3, S3, b3⟩
        have HS3 := Lib.hid S3
        have B3 := bstep hW b3
        have T5b := T5.below b3
        have T6b := T6.below b3
        have nss : ss.length ≤ 100000 := by have := S3.2.2; have := HNA.out; omega
        clear S3 HSO hW b3 T5 T6
        obtain ⟨ns, HNS⟩ : ∃ q, Hid (ss.length = q) := ⟨_, Lib.hid rfl⟩
        rw [HNS.out] at nss ⊢
        go_wp2_with fail
        go_loopw [9, 10, 11] (fun v d i wr => ∃ (j : Nat) (out : Spn.L) (dep : Int), i = .int .i64 j ∧ d = .int .i64 dep ∧ j ≤ ns ∧ Own wr w3.heap.size v out ∧ Below w3.heap.size w3 wr ∧ Hid (∃ p, Spn.CRound (Spn.parts xs) ss j dep p out)) (fun _ _ i _ => ns - (intOf i).toNat)
        case atStart => exact ⟨0, [], 0, rfl, rfl, Nat.zero_le _, Own.nil_ _ _, Below.refl _ _, Lib.hid (Spn.CRound.start HS3.out)⟩
        case round =>
          obtain ⟨j, out, dep, rfl, rfl, hj, hO, hW, HR⟩ := hrel
          obtain ⟨p, hr⟩ := HR.out
          by_cases hlt : j < ns
          · obtain ⟨b3', o3, rfl, hb3, hc3⟩ := I3 (by have := HNS.out; omega)
            have e0 := (bcell hW _ _ hb3).trans (hc3 j (by have := HNS.out; omega))
            clear hc3
            have hcount := hr.count HPL.out (by have := HNS.out; omega)
            have hqm := (HS3.out.2.1 _).1 (Sps.getD_mem (l := ss) (k := j) (by have := HNS.out; omega))
            have hq := HPF.out _ hqm
            have d0 := (Spn.cnt_bd (Spn.parts xs) p).1
            rw [← hr.cn] at d0
            obtain ⟨q, HQ⟩ : ∃ q, Hid (ss.getD j 0 = q) := ⟨_, Lib.hid rfl⟩
            rw [HQ.out] at e0 hcount hq
            have NX := fun dep' hd => hr.next HS3.out HPL.out (by have := HNS.out; omega) dep' q HQ.out hd
            have cb := Spn.cnt_bd (Spn.parts xs) q
            have t5 := fun W (h : Tally W w.heap.size k (Spn.cntL (Spn.parts xs))) => h.run hq
            have t6 := fun W (h : Tally W (w.heap.size + 1) k (Spn.cntR (Spn.parts xs))) => h.run hq
            obtain ⟨cL, HCL⟩ : ∃ c, Hid (Spn.cntL (Spn.parts xs) q = c) := ⟨_, Lib.hid rfl⟩
            obtain ⟨cR, HCR⟩ : ∃ c, Hid (Spn.cntR (Spn.parts xs) q = c) := ⟨_, Lib.hid rfl⟩
            obtain ⟨dn, HDN⟩ : ∃ c, Hid (Spn.cnt (Spn.parts xs) q = c) := ⟨_, Lib.hid rfl⟩
            rw [HCL.out, HCR.out, HDN.out] at cb hcount
            rw [HDN.out] at NX
            obtain ⟨⟨n0, n1⟩, ⟨l0, l1⟩, ⟨r0, r1⟩⟩ := cb
            obtain ⟨dp0, dp1⟩ := d0
            have hol := hr.len
            have hnx := NX dn rfl
            have OP : 0 < dep → ∃ c0 f0, out = c0 ++ [(f0, 0)] := fun h => hr.pos h
            have HNX := Lib.hid hnx
            have HOP := Lib.hid OP
            have l2 : cL ≤ 4096 := by omega
            have r2 : cR ≤ 4096 := by omega
            have dp2 : dep ≤ 4096 := by omega
            clear NX hnx OP hr HR l1 r1 dp1 n1 hqm
            have L5 : ∀ z, (Instr.lookup 56 (.map (some w.heap.size)) (.int .i64 q) false).run Try.prog (wr.drewN z) = .ok (.int .i64 cL) (wr.drewN z) := fun z => by
              have h := t5 (wr.drewN z) ((T5b.below hW).drewN z)
              rw [HCL.out] at h
              exact h
            have L6 : ∀ z, (Instr.lookup 56 (.map (some (w.heap.size + 1))) (.int .i64 q) false).run Try.prog (wr.drewN z) = .ok (.int .i64 cR) (wr.drewN z) := fun z => by
              have h := t6 (wr.drewN z) ((T6b.below hW).drewN z)
              rw [HCR.out] at h
              exact h
            clear t5 t6
            have j0 : (0 : Int) ≤ j := by omega
            have j1 : (j : Int) < ns := by omega
            have ew1 : IntKind.i64.wrap (cL - cR) = cL - cR := IntWalk.i64_in _ (by omega)
            have ew2 : IntKind.i64.wrap (dep + (cL - cR)) = dn := by rw [IntWalk.i64_in _ (by omega)]; exact hcount
            have hlb := Nat.lt_of_lt_of_le hb3 hW.size
            have hwz := hW.size
            clear hcount
            have da1 : (dn == 0) = !decide (0 < dn) := by by_cases h : 0 < dn <;> simp [h] <;> omega
            have db1 : (dep == 0) = !decide (0 < dep) := by by_cases h : 0 < dep <;> simp [h] <;> omega
            by_cases a : 0 < dn
            · by_cases b : 0 < dep
              · have da : (dn == 0) = false := by rw [da1]; simp [a]
                have db : (dep == 0) = false := by rw [db1]; simp [b]
                clear da1 db1
                have hn := HNX.out
                rw [if_pos a, if_pos b] at hn
                have HN2 := Lib.hid hn
                clear hn
                as_aux_lemma =>
                go_wp2_with fail
                go_quiet (fail)
                clear ew1 ew2 L5 L6
                go_wp2_with fail
                go_roundw
                case rel => exact ⟨j + 1, out, dn, by go_num, rfl, by omega, hO.drewN _, below_drewN hW _, Lib.hid ⟨q, HN2.out⟩⟩
                case measure => simp [intOf]; omega
              · have da : (dn == 0) = false := by rw [da1]; simp [a]
                have db : (dep == 0) = true := by rw [db1]; simp [b]
                clear da1 db1
                have hn := HNX.out
                rw [if_pos a, if_neg b] at hn
                have HN2 := Lib.hid hn
                have hol9 : out.length ≤ 1000000 := by omega
                clear hn
                as_aux_lemma =>
                go_wp2_with fail
                go_quiet (fail)
                clear ew1 ew2 L5 L6
                go_wp2_with (at_builtin; refine wp_append_span _ rfl _ _ rfl w3.heap.size _ out rfl ((hO.alloc _).drewN _) wr.heap.size q 0 rfl (cell_new0 rfl) (cell_new1 rfl) hol9 (by simp; omega) ?_; intro gg cap w4 hO4 hB4 _ _)
                have hBn : Below w3.heap.size w3 w4 := (below_drewN (hW.alloc hW.size _) _).trans hB4
                clear hB4 hO
                go_wp2_with fail
                go_roundw
                case rel => exact ⟨j + 1, _, dn, by go_num, rfl, by omega, hO4, hBn, Lib.hid ⟨q, HN2.out⟩⟩
                case measure => simp [intOf]; omega
            · by_cases b : 0 < dep
              · have da : (dn == 0) = true := by rw [da1]; simp [a]
                have db : (dep == 0) = false := by rw [db1]; simp [b]
                clear da1 db1
                obtain ⟨c0, f0, rfl⟩ := HOP.out b
                obtain ⟨g0, cap, rfl, hg1, hg2, l0', l1', lf, hst⟩ := hO.last
                have hn := HNX.out
                rw [if_neg a, if_pos b, Spn.close_snoc] at hn
                have HN2 := Lib.hid hn
                have hst := hst q
                have hlen : c0.length ≤ 100000 := by simp at hol; omega
                clear hn hol hO HOP HNX
                obtain ⟨ℓ, HL⟩ : ∃ ℓ, Hid (c0.length = ℓ) := ⟨_, Lib.hid rfl⟩
                rw [HL.out] at l0' l1' hst hlen ⊢
                have lf1 := lf (ℓ * 2 + 1)
                clear lf
                as_aux_lemma =>
                go_wp2_with fail
                go_quiet (fail)
                clear ew1 ew2 L5 L6
                go_wp2_with fail
                go_roundw
                case rel => exact ⟨j + 1, _, dn, by go_num, rfl, by omega, hst.drewN _, below_drewN (hW.setCell hg1 _) _, Lib.hid ⟨q, HN2.out⟩⟩
                case measure => simp [intOf]; omega
              · have da : (dn == 0) = true := by rw [da1]; simp [a]
                have db : (dep == 0) = true := by rw [db1]; simp [b]
                clear da1 db1
                have hn := HNX.out
                rw [if_neg a, if_neg b] at hn
                have HN2 := Lib.hid hn
                clear hn
                as_aux_lemma =>
                go_wp2_with fail
                go_quiet (fail)
                clear ew1 ew2 L5 L6
                go_wp2_with fail
                go_roundw
                case rel => exact ⟨j + 1, out, dn, by go_num, rfl, by omega, hO.drewN _, below_drewN hW _, Lib.hid ⟨q, HN2.out⟩⟩
                case measure => simp [intOf]; omega
          · obtain rfl : j = ns := by omega
            have hfin := hr.final HNS.out.symm
            have hR : Spn.NR xs out 0 := .inr (.inr ⟨by have := HN.out; omega, HBAD.out, ⟨hfin.1, fun x => by rw [← hfin.2 x]; exact Spn.cov_parts xs x⟩, rfl⟩)
            have HRR := Lib.hid hR
            have W9 := bstep B3 hW
            clear hr hfin hR HR
            obtain ⟨A', c', rfl, hS⟩ := hO.shape
            go_wp2_with fail
            go_ret2
            exact ⟨out, 0, HRR, A', c', rfl, hS, W9⟩
end Go.Proofs.Ytnleelkdoagfcaa
