/- The dice: a layer with a given name. append of a list to a row of the call's own, as it runs; pagewatchlaw10.same of equal lists. pagewatchlaw10.odd. Printed by gen_tcu.py. RecurExact: what stands while it runs. -/
import Derived.Test.YthaacmmkignocaaDoorKDw
import Derived.Test.YthaacmmkignocaaDoorKG29
import Derived.Test.YthaacmmkignocaaDoorKG01
import Derived.Laws.OwnMore
import Derived.Test.YthaacmmkignocaaDoorKTcs
import Derived.Test.YthaacmmkignocaaDoorKWma
namespace Go.Proofs.YthaacmmkignocaaDoor
open Go.RowKit
set_option linter.unusedVariables false
set_option linter.unusedSimpArgs false
set_option maxRecDepth 100000
theorem Layer_lit (g n c : Nat) (A : Option Addr) (zs : List Int) (A1 A2 A3 A4 : Option Addr) (n1 c1 n2 c2 n3 c3 n4 c4 : Nat) (nm : List UInt8) (h1 : 1 ≤ n1) (h1' : n1 ≤ 1000) (h2 : 1 ≤ n2) (h2' : n2 ≤ 1000) (h3' : n3 ≤ 1000) (w : World) (h : Dice w g A n c zs) :
    Calls Tryd.prog 12 #[.pointer (some ⟨g, 0, none⟩), .agg #[.slice A1 n1 c1, .slice A2 n2 c2, .slice A3 n3 c3, .slice A4 n4 c4], .string ⟨nm.toArray⟩] w fun e w' =>
      ∃ (l : Rs.Lay) (m1 : Option Addr) (m2 m3 : Nat) (q1 : Option Addr) (q2 q3 : Nat), e = .returned (.agg #[.string ⟨nm.toArray⟩, .int .i64 l.zone, .int .i64 l.day, .int .i64 l.sec, .int .i64 l.unit, .int .i64 l.every, .slice m1 m2 m3, .slice q1 q2 q3, .int .i64 l.cal, .int .i64 l.mode]) ∧ l.name = nm ∧ Rs.ML n1 n2 n3 l ∧ LayS (fun b => w.heap.size ≤ b) w' l ((m1, m2, m3), (q1, q2, q3)) ∧ w.grownBy w' (some g) ∧ Dice w' g A n c zs := by
  refine (Layer_any g n c A zs A1 A2 A3 A4 n1 c1 n2 c2 n3 c3 n4 c4 ⟨nm.toArray⟩ h1 h1' h2 h2' h3' w h).mono ?_
  rintro e w' ⟨l, ⟨m1, m2, m3⟩, ⟨q1, q2, q3⟩, rfl, hn, hl, hs, hg, hD⟩
  exact ⟨l, m1, m2, m3, q1, q2, q3, rfl, by simpa using hn, hl, hs, hg, hD⟩
end Go.Proofs.YthaacmmkignocaaDoor
namespace Go.Proofs.YthaacmmkignocaaDoor
open Go.RowKit
set_option linter.unusedVariables false
set_option linter.unusedSimpArgs false
set_option maxRecDepth 100000
theorem run_app0 {P : Program} {w : World} {base : Nat} (t ty e : TypeId) (i : TypeInfo) (ht : P.underlying t = some (.slice e)) (hi : P.info? e = some i) {size : Nat} (v : Value) (n : Nat) (xs : List Value) (hown : w.ownsRow base e size v n xs) (A : Option Addr) (c : Nat) :
    (Builtin.append_ #[t, t] ty #[v, .slice A 0 c]).run P w = .ok v w := by
  rcases hown.2 with ⟨rfl, rfl⟩ | ⟨g, cap, cur, rfl, _, _, hnc, _⟩
  · cases A <;> simp [Builtin.append_, run_underlying ht, sizeOf, typeInfo, hi, Builtin.lenOf, Builtin.firstCells, loadCells, loadCellsFrom]
  · cases A <;> simp [Builtin.append_, run_underlying ht, sizeOf, typeInfo, hi, Builtin.lenOf, Builtin.firstCells, hnc, storeCells, loadCells, loadCellsFrom]
section
variable {α : Type} {k : Nat} {e : α → Nat → Value}
theorem run_app {S T : TypeId} (K : KindOk S T k e) (ty : TypeId) (w : World) (B : Nat) (v : Value) (ys : List α) (hown : OwnL T k e w B v ys) (A : Option Addr) (n c : Nat) (news : List α) (hl : ListAt k e w A news) (hn : news.length = n) (hlen : ys.length + n ≤ 1000000) (hB : B ≤ w.heap.size) :
    ∃ (A' : Option Addr) (c' : Nat) (w' : World), (Builtin.append_ #[S, S] ty #[v, .slice A n c]).run Tryd.prog w = .ok (.slice A' (ys.length + n) c') w' ∧ OwnL T k e w' B (.slice A' (ys.length + n) c') (ys ++ news) ∧ Below B w w' ∧ w.grownBy w' v.ownBlock ∧ (∀ g, (Value.slice A' (ys.length + n) c').ownBlock = some g → v.ownBlock = some g ∨ w.heap.size ≤ g) := by
  obtain ⟨i0, z, bytes, hi, hz0, hz1, hz2, hzz, hk2⟩ := K.info
  rcases Nat.eq_zero_or_pos n with h0 | hpos
  · subst h0
    obtain rfl : news = [] := List.length_eq_zero_iff.1 hn
    have hr := run_app0 (P := Tryd.prog) S ty T i0 K.under hi v ys.length (encK k e ys) hown A c
    obtain ⟨A', c', rfl, -⟩ := hown.shape
    exact ⟨A', c', w, hr, by simpa using hown, Below.refl _ _, grown_refl _ _, fun g hg => .inl hg⟩
  · obtain ⟨b, off, ea, hlt, hc⟩ := hl (by omega)
    subst ea
    obtain ⟨g, cap, w', h1, h2, h3, h4, h5⟩ := run_append_lies (P := Tryd.prog) w S ty B T i0 z k bytes K.under hi hz0 hz1 hz2 hzz K.pos v ys.length (encK k e ys) hown ⟨b, off, none⟩ n c (encK k e news) (by rw [encK_len, hn]) (fun j u hu => by
      obtain ⟨i, j', y, h1, h2, rfl, rfl⟩ := encK_inv hu
      rw [add_none, ← Nat.add_assoc]
      exact hc i y h1 j' h2) (fun u hu => by
      simp only [encK, List.mem_flatMap, List.mem_map] at hu
      obtain ⟨y, _, j, _, rfl⟩ := hu
      exact K.one y j) hpos (by simp only [maxLen]; omega) (by have := Nat.mul_le_mul hlen hk2; omega) hB _ rfl
    refine ⟨some ⟨g, 0, none⟩, cap, w', h1, ?_, (Below.refl B w).grown h3 hB (fun q hq => (World.ownsRow.lt hown q hq).1), h3, fun q hq => ?_⟩
    · unfold OwnL
      rw [encK_app, List.length_append, hn]
      exact h2
    · have e2 : some g = some q := hq
      cases e2
      rcases h4 with h4 | h4
      · exact .inl h4
      · exact .inr (by omega)
end
theorem meas_up {n k : Nat} (h : k < n) : n - (intOf (Value.int .i64 ((k : Int) + 1))).toNat < n - (intOf (Value.int .i64 (k : Int))).toNat := by simp [intOf]; omega
/-- The walk stops here. -/
def Stop (p : Prop) : Prop := p
theorem Stop.go {p : Prop} (h : Stop p) : p := h
theorem Stop.at {p : Prop} (h : p) : Stop p := h
/-- append, also behind a guard, where it is known how it runs. -/
theorem wp_app_run {P : Program} {ops : Array Oper} {rest : List Oper} {o : Oper} {a : Act} {Q : Exit → Act → World → Prop} {w w' : World} {S : TypeId} {v r u : Value} (s x : Operand) (hw : Region.wanted o (yielded ops a.tmps) = true)
    (ho : o.op = .call { callee := .builtin .append, args := #[s, x], argTypes := #[S, S] }) (hs : a.eval s = v) (hx : a.eval x = r) (hr : (Builtin.append_ #[S, S] o.type #[v, r]).run P w = .ok u w') (h : wpList P ops Q rest (a.put o.dst u) w') : wpList P ops Q (o :: rest) a w := by
  rw [wpList, if_pos hw]
  left
  unfold Oper.wp execOp
  simp only [ho, resolve, invoke, builtin, Sem.run_bind, Sem.run_pure, Result.andThen_ok, List.map_toArray, List.map_cons, List.map_nil, hs, hx, hr]
  exact h
set_option maxHeartbeats 4000000 in
/-- Equal lists are the same. -/
theorem same10_any {L : List Int} (A B : Option Addr) (n c d : Nat) (w : World) (hA : IntsAt w A L) (hB : IntsAt w B L) (hn : L.length = n) (hm : n ≤ 1000000) :
    Calls Tryd.prog 29 #[.slice A n c, .slice B n d] w fun e w' => e = .returned (.bool true) ∧ Below w.heap.size w w' := by
  have HA := Lib.hid hA; have HB := Lib.hid hB; have HN := Lib.hid hn
  clear hA hB hn
  go_enter Tryd.func29, Tryd.ntmps29
  go_wp2_with fail
  go_loopw [13] (fun y wr => ∃ k : Nat, k ≤ n ∧ y = .int .i64 k ∧ Hid (Below w.heap.size w wr)) (fun y _ => n - (intOf y).toNat)
  case atStart => exact ⟨0, Nat.zero_le _, rfl, Lib.hid (Below.refl _ _)⟩
  case round =>
    obtain ⟨k, hk, rfl, hW⟩ := hrel
    by_cases hlt : k < n
    · obtain ⟨x, hx⟩ := get_ex (xs := L) (i := k) (by have := HN.out; omega)
      obtain ⟨b, off, rfl, -, hc⟩ := (HA.out.below hW.out) (by have := HN.out; omega)
      obtain ⟨b', off', rfl, -, hc'⟩ := (HB.out.below hW.out) (by have := HN.out; omega)
      have c0 : wr.cell? ⟨b, off + k, none⟩ = some (.int .i64 x) := by have := hc k x hx 0 (by decide); simpa [eInt] using this
      have c1 : wr.cell? ⟨b', off' + k, none⟩ = some (.int .i64 x) := by have := hc' k x hx 0 (by decide); simpa [eInt] using this
      have hlt2 : (k : Int) < n := by omega
      have hk0 : (0 : Int) ≤ k := by omega
      clear hc hc' hx
      go_wp2_with fail
      go_quiet (fail)
      go_wp2_with fail
      go_roundw
      case rel => exact ⟨k + 1, by omega, by go_num, Lib.hid (below_drewN hW.out _)⟩
      case measure => simp [intOf]; omega
    · go_wp2_with fail
      go_ret
      exact ⟨rfl, hW.out⟩
end Go.Proofs.YthaacmmkignocaaDoor
namespace Go.Proofs.YthaacmmkignocaaDoor
open Go.RowKit
set_option linter.unusedVariables false
set_option linter.unusedSimpArgs false
set_option maxRecDepth 100000
/-- What odd hands back. -/
def OddV (nm : ByteArray) (lz : Int) (q1 : Option Addr) (q2 q3 : Nat) (lc lm : Int) (w : World) (g : Nat) (A : Option Addr) (n c : Nat) (zs : List Int) (e : Ending) (w' : World) : Prop :=
  ∃ (D S u ee : Int) (m1 : Option Addr) (m2 m3 : Nat), e = .returned (.agg #[.string nm, .int .i64 lz, .int .i64 D, .int .i64 S, .int .i64 u, .int .i64 ee, .slice m1 m2 m3, .slice q1 q2 q3, .int .i64 lc, .int .i64 lm]) ∧ I64 D ∧ I64 S ∧ I64 u ∧ I64 ee ∧ m2 ≤ 1000 ∧ w.grownBy w' (some g) ∧ Dice w' g A n c zs
set_option maxHeartbeats 8000000 in
theorem odd_any (g n c : Nat) (A : Option Addr) (zs : List Int) (nm : ByteArray) (lz D S u ee : Int) (m1 : Option Addr) (m2 m3 : Nat) (q1 : Option Addr) (q2 q3 : Nat) (lc lm : Int) (hD : I64 D) (hS : I64 S) (hu : I64 u) (he : I64 ee) (hm : m2 ≤ 1000) (w : World) (h : Dice w g A n c zs) :
    Calls Tryd.prog 18 #[.pointer (some ⟨g, 0, none⟩), .agg #[.string nm, .int .i64 lz, .int .i64 D, .int .i64 S, .int .i64 u, .int .i64 ee, .slice m1 m2 m3, .slice q1 q2 q3, .int .i64 lc, .int .i64 lm]] w (OddV nm lz q1 q2 q3 lc lm w g A n c zs) := by
  have hgw := h.lt_
  have LB := Lib.hid (show BlkAt ((w.alloc (.cells #[.string nm, .int .i64 lz, .int .i64 D, .int .i64 S, .int .i64 u, .int .i64 ee, .slice m1 m2 m3, .slice q1 q2 q3, .int .i64 lc, .int .i64 lm] 38)).alloc (.cells #[.string ⟨#[]⟩, .int .i64 0, .int .i64 0, .int .i64 0, .int .i64 0, .int .i64 0, .slice none 0 0, .slice none 0 0, .int .i64 0, .int .i64 0] 38)) w.heap.size #[.string nm, .int .i64 lz, .int .i64 D, .int .i64 S, .int .i64 u, .int .i64 ee, .slice m1 m2 m3, .slice q1 q2 q3, .int .i64 lc, .int .i64 lm] 38 from BlkAt.alloc (BlkAt.new w _ _) _)
  have RB := Lib.hid (show BlkAt ((w.alloc (.cells #[.string nm, .int .i64 lz, .int .i64 D, .int .i64 S, .int .i64 u, .int .i64 ee, .slice m1 m2 m3, .slice q1 q2 q3, .int .i64 lc, .int .i64 lm] 38)).alloc (.cells #[.string ⟨#[]⟩, .int .i64 0, .int .i64 0, .int .i64 0, .int .i64 0, .int .i64 0, .slice none 0 0, .slice none 0 0, .int .i64 0, .int .i64 0] 38)) (w.heap.size + 1) #[.string ⟨#[]⟩, .int .i64 0, .int .i64 0, .int .i64 0, .int .i64 0, .int .i64 0, .slice none 0 0, .slice none 0 0, .int .i64 0, .int .i64 0] 38 from blk_new (by simp))
  have HD := Lib.hid ((h.alloc (.cells #[.string nm, .int .i64 lz, .int .i64 D, .int .i64 S, .int .i64 u, .int .i64 ee, .slice m1 m2 m3, .slice q1 q2 q3, .int .i64 lc, .int .i64 lm] 38)).alloc (.cells #[.string ⟨#[]⟩, .int .i64 0, .int .i64 0, .int .i64 0, .int .i64 0, .int .i64 0, .slice none 0 0, .slice none 0 0, .int .i64 0, .int .i64 0] 38))
  have HG := Lib.hid (grown_alloc (grown_alloc (grown_refl w (some g)) (.cells #[.string nm, .int .i64 lz, .int .i64 D, .int .i64 S, .int .i64 u, .int .i64 ee, .slice m1 m2 m3, .slice q1 q2 q3, .int .i64 lc, .int .i64 lm] 38)) (.cells #[.string ⟨#[]⟩, .int .i64 0, .int .i64 0, .int .i64 0, .int .i64 0, .int .i64 0, .slice none 0 0, .slice none 0 0, .int .i64 0, .int .i64 0] 38))
  have HI := Lib.hid (And.intro hD (And.intro hS (And.intro hu (And.intro he hm))))
  clear h hD hS hu he hm
  go_enter Tryd.func18, Tryd.ntmps18
  go_upto_region 1 with fail
  generalize (w.alloc (.cells #[.string nm, .int .i64 lz, .int .i64 D, .int .i64 S, .int .i64 u, .int .i64 ee, .slice m1 m2 m3, .slice q1 q2 q3, .int .i64 lc, .int .i64 lm] 38)).alloc (.cells #[.string ⟨#[]⟩, .int .i64 0, .int .i64 0, .int .i64 0, .int .i64 0, .int .i64 0, .slice none 0 0, .slice none 0 0, .int .i64 0, .int .i64 0] 38) = W0 at LB RB HD HG ⊢
  obtain ⟨b, hb⟩ : ∃ b, w.heap.size = b := ⟨_, rfl⟩
  rw [hb] at LB RB hgw ⊢
  go_upto_region 2 with (go_at_call 17; refine (Next_any g n c A zs 6 _ HD.out (by decide) (by decide)).mono ?_; rintro e w5 ⟨x, rfl, x0, x1, hg5, D5⟩)
  have LB5 := Lib.hid (LB.out.grown hg5 (by intro e; cases e; omega)); have RB5 := Lib.hid (RB.out.grown hg5 (by intro e; cases e; omega))
  have HD5 := Lib.hid D5; have HG5 := Lib.hid (grown_trans HG.out hg5)
  clear LB RB HD HG hg5 D5
  have hx : x = 0 ∨ x = 1 ∨ x = 2 ∨ x = 3 ∨ x = 4 ∨ x = 5 := by omega
  clear x0 x1
  rcases hx with rfl | rfl | rfl | rfl | rfl | rfl
  · have y2 := LB5.out.cell (i := 2) rfl; have z2 := LB5.out.free 2
    go_upto_region 12 with (go_at_call 36; refine (Pick_any g n c A zs [0, 1, 100000, 100001, 99000] w5.heap.size 5 5 3 _ (HD5.out.alloc _) (blk_new rfl) rfl (by decide) (by decide) (by have := HD5.out.lt_; omega)).mono ?_; rintro e w6 ⟨p, rfl, hp, hg6, D6⟩; have LB6 := Lib.hid ((LB5.out.alloc _).grown hg6 (by intro e; cases e; omega)); have RB6 := Lib.hid ((RB5.out.alloc _).grown hg6 (by intro e; cases e; omega)); have HG6 := Lib.hid (grown_trans (grown_alloc HG5.out _) hg6); have HD6 := Lib.hid D6; have hpp : I64 p := (by simp at hp; unfold I64; omega); clear y2 z2 hg6 D6 hp; have y2 := LB6.out.cell (i := 2) rfl; have z2 := LB6.out.free 2)
    have LB7 := Lib.hid (show BlkAt (w6.setCell ⟨b, 2, none⟩ (.int .i64 p)) b #[.string nm, .int .i64 lz, .int .i64 p, .int .i64 S, .int .i64 u, .int .i64 ee, .slice m1 m2 m3, .slice q1 q2 q3, .int .i64 lc, .int .i64 lm] 38 by have := LB6.out.set_ 2 (.int .i64 p); simpa using this)
    have RB7 := Lib.hid (RB6.out.other (g := b) (i := 2) (by omega) (.int .i64 p))
    have hbb := (Below.refl b w6).setCell (p := ⟨b, 2, none⟩) (Nat.le_refl _) (.int .i64 p)
    have HG7 := Lib.hid (grown_then HG6.out hbb (by omega)); have HD7 := Lib.hid (HD6.out.below hbb (by omega))
    generalize w6.setCell ⟨b, 2, none⟩ (.int .i64 p) = W7 at LB7 RB7 HG7 HD7 ⊢
    clear hbb y2 z2 LB6 RB6 HG6 HD6
    have y0 := LB7.out.cell (i := 0) rfl; have y1 := LB7.out.cell (i := 1) rfl; have y2 := LB7.out.cell (i := 2) rfl; have y3 := LB7.out.cell (i := 3) rfl; have y4 := LB7.out.cell (i := 4) rfl; have y5 := LB7.out.cell (i := 5) rfl; have y6 := LB7.out.cell (i := 6) rfl; have y7 := LB7.out.cell (i := 7) rfl; have y8 := LB7.out.cell (i := 8) rfl; have y9 := LB7.out.cell (i := 9) rfl
    have r0 := RB7.out.cell (i := 0) rfl; have r1 := RB7.out.cell (i := 1) rfl; have r2 := RB7.out.cell (i := 2) rfl; have r3 := RB7.out.cell (i := 3) rfl; have r4 := RB7.out.cell (i := 4) rfl; have r5 := RB7.out.cell (i := 5) rfl; have r6 := RB7.out.cell (i := 6) rfl; have r7 := RB7.out.cell (i := 7) rfl; have r8 := RB7.out.cell (i := 8) rfl; have r9 := RB7.out.cell (i := 9) rfl; have s0 := RB7.out.free 0; have s1 := RB7.out.free 1; have s2 := RB7.out.free 2; have s3 := RB7.out.free 3; have s4 := RB7.out.free 4; have s5 := RB7.out.free 5; have s6 := RB7.out.free 6; have s7 := RB7.out.free 7; have s8 := RB7.out.free 8; have s9 := RB7.out.free 9
    go_wp2_with fail
    refine bodyPost_ret (v := .agg #[.string nm, .int .i64 lz, .int .i64 p, .int .i64 S, .int .i64 u, .int .i64 ee, .slice m1 m2 m3, .slice q1 q2 q3, .int .i64 lc, .int .i64 lm]) (by simp [results, Tryd.results18, go_sem, r0, s0, r1, s1, r2, s2, r3, s3, r4, s4, r5, s5, r6, s6, r7, s7, r8, s8, r9, s9])  rfl ?_
    have hb1 : ∀ (V : World) (i : Nat) (v : Value), Below b V (V.setCell ⟨b + 1, i, none⟩ v) := fun V i v => (Below.refl b V).setCell (p := ⟨b + 1, i, none⟩) (Nat.le_succ _) v
    refine ⟨p, S, u, ee, m1, m2, m3, rfl, hpp, HI.out.2.1, HI.out.2.2.1, HI.out.2.2.2.1, HI.out.2.2.2.2, grown_then (B := b) HG7.out ?_ (by omega), HD7.out.below (B := b) ?_ (by omega)⟩
    all_goals exact (((((((((hb1 _ _ _).trans (hb1 _ _ _)).trans (hb1 _ _ _)).trans (hb1 _ _ _)).trans (hb1 _ _ _)).trans (hb1 _ _ _)).trans (hb1 _ _ _)).trans (hb1 _ _ _)).trans (hb1 _ _ _)).trans (hb1 _ _ _)
  · have y3 := LB5.out.cell (i := 3) rfl; have z3 := LB5.out.free 3
    go_upto_region 12 with (go_at_call 36; refine (Pick_any g n c A zs [-1, 0, 86399, 86400] w5.heap.size 4 4 3 _ (HD5.out.alloc _) (blk_new rfl) rfl (by decide) (by decide) (by have := HD5.out.lt_; omega)).mono ?_; rintro e w6 ⟨p, rfl, hp, hg6, D6⟩; have LB6 := Lib.hid ((LB5.out.alloc _).grown hg6 (by intro e; cases e; omega)); have RB6 := Lib.hid ((RB5.out.alloc _).grown hg6 (by intro e; cases e; omega)); have HG6 := Lib.hid (grown_trans (grown_alloc HG5.out _) hg6); have HD6 := Lib.hid D6; have hpp : I64 p := (by simp at hp; unfold I64; omega); clear y3 z3 hg6 D6 hp; have y3 := LB6.out.cell (i := 3) rfl; have z3 := LB6.out.free 3)
    have LB7 := Lib.hid (show BlkAt (w6.setCell ⟨b, 3, none⟩ (.int .i64 p)) b #[.string nm, .int .i64 lz, .int .i64 D, .int .i64 p, .int .i64 u, .int .i64 ee, .slice m1 m2 m3, .slice q1 q2 q3, .int .i64 lc, .int .i64 lm] 38 by have := LB6.out.set_ 3 (.int .i64 p); simpa using this)
    have RB7 := Lib.hid (RB6.out.other (g := b) (i := 3) (by omega) (.int .i64 p))
    have hbb := (Below.refl b w6).setCell (p := ⟨b, 3, none⟩) (Nat.le_refl _) (.int .i64 p)
    have HG7 := Lib.hid (grown_then HG6.out hbb (by omega)); have HD7 := Lib.hid (HD6.out.below hbb (by omega))
    generalize w6.setCell ⟨b, 3, none⟩ (.int .i64 p) = W7 at LB7 RB7 HG7 HD7 ⊢
    clear hbb y3 z3 LB6 RB6 HG6 HD6
    have y0 := LB7.out.cell (i := 0) rfl; have y1 := LB7.out.cell (i := 1) rfl; have y2 := LB7.out.cell (i := 2) rfl; have y3 := LB7.out.cell (i := 3) rfl; have y4 := LB7.out.cell (i := 4) rfl; have y5 := LB7.out.cell (i := 5) rfl; have y6 := LB7.out.cell (i := 6) rfl; have y7 := LB7.out.cell (i := 7) rfl; have y8 := LB7.out.cell (i := 8) rfl; have y9 := LB7.out.cell (i := 9) rfl
    have r0 := RB7.out.cell (i := 0) rfl; have r1 := RB7.out.cell (i := 1) rfl; have r2 := RB7.out.cell (i := 2) rfl; have r3 := RB7.out.cell (i := 3) rfl; have r4 := RB7.out.cell (i := 4) rfl; have r5 := RB7.out.cell (i := 5) rfl; have r6 := RB7.out.cell (i := 6) rfl; have r7 := RB7.out.cell (i := 7) rfl; have r8 := RB7.out.cell (i := 8) rfl; have r9 := RB7.out.cell (i := 9) rfl; have s0 := RB7.out.free 0; have s1 := RB7.out.free 1; have s2 := RB7.out.free 2; have s3 := RB7.out.free 3; have s4 := RB7.out.free 4; have s5 := RB7.out.free 5; have s6 := RB7.out.free 6; have s7 := RB7.out.free 7; have s8 := RB7.out.free 8; have s9 := RB7.out.free 9
    go_wp2_with fail
    refine bodyPost_ret (v := .agg #[.string nm, .int .i64 lz, .int .i64 D, .int .i64 p, .int .i64 u, .int .i64 ee, .slice m1 m2 m3, .slice q1 q2 q3, .int .i64 lc, .int .i64 lm]) (by simp [results, Tryd.results18, go_sem, r0, s0, r1, s1, r2, s2, r3, s3, r4, s4, r5, s5, r6, s6, r7, s7, r8, s8, r9, s9])  rfl ?_
    have hb1 : ∀ (V : World) (i : Nat) (v : Value), Below b V (V.setCell ⟨b + 1, i, none⟩ v) := fun V i v => (Below.refl b V).setCell (p := ⟨b + 1, i, none⟩) (Nat.le_succ _) v
    refine ⟨D, p, u, ee, m1, m2, m3, rfl, HI.out.1, hpp, HI.out.2.2.1, HI.out.2.2.2.1, HI.out.2.2.2.2, grown_then (B := b) HG7.out ?_ (by omega), HD7.out.below (B := b) ?_ (by omega)⟩
    all_goals exact (((((((((hb1 _ _ _).trans (hb1 _ _ _)).trans (hb1 _ _ _)).trans (hb1 _ _ _)).trans (hb1 _ _ _)).trans (hb1 _ _ _)).trans (hb1 _ _ _)).trans (hb1 _ _ _)).trans (hb1 _ _ _)).trans (hb1 _ _ _)
  · have y4 := LB5.out.cell (i := 4) rfl; have z4 := LB5.out.free 4
    go_upto_region 12 with (go_at_call 36; refine (Pick_any g n c A zs [-1, 0, 1, 2, 3] w5.heap.size 5 5 3 _ (HD5.out.alloc _) (blk_new rfl) rfl (by decide) (by decide) (by have := HD5.out.lt_; omega)).mono ?_; rintro e w6 ⟨p, rfl, hp, hg6, D6⟩; have LB6 := Lib.hid ((LB5.out.alloc _).grown hg6 (by intro e; cases e; omega)); have RB6 := Lib.hid ((RB5.out.alloc _).grown hg6 (by intro e; cases e; omega)); have HG6 := Lib.hid (grown_trans (grown_alloc HG5.out _) hg6); have HD6 := Lib.hid D6; have hpp : I64 p := (by simp at hp; unfold I64; omega); clear y4 z4 hg6 D6 hp; have y4 := LB6.out.cell (i := 4) rfl; have z4 := LB6.out.free 4)
    have LB7 := Lib.hid (show BlkAt (w6.setCell ⟨b, 4, none⟩ (.int .i64 p)) b #[.string nm, .int .i64 lz, .int .i64 D, .int .i64 S, .int .i64 p, .int .i64 ee, .slice m1 m2 m3, .slice q1 q2 q3, .int .i64 lc, .int .i64 lm] 38 by have := LB6.out.set_ 4 (.int .i64 p); simpa using this)
    have RB7 := Lib.hid (RB6.out.other (g := b) (i := 4) (by omega) (.int .i64 p))
    have hbb := (Below.refl b w6).setCell (p := ⟨b, 4, none⟩) (Nat.le_refl _) (.int .i64 p)
    have HG7 := Lib.hid (grown_then HG6.out hbb (by omega)); have HD7 := Lib.hid (HD6.out.below hbb (by omega))
    generalize w6.setCell ⟨b, 4, none⟩ (.int .i64 p) = W7 at LB7 RB7 HG7 HD7 ⊢
    clear hbb y4 z4 LB6 RB6 HG6 HD6
    have y0 := LB7.out.cell (i := 0) rfl; have y1 := LB7.out.cell (i := 1) rfl; have y2 := LB7.out.cell (i := 2) rfl; have y3 := LB7.out.cell (i := 3) rfl; have y4 := LB7.out.cell (i := 4) rfl; have y5 := LB7.out.cell (i := 5) rfl; have y6 := LB7.out.cell (i := 6) rfl; have y7 := LB7.out.cell (i := 7) rfl; have y8 := LB7.out.cell (i := 8) rfl; have y9 := LB7.out.cell (i := 9) rfl
    have r0 := RB7.out.cell (i := 0) rfl; have r1 := RB7.out.cell (i := 1) rfl; have r2 := RB7.out.cell (i := 2) rfl; have r3 := RB7.out.cell (i := 3) rfl; have r4 := RB7.out.cell (i := 4) rfl; have r5 := RB7.out.cell (i := 5) rfl; have r6 := RB7.out.cell (i := 6) rfl; have r7 := RB7.out.cell (i := 7) rfl; have r8 := RB7.out.cell (i := 8) rfl; have r9 := RB7.out.cell (i := 9) rfl; have s0 := RB7.out.free 0; have s1 := RB7.out.free 1; have s2 := RB7.out.free 2; have s3 := RB7.out.free 3; have s4 := RB7.out.free 4; have s5 := RB7.out.free 5; have s6 := RB7.out.free 6; have s7 := RB7.out.free 7; have s8 := RB7.out.free 8; have s9 := RB7.out.free 9
    go_wp2_with fail
    refine bodyPost_ret (v := .agg #[.string nm, .int .i64 lz, .int .i64 D, .int .i64 S, .int .i64 p, .int .i64 ee, .slice m1 m2 m3, .slice q1 q2 q3, .int .i64 lc, .int .i64 lm]) (by simp [results, Tryd.results18, go_sem, r0, s0, r1, s1, r2, s2, r3, s3, r4, s4, r5, s5, r6, s6, r7, s7, r8, s8, r9, s9])  rfl ?_
    have hb1 : ∀ (V : World) (i : Nat) (v : Value), Below b V (V.setCell ⟨b + 1, i, none⟩ v) := fun V i v => (Below.refl b V).setCell (p := ⟨b + 1, i, none⟩) (Nat.le_succ _) v
    refine ⟨D, S, p, ee, m1, m2, m3, rfl, HI.out.1, HI.out.2.1, hpp, HI.out.2.2.2.1, HI.out.2.2.2.2, grown_then (B := b) HG7.out ?_ (by omega), HD7.out.below (B := b) ?_ (by omega)⟩
    all_goals exact (((((((((hb1 _ _ _).trans (hb1 _ _ _)).trans (hb1 _ _ _)).trans (hb1 _ _ _)).trans (hb1 _ _ _)).trans (hb1 _ _ _)).trans (hb1 _ _ _)).trans (hb1 _ _ _)).trans (hb1 _ _ _)).trans (hb1 _ _ _)
  · have y5 := LB5.out.cell (i := 5) rfl; have z5 := LB5.out.free 5
    go_upto_region 12 with (go_at_call 36; refine (Pick_any g n c A zs [0, 1, 400, 401] w5.heap.size 4 4 3 _ (HD5.out.alloc _) (blk_new rfl) rfl (by decide) (by decide) (by have := HD5.out.lt_; omega)).mono ?_; rintro e w6 ⟨p, rfl, hp, hg6, D6⟩; have LB6 := Lib.hid ((LB5.out.alloc _).grown hg6 (by intro e; cases e; omega)); have RB6 := Lib.hid ((RB5.out.alloc _).grown hg6 (by intro e; cases e; omega)); have HG6 := Lib.hid (grown_trans (grown_alloc HG5.out _) hg6); have HD6 := Lib.hid D6; have hpp : I64 p := (by simp at hp; unfold I64; omega); clear y5 z5 hg6 D6 hp; have y5 := LB6.out.cell (i := 5) rfl; have z5 := LB6.out.free 5)
    have LB7 := Lib.hid (show BlkAt (w6.setCell ⟨b, 5, none⟩ (.int .i64 p)) b #[.string nm, .int .i64 lz, .int .i64 D, .int .i64 S, .int .i64 u, .int .i64 p, .slice m1 m2 m3, .slice q1 q2 q3, .int .i64 lc, .int .i64 lm] 38 by have := LB6.out.set_ 5 (.int .i64 p); simpa using this)
    have RB7 := Lib.hid (RB6.out.other (g := b) (i := 5) (by omega) (.int .i64 p))
    have hbb := (Below.refl b w6).setCell (p := ⟨b, 5, none⟩) (Nat.le_refl _) (.int .i64 p)
    have HG7 := Lib.hid (grown_then HG6.out hbb (by omega)); have HD7 := Lib.hid (HD6.out.below hbb (by omega))
    generalize w6.setCell ⟨b, 5, none⟩ (.int .i64 p) = W7 at LB7 RB7 HG7 HD7 ⊢
    clear hbb y5 z5 LB6 RB6 HG6 HD6
    have y0 := LB7.out.cell (i := 0) rfl; have y1 := LB7.out.cell (i := 1) rfl; have y2 := LB7.out.cell (i := 2) rfl; have y3 := LB7.out.cell (i := 3) rfl; have y4 := LB7.out.cell (i := 4) rfl; have y5 := LB7.out.cell (i := 5) rfl; have y6 := LB7.out.cell (i := 6) rfl; have y7 := LB7.out.cell (i := 7) rfl; have y8 := LB7.out.cell (i := 8) rfl; have y9 := LB7.out.cell (i := 9) rfl
    have r0 := RB7.out.cell (i := 0) rfl; have r1 := RB7.out.cell (i := 1) rfl; have r2 := RB7.out.cell (i := 2) rfl; have r3 := RB7.out.cell (i := 3) rfl; have r4 := RB7.out.cell (i := 4) rfl; have r5 := RB7.out.cell (i := 5) rfl; have r6 := RB7.out.cell (i := 6) rfl; have r7 := RB7.out.cell (i := 7) rfl; have r8 := RB7.out.cell (i := 8) rfl; have r9 := RB7.out.cell (i := 9) rfl; have s0 := RB7.out.free 0; have s1 := RB7.out.free 1; have s2 := RB7.out.free 2; have s3 := RB7.out.free 3; have s4 := RB7.out.free 4; have s5 := RB7.out.free 5; have s6 := RB7.out.free 6; have s7 := RB7.out.free 7; have s8 := RB7.out.free 8; have s9 := RB7.out.free 9
    go_wp2_with fail
    refine bodyPost_ret (v := .agg #[.string nm, .int .i64 lz, .int .i64 D, .int .i64 S, .int .i64 u, .int .i64 p, .slice m1 m2 m3, .slice q1 q2 q3, .int .i64 lc, .int .i64 lm]) (by simp [results, Tryd.results18, go_sem, r0, s0, r1, s1, r2, s2, r3, s3, r4, s4, r5, s5, r6, s6, r7, s7, r8, s8, r9, s9])  rfl ?_
    have hb1 : ∀ (V : World) (i : Nat) (v : Value), Below b V (V.setCell ⟨b + 1, i, none⟩ v) := fun V i v => (Below.refl b V).setCell (p := ⟨b + 1, i, none⟩) (Nat.le_succ _) v
    refine ⟨D, S, u, p, m1, m2, m3, rfl, HI.out.1, HI.out.2.1, HI.out.2.2.1, hpp, HI.out.2.2.2.2, grown_then (B := b) HG7.out ?_ (by omega), HD7.out.below (B := b) ?_ (by omega)⟩
    all_goals exact (((((((((hb1 _ _ _).trans (hb1 _ _ _)).trans (hb1 _ _ _)).trans (hb1 _ _ _)).trans (hb1 _ _ _)).trans (hb1 _ _ _)).trans (hb1 _ _ _)).trans (hb1 _ _ _)).trans (hb1 _ _ _)).trans (hb1 _ _ _)
  · have y6 := LB5.out.cell (i := 6) rfl; have z6 := LB5.out.free 6
    go_upto_region 12 with fail
    have LB7 := Lib.hid (show BlkAt (w5.setCell ⟨b, 6, none⟩ (.slice none 0 0)) b #[.string nm, .int .i64 lz, .int .i64 D, .int .i64 S, .int .i64 u, .int .i64 ee, .slice none 0 0, .slice q1 q2 q3, .int .i64 lc, .int .i64 lm] 38 by have := LB5.out.set_ 6 (.slice none 0 0); simpa using this)
    have RB7 := Lib.hid (RB5.out.other (g := b) (i := 6) (by omega) (.slice none 0 0))
    have hbb := (Below.refl b w5).setCell (p := ⟨b, 6, none⟩) (Nat.le_refl _) (.slice none 0 0)
    have HG7 := Lib.hid (grown_then HG5.out hbb (by omega)); have HD7 := Lib.hid (HD5.out.below hbb (by omega))
    generalize w5.setCell ⟨b, 6, none⟩ (.slice none 0 0) = W7 at LB7 RB7 HG7 HD7 ⊢
    clear hbb y6 z6 LB5 RB5 HG5 HD5
    have y0 := LB7.out.cell (i := 0) rfl; have y1 := LB7.out.cell (i := 1) rfl; have y2 := LB7.out.cell (i := 2) rfl; have y3 := LB7.out.cell (i := 3) rfl; have y4 := LB7.out.cell (i := 4) rfl; have y5 := LB7.out.cell (i := 5) rfl; have y6 := LB7.out.cell (i := 6) rfl; have y7 := LB7.out.cell (i := 7) rfl; have y8 := LB7.out.cell (i := 8) rfl; have y9 := LB7.out.cell (i := 9) rfl
    have r0 := RB7.out.cell (i := 0) rfl; have r1 := RB7.out.cell (i := 1) rfl; have r2 := RB7.out.cell (i := 2) rfl; have r3 := RB7.out.cell (i := 3) rfl; have r4 := RB7.out.cell (i := 4) rfl; have r5 := RB7.out.cell (i := 5) rfl; have r6 := RB7.out.cell (i := 6) rfl; have r7 := RB7.out.cell (i := 7) rfl; have r8 := RB7.out.cell (i := 8) rfl; have r9 := RB7.out.cell (i := 9) rfl; have s0 := RB7.out.free 0; have s1 := RB7.out.free 1; have s2 := RB7.out.free 2; have s3 := RB7.out.free 3; have s4 := RB7.out.free 4; have s5 := RB7.out.free 5; have s6 := RB7.out.free 6; have s7 := RB7.out.free 7; have s8 := RB7.out.free 8; have s9 := RB7.out.free 9
    go_wp2_with fail
    refine bodyPost_ret (v := .agg #[.string nm, .int .i64 lz, .int .i64 D, .int .i64 S, .int .i64 u, .int .i64 ee, .slice none 0 0, .slice q1 q2 q3, .int .i64 lc, .int .i64 lm]) (by simp [results, Tryd.results18, go_sem, r0, s0, r1, s1, r2, s2, r3, s3, r4, s4, r5, s5, r6, s6, r7, s7, r8, s8, r9, s9])  rfl ?_
    have hb1 : ∀ (V : World) (i : Nat) (v : Value), Below b V (V.setCell ⟨b + 1, i, none⟩ v) := fun V i v => (Below.refl b V).setCell (p := ⟨b + 1, i, none⟩) (Nat.le_succ _) v
    refine ⟨D, S, u, ee, none, 0, 0, rfl, HI.out.1, HI.out.2.1, HI.out.2.2.1, HI.out.2.2.2.1, by omega, grown_then (B := b) HG7.out ?_ (by omega), HD7.out.below (B := b) ?_ (by omega)⟩
    all_goals exact (((((((((hb1 _ _ _).trans (hb1 _ _ _)).trans (hb1 _ _ _)).trans (hb1 _ _ _)).trans (hb1 _ _ _)).trans (hb1 _ _ _)).trans (hb1 _ _ _)).trans (hb1 _ _ _)).trans (hb1 _ _ _)).trans (hb1 _ _ _)
  · go_upto_region 12 with fail
    have y0 := LB5.out.cell (i := 0) rfl; have y1 := LB5.out.cell (i := 1) rfl; have y2 := LB5.out.cell (i := 2) rfl; have y3 := LB5.out.cell (i := 3) rfl; have y4 := LB5.out.cell (i := 4) rfl; have y5 := LB5.out.cell (i := 5) rfl; have y6 := LB5.out.cell (i := 6) rfl; have y7 := LB5.out.cell (i := 7) rfl; have y8 := LB5.out.cell (i := 8) rfl; have y9 := LB5.out.cell (i := 9) rfl
    have r0 := RB5.out.cell (i := 0) rfl; have r1 := RB5.out.cell (i := 1) rfl; have r2 := RB5.out.cell (i := 2) rfl; have r3 := RB5.out.cell (i := 3) rfl; have r4 := RB5.out.cell (i := 4) rfl; have r5 := RB5.out.cell (i := 5) rfl; have r6 := RB5.out.cell (i := 6) rfl; have r7 := RB5.out.cell (i := 7) rfl; have r8 := RB5.out.cell (i := 8) rfl; have r9 := RB5.out.cell (i := 9) rfl; have s0 := RB5.out.free 0; have s1 := RB5.out.free 1; have s2 := RB5.out.free 2; have s3 := RB5.out.free 3; have s4 := RB5.out.free 4; have s5 := RB5.out.free 5; have s6 := RB5.out.free 6; have s7 := RB5.out.free 7; have s8 := RB5.out.free 8; have s9 := RB5.out.free 9
    go_wp2_with fail
    refine bodyPost_ret (v := .agg #[.string nm, .int .i64 lz, .int .i64 D, .int .i64 S, .int .i64 u, .int .i64 ee, .slice m1 m2 m3, .slice q1 q2 q3, .int .i64 lc, .int .i64 lm]) (by simp [results, Tryd.results18, go_sem, r0, s0, r1, s1, r2, s2, r3, s3, r4, s4, r5, s5, r6, s6, r7, s7, r8, s8, r9, s9])  rfl ?_
    have hb1 : ∀ (V : World) (i : Nat) (v : Value), Below b V (V.setCell ⟨b + 1, i, none⟩ v) := fun V i v => (Below.refl b V).setCell (p := ⟨b + 1, i, none⟩) (Nat.le_succ _) v
    refine ⟨D, S, u, ee, m1, m2, m3, rfl, HI.out.1, HI.out.2.1, HI.out.2.2.1, HI.out.2.2.2.1, HI.out.2.2.2.2, grown_then (B := b) HG5.out ?_ (by omega), HD5.out.below (B := b) ?_ (by omega)⟩
    all_goals exact (((((((((hb1 _ _ _).trans (hb1 _ _ _)).trans (hb1 _ _ _)).trans (hb1 _ _ _)).trans (hb1 _ _ _)).trans (hb1 _ _ _)).trans (hb1 _ _ _)).trans (hb1 _ _ _)).trans (hb1 _ _ _)).trans (hb1 _ _ _)
end Go.Proofs.YthaacmmkignocaaDoor
namespace Go.Proofs.YthaacmmkignocaaDoor
open Go.RowKit
set_option linter.unusedVariables false
set_option linter.unusedSimpArgs false
set_option maxRecDepth 100000
abbrev SQ (g h : Nat) : Nat → Prop := fun q => g < q ∧ q < h
/-- A zone's cells in its list, and what they hold. -/
structure ZJ (g h : Nat) (x : Rs.Zone) (v : SV) (zb zo : Nat) (W : World) : Prop where
  lt : zb < W.heap.size
  gt : g < zb
  cells : ∀ j, j < 3 → W.cell? ⟨zb, zo + j, none⟩ = some (eZone (x, v) j)
  zs : ZoneS (SQ g h) W x v
  mz : Rs.MZ x
/-- The configuration, as it is drawn. -/
structure XP (w0 : World) (A : Option Addr) (n c : Nat) (zs : List Int) (cb : Nat) (cc : Array Value) (a b d : SV) (C : Rs.Cfg) (W : World) : Prop where
  base : Below w0.heap.size w0 W
  dice : Dice W w0.heap.size A n c zs
  cfg : BlkAt W cb cc 32
  staff : StaffS (SQ w0.heap.size cb) W a b d C
  hcb : w0.heap.size < cb
/-- The zone of the law. -/
structure XL (w0 : World) (A : Option Addr) (n c : Nat) (zs : List Int) (cb bz : Nat) (cz : Array Value) (x : Rs.Zone) (v : SV) (W : World) : Prop where
  base : Below w0.heap.size w0 W
  dice : Dice W w0.heap.size A n c zs
  z : BlkAt W bz cz 42
  zs : ZoneS (SQ w0.heap.size cb) W x v
  hz : w0.heap.size < bz
section
variable {g hh : Nat} {x : Rs.Zone} {v : SV} {zb zo : Nat} {W W' w0 : World} {A : Option Addr} {n c : Nat} {zs : List Int} {cb : Nat} {cc : Array Value} {a b d : SV} {C : Rs.Cfg} {bz : Nat} {cz : Array Value}
theorem ZJ.below (h : ZJ g hh x v zb zo W) (hb : Below W.heap.size W W') : ZJ g hh x v zb zo W' :=
  ⟨Nat.lt_of_lt_of_le h.lt hb.size, h.gt, fun j hj => (World.cell?_of_block (w := W) (a := ⟨zb, zo + j, none⟩) (hb.block zb h.lt)).trans (h.cells j hj), ZoneS.mv (Mv.of_below hb (fun _ h _ => h)) _ _ h.zs, h.mz⟩
theorem ZJ.call (h : ZJ g hh x v zb zo W) (hg : W.grownBy W' (some g)) : ZJ g hh x v zb zo W' :=
  ⟨Nat.lt_of_lt_of_le h.lt hg.size, h.gt, fun j hj => (World.cell?_of_block (w := W) (a := ⟨zb, zo + j, none⟩) (hg.block zb h.lt (by intro e; cases e; exact Nat.lt_irrefl _ h.gt))).trans (h.cells j hj), ZoneS.mv (Mv.of_grown hg (fun g e h => by cases e; exact Nat.lt_irrefl _ h.1) (fun _ h _ => h)) _ _ h.zs, h.mz⟩
theorem XP.below (h : XP w0 A n c zs cb cc a b d C W) (hb : Below W.heap.size W W') : XP w0 A n c zs cb cc a b d C W' :=
  ⟨bstep h.base hb, h.dice.after hb, h.cfg.after hb, h.staff.mv (Mv.of_below hb (fun _ h _ => h)), h.hcb⟩
theorem XP.call (h : XP w0 A n c zs cb cc a b d C W) (hg : W.grownBy W' (some w0.heap.size)) (hD : Dice W' w0.heap.size A n c zs) : XP w0 A n c zs cb cc a b d C W' :=
  ⟨below_of_grown h.base hg h.base.size (Nat.le_refl _), hD, h.cfg.grown hg (by intro e; cases e; exact Nat.lt_irrefl _ h.hcb), h.staff.mv (Mv.of_grown hg (fun g e h => by cases e; exact Nat.lt_irrefl _ h.1) (fun _ h _ => h)), h.hcb⟩
theorem XL.below (h : XL w0 A n c zs cb bz cz x v W) (hb : Below W.heap.size W W') : XL w0 A n c zs cb bz cz x v W' :=
  ⟨bstep h.base hb, h.dice.after hb, h.z.after hb, ZoneS.mv (Mv.of_below hb (fun _ h _ => h)) _ _ h.zs, h.hz⟩
theorem XL.call (h : XL w0 A n c zs cb bz cz x v W) (hg : W.grownBy W' (some w0.heap.size)) (hD : Dice W' w0.heap.size A n c zs) : XL w0 A n c zs cb bz cz x v W' :=
  ⟨below_of_grown h.base hg h.base.size (Nat.le_refl _), hD, h.z.grown hg (by intro e; cases e; exact Nat.lt_irrefl _ h.hz), ZoneS.mv (Mv.of_grown hg (fun g e h => by cases e; exact Nat.lt_irrefl _ h.1) (fun _ h _ => h)) _ _ h.zs, h.hz⟩
theorem XL.zin (h : XL w0 A n c zs cb bz cz x v W) (hT : CivT w0) (hm : Rs.MZ x) : ZIn W v.1 v.2.1 x.rules :=
  ⟨hT.below h.base, h.zs.1.at_, h.zs.1.len, h.zs.2.1, by have h1 := h.zs.1.len; have h2 := hm.1.len; omega⟩
theorem XP.set (h : XP w0 A n c zs cb cc a b d C W) {q : Nat} (hq : cb < q) (i : Nat) (u : Value) : XP w0 A n c zs cb cc a b d C (W.setCell ⟨q, i, none⟩ u) :=
  ⟨h.base.setCell (p := ⟨q, i, none⟩) (by have := h.hcb; simp only; omega) u, h.dice.below ((Below.refl q W).setCell (p := ⟨q, i, none⟩) (Nat.le_refl _) u) (by have := h.hcb; omega), h.cfg.other (by omega) u, h.staff.mv (Mv.set W q i u (fun h => by have := h.2; omega)), h.hcb⟩
theorem ZoneS.set {w : World} (h : ZoneS (SQ g hh) w x v) {q : Nat} (hq : hh < q) (i : Nat) (u : Value) : ZoneS (SQ g hh) (w.setCell ⟨q, i, none⟩ u) x v := ZoneS.mv (Mv.set w q i u (fun h => by have := h.2; omega)) _ _ h
theorem XP.pick (h : XP w0 A n c zs cb cc a b d C W) (hm : Rs.Made C) {i : Nat} (hi : i < a.2.1) {zb zo : Nat} (ea : a.1 = some ⟨zb, zo, none⟩) : ∃ (x : Rs.Zone) (v1 : Option Addr) (v2 v3 : Nat), ZJ w0.heap.size cb x (v1, v2, v3) zb (zo + i * 3) W := by
  obtain ⟨xs, e1, e2, e3⟩ := h.staff.zones
  have hl := e2.len
  obtain ⟨⟨x, v1, v2, v3⟩, hx⟩ := get_ex (xs := xs) (i := i) (by omega)
  obtain ⟨zb', zo', ea', hlt, hc⟩ := e2.at_ (by omega)
  rw [ea] at ea'
  cases ea'
  exact ⟨x, v1, v2, v3, hlt, (e2.rng _ ea).1.1, fun j hj => hc i _ hx j hj, e3 _ (List.mem_of_getElem? hx), hm.zs x (by rw [← e1]; exact List.mem_map.2 ⟨_, List.mem_of_getElem? hx, rfl⟩)⟩
theorem XP.first (h : XP w0 A n c zs cb cc a b d C W) (hi : 0 < a.2.1) : ∃ zb zo, a.1 = some ⟨zb, zo, none⟩ := by
  obtain ⟨xs, e1, e2, e3⟩ := h.staff.zones
  have hl := e2.len
  obtain ⟨zb', zo', ea', hlt, hc⟩ := e2.at_ (by omega)
  exact ⟨zb', zo', ea'⟩
end
end Go.Proofs.YthaacmmkignocaaDoor
