/- The law's odd: a drawn zone in which one number is another one. -/
import Derived.Test.YtegnfmpbhindaaaDoorZox
import Derived.Test.YtegnfmpbhindaaaDoorZlw
import Derived.Test.YtegnfmpbhindaaaDoorZlm
import Derived.Deep.RegionLaw
namespace Go.Proofs.YtegnfmpbhindaaaDoor
open Go.RowKit
set_option linter.unusedVariables false
set_option linter.unusedSimpArgs false

/-- append of nothing to nothing. -/
theorem wp_append_none {α : Type} {k : Nat} {e : α → Nat → Value} {T S : TypeId} (K : KindOk S T k e)
    {ops : Array Oper} {rest : List Oper} {o : Oper} {a : Act} {Q : Exit → Act → World → Prop} (w : World) (hgd : o.guard = none) (s x : Operand)
    (ho : o.op = .call { callee := .builtin .append, args := #[s, x], argTypes := #[S, S] }) (A : Option Addr) (c : Nat) (hs : a.eval s = .slice none 0 0) (hx : a.eval x = .slice A 0 c)
    (h : wpList Tryd.prog ops Q rest (a.put o.dst (.slice none 0 0)) w) : wpList Tryd.prog ops Q (o :: rest) a w := by
  obtain ⟨i0, z, bytes, hi, hz0, hz1, hz2, hzz, hk2⟩ := K.info
  refine wpList_plain hgd fun _ hK => ?_
  have hrun : (Builtin.append_ #[S, S] o.type #[.slice none 0 0, .slice A 0 c]).run Tryd.prog w = .ok (.slice none 0 0) w := by
    cases A <;> simp [Builtin.append_, run_underlying K.under, Builtin.lenOf, Builtin.firstCells, sizeOf, typeInfo, hi, loadCells, loadCellsFrom]
  unfold Oper.wp
  simp [execOp, ho, resolve, invoke, builtin, hs, hx, hrun, Result.andThen]
  exact hK _ _ h

/-- What odd hands back. -/
def Odds (s : ByteArray) (w : World) (g : Nat) (A : Option Addr) (n c : Nat) (zs : List Int) (e : Ending) (w' : World) : Prop :=
  ∃ off A' n' c' rs, e = .returned (.agg #[.string s, .int .i64 off, .slice A' n' c']) ∧ rs.length = n' ∧ n' ≤ 3 ∧ (∀ r ∈ rs, FitR r) ∧ I64 off ∧ RulesAt w' A' rs ∧ w.grownBy w' (some g) ∧ Dice w' g A n c zs
/-- Ahead of the last statement. -/
structure OE (s : ByteArray) (w : World) (g : Nat) (A : Option Addr) (n c : Nat) (zs : List Int) (off : Int) (A' : Option Addr) (n' c' : Nat) (rs : List Zn.Rule) (W : World) : Prop where
  zb : BlkAt W w.heap.size #[.string s, .int .i64 off, .slice A' n' c'] 27
  rb : BlkAt W (w.heap.size + 1) #[.string ⟨#[]⟩, .int .i64 0, .slice none 0 0] 27
  ra : RulesAt W A' rs
  far : ∀ ad, A' = some ad → ad.block ≠ w.heap.size + 1
  len : rs.length = n'
  le : n' ≤ 3
  fit : ∀ r ∈ rs, FitR r
  oi : I64 off
  dice : Dice W g A n c zs
  gw : w.grownBy W (some g)
  glt : g < w.heap.size
section
variable {s : ByteArray} {w W W' : World} {g : Nat} {A : Option Addr} {n c : Nat} {zs : List Int} {off : Int} {A' : Option Addr} {n' c' : Nat} {rs : List Zn.Rule}
theorem OE.fin (h : OE s w g A n c zs off A' n' c' rs W) (a b d : Value) :
    Odds s w g A n c zs (.returned (.agg #[.string s, .int .i64 off, .slice A' n' c'])) (((W.setCell ⟨w.heap.size + 1, 0, none⟩ a).setCell ⟨w.heap.size + 1, 1, none⟩ b).setCell ⟨w.heap.size + 1, 2, none⟩ d) := by
  have hB : Below w.heap.size W (((W.setCell ⟨w.heap.size + 1, 0, none⟩ a).setCell ⟨w.heap.size + 1, 1, none⟩ b).setCell ⟨w.heap.size + 1, 2, none⟩ d) := (((Below.refl _ _).setCell (by simp) _).setCell (by simp) _).setCell (by simp) _
  exact ⟨off, A', n', c', rs, rfl, h.len, h.le, h.fit, h.oi, ((h.ra.other h.far a).other h.far b).other h.far d, grown_then h.gw hB (Nat.le_refl _), h.dice.below hB h.glt⟩
end
/-- The zone's copy, and the row of its rules, which is the call's own. -/
structure OS (s : ByteArray) (off : Int) (w : World) (g : Nat) (A : Option Addr) (n c : Nat) (zs : List Int) (g1 m cap : Nat) (rs : List Zn.Rule) (W : World) : Prop where
  zb : BlkAt W w.heap.size #[.string s, .int .i64 off, .slice (some ⟨g1, 0, none⟩) m cap] 27
  rb : BlkAt W (w.heap.size + 1) #[.string ⟨#[]⟩, .int .i64 0, .slice none 0 0] 27
  own : OwnL 23 7 eRule W (w.heap.size + 2) (.slice (some ⟨g1, 0, none⟩) m cap) rs
  dice : Dice W g A n c zs
  gw : w.grownBy W (some g)
  glt : g < w.heap.size
section
variable {s : ByteArray} {off : Int} {w W W' : World} {g : Nat} {A : Option Addr} {n c : Nat} {zs : List Int} {g1 m cap : Nat} {rs : List Zn.Rule}
theorem OS.size (h : OS s off w g A n c zs g1 m cap rs W) : w.heap.size + 2 ≤ W.heap.size := BlkAt.lt_ h.rb
theorem OS.alloc (h : OS s off w g A n c zs g1 m cap rs W) (o : Obj) : OS s off w g A n c zs g1 m cap rs (W.alloc o) :=
  ⟨BlkAt.alloc h.zb _, BlkAt.alloc h.rb _, h.own.alloc _, h.dice.alloc _, grown_alloc h.gw _, h.glt⟩
theorem OS.drew (h : OS s off w g A n c zs g1 m cap rs W) : OS s off w g A n c zs g1 m cap rs W.drew :=
  ⟨BlkAt.drewN h.zb 1, BlkAt.drewN h.rb 1, h.own.drewN 1, h.dice.drew, grown_drew h.gw, h.glt⟩
theorem OS.call (h : OS s off w g A n c zs g1 m cap rs W) (hg : W.grownBy W' (some g)) (hD : Dice W' g A n c zs) : OS s off w g A n c zs g1 m cap rs W' :=
  have := h.glt
  ⟨blk_after h.zb hg (by omega), blk_after h.rb hg (by omega), h.own.grown hg (by omega), hD, grown_trans h.gw hg, h.glt⟩
theorem OS.z2 (h : OS s off w g A n c zs g1 m cap rs W) : W.cell? ⟨w.heap.size, 2, none⟩ = some (.slice (some ⟨g1, 0, none⟩) m cap) := BlkAt.cell h.zb rfl
theorem OS.z1 (h : OS s off w g A n c zs g1 m cap rs W) : W.cell? ⟨w.heap.size, 1, none⟩ = some (.int .i64 off) := BlkAt.cell h.zb rfl
theorem OS.g1_ (h : OS s off w g A n c zs g1 m cap rs W) : w.heap.size + 2 ≤ g1 ∧ g1 < W.heap.size := by
  rcases h.own.row with ⟨h1, -⟩ | ⟨g2, c2, h1, h2, h3, -⟩
  · cases h1
  · cases h1; exact ⟨h2, h3⟩
theorem OS.len (h : OS s off w g A n c zs g1 m cap rs W) : rs.length = m := by
  rcases h.own.row with ⟨h1, -⟩ | ⟨g2, c2, h1, -⟩
  · cases h1
  · exact ((Value.slice.inj h1).2.1).symm
theorem OS.row (h : OS s off w g A n c zs g1 m cap rs W) {i : Nat} {r : Zn.Rule} (hr : rs[i]? = some r) {j : Nat} (hj : j < 7) : W.cell? ⟨g1, i * 7 + j, none⟩ = some (eRule r j) ∧ W.frozen? ⟨g1, i * 7 + j, none⟩ = false := by
  rcases h.own.row with ⟨h1, -⟩ | ⟨g2, c2, h1, -, -, -, h5⟩
  · cases h1
  · cases h1; exact h5 i r hr j hj
theorem OS.ra (h : OS s off w g A n c zs g1 m cap rs W) : RulesAt W (some ⟨g1, 0, none⟩) rs := by
  obtain ⟨A4, c4, h1, -, -, h2⟩ := h.own.shape
  cases h1
  exact h2
/-- One cell of one rule is another one. -/
theorem OS.done (h : OS s off w g A n c zs g1 m cap rs W) {i : Nat} {r : Zn.Rule} (hr : rs[i]? = some r) {j : Nat} (hj : j < 7) {r' : Zn.Rule} {u : Value} (hu : eRule r' j = u) (ho : ∀ j', j' < 7 → j' ≠ j → eRule r' j' = eRule r j')
    (hf : ∀ x ∈ rs, FitR x) (hf' : FitR r') (hm : m ≤ 3) (hi : I64 off) : OE s w g A n c zs off (some ⟨g1, 0, none⟩) m cap (rs.set i r') (W.setCell ⟨g1, i * 7 + j, none⟩ u) := by
  obtain ⟨q1, q2⟩ := h.g1_
  have hlt := h.glt
  have hB : Below (w.heap.size + 2) W (W.setCell ⟨g1, i * 7 + j, none⟩ u) := (Below.refl _ _).setCell (by exact q1) _
  exact ⟨BlkAt.below h.zb hB (by omega), BlkAt.below h.rb hB (by omega), ListAt.set1 h.ra hr hj hu ho, (fun ad e => by cases e; simp only; omega), by rw [List.length_set]; exact h.len, hm, fit_set hf hf' i, hi, h.dice.below hB (by omega), grown_then h.gw hB (by omega), h.glt⟩
/-- The offset is another one. -/
theorem off_done {v : Value} {A' : Option Addr} {n' c' : Nat} (hv : v = .slice A' n' c') (zb : BlkAt W w.heap.size #[.string s, .int .i64 off, v] 27) (rb : BlkAt W (w.heap.size + 1) #[.string ⟨#[]⟩, .int .i64 0, .slice none 0 0] 27)
    (own : OwnL 23 7 eRule W (w.heap.size + 2) v rs) (dice : Dice W g A n c zs) (gw : w.grownBy W (some g)) (glt : g < w.heap.size) (hm : rs.length ≤ 3) (hf : ∀ x ∈ rs, FitR x) {x : Int} (hx : I64 x) :
    OE s w g A n c zs x A' n' c' rs (W.setCell ⟨w.heap.size, 1, none⟩ (.int .i64 x)) := by
  have hB : Below w.heap.size W (W.setCell ⟨w.heap.size, 1, none⟩ (.int .i64 x)) := (Below.refl _ _).setCell (by exact Nat.le_refl _) _
  have hA : n' = rs.length ∧ RulesAt W A' rs ∧ ∀ ad, A' = some ad → w.heap.size + 2 ≤ ad.block := by
    subst hv
    obtain ⟨A4, c4, h1, -, -, h2⟩ := own.shape
    cases h1
    refine ⟨rfl, h2, fun ad e => ?_⟩
    subst e
    rcases own.row with ⟨h3, -⟩ | ⟨g2, c2, h3, h4, -⟩
    · cases h3
    · cases h3; exact h4
  obtain ⟨rfl, h2, h3⟩ := hA
  subst hv
  refine ⟨BlkAt.set_ zb 1 _, BlkAt.other rb (by omega) _, h2.other (fun ad e => by have := h3 ad e; omega) _, fun ad e => by have := h3 ad e; omega, rfl, hm, hf, hx, dice.below hB glt, grown_then gw hB (Nat.le_refl _), glt⟩
end
theorem kept1 {W : World} {g1 o : Nat} {u v : Value} (h : W.cell? ⟨g1, o + 1, none⟩ = some v) : (W.setCell ⟨g1, o, none⟩ u).cell? ⟨g1, o + 1, none⟩ = some v := by
  rw [World.cell?_setCell_other _ _ _ _ (by intro e; have e := congrArg Addr.off e; simp only at e; omega)]; exact h
theorem cell_off0 {W : World} {g1 o : Nat} {v : Value} (h : W.cell? ⟨g1, o + 0, none⟩ = v) : W.cell? ⟨g1, o, none⟩ = v := h

/-- What the region of the append reads. -/
def Rd7 (b g1 : Nat) (v : Value) (r : Zn.Rule) (W : World) : Prop := W.cell? ⟨b, 2, none⟩ = some v ∧ W.cell? ⟨g1, 0, none⟩ = some (.int .i64 r.fr) ∧ W.cell? ⟨g1, 1, none⟩ = some (.int .i64 r.to) ∧ W.cell? ⟨g1, 2, none⟩ = some (.int .i64 r.mo) ∧ W.cell? ⟨g1, 3, none⟩ = some (.int .i64 r.wk) ∧ W.cell? ⟨g1, 4, none⟩ = some (.int .i64 r.wd) ∧ W.cell? ⟨g1, 5, none⟩ = some (.int .i64 r.sec) ∧ W.cell? ⟨g1, 6, none⟩ = some (.int .i64 r.off)
theorem rule_new {W : World} {B : Nat} {T : TypeId} {x0 x1 x2 x3 x4 x5 x6 : Int} (h : W.heap.size = B) : ∀ j, j < 7 → (W.alloc (.cells #[.int .i64 x0, .int .i64 x1, .int .i64 x2, .int .i64 x3, .int .i64 x4, .int .i64 x5, .int .i64 x6] T)).cell? ⟨B, j, none⟩ = some (eRule ⟨x0, x1, x2, x3, x4, x5, x6⟩ j) := fun j hj => by
  have b := blk_new (vs := #[.int .i64 x0, .int .i64 x1, .int .i64 x2, .int .i64 x3, .int .i64 x4, .int .i64 x5, .int .i64 x6]) (T := T) h
  have hjj : j = 0 ∨ j = 1 ∨ j = 2 ∨ j = 3 ∨ j = 4 ∨ j = 5 ∨ j = 6 := by omega
  rcases hjj with rfl | rfl | rfl | rfl | rfl | rfl | rfl <;> exact BlkAt.cell b rfl
theorem rule_blk {W : World} {B : Nat} {T : TypeId} {x0 x1 x2 x3 x4 x5 x6 : Int} (b : BlkAt W B #[.int .i64 x0, .int .i64 x1, .int .i64 x2, .int .i64 x3, .int .i64 x4, .int .i64 x5, .int .i64 x6] T) : ∀ j, j < 7 → W.cell? ⟨B, j, none⟩ = some (eRule ⟨x0, x1, x2, x3, x4, x5, x6⟩ j) := fun j hj => by
  have hjj : j = 0 ∨ j = 1 ∨ j = 2 ∨ j = 3 ∨ j = 4 ∨ j = 5 ∨ j = 6 := by omega
  rcases hjj with rfl | rfl | rfl | rfl | rfl | rfl | rfl <;> exact BlkAt.cell b rfl
/-- Behind the append: its result is not stored yet. -/
structure OA (s : ByteArray) (off : Int) (w : World) (g : Nat) (A : Option Addr) (n c : Nat) (zs : List Int) (g1 m cap : Nat) (rs : List Zn.Rule) (r : Zn.Rule) (v : Value) (W : World) : Prop where
  zb : BlkAt W w.heap.size #[.string s, .int .i64 off, .slice (some ⟨g1, 0, none⟩) m cap] 27
  rb : BlkAt W (w.heap.size + 1) #[.string ⟨#[]⟩, .int .i64 0, .slice none 0 0] 27
  own : OwnL 23 7 eRule W (w.heap.size + 2) v (rs ++ [r])
  len : rs.length = m
  dice : Dice W g A n c zs
  gw : w.grownBy W (some g)
  glt : g < w.heap.size
  q1 : w.heap.size + 2 ≤ g1
section
variable {s : ByteArray} {off : Int} {w W W' : World} {g : Nat} {A : Option Addr} {n c : Nat} {zs : List Int} {g1 m cap : Nat} {rs : List Zn.Rule} {r : Zn.Rule} {v : Value}
theorem OS.rd7 (h : OS s off w g A n c zs g1 m cap rs W) (hr : rs[0]? = some r) : Rd7 w.heap.size g1 (.slice (some ⟨g1, 0, none⟩) m cap) r W := by
  have k := fun j (hj : j < 7) => (h.row hr hj).1
  have e : ∀ j, 0 * 7 + j = j := fun j => by omega
  have k0 := k 0 (by omega); have k1 := k 1 (by omega); have k2 := k 2 (by omega); have k3 := k 3 (by omega); have k4 := k 4 (by omega); have k5 := k 5 (by omega); have k6 := k 6 (by omega)
  rw [e] at k0 k1 k2 k3 k4 k5 k6
  exact ⟨h.z2, k0, k1, k2, k3, k4, k5, k6⟩
theorem OA.sl (h : OA s off w g A n c zs g1 m cap rs r v W) : ∃ g2 c2, v = .slice (some ⟨g2, 0, none⟩) (m + 1) c2 := by
  rcases h.own.row with ⟨-, h0⟩ | ⟨g2, c2, hv, -⟩
  · simp at h0
  · rw [List.length_append, List.length_singleton, h.len] at hv
    exact ⟨g2, c2, hv⟩
theorem OA.put {g2 c2 : Nat} (h : OA s off w g A n c zs g1 m cap rs r (.slice (some ⟨g2, 0, none⟩) (m + 1) c2) W) : OS s off w g A n c zs g2 (m + 1) c2 (rs ++ [r]) (W.setCell ⟨w.heap.size, 2, none⟩ (.slice (some ⟨g2, 0, none⟩) (m + 1) c2)) := by
  have hB : Below w.heap.size W (W.setCell ⟨w.heap.size, 2, none⟩ (.slice (some ⟨g2, 0, none⟩) (m + 1) c2)) := (Below.refl _ _).setCell (by exact Nat.le_refl _) _
  have hg2 : w.heap.size + 2 ≤ g2 := by
    rcases h.own.row with ⟨h1, -⟩ | ⟨g3, c3, h1, h2, -⟩
    · cases h1
    · have e : g2 = g3 := congrArg Addr.block (Option.some.inj (Value.slice.inj h1).1)
      omega
  exact ⟨BlkAt.set_ h.zb 2 _, BlkAt.other h.rb (by omega) _, h.own.other (by simp [Value.ownBlock]; omega) _, h.dice.below hB h.glt, grown_then h.gw hB (Nat.le_refl _), h.glt⟩
theorem OS.keptz {i : Nat} {u : Value} (h : OS s off w g A n c zs g1 m cap rs W) : (W.setCell ⟨g1, i, none⟩ u).cell? ⟨w.heap.size, 2, none⟩ = some (.slice (some ⟨g1, 0, none⟩) m cap) := by
  have := h.g1_
  rw [World.cell?_setCell_other _ _ _ _ (by intro e; have e := congrArg Addr.block e; simp only at e; omega)]; exact h.z2
theorem OS.appended (h : OS s off w g A n c zs g1 m cap rs W) (hO : OwnL 23 7 eRule W' (w.heap.size + 2) v (rs ++ [r])) (hB : Below (w.heap.size + 2) W W') : OA s off w g A n c zs g1 m cap rs r v W' := by
  have hlt := h.glt
  exact ⟨BlkAt.below h.zb hB (by omega), BlkAt.below h.rb hB (by omega), hO, h.len, h.dice.below hB (by omega), grown_then h.gw hB (by omega), h.glt, h.g1_.1⟩
end

set_option maxHeartbeats 1000000 in
set_option maxRecDepth 100000 in
theorem odd_nil (s : ByteArray) (off : Int) (Az : Option Addr) (cz : Nat) (g : Nat) (A : Option Addr) (n c : Nat) (zs : List Int) (w : World) (hD : Dice w g A n c zs) (o1 : -64800 ≤ off) (o2 : off ≤ 64800) :
    Calls Tryd.prog 16 #[.pointer (some ⟨g, 0, none⟩), .agg #[.string s, .int .i64 off, .slice Az 0 cz]] w (Odds s w g A n c zs) := by
  have glt := hD.lt_
  have HM : Hid (([] : List Zn.Rule).length = 0) := Lib.hid rfl
  have HF : Hid (∀ r ∈ ([] : List Zn.Rule), FitR r) := Lib.hid (fun r h => by cases h)
  obtain ⟨rs, hrs⟩ : ∃ rs : List Zn.Rule, [] = rs := ⟨_, rfl⟩
  rw [hrs] at HM HF
  have HRS := Lib.hid hrs.symm
  have HD := Lib.hid hD
  clear hD hrs
  go_enter Tryd.func16, Tryd.ntmps16
  go_upto_region 1 with fail
  go_cut [] (fun wx => Hid (BlkAt wx w.heap.size #[.string s, .int .i64 off, .slice none 0 0] 27 ∧ BlkAt wx (w.heap.size + 1) #[.string ⟨#[]⟩, .int .i64 0, .slice none 0 0] 27 ∧ Dice wx g A n c zs ∧ w.grownBy wx (some g) ∧ w.heap.size + 2 ≤ wx.heap.size))
  case first =>
    go_wp2_with (at_builtin; refine wp_append_none kRule _ rfl _ _ rfl Az cz rfl rfl ?_)
    go_meet
    exact Lib.hid ⟨BlkAt.alloc (blk_new rfl) _, blk_new (by simp), (HD.out.alloc _).alloc _, grown_alloc (grown_alloc (grown_refl _ _) _) _, by simp⟩
  case rest =>
    obtain ⟨w3, rfl⟩ : ∃ w3 : World, w3 = wc := ⟨_, rfl⟩
    obtain ⟨ZB3, RB3, D3, G3, S3⟩ := hcut.out
    have y2 : w3.cell? ⟨w.heap.size, 2, none⟩ = some (.slice none 0 0) := BlkAt.cell ZB3 rfl
    have HO3 : Hid (OwnL 23 7 eRule w3 (w.heap.size + 2) (.slice none 0 0) rs) := Lib.hid (by rw [HRS.out]; exact OwnL.nil_ _ _)
    clear HD hcut
    go_upto_region 3 with fail
    go_cut [] (fun wx => ∃ x A' n' c', Hid (OE s w g A n c zs x A' n' c' rs wx))
    case first =>
      go_wp2_with (go_at_call 38; refine (Pick_any g n c A zs [64800, 64801, -64800, -64801, 86400] _ 5 5 3 _ (D3.alloc _) (by exact blk_new rfl) rfl (by omega) (by omega) (by omega)).mono ?_; rintro e w' ⟨x, rfl, hx, hg, hD⟩; have hxi : -64801 ≤ x ∧ x ≤ 86400 := (by simp at hx; omega); have ZB5 := blk_after (BlkAt.alloc ZB3 _) hg (by omega); have RB5 := blk_after (BlkAt.alloc RB3 _) hg (by omega); have ON5 := OwnL.grown (OwnL.alloc HO3.out _) hg (by omega); have G5 := grown_trans (grown_alloc G3 _) hg; have k1 : w'.cell? ⟨w.heap.size, 1, none⟩ = some (.int .i64 off) := BlkAt.cell ZB5 rfl; have k2 := BlkAt.free ZB5 1; have HO5 := Lib.hid ON5; clear ON5)
      go_meet
      exact ⟨x, _, _, _, Lib.hid (off_done rfl ZB5 RB5 HO5.out hD G5 glt (by rw [HM.out]; omega) HF.out ⟨by omega, by omega⟩)⟩
    case rest =>
      obtain ⟨w9, rfl⟩ : ∃ w9 : World, w9 = wc := ⟨_, rfl⟩
      obtain ⟨x, A', n', c', HE⟩ := hcut
      obtain ⟨y0, y1, y2⟩ := ZBlk.cells HE.out.zb
      obtain ⟨r0, r1, r2⟩ := (show w9.cell? ⟨w.heap.size + 1, 0, none⟩ = some (.string ⟨#[]⟩) ∧ w9.cell? ⟨w.heap.size + 1, 1, none⟩ = some (.int .i64 0) ∧ w9.cell? ⟨w.heap.size + 1, 2, none⟩ = some (.slice none 0 0) from ⟨BlkAt.cell HE.out.rb rfl, BlkAt.cell HE.out.rb rfl, BlkAt.cell HE.out.rb rfl⟩)
      obtain ⟨x0, x1, x2⟩ := HE.out.rb.free3
      have hb9 := BlkAt.lt_ HE.out.rb
      go_wp2_with fail
      refine bodyPost_ret (v := .agg #[.string s, .int .i64 x, .slice A' n' c']) (by simp [results, Tryd.results16, go_sem, r0, r1, r2, x0, x1, x2]) rfl ?_
      exact HE.out.fin _ _ _
end Go.Proofs.YtegnfmpbhindaaaDoor
