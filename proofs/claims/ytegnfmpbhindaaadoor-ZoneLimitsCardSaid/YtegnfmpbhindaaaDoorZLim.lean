/- The law ZoneLimits returns true for all numbers. -/
import Derived.Test.YtegnfmpbhindaaaDoorZlx
import Derived.Test.YtegnfmpbhindaaaDoorZlm
import Derived.Deep.DeepCutAuto
import Derived.Deep.RegionHeld3
namespace Go.Proofs.YtegnfmpbhindaaaDoor
open Go.RowKit
set_option linter.unusedVariables false
set_option linter.unusedSimpArgs false

set_option maxHeartbeats 1000000 in
theorem at_any (y wk wd s o : Int) (b : Nat) (w : World) (hy : w.cell? ⟨b, 0, none⟩ = some (.int .i64 y)) :
    Calls Tryd.prog 9 #[.int .i64 wk, .int .i64 wd, .int .i64 s, .int .i64 o, .pointer (some ⟨b, 0, none⟩)] w fun e w' => e = .returned (.agg #[.int .i64 y, .int .i64 y, .int .i64 5, .int .i64 wk, .int .i64 wd, .int .i64 s, .int .i64 o]) ∧ Below w.heap.size w w' := by
  have hb := World.block_lt_of_cell? w _ hy
  simp only at hb
  have q : ∀ ob, (w.alloc ob).cell? ⟨b, 0, none⟩ = some (.int .i64 y) := fun ob => ((Below.refl w.heap.size w).alloc (Nat.le_refl _) ob).cell (p := ⟨b, 0, none⟩) hb |>.trans hy
  go_enter Tryd.func9, Tryd.ntmps9
  go_wp2_with fail
  refine bodyPost_ret (v := .agg #[.int .i64 y, .int .i64 y, .int .i64 5, .int .i64 wk, .int .i64 wd, .int .i64 s, .int .i64 o]) (by simp [results, Tryd.results9, go_sem]) rfl ?_
  exact ⟨rfl, (Below.refl _ _).alloc (Nat.le_refl _) _⟩

/-- A zone's value at block b, and its rules at the head of block rb; both lie ahead of B. -/
structure ZV (W : World) (B b rb : Nat) (off : Int) (n c : Nat) (rs : List Zn.Rule) : Prop where
  zb : ZBlk W b ⟨#[]⟩ off (some ⟨rb, 0, none⟩) n c
  ra : RulesAt W (some ⟨rb, 0, none⟩) rs
  len : rs.length = n
  pos : 0 < n
  lb : b < B
  lr : rb < B
theorem ZV.below {W W' : World} {B b rb : Nat} {off : Int} {n c : Nat} {rs : List Zn.Rule} (h : ZV W B b rb off n c rs) (hb : Below B W W') : ZV W' B b rb off n c rs := by
  refine ⟨BlkAt.below h.zb hb h.lb, fun h0 => ?_, h.len, h.pos, h.lb, h.lr⟩
  obtain ⟨b', o', e, hlt, hc⟩ := h.ra h0
  cases e
  exact ⟨rb, 0, rfl, Nat.lt_of_lt_of_le hlt hb.size, fun i x hx j hj => (hb.cell (p := ⟨rb, 0 + i * 7 + j, none⟩) h.lr).trans (hc i x hx j hj)⟩
theorem ZV.up {W : World} {B B' b rb : Nat} {off : Int} {n c : Nat} {rs : List Zn.Rule} (h : ZV W B b rb off n c rs) (hB : B ≤ B') : ZV W B' b rb off n c rs := ⟨h.zb, h.ra, h.len, h.pos, Nat.lt_of_lt_of_le h.lb hB, Nat.lt_of_lt_of_le h.lr hB⟩

theorem zv_one {W : World} {y wk wd s o off : Int} : ZV ((W.alloc (.cells #[.int .i64 y, .int .i64 y, .int .i64 5, .int .i64 wk, .int .i64 wd, .int .i64 s, .int .i64 o] 23)).alloc (.cells #[.string ⟨#[]⟩, .int .i64 off, .slice (some ⟨W.heap.size, 0, none⟩) 1 1] 27)) (W.heap.size + 2) (W.heap.size + 1) W.heap.size off 1 1 [mayR y wk wd s o] :=
  ⟨blk_new (by simp), rules_one (BlkAt.alloc (blk_new rfl) _), rfl, by omega, by omega, by omega⟩
theorem zv_two {W : World} {y wk wd s o wk' wd' s' o' off : Int} : ZV ((W.alloc (.cells #[.int .i64 y, .int .i64 y, .int .i64 5, .int .i64 wk, .int .i64 wd, .int .i64 s, .int .i64 o, .int .i64 y, .int .i64 y, .int .i64 5, .int .i64 wk', .int .i64 wd', .int .i64 s', .int .i64 o'] 23)).alloc (.cells #[.string ⟨#[]⟩, .int .i64 off, .slice (some ⟨W.heap.size, 0, none⟩) 2 2] 27)) (W.heap.size + 2) (W.heap.size + 1) W.heap.size off 2 2 [mayR y wk wd s o, mayR y wk' wd' s' o'] :=
  ⟨blk_new (by simp), rules_two (BlkAt.alloc (blk_new rfl) _), rfl, by omega, by omega, by omega⟩
/-- What is carried along: the year's cell, the zones so far, the table, what lies ahead. -/
structure LS (w W : World) (y : Int) (B : Nat) : Prop where
  yb : W.cell? ⟨w.heap.size, 0, none⟩ = some (.int .i64 y)
  ylt : w.heap.size < B
  civ : CivT W
  bel : Below w.heap.size w W
theorem LS.below {w W W' : World} {y : Int} {B : Nat} (h : LS w W y B) (hb : Below B W W') : LS w W' y B := by
  have hlt := h.ylt
  refine ⟨(hb.cell (p := ⟨w.heap.size, 0, none⟩) hlt).trans h.yb, h.ylt, ?_, h.bel.trans (hb.mono (by omega))⟩
  exact ⟨Nat.lt_of_lt_of_le h.civ.1 hb.size, fun i hi => (hb.cell (p := ⟨0, i, none⟩) (by simp only; omega)).trans (h.civ.2 i hi)⟩
theorem LS.up {w W : World} {y : Int} {B B' : Nat} (h : LS w W y B) (hB : B ≤ B') : LS w W y B' := ⟨h.yb, Nat.lt_of_lt_of_le h.ylt hB, h.civ, h.bel⟩
theorem size_alloc2 {W : World} {o1 o2 : Obj} : ((W.alloc o1).alloc o2).heap.size = W.heap.size + 2 := by simp
theorem two_al {W : World} {o1 o2 : Obj} {B : Nat} (hB : B ≤ W.heap.size) : Below B W ((W.alloc o1).alloc o2) := ((Below.refl _ _).alloc hB _).alloc (by simp; omega) _

theorem LS.to {w W : World} {y : Int} {o1 o2 : Obj} {b rb : Nat} {off : Int} {n c : Nat} {rs : List Zn.Rule} (h : LS w W y W.heap.size) (z : ZV ((W.alloc o1).alloc o2) (W.heap.size + 2) b rb off n c rs) : LS w ((W.alloc o1).alloc o2) y (W.heap.size + 2) := (h.below (two_al (Nat.le_refl _))).up (by omega)
theorem ZV.to {W : World} {o1 o2 : Obj} {b rb b' rb' : Nat} {off off' : Int} {n c n' c' : Nat} {rs rs' : List Zn.Rule} (h : ZV W W.heap.size b' rb' off' n' c' rs') (z : ZV ((W.alloc o1).alloc o2) (W.heap.size + 2) b rb off n c rs) : ZV ((W.alloc o1).alloc o2) (W.heap.size + 2) b' rb' off' n' c' rs' := (h.below (two_al (Nat.le_refl _))).up (by omega)

/-- The four zones and what is carried along. -/
structure LM (w W : World) (y : Int) (B h1 h2 h4 h6 : Nat) : Prop where
  ls : LS w W y B
  z5 : ZV W B (h1 + 1) h1 (-64800) 1 1 [mayR y 1 0 0 21599]
  z6 : ZV W B (h2 + 1) h2 (-64800) 1 1 [mayR y 1 0 0 21600]
  z7 : ZV W B (h4 + 1) h4 0 2 2 [mayR y 1 2 7200 3600, mayR y 2 2 7200 0]
  z8 : ZV W B (h6 + 1) h6 0 2 2 [mayR y 1 2 7200 3600, mayR y 2 2 10800 0]
theorem LM.below {w W W' : World} {y : Int} {B h1 h2 h4 h6 : Nat} (h : LM w W y B h1 h2 h4 h6) (hb : Below B W W') : LM w W' y B h1 h2 h4 h6 :=
  ⟨h.ls.below hb, h.z5.below hb, h.z6.below hb, h.z7.below hb, h.z8.below hb⟩
theorem rule_new {W : World} {B : Nat} {T : TypeId} {x0 x1 x2 x3 x4 x5 x6 : Int} (h : W.heap.size = B) : ∀ j, j < 7 → (W.alloc (.cells #[.int .i64 x0, .int .i64 x1, .int .i64 x2, .int .i64 x3, .int .i64 x4, .int .i64 x5, .int .i64 x6] T)).cell? ⟨B, j, none⟩ = some (eRule ⟨x0, x1, x2, x3, x4, x5, x6⟩ j) := fun j hj => by
  have b := blk_new (vs := #[.int .i64 x0, .int .i64 x1, .int .i64 x2, .int .i64 x3, .int .i64 x4, .int .i64 x5, .int .i64 x6]) (T := T) h
  have hjj : j = 0 ∨ j = 1 ∨ j = 2 ∨ j = 3 ∨ j = 4 ∨ j = 5 ∨ j = 6 := by omega
  rcases hjj with rfl | rfl | rfl | rfl | rfl | rfl | rfl <;> exact BlkAt.cell b rfl

theorem step_append_k {α : Type} {k : Nat} {e : α → Nat → Value} {T S : TypeId} (K : KindOk S T k e)
    {ops : Array Oper} {o : Oper} {a : Act} {N : Act → World → Prop} {Q : Exit → Act → World → Prop} {E : Prop} (w : World) (hgd : o.guard = none) (s x : Operand)
    (ho : o.op = .call { callee := .builtin .append, args := #[s, x], argTypes := #[S, S] }) (B : Nat) (v : Value) (ys : List α) (hs : a.eval s = v) (hown : OwnL T k e w B v ys)
    (blk off m c : Nat) (news : List α) (hm : news.length = m) (hm0 : 0 < m) (hx : a.eval x = .slice (some ⟨blk, off, none⟩) m c) (hb : ∀ i x, news[i]? = some x → ∀ j, j < k → w.cell? ⟨blk, off + i * k + j, none⟩ = some (e x j))
    (hlen : ys.length + m ≤ 1000000) (hB : B ≤ w.heap.size)
    (h : ∀ g cap w', OwnL T k e w' B (.slice (some ⟨g, 0, none⟩) (ys.length + m) cap) (ys ++ news) → Below B w w' → w.grownBy w' v.ownBlock → N (a.put o.dst (.slice (some ⟨g, 0, none⟩) (ys.length + m) cap)) w') :
    if Region.wanted o (yielded ops a.tmps) = true then Oper.wp Tryd.prog o a w N Q else E := by
  obtain ⟨i0, z, bytes, hi, hz0, hz1, hz2, hzz, hk2⟩ := K.info
  refine step_append_lies w hgd s x S ho B T i0 z k bytes K.under hi hz0 hz1 hz2 hzz K.pos v ys.length (encK k e ys) hs hown ⟨blk, off, none⟩ m c (encK k e news) hx (by rw [encK_len, hm]) ?_ ?_ hm0 (by simp only [maxLen]; omega) ?_ hB _ rfl ?_
  · intro j u hu
    obtain ⟨i, j', y, h1, h2, rfl, rfl⟩ := encK_inv hu
    rw [add_none, ← Nat.add_assoc]
    exact hb i y h1 j' h2
  · intro u hu
    simp only [encK, List.mem_flatMap, List.mem_map] at hu
    obtain ⟨y, _, j, _, rfl⟩ := hu
    exact K.one y j
  · have := Nat.mul_le_mul hlen hk2
    omega
  · intro g cap w' h1 h2 h3 h4
    refine h g cap w' ?_ ((Below.refl B w).grown h2 hB (fun q hq => (World.ownsRow.lt hown q hq).1)) h2
    unfold OwnL
    rw [encK_app, List.length_append, hm]
    exact h1
theorem ra_cells {W : World} {g : Nat} {rs : List Zn.Rule} (h : RulesAt W (some ⟨g, 0, none⟩) rs) : ∀ i x, rs[i]? = some x → ∀ j, j < 7 → W.cell? ⟨g, 0 + i * 7 + j, none⟩ = some (eRule x j) := fun i x hx j hj => by
  obtain ⟨b', o', e, hlt, hc⟩ := h (by have := (List.getElem?_eq_some_iff.1 hx).1; omega)
  cases e
  exact hc i x hx j hj
/-- What region 13 reads. -/
def Rd13 (b g : Nat) (v : Value) (r : Zn.Rule) (W : World) : Prop := W.cell? ⟨b, 2, none⟩ = some v ∧ W.cell? ⟨g, 0, none⟩ = some (.int .i64 r.fr) ∧ W.cell? ⟨g, 1, none⟩ = some (.int .i64 r.to) ∧ W.cell? ⟨g, 2, none⟩ = some (.int .i64 r.mo) ∧ W.cell? ⟨g, 3, none⟩ = some (.int .i64 r.wk) ∧ W.cell? ⟨g, 4, none⟩ = some (.int .i64 r.wd) ∧ W.cell? ⟨g, 5, none⟩ = some (.int .i64 r.sec) ∧ W.cell? ⟨g, 6, none⟩ = some (.int .i64 r.off)
/-- The list of many, and its value. -/
structure MV (W : World) (b g c : Nat) (xs : List Zn.Rule) : Prop where
  zb : BlkAt W b #[.string ⟨#[]⟩, .int .i64 0, .slice (some ⟨g, 0, none⟩) 16 c] 27
  ra : RulesAt W (some ⟨g, 0, none⟩) xs
theorem MV.after {W W' : World} {b g c : Nat} {xs : List Zn.Rule} (h : MV W b g c xs) (hb : Below W.heap.size W W') : MV W' b g c xs := ⟨BlkAt.after h.zb hb, h.ra.below hb⟩
theorem MV.reads {W : World} {b g c : Nat} {xs : List Zn.Rule} (h : MV W b g c xs) {r : Zn.Rule} (hr : xs[0]? = some r) : Rd13 b g (.slice (some ⟨g, 0, none⟩) 16 c) r W := by
  have := ra_cells h.ra 0 r hr
  exact ⟨BlkAt.cell h.zb rfl, this 0 (by omega), this 1 (by omega), this 2 (by omega), this 3 (by omega), this 4 (by omega), this 5 (by omega), this 6 (by omega)⟩

theorem MV.below {W W' : World} {b g c B : Nat} {xs : List Zn.Rule} (h : MV W b g c xs) (hb : Below B W W') (h1 : b < B) (h2 : g < B) : MV W' b g c xs := by
  refine ⟨BlkAt.below h.zb hb h1, fun h0 => ?_⟩
  obtain ⟨b', o', e, hlt, hc⟩ := h.ra h0
  cases e
  exact ⟨g, 0, rfl, Nat.lt_of_lt_of_le hlt hb.size, fun i x hx j hj => (hb.cell (p := ⟨g, 0 + i * 7 + j, none⟩) h2).trans (hc i x hx j hj)⟩
theorem rule_blk {W : World} {B : Nat} {T : TypeId} {x0 x1 x2 x3 x4 x5 x6 : Int} (b : BlkAt W B #[.int .i64 x0, .int .i64 x1, .int .i64 x2, .int .i64 x3, .int .i64 x4, .int .i64 x5, .int .i64 x6] T) : ∀ j, j < 7 → W.cell? ⟨B, j, none⟩ = some (eRule ⟨x0, x1, x2, x3, x4, x5, x6⟩ j) := fun j hj => by
  have hjj : j = 0 ∨ j = 1 ∨ j = 2 ∨ j = 3 ∨ j = 4 ∨ j = 5 ∨ j = 6 := by omega
  rcases hjj with rfl | rfl | rfl | rfl | rfl | rfl | rfl <;> exact BlkAt.cell b rfl
theorem own_17 {W : World} {B : Nat} {T : TypeId} {v : Value} {xs : List Zn.Rule} {r : Zn.Rule} (h : OwnL T 7 eRule W B v (xs ++ [r])) (hl : xs.length = 16) : ∃ g c, v = .slice (some ⟨g, 0, none⟩) 17 c := by
  rcases h.row with ⟨-, h0⟩ | ⟨g, c, hv, -⟩
  · simp at h0
  · rw [List.length_append, hl] at hv
    exact ⟨g, c, hv⟩
/-- What is carried through region 13. -/
structure Q13 (w : World) (y : Int) (b h1 h2 h4 h6 g c b11 : Nat) (xs : List Zn.Rule) (W : World) : Prop where
  mv : MV W b g c xs
  lm : LM w W y b h1 h2 h4 h6
  z : BlkAt W b11 #[.string ⟨#[]⟩, .int .i64 0, .slice (some ⟨g, 0, none⟩) 16 c] 27
  lb : b < b11
  lg : g < b11
section
variable {w W W' : World} {y : Int} {b h1 h2 h4 h6 g c b11 : Nat} {xs : List Zn.Rule}
theorem Q13.below (h : Q13 w y b h1 h2 h4 h6 g c b11 xs W) (hb : Below (b11 + 1) W W') : Q13 w y b h1 h2 h4 h6 g c b11 xs W' :=
  have l1 := h.lb
  have l2 := h.lg
  ⟨h.mv.below hb (by omega) (by omega), h.lm.below (hb.mono (by omega)), BlkAt.below h.z hb (by omega), h.lb, h.lg⟩
theorem Q13.lt_ (h : Q13 w y b h1 h2 h4 h6 g c b11 xs W) : b11 + 1 ≤ W.heap.size := BlkAt.lt_ h.z
theorem Q13.alloc (h : Q13 w y b h1 h2 h4 h6 g c b11 xs W) (o : Obj) : Q13 w y b h1 h2 h4 h6 g c b11 xs (W.alloc o) := h.below ((Below.refl _ _).alloc h.lt_ o)
theorem Q13.drew (h : Q13 w y b h1 h2 h4 h6 g c b11 xs W) : Q13 w y b h1 h2 h4 h6 g c b11 xs W.drew := h.below (Below.refl _ _).drew
theorem Q13.reads (h : Q13 w y b h1 h2 h4 h6 g c b11 xs W) {r : Zn.Rule} (hr : xs[0]? = some r) : Rd13 b g (.slice (some ⟨g, 0, none⟩) 16 c) r W := h.mv.reads hr
theorem Q13.stored (h : Q13 w y b h1 h2 h4 h6 g c b11 xs W) (v : Value) {r : Zn.Rule} (hr : xs[0]? = some r) : Rd13 b g (.slice (some ⟨g, 0, none⟩) 16 c) r (W.setCell ⟨b11, 2, none⟩ v) :=
  (h.mv.below ((Below.refl b11 W).setCell (by exact Nat.le_refl _) v) h.lb h.lg).reads hr
end
/-- Behind region 13. -/
def R13 (w : World) (y : Int) (b h1 h2 h4 h6 g c b11 : Nat) (xs : List Zn.Rule) (W : World) : Prop :=
  ∃ g2 c2 ys, MV W b g c xs ∧ LM w W y b h1 h2 h4 h6 ∧ BlkAt W b11 #[.string ⟨#[]⟩, .int .i64 0, .slice (some ⟨g2, 0, none⟩) 17 c2] 27 ∧ RulesAt W (some ⟨g2, 0, none⟩) ys ∧ (∃ r, r ∈ xs ∧ ys = xs ++ [r])
theorem Q13.done {w W : World} {y : Int} {b h1 h2 h4 h6 g c b11 g2 c2 : Nat} {xs ys : List Zn.Rule} {r : Zn.Rule} {T : TypeId} (h : Q13 w y b h1 h2 h4 h6 g c b11 xs W) (hO : OwnL T 7 eRule W (b11 + 1) (.slice (some ⟨g2, 0, none⟩) 17 c2) (xs ++ [r])) (hr : xs[0]? = some r) (hl : xs.length = 16) :
    R13 w y b h1 h2 h4 h6 g c b11 xs (W.setCell ⟨b11, 2, none⟩ (.slice (some ⟨g2, 0, none⟩) 17 c2)) := by
  have hb : Below b11 W (W.setCell ⟨b11, 2, none⟩ (.slice (some ⟨g2, 0, none⟩) 17 c2)) := (Below.refl b11 W).setCell (by exact Nat.le_refl _) _
  obtain ⟨A9, c9, hv9, -, -, hLA⟩ := hO.shape
  have hA9 : A9 = some ⟨g2, 0, none⟩ := (Value.slice.inj hv9).1.symm
  rw [hA9] at hLA
  have hge := (World.ownsRow.lt hO g2 rfl).1
  exact ⟨g2, c2, _, h.mv.below hb h.lb h.lg, h.lm.below (hb.mono (by have := h.lb; omega)), BlkAt.set_ h.z 2 _, hLA.other (fun ad e => by cases e; simp only; omega) _, r, List.mem_of_getElem? hr, rfl⟩

/-- What stands at the end. -/
structure FN (w : World) (y : Int) (b h1 h2 h4 h6 b11 g2 c2 : Nat) (ys : List Zn.Rule) (W : World) : Prop where
  lm : LM w W y b h1 h2 h4 h6
  z : ZBlk W b11 ⟨#[]⟩ 0 (some ⟨g2, 0, none⟩) 17 c2
  ra : RulesAt W (some ⟨g2, 0, none⟩) ys
  lb : b < b11
theorem FN.after {w W W' : World} {y : Int} {b h1 h2 h4 h6 b11 g2 c2 : Nat} {ys : List Zn.Rule} (h : FN w y b h1 h2 h4 h6 b11 g2 c2 ys W) (hb : Below W.heap.size W W') : FN w y b h1 h2 h4 h6 b11 g2 c2 ys W' :=
  ⟨h.lm.below (hb.mono (by have := BlkAt.lt_ h.z; have := h.lb; omega)), BlkAt.after h.z hb, h.ra.below hb, h.lb⟩

set_option maxHeartbeats 8000000 in
set_option maxRecDepth 100000 in
theorem limits_law (n : Int) (w : World) (hT : CivT w) (n1 : 0 ≤ n) (n2 : n ≤ 255) :
    Calls Tryd.prog 3 #[.int .u8 n] w fun e w' => e = .returned (.bool true) ∧ Below w.heap.size w w' := by
  obtain ⟨y, hy⟩ : ∃ y, 2000 + n % 30 = y := ⟨_, rfl⟩
  have y1 : 2000 ≤ y := by omega
  have y2 : y ≤ 2029 := by omega
  have HT := Lib.hid hT
  go_enter Tryd.func3, Tryd.ntmps3
  go_wp2_with fail
  have L0 : LS w (w.alloc (.cells #[.int .i64 y] 3)) y (w.heap.size + 1) := ⟨BlkAt.cell (blk_new rfl) rfl, by omega, HT.out.alloc _, (Below.refl _ _).alloc (Nat.le_refl _) _⟩
  refine (at_any y 1 0 0 21599 w.heap.size _ L0.yb).mono ?_
  rintro e w1 ⟨rfl, b1⟩
  have L1 := (L0.below (b1.mono (by simp))).up (show w.heap.size + 1 ≤ w1.heap.size by have := b1.size; simpa using this)
  clear L0 b1
  go_wp2_with fail
  have Z5 := zv_one (W := w1) (y := y) (wk := 1) (wd := 0) (s := 0) (o := 21599) (off := -64800)
  have L2 := L1.to Z5
  refine (at_any y 1 0 0 21600 w.heap.size _ L2.yb).mono ?_
  rintro e w2 ⟨rfl, b2⟩
  simp only [size_alloc2] at b2
  have h2 : w1.heap.size + 2 ≤ w2.heap.size := by have := b2.size; simpa using this
  have L3 := (L2.below b2).up h2
  have Z5 := (Z5.below b2).up h2
  clear L1 L2 b2 h2
  go_wp2_with fail
  have Z6 := zv_one (W := w2) (y := y) (wk := 1) (wd := 0) (s := 0) (o := 21600) (off := -64800)
  have L4 := L3.to Z6
  have Z5 := Z5.to Z6
  refine (at_any y 1 2 7200 3600 w.heap.size _ L4.yb).mono ?_
  rintro e w3 ⟨rfl, b3⟩
  simp only [size_alloc2] at b3
  have h3 : w2.heap.size + 2 ≤ w3.heap.size := by have := b3.size; simpa using this
  have L5 := (L4.below b3).up h3
  have Z5 := (Z5.below b3).up h3
  have Z6 := (Z6.below b3).up h3
  clear L3 L4 b3 h3
  go_wp2_with fail
  refine (at_any y 2 2 7200 0 w.heap.size _ L5.yb).mono ?_
  rintro e w4 ⟨rfl, b4⟩
  have L6 := (L5.below b4).up b4.size
  have Z5 := (Z5.below b4).up b4.size
  have Z6 := (Z6.below b4).up b4.size
  clear L5 b4
  go_wp2_with fail
  have Z7 := zv_two (W := w4) (y := y) (wk := 1) (wd := 2) (s := 7200) (o := 3600) (wk' := 2) (wd' := 2) (s' := 7200) (o' := 0) (off := 0)
  have L7 := L6.to Z7
  have Z5 := Z5.to Z7
  have Z6 := Z6.to Z7
  refine (at_any y 1 2 7200 3600 w.heap.size _ L7.yb).mono ?_
  rintro e w5 ⟨rfl, b5⟩
  simp only [size_alloc2] at b5
  have h5 : w4.heap.size + 2 ≤ w5.heap.size := by have := b5.size; simpa using this
  have L8 := (L7.below b5).up h5
  have Z5 := (Z5.below b5).up h5
  have Z6 := (Z6.below b5).up h5
  have Z7 := (Z7.below b5).up h5
  clear L6 L7 b5 h5
  go_wp2_with fail
  refine (at_any y 2 2 10800 0 w.heap.size _ L8.yb).mono ?_
  rintro e w6 ⟨rfl, b6⟩
  have L9 := (L8.below b6).up b6.size
  have Z5 := (Z5.below b6).up b6.size
  have Z6 := (Z6.below b6).up b6.size
  have Z7 := (Z7.below b6).up b6.size
  clear L8 b6
  go_wp2_with fail
  have Z8 := zv_two (W := w6) (y := y) (wk := 1) (wd := 2) (s := 7200) (o := 3600) (wk' := 2) (wd' := 2) (s' := 10800) (o' := 0) (off := 0)
  have M0 : Hid (LM w _ y (w6.heap.size + 2) w1.heap.size w2.heap.size w4.heap.size w6.heap.size) := Lib.hid (⟨L9.to Z8, Z5.to Z8, Z6.to Z8, Z7.to Z8, Z8⟩ : LM w _ y (w6.heap.size + 2) _ _ _ _)
  obtain ⟨b, hb9⟩ : ∃ b, w6.heap.size + 1 + 1 = b := ⟨_, rfl⟩
  have hb6 : w6.heap.size < b := by omega
  have M1 : Hid (LM w _ y b w1.heap.size w2.heap.size w4.heap.size w6.heap.size) := Lib.hid ((hb9 ▸ M0.out : LM w _ y b w1.heap.size w2.heap.size w4.heap.size w6.heap.size).below ((Below.refl _ _).alloc (by simp; omega) (.cells #[.string ⟨#[]⟩, .int .i64 0, .slice none 0 0] 27)))
  rw [hb9]
  clear L9 Z5 Z6 Z7 Z8 M0
  go_loopw [10] (fun i wr => ∃ (k : Nat) (v : Value) (xs : List Zn.Rule), i = .int .i64 k ∧ k ≤ 16 ∧ Hid (xs = manyR k) ∧ Hid (LM w wr y b w1.heap.size w2.heap.size w4.heap.size w6.heap.size) ∧ Hid (BlkAt wr b #[.string ⟨#[]⟩, .int .i64 0, v] 27) ∧ Hid (OwnL 23 7 eRule wr (b + 1) v xs)) (fun i _ => 16 - (intOf i).toNat)
  case atStart => exact ⟨0, _, [], rfl, by omega, Lib.hid rfl, M1, Lib.hid (blk_new (by simp; omega)), Lib.hid (OwnL.nil_ _ _)⟩
  case round =>
    clear M1 hb9
    obtain ⟨k, v, xs, rfl, hk, HX, HM, HZ, HO⟩ := hrel
    by_cases hlt : k < 16
    · have c2 : wr.cell? ⟨b, 2, none⟩ = some v := BlkAt.cell HZ.out rfl
      have hbw := BlkAt.lt_ HZ.out
      have hxl : xs.length = k := by rw [HX.out, manyR_len]
      have HXL := Lib.hid hxl
      have hyl : xs.length ≤ 900000 := by omega
      clear hxl
      have hk0 : (0 : Int) ≤ k := by omega
      have q2 : ∀ o, (wr.alloc o).cell? ⟨b, 2, none⟩ = some v := fun o => BlkAt.cell (BlkAt.alloc HZ.out o) rfl
      have e1 : (1980 : Int) + 2 * k = 1980 + 2 * k := rfl
      clear e1
      go_wp2_with (at_builtin; (refine wp_append_one kRule _ rfl _ _ rfl (b + 1) v xs rfl (HO.out.alloc _) wr.heap.size ⟨1980 + 2 * k, 1980 + 2 * k, 1, 1, (k : Int) % 7, 0, 60 * (k + 1)⟩ rfl (rule_new rfl) hyl (by simp; omega) ?_; intro gg cap w3 hO4 hB4 hg4 hgo hgz; have Z3 : BlkAt w3 b #[.string ⟨#[]⟩, .int .i64 0, v] 27 := BlkAt.below (BlkAt.alloc HZ.out _) hB4 (Nat.lt_succ_self b); have c3 : w3.cell? ⟨b, 2, none⟩ = some v := BlkAt.cell Z3 rfl; have f3 := BlkAt.free Z3 2; have HO4 := Lib.hid hO4; have HB4 := Lib.hid hB4; have HGO := Lib.hid hgo; have HZ3 := Lib.hid Z3; clear hO4 hB4 hg4 hgo Z3 q2))
      have hO4 := HO4.out
      have hB4 := HB4.out
      have Z3 := HZ3.out
      have hgB : gg ≠ b := by
        rcases HGO.out with h | h
        · have := (World.ownsRow.lt HO.out gg h).1; omega
        · simp at h; omega
      rw [HXL.out] at hO4 ⊢
      have HX5 : Hid (xs ++ [⟨1980 + 2 * (k : Int), 1980 + 2 * k, 1, 1, (k : Int) % 7, 0, 60 * (k + 1)⟩] = manyR (k + 1)) := Lib.hid (by rw [manyR_succ, HX.out])
      have hbl : Below b wr w3 := ((Below.refl b wr).alloc (by omega) _).trans (hB4.mono (by omega))
      have hO5 := Lib.hid (OwnL.other (u := .slice (some ⟨gg, 0, none⟩) (k + 1) cap) (i := 2) hO4 (g := b) (by simp [Value.ownBlock]; exact hgB))
      have HM5 := Lib.hid ((HM.out.below hbl).below ((Below.refl b w3).setCell (p := ⟨b, 2, none⟩) (by exact Nat.le_refl _) (.slice (some ⟨gg, 0, none⟩) (k + 1) cap)))
      have HZ5 := Lib.hid (BlkAt.set_ Z3 2 (.slice (some ⟨gg, 0, none⟩) (k + 1) cap))
      clear hO4 hB4 hgz hbl Z3 c2
      go_wp2_with fail
      go_roundw
      case rel => exact ⟨k + 1, _, _, by go_num, by omega, HX5, HM5, HZ5, hO5⟩
      case measure => simp [intOf]; omega
    · obtain rfl : k = 16 := by omega
      have hxl : xs.length = 16 := by rw [HX.out, manyR_len]
      rcases HO.out.row with ⟨-, h0⟩ | ⟨g, cap, hv, hgb, hgw, hcap, -⟩
      · rw [h0] at hxl; simp at hxl
      · obtain ⟨A9, c9, hv9, -, -, hLA⟩ := HO.out.shape
        rw [hv] at hv9
        have hA9 : A9 = some ⟨g, 0, none⟩ := (Value.slice.inj hv9).1.symm
        rw [hA9] at hLA
        rw [hxl] at hv
        subst hv
        have hMV := Lib.hid (⟨HZ.out, hLA⟩ : MV wr b g cap xs)
        have hbw := BlkAt.lt_ HZ.out
        obtain ⟨r0, hr0⟩ := get_ex (xs := xs) (i := 0) (by omega)
        have HR0 := Lib.hid hr0
        have HXL := Lib.hid hxl
        obtain ⟨d0, d1, d2⟩ := (show wr.cell? ⟨b, 0, none⟩ = some (.string ⟨#[]⟩) ∧ wr.cell? ⟨b, 1, none⟩ = some (.int .i64 0) ∧ wr.cell? ⟨b, 2, none⟩ = some (.slice (some ⟨g, 0, none⟩) 16 cap) from ⟨BlkAt.cell HZ.out rfl, BlkAt.cell HZ.out rfl, BlkAt.cell HZ.out rfl⟩)
        clear hLA hA9 hv9 hcap HO HZ hr0 hxl
        have Q1 : Q13 w y b w1.heap.size w2.heap.size w4.heap.size w6.heap.size g cap wr.heap.size xs (wr.alloc (.cells #[.string ⟨#[]⟩, .int .i64 0, .slice (some ⟨g, 0, none⟩) 16 cap] 27)) := ⟨hMV.out.after ((Below.refl _ _).alloc (Nat.le_refl _) _), HM.out.below ((Below.refl _ _).alloc (by omega) _), blk_new rfl, hbw, hgw⟩
        obtain ⟨x0, x1, x2, x3, x4, x5, x6⟩ := r0
        have S0 := Q1.reads HR0.out
        have S1 := Q1.drew.reads HR0.out
        unfold Rd13 at S0 S1
        simp only at S0 S1
        have hnil : ([] : List Zn.Rule).length + 16 = 16 := rfl
        go_upto_region 13 with fail
        go_cut [] (fun wx => Hid (R13 w y b w1.heap.size w2.heap.size w4.heap.size w6.heap.size g cap wr.heap.size xs wx))
        case first =>
          go_region_held3 (fun W => W.cell? ⟨b, 2, none⟩ = some (.slice (some ⟨g, 0, none⟩) 16 cap) ∧ W.cell? ⟨g, 0, none⟩ = some (.int .i64 x0) ∧ W.cell? ⟨g, 1, none⟩ = some (.int .i64 x1) ∧ W.cell? ⟨g, 2, none⟩ = some (.int .i64 x2) ∧ W.cell? ⟨g, 3, none⟩ = some (.int .i64 x3) ∧ W.cell? ⟨g, 4, none⟩ = some (.int .i64 x4) ∧ W.cell? ⟨g, 5, none⟩ = some (.int .i64 x5) ∧ W.cell? ⟨g, 6, none⟩ = some (.int .i64 x6))
            (first | exact S0 | exact S1 | assumption | exact hQ2.reads HR0.out | exact hQ.reads HR0.out | exact (hQ.alloc _).reads HR0.out | exact (Q1.alloc _).reads HR0.out | exact (Q1.drew.alloc _).reads HR0.out | exact (Q1.alloc _).drew.reads HR0.out | exact hQ2.stored _ HR0.out)
            (first | (refine step_append_k kRule _ (by rfl) (.const (.slice none 0 0)) (.tmp 63) (by rfl) (wr.heap.size + 1) (.slice none 0 0) [] (by rfl) (OwnL.nil_ _ _) g 0 16 cap xs (by exact HXL.out) (by omega) (by simp [Act.eval, Act.put]) (ra_cells (Q13.mv (by first | exact Q1 | exact Q1.drew | exact Q1.alloc _ | exact Q1.drew.alloc _ | exact (Q1.alloc _).drew)).ra) (by simp) (by simp) ?_; intro g2 cap2 w' hO1 hB1 hg1; have hQ := Q13.below (by first | exact Q1 | exact Q1.drew | exact Q1.alloc _ | exact Q1.drew.alloc _ | exact (Q1.alloc _).drew) hB1; rw [hnil] at hO1; (try (have hP : BlkAt w' (wr.heap.size + 1) #[.int .i64 x0, .int .i64 x1, .int .i64 x2, .int .i64 x3, .int .i64 x4, .int .i64 x5, .int .i64 x6] 23 := BlkAt.grown (row := none) (by first | exact blk_new (by simp) | exact BlkAt.drewN (blk_new (by simp)) 1) hg1 (by simp)))) | (refine step_append_one kRule _ (by rfl) (.tmp 64) (.tmp 69) (by rfl) (wr.heap.size + 1) (.slice (some ⟨g2, 0, none⟩) 16 cap2) xs (by simp [Act.eval, Act.put]) (by first | exact hO1 | exact hO1.alloc _) _ ⟨x0, x1, x2, x3, x4, x5, x6⟩ (by simp [Act.eval, Act.put]; rfl) (by first | exact rule_new rfl | exact rule_blk hP) (by have := HXL.out; omega) (by first | exact hQ.lt_ | exact (hQ.alloc _).lt_) ?_; intro v3 w'' hO2 hB2 hg2; obtain ⟨g3, c3, hv3⟩ := own_17 hO2 HXL.out; subst hv3; have hQ2 := Q13.below (by first | exact hQ | exact hQ.alloc _) hB2; have z2 : w''.cell? ⟨wr.heap.size, 2, none⟩ = some (.slice (some ⟨g, 0, none⟩) 16 cap) := BlkAt.cell hQ2.z rfl; have z3 := BlkAt.free hQ2.z 2))
          all_goals
            go_wp2_with fail
            go_meet
            exact Lib.hid (hQ2.done (ys := []) hO2 HR0.out HXL.out)
        case rest =>
          obtain ⟨g2, c2, ys, hMV2, hLM2, hZ2, hRA2, r, hrm, hys⟩ := hcut.out
          obtain ⟨wn, rfl⟩ : ∃ wn : World, wn = wc := ⟨_, rfl⟩
          have F0 : FN w y b w1.heap.size w2.heap.size w4.heap.size w6.heap.size wr.heap.size g2 c2 ys wn := ⟨hLM2, hZ2, hRA2, hbw⟩
          have hxs := HX.out
          obtain ⟨ts, htm, htl⟩ := many_trans
          rw [← hxs] at htm
          have okx : xs.all Zn.okR = true := List.all_eq_true.2 (fun r hr => manyR_fit r (by rw [← hxs]; exact hr))
          have oky : ys.all Zn.okR = true := by
            rw [hys, List.all_append, okx]; simp [List.all_eq_true.1 okx r hrm]
          have lny : ys.length = 17 := by rw [hys, List.length_append, HXL.out]; rfl
          have hyr : 2000 ≤ y ∧ y ≤ 2029 := ⟨y1, y2⟩
          have t5 := lim_one (y := y) (off := -64800) (o := 21599) hyr (by omega) (by omega) (by omega)
          rw [if_neg (by omega)] at t5
          have t6 := lim_one (y := y) (off := -64800) (o := 21600) hyr (by omega) (by omega) (by omega)
          rw [if_pos (by omega)] at t6
          have t7 := lim_two (y := y) (s := 7200) hyr (.inl rfl)
          rw [if_pos rfl] at t7
          have t8 := lim_two (y := y) (s := 10800) hyr (.inr rfl)
          rw [if_neg (by omega)] at t8
          have t11 : Zn.trans 0 ys = ([], 5) := by rw [hys, hxs]; exact more_trans r
          have i0 : I64 0 := ⟨by omega, by omega⟩
          have im : I64 (-64800) := ⟨by omega, by omega⟩
          have C0 := trans_is htm ⟨#[]⟩ (some ⟨g, 0, none⟩) 16 cap wn (zin_of F0.lm.ls.civ hMV2.ra HXL.out okx (by omega)) i0
          have FT := fun W => FN w y b w1.heap.size w2.heap.size w4.heap.size w6.heap.size wr.heap.size g2 c2 ys W
          have C5 := fun W (F : FN w y b w1.heap.size w2.heap.size w4.heap.size w6.heap.size wr.heap.size g2 c2 ys W) => check_is (off := -64800) (ts := _) (er := 0) (Prod.ext rfl t5) ⟨#[]⟩ (some ⟨w1.heap.size, 0, none⟩) 1 1 W (zin_of F.lm.ls.civ F.lm.z5.ra rfl (by simp [may_ok hyr]) (by omega)) im
          have C6 := fun W (F : FN w y b w1.heap.size w2.heap.size w4.heap.size w6.heap.size wr.heap.size g2 c2 ys W) => check_is (off := -64800) (ts := _) (er := 6) (Prod.ext rfl t6) ⟨#[]⟩ (some ⟨w2.heap.size, 0, none⟩) 1 1 W (zin_of F.lm.ls.civ F.lm.z6.ra rfl (by simp [may_ok hyr]) (by omega)) im
          have C7 := fun W (F : FN w y b w1.heap.size w2.heap.size w4.heap.size w6.heap.size wr.heap.size g2 c2 ys W) => check_is (off := 0) (ts := _) (er := 6) (Prod.ext rfl t7) ⟨#[]⟩ (some ⟨w4.heap.size, 0, none⟩) 2 2 W (zin_of F.lm.ls.civ F.lm.z7.ra rfl (by simp [may_ok hyr]) (by omega)) i0
          have C8 := fun W (F : FN w y b w1.heap.size w2.heap.size w4.heap.size w6.heap.size wr.heap.size g2 c2 ys W) => check_is (off := 0) (ts := _) (er := 0) (Prod.ext rfl t8) ⟨#[]⟩ (some ⟨w6.heap.size, 0, none⟩) 2 2 W (zin_of F.lm.ls.civ F.lm.z8.ra rfl (by simp [may_ok hyr]) (by omega)) i0
          have C9 := fun W (F : FN w y b w1.heap.size w2.heap.size w4.heap.size w6.heap.size wr.heap.size g2 c2 ys W) => check_is (off := 0) (er := 5) t11 ⟨#[]⟩ (some ⟨g2, 0, none⟩) 17 c2 W (zin_of F.lm.ls.civ F.ra lny oky (by omega)) i0
          have C10 := fun W (F : FN w y b w1.heap.size w2.heap.size w4.heap.size w6.heap.size wr.heap.size g2 c2 ys W) => check_is (off := 64801) (er := 1) far_trans ⟨#[]⟩ none 0 0 W (zin_of F.lm.ls.civ ListAt.nil_ rfl rfl (by omega)) ⟨by omega, by omega⟩
          rw [show GivesT ts 0 wn = GivesT ts 0 wn from rfl] at C0
          have H0 := Lib.hid C0
          have H5 := Lib.hid C5
          have H6 := Lib.hid C6
          have H7 := Lib.hid C7
          have H8 := Lib.hid C8
          have H9 := Lib.hid C9
          have H10 := Lib.hid C10
          have HTL := Lib.hid htl
          obtain ⟨d0, d1, d2⟩ := (show wn.cell? ⟨b, 0, none⟩ = some (.string ⟨#[]⟩) ∧ wn.cell? ⟨b, 1, none⟩ = some (.int .i64 0) ∧ wn.cell? ⟨b, 2, none⟩ = some (.slice (some ⟨g, 0, none⟩) 16 cap) from ⟨BlkAt.cell hMV2.zb rfl, BlkAt.cell hMV2.zb rfl, BlkAt.cell hMV2.zb rfl⟩)
          have HF0 := Lib.hid F0
          clear C0 C5 C6 C7 C8 C9 C10 htl F0 FT t5 t6 t7 t8 t11 hys hrm hxs htm okx oky lny hcut hMV2 hLM2 hZ2 hRA2 Q1 S0 S1 hnil
          go_wp2_with fail
          refine H0.out.mono ?_
          rintro e v0 ⟨At, ct, rfl, -, b0⟩
          rw [HTL.out]
          have F1 := Lib.hid (HF0.out.after b0)
          clear b0 d0 d1 d2 HF0
          obtain ⟨d0, d1, d2⟩ := ZBlk.cells F1.out.lm.z5.zb
          go_wp2_with fail
          refine (H5.out _ F1.out).mono ?_
          rintro e v2 ⟨rfl, bb⟩
          have F2 := Lib.hid (F1.out.after bb)
          clear bb d0 d1 d2 F1
          obtain ⟨d0, d1, d2⟩ := ZBlk.cells F2.out.lm.z6.zb
          go_wp2_with fail
          refine (H6.out _ F2.out).mono ?_
          rintro e v3 ⟨rfl, bb⟩
          have F3 := Lib.hid (F2.out.after bb)
          clear bb d0 d1 d2 F2
          obtain ⟨d0, d1, d2⟩ := ZBlk.cells F3.out.lm.z7.zb
          go_wp2_with fail
          refine (H7.out _ F3.out).mono ?_
          rintro e v4 ⟨rfl, bb⟩
          have F4 := Lib.hid (F3.out.after bb)
          clear bb d0 d1 d2 F3
          obtain ⟨d0, d1, d2⟩ := ZBlk.cells F4.out.lm.z8.zb
          go_wp2_with fail
          refine (H8.out _ F4.out).mono ?_
          rintro e v5 ⟨rfl, bb⟩
          have F5 := Lib.hid (F4.out.after bb)
          clear bb d0 d1 d2 F4
          obtain ⟨d0, d1, d2⟩ := ZBlk.cells F5.out.z
          go_wp2_with fail
          refine (H9.out _ F5.out).mono ?_
          rintro e v6 ⟨rfl, bb⟩
          have F6 := Lib.hid (F5.out.after bb)
          clear bb d0 d1 d2 F5
          go_wp2_with fail
          refine (H10.out _ F6.out).mono ?_
          rintro e v7 ⟨rfl, bb⟩
          have F7 := Lib.hid (F6.out.after bb)
          clear bb F6
          have HS := Lib.hid (sane_any _ F7.out.lm.ls.civ)
          go_wp2_with fail
          refine HS.out.mono ?_
          rintro e v9 ⟨rfl, b9⟩
          go_wp2_with fail
          go_ret
          exact ⟨rfl, bstep F7.out.lm.ls.bel b9⟩
end Go.Proofs.YtegnfmpbhindaaaDoor
