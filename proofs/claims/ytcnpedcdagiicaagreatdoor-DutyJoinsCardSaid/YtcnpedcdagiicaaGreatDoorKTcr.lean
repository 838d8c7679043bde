/- append of a list to a row of the call's own, as it runs; pagewatchlaw10.same of equal lists. -/
import Derived.Test.YtcnpedcdagiicaaGreatDoorKG20
import Derived.Test.YtcnpedcdagiicaaGreatDoorKG01
import Derived.Laws.OwnMore
set_option linter.unusedVariables false
set_option linter.unusedSimpArgs false
set_option maxRecDepth 100000
namespace Go.Proofs.YtcnpedcdagiicaaGreatDoor
open Go.RowKit
theorem run_app0 {P : Program} {w : World} {base : Nat} (t ty e : TypeId) (i : TypeInfo) (ht : P.underlying t = some (.slice e)) (hi : P.info? e = some i) {size : Nat} (v : Value) (n : Nat) (xs : List Value) (hown : w.ownsRow base e size v n xs) (A : Option Addr) (c : Nat) :
  (Builtin.append_ #[t, t] ty #[v, .slice A 0 c]).run P w = .ok v w := by
 rcases hown.2 with ⟨rfl, rfl⟩ | ⟨g, cap, cur, rfl, _, _, hnc, _⟩
 ·cases A <;> simp [Builtin.append_, run_underlying ht, sizeOf, typeInfo, hi, Builtin.lenOf, Builtin.firstCells, loadCells, loadCellsFrom]
 ·cases A <;> simp [Builtin.append_, run_underlying ht, sizeOf, typeInfo, hi, Builtin.lenOf, Builtin.firstCells, hnc, storeCells, loadCells, loadCellsFrom]
section
variable {α : Type} {k : Nat} {e : α → Nat → Value}
theorem run_app {S T : TypeId} (K : KindOk S T k e) (ty : TypeId) (w : World) (B : Nat) (v : Value) (ys : List α) (hown : OwnL T k e w B v ys) (A : Option Addr) (n c : Nat) (news : List α) (hl : ListAt k e w A news) (hn : news.length = n) (hlen : ys.length + n ≤ 1000000) (hB : B ≤ w.heap.size) :
  ∃ (A' : Option Addr) (c' : Nat) (w' : World), (Builtin.append_ #[S, S] ty #[v, .slice A n c]).run Tryz.prog w = .ok (.slice A' (ys.length + n) c') w' ∧ OwnL T k e w' B (.slice A' (ys.length + n) c') (ys ++ news) ∧ Below B w w' ∧ w.grownBy w' v.ownBlock ∧ (∀ g, (Value.slice A' (ys.length + n) c').ownBlock = some g → v.ownBlock = some g ∨ w.heap.size ≤ g) := by
 obtain ⟨i0, z, bytes, hi, hz0, hz1, hz2, hzz, hk2⟩ := K.info
 rcases Nat.eq_zero_or_pos n with h0 | hpos
 ·subst h0
  obtain rfl : news = [] := List.length_eq_zero_iff.1 hn
  have hr := run_app0 (P := Tryz.prog) S ty T i0 K.under hi v ys.length (encK k e ys) hown A c
  obtain ⟨A', c', rfl, -⟩ := hown.shape
  exact ⟨A', c', w, hr, by simpa using hown, Below.refl _ _, grown_refl _ _, fun g hg => .inl hg⟩
 ·obtain ⟨b, off, ea, hlt, hc⟩ := hl (by omega)
  subst ea
  obtain ⟨g, cap, w', h1, h2, h3, h4, h5⟩ := run_append_lies (P := Tryz.prog) w S ty B T i0 z k bytes K.under hi hz0 hz1 hz2 hzz K.pos v ys.length (encK k e ys) hown ⟨b, off, none⟩ n c (encK k e news) (by rw [encK_len, hn]) (fun j u hu => by
   obtain ⟨i, j', y, h1, h2, rfl, rfl⟩ := encK_inv hu
   rw [add_none, ← Nat.add_assoc]
   exact hc i y h1 j' h2) (fun u hu => by
   simp only [encK, List.mem_flatMap, List.mem_map] at hu
   obtain ⟨y, _, j, _, rfl⟩ := hu
   exact K.one y j) hpos (by simp only [maxLen]; omega) (by have := Nat.mul_le_mul hlen hk2; omega) hB _ rfl
  refine ⟨some ⟨g, 0, none⟩, cap, w', h1, ?_, (Below.refl B w).grown h3 hB (fun q hq => (World.ownsRow.lt hown q hq).1), h3, fun q hq => ?_⟩
  ·unfold OwnL
   rw [encK_app, List.length_append, hn]
   exact h2
  ·have e2 : some g = some q := hq
   cases e2
   rcases h4 with h4 | h4
   ·exact .inl h4
   ·exact .inr (by omega)
end
/-- The walk stops here. -/
def Stop (p : Prop) : Prop := p
theorem Stop.go {p : Prop} (h : Stop p) : p := h
theorem Stop.at {p : Prop} (h : p) : Stop p := h
/-- append, also behind a guard, where it is known how it runs. -/
theorem wp_app_run {P : Program} {ops : Array Oper} {rest : List Oper} {o : Oper} {a : Act} {Q : Exit → Act → World → Prop} {w w' : World} {S : TypeId} {v r u : Value} (s x : Operand) (hw : Region.wanted o (yielded ops a.tmps) = true)
  (ho : o.op = .call { callee := .builtin .append, args := #[s, x], argTypes := #[S, S] }) (hs : a.eval s = v) (hx : a.eval x = r) (hr : (Builtin.append_ #[S, S] o.type #[v, r]).run P w = .ok u w') (h : wpList P ops Q rest (a.put o.dst u) w') : wpList P ops Q (o :: rest) a w := by
 rw [wpList, if_pos hw]
 left
 unfold Oper.wp execOp
 simp only [ho, resolve, invoke, builtin, Sem.run_bind, Sem.run_pure, Result.andThen_ok, List.map_toArray, List.map_cons, List.map_nil, hs, hx, hr]
 exact h
end Go.Proofs.YtcnpedcdagiicaaGreatDoor
