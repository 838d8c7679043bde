/- The package and its reference return the same, function by function. -/
import Derived.Test.YtnbfbkomgdnlnaaDoorCivR3
namespace Go.Proofs.YtnbfbkomgdnlnaaDoor
open Go.RowKit
set_option linter.unusedVariables false

/-- A call of f returns v, and changes nothing that was there. -/
def Gives (f : FuncId) (args : Array Value) (v : Value) : Prop := ∀ w : World, CivT w → Calls Tryd.prog f args w fun e w' => e = .returned v ∧ Below w.heap.size w w'
theorem Gives.at {f : FuncId} {args : Array Value} {v : Value} (h : Gives f args v) (w : World) (hT : CivT w) : Calls Tryd.prog f args w fun e w' => e = .returned v ∧ Below w.heap.size w w' := h w hT
theorem Gives.of {f : FuncId} {args : Array Value} {v : Value} (h : ∀ w : World, CivT w → Calls Tryd.prog f args w fun e w' => e = .returned v ∧ w = w') : Gives f args v := fun w hT =>
  (h w hT).mono fun e w' hh => ⟨hh.1, hh.2 ▸ Below.refl _ _⟩

theorem day_both (y m d : Int) (iy : I64 y) (im : I64 m) (id : I64 d) : ∃ v e : Int, Gives 9 #[.agg #[.int .i64 y, .int .i64 m, .int .i64 d]] (.tuple #[.int .i64 v, .int .i64 e]) ∧ Gives 10 #[.agg #[.int .i64 y, .int .i64 m, .int .i64 d]] (.tuple #[.int .i64 v, .int .i64 e]) := by
  by_cases hv : Civ.vld y m d
  · exact ⟨_, _, fun w hT => day_yes y m d w hT hv, fun w _ => rday_yes y m d w hv⟩
  · exact ⟨_, _, fun w hT => day_no y m d w hT iy im id hv, fun w _ => rday_no y m d w iy im id hv⟩
theorem week_both (y m d : Int) (iy : I64 y) (im : I64 m) (id : I64 d) : ∃ v k e : Int, Gives 13 #[.agg #[.int .i64 y, .int .i64 m, .int .i64 d]] (.tuple #[.int .i64 v, .int .i64 k, .int .i64 e]) ∧ Gives 14 #[.agg #[.int .i64 y, .int .i64 m, .int .i64 d]] (.tuple #[.int .i64 v, .int .i64 k, .int .i64 e]) := by
  by_cases hv : Civ.vld y m d
  · exact ⟨_, _, _, fun w hT => week_yes y m d _ w hT hv rfl, fun w _ => rweek_yes y m d _ w hv rfl⟩
  · exact ⟨_, _, _, fun w hT => week_no y m d w hT iy im id hv, fun w _ => rweek_no y m d w iy im id hv⟩
theorem nth_both (y m k v : Int) (iy : I64 y) (im : I64 m) : ∃ x e : Int, Gives 21 #[.int .i64 y, .int .i64 m, .int .i64 k, .int .i64 v] (.tuple #[.int .i64 x, .int .i64 e]) ∧ Gives 22 #[.int .i64 y, .int .i64 m, .int .i64 k, .int .i64 v] (.tuple #[.int .i64 x, .int .i64 e]) := by
  by_cases h : Civ.vld y m 1 ∧ 1 ≤ k ∧ k ≤ 5 ∧ 0 ≤ v ∧ v ≤ 6
  · exact ⟨_, _, fun w hT => nth_yes y m k v w hT h.1 h.2.1 h.2.2.1 h.2.2.2.1 h.2.2.2.2, fun w _ => rnth_yes y m k v w h.1 h.2.1 h.2.2.1 h.2.2.2.1 h.2.2.2.2⟩
  · exact ⟨_, _, fun w hT => nth_no y m k v w hT iy im h, fun w _ => rnth_no y m k v w iy im h⟩
theorem addm_both (y m d n : Int) (iy : I64 y) (im : I64 m) (id : I64 d) (i : I64 n) : ∃ a b c e : Int, Gives 11 #[.agg #[.int .i64 y, .int .i64 m, .int .i64 d], .int .i64 n] (.tuple #[.agg #[.int .i64 a, .int .i64 b, .int .i64 c], .int .i64 e]) ∧ Gives 12 #[.agg #[.int .i64 y, .int .i64 m, .int .i64 d], .int .i64 n] (.tuple #[.agg #[.int .i64 a, .int .i64 b, .int .i64 c], .int .i64 e]) := by
  by_cases h : Civ.vld y m d ∧ 1970 ≤ Civ.amY y m n ∧ Civ.amY y m n ≤ 2240
  · exact ⟨_, _, _, _, fun w hT => addm_yes y m d n w hT h.1 h.2.1 h.2.2, fun w _ => raddm_yes y m d n w h.1 h.2.1 h.2.2⟩
  · exact ⟨_, _, _, _, fun w hT => addm_no y m d n w hT iy im id i.1 i.2 h, fun w _ => raddm_no y m d n w iy im id i.1 i.2 h⟩
theorem date_both (n : Int) (i : I64 n) : ∃ a b c e : Int, Gives 23 #[.int .i64 n] (.tuple #[.agg #[.int .i64 a, .int .i64 b, .int .i64 c], .int .i64 e]) ∧ Gives 24 #[.int .i64 n] (.tuple #[.agg #[.int .i64 a, .int .i64 b, .int .i64 c], .int .i64 e]) := by
  by_cases h : 0 ≤ n ∧ n < 98981
  · obtain ⟨y, m, d, hv, hn⟩ := Civ.date_ex n h.1 h.2
    exact ⟨_, _, _, _, fun w hT => dateOf_yes y m d n w hT hv hn, fun w _ => rdateOf_yes y m d n w hv hn⟩
  · exact ⟨_, _, _, _, fun w hT => dateOf_no n w i (by omega), fun w _ => rdateOf_no n w i (by omega)⟩
theorem valid_both (y m d : Int) (iy : I64 y) (im : I64 m) (id : I64 d) : ∃ b : Bool, Gives 15 #[.agg #[.int .i64 y, .int .i64 m, .int .i64 d]] (.bool b) ∧ Gives 16 #[.agg #[.int .i64 y, .int .i64 m, .int .i64 d]] (.bool b) :=
  ⟨_, fun w hT => valid_any y m d w hT iy im id, fun w _ => rvalid_any y m d w iy im id⟩
theorem leap_both (y : Int) (iy : I64 y) : ∃ b : Bool, Gives 17 #[.int .i64 y] (.bool b) ∧ Gives 18 #[.int .i64 y] (.bool b) :=
  ⟨_, Gives.of fun w _ => leap_any y w iy.1 iy.2, Gives.of fun w _ => rleap_any y w⟩
theorem dim_both (y m : Int) (iy : I64 y) (im : I64 m) : ∃ b : Int, Gives 19 #[.int .i64 y, .int .i64 m] (.int .i64 b) ∧ Gives 20 #[.int .i64 y, .int .i64 m] (.int .i64 b) :=
  ⟨_, Gives.of fun w hT => dim_any y m w hT iy.1 iy.2 im.1 im.2, Gives.of fun w _ => rdim_any y m w im.1 im.2⟩
end Go.Proofs.YtnbfbkomgdnlnaaDoor
