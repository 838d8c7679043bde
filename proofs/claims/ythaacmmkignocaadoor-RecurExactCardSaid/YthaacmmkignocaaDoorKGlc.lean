/- copy within a row of elements of k cells. -/
import Derived.Test.YthaacmmkignocaaDoorKG01
import Derived.Laws.CopyOwn
namespace Go.Proofs.YthaacmmkignocaaDoor
open Go.RowKit
set_option linter.unusedVariables false
set_option linter.unusedSimpArgs false
section
variable {α : Type} {k : Nat} {e : α → Nat → Value} {T : TypeId}
theorem run_copy_k (w : World) (dT sT ty elem : TypeId) (k : Nat) (g o dLen dCap : Nat) (a : Addr) (sLen sCap : Nat) (cur : Array Value) (t : TypeId) (cs : List Value)
    (hu : Tryd.prog.underlying dT = some (.slice elem)) {i : TypeInfo} (hi : Tryd.prog.info? elem = some i) (hk : i.size = k)
    (hg : w.heap[g]? = some (.cells cur t (0, 0))) (hn : cs.length = Nat.min sLen dLen * k)
    (hsrc : ∀ j v, cs[j]? = some v → w.cell? (a.add j) = some v) (hfit : o + cs.length ≤ cur.size) (h1 : ∀ v ∈ cs, v.oneCell' = true) :
    (Builtin.copy_ #[dT, sT] ty #[.slice (some ⟨g, o, none⟩) dLen dCap, .slice (some a) sLen sCap]).run Tryd.prog w =
      .ok (goInt (Nat.min sLen dLen)) (w.setRow g (cur.toList.take o ++ cs ++ cur.toList.drop (o + cs.length)).toArray) := by
  have hl := run_loadCells_list (P := Tryd.prog) w a cs hsrc
  have hst := run_storeCells_at Tryd.prog g o t cs 0 cur w hg (by simpa using hfit) h1
  rw [hn] at hl
  simp [Builtin.copy_, run_underlying hu, Builtin.lenOf, Builtin.firstCells, sizeOf, typeInfo, hi, hk, hl, hst]
theorem run_copy_zero (w : World) (dT sT ty elem : TypeId) (dp sp : Option Addr) (dLen dCap sLen sCap : Nat) (hu : Tryd.prog.underlying dT = some (.slice elem)) {i : TypeInfo} (hi : Tryd.prog.info? elem = some i) (h0 : Nat.min sLen dLen = 0) :
    (Builtin.copy_ #[dT, sT] ty #[.slice dp dLen dCap, .slice sp sLen sCap]).run Tryd.prog w = .ok (goInt 0) w := by
  cases sp <;> cases dp <;> simp [Builtin.copy_, run_underlying hu, Builtin.lenOf, Builtin.firstCells, sizeOf, typeInfo, hi, h0, loadCells, loadCellsFrom, storeCells]
/-- copy within a row that the call owns, at a step of a region that draws its order. -/
theorem step_copy_own {S : TypeId} (K : KindOk S T k e) {ops : Array Oper} {o : Oper} {a : Act} {N : Act → World → Prop} {Q : Exit → Act → World → Prop} {E : Prop} (w : World) (hgd : o.guard = none) (d s : Operand)
    (ho : o.op = .call { callee := .builtin .copy, args := #[d, s], argTypes := #[S, S] }) (B g n cap : Nat) (xs : List α) (hown : OwnL T k e w B (.slice (some ⟨g, 0, none⟩) n cap) xs)
    (dp sp : Option Addr) (dLen dCap sLen sCap : Nat) (hd : a.eval d = .slice dp dLen dCap) (hs : a.eval s = .slice sp sLen sCap) (m di si : Nat) (hm : Nat.min sLen dLen = m)
    (hpos : 0 < m → dp = some ⟨g, di * k, none⟩ ∧ sp = some ⟨g, si * k, none⟩) (h1 : di + m ≤ xs.length) (h2 : si + m ≤ xs.length)
    (h : ∀ w', OwnL T k e w' B (.slice (some ⟨g, 0, none⟩) n cap) (xs.take di ++ ((xs.drop si).take m ++ xs.drop (di + m))) → w.grownBy w' (some g) → N (a.put o.dst (goInt m)) w') :
    if Region.wanted o (yielded ops a.tmps) = true then Oper.wp Tryd.prog o a w N Q else E := by
  have hw : Region.wanted o (yielded ops a.tmps) = true := by simp [Region.wanted, hgd]
  rw [if_pos hw]
  obtain ⟨i0, z, bytes, hi, hz0, hz1, hz2, hzz, hk2⟩ := K.info
  rcases Nat.eq_zero_or_pos m with h0 | h0
  · subst h0
    have hrun := run_copy_zero w S S o.type T dp sp dLen dCap sLen sCap K.under hi hm
    unfold Oper.wp
    simp [execOp, ho, resolve, invoke, builtin, hd, hs, hrun, Result.andThen]
    refine h w ?_ (World.grownBy.refl w _)
    rw [List.take_zero, List.nil_append, Nat.add_zero, List.take_append_drop]
    exact hown
  · obtain ⟨rfl, rfl⟩ := hpos h0
    rcases hown.2 with ⟨hv, -⟩ | ⟨g', cap', cur, hv, hB, hg, hc1, hc2, hc3, hc4⟩
    · cases hv
    cases hv
    -- the row's cells: the list's, then the rest
    obtain ⟨rest, hrest⟩ : ∃ rest, cur.toList = encK k e xs ++ rest := ⟨cur.toList.drop (xs.length * k), by rw [← hc4, List.take_append_drop]⟩
    have e1 : xs = xs.take di ++ xs.drop di := (List.take_append_drop _ _).symm
    have e2 : xs = xs.take (di + m) ++ xs.drop (di + m) := (List.take_append_drop _ _).symm
    have l1 : (encK k e (xs.take di)).length = di * k := by rw [encK_len, List.length_take, Nat.min_eq_left (by omega)]
    have l2 : (encK k e (xs.take (di + m))).length = di * k + m * k := by rw [encK_len, List.length_take, Nat.min_eq_left (by omega), Nat.add_mul]
    have t1 : cur.toList.take (di * k) = encK k e (xs.take di) := by
      rw [hrest]
      conv => lhs; rw [e1, encK_app, List.append_assoc]
      exact List.take_left' l1
    have t2 : cur.toList.drop (di * k + m * k) = encK k e (xs.drop (di + m)) ++ rest := by
      rw [hrest]
      conv => lhs; rw [e2, encK_app, List.append_assoc]
      exact List.drop_left' l2
    have lm : ((xs.drop si).take m).length = m := by rw [List.length_take, List.length_drop]; omega
    have lcs : (encK k e ((xs.drop si).take m)).length = m * k := by rw [encK_len, lm]
    have hfit : di * k + (encK k e ((xs.drop si).take m)).length ≤ cur.size := by
      rw [lcs, hc3, ← Nat.add_mul]
      exact Nat.mul_le_mul_right k (by omega)
    have hrun := run_copy_k w S S o.type T k g (di * k) dLen dCap ⟨g, si * k, none⟩ sLen sCap cur T (encK k e ((xs.drop si).take m)) K.under hi hz1 hg (by rw [lcs, hm]) (fun j u hu => by
      obtain ⟨i, j', y, q1, q2, rfl, rfl⟩ := encK_inv hu
      rw [add_none]
      have hi' : i < m := by have := (List.getElem?_eq_some_iff.1 q1).1; rw [lm] at this; exact this
      rw [List.getElem?_take, if_pos hi', List.getElem?_drop] at q1
      have hsi : si + i < xs.length := by omega
      have hle : (si + i) * k + k ≤ xs.length * k := by have := Nat.mul_le_mul_right k hsi; rw [Nat.succ_mul] at this; exact this
      have := (World.ownsRow.cellAt hown ((si + i) * k + j') (by omega)).trans (encK_get xs (si + i) j' y q1 q2)
      rw [Nat.add_mul] at this
      rw [← Nat.add_assoc]
      exact this) hfit (fun u hu => by
      simp only [encK, List.mem_flatMap, List.mem_map] at hu
      obtain ⟨y, _, j, _, rfl⟩ := hu
      exact K.one y j)
    rw [hm] at hrun
    unfold Oper.wp
    simp only [ho, execOp, resolve, invoke, builtin, Sem.run_bind, Sem.run_pure, Result.andThen_ok, List.map_toArray, List.map_cons, List.map_nil, hd, hs, hrun]
    refine h _ ?_ ⟨rfl, rfl, rfl, by simp [World.setRow], fun j hj hne => setRow_other w g j _ (fun e => hne (by rw [e]))⟩
    have lx : (xs.take di ++ ((xs.drop si).take m ++ xs.drop (di + m))).length = xs.length := by
      rw [List.length_append, List.length_append, lm, List.length_take, List.length_drop]; omega
    have le2 : (encK k e (xs.take di ++ ((xs.drop si).take m ++ xs.drop (di + m)))).length = xs.length * k := by rw [encK_len, lx]
    unfold OwnL
    rw [lx]
    refine ⟨le2, .inr ⟨g, cap, _, rfl, hB, setRow_heap w g cur _ T _ hg, by omega, hc2, ?_, ?_⟩⟩
    · have := congrArg List.length hrest
      simp only [List.size_toArray, List.length_append, lcs, List.length_take, List.length_drop, Array.length_toList]
      omega
    · rw [lcs, t1, t2]
      simp only [List.toList_toArray]
      have : encK k e (xs.take di) ++ encK k e ((xs.drop si).take m) ++ (encK k e (xs.drop (di + m)) ++ rest) = encK k e (xs.take di ++ ((xs.drop si).take m ++ xs.drop (di + m))) ++ rest := by
        rw [encK_app, encK_app]; simp
      rw [this]
      exact List.take_left' le2
end
end Go.Proofs.YthaacmmkignocaaDoor
