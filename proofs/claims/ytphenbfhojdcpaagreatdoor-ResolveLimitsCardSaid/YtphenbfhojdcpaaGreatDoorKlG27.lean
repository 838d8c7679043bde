/- What stands while ResolveLimits builds its configuration: three blocks of the call's own, lists that are finished, a row that grows behind all of them. Regions that draw their order and end in several stores (XDg with a list of last ones): a condition on the world that is shown behind every operation but the last one, so that what the last one writes may be loaded. A copy's rows: a family of rows that a list is copied into one after another. -/
import Derived.Test.YtphenbfhojdcpaaGreatDoorKlG26
import Derived.Test.YtphenbfhojdcpaaGreatDoorKlG23
import Derived.Deep.RegionHeld3
import Derived.Deep.DrawnRows
import Derived.Laws.OwnMore
namespace Go.Proofs.YtphenbfhojdcpaaGreatDoor
open Go.RowKit
set_option linter.unusedVariables false
set_option linter.unusedSimpArgs false
set_option maxRecDepth 100000
/-- Blocks of the call's own up to hi, but for three. -/
def Sx (w : World) (hi b1 b2 b3 : Nat) (b : Nat) : Prop := w.heap.size ≤ b ∧ b < hi ∧ b ≠ b1 ∧ b ≠ b2 ∧ b ≠ b3
def FMv (F : (Nat → Prop) → World → Prop) : Prop := ∀ (S S' : Nat → Prop) (w w' : World), Mv S w S' w' → F S w → F S' w'
structure BS (w : World) (hi b1 : Nat) (c1 : Array Value) (b2 : Nat) (c2 : Array Value) (T2 : TypeId) (b3 : Nat) (c3 : Array Value) (T3 : TypeId) (F : (Nat → Prop) → World → Prop) (W : World) : Prop where
  base : Below w.heap.size w W
  k1 : BlkAt W b1 c1 27
  k2 : BlkAt W b2 c2 T2
  k3 : BlkAt W b3 c3 T3
  r1 : w.heap.size ≤ b1 ∧ b1 < hi
  r2 : w.heap.size ≤ b2 ∧ b2 < hi
  r3 : w.heap.size ≤ b3 ∧ b3 < hi
  le : hi ≤ W.heap.size
  fin : F (Sx w hi b1 b2 b3) W
section
variable {w W W' : World} {hi b1 b2 b3 : Nat} {c1 c2 c3 c1' c2' c3' : Array Value} {T2 T3 : TypeId} {F : (Nat → Prop) → World → Prop}
/-- A row behind all of it is written, blocks are made. -/
theorem BS.row (K : FMv F) (h : BS w hi b1 c1 b2 c2 T2 b3 c3 T3 F W) (hb : Below hi W W') : BS w hi b1 c1 b2 c2 T2 b3 c3 T3 F W' :=
  ⟨h.base.trans (hb.mono (Nat.le_of_lt (Nat.lt_of_le_of_lt h.r1.1 h.r1.2))), h.k1.below hb h.r1.2, h.k2.below hb h.r2.2, h.k3.below hb h.r3.2, h.r1, h.r2, h.r3, Nat.le_trans h.le hb.size, K _ _ _ _ ⟨hb.size, fun b hS _ => ⟨hb.block b hS.2.1, hS⟩⟩ h.fin⟩
theorem BS.below (K : FMv F) (h : BS w hi b1 c1 b2 c2 T2 b3 c3 T3 F W) (hb : Below W.heap.size W W') : BS w hi b1 c1 b2 c2 T2 b3 c3 T3 F W' := h.row K (hb.mono h.le)
theorem BS.alloc (K : FMv F) (h : BS w hi b1 c1 b2 c2 T2 b3 c3 T3 F W) (o : Obj) : BS w hi b1 c1 b2 c2 T2 b3 c3 T3 F (W.alloc o) := h.below K ((Below.refl _ _).alloc (Nat.le_refl _) _)
theorem BS.drew (K : FMv F) (h : BS w hi b1 c1 b2 c2 T2 b3 c3 T3 F W) : BS w hi b1 c1 b2 c2 T2 b3 c3 T3 F W.drew := h.below K (Below.refl _ _).drew
theorem blk_set {W : World} {b q i : Nat} {c c' : Array Value} {T : TypeId} {u : Value} (h : BlkAt W b c T) (hc : (b = q ∧ c' = c.setIfInBounds i u) ∨ (b ≠ q ∧ c' = c)) : BlkAt (W.setCell ⟨q, i, none⟩ u) b c' T := by
  rcases hc with ⟨rfl, rfl⟩ | ⟨hn, rfl⟩
  · exact h.set_ i u
  · exact h.grown (grown_set W q i u) (fun e => hn (Option.some.inj e))
theorem BS.set (K : FMv F) (h : BS w hi b1 c1 b2 c2 T2 b3 c3 T3 F W) (q i : Nat) (u : Value) (hq : q = b1 ∨ q = b2 ∨ q = b3) (h1 : (b1 = q ∧ c1' = c1.setIfInBounds i u) ∨ (b1 ≠ q ∧ c1' = c1)) (h2 : (b2 = q ∧ c2' = c2.setIfInBounds i u) ∨ (b2 ≠ q ∧ c2' = c2)) (h3 : (b3 = q ∧ c3' = c3.setIfInBounds i u) ∨ (b3 ≠ q ∧ c3' = c3)) :
    BS w hi b1 c1' b2 c2' T2 b3 c3' T3 F (W.setCell ⟨q, i, none⟩ u) := by
  have r1 := h.r1
  have r2 := h.r2
  have r3 := h.r3
  exact ⟨h.base.setCell (p := ⟨q, i, none⟩) (by show w.heap.size ≤ q; omega) u, blk_set h.k1 h1, blk_set h.k2 h2, blk_set h.k3 h3, r1, r2, r3, by simpa using h.le, K _ _ _ _ (Mv.set W q i u (fun hS => by
    rcases hq with rfl | rfl | rfl
    · exact hS.2.2.1 rfl
    · exact hS.2.2.2.1 rfl
    · exact hS.2.2.2.2 rfl)) h.fin⟩
end
/-- The lists that are finished. -/
structure FinL (zv pv mv yv ev : SV) (np nm ny ne : Nat) (m : Int) (S : Nat → Prop) (W : World) : Prop where
  zones : NestS 3 eZone ZoneS S W zv Rs.zonL
  people : NestS 6 ePers PersS S W pv ((List.range np).map Rs.persL)
  mem : LInS 1 eInt S W mv (Rs.memL m nm)
  lays : NestS 10 eLay LayS S W yv (Rs.laysL m ny)
  edits : LInS 5 eEdit S W ev (Rs.edisL ne)
theorem fmv (zv pv mv yv ev : SV) (np nm ny ne : Nat) (m : Int) : FMv (FinL zv pv mv yv ev np nm ny ne m) := fun S S' w w' mm h => ⟨h.zones.mv (ZoneS.mv mm) mm, h.people.mv (PersS.mv mm) mm, h.mem.mv mm, h.lays.mv (LayS.mv mm) mm, h.edits.mv mm⟩
/-- From the blocks up to hi to those up to a greater one. -/
theorem sx_mv {w W W' : World} {hi hi' b1 b2 b3 b1' b2' b3' : Nat} (hb : Below hi W W') (hh : hi ≤ hi') (h1 : ∀ b, b < hi → b = b1' → b = b1 ∨ b = b2 ∨ b = b3) (h2 : ∀ b, b < hi → b = b2' → b = b1 ∨ b = b2 ∨ b = b3) (h3 : ∀ b, b < hi → b = b3' → b = b1 ∨ b = b2 ∨ b = b3) : Mv (Sx w hi b1 b2 b3) W (Sx w hi' b1' b2' b3') W' :=
  ⟨hb.size, fun b hS _ => ⟨hb.block b hS.2.1, hS.1, by have := hS.2.1; omega, fun e => by
    rcases h1 b hS.2.1 e with h | h | h
    · exact hS.2.2.1 h
    · exact hS.2.2.2.1 h
    · exact hS.2.2.2.2 h, fun e => by
    rcases h2 b hS.2.1 e with h | h | h
    · exact hS.2.2.1 h
    · exact hS.2.2.2.1 h
    · exact hS.2.2.2.2 h, fun e => by
    rcases h3 b hS.2.1 e with h | h | h
    · exact hS.2.2.1 h
    · exact hS.2.2.2.1 h
    · exact hS.2.2.2.2 h⟩⟩
/-- Where an own row lies. -/
theorem OwnL.lt_rng {α : Type} {T : TypeId} {k : Nat} {e : α → Nat → Value} {w : World} {B : Nat} {v : Value} {l : List α} (h : OwnL T k e w B v l) : ∀ q, v.ownBlock = some q → B ≤ q ∧ q < w.heap.size := fun q hq => World.ownsRow.lt h q hq
/-- The rows of the loops. -/
def PLs (k : Nat) : List (Rs.Pers × SV) := (List.range k).map fun i => (Rs.persL i, noSV)
def YLs (m : Int) (mv : SV) (k : Nat) : List (Rs.Lay × SV × SV) := (List.range k).map fun i => (Rs.layL m i, mv, noSV)
def SLs (m : Int) (yv ev : SV) (k : Nat) : List (Rs.Sch × SV × SV) := (List.range k).map fun i => (Rs.schL m i, yv, ev)
theorem PLs_succ (k : Nat) : PLs (k + 1) = PLs k ++ [(Rs.persL k, noSV)] := by unfold PLs; rw [List.range_succ, List.map_append]; rfl
theorem YLs_succ (m : Int) (mv : SV) (k : Nat) : YLs m mv (k + 1) = YLs m mv k ++ [(Rs.layL m k, mv, noSV)] := by unfold YLs; rw [List.range_succ, List.map_append]; rfl
theorem SLs_succ (m : Int) (yv ev : SV) (k : Nat) : SLs m yv ev (k + 1) = SLs m yv ev k ++ [(Rs.schL m k, yv, ev)] := by unfold SLs; rw [List.range_succ, List.map_append]; rfl
theorem edis_succ (k : Nat) : Rs.edisL (k + 1) = Rs.edisL k ++ [Rs.ediL k] := by unfold Rs.edisL; rw [List.range_succ, List.map_append]; rfl
theorem mem_succ (m : Int) (k : Nat) : Rs.memL m (k + 1) = Rs.memL m k ++ [m] := by unfold Rs.memL; exact List.replicate_succ'
theorem PLs_len (k : Nat) : (PLs k).length = k := by simp [PLs]
theorem YLs_len (m : Int) (mv : SV) (k : Nat) : (YLs m mv k).length = k := by simp [YLs]
theorem SLs_len (m : Int) (yv ev : SV) (k : Nat) : (SLs m yv ev k).length = k := by simp [SLs]
theorem mem_len (m : Int) (k : Nat) : (Rs.memL m k).length = k := by simp [Rs.memL]
theorem PLs_fst (k : Nat) : (PLs k).map Prod.fst = (List.range k).map Rs.persL := by unfold PLs; rw [List.map_map]; rfl
theorem YLs_fst (m : Int) (mv : SV) (k : Nat) : (YLs m mv k).map Prod.fst = Rs.laysL m k := by unfold YLs; rw [List.map_map]; rfl
theorem SLs_fst (m : Int) (yv ev : SV) (k : Nat) : (SLs m yv ev k).map Prod.fst = Rs.schsL m k := by unfold SLs; rw [List.map_map]; rfl
end Go.Proofs.YtphenbfhojdcpaaGreatDoor
namespace Go.Proofs.YtphenbfhojdcpaaGreatDoor
open Go
set_option linter.unusedVariables false
section
variable {P : Program} {ops : Array Oper} {Q : Exit → Act → World → Prop} {md : Region.Mode} {S : World → Prop} {zs : List Nat}
/-- Whatever comes up: behind each operation but number z the world meets S. -/
def AnyQ (P : Program) (md : Region.Mode) (ops : Array Oper) (Q : Exit → Act → World → Prop) (S : World → Prop) (zs : List Nat) : Nat → Array Bool → Act → World → Prop
  | 0, l, a, w => Region.ready md ops l = [] ∧ Q .normal a w
  | k + 1, l, a, w => (Region.ready md ops l = [] → Q .normal a w) ∧ ∀ i ∈ Region.ready md ops l, wpOp P ops Q i (fun a' w' => (i ∈ zs ∨ S w') ∧ AnyQ P md ops Q S zs k (l.setIfInBounds i true) a' w') a w
theorem AnyQ.any : ∀ (k : Nat) (l : Array Bool) (a : Act) (w : World), AnyQ P md ops Q S zs k l a w → wpAny P md ops Q k l a w
  | 0, _, _, _, h => h
  | k + 1, _, _, _, h => ⟨h.1, fun i hi => wpOp_mono (fun a' w' h' => AnyQ.any k _ a' w' h'.2) (h.2 i hi)⟩
/-- Each number of the list waitsQ for number i, or for one of the list. -/
def waitsQ (md : Region.Mode) (ops : Array Oper) (i : Nat) (ch : List Nat) : Bool := ch.all fun j => match ops[j]? with | some o => o.after.any fun e => Region.binds md e && (e.on == i || ch.contains e.on) | none => false
def unlQ (l : Array Bool) (ch : List Nat) : Bool := ch.all fun j => !l.getD j true
theorem unlQ_getD {l : Array Bool} {j : Nat} (h : l.getD j true = false) : l.getD j false = false := by
  rcases Nat.lt_or_ge j l.size with h' | h'
  · simp [h'] at h ⊢; exact h
  · simp [Array.getElem?_eq_none h'] at h
/-- None of the list comes up before number i. -/
theorem waitsQ_spec {i : Nat} {ch : List Nat} {l : Array Bool} (hw : waitsQ md ops i ch = true) (hu : unlQ l ch = true) (hi : l.getD i true = false) {j : Nat} (hj : j ∈ Region.ready md ops l) (hji : j ≠ i) : j ∉ ch := by
  intro hc
  obtain ⟨h0, o, ho, hall⟩ := mem_ready.1 hj
  have h1 := List.all_eq_true.1 hw j hc
  rw [ho] at h1
  simp only [Bool.and_eq_true, Bool.or_eq_true, beq_iff_eq, List.contains_iff_mem, Array.any_eq_true] at h1
  obtain ⟨n, hn, hb, he⟩ := h1
  have h2 := hall _ (Array.getElem_mem hn) hb
  rcases he with he | he
  · rw [he, unlQ_getD hi] at h2; cases h2
  · have h3 := List.all_eq_true.1 hu _ he
    rw [unlQ_getD (by simpa using h3)] at h2
    cases h2
theorem AnyQ.first {i : Nat} {oi : Oper} {v : Value} {ch : List Nat} (hi : ops[i]? = some oi) (hsel : ∀ (j : Nat) (o : Oper) cs b, ops[j]? = some o → o.op ≠ .select cs b)
    (hQ : ∀ c a w, Q (.panic c) (a.put oi.dst v) w → Q (.panic c) a w) (hw : waitsQ md ops i ch = true) (hz : ∀ z ∈ zs, z ∈ ch) :
    ∀ (k : Nat) (l : Array Bool) (a : Act) (w : World),
      (∀ j oj, ops[j]? = some oj → j ≠ i → l.getD j true = false → (∀ e ∈ oj.after, Region.binds md e = true → e.on ≠ i) → oi.apart ops oj = true) →
      unlQ l ch = true → i ∈ Region.ready md ops l → YieldsIf P ops S oi v a → S w →
      AnyQ P md ops Q S zs k (l.setIfInBounds i true) (a.put oi.dst v) w → AnyQ P md ops Q S zs (k + 1) l a w := by
  intro k
  induction k with
  | zero =>
    intro l a w _ hu hr hy hS H
    refine ⟨fun h => (by rw [h] at hr; cases hr), fun j hj => ?_⟩
    by_cases hji : j = i
    · subst hji; exact hy.wpOp hi hS ⟨.inr hS, H⟩
    · have := ready_mono hj hji
      rw [H.1] at this
      cases this
  | succ k ih =>
    intro l a w hfree hu hr hy hS H
    refine ⟨fun h => (by rw [h] at hr; cases hr), fun j hj => ?_⟩
    by_cases hji : j = i
    · subst hji; exact hy.wpOp hi hS ⟨.inr hS, H⟩
    · have hli := (mem_ready.1 hr).1
      have hjc := waitsQ_spec hw hu hli hj hji
      have h1 := H.2 j (ready_mono hj hji)
      obtain ⟨hjun, oj, hoj, hall⟩ := mem_ready.1 hj
      have hnot : ∀ e ∈ oj.after, Region.binds md e = true → e.on ≠ i := fun e he hb heq => by
        have h3 := hall e he hb
        rw [heq, unlQ_getD hli] at h3
        cases h3
      have h2 := wpOp_putIf hoj (hfree j oj hoj hji hjun hnot) (fun cs b => hsel i oi cs b hi) (fun cs b => hsel j oj cs b hoj) hQ hy h1
      have hfree' : ∀ n on, ops[n]? = some on → n ≠ i → (l.setIfInBounds j true).getD n true = false → (∀ e ∈ on.after, Region.binds md e = true → e.on ≠ i) → oi.apart ops on = true := fun n on hn hni hun hno => by
        refine hfree n on hn hni ?_ hno
        by_cases hjn : j = n
        · subst hjn; exact hjun
        · rw [getD_set_ne true hjn] at hun; exact hun
      have hu' : unlQ (l.setIfInBounds j true) ch = true := by
        refine List.all_eq_true.2 fun n hn => ?_
        rw [getD_set_ne true (show j ≠ n from fun e => hjc (by rw [e]; exact hn))]
        exact List.all_eq_true.1 hu n hn
      refine wpOp_mono (fun a' w' h3 => ?_) h2
      obtain ⟨y1, y2, y3⟩ := h3
      have hSw : S w' := y2.resolve_left (fun e => hjc (hz _ e))
      refine ⟨.inr hSw, ih (l.setIfInBounds j true) a' w' hfree' hu' (ready_mono hr (Ne.symm hji)) y1 hSw ?_⟩
      rw [Array.setIfInBounds_comm _ _ hji]
      exact y3
/-- Number i is taken first; ch leads from it to the last one. -/
theorem AnyQ.take {i : Nat} {oi : Oper} {v : Value} (ch : List Nat) {k : Nat} {l : Array Bool} {a : Act} {w : World} (hi : ops[i]? = some oi)
    (hs : Region.noSelect ops = true) (hf : Region.free md ops l i = true) (hr : (Region.ready md ops l).contains i = true)
    (hw : (waitsQ md ops i ch && zs.all ch.contains && unlQ l ch) = true)
    (hQ : ∀ c a w, Q (.panic c) (a.put oi.dst v) w → Q (.panic c) a w) (hy : YieldsIf P ops S oi v a) (hS : S w)
    (h : AnyQ P md ops Q S zs k (l.setIfInBounds i true) (a.put oi.dst v) w) : AnyQ P md ops Q S zs (k + 1) l a w := by
  simp only [Bool.and_eq_true, List.all_eq_true, List.contains_iff_mem] at hw
  exact AnyQ.first hi (Region.noSelect_spec hs) hQ hw.1.1 hw.1.2 k l a w (Region.free_spec hi hf) hw.2 (by simpa using hr) hy hS h
/-- One alone may come up. -/
theorem AnyQ.one {i : Nat} {o : Oper} {k : Nat} {l : Array Bool} {a : Act} {w : World} (hr : Region.ready md ops l = [i]) (ho : ops[i]? = some o)
    (h : ∀ K' : Act → World → Prop, Shut (∀ a w, S w → (S w → AnyQ P md ops Q S zs k (l.setIfInBounds i true) a w) → K' a w) → if Region.wanted o (yielded ops a.tmps) = true then Oper.wp P o a w K' Q else K' (a.put o.dst undef) w) : AnyQ P md ops Q S zs (k + 1) l a w :=
  ⟨fun h0 => (by rw [hr] at h0; cases h0), fun j hj => by
    rw [hr] at hj
    obtain rfl : j = i := by simpa using hj
    exact wpOp_step ho (fun K' hK => h K' (fun a w hS hW => hK a w ⟨.inr hS, hW hS⟩))⟩
/-- One of the last ones comes up, alone. -/
theorem AnyQ.last {i : Nat} {o : Oper} {k : Nat} {l : Array Bool} {a : Act} {w : World} (hz : i ∈ zs) (hr : Region.ready md ops l = [i]) (ho : ops[i]? = some o)
    (h : ∀ K' : Act → World → Prop, Shut (∀ a w, AnyQ P md ops Q S zs k (l.setIfInBounds i true) a w → K' a w) → if Region.wanted o (yielded ops a.tmps) = true then Oper.wp P o a w K' Q else K' (a.put o.dst undef) w) : AnyQ P md ops Q S zs (k + 1) l a w :=
  ⟨fun h0 => (by rw [hr] at h0; cases h0), fun j hj => by
    rw [hr] at hj
    obtain rfl : j = i := by simpa using hj
    exact wpOp_step ho (fun K' hK => h K' (fun a w hW => hK a w ⟨.inl hz, hW⟩))⟩
/-- Behind the first of the last ones S is of no use: a number that yields in whatever world is taken. -/
theorem AnyQ.free {i : Nat} {oi : Oper} {v : Value} {k : Nat} {l : Array Bool} {a : Act} {w : World} (hr : Region.ready md ops l = [i]) (hi : ops[i]? = some oi) (hy : YieldsIf P ops (fun W => W = w) oi v a)
    (hz : i ∈ zs) (h : AnyQ P md ops Q S zs k (l.setIfInBounds i true) (a.put oi.dst v) w) : AnyQ P md ops Q S zs (k + 1) l a w :=
  ⟨fun h0 => (by rw [hr] at h0; cases h0), fun j hj => by
    rw [hr] at hj
    obtain rfl : j = i := by simpa using hj
    exact hy.wpOp hi rfl ⟨.inl hz, h⟩⟩
theorem AnyQ.done {l : Array Bool} {a : Act} {w : World} (hr : Region.ready md ops l = []) (h : Q .normal a w) : ∀ k, AnyQ P md ops Q S zs k l a w
  | 0 => ⟨hr, h⟩
  | _ + 1 => ⟨fun _ => h, by rw [hr]; simp⟩
theorem AnyQ.begin_ (zs : List Nat) {id : Nat} {a : Act} {w : World} (hm : P.follows .mixedOrders = true) (hS : S w.drew)
    (h : S w.drew → AnyQ P .any ops Q S zs ops.size (Array.replicate ops.size false) a w.drew) : (Code.region id ops true).wp P Q a w :=
  wp_region_any hm (AnyQ.any _ _ _ _ (h hS))
theorem AnyQ.mono {S' : World → Prop} (h : ∀ w, S' w → S w) : ∀ (k : Nat) (l : Array Bool) (a : Act) (w : World), AnyQ P md ops Q S' zs k l a w → AnyQ P md ops Q S zs k l a w
  | 0, _, _, _, h1 => h1
  | k + 1, _, _, _, h1 => ⟨h1.1, fun i hi => wpOp_mono (fun a' w' h' => ⟨h'.1.imp id (h w'), AnyQ.mono h k _ a' w' h'.2⟩) (h1.2 i hi)⟩
/-- The beginning, the world a letter. -/
theorem AnyQ.start (zs : List Nat) {A S : World → Prop} {id : Nat} {a : Act} {w : World} (hm : P.follows .mixedOrders = true) (hA : A w.drew) (hS : S w.drew)
    (h : ∀ W, A W → S W → AnyQ P .any ops Q S zs ops.size (Array.replicate ops.size false) a W) : (Code.region id ops true).wp P Q a w :=
  AnyQ.begin_ zs hm hS (fun _ => h _ hA hS)
/-- Behind an operation: the world a letter again; S may say more. -/
theorem AnyQ.go {A S S' : World → Prop} {K : Act → World → Prop} {k : Nat} {l : Array Bool} {a : Act} {w : World} (hK : Shut (∀ a w, S w → (S w → AnyQ P md ops Q S zs k l a w) → K a w)) (hSS : ∀ W, S' W → S W) (hA : A w) (hS : S' w)
    (h : ∀ W, A W → S' W → AnyQ P md ops Q S' zs k l a W) : K a w := hK.out a w (hSS w hS) (fun _ => AnyQ.mono hSS _ _ _ _ (h w hA hS))
/-- Each of several may come up next. -/
def AllQ (P : Program) (md : Region.Mode) (ops : Array Oper) (Q : Exit → Act → World → Prop) (S : World → Prop) (zs : List Nat) (k : Nat) (l : Array Bool) (a : Act) (w : World) (rs : List Nat) : Prop :=
  ∀ i ∈ rs, wpOp P ops Q i (fun a' w' => (i ∈ zs ∨ S w') ∧ AnyQ P md ops Q S zs k (l.setIfInBounds i true) a' w') a w
theorem AllQ.nil {k : Nat} {l : Array Bool} {a : Act} {w : World} : AllQ P md ops Q S zs k l a w [] := fun _ h => by cases h
theorem AllQ.cons {k : Nat} {l : Array Bool} {a : Act} {w : World} {i : Nat} {o : Oper} {rs : List Nat} (ho : ops[i]? = some o)
    (h : ∀ K' : Act → World → Prop, Shut (∀ a w, S w → (S w → AnyQ P md ops Q S zs k (l.setIfInBounds i true) a w) → K' a w) → if Region.wanted o (yielded ops a.tmps) = true then Oper.wp P o a w K' Q else K' (a.put o.dst undef) w)
    (hs : AllQ P md ops Q S zs k l a w rs) : AllQ P md ops Q S zs k l a w (i :: rs) := fun j hj => by
  rcases List.mem_cons.1 hj with rfl | hj
  · exact wpOp_step ho (fun K' hK => h K' (fun a w hS hW => hK a w ⟨.inr hS, hW hS⟩))
  · exact hs j hj
theorem AnyQ.ready {rs : List Nat} {k : Nat} {l : Array Bool} {a : Act} {w : World} (hr : Region.ready md ops l = rs) (hne : rs ≠ []) (h : AllQ P md ops Q S zs k l a w rs) : AnyQ P md ops Q S zs (k + 1) l a w :=
  ⟨fun h0 => absurd (hr ▸ h0) hne, fun i hi => h i (hr ▸ hi)⟩
end
end Go.Proofs.YtphenbfhojdcpaaGreatDoor
namespace Go.Proofs.YtphenbfhojdcpaaGreatDoor
open Go.RowKit
set_option linter.unusedVariables false
set_option linter.unusedSimpArgs false
set_option maxRecDepth 100000
deriving instance DecidableEq for Key
def upd (ρ : Key → Row) (κ : Key) (r : Row) : Key → Row := fun x => if x = κ then r else ρ x
theorem upd_same (ρ : Key → Row) (κ : Key) (r : Row) : upd ρ κ r κ = r := by unfold upd; simp
theorem upd_ne {ρ : Key → Row} {κ x : Key} (r : Row) (h : x ≠ κ) : upd ρ κ r x = ρ x := by unfold upd; simp [h]
def nilR : Row := ⟨3, 1, noSV, []⟩
theorem nilR_own (w : World) (lo : Nat) : nilR.own w lo := World.ownsRow_nil w lo _ 1
theorem Rows.nil_ (w : World) (lo : Nat) : Rows w lo (fun _ => nilR) := ⟨fun _ => nilR_own w lo, fun κ κ' g _ h => by cases h⟩
theorem Rows.put {w w' : World} {lo : Nat} {ρ : Key → Row} (κ : Key) (r : Row) (h : Rows w lo ρ) (hg : w.grownBy w' (sv (ρ κ).v).ownBlock) (ho : r.own w' lo) (hn : ∀ g, (sv r.v).ownBlock = some g → (sv (ρ κ).v).ownBlock = some g ∨ w.heap.size ≤ g) : Rows w' lo (upd ρ κ r) :=
  h.grow κ hg (by rw [upd_same]; exact ho) (fun g hg => hn g (by rw [upd_same] at hg; exact hg)) (fun x hx => upd_ne r hx)
theorem Rows.drop {w : World} {lo : Nat} {ρ : Key → Row} (κ : Key) (h : Rows w lo ρ) : Rows w lo (upd ρ κ nilR) := by
  refine ⟨fun x => ?_, fun x y g hne hx hy => ?_⟩
  · by_cases hx : x = κ
    · subst hx; rw [upd_same]; exact nilR_own w lo
    · rw [upd_ne _ hx]; exact h.own x
  · by_cases hx' : x = κ
    · subst hx'; rw [upd_same] at hx; cases hx
    · by_cases hy' : y = κ
      · subst hy'; rw [upd_same] at hy; cases hy
      · rw [upd_ne _ hx'] at hx; rw [upd_ne _ hy'] at hy
        exact h.sep x y g hne hx hy
section
variable {α : Type} {k : Nat} {e : α → Nat → Value}
/-- A list copied into a row of its own. -/
theorem Rows.add {w w' : World} {lo : Nat} {ρ : Key → Row} (κ : Key) (h : Rows w lo ρ) (hn : (ρ κ).v = noSV) {T : TypeId} {u : SV} {xs : List α} (ho : OwnL T k e w' lo (sv u) xs) (hl : xs.length = u.2.1) (hg : w.grownBy w' none) (hf : ∀ g, (sv u).ownBlock = some g → w.heap.size ≤ g) :
    Rows w' lo (upd ρ κ ⟨T, k, u, encK k e xs⟩) :=
  h.put κ _ (by rw [hn]; exact hg) (list_own ho hl) (fun g hg => .inr (hf g hg))
/-- A struct in a block of its own. -/
theorem Rows.new {w : World} {lo : Nat} {ρ : Key → Row} (κ : Key) (h : Rows w lo ρ) (hn : (ρ κ).v = noSV) (cs : Array Value) (T : TypeId) (hb : lo ≤ w.heap.size) :
    Rows (w.alloc (.cells cs T)) lo (upd ρ κ ⟨T, cs.size, (some ⟨w.heap.size, 0, none⟩, 1, 1), cs.toList⟩) :=
  h.put κ _ (by rw [hn]; exact grown_alloc (grown_refl _ _) _) (World.ownsRow_lit w cs 1 hb (by simp [maxLen]) (by show cs.size = 1 * cs.size; omega)) (fun g hg => .inr (by cases hg; exact Nat.le_refl _))
theorem Rows.cell {w : World} {lo : Nat} {ρ : Key → Row} (h : Rows w lo ρ) {κ : Key} {T : TypeId} {k g n cap : Nat} {cs : List Value} (he : ρ κ = ⟨T, k, (some ⟨g, 0, none⟩, n, cap), cs⟩) {j : Nat} (hj : j < n * k) : w.cell? ⟨g, j, none⟩ = cs[j]? := by
  have := h.own κ
  rw [he] at this
  exact World.ownsRow.cellAt this j hj
theorem Rows.free {w : World} {lo : Nat} {ρ : Key → Row} (h : Rows w lo ρ) {κ : Key} {T : TypeId} {k g n cap : Nat} {cs : List Value} (he : ρ κ = ⟨T, k, (some ⟨g, 0, none⟩, n, cap), cs⟩) (j : Nat) : w.frozen? ⟨g, j, none⟩ = false := by
  have := h.own κ
  rw [he] at this
  exact World.ownsRow.frozenAt this j
theorem Rows.list {w : World} {lo : Nat} {ρ : Key → Row} (h : Rows w lo ρ) {κ : Key} {T : TypeId} {v : SV} {xs : List α} (he : ρ κ = ⟨T, k, v, encK k e xs⟩) (hk : 0 < k) : OwnL T k e w lo (sv v) xs ∧ xs.length = v.2.1 := by
  have := h.own κ
  rw [he] at this
  exact own_list this hk
/-- append(nil, x...) where the order is drawn. -/
theorem step_copy {S T : TypeId} (K : KindOk S T k e)
    {ops : Array Oper} {o : Oper} {a : Act} {N : Act → World → Prop} {Q : Exit → Act → World → Prop} {E : Prop} (w : World) (hgd : o.guard = none) (x : Operand)
    (ho : o.op = .call { callee := .builtin .append, args := #[.const (.slice none 0 0), x], argTypes := #[S, S] }) (B : Nat) (v : SV) (xs : List α) (hx : a.eval x = .slice v.1 v.2.1 v.2.2) (hl : ListAt k e w v.1 xs) (hn : xs.length = v.2.1) (hne : v = noSV ∨ 0 < xs.length)
    (hlen : xs.length ≤ 900000) (hB : B ≤ w.heap.size)
    (h : ∀ (u1 : Option Addr) (u2 u3 : Nat) w', OwnL T k e w' B (.slice u1 u2 u3) xs → xs.length = u2 → w.grownBy w' none → (∀ g, (Value.slice u1 u2 u3).ownBlock = some g → w.heap.size ≤ g) → N (a.put o.dst (.slice u1 u2 u3)) w') :
    if Region.wanted o (yielded ops a.tmps) = true then Oper.wp Tryz.prog o a w N Q else E := by
  obtain ⟨i0, z, bytes, hi, hz0, hz1, hz2, hzz, hk2⟩ := K.info
  rcases hne with rfl | hpos
  · have hxs : xs = [] := List.length_eq_zero_iff.1 hn
    subst hxs
    have hr := run_append_owned_none (P := Tryz.prog) (w := w) B S o.type T i0 k K.under hi (.slice none 0 0) 0 [] (World.ownsRow_nil w B T k)
    have hw : Region.wanted o (yielded ops a.tmps) = true := by simp [Region.wanted, hgd]
    rw [if_pos hw]
    unfold Oper.wp execOp
    have hx' : a.eval x = .slice none 0 0 := hx
    have he : a.eval (.const (.slice none 0 0)) = .slice none 0 0 := rfl
    simp only [ho, resolve, invoke, builtin, Sem.run_bind, Sem.run_pure, Result.andThen_ok, List.map_toArray, List.map_cons, List.map_nil, he, hx', hr]
    exact h none 0 0 w (OwnL.nil_ w B) rfl (grown_refl _ _) (fun g hg => by cases hg)
  · obtain ⟨b, off, ea, hlt, hc⟩ := hl hpos
    obtain ⟨A, n, c⟩ := v
    simp only at ea hn hx
    subst ea
    refine step_append_lies w hgd (.const (.slice none 0 0)) x S ho B T i0 z k bytes K.under hi hz0 hz1 hz2 hzz K.pos (.slice none 0 0) 0 [] rfl (World.ownsRow_nil w B T k) ⟨b, off, none⟩ n c (encK k e xs) hx (by rw [encK_len, hn]) ?_ ?_ (by omega) (by simp only [maxLen]; omega) ?_ hB _ rfl ?_
    · intro j u hu
      obtain ⟨i, j', y, h1, h2, rfl, rfl⟩ := encK_inv hu
      rw [add_none, ← Nat.add_assoc]
      exact hc i y h1 j' h2
    · intro u hu
      simp only [encK, List.mem_flatMap, List.mem_map] at hu
      obtain ⟨y, _, j, _, rfl⟩ := hu
      exact K.one y j
    · have := Nat.mul_le_mul (show 0 + n ≤ 1000000 by omega) hk2
      omega
    · intro g cap w' h1 h2 h3 h4
      refine h (some ⟨g, 0, none⟩) (0 + n) cap w' ?_ (by omega) h2 (fun g' hg' => ?_)
      · unfold OwnL
        rw [hn]
        rw [Nat.zero_add] at h1 ⊢
        exact h1
      · rcases h3 with h3 | h3
        · cases h3
        · have e2 : some g = some g' := hg'
          cases e2
          omega
end
/-- What is copied of a schedule. -/
structure SCp where
  s : Rs.Sch × SV × SV
  ys : List (Rs.Lay × SV × SV)
  es : List Rs.Edit
def cpL (ρ : Key → Row) (xs : List SCp) (k : Nat) : List (Rs.Sch × SV × SV) := (xs.take k).mapIdx fun i x => (x.s.1, (ρ (.la i)).v, (ρ (.ed i)).v)
/-- The rows when k schedules have been copied; the copy lies in block bo. -/
structure Cp (bo : Nat) (zs : List (Rs.Zone × SV)) (ps : List (Rs.Pers × SV)) (cs : List (Rs.Cal × SV)) (xs : List SCp) (k : Nat) (ρ : Key → Row) : Prop where
  zn : ρ .zn = ⟨32, 3, (ρ .zn).v, encK 3 eZone zs⟩
  pe : ρ .pe = ⟨35, 6, (ρ .pe).v, encK 6 ePers ps⟩
  ca : ρ .ca = ⟨79, 3, (ρ .ca).v, encK 3 eCal cs⟩
  sc : ρ .sc = ⟨44, 3, (ρ .sc).v, encK 3 eSch (cpL ρ xs k)⟩
  out : ρ (.ru 0) = ⟨27, 4, (some ⟨bo, 0, none⟩, 1, 1), [sv (ρ .zn).v, sv (ρ .pe).v, sv (ρ .ca).v, sv (ρ .sc).v]⟩
  la : ∀ i x, xs[i]? = some x → i < k → ρ (.la i) = ⟨40, 10, (ρ (.la i)).v, encK 10 eLay x.ys⟩
  ed : ∀ i x, xs[i]? = some x → i < k → ρ (.ed i) = ⟨46, 5, (ρ (.ed i)).v, encK 5 eEdit x.es⟩
  no : ∀ i, k ≤ i → (ρ (.la i)).v = noSV ∧ (ρ (.ed i)).v = noSV
  s : (ρ (.ru 1)).v = noSV
section
variable {α : Type} {k : Nat} {e : α → Nat → Value}
/-- A list that may be copied. -/
def Src (k : Nat) (e : α → Nat → Value) (w : World) (v : SV) (xs : List α) : Prop := ListAt k e w v.1 xs ∧ xs.length = v.2.1 ∧ (v = noSV ∨ 0 < xs.length) ∧ xs.length ≤ 900000
theorem Src.at_ {w W : World} {v : SV} {xs : List α} (h : Src k e w v xs) (hb : Below w.heap.size w W) : ListAt k e W v.1 xs := fun h0 => by
  obtain ⟨b, off, ea, hlt, hc⟩ := h.1 h0
  exact ⟨b, off, ea, Nat.lt_of_lt_of_le hlt hb.size, fun i x hx j hj => (World.cell?_of_block (w := w) (a := ⟨b, off + i * k + j, none⟩) (hb.block b hlt)).trans (hc i x hx j hj)⟩
end
def cfN : Array Value := cfgA noSV noSV noSV noSV
/-- While a configuration is copied. -/
structure CpW (w : World) (a b c d : SV) (ρ : Key → Row) (W : World) : Prop where
  base : Below w.heap.size w W
  box : BlkAt W w.heap.size (cfgA a b c d) 27
  res : BlkAt W (w.heap.size + 1) cfN 27
  rows : Rows W (w.heap.size + 2) ρ
  le : w.heap.size + 2 ≤ W.heap.size
section
variable {w W W' : World} {a b c d : SV} {ρ ρ' : Key → Row}
theorem CpW.go (h : CpW w a b c d ρ W) {row : Option Nat} (hg : W.grownBy W' row) (hr : ∀ g, row = some g → w.heap.size + 2 ≤ g) (h' : Rows W' (w.heap.size + 2) ρ') : CpW w a b c d ρ' W' :=
  ⟨h.base.grown hg (by have := h.le; omega) (fun q hq => by have := hr q hq; omega), h.box.grown hg (fun e => by have := hr _ e.symm; omega), h.res.grown hg (fun e => by have := hr _ e.symm; omega), h', Nat.le_trans h.le hg.size⟩
theorem CpW.below (h : CpW w a b c d ρ W) (hb : Below W.heap.size W W') : CpW w a b c d ρ W' := h.go (row := none) (grown_then (grown_refl _ _) hb (Nat.le_refl _)) (fun g e => by cases e) (h.rows.below hb)
theorem CpW.drew (h : CpW w a b c d ρ W) : CpW w a b c d ρ W.drew := h.below (Below.refl _ _).drew
theorem CpW.alloc (h : CpW w a b c d ρ W) (o : Obj) : CpW w a b c d ρ (W.alloc o) := h.below ((Below.refl _ _).alloc (Nat.le_refl _) o)
theorem CpW.add {α : Type} {k : Nat} {e : α → Nat → Value} (h : CpW w a b c d ρ W) (κ : Key) (hn : (ρ κ).v = noSV) {T : TypeId} {u : SV} {xs : List α} (ho : OwnL T k e W' (w.heap.size + 2) (sv u) xs) (hl : xs.length = u.2.1) (hg : W.grownBy W' none) (hf : ∀ g, (sv u).ownBlock = some g → W.heap.size ≤ g) :
    CpW w a b c d (upd ρ κ ⟨T, k, u, encK k e xs⟩) W' := h.go hg (fun g e => by cases e) (h.rows.add κ hn ho hl hg hf)
theorem CpW.new (h : CpW w a b c d ρ W) (κ : Key) (hn : (ρ κ).v = noSV) (cs : Array Value) (T : TypeId) :
    CpW w a b c d (upd ρ κ ⟨T, cs.size, (some ⟨W.heap.size, 0, none⟩, 1, 1), cs.toList⟩) (W.alloc (.cells cs T)) := h.go (row := none) (grown_alloc (grown_refl _ _) _) (fun g e => by cases e) (h.rows.new κ hn cs T h.le)
theorem own_some {v : SV} {g : Nat} (h : v.1 = some ⟨g, 0, none⟩) : (sv v).ownBlock = some g := by
  unfold sv
  rw [h]
  rfl
theorem CpW.store (h : CpW w a b c d ρ W) (π : Key) {g : Nat} (ea : (ρ π).v.1 = some ⟨g, 0, none⟩) (j : Nat) (u : Value) : CpW w a b c d (upd ρ π ⟨(ρ π).T, (ρ π).k, (ρ π).v, (ρ π).cs.set j u⟩) (W.setCell ⟨g, j, none⟩ u) :=
  h.go (grown_set W g j u) (fun q hq => by cases hq; exact (Row.lt (h.rows.own π) (own_some ea)).1) (h.rows.store π ea (upd_same _ _ _) (fun x hx => upd_ne _ hx))
theorem CpW.put (h : CpW w a b c d ρ W) (κ : Key) (r : Row) (hg : W.grownBy W' (sv (ρ κ).v).ownBlock) (ho : r.own W' (w.heap.size + 2)) (hn : ∀ g, (sv r.v).ownBlock = some g → (sv (ρ κ).v).ownBlock = some g ∨ W.heap.size ≤ g) : CpW w a b c d (upd ρ κ r) W' :=
  h.go hg (fun q hq => (Row.lt (h.rows.own κ) hq).1) (h.rows.put κ r hg ho hn)
theorem CpW.drop (h : CpW w a b c d ρ W) (κ : Key) : CpW w a b c d (upd ρ κ nilR) W := ⟨h.base, h.box, h.res, h.rows.drop κ, h.le⟩
end
/-- The rows while the three short lists are copied. -/
def mkZ (rz rp rc ro : Row) : Key → Row := upd (upd (upd (upd (fun _ => nilR) .zn rz) .pe rp) .ca rc) (.ru 0) ro
section
variable (rz rp rc ro r : Row)
theorem mkZ_zn : upd (mkZ rz rp rc ro) .zn r = mkZ r rp rc ro := by funext x; unfold mkZ; by_cases h : x = .zn <;> (try subst h) <;> simp [upd, *]
theorem mkZ_pe : upd (mkZ rz rp rc ro) .pe r = mkZ rz r rc ro := by funext x; unfold mkZ; by_cases h : x = .pe <;> (try subst h) <;> simp [upd, *]
theorem mkZ_ca : upd (mkZ rz rp rc ro) .ca r = mkZ rz rp r ro := by funext x; unfold mkZ; by_cases h : x = .ca <;> (try subst h) <;> simp [upd, *]
theorem mkZ_ou : upd (mkZ rz rp rc ro) (.ru 0) r = mkZ rz rp rc r := by funext x; unfold mkZ; by_cases h : x = .ru 0 <;> (try subst h) <;> simp [upd, *]
theorem mkZ_get : mkZ rz rp rc ro .zn = rz ∧ mkZ rz rp rc ro .pe = rp ∧ mkZ rz rp rc ro .ca = rc ∧ mkZ rz rp rc ro (.ru 0) = ro ∧ mkZ rz rp rc ro .sc = nilR ∧ (∀ i, mkZ rz rp rc ro (.la i) = nilR) ∧ (∀ i, mkZ rz rp rc ro (.ed i) = nilR) ∧ mkZ rz rp rc ro (.ru 1) = nilR := by
  simp [mkZ, upd]
end
/-- The rows while schedule k is copied. -/
def mkR (ρ0 : Key → Row) (k : Nat) (ry re rs ro r1 : Row) : Key → Row := upd (upd (upd (upd (upd ρ0 (.la k) ry) (.ed k) re) .sc rs) (.ru 0) ro) (.ru 1) r1
section
variable (ρ0 : Key → Row) (k : Nat) (ry re rs ro r1 r : Row)
theorem mkR_la : upd (mkR ρ0 k ry re rs ro r1) (.la k) r = mkR ρ0 k r re rs ro r1 := by funext x; unfold mkR; by_cases h : x = .la k <;> (try subst h) <;> simp [upd, *]
theorem mkR_ed : upd (mkR ρ0 k ry re rs ro r1) (.ed k) r = mkR ρ0 k ry r rs ro r1 := by funext x; unfold mkR; by_cases h : x = .ed k <;> (try subst h) <;> simp [upd, *]
theorem mkR_sc : upd (mkR ρ0 k ry re rs ro r1) .sc r = mkR ρ0 k ry re r ro r1 := by funext x; unfold mkR; by_cases h : x = .sc <;> (try subst h) <;> simp [upd, *]
theorem mkR_ou : upd (mkR ρ0 k ry re rs ro r1) (.ru 0) r = mkR ρ0 k ry re rs r r1 := by funext x; unfold mkR; by_cases h : x = .ru 0 <;> (try subst h) <;> simp [upd, *]
theorem mkR_s : upd (mkR ρ0 k ry re rs ro r1) (.ru 1) r = mkR ρ0 k ry re rs ro r := by funext x; unfold mkR; by_cases h : x = .ru 1 <;> (try subst h) <;> simp [upd, *]
theorem mkR_get : mkR ρ0 k ry re rs ro r1 (.la k) = ry ∧ mkR ρ0 k ry re rs ro r1 (.ed k) = re ∧ mkR ρ0 k ry re rs ro r1 .sc = rs ∧ mkR ρ0 k ry re rs ro r1 (.ru 0) = ro ∧ mkR ρ0 k ry re rs ro r1 (.ru 1) = r1 := by
  simp [mkR, upd]
theorem mkR_far : (∀ i, i ≠ k → mkR ρ0 k ry re rs ro r1 (.la i) = ρ0 (.la i) ∧ mkR ρ0 k ry re rs ro r1 (.ed i) = ρ0 (.ed i)) ∧ mkR ρ0 k ry re rs ro r1 .zn = ρ0 .zn ∧ mkR ρ0 k ry re rs ro r1 .pe = ρ0 .pe ∧ mkR ρ0 k ry re rs ro r1 .ca = ρ0 .ca := by
  refine ⟨fun i hi => ?_, ?_, ?_, ?_⟩ <;> simp [mkR, upd, *]
theorem mkR_self : mkR ρ0 k (ρ0 (.la k)) (ρ0 (.ed k)) (ρ0 .sc) (ρ0 (.ru 0)) (ρ0 (.ru 1)) = ρ0 := by
  funext x
  by_cases h1 : x = .la k
  · subst h1; simp [mkR, upd]
  by_cases h2 : x = .ed k
  · subst h2; simp [mkR, upd]
  by_cases h3 : x = .sc
  · subst h3; simp [mkR, upd]
  by_cases h4 : x = .ru 0
  · subst h4; simp [mkR, upd]
  by_cases h5 : x = .ru 1
  · subst h5; simp [mkR, upd]
  simp [mkR, upd, *]
end
theorem cpL_len {ρ : Key → Row} {xs : List SCp} {k : Nat} (h : k ≤ xs.length) : (cpL ρ xs k).length = k := by simp [cpL]; omega
theorem cpL_succ {ρ ρ' : Key → Row} {xs : List SCp} {k : Nat} {x : SCp} (hx : xs[k]? = some x) (h : ∀ i, i < k → ρ' (.la i) = ρ (.la i) ∧ ρ' (.ed i) = ρ (.ed i)) : cpL ρ' xs (k + 1) = cpL ρ xs k ++ [(x.s.1, (ρ' (.la k)).v, (ρ' (.ed k)).v)] := by
  have hk : k < xs.length := (List.getElem?_eq_some_iff.1 hx).1
  refine List.ext_getElem? fun i => ?_
  unfold cpL
  rw [List.getElem?_mapIdx, List.getElem?_take]
  rcases Nat.lt_trichotomy i k with hi | rfl | hi
  · rw [if_pos (by omega), List.getElem?_append_left (by simp; omega), List.getElem?_mapIdx, List.getElem?_take, if_pos hi, (h i hi).1, (h i hi).2]
  · rw [if_pos (by omega), hx, List.getElem?_append_right (by simp; omega), show i - (List.mapIdx (fun i x => (x.s.1, (ρ (.la i)).v, (ρ (.ed i)).v)) (xs.take i)).length = 0 by simp; omega]
    rfl
  · rw [if_neg (by omega), List.getElem?_eq_none (by simp; omega)]
    rfl
theorem cp_zero {zs : List (Rs.Zone × SV)} {ps : List (Rs.Pers × SV)} {cs : List (Rs.Cal × SV)} {xs : List SCp} {bo : Nat} {u1 u2 u3 : SV} {W : World} {w : World} {a b c d : SV}
    (h : CpW w a b c d (mkZ ⟨32, 3, u1, encK 3 eZone zs⟩ ⟨35, 6, u2, encK 6 ePers ps⟩ ⟨79, 3, u3, encK 3 eCal cs⟩ ⟨27, 4, (some ⟨bo, 0, none⟩, 1, 1), [sv u1, sv u2, sv u3, sv noSV]⟩) W) :
    ∃ ρ, CpW w a b c d ρ W ∧ Cp bo zs ps cs xs 0 ρ := by
  refine ⟨upd _ .sc ⟨44, 3, noSV, []⟩, h.put .sc _ (by rw [(mkZ_get _ _ _ _).2.2.2.2.1]; exact grown_refl _ _) (World.ownsRow_nil _ _ _ 3) (fun g hg => by cases hg), ?_⟩
  obtain ⟨g1, g2, g3, g4, g5, g6, g7, g8⟩ := mkZ_get (⟨32, 3, u1, encK 3 eZone zs⟩ : Row) ⟨35, 6, u2, encK 6 ePers ps⟩ ⟨79, 3, u3, encK 3 eCal cs⟩ ⟨27, 4, (some ⟨bo, 0, none⟩, 1, 1), [sv u1, sv u2, sv u3, sv noSV]⟩
  constructor
  · rw [upd_ne _ (by simp), g1]
  · rw [upd_ne _ (by simp), g2]
  · rw [upd_ne _ (by simp), g3]
  · rw [upd_same]; simp [cpL, encK]
  · rw [upd_ne _ (by simp), upd_ne _ (by simp), upd_ne _ (by simp), upd_ne _ (by simp), upd_same, g1, g2, g3, g4]
  · intro i x _ hi; omega
  · intro i x _ hi; omega
  · intro i _
    rw [upd_ne _ (by simp), upd_ne _ (by simp), g6, g7]
    exact ⟨rfl, rfl⟩
  · rw [upd_ne _ (by simp), g8]; rfl
theorem cp_succ {zs : List (Rs.Zone × SV)} {ps : List (Rs.Pers × SV)} {cs : List (Rs.Cal × SV)} {xs : List SCp} {bo k : Nat} {ρ0 : Key → Row} {x : SCp} {vy ve vs : SV} (h : Cp bo zs ps cs xs k ρ0) (hx : xs[k]? = some x) :
    Cp bo zs ps cs xs (k + 1) (mkR ρ0 k ⟨40, 10, vy, encK 10 eLay x.ys⟩ ⟨46, 5, ve, encK 5 eEdit x.es⟩ ⟨44, 3, vs, encK 3 eSch (cpL ρ0 xs k ++ [(x.s.1, vy, ve)])⟩
      ⟨27, 4, (some ⟨bo, 0, none⟩, 1, 1), [sv (ρ0 .zn).v, sv (ρ0 .pe).v, sv (ρ0 .ca).v, sv vs]⟩ nilR) := by
  obtain ⟨ρ', hρ⟩ : ∃ ρ', mkR ρ0 k ⟨40, 10, vy, encK 10 eLay x.ys⟩ ⟨46, 5, ve, encK 5 eEdit x.es⟩ ⟨44, 3, vs, encK 3 eSch (cpL ρ0 xs k ++ [(x.s.1, vy, ve)])⟩
      ⟨27, 4, (some ⟨bo, 0, none⟩, 1, 1), [sv (ρ0 .zn).v, sv (ρ0 .pe).v, sv (ρ0 .ca).v, sv vs]⟩ nilR = ρ' := ⟨_, rfl⟩
  have hg := mkR_get ρ0 k ⟨40, 10, vy, encK 10 eLay x.ys⟩ ⟨46, 5, ve, encK 5 eEdit x.es⟩ ⟨44, 3, vs, encK 3 eSch (cpL ρ0 xs k ++ [(x.s.1, vy, ve)])⟩
      ⟨27, 4, (some ⟨bo, 0, none⟩, 1, 1), [sv (ρ0 .zn).v, sv (ρ0 .pe).v, sv (ρ0 .ca).v, sv vs]⟩ nilR
  have hf := mkR_far ρ0 k ⟨40, 10, vy, encK 10 eLay x.ys⟩ ⟨46, 5, ve, encK 5 eEdit x.es⟩ ⟨44, 3, vs, encK 3 eSch (cpL ρ0 xs k ++ [(x.s.1, vy, ve)])⟩
      ⟨27, 4, (some ⟨bo, 0, none⟩, 1, 1), [sv (ρ0 .zn).v, sv (ρ0 .pe).v, sv (ρ0 .ca).v, sv vs]⟩ nilR
  rw [hρ] at hg hf ⊢
  obtain ⟨g1, g2, g3, g4, g5⟩ := hg
  obtain ⟨f1, f2, f3, f4⟩ := hf
  have hl := cpL_succ (ρ := ρ0) (ρ' := ρ') hx (fun i hi => f1 i (by omega))
  rw [g1, g2] at hl
  constructor
  · rw [f2]; exact h.zn
  · rw [f3]; exact h.pe
  · rw [f4]; exact h.ca
  · rw [g3, hl]
  · rw [g4, f2, f3, f4, g3]
  · intro i y hy hi
    by_cases hik : i = k
    · subst hik
      rw [hx] at hy
      cases hy
      rw [g1]
    · rw [(f1 i hik).1]; exact h.la i y hy (by omega)
  · intro i y hy hi
    by_cases hik : i = k
    · subst hik
      rw [hx] at hy
      cases hy
      rw [g2]
    · rw [(f1 i hik).2]; exact h.ed i y hy (by omega)
  · intro i hi
    rw [(f1 i (by omega)).1, (f1 i (by omega)).2]
    exact h.no i (by omega)
  · rw [g5]; rfl
theorem mkZ_nil : mkZ nilR nilR nilR nilR = fun _ => nilR := by funext x; simp [mkZ, upd]
section
variable {w W W' : World} {a b c d : SV} {rz rp rc ro r1 ry re rs : Row} {ρ : Key → Row} {k0 : Nat}
section
variable {α : Type} {k : Nat} {e : α → Nat → Value} {T : TypeId} {u : SV} {xs : List α}
theorem CpW.zn (h : CpW w a b c d (mkZ nilR rp rc ro) W) (ho : OwnL T k e W' (w.heap.size + 2) (sv u) xs) (hl : xs.length = u.2.1) (hg : W.grownBy W' none) (hf : ∀ g, (sv u).ownBlock = some g → W.heap.size ≤ g) : CpW w a b c d (mkZ ⟨T, k, u, encK k e xs⟩ rp rc ro) W' := by
  rw [← mkZ_zn nilR rp rc ro]
  exact h.add .zn (by rw [(mkZ_get _ _ _ _).1]; rfl) ho hl hg hf
theorem CpW.pe (h : CpW w a b c d (mkZ rz nilR rc ro) W) (ho : OwnL T k e W' (w.heap.size + 2) (sv u) xs) (hl : xs.length = u.2.1) (hg : W.grownBy W' none) (hf : ∀ g, (sv u).ownBlock = some g → W.heap.size ≤ g) : CpW w a b c d (mkZ rz ⟨T, k, u, encK k e xs⟩ rc ro) W' := by
  rw [← mkZ_pe rz nilR rc ro]
  exact h.add .pe (by rw [(mkZ_get _ _ _ _).2.1]; rfl) ho hl hg hf
theorem CpW.ca (h : CpW w a b c d (mkZ rz rp nilR ro) W) (ho : OwnL T k e W' (w.heap.size + 2) (sv u) xs) (hl : xs.length = u.2.1) (hg : W.grownBy W' none) (hf : ∀ g, (sv u).ownBlock = some g → W.heap.size ≤ g) : CpW w a b c d (mkZ rz rp ⟨T, k, u, encK k e xs⟩ ro) W' := by
  rw [← mkZ_ca rz rp nilR ro]
  exact h.add .ca (by rw [(mkZ_get _ _ _ _).2.2.1]; rfl) ho hl hg hf
theorem CpW.la (h : CpW w a b c d (mkR ρ k0 ry re rs ro r1) W) (hn : ry.v = noSV) (ho : OwnL T k e W' (w.heap.size + 2) (sv u) xs) (hl : xs.length = u.2.1) (hg : W.grownBy W' none) (hf : ∀ g, (sv u).ownBlock = some g → W.heap.size ≤ g) : CpW w a b c d (mkR ρ k0 ⟨T, k, u, encK k e xs⟩ re rs ro r1) W' := by
  rw [← mkR_la ρ k0 ry re rs ro r1]
  exact h.add (.la k0) (by rw [(mkR_get _ _ _ _ _ _ _).1]; exact hn) ho hl hg hf
theorem CpW.ed (h : CpW w a b c d (mkR ρ k0 ry re rs ro r1) W) (hn : re.v = noSV) (ho : OwnL T k e W' (w.heap.size + 2) (sv u) xs) (hl : xs.length = u.2.1) (hg : W.grownBy W' none) (hf : ∀ g, (sv u).ownBlock = some g → W.heap.size ≤ g) : CpW w a b c d (mkR ρ k0 ry ⟨T, k, u, encK k e xs⟩ rs ro r1) W' := by
  rw [← mkR_ed ρ k0 ry re rs ro r1]
  exact h.add (.ed k0) (by rw [(mkR_get _ _ _ _ _ _ _).2.1]; exact hn) ho hl hg hf
theorem CpW.sc (h : CpW w a b c d (mkR ρ k0 ry re rs ro r1) W) (ho : OwnL T k e W' (w.heap.size + 2) (sv u) xs) (hl : xs.length = u.2.1) (hg : W.grownBy W' (sv rs.v).ownBlock) (hf : ∀ g, (sv u).ownBlock = some g → (sv rs.v).ownBlock = some g ∨ W.heap.size ≤ g) : CpW w a b c d (mkR ρ k0 ry re ⟨T, k, u, encK k e xs⟩ ro r1) W' := by
  rw [← mkR_sc ρ k0 ry re rs ro r1]
  exact h.put .sc _ (by rw [(mkR_get _ _ _ _ _ _ _).2.2.1]; exact hg) (list_own ho hl) (by rw [(mkR_get _ _ _ _ _ _ _).2.2.1]; exact hf)
end
theorem CpW.ou (h : CpW w a b c d (mkZ rz rp rc nilR) W) : CpW w a b c d (mkZ rz rp rc ⟨27, 4, (some ⟨W.heap.size, 0, none⟩, 1, 1), cfN.toList⟩) (W.alloc (.cells cfN 27)) := by
  have := h.new (.ru 0) (by rw [(mkZ_get _ _ _ _).2.2.2.1]; rfl) cfN 27
  rw [mkZ_ou] at this
  exact this
theorem CpW.ouset {T : TypeId} {k g n cap : Nat} {cs : List Value} (h : CpW w a b c d (mkZ rz rp rc ⟨T, k, (some ⟨g, 0, none⟩, n, cap), cs⟩) W) (j : Nat) (u : Value) : CpW w a b c d (mkZ rz rp rc ⟨T, k, (some ⟨g, 0, none⟩, n, cap), cs.set j u⟩) (W.setCell ⟨g, j, none⟩ u) := by
  have := h.store (.ru 0) (g := g) (by rw [(mkZ_get _ _ _ _).2.2.2.1]) j u
  rw [(mkZ_get _ _ _ _).2.2.2.1, mkZ_ou] at this
  exact this
theorem CpW.oset {T : TypeId} {k g n cap : Nat} {cs : List Value} (h : CpW w a b c d (mkR ρ k0 ry re rs ⟨T, k, (some ⟨g, 0, none⟩, n, cap), cs⟩ r1) W) (j : Nat) (u : Value) : CpW w a b c d (mkR ρ k0 ry re rs ⟨T, k, (some ⟨g, 0, none⟩, n, cap), cs.set j u⟩ r1) (W.setCell ⟨g, j, none⟩ u) := by
  have := h.store (.ru 0) (g := g) (by rw [(mkR_get _ _ _ _ _ _ _).2.2.2.1]) j u
  rw [(mkR_get _ _ _ _ _ _ _).2.2.2.1, mkR_ou] at this
  exact this
theorem CpW.sset {T : TypeId} {k g n cap : Nat} {cs : List Value} (h : CpW w a b c d (mkR ρ k0 ry re rs ro ⟨T, k, (some ⟨g, 0, none⟩, n, cap), cs⟩) W) (j : Nat) (u : Value) : CpW w a b c d (mkR ρ k0 ry re rs ro ⟨T, k, (some ⟨g, 0, none⟩, n, cap), cs.set j u⟩) (W.setCell ⟨g, j, none⟩ u) := by
  have := h.store (.ru 1) (g := g) (by rw [(mkR_get _ _ _ _ _ _ _).2.2.2.2]) j u
  rw [(mkR_get _ _ _ _ _ _ _).2.2.2.2, mkR_s] at this
  exact this
theorem CpW.sdrop (h : CpW w a b c d (mkR ρ k0 ry re rs ro r1) W) : CpW w a b c d (mkR ρ k0 ry re rs ro nilR) W := by
  have := h.drop (.ru 1)
  rw [mkR_s] at this
  exact this
theorem CpW.snew (h : CpW w a b c d ρ W) (hn : (ρ (.ru 1)).v = noSV) (k0 : Nat) (cs : Array Value) (T : TypeId) : CpW w a b c d (mkR ρ k0 (ρ (.la k0)) (ρ (.ed k0)) (ρ .sc) (ρ (.ru 0)) ⟨T, cs.size, (some ⟨W.heap.size, 0, none⟩, 1, 1), cs.toList⟩) (W.alloc (.cells cs T)) := by
  have := h.new (.ru 1) hn cs T
  rw [show upd ρ (.ru 1) _ = upd (mkR ρ k0 (ρ (.la k0)) (ρ (.ed k0)) (ρ .sc) (ρ (.ru 0)) (ρ (.ru 1))) (.ru 1) _ by rw [mkR_self], mkR_s] at this
  exact this
theorem CpW.zcell {T : TypeId} {k g n cap : Nat} {cs : List Value} (h : CpW w a b c d (mkZ rz rp rc ⟨T, k, (some ⟨g, 0, none⟩, n, cap), cs⟩) W) {j : Nat} (hj : j < n * k) : W.cell? ⟨g, j, none⟩ = cs[j]? ∧ W.frozen? ⟨g, j, none⟩ = false := by
  have he := (mkZ_get rz rp rc ⟨T, k, (some ⟨g, 0, none⟩, n, cap), cs⟩).2.2.2.1
  exact ⟨h.rows.cell he hj, h.rows.free he j⟩
theorem CpW.ocell {T : TypeId} {k g n cap : Nat} {cs : List Value} (h : CpW w a b c d (mkR ρ k0 ry re rs ⟨T, k, (some ⟨g, 0, none⟩, n, cap), cs⟩ r1) W) {j : Nat} (hj : j < n * k) : W.cell? ⟨g, j, none⟩ = cs[j]? ∧ W.frozen? ⟨g, j, none⟩ = false := by
  have he := (mkR_get ρ k0 ry re rs ⟨T, k, (some ⟨g, 0, none⟩, n, cap), cs⟩ r1).2.2.2.1
  exact ⟨h.rows.cell he hj, h.rows.free he j⟩
theorem CpW.scell {T : TypeId} {k g n cap : Nat} {cs : List Value} (h : CpW w a b c d (mkR ρ k0 ry re rs ro ⟨T, k, (some ⟨g, 0, none⟩, n, cap), cs⟩) W) {j : Nat} (hj : j < n * k) : W.cell? ⟨g, j, none⟩ = cs[j]? ∧ W.frozen? ⟨g, j, none⟩ = false := by
  have he := (mkR_get ρ k0 ry re rs ro ⟨T, k, (some ⟨g, 0, none⟩, n, cap), cs⟩).2.2.2.2
  exact ⟨h.rows.cell he hj, h.rows.free he j⟩
end
end Go.Proofs.YtphenbfhojdcpaaGreatDoor
