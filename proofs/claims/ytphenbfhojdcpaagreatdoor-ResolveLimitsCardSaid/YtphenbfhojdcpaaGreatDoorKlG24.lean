/- Package resolve: the table of the actions (a map from the keyword to a function value). Plain facts: the lists of a configuration stay of a size and fit while it is built; what Form says of a person's options. Package resolve: what the statement with each keyword does. The five keywords of law08's examples. Made by gen_small.py. -/
import Derived.Test.YtphenbfhojdcpaaGreatDoorKlG15
import Derived.Maps.OwnSet
import Derived.Laws.EntriesVeiled
import Derived.Test.YtphenbfhojdcpaaGreatDoorKlScf
import Derived.Test.YtphenbfhojdcpaaGreatDoorKlScb
import Derived.Test.YtphenbfhojdcpaaGreatDoorKlScg
import Derived.Test.YtphenbfhojdcpaaGreatDoorKlG21
namespace Go.Proofs.YtphenbfhojdcpaaGreatDoor
open Go.RowKit
open Go.Maps (Keyed string_keyed)
set_option linter.unusedVariables false
set_option linter.unusedSimpArgs false
set_option maxRecDepth 100000
/-- A function value reads as itself. -/
def actR (v : Value) : Option (DataW Value × List MemPlace) := some (.held v, [])
/-- Block M is the table so far; the boxes bs hold their numbers; nothing of w0 has turned. -/
structure Acts (w0 w : World) (M n : Nat) (D : DataW Value) (bs : List (Nat × Int)) : Prop where
  lo : M = w0.heap.size
  bel : Below w0.heap.size w0 w
  own : w.ownsMap Tryz.prog 9 actR M n D
  box : ∀ p ∈ bs, M < p.1 ∧ p.1 < w.heap.size ∧ w.cell? ⟨p.1, 0, none⟩ = some (.int .i64 p.2)
theorem Acts.new (w0 : World) : Acts w0 (w0.alloc (.map #[] 0)) w0.heap.size 0 (.map []) [] :=
  ⟨rfl, (Below.refl _ w0).alloc (Nat.le_refl _) _, World.ownsMap_made w0 _ _ _, fun p hp => by cases hp⟩
theorem cell_of_block {w w' : World} {g i : Nat} {v : Value} (h : w'.heap[g]? = w.heap[g]?) (hc : w.cell? ⟨g, i, none⟩ = some v) : w'.cell? ⟨g, i, none⟩ = some v := by
  unfold World.cell? at hc ⊢
  rw [h]
  exact hc
theorem Acts.ins {w0 w w' : World} {M n n' : Nat} {D D' : DataW Value} {bs : List (Nat × Int)} (h : Acts w0 w M n D bs) (ht : w.mapTurned w' M) (ho : w'.ownsMap Tryz.prog 9 actR M n' D') : Acts w0 w' M n' D' bs := by
  have hg := ht.grown
  refine ⟨h.lo, ⟨hg.os.trans h.bel.os, hg.tape.trans h.bel.tape, hg.output.trans h.bel.output, Nat.le_trans h.bel.size hg.size, fun k hk => ?_⟩, ho, fun p hp => ?_⟩
  · have hs := h.bel.size
    have hl := h.lo
    exact (hg.block k (by omega) (by intro e; cases e; omega)).trans (h.bel.block k hk)
  · obtain ⟨h1, h2, h3⟩ := h.box p hp
    exact ⟨h1, Nat.lt_of_lt_of_le h2 hg.size, cell_of_block (hg.block p.1 h2 (by intro e; cases e; omega)) h3⟩
theorem Acts.boxed {w0 w : World} {M n : Nat} {D : DataW Value} {bs : List (Nat × Int)} (h : Acts w0 w M n D bs) (m : Int) : Acts w0 (w.alloc (.cells #[.int .i64 m] 3)) M n D ((w.heap.size, m) :: bs) := by
  have hg := World.grownBy_alloc w (.cells #[.int .i64 m] 3) none
  refine ⟨h.lo, h.bel.alloc h.bel.size _, h.own.alloc _, fun p hp => ?_⟩
  rcases List.mem_cons.1 hp with rfl | hp
  · have hh := (MapKept.heap_alloc w (.cells #[.int .i64 m] 3)).1
    refine ⟨h.own.lt, (Array.getElem?_eq_some_iff.1 hh).1, ?_⟩
    unfold World.cell?
    simp only
    rw [hh]
    rfl
  · obtain ⟨h1, h2, h3⟩ := h.box p hp
    exact ⟨h1, Nat.lt_of_lt_of_le h2 hg.size, cell_of_block (hg.block p.1 h2 (by simp)) h3⟩
theorem wpList_act {w0 : World} (w : World) {ops : Array Oper} {rest : List Oper} {o : Oper} {a : Act} {Q : Exit → Act → World → Prop} (hg : o.guard = none) (m x v : Operand) (hop : o.op = Op.insert 109 m x v) (M n : Nat) (D : DataW Value) (bs : List (Nat × Int)) (h : Acts w0 w M n D bs) (hn : n < 100)
    (hm : a.eval m = .map (some M)) (s : ByteArray) (hs : s.size ≤ 100) (val : Value) (hx : a.eval x = .string s) (hv : a.eval v = val)
    (hK : ∀ w', Acts w0 w' M (n + 1) (D.put (.string s.data.toList) (.held val)) bs → wpList Tryz.prog ops Q rest (a.put o.dst undef) w') :
    wpList Tryz.prog ops Q (o :: rest) a w := by
  refine wpList_plain hg fun K' hK' => ?_
  have hmax : (100 : Nat) < maxLen := by decide
  have hs2 : s.size ≤ maxLen := by omega
  obtain ⟨w', hrun, r1, r2⟩ := h.own.store (string_keyed Tryz.underlying9) Tryz.underlying109 (by omega) (WideMaps.keyOf_string_mk Tryz.underlying9 hs2) (show actR val = some (.held val, []) from rfl)
  unfold Oper.wp
  simp [execOp, hop, hm, hx, hv, hrun, Result.andThen]
  exact hK' _ _ (hK w' (h.ins r2 r1))
theorem useCalF_is (m : Int) (w : World) : Calls Tryz.prog 95 #[.int .i64 m] w fun e w' => e = .returned (.func (.func 136) #[] #[.pointer (some ⟨w.heap.size, 0, none⟩)]) ∧ w' = w.alloc (.cells #[.int .i64 m] 3) := by
  go_enter Tryz.func95, Tryz.ntmps95
  go_wp2_with fail
  go_ret
  exact ⟨rfl, rfl⟩
theorem addEditF_is (m : Int) (w : World) : Calls Tryz.prog 96 #[.int .i64 m] w fun e w' => e = .returned (.func (.func 137) #[] #[.pointer (some ⟨w.heap.size, 0, none⟩)]) ∧ w' = w.alloc (.cells #[.int .i64 m] 3) := by
  go_enter Tryz.func96, Tryz.ntmps96
  go_wp2_with fail
  go_ret
  exact ⟨rfl, rfl⟩
def tblD (g1 g2 g3 g4 g5 : Nat) : DataW Value :=
  (DataW.put (DataW.put (DataW.put (DataW.put (DataW.put (DataW.put (DataW.put (DataW.put (DataW.put (DataW.put (DataW.put (DataW.put (DataW.put (DataW.put (DataW.put (.map [] : DataW Value) (.string [122, 111, 110, 101]) (.held (.func (.func 85) #[] #[]))) (.string [114, 117, 108, 101]) (.held (.func (.func 86) #[] #[]))) (.string [112, 101, 114, 115, 111, 110]) (.held (.func (.func 87) #[] #[]))) (.string [113, 117, 105, 101, 116]) (.held (.func (.func 88) #[] #[]))) (.string [99, 97, 108, 101, 110, 100, 97, 114]) (.held (.func (.func 89) #[] #[]))) (.string [100, 97, 121, 115]) (.held (.func (.func 90) #[] #[]))) (.string [115, 99, 104, 101, 100, 117, 108, 101]) (.held (.func (.func 91) #[] #[]))) (.string [108, 97, 121, 101, 114]) (.held (.func (.func 92) #[] #[]))) (.string [109, 101, 109, 98, 101, 114]) (.held (.func (.func 93) #[] #[]))) (.string [111, 110]) (.held (.func (.func 94) #[] #[]))) (.string [110, 111, 116]) (.held (.func (.func 136) #[] #[.pointer (some ⟨g1, 0, none⟩)]))) (.string [111, 110, 108, 121]) (.held (.func (.func 136) #[] #[.pointer (some ⟨g2, 0, none⟩)]))) (.string [108, 101, 97, 118, 101]) (.held (.func (.func 137) #[] #[.pointer (some ⟨g3, 0, none⟩)]))) (.string [111, 118, 101, 114, 114, 105, 100, 101]) (.held (.func (.func 137) #[] #[.pointer (some ⟨g4, 0, none⟩)]))) (.string [115, 119, 97, 112]) (.held (.func (.func 137) #[] #[.pointer (some ⟨g5, 0, none⟩)])))
/-- What the table holds. -/
def tblL (g1 g2 g3 g4 g5 : Nat) : List (List UInt8 × Value) :=
  [([122, 111, 110, 101], .func (.func 85) #[] #[]), ([114, 117, 108, 101], .func (.func 86) #[] #[]), ([112, 101, 114, 115, 111, 110], .func (.func 87) #[] #[]), ([113, 117, 105, 101, 116], .func (.func 88) #[] #[]), ([99, 97, 108, 101, 110, 100, 97, 114], .func (.func 89) #[] #[]), ([100, 97, 121, 115], .func (.func 90) #[] #[]), ([115, 99, 104, 101, 100, 117, 108, 101], .func (.func 91) #[] #[]), ([108, 97, 121, 101, 114], .func (.func 92) #[] #[]), ([109, 101, 109, 98, 101, 114], .func (.func 93) #[] #[]), ([111, 110], .func (.func 94) #[] #[]), ([110, 111, 116], .func (.func 136) #[] #[.pointer (some ⟨g1, 0, none⟩)]), ([111, 110, 108, 121], .func (.func 136) #[] #[.pointer (some ⟨g2, 0, none⟩)]), ([108, 101, 97, 118, 101], .func (.func 137) #[] #[.pointer (some ⟨g3, 0, none⟩)]), ([111, 118, 101, 114, 114, 105, 100, 101], .func (.func 137) #[] #[.pointer (some ⟨g4, 0, none⟩)]), ([115, 119, 97, 112], .func (.func 137) #[] #[.pointer (some ⟨g5, 0, none⟩)])]
/-- The finished table: a map block, and the boxes of its five closures. -/
structure TblAt (w : World) (lo M g1 g2 g3 g4 g5 : Nat) : Prop where
  own : w.ownsMap Tryz.prog 9 actR M 15 (tblD g1 g2 g3 g4 g5)
  hM : M < lo
  l1 : g1 < lo
  l2 : g2 < lo
  l3 : g3 < lo
  l4 : g4 < lo
  l5 : g5 < lo
  b1 : w.cell? ⟨g1, 0, none⟩ = some (.int .i64 1)
  b2 : w.cell? ⟨g2, 0, none⟩ = some (.int .i64 2)
  b3 : w.cell? ⟨g3, 0, none⟩ = some (.int .i64 0)
  b4 : w.cell? ⟨g4, 0, none⟩ = some (.int .i64 1)
  b5 : w.cell? ⟨g5, 0, none⟩ = some (.int .i64 2)
theorem ownsMap_block {P : Program} {k : TypeId} {R : Value → Option (DataW Value × List MemPlace)} {w w' : World} {b n : Nat} {D : DataW Value} (h : w.ownsMap P k R b n D) (hb : w'.heap[b]? = w.heap[b]?) : w'.ownsMap P k R b n D := by
  obtain ⟨es, clock, h1, h2, h3, h4⟩ := h
  exact ⟨es, clock, hb.trans h1, h2, h3, h4⟩
theorem TblAt.stay {w w' : World} {lo M g1 g2 g3 g4 g5 bc : Nat} (h : TblAt w lo M g1 g2 g3 g4 g5) (hb : But bc lo w w') (n0 : M ≠ bc) (n1 : g1 ≠ bc) (n2 : g2 ≠ bc) (n3 : g3 ≠ bc) (n4 : g4 ≠ bc) (n5 : g5 ≠ bc) : TblAt w' lo M g1 g2 g3 g4 g5 :=
  ⟨ownsMap_block h.own (hb.block M h.hM n0), h.hM, h.l1, h.l2, h.l3, h.l4, h.l5, cell_of_block (hb.block g1 h.l1 n1) h.b1, cell_of_block (hb.block g2 h.l2 n2) h.b2, cell_of_block (hb.block g3 h.l3 n3) h.b3, cell_of_block (hb.block g4 h.l4 n4) h.b4, cell_of_block (hb.block g5 h.l5 n5) h.b5⟩
theorem tblD_at {g1 g2 g3 g4 g5 : Nat} {x : List UInt8} {v : Value} (hx : (x, v) ∈ tblL g1 g2 g3 g4 g5) (zd : DataW Value) : (tblD g1 g2 g3 g4 g5).atKey (.string x) zd = .held v ∧ x.length ≤ 100 := by
  simp only [tblL, List.mem_cons, List.not_mem_nil, or_false, Prod.mk.injEq] at hx
  rcases hx with ⟨rfl, rfl⟩ | ⟨rfl, rfl⟩ | ⟨rfl, rfl⟩ | ⟨rfl, rfl⟩ | ⟨rfl, rfl⟩ | ⟨rfl, rfl⟩ | ⟨rfl, rfl⟩ | ⟨rfl, rfl⟩ | ⟨rfl, rfl⟩ | ⟨rfl, rfl⟩ | ⟨rfl, rfl⟩ | ⟨rfl, rfl⟩ | ⟨rfl, rfl⟩ | ⟨rfl, rfl⟩ | ⟨rfl, rfl⟩ <;> exact ⟨by kernel_rfl, by decide⟩
theorem TblAt.look {w : World} {lo M g1 g2 g3 g4 g5 : Nat} (h : TblAt w lo M g1 g2 g3 g4 g5) {x : List UInt8} {v : Value} (hx : (x, v) ∈ tblL g1 g2 g3 g4 g5) : (Instr.lookup 109 (.map (some M)) (.string ⟨x.toArray⟩) false).run Tryz.prog w = .ok v w := by
  have hmax : (100 : Nat) < maxLen := by decide
  have hs : (⟨x.toArray⟩ : ByteArray).size ≤ maxLen := by have := (tblD_at hx .nil).2; simp only [ByteArray.size, List.size_toArray]; omega
  obtain ⟨v', ps, hrun, hv⟩ := h.own.lookup (string_keyed Tryz.underlying9) Tryz.underlying109 (show (zeroValue 113).run Tryz.prog w = .ok .nilFunc w from rfl) (show actR .nilFunc = some (.held .nilFunc, []) from rfl) (WideMaps.keyOf_string_mk Tryz.underlying9 hs)
  have e := (tblD_at hx (.held .nilFunc)).1
  unfold actR at hv
  simp only [Option.some.injEq, Prod.mk.injEq] at hv
  have e2 := hv.1
  rw [e] at e2
  cases e2
  exact hrun
set_option maxHeartbeats 4000000 in
theorem actions_is (w : World) : Calls Tryz.prog 57 #[] w fun e w' => ∃ g1 g2 g3 g4 g5, e = .returned (.map (some w.heap.size)) ∧ Below w.heap.size w w' ∧ TblAt w' w'.heap.size w.heap.size g1 g2 g3 g4 g5 ∧ w.heap.size < g1 ∧ w.heap.size < g2 ∧ w.heap.size < g3 ∧ w.heap.size < g4 ∧ w.heap.size < g5 := by
  have hmm := @run_makeMap Tryz.prog
  have h0 := Acts.new w
  go_enter Tryz.func57, Tryz.ntmps57
  go_wp2_with (refine wpList_act _ rfl _ _ _ rfl _ _ _ _ h0 (by omega) rfl _ (by decide) _ rfl rfl ?_)
  intro w1 h1
  go_wp2_with (refine wpList_act _ rfl _ _ _ rfl _ _ _ _ h1 (by omega) rfl _ (by decide) _ rfl rfl ?_)
  intro w2 h2
  go_wp2_with (refine wpList_act _ rfl _ _ _ rfl _ _ _ _ h2 (by omega) rfl _ (by decide) _ rfl rfl ?_)
  intro w3 h3
  go_wp2_with (refine wpList_act _ rfl _ _ _ rfl _ _ _ _ h3 (by omega) rfl _ (by decide) _ rfl rfl ?_)
  intro w4 h4
  go_wp2_with (refine wpList_act _ rfl _ _ _ rfl _ _ _ _ h4 (by omega) rfl _ (by decide) _ rfl rfl ?_)
  intro w5 h5
  go_wp2_with (refine wpList_act _ rfl _ _ _ rfl _ _ _ _ h5 (by omega) rfl _ (by decide) _ rfl rfl ?_)
  intro w6 h6
  go_wp2_with (refine wpList_act _ rfl _ _ _ rfl _ _ _ _ h6 (by omega) rfl _ (by decide) _ rfl rfl ?_)
  intro w7 h7
  go_wp2_with (refine wpList_act _ rfl _ _ _ rfl _ _ _ _ h7 (by omega) rfl _ (by decide) _ rfl rfl ?_)
  intro w8 h8
  go_wp2_with (refine wpList_act _ rfl _ _ _ rfl _ _ _ _ h8 (by omega) rfl _ (by decide) _ rfl rfl ?_)
  intro w9 h9
  go_wp2_with (refine wpList_act _ rfl _ _ _ rfl _ _ _ _ h9 (by omega) rfl _ (by decide) _ rfl rfl ?_)
  intro w10 h10
  go_wp2_with fail
  refine (useCalF_is _ w10).mono ?_
  rintro e v10 ⟨rfl, rfl⟩
  have k10 := h10.boxed 1
  go_wp2_with (refine wpList_act _ rfl _ _ _ rfl _ _ _ _ k10 (by omega) rfl _ (by decide) _ rfl rfl ?_)
  intro w11 h11
  go_wp2_with fail
  refine (useCalF_is _ w11).mono ?_
  rintro e v11 ⟨rfl, rfl⟩
  have k11 := h11.boxed 2
  go_wp2_with (refine wpList_act _ rfl _ _ _ rfl _ _ _ _ k11 (by omega) rfl _ (by decide) _ rfl rfl ?_)
  intro w12 h12
  go_wp2_with fail
  refine (addEditF_is _ w12).mono ?_
  rintro e v12 ⟨rfl, rfl⟩
  have k12 := h12.boxed 0
  go_wp2_with (refine wpList_act _ rfl _ _ _ rfl _ _ _ _ k12 (by omega) rfl _ (by decide) _ rfl rfl ?_)
  intro w13 h13
  go_wp2_with fail
  refine (addEditF_is _ w13).mono ?_
  rintro e v13 ⟨rfl, rfl⟩
  have k13 := h13.boxed 1
  go_wp2_with (refine wpList_act _ rfl _ _ _ rfl _ _ _ _ k13 (by omega) rfl _ (by decide) _ rfl rfl ?_)
  intro w14 h14
  go_wp2_with fail
  refine (addEditF_is _ w14).mono ?_
  rintro e v14 ⟨rfl, rfl⟩
  have k14 := h14.boxed 2
  go_wp2_with (refine wpList_act _ rfl _ _ _ rfl _ _ _ _ k14 (by omega) rfl _ (by decide) _ rfl rfl ?_)
  intro w15 h15
  go_wp2_with fail
  go_ret
  have q1 := h15.box _ (show (w10.heap.size, (1 : Int)) ∈ _ by simp)
  have q2 := h15.box _ (show (w11.heap.size, (2 : Int)) ∈ _ by simp)
  have q3 := h15.box _ (show (w12.heap.size, (0 : Int)) ∈ _ by simp)
  have q4 := h15.box _ (show (w13.heap.size, (1 : Int)) ∈ _ by simp)
  have q5 := h15.box _ (show (w14.heap.size, (2 : Int)) ∈ _ by simp)
  exact ⟨w10.heap.size, w11.heap.size, w12.heap.size, w13.heap.size, w14.heap.size, rfl, h15.bel, ⟨h15.own, h15.own.lt, q1.2.1, q2.2.1, q3.2.1, q4.2.1, q5.2.1, q1.2.2, q2.2.2, q3.2.2, q4.2.2, q5.2.2⟩, q1.1, q2.1, q3.1, q4.1, q5.1⟩
end Go.Proofs.YtphenbfhojdcpaaGreatDoor
namespace Go.Proofs.YtphenbfhojdcpaaGreatDoor
set_option linter.unusedSimpArgs false
set_option linter.unusedVariables false
theorem pos_fit (x : List UInt8) (l : List (List UInt8)) (first : Int) (h1 : 0 ≤ first) (h2 : first ≤ 1) (hl : l.length ≤ 12) : I64 (Sy.posS x l first).1 := by
  unfold Sy.posS
  have := Sy.idx_bd x l 0
  unfold I64
  split
  · simp
  · simp only; omega
theorem nm_fit {l : List Lx.Tk} (hI : ∀ t ∈ l, I64 t.2.2) (i : Nat) : I64 (Rs.nm l i) := by
  unfold Rs.nm
  rw [List.getD]
  cases h : l[i]? with
  | none => exact ⟨by decide, by decide⟩
  | some t => exact hI t (List.mem_of_getElem? h)
theorem mem_setLast {α : Type} {l : List α} {x y : α} (h : y ∈ Rs.setLast l x) : y ∈ l ∨ y = x := List.mem_or_eq_of_mem_set h
theorem lastOf_mem {α : Type} {l : List α} {x : α} (h : Rs.lastOf l = some x) : x ∈ l := List.mem_of_getElem? h
theorem setLast_len {α : Type} (l : List α) (x : α) : (Rs.setLast l x).length = l.length := List.length_set
theorem GoodC.mono {N M : Nat} {C : Rs.Cfg} (h : GoodC N C) (hm : N ≤ M) : GoodC M C :=
  ⟨Nat.le_trans h.zl hm, Nat.le_trans h.pl hm, Nat.le_trans h.cl hm, Nat.le_trans h.sl hm, fun z hz => ⟨Nat.le_trans (h.zs z hz).1 hm, (h.zs z hz).2⟩, fun p hp => Nat.le_trans (h.ps p hp) hm, fun x hx => ⟨Nat.le_trans (h.cs x hx).1 hm, (h.cs x hx).2⟩,
    fun s hs => ⟨Nat.le_trans (h.ss s hs).1 hm, Nat.le_trans (h.ss s hs).2.1 hm, (h.ss s hs).2.2.1, fun l hl => ⟨Nat.le_trans ((h.ss s hs).2.2.2 l hl).1 hm, Nat.le_trans ((h.ss s hs).2.2.2 l hl).2.1 hm, ((h.ss s hs).2.2.2 l hl).2.2⟩⟩⟩
theorem GoodC.no : GoodC 0 Rs.noCfg := ⟨by simp [Rs.noCfg], by simp [Rs.noCfg], by simp [Rs.noCfg], by simp [Rs.noCfg], fun z hz => by simp [Rs.noCfg] at hz, fun z hz => by simp [Rs.noCfg] at hz, fun z hz => by simp [Rs.noCfg] at hz, fun z hz => by simp [Rs.noCfg] at hz⟩
theorem GoodC.zones {N : Nat} {C : Rs.Cfg} (h : GoodC N C) {zs : List Rs.Zone} (h1 : zs.length ≤ N) (h2 : ∀ z ∈ zs, z ∈ C.zones ∨ (z.rules.length ≤ N ∧ I64 z.off ∧ ∀ r ∈ z.rules, FitR r)) : GoodC N { C with zones := zs } :=
  ⟨h1, h.pl, h.cl, h.sl, fun z hz => (h2 z hz).elim (h.zs z) id, h.ps, h.cs, h.ss⟩
theorem GoodC.people {N : Nat} {C : Rs.Cfg} (h : GoodC N C) {zs : List Rs.Pers} (h1 : zs.length ≤ N) (h2 : ∀ z ∈ zs, z ∈ C.people ∨ z.quiet.length ≤ N) : GoodC N { C with people := zs } :=
  ⟨h.zl, h1, h.cl, h.sl, h.zs, fun z hz => (h2 z hz).elim (h.ps z) id, h.cs, h.ss⟩
theorem GoodC.cals {N : Nat} {C : Rs.Cfg} (h : GoodC N C) {zs : List Rs.Cal} (h1 : zs.length ≤ N) (h2 : ∀ z ∈ zs, z ∈ C.cals ∨ (z.days.length ≤ N ∧ ∀ d ∈ z.days, I64 d)) : GoodC N { C with cals := zs } :=
  ⟨h.zl, h.pl, h1, h.sl, h.zs, h.ps, fun z hz => (h2 z hz).elim (h.cs z) id, h.ss⟩
theorem GoodC.scheds {N : Nat} {C : Rs.Cfg} (h : GoodC N C) {zs : List Rs.Sch} (h1 : zs.length ≤ N) (h2 : ∀ s ∈ zs, s ∈ C.scheds ∨ (s.lays.length ≤ N ∧ s.edits.length ≤ N ∧ (∀ x ∈ s.edits, I64 x.to) ∧ ∀ l ∈ s.lays, l.mem.length ≤ N ∧ l.wins.length ≤ N ∧ I64 l.day)) : GoodC N { C with scheds := zs } :=
  ⟨h.zl, h.pl, h.cl, h1, h.zs, h.ps, h.cs, fun z hz => (h2 z hz).elim (h.ss z) id⟩
theorem GoodC.lay {N : Nat} {C : Rs.Cfg} (h : GoodC N C) {s : Rs.Sch} {y y' : Rs.Lay} (he : Rs.lastLay C = some (s, y)) (hy : (y.mem.length ≤ N ∧ y.wins.length ≤ N ∧ I64 y.day) → y'.mem.length ≤ N ∧ y'.wins.length ≤ N ∧ I64 y'.day) : GoodC N (Rs.setLay C s y') := by
  unfold Rs.lastLay at he
  cases h1 : Rs.lastOf C.scheds with
  | none => rw [h1] at he; cases he
  | some s' =>
    rw [h1] at he
    simp only at he
    cases h2 : Rs.lastOf s'.lays with
    | none => rw [h2] at he; cases he
    | some y2 =>
      rw [h2] at he
      cases he
      have hs := h.ss s (lastOf_mem h1)
      refine h.scheds (by rw [setLast_len]; exact h.sl) (fun z hz => ?_)
      rcases mem_setLast hz with hz | rfl
      · exact .inl hz
      · refine .inr ⟨by rw [setLast_len]; exact hs.1, hs.2.1, hs.2.2.1, fun l hl => ?_⟩
        rcases mem_setLast hl with hl | rfl
        · exact hs.2.2.2 l hl
        · exact hy (hs.2.2.2 y (lastOf_mem h2))
theorem memS_len {ns : List Rs.Nm} : ∀ {l : List Lx.Tk} {m : List Int}, Rs.memS ns l = some m → m.length = l.length
  | [], m, h => by rw [Rs.memS] at h; cases h; rfl
  | t :: r, m, h => by
    rw [Rs.memS] at h
    split at h
    · cases h
    · split at h
      · cases h
      · rename_i m' hm
        cases h
        simp [memS_len hm]
theorem q_ite {α : Type} {Q : α → Prop} {c : Prop} [Decidable c] {a b : α} (h1 : Q a) (h2 : Q b) : Q (if c then a else b) := by split <;> assumption
theorem step_cases {Q : Int × Rs.Cfg → Prop} {C : Rs.Cfg} {t : Lx.Tk} {l : List Lx.Tk} (h1 : Q (Rs.addZone C l)) (h2 : Q (Rs.addRule C l)) (h3 : Q (Rs.addPerson C l)) (h4 : Q (Rs.addQuiet C l)) (h5 : Q (Rs.addCal C l)) (h6 : Q (Rs.addDays C l)) (h7 : Q (Rs.addSch C l)) (h8 : Q (Rs.addLay C l)) (h9 : Q (Rs.addMem C l)) (h10 : Q (Rs.addWin C l)) (h11 : ∀ m, Q (Rs.useCal m C l)) (h12 : ∀ k, Q (Rs.addEdit k C l)) : Q (Rs.stepS C (t :: l)) := by
  rw [Rs.stepS]
  exact q_ite h1 (q_ite h2 (q_ite h3 (q_ite h4 (q_ite h5 (q_ite h6 (q_ite h7 (q_ite h8 (q_ite h9 (q_ite h10 (q_ite (h11 _) (q_ite (h11 _) (q_ite (h12 _) (q_ite (h12 _) (h12 _))))))))))))))
theorem opt_quietS : ∀ (o : List Lx.Tk) (p : Rs.Pers), (Rs.optS o p).quiet = p.quiet
  | [], p => by rw [Rs.optS]
  | [_], p => by rw [Rs.optS]
  | t :: u :: r, p => by
    rw [Rs.optS]
    split
    · rw [opt_quietS r]
    · split
      · rw [opt_quietS r]
      · rw [opt_quietS (u :: r)]
/-- A statement adds at most as many elements to a list as it has tokens. -/
theorem good_step {N : Nat} {C : Rs.Cfg} (h0 : GoodC N C) {t : Lx.Tk} {l : List Lx.Tk} (hI : ∀ t ∈ l, I64 t.2.2) : (Rs.stepS C (t :: l)).1 = 0 → GoodC (N + (t :: l).length) (Rs.stepS C (t :: l)).2 := by
  obtain ⟨M, hM⟩ : ∃ M, N + (t :: l).length = M := ⟨_, rfl⟩
  rw [hM]
  simp only [List.length_cons] at hM
  have h := h0.mono (show N ≤ M by omega)
  have a1 := h0.zl
  have a2 := h0.pl
  have a3 := h0.cl
  have a4 := h0.sl
  have hn := nm_fit hI
  refine step_cases (Q := fun p => p.1 = 0 → GoodC M p.2) ?_ ?_ ?_ ?_ ?_ ?_ ?_ ?_ ?_ ?_ ?_ ?_
  · intro _
    refine h.zones (by simp; omega) (fun z hz => ?_)
    rcases List.mem_append.1 hz with hz | hz
    · exact .inl hz
    · simp at hz; subst hz; exact .inr ⟨by simp, hn 1, fun r hr => by cases hr⟩
  · unfold Rs.addRule
    split
    · intro e; simp at e
    · split
      · intro e; simp at e
      · rename_i z hz
        intro _
        have hz0 := h0.zs z (lastOf_mem hz)
        refine h.zones (by rw [setLast_len]; omega) (fun x hx => ?_)
        rcases mem_setLast hx with hx | rfl
        · exact .inl hx
        · refine .inr ⟨by simp; omega, hz0.2.1, fun r hr => ?_⟩
          rcases List.mem_append.1 hr with hr | hr
          · exact hz0.2.2 r hr
          · simp at hr; subst hr
            exact ⟨hn 0, hn 1, pos_fit _ _ _ (by omega) (by omega) (by decide), pos_fit _ _ _ (by omega) (by omega) (by decide), pos_fit _ _ _ (by omega) (by omega) (by decide), hn 5, hn 6⟩
  · unfold Rs.addPerson
    split
    · intro e; simp at e
    · intro _
      refine h.people (by simp; omega) (fun z hz => ?_)
      rcases List.mem_append.1 hz with hz | hz
      · exact .inl hz
      · simp at hz; subst hz; exact .inr (by rw [opt_quietS]; simp)
  · unfold Rs.addQuiet
    split
    · intro e; simp at e
    · split
      · intro e; simp at e
      · rename_i z hz
        intro _
        have hz0 := h0.ps z (lastOf_mem hz)
        refine h.people (by rw [setLast_len]; omega) (fun x hx => ?_)
        rcases mem_setLast hx with hx | rfl
        · exact .inl hx
        · exact .inr (by simp; omega)
  · unfold Rs.addCal
    split
    · intro e; simp at e
    · intro _
      refine h.cals (by simp; omega) (fun z hz => ?_)
      rcases List.mem_append.1 hz with hz | hz
      · exact .inl hz
      · simp at hz; subst hz; exact .inr ⟨by simp, fun d hd => by cases hd⟩
  · unfold Rs.addDays
    split
    · intro e; simp at e
    · rename_i z hz
      intro _
      have hz0 := h0.cs z (lastOf_mem hz)
      refine h.cals (by rw [setLast_len]; omega) (fun x hx => ?_)
      rcases mem_setLast hx with hx | rfl
      · exact .inl hx
      · refine .inr ⟨by simp; omega, fun d hd => ?_⟩
        rcases List.mem_append.1 hd with hd | hd
        · exact hz0.2 d hd
        · obtain ⟨u, hu, rfl⟩ := List.mem_map.1 hd
          exact hI u hu
  · intro _
    refine h.scheds (by simp; omega) (fun z hz => ?_)
    rcases List.mem_append.1 hz with hz | hz
    · exact .inl hz
    · simp at hz; subst hz; exact .inr ⟨by simp, by simp, fun x hx => (by cases hx), fun x hx => (by cases hx)⟩
  · unfold Rs.addLay
    split
    · intro e; simp at e
    · split
      · intro e; simp at e
      · rename_i z hz
        split
        · intro e; simp at e
        · intro _
          have hz0 := h0.ss z (lastOf_mem hz)
          have hz1 := h.ss z (lastOf_mem hz)
          refine h.scheds (by rw [setLast_len]; omega) (fun x hx => ?_)
          rcases mem_setLast hx with hx | rfl
          · exact .inl hx
          · refine .inr ⟨by simp; omega, hz1.2.1, hz1.2.2.1, fun y hy => ?_⟩
            rcases List.mem_append.1 hy with hy | hy
            · exact hz1.2.2.2 y hy
            · simp at hy; subst hy; exact ⟨by simp, by simp, hn 2⟩
  · unfold Rs.addMem
    split
    · intro e; simp at e
    · rename_i s y he
      split
      · intro e; simp at e
      · rename_i m hm
        intro _
        have hm2 := memS_len hm
        have hb : y.mem.length ≤ N := by
          obtain ⟨q1, _, q2, _⟩ := lastLay_some he
          exact ((h0.ss s (List.mem_of_getElem? q1)).2.2.2 y (List.mem_of_getElem? q2)).1
        exact h.lay he fun q => ⟨by simp; omega, q.2⟩
  · unfold Rs.addWin
    split
    · intro e; simp at e
    · split
      · intro e; simp at e
      · rename_i s y he
        intro _
        have hb : y.wins.length ≤ N := by
          obtain ⟨q1, _, q2, _⟩ := lastLay_some he
          exact ((h0.ss s (List.mem_of_getElem? q1)).2.2.2 y (List.mem_of_getElem? q2)).2.1
        exact h.lay he fun q => ⟨q.1, by simp; omega, q.2.2⟩
  · intro m
    unfold Rs.useCal
    split
    · intro e; simp at e
    · rename_i s y he
      split
      · intro e; simp at e
      · split
        · intro e; simp at e
        · intro _
          exact h.lay he fun q => q
  · intro k
    unfold Rs.addEdit
    split
    · intro e; simp at e
    · rename_i z hz
      have hz0 := h0.ss z (lastOf_mem hz)
      have hz1 := h.ss z (lastOf_mem hz)
      have key : ∀ x : Rs.Edit, I64 x.to → GoodC M (Rs.setSch C { z with edits := z.edits ++ [x] }) := by
        intro x hx
        refine h.scheds (by rw [setLast_len]; omega) (fun y hy => ?_)
        rcases mem_setLast hy with hy | rfl
        · exact .inl hy
        · refine .inr ⟨hz1.1, by simp; omega, fun u hu => ?_, hz1.2.2.2⟩
          rcases List.mem_append.1 hu with hu | hu
          · exact hz0.2.2.1 u hu
          · simp at hu; subst hu; exact hx
      split
      · intro e; simp at e
      · split
        · split
          · intro e; simp at e
          · intro _; exact key _ (hn 3)
        · intro _; exact key _ (hn 2)
theorem cut_opt {f : Sy.Fm} {o o' : List Lx.Tk} (h : Sy.optG [f] o = o') : o = o' ∨ ∃ t r, o = t :: r ∧ t.2.1 = f.1 ∧ f.2.length ≤ r.length ∧ o' = r.drop f.2.length := by
  cases o with
  | nil => left; rw [← h]; rfl
  | cons t r =>
    rw [Sy.optG, Sy.optG, Sy.cut_cons] at h
    by_cases hc : f.2.length ≤ r.length ∧ t.1 = 0 ∧ t.2.1 = f.1 ∧ (r.take f.2.length).map (·.1) = f.2
    · rw [if_pos hc] at h
      exact .inr ⟨t, r, rfl, hc.2.2.1, hc.1, h.symm⟩
    · rw [if_neg hc] at h
      exact .inl h
theorem opt_ok {o : List Lx.Tk} (h : (Sy.optG Sy.optF o).isEmpty = true) : Rs.optOk o := by
  unfold Sy.optF at h
  change (Sy.optG [([99, 111, 110, 115, 101, 110, 116], [])] (Sy.optG [([114, 101, 115, 116], [1])] (Sy.optG [([119, 101, 101, 107], [1])] o))).isEmpty = true at h
  obtain ⟨o1, h1⟩ : ∃ o1, Sy.optG [([119, 101, 101, 107], [1])] o = o1 := ⟨_, rfl⟩
  rw [h1] at h
  obtain ⟨o2, h2⟩ : ∃ o2, Sy.optG [([114, 101, 115, 116], [1])] o1 = o2 := ⟨_, rfl⟩
  rw [h2] at h
  obtain ⟨o3, h3⟩ : ∃ o3, Sy.optG [([99, 111, 110, 115, 101, 110, 116], [])] o2 = o3 := ⟨_, rfl⟩
  rw [h3] at h
  have h4 : o3 = [] := by simpa using h
  subst h4
  have k2 : Rs.optOk o2 := by
    rcases cut_opt h3 with rfl | ⟨t, r, rfl, ht, _, hr⟩
    · trivial
    · have hr2 : r = [] := by simpa using hr.symm
      subst hr2
      rw [Rs.optOk]
      rw [ht]
      exact ⟨by decide, by decide⟩
  have k1 : Rs.optOk o1 := by
    rcases cut_opt h2 with rfl | ⟨t, r, rfl, ht, hl, hr⟩
    · exact k2
    · cases r with
      | nil => simp at hl
      | cons u r =>
        rw [Rs.optOk, if_pos (.inr ht)]
        have : o2 = r := by simpa using hr
        rw [← this]
        exact k2
  rcases cut_opt h1 with rfl | ⟨t, r, rfl, ht, hl, hr⟩
  · exact k1
  · cases r with
    | nil => simp at hl
    | cons u r =>
      rw [Rs.optOk, if_pos (.inl ht)]
      have : o1 = r := by simpa using hr
      rw [← this]
      exact k1
end Go.Proofs.YtphenbfhojdcpaaGreatDoor
namespace Go.Proofs.YtphenbfhojdcpaaGreatDoor
set_option linter.unusedSimpArgs false
set_option linter.unusedVariables false
set_option maxRecDepth 100000
/-- zone, person, schedule, layer, member. -/
def smallK (x : List UInt8) : Bool := x == [122, 111, 110, 101] || x == [112, 101, 114, 115, 111, 110] || x == [115, 99, 104, 101, 100, 117, 108, 101] || x == [108, 97, 121, 101, 114] || x == [109, 101, 109, 98, 101, 114]
def smallS (l : List Lx.Tk) : Bool := match l with | [] => true | t :: _ => smallK t.2.1
theorem step_is {C : Rs.Cfg} {N : Nat} {t : Lx.Tk} {l : List Lx.Tk} (hF : Sy.formS (t :: l) = true) (hKs : smallS (t :: l) = true) (A : Option Addr) (n c bc lo : Nat) (vs : Key → SV) (w : World) (h : OwnC w bc lo vs C) (hG : GoodC N C) (hN : N ≤ 880000) (hT : TokIn w bc A l) (hn : l.length = n) (hn6 : n ≤ 1000) (hcn : n ≤ c) (hX : LexT w) {M g1 g2 g3 g4 g5 : Nat} (hB : TblAt w lo M g1 g2 g3 g4 g5) :
    ∃ f cap, (t.2.1, Value.func (.func f) #[] cap) ∈ tblL g1 g2 g3 g4 g5 ∧ Calls Tryz.prog f (#[.pointer (some ⟨bc, 0, none⟩), .slice A n c] ++ cap) w (StepV bc lo w (Rs.stepS C (t :: l))) := by
  obtain ⟨q, hq, ht, hlen, hm⟩ := Rs.form_fit Sy.F t l hF
  simp only [Sy.F, List.mem_cons, List.not_mem_nil, or_false] at hq
  rcases hq with rfl | rfl | rfl | rfl | rfl | rfl | rfl | rfl | rfl | rfl | rfl | rfl | rfl | rfl | rfl
  · simp only [List.length_cons, List.length_nil] at hlen
    have e : Rs.stepS C (t :: l) = Rs.addZone C l := by rw [Rs.stepS]; simp [ht]
    rw [e, ht]
    exact ⟨85, #[], by simp [tblL], addZone_is A n c bc lo vs w h hG (by omega) hT (by omega) hn hn6⟩
  · unfold smallS at hKs
    simp only at hKs
    rw [ht] at hKs
    exact absurd hKs (by decide)
  · simp only [List.length_cons, List.length_nil] at hlen
    have e : Rs.stepS C (t :: l) = Rs.addPerson C l := by rw [Rs.stepS]; simp [ht]
    rw [e, ht]
    have hok : Rs.optOk (l.drop 2) := opt_ok (by simpa [Sy.mayEnd] using hm)
    exact ⟨87, #[], by simp [tblL], addPers_is A n c bc lo vs w h hG (by omega) hT (by omega) hn hn6 hcn hok⟩
  · unfold smallS at hKs
    simp only at hKs
    rw [ht] at hKs
    exact absurd hKs (by decide)
  · unfold smallS at hKs
    simp only at hKs
    rw [ht] at hKs
    exact absurd hKs (by decide)
  · unfold smallS at hKs
    simp only at hKs
    rw [ht] at hKs
    exact absurd hKs (by decide)
  · simp only [List.length_cons, List.length_nil] at hlen
    have e : Rs.stepS C (t :: l) = Rs.addSch C l := by rw [Rs.stepS]; simp [ht]
    rw [e, ht]
    exact ⟨91, #[], by simp [tblL], addSch_is A n c bc lo vs w h hG (by omega) hT (by omega) hn hn6⟩
  · simp only [List.length_cons, List.length_nil] at hlen
    have e : Rs.stepS C (t :: l) = Rs.addLay C l := by rw [Rs.stepS]; simp [ht]
    rw [e, ht]
    exact ⟨92, #[], by simp [tblL], addLay_is A n c bc lo vs w h hG (by omega) hT (by omega) hn hn6⟩
  · simp only [List.length_cons, List.length_nil] at hlen
    have e : Rs.stepS C (t :: l) = Rs.addMem C l := by rw [Rs.stepS]; simp [ht]
    rw [e, ht]
    exact ⟨93, #[], by simp [tblL], addMem_is A n c bc lo vs w h hG (by omega) hT (by omega) hn hn6⟩
  · unfold smallS at hKs
    simp only at hKs
    rw [ht] at hKs
    exact absurd hKs (by decide)
  · unfold smallS at hKs
    simp only at hKs
    rw [ht] at hKs
    exact absurd hKs (by decide)
  · unfold smallS at hKs
    simp only at hKs
    rw [ht] at hKs
    exact absurd hKs (by decide)
  · unfold smallS at hKs
    simp only at hKs
    rw [ht] at hKs
    exact absurd hKs (by decide)
  · unfold smallS at hKs
    simp only at hKs
    rw [ht] at hKs
    exact absurd hKs (by decide)
  · unfold smallS at hKs
    simp only at hKs
    rw [ht] at hKs
    exact absurd hKs (by decide)
end Go.Proofs.YtphenbfhojdcpaaGreatDoor
