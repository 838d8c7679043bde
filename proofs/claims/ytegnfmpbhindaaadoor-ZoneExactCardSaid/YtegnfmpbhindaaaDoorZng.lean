/- Package zone's stretches. -/
import Derived.Test.YtegnfmpbhindaaaDoorZnf
namespace Go.Proofs.YtegnfmpbhindaaaDoor
open Go.RowKit
set_option linter.unusedVariables false
set_option linter.unusedSimpArgs false

/-- Where the k-th stretch begins, and its offset. -/
def frK (ts : Zn.L) (k : Nat) : Int := if k = 0 then 0 else (ts.getD (k - 1) (0, 0)).1
def ofK (off : Int) (ts : Zn.L) (k : Nat) : Int := if k = 0 then off else (ts.getD (k - 1) (0, 0)).2
theorem strK_step' {off : Int} {ts : Zn.L} {k : Nat} {a o : Int} (h : ts[k]? = some (a, o)) : Zn.strK off ts k = (frK ts k, a - 1, ofK off ts k) :: Zn.strK off ts (k + 1) := by
  have hk := (List.getElem?_eq_some_iff.1 h).1
  have hg : ts.getD k (0, 0) = (a, o) := by simp [List.getD, h]
  rw [Zn.strK_step off ts k hk, hg]; rfl
theorem frK_succ {ts : Zn.L} {k : Nat} {a o : Int} (h : ts[k]? = some (a, o)) : frK ts (k + 1) = a := by
  have hg : ts.getD k (0, 0) = (a, o) := by simp [List.getD, h]
  unfold frK; rw [if_neg (by omega), show k + 1 - 1 = k from rfl, hg]
theorem ofK_succ {off : Int} {ts : Zn.L} {k : Nat} {a o : Int} (h : ts[k]? = some (a, o)) : ofK off ts (k + 1) = o := by
  have hg : ts.getD k (0, 0) = (a, o) := by simp [List.getD, h]
  unfold ofK; rw [if_neg (by omega), show k + 1 - 1 = k from rfl, hg]
theorem OwnL.other {α : Type} {T : TypeId} {k : Nat} {e : α → Nat → Value} {w : World} {B : Nat} {v : Value} {xs : List α} (h : OwnL T k e w B v xs) {g i : Nat} (hg : v.ownBlock ≠ some g) (u : Value) : OwnL T k e (w.setCell ⟨g, i, none⟩ u) B v xs :=
  World.ownsRow.kept h ⟨rfl, rfl, rfl, by simp, fun k hk hr => Below.heap_setCell w ⟨g, i, none⟩ u k (fun e => hr (by rw [e]))⟩ (.inr hg)
theorem own_block3 {w : World} {B : Nat} {v : Value} {xs : Zn.S} {T : TypeId} (h : OwnL T 3 eTrip w B v xs) {b : Nat} (hb : w.heap.size ≤ b) : v.ownBlock ≠ some b := fun e => by
  have := (World.ownsRow.lt h b e).2; omega
def TripBlk (w : World) (b : Nat) (x y z : Int) : Prop := BlkAt w b #[.int .i64 x, .int .i64 y, .int .i64 z] 85
theorem TripBlk.cells {w : World} {b : Nat} {x y z : Int} (h : TripBlk w b x y z) : w.cell? ⟨b, 0, none⟩ = some (.int .i64 x) ∧ w.cell? ⟨b, 1, none⟩ = some (.int .i64 y) ∧ w.cell? ⟨b, 2, none⟩ = some (.int .i64 z) ∧ w.frozen? ⟨b, 0, none⟩ = false ∧ w.frozen? ⟨b, 1, none⟩ = false ∧ w.frozen? ⟨b, 2, none⟩ = false ∧ b < w.heap.size := ⟨BlkAt.cell h rfl, BlkAt.cell h rfl, BlkAt.cell h rfl, BlkAt.free h 0, BlkAt.free h 1, BlkAt.free h 2, BlkAt.lt_ h⟩
theorem trip_new {W : World} {B : Nat} {x y z : Int} {T : TypeId} (h : W.heap.size = B) : ∀ j, j < 3 → (W.alloc (.cells #[.int .i64 x, .int .i64 y, .int .i64 z] T)).cell? ⟨B, j, none⟩ = some (eTrip (x, y, z) j) := fun j hj => by
  subst h
  match j, hj with
  | 0, _ => simp [eTrip]
  | 1, _ => simp [eTrip]
  | 2, _ => simp [eTrip]
/-- What the call hands back. -/
def GivesS (ss : Zn.S) (w : World) (e : Ending) (w' : World) : Prop := ∃ A c, e = .returned (.tuple #[.slice A ss.length c, .bool true]) ∧ TripsAt w' A ss ∧ Below w.heap.size w w'

set_option maxHeartbeats 8000000 in
set_option maxRecDepth 100000 in
theorem stretches_is {off : Int} {rs : List Zn.Rule} {ts : Zn.L} (h : Zn.trans off rs = (ts, 0)) (s : ByteArray) (A : Option Addr) (n c : Nat) (w : World) (hz : ZIn w A n rs) (ho : I64 off) :
    Calls Tryd.prog 48 #[.agg #[.string s, .int .i64 off, .slice A n c]] w (GivesS (Zn.strs 0 off ts) w) := by
  have C := Lib.hid (trans_is h s A n c _ (hz.alloc (.cells #[.string s, .int .i64 off, .slice A n c] 27)) ho)
  obtain ⟨k1, k2, k3, k4, k5, k6, k7, k8⟩ := Zn.trans_ok h
  have hbd := Zn.vt_bd (Int.le_refl 0) k6
  have HBD := Lib.hid hbd
  obtain ⟨q, hq⟩ : ∃ q, ts.length = q := ⟨_, rfl⟩
  rw [hq] at k7
  have HQ := Lib.hid hq
  clear hz h k1 k2 k3 k4 k5 k6 k8 hbd
  go_enter Tryd.func48, Tryd.ntmps48
  go_wp2_with fail
  refine C.out.mono ?_
  rintro e w1 ⟨A1, c1, rfl, hP, hb⟩
  rw [hq]
  have hz1 : w1.cell? ⟨w.heap.size, 1, none⟩ = some (.int .i64 off) := BlkAt.cell (BlkAt.after (BlkAt.new w #[.string s, .int .i64 off, .slice A n c] 27) hb) (i := 1) rfl
  have hws : w.heap.size < w1.heap.size := by have := hb.size; simp at this; omega
  have HB := Lib.hid (below_alloc_call hb)
  have HP := Lib.hid hP
  clear hb hP hq
  go_wp2_with (at_make; refine wp_make_k kStr w1 rfl _ _ rfl w1.heap.size _ _ _ (q + 1) rfl rfl (by omega) (by omega) (Nat.le_refl _) ?_; intro w2 hO2 hB2; have hz2 : w2.cell? ⟨w.heap.size, 1, none⟩ = some (.int .i64 off) := cell_keep hz1 hB2)
  have hws2 : w1.heap.size < w2.heap.size := (World.ownsRow.lt hO2 w1.heap.size rfl).2
  obtain ⟨v0, hv0⟩ : ∃ v0, Value.slice (some ⟨w1.heap.size, 0, none⟩) 0 (q + 1) = v0 := ⟨_, rfl⟩
  have hvb : v0.ownBlock ≠ some w2.heap.size := by rw [← hv0]; simp [Value.ownBlock]; omega
  rw [hv0] at hO2
  have O2 := Lib.hid (OwnL.alloc hO2 (.cells #[.int .i64 0, .int .i64 0, .int .i64 off] 85))
  have B2 := Lib.hid (hB2.alloc (Nat.le_of_lt hws2) (.cells #[.int .i64 0, .int .i64 0, .int .i64 off] 85))
  have LB : TripBlk (w2.alloc (.cells #[.int .i64 0, .int .i64 0, .int .i64 off] 85)) w2.heap.size 0 0 off := BlkAt.new _ _ _
  have HLB := Lib.hid LB
  have HV0 := Lib.hid hv0
  have HVB := Lib.hid hvb
  obtain ⟨bl, hbl⟩ : ∃ bl, w2.heap.size = bl := ⟨_, rfl⟩
  have HBL := Lib.hid hbl
  clear hO2 hB2 LB hv0 hvb hbl
  go_wp2_with fail
  rw [HBL.out]
  go_loopw [6, 26] (fun v i wr => ∃ (k : Nat) (S : Zn.S) (l : Int), k ≤ q ∧ i = .int .i64 k ∧ Hid (S ++ Zn.strK off ts k = Zn.strs 0 off ts) ∧ Hid (S.length = k) ∧ Hid (OwnL 85 3 eTrip wr w1.heap.size v S) ∧ Hid (Below w1.heap.size w1 wr) ∧ Hid (TripBlk wr bl (frK ts k) l (ofK off ts k)) ∧ Hid (v.ownBlock ≠ some bl)) (fun _ i _ => q - (intOf i).toNat)
  case atStart => exact ⟨0, [], 0, Nat.zero_le _, rfl, Lib.hid rfl, Lib.hid rfl, Lib.hid (by rw [HV0.out]; exact O2.out), B2, Lib.hid (by rw [← HBL.out]; exact HLB.out), Lib.hid (by rw [HV0.out, ← HBL.out]; exact HVB.out)⟩
  case round =>
    clear O2 B2 HLB HVB
    obtain ⟨k, S, lst, hk, rfl, HS, HSL, HO, HB2, HL, HNE⟩ := hrel
    obtain ⟨l0, l1, l2, f0, f1, f2, lz⟩ := TripBlk.cells HL.out
    by_cases hlt : k < q
    · obtain ⟨⟨a, o⟩, hx⟩ := get_ex (xs := ts) (i := k) (by have := HQ.out; omega)
      obtain ⟨b, of, rfl, hbb, hc⟩ := HP.out (by have := HQ.out; omega)
      obtain ⟨c0, c1⟩ := pair_cells (hc k _ hx)
      have c0' := cell_keep c0 HB2.out
      have c1' := cell_keep c1 HB2.out
      simp only at c0' c1'
      have hab := HBD.out _ (List.mem_of_getElem? hx)
      simp only at hab
      obtain ⟨a1, a2⟩ := hab
      have hst := strK_step' (off := off) hx
      obtain ⟨f, hf⟩ : ∃ f, frK ts k = f := ⟨_, rfl⟩
      obtain ⟨o0, ho0⟩ : ∃ f, ofK off ts k = f := ⟨_, rfl⟩
      rw [hf, ho0] at hst HL
      rw [hf] at l0
      rw [ho0] at l2
      have hS2 : (S ++ [(f, a - 1, o0)]) ++ Zn.strK off ts (k + 1) = Zn.strs 0 off ts := by rw [← HS.out, hst]; simp
      have HS2 := Lib.hid hS2
      have HF : Hid (frK ts (k + 1) = a ∧ ofK off ts (k + 1) = o) := Lib.hid ⟨frK_succ hx, ofK_succ hx⟩
      have hrz := HB2.out.size
      have hSlen : S.length ≤ 900000 := by have := HSL.out; omega
      have hblw : w1.heap.size ≤ bl := by have := HBL.out; omega
      have LB1 : TripBlk (((wr.setCell ⟨bl, 1, none⟩ (.int .i64 (a - 1))).alloc (.cells #[.int .i64 a, .int .i64 o] 46)).alloc (.cells #[.int .i64 f, .int .i64 (a - 1), .int .i64 o0] 85)) bl f (a - 1) o0 := BlkAt.alloc (BlkAt.alloc (BlkAt.set_ HL.out 1 (.int .i64 (a - 1))) _) _
      have XB1 : PairBlk (((wr.setCell ⟨bl, 1, none⟩ (.int .i64 (a - 1))).alloc (.cells #[.int .i64 a, .int .i64 o] 46)).alloc (.cells #[.int .i64 f, .int .i64 (a - 1), .int .i64 o0] 85)) wr.heap.size (a, o) 46 := BlkAt.alloc (by have := BlkAt.new (wr.setCell ⟨bl, 1, none⟩ (.int .i64 (a - 1))) #[.int .i64 a, .int .i64 o] 46; rw [show (wr.setCell ⟨bl, 1, none⟩ (.int .i64 (a - 1))).heap.size = wr.heap.size by simp] at this; exact this) _
      have OB1 := Lib.hid (((HO.out.other HNE.out (i := 1) (.int .i64 (a - 1))).alloc (.cells #[.int .i64 a, .int .i64 o] 46)).alloc (.cells #[.int .i64 f, .int .i64 (a - 1), .int .i64 o0] 85))
      have hBB := ((HB2.out.setCell (p := ⟨bl, 1, none⟩) hblw (.int .i64 (a - 1))).alloc (by simpa using hrz) (.cells #[.int .i64 a, .int .i64 o] 46)).alloc (by simp; omega) (.cells #[.int .i64 f, .int .i64 (a - 1), .int .i64 o0] 85)
      have HBB := Lib.hid hBB
      have HLB1 := Lib.hid LB1
      have HXB1 := Lib.hid XB1
      have HNX := Lib.hid (own_block3 HO.out (Nat.le_refl _))
      clear hc hx c0 c1 hst hf ho0 hS2 LB1 XB1 hBB HL
      go_wp2_with (at_builtin; refine wp_append_one kStr _ rfl _ _ rfl w1.heap.size _ S rfl OB1.out (wr.heap.size + 1) (f, a - 1, o0) rfl (trip_new (by simp)) hSlen (by simp; omega) ?_; intro gg cap w3 hO3 hB3 hg3 hgo _; have L3 : TripBlk w3 bl f (a - 1) o0 := BlkAt.grown HLB1.out hg3 (fun e => HNE.out e.symm); have X3 : PairBlk w3 wr.heap.size (a, o) 46 := BlkAt.grown HXB1.out hg3 (fun e => HNX.out e.symm); obtain ⟨d0, d1⟩ := PairBlk.cells X3; obtain ⟨m0, m1, m2, m3, m4, m5, m6⟩ := TripBlk.cells L3; simp only at d0 d1)
      have L4 : TripBlk (((w3.setCell ⟨bl, 0, none⟩ (.int .i64 a)).setCell ⟨bl, 1, none⟩ (.int .i64 0)).setCell ⟨bl, 2, none⟩ (.int .i64 o)) bl a 0 o := BlkAt.set_ (BlkAt.set_ (BlkAt.set_ L3 0 (.int .i64 a)) 1 (.int .i64 0)) 2 (.int .i64 o)
      have hne4 : (Value.slice (some ⟨gg, 0, none⟩) (S.length + 1) cap).ownBlock ≠ some bl := fun e => by
        simp only [Value.ownBlock, Option.some.injEq] at e
        rcases hgo with h | h
        · exact HNE.out (h.trans (congrArg some e))
        · simp at h; omega
      have O4 := Lib.hid (((hO3.other hne4 (i := 0) (.int .i64 a)).other hne4 (i := 1) (.int .i64 0)).other hne4 (i := 2) (.int .i64 o))
      have B4 := Lib.hid ((((HBB.out.trans hB3).setCell (p := ⟨bl, 0, none⟩) hblw (.int .i64 a)).setCell (p := ⟨bl, 1, none⟩) hblw (.int .i64 0)).setCell (p := ⟨bl, 2, none⟩) hblw (.int .i64 o))
      have HL4 := Lib.hid L4
      have HN4 := Lib.hid hne4
      have hlen2 : S.length + 1 = k + 1 := by rw [HSL.out]
      have HLN := Lib.hid hlen2
      clear hO3 hB3 hg3 hgo L3 X3 L4 hne4 hlen2
      go_wp2_with fail
      go_roundw
      case rel => exact ⟨k + 1, _, 0, by omega, by go_num, HS2, Lib.hid (by rw [List.length_append]; exact HLN.out), O4, B4, Lib.hid (by rw [HF.out.1, HF.out.2]; exact HL4.out), HN4⟩
      case measure => simp [intOf]; omega
    · obtain rfl : k = q := by omega
      have hlast := Zn.strK_last off ts
      rw [HQ.out] at hlast
      obtain ⟨f, hf⟩ : ∃ f, frK ts k = f := ⟨_, rfl⟩
      obtain ⟨o0, ho0⟩ : ∃ f, ofK off ts k = f := ⟨_, rfl⟩
      have hS2 : S ++ [(f, 8589934592, o0)] = Zn.strs 0 off ts := by rw [← HS.out, hlast, ← hf, ← ho0]; rfl
      have HS2 := Lib.hid hS2
      rw [hf] at l0
      rw [ho0] at l2
      have hrz := HB2.out.size
      have hSlen : S.length ≤ 900000 := by have := HSL.out; omega
      have hblw : w1.heap.size ≤ bl := by have := HBL.out; omega
      have OB1 := Lib.hid ((HO.out.other HNE.out (i := 1) (.int .i64 8589934592)).alloc (.cells #[.int .i64 f, .int .i64 8589934592, .int .i64 o0] 85))
      have HBB := Lib.hid ((HB2.out.setCell (p := ⟨bl, 1, none⟩) hblw (.int .i64 8589934592)).alloc (by simpa using hrz) (.cells #[.int .i64 f, .int .i64 8589934592, .int .i64 o0] 85))
      clear hlast hf ho0 hS2 HL
      go_wp2_with (at_builtin; refine wp_append_one kStr _ rfl _ _ rfl w1.heap.size _ S rfl OB1.out wr.heap.size (f, 8589934592, o0) rfl (trip_new (by simp)) hSlen (by simp; omega) ?_; intro gg cap w3 hO3 hB3 hg3 hgo _)
      obtain ⟨A4, c4, he4, -, -, hT4⟩ := hO3.shape
      have B4 := Lib.hid (HB.out.trans ((HBB.out.trans hB3).mono HB.out.size))
      rw [HS2.out] at hT4
      have hl4 : S.length + 1 = (Zn.strs 0 off ts).length := by rw [← HS2.out]; simp
      simp only [Value.slice.injEq] at he4
      obtain ⟨rfl, -, rfl⟩ := he4
      have HT4 := Lib.hid hT4
      have HL4 := Lib.hid hl4
      clear hO3 hB3 hg3 hgo hT4 hl4
      go_wp2_with fail
      go_ret2
      exact ⟨_, _, by rw [← HL4.out]; rfl, HT4.out, B4.out⟩
end Go.Proofs.YtegnfmpbhindaaaDoor
