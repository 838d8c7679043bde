/- Package resolve: Build. -/
import Derived.Test.YtphenbfhojdcpaaGreatDoorKlG24
import Derived.Test.YtphenbfhojdcpaaGreatDoorKlScnl
import Derived.Test.YtphenbfhojdcpaaGreatDoorKlRk
import Derived.StillTailTactics
namespace Go.Proofs.YtphenbfhojdcpaaGreatDoor
open Go.RowKit
set_option linter.unusedSimpArgs false
set_option linter.unusedVariables false
set_option maxRecDepth 100000
theorem OwnC.init {w : World} {bc lo : Nat} (hb : BlkAt w bc (cfgA noSV noSV noSV noSV) 27) (h1 : bc < lo) (h2 : lo ≤ w.heap.size) : OwnC w bc lo (fun _ => noSV) Rs.noCfg :=
  ⟨hb, ⟨fun κ => by cases κ <;> exact list_own (OwnL.nil_ _ _) rfl, fun κ κ' g _ h => by rw [rowOf_v] at h; cases h⟩, fun _ _ => rfl, h1, h2⟩
/-- What Build hands back. -/
def BuildV (R : Int × Int × Rs.Cfg) (w : World) (e : Ending) (w' : World) : Prop := ∃ a b c d, e = .returned (.tuple #[cfgV a b c d, .int .i64 R.2.1, .int .i64 R.1]) ∧ Below w.heap.size w w' ∧ CfgAt w.heap.size w'.heap.size w' a b c d R.2.2 ∧ GoodC 1000000 R.2.2
theorem But.back {bc lo : Nat} {W w w' : World} (h : But bc lo w w') (hb : Below W.heap.size W w) (h1 : W.heap.size ≤ bc) (h2 : W.heap.size ≤ lo) : Below W.heap.size W w' :=
  ⟨h.os.trans hb.os, h.tape.trans hb.tape, h.output.trans hb.output, Nat.le_trans hb.size h.size, fun k hk => (h.block k (by omega) (by omega)).trans (hb.block k hk)⟩
def tokSum (ss : List Sy.St) : Nat := (ss.map (·.2.length)).sum
theorem BuildV.zero {R : Int × Int × Rs.Cfg} {w w' : World} {er line : Int} (hR : R = (er, line, Rs.noCfg)) (hB : Below w.heap.size w w') : BuildV R w (.returned (.tuple #[cfgV noSV noSV noSV noSV, .int .i64 line, .int .i64 er])) w' := by
  subst hR
  exact ⟨noSV, noSV, noSV, noSV, rfl, hB, CfgAt.no _ _ _, GoodC.no.mono (by omega)⟩
/-- A cell that is given the value that it has: nothing turns. -/
theorem same_set {w : World} {g i : Nat} {vs : Array Value} {T : TypeId} {v : Value} (h : BlkAt w g vs T) (hv : vs[i]? = some v) : Below w.heap.size w (w.setCell ⟨g, i, none⟩ v) := by
  have hg := grown_set w g i v
  refine ⟨hg.os, hg.tape, hg.output, hg.size, fun k hk => ?_⟩
  by_cases e : k = g
  · subst e
    have h1 : BlkAt (w.setCell ⟨k, i, none⟩ v) k (vs.setIfInBounds i v) T := h.set_ i v
    have h2 : vs.setIfInBounds i v = vs := by
      apply Array.ext_getElem?
      intro j
      by_cases ej : i = j
      · subst ej
        rw [Array.getElem?_setIfInBounds_self_of_lt (Array.getElem?_eq_some_iff.1 hv).1, hv]
      · rw [Array.getElem?_setIfInBounds_ne ej]
    rw [h2] at h1
    exact (h1 : (w.setCell ⟨k, i, none⟩ v).heap[k]? = _).trans (h : w.heap[k]? = _).symm
  · exact hg.block k hk (by intro ee; cases ee; exact e rfl)
theorem form_one {t : Lx.Tk} {l : List Lx.Tk} (h : Sy.formS (t :: l) = true) : 1 ≤ l.length := by
  obtain ⟨q, hq, -, hl, -⟩ := Rs.form_fit Sy.F t l h
  have : ∀ q ∈ Sy.F, 1 ≤ q.2.length := by decide
  have := this q hq
  omega
set_option maxHeartbeats 8000000 in
theorem build_is {ss : List Sy.St} {R : Int × Int × Rs.Cfg} (hR : Rs.buildS Rs.noCfg ss = R) (A : Option Addr) (n c : Nat) (w : World) (hA : StmsAt w A ss) (hn : ss.length = n) (hn2 : n ≤ 100000) (hc : n ≤ c) (hKs : ∀ s ∈ ss, smallS s.2 = true) (hI : ∀ s ∈ ss, ∀ t ∈ s.2, I64 t.2.2) (hS : tokSum ss ≤ 880000) (hT : LexT w) :
    Calls Tryz.prog 26 #[.slice A n c] w (BuildV R w) := by
  have B0 := (Below.refl _ w).alloc (Nat.le_refl _) (.cells #[.slice none 0 0, .slice none 0 0, .slice none 0 0, .slice none 0 0] 27)
  have N0 := BlkAt.new w (cfgA noSV noSV noSV noSV) 27
  obtain ⟨w1, hw1⟩ : ∃ w1, w1 = w.alloc (.cells #[.slice none 0 0, .slice none 0 0, .slice none 0 0, .slice none 0 0] 27) := ⟨_, rfl⟩
  have hN0 : BlkAt w1 w.heap.size (cfgA noSV noSV noSV noSV) 27 := by rw [hw1]; exact N0
  have hB0 : Below w.heap.size w w1 := by rw [hw1]; exact B0
  have hN := Lib.hid hN0
  have HB0 := Lib.hid hB0
  have hz1 : w1.heap.size = w.heap.size + 1 := by rw [hw1]; exact Array.size_push ..
  have HZ1 := Lib.hid hz1
  have HA := Lib.hid hA
  have HI := Lib.hid hI
  have HKs := Lib.hid hKs
  clear hKs
  have HT := Lib.hid hT
  have HN := Lib.hid hn
  have HR0 : Hid (Rs.buildS Rs.noCfg (ss.drop 0) = R) := Lib.hid hR
  have HS0 : Hid (0 + tokSum (ss.drop 0) ≤ 880000) := Lib.hid (by simpa using hS)
  have HC := Lib.hid (actions_is w1)
  clear B0 N0 hN0 hB0 hA hI hT hn hR hS hz1
  go_enter Tryz.func26, Tryz.ntmps26
  go_wp2_with fail
  rw [← hw1]
  clear hw1
  refine HC.out.mono ?_
  rintro e w2 ⟨g1, g2, g3, g4, g5, rfl, b2, hTB, k1, k2, k3, k4, k5⟩
  have hz1 := HZ1.out
  have hz2 := b2.size
  have HTB := Lib.hid hTB
  have HK := Lib.hid (show w1.heap.size ≠ w.heap.size ∧ g1 ≠ w.heap.size ∧ g2 ≠ w.heap.size ∧ g3 ≠ w.heap.size ∧ g4 ≠ w.heap.size ∧ g5 ≠ w.heap.size by omega)
  have HB2 : Hid (Below w.heap.size w w2) := Lib.hid (HB0.out.trans (b2.mono (by omega)))
  have HO2 := Lib.hid (OwnC.init (hN.out.after b2) (show w.heap.size < w2.heap.size by omega) (Nat.le_refl _))
  obtain ⟨bc, hbc⟩ : ∃ bc, w.heap.size = bc := ⟨_, rfl⟩
  obtain ⟨lo, hlo⟩ : ∃ lo, w2.heap.size = lo := ⟨_, rfl⟩
  have HLO := Lib.hid hlo
  have HBC := Lib.hid hbc
  obtain ⟨M, hM⟩ : ∃ M, w1.heap.size = M := ⟨_, rfl⟩
  rw [hlo] at HTB HO2
  rw [hM] at HTB HK
  rw [hM]
  rw [hbc] at HO2 HK
  rw [hbc]
  clear b2 hTB k1 k2 k3 k4 k5 hN HC hz1 hz2 hM HZ1 HB0 hbc hlo
  go_wp2_with fail
  go_loopw [11] (fun i wr => ∃ (k N : Nat) (C : Rs.Cfg) (vs : Key → SV), k ≤ n ∧ i = .int .i64 k ∧ Hid (OwnC wr bc lo vs C) ∧ Hid (GoodC N C) ∧ Hid (N + tokSum (ss.drop k) ≤ 880000) ∧ Hid (Rs.buildS C (ss.drop k) = R) ∧ Hid (But bc lo w2 wr)) (fun i _ => n - (intOf i).toNat)
  case atStart => exact ⟨0, 0, _, _, Nat.zero_le _, rfl, HO2, Lib.hid GoodC.no, HS0, HR0, Lib.hid (But.refl _ _ _)⟩
  case round =>
    clear HR0 HS0 HO2
    obtain ⟨k, N, C, vs, hk, rfl, HO, HG, HS, HR, HB⟩ := hrel
    by_cases hltk : k < n
    · obtain ⟨x, hx⟩ := get_ex (xs := ss) (i := k) (by rw [HN.out]; exact hltk)
      have hBW : Below w.heap.size w wr := HB.out.back HB2.out (by have := HBC.out; omega) (by have := HLO.out; have := HB2.out.size; omega)
      obtain ⟨line, ts⟩ := x
      obtain ⟨b, off, T, cc, ea, hbl, q0, q1, hcc, h600, hTk⟩ := HA.out.get hx
      subst ea
      simp only at q0 q1 hcc h600 hTk
      have hst := HR.out
      rw [drop_cons' hx] at hst
      have hsu := HS.out
      rw [drop_cons' hx] at hsu
      obtain ⟨m, hm⟩ : ∃ m, ts.length = m := ⟨_, rfl⟩
      rw [hm] at q1 hcc h600
      have c0 := cell_lift (p := ⟨b, off + k * 2, none⟩) q0 hBW
      have c1 := cell_lift (p := ⟨b, off + k * 2 + 1, none⟩) q1 hBW
      have BS := (Below.refl _ wr).alloc (Nat.le_refl _) (.cells #[.int .i64 line, .slice T m cc] 108)
      have N1 := Lib.hid (BlkAt.new wr #[.int .i64 line, .slice T m cc] 108)
      have i1 : ((k : Int) + 1) ≤ 9223372036854775807 := by omega
      have HST := Lib.hid hst
      have HSU := Lib.hid hsu
      have HTK := Lib.hid hTk
      have HX := Lib.hid hx
      have HM := Lib.hid hm
      have HBW := Lib.hid hBW
      have HBS := Lib.hid BS
      have nb1 : wr.heap.size ≠ bc := by have := HO.out.lt; have := HO.out.le; omega
      have nb2 : bc ≠ wr.heap.size := by omega
      cases hf : Sy.formS ts with
      | false =>
        have CF := Lib.hid (form_is hf T m cc _ ((hTk.below hBW).below BS) hm hcc (by omega))
        have HRE := Lib.hid (show R = (2, line, Rs.noCfg) by rw [← hst, Rs.buildS]; simp [hf])
        have HF := Lib.hid hf
        have hOC := HO.out.below BS
        have HOC := Lib.hid hOC
        clear q0 q1 hTk hst hsu hx hm hBW BS hf hOC
        go_wp2_with fail
        refine CF.out.mono ?_
        rintro e w4 ⟨rfl, b4⟩
        have s0 := (N1.out.after b4).cell (i := 0) rfl
        have HO4 := Lib.hid (HOC.out.below b4)
        obtain ⟨v0, v1, v2, v3⟩ := HO4.out.slices
        have f0 := HO4.out.free 0
        have f1 := HO4.out.free 1
        have f2 := HO4.out.free 2
        have f3 := HO4.out.free 3
        have B4 := Lib.hid ((bstepA HBW.out b4 : Below w.heap.size w w4))
        clear b4
        go_wp2_with fail
        go_region
        go_wp2_with fail
        refine bodyPost_ret (v := .tuple #[cfgV noSV noSV noSV noSV, .int .i64 line, .int .i64 2]) (by simp [results, Tryz.results26, go_sem, v0, v1, v2, v3, f0, f1, f2, f3]; rfl) rfl ?_
        have hb := Nat.le_of_eq HBC.out
        exact BuildV.zero HRE.out ((((B4.out.setCell (p := ⟨bc, 0, none⟩) hb _).setCell (p := ⟨bc, 1, none⟩) hb _).setCell (p := ⟨bc, 2, none⟩) hb _).setCell (p := ⟨bc, 3, none⟩) hb _).drew
      | true =>
        cases ts with
        | nil => rw [Sy.form_nil] at hf; cases hf
        | cons t l =>
          have hl1 := form_one hf
          have CF := Lib.hid (form_is hf T m cc _ ((hTk.below hBW).below BS) hm hcc (by omega))
          have HF := Lib.hid hf
          have hOC := HO.out.below BS
          have HOC := Lib.hid hOC
          have hm0 : 1 + l.length = m := by simp at hm; omega
          have hIl : ∀ u ∈ l, I64 u.2.2 := fun u hu => HI.out _ (List.mem_of_getElem? HX.out) u (List.mem_cons_of_mem _ hu)
          have HIL := Lib.hid hIl
          have HGS := Lib.hid (good_step (t := t) HG.out hIl)
          have hsk : N + ((t :: l).length + tokSum (ss.drop (k + 1))) ≤ 880000 := HSU.out
          have HSK : Hid (N + (t :: l).length + tokSum (ss.drop (k + 1)) ≤ 880000) := Lib.hid (by omega)
          have HEQ : Hid (Rs.buildS C ((line, t :: l) :: ss.drop (k + 1)) = if (Rs.stepS C (t :: l)).1 ≠ 0 then ((Rs.stepS C (t :: l)).1, line, Rs.noCfg) else Rs.buildS (Rs.stepS C (t :: l)).2 (ss.drop (k + 1))) := Lib.hid (by rw [Rs.buildS]; simp [hf])
          clear q0 q1 hst hsu hx hm hBW BS hf hOC hIl hsk
          have z0 : (0 : Int) < m := by omega
          have z1 : (1 : Int) ≤ m := by omega
          have z3 : 0 < m := by omega
          have z4 : 1 ≤ m := by omega
          have z5 : 1 ≤ cc := by omega
          have z6 : m ≤ cc := by omega
          have z7 : ¬ cc = 1 := by omega
          have HM0 := Lib.hid hm0
          clear hm0
          have z2 : (1 : Int) ≤ cc := by omega
          obtain ⟨tb, tf, ea, hbt, hct⟩ := hTk (by simp)
          subst ea
          clear hTk
          go_wp2_with fail
          refine CF.out.mono ?_
          rintro e w4 ⟨rfl, b4⟩
          obtain ⟨w5, hw5⟩ : ∃ w5, w5 = w4.drew := ⟨_, rfl⟩
          have b5 : Below (wr.alloc (.cells #[.int .i64 line, .slice (some ⟨tb, tf, none⟩) m cc] 108)).heap.size (wr.alloc (.cells #[.int .i64 line, .slice (some ⟨tb, tf, none⟩) m cc] 108)) w5 := by rw [hw5]; exact b4.drew
          have HN5 := Lib.hid (N1.out.after b5)
          have s1 : w5.cell? ⟨wr.heap.size, 1, none⟩ = some (.slice (some ⟨tb, tf, none⟩) m cc) := HN5.out.cell rfl
          have HO5 := Lib.hid (HOC.out.below b5)
          have hB5 := bstepA HBW.out b5
          have HB5 := Lib.hid hB5
          have HBT := Lib.hid (HB.out.trans (.of_below (bc := bc) (bstepA (Below.refl _ _) b5) HO.out.le))
          have tk : w5.cell? ⟨tb, tf + 1, none⟩ = some (.string ⟨t.2.1.toArray⟩) := cell_lift (p := ⟨tb, tf + 1, none⟩) (by have := hct 0 t rfl 1 (by decide); simpa [eTok] using this) hB5
          have hTl : ListAt 3 eTok w5 (some ⟨tb, tf + 1 * 3, none⟩) l := ((HTK.out.below hB5).rest 1)
          obtain ⟨f, cap, hin, hcall⟩ := step_is HF.out (HKs.out _ (List.mem_of_getElem? HX.out)) (some ⟨tb, tf + 3, none⟩) (m - 1) (cc - 1) bc lo vs w5 HO5.out HG.out (by have := HSU.out; omega) ⟨hTl, fun ad ea => by cases ea; show tb < bc; have := HBC.out; omega, HIL.out⟩ (by have := HM0.out; omega) (by omega) (by omega) (HT.out.below hB5) (HTB.out.stay HBT.out HK.out.1 HK.out.2.1 HK.out.2.2.1 HK.out.2.2.2.1 HK.out.2.2.2.2.1 HK.out.2.2.2.2.2)
          have look := (HTB.out.stay HBT.out HK.out.1 HK.out.2.1 HK.out.2.2.1 HK.out.2.2.2.1 HK.out.2.2.2.2.1 HK.out.2.2.2.2.2).look hin
          obtain ⟨⟨er, C2⟩, hp⟩ : ∃ p, Rs.stepS C (t :: l) = p := ⟨_, rfl⟩
          have HG2 := HGS.out
          have HE2 := HEQ.out
          rw [hp] at hcall HG2 HE2
          simp only at HG2 HE2
          have HIN := Lib.hid hin
          have HCA := Lib.hid hcall
          have HG3 := Lib.hid HG2
          have HE3 := Lib.hid HE2
          clear b4 b5 hB5 hTl hcall hin hbt hct hp HG2 HE2 HGS HEQ HIL
          go_wp2_with fail
          refine wp_region_still_tail 10 (by kernel_rfl) (by kernel_rfl) ?_
          simp only [List.take_succ_cons, List.take_zero, List.drop_succ_cons, List.drop_zero]
          change wpStill _ _ (World.drew w4) (fun a' => wpList _ _ _ _ a' (World.drew w4)) _ _
          rw [← hw5]
          clear hw5
          repeat still_step
          refine wpStill_nil ?_
          have hin := HIN.out
          have hcall := HCA.out
          clear HIN HCA look
          simp only [tblL, List.mem_cons, List.not_mem_nil, or_false, Prod.mk.injEq, Value.func.injEq, Fn.func.injEq, true_and, and_true] at hin
          by_cases hz : er = 0
          · subst hz
            have HR2 : Hid (Rs.buildS C2 (ss.drop (k + 1)) = R) := Lib.hid (by rw [← HST.out, HE3.out]; simp)
            have HG4 := Lib.hid (HG3.out rfl)
            clear HG3 HE3 HST
            rcases hin with ⟨-, rfl, rfl⟩ | ⟨-, rfl, rfl⟩ | ⟨-, rfl, rfl⟩ | ⟨-, rfl, rfl⟩ | ⟨-, rfl, rfl⟩ | ⟨-, rfl, rfl⟩ | ⟨-, rfl, rfl⟩ | ⟨-, rfl, rfl⟩ | ⟨-, rfl, rfl⟩ | ⟨-, rfl, rfl⟩ | ⟨-, rfl, rfl⟩ | ⟨-, rfl, rfl⟩ | ⟨-, rfl, rfl⟩ | ⟨-, rfl, rfl⟩ | ⟨-, rfl, rfl⟩
            all_goals
              simp only [List.append_toArray, List.cons_append, List.nil_append] at hcall
              have HCA := Lib.hid hcall
              clear hcall
              go_wp2_with fail
              refine HCA.out.mono ?_
              rintro e w6 ⟨rfl, hbut, hown, -⟩
              obtain ⟨vs2, ho⟩ := hown rfl
              have HO6 := Lib.hid ho
              have HB6 := Lib.hid (HBT.out.trans hbut)
              clear hbut hown ho HCA
              go_wp2_with fail
              go_roundw
              case rel => exact ⟨k + 1, N + (t :: l).length, C2, vs2, by omega, by go_num, HO6, HG4, HSK, HR2, HB6⟩
              case measure => simp [intOf]; omega
          · have HR2 : Hid (R = (er, line, Rs.noCfg)) := Lib.hid (by rw [← HST.out, HE3.out]; simp [hz])
            have hz1 : (er != 0) = true := by simpa using hz
            have HZ := Lib.hid hz
            clear HG3 HE3 HST hz
            rcases hin with ⟨-, rfl, rfl⟩ | ⟨-, rfl, rfl⟩ | ⟨-, rfl, rfl⟩ | ⟨-, rfl, rfl⟩ | ⟨-, rfl, rfl⟩ | ⟨-, rfl, rfl⟩ | ⟨-, rfl, rfl⟩ | ⟨-, rfl, rfl⟩ | ⟨-, rfl, rfl⟩ | ⟨-, rfl, rfl⟩ | ⟨-, rfl, rfl⟩ | ⟨-, rfl, rfl⟩ | ⟨-, rfl, rfl⟩ | ⟨-, rfl, rfl⟩ | ⟨-, rfl, rfl⟩
            all_goals
              simp only [List.append_toArray, List.cons_append, List.nil_append] at hcall
              have HCA := Lib.hid hcall
              clear hcall
              go_wp2_with fail
              refine HCA.out.mono ?_
              rintro e w6 ⟨rfl, hbut, -, hstm⟩
              have N6 : BlkAt w6 wr.heap.size #[.int .i64 line, .slice (some ⟨tb, tf, none⟩) m cc] 108 := (hstm HZ.out _ _ _ _ (.inl rfl) HN5.out).trans HN5.out
              have O6 : BlkAt w6 bc (cfgA (vs .zn) (vs .pe) (vs .ca) (vs .sc)) 27 := (hstm HZ.out _ _ _ _ (.inr rfl) HO5.out.blk).trans HO5.out.blk
              have s0 : w6.cell? ⟨wr.heap.size, 0, none⟩ = some (.int .i64 line) := N6.cell rfl
              obtain ⟨v0, v1, v2, v3⟩ : w6.cell? ⟨bc, 0, none⟩ = some (.slice (vs .zn).1 (vs .zn).2.1 (vs .zn).2.2) ∧ w6.cell? ⟨bc, 1, none⟩ = some (.slice (vs .pe).1 (vs .pe).2.1 (vs .pe).2.2) ∧ w6.cell? ⟨bc, 2, none⟩ = some (.slice (vs .ca).1 (vs .ca).2.1 (vs .ca).2.2) ∧ w6.cell? ⟨bc, 3, none⟩ = some (.slice (vs .sc).1 (vs .sc).2.1 (vs .sc).2.2) := ⟨O6.cell rfl, O6.cell rfl, O6.cell rfl, O6.cell rfl⟩
              have f0 := O6.free 0
              have f1 := O6.free 1
              have f2 := O6.free 2
              have f3 := O6.free 3
              have B6 := Lib.hid ((HBT.out.trans hbut).back HB2.out (Nat.le_of_eq HBC.out) (by have := HLO.out; have := HB2.out.size; omega))
              clear hbut hstm N6 O6 HCA s1 tk
              go_wp2_with fail
              go_region
              go_wp2_with fail
              refine bodyPost_ret (v := .tuple #[cfgV noSV noSV noSV noSV, .int .i64 line, .int .i64 er]) (by simp [results, Tryz.results26, go_sem, v0, v1, v2, v3, f0, f1, f2, f3]; rfl) rfl ?_
              have hb := Nat.le_of_eq HBC.out
              exact BuildV.zero HR2.out ((((B6.out.setCell (p := ⟨bc, 0, none⟩) hb _).setCell (p := ⟨bc, 1, none⟩) hb _).setCell (p := ⟨bc, 2, none⟩) hb _).setCell (p := ⟨bc, 3, none⟩) hb _).drew
    · have hkn : k = n := by omega
      subst hkn
      have hd : ss.drop k = [] := List.drop_of_length_le (by rw [HN.out]; omega)
      have hr := HR.out
      rw [hd, Rs.buildS] at hr
      obtain ⟨q, hq⟩ : ∃ q, Rs.chkS C = q := ⟨_, rfl⟩
      rw [hq] at hr
      have hcf := HO.out.cfg (HG.out.mono (show N ≤ 1000000 by have := HS.out; omega)) (by omega)
      have hcl := HO.out.cfgL (HG.out.mono (show N ≤ 1000000 by have := HS.out; omega)) (by omega)
      have hbw : Below w.heap.size w wr := HB.out.back HB2.out (by have := HBC.out; omega) (by have := HLO.out; have := HB2.out.size; omega)
      have HBW := Lib.hid hbw
      have hsl := HO.out.slices
      obtain ⟨vz, hvz⟩ : ∃ v, vs .zn = v := ⟨_, rfl⟩
      obtain ⟨vp, hvp⟩ : ∃ v, vs .pe = v := ⟨_, rfl⟩
      obtain ⟨vc, hvc⟩ : ∃ v, vs .ca = v := ⟨_, rfl⟩
      obtain ⟨vs4, hvs4⟩ : ∃ v, vs .sc = v := ⟨_, rfl⟩
      have hblk := HO.out.blk
      rw [hvz, hvp, hvc, hvs4] at hsl hcf hblk hcl
      obtain ⟨P1, p1, q1⟩ := vz
      obtain ⟨P2, p2, q2⟩ := vp
      obtain ⟨P3, p3, q3⟩ := vc
      obtain ⟨P4, p4, q4⟩ := vs4
      simp only at hsl
      obtain ⟨v0, v1, v2, v3⟩ := hsl
      have HCK := Lib.hid (check_cfg hq P1 P2 P3 P4 p1 q1 p2 q2 p3 q3 p4 q4 wr hcf (HT.out.below hbw).civ)
      have HCF := Lib.hid (hcl.mono (show w.heap.size ≤ lo by have := HLO.out; have := HB2.out.size; omega) (Nat.le_refl _))
      have HBL := Lib.hid hblk
      have HHR := Lib.hid hr
      have HGG := Lib.hid (HG.out.mono (show N ≤ 1000000 by have := HS.out; omega))
      clear hd hr hcf hcl hbw hblk hvz hvp hvc hvs4 hq
      by_cases hz : q = 0
      · subst hz
        have HRR : Hid (R = (0, 0, C)) := Lib.hid (by rw [← HHR.out]; simp)
        clear HHR HR
        go_wp2_with fail
        refine HCK.out.mono ?_
        rintro e w4 ⟨rfl, b4⟩
        have N4 := HBL.out.after b4
        have u0 : w4.cell? ⟨bc, 0, none⟩ = some (.slice P1 p1 q1) := N4.cell rfl
        have u1 : w4.cell? ⟨bc, 1, none⟩ = some (.slice P2 p2 q2) := N4.cell rfl
        have u2 : w4.cell? ⟨bc, 2, none⟩ = some (.slice P3 p3 q3) := N4.cell rfl
        have u3' : w4.cell? ⟨bc, 3, none⟩ = some (.slice P4 p4 q4) := N4.cell rfl
        have f0 := N4.free 0
        have f1 := N4.free 1
        have f2 := N4.free 2
        have f3 := N4.free 3
        have HN4 := Lib.hid N4
        have HC4 := Lib.hid ((HCF.out.below (Nat.le_refl _) b4).mono (Nat.le_refl _) b4.size)
        have HB4 := Lib.hid (bstep HBW.out b4)
        clear b4 N4 HCK v0 v1 v2 v3
        go_wp2_with fail
        refine bodyPost_ret (v := .tuple #[cfgV (P1, p1, q1) (P2, p2, q2) (P3, p3, q3) (P4, p4, q4), .int .i64 0, .int .i64 0]) (by simp [results, Tryz.results26, go_sem, u0, u1, u2, u3', f0, f1, f2, f3]; rfl) rfl ?_
        have hb := Nat.le_of_eq HBC.out
        have k0 := same_set HN4.out (i := 0) (v := .slice P1 p1 q1) rfl
        have k1 := same_set (HN4.out.after k0) (i := 1) (v := .slice P2 p2 q2) rfl
        have k2 := same_set ((HN4.out.after k0).after k1) (i := 2) (v := .slice P3 p3 q3) rfl
        have k3 := same_set (((HN4.out.after k0).after k1).after k2) (i := 3) (v := .slice P4 p4 q4) rfl
        have kk := bstep (bstep (bstep k0 k1) k2) k3
        refine ⟨(P1, p1, q1), (P2, p2, q2), (P3, p3, q3), (P4, p4, q4), by rw [HRR.out], bstep HB4.out kk, ?_, by rw [HRR.out]; exact HGG.out⟩
        rw [HRR.out]
        exact (HC4.out.below (Nat.le_refl _) kk).mono (Nat.le_refl _) kk.size
      · have HRR : Hid (R = (q, 0, Rs.noCfg)) := Lib.hid (by rw [← HHR.out]; simp [hz])
        have hz1 : (q != 0) = true := by simpa using hz
        clear HHR HR hz
        go_wp2_with fail
        refine HCK.out.mono ?_
        rintro e w4 ⟨rfl, b4⟩
        have N4 := HBL.out.after b4
        have u0 : w4.cell? ⟨bc, 0, none⟩ = some (.slice P1 p1 q1) := N4.cell rfl
        have u1 : w4.cell? ⟨bc, 1, none⟩ = some (.slice P2 p2 q2) := N4.cell rfl
        have u2 : w4.cell? ⟨bc, 2, none⟩ = some (.slice P3 p3 q3) := N4.cell rfl
        have u3' : w4.cell? ⟨bc, 3, none⟩ = some (.slice P4 p4 q4) := N4.cell rfl
        have f0 := N4.free 0
        have f1 := N4.free 1
        have f2 := N4.free 2
        have f3 := N4.free 3
        have HB4 := Lib.hid (bstep HBW.out b4)
        clear b4 N4 HCK v0 v1 v2 v3
        go_wp2_with fail
        refine bodyPost_ret (v := .tuple #[cfgV noSV noSV noSV noSV, .int .i64 0, .int .i64 q]) (by simp [results, Tryz.results26, go_sem, u0, u1, u2, u3', f0, f1, f2, f3]; rfl) rfl ?_
        have hb := Nat.le_of_eq HBC.out
        exact BuildV.zero HRR.out ((((HB4.out.setCell (p := ⟨bc, 0, none⟩) hb _).setCell (p := ⟨bc, 1, none⟩) hb _).setCell (p := ⟨bc, 2, none⟩) hb _).setCell (p := ⟨bc, 3, none⟩) hb _)
end Go.Proofs.YtphenbfhojdcpaaGreatDoor
