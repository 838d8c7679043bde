/- Package zone's First. -/
import Derived.Test.YtegnfmpbhindaaaDoorZnh
namespace Go.Proofs.YtegnfmpbhindaaaDoor
open Go.RowKit
set_option linter.unusedVariables false
set_option linter.unusedSimpArgs false

/-- The least instant whose local time is at least this one, and the error. -/
def fstR (f : Option Int) : Int := match f with | none => 0 | some t => t
def fstC (f : Option Int) : Int := match f with | none => 10 | some _ => 0
def fstV (off : Int) (ts : Zn.L) (er d s : Int) : Int := if er ≠ 0 then 0 else if Zn.okD s = false then 0 else fstR (Zn.fst (Zn.locS d s) (Zn.strs 0 off ts))
def fstE (off : Int) (ts : Zn.L) (er d s : Int) : Int := if er ≠ 0 then 8 else if Zn.okD s = false then 1 else fstC (Zn.fst (Zn.locS d s) (Zn.strs 0 off ts))
def GivesF (v er : Int) (w : World) (e : Ending) (w' : World) : Prop := e = .returned (.tuple #[.int .i64 v, .int .i64 er]) ∧ Below w.heap.size w w'

set_option maxHeartbeats 8000000 in
set_option maxRecDepth 100000 in
theorem first_ok {off : Int} {rs : List Zn.Rule} {ts : Zn.L} (h : Zn.trans off rs = (ts, 0)) (s : ByteArray) (A : Option Addr) (n c : Nat) (d sec : Int) (w : World) (hz : ZIn w A n rs) (ho : I64 off) (hd : I64 d) (hs : Zn.okD sec = true) :
    Calls Tryd.prog 30 #[.agg #[.string s, .int .i64 off, .slice A n c], .agg #[.int .i64 d, .int .i64 sec]] w (GivesF (fstR (Zn.fst (Zn.locS d sec) (Zn.strs 0 off ts))) (fstC (Zn.fst (Zn.locS d sec) (Zn.strs 0 off ts))) w) := by
  have C := Lib.hid (stretches_is h s A n c _ ((hz.alloc (.cells #[.string s, .int .i64 off, .slice A n c] 27)).alloc (.cells #[.int .i64 d, .int .i64 sec] 52)) ho)
  obtain ⟨k1, k2, k3, k4, k5, k6, k7, k8⟩ := Zn.trans_ok h
  have hbd := Zn.strs_bd (Int.le_refl 0) (by omega) k1 k6 (Int.le_refl 0) k8
  have HBD := Lib.hid hbd
  have CD := fun W => inDay_any sec W
  rw [hs] at CD
  have CL := fun W => locSec_any d sec W hd hs
  have hv := Zn.locS_bd (d := d) hs
  obtain ⟨v, hvv⟩ : ∃ v, Zn.locS d sec = v := ⟨_, rfl⟩
  rw [hvv] at CL hv ⊢
  obtain ⟨v1, v2⟩ := hv
  obtain ⟨q, hq⟩ : ∃ q, (Zn.strs 0 off ts).length = q := ⟨_, rfl⟩
  have hq2 : q ≤ 641 := by rw [← hq, Zn.strs_len]; omega
  have HQ := Lib.hid hq
  have HCD := Lib.hid CD
  have HCL := Lib.hid CL
  obtain ⟨ss, hss⟩ : ∃ ss, Zn.strs 0 off ts = ss := ⟨_, rfl⟩
  rw [hss] at C HBD HQ hq ⊢
  clear hz h k1 k2 k3 k4 k5 k6 k7 k8 hbd CD CL hvv hss hs hd
  go_enter Tryd.func30, Tryd.ntmps30
  go_wp2_with fail
  refine C.out.mono ?_
  rintro e w1 ⟨A1, c1, rfl, hP, hb⟩
  rw [hq]
  have l1 : w1.cell? ⟨w.heap.size + 1, 1, none⟩ = some (.int .i64 sec) := by
    have e := BlkAt.cell (BlkAt.after (BlkAt.new (w.alloc (.cells #[.string s, .int .i64 off, .slice A n c] 27)) #[.int .i64 d, .int .i64 sec] 52) hb) (i := 1) rfl
    simpa using e
  have l0 : w1.cell? ⟨w.heap.size + 1, 0, none⟩ = some (.int .i64 d) := by
    have e := BlkAt.cell (BlkAt.after (BlkAt.new (w.alloc (.cells #[.string s, .int .i64 off, .slice A n c] 27)) #[.int .i64 d, .int .i64 sec] 52) hb) (i := 0) rfl
    simpa using e
  have HB := Lib.hid (two_boxes hb)
  have HP := Lib.hid hP
  obtain ⟨bl, hbl⟩ : ∃ bl, w.heap.size + 1 = bl := ⟨_, rfl⟩
  rw [hbl] at l0 l1 ⊢
  have HBL := Lib.hid hbl
  clear hb hP hq hbl
  go_wp2_with (go_at_call 49; refine (HCD.out _).mono ?_; rintro e w' ⟨rfl, rfl⟩)
  obtain ⟨r, hr⟩ : ∃ r, Zn.fst v ss = r := ⟨_, rfl⟩
  have HR := Lib.hid hr
  have HR0 : Hid (Zn.fst v (ss.drop 0) = r) := Lib.hid hr
  clear hr
  go_loopw [24] (fun i wr => ∃ k : Nat, k ≤ q ∧ i = .int .i64 k ∧ Hid (Zn.fst v (ss.drop k) = r) ∧ Hid (Below w1.heap.size w1 wr)) (fun i _ => q - (intOf i).toNat)
  case atStart => exact ⟨0, Nat.zero_le _, rfl, HR0, Lib.hid (Below.refl _ _)⟩
  case round =>
    clear HR0
    obtain ⟨k, hk, rfl, HO, HB2⟩ := hrel
    by_cases hlt : k < q
    · obtain ⟨⟨f, l, o⟩, hx⟩ := get_ex (xs := ss) (i := k) (by have := HQ.out; omega)
      obtain ⟨b, of, rfl, hbb, hc⟩ := (HP.out.below HB2.out) (by have := HQ.out; omega)
      obtain ⟨c0, c1, -, c2⟩ := trip_cells (hc k _ hx)
      simp only at c0 c1 c2
      have hbd := HBD.out _ (List.mem_of_getElem? hx)
      simp only at hbd
      obtain ⟨b1, b2, b3, b4, b5, b6⟩ := hbd
      have hsn := fst_step (v := v) hx
      rw [HO.out] at hsn
      obtain ⟨m, hmm⟩ : ∃ m, max (v - o) f = m := ⟨_, rfl⟩
      have m0 := cell_keep l0 HB2.out
      have m1 := cell_keep l1 HB2.out
      have S0 := keepL (W0 := wr.alloc (.cells #[.int .i64 f, .int .i64 l, .int .i64 o] 85)) (W := wr.alloc (.cells #[.int .i64 f, .int .i64 l, .int .i64 o] 85)) ⟨cell_keep m0 ((Below.refl _ _).alloc (Nat.le_refl _) _), cell_keep m1 ((Below.refl _ _).alloc (Nat.le_refl _) _), BlkAt.cell (BlkAt.new wr #[.int .i64 f, .int .i64 l, .int .i64 o] 85) (i := 0) rfl, BlkAt.cell (BlkAt.new wr #[.int .i64 f, .int .i64 l, .int .i64 o] 85) (i := 1) rfl, BlkAt.cell (BlkAt.new wr #[.int .i64 f, .int .i64 l, .int .i64 o] 85) (i := 2) rfl, Below.refl _ _⟩ (Below.refl _ _).drew
      have S1 := keepL (W0 := wr.alloc (.cells #[.int .i64 f, .int .i64 l, .int .i64 o] 85)) (W := wr.alloc (.cells #[.int .i64 f, .int .i64 l, .int .i64 o] 85)) ⟨cell_keep m0 ((Below.refl _ _).alloc (Nat.le_refl _) _), cell_keep m1 ((Below.refl _ _).alloc (Nat.le_refl _) _), BlkAt.cell (BlkAt.new wr #[.int .i64 f, .int .i64 l, .int .i64 o] 85) (i := 0) rfl, BlkAt.cell (BlkAt.new wr #[.int .i64 f, .int .i64 l, .int .i64 o] 85) (i := 1) rfl, BlkAt.cell (BlkAt.new wr #[.int .i64 f, .int .i64 l, .int .i64 o] 85) (i := 2) rfl, Below.refl _ _⟩ (Below.refl _ _)
      have s1 : IntKind.i64.wrap (v - o) = v - o := by rw [IntKind.wrap_i64]; omega
      have HSN := Lib.hid hsn
      have B1 := Lib.hid (HB2.out.alloc HB2.out.size (.cells #[.int .i64 f, .int .i64 l, .int .i64 o] 85))
      rw [hmm] at HSN
      have HMM := Lib.hid hmm
      clear hc hx hsn HO HB2 hmm
      as_aux_lemma =>
      go_upto_region 9 with fail
      go_cut [10] (fun t wx => t = .int .i64 m ∧ Hid (wx.cell? ⟨bl, 0, none⟩ = some (.int .i64 d) ∧ wx.cell? ⟨bl, 1, none⟩ = some (.int .i64 sec) ∧ wx.cell? ⟨wr.heap.size, 0, none⟩ = some (.int .i64 f) ∧ wx.cell? ⟨wr.heap.size, 1, none⟩ = some (.int .i64 l) ∧ wx.cell? ⟨wr.heap.size, 2, none⟩ = some (.int .i64 o) ∧ Below (wr.alloc (.cells #[.int .i64 f, .int .i64 l, .int .i64 o] 85)).heap.size (wr.alloc (.cells #[.int .i64 f, .int .i64 l, .int .i64 o] 85)) wx))
      case first =>
       as_aux_lemma =>
        go_region_held3 (fun W => W.cell? ⟨bl, 0, none⟩ = some (.int .i64 d) ∧ W.cell? ⟨bl, 1, none⟩ = some (.int .i64 sec) ∧ W.cell? ⟨wr.heap.size, 0, none⟩ = some (.int .i64 f) ∧ W.cell? ⟨wr.heap.size, 1, none⟩ = some (.int .i64 l) ∧ W.cell? ⟨wr.heap.size, 2, none⟩ = some (.int .i64 o) ∧ Below (wr.alloc (.cells #[.int .i64 f, .int .i64 l, .int .i64 o] 85)).heap.size (wr.alloc (.cells #[.int .i64 f, .int .i64 l, .int .i64 o] 85)) W)
          (first | (exact S0) | (exact keepL S1 (Below.refl _ _).drew) | assumption | (exact keepL (by assumption) hb))
          (first | (go_at_call 50; refine (HCL.out _).mono ?_; rintro e w' ⟨rfl, hb⟩))
        all_goals
          go_wp2_with fail
          go_meet
          exact ⟨by rw [← HMM.out], Lib.hid (by assumption)⟩
      case rest =>
        obtain ⟨rfl, HCC⟩ := hcut
        obtain ⟨z0, z1, z2, z3, z4, zb⟩ := HCC.out
        have B2 := Lib.hid (bstep B1.out zb)
        clear zb z0 z1 z4 HCC B1 S0 S1 HMM
        by_cases p1 : m ≤ l
        · have e := HSN.out
          rw [if_pos p1] at e
          have HE := Lib.hid e
          have B4 := Lib.hid (HB.out.trans (B2.out.mono HB.out.size))
          clear e HSN
          as_aux_lemma =>
          go_wp2_with fail
          go_ret2
          exact ⟨by rw [HR.out, HE.out]; rfl, B4.out⟩
        · have e := HSN.out
          rw [if_neg p1] at e
          have HE := Lib.hid e.symm
          clear e HSN
          as_aux_lemma =>
          go_wp2_with fail
          go_roundw
          case rel => exact ⟨k + 1, by omega, by go_num, HE, B2⟩
          case measure => simp [intOf]; omega
    · have hkk : ss.drop k = [] := List.drop_of_length_le (by have := HQ.out; omega)
      have e := HO.out
      rw [hkk] at e
      have HE := Lib.hid e.symm
      have B4 := Lib.hid (HB.out.trans (HB2.out.mono HB.out.size))
      clear hkk e HO
      as_aux_lemma =>
      go_wp2_with fail
      go_ret2
      exact ⟨by rw [HR.out, HE.out]; rfl, B4.out⟩

set_option maxHeartbeats 2000000 in
theorem first_is {off : Int} {rs : List Zn.Rule} {ts : Zn.L} {er : Int} (h : Zn.trans off rs = (ts, er)) (s : ByteArray) (A : Option Addr) (n c : Nat) (d sec : Int) (w : World) (hz : ZIn w A n rs) (ho : I64 off) (hd : I64 d) :
    Calls Tryd.prog 30 #[.agg #[.string s, .int .i64 off, .slice A n c], .agg #[.int .i64 d, .int .i64 sec]] w (GivesF (fstV off ts er d sec) (fstE off ts er d sec) w) := by
  by_cases he : er = 0
  · subst he
    cases hs : Zn.okD sec
    · have C := Lib.hid (stretches_is h s A n c _ ((hz.alloc (.cells #[.string s, .int .i64 off, .slice A n c] 27)).alloc (.cells #[.int .i64 d, .int .i64 sec] 52)) ho)
      have CD := fun W => inDay_any sec W
      rw [hs] at CD
      have HCD := Lib.hid CD
      have hv : fstV off ts 0 d sec = 0 ∧ fstE off ts 0 d sec = 1 := by unfold fstV fstE; simp [hs]
      rw [hv.1, hv.2]
      clear hz h hs CD hv
      go_enter Tryd.func30, Tryd.ntmps30
      go_wp2_with fail
      refine C.out.mono ?_
      rintro e w1 ⟨A1, c1, rfl, hP, hb⟩
      have l1 : w1.cell? ⟨w.heap.size + 1, 1, none⟩ = some (.int .i64 sec) := by
        have e := BlkAt.cell (BlkAt.after (BlkAt.new (w.alloc (.cells #[.string s, .int .i64 off, .slice A n c] 27)) #[.int .i64 d, .int .i64 sec] 52) hb) (i := 1) rfl
        simpa using e
      have HB := Lib.hid (two_boxes hb)
      clear hb hP
      go_wp2_with (go_at_call 49; refine (HCD.out _).mono ?_; rintro e w' ⟨rfl, rfl⟩)
      go_ret2
      exact ⟨rfl, HB.out⟩
    · have hv : fstV off ts 0 d sec = fstR (Zn.fst (Zn.locS d sec) (Zn.strs 0 off ts)) ∧ fstE off ts 0 d sec = fstC (Zn.fst (Zn.locS d sec) (Zn.strs 0 off ts)) := by unfold fstV fstE; simp [hs]
      rw [hv.1, hv.2]
      exact first_ok h s A n c d sec w hz ho hd hs
  · have C := Lib.hid (stretches_bad h he s A n c _ ((hz.alloc (.cells #[.string s, .int .i64 off, .slice A n c] 27)).alloc (.cells #[.int .i64 d, .int .i64 sec] 52)) ho)
    have hv : fstV off ts er d sec = 0 ∧ fstE off ts er d sec = 8 := by unfold fstV fstE; simp [he]
    rw [hv.1, hv.2]
    clear hz h hv he
    go_enter Tryd.func30, Tryd.ntmps30
    go_wp2_with fail
    refine C.out.mono ?_
    rintro e w1 ⟨rfl, hb⟩
    go_wp2_with fail
    go_ret2
    exact ⟨rfl, two_boxes hb⟩
end Go.Proofs.YtegnfmpbhindaaaDoor
