/- Package zone's FromLocal and First. -/
import Derived.Test.YtegnfmpbhindaaaDoorZng
namespace Go.Proofs.YtegnfmpbhindaaaDoor
open Go.RowKit
set_option linter.unusedVariables false
set_option linter.unusedSimpArgs false

set_option maxHeartbeats 2000000 in
theorem stretches_bad {off : Int} {rs : List Zn.Rule} {ts : Zn.L} {er : Int} (h : Zn.trans off rs = (ts, er)) (he : er ≠ 0) (s : ByteArray) (A : Option Addr) (n c : Nat) (w : World) (hz : ZIn w A n rs) (ho : I64 off) :
    Calls Tryd.prog 48 #[.agg #[.string s, .int .i64 off, .slice A n c]] w fun e w' => e = .returned (.tuple #[.slice none 0 0, .bool false]) ∧ Below w.heap.size w w' := by
  have C := Lib.hid (trans_is h s A n c _ (hz.alloc (.cells #[.string s, .int .i64 off, .slice A n c] 27)) ho)
  have hne : (er != 0) = true := by simpa using he
  clear hz h he
  go_enter Tryd.func48, Tryd.ntmps48
  go_wp2_with fail
  refine C.out.mono ?_
  rintro e w1 ⟨A1, c1, rfl, hP, hb⟩
  go_wp2_with fail
  go_ret2
  exact ⟨rfl, below_alloc_call hb⟩
/-- The instants of a local time, and the error. -/
def frmV (off : Int) (ts : Zn.L) (er d s : Int) : List Int := if er ≠ 0 then [] else if Zn.okD s = false then [] else Zn.frm (Zn.locS d s) (Zn.strs 0 off ts)
def frmE (er s : Int) : Int := if er ≠ 0 then 8 else if Zn.okD s = false then 1 else 0
/-- The call hands back these numbers. -/
def GivesI (xs : List Int) (er : Int) (w : World) (e : Ending) (w' : World) : Prop := ∃ A c, e = .returned (.tuple #[.slice A xs.length c, .int .i64 er]) ∧ IntsAt w' A xs ∧ Below w.heap.size w w'
theorem GivesI.none_ {w w' : World} {er : Int} (h : Below w.heap.size w w') : GivesI [] er w (.returned (.tuple #[.slice none 0 0, .int .i64 er])) w' := ⟨none, 0, rfl, ListAt.nil_, h⟩
theorem frm_app (v : Int) : ∀ (a b : Zn.S), Zn.frm v (a ++ b) = Zn.frm v a ++ Zn.frm v b
  | [], b => rfl
  | (f, l, o) :: t, b => by
    rw [List.cons_append, Zn.frm, Zn.frm, frm_app v t b]
    split <;> simp
theorem frm_snoc {v f l o : Int} {ss : Zn.S} {k : Nat} (h : ss[k]? = some (f, l, o)) : Zn.frm v (ss.take (k + 1)) = Zn.frm v (ss.take k) ++ if f ≤ v - o ∧ v - o ≤ l then [v - o] else [] := by
  rw [take_snoc' h, frm_app]
  rw [Zn.frm]
  split <;> rfl
theorem frm_len (v : Int) : ∀ (a : Zn.S), (Zn.frm v a).length ≤ a.length
  | [] => by simp [Zn.frm]
  | (f, l, o) :: t => by
    rw [Zn.frm]
    have := frm_len v t
    split <;> simp <;> omega
theorem fst_step {v f l o : Int} {ss : Zn.S} {k : Nat} (h : ss[k]? = some (f, l, o)) : Zn.fst v (ss.drop k) = if max (v - o) f ≤ l then some (max (v - o) f) else Zn.fst v (ss.drop (k + 1)) := by
  rw [drop_cons' h, Zn.fst]
theorem trip_new2 {w w' : World} {x y z : Int} (hb : Below (w.alloc (.cells #[.int .i64 x, .int .i64 y, .int .i64 z] 85)).heap.size (w.alloc (.cells #[.int .i64 x, .int .i64 y, .int .i64 z] 85)) w') : TripBlk w' w.heap.size x y z := BlkAt.after (BlkAt.new w _ _) hb
theorem int_new {W : World} {B : Nat} {x : Int} {T : TypeId} (h : W.heap.size = B) : ∀ j, j < 1 → (W.alloc (.cells #[.int .i64 x] T)).cell? ⟨B, j, none⟩ = some (eInt x j) := fun j hj => by
  subst h
  obtain rfl : j = 0 := by omega
  simp [eInt]
/-- What a drawn region of the loops below keeps. -/
theorem keepL {W0 W W' : World} {bl bs : Nat} {a0 a1 b0 b1 b2 : Value} (h : W.cell? ⟨bl, 0, none⟩ = some a0 ∧ W.cell? ⟨bl, 1, none⟩ = some a1 ∧ W.cell? ⟨bs, 0, none⟩ = some b0 ∧ W.cell? ⟨bs, 1, none⟩ = some b1 ∧ W.cell? ⟨bs, 2, none⟩ = some b2 ∧ Below W0.heap.size W0 W) (hb : Below W.heap.size W W') :
    W'.cell? ⟨bl, 0, none⟩ = some a0 ∧ W'.cell? ⟨bl, 1, none⟩ = some a1 ∧ W'.cell? ⟨bs, 0, none⟩ = some b0 ∧ W'.cell? ⟨bs, 1, none⟩ = some b1 ∧ W'.cell? ⟨bs, 2, none⟩ = some b2 ∧ Below W0.heap.size W0 W' := by
  obtain ⟨h0, h1, h2, h3, h4, h5⟩ := h
  exact ⟨cell_keep h0 hb, cell_keep h1 hb, cell_keep h2 hb, cell_keep h3 hb, cell_keep h4 hb, bstep h5 hb⟩

set_option maxHeartbeats 8000000 in
set_option maxRecDepth 100000 in
theorem fromLocal_ok {off : Int} {rs : List Zn.Rule} {ts : Zn.L} (h : Zn.trans off rs = (ts, 0)) (s : ByteArray) (A : Option Addr) (n c : Nat) (d sec : Int) (w : World) (hz : ZIn w A n rs) (ho : I64 off) (hd : I64 d) (hs : Zn.okD sec = true) :
    Calls Tryd.prog 28 #[.agg #[.string s, .int .i64 off, .slice A n c], .agg #[.int .i64 d, .int .i64 sec]] w (GivesI (Zn.frm (Zn.locS d sec) (Zn.strs 0 off ts)) 0 w) := by
  have C := Lib.hid (stretches_is h s A n c _ ((hz.alloc (.cells #[.string s, .int .i64 off, .slice A n c] 27)).alloc (.cells #[.int .i64 d, .int .i64 sec] 52)) ho)
  obtain ⟨k1, k2, k3, k4, k5, k6, k7, k8⟩ := Zn.trans_ok h
  have hbd := Zn.strs_bd (Int.le_refl 0) (by omega) k1 k6 (Int.le_refl 0) k8
  have HBD := Lib.hid hbd
  have CD := fun W => inDay_any sec W
  rw [hs] at CD
  have CL := fun W => locSec_any d sec W hd hs
  have hv := Zn.locS_bd (d := d) hs
  obtain ⟨v, hvv⟩ : ∃ v, Zn.locS d sec = v := ⟨_, rfl⟩
  rw [hvv] at CL hv ⊢
  obtain ⟨v1, v2⟩ := hv
  obtain ⟨q, hq⟩ : ∃ q, (Zn.strs 0 off ts).length = q := ⟨_, rfl⟩
  have hq2 : q ≤ 641 := by rw [← hq, Zn.strs_len]; omega
  have HQ := Lib.hid hq
  have HCD := Lib.hid CD
  have HCL := Lib.hid CL
  obtain ⟨ss, hss⟩ : ∃ ss, Zn.strs 0 off ts = ss := ⟨_, rfl⟩
  rw [hss] at C HBD HQ hq ⊢
  clear hz h k1 k2 k3 k4 k5 k6 k7 k8 hbd CD CL hvv hss hs hd
  go_enter Tryd.func28, Tryd.ntmps28
  go_wp2_with fail
  refine C.out.mono ?_
  rintro e w1 ⟨A1, c1, rfl, hP, hb⟩
  rw [hq]
  have l1 : w1.cell? ⟨w.heap.size + 1, 1, none⟩ = some (.int .i64 sec) := by
    have e := BlkAt.cell (BlkAt.after (BlkAt.new (w.alloc (.cells #[.string s, .int .i64 off, .slice A n c] 27)) #[.int .i64 d, .int .i64 sec] 52) hb) (i := 1) rfl
    simpa using e
  have l0 : w1.cell? ⟨w.heap.size + 1, 0, none⟩ = some (.int .i64 d) := by
    have e := BlkAt.cell (BlkAt.after (BlkAt.new (w.alloc (.cells #[.string s, .int .i64 off, .slice A n c] 27)) #[.int .i64 d, .int .i64 sec] 52) hb) (i := 0) rfl
    simpa using e
  have HB := Lib.hid (two_boxes hb)
  have HP := Lib.hid hP
  obtain ⟨bl, hbl⟩ : ∃ bl, w.heap.size + 1 = bl := ⟨_, rfl⟩
  rw [hbl] at l0 l1 ⊢
  have HBL := Lib.hid hbl
  clear hb hP hq hbl
  go_wp2_with (go_at_call 49; refine (HCD.out _).mono ?_; rintro e w' ⟨rfl, rfl⟩)
  go_loopw [8, 25] (fun vo i wr => ∃ k : Nat, k ≤ q ∧ i = .int .i64 k ∧ Hid (OwnL 3 1 eInt wr w1.heap.size vo (Zn.frm v (ss.take k))) ∧ Hid (Below w1.heap.size w1 wr)) (fun _ i _ => q - (intOf i).toNat)
  case atStart => exact ⟨0, Nat.zero_le _, rfl, Lib.hid (OwnL.nil_ _ _), Lib.hid (Below.refl _ _)⟩
  case round =>
    obtain ⟨k, hk, rfl, HO, HB2⟩ := hrel
    by_cases hlt : k < q
    · obtain ⟨⟨f, l, o⟩, hx⟩ := get_ex (xs := ss) (i := k) (by have := HQ.out; omega)
      obtain ⟨b, of, rfl, hbb, hc⟩ := (HP.out.below HB2.out) (by have := HQ.out; omega)
      obtain ⟨c0, c1, -, c2⟩ := trip_cells (hc k _ hx)
      simp only at c0 c1 c2
      have hbd := HBD.out _ (List.mem_of_getElem? hx)
      simp only at hbd
      obtain ⟨b1, b2, b3, b4, b5, b6⟩ := hbd
      have hsn := frm_snoc (v := v) hx
      have m0 := cell_keep l0 HB2.out
      have m1 := cell_keep l1 HB2.out
      have S0 := keepL (W0 := wr.alloc (.cells #[.int .i64 f, .int .i64 l, .int .i64 o] 85)) (W := wr.alloc (.cells #[.int .i64 f, .int .i64 l, .int .i64 o] 85)) ⟨cell_keep m0 ((Below.refl _ _).alloc (Nat.le_refl _) _), cell_keep m1 ((Below.refl _ _).alloc (Nat.le_refl _) _), BlkAt.cell (BlkAt.new wr #[.int .i64 f, .int .i64 l, .int .i64 o] 85) (i := 0) rfl, BlkAt.cell (BlkAt.new wr #[.int .i64 f, .int .i64 l, .int .i64 o] 85) (i := 1) rfl, BlkAt.cell (BlkAt.new wr #[.int .i64 f, .int .i64 l, .int .i64 o] 85) (i := 2) rfl, Below.refl _ _⟩ (Below.refl _ _).drew
      have S1 := keepL (W0 := wr.alloc (.cells #[.int .i64 f, .int .i64 l, .int .i64 o] 85)) (W := wr.alloc (.cells #[.int .i64 f, .int .i64 l, .int .i64 o] 85)) ⟨cell_keep m0 ((Below.refl _ _).alloc (Nat.le_refl _) _), cell_keep m1 ((Below.refl _ _).alloc (Nat.le_refl _) _), BlkAt.cell (BlkAt.new wr #[.int .i64 f, .int .i64 l, .int .i64 o] 85) (i := 0) rfl, BlkAt.cell (BlkAt.new wr #[.int .i64 f, .int .i64 l, .int .i64 o] 85) (i := 1) rfl, BlkAt.cell (BlkAt.new wr #[.int .i64 f, .int .i64 l, .int .i64 o] 85) (i := 2) rfl, Below.refl _ _⟩ (Below.refl _ _)
      have s1 : IntKind.i64.wrap (v - o) = v - o := by rw [IntKind.wrap_i64]; omega
      have HSN := Lib.hid hsn
      have O1 := Lib.hid (HO.out.alloc (.cells #[.int .i64 f, .int .i64 l, .int .i64 o] 85))
      have B1 := Lib.hid (HB2.out.alloc HB2.out.size (.cells #[.int .i64 f, .int .i64 l, .int .i64 o] 85))
      have hfl := frm_len v (ss.take k)
      have hlen : (Zn.frm v (ss.take k)).length ≤ 900000 := by rw [List.length_take] at hfl; omega
      obtain ⟨xs, hxs⟩ : ∃ xs, Zn.frm v (ss.take k) = xs := ⟨_, rfl⟩
      rw [hxs] at O1 HSN hlen
      clear hc hx hsn HO HB2 hfl hxs
      as_aux_lemma =>
      go_upto_region 10 with fail
      go_cut [11] (fun t wx => t = .int .i64 (v - o) ∧ Hid (wx.cell? ⟨bl, 0, none⟩ = some (.int .i64 d) ∧ wx.cell? ⟨bl, 1, none⟩ = some (.int .i64 sec) ∧ wx.cell? ⟨wr.heap.size, 0, none⟩ = some (.int .i64 f) ∧ wx.cell? ⟨wr.heap.size, 1, none⟩ = some (.int .i64 l) ∧ wx.cell? ⟨wr.heap.size, 2, none⟩ = some (.int .i64 o) ∧ Below (wr.alloc (.cells #[.int .i64 f, .int .i64 l, .int .i64 o] 85)).heap.size (wr.alloc (.cells #[.int .i64 f, .int .i64 l, .int .i64 o] 85)) wx))
      case first =>
       as_aux_lemma =>
        go_region_held3 (fun W => W.cell? ⟨bl, 0, none⟩ = some (.int .i64 d) ∧ W.cell? ⟨bl, 1, none⟩ = some (.int .i64 sec) ∧ W.cell? ⟨wr.heap.size, 0, none⟩ = some (.int .i64 f) ∧ W.cell? ⟨wr.heap.size, 1, none⟩ = some (.int .i64 l) ∧ W.cell? ⟨wr.heap.size, 2, none⟩ = some (.int .i64 o) ∧ Below (wr.alloc (.cells #[.int .i64 f, .int .i64 l, .int .i64 o] 85)).heap.size (wr.alloc (.cells #[.int .i64 f, .int .i64 l, .int .i64 o] 85)) W)
          (first | (exact S0) | (exact keepL S1 (Below.refl _ _).drew) | assumption | (exact keepL (by assumption) hb))
          (first | (go_at_call 50; refine (HCL.out _).mono ?_; rintro e w' ⟨rfl, hb⟩))
        all_goals
          go_wp2_with fail
          go_meet
          exact ⟨rfl, Lib.hid (by assumption)⟩
      case rest =>
        obtain ⟨rfl, HCC⟩ := hcut
        obtain ⟨z0, z1, z2, z3, z4, zb⟩ := HCC.out
        have O2 := Lib.hid (O1.out.below zb)
        have B2 := Lib.hid (bstep B1.out zb)
        have hz2 := B2.out.size
        clear zb z0 z1 z4 HCC O1 B1 S0 S1
        by_cases p1 : f ≤ v - o
        · by_cases p2 : v - o ≤ l
          · have e := HSN.out
            rw [if_pos ⟨p1, p2⟩] at e
            have HE := Lib.hid e
            clear e HSN
            as_aux_lemma =>
            go_wp2_with (at_builtin; refine wp_append_one kInt _ rfl _ _ rfl w1.heap.size _ xs rfl (O2.out.alloc _) wc.heap.size (v - o) rfl (int_new rfl) hlen (by simp; omega) ?_; intro gg cap w3 hO3 hB3 hg3 hgo _)
            have B3 := Lib.hid ((B2.out.alloc hz2 _).trans hB3)
            rw [← HE.out] at hO3
            have O3 := Lib.hid hO3
            clear hO3 hB3
            go_wp2_with fail
            go_roundw
            case rel => exact ⟨k + 1, by omega, by go_num, O3, B3⟩
            case measure => simp [intOf]; omega
          · have e := HSN.out
            rw [if_neg (by omega), List.append_nil] at e
            have O3 := O2.out
            rw [← e] at O3
            have O3 := Lib.hid O3
            clear e HSN O2
            as_aux_lemma =>
            go_wp2_with fail
            go_roundw
            case rel => exact ⟨k + 1, by omega, by go_num, O3, B2⟩
            case measure => simp [intOf]; omega
        · have e := HSN.out
          rw [if_neg (by omega), List.append_nil] at e
          have O3 := O2.out
          rw [← e] at O3
          have O3 := Lib.hid O3
          clear e HSN O2
          as_aux_lemma =>
          go_wp2_with fail
          go_roundw
          case rel => exact ⟨k + 1, by omega, by go_num, O3, B2⟩
          case measure => simp [intOf]; omega
    · have hkk : ss.take k = ss := List.take_of_length_le (by have := HQ.out; omega)
      rw [hkk] at HO
      obtain ⟨A4, c4, rfl, -, -, hS⟩ := HO.out.shape
      have HS := Lib.hid hS
      have B4 := Lib.hid (HB.out.trans (HB2.out.mono HB.out.size))
      clear hS HO hkk
      as_aux_lemma =>
      go_wp2_with fail
      go_ret2
      exact ⟨A4, c4, rfl, HS.out, B4.out⟩

set_option maxHeartbeats 2000000 in
theorem fromLocal_is {off : Int} {rs : List Zn.Rule} {ts : Zn.L} {er : Int} (h : Zn.trans off rs = (ts, er)) (s : ByteArray) (A : Option Addr) (n c : Nat) (d sec : Int) (w : World) (hz : ZIn w A n rs) (ho : I64 off) (hd : I64 d) :
    Calls Tryd.prog 28 #[.agg #[.string s, .int .i64 off, .slice A n c], .agg #[.int .i64 d, .int .i64 sec]] w (GivesI (frmV off ts er d sec) (frmE er sec) w) := by
  by_cases he : er = 0
  · subst he
    cases hs : Zn.okD sec
    · have C := Lib.hid (stretches_is h s A n c _ ((hz.alloc (.cells #[.string s, .int .i64 off, .slice A n c] 27)).alloc (.cells #[.int .i64 d, .int .i64 sec] 52)) ho)
      have CD := fun W => inDay_any sec W
      rw [hs] at CD
      have HCD := Lib.hid CD
      have hv : frmV off ts 0 d sec = [] ∧ frmE 0 sec = 1 := by unfold frmV frmE; simp [hs]
      rw [hv.1, hv.2]
      clear hz h hs CD hv
      go_enter Tryd.func28, Tryd.ntmps28
      go_wp2_with fail
      refine C.out.mono ?_
      rintro e w1 ⟨A1, c1, rfl, hP, hb⟩
      have l1 : w1.cell? ⟨w.heap.size + 1, 1, none⟩ = some (.int .i64 sec) := by
        have e := BlkAt.cell (BlkAt.after (BlkAt.new (w.alloc (.cells #[.string s, .int .i64 off, .slice A n c] 27)) #[.int .i64 d, .int .i64 sec] 52) hb) (i := 1) rfl
        simpa using e
      have HB := Lib.hid (two_boxes hb)
      clear hb hP
      go_wp2_with (go_at_call 49; refine (HCD.out _).mono ?_; rintro e w' ⟨rfl, rfl⟩)
      go_ret2
      exact GivesI.none_ HB.out
    · have hv : frmV off ts 0 d sec = Zn.frm (Zn.locS d sec) (Zn.strs 0 off ts) ∧ frmE 0 sec = 0 := by unfold frmV frmE; simp [hs]
      rw [hv.1, hv.2]
      exact fromLocal_ok h s A n c d sec w hz ho hd hs
  · have C := Lib.hid (stretches_bad h he s A n c _ ((hz.alloc (.cells #[.string s, .int .i64 off, .slice A n c] 27)).alloc (.cells #[.int .i64 d, .int .i64 sec] 52)) ho)
    have hv : frmV off ts er d sec = [] ∧ frmE er sec = 8 := by unfold frmV frmE; simp [he]
    rw [hv.1, hv.2]
    clear hz h hv he
    go_enter Tryd.func28, Tryd.ntmps28
    go_wp2_with fail
    refine C.out.mono ?_
    rintro e w1 ⟨rfl, hb⟩
    go_wp2_with fail
    go_ret2
    exact GivesI.none_ (two_boxes hb)
end Go.Proofs.YtegnfmpbhindaaaDoor
