/- Package zone's Transitions, Check and Horizon. -/
import Derived.Test.YtndngkfiamdohaaDoorZnc
import Derived.Deep.RegionHeld3
namespace Go.Proofs.YtndngkfiamdohaaDoor
open Go.RowKit
set_option linter.unusedVariables false
set_option linter.unusedSimpArgs false

theorem cell_keep {w w' : World} {b i : Nat} {v : Value} (h : w.cell? ⟨b, i, none⟩ = some v) (hb : Below w.heap.size w w') : w'.cell? ⟨b, i, none⟩ = some v :=
  (hb.cell (p := ⟨b, i, none⟩) (World.block_lt_of_cell? w _ h)).trans h
/-- What is known of a zone's rules. -/
structure ZIn (w : World) (A : Option Addr) (n : Nat) (rs : List Zn.Rule) : Prop where
  civ : CivT w
  at_ : RulesAt w A rs
  len : rs.length = n
  fit : ∀ r ∈ rs, FitR r
  le : n ≤ 9223372036854775807
theorem ZIn.below {w w' : World} {A : Option Addr} {n : Nat} {rs : List Zn.Rule} (h : ZIn w A n rs) (hb : Below w.heap.size w w') : ZIn w' A n rs := ⟨h.civ.below hb, h.at_.below hb, h.len, h.fit, h.le⟩
theorem ZIn.alloc {w : World} {A : Option Addr} {n : Nat} {rs : List Zn.Rule} (h : ZIn w A n rs) (o : Obj) : ZIn (w.alloc o) A n rs := h.below ((Below.refl _ _).alloc (Nat.le_refl _) _)
theorem tr1 {off : Int} {rs : List Zn.Rule} (h : Zn.okO off = false) : Zn.trans off rs = ([], 1) := by unfold Zn.trans; rw [if_pos h]
theorem tr2 {off : Int} {rs : List Zn.Rule} (h : Zn.okO off = true) (h2 : 16 < rs.length) : Zn.trans off rs = ([], 5) := by unfold Zn.trans; rw [if_neg (by rw [h]; decide), if_pos h2]
theorem tr3 {off : Int} {rs : List Zn.Rule} (h : Zn.okO off = true) (h2 : rs.length ≤ 16) {k : Nat} {r : Zn.Rule} (hk : rs[k]? = some r) (h3 : Zn.okR r = false) : Zn.trans off rs = ([], 1) := by
  unfold Zn.trans
  rw [if_neg (by rw [h]; decide), if_neg (by omega), if_pos]
  rw [List.all_eq_false]
  exact ⟨r, List.mem_of_getElem? hk, by rw [h3]; decide⟩
theorem tr4 {off : Int} {rs : List Zn.Rule} (h : Zn.okO off = true) (h2 : rs.length ≤ 16) (h3 : rs.all Zn.okR = true) (h4 : 640 < Zn.cnt rs) : Zn.trans off rs = ([], 5) := by
  unfold Zn.trans
  rw [if_neg (by rw [h]; decide), if_neg (by omega), if_neg (by rw [h3]; decide), if_pos h4]
theorem tr5 {off : Int} {rs : List Zn.Rule} (h : Zn.okO off = true) (h2 : rs.length ≤ 16) (h3 : rs.all Zn.okR = true) (h4 : Zn.cnt rs ≤ 640) : Zn.trans off rs = (folR (Zn.fol off 0 (Zs.srt (Zn.flat rs))), folE (Zn.fol off 0 (Zs.srt (Zn.flat rs)))) := by
  unfold Zn.trans
  rw [if_neg (by rw [h]; decide), if_neg (by omega), if_neg (by rw [h3]; decide), if_neg (by omega)]
  cases Zn.fol off 0 (Zs.srt (Zn.flat rs)) <;> rfl
theorem flat_bd {rs : List Zn.Rule} (h : rs.all Zn.okR = true) : ∀ x ∈ Zs.srt (Zn.flat rs), 0 ≤ x.1 ∧ x.1 ≤ 8551958400 ∧ -64800 ≤ x.2 ∧ x.2 ≤ 64800 := fun x hx => by
  rw [Zs.srt_mem] at hx
  obtain ⟨r, hr, hx⟩ := List.mem_flatMap.1 hx
  have hor := List.all_eq_true.1 h r hr
  have hb := Zn.okR_iff.1 hor
  have key : ∀ (k : Nat) (y : Int), r.fr ≤ y → y + k ≤ r.to + 1 → ∀ x ∈ Zn.occ r y k, 0 ≤ x.1 ∧ x.1 ≤ 8551958400 ∧ -64800 ≤ x.2 ∧ x.2 ≤ 64800 := by
    intro k
    induction k with
    | zero => intro y _ _ x hx; cases hx
    | succ k ih =>
      intro y h1 h2 x hx
      rw [Zn.occ] at hx
      rcases List.mem_cons.1 hx with rfl | hx
      · have := Zn.nth_bd hor h1 (by omega)
        simp only; omega
      · exact ih (y + 1) (by omega) (by omega) x hx
  exact key _ _ (Int.le_refl _) (by unfold Zn.yrs; omega) x hx
/-- What a walk over the rules carries along. -/
def ZSt (w : World) (A : Option Addr) (n : Nat) (rs : List Zn.Rule) (W : World) : Prop := ZIn W A n rs ∧ Below w.heap.size w W
theorem ZSt.after {w W W' : World} {A : Option Addr} {n : Nat} {rs : List Zn.Rule} (h : ZSt w A n rs W) (hb : Below W.heap.size W W') : ZSt w A n rs W' := ⟨h.1.below hb, bstep h.2 hb⟩
theorem keepZ {w W W' : World} {A : Option Addr} {n : Nat} {rs : List Zn.Rule} {b : Nat} {v1 v2 : Value} (h : W.cell? ⟨b, 1, none⟩ = some v1 ∧ W.cell? ⟨b, 2, none⟩ = some v2 ∧ ZSt w A n rs W) (hb : Below W.heap.size W W') :
    W'.cell? ⟨b, 1, none⟩ = some v1 ∧ W'.cell? ⟨b, 2, none⟩ = some v2 ∧ ZSt w A n rs W' := ⟨cell_keep h.1 hb, cell_keep h.2.1 hb, h.2.2.after hb⟩

set_option maxHeartbeats 8000000 in
set_option maxRecDepth 100000 in
theorem trans_any (s : ByteArray) (off : Int) (A : Option Addr) (n c : Nat) (rs : List Zn.Rule) (w : World) (hz : ZIn w A n rs) (ho : I64 off) :
    Calls Tryd.prog 34 #[valZ s off A n c] w (GivesT (Zn.trans off rs).1 (Zn.trans off rs).2 w) := by
  obtain ⟨ts, er, htr⟩ : ∃ ts er, Zn.trans off rs = (ts, er) := ⟨_, _, rfl⟩
  rw [htr]
  unfold valZ
  have hlen := hz.len
  have hle := hz.le
  have CO := fun W => validOffset_any off W
  cases hok : Zn.okO off
  · rw [tr1 hok] at htr
    cases htr
    rw [hok] at CO
    have HCO := Lib.hid CO
    clear CO hz hlen hok
    go_enter Tryd.func34, Tryd.ntmps34
    go_wp2_with (go_at_call 52; refine (HCO.out _).mono ?_; rintro e w' ⟨rfl, rfl⟩)
    go_ret2
    exact GivesT.none_ ((Below.refl _ _).alloc (Nat.le_refl _) _)
  rw [hok] at CO
  have HCO := Lib.hid CO
  clear CO
  by_cases h16 : (16 : Int) < n
  · rw [tr2 hok (by omega)] at htr
    cases htr
    clear hz hlen hok
    go_enter Tryd.func34, Tryd.ntmps34
    go_wp2_with (go_at_call 52; refine (HCO.out _).mono ?_; rintro e w' ⟨rfl, rfl⟩)
    go_ret2
    exact GivesT.none_ ((Below.refl _ _).alloc (Nat.le_refl _) _)
  have HTR := Lib.hid htr
  have HZ : Hid (ZSt w A n rs (w.alloc (.cells #[.string s, .int .i64 off, .slice A n c] 32))) := Lib.hid ⟨hz.alloc _, (Below.refl _ _).alloc (Nat.le_refl _) _⟩
  have ZB : ZBlk (w.alloc (.cells #[.string s, .int .i64 off, .slice A n c] 32)) w.heap.size s off A n c := BlkAt.new _ _ _
  have HZB := Lib.hid ZB
  have HOK := Lib.hid hok
  have HN := Lib.hid hlen
  have n16 : n ≤ 16 := by omega
  have n16i : (n : Int) ≤ 16 := by omega
  obtain ⟨bz, hbz⟩ : ∃ bz, w.heap.size = bz := ⟨_, rfl⟩
  have HBZ := Lib.hid hbz
  have hcnt0 : Zn.cnt (rs.take 0) = 0 := rfl
  clear hz htr hok hlen ZB hbz h16 hcnt0
  go_enter Tryd.func34, Tryd.ntmps34
  go_wp2_with (go_at_call 52; refine (HCO.out _).mono ?_; rintro e w' ⟨rfl, rfl⟩)
  rw [HBZ.out] at HZB ⊢
  go_loopw [4, 18] (fun vc i wr => ∃ (k : Nat) (q : Int), k ≤ n ∧ i = .int .i64 k ∧ vc = .int .i64 q ∧ Hid (Zn.cnt (rs.take k) = q) ∧ Hid ((rs.take k).all Zn.okR = true) ∧ Hid (ZSt w A n rs wr) ∧ Hid (ZBlk wr bz s off A n c)) (fun _ i _ => n - (intOf i).toNat)
  case atStart => exact ⟨0, 0, Nat.zero_le _, rfl, rfl, Lib.hid rfl, Lib.hid rfl, HZ, HZB⟩
  case round =>
    clear HZ HZB
    obtain ⟨k, q, hk, rfl, rfl, HQ, HA, HZ, HZB⟩ := hrel
    have hqb := Zn.cnt_bd HA.out
    rw [HQ.out] at hqb
    have hlk : (rs.take k).length ≤ 16 := by rw [List.length_take]; have := HN.out; omega
    obtain ⟨q1, q2⟩ := hqb
    have q3 : q ≤ 4336 := by omega
    clear q2 hlk
    obtain ⟨z0, z1, z2⟩ := ZBlk.cells HZB.out
    by_cases hlt : k < n
    · obtain ⟨r, hr⟩ := get_ex (xs := rs) (i := k) (by have := HN.out; omega)
      obtain ⟨b, of, rfl, hb, hc⟩ := HZ.out.1.at_ (by have := HN.out; omega)
      obtain ⟨c0, c1, c2, c3, c4, c5, c6⟩ := rule_cells (hc k r hr)
      have hfit := HZ.out.1.fit r (List.mem_of_getElem? hr)
      have hrz := HZ.out.2.size
      have ZA := Lib.hid (HZ.out.after ((Below.refl wr.heap.size wr).alloc (Nat.le_refl _) (.cells #[.int .i64 r.fr, .int .i64 r.to, .int .i64 r.mo, .int .i64 r.wk, .int .i64 r.wd, .int .i64 r.sec, .int .i64 r.off] 74)))
      have RB : RuleBlk (wr.alloc (.cells #[.int .i64 r.fr, .int .i64 r.to, .int .i64 r.mo, .int .i64 r.wk, .int .i64 r.wd, .int .i64 r.sec, .int .i64 r.off] 74)) wr.heap.size r := BlkAt.new _ _ _
      have HRB := Lib.hid RB
      have HZB2 := Lib.hid (BlkAt.alloc HZB.out (.cells #[.int .i64 r.fr, .int .i64 r.to, .int .i64 r.mo, .int .i64 r.wk, .int .i64 r.wd, .int .i64 r.sec, .int .i64 r.off] 74))
      have C := fun W h => validRule_any r W h hfit
      unfold valR at C
      have htk := take_snoc' hr
      have HTK := Lib.hid htk
      have HRK := Lib.hid hr
      have HC := Lib.hid C
      clear hc hr hfit RB C htk
      cases hor : Zn.okR r
      · have htr := tr3 HOK.out (by have := HN.out; omega) HRK.out hor
        rw [HTR.out] at htr
        cases htr
        have C2 := HC.out _ ZA.out.1.civ
        rw [hor] at C2
        have HC2 := Lib.hid C2
        clear C2 hor HC
        as_aux_lemma =>
        go_wp2_with fail
        refine HC2.out.mono ?_
        rintro e w1 ⟨rfl, hb1⟩
        have hB := bstep ZA.out.2 hb1
        go_wp2_with fail
        go_ret2
        exact GivesT.none_ hB
      · have C2 := HC.out _ ZA.out.1.civ
        rw [hor] at C2
        have HC2 := Lib.hid C2
        have hbd := Zn.okR_iff.1 hor
        obtain ⟨fr, hfr⟩ : ∃ x, r.fr = x := ⟨_, rfl⟩
        obtain ⟨tt, htt⟩ : ∃ x, r.to = x := ⟨_, rfl⟩
        have hcn := Zn.cnt_snoc (rs.take k) r
        rw [← HTK.out, HQ.out] at hcn
        have hal : (rs.take (k + 1)).all Zn.okR = true := by rw [HTK.out, List.all_append, HA.out]; simp [hor]
        rw [hfr, htt] at hcn hbd
        rw [hfr] at c0 ZA HRB HZB2 HC2
        rw [htt] at c1 ZA HRB HZB2 HC2
        have hb4 : 1970 ≤ fr ∧ fr ≤ 2240 ∧ fr ≤ tt ∧ tt ≤ 2240 := by omega
        obtain ⟨b1, b2, b3, b4⟩ := hb4
        have HCN := Lib.hid hcn
        have HAL := Lib.hid hal
        have HFT : Hid (r.fr = fr ∧ r.to = tt) := Lib.hid ⟨hfr, htt⟩
        clear C2 hor HC hcn hal hbd hfr htt
        as_aux_lemma =>
        go_wp2_with fail
        refine HC2.out.mono ?_
        rintro e w1 ⟨rfl, hb1⟩
        have Z1 := Lib.hid (ZA.out.after hb1)
        obtain ⟨d0, d1, d2, d3, d4, d5, d6⟩ := RuleBlk.cells (BlkAt.after HRB.out hb1)
        rw [HFT.out.1] at d0
        rw [HFT.out.2] at d1
        have ZB1 := Lib.hid (BlkAt.after HZB2.out hb1)
        clear hb1 c0 c1 c2 c3 c4 c5 c6 z0 z1 z2
        go_wp2_with fail
        go_roundw
        case rel => exact ⟨k + 1, q + (tt - fr + 1), by omega, by go_num, rfl, HCN, HAL, Z1, ZB1⟩
        case measure => simp [intOf]; omega
    · have hkk : rs.take k = rs := List.take_of_length_le (by have := HN.out; omega)
      rw [hkk] at HQ HA
      clear hkk
      by_cases hq : 640 < q
      · have htr := tr4 HOK.out (by have := HN.out; omega) HA.out (by rw [HQ.out]; exact hq)
        rw [HTR.out] at htr
        cases htr
        as_aux_lemma =>
        go_wp2_with fail
        go_ret2
        exact GivesT.none_ HZ.out.2
      · have htr := tr5 HOK.out (by have := HN.out; omega) HA.out (by rw [HQ.out]; omega)
        rw [HTR.out] at htr
        obtain ⟨rfl, rfl⟩ := Prod.mk.inj htr
        have hfl := Zn.flat_len HA.out
        rw [HQ.out] at hfl
        obtain ⟨m, hm⟩ : ∃ m, (Zn.flat rs).length = m := ⟨_, rfl⟩
        rw [hm] at hfl
        have hm640 : m ≤ 640 := by omega
        subst hfl
        have CP := fun W (h : ZSt w A n rs W) => occ_any A n c m rs W h.1.civ h.1.at_ HN.out n16 HA.out hm hm640
        have CF := fun W (A' : Option Addr) (c' : Nat) (h : PairsAt W A' (Zs.srt (Zn.flat rs))) => follow_any off A' _ c' (Zs.srt (Zn.flat rs)) W h rfl (by rw [Zs.srt_len, hm]; exact hm640) HOK.out (flat_bd HA.out)
        have HCP := Lib.hid CP
        have HCF := Lib.hid CF
        have S0 := show wr.cell? ⟨bz, 1, none⟩ = some (.int .i64 off) ∧ wr.cell? ⟨bz, 2, none⟩ = some (.slice A n c) ∧ ZSt w A n rs wr from ⟨z1, z2, HZ.out⟩
        obtain ⟨sl, hsl⟩ : ∃ sl, Zs.srt (Zn.flat rs) = sl := ⟨_, rfl⟩
        rw [hsl] at HCP HCF
        have HSL := Lib.hid hsl
        clear CP CF hm htr HTR hsl
        as_aux_lemma =>
        go_wp2_with fail
        go_region_held3 (fun W => W.cell? ⟨bz, 1, none⟩ = some (.int .i64 off) ∧ W.cell? ⟨bz, 2, none⟩ = some (.slice A n c) ∧ ZSt w A n rs W)
          (first | (exact keepZ S0 (Below.refl _ _).drew) | (exact keepZ (by assumption) hb) | assumption)
          (first | (go_at_call 55; refine (HCP.out _ ?_).mono ?_; exact (by assumption : _ ∧ _ ∧ ZSt w A n rs _).2.2; rintro e w' ⟨A', c', rfl, hP, hb⟩) | (go_at_call 54; refine (HCF.out _ _ _ ?_).mono ?_; assumption; rintro e w' ⟨A2, c2, rfl, hP2, hb⟩))
        all_goals
          go_wp2_with fail
          go_ret2
          exact ⟨A2, c2, by rw [HSL.out]; rfl, by rw [HSL.out]; exact hP2, (by assumption : _ ∧ _ ∧ ZSt w A n rs _).2.2.2⟩

/-- The same, with the zone's transitions named. -/
theorem trans_is {off : Int} {rs : List Zn.Rule} {ts : Zn.L} {er : Int} (h : Zn.trans off rs = (ts, er)) (s : ByteArray) (A : Option Addr) (n c : Nat) (w : World) (hz : ZIn w A n rs) (ho : I64 off) :
    Calls Tryd.prog 34 #[.agg #[.string s, .int .i64 off, .slice A n c]] w (GivesT ts er w) := by
  have := trans_any s off A n c rs w hz ho
  rw [h] at this
  exact this
theorem below_alloc_call {w w1 : World} {o : Obj} (h : Below (w.alloc o).heap.size (w.alloc o) w1) : Below w.heap.size w w1 := ((Below.refl _ _).alloc (Nat.le_refl _) o).trans (h.mono (by simp))

/-- The instant of the last transition. -/
def horizon (ts : Zn.L) : Int := if ts.length = 0 then 0 else (ts.getD (ts.length - 1) (0, 0)).1
end Go.Proofs.YtndngkfiamdohaaDoor
