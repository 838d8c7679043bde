/- Plain facts for the reference of time zones. No program is named here. The reference's Transitions, Check and Horizon. The reference's Check, Horizon, OffsetAt and ToLocal. -/
import Derived.Test.YthaacmmkignocaaDoorKG29
import Derived.Test.YthaacmmkignocaaDoorKG30
namespace Go.Proofs.YthaacmmkignocaaDoor
set_option linter.unusedVariables false
set_option maxRecDepth 100000
set_option linter.unusedSimpArgs false
theorem offAt_drop {ts : Zn.L} {k : Nat} {a o n x : Int} (h : ts[k]? = some (a, o)) : Zn.offAt n (ts.drop k) x = if a ≤ x then Zn.offAt o (ts.drop (k + 1)) x else n := by
  rw [drop_cons' h, Zn.offAt]
/-- Where the k-th stretch ends. -/
def toK (ts : Zn.L) (k : Nat) : Int := if k < ts.length then (ts.getD k (0, 0)).1 else 8589934593
theorem strs_drop (off : Int) (ts : Zn.L) : ∀ k, k ≤ ts.length → (Zn.strs 0 off ts).drop k = Zn.strK off ts k
  | 0, _ => by rw [List.drop_zero, Zn.strK_zero]
  | k + 1, h => by rw [← List.drop_drop, strs_drop off ts k (by omega), Zn.strK_step off ts k (by omega)]; rfl
theorem strs_get (off : Int) (ts : Zn.L) (k : Nat) (h : k ≤ ts.length) : (Zn.strs 0 off ts)[k]? = some (frK ts k, toK ts k - 1, ofK off ts k) := by
  have e := strs_drop off ts k h
  have e2 : ((Zn.strs 0 off ts).drop k)[0]? = (Zn.strs 0 off ts)[k]? := by rw [List.getElem?_drop]; rfl
  rw [← e2, e]
  by_cases hk : k < ts.length
  · rw [Zn.strK_step off ts k hk]
    unfold toK
    rw [if_pos hk]; rfl
  · obtain rfl : k = ts.length := by omega
    rw [Zn.strK_last]
    unfold toK
    rw [if_neg hk]; rfl
/-- A day that no instant has. -/
theorem not_small {d : Int} (h : ¬ (-2 ≤ d ∧ d ≤ 99422)) {s : Int} (hs : Zn.okD s = true) : Zn.locS d s ≤ -86401 ∨ 8590060800 ≤ Zn.locS d s := by
  rw [Zn.okD_iff] at hs
  unfold Zn.locS Zn.clamp; omega
theorem loc_small {d : Int} (h1 : -2 ≤ d) (h2 : d ≤ 99422) (s : Int) : Zn.locS d s = d * 86400 + s := by
  unfold Zn.locS Zn.clamp
  rw [show min (max d (-2)) 99422 = d by omega]
theorem frm_none {v : Int} : ∀ {ss : Zn.S}, (∀ s ∈ ss, v - s.2.2 < s.1 ∨ s.2.1 < v - s.2.2) → Zn.frm v ss = []
  | [], _ => rfl
  | (f, l, o) :: t, h => by
    have := h (f, l, o) (by simp)
    simp only at this
    rw [Zn.frm, if_neg (by omega)]
    exact frm_none fun s hs => h s (by simp [hs])
theorem fst_none {v : Int} : ∀ {ss : Zn.S}, (∀ s ∈ ss, s.2.1 < v - s.2.2) → Zn.fst v ss = none
  | [], _ => rfl
  | (f, l, o) :: t, h => by
    have := h (f, l, o) (by simp)
    simp only at this
    rw [Zn.fst, if_neg (by omega)]
    exact fst_none fun s hs => h s (by simp [hs])
section
variable {off : Int} {rs : List Zn.Rule} {ts : Zn.L}
theorem strs_bds (h : Zn.trans off rs = (ts, 0)) : ∀ s ∈ Zn.strs 0 off ts, 0 ≤ s.1 ∧ s.1 ≤ 8589934592 ∧ -1 ≤ s.2.1 ∧ s.2.1 ≤ 8589934592 ∧ -64800 ≤ s.2.2 ∧ s.2.2 ≤ 64800 := by
  obtain ⟨k1, k2, k3, k4, k5, k6, k7, k8⟩ := Zn.trans_ok h
  exact Zn.strs_bd (Int.le_refl 0) (by omega) k1 k6 (Int.le_refl 0) k8
theorem frm_far (h : Zn.trans off rs = (ts, 0)) {d s : Int} (hd : ¬ (-2 ≤ d ∧ d ≤ 99422)) (hs : Zn.okD s = true) : Zn.frm (Zn.locS d s) (Zn.strs 0 off ts) = [] :=
  frm_none fun x hx => by have := strs_bds h x hx; have := not_small hd hs; omega
theorem fst_far (h : Zn.trans off rs = (ts, 0)) {d s : Int} (hd : 99422 < d) (hs : Zn.okD s = true) : Zn.fst (Zn.locS d s) (Zn.strs 0 off ts) = none :=
  fst_none fun x hx => by
    have := strs_bds h x hx
    have e : Zn.locS d s = 99422 * 86400 + s := by unfold Zn.locS Zn.clamp; omega
    rw [Zn.okD_iff] at hs
    omega
theorem fst_early (h : Zn.trans off rs = (ts, 0)) {d s : Int} (hd : d < -2) (hs : Zn.okD s = true) : Zn.fst (Zn.locS d s) (Zn.strs 0 off ts) = some 0 := by
  obtain ⟨k1, k2, k3, k4, k5, k6, k7, k8⟩ := Zn.trans_ok h
  have e : Zn.locS d s = -2 * 86400 + s := by unfold Zn.locS Zn.clamp; omega
  rw [Zn.okD_iff] at hs
  rw [Zn.okO_iff] at k1
  rcases ts with _ | ⟨⟨a, o⟩, _ | ⟨⟨a2, o2⟩, t⟩⟩
  · rw [Zn.strs, Zn.fst, show max (Zn.locS d s - off) 0 = 0 by omega, if_pos (by omega)]
  · obtain ⟨-, -, -, g4, g5, -⟩ := k6
    have ho := Zn.okO_iff.1 (k8 (a, o) (by simp))
    simp only at ho
    rw [Zn.strs, Zn.fst, show max (Zn.locS d s - off) 0 = 0 by omega]
    by_cases h0 : 0 ≤ a - 1
    · rw [if_pos h0]
    · obtain rfl : a = 0 := by omega
      rw [if_neg h0, Zn.strs, Zn.fst, show max (Zn.locS d s - o) 0 = 0 by omega, if_pos (by omega)]
  · obtain ⟨-, -, -, g4, g5, -, -, -, g6, -, -⟩ := k6
    have ho := Zn.okO_iff.1 (k8 (a, o) (by simp))
    simp only at ho
    rw [Zn.strs, Zn.fst, show max (Zn.locS d s - off) 0 = 0 by omega]
    by_cases h0 : 0 ≤ a - 1
    · rw [if_pos h0]
    · obtain rfl : a = 0 := by omega
      rw [if_neg h0, Zn.strs, Zn.fst, show max (Zn.locS d s - o) 0 = 0 by omega, if_pos (by omega)]
theorem frK_bd (h : Zn.trans off rs = (ts, 0)) {k : Nat} (hk : k ≤ ts.length) : 0 ≤ frK ts k ∧ frK ts k ≤ 8589934592 ∧ 0 ≤ toK ts k ∧ toK ts k ≤ 8589934593 ∧ -64800 ≤ ofK off ts k ∧ ofK off ts k ≤ 64800 := by
  have := strs_bds h _ (List.mem_of_getElem? (strs_get off ts k hk))
  simp only at this
  omega
end
theorem toK_in {ts : Zn.L} {k : Nat} {a o : Int} (h : ts[k]? = some (a, o)) : toK ts k = a := by
  have hk := (List.getElem?_eq_some_iff.1 h).1
  have hg : ts.getD k (0, 0) = (a, o) := by simp [List.getD, h]
  unfold toK; rw [if_pos hk, hg]
theorem toK_out {ts : Zn.L} {k : Nat} (h : ts.length ≤ k) : toK ts k = 8589934593 := by unfold toK; rw [if_neg (by omega)]
/-- The earliest instant of the next transition, said by those that there are. -/
def earI (out : Zn.L) : Int := if out.length = 0 then 0 else (out.getD (out.length - 1) (0, 0)).1 + 604800
theorem earI_nil : earI [] = 0 := rfl
theorem earI_snoc (out : Zn.L) (x : Int × Int) : earI (out ++ [x]) = x.1 + 604800 := by
  unfold earI; rw [if_neg (by simp)]; simp [List.getD]
theorem earI_some {out : Zn.L} {x : Int × Int} (h : out[out.length - 1]? = some x) : earI out = x.1 + 604800 := by
  have hk := (List.getElem?_eq_some_iff.1 h).1
  unfold earI; rw [if_neg (by omega)]; simp [List.getD, h]
theorem At_radd {l : Zn.L} {f : Option Zn.L} {k : Nat} {now loc o : Int} {out : Zn.L} (h : Zn.At l f k now (earI out) out) (hk : k < l.length) (e : l.getD k (0, 0) = (loc, o)) (h1 : o ≠ now)
    (g1 : -86399 ≤ o - now) (g2 : o - now ≤ 86399) (g4 : loc - now ≤ 8589934592) (g5 : earI out ≤ loc - now) : Zn.At l f (k + 1) o (earI (out ++ [(loc - now, o)])) (out ++ [(loc - now, o)]) := by
  rw [earI_snoc]
  exact h.add hk e h1 (by omega)
theorem At_rbad {l : Zn.L} {f : Option Zn.L} {k : Nat} {now loc o : Int} {out : Zn.L} (h : Zn.At l f k now (earI out) out) (hk : k < l.length) (e : l.getD k (0, 0) = (loc, o)) (h1 : o ≠ now)
    (h0 : 0 ≤ earI out) (g : ¬ (-86399 ≤ o - now ∧ o - now ≤ 86399) ∨ ¬ (0 ≤ loc - now ∧ loc - now ≤ 8589934592) ∨ loc - now < earI out) : f = none := h.bad hk e h1 (by omega)
end Go.Proofs.YthaacmmkignocaaDoor
namespace Go.Proofs.YthaacmmkignocaaDoor
open Go.RowKit
set_option linter.unusedVariables false
set_option maxRecDepth 100000
set_option linter.unusedSimpArgs false
theorem zsame {P : Program} {f : FuncId} {args : Array Value} {w : World} {n : Nat} {v : Value}
    (h : Calls P f args (w.drewN n) fun e w' => e = .returned v ∧ w.drewN n = w') : Calls P f args (w.drewN n) fun e w'' => e = .returned v ∧ ∃ m, w'' = w.drewN m :=
  Calls.quiet_of_same (h.mono fun _ _ ⟨a, b⟩ => ⟨a, b.symm⟩)
theorem pair_blk {W : World} {B : Nat} {x : Int × Int} {T : TypeId} (h : BlkAt W B #[.int .i64 x.1, .int .i64 x.2] T) : ∀ j, j < 2 → W.cell? ⟨B, j, none⟩ = some (ePair x j) := fun j hj => by
  match j, hj with
  | 0, _ => exact BlkAt.cell h rfl
  | 1, _ => exact BlkAt.cell h rfl
set_option maxHeartbeats 8000000 in
set_option maxRecDepth 100000 in
theorem rtrans_any (s : ByteArray) (off : Int) (A : Option Addr) (n c : Nat) (rs : List Zn.Rule) (w : World) (hz : ZIn w A n rs) (ho : I64 off) :
    Calls Tryd.prog 40 #[valZ s off A n c] w (GivesT (Zn.trans off rs).1 (Zn.trans off rs).2 w) := by
  obtain ⟨ts, er, htr⟩ : ∃ ts er, Zn.trans off rs = (ts, er) := ⟨_, _, rfl⟩
  rw [htr]
  unfold valZ
  have hlen := hz.len
  have hle := hz.le
  have CO := fun W => in_any off (-64800) 64800 W
  change ∀ W, Calls _ _ _ W (fun e w' => e = .returned (.bool (Zn.okO off)) ∧ W = w') at CO
  cases hok : Zn.okO off
  · rw [tr1 hok] at htr
    cases htr
    rw [hok] at CO
    have HCO := Lib.hid CO
    clear CO hz hlen hok
    go_enter Tryd.func40, Tryd.ntmps40
    go_wp2_with (go_at_call 41; refine (HCO.out _).mono ?_; rintro e w' ⟨rfl, rfl⟩)
    go_ret2
    exact GivesT.none_ ((Below.refl _ _).alloc (Nat.le_refl _) _)
  rw [hok] at CO
  have HCO := Lib.hid CO
  clear CO
  by_cases h16 : (16 : Int) < n
  · rw [tr2 hok (by omega)] at htr
    cases htr
    clear hz hlen hok
    go_enter Tryd.func40, Tryd.ntmps40
    go_wp2_with (go_at_call 41; refine (HCO.out _).mono ?_; rintro e w' ⟨rfl, rfl⟩)
    go_ret2
    exact GivesT.none_ ((Below.refl _ _).alloc (Nat.le_refl _) _)
  have HTR := Lib.hid htr
  have HZ : Hid (ZSt w A n rs (w.alloc (.cells #[.string s, .int .i64 off, .slice A n c] 42))) := Lib.hid ⟨hz.alloc _, (Below.refl _ _).alloc (Nat.le_refl _) _⟩
  have ZB : ZBlk (w.alloc (.cells #[.string s, .int .i64 off, .slice A n c] 42)) w.heap.size s off A n c := BlkAt.new _ _ _
  have HZB := Lib.hid ZB
  have HOK := Lib.hid hok
  have HN := Lib.hid hlen
  have n16 : n ≤ 16 := by omega
  have n16i : (n : Int) ≤ 16 := by omega
  obtain ⟨bz, hbz⟩ : ∃ bz, w.heap.size = bz := ⟨_, rfl⟩
  have HBZ := Lib.hid hbz
  clear hz htr hok hlen ZB hbz h16
  go_enter Tryd.func40, Tryd.ntmps40
  go_wp2_with (go_at_call 41; refine (HCO.out _).mono ?_; rintro e w' ⟨rfl, rfl⟩)
  rw [HBZ.out] at HZB ⊢
  go_loopw [4, 5] (fun vc i wr => ∃ (k : Nat) (q : Int), k ≤ n ∧ i = .int .i64 k ∧ vc = .int .i64 q ∧ Hid (Zn.cnt (rs.take k) = q) ∧ Hid ((rs.take k).all Zn.okR = true) ∧ Hid (ZSt w A n rs wr) ∧ Hid (ZBlk wr bz s off A n c)) (fun _ i _ => n - (intOf i).toNat)
  case atStart => exact ⟨0, 0, Nat.zero_le _, rfl, rfl, Lib.hid rfl, Lib.hid rfl, HZ, HZB⟩
  case round =>
    clear HZ HZB
    obtain ⟨k, q, hk, rfl, rfl, HQ, HA, HZ, HZB⟩ := hrel
    have hqb := Zn.cnt_bd HA.out
    rw [HQ.out] at hqb
    have hlk : (rs.take k).length ≤ 16 := by rw [List.length_take]; have := HN.out; omega
    obtain ⟨q1, q2⟩ := hqb
    have q3 : q ≤ 4336 := by omega
    clear q2 hlk
    obtain ⟨z0, z1, z2⟩ := ZBlk.cells HZB.out
    by_cases hlt : k < n
    · obtain ⟨r, hr⟩ := get_ex (xs := rs) (i := k) (by have := HN.out; omega)
      obtain ⟨b, of, rfl, hb, hc⟩ := HZ.out.1.at_ (by have := HN.out; omega)
      obtain ⟨c0, c1, c2, c3, c4, c5, c6⟩ := rule_cells (hc k r hr)
      have hrz := HZ.out.2.size
      have C := right_any r wr
      unfold valR at C
      have htk := take_snoc' hr
      have HTK := Lib.hid htk
      have HRK := Lib.hid hr
      have p1 : (0 : Int) ≤ k := by omega
      have p2 : (k : Int) < n := by omega
      clear hc hr htk
      cases hor : Zn.okR r
      · have htr := tr3 HOK.out (by have := HN.out; omega) HRK.out hor
        rw [HTR.out] at htr
        cases htr
        rw [hor] at C
        have HC := Lib.hid C
        clear C hor
        go_wp2_with fail
        refine HC.out.mono ?_
        rintro e w1 ⟨rfl, hb1⟩
        have hB := bstep HZ.out.2 hb1
        go_wp2_with fail
        go_ret2
        exact GivesT.none_ hB
      · rw [hor] at C
        have HC := Lib.hid C
        have hbd := Zn.okR_iff.1 hor
        obtain ⟨fr, hfr⟩ : ∃ x, r.fr = x := ⟨_, rfl⟩
        obtain ⟨tt, htt⟩ : ∃ x, r.to = x := ⟨_, rfl⟩
        have hcn := Zn.cnt_snoc (rs.take k) r
        rw [← HTK.out, HQ.out] at hcn
        have hal : (rs.take (k + 1)).all Zn.okR = true := by rw [HTK.out, List.all_append, HA.out]; simp [hor]
        rw [hfr, htt] at hcn hbd
        rw [hfr] at c0 HC
        rw [htt] at c1 HC
        have hb4 : 1970 ≤ fr ∧ fr ≤ 2240 ∧ fr ≤ tt ∧ tt ≤ 2240 := by omega
        obtain ⟨b1, b2, b3, b4⟩ := hb4
        have s1 : IntKind.i64.wrap (tt - fr) = tt - fr := by rw [IntKind.wrap_i64]; omega
        have s2 : IntKind.i64.wrap (tt - fr + 1) = tt - fr + 1 := by rw [IntKind.wrap_i64]; omega
        have s3 : IntKind.i64.wrap (q + (tt - fr + 1)) = q + (tt - fr + 1) := by rw [IntKind.wrap_i64]; omega
        have HCN := Lib.hid hcn
        have HAL := Lib.hid hal
        clear C hor hcn hal hbd hfr htt
        go_wp2_with fail
        refine HC.out.mono ?_
        rintro e w1 ⟨rfl, hb1⟩
        have Z1 := Lib.hid (HZ.out.after hb1)
        have ZB1 := Lib.hid (BlkAt.after HZB.out hb1)
        have d0 := cell_keep c0 hb1
        have d1 := cell_keep c1 hb1
        have y2 := cell_keep z2 hb1
        clear hb1 c0 c1 c2 c3 c4 c5 c6 z0 z1 z2
        go_wp2_with fail
        go_quiet (fail)
        go_wp2_with fail
        go_roundw
        case rel => exact ⟨k + 1, q + (tt - fr + 1), by omega, by go_num, rfl, HCN, HAL, Lib.hid (Z1.out.after (below_drewN (Below.refl _ _) _)), Lib.hid (BlkAt.drewN ZB1.out _)⟩
        case measure => simp [intOf]; omega
    · have hkk : rs.take k = rs := List.take_of_length_le (by have := HN.out; omega)
      rw [hkk] at HQ HA
      clear hkk
      by_cases hq : 640 < q
      · have htr := tr4 HOK.out (by have := HN.out; omega) HA.out (by rw [HQ.out]; exact hq)
        rw [HTR.out] at htr
        cases htr
        go_wp2_with fail
        go_ret2
        exact GivesT.none_ HZ.out.2
      · have htr := tr5 HOK.out (by have := HN.out; omega) HA.out (by rw [HQ.out]; omega)
        rw [HTR.out] at htr
        obtain ⟨rfl, rfl⟩ := Prod.mk.inj htr
        have hfl := Zn.flat_len HA.out
        rw [HQ.out] at hfl
        have hm640 : (Zn.flat rs).length ≤ 640 := by omega
        have CP := rocc_any A n c rs wr HZ.out.1.at_ HN.out n16 HA.out hm640
        have hsb := flat_bd HA.out
        have hsl0 := Zs.srt_len (Zn.flat rs)
        obtain ⟨sl, hsl⟩ : ∃ sl, Zs.srt (Zn.flat rs) = sl := ⟨_, rfl⟩
        rw [hsl] at CP hsb hsl0
        obtain ⟨m, hm⟩ : ∃ m, sl.length = m := ⟨_, rfl⟩
        have m640 : m ≤ 640 := by omega
        have HCP := Lib.hid CP
        have HSB := Lib.hid hsb
        have HM := Lib.hid hm
        have HSL := Lib.hid hsl
        have ho2 := Zn.okO_iff.1 HOK.out
        obtain ⟨o1, o2⟩ := ho2
        obtain ⟨f, hf⟩ : ∃ f, Zn.fol off 0 sl = f := ⟨_, rfl⟩
        have hst := Zn.At.start sl off
        rw [hf] at hst
        have HST := Lib.hid hst
        have HF := Lib.hid hf
        clear CP hsb hsl0 hm hsl htr HTR hfl hm640 hf hst
        go_wp2_with fail
        refine HCP.out.mono ?_
        rintro e w1 ⟨A', c', rfl, hP, hb⟩
        rw [HM.out]
        have y1 := cell_keep z1 hb
        have HP := Lib.hid hP
        have HB1 := Lib.hid (bstep HZ.out.2 hb)
        clear hP hb z0 z1 z2 HCP HZ HZB HA HQ
        go_wp2_with fail
        go_loopw [6, 8, 9] (fun v vo i wx => ∃ (k : Nat) (now : Int) (out : Zn.L), k ≤ m ∧ i = .int .i64 k ∧ vo = .int .i64 now ∧ -64800 ≤ now ∧ now ≤ 64800 ∧ 0 ≤ earI out ∧ earI out ≤ 8600000000 ∧ out.length ≤ k ∧ Hid (Zn.At sl f k now (earI out) out) ∧ Hid (OwnL 90 2 ePair wx w1.heap.size v out) ∧ Hid (Below w1.heap.size w1 wx)) (fun _ _ i _ => m - (intOf i).toNat)
        case atStart => exact ⟨0, off, [], Nat.zero_le _, rfl, rfl, o1, o2, by rw [earI_nil]; omega, by rw [earI_nil]; omega, by simp, HST, Lib.hid (OwnL.nil_ _ _), Lib.hid (Below.refl _ _)⟩
        case round =>
          clear HST o1 o2 y1
          obtain ⟨k, now, out, hk, rfl, rfl, w1', w2', e1, e2, hol, HAt, HO, HB⟩ := hrel
          by_cases hlt : k < m
          · obtain ⟨⟨loc, o⟩, hx⟩ := get_ex (xs := sl) (i := k) (by have := HM.out; omega)
            obtain ⟨b, of, rfl, hb, hc⟩ := (HP.out.below HB.out) (by have := HM.out; omega)
            obtain ⟨c0, c1⟩ := pair_cells (hc k _ hx)
            simp only at c0 c1
            have hbd := HSB.out _ (List.mem_of_getElem? hx)
            simp only at hbd
            obtain ⟨g1, g2, g3, g4⟩ := hbd
            have hgd : sl.getD k (0, 0) = (loc, o) := by simp [List.getD, hx]
            have hkl : k < sl.length := by have := HM.out; omega
            have HGD := Lib.hid hgd
            have hrz := HB.out.size
            have p1 : (0 : Int) ≤ k := by omega
            have p2 : (k : Int) < m := by omega
            clear hc hx hgd
            by_cases hs : o = now
            · have A2 := Lib.hid (HAt.out.skip hkl (by rw [HGD.out, hs]))
              subst hs
              clear HAt
              go_wp2_with fail
              go_roundw
              case rel => exact ⟨k + 1, o, out, by omega, by go_num, rfl, w1', w2', e1, e2, by omega, A2, HO, HB⟩
              case measure => simp [intOf]; omega
            · have hne : (o == now) = false := by simpa using hs
              have s1 : IntKind.i64.wrap (o - now) = o - now := by rw [IntKind.wrap_i64]; omega
              have s2 : IntKind.i64.wrap (loc - now) = loc - now := by rw [IntKind.wrap_i64]; omega
              have hol2 : out.length ≤ 900000 := by omega
              have HNE := Lib.hid (own_block HO.out (Nat.le_refl _))
              have FIN : ∀ d, d = loc - now → -86399 ≤ o - now → o - now ≤ 86399 → d ≤ 8589934592 → earI out ≤ d → Hid (Zn.At sl f (k + 1) o (earI (out ++ [(d, o)])) (out ++ [(d, o)])) := fun d hd h1 h2 h3 h4 => by
                subst hd
                exact Lib.hid (At_radd HAt.out hkl HGD.out hs h1 h2 h3 h4)
              have BAD : (¬ (-86399 ≤ o - now ∧ o - now ≤ 86399) ∨ ¬ (0 ≤ loc - now ∧ loc - now ≤ 8589934592) ∨ loc - now < earI out) → f = none := fun h => At_rbad HAt.out hkl HGD.out hs e1 h
              have HFIN := Lib.hid FIN
              have HBAD := Lib.hid BAD
              obtain ⟨wo, rfl⟩ : ∃ wo : World, wo = wr := ⟨_, rfl⟩
              clear FIN BAD HAt
              go_upto_region 21 with fail
              go_cut [10] (fun p wy => p = .pointer (some ⟨wo.heap.size, 0, none⟩) ∧ Hid (PairBlk wy wo.heap.size (loc - now, o) 90 ∧ Below wo.heap.size wo wy))
              case first =>
                go_region_held3 (fun W => W.cell? ⟨b, of + k * 2, none⟩ = some (.int .i64 loc) ∧ W.cell? ⟨b, of + k * 2 + 1, none⟩ = some (.int .i64 o))
                  (first | (exact ⟨c0, c1⟩) | go_keep)
                  (fail)
                all_goals
                  go_wp2_with fail
                  go_meet
                  exact ⟨rfl, Lib.hid ⟨BlkAt.new _ _ _, ((Below.refl _ _).alloc (Nat.le_refl _) _).drew⟩⟩
              case rest =>
                obtain ⟨rfl, HPB⟩ := hcut
                obtain ⟨w2, rfl⟩ : ∃ w2 : World, w2 = wc := ⟨_, rfl⟩
                obtain ⟨x0, x1⟩ := PairBlk.cells HPB.out.1
                simp only at x0 x1
                have O2 := Lib.hid (HO.out.below HPB.out.2)
                have B2 := Lib.hid (HB.out.trans (HPB.out.2.mono HB.out.size))
                have hbx := BlkAt.lt_ HPB.out.1
                obtain ⟨d, hd⟩ : ∃ d, loc - now = d := ⟨_, rfl⟩
                obtain ⟨g, hg⟩ : ∃ g, o - now = g := ⟨_, rfl⟩
                rw [hd] at x0 HFIN HBAD HPB s2
                rw [hg] at s1 HFIN HBAD
                have HDD := Lib.hid hd
                clear c0 c1 HO HB hd
                have t1a := in_any g (-86399) 86399
                have t2a := in_any d 0 8589934592
                by_cases i1 : -86399 ≤ g ∧ g ≤ 86399
                · rw [inB_yes i1.1 i1.2] at t1a
                  by_cases i2 : 0 ≤ d ∧ d ≤ 8589934592
                  · rw [inB_yes i2.1 i2.2] at t2a
                    have H1 := Lib.hid t1a
                    have H2 := Lib.hid t2a
                    clear t1a t2a
                    obtain ⟨Av, cv, hv, hcv, -, hLA⟩ := O2.out.shape
                    subst hv
                    obtain ⟨L, hL⟩ : ∃ L, out.length = L := ⟨_, rfl⟩
                    have HL := Lib.hid hL
                    have HLA := Lib.hid hLA
                    rw [hL] at O2 hol HNE ⊢
                    clear hLA hcv hL
                    by_cases hbad : 0 < L ∧ d < earI out
                    · obtain ⟨hl0, hlt7⟩ := hbad
                      have hfn := HBAD.out (.inr (.inr hlt7))
                      subst hfn
                      obtain ⟨⟨y, yo⟩, hy⟩ := get_ex (xs := out) (i := L - 1) (by have := HL.out; omega)
                      have hey := earI_some (out := out) (x := (y, yo)) (by rw [HL.out]; exact hy)
                      rw [hey] at hlt7 e1 e2
                      simp only at hlt7 e1 e2
                      obtain ⟨b2, of2, rfl, hb2, hc2⟩ := HLA.out (by have := HL.out; omega)
                      obtain ⟨d0, d1⟩ := pair_cells (hc2 _ _ hy)
                      simp only at d0 d1
                      have u1 : decide ((0 : Int) < L) = true := by simp; omega
                      have u2 : decide (0 < L) = true := by simp; omega
                      have z1 : (0 : Int) ≤ (L : Int) - 1 := by omega
                      have z2 : (L : Int) - 1 < L := by omega
                      have z3 : ((L : Int) - 1).toNat = L - 1 := by omega
                      have z4 : (1 : Int) ≤ L := by omega
                      have z5 : IntKind.i64.wrap ((L : Int) - 1) = (L : Int) - 1 := by rw [IntKind.wrap_i64]; omega
                      have z6 : IntKind.i64.wrap (d - y) = d - y := by rw [IntKind.wrap_i64]; omega
                      have z7 : decide (d - y < 604800) = true := by simp; omega
                      clear hc2 hy hey HFIN HBAD i1 i2 e1 e2 hlt7
                      go_wp2_with fail
                      go_quiet ((go_at_call 41; first | with_reducible exact zsame (H1.out _) | with_reducible exact zsame (H2.out _)))
                      go_wp2_with fail
                      go_ret2
                      rw [HSL.out, HF.out]; exact GivesT.none_ (below_drewN (bstep HB1.out B2.out) _)
                    · have N1 := HFIN.out d rfl i1.1 i1.2 i2.2 (by
                        rcases Nat.eq_zero_or_pos L with h | h
                        · rw [List.eq_nil_of_length_eq_zero (HL.out.trans h), earI_nil]; exact i2.1
                        · omega)
                      have hcase : (decide ((0 : Int) < L) = false ∧ decide (0 < L) = false) ∨ ((decide ((0 : Int) < L) = true ∧ decide (0 < L) = true ∧ (0 : Int) ≤ (L : Int) - 1 ∧ (L : Int) - 1 < L ∧ ((L : Int) - 1).toNat = L - 1 ∧ (1 : Int) ≤ L) ∧ ∃ b2 of2 y, Av = some ⟨b2, of2, none⟩ ∧ w2.cell? ⟨b2, of2 + (L - 1) * 2, none⟩ = some (.int .i64 y) ∧ IntKind.i64.wrap (d - y) = d - y ∧ decide (d - y < 604800) = false) := by
                        rcases Nat.eq_zero_or_pos L with h | h
                        · exact .inl ⟨by simp; omega, by simp; omega⟩
                        · obtain ⟨⟨y, yo⟩, hy⟩ := get_ex (xs := out) (i := L - 1) (by have := HL.out; omega)
                          have hey := earI_some (out := out) (x := (y, yo)) (by rw [HL.out]; exact hy)
                          rw [hey] at e1 e2 hbad
                          simp only at e1 e2 hbad
                          obtain ⟨b2, of2, hA2, hb2, hc2⟩ := HLA.out (by have := HL.out; omega)
                          exact .inr ⟨⟨by simp; omega, by simp; omega, by omega, by omega, by omega, by omega⟩, b2, of2, y, hA2, (pair_cells (hc2 _ _ hy)).1, by rw [IntKind.wrap_i64]; omega, by simp; omega⟩
                      have E1 : 0 ≤ earI (out ++ [(d, o)]) ∧ earI (out ++ [(d, o)]) ≤ 8600000000 := by rw [earI_snoc]; simp only; omega
                      obtain ⟨E1, E2⟩ := E1
                      clear HFIN HBAD i1 i2 e1 e2 hbad
                      rcases hcase with ⟨u1, u2⟩ | ⟨⟨u1, u2, u3, u4, u5, u6⟩, b2, of2, y, rfl, u7, u8, u9⟩
                      all_goals
                        go_wp2_with fail
                        go_quiet ((go_at_call 41; first | with_reducible exact zsame (H1.out _) | with_reducible exact zsame (H2.out _)))
                        go_upto_region 24 with fail
                        have O3 := Lib.hid (O2.out.drewN nq)
                        have B3 := Lib.hid (below_drewN B2.out nq)
                        have P3 : Hid (PairBlk (w2.drewN nq) wo.heap.size (d, o) 90) := Lib.hid (BlkAt.drewN HPB.out.1 nq)
                        generalize w2.drewN nq = w3 at O3 B3 P3 ⊢
                        have hrz3 := B3.out.size
                        clear x0 x1 O2 B2 HPB
                        go_region_held3 (fun W => W.cell? ⟨wo.heap.size, 0, none⟩ = some (.int .i64 d) ∧ W.cell? ⟨wo.heap.size, 1, none⟩ = some (.int .i64 o))
                          (first | exact PairBlk.cells P3.out | exact PairBlk.cells (BlkAt.drewN P3.out 1) | exact PairBlk.cells (BlkAt.alloc P3.out _) | exact PairBlk.cells (BlkAt.alloc (BlkAt.drewN P3.out 1) _) | exact PairBlk.cells (BlkAt.drewN (BlkAt.alloc P3.out _) 1) | assumption | exact PairBlk.cells hP5)
                          (first | (refine step_append_one kTra _ (by rfl) (.tmp 112) (.tmp 114) (by rfl) w1.heap.size (.slice Av L cv) out (by simp [Act.eval, Act.put]) (by first | exact O3.out.alloc _ | exact (O3.out.alloc _).drewN 1 | exact (O3.out.drewN 1).alloc _ | exact O3.out) _ (d, o) (by simp [Act.eval, Act.put]; rfl) (by first | exact pair_new rfl | exact pair_blk (BlkAt.drewN (BlkAt.new _ _ _) 1) | exact pair_blk (BlkAt.new _ _ _)) hol2 (by first | omega | (simp; omega) | simp) ?_; intro v5 w5 hO5 hB5 hg5; have hP5 : PairBlk w5 wo.heap.size (d, o) 90 := BlkAt.grown (by first | exact BlkAt.alloc P3.out _ | exact BlkAt.alloc (BlkAt.drewN P3.out 1) _ | exact BlkAt.drewN (BlkAt.alloc P3.out _) 1) hg5 (fun e => HNE.out e.symm); have B5 : Below w1.heap.size w1 w5 := (by first | exact (B3.out.alloc hrz3 _).trans hB5 | exact (B3.out.drew.alloc hrz3 _).trans hB5 | exact ((B3.out.alloc hrz3 _).drew).trans hB5)) | (refine step_append_one kTra _ (by rfl) (.tmp 112) (.tmp 114) (by rfl) w1.heap.size (.slice (some ⟨b2, of2, none⟩) L cv) out (by simp [Act.eval, Act.put]) (by first | exact O3.out.alloc _ | exact (O3.out.alloc _).drewN 1 | exact (O3.out.drewN 1).alloc _ | exact O3.out) _ (d, o) (by simp [Act.eval, Act.put]; rfl) (by first | exact pair_new rfl | exact pair_blk (BlkAt.drewN (BlkAt.new _ _ _) 1) | exact pair_blk (BlkAt.new _ _ _)) hol2 (by first | omega | (simp; omega) | simp) ?_; intro v5 w5 hO5 hB5 hg5; have hP5 : PairBlk w5 wo.heap.size (d, o) 90 := BlkAt.grown (by first | exact BlkAt.alloc P3.out _ | exact BlkAt.alloc (BlkAt.drewN P3.out 1) _ | exact BlkAt.drewN (BlkAt.alloc P3.out _) 1) hg5 (fun e => HNE.out e.symm); have B5 : Below w1.heap.size w1 w5 := (by first | exact (B3.out.alloc hrz3 _).trans hB5 | exact (B3.out.drew.alloc hrz3 _).trans hB5 | exact ((B3.out.alloc hrz3 _).drew).trans hB5)))
                        all_goals
                          go_wp2_with fail
                          go_roundw
                          case rel => exact ⟨k + 1, o, out ++ [(d, o)], by omega, by go_num, rfl, g3, g4, E1, E2, (by rw [List.length_append, HL.out]; simp; omega), N1, Lib.hid hO5, Lib.hid B5⟩
                          case measure => simp [intOf]; omega
                  · rw [inB_no (by omega)] at t2a
                    have H1 := Lib.hid t1a
                    have H2 := Lib.hid t2a
                    have hfn := HBAD.out (.inr (.inl i2))
                    subst hfn
                    clear t1a t2a HFIN HBAD i1 i2
                    go_wp2_with fail
                    go_quiet ((go_at_call 41; first | with_reducible exact zsame (H1.out _) | with_reducible exact zsame (H2.out _)))
                    go_wp2_with fail
                    go_ret2
                    rw [HSL.out, HF.out]; exact GivesT.none_ (below_drewN (bstep HB1.out B2.out) _)
                · rw [inB_no (by omega)] at t1a
                  have H1 := Lib.hid t1a
                  have hfn := HBAD.out (.inl i1)
                  subst hfn
                  clear t1a t2a HFIN HBAD i1
                  go_wp2_with fail
                  go_quiet ((go_at_call 41; with_reducible exact zsame (H1.out _)))
                  go_wp2_with fail
                  go_ret2
                  rw [HSL.out, HF.out]; exact GivesT.none_ (below_drewN (bstep HB1.out B2.out) _)
          · obtain rfl : k = m := by omega
            have hf := HAt.out
            rw [← HM.out] at hf
            have hf2 := hf.done
            subst hf2
            obtain ⟨A1, c1, rfl, -, -, hS⟩ := HO.out.shape
            have HS := Lib.hid hS
            clear hf HAt hS HO
            go_wp2_with fail
            go_ret2
            exact ⟨A1, c1, by rw [HSL.out, HF.out]; rfl, by rw [HSL.out, HF.out]; exact HS.out, bstep HB1.out HB.out⟩
/-- The same, with the zone's transitions named. -/
theorem rtrans_is {off : Int} {rs : List Zn.Rule} {ts : Zn.L} {er : Int} (h : Zn.trans off rs = (ts, er)) (s : ByteArray) (A : Option Addr) (n c : Nat) (w : World) (hz : ZIn w A n rs) (ho : I64 off) :
    Calls Tryd.prog 40 #[.agg #[.string s, .int .i64 off, .slice A n c]] w (GivesT ts er w) := by
  have := rtrans_any s off A n c rs w hz ho
  rw [h] at this
  exact this
end Go.Proofs.YthaacmmkignocaaDoor
namespace Go.Proofs.YthaacmmkignocaaDoor
open Go.RowKit
set_option linter.unusedVariables false
set_option maxRecDepth 100000
set_option linter.unusedSimpArgs false
set_option maxHeartbeats 1000000 in
theorem rcheck_is {off : Int} {rs : List Zn.Rule} {ts : Zn.L} {er : Int} (h : Zn.trans off rs = (ts, er)) (s : ByteArray) (A : Option Addr) (n c : Nat) (w : World) (hz : ZIn w A n rs) (ho : I64 off) :
    Calls Tryd.prog 46 #[.agg #[.string s, .int .i64 off, .slice A n c]] w fun e w' => e = .returned (.int .i64 er) ∧ Below w.heap.size w w' := by
  have C := Lib.hid (rtrans_is h s A n c _ (hz.alloc (.cells #[.string s, .int .i64 off, .slice A n c] 42)) ho)
  clear h hz
  go_enter Tryd.func46, Tryd.ntmps46
  go_wp2_with fail
  refine C.out.mono ?_
  rintro e w1 ⟨A1, c1, rfl, hP, hb⟩
  go_wp2_with fail
  go_ret
  exact ⟨rfl, below_alloc_call hb⟩
set_option maxHeartbeats 2000000 in
theorem roffset_any (s : ByteArray) (off : Int) (A : Option Addr) (n c : Nat) (B : Option Addr) (m d : Nat) (ts : Zn.L) (x : Int) (w : World) (hP : PairsAt w B ts) (hm : ts.length = m) (h640 : m ≤ 640) :
    Calls Tryd.prog 52 #[.agg #[.string s, .int .i64 off, .slice A n c], .slice B m d, .int .i64 x] w fun e w' => e = .returned (.int .i64 (Zn.offAt off ts x)) ∧ Below w.heap.size w w' := by
  have HP := Lib.hid hP
  have HM := Lib.hid hm
  obtain ⟨r, hr⟩ : ∃ r, Zn.offAt off ts x = r := ⟨_, rfl⟩
  have HR : Hid (Zn.offAt off (ts.drop 0) x = r) := Lib.hid hr
  rw [hr]
  clear hP hm hr
  go_enter Tryd.func52, Tryd.ntmps52
  go_wp2_with fail
  go_loopw [7, 8] (fun vn vi wr => ∃ (k : Nat) (nn : Int), k ≤ m ∧ vi = .int .i64 k ∧ vn = .int .i64 nn ∧ Hid (Zn.offAt nn (ts.drop k) x = r) ∧ Hid (Below w.heap.size w wr)) (fun _ i _ => m - (intOf i).toNat)
  case atStart => exact ⟨0, off, Nat.zero_le _, rfl, rfl, HR, Lib.hid ((Below.refl _ _).alloc (Nat.le_refl _) _)⟩
  case round =>
    clear HR
    obtain ⟨k, nn, hk, rfl, rfl, HO, HB⟩ := hrel
    by_cases hlt : k < m
    · obtain ⟨⟨a, o⟩, hx⟩ := get_ex (xs := ts) (i := k) (by have := HM.out; omega)
      obtain ⟨b, of, rfl, hb, hc⟩ := (HP.out.below HB.out) (by have := HM.out; omega)
      obtain ⟨c0, c1⟩ := pair_cells (hc k _ hx)
      simp only at c0 c1
      have hst := offAt_drop (n := nn) (x := x) hx
      rw [HO.out] at hst
      have HST := Lib.hid hst
      have p1 : (0 : Int) ≤ k := by omega
      have p2 : (k : Int) < m := by omega
      clear hc hx hst HO
      by_cases ha : a ≤ x
      · have e := HST.out
        rw [if_pos ha] at e
        have HE := Lib.hid e.symm
        have t1 : decide (a ≤ x) = true := decide_eq_true ha
        clear e HST
        go_wp2_with fail
        go_roundw
        case rel => exact ⟨k + 1, o, by omega, by go_num, rfl, HE, HB⟩
        case measure => simp [intOf]; omega
      · have e := HST.out
        rw [if_neg ha] at e
        have HE := Lib.hid e
        have t1 : decide (a ≤ x) = false := decide_eq_false ha
        clear e HST
        go_wp2_with fail
        go_ret
        exact ⟨ret_int HE.out.symm, HB.out⟩
    · have hkk : ts.drop k = [] := List.drop_of_length_le (by have := HM.out; omega)
      have e := HO.out
      rw [hkk] at e
      have HE := Lib.hid (show nn = r from e)
      clear hkk e HO
      go_wp2_with fail
      go_ret
      exact ⟨ret_int HE.out, HB.out⟩
set_option maxHeartbeats 4000000 in
theorem roffAt_is {off : Int} {rs : List Zn.Rule} {ts : Zn.L} {er : Int} (h : Zn.trans off rs = (ts, er)) (s : ByteArray) (A : Option Addr) (n c : Nat) (x : Int) (w : World) (hz : ZIn w A n rs) (ho : I64 off) :
    Calls Tryd.prog 31 #[.agg #[.string s, .int .i64 off, .slice A n c], .int .i64 x] w fun e w' => e = .returned (.tuple #[.int .i64 (offV off ts er x), .int .i64 (offE er x)]) ∧ Below w.heap.size w w' := by
  have C := Lib.hid (rtrans_is h s A n c _ (hz.alloc (.cells #[.string s, .int .i64 off, .slice A n c] 42)) ho)
  clear hz
  by_cases he : er = 0
  · subst he
    by_cases hx : x < 0 ∨ 8589934592 < x
    · have hv := Lib.hid (show offV off ts 0 x = 0 ∧ offE 0 x = 1 by unfold offV offE; simp [hx])
      have H1 := Lib.hid (fun W => in_is (inB_no (n := x) (lo := 0) (hi := 8589934592) hx) W)
      clear h hx
      go_enter Tryd.func31, Tryd.ntmps31
      go_wp2_with fail
      refine C.out.mono ?_
      rintro e w1 ⟨A1, c1, rfl, hP, hb⟩
      go_wp2_with (go_at_call 41; refine (H1.out _).mono ?_; rintro e w' ⟨rfl, rfl⟩)
      go_ret2
      exact ⟨by rw [hv.out.1, hv.out.2]; rfl, below_alloc_call hb⟩
    · obtain ⟨k1, k2, k3, k4, k5, k6, k7, k8⟩ := Zn.trans_ok h
      have hv := Lib.hid (show offV off ts 0 x = Zn.offAt off ts x ∧ offE 0 x = 0 by unfold offV offE; simp [hx])
      have H1 := Lib.hid (fun W => in_is (inB_yes (n := x) (lo := 0) (hi := 8589934592) (by omega) (by omega)) W)
      obtain ⟨q, hq⟩ : ∃ q, ts.length = q := ⟨_, rfl⟩
      have q640 : q ≤ 640 := by omega
      have HQ := Lib.hid hq
      clear h hx k1 k2 k3 k4 k5 k6 k7 k8
      go_enter Tryd.func31, Tryd.ntmps31
      go_wp2_with fail
      refine C.out.mono ?_
      rintro e w1 ⟨A1, c1, rfl, hP, hb⟩
      rw [hq]
      have Z1 : ZBlk w1 w.heap.size s off A n c := BlkAt.after (BlkAt.new _ _ _) hb
      obtain ⟨z0, z1, z2⟩ := ZBlk.cells Z1
      have HB := Lib.hid (below_alloc_call hb)
      have C2 := Lib.hid (roffset_any s off A n c A1 q c1 ts x w1 hP HQ.out q640)
      clear hb hP hq Z1
      go_wp2_with (go_at_call 41; refine (H1.out _).mono ?_; rintro e w' ⟨rfl, rfl⟩)
      refine C2.out.mono ?_
      rintro e w2 ⟨rfl, b2⟩
      go_wp2_with fail
      go_ret2
      exact ⟨by rw [hv.out.1, hv.out.2]; rfl, bstep HB.out b2⟩
  · have hv := Lib.hid (show offV off ts er x = 0 ∧ offE er x = 8 by unfold offV offE; simp [he])
    have hne : (er != 0) = true := by simpa using he
    clear h he
    go_enter Tryd.func31, Tryd.ntmps31
    go_wp2_with fail
    refine C.out.mono ?_
    rintro e w1 ⟨A1, c1, rfl, hP, hb⟩
    go_wp2_with fail
    go_ret2
    exact ⟨by rw [hv.out.1, hv.out.2]; rfl, below_alloc_call hb⟩
set_option maxHeartbeats 1000000 in
theorem rlocal_any (t o : Int) (w : World) (h1 : -100000 ≤ t + o) (h2 : t + o ≤ 9000000000) (h3 : I64 t) (h4 : I64 o) :
    Calls Tryd.prog 39 #[.int .i64 t, .int .i64 o] w fun e w' => e = .returned (.agg #[.int .i64 (Zn.toL (t + o)).1, .int .i64 (Zn.toL (t + o)).2]) ∧ Below w.heap.size w w' := by
  obtain ⟨v, hv⟩ : ∃ v, t + o = v := ⟨_, rfl⟩
  have s1 : IntKind.i64.wrap (t + o) = v := by rw [hv, IntKind.wrap_i64]; omega
  have s2 : IntKind.i64.wrap (v + 864000) = v + 864000 := by rw [IntKind.wrap_i64]; omega
  have q1 : 0 ≤ v + 864000 := by omega
  have l1 : (Zn.toL (t + o)).1 = (v + 864000) / 86400 - 10 := by rw [hv]; unfold Zn.toL; simp only; omega
  have l2 : (Zn.toL (t + o)).2 = (v + 864000) % 86400 := by rw [hv]; unfold Zn.toL; simp only; omega
  rw [l1, l2]
  have v1 : v ≤ 9000000000 := by omega
  clear l1 l2 h1 h2
  go_enter Tryd.func39, Tryd.ntmps39
  go_wp2_with fail
  refine bodyPost_ret (v := .agg #[.int .i64 ((v + 864000) / 86400 - 10), .int .i64 ((v + 864000) % 86400)]) (by simp [results, Tryd.results39, go_sem]) rfl ⟨rfl, ?_⟩
  first | exact (Below.refl _ _).alloc (Nat.le_refl _) _ | exact (((Below.refl _ _).alloc (Nat.le_refl _) _).setCell (by exact Nat.le_refl _) _).setCell (by exact Nat.le_refl _) _
set_option maxHeartbeats 4000000 in
theorem rtoLocal_is {off : Int} {rs : List Zn.Rule} {ts : Zn.L} {er : Int} (h : Zn.trans off rs = (ts, er)) (s : ByteArray) (A : Option Addr) (n c : Nat) (x : Int) (w : World) (hz : ZIn w A n rs) (ho : I64 off) :
    Calls Tryd.prog 15 #[.agg #[.string s, .int .i64 off, .slice A n c], .int .i64 x] w fun e w' => e = .returned (.tuple #[.agg #[.int .i64 (locV off ts er x).1, .int .i64 (locV off ts er x).2], .int .i64 (offE er x)]) ∧ Below w.heap.size w w' := by
  have C := roffAt_is h s A n c x _ ((hz.alloc (.cells #[.string s, .int .i64 off, .slice A n c] 42)).alloc (.cells #[.int .i64 0, .int .i64 0] 35)) ho
  by_cases he : offE er x = 0
  · have hlv : locV off ts er x = Zn.toL (x + offV off ts er x) := by unfold locV; rw [if_neg (by simpa using he)]
    have hb : 0 ≤ x ∧ x ≤ 8589934592 ∧ -64800 ≤ offV off ts er x ∧ offV off ts er x ≤ 64800 := by
      unfold offE at he
      by_cases h0 : er = 0
      · subst h0
        by_cases hx : x < 0 ∨ 8589934592 < x
        · simp [hx] at he
        · obtain ⟨k1, k2, k3, k4, k5, k6, k7, k8⟩ := Zn.trans_ok h
          have := offAt_bd x k1 k8
          rw [Zn.okO_iff] at this
          have hv : offV off ts 0 x = Zn.offAt off ts x := by unfold offV; simp [hx]
          rw [hv]; omega
      · simp [h0] at he
    rw [he] at C ⊢
    rw [hlv]
    generalize offV off ts er x = o at C hlv hb
    have CL := fun W => rlocal_any x o W (by omega) (by omega) ⟨by omega, by omega⟩ ⟨by omega, by omega⟩
    generalize Zn.toL (x + o) = l at CL ⊢
    obtain ⟨l0, l1⟩ := l
    simp only at CL ⊢
    have HC := Lib.hid C
    have HCL := Lib.hid CL
    clear hlv C CL hz h he hb
    go_enter Tryd.func15, Tryd.ntmps15
    go_wp2_with fail
    refine HC.out.mono ?_
    rintro e w1 ⟨rfl, hb⟩
    go_wp2_with fail
    refine (HCL.out _).mono ?_
    rintro e w2 ⟨rfl, hb2⟩
    have B := BlkAt.after (BlkAt.after (BlkAt.new (w.alloc (.cells #[.string s, .int .i64 off, .slice A n c] 42)) #[.int .i64 0, .int .i64 0] 35) hb) hb2
    rw [show (w.alloc (.cells #[.string s, .int .i64 off, .slice A n c] 42)).heap.size = w.heap.size + 1 by simp] at B
    have e0 := BlkAt.cell B (i := 0) rfl
    have e1 := BlkAt.cell B (i := 1) rfl
    have f0 := BlkAt.free B 0
    have f1 := BlkAt.free B 1
    have hzz := BlkAt.lt_ B
    have HB := Lib.hid (bstep (two_boxes hb) hb2)
    clear B hb hb2
    go_wp2_with fail
    refine bodyPost_ret (v := .tuple #[.agg #[.int .i64 l0, .int .i64 l1], .int .i64 0]) (by simp [results, Tryd.results15, go_sem, e0, e1, f0, f1, hzz]) rfl ⟨rfl, ?_⟩
    exact (HB.out.setCell (by simp) _).setCell (by simp) _
  · have hlv : locV off ts er x = (0, 0) := by unfold locV; rw [if_pos he]
    rw [hlv]
    have hne : (offE er x != 0) = true := by simpa using he
    generalize offE er x = ee at C hne ⊢
    generalize offV off ts er x = o at C
    have HC := Lib.hid C
    clear hlv C hz h he
    go_enter Tryd.func15, Tryd.ntmps15
    go_wp2_with fail
    refine HC.out.mono ?_
    rintro e w1 ⟨rfl, hb⟩
    have B := BlkAt.after (BlkAt.new (w.alloc (.cells #[.string s, .int .i64 off, .slice A n c] 42)) #[.int .i64 0, .int .i64 0] 35) hb
    rw [show (w.alloc (.cells #[.string s, .int .i64 off, .slice A n c] 42)).heap.size = w.heap.size + 1 by simp] at B
    have e0 := BlkAt.cell B (i := 0) rfl
    have e1 := BlkAt.cell B (i := 1) rfl
    have f0 := BlkAt.free B 0
    have f1 := BlkAt.free B 1
    have hzz := BlkAt.lt_ B
    have HB := Lib.hid (two_boxes hb)
    clear B hb
    go_wp2_with fail
    refine bodyPost_ret (v := .tuple #[.agg #[.int .i64 0, .int .i64 0], .int .i64 ee]) (by simp [results, Tryd.results15, go_sem, e0, e1, f0, f1, hzz]) rfl ⟨rfl, ?_⟩
    exact (HB.out.setCell (by simp) _).setCell (by simp) _
theorem small_any (d : Int) (w : World) : Calls Tryd.prog 42 #[.int .i64 d] w fun e w' => e = .returned (.bool (inB d (-2) 99422)) ∧ w = w' := by
  have C := in_any d (-2) 99422 w
  go_enter Tryd.func42, Tryd.ntmps42
  go_wp2_with fail
  refine C.mono ?_
  rintro e w1 ⟨rfl, rfl⟩
  go_wp2_with fail
  go_ret
  exact ⟨rfl, rfl⟩
end Go.Proofs.YthaacmmkignocaaDoor
