/- Package week: Second and In. -/
import Derived.Test.YtndngkfiamdohaaDoorWa
import Derived.Test.YtndngkfiamdohaaDoorZnf
namespace Go.Proofs.YtndngkfiamdohaaDoor
open Go.RowKit
set_option linter.unusedVariables false
set_option linter.unusedSimpArgs false
set_option maxRecDepth 100000

/-- The second of the week of x. -/
def secV (off : Int) (ts : Zn.L) (er x : Int) : Int := if offE er x ≠ 0 then 0 else Wk.sow (x + offV off ts er x)
/-- Where the local time is known: the day, the second, the weekday. -/
theorem loc_parts {off : Int} {rs : List Zn.Rule} {ts : Zn.L} {er x : Int} (h : Zn.trans off rs = (ts, er)) (he : offE er x = 0) :
    ∃ D S K, locV off ts er x = (D, S) ∧ Civ.wd D = K ∧ 0 ≤ K ∧ K ≤ 6 ∧ 0 ≤ S ∧ S < 86400 ∧ -10 ≤ D ∧ D ≤ 200000 ∧ secV off ts er x = K * 86400 + S := by
  have hb : 0 ≤ x ∧ x ≤ 8589934592 ∧ -64800 ≤ offV off ts er x ∧ offV off ts er x ≤ 64800 := by
    unfold offE at he
    by_cases h0 : er = 0
    · subst h0
      by_cases hx : x < 0 ∨ 8589934592 < x
      · simp [hx] at he
      · obtain ⟨k1, k2, k3, k4, k5, k6, k7, k8⟩ := Zn.trans_ok h
        have := offAt_bd x k1 k8
        rw [Zn.okO_iff] at this
        have hv : offV off ts 0 x = Zn.offAt off ts x := by unfold offV; simp [hx]
        rw [hv]; omega
    · simp [h0] at he
  refine ⟨(x + offV off ts er x) / 86400, (x + offV off ts er x) % 86400, _, by unfold locV; rw [if_neg (by simpa using he)]; rfl, rfl, (Civ.wd_bd _).1, (Civ.wd_bd _).2, ?_, ?_, ?_, ?_, ?_⟩
  · omega
  · omega
  · omega
  · omega
  · unfold secV; rw [if_neg (by simpa using he)]; rfl

set_option maxHeartbeats 4000000 in
theorem sec_is {off : Int} {rs : List Zn.Rule} {ts : Zn.L} {er : Int} (h : Zn.trans off rs = (ts, er)) (s : ByteArray) (A : Option Addr) (n c : Nat) (x : Int) (w : World) (hz : ZIn w A n rs) (ho : I64 off) :
    Calls Tryd.prog 25 #[.agg #[.string s, .int .i64 off, .slice A n c], .int .i64 x] w fun e w' => e = .returned (.tuple #[.int .i64 (secV off ts er x), .int .i64 (offE er x)]) ∧ Below w.heap.size w w' := by
  have C := toLocal_is h s A n c x _ (hz.alloc (.cells #[.string s, .int .i64 off, .slice A n c] 32)) ho
  by_cases he : offE er x = 0
  · obtain ⟨D, S, K, hl, hK, k1, k2, s1, s2, d1, d2, hv⟩ := loc_parts h he
    rw [he, hl] at C
    rw [he, hv]
    have WD := fun W => hK ▸ wday_any D W (by omega) (by omega)
    have HC := Lib.hid C
    have HW := Lib.hid WD
    have e1 : IntKind.i64.wrap (K * 86400) = K * 86400 := by rw [IntKind.wrap_i64]; omega
    have e2 : IntKind.i64.wrap (K * 86400 + S) = K * 86400 + S := by rw [IntKind.wrap_i64]; omega
    clear h hz C hl hK hv WD he
    go_enter Tryd.func25, Tryd.ntmps25
    go_wp2_with fail
    refine HC.out.mono ?_
    rintro e w1 ⟨rfl, hb⟩
    have B1 : Below w.heap.size w w1 := below_alloc_call hb
    have HB := Lib.hid B1
    have hsz := B1.size
    clear hb B1
    go_wp2_with fail
    go_quiet ((go_at_call 41; exact qsame (HW.out _)))
    go_wp2_with fail
    go_ret2
    exact ⟨rfl, below_drewN (HB.out.alloc hsz _) _⟩
  · have hv : secV off ts er x = 0 := by unfold secV; rw [if_pos he]
    have hne : (offE er x != 0) = true := by simpa using he
    rw [hv]
    generalize offE er x = ee at C hne ⊢
    obtain ⟨⟨D, S⟩, hl⟩ : ∃ p, locV off ts er x = p := ⟨_, rfl⟩
    rw [hl] at C
    have HC := Lib.hid C
    clear h hz C hl hv he
    go_enter Tryd.func25, Tryd.ntmps25
    go_wp2_with fail
    refine HC.out.mono ?_
    rintro e w1 ⟨rfl, hb⟩
    have B1 : Below w.heap.size w w1 := below_alloc_call hb
    have HB := Lib.hid B1
    have hsz := B1.size
    clear hb B1
    go_wp2_with fail
    go_ret2
    exact ⟨rfl, HB.out.alloc hsz _⟩

set_option maxHeartbeats 1000000 in
theorem inf_any (b7 : Nat) (s a b : Int) (W : World) (h : W.cell? ⟨b7, 0, none⟩ = some (.int .i64 s)) :
    Calls Tryd.prog 37 #[.agg #[.int .i64 a, .int .i64 b], .pointer (some ⟨b7, 0, none⟩)] W fun e w' => e = .returned (.bool (decide (a ≤ s ∧ s < b))) ∧ Below W.heap.size W w' := by
  have hlt := World.block_lt_of_cell? W _ h
  simp only at hlt
  by_cases h1 : a ≤ s
  · by_cases h2 : s < b
    · have hd := Lib.hid (show decide (a ≤ s ∧ s < b) = true from decide_eq_true ⟨h1, h2⟩)
      go_enter Tryd.func37, Tryd.ntmps37
      go_wp2_with fail
      go_ret
      exact ⟨ret_bool hd.out.symm, (Below.refl _ _).alloc (Nat.le_refl _) _⟩
    · have hd := Lib.hid (show decide (a ≤ s ∧ s < b) = false from decide_eq_false (by omega))
      go_enter Tryd.func37, Tryd.ntmps37
      go_wp2_with fail
      go_ret
      exact ⟨ret_bool (by simp [h1, h2]), (Below.refl _ _).alloc (Nat.le_refl _) _⟩
  · have hd := Lib.hid (show decide (a ≤ s ∧ s < b) = false from decide_eq_false (by omega))
    go_enter Tryd.func37, Tryd.ntmps37
    go_wp2_with fail
    go_ret
    exact ⟨ret_bool (by simp; omega), (Below.refl _ _).alloc (Nat.le_refl _) _⟩

set_option maxHeartbeats 2000000 in
theorem ixf_any (A : Option Addr) (n c b7 : Nat) (l : Wk.L) (s : Int) (w : World) (hA : WIn w A n l) (hs : w.cell? ⟨b7, 0, none⟩ = some (.int .i64 s)) :
    Calls Tryd.prog 57 #[.slice A n c, .func (.func 37) #[] #[.pointer (some ⟨b7, 0, none⟩)]] w fun e w' => ∃ r, e = .returned (.int .i64 r) ∧ decide (0 ≤ r) = Wk.within l s ∧ Below w.heap.size w w' := by
  have HA := Lib.hid hA
  have HS := Lib.hid hs
  have hn := hA.le
  have h7 := World.block_lt_of_cell? w _ hs
  simp only at h7
  clear hA hs
  go_enter Tryd.func57, Tryd.ntmps57
  go_wp2_with fail
  go_loopw [8] (fun i wr => ∃ (k : Nat), k ≤ n ∧ i = .int .i64 k ∧ Hid (Wk.within l s = Wk.within (l.drop k) s) ∧ Hid (Below w.heap.size w wr)) (fun i _ => n - (intOf i).toNat)
  case atStart => exact ⟨0, Nat.zero_le _, rfl, Lib.hid rfl, Lib.hid (Below.refl _ _)⟩
  case round =>
    obtain ⟨k, hk, rfl, HW, HB⟩ := hrel
    by_cases hlt : k < n
    · obtain ⟨a, b, bl, of, hx, rfl, hb, c0, c1⟩ := (HA.out.below HB.out).get hlt
      have hrz := HB.out.size
      have C := inf_any b7 s a b wr (cell_keep HS.out HB.out)
      have hw := HW.out
      rw [drop_cons' hx, Wk.within_cons] at hw
      simp only at hw
      have HWW := Lib.hid hw
      clear hx hw HW
      by_cases hd : a ≤ s ∧ s < b
      · rw [decide_eq_true hd] at C
        have HC := Lib.hid C
        have HV := Lib.hid (show Wk.within l s = true by rw [HWW.out, decide_eq_true hd]; rfl)
        clear C HWW hd
        go_wp2_with fail
        refine HC.out.mono ?_
        rintro e w1 ⟨rfl, b1⟩
        have B1 := bstep HB.out b1
        go_wp2_with fail
        go_ret
        exact ⟨_, rfl, by rw [HV.out]; simp, B1⟩
      · rw [decide_eq_false hd] at C
        have HC := Lib.hid C
        have HV := Lib.hid (show Wk.within l s = Wk.within (l.drop (k + 1)) s by rw [HWW.out, decide_eq_false hd]; rfl)
        clear C HWW hd
        go_wp2_with fail
        refine HC.out.mono ?_
        rintro e w1 ⟨rfl, b1⟩
        have B1 := Lib.hid (bstep HB.out b1)
        clear b1
        go_wp2_with fail
        go_roundw
        case rel => exact ⟨k + 1, by omega, by go_num, HV, B1⟩
        case measure => simp [intOf]; omega
    · have HV := Lib.hid (show Wk.within l s = false by rw [HW.out, List.drop_of_length_le (by have := HA.out.len; omega)]; rfl)
      go_wp2_with fail
      go_ret
      exact ⟨_, rfl, by rw [HV.out]; rfl, HB.out⟩

set_option maxHeartbeats 1000000 in
theorem ctf_any (A : Option Addr) (n c b7 : Nat) (l : Wk.L) (s : Int) (w : World) (hA : WIn w A n l) (hs : w.cell? ⟨b7, 0, none⟩ = some (.int .i64 s)) :
    Calls Tryd.prog 36 #[.slice A n c, .func (.func 37) #[] #[.pointer (some ⟨b7, 0, none⟩)]] w fun e w' => e = .returned (.bool (Wk.within l s)) ∧ Below w.heap.size w w' := by
  have C := Lib.hid (ixf_any A n c b7 l s w hA hs)
  clear hA hs
  go_enter Tryd.func36, Tryd.ntmps36
  go_wp2_with fail
  refine C.out.mono ?_
  rintro e w1 ⟨r, rfl, hr, b1⟩
  have HR := Lib.hid hr
  clear hr
  go_wp2_with fail
  go_ret
  exact ⟨ret_bool HR.out, b1⟩

/-- Is x in the windows? -/
def inV (off : Int) (ts : Zn.L) (er : Int) (l : Wk.L) (x : Int) : Bool := decide (offE er x = 0) && (decide (Wk.chk l = 0) && Wk.within l (secV off ts er x))

set_option maxHeartbeats 4000000 in
theorem wkin_is {off : Int} {rs : List Zn.Rule} {ts : Zn.L} {er : Int} (h : Zn.trans off rs = (ts, er)) (s : ByteArray) (A : Option Addr) (n c : Nat) (A2 : Option Addr) (n2 c2 : Nat) (l : Wk.L) (x : Int) (w : World) (hz : ZIn w A n rs) (ho : I64 off) (hl : WIn w A2 n2 l) :
    Calls Tryd.prog 13 #[.agg #[.string s, .int .i64 off, .slice A n c], .slice A2 n2 c2, .int .i64 x] w fun e w' => e = .returned (.bool (inV off ts er l x)) ∧ Below w.heap.size w w' := by
  have C := Lib.hid (sec_is h s A n c x _ (hz.alloc (.cells #[.string s, .int .i64 off, .slice A n c] 32)) ho)
  obtain ⟨S, hS⟩ : ∃ S, secV off ts er x = S := ⟨_, rfl⟩
  obtain ⟨ee, hee⟩ : ∃ ee, offE er x = ee := ⟨_, rfl⟩
  rw [hS, hee] at C
  have hv : inV off ts er l x = (decide (ee = 0) && (decide (Wk.chk l = 0) && Wk.within l S)) := by unfold inV; rw [hS, hee]
  rw [hv]
  have HL := Lib.hid hl
  clear h hz hS hee hv hl
  by_cases he : ee = 0
  · subst he
    by_cases hc : Wk.chk l = 0
    · have HC := fun W (hW : WIn W A2 n2 l) => hc ▸ wchk_any A2 n2 c2 l W hW
      have CH := Lib.hid HC
      have HR := Lib.hid (show (decide ((0 : Int) = 0) && (decide (Wk.chk l = 0) && Wk.within l S)) = Wk.within l S by rw [decide_eq_true hc]; simp)
      clear HC hc
      go_enter Tryd.func13, Tryd.ntmps13
      go_wp2_with fail
      refine C.out.mono ?_
      rintro e w1 ⟨rfl, b1⟩
      have B1 := Lib.hid (below_alloc_call b1)
      have sz1 := B1.out.size
      have cS : (w1.alloc (.cells #[.int .i64 S] 3)).cell? ⟨w1.heap.size, 0, none⟩ = some (.int .i64 S) := BlkAt.cell (BlkAt.new w1 #[.int .i64 S] 3) rfl
      have HS := Lib.hid cS
      clear b1 cS
      go_wp2_with fail
      refine (CH.out _ ((HL.out.below B1.out).alloc _)).mono ?_
      rintro e w2 ⟨rfl, b2⟩
      have B2 := Lib.hid ((B1.out.alloc sz1 (.cells #[.int .i64 S] 3)).trans (b2.mono (by simp; omega)))
      have HS2 := Lib.hid (cell_keep HS.out b2)
      clear b2
      go_wp2_with fail
      refine (ctf_any A2 n2 c2 w1.heap.size l S _ (HL.out.below B2.out) HS2.out).mono ?_
      rintro e w3 ⟨rfl, b3⟩
      go_wp2_with fail
      go_ret
      exact ⟨ret_bool HR.out.symm, bstep B2.out b3⟩
    · obtain ⟨R, hR⟩ : ∃ R, Wk.chk l = R := ⟨_, rfl⟩
      rw [hR] at hc
      have hne : (R != 0) = true := by simpa using hc
      have HC := fun W (hW : WIn W A2 n2 l) => hR ▸ wchk_any A2 n2 c2 l W hW
      have CH := Lib.hid HC
      have HR := Lib.hid (show (decide ((0 : Int) = 0) && (decide (Wk.chk l = 0) && Wk.within l S)) = false by rw [hR, decide_eq_false hc]; simp)
      clear HC hc hR
      go_enter Tryd.func13, Tryd.ntmps13
      go_wp2_with fail
      refine C.out.mono ?_
      rintro e w1 ⟨rfl, b1⟩
      have B1 := Lib.hid (below_alloc_call b1)
      have sz1 := B1.out.size
      clear b1
      go_wp2_with fail
      refine (CH.out _ ((HL.out.below B1.out).alloc _)).mono ?_
      rintro e w2 ⟨rfl, b2⟩
      have B2 := Lib.hid ((B1.out.alloc sz1 (.cells #[.int .i64 S] 3)).trans (b2.mono (by simp; omega)))
      clear b2
      go_wp2_with fail
      go_ret
      exact ⟨ret_bool HR.out.symm, B2.out⟩
  · have hne : (ee != 0) = true := by simpa using he
    have HR := Lib.hid (show (decide (ee = 0) && (decide (Wk.chk l = 0) && Wk.within l S)) = false by rw [decide_eq_false he]; simp)
    clear he
    go_enter Tryd.func13, Tryd.ntmps13
    go_wp2_with fail
    refine C.out.mono ?_
    rintro e w1 ⟨rfl, b1⟩
    have B1 := Lib.hid (below_alloc_call b1)
    have sz1 := B1.out.size
    clear b1
    go_wp2_with fail
    go_ret
    exact ⟨ret_bool HR.out.symm, B1.out.alloc sz1 _⟩
end Go.Proofs.YtndngkfiamdohaaDoor
