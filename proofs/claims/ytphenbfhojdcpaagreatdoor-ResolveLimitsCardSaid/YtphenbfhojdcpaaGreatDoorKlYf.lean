/- Package syntax: the forms of statements, kinds compared, the tokens behind a form. -/
import Derived.Test.YtphenbfhojdcpaaGreatDoorKlG07
namespace Go.Proofs.YtphenbfhojdcpaaGreatDoor
open Go.RowKit
set_option linter.unusedVariables false
set_option linter.unusedSimpArgs false
set_option maxRecDepth 100000
set_option maxHeartbeats 4000000 in
theorem forms_any (w : World) : Calls Tryz.prog 97 #[] w fun e w' => ∃ b, e = .returned (.slice (some ⟨b, 0, none⟩) 15 15) ∧ FmsAt w' b Sy.F ∧ b < w'.heap.size ∧ Below w.heap.size w w' := by
  have HF := Lib.hid (fms_new w Sy.F 153)
  have HB := Lib.hid (fmW_below Sy.F w)
  have HZ := Lib.hid (show (fmW w Sy.F).heap.size < ((fmW w Sy.F).alloc (.cells (fmV w.heap.size Sy.F).toArray 153)).heap.size by simp)
  have HB2 := Lib.hid (HB.out.alloc HB.out.size (.cells (fmV w.heap.size Sy.F).toArray 153))
  have key : ∀ (W : World) (b : Nat), W = (fmW w Sy.F).alloc (.cells (fmV w.heap.size Sy.F).toArray 153) → b = w.heap.size + 15 → FmsAt W b Sy.F ∧ b < W.heap.size ∧ Below w.heap.size w W := by
    rintro _ _ rfl h
    obtain rfl : _ = (fmW w Sy.F).heap.size := h.trans (fmW_size Sy.F w).symm
    exact ⟨HF.out, HZ.out, HB2.out⟩
  have KEY := Lib.hid key
  clear key HF HB HZ HB2
  go_enter Tryz.func97, Tryz.ntmps97
  go_wp2_with fail
  go_ret
  exact ⟨_, rfl, KEY.out _ _ (by kernel_rfl) (by omega)⟩
theorem sk_any (a : Int) (t : ByteArray) (n k : Int) (w : World) : Calls Tryz.prog 138 #[.agg #[.int .i64 a, .string t, .int .i64 n], .int .i64 k] w fun e w' => e = .returned (.bool (a == k)) ∧ Below w.heap.size w w' := by
  go_enter Tryz.func138, Tryz.ntmps138
  go_wp2_with fail
  go_ret
  exact ⟨rfl, (Below.refl _ _).alloc (Nat.le_refl _) _⟩
theorem sk_is {a k : Int} {b : Bool} (h : (a == k) = b) (t : ByteArray) (n : Int) (w : World) : Calls Tryz.prog 138 #[.agg #[.int .i64 a, .string t, .int .i64 n], .int .i64 k] w fun e w' => e = .returned (.bool b) ∧ Below w.heap.size w w' := h ▸ sk_any a t n k w
theorem map_beq_cons (y : Lx.Tk) (ts : List Lx.Tk) (z : Int) (ks : List Int) : (((y :: ts).map (·.1)) == (z :: ks)) = ((y.1 == z) && (ts.map (·.1) == ks)) := rfl
set_option maxHeartbeats 4000000 in
theorem eqf_any (A K : Option Addr) (n c nk ck : Nat) (ts : List Lx.Tk) (ks : List Int) (R : Bool) (w : World) (hA : ListAt 3 eTok w A ts) (hn : ts.length = n) (hK : NumsAt w K ks) (hk : ks.length = nk) (hsz : n ≤ 1000000) (hR : (ts.map (·.1) == ks) = R) :
    Calls Tryz.prog 139 #[.slice A n c, .slice K nk ck, .func (.func 138) #[] #[]] w fun e w' => e = .returned (.bool R) ∧ Below w.heap.size w w' := by
  by_cases hnk : n = nk
  · subst hnk
    have HA := Lib.hid hA
    have HK := Lib.hid hK
    have HN := Lib.hid hn
    have HM := Lib.hid hk
    have HR0 : Hid ((((ts.drop 0).map (·.1)) == ks.drop 0) = R) := Lib.hid hR
    clear hA hn hK hk hR
    go_enter Tryz.func139, Tryz.ntmps139
    go_wp2_with fail
    go_loopw [17] (fun i wr => ∃ k : Nat, k ≤ n ∧ i = .int .i64 k ∧ Hid ((((ts.drop k).map (·.1)) == ks.drop k) = R) ∧ Hid (Below w.heap.size w wr)) (fun i _ => n - (intOf i).toNat)
    case atStart => exact ⟨0, Nat.zero_le _, rfl, HR0, Lib.hid (Below.refl _ _)⟩
    case round =>
      clear HR0
      obtain ⟨k, hk, rfl, HR, HB⟩ := hrel
      by_cases hlt : k < n
      · obtain ⟨⟨yk, yt, yn⟩, hy⟩ := get_ex (xs := ts) (i := k) (by rw [HN.out]; exact hlt)
        obtain ⟨z, hz⟩ := get_ex (xs := ks) (i := k) (by rw [HM.out]; exact hlt)
        obtain ⟨b, off, rfl, c0, c1, c2⟩ := tok_elem (HA.out.below HB.out) hy
        obtain ⟨bK, oK, rfl, _, hcK⟩ := (HK.out.below HB.out) (by rw [HM.out]; omega)
        have d0 := hcK k (by rw [HM.out]; exact hlt)
        rw [show ks.getD k 0 = z by simp [List.getD, hz]] at d0
        simp only at c0 c1 c2
        have hst := HR.out
        rw [drop_cons' hy, drop_cons' hz, map_beq_cons] at hst
        simp only at hst
        have HS := Lib.hid hst
        have hrz := HB.out.size
        clear hst HR hy hz hcK
        by_cases he : yk = z
        · have he' : (yk == z) = true := by simpa using he
          have HE := Lib.hid he'
          have N := Lib.hid (show (((ts.drop (k + 1)).map (·.1)) == ks.drop (k + 1)) = R by rw [← HS.out, he']; rfl)
          clear he he' HS
          go_wp2_with fail
          refine (sk_is HE.out _ _ _).mono ?_
          rintro e w1 ⟨rfl, b1⟩
          have B1 := Lib.hid (bstep (HB.out.alloc hrz _) b1)
          clear b1
          go_wp2_with fail
          go_roundw
          case rel => exact ⟨k + 1, by omega, by go_num, N, B1⟩
          case measure => simp [intOf]; omega
        · have he' : (yk == z) = false := by simpa using he
          have HE := Lib.hid he'
          have N := Lib.hid (show R = false by rw [← HS.out, he']; rfl)
          clear he he' HS
          go_wp2_with fail
          refine (sk_is HE.out _ _ _).mono ?_
          rintro e w1 ⟨rfl, b1⟩
          have B1 := Lib.hid (bstep (HB.out.alloc hrz _) b1)
          clear b1
          go_wp2_with fail
          go_ret
          rw [N.out]
          exact ⟨rfl, B1.out⟩
      · have N := Lib.hid (show R = true by
          rw [← HR.out, List.drop_of_length_le (by rw [HN.out]; omega), List.drop_of_length_le (by rw [HM.out]; omega)]
          rfl)
        go_wp2_with fail
        go_ret
        rw [N.out]
        exact ⟨rfl, HB.out⟩
  · have N := Lib.hid (show R = false by
      rw [← hR, beq_eq_false_iff_ne]
      intro e
      have := congrArg List.length e
      rw [List.length_map] at this
      omega)
    have h1 : ((n : Int) == nk) = false := by rw [beq_eq_false_iff_ne]; omega
    have h2 : ((n : Int) != nk) = true := by simp; omega
    clear hA hK hR
    go_enter Tryz.func139, Tryz.ntmps139
    go_wp2_with fail
    go_ret
    rw [N.out]
    exact ⟨rfl, Below.refl _ _⟩
set_option maxHeartbeats 1000000 in
theorem ok_any (b7 : Nat) (kd a n : Int) (t : ByteArray) (w : World) (h : w.cell? ⟨b7, 0, none⟩ = some (.int .i64 kd)) :
    Calls Tryz.prog 170 #[.agg #[.int .i64 a, .string t, .int .i64 n], .pointer (some ⟨b7, 0, none⟩)] w fun e w' => e = .returned (.bool (a != kd)) ∧ Below w.heap.size w w' := by
  have hlt := World.block_lt_of_cell? w _ h
  simp only at hlt
  go_enter Tryz.func170, Tryz.ntmps170
  go_wp2_with fail
  go_ret
  exact ⟨rfl, (Below.refl _ _).alloc (Nat.le_refl _) _⟩
theorem ok_is {b7 : Nat} {kd a : Int} {r : Bool} (hr : (a != kd) = r) (n : Int) (t : ByteArray) (w : World) (h : w.cell? ⟨b7, 0, none⟩ = some (.int .i64 kd)) :
    Calls Tryz.prog 170 #[.agg #[.int .i64 a, .string t, .int .i64 n], .pointer (some ⟨b7, 0, none⟩)] w fun e w' => e = .returned (.bool r) ∧ Below w.heap.size w w' := hr ▸ ok_any b7 kd a n t w h
set_option maxHeartbeats 4000000 in
theorem tix_any (A : Option Addr) (n c b7 : Nat) (ts : List Lx.Tk) (kd : Int) (R : Bool) (w : World) (hA : ListAt 3 eTok w A ts) (hn : ts.length = n) (hsz : n ≤ 1000000) (hs : w.cell? ⟨b7, 0, none⟩ = some (.int .i64 kd)) (hR : (ts.all fun t => t.1 == kd) = R) :
    Calls Tryz.prog 189 #[.slice A n c, .func (.func 170) #[] #[.pointer (some ⟨b7, 0, none⟩)]] w fun e w' => ∃ r, e = .returned (.int .i64 r) ∧ decide (0 ≤ r) = (!R) ∧ Below w.heap.size w w' := by
  have HA := Lib.hid hA
  have HN := Lib.hid hn
  have HS := Lib.hid hs
  have h7 := World.block_lt_of_cell? w _ hs
  simp only at h7
  have HR0 : Hid (((ts.drop 0).all fun t => t.1 == kd) = R) := Lib.hid hR
  clear hA hn hs hR
  go_enter Tryz.func189, Tryz.ntmps189
  go_wp2_with fail
  go_loopw [8] (fun i wr => ∃ (k : Nat), k ≤ n ∧ i = .int .i64 k ∧ Hid (((ts.drop k).all fun t => t.1 == kd) = R) ∧ Hid (Below w.heap.size w wr)) (fun i _ => n - (intOf i).toNat)
  case atStart => exact ⟨0, Nat.zero_le _, rfl, HR0, Lib.hid (Below.refl _ _)⟩
  case round =>
    clear HR0
    obtain ⟨k, hk, rfl, HR, HB⟩ := hrel
    by_cases hlt : k < n
    · obtain ⟨⟨yk, yt, yn⟩, hy⟩ := get_ex (xs := ts) (i := k) (by rw [HN.out]; exact hlt)
      obtain ⟨b, off, rfl, c0, c1, c2⟩ := tok_elem (HA.out.below HB.out) hy
      simp only at c0 c1 c2
      have hst := HR.out
      rw [drop_cons' hy, List.all_cons] at hst
      simp only at hst
      have HST := Lib.hid hst
      have HC := Lib.hid (cell_lift HS.out HB.out)
      clear hst HR hy
      by_cases he : yk = kd
      · have HE := Lib.hid (show (yk != kd) = false by simpa using he)
        have N := Lib.hid (show ((ts.drop (k + 1)).all fun t => t.1 == kd) = R by rw [← HST.out, show (yk == kd) = true by simpa using he]; rfl)
        clear he HST
        go_wp2_with fail
        refine (ok_is HE.out _ _ _ HC.out).mono ?_
        rintro e w1 ⟨rfl, b1⟩
        have B1 := Lib.hid (bstep HB.out b1)
        clear b1
        go_wp2_with fail
        go_roundw
        case rel => exact ⟨k + 1, by omega, by go_num, N, B1⟩
        case measure => simp [intOf]; omega
      · have HE := Lib.hid (show (yk != kd) = true by simpa using he)
        have N := Lib.hid (show R = false by rw [← HST.out, show (yk == kd) = false by simpa using he]; rfl)
        clear he HST
        go_wp2_with fail
        refine (ok_is HE.out _ _ _ HC.out).mono ?_
        rintro e w1 ⟨rfl, b1⟩
        have B1 := Lib.hid (bstep HB.out b1)
        clear b1
        go_wp2_with fail
        go_ret
        exact ⟨_, rfl, by rw [N.out]; simp, B1.out⟩
    · have N := Lib.hid (show R = true by rw [← HR.out, List.drop_of_length_le (by rw [HN.out]; omega)]; rfl)
      go_wp2_with fail
      go_ret
      exact ⟨_, rfl, by rw [N.out]; decide, HB.out⟩
set_option maxHeartbeats 2000000 in
theorem tcf_any (A : Option Addr) (n c b7 : Nat) (ts : List Lx.Tk) (kd : Int) (R : Bool) (w : World) (hA : ListAt 3 eTok w A ts) (hn : ts.length = n) (hsz : n ≤ 1000000) (hs : w.cell? ⟨b7, 0, none⟩ = some (.int .i64 kd)) (hR : (ts.all fun t => t.1 == kd) = R) :
    Calls Tryz.prog 171 #[.slice A n c, .func (.func 170) #[] #[.pointer (some ⟨b7, 0, none⟩)]] w fun e w' => e = .returned (.bool (!R)) ∧ Below w.heap.size w w' := by
  have C := Lib.hid (tix_any A n c b7 ts kd R w hA hn hsz hs hR)
  clear hA hn hs hR
  go_enter Tryz.func171, Tryz.ntmps171
  go_wp2_with fail
  refine C.out.mono ?_
  rintro e w1 ⟨r, rfl, hr, b1⟩
  have HR := Lib.hid hr
  clear hr
  go_wp2_with fail
  go_ret
  exact ⟨ret_bool HR.out, b1⟩
set_option maxHeartbeats 2000000 in
theorem all_any (A : Option Addr) (n c : Nat) (ts : List Lx.Tk) (kd : Int) (R : Bool) (w : World) (hA : ListAt 3 eTok w A ts) (hn : ts.length = n) (hsz : n ≤ 1000000) (hR : (ts.all fun t => t.1 == kd) = R) :
    Calls Tryz.prog 141 #[.slice A n c, .int .i64 kd] w fun e w' => e = .returned (.bool R) ∧ Below w.heap.size w w' := by
  have B0 := (Below.refl _ w).alloc (Nat.le_refl _) (.cells #[.int .i64 kd] 3)
  have C := Lib.hid (tcf_any A n c w.heap.size ts kd R (w.alloc (.cells #[.int .i64 kd] 3)) (hA.alloc _) hn hsz (BlkAt.cell (BlkAt.new w #[.int .i64 kd] 3) rfl) hR)
  clear hA hn hR
  go_enter Tryz.func141, Tryz.ntmps141
  go_wp2_with fail
  refine C.out.mono ?_
  rintro e w1 ⟨rfl, b1⟩
  have B1 := bstep B0 b1
  cases R
  all_goals
    go_wp2_with fail
    go_ret
    exact ⟨rfl, B1⟩
end Go.Proofs.YtphenbfhojdcpaaGreatDoor
