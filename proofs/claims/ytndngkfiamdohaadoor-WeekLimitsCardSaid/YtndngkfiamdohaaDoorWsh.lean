/- What the laws share: comparing lists, the chapter's example. -/
import Derived.Test.YtndngkfiamdohaaDoorWf
import Derived.Test.YtndngkfiamdohaaDoorZlx
namespace Go.Proofs.YtndngkfiamdohaaDoor
open Go.RowKit
set_option linter.unusedVariables false
set_option linter.unusedSimpArgs false
set_option maxRecDepth 100000

theorem hSWin : Tryd.prog.underlying 24 = some (.struct (Tryd.prog.fieldsOf 24)) := by kernel_rfl
theorem hPWin : Tryd.prog.stoodInHeld 24 = false := by kernel_rfl
theorem neqWin (a b c d : Int) (w : World) : (binOp .neq 24 (.agg #[.int .i64 a, .int .i64 b]) (.agg #[.int .i64 c, .int .i64 d])).run Tryd.prog w = .ok (.bool (!(a == c && b == d))) w := by
  have u3 := Tryd.underlying3
  have a3 := Tryd.isAgg3
  have z3 := Tryd.sizeOf3
  rw [run_neq_struct, show (10000 : Nat) = 9999 + 1 from rfl, run_equalIn_struct w 9999 24 _ _ hSWin hPWin]
  simp only [Program.fieldsOf, Tryd.underlying24]
  go_simp
  by_cases h1 : a = c <;> by_cases h2 : b = d <;> simp [h1, h2]
theorem eqlWin (a b c d : Int) (w : World) : (binOp .eql 24 (.agg #[.int .i64 a, .int .i64 b]) (.agg #[.int .i64 c, .int .i64 d])).run Tryd.prog w = .ok (.bool (a == c && b == d)) w := by
  have u3 := Tryd.underlying3
  have a3 := Tryd.isAgg3
  have z3 := Tryd.sizeOf3
  rw [run_eql_struct, show (10000 : Nat) = 9999 + 1 from rfl, run_equalIn_struct w 9999 24 _ _ hSWin hPWin]
  simp only [Program.fieldsOf, Tryd.underlying24]
  go_simp
  by_cases h1 : a = c <;> by_cases h2 : b = d <;> simp [h1, h2]
theorem guardWin (k : BinOp) (hk : k = .neq ∨ k = .eql) (p q : Operand) (a b c d : Int) (w : World) : (eqGuard k 24 p q (.agg #[.int .i64 a, .int .i64 b]) (.agg #[.int .i64 c, .int .i64 d])).run Tryd.prog w = .ok () w := by
  rcases hk with rfl | rfl <;> exact run_eqGuard_agg w _ _ _ _ _ _ (by kernel_rfl)
theorem hSSpn : Tryd.prog.underlying 38 = some (.struct (Tryd.prog.fieldsOf 38)) := by kernel_rfl
theorem hPSpn : Tryd.prog.stoodInHeld 38 = false := by kernel_rfl
theorem neqSpn (a b c d : Int) (w : World) : (binOp .neq 38 (.agg #[.int .i64 a, .int .i64 b]) (.agg #[.int .i64 c, .int .i64 d])).run Tryd.prog w = .ok (.bool (!(a == c && b == d))) w := by
  have u3 := Tryd.underlying3
  have a3 := Tryd.isAgg3
  have z3 := Tryd.sizeOf3
  rw [run_neq_struct, show (10000 : Nat) = 9999 + 1 from rfl, run_equalIn_struct w 9999 38 _ _ hSSpn hPSpn]
  simp only [Program.fieldsOf, Tryd.underlying38]
  go_simp
  by_cases h1 : a = c <;> by_cases h2 : b = d <;> simp [h1, h2]
theorem eqlSpn (a b c d : Int) (w : World) : (binOp .eql 38 (.agg #[.int .i64 a, .int .i64 b]) (.agg #[.int .i64 c, .int .i64 d])).run Tryd.prog w = .ok (.bool (a == c && b == d)) w := by
  have u3 := Tryd.underlying3
  have a3 := Tryd.isAgg3
  have z3 := Tryd.sizeOf3
  rw [run_eql_struct, show (10000 : Nat) = 9999 + 1 from rfl, run_equalIn_struct w 9999 38 _ _ hSSpn hPSpn]
  simp only [Program.fieldsOf, Tryd.underlying38]
  go_simp
  by_cases h1 : a = c <;> by_cases h2 : b = d <;> simp [h1, h2]
theorem guardSpn (k : BinOp) (hk : k = .neq ∨ k = .eql) (p q : Operand) (a b c d : Int) (w : World) : (eqGuard k 38 p q (.agg #[.int .i64 a, .int .i64 b]) (.agg #[.int .i64 c, .int .i64 d])).run Tryd.prog w = .ok () w := by
  rcases hk with rfl | rfl <;> exact run_eqGuard_agg w _ _ _ _ _ _ (by kernel_rfl)
theorem list_ext {xs ys : Wk.L} {n : Nat} (hx : xs.length = n) (hy : ys.length = n) (h : ∀ k, k < n → xs.getD k (0, 0) = ys.getD k (0, 0)) : xs = ys := by
  refine List.ext_getElem (by omega) fun i h1 h2 => ?_
  have := h i (by omega)
  simpa [List.getD, List.getElem?_eq_getElem h1, List.getElem?_eq_getElem h2] using this

set_option maxHeartbeats 1000000 in
theorem lsame_any (A B : Option Addr) (n m c d : Nat) (xs ys : Wk.L) (w : World) (hA : WIn w A n xs) (hB : WIn w B m ys) :
    Calls Tryd.prog 24 #[.slice A n c, .slice B m d] w fun e w' => e = .returned (.bool (decide (xs = ys))) ∧ Below w.heap.size w w' := by
  by_cases hl : n = m
  · subst hl
    have HA := Lib.hid hA
    have HB := Lib.hid hB
    have hn := hA.le
    have NQ := neqWin
    have GQ := guardWin .neq (.inl rfl)
    clear hA hB
    go_enter Tryd.func24, Tryd.ntmps24
    go_wp2_with fail
    go_loopw [13] (fun i wr => ∃ k : Nat, k ≤ n ∧ i = .int .i64 k ∧ Hid (∀ j, j < k → xs.getD j (0, 0) = ys.getD j (0, 0)) ∧ Hid (Below w.heap.size w wr)) (fun i _ => n - (intOf i).toNat)
    case atStart => exact ⟨0, Nat.zero_le _, rfl, Lib.hid (fun j hj => absurd hj (by omega)), Lib.hid (Below.refl _ _)⟩
    case round =>
      obtain ⟨k, hk, rfl, H, hW⟩ := hrel
      by_cases hlt : k < n
      · obtain ⟨f, t, bl, of, hx, rfl, hb, c0, c1⟩ := (HA.out.below hW.out).get hlt
        obtain ⟨g, u, bl2, of2, hy, rfl, hb2, d0, d1⟩ := (HB.out.below hW.out).get hlt
        have HX := Lib.hid (show xs.getD k (0, 0) = (f, t) by simp [List.getD, hx])
        have HY := Lib.hid (show ys.getD k (0, 0) = (g, u) by simp [List.getD, hy])
        have hlt2 : (k : Int) < n := by omega
        have hk0 : (0 : Int) ≤ k := by omega
        clear hx hy
        by_cases he : f = g ∧ t = u
        · obtain ⟨rfl, rfl⟩ := he
          go_wp2_with fail
          go_quiet (fail)
          go_wp2_with fail
          go_roundw
          case rel => exact ⟨k + 1, by omega, by go_num, Lib.hid (fun j hj => by rcases Nat.lt_succ_iff_lt_or_eq.1 hj with h | rfl; exact H.out j h; rw [HX.out, HY.out]), Lib.hid (below_drewN hW.out _)⟩
          case measure => simp [intOf]; omega
        · have hd : (f == g && t == u) = false := by simpa using he
          go_wp2_with fail
          go_quiet (fail)
          go_wp2_with fail
          go_ret
          refine ⟨ret_bool (decide_eq_false (fun e => he ?_)).symm, below_drewN hW.out _⟩
          have e2 := HX.out
          rw [e, HY.out] at e2
          simp at e2
          exact ⟨e2.1.symm, e2.2.symm⟩
      · go_wp2_with fail
        go_ret
        exact ⟨ret_bool (decide_eq_true (list_ext HA.out.len HB.out.len (fun j hj => H.out j (by omega)))).symm, hW.out⟩
  · have hne : xs ≠ ys := fun e => hl (by rw [← hA.len, ← hB.len, e])
    have hi : ((n : Int) == m) = false := by simp; omega
    have hi2 : (n == m) = false := by simp; omega
    have hl2 : ¬ (n : Int) = m := by omega
    clear hA hB
    go_enter Tryd.func24, Tryd.ntmps24
    go_wp2_with fail
    go_ret
    exact ⟨ret_bool (decide_eq_false hne).symm, Below.refl _ _⟩

set_option maxHeartbeats 1000000 in
theorem lspans_any (A B : Option Addr) (n m c d : Nat) (xs ys : Wk.L) (w : World) (hA : WIn w A n xs) (hB : WIn w B m ys) :
    Calls Tryd.prog 29 #[.slice A n c, .slice B m d] w fun e w' => e = .returned (.bool (decide (xs = ys))) ∧ Below w.heap.size w w' := by
  by_cases hl : n = m
  · subst hl
    have HA := Lib.hid hA
    have HB := Lib.hid hB
    have hn := hA.le
    have NQ := neqSpn
    have GQ := guardSpn .neq (.inl rfl)
    clear hA hB
    go_enter Tryd.func29, Tryd.ntmps29
    go_wp2_with fail
    go_loopw [13] (fun i wr => ∃ k : Nat, k ≤ n ∧ i = .int .i64 k ∧ Hid (∀ j, j < k → xs.getD j (0, 0) = ys.getD j (0, 0)) ∧ Hid (Below w.heap.size w wr)) (fun i _ => n - (intOf i).toNat)
    case atStart => exact ⟨0, Nat.zero_le _, rfl, Lib.hid (fun j hj => absurd hj (by omega)), Lib.hid (Below.refl _ _)⟩
    case round =>
      obtain ⟨k, hk, rfl, H, hW⟩ := hrel
      by_cases hlt : k < n
      · obtain ⟨f, t, bl, of, hx, rfl, hb, c0, c1⟩ := (HA.out.below hW.out).get hlt
        obtain ⟨g, u, bl2, of2, hy, rfl, hb2, d0, d1⟩ := (HB.out.below hW.out).get hlt
        have HX := Lib.hid (show xs.getD k (0, 0) = (f, t) by simp [List.getD, hx])
        have HY := Lib.hid (show ys.getD k (0, 0) = (g, u) by simp [List.getD, hy])
        have hlt2 : (k : Int) < n := by omega
        have hk0 : (0 : Int) ≤ k := by omega
        clear hx hy
        by_cases he : f = g ∧ t = u
        · obtain ⟨rfl, rfl⟩ := he
          go_wp2_with fail
          go_quiet (fail)
          go_wp2_with fail
          go_roundw
          case rel => exact ⟨k + 1, by omega, by go_num, Lib.hid (fun j hj => by rcases Nat.lt_succ_iff_lt_or_eq.1 hj with h | rfl; exact H.out j h; rw [HX.out, HY.out]), Lib.hid (below_drewN hW.out _)⟩
          case measure => simp [intOf]; omega
        · have hd : (f == g && t == u) = false := by simpa using he
          go_wp2_with fail
          go_quiet (fail)
          go_wp2_with fail
          go_ret
          refine ⟨ret_bool (decide_eq_false (fun e => he ?_)).symm, below_drewN hW.out _⟩
          have e2 := HX.out
          rw [e, HY.out] at e2
          simp at e2
          exact ⟨e2.1.symm, e2.2.symm⟩
      · go_wp2_with fail
        go_ret
        exact ⟨ret_bool (decide_eq_true (list_ext HA.out.len HB.out.len (fun j hj => H.out j (by omega)))).symm, hW.out⟩
  · have hne : xs ≠ ys := fun e => hl (by rw [← hA.len, ← hB.len, e])
    have hi : ((n : Int) == m) = false := by simp; omega
    have hi2 : (n == m) = false := by simp; omega
    have hl2 : ¬ (n : Int) = m := by omega
    clear hA hB
    go_enter Tryd.func29, Tryd.ntmps29
    go_wp2_with fail
    go_ret
    exact ⟨ret_bool (decide_eq_false hne).symm, Below.refl _ _⟩

theorem okO0 : Zn.okO 0 = true := by decide
def exW : Wk.L := [(32400, 61200)]
theorem ex_in : inV 0 [] 0 exW 378000 = true := by kernel_rfl
theorem ex_out : inV 0 [] 0 exW 406800 = false := by kernel_rfl
theorem ex_sec : secV 0 [] 0 378000 = 32400 := by kernel_rfl
theorem ex_secE : offE 0 378000 = 0 := by kernel_rfl
theorem ex_inv : Wk.invV [(0, 86400)] = [(86400, 604800)] := by kernel_rfl
theorem ex_invE : Wk.invE [(0, 86400)] = 0 := by kernel_rfl
theorem pairs_one {w : World} {b : Nat} {x y : Int} {T : TypeId} (h : BlkAt w b #[.int .i64 x, .int .i64 y] T) : PairsAt w (some ⟨b, 0, none⟩) [(x, y)] := fun _ => by
  refine ⟨b, 0, rfl, BlkAt.lt_ h, fun i z hz j hj => ?_⟩
  have hi : i = 0 := by have := (List.getElem?_eq_some_iff.1 hz).1; simp at this; omega
  subst hi
  simp at hz; subst hz
  match j, hj with
  | 0, _ => exact BlkAt.cell h rfl
  | 1, _ => exact BlkAt.cell h rfl

set_option maxHeartbeats 4000000 in
theorem wsane_any (w : World) (hT : CivT w) : Calls Tryd.prog 14 #[] w fun e w' => e = .returned (.bool true) ∧ Below w.heap.size w w' := by
  have HT := Lib.hid hT
  have i1 : I64 0 := ⟨by omega, by omega⟩
  have C1 := Lib.hid (fun W (h : WIn W (some ⟨w.heap.size + 1, 0, none⟩) 1 [(0, 86400)]) => winv_is ex_inv ex_invE (some ⟨w.heap.size + 1, 0, none⟩) 1 1 W h)
  have C2 := fun W (h : CivT W) => sec_is (trans_nil okO0) ⟨#[]⟩ none 0 0 378000 W (zin_nil h) i1
  have C3 := fun W (h : CivT W) (hl : WIn W (some ⟨w.heap.size, 0, none⟩) 1 exW) => wkin_is (trans_nil okO0) ⟨#[]⟩ none 0 0 (some ⟨w.heap.size, 0, none⟩) 1 1 exW 378000 W (zin_nil h) i1 hl
  have C4 := fun W (h : CivT W) (hl : WIn W (some ⟨w.heap.size, 0, none⟩) 1 exW) => wkin_is (trans_nil okO0) ⟨#[]⟩ none 0 0 (some ⟨w.heap.size, 0, none⟩) 1 1 exW 406800 W (zin_nil h) i1 hl
  rw [ex_sec, ex_secE] at C2
  rw [ex_in] at C3
  rw [ex_out] at C4
  have H2 := Lib.hid C2
  have H3 := Lib.hid C3
  have H4 := Lib.hid C4
  have EQ := eqlWin
  have GQ := guardWin .eql (.inr rfl)
  clear C2 C3 C4 i1 hT
  go_enter Tryd.func14, Tryd.ntmps14
  go_wp2_with fail
  refine (C1.out _ ⟨pairs_one (by first | exact BlkAt.new _ _ _ | (have := BlkAt.new (w.alloc (.cells #[.int .i64 32400, .int .i64 61200] 24)) #[.int .i64 0, .int .i64 86400] 24; simpa using this)), rfl, by omega⟩).mono ?_
  rintro e w1 ⟨A1, c1, rfl, hP, b1⟩
  have B1 := Lib.hid (((((Below.refl w.heap.size w).alloc (Nat.le_refl _) (.cells #[.int .i64 32400, .int .i64 61200] 24)).alloc (by simp) (.cells #[.int .i64 0, .int .i64 86400] 24))).trans (b1.mono (by simp; omega)))
  have X1 := Lib.hid (BlkAt.after (BlkAt.alloc (BlkAt.new w #[.int .i64 32400, .int .i64 61200] 24) (.cells #[.int .i64 0, .int .i64 86400] 24)) b1)
  have HP := Lib.hid hP
  clear b1 C1 hP
  go_wp2_with fail
  refine (H2.out _ (HT.out.below B1.out)).mono ?_
  rintro e w2 ⟨rfl, b2⟩
  have B2 := Lib.hid (bstep B1.out b2)
  have X2 := Lib.hid (BlkAt.after X1.out b2)
  have HP2 := Lib.hid (HP.out.below b2)
  clear b2 H2 B1 X1 HP
  go_wp2_with fail
  refine (H3.out _ (HT.out.below B2.out) ⟨pairs_one X2.out, rfl, by omega⟩).mono ?_
  rintro e w3 ⟨rfl, b3⟩
  have B3 := Lib.hid (bstep B2.out b3)
  have X3 := Lib.hid (BlkAt.after X2.out b3)
  have HP3 := Lib.hid (HP2.out.below b3)
  clear b3 H3 B2 X2 HP2
  go_wp2_with fail
  refine (H4.out _ (HT.out.below B3.out) ⟨pairs_one X3.out, rfl, by omega⟩).mono ?_
  rintro e w4 ⟨rfl, b4⟩
  have B4 := Lib.hid (bstep B3.out b4)
  obtain ⟨bl, of, rfl, hb, hc⟩ := (HP3.out.below b4) (by simp)
  obtain ⟨c0, c1⟩ := pair_cells (hc 0 _ rfl)
  simp only [Nat.zero_mul, Nat.add_zero] at c0 c1
  clear b4 H4 B3 X3 HP3 hc
  go_wp2_with fail
  go_ret
  exact ⟨rfl, B4.out⟩
end Go.Proofs.YtndngkfiamdohaaDoor
