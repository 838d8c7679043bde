/- The program's functions that read one list. -/
import Derived.Test.YtnleelkdoagfcaaSpA
import Derived.Laws.StructEq
namespace Go.Proofs.Ytnleelkdoagfcaa
open Go.RowKit
set_option linter.unusedVariables false
set_option linter.unusedSimpArgs false

theorem ret_int {k : IntKind} {a b : Int} (h : a = b) : Ending.returned (.int k a) = .returned (.int k b) := by rw [h]
theorem ret_bool {a b : Bool} (h : a = b) : Ending.returned (.bool a) = .returned (.bool b) := by rw [h]

set_option maxHeartbeats 1000000 in
theorem next_any (A : Option Addr) (n c : Nat) (xs : Spn.L) (x f t : Int) (ok : Bool) (w : World) (hA : SpansAt w A xs) (hn : xs.length = n) (hm : n ≤ 9223372036854775807) (hx : Spn.nx xs x = (f, t, ok)) :
    Calls Try.prog 46 #[.slice A n c, .int .i64 x] w fun e w' => e = .returned (.tuple #[.agg #[.int .i64 f, .int .i64 t], .bool ok]) ∧ Below w.heap.size w w' := by
  have hV := Valid_any A n c xs (w.alloc (.cells #[.int .i64 0, .int .i64 0] 47)) (hA.alloc _) hn hm
  by_cases hv : Spn.vld xs = true
  · rw [hv] at hV
    have HN := Lib.hid hn
    have HX := Lib.hid hx
    have HV := Lib.hid hv
    clear hn hx hv
    go_enter Try.func46, Try.ntmps46
    go_wp2_with fail
    refine hV.mono ?_
    rintro e w1 ⟨rfl, b1⟩
    have hA1 := (hA.alloc (.cells #[.int .i64 0, .int .i64 0] 47)).below b1
    go_wp2_with fail
    go_loopw [14] (fun i wr => ∃ k : Nat, k ≤ n ∧ i = .int .i64 k ∧ Hid (Spn.nxt xs x = Spn.nxt (xs.drop k) x) ∧ Below w1.heap.size w1 wr) (fun i _ => n - (intOf i).toNat)
    case atStart => exact ⟨0, Nat.zero_le _, rfl, Lib.hid rfl, Below.refl _ _⟩
    case round =>
      obtain ⟨k, hk, rfl, H, hB⟩ := hrel
      obtain ⟨q0, q1, z0, z1, hz, hW⟩ := own2 (b1.trans (hB.mono b1.size))
      by_cases hlt : k < n
      · obtain ⟨b, off, rfl, hb, hc⟩ := hA1 (by have := HN.out; omega)
        obtain ⟨c0, c1⟩ := hc k (by have := HN.out; omega)
        have c0' := (bcell hB _ _ hb).trans c0
        have c1' := (bcell hB _ _ hb).trans c1
        clear hc c0 c1
        have hz2 := Nat.lt_of_lt_of_le hb hB.size
        obtain ⟨⟨f', t'⟩, HS⟩ : ∃ s : Int × Int, Hid (xs.getD k (0, 0) = s) := ⟨_, Lib.hid rfl⟩
        rw [HS.out] at c0' c1'
        by_cases hxt : x < t'
        · have hX := HX.out
          rw [Spn.nx_some HV.out (by rw [H.out, Spn.drop_cons xs k (0, 0) (by have := HN.out; omega), HS.out, Spn.nxt_pos hxt])] at hX
          obtain ⟨rfl, rfl, rfl⟩ : f' = f ∧ t' = t ∧ true = ok := by simpa using hX
          clear hX
          go_wp2_with fail
          refine bodyPost_ret (v := .tuple #[.agg #[.int .i64 f', .int .i64 t'], .bool true]) (by simp [results, Try.results46, go_sem, q0, q1, z0, z1, hz]) rfl ⟨rfl, ?_⟩
          exact ((hW.setCell (by exact Nat.le_refl _) _).setCell (by exact Nat.le_refl _) _).alloc (by simpa using hW.size) _
        · go_wp2_with fail
          go_roundw
          case rel => exact ⟨k + 1, by omega, by go_num, Lib.hid (by rw [H.out, Spn.drop_cons xs k (0, 0) (by have := HN.out; omega), HS.out, Spn.nxt_neg hxt]), hB.alloc hB.size _⟩
          case measure => simp [intOf]; omega
      · have hX := HX.out
        rw [Spn.nx_none (by rw [H.out, List.drop_of_length_le (by have := HN.out; omega)]; rfl)] at hX
        obtain ⟨rfl, rfl, rfl⟩ : 0 = f ∧ 0 = t ∧ false = ok := by simpa using hX
        clear hX
        go_wp2_with fail
        refine bodyPost_ret (v := .tuple #[.agg #[.int .i64 0, .int .i64 0], .bool false]) (by simp [results, Try.results46, go_sem, q0, q1, z0, z1, hz]) rfl ⟨rfl, ?_⟩
        exact ((hW.setCell (by exact Nat.le_refl _) _).setCell (by exact Nat.le_refl _) _)
  · have hv' : Spn.vld xs = false := by simpa using hv
    rw [Spn.nx_no hv'] at hx
    rw [hv'] at hV
    obtain ⟨rfl, rfl, rfl⟩ : 0 = f ∧ 0 = t ∧ false = ok := by simpa using hx
    clear hn hx hv hv'
    go_enter Try.func46, Try.ntmps46
    go_wp2_with fail
    refine hV.mono ?_
    rintro e w1 ⟨rfl, b1⟩
    obtain ⟨q0, q1, z0, z1, hz, hW⟩ := own2 b1
    go_wp2_with fail
    refine bodyPost_ret (v := .tuple #[.agg #[.int .i64 0, .int .i64 0], .bool false]) (by simp [results, Try.results46, go_sem, q0, q1, z0, z1, hz]) rfl ⟨rfl, ?_⟩
    exact ((hW.setCell (by exact Nat.le_refl _) _).setCell (by exact Nat.le_refl _) _)

set_option maxHeartbeats 1000000 in
theorem Has_any (A : Option Addr) (n c : Nat) (xs : Spn.L) (x : Int) (w : World) (hA : SpansAt w A xs) (hn : xs.length = n) (hm : n ≤ 9223372036854775807) :
    Calls Try.prog 28 #[.slice A n c, .int .i64 x] w fun e w' => e = .returned (.bool (Spn.has xs x)) ∧ Below w.heap.size w w' := by
  obtain ⟨⟨f, t, ok⟩, hx⟩ : ∃ s, Spn.nx xs x = s := ⟨_, rfl⟩
  have hh : Spn.has xs x = (ok && decide (f ≤ x)) := by unfold Spn.has; rw [hx]
  have hN := next_any A n c xs x f t ok w hA hn hm hx
  have HH := Lib.hid hh
  clear hn hx hh
  rcases ok with _ | _
  · go_enter Try.func28, Try.ntmps28
    go_wp2_with fail
    refine hN.mono ?_
    rintro e w1 ⟨rfl, b1⟩
    go_wp2_with fail
    go_ret
    exact ⟨by rw [HH.out]; rfl, b1.alloc b1.size _⟩
  · by_cases hf : f ≤ x
    all_goals
      go_enter Try.func28, Try.ntmps28
      go_wp2_with fail
      refine hN.mono ?_
      rintro e w1 ⟨rfl, b1⟩
      go_wp2_with fail
      go_ret
      exact ⟨by rw [HH.out]; simp [hf], b1.alloc b1.size _⟩

set_option maxHeartbeats 1000000 in
theorem First_any (A : Option Addr) (n c : Nat) (xs : Spn.L) (x : Int) (w : World) (hA : SpansAt w A xs) (hn : xs.length = n) (hm : n ≤ 9223372036854775807) :
    Calls Try.prog 26 #[.slice A n c, .int .i64 x] w fun e w' => e = .returned (.tuple #[.int .i64 (Spn.fst xs x).1, .bool (Spn.fst xs x).2]) ∧ Below w.heap.size w w' := by
  obtain ⟨⟨f, t, ok⟩, hx⟩ : ∃ s, Spn.nx xs x = s := ⟨_, rfl⟩
  have hh : Spn.fst xs x = if ok = true then (max f x, true) else (0, false) := by unfold Spn.fst; rw [hx]
  have hN := next_any A n c xs x f t ok w hA hn hm hx
  have HH := Lib.hid hh
  clear hn hx hh
  rcases ok with _ | _
  · go_enter Try.func26, Try.ntmps26
    go_wp2_with fail
    refine hN.mono ?_
    rintro e w1 ⟨rfl, b1⟩
    go_wp2_with fail
    go_ret2
    exact ⟨by rw [HH.out]; rfl, b1.alloc b1.size _⟩
  · by_cases hf : f < x
    all_goals
      go_enter Try.func26, Try.ntmps26
      go_wp2_with fail
      refine hN.mono ?_
      rintro e w1 ⟨rfl, b1⟩
      go_wp2_with fail
      go_ret2
      exact ⟨by rw [HH.out]; simp; first | rfl | omega, b1.alloc b1.size _⟩

set_option maxHeartbeats 1000000 in
theorem Gap_any (A : Option Addr) (n c : Nat) (xs : Spn.L) (x : Int) (w : World) (hA : SpansAt w A xs) (hn : xs.length = n) (hm : n ≤ 9223372036854775807) :
    Calls Try.prog 30 #[.slice A n c, .int .i64 x] w fun e w' => e = .returned (.int .i64 (Spn.gap xs x)) ∧ Below w.heap.size w w' := by
  obtain ⟨⟨f, t, ok⟩, hx⟩ : ∃ s, Spn.nx xs x = s := ⟨_, rfl⟩
  have hh : Spn.gap xs x = if (ok && decide (f ≤ x)) = true then t else x := by unfold Spn.gap Spn.has; rw [hx]
  have hN := next_any A n c xs x f t ok w hA hn hm hx
  have HH := Lib.hid hh
  clear hn hx hh
  rcases ok with _ | _
  · go_enter Try.func30, Try.ntmps30
    go_wp2_with fail
    refine hN.mono ?_
    rintro e w1 ⟨rfl, b1⟩
    go_wp2_with fail
    go_ret
    exact ⟨by rw [HH.out]; rfl, b1.alloc b1.size _⟩
  · by_cases hf : f ≤ x
    all_goals
      go_enter Try.func30, Try.ntmps30
      go_wp2_with fail
      refine hN.mono ?_
      rintro e w1 ⟨rfl, b1⟩
      go_wp2_with fail
      go_ret
      exact ⟨ret_int (by rw [HH.out]; first | (rw [if_pos (by simpa using hf)]; done) | (rw [if_neg (by simpa using hf)]; done)), b1.alloc b1.size _⟩

set_option maxHeartbeats 1000000 in
theorem Length_any (A : Option Addr) (n c : Nat) (xs : Spn.L) (w : World) (hA : SpansAt w A xs) (hn : xs.length = n) (hm : n ≤ 9223372036854775807) :
    Calls Try.prog 17 #[.slice A n c] w fun e w' => e = .returned (.int .i64 (Spn.len xs)) ∧ Below w.heap.size w w' := by
  have hV := Valid_any A n c xs w hA hn hm
  by_cases hv : Spn.vld xs = true
  · have hl : Spn.len xs = Spn.sum xs := by unfold Spn.len; rw [if_pos hv]
    have h4 : (n : Int) ≤ 4096 := by have := ((Spn.vld_iff xs).1 hv).1; omega
    have hall := Spn.vld_all hv
    rw [hv] at hV
    have HN := Lib.hid hn
    have HL := Lib.hid hl
    have HV := Lib.hid hall
    clear hn hl hv hall
    go_enter Try.func17, Try.ntmps17
    go_wp2_with fail
    refine hV.mono ?_
    rintro e w1 ⟨rfl, b1⟩
    have hA1 := hA.below b1
    go_wp2_with fail
    go_loopw [3, 11] (fun s i wr => ∃ k : Nat, k ≤ n ∧ i = .int .i64 k ∧ s = .int .i64 (Spn.sum (xs.take k)) ∧ Below w1.heap.size w1 wr) (fun _ i _ => n - (intOf i).toNat)
    case atStart => exact ⟨0, Nat.zero_le _, rfl, rfl, Below.refl _ _⟩
    case round =>
      obtain ⟨k, hk, rfl, rfl, hB⟩ := hrel
      by_cases hlt : k < n
      · obtain ⟨b, off, rfl, hb, hc⟩ := hA1 (by have := HN.out; omega)
        obtain ⟨c0, c1⟩ := hc k (by have := HN.out; omega)
        have c0' := (bcell hB _ _ hb).trans c0
        have c1' := (bcell hB _ _ hb).trans c1
        clear hc c0 c1
        have hz2 := Nat.lt_of_lt_of_le hb hB.size
        have hbs := Spn.sum_bd (xs.take k) (fun s hs => HV.out s (List.mem_of_mem_take hs))
        have hlk : (xs.take k).length = k := by rw [List.length_take]; have := HN.out; omega
        rw [hlk] at hbs
        clear hlk
        have hft := HV.out _ (Spn.getD_mem (l := xs) (k := k) (by have := HN.out; omega))
        obtain ⟨⟨f, t⟩, HS⟩ : ∃ s : Int × Int, Hid (xs.getD k (0, 0) = s) := ⟨_, Lib.hid rfl⟩
        rw [HS.out] at c0' c1' hft
        obtain ⟨S, HSum⟩ : ∃ S, Hid (Spn.sum (xs.take k) = S) := ⟨_, Lib.hid rfl⟩
        rw [HSum.out] at hbs ⊢
        obtain ⟨f0, f1, f2⟩ := hft
        obtain ⟨s0, s1⟩ := hbs
        simp only at f0 f1 f2
        go_wp2_with fail
        go_roundw
        case rel => exact ⟨k + 1, by omega, by go_num, by rw [Spn.take_snoc xs k (0, 0) (by have := HN.out; omega), Spn.sum_snoc, HS.out, HSum.out], hB.alloc hB.size _⟩
        case measure => simp [intOf]; omega
      · go_wp2_with fail
        go_ret
        exact ⟨ret_int (by rw [HL.out, List.take_of_length_le (by have := HN.out; omega)]), bstep b1 hB⟩
  · have hv' : Spn.vld xs = false := by simpa using hv
    have hl : Spn.len xs = 0 := by unfold Spn.len; rw [if_neg hv]
    rw [hv'] at hV
    clear hn hv hv'
    have HL := Lib.hid hl
    clear hl
    go_enter Try.func17, Try.ntmps17
    go_wp2_with fail
    refine hV.mono ?_
    rintro e w1 ⟨rfl, b1⟩
    go_wp2_with fail
    go_ret
    exact ⟨ret_int HL.out.symm, b1⟩

set_option maxHeartbeats 1000000 in
theorem border_any (A : Option Addr) (n c : Nat) (xs : Spn.L) (i : Int) (w : World) (hA : SpansAt w A xs) (hn : xs.length = n) (hm : (n : Int) ≤ 4096) (h0 : 0 ≤ i) :
    Calls Try.prog 51 #[.slice A n c, .int .i64 i] w fun e w' => e = .returned (.int .i64 (Spn.brd xs i)) ∧ w = w' := by
  by_cases hi : 2 * (n : Int) ≤ i
  · have hb : Spn.brd xs i = 8589934593 := by unfold Spn.brd; rw [if_pos (by omega)]
    have HB := Lib.hid hb
    clear hb hn
    go_enter Try.func51, Try.ntmps51
    go_wp2_with fail
    go_ret
    exact ⟨ret_int HB.out.symm, rfl⟩
  · obtain ⟨b, off, rfl, hb, hc⟩ := hA (by omega)
    obtain ⟨m, hmi⟩ : ∃ m : Nat, i / 2 = (m : Int) := ⟨(i / 2).toNat, by omega⟩
    obtain ⟨c0, c1⟩ := hc m (by omega)
    clear hc
    have hmn : m < n := by omega
    have hmn2 : (m : Int) < n := by omega
    have hbr : Spn.brd xs i = if i % 2 = 0 then (xs.getD m (0, 0)).1 else (xs.getD m (0, 0)).2 := by unfold Spn.brd; rw [if_neg (by omega), hmi]; rfl
    obtain ⟨⟨f, t⟩, HS⟩ : ∃ s : Int × Int, Hid (xs.getD m (0, 0) = s) := ⟨_, Lib.hid rfl⟩
    rw [HS.out] at c0 c1 hbr
    have HB := Lib.hid hbr
    clear hbr hn
    by_cases he : i % 2 = 0
    all_goals
      go_enter Try.func51, Try.ntmps51
      go_wp2_with fail
      go_ret
      exact ⟨ret_int (by rw [HB.out]; simp [he]), rfl⟩

theorem hS47 : Try.prog.underlying 47 = some (.struct (Try.prog.fieldsOf 47)) := by kernel_rfl
theorem hP47 : Try.prog.stoodInHeld 47 = false := by kernel_rfl
theorem neqSpan (a b c d : Int) (w : World) : (binOp .neq 47 (.agg #[.int .i64 a, .int .i64 b]) (.agg #[.int .i64 c, .int .i64 d])).run Try.prog w = .ok (.bool (!(a == c && b == d))) w := by
  have u3 := Try.underlying3
  have a3 := Try.isAgg3
  have z3 := Try.sizeOf3
  rw [run_neq_struct, show (10000 : Nat) = 9999 + 1 from rfl, run_equalIn_struct w 9999 47 _ _ hS47 hP47]
  simp only [Program.fieldsOf, Try.underlying47]
  go_simp
  by_cases h1 : a = c <;> by_cases h2 : b = d <;> simp [h1, h2]
theorem guardSpan (p q : Operand) (a b c d : Int) (w : World) : (eqGuard .neq 47 p q (.agg #[.int .i64 a, .int .i64 b]) (.agg #[.int .i64 c, .int .i64 d])).run Try.prog w = .ok () w :=
  run_eqGuard_agg w _ _ _ _ _ _ (by kernel_rfl)

theorem list_ext {xs ys : Spn.L} {n : Nat} (hx : xs.length = n) (hy : ys.length = n) (h : ∀ k, k < n → xs.getD k (0, 0) = ys.getD k (0, 0)) : xs = ys := by
  refine List.ext_getElem (by omega) fun i h1 h2 => ?_
  have := h i (by omega)
  simpa [List.getD, List.getElem?_eq_getElem h1, List.getElem?_eq_getElem h2] using this

set_option maxHeartbeats 1000000 in
theorem same_any (A B : Option Addr) (n m c d : Nat) (xs ys : Spn.L) (w : World) (hA : SpansAt w A xs) (hB : SpansAt w B ys) (hn : xs.length = n) (hm : ys.length = m) (h1 : n ≤ 9223372036854775807) (h2 : m ≤ 9223372036854775807) :
    Calls Try.prog 14 #[.slice A n c, .slice B m d] w fun e w' => e = .returned (.bool (decide (xs = ys))) ∧ Below w.heap.size w w' := by
  by_cases hl : n = m
  · subst hl
    have HN := Lib.hid hn
    have HM := Lib.hid hm
    clear hn hm
    have NQ := neqSpan
    have GQ := guardSpan
    go_enter Try.func14, Try.ntmps14
    go_wp2_with fail
    go_loopw [13] (fun i wr => ∃ k : Nat, k ≤ n ∧ i = .int .i64 k ∧ Hid (∀ j, j < k → xs.getD j (0, 0) = ys.getD j (0, 0)) ∧ Below w.heap.size w wr) (fun i _ => n - (intOf i).toNat)
    case atStart => exact ⟨0, Nat.zero_le _, rfl, Lib.hid (fun j hj => absurd hj (by omega)), Below.refl _ _⟩
    case round =>
      obtain ⟨k, hk, rfl, H, hW⟩ := hrel
      by_cases hlt : k < n
      · obtain ⟨b, off, rfl, hb, hc⟩ := hA (by have := HN.out; omega)
        obtain ⟨c0, c1⟩ := hc k (by have := HN.out; omega)
        have c0' := (bcell hW _ _ hb).trans c0
        have c1' := (bcell hW _ _ hb).trans c1
        clear hc c0 c1
        obtain ⟨b2, off2, rfl, hb2, hc⟩ := hB (by have := HM.out; omega)
        obtain ⟨c0, c1⟩ := hc k (by have := HM.out; omega)
        have d0' := (bcell hW _ _ hb2).trans c0
        have d1' := (bcell hW _ _ hb2).trans c1
        clear hc c0 c1
        obtain ⟨⟨f, t⟩, HS⟩ : ∃ s : Int × Int, Hid (xs.getD k (0, 0) = s) := ⟨_, Lib.hid rfl⟩
        obtain ⟨⟨g, u⟩, HT⟩ : ∃ s : Int × Int, Hid (ys.getD k (0, 0) = s) := ⟨_, Lib.hid rfl⟩
        rw [HS.out] at c0' c1'
        rw [HT.out] at d0' d1'
        have hlt2 : (k : Int) < n := by omega
        have hk0 : (0 : Int) ≤ k := by omega
        by_cases he : f = g ∧ t = u
        · obtain ⟨rfl, rfl⟩ := he
          go_wp2_with fail
          go_quiet (fail)
          go_wp2_with fail
          go_roundw
          case rel => exact ⟨k + 1, by omega, by go_num, Lib.hid (fun j hj => by rcases Nat.lt_succ_iff_lt_or_eq.1 hj with h | rfl; exact H.out j h; rw [HS.out, HT.out]), below_drewN hW _⟩
          case measure => simp [intOf]; omega
        · have hd : (f == g && t == u) = false := by simpa using he
          go_wp2_with fail
          go_quiet (fail)
          go_wp2_with fail
          go_ret
          refine ⟨ret_bool (decide_eq_false (fun e => he ?_)).symm, below_drewN hW _⟩
          have e2 := HS.out
          rw [e, HT.out] at e2
          simp at e2
          exact ⟨e2.1.symm, e2.2.symm⟩
      · go_wp2_with fail
        go_ret
        exact ⟨ret_bool (decide_eq_true (list_ext HN.out HM.out (fun j hj => H.out j (by omega)))).symm, hW⟩
  · have hne : xs ≠ ys := fun e => hl (by rw [← hn, ← hm, e])
    have hi : ((n : Int) == m) = false := by simp; omega
    have hi2 : (n == m) = false := by simp; omega
    have hl2 : ¬ (n : Int) = m := by omega
    clear hn hm
    go_enter Try.func14, Try.ntmps14
    go_wp2_with fail
    go_ret
    exact ⟨ret_bool (decide_eq_false hne).symm, Below.refl _ _⟩
end Go.Proofs.Ytnleelkdoagfcaa
