/- Package resolve: isIndex, isHours, isNoDay, hasWholeMinutes, ascend, ContainsFunc. Printed by gen_rc.py. -/
import Derived.Test.YtphenbfhojdcpaaGreatDoorKlRb
namespace Go.Proofs.YtphenbfhojdcpaaGreatDoor
open Go.RowKit
set_option linter.unusedVariables false
set_option linter.unusedSimpArgs false
set_option maxRecDepth 100000
theorem isix_z {i : Int} {n : Nat} {R : Bool} (hR : Rs.isIx i n = R) (A : Option Addr) (c : Nat) (w : World) : Calls Tryz.prog 44 #[.slice A n c, .int .i64 i] w fun e w' => e = .returned (.bool R) ∧ w = w' := by
  by_cases h : (0 : Int) ≤ i
  · have HR := Lib.hid (show decide (i < n) = R by rw [← hR]; unfold Rs.isIx; rw [decide_eq_true h]; rfl)
    clear hR
    go_enter Tryz.func44, Tryz.ntmps44
    go_wp2_with fail
    go_ret
    exact ⟨ret_bool HR.out, rfl⟩
  · have HR := Lib.hid (show false = R by rw [← hR]; unfold Rs.isIx; rw [decide_eq_false h]; rfl)
    clear hR
    go_enter Tryz.func44, Tryz.ntmps44
    go_wp2_with fail
    go_ret
    exact ⟨ret_bool HR.out, rfl⟩
theorem isix_p {i : Int} {n : Nat} {R : Bool} (hR : Rs.isIx i n = R) (A : Option Addr) (c : Nat) (w : World) : Calls Tryz.prog 80 #[.slice A n c, .int .i64 i] w fun e w' => e = .returned (.bool R) ∧ w = w' := by
  by_cases h : (0 : Int) ≤ i
  · have HR := Lib.hid (show decide (i < n) = R by rw [← hR]; unfold Rs.isIx; rw [decide_eq_true h]; rfl)
    clear hR
    go_enter Tryz.func80, Tryz.ntmps80
    go_wp2_with fail
    go_ret
    exact ⟨ret_bool HR.out, rfl⟩
  · have HR := Lib.hid (show false = R by rw [← hR]; unfold Rs.isIx; rw [decide_eq_false h]; rfl)
    clear hR
    go_enter Tryz.func80, Tryz.ntmps80
    go_wp2_with fail
    go_ret
    exact ⟨ret_bool HR.out, rfl⟩
theorem isix_c {i : Int} {n : Nat} {R : Bool} (hR : Rs.isIx i n = R) (A : Option Addr) (c : Nat) (w : World) : Calls Tryz.prog 117 #[.slice A n c, .int .i64 i] w fun e w' => e = .returned (.bool R) ∧ w = w' := by
  by_cases h : (0 : Int) ≤ i
  · have HR := Lib.hid (show decide (i < n) = R by rw [← hR]; unfold Rs.isIx; rw [decide_eq_true h]; rfl)
    clear hR
    go_enter Tryz.func117, Tryz.ntmps117
    go_wp2_with fail
    go_ret
    exact ⟨ret_bool HR.out, rfl⟩
  · have HR := Lib.hid (show false = R by rw [← hR]; unfold Rs.isIx; rw [decide_eq_false h]; rfl)
    clear hR
    go_enter Tryz.func117, Tryz.ntmps117
    go_wp2_with fail
    go_ret
    exact ⟨ret_bool HR.out, rfl⟩
theorem hours_is {n : Int} {R : Bool} (hR : Rs.hoursOk n = R) (w : World) : Calls Tryz.prog 46 #[.int .i64 n] w fun e w' => e = .returned (.bool R) ∧ w = w' := by
  by_cases h : (0 : Int) ≤ n
  · by_cases h2 : n ≤ 604800
    · have HR := Lib.hid (show (n % 3600 == 0) = R by rw [← hR]; unfold Rs.hoursOk; rw [decide_eq_true h, decide_eq_true h2, Int.tmod_eq_emod_of_nonneg h]; rfl)
      clear hR
      go_enter Tryz.func46, Tryz.ntmps46
      go_wp2_with fail
      go_ret
      exact ⟨ret_bool HR.out, rfl⟩
    · have HR := Lib.hid (show false = R by rw [← hR]; unfold Rs.hoursOk; rw [decide_eq_true h, decide_eq_false h2]; rfl)
      clear hR
      go_enter Tryz.func46, Tryz.ntmps46
      go_wp2_with fail
      go_ret
      exact ⟨ret_bool HR.out, rfl⟩
  · have HR := Lib.hid (show false = R by rw [← hR]; unfold Rs.hoursOk; rw [decide_eq_false h]; rfl)
    clear hR
    go_enter Tryz.func46, Tryz.ntmps46
    go_wp2_with fail
    go_ret
    exact ⟨ret_bool HR.out, rfl⟩
set_option maxHeartbeats 1000000 in
theorem noday_is {n : Int} {R : Bool} (hR : Rs.noDay n = R) (w : World) (hT : CivT w) (hn : I64 n) : Calls Tryz.prog 50 #[.int .i64 n] w fun e w' => e = .returned (.bool R) ∧ Below w.heap.size w w' := by
  by_cases h : n < 0 ∨ 98981 ≤ n
  · have HR := Lib.hid (show true = R by rw [← hR]; unfold Rs.noDay; rcases h with h | h <;> rw [decide_eq_true h] <;> simp)
    have C := Lib.hid (dateOf_no n w hn h)
    clear hR
    go_enter Tryz.func50, Tryz.ntmps50
    go_wp2_with fail
    refine C.out.mono ?_
    rintro e w1 ⟨rfl, b1⟩
    have hz := b1.size
    have B1 := b1.alloc hz (.cells #[.int .i64 0, .int .i64 0, .int .i64 0] 140)
    go_wp2_with fail
    go_ret
    exact ⟨ret_bool HR.out, B1⟩
  · obtain ⟨y, m, d, h1, h2⟩ := Civ.date_ex n (by omega) (by omega)
    have HR := Lib.hid (show false = R by rw [← hR]; unfold Rs.noDay; rw [decide_eq_false (by omega), decide_eq_false (by omega)]; rfl)
    have C := Lib.hid (dateOf_yes y m d n w hT h1 h2)
    clear hR h1 h2
    go_enter Tryz.func50, Tryz.ntmps50
    go_wp2_with fail
    refine C.out.mono ?_
    rintro e w1 ⟨rfl, b1⟩
    have hz := b1.size
    have B1 := b1.alloc hz (.cells #[.int .i64 y, .int .i64 m, .int .i64 d] 140)
    go_wp2_with fail
    go_ret
    exact ⟨ret_bool HR.out, B1⟩
set_option maxHeartbeats 4000000 in
theorem nd_ix (A : Option Addr) (n c : Nat)  (l : List Int) (R : Bool) (w : World) (hA : LIn 1 eInt 0 w.heap.size w (A, n, c) l) (hT : CivT w) (hF : ∀ d ∈ l, I64 d) (hR : (l.any Rs.noDay) = R) :
    Calls Tryz.prog 75 #[.slice A n c, .func (.func 50) #[] #[]] w fun e w' => ∃ r, e = .returned (.int .i64 r) ∧ decide (0 ≤ r) = R ∧ Below w.heap.size w w' := by
  have HA := Lib.hid hA
  have hn := hA.le
  have hl := hA.len
  simp only at hn hl
  have HL := Lib.hid hl
  have HR0 : Hid (((l.drop 0).any Rs.noDay) = R) := Lib.hid hR
  have HT := Lib.hid hT; have HF := Lib.hid hF; clear hT hF
  clear hA hR hl
  go_enter Tryz.func75, Tryz.ntmps75
  go_wp2_with fail
  go_loopw [8] (fun i wr => ∃ (k : Nat), k ≤ n ∧ i = .int .i64 k ∧ Hid (((l.drop k).any Rs.noDay) = R) ∧ Hid (Below w.heap.size w wr)) (fun i _ => n - (intOf i).toNat)
  case atStart => exact ⟨0, Nat.zero_le _, rfl, HR0, Lib.hid (Below.refl _ _)⟩
  case round =>
    clear HR0
    obtain ⟨k, hk, rfl, HR, HB⟩ := hrel
    by_cases hlt : k < n
    · obtain ⟨x, b, off, hx, ea, hb, hc⟩ := (HA.out.kept (.of_below HB.out (Nat.le_refl _))).get (i := k) hlt
      simp only at ea
      subst ea
      have hxm := List.mem_of_getElem? hx
      have c0 := hc 0 (by decide)
      simp only [eInt, Nat.mul_one, Nat.add_zero] at c0
      have hst := HR.out
      rw [drop_cons' hx, List.any_cons] at hst
      obtain ⟨p, hp⟩ : ∃ p, Rs.noDay x = p := ⟨_, rfl⟩
      have C := Lib.hid (noday_is hp wr (HT.out.below HB.out) (HF.out x hxm))
      rw [hp] at hst
      clear hp hc hx hxm HR
      cases p
      · have N := Lib.hid (show ((l.drop (k + 1)).any Rs.noDay) = R from hst)
        clear hst
        go_wp2_with fail
        refine C.out.mono ?_
        rintro e w1 ⟨rfl, b1⟩
        skip
        have B1 := Lib.hid (bstep HB.out b1)
        clear b1
        go_wp2_with fail
        go_roundw
        case rel => exact ⟨k + 1, by omega, by go_num, N, B1⟩
        case measure => simp [intOf]; omega
      · have N := Lib.hid (show true = R from hst)
        clear hst
        go_wp2_with fail
        refine C.out.mono ?_
        rintro e w1 ⟨rfl, b1⟩
        skip
        have B1 := bstep HB.out b1
        go_wp2_with fail
        go_ret
        exact ⟨_, rfl, by rw [← N.out]; simp, B1⟩
    · have N := Lib.hid (show false = R by have h := HR.out; rwa [List.drop_of_length_le (by rw [HL.out]; omega)] at h)
      go_wp2_with fail
      go_ret
      exact ⟨_, rfl, by rw [← N.out]; rfl, HB.out⟩
set_option maxHeartbeats 1000000 in
theorem nd_ct (A : Option Addr) (n c : Nat)  (l : List Int) (R : Bool) (w : World) (hA : LIn 1 eInt 0 w.heap.size w (A, n, c) l) (hT : CivT w) (hF : ∀ d ∈ l, I64 d) (hR : (l.any Rs.noDay) = R) :
    Calls Tryz.prog 49 #[.slice A n c, .func (.func 50) #[] #[]] w fun e w' => e = .returned (.bool R) ∧ Below w.heap.size w w' := by
  have C := Lib.hid (nd_ix A n c  l R w hA hT hF hR)
  clear hA hR
  go_enter Tryz.func49, Tryz.ntmps49
  go_wp2_with fail
  refine C.out.mono ?_
  rintro e w1 ⟨r, rfl, hr, b1⟩
  have HR := Lib.hid hr
  clear hr
  go_wp2_with fail
  go_ret
  exact ⟨ret_bool HR.out, b1⟩
def badMin (r : Zn.Rule) : Bool := r.off.tmod 60 != 0
theorem bad_is {r : Zn.Rule} {p : Bool} (hp : badMin r = p) (w : World) : Calls Tryz.prog 72 #[valR r] w fun e w' => e = .returned (.bool p) ∧ Below w.heap.size w w' := by
  unfold badMin at hp
  unfold valR
  go_enter Tryz.func72, Tryz.ntmps72
  go_wp2_with fail
  go_ret
  exact ⟨rfl, (Below.refl _ _).alloc (Nat.le_refl _) _⟩
set_option maxHeartbeats 4000000 in
theorem br_ix (A : Option Addr) (n c : Nat)  (l : List Zn.Rule) (R : Bool) (w : World) (hA : LIn 7 eRule 0 w.heap.size w (A, n, c) l)  (hR : (l.any badMin) = R) :
    Calls Tryz.prog 110 #[.slice A n c, .func (.func 72) #[] #[]] w fun e w' => ∃ r, e = .returned (.int .i64 r) ∧ decide (0 ≤ r) = R ∧ Below w.heap.size w w' := by
  have HA := Lib.hid hA
  have hn := hA.le
  have hl := hA.len
  simp only at hn hl
  have HL := Lib.hid hl
  have HR0 : Hid (((l.drop 0).any badMin) = R) := Lib.hid hR
  skip
  clear hA hR hl
  go_enter Tryz.func110, Tryz.ntmps110
  go_wp2_with fail
  go_loopw [8] (fun i wr => ∃ (k : Nat), k ≤ n ∧ i = .int .i64 k ∧ Hid (((l.drop k).any badMin) = R) ∧ Hid (Below w.heap.size w wr)) (fun i _ => n - (intOf i).toNat)
  case atStart => exact ⟨0, Nat.zero_le _, rfl, HR0, Lib.hid (Below.refl _ _)⟩
  case round =>
    clear HR0
    obtain ⟨k, hk, rfl, HR, HB⟩ := hrel
    by_cases hlt : k < n
    · obtain ⟨x, b, off, hx, ea, hb, hc⟩ := (HA.out.kept (.of_below HB.out (Nat.le_refl _))).get (i := k) hlt
      simp only at ea
      subst ea
      have hxm := List.mem_of_getElem? hx
      have c0 := hc 0 (by decide); have c1 := hc 1 (by decide); have c2 := hc 2 (by decide); have c3 := hc 3 (by decide); have c4 := hc 4 (by decide); have c5 := hc 5 (by decide); have c6 := hc 6 (by decide)
      simp only [eRule, Nat.add_zero] at c0 c1 c2 c3 c4 c5 c6
      have hst := HR.out
      rw [drop_cons' hx, List.any_cons] at hst
      obtain ⟨p, hp⟩ : ∃ p, badMin x = p := ⟨_, rfl⟩
      have C := Lib.hid (bad_is hp wr)
      rw [hp] at hst
      clear hp hc hx hxm HR
      cases p
      · have N := Lib.hid (show ((l.drop (k + 1)).any badMin) = R from hst)
        clear hst
        go_wp2_with fail
        refine C.out.mono ?_
        rintro e w1 ⟨rfl, b1⟩
        skip
        have B1 := Lib.hid (bstep HB.out b1)
        clear b1
        go_wp2_with fail
        go_roundw
        case rel => exact ⟨k + 1, by omega, by go_num, N, B1⟩
        case measure => simp [intOf]; omega
      · have N := Lib.hid (show true = R from hst)
        clear hst
        go_wp2_with fail
        refine C.out.mono ?_
        rintro e w1 ⟨rfl, b1⟩
        skip
        have B1 := bstep HB.out b1
        go_wp2_with fail
        go_ret
        exact ⟨_, rfl, by rw [← N.out]; simp, B1⟩
    · have N := Lib.hid (show false = R by have h := HR.out; rwa [List.drop_of_length_le (by rw [HL.out]; omega)] at h)
      go_wp2_with fail
      go_ret
      exact ⟨_, rfl, by rw [← N.out]; rfl, HB.out⟩
set_option maxHeartbeats 1000000 in
theorem br_ct (A : Option Addr) (n c : Nat)  (l : List Zn.Rule) (R : Bool) (w : World) (hA : LIn 7 eRule 0 w.heap.size w (A, n, c) l)  (hR : (l.any badMin) = R) :
    Calls Tryz.prog 73 #[.slice A n c, .func (.func 72) #[] #[]] w fun e w' => e = .returned (.bool R) ∧ Below w.heap.size w w' := by
  have C := Lib.hid (br_ix A n c  l R w hA  hR)
  clear hA hR
  go_enter Tryz.func73, Tryz.ntmps73
  go_wp2_with fail
  refine C.out.mono ?_
  rintro e w1 ⟨r, rfl, hr, b1⟩
  have HR := Lib.hid hr
  clear hr
  go_wp2_with fail
  go_ret
  exact ⟨ret_bool HR.out, b1⟩
set_option maxHeartbeats 1000000 in
theorem mins_is {off : Int} {rs : List Zn.Rule} {R : Bool} (hR : Rs.mins off rs = R) (s : ByteArray) (A : Option Addr) (n c : Nat) (w : World) (hA : LIn 7 eRule 0 w.heap.size w (A, n, c) rs) :
    Calls Tryz.prog 42 #[.agg #[.string s, .int .i64 off, .slice A n c]] w fun e w' => e = .returned (.bool R) ∧ Below w.heap.size w w' := by
  have B0 := (Below.refl _ w).alloc (Nat.le_refl _) (.cells #[.string s, .int .i64 off, .slice A n c] 32)
  obtain ⟨q, hq⟩ : ∃ q, rs.any badMin = q := ⟨_, rfl⟩
  have C := Lib.hid (br_ct A n c rs q _ ((hA.kept (.of_below B0 (Nat.le_refl _))).mono (Nat.le_refl _) B0.size) hq)
  have HB := Lib.hid B0
  by_cases h : off.tmod 60 = 0
  · have h1 : (off.tmod 60 == 0) = true := by simpa using h
    have HR := Lib.hid (show (!q) = R by rw [← hR, ← hq]; unfold Rs.mins; rw [h1]; rfl)
    clear hR hq hA B0
    go_enter Tryz.func42, Tryz.ntmps42
    go_wp2_with fail
    refine C.out.mono ?_
    rintro e w1 ⟨rfl, b1⟩
    have B1 := bstep HB.out b1
    go_wp2_with fail
    go_ret
    exact ⟨ret_bool HR.out, B1⟩
  · have h1 : (off.tmod 60 == 0) = false := by simpa using h
    have HR := Lib.hid (show false = R by rw [← hR]; unfold Rs.mins; rw [h1]; rfl)
    clear hR hq hA B0 C
    go_enter Tryz.func42, Tryz.ntmps42
    go_wp2_with fail
    go_ret
    exact ⟨ret_bool HR.out, HB.out⟩
set_option maxHeartbeats 4000000 in
theorem asc_is {l : List Int} {R : Bool} (hR : Rs.asc l = R) (A : Option Addr) (n c : Nat) (w : World) (hA : LIn 1 eInt 0 w.heap.size w (A, n, c) l) :
    Calls Tryz.prog 51 #[.slice A n c] w fun e w' => e = .returned (.bool R) ∧ Below w.heap.size w w' := by
  have HA := Lib.hid hA
  have hn := hA.le
  have hl := hA.len
  simp only at hn hl
  have HL := Lib.hid hl
  have HR0 : Hid (Rs.asc (l.drop 0) = R) := Lib.hid hR
  clear hA hR hl
  go_enter Tryz.func51, Tryz.ntmps51
  go_wp2_with fail
  go_loopw [3] (fun i wr => ∃ (k : Nat), (k ≤ n ∨ k = 0) ∧ i = .int .i64 (k + 1) ∧ Hid (Rs.asc (l.drop k) = R) ∧ Hid (Below w.heap.size w wr)) (fun i _ => n + 1 - (intOf i).toNat)
  case atStart => exact ⟨0, .inr rfl, rfl, HR0, Lib.hid (Below.refl _ _)⟩
  case round =>
    clear HR0
    obtain ⟨k, hk, rfl, HR, HB⟩ := hrel
    by_cases hlt : k + 1 < n
    · obtain ⟨x, b, off, hx, ea, hb, hc⟩ := (HA.out.kept (.of_below HB.out (Nat.le_refl _))).get (i := k) (by simp only; omega)
      obtain ⟨y, b', off', hy, ea', hb', hc'⟩ := (HA.out.kept (.of_below HB.out (Nat.le_refl _))).get (i := k + 1) hlt
      simp only at ea ea'
      subst ea
      simp only [Option.some.injEq, Addr.mk.injEq, and_true] at ea'
      obtain ⟨rfl, rfl⟩ := ea'
      have c0 := hc 0 (by decide)
      have c1 := hc' 0 (by decide)
      simp only [eInt, Nat.mul_one, Nat.add_zero] at c0 c1
      have hst := HR.out
      rw [drop_cons' hx, drop_cons' hy, Rs.asc, ← drop_cons' hy] at hst
      have k1 : (k : Int) + 1 < n := by omega
      have k2 : (k : Int) < n := by omega
      have k3 : (0 : Int) ≤ k := by omega
      clear hc hc' hx hy HR
      by_cases h : x < y
      · have N := Lib.hid (show Rs.asc (l.drop (k + 1)) = R by rw [← hst, decide_eq_true h]; rfl)
        have q1 : decide (y ≤ x) = false := decide_eq_false (by omega)
        clear hst
        go_wp2_with fail
        go_quiet (fail)
        go_wp2_with fail
        go_roundw
        case rel => exact ⟨k + 1, by omega, by go_num, N, by first | exact HB | exact Lib.hid (bdrewN HB.out _)⟩
        case measure => simp [intOf]; omega
      · have N := Lib.hid (show false = R by rw [← hst, decide_eq_false h]; rfl)
        have q1 : decide (y ≤ x) = true := decide_eq_true (by omega)
        clear hst
        go_wp2_with fail
        go_quiet (fail)
        go_wp2_with fail
        go_ret
        exact ⟨ret_bool N.out, by first | exact HB.out | exact bdrewN HB.out _⟩
    · have N := Lib.hid (show true = R by
        have h := HR.out
        have hl := HL.out
        rcases hd : l.drop k with _ | ⟨x, t⟩
        · rw [hd] at h; exact h
        · have : t = [] := by
            have h2 : (l.drop k).length = t.length + 1 := by rw [hd]; rfl
            rw [List.length_drop] at h2
            exact List.eq_nil_of_length_eq_zero (by omega)
          rw [hd, this] at h
          exact h)
      go_wp2_with fail
      go_ret
      exact ⟨ret_bool N.out, HB.out⟩
end Go.Proofs.YtphenbfhojdcpaaGreatDoor
