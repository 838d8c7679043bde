/- The reference of layer 6: clocks and dates. -/
import Derived.Test.YtoohijffkbkikaaGreatDoorR6b
namespace L6
open Go Go.Lib Go.Proofs.YtoohijffkbkikaaGreatDoor
def clk6 (l : List UInt8) : Int :=
  if 59 < val6 0 ((l.drop 3).take 2) ∨ 59 < (if l.length = 8 then val6 0 ((l.drop 6).take 2) else 0) then -1
  else ((val6 0 (l.take 2) * 3600 + val6 0 ((l.drop 3).take 2) * 60 + (if l.length = 8 then val6 0 ((l.drop 6).take 2) else 0) : Nat) : Int)
def date6 (l : List UInt8) : Int :=
  if Civ.vldB (val6 0 (l.take 4)) (val6 0 ((l.drop 5).take 2)) (val6 0 ((l.drop 8).take 2)) = true then Civ.num (val6 0 (l.take 4)) (val6 0 ((l.drop 5).take 2)) (val6 0 ((l.drop 8).take 2)) else -1
theorem val6_2 {l : List UInt8} (h : l.length ≤ 2) : val6 0 l ≤ 2900 := by
  have := val6_bd l 0 0 (by decide)
  rw [Nat.zero_add] at this
  have h2 : 10 ^ l.length ≤ 10 ^ 2 := Nat.pow_le_pow_right (by decide) h
  omega
theorem val6_4 {l : List UInt8} (h : l.length ≤ 4) : val6 0 l ≤ 290000 := by
  have := val6_bd l 0 0 (by decide)
  rw [Nat.zero_add] at this
  have h2 : 10 ^ l.length ≤ 10 ^ 4 := Nat.pow_le_pow_right (by decide) h
  omega
theorem clk6_bd (l : List UInt8) : -1 ≤ clk6 l ∧ clk6 l ≤ 11000000 := by
  have a := val6_2 (l := l.take 2) (by rw [List.length_take]; omega)
  unfold clk6
  generalize val6 0 ((l.drop 3).take 2) = m
  generalize (if l.length = 8 then val6 0 ((l.drop 6).take 2) else 0) = x
  split <;> omega
theorem date6_bd (l : List UInt8) : -1 ≤ date6 l ∧ date6 l ≤ 100000 := by
  unfold date6
  split
  · rename_i h
    have := Civ.num_bd (Civ.vldB_iff.1 h)
    omega
  · omega
end L6
namespace Go.Proofs.YtoohijffkbkikaaGreatDoor
open Go.RowKit
set_option linter.unusedVariables false
set_option linter.unusedSimpArgs false
set_option maxRecDepth 100000

theorem ext_list (s : ByteArray) (i j : Nat) : (s.extract i j).data.toList = (s.data.toList.drop i).take (j - i) := by rw [← Lib.toList_data, Lib.extract_toList]
theorem ext_size (s : ByteArray) (i j : Nat) : (s.extract i j).size ≤ j - i := by rw [Lib.size_eq, ext_list, List.length_take]; omega
theorem num6_b {s : ByteArray} {v : Nat} (h : L6.val6 0 s.data.toList = v) (w : World) (hs : s.size ≤ 10) :
    Calls Tryz.prog 75 #[.string s] w fun e w' => e = .returned (.int .i64 (v : Int)) ∧ Below w.heap.size w w' := (num6_is h w hs).mono fun e w' ⟨h1, h2⟩ => ⟨h1, h2 ▸ Below.refl _ _⟩
set_option maxHeartbeats 4000000 in
theorem clk6_any (s : ByteArray) (w : World) (hs : s.size = 5 ∨ s.size = 8) :
    Calls Tryz.prog 73 #[.string s] w fun e w' => e = .returned (.int .i64 (L6.clk6 s.data.toList)) ∧ Below w.heap.size w w' := by
  have hz := Lib.size_eq s
  obtain ⟨a, ha⟩ : ∃ a, s.extract 0 2 = a := ⟨_, rfl⟩
  obtain ⟨b, hb⟩ : ∃ b, s.extract 3 5 = b := ⟨_, rfl⟩
  have la := ext_list s 0 2
  have lb := ext_list s 3 5
  have za := ext_size s 0 2
  have zb := ext_size s 3 5
  rw [ha] at la za
  rw [hb] at lb zb
  obtain ⟨h, hh⟩ : ∃ h, L6.val6 0 (s.data.toList.take 2) = h := ⟨_, rfl⟩
  obtain ⟨m, hm⟩ : ∃ m, L6.val6 0 ((s.data.toList.drop 3).take 2) = m := ⟨_, rfl⟩
  have HA := Lib.hid (show L6.val6 0 a.data.toList = h by rw [la]; exact hh)
  have HB := Lib.hid (show L6.val6 0 b.data.toList = m by rw [lb]; exact hm)
  have bh : h ≤ 2900 := by rw [← hh]; exact L6.val6_2 (by rw [List.length_take]; omega)
  have bm : m ≤ 2900 := by rw [← hm]; exact L6.val6_2 (by rw [List.length_take]; omega)
  have s1 : (2 : Int) ≤ s.size := by omega
  have s2 : (5 : Int) ≤ s.size := by omega
  have z1 : a.size ≤ 10 := by omega
  have z2 : b.size ≤ 10 := by omega
  rcases hs with h5 | h8
  · have hex : L6.clk6 s.data.toList = if 59 < m then -1 else ((h * 3600 + m * 60 + 0 : Nat) : Int) := by
      unfold L6.clk6
      rw [hm, hh, if_neg (show ¬ s.data.toList.length = 8 by omega)]
      simp only [Nat.not_lt_zero, or_false]
    obtain ⟨R, hR⟩ : ∃ R, L6.clk6 s.data.toList = R := ⟨_, rfl⟩
    rw [hR] at hex ⊢
    have HX := Lib.hid hex
    have h5' : ((s.size : Int) == 8) = false := by simp; omega
    clear hz la lb za zb hh hm hex hR
    go_enter Tryz.func73, Tryz.ntmps73
    go_wp2_with fail
    go_region_held3 (fun w' => Below w.heap.size w w') (first | (exact (Below.refl _ _).drew) | (exact bstep (by assumption) hb))
      (first | (go_at_call 75; ((with_reducible refine (num6_b HA.out _ z1).mono ?_); rintro e w' ⟨rfl, hb⟩)) | (go_at_call 75; ((with_reducible refine (num6_b HB.out _ z2).mono ?_); rintro e w' ⟨rfl, hb⟩)))
    by_cases h1 : 59 < m
    · have h1' : decide ((59 : Int) < m) = true := by simp; omega
      have HO := Lib.hid (show R = -1 by rw [HX.out, if_pos h1])
      clear h1
      go_wp2_with fail
      go_ret
      rw [HO.out]
      exact ⟨rfl, by assumption⟩
    · have h1' : decide ((59 : Int) < m) = false := by simp; omega
      have HO := Lib.hid (show R = (h : Int) * 3600 + m * 60 + 0 by rw [HX.out, if_neg h1]; omega)
      clear h1
      go_wp2_with fail
      go_ret
      rw [HO.out]
      exact ⟨ret_int (by omega), by assumption⟩
  · obtain ⟨c, hc⟩ : ∃ c, s.extract 6 8 = c := ⟨_, rfl⟩
    have lc := ext_list s 6 8
    have zc := ext_size s 6 8
    rw [hc] at lc zc
    obtain ⟨x, hx⟩ : ∃ x, L6.val6 0 ((s.data.toList.drop 6).take 2) = x := ⟨_, rfl⟩
    have HC := Lib.hid (show L6.val6 0 c.data.toList = x by rw [lc]; exact hx)
    have bx : x ≤ 2900 := by rw [← hx]; exact L6.val6_2 (by rw [List.length_take]; omega)
    have s3 : (8 : Int) ≤ s.size := by omega
    have z3 : c.size ≤ 10 := by omega
    have hex : L6.clk6 s.data.toList = if 59 < m ∨ 59 < x then -1 else ((h * 3600 + m * 60 + x : Nat) : Int) := by
      unfold L6.clk6
      rw [hm, hh, if_pos (show s.data.toList.length = 8 by omega), hx]
    obtain ⟨R, hR⟩ : ∃ R, L6.clk6 s.data.toList = R := ⟨_, rfl⟩
    rw [hR] at hex ⊢
    have HX := Lib.hid hex
    have h5' : ((s.size : Int) == 8) = true := by simp; omega
    clear hz la lb za zb hh hm hex hR lc zc hx
    go_enter Tryz.func73, Tryz.ntmps73
    go_wp2_with fail
    go_region_held3 (fun w' => Below w.heap.size w w') (first | (exact (Below.refl _ _).drew) | (exact bstep (by assumption) hb))
      (first | (go_at_call 75; ((with_reducible refine (num6_b HA.out _ z1).mono ?_); rintro e w' ⟨rfl, hb⟩)) | (go_at_call 75; ((with_reducible refine (num6_b HB.out _ z2).mono ?_); rintro e w' ⟨rfl, hb⟩)))
    go_wp2_with fail
    refine (num6_is HC.out _ z3).mono ?_
    rintro e w' ⟨rfl, rfl⟩
    by_cases h1 : 59 < m
    · have h1' : decide ((59 : Int) < m) = true := by simp; omega
      have HO := Lib.hid (show R = -1 by rw [HX.out, if_pos (.inl h1)])
      clear h1
      go_wp2_with fail
      go_ret
      rw [HO.out]
      exact ⟨rfl, by assumption⟩
    · have h1' : decide ((59 : Int) < m) = false := by simp; omega
      by_cases h2 : 59 < x
      · have h2' : decide ((59 : Int) < x) = true := by simp; omega
        have HO := Lib.hid (show R = -1 by rw [HX.out, if_pos (.inr h2)])
        clear h1 h2
        go_wp2_with fail
        go_ret
        rw [HO.out]
        exact ⟨rfl, by assumption⟩
      · have h2' : decide ((59 : Int) < x) = false := by simp; omega
        have HO := Lib.hid (show R = (h : Int) * 3600 + m * 60 + x by rw [HX.out, if_neg (by omega)]; omega)
        clear h1 h2
        go_wp2_with fail
        go_ret
        rw [HO.out]
        exact ⟨rfl, by assumption⟩
theorem clk6_is {s : ByteArray} {v : Int} (h : L6.clk6 s.data.toList = v) (w : World) (hs : s.size = 5 ∨ s.size = 8) :
    Calls Tryz.prog 73 #[.string s] w fun e w' => e = .returned (.int .i64 v) ∧ Below w.heap.size w w' := h ▸ clk6_any s w hs
theorem rdayv_is {y m d a b : Int} (h : dayV y m d = (a, b)) (w : World) (iy : I64 y) (im : I64 m) (id : I64 d) :
    Calls Tryz.prog 101 #[.agg #[.int .i64 y, .int .i64 m, .int .i64 d]] w fun e w' => e = .returned (.tuple #[.int .i64 a, .int .i64 b]) ∧ Below w.heap.size w w' := by
  unfold dayV at h
  by_cases hv : Civ.vldB y m d = true
  · rw [if_pos hv] at h
    cases h
    exact rday_yes y m d w (Civ.vldB_iff.1 hv)
  · rw [if_neg hv] at h
    cases h
    exact rday_no y m d w iy im id (fun h => hv (Civ.vldB_iff.2 h))
set_option maxHeartbeats 4000000 in
theorem date6_any (s : ByteArray) (w : World) (hs : 10 ≤ s.size) (hs2 : s.size ≤ 1000000000) :
    Calls Tryz.prog 74 #[.string s] w fun e w' => e = .returned (.int .i64 (L6.date6 s.data.toList)) ∧ Below w.heap.size w w' := by
  obtain ⟨a, ha⟩ : ∃ a, s.extract 0 4 = a := ⟨_, rfl⟩
  obtain ⟨b, hb⟩ : ∃ b, s.extract 5 7 = b := ⟨_, rfl⟩
  obtain ⟨c, hc⟩ : ∃ c, s.extract 8 10 = c := ⟨_, rfl⟩
  have la := ext_list s 0 4
  have lb := ext_list s 5 7
  have lc := ext_list s 8 10
  have za := ext_size s 0 4
  have zb := ext_size s 5 7
  have zc := ext_size s 8 10
  rw [ha] at la za
  rw [hb] at lb zb
  rw [hc] at lc zc
  obtain ⟨y, hy⟩ : ∃ h, L6.val6 0 (s.data.toList.take 4) = h := ⟨_, rfl⟩
  obtain ⟨m, hm⟩ : ∃ m, L6.val6 0 ((s.data.toList.drop 5).take 2) = m := ⟨_, rfl⟩
  obtain ⟨d, hd⟩ : ∃ m, L6.val6 0 ((s.data.toList.drop 8).take 2) = m := ⟨_, rfl⟩
  have HA := Lib.hid (show L6.val6 0 a.data.toList = y by rw [la]; exact hy)
  have HB := Lib.hid (show L6.val6 0 b.data.toList = m by rw [lb]; exact hm)
  have HC := Lib.hid (show L6.val6 0 c.data.toList = d by rw [lc]; exact hd)
  have by_ : y ≤ 290000 := by rw [← hy]; exact L6.val6_4 (by rw [List.length_take]; omega)
  have bm : m ≤ 2900 := by rw [← hm]; exact L6.val6_2 (by rw [List.length_take]; omega)
  have bd : d ≤ 2900 := by rw [← hd]; exact L6.val6_2 (by rw [List.length_take]; omega)
  have iy : I64 (y : Int) := ⟨by omega, by omega⟩
  have im : I64 (m : Int) := ⟨by omega, by omega⟩
  have id : I64 (d : Int) := ⟨by omega, by omega⟩
  have s1 : (4 : Int) ≤ s.size := by omega
  have s2 : (7 : Int) ≤ s.size := by omega
  have s3 : (10 : Int) ≤ s.size := by omega
  have z1 : a.size ≤ 10 := by omega
  have z2 : b.size ≤ 10 := by omega
  have z3 : c.size ≤ 10 := by omega
  obtain ⟨u, r, hur⟩ : ∃ u r, dayV y m d = (u, r) := ⟨_, _, rfl⟩
  have HD := Lib.hid hur
  obtain ⟨R, hR⟩ : ∃ R, L6.date6 s.data.toList = R := ⟨_, rfl⟩
  have hex : R = if Civ.vldB y m d = true then Civ.num y m d else -1 := by rw [← hR, ← hy, ← hm, ← hd]; rfl
  rw [hR]
  by_cases hv : Civ.vldB y m d = true
  · have h2 : u = R ∧ r = 0 := by
      unfold dayV at hur
      rw [if_pos hv] at hur
      rw [if_pos hv] at hex
      cases hur
      exact ⟨hex.symm, rfl⟩
    obtain ⟨rfl, rfl⟩ := h2
    clear la lb lc za zb zc hy hm hd hur hR hex hv
    go_enter Tryz.func74, Tryz.ntmps74
    go_wp2_with fail
    go_region_held3 (fun w' => Below w.heap.size w w') (first | (exact (Below.refl _ _).drew) | (exact bstep (by assumption) hb))
      (first | (go_at_call 75; ((with_reducible refine (num6_b HA.out _ z1).mono ?_); rintro e w' ⟨rfl, hb⟩)) | (go_at_call 75; ((with_reducible refine (num6_b HB.out _ z2).mono ?_); rintro e w' ⟨rfl, hb⟩)) | (go_at_call 75; ((with_reducible refine (num6_b HC.out _ z3).mono ?_); rintro e w' ⟨rfl, hb⟩)) | (go_at_call 101; ((with_reducible refine (rdayv_is HD.out _ iy im id).mono ?_); rintro e w' ⟨rfl, hb⟩)))
    go_wp2_with fail
    go_ret
    exact ⟨rfl, by assumption⟩
  · have h2 : R = -1 ∧ r = 1 := by
      unfold dayV at hur
      rw [if_neg hv] at hur
      rw [if_neg hv] at hex
      cases hur
      exact ⟨hex, rfl⟩
    obtain ⟨rfl, rfl⟩ := h2
    clear la lb lc za zb zc hy hm hd hur hR hex hv
    go_enter Tryz.func74, Tryz.ntmps74
    go_wp2_with fail
    go_region_held3 (fun w' => Below w.heap.size w w') (first | (exact (Below.refl _ _).drew) | (exact bstep (by assumption) hb))
      (first | (go_at_call 75; ((with_reducible refine (num6_b HA.out _ z1).mono ?_); rintro e w' ⟨rfl, hb⟩)) | (go_at_call 75; ((with_reducible refine (num6_b HB.out _ z2).mono ?_); rintro e w' ⟨rfl, hb⟩)) | (go_at_call 75; ((with_reducible refine (num6_b HC.out _ z3).mono ?_); rintro e w' ⟨rfl, hb⟩)) | (go_at_call 101; ((with_reducible refine (rdayv_is HD.out _ iy im id).mono ?_); rintro e w' ⟨rfl, hb⟩)))
    go_wp2_with fail
    go_ret
    exact ⟨rfl, by assumption⟩
theorem date6_is {s : ByteArray} {v : Int} (h : L6.date6 s.data.toList = v) (w : World) (hs : 10 ≤ s.size) (hs2 : s.size ≤ 1000000000) :
    Calls Tryz.prog 74 #[.string s] w fun e w' => e = .returned (.int .i64 v) ∧ Below w.heap.size w w' := h ▸ date6_any s w hs hs2
end Go.Proofs.YtoohijffkbkikaaGreatDoor
