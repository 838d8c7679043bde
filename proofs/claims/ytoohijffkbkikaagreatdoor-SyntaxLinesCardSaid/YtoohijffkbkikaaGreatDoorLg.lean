/- What clock, date, offset and instant of package lexer return. -/
import Derived.Test.YtoohijffkbkikaaGreatDoorLf
namespace Go.Proofs.YtoohijffkbkikaaGreatDoor
open Go.RowKit
set_option linter.unusedVariables false
set_option linter.unusedSimpArgs false
set_option maxRecDepth 100000

theorem app_data (a b : ByteArray) : (a ++ b).data.toList = a.data.toList ++ b.data.toList := by
  rw [ByteArray.data_append]; simp
theorem full_is {s : ByteArray} {o : Option Int} (h : Lx.fullS s.data.toList = o) (w : World) (hT : LexT w) (hs : s.size ≤ 4000000000) : Calls Tryz.prog 123 #[.string s] w (Num2 1000000 o w) := h ▸ full_any s w hT hs

set_option maxHeartbeats 4000000 in
theorem clock_any (s : ByteArray) (w : World) (hT : LexT w) (hs : s.size ≤ 3000000000) :
    Calls Tryz.prog 95 #[.string s] w (Num2 1000000 (Lx.clockS s.data.toList) w) := by
  have hz := Lib.size_eq s
  by_cases h5 : s.size = 5
  · obtain ⟨t, ht⟩ : ∃ t, s ++ (⟨#[58, 48, 48]⟩ : ByteArray) = t := ⟨_, rfl⟩
    have htl : t.data.toList = s.data.toList ++ [58, 48, 48] := by rw [← ht, app_data]
    have hts : t.size ≤ 4000000000 := by rw [Lib.size_eq, htl]; simp; omega
    have HC := Lib.hid (show Lx.fullS t.data.toList = Lx.clockS s.data.toList by rw [htl]; unfold Lx.clockS; rw [if_pos (by omega)])
    have h5' : ((s.size : Int) == 5) = true := by simp; omega
    have n1 : ¬ 9223372036854775807 < s.size + 3 := by omega
    have HT := Lib.hid hT
    clear hz h5 htl hT
    go_enter Tryz.func95, Tryz.ntmps95
    go_wp2_with fail
    refine (full_is HC.out _ HT.out hts).mono ?_
    rintro e w1 ⟨v, i1, i2, i3, i4, rfl, b1⟩
    have HI := Lib.hid (And.intro i1 (And.intro i2 (And.intro i3 i4)))
    clear i1 i2 i3 i4
    go_wp2_with fail
    go_ret2
    exact ⟨v, HI.out.1, HI.out.2.1, HI.out.2.2.1, HI.out.2.2.2, rfl, b1⟩
  · have HC := Lib.hid (show Lx.fullS s.data.toList = Lx.clockS s.data.toList by unfold Lx.clockS; rw [if_neg (by omega)])
    have h5' : ((s.size : Int) == 5) = false := by simp; omega
    have HT := Lib.hid hT
    clear hz h5 hT
    go_enter Tryz.func95, Tryz.ntmps95
    go_wp2_with fail
    refine (full_is HC.out _ HT.out (by omega)).mono ?_
    rintro e w1 ⟨v, i1, i2, i3, i4, rfl, b1⟩
    have HI := Lib.hid (And.intro i1 (And.intro i2 (And.intro i3 i4)))
    clear i1 i2 i3 i4
    go_wp2_with fail
    go_ret2
    exact ⟨v, HI.out.1, HI.out.2.1, HI.out.2.2.1, HI.out.2.2.2, rfl, b1⟩
theorem clock_is {s : ByteArray} {o : Option Int} (h : Lx.clockS s.data.toList = o) (w : World) (hT : LexT w) (hs : s.size ≤ 3000000000) : Calls Tryz.prog 95 #[.string s] w (Num2 1000000 o w) := h ▸ clock_any s w hT hs

def SD (bl : Nat) (A B D : Int) (W w' : World) : Prop := w'.cell? ⟨bl, 0, none⟩ = some (.int .i64 A) ∧ w'.cell? ⟨bl, 1, none⟩ = some (.int .i64 B) ∧ w'.cell? ⟨bl, 2, none⟩ = some (.int .i64 D) ∧ LexT w' ∧ Below W.heap.size W w'
theorem keepD {bl : Nat} {A B D : Int} {W wc w' : World} (h : wc.cell? ⟨bl, 0, none⟩ = some (.int .i64 A) ∧ wc.cell? ⟨bl, 1, none⟩ = some (.int .i64 B) ∧ wc.cell? ⟨bl, 2, none⟩ = some (.int .i64 D) ∧ LexT wc ∧ Below W.heap.size W wc) (hb : Below wc.heap.size wc w') :
    w'.cell? ⟨bl, 0, none⟩ = some (.int .i64 A) ∧ w'.cell? ⟨bl, 1, none⟩ = some (.int .i64 B) ∧ w'.cell? ⟨bl, 2, none⟩ = some (.int .i64 D) ∧ LexT w' ∧ Below W.heap.size W w' :=
  ⟨cell_lift h.1 hb, cell_lift h.2.1 hb, cell_lift h.2.2.1 hb, h.2.2.2.1.below hb, bstep h.2.2.2.2 hb⟩
theorem sDT {a b c : Prop} {W wc : World} (h : a ∧ b ∧ c ∧ LexT wc ∧ Below W.heap.size W wc) : LexT wc := h.2.2.2.1
theorem sDB {a b c : Prop} {W wc : World} (h : a ∧ b ∧ c ∧ LexT wc ∧ Below W.heap.size W wc) : Below W.heap.size W wc := h.2.2.2.2
/-- What Day returns for any numbers. -/
def dayV (y m d : Int) : Int × Int := if Civ.vldB y m d = true then (Civ.num y m d, 0) else (0, 1)
theorem dayV_bd (y m d : Int) : 0 ≤ (dayV y m d).1 ∧ (dayV y m d).1 ≤ 100000 := by
  unfold dayV
  by_cases h : Civ.vldB y m d = true
  · rw [if_pos h]
    have := Civ.num_bd (Civ.vldB_iff.1 h)
    simp only
    omega
  · rw [if_neg h]; simp
theorem dayv_is {y m d a b : Int} (h : dayV y m d = (a, b)) (w : World) (hT : CivT w) (iy : I64 y) (im : I64 m) (id : I64 d) :
    Calls Tryz.prog 126 #[.agg #[.int .i64 y, .int .i64 m, .int .i64 d]] w fun e w' => e = .returned (.tuple #[.int .i64 a, .int .i64 b]) ∧ Below w.heap.size w w' := by
  unfold dayV at h
  by_cases hv : Civ.vldB y m d = true
  · rw [if_pos hv] at h
    cases h
    exact day_yes y m d w hT (Civ.vldB_iff.1 hv)
  · rw [if_neg hv] at h
    cases h
    exact day_no y m d w hT iy im id (fun h => hv (Civ.vldB_iff.2 h))

set_option maxHeartbeats 4000000 in
theorem date_any (s : ByteArray) (w : World) (hT : LexT w) (hs : s.size ≤ 4000000000) :
    Calls Tryz.prog 98 #[.string s] w (Num2 1000000 (Lx.dateS s.data.toList) w) := by
  obtain ⟨o, ho⟩ : ∃ o, Lx.dateS s.data.toList = o := ⟨_, rfl⟩
  rw [ho]
  have T0 := hT.alloc (.cells #[.int .i64 4, .int .i64 2, .int .i64 2] 3)
  have W0 := BlkAt.new w #[.int .i64 4, .int .i64 2, .int .i64 2] 3
  have B0 : Below w.heap.size w (w.alloc (.cells #[.int .i64 4, .int .i64 2, .int .i64 2] 3)) := (Below.refl _ _).alloc (Nat.le_refl _) _
  have HO := Lib.hid ho
  clear ho
  go_enter Tryz.func98, Tryz.ntmps98
  go_wp2_with fail
  refine (fields_any s 45 4 2 2 w.heap.size _ T0 hs W0 (by decide) (by decide) (by decide)).mono ?_
  rintro e w1 (⟨hn, rfl, b1⟩ | ⟨a, b, d, bl, hsm, rfl, R1, b1⟩)
  · have HN := Lib.hid (show o = none by rw [← HO.out]; unfold Lx.dateS; rw [hn])
    have HB := Lib.hid (bstep B0 b1)
    clear hn b1 B0 T0 W0
    go_wp2_with fail
    go_ret2
    rw [HN.out]
    exact Num2.none_ (by omega) 0 ⟨by omega, by omega⟩ (by omega) (by omega) HB.out
  · have hbd := Lx.fields_three hsm
    obtain ⟨a', b', d', he, ha, hb, hd⟩ := hbd
    cases he
    have hex : Lx.dateS s.data.toList = (if Civ.vldB a b d = true then some (Civ.num a b d) else none) := by unfold Lx.dateS; rw [hsm]
    rw [HO.out] at hex
    have HX := Lib.hid hex
    have hB1 := bstep B0 b1
    have T1 := T0.below b1
    have c0 := R1.cell (i := 0) rfl
    have c1 := R1.cell (i := 1) rfl
    have c2 := R1.cell (i := 2) rfl
    clear hsm b1 B0 T0 W0 hex HO
    obtain ⟨A, hA⟩ : ∃ A : Int, (a : Int) = A := ⟨_, rfl⟩
    obtain ⟨B, hB⟩ : ∃ B : Int, (b : Int) = B := ⟨_, rfl⟩
    obtain ⟨D, hD⟩ : ∃ D : Int, (d : Int) = D := ⟨_, rfl⟩
    rw [hA] at c0
    rw [hB] at c1
    rw [hD] at c2
    rw [hA, hB, hD] at HX
    have aA : 0 ≤ A ∧ A < 10000 := by omega
    have aB : 0 ≤ B ∧ B < 100 := by omega
    have aD : 0 ≤ D ∧ D < 100 := by omega
    clear hA hB hD ha hb hd
    obtain ⟨n, r, hnr⟩ : ∃ n r, dayV A B D = (n, r) := ⟨_, _, rfl⟩
    have hdb := dayV_bd A B D
    rw [hnr] at hdb
    simp only at hdb
    have HD := Lib.hid hnr
    have iA : I64 A := ⟨by omega, by omega⟩
    have iB : I64 B := ⟨by omega, by omega⟩
    have iD : I64 D := ⟨by omega, by omega⟩
    have S1 : w1.cell? ⟨bl, 0, none⟩ = some (.int .i64 A) ∧ w1.cell? ⟨bl, 1, none⟩ = some (.int .i64 B) ∧ w1.cell? ⟨bl, 2, none⟩ = some (.int .i64 D) ∧ LexT w1 ∧ Below w.heap.size w w1 := ⟨c0, c1, c2, T1, hB1⟩
    by_cases hv : Civ.vldB A B D = true
    · have HN := Lib.hid (show o = some n by
        rw [HX.out, if_pos hv]
        unfold dayV at hnr
        rw [if_pos hv] at hnr
        cases hnr
        rfl)
      obtain rfl : r = 0 := by unfold dayV at hnr; rw [if_pos hv] at hnr; cases hnr; rfl
      clear HX hnr hv hB1 T1 R1
      go_wp2_with fail
      go_region_held3 (fun w' => w'.cell? ⟨bl, 0, none⟩ = some (.int .i64 A) ∧ w'.cell? ⟨bl, 1, none⟩ = some (.int .i64 B) ∧ w'.cell? ⟨bl, 2, none⟩ = some (.int .i64 D) ∧ LexT w' ∧ Below w.heap.size w w')
        (first | (exact keepD S1 (Below.refl _ _).drew) | (exact keepD (by assumption) hb))
        (first | (go_at_call 126; ((with_reducible refine (dayv_is HD.out _ (sDT (by assumption)).civ iA iB iD).mono ?_); rintro e w' ⟨rfl, hb⟩)))
      go_wp2_with fail
      go_ret2
      rw [HN.out]
      exact Num2.some_ _ ⟨by omega, by omega⟩ (by omega) (by omega) (sDB (by assumption))
    · have HN := Lib.hid (show o = none by rw [HX.out, if_neg hv])
      obtain rfl : r = 1 := by unfold dayV at hnr; rw [if_neg hv] at hnr; cases hnr; rfl
      clear HX hnr hv hB1 T1 R1
      go_wp2_with fail
      go_region_held3 (fun w' => w'.cell? ⟨bl, 0, none⟩ = some (.int .i64 A) ∧ w'.cell? ⟨bl, 1, none⟩ = some (.int .i64 B) ∧ w'.cell? ⟨bl, 2, none⟩ = some (.int .i64 D) ∧ LexT w' ∧ Below w.heap.size w w')
        (first | (exact keepD S1 (Below.refl _ _).drew) | (exact keepD (by assumption) hb))
        (first | (go_at_call 126; ((with_reducible refine (dayv_is HD.out _ (sDT (by assumption)).civ iA iB iD).mono ?_); rintro e w' ⟨rfl, hb⟩)))
      go_wp2_with fail
      go_ret2
      rw [HN.out]
      exact Num2.none_ (by omega) _ ⟨by omega, by omega⟩ (by omega) (by omega) (sDB (by assumption))
theorem date_is {s : ByteArray} {o : Option Int} (h : Lx.dateS s.data.toList = o) (w : World) (hT : LexT w) (hs : s.size ≤ 4000000000) : Calls Tryz.prog 98 #[.string s] w (Num2 1000000 o w) := h ▸ date_any s w hT hs

def offV (c : UInt8) (o : Option Int) : Option Int := match o with
  | some n => if n ≤ 64800 then (if c = 43 then some n else if c = 45 then some (-n) else none) else none
  | none => none
theorem offV_some (c : UInt8) (n : Int) : offV c (some n) = if n ≤ 64800 then (if c = 43 then some n else if c = 45 then some (-n) else none) else none := rfl
theorem num2_open {M : Int} {o : Option Int} {w w' : World} {e : Ending} (h : Num2 M o w e w') : ∃ v : Int, Hid (I64 v ∧ ∀ x, o = some x → v = x) ∧ -M ≤ v ∧ v ≤ M ∧ e = .returned (.tuple #[.int .i64 v, .bool o.isSome]) ∧ Below w.heap.size w w' := by
  obtain ⟨v, a, b, c, d, e, f⟩ := h
  exact ⟨v, Lib.hid ⟨a, d⟩, b, c, e, f⟩
set_option maxHeartbeats 4000000 in
theorem offset_any (s : ByteArray) (w : World) (hT : LexT w) (hs : s.size ≤ 3000000000) :
    Calls Tryz.prog 99 #[.string s] w (Num2 1000000 (Lx.offS s.data.toList) w) := by
  have hz := Lib.size_eq s
  by_cases h6 : s.size = 6
  · have h6' : ((s.size : Int) == 6) = true := by simp; omega
    have h6n : ((s.size : Int) != 6) = false := by simp; omega
    obtain ⟨c, t, hl⟩ : ∃ c t, s.data.toList = c :: t := by
      cases hc : s.data.toList with
      | nil => rw [hc, List.length_nil] at hz; omega
      | cons c t => exact ⟨c, t, rfl⟩
    have htz : t.length = 5 := by rw [hl, List.length_cons] at hz; omega
    obtain ⟨u, hu⟩ : ∃ u, s.extract 1 s.size = u := ⟨_, rfl⟩
    have hul : u.data.toList = t := by
      rw [← hu, ← Lib.toList_data, Lib.extract_toList, hl]
      simp only [List.drop_succ_cons, List.drop_zero]
      exact List.take_of_length_le (by omega)
    have huz : u.size ≤ 3000000000 := by rw [Lib.size_eq, hul]; omega
    obtain ⟨o, ho⟩ : ∃ o, Lx.clockS u.data.toList = o := ⟨_, rfl⟩
    have hex : Lx.offS s.data.toList = offV c o := by
      unfold Lx.offS
      rw [if_pos (by omega), hl]
      simp only [List.drop_succ_cons, List.drop_zero, List.head?_cons, Option.some.injEq]
      rw [← hul, ho]
      rfl
    have HX := Lib.hid hex
    have HO := Lib.hid ho
    have HT := Lib.hid hT
    have hc : s.data.toList[0]? = some c := by rw [hl]; rfl
    have k0 : ∀ w, (Instr.index 9 (.string s) (.int .i64 0)).run Tryz.prog w = .ok (.int .u8 (c.toNat : Int)) w := fun w => str_at hc 9 Tryz.underlying9 w
    have l1 : (1 : Int) ≤ s.size := by omega
    have HS := Lib.hid h6
    clear hz hl htz hul ho hex hT hc h6
    go_enter Tryz.func99, Tryz.ntmps99
    go_wp2_with fail
    refine (clock_is HO.out _ HT.out huz).mono ?_
    intro e w1 hw1
    obtain ⟨v, HV, v1, v2, rfl, b1⟩ := num2_open hw1
    clear hw1
    cases o with
    | none =>
      have HN := Lib.hid (show Lx.offS s.data.toList = none from HX.out)
      simp only [Option.isSome_none]
      clear HX
      go_wp2_with fail
      go_ret2
      rw [HN.out]
      exact Num2.none_ (by omega) 0 ⟨by omega, by omega⟩ (by omega) (by omega) b1
    | some n =>
      obtain rfl : v = n := HV.out.2 n rfl
      simp only [Option.isSome_some]
      by_cases h1 : 64800 < v
      · have HN := Lib.hid (show Lx.offS s.data.toList = none by rw [HX.out, offV_some]; rw [if_neg (by omega)])
        clear HX
        go_wp2_with fail
        go_ret2
        rw [HN.out]
        exact Num2.none_ (by omega) 0 ⟨by omega, by omega⟩ (by omega) (by omega) b1
      · have h1' : decide ((64800 : Int) < v) = false := by simp; omega
        have u0 := wr_ (-v) (by omega)
        by_cases h2 : c = 43
        · have HN := Lib.hid (show Lx.offS s.data.toList = some v by rw [HX.out, offV_some]; rw [if_pos (by omega), if_pos h2])
          subst h2
          clear HX
          go_wp2_with fail
          go_ret2
          rw [HN.out]
          exact Num2.some_ _ ⟨by omega, by omega⟩ (by omega) (by omega) b1
        · have h2' : (((c.toNat : Int)) == 43) = false := by
            simp only [beq_eq_false_iff_ne, ne_eq]
            intro h
            exact h2 (UInt8.toNat_inj.1 (by show c.toNat = 43; omega))
          by_cases h3 : c = 45
          · have HN := Lib.hid (show Lx.offS s.data.toList = some (-v) by rw [HX.out, offV_some]; rw [if_pos (by omega), if_neg h2, if_pos h3])
            subst h3
            clear HX
            go_wp2_with fail
            go_ret2
            rw [HN.out]
            exact Num2.some_ _ ⟨by omega, by omega⟩ (by omega) (by omega) b1
          · have HN := Lib.hid (show Lx.offS s.data.toList = none by rw [HX.out, offV_some]; rw [if_pos (by omega), if_neg h2, if_neg h3])
            have h3' : (((c.toNat : Int)) == 45) = false := by
              simp only [beq_eq_false_iff_ne, ne_eq]
              intro h
              exact h3 (UInt8.toNat_inj.1 (by show c.toNat = 45; omega))
            clear HX h2 h3
            go_wp2_with fail
            go_ret2
            rw [HN.out]
            exact Num2.none_ (by omega) 0 ⟨by omega, by omega⟩ (by omega) (by omega) b1
  · have HN := Lib.hid (show Lx.offS s.data.toList = none by unfold Lx.offS; rw [if_neg (by omega)])
    have h6' : ((s.size : Int) == 6) = false := by simp; omega
    have h6n : ((s.size : Int) != 6) = true := by simp; omega
    clear hz h6
    go_enter Tryz.func99, Tryz.ntmps99
    go_wp2_with fail
    go_ret2
    rw [HN.out]
    exact Num2.none_ (by omega) 0 ⟨by omega, by omega⟩ (by omega) (by omega) (Below.refl _ _)
end Go.Proofs.YtoohijffkbkikaaGreatDoor
