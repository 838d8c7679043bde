/- What clock, date, offset and instant of package lexer return. What instant of package lexer returns; and facts for Token. -/
import Derived.Test.YtphenbfhojdcpaaGreatDoorKlG04
namespace Go.Proofs.YtphenbfhojdcpaaGreatDoor
open Go.RowKit
set_option linter.unusedVariables false
set_option linter.unusedSimpArgs false
set_option maxRecDepth 100000
theorem app_data (a b : ByteArray) : (a ++ b).data.toList = a.data.toList ++ b.data.toList := by
  rw [ByteArray.data_append]; simp
theorem full_is {s : ByteArray} {o : Option Int} (h : Lx.fullS s.data.toList = o) (w : World) (hT : LexT w) (hs : s.size ≤ 4000000000) : Calls Tryz.prog 185 #[.string s] w (Num2 1000000 o w) := h ▸ full_any s w hT hs
set_option maxHeartbeats 4000000 in
theorem clock_any (s : ByteArray) (w : World) (hT : LexT w) (hs : s.size ≤ 3000000000) :
    Calls Tryz.prog 161 #[.string s] w (Num2 1000000 (Lx.clockS s.data.toList) w) := by
  have hz := Lib.size_eq s
  by_cases h5 : s.size = 5
  · obtain ⟨t, ht⟩ : ∃ t, s ++ (⟨#[58, 48, 48]⟩ : ByteArray) = t := ⟨_, rfl⟩
    have htl : t.data.toList = s.data.toList ++ [58, 48, 48] := by rw [← ht, app_data]
    have hts : t.size ≤ 4000000000 := by rw [Lib.size_eq, htl]; simp; omega
    have HC := Lib.hid (show Lx.fullS t.data.toList = Lx.clockS s.data.toList by rw [htl]; unfold Lx.clockS; rw [if_pos (by omega)])
    have h5' : ((s.size : Int) == 5) = true := by simp; omega
    have n1 : ¬ 9223372036854775807 < s.size + 3 := by omega
    have HT := Lib.hid hT
    clear hz h5 htl hT
    go_enter Tryz.func161, Tryz.ntmps161
    go_wp2_with fail
    refine (full_is HC.out _ HT.out hts).mono ?_
    rintro e w1 ⟨v, i1, i2, i3, i4, rfl, b1⟩
    have HI := Lib.hid (And.intro i1 (And.intro i2 (And.intro i3 i4)))
    clear i1 i2 i3 i4
    go_wp2_with fail
    go_ret2
    exact ⟨v, HI.out.1, HI.out.2.1, HI.out.2.2.1, HI.out.2.2.2, rfl, b1⟩
  · have HC := Lib.hid (show Lx.fullS s.data.toList = Lx.clockS s.data.toList by unfold Lx.clockS; rw [if_neg (by omega)])
    have h5' : ((s.size : Int) == 5) = false := by simp; omega
    have HT := Lib.hid hT
    clear hz h5 hT
    go_enter Tryz.func161, Tryz.ntmps161
    go_wp2_with fail
    refine (full_is HC.out _ HT.out (by omega)).mono ?_
    rintro e w1 ⟨v, i1, i2, i3, i4, rfl, b1⟩
    have HI := Lib.hid (And.intro i1 (And.intro i2 (And.intro i3 i4)))
    clear i1 i2 i3 i4
    go_wp2_with fail
    go_ret2
    exact ⟨v, HI.out.1, HI.out.2.1, HI.out.2.2.1, HI.out.2.2.2, rfl, b1⟩
theorem clock_is {s : ByteArray} {o : Option Int} (h : Lx.clockS s.data.toList = o) (w : World) (hT : LexT w) (hs : s.size ≤ 3000000000) : Calls Tryz.prog 161 #[.string s] w (Num2 1000000 o w) := h ▸ clock_any s w hT hs
theorem keepD {bl : Nat} {A B D : Int} {W wc w' : World} (h : wc.cell? ⟨bl, 0, none⟩ = some (.int .i64 A) ∧ wc.cell? ⟨bl, 1, none⟩ = some (.int .i64 B) ∧ wc.cell? ⟨bl, 2, none⟩ = some (.int .i64 D) ∧ LexT wc ∧ Below W.heap.size W wc) (hb : Below wc.heap.size wc w') :
    w'.cell? ⟨bl, 0, none⟩ = some (.int .i64 A) ∧ w'.cell? ⟨bl, 1, none⟩ = some (.int .i64 B) ∧ w'.cell? ⟨bl, 2, none⟩ = some (.int .i64 D) ∧ LexT w' ∧ Below W.heap.size W w' :=
  ⟨cell_lift h.1 hb, cell_lift h.2.1 hb, cell_lift h.2.2.1 hb, h.2.2.2.1.below hb, bstep h.2.2.2.2 hb⟩
theorem sDT {a b c : Prop} {W wc : World} (h : a ∧ b ∧ c ∧ LexT wc ∧ Below W.heap.size W wc) : LexT wc := h.2.2.2.1
theorem sDB {a b c : Prop} {W wc : World} (h : a ∧ b ∧ c ∧ LexT wc ∧ Below W.heap.size W wc) : Below W.heap.size W wc := h.2.2.2.2
/-- What Day returns for any numbers. -/
def dayV (y m d : Int) : Int × Int := if Civ.vldB y m d = true then (Civ.num y m d, 0) else (0, 1)
theorem dayV_bd (y m d : Int) : 0 ≤ (dayV y m d).1 ∧ (dayV y m d).1 ≤ 100000 := by
  unfold dayV
  by_cases h : Civ.vldB y m d = true
  · rw [if_pos h]
    have := Civ.num_bd (Civ.vldB_iff.1 h)
    simp only
    omega
  · rw [if_neg h]; simp
theorem dayv_is {y m d a b : Int} (h : dayV y m d = (a, b)) (w : World) (hT : CivT w) (iy : I64 y) (im : I64 m) (id : I64 d) :
    Calls Tryz.prog 172 #[.agg #[.int .i64 y, .int .i64 m, .int .i64 d]] w fun e w' => e = .returned (.tuple #[.int .i64 a, .int .i64 b]) ∧ Below w.heap.size w w' := by
  unfold dayV at h
  by_cases hv : Civ.vldB y m d = true
  · rw [if_pos hv] at h
    cases h
    exact day_yes y m d w hT (Civ.vldB_iff.1 hv)
  · rw [if_neg hv] at h
    cases h
    exact day_no y m d w hT iy im id (fun h => hv (Civ.vldB_iff.2 h))
set_option maxHeartbeats 4000000 in
theorem date_any (s : ByteArray) (w : World) (hT : LexT w) (hs : s.size ≤ 4000000000) :
    Calls Tryz.prog 164 #[.string s] w (Num2 1000000 (Lx.dateS s.data.toList) w) := by
  obtain ⟨o, ho⟩ : ∃ o, Lx.dateS s.data.toList = o := ⟨_, rfl⟩
  rw [ho]
  have T0 := hT.alloc (.cells #[.int .i64 4, .int .i64 2, .int .i64 2] 3)
  have W0 := BlkAt.new w #[.int .i64 4, .int .i64 2, .int .i64 2] 3
  have B0 : Below w.heap.size w (w.alloc (.cells #[.int .i64 4, .int .i64 2, .int .i64 2] 3)) := (Below.refl _ _).alloc (Nat.le_refl _) _
  have HO := Lib.hid ho
  clear ho
  go_enter Tryz.func164, Tryz.ntmps164
  go_wp2_with fail
  refine (fields_any s 45 4 2 2 w.heap.size _ T0 hs W0 (by decide) (by decide) (by decide)).mono ?_
  rintro e w1 (⟨hn, rfl, b1⟩ | ⟨a, b, d, bl, hsm, rfl, R1, b1⟩)
  · have HN := Lib.hid (show o = none by rw [← HO.out]; unfold Lx.dateS; rw [hn])
    have HB := Lib.hid (bstep B0 b1)
    clear hn b1 B0 T0 W0
    go_wp2_with fail
    go_ret2
    rw [HN.out]
    exact Num2.none_ (by omega) 0 ⟨by omega, by omega⟩ (by omega) (by omega) HB.out
  · have hbd := Lx.fields_three hsm
    obtain ⟨a', b', d', he, ha, hb, hd⟩ := hbd
    cases he
    have hex : Lx.dateS s.data.toList = (if Civ.vldB a b d = true then some (Civ.num a b d) else none) := by unfold Lx.dateS; rw [hsm]
    rw [HO.out] at hex
    have HX := Lib.hid hex
    have hB1 := bstep B0 b1
    have T1 := T0.below b1
    have c0 := R1.cell (i := 0) rfl
    have c1 := R1.cell (i := 1) rfl
    have c2 := R1.cell (i := 2) rfl
    clear hsm b1 B0 T0 W0 hex HO
    obtain ⟨A, hA⟩ : ∃ A : Int, (a : Int) = A := ⟨_, rfl⟩
    obtain ⟨B, hB⟩ : ∃ B : Int, (b : Int) = B := ⟨_, rfl⟩
    obtain ⟨D, hD⟩ : ∃ D : Int, (d : Int) = D := ⟨_, rfl⟩
    rw [hA] at c0
    rw [hB] at c1
    rw [hD] at c2
    rw [hA, hB, hD] at HX
    have aA : 0 ≤ A ∧ A < 10000 := by omega
    have aB : 0 ≤ B ∧ B < 100 := by omega
    have aD : 0 ≤ D ∧ D < 100 := by omega
    clear hA hB hD ha hb hd
    obtain ⟨n, r, hnr⟩ : ∃ n r, dayV A B D = (n, r) := ⟨_, _, rfl⟩
    have hdb := dayV_bd A B D
    rw [hnr] at hdb
    simp only at hdb
    have HD := Lib.hid hnr
    have iA : I64 A := ⟨by omega, by omega⟩
    have iB : I64 B := ⟨by omega, by omega⟩
    have iD : I64 D := ⟨by omega, by omega⟩
    have S1 : w1.cell? ⟨bl, 0, none⟩ = some (.int .i64 A) ∧ w1.cell? ⟨bl, 1, none⟩ = some (.int .i64 B) ∧ w1.cell? ⟨bl, 2, none⟩ = some (.int .i64 D) ∧ LexT w1 ∧ Below w.heap.size w w1 := ⟨c0, c1, c2, T1, hB1⟩
    by_cases hv : Civ.vldB A B D = true
    · have HN := Lib.hid (show o = some n by
        rw [HX.out, if_pos hv]
        unfold dayV at hnr
        rw [if_pos hv] at hnr
        cases hnr
        rfl)
      obtain rfl : r = 0 := by unfold dayV at hnr; rw [if_pos hv] at hnr; cases hnr; rfl
      clear HX hnr hv hB1 T1 R1
      go_wp2_with fail
      go_region_held3 (fun w' => w'.cell? ⟨bl, 0, none⟩ = some (.int .i64 A) ∧ w'.cell? ⟨bl, 1, none⟩ = some (.int .i64 B) ∧ w'.cell? ⟨bl, 2, none⟩ = some (.int .i64 D) ∧ LexT w' ∧ Below w.heap.size w w')
        (first | (exact keepD S1 (Below.refl _ _).drew) | (exact keepD (by assumption) hb))
        (first | (go_at_call 172; ((with_reducible refine (dayv_is HD.out _ (sDT (by assumption)).civ iA iB iD).mono ?_); rintro e w' ⟨rfl, hb⟩)))
      go_wp2_with fail
      go_ret2
      rw [HN.out]
      exact Num2.some_ _ ⟨by omega, by omega⟩ (by omega) (by omega) (sDB (by assumption))
    · have HN := Lib.hid (show o = none by rw [HX.out, if_neg hv])
      obtain rfl : r = 1 := by unfold dayV at hnr; rw [if_neg hv] at hnr; cases hnr; rfl
      clear HX hnr hv hB1 T1 R1
      go_wp2_with fail
      go_region_held3 (fun w' => w'.cell? ⟨bl, 0, none⟩ = some (.int .i64 A) ∧ w'.cell? ⟨bl, 1, none⟩ = some (.int .i64 B) ∧ w'.cell? ⟨bl, 2, none⟩ = some (.int .i64 D) ∧ LexT w' ∧ Below w.heap.size w w')
        (first | (exact keepD S1 (Below.refl _ _).drew) | (exact keepD (by assumption) hb))
        (first | (go_at_call 172; ((with_reducible refine (dayv_is HD.out _ (sDT (by assumption)).civ iA iB iD).mono ?_); rintro e w' ⟨rfl, hb⟩)))
      go_wp2_with fail
      go_ret2
      rw [HN.out]
      exact Num2.none_ (by omega) _ ⟨by omega, by omega⟩ (by omega) (by omega) (sDB (by assumption))
theorem date_is {s : ByteArray} {o : Option Int} (h : Lx.dateS s.data.toList = o) (w : World) (hT : LexT w) (hs : s.size ≤ 4000000000) : Calls Tryz.prog 164 #[.string s] w (Num2 1000000 o w) := h ▸ date_any s w hT hs
def offV (c : UInt8) (o : Option Int) : Option Int := match o with
  | some n => if n ≤ 64800 then (if c = 43 then some n else if c = 45 then some (-n) else none) else none
  | none => none
theorem offV_some (c : UInt8) (n : Int) : offV c (some n) = if n ≤ 64800 then (if c = 43 then some n else if c = 45 then some (-n) else none) else none := rfl
theorem num2_open {M : Int} {o : Option Int} {w w' : World} {e : Ending} (h : Num2 M o w e w') : ∃ v : Int, Hid (I64 v ∧ ∀ x, o = some x → v = x) ∧ -M ≤ v ∧ v ≤ M ∧ e = .returned (.tuple #[.int .i64 v, .bool o.isSome]) ∧ Below w.heap.size w w' := by
  obtain ⟨v, a, b, c, d, e, f⟩ := h
  exact ⟨v, Lib.hid ⟨a, d⟩, b, c, e, f⟩
set_option maxHeartbeats 4000000 in
theorem offset_any (s : ByteArray) (w : World) (hT : LexT w) (hs : s.size ≤ 3000000000) :
    Calls Tryz.prog 165 #[.string s] w (Num2 1000000 (Lx.offS s.data.toList) w) := by
  have hz := Lib.size_eq s
  by_cases h6 : s.size = 6
  · have h6' : ((s.size : Int) == 6) = true := by simp; omega
    have h6n : ((s.size : Int) != 6) = false := by simp; omega
    obtain ⟨c, t, hl⟩ : ∃ c t, s.data.toList = c :: t := by
      cases hc : s.data.toList with
      | nil => rw [hc, List.length_nil] at hz; omega
      | cons c t => exact ⟨c, t, rfl⟩
    have htz : t.length = 5 := by rw [hl, List.length_cons] at hz; omega
    obtain ⟨u, hu⟩ : ∃ u, s.extract 1 s.size = u := ⟨_, rfl⟩
    have hul : u.data.toList = t := by
      rw [← hu, ← Lib.toList_data, Lib.extract_toList, hl]
      simp only [List.drop_succ_cons, List.drop_zero]
      exact List.take_of_length_le (by omega)
    have huz : u.size ≤ 3000000000 := by rw [Lib.size_eq, hul]; omega
    obtain ⟨o, ho⟩ : ∃ o, Lx.clockS u.data.toList = o := ⟨_, rfl⟩
    have hex : Lx.offS s.data.toList = offV c o := by
      unfold Lx.offS
      rw [if_pos (by omega), hl]
      simp only [List.drop_succ_cons, List.drop_zero, List.head?_cons, Option.some.injEq]
      rw [← hul, ho]
      rfl
    have HX := Lib.hid hex
    have HO := Lib.hid ho
    have HT := Lib.hid hT
    have hc : s.data.toList[0]? = some c := by rw [hl]; rfl
    have k0 : ∀ w, (Instr.index 9 (.string s) (.int .i64 0)).run Tryz.prog w = .ok (.int .u8 (c.toNat : Int)) w := fun w => str_at hc 9 Tryz.underlying9 w
    have l1 : (1 : Int) ≤ s.size := by omega
    have HS := Lib.hid h6
    clear hz hl htz hul ho hex hT hc h6
    go_enter Tryz.func165, Tryz.ntmps165
    go_wp2_with fail
    refine (clock_is HO.out _ HT.out huz).mono ?_
    intro e w1 hw1
    obtain ⟨v, HV, v1, v2, rfl, b1⟩ := num2_open hw1
    clear hw1
    cases o with
    | none =>
      have HN := Lib.hid (show Lx.offS s.data.toList = none from HX.out)
      simp only [Option.isSome_none]
      clear HX
      go_wp2_with fail
      go_ret2
      rw [HN.out]
      exact Num2.none_ (by omega) 0 ⟨by omega, by omega⟩ (by omega) (by omega) b1
    | some n =>
      obtain rfl : v = n := HV.out.2 n rfl
      simp only [Option.isSome_some]
      by_cases h1 : 64800 < v
      · have HN := Lib.hid (show Lx.offS s.data.toList = none by rw [HX.out, offV_some]; rw [if_neg (by omega)])
        clear HX
        go_wp2_with fail
        go_ret2
        rw [HN.out]
        exact Num2.none_ (by omega) 0 ⟨by omega, by omega⟩ (by omega) (by omega) b1
      · have h1' : decide ((64800 : Int) < v) = false := by simp; omega
        have u0 := wr_ (-v) (by omega)
        by_cases h2 : c = 43
        · have HN := Lib.hid (show Lx.offS s.data.toList = some v by rw [HX.out, offV_some]; rw [if_pos (by omega), if_pos h2])
          subst h2
          clear HX
          go_wp2_with fail
          go_ret2
          rw [HN.out]
          exact Num2.some_ _ ⟨by omega, by omega⟩ (by omega) (by omega) b1
        · have h2' : (((c.toNat : Int)) == 43) = false := by
            simp only [beq_eq_false_iff_ne, ne_eq]
            intro h
            exact h2 (UInt8.toNat_inj.1 (by show c.toNat = 43; omega))
          by_cases h3 : c = 45
          · have HN := Lib.hid (show Lx.offS s.data.toList = some (-v) by rw [HX.out, offV_some]; rw [if_pos (by omega), if_neg h2, if_pos h3])
            subst h3
            clear HX
            go_wp2_with fail
            go_ret2
            rw [HN.out]
            exact Num2.some_ _ ⟨by omega, by omega⟩ (by omega) (by omega) b1
          · have HN := Lib.hid (show Lx.offS s.data.toList = none by rw [HX.out, offV_some]; rw [if_pos (by omega), if_neg h2, if_neg h3])
            have h3' : (((c.toNat : Int)) == 45) = false := by
              simp only [beq_eq_false_iff_ne, ne_eq]
              intro h
              exact h3 (UInt8.toNat_inj.1 (by show c.toNat = 45; omega))
            clear HX h2 h3
            go_wp2_with fail
            go_ret2
            rw [HN.out]
            exact Num2.none_ (by omega) 0 ⟨by omega, by omega⟩ (by omega) (by omega) b1
  · have HN := Lib.hid (show Lx.offS s.data.toList = none by unfold Lx.offS; rw [if_neg (by omega)])
    have h6' : ((s.size : Int) == 6) = false := by simp; omega
    have h6n : ((s.size : Int) != 6) = true := by simp; omega
    clear hz h6
    go_enter Tryz.func165, Tryz.ntmps165
    go_wp2_with fail
    go_ret2
    rw [HN.out]
    exact Num2.none_ (by omega) 0 ⟨by omega, by omega⟩ (by omega) (by omega) (Below.refl _ _)
end Go.Proofs.YtphenbfhojdcpaaGreatDoor
namespace Go.Proofs.YtphenbfhojdcpaaGreatDoor
open Go.RowKit
set_option linter.unusedVariables false
set_option linter.unusedSimpArgs false
set_option maxRecDepth 100000
theorem suffix_is {s : ByteArray} {c : UInt8} {t : List UInt8} {b : Bool} (h : Lib.trimSuffix s.data.toList [c] = t) (h2 : Lib.hasSuffix s.data.toList [c] = b) (w : World) (hs : s.size ≤ 4000000000) :
    Calls Tryz.prog 186 #[.string s, .string ⟨#[c]⟩] w fun e w' => e = .returned (.tuple #[.string ⟨t.toArray⟩, .bool b]) ∧ w = w' :=
  (Tryz.strings_CutSuffix s ⟨#[c]⟩ w (by omega)).mono fun e w' ⟨h1, h3⟩ => ⟨by rw [h1, ← h, ← h2], h3.symm⟩
theorem first_mem {c : UInt8} : ∀ {l : List UInt8}, c ∈ l → ∃ a b, l = a ++ c :: b ∧ c ∉ a
  | [], h => by cases h
  | x :: t, h => by
    by_cases e : c = x
    · subst e; exact ⟨[], t, rfl, by simp⟩
    · have hm : c ∈ t := by simpa [e] using h
      obtain ⟨a, b, hab, hn⟩ := first_mem hm
      exact ⟨x :: a, b, by rw [hab]; rfl, by simp [e, hn]⟩
theorem contains_is {s : ByteArray} {c : UInt8} {b : Bool} (h : decide (c ∈ s.data.toList) = b) (w : World) : Calls Tryz.prog 162 #[.string s, .string ⟨#[c]⟩] w fun e w' => e = .returned (.bool b) ∧ w = w' := by
  refine (Tryz.strings_Contains_one s c w).mono fun e w' ⟨h1, h3⟩ => ⟨?_, h3.symm⟩
  rw [h1, ← h]
  refine ret_bool ?_
  rw [decide_eq_decide]
  have hx : Lib.indexByte s.data.toList c = Lib.index s.data.toList [c] := (Lib.index_one _ _).symm
  rw [hx]
  constructor
  · intro h0
    rcases Decidable.em (c ∈ s.data.toList) with hm | hm
    · exact hm
    · rw [Lx.index_none1 hm] at h0; omega
  · intro hm
    obtain ⟨a, b, hab, hna⟩ := first_mem hm
    rw [hab, Lx.index_at hna]
    omega
theorem cutS_le {l a b : List UInt8} {c : UInt8} {f : Bool} (h : Lib.cut l [c] = (a, b, f)) : a.length ≤ l.length ∧ b.length ≤ l.length := by
  unfold Lib.cut at h
  split at h
  · simp only [Prod.mk.injEq] at h
    obtain ⟨rfl, rfl, rfl⟩ := h
    exact ⟨by simp <;> omega, by simp⟩
  · simp only [Prod.mk.injEq] at h
    obtain ⟨rfl, rfl, rfl⟩ := h
    exact ⟨Nat.le_refl _, Nat.zero_le _⟩
def instV (u : Bool) (o1 o2 : Option Int) : Option Int := match o1, o2 with
  | some d, some n => if u = true ∧ n < 86400 then some (d * 86400 + n) else none
  | _, _ => none
theorem trim_le (l p : List UInt8) : (Lib.trimSuffix l p).length ≤ l.length := by
  unfold Lib.trimSuffix
  split
  · rw [List.length_take]; omega
  · exact Nat.le_refl _
theorem ba_size (l : List UInt8) : (⟨l.toArray⟩ : ByteArray).size = l.length := by simp [ByteArray.size]
set_option maxHeartbeats 4000000 in
theorem instant_any (s : ByteArray) (w : World) (hT : LexT w) (hs : s.size ≤ 3000000000) :
    Calls Tryz.prog 163 #[.string s] w (Num2 1000000000000 (Lx.instS s.data.toList) w) := by
  have hz := Lib.size_eq s
  obtain ⟨t, ht⟩ : ∃ t, Lib.trimSuffix s.data.toList [90] = t := ⟨_, rfl⟩
  obtain ⟨u, hu⟩ : ∃ u, Lib.hasSuffix s.data.toList [90] = u := ⟨_, rfl⟩
  obtain ⟨a, b, f, hc⟩ : ∃ a b f, Lib.cut t [84] = (a, b, f) := ⟨_, _, _, rfl⟩
  have htl : t.length ≤ s.data.toList.length := by rw [← ht]; exact trim_le _ _
  have hcl := cutS_le hc
  obtain ⟨o1, h1⟩ : ∃ o, Lx.dateS a = o := ⟨_, rfl⟩
  obtain ⟨o2, h2⟩ : ∃ o, Lx.fullS b = o := ⟨_, rfl⟩
  have hex : Lx.instS s.data.toList = instV u o1 o2 := by
    unfold Lx.instS
    rw [ht, hc, hu]
    simp only
    rw [h1, h2]
    rfl
  obtain ⟨o, ho⟩ : ∃ o, Lx.instS s.data.toList = o := ⟨_, rfl⟩
  rw [ho] at hex ⊢
  have HX := Lib.hid hex
  have HS := Lib.hid (And.intro ht hu)
  have HC := Lib.hid hc
  have H1 := Lib.hid h1
  have H2 := Lib.hid h2
  have HT := Lib.hid hT
  have z1 : (⟨t.toArray⟩ : ByteArray).size ≤ 4000000000 := by rw [ba_size]; omega
  have z2 : (⟨a.toArray⟩ : ByteArray).size ≤ 4000000000 := by rw [ba_size]; omega
  have z3 : (⟨b.toArray⟩ : ByteArray).size ≤ 4000000000 := by rw [ba_size]; omega
  have HZ := Lib.hid (And.intro z1 (And.intro z2 z3))
  clear hz ht hu hc htl hcl h1 h2 hex ho hT z1 z2 z3
  go_enter Tryz.func163, Tryz.ntmps163
  go_wp2_with fail
  refine (suffix_is HS.out.1 HS.out.2 _ (by omega)).mono ?_
  rintro e w' ⟨rfl, rfl⟩
  go_wp2_with fail
  refine (cut_is (s := ⟨t.toArray⟩) HC.out _ HZ.out.1).mono ?_
  rintro e w' ⟨rfl, q, rfl⟩
  go_wp2_with fail
  refine (date_is (s := ⟨a.toArray⟩) H1.out _ (HT.out.drewN q) HZ.out.2.1).mono ?_
  intro e w2 hw2
  obtain ⟨v, HV, v1, v2, rfl, b2⟩ := num2_open hw2
  clear hw2
  have T2 := Lib.hid ((HT.out.drewN q).below b2)
  have HB2 := Lib.hid (bstep (bdrewN (Below.refl _ _) q) b2)
  clear b2
  go_wp2_with fail
  refine (full_is (s := ⟨b.toArray⟩) H2.out _ T2.out HZ.out.2.2).mono ?_
  intro e w3 hw3
  obtain ⟨n, HN, n1, n2, rfl, b3⟩ := num2_open hw3
  clear hw3
  have HB3 := Lib.hid (bstep HB2.out b3)
  clear b3 HB2 T2
  have u1 := wr_ (v * 86400) (by omega)
  have u2 := wr_ (v * 86400 + n) (by omega)
  cases u with
  | false =>
    have HO : Hid (o = none) := Lib.hid (by rw [HX.out]; cases o1 <;> cases o2 <;> simp [instV])
    clear HX
    go_wp2_with fail
    go_ret2
    rw [HO.out]
    exact Num2.none_ (by omega) _ ⟨by omega, by omega⟩ (by omega) (by omega) HB3.out
  | true =>
    cases o1 with
    | none =>
      have HO : Hid (o = none) := Lib.hid HX.out
      clear HX
      simp only [Option.isSome_none]
      go_wp2_with fail
      go_ret2
      rw [HO.out]
      exact Num2.none_ (by omega) _ ⟨by omega, by omega⟩ (by omega) (by omega) HB3.out
    | some d =>
      obtain rfl : v = d := HV.out.2 d rfl
      cases o2 with
      | none =>
        have HO : Hid (o = none) := Lib.hid HX.out
        clear HX
        simp only [Option.isSome_none, Option.isSome_some]
        go_wp2_with fail
        go_ret2
        rw [HO.out]
        exact Num2.none_ (by omega) _ ⟨by omega, by omega⟩ (by omega) (by omega) HB3.out
      | some m =>
        obtain rfl : n = m := HN.out.2 m rfl
        simp only [Option.isSome_some]
        by_cases hlt : n < 86400
        · have HO : Hid (o = some (v * 86400 + n)) := Lib.hid (by rw [HX.out]; simp [instV, hlt])
          clear HX
          go_wp2_with fail
          go_ret2
          rw [HO.out]
          exact Num2.some_ _ ⟨by omega, by omega⟩ (by omega) (by omega) HB3.out
        · have HO : Hid (o = none) := Lib.hid (by rw [HX.out]; simp [instV, hlt])
          have hlt' : decide (n < (86400 : Int)) = false := by simp; omega
          clear HX
          go_wp2_with fail
          go_ret2
          rw [HO.out]
          exact Num2.none_ (by omega) _ ⟨by omega, by omega⟩ (by omega) (by omega) HB3.out
theorem instant_is {s : ByteArray} {o : Option Int} (h : Lx.instS s.data.toList = o) (w : World) (hT : LexT w) (hs : s.size ≤ 3000000000) : Calls Tryz.prog 163 #[.string s] w (Num2 1000000000000 o w) := h ▸ instant_any s w hT hs
theorem offset_is {s : ByteArray} {o : Option Int} (h : Lx.offS s.data.toList = o) (w : World) (hT : LexT w) (hs : s.size ≤ 3000000000) : Calls Tryz.prog 165 #[.string s] w (Num2 1000000 o w) := h ▸ offset_any s w hT hs
theorem number_is {s : ByteArray} {o : Option Int} (h : Lx.numS s.data.toList = o) (w : World) (hT : LexT w) (hs : s.size ≤ 3000000000) (hd : Lx.alldig s.data.toList = true) : Calls Tryz.prog 160 #[.string s] w (Num2 9223372036854775808 o w) := h ▸ number_any s w hT (by omega) hd
/-- Block b is a token. -/
def TokB (w : World) (b : Nat) (k : Int) (t : ByteArray) (n : Int) : Prop := BlkAt w b #[.int .i64 k, .string t, .int .i64 n] 115
section
variable {w w' : World} {b : Nat} {k n : Int} {t : ByteArray}
theorem TokB.cells (h : TokB w b k t n) : w.cell? ⟨b, 0, none⟩ = some (.int .i64 k) ∧ w.cell? ⟨b, 1, none⟩ = some (.string t) ∧ w.cell? ⟨b, 2, none⟩ = some (.int .i64 n) ∧ w.frozen? ⟨b, 0, none⟩ = false ∧ w.frozen? ⟨b, 1, none⟩ = false ∧ w.frozen? ⟨b, 2, none⟩ = false :=
  ⟨BlkAt.cell h rfl, BlkAt.cell h rfl, BlkAt.cell h rfl, BlkAt.free h 0, BlkAt.free h 1, BlkAt.free h 2⟩
theorem TokB.lt_ (h : TokB w b k t n) : b < w.heap.size := BlkAt.lt_ h
theorem TokB.after (h : TokB w b k t n) (hb : Below w.heap.size w w') : TokB w' b k t n := BlkAt.after h hb
theorem TokB.below {B : Nat} (h : TokB w b k t n) (hb : Below B w w') (hB : b < B) : TokB w' b k t n := BlkAt.below h hb hB
theorem TokB.alloc (h : TokB w b k t n) (o : Obj) : TokB (w.alloc o) b k t n := BlkAt.alloc h o
theorem TokB.new (w : World) (k : Int) (t : ByteArray) (n : Int) : TokB (w.alloc (.cells #[.int .i64 k, .string t, .int .i64 n] 115)) w.heap.size k t n := BlkAt.new w _ _
theorem TokB.new1 (w : World) (o : Obj) (k : Int) (t : ByteArray) (n : Int) : TokB ((w.alloc o).alloc (.cells #[.int .i64 k, .string t, .int .i64 n] 115)) (w.heap.size + 1) k t n := by
  have := BlkAt.new (w.alloc o) #[.int .i64 k, .string t, .int .i64 n] 115
  unfold TokB
  simpa using this
theorem TokB.kind (h : TokB w b k t n) (k' : Int) : TokB (w.setCell ⟨b, 0, none⟩ (.int .i64 k')) b k' t n := BlkAt.set_ h 0 _
theorem TokB.text (h : TokB w b k t n) (t' : ByteArray) : TokB (w.setCell ⟨b, 1, none⟩ (.string t')) b k t' n := BlkAt.set_ h 1 _
theorem TokB.num (h : TokB w b k t n) (n' : Int) : TokB (w.setCell ⟨b, 2, none⟩ (.int .i64 n')) b k t n' := BlkAt.set_ h 2 _
theorem TokB.other (h : TokB w b k t n) {g i : Nat} (hne : g ≠ b) (v : Value) : TokB (w.setCell ⟨g, i, none⟩ v) b k t n := BlkAt.other h hne v
end
end Go.Proofs.YtphenbfhojdcpaaGreatDoor
