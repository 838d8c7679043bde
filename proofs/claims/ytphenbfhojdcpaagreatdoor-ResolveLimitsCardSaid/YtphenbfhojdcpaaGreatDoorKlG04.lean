/- What fields of package lexer returns: the walk. What fullClock, clock, date and offset of package lexer return. -/
import Derived.Test.YtphenbfhojdcpaaGreatDoorKlG03
namespace Go.Proofs.YtphenbfhojdcpaaGreatDoor
open Go.RowKit
set_option linter.unusedVariables false
set_option linter.unusedSimpArgs false
set_option maxRecDepth 100000
def LQ (w : World) (bp bn : Nat) (p0 p1 p2 : ByteArray) (i j k v0 v1 v2 : Nat) (q : Nat) (wr : World) : Prop :=
  Parts3 wr bp p0 p1 p2 ∧ Below w.heap.size w wr ∧ BlkAt wr bn #[.int .i64 ((if 0 < q then v0 else 0 : Nat) : Int), .int .i64 ((if 1 < q then v1 else 0 : Nat) : Int), .int .i64 ((if 2 < q then v2 else 0 : Nat) : Int)] 3 ∧ (0 < q → okP p0 i) ∧ (1 < q → okP p1 j) ∧ (2 < q → okP p2 k)
theorem below_set {w wr : World} {b i : Nat} (h : Below w.heap.size w wr) (hb : w.heap.size ≤ b) (v : Value) : Below w.heap.size w (wr.setCell ⟨b, i, none⟩ v) := h.setCell (p := ⟨b, i, none⟩) hb v
set_option maxHeartbeats 8000000 in
theorem fields_any (s : ByteArray) (c : UInt8) (i j k : Nat) (bw : Nat) (w : World) (hT : LexT w) (hs : s.size ≤ 4000000000) (hW : BlkAt w bw #[.int .i64 i, .int .i64 j, .int .i64 k] 3)
    (hi : 1 ≤ i ∧ i ≤ 9) (hj : 1 ≤ j ∧ j ≤ 9) (hk : 1 ≤ k ∧ k ≤ 9) :
    Calls Tryz.prog 187 #[.string s, .string ⟨#[c]⟩, .slice (some ⟨bw, 0, none⟩) 3 3] w (Fld (Lx.fieldsS c [i, j, k] s.data.toList) w) := by
  obtain ⟨o, ho⟩ : ∃ o, Lx.fieldsS c [i, j, k] s.data.toList = o := ⟨_, rfl⟩
  rw [ho]
  have HO := Lib.hid ho
  have HW := Lib.hid hW
  have HT := Lib.hid hT
  have hbw := hW.lt_
  clear ho hW hT
  go_enter Tryz.func187, Tryz.ntmps187
  go_wp2_with fail
  refine (split_any s c _ hs).mono ?_
  rintro e w1 ⟨P, N, hP, hl4, hlN, hN4, rfl, hpa, hlt, b1⟩
  by_cases h3 : P.length = 3
  · match P, hP, h3, hpa with
    | [p0, p1, p2], hP, _, hpa =>
      have HP := Lib.hid hP
      have hp3 : Parts3 w1 w.heap.size p0 p1 p2 := ⟨hpa 0 p0 rfl, hpa 1 p1 rfl, hpa 2 p2 rfl⟩
      have hmk := make3
      clear hP hpa hlN
      simp only [List.length_cons, List.length_nil, Nat.reduceAdd]
      go_wp2_with fail
      obtain ⟨bp, hbp⟩ : ∃ b, w.heap.size = b := ⟨_, rfl⟩
      obtain ⟨bn, hbn⟩ : ∃ b, w1.heap.size = b := ⟨_, rfl⟩
      have hpn : bp < bn := by omega
      have HB0 := Lib.hid (show w.heap.size ≤ bp by omega)
      have hq : Hid (LQ w bp bn p0 p1 p2 i j k (Lx.val p0.data.toList) (Lx.val p1.data.toList) (Lx.val p2.data.toList) 0 (w1.alloc (.cells #[.int .i64 0, .int .i64 0, .int .i64 0] 3))) := by
        refine Lib.hid ⟨?_, b1.alloc (by omega) _, ?_, fun h => absurd h (by decide), fun h => absurd h (by decide), fun h => absurd h (by decide)⟩
        · rw [← hbp]; exact hp3.below ((Below.refl _ _).alloc (Nat.le_refl _) _)
        · rw [← hbn]; exact BlkAt.new w1 _ _
      have hwn : bw < bp := by omega
      rw [hbp, hbn]
      rw [hbp] at hbw hlt b1 hp3
      clear hbp hbn hp3 b1 hlt hmk hbw
      go_loopw [28] (fun ix wr => ∃ q : Nat, q ≤ 3 ∧ ix = .int .i64 q ∧ Hid (LQ w bp bn p0 p1 p2 i j k (Lx.val p0.data.toList) (Lx.val p1.data.toList) (Lx.val p2.data.toList) q wr)) (fun ix _ => 3 - (intOf ix).toNat)
      case atStart => exact ⟨0, by omega, rfl, hq⟩
      case round =>
        clear hq
        obtain ⟨q, hq3, rfl, HQ⟩ := hrel
        have hcases : q = 0 ∨ q = 1 ∨ q = 2 ∨ q = 3 := by omega
        rcases hcases with rfl | rfl | rfl | rfl
        · have H := HQ.out
          have hc : wr.cell? ⟨bp, 0, none⟩ = some (.string p0) := H.1.1
          have hw0 : wr.cell? ⟨bw, 0, none⟩ = some (.int .i64 i) := ((HW.out).below H.2.1 (by have := HB0.out; have := HW.out.lt_; omega)).cell rfl
          have hsz : bp < wr.heap.size := World.block_lt_of_cell? _ _ hc
          rcases okP_cases p0 i hi.2 hi.1 with ⟨ok, z, ld, ha, vb⟩ | ⟨nok, hz | ⟨hz, hl⟩⟩
          · have HA := Lib.hid ha
            have hpz : p0.size ≤ 4000000000 := by omega
            have OK := Lib.hid ok
            have Z := Lib.hid z
            have LD := Lib.hid ld
            have hsn : bn < wr.heap.size := H.2.2.1.lt_
            have HH := Lib.hid H
            clear ha ok z ld H HQ
            have z := Z.out
            go_wp2_with fail
            refine (lead_any p0 _).mono ?_
            rw [LD.out]
            rintro e wa ⟨rfl, ba⟩
            go_wp2_with fail
            refine (atoi_ok HA.out _ hpz).mono ?_
            rintro e wb ⟨rfl, bb⟩
            have HK := HH.out
            have B2 := bstep (bstep HK.2.1 ba) bb
            have P2 := (HK.1.below ba).below bb
            have N2 := (HK.2.2.1.after ba).after bb
            have hcb : wb.cell? ⟨bn, 0, none⟩ = some (.int .i64 0) := N2.cell rfl
            have hfb := N2.free 0
            have R := Lib.hid (show LQ w bp bn p0 p1 p2 i j k (Lx.val p0.data.toList) (Lx.val p1.data.toList) (Lx.val p2.data.toList) 1 (wb.setCell ⟨bn, 0, none⟩ (.int .i64 (Lx.val p0.data.toList : Int))) from
              ⟨P2.set_ (by omega), below_set B2 (by have := HB0.out; omega) _, N2.set_ 0 _, fun _ => OK.out, fun h => absurd h (by decide), fun h => absurd h (by decide)⟩)
            clear HK B2 P2 N2
            go_wp2_with fail
            go_roundw
            case rel => exact ⟨1, by omega, by go_num, R⟩
            case measure => simp [intOf]
          · have h1 : ((p0.size : Int) != i) = true := by simp only [bne, hz]; rfl
            have HN := Lib.hid (show o = none by rw [← HO.out]; exact fld_none HP.out (fun h => nok h.1))
            have HB := Lib.hid H.2.1
            clear H HQ nok
            go_wp2_with fail
            go_ret2
            exact Fld.no HN.out HB.out
          · have HN := Lib.hid (show o = none by rw [← HO.out]; exact fld_none HP.out (fun h => nok h.1))
            have HB := Lib.hid H.2.1
            obtain ⟨ld, hld⟩ : ∃ ld, Lx.lead p0.data.toList = ld := ⟨_, rfl⟩
            rw [hld] at hl
            have LD := Lib.hid hld
            have h2 : ((ld : Int) != i) = true := by simp only [bne, hl]; rfl
            clear H HQ nok hld
            go_wp2_with fail
            refine (lead_is LD.out _).mono ?_
            rintro e wa ⟨rfl, ba⟩
            go_wp2_with fail
            go_ret2
            exact Fld.no HN.out (bstep HB.out ba)
        · have H := HQ.out
          have hc : wr.cell? ⟨bp, 1, none⟩ = some (.string p1) := H.1.2.1
          have hw0 : wr.cell? ⟨bw, 1, none⟩ = some (.int .i64 j) := ((HW.out).below H.2.1 (by have := HB0.out; have := HW.out.lt_; omega)).cell rfl
          have hsz : bp < wr.heap.size := World.block_lt_of_cell? _ _ hc
          rcases okP_cases p1 j hj.2 hj.1 with ⟨ok, z, ld, ha, vb⟩ | ⟨nok, hz | ⟨hz, hl⟩⟩
          · have HA := Lib.hid ha
            have hpz : p1.size ≤ 4000000000 := by omega
            have OK := Lib.hid ok
            have Z := Lib.hid z
            have LD := Lib.hid ld
            have hsn : bn < wr.heap.size := H.2.2.1.lt_
            have HH := Lib.hid H
            clear ha ok z ld H HQ
            have z := Z.out
            go_wp2_with fail
            refine (lead_any p1 _).mono ?_
            rw [LD.out]
            rintro e wa ⟨rfl, ba⟩
            go_wp2_with fail
            refine (atoi_ok HA.out _ hpz).mono ?_
            rintro e wb ⟨rfl, bb⟩
            have HK := HH.out
            have B2 := bstep (bstep HK.2.1 ba) bb
            have P2 := (HK.1.below ba).below bb
            have N2 := (HK.2.2.1.after ba).after bb
            have hcb : wb.cell? ⟨bn, 1, none⟩ = some (.int .i64 0) := N2.cell rfl
            have hfb := N2.free 1
            have R := Lib.hid (show LQ w bp bn p0 p1 p2 i j k (Lx.val p0.data.toList) (Lx.val p1.data.toList) (Lx.val p2.data.toList) 2 (wb.setCell ⟨bn, 1, none⟩ (.int .i64 (Lx.val p1.data.toList : Int))) from
              ⟨P2.set_ (by omega), below_set B2 (by have := HB0.out; omega) _, N2.set_ 1 _, fun _ => HK.2.2.2.1 (by decide), fun _ => OK.out, fun h => absurd h (by decide)⟩)
            clear HK B2 P2 N2
            go_wp2_with fail
            go_roundw
            case rel => exact ⟨2, by omega, by go_num, R⟩
            case measure => simp [intOf]
          · have h1 : ((p1.size : Int) != j) = true := by simp only [bne, hz]; rfl
            have HN := Lib.hid (show o = none by rw [← HO.out]; exact fld_none HP.out (fun h => nok h.2.1))
            have HB := Lib.hid H.2.1
            clear H HQ nok
            go_wp2_with fail
            go_ret2
            exact Fld.no HN.out HB.out
          · have HN := Lib.hid (show o = none by rw [← HO.out]; exact fld_none HP.out (fun h => nok h.2.1))
            have HB := Lib.hid H.2.1
            obtain ⟨ld, hld⟩ : ∃ ld, Lx.lead p1.data.toList = ld := ⟨_, rfl⟩
            rw [hld] at hl
            have LD := Lib.hid hld
            have h2 : ((ld : Int) != j) = true := by simp only [bne, hl]; rfl
            clear H HQ nok hld
            go_wp2_with fail
            refine (lead_is LD.out _).mono ?_
            rintro e wa ⟨rfl, ba⟩
            go_wp2_with fail
            go_ret2
            exact Fld.no HN.out (bstep HB.out ba)
        · have H := HQ.out
          have hc : wr.cell? ⟨bp, 2, none⟩ = some (.string p2) := H.1.2.2
          have hw0 : wr.cell? ⟨bw, 2, none⟩ = some (.int .i64 k) := ((HW.out).below H.2.1 (by have := HB0.out; have := HW.out.lt_; omega)).cell rfl
          have hsz : bp < wr.heap.size := World.block_lt_of_cell? _ _ hc
          rcases okP_cases p2 k hk.2 hk.1 with ⟨ok, z, ld, ha, vb⟩ | ⟨nok, hz | ⟨hz, hl⟩⟩
          · have HA := Lib.hid ha
            have hpz : p2.size ≤ 4000000000 := by omega
            have OK := Lib.hid ok
            have Z := Lib.hid z
            have LD := Lib.hid ld
            have hsn : bn < wr.heap.size := H.2.2.1.lt_
            have HH := Lib.hid H
            clear ha ok z ld H HQ
            have z := Z.out
            go_wp2_with fail
            refine (lead_any p2 _).mono ?_
            rw [LD.out]
            rintro e wa ⟨rfl, ba⟩
            go_wp2_with fail
            refine (atoi_ok HA.out _ hpz).mono ?_
            rintro e wb ⟨rfl, bb⟩
            have HK := HH.out
            have B2 := bstep (bstep HK.2.1 ba) bb
            have P2 := (HK.1.below ba).below bb
            have N2 := (HK.2.2.1.after ba).after bb
            have hcb : wb.cell? ⟨bn, 2, none⟩ = some (.int .i64 0) := N2.cell rfl
            have hfb := N2.free 2
            have R := Lib.hid (show LQ w bp bn p0 p1 p2 i j k (Lx.val p0.data.toList) (Lx.val p1.data.toList) (Lx.val p2.data.toList) 3 (wb.setCell ⟨bn, 2, none⟩ (.int .i64 (Lx.val p2.data.toList : Int))) from
              ⟨P2.set_ (by omega), below_set B2 (by have := HB0.out; omega) _, N2.set_ 2 _, fun _ => HK.2.2.2.1 (by decide), fun _ => HK.2.2.2.2.1 (by decide), fun _ => OK.out⟩)
            clear HK B2 P2 N2
            go_wp2_with fail
            go_roundw
            case rel => exact ⟨3, by omega, by go_num, R⟩
            case measure => simp [intOf]
          · have h1 : ((p2.size : Int) != k) = true := by simp only [bne, hz]; rfl
            have HN := Lib.hid (show o = none by rw [← HO.out]; exact fld_none HP.out (fun h => nok h.2.2))
            have HB := Lib.hid H.2.1
            clear H HQ nok
            go_wp2_with fail
            go_ret2
            exact Fld.no HN.out HB.out
          · have HN := Lib.hid (show o = none by rw [← HO.out]; exact fld_none HP.out (fun h => nok h.2.2))
            have HB := Lib.hid H.2.1
            obtain ⟨ld, hld⟩ : ∃ ld, Lx.lead p2.data.toList = ld := ⟨_, rfl⟩
            rw [hld] at hl
            have LD := Lib.hid hld
            have h2 : ((ld : Int) != k) = true := by simp only [bne, hl]; rfl
            clear H HQ nok hld
            go_wp2_with fail
            refine (lead_is LD.out _).mono ?_
            rintro e wa ⟨rfl, ba⟩
            go_wp2_with fail
            go_ret2
            exact Fld.no HN.out (bstep HB.out ba)
        · have HK := Lib.hid HQ.out
          clear HQ
          go_wp2_with fail
          go_ret2
          exact .inr ⟨_, _, _, bn, HO.out.symm.trans (fld_some HP.out (HK.out.2.2.2.1 (by decide)) (HK.out.2.2.2.2.1 (by decide)) (HK.out.2.2.2.2.2 (by decide))), rfl, HK.out.2.2.1, HK.out.2.1⟩
  · have h3' : ((P.length : Int) == 3) = false := by simp; omega
    have h3'' : ((P.length : Int) != 3) = true := by simp; omega
    have HN := Lib.hid (show o = none by
      rw [← HO.out]
      unfold Lx.fieldsS
      rw [if_neg]
      rintro ⟨h1, _⟩
      rw [← hP] at h1
      have := congrArg List.length h1
      simp at this
      exact h3 this)
    have HB := Lib.hid b1
    clear hP hpa h3 b1
    go_wp2_with fail
    go_ret2
    exact Fld.no HN.out HB.out
end Go.Proofs.YtphenbfhojdcpaaGreatDoor
namespace Go.Proofs.YtphenbfhojdcpaaGreatDoor
open Go.RowKit
set_option linter.unusedVariables false
set_option linter.unusedSimpArgs false
set_option maxRecDepth 100000
theorem Num2.none_ {M : Int} {w w' : World} (hM : 0 ≤ M) (v : Int) (hi : I64 v) (h1 : -M ≤ v) (h2 : v ≤ M) (hb : Below w.heap.size w w') : Num2 M none w (.returned (.tuple #[.int .i64 v, .bool false])) w' := ⟨v, hi, h1, h2, (by rintro x ⟨⟩), rfl, hb⟩
theorem Num2.some_ {M : Int} {w w' : World} (v : Int) (hi : I64 v) (h1 : -M ≤ v) (h2 : v ≤ M) (hb : Below w.heap.size w w') : Num2 M (some v) w (.returned (.tuple #[.int .i64 v, .bool true])) w' := ⟨v, hi, h1, h2, (by rintro x ⟨⟩; rfl), rfl, hb⟩
theorem wr_ (x : Int) (h : -9223372036854775808 ≤ x ∧ x ≤ 9223372036854775807) : IntKind.i64.wrap x = x := IntWalk.i64_in x h
set_option maxHeartbeats 4000000 in
theorem full_any (s : ByteArray) (w : World) (hT : LexT w) (hs : s.size ≤ 4000000000) :
    Calls Tryz.prog 185 #[.string s] w (Num2 1000000 (Lx.fullS s.data.toList) w) := by
  obtain ⟨o, ho⟩ : ∃ o, Lx.fullS s.data.toList = o := ⟨_, rfl⟩
  rw [ho]
  have T0 := hT.alloc (.cells #[.int .i64 2, .int .i64 2, .int .i64 2] 3)
  have W0 := BlkAt.new w #[.int .i64 2, .int .i64 2, .int .i64 2] 3
  have B0 : Below w.heap.size w (w.alloc (.cells #[.int .i64 2, .int .i64 2, .int .i64 2] 3)) := (Below.refl _ _).alloc (Nat.le_refl _) _
  have HO := Lib.hid ho
  clear ho
  go_enter Tryz.func185, Tryz.ntmps185
  go_wp2_with fail
  refine (fields_any s 58 2 2 2 w.heap.size _ T0 hs W0 (by decide) (by decide) (by decide)).mono ?_
  rintro e w1 (⟨hn, rfl, b1⟩ | ⟨a, b, d, bl, hsm, rfl, R1, b1⟩)
  · have HN := Lib.hid (show o = none by rw [← HO.out]; unfold Lx.fullS; rw [hn])
    have HB := Lib.hid (bstep B0 b1)
    clear hn b1 B0 T0 W0
    go_wp2_with fail
    go_ret2
    rw [HN.out]
    exact Num2.none_ (by omega) 0 ⟨by omega, by omega⟩ (by omega) (by omega) HB.out
  · have hbd := Lx.fields_three hsm
    obtain ⟨a', b', d', he, ha, hb, hd⟩ := hbd
    cases he
    have hex : Lx.fullS s.data.toList = (if b < 60 ∧ d < 60 ∧ a * 3600 + b * 60 + d ≤ 86400 then some ((a * 3600 + b * 60 + d : Nat) : Int) else none) := by unfold Lx.fullS; rw [hsm]
    rw [HO.out] at hex
    have HX := Lib.hid hex
    have HB := Lib.hid (bstep B0 b1)
    have c0 := R1.cell (i := 0) rfl
    have c1 := R1.cell (i := 1) rfl
    have c2 := R1.cell (i := 2) rfl
    clear hsm b1 B0 T0 W0 hex HO
    obtain ⟨A, hA⟩ : ∃ A : Int, (a : Int) = A := ⟨_, rfl⟩
    obtain ⟨B, hB⟩ : ∃ B : Int, (b : Int) = B := ⟨_, rfl⟩
    obtain ⟨D, hD⟩ : ∃ D : Int, (d : Int) = D := ⟨_, rfl⟩
    rw [hA] at c0
    rw [hB] at c1
    rw [hD] at c2
    have aA : 0 ≤ A ∧ A < 100 := by omega
    have aB : 0 ≤ B ∧ B < 100 := by omega
    have aD : 0 ≤ D ∧ D < 100 := by omega
    have HE := Lib.hid (And.intro hA (And.intro hB hD))
    clear hA hB hD ha hb hd
    by_cases h1 : 60 ≤ B
    · have HN := Lib.hid (show o = none by rw [HX.out, if_neg (by have := HE.out; omega)])
      go_wp2_with fail
      go_ret2
      rw [HN.out]
      exact Num2.none_ (by omega) 0 ⟨by omega, by omega⟩ (by omega) (by omega) HB.out
    · have h1' : decide ((60 : Int) ≤ B) = false := by simp; omega
      by_cases h2 : 60 ≤ D
      · have HN := Lib.hid (show o = none by rw [HX.out, if_neg (by have := HE.out; omega)])
        go_wp2_with fail
        go_ret2
        rw [HN.out]
        exact Num2.none_ (by omega) 0 ⟨by omega, by omega⟩ (by omega) (by omega) HB.out
      · have h2' : decide ((60 : Int) ≤ D) = false := by simp; omega
        have u1 := wr_ (A * 3600) (by omega)
        have u2 := wr_ (B * 60) (by omega)
        have u3 := wr_ (A * 3600 + B * 60) (by omega)
        have u4 := wr_ (A * 3600 + B * 60 + D) (by omega)
        by_cases h3 : A * 3600 + B * 60 + D ≤ 86400
        · have HN := Lib.hid (show o = some (A * 3600 + B * 60 + D) by
            rw [HX.out, if_pos (by have := HE.out; omega)]
            have := HE.out
            congr 1
            omega)
          clear HX HE
          go_wp2_with fail
          go_quiet (fail)
          go_wp2_with fail
          go_ret2
          rw [HN.out]
          exact Num2.some_ _ ⟨by omega, by omega⟩ (by omega) (by omega) (bdrewN HB.out _)
        · have HN := Lib.hid (show o = none by rw [HX.out, if_neg (by have := HE.out; omega)])
          have h3' : decide (A * 3600 + B * 60 + D ≤ 86400) = false := by simp; omega
          clear HX HE
          go_wp2_with fail
          go_quiet (fail)
          go_wp2_with fail
          go_ret2
          rw [HN.out]
          exact Num2.none_ (by omega) _ ⟨by omega, by omega⟩ (by omega) (by omega) (bdrewN HB.out _)
end Go.Proofs.YtphenbfhojdcpaaGreatDoor
