/- The laws of layer 7: the examples of the chapter. -/
import Derived.Test.YtoohijffkbkikaaGreatDoorYl
namespace Go.Proofs.YtoohijffkbkikaaGreatDoor
open Go.RowKit
set_option linter.unusedVariables false
set_option linter.unusedSimpArgs false
set_option maxRecDepth 100000

def saneT : List Lx.Tk := [(0, [122, 111, 110, 101], 0), (0, [122], 0), (4, [], 3600)]
theorem sn1 : Sy.parS 0 (Sy.spl [] [35, 32, 120, 10, 122, 111, 110, 101, 32, 122, 32, 43, 48, 49, 58, 48, 48]) = (0, 0, [(2, saneT)]) := by kernel_rfl
theorem sn2 : Sy.posS [109, 97, 114] Sy.monthsL 1 = (3, true) := by kernel_rfl
theorem sn3 : Sy.posS [115, 117, 110] Sy.daysL 0 = (6, true) := by kernel_rfl
theorem sn4 : Sy.formS saneT = true := by kernel_rfl
theorem sn5 : Sy.formS (saneT.take 1) = false := by kernel_rfl
set_option maxHeartbeats 8000000 in
theorem sane_any (w : World) (hT : LexT w) : Calls Tryz.prog 7 #[] w fun e w' => e = .returned (.bool true) ∧ Below w.heap.size w w' := by
  have HT := Lib.hid hT
  have C1 := Lib.hid (parse_is (s := ⟨#[35, 32, 120, 10, 122, 111, 110, 101, 32, 122, 32, 43, 48, 49, 58, 48, 48]⟩) sn1 (by decide) w hT)
  have C2 := Lib.hid (fun w hT => month_is sn2 w hT)
  have C3 := Lib.hid (fun w hT => weekday_is sn3 w hT)
  have H4 := Lib.hid sn4
  have H5 := Lib.hid sn5
  clear hT
  go_enter Tryz.func7, Tryz.ntmps7
  go_wp2_with fail
  refine C1.out.mono ?_
  rintro e w1 ⟨A, c, rfl, hs, hc, b1⟩
  have HS1 := Lib.hid hs
  have B1 := Lib.hid b1
  have T1 := Lib.hid (HT.out.below b1)
  have hc1 : 1 ≤ c := hc
  clear hs b1 C1 hc
  go_wp2_with fail
  refine (C2.out _ T1.out).mono ?_
  rintro e w2 ⟨rfl, b2⟩
  have HS2 := Lib.hid (HS1.out.below b2)
  have B2 := Lib.hid (bstep B1.out b2)
  have T2 := Lib.hid (T1.out.below b2)
  clear b2 HS1 B1 T1
  go_wp2_with fail
  refine (C3.out _ T2.out).mono ?_
  rintro e w3 ⟨rfl, b3⟩
  have HS3 := Lib.hid (HS2.out.below b3)
  have B3 := Lib.hid (bstep B2.out b3)
  clear b3 HS2 B2 T2
  obtain ⟨b, off, T, ct, rfl, hb, c0, c1, hct, h6, hl⟩ := HS3.out.get (k := 0) (s := (2, saneT)) rfl
  simp only [Nat.zero_mul, Nat.add_zero] at c0 c1 hct
  obtain ⟨bt, ot, y, r, rfl, hts, hbt, _, _⟩ := list_cons hl (by decide)
  have HL := Lib.hid hl
  have hct3 : 3 ≤ ct := hct
  have hct1 : (1 : Int) ≤ ct := by omega
  have e3 : saneT.length = 3 := rfl
  rw [e3] at c1
  clear hl hct hts
  go_wp2_with fail
  refine (form_is H4.out _ 3 ct _ HL.out rfl hct3 (by decide)).mono ?_
  rintro e w4 ⟨rfl, b4⟩
  have d0 := cell_lift c0 b4
  have d1 := cell_lift c1 b4
  have B4 := Lib.hid (bstep B3.out b4)
  have L4 := Lib.hid (show ListAt 3 eTok w4 (some ⟨bt, ot, none⟩) (saneT.take 1) by have := (HL.out.below b4).sub 0 1; simpa using this)
  have hz4 := b4.size
  clear c0 c1 b4
  go_wp2_with fail
  refine (form_is H5.out _ 1 ct _ L4.out rfl (by omega) (by decide)).mono ?_
  rintro e w5 ⟨rfl, b5⟩
  have B5 := bstep B4.out b5
  go_wp2_with fail
  go_ret
  exact ⟨rfl, B5⟩
end Go.Proofs.YtoohijffkbkikaaGreatDoor
