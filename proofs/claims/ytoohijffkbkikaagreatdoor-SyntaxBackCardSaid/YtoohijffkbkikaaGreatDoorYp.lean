/- The reference of layer 7: Parse at a text of one line. -/
import Derived.Test.YtoohijffkbkikaaGreatDoorYq
import Derived.Test.YtoohijffkbkikaaGreatDoorYs
namespace Go.Proofs.YtoohijffkbkikaaGreatDoor
open Go.RowKit
set_option linter.unusedVariables false
set_option linter.unusedSimpArgs false
set_option maxRecDepth 100000

theorem ext_all (s : ByteArray) (n : Nat) (h : s.size = n) : s.extract 0 n = s := by
  have e : (s.extract 0 n).data.toList = s.data.toList := by
    rw [ext_list]
    simp only [List.drop_zero, Nat.sub_zero]
    exact List.take_of_length_le (by rw [← Lib.size_eq]; omega)
  rw [← Lib.mk_data (s.extract 0 n), e, Lib.mk_data]
theorem par7_nil : S7.par7 [] = 0 := by kernel_rfl
theorem par7_none {x : List UInt8} (h : L6.line6S x = none) : S7.par7 x = 2 := by unfold S7.par7; rw [h]
theorem par7_some {x : List UInt8} {ts : List Lx.Tk} (h : L6.line6S x = some ts) : S7.par7 x = if ts ≠ [] ∧ S7.form7 ts = false then 2 else 0 := by unfold S7.par7; rw [h]
set_option maxHeartbeats 8000000 in
theorem par7_is (s : ByteArray) (w : World) (hs : s.size ≤ 512) (h10 : (10 : UInt8) ∉ s.data.toList) :
    Calls Tryz.prog 11 #[.string s] w fun e w' => (∃ S l, e = .returned (.tuple #[S, l, .int .i64 (S7.par7 s.data.toList)])) ∧ Below w.heap.size w w' := by
  have h65 : decide ((65536 : Int) < s.size) = false := by simp; omega
  obtain ⟨n, hn⟩ : ∃ n, s.size = n := ⟨_, rfl⟩
  have hl : s.data.toList.length = n := by rw [← hn, Lib.size_eq]
  have HL := Lib.hid hl
  have H10 := Lib.hid h10
  have hn2 : n ≤ 512 := by omega
  obtain ⟨P, hP⟩ : ∃ P, S7.par7 s.data.toList = P := ⟨_, rfl⟩
  rw [hP]
  have HP := Lib.hid hP
  have HX := Lib.hid (ext_all s n hn)
  have hsz : s.size ≤ 512 := hs
  clear hl h10 hP hs
  go_enter Tryz.func11, Tryz.ntmps11
  go_wp2_with fail
  go_loopw [5, 6, 7, 8] (fun o f l i wr => (∃ k : Nat, k ≤ n ∧ i = .int .i64 k ∧ f = .int .i64 0 ∧ l = .int .i64 0 ∧ o = .slice none 0 0 ∧ w = wr) ∨ (i = .int .i64 ((n : Int) + 1) ∧ Hid (P = 0) ∧ Hid (Below w.heap.size w wr))) (fun _ _ _ i _ => n + 2 - (intOf i).toNat)
  case atStart => exact .inl ⟨0, Nat.zero_le _, rfl, rfl, rfl, rfl, rfl⟩
  case round =>
    rcases hrel with ⟨k, hk, rfl, rfl, rfl, rfl, rfl⟩ | ⟨rfl, HP0, HB⟩
    · have t0 : decide ((k : Int) ≤ n) = true := by simp; omega
      by_cases hlt : k < n
      · obtain ⟨c, hc⟩ : ∃ c, s.data.toList[k]? = some c := ⟨_, List.getElem?_eq_getElem (by rw [HL.out]; exact hlt)⟩
        have k0 : ∀ w, (Instr.index 9 (.string s) (.int .i64 (k : Int))).run Tryz.prog w = .ok (.int .u8 (c.toNat : Int)) w := fun w => str_at hc 9 Tryz.underlying9 w
        have hne : ((c.toNat : Int) != 10) = true := by
          simp only [bne_iff_ne, ne_eq]
          intro h
          have e : c = 10 := UInt8.toNat_inj.1 (by show c.toNat = 10; omega)
          exact H10.out (e ▸ List.mem_of_getElem? hc)
        have hne2 : ((c.toNat : Int) == 10) = false := by simpa using hne
        have t1 : decide ((k : Int) < n) = true := by simp; omega
        clear hc
        go_wp2_with fail
        go_roundw
        case rel => exact .inl ⟨k + 1, by omega, by go_num, rfl, rfl, rfl, by first | rfl | trivial⟩
        case measure => simp [intOf]; omega
      · have hkn : k = n := by omega
        subst hkn
        have t1 : decide ((k : Int) < k) = false := by simp
        by_cases h0 : k = 0
        · subst h0
          have hs0 : s.data.toList = [] := List.eq_nil_of_length_eq_zero HL.out
          have N := Lib.hid (show P = 0 by rw [← HP.out, hs0]; exact par7_nil)
          go_wp2_with fail
          go_roundw
          case rel => exact .inr ⟨by go_num, N, Lib.hid (Below.refl _ _)⟩
          case measure => simp [intOf]
        · have t2 : ((0 : Int) == k) = false := by simp; omega
          have x1 := HX.out
          have s1 : (0 : Int) ≤ (k : Int) := by omega
          have C := Lib.hid (line6_any s w hsz)
          obtain ⟨o, ho⟩ : ∃ o, L6.line6S s.data.toList = o := ⟨_, rfl⟩
          rw [ho] at C
          cases o with
          | none =>
            have N := Lib.hid (show P = 2 by rw [← HP.out]; exact par7_none ho)
            clear ho
            go_wp2_with fail
            refine C.out.mono ?_
            rintro e w' (⟨_, rfl, hb⟩ | ⟨ts', A, c, hh, _⟩)
            · go_wp2_with fail
              go_ret3
              rw [N.out]
              exact ⟨⟨_, _, rfl⟩, hb⟩
            · cases hh
          | some ts =>
            have hp := par7_some ho
            rw [HP.out] at hp
            obtain ⟨m, hm⟩ : ∃ m, ts.length = m := ⟨_, rfl⟩
            have HM := Lib.hid hm
            by_cases hts : ts = []
            · have hm0 : m = 0 := by rw [← hm, hts]; rfl
              subst hm0
              have N := Lib.hid (show P = 0 by rw [hp, if_neg (fun h => h.1 hts)])
              clear ho hp hm hts
              go_wp2_with fail
              refine C.out.mono ?_
              rintro e w' (⟨hh, _⟩ | ⟨ts', A, c, hh, rfl, hl, h6, hb, hc, hf⟩)
              · cases hh
              · cases hh
                have HB := Lib.hid hb
                rw [HM.out]
                clear hl hf hb
                go_wp2_with fail
                go_roundw
                case rel => exact .inr ⟨by go_num, N, HB⟩
                case measure => simp [intOf]
            · have hm0 : 0 < m := by rw [← hm]; exact List.length_pos_iff.2 hts
              have g0 : ((m : Int) == 0) = false := by simp; omega
              cases hr : S7.form7 ts with
              | false =>
                have N := Lib.hid (show P = 2 by rw [hp, if_pos ⟨hts, hr⟩])
                have HR := Lib.hid hr
                clear ho hp hm hts hr
                go_wp2_with fail
                refine C.out.mono ?_
                rintro e w' (⟨hh, _⟩ | ⟨ts', A, c, hh, rfl, hl, h6, hb, hc, hf⟩)
                · cases hh
                · cases hh
                  have HLL := Lib.hid hl
                  rw [HM.out] at h6 hc ⊢
                  clear hl hf
                  go_wp2_with fail
                  refine (form7_is HR.out A m c _ HLL.out HM.out hc (by omega)).mono ?_
                  rintro e w2 ⟨rfl, b2⟩
                  have B2 := bstep hb b2
                  go_wp2_with fail
                  go_ret3
                  rw [N.out]
                  exact ⟨⟨_, _, rfl⟩, B2⟩
              | true =>
                have N := Lib.hid (show P = 0 by rw [hp, if_neg (fun h => by rw [hr] at h; cases h.2)])
                have HR := Lib.hid hr
                clear ho hp hm hts hr
                go_wp2_with fail
                refine C.out.mono ?_
                rintro e w' (⟨hh, _⟩ | ⟨ts', A, c, hh, rfl, hl, h6, hb, hc, hf⟩)
                · cases hh
                · cases hh
                  have HLL := Lib.hid hl
                  rw [HM.out] at h6 hc ⊢
                  clear hl hf
                  go_wp2_with fail
                  refine (form7_is HR.out A m c _ HLL.out HM.out hc (by omega)).mono ?_
                  rintro e w2 ⟨rfl, b2⟩
                  have B2 := Lib.hid (bstep hb b2)
                  have hz2 := B2.out.size
                  have KC := Lib.hid (stm_cells (w := w2) 1 A m c)
                  have HO := Lib.hid (OwnL.nil_ (T := 38) (k := 2) (e := eStm) (w2.alloc (.cells #[.int .i64 1, .slice A m c] 38)) w.heap.size)
                  clear b2
                  go_wp2_with (at_builtin; refine wp_append_one kStm _ rfl _ _ rfl w.heap.size _ [] rfl HO.out w2.heap.size ((1 : Int), A, m, c) rfl KC.out (by simp) (by simp; omega) ?_; intro gg cap w9 hO9 hB9 hg9 hgo9 _)
                  have HB9 := Lib.hid ((B2.out.alloc hz2 _).trans hB9)
                  clear hO9 hB9 hg9 hgo9
                  go_wp2_with fail
                  go_roundw
                  case rel => exact .inr ⟨by go_num, N, HB9⟩
                  case measure => simp [intOf]
    · have t0 : decide ((n : Int) + 1 ≤ n) = false := by simp; omega
      go_wp2_with fail
      go_ret3
      rw [HP0.out]
      exact ⟨⟨_, _, rfl⟩, HB.out⟩
end Go.Proofs.YtoohijffkbkikaaGreatDoor
