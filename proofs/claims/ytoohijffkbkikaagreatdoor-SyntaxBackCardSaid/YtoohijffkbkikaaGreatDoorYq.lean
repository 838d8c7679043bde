/- The reference of layer 7: Form, and Parse at a text of one line. -/
import Derived.Test.YtoohijffkbkikaaGreatDoorYk
namespace Go.Proofs.YtoohijffkbkikaaGreatDoor
open Go.RowKit
set_option linter.unusedVariables false
set_option linter.unusedSimpArgs false
set_option maxRecDepth 100000

def eF7 : List UInt8 × List UInt8 → Nat → Value := fun f j => match j with
  | 0 => .string ⟨f.1.toArray⟩
  | _ => .string ⟨f.2.toArray⟩
def f7V : Array Value := (encK 2 eF7 S7.F7).toArray
theorem f7_at {w : World} {b k : Nat} {f : List UInt8 × List UInt8} (h : BlkAt w b f7V 78) (hf : S7.F7[k]? = some f) : w.cell? ⟨b, k * 2, none⟩ = some (.string ⟨f.1.toArray⟩) ∧ w.cell? ⟨b, k * 2 + 1, none⟩ = some (.string ⟨f.2.toArray⟩) := by
  have h0 := encK_get (k := 2) (e := eF7) S7.F7 k 0 f hf (by decide)
  have h1 := encK_get (k := 2) (e := eF7) S7.F7 k 1 f hf (by decide)
  exact ⟨h.cell (by unfold f7V; rw [List.getElem?_toArray]; exact h0), h.cell (by unfold f7V; rw [List.getElem?_toArray]; exact h1)⟩
set_option maxHeartbeats 4000000 in
theorem forms7_any (w : World) : Calls Tryz.prog 41 #[] w fun e w' => e = .returned (.slice (some ⟨w.heap.size, 0, none⟩) 14 14) ∧ BlkAt w' w.heap.size f7V 78 ∧ Below w.heap.size w w' := by
  have key : ∀ (W : World), W = w.alloc (.cells f7V 78) → BlkAt W w.heap.size f7V 78 ∧ Below w.heap.size w W := by
    rintro _ rfl
    exact ⟨BlkAt.new w _ _, (Below.refl _ _).alloc (Nat.le_refl _) _⟩
  have KEY := Lib.hid key
  clear key
  go_enter Tryz.func41, Tryz.ntmps41
  go_wp2_with fail
  go_ret
  exact ⟨rfl, KEY.out _ (by kernel_rfl)⟩
theorem hit_eq {k q : List UInt8} (h : k = q) : S7.hitS k q = true := by unfold S7.hitS; rw [h]; simp
theorem hit_len {k q : List UInt8} (h : ¬ k = q) (h2 : ¬ q.length = 2) : S7.hitS k q = false := by
  unfold S7.hitS
  rw [decide_eq_false h2, show (k == q) = false by simpa using h]
  rfl
theorem hit_two {k : List UInt8} {x y : UInt8} (h : ¬ k = [x, y]) : S7.hitS k [x, y] = ((y == 43) && S7.manyS k x) := by
  unfold S7.hitS
  rw [show (k == [x, y]) = false by simpa using h]
  simp
theorem ext1 (x y : UInt8) : (⟨#[x, y]⟩ : ByteArray).extract 0 1 = ⟨#[x]⟩ := by
  have h := Lib.extract_toList ⟨#[x, y]⟩ 0 1
  have e : ((⟨#[x, y]⟩ : ByteArray).extract 0 1).data.toList = [x] := by rw [← Lib.toList_data, h]; rfl
  rw [← Lib.mk_data ((⟨#[x, y]⟩ : ByteArray).extract 0 1), e]

set_option maxHeartbeats 16000000 in
theorem form7_is {ts : List Lx.Tk} {R : Bool} (hR : S7.form7 ts = R) (A : Option Addr) (n c : Nat) (w : World) (hA : ListAt 3 eTok w A ts) (hn : ts.length = n) (hc : n ≤ c) (hs : n ≤ 900) :
    Calls Tryz.prog 19 #[.slice A n c] w fun e w' => e = .returned (.bool R) ∧ Below w.heap.size w w' := by
  cases ts with
  | nil =>
    simp at hn
    subst hn
    have HR := Lib.hid (show R = false from hR.symm)
    clear hA hR
    go_enter Tryz.func19, Tryz.ntmps19
    go_wp2_with fail
    go_ret
    exact ⟨ret_bool (by rw [HR.out]), Below.refl _ _⟩
  | cons y r =>
    obtain ⟨b, off, y', r', rfl, hts, hb, c0, c1⟩ := list_cons hA (by simp)
    cases hts
    obtain ⟨yk, yt, yn⟩ := y
    simp only at c0 c1
    have hn1 : r.length + 1 = n := by simpa using hn
    have g0 : ((n : Int) == 0) = false := by simp; omega
    have n0 : (0 : Int) < n := by omega
    have n1 : (1 : Int) ≤ n := by omega
    have n1c : (1 : Int) ≤ c := by omega
    unfold S7.form7 at hR
    simp only at hR
    by_cases hk : yk = 0
    · subst hk
      rw [if_neg (by simp)] at hR
      have HD := Lib.hid (list_drop (c := c) hA 1 (by omega))
      have HDL := Lib.hid (show ((((0 : Int), yt, yn) : Lx.Tk) :: r).drop 1 = r from rfl)
      rw [HDL.out] at HD
      have HRL := Lib.hid (show r.length = n - 1 by omega)
      by_cases hp : yt = [112, 101, 114, 115, 111, 110]
      · subst hp
        rw [if_pos rfl] at hR
        have HR := Lib.hid hR
        clear hA hR hn hn1
        by_cases hc1 : c = 1
        all_goals
          (first | rw [if_pos hc1] at HD | rw [if_neg hc1] at HD)
          try subst hc1
        · have n1' : n = 1 := by omega
          subst n1'
          go_enter Tryz.func19, Tryz.ntmps19
          go_wp2_with fail
          refine (pers_is HR.out _ _ _ _ HD.out (by have := HRL.out; omega) (by omega) (by omega)).mono ?_
          rintro e w1 ⟨rfl, b1⟩
          go_wp2_with fail
          go_ret
          exact ⟨rfl, b1⟩
        · go_enter Tryz.func19, Tryz.ntmps19
          go_wp2_with fail
          refine (pers_is HR.out _ _ _ _ HD.out (by have := HRL.out; omega) (by omega) (by omega)).mono ?_
          rintro e w1 ⟨rfl, b1⟩
          go_wp2_with fail
          go_ret
          exact ⟨rfl, b1⟩
      · rw [if_neg hp] at hR
        have p1 : (yt == [112, 101, 114, 115, 111, 110]) = false := by simpa using hp
        obtain ⟨K, hK⟩ : ∃ K, S7.kindsG [] r = K := ⟨_, rfl⟩
        rw [hK] at hR
        have hKz : K.length ≤ 902 := by have := S7.kinds_len r []; rw [hK] at this; simp at this; omega
        have HK := Lib.hid hK
        have HR0 : Hid (S7.goS K yt (S7.F7.drop 0) = R) := Lib.hid hR
        have kz : (⟨K.toArray⟩ : ByteArray).size ≤ 10000 := by rw [ba_size]; omega
        have C1 := Lib.hid c1
        clear hA hR hn hn1 hK
        by_cases hc1 : c = 1
        all_goals
          (first | rw [if_pos hc1] at HD | rw [if_neg hc1] at HD)
          try subst hc1
          go_enter Tryz.func19, Tryz.ntmps19
          go_wp2_with fail
          refine (kinds_is HK.out _ _ _ _ HD.out (by have := HRL.out; omega) (by omega)).mono ?_
          rintro e w1 ⟨rfl, b1⟩
          have HB1 := Lib.hid b1
          clear b1 c0 c1 HD HDL
          go_wp2_with fail
          refine (forms7_any _).mono ?_
          rintro e w2 ⟨rfl, hf7, b2⟩
          have HF2 := Lib.hid hf7
          have HB2 := Lib.hid (bstep HB1.out b2)
          have D1 := Lib.hid (cell_lift C1.out HB2.out)
          have hb2 : w1.heap.size < w2.heap.size := hf7.lt_
          clear hf7 b2
          go_wp2_with fail
          go_loopw [5] (fun i wr => ∃ k : Nat, k ≤ 14 ∧ i = .int .i64 k ∧ Hid (S7.goS K yt (S7.F7.drop k) = R) ∧ Hid (Below w2.heap.size w2 wr)) (fun i _ => 14 - (intOf i).toNat)
          case atStart => exact ⟨0, by omega, rfl, HR0, Lib.hid (Below.refl _ _)⟩
          case round =>
            clear HR0
            obtain ⟨k, hk, rfl, HR, HB⟩ := hrel
            by_cases hlt : k < 14
            · obtain ⟨⟨fa, fq⟩, hf⟩ := get_ex (xs := S7.F7) (i := k) hlt
              obtain ⟨f0, f1⟩ := f7_at (HF2.out.after HB.out) hf
              simp only at f0 f1
              have d1 := cell_lift D1.out HB.out
              have hrz := HB.out.size
              have hst := HR.out
              rw [drop_cons' hf, S7.goS] at hst
              simp only at hst
              by_cases he : fa = yt
              · rw [if_pos he] at hst
                subst he
                have B5 := Lib.hid (bstep HB2.out HB.out)
                clear hf HR
                by_cases hq : K = fq
                · subst hq
                  have N := Lib.hid (show R = true by rw [← hst]; exact hit_eq rfl)
                  clear hst
                  go_wp2_with fail
                  go_quiet (fail)
                  go_wp2_with fail
                  go_ret
                  exact ⟨ret_bool (by rw [N.out]), bdrewN B5.out _⟩
                · have q1 : (K == fq) = false := by simpa using hq
                  by_cases hl : fq.length = 2
                  · obtain ⟨x, yy, rfl⟩ : ∃ x yy, fq = [x, yy] := by
                      match fq, hl with
                      | [x, yy], _ => exact ⟨x, yy, rfl⟩
                    have k0 : ∀ w, (Instr.index 9 (.string ⟨#[x, yy]⟩) (.int .i64 1)).run Tryz.prog w = .ok (.int .u8 (yy.toNat : Int)) w := fun w => str_at (s := ⟨#[x, yy]⟩) (k := 1) rfl 9 Tryz.underlying9 w
                    have l2 : (⟨#[x, yy]⟩ : ByteArray).size = 2 := rfl
                    have x1 := ext1 x yy
                    rw [hit_two hq] at hst
                    by_cases hy : yy = 43
                    · subst hy
                      have M := Lib.hid (many_is (s := ⟨K.toArray⟩) (x := x) (R := R) (by rw [← hst]; simp) )
                      clear hst
                      go_wp2_with fail
                      go_quiet (fail)
                      go_wp2_with fail
                      refine (M.out _ kz).mono ?_
                      rintro e w6 ⟨rfl, rfl⟩
                      go_wp2_with fail
                      go_ret
                      exact ⟨rfl, bdrewN B5.out _⟩
                    · have y1 : ((yy.toNat : Int) == 43) = false := by
                        simp only [beq_eq_false_iff_ne, ne_eq]
                        intro h
                        exact hy (UInt8.toNat_inj.1 (by show yy.toNat = 43; omega))
                      have N := Lib.hid (show R = false by rw [← hst, show (yy == 43) = false by simpa using hy]; rfl)
                      clear hst
                      go_wp2_with fail
                      go_quiet (fail)
                      go_wp2_with fail
                      go_ret
                      exact ⟨ret_bool (by rw [N.out]), bdrewN B5.out _⟩
                  · have N := Lib.hid (show R = false by rw [← hst]; exact hit_len hq hl)
                    have l2 : (((⟨fq.toArray⟩ : ByteArray).size : Int) == 2) = false := by rw [ba_size]; simp; omega
                    have l3 : ((fq.length : Int) == 2) = false := by simp; omega
                    clear hst
                    go_wp2_with fail
                    go_quiet (fail)
                    go_wp2_with fail
                    go_ret
                    exact ⟨ret_bool (by rw [N.out]), bdrewN B5.out _⟩
              · rw [if_neg he] at hst
                have N := Lib.hid hst
                have q1 : (fa == yt) = false := by simpa using he
                clear hst hf HR
                go_wp2_with fail
                go_quiet (fail)
                go_wp2_with fail
                go_roundw
                case rel => exact ⟨k + 1, by omega, by go_num, N, Lib.hid (bdrewN HB.out _)⟩
                case measure => simp [intOf]; omega
            · have N := Lib.hid (show R = false by rw [← HR.out, List.drop_of_length_le (by show 14 ≤ k; omega)]; rfl)
              have B5 := bstep HB2.out HB.out
              go_wp2_with fail
              go_ret
              exact ⟨ret_bool (by rw [N.out]), B5⟩
    · rw [if_pos (by simpa using hk)] at hR
      have HR := Lib.hid hR.symm
      have k1 : (yk == 0) = false := by simpa using hk
      have k2 : (yk != 0) = true := by simpa using hk
      clear hA hR hn
      go_enter Tryz.func19, Tryz.ntmps19
      go_wp2_with fail
      go_ret
      exact ⟨ret_bool (by rw [HR.out]), Below.refl _ _⟩
end Go.Proofs.YtoohijffkbkikaaGreatDoor
