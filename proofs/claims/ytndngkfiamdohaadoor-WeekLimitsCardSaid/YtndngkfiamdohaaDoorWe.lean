/- Package week: addWeeks. -/
import Derived.Test.YtndngkfiamdohaaDoorWd
import Derived.Test.YtndngkfiamdohaaDoorZld
namespace Go.Proofs.YtndngkfiamdohaaDoor
open Go.RowKit
set_option linter.unusedVariables false
set_option linter.unusedSimpArgs false
set_option maxRecDepth 100000

theorem ListAt.stp {α : Type} {k : Nat} {e : α → Nat → Value} {w w1 : World} {A : Option Addr} {xs : List α} {v v1 : Value} (h : ListAt k e w A xs) (ha : 0 < xs.length → ∀ ad, A = some ad → v.ownBlock ≠ some ad.block) (hs : Stp w w1 v v1) : ListAt k e w1 A xs := fun h0 => by
  obtain ⟨b, off, ea, hlt, hc⟩ := h h0
  have hne := ha h0 _ ea
  simp only at hne
  exact ⟨b, off, ea, Nat.lt_of_lt_of_le hlt hs.1.size, fun i x hx j hj => (hs.1.cell_far ⟨b, off + i * k + j, none⟩ hlt (fun e => hne e.symm)).trans (hc i x hx j hj)⟩
theorem trans_nil {off : Int} (h : Zn.okO off = true) : Zn.trans off [] = ([], 0) := Zn.trans_all h (by simp) rfl (by decide) rfl
theorem zin_nil {w : World} (h : CivT w) : ZIn w none 0 [] := ⟨h, ListAt.nil_, rfl, fun r hr => (by cases hr), (by omega)⟩
theorem secV_plain {off x : Int} (h : 0 ≤ x) (h2 : x ≤ 8589934592) : secV off [] 0 x = Wk.sow (x + off) ∧ offE 0 x = 0 := by
  have e : offE 0 x = 0 := by unfold offE; rw [if_neg (by simp), if_neg (by omega)]
  refine ⟨?_, e⟩
  unfold secV offV
  rw [if_neg (by simpa using e), if_neg (by simp), if_neg (by omega)]
  rfl
def wstep (f t m : Int) (s : Wk.L) (x : Int × Int) : Wk.L := Wk.addP s (max (m + x.1) f) (min (m + x.2) t)
theorem addW_def (l : Wk.L) (f t m : Int) (s : Wk.L) : Wk.addW l f t m s = l.foldl (wstep f t m) s := rfl

set_option maxHeartbeats 8000000 in
theorem addR_any (v : Value) (s : Wk.L) (A : Option Addr) (n c : Nat) (l : Wk.L) (off f t : Int) (B : Nat) (w : World) (hO : OwnL 38 2 ePair w B v s) (hl : s.length ≤ 800000) (hB : B ≤ w.heap.size) (hT : CivT w) (hA : WIn w A n l) (hap : 0 < n → ∀ ad, A = some ad → v.ownBlock ≠ some ad.block)
    (hc : Wk.chk l = 0) (ho : Zn.okO off = true) (hft : f < t → 0 ≤ f ∧ t ≤ 8589934592 ∧ t - f ≤ 34560000) :
    Calls Tryd.prog 35 #[v, .slice A n c, .int .i64 off, .int .i64 f, .int .i64 t] w fun e w' => ∃ v', e = .returned v' ∧ OwnL 38 2 ePair w' B v' (Wk.addR l off f t s) ∧ Stp w w' v v' := by
  by_cases h0 : t ≤ f
  · have hr : Wk.addR l off f t s = s := by unfold Wk.addR; rw [if_pos h0]
    rw [hr]
    have HO := Lib.hid hO
    clear hr hO hA hT hap
    go_enter Tryd.func35, Tryd.ntmps35
    go_wp2_with fail
    go_ret
    exact ⟨v, rfl, HO.out, Stp.refl _ _⟩
  · obtain ⟨f0, t0, d0⟩ := hft (by omega)
    obtain ⟨R, hR⟩ : ∃ R, Wk.addR l off f t s = R := ⟨_, rfl⟩
    rw [hR]
    unfold Wk.addR at hR
    rw [if_neg h0] at hR
    have C := sec_is (trans_nil ho) ⟨#[]⟩ none 0 0 f w (zin_nil hT) (by rw [Zn.okO_iff] at ho; unfold I64; omega)
    obtain ⟨e1, e2⟩ := secV_plain (off := off) f0 (by omega)
    rw [e1, e2] at C
    have hsw := Wk.sow_bd (f + off)
    obtain ⟨S, hS⟩ : ∃ S, Wk.sow (f + off) = S := ⟨_, rfl⟩
    rw [hS] at C hR hsw
    obtain ⟨s1, s2⟩ := hsw
    have hn14 : n ≤ 14 := by have := (Wk.chk_ok hc).2; have := hA.len; omega
    have hmem := fun x h => (Wk.chk_ok hc).1.mem x h
    have hbl : ∀ ad, A = some ad → 0 < n → ad.block < w.heap.size := fun ad e h => by
      obtain ⟨b', o', ea, hlt, -⟩ := hA.at_ (by have := hA.len; omega)
      rw [e] at ea; cases ea; exact hlt
    have HBL := Lib.hid hbl
    have HC := Lib.hid C
    have HO := Lib.hid hO
    have HA := Lib.hid hA
    have HM := Lib.hid hmem
    have HR := Lib.hid hR
    have HAP := Lib.hid hap
    have HL := Lib.hid hl
    have ml1 : IntKind.i64.wrap (f - S) = f - S := by rw [IntKind.wrap_i64]; omega
    clear hO hT hA hap hc ho hft hR C e1 e2 hS hmem hbl hl
    go_enter Tryd.func35, Tryd.ntmps35
    go_wp2_with fail
    refine HC.out.mono ?_
    rintro e w1 ⟨rfl, b1⟩
    have O1 := Lib.hid (HO.out.below b1)
    have S1 := Lib.hid ((Stp.refl w v).below b1)
    clear b1 HC HO
    go_wp2_with fail
    go_loopw [0, 13] (fun v' vm wr => ∃ (j : Nat) (m : Int) (s' : Wk.L), vm = .int .i64 m ∧ Hid (m = f - S + 604800 * j) ∧ f - S ≤ m ∧ m ≤ t + 604800 ∧ Hid (Wk.addK l f t (Wk.wks m t) m s' = R) ∧ Hid (OwnL 38 2 ePair wr B v' s') ∧ Hid (s'.length ≤ s.length + 14 * j) ∧ Hid (Stp w wr v v')) (fun _ vm _ => (t - intOf vm).toNat)
    case atStart => exact ⟨0, f - S, s, rfl, Lib.hid (by simp), by omega, by omega, HR, O1, Lib.hid (by simp), S1⟩
    case round =>
      clear O1 S1 HR
      obtain ⟨j, m, s', rfl, HJ, m1, m2, HR, HO, HLN, HS⟩ := hrel
      by_cases hlt : m < t
      · have hr := HR.out
        rw [Wk.addK_step hlt] at hr
        have HR2 := Lib.hid hr
        clear hr HR
        obtain ⟨Q, hQ⟩ : ∃ Q, Wk.addW l f t m s' = Q := ⟨_, rfl⟩
        rw [hQ] at HR2
        have HQ := Lib.hid hQ
        have hj : j ≤ 59 := by have := HJ.out; omega
        clear hQ
        go_wp2_with fail
        go_loopw [0, 37] (fun v2 i wx => ∃ (k : Nat) (s2 : Wk.L), k ≤ n ∧ i = .int .i64 k ∧ Hid ((l.drop k).foldl (wstep f t m) s2 = Q) ∧ Hid (OwnL 38 2 ePair wx B v2 s2) ∧ Hid (s2.length ≤ s'.length + k) ∧ Hid (Stp w wx v v2)) (fun _ i _ => n - (intOf i).toNat)
        case atStart => exact ⟨0, s', Nat.zero_le _, rfl, Lib.hid (by rw [List.drop_zero, ← addW_def]; exact HQ.out), HO, Lib.hid (by simp), HS⟩
        case round =>
          clear HO HS HQ
          obtain ⟨k, s2, hk, rfl, HQ, HO, HL2, HS⟩ := hrel
          by_cases hlt2 : k < n
          · have hat := HA.out.at_.stp (fun h => HAP.out (by have := HA.out.len; omega)) HS.out
            obtain ⟨a, b, bl, of, hx, rfl, hb, c0, c1⟩ := (WIn.mk hat HA.out.len HA.out.le).get hlt2
            have hm := HM.out _ (List.mem_of_getElem? hx)
            simp only at hm
            obtain ⟨g1, g2, g3⟩ := hm
            have N := HQ.out
            rw [drop_cons' hx, List.foldl_cons, show wstep f t m s2 (a, b) = Wk.addP s2 (max (m + a) f) (min (m + b) t) from rfl] at N
            have HN := Lib.hid N
            have hrz : B ≤ wr.heap.size := Nat.le_trans hB HS.out.1.size
            obtain ⟨mx, hmx⟩ : ∃ mx, max (m + a) f = mx := ⟨_, rfl⟩
            obtain ⟨mn, hmn⟩ : ∃ mn, min (m + b) t = mn := ⟨_, rfl⟩
            rw [hmx, hmn] at HN
            have w1' : IntKind.i64.wrap (m + a) = m + a := by rw [IntKind.wrap_i64]; omega
            have w2' : IntKind.i64.wrap (m + b) = m + b := by rw [IntKind.wrap_i64]; omega
            have hlen : s2.length ≤ 900000 := by have := HL2.out; have := HLN.out; have := HL.out; omega
            have CA := Lib.hid (add_any _ s2 mx mn B _ (HO.out.alloc (.cells #[.int .i64 a, .int .i64 b] 24)) hlen (by simp; omega))
            have AL := addP_len s2 mx mn
            have HAL := Lib.hid (show (Wk.addP s2 mx mn).length ≤ s'.length + (k + 1) by have := HL2.out; omega)
            clear hat hx N HQ AL HO
            go_wp2_with fail
            refine CA.out.mono ?_
            rintro e w2 ⟨v3, rfl, O3, S3⟩
            have HO3 := Lib.hid O3
            have HS3 := Lib.hid ((HS.out.alloc (.cells #[.int .i64 a, .int .i64 b] 24)).trans S3)
            clear O3 S3 HS CA
            go_wp2_with fail
            go_roundw
            case rel => exact ⟨k + 1, _, by omega, by go_num, HN, HO3, HAL, HS3⟩
            case measure => simp [intOf]; omega
          · have hq := HQ.out
            rw [List.drop_of_length_le (by have := HA.out.len; omega), List.foldl_nil] at hq
            subst hq
            have HLN2 := Lib.hid (show s2.length ≤ s.length + 14 * (j + 1) by have := HL2.out; have := HLN.out; omega)
            have HJ2 := Lib.hid (show m + 604800 = f - S + 604800 * ((j + 1 : Nat) : Int) by have := HJ.out; omega)
            clear HQ HL2
            go_wp2_with fail
            go_roundw
            case rel => exact ⟨j + 1, m + 604800, s2, rfl, HJ2, by omega, by omega, HR2, HO, HLN2, HS⟩
            case measure => simp [intOf]; omega
      · have hr := HR.out
        rw [Wk.addK_done (by omega)] at hr
        subst hr
        go_wp2_with fail
        go_ret
        exact ⟨_, rfl, HO.out, HS.out⟩
end Go.Proofs.YtndngkfiamdohaaDoor
