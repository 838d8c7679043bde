/- The reference of layer 6: Line. -/
import Derived.Test.YtoohijffkbkikaaGreatDoorR6e
namespace Go.Proofs.YtoohijffkbkikaaGreatDoor
open Go.RowKit
set_option linter.unusedVariables false
set_option linter.unusedSimpArgs false
set_option maxRecDepth 100000

theorem prn_app2 (a b : List UInt8) : Lx.prn (a ++ b) = (Lx.prn a && Lx.prn b) := by simp [Lx.prn]
theorem wrd_cell {w : World} {A : Option Addr} {ws : List (List UInt8)} (h : ListAt 1 eWrd w A ws) {k : Nat} {x : List UInt8} (hx : ws[k]? = some x) :
    ∃ b off, A = some ⟨b, off, none⟩ ∧ b < w.heap.size ∧ w.cell? ⟨b, off + k, none⟩ = some (.string ⟨x.toArray⟩) := by
  obtain ⟨b, off, e, hb, hc⟩ := h (by have := (List.getElem?_eq_some_iff.1 hx).1; omega)
  have := hc k x hx 0 (by decide)
  rw [Nat.mul_one] at this
  exact ⟨b, off, e, hb, this⟩
theorem line6_long (s : ByteArray) (w : World) (h : 512 < s.size) : Calls Tryz.prog 30 #[.string s] w fun e w' => e = .returned (.tuple #[.slice none 0 0, .int .i64 5]) ∧ w = w' := by
  have h' : decide ((512 : Int) < s.size) = true := by simp; omega
  clear h
  go_enter Tryz.func30, Tryz.ntmps30
  go_wp2_with fail
  go_ret2
  exact ⟨rfl, rfl⟩
set_option maxHeartbeats 8000000 in
theorem line6_any (s : ByteArray) (w : World) (hs : s.size ≤ 512) : Calls Tryz.prog 30 #[.string s] w (LineV (L6.line6S s.data.toList) w) := by
  obtain ⟨n, hn⟩ : ∃ n, s.size = n := ⟨_, rfl⟩
  have hl : s.data.toList.length = n := by rw [← hn, Lib.size_eq]
  have h512 : decide ((512 : Int) < n) = false := by simp; omega
  have HL := Lib.hid hl
  have hn2 : n ≤ 512 := by omega
  obtain ⟨q, hq⟩ : ∃ q, L6.fh s.data.toList = q := ⟨_, rfl⟩
  have hqn : q ≤ n := by rw [← hq, ← hl]; exact L6.fh_le _
  obtain ⟨R, hR⟩ : ∃ R, L6.line6S s.data.toList = R := ⟨_, rfl⟩
  rw [hR]
  have HQ := Lib.hid hq
  have HR := Lib.hid hR
  have HP0 : Hid (Lx.prn (s.data.toList.take 0) = true) := Lib.hid rfl
  clear hl hs hq hR
  go_enter Tryz.func30, Tryz.ntmps30
  go_wp2_with fail
  go_loopw [4, 5] (fun ev i wr => ∃ (k : Nat) (e : Nat), k ≤ n ∧ i = .int .i64 k ∧ ev = .int .i64 (e : Int) ∧ Hid (e = if q < k then q else n) ∧ e ≤ n ∧ Hid (Lx.prn (s.data.toList.take k) = true) ∧ w = wr) (fun _ i _ => n - (intOf i).toNat)
  case atStart => exact ⟨0, n, Nat.zero_le _, rfl, by rfl, Lib.hid (by rw [if_neg (by omega)]), Nat.le_refl _, HP0, rfl⟩
  case round =>
    clear HP0
    obtain ⟨k, e, hk, rfl, rfl, HE, hen, HP, rfl⟩ := hrel
    by_cases hlt : k < n
    · obtain ⟨c, hc⟩ : ∃ c, s.data.toList[k]? = some c := ⟨_, List.getElem?_eq_getElem (by rw [HL.out]; exact hlt)⟩
      have k0 : ∀ w, (Instr.index 9 (.string s) (.int .i64 (k : Int))).run Tryz.prog w = .ok (.int .u8 (c.toNat : Int)) w := fun w => str_at hc 9 Tryz.underlying9 w
      have htk := take_snoc' hc
      have hfa := L6.fh_at _ k c hc
      rw [HQ.out] at hfa
      by_cases hb : Lx.prB c = true
      · have N := Lib.hid (show Lx.prn (s.data.toList.take (k + 1)) = true by rw [htk, prn_app2, HP.out]; simp [Lx.prn, hb])
        have hb1 : decide ((c.toNat : Int) < 32) = false := by
          simp only [Lx.prB, Bool.and_eq_true, decide_eq_true_eq] at hb
          simp; omega
        have hb2 : decide ((126 : Int) < c.toNat) = false := by
          simp only [Lx.prB, Bool.and_eq_true, decide_eq_true_eq] at hb
          simp; omega
        by_cases h35 : c = 35
        · have hle := hfa.1 h35
          have hm : min (e : Int) k = (q : Int) := by
            have := HE.out
            by_cases h : q < k
            · rw [if_pos h] at this; omega
            · rw [if_neg h] at this; omega
          have HN := Lib.hid (show q = if q < k + 1 then q else n by rw [if_pos (by omega)])
          subst h35
          clear hc hfa htk hb
          go_wp2_with fail
          go_roundw
          case rel => exact ⟨k + 1, q, by omega, by go_num, rfl, HN, hqn, N, by first | rfl | trivial⟩
          case measure => simp [intOf]; omega
        · have hne := hfa.2 h35
          have HN := Lib.hid (show e = if q < k + 1 then q else n by
            rw [HE.out]
            by_cases h : q < k
            · rw [if_pos h, if_pos (by omega)]
            · rw [if_neg h, if_neg (by omega)])
          have h35' : ((c.toNat : Int) == 35) = false := by
            simp only [beq_eq_false_iff_ne, ne_eq]
            intro h
            exact h35 (UInt8.toNat_inj.1 (by show c.toNat = 35; omega))
          clear hc hfa htk hb h35
          go_wp2_with fail
          go_roundw
          case rel => exact ⟨k + 1, e, by omega, by go_num, rfl, HN, hen, N, by first | rfl | trivial⟩
          case measure => simp [intOf]; omega
      · have HN := Lib.hid (show R = none by
          rw [← HR.out]
          unfold L6.line6S
          rw [if_neg]
          intro hp
          exact hb (List.all_eq_true.1 hp c (List.mem_of_getElem? hc)))
        have hb' : Lx.prB c = false := by simpa using hb
        simp only [Lx.prB, Bool.and_eq_false_iff, decide_eq_false_iff_not] at hb'
        clear hc hfa htk hb
        by_cases h1 : (c.toNat : Int) < 32
        · have h1' : decide ((c.toNat : Int) < 32) = true := by simpa using h1
          go_wp2_with fail
          go_ret2
          exact .inl ⟨HN.out, rfl, Below.refl _ _⟩
        · have h1' : decide ((c.toNat : Int) < 32) = false := by simpa using h1
          have h2' : decide ((126 : Int) < c.toNat) = true := by simp; omega
          go_wp2_with fail
          go_ret2
          exact .inl ⟨HN.out, rfl, Below.refl _ _⟩
    · obtain rfl : k = n := by omega
      obtain rfl : e = q := by
        have := HE.out
        by_cases h : q < k
        · rw [if_pos h] at this; exact this
        · rw [if_neg h] at this; omega
      have hp : Lx.prn s.data.toList = true := by
        have := HP.out
        rw [List.take_of_length_le (by rw [HL.out]; omega)] at this
        exact this
      obtain ⟨u, hu⟩ : ∃ u, s.extract 0 e = u := ⟨_, rfl⟩
      have hul := ext_list s 0 e
      rw [hu] at hul
      have hul2 : u.data.toList = s.data.toList.take (L6.fh s.data.toList) := by rw [hul, HQ.out]; rfl
      obtain ⟨ws, hws⟩ : ∃ ws, L6.words6 u.data.toList = ws := ⟨_, rfl⟩
      have hR2 : L6.toks6 ws = R := by rw [← HR.out, ← hws, hul2]; unfold L6.line6S; rw [if_pos hp]
      have huz : u.size ≤ 512 := by have := ext_size s 0 e; rw [hu] at this; omega
      have hwb := L6.w6_bd u.data.toList []
      have hwl : ws.length ≤ 513 := by
        rw [← hws]
        have := hwb.2
        rw [← Lib.size_eq] at this
        unfold L6.words6
        omega
      have HF := Lib.hid (show ∀ x ∈ ws, x.length ≤ 512 by
        rw [← hws]
        intro x hx
        have := hwb.1 x hx
        rw [← Lib.size_eq] at this
        simp at this
        omega)
      have HW := Lib.hid hws
      have HT := Lib.hid hR2
      have e1 : (0 : Int) ≤ (e : Int) := by omega
      have e2 : (e : Int) ≤ k := by omega
      obtain ⟨m, hm⟩ : ∃ m, ws.length = m := ⟨_, rfl⟩
      have HM := Lib.hid hm
      have hm2 : m ≤ 513 := by omega
      clear hp hul hul2 hws hR2 hwb hwl HE HP hm hlt
      go_wp2_with fail
      refine (words6_is HW.out _ (by omega)).mono ?_
      rintro e' w2 ⟨A, c, rfl, hla, b2⟩
      have HLA := Lib.hid hla
      have B2 := Lib.hid b2
      rw [HM.out]
      clear hla b2
      go_wp2_with fail
      go_loopw [6, 8] (fun v i wr => ∃ (j : Nat) (acc : List Lx.Tk), j ≤ m ∧ i = .int .i64 j ∧ acc.length = j ∧ Hid (OwnL 44 3 eTok wr w2.heap.size v acc) ∧ Hid ((L6.toks6 (ws.drop j)).map (acc ++ ·) = R) ∧ Hid (Below w2.heap.size w2 wr)) (fun _ i _ => m - (intOf i).toNat)
      case atStart => exact ⟨0, [], Nat.zero_le _, rfl, rfl, Lib.hid (OwnL.nil_ _ _), Lib.hid (by rw [List.drop_zero, HT.out]; cases R <;> rfl), Lib.hid (Below.refl _ _)⟩
      case round =>
        clear HT
        obtain ⟨j, acc, hj, rfl, hacc, HO, HRR, HB⟩ := hrel
        by_cases hlt : j < m
        · obtain ⟨x, hx⟩ := get_ex (xs := ws) (i := j) (by rw [HM.out]; exact hlt)
          obtain ⟨bb, off, rfl, _, c0⟩ := wrd_cell (HLA.out.below HB.out) hx
          have hxz : (⟨x.toArray⟩ : ByteArray).size ≤ 1000000000 := by
            rw [ba_size]
            have := HF.out x (List.mem_of_getElem? hx)
            omega
          have hst := HRR.out
          rw [drop_cons' hx] at hst
          have HS := Lib.hid hst
          have hrz := HB.out.size
          have HACC := Lib.hid hacc
          clear hst HRR hx hacc
          go_wp2_with fail
          refine (token6_any ⟨x.toArray⟩ _ hxz).mono ?_
          rintro e' w4 (⟨hno, rfl, b4⟩ | ⟨tk, tt, tn, hso, rfl, b4⟩)
          · have HN := Lib.hid (show R = none by rw [← HS.out, L6.toks6_none hno]; rfl)
            have HB4 := Lib.hid (bstep B2.out (bstep HB.out b4))
            have Q := HB4.out.alloc HB4.out.size (.cells #[.int .i64 0, .string ⟨#[]⟩, .int .i64 0] 44)
            clear hno b4
            go_wp2_with fail
            go_ret2
            exact .inl ⟨HN.out, rfl, Q⟩
          · have HN := Lib.hid (show (L6.toks6 (ws.drop (j + 1))).map ((acc ++ [(tk, tt, tn)]) ++ ·) = R by
              rw [← HS.out, L6.toks6_some hso]
              cases L6.toks6 (ws.drop (j + 1)) with
              | none => rfl
              | some r => simp)
            have O4 := Lib.hid (((HO.out.below b4).alloc (.cells #[.int .i64 tk, .string ⟨tt.toArray⟩, .int .i64 tn] 44)).alloc (.cells #[.int .i64 tk, .string ⟨tt.toArray⟩, .int .i64 tn] 44))
            have HB4 := Lib.hid (bstep HB.out b4)
            have hz4 := HB4.out.size
            have S4 := TokB.new w4 tk ⟨tt.toArray⟩ tn
            have ⟨t0, t1, t2, _, _, _⟩ := S4.cells
            have K4 := Lib.hid (tok_cells3 (y := (tk, tt, tn)) (TokB.new1 w4 (.cells #[.int .i64 tk, .string ⟨tt.toArray⟩, .int .i64 tn] 44) tk ⟨tt.toArray⟩ tn))
            have haccl : acc.length ≤ 900000 := by have := HACC.out; omega
            clear hso b4 HS S4
            go_wp2_with (at_builtin; refine wp_append_one kTok _ rfl _ _ rfl w2.heap.size _ acc rfl O4.out (w4.heap.size + 1) (tk, tt, tn) rfl K4.out haccl (by simp; omega) ?_; intro gg cap w9 hO9 hB9 hg9 hgo9 _)
            have HO9 := Lib.hid hO9
            have HB9 := Lib.hid (((HB4.out.alloc hz4 _).alloc (by simp; omega) _).trans hB9)
            clear hO9 hB9 hg9 hgo9
            go_roundw
            case rel => exact ⟨j + 1, acc ++ [(tk, tt, tn)], by omega, by go_num, by simp [HACC.out], HO9, HN, HB9⟩
            case measure => simp [intOf]; omega
        · have HN := Lib.hid (show R = some acc by
            rw [← HRR.out, List.drop_of_length_le (by rw [HM.out]; omega)]
            simp [L6.toks6])
          obtain ⟨A', c', rfl, hac, _, hla⟩ := HO.out.shape
          have HFA := Lib.hid HO.out.far_
          have HZ2 := B2.out.size
          have HLA' := Lib.hid hla
          have HACC := Lib.hid hacc
          have HB4 := Lib.hid (bstep B2.out HB.out)
          clear HRR HO hla hacc
          go_wp2_with fail
          go_ret2
          exact .inr ⟨acc, A', c', HN.out, rfl, HLA'.out, by have := HACC.out; omega, HB4.out, hac, fun ad ea => Nat.le_trans HZ2 (HFA.out ad ea)⟩
theorem line6_is {s : ByteArray} {o : Option (List Lx.Tk)} (h : L6.line6S s.data.toList = o) (w : World) (hs : s.size ≤ 512) : Calls Tryz.prog 30 #[.string s] w (LineV o w) := h ▸ line6_any s w hs
end Go.Proofs.YtoohijffkbkikaaGreatDoor
