/- What pad, fullClockText, clockText and offsetText of package lexer return. What clockText, offsetText, dateText of package lexer return. What spell and Text of package lexer return. What Text of package lexer returns. What printable and Line of package lexer return. What Line of package lexer returns: the walk. -/
import Derived.Test.YtphenbfhojdcpaaGreatDoorKlLk
import Derived.Lib.FieldsLaws
namespace Go.Proofs.YtphenbfhojdcpaaGreatDoor
open Go.RowKit
set_option linter.unusedVariables false
set_option linter.unusedSimpArgs false
set_option maxRecDepth 100000
end Go.Proofs.YtphenbfhojdcpaaGreatDoor
namespace Go.Proofs.YtphenbfhojdcpaaGreatDoor
open Go.RowKit
set_option linter.unusedVariables false
set_option linter.unusedSimpArgs false
set_option maxRecDepth 100000
/-- The date of a day; zeros, if the day has none. -/
def DtIs (n y m d : Int) : Prop := (Civ.vld y m d ∧ Civ.num y m d = n) ∨ ((n < 0 ∨ 98981 ≤ n) ∧ y = 0 ∧ m = 0 ∧ d = 0)
theorem DtIs.bd {n y m d : Int} (h : DtIs n y m d) : 0 ≤ y ∧ y ≤ 2240 ∧ 0 ≤ m ∧ m ≤ 12 ∧ 0 ≤ d ∧ d ≤ 31 := by
  rcases h with ⟨⟨h1, h2, h3, h4, h5, h6⟩, _⟩ | ⟨_, rfl, rfl, rfl⟩
  · have := Civ.dim_bd y m
    omega
  · omega
end Go.Proofs.YtphenbfhojdcpaaGreatDoor
namespace Go.Proofs.YtphenbfhojdcpaaGreatDoor
open Go.RowKit
set_option linter.unusedVariables false
set_option linter.unusedSimpArgs false
set_option maxRecDepth 100000
end Go.Proofs.YtphenbfhojdcpaaGreatDoor
namespace Go.Proofs.YtphenbfhojdcpaaGreatDoor
open Go.RowKit
set_option linter.unusedVariables false
set_option linter.unusedSimpArgs false
set_option maxRecDepth 100000
end Go.Proofs.YtphenbfhojdcpaaGreatDoor
namespace Lx
open Go Go.Lib Go.Proofs.YtphenbfhojdcpaaGreatDoor
def prB (b : UInt8) : Bool := decide (32 ≤ b.toNat) && decide (b.toNat ≤ 126)
def prn (l : List UInt8) : Bool := l.all prB
theorem prn_cons (b : UInt8) (t : List UInt8) : prn (b :: t) = (prB b && prn t) := rfl
def toksS : List (List UInt8) → Option (List Tk)
  | [] => some []
  | x :: r => match tokS x, toksS r with
    | some t, some ts => some (t :: ts)
    | _, _ => none
theorem toks_none {x : List UInt8} {r : List (List UInt8)} (h : tokS x = none) : toksS (x :: r) = none := by simp [toksS, h]
theorem toks_some {x : List UInt8} {r : List (List UInt8)} {t : Tk} (h : tokS x = some t) : toksS (x :: r) = (toksS r).map (t :: ·) := by
  rw [toksS, h]
  cases toksS r <;> rfl
/-- The tokens of a line of at most MaxLine bytes. -/
def lineS (l : List UInt8) : Option (List Tk) := if prn l = true then toksS (fields (cut l [35]).1) else none
end Lx
namespace Go.Proofs.YtphenbfhojdcpaaGreatDoor
open Go.RowKit
set_option linter.unusedVariables false
set_option linter.unusedSimpArgs false
set_option maxRecDepth 100000
set_option maxHeartbeats 1600000 in
theorem prn_any (s : ByteArray) (w : World) (hs : s.size ≤ 4000000000) : Calls Tryz.prog 121 #[.string s] w fun e w' => e = .returned (.bool (Lx.prn s.data.toList)) ∧ w = w' := by
  obtain ⟨n, hn⟩ : ∃ n, s.size = n := ⟨_, rfl⟩
  have hl : s.data.toList.length = n := by rw [← hn, Lib.size_eq]
  obtain ⟨R, hR⟩ : ∃ R, Lx.prn s.data.toList = R := ⟨_, rfl⟩
  rw [hR]
  have HR : Hid (Lx.prn (s.data.toList.drop 0) = R) := Lib.hid hR
  have HL := Lib.hid hl
  have hn2 : n ≤ 4000000000 := by omega
  clear hR hl hs
  go_enter Tryz.func121, Tryz.ntmps121
  go_wp2_with fail
  go_loopw [6] (fun i wr => ∃ k : Nat, k ≤ n ∧ i = .int .i64 k ∧ Hid (Lx.prn (s.data.toList.drop k) = R) ∧ w = wr) (fun i _ => n - (intOf i).toNat)
  case atStart => exact ⟨0, Nat.zero_le _, rfl, HR, rfl⟩
  case round =>
    clear HR
    obtain ⟨k, hk, rfl, HR, rfl⟩ := hrel
    by_cases hlt : k < n
    · obtain ⟨c, hc⟩ : ∃ c, s.data.toList[k]? = some c := ⟨_, List.getElem?_eq_getElem (by rw [HL.out]; exact hlt)⟩
      have hd := drop_cons' hc
      have hst := HR.out
      rw [hd, Lx.prn_cons] at hst
      have HS := Lib.hid hst
      have k0 : ∀ w, (Instr.index 9 (.string s) (.int .i64 (k : Int))).run Tryz.prog w = .ok (.int .u8 (c.toNat : Int)) w := fun w => str_at hc 9 Tryz.underlying9 w
      clear hc hd hst HR
      by_cases h1 : (c.toNat : Int) < 32
      · have HO := Lib.hid (show R = false by rw [← HS.out]; simp only [Lx.prB, Bool.and_eq_false_iff, decide_eq_false_iff_not]; left; left; omega)
        go_wp2_with fail
        go_ret
        rw [HO.out]
        exact ⟨rfl, rfl⟩
      · have h1' : decide ((c.toNat : Int) < 32) = false := by simp; omega
        by_cases h2 : (126 : Int) < c.toNat
        · have HO := Lib.hid (show R = false by rw [← HS.out]; simp only [Lx.prB, Bool.and_eq_false_iff, decide_eq_false_iff_not]; left; right; omega)
          go_wp2_with fail
          go_ret
          rw [HO.out]
          exact ⟨rfl, rfl⟩
        · have h2' : decide ((126 : Int) < c.toNat) = false := by simp; omega
          have N := Lib.hid (show Lx.prn (s.data.toList.drop (k + 1)) = R by
            have hp : Lx.prB c = true := by simp only [Lx.prB, Bool.and_eq_true, decide_eq_true_eq]; omega
            have := HS.out
            rw [hp, Bool.true_and] at this
            exact this)
          clear HS
          go_wp2_with fail
          go_roundw
          case rel => exact ⟨k + 1, by omega, by go_num, N, by first | rfl | trivial⟩
          case measure => simp [intOf]; omega
    · have HO := Lib.hid (show R = true by rw [← HR.out, List.drop_of_length_le (by rw [HL.out]; omega)]; rfl)
      go_wp2_with fail
      go_ret
      rw [HO.out]
      exact ⟨rfl, rfl⟩
theorem prn_is {s : ByteArray} {b : Bool} (h : Lx.prn s.data.toList = b) (w : World) (hs : s.size ≤ 4000000000) : Calls Tryz.prog 121 #[.string s] w fun e w' => e = .returned (.bool b) ∧ w = w' := h ▸ prn_any s w hs
def eTok : Lx.Tk → Nat → Value := fun x j => match j with
  | 0 => .int .i64 x.1
  | 1 => .string ⟨x.2.1.toArray⟩
  | _ => .int .i64 x.2.2
theorem kTok : KindOk 104 115 3 eTok := ⟨Tryz.underlying104, by obtain ⟨i, a, b, c, d⟩ := info_parts (show (Tryz.prog.info? 115).map (fun i => (i.zero, i.size, i.bytes)) = some (some (.agg #[.int .i64 0, .string ⟨#[]⟩, .int .i64 0]), 3, 32) by kernel_rfl); exact ⟨i, _, _, a, b, c, d, rfl, by omega⟩, by omega, fun x j => by unfold eTok; split <;> rfl⟩
theorem OwnL.far_ {α : Type} {k : Nat} {e : α → Nat → Value} {T : TypeId} {w : World} {B n c : Nat} {A : Option Addr} {xs : List α} (h : OwnL T k e w B (.slice A n c) xs) : ∀ ad, A = some ad → B ≤ ad.block := fun ad ea => by
  rcases h.row with ⟨hv, _⟩ | ⟨g, cap, hv, hB, _⟩
  · cases hv; cases ea
  · cases hv; cases ea; exact hB
/-- The tokens of a line, or an error. -/
def LineV (o : Option (List Lx.Tk)) (w : World) (e : Ending) (w' : World) : Prop :=
  (o = none ∧ e = .returned (.tuple #[.slice none 0 0, .int .i64 2]) ∧ Below w.heap.size w w') ∨
  (∃ (ts : List Lx.Tk) (A : Option Addr) (c : Nat), o = some ts ∧ e = .returned (.tuple #[.slice A ts.length c, .int .i64 0]) ∧ ListAt 3 eTok w' A ts ∧ ts.length ≤ 600 ∧ Below w.heap.size w w' ∧ ts.length ≤ c ∧ ∀ ad, A = some ad → w.heap.size ≤ ad.block)
theorem line_long (s : ByteArray) (w : World) (h : 512 < s.size) : Calls Tryz.prog 84 #[.string s] w fun e w' => e = .returned (.tuple #[.slice none 0 0, .int .i64 5]) ∧ w = w' := by
  have h' : decide ((512 : Int) < s.size) = true := by simp; omega
  clear h
  go_enter Tryz.func84, Tryz.ntmps84
  go_wp2_with fail
  go_ret2
  exact ⟨rfl, rfl⟩
end Go.Proofs.YtphenbfhojdcpaaGreatDoor
namespace Go.Proofs.YtphenbfhojdcpaaGreatDoor
open Go.RowKit
set_option linter.unusedVariables false
set_option linter.unusedSimpArgs false
set_option maxRecDepth 100000
theorem fieldsGo_bd : ∀ (l cur : List UInt8), (∀ x ∈ Lib.fieldsGo cur l, x.length ≤ cur.length + l.length) ∧ (Lib.fieldsGo cur l).length ≤ (if cur.isEmpty then 0 else 1) + l.length
  | [], cur => by
    unfold Lib.fieldsGo
    cases cur with
    | nil => simp
    | cons a t => simp
  | b :: l, cur => by
    unfold Lib.fieldsGo
    by_cases hb : Lib.isSp b = true
    · rw [if_pos hb]
      have ih := fieldsGo_bd l []
      cases cur with
      | nil =>
        simp only [List.isEmpty_nil, if_true]
        refine ⟨fun x hx => ?_, ?_⟩
        · have := ih.1 x hx; simp at this ⊢; omega
        · have := ih.2; simp at this ⊢; omega
      | cons a t =>
        simp only [List.isEmpty_cons]
        refine ⟨fun x hx => ?_, ?_⟩
        · simp only [Bool.false_eq_true, if_false, List.mem_cons] at hx
          rcases hx with rfl | hx
          · simp
          · have := ih.1 x hx; simp at this ⊢; omega
        · have := ih.2; simp at this ⊢; omega
    · rw [if_neg hb]
      have ih := fieldsGo_bd l (cur ++ [b])
      refine ⟨fun x hx => ?_, ?_⟩
      · have := ih.1 x hx; simp at this ⊢; omega
      · have := ih.2
        cases cur with
        | nil => simp at this ⊢; omega
        | cons a t => simp at this ⊢; omega
theorem fields_bd (l : List UInt8) : (∀ x ∈ Lib.fields l, x.length ≤ l.length) ∧ (Lib.fields l).length ≤ l.length := by
  have := fieldsGo_bd l []
  exact ⟨fun x hx => by have := this.1 x hx; simpa using this, by have := this.2; unfold Lib.fields; simpa using this⟩
theorem cut_mem {l a b : List UInt8} {c : UInt8} {f : Bool} (h : Lib.cut l [c] = (a, b, f)) : ∀ x ∈ a, x ∈ l := by
  unfold Lib.cut at h
  split at h
  · simp only [Prod.mk.injEq] at h
    obtain ⟨rfl, rfl, rfl⟩ := h
    exact fun x hx => List.mem_of_mem_take hx
  · simp only [Prod.mk.injEq] at h
    obtain ⟨rfl, rfl, rfl⟩ := h
    exact fun x hx => hx
theorem prn_ascii {l : List UInt8} (h : Lx.prn l = true) : ∀ b ∈ l, b.toNat < 128 := fun b hb => by
  have := List.all_eq_true.1 h b hb
  simp only [Lx.prB, Bool.and_eq_true, decide_eq_true_eq] at this
  omega
def WordsAt (w : World) (b : Nat) (ws : List (List UInt8)) : Prop := ∀ k x, ws[k]? = some x → w.cell? ⟨b, k, none⟩ = some (.string ⟨x.toArray⟩)
theorem words_new (w : World) (ws : List (List UInt8)) : WordsAt (w.alloc (.cells (ws.map fun l => Value.string ⟨l.toArray⟩).toArray 9)) w.heap.size ws := fun k x hx => by
  rw [World.cell?_alloc_new, List.getElem?_toArray, List.getElem?_map, hx]
  rfl
theorem fields_is {a : List UInt8} {ws : List (List UInt8)} (h : Lib.fields a = ws) (w : World) (hT : LexT w) (ha : ∀ b ∈ a, b.toNat < 128) (hz : a.length ≤ 4000000000) :
    Calls Tryz.prog 123 #[.string ⟨a.toArray⟩] w fun e w' => e = .returned (.slice (some ⟨w.heap.size, 0, none⟩) ws.length ws.length) ∧ WordsAt w' w.heap.size ws ∧ w.heap.size < w'.heap.size ∧ Below w.heap.size w w' := by
  subst h
  refine (Tryz.strings_Fields ⟨a.toArray⟩ w (by rw [ba_size]; omega) (fun j b hb => ha b (List.mem_of_getElem? hb)) hT.spc).mono ?_
  rintro e w' ⟨rfl, rfl⟩
  exact ⟨rfl, words_new _ _, by simp, (Below.refl _ _).alloc (Nat.le_refl _) _⟩
theorem tok_cells3 {w : World} {b : Nat} {y : Lx.Tk} (h : TokB w b y.1 ⟨y.2.1.toArray⟩ y.2.2) : ∀ j, j < 3 → w.cell? ⟨b, j, none⟩ = some (eTok y j) := by
  have ⟨c0, c1, c2, _⟩ := h.cells
  intro j hj
  have : j = 0 ∨ j = 1 ∨ j = 2 := by omega
  rcases this with rfl | rfl | rfl
  · exact c0
  · exact c1
  · exact c2
set_option maxHeartbeats 4000000 in
theorem line_any (s : ByteArray) (w : World) (hT : LexT w) (hs : s.size ≤ 512) : Calls Tryz.prog 84 #[.string s] w (LineV (Lx.lineS s.data.toList) w) := by
  have h512 : decide ((512 : Int) < s.size) = false := by simp; omega
  have hz := Lib.size_eq s
  obtain ⟨R, hR⟩ : ∃ R, Lx.lineS s.data.toList = R := ⟨_, rfl⟩
  rw [hR]
  by_cases hp : Lx.prn s.data.toList = true
  · obtain ⟨a, b, f, hc⟩ : ∃ a b f, Lib.cut s.data.toList [35] = (a, b, f) := ⟨_, _, _, rfl⟩
    obtain ⟨ws, hws⟩ : ∃ ws, Lib.fields a = ws := ⟨_, rfl⟩
    have hR2 : Lx.toksS ws = R := by rw [← hR, ← hws]; unfold Lx.lineS; rw [if_pos hp, hc]
    have hal := (cutS_le hc).1
    have hfb := fields_bd a
    rw [hws] at hfb
    have HF := Lib.hid hfb.1
    have hn : ws.length ≤ 512 := by omega
    have ha5 : a.length ≤ 512 := by omega
    have HA := Lib.hid (fun x hx => prn_ascii hp x (cut_mem hc x hx))
    have HP := Lib.hid hp
    have HC := Lib.hid hc
    have HW := Lib.hid hws
    have HR := Lib.hid hR2
    have HT := Lib.hid hT
    clear hp hc hws hR2 hR hal hfb hz hT
    go_enter Tryz.func84, Tryz.ntmps84
    go_wp2_with fail
    refine (prn_is HP.out _ (by omega)).mono ?_
    rintro e w' ⟨rfl, rfl⟩
    go_wp2_with fail
    refine (cut_is HC.out _ (by omega)).mono ?_
    rintro e w' ⟨rfl, q, rfl⟩
    have T1 := Lib.hid (HT.out.drewN q)
    have B1 := Lib.hid (bdrewN (Below.refl w.heap.size w) q)
    go_wp2_with fail
    refine (fields_is HW.out _ T1.out HA.out (by omega)).mono ?_
    rintro e w2 ⟨rfl, hwa, hlt, b2⟩
    have T2 := Lib.hid (T1.out.below b2)
    have B2 := Lib.hid (bstep B1.out b2)
    have HWA := Lib.hid hwa
    have hbf : w.heap.size < w2.heap.size := hlt
    have HB2 := B2.out.size
    obtain ⟨n, hnn⟩ : ∃ n, ws.length = n := ⟨_, rfl⟩
    rw [hnn] at hn ⊢
    have HNN := Lib.hid hnn
    clear hwa hlt b2 T1 B1 hnn
    go_wp2_with fail
    go_loopw [7, 27] (fun v i wr => ∃ (k : Nat) (acc : List Lx.Tk), k ≤ n ∧ i = .int .i64 k ∧ acc.length = k ∧ Hid (OwnL 115 3 eTok wr w2.heap.size v acc) ∧ Hid ((Lx.toksS (ws.drop k)).map (acc ++ ·) = R) ∧ Hid (Below w2.heap.size w2 wr)) (fun _ i _ => n - (intOf i).toNat)
    case atStart => exact ⟨0, [], Nat.zero_le _, rfl, rfl, Lib.hid (OwnL.nil_ _ _), Lib.hid (by rw [List.drop_zero, HR.out]; cases R <;> rfl), Lib.hid (Below.refl _ _)⟩
    case round =>
      clear HR
      obtain ⟨k, acc, hk, rfl, hacc, HO, HR, HB⟩ := hrel
      by_cases hlt : k < n
      · obtain ⟨x, hx⟩ := get_ex (xs := ws) (i := k) (by rw [HNN.out]; exact hlt)
        have c0 : wr.cell? ⟨w.heap.size, k, none⟩ = some (.string ⟨x.toArray⟩) := (HB.out.cell (p := ⟨w.heap.size, k, none⟩) hbf).trans (HWA.out k x hx)
        have hxz : (⟨x.toArray⟩ : ByteArray).size ≤ 3000000000 := by
          rw [ba_size]
          have := HF.out x (List.mem_of_getElem? hx)
          omega
        have hst := HR.out
        rw [drop_cons' hx] at hst
        have HS := Lib.hid hst
        have HT3 := Lib.hid (T2.out.below HB.out)
        have hrz := HB.out.size
        have HACC := Lib.hid hacc
        clear hst HR hx hacc
        go_wp2_with fail
        refine (token_any ⟨x.toArray⟩ _ HT3.out hxz).mono ?_
        rintro e w4 (⟨hno, rfl, b4⟩ | ⟨tk, tt, tn, hso, rfl, b4⟩)
        · have HN := Lib.hid (show R = none by rw [← HS.out, Lx.toks_none hno]; rfl)
          have HB4 := Lib.hid (bstep B2.out (bstep HB.out b4))
          have Q := HB4.out.alloc HB4.out.size (.cells #[.int .i64 0, .string ⟨#[]⟩, .int .i64 0] 115)
          clear hno b4
          go_wp2_with fail
          go_ret2
          rw [HN.out]
          exact .inl ⟨rfl, rfl, Q⟩
        · have HN := Lib.hid (show (Lx.toksS (ws.drop (k + 1))).map ((acc ++ [(tk, tt, tn)]) ++ ·) = R by
            rw [← HS.out, Lx.toks_some hso]
            cases Lx.toksS (ws.drop (k + 1)) with
            | none => rfl
            | some r => simp)
          have O4 := Lib.hid (((HO.out.below b4).alloc (.cells #[.int .i64 tk, .string ⟨tt.toArray⟩, .int .i64 tn] 115)).alloc (.cells #[.int .i64 tk, .string ⟨tt.toArray⟩, .int .i64 tn] 115))
          have HB4 := Lib.hid (bstep HB.out b4)
          have hz4 := HB4.out.size
          have S4 := TokB.new w4 tk ⟨tt.toArray⟩ tn
          have ⟨t0, t1, t2, _, _, _⟩ := S4.cells
          have K4 := Lib.hid (tok_cells3 (y := (tk, tt, tn)) (TokB.new1 w4 (.cells #[.int .i64 tk, .string ⟨tt.toArray⟩, .int .i64 tn] 115) tk ⟨tt.toArray⟩ tn))
          have haccl : acc.length ≤ 900000 := by have := HACC.out; omega
          clear hso b4 HS S4
          go_wp2_with (at_builtin; refine wp_append_one kTok _ rfl _ _ rfl w2.heap.size _ acc rfl O4.out (w4.heap.size + 1) (tk, tt, tn) rfl K4.out haccl (by simp; omega) ?_; intro gg cap w9 hO9 hB9 hg9 hgo9 _)
          have HO9 := Lib.hid hO9
          have HB9 := Lib.hid (((HB4.out.alloc hz4 _).alloc (by simp; omega) _).trans hB9)
          clear hO9 hB9 hg9 hgo9
          go_roundw
          case rel => exact ⟨k + 1, acc ++ [(tk, tt, tn)], by omega, by go_num, by simp [HACC.out], HO9, HN, HB9⟩
          case measure => simp [intOf]; omega
      · have hkn : k = n := by omega
        have HN := Lib.hid (show R = some acc by
          rw [← HR.out, List.drop_of_length_le (by rw [HNN.out]; omega)]
          simp [Lx.toksS])
        obtain ⟨A, c, rfl, hac, _, hla⟩ := HO.out.shape
        have HFA := Lib.hid HO.out.far_
        have HLA := Lib.hid hla
        have HACC := Lib.hid hacc
        have HB4 := Lib.hid (bstep B2.out HB.out)
        clear HR HO hla hacc
        go_wp2_with fail
        go_ret2
        rw [HN.out]
        exact .inr ⟨acc, A, c, rfl, rfl, HLA.out, by have := HACC.out; omega, HB4.out, hac, fun ad ea => Nat.le_trans HB2 (HFA.out ad ea)⟩
  · have hp : Lx.prn s.data.toList = false := by simpa using hp
    have HN := Lib.hid (show R = none by rw [← hR]; unfold Lx.lineS; rw [if_neg (by rw [hp]; decide)])
    have HP := Lib.hid hp
    clear hp hR hz
    go_enter Tryz.func84, Tryz.ntmps84
    go_wp2_with fail
    refine (prn_is HP.out _ (by omega)).mono ?_
    rintro e w' ⟨rfl, rfl⟩
    go_wp2_with fail
    go_ret2
    rw [HN.out]
    exact .inl ⟨rfl, rfl, Below.refl _ _⟩
end Go.Proofs.YtphenbfhojdcpaaGreatDoor
