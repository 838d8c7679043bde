/- The law LexerLines returns true for every list of numbers and every number of spaces. -/
import Derived.Test.YtgihhhigjcgobaaGreatDoorLBak
import Derived.Test.YtgihhhigjcgobaaGreatDoorLsm
namespace Go.Proofs.YtgihhhigjcgobaaGreatDoor
open Go.RowKit
set_option linter.unusedVariables false
set_option linter.unusedSimpArgs false
set_option maxRecDepth 100000

theorem LB.far {w wr w' : World} {A : Option Addr} {n c : Nat} {zs : List Int} (h : LB w A n c zs wr) (hb : Below (w.heap.size + 2) wr w') : LB w A n c zs w' :=
  ⟨h.dice.below hb (by omega), h.words.below hb (by omega), h.below.trans (hb.mono (by omega))⟩
theorem LB.room {w wr : World} {A : Option Addr} {n c : Nat} {zs : List Int} (h : LB w A n c zs wr) : w.heap.size + 2 ≤ wr.heap.size := by
  have := BlkAt.lt_ h.words
  omega
/-- What stands at the outer loop's head. -/
structure LL (w : World) (A : Option Addr) (n c : Nat) (zs : List Int) (q : Nat) (v : Value) (L : ByteArray) (ws : List (List UInt8)) (ts : List Lx.Tk) (wr : World) : Prop where
  lb : LB w A n c zs wr
  own : OwnL 23 3 eTok wr (w.heap.size + 2) v ts
  line : L.data.toList = Lx.joinS (q + 1) ws
  toks : Lx.toksS ws = some ts
  ok : ∀ x ∈ ws, okW x = true
theorem toks_len : ∀ {ws : List (List UInt8)} {ts : List Lx.Tk}, Lx.toksS ws = some ts → ts.length = ws.length
  | [], ts, h => by cases h; rfl
  | x :: ws, ts, h => by
    cases hx : Lx.tokS x with
    | none => rw [Lx.toks_none hx] at h; cases h
    | some t =>
      rw [Lx.toks_some hx] at h
      cases hr : Lx.toksS ws with
      | none => rw [hr] at h; cases h
      | some r =>
        rw [hr] at h
        cases h
        simp [toks_len hr]
theorem LL.size {w wr : World} {A : Option Addr} {n c : Nat} {zs : List Int} {q : Nat} {v : Value} {L : ByteArray} {ws : List (List UInt8)} {ts : List Lx.Tk} (h : LL w A n c zs q v L ws ts wr) (hq : q ≤ 3) (hw : ws.length ≤ 9) : L.size ≤ 252 := by
  rw [Lib.size_eq, h.line]
  have := (Lx.join_prn (q + 1) ws h.ok).2.2
  have h2 : ws.length * (q + 1 + 24) ≤ 9 * 28 := Nat.mul_le_mul hw (by omega)
  omega
theorem conv_q (q : Nat) (h : q ≤ 3) (w : World) : (convert 5 3 (.int .u8 (q : Int))).run Tryz.prog w = .ok (.int .i64 (q : Int)) w := by
  have h2 := IntWalk.i64_in (q : Int) (by omega)
  simp [convert, go_sem, h2]

set_option maxHeartbeats 8000000 in
theorem lines_any (A : Option Addr) (n c : Nat) (zs : List Int) (b : Int) (w : World) (hT : LexT w) (hA : NumsAt w A zs) (hn : zs.length = n) (hf : ∀ z ∈ zs, -9223372036854775808 ≤ z ∧ z ≤ 9223372036854775807) (b0 : 0 ≤ b) (b1 : b ≤ 255) :
    Calls Tryz.prog 5 #[.slice A n c, .int .u8 b] w fun e w' => e = .returned (.bool true) ∧ Below w.heap.size w w' := by
  have HT := Lib.hid hT
  clear hT
  by_cases h5 : n ≤ 500
  · have hl : decide ((n : Int) ≤ 500) = true := by simp; omega
    have D0 := Lib.hid (Dice.start (c := c) hA hn h5 hf)
    obtain ⟨q, hq⟩ : ∃ q : Nat, b.tmod 4 = (q : Int) := ⟨(b.tmod 4).toNat, by have := Int.tmod_nonneg 4 b0; omega⟩
    have hq3 : q ≤ 3 := by
      have := Int.tmod_lt_of_pos b (show (0 : Int) < 4 by decide)
      omega
    have k1 := fun w => conv_q q hq3 w
    clear hA hn hf
    go_enter Tryz.func5, Tryz.ntmps5
    go_wp2_with fail
    refine (Light_any A n c _).mono ?_
    rw [hl]
    rintro e w' ⟨rfl, rfl⟩
    go_wp2_with fail
    refine (Roll_any A n c _).mono ?_
    rintro e w' ⟨rfl, rfl⟩
    go_wp2_with fail
    refine (words_any _).mono ?_
    rintro e w' ⟨rfl, rfl⟩
    have HB : Hid (LB w A n c zs ((w.alloc (.cells #[.slice A n c, .int .i64 0] 51)).alloc (.cells wordsV 9))) := by
      refine Lib.hid ⟨D0.out.alloc _, ?_, ?_⟩
      · have := BlkAt.new (w.alloc (.cells #[.slice A n c, .int .i64 0] 51)) wordsV 9
        simpa using this
      · exact ((Below.refl _ _).alloc (Nat.le_refl _) _).alloc (by simp) _
    have HL0 : Hid (LL w A n c zs q (.slice none 0 0) ⟨#[]⟩ [] [] ((w.alloc (.cells #[.slice A n c, .int .i64 0] 51)).alloc (.cells wordsV 9))) :=
      Lib.hid ⟨HB.out, OwnL.nil_ _ _, rfl, rfl, fun x hx => by cases hx⟩
    clear D0 hl HB
    go_wp2_with fail
    go_loopw [6, 7, 9] (fun v sv i wr => ∃ (k : Nat) (ws : List (List UInt8)) (ts : List Lx.Tk) (L : ByteArray), k ≤ 9 ∧ i = .int .i64 k ∧ sv = .string L ∧ ws.length ≤ k ∧ Hid (LL w A n c zs q v L ws ts wr)) (fun _ _ i _ => 9 - (intOf i).toNat)
    case atStart => exact ⟨0, [], [], ⟨#[]⟩, by omega, rfl, rfl, by simp, HL0⟩
    case round =>
      clear HL0
      obtain ⟨k, ws, ts, L, hk, rfl, rfl, hwk, HL⟩ := hrel
      by_cases hlt : k < 9
      · go_wp2_with fail
        refine (Next_any w.heap.size n c A zs 36 _ HL.out.lb.dice (by decide) (by decide)).mono ?_
        rintro e w1 ⟨v1, rfl, v0, v1', hg, D1⟩
        obtain ⟨j, rfl⟩ : ∃ j : Nat, v1 = j := ⟨v1.toNat, by omega⟩
        have H1 := Lib.hid (LL.mk (HL.out.lb.next hg D1) (HL.out.own.grown hg (by omega)) HL.out.line HL.out.toks HL.out.ok)
        obtain ⟨x, hx, -, hxz, hok⟩ := words_get (j := j) (by omega)
        have c0 : w1.cell? ⟨w.heap.size + 1, j, none⟩ = some (.string ⟨x.toArray⟩) := H1.out.lb.words.cell (wordsV_at hx)
        have T1 := Lib.hid (HT.out.below H1.out.lb.below)
        clear hg D1 hx HL
        cases hto : Lx.tokS x with
        | none =>
          have HNO := Lib.hid hto
          clear hto hok
          go_wp2_with fail
          refine (token_ln HNO.out (by omega) _ T1.out).mono ?_
          rintro e w2 ⟨rfl, b2⟩
          have H2 := Lib.hid (LL.mk ((H1.out.lb.after b2).alloc (.cells #[.int .i64 0, .string ⟨#[]⟩, .int .i64 0] 23)) ((H1.out.own.below b2).alloc (.cells #[.int .i64 0, .string ⟨#[]⟩, .int .i64 0] 23)) H1.out.line H1.out.toks H1.out.ok)
          clear b2
          go_wp2_with fail
          go_roundw
          case rel => exact ⟨k + 1, ws, ts, L, by omega, by go_num, rfl, by omega, H2⟩
          case measure => simp [intOf]; omega
        | some y =>
          obtain ⟨yk, yt, yn⟩ := y
          have HTO := Lib.hid hto
          have HOK := Lib.hid (show okW x = true from hok.elim (fun h => by rw [h] at hto; cases hto) id)
          clear hto hok
          go_wp2_with fail
          refine (token_li HTO.out (by omega) _ T1.out).mono ?_
          rintro e w2 ⟨rfl, b2⟩
          have hr2 := (H1.out.lb.after b2).room
          have O2 := Lib.hid (((H1.out.own.below b2).alloc (.cells #[.int .i64 yk, .string ⟨yt.toArray⟩, .int .i64 yn] 23)).alloc (.cells #[.int .i64 yk, .string ⟨yt.toArray⟩, .int .i64 yn] 23))
          have LB2 := Lib.hid (((H1.out.lb.after b2).alloc (.cells #[.int .i64 yk, .string ⟨yt.toArray⟩, .int .i64 yn] 23)).alloc (.cells #[.int .i64 yk, .string ⟨yt.toArray⟩, .int .i64 yn] 23))
          have K2 := TokB.new w2 yk ⟨yt.toArray⟩ yn
          have ⟨k0, k1', k2, _, _, _⟩ := K2.cells
          have K4 := Lib.hid (tok_cells3 (y := (yk, yt, yn)) (TokB.new1 w2 (.cells #[.int .i64 yk, .string ⟨yt.toArray⟩, .int .i64 yn] 23) yk ⟨yt.toArray⟩ yn))
          have htl : ts.length ≤ 900000 := by have := toks_len H1.out.toks; omega
          have hLz : L.size ≤ 252 := H1.out.size hq3 (by omega)
          clear b2 K2
          go_wp2_with (at_builtin; refine wp_append_one kTok _ rfl _ _ rfl (w.heap.size + 2) _ ts rfl O2.out (w2.heap.size + 1) (yk, yt, yn) rfl K4.out htl (by simp; omega) ?_; intro gg cap w9 hO9 hB9 hg9 hgo9 _)
          have HO9 := Lib.hid hO9
          have HL9 := Lib.hid (LB2.out.far hB9)
          clear hO9 hB9 hg9 hgo9 k0 k1' k2 O2 LB2 K4
          go_loopw [7, 13] (fun sv nn wx => ∃ (r : Nat) (L' : ByteArray), r ≤ q + 1 ∧ nn = .int .i64 ((q : Int) - r) ∧ sv = .string L' ∧ Hid (L'.data.toList = L.data.toList ++ List.replicate r 32) ∧ wx = w9) (fun _ nn _ => (intOf nn + 1).toNat)
          case atStart => exact ⟨0, L, by omega, by simp, rfl, Lib.hid (by simp), rfl⟩
          case round =>
            obtain ⟨r, L', hr, rfl, rfl, HL', rfl⟩ := hrel
            have hLz' : L'.size ≤ 300 := by
              rw [Lib.size_eq, HL'.out, List.length_append, List.length_replicate, ← Lib.size_eq]
              omega
            have n1 : ¬ 9223372036854775807 < L'.size + 1 := by omega
            by_cases hr2 : r ≤ q
            · have hge : decide ((0 : Int) ≤ (q : Int) - r) = true := by simp; omega
              have HN := Lib.hid (show (L' ++ ⟨#[32]⟩).data.toList = L.data.toList ++ List.replicate (r + 1) 32 by
                rw [app_data, HL'.out, List.replicate_succ', ← List.append_assoc])
              go_wp2_with fail
              go_roundw
              case rel => exact ⟨r + 1, L' ++ ⟨#[32]⟩, by omega, by go_num, rfl, HN, by first | rfl | trivial⟩
              case measure => simp [intOf]; omega
            · have hge : decide ((0 : Int) ≤ (q : Int) - r) = false := by simp; omega
              have hxs : (⟨x.toArray⟩ : ByteArray).size ≤ 30 := by rw [ba_size]; exact hxz
              have n2 : ¬ 9223372036854775807 < L'.size + (⟨x.toArray⟩ : ByteArray).size := by omega
              have n3 : ¬ 9223372036854775807 < L'.size + x.length := by omega
              have HN := Lib.hid (LL.mk (q := q) (L := L' ++ ⟨x.toArray⟩) (ws := ws ++ [x]) HL9.out HO9.out (by
                rw [app_data, HL'.out, Lx.joinS_snoc, H1.out.line]
                rw [show r = q + 1 by omega]) (Lx.toks_snoc H1.out.toks HTO.out) (fun y hy => by
                simp only [List.mem_append, List.mem_singleton] at hy
                rcases hy with hy | rfl
                · exact H1.out.ok y hy
                · exact HOK.out))
              go_wp2_with fail
              go_roundw
              case rel => exact ⟨k + 1, ws ++ [x], ts ++ [(yk, yt, yn)], L' ++ ⟨x.toArray⟩, by omega, by go_num, rfl, by simp; omega, HN⟩
              case measure => simp [intOf]; omega
      · obtain ⟨Aw, cw, rfl, hcw, _, hlw⟩ := HL.out.own.shape
        have hsz : L.size ≤ 252 := HL.out.size hq3 (by omega)
        have htl := toks_len HL.out.toks
        obtain ⟨m, hm⟩ : ∃ m, ts.length = m := ⟨_, rfl⟩
        have hm9 : m ≤ 9 := by omega
        obtain ⟨L2, hL2⟩ : ∃ L2, L ++ (⟨#[32, 35, 32]⟩ : ByteArray) ++ L ++ (⟨#[32, 126]⟩ : ByteArray) = L2 := ⟨_, rfl⟩
        have hd2 : L2.data.toList = Lx.joinS (q + 1) ws ++ [32, 35, 32] ++ Lx.joinS (q + 1) ws ++ [32, 126] := by
          rw [← hL2, app_data, app_data, app_data, HL.out.line]
        have hz2 : L2.size ≤ 512 := by
          rw [Lib.size_eq, hd2]
          have h1 : (Lx.joinS (q + 1) ws).length ≤ 252 := by rw [← HL.out.line, ← Lib.size_eq]; exact hsz
          simp
          omega
        have P1 := Lib.hid (show Lx.lineS L.data.toList = some ts by rw [HL.out.line, Lx.line_join (by omega) HL.out.ok]; exact HL.out.toks)
        have P2 := Lib.hid (show Lx.lineS L2.data.toList = some ts by rw [hd2, Lx.line_twice (by omega) HL.out.ok]; exact HL.out.toks)
        have n1 : ¬ 9223372036854775807 < L.size + 3 := by omega
        have n2 : ¬ 9223372036854775807 < L.size + 3 + L.size := by omega
        have n3 : ¬ 9223372036854775807 < L.size + 3 + L.size + 2 := by omega
        have W0 := Lib.hid hlw
        have B0 := Lib.hid HL.out.lb.below
        have T0 := Lib.hid (HT.out.below B0.out)
        have HM := Lib.hid hm
        rw [hm] at hcw ⊢
        clear hlw hd2 htl HL hm
        go_wp2_with fail
        refine (line_is_some P1.out _ T0.out (by omega)).mono ?_
        rw [HM.out]
        rintro e w1 ⟨A1, c1, rfl, l1, _, b1'⟩
        have W1 := Lib.hid (W0.out.below b1')
        have B1 := Lib.hid (bstep B0.out b1')
        have T1 := Lib.hid (HT.out.below B1.out)
        have X1 := Lib.hid l1
        clear b1' l1 T0 B0 W0
        go_wp2_with fail
        refine (line_is_some P2.out _ T1.out hz2).mono ?_
        rw [HM.out]
        rintro e w2 ⟨A2, c2, rfl, l2, _, b2'⟩
        have W2 := Lib.hid (W1.out.below b2')
        have B2 := Lib.hid (bstep B1.out b2')
        have X2 := Lib.hid (X1.out.below b2')
        have Y2 := Lib.hid l2
        clear b2' l2 T1 B1 W1 X1
        go_wp2_with fail
        refine (same_yes A1 Aw m c1 cw ts _ X2.out W2.out HM.out (by omega)).mono ?_
        rintro e w3 ⟨rfl, b3⟩
        have W3 := Lib.hid (W2.out.below b3)
        have B3 := Lib.hid (bstep B2.out b3)
        have Y3 := Lib.hid (Y2.out.below b3)
        clear b3 B2 W2 X2 Y2
        go_wp2_with fail
        refine (same_yes A2 Aw m c2 cw ts _ Y3.out W3.out HM.out (by omega)).mono ?_
        rintro e w4 ⟨rfl, b4⟩
        have B4 := Lib.hid (bstep B3.out b4)
        have T4 := Lib.hid (HT.out.below B4.out)
        clear b4 B3 W3 Y3
        go_wp2_with fail
        refine (sane_any _ T4.out).mono ?_
        rintro e w5 ⟨rfl, b5⟩
        have B5 := Lib.hid (bstep B4.out b5)
        clear b5
        go_wp2_with fail
        go_ret
        exact ⟨rfl, B5.out⟩
  · have hl : decide ((n : Int) ≤ 500) = false := by simp; omega
    clear hA hn hf
    go_enter Tryz.func5, Tryz.ntmps5
    go_wp2_with fail
    refine (Light_any A n c _).mono ?_
    rw [hl]
    rintro e w' ⟨rfl, rfl⟩
    go_wp2_with fail
    refine (sane_any _ HT.out).mono ?_
    rintro e w1 ⟨rfl, b1⟩
    go_wp2_with fail
    go_ret
    exact ⟨rfl, b1⟩
end Go.Proofs.YtgihhhigjcgobaaGreatDoor
