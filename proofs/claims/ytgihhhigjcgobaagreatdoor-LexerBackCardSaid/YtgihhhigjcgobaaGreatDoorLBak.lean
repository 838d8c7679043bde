/- The law LexerBack returns true for every list of numbers. -/
import Derived.Test.YtgihhhigjcgobaaGreatDoorLw
import Derived.Test.YtgihhhigjcgobaaGreatDoorMad
namespace Go.Proofs.YtgihhhigjcgobaaGreatDoor
open Go.RowKit
set_option linter.unusedVariables false
set_option linter.unusedSimpArgs false
set_option maxRecDepth 100000

theorem text_good2 {K N : Int} {t s : List UInt8} (h : SpellIs K t N s ∧ Lx.tokS s = some (K, t, N) ∧ s.length ≤ 3000000000 ∧ I64 K ∧ -9223372036854775807 ≤ N ∧ N ≤ 9223372036854775807) (w : World) (hT : LexT w) :
    Calls Tryz.prog 20 #[.agg #[.int .i64 K, .string ⟨t.toArray⟩, .int .i64 N]] w fun e w' => e = .returned (.tuple #[.string ⟨s.toArray⟩, .int .i64 0]) ∧ Below w.heap.size w w' :=
  text_yes (t := ⟨t.toArray⟩) (Lib.hid h.1) (Lib.hid h.2.1) w hT h.2.2.2.1 h.2.2.2.2.1 h.2.2.2.2.2 h.2.2.1
theorem token_li {x : List UInt8} {k n : Int} {t : List UInt8} (h : Lx.tokS x = some (k, t, n)) (hz : x.length ≤ 3000000000) (w : World) (hT : LexT w) :
    Calls Tryz.prog 12 #[.string ⟨x.toArray⟩] w fun e w' => e = .returned (.tuple #[.agg #[.int .i64 k, .string ⟨t.toArray⟩, .int .i64 n], .int .i64 0]) ∧ Below w.heap.size w w' :=
  tok_is_some (s := ⟨x.toArray⟩) h w hT (by rw [ba_size]; exact hz)
theorem token_ln {x : List UInt8} (h : Lx.tokS x = none) (hz : x.length ≤ 3000000000) (w : World) (hT : LexT w) :
    Calls Tryz.prog 12 #[.string ⟨x.toArray⟩] w fun e w' => e = .returned (.tuple #[.agg #[.int .i64 0, .string ⟨#[]⟩, .int .i64 0], .int .i64 2]) ∧ Below w.heap.size w w' :=
  tok_is_none (s := ⟨x.toArray⟩) h w hT (by rw [ba_size]; exact hz)
theorem words_small : ∀ x ∈ wordsL, x.length ≤ 30 := by
  have h : (wordsL.all fun x => decide (x.length ≤ 30)) = true := by kernel_rfl
  intro x hx
  simpa using List.all_eq_true.1 h x hx
theorem words_get {j : Nat} (h : j < 36) : ∃ x, wordsL[j]? = some x ∧ GoodW x ∧ x.length ≤ 30 ∧ (Lx.tokS x = none ∨ okW x = true) := by
  obtain ⟨x, hx⟩ := get_ex (xs := wordsL) (i := j) (by rw [wordsL_len]; exact h)
  have hm := List.mem_of_getElem? hx
  exact ⟨x, hx, words_good x hm, words_small x hm, words_ok x hm⟩

/-- What stands at the loop's head: the Dice, the words, what lay before. -/
structure LB (w : World) (A : Option Addr) (n c : Nat) (zs : List Int) (wr : World) : Prop where
  dice : Dice wr w.heap.size A n c zs
  words : BlkAt wr (w.heap.size + 1) wordsV 9
  below : Below w.heap.size w wr
theorem LB.after {w wr w' : World} {A : Option Addr} {n c : Nat} {zs : List Int} (h : LB w A n c zs wr) (hb : Below wr.heap.size wr w') : LB w A n c zs w' := ⟨h.dice.after hb, h.words.after hb, bstep h.below hb⟩
theorem LB.alloc {w wr : World} {A : Option Addr} {n c : Nat} {zs : List Int} (h : LB w A n c zs wr) (o : Obj) : LB w A n c zs (wr.alloc o) := h.after ((Below.refl _ _).alloc (Nat.le_refl _) o)
theorem LB.next {w wr w' : World} {A : Option Addr} {n c : Nat} {zs : List Int} (h : LB w A n c zs wr) (hg : wr.grownBy w' (some w.heap.size)) (hd : Dice w' w.heap.size A n c zs) : LB w A n c zs w' :=
  ⟨hd, h.words.grown hg (by simp), below_of_grown h.below hg h.below.size (Nat.le_refl _)⟩

set_option maxHeartbeats 8000000 in
theorem back_any (A : Option Addr) (n c : Nat) (zs : List Int) (w : World) (hT : LexT w) (hA : NumsAt w A zs) (hn : zs.length = n) (hf : ∀ z ∈ zs, -9223372036854775808 ≤ z ∧ z ≤ 9223372036854775807) :
    Calls Tryz.prog 4 #[.slice A n c] w fun e w' => e = .returned (.bool true) ∧ Below w.heap.size w w' := by
  have HT := Lib.hid hT
  clear hT
  by_cases h5 : n ≤ 500
  · have hl : decide ((n : Int) ≤ 500) = true := by simp; omega
    have D0 := Lib.hid (Dice.start (c := c) hA hn h5 hf)
    clear hA hn hf
    go_enter Tryz.func4, Tryz.ntmps4
    go_wp2_with fail
    refine (Light_any A n c _).mono ?_
    rw [hl]
    rintro e w' ⟨rfl, rfl⟩
    go_wp2_with fail
    refine (Roll_any A n c _).mono ?_
    rintro e w' ⟨rfl, rfl⟩
    go_wp2_with fail
    refine (words_any _).mono ?_
    rintro e w' ⟨rfl, rfl⟩
    have HB : Hid (LB w A n c zs ((w.alloc (.cells #[.slice A n c, .int .i64 0] 51)).alloc (.cells wordsV 9))) := by
      refine Lib.hid ⟨D0.out.alloc _, ?_, ?_⟩
      · have := BlkAt.new (w.alloc (.cells #[.slice A n c, .int .i64 0] 51)) wordsV 9
        simpa using this
      · exact ((Below.refl _ _).alloc (Nat.le_refl _) _).alloc (by simp) _
    clear D0 hl
    go_wp2_with fail
    go_loopw [5] (fun i wr => ∃ k : Nat, k ≤ 10 ∧ i = .int .i64 k ∧ Hid (LB w A n c zs wr)) (fun i _ => 10 - (intOf i).toNat)
    case atStart => exact ⟨0, by omega, rfl, HB⟩
    case round =>
      clear HB
      obtain ⟨k, hk, rfl, HB⟩ := hrel
      by_cases hlt : k < 10
      · go_wp2_with fail
        refine (Next_any w.heap.size n c A zs 36 _ HB.out.dice (by decide) (by decide)).mono ?_
        rintro e w1 ⟨v, rfl, v0, v1, hg, D1⟩
        obtain ⟨j, rfl⟩ : ∃ j : Nat, v = j := ⟨v.toNat, by omega⟩
        have H1 := Lib.hid (HB.out.next hg D1)
        obtain ⟨x, hx, hgw, hxz, -⟩ := words_get (j := j) (by omega)
        have c0 : w1.cell? ⟨w.heap.size + 1, j, none⟩ = some (.string ⟨x.toArray⟩) := H1.out.words.cell (wordsV_at hx)
        have T1 := Lib.hid (HT.out.below H1.out.below)
        clear hg D1 hx HB
        rcases hgw with hno | ⟨K, N, t, s, h1, h2, h3, h4, h6, h7, h8⟩
        · have HNO := Lib.hid hno
          clear hno
          go_wp2_with fail
          refine (token_ln HNO.out (by omega) _ T1.out).mono ?_
          rintro e w2 ⟨rfl, b2⟩
          have H2 := Lib.hid ((H1.out.after b2).alloc (.cells #[.int .i64 0, .string ⟨#[]⟩, .int .i64 0] 23))
          clear b2
          go_wp2_with fail
          go_roundw
          case rel => exact ⟨k + 1, by omega, by go_num, H2⟩
          case measure => simp [intOf]; omega
        · have HS1 := Lib.hid h1
          have HS3 := Lib.hid h3
          have HSP := Lib.hid (show SpellIs K t N s ∧ Lx.tokS s = some (K, t, N) ∧ s.length ≤ 3000000000 ∧ I64 K ∧ -9223372036854775807 ≤ N ∧ N ≤ 9223372036854775807 from ⟨h2, h3, by omega, h6, h7, h8⟩)
          have hss : s.length ≤ 3000000000 := by omega
          have hszx : decide ((x.length : Int) < s.length) = false := by simp; omega
          have hszx2 : decide (x.length < s.length) = false := by simp; omega
          clear h1 h2 h3 h6 h7 h8
          go_wp2_with fail
          refine (token_li HS1.out (by omega) _ T1.out).mono ?_
          rintro e w2 ⟨rfl, b2⟩
          have H2 := Lib.hid ((H1.out.after b2).alloc (.cells #[.int .i64 K, .string ⟨t.toArray⟩, .int .i64 N] 23))
          have K2 := TokB.new w2 K ⟨t.toArray⟩ N
          have T2 := Lib.hid (HT.out.below H2.out.below)
          have ⟨k0, k1, k2, _, _, _⟩ := K2.cells
          clear b2 H1 T1
          go_wp2_with fail
          refine (text_good2 HSP.out _ T2.out).mono ?_
          rintro e w3 ⟨rfl, b3⟩
          have H3 := Lib.hid (H2.out.after b3)
          have K3 := K2.after b3
          have T3 := Lib.hid (HT.out.below H3.out.below)
          clear b3 H2 K2 k0 k1 k2 T2
          go_wp2_with fail
          refine (token_li HS3.out hss _ T3.out).mono ?_
          rintro e w4 ⟨rfl, b4⟩
          have H4 := Lib.hid ((H3.out.after b4).alloc (.cells #[.int .i64 K, .string ⟨t.toArray⟩, .int .i64 N] 23))
          have K4 := K3.after b4
          clear b4 H3 K3 T3
          have ⟨k0, k1, k2, _, _, _⟩ := K4.cells
          have hlt2 : w2.heap.size < w4.heap.size := K4.lt_
          have e1 := ba_size x
          have e2 := ba_size s
          go_wp2_with fail
          go_roundw
          case rel => exact ⟨k + 1, by omega, by go_num, H4⟩
          case measure => simp [intOf]; omega
      · have T1 := Lib.hid (HT.out.below HB.out.below)
        go_wp2_with fail
        refine (sane_any _ T1.out).mono ?_
        rintro e w1 ⟨rfl, b1⟩
        have HB1 := Lib.hid (bstep HB.out.below b1)
        go_wp2_with fail
        go_ret
        exact ⟨rfl, HB1.out⟩
  · have hl : decide ((n : Int) ≤ 500) = false := by simp; omega
    clear hA hn hf
    go_enter Tryz.func4, Tryz.ntmps4
    go_wp2_with fail
    refine (Light_any A n c _).mono ?_
    rw [hl]
    rintro e w' ⟨rfl, rfl⟩
    go_wp2_with fail
    refine (sane_any _ HT.out).mono ?_
    rintro e w1 ⟨rfl, b1⟩
    go_wp2_with fail
    go_ret
    exact ⟨rfl, b1⟩
end Go.Proofs.YtgihhhigjcgobaaGreatDoor
