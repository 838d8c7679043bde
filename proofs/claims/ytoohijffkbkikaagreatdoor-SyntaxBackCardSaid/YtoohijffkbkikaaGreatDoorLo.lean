/- What spell and Text of package lexer return. -/
import Derived.Test.YtoohijffkbkikaaGreatDoorLn
namespace Go.Proofs.YtoohijffkbkikaaGreatDoor
open Go.RowKit
set_option linter.unusedVariables false
set_option linter.unusedSimpArgs false
set_option maxRecDepth 100000

/-- The word of a token. -/
def SpellIs (k : Int) (t : List UInt8) (n : Int) (s : List UInt8) : Prop :=
  (k = 0 ∧ s = t) ∨ (k = 1 ∧ s = Lib.itoa n) ∨ (k = 2 ∧ s = Lx.clockTS n) ∨ (k = 3 ∧ ∃ y m d, DtIs n y m d ∧ s = Lx.dTS y m d) ∨ (k = 4 ∧ s = Lx.offTS n) ∨
  (k = 5 ∧ ∃ y m d, DtIs (n.tdiv 86400) y m d ∧ s = Lx.instTS y m d (n.tmod 86400)) ∨ ((k < 0 ∨ 5 < k) ∧ s = [])
theorem spell_ex (k : Int) (t : List UInt8) (n : Int) : ∃ s, SpellIs k t n s := by
  by_cases h : k < 0 ∨ 5 < k
  · exact ⟨[], .inr (.inr (.inr (.inr (.inr (.inr ⟨h, rfl⟩)))))⟩
  · have : k = 0 ∨ k = 1 ∨ k = 2 ∨ k = 3 ∨ k = 4 ∨ k = 5 := by omega
    rcases this with rfl | rfl | rfl | rfl | rfl | rfl
    · exact ⟨_, .inl ⟨rfl, rfl⟩⟩
    · exact ⟨_, .inr (.inl ⟨rfl, rfl⟩)⟩
    · exact ⟨_, .inr (.inr (.inl ⟨rfl, rfl⟩))⟩
    · obtain ⟨y, m, d, h⟩ := dt_ex n
      exact ⟨_, .inr (.inr (.inr (.inl ⟨rfl, y, m, d, h, rfl⟩)))⟩
    · exact ⟨_, .inr (.inr (.inr (.inr (.inl ⟨rfl, rfl⟩))))⟩
    · obtain ⟨y, m, d, h⟩ := dt_ex (n.tdiv 86400)
      exact ⟨_, .inr (.inr (.inr (.inr (.inr (.inl ⟨rfl, y, m, d, h, rfl⟩)))))⟩
theorem dateText_is {n y m d : Int} {s : ByteArray} (hs : (⟨(Lx.dTS y m d).toArray⟩ : ByteArray) = s) (h : DtIs n y m d) (w : World) (hT : LexT w) (hn : I64 n) :
    Calls Tryz.prog 104 #[.int .i64 n] w fun e w' => e = .returned (.string s) ∧ Below w.heap.size w w' := hs ▸ dateText_any h w hT hn
theorem keepN {b : Nat} {n : Int} {W wc w' : World} (h : wc.cell? ⟨b, 2, none⟩ = some (.int .i64 n) ∧ LexT wc ∧ Below W.heap.size W wc) (hb : Below wc.heap.size wc w') :
    w'.cell? ⟨b, 2, none⟩ = some (.int .i64 n) ∧ LexT w' ∧ Below W.heap.size W w' := ⟨cell_lift h.1 hb, h.2.1.below hb, bstep h.2.2 hb⟩
theorem sNT {a : Prop} {W wc : World} (h : a ∧ LexT wc ∧ Below W.heap.size W wc) : LexT wc := h.2.1
theorem sNB {a : Prop} {W wc : World} (h : a ∧ LexT wc ∧ Below W.heap.size W wc) : Below W.heap.size W wc := h.2.2
set_option maxHeartbeats 4000000 in
theorem sp_word (t : ByteArray) (n : Int) (w : World) (hT : LexT w) (hn : I64 n) :
    Calls Tryz.prog 76 #[.agg #[.int .i64 0, .string t, .int .i64 n]] w fun e w' => e = .returned (.string t) ∧ Below w.heap.size w w' := by
  have S0 := TokB.new w 0 t n
  have B0 := (Below.refl _ w).alloc (Nat.le_refl _) (.cells #[.int .i64 0, .string t, .int .i64 n] 44)
  have T0 := Lib.hid (hT.alloc (.cells #[.int .i64 0, .string t, .int .i64 n] 44))
  have ⟨t0, t1, t2, _, _, _⟩ := S0.cells
  have HN := Lib.hid hn
  clear hT hn
  go_enter Tryz.func76, Tryz.ntmps76
  go_wp2_with fail
  go_ret
  exact ⟨rfl, B0⟩
set_option maxHeartbeats 4000000 in
theorem sp_number (t : ByteArray) (n : Int) (w : World) (hT : LexT w) (hn : I64 n) (s : ByteArray) (HS : Hid ((⟨(Lib.itoa n).toArray⟩ : ByteArray) = s)) :
    Calls Tryz.prog 76 #[.agg #[.int .i64 1, .string t, .int .i64 n]] w fun e w' => e = .returned (.string s) ∧ Below w.heap.size w w' := by
  have S0 := TokB.new w 1 t n
  have B0 := (Below.refl _ w).alloc (Nat.le_refl _) (.cells #[.int .i64 1, .string t, .int .i64 n] 44)
  have T0 := Lib.hid (hT.alloc (.cells #[.int .i64 1, .string t, .int .i64 n] 44))
  have ⟨t0, t1, t2, _, _, _⟩ := S0.cells
  have HN := Lib.hid hn
  clear hT hn
  go_enter Tryz.func76, Tryz.ntmps76
  go_wp2_with fail
  refine (itoa_is HS.out _ T0.out HN.out.1 HN.out.2).mono ?_
  rintro e w1 ⟨rfl, b1⟩
  go_wp2_with fail
  go_ret
  exact ⟨rfl, bstep B0 b1⟩
set_option maxHeartbeats 4000000 in
theorem sp_clock (t : ByteArray) (n : Int) (w : World) (hT : LexT w) (hn : I64 n) (s : ByteArray) (HS : Hid ((⟨(Lx.clockTS n).toArray⟩ : ByteArray) = s)) :
    Calls Tryz.prog 76 #[.agg #[.int .i64 2, .string t, .int .i64 n]] w fun e w' => e = .returned (.string s) ∧ Below w.heap.size w w' := by
  have S0 := TokB.new w 2 t n
  have B0 := (Below.refl _ w).alloc (Nat.le_refl _) (.cells #[.int .i64 2, .string t, .int .i64 n] 44)
  have T0 := Lib.hid (hT.alloc (.cells #[.int .i64 2, .string t, .int .i64 n] 44))
  have ⟨t0, t1, t2, _, _, _⟩ := S0.cells
  have HN := Lib.hid hn
  clear hT hn
  go_enter Tryz.func76, Tryz.ntmps76
  go_wp2_with fail
  refine (clockText_is HS.out _ T0.out HN.out).mono ?_
  rintro e w1 ⟨rfl, b1⟩
  go_wp2_with fail
  go_ret
  exact ⟨rfl, bstep B0 b1⟩
set_option maxHeartbeats 4000000 in
theorem sp_date (t : ByteArray) (n : Int) (w : World) (hT : LexT w) (hn : I64 n) (y m d : Int) (HD : Hid (DtIs n y m d)) (s : ByteArray) (HS : Hid ((⟨(Lx.dTS y m d).toArray⟩ : ByteArray) = s)) :
    Calls Tryz.prog 76 #[.agg #[.int .i64 3, .string t, .int .i64 n]] w fun e w' => e = .returned (.string s) ∧ Below w.heap.size w w' := by
  have S0 := TokB.new w 3 t n
  have B0 := (Below.refl _ w).alloc (Nat.le_refl _) (.cells #[.int .i64 3, .string t, .int .i64 n] 44)
  have T0 := Lib.hid (hT.alloc (.cells #[.int .i64 3, .string t, .int .i64 n] 44))
  have ⟨t0, t1, t2, _, _, _⟩ := S0.cells
  have HN := Lib.hid hn
  clear hT hn
  go_enter Tryz.func76, Tryz.ntmps76
  go_wp2_with fail
  refine (dateText_is HS.out HD.out _ T0.out HN.out).mono ?_
  rintro e w1 ⟨rfl, b1⟩
  go_wp2_with fail
  go_ret
  exact ⟨rfl, bstep B0 b1⟩
set_option maxHeartbeats 4000000 in
theorem sp_offset (t : ByteArray) (n : Int) (w : World) (hT : LexT w) (hn : I64 n) (h1 : -9223372036854775807 ≤ n) (s : ByteArray) (HS : Hid ((⟨(Lx.offTS n).toArray⟩ : ByteArray) = s)) :
    Calls Tryz.prog 76 #[.agg #[.int .i64 4, .string t, .int .i64 n]] w fun e w' => e = .returned (.string s) ∧ Below w.heap.size w w' := by
  have S0 := TokB.new w 4 t n
  have B0 := (Below.refl _ w).alloc (Nat.le_refl _) (.cells #[.int .i64 4, .string t, .int .i64 n] 44)
  have T0 := Lib.hid (hT.alloc (.cells #[.int .i64 4, .string t, .int .i64 n] 44))
  have ⟨t0, t1, t2, _, _, _⟩ := S0.cells
  have HN := Lib.hid hn
  clear hT hn
  go_enter Tryz.func76, Tryz.ntmps76
  go_wp2_with fail
  refine (offText_is HS.out _ T0.out h1 HN.out.2).mono ?_
  rintro e w1 ⟨rfl, b1⟩
  go_wp2_with fail
  go_ret
  exact ⟨rfl, bstep B0 b1⟩
set_option maxHeartbeats 4000000 in
theorem sp_other (t : ByteArray) (n : Int) (w : World) (hT : LexT w) (hn : I64 n) (k : Int) (h0 : (k == 0) = false) (h1 : (k == 1) = false) (h2 : (k == 2) = false) (h3 : (k == 3) = false) (h4 : (k == 4) = false) (h5 : (k == 5) = false) :
    Calls Tryz.prog 76 #[.agg #[.int .i64 k, .string t, .int .i64 n]] w fun e w' => e = .returned (.string ⟨#[]⟩) ∧ Below w.heap.size w w' := by
  have S0 := TokB.new w k t n
  have B0 := (Below.refl _ w).alloc (Nat.le_refl _) (.cells #[.int .i64 k, .string t, .int .i64 n] 44)
  have T0 := Lib.hid (hT.alloc (.cells #[.int .i64 k, .string t, .int .i64 n] 44))
  have ⟨t0, t1, t2, _, _, _⟩ := S0.cells
  have HN := Lib.hid hn
  clear hT hn
  go_enter Tryz.func76, Tryz.ntmps76
  go_wp2_with fail
  go_ret
  exact ⟨rfl, B0⟩
set_option maxHeartbeats 4000000 in
theorem sp_instant (t : ByteArray) (n : Int) (w : World) (hT : LexT w) (hn : I64 n) (y m d : Int) (HD : Hid (DtIs (n.tdiv 86400) y m d)) :
    Calls Tryz.prog 76 #[.agg #[.int .i64 5, .string t, .int .i64 n]] w fun e w' => e = .returned (.string ⟨(Lx.instTS y m d (n.tmod 86400)).toArray⟩) ∧ Below w.heap.size w w' := by
  have qA := Int.mul_tdiv_add_tmod n 86400
  have rA := Civ.tmod_bd n 86400 (by omega)
  obtain ⟨D, hD⟩ : ∃ D, n.tdiv 86400 = D := ⟨_, rfl⟩
  obtain ⟨C, hC⟩ : ∃ C, n.tmod 86400 = C := ⟨_, rfl⟩
  rw [hD, hC] at qA
  rw [hC] at rA ⊢
  rw [hD] at HD
  have iD : I64 D := ⟨by have := hn.1; omega, by have := hn.2; omega⟩
  have iC : I64 C := ⟨by omega, by omega⟩
  have hbd := HD.out.bd
  obtain ⟨a, ha⟩ : ∃ a, (⟨(Lx.dTS y m d).toArray⟩ : ByteArray) = a := ⟨_, rfl⟩
  obtain ⟨b, hb'⟩ : ∃ b, (⟨(Lx.fullTS C).toArray⟩ : ByteArray) = b := ⟨_, rfl⟩
  have za : a.size ≤ 77 := by rw [← ha, ba_size]; exact date_size ⟨by omega, by omega⟩ ⟨by omega, by omega⟩ ⟨by omega, by omega⟩
  have zb : b.size ≤ 77 := by rw [← hb', ba_size]; exact full_size iC
  have HR := Lib.hid (show a ++ ⟨#[84]⟩ ++ b ++ ⟨#[90]⟩ = ⟨(Lx.instTS y m d C).toArray⟩ by
    unfold Lx.instTS
    rw [← ha, ← hb']
    show (ByteArray.mk (Lx.dTS y m d).toArray ++ ByteArray.mk [84].toArray ++ ByteArray.mk (Lx.fullTS C).toArray ++ ByteArray.mk [90].toArray) = _
    rw [mk_app, mk_app, mk_app]
    simp)
  have HA := Lib.hid ha
  have HB := Lib.hid hb'
  have n1 : ¬ 9223372036854775807 < a.size + 1 := by omega
  have n2 : ¬ 9223372036854775807 < a.size + 1 + b.size := by omega
  have n3 : ¬ 9223372036854775807 < a.size + 1 + b.size + 1 := by omega
  have j1 := iD.1
  have j2 := iD.2
  have u1 := wr_ D ⟨j1, j2⟩
  have u2 := wr_ C ⟨by omega, by omega⟩
  clear ha hb' qA hbd
  have S0 := TokB.new w 5 t n
  have B0 := (Below.refl _ w).alloc (Nat.le_refl _) (.cells #[.int .i64 5, .string t, .int .i64 n] 44)
  have T0 := Lib.hid (hT.alloc (.cells #[.int .i64 5, .string t, .int .i64 n] 44))
  have ⟨t0, t1, t2, _, _, _⟩ := S0.cells
  have HN := Lib.hid hn
  clear hT hn
  have S1 : (w.alloc (.cells #[.int .i64 5, .string t, .int .i64 n] 44)).cell? ⟨w.heap.size, 2, none⟩ = some (.int .i64 n) ∧ LexT (w.alloc (.cells #[.int .i64 5, .string t, .int .i64 n] 44)) ∧ Below w.heap.size w (w.alloc (.cells #[.int .i64 5, .string t, .int .i64 n] 44)) := ⟨t2, T0.out, B0⟩
  go_enter Tryz.func76, Tryz.ntmps76
  go_wp2_with fail
  go_region_held3 (fun w' => w'.cell? ⟨w.heap.size, 2, none⟩ = some (.int .i64 n) ∧ LexT w' ∧ Below w.heap.size w w')
    (first | (exact keepN S1 (Below.refl _ _).drew) | (exact keepN (by assumption) hb))
    (first | (go_at_call 104; ((with_reducible refine (dateText_is HA.out HD.out _ (sNT (by assumption)) iD).mono ?_); rintro e w' ⟨rfl, hb⟩)) | (go_at_call 106; ((with_reducible refine (fullText_is HB.out _ (sNT (by assumption)) iC).mono ?_); rintro e w' ⟨rfl, hb⟩)))
  go_wp2_with fail
  go_ret
  exact ⟨ret_str HR.out, sNB (by assumption)⟩

theorem spell_any {k n : Int} {t : ByteArray} {s : List UInt8} (h : SpellIs k t.data.toList n s) (w : World) (hT : LexT w) (hk : I64 k) (h1 : -9223372036854775807 ≤ n) (h2 : n ≤ 9223372036854775807) :
    Calls Tryz.prog 76 #[.agg #[.int .i64 k, .string t, .int .i64 n]] w fun e w' => e = .returned (.string ⟨s.toArray⟩) ∧ Below w.heap.size w w' := by
  have hn : I64 n := ⟨by omega, h2⟩
  rcases h with ⟨rfl, rfl⟩ | ⟨rfl, rfl⟩ | ⟨rfl, rfl⟩ | ⟨rfl, y, m, d, hd, rfl⟩ | ⟨rfl, rfl⟩ | ⟨rfl, y, m, d, hd, rfl⟩ | ⟨h, rfl⟩
  · rw [Lib.mk_data]
    exact sp_word t n w hT hn
  · exact sp_number t n w hT hn _ (Lib.hid rfl)
  · exact sp_clock t n w hT hn _ (Lib.hid rfl)
  · exact sp_date t n w hT hn y m d (Lib.hid hd) _ (Lib.hid rfl)
  · exact sp_offset t n w hT hn h1 _ (Lib.hid rfl)
  · exact sp_instant t n w hT hn y m d (Lib.hid hd)
  · exact sp_other t n w hT hn k (by simp only [beq_eq_false_iff_ne, ne_eq]; omega) (by simp only [beq_eq_false_iff_ne, ne_eq]; omega) (by simp only [beq_eq_false_iff_ne, ne_eq]; omega) (by simp only [beq_eq_false_iff_ne, ne_eq]; omega) (by simp only [beq_eq_false_iff_ne, ne_eq]; omega) (by simp only [beq_eq_false_iff_ne, ne_eq]; omega)
end Go.Proofs.YtoohijffkbkikaaGreatDoor
