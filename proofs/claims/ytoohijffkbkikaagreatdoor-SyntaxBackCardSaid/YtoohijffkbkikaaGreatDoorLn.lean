/- What clockText, offsetText, dateText of package lexer return. -/
import Derived.Test.YtoohijffkbkikaaGreatDoorLm
namespace Go.Proofs.YtoohijffkbkikaaGreatDoor
open Go.RowKit
set_option linter.unusedVariables false
set_option linter.unusedSimpArgs false
set_option maxRecDepth 100000

theorem full_size {n : Int} (hn : I64 n) : (Lx.fullTS n).length ≤ 77 := by
  have qA := Int.mul_tdiv_add_tmod n 3600
  have rA := Civ.tmod_bd n 3600 (by omega)
  have rB := Civ.tmod_bd (n.tdiv 60) 60 (by omega)
  have rC := Civ.tmod_bd n 60 (by omega)
  have a := pad_size (n := n.tdiv 3600) (W := 2) ⟨by have := hn.1; omega, by have := hn.2; omega⟩ (by decide)
  have b := pad_size (n := (n.tdiv 60).tmod 60) (W := 2) ⟨by omega, by omega⟩ (by decide)
  have c := pad_size (n := n.tmod 60) (W := 2) ⟨by omega, by omega⟩ (by decide)
  unfold Lx.fullTS
  simp only [List.length_append, List.length_cons]
  omega
theorem fullText_is {n : Int} {s : ByteArray} (h : (⟨(Lx.fullTS n).toArray⟩ : ByteArray) = s) (w : World) (hT : LexT w) (hn : I64 n) :
    Calls Tryz.prog 106 #[.int .i64 n] w fun e w' => e = .returned (.string s) ∧ Below w.heap.size w w' := h ▸ fullText_any n w hT hn
theorem trims_is {s p r : ByteArray} (h : (⟨(Lib.trimSuffix s.data.toList p.data.toList).toArray⟩ : ByteArray) = r) (w : World) (hs : s.size ≤ 4000000000) :
    Calls Tryz.prog 129 #[.string s, .string p] w fun e w' => e = .returned (.string r) ∧ w = w' :=
  (Tryz.strings_TrimSuffix s p w (by omega)).mono fun e w' ⟨h1, h2⟩ => ⟨by rw [h1, h], h2.symm⟩
set_option maxHeartbeats 800000 in
theorem clockText_any (n : Int) (w : World) (hT : LexT w) (hn : I64 n) :
    Calls Tryz.prog 103 #[.int .i64 n] w fun e w' => e = .returned (.string ⟨(Lx.clockTS n).toArray⟩) ∧ Below w.heap.size w w' := by
  have hz := full_size hn
  obtain ⟨s, hs⟩ : ∃ s, (⟨(Lx.fullTS n).toArray⟩ : ByteArray) = s := ⟨_, rfl⟩
  have hss : s.size ≤ 4000000000 := by rw [← hs, ba_size]; omega
  have HR := Lib.hid (show (⟨(Lib.trimSuffix s.data.toList (⟨#[58, 48, 48]⟩ : ByteArray).data.toList).toArray⟩ : ByteArray) = ⟨(Lx.clockTS n).toArray⟩ by rw [← hs]; rfl)
  have HS := Lib.hid hs
  have HN := Lib.hid hn
  clear hs hz hn
  go_enter Tryz.func103, Tryz.ntmps103
  go_wp2_with fail
  refine (fullText_is HS.out _ hT HN.out).mono ?_
  rintro e w1 ⟨rfl, b1⟩
  go_wp2_with fail
  refine (trims_is HR.out _ hss).mono ?_
  rintro e w2 ⟨rfl, rfl⟩
  go_wp2_with fail
  go_ret
  exact ⟨rfl, b1⟩
theorem clockText_is {n : Int} {s : ByteArray} (h : (⟨(Lx.clockTS n).toArray⟩ : ByteArray) = s) (w : World) (hT : LexT w) (hn : I64 n) :
    Calls Tryz.prog 103 #[.int .i64 n] w fun e w' => e = .returned (.string s) ∧ Below w.heap.size w w' := h ▸ clockText_any n w hT hn
theorem clock_size {n : Int} (hn : I64 n) : (Lx.clockTS n).length ≤ 77 := Nat.le_trans (trim_le _ _) (full_size hn)
set_option maxHeartbeats 800000 in
theorem offText_any (n : Int) (w : World) (hT : LexT w) (h1 : -9223372036854775807 ≤ n) (h2 : n ≤ 9223372036854775807) :
    Calls Tryz.prog 105 #[.int .i64 n] w fun e w' => e = .returned (.string ⟨(Lx.offTS n).toArray⟩) ∧ Below w.heap.size w w' := by
  by_cases hn : n < 0
  · have hn' : I64 (-n) := ⟨by omega, by omega⟩
    obtain ⟨s, hs⟩ : ∃ s, (⟨(Lx.clockTS (-n)).toArray⟩ : ByteArray) = s := ⟨_, rfl⟩
    have hz := clock_size hn'
    have hss : s.size ≤ 77 := by rw [← hs, ba_size]; omega
    have HR := Lib.hid (show ⟨#[45]⟩ ++ s = ⟨(Lx.offTS n).toArray⟩ by
      rw [← hs]
      unfold Lx.offTS
      rw [if_pos hn]
      show (ByteArray.mk [45].toArray ++ _) = _
      rw [mk_app]
      rfl)
    have HS := Lib.hid hs
    have HN := Lib.hid hn'
    have n1 : ¬ 9223372036854775807 < 1 + s.size := by omega
    clear hs hz hn'
    go_enter Tryz.func105, Tryz.ntmps105
    go_wp2_with fail
    refine (clockText_is HS.out _ hT HN.out).mono ?_
    rintro e w1 ⟨rfl, b1⟩
    go_wp2_with fail
    go_ret
    exact ⟨ret_str HR.out, b1⟩
  · have hn' : I64 n := ⟨by omega, by omega⟩
    obtain ⟨s, hs⟩ : ∃ s, (⟨(Lx.clockTS n).toArray⟩ : ByteArray) = s := ⟨_, rfl⟩
    have hz := clock_size hn'
    have hss : s.size ≤ 77 := by rw [← hs, ba_size]; omega
    have HR := Lib.hid (show ⟨#[43]⟩ ++ s = ⟨(Lx.offTS n).toArray⟩ by
      rw [← hs]
      unfold Lx.offTS
      rw [if_neg hn]
      show (ByteArray.mk [43].toArray ++ _) = _
      rw [mk_app]
      rfl)
    have HS := Lib.hid hs
    have HN := Lib.hid hn'
    have n1 : ¬ 9223372036854775807 < 1 + s.size := by omega
    clear hs hz hn'
    go_enter Tryz.func105, Tryz.ntmps105
    go_wp2_with fail
    refine (clockText_is HS.out _ hT HN.out).mono ?_
    rintro e w1 ⟨rfl, b1⟩
    go_wp2_with fail
    go_ret
    exact ⟨ret_str HR.out, b1⟩
theorem offText_is {n : Int} {s : ByteArray} (h : (⟨(Lx.offTS n).toArray⟩ : ByteArray) = s) (w : World) (hT : LexT w) (h1 : -9223372036854775807 ≤ n) (h2 : n ≤ 9223372036854775807) :
    Calls Tryz.prog 105 #[.int .i64 n] w fun e w' => e = .returned (.string s) ∧ Below w.heap.size w w' := h ▸ offText_any n w hT h1 h2

/-- The date of a day; zeros, if the day has none. -/
def DtIs (n y m d : Int) : Prop := (Civ.vld y m d ∧ Civ.num y m d = n) ∨ ((n < 0 ∨ 98981 ≤ n) ∧ y = 0 ∧ m = 0 ∧ d = 0)
theorem dt_ex (n : Int) : ∃ y m d, DtIs n y m d := by
  by_cases h : n < 0 ∨ 98981 ≤ n
  · exact ⟨0, 0, 0, .inr ⟨h, rfl, rfl, rfl⟩⟩
  · obtain ⟨y, m, d, h1, h2⟩ := Civ.date_ex n (by omega) (by omega)
    exact ⟨y, m, d, .inl ⟨h1, h2⟩⟩
theorem DtIs.bd {n y m d : Int} (h : DtIs n y m d) : 0 ≤ y ∧ y ≤ 2240 ∧ 0 ≤ m ∧ m ≤ 12 ∧ 0 ≤ d ∧ d ≤ 31 := by
  rcases h with ⟨⟨h1, h2, h3, h4, h5, h6⟩, _⟩ | ⟨_, rfl, rfl, rfl⟩
  · have := Civ.dim_bd y m
    omega
  · omega
theorem dateOf_any {n y m d : Int} (h : DtIs n y m d) (w : World) (hT : CivT w) (hn : I64 n) :
    Calls Tryz.prog 130 #[.int .i64 n] w fun e w' => ∃ k : Int, e = .returned (.tuple #[.agg #[.int .i64 y, .int .i64 m, .int .i64 d], .int .i64 k]) ∧ Below w.heap.size w w' := by
  rcases h with ⟨h1, h2⟩ | ⟨h, rfl, rfl, rfl⟩
  · exact (dateOf_yes y m d n w hT h1 h2).mono fun e w' hh => ⟨0, hh⟩
  · exact (dateOf_no n w hn h).mono fun e w' hh => ⟨1, hh⟩
theorem date_size {y m d : Int} (hy : I64 y) (hm : I64 m) (hd : I64 d) : (Lx.dTS y m d).length ≤ 77 := by
  have a := pad_size (n := y) (W := 4) hy (by decide)
  have b := pad_size (n := m) (W := 2) hm (by decide)
  have c := pad_size (n := d) (W := 2) hd (by decide)
  unfold Lx.dTS
  simp only [List.length_append, List.length_cons]
  omega
set_option maxHeartbeats 4000000 in
theorem dateText_any {n y m d : Int} (h : DtIs n y m d) (w : World) (hT : LexT w) (hn : I64 n) :
    Calls Tryz.prog 104 #[.int .i64 n] w fun e w' => e = .returned (.string ⟨(Lx.dTS y m d).toArray⟩) ∧ Below w.heap.size w w' := by
  have hb := h.bd
  have iy : I64 y := ⟨by omega, by omega⟩
  have im : I64 m := ⟨by omega, by omega⟩
  have id : I64 d := ⟨by omega, by omega⟩
  obtain ⟨a, ha⟩ : ∃ a, (⟨(Lx.padS y 4).toArray⟩ : ByteArray) = a := ⟨_, rfl⟩
  obtain ⟨b, hb'⟩ : ∃ b, (⟨(Lx.padS m 2).toArray⟩ : ByteArray) = b := ⟨_, rfl⟩
  obtain ⟨c, hc⟩ : ∃ c, (⟨(Lx.padS d 2).toArray⟩ : ByteArray) = c := ⟨_, rfl⟩
  have za : a.size ≤ 25 := by rw [← ha, ba_size]; exact pad_size iy (by decide)
  have zb : b.size ≤ 25 := by rw [← hb', ba_size]; exact pad_size im (by decide)
  have zc : c.size ≤ 25 := by rw [← hc, ba_size]; exact pad_size id (by decide)
  have HR := Lib.hid (show a ++ ⟨#[45]⟩ ++ b ++ ⟨#[45]⟩ ++ c = ⟨(Lx.dTS y m d).toArray⟩ by
    unfold Lx.dTS
    rw [← ha, ← hb', ← hc]
    show (ByteArray.mk (Lx.padS y 4).toArray ++ ByteArray.mk [45].toArray ++ ByteArray.mk (Lx.padS m 2).toArray ++ ByteArray.mk [45].toArray ++ ByteArray.mk (Lx.padS d 2).toArray) = _
    rw [mk_app, mk_app, mk_app, mk_app]
    simp)
  have HA := Lib.hid ha
  have HB := Lib.hid hb'
  have HC := Lib.hid hc
  have HT := Lib.hid hT
  have HD := Lib.hid h
  have HN := Lib.hid hn
  have n1 : ¬ 9223372036854775807 < a.size + 1 := by omega
  have n2 : ¬ 9223372036854775807 < a.size + 1 + b.size := by omega
  have n3 : ¬ 9223372036854775807 < a.size + 1 + b.size + 1 := by omega
  have n4 : ¬ 9223372036854775807 < a.size + 1 + b.size + 1 + c.size := by omega
  clear ha hb' hc hb hT h hn
  go_enter Tryz.func104, Tryz.ntmps104
  go_wp2_with fail
  refine (dateOf_any HD.out _ HT.out.civ HN.out).mono ?_
  rintro e w1 ⟨k, rfl, b1⟩
  obtain ⟨bl, hbl⟩ : ∃ b, w1.heap.size = b := ⟨_, rfl⟩
  have T1 := (HT.out.below b1).alloc (.cells #[.int .i64 y, .int .i64 m, .int .i64 d] 108)
  have D1 := BlkAt.new w1 #[.int .i64 y, .int .i64 m, .int .i64 d] 108
  have B1 := b1.alloc b1.size (.cells #[.int .i64 y, .int .i64 m, .int .i64 d] 108)
  have S1 : (w1.alloc (.cells #[.int .i64 y, .int .i64 m, .int .i64 d] 108)).cell? ⟨w1.heap.size, 0, none⟩ = some (.int .i64 y) ∧ (w1.alloc (.cells #[.int .i64 y, .int .i64 m, .int .i64 d] 108)).cell? ⟨w1.heap.size, 1, none⟩ = some (.int .i64 m) ∧ (w1.alloc (.cells #[.int .i64 y, .int .i64 m, .int .i64 d] 108)).cell? ⟨w1.heap.size, 2, none⟩ = some (.int .i64 d) ∧ LexT (w1.alloc (.cells #[.int .i64 y, .int .i64 m, .int .i64 d] 108)) ∧ Below w.heap.size w (w1.alloc (.cells #[.int .i64 y, .int .i64 m, .int .i64 d] 108)) := ⟨D1.cell rfl, D1.cell rfl, D1.cell rfl, T1, B1⟩
  clear T1 D1 B1 hbl
  go_wp2_with fail
  go_region_held3 (fun w' => w'.cell? ⟨w1.heap.size, 0, none⟩ = some (.int .i64 y) ∧ w'.cell? ⟨w1.heap.size, 1, none⟩ = some (.int .i64 m) ∧ w'.cell? ⟨w1.heap.size, 2, none⟩ = some (.int .i64 d) ∧ LexT w' ∧ Below w.heap.size w w')
    (first | (exact keepD S1 (Below.refl _ _).drew) | (exact keepD (by assumption) hb))
    (first | (go_at_call 131; ((with_reducible refine (pad4_is HA.out _ (sDT (by assumption)) iy).mono ?_); rintro e w' ⟨rfl, hb⟩)) | (go_at_call 131; ((with_reducible refine (pad2_is HB.out _ (sDT (by assumption)) im).mono ?_); rintro e w' ⟨rfl, hb⟩)) | (go_at_call 131; ((with_reducible refine (pad2_is HC.out _ (sDT (by assumption)) id).mono ?_); rintro e w' ⟨rfl, hb⟩)))
  go_wp2_with fail
  go_ret
  exact ⟨ret_str HR.out, sDB (by assumption)⟩
end Go.Proofs.YtoohijffkbkikaaGreatDoor
