/- Plain facts on drawn zones: each of them is valid, and its transitions lie in two years. No program is named here. -/
import Derived.Test.YtndngkfiamdohaaDoorZl
namespace Go.Proofs.YtndngkfiamdohaaDoor
set_option linter.unusedSimpArgs false
set_option linter.unusedVariables false
namespace Zn
/-- What the dice make. -/
structure Good (off : Int) (rs : List Rule) : Prop where
  ex : ∃ ts, trans off rs = (ts, 0) ∧ ∀ x ∈ ts, 1700000000 ≤ x.1 ∧ x.1 ≤ 1800000000
  len : rs.length ≤ 2
  all : rs.all okR = true
  lo : -42300 ≤ off
  hi : off ≤ 45000
theorem trans_all {off : Int} {rs : List Rule} {ts : L} (h1 : okO off = true) (h2 : rs.length ≤ 16) (h3 : rs.all okR = true) (h4 : cnt rs ≤ 640) (h5 : fol off 0 (Zs.srt (flat rs)) = some ts) : trans off rs = (ts, 0) := by
  unfold trans
  rw [if_neg (by rw [h1]; decide), if_neg (by omega), if_neg (by rw [h3]; decide), if_neg (by omega), h5]
theorem good0 {off : Int} (h1 : -42300 ≤ off) (h2 : off ≤ 45000) : Good off [] :=
  ⟨⟨[], trans_all (okO_iff.2 (by omega)) (by simp) rfl (by simp [cnt]) (by simp [flat, Zs.srt, fol]), fun x hx => by cases hx⟩, by simp, rfl, h1, h2⟩
theorem fol_one {off p a : Int} (hp : p ≠ off) (h : -86400 < p - off ∧ p - off < 86400) (h1 : 1720000000 ≤ a) (h2 : a ≤ 1799000000) (ho : -64800 ≤ off ∧ off ≤ 64800) : fol off 0 [(a, p)] = some [(a - off, p)] := by
  rw [fol_add hp (by omega), fol]; rfl
theorem fol_two {off p a b : Int} (hp : p ≠ off) (h : -86400 < p - off ∧ p - off < 86400) (h1 : 1720000000 ≤ a) (h2 : b ≤ 1799000000) (ho : -64800 ≤ off ∧ off ≤ 64800) (hpo : -64800 ≤ p ∧ p ≤ 64800) (hab : a + 700000 ≤ b) : fol off 0 [(a, p), (b, off)] = some [(a - off, p), (b - p, off)] := by
  rw [fol_add hp (by omega), fol_add (fun e => hp e.symm) (by omega), fol]; rfl
theorem fol_four {off p a b c d : Int} (hp : p ≠ off) (h : -86400 < p - off ∧ p - off < 86400) (h1 : 1720000000 ≤ a) (h2 : d ≤ 1799000000) (ho : -64800 ≤ off ∧ off ≤ 64800) (hpo : -64800 ≤ p ∧ p ≤ 64800) (hab : a + 700000 ≤ b) (hbc : b + 700000 ≤ c) (hcd : c + 700000 ≤ d) :
    fol off 0 [(a, p), (b, off), (c, p), (d, off)] = some [(a - off, p), (b - p, off), (c - off, p), (d - p, off)] := by
  rw [fol_add hp (by omega), fol_add (fun e => hp e.symm) (by omega), fol_add hp (by omega), fol_add (fun e => hp e.symm) (by omega), fol]; rfl
theorem srt_four {a b c d : Int} {p q : Int} (hab : a < b) (hbc : b < c) (hcd : c < d) : Zs.srt [(a, p), (c, p), (b, q), (d, q)] = [(a, p), (b, q), (c, p), (d, q)] := by
  have e : Zs.srt [(a, p), (c, p), (b, q), (d, q)] = Zs.insr (d, q) (Zs.insr (b, q) (Zs.insr (c, p) (Zs.insr (a, p) []))) := rfl
  rw [e]
  simp only [Zs.insr]
  rw [if_pos (by omega)]
  simp only [Zs.insr]
  rw [if_pos (by omega), if_neg (by omega)]
  simp only [Zs.insr]
  rw [if_pos (by omega), if_pos (by omega), if_pos (by omega)]
theorem nthD_bd {F len k v : Int} (hl : 28 ≤ len) (hl2 : len ≤ 31) (k1 : 1 ≤ k) (k2 : k ≤ 5) : Civ.nthD F len k v < F + len ∧ F + 7 * (k - 1) - 7 ≤ Civ.nthD F len k v ∧ Civ.nthD F len k v ≤ F + 7 * (k - 1) + 6 ∧ (k ≤ 4 → F + 7 * (k - 1) ≤ Civ.nthD F len k v) := by
  unfold Civ.nthD Civ.wd
  split <;> omega
theorem num_2025_1 : Civ.num 2025 1 1 = 20089 := by decide
theorem num_2025_2 : Civ.num 2025 2 1 = 20120 := by decide
theorem num_2025_3 : Civ.num 2025 3 1 = 20148 := by decide
theorem num_2025_10 : Civ.num 2025 10 1 = 20362 := by decide
theorem num_2026_1 : Civ.num 2026 1 1 = 20454 := by decide
theorem num_2026_2 : Civ.num 2026 2 1 = 20485 := by decide
theorem num_2026_3 : Civ.num 2026 3 1 = 20513 := by decide
theorem num_2026_10 : Civ.num 2026 10 1 = 20727 := by decide
theorem dim_all (y m : Int) (h1 : 1 ≤ m) (h2 : m ≤ 12) : 28 ≤ Civ.dim y m ∧ Civ.dim y m ≤ 31 := ⟨Civ.dim_lo h1 h2, (Civ.dim_bd y m).2⟩
theorem good_two {off p last : Int} {r1 r2 : Rule} (h1 : -42300 ≤ off) (h2 : off ≤ 45000) (hl : last = 2025 ∨ last = 2026) (hp : p ≠ off) (hpd : -16000 ≤ p - off ∧ p - off ≤ 16000)
    (o1 : okR r1 = true) (o2 : okR r2 = true) (f1 : r1.fr = 2025) (f2 : r2.fr = 2025) (t1 : r1.to = last) (t2 : r2.to = last) (p1 : r1.off = p) (p2 : r2.off = off) {a b c d : Int}
    (ea : nth r1 2025 * 86400 + r1.sec = a) (eb : nth r2 2025 * 86400 + r2.sec = b) (ec : nth r1 2026 * 86400 + r1.sec = c) (ed : nth r2 2026 * 86400 + r2.sec = d)
    (ha : 1720000000 ≤ a) (hab : a + 700000 ≤ b) (hbc : b + 700000 ≤ c) (hcd : c + 700000 ≤ d) (hd : d ≤ 1799000000) : Good off [r1, r2] := by
  have hall : [r1, r2].all okR = true := by simp [o1, o2]
  rcases hl with rfl | rfl
  · have y1 : yrs r1 = 1 := by unfold yrs; omega
    have y2 : yrs r2 = 1 := by unfold yrs; omega
    have e1 : occR r1 = [(a, p)] := by unfold occR; rw [y1, f1, occ, occ, ea, p1]
    have e2 : occR r2 = [(b, off)] := by unfold occR; rw [y2, f2, occ, occ, eb, p2]
    have ef : flat [r1, r2] = [(a, p), (b, off)] := by unfold flat; simp [e1, e2]
    have es : Zs.srt [(a, p), (b, off)] = [(a, p), (b, off)] := Zs.srt_self (Zs.Asc.cons.2 ⟨fun y hy => by simp at hy; subst hy; simp only; omega, Zs.Asc.one _⟩)
    refine ⟨⟨[(a - off, p), (b - p, off)], trans_all (okO_iff.2 (by omega)) (by simp) hall (by unfold cnt; simp; omega) ?_, ?_⟩, by simp, hall, h1, h2⟩
    · rw [ef, es]; exact fol_two hp (by omega) ha (by omega) (by omega) (by omega) hab
    · intro x hx
      simp at hx
      rcases hx with rfl | rfl <;> simp only <;> omega
  · have y1 : yrs r1 = 2 := by unfold yrs; omega
    have y2 : yrs r2 = 2 := by unfold yrs; omega
    have e1 : occR r1 = [(a, p), (c, p)] := by unfold occR; rw [y1, f1, occ, occ, occ, ea, show (2025 : Int) + 1 = 2026 from rfl, ec, p1]
    have e2 : occR r2 = [(b, off), (d, off)] := by unfold occR; rw [y2, f2, occ, occ, occ, eb, show (2025 : Int) + 1 = 2026 from rfl, ed, p2]
    have ef : flat [r1, r2] = [(a, p), (c, p), (b, off), (d, off)] := by unfold flat; simp [e1, e2]
    refine ⟨⟨[(a - off, p), (b - p, off), (c - off, p), (d - p, off)], trans_all (okO_iff.2 (by omega)) (by simp) hall (by unfold cnt; simp; omega) ?_, ?_⟩, by simp, hall, h1, h2⟩
    · rw [ef, srt_four (by omega) (by omega) (by omega)]; exact fol_four hp (by omega) ha hd (by omega) (by omega) hab hbc hcd
    · intro x hx
      simp at hx
      rcases hx with rfl | rfl | rfl | rfl <;> simp only <;> omega
theorem good1 {off last : Int} (h1 : -42300 ≤ off) (h2 : off ≤ 45000) (hl : last = 2025 ∨ last = 2026) : Good off [⟨2025, last, 3, 5, 6, 7200, off + 3600⟩, ⟨2025, last, 10, 5, 6, 10800, off⟩] := by
  have d1 := dim_all 2025 3 (by omega) (by omega)
  have d2 := dim_all 2025 10 (by omega) (by omega)
  have d3 := dim_all 2026 3 (by omega) (by omega)
  have d4 := dim_all 2026 10 (by omega) (by omega)
  have n1 := nthD_bd (F := 20148) (k := 5) (v := 6) d1.1 d1.2 (by omega) (by omega)
  have n2 := nthD_bd (F := 20362) (k := 5) (v := 6) d2.1 d2.2 (by omega) (by omega)
  have n3 := nthD_bd (F := 20513) (k := 5) (v := 6) d3.1 d3.2 (by omega) (by omega)
  have n4 := nthD_bd (F := 20727) (k := 5) (v := 6) d4.1 d4.2 (by omega) (by omega)
  refine good_two (p := off + 3600) (last := last) h1 h2 hl (by omega) (by omega) (okR_iff.2 (by simp only; omega)) (okR_iff.2 (by simp only; omega)) rfl rfl rfl rfl rfl rfl rfl rfl rfl rfl ?_ ?_ ?_ ?_ ?_
  all_goals
    simp only [nth, num_2025_3, num_2025_10, num_2026_3, num_2026_10]
    omega
theorem good2 {off last k1 v1 s1 e m k2 v2 s2 : Int} (h1 : -42300 ≤ off) (h2 : off ≤ 45000) (hl : last = 2025 ∨ last = 2026) (hk : 1 ≤ k1 ∧ k1 ≤ 4) (hv : 0 ≤ v1 ∧ v1 ≤ 6) (hs : 0 ≤ s1 ∧ s1 ≤ 82800) (he : 1800 ≤ e ∧ e ≤ 14400) (hm : m = 2 ∨ m = 3) (hk2 : k2 = 2 ∨ k2 = 3 ∨ k2 = 5) (hv2 : 0 ≤ v2 ∧ v2 ≤ 6) (hs2 : 0 ≤ s2 ∧ s2 ≤ 82800) :
    Good off [⟨2025, last, 1, k1, v1, s1, off + e⟩, ⟨2025, last, m, k2, v2, s2, off⟩] := by
  have d1 := dim_all 2025 1 (by omega) (by omega)
  have d2 := dim_all 2025 m (by omega) (by omega)
  have d3 := dim_all 2026 1 (by omega) (by omega)
  have d4 := dim_all 2026 m (by omega) (by omega)
  have n1 := nthD_bd (F := 20089) (k := k1) (v := v1) d1.1 d1.2 (by omega) (by omega)
  have n2 := nthD_bd (F := Civ.num 2025 m 1) (k := k2) (v := v2) d2.1 d2.2 (by omega) (by omega)
  have n3 := nthD_bd (F := 20454) (k := k1) (v := v1) d3.1 d3.2 (by omega) (by omega)
  have n4 := nthD_bd (F := Civ.num 2026 m 1) (k := k2) (v := v2) d4.1 d4.2 (by omega) (by omega)
  have m1 : 20120 ≤ Civ.num 2025 m 1 ∧ Civ.num 2025 m 1 ≤ 20148 ∧ 20485 ≤ Civ.num 2026 m 1 ∧ Civ.num 2026 m 1 ≤ 20513 := by
    rcases hm with rfl | rfl
    · rw [num_2025_2, num_2026_2]; omega
    · rw [num_2025_3, num_2026_3]; omega
  refine good_two (p := off + e) (last := last) h1 h2 hl (by omega) (by omega) (okR_iff.2 (by simp only; omega)) (okR_iff.2 (by simp only; omega)) rfl rfl rfl rfl rfl rfl rfl rfl rfl rfl ?_ ?_ ?_ ?_ ?_
  all_goals
    simp only [nth, num_2025_1, num_2026_1]
    omega
theorem good3 {off x v s : Int} (h1 : -42300 ≤ off) (h2 : off ≤ 45000) (hv : 0 ≤ v ∧ v ≤ 6) (hs : 0 ≤ s ∧ s ≤ 84600) (hx : -64800 ≤ x ∧ x ≤ 64800) (hx2 : -86400 < x - off ∧ x - off < 86400) : Good off [⟨2026, 2026, 1, 2, v, s, x⟩] := by
  have d3 := dim_all 2026 1 (by omega) (by omega)
  have n3 := nthD_bd (F := 20454) (k := 2) (v := v) d3.1 d3.2 (by omega) (by omega)
  have ho : okR ⟨2026, 2026, 1, 2, v, s, x⟩ = true := okR_iff.2 (by simp only; omega)
  have hall : [(⟨2026, 2026, 1, 2, v, s, x⟩ : Rule)].all okR = true := by simp [ho]
  obtain ⟨a, ha⟩ : ∃ a, nth ⟨2026, 2026, 1, 2, v, s, x⟩ 2026 * 86400 + s = a := ⟨_, rfl⟩
  have hab : 1720000000 ≤ a ∧ a ≤ 1799000000 := by
    rw [← ha]
    simp only [nth, num_2026_1]
    omega
  have e1 : flat [(⟨2026, 2026, 1, 2, v, s, x⟩ : Rule)] = [(a, x)] := by
    have : yrs ⟨2026, 2026, 1, 2, v, s, x⟩ = 1 := rfl
    unfold flat
    simp only [List.flatMap_cons, List.flatMap_nil, occR, this, occ, List.append_nil]
    rw [ha]
  have es : Zs.srt [(a, x)] = [(a, x)] := Zs.srt_self (Zs.Asc.one _)
  by_cases hxo : x = off
  · refine ⟨⟨[], trans_all (okO_iff.2 (by omega)) (by simp) hall (by unfold cnt; simp) ?_, fun x hx => by cases hx⟩, by simp, hall, h1, h2⟩
    rw [e1, es, fol_skip hxo, fol]
  · refine ⟨⟨[(a - off, x)], trans_all (okO_iff.2 (by omega)) (by simp) hall (by unfold cnt; simp) ?_, fun y hy => ?_⟩, by simp, hall, h1, h2⟩
    · rw [e1, es]; exact fol_one hxo hx2 (by omega) (by omega) (by omega)
    · simp at hy; subst hy; simp only; omega
end Zn
end Go.Proofs.YtndngkfiamdohaaDoor
