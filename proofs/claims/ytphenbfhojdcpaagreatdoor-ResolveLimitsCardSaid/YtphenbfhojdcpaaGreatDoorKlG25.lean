/- Package resolve: Load. Plain facts for law08's examples: what Load makes of its three texts. law08's first text; Load at a given text. -/
import Derived.Test.YtphenbfhojdcpaaGreatDoorKlSdn
import Derived.Test.YtphenbfhojdcpaaGreatDoorKlG09
namespace Go.Proofs.YtphenbfhojdcpaaGreatDoor
open Go.RowKit
set_option linter.unusedSimpArgs false
set_option linter.unusedVariables false
set_option maxRecDepth 100000
/-- Statements that Build takes: not too many tokens, numbers that fit. -/
structure StmOk (ss : List Sy.St) : Prop where
  len : ss.length ≤ 100000
  sum : tokSum ss ≤ 880000
  fit : ∀ s ∈ ss, ∀ t ∈ s.2, I64 t.2.2
  key : ∀ s ∈ ss, smallS s.2 = true
set_option maxHeartbeats 8000000 in
theorem load_is {s : ByteArray} {P : Int × Int × List Sy.St} {R : Int × Int × Rs.Cfg} (hP : Sy.parS 0 (Sy.spl [] s.data.toList) = P) (hR : (if P.1 = 0 then Rs.buildS Rs.noCfg P.2.2 else (P.1, P.2.1, Rs.noCfg)) = R) (hs : s.size ≤ 65536) (w : World) (hT : LexT w) (hO : StmOk P.2.2) :
    Calls Tryz.prog 13 #[.string s] w (BuildV R w) := by
  have B0 := (Below.refl _ w).alloc (Nat.le_refl _) (.cells #[.slice none 0 0, .slice none 0 0, .slice none 0 0, .slice none 0 0] 27)
  have N0 := Lib.hid (BlkAt.new w #[.slice none 0 0, .slice none 0 0, .slice none 0 0, .slice none 0 0] 27)
  have HC := Lib.hid (parse_is hP hs _ (hT.below B0))
  have HB0 := Lib.hid B0
  have HT := Lib.hid hT
  have HO := Lib.hid hO
  obtain ⟨er, ln, ss⟩ := P
  simp only at hR hO
  have HR := Lib.hid hR
  clear B0 hT hO hR hP
  by_cases hz : er = 0
  · subst hz
    have HRR : Hid (Rs.buildS Rs.noCfg ss = R) := Lib.hid (by rw [← HR.out]; simp)
    clear HR
    go_enter Tryz.func13, Tryz.ntmps13
    go_wp2_with fail
    refine HC.out.mono ?_
    rintro e w2 ⟨A, c, rfl, hst, hc, b2⟩
    simp only at hst hc ⊢
    obtain ⟨n, hn⟩ : ∃ n, ss.length = n := ⟨_, rfl⟩
    rw [hn] at hc ⊢
    have hB2 : Below w.heap.size w w2 := bstepA (Below.refl _ _) b2
    have HB2 := Lib.hid hB2
    have HZ := Lib.hid (show w.heap.size < w2.heap.size by have := (N0.out.after b2).lt_; exact this)
    have N2 := Lib.hid (N0.out.after b2)
    have HBU := Lib.hid (build_is HRR.out A n c w2 hst hn (by have h0 : ss.length ≤ 100000 := HO.out.len; omega) hc HO.out.key HO.out.fit HO.out.sum (HT.out.below hB2))
    clear hst hc hn b2 hB2 HC N0
    go_wp2_with fail
    refine HBU.out.mono ?_
    rintro e w3 ⟨⟨a1, a2, a3⟩, ⟨b1, b2, b3⟩, ⟨c1, c2, c3⟩, ⟨d1, d2, d3⟩, rfl, bb, hcf, hg⟩
    simp only [cfgV]
    have N3 := N2.out.after bb
    have u0 : w3.cell? ⟨w.heap.size, 0, none⟩ = some (.slice none 0 0) := N3.cell rfl
    have u1 : w3.cell? ⟨w.heap.size, 1, none⟩ = some (.slice none 0 0) := N3.cell rfl
    have u2 : w3.cell? ⟨w.heap.size, 2, none⟩ = some (.slice none 0 0) := N3.cell rfl
    have u3 : w3.cell? ⟨w.heap.size, 3, none⟩ = some (.slice none 0 0) := N3.cell rfl
    have f0 := N3.free 0
    have f1 := N3.free 1
    have f2 := N3.free 2
    have f3 := N3.free 3
    have HB3 := Lib.hid (bstep HB2.out bb)
    have HCF := Lib.hid hcf
    have HG := Lib.hid hg
    obtain ⟨er, ln2, C2⟩ := R
    simp only at HCF HG ⊢
    clear bb hcf hg N3 N2 HBU HRR
    go_wp2_with fail
    refine bodyPost_ret (v := .tuple #[cfgV (a1, a2, a3) (b1, b2, b3) (c1, c2, c3) (d1, d2, d3), .int .i64 ln2, .int .i64 er]) (by simp [results, Tryz.results13, go_sem, u0, u1, u2, u3, f0, f1, f2, f3]; rfl) rfl ?_
    have hle := Nat.le_refl w.heap.size
    have kk : ∀ (W : World) (i : Nat) (v : Value), w3.heap.size ≤ W.heap.size → Kept w2.heap.size w3.heap.size W (W.setCell ⟨w.heap.size, i, none⟩ v) := fun W i v hW => Kept.of_grown (grown_set W _ i v) HZ.out hW
    have z1 : ∀ (W : World) (i : Nat) (v : Value), w3.heap.size ≤ W.heap.size → w3.heap.size ≤ (W.setCell ⟨w.heap.size, i, none⟩ v).heap.size := fun W i v hW => Nat.le_trans hW (grown_set W _ i v).size
    have y0 := Nat.le_refl w3.heap.size
    have y1 := z1 w3 0 (.slice a1 a2 a3) y0
    have y2 := z1 _ 1 (.slice b1 b2 b3) y1
    have y3 := z1 _ 2 (.slice c1 c2 c3) y2
    have y4 := z1 _ 3 (.slice d1 d2 d3) y3
    have K := (((kk w3 0 (.slice a1 a2 a3) y0).trans (kk _ 1 (.slice b1 b2 b3) y1)).trans (kk _ 2 (.slice c1 c2 c3) y2)).trans (kk _ 3 (.slice d1 d2 d3) y3)
    exact ⟨(a1, a2, a3), (b1, b2, b3), (c1, c2, c3), (d1, d2, d3), rfl, (((HB3.out.setCell (p := ⟨w.heap.size, 0, none⟩) hle _).setCell (p := ⟨w.heap.size, 1, none⟩) hle _).setCell (p := ⟨w.heap.size, 2, none⟩) hle _).setCell (p := ⟨w.heap.size, 3, none⟩) hle _, (HCF.out.kept K).mono (Nat.le_of_lt HZ.out) y4, HG.out⟩
  · have HRR : Hid (R = (er, ln, Rs.noCfg)) := Lib.hid (by rw [← HR.out]; simp [hz])
    have hz1 : (er != 0) = true := by simpa using hz
    clear HR hz
    go_enter Tryz.func13, Tryz.ntmps13
    go_wp2_with fail
    refine HC.out.mono ?_
    rintro e w2 ⟨A, c, rfl, hst, hc, b2⟩
    simp only at hst hc ⊢
    have N3 := N0.out.after b2
    have u0 : w2.cell? ⟨w.heap.size, 0, none⟩ = some (.slice none 0 0) := N3.cell rfl
    have u1 : w2.cell? ⟨w.heap.size, 1, none⟩ = some (.slice none 0 0) := N3.cell rfl
    have u2 : w2.cell? ⟨w.heap.size, 2, none⟩ = some (.slice none 0 0) := N3.cell rfl
    have u3 : w2.cell? ⟨w.heap.size, 3, none⟩ = some (.slice none 0 0) := N3.cell rfl
    have f0 := N3.free 0
    have f1 := N3.free 1
    have f2 := N3.free 2
    have f3 := N3.free 3
    have HB3 := Lib.hid (show Below w.heap.size w w2 from bstepA (Below.refl _ _) b2)
    clear b2 hst hc N3 HC N0
    go_wp2_with fail
    refine bodyPost_ret (v := .tuple #[cfgV noSV noSV noSV noSV, .int .i64 ln, .int .i64 er]) (by simp [results, Tryz.results13, go_sem, u0, u1, u2, u3, f0, f1, f2, f3]; rfl) rfl ?_
    have hle := Nat.le_refl w.heap.size
    exact BuildV.zero HRR.out ((((HB3.out.setCell (p := ⟨w.heap.size, 0, none⟩) hle _).setCell (p := ⟨w.heap.size, 1, none⟩) hle _).setCell (p := ⟨w.heap.size, 2, none⟩) hle _).setCell (p := ⟨w.heap.size, 3, none⟩) hle _)
end Go.Proofs.YtphenbfhojdcpaaGreatDoor
namespace Go.Proofs.YtphenbfhojdcpaaGreatDoor
set_option linter.unusedSimpArgs false
set_option linter.unusedVariables false
set_option maxRecDepth 100000
namespace R8
def t1 : List UInt8 := [122, 111, 110, 101, 32, 122, 32, 43, 48, 48, 58, 48, 48, 10, 112, 101, 114, 115, 111, 110, 32, 97, 32, 122, 10, 115, 99, 104, 101, 100, 117, 108, 101, 32, 115, 10, 108, 97, 121, 101, 114, 32, 108, 32, 122, 32, 50, 48, 50, 54, 45, 48, 49, 45, 48, 53, 32, 48, 57, 58, 48, 48, 32, 49, 32, 119, 101, 101, 107, 115, 10, 109, 101, 109, 98, 101, 114, 32, 97, 10]
def t2 : List UInt8 := [122, 111, 110, 101, 32, 122, 32, 43, 48, 48, 58, 48, 48, 10, 112, 101, 114, 115, 111, 110, 32, 97, 32, 122, 10, 109, 101, 109, 98, 101, 114, 32, 97, 10]
def t3 : List UInt8 := [112, 101, 114, 115, 111, 110, 32, 97, 32, 121, 10]
def okP (p : Int × Int × List Sy.St) : Bool := p.1 == 0 && decide (p.2.2.length ≤ 12) && decide ((p.2.2.map (·.2.length)).sum ≤ 100) && p.2.2.all (fun s => s.2.all fun t => decide (-9223372036854775808 ≤ t.2.2) && decide (t.2.2 ≤ 9223372036854775807))
theorem p1 : okP (Sy.parS 0 (Sy.spl [] t1)) = true := by kernel_rfl
theorem p2 : okP (Sy.parS 0 (Sy.spl [] t2)) = true := by kernel_rfl
theorem p3 : okP (Sy.parS 0 (Sy.spl [] t3)) = true := by kernel_rfl
theorem s2 : (Rs.loadS t2).1 = 9 ∧ (Rs.loadS t2).2.1 = 3 := by
  constructor <;> kernel_rfl
theorem s3 : (Rs.loadS t3).1 = 3 ∧ (Rs.loadS t3).2.1 = 1 := by
  constructor <;> kernel_rfl
theorem s1 : (Rs.loadS t1).1 = 0 ∧ (Rs.loadS t1).2.1 = 0 := by
  constructor <;> kernel_rfl
theorem s1n : (Rs.loadS t1).2.2.people.map (·.name) = [[97]] ∧ (Rs.loadS t1).2.2.scheds.map (·.name) = [[115]] ∧ (Rs.loadS t1).2.2.scheds.map (fun s => s.lays.map (·.unit)) = [[2]] := by
  refine ⟨?_, ?_, ?_⟩ <;> kernel_rfl
end R8
end Go.Proofs.YtphenbfhojdcpaaGreatDoor
namespace Go.Proofs.YtphenbfhojdcpaaGreatDoor
open Go.RowKit
set_option linter.unusedVariables false
set_option linter.unusedSimpArgs false
set_option maxRecDepth 100000
theorem t1_eq : (⟨R8.t1.toArray⟩ : ByteArray) = ⟨#[122, 111, 110, 101, 32, 122, 32, 43, 48, 48, 58, 48, 48, 10, 112, 101, 114, 115, 111, 110, 32, 97, 32, 122, 10, 115, 99, 104, 101, 100, 117, 108, 101, 32, 115, 10, 108, 97, 121, 101, 114, 32, 108, 32, 122, 32, 50, 48, 50, 54, 45, 48, 49, 45, 48, 53, 32, 48, 57, 58, 48, 48, 32, 49, 32, 119, 101, 101, 107, 115, 10, 109, 101, 109, 98, 101, 114, 32, 97, 10]⟩ := rfl
theorem text8_any (w : World) : Calls Tryz.prog 22 #[] w fun e w' => e = .returned (.string ⟨R8.t1.toArray⟩) ∧ w = w' := by
  have H := Lib.hid t1_eq
  go_enter Tryz.func22, Tryz.ntmps22
  go_wp2_with fail
  go_ret
  rw [H.out]
  exact ⟨rfl, rfl⟩
theorem stmOk_of {p : Int × Int × List Sy.St} (h : R8.okP p = true) (hk : (p.2.2.all fun s => smallS s.2) = true) : StmOk p.2.2 ∧ p.1 = 0 := by
  unfold R8.okP at h
  simp only [Bool.and_eq_true, beq_iff_eq, decide_eq_true_eq, List.all_eq_true] at h
  obtain ⟨⟨⟨a, b⟩, c⟩, d⟩ := h
  exact ⟨⟨by omega, by unfold tokSum; omega, fun s hs t ht => d s hs t ht, fun s hs => List.all_eq_true.1 hk s hs⟩, a⟩
/-- Load at a text whose lines all are statements. -/
theorem load_at {x : List UInt8} (h : R8.okP (Sy.parS 0 (Sy.spl [] x)) = true) (hk : ((Sy.parS 0 (Sy.spl [] x)).2.2.all fun s => smallS s.2) = true) (hl : x.length ≤ 65536) (w : World) (hT : LexT w) :
    Calls Tryz.prog 13 #[.string ⟨x.toArray⟩] w (BuildV (Rs.loadS x) w) :=
  load_is (s := ⟨x.toArray⟩) rfl (by show _ = Rs.loadS x; unfold Rs.loadS; rfl) (by rw [ba_size]; exact hl) w hT (stmOk_of h hk).1
theorem ky1 : ((Sy.parS 0 (Sy.spl [] R8.t1)).2.2.all fun s => smallS s.2) = true := by kernel_rfl
theorem ky2 : ((Sy.parS 0 (Sy.spl [] R8.t2)).2.2.all fun s => smallS s.2) = true := by kernel_rfl
theorem ky3 : ((Sy.parS 0 (Sy.spl [] R8.t3)).2.2.all fun s => smallS s.2) = true := by kernel_rfl
end Go.Proofs.YtphenbfhojdcpaaGreatDoor
