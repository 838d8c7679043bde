/- Package zone's follow, Transitions, Check and Horizon. -/
import Derived.Test.YtndngkfiamdohaaDoorZnb
namespace Go.Proofs.YtndngkfiamdohaaDoor
open Go.RowKit
set_option linter.unusedVariables false
set_option linter.unusedSimpArgs false

/-- The call hands back these transitions and this error. -/
def GivesT (ts : Zn.L) (er : Int) (w : World) (e : Ending) (w' : World) : Prop := ∃ A c, e = .returned (.tuple #[.slice A ts.length c, .int .i64 er]) ∧ PairsAt w' A ts ∧ Below w.heap.size w w'
theorem GivesT.none_ {w w' : World} {er : Int} (h : Below w.heap.size w w') : GivesT [] er w (.returned (.tuple #[.slice none 0 0, .int .i64 er])) w' := ⟨none, 0, rfl, ListAt.nil_, h⟩
def folR (f : Option Zn.L) : Zn.L := match f with | none => [] | some l => l
def folE (f : Option Zn.L) : Int := match f with | none => 6 | some _ => 0
def PairBlk (w : World) (b : Nat) (x : Int × Int) (T : TypeId) : Prop := BlkAt w b #[.int .i64 x.1, .int .i64 x.2] T
theorem PairBlk.cells {w : World} {b : Nat} {x : Int × Int} {T : TypeId} (h : PairBlk w b x T) : w.cell? ⟨b, 0, none⟩ = some (.int .i64 x.1) ∧ w.cell? ⟨b, 1, none⟩ = some (.int .i64 x.2) := ⟨BlkAt.cell h rfl, BlkAt.cell h rfl⟩

set_option maxHeartbeats 8000000 in
set_option maxRecDepth 100000 in
theorem follow_any (off : Int) (A : Option Addr) (n c : Nat) (l : Zn.L) (w : World) (hA : PairsAt w A l) (hn : l.length = n) (hn640 : n ≤ 640) (hoff : Zn.okO off = true) (hl : ∀ x ∈ l, 0 ≤ x.1 ∧ x.1 ≤ 8551958400 ∧ -64800 ≤ x.2 ∧ x.2 ≤ 64800) :
    Calls Tryd.prog 54 #[.int .i64 off, .slice A n c] w (GivesT (folR (Zn.fol off 0 l)) (folE (Zn.fol off 0 l)) w) := by
  obtain ⟨f, hf⟩ : ∃ f, Zn.fol off 0 l = f := ⟨_, rfl⟩
  have hst := Zn.At.start l off
  rw [hf] at hst ⊢
  have HN := Lib.hid hn
  have HL := Lib.hid hl
  have HST := Lib.hid hst
  rw [Zn.okO_iff] at hoff
  obtain ⟨o1, o2⟩ := hoff
  clear hn hl hst hf
  go_enter Tryd.func54, Tryd.ntmps54
  go_wp2_with fail
  go_loopw [0, 6, 7, 14] (fun vo v ve i wr => ∃ (k : Nat) (now ear : Int) (out : Zn.L), k ≤ n ∧ i = .int .i64 k ∧ vo = .int .i64 now ∧ ve = .int .i64 ear ∧ -64800 ≤ now ∧ now ≤ 64800 ∧ 0 ≤ ear ∧ ear ≤ 8600000000 ∧ out.length ≤ k ∧ Hid (Zn.At l f k now ear out) ∧ Hid (OwnL 66 2 ePair wr w.heap.size v out) ∧ Hid (Below w.heap.size w wr)) (fun _ _ _ i _ => n - (intOf i).toNat)
  case atStart => exact ⟨0, off, 0, [], Nat.zero_le _, rfl, rfl, rfl, o1, o2, by omega, by omega, by simp, HST, Lib.hid (OwnL.nil_ _ _), Lib.hid (Below.refl _ _)⟩
  case round =>
    clear HST o1 o2
    obtain ⟨k, now, ear, out, hk, rfl, rfl, rfl, w1, w2, e1, e2, hol, HAt, HO, HB⟩ := hrel
    by_cases hlt : k < n
    · obtain ⟨⟨loc, o⟩, hx⟩ := get_ex (xs := l) (i := k) (by have := HN.out; omega)
      obtain ⟨b, of, rfl, hb, hc⟩ := (hA.below HB.out) (by have := HN.out; omega)
      obtain ⟨c0, c1⟩ := pair_cells (hc k _ hx)
      simp only at c0 c1
      have hbd := HL.out _ (List.mem_of_getElem? hx)
      simp only at hbd
      obtain ⟨g1, g2, g3, g4⟩ := hbd
      have hgd : l.getD k (0, 0) = (loc, o) := by simp [List.getD, hx]
      have hkl : k < l.length := by have := HN.out; omega
      have HGD := Lib.hid hgd
      have hrz := HB.out.size
      clear hc hx hgd
      by_cases hs : o = now
      · have A2 := Lib.hid (HAt.out.skip hkl (by rw [HGD.out, hs]))
        subst hs
        clear HAt
        as_aux_lemma =>
        go_wp2_with fail
        go_roundw
        case rel => exact ⟨k + 1, o, ear, out, by omega, by go_num, rfl, rfl, w1, w2, e1, e2, by omega, A2, Lib.hid (HO.out.alloc _), Lib.hid (HB.out.alloc hrz _)⟩
        case measure => simp [intOf]; omega
      · have hne : (o == now) = false := by simpa using hs
        have s1 : IntKind.i64.wrap (o - now) = o - now := by rw [IntKind.wrap_i64]; omega
        have s2 : IntKind.i64.wrap (loc - now) = loc - now := by rw [IntKind.wrap_i64]; omega
        by_cases hbad : o - now ≤ -86400 ∨ 86400 ≤ o - now ∨ loc - now < ear ∨ 8589934592 < loc - now
        · have hf := HAt.out.bad hkl HGD.out hs hbad
          subst hf
          have hcs : (o - now ≤ -86400) ∨ (¬ o - now ≤ -86400 ∧ 86400 ≤ o - now) ∨ (¬ o - now ≤ -86400 ∧ ¬ 86400 ≤ o - now ∧ loc - now < ear) ∨ (¬ o - now ≤ -86400 ∧ ¬ 86400 ≤ o - now ∧ ¬ loc - now < ear ∧ 8589934592 < loc - now) := by omega
          clear hbad HAt
          have hcs2 : (o - now ≤ -86400) ∨ (¬ o - now ≤ -86400 ∧ 86400 ≤ o - now) ∨ (¬ o - now ≤ -86400 ∧ ¬ 86400 ≤ o - now ∧ loc - now < ear) := by omega
          clear hcs
          rcases hcs2 with h1 | ⟨h1, h2⟩ | ⟨h1, h2, h3⟩
          all_goals
            as_aux_lemma =>
            go_wp2_with fail
            go_quiet (fail)
            go_wp2_with fail
            go_ret2
            exact GivesT.none_ (below_drewN (HB.out.alloc hrz _) _)
        · have A2 := Lib.hid (HAt.out.add hkl HGD.out hs hbad)
          have hcs : ¬ o - now ≤ -86400 ∧ ¬ 86400 ≤ o - now ∧ ¬ loc - now < ear ∧ ¬ 8589934592 < loc - now := by omega
          obtain ⟨h1, h2, h3, h4⟩ := hcs
          have PB : PairBlk (wr.alloc (.cells #[.int .i64 loc, .int .i64 o] 98)) wr.heap.size (loc, o) 98 := BlkAt.new _ _ _
          have HPB := Lib.hid PB
          have HNE := Lib.hid (own_block HO.out (Nat.le_refl _))
          have hol2 : out.length ≤ 900000 := by omega
          clear hbad HAt PB
          as_aux_lemma =>
          go_wp2_with fail
          go_quiet (fail)
          go_wp2_with (at_builtin; refine wp_append_one kTra _ rfl _ _ rfl w.heap.size _ out rfl (((HO.out.alloc _).alloc _).drewN _) (wr.heap.size + 1) (loc - now, o) rfl (pair_new (x := (loc - now, o)) (by simp)) hol2 (by simp; omega) ?_; intro gg cap w3 hO3 hB3 hg3 hgo _; have P5 : PairBlk w3 wr.heap.size (loc, o) 98 := ((BlkAt.alloc HPB.out _).drewN nq).grown hg3 (fun e => HNE.out e.symm); obtain ⟨d0, d1⟩ := PairBlk.cells P5; simp only at d0 d1)
          have B5 : Below w.heap.size w w3 := (below_drewN ((HB.out.alloc hrz _).alloc (by simp; omega) _) nq).trans hB3
          have O5 := Lib.hid hO3
          have B5 := Lib.hid B5
          clear hO3 hB3 hg3 hgo P5 c0 c1
          go_wp2_with fail
          go_roundw
          case rel => exact ⟨k + 1, o, loc - now + 604800, out ++ [(loc - now, o)], by omega, by go_num, rfl, rfl, g3, g4, by omega, by omega, by simp; omega, A2, O5, B5⟩
          case measure => simp [intOf]; omega
    · obtain rfl : k = n := by omega
      have hf := HAt.out
      rw [← HN.out] at hf
      have hf2 := hf.done
      subst hf2
      obtain ⟨A1, c1, rfl, -, -, hS⟩ := HO.out.shape
      have HS := Lib.hid hS
      clear hf HAt hS HO
      as_aux_lemma =>
      go_wp2_with fail
      go_ret2
      exact ⟨A1, c1, rfl, HS.out, HB.out⟩
end Go.Proofs.YtndngkfiamdohaaDoor
