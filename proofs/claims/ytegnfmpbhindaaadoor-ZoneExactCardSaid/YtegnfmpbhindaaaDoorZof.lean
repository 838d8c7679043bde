/- The law's odd, of a zone that has rules. -/
import Derived.Test.YtegnfmpbhindaaaDoorZoe
namespace Go.Proofs.YtegnfmpbhindaaaDoor
open Go.RowKit
set_option linter.unusedVariables false
set_option linter.unusedSimpArgs false
theorem fit_mk {a b c d e f h : Int} (h0 : I64 a) (h1 : I64 b) (h2 : I64 c) (h3 : I64 d) (h4 : I64 e) (h5 : I64 f) (h6 : I64 h) : FitR ⟨a, b, c, d, e, f, h⟩ := ⟨h0, h1, h2, h3, h4, h5, h6⟩

set_option maxHeartbeats 16000000 in
set_option maxRecDepth 100000 in
theorem odd_some (s : ByteArray) (off : Int) (bz oz : Nat) (m cz : Nat) (rs : List Zn.Rule) (g : Nat) (A : Option Addr) (n c : Nat) (zs : List Int) (w : World) (hD : Dice w g A n c zs) (hA : RulesAt w (some ⟨bz, oz, none⟩) rs) (hm : rs.length = m) (m1 : 0 < m) (m2 : m ≤ 2) (hok : rs.all Zn.okR = true) (o1 : -64800 ≤ off) (o2 : off ≤ 64800) :
    Calls Tryd.prog 16 #[.pointer (some ⟨g, 0, none⟩), .agg #[.string s, .int .i64 off, .slice (some ⟨bz, oz, none⟩) m cz]] w (Odds s w g A n c zs) := by
  have glt := hD.lt_
  have hfit : ∀ r ∈ rs, FitR r := fun r hr => fit_of_ok (List.all_eq_true.1 hok r hr)
  have io : I64 off := ⟨by omega, by omega⟩
  have HM := Lib.hid hm
  have HF := Lib.hid hfit
  have HOK := Lib.hid hok
  have D2 : Dice ((w.alloc (.cells #[.string s, .int .i64 off, .slice (some ⟨bz, oz, none⟩) m cz] 27)).alloc (.cells #[.string ⟨#[]⟩, .int .i64 0, .slice none 0 0] 27)) g A n c zs := (hD.alloc _).alloc _
  have ZB : BlkAt ((w.alloc (.cells #[.string s, .int .i64 off, .slice (some ⟨bz, oz, none⟩) m cz] 27)).alloc (.cells #[.string ⟨#[]⟩, .int .i64 0, .slice none 0 0] 27)) w.heap.size #[.string s, .int .i64 off, .slice (some ⟨bz, oz, none⟩) m cz] 27 := BlkAt.alloc (blk_new rfl) _
  have RB : BlkAt ((w.alloc (.cells #[.string s, .int .i64 off, .slice (some ⟨bz, oz, none⟩) m cz] 27)).alloc (.cells #[.string ⟨#[]⟩, .int .i64 0, .slice none 0 0] 27)) (w.heap.size + 1) #[.string ⟨#[]⟩, .int .i64 0, .slice none 0 0] 27 := blk_new (by simp)
  have RA : RulesAt ((w.alloc (.cells #[.string s, .int .i64 off, .slice (some ⟨bz, oz, none⟩) m cz] 27)).alloc (.cells #[.string ⟨#[]⟩, .int .i64 0, .slice none 0 0] 27)) (some ⟨bz, oz, none⟩) rs := (hA.alloc _).alloc _
  have GW : w.grownBy ((w.alloc (.cells #[.string s, .int .i64 off, .slice (some ⟨bz, oz, none⟩) m cz] 27)).alloc (.cells #[.string ⟨#[]⟩, .int .i64 0, .slice none 0 0] 27)) (some g) := grown_alloc (grown_alloc (grown_refl _ _) _) _
  have RC : ∀ i x, rs[i]? = some x → ∀ j, j < 7 → ((w.alloc (.cells #[.string s, .int .i64 off, .slice (some ⟨bz, oz, none⟩) m cz] 27)).alloc (.cells #[.string ⟨#[]⟩, .int .i64 0, .slice none 0 0] 27)).cell? ⟨bz, oz + i * 7 + j, none⟩ = some (eRule x j) := fun i x hx j hj => by
    obtain ⟨b', o', e, hlt, hc⟩ := RA (by have := (List.getElem?_eq_some_iff.1 hx).1; omega)
    cases e
    exact hc i x hx j hj
  have H0 := Lib.hid (And.intro D2 (And.intro ZB (And.intro RB (And.intro GW RC))))
  have e0 : ((m : Int) == 0) = false := by simp; omega
  have n0 : ([] : List Zn.Rule).length + m = m := by simp
  clear hD hA D2 ZB RB GW RA RC hm hfit hok
  go_enter Tryd.func16, Tryd.ntmps16
  go_upto_region 1 with fail
  go_cut [] (fun wx => ∃ g1 cap, Hid (OS s off w g A n c zs g1 m cap rs wx))
  case first =>
    go_wp2_with (at_builtin; refine wp_append_k kRule _ rfl _ _ rfl (w.heap.size + 2) (.slice none 0 0) [] rfl (OwnL.nil_ _ _) bz oz m cz rs HM.out m1 rfl H0.out.2.2.2.2 (by simp; omega) (by simp) ?_; intro g1 cap w3 hO hB hg hgo hlt; have Z3 : BlkAt w3 w.heap.size #[.string s, .int .i64 off, .slice (some ⟨bz, oz, none⟩) m cz] 27 := BlkAt.below H0.out.2.1 hB (by omega); have k1 : w3.cell? ⟨w.heap.size, 2, none⟩ = some (.slice (some ⟨bz, oz, none⟩) m cz) := BlkAt.cell Z3 rfl; have k2 := BlkAt.free Z3 2)
    rw [n0] at hO
    go_meet
    have hg1 : w.heap.size + 2 ≤ g1 := by
      rcases hO.row with ⟨h1, -⟩ | ⟨g3, c3, h1, h2, -⟩
      · cases h1
      · cases h1; exact h2
    have hB2 : Below w.heap.size w3 (w3.setCell ⟨w.heap.size, 2, none⟩ (.slice (some ⟨g1, 0, none⟩) m cap)) := (Below.refl _ _).setCell (by exact Nat.le_refl _) _
    exact ⟨g1, cap, Lib.hid ⟨BlkAt.set_ Z3 2 _, BlkAt.other (BlkAt.below H0.out.2.2.1 hB (by omega)) (by omega) _, (OwnL.other hO (by simp [Value.ownBlock]; omega) _), (H0.out.1.below hB (by omega)).below hB2 glt, grown_then (grown_then H0.out.2.2.2.1 hB (by omega)) hB2 (Nat.le_refl _), glt⟩⟩
  case rest =>
    obtain ⟨g1, cap, HS3⟩ := hcut
    obtain ⟨w3, rfl⟩ : ∃ w3 : World, w3 = wc := ⟨_, rfl⟩
    have y2 := HS3.out.z2
    clear H0 n0
    go_wp2_with fail
    refine (Bool_any g n c A zs 4 _ HS3.out.dice (by omega) (by omega)).mono ?_
    rintro e w4 ⟨v, rfl, hg4, hD4⟩
    have HS4 := Lib.hid (HS3.out.call hg4 hD4)
    clear y2 hg4 hD4 HS3
    have y2 := HS4.out.z2
    cases v
    · go_upto_region 5 with fail
      go_cut [5] (fun p wx => ∃ i : Nat, i < m ∧ p = .pointer (some ⟨g1, i * 7, none⟩) ∧ Hid (OS s off w g A n c zs g1 m cap rs wx))
      case first =>
        go_region_held3 (fun W => W.cell? ⟨w.heap.size, 2, none⟩ = some (.slice (some ⟨g1, 0, none⟩) m cap))
          (first | exact HS4.out.z2 | exact HS4.out.drew.z2 | assumption | exact hB.z2)
          (first | (go_at_call 39; refine (Next_any g n c A zs m _ (by first | exact HS4.out.dice | exact HS4.out.drew.dice) (by omega) (by omega)).mono ?_; rintro e w' ⟨v, rfl, v0, v1, hg, hD⟩; have hB : OS s off w g A n c zs g1 m cap rs w' := (by first | exact OS.call HS4.out hg hD | exact OS.call HS4.out.drew hg hD); have v2 : v.toNat < m := (by omega)))
        all_goals
          go_wp2_with fail
          go_meet
          exact ⟨v.toNat, v2, rfl, Lib.hid hB⟩
      case rest =>
        obtain ⟨i, hi, rfl, HS5⟩ := hcut
        obtain ⟨w5, rfl⟩ : ∃ w5 : World, w5 = wc := ⟨_, rfl⟩
        clear y2 HS4
        go_wp2_with fail
        refine (Next_any g n c A zs 8 _ HS5.out.dice (by omega) (by omega)).mono ?_
        rintro e w6 ⟨v, rfl, v0, v1, hg6, hD6⟩
        have HS6 := Lib.hid (HS5.out.call hg6 hD6)
        obtain ⟨r, hr⟩ := get_ex (xs := rs) (i := i) (by rw [HM.out]; exact hi)
        have hor := flat_all HOK.out hr
        have hbd := Zn.okR_iff.1 hor
        obtain ⟨fr, tt, mo, wk, wd, sec, of⟩ := r
        simp only at hbd
        have HR := Lib.hid hr
        have q0 : w6.cell? ⟨g1, i * 7, none⟩ = some (.int .i64 fr) := (HS6.out.row hr (j := 0) (by omega)).1
        have z1 := HS6.out.z1
        have hsz := HS6.out.size
        have o3 : IntKind.i64.wrap (off + 86399) = off + 86399 := by rw [IntKind.wrap_i64]; omega
        have o4 : IntKind.i64.wrap (off + 86400) = off + 86400 := by rw [IntKind.wrap_i64]; omega
        obtain ⟨t1, t2, t3, t4, t5, t6, t7, t8, t9, t10, t11, t12, t13, t14⟩ := hbd
        clear hg6 hD6 HS5 hr hor HOK
        have hv : v = 0 ∨ v = 1 ∨ v = 2 ∨ v = 3 ∨ v = 4 ∨ v = 5 ∨ v = 6 ∨ v = 7 := by omega
        clear v0 v1
        rcases hv with rfl | rfl | rfl | rfl | rfl | rfl | rfl | rfl
        ·
          have S0 : w6.cell? ⟨g1, i * 7 + 1, none⟩ = some (.int .i64 tt) := (HS6.out.row HR.out (j := 1) (by omega)).1
          have w1 : IntKind.i64.wrap (tt + 1) = tt + 1 := by rw [IntKind.wrap_i64]; omega
          go_upto_region 10 with fail
          go_region_held3 (fun W => W.cell? ⟨g1, i * 7 + 1, none⟩ = some (.int .i64 tt))
            (first | exact S0 | exact (HS6.out.drew.row HR.out (j := 1) (by omega)).1 | exact ((HS6.out.alloc _).row HR.out (j := 1) (by omega)).1 | exact ((HS6.out.drew.alloc _).row HR.out (j := 1) (by omega)).1 | exact ((HS6.out.alloc _).drew.row HR.out (j := 1) (by omega)).1 | assumption | exact (hB.row HR.out (j := 1) (by omega)).1 | exact kept1 ((hB.row HR.out (j := 1) (by omega)).1))
            (first | (go_at_call 38; refine (Pick_any g n c A zs [1969, 1970, tt, tt + 1] _ 4 4 3 _ (by first | exact (HS6.out.alloc _).dice | exact (HS6.out.drew.alloc _).dice | exact (HS6.out.alloc _).drew.dice) (by first | exact blk_new (by simp) | exact BlkAt.drewN (blk_new (by simp)) 1) rfl (by omega) (by omega) (by simp; omega)).mono ?_; rintro e w' ⟨x, rfl, hx, hg, hD⟩; have hxi : -64801 ≤ x ∧ x ≤ 200000 := (by simp at hx; omega); have hB : OS s off w g A n c zs g1 m cap rs w' := (by first | exact OS.call (HS6.out.alloc _) hg hD | exact OS.call (HS6.out.drew.alloc _) hg hD | exact OS.call (HS6.out.alloc _).drew hg hD); have k1 : w'.cell? ⟨g1, i * 7, none⟩ = some (.int .i64 fr) := (hB.row HR.out (j := 0) (by omega)).1; have k2 : w'.frozen? ⟨g1, i * 7, none⟩ = false := (hB.row HR.out (j := 0) (by omega)).2))
          all_goals
            have HE : Hid (OE s w g A n c zs off (some ⟨g1, 0, none⟩) m cap (rs.set i ⟨x, tt, mo, wk, wd, sec, of⟩) (w'.setCell ⟨g1, i * 7, none⟩ (.int .i64 x))) := Lib.hid (hB.done HR.out (j := 0) (by omega) (r' := ⟨x, tt, mo, wk, wd, sec, of⟩) rfl (fun j' h1 h2 => by have hjj : j' = 0 ∨ j' = 1 ∨ j' = 2 ∨ j' = 3 ∨ j' = 4 ∨ j' = 5 ∨ j' = 6 := (by omega); rcases hjj with rfl | rfl | rfl | rfl | rfl | rfl | rfl <;> first | rfl | exact absurd rfl h2) HF.out (fit_mk ⟨by omega, by omega⟩ ⟨by omega, by omega⟩ ⟨by omega, by omega⟩ ⟨by omega, by omega⟩ ⟨by omega, by omega⟩ ⟨by omega, by omega⟩ ⟨by omega, by omega⟩) (by omega) io)
            generalize hw9 : w'.setCell _ _ = w9 at HE ⊢
            obtain ⟨y0, y1, y2⟩ := ZBlk.cells HE.out.zb
            obtain ⟨r0, r1, r2⟩ := (show w9.cell? ⟨w.heap.size + 1, 0, none⟩ = some (.string ⟨#[]⟩) ∧ w9.cell? ⟨w.heap.size + 1, 1, none⟩ = some (.int .i64 0) ∧ w9.cell? ⟨w.heap.size + 1, 2, none⟩ = some (.slice none 0 0) from ⟨BlkAt.cell HE.out.rb rfl, BlkAt.cell HE.out.rb rfl, BlkAt.cell HE.out.rb rfl⟩)
            obtain ⟨x0, x1, x2⟩ := HE.out.rb.free3
            have hb9 := BlkAt.lt_ HE.out.rb
            clear hw9 k1 k2
            go_wp2_with fail
            refine bodyPost_ret (v := .agg #[.string s, .int .i64 off, .slice (some ⟨g1, 0, none⟩) m cap]) (by simp [results, Tryd.results16, go_sem, r0, r1, r2, x0, x1, x2]) rfl ?_
            exact HE.out.fin _ _ _
        ·
          go_upto_region 23 with (go_at_call 38; refine (Pick_any g n c A zs [2240, 2241, fr] _ 3 3 3 _ (HS6.out.alloc _).dice (by exact blk_new rfl) rfl (by omega) (by omega) (by omega)).mono ?_; rintro e w' ⟨x, rfl, hx, hg, hD⟩; have hxi : -64801 ≤ x ∧ x ≤ 200000 := (by simp at hx; omega); have HS7 := Lib.hid (OS.call (HS6.out.alloc _) hg hD); have k1 : w'.cell? ⟨g1, i * 7 + 1, none⟩ = some (.int .i64 tt) := (HS7.out.row HR.out (j := 1) (by omega)).1; have k2 : w'.frozen? ⟨g1, i * 7 + 1, none⟩ = false := (HS7.out.row HR.out (j := 1) (by omega)).2)
          have HE : Hid (OE s w g A n c zs off (some ⟨g1, 0, none⟩) m cap (rs.set i ⟨fr, x, mo, wk, wd, sec, of⟩) (w'.setCell ⟨g1, i * 7 + 1, none⟩ (.int .i64 x))) := Lib.hid (HS7.out.done HR.out (j := 1) (by omega) (r' := ⟨fr, x, mo, wk, wd, sec, of⟩) rfl (fun j' h1 h2 => by have hjj : j' = 0 ∨ j' = 1 ∨ j' = 2 ∨ j' = 3 ∨ j' = 4 ∨ j' = 5 ∨ j' = 6 := (by omega); rcases hjj with rfl | rfl | rfl | rfl | rfl | rfl | rfl <;> first | rfl | exact absurd rfl h2) HF.out (fit_mk ⟨by omega, by omega⟩ ⟨by omega, by omega⟩ ⟨by omega, by omega⟩ ⟨by omega, by omega⟩ ⟨by omega, by omega⟩ ⟨by omega, by omega⟩ ⟨by omega, by omega⟩) (by omega) io)
          generalize hw9 : w'.setCell _ _ = w9 at HE ⊢
          obtain ⟨y0, y1, y2⟩ := ZBlk.cells HE.out.zb
          obtain ⟨r0, r1, r2⟩ := (show w9.cell? ⟨w.heap.size + 1, 0, none⟩ = some (.string ⟨#[]⟩) ∧ w9.cell? ⟨w.heap.size + 1, 1, none⟩ = some (.int .i64 0) ∧ w9.cell? ⟨w.heap.size + 1, 2, none⟩ = some (.slice none 0 0) from ⟨BlkAt.cell HE.out.rb rfl, BlkAt.cell HE.out.rb rfl, BlkAt.cell HE.out.rb rfl⟩)
          obtain ⟨x0, x1, x2⟩ := HE.out.rb.free3
          have hb9 := BlkAt.lt_ HE.out.rb
          clear hw9 k1 k2
          go_wp2_with fail
          refine bodyPost_ret (v := .agg #[.string s, .int .i64 off, .slice (some ⟨g1, 0, none⟩) m cap]) (by simp [results, Tryd.results16, go_sem, r0, r1, r2, x0, x1, x2]) rfl ?_
          exact HE.out.fin _ _ _
        ·
          go_upto_region 23 with (go_at_call 38; refine (Pick_any g n c A zs [0, 12, 13, 1] _ 4 4 3 _ (HS6.out.alloc _).dice (by exact blk_new rfl) rfl (by omega) (by omega) (by omega)).mono ?_; rintro e w' ⟨x, rfl, hx, hg, hD⟩; have hxi : -64801 ≤ x ∧ x ≤ 200000 := (by simp at hx; omega); have HS7 := Lib.hid (OS.call (HS6.out.alloc _) hg hD); have k1 : w'.cell? ⟨g1, i * 7 + 2, none⟩ = some (.int .i64 mo) := (HS7.out.row HR.out (j := 2) (by omega)).1; have k2 : w'.frozen? ⟨g1, i * 7 + 2, none⟩ = false := (HS7.out.row HR.out (j := 2) (by omega)).2)
          have HE : Hid (OE s w g A n c zs off (some ⟨g1, 0, none⟩) m cap (rs.set i ⟨fr, tt, x, wk, wd, sec, of⟩) (w'.setCell ⟨g1, i * 7 + 2, none⟩ (.int .i64 x))) := Lib.hid (HS7.out.done HR.out (j := 2) (by omega) (r' := ⟨fr, tt, x, wk, wd, sec, of⟩) rfl (fun j' h1 h2 => by have hjj : j' = 0 ∨ j' = 1 ∨ j' = 2 ∨ j' = 3 ∨ j' = 4 ∨ j' = 5 ∨ j' = 6 := (by omega); rcases hjj with rfl | rfl | rfl | rfl | rfl | rfl | rfl <;> first | rfl | exact absurd rfl h2) HF.out (fit_mk ⟨by omega, by omega⟩ ⟨by omega, by omega⟩ ⟨by omega, by omega⟩ ⟨by omega, by omega⟩ ⟨by omega, by omega⟩ ⟨by omega, by omega⟩ ⟨by omega, by omega⟩) (by omega) io)
          generalize hw9 : w'.setCell _ _ = w9 at HE ⊢
          obtain ⟨y0, y1, y2⟩ := ZBlk.cells HE.out.zb
          obtain ⟨r0, r1, r2⟩ := (show w9.cell? ⟨w.heap.size + 1, 0, none⟩ = some (.string ⟨#[]⟩) ∧ w9.cell? ⟨w.heap.size + 1, 1, none⟩ = some (.int .i64 0) ∧ w9.cell? ⟨w.heap.size + 1, 2, none⟩ = some (.slice none 0 0) from ⟨BlkAt.cell HE.out.rb rfl, BlkAt.cell HE.out.rb rfl, BlkAt.cell HE.out.rb rfl⟩)
          obtain ⟨x0, x1, x2⟩ := HE.out.rb.free3
          have hb9 := BlkAt.lt_ HE.out.rb
          clear hw9 k1 k2
          go_wp2_with fail
          refine bodyPost_ret (v := .agg #[.string s, .int .i64 off, .slice (some ⟨g1, 0, none⟩) m cap]) (by simp [results, Tryd.results16, go_sem, r0, r1, r2, x0, x1, x2]) rfl ?_
          exact HE.out.fin _ _ _
        ·
          go_upto_region 23 with (go_at_call 38; refine (Pick_any g n c A zs [0, 5, 6] _ 3 3 3 _ (HS6.out.alloc _).dice (by exact blk_new rfl) rfl (by omega) (by omega) (by omega)).mono ?_; rintro e w' ⟨x, rfl, hx, hg, hD⟩; have hxi : -64801 ≤ x ∧ x ≤ 200000 := (by simp at hx; omega); have HS7 := Lib.hid (OS.call (HS6.out.alloc _) hg hD); have k1 : w'.cell? ⟨g1, i * 7 + 3, none⟩ = some (.int .i64 wk) := (HS7.out.row HR.out (j := 3) (by omega)).1; have k2 : w'.frozen? ⟨g1, i * 7 + 3, none⟩ = false := (HS7.out.row HR.out (j := 3) (by omega)).2)
          have HE : Hid (OE s w g A n c zs off (some ⟨g1, 0, none⟩) m cap (rs.set i ⟨fr, tt, mo, x, wd, sec, of⟩) (w'.setCell ⟨g1, i * 7 + 3, none⟩ (.int .i64 x))) := Lib.hid (HS7.out.done HR.out (j := 3) (by omega) (r' := ⟨fr, tt, mo, x, wd, sec, of⟩) rfl (fun j' h1 h2 => by have hjj : j' = 0 ∨ j' = 1 ∨ j' = 2 ∨ j' = 3 ∨ j' = 4 ∨ j' = 5 ∨ j' = 6 := (by omega); rcases hjj with rfl | rfl | rfl | rfl | rfl | rfl | rfl <;> first | rfl | exact absurd rfl h2) HF.out (fit_mk ⟨by omega, by omega⟩ ⟨by omega, by omega⟩ ⟨by omega, by omega⟩ ⟨by omega, by omega⟩ ⟨by omega, by omega⟩ ⟨by omega, by omega⟩ ⟨by omega, by omega⟩) (by omega) io)
          generalize hw9 : w'.setCell _ _ = w9 at HE ⊢
          obtain ⟨y0, y1, y2⟩ := ZBlk.cells HE.out.zb
          obtain ⟨r0, r1, r2⟩ := (show w9.cell? ⟨w.heap.size + 1, 0, none⟩ = some (.string ⟨#[]⟩) ∧ w9.cell? ⟨w.heap.size + 1, 1, none⟩ = some (.int .i64 0) ∧ w9.cell? ⟨w.heap.size + 1, 2, none⟩ = some (.slice none 0 0) from ⟨BlkAt.cell HE.out.rb rfl, BlkAt.cell HE.out.rb rfl, BlkAt.cell HE.out.rb rfl⟩)
          obtain ⟨x0, x1, x2⟩ := HE.out.rb.free3
          have hb9 := BlkAt.lt_ HE.out.rb
          clear hw9 k1 k2
          go_wp2_with fail
          refine bodyPost_ret (v := .agg #[.string s, .int .i64 off, .slice (some ⟨g1, 0, none⟩) m cap]) (by simp [results, Tryd.results16, go_sem, r0, r1, r2, x0, x1, x2]) rfl ?_
          exact HE.out.fin _ _ _
        ·
          go_upto_region 23 with (go_at_call 38; refine (Pick_any g n c A zs [-1, 0, 6, 7] _ 4 4 3 _ (HS6.out.alloc _).dice (by exact blk_new rfl) rfl (by omega) (by omega) (by omega)).mono ?_; rintro e w' ⟨x, rfl, hx, hg, hD⟩; have hxi : -64801 ≤ x ∧ x ≤ 200000 := (by simp at hx; omega); have HS7 := Lib.hid (OS.call (HS6.out.alloc _) hg hD); have k1 : w'.cell? ⟨g1, i * 7 + 4, none⟩ = some (.int .i64 wd) := (HS7.out.row HR.out (j := 4) (by omega)).1; have k2 : w'.frozen? ⟨g1, i * 7 + 4, none⟩ = false := (HS7.out.row HR.out (j := 4) (by omega)).2)
          have HE : Hid (OE s w g A n c zs off (some ⟨g1, 0, none⟩) m cap (rs.set i ⟨fr, tt, mo, wk, x, sec, of⟩) (w'.setCell ⟨g1, i * 7 + 4, none⟩ (.int .i64 x))) := Lib.hid (HS7.out.done HR.out (j := 4) (by omega) (r' := ⟨fr, tt, mo, wk, x, sec, of⟩) rfl (fun j' h1 h2 => by have hjj : j' = 0 ∨ j' = 1 ∨ j' = 2 ∨ j' = 3 ∨ j' = 4 ∨ j' = 5 ∨ j' = 6 := (by omega); rcases hjj with rfl | rfl | rfl | rfl | rfl | rfl | rfl <;> first | rfl | exact absurd rfl h2) HF.out (fit_mk ⟨by omega, by omega⟩ ⟨by omega, by omega⟩ ⟨by omega, by omega⟩ ⟨by omega, by omega⟩ ⟨by omega, by omega⟩ ⟨by omega, by omega⟩ ⟨by omega, by omega⟩) (by omega) io)
          generalize hw9 : w'.setCell _ _ = w9 at HE ⊢
          obtain ⟨y0, y1, y2⟩ := ZBlk.cells HE.out.zb
          obtain ⟨r0, r1, r2⟩ := (show w9.cell? ⟨w.heap.size + 1, 0, none⟩ = some (.string ⟨#[]⟩) ∧ w9.cell? ⟨w.heap.size + 1, 1, none⟩ = some (.int .i64 0) ∧ w9.cell? ⟨w.heap.size + 1, 2, none⟩ = some (.slice none 0 0) from ⟨BlkAt.cell HE.out.rb rfl, BlkAt.cell HE.out.rb rfl, BlkAt.cell HE.out.rb rfl⟩)
          obtain ⟨x0, x1, x2⟩ := HE.out.rb.free3
          have hb9 := BlkAt.lt_ HE.out.rb
          clear hw9 k1 k2
          go_wp2_with fail
          refine bodyPost_ret (v := .agg #[.string s, .int .i64 off, .slice (some ⟨g1, 0, none⟩) m cap]) (by simp [results, Tryd.results16, go_sem, r0, r1, r2, x0, x1, x2]) rfl ?_
          exact HE.out.fin _ _ _
        ·
          go_upto_region 23 with (go_at_call 38; refine (Pick_any g n c A zs [-1, 0, 86399, 86400] _ 4 4 3 _ (HS6.out.alloc _).dice (by exact blk_new rfl) rfl (by omega) (by omega) (by omega)).mono ?_; rintro e w' ⟨x, rfl, hx, hg, hD⟩; have hxi : -64801 ≤ x ∧ x ≤ 200000 := (by simp at hx; omega); have HS7 := Lib.hid (OS.call (HS6.out.alloc _) hg hD); have k1 : w'.cell? ⟨g1, i * 7 + 5, none⟩ = some (.int .i64 sec) := (HS7.out.row HR.out (j := 5) (by omega)).1; have k2 : w'.frozen? ⟨g1, i * 7 + 5, none⟩ = false := (HS7.out.row HR.out (j := 5) (by omega)).2)
          have HE : Hid (OE s w g A n c zs off (some ⟨g1, 0, none⟩) m cap (rs.set i ⟨fr, tt, mo, wk, wd, x, of⟩) (w'.setCell ⟨g1, i * 7 + 5, none⟩ (.int .i64 x))) := Lib.hid (HS7.out.done HR.out (j := 5) (by omega) (r' := ⟨fr, tt, mo, wk, wd, x, of⟩) rfl (fun j' h1 h2 => by have hjj : j' = 0 ∨ j' = 1 ∨ j' = 2 ∨ j' = 3 ∨ j' = 4 ∨ j' = 5 ∨ j' = 6 := (by omega); rcases hjj with rfl | rfl | rfl | rfl | rfl | rfl | rfl <;> first | rfl | exact absurd rfl h2) HF.out (fit_mk ⟨by omega, by omega⟩ ⟨by omega, by omega⟩ ⟨by omega, by omega⟩ ⟨by omega, by omega⟩ ⟨by omega, by omega⟩ ⟨by omega, by omega⟩ ⟨by omega, by omega⟩) (by omega) io)
          generalize hw9 : w'.setCell _ _ = w9 at HE ⊢
          obtain ⟨y0, y1, y2⟩ := ZBlk.cells HE.out.zb
          obtain ⟨r0, r1, r2⟩ := (show w9.cell? ⟨w.heap.size + 1, 0, none⟩ = some (.string ⟨#[]⟩) ∧ w9.cell? ⟨w.heap.size + 1, 1, none⟩ = some (.int .i64 0) ∧ w9.cell? ⟨w.heap.size + 1, 2, none⟩ = some (.slice none 0 0) from ⟨BlkAt.cell HE.out.rb rfl, BlkAt.cell HE.out.rb rfl, BlkAt.cell HE.out.rb rfl⟩)
          obtain ⟨x0, x1, x2⟩ := HE.out.rb.free3
          have hb9 := BlkAt.lt_ HE.out.rb
          clear hw9 k1 k2
          go_wp2_with fail
          refine bodyPost_ret (v := .agg #[.string s, .int .i64 off, .slice (some ⟨g1, 0, none⟩) m cap]) (by simp [results, Tryd.results16, go_sem, r0, r1, r2, x0, x1, x2]) rfl ?_
          exact HE.out.fin _ _ _
        ·
          go_upto_region 23 with (go_at_call 38; refine (Pick_any g n c A zs [64800, 64801, off, off + 86399, off + 86400] _ 5 5 3 _ (HS6.out.alloc _).dice (by exact blk_new rfl) rfl (by omega) (by omega) (by omega)).mono ?_; rintro e w' ⟨x, rfl, hx, hg, hD⟩; have hxi : -64801 ≤ x ∧ x ≤ 200000 := (by simp at hx; omega); have HS7 := Lib.hid (OS.call (HS6.out.alloc _) hg hD); have k1 : w'.cell? ⟨g1, i * 7 + 6, none⟩ = some (.int .i64 of) := (HS7.out.row HR.out (j := 6) (by omega)).1; have k2 : w'.frozen? ⟨g1, i * 7 + 6, none⟩ = false := (HS7.out.row HR.out (j := 6) (by omega)).2)
          have HE : Hid (OE s w g A n c zs off (some ⟨g1, 0, none⟩) m cap (rs.set i ⟨fr, tt, mo, wk, wd, sec, x⟩) (w'.setCell ⟨g1, i * 7 + 6, none⟩ (.int .i64 x))) := Lib.hid (HS7.out.done HR.out (j := 6) (by omega) (r' := ⟨fr, tt, mo, wk, wd, sec, x⟩) rfl (fun j' h1 h2 => by have hjj : j' = 0 ∨ j' = 1 ∨ j' = 2 ∨ j' = 3 ∨ j' = 4 ∨ j' = 5 ∨ j' = 6 := (by omega); rcases hjj with rfl | rfl | rfl | rfl | rfl | rfl | rfl <;> first | rfl | exact absurd rfl h2) HF.out (fit_mk ⟨by omega, by omega⟩ ⟨by omega, by omega⟩ ⟨by omega, by omega⟩ ⟨by omega, by omega⟩ ⟨by omega, by omega⟩ ⟨by omega, by omega⟩ ⟨by omega, by omega⟩) (by omega) io)
          generalize hw9 : w'.setCell _ _ = w9 at HE ⊢
          obtain ⟨y0, y1, y2⟩ := ZBlk.cells HE.out.zb
          obtain ⟨r0, r1, r2⟩ := (show w9.cell? ⟨w.heap.size + 1, 0, none⟩ = some (.string ⟨#[]⟩) ∧ w9.cell? ⟨w.heap.size + 1, 1, none⟩ = some (.int .i64 0) ∧ w9.cell? ⟨w.heap.size + 1, 2, none⟩ = some (.slice none 0 0) from ⟨BlkAt.cell HE.out.rb rfl, BlkAt.cell HE.out.rb rfl, BlkAt.cell HE.out.rb rfl⟩)
          obtain ⟨x0, x1, x2⟩ := HE.out.rb.free3
          have hb9 := BlkAt.lt_ HE.out.rb
          clear hw9 k1 k2
          go_wp2_with fail
          refine bodyPost_ret (v := .agg #[.string s, .int .i64 off, .slice (some ⟨g1, 0, none⟩) m cap]) (by simp [results, Tryd.results16, go_sem, r0, r1, r2, x0, x1, x2]) rfl ?_
          exact HE.out.fin _ _ _
        ·
          obtain ⟨⟨a0, b0, c0, d0, e0, f0, h0⟩, hr0⟩ := get_ex (xs := rs) (i := 0) (by rw [HM.out]; omega)
          have HR0 := Lib.hid hr0
          have hf0 := HF.out _ (List.mem_of_getElem? hr0)
          have HF0 := Lib.hid hf0
          obtain ⟨k0, k1, k2, k3, k4, k5, k6, k7⟩ := HS6.out.rd7 hr0
          simp only at k1 k2 k3 k4 k5 k6 k7
          have l0 : (w6.alloc (.cells #[.int .i64 a0, .int .i64 b0, .int .i64 c0, .int .i64 d0, .int .i64 e0, .int .i64 f0, .int .i64 h0] 23)).cell? ⟨w.heap.size, 2, none⟩ = some (.slice (some ⟨g1, 0, none⟩) m cap) := (HS6.out.alloc _).z2
          have HS2 := HS6.out.size
          have hmi : (0 : Int) < m := by omega
          have hlen : rs.length ≤ 900000 := by rw [HM.out]; omega
          clear hr0 hf0
          go_upto_region 7 with fail
          go_cut [] (fun wx => ∃ g2 cap2 m2, m2 = m + 1 ∧ Hid (OS s off w g A n c zs g2 m2 cap2 (rs ++ [⟨a0, b0, c0, d0, e0, f0, h0⟩]) wx))
          case first =>
            go_region_law ((refine step_append_one kRule _ (by rfl) (.tmp 34) (.tmp 39) (by rfl) (w.heap.size + 2) (.slice (some ⟨g1, 0, none⟩) m cap) rs (by simp [Act.eval, Act.put]) (by first | exact (HS6.out.alloc _).own | exact (HS6.out.drew.alloc _).own | exact (HS6.out.alloc _).drew.own) _ ⟨a0, b0, c0, d0, e0, f0, h0⟩ (by simp [Act.eval, Act.put]; rfl) (by first | exact rule_new rfl | exact rule_new (by simp) | exact rule_blk (BlkAt.drewN (blk_new (by simp)) 1)) hlen (by simp; omega) ?_; intro v3 w3 hO3 hB3 hg3; have hQ : OA s off w g A n c zs g1 m cap rs ⟨a0, b0, c0, d0, e0, f0, h0⟩ v3 w3 := OS.appended (by first | exact HS6.out.alloc _ | exact HS6.out.drew.alloc _ | exact (HS6.out.alloc _).drew) hO3 hB3; obtain ⟨g2, c2, hv3⟩ := hQ.sl; subst hv3; have z2 : w3.cell? ⟨w.heap.size, 2, none⟩ = some (.slice (some ⟨g1, 0, none⟩) m cap) := BlkAt.cell hQ.zb rfl; have z3 := BlkAt.free hQ.zb 2))
            all_goals
              go_wp2_with fail
              go_meet
              exact ⟨g2, c2, m + 1, rfl, Lib.hid hQ.put⟩
          case rest =>
            obtain ⟨g2, cap2, m3, hm3, HS8⟩ := hcut
            obtain ⟨w8, rfl⟩ : ∃ w8 : World, w8 = wc := ⟨_, rfl⟩
            have z1 : (0 : Int) ≤ (m3 : Int) - 1 := by omega
            have z2 : (m3 : Int) - 1 < m3 := by omega
            have z3 : ((m3 : Int) - 1).toNat = m := by omega
            have z4 : (1 : Int) ≤ m3 := by omega
            have z5 : IntKind.i64.wrap ((m3 : Int) - 1) = (m3 : Int) - 1 := by rw [IntKind.wrap_i64]; omega
            have hrm : (rs ++ [⟨a0, b0, c0, d0, e0, f0, h0⟩])[m]? = some ⟨a0, b0, c0, d0, e0, f0, h0⟩ := by rw [List.getElem?_append_right (by rw [HM.out]; omega), HM.out, Nat.sub_self]; rfl
            have HRM := Lib.hid hrm
            have HFA : Hid (∀ x ∈ rs ++ [⟨a0, b0, c0, d0, e0, f0, h0⟩], FitR x) := Lib.hid (fun x hx => by
              rcases List.mem_append.1 hx with h | h
              · exact HF.out x h
              · simp only [List.mem_singleton] at h; subst h; exact HF0.out)
            have HS9 := HS8.out.size
            have m33 : m3 ≤ 3 := by omega
            have HM3 := Lib.hid hm3
            clear hrm hm3 HS6 HS2 k0 k1 k2 k3 k4 k5 k6 k7 l0
            go_upto_region 8 with fail
            go_region_held3 (fun W => W.cell? ⟨w.heap.size, 2, none⟩ = some (.slice (some ⟨g2, 0, none⟩) m3 cap2))
              (first | exact HS8.out.z2 | exact HS8.out.drew.z2 | exact (HS8.out.alloc _).z2 | exact (HS8.out.drew.alloc _).z2 | exact (HS8.out.alloc _).drew.z2 | assumption | exact hB.z2 | exact hB.keptz)
              (first | (go_at_call 38; refine (Pick_any g n c A zs [1, 2, 5] _ 3 3 3 _ (by first | exact (HS8.out.alloc _).dice | exact (HS8.out.drew.alloc _).dice | exact (HS8.out.alloc _).drew.dice) (by first | exact blk_new (by simp) | exact BlkAt.drewN (blk_new (by simp)) 1) rfl (by omega) (by omega) (by simp; omega)).mono ?_; rintro e w' ⟨x, rfl, hx, hg, hD⟩; have hxi : -64801 ≤ x ∧ x ≤ 200000 := (by simp at hx; omega); have hB : OS s off w g A n c zs g2 m3 cap2 (rs ++ [⟨a0, b0, c0, d0, e0, f0, h0⟩]) w' := (by first | exact OS.call (HS8.out.alloc _) hg hD | exact OS.call (HS8.out.drew.alloc _) hg hD | exact OS.call (HS8.out.alloc _).drew hg hD); have k1 : w'.cell? ⟨g2, m * 7 + 3, none⟩ = some (.int .i64 d0) := (hB.row HRM.out (j := 3) (by omega)).1; have k2 : w'.frozen? ⟨g2, m * 7 + 3, none⟩ = false := (hB.row HRM.out (j := 3) (by omega)).2))
            all_goals
              have HE : Hid (OE s w g A n c zs off (some ⟨g2, 0, none⟩) m3 cap2 ((rs ++ [(⟨a0, b0, c0, d0, e0, f0, h0⟩ : Zn.Rule)]).set m ⟨a0, b0, c0, x, e0, f0, h0⟩) (w'.setCell ⟨g2, m * 7 + 3, none⟩ (.int .i64 x))) := Lib.hid (hB.done HRM.out (j := 3) (by omega) (r' := ⟨a0, b0, c0, x, e0, f0, h0⟩) rfl (fun j' h1 h2 => by have hjj : j' = 0 ∨ j' = 1 ∨ j' = 2 ∨ j' = 3 ∨ j' = 4 ∨ j' = 5 ∨ j' = 6 := (by omega); rcases hjj with rfl | rfl | rfl | rfl | rfl | rfl | rfl <;> first | rfl | exact absurd rfl h2) HFA.out (fit_mk (a := a0) (b := b0) (c := c0) (d := x) (e := e0) (f := f0) (h := h0) HF0.out.1 HF0.out.2.1 HF0.out.2.2.1 ⟨by omega, by omega⟩ HF0.out.2.2.2.2.1 HF0.out.2.2.2.2.2.1 HF0.out.2.2.2.2.2.2) (by omega) io)
              generalize hw9 : w'.setCell _ _ = w9 at HE ⊢
              obtain ⟨y0, y1, y2⟩ := ZBlk.cells HE.out.zb
              obtain ⟨r0, r1, r2⟩ := (show w9.cell? ⟨w.heap.size + 1, 0, none⟩ = some (.string ⟨#[]⟩) ∧ w9.cell? ⟨w.heap.size + 1, 1, none⟩ = some (.int .i64 0) ∧ w9.cell? ⟨w.heap.size + 1, 2, none⟩ = some (.slice none 0 0) from ⟨BlkAt.cell HE.out.rb rfl, BlkAt.cell HE.out.rb rfl, BlkAt.cell HE.out.rb rfl⟩)
              obtain ⟨x0, x1, x2⟩ := HE.out.rb.free3
              have hb9 := BlkAt.lt_ HE.out.rb
              clear hw9 k1 k2
              go_wp2_with fail
              refine bodyPost_ret (v := .agg #[.string s, .int .i64 off, .slice (some ⟨g2, 0, none⟩) m3 cap2]) (by simp [results, Tryd.results16, go_sem, r0, r1, r2, x0, x1, x2]) rfl ?_
              exact HE.out.fin _ _ _
    · obtain ⟨S3, ZB3, RB3, D3, G3⟩ := (show w.heap.size + 2 ≤ w4.heap.size ∧ _ ∧ _ ∧ _ ∧ _ from ⟨HS4.out.size, HS4.out.zb, HS4.out.rb, HS4.out.dice, HS4.out.gw⟩)
      go_upto_region 3 with fail
      go_cut [] (fun wx => ∃ x A' n' c', Hid (OE s w g A n c zs x A' n' c' rs wx))
      case first =>
        go_wp2_with (go_at_call 38; refine (Pick_any g n c A zs [64800, 64801, -64800, -64801, 86400] _ 5 5 3 _ (D3.alloc _) (by exact blk_new rfl) rfl (by omega) (by omega) (by omega)).mono ?_; rintro e w' ⟨x, rfl, hx, hg, hD⟩; have hxi : -64801 ≤ x ∧ x ≤ 86400 := (by simp at hx; omega); have ZB5 := blk_after (BlkAt.alloc ZB3 _) hg (by omega); have RB5 := blk_after (BlkAt.alloc RB3 _) hg (by omega); have ON5 := OwnL.grown (OwnL.alloc HS4.out.own _) hg (by omega); have G5 := grown_trans (grown_alloc G3 _) hg; have k1 : w'.cell? ⟨w.heap.size, 1, none⟩ = some (.int .i64 off) := BlkAt.cell ZB5 rfl; have k2 := BlkAt.free ZB5 1; have HO5 := Lib.hid ON5; clear ON5)
        go_meet
        exact ⟨x, _, _, _, Lib.hid (off_done rfl ZB5 RB5 HO5.out hD G5 glt (by rw [HM.out]; omega) HF.out ⟨by omega, by omega⟩)⟩
      case rest =>
        obtain ⟨w9, rfl⟩ : ∃ w9 : World, w9 = wc := ⟨_, rfl⟩
        obtain ⟨x, A', n', c', HE⟩ := hcut
        obtain ⟨y0, y1, y2⟩ := ZBlk.cells HE.out.zb
        obtain ⟨r0, r1, r2⟩ := (show w9.cell? ⟨w.heap.size + 1, 0, none⟩ = some (.string ⟨#[]⟩) ∧ w9.cell? ⟨w.heap.size + 1, 1, none⟩ = some (.int .i64 0) ∧ w9.cell? ⟨w.heap.size + 1, 2, none⟩ = some (.slice none 0 0) from ⟨BlkAt.cell HE.out.rb rfl, BlkAt.cell HE.out.rb rfl, BlkAt.cell HE.out.rb rfl⟩)
        obtain ⟨x0, x1, x2⟩ := HE.out.rb.free3
        have hb9 := BlkAt.lt_ HE.out.rb
        go_wp2_with fail
        refine bodyPost_ret (v := .agg #[.string s, .int .i64 x, .slice A' n' c']) (by simp [results, Tryd.results16, go_sem, r0, r1, r2, x0, x1, x2]) rfl ?_
        exact HE.out.fin _ _ _

theorem odd_any (s : ByteArray) (off : Int) (Az : Option Addr) (m cz : Nat) (rs : List Zn.Rule) (g : Nat) (A : Option Addr) (n c : Nat) (zs : List Int) (w : World) (hD : Dice w g A n c zs) (hA : RulesAt w Az rs) (hm : rs.length = m) (m2 : m ≤ 2) (hok : rs.all Zn.okR = true) (o1 : -64800 ≤ off) (o2 : off ≤ 64800) :
    Calls Tryd.prog 16 #[.pointer (some ⟨g, 0, none⟩), .agg #[.string s, .int .i64 off, .slice Az m cz]] w (Odds s w g A n c zs) := by
  rcases Nat.eq_zero_or_pos m with rfl | h0
  · exact odd_nil s off Az cz g A n c zs w hD o1 o2
  · obtain ⟨b, o, rfl, -, -⟩ := hA (by omega)
    exact odd_some s off b o m cz rs g A n c zs w hD hA hm h0 m2 hok o1 o2
end Go.Proofs.YtegnfmpbhindaaaDoor
