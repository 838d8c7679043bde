/- The law WeekTimes returns true for all lists and numbers. -/
import Derived.Test.YtndngkfiamdohaaDoorWlk
import Derived.Test.YtndngkfiamdohaaDoorWsp
import Derived.Deep.RegionHeld3
import Derived.Deep.DeepCutAuto
namespace Go.Proofs.YtndngkfiamdohaaDoor
open Go.RowKit
set_option linter.unusedVariables false
set_option linter.unusedSimpArgs false
set_option maxRecDepth 100000

theorem step_append_k {α : Type} {k : Nat} {e : α → Nat → Value} {T S : TypeId} (K : KindOk S T k e)
    {ops : Array Oper} {o : Oper} {a : Act} {N : Act → World → Prop} {Q : Exit → Act → World → Prop} {E : Prop} (w : World) (hgd : o.guard = none) (s x : Operand)
    (ho : o.op = .call { callee := .builtin .append, args := #[s, x], argTypes := #[S, S] }) (B : Nat) (v : Value) (ys : List α) (hs : a.eval s = v) (hown : OwnL T k e w B v ys)
    (blk off m c : Nat) (news : List α) (hm : news.length = m) (hm0 : 0 < m) (hx : a.eval x = .slice (some ⟨blk, off, none⟩) m c) (hb : ∀ i x, news[i]? = some x → ∀ j, j < k → w.cell? ⟨blk, off + i * k + j, none⟩ = some (e x j))
    (hlen : ys.length + m ≤ 1000000) (hB : B ≤ w.heap.size)
    (h : ∀ g cap w', OwnL T k e w' B (.slice (some ⟨g, 0, none⟩) (ys.length + m) cap) (ys ++ news) → Below B w w' → w.grownBy w' v.ownBlock → N (a.put o.dst (.slice (some ⟨g, 0, none⟩) (ys.length + m) cap)) w') :
    if Region.wanted o (yielded ops a.tmps) = true then Oper.wp Tryd.prog o a w N Q else E := by
  obtain ⟨i0, z, bytes, hi, hz0, hz1, hz2, hzz, hk2⟩ := K.info
  refine step_append_lies w hgd s x S ho B T i0 z k bytes K.under hi hz0 hz1 hz2 hzz K.pos v ys.length (encK k e ys) hs hown ⟨blk, off, none⟩ m c (encK k e news) hx (by rw [encK_len, hm]) ?_ ?_ hm0 (by simp only [maxLen]; omega) ?_ hB _ rfl ?_
  · intro j u hu
    obtain ⟨i, j', y, h1, h2, rfl, rfl⟩ := encK_inv hu
    rw [add_none, ← Nat.add_assoc]
    exact hb i y h1 j' h2
  · intro u hu
    simp only [encK, List.mem_flatMap, List.mem_map] at hu
    obtain ⟨y, _, j, _, rfl⟩ := hu
    exact K.one y j
  · have := Nat.mul_le_mul hlen hk2
    omega
  · intro g cap w' h1 h2 h3 h4
    refine h g cap w' ?_ ((Below.refl B w).grown h2 hB (fun q hq => (World.ownsRow.lt hown q hq).1)) h2
    unfold OwnL
    rw [encK_app, List.length_append, hm]
    exact h1
/-- What is known once the times are there. -/
structure LT (w : World) (off : Int) (A' : Option Addr) (n' c' : Nat) (rs : List Zn.Rule) (bz : Nat) (A5 : Option Addr) (n5 : Nat) (l : Wk.L) (A6 : Option Addr) (n6 : Nat) (v : Wk.L) (W : World) : Prop where
  k : LK w off A' n' c' rs bz A5 n5 l W
  wv : WIn W A6 n6 v
section
variable {w : World} {off : Int} {A' : Option Addr} {n' c' : Nat} {rs : List Zn.Rule} {bz : Nat} {A5 : Option Addr} {n5 : Nat} {l : Wk.L} {A6 : Option Addr} {n6 : Nat} {v : Wk.L} {W W' : World}
theorem LT.after (h : LT w off A' n' c' rs bz A5 n5 l A6 n6 v W) (hb : Below W.heap.size W W') : LT w off A' n' c' rs bz A5 n5 l A6 n6 v W' := ⟨h.k.after hb, h.wv.below hb⟩
end
theorem own_fresh {w : World} {g B : Nat} {T : TypeId} {xs : List Int} {vs : Array Value} (h : BlkAt w g vs T) (hv : vs.toList = encK 1 eInt xs) (hB : B ≤ g) (hl : xs.length ≤ 1000) : OwnL T 1 eInt w B (.slice (some ⟨g, 0, none⟩) xs.length xs.length) xs := by
  have hs : vs.size = xs.length * 1 := by rw [← encK_len (k := 1) (e := eInt) xs, ← hv]; simp
  refine ⟨encK_len xs, .inr ⟨g, xs.length, vs, rfl, hB, h, Nat.le_refl _, by simp only [maxLen]; omega, hs, ?_⟩⟩
  rw [List.take_of_length_le (by rw [Array.length_toList]; omega), hv]
theorem ints4 {w : World} {b : Nat} {T : TypeId} {x0 x1 x2 x3 : Int} (h : BlkAt w b #[.int .i64 x0, .int .i64 x1, .int .i64 x2, .int .i64 x3] T) : ∀ i x, [x0, x1, x2, x3][i]? = some x → ∀ j, j < 1 → w.cell? ⟨b, 0 + i * 1 + j, none⟩ = some (eInt x j) := fun i x hx j hj => by
  obtain rfl : j = 0 := by omega
  match i, hx with
  | 0, hx => simp at hx; subst hx; exact BlkAt.cell h rfl
  | 1, hx => simp at hx; subst hx; exact BlkAt.cell h rfl
  | 2, hx => simp at hx; subst hx; exact BlkAt.cell h rfl
  | 3, hx => simp at hx; subst hx; exact BlkAt.cell h rfl
  | i + 4, hx => simp at hx
theorem cells_keep {W W' : World} {a b : Addr} {u v : Value} (h : W.cell? a = some u ∧ W.cell? b = some v) (hb : Below W.heap.size W W') : W'.cell? a = some u ∧ W'.cell? b = some v :=
  ⟨(hb.cell (World.block_lt_of_cell? W _ h.1)).trans h.1, (hb.cell (World.block_lt_of_cell? W _ h.2)).trans h.2⟩
theorem cells_low {W W' : World} {bl i j B : Nat} {u v : Value} (h : W.cell? ⟨bl, i, none⟩ = some u ∧ W.cell? ⟨bl, j, none⟩ = some v) (hb : Below B W W') (hB : bl < B) : W'.cell? ⟨bl, i, none⟩ = some u ∧ W'.cell? ⟨bl, j, none⟩ = some v :=
  ⟨(hb.cell (p := ⟨bl, i, none⟩) hB).trans h.1, (hb.cell (p := ⟨bl, j, none⟩) hB).trans h.2⟩
/-- Times has x exactly if x lies in a window. -/
theorem has_in {off : Int} {rs : List Zn.Rule} {ts : Zn.L} {l R : Wk.L} {f t y : Int} (hl : Wk.Rt 0 l) (hc : Wk.chk l = 0) (hft : f ≤ t) (f0 : 0 ≤ f) (t0 : t ≤ 8589934592) (hR : Wk.tms [] off ts l f t = R) (hv : Spn.vld R = true) (h1 : f ≤ y) (h2 : y < t) : Spn.has R y = inV off ts 0 l y := by
  have hu := (Wk.tms_has (off := off) (ts := ts) hl hft).2.2 y
  rw [hR] at hu
  have es : offE 0 y = 0 := offE_ok (by omega) (by omega)
  have hi : inV off ts 0 l y = Wk.within l (Wk.sow (y + Zn.offAt off ts y)) := by
    unfold inV secV
    rw [es, decide_eq_true hc, if_neg (by simp), offV_ok (by omega) (by omega)]; simp
  rw [hi, Bool.eq_iff_iff, Spn.has_iff, hu]
  exact ⟨fun h => h.2.2.2, fun h => ⟨hv, h1, h2, h⟩⟩

set_option maxHeartbeats 8000000 in
theorem wtim_law (A : Option Addr) (n c : Nat) (zs : List Int) (k : Int) (w : World) (hT : CivT w) (hA : NumsAt w A zs) (hn : zs.length = n) (hf : ∀ z ∈ zs, -9223372036854775808 ≤ z ∧ z ≤ 9223372036854775807) (k1 : -9223372036854775808 ≤ k) (k2 : k ≤ 9223372036854775807) :
    Calls Tryd.prog 5 #[.slice A n c, .int .i64 k] w fun e w' => e = .returned (.bool true) ∧ Below w.heap.size w w' := by
  have HL := Light_any A n c w
  by_cases h5 : (n : Int) ≤ 500
  · rw [decide_eq_true h5] at HL
    have hD := Dice.start (c := c) hA hn (by omega) hf
    have hR := Roll_any A n c w
    have B1 := (Below.refl w.heap.size w).alloc (Nat.le_refl _) (.cells #[.slice A n c, .int .i64 0] 71)
    have hS := Zone_any _ _ _ _ _ ⟨#[97]⟩ _ hD
    have hM := fun W => Mod_any k 1728000 W k1 k2 (by omega) (by omega)
    have hkm : 0 ≤ k % 1728000 ∧ k % 1728000 < 1728000 := by omega
    generalize k % 1728000 = y at hM hkm
    obtain ⟨y1, y2⟩ := hkm
    have HM := Lib.hid hM
    clear hA hn hf hM
    go_enter Tryd.func5, Tryd.ntmps5
    go_wp2_with fail
    refine HL.mono ?_
    rintro e w1 ⟨rfl, rfl⟩
    go_wp2_with fail
    refine hR.mono ?_
    rintro e w1 ⟨rfl, rfl⟩
    go_wp2_with fail
    refine hS.mono ?_
    rintro e w2 ⟨off, A', n', c', rs, rfl, hG, hrn, hRS, G2, D2⟩
    have B2 := below_of_grown B1 G2 (by simp) (Nat.le_refl _)
    have hW := Windows_any _ _ _ _ _ _ D2
    have hz2 : w.heap.size < w2.heap.size := D2.lt_
    clear hS hR HL hD G2 B1
    go_wp2_with fail
    refine hW.mono ?_
    rintro e w3 ⟨v5, l, rfl, hO3, hRt, hl3, G3, D3⟩
    have hRS3 := hRS.gr (rules_far hRS D2) G3
    have B3 := below_of_grown B2 G3 B2.size (Nat.le_refl _)
    have hI := Instant_any _ _ _ _ _ _ (D3.alloc (.cells #[.string ⟨#[97]⟩, .int .i64 off, .slice A' n' c'] 32))
    have hz3 := G3.size
    clear hW B2 G3
    go_wp2_with fail
    refine hI.mono ?_
    rintro e w4 ⟨x, rfl, x1, x2, G4, D4⟩
    have B4 := below_of_grown (B3.alloc B3.size (.cells #[.string ⟨#[97]⟩, .int .i64 off, .slice A' n' c'] 32)) G4 (by have := B3.size; simp; omega) (Nat.le_refl _)
    have T4 : CivT w4 := hT.below B4
    have hRS4 := (hRS3.alloc (.cells #[.string ⟨#[97]⟩, .int .i64 off, .slice A' n' c'] 32)).gr (fun h0 ad ea => rules_far hRS3 D3 h0 ad ea) G4
    have ZB4 : ZBlk w4 w3.heap.size ⟨#[97]⟩ off A' n' c' := blk_after (blk_new rfl) G4 (by omega)
    have hO4 := (hO3.alloc (.cells #[.string ⟨#[97]⟩, .int .i64 off, .slice A' n' c'] 32)).grown G4 hz2
    obtain ⟨A5, c5, rfl, -, -, hS5⟩ := hO4.shape
    obtain ⟨n5, hn5⟩ : ∃ n5, l.length = n5 := ⟨_, rfl⟩
    rw [hn5]
    have hwin : WIn w4 A5 n5 l := ⟨hS5, hn5, by omega⟩
    obtain ⟨ts, htr, htb⟩ := hG.ex
    have hz : ZIn w4 A' n' rs := zin_of T4 hRS4 hrn hG.all (by have := hG.len; omega)
    have hoff : I64 off := ⟨by have := hG.lo; omega, by have := hG.hi; omega⟩
    have hvz := Zn.trans_vz htr
    have hc : Wk.chk l = 0 := Wk.chk_of hRt (by omega)
    obtain ⟨hv, hlen⟩ := Wk.good_set (f := x) (t := x + 1728000) hvz htb hRt (by omega) (by omega) (by omega) (by omega) (by omega)
    obtain ⟨tv, te⟩ := tm_ok (l := l) (f := x) (t := x + 1728000) hc (okQ_ok (by omega) (by omega) (by omega) (by omega)) hlen
    have CT := fun W (h : ZIn W A' n' rs) (hl : WIn W A5 n5 l) => times_is htr ⟨#[97]⟩ A' n' c' A5 n5 c5 l x (x + 1728000) W h hoff hl ⟨by omega, by omega⟩ ⟨by omega, by omega⟩
    rw [tv, te] at CT
    have CI := fun W (h : ZIn W A' n' rs) (hl : WIn W A5 n5 l) y => wkin_is htr ⟨#[97]⟩ A' n' c' A5 n5 c5 l y W h hoff hl
    have hup := Wk.tms_has (off := off) (ts := ts) (f := x) (t := x + 1728000) hRt (by omega)
    obtain ⟨R, hRR⟩ : ∃ R, Wk.tms [] off ts l x (x + 1728000) = R := ⟨_, rfl⟩
    rw [hRR] at CT hv hlen hup
    have hmem : ∀ y ∈ R, x ≤ y.1 ∧ y.1 < y.2 ∧ y.2 ≤ x + 1728000 := fun y hy => ⟨(hup.2.1 y hy).1, hup.1.1 y hy, (hup.2.1 y hy).2⟩
    have hhas := fun y (h1 : x ≤ y) (h2 : y < x + 1728000) => has_in (rs := rs) hRt hc (by omega) (by omega) (by omega) hRR hv h1 h2
    obtain ⟨q, hq⟩ : ∃ q, R.length = q := ⟨_, rfl⟩
    have CV := fun W (A6 : Option Addr) (c6 : Nat) (h : PairsAt W A6 R) => RValid_any A6 q c6 R W (spans_of h) hq (by omega)
    rw [hv] at CV
    have CH := fun W (A6 : Option Addr) (c6 : Nat) (y : Int) (h : PairsAt W A6 R) => RHas_any A6 q c6 R y W (spans_of h) hq (by omega)
    have hq4 : q ≤ 4096 := by omega
    have K4 : LK w off A' n' c' rs w3.heap.size A5 n5 l w4 := ⟨hz, ZB4, hwin, B4⟩
    have HK4 := Lib.hid K4
    have HCT := Lib.hid CT
    have HCI := Lib.hid CI
    have HCV := Lib.hid CV
    have HCH := Lib.hid CH
    have HMEM := Lib.hid hmem
    have HHAS := Lib.hid hhas
    have HT := Lib.hid hT
    have HQ := Lib.hid hq
    obtain ⟨z0, z1, z2⟩ := ZBlk.cells ZB4
    have dx : x + 1728000 - x = 1728000 := by omega
    clear CT CI CV CH K4 ZB4 hwin hz hvz hc tv te hoff htr htb hG hRS hRS3 hRS4 hO3 hO4 hS5 D2 D3 D4 G4 B3 B4 T4 hI hRt hup hRR hn5 hv hT hmem hhas hlen hq
    go_wp2_with fail
    refine (HCT.out _ HK4.out.z HK4.out.win).mono ?_
    rintro e w5 ⟨A6, c6, rfl, hP, b5⟩
    have HK5 := Lib.hid (show LT w off A' n' c' rs w3.heap.size A5 n5 l A6 q R w5 from ⟨HK4.out.after b5, ⟨hP, HQ.out, by omega⟩⟩)
    clear z0 z1 z2 b5 hP HK4
    rw [HQ.out]
    go_wp2_with fail
    refine (HCV.out _ _ _ HK5.out.wv.at_).mono ?_
    rintro e w6 ⟨rfl, b6⟩
    have HK6 := Lib.hid (HK5.out.after b6)
    clear b6 HK5
    go_wp2_with fail
    refine (HM.out _).mono ?_
    rintro e w7 ⟨rfl, rfl⟩
    have hsz6 := HK6.out.k.bel.size
    have O7 := Lib.hid (own_fresh (B := w6.heap.size) (xs := [x, x + 1728000 - 1, x + y]) (BlkAt.new w6 #[.int .i64 x, .int .i64 (x + 1728000 - 1), .int .i64 (x + y)] 3) (by simp [encK, eInt, List.range_succ]) (Nat.le_refl _) (by simp))
    have B7 := Lib.hid ((Below.refl w6.heap.size w6).alloc (Nat.le_refl _) (.cells #[.int .i64 x, .int .i64 (x + 1728000 - 1), .int .i64 (x + y)] 3))
    go_wp2_with fail
    go_loopw [12, 58] (fun va i wr => ∃ (j : Nat) (xs : List Int), i = .int .i64 j ∧ j ≤ q ∧ xs.length ≤ 3 + 4 * j ∧ Hid (OwnL 3 1 eInt wr w6.heap.size va xs) ∧ Hid (Below w6.heap.size w6 wr)) (fun _ i _ => q - (intOf i).toNat)
    case atStart => exact ⟨0, _, rfl, by omega, by simp, O7, B7⟩
    case round =>
      clear O7 B7
      obtain ⟨j, xs, rfl, hj, hxl, HO, HB⟩ := hrel
      have HKr := Lib.hid (HK6.out.after HB.out)
      by_cases hlt : j < q
      · obtain ⟨a, b, bl, of, hx, rfl, hb, c0', c1'⟩ := HK6.out.wv.get hlt
        have c0 := (HB.out.cell (p := ⟨bl, of + j * 2, none⟩) hb).trans c0'
        have c1 := (HB.out.cell (p := ⟨bl, of + j * 2 + 1, none⟩) hb).trans c1'
        clear c0' c1'
        obtain ⟨m1, m2, m3⟩ := HMEM.out _ (List.mem_of_getElem? hx)
        simp only at m1 m2 m3
        have e1 : IntKind.i64.wrap (b - 1) = b - 1 := by rw [IntKind.wrap_i64]; omega
        have e2 : IntKind.i64.wrap (a - 1) = a - 1 := by rw [IntKind.wrap_i64]; omega
        have j0 : (0 : Int) ≤ j := by omega
        have j1 : (j : Int) < q := by omega
        have S0 := (show wr.cell? ⟨bl, of + j * 2, none⟩ = some (.int .i64 a) ∧ wr.cell? ⟨bl, of + j * 2 + 1, none⟩ = some (.int .i64 b) from ⟨c0, c1⟩)
        have S1 := (show wr.drew.cell? ⟨bl, of + j * 2, none⟩ = some (.int .i64 a) ∧ wr.drew.cell? ⟨bl, of + j * 2 + 1, none⟩ = some (.int .i64 b) from ⟨c0, c1⟩)
        obtain ⟨A9, c9, rfl, -, -, -⟩ := HO.out.shape
        have hxl2 : xs.length + 4 ≤ 1000000 := by omega
        have hrz := HB.out.size
        clear hx
        go_upto_region 14 with fail
        go_region_held3 (fun W => W.cell? ⟨bl, of + j * 2, none⟩ = some (.int .i64 a) ∧ W.cell? ⟨bl, of + j * 2 + 1, none⟩ = some (.int .i64 b))
          (first | exact S0 | exact S1 | assumption | exact cells_keep S0 ((Below.refl _ _).alloc (Nat.le_refl _) _) | exact cells_keep S0 (((Below.refl _ _).drew).alloc (Nat.le_refl _) _) | exact cells_keep S0 (((Below.refl _ _).alloc (Nat.le_refl _) _).drew) | exact cells_low (cells_keep S0 ((Below.refl _ _).alloc (Nat.le_refl _) _)) hB9 hb | exact cells_low (cells_keep S0 (((Below.refl _ _).drew).alloc (Nat.le_refl _) _)) hB9 hb | exact cells_low (cells_keep S0 (((Below.refl _ _).alloc (Nat.le_refl _) _).drew)) hB9 hb)
          ((refine step_append_k kInt _ (by rfl) (.tmp 61) (.tmp 84) (by rfl) w6.heap.size (.slice A9 xs.length c9) xs (by simp [Act.eval, Act.put]) (by first | exact HO.out.alloc _ | exact (HO.out.drewN 1).alloc _ | exact (HO.out.alloc _).drewN 1) wr.heap.size 0 4 4 [a, b - 1, a - 1, b] (by rfl) (by omega) (by first | (simp [Act.eval, Act.put]; done) | (simp [Act.eval, Act.put]; rfl)) (ints4 (by first | exact BlkAt.new _ _ _ | exact BlkAt.drewN (BlkAt.new _ _ _) 1 | exact BlkAt.new wr.drew _ _)) hxl2 (by simp; omega) ?_; intro g2 cap2 w9 hO9 hB9 hg9))
        all_goals
          go_wp2_with fail
          go_roundw
          case rel =>
            first
            | exact ⟨j + 1, _, by go_num, by omega, by simp; omega, Lib.hid hO9, Lib.hid ((HB.out.alloc hrz _).trans hB9)⟩
            | exact ⟨j + 1, _, by go_num, by omega, by simp; omega, Lib.hid hO9, Lib.hid (((HB.out.drew).alloc hrz _).trans hB9)⟩
            | exact ⟨j + 1, _, by go_num, by omega, by simp; omega, Lib.hid hO9, Lib.hid (((HB.out.alloc hrz _).drew).trans hB9)⟩
          case measure => simp [intOf]; omega
      · obtain ⟨A9, c9, rfl, -, -, hI9⟩ := HO.out.shape
        have HI9 := Lib.hid hI9
        obtain ⟨Q, hQ⟩ : ∃ Q, xs.length = Q := ⟨_, rfl⟩
        rw [hQ]
        have HQQ := Lib.hid hQ
        have hQ9 : Q ≤ 20000 := by omega
        clear hI9 HO HB hQ
        go_wp2_with fail
        go_loopw [89] (fun i wr2 => ∃ r : Nat, i = .int .i64 r ∧ r ≤ Q ∧ Hid (LT w off A' n' c' rs w3.heap.size A5 n5 l A6 q R wr2) ∧ Hid (ListAt 1 eInt wr2 A9 xs)) (fun i _ => Q - (intOf i).toNat)
        case atStart => exact ⟨0, rfl, by omega, HKr, HI9⟩
        case round =>
          clear HKr HI9
          obtain ⟨r, rfl, hr, HK, HI⟩ := hrel
          by_cases hlt3 : r < Q
          · obtain ⟨e, he⟩ := get_ex (xs := xs) (i := r) (by have := HQQ.out; omega)
            obtain ⟨b9, o9, e9, hb9, hc9⟩ := HI.out (by have := HQQ.out; omega)
            have c0 := hc9 r e he 0 (by omega)
            simp only [Nat.mul_one, Nat.add_zero, eInt] at c0
            subst e9
            have r0 : (0 : Int) ≤ r := by omega
            have r1 : (r : Int) < Q := by omega
            obtain ⟨z0, z1, z2⟩ := ZBlk.cells HK.out.k.zb
            clear he hc9
            by_cases g1 : x ≤ e
            · by_cases g2 : e < x + 1728000
              · have hh := HHAS.out e g1 g2
                have C1 := fun W h hl => HCI.out W h hl e
                have C2 := fun W h => HCH.out W A6 c6 e h
                rw [hh] at C2
                obtain ⟨bv, hbv⟩ : ∃ bv, inV off ts 0 l e = bv := ⟨_, rfl⟩
                rw [hbv] at C1 C2
                have HC1 := Lib.hid C1
                have HC2 := Lib.hid C2
                clear C1 C2 hh hbv
                cases bv
                all_goals
                  go_wp2_with fail
                  refine (HC1.out _ HK.out.k.z HK.out.k.win).mono ?_
                  rintro e' w8 ⟨rfl, b8⟩
                  have HK8 := Lib.hid (HK.out.after b8)
                  have HI8 := Lib.hid (HI.out.below b8)
                  clear b8
                  go_wp2_with fail
                  refine (HC2.out _ HK8.out.wv.at_).mono ?_
                  rintro e' w9 ⟨rfl, b9⟩
                  have HK9 := Lib.hid (HK8.out.after b9)
                  have HI9 := Lib.hid (HI8.out.below b9)
                  clear b9
                  go_wp2_with fail
                  go_roundw
                  case rel => exact ⟨r + 1, by go_num, by omega, HK9, HI9⟩
                  case measure => simp [intOf]; omega
              · go_wp2_with fail
                go_roundw
                case rel => exact ⟨r + 1, by go_num, by omega, HK, HI⟩
                case measure => simp [intOf]; omega
            · go_wp2_with fail
              go_roundw
              case rel => exact ⟨r + 1, by go_num, by omega, HK, HI⟩
              case measure => simp [intOf]; omega
          · have HS := Lib.hid (wsane_any wr (HT.out.below HK.out.k.bel))
            go_wp2_with fail
            refine HS.out.mono ?_
            rintro e w9 ⟨rfl, b9⟩
            go_wp2_with fail
            go_ret
            exact ⟨rfl, bstep HK.out.k.bel b9⟩
  · rw [decide_eq_false h5] at HL
    have HS := Lib.hid (wsane_any w hT)
    clear hA hf
    go_enter Tryd.func5, Tryd.ntmps5
    go_wp2_with fail
    refine HL.mono ?_
    rintro e w1 ⟨rfl, rfl⟩
    go_wp2_with fail
    refine HS.out.mono ?_
    rintro e w7 ⟨rfl, b7⟩
    go_wp2_with fail
    go_ret
    exact ⟨rfl, b7⟩
end Go.Proofs.YtndngkfiamdohaaDoor
