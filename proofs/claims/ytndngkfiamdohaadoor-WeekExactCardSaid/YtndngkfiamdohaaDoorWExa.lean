/- The law WeekExact returns true for all windows, lists and numbers. -/
import Derived.Test.YtndngkfiamdohaaDoorWMc
import Derived.Deep.RegionHeld3
import Derived.Deep.DeepCutAuto
namespace Go.Proofs.YtndngkfiamdohaaDoor
open Go.RowKit
set_option linter.unusedVariables false
set_option linter.unusedSimpArgs false
set_option maxRecDepth 100000

set_option maxHeartbeats 16000000 in
theorem wexa_law (A0 : Option Addr) (n0 c0 : Nat) (raw : Wk.L) (A : Option Addr) (n c : Nat) (zs : List Int) (x f t : Int) (w : World) (hT : CivT w) (hR0 : WIn w A0 n0 raw)
    (hA : NumsAt w A zs) (hn : zs.length = n) (hf : ∀ z ∈ zs, -9223372036854775808 ≤ z ∧ z ≤ 9223372036854775807) (x1 : -9223372036854775808 ≤ x) (x2 : x ≤ 9223372036854775807) (f1 : -9223372036854775808 ≤ f) (f2 : f ≤ 9223372036854775807) (t1 : -9223372036854775808 ≤ t) (t2 : t ≤ 9223372036854775807) :
    Calls Tryd.prog 4 #[.slice A0 n0 c0, .slice A n c, .int .i64 x, .int .i64 f, .int .i64 t] w fun e w' => e = .returned (.bool true) ∧ Below w.heap.size w w' := by
  by_cases h3 : (20 : Int) < n0
  · have HS := Lib.hid (wsane_any w hT)
    clear hR0 hA hn hf hT
    go_enter Tryd.func4, Tryd.ntmps4
    go_wp2_with fail
    refine HS.out.mono ?_
    rintro e w2 ⟨rfl, b2⟩
    go_wp2_with fail
    go_ret
    exact ⟨rfl, b2⟩
  have HL := Light_any A n c w
  by_cases h5 : (n : Int) ≤ 500
  · rw [decide_eq_true h5] at HL
    have hD := Dice.start (c := c) hA hn (by omega) hf
    have hR := Roll_any A n c w
    have B1 := (Below.refl w.heap.size w).alloc (Nat.le_refl _) (.cells #[.slice A n c, .int .i64 0] 71)
    have hS := Zone_any _ _ _ _ _ ⟨#[97]⟩ _ hD
    have HX := Lib.hid (fun W => Mod_any x 2 W x1 x2 (by omega) (by omega))
    have HRAW := Lib.hid hR0
    clear hA hn hf hR0
    go_enter Tryd.func4, Tryd.ntmps4
    go_wp2_with fail
    refine HL.mono ?_
    rintro e w1 ⟨rfl, rfl⟩
    go_wp2_with fail
    refine hR.mono ?_
    rintro e w1 ⟨rfl, rfl⟩
    go_wp2_with fail
    refine hS.mono ?_
    rintro e w2 ⟨off, A', n', c', rs, rfl, hG, hrn, hRS, G2, D2⟩
    have B2 := below_of_grown B1 G2 (by simp) (Nat.le_refl _)
    have hW := Windows_nil _ _ _ _ _ _ D2
    have hz2 : w.heap.size < w2.heap.size := D2.lt_
    clear hS hR HL hD G2 B1
    go_wp2_with fail
    refine hW.mono ?_
    rintro e w3 ⟨v5, l, rfl, hO3, hRt, hl3, hnil, G3, D3⟩
    have hRS3 := hRS.gr (rules_far hRS D2) G3
    have B3 := below_of_grown B2 G3 B2.size (Nat.le_refl _)
    have hz3 := G3.size
    obtain ⟨bz, hbz⟩ : ∃ bz, w3.heap.size = bz := ⟨_, rfl⟩
    -- the box of the zone
    obtain ⟨wa, hwa⟩ : ∃ wa : World, w3.alloc (.cells #[.string ⟨#[97]⟩, .int .i64 off, .slice A' n' c'] 32) = wa := ⟨_, rfl⟩
    have D3a := D3.alloc (.cells #[.string ⟨#[97]⟩, .int .i64 off, .slice A' n' c'] 32)
    have B3a := B3.alloc B3.size (.cells #[.string ⟨#[97]⟩, .int .i64 off, .slice A' n' c'] 32)
    have hRS3a := hRS3.alloc (.cells #[.string ⟨#[97]⟩, .int .i64 off, .slice A' n' c'] 32)
    have ZB3 : ZBlk (w3.alloc (.cells #[.string ⟨#[97]⟩, .int .i64 off, .slice A' n' c'] 32)) bz ⟨#[97]⟩ off A' n' c' := blk_new hbz
    have hO3a := hO3.alloc (.cells #[.string ⟨#[97]⟩, .int .i64 off, .slice A' n' c'] 32)
    have hzbg : bz ≠ w.heap.size := by omega
    rw [hwa] at D3a B3a hRS3a ZB3 hO3a
    have hgwa : w.heap.size < wa.heap.size := D3a.lt_
    obtain ⟨A5, c5, rfl, -, -, hS5⟩ := hO3a.shape
    have hP5 := hS5
    obtain ⟨n5, hn5⟩ : ∃ n5, l.length = n5 := ⟨_, rfl⟩
    rw [hn5] at hO3a hnil ⊢
    have hwin : WIn wa A5 n5 l := ⟨hS5, hn5, by omega⟩
    have HSTA := Lib.hid (show Dice wa w.heap.size A n c zs ∧ Below w.heap.size w wa ∧ RulesAt wa A' rs ∧ ZBlk wa bz ⟨#[97]⟩ off A' n' c' ∧ WIn wa A5 n5 l from ⟨D3a, B3a, hRS3a, ZB3, hwin⟩)
    clear hW B2 G3 hO3 hRS D2 hRS3 B3 D3 hO3a hS5 hP5 hwin D3a B3a hRS3a ZB3
    go_upto_region 5 with fail
    (try rw [hbz])
    (try rw [hwa])
    clear hwa hbz
    go_cut [14] (fun v8 wx => ∃ bl, Hid (OwnL 24 2 ePair wx wa.heap.size v8 bl ∧ bl.length ≤ 4 ∧ wa.grownBy wx (some w.heap.size) ∧ Dice wx w.heap.size A n c zs))
    case first =>
      have hw8 : l.length ≤ 3 := hl3
      obtain ⟨-, -, -, -, hW0⟩ := HSTA.out
      by_cases hl0 : l = []
      · subst hl0
        have he := hnil rfl
        injection he with he1 he2 he3
        subst he1 he2 he3
        have OO : OwnL 24 2 ePair wa wa.heap.size (.slice none 0 0) [] := OwnL.nil_ _ _
        have GG : wa.grownBy wa (some w.heap.size) := grown_refl wa _
        have DD : Dice wa w.heap.size A n c zs := HSTA.out.1
        clear hW0 hnil hn5
        go_wp2_with (at_builtin; refine wp_append_no (S := 0) (T := 0) (k := 2) (e := fun _ _ => .int .i64 0) _ rfl _ _ rfl rfl rfl ?_)

        refine (Pick_any w.heap.size n c A zs [0, 5, 604800, -1, 604799] wa.heap.size 5 5 3 _ (DD.alloc _) (BlkAt.new wa _ _) rfl (by omega) (by omega) (by omega)).mono ?_
        rintro e w7 ⟨p1, rfl, hp1, G7, D7⟩
        have O7 := (OO.alloc (.cells #[.int .i64 0, .int .i64 5, .int .i64 604800, .int .i64 (-1), .int .i64 604799] 3)).grown G7 hgwa
        have GW7 := grown_trans (grown_alloc GG (.cells #[.int .i64 0, .int .i64 5, .int .i64 604800, .int .i64 (-1), .int .i64 604799] 3)) G7
        have hz7 := GW7.size
        go_wp2_with fail
        refine (Pick_any w.heap.size n c A zs [604800, 604801, 5, 0] w7.heap.size 4 4 3 _ (D7.alloc _) (BlkAt.new w7 _ _) rfl (by omega) (by omega) (by omega)).mono ?_
        rintro e w8 ⟨p2, rfl, hp2, G8, D8⟩
        have O8 := Lib.hid ((O7.alloc (.cells #[.int .i64 604800, .int .i64 604801, .int .i64 5, .int .i64 0] 3)).grown G8 hgwa)
        have GW8 := Lib.hid (grown_trans (grown_alloc GW7 (.cells #[.int .i64 604800, .int .i64 604801, .int .i64 5, .int .i64 0] 3)) G8)
        have HD8 := Lib.hid D8
        have hz8 := GW8.out.size
        clear O7 GW7 G7 D7 G8 D8 OO GG DD hp1 hp2
        go_wp2_with (at_builtin; refine wp_append_one kWin _ rfl _ _ rfl wa.heap.size _ [] rfl (O8.out.alloc _) w8.heap.size (p1, p2) rfl (pair_new (x := (p1, p2)) rfl) (by omega) (by simp; omega) ?_; intro gg cap w9 hO9 hB9 hg9 hgo9 _)
        have F9 : ∃ bl, Hid (OwnL 24 2 ePair w9 wa.heap.size (.slice (some ⟨gg, 0, none⟩) (([] : Wk.L).length + 1) cap) bl ∧ bl.length ≤ 4 ∧ wa.grownBy w9 (some w.heap.size) ∧ Dice w9 w.heap.size A n c zs) := ⟨[] ++ [(p1, p2)], Lib.hid ⟨hO9, (by first | (simp; done) | (simp; omega)), grown_then (grown_alloc GW8.out _) hB9 (Nat.le_refl _), (HD8.out.alloc _).below hB9 hgwa⟩⟩
        clear hO9 hB9 hg9 hgo9
        go_wp2_with fail
        go_meet
        exact F9
      · have hl9 : 0 < l.length := List.length_pos_iff.2 hl0
        have hl1 : 0 < n5 := by omega
        have hn53 : n5 ≤ 3 := by omega
        obtain ⟨b, o, rfl, hb, hcc⟩ := hW0.at_ hl9
        have HCC := Lib.hid hcc
        have HN5 := Lib.hid hn5
        clear hW0 hnil hcc hl0 hn5
        go_wp2_with (at_builtin; refine wp_append_k kWin _ rfl _ _ rfl wa.heap.size _ [] rfl (OwnL.nil_ _ _) b o n5 c5 l HN5.out (by omega) rfl HCC.out (by simp; omega) (Nat.le_refl _) ?_; intro g2 cap2 w6 hO6 hB6 hg6 hgo6 _)
        have OO : OwnL 24 2 ePair w6 wa.heap.size (.slice (some ⟨g2, 0, none⟩) n5 cap2) l := by have := hO6; rw [List.nil_append, List.length_nil, Nat.zero_add] at this; exact this
        have GG : wa.grownBy w6 (some w.heap.size) := grown_then (grown_refl wa _) hB6 (Nat.le_refl _)
        have DD : Dice w6 w.heap.size A n c zs := HSTA.out.1.below hB6 hgwa
        have hz6 := GG.size
        clear hO6 hB6 hg6 hgo6
        refine (Pick_any w.heap.size n c A zs [0, 5, 604800, -1, 604799] w6.heap.size 5 5 3 _ (DD.alloc _) (BlkAt.new w6 _ _) rfl (by omega) (by omega) (by omega)).mono ?_
        rintro e w7 ⟨p1, rfl, hp1, G7, D7⟩
        have O7 := (OO.alloc (.cells #[.int .i64 0, .int .i64 5, .int .i64 604800, .int .i64 (-1), .int .i64 604799] 3)).grown G7 hgwa
        have GW7 := grown_trans (grown_alloc GG (.cells #[.int .i64 0, .int .i64 5, .int .i64 604800, .int .i64 (-1), .int .i64 604799] 3)) G7
        have hz7 := GW7.size
        go_wp2_with fail
        refine (Pick_any w.heap.size n c A zs [604800, 604801, 5, 0] w7.heap.size 4 4 3 _ (D7.alloc _) (BlkAt.new w7 _ _) rfl (by omega) (by omega) (by omega)).mono ?_
        rintro e w8 ⟨p2, rfl, hp2, G8, D8⟩
        have O8 := Lib.hid ((O7.alloc (.cells #[.int .i64 604800, .int .i64 604801, .int .i64 5, .int .i64 0] 3)).grown G8 hgwa)
        have GW8 := Lib.hid (grown_trans (grown_alloc GW7 (.cells #[.int .i64 604800, .int .i64 604801, .int .i64 5, .int .i64 0] 3)) G8)
        have HD8 := Lib.hid D8
        have hz8 := GW8.out.size
        clear O7 GW7 G7 D7 G8 D8 OO GG DD hp1 hp2
        go_wp2_with (at_builtin; refine wp_append_one kWin _ rfl _ _ rfl wa.heap.size _ l rfl (O8.out.alloc _) w8.heap.size (p1, p2) rfl (pair_new (x := (p1, p2)) rfl) (by omega) (by simp; omega) ?_; intro gg cap w9 hO9 hB9 hg9 hgo9 _)
        have F9 : ∃ bl, Hid (OwnL 24 2 ePair w9 wa.heap.size (.slice (some ⟨gg, 0, none⟩) (l.length + 1) cap) bl ∧ bl.length ≤ 4 ∧ wa.grownBy w9 (some w.heap.size) ∧ Dice w9 w.heap.size A n c zs) := ⟨l ++ [(p1, p2)], Lib.hid ⟨hO9, (by first | (simp; done) | (simp; omega)), grown_then (grown_alloc GW8.out _) hB9 (Nat.le_refl _), (HD8.out.alloc _).below hB9 hgwa⟩⟩
        clear hO9 hB9 hg9 hgo9
        go_wp2_with fail
        go_meet
        exact F9
    case rest =>
      obtain ⟨bl, H8⟩ := hcut
      obtain ⟨wx, rfl⟩ : ∃ wx : World, wx = wc := ⟨_, rfl⟩
      have hI := Instant_any _ _ _ _ _ _ H8.out.2.2.2
      go_wp2_with fail
      refine hI.mono ?_
      rintro e w10 ⟨a, rfl, a1, a2, G10, D10⟩
      clear hI
      go_wp2_with fail
      refine (Instant_any _ _ _ _ _ _ D10).mono ?_
      rintro e w11 ⟨b, rfl, b1, b2, G11, D11⟩
      have GG := grown_trans (grown_trans H8.out.2.2.1 G10) G11
      obtain ⟨D3a, B3a, hRS3a, ZB3, hwin⟩ := HSTA.out
      have B11 := below_of_grown B3a GG B3a.size (Nat.le_refl _)
      have O11 := (H8.out.1.grown G10 hgwa).grown G11 hgwa
      obtain ⟨A8, c8, rfl, -, -, hS8⟩ := O11.shape
      obtain ⟨n8, hn8⟩ : ∃ n8, bl.length = n8 := ⟨_, rfl⟩
      have h84 := H8.out.2.1
      rw [hn8]
      obtain ⟨ts, htr, htb⟩ := hG.ex
      have hRS11 := hRS3a.gr (rules_far hRS3a D3a) GG
      have hz : ZIn w11 A' n' rs := zin_of (hT.below B11) hRS11 hrn hG.all (by have := hG.len; omega)
      have hoff : I64 off := ⟨by have := hG.lo; omega, by have := hG.hi; omega⟩
      have ZB11 := blk_after ZB3 GG hzbg
      have hl11 := hwin.at_.gr (pairs_far hwin.at_ D3a) GG
      have K11 : LX w off A' n' c' rs bz A5 n5 l A8 n8 bl A0 n0 raw w11 := ⟨⟨hz, ZB11, ⟨hl11, hn5, by omega⟩, B11⟩, ⟨hS8, hn8, by omega⟩, HRAW.out.below B11⟩
      have HK := Lib.hid K11
      have HTR := Lib.hid htr
      have HT := Lib.hid hT
      have HP := Lib.hid (pickL A5 n5 c5 A8 n8 c8 A0 n0 c0 l bl raw)
      have HPI := Lib.hid (pickI x a b)
      obtain ⟨y, hy⟩ : ∃ y, x % 2 = y := ⟨_, rfl⟩
      have y1 : 0 ≤ y ∧ y < 2 := by omega
      rw [hy] at HX
      obtain ⟨mn, hmn⟩ : ∃ mn, min a b = mn := ⟨_, rfl⟩
      obtain ⟨mx, hmx⟩ : ∃ mx, max a b = mx := ⟨_, rfl⟩
      obtain ⟨s3, hs3⟩ : ∃ s3, a + 34560000 + y = s3 := ⟨_, rfl⟩
      obtain ⟨y1, y2⟩ := y1
      have HPR := Lib.hid (pickR mn mx f t a s3 ⟨by omega, by omega⟩ ⟨by omega, by omega⟩ ⟨f1, f2⟩ ⟨t1, t2⟩ ⟨by omega, by omega⟩ ⟨by omega, by omega⟩)
      clear hy hT htr htb hG hrn hRt hl3 hnil hRS3a hwin ZB3 D3a B3a HSTA H8 G10 D10 G11 D11 GG O11 hS8 hRS11 hz ZB11 hl11 K11 B11 hn5 hn8 h84 HRAW hzbg hgwa hz2 hz3 h5 h3
      go_wp2_with fail
      go_loopw [69] (fun i wr => ∃ k : Nat, k ≤ 3 ∧ i = .int .i64 k ∧ Hid (LX w off A' n' c' rs bz A5 n5 l A8 n8 bl A0 n0 raw wr)) (fun i _ => (3 - intOf i).toNat)
      case atStart => exact ⟨0, by omega, rfl, HK⟩
      case round =>
        clear HK
        obtain ⟨k, hk, rfl, HK⟩ := hrel
        by_cases hk3 : k < 3
        · obtain ⟨A1, n1, c1, xs, IX, hX⟩ := HP.out k hk3
          have k0 : (0 : Int) ≤ k := by omega
          have k1 : (k : Int) < 3 := by omega
          have HW := Lib.hid (hX _ HK.out.k.win HK.out.wb HK.out.wr)
          have CV := fun W h => winv_any A1 n1 c1 xs W h
          have RV := fun W h => rwinv_any A1 n1 c1 xs W h
          have hVl := invV_len xs
          generalize Wk.invV xs = V at CV RV hVl
          generalize Wk.invE xs = E at CV RV
          have CC := fun W h => wchk_any A1 n1 c1 xs W h
          have RC := fun W h => rwchk_any A1 n1 c1 xs W h
          generalize Wk.chk xs = R at CC RC
          have CL := fun W h => wlen_any A1 n1 c1 xs W h
          have RL := fun W h => rwlen_any A1 n1 c1 xs W h
          generalize Wk.lenW xs = M at CL RL
          obtain ⟨nv, hnv⟩ : ∃ nv, V.length = nv := ⟨_, rfl⟩
          have CS := fun W Au Av cu cv (h1 : PairsAt W Au V) (h2 : PairsAt W Av V) => lsame_any Au Av nv nv cu cv V V W ⟨h1, hnv, by omega⟩ ⟨h2, hnv, by omega⟩
          rw [decide_eq_true rfl] at CS
          have HCV := Lib.hid CV
          have HRV := Lib.hid RV
          have HCC := Lib.hid CC
          have HRC := Lib.hid RC
          have HCL := Lib.hid CL
          have HRL := Lib.hid RL
          have HCS := Lib.hid CS
          have HNV := Lib.hid hnv
          clear CV RV CC RC CL RL CS hX hVl hnv
          go_wp2_with fail
          refine (HCV.out _ HW.out).mono ?_
          rintro e wA ⟨Au, cu, rfl, Pu, bb⟩
          have HK1 := Lib.hid (HK.out.after bb)
          have HW1 := Lib.hid (HW.out.below bb)
          have HPu := Lib.hid Pu
          clear bb Pu HK HW IX HCV
          rw [HNV.out]
          go_wp2_with fail
          refine (HRV.out _ HW1.out).mono ?_
          rintro e wB ⟨Av, cv, rfl, Pv, bb⟩
          have HK2 := Lib.hid (HK1.out.after bb)
          have HW2 := Lib.hid (HW1.out.below bb)
          have HPu2 := Lib.hid (HPu.out.below bb)
          have HPv := Lib.hid Pv
          clear bb Pv HK1 HW1 HPu HRV
          rw [HNV.out]
          go_wp2_with fail
          refine (HCC.out _ HW2.out).mono ?_
          rintro e wC ⟨rfl, bb⟩
          have HK3 := Lib.hid (HK2.out.after bb)
          have HW3 := Lib.hid (HW2.out.below bb)
          have HPu3 := Lib.hid (HPu2.out.below bb)
          have HPv3 := Lib.hid (HPv.out.below bb)
          clear bb HK2 HW2 HPu2 HPv HCC
          go_wp2_with fail
          refine (HRC.out _ HW3.out).mono ?_
          rintro e wD ⟨rfl, bb⟩
          have HK4 := Lib.hid (HK3.out.after bb)
          have HW4 := Lib.hid (HW3.out.below bb)
          have HPu4 := Lib.hid (HPu3.out.below bb)
          have HPv4 := Lib.hid (HPv3.out.below bb)
          clear bb HK3 HW3 HPu3 HPv3 HRC
          go_wp2_with fail
          refine (HCL.out _ HW4.out).mono ?_
          rintro e wE ⟨rfl, bb⟩
          have HK5 := Lib.hid (HK4.out.after bb)
          have HW5 := Lib.hid (HW4.out.below bb)
          have HPu5 := Lib.hid (HPu4.out.below bb)
          have HPv5 := Lib.hid (HPv4.out.below bb)
          clear bb HK4 HW4 HPu4 HPv4 HCL
          go_wp2_with fail
          refine (HRL.out _ HW5.out).mono ?_
          rintro e wF ⟨rfl, bb⟩
          have HK6 := Lib.hid (HK5.out.after bb)
          have HW6 := Lib.hid (HW5.out.below bb)
          have HPu6 := Lib.hid (HPu5.out.below bb)
          have HPv6 := Lib.hid (HPv5.out.below bb)
          clear bb HK5 HW5 HPu5 HPv5 HRL
          go_wp2_with fail
          refine (HCS.out _ _ _ _ _ HPu6.out HPv6.out).mono ?_
          rintro e wG ⟨rfl, bb⟩
          have HK7 := Lib.hid (HK6.out.after bb)
          have HW7 := Lib.hid (HW6.out.below bb)
          clear bb HK6 HW6 HPu6 HPv6 HCS HNV
          go_wp2_with fail
          go_loopw [109] (fun i wr => ∃ q : Nat, q ≤ 3 ∧ i = .int .i64 q ∧ Hid (LX w off A' n' c' rs bz A5 n5 l A8 n8 bl A0 n0 raw wr) ∧ Hid (WIn wr A1 n1 xs)) (fun i _ => (3 - intOf i).toNat)
          case atStart => exact ⟨0, by omega, rfl, HK7, HW7⟩
          case round =>
            clear HK7 HW7
            obtain ⟨q, hq, rfl, HK, HW⟩ := hrel
            by_cases hq3 : q < 3
            · obtain ⟨v, IX2⟩ := HPI.out q hq3
              have q0 : (0 : Int) ≤ q := by omega
              have q1 : (q : Int) < 3 := by omega
              have C1 := fun W h => sec_is HTR.out ⟨#[97]⟩ A' n' c' v W h hoff
              have C2 := fun W h => rsec_is HTR.out ⟨#[97]⟩ A' n' c' v W h hoff
              generalize secV off ts 0 v = sv at C1 C2
              generalize offE 0 v = se at C1 C2
              have C3 := fun W h hl => wkin_is HTR.out ⟨#[97]⟩ A' n' c' A1 n1 c1 xs v W h hoff hl
              have C4 := fun W h hl => rin_is HTR.out ⟨#[97]⟩ A' n' c' A1 n1 c1 xs v W h hoff hl
              generalize inV off ts 0 xs v = iv at C3 C4
              have H1 := Lib.hid C1
              have H2 := Lib.hid C2
              have H3 := Lib.hid C3
              have H4 := Lib.hid C4
              obtain ⟨z0, z1, z2⟩ := ZBlk.cells HK.out.k.zb
              clear C1 C2 C3 C4
              go_wp2_with fail
              refine (H1.out _ HK.out.k.z).mono ?_
              rintro e wP ⟨rfl, bb⟩
              have HK1 := Lib.hid (HK.out.after bb)
              have HW1 := Lib.hid (HW.out.below bb)
              clear bb HK HW z0 z1 z2 IX2 H1
              obtain ⟨z0, z1, z2⟩ := ZBlk.cells HK1.out.k.zb
              go_wp2_with fail
              refine (H2.out _ HK1.out.k.z).mono ?_
              rintro e wQ ⟨rfl, bb⟩
              have HK2 := Lib.hid (HK1.out.after bb)
              have HW2 := Lib.hid (HW1.out.below bb)
              clear bb HK1 HW1 z0 z1 z2 H2
              have S0 := lx_st HK2.out HW2.out
              obtain ⟨z0, z1, z2, -, -⟩ := lx_st HK2.out HW2.out
              go_upto_region 19 with fail
              go_cut [142] (fun z wx => z = .bool false ∧ Hid (LX w off A' n' c' rs bz A5 n5 l A8 n8 bl A0 n0 raw wx) ∧ Hid (WIn wx A1 n1 xs))
              case first =>
                go_region_held3 (fun W => W.cell? ⟨bz, 0, none⟩ = some (.string ⟨#[97]⟩) ∧ W.cell? ⟨bz, 1, none⟩ = some (.int .i64 off) ∧ W.cell? ⟨bz, 2, none⟩ = some (.slice A' n' c') ∧ LX w off A' n' c' rs bz A5 n5 l A8 n8 bl A0 n0 raw W ∧ WIn W A1 n1 xs)
                  (first | exact S0 | exact lx_keep S0 (Below.refl _ _).drew | assumption | exact lx_keep (by assumption) hb)
                  (first | (go_at_call 13; refine (H3.out _ (lx_get (by assumption)).1.k.z (lx_get (by assumption)).2).mono ?_; rintro e w' ⟨rfl, hb⟩) | (go_at_call 27; refine (H4.out _ (lx_get (by assumption)).1.k.z (lx_get (by assumption)).2).mono ?_; rintro e w' ⟨rfl, hb⟩))
                all_goals
                  go_wp2_with fail
                  go_meet
                  first
                  | exact ⟨rfl, Lib.hid (lx_get (by assumption)).1, Lib.hid (lx_get (by assumption)).2⟩
                  | exact ⟨rfl, Lib.hid (lx_get (lx_keep (by assumption) hb)).1, Lib.hid (lx_get (lx_keep (by assumption) hb)).2⟩
              case rest =>
                obtain ⟨rfl, HK, HW⟩ := hcut
                obtain ⟨w8, rfl⟩ : ∃ w8 : World, w8 = wc := ⟨_, rfl⟩
                clear z0 z1 z2 S0 HK2 HW2 H3 H4
                go_wp2_with fail
                go_roundw
                case rel => exact ⟨q + 1, by omega, by go_num, HK, HW⟩
                case measure => simp [intOf]; omega
            · go_wp2_with fail
              refine (HX.out _).mono ?_
              rintro e wM ⟨rfl, rfl⟩
              go_wp2_with fail
              go_loopw [162] (fun i wr => ∃ q : Nat, q ≤ 3 ∧ i = .int .i64 q ∧ Hid (LX w off A' n' c' rs bz A5 n5 l A8 n8 bl A0 n0 raw wr) ∧ Hid (WIn wr A1 n1 xs)) (fun i _ => (3 - intOf i).toNat)
              case atStart => exact ⟨0, by omega, rfl, HK, HW⟩
              case round =>
                clear HK HW
                obtain ⟨r, hr, rfl, HK, HW⟩ := hrel
                by_cases hr3 : r < 3
                · obtain ⟨u, v, IX3, iu, iv⟩ := HPR.out r hr3
                  have r0 : (0 : Int) ≤ r := by omega
                  have r1 : (r : Int) < 3 := by omega
                  have C1 := fun W h hl => times_is HTR.out ⟨#[97]⟩ A' n' c' A1 n1 c1 xs u v W h hoff hl iu iv
                  have C2 := fun W h hl => rtimes_is HTR.out ⟨#[97]⟩ A' n' c' A1 n1 c1 xs u v W h hoff hl iu iv
                  have hVl := tmV_len 0 xs u v (Wk.tms [] off ts xs u v)
                  generalize tmV 0 xs u v (Wk.tms [] off ts xs u v) = V at C1 C2 hVl
                  generalize tmE 0 xs u v (Wk.tms [] off ts xs u v) = E at C1 C2
                  obtain ⟨nv, hnv⟩ : ∃ nv, V.length = nv := ⟨_, rfl⟩
                  have CS := fun W Au Av cu cv (h1 : PairsAt W Au V) (h2 : PairsAt W Av V) => lspans_any Au Av nv nv cu cv V V W ⟨h1, hnv, by omega⟩ ⟨h2, hnv, by omega⟩
                  rw [decide_eq_true rfl] at CS
                  have H1 := Lib.hid C1
                  have H2 := Lib.hid C2
                  have HCS := Lib.hid CS
                  have HNV := Lib.hid hnv
                  have HK1 := Lib.hid (HK.out.after ((Below.refl _ _).alloc (Nat.le_refl _) (.cells #[.int .i64 u, .int .i64 v] 54)))
                  have HW1 := Lib.hid (HW.out.alloc (.cells #[.int .i64 u, .int .i64 v] 54))
                  have HBX := Lib.hid (BlkAt.new wr #[.int .i64 u, .int .i64 v] 54)
                  obtain ⟨bx, hbx⟩ : ∃ bx, wr.heap.size = bx := ⟨_, rfl⟩
                  rw [hbx] at HBX
                  obtain ⟨z0, z1, z2⟩ := ZBlk.cells HK1.out.k.zb
                  clear C1 C2 CS hVl hnv HK HW iu iv
                  go_wp2_with fail
                  (try rw [hbx])
                  clear hbx
                  refine (H1.out _ HK1.out.k.z HW1.out).mono ?_
                  rintro e wA ⟨Au, cu, rfl, Pu, bb⟩
                  have HK2 := Lib.hid (HK1.out.after bb)
                  have HW2 := Lib.hid (HW1.out.below bb)
                  have HBX2 := Lib.hid (BlkAt.after HBX.out bb)
                  have HPu := Lib.hid Pu
                  clear bb Pu HK1 HW1 HBX z0 z1 z2 IX3 H1
                  obtain ⟨z0, z1, z2⟩ := ZBlk.cells HK2.out.k.zb
                  have c0 := BlkAt.cell HBX2.out (i := 0) rfl
                  have c1' := BlkAt.cell HBX2.out (i := 1) rfl
                  rw [HNV.out]
                  go_wp2_with fail
                  refine (H2.out _ HK2.out.k.z HW2.out).mono ?_
                  rintro e wB ⟨Av, cv, rfl, Pv, bb⟩
                  have HK3 := Lib.hid (HK2.out.after bb)
                  have HW3 := Lib.hid (HW2.out.below bb)
                  have HPu3 := Lib.hid (HPu.out.below bb)
                  have HPv3 := Lib.hid Pv
                  clear bb Pv HK2 HW2 HBX2 HPu z0 z1 z2 c0 c1' H2
                  rw [HNV.out]
                  go_wp2_with fail
                  refine (HCS.out _ _ _ _ _ HPu3.out HPv3.out).mono ?_
                  rintro e wC ⟨rfl, bb⟩
                  have HK4 := Lib.hid (HK3.out.after bb)
                  have HW4 := Lib.hid (HW3.out.below bb)
                  clear bb HK3 HW3 HPu3 HPv3 HCS HNV
                  go_wp2_with fail
                  go_roundw
                  case rel => exact ⟨r + 1, by omega, by go_num, HK4, HW4⟩
                  case measure => simp [intOf]; omega
                · go_wp2_with fail
                  go_roundw
                  case rel => exact ⟨k + 1, by omega, by go_num, HK⟩
                  case measure => simp [intOf]; omega
        · have HS := Lib.hid (wsane_any wr (HT.out.below HK.out.k.bel))
          go_wp2_with fail
          refine HS.out.mono ?_
          rintro e w9 ⟨rfl, b9⟩
          go_wp2_with fail
          go_ret
          exact ⟨rfl, bstep HK.out.k.bel b9⟩
  · rw [decide_eq_false h5] at HL
    have HS := Lib.hid (wsane_any w hT)
    clear hA hf
    go_enter Tryd.func4, Tryd.ntmps4
    go_wp2_with fail
    refine HL.mono ?_
    rintro e w1 ⟨rfl, rfl⟩
    go_wp2_with fail
    refine HS.out.mono ?_
    rintro e w7 ⟨rfl, b7⟩
    go_wp2_with fail
    go_ret
    exact ⟨rfl, b7⟩
end Go.Proofs.YtndngkfiamdohaaDoor
