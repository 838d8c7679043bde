/- The law SpanExact returns true for all lists and numbers. -/
import Derived.Test.YtnleelkdoagfcaaSpO
namespace Go.Proofs.Ytnleelkdoagfcaa
open Go.RowKit
set_option linter.unusedVariables false
set_option linter.unusedSimpArgs false

/-- What is known of the lists of the law. -/
structure St (w0 : World) (g : Nat) (A : Option Addr) (n c : Nat) (zs : List Int) (A0 Aa Ab : Option Addr) (raw a b : Spn.L) (w : World) : Prop where
  raw : SpansAt w A0 raw
  sa : SpansAt w Aa a
  sb : SpansAt w Ab b
  dice : Dice w g A n c zs
  bel : Below w0.heap.size w0 w
  gle : w0.heap.size ≤ g
section
variable {w0 w w' : World} {g n c : Nat} {zs : List Int} {A A0 Aa Ab : Option Addr} {raw a b : Spn.L}
theorem St.below (h : St w0 g A n c zs A0 Aa Ab raw a b w) (hb : Below w.heap.size w w') : St w0 g A n c zs A0 Aa Ab raw a b w' :=
  ⟨h.raw.below hb, h.sa.below hb, h.sb.below hb, h.dice.below hb h.dice.lt_, bstep h.bel hb, h.gle⟩
theorem SpansAt.diced {B : Option Addr} {xs : Spn.L} (h : SpansAt w B xs) (hD : Dice w g A n c zs) (hg : w.grownBy w' (some g)) : SpansAt w' B xs := by
  obtain ⟨p, hp, hd⟩ := hD.at_
  exact h.grown hd hg
theorem St.grown (h : St w0 g A n c zs A0 Aa Ab raw a b w) (hg : w.grownBy w' (some g)) (hD : Dice w' g A n c zs) : St w0 g A n c zs A0 Aa Ab raw a b w' :=
  ⟨h.raw.diced h.dice hg, h.sa.diced h.dice hg, h.sb.diced h.dice hg, hD, below_of_grown h.bel hg h.bel.size h.gle, h.gle⟩
/-- The pair of a round: where it lies, and its lists. -/
structure Pr (p g : Nat) (A1 : Option Addr) (n1 c1 : Nat) (A2 : Option Addr) (n2 c2 : Nat) (xs ys : Spn.L) (w : World) : Prop where
  c0 : w.cell? ⟨p, 0, none⟩ = some (.slice A1 n1 c1)
  c1 : w.cell? ⟨p, 1, none⟩ = some (.slice A2 n2 c2)
  sx : SpansAt w A1 xs
  sy : SpansAt w A2 ys
  lt : p < w.heap.size
  ne : p ≠ g
variable {p n1 c1 n2 c2 : Nat} {A1 A2 Au Av : Option Addr} {xs ys r s : Spn.L}
theorem Pr.below (h : Pr p g A1 n1 c1 A2 n2 c2 xs ys w) (hb : Below w.heap.size w w') : Pr p g A1 n1 c1 A2 n2 c2 xs ys w' :=
  ⟨(hb.cell (p := ⟨p, 0, none⟩) h.lt).trans h.c0, (hb.cell (p := ⟨p, 1, none⟩) h.lt).trans h.c1, h.sx.below hb, h.sy.below hb, Nat.lt_of_lt_of_le h.lt hb.size, h.ne⟩
theorem Pr.grown (h : Pr p g A1 n1 c1 A2 n2 c2 xs ys w) (hD : Dice w g A n c zs) (hg : w.grownBy w' (some g)) : Pr p g A1 n1 c1 A2 n2 c2 xs ys w' :=
  ⟨(hg.cell_far ⟨p, 0, none⟩ h.lt (fun e => h.ne (by injection e))).trans h.c0, (hg.cell_far ⟨p, 1, none⟩ h.lt (fun e => h.ne (by injection e))).trans h.c1, h.sx.diced hD hg, h.sy.diced hD hg, Nat.lt_of_lt_of_le h.lt hg.size, h.ne⟩
theorem keep10 {v : Value} (h : w.cell? ⟨p, 0, none⟩ = some v ∧ St w0 g A n c zs A0 Aa Ab raw a b w ∧ Pr p g A1 n1 c1 A2 n2 c2 xs ys w ∧ SpansAt w Au r ∧ SpansAt w Av s) (hb : Below w.heap.size w w') :
    w'.cell? ⟨p, 0, none⟩ = some v ∧ St w0 g A n c zs A0 Aa Ab raw a b w' ∧ Pr p g A1 n1 c1 A2 n2 c2 xs ys w' ∧ SpansAt w' Au r ∧ SpansAt w' Av s :=
  ⟨(hb.cell (p := ⟨p, 0, none⟩) h.2.2.1.lt).trans h.1, h.2.1.below hb, h.2.2.1.below hb, h.2.2.2.1.below hb, h.2.2.2.2.below hb⟩
theorem of10 {x y : Prop} (h : x ∧ y ∧ Pr p g A1 n1 c1 A2 n2 c2 xs ys w ∧ SpansAt w Au r ∧ SpansAt w Av s) : SpansAt w A1 xs := h.2.2.1.sx
theorem uv10 {x y z : Prop} (h : x ∧ y ∧ z ∧ SpansAt w Au r ∧ SpansAt w Av s) : SpansAt w Au r ∧ SpansAt w Av s := h.2.2.2
theorem keep29 {v : Value} (h : w.cell? ⟨p, 0, none⟩ = some v ∧ St w0 g A n c zs A0 Aa Ab raw a b w ∧ Pr p g A1 n1 c1 A2 n2 c2 xs ys w) (hb : Below w.heap.size w w') :
    w'.cell? ⟨p, 0, none⟩ = some v ∧ St w0 g A n c zs A0 Aa Ab raw a b w' ∧ Pr p g A1 n1 c1 A2 n2 c2 xs ys w' :=
  ⟨(hb.cell (p := ⟨p, 0, none⟩) h.2.2.lt).trans h.1, h.2.1.below hb, h.2.2.below hb⟩
theorem of29 {x y : Prop} (h : x ∧ y ∧ Pr p g A1 n1 c1 A2 n2 c2 xs ys w) : SpansAt w A1 xs := h.2.2.sx
end

theorem NR.short {l r : Spn.L} {er : Int} (h : Spn.NR l r er) : r.length ≤ 9223372036854775807 := by
  rcases h with ⟨_, rfl, _⟩ | ⟨_, _, rfl, _⟩ | ⟨_, hb, hN, _⟩
  · simp
  · simp
  · have key : ∀ x, Spn.cov r x → 0 ≤ x ∧ x < 8589934592 := fun x hx => by
      obtain ⟨s, hs, h1, h2⟩ := (hN.2 x).1 hx
      rcases Int.lt_or_le s.1 0 with h | h
      · exact absurd ⟨s, hs, by omega, .inl h⟩ hb
      · rcases Int.lt_or_le 8589934592 s.2 with h' | h'
        · exact absurd ⟨s, hs, by omega, .inr h'⟩ hb
        · omega
    have := chain_short (lo := 0) (hi := 8589934592) r hN.1 (fun s hs => by
      have hlt := hN.1.1 s hs
      have k1 := key s.1 ⟨s, hs, by omega, by omega⟩
      have k2 := key (s.2 - 1) ⟨s, hs, by omega, by omega⟩
      omega) (by omega)
    omega
theorem RC.short {keep : Bool → Bool → Bool} {x y r : Spn.L} {er : Int} (h : RC keep x y r er) : r.length ≤ 9223372036854775807 := by
  rcases h with ⟨_, _, s, hs, rfl, rfl⟩ | ⟨_, rfl, _⟩
  · split
    · omega
    · simp
  · simp

/-- The pair of the round k. -/
theorem pick4 (A0 : Option Addr) (n0 c0 : Nat) (Aa : Option Addr) (na ca : Nat) (Ab : Option Addr) (nb cb : Nat) (raw a b : Spn.L) (h0 : raw.length = n0) (h1 : a.length = na) (h2 : b.length = nb) (i0 : n0 ≤ 500) (i1 : na ≤ 500) (i2 : nb ≤ 500) (f0 : Fits raw) (f1 : Fits a) (k : Nat) (hk : k < 4) :
    ∃ (A1 : Option Addr) (n1 c1 : Nat) (A2 : Option Addr) (n2 c2 : Nat) (xs ys : Spn.L), (∀ w, (Instr.index 30 (.agg #[.slice A0 n0 c0, .slice Aa na ca, .slice Aa na ca, .slice Ab nb cb, .slice Aa na ca, .slice A0 n0 c0, .slice Aa na ca, .slice Aa na ca]) (.int .i64 (k : Int))).run Try.prog w = .ok (.agg #[.slice A1 n1 c1, .slice A2 n2 c2]) w) ∧
      (∀ w, SpansAt w A0 raw → SpansAt w Aa a → SpansAt w Ab b → SpansAt w A1 xs ∧ SpansAt w A2 ys) ∧ xs.length = n1 ∧ ys.length = n2 ∧ n1 ≤ 500 ∧ n2 ≤ 500 ∧ Fits xs := by
  have h : k = 0 ∨ k = 1 ∨ k = 2 ∨ k = 3 := by omega
  rcases h with rfl | rfl | rfl | rfl
  · exact ⟨A0, n0, c0, Aa, na, ca, raw, a, fun _ => by kernel_rfl, fun _ x y z => ⟨x, y⟩, h0, h1, i0, i1, f0⟩
  · exact ⟨Aa, na, ca, Ab, nb, cb, a, b, fun _ => by kernel_rfl, fun _ x y z => ⟨y, z⟩, h1, h2, i1, i2, f1⟩
  · exact ⟨Aa, na, ca, A0, n0, c0, a, raw, fun _ => by kernel_rfl, fun _ x y z => ⟨y, x⟩, h1, h0, i1, i0, f1⟩
  · exact ⟨Aa, na, ca, Aa, na, ca, a, a, fun _ => by kernel_rfl, fun _ x y z => ⟨y, y⟩, h1, h1, i1, i1, f1⟩
theorem pick3 (x d f : Int) (k : Nat) (hk : k < 3) : ∃ v : Int, ∀ w, (Instr.index 39 (.agg #[.int .i64 x, .int .i64 d, .int .i64 f]) (.int .i64 (k : Int))).run Try.prog w = .ok (.int .i64 v) w := by
  have h : k = 0 ∨ k = 1 ∨ k = 2 := by omega
  rcases h with rfl | rfl | rfl
  · exact ⟨x, fun _ => by kernel_rfl⟩
  · exact ⟨d, fun _ => by kernel_rfl⟩
  · exact ⟨f, fun _ => by kernel_rfl⟩
theorem Small.fits {r : Spn.L} (h : Small r) : Fits r := fun s hs => by
  have := Spn.vld_all h.1 s hs
  omega

set_option maxHeartbeats 16000000 in
set_option maxRecDepth 100000 in
theorem exact_law (A0 : Option Addr) (n0 c0 : Nat) (raw : Spn.L) (A : Option Addr) (n c : Nat) (zs : List Int) (x f t : Int) (w : World) (hR : SpansAt w A0 raw) (hr : raw.length = n0) (hF : Fits raw) (hm : n0 ≤ 9223372036854775807)
    (hA : IntsAt w A zs) (hn : zs.length = n) (hf : ∀ z ∈ zs, -9223372036854775808 ≤ z ∧ z ≤ 9223372036854775807) (x1 : -9223372036854775808 ≤ x) (x2 : x ≤ 9223372036854775807) (f1 : -9223372036854775808 ≤ f) (f2 : f ≤ 9223372036854775807) (t1 : -9223372036854775808 ≤ t) (t2 : t ≤ 9223372036854775807) :
    Calls Try.prog 3 #[.slice A0 n0 c0, .slice A n c, .int .i64 x, .int .i64 f, .int .i64 t] w fun e w' => e = .returned (.bool true) ∧ Below w.heap.size w w' := by
  clear x1 x2 f1 f2 t1 t2
  by_cases h3 : (300 : Int) < n0
  · clear hR hr hF hA hn hf
    go_enter Try.func3, Try.ntmps3
    go_wp2_with fail
    refine (sane_any w).mono ?_
    rintro e w2 ⟨rfl, b2⟩
    go_wp2_with fail
    go_ret
    exact ⟨rfl, b2⟩
  have HL := Light_any A n c w
  by_cases h5 : (n : Int) ≤ 500
  · rw [decide_eq_true h5] at HL
    have hD := Dice.start (c := c) hA hn (by omega) hf
    have hRo := Roll_any A n c w
    have B1 := (Below.refl w.heap.size w).alloc (Nat.le_refl _) (.cells #[.slice A n c, .int .i64 0] 51)
    have hS := Set_any _ _ _ _ _ _ hD
    have S0 := hR.alloc (.cells #[.slice A n c, .int .i64 0] 51)
    have HR0 := Lib.hid hr
    have HF0 := Lib.hid hF
    have i0 : n0 ≤ 500 := by omega
    clear hA hn hf hR hr hF hm
    go_enter Try.func3, Try.ntmps3
    go_wp2_with fail
    refine HL.mono ?_
    rintro e w1 ⟨rfl, rfl⟩
    go_wp2_with fail
    refine hRo.mono ?_
    rintro e w1 ⟨rfl, rfl⟩
    go_wp2_with fail
    refine hS.mono ?_
    rintro e w2 ⟨Aa, ca, a, rfl, Sa, Ma, G2, D2⟩
    have B2 := below_of_grown B1 G2 (by simp) (Nat.le_refl _)
    have S2 := S0.diced hD G2
    clear hS hRo HL hD G2 B1 S0
    obtain ⟨na, HA⟩ : ∃ L, Hid (a.length = L) := ⟨_, Lib.hid rfl⟩
    rw [HA.out]
    go_wp2_with fail
    refine (Set_any _ _ _ _ _ _ D2).mono ?_
    rintro e w3 ⟨Ab, cb, b, rfl, Sb, Mb, G3, D3⟩
    have B3 := below_of_grown B2 G3 B2.size (Nat.le_refl _)
    have S : St w w.heap.size A n c zs A0 Aa Ab raw a b w3 := ⟨S2.diced D2 G3, Sa.diced D2 G3, Sb, D3, B3, Nat.le_refl _⟩
    clear G3 D2 B2 S2 Sa Sb D3 B3
    obtain ⟨nb, HB⟩ : ∃ L, Hid (b.length = L) := ⟨_, Lib.hid rfl⟩
    rw [HB.out]
    have HP := Lib.hid (pick4 A0 n0 c0 Aa na ca Ab nb cb raw a b HR0.out HA.out HB.out i0 (by have := HA.out; have := Ma.short; omega) (by have := HB.out; have := Mb.short; omega) HF0.out Ma.fits)
    clear Ma Mb HA HB HR0 HF0 i0
    go_wp2_with fail
    go_loopw [54] (fun i wr => ∃ k : Nat, k ≤ 4 ∧ i = .int .i64 k ∧ St w w.heap.size A n c zs A0 Aa Ab raw a b wr) (fun i _ => (4 - intOf i).toNat)
    case atStart => exact ⟨0, by omega, rfl, S⟩
    case round =>
      clear S
      obtain ⟨k, hk, rfl, S⟩ := hrel
      by_cases hk4 : k < 4
      · obtain ⟨A1, n1, c1, A2, n2, c2, xs, ys, IX, hX, hl1, hl2, i1, i2, hF1⟩ := HP.out k hk4
        have k0 : (0 : Int) ≤ k := by omega
        have k1 : (k : Int) < 4 := by omega
        have m1 : n1 ≤ 9223372036854775807 := by omega
        have m2 : n2 ≤ 9223372036854775807 := by omega
        have hs := hX _ S.raw S.sa S.sb
        have S1 := S.below ((Below.refl _ _).alloc (Nat.le_refl _) (.cells #[.slice A1 n1 c1, .slice A2 n2 c2] 29))
        have Q1 : Pr wr.heap.size w.heap.size A1 n1 c1 A2 n2 c2 xs ys (wr.alloc (.cells #[.slice A1 n1 c1, .slice A2 n2 c2] 29)) := ⟨by simp, by simp, hs.1.alloc _, hs.2.alloc _, by simp, by have := S.dice.lt_; omega⟩
        have HLX := Lib.hid hl1
        have HLY := Lib.hid hl2
        have HFX := Lib.hid hF1
        clear hX hl1 hl2 hF1 hs S i1 i2 hk
        go_wp2_with fail
        have N1 := Normal_any A1 n1 c1 xs _ Q1.sx HLX.out m1
        refine N1.mono ?_
        rintro e w4 ⟨r, er, HR, Au, cu, rfl, SU, b⟩
        clear N1
        have S := S1.below b
        have Q := Q1.below b
        clear S1 Q1 b IX
        obtain ⟨p, hp⟩ : ∃ p, p = wr.heap.size := ⟨_, rfl⟩
        rw [← hp] at Q ⊢
        clear hp
        have q0 := Q.c0
        have q1 := Q.c1
        go_wp2_with fail
        refine (RNormal_any A1 n1 c1 xs w4 Q.sx HFX.out HLX.out m1).mono ?_
        rintro e w5 ⟨r2, er2, HR2, Av, cv, rfl, SV, b⟩
        clear q0 q1
        obtain ⟨rfl, rfl⟩ := HR2.out.uniq HR.out
        replace S := S.below b
        replace Q := Q.below b
        replace SU := SU.below b
        clear b
        have hrl := NR.short HR.out
        obtain ⟨Lr, HLR⟩ : ∃ L, Hid (r2.length = L) := ⟨_, Lib.hid rfl⟩
        rw [HLR.out] at hrl ⊢
        have CS := Lib.hid (fun W (h : SpansAt W Au r2 ∧ SpansAt W Av r2) => by have E := same_any Au Av Lr Lr cu cv r2 r2 W h.1 h.2 HLR.out HLR.out hrl hrl; rw [decide_eq_true rfl] at E; exact E)
        clear HR HR2 HLR
        obtain ⟨vb, HVB⟩ : ∃ b, Hid (Spn.vld xs = b) := ⟨_, Lib.hid rfl⟩
        obtain ⟨le, HLE⟩ : ∃ b, Hid (Spn.len xs = b) := ⟨_, Lib.hid rfl⟩
        have V1 := fun W h => Valid_any A1 n1 c1 xs W h HLX.out m1
        have V2 := fun W h => RValid_any A1 n1 c1 xs W h HLX.out m1
        have L1 := fun W h => Length_any A1 n1 c1 xs W h HLX.out m1
        have L2 := fun W h => RLength_any A1 n1 c1 xs W h HLX.out m1
        rw [HVB.out] at V1 V2
        rw [HLE.out] at L1 L2
        have HV1 := Lib.hid V1
        have HV2 := Lib.hid V2
        have HL1 := Lib.hid L1
        have HL2 := Lib.hid L2
        clear V1 V2 L1 L2 HVB HLE hrl
        have SK : w5.cell? ⟨p, 0, none⟩ = some (.slice A1 n1 c1) ∧ St w w.heap.size A n c zs A0 Aa Ab raw a b w5 ∧ Pr p w.heap.size A1 n1 c1 A2 n2 c2 xs ys w5 ∧ SpansAt w5 Au r2 ∧ SpansAt w5 Av r2 := ⟨Q.c0, S, Q, SU, SV⟩
        clear S Q SU SV
        go_upto_region 10 with fail
        go_cut [95] (fun z wx => z = .bool false ∧ wx.cell? ⟨p, 0, none⟩ = some (.slice A1 n1 c1) ∧ St w w.heap.size A n c zs A0 Aa Ab raw a b wx ∧ Pr p w.heap.size A1 n1 c1 A2 n2 c2 xs ys wx ∧ SpansAt wx Au r2 ∧ SpansAt wx Av r2)
        case first => as_aux_lemma =>
          go_region_held3 (fun W => W.cell? ⟨p, 0, none⟩ = some (.slice A1 n1 c1) ∧ St w w.heap.size A n c zs A0 Aa Ab raw a b W ∧ Pr p w.heap.size A1 n1 c1 A2 n2 c2 xs ys W ∧ SpansAt W Au r2 ∧ SpansAt W Av r2)
            (first | (exact keep10 SK (Below.refl _ _).drew) | assumption | (exact keep10 (by assumption) hb))
            (first | (go_at_call 14; refine (CS.out _ ?_).mono ?_; exact uv10 (by assumption); rintro e w' ⟨rfl, hb⟩) | (go_at_call 15; refine (HV1.out _ ?_).mono ?_; exact of10 (by assumption); rintro e w' ⟨rfl, hb⟩) | (go_at_call 16; refine (HV2.out _ ?_).mono ?_; exact of10 (by assumption); rintro e w' ⟨rfl, hb⟩) | (go_at_call 17; refine (HL1.out _ ?_).mono ?_; exact of10 (by assumption); rintro e w' ⟨rfl, hb⟩) | (go_at_call 18; refine (HL2.out _ ?_).mono ?_; exact of10 (by assumption); rintro e w' ⟨rfl, hb⟩))
          go_wp2_with fail
          go_meet
          exact ⟨rfl, by assumption⟩
        case rest =>
          clear SK CS
          obtain ⟨rfl, hz, S, Q, hu, hv⟩ := hcut
          clear hz hu hv
          have q0 := Q.c0
          have q1 := Q.c1
          go_wp2_with fail
          refine (Union_any A1 A2 n1 n2 c1 c2 xs ys _ Q.sx Q.sy HLX.out HLY.out m1 m2).mono ?_
          rintro e wa0 ⟨r0, er0, HR, Au, cu, rfl, SU, b⟩
          clear q0 q1
          replace S := S.below b
          replace Q := Q.below b
          clear b
          have q0 := Q.c0
          have q1 := Q.c1
          go_wp2_with fail
          refine (RUnion_any A1 A2 n1 n2 c1 c2 xs ys _ Q.sx Q.sy HLX.out HLY.out m1 m2).mono ?_
          rintro e wb0 ⟨s0, es0, HR2, Av, cv, rfl, SV, b⟩
          clear q0 q1
          obtain ⟨rfl, rfl⟩ := HR2.out.uniq HR.out
          replace S := S.below b
          replace Q := Q.below b
          replace SU := SU.below b
          clear b
          have hrl := RC.short HR.out
          obtain ⟨Lr, HLR⟩ : ∃ L, Hid (s0.length = L) := ⟨_, Lib.hid rfl⟩
          rw [HLR.out] at hrl ⊢
          have E := same_any Au Av Lr Lr cu cv s0 s0 _ SU SV HLR.out HLR.out hrl hrl
          rw [decide_eq_true rfl] at E
          clear HR HR2 SU SV HLR hrl
          go_wp2_with fail
          refine E.mono ?_
          rintro e wc0 ⟨rfl, b⟩
          clear E
          replace S := S.below b
          replace Q := Q.below b
          clear b
          have q0 := Q.c0
          have q1 := Q.c1
          go_wp2_with fail
          refine (Meet_any A1 A2 n1 n2 c1 c2 xs ys _ Q.sx Q.sy HLX.out HLY.out m1 m2).mono ?_
          rintro e wa1 ⟨r1, er1, HR, Au, cu, rfl, SU, b⟩
          clear q0 q1
          replace S := S.below b
          replace Q := Q.below b
          clear b
          have q0 := Q.c0
          have q1 := Q.c1
          go_wp2_with fail
          refine (RMeet_any A1 A2 n1 n2 c1 c2 xs ys _ Q.sx Q.sy HLX.out HLY.out m1 m2).mono ?_
          rintro e wb1 ⟨s1, es1, HR2, Av, cv, rfl, SV, b⟩
          clear q0 q1
          obtain ⟨rfl, rfl⟩ := HR2.out.uniq HR.out
          replace S := S.below b
          replace Q := Q.below b
          replace SU := SU.below b
          clear b
          have hrl := RC.short HR.out
          obtain ⟨Lr, HLR⟩ : ∃ L, Hid (s1.length = L) := ⟨_, Lib.hid rfl⟩
          rw [HLR.out] at hrl ⊢
          have E := same_any Au Av Lr Lr cu cv s1 s1 _ SU SV HLR.out HLR.out hrl hrl
          rw [decide_eq_true rfl] at E
          clear HR HR2 SU SV HLR hrl
          go_wp2_with fail
          refine E.mono ?_
          rintro e wc1 ⟨rfl, b⟩
          clear E
          replace S := S.below b
          replace Q := Q.below b
          clear b
          have q0 := Q.c0
          have q1 := Q.c1
          go_wp2_with fail
          refine (Minus_any A1 A2 n1 n2 c1 c2 xs ys _ Q.sx Q.sy HLX.out HLY.out m1 m2).mono ?_
          rintro e wa2 ⟨r2, er2, HR, Au, cu, rfl, SU, b⟩
          clear q0 q1
          replace S := S.below b
          replace Q := Q.below b
          clear b
          have q0 := Q.c0
          have q1 := Q.c1
          go_wp2_with fail
          refine (RMinus_any A1 A2 n1 n2 c1 c2 xs ys _ Q.sx Q.sy HLX.out HLY.out m1 m2).mono ?_
          rintro e wb2 ⟨s2, es2, HR2, Av, cv, rfl, SV, b⟩
          clear q0 q1
          obtain ⟨rfl, rfl⟩ := HR2.out.uniq HR.out
          replace S := S.below b
          replace Q := Q.below b
          replace SU := SU.below b
          clear b
          have hrl := RC.short HR.out
          obtain ⟨Lr, HLR⟩ : ∃ L, Hid (s2.length = L) := ⟨_, Lib.hid rfl⟩
          rw [HLR.out] at hrl ⊢
          have E := same_any Au Av Lr Lr cu cv s2 s2 _ SU SV HLR.out HLR.out hrl hrl
          rw [decide_eq_true rfl] at E
          clear HR HR2 SU SV HLR hrl
          go_wp2_with fail
          refine E.mono ?_
          rintro e wc2 ⟨rfl, b⟩
          clear E
          replace S := S.below b
          replace Q := Q.below b
          clear b
          have q0 := Q.c0
          have q1 := Q.c1
          go_wp2_with fail
          refine (Next_any _ n c A zs 70 _ S.dice (by omega) (by omega)).mono ?_
          rintro e wn ⟨dv, rfl, v0, v1, G, D⟩
          clear q0 q1 v0 v1
          replace Q := Q.grown S.dice G
          replace S := S.grown G D
          clear G D
          have HI := Lib.hid (pick3 x dv f)
          go_wp2_with fail
          go_loopw [176] (fun i wr => ∃ j : Nat, j ≤ 3 ∧ i = .int .i64 j ∧ St w w.heap.size A n c zs A0 Aa Ab raw a b wr ∧ Pr p w.heap.size A1 n1 c1 A2 n2 c2 xs ys wr) (fun i _ => (3 - intOf i).toNat)
          case atStart => exact ⟨0, by omega, rfl, S, Q⟩
          case round =>
            clear S Q
            obtain ⟨j, hj, rfl, S, Q⟩ := hrel
            by_cases hj3 : j < 3
            · obtain ⟨v, IY⟩ := HI.out j hj3
              have j0 : (0 : Int) ≤ j := by omega
              have j1 : (j : Int) < 3 := by omega
              clear hj
              obtain ⟨⟨fi, fb⟩, HFI⟩ : ∃ z : Int × Bool, Hid (Spn.fst xs v = z) := ⟨_, Lib.hid rfl⟩
              obtain ⟨hx, HHX⟩ : ∃ z, Hid (Spn.has xs v = z) := ⟨_, Lib.hid rfl⟩
              obtain ⟨gx, HGX⟩ : ∃ z, Hid (Spn.gap xs v = z) := ⟨_, Lib.hid rfl⟩
              have F1 := fun W h => First_any A1 n1 c1 xs v W h HLX.out m1
              have F2 := fun W h => RFirst_any A1 n1 c1 xs v W h HLX.out m1
              have H1 := fun W h => Has_any A1 n1 c1 xs v W h HLX.out m1
              have H2 := fun W h => RHas_any A1 n1 c1 xs v W h HLX.out m1
              have G1 := fun W h => Gap_any A1 n1 c1 xs v W h HLX.out m1
              have G2 := fun W h => RGap_any A1 n1 c1 xs v W h HLX.out m1
              rw [HFI.out] at F1 F2
              rw [HHX.out] at H1 H2
              rw [HGX.out] at G1 G2
              have HF1 := Lib.hid F1
              have HF2 := Lib.hid F2
              have HH1 := Lib.hid H1
              have HH2 := Lib.hid H2
              have HG1 := Lib.hid G1
              have HG2 := Lib.hid G2
              clear F1 F2 H1 H2 G1 G2 HFI HHX HGX
              have q0 := Q.c0
              have q1 := Q.c1
              go_wp2_with fail
              refine (HF1.out _ Q.sx).mono ?_
              rintro e wd1 ⟨rfl, b⟩
              clear q0 q1 IY
              replace S := S.below b
              replace Q := Q.below b
              clear b
              have q0 := Q.c0
              have q1 := Q.c1
              go_wp2_with fail
              refine (HF2.out _ Q.sx).mono ?_
              rintro e wd2 ⟨rfl, b⟩
              clear q0 q1
              replace S := S.below b
              replace Q := Q.below b
              clear b
              have SK : wd2.cell? ⟨p, 0, none⟩ = some (.slice A1 n1 c1) ∧ St w w.heap.size A n c zs A0 Aa Ab raw a b wd2 ∧ Pr p w.heap.size A1 n1 c1 A2 n2 c2 xs ys wd2 := ⟨Q.c0, S, Q⟩
              clear S Q
              go_upto_region 29 with fail
              go_cut [222] (fun z wx => z = .bool false ∧ wx.cell? ⟨p, 0, none⟩ = some (.slice A1 n1 c1) ∧ St w w.heap.size A n c zs A0 Aa Ab raw a b wx ∧ Pr p w.heap.size A1 n1 c1 A2 n2 c2 xs ys wx)
              case first => as_aux_lemma =>
                go_region_held3 (fun W => W.cell? ⟨p, 0, none⟩ = some (.slice A1 n1 c1) ∧ St w w.heap.size A n c zs A0 Aa Ab raw a b W ∧ Pr p w.heap.size A1 n1 c1 A2 n2 c2 xs ys W)
                  (first | (exact keep29 SK (Below.refl _ _).drew) | assumption | (exact keep29 (by assumption) hb))
                  (first | (go_at_call 28; refine (HH1.out _ ?_).mono ?_; exact of29 (by assumption); rintro e w' ⟨rfl, hb⟩) | (go_at_call 29; refine (HH2.out _ ?_).mono ?_; exact of29 (by assumption); rintro e w' ⟨rfl, hb⟩) | (go_at_call 30; refine (HG1.out _ ?_).mono ?_; exact of29 (by assumption); rintro e w' ⟨rfl, hb⟩) | (go_at_call 31; refine (HG2.out _ ?_).mono ?_; exact of29 (by assumption); rintro e w' ⟨rfl, hb⟩))
                go_wp2_with fail
                go_meet
                exact ⟨rfl, by assumption⟩
              case rest =>
                clear SK
                obtain ⟨rfl, hz, S, Q⟩ := hcut
                clear hz HH1 HH2 HG1 HG2 HF1 HF2
                have q0 := Q.c0
                have q1 := Q.c1
                go_wp2_with fail
                refine (Clip_any A1 n1 c1 xs v t _ Q.sx HLX.out m1).mono ?_
                rintro e we1 ⟨Au, cu, rfl, SU, b⟩
                clear q0 q1
                replace S := S.below b
                replace Q := Q.below b
                clear b
                have hrl : (if Spn.vld xs = true then Spn.clp v t xs else []).length ≤ 9223372036854775807 := by
                  split
                  · have := Spn.clp_len v t xs; have := HLX.out; omega
                  · simp
                obtain ⟨r, HCR⟩ : ∃ r, Hid ((if Spn.vld xs = true then Spn.clp v t xs else []) = r) := ⟨_, Lib.hid rfl⟩
                obtain ⟨er, HCE⟩ : ∃ r, Hid ((if Spn.vld xs = true then (0 : Int) else 8) = r) := ⟨_, Lib.hid rfl⟩
                have CR := fun W h => RClip_any A1 n1 c1 xs v t W h HLX.out m1
                rw [HCR.out] at CR SU hrl ⊢
                rw [HCE.out] at CR ⊢
                have HCC := Lib.hid CR
                clear CR
                have q0 := Q.c0
                have q1 := Q.c1
                go_wp2_with fail
                refine (HCC.out _ Q.sx).mono ?_
                rintro e we2 ⟨Av, cv, rfl, SV, b⟩
                clear q0 q1 HCC HCR HCE
                replace S := S.below b
                replace Q := Q.below b
                replace SU := SU.below b
                clear b
                obtain ⟨Lr, HLR⟩ : ∃ L, Hid (r.length = L) := ⟨_, Lib.hid rfl⟩
                rw [HLR.out] at hrl ⊢
                have E := same_any Au Av Lr Lr cu cv r r _ SU SV HLR.out HLR.out hrl hrl
                rw [decide_eq_true rfl] at E
                clear SU SV HLR hrl
                go_wp2_with fail
                refine E.mono ?_
                rintro e we3 ⟨rfl, b⟩
                clear E
                replace S := S.below b
                replace Q := Q.below b
                clear b
                go_wp2_with fail
                go_roundw
                case rel => exact ⟨j + 1, by omega, by simp, S, Q⟩
                case measure => simp [intOf]; omega
            · obtain rfl : j = 3 := by omega
              go_wp2_with fail
              go_roundw
              case rel => exact ⟨k + 1, by omega, by simp, S⟩
              case measure => simp [intOf]; omega
      · obtain rfl : k = 4 := by omega
        go_wp2_with fail
        refine (sane_any _).mono ?_
        rintro e w7 ⟨rfl, b⟩
        have Bw := (S.below b).bel
        go_wp2_with fail
        go_ret
        exact ⟨rfl, Bw⟩
  · rw [decide_eq_false h5] at HL
    clear hA hn hf h5 hR hr hF
    go_enter Try.func3, Try.ntmps3
    go_wp2_with fail
    refine HL.mono ?_
    rintro e w1 ⟨rfl, rfl⟩
    go_wp2_with fail
    refine (sane_any w).mono ?_
    rintro e w2 ⟨rfl, b2⟩
    go_wp2_with fail
    go_ret
    exact ⟨rfl, b2⟩
end Go.Proofs.Ytnleelkdoagfcaa
