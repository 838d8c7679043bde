/- The program's normal form of any spans, and both sides' unions, common parts and differences. -/
import Derived.Test.YtnleelkdoagfcaaSpK
import Derived.Test.YtnleelkdoagfcaaSpG
namespace Go.Proofs.Ytnleelkdoagfcaa
open Go.RowKit
set_option linter.unusedVariables false
set_option linter.unusedSimpArgs false

theorem Own.row {w : World} {B : Nat} {v : Value} {ys : Spn.L} (h : Own w B v ys) : (v = .slice none 0 0 ∧ ys = []) ∨ ∃ g cap, v = .slice (some ⟨g, 0, none⟩) ys.length cap ∧ B ≤ g ∧ RowAt w g ys ∧ ys.length ≤ cap := by
  rcases h.2 with ⟨rfl, h0⟩ | ⟨g, cap, cur, rfl, hb, hg, h1, h2, h3, h4⟩
  · exact .inl ⟨rfl, List.eq_nil_of_length_eq_zero h0⟩
  · have hh : w.ownsRow B 47 2 (.slice (some ⟨g, 0, none⟩) ys.length cap) ys.length (enc ys) := ⟨h.1, .inr ⟨g, cap, cur, rfl, hb, hg, h1, h2, h3, h4⟩⟩
    have hlt : g < w.heap.size := by
      rcases Nat.lt_or_ge g w.heap.size with hlt | hge
      · exact hlt
      · rw [Array.getElem?_eq_none hge] at hg; cases hg
    refine .inr ⟨g, cap, rfl, hb, ⟨hlt, fun k hk => ?_⟩, h1⟩
    have e := enc_get ys k hk
    exact ⟨(hh.cellAt (k * 2) (by omega)).trans e.1, (hh.cellAt (k * 2 + 1) (by omega)).trans e.2, hh.frozenAt _, hh.frozenAt _⟩

set_option maxHeartbeats 1000000 in
theorem join_nil (w : World) : Calls Try.prog 39 #[.slice none 0 0] w fun e w' => e = .returned (.slice none 0 0) ∧ w = w' := by
  go_enter Try.func39, Try.ntmps39
  go_wp2_with fail
  refine wp_loop_rounds 1 ?_
  rw [rounds_succ]
  go_wp2_with fail
  go_ret
  exact ⟨rfl, rfl⟩
theorem sort_nil (w : World) : Calls Try.prog 36 #[.slice none 0 0, .func (.func 37) #[] #[]] w fun e w' => e = .returned (.tuple #[]) ∧ w = w' := by
  have h := AnyF.slices_SortFunc_none Try.sortSpan none 0 (.func (.func 37) #[] #[]) w
  change Calls Try.prog 36 _ _ _ at h
  exact h.mono fun _ _ ⟨a, b⟩ => ⟨a, b.symm⟩

theorem two_allocs' {w wr w2 : World} {o1 o2 : Obj} (hW : Below w.heap.size w wr) (h2 : Below w.heap.size ((wr.alloc o1).alloc o2) w2) : Below w.heap.size w w2 :=
  ((hW.alloc hW.size _).alloc (by have := hW.size; simp; omega) _).trans h2
set_option maxHeartbeats 8000000 in
set_option maxRecDepth 100000 in
theorem Normal_any (A : Option Addr) (n c : Nat) (xs : Spn.L) (w : World) (hA : SpansAt w A xs) (hn : xs.length = n) (hm : n ≤ 9223372036854775807) :
    Calls Try.prog 12 #[.slice A n c] w fun e w' => ∃ r er, Hid (Spn.NR xs r er) ∧ Gives r er w e w' := by
  by_cases hl : (4096 : Int) < n
  · have hr : Spn.NR xs [] 5 := .inl ⟨by omega, rfl, rfl⟩
    have HR := Lib.hid hr
    clear hn hr
    go_enter Try.func12, Try.ntmps12
    go_wp2_with fail
    go_ret2
    exact ⟨[], 5, HR, Gives.none_ (Below.refl _ _)⟩
  · have hl2 : (n : Int) ≤ 4096 := by omega
    have HN := Lib.hid hn
    clear hn hl
    go_enter Try.func12, Try.ntmps12
    go_wp2_with fail
    go_loopw [4, 12] (fun v i wr => ∃ k : Nat, k ≤ n ∧ i = .int .i64 k ∧ Own wr w.heap.size v (Spn.parts (xs.take k)) ∧ Hid (¬ Spn.Bad (xs.take k)) ∧ Below w.heap.size w wr) (fun _ i _ => n - (intOf i).toNat)
    case atStart => exact ⟨0, Nat.zero_le _, rfl, Own.nil_ _ _, Lib.hid Spn.bad_nil, Below.refl _ _⟩
    case round =>
      obtain ⟨k, hk, rfl, hO, HB, hW⟩ := hrel
      by_cases hlt : k < n
      · obtain ⟨b, off, rfl, hb, hc⟩ := hA (by have := HN.out; omega)
        obtain ⟨c0, c1⟩ := hc k (by have := HN.out; omega)
        have c0' := (bcell hW _ _ hb).trans c0
        have c1' := (bcell hW _ _ hb).trans c1
        clear hc c0 c1
        obtain ⟨⟨f, t⟩, HS⟩ : ∃ s : Int × Int, Hid (xs.getD k (0, 0) = s) := ⟨_, Lib.hid rfl⟩
        rw [HS.out] at c0' c1'
        simp only at c0' c1'
        have hT : Spn.parts (xs.take (k + 1)) = Spn.parts (xs.take k) ++ (if f < t then [(f, t)] else []) := by rw [Spn.take_snoc xs k (0, 0) (by have := HN.out; omega), HS.out, Spn.parts_snoc]
        have hpl := Spn.parts_len (xs.take k)
        have hlk : (xs.take k).length = k := by rw [List.length_take]; have := HN.out; omega
        rw [hlk] at hpl
        have hk1 : k < xs.length := by have := HN.out; omega
        clear hlk
        have hwz := hW.size
        by_cases p1 : t ≤ f
        · have hB2 : ¬ Spn.Bad (xs.take (k + 1)) := Spn.bad_take hk1 HB.out (by rw [HS.out]; rintro ⟨h, -⟩; simp only at h; omega)
          rw [if_neg (by omega), List.append_nil] at hT
          rw [← hT] at hO
          have HB2 := Lib.hid hB2
          clear hB2 hT
          go_wp2_with fail
          go_roundw
          case rel => exact ⟨k + 1, by omega, by go_num, hO.alloc _, HB2, hW.alloc hW.size _⟩
          case measure => simp [intOf]; omega
        · by_cases p2 : f < 0 ∨ 8589934592 < t
          · have hr : Spn.NR xs [] 1 := .inr (.inl ⟨by have := HN.out; omega, ⟨_, Spn.getD_mem hk1, by rw [HS.out]; exact ⟨by simp only; omega, p2⟩⟩, rfl, rfl⟩)
            have HR := Lib.hid hr
            clear hr hT
            by_cases p3 : f < 0
            all_goals
              go_wp2_with fail
              go_ret2
              exact ⟨[], 1, HR, Gives.none_ (hW.alloc hW.size _)⟩
          · have hB2 : ¬ Spn.Bad (xs.take (k + 1)) := Spn.bad_take hk1 HB.out (by rw [HS.out]; rintro ⟨-, h⟩; exact p2 h)
            have HB2 := Lib.hid hB2
            rw [if_pos (by omega)] at hT
            have p4 : ¬ f < 0 := by omega
            have p5 : ¬ 8589934592 < t := by omega
            obtain ⟨ps, HP⟩ : ∃ ps, Hid (Spn.parts (xs.take k) = ps) := ⟨_, Lib.hid rfl⟩
            rw [HP.out] at hO hT hpl
            have HT := Lib.hid hT
            have hpl9 : ps.length ≤ 1000000 := by omega
            clear hB2 hT p2
            go_wp2_with (at_builtin; refine wp_append_span _ rfl _ _ rfl w.heap.size _ ps rfl ((hO.alloc _).alloc _) (wr.heap.size + 1) f t rfl (cell_new0 (by simp)) (cell_new1 (by simp)) hpl9 (by simp; omega) ?_; intro gg cap w3 hO3 hB3 _ _)
            have hB4 := two_allocs' hW hB3
            rw [← HT.out] at hO3
            go_wp2_with fail
            go_roundw
            case rel => exact ⟨k + 1, by omega, by go_num, hO3, HB2, hB4⟩
            case measure => simp [intOf]; omega
      · have hkn : xs.take k = xs := List.take_of_length_le (by have := HN.out; omega)
        rw [hkn] at hO
        have hbad := HB.out
        rw [hkn] at hbad
        have HBAD := Lib.hid hbad
        have hpl := Spn.parts_len xs
        have hpn : (Spn.parts xs).length ≤ 100000 := by have := HN.out; omega
        clear hkn hbad hpl HB
        have fin : ∀ r, (Spn.Chain r ∧ ∀ x, Spn.cov r x ↔ Spn.cov (Spn.parts xs) x) → Hid (Spn.NR xs r 0) := fun r h => Lib.hid (.inr (.inr ⟨by have := HN.out; omega, HBAD.out, ⟨h.1, fun x => by rw [h.2 x]; exact Spn.cov_parts xs x⟩, rfl⟩))
        have FIN := Lib.hid fin
        clear fin
        rcases hO.row with ⟨rfl, he⟩ | ⟨g, cap, rfl, hg, hR, hcap⟩
        · have hr := FIN.out [] ⟨Spn.chain_nil, fun x => by rw [he]⟩
          clear he hO hpn
          go_wp2_with fail
          refine (sort_nil wr).mono ?_
          rintro e w' ⟨rfl, rfl⟩
          go_wp2_with fail
          refine (join_nil wr).mono ?_
          rintro e w' ⟨rfl, rfl⟩
          go_wp2_with fail
          go_ret2
          exact ⟨[], 0, hr, Gives.none_ hW⟩
        · have S1 := sort_any g cap (Spn.parts xs) wr hR hpn
          obtain ⟨L, HL⟩ : ∃ L, Hid ((Spn.parts xs).length = L) := ⟨_, Lib.hid rfl⟩
          rw [HL.out] at S1 hpn hcap ⊢
          have HS1 := Lib.hid S1
          clear S1 hO hR
          go_wp2_with fail
          refine HS1.out.mono ?_
          rintro e w2 ⟨rfl, d, R2, HD, B2⟩
          have J1 := join_any g L cap d w2 R2 (by rw [HD.out.1]; exact HL.out) hcap hpn HD.out.2.1 (fun s hs => (Spn.mem_parts.1 ((HD.out.2.2 s).1 hs)).2)
          have W2 := hW.trans (B2 _ hg hW.size)
          clear B2 R2 HS1
          go_wp2_with fail
          refine J1.mono ?_
          rintro e w3 ⟨set, rfl, SP, HF, B3⟩
          have hr := FIN.out set ⟨HF.out.1, fun x => by
            rw [HF.out.2 x]
            constructor
            · rintro ⟨s, hs, h⟩; exact ⟨s, (HD.out.2.2 s).1 hs, h⟩
            · rintro ⟨s, hs, h⟩; exact ⟨s, (HD.out.2.2 s).2 hs, h⟩⟩
          have W3 := W2.trans (B3 _ hg W2.size)
          clear J1 B3
          go_wp2_with fail
          go_ret2
          exact ⟨set, 0, hr, _, _, rfl, SP, W3⟩

/-! ### The three combinations, of both. -/
/-- What a combination answers. -/
def RC (keep : Bool → Bool → Bool) (a b r : Spn.L) (er : Int) : Prop :=
  (Spn.vld a = true ∧ Spn.vld b = true ∧ ∃ s, Spn.Comb keep a b s ∧ r = (if (s.length : Int) ≤ 4096 then s else []) ∧ er = (if (s.length : Int) ≤ 4096 then 0 else 5)) ∨ ((Spn.vld a = false ∨ Spn.vld b = false) ∧ r = [] ∧ er = 8)
theorem RC.uniq {keep : Bool → Bool → Bool} {a b r s : Spn.L} {e f : Int} (h : RC keep a b r e) (h' : RC keep a b s f) : r = s ∧ e = f := by
  rcases h with ⟨h1, h2, x, hx, rfl, rfl⟩ | ⟨h1, rfl, rfl⟩ <;> rcases h' with ⟨h1', h2', x', hx', rfl, rfl⟩ | ⟨h1', rfl, rfl⟩
  · rw [hx.uniq hx']; exact ⟨rfl, rfl⟩
  · rcases h1' with h | h
    · rw [h1] at h; cases h
    · rw [h2] at h; cases h
  · rcases h1 with h | h
    · rw [h1'] at h; cases h
    · rw [h2'] at h; cases h
  · exact ⟨rfl, rfl⟩
def Combined (keep : Bool → Bool → Bool) (xs ys : Spn.L) (w : World) (e : Ending) (w' : World) : Prop := ∃ r er, Hid (RC keep xs ys r er) ∧ Gives r er w e w'

set_option maxHeartbeats 2000000 in
theorem combine_any (A B : Option Addr) (n m c d g : Nat) (keep : Bool → Bool → Bool) (xs ys : Spn.L) (w : World) (hA : SpansAt w A xs) (hB : SpansAt w B ys) (hn : xs.length = n) (hm : ys.length = m) (h1 : n ≤ 9223372036854775807) (h2 : m ≤ 9223372036854775807)
    (hk : keep false false = false) (eg : ∀ args w, (callFunc g args).run Try.prog w = .ok (.enter g args) w)
    (hg : ∀ x y W, Calls Try.prog g #[.bool x, .bool y] W fun e w' => e = .returned (.bool (keep x y)) ∧ W = w') :
    Calls Try.prog 41 #[.slice A n c, .slice B m d, .func (.func g) #[] #[]] w (Combined keep xs ys w) := by
  have V1 := Valid_any A n c xs w hA hn h1
  have V2 := fun W h => Valid_any B m d ys W h hm h2
  by_cases hx : Spn.vld xs = true
  · by_cases hy : Spn.vld ys = true
    · refine (combine_set A B n m c d g keep xs ys w hA hB hn hm hx hy hk eg hg).mono ?_
      rintro e w' ⟨r, HC, hG⟩
      exact ⟨_, _, Lib.hid (.inl ⟨hx, hy, r, HC.out, rfl, rfl⟩), hG⟩
    · have hy' : Spn.vld ys = false := by simpa using hy
      have hr : RC keep xs ys [] 8 := .inr ⟨.inr hy', rfl, rfl⟩
      have HR := Lib.hid hr
      rw [hx] at V1
      rw [hy'] at V2
      have HV := Lib.hid V2
      clear hn hm hx hy hy' hk hg hr V2
      go_enter Try.func41, Try.ntmps41
      go_wp2_with fail
      refine V1.mono ?_
      rintro e w1 ⟨rfl, b1⟩
      go_wp2_with fail
      refine (HV.out w1 (hB.below b1)).mono ?_
      rintro e w2 ⟨rfl, b2⟩
      go_wp2_with fail
      go_ret2
      exact ⟨[], 8, HR, Gives.none_ (bstep b1 b2)⟩
  · have hx' : Spn.vld xs = false := by simpa using hx
    have hr : RC keep xs ys [] 8 := .inr ⟨.inl hx', rfl, rfl⟩
    have HR := Lib.hid hr
    rw [hx'] at V1
    clear hn hm hx hx' hk hg hr V2
    go_enter Try.func41, Try.ntmps41
    go_wp2_with fail
    refine V1.mono ?_
    rintro e w1 ⟨rfl, b1⟩
    go_wp2_with fail
    go_ret2
    exact ⟨[], 8, HR, Gives.none_ b1⟩
set_option maxHeartbeats 2000000 in
theorem rcombine_any (A B : Option Addr) (n m c d : Nat) (kd : Int) (hkd : kd = 1 ∨ kd = 2 ∨ kd = 3) (xs ys : Spn.L) (w : World) (hA : SpansAt w A xs) (hB : SpansAt w B ys) (hn : xs.length = n) (hm : ys.length = m) (h1 : n ≤ 9223372036854775807) (h2 : m ≤ 9223372036854775807) :
    Calls Try.prog 43 #[.slice A n c, .slice B m d, .int .i64 kd] w (Combined (Spn.kind kd) xs ys w) := by
  have V1 := RValid_any A n c xs w hA hn h1
  have V2 := fun W h => RValid_any B m d ys W h hm h2
  by_cases hx : Spn.vld xs = true
  · by_cases hy : Spn.vld ys = true
    · refine (rcombine_set A B n m c d kd hkd xs ys w hA hB hn hm hx hy).mono ?_
      rintro e w' ⟨r, HC, hG⟩
      exact ⟨_, _, Lib.hid (.inl ⟨hx, hy, r, HC.out, rfl, rfl⟩), hG⟩
    · have hy' : Spn.vld ys = false := by simpa using hy
      have hr : RC (Spn.kind kd) xs ys [] 8 := .inr ⟨.inr hy', rfl, rfl⟩
      have HR := Lib.hid hr
      rw [hx] at V1
      rw [hy'] at V2
      have HV := Lib.hid V2
      clear hn hm hx hy hy' hkd hr V2
      go_enter Try.func43, Try.ntmps43
      go_wp2_with fail
      refine V1.mono ?_
      rintro e w1 ⟨rfl, b1⟩
      go_wp2_with fail
      refine (HV.out w1 (hB.below b1)).mono ?_
      rintro e w2 ⟨rfl, b2⟩
      go_wp2_with fail
      go_ret2
      exact ⟨[], 8, HR, Gives.none_ (bstep b1 b2)⟩
  · have hx' : Spn.vld xs = false := by simpa using hx
    have hr : RC (Spn.kind kd) xs ys [] 8 := .inr ⟨.inl hx', rfl, rfl⟩
    have HR := Lib.hid hr
    rw [hx'] at V1
    clear hn hm hx hx' hkd hr V2
    go_enter Try.func43, Try.ntmps43
    go_wp2_with fail
    refine V1.mono ?_
    rintro e w1 ⟨rfl, b1⟩
    go_wp2_with fail
    go_ret2
    exact ⟨[], 8, HR, Gives.none_ b1⟩

theorem Union_keep (x y : Bool) (W : World) : Calls Try.prog 42 #[.bool x, .bool y] W fun e w' => e = .returned (.bool (Spn.kind 1 x y)) ∧ W = w' := by
  rcases x with _ | _ <;> rcases y with _ | _
  all_goals
    go_enter Try.func42, Try.ntmps42
    go_wp2_with fail
    go_ret
    exact ⟨rfl, rfl⟩
set_option maxHeartbeats 1000000 in
theorem Union_any (A B : Option Addr) (n m c d : Nat) (xs ys : Spn.L) (w : World) (hA : SpansAt w A xs) (hB : SpansAt w B ys) (hn : xs.length = n) (hm : ys.length = m) (h1 : n ≤ 9223372036854775807) (h2 : m ≤ 9223372036854775807) :
    Calls Try.prog 19 #[.slice A n c, .slice B m d] w (Combined (Spn.kind 1) xs ys w) := by
  have C := combine_any A B n m c d 42 (Spn.kind 1) xs ys w hA hB hn hm h1 h2 (Spn.kind_no _) (enters_of Try.func42 (by kernel_rfl) rfl) Union_keep
  clear hn hm hA hB
  go_enter Try.func19, Try.ntmps19
  go_wp2_with fail
  refine C.mono ?_
  rintro e w1 ⟨r, er, HR, A', c', rfl, hS, hB⟩
  go_wp2_with fail
  go_ret2
  exact ⟨r, er, HR, A', c', rfl, hS, hB⟩
set_option maxHeartbeats 1000000 in
theorem RUnion_any (A B : Option Addr) (n m c d : Nat) (xs ys : Spn.L) (w : World) (hA : SpansAt w A xs) (hB : SpansAt w B ys) (hn : xs.length = n) (hm : ys.length = m) (h1 : n ≤ 9223372036854775807) (h2 : m ≤ 9223372036854775807) :
    Calls Try.prog 20 #[.slice A n c, .slice B m d] w (Combined (Spn.kind 1) xs ys w) := by
  have C := rcombine_any A B n m c d 1 (by omega) xs ys w hA hB hn hm h1 h2
  clear hn hm hA hB
  go_enter Try.func20, Try.ntmps20
  go_wp2_with fail
  refine C.mono ?_
  rintro e w1 ⟨r, er, HR, A', c', rfl, hS, hB⟩
  go_wp2_with fail
  go_ret2
  exact ⟨r, er, HR, A', c', rfl, hS, hB⟩

theorem Meet_keep (x y : Bool) (W : World) : Calls Try.prog 44 #[.bool x, .bool y] W fun e w' => e = .returned (.bool (Spn.kind 2 x y)) ∧ W = w' := by
  rcases x with _ | _ <;> rcases y with _ | _
  all_goals
    go_enter Try.func44, Try.ntmps44
    go_wp2_with fail
    go_ret
    exact ⟨rfl, rfl⟩
set_option maxHeartbeats 1000000 in
theorem Meet_any (A B : Option Addr) (n m c d : Nat) (xs ys : Spn.L) (w : World) (hA : SpansAt w A xs) (hB : SpansAt w B ys) (hn : xs.length = n) (hm : ys.length = m) (h1 : n ≤ 9223372036854775807) (h2 : m ≤ 9223372036854775807) :
    Calls Try.prog 21 #[.slice A n c, .slice B m d] w (Combined (Spn.kind 2) xs ys w) := by
  have C := combine_any A B n m c d 44 (Spn.kind 2) xs ys w hA hB hn hm h1 h2 (Spn.kind_no _) (enters_of Try.func44 (by kernel_rfl) rfl) Meet_keep
  clear hn hm hA hB
  go_enter Try.func21, Try.ntmps21
  go_wp2_with fail
  refine C.mono ?_
  rintro e w1 ⟨r, er, HR, A', c', rfl, hS, hB⟩
  go_wp2_with fail
  go_ret2
  exact ⟨r, er, HR, A', c', rfl, hS, hB⟩
set_option maxHeartbeats 1000000 in
theorem RMeet_any (A B : Option Addr) (n m c d : Nat) (xs ys : Spn.L) (w : World) (hA : SpansAt w A xs) (hB : SpansAt w B ys) (hn : xs.length = n) (hm : ys.length = m) (h1 : n ≤ 9223372036854775807) (h2 : m ≤ 9223372036854775807) :
    Calls Try.prog 22 #[.slice A n c, .slice B m d] w (Combined (Spn.kind 2) xs ys w) := by
  have C := rcombine_any A B n m c d 2 (by omega) xs ys w hA hB hn hm h1 h2
  clear hn hm hA hB
  go_enter Try.func22, Try.ntmps22
  go_wp2_with fail
  refine C.mono ?_
  rintro e w1 ⟨r, er, HR, A', c', rfl, hS, hB⟩
  go_wp2_with fail
  go_ret2
  exact ⟨r, er, HR, A', c', rfl, hS, hB⟩

theorem Minus_keep (x y : Bool) (W : World) : Calls Try.prog 45 #[.bool x, .bool y] W fun e w' => e = .returned (.bool (Spn.kind 3 x y)) ∧ W = w' := by
  rcases x with _ | _ <;> rcases y with _ | _
  all_goals
    go_enter Try.func45, Try.ntmps45
    go_wp2_with fail
    go_ret
    exact ⟨rfl, rfl⟩
set_option maxHeartbeats 1000000 in
theorem Minus_any (A B : Option Addr) (n m c d : Nat) (xs ys : Spn.L) (w : World) (hA : SpansAt w A xs) (hB : SpansAt w B ys) (hn : xs.length = n) (hm : ys.length = m) (h1 : n ≤ 9223372036854775807) (h2 : m ≤ 9223372036854775807) :
    Calls Try.prog 23 #[.slice A n c, .slice B m d] w (Combined (Spn.kind 3) xs ys w) := by
  have C := combine_any A B n m c d 45 (Spn.kind 3) xs ys w hA hB hn hm h1 h2 (Spn.kind_no _) (enters_of Try.func45 (by kernel_rfl) rfl) Minus_keep
  clear hn hm hA hB
  go_enter Try.func23, Try.ntmps23
  go_wp2_with fail
  refine C.mono ?_
  rintro e w1 ⟨r, er, HR, A', c', rfl, hS, hB⟩
  go_wp2_with fail
  go_ret2
  exact ⟨r, er, HR, A', c', rfl, hS, hB⟩
set_option maxHeartbeats 1000000 in
theorem RMinus_any (A B : Option Addr) (n m c d : Nat) (xs ys : Spn.L) (w : World) (hA : SpansAt w A xs) (hB : SpansAt w B ys) (hn : xs.length = n) (hm : ys.length = m) (h1 : n ≤ 9223372036854775807) (h2 : m ≤ 9223372036854775807) :
    Calls Try.prog 24 #[.slice A n c, .slice B m d] w (Combined (Spn.kind 3) xs ys w) := by
  have C := rcombine_any A B n m c d 3 (by omega) xs ys w hA hB hn hm h1 h2
  clear hn hm hA hB
  go_enter Try.func24, Try.ntmps24
  go_wp2_with fail
  refine C.mono ?_
  rintro e w1 ⟨r, er, HR, A', c', rfl, hS, hB⟩
  go_wp2_with fail
  go_ret2
  exact ⟨r, er, HR, A', c', rfl, hS, hB⟩
end Go.Proofs.Ytnleelkdoagfcaa
