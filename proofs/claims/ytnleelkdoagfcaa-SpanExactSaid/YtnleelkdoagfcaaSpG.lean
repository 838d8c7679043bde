/- The reference's combination of two sets. -/
import Derived.Test.YtnleelkdoagfcaaSpE
import Derived.Test.YtnleelkdoagfcaaSpF
import Derived.Test.YtnleelkdoagfcaaSpm2
namespace Go.Proofs.Ytnleelkdoagfcaa
open Go.RowKit
set_option linter.unusedVariables false
set_option linter.unusedSimpArgs false

theorem qsame {P : Program} {f : FuncId} {args : Array Value} {w : World} {n : Nat} {v : Value}
    (h : Calls P f args (w.drewN n) fun e w' => e = .returned v ∧ w.drewN n = w') : Calls P f args (w.drewN n) fun e w'' => e = .returned v ∧ ∃ m, w'' = w.drewN m :=
  Calls.quiet_of_same (h.mono fun _ _ ⟨a, b⟩ => ⟨a, b.symm⟩)

theorem keepc {B b o' : Nat} {wr w2 W : World} {o : Obj} {v : Value} (h2 : Below B W w2) (hb : b < B) (hlb : b < wr.heap.size) (e : W.heap = (wr.alloc o).heap) (h : wr.cell? ⟨b, o', none⟩ = some v) : w2.cell? ⟨b, o', none⟩ = some v :=
  (h2.cell (p := ⟨b, o', none⟩) hb).trans ((World.cell?_of_block (by rw [e])).trans ((World.cell?_alloc_lt wr o ⟨b, o', none⟩ hlb).trans h))

theorem SpansAt.drewN {w : World} {A : Option Addr} {xs : Spn.L} (h : SpansAt w A xs) (q : Nat) : SpansAt (w.drewN q) A xs := h

theorem Own.lastL {w : World} {B : Nat} {v : Value} {c : Spn.L} {f t : Int} (h : Own w B v (c ++ [(f, t)])) {L : Nat} (hL : c.length + 1 = L) :
    ∃ g cap, v = .slice (some ⟨g, 0, none⟩) L cap ∧ B ≤ g ∧ g < w.heap.size ∧ w.cell? ⟨g, (L - 1) * 2 + 1, none⟩ = some (.int .i64 t) ∧ w.frozen? ⟨g, (L - 1) * 2 + 1, none⟩ = false ∧
      ∀ p, Own (w.setCell ⟨g, (L - 1) * 2 + 1, none⟩ (.int .i64 p)) B v (c ++ [(f, p)]) := by
  subst hL
  obtain ⟨g, cap, h1, h2, h3, h4, h5, h6, h7⟩ := h.last
  rw [show c.length + 1 - 1 = c.length by omega]
  exact ⟨g, cap, h1, h2, h3, h5, h6 _, h7⟩

set_option maxHeartbeats 16000000 in
set_option maxRecDepth 100000 in
theorem rcombine_set (A B : Option Addr) (n m c d : Nat) (kd : Int) (hkd : kd = 1 ∨ kd = 2 ∨ kd = 3) (xs ys : Spn.L) (w : World) (hA : SpansAt w A xs) (hB : SpansAt w B ys) (hn : xs.length = n) (hm : ys.length = m)
    (hx : Spn.vld xs = true) (hy : Spn.vld ys = true) :
    Calls Try.prog 43 #[.slice A n c, .slice B m d, .int .i64 kd] w fun e w' =>
      ∃ r, Hid (Spn.Comb (Spn.kind kd) xs ys r) ∧ Gives (if (r.length : Int) ≤ 4096 then r else []) (if (r.length : Int) ≤ 4096 then 0 else 5) w e w' := by
  have V1 := RValid_any A n c xs w hA hn (by have := ((Spn.vld_iff xs).1 hx).1; omega)
  have V2 := fun W h => RValid_any B m d ys W h hm (by have := ((Spn.vld_iff ys).1 hy).1; omega)
  rw [hx] at V1
  rw [hy] at V2
  have hn4 : (n : Int) ≤ 4096 := by have := ((Spn.vld_iff xs).1 hx).1; omega
  have hm4 : (m : Int) ≤ 4096 := by have := ((Spn.vld_iff ys).1 hy).1; omega
  have HN := Lib.hid hn
  have HM := Lib.hid hm
  have HX := Lib.hid hx
  have HY := Lib.hid hy
  have HKD := Lib.hid hkd
  clear hn hm hx hy hkd
  go_enter Try.func43, Try.ntmps43
  go_wp2_with fail
  refine V1.mono ?_
  rintro e w1 ⟨rfl, b1⟩
  go_wp2_with fail
  refine (V2 w1 (hB.below b1)).mono ?_
  rintro e w2 ⟨rfl, b2⟩
  have B2 := bstep b1 b2
  clear b1 b2 V1 V2
  go_wp2_with fail
  go_loopw [8, 9] (fun v i wr => ∃ k : Nat, k ≤ n ∧ i = .int .i64 k ∧ OwnI wr w.heap.size v (Spn.flat (xs.take k)) ∧ Below w.heap.size w wr) (fun _ i _ => n - (intOf i).toNat)
  case atStart => exact ⟨0, Nat.zero_le _, rfl, OwnI.nil_ _ _, B2⟩
  case round =>
    obtain ⟨k, hk, rfl, hO, hW⟩ := hrel
    by_cases hlt : k < n
    · obtain ⟨b, off, rfl, hb, hc⟩ := hA (by have := HN.out; omega)
      obtain ⟨c0, c1⟩ := hc k (by have := HN.out; omega)
      have c0' := (bcell hW _ _ hb).trans c0
      have c1' := (bcell hW _ _ hb).trans c1
      clear hc c0 c1
      obtain ⟨⟨f, t⟩, HS⟩ : ∃ s : Int × Int, Hid (xs.getD k (0, 0) = s) := ⟨_, Lib.hid rfl⟩
      rw [HS.out] at c0' c1'
      have hT : Spn.flat (xs.take (k + 1)) = (Spn.flat (xs.take k)) ++ [f, t] := by rw [Spn.take_snoc xs k (0, 0) (by have := HN.out; omega), HS.out, Spn.flat_snoc]
      have hlen : (Spn.flat (xs.take k)).length ≤ 100000 := by simp [Spn.flat_len]; have := HN.out; omega
      obtain ⟨zs, HZ⟩ : ∃ zs, Hid (Spn.flat (xs.take k) = zs) := ⟨_, Lib.hid rfl⟩
      rw [HZ.out] at hO hlen hT
      have HT := Lib.hid hT
      clear hT
      have hwz := hW.size
      have i1 : (0 : Int) ≤ k := by omega
      have i2 : (k : Int) < n := by omega
      have hlb := Nat.lt_of_lt_of_le hb hW.size
      go_wp2_with fail
      go_region_held3 (fun W => W.cell? ⟨b, off + k * 2, none⟩ = some (.int .i64 f) ∧ W.cell? ⟨b, off + k * 2 + 1, none⟩ = some (.int .i64 t)) (first | (exact ⟨c0', c1'⟩) | go_keep | (exact ⟨keepc hB2 hb hlb rfl c0', keepc hB2 hb hlb rfl c1'⟩))
        ((refine step_append_pair _ (by rfl) _ _ (by rfl) w.heap.size _ zs (by rfl) (by exact hO.alloc _) wr.heap.size f t (by rfl) (by exact cell_new0 rfl) (by exact cell_new1 rfl) (by omega) (by simp; omega) ?_; intro v' w2 hO2 hB2 _))
      rw [← HT.out] at hO2
      have hBn : Below w.heap.size w w2 := (below_drewN (hW.alloc hW.size _) _).trans hB2
      go_wp2_with fail
      go_roundw
      case rel => exact ⟨k + 1, by omega, by go_num, hO2, hBn⟩
      case measure => simp [intOf]; omega
    · have hkn : xs.take k = xs := List.take_of_length_le (by have := HN.out; omega)
      rw [hkn] at hO
      clear hkn
      go_wp2_with fail
      go_loopw [8, 10] (fun v i wr => ∃ k : Nat, k ≤ m ∧ i = .int .i64 k ∧ OwnI wr w.heap.size v (Spn.flat xs ++ Spn.flat (ys.take k)) ∧ Below w.heap.size w wr) (fun _ i _ => m - (intOf i).toNat)
      case atStart => exact ⟨0, Nat.zero_le _, rfl, (by simpa [Spn.flat] using hO), hW⟩
      case round =>
        clear hO hW
        obtain ⟨k, hk, rfl, hO, hW⟩ := hrel
        by_cases hlt : k < m
        · obtain ⟨b, off, rfl, hb, hc⟩ := hB (by have := HM.out; omega)
          obtain ⟨c0, c1⟩ := hc k (by have := HM.out; omega)
          have c0' := (bcell hW _ _ hb).trans c0
          have c1' := (bcell hW _ _ hb).trans c1
          clear hc c0 c1
          obtain ⟨⟨f, t⟩, HS⟩ : ∃ s : Int × Int, Hid (ys.getD k (0, 0) = s) := ⟨_, Lib.hid rfl⟩
          rw [HS.out] at c0' c1'
          have hT : Spn.flat xs ++ Spn.flat (ys.take (k + 1)) = (Spn.flat xs ++ Spn.flat (ys.take k)) ++ [f, t] := by rw [Spn.take_snoc ys k (0, 0) (by have := HM.out; omega), HS.out, Spn.flat_snoc, List.append_assoc]
          have hlen : (Spn.flat xs ++ Spn.flat (ys.take k)).length ≤ 100000 := by simp [Spn.flat_len]; have := HN.out; have := HM.out; omega
          obtain ⟨zs, HZ⟩ : ∃ zs, Hid (Spn.flat xs ++ Spn.flat (ys.take k) = zs) := ⟨_, Lib.hid rfl⟩
          rw [HZ.out] at hO hlen hT
          have HT := Lib.hid hT
          clear hT
          have hwz := hW.size
          have i1 : (0 : Int) ≤ k := by omega
          have i2 : (k : Int) < m := by omega
          have hlb := Nat.lt_of_lt_of_le hb hW.size
          go_wp2_with fail
          go_region_held3 (fun W => W.cell? ⟨b, off + k * 2, none⟩ = some (.int .i64 f) ∧ W.cell? ⟨b, off + k * 2 + 1, none⟩ = some (.int .i64 t)) (first | (exact ⟨c0', c1'⟩) | go_keep | (exact ⟨keepc hB2 hb hlb rfl c0', keepc hB2 hb hlb rfl c1'⟩))
            ((refine step_append_pair _ (by rfl) _ _ (by rfl) w.heap.size _ zs (by rfl) (by exact hO.alloc _) wr.heap.size f t (by rfl) (by exact cell_new0 rfl) (by exact cell_new1 rfl) (by omega) (by simp; omega) ?_; intro v' w2 hO2 hB2 _))
          rw [← HT.out] at hO2
          have hBn : Below w.heap.size w w2 := (below_drewN (hW.alloc hW.size _) _).trans hB2
          go_wp2_with fail
          go_roundw
          case rel => exact ⟨k + 1, by omega, by go_num, hO2, hBn⟩
          case measure => simp [intOf]; omega
        · have hkm : ys.take k = ys := List.take_of_length_le (by have := HM.out; omega)
          rw [hkm] at hO
          clear hkm
          have hAt : (Spn.flat xs ++ Spn.flat ys).length ≤ 100000 := by simp [Spn.flat_len]; have := HN.out; have := HM.out; omega
          obtain ⟨A0, c0, rfl, hc1, hc2, hI⟩ := hO.shape
          have hSrt := Sort_any _ A0 _ c0 (Spn.flat xs ++ Spn.flat ys) wr (Nat.le_refl _) (by omega) hI rfl hc1 hc2
          obtain ⟨na, HNA⟩ : ∃ q, Hid ((Spn.flat xs ++ Spn.flat ys).length = q) := ⟨_, Lib.hid rfl⟩
          rw [HNA.out] at hSrt hAt ⊢
          have HSO := Lib.hid hSrt
          clear hSrt hO hc1 hc2 hI
          go_wp2_with fail
          refine HSO.out.mono ?_
          rintro e w3 ⟨A3, c3, ss, rfl, I3, S3, b3⟩
          have HS3 := Lib.hid S3
          have B3 := bstep hW b3
          have nss : ss.length ≤ 100000 := by have := S3.2.2; have := HNA.out; omega
          clear S3 HSO hW b3
          obtain ⟨ns, HNS⟩ : ∃ q, Hid (ss.length = q) := ⟨_, Lib.hid rfl⟩
          rw [HNS.out] at nss ⊢
          have hA3 := hA.below B3
          have hB3 := hB.below B3
          go_wp2_with fail
          go_loopw [11, 12] (fun v i wr => ∃ (k : Nat) (out : Spn.L), i = .int .i64 k ∧ Own wr w3.heap.size v out ∧ Below w3.heap.size w3 wr ∧ Hid (if ns = 0 then out = [] ∧ k = 0 else Spn.RRound (Spn.kind kd) xs ys ss k out ∧ k < ns)) (fun _ i _ => ns - (intOf i).toNat)
          case atStart => exact ⟨0, [], rfl, Own.nil_ _ _, Below.refl _ _, Lib.hid (by
            by_cases h : ns = 0
            · rw [if_pos h]; exact ⟨rfl, rfl⟩
            · rw [if_neg h]; exact ⟨Spn.RRound.start HS3.out (Spn.kind_no kd) (by have := HNS.out; omega), by omega⟩)⟩
          case round =>
            obtain ⟨k, out, rfl, hO, hW, HR⟩ := hrel
            by_cases hlt : k + 1 < ns
            · have hr : Spn.RRound (Spn.kind kd) xs ys ss k out := by have := HR.out; rw [if_neg (by omega)] at this; exact this.1
              obtain ⟨b3', o3, rfl, hb3, hc3⟩ := I3 (by have := HNS.out; omega)
              have e0 := (bcell hW _ _ hb3).trans (hc3 k (by have := HNS.out; omega))
              have e1 := (bcell hW _ _ hb3).trans (hc3 (k + 1) (by have := HNS.out; omega))
              clear hc3
              obtain ⟨p, HP⟩ : ∃ q, Hid (ss.getD k 0 = q) := ⟨_, Lib.hid rfl⟩
              obtain ⟨q, HQ⟩ : ∃ q, Hid (ss.getD (k + 1) 0 = q) := ⟨_, Lib.hid rfl⟩
              rw [HP.out] at e0
              rw [HQ.out] at e1
              have hlb := Nat.lt_of_lt_of_le hb3 hW.size
              have i0 : (0 : Int) ≤ k := by omega
              have i1 : (k : Int) < ns := by omega
              have i2 : (k : Int) + 1 < ns := by omega
              obtain ⟨x, HXX⟩ : ∃ v, Hid (Spn.has xs p = v) := ⟨_, Lib.hid rfl⟩
              obtain ⟨y, HYY⟩ : ∃ v, Hid (Spn.has ys p = v) := ⟨_, Lib.hid rfl⟩
              have C1 := fun W h => rhas_any A n c xs p W h HN.out HX.out
              have C2 := fun W h => rhas_any B m d ys p W h HM.out HY.out
              rw [HXX.out] at C1
              rw [HYY.out] at C2
              have HC1 := Lib.hid C1
              have HC2 := Lib.hid C2
              have ho := hr.2
              have SKIP : Spn.kind kd x y = false → Hid (Spn.RRound (Spn.kind kd) xs ys ss (k + 1) out) := fun h => Lib.hid (hr.skip HS3.out (by have := HNS.out; omega) (by rw [HP.out, HXX.out, HYY.out]; exact h))
              have GROW : Spn.kind kd x y = true → 0 < out.length → (out.getD (out.length - 1) (0, 0)).2 = p → Hid (Spn.RRound (Spn.kind kd) xs ys ss (k + 1) (Spn.close out q)) := fun h h0 h1 => Lib.hid (by
                have := hr.grow HS3.out (by have := HNS.out; omega) (by rw [HP.out, HXX.out, HYY.out]; exact h) h0 (by rw [HP.out]; exact h1)
                rw [HQ.out] at this
                exact this)
              have ADD : Spn.kind kd x y = true → (0 < out.length → (out.getD (out.length - 1) (0, 0)).2 ≠ p) → Hid (Spn.RRound (Spn.kind kd) xs ys ss (k + 1) (out ++ [(p, q)])) := fun h h1 => Lib.hid (by
                have := hr.add HS3.out (by have := HNS.out; omega) (by rw [HP.out, HXX.out, HYY.out]; exact h) (fun h0 => by rw [HP.out]; exact h1 h0)
                rw [HP.out, HQ.out] at this
                exact this)
              have KS := Lib.hid SKIP
              have KG := Lib.hid GROW
              have KA := Lib.hid ADD
              clear SKIP GROW ADD C1 C2 hr HR
              have hkd := HKD.out
              have hA4 := hA3.below hW
              have hB4 := hB3.below hW
              rcases hkd with rfl | rfl | rfl <;> rcases x with _ | _ <;> rcases y with _ | _
              · as_aux_lemma =>
                have hs := KS.out rfl
                clear KS KG KA
                go_wp2_with fail
                go_quiet ((first | (go_at_call 47; with_reducible exact qsame (HC1.out _ (hA4.drewN _))) | (go_at_call 47; with_reducible exact qsame (HC2.out _ (hB4.drewN _)))))
                go_wp2_with fail
                go_roundw
                case rel => exact ⟨k + 1, out, by go_num, hO.drewN _, below_drewN hW _, Lib.hid (by rw [if_neg (by omega)]; exact ⟨hs.out, by omega⟩)⟩
                case measure => simp [intOf]; omega
              · as_aux_lemma =>
                have ka0 := KA.out rfl
                have kg0 := KG.out rfl
                clear KS KG KA
                have hwz := hW.size
                rcases List.eq_nil_or_concat out with rfl | ⟨c0, s0, rfl⟩
                · have ka := ka0 (fun h => absurd h (by simp))
                  clear ka0 kg0
                  obtain ⟨A5, c5, rfl, -⟩ := hO.shape
                  have hout : ([] : Spn.L).length ≤ 1000000 := by simp
                  obtain ⟨out, ho⟩ : ∃ o : Spn.L, Hid (o = []) := ⟨_, Lib.hid rfl⟩
                  go_wp2_with fail
                  go_quiet ((first | (go_at_call 47; with_reducible exact qsame (HC1.out _ (hA4.drewN _))) | (go_at_call 47; with_reducible exact qsame (HC2.out _ (hB4.drewN _)))))
                  go_wp2_with fail
                  go_quiet (fail)
                  go_wp2_with fail
                  have hk1 : IntKind.i64.wrap ((k : Int) + 1) = (k : Int) + 1 := IntWalk.i64_in _ (by omega)
                  have hk2 : ((k : Int) + 1).toNat = k + 1 := by omega
                  have hk3 : (0 : Int) ≤ (k : Int) + 1 := by omega
                  go_region_held3 (fun W => W.cell? ⟨b3', o3 + k, none⟩ = some (.int .i64 p) ∧ W.cell? ⟨b3', o3 + (k + 1), none⟩ = some (.int .i64 q)) (first | (exact ⟨e0, e1⟩) | go_keep | (exact ⟨keepc hB2 hb3 hlb rfl e0, keepc hB2 hb3 hlb rfl e1⟩))
                    ((refine step_append_span _ (by rfl) _ _ (by rfl) w3.heap.size _ [] (by rfl) (by exact hO.alloc _) wr.heap.size p q (by rfl) (by exact cell_new0 rfl) (by exact cell_new1 rfl) (by simp) (by simp; omega) ?_; intro v' w2 hO2 hB2 _))
                  have hBn : Below w3.heap.size w3 w2 := (below_drewN (hW.alloc hW.size _) _).trans hB2
                  clear hk1 hk2 hk3
                  go_wp2_with fail
                  obtain ⟨A6, c6, rfl, -⟩ := hO2.shape
                  go_roundw
                  case rel => exact ⟨k + 1, _, by go_num, hO2, hBn, Lib.hid (by rw [if_neg (by omega)]; exact ⟨ka.out, by omega⟩)⟩
                  case measure => simp [intOf]; omega
                · rw [List.concat_eq_append] at *
                  obtain ⟨f0, t0⟩ := s0
                  have hlp : 0 < (c0 ++ [(f0, t0)]).length := by simp
                  have hlast : ((c0 ++ [(f0, t0)]).getD ((c0 ++ [(f0, t0)]).length - 1) (0, 0)).2 = t0 := by simp [List.getD]
                  have hlen : c0.length ≤ 200000 := by simp at ho; omega
                  obtain ⟨L, hL⟩ : ∃ L, c0.length + 1 = L := ⟨_, rfl⟩
                  obtain ⟨g0, cap, rfl, hg1, hg2, l1, l2, hst⟩ := hO.lastL hL
                  have HLL := Lib.hid hL
                  clear hL
                  have kl0 : decide ((0 : Int) < L) = true := by have := HLL.out; simp; omega
                  have kl1 : decide (0 < L) = true := by have := HLL.out; simp; omega
                  have kl2 : (0 : Int) ≤ (L : Int) - 1 := by have := HLL.out; omega
                  have kl3 : (L : Int) ≤ 300000 := by have := HLL.out; omega
                  have kl4 : IntKind.i64.wrap ((L : Int) - 1) = (L : Int) - 1 := IntWalk.i64_in _ (by omega)
                  have kl5 : ((L : Int) - 1).toNat = L - 1 := by omega
                  by_cases htp : t0 = p
                  · have ka := kg0 hlp (by rw [hlast]; exact htp)
                    rw [Spn.close_snoc] at ka
                    have hst := hst q
                    clear ka0 kg0 hlast hlp
                    subst htp
                    go_wp2_with fail
                    go_quiet ((first | (go_at_call 47; with_reducible exact qsame (HC1.out _ (hA4.drewN _))) | (go_at_call 47; with_reducible exact qsame (HC2.out _ (hB4.drewN _)))))
                    go_wp2_with fail
                    go_quiet (fail)
                    clear kl4
                    go_wp2_with fail
                    go_roundw
                    case rel => exact ⟨k + 1, _, by go_num, hst.drewN _, below_drewN (hW.setCell hg1 _) _, Lib.hid (by rw [if_neg (by omega)]; exact ⟨ka.out, by omega⟩)⟩
                    case measure => simp [intOf]; omega
                  · have ka := ka0 (fun _ => by rw [hlast]; exact htp)
                    have kt : (t0 == p) = false := by simpa using htp
                    clear ka0 kg0 hlast hlp hst
                    generalize hout : c0 ++ [(f0, t0)] = out at *
                    have HOUT := Lib.hid hout
                    clear hout
                    go_wp2_with fail
                    go_quiet ((first | (go_at_call 47; with_reducible exact qsame (HC1.out _ (hA4.drewN _))) | (go_at_call 47; with_reducible exact qsame (HC2.out _ (hB4.drewN _)))))
                    go_wp2_with fail
                    go_quiet (fail)
                    clear kl4
                    go_wp2_with fail
                    have hk1 : IntKind.i64.wrap ((k : Int) + 1) = (k : Int) + 1 := IntWalk.i64_in _ (by omega)
                    have hk2 : ((k : Int) + 1).toNat = k + 1 := by omega
                    have hk3 : (0 : Int) ≤ (k : Int) + 1 := by omega
                    go_region_held3 (fun W => W.cell? ⟨b3', o3 + k, none⟩ = some (.int .i64 p) ∧ W.cell? ⟨b3', o3 + (k + 1), none⟩ = some (.int .i64 q)) (first | (exact ⟨e0, e1⟩) | go_keep | (exact ⟨keepc hB2 hb3 hlb rfl e0, keepc hB2 hb3 hlb rfl e1⟩))
                      ((refine step_append_span _ (by rfl) _ _ (by rfl) w3.heap.size _ out (by rfl) (by exact hO.alloc _) wr.heap.size p q (by rfl) (by exact cell_new0 rfl) (by exact cell_new1 rfl) (by omega) (by simp; omega) ?_; intro v' w2 hO2 hB2 _))
                    have hBn : Below w3.heap.size w3 w2 := (below_drewN (hW.alloc hW.size _) _).trans hB2
                    clear hk1 hk2 hk3
                    go_wp2_with fail
                    obtain ⟨A6, c6, rfl, -⟩ := hO2.shape
                    go_roundw
                    case rel => exact ⟨k + 1, _, by go_num, hO2, hBn, Lib.hid (by rw [if_neg (by omega)]; exact ⟨ka.out, by omega⟩)⟩
                    case measure => simp [intOf]; omega
              · as_aux_lemma =>
                have ka0 := KA.out rfl
                have kg0 := KG.out rfl
                clear KS KG KA
                have hwz := hW.size
                rcases List.eq_nil_or_concat out with rfl | ⟨c0, s0, rfl⟩
                · have ka := ka0 (fun h => absurd h (by simp))
                  clear ka0 kg0
                  obtain ⟨A5, c5, rfl, -⟩ := hO.shape
                  have hout : ([] : Spn.L).length ≤ 1000000 := by simp
                  obtain ⟨out, ho⟩ : ∃ o : Spn.L, Hid (o = []) := ⟨_, Lib.hid rfl⟩
                  go_wp2_with fail
                  go_quiet ((first | (go_at_call 47; with_reducible exact qsame (HC1.out _ (hA4.drewN _))) | (go_at_call 47; with_reducible exact qsame (HC2.out _ (hB4.drewN _)))))
                  go_wp2_with fail
                  go_quiet (fail)
                  go_wp2_with fail
                  have hk1 : IntKind.i64.wrap ((k : Int) + 1) = (k : Int) + 1 := IntWalk.i64_in _ (by omega)
                  have hk2 : ((k : Int) + 1).toNat = k + 1 := by omega
                  have hk3 : (0 : Int) ≤ (k : Int) + 1 := by omega
                  go_region_held3 (fun W => W.cell? ⟨b3', o3 + k, none⟩ = some (.int .i64 p) ∧ W.cell? ⟨b3', o3 + (k + 1), none⟩ = some (.int .i64 q)) (first | (exact ⟨e0, e1⟩) | go_keep | (exact ⟨keepc hB2 hb3 hlb rfl e0, keepc hB2 hb3 hlb rfl e1⟩))
                    ((refine step_append_span _ (by rfl) _ _ (by rfl) w3.heap.size _ [] (by rfl) (by exact hO.alloc _) wr.heap.size p q (by rfl) (by exact cell_new0 rfl) (by exact cell_new1 rfl) (by simp) (by simp; omega) ?_; intro v' w2 hO2 hB2 _))
                  have hBn : Below w3.heap.size w3 w2 := (below_drewN (hW.alloc hW.size _) _).trans hB2
                  clear hk1 hk2 hk3
                  go_wp2_with fail
                  obtain ⟨A6, c6, rfl, -⟩ := hO2.shape
                  go_roundw
                  case rel => exact ⟨k + 1, _, by go_num, hO2, hBn, Lib.hid (by rw [if_neg (by omega)]; exact ⟨ka.out, by omega⟩)⟩
                  case measure => simp [intOf]; omega
                · rw [List.concat_eq_append] at *
                  obtain ⟨f0, t0⟩ := s0
                  have hlp : 0 < (c0 ++ [(f0, t0)]).length := by simp
                  have hlast : ((c0 ++ [(f0, t0)]).getD ((c0 ++ [(f0, t0)]).length - 1) (0, 0)).2 = t0 := by simp [List.getD]
                  have hlen : c0.length ≤ 200000 := by simp at ho; omega
                  obtain ⟨L, hL⟩ : ∃ L, c0.length + 1 = L := ⟨_, rfl⟩
                  obtain ⟨g0, cap, rfl, hg1, hg2, l1, l2, hst⟩ := hO.lastL hL
                  have HLL := Lib.hid hL
                  clear hL
                  have kl0 : decide ((0 : Int) < L) = true := by have := HLL.out; simp; omega
                  have kl1 : decide (0 < L) = true := by have := HLL.out; simp; omega
                  have kl2 : (0 : Int) ≤ (L : Int) - 1 := by have := HLL.out; omega
                  have kl3 : (L : Int) ≤ 300000 := by have := HLL.out; omega
                  have kl4 : IntKind.i64.wrap ((L : Int) - 1) = (L : Int) - 1 := IntWalk.i64_in _ (by omega)
                  have kl5 : ((L : Int) - 1).toNat = L - 1 := by omega
                  by_cases htp : t0 = p
                  · have ka := kg0 hlp (by rw [hlast]; exact htp)
                    rw [Spn.close_snoc] at ka
                    have hst := hst q
                    clear ka0 kg0 hlast hlp
                    subst htp
                    go_wp2_with fail
                    go_quiet ((first | (go_at_call 47; with_reducible exact qsame (HC1.out _ (hA4.drewN _))) | (go_at_call 47; with_reducible exact qsame (HC2.out _ (hB4.drewN _)))))
                    go_wp2_with fail
                    go_quiet (fail)
                    clear kl4
                    go_wp2_with fail
                    go_roundw
                    case rel => exact ⟨k + 1, _, by go_num, hst.drewN _, below_drewN (hW.setCell hg1 _) _, Lib.hid (by rw [if_neg (by omega)]; exact ⟨ka.out, by omega⟩)⟩
                    case measure => simp [intOf]; omega
                  · have ka := ka0 (fun _ => by rw [hlast]; exact htp)
                    have kt : (t0 == p) = false := by simpa using htp
                    clear ka0 kg0 hlast hlp hst
                    generalize hout : c0 ++ [(f0, t0)] = out at *
                    have HOUT := Lib.hid hout
                    clear hout
                    go_wp2_with fail
                    go_quiet ((first | (go_at_call 47; with_reducible exact qsame (HC1.out _ (hA4.drewN _))) | (go_at_call 47; with_reducible exact qsame (HC2.out _ (hB4.drewN _)))))
                    go_wp2_with fail
                    go_quiet (fail)
                    clear kl4
                    go_wp2_with fail
                    have hk1 : IntKind.i64.wrap ((k : Int) + 1) = (k : Int) + 1 := IntWalk.i64_in _ (by omega)
                    have hk2 : ((k : Int) + 1).toNat = k + 1 := by omega
                    have hk3 : (0 : Int) ≤ (k : Int) + 1 := by omega
                    go_region_held3 (fun W => W.cell? ⟨b3', o3 + k, none⟩ = some (.int .i64 p) ∧ W.cell? ⟨b3', o3 + (k + 1), none⟩ = some (.int .i64 q)) (first | (exact ⟨e0, e1⟩) | go_keep | (exact ⟨keepc hB2 hb3 hlb rfl e0, keepc hB2 hb3 hlb rfl e1⟩))
                      ((refine step_append_span _ (by rfl) _ _ (by rfl) w3.heap.size _ out (by rfl) (by exact hO.alloc _) wr.heap.size p q (by rfl) (by exact cell_new0 rfl) (by exact cell_new1 rfl) (by omega) (by simp; omega) ?_; intro v' w2 hO2 hB2 _))
                    have hBn : Below w3.heap.size w3 w2 := (below_drewN (hW.alloc hW.size _) _).trans hB2
                    clear hk1 hk2 hk3
                    go_wp2_with fail
                    obtain ⟨A6, c6, rfl, -⟩ := hO2.shape
                    go_roundw
                    case rel => exact ⟨k + 1, _, by go_num, hO2, hBn, Lib.hid (by rw [if_neg (by omega)]; exact ⟨ka.out, by omega⟩)⟩
                    case measure => simp [intOf]; omega
              · as_aux_lemma =>
                have ka0 := KA.out rfl
                have kg0 := KG.out rfl
                clear KS KG KA
                have hwz := hW.size
                rcases List.eq_nil_or_concat out with rfl | ⟨c0, s0, rfl⟩
                · have ka := ka0 (fun h => absurd h (by simp))
                  clear ka0 kg0
                  obtain ⟨A5, c5, rfl, -⟩ := hO.shape
                  have hout : ([] : Spn.L).length ≤ 1000000 := by simp
                  obtain ⟨out, ho⟩ : ∃ o : Spn.L, Hid (o = []) := ⟨_, Lib.hid rfl⟩
                  go_wp2_with fail
                  go_quiet ((first | (go_at_call 47; with_reducible exact qsame (HC1.out _ (hA4.drewN _))) | (go_at_call 47; with_reducible exact qsame (HC2.out _ (hB4.drewN _)))))
                  go_wp2_with fail
                  go_quiet (fail)
                  go_wp2_with fail
                  have hk1 : IntKind.i64.wrap ((k : Int) + 1) = (k : Int) + 1 := IntWalk.i64_in _ (by omega)
                  have hk2 : ((k : Int) + 1).toNat = k + 1 := by omega
                  have hk3 : (0 : Int) ≤ (k : Int) + 1 := by omega
                  go_region_held3 (fun W => W.cell? ⟨b3', o3 + k, none⟩ = some (.int .i64 p) ∧ W.cell? ⟨b3', o3 + (k + 1), none⟩ = some (.int .i64 q)) (first | (exact ⟨e0, e1⟩) | go_keep | (exact ⟨keepc hB2 hb3 hlb rfl e0, keepc hB2 hb3 hlb rfl e1⟩))
                    ((refine step_append_span _ (by rfl) _ _ (by rfl) w3.heap.size _ [] (by rfl) (by exact hO.alloc _) wr.heap.size p q (by rfl) (by exact cell_new0 rfl) (by exact cell_new1 rfl) (by simp) (by simp; omega) ?_; intro v' w2 hO2 hB2 _))
                  have hBn : Below w3.heap.size w3 w2 := (below_drewN (hW.alloc hW.size _) _).trans hB2
                  clear hk1 hk2 hk3
                  go_wp2_with fail
                  obtain ⟨A6, c6, rfl, -⟩ := hO2.shape
                  go_roundw
                  case rel => exact ⟨k + 1, _, by go_num, hO2, hBn, Lib.hid (by rw [if_neg (by omega)]; exact ⟨ka.out, by omega⟩)⟩
                  case measure => simp [intOf]; omega
                · rw [List.concat_eq_append] at *
                  obtain ⟨f0, t0⟩ := s0
                  have hlp : 0 < (c0 ++ [(f0, t0)]).length := by simp
                  have hlast : ((c0 ++ [(f0, t0)]).getD ((c0 ++ [(f0, t0)]).length - 1) (0, 0)).2 = t0 := by simp [List.getD]
                  have hlen : c0.length ≤ 200000 := by simp at ho; omega
                  obtain ⟨L, hL⟩ : ∃ L, c0.length + 1 = L := ⟨_, rfl⟩
                  obtain ⟨g0, cap, rfl, hg1, hg2, l1, l2, hst⟩ := hO.lastL hL
                  have HLL := Lib.hid hL
                  clear hL
                  have kl0 : decide ((0 : Int) < L) = true := by have := HLL.out; simp; omega
                  have kl1 : decide (0 < L) = true := by have := HLL.out; simp; omega
                  have kl2 : (0 : Int) ≤ (L : Int) - 1 := by have := HLL.out; omega
                  have kl3 : (L : Int) ≤ 300000 := by have := HLL.out; omega
                  have kl4 : IntKind.i64.wrap ((L : Int) - 1) = (L : Int) - 1 := IntWalk.i64_in _ (by omega)
                  have kl5 : ((L : Int) - 1).toNat = L - 1 := by omega
                  by_cases htp : t0 = p
                  · have ka := kg0 hlp (by rw [hlast]; exact htp)
                    rw [Spn.close_snoc] at ka
                    have hst := hst q
                    clear ka0 kg0 hlast hlp
                    subst htp
                    go_wp2_with fail
                    go_quiet ((first | (go_at_call 47; with_reducible exact qsame (HC1.out _ (hA4.drewN _))) | (go_at_call 47; with_reducible exact qsame (HC2.out _ (hB4.drewN _)))))
                    go_wp2_with fail
                    go_quiet (fail)
                    clear kl4
                    go_wp2_with fail
                    go_roundw
                    case rel => exact ⟨k + 1, _, by go_num, hst.drewN _, below_drewN (hW.setCell hg1 _) _, Lib.hid (by rw [if_neg (by omega)]; exact ⟨ka.out, by omega⟩)⟩
                    case measure => simp [intOf]; omega
                  · have ka := ka0 (fun _ => by rw [hlast]; exact htp)
                    have kt : (t0 == p) = false := by simpa using htp
                    clear ka0 kg0 hlast hlp hst
                    generalize hout : c0 ++ [(f0, t0)] = out at *
                    have HOUT := Lib.hid hout
                    clear hout
                    go_wp2_with fail
                    go_quiet ((first | (go_at_call 47; with_reducible exact qsame (HC1.out _ (hA4.drewN _))) | (go_at_call 47; with_reducible exact qsame (HC2.out _ (hB4.drewN _)))))
                    go_wp2_with fail
                    go_quiet (fail)
                    clear kl4
                    go_wp2_with fail
                    have hk1 : IntKind.i64.wrap ((k : Int) + 1) = (k : Int) + 1 := IntWalk.i64_in _ (by omega)
                    have hk2 : ((k : Int) + 1).toNat = k + 1 := by omega
                    have hk3 : (0 : Int) ≤ (k : Int) + 1 := by omega
                    go_region_held3 (fun W => W.cell? ⟨b3', o3 + k, none⟩ = some (.int .i64 p) ∧ W.cell? ⟨b3', o3 + (k + 1), none⟩ = some (.int .i64 q)) (first | (exact ⟨e0, e1⟩) | go_keep | (exact ⟨keepc hB2 hb3 hlb rfl e0, keepc hB2 hb3 hlb rfl e1⟩))
                      ((refine step_append_span _ (by rfl) _ _ (by rfl) w3.heap.size _ out (by rfl) (by exact hO.alloc _) wr.heap.size p q (by rfl) (by exact cell_new0 rfl) (by exact cell_new1 rfl) (by omega) (by simp; omega) ?_; intro v' w2 hO2 hB2 _))
                    have hBn : Below w3.heap.size w3 w2 := (below_drewN (hW.alloc hW.size _) _).trans hB2
                    clear hk1 hk2 hk3
                    go_wp2_with fail
                    obtain ⟨A6, c6, rfl, -⟩ := hO2.shape
                    go_roundw
                    case rel => exact ⟨k + 1, _, by go_num, hO2, hBn, Lib.hid (by rw [if_neg (by omega)]; exact ⟨ka.out, by omega⟩)⟩
                    case measure => simp [intOf]; omega
              · as_aux_lemma =>
                have hs := KS.out rfl
                clear KS KG KA
                go_wp2_with fail
                go_quiet ((first | (go_at_call 47; with_reducible exact qsame (HC1.out _ (hA4.drewN _))) | (go_at_call 47; with_reducible exact qsame (HC2.out _ (hB4.drewN _)))))
                go_wp2_with fail
                go_roundw
                case rel => exact ⟨k + 1, out, by go_num, hO.drewN _, below_drewN hW _, Lib.hid (by rw [if_neg (by omega)]; exact ⟨hs.out, by omega⟩)⟩
                case measure => simp [intOf]; omega
              · as_aux_lemma =>
                have hs := KS.out rfl
                clear KS KG KA
                go_wp2_with fail
                go_quiet ((first | (go_at_call 47; with_reducible exact qsame (HC1.out _ (hA4.drewN _))) | (go_at_call 47; with_reducible exact qsame (HC2.out _ (hB4.drewN _)))))
                go_wp2_with fail
                go_roundw
                case rel => exact ⟨k + 1, out, by go_num, hO.drewN _, below_drewN hW _, Lib.hid (by rw [if_neg (by omega)]; exact ⟨hs.out, by omega⟩)⟩
                case measure => simp [intOf]; omega
              · as_aux_lemma =>
                have hs := KS.out rfl
                clear KS KG KA
                go_wp2_with fail
                go_quiet ((first | (go_at_call 47; with_reducible exact qsame (HC1.out _ (hA4.drewN _))) | (go_at_call 47; with_reducible exact qsame (HC2.out _ (hB4.drewN _)))))
                go_wp2_with fail
                go_roundw
                case rel => exact ⟨k + 1, out, by go_num, hO.drewN _, below_drewN hW _, Lib.hid (by rw [if_neg (by omega)]; exact ⟨hs.out, by omega⟩)⟩
                case measure => simp [intOf]; omega
              · as_aux_lemma =>
                have ka0 := KA.out rfl
                have kg0 := KG.out rfl
                clear KS KG KA
                have hwz := hW.size
                rcases List.eq_nil_or_concat out with rfl | ⟨c0, s0, rfl⟩
                · have ka := ka0 (fun h => absurd h (by simp))
                  clear ka0 kg0
                  obtain ⟨A5, c5, rfl, -⟩ := hO.shape
                  have hout : ([] : Spn.L).length ≤ 1000000 := by simp
                  obtain ⟨out, ho⟩ : ∃ o : Spn.L, Hid (o = []) := ⟨_, Lib.hid rfl⟩
                  go_wp2_with fail
                  go_quiet ((first | (go_at_call 47; with_reducible exact qsame (HC1.out _ (hA4.drewN _))) | (go_at_call 47; with_reducible exact qsame (HC2.out _ (hB4.drewN _)))))
                  go_wp2_with fail
                  go_quiet (fail)
                  go_wp2_with fail
                  have hk1 : IntKind.i64.wrap ((k : Int) + 1) = (k : Int) + 1 := IntWalk.i64_in _ (by omega)
                  have hk2 : ((k : Int) + 1).toNat = k + 1 := by omega
                  have hk3 : (0 : Int) ≤ (k : Int) + 1 := by omega
                  go_region_held3 (fun W => W.cell? ⟨b3', o3 + k, none⟩ = some (.int .i64 p) ∧ W.cell? ⟨b3', o3 + (k + 1), none⟩ = some (.int .i64 q)) (first | (exact ⟨e0, e1⟩) | go_keep | (exact ⟨keepc hB2 hb3 hlb rfl e0, keepc hB2 hb3 hlb rfl e1⟩))
                    ((refine step_append_span _ (by rfl) _ _ (by rfl) w3.heap.size _ [] (by rfl) (by exact hO.alloc _) wr.heap.size p q (by rfl) (by exact cell_new0 rfl) (by exact cell_new1 rfl) (by simp) (by simp; omega) ?_; intro v' w2 hO2 hB2 _))
                  have hBn : Below w3.heap.size w3 w2 := (below_drewN (hW.alloc hW.size _) _).trans hB2
                  clear hk1 hk2 hk3
                  go_wp2_with fail
                  obtain ⟨A6, c6, rfl, -⟩ := hO2.shape
                  go_roundw
                  case rel => exact ⟨k + 1, _, by go_num, hO2, hBn, Lib.hid (by rw [if_neg (by omega)]; exact ⟨ka.out, by omega⟩)⟩
                  case measure => simp [intOf]; omega
                · rw [List.concat_eq_append] at *
                  obtain ⟨f0, t0⟩ := s0
                  have hlp : 0 < (c0 ++ [(f0, t0)]).length := by simp
                  have hlast : ((c0 ++ [(f0, t0)]).getD ((c0 ++ [(f0, t0)]).length - 1) (0, 0)).2 = t0 := by simp [List.getD]
                  have hlen : c0.length ≤ 200000 := by simp at ho; omega
                  obtain ⟨L, hL⟩ : ∃ L, c0.length + 1 = L := ⟨_, rfl⟩
                  obtain ⟨g0, cap, rfl, hg1, hg2, l1, l2, hst⟩ := hO.lastL hL
                  have HLL := Lib.hid hL
                  clear hL
                  have kl0 : decide ((0 : Int) < L) = true := by have := HLL.out; simp; omega
                  have kl1 : decide (0 < L) = true := by have := HLL.out; simp; omega
                  have kl2 : (0 : Int) ≤ (L : Int) - 1 := by have := HLL.out; omega
                  have kl3 : (L : Int) ≤ 300000 := by have := HLL.out; omega
                  have kl4 : IntKind.i64.wrap ((L : Int) - 1) = (L : Int) - 1 := IntWalk.i64_in _ (by omega)
                  have kl5 : ((L : Int) - 1).toNat = L - 1 := by omega
                  by_cases htp : t0 = p
                  · have ka := kg0 hlp (by rw [hlast]; exact htp)
                    rw [Spn.close_snoc] at ka
                    have hst := hst q
                    clear ka0 kg0 hlast hlp
                    subst htp
                    go_wp2_with fail
                    go_quiet ((first | (go_at_call 47; with_reducible exact qsame (HC1.out _ (hA4.drewN _))) | (go_at_call 47; with_reducible exact qsame (HC2.out _ (hB4.drewN _)))))
                    go_wp2_with fail
                    go_quiet (fail)
                    clear kl4
                    go_wp2_with fail
                    go_roundw
                    case rel => exact ⟨k + 1, _, by go_num, hst.drewN _, below_drewN (hW.setCell hg1 _) _, Lib.hid (by rw [if_neg (by omega)]; exact ⟨ka.out, by omega⟩)⟩
                    case measure => simp [intOf]; omega
                  · have ka := ka0 (fun _ => by rw [hlast]; exact htp)
                    have kt : (t0 == p) = false := by simpa using htp
                    clear ka0 kg0 hlast hlp hst
                    generalize hout : c0 ++ [(f0, t0)] = out at *
                    have HOUT := Lib.hid hout
                    clear hout
                    go_wp2_with fail
                    go_quiet ((first | (go_at_call 47; with_reducible exact qsame (HC1.out _ (hA4.drewN _))) | (go_at_call 47; with_reducible exact qsame (HC2.out _ (hB4.drewN _)))))
                    go_wp2_with fail
                    go_quiet (fail)
                    clear kl4
                    go_wp2_with fail
                    have hk1 : IntKind.i64.wrap ((k : Int) + 1) = (k : Int) + 1 := IntWalk.i64_in _ (by omega)
                    have hk2 : ((k : Int) + 1).toNat = k + 1 := by omega
                    have hk3 : (0 : Int) ≤ (k : Int) + 1 := by omega
                    go_region_held3 (fun W => W.cell? ⟨b3', o3 + k, none⟩ = some (.int .i64 p) ∧ W.cell? ⟨b3', o3 + (k + 1), none⟩ = some (.int .i64 q)) (first | (exact ⟨e0, e1⟩) | go_keep | (exact ⟨keepc hB2 hb3 hlb rfl e0, keepc hB2 hb3 hlb rfl e1⟩))
                      ((refine step_append_span _ (by rfl) _ _ (by rfl) w3.heap.size _ out (by rfl) (by exact hO.alloc _) wr.heap.size p q (by rfl) (by exact cell_new0 rfl) (by exact cell_new1 rfl) (by omega) (by simp; omega) ?_; intro v' w2 hO2 hB2 _))
                    have hBn : Below w3.heap.size w3 w2 := (below_drewN (hW.alloc hW.size _) _).trans hB2
                    clear hk1 hk2 hk3
                    go_wp2_with fail
                    obtain ⟨A6, c6, rfl, -⟩ := hO2.shape
                    go_roundw
                    case rel => exact ⟨k + 1, _, by go_num, hO2, hBn, Lib.hid (by rw [if_neg (by omega)]; exact ⟨ka.out, by omega⟩)⟩
                    case measure => simp [intOf]; omega
              · as_aux_lemma =>
                have hs := KS.out rfl
                clear KS KG KA
                go_wp2_with fail
                go_quiet ((first | (go_at_call 47; with_reducible exact qsame (HC1.out _ (hA4.drewN _))) | (go_at_call 47; with_reducible exact qsame (HC2.out _ (hB4.drewN _)))))
                go_wp2_with fail
                go_roundw
                case rel => exact ⟨k + 1, out, by go_num, hO.drewN _, below_drewN hW _, Lib.hid (by rw [if_neg (by omega)]; exact ⟨hs.out, by omega⟩)⟩
                case measure => simp [intOf]; omega
              · as_aux_lemma =>
                have hs := KS.out rfl
                clear KS KG KA
                go_wp2_with fail
                go_quiet ((first | (go_at_call 47; with_reducible exact qsame (HC1.out _ (hA4.drewN _))) | (go_at_call 47; with_reducible exact qsame (HC2.out _ (hB4.drewN _)))))
                go_wp2_with fail
                go_roundw
                case rel => exact ⟨k + 1, out, by go_num, hO.drewN _, below_drewN hW _, Lib.hid (by rw [if_neg (by omega)]; exact ⟨hs.out, by omega⟩)⟩
                case measure => simp [intOf]; omega
              · as_aux_lemma =>
                have ka0 := KA.out rfl
                have kg0 := KG.out rfl
                clear KS KG KA
                have hwz := hW.size
                rcases List.eq_nil_or_concat out with rfl | ⟨c0, s0, rfl⟩
                · have ka := ka0 (fun h => absurd h (by simp))
                  clear ka0 kg0
                  obtain ⟨A5, c5, rfl, -⟩ := hO.shape
                  have hout : ([] : Spn.L).length ≤ 1000000 := by simp
                  obtain ⟨out, ho⟩ : ∃ o : Spn.L, Hid (o = []) := ⟨_, Lib.hid rfl⟩
                  go_wp2_with fail
                  go_quiet ((first | (go_at_call 47; with_reducible exact qsame (HC1.out _ (hA4.drewN _))) | (go_at_call 47; with_reducible exact qsame (HC2.out _ (hB4.drewN _)))))
                  go_wp2_with fail
                  go_quiet (fail)
                  go_wp2_with fail
                  have hk1 : IntKind.i64.wrap ((k : Int) + 1) = (k : Int) + 1 := IntWalk.i64_in _ (by omega)
                  have hk2 : ((k : Int) + 1).toNat = k + 1 := by omega
                  have hk3 : (0 : Int) ≤ (k : Int) + 1 := by omega
                  go_region_held3 (fun W => W.cell? ⟨b3', o3 + k, none⟩ = some (.int .i64 p) ∧ W.cell? ⟨b3', o3 + (k + 1), none⟩ = some (.int .i64 q)) (first | (exact ⟨e0, e1⟩) | go_keep | (exact ⟨keepc hB2 hb3 hlb rfl e0, keepc hB2 hb3 hlb rfl e1⟩))
                    ((refine step_append_span _ (by rfl) _ _ (by rfl) w3.heap.size _ [] (by rfl) (by exact hO.alloc _) wr.heap.size p q (by rfl) (by exact cell_new0 rfl) (by exact cell_new1 rfl) (by simp) (by simp; omega) ?_; intro v' w2 hO2 hB2 _))
                  have hBn : Below w3.heap.size w3 w2 := (below_drewN (hW.alloc hW.size _) _).trans hB2
                  clear hk1 hk2 hk3
                  go_wp2_with fail
                  obtain ⟨A6, c6, rfl, -⟩ := hO2.shape
                  go_roundw
                  case rel => exact ⟨k + 1, _, by go_num, hO2, hBn, Lib.hid (by rw [if_neg (by omega)]; exact ⟨ka.out, by omega⟩)⟩
                  case measure => simp [intOf]; omega
                · rw [List.concat_eq_append] at *
                  obtain ⟨f0, t0⟩ := s0
                  have hlp : 0 < (c0 ++ [(f0, t0)]).length := by simp
                  have hlast : ((c0 ++ [(f0, t0)]).getD ((c0 ++ [(f0, t0)]).length - 1) (0, 0)).2 = t0 := by simp [List.getD]
                  have hlen : c0.length ≤ 200000 := by simp at ho; omega
                  obtain ⟨L, hL⟩ : ∃ L, c0.length + 1 = L := ⟨_, rfl⟩
                  obtain ⟨g0, cap, rfl, hg1, hg2, l1, l2, hst⟩ := hO.lastL hL
                  have HLL := Lib.hid hL
                  clear hL
                  have kl0 : decide ((0 : Int) < L) = true := by have := HLL.out; simp; omega
                  have kl1 : decide (0 < L) = true := by have := HLL.out; simp; omega
                  have kl2 : (0 : Int) ≤ (L : Int) - 1 := by have := HLL.out; omega
                  have kl3 : (L : Int) ≤ 300000 := by have := HLL.out; omega
                  have kl4 : IntKind.i64.wrap ((L : Int) - 1) = (L : Int) - 1 := IntWalk.i64_in _ (by omega)
                  have kl5 : ((L : Int) - 1).toNat = L - 1 := by omega
                  by_cases htp : t0 = p
                  · have ka := kg0 hlp (by rw [hlast]; exact htp)
                    rw [Spn.close_snoc] at ka
                    have hst := hst q
                    clear ka0 kg0 hlast hlp
                    subst htp
                    go_wp2_with fail
                    go_quiet ((first | (go_at_call 47; with_reducible exact qsame (HC1.out _ (hA4.drewN _))) | (go_at_call 47; with_reducible exact qsame (HC2.out _ (hB4.drewN _)))))
                    go_wp2_with fail
                    go_quiet (fail)
                    clear kl4
                    go_wp2_with fail
                    go_roundw
                    case rel => exact ⟨k + 1, _, by go_num, hst.drewN _, below_drewN (hW.setCell hg1 _) _, Lib.hid (by rw [if_neg (by omega)]; exact ⟨ka.out, by omega⟩)⟩
                    case measure => simp [intOf]; omega
                  · have ka := ka0 (fun _ => by rw [hlast]; exact htp)
                    have kt : (t0 == p) = false := by simpa using htp
                    clear ka0 kg0 hlast hlp hst
                    generalize hout : c0 ++ [(f0, t0)] = out at *
                    have HOUT := Lib.hid hout
                    clear hout
                    go_wp2_with fail
                    go_quiet ((first | (go_at_call 47; with_reducible exact qsame (HC1.out _ (hA4.drewN _))) | (go_at_call 47; with_reducible exact qsame (HC2.out _ (hB4.drewN _)))))
                    go_wp2_with fail
                    go_quiet (fail)
                    clear kl4
                    go_wp2_with fail
                    have hk1 : IntKind.i64.wrap ((k : Int) + 1) = (k : Int) + 1 := IntWalk.i64_in _ (by omega)
                    have hk2 : ((k : Int) + 1).toNat = k + 1 := by omega
                    have hk3 : (0 : Int) ≤ (k : Int) + 1 := by omega
                    go_region_held3 (fun W => W.cell? ⟨b3', o3 + k, none⟩ = some (.int .i64 p) ∧ W.cell? ⟨b3', o3 + (k + 1), none⟩ = some (.int .i64 q)) (first | (exact ⟨e0, e1⟩) | go_keep | (exact ⟨keepc hB2 hb3 hlb rfl e0, keepc hB2 hb3 hlb rfl e1⟩))
                      ((refine step_append_span _ (by rfl) _ _ (by rfl) w3.heap.size _ out (by rfl) (by exact hO.alloc _) wr.heap.size p q (by rfl) (by exact cell_new0 rfl) (by exact cell_new1 rfl) (by omega) (by simp; omega) ?_; intro v' w2 hO2 hB2 _))
                    have hBn : Below w3.heap.size w3 w2 := (below_drewN (hW.alloc hW.size _) _).trans hB2
                    clear hk1 hk2 hk3
                    go_wp2_with fail
                    obtain ⟨A6, c6, rfl, -⟩ := hO2.shape
                    go_roundw
                    case rel => exact ⟨k + 1, _, by go_num, hO2, hBn, Lib.hid (by rw [if_neg (by omega)]; exact ⟨ka.out, by omega⟩)⟩
                    case measure => simp [intOf]; omega
              · as_aux_lemma =>
                have hs := KS.out rfl
                clear KS KG KA
                go_wp2_with fail
                go_quiet ((first | (go_at_call 47; with_reducible exact qsame (HC1.out _ (hA4.drewN _))) | (go_at_call 47; with_reducible exact qsame (HC2.out _ (hB4.drewN _)))))
                go_wp2_with fail
                go_roundw
                case rel => exact ⟨k + 1, out, by go_num, hO.drewN _, below_drewN hW _, Lib.hid (by rw [if_neg (by omega)]; exact ⟨hs.out, by omega⟩)⟩
                case measure => simp [intOf]; omega
            · have hfin : Spn.Comb (Spn.kind kd) xs ys out := by
                by_cases h : ns = 0
                · have := HR.out
                  rw [if_pos h] at this
                  rw [this.1]
                  exact Spn.comb_empty HS3.out (Spn.kind_no kd) (by have := HNS.out; omega)
                · have := HR.out
                  rw [if_neg h] at this
                  exact this.1.final HS3.out (Spn.kind_no kd) (by have := HNS.out; omega)
              have HF := Lib.hid hfin
              clear hfin
              have hW0 := bstep B3 hW
              have kb : (k : Int) ≤ ns := by
                by_cases h : ns = 0
                · have := HR.out
                  rw [if_pos h] at this
                  omega
                · have := HR.out
                  rw [if_neg h] at this
                  omega
              obtain ⟨A', c', rfl, hS⟩ := hO.shape
              have n1 : ¬ (k : Int) + 1 < ns := by omega
              generalize hL : out.length = ol' at *
              have HL := Lib.hid hL
              clear hL
              by_cases hbig : (4096 : Int) < (ol' : Int)
              · go_wp2_with fail
                go_ret2
                exact ⟨out, HF, by rw [HL.out, if_neg (by omega), if_neg (by omega)]; exact Gives.none_ hW0⟩
              · go_wp2_with fail
                go_ret2
                exact ⟨out, HF, by rw [HL.out, if_pos (by omega), if_pos (by omega)]; exact ⟨A', c', by rw [HL.out]; rfl, hS, hW0⟩⟩
end Go.Proofs.Ytnleelkdoagfcaa
