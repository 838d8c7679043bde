/- What the reference's number and Parse return; both Parse give one answer. -/
import Derived.Test.YtcannkndedlooaaDoorRatI
namespace Go.Proofs.YtcannkndedlooaaDoor
open Go.RowKit
set_option linter.unusedVariables false
set_option linter.unusedSimpArgs false

theorem drop_cons (s : ByteArray) (k : Nat) (h : k < s.size) : s.data.toList.drop k = s[k] :: s.data.toList.drop (k + 1) := by
  rw [List.drop_eq_getElem_cons (by simpa using h)]
  rfl
def NumIs (acc : Int) (l : List UInt8) (v : Int) : Prop := Rt.numF acc l = v
set_option maxRecDepth 100000 in
set_option maxHeartbeats 1600000 in
theorem number_is {s : ByteArray} {v : Int} (hv : Rt.numF 0 s.data.toList = v) (w : World) (hs : s.size ≤ 1000) :
    Calls Tryd.prog 44 #[.string s] w fun e w' => e = .returned (.int .i64 v) ∧ w = w' := by
  have hN : NumIs 0 (s.data.toList.drop 0) v := hv
  have hl : s.data.toList.length = s.size := (Lib.size_eq s).symm
  have HL := Lib.hid hl
  clear hv hl
  go_enter Tryd.func44, Tryd.ntmps44
  go_wp2_with fail
  go_loop [3, 4] (fun n i => ∃ (k : Nat) (acc : Int), k ≤ s.size ∧ 0 ≤ acc ∧ acc ≤ 4611686018427387904 ∧ NumIs acc (s.data.toList.drop k) v ∧ n = .int .i64 acc ∧ i = .int .i64 k) (fun _ i => s.size - (intOf i).toNat)
  case atStart => exact ⟨0, 0, Nat.zero_le _, by omega, by omega, hN, rfl, rfl⟩
  case round =>
    clear hN
    obtain ⟨k, acc, hk, h0, h1, hN, rfl, rfl⟩ := hrel
    by_cases hlt : k < s.size
    · have hd := drop_cons s k hlt
      unfold NumIs at hN
      rw [hd, Rt.numF] at hN
      clear hd
      have hc0 : (0 : Int) ≤ (s[k].toNat : Int) := by omega
      have hc1 : (s[k].toNat : Int) ≤ 255 := by have := s[k].toNat_lt; omega
      by_cases hbad : (s[k].toNat : Int) < 48 ∨ 57 < (s[k].toNat : Int) ∨ (4611686018427387904 - ((s[k].toNat : Int) - 48)) / 10 < acc
      · rw [if_pos hbad] at hN
        have HN := Lib.hid hN
        clear hN
        rcases (show (s[k].toNat : Int) < 48 ∨ (¬ (s[k].toNat : Int) < 48 ∧ 57 < (s[k].toNat : Int)) ∨ (¬ (s[k].toNat : Int) < 48 ∧ ¬ 57 < (s[k].toNat : Int) ∧ (4611686018427387904 - ((s[k].toNat : Int) - 48)) / 10 < acc) by omega) with h | ⟨ha, h⟩ | ⟨ha, hb, h⟩
        all_goals
          clear hbad
          go_wp2_with fail
          go_ret
          exact ⟨ret_int HN.out, rfl⟩
      · rw [if_neg hbad] at hN
        have a1 : ¬ (s[k].toNat : Int) < 48 := fun h => hbad (.inl h)
        have a2 : ¬ 57 < (s[k].toNat : Int) := fun h => hbad (.inr (.inl h))
        have a3 : ¬ (4611686018427387904 - ((s[k].toNat : Int) - 48)) / 10 < acc := fun h => hbad (.inr (.inr h))
        have HN := Lib.hid hN
        clear hN hbad
        go_wp2_with fail
        go_round
        case rel => exact ⟨k + 1, _, by omega, by omega, by omega, HN.out, rfl, by go_num⟩
        case measure => simp [intOf]; omega
    · have hk' : k = s.size := by omega
      have HN := Lib.hid (show acc = v by
        unfold NumIs at hN
        rw [hk', List.drop_of_length_le (by rw [HL.out]; exact Nat.le_refl _)] at hN
        exact hN)
      clear hN
      go_wp2_with fail
      go_ret
      exact ⟨ret_int HN.out, rfl⟩
theorem RatAt.new1d (w : World) (o : Obj) (k : Nat) (n d : Int) (t : TypeId) : RatAt (((w.alloc o).drewN k).alloc (.cells #[.int .i64 n, .int .i64 d] t)) (w.heap.size + 1) n d := by
  have h := RatAt.new ((w.alloc o).drewN k) n d t
  rw [show ((w.alloc o).drewN k).heap.size = w.heap.size + 1 by simp [World.drewN]] at h
  exact h
theorem slash_at {s : ByteArray} {K : Nat} (h : Lib.indexByte s.data.toList 47 = K) : K < s.size ∧ (∀ hk : K < s.size, ((s[K].toNat : Int) == 47) = true) ∧ (∀ k, k < K → ∀ hk : k < s.size, ((s[k].toNat : Int) == 47) = false) := by
  have hs := Lib.indexByte_some h
  have e : s.data.toList.length = s.size := (Lib.size_eq s).symm
  have hK : K < s.size := by
    rw [← e]
    exact (List.getElem?_eq_some_iff.1 hs.1).1
  have el : ∀ k, ∀ hk : k < s.size, s.data.toList[k]? = some s[k] := fun k hk => by
    rw [List.getElem?_eq_getElem (by rw [e]; exact hk)]
    rfl
  refine ⟨hK, fun hk => ?_, fun k hkK hk => ?_⟩
  · have := (el K hk).symm.trans hs.1
    simp only [Option.some.injEq] at this
    rw [this]
    rfl
  · have := hs.2 k hkK
    rw [el k hk] at this
    simp only [ne_eq, Option.some.injEq] at this
    simp only [beq_eq_false_iff_ne]
    intro h2
    have h3 : s[k].toNat = 47 := by omega
    exact this (UInt8.toNat_inj.1 h3)
theorem slash_no {s : ByteArray} (h : Lib.indexByte s.data.toList 47 = -1) : ∀ k, ∀ hk : k < s.size, ((s[k].toNat : Int) == 47) = false := by
  have hs := Lib.indexByte_none h
  have e : s.data.toList.length = s.size := (Lib.size_eq s).symm
  intro k hk
  have := hs k
  rw [List.getElem?_eq_getElem (by rw [e]; exact hk)] at this
  simp only [ne_eq, Option.some.injEq] at this
  simp only [beq_eq_false_iff_ne]
  intro h2
  have h3 : s[k].toNat = 47 := by omega
  exact this (UInt8.toNat_inj.1 h3)
theorem list_pos {s : ByteArray} (h : 0 < s.size) : s.toList ≠ [] := by
  intro e
  rw [Lib.size_eq, ← Lib.toList_data, e] at h
  simp at h

set_option maxRecDepth 100000 in
set_option maxHeartbeats 1600000 in
theorem rp_e_ne (s a b : ByteArray) (K : Nat) (dv : Int) (t : ByteArray)
    (w : World) (hT : RatT w) (hz : s.size ≤ 1000) (hix : Lib.indexByte s.data.toList 47 = K) (ea : s.extract 0 K = a) (eb : s.extract (K + 1) s.size = b) (za : a.size ≤ 1000) (zb : b.size ≤ 1000) (hb : Rt.numF 0 b.data.toList = dv) (d1 : -1 ≤ dv) (d2 : dv ≤ 4611686018427387904) (h0 : a.toList = []) (hs0 : 0 < s.size) (ht : (⟨(Rt.txtS 0 dv).toArray⟩ : ByteArray) = t) (hne : t ≠ s) :
    Calls Tryd.prog 27 #[.string s] w fun e w' => e = .returned (.tuple #[.agg #[.int .i64 0, .int .i64 0], .int .i64 2]) ∧ Below w.heap.size w w' := by
  have hK := slash_at hix
  have HI := Lib.hid hix
  have HB := Lib.hid hb
  clear hix hb
  have g0 : a.size = 0 := by rw [Lib.size_eq, ← Lib.toList_data, h0]; rfl
  have HV := Lib.hid (show Rt.numF 0 a.data.toList = 0 by rw [← Lib.toList_data, h0]; rfl)
  have HT := Lib.hid ht
  have s1 : s.toList ≠ [] := list_pos hs0
  have s2 : s.toList.isEmpty = false := by simp [s1]
  have s3 : (s.toList == []) = false := by simp [s1]
  have e1 := list_ne hne
  clear ht hne
  have Z0 := RatAt.new w 0 0 23
  have T0 := hT.alloc (.cells #[.int .i64 0, .int .i64 0] 23)
  have L0 : Below w.heap.size w (w.alloc (.cells #[.int .i64 0, .int .i64 0] 23)) := (Below.refl _ _).alloc (Nat.le_refl _) _
  go_enter Tryd.func27, Tryd.ntmps27
  go_wp2_with fail
  go_loop [4, 5, 6] (fun x y i => ∃ k : Nat, k ≤ K ∧ x = .string s ∧ y = .int .i64 1 ∧ i = .int .i64 k) (fun _ _ i => s.size - (intOf i).toNat)
  case atStart => exact ⟨0, Nat.zero_le _, rfl, rfl, rfl⟩
  case round =>
    obtain ⟨k, hk, rfl, rfl, rfl⟩ := hrel
    have hKs := hK.1
    by_cases hlt : k < K
    · have hks : k < s.size := by omega
      have hg := hK.2.2 k hlt hks
      clear hK
      go_wp2_with fail
      go_round
      case rel => exact ⟨k + 1, by omega, rfl, rfl, by go_num⟩
      case measure => simp [intOf]; omega
    · obtain rfl : k = K := by omega
      have hg := hK.2.1 hKs
      have c1 : (0 : Int) ≤ ↑k := by omega
      have c2 : (↑k : Int) ≤ ↑s.size := by omega
      have c3 : (0 : Int) ≤ ↑k + 1 := by omega
      have c4 : (↑k + 1 : Int) ≤ ↑s.size := by omega
      clear hK
      go_wp2_with fail
      go_quiet ((go_at_call 44; exact qsame (number_is HB.out _ zb)))
      go_wp2_with fail
      refine (number_is (s := a) HV.out _ za).mono ?_
      rintro e w' ⟨rfl, rfl⟩
      go_wp2_with fail
      refine (rtext_is HT.out _ ((T0.drewN _).alloc _) ⟨by omega, by omega⟩ ⟨by omega, by omega⟩).mono ?_
      rintro e w3 ⟨rfl, b3⟩
      have Z3 := RatAt.below ((Z0.drewN _).alloc (.cells #[.int .i64 0, .int .i64 dv] 23)) b3
      have R3 := RatAt.below (RatAt.new1d w _ _ 0 dv 23) b3
      have L3 := bstep ((below_drewN L0 _).alloc (below_drewN L0 _).size _) b3
      have ⟨z0, z1, k0, k1⟩ := Z3
      have ⟨r0, r1, _, _⟩ := R3
      have hz3 := Z3.lt
      go_wp2_with fail
      exact bodyPost_ret (v := .tuple #[.agg #[.int .i64 0, .int .i64 0], .int .i64 2]) (by simp [results, Tryd.results27, go_sem, z0, z1]) rfl ⟨rfl, (L3.setCell (by simp <;> omega) _).setCell (by simp <;> omega) _⟩

set_option maxRecDepth 100000 in
set_option maxHeartbeats 1600000 in
theorem rp_e_ok (s a b : ByteArray) (K : Nat) (dv : Int)
    (w : World) (hT : RatT w) (hz : s.size ≤ 1000) (hix : Lib.indexByte s.data.toList 47 = K) (ea : s.extract 0 K = a) (eb : s.extract (K + 1) s.size = b) (za : a.size ≤ 1000) (zb : b.size ≤ 1000) (hb : Rt.numF 0 b.data.toList = dv) (d1 : -1 ≤ dv) (d2 : dv ≤ 4611686018427387904) (h0 : a.toList = []) (hs0 : 0 < s.size) (ht : (⟨(Rt.txtS 0 dv).toArray⟩ : ByteArray) = s) :
    Calls Tryd.prog 27 #[.string s] w fun e w' => e = .returned (.tuple #[.agg #[.int .i64 0, .int .i64 dv], .int .i64 0]) ∧ Below w.heap.size w w' := by
  have hK := slash_at hix
  have HI := Lib.hid hix
  have HB := Lib.hid hb
  clear hix hb
  have g0 : a.size = 0 := by rw [Lib.size_eq, ← Lib.toList_data, h0]; rfl
  have HV := Lib.hid (show Rt.numF 0 a.data.toList = 0 by rw [← Lib.toList_data, h0]; rfl)
  have HT := Lib.hid ht
  have s1 : s.toList ≠ [] := list_pos hs0
  have s2 : s.toList.isEmpty = false := by simp [s1]
  have s3 : (s.toList == []) = false := by simp [s1]
  clear ht
  have Z0 := RatAt.new w 0 0 23
  have T0 := hT.alloc (.cells #[.int .i64 0, .int .i64 0] 23)
  have L0 : Below w.heap.size w (w.alloc (.cells #[.int .i64 0, .int .i64 0] 23)) := (Below.refl _ _).alloc (Nat.le_refl _) _
  go_enter Tryd.func27, Tryd.ntmps27
  go_wp2_with fail
  go_loop [4, 5, 6] (fun x y i => ∃ k : Nat, k ≤ K ∧ x = .string s ∧ y = .int .i64 1 ∧ i = .int .i64 k) (fun _ _ i => s.size - (intOf i).toNat)
  case atStart => exact ⟨0, Nat.zero_le _, rfl, rfl, rfl⟩
  case round =>
    obtain ⟨k, hk, rfl, rfl, rfl⟩ := hrel
    have hKs := hK.1
    by_cases hlt : k < K
    · have hks : k < s.size := by omega
      have hg := hK.2.2 k hlt hks
      clear hK
      go_wp2_with fail
      go_round
      case rel => exact ⟨k + 1, by omega, rfl, rfl, by go_num⟩
      case measure => simp [intOf]; omega
    · obtain rfl : k = K := by omega
      have hg := hK.2.1 hKs
      have c1 : (0 : Int) ≤ ↑k := by omega
      have c2 : (↑k : Int) ≤ ↑s.size := by omega
      have c3 : (0 : Int) ≤ ↑k + 1 := by omega
      have c4 : (↑k + 1 : Int) ≤ ↑s.size := by omega
      clear hK
      go_wp2_with fail
      go_quiet ((go_at_call 44; exact qsame (number_is HB.out _ zb)))
      go_wp2_with fail
      refine (number_is (s := a) HV.out _ za).mono ?_
      rintro e w' ⟨rfl, rfl⟩
      go_wp2_with fail
      refine (rtext_is HT.out _ ((T0.drewN _).alloc _) ⟨by omega, by omega⟩ ⟨by omega, by omega⟩).mono ?_
      rintro e w3 ⟨rfl, b3⟩
      have Z3 := RatAt.below ((Z0.drewN _).alloc (.cells #[.int .i64 0, .int .i64 dv] 23)) b3
      have R3 := RatAt.below (RatAt.new1d w _ _ 0 dv 23) b3
      have L3 := bstep ((below_drewN L0 _).alloc (below_drewN L0 _).size _) b3
      have ⟨z0, z1, k0, k1⟩ := Z3
      have ⟨r0, r1, _, _⟩ := R3
      have hz3 := Z3.lt
      go_wp2_with fail
      exact bodyPost_ret (v := .tuple #[.agg #[.int .i64 0, .int .i64 dv], .int .i64 0]) (by simp [results, Tryd.results27, go_sem, z0, z1]) rfl ⟨rfl, (L3.setCell (by simp <;> omega) _).setCell (by simp <;> omega) _⟩

set_option maxRecDepth 100000 in
set_option maxHeartbeats 1600000 in
theorem rp_m_ne (s a b : ByteArray) (K : Nat) (v dv : Int) (t : ByteArray)
    (w : World) (hT : RatT w) (hz : s.size ≤ 1000) (hix : Lib.indexByte s.data.toList 47 = K) (ea : s.extract 0 K = a) (eb : s.extract (K + 1) s.size = b) (za : a.size ≤ 1000) (zb : b.size ≤ 1000) (hb : Rt.numF 0 b.data.toList = dv) (d1 : -1 ≤ dv) (d2 : dv ≤ 4611686018427387904) (h0 : 0 < a.size) (hm : ((a[0].toNat : Int) == 45) = true) (hv : Rt.numF 0 (a.extract 1 a.size).data.toList = v) (v1 : -1 ≤ v) (v2 : v ≤ 4611686018427387904) (hs0 : 0 < s.size) (ht : (⟨(Rt.txtS (-v) dv).toArray⟩ : ByteArray) = t) (hne : t ≠ s) :
    Calls Tryd.prog 27 #[.string s] w fun e w' => e = .returned (.tuple #[.agg #[.int .i64 0, .int .i64 0], .int .i64 2]) ∧ Below w.heap.size w w' := by
  have hK := slash_at hix
  have HI := Lib.hid hix
  have HB := Lib.hid hb
  clear hix hb
  have HV := Lib.hid hv
  have g1 : a.toList ≠ [] := list_pos h0
  have g2 : a.toList.isEmpty = false := by simp [g1]
  have g3 : (a.toList == []) = false := by simp [g1]
  clear hv
  have zz : (a.extract 1 a.size).size ≤ 1000 := by simp; omega
  have HT := Lib.hid ht
  have s1 : s.toList ≠ [] := list_pos hs0
  have s2 : s.toList.isEmpty = false := by simp [s1]
  have s3 : (s.toList == []) = false := by simp [s1]
  have e1 := list_ne hne
  clear ht hne
  have Z0 := RatAt.new w 0 0 23
  have T0 := hT.alloc (.cells #[.int .i64 0, .int .i64 0] 23)
  have L0 : Below w.heap.size w (w.alloc (.cells #[.int .i64 0, .int .i64 0] 23)) := (Below.refl _ _).alloc (Nat.le_refl _) _
  go_enter Tryd.func27, Tryd.ntmps27
  go_wp2_with fail
  go_loop [4, 5, 6] (fun x y i => ∃ k : Nat, k ≤ K ∧ x = .string s ∧ y = .int .i64 1 ∧ i = .int .i64 k) (fun _ _ i => s.size - (intOf i).toNat)
  case atStart => exact ⟨0, Nat.zero_le _, rfl, rfl, rfl⟩
  case round =>
    obtain ⟨k, hk, rfl, rfl, rfl⟩ := hrel
    have hKs := hK.1
    by_cases hlt : k < K
    · have hks : k < s.size := by omega
      have hg := hK.2.2 k hlt hks
      clear hK
      go_wp2_with fail
      go_round
      case rel => exact ⟨k + 1, by omega, rfl, rfl, by go_num⟩
      case measure => simp [intOf]; omega
    · obtain rfl : k = K := by omega
      have hg := hK.2.1 hKs
      have c1 : (0 : Int) ≤ ↑k := by omega
      have c2 : (↑k : Int) ≤ ↑s.size := by omega
      have c3 : (0 : Int) ≤ ↑k + 1 := by omega
      have c4 : (↑k + 1 : Int) ≤ ↑s.size := by omega
      clear hK
      go_wp2_with fail
      go_quiet ((go_at_call 44; exact qsame (number_is HB.out _ zb)))
      go_wp2_with fail
      refine (number_is (s := (a.extract 1 a.size)) HV.out _ zz).mono ?_
      rintro e w' ⟨rfl, rfl⟩
      go_wp2_with fail
      refine (rtext_is HT.out _ ((T0.drewN _).alloc _) ⟨by omega, by omega⟩ ⟨by omega, by omega⟩).mono ?_
      rintro e w3 ⟨rfl, b3⟩
      have Z3 := RatAt.below ((Z0.drewN _).alloc (.cells #[.int .i64 (-v), .int .i64 dv] 23)) b3
      have R3 := RatAt.below (RatAt.new1d w _ _ (-v) dv 23) b3
      have L3 := bstep ((below_drewN L0 _).alloc (below_drewN L0 _).size _) b3
      have ⟨z0, z1, k0, k1⟩ := Z3
      have ⟨r0, r1, _, _⟩ := R3
      have hz3 := Z3.lt
      go_wp2_with fail
      exact bodyPost_ret (v := .tuple #[.agg #[.int .i64 0, .int .i64 0], .int .i64 2]) (by simp [results, Tryd.results27, go_sem, z0, z1]) rfl ⟨rfl, (L3.setCell (by simp <;> omega) _).setCell (by simp <;> omega) _⟩

set_option maxRecDepth 100000 in
set_option maxHeartbeats 1600000 in
theorem rp_m_ok (s a b : ByteArray) (K : Nat) (v dv : Int)
    (w : World) (hT : RatT w) (hz : s.size ≤ 1000) (hix : Lib.indexByte s.data.toList 47 = K) (ea : s.extract 0 K = a) (eb : s.extract (K + 1) s.size = b) (za : a.size ≤ 1000) (zb : b.size ≤ 1000) (hb : Rt.numF 0 b.data.toList = dv) (d1 : -1 ≤ dv) (d2 : dv ≤ 4611686018427387904) (h0 : 0 < a.size) (hm : ((a[0].toNat : Int) == 45) = true) (hv : Rt.numF 0 (a.extract 1 a.size).data.toList = v) (v1 : -1 ≤ v) (v2 : v ≤ 4611686018427387904) (hs0 : 0 < s.size) (ht : (⟨(Rt.txtS (-v) dv).toArray⟩ : ByteArray) = s) :
    Calls Tryd.prog 27 #[.string s] w fun e w' => e = .returned (.tuple #[.agg #[.int .i64 (-v), .int .i64 dv], .int .i64 0]) ∧ Below w.heap.size w w' := by
  have hK := slash_at hix
  have HI := Lib.hid hix
  have HB := Lib.hid hb
  clear hix hb
  have HV := Lib.hid hv
  have g1 : a.toList ≠ [] := list_pos h0
  have g2 : a.toList.isEmpty = false := by simp [g1]
  have g3 : (a.toList == []) = false := by simp [g1]
  clear hv
  have zz : (a.extract 1 a.size).size ≤ 1000 := by simp; omega
  have HT := Lib.hid ht
  have s1 : s.toList ≠ [] := list_pos hs0
  have s2 : s.toList.isEmpty = false := by simp [s1]
  have s3 : (s.toList == []) = false := by simp [s1]
  clear ht
  have Z0 := RatAt.new w 0 0 23
  have T0 := hT.alloc (.cells #[.int .i64 0, .int .i64 0] 23)
  have L0 : Below w.heap.size w (w.alloc (.cells #[.int .i64 0, .int .i64 0] 23)) := (Below.refl _ _).alloc (Nat.le_refl _) _
  go_enter Tryd.func27, Tryd.ntmps27
  go_wp2_with fail
  go_loop [4, 5, 6] (fun x y i => ∃ k : Nat, k ≤ K ∧ x = .string s ∧ y = .int .i64 1 ∧ i = .int .i64 k) (fun _ _ i => s.size - (intOf i).toNat)
  case atStart => exact ⟨0, Nat.zero_le _, rfl, rfl, rfl⟩
  case round =>
    obtain ⟨k, hk, rfl, rfl, rfl⟩ := hrel
    have hKs := hK.1
    by_cases hlt : k < K
    · have hks : k < s.size := by omega
      have hg := hK.2.2 k hlt hks
      clear hK
      go_wp2_with fail
      go_round
      case rel => exact ⟨k + 1, by omega, rfl, rfl, by go_num⟩
      case measure => simp [intOf]; omega
    · obtain rfl : k = K := by omega
      have hg := hK.2.1 hKs
      have c1 : (0 : Int) ≤ ↑k := by omega
      have c2 : (↑k : Int) ≤ ↑s.size := by omega
      have c3 : (0 : Int) ≤ ↑k + 1 := by omega
      have c4 : (↑k + 1 : Int) ≤ ↑s.size := by omega
      clear hK
      go_wp2_with fail
      go_quiet ((go_at_call 44; exact qsame (number_is HB.out _ zb)))
      go_wp2_with fail
      refine (number_is (s := (a.extract 1 a.size)) HV.out _ zz).mono ?_
      rintro e w' ⟨rfl, rfl⟩
      go_wp2_with fail
      refine (rtext_is HT.out _ ((T0.drewN _).alloc _) ⟨by omega, by omega⟩ ⟨by omega, by omega⟩).mono ?_
      rintro e w3 ⟨rfl, b3⟩
      have Z3 := RatAt.below ((Z0.drewN _).alloc (.cells #[.int .i64 (-v), .int .i64 dv] 23)) b3
      have R3 := RatAt.below (RatAt.new1d w _ _ (-v) dv 23) b3
      have L3 := bstep ((below_drewN L0 _).alloc (below_drewN L0 _).size _) b3
      have ⟨z0, z1, k0, k1⟩ := Z3
      have ⟨r0, r1, _, _⟩ := R3
      have hz3 := Z3.lt
      go_wp2_with fail
      exact bodyPost_ret (v := .tuple #[.agg #[.int .i64 (-v), .int .i64 dv], .int .i64 0]) (by simp [results, Tryd.results27, go_sem, z0, z1]) rfl ⟨rfl, (L3.setCell (by simp <;> omega) _).setCell (by simp <;> omega) _⟩

set_option maxRecDepth 100000 in
set_option maxHeartbeats 1600000 in
theorem rp_p_ne (s a b : ByteArray) (K : Nat) (v dv : Int) (t : ByteArray)
    (w : World) (hT : RatT w) (hz : s.size ≤ 1000) (hix : Lib.indexByte s.data.toList 47 = K) (ea : s.extract 0 K = a) (eb : s.extract (K + 1) s.size = b) (za : a.size ≤ 1000) (zb : b.size ≤ 1000) (hb : Rt.numF 0 b.data.toList = dv) (d1 : -1 ≤ dv) (d2 : dv ≤ 4611686018427387904) (h0 : 0 < a.size) (hm : ((a[0].toNat : Int) == 45) = false) (hv : Rt.numF 0 a.data.toList = v) (v1 : -1 ≤ v) (v2 : v ≤ 4611686018427387904) (hs0 : 0 < s.size) (ht : (⟨(Rt.txtS v dv).toArray⟩ : ByteArray) = t) (hne : t ≠ s) :
    Calls Tryd.prog 27 #[.string s] w fun e w' => e = .returned (.tuple #[.agg #[.int .i64 0, .int .i64 0], .int .i64 2]) ∧ Below w.heap.size w w' := by
  have hK := slash_at hix
  have HI := Lib.hid hix
  have HB := Lib.hid hb
  clear hix hb
  have HV := Lib.hid hv
  have g1 : a.toList ≠ [] := list_pos h0
  have g2 : a.toList.isEmpty = false := by simp [g1]
  have g3 : (a.toList == []) = false := by simp [g1]
  clear hv
  have HT := Lib.hid ht
  have s1 : s.toList ≠ [] := list_pos hs0
  have s2 : s.toList.isEmpty = false := by simp [s1]
  have s3 : (s.toList == []) = false := by simp [s1]
  have e1 := list_ne hne
  clear ht hne
  have Z0 := RatAt.new w 0 0 23
  have T0 := hT.alloc (.cells #[.int .i64 0, .int .i64 0] 23)
  have L0 : Below w.heap.size w (w.alloc (.cells #[.int .i64 0, .int .i64 0] 23)) := (Below.refl _ _).alloc (Nat.le_refl _) _
  go_enter Tryd.func27, Tryd.ntmps27
  go_wp2_with fail
  go_loop [4, 5, 6] (fun x y i => ∃ k : Nat, k ≤ K ∧ x = .string s ∧ y = .int .i64 1 ∧ i = .int .i64 k) (fun _ _ i => s.size - (intOf i).toNat)
  case atStart => exact ⟨0, Nat.zero_le _, rfl, rfl, rfl⟩
  case round =>
    obtain ⟨k, hk, rfl, rfl, rfl⟩ := hrel
    have hKs := hK.1
    by_cases hlt : k < K
    · have hks : k < s.size := by omega
      have hg := hK.2.2 k hlt hks
      clear hK
      go_wp2_with fail
      go_round
      case rel => exact ⟨k + 1, by omega, rfl, rfl, by go_num⟩
      case measure => simp [intOf]; omega
    · obtain rfl : k = K := by omega
      have hg := hK.2.1 hKs
      have c1 : (0 : Int) ≤ ↑k := by omega
      have c2 : (↑k : Int) ≤ ↑s.size := by omega
      have c3 : (0 : Int) ≤ ↑k + 1 := by omega
      have c4 : (↑k + 1 : Int) ≤ ↑s.size := by omega
      clear hK
      go_wp2_with fail
      go_quiet ((go_at_call 44; exact qsame (number_is HB.out _ zb)))
      go_wp2_with fail
      refine (number_is (s := a) HV.out _ za).mono ?_
      rintro e w' ⟨rfl, rfl⟩
      go_wp2_with fail
      refine (rtext_is HT.out _ ((T0.drewN _).alloc _) ⟨by omega, by omega⟩ ⟨by omega, by omega⟩).mono ?_
      rintro e w3 ⟨rfl, b3⟩
      have Z3 := RatAt.below ((Z0.drewN _).alloc (.cells #[.int .i64 v, .int .i64 dv] 23)) b3
      have R3 := RatAt.below (RatAt.new1d w _ _ v dv 23) b3
      have L3 := bstep ((below_drewN L0 _).alloc (below_drewN L0 _).size _) b3
      have ⟨z0, z1, k0, k1⟩ := Z3
      have ⟨r0, r1, _, _⟩ := R3
      have hz3 := Z3.lt
      go_wp2_with fail
      exact bodyPost_ret (v := .tuple #[.agg #[.int .i64 0, .int .i64 0], .int .i64 2]) (by simp [results, Tryd.results27, go_sem, z0, z1]) rfl ⟨rfl, (L3.setCell (by simp <;> omega) _).setCell (by simp <;> omega) _⟩

set_option maxRecDepth 100000 in
set_option maxHeartbeats 1600000 in
theorem rp_p_ok (s a b : ByteArray) (K : Nat) (v dv : Int)
    (w : World) (hT : RatT w) (hz : s.size ≤ 1000) (hix : Lib.indexByte s.data.toList 47 = K) (ea : s.extract 0 K = a) (eb : s.extract (K + 1) s.size = b) (za : a.size ≤ 1000) (zb : b.size ≤ 1000) (hb : Rt.numF 0 b.data.toList = dv) (d1 : -1 ≤ dv) (d2 : dv ≤ 4611686018427387904) (h0 : 0 < a.size) (hm : ((a[0].toNat : Int) == 45) = false) (hv : Rt.numF 0 a.data.toList = v) (v1 : -1 ≤ v) (v2 : v ≤ 4611686018427387904) (hs0 : 0 < s.size) (ht : (⟨(Rt.txtS v dv).toArray⟩ : ByteArray) = s) :
    Calls Tryd.prog 27 #[.string s] w fun e w' => e = .returned (.tuple #[.agg #[.int .i64 v, .int .i64 dv], .int .i64 0]) ∧ Below w.heap.size w w' := by
  have hK := slash_at hix
  have HI := Lib.hid hix
  have HB := Lib.hid hb
  clear hix hb
  have HV := Lib.hid hv
  have g1 : a.toList ≠ [] := list_pos h0
  have g2 : a.toList.isEmpty = false := by simp [g1]
  have g3 : (a.toList == []) = false := by simp [g1]
  clear hv
  have HT := Lib.hid ht
  have s1 : s.toList ≠ [] := list_pos hs0
  have s2 : s.toList.isEmpty = false := by simp [s1]
  have s3 : (s.toList == []) = false := by simp [s1]
  clear ht
  have Z0 := RatAt.new w 0 0 23
  have T0 := hT.alloc (.cells #[.int .i64 0, .int .i64 0] 23)
  have L0 : Below w.heap.size w (w.alloc (.cells #[.int .i64 0, .int .i64 0] 23)) := (Below.refl _ _).alloc (Nat.le_refl _) _
  go_enter Tryd.func27, Tryd.ntmps27
  go_wp2_with fail
  go_loop [4, 5, 6] (fun x y i => ∃ k : Nat, k ≤ K ∧ x = .string s ∧ y = .int .i64 1 ∧ i = .int .i64 k) (fun _ _ i => s.size - (intOf i).toNat)
  case atStart => exact ⟨0, Nat.zero_le _, rfl, rfl, rfl⟩
  case round =>
    obtain ⟨k, hk, rfl, rfl, rfl⟩ := hrel
    have hKs := hK.1
    by_cases hlt : k < K
    · have hks : k < s.size := by omega
      have hg := hK.2.2 k hlt hks
      clear hK
      go_wp2_with fail
      go_round
      case rel => exact ⟨k + 1, by omega, rfl, rfl, by go_num⟩
      case measure => simp [intOf]; omega
    · obtain rfl : k = K := by omega
      have hg := hK.2.1 hKs
      have c1 : (0 : Int) ≤ ↑k := by omega
      have c2 : (↑k : Int) ≤ ↑s.size := by omega
      have c3 : (0 : Int) ≤ ↑k + 1 := by omega
      have c4 : (↑k + 1 : Int) ≤ ↑s.size := by omega
      clear hK
      go_wp2_with fail
      go_quiet ((go_at_call 44; exact qsame (number_is HB.out _ zb)))
      go_wp2_with fail
      refine (number_is (s := a) HV.out _ za).mono ?_
      rintro e w' ⟨rfl, rfl⟩
      go_wp2_with fail
      refine (rtext_is HT.out _ ((T0.drewN _).alloc _) ⟨by omega, by omega⟩ ⟨by omega, by omega⟩).mono ?_
      rintro e w3 ⟨rfl, b3⟩
      have Z3 := RatAt.below ((Z0.drewN _).alloc (.cells #[.int .i64 v, .int .i64 dv] 23)) b3
      have R3 := RatAt.below (RatAt.new1d w _ _ v dv 23) b3
      have L3 := bstep ((below_drewN L0 _).alloc (below_drewN L0 _).size _) b3
      have ⟨z0, z1, k0, k1⟩ := Z3
      have ⟨r0, r1, _, _⟩ := R3
      have hz3 := Z3.lt
      go_wp2_with fail
      exact bodyPost_ret (v := .tuple #[.agg #[.int .i64 v, .int .i64 dv], .int .i64 0]) (by simp [results, Tryd.results27, go_sem, z0, z1]) rfl ⟨rfl, (L3.setCell (by simp <;> omega) _).setCell (by simp <;> omega) _⟩

set_option maxRecDepth 100000 in
set_option maxHeartbeats 1600000 in
theorem rq_empty (s : ByteArray)
    (w : World) (hT : RatT w) (hz : s.size ≤ 1000) (hix : Lib.indexByte s.data.toList 47 = -1) (h0 : s.toList = []) :
    Calls Tryd.prog 27 #[.string s] w fun e w' => e = .returned (.tuple #[.agg #[.int .i64 0, .int .i64 0], .int .i64 2]) ∧ Below w.heap.size w w' := by
  have hK := slash_no hix
  have HI := Lib.hid hix
  clear hix
  have g0 : s.size = 0 := by rw [Lib.size_eq, ← Lib.toList_data, h0]; rfl
  have HV := Lib.hid (show Rt.numF 0 s.data.toList = 0 by rw [← Lib.toList_data, h0]; rfl)
  have Z0 := RatAt.new w 0 0 23
  have T0 := hT.alloc (.cells #[.int .i64 0, .int .i64 0] 23)
  have L0 : Below w.heap.size w (w.alloc (.cells #[.int .i64 0, .int .i64 0] 23)) := (Below.refl _ _).alloc (Nat.le_refl _) _
  go_enter Tryd.func27, Tryd.ntmps27
  go_wp2_with fail
  go_loop [4, 5, 6] (fun x y i => ∃ k : Nat, k ≤ s.size ∧ x = .string s ∧ y = .int .i64 1 ∧ i = .int .i64 k) (fun _ _ i => s.size - (intOf i).toNat)
  case atStart => exact ⟨0, Nat.zero_le _, rfl, rfl, rfl⟩
  case round =>
    obtain ⟨k, hk, rfl, rfl, rfl⟩ := hrel
    by_cases hlt : k < s.size
    · exact absurd hlt (by omega)
    · obtain rfl : k = s.size := by omega
      clear hK
      go_wp2_with fail
      refine (number_is (s := s) HV.out _ hz).mono ?_
      rintro e w' ⟨rfl, rfl⟩
      go_wp2_with fail
      exact bodyPost_ret (v := .tuple #[.agg #[.int .i64 0, .int .i64 0], .int .i64 2]) (by simp [results, Tryd.results27, go_sem]) rfl ⟨rfl, by first | exact L0.alloc (by simp) _ | exact (L0.setCell (by simp) _).alloc (by simp) _⟩

set_option maxRecDepth 100000 in
set_option maxHeartbeats 1600000 in
theorem rq_m_ne (s : ByteArray) (v : Int) (t : ByteArray)
    (w : World) (hT : RatT w) (hz : s.size ≤ 1000) (hix : Lib.indexByte s.data.toList 47 = -1) (h0 : 0 < s.size) (hm : ((s[0].toNat : Int) == 45) = true) (hv : Rt.numF 0 (s.extract 1 s.size).data.toList = v) (v1 : -1 ≤ v) (v2 : v ≤ 4611686018427387904) (hs0 : 0 < s.size) (ht : (⟨(Rt.txtS (-v) 1).toArray⟩ : ByteArray) = t) (hne : t ≠ s) :
    Calls Tryd.prog 27 #[.string s] w fun e w' => e = .returned (.tuple #[.agg #[.int .i64 0, .int .i64 0], .int .i64 2]) ∧ Below w.heap.size w w' := by
  have hK := slash_no hix
  have HI := Lib.hid hix
  clear hix
  have HV := Lib.hid hv
  have g1 : s.toList ≠ [] := list_pos h0
  have g2 : s.toList.isEmpty = false := by simp [g1]
  have g3 : (s.toList == []) = false := by simp [g1]
  clear hv
  have zz : (s.extract 1 s.size).size ≤ 1000 := by simp; omega
  have HT := Lib.hid ht
  have s1 : s.toList ≠ [] := list_pos hs0
  have s2 : s.toList.isEmpty = false := by simp [s1]
  have s3 : (s.toList == []) = false := by simp [s1]
  have e1 := list_ne hne
  clear ht hne
  have Z0 := RatAt.new w 0 0 23
  have T0 := hT.alloc (.cells #[.int .i64 0, .int .i64 0] 23)
  have L0 : Below w.heap.size w (w.alloc (.cells #[.int .i64 0, .int .i64 0] 23)) := (Below.refl _ _).alloc (Nat.le_refl _) _
  go_enter Tryd.func27, Tryd.ntmps27
  go_wp2_with fail
  go_loop [4, 5, 6] (fun x y i => ∃ k : Nat, k ≤ s.size ∧ x = .string s ∧ y = .int .i64 1 ∧ i = .int .i64 k) (fun _ _ i => s.size - (intOf i).toNat)
  case atStart => exact ⟨0, Nat.zero_le _, rfl, rfl, rfl⟩
  case round =>
    obtain ⟨k, hk, rfl, rfl, rfl⟩ := hrel
    by_cases hlt : k < s.size
    · have hg := hK k hlt
      clear hK
      go_wp2_with fail
      go_round
      case rel => exact ⟨k + 1, by omega, rfl, rfl, by go_num⟩
      case measure => simp [intOf]; omega
    · obtain rfl : k = s.size := by omega
      clear hK
      go_wp2_with fail
      refine (number_is (s := (s.extract 1 s.size)) HV.out _ zz).mono ?_
      rintro e w' ⟨rfl, rfl⟩
      go_wp2_with fail
      refine (rtext_is HT.out _ (T0.alloc _) ⟨by omega, by omega⟩ ⟨by omega, by omega⟩).mono ?_
      rintro e w3 ⟨rfl, b3⟩
      have Z3 := RatAt.below (Z0.alloc (.cells #[.int .i64 (-v), .int .i64 1] 23)) b3
      have R3 := RatAt.below (RatAt.new1 w _ (-v) 1 23) b3
      have L3 := bstep (L0.alloc L0.size _) b3
      have ⟨z0, z1, k0, k1⟩ := Z3
      have ⟨r0, r1, _, _⟩ := R3
      have hz3 := Z3.lt
      go_wp2_with fail
      exact bodyPost_ret (v := .tuple #[.agg #[.int .i64 0, .int .i64 0], .int .i64 2]) (by simp [results, Tryd.results27, go_sem, z0, z1]) rfl ⟨rfl, (L3.setCell (by simp <;> omega) _).setCell (by simp <;> omega) _⟩

set_option maxRecDepth 100000 in
set_option maxHeartbeats 1600000 in
theorem rq_m_ok (s : ByteArray) (v : Int)
    (w : World) (hT : RatT w) (hz : s.size ≤ 1000) (hix : Lib.indexByte s.data.toList 47 = -1) (h0 : 0 < s.size) (hm : ((s[0].toNat : Int) == 45) = true) (hv : Rt.numF 0 (s.extract 1 s.size).data.toList = v) (v1 : -1 ≤ v) (v2 : v ≤ 4611686018427387904) (hs0 : 0 < s.size) (ht : (⟨(Rt.txtS (-v) 1).toArray⟩ : ByteArray) = s) :
    Calls Tryd.prog 27 #[.string s] w fun e w' => e = .returned (.tuple #[.agg #[.int .i64 (-v), .int .i64 1], .int .i64 0]) ∧ Below w.heap.size w w' := by
  have hK := slash_no hix
  have HI := Lib.hid hix
  clear hix
  have HV := Lib.hid hv
  have g1 : s.toList ≠ [] := list_pos h0
  have g2 : s.toList.isEmpty = false := by simp [g1]
  have g3 : (s.toList == []) = false := by simp [g1]
  clear hv
  have zz : (s.extract 1 s.size).size ≤ 1000 := by simp; omega
  have HT := Lib.hid ht
  have s1 : s.toList ≠ [] := list_pos hs0
  have s2 : s.toList.isEmpty = false := by simp [s1]
  have s3 : (s.toList == []) = false := by simp [s1]
  clear ht
  have Z0 := RatAt.new w 0 0 23
  have T0 := hT.alloc (.cells #[.int .i64 0, .int .i64 0] 23)
  have L0 : Below w.heap.size w (w.alloc (.cells #[.int .i64 0, .int .i64 0] 23)) := (Below.refl _ _).alloc (Nat.le_refl _) _
  go_enter Tryd.func27, Tryd.ntmps27
  go_wp2_with fail
  go_loop [4, 5, 6] (fun x y i => ∃ k : Nat, k ≤ s.size ∧ x = .string s ∧ y = .int .i64 1 ∧ i = .int .i64 k) (fun _ _ i => s.size - (intOf i).toNat)
  case atStart => exact ⟨0, Nat.zero_le _, rfl, rfl, rfl⟩
  case round =>
    obtain ⟨k, hk, rfl, rfl, rfl⟩ := hrel
    by_cases hlt : k < s.size
    · have hg := hK k hlt
      clear hK
      go_wp2_with fail
      go_round
      case rel => exact ⟨k + 1, by omega, rfl, rfl, by go_num⟩
      case measure => simp [intOf]; omega
    · obtain rfl : k = s.size := by omega
      clear hK
      go_wp2_with fail
      refine (number_is (s := (s.extract 1 s.size)) HV.out _ zz).mono ?_
      rintro e w' ⟨rfl, rfl⟩
      go_wp2_with fail
      refine (rtext_is HT.out _ (T0.alloc _) ⟨by omega, by omega⟩ ⟨by omega, by omega⟩).mono ?_
      rintro e w3 ⟨rfl, b3⟩
      have Z3 := RatAt.below (Z0.alloc (.cells #[.int .i64 (-v), .int .i64 1] 23)) b3
      have R3 := RatAt.below (RatAt.new1 w _ (-v) 1 23) b3
      have L3 := bstep (L0.alloc L0.size _) b3
      have ⟨z0, z1, k0, k1⟩ := Z3
      have ⟨r0, r1, _, _⟩ := R3
      have hz3 := Z3.lt
      go_wp2_with fail
      exact bodyPost_ret (v := .tuple #[.agg #[.int .i64 (-v), .int .i64 1], .int .i64 0]) (by simp [results, Tryd.results27, go_sem, z0, z1]) rfl ⟨rfl, (L3.setCell (by simp <;> omega) _).setCell (by simp <;> omega) _⟩

set_option maxRecDepth 100000 in
set_option maxHeartbeats 1600000 in
theorem rq_p_ne (s : ByteArray) (v : Int) (t : ByteArray)
    (w : World) (hT : RatT w) (hz : s.size ≤ 1000) (hix : Lib.indexByte s.data.toList 47 = -1) (h0 : 0 < s.size) (hm : ((s[0].toNat : Int) == 45) = false) (hv : Rt.numF 0 s.data.toList = v) (v1 : -1 ≤ v) (v2 : v ≤ 4611686018427387904) (hs0 : 0 < s.size) (ht : (⟨(Rt.txtS v 1).toArray⟩ : ByteArray) = t) (hne : t ≠ s) :
    Calls Tryd.prog 27 #[.string s] w fun e w' => e = .returned (.tuple #[.agg #[.int .i64 0, .int .i64 0], .int .i64 2]) ∧ Below w.heap.size w w' := by
  have hK := slash_no hix
  have HI := Lib.hid hix
  clear hix
  have HV := Lib.hid hv
  have g1 : s.toList ≠ [] := list_pos h0
  have g2 : s.toList.isEmpty = false := by simp [g1]
  have g3 : (s.toList == []) = false := by simp [g1]
  clear hv
  have HT := Lib.hid ht
  have s1 : s.toList ≠ [] := list_pos hs0
  have s2 : s.toList.isEmpty = false := by simp [s1]
  have s3 : (s.toList == []) = false := by simp [s1]
  have e1 := list_ne hne
  clear ht hne
  have Z0 := RatAt.new w 0 0 23
  have T0 := hT.alloc (.cells #[.int .i64 0, .int .i64 0] 23)
  have L0 : Below w.heap.size w (w.alloc (.cells #[.int .i64 0, .int .i64 0] 23)) := (Below.refl _ _).alloc (Nat.le_refl _) _
  go_enter Tryd.func27, Tryd.ntmps27
  go_wp2_with fail
  go_loop [4, 5, 6] (fun x y i => ∃ k : Nat, k ≤ s.size ∧ x = .string s ∧ y = .int .i64 1 ∧ i = .int .i64 k) (fun _ _ i => s.size - (intOf i).toNat)
  case atStart => exact ⟨0, Nat.zero_le _, rfl, rfl, rfl⟩
  case round =>
    obtain ⟨k, hk, rfl, rfl, rfl⟩ := hrel
    by_cases hlt : k < s.size
    · have hg := hK k hlt
      clear hK
      go_wp2_with fail
      go_round
      case rel => exact ⟨k + 1, by omega, rfl, rfl, by go_num⟩
      case measure => simp [intOf]; omega
    · obtain rfl : k = s.size := by omega
      clear hK
      go_wp2_with fail
      refine (number_is (s := s) HV.out _ hz).mono ?_
      rintro e w' ⟨rfl, rfl⟩
      go_wp2_with fail
      refine (rtext_is HT.out _ (T0.alloc _) ⟨by omega, by omega⟩ ⟨by omega, by omega⟩).mono ?_
      rintro e w3 ⟨rfl, b3⟩
      have Z3 := RatAt.below (Z0.alloc (.cells #[.int .i64 v, .int .i64 1] 23)) b3
      have R3 := RatAt.below (RatAt.new1 w _ v 1 23) b3
      have L3 := bstep (L0.alloc L0.size _) b3
      have ⟨z0, z1, k0, k1⟩ := Z3
      have ⟨r0, r1, _, _⟩ := R3
      have hz3 := Z3.lt
      go_wp2_with fail
      exact bodyPost_ret (v := .tuple #[.agg #[.int .i64 0, .int .i64 0], .int .i64 2]) (by simp [results, Tryd.results27, go_sem, z0, z1]) rfl ⟨rfl, (L3.setCell (by simp <;> omega) _).setCell (by simp <;> omega) _⟩

set_option maxRecDepth 100000 in
set_option maxHeartbeats 1600000 in
theorem rq_p_ok (s : ByteArray) (v : Int)
    (w : World) (hT : RatT w) (hz : s.size ≤ 1000) (hix : Lib.indexByte s.data.toList 47 = -1) (h0 : 0 < s.size) (hm : ((s[0].toNat : Int) == 45) = false) (hv : Rt.numF 0 s.data.toList = v) (v1 : -1 ≤ v) (v2 : v ≤ 4611686018427387904) (hs0 : 0 < s.size) (ht : (⟨(Rt.txtS v 1).toArray⟩ : ByteArray) = s) :
    Calls Tryd.prog 27 #[.string s] w fun e w' => e = .returned (.tuple #[.agg #[.int .i64 v, .int .i64 1], .int .i64 0]) ∧ Below w.heap.size w w' := by
  have hK := slash_no hix
  have HI := Lib.hid hix
  clear hix
  have HV := Lib.hid hv
  have g1 : s.toList ≠ [] := list_pos h0
  have g2 : s.toList.isEmpty = false := by simp [g1]
  have g3 : (s.toList == []) = false := by simp [g1]
  clear hv
  have HT := Lib.hid ht
  have s1 : s.toList ≠ [] := list_pos hs0
  have s2 : s.toList.isEmpty = false := by simp [s1]
  have s3 : (s.toList == []) = false := by simp [s1]
  clear ht
  have Z0 := RatAt.new w 0 0 23
  have T0 := hT.alloc (.cells #[.int .i64 0, .int .i64 0] 23)
  have L0 : Below w.heap.size w (w.alloc (.cells #[.int .i64 0, .int .i64 0] 23)) := (Below.refl _ _).alloc (Nat.le_refl _) _
  go_enter Tryd.func27, Tryd.ntmps27
  go_wp2_with fail
  go_loop [4, 5, 6] (fun x y i => ∃ k : Nat, k ≤ s.size ∧ x = .string s ∧ y = .int .i64 1 ∧ i = .int .i64 k) (fun _ _ i => s.size - (intOf i).toNat)
  case atStart => exact ⟨0, Nat.zero_le _, rfl, rfl, rfl⟩
  case round =>
    obtain ⟨k, hk, rfl, rfl, rfl⟩ := hrel
    by_cases hlt : k < s.size
    · have hg := hK k hlt
      clear hK
      go_wp2_with fail
      go_round
      case rel => exact ⟨k + 1, by omega, rfl, rfl, by go_num⟩
      case measure => simp [intOf]; omega
    · obtain rfl : k = s.size := by omega
      clear hK
      go_wp2_with fail
      refine (number_is (s := s) HV.out _ hz).mono ?_
      rintro e w' ⟨rfl, rfl⟩
      go_wp2_with fail
      refine (rtext_is HT.out _ (T0.alloc _) ⟨by omega, by omega⟩ ⟨by omega, by omega⟩).mono ?_
      rintro e w3 ⟨rfl, b3⟩
      have Z3 := RatAt.below (Z0.alloc (.cells #[.int .i64 v, .int .i64 1] 23)) b3
      have R3 := RatAt.below (RatAt.new1 w _ v 1 23) b3
      have L3 := bstep (L0.alloc L0.size _) b3
      have ⟨z0, z1, k0, k1⟩ := Z3
      have ⟨r0, r1, _, _⟩ := R3
      have hz3 := Z3.lt
      go_wp2_with fail
      exact bodyPost_ret (v := .tuple #[.agg #[.int .i64 v, .int .i64 1], .int .i64 0]) (by simp [results, Tryd.results27, go_sem, z0, z1]) rfl ⟨rfl, (L3.setCell (by simp <;> omega) _).setCell (by simp <;> omega) _⟩

end Go.Proofs.YtcannkndedlooaaDoor
