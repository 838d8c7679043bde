/- Both Parse give one answer for every text; both functions of each pair, together. -/
import Derived.Test.YtcannkndedlooaaDoorRatJ
namespace Go.Proofs.YtcannkndedlooaaDoor
open Go.RowKit
set_option linter.unusedVariables false

theorem num_cases (a : ByteArray) (hz : a.size ≤ 1000) :
    (a.toList = [] ∧ Rt.refNum a.data.toList = 0) ∨
    (∃ h0 : 0 < a.size, ((a[0].toNat : Int) == 45) = true ∧ ∃ v, Rt.numF 0 (a.extract 1 a.size).data.toList = v ∧ -1 ≤ v ∧ v ≤ 4611686018427387904 ∧ Rt.refNum a.data.toList = -v) ∨
    (∃ h0 : 0 < a.size, ((a[0].toNat : Int) == 45) = false ∧ ∃ v, Rt.numF 0 a.data.toList = v ∧ -1 ≤ v ∧ v ≤ 4611686018427387904 ∧ Rt.refNum a.data.toList = v) := by
  by_cases h0 : 0 < a.size
  · have hd := drop_cons a 0 h0
    simp only [List.drop_zero] at hd
    have hz' : a.data.toList.length = a.size := (Lib.size_eq a).symm
    have e1 : (a.extract 1 a.size).data.toList = a.data.toList.drop 1 := by
      rw [Lib.extract_data, List.take_of_length_le]
      rw [List.length_drop, hz']
      exact Nat.le_refl _
    by_cases h : a[0] = 45
    · have hm : Rt.minusB a.data.toList = true := by unfold Rt.minusB; rw [hd, h]; rfl
      have hb := Rt.numF_bd (a.data.toList.drop 1) 0 (by omega) (by omega)
      refine .inr (.inl ⟨h0, by rw [h]; rfl, _, rfl, ?_, ?_, ?_⟩)
      · rw [e1]; exact hb.1
      · rw [e1]; exact hb.2
      · unfold Rt.refNum
        rw [if_pos hm, e1]
        omega
    · have hm : ¬ Rt.minusB a.data.toList = true := by
        unfold Rt.minusB
        rw [hd]
        simpa using h
      have hb := Rt.numF_bd a.data.toList 0 (by omega) (by omega)
      refine .inr (.inr ⟨h0, ?_, _, rfl, hb.1, hb.2, ?_⟩)
      · simp only [beq_eq_false_iff_ne]
        intro h2
        have h3 : a[0].toNat = 45 := by omega
        exact h (UInt8.toNat_inj.1 h3)
      · unfold Rt.refNum
        rw [if_neg hm]
        omega
  · have hz' : a.data.toList.length = 0 := by rw [← Lib.size_eq]; omega
    have he : a.data.toList = [] := List.eq_nil_of_length_eq_zero hz'
    refine .inl ⟨by rw [Lib.toList_data, he], ?_⟩
    rw [he]
    rfl

theorem cut_at {s : ByteArray} {K : Nat} (h : Lib.indexByte s.data.toList 47 = K) : Rt.cutS s.data.toList = ((s.extract 0 K).data.toList, (s.extract (K + 1) s.size).data.toList, true) := by
  have hi : Lib.indexB s ⟨#[47]⟩ = K := (Lib.index_one _ _).trans h
  obtain ⟨e1, e2, e3⟩ := Lib.cutB_hit s ⟨#[47]⟩ K hi
  have hone : (⟨#[47]⟩ : ByteArray).size = 1 := rfl
  rw [hone] at e2
  have ec : Rt.cutS s.data.toList = Lib.cut s.data.toList (⟨#[47]⟩ : ByteArray).data.toList := rfl
  rw [ec]
  rw [← e1, ← e2, ← e3]
theorem cut_no {s : ByteArray} (h : Lib.indexByte s.data.toList 47 = -1) : Rt.cutS s.data.toList = (s.data.toList, [], false) := by
  have hi : Lib.index s.data.toList [47] = -1 := (Lib.index_one _ _).trans h
  unfold Rt.cutS Lib.cut
  rw [hi, if_neg (by omega)]
theorem extract_le (s : ByteArray) (a b : Nat) : (s.extract a b).size ≤ s.size := by
  simp
  omega

/-- The reference's Parse, where its text is not empty. -/
theorem rparse_go {n d : Int} (s t : ByteArray) (w : World) (hT : RatT w) (hz : s.size ≤ 1000) (hs : 0 < s.size) (hn : Rt.refNum (Rt.cutS s.data.toList).1 = n) (hd : Rt.refDen s.data.toList = d) (ht : (⟨(Rt.txtS n d).toArray⟩ : ByteArray) = t) :
    Calls Tryd.prog 27 #[.string s] w (Ret3 (if t = s then (n, d, 0) else (0, 0, 2)) w) := by
  by_cases hi : Lib.indexByte s.data.toList 47 = -1
  · have hc := cut_no hi
    rw [hc] at hn
    have hd' : d = 1 := by rw [← hd]; unfold Rt.refDen; rw [hc]; rfl
    subst hd'
    clear hd
    rcases num_cases s hz with ⟨h0, hv⟩ | ⟨h0, hm, v, hv, v1, v2, hv2⟩ | ⟨h0, hm, v, hv, v1, v2, hv2⟩
    · exact absurd h0 (list_pos hs)
    · have e : n = -v := by rw [← hn, hv2]
      subst e
      by_cases he : t = s
      · rw [if_pos he]; exact rq_m_ok s v w hT hz hi h0 hm hv v1 v2 hs (ht.trans he)
      · rw [if_neg he]; exact rq_m_ne s v t w hT hz hi h0 hm hv v1 v2 hs ht he
    · have e : n = v := by rw [← hn, hv2]
      subst e
      by_cases he : t = s
      · rw [if_pos he]; exact rq_p_ok s n w hT hz hi h0 hm hv v1 v2 hs (ht.trans he)
      · rw [if_neg he]; exact rq_p_ne s n t w hT hz hi h0 hm hv v1 v2 hs ht he
  · have hge := Lib.indexByte_ge s.data.toList 47
    obtain ⟨K, hK⟩ := Int.eq_ofNat_of_zero_le (show 0 ≤ Lib.indexByte s.data.toList 47 by omega)
    have hc := cut_at hK
    rw [hc] at hn
    have hd' : Rt.numF 0 (s.extract (K + 1) s.size).data.toList = d := by rw [← hd]; unfold Rt.refDen; rw [hc]; rfl
    have hdb := Rt.refDen_bd s.data.toList
    rw [hd] at hdb
    have za := Nat.le_trans (extract_le s 0 K) hz
    have zb := Nat.le_trans (extract_le s (K + 1) s.size) hz
    rcases num_cases (s.extract 0 K) za with ⟨h0, hv⟩ | ⟨h0, hm, v, hv, v1, v2, hv2⟩ | ⟨h0, hm, v, hv, v1, v2, hv2⟩
    · have e : n = 0 := by rw [← hn, hv]
      subst e
      by_cases he : t = s
      · rw [if_pos he]; exact rp_e_ok s _ _ K d w hT hz hK rfl rfl za zb hd' hdb.1 hdb.2 h0 hs (ht.trans he)
      · rw [if_neg he]; exact rp_e_ne s _ _ K d t w hT hz hK rfl rfl za zb hd' hdb.1 hdb.2 h0 hs ht he
    · have e : n = -v := by rw [← hn, hv2]
      subst e
      by_cases he : t = s
      · rw [if_pos he]; exact rp_m_ok s _ _ K v d w hT hz hK rfl rfl za zb hd' hdb.1 hdb.2 h0 hm hv v1 v2 hs (ht.trans he)
      · rw [if_neg he]; exact rp_m_ne s _ _ K v d t w hT hz hK rfl rfl za zb hd' hdb.1 hdb.2 h0 hm hv v1 v2 hs ht he
    · have e : n = v := by rw [← hn, hv2]
      subst e
      by_cases he : t = s
      · rw [if_pos he]; exact rp_p_ok s _ _ K n d w hT hz hK rfl rfl za zb hd' hdb.1 hdb.2 h0 hm hv v1 v2 hs (ht.trans he)
      · rw [if_neg he]; exact rp_p_ne s _ _ K n d t w hT hz hK rfl rfl za zb hd' hdb.1 hdb.2 h0 hm hv v1 v2 hs ht he

theorem rparse_yes {n d : Int} (s : ByteArray) (w : World) (hT : RatT w) (hz : s.size ≤ 1000) (h : Rt.IsTxt s.data.toList n d) :
    Calls Tryd.prog 27 #[.string s] w (Ret3 (n, d, 0) w) := by
  obtain ⟨hv, hl⟩ := h
  have hr := Rt.ref_txt hv
  rw [hl] at hr
  have ht : (⟨(Rt.txtS n d).toArray⟩ : ByteArray) = s := by rw [Rt.txtS_yes hv, hl]
  have hs : 0 < s.size := by
    rw [Lib.size_eq, ← hl]
    have := Rt.txt_ne n d
    cases hx : Rt.txt n d with
    | nil => exact absurd hx this
    | cons _ _ => simp
  have h := rparse_go s s w hT hz hs hr.1 hr.2 ht
  rw [if_pos rfl] at h
  exact h
theorem rparse_no (s : ByteArray) (w : World) (hT : RatT w) (hz : s.size ≤ 1000) (h : ∀ n d, ¬ Rt.IsTxt s.data.toList n d) :
    Calls Tryd.prog 27 #[.string s] w (Ret3 (0, 0, 2) w) := by
  by_cases hs : 0 < s.size
  · have h1 := rparse_go s _ w hT hz hs rfl rfl rfl
    rw [if_neg (fun e => h _ _ (Rt.txtS_eq (fun e2 => list_pos hs (by rw [Lib.toList_data, e2])) (by rw [← e])))] at h1
    exact h1
  · have he : s.data.toList = [] := List.eq_nil_of_length_eq_zero (by rw [← Lib.size_eq]; omega)
    exact rq_empty s w hT hz (by rw [he]; rfl) (by rw [Lib.toList_data, he])

/-- Both functions of a pair give one answer. -/
def Both (f g : FuncId) (args : Array Value) (r : Int × Int × Int) : Prop := (∀ w, RatT w → Calls Tryd.prog f args w (Ret3 r w)) ∧ (∀ w, RatT w → Calls Tryd.prog g args w (Ret3 r w))
theorem parse_both (s : ByteArray) (hz : s.size ≤ 1000) : ∃ r, Both 26 27 #[.string s] r := by
  by_cases h : ∃ n d, Rt.IsTxt s.data.toList n d
  · obtain ⟨n, d, h⟩ := h
    exact ⟨(n, d, 0), fun w hT => parse_yes s w hT hz h, fun w hT => rparse_yes s w hT hz h⟩
  · exact ⟨(0, 0, 2), fun w hT => parse_no s w hT hz (fun n d k => h ⟨n, d, k⟩), fun w hT => rparse_no s w hT hz (fun n d k => h ⟨n, d, k⟩)⟩
end Go.Proofs.YtcannkndedlooaaDoor
