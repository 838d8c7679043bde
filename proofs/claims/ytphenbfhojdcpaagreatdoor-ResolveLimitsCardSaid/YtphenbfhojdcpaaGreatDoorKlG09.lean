/- Package syntax: the lines of a text, statement, and Parse. Package syntax: months, weekdays, ordinals. Plain facts on building a configuration: what each statement adds, or its error. -/
import Derived.Test.YtphenbfhojdcpaaGreatDoorKlG08
import Derived.Test.YtphenbfhojdcpaaGreatDoorKlG00
namespace Go.Proofs.YtphenbfhojdcpaaGreatDoor
open Go.RowKit
set_option linter.unusedVariables false
set_option linter.unusedSimpArgs false
set_option maxRecDepth 100000
theorem gsplit10 (s : ByteArray) (N : Nat) (w : World) (hs : s.size ≤ 4000000000) (hN : N = min (s.data.toList.count 10 + 1) (s.size + 1)) :
    Calls Tryz.prog 83 #[.string s, .string ⟨#[10]⟩, .int .i64 ((0 : Nat) : Int), .int .i64 (-1)] w fun e w' =>
      e = .returned (.slice (some ⟨w.heap.size, 0, none⟩) (Lib.splitB ⟨#[10]⟩ 0 (N - 1) s).length N) ∧ w' = w.alloc (.cells (Lib.cellsOf (Lib.splitB ⟨#[10]⟩ 0 (N - 1) s) N) 9) := by
  have hc : Lib.countB s ⟨#[10]⟩ = s.data.toList.count 10 := Lib.count_one 10 s.data.toList
  refine Any.strings_genSplit_core Tryz.lays221 hi9 s ⟨#[10]⟩ 0 (-1) N w (by omega) (by rw [ba_one]; decide) (Nat.zero_le _)
    (fun x cs hx => index_is x 10 _) (count_is s 10 w) (by decide) (by decide) ?_
  rw [if_pos (by decide), hc, hN]
  omega
theorem words_of_parts {w : World} {b : Nat} {P : List ByteArray} {ws : List (List UInt8)} (h : PartsAt w b P) (e : P.map (·.data.toList) = ws) : WordsAt w b ws := fun k x hx => by
  rw [← e, List.getElem?_map] at hx
  cases hp : P[k]? with
  | none => rw [hp] at hx; cases hx
  | some y =>
    rw [hp] at hx
    cases hx
    rw [h k y hp, Lib.mk_data]
set_option maxHeartbeats 1000000 in
theorem split10 (s : ByteArray) (ws : List (List UInt8)) (w : World) (hs : s.size ≤ 4000000000) (hw : Sy.spl [] s.data.toList = ws) :
    Calls Tryz.prog 55 #[.string s, .string ⟨#[10]⟩] w fun e w' => (∃ N, e = .returned (.slice (some ⟨w.heap.size, 0, none⟩) ws.length N)) ∧ WordsAt w' w.heap.size ws ∧ w.heap.size < w'.heap.size ∧ Below w.heap.size w w' := by
  obtain ⟨N, hN⟩ : ∃ N, N = min (s.data.toList.count 10 + 1) (s.size + 1) := ⟨_, rfl⟩
  have C := Lib.hid (gsplit10 s N w hs hN)
  obtain ⟨P, hP⟩ : ∃ P, Lib.splitB ⟨#[10]⟩ 0 (N - 1) s = P := ⟨_, rfl⟩
  have e1 : P.map (·.data.toList) = ws := by
    rw [← hP, ← hw, Lib.splitB_data]
    exact Sy.spl_split _ _ (by rw [hN, Lib.size_eq])
  have e2 : P.length = ws.length := by rw [← e1, List.length_map]
  have hl : P.length ≤ N := by
    have := Lib.splitB_length_le ⟨#[10]⟩ 0 (N - 1) s
    rw [hP] at this
    omega
  have HP := Lib.hid hP
  have HE := Lib.hid (And.intro e1 (And.intro e2 hl))
  clear hP e1 e2 hl hw hN
  go_enter Tryz.func55, Tryz.ntmps55
  go_wp2_with fail
  refine C.out.mono ?_
  rw [HP.out, HE.out.2.1]
  rintro e w' ⟨rfl, rfl⟩
  go_wp2_with fail
  go_ret
  exact ⟨⟨N, rfl⟩, words_of_parts (parts_new _ _ _ HE.out.2.2) HE.out.1, by simp, (Below.refl _ _).alloc (Nat.le_refl _) _⟩
/-- What statement hands back. -/
def StmV (p : Int × List Lx.Tk) (w : World) (e : Ending) (w' : World) : Prop :=
  ∃ (A : Option Addr) (c : Nat), e = .returned (.tuple #[.slice A p.2.length c, .int .i64 p.1]) ∧ ListAt 3 eTok w' A p.2 ∧ p.2.length ≤ 600 ∧ p.2.length ≤ c ∧ (∀ ad, A = some ad → w.heap.size ≤ ad.block) ∧ Below w.heap.size w w'
theorem StmV.bad {w w' : World} {p : Int × List Lx.Tk} {n : Int} (h : p = (n, [])) (hb : Below w.heap.size w w') : StmV p w (.returned (.tuple #[.slice none 0 0, .int .i64 n])) w' := by
  subst h
  exact ⟨none, 0, rfl, ListAt.nil_, by simp, by simp, (fun ad e => by cases e), hb⟩
theorem StmV.good {w w' : World} {p : Int × List Lx.Tk} {ts : List Lx.Tk} {A : Option Addr} {n c : Nat} (h : p = (0, ts)) (hn : ts.length = n) (hl : ListAt 3 eTok w' A ts) (h6 : n ≤ 600) (hc : n ≤ c) (hf : ∀ ad, A = some ad → w.heap.size ≤ ad.block) (hb : Below w.heap.size w w') :
    StmV p w (.returned (.tuple #[.slice A n c, .int .i64 0])) w' := by
  subst h; subst hn
  exact ⟨A, c, rfl, hl, h6, hc, hf, hb⟩
set_option maxHeartbeats 4000000 in
theorem stm_is {s : ByteArray} {p : Int × List Lx.Tk} (h : Sy.stmS s.data.toList = p) (w : World) (hT : LexT w) (hs : s.size ≤ 4000000000) :
    Calls Tryz.prog 56 #[.string s] w (StmV p w) := by
  unfold Sy.stmS at h
  have hz := Lib.size_eq s
  by_cases h5 : 512 < s.size
  · rw [if_pos (by omega)] at h
    have C := Lib.hid (line_long s w h5)
    have HP := Lib.hid h.symm
    clear h hz h5
    go_enter Tryz.func56, Tryz.ntmps56
    go_wp2_with fail
    refine C.out.mono ?_
    rintro e w' ⟨rfl, rfl⟩
    go_wp2_with fail
    go_ret2
    exact StmV.bad HP.out (Below.refl _ _)
  · rw [if_neg (by omega)] at h
    have C := Lib.hid (line_any s w hT (by omega))
    clear hz h5
    obtain ⟨o, ho⟩ : ∃ o, Lx.lineS s.data.toList = o := ⟨_, rfl⟩
    rw [ho] at C h
    cases o with
    | none =>
      have HP := Lib.hid h.symm
      clear h ho
      go_enter Tryz.func56, Tryz.ntmps56
      go_wp2_with fail
      refine C.out.mono ?_
      rintro e w' (⟨_, rfl, hb⟩ | ⟨ts', A, c, hh, _⟩)
      · go_wp2_with fail
        go_ret2
        exact StmV.bad HP.out hb
      · cases hh
    | some ts =>
      simp only at h
      obtain ⟨n, hn⟩ : ∃ n, ts.length = n := ⟨_, rfl⟩
      have HN := Lib.hid hn
      by_cases h0 : ts = []
      · rw [if_neg (fun hh => hh.1 h0)] at h
        have HP := Lib.hid h.symm
        have hn0 : n = 0 := by rw [← hn, h0]; rfl
        subst hn0
        clear h ho hn
        go_enter Tryz.func56, Tryz.ntmps56
        go_wp2_with fail
        refine C.out.mono ?_
        rintro e w' (⟨hh, _⟩ | ⟨ts', A, c, hh, rfl, hl, h6, hb, hc, hf⟩)
        · cases hh
        · cases hh
          have HL := Lib.hid hl
          have HFF := Lib.hid hf
          rw [HN.out] at h6 hc ⊢
          clear hl hf
          go_wp2_with fail
          go_ret2
          exact StmV.good HP.out HN.out HL.out h6 hc HFF.out hb
      · have hpos : 0 < n := by
          rw [← hn]
          exact List.length_pos_iff.2 h0
        have hd : decide ((0 : Int) < n) = true := by simp; omega
        cases hr : Sy.formS ts with
        | false =>
          rw [if_pos ⟨h0, hr⟩] at h
          have HP := Lib.hid h.symm
          have HR := Lib.hid hr
          clear h ho hn hr
          go_enter Tryz.func56, Tryz.ntmps56
          go_wp2_with fail
          refine C.out.mono ?_
          rintro e w' (⟨hh, _⟩ | ⟨ts', A, c, hh, rfl, hl, h6, hb, hc, hf⟩)
          · cases hh
          · cases hh
            have HL := Lib.hid hl
            rw [HN.out] at h6 hc ⊢
            clear hl hf
            go_wp2_with fail
            refine (form_is HR.out A n c _ HL.out HN.out hc (by omega)).mono ?_
            rintro e w2 ⟨rfl, b2⟩
            have B2 := bstep hb b2
            go_wp2_with fail
            go_ret2
            exact StmV.bad HP.out B2
        | true =>
          rw [if_neg (fun hh => by rw [hr] at hh; cases hh.2)] at h
          have HP := Lib.hid h.symm
          have HR := Lib.hid hr
          clear h ho hn hr
          go_enter Tryz.func56, Tryz.ntmps56
          go_wp2_with fail
          refine C.out.mono ?_
          rintro e w' (⟨hh, _⟩ | ⟨ts', A, c, hh, rfl, hl, h6, hb, hc, hf⟩)
          · cases hh
          · cases hh
            have HL := Lib.hid hl
            have HFF := Lib.hid hf
            rw [HN.out] at h6 hc ⊢
            clear hl hf
            go_wp2_with fail
            refine (form_is HR.out A n c _ HL.out HN.out hc (by omega)).mono ?_
            rintro e w2 ⟨rfl, b2⟩
            have B2 := bstep hb b2
            have L2 := Lib.hid (HL.out.below b2)
            go_wp2_with fail
            go_ret2
            exact StmV.good HP.out HN.out L2.out h6 hc HFF.out B2
theorem StmIs.grown {w w' : World} {x : Raw} {s : Sy.St} {row : Option Nat} (h : StmIs w x s) (hg : w.grownBy w' row) (hr : ∀ ad, x.2.1 = some ad → some ad.block ≠ row) : StmIs w' x s := ⟨h.line, h.len, h.cap, h.small, h.toks.grown hg hr⟩
theorem OwnS.push {w w9 : World} {B : Nat} {v : Value} {xs : List Raw} {ss : List Sy.St} {y : Raw} {s : Sy.St} {g cap : Nat} (hs : Stms w xs ss) (hf : ∀ x ∈ xs, ∀ ad, x.2.1 = some ad → some ad.block ≠ v.ownBlock ∧ ad.block < w.heap.size)
    (hy : StmIs w y s) (hyf : ∀ ad, y.2.1 = some ad → some ad.block ≠ v.ownBlock ∧ ad.block < w.heap.size) (hO : OwnL 108 2 eStm w9 B (.slice (some ⟨g, 0, none⟩) (xs.length + 1) cap) (xs ++ [y]))
    (hg : w.grownBy w9 v.ownBlock) (hgo : v.ownBlock = some g ∨ g = w.heap.size) : OwnS w9 B (.slice (some ⟨g, 0, none⟩) (xs.length + 1) cap) (ss ++ [s]) := by
  have hs9 : Stms w9 xs ss := ⟨hs.1, fun k x t hx ht => (hs.2 k x t hx ht).grown hg (fun ad e => (hf x (List.mem_of_getElem? hx) ad e).1)⟩
  refine ⟨_, hO, hs9.snoc (hy.grown hg (fun ad e => (hyf ad e).1)), fun x hx ad e => ?_⟩
  have key : some ad.block ≠ v.ownBlock ∧ ad.block < w.heap.size := by
    simp only [List.mem_append, List.mem_singleton] at hx
    rcases hx with hx | rfl
    · exact hf x hx ad e
    · exact hyf ad e
  refine ⟨?_, Nat.lt_of_lt_of_le key.2 hg.size⟩
  show some ad.block ≠ some g
  rcases hgo with hgo | rfl
  · rw [← hgo]; exact key.1
  · intro hh
    injection hh with hh
    have := key.2
    omega
/-- What Parse hands back. -/
def ParseV (R : Int × Int × List Sy.St) (w : World) (e : Ending) (w' : World) : Prop :=
  ∃ (A : Option Addr) (c : Nat), e = .returned (.tuple #[.slice A R.2.2.length c, .int .i64 R.2.1, .int .i64 R.1]) ∧ StmsAt w' A R.2.2 ∧ R.2.2.length ≤ c ∧ Below w.heap.size w w'
theorem ParseV.bad {w w' : World} {R : Int × Int × List Sy.St} {e l : Int} (h : R = (e, l, [])) (hb : Below w.heap.size w w') : ParseV R w (.returned (.tuple #[.slice none 0 0, .int .i64 l, .int .i64 e])) w' := by
  subst h
  exact ⟨none, 0, rfl, StmsAt.nil_, by simp, hb⟩
theorem ParseV.good {w w' : World} {R : Int × Int × List Sy.St} {ss : List Sy.St} {A : Option Addr} {n c : Nat} (h : R = (0, 0, ss)) (hn : ss.length = n) (hl : StmsAt w' A ss) (hc : n ≤ c) (hb : Below w.heap.size w w') :
    ParseV R w (.returned (.tuple #[.slice A n c, .int .i64 0, .int .i64 0])) w' := by
  subst h; subst hn
  exact ⟨A, c, rfl, hl, hc, hb⟩
theorem stm_err (x : List UInt8) : (Sy.stmS x).1 = 0 ∨ (Sy.stmS x).1 = 2 ∨ (Sy.stmS x).1 = 5 := by
  unfold Sy.stmS
  split
  · simp
  · split
    · simp
    · split <;> simp
theorem stm_cells {w : World} (x : Int) (A : Option Addr) (n c : Nat) : ∀ j, j < 2 → (w.alloc (.cells #[.int .i64 x, .slice A n c] 108)).cell? ⟨w.heap.size, j, none⟩ = some (eStm (x, A, n, c) j) := by
  have W := BlkAt.new w #[.int .i64 x, .slice A n c] 108
  intro j hj
  have : j = 0 ∨ j = 1 := by omega
  rcases this with rfl | rfl
  · exact W.cell rfl
  · exact W.cell rfl
set_option maxHeartbeats 8000000 in
theorem parse_is {s : ByteArray} {R : Int × Int × List Sy.St} (h : Sy.parS 0 (Sy.spl [] s.data.toList) = R) (hs : s.size ≤ 65536) (w : World) (hT : LexT w) :
    Calls Tryz.prog 25 #[.string s] w (ParseV R w) := by
  have h65 : decide ((65536 : Int) < s.size) = false := by simp; omega
  obtain ⟨ws, hws⟩ : ∃ ws, Sy.spl [] s.data.toList = ws := ⟨_, rfl⟩
  rw [hws] at h
  have hbd := Sy.spl_bd s.data.toList []
  rw [hws, ← Lib.size_eq] at hbd
  obtain ⟨n, hn⟩ : ∃ n, ws.length = n := ⟨_, rfl⟩
  have hn2 : n ≤ 70000 := by omega
  have HN := Lib.hid hn
  have HX := Lib.hid (show ∀ x ∈ ws, x.length ≤ 70000 from fun x hx => by have := hbd.1 x hx; simp at this; omega)
  have HR0 : Hid (Sy.comb [] (Sy.parS 0 (ws.drop 0)) = R) := Lib.hid (by rw [Sy.comb_nil]; exact h)
  have C := Lib.hid (split10 s ws w (by omega) hws)
  have HT := Lib.hid hT
  clear hbd hn h hws hT
  go_enter Tryz.func25, Tryz.ntmps25
  go_wp2_with fail
  refine C.out.mono ?_
  rw [HN.out]
  rintro e w2 ⟨⟨N, rfl⟩, hwa, hlt, b2⟩
  have HW := Lib.hid hwa
  have HB2 := Lib.hid b2
  have T2 := Lib.hid (HT.out.below b2)
  clear hwa b2 C
  go_wp2_with fail
  go_loopw [2, 15] (fun v i wr => ∃ (k : Nat) (acc : List Sy.St) (vl : Value), k ≤ n ∧ i = .int .i64 k ∧ vl = v ∧ acc.length ≤ k ∧ Hid (OwnS wr w2.heap.size vl acc) ∧ Hid (Sy.comb acc (Sy.parS k (ws.drop k)) = R) ∧ Hid (Below w2.heap.size w2 wr)) (fun _ i _ => n - (intOf i).toNat)
  case atStart => exact ⟨0, [], _, Nat.zero_le _, rfl, rfl, Nat.le_refl _, Lib.hid (OwnS.nil_ _ _), HR0, Lib.hid (Below.refl _ _)⟩
  case round =>
    clear HR0
    obtain ⟨k, acc, vl, hk, rfl, rfl, hacc, HO, HR, HB⟩ := hrel
    by_cases hltk : k < n
    · obtain ⟨x, hx⟩ := get_ex (xs := ws) (i := k) (by rw [HN.out]; exact hltk)
      have c0 : wr.cell? ⟨w.heap.size, k, none⟩ = some (.string ⟨x.toArray⟩) := cell_lift (HW.out k x hx) HB.out
      have hxz : (⟨x.toArray⟩ : ByteArray).size ≤ 4000000000 := by
        rw [ba_size]
        have := HX.out x (List.mem_of_getElem? hx)
        omega
      have hst := HR.out
      rw [drop_cons' hx] at hst
      have HS := Lib.hid hst
      obtain ⟨⟨er, ts⟩, hp⟩ : ∃ p, Sy.stmS x = p := ⟨_, rfl⟩
      have HP := Lib.hid hp
      have her := stm_err x
      rw [hp] at her
      simp only at her
      have T3 := Lib.hid (T2.out.below HB.out)
      have C3 := Lib.hid (stm_is (s := ⟨x.toArray⟩) HP.out wr T3.out hxz)
      have hrz := HB.out.size
      have i1 : ((k : Int) + 1) ≤ 9223372036854775807 := by omega
      clear hst HR hx hp
      by_cases he : er = 0
      · subst he
        clear her
        by_cases hne : ts = []
        · subst hne
          have N1 := Lib.hid (show Sy.comb acc (Sy.parS (k + 1) (ws.drop (k + 1))) = R by rw [← HS.out, Sy.comb_none HP.out])
          go_wp2_with fail
          refine C3.out.mono ?_
          rintro e w4 ⟨A, c, rfl, hl, h6, hc, hf, b4⟩
          have O4 := Lib.hid (HO.out.below b4)
          have HB4 := Lib.hid (bstep HB.out b4)
          clear hl hf b4 C3
          go_wp2_with fail
          go_roundw
          case rel => exact ⟨k + 1, acc, _, by omega, by go_num, rfl, by omega, O4, N1, HB4⟩
          case measure => simp [intOf]; omega
        · have N1 := Lib.hid (show Sy.comb (acc ++ [((k : Int) + 1, ts)]) (Sy.parS (k + 1) (ws.drop (k + 1))) = R by rw [← HS.out, Sy.comb_some HP.out hne])
          obtain ⟨m, hm⟩ : ∃ m, ts.length = m := ⟨_, rfl⟩
          have hm0 : 0 < m := by rw [← hm]; exact List.length_pos_iff.2 hne
          have hmd : decide ((0 : Int) < m) = true := by simp; omega
          have HM := Lib.hid hm
          clear hm
          go_wp2_with fail
          refine C3.out.mono ?_
          rintro e w4 ⟨A, c, rfl, hl, h6, hc, hf, b4⟩
          simp only at hl h6 hc ⊢
          rw [HM.out] at h6 hc ⊢
          obtain ⟨xs, hO, hS, hF⟩ := HO.out.below b4
          have hown := HO.out.own
          have hz4 := b4.size
          have HOa := Lib.hid (hO.alloc (.cells #[.int .i64 ((k : Int) + 1), .slice A m c] 108))
          have hxl : xs.length ≤ 900000 := by have := hS.1; omega
          have BA := (Below.refl _ w4).alloc (Nat.le_refl _) (.cells #[.int .i64 ((k : Int) + 1), .slice A m c] 108)
          have hYS : StmIs (w4.alloc (.cells #[.int .i64 ((k : Int) + 1), .slice A m c] 108)) ((k : Int) + 1, A, m, c) ((k : Int) + 1, ts) := ⟨rfl, HM.out.symm, hc, by rw [HM.out]; exact h6, hl.below BA⟩
          have hYF : ∀ ad, A = some ad → some ad.block ≠ vl.ownBlock ∧ ad.block < (w4.alloc (.cells #[.int .i64 ((k : Int) + 1), .slice A m c] 108)).heap.size := fun ad ea => by
            refine ⟨fun hh => ?_, ?_⟩
            · have h1 := hown _ hh.symm
              have h2 := hf ad ea
              omega
            · obtain ⟨b, off, e2, hlt2, _⟩ := hl (by rw [HM.out]; exact hm0)
              rw [ea] at e2
              cases e2
              exact Nat.lt_of_lt_of_le hlt2 BA.size
          have HPUSH := Lib.hid (fun (w9 : World) (g cap : Nat) (hO9 : OwnL 108 2 eStm w9 w2.heap.size (.slice (some ⟨g, 0, none⟩) (xs.length + 1) cap) (xs ++ [((k : Int) + 1, A, m, c)])) (hg9 : (w4.alloc (.cells #[.int .i64 ((k : Int) + 1), .slice A m c] 108)).grownBy w9 vl.ownBlock) (hgo : vl.ownBlock = some g ∨ g = (w4.alloc (.cells #[.int .i64 ((k : Int) + 1), .slice A m c] 108)).heap.size) =>
            OwnS.push (hS.below BA) (fun x hx ad ea => ⟨(hF x hx ad ea).1, Nat.lt_of_lt_of_le (hF x hx ad ea).2 BA.size⟩) hYS hYF hO9 hg9 hgo)
          have KC := Lib.hid (stm_cells (w := w4) ((k : Int) + 1) A m c)
          have HB4 := Lib.hid (bstep HB.out b4)
          have HXL := Lib.hid hS.1
          clear hl hf b4 C3 hO hS hF hown hYS hYF BA
          go_wp2_with (at_builtin; refine wp_append_one kStm _ rfl _ _ rfl w2.heap.size _ xs rfl HOa.out w4.heap.size ((k : Int) + 1, A, m, c) rfl KC.out hxl (by simp; omega) ?_; intro gg cap w9 hO9 hB9 hg9 hgo9 _)
          have HO9 := Lib.hid (HPUSH.out _ _ _ hO9 hg9 hgo9)
          have HB9 := Lib.hid ((HB4.out.alloc (by omega) _).trans hB9)
          clear hO9 hB9 hg9 hgo9 HPUSH HOa KC
          go_wp2_with fail
          go_roundw
          case rel => exact ⟨k + 1, acc ++ [((k : Int) + 1, ts)], _, by omega, by go_num, rfl, by simp; omega, HO9, N1, HB9⟩
          case measure => simp [intOf]; omega
      · have N1 := Lib.hid (show R = (er, (k : Int) + 1, []) by rw [← HS.out, Sy.comb_bad HP.out he])
        have he1 : (er != 0) = true := by simpa using he
        go_wp2_with fail
        refine C3.out.mono ?_
        rintro e w4 ⟨A, c, rfl, hl, h6, hc, hf, b4⟩
        have B4 := bstep HB2.out (bstep HB.out b4)
        clear hl hf b4 C3
        go_wp2_with fail
        go_ret3
        exact ParseV.bad N1.out B4
    · have hkn : k = n := by omega
      have N1 := Lib.hid (show R = (0, 0, acc) by
        rw [← HR.out, List.drop_of_length_le (by rw [HN.out]; omega)]
        unfold Sy.comb
        simp [Sy.parS])
      obtain ⟨A, c, rfl, hac, hl⟩ := HO.out.shape
      have HL := Lib.hid hl
      have B4 := bstep HB2.out HB.out
      clear hl HO HR
      obtain ⟨m, hm⟩ : ∃ m, acc.length = m := ⟨_, rfl⟩
      have HM := Lib.hid hm
      rw [hm] at hac ⊢
      clear hm hacc
      go_wp2_with fail
      go_ret3
      exact ParseV.good N1.out HM.out HL.out hac B4
end Go.Proofs.YtphenbfhojdcpaaGreatDoor
set_option maxRecDepth 100000
namespace Sy
open Go Go.Lib Go.Proofs.YtphenbfhojdcpaaGreatDoor Lx
/-- The place of a word, from k on; -1 where it is not. -/
def idxS (x : List UInt8) : List (List UInt8) → Nat → Int
  | [], _ => -1
  | y :: r, k => if x = y then (k : Int) else idxS x r (k + 1)
theorem idx_bd (x : List UInt8) : ∀ (l : List (List UInt8)) (k : Nat), idxS x l k = -1 ∨ ((k : Int) ≤ idxS x l k ∧ idxS x l k < k + l.length)
  | [], k => .inl rfl
  | y :: r, k => by
    rw [idxS]
    by_cases h : x = y
    · rw [if_pos h]; right; simp; omega
    · rw [if_neg h]
      rcases idx_bd x r (k + 1) with e | ⟨a, c⟩
      · exact .inl e
      · right; simp at a c ⊢; omega
def posS (x : List UInt8) (l : List (List UInt8)) (first : Int) : Int × Bool := if idxS x l 0 < 0 then (0, false) else (first + idxS x l 0, true)
def monthsL : List (List UInt8) := [[106, 97, 110], [102, 101, 98], [109, 97, 114], [97, 112, 114], [109, 97, 121], [106, 117, 110], [106, 117, 108], [97, 117, 103], [115, 101, 112], [111, 99, 116], [110, 111, 118], [100, 101, 99]]
def daysL : List (List UInt8) := [[109, 111, 110], [116, 117, 101], [119, 101, 100], [116, 104, 117], [102, 114, 105], [115, 97, 116], [115, 117, 110]]
def ordsL : List (List UInt8) := [[102, 105, 114, 115, 116], [115, 101, 99, 111, 110, 100], [116, 104, 105, 114, 100], [102, 111, 117, 114, 116, 104], [108, 97, 115, 116]]
end Sy
namespace Go.Proofs.YtphenbfhojdcpaaGreatDoor
open Go.RowKit
set_option linter.unusedVariables false
set_option linter.unusedSimpArgs false
theorem WordsAt.below {w w' : World} {b : Nat} {ws : List (List UInt8)} (h : WordsAt w b ws) (hb : Below w.heap.size w w') : WordsAt w' b ws := fun k x hx => cell_lift (h k x hx) hb
end Go.Proofs.YtphenbfhojdcpaaGreatDoor
namespace Go.Proofs.YtphenbfhojdcpaaGreatDoor
set_option linter.unusedSimpArgs false
set_option linter.unusedVariables false
namespace Rs
def tx (l : List Lx.Tk) (i : Nat) : Nm := (l.getD i (0, [], 0)).2.1
def nm (l : List Lx.Tk) (i : Nat) : Int := (l.getD i (0, [], 0)).2.2
def near (n : Int) : Int := min (max n (-1209600)) 1209600
def hrs (n : Int) : Int := near n * 3600
def dayP (x : Nm) : Int × Bool := Sy.posS x Sy.daysL 0
def winS (l : List Lx.Tk) : (Int × Int) × Bool := (((dayP (tx l 0)).1 * 86400 + near (nm l 1), (dayP (tx l 2)).1 * 86400 + near (nm l 3)), (dayP (tx l 0)).2 && (dayP (tx l 2)).2)
def hoursW : Nm := [104, 111, 117, 114, 115]
def daysW : Nm := [100, 97, 121, 115]
def weeksW : Nm := [119, 101, 101, 107, 115]
def weekW : Nm := [119, 101, 101, 107]
def restW : Nm := [114, 101, 115, 116]
def unitS (x : Nm) : Int × Bool := if x = hoursW then (0, true) else if x = daysW then (1, true) else if x = weeksW then (2, true) else (0, false)
def lastOf {α : Type} (l : List α) : Option α := l[l.length - 1]?
def setLast {α : Type} (l : List α) (x : α) : List α := l.set (l.length - 1) x
def Cfg.zn (C : Cfg) : List Nm := C.zones.map (·.name)
def Cfg.pn (C : Cfg) : List Nm := C.people.map (·.name)
def Cfg.cn (C : Cfg) : List Nm := C.cals.map (·.name)
def addZone (C : Cfg) (l : List Lx.Tk) : Int × Cfg := (0, { C with zones := C.zones ++ [⟨tx l 0, nm l 1, []⟩] })
def ruleT (l : List Lx.Tk) : Zn.Rule := ⟨nm l 0, nm l 1, (Sy.posS (tx l 2) Sy.monthsL 1).1, (Sy.posS (tx l 3) Sy.ordsL 1).1, (dayP (tx l 4)).1, nm l 5, nm l 6⟩
def addRule (C : Cfg) (l : List Lx.Tk) : Int × Cfg :=
  if (Sy.posS (tx l 2) Sy.monthsL 1).2 = false ∨ (Sy.posS (tx l 3) Sy.ordsL 1).2 = false ∨ (dayP (tx l 4)).2 = false then (2, C) else match lastOf C.zones with
    | none => (9, C)
    | some z => (0, { C with zones := setLast C.zones { z with rules := z.rules ++ [ruleT l] } })
def optS : List Lx.Tk → Pers → Pers
  | [], p => p
  | [_], p => { p with cons := true }
  | t :: u :: r, p => if t.2.1 = weekW then optS r { p with maxw := hrs u.2.2 } else if t.2.1 = restW then optS r { p with minr := hrs u.2.2 } else optS (u :: r) { p with cons := true }
def optOk : List Lx.Tk → Prop
  | [] => True
  | [t] => t.2.1 ≠ weekW ∧ t.2.1 ≠ restW
  | t :: u :: r => if t.2.1 = weekW ∨ t.2.1 = restW then optOk r else optOk (u :: r)
def addPerson (C : Cfg) (l : List Lx.Tk) : Int × Cfg := if (findS C.zn (tx l 1)).2 = false then (3, C) else (0, { C with people := C.people ++ [optS (l.drop 2) ⟨tx l 0, (findS C.zn (tx l 1)).1, [], 0, 0, false⟩] })
def addQuiet (C : Cfg) (l : List Lx.Tk) : Int × Cfg := if (winS l).2 = false then (2, C) else match lastOf C.people with
  | none => (9, C)
  | some p => (0, { C with people := setLast C.people { p with quiet := p.quiet ++ [(winS l).1] } })
def addCal (C : Cfg) (l : List Lx.Tk) : Int × Cfg := if (findS C.zn (tx l 1)).2 = false then (3, C) else (0, { C with cals := C.cals ++ [⟨tx l 0, (findS C.zn (tx l 1)).1, []⟩] })
def addDays (C : Cfg) (l : List Lx.Tk) : Int × Cfg := match lastOf C.cals with
  | none => (9, C)
  | some x => (0, { C with cals := setLast C.cals { x with days := x.days ++ l.map (·.2.2) } })
def addSch (C : Cfg) (l : List Lx.Tk) : Int × Cfg := (0, { C with scheds := C.scheds ++ [⟨tx l 0, [], []⟩] })
def setSch (C : Cfg) (s : Sch) : Cfg := { C with scheds := setLast C.scheds s }
def addLay (C : Cfg) (l : List Lx.Tk) : Int × Cfg := if (unitS (tx l 5)).2 = false then (2, C) else match lastOf C.scheds with
  | none => (9, C)
  | some s => if (findS C.zn (tx l 1)).2 = false then (3, C) else
    (0, setSch C { s with lays := s.lays ++ [⟨tx l 0, (findS C.zn (tx l 1)).1, nm l 2, nm l 3, (unitS (tx l 5)).1, nm l 4, [], [], 0, 0⟩] })
/-- The last layer of the last schedule. -/
def lastLay (C : Cfg) : Option (Sch × Lay) := match lastOf C.scheds with
  | none => none
  | some s => match lastOf s.lays with
    | none => none
    | some l => some (s, l)
def setLay (C : Cfg) (s : Sch) (l : Lay) : Cfg := setSch C { s with lays := setLast s.lays l }
def memS (ns : List Nm) : List Lx.Tk → Option (List Int)
  | [] => some []
  | t :: r => if (findS ns t.2.1).2 = false then none else match memS ns r with
    | none => none
    | some m => some ((findS ns t.2.1).1 :: m)
def addMem (C : Cfg) (l : List Lx.Tk) : Int × Cfg := match lastLay C with
  | none => (9, C)
  | some (s, y) => match memS C.pn l with
    | none => (3, C)
    | some m => (0, setLay C s { y with mem := y.mem ++ m })
def addWin (C : Cfg) (l : List Lx.Tk) : Int × Cfg := if (winS l).2 = false then (2, C) else match lastLay C with
  | none => (9, C)
  | some (s, y) => (0, setLay C s { y with wins := y.wins ++ [(winS l).1] })
def useCal (mode : Int) (C : Cfg) (l : List Lx.Tk) : Int × Cfg := match lastLay C with
  | none => (9, C)
  | some (s, y) => if y.mode ≠ 0 then (9, C) else if (findS C.cn (tx l 0)).2 = false then (3, C) else (0, setLay C s { y with mode := mode, cal := (findS C.cn (tx l 0)).1 })
def whoS (kind : Int) (ns : List Nm) (x : Nm) : Int × Bool := if kind = 1 ∧ x = nobodyW then (-1, true) else findS ns x
def addEdit (kind : Int) (C : Cfg) (l : List Lx.Tk) : Int × Cfg := match lastOf C.scheds with
  | none => (9, C)
  | some s => if (whoS kind C.pn (tx l 0)).2 = false then (3, C) else if l.length = 4 then
      (if (whoS kind C.pn (tx l 1)).2 = false then (3, C) else (0, setSch C { s with edits := s.edits ++ [⟨kind, (whoS kind C.pn (tx l 0)).1, (whoS kind C.pn (tx l 1)).1, nm l 2, nm l 3⟩] }))
    else (0, setSch C { s with edits := s.edits ++ [⟨kind, (whoS kind C.pn (tx l 0)).1, 0, nm l 1, nm l 2⟩] })
/-- What a statement adds. -/
def stepS (C : Cfg) : List Lx.Tk → Int × Cfg
  | [] => (2, C)
  | t :: l =>
    if t.2.1 = [122, 111, 110, 101] then addZone C l else if t.2.1 = [114, 117, 108, 101] then addRule C l else if t.2.1 = [112, 101, 114, 115, 111, 110] then addPerson C l
    else if t.2.1 = [113, 117, 105, 101, 116] then addQuiet C l else if t.2.1 = [99, 97, 108, 101, 110, 100, 97, 114] then addCal C l else if t.2.1 = [100, 97, 121, 115] then addDays C l
    else if t.2.1 = [115, 99, 104, 101, 100, 117, 108, 101] then addSch C l else if t.2.1 = [108, 97, 121, 101, 114] then addLay C l else if t.2.1 = [109, 101, 109, 98, 101, 114] then addMem C l
    else if t.2.1 = [111, 110] then addWin C l else if t.2.1 = [110, 111, 116] then useCal 1 C l else if t.2.1 = [111, 110, 108, 121] then useCal 2 C l
    else if t.2.1 = [108, 101, 97, 118, 101] then addEdit 0 C l else if t.2.1 = [111, 118, 101, 114, 114, 105, 100, 101] then addEdit 1 C l else addEdit 2 C l
/-- The error, the line, and the configuration of statements. -/
def buildS : Cfg → List Sy.St → Int × Int × Cfg
  | C, [] => if chkS C = 0 then (0, 0, C) else (chkS C, 0, noCfg)
  | C, s :: r => if Sy.formS s.2 = false then (2, s.1, noCfg) else if (stepS C s.2).1 ≠ 0 then ((stepS C s.2).1, s.1, noCfg) else buildS (stepS C s.2).2 r
def loadS (x : List UInt8) : Int × Int × Cfg := if (Sy.parS 0 (Sy.spl [] x)).1 = 0 then buildS noCfg (Sy.parS 0 (Sy.spl [] x)).2.2 else ((Sy.parS 0 (Sy.spl [] x)).1, (Sy.parS 0 (Sy.spl [] x)).2.1, noCfg)
theorem form_fit : ∀ (fs : List Sy.Fm) (t : Lx.Tk) (r : List Lx.Tk), Sy.goS fs (t :: r) = true → ∃ f ∈ fs, t.2.1 = f.1 ∧ f.2.length ≤ r.length ∧ Sy.mayEnd f.1 (r.drop f.2.length) = true
  | [], t, r, h => by cases h
  | f :: fs, t, r, h => by
    cases hc : Sy.cutS f (t :: r) with
    | none =>
      rw [Sy.go_none hc] at h
      obtain ⟨g, hg, h1⟩ := form_fit fs t r h
      exact ⟨g, by simp [hg], h1⟩
    | some o =>
      rw [Sy.go_some hc] at h
      rw [Sy.cut_cons] at hc
      split at hc
      · rename_i hh
        cases hc
        exact ⟨f, by simp, hh.2.2.1, hh.1, h⟩
      · cases hc
end Rs
end Go.Proofs.YtphenbfhojdcpaaGreatDoor
