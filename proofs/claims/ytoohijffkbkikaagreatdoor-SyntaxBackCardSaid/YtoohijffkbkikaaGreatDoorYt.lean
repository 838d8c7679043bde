/- Package syntax: the line of a statement, and Text, where all tokens have words. -/
import Derived.Test.YtoohijffkbkikaaGreatDoorYs
import Derived.Test.YtoohijffkbkikaaGreatDoorYc
namespace Go.Proofs.YtoohijffkbkikaaGreatDoor
open Go.RowKit
set_option linter.unusedVariables false
set_option linter.unusedSimpArgs false
set_option maxRecDepth 100000

theorem ltext_is {t : Lx.Tk} {s : List UInt8} (h : TextIs t s) (w : World) (hT : LexT w) :
    Calls Tryz.prog 52 #[.agg #[.int .i64 t.1, .string ⟨t.2.1.toArray⟩, .int .i64 t.2.2]] w fun e w' => e = .returned (.tuple #[.string ⟨s.toArray⟩, .int .i64 0]) ∧ Below w.heap.size w w' :=
  text_yes (t := ⟨t.2.1.toArray⟩) (Lib.hid h.spell) (Lib.hid h.back) w hT h.iK h.lo h.hi (by have := (Lx.okW_facts h.ok).2.1; omega)
def strs (ws : List (List UInt8)) : List ByteArray := ws.map fun x => ⟨x.toArray⟩
theorem strs_data (ws : List (List UInt8)) : (strs ws).map (·.data.toList) = ws := by
  unfold strs
  rw [List.map_map]
  have : ((fun x : ByteArray => x.data.toList) ∘ fun x : List UInt8 => (⟨x.toArray⟩ : ByteArray)) = id := by funext x; rfl
  rw [this, List.map_id]
theorem strs_take (ws : List (List UInt8)) (k : Nat) : strs (ws.take k) = (strs ws).take k := by unfold strs; rw [List.map_take]
theorem strs_len (ws : List (List UInt8)) : (strs ws).length = ws.length := by simp [strs]
theorem strs_get {ws : List (List UInt8)} {k : Nat} {x : List UInt8} (h : ws[k]? = some x) : (strs ws)[k]? = some ⟨x.toArray⟩ := by unfold strs; rw [List.getElem?_map, h]; rfl
theorem make_strs (n : Nat) (hn : n ≤ 1000000) (w : World) : (Instr.makeSlice 42 (.int .i64 (n : Int)) (.int .i64 (n : Int))).run Tryz.prog w = .ok (.slice (some ⟨w.heap.size, 0, none⟩) n n) (w.alloc (.cells (Lib.cellsOf [] n) 9)) := by
  rw [Lib.cellsOf_nil]
  exact run_make_row' 42 9 (.string ByteArray.empty) 16 Tryz.underlying42 hi9 rfl .i64 .i64 n (by omega) (by omega) w

set_option maxHeartbeats 8000000 in
theorem lineText_is {ts : List Lx.Tk} {ws : List (List UInt8)} (hF : Sy.formS ts = true) (hW : TextsAre ts ws) (hz : (Lib.join ws [32]).length ≤ 512) (A : Option Addr) (n c : Nat) (w : World) (hT : LexT w) (hA : ListAt 3 eTok w A ts) (hn : ts.length = n) (hc : n ≤ c) (hs : n ≤ 1000) :
    Calls Tryz.prog 31 #[.slice A n c] w fun e w' => e = .returned (.tuple #[.string ⟨(Lib.join ws [32]).toArray⟩, .int .i64 0]) ∧ Below w.heap.size w w' := by
  have HF := Lib.hid hF
  have HWS := Lib.hid hW
  have HA := Lib.hid hA
  have HN := Lib.hid hn
  have HM := Lib.hid (show ws.length = n by rw [← hW.1]; exact hn)
  have HT := Lib.hid hT
  have MK := fun w => make_strs n (by omega) w
  obtain ⟨J, hJ⟩ : ∃ J, (Lib.join ws [32]) = J := ⟨_, rfl⟩
  rw [hJ] at hz ⊢
  have HJ := Lib.hid hJ
  have hjz := ba_size J
  have hj5 : decide ((512 : Int) < J.length) = false := by simp; omega
  clear hF hW hA hn hT hJ
  go_enter Tryz.func31, Tryz.ntmps31
  go_wp2_with fail
  refine (form_is HF.out A n c _ HA.out HN.out hc hs).mono ?_
  rintro e w2 ⟨rfl, b2⟩
  have HB2 := Lib.hid b2
  have hz2 := b2.size
  clear b2
  go_wp2_with fail
  go_loopw [18] (fun i wr => ∃ (k : Nat), k ≤ n ∧ i = .int .i64 k ∧ Hid (BlkAt wr w2.heap.size (Lib.cellsOf ((strs ws).take k) n) 9) ∧ Hid (Below w.heap.size w wr)) (fun i _ => n - (intOf i).toNat)
  case atStart => exact ⟨0, Nat.zero_le _, rfl, Lib.hid (by rw [List.take_zero]; exact BlkAt.new w2 _ _), Lib.hid (HB2.out.alloc hz2 _)⟩
  case round =>
    obtain ⟨k, hk, rfl, HK, HB⟩ := hrel
    clear MK
    by_cases hlt : k < n
    · obtain ⟨⟨yk, yt, yn⟩, hy⟩ := get_ex (xs := ts) (i := k) (by rw [HN.out]; exact hlt)
      obtain ⟨x, hx⟩ := get_ex (xs := ws) (i := k) (by rw [HM.out]; exact hlt)
      obtain ⟨b, off, rfl, c0, c1, c2⟩ := tok_elem (HA.out.below HB.out) hy
      simp only at c0 c1 c2
      have hti := HWS.out.2 k _ x hy hx
      have hrz := HB.out.size
      have hwr : w2.heap.size < wr.heap.size := HK.out.lt_
      have HTI := Lib.hid hti
      have HX := Lib.hid (strs_get hx)
      have hsl : ((strs ws).take k).length = k := by rw [List.length_take, strs_len, HM.out]; omega
      have hcl : ((strs ws).take k).length < n := by omega
      have BA := (Below.refl _ wr).alloc (Nat.le_refl _) (.cells #[.int .i64 yk, .string ⟨yt.toArray⟩, .int .i64 yn] 44)
      have K1 := HK.out.after BA
      have B1 := Lib.hid (HB.out.alloc hrz (.cells #[.int .i64 yk, .string ⟨yt.toArray⟩, .int .i64 yn] 44))
      have T1 := Lib.hid (HT.out.below B1.out)
      have HK1 := Lib.hid K1
      have HCL := Lib.hid (And.intro hsl hcl)
      have S4 := TokB.new wr yk ⟨yt.toArray⟩ yn
      have ⟨s0, s1, s2, _, _, _⟩ := S4.cells
      clear hti hy hx K1 BA hsl hcl S4 HK
      go_wp2_with fail
      refine (ltext_is (t := (yk, yt, yn)) HTI.out _ T1.out).mono ?_
      rintro e w4 ⟨rfl, b4⟩
      have K4 := HK1.out.after b4
      have hc4 : w4.cell? ⟨w2.heap.size, k, none⟩ = some (.string ByteArray.empty) := K4.cell (by have := Lib.cellsOf_next HCL.out.2; rw [HCL.out.1] at this; exact this)
      have hf4 := K4.free k
      have B4 := bstep B1.out b4
      have N1 := Lib.hid (show BlkAt (w4.setCell ⟨w2.heap.size, k, none⟩ (.string ⟨x.toArray⟩)) w2.heap.size (Lib.cellsOf ((strs ws).take (k + 1)) n) 9 by
        have := K4.set_ k (.string ⟨x.toArray⟩)
        have e := Lib.cellsOf_set HCL.out.2 ⟨x.toArray⟩
        rw [HCL.out.1] at e
        rw [e, ← take_snoc' HX.out] at this
        exact this)
      have N2 := Lib.hid (B4.setCell (p := ⟨w2.heap.size, k, none⟩) hz2 (.string ⟨x.toArray⟩))
      clear s0 s1 s2 c0 c1 c2 K4 b4 HK1
      go_wp2_with fail
      go_roundw
      case rel => exact ⟨k + 1, by omega, by go_num, N1, N2⟩
      case measure => simp [intOf]; omega
    · have hkn : k = n := by omega
      subst hkn
      have K5 := HK.out
      rw [List.take_of_length_le (by rw [strs_len, HM.out]; exact Nat.le_refl _)] at K5
      have e5 : (strs ws).length = k := by rw [strs_len, HM.out]
      have PA : ∀ (j : Nat) x, (strs ws)[j]? = some x → wr.cell? ⟨w2.heap.size, 0 + j, none⟩ = some (.string x) := fun j x hx => by
        rw [Nat.zero_add]
        refine K5.cell ?_
        unfold Lib.cellsOf
        have hj := (List.getElem?_eq_some_iff.1 hx).1
        rw [List.getElem?_toArray, List.getElem?_append_left (by simpa using hj), List.getElem?_map, hx]
        rfl
      have C := Tryz.strings_Join w2.heap.size 0 k (strs ws) ⟨#[32]⟩ wr PA K5.lt_ (by omega) (by omega) (by rw [strs_data, show (⟨#[32]⟩ : ByteArray).data.toList = [32] from rfl, HJ.out]; omega)
      rw [strs_data, show (⟨#[32]⟩ : ByteArray).data.toList = [32] from rfl, HJ.out, e5] at C
      have HC := Lib.hid C
      have HB5 := Lib.hid HB.out
      clear C PA K5 e5 HK
      go_wp2_with fail
      refine HC.out.mono ?_
      rintro e w5 ⟨rfl, b5⟩
      have B5 := bstep HB5.out b5
      clear b5
      go_wp2_with fail
      go_ret2
      exact ⟨rfl, B5⟩

/-! ### Text -/
theorem ib_below {T e : TypeId} {B b : Nat} {bs : List Value} {W W' : World} (h : Lib.IsBuilder T e B b bs W) (hb : Below W.heap.size W W') : Lib.IsBuilder T e B b bs W' := by
  have key : ∀ p, Lib.BuilderAt T e B b p bs W → Lib.BuilderAt T e B b p bs W' := fun p hp => by
    have hlt := hp.lt
    obtain ⟨hB, v, hbk, hown, hne⟩ := hp
    refine ⟨hB, v, (hb.block b hlt).trans hbk, ⟨hown.1, ?_⟩, hne⟩
    rcases hown.2 with h0 | ⟨g, cap, cur, ea, hB, hg, hr⟩
    · exact .inl h0
    · refine .inr ⟨g, cap, cur, ea, hB, ?_, hr⟩
      have hlt : g < W.heap.size := by
        rcases Nat.lt_or_ge g W.heap.size with hlt | hge
        · exact hlt
        · rw [Array.getElem?_eq_none hge] at hg; cases hg
      exact (hb.block g hlt).trans hg
  rcases h with h | h
  · exact .inl (key _ h)
  · exact .inr (key _ h)
/-- What the library's laying of strings.Join knows of WriteString, too. -/
theorem bwrite_is (B b : Nat) (bs : List Value) (s : ByteArray) (w : World) (h : Lib.IsBuilder 60 5 B b bs w) (hlen : bs.length + s.size ≤ 140737488355328) (hBw : B ≤ w.heap.size) :
    Calls Tryz.prog 33 #[.pointer (some ⟨b, 0, none⟩), .string s] w fun e w' => e = .returned (.tuple #[.int .i64 s.size, .nilIface]) ∧ (Lib.BuilderAt 60 5 B b (.pointer (some ⟨b, 0, none⟩)) (bs ++ Lib.strCells s) w' ∧ Below B w w') :=
  Any.Builder_WriteString { Tryz.lays156 with } Tryz.Builder_Extra_156 B b bs s w h hlen hBw
/-- A statement and its line. -/
structure StText (s : Sy.St) (y : List UInt8) : Prop where
  form : Sy.formS s.2 = true
  words : ∃ ws, TextsAre s.2 ws ∧ Lib.join ws [32] = y
  len : y.length ≤ 512
def flat (ys : List (List UInt8)) : List UInt8 := ys.flatMap fun y => y ++ [10]
theorem flat_snoc (ys : List (List UInt8)) (y : List UInt8) : flat (ys ++ [y]) = flat ys ++ (y ++ [10]) := by simp [flat]
theorem flat_len : ∀ (ys : List (List UInt8)), (∀ y ∈ ys, y.length ≤ 512) → (flat ys).length ≤ ys.length * 513
  | [], _ => by simp [flat]
  | y :: ys, h => by
    have ih := flat_len ys (fun z hz => h z (by simp [hz]))
    have hy := h y (by simp)
    show (y ++ [10] ++ flat ys).length ≤ _
    simp only [List.length_append, List.length_cons, List.length_nil, Nat.add_mul, Nat.one_mul]
    omega
def LinesOf (ss : List Sy.St) (ys : List (List UInt8)) : Prop := ss.length = ys.length ∧ ∀ (k : Nat) (s : Sy.St) (y : List UInt8), ss[k]? = some s → ys[k]? = some y → StText s y
theorem LinesOf.small {ss : List Sy.St} {ys : List (List UInt8)} (h : LinesOf ss ys) : ∀ y ∈ ys, y.length ≤ 512 := fun y hy => by
  obtain ⟨k, hk⟩ := List.getElem?_of_mem hy
  obtain ⟨s, hs⟩ := get_ex (xs := ss) (i := k) (by rw [h.1]; exact (List.getElem?_eq_some_iff.1 hk).1)
  exact (h.2 k s y hs hk).len
set_option maxHeartbeats 8000000 in
theorem stext_is {ss : List Sy.St} {ys : List (List UInt8)} (hL : LinesOf ss ys) (A : Option Addr) (n c : Nat) (w : World) (hT : LexT w) (hA : StmsAt w A ss) (hn : ss.length = n) (hc : n ≤ c) (hs : n ≤ 100) :
    Calls Tryz.prog 13 #[.slice A n c] w fun e w' => e = .returned (.tuple #[.string ⟨(flat ys).toArray⟩, .int .i64 0]) ∧ Below w.heap.size w w' := by
  have HL := Lib.hid hL
  have HA := Lib.hid hA
  have HN := Lib.hid hn
  have HM := Lib.hid (show ys.length = n by rw [← hL.1]; exact hn)
  have HT := Lib.hid hT
  have HZ := Lib.hid (fun (k : Nat) => flat_len (ys.take k) (fun y hy => hL.small y (List.mem_of_mem_take hy)))
  have HI := Lib.hid (Lib.fresh_isBuilder 60 5 w)
  clear hL hA hn hT
  go_enter Tryz.func13, Tryz.ntmps13
  go_wp2_with fail
  go_loopw [11] (fun i wr => ∃ (k : Nat), k ≤ n ∧ i = .int .i64 k ∧ Hid (Lib.IsBuilder 60 5 w.heap.size w.heap.size (Lib.byteCells (flat (ys.take k))) wr) ∧ Hid (Below w.heap.size w wr)) (fun i _ => n - (intOf i).toNat)
  case atStart => exact ⟨0, Nat.zero_le _, rfl, Lib.hid (by rw [List.take_zero]; exact HI.out), Lib.hid ((Below.refl _ _).alloc (Nat.le_refl _) _)⟩
  case round =>
    obtain ⟨k, hk, rfl, HK, HB⟩ := hrel
    clear HI
    have hzk := HZ.out k
    rw [List.length_take] at hzk
    have hzk2 : (flat (ys.take k)).length ≤ 51300 := by
      have : min k ys.length * 513 ≤ 100 * 513 := Nat.mul_le_mul_right _ (by omega)
      omega
    have hrz := HB.out.size
    by_cases hlt : k < n
    · obtain ⟨⟨sl, ts⟩, hy⟩ := get_ex (xs := ss) (i := k) (by rw [HN.out]; exact hlt)
      obtain ⟨x, hx⟩ := get_ex (xs := ys) (i := k) (by rw [HM.out]; exact hlt)
      obtain ⟨b, off, T, ct, rfl, hblt, c0, c1, hct, h6, hl⟩ := (HA.out.below HB.out).get hy
      simp only at c0 c1 hct h6 hl
      obtain ⟨hF, ⟨ws, hW, hj⟩, hx5⟩ := HL.out.2 k _ x hy hx
      have HFF := Lib.hid hF
      have HWW := Lib.hid hW
      have HJ := Lib.hid hj
      obtain ⟨m, hm⟩ : ∃ m, ts.length = m := ⟨_, rfl⟩
      have HMM := Lib.hid hm
      rw [hm] at c1 hct h6
      have BA := (Below.refl _ wr).alloc (Nat.le_refl _) (.cells #[.int .i64 sl, .slice T m ct] 38)
      have HLT := Lib.hid (hl.below BA)
      have W0 := BlkAt.new wr #[.int .i64 sl, .slice T m ct] 38
      have HK1 := Lib.hid (ib_below HK.out BA)
      have HB1 := Lib.hid (HB.out.alloc hrz (.cells #[.int .i64 sl, .slice T m ct] 38))
      have T1 := Lib.hid (HT.out.below HB1.out)
      have HX := Lib.hid hx
      have C := Lib.hid (lineText_is HFF.out HWW.out (by rw [HJ.out]; exact hx5) T m ct _ T1.out HLT.out HMM.out hct (by omega))
      have e10 : (⟨x.toArray⟩ : ByteArray).size ≤ 512 := by rw [ba_size]; exact hx5
      have n1 : ¬ 9223372036854775807 < (⟨x.toArray⟩ : ByteArray).size + 1 := by omega
      have n2 : ¬ 9223372036854775807 < x.length + 1 := by omega
      clear hF hW hj hy hx hm hl BA HK HFF HWW HLT
      go_wp2_with fail
      refine C.out.mono ?_
      rw [HJ.out]
      rintro e w4 ⟨rfl, b4⟩
      have HK4 := Lib.hid (ib_below HK1.out b4)
      have HB4 := Lib.hid (bstep HB1.out b4)
      have hz4 := HB4.out.size
      have hln : decide (((Lib.byteCells (flat (ys.take k))).length : Int) ≤ 65536) = true := by rw [Lib.byteCells_length]; simp; omega
      clear b4 C HK1 W0
      go_wp2_with fail
      refine (Tryz.Builder_Len _ _ _ _ HK4.out).mono ?_
      rintro e w5 ⟨rfl, rfl⟩
      go_wp2_with fail
      refine (bwrite_is w.heap.size w.heap.size (Lib.byteCells (flat (ys.take k))) _ _ HK4.out (by rw [Lib.byteCells_length]; have := ba_one 10; simp; omega) hz4).mono ?_
      rintro e w6 ⟨rfl, hb6, b6⟩
      have N1 := Lib.hid (show Lib.IsBuilder 60 5 w.heap.size w.heap.size (Lib.byteCells (flat (ys.take (k + 1)))) w6 by
        rw [take_snoc' HX.out, flat_snoc, Lib.byteCells_append]
        right
        rw [Lib.strCells_eq] at hb6
        simpa using hb6)
      have N2 := Lib.hid (HB4.out.trans b6)
      clear hb6 b6 HK4
      go_wp2_with fail
      go_roundw
      case rel => exact ⟨k + 1, by omega, by go_num, N1, N2⟩
      case measure => simp [intOf]; omega
    · have hkn : k = n := by omega
      subst hkn
      have HK5 : Hid (Lib.IsBuilder 60 5 w.heap.size w.heap.size (Lib.byteCells (flat ys)) wr) := Lib.hid (by
        have := HK.out
        rwa [List.take_of_length_le (by rw [HM.out]; exact Nat.le_refl _)] at this)
      rw [List.take_of_length_le (by rw [HM.out]; exact Nat.le_refl _)] at hzk2
      obtain ⟨F, hF⟩ : ∃ F, flat ys = F := ⟨_, rfl⟩
      rw [hF] at HK5 hzk2
      have HFF := Lib.hid hF
      have hln : decide ((65536 : Int) < ((Lib.byteCells F).length : Int)) = false := by rw [Lib.byteCells_length]; simp; omega
      clear HK hF hzk
      go_wp2_with fail
      refine (Tryz.Builder_Len _ _ _ _ HK5.out).mono ?_
      rintro e w5 ⟨rfl, rfl⟩
      go_wp2_with fail
      refine (Tryz.Builder_String_any _ _ F _ HK5.out hrz).mono ?_
      rintro e w6 ⟨rfl, b6⟩
      have N2 := HB.out.trans b6
      go_wp2_with fail
      go_ret2
      rw [HFF.out]
      exact ⟨rfl, N2⟩
end Go.Proofs.YtoohijffkbkikaaGreatDoor
