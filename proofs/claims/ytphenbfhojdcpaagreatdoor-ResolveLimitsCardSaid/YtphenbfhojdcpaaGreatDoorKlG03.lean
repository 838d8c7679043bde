/- What the library's functions that package lexer calls return: Itoa, Atoi, Cut, SplitN, and what they read. What number and fields of package lexer return. What fields of package lexer returns, for three numbers. -/
import Derived.Test.YtphenbfhojdcpaaGreatDoorKlG02
import Derived.Test.YtphenbfhojdcpaaGreatDoorKlG00
import Derived.Lib.CutLaws
import Derived.Lib.ItoaMem
namespace Go.Proofs.YtphenbfhojdcpaaGreatDoor
open Go.RowKit
set_option linter.unusedVariables false
set_option linter.unusedSimpArgs false
/-- A package-level variable below holds what it held. -/
theorem var_below {P : Program} {W W' : World} {n : String} {cs : Array Value} (h : Below W.heap.size W W') (hv : W.var? P n = some cs) : W'.var? P n = some cs := by
  unfold World.var? at *
  cases hg : P.globalNamed n with
  | none => simp [hg] at hv
  | some g =>
    simp only [hg, Option.bind_some] at *
    have hlt : g < W.heap.size := by
      cases hh : W.heap[g]? with
      | none => simp [hh] at hv
      | some o => exact (Array.getElem?_eq_some_iff.1 hh).1
    rw [h.block g hlt]
    exact hv
/-- What the functions read: the lengths of months, the powers of ten, the two errors, the spaces. -/
structure LexT (w : World) : Prop where
  civ : CivT w
  pow : Lib.TabIs Tryz.prog w "internal/strconv.uint64pow10" .u64 Lib.pow10Tab
  syn : ∃ tp p, w.var? Tryz.prog "strconv.ErrSyntax" = some #[.iface tp p]
  rng : ∃ tp p, w.var? Tryz.prog "strconv.ErrRange" = some #[.iface tp p]
  spc : Lib.TabIs Tryz.prog w "strings.asciiSpace" .u8 Lib.asciiSpaceTab
theorem LexT.below {w w' : World} (h : LexT w) (hb : Below w.heap.size w w') : LexT w' := by
  obtain ⟨h1, h2, ⟨a, b, h3⟩, ⟨c, d, h4⟩, h5⟩ := h
  exact ⟨h1.below hb, var_below hb h2, ⟨a, b, var_below hb h3⟩, ⟨c, d, var_below hb h4⟩, var_below hb h5⟩
theorem LexT.alloc {w : World} (h : LexT w) (o : Obj) : LexT (w.alloc o) := h.below ((Below.refl _ _).alloc (Nat.le_refl _) o)
theorem LexT.drewN {w : World} (h : LexT w) (n : Nat) : LexT (w.drewN n) := h.below ⟨rfl, rfl, rfl, Nat.le_refl _, fun _ _ => rfl⟩
theorem LexT.drew {w : World} (h : LexT w) : LexT w.drew := h.below (Below.refl _ _).drew
theorem atoi_ok {s : ByteArray} {v : Int} (h : Lib.atoiAll s.data.toList = .ok v) (w : World) (hs : s.size ≤ 4000000000) :
    Calls Tryz.prog 184 #[.string s] w fun e w' => e = .returned (.tuple #[.int .i64 v, .nilIface]) ∧ Below w.heap.size w w' := by
  refine (Tryz.strconv_Atoi_ok s (by omega) v h w).mono ?_
  rintro e w' ⟨rfl, hw⟩
  refine ⟨rfl, ?_⟩
  rcases hw with rfl | ⟨t, rfl⟩
  · exact Below.refl _ _
  · exact Lib.bytesWorld_below _ _ _
/-- A number and an error that is not nil. -/
def BadNum (w : World) (e : Ending) (w' : World) : Prop := ∃ (v : Int) (a : Addr), I64 v ∧ e = .returned (.tuple #[.int .i64 v, .iface 262 (.pointer (some a))]) ∧ Below w.heap.size w w'
theorem atoi_bad {s : ByteArray} (h : ∀ v, Lib.atoiAll s.data.toList ≠ .ok v) (w : World) (hT : LexT w) (hs : s.size ≤ 4000000000) :
    Calls Tryz.prog 184 #[.string s] w (BadNum w) := by
  cases hc : Lib.atoiAll s.data.toList with
  | ok v => exact absurd hc (h v)
  | range =>
    obtain ⟨tp, p, hv⟩ := hT.rng
    refine (Tryz.strconv_Atoi_range_var s (by omega) hc tp p w hv).mono ?_
    rintro e w' ⟨N, rfl, _, _, hb⟩
    exact ⟨_, _, Lib.atoiSat_bounds _, rfl, hb⟩
  | _ =>
    obtain ⟨tp, p, hv⟩ := hT.syn
    refine Calls.mono (Any.strconv_Atoi_syntax_var Tryz.laysC172 s (by omega) hc tp p w hv) ?_
    rintro e w' ⟨N, rfl, _, _, hb⟩
    exact ⟨0, _, ⟨by omega, by omega⟩, rfl, hb⟩
theorem ret_cut {a a' b b' : ByteArray} {f f' : Bool} (h1 : a = a') (h2 : b = b') (h3 : f = f') : Ending.returned (.tuple #[.string a, .string b, .bool f]) = .returned (.tuple #[.string a', .string b', .bool f']) := by rw [h1, h2, h3]
theorem ba_one (c : UInt8) : (⟨#[c]⟩ : ByteArray).size = 1 := rfl
set_option maxRecDepth 100000 in
set_option maxHeartbeats 800000 in
theorem lcut_is {s : ByteArray} {c : UInt8} {a b : List UInt8} {f : Bool} (hc : Lib.cut s.data.toList [c] = (a, b, f)) (w : World) (hs : s.size ≤ 4000000000) :
    Calls Tryz.prog 156 #[.string s, .string ⟨#[c]⟩] w fun e w' => e = .returned (.tuple #[.string ⟨a.toArray⟩, .string ⟨b.toArray⟩, .bool f]) ∧ ∃ n, w' = w.drewN n := by
  have hi1 : Lib.indexByte s.data.toList c = Lib.indexB s ⟨#[c]⟩ := (Lib.index_one _ _).symm
  have HI := Lib.hid hi1
  have ec : Lib.cut s.data.toList [c] = Lib.cut s.data.toList (⟨#[c]⟩ : ByteArray).data.toList := rfl
  have h1 := ba_one c
  rw [ec] at hc
  clear hi1 ec
  rcases Lib.indexB_cases s ⟨#[c]⟩ with hix | ⟨i, hix, hroom⟩
  · obtain ⟨e1, e2, e3⟩ := Lib.cutB_miss s ⟨#[c]⟩ hix
    rw [hc] at e1 e2 e3
    have E := Lib.hid (And.intro e1 (And.intro e2 e3))
    have HX := Lib.hid hix
    clear hc e1 e2 e3 hix
    go_enter Tryz.func156, Tryz.ntmps156
    go_wp2_with fail
    refine (Tryz.stringslite_Index_one s c _).mono ?_
    rw [HI.out, HX.out]
    rintro e w' ⟨rfl, hw⟩
    subst hw
    go_wp2_with fail
    go_ret3
    exact ⟨ret_cut E.out.1.symm E.out.2.1.symm E.out.2.2.symm, 0, rfl⟩
  · obtain ⟨e1, e2, e3⟩ := Lib.cutB_hit s ⟨#[c]⟩ i hix
    rw [hc] at e1 e2 e3
    rw [h1] at hroom e2
    have c1 : (0 : Int) ≤ ↑i := by omega
    have c2 : (↑i : Int) ≤ ↑s.size := by omega
    have c3 : (0 : Int) ≤ ↑i + 1 := by omega
    have c4 : (↑i + 1 : Int) ≤ ↑s.size := by omega
    have E := Lib.hid (And.intro e1 (And.intro e2 e3))
    have HX := Lib.hid hix
    clear hc e1 e2 e3 hix
    go_enter Tryz.func156, Tryz.ntmps156
    go_wp2_with fail
    refine (Tryz.stringslite_Index_one s c _).mono ?_
    rw [HI.out, HX.out]
    rintro e w' ⟨rfl, hw⟩
    subst hw
    go_wp2_with fail
    go_quiet (fail)
    go_wp2_with fail
    go_ret3
    exact ⟨ret_cut E.out.1.symm E.out.2.1.symm E.out.2.2.symm, _, rfl⟩
theorem cut_is {s : ByteArray} {c : UInt8} {a b : List UInt8} {f : Bool} (hc : Lib.cut s.data.toList [c] = (a, b, f)) (w : World) (hs : s.size ≤ 4000000000) :
    Calls Tryz.prog 122 #[.string s, .string ⟨#[c]⟩] w fun e w' => e = .returned (.tuple #[.string ⟨a.toArray⟩, .string ⟨b.toArray⟩, .bool f]) ∧ ∃ n, w' = w.drewN n := by
  have HC := Lib.hid hc
  clear hc
  go_enter Tryz.func122, Tryz.ntmps122
  go_wp2_with fail
  refine (lcut_is HC.out _ hs).mono ?_
  rintro e w' ⟨rfl, n, rfl⟩
  go_wp2_with fail
  go_ret3
  exact ⟨rfl, n, rfl⟩
theorem hi9 : (Tryz.prog.info? 9).map (fun i => (i.zero, i.size, i.bytes)) = some (some (.string ByteArray.empty), 1, 16) := by kernel_rfl
theorem count_is (s : ByteArray) (c : UInt8) (w : World) : Calls Tryz.prog 119 #[.string s, .string ⟨#[c]⟩] w fun e w' => e = .returned (.int .i64 (Lib.countB s ⟨#[c]⟩)) ∧ w' = w := by
  refine (Tryz.strings_Count_one s c w).mono fun e w' ⟨he, hw⟩ => ⟨?_, hw⟩
  rw [he]
  show _ = Ending.returned (Value.int .i64 ((Lib.count s.data.toList [c] : Nat) : Int))
  rw [Lib.count_one]
  rfl
theorem index_is (s : ByteArray) (c : UInt8) (w : World) : Calls Tryz.prog 120 #[.string s, .string ⟨#[c]⟩] w fun e w' => e = .returned (.int .i64 (Lib.indexB s ⟨#[c]⟩)) ∧ w' = w := by
  have h : Lib.indexByte s.data.toList c = Lib.indexB s ⟨#[c]⟩ := (Lib.index_one _ _).symm
  rw [← h]
  exact Tryz.strings_Index_one s c w
theorem gsplit_is (s : ByteArray) (c : UInt8) (w : World) (hs : s.size ≤ 4000000000) :
    Calls Tryz.prog 83 #[.string s, .string ⟨#[c]⟩, .int .i64 ((0 : Nat) : Int), .int .i64 4] w fun e w' =>
      e = .returned (.slice (some ⟨w.heap.size, 0, none⟩) (Lib.splitB ⟨#[c]⟩ 0 (min 4 (s.size + 1) - 1) s).length (min 4 (s.size + 1))) ∧ w' = w.alloc (.cells (Lib.cellsOf (Lib.splitB ⟨#[c]⟩ 0 (min 4 (s.size + 1) - 1) s) (min 4 (s.size + 1))) 9) :=
  Any.strings_genSplit_core Tryz.lays221 hi9 s ⟨#[c]⟩ 0 4 (min 4 (s.size + 1)) w (by omega) (by rw [ba_one]; decide) (Nat.zero_le _)
    (fun x cs hx => index_is x c _) (count_is s c w) (by decide) (by decide) (by rw [if_neg (by decide)]; omega)
set_option maxRecDepth 100000 in
theorem splitN_is (s : ByteArray) (c : UInt8) (w : World) (hs : s.size ≤ 4000000000) :
    Calls Tryz.prog 201 #[.string s, .string ⟨#[c]⟩, .int .i64 4] w fun e w' =>
      e = .returned (.slice (some ⟨w.heap.size, 0, none⟩) (Lib.splitB ⟨#[c]⟩ 0 (min 4 (s.size + 1) - 1) s).length (min 4 (s.size + 1))) ∧ w' = w.alloc (.cells (Lib.cellsOf (Lib.splitB ⟨#[c]⟩ 0 (min 4 (s.size + 1) - 1) s) (min 4 (s.size + 1))) 9) := by
  go_enter Tryz.func201, Tryz.ntmps201
  go_wp2_with fail
  refine (gsplit_is s c _ hs).mono ?_
  rintro e w' ⟨rfl, rfl⟩
  go_wp2_with fail
  go_ret
  exact ⟨rfl, rfl⟩
/-- The pieces: strings in one new block. -/
def PartsAt (w : World) (b : Nat) (P : List ByteArray) : Prop := ∀ k x, P[k]? = some x → w.cell? ⟨b, k, none⟩ = some (.string x)
theorem PartsAt.below {w w' : World} {b : Nat} {P : List ByteArray} (h : PartsAt w b P) (hb : Below w.heap.size w w') : PartsAt w' b P := fun k x hx => by
  have := h k x hx
  exact (hb.cell (p := ⟨b, k, none⟩) (World.block_lt_of_cell? w _ this)).trans this
theorem parts_new (w : World) (P : List ByteArray) (N : Nat) (hN : P.length ≤ N) : PartsAt (w.alloc (.cells (Lib.cellsOf P N) 9)) w.heap.size P := fun k x hx => by
  have hk : k < P.length := (List.getElem?_eq_some_iff.1 hx).1
  rw [World.cell?_alloc_new]
  unfold Lib.cellsOf
  rw [List.getElem?_toArray, List.getElem?_append_left (by simpa using hk), List.getElem?_map, hx]
  rfl
def Splits (s : ByteArray) (c : UInt8) (w : World) (e : Ending) (w' : World) : Prop :=
  ∃ (P : List ByteArray) (N : Nat), P.map (·.data.toList) = Lib.splitN s.data.toList [c] 4 ∧ P.length ≤ 4 ∧ P.length ≤ N ∧ N ≤ 4 ∧ e = .returned (.slice (some ⟨w.heap.size, 0, none⟩) P.length N) ∧ PartsAt w' w.heap.size P ∧ w.heap.size < w'.heap.size ∧ Below w.heap.size w w'
theorem split_any (s : ByteArray) (c : UInt8) (w : World) (hs : s.size ≤ 4000000000) : Calls Tryz.prog 201 #[.string s, .string ⟨#[c]⟩, .int .i64 4] w (Splits s c w) := by
  refine (splitN_is s c w hs).mono ?_
  rintro e w' ⟨rfl, rfl⟩
  have hl := Lib.splitB_length_le ⟨#[c]⟩ 0 (min 4 (s.size + 1) - 1) s
  refine ⟨_, _, ?_, by omega, by omega, by omega, rfl, parts_new _ _ _ (by omega), by simp, (Below.refl _ _).alloc (Nat.le_refl _) _⟩
  rw [Lib.splitB_data]
  unfold Lib.splitN
  rw [← Lib.size_eq]
end Go.Proofs.YtphenbfhojdcpaaGreatDoor
namespace Go.Proofs.YtphenbfhojdcpaaGreatDoor
open Go.RowKit
set_option linter.unusedVariables false
set_option linter.unusedSimpArgs false
/-- A number, from -M to M, and whether it counts. -/
def Num2 (M : Int) (o : Option Int) (w : World) (e : Ending) (w' : World) : Prop :=
  ∃ v : Int, I64 v ∧ -M ≤ v ∧ v ≤ M ∧ (∀ x, o = some x → v = x) ∧ e = .returned (.tuple #[.int .i64 v, .bool o.isSome]) ∧ Below w.heap.size w w'
theorem bdrewN {B : Nat} {a w : World} (h : Below B a w) (n : Nat) : Below B a (w.drewN n) := ⟨h.os, h.tape, h.output, h.size, h.block⟩
theorem prefix_is {s : ByteArray} {c : UInt8} {b : Bool} (h : Lib.hasPrefix s.data.toList [c] = b) (w : World) : Calls Tryz.prog 183 #[.string s, .string ⟨#[c]⟩] w fun e w' => e = .returned (.bool b) ∧ w = w' :=
  (Tryz.strings_HasPrefix s ⟨#[c]⟩ w).mono fun e w' ⟨h1, h2⟩ => ⟨by rw [h1, ← h], h2.symm⟩
set_option maxRecDepth 100000 in
set_option maxHeartbeats 800000 in
theorem number_any (s : ByteArray) (w : World) (hT : LexT w) (hs : s.size ≤ 4000000000) (hd : Lx.alldig s.data.toList = true) :
    Calls Tryz.prog 160 #[.string s] w (Num2 9223372036854775808 (Lx.numS s.data.toList) w) := by
  have hz := Lib.size_eq s
  have hl : s.toList = s.data.toList := Lib.toList_data s
  by_cases h9 : 9 < s.size
  · have hn : Lx.numS s.data.toList = none := by unfold Lx.numS; rw [if_neg (by omega)]
    rw [hn]
    have h9' : decide ((9 : Int) < s.size) = true := by simp; omega
    clear hz hl h9 hn hd
    go_enter Tryz.func160, Tryz.ntmps160
    go_wp2_with fail
    go_ret2
    exact ⟨0, ⟨by omega, by omega⟩, by omega, by omega, (by rintro x ⟨⟩), rfl, Below.refl _ _⟩
  · have h9' : decide ((9 : Int) < s.size) = false := by simp; omega
    by_cases h0 : s.data.toList = [48]
    · have hn : Lx.numS s.data.toList = some 0 := by rw [h0]; rfl
      rw [hn]
      have hz0 : s.toList = [48] := hl.trans h0
      have HA := Lib.hid (show Lib.atoiAll s.data.toList = .ok 0 by rw [h0]; rfl)
      clear hz hl h9 hn hd h0
      go_enter Tryz.func160, Tryz.ntmps160
      go_wp2_with fail
      refine (atoi_ok HA.out _ hs).mono ?_
      rintro e w' ⟨rfl, hb⟩
      go_wp2_with fail
      go_quiet (fail)
      go_wp2_with fail
      go_ret2
      exact ⟨0, ⟨by omega, by omega⟩, by omega, by omega, (by rintro x ⟨⟩; rfl), rfl, bdrewN hb _⟩
    · have hz0 : ¬ s.toList = [48] := by rw [hl]; exact h0
      have hz1 : (s.toList == [48]) = false := by simpa using hz0
      by_cases hp : Lib.hasPrefix s.data.toList [48] = true
      · have hn : Lx.numS s.data.toList = none := by
          unfold Lx.numS
          rw [if_neg]
          rintro ⟨_, _, h | h⟩
          · exact h0 h
          · cases hc : s.data.toList with
            | nil => rw [hc] at hp; simp [Lib.hasPrefix] at hp
            | cons b t =>
              rw [hc] at hp h
              simp [Lib.hasPrefix, List.isPrefixOf] at hp
              exact h (by rw [← hp]; rfl)
        rw [hn]
        have HP := Lib.hid hp
        clear hz hl h9 hn hd h0 hp
        go_enter Tryz.func160, Tryz.ntmps160
        go_wp2_with fail
        refine (prefix_is HP.out _).mono ?_
        rintro e w' ⟨rfl, rfl⟩
        go_wp2_with fail
        go_ret2
        exact ⟨0, ⟨by omega, by omega⟩, by omega, by omega, (by rintro x ⟨⟩), rfl, Below.refl _ _⟩
      · have hp : Lib.hasPrefix s.data.toList [48] = false := by simpa using hp
        have HP := Lib.hid hp
        by_cases he : s.data.toList = []
        · have hn : Lx.numS s.data.toList = none := by rw [he]; rfl
          rw [hn]
          have HA := Lib.hid (show ∀ v, Lib.atoiAll s.data.toList ≠ .ok v by rw [he]; exact Lx.atoi_nil)
          have HT := Lib.hid hT
          clear hz hl h9 hn hd h0 hp he hT
          go_enter Tryz.func160, Tryz.ntmps160
          go_wp2_with fail
          refine (prefix_is HP.out _).mono ?_
          rintro e w' ⟨rfl, rfl⟩
          go_wp2_with fail
          refine (atoi_bad HA.out _ HT.out hs).mono ?_
          rintro e w' ⟨v, a, iv, rfl, hb⟩
          have HV := Lib.hid iv
          clear iv
          go_wp2_with fail
          go_quiet (fail)
          go_wp2_with fail
          go_ret2
          exact ⟨v, HV.out, by have := HV.out.1; omega, by have := HV.out.2; omega, (by rintro x ⟨⟩), rfl, bdrewN hb _⟩
        · have hn : Lx.numS s.data.toList = some (Lx.val s.data.toList : Int) := by
            unfold Lx.numS
            rw [if_pos]
            refine ⟨he, by omega, .inr ?_⟩
            cases hc : s.data.toList with
            | nil => exact absurd hc he
            | cons b t =>
              rw [hc] at hp
              intro h
              simp only [List.head?_cons, Option.some.injEq] at h
              subst h
              simp [Lib.hasPrefix, List.isPrefixOf] at hp
          rw [hn]
          have hv := Lx.val_bd hd
          have hpw : 10 ^ s.data.toList.length ≤ 10 ^ 9 := Nat.pow_le_pow_right (by decide) (by omega)
          have HA := Lib.hid (Lx.atoi_dig hd he (by omega))
          obtain ⟨v, hvv⟩ : ∃ v, Lx.val s.data.toList = v := ⟨_, rfl⟩
          rw [hvv] at HA hv ⊢
          have hvb : v < 1000000000 := by omega
          clear hz hl h9 hn hd h0 hp he hv hpw hvv
          go_enter Tryz.func160, Tryz.ntmps160
          go_wp2_with fail
          refine (prefix_is HP.out _).mono ?_
          rintro e w' ⟨rfl, rfl⟩
          go_wp2_with fail
          refine (atoi_ok HA.out _ hs).mono ?_
          rintro e w' ⟨rfl, hb⟩
          go_wp2_with fail
          go_quiet (fail)
          go_wp2_with fail
          go_ret2
          exact ⟨(v : Int), ⟨by omega, by omega⟩, by omega, by omega, (by rintro x ⟨⟩; rfl), rfl, bdrewN hb _⟩
end Go.Proofs.YtphenbfhojdcpaaGreatDoor
namespace Go.Proofs.YtphenbfhojdcpaaGreatDoor
open Go.RowKit
set_option linter.unusedVariables false
set_option linter.unusedSimpArgs false
set_option maxRecDepth 100000
/-- Three numbers in a new block, or none. -/
def Fld (o : Option (List Nat)) (w : World) (e : Ending) (w' : World) : Prop :=
  (o = none ∧ e = .returned (.tuple #[.slice none 0 0, .bool false]) ∧ Below w.heap.size w w') ∨
  (∃ (a b d bl : Nat), o = some [a, b, d] ∧ e = .returned (.tuple #[.slice (some ⟨bl, 0, none⟩) 3 3, .bool true]) ∧ BlkAt w' bl #[.int .i64 a, .int .i64 b, .int .i64 d] 3 ∧ Below w.heap.size w w')
theorem Fld.no {o : Option (List Nat)} {w w' : World} (h : o = none) (hb : Below w.heap.size w w') : Fld o w (.returned (.tuple #[.slice none 0 0, .bool false])) w' := .inl ⟨h, rfl, hb⟩
theorem make3 : ∀ w, (Instr.makeSlice 38 (.int .i64 3) (.int .i64 3)).run Tryz.prog w = .ok (.slice (some ⟨w.heap.size, 0, none⟩) 3 3) (w.alloc (.cells #[.int .i64 0, .int .i64 0, .int .i64 0] 3)) := fun _ => by kernel_rfl
def Parts3 (w : World) (b : Nat) (p0 p1 p2 : ByteArray) : Prop := w.cell? ⟨b, 0, none⟩ = some (.string p0) ∧ w.cell? ⟨b, 1, none⟩ = some (.string p1) ∧ w.cell? ⟨b, 2, none⟩ = some (.string p2)
theorem cell_lift {w w' : World} {p : Addr} {v : Value} (h : w.cell? p = some v) (hb : Below w.heap.size w w') : w'.cell? p = some v := (hb.cell (p := p) (World.block_lt_of_cell? w _ h)).trans h
theorem Parts3.below {w w' : World} {b : Nat} {p0 p1 p2 : ByteArray} (h : Parts3 w b p0 p1 p2) (hb : Below w.heap.size w w') : Parts3 w' b p0 p1 p2 := ⟨cell_lift h.1 hb, cell_lift h.2.1 hb, cell_lift h.2.2 hb⟩
theorem Parts3.set_ {w : World} {b g i : Nat} {v : Value} {p0 p1 p2 : ByteArray} (h : Parts3 w b p0 p1 p2) (hne : g ≠ b) : Parts3 (w.setCell ⟨g, i, none⟩ v) b p0 p1 p2 := by
  have key : ∀ j u, w.cell? ⟨b, j, none⟩ = some u → (w.setCell ⟨g, i, none⟩ v).cell? ⟨b, j, none⟩ = some u := fun j u hu => by
    rw [World.cell?_setCell_other w _ _ _ (fun e => hne (by injection e with e1))]; exact hu
  exact ⟨key _ _ h.1, key _ _ h.2.1, key _ _ h.2.2⟩
/-- A piece is right: as long as asked, digits alone. -/
def okP (p : ByteArray) (i : Nat) : Prop := p.data.toList.length = i ∧ Lx.alldig p.data.toList = true
theorem fld_none {s p0 p1 p2 : ByteArray} {c : UInt8} {i j k : Nat} (hP : [p0, p1, p2].map (·.data.toList) = Lib.splitN s.data.toList [c] 4) (h : ¬ (okP p0 i ∧ okP p1 j ∧ okP p2 k)) : Lx.fieldsS c [i, j, k] s.data.toList = none := by
  unfold Lx.fieldsS
  rw [← hP, if_neg]
  rintro ⟨h1, h2⟩
  simp only [List.map_cons, List.map_nil, List.cons.injEq, and_true, List.all_cons, List.all_nil, Bool.and_true, Bool.and_eq_true] at h1 h2
  exact h ⟨⟨h1.1, h2.1⟩, ⟨h1.2.1, h2.2.1⟩, ⟨h1.2.2, h2.2.2⟩⟩
theorem fld_some {s p0 p1 p2 : ByteArray} {c : UInt8} {i j k : Nat} (hP : [p0, p1, p2].map (·.data.toList) = Lib.splitN s.data.toList [c] 4) (h0 : okP p0 i) (h1 : okP p1 j) (h2 : okP p2 k) :
    Lx.fieldsS c [i, j, k] s.data.toList = some [Lx.val p0.data.toList, Lx.val p1.data.toList, Lx.val p2.data.toList] := by
  unfold Lx.fieldsS
  rw [← hP, if_pos]
  · rfl
  · simp [h0.1, h0.2, h1.1, h1.2, h2.1, h2.2]
theorem okP_cases (p : ByteArray) (i : Nat) (hi : i ≤ 9) (h1 : 1 ≤ i) : (okP p i ∧ (p.size : Int) = i ∧ ((Lx.lead p.data.toList : Nat) : Int) = i ∧ Lib.atoiAll p.data.toList = .ok (Lx.val p.data.toList : Int) ∧ Lx.val p.data.toList ≤ 1000000000) ∨ (¬ okP p i ∧ (((p.size : Int) == i) = false ∨ ((p.size : Int) = i ∧ (((Lx.lead p.data.toList : Nat) : Int) == i) = false))) := by
  have hz := Lib.size_eq p
  by_cases h : okP p i
  · have hv := Lx.val_bd h.2
    have hp : 10 ^ p.data.toList.length ≤ 10 ^ 9 := Nat.pow_le_pow_right (by decide) (by have := h.1; omega)
    refine .inl ⟨h, by have := h.1; omega, by have := Lx.lead_all.2 h.2; have := h.1; omega, Lx.atoi_dig h.2 ?_ (by have := h.1; omega), by omega⟩
    intro e
    have := h.1
    rw [e] at this
    simp at this
    omega
  · refine .inr ⟨h, ?_⟩
    by_cases hs : p.size = i
    · right
      refine ⟨by omega, ?_⟩
      simp only [beq_eq_false_iff_ne, ne_eq]
      intro hl
      exact h ⟨by omega, Lx.lead_all.1 (by omega)⟩
    · left
      simp only [beq_eq_false_iff_ne, ne_eq]
      omega
end Go.Proofs.YtphenbfhojdcpaaGreatDoor
