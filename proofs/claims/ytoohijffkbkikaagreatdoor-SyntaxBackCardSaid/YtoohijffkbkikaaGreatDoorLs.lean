/- What the library's functions that package lexer calls return: Itoa, Atoi, Cut, SplitN, and what they read. -/
import Derived.Test.YtoohijffkbkikaaGreatDoorLb
import Derived.Test.YtoohijffkbkikaaGreatDoorLy
import Derived.Lib.CutLaws
import Derived.Lib.ItoaMem
namespace Go.Proofs.YtoohijffkbkikaaGreatDoor
open Go.RowKit
set_option linter.unusedVariables false
set_option linter.unusedSimpArgs false

/-- A package-level variable below holds what it held. -/
theorem var_below {P : Program} {W W' : World} {n : String} {cs : Array Value} (h : Below W.heap.size W W') (hv : W.var? P n = some cs) : W'.var? P n = some cs := by
  unfold World.var? at *
  cases hg : P.globalNamed n with
  | none => simp [hg] at hv
  | some g =>
    simp only [hg, Option.bind_some] at *
    have hlt : g < W.heap.size := by
      cases hh : W.heap[g]? with
      | none => simp [hh] at hv
      | some o => exact (Array.getElem?_eq_some_iff.1 hh).1
    rw [h.block g hlt]
    exact hv
/-- What the functions read: the lengths of months, the powers of ten, the two errors, the spaces. -/
structure LexT (w : World) : Prop where
  civ : CivT w
  pow : Lib.TabIs Tryz.prog w "internal/strconv.uint64pow10" .u64 Lib.pow10Tab
  syn : ∃ tp p, w.var? Tryz.prog "strconv.ErrSyntax" = some #[.iface tp p]
  rng : ∃ tp p, w.var? Tryz.prog "strconv.ErrRange" = some #[.iface tp p]
  spc : Lib.TabIs Tryz.prog w "strings.asciiSpace" .u8 Lib.asciiSpaceTab
theorem LexT.below {w w' : World} (h : LexT w) (hb : Below w.heap.size w w') : LexT w' := by
  obtain ⟨h1, h2, ⟨a, b, h3⟩, ⟨c, d, h4⟩, h5⟩ := h
  exact ⟨h1.below hb, var_below hb h2, ⟨a, b, var_below hb h3⟩, ⟨c, d, var_below hb h4⟩, var_below hb h5⟩
theorem LexT.alloc {w : World} (h : LexT w) (o : Obj) : LexT (w.alloc o) := h.below ((Below.refl _ _).alloc (Nat.le_refl _) o)
theorem LexT.drewN {w : World} (h : LexT w) (n : Nat) : LexT (w.drewN n) := h.below ⟨rfl, rfl, rfl, Nat.le_refl _, fun _ _ => rfl⟩
theorem LexT.drew {w : World} (h : LexT w) : LexT w.drew := h.below (Below.refl _ _).drew

theorem below_grow (w : World) (k : Nat) (os : Array Obj) : Below w.heap.size w (Sort.grow (w.drewN k) os) := by
  refine ⟨rfl, rfl, rfl, by simp [Sort.grow, World.drewN], fun i hi => ?_⟩
  show (w.heap ++ os)[i]? = _
  rw [Array.getElem?_append_left hi]
theorem itoa_is {n : Int} {s : ByteArray} (hs : (⟨(Lib.itoa n).toArray⟩ : ByteArray) = s) (w : World) (hT : LexT w) (h0 : -9223372036854775808 ≤ n) (h1 : n ≤ 9223372036854775807) :
    Calls Tryz.prog 102 #[.int .i64 n] w fun e w' => e = .returned (.string s) ∧ Below w.heap.size w w' := by
  subst hs
  refine (Tryz.strconv_Itoa n h0 h1 w hT.pow).mono ?_
  rintro e w' ⟨rfl, k, os, rfl⟩
  exact ⟨rfl, below_grow _ _ _⟩
theorem atoi_ok {s : ByteArray} {v : Int} (h : Lib.atoiAll s.data.toList = .ok v) (w : World) (hs : s.size ≤ 4000000000) :
    Calls Tryz.prog 122 #[.string s] w fun e w' => e = .returned (.tuple #[.int .i64 v, .nilIface]) ∧ Below w.heap.size w w' := by
  refine (Tryz.strconv_Atoi_ok s (by omega) v h w).mono ?_
  rintro e w' ⟨rfl, hw⟩
  refine ⟨rfl, ?_⟩
  rcases hw with rfl | ⟨t, rfl⟩
  · exact Below.refl _ _
  · exact Lib.bytesWorld_below _ _ _
/-- A number and an error that is not nil. -/
def BadNum (w : World) (e : Ending) (w' : World) : Prop := ∃ (v : Int) (a : Addr), I64 v ∧ e = .returned (.tuple #[.int .i64 v, .iface 166 (.pointer (some a))]) ∧ Below w.heap.size w w'
theorem atoi_bad {s : ByteArray} (h : ∀ v, Lib.atoiAll s.data.toList ≠ .ok v) (w : World) (hT : LexT w) (hs : s.size ≤ 4000000000) :
    Calls Tryz.prog 122 #[.string s] w (BadNum w) := by
  cases hc : Lib.atoiAll s.data.toList with
  | ok v => exact absurd hc (h v)
  | range =>
    obtain ⟨tp, p, hv⟩ := hT.rng
    refine (Tryz.strconv_Atoi_range_var s (by omega) hc tp p w hv).mono ?_
    rintro e w' ⟨N, rfl, _, _, hb⟩
    exact ⟨_, _, Lib.atoiSat_bounds _, rfl, hb⟩
  | _ =>
    obtain ⟨tp, p, hv⟩ := hT.syn
    refine Calls.mono (Any.strconv_Atoi_syntax_var Tryz.laysC172 s (by omega) hc tp p w hv) ?_
    rintro e w' ⟨N, rfl, _, _, hb⟩
    exact ⟨0, _, ⟨by omega, by omega⟩, rfl, hb⟩

/-! ### Cut at a byte -/
theorem ret_cut {a a' b b' : ByteArray} {f f' : Bool} (h1 : a = a') (h2 : b = b') (h3 : f = f') : Ending.returned (.tuple #[.string a, .string b, .bool f]) = .returned (.tuple #[.string a', .string b', .bool f']) := by rw [h1, h2, h3]
theorem ba_one (c : UInt8) : (⟨#[c]⟩ : ByteArray).size = 1 := rfl
set_option maxRecDepth 100000 in
set_option maxHeartbeats 800000 in
theorem lcut_is {s : ByteArray} {c : UInt8} {a b : List UInt8} {f : Bool} (hc : Lib.cut s.data.toList [c] = (a, b, f)) (w : World) (hs : s.size ≤ 4000000000) :
    Calls Tryz.prog 91 #[.string s, .string ⟨#[c]⟩] w fun e w' => e = .returned (.tuple #[.string ⟨a.toArray⟩, .string ⟨b.toArray⟩, .bool f]) ∧ ∃ n, w' = w.drewN n := by
  have hi1 : Lib.indexByte s.data.toList c = Lib.indexB s ⟨#[c]⟩ := (Lib.index_one _ _).symm
  have HI := Lib.hid hi1
  have ec : Lib.cut s.data.toList [c] = Lib.cut s.data.toList (⟨#[c]⟩ : ByteArray).data.toList := rfl
  have h1 := ba_one c
  rw [ec] at hc
  clear hi1 ec
  rcases Lib.indexB_cases s ⟨#[c]⟩ with hix | ⟨i, hix, hroom⟩
  · obtain ⟨e1, e2, e3⟩ := Lib.cutB_miss s ⟨#[c]⟩ hix
    rw [hc] at e1 e2 e3
    have E := Lib.hid (And.intro e1 (And.intro e2 e3))
    have HX := Lib.hid hix
    clear hc e1 e2 e3 hix
    go_enter Tryz.func91, Tryz.ntmps91
    go_wp2_with fail
    refine (Tryz.stringslite_Index_one s c _).mono ?_
    rw [HI.out, HX.out]
    rintro e w' ⟨rfl, hw⟩
    subst hw
    go_wp2_with fail
    go_ret3
    exact ⟨ret_cut E.out.1.symm E.out.2.1.symm E.out.2.2.symm, 0, rfl⟩
  · obtain ⟨e1, e2, e3⟩ := Lib.cutB_hit s ⟨#[c]⟩ i hix
    rw [hc] at e1 e2 e3
    rw [h1] at hroom e2
    have c1 : (0 : Int) ≤ ↑i := by omega
    have c2 : (↑i : Int) ≤ ↑s.size := by omega
    have c3 : (0 : Int) ≤ ↑i + 1 := by omega
    have c4 : (↑i + 1 : Int) ≤ ↑s.size := by omega
    have E := Lib.hid (And.intro e1 (And.intro e2 e3))
    have HX := Lib.hid hix
    clear hc e1 e2 e3 hix
    go_enter Tryz.func91, Tryz.ntmps91
    go_wp2_with fail
    refine (Tryz.stringslite_Index_one s c _).mono ?_
    rw [HI.out, HX.out]
    rintro e w' ⟨rfl, hw⟩
    subst hw
    go_wp2_with fail
    go_quiet (fail)
    go_wp2_with fail
    go_ret3
    exact ⟨ret_cut E.out.1.symm E.out.2.1.symm E.out.2.2.symm, _, rfl⟩
theorem cut_is {s : ByteArray} {c : UInt8} {a b : List UInt8} {f : Bool} (hc : Lib.cut s.data.toList [c] = (a, b, f)) (w : World) (hs : s.size ≤ 4000000000) :
    Calls Tryz.prog 69 #[.string s, .string ⟨#[c]⟩] w fun e w' => e = .returned (.tuple #[.string ⟨a.toArray⟩, .string ⟨b.toArray⟩, .bool f]) ∧ ∃ n, w' = w.drewN n := by
  have HC := Lib.hid hc
  clear hc
  go_enter Tryz.func69, Tryz.ntmps69
  go_wp2_with fail
  refine (lcut_is HC.out _ hs).mono ?_
  rintro e w' ⟨rfl, n, rfl⟩
  go_wp2_with fail
  go_ret3
  exact ⟨rfl, n, rfl⟩

/-! ### SplitN at a byte -/
theorem hi9 : (Tryz.prog.info? 9).map (fun i => (i.zero, i.size, i.bytes)) = some (some (.string ByteArray.empty), 1, 16) := by kernel_rfl
theorem count_is (s : ByteArray) (c : UInt8) (w : World) : Calls Tryz.prog 66 #[.string s, .string ⟨#[c]⟩] w fun e w' => e = .returned (.int .i64 (Lib.countB s ⟨#[c]⟩)) ∧ w' = w := by
  refine (Tryz.strings_Count_one s c w).mono fun e w' ⟨he, hw⟩ => ⟨?_, hw⟩
  rw [he]
  show _ = Ending.returned (Value.int .i64 ((Lib.count s.data.toList [c] : Nat) : Int))
  rw [Lib.count_one]
  rfl
theorem index_is (s : ByteArray) (c : UInt8) (w : World) : Calls Tryz.prog 67 #[.string s, .string ⟨#[c]⟩] w fun e w' => e = .returned (.int .i64 (Lib.indexB s ⟨#[c]⟩)) ∧ w' = w := by
  have h : Lib.indexByte s.data.toList c = Lib.indexB s ⟨#[c]⟩ := (Lib.index_one _ _).symm
  rw [← h]
  exact Tryz.strings_Index_one s c w
theorem gsplit_is (s : ByteArray) (c : UInt8) (w : World) (hs : s.size ≤ 4000000000) :
    Calls Tryz.prog 48 #[.string s, .string ⟨#[c]⟩, .int .i64 ((0 : Nat) : Int), .int .i64 4] w fun e w' =>
      e = .returned (.slice (some ⟨w.heap.size, 0, none⟩) (Lib.splitB ⟨#[c]⟩ 0 (min 4 (s.size + 1) - 1) s).length (min 4 (s.size + 1))) ∧ w' = w.alloc (.cells (Lib.cellsOf (Lib.splitB ⟨#[c]⟩ 0 (min 4 (s.size + 1) - 1) s) (min 4 (s.size + 1))) 9) :=
  Any.strings_genSplit_core Tryz.lays221 hi9 s ⟨#[c]⟩ 0 4 (min 4 (s.size + 1)) w (by omega) (by rw [ba_one]; decide) (Nat.zero_le _)
    (fun x cs hx => index_is x c _) (count_is s c w) (by decide) (by decide) (by rw [if_neg (by decide)]; omega)
set_option maxRecDepth 100000 in
theorem splitN_is (s : ByteArray) (c : UInt8) (w : World) (hs : s.size ≤ 4000000000) :
    Calls Tryz.prog 143 #[.string s, .string ⟨#[c]⟩, .int .i64 4] w fun e w' =>
      e = .returned (.slice (some ⟨w.heap.size, 0, none⟩) (Lib.splitB ⟨#[c]⟩ 0 (min 4 (s.size + 1) - 1) s).length (min 4 (s.size + 1))) ∧ w' = w.alloc (.cells (Lib.cellsOf (Lib.splitB ⟨#[c]⟩ 0 (min 4 (s.size + 1) - 1) s) (min 4 (s.size + 1))) 9) := by
  go_enter Tryz.func143, Tryz.ntmps143
  go_wp2_with fail
  refine (gsplit_is s c _ hs).mono ?_
  rintro e w' ⟨rfl, rfl⟩
  go_wp2_with fail
  go_ret
  exact ⟨rfl, rfl⟩
/-- The pieces: strings in one new block. -/
def PartsAt (w : World) (b : Nat) (P : List ByteArray) : Prop := ∀ k x, P[k]? = some x → w.cell? ⟨b, k, none⟩ = some (.string x)
theorem PartsAt.below {w w' : World} {b : Nat} {P : List ByteArray} (h : PartsAt w b P) (hb : Below w.heap.size w w') : PartsAt w' b P := fun k x hx => by
  have := h k x hx
  exact (hb.cell (p := ⟨b, k, none⟩) (World.block_lt_of_cell? w _ this)).trans this
theorem parts_new (w : World) (P : List ByteArray) (N : Nat) (hN : P.length ≤ N) : PartsAt (w.alloc (.cells (Lib.cellsOf P N) 9)) w.heap.size P := fun k x hx => by
  have hk : k < P.length := (List.getElem?_eq_some_iff.1 hx).1
  rw [World.cell?_alloc_new]
  unfold Lib.cellsOf
  rw [List.getElem?_toArray, List.getElem?_append_left (by simpa using hk), List.getElem?_map, hx]
  rfl
def Splits (s : ByteArray) (c : UInt8) (w : World) (e : Ending) (w' : World) : Prop :=
  ∃ (P : List ByteArray) (N : Nat), P.map (·.data.toList) = Lib.splitN s.data.toList [c] 4 ∧ P.length ≤ 4 ∧ P.length ≤ N ∧ N ≤ 4 ∧ e = .returned (.slice (some ⟨w.heap.size, 0, none⟩) P.length N) ∧ PartsAt w' w.heap.size P ∧ w.heap.size < w'.heap.size ∧ Below w.heap.size w w'
theorem split_any (s : ByteArray) (c : UInt8) (w : World) (hs : s.size ≤ 4000000000) : Calls Tryz.prog 143 #[.string s, .string ⟨#[c]⟩, .int .i64 4] w (Splits s c w) := by
  refine (splitN_is s c w hs).mono ?_
  rintro e w' ⟨rfl, rfl⟩
  have hl := Lib.splitB_length_le ⟨#[c]⟩ 0 (min 4 (s.size + 1) - 1) s
  refine ⟨_, _, ?_, by omega, by omega, by omega, rfl, parts_new _ _ _ (by omega), by simp, (Below.refl _ _).alloc (Nat.le_refl _) _⟩
  rw [Lib.splitB_data]
  unfold Lib.splitN
  rw [← Lib.size_eq]
end Go.Proofs.YtoohijffkbkikaaGreatDoor
