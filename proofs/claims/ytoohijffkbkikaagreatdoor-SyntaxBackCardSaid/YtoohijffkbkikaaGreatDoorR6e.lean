/- The reference of layer 6: Words and Line. -/
import Derived.Test.YtoohijffkbkikaaGreatDoorR6d
namespace L6
open Go Go.Lib Go.Proofs.YtoohijffkbkikaaGreatDoor
def w6 : List UInt8 → List UInt8 → List (List UInt8)
  | cur, [] => if cur.isEmpty then [] else [cur]
  | cur, b :: l => if b = 32 then (if cur.isEmpty then w6 [] l else cur :: w6 [] l) else w6 (cur ++ [b]) l
theorem w6_nil (cur : List UInt8) : w6 cur [] = if cur.isEmpty then [] else [cur] := by unfold w6; rfl
theorem w6_cons (cur : List UInt8) (b : UInt8) (l : List UInt8) : w6 cur (b :: l) = if b = 32 then (if cur.isEmpty then w6 [] l else cur :: w6 [] l) else w6 (cur ++ [b]) l := by rw [w6]
def words6 (l : List UInt8) : List (List UInt8) := w6 [] l
def fh : List UInt8 → Nat
  | [] => 0
  | b :: t => if b = 35 then 0 else fh t + 1
theorem fh_le : ∀ l : List UInt8, fh l ≤ l.length
  | [] => Nat.le_refl _
  | b :: t => by
    have := fh_le t
    unfold fh
    split <;> simp <;> omega
theorem fh_at : ∀ (l : List UInt8) (k : Nat) (c : UInt8), l[k]? = some c → (c = 35 → fh l ≤ k) ∧ (c ≠ 35 → fh l ≠ k)
  | [], k, c, h => by simp at h
  | b :: t, 0, c, h => by
    simp at h
    subst h
    unfold fh
    refine ⟨fun e => by rw [if_pos e]; omega, fun e => by rw [if_neg e]; omega⟩
  | b :: t, k + 1, c, h => by
    have ih := fh_at t k c (by simpa using h)
    unfold fh
    by_cases hb : b = 35
    · rw [if_pos hb]; exact ⟨fun _ => by omega, fun _ => by omega⟩
    · rw [if_neg hb]; exact ⟨fun e => by have := ih.1 e; omega, fun e => by have := ih.2 e; omega⟩
def toks6 : List (List UInt8) → Option (List Lx.Tk)
  | [] => some []
  | x :: r => match tok6S x, toks6 r with
    | some t, some ts => some (t :: ts)
    | _, _ => none
theorem toks6_none {x : List UInt8} {r : List (List UInt8)} (h : tok6S x = none) : toks6 (x :: r) = none := by simp [toks6, h]
theorem toks6_some {x : List UInt8} {r : List (List UInt8)} {t : Lx.Tk} (h : tok6S x = some t) : toks6 (x :: r) = (toks6 r).map (t :: ·) := by
  rw [toks6, h]
  cases toks6 r <;> rfl
/-- The tokens of a line of at most MaxLine bytes, by the reference. -/
def line6S (l : List UInt8) : Option (List Lx.Tk) := if Lx.prn l = true then toks6 (words6 (l.take (fh l))) else none
theorem w6_bd : ∀ (l cur : List UInt8), (∀ x ∈ w6 cur l, x.length ≤ cur.length + l.length) ∧ (w6 cur l).length ≤ 1 + l.length
  | [], cur => by
    unfold w6
    cases cur with
    | nil => simp
    | cons a t => simp
  | b :: l, cur => by
    unfold w6
    by_cases hb : b = 32
    · rw [if_pos hb]
      have ih := w6_bd l []
      cases cur with
      | nil =>
        simp only [List.isEmpty_nil, if_true]
        refine ⟨fun x hx => ?_, ?_⟩
        · have := ih.1 x hx; simp at this ⊢; omega
        · have := ih.2; simp at this ⊢; omega
      | cons a t =>
        simp only [List.isEmpty_cons]
        refine ⟨fun x hx => ?_, ?_⟩
        · simp only [Bool.false_eq_true, if_false, List.mem_cons] at hx
          rcases hx with rfl | hx
          · simp
          · have := ih.1 x hx; simp at this ⊢; omega
        · have := ih.2; simp at this ⊢; omega
    · rw [if_neg hb]
      have ih := w6_bd l (cur ++ [b])
      refine ⟨fun x hx => ?_, ?_⟩
      · have := ih.1 x hx; simp at this ⊢; omega
      · have := ih.2; simp at this ⊢; omega
end L6
namespace Go.Proofs.YtoohijffkbkikaaGreatDoor
open Go.RowKit
set_option linter.unusedVariables false
set_option linter.unusedSimpArgs false
set_option maxRecDepth 100000

def eWrd : List UInt8 → Nat → Value := fun x _ => .string ⟨x.toArray⟩
theorem kWrd : KindOk 42 9 1 eWrd := ⟨Tryz.underlying42, by obtain ⟨i, a, b, c, d⟩ := info_parts (show (Tryz.prog.info? 9).map (fun i => (i.zero, i.size, i.bytes)) = some (some (.string ByteArray.empty), 1, 16) by kernel_rfl); exact ⟨i, _, _, a, b, c, d, rfl, by omega⟩, by omega, fun _ _ => rfl⟩
/-- What is left to read. -/
def WL (l : List UInt8) (n k f : Nat) (acc R : List (List UInt8)) : Prop := (k ≤ n → acc ++ L6.w6 ((l.drop f).take (k - f)) (l.drop k) = R) ∧ (k = n + 1 → acc = R)
def WordsV (ws : List (List UInt8)) (w : World) (e : Ending) (w' : World) : Prop := ∃ (A : Option Addr) (c : Nat), e = .returned (.slice A ws.length c) ∧ ListAt 1 eWrd w' A ws ∧ Below w.heap.size w w'
set_option maxHeartbeats 4000000 in
theorem words6_any (s : ByteArray) (w : World) (hs : s.size ≤ 1000) : Calls Tryz.prog 50 #[.string s] w (WordsV (L6.words6 s.data.toList) w) := by
  obtain ⟨n, hn⟩ : ∃ n, s.size = n := ⟨_, rfl⟩
  have hl : s.data.toList.length = n := by rw [← hn, Lib.size_eq]
  obtain ⟨R, hR⟩ : ∃ R, L6.words6 s.data.toList = R := ⟨_, rfl⟩
  rw [hR]
  have HW0 : Hid (WL s.data.toList n 0 0 [] R) := Lib.hid ⟨fun _ => by rw [← hR]; rfl, fun h => absurd h (by omega)⟩
  have HL := Lib.hid hl
  have hn2 : n ≤ 1000 := by omega
  clear hl hs hR
  go_enter Tryz.func50, Tryz.ntmps50
  go_wp2_with fail
  go_loopw [3, 4, 5] (fun v fv i wr => ∃ (k f : Nat) (acc : List (List UInt8)), k ≤ n + 1 ∧ i = .int .i64 k ∧ fv = .int .i64 f ∧ f ≤ k ∧ acc.length ≤ k ∧ Hid (WL s.data.toList n k f acc R) ∧ Hid (OwnL 9 1 eWrd wr w.heap.size v acc) ∧ Hid (Below w.heap.size w wr)) (fun _ _ i _ => n + 1 - (intOf i).toNat)
  case atStart => exact ⟨0, 0, [], by omega, rfl, rfl, by omega, by simp, HW0, Lib.hid (OwnL.nil_ _ _), Lib.hid (Below.refl _ _)⟩
  case round =>
    clear HW0
    obtain ⟨k, f, acc, hk, rfl, rfl, hfk, hak, HW, HO, HB⟩ := hrel
    by_cases hle : k ≤ n
    · have hrz := HB.out.size
      obtain ⟨u, hu⟩ : ∃ u, s.extract f k = u := ⟨_, rfl⟩
      have hul := ext_list s f k
      rw [hu] at hul
      have hol : acc.length ≤ 900000 := by omega
      have c1 : (f : Int) ≤ k := by omega
      have c2 : (k : Int) ≤ n := by omega
      have c3 : (0 : Int) ≤ f := by omega
      by_cases hstop : k = n ∨ s.data.toList[k]? = some 32
      · -- a word ends here
        have NW : ∀ acc', (acc' = if f < k then acc ++ [u.data.toList] else acc) → WL s.data.toList n (k + 1) (k + 1) acc' R := by
          intro acc' ha
          have h1 := HW.out.1 hle
          have he : ((s.data.toList.drop f).take (k - f)).isEmpty = decide (¬ f < k) := by
            by_cases h : f < k
            · have hlen : ((s.data.toList.drop f).take (k - f)).length = k - f := by rw [List.length_take, List.length_drop, HL.out]; omega
              cases hx : (s.data.toList.drop f).take (k - f) with
              | nil => rw [hx] at hlen; simp at hlen; omega
              | cons a t => simp [h]
            · rw [show k - f = 0 by omega]
              simp [h]
          have hstep : acc' ++ L6.w6 [] (s.data.toList.drop (k + 1)) = R := by
            rcases hstop with hkn | h32
            · have e1 : s.data.toList.drop k = [] := List.drop_of_length_le (by rw [HL.out]; omega)
              have e2 : s.data.toList.drop (k + 1) = [] := List.drop_of_length_le (by rw [HL.out]; omega)
              rw [e1, L6.w6_nil, he] at h1
              rw [e2, L6.w6_nil, ha, hul]
              by_cases h : f < k
              · simp [h] at h1 ⊢; exact h1
              · simp [h] at h1 ⊢; exact h1
            · rw [drop_cons' h32, L6.w6_cons, if_pos rfl, he] at h1
              rw [ha, hul]
              by_cases h : f < k
              · simp [h] at h1 ⊢; exact h1
              · simp [h] at h1 ⊢; exact h1
          refine ⟨fun h => ?_, fun h => ?_⟩
          · rw [Nat.sub_self, List.take_zero]
            exact hstep
          · have e2 : s.data.toList.drop (k + 1) = [] := List.drop_of_length_le (by rw [HL.out]; omega)
            rw [e2, L6.w6_nil] at hstep
            simpa using hstep
        have HNW := Lib.hid NW
        have hst : ((k : Int) == n) = true ∨ (((k : Int) == n) = false ∧ s.data.toList[k]? = some 32) := by
          by_cases hkn : k = n
          · left; simp [hkn]
          · right
            refine ⟨by simp only [beq_eq_false_iff_ne, ne_eq]; omega, hstop.resolve_left hkn⟩
        clear NW hstop HW
        by_cases hf : f < k
        · have hf' : decide ((f : Int) < k) = true := by simp; omega
          have HN := Lib.hid (HNW.out (acc ++ [u.data.toList]) (by rw [if_pos hf]))
          have O1 := Lib.hid (HO.out.alloc (.cells #[.string u] 9))
          have C1 : Hid (∀ j, j < 1 → (wr.alloc (.cells #[.string u] 9)).cell? ⟨wr.heap.size, j, none⟩ = some (eWrd u.data.toList j)) := Lib.hid (fun j hj => by
            obtain rfl : j = 0 := by omega
            rw [World.cell?_alloc_new]
            unfold eWrd
            rw [Lib.mk_data]
            rfl)
          rcases hst with hkn | ⟨hkn, h32⟩
          · clear HNW hul
            go_wp2_with (at_builtin; refine wp_append_one kWrd _ rfl _ _ rfl w.heap.size _ acc rfl O1.out wr.heap.size u.data.toList rfl C1.out hol (by simp; omega) ?_; intro gg cap w9 hO9 hB9 hg9 hgo9 _)
            have HO9 := Lib.hid hO9
            have HB9 := Lib.hid ((HB.out.alloc hrz _).trans hB9)
            clear hO9 hB9 hg9 hgo9
            go_roundw
            case rel => exact ⟨k + 1, k + 1, acc ++ [u.data.toList], by omega, by go_num, by go_num, by omega, by simp; omega, HN, HO9, HB9⟩
            case measure => simp [intOf]; omega
          · have k0 : ∀ w, (Instr.index 9 (.string s) (.int .i64 (k : Int))).run Tryz.prog w = .ok (.int .u8 32) w := fun w => str_at h32 9 Tryz.underlying9 w
            clear HNW hul h32
            go_wp2_with (at_builtin; refine wp_append_one kWrd _ rfl _ _ rfl w.heap.size _ acc rfl O1.out wr.heap.size u.data.toList rfl C1.out hol (by simp; omega) ?_; intro gg cap w9 hO9 hB9 hg9 hgo9 _)
            have HO9 := Lib.hid hO9
            have HB9 := Lib.hid ((HB.out.alloc hrz _).trans hB9)
            clear hO9 hB9 hg9 hgo9
            go_roundw
            case rel => exact ⟨k + 1, k + 1, acc ++ [u.data.toList], by omega, by go_num, by go_num, by omega, by simp; omega, HN, HO9, HB9⟩
            case measure => simp [intOf]; omega
        · have hf' : decide ((f : Int) < k) = false := by simp; omega
          have HN := Lib.hid (HNW.out acc (by rw [if_neg hf]))
          rcases hst with hkn | ⟨hkn, h32⟩
          · clear HNW hul
            go_wp2_with fail
            go_roundw
            case rel => exact ⟨k + 1, k + 1, acc, by omega, by go_num, by go_num, by omega, by omega, HN, HO, HB⟩
            case measure => simp [intOf]; omega
          · have k0 : ∀ w, (Instr.index 9 (.string s) (.int .i64 (k : Int))).run Tryz.prog w = .ok (.int .u8 32) w := fun w => str_at h32 9 Tryz.underlying9 w
            clear HNW hul h32
            go_wp2_with fail
            go_roundw
            case rel => exact ⟨k + 1, k + 1, acc, by omega, by go_num, by go_num, by omega, by omega, HN, HO, HB⟩
            case measure => simp [intOf]; omega
      · have hkn : k < n := by
          rcases Nat.lt_or_ge k n with h | h
          · exact h
          · exact absurd (.inl (by omega)) hstop
        obtain ⟨c, hc⟩ : ∃ c, s.data.toList[k]? = some c := ⟨_, List.getElem?_eq_getElem (by rw [HL.out]; exact hkn)⟩
        have hc32 : c ≠ 32 := fun e => hstop (.inr (by rw [hc, e]))
        have hkn' : ((k : Int) == n) = false := by simp only [beq_eq_false_iff_ne, ne_eq]; omega
        have hc' : ((c.toNat : Int) == 32) = false := by
          simp only [beq_eq_false_iff_ne, ne_eq]
          intro h
          exact hc32 (UInt8.toNat_inj.1 (by show c.toNat = 32; omega))
        have k0 : ∀ w, (Instr.index 9 (.string s) (.int .i64 (k : Int))).run Tryz.prog w = .ok (.int .u8 (c.toNat : Int)) w := fun w => str_at hc 9 Tryz.underlying9 w
        have HN : Hid (WL s.data.toList n (k + 1) f acc R) := Lib.hid ⟨fun h => by
          have h1 := HW.out.1 hle
          rw [drop_cons' hc, L6.w6_cons, if_neg hc32] at h1
          rw [show (s.data.toList.drop f).take (k + 1 - f) = (s.data.toList.drop f).take (k - f) ++ [c] by
            have e : (s.data.toList.drop f)[k - f]? = some c := by rw [List.getElem?_drop, show f + (k - f) = k by omega]; exact hc
            rw [show k + 1 - f = (k - f) + 1 by omega, List.take_add_one, e]
            rfl]
          exact h1, fun h => absurd h (by omega)⟩
        clear hc hc32 hul hstop HW
        go_wp2_with fail
        go_roundw
        case rel => exact ⟨k + 1, f, acc, by omega, by go_num, rfl, by omega, by omega, HN, HO, HB⟩
        case measure => simp [intOf]; omega
    · have hacc : acc = R := HW.out.2 (by omega)
      subst hacc
      obtain ⟨A, c, rfl, _, _, hla⟩ := HO.out.shape
      have HLA := Lib.hid hla
      clear HW HO hla
      go_wp2_with fail
      go_ret
      exact ⟨A, c, rfl, HLA.out, HB.out⟩
theorem words6_is {s : ByteArray} {ws : List (List UInt8)} (h : L6.words6 s.data.toList = ws) (w : World) (hs : s.size ≤ 1000) : Calls Tryz.prog 50 #[.string s] w (WordsV ws w) := h ▸ words6_any s w hs
end Go.Proofs.YtoohijffkbkikaaGreatDoor
