/- slices.SortStableFunc over occurrences: blocks of 20, then merging. -/
import Derived.Test.YtndngkfiamdohaaDoorZsf
namespace Go.Proofs.YtndngkfiamdohaaDoor
open Go.RowKit
set_option linter.unusedVariables false
set_option linter.unusedSimpArgs false

namespace Zs
theorem Blk.snoc {n : Nat} {bl : List L} {A : L} (h : Blk n bl) (hl : A.length = n) (hA : Asc A) : Blk n (bl ++ [A]) := fun B hB => by
  rcases List.mem_append.1 hB with h1 | h1
  · exact h B h1
  · simp at h1; subst h1; exact ⟨hl, hA⟩
theorem Blk.nil {n : Nat} : Blk n [] := fun A h => by cases h
theorem Blk.tail {n : Nat} {A : L} {bl : List L} (h : Blk n (A :: bl)) : Blk n bl := fun B hB => h B (by simp [hB])
end Zs

/-- The row holds the blocks up to a, then the rest; equal ones stand as in l. -/
def St1 (w : World) (g : Nat) (l : Zs.L) (n a : Nat) (W : World) : Prop :=
  ∃ (bl : List Zs.L) (R : Zs.L), bl.flatten.length = a ∧ Zs.Blk 20 bl ∧ a + R.length = n ∧ Zs.Sb (bl.flatten ++ R) l ∧ Sor w g W (bl.flatten ++ R)
/-- The row holds blocks of bs. -/
def St2 (w : World) (g : Nat) (l : Zs.L) (n bs : Nat) (W : World) : Prop :=
  ∃ r : Zs.L, Zs.Runs bs r ∧ r.length = n ∧ Zs.Sb r l ∧ Sor w g W r
/-- The row holds blocks of c up to a, then blocks of bs. -/
def St3 (w : World) (g : Nat) (l : Zs.L) (n bs c a : Nat) (W : World) : Prop :=
  ∃ (q bl : List Zs.L) (S : Zs.L), q.flatten.length = a ∧ Zs.Blk c q ∧ Zs.Blk bs bl ∧ S.length < bs ∧ Zs.Asc S ∧ a + bl.length * bs + S.length = n ∧ Zs.Sb (q.flatten ++ (bl.flatten ++ S)) l ∧ Sor w g W (q.flatten ++ (bl.flatten ++ S))

/-- A call that leads from a world of one kind to one of another. -/
def Go' (f : FuncId) (args : Array Value) (W : World) (Q : World → Prop) : Prop := Calls Tryd.prog f args W fun e w' => e = .returned (.tuple #[]) ∧ Q w'

theorem st1_step {w W : World} {g cap n a : Nat} {l : Zs.L} (hn : n ≤ 100000) (h : St1 w g l n a W) (ha : a + 20 ≤ n) :
    Go' 80 #[.slice (some ⟨g, 0, none⟩) n cap, .int .i64 a, .int .i64 (a + 20 : Nat), .func (.func 66) #[] #[]] W (St1 w g l n (a + 20)) := by
  obtain ⟨bl, R, h1, h2, h3, h4, h5⟩ := h
  have e : R = R.take 20 ++ R.drop 20 := (List.take_append_drop 20 R).symm
  have lt : (R.take 20).length = 20 := by rw [List.length_take]; omega
  have ld : (R.drop 20).length = R.length - 20 := by rw [List.length_drop]
  have hr := h5.1
  rw [e] at hr
  refine (ins_any g cap n a (a + 20) bl.flatten (R.take 20) (R.drop 20) W hr (by omega) hn h1 (by omega)).mono ?_
  rintro e w' ⟨rfl, hs⟩
  refine ⟨rfl, bl ++ [Zs.srt (R.take 20)], R.drop 20, by simp [Zs.srt_len, -List.length_flatten]; omega, h2.snoc (by rw [Zs.srt_len]; exact lt) (Zs.srt_asc _), by omega, ?_, ?_⟩
  · refine Zs.Sb.trans ?_ h4
    rw [List.flatten_append, List.flatten_singleton, List.append_assoc]
    refine (Zs.Sb.refl _).app ?_
    conv => rhs; rw [‹R = _›]
    exact (Zs.srt_sb _).app (Zs.Sb.refl _)
  · rw [List.flatten_append, List.flatten_singleton, List.append_assoc]
    exact h5.trans hs
theorem st1_last {w W : World} {g cap n a : Nat} {l : Zs.L} (hn : n ≤ 100000) (h : St1 w g l n a W) (ha : n < a + 20) :
    Go' 80 #[.slice (some ⟨g, 0, none⟩) n cap, .int .i64 a, .int .i64 n, .func (.func 66) #[] #[]] W (St2 w g l n 20) := by
  obtain ⟨bl, R, h1, h2, h3, h4, h5⟩ := h
  have hr := h5.1
  rw [← List.append_nil R] at hr
  refine (ins_any g cap n a n bl.flatten R [] W hr (by simp [-List.length_flatten]; omega) hn h1 (by omega)).mono ?_
  rintro e w' ⟨rfl, hs⟩
  rw [List.append_nil] at hs
  refine ⟨rfl, bl.flatten ++ Zs.srt R, ⟨bl, _, rfl, h2, by rw [Zs.srt_len]; omega, Zs.srt_asc _⟩, by simp [Zs.srt_len, -List.length_flatten]; omega, ?_, h5.trans hs⟩
  exact ((Zs.Sb.refl _).app (Zs.srt_sb _)).trans h4
theorem st3_start {w W : World} {g n bs c : Nat} {l : Zs.L} (h : St2 w g l n bs W) : St3 w g l n bs c 0 W := by
  obtain ⟨r, ⟨bl, S, rfl, hb, hS, hA⟩, hl, hsb, hs⟩ := h
  have := Zs.flat_len hb
  rw [List.length_append] at hl
  exact ⟨[], bl, S, rfl, Zs.Blk.nil, hb, hS, hA, by omega, by simpa using hsb, by simpa using hs⟩
theorem st3_step {w W : World} {g cap n bs c a : Nat} {l : Zs.L} (hn : n ≤ 100000) (hbs : 0 < bs) (hc : c = 2 * bs) (h : St3 w g l n bs c a W) (ha : a + c ≤ n) :
    Go' 81 #[.slice (some ⟨g, 0, none⟩) n cap, .int .i64 a, .int .i64 (a + bs : Nat), .int .i64 (a + c : Nat), .func (.func 66) #[] #[]] W (St3 w g l n bs c (a + c)) := by
  obtain ⟨q, bl, S, h1, h2, h3, h4, h5, h6, h7, h8⟩ := h
  rcases bl with _ | ⟨A, _ | ⟨B, bl⟩⟩
  · simp at h6; omega
  · simp at h6; omega
  have hA := h3 A (by simp)
  have hB := h3 B (by simp)
  have e : q.flatten ++ ((A :: B :: bl).flatten ++ S) = q.flatten ++ (A ++ (B ++ (bl.flatten ++ S))) := by simp
  have hr := h8.1
  rw [e] at hr
  have hfl := Zs.flat_len h3.tail.tail
  have hlen : a + (bs + (bs + (bl.length * bs + S.length))) = n := by
    have : (A :: B :: bl).length * bs = bl.length * bs + bs + bs := by simp only [List.length_cons, Nat.add_mul, Nat.one_mul]
    omega
  refine (sym_any g cap n hn (A.length + B.length + 1) a (a + bs) (a + c) q.flatten A B (bl.flatten ++ S) (by rw [List.length_append]; omega) h1 (by omega) (by omega) hA.2 hB.2 (by omega) (by omega) (by omega) W hr).mono ?_
  rintro e w' ⟨rfl, hs⟩
  refine ⟨rfl, q ++ [Zs.srt (A ++ B)], bl, S, by simp [Zs.srt_len, -List.length_flatten]; omega, h2.snoc (by rw [Zs.srt_len, List.length_append]; omega) (Zs.srt_asc _), h3.tail.tail, h4, h5, by omega, ?_, ?_⟩
  · refine Zs.Sb.trans ?_ h7
    rw [List.flatten_append, List.flatten_singleton, List.append_assoc]
    refine (Zs.Sb.refl _).app ?_
    simp only [List.flatten_cons, List.append_assoc]
    have f := (Zs.srt_sb (A ++ B)).app (Zs.Sb.refl (bl.flatten ++ S))
    rw [List.append_assoc] at f
    exact f
  · rw [List.flatten_append, List.flatten_singleton, List.append_assoc]
    exact h8.trans hs
theorem st3_merge {w W : World} {g cap n bs c a : Nat} {l : Zs.L} (hn : n ≤ 100000) (hbs : 0 < bs) (hc : c = 2 * bs) (h : St3 w g l n bs c a W) (ha : n < a + c) (hm : a + bs < n) :
    Go' 81 #[.slice (some ⟨g, 0, none⟩) n cap, .int .i64 a, .int .i64 (a + bs : Nat), .int .i64 n, .func (.func 66) #[] #[]] W (St2 w g l n c) := by
  obtain ⟨q, bl, S, h1, h2, h3, h4, h5, h6, h7, h8⟩ := h
  rcases bl with _ | ⟨A, _ | ⟨B, bl⟩⟩
  · simp at h6; omega
  · have hA := h3 A (by simp)
    simp only [List.length_singleton, Nat.one_mul] at h6
    simp only [List.flatten_singleton] at h7 h8
    have hr := h8.1
    rw [← List.append_nil S] at hr
    refine (sym_any g cap n hn (A.length + S.length + 1) a (a + bs) n q.flatten A S [] (by simp [-List.length_flatten]; omega) h1 (by omega) (by omega) hA.2 h5 (by omega) (by omega) (by omega) W hr).mono ?_
    rintro e w' ⟨rfl, hs⟩
    rw [List.append_nil] at hs
    refine ⟨rfl, q.flatten ++ Zs.srt (A ++ S), ⟨q, _, rfl, h2, by rw [Zs.srt_len, List.length_append]; omega, Zs.srt_asc _⟩, by simp [Zs.srt_len, -List.length_flatten]; omega, ?_, h8.trans hs⟩
    exact ((Zs.Sb.refl _).app (Zs.srt_sb _)).trans h7
  · exfalso
    have : (A :: B :: bl).length * bs = bl.length * bs + bs + bs := by simp only [List.length_cons, Nat.add_mul, Nat.one_mul]
    omega
theorem st3_end {w W : World} {g n bs c a : Nat} {l : Zs.L} (hbs : 0 < bs) (hc : c = 2 * bs) (h : St3 w g l n bs c a W) (hm : n ≤ a + bs) : St2 w g l n c W := by
  obtain ⟨q, bl, S, h1, h2, h3, h4, h5, h6, h7, h8⟩ := h
  rcases bl with _ | ⟨A, _ | ⟨B, bl⟩⟩
  · simp only [List.flatten_nil, List.nil_append] at h7 h8
    simp at h6
    exact ⟨_, ⟨q, S, rfl, h2, by omega, h5⟩, by rw [List.length_append]; omega, h7, h8⟩
  · have hA := h3 A (by simp)
    simp only [List.length_singleton, Nat.one_mul] at h6
    have hS : S = [] := List.eq_nil_of_length_eq_zero (by omega)
    subst hS
    simp only [List.flatten_singleton, List.append_nil] at h7 h8
    exact ⟨_, ⟨q, A, rfl, h2, by omega, hA.2⟩, by rw [List.length_append]; simp at h6; omega, h7, h8⟩
  · exfalso
    have : (A :: B :: bl).length * bs = bl.length * bs + bs + bs := by simp only [List.length_cons, Nat.add_mul, Nat.one_mul]
    omega

set_option maxHeartbeats 8000000 in
set_option maxRecDepth 100000 in
theorem stable_any (g cap n : Nat) (l : Zs.L) (w : World) (hR : RowAt w g l) (hl : l.length = n) (hn : n ≤ 100000) :
    Calls Tryd.prog 73 #[.slice (some ⟨g, 0, none⟩) n cap, .int .i64 n, .func (.func 66) #[] #[]] w fun e w' => e = .returned (.tuple #[]) ∧ Sor w g w' (Zs.srt l) := by
  have h0 : St1 w g l n 0 w := ⟨[], l, rfl, Zs.Blk.nil, by omega, Zs.Sb.refl _, Sor.start hR⟩
  have H0 := Lib.hid h0
  clear h0 hR hl
  go_enter Tryd.func73, Tryd.ntmps73
  go_wp2_with fail
  go_loopw [7, 8] (fun va vb wr => ∃ a : Nat, va = .int .i64 a ∧ vb = .int .i64 (a + 20 : Nat) ∧ a ≤ n ∧ Hid (St1 w g l n a wr)) (fun a _ _ => n - (intOf a).toNat)
  case atStart => exact ⟨0, rfl, rfl, by omega, H0⟩
  case round =>
    clear H0
    obtain ⟨a, rfl, rfl, han, HS⟩ := hrel
    obtain ⟨b, hb⟩ : ∃ b, a + 20 = b := ⟨_, rfl⟩
    by_cases hlt : b ≤ n
    · have C := st1_step (cap := cap) hn HS.out (by omega)
      rw [hb] at C ⊢
      have HC := Lib.hid C
      have hab : a < b := by omega
      have HB := Lib.hid hb
      clear C hb
      as_aux_lemma =>
      go_wp2_with fail
      refine HC.out.mono ?_
      rintro e w1 ⟨rfl, h1⟩
      have H1 := Lib.hid h1
      clear h1
      go_wp2_with fail
      go_roundw
      case rel => exact ⟨b, rfl, by go_num, hlt, H1⟩
      case measure => simp [intOf]; omega
    · have C := st1_last (cap := cap) hn HS.out (by omega)
      rw [hb]
      have HC := Lib.hid C
      clear C hb
      as_aux_lemma =>
      go_wp2_with fail
      refine HC.out.mono ?_
      rintro e w1 ⟨rfl, h1⟩
      have H1 := Lib.hid h1
      clear h1 HC HS
      go_wp2_with fail
      go_loopw [6] (fun vs wr => ∃ bs : Nat, vs = .int .i64 bs ∧ 20 ≤ bs ∧ bs ≤ 200020 ∧ Hid (St2 w g l n bs wr)) (fun s _ => n - (intOf s).toNat)
      case atStart => exact ⟨20, rfl, by omega, by omega, H1⟩
      case round =>
        clear H1
        obtain ⟨bs, rfl, hb1, hb2, HS⟩ := hrel
        by_cases hlt2 : bs < n
        · obtain ⟨wo, hwo⟩ : ∃ wo : World, wo = wr := ⟨_, rfl⟩
          obtain ⟨c, hc⟩ : ∃ c, c = 2 * bs := ⟨_, rfl⟩
          have hci : 2 * (bs : Int) = (c : Int) := by omega
          have hci2 : (bs : Int) * 2 = (c : Int) := by omega
          have hc1 : c ≤ 200020 := by omega
          have hc0 : bs < c := by omega
          have hbs0 : 0 < bs := by omega
          have H3 := Lib.hid (st3_start (c := c) HS.out)
          have HCC := Lib.hid hc
          clear hc HS hwo
          as_aux_lemma =>
          go_wp2_with fail
          go_loopw [7, 8] (fun va vb wx => ∃ a b : Nat, va = .int .i64 a ∧ vb = .int .i64 b ∧ a ≤ n ∧ Hid (a + c = b) ∧ b ≤ 400040 ∧ Hid (St3 w g l n bs c a wx)) (fun a _ _ => n - (intOf a).toNat)
          case atStart => exact ⟨0, c, rfl, rfl, by omega, Lib.hid (by omega), by omega, H3⟩
          case round =>
            clear H3
            obtain ⟨a, b, rfl, rfl, han, HAB, hbb, HS⟩ := hrel
            have habi : (a : Int) + bs = ((a + bs : Nat) : Int) := by omega
            obtain ⟨m, hm⟩ : ∃ m, a + bs = m := ⟨_, rfl⟩
            rw [hm] at habi
            have hab : a < b := by have := HAB.out; omega
            by_cases hlt3 : b ≤ n
            · have C := st3_step (cap := cap) hn hbs0 HCC.out HS.out (by have := HAB.out; omega)
              rw [HAB.out, hm] at C
              have HC := Lib.hid C
              clear C hm HS
              as_aux_lemma =>
              go_wp2_with fail
              refine HC.out.mono ?_
              rintro e w2 ⟨rfl, h2⟩
              have H2 := Lib.hid h2
              clear h2 HC
              go_wp2_with fail
              go_roundw
              case rel => exact ⟨b, b + c, rfl, by go_num, hlt3, Lib.hid rfl, by omega, H2⟩
              case measure => simp [intOf]; omega
            · by_cases hmn : m < n
              · have C := st3_merge (cap := cap) hn hbs0 HCC.out HS.out (by have := HAB.out; omega) (by omega)
                rw [hm] at C
                have HC := Lib.hid C
                clear C hm HS
                as_aux_lemma =>
                go_wp2_with fail
                refine HC.out.mono ?_
                rintro e w2 ⟨rfl, h2⟩
                have H2 := Lib.hid h2
                clear h2 HC
                go_wp2_with fail
                go_roundw
                case rel => exact ⟨c, rfl, by omega, hc1, H2⟩
                case measure => simp [intOf]; omega
              · have H2 := Lib.hid (st3_end hbs0 HCC.out HS.out (by omega))
                clear hm HS
                as_aux_lemma =>
                go_wp2_with fail
                go_roundw
                case rel => exact ⟨c, rfl, by omega, hc1, H2⟩
                case measure => simp [intOf]; omega
        · obtain ⟨r, hr, hrl, hrs, hrw⟩ := HS.out
          have := hr.whole (by omega) hrs
          subst this
          have HF := Lib.hid hrw
          clear hr hrl hrs hrw HS
          as_aux_lemma =>
          go_wp2_with fail
          go_end0
          exact ⟨rfl, HF.out⟩

set_option maxHeartbeats 1000000 in
theorem sort_any (g cap n : Nat) (l : Zs.L) (w : World) (hR : RowAt w g l) (hl : l.length = n) (hn : n ≤ 100000) :
    Calls Tryd.prog 65 #[.slice (some ⟨g, 0, none⟩) n cap, .func (.func 66) #[] #[]] w fun e w' => e = .returned (.tuple #[]) ∧ Sor w g w' (Zs.srt l) := by
  have HC := Lib.hid (stable_any g cap n l w hR hl hn)
  clear hR hl
  go_enter Tryd.func65, Tryd.ntmps65
  go_wp2_with fail
  refine HC.out.mono ?_
  rintro e w1 ⟨rfl, h1⟩
  have H1 := Lib.hid h1
  clear h1
  go_wp2_with fail
  go_end0
  exact ⟨rfl, H1.out⟩
end Go.Proofs.YtndngkfiamdohaaDoor
