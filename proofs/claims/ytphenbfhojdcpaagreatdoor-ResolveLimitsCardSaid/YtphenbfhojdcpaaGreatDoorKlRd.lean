/- Package resolve: checkName, checkZone, checkPerson, checkCalendar. Printed by gen_rd.py. -/
import Derived.Test.YtphenbfhojdcpaaGreatDoorKlRc
namespace Go.Proofs.YtphenbfhojdcpaaGreatDoor
open Go.RowKit
set_option linter.unusedVariables false
set_option linter.unusedSimpArgs false
set_option maxRecDepth 100000
theorem name_lst {x : List UInt8} {b : Bool} (h : Lx.nameS x = b) (w : World) : Calls Tryz.prog 69 #[.string ⟨x.toArray⟩] w fun e w' => e = .returned (.bool b) ∧ Below w.heap.size w w' := name_is (s := ⟨x.toArray⟩) h w
theorem find_there {ns : List Rs.Nm} {i : Nat} {x : Rs.Nm} (h : ns[i]? = some x) : Rs.findS ns x = ((Rs.ix x ns : Int), true) ∧ Rs.ix x ns ≤ i := by
  have h1 := Rs.ix_lt h
  have h2 := (List.getElem?_eq_some_iff.1 h).1
  unfold Rs.findS
  rw [if_pos (by omega)]
  exact ⟨rfl, h1⟩
section
variable {α β : Type} {k : Nat} {e : α × β → Nat → Value} {Q : Nat → Nat → World → α → β → Prop}
end
/-- The elements stand in every world behind. -/
theorem z_nest {w w' : World} {v : SV} {l : List Rs.Zone} (h : Nest 3 eZone ZoneOk 0 w.heap.size w v l) (hb : Below w.heap.size w w') : Nest 3 eZone ZoneOk 0 w'.heap.size w' v l :=
  (h.kept (fun _ _ => ZoneOk.kept (.of_below hb (Nat.le_refl _))) (.of_below hb (Nat.le_refl _))).mono (fun _ _ => ZoneOk.mono (Nat.le_refl _) hb.size) (Nat.le_refl _) hb.size
set_option maxHeartbeats 4000000 in
theorem z_name {l : List Rs.Zone} {i : Nat} {xn : List UInt8} (hx : (l.map (·.name))[i]? = some xn) {R : Int} (hR : Rs.nameE (l.map (·.name)) i xn = R) (A : Option Addr) (n c : Nat) (w : World) (hA : Nest 3 eZone ZoneOk 0 w.heap.size w (A, n, c) l) :
    Calls Tryz.prog 39 #[.slice A n c, .func (.func 40) #[] #[], .int .i64 i] w fun e w' => e = .returned (.int .i64 R) ∧ Below w.heap.size w w' := by
  have hlen := hA.len
  simp only at hlen
  have hi : i < n := by have h := (List.getElem?_eq_some_iff.1 hx).1; rw [List.length_map] at h; omega
  obtain ⟨x, y, b, off, hx2, ea, hb, d0, d1, d2, -⟩ := z_elem hA (i := i) hi
  simp only at ea
  subst ea
  obtain rfl : x.name = xn := by rw [List.getElem?_map, hx2] at hx; exact Option.some.inj hx
  obtain ⟨q, hq⟩ : ∃ q, Rs.ix x.name (l.map (·.name)) = q := ⟨_, rfl⟩
  have hf := find_there hx
  rw [hq] at hf
  obtain ⟨hf1, hf2⟩ := hf
  obtain ⟨p, hp⟩ : ∃ p, Lx.nameS x.name = p := ⟨_, rfl⟩
  unfold Rs.nameE at hR
  rw [hp, hq] at hR
  have HA := Lib.hid hA
  have HF := Lib.hid hf1
  have HP := Lib.hid hp
  clear hA hf1 hp hx hx2 hq
  generalize hxn : x.name = xn at HF HP d0
  generalize x.off = i1 at d1
  generalize y.1 = A2 at d2; generalize y.2.1 = n2 at d2; generalize y.2.2 = c2 at d2
  clear hxn
  have HN := Lib.hid (fun W => z_nm xn i1 A2 n2 c2 W)
  have h0 : (0 : Int) ≤ i := by omega
  have h1 : (i : Int) < n := by omega
  cases p
  · obtain rfl : R = 2 := by rw [if_pos rfl] at hR; exact hR.symm
    clear hR
    go_enter Tryz.func39, Tryz.ntmps39
    go_wp2_with fail
    refine (HN.out _).mono ?_
    rintro e w1 ⟨rfl, b1⟩
    go_wp2_with fail
    refine (name_lst HP.out _).mono ?_
    rintro e w2 ⟨rfl, b2⟩
    have B2 := bstep b1 b2
    clear b1 b2
    go_wp2_with fail
    go_ret
    exact ⟨rfl, B2⟩
  · rw [if_neg (by decide)] at hR
    by_cases hlt : q < i
    · obtain rfl : R = 4 := by rw [if_pos hlt] at hR; exact hR.symm
      have hd : decide ((q : Int) < i) = true := decide_eq_true (by omega)
      clear hR
      go_enter Tryz.func39, Tryz.ntmps39
      go_wp2_with fail
      refine (HN.out _).mono ?_
      rintro e w1 ⟨rfl, b1⟩
      go_wp2_with fail
      refine (name_lst HP.out _).mono ?_
      rintro e w2 ⟨rfl, b2⟩
      have B2 := bstep b1 b2
      have C := Lib.hid (z_find HF.out (some ⟨b, off, none⟩) n c w2 (z_nest HA.out B2))
      clear b1 b2
      go_wp2_with fail
      refine C.out.mono ?_
      rintro e w3 ⟨rfl, b3⟩
      have B3 := bstep B2 b3
      clear b3 B2
      go_wp2_with fail
      go_ret
      exact ⟨rfl, B3⟩
    · obtain rfl : R = 0 := by rw [if_neg hlt] at hR; exact hR.symm
      have hd : decide ((q : Int) < i) = false := decide_eq_false (by omega)
      clear hR
      go_enter Tryz.func39, Tryz.ntmps39
      go_wp2_with fail
      refine (HN.out _).mono ?_
      rintro e w1 ⟨rfl, b1⟩
      go_wp2_with fail
      refine (name_lst HP.out _).mono ?_
      rintro e w2 ⟨rfl, b2⟩
      have B2 := bstep b1 b2
      have C := Lib.hid (z_find HF.out (some ⟨b, off, none⟩) n c w2 (z_nest HA.out B2))
      clear b1 b2
      go_wp2_with fail
      refine C.out.mono ?_
      rintro e w3 ⟨rfl, b3⟩
      have B3 := bstep B2 b3
      clear b3 B2
      go_wp2_with fail
      go_ret
      exact ⟨rfl, B3⟩
/-- The elements stand in every world behind. -/
theorem p_nest {w w' : World} {v : SV} {l : List Rs.Pers} (h : Nest 6 ePers PersOk 0 w.heap.size w v l) (hb : Below w.heap.size w w') : Nest 6 ePers PersOk 0 w'.heap.size w' v l :=
  (h.kept (fun _ _ => PersOk.kept (.of_below hb (Nat.le_refl _))) (.of_below hb (Nat.le_refl _))).mono (fun _ _ => PersOk.mono (Nat.le_refl _) hb.size) (Nat.le_refl _) hb.size
set_option maxHeartbeats 4000000 in
theorem p_name {l : List Rs.Pers} {i : Nat} {xn : List UInt8} (hx : (l.map (·.name))[i]? = some xn) {R : Int} (hR : Rs.nameE (l.map (·.name)) i xn = R) (A : Option Addr) (n c : Nat) (w : World) (hA : Nest 6 ePers PersOk 0 w.heap.size w (A, n, c) l) :
    Calls Tryz.prog 43 #[.slice A n c, .func (.func 36) #[] #[], .int .i64 i] w fun e w' => e = .returned (.int .i64 R) ∧ Below w.heap.size w w' := by
  have hlen := hA.len
  simp only at hlen
  have hi : i < n := by have h := (List.getElem?_eq_some_iff.1 hx).1; rw [List.length_map] at h; omega
  obtain ⟨x, y, b, off, hx2, ea, hb, d0, d1, d2, d3, d4, d5, -⟩ := p_elem hA (i := i) hi
  simp only at ea
  subst ea
  obtain rfl : x.name = xn := by rw [List.getElem?_map, hx2] at hx; exact Option.some.inj hx
  obtain ⟨q, hq⟩ : ∃ q, Rs.ix x.name (l.map (·.name)) = q := ⟨_, rfl⟩
  have hf := find_there hx
  rw [hq] at hf
  obtain ⟨hf1, hf2⟩ := hf
  obtain ⟨p, hp⟩ : ∃ p, Lx.nameS x.name = p := ⟨_, rfl⟩
  unfold Rs.nameE at hR
  rw [hp, hq] at hR
  have HA := Lib.hid hA
  have HF := Lib.hid hf1
  have HP := Lib.hid hp
  clear hA hf1 hp hx hx2 hq
  generalize hxn : x.name = xn at HF HP d0
  generalize x.zone = i1 at d1
  generalize y.1 = A2 at d2; generalize y.2.1 = n2 at d2; generalize y.2.2 = c2 at d2
  generalize x.maxw = i3 at d3
  generalize x.minr = i4 at d4
  generalize x.cons = i5 at d5
  clear hxn
  have HN := Lib.hid (fun W => p_nm xn i1 A2 n2 c2 i3 i4 i5 W)
  have h0 : (0 : Int) ≤ i := by omega
  have h1 : (i : Int) < n := by omega
  cases p
  · obtain rfl : R = 2 := by rw [if_pos rfl] at hR; exact hR.symm
    clear hR
    go_enter Tryz.func43, Tryz.ntmps43
    go_wp2_with fail
    refine (HN.out _).mono ?_
    rintro e w1 ⟨rfl, b1⟩
    go_wp2_with fail
    refine (name_lst HP.out _).mono ?_
    rintro e w2 ⟨rfl, b2⟩
    have B2 := bstep b1 b2
    clear b1 b2
    go_wp2_with fail
    go_ret
    exact ⟨rfl, B2⟩
  · rw [if_neg (by decide)] at hR
    by_cases hlt : q < i
    · obtain rfl : R = 4 := by rw [if_pos hlt] at hR; exact hR.symm
      have hd : decide ((q : Int) < i) = true := decide_eq_true (by omega)
      clear hR
      go_enter Tryz.func43, Tryz.ntmps43
      go_wp2_with fail
      refine (HN.out _).mono ?_
      rintro e w1 ⟨rfl, b1⟩
      go_wp2_with fail
      refine (name_lst HP.out _).mono ?_
      rintro e w2 ⟨rfl, b2⟩
      have B2 := bstep b1 b2
      have C := Lib.hid (p_find HF.out (some ⟨b, off, none⟩) n c w2 (p_nest HA.out B2))
      clear b1 b2
      go_wp2_with fail
      refine C.out.mono ?_
      rintro e w3 ⟨rfl, b3⟩
      have B3 := bstep B2 b3
      clear b3 B2
      go_wp2_with fail
      go_ret
      exact ⟨rfl, B3⟩
    · obtain rfl : R = 0 := by rw [if_neg hlt] at hR; exact hR.symm
      have hd : decide ((q : Int) < i) = false := decide_eq_false (by omega)
      clear hR
      go_enter Tryz.func43, Tryz.ntmps43
      go_wp2_with fail
      refine (HN.out _).mono ?_
      rintro e w1 ⟨rfl, b1⟩
      go_wp2_with fail
      refine (name_lst HP.out _).mono ?_
      rintro e w2 ⟨rfl, b2⟩
      have B2 := bstep b1 b2
      have C := Lib.hid (p_find HF.out (some ⟨b, off, none⟩) n c w2 (p_nest HA.out B2))
      clear b1 b2
      go_wp2_with fail
      refine C.out.mono ?_
      rintro e w3 ⟨rfl, b3⟩
      have B3 := bstep B2 b3
      clear b3 B2
      go_wp2_with fail
      go_ret
      exact ⟨rfl, B3⟩
/-- The elements stand in every world behind. -/
theorem c_nest {w w' : World} {v : SV} {l : List Rs.Cal} (h : Nest 3 eCal CalOk 0 w.heap.size w v l) (hb : Below w.heap.size w w') : Nest 3 eCal CalOk 0 w'.heap.size w' v l :=
  (h.kept (fun _ _ => CalOk.kept (.of_below hb (Nat.le_refl _))) (.of_below hb (Nat.le_refl _))).mono (fun _ _ => CalOk.mono (Nat.le_refl _) hb.size) (Nat.le_refl _) hb.size
set_option maxHeartbeats 4000000 in
theorem c_name {l : List Rs.Cal} {i : Nat} {xn : List UInt8} (hx : (l.map (·.name))[i]? = some xn) {R : Int} (hR : Rs.nameE (l.map (·.name)) i xn = R) (A : Option Addr) (n c : Nat) (w : World) (hA : Nest 3 eCal CalOk 0 w.heap.size w (A, n, c) l) :
    Calls Tryz.prog 47 #[.slice A n c, .func (.func 48) #[] #[], .int .i64 i] w fun e w' => e = .returned (.int .i64 R) ∧ Below w.heap.size w w' := by
  have hlen := hA.len
  simp only at hlen
  have hi : i < n := by have h := (List.getElem?_eq_some_iff.1 hx).1; rw [List.length_map] at h; omega
  obtain ⟨x, y, b, off, hx2, ea, hb, d0, d1, d2, -⟩ := c_elem hA (i := i) hi
  simp only at ea
  subst ea
  obtain rfl : x.name = xn := by rw [List.getElem?_map, hx2] at hx; exact Option.some.inj hx
  obtain ⟨q, hq⟩ : ∃ q, Rs.ix x.name (l.map (·.name)) = q := ⟨_, rfl⟩
  have hf := find_there hx
  rw [hq] at hf
  obtain ⟨hf1, hf2⟩ := hf
  obtain ⟨p, hp⟩ : ∃ p, Lx.nameS x.name = p := ⟨_, rfl⟩
  unfold Rs.nameE at hR
  rw [hp, hq] at hR
  have HA := Lib.hid hA
  have HF := Lib.hid hf1
  have HP := Lib.hid hp
  clear hA hf1 hp hx hx2 hq
  generalize hxn : x.name = xn at HF HP d0
  generalize x.zone = i1 at d1
  generalize y.1 = A2 at d2; generalize y.2.1 = n2 at d2; generalize y.2.2 = c2 at d2
  clear hxn
  have HN := Lib.hid (fun W => c_nm xn i1 A2 n2 c2 W)
  have h0 : (0 : Int) ≤ i := by omega
  have h1 : (i : Int) < n := by omega
  cases p
  · obtain rfl : R = 2 := by rw [if_pos rfl] at hR; exact hR.symm
    clear hR
    go_enter Tryz.func47, Tryz.ntmps47
    go_wp2_with fail
    refine (HN.out _).mono ?_
    rintro e w1 ⟨rfl, b1⟩
    go_wp2_with fail
    refine (name_lst HP.out _).mono ?_
    rintro e w2 ⟨rfl, b2⟩
    have B2 := bstep b1 b2
    clear b1 b2
    go_wp2_with fail
    go_ret
    exact ⟨rfl, B2⟩
  · rw [if_neg (by decide)] at hR
    by_cases hlt : q < i
    · obtain rfl : R = 4 := by rw [if_pos hlt] at hR; exact hR.symm
      have hd : decide ((q : Int) < i) = true := decide_eq_true (by omega)
      clear hR
      go_enter Tryz.func47, Tryz.ntmps47
      go_wp2_with fail
      refine (HN.out _).mono ?_
      rintro e w1 ⟨rfl, b1⟩
      go_wp2_with fail
      refine (name_lst HP.out _).mono ?_
      rintro e w2 ⟨rfl, b2⟩
      have B2 := bstep b1 b2
      have C := Lib.hid (c_find HF.out (some ⟨b, off, none⟩) n c w2 (c_nest HA.out B2))
      clear b1 b2
      go_wp2_with fail
      refine C.out.mono ?_
      rintro e w3 ⟨rfl, b3⟩
      have B3 := bstep B2 b3
      clear b3 B2
      go_wp2_with fail
      go_ret
      exact ⟨rfl, B3⟩
    · obtain rfl : R = 0 := by rw [if_neg hlt] at hR; exact hR.symm
      have hd : decide ((q : Int) < i) = false := decide_eq_false (by omega)
      clear hR
      go_enter Tryz.func47, Tryz.ntmps47
      go_wp2_with fail
      refine (HN.out _).mono ?_
      rintro e w1 ⟨rfl, b1⟩
      go_wp2_with fail
      refine (name_lst HP.out _).mono ?_
      rintro e w2 ⟨rfl, b2⟩
      have B2 := bstep b1 b2
      have C := Lib.hid (c_find HF.out (some ⟨b, off, none⟩) n c w2 (c_nest HA.out B2))
      clear b1 b2
      go_wp2_with fail
      refine C.out.mono ?_
      rintro e w3 ⟨rfl, b3⟩
      have B3 := bstep B2 b3
      clear b3 B2
      go_wp2_with fail
      go_ret
      exact ⟨rfl, B3⟩
/-- The elements stand in every world behind. -/
theorem s_nest {w w' : World} {v : SV} {l : List Rs.Sch} (h : Nest 3 eSch SchOk 0 w.heap.size w v l) (hb : Below w.heap.size w w') : Nest 3 eSch SchOk 0 w'.heap.size w' v l :=
  (h.kept (fun _ _ => SchOk.kept (.of_below hb (Nat.le_refl _))) (.of_below hb (Nat.le_refl _))).mono (fun _ _ => SchOk.mono (Nat.le_refl _) hb.size) (Nat.le_refl _) hb.size
set_option maxHeartbeats 4000000 in
theorem s_name {l : List Rs.Sch} {i : Nat} {xn : List UInt8} (hx : (l.map (·.name))[i]? = some xn) {R : Int} (hR : Rs.nameE (l.map (·.name)) i xn = R) (A : Option Addr) (n c : Nat) (w : World) (hA : Nest 3 eSch SchOk 0 w.heap.size w (A, n, c) l) :
    Calls Tryz.prog 52 #[.slice A n c, .func (.func 38) #[] #[], .int .i64 i] w fun e w' => e = .returned (.int .i64 R) ∧ Below w.heap.size w w' := by
  have hlen := hA.len
  simp only at hlen
  have hi : i < n := by have h := (List.getElem?_eq_some_iff.1 hx).1; rw [List.length_map] at h; omega
  obtain ⟨x, y, b, off, hx2, ea, hb, d0, d1, d2, -⟩ := s_elem hA (i := i) hi
  simp only at ea
  subst ea
  obtain rfl : x.name = xn := by rw [List.getElem?_map, hx2] at hx; exact Option.some.inj hx
  obtain ⟨q, hq⟩ : ∃ q, Rs.ix x.name (l.map (·.name)) = q := ⟨_, rfl⟩
  have hf := find_there hx
  rw [hq] at hf
  obtain ⟨hf1, hf2⟩ := hf
  obtain ⟨p, hp⟩ : ∃ p, Lx.nameS x.name = p := ⟨_, rfl⟩
  unfold Rs.nameE at hR
  rw [hp, hq] at hR
  have HA := Lib.hid hA
  have HF := Lib.hid hf1
  have HP := Lib.hid hp
  clear hA hf1 hp hx hx2 hq
  generalize hxn : x.name = xn at HF HP d0
  generalize y.1.1 = A1 at d1; generalize y.1.2.1 = n1 at d1; generalize y.1.2.2 = c1 at d1
  generalize y.2.1 = A2 at d2; generalize y.2.2.1 = n2 at d2; generalize y.2.2.2 = c2 at d2
  clear hxn
  have HN := Lib.hid (fun W => s_nm xn A1 n1 c1 A2 n2 c2 W)
  have h0 : (0 : Int) ≤ i := by omega
  have h1 : (i : Int) < n := by omega
  cases p
  · obtain rfl : R = 2 := by rw [if_pos rfl] at hR; exact hR.symm
    clear hR
    go_enter Tryz.func52, Tryz.ntmps52
    go_wp2_with fail
    refine (HN.out _).mono ?_
    rintro e w1 ⟨rfl, b1⟩
    go_wp2_with fail
    refine (name_lst HP.out _).mono ?_
    rintro e w2 ⟨rfl, b2⟩
    have B2 := bstep b1 b2
    clear b1 b2
    go_wp2_with fail
    go_ret
    exact ⟨rfl, B2⟩
  · rw [if_neg (by decide)] at hR
    by_cases hlt : q < i
    · obtain rfl : R = 4 := by rw [if_pos hlt] at hR; exact hR.symm
      have hd : decide ((q : Int) < i) = true := decide_eq_true (by omega)
      clear hR
      go_enter Tryz.func52, Tryz.ntmps52
      go_wp2_with fail
      refine (HN.out _).mono ?_
      rintro e w1 ⟨rfl, b1⟩
      go_wp2_with fail
      refine (name_lst HP.out _).mono ?_
      rintro e w2 ⟨rfl, b2⟩
      have B2 := bstep b1 b2
      have C := Lib.hid (s_find HF.out (some ⟨b, off, none⟩) n c w2 (s_nest HA.out B2))
      clear b1 b2
      go_wp2_with fail
      refine C.out.mono ?_
      rintro e w3 ⟨rfl, b3⟩
      have B3 := bstep B2 b3
      clear b3 B2
      go_wp2_with fail
      go_ret
      exact ⟨rfl, B3⟩
    · obtain rfl : R = 0 := by rw [if_neg hlt] at hR; exact hR.symm
      have hd : decide ((q : Int) < i) = false := decide_eq_false (by omega)
      clear hR
      go_enter Tryz.func52, Tryz.ntmps52
      go_wp2_with fail
      refine (HN.out _).mono ?_
      rintro e w1 ⟨rfl, b1⟩
      go_wp2_with fail
      refine (name_lst HP.out _).mono ?_
      rintro e w2 ⟨rfl, b2⟩
      have B2 := bstep b1 b2
      have C := Lib.hid (s_find HF.out (some ⟨b, off, none⟩) n c w2 (s_nest HA.out B2))
      clear b1 b2
      go_wp2_with fail
      refine C.out.mono ?_
      rintro e w3 ⟨rfl, b3⟩
      have B3 := bstep B2 b3
      clear b3 B2
      go_wp2_with fail
      go_ret
      exact ⟨rfl, B3⟩
/-- The elements stand in every world behind. -/
theorem l_nest {w w' : World} {v : SV} {l : List Rs.Lay} (h : Nest 10 eLay LayOk 0 w.heap.size w v l) (hb : Below w.heap.size w w') : Nest 10 eLay LayOk 0 w'.heap.size w' v l :=
  (h.kept (fun _ _ => LayOk.kept (.of_below hb (Nat.le_refl _))) (.of_below hb (Nat.le_refl _))).mono (fun _ _ => LayOk.mono (Nat.le_refl _) hb.size) (Nat.le_refl _) hb.size
set_option maxHeartbeats 4000000 in
theorem l_name {l : List Rs.Lay} {i : Nat} {xn : List UInt8} (hx : (l.map (·.name))[i]? = some xn) {R : Int} (hR : Rs.nameE (l.map (·.name)) i xn = R) (A : Option Addr) (n c : Nat) (w : World) (hA : Nest 10 eLay LayOk 0 w.heap.size w (A, n, c) l) :
    Calls Tryz.prog 77 #[.slice A n c, .func (.func 78) #[] #[], .int .i64 i] w fun e w' => e = .returned (.int .i64 R) ∧ Below w.heap.size w w' := by
  have hlen := hA.len
  simp only at hlen
  have hi : i < n := by have h := (List.getElem?_eq_some_iff.1 hx).1; rw [List.length_map] at h; omega
  obtain ⟨x, y, b, off, hx2, ea, hb, d0, d1, d2, d3, d4, d5, d6, d7, d8, d9, -⟩ := l_elem hA (i := i) hi
  simp only at ea
  subst ea
  obtain rfl : x.name = xn := by rw [List.getElem?_map, hx2] at hx; exact Option.some.inj hx
  obtain ⟨q, hq⟩ : ∃ q, Rs.ix x.name (l.map (·.name)) = q := ⟨_, rfl⟩
  have hf := find_there hx
  rw [hq] at hf
  obtain ⟨hf1, hf2⟩ := hf
  obtain ⟨p, hp⟩ : ∃ p, Lx.nameS x.name = p := ⟨_, rfl⟩
  unfold Rs.nameE at hR
  rw [hp, hq] at hR
  have HA := Lib.hid hA
  have HF := Lib.hid hf1
  have HP := Lib.hid hp
  clear hA hf1 hp hx hx2 hq
  generalize hxn : x.name = xn at HF HP d0
  generalize x.zone = i1 at d1
  generalize x.day = i2 at d2
  generalize x.sec = i3 at d3
  generalize x.unit = i4 at d4
  generalize x.every = i5 at d5
  generalize y.1.1 = A6 at d6; generalize y.1.2.1 = n6 at d6; generalize y.1.2.2 = c6 at d6
  generalize y.2.1 = A7 at d7; generalize y.2.2.1 = n7 at d7; generalize y.2.2.2 = c7 at d7
  generalize x.cal = i8 at d8
  generalize x.mode = i9 at d9
  clear hxn
  have HN := Lib.hid (fun W => l_nm xn i1 i2 i3 i4 i5 A6 n6 c6 A7 n7 c7 i8 i9 W)
  have h0 : (0 : Int) ≤ i := by omega
  have h1 : (i : Int) < n := by omega
  cases p
  · obtain rfl : R = 2 := by rw [if_pos rfl] at hR; exact hR.symm
    clear hR
    go_enter Tryz.func77, Tryz.ntmps77
    go_wp2_with fail
    refine (HN.out _).mono ?_
    rintro e w1 ⟨rfl, b1⟩
    go_wp2_with fail
    refine (name_lst HP.out _).mono ?_
    rintro e w2 ⟨rfl, b2⟩
    have B2 := bstep b1 b2
    clear b1 b2
    go_wp2_with fail
    go_ret
    exact ⟨rfl, B2⟩
  · rw [if_neg (by decide)] at hR
    by_cases hlt : q < i
    · obtain rfl : R = 4 := by rw [if_pos hlt] at hR; exact hR.symm
      have hd : decide ((q : Int) < i) = true := decide_eq_true (by omega)
      clear hR
      go_enter Tryz.func77, Tryz.ntmps77
      go_wp2_with fail
      refine (HN.out _).mono ?_
      rintro e w1 ⟨rfl, b1⟩
      go_wp2_with fail
      refine (name_lst HP.out _).mono ?_
      rintro e w2 ⟨rfl, b2⟩
      have B2 := bstep b1 b2
      have C := Lib.hid (l_find HF.out (some ⟨b, off, none⟩) n c w2 (l_nest HA.out B2))
      clear b1 b2
      go_wp2_with fail
      refine C.out.mono ?_
      rintro e w3 ⟨rfl, b3⟩
      have B3 := bstep B2 b3
      clear b3 B2
      go_wp2_with fail
      go_ret
      exact ⟨rfl, B3⟩
    · obtain rfl : R = 0 := by rw [if_neg hlt] at hR; exact hR.symm
      have hd : decide ((q : Int) < i) = false := decide_eq_false (by omega)
      clear hR
      go_enter Tryz.func77, Tryz.ntmps77
      go_wp2_with fail
      refine (HN.out _).mono ?_
      rintro e w1 ⟨rfl, b1⟩
      go_wp2_with fail
      refine (name_lst HP.out _).mono ?_
      rintro e w2 ⟨rfl, b2⟩
      have B2 := bstep b1 b2
      have C := Lib.hid (l_find HF.out (some ⟨b, off, none⟩) n c w2 (l_nest HA.out B2))
      clear b1 b2
      go_wp2_with fail
      refine C.out.mono ?_
      rintro e w3 ⟨rfl, b3⟩
      have B3 := bstep B2 b3
      clear b3 B2
      go_wp2_with fail
      go_ret
      exact ⟨rfl, B3⟩
end Go.Proofs.YtphenbfhojdcpaaGreatDoor
