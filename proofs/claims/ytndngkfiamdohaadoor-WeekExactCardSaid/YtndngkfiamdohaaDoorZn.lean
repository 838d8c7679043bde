/- Plain facts on time zones: rules, occurrences, transitions, stretches, local times. No program is named here. -/
import Derived.Test.YtndngkfiamdohaaDoorCiv
import Derived.Test.YtndngkfiamdohaaDoorZso
namespace Go.Proofs.YtndngkfiamdohaaDoor
set_option linter.unusedSimpArgs false
set_option linter.unusedVariables false
namespace Zn
abbrev L := List (Int × Int)
structure Rule where
  fr : Int
  to : Int
  mo : Int
  wk : Int
  wd : Int
  sec : Int
  off : Int
instance : Inhabited Rule := ⟨⟨0, 0, 0, 0, 0, 0, 0⟩⟩
def okD (x : Int) : Bool := decide (0 ≤ x ∧ x < 86400)
def okO (x : Int) : Bool := decide (-64800 ≤ x ∧ x ≤ 64800)
def okR (r : Rule) : Bool := decide (1970 ≤ r.fr ∧ r.fr ≤ 2240 ∧ r.fr ≤ r.to ∧ r.to ≤ 2240 ∧ 1 ≤ r.mo ∧ r.mo ≤ 12 ∧ 1 ≤ r.wk ∧ r.wk ≤ 5 ∧ 0 ≤ r.wd ∧ r.wd ≤ 6 ∧ 0 ≤ r.sec ∧ r.sec < 86400 ∧ -64800 ≤ r.off ∧ r.off ≤ 64800)
/-- The day of the rule in the year y. -/
def nth (r : Rule) (y : Int) : Int := Civ.nthD (Civ.num y r.mo 1) (Civ.dim y r.mo) r.wk r.wd
/-- The occurrences of the rule in k years from y on. -/
def occ (r : Rule) (y : Int) : Nat → L
  | 0 => []
  | k + 1 => (nth r y * 86400 + r.sec, r.off) :: occ r (y + 1) k
def yrs (r : Rule) : Nat := (r.to - r.fr + 1).toNat
def occR (r : Rule) : L := occ r r.fr (yrs r)
def flat (rs : List Rule) : L := rs.flatMap occR
def cnt (rs : List Rule) : Int := (rs.map fun r => r.to - r.fr + 1).sum
/-- The transitions of ordered occurrences from an offset on, the first one at ear at the earliest; none if they are too close. -/
def fol : Int → Int → L → Option L
  | _, _, [] => some []
  | now, ear, (loc, o) :: t => if o = now then fol now ear t else
      if o - now ≤ -86400 ∨ 86400 ≤ o - now ∨ loc - now < ear ∨ 8589934592 < loc - now then none
      else (fol o (loc - now + 604800) t).map ((loc - now, o) :: ·)
/-- Transitions, and the error. -/
def trans (off : Int) (rs : List Rule) : L × Int :=
  if okO off = false then ([], 1) else if 16 < rs.length then ([], 5) else if (rs.all okR) = false then ([], 1) else if 640 < cnt rs then ([], 5) else
    match fol off 0 (Zs.srt (flat rs)) with
    | none => ([], 6)
    | some l => (l, 0)
def offAt : Int → L → Int → Int
  | off, [], _ => off
  | off, (a, o) :: t, x => if a ≤ x then offAt o t x else off
/-- First, last, offset. -/
abbrev S := List (Int × Int × Int)
def strs : Int → Int → L → S
  | f, o, [] => [(f, 8589934592, o)]
  | f, o, (a, o') :: t => (f, a - 1, o) :: strs a o' t
def clamp (d : Int) : Int := min (max d (-2)) 99422
def locS (d s : Int) : Int := clamp d * 86400 + s
/-- The instants of a local time. -/
def frm (v : Int) : S → List Int
  | [] => []
  | (f, l, o) :: t => if f ≤ v - o ∧ v - o ≤ l then (v - o) :: frm v t else frm v t
def fst (v : Int) : S → Option Int
  | [] => none
  | (f, l, o) :: t => if max (v - o) f ≤ l then some (max (v - o) f) else fst v t
/-- Day and second. -/
def toL (n : Int) : Int × Int := (n / 86400, n % 86400)

theorem okR_iff {r : Rule} : okR r = true ↔ 1970 ≤ r.fr ∧ r.fr ≤ 2240 ∧ r.fr ≤ r.to ∧ r.to ≤ 2240 ∧ 1 ≤ r.mo ∧ r.mo ≤ 12 ∧ 1 ≤ r.wk ∧ r.wk ≤ 5 ∧ 0 ≤ r.wd ∧ r.wd ≤ 6 ∧ 0 ≤ r.sec ∧ r.sec < 86400 ∧ -64800 ≤ r.off ∧ r.off ≤ 64800 := by unfold okR; simp
theorem okO_iff {x : Int} : okO x = true ↔ -64800 ≤ x ∧ x ≤ 64800 := by unfold okO; simp
theorem okD_iff {x : Int} : okD x = true ↔ 0 ≤ x ∧ x < 86400 := by unfold okD; simp
theorem vld_first {y m : Int} (h1 : 1970 ≤ y) (h2 : y ≤ 2240) (h3 : 1 ≤ m) (h4 : m ≤ 12) : Civ.vld y m 1 := ⟨h1, h2, h3, h4, by omega, by have := Civ.dim_lo (y := y) h3 h4; omega⟩
theorem nth_bd {r : Rule} {y : Int} (h : okR r = true) (h1 : r.fr ≤ y) (h2 : y ≤ r.to) : 0 ≤ nth r y ∧ nth r y < 98981 := by
  rw [okR_iff] at h
  have hv := vld_first (y := y) (m := r.mo) (by omega) (by omega) (by omega) (by omega)
  have hb := Civ.num_bd hv
  have hlo := Civ.dim_lo (y := y) (m := r.mo) (by omega) (by omega)
  have hl : Civ.num y r.mo (Civ.dim y r.mo) < 98981 ∧ 0 ≤ Civ.num y r.mo 1 := ⟨(Civ.num_bd (show Civ.vld y r.mo (Civ.dim y r.mo) from ⟨by omega, by omega, by omega, by omega, by omega, by omega⟩)).2.2.2.2.2, hb.2.2.2.2.1⟩
  unfold Civ.num at hl
  have wb := Civ.wd_bd (Civ.num y r.mo 1)
  have e : Civ.num y r.mo 1 = Civ.ny y + Civ.cum y r.mo + 1 - 1 := rfl
  unfold nth Civ.nthD
  rw [e] at wb ⊢
  split <;> omega
theorem occ_snoc (r : Rule) : ∀ (k : Nat) (y : Int), occ r y (k + 1) = occ r y k ++ [(nth r (y + k) * 86400 + r.sec, r.off)]
  | 0, y => by simp [occ]
  | k + 1, y => by
    rw [occ, occ_snoc r k (y + 1)]
    conv => rhs; rw [occ]
    rw [show y + 1 + (k : Int) = y + ((k + 1 : Nat) : Int) by omega]
    rfl
theorem occ_len (r : Rule) : ∀ (k : Nat) (y : Int), (occ r y k).length = k
  | 0, _ => rfl
  | k + 1, y => by rw [occ, List.length_cons, occ_len]
theorem occR_len {r : Rule} (h : okR r = true) : ((occR r).length : Int) = r.to - r.fr + 1 := by
  rw [okR_iff] at h
  unfold occR yrs; rw [occ_len]; omega
theorem flat_len : ∀ {rs : List Rule}, rs.all okR = true → ((flat rs).length : Int) = cnt rs
  | [], _ => rfl
  | r :: t, h => by
    simp only [List.all_cons, Bool.and_eq_true] at h
    have := flat_len h.2
    unfold flat cnt at *
    rw [List.flatMap_cons, List.length_append, List.map_cons, List.sum_cons]
    have := occR_len h.1
    omega
theorem flat_snoc (rs : List Rule) (r : Rule) : flat (rs ++ [r]) = flat rs ++ occR r := by unfold flat; simp
theorem cnt_snoc (rs : List Rule) (r : Rule) : cnt (rs ++ [r]) = cnt rs + (r.to - r.fr + 1) := by unfold cnt; simp
theorem cnt_bd : ∀ {rs : List Rule}, rs.all okR = true → 0 ≤ cnt rs ∧ cnt rs ≤ 271 * rs.length
  | [], _ => by simp [cnt]
  | r :: t, h => by
    simp only [List.all_cons, Bool.and_eq_true] at h
    have := cnt_bd h.2
    have h1 := okR_iff.1 h.1
    unfold cnt at *
    rw [List.map_cons, List.sum_cons, List.length_cons]
    omega

/-! Following the occurrences. -/
theorem fol_skip {now ear loc o : Int} {t : L} (h : o = now) : fol now ear ((loc, o) :: t) = fol now ear t := by rw [fol, if_pos h]
theorem fol_bad {now ear loc o : Int} {t : L} (h : o ≠ now) (h2 : o - now ≤ -86400 ∨ 86400 ≤ o - now ∨ loc - now < ear ∨ 8589934592 < loc - now) : fol now ear ((loc, o) :: t) = none := by rw [fol, if_neg h, if_pos h2]
theorem fol_add {now ear loc o : Int} {t : L} (h : o ≠ now) (h2 : ¬ (o - now ≤ -86400 ∨ 86400 ≤ o - now ∨ loc - now < ear ∨ 8589934592 < loc - now)) : fol now ear ((loc, o) :: t) = (fol o (loc - now + 604800) t).map ((loc - now, o) :: ·) := by rw [fol, if_neg h, if_neg h2]
/-- Where a walk over the occurrences stands. -/
def At (l : L) (f : Option L) (k : Nat) (now ear : Int) (out : L) : Prop := f = (fol now ear (l.drop k)).map (out ++ ·)
theorem At.start (l : L) (off : Int) : At l (fol off 0 l) 0 off 0 [] := by
  unfold At; rw [List.drop_zero]; generalize fol off 0 l = f; cases f <;> simp
theorem At.skip {l : L} {f : Option L} {k : Nat} {now ear loc : Int} {out : L} (h : At l f k now ear out) (hk : k < l.length) (e : l.getD k (0, 0) = (loc, now)) : At l f (k + 1) now ear out := by
  unfold At at *
  rw [h, Zs.drop_cons l k hk, e, fol_skip rfl]
theorem At.bad {l : L} {f : Option L} {k : Nat} {now ear loc o : Int} {out : L} (h : At l f k now ear out) (hk : k < l.length) (e : l.getD k (0, 0) = (loc, o)) (h1 : o ≠ now)
    (h2 : o - now ≤ -86400 ∨ 86400 ≤ o - now ∨ loc - now < ear ∨ 8589934592 < loc - now) : f = none := by
  unfold At at *
  rw [h, Zs.drop_cons l k hk, e, fol_bad h1 h2]; rfl
theorem At.add {l : L} {f : Option L} {k : Nat} {now ear loc o : Int} {out : L} (h : At l f k now ear out) (hk : k < l.length) (e : l.getD k (0, 0) = (loc, o)) (h1 : o ≠ now)
    (h2 : ¬ (o - now ≤ -86400 ∨ 86400 ≤ o - now ∨ loc - now < ear ∨ 8589934592 < loc - now)) : At l f (k + 1) o (loc - now + 604800) (out ++ [(loc - now, o)]) := by
  unfold At at *
  rw [h, Zs.drop_cons l k hk, e, fol_add h1 h2]
  cases fol o (loc - now + 604800) (l.drop (k + 1)) <;> simp
theorem At.done {l : L} {f : Option L} {now ear : Int} {out : L} (h : At l f l.length now ear out) : f = some out := by
  unfold At at h
  rw [h, List.drop_of_length_le (Nat.le_refl _)]; simp [fol]
/-- What transitions are like. -/
def VT : Int → Int → L → Prop
  | _, _, [] => True
  | now, ear, (a, o) :: t => o ≠ now ∧ -86400 < o - now ∧ o - now < 86400 ∧ ear ≤ a ∧ a ≤ 8589934592 ∧ VT o (a + 604800) t
theorem fol_vt : ∀ {l : L} {now ear : Int} {ts : L}, fol now ear l = some ts → VT now ear ts
  | [], _, _, ts, h => by simp [fol] at h; subst h; trivial
  | (loc, o) :: t, now, ear, ts, h => by
    by_cases h1 : o = now
    · rw [fol_skip h1] at h; exact fol_vt h
    · by_cases h2 : o - now ≤ -86400 ∨ 86400 ≤ o - now ∨ loc - now < ear ∨ 8589934592 < loc - now
      · rw [fol_bad h1 h2] at h; cases h
      · rw [fol_add h1 h2] at h
        cases h3 : fol o (loc - now + 604800) t with
        | none => rw [h3] at h; cases h
        | some u =>
          rw [h3] at h
          simp at h
          subst h
          exact ⟨h1, by omega, by omega, by omega, by omega, fol_vt h3⟩
theorem fol_len : ∀ {l : L} {now ear : Int} {ts : L}, fol now ear l = some ts → ts.length ≤ l.length
  | [], _, _, ts, h => by simp [fol] at h; subst h; simp
  | (loc, o) :: t, now, ear, ts, h => by
    by_cases h1 : o = now
    · rw [fol_skip h1] at h; have := fol_len h; simp; omega
    · by_cases h2 : o - now ≤ -86400 ∨ 86400 ≤ o - now ∨ loc - now < ear ∨ 8589934592 < loc - now
      · rw [fol_bad h1 h2] at h; cases h
      · rw [fol_add h1 h2] at h
        cases h3 : fol o (loc - now + 604800) t with
        | none => rw [h3] at h; cases h
        | some u => rw [h3] at h; simp at h; subst h; have := fol_len h3; simp; omega
theorem fol_off : ∀ {l : L} {now ear : Int} {ts : L}, fol now ear l = some ts → ∀ x ∈ ts, ∃ z ∈ l, z.2 = x.2
  | [], _, _, ts, h => by simp [fol] at h; subst h; intro x hx; cases hx
  | (loc, o) :: t, now, ear, ts, h => by
    intro x hx
    by_cases h1 : o = now
    · rw [fol_skip h1] at h
      obtain ⟨z, hz, e⟩ := fol_off h x hx
      exact ⟨z, by simp [hz], e⟩
    · by_cases h2 : o - now ≤ -86400 ∨ 86400 ≤ o - now ∨ loc - now < ear ∨ 8589934592 < loc - now
      · rw [fol_bad h1 h2] at h; cases h
      · rw [fol_add h1 h2] at h
        cases h3 : fol o (loc - now + 604800) t with
        | none => rw [h3] at h; cases h
        | some u =>
          rw [h3] at h
          simp at h
          subst h
          rcases List.mem_cons.1 hx with rfl | hx
          · exact ⟨(loc, o), by simp, rfl⟩
          · obtain ⟨z, hz, e⟩ := fol_off h3 x hx
            exact ⟨z, by simp [hz], e⟩
theorem occ_off (r : Rule) : ∀ (k : Nat) (y : Int), ∀ x ∈ occ r y k, x.2 = r.off
  | 0, _, x, h => by cases h
  | k + 1, y, x, h => by
    rw [occ] at h
    rcases List.mem_cons.1 h with rfl | h
    · rfl
    · exact occ_off r k _ x h
/-- What is known of valid transitions. -/
theorem trans_ok {off : Int} {rs : List Rule} {ts : L} (h : trans off rs = (ts, 0)) : okO off = true ∧ rs.all okR = true ∧ rs.length ≤ 16 ∧ cnt rs ≤ 640 ∧ fol off 0 (Zs.srt (flat rs)) = some ts ∧ VT off 0 ts ∧ ts.length ≤ 640 ∧ (∀ x ∈ ts, okO x.2 = true) := by
  unfold trans at h
  by_cases h1 : okO off = false
  · rw [if_pos h1] at h; cases h
  rw [if_neg h1] at h
  by_cases h2 : 16 < rs.length
  · rw [if_pos h2] at h; cases h
  rw [if_neg h2] at h
  by_cases h3 : (rs.all okR) = false
  · rw [if_pos h3] at h; cases h
  rw [if_neg h3] at h
  by_cases h4 : 640 < cnt rs
  · rw [if_pos h4] at h; cases h
  rw [if_neg h4] at h
  cases h5 : fol off 0 (Zs.srt (flat rs)) with
  | none => rw [h5] at h; cases h
  | some u =>
    rw [h5] at h
    simp only [Prod.mk.injEq, and_true] at h
    subst h
    have h3' : rs.all okR = true := by simpa using h3
    have hl := fol_len h5
    rw [Zs.srt_len] at hl
    have hc := flat_len h3'
    refine ⟨by simpa using h1, h3', by omega, by omega, rfl, fol_vt h5, by omega, fun x hx => ?_⟩
    obtain ⟨z, hz, e⟩ := fol_off h5 x hx
    rw [Zs.srt_mem] at hz
    obtain ⟨r, hr, hz⟩ := List.mem_flatMap.1 hz
    rw [← e, occ_off r _ _ z hz, okO_iff]
    have := okR_iff.1 (List.all_eq_true.1 h3' r hr)
    omega
theorem trans_err (off : Int) (rs : List Rule) : (trans off rs).2 = 0 ∨ ((trans off rs).1 = [] ∧ ((trans off rs).2 = 1 ∨ (trans off rs).2 = 5 ∨ (trans off rs).2 = 6)) := by
  unfold trans
  split
  · simp
  split
  · simp
  split
  · simp
  split
  · simp
  split <;> simp

/-! Offsets and stretches. -/
theorem offAt_of : ∀ {ts : L} {off x : Int} {k : Nat}, k ≤ ts.length → (∀ j, j < k → (ts.getD j (0, 0)).1 ≤ x) → (k < ts.length → x < (ts.getD k (0, 0)).1) → offAt off ts x = if k = 0 then off else (ts.getD (k - 1) (0, 0)).2
  | [], off, x, k, h, _, _ => by simp at h; subst h; rfl
  | (a, o) :: t, off, x, 0, _, _, h2 => by
    have := h2 (by simp)
    simp at this
    rw [offAt, if_neg (by omega)]; rfl
  | (a, o) :: t, off, x, k + 1, h, h1, h2 => by
    have := h1 0 (by omega)
    simp at this
    rw [offAt, if_pos this, offAt_of (k := k) (by simpa using h) (fun j hj => by have := h1 (j + 1) (by omega); simpa [List.getD] using this) (fun hk => by have := h2 (by simpa using hk); simpa [List.getD] using this)]
    rcases k with _ | k
    · rfl
    · simp [List.getD]
theorem vt_asc : ∀ {ts : L} {now ear : Int}, VT now ear ts → ∀ i j, i < j → j < ts.length → (ts.getD i (0, 0)).1 + 604800 ≤ (ts.getD j (0, 0)).1
  | [], _, _, _, i, j, _, h => by simp at h
  | (a, o) :: t, now, ear, h, i, 0, hij, _ => by omega
  | (a, o) :: t, now, ear, h, 0, j + 1, hij, hj => by
    have hge : ∀ {ts : L} {now ear : Int}, VT now ear ts → ∀ j, j < ts.length → ear ≤ (ts.getD j (0, 0)).1 := by
      intro ts
      induction ts with
      | nil => intro _ _ _ j h; simp at h
      | cons x t ih =>
        intro now ear h j hj
        obtain ⟨a, o⟩ := x
        rcases j with _ | j
        · simpa using h.2.2.2.1
        · have := ih h.2.2.2.2.2 j (by simpa using hj)
          have h4 := h.2.2.2.1
          have e : (((a, o) :: t).getD (j + 1) (0, 0)) = t.getD j (0, 0) := by simp [List.getD]
          rw [e]; omega
    have := hge h.2.2.2.2.2 j (by simpa using hj)
    have e : (((a, o) :: t).getD (j + 1) (0, 0)) = t.getD j (0, 0) := by simp [List.getD]
    rw [e]
    simpa using this
  | (a, o) :: t, now, ear, h, i + 1, j + 1, hij, hj => by
    have := vt_asc h.2.2.2.2.2 i j (by omega) (by simpa using hj)
    have e1 : (((a, o) :: t).getD (i + 1) (0, 0)) = t.getD i (0, 0) := by simp [List.getD]
    have e2 : (((a, o) :: t).getD (j + 1) (0, 0)) = t.getD j (0, 0) := by simp [List.getD]
    rw [e1, e2]; exact this
theorem vt_bd : ∀ {ts : L} {now ear : Int}, 0 ≤ ear → VT now ear ts → ∀ x ∈ ts, ear ≤ x.1 ∧ x.1 ≤ 8589934592
  | [], _, _, _, _, x, hx => by cases hx
  | (a, o) :: t, now, ear, he, h, x, hx => by
    obtain ⟨h1, h2, h3, h4, h5, h6⟩ := h
    rcases List.mem_cons.1 hx with rfl | hx
    · exact ⟨h4, h5⟩
    · have := vt_bd (by omega) h6 x hx; omega
theorem strs_snoc (f o : Int) : ∀ (ts : L) (k : Nat), k ≤ ts.length → True := fun _ _ _ => trivial
theorem strs_len : ∀ (ts : L) (f o : Int), (strs f o ts).length = ts.length + 1
  | [], _, _ => rfl
  | (a, o') :: t, f, o => by rw [strs, List.length_cons, strs_len, List.length_cons]
/-- Stretches from the k-th transition on. -/
def strK (off : Int) (ts : L) (k : Nat) : S := strs (if k = 0 then 0 else (ts.getD (k - 1) (0, 0)).1) (if k = 0 then off else (ts.getD (k - 1) (0, 0)).2) (ts.drop k)
theorem strK_zero (off : Int) (ts : L) : strK off ts 0 = strs 0 off ts := rfl
theorem strK_step (off : Int) (ts : L) (k : Nat) (h : k < ts.length) : strK off ts k = ((if k = 0 then 0 else (ts.getD (k - 1) (0, 0)).1), (ts.getD k (0, 0)).1 - 1, (if k = 0 then off else (ts.getD (k - 1) (0, 0)).2)) :: strK off ts (k + 1) := by
  unfold strK
  rw [Zs.drop_cons ts k h]
  obtain ⟨⟨a, o⟩, e⟩ : ∃ x, ts.getD k (0, 0) = x := ⟨_, rfl⟩
  rw [show k + 1 - 1 = k from rfl, e, strs]
  simp
theorem strK_last (off : Int) (ts : L) : strK off ts ts.length = [((if ts.length = 0 then 0 else (ts.getD (ts.length - 1) (0, 0)).1), 8589934592, (if ts.length = 0 then off else (ts.getD (ts.length - 1) (0, 0)).2))] := by
  unfold strK; rw [List.drop_of_length_le (Nat.le_refl _), strs]
theorem clamp_bd (d : Int) : -2 ≤ clamp d ∧ clamp d ≤ 99422 := by unfold clamp; omega
theorem locS_bd {d s : Int} (h : okD s = true) : -172800 ≤ locS d s ∧ locS d s < 8590147200 := by
  rw [okD_iff] at h
  have := clamp_bd d
  unfold locS; omega
/-- Bounds of stretches. -/
theorem strs_bd : ∀ {ts : L} {f o ear : Int}, 0 ≤ f → f ≤ 8589934592 → okO o = true → VT o ear ts → 0 ≤ ear → (∀ x ∈ ts, okO x.2 = true) → ∀ s ∈ strs f o ts, 0 ≤ s.1 ∧ s.1 ≤ 8589934592 ∧ -1 ≤ s.2.1 ∧ s.2.1 ≤ 8589934592 ∧ -64800 ≤ s.2.2 ∧ s.2.2 ≤ 64800
  | [], f, o, ear, h1, h2, h3, _, _, _, s, hs => by
    simp [strs] at hs; subst hs; rw [okO_iff] at h3; simp only; omega
  | (a, o') :: t, f, o, ear, h1, h2, h3, h4, h5, h6, s, hs => by
    rw [strs] at hs
    obtain ⟨g1, g2, g3, g4, g5, g6⟩ := h4
    rcases List.mem_cons.1 hs with rfl | hs
    · rw [okO_iff] at h3; simp only; omega
    · exact strs_bd (ear := a + 604800) (by omega) g5 (h6 (a, o') (by simp)) g6 (by omega) (fun x hx => h6 x (by simp [hx])) s hs
end Zn
end Go.Proofs.YtndngkfiamdohaaDoor
