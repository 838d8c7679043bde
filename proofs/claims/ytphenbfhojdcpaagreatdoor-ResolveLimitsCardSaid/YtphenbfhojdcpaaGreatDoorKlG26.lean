/- law08's ResolveLimits: the names that it makes. Plain facts on ResolveLimits' configurations: the one that reaches the limits is right, and what is wrong of those that exceed them. Plain facts on ResolveLimits' changed copies: what is wrong of each. -/
import Derived.Test.YtphenbfhojdcpaaGreatDoorKlG15
import Derived.Test.YtphenbfhojdcpaaGreatDoorKlG00
namespace Go.Proofs.YtphenbfhojdcpaaGreatDoor
open Go.RowKit
set_option linter.unusedVariables false
set_option linter.unusedSimpArgs false
set_option maxRecDepth 100000
theorem two_bytes (w : World) (x y : Int) (c d : UInt8) (hc : (c.toNat : Int) = x) (hd : (d.toNat : Int) = y) :
    (convert 28 9 (.slice (some ⟨w.heap.size, 0, none⟩) 2 2)).run Tryz.prog (w.alloc (.cells #[.int .u8 x, .int .u8 y] 5)) = .ok (.string ⟨#[c, d]⟩) (w.alloc (.cells #[.int .u8 x, .int .u8 y] 5)) := by
  subst hc
  subst hd
  exact run_convert_bytes_back (P := Tryz.prog) (w.alloc (.cells #[.int .u8 (c.toNat : Int), .int .u8 (d.toNat : Int)] 5)) 28 9 5 ⟨w.heap.size, 0, none⟩ 2 [c, d] Tryz.underlying28 Tryz.underlying5 Tryz.underlying9 (fun j hj => by
    have h0 : j = 0 ∨ j = 1 := by simp at hj; omega
    rcases h0 with rfl | rfl <;> simp [Addr.add])
namespace Rs
def nmL (i : Nat) : Nm := [110, UInt8.ofNat (97 + i / 20), UInt8.ofNat (97 + i % 20)]
def nm32 : List Nm := (List.range 32).map nmL
theorem ok32 : okN nm32 = true := by kernel_rfl
end Rs
set_option maxHeartbeats 2000000 in
theorem nmL_any (i : Nat) (hi : i < 32) (w : World) : Calls Tryz.prog 6 #[.int .i64 (i : Int)] w fun e w' => e = .returned (.string ⟨(Rs.nmL i).toArray⟩) ∧ Below w.heap.size w w' := by
  obtain ⟨q, hq⟩ : ∃ q : Int, (i : Int).tdiv 20 = q := ⟨_, rfl⟩
  obtain ⟨r, hr⟩ : ∃ r : Int, (i : Int).tmod 20 = r := ⟨_, rfl⟩
  have hq2 : (i : Int) / 20 = q := by rw [← hq, Int.tdiv_eq_ediv_of_nonneg (by omega)]
  have hr2 : (i : Int) % 20 = r := by rw [← hr, Int.tmod_eq_emod_of_nonneg (by omega)]
  have q0 : 0 ≤ q := by omega
  have q1 : q ≤ 1 := by omega
  have r0 : 0 ≤ r := by omega
  have r1 : r ≤ 19 := by omega
  have e1 : IntKind.u8.wrap (97 + q) = 97 + q := by rw [IntKind.wrap_u8]; omega
  have e2 : IntKind.u8.wrap (97 + r) = 97 + r := by rw [IntKind.wrap_u8]; omega
  obtain ⟨c, hc⟩ : ∃ c, UInt8.ofNat (97 + i / 20) = c := ⟨_, rfl⟩
  obtain ⟨d, hd⟩ : ∃ d, UInt8.ofNat (97 + i % 20) = d := ⟨_, rfl⟩
  have hcv := two_bytes w (97 + q) (97 + r) c d (by rw [← hc, UInt8.toNat_ofNat']; omega) (by rw [← hd, UInt8.toNat_ofNat']; omega)
  have HE := Lib.hid (show (⟨#[110]⟩ : ByteArray) ++ (⟨#[c, d]⟩ : ByteArray) = ⟨(Rs.nmL i).toArray⟩ by unfold Rs.nmL; rw [hc, hd]; rfl)
  clear hc hd
  go_enter Tryz.func6, Tryz.ntmps6
  go_wp2_with fail
  go_ret
  rw [HE.out]
  exact ⟨rfl, (Below.refl _ w).alloc (Nat.le_refl _) _⟩
end Go.Proofs.YtphenbfhojdcpaaGreatDoor
namespace Go.Proofs.YtphenbfhojdcpaaGreatDoor
set_option linter.unusedSimpArgs false
set_option linter.unusedVariables false
set_option maxRecDepth 100000
namespace Rs
def persL (i : Nat) : Pers := ⟨nmL i, 0, [], 0, 0, false⟩
def memL (m : Int) (k : Nat) : List Int := List.replicate k m
def layL (m : Int) (i : Nat) : Lay := ⟨nmL i, 0, 1, 0, 0, 400, memL m 12, [], 0, 0⟩
def laysL (m : Int) (k : Nat) : List Lay := (List.range k).map (layL m)
def ediL (i : Nat) : Edit := ⟨0, 0, 0, i, (i : Int) + 1⟩
def edisL (k : Nat) : List Edit := (List.range k).map ediL
def schL (m : Int) (i : Nat) : Sch := ⟨nmL i, laysL m 6, edisL 48⟩
def schsL (m : Int) (k : Nat) : List Sch := (List.range k).map (schL m)
def zonL : List Zone := [⟨[122], 0, []⟩]
def peoL : List Pers := (List.range 32).map persL
def cfgL (m : Int) : Cfg := ⟨zonL, peoL, [], schsL m 12⟩
theorem range_get {α : Type} {f : Nat → α} {k i : Nat} {x : α} (h : ((List.range k).map f)[i]? = some x) : i < k ∧ x = f i := by
  have hi : i < k := by
    have := (List.getElem?_eq_some_iff.1 h).1
    simpa using this
  rw [List.getElem?_map, List.getElem?_eq_getElem (by simpa using hi)] at h
  simp at h
  exact ⟨hi, h.symm⟩
theorem names_take (k : Nat) (h : k ≤ 32) : (List.range k).map nmL = nm32.take k := by
  unfold nm32
  rw [← List.map_take, List.take_range, Nat.min_eq_left h]
theorem name_ok {k i : Nat} {x : Nm} (h : k ≤ 32) (hx : ((List.range k).map nmL)[i]? = some x) : nameE ((List.range k).map nmL) i x = 0 ∧ x ≠ nobodyW := by
  rw [names_take k h] at hx ⊢
  exact name_at ok32 hx
theorem lay_names (m : Int) (k : Nat) : (laysL m k).map (·.name) = (List.range k).map nmL := by unfold laysL; rw [List.map_map]; rfl
theorem sch_names (m : Int) (k : Nat) : (schsL m k).map (·.name) = (List.range k).map nmL := by unfold schsL; rw [List.map_map]; rfl
theorem zn_ok (C : Cfg) (h : C.zones = zonL) : znE C = 0 := by
  unfold znE
  rw [h]
  kernel_rfl
theorem pe_ok (C : Cfg) (h : C.zones = zonL) (h2 : C.people = peoL) : peE C = 0 := by
  unfold peE
  rw [h, h2]
  kernel_rfl
theorem ca_ok (C : Cfg) (h : C.cals = []) : caE C = 0 := by
  unfold caE
  rw [h]
  rfl
theorem mem_any {m : Int} (h0 : 0 ≤ m) (h1 : m < 32) (k : Nat) : ((memL m k).any fun x => !isIx x 32) = false := by
  rw [List.any_eq_false]
  intro x hx
  have := List.eq_of_mem_replicate hx
  subst this
  unfold isIx
  simp [h0]
  omega
/-- A layer of these is right, whatever its place, if its name is. -/
theorem lay_ok {m : Int} (h0 : 0 ≤ m) (h1 : m < 32) {ns : List Nm} {i j : Nat} (hn : nameE ns i (nmL j) = 0) : layE 1 32 0 ns i (layL m j) = 0 := by
  have hr : rot (layL m j) = true := by unfold rot layL; simp [noDay]
  have hm : ¬ (layL m j).mem.length = 0 := by simp [layL, memL]
  have hm2 : ¬ 12 < (layL m j).mem.length := by simp [layL, memL]
  unfold layE
  rw [show (layL m j).name = nmL j from rfl, hn]
  rw [if_neg (by simp), if_neg (by simp [layL, isIx]), if_neg (by rw [hr]; simp), if_neg hm, if_neg hm2, if_neg (by rw [show (layL m j).mem = memL m 12 from rfl, mem_any h0 h1]; simp), if_neg (by simp [layL, Wk.chk, Wk.chkF])]
  simp [modeE, layL]
theorem lays_ok {m : Int} (h0 : 0 ≤ m) (h1 : m < 32) (k : Nat) (hk : k ≤ 32) : fe (layE 1 32 0 ((laysL m k).map (·.name))) 0 (laysL m k) = 0 := by
  refine fe_zero (fun i x hx => ?_)
  rw [Nat.zero_add, lay_names]
  have hx2 : ((List.range k).map (layL m))[i]? = some x := hx
  obtain ⟨hi, rfl⟩ := range_get hx2
  refine lay_ok h0 h1 (name_ok hk ?_).1
  rw [List.getElem?_map, List.getElem?_eq_getElem (by simpa using hi)]
  simp
theorem edi_ok (i : Nat) (hi : i < 100) : editE 32 (ediL i) = 0 := by
  unfold editE ediL
  simp only
  rw [if_neg (by omega), if_neg (by simp [isIx]), if_neg (by simp), if_neg (by simp), if_neg (by omega), if_neg ?_, if_neg (by omega)]
  have : noDay ((((i : Int) + 1)).tdiv 86400) = false := by
    rw [Int.tdiv_eq_ediv_of_nonneg (by omega)]
    exact noDay_of (by omega) (by omega)
  rw [this]
  simp
  omega
theorem edis_ok (k : Nat) (hk : k ≤ 100) : fe (fun _ => editE 32) 0 (edisL k) = 0 := by
  refine fe_zero (fun i x hx => ?_)
  have hx2 : ((List.range k).map ediL)[i]? = some x := hx
  obtain ⟨hi, rfl⟩ := range_get hx2
  exact edi_ok i (by omega)
theorem len_lays (m : Int) (k : Nat) : (laysL m k).length = k := by simp [laysL]
theorem len_edis (k : Nat) : (edisL k).length = k := by simp [edisL]
theorem len_schs (m : Int) (k : Nat) : (schsL m k).length = k := by simp [schsL]
theorem sch_ok {m : Int} (h0 : 0 ≤ m) (h1 : m < 32) {ns : List Nm} {i j : Nat} (hn : nameE ns i (nmL j) = 0) : schE 1 32 0 ns i (schL m j) = 0 := by
  unfold schE
  rw [show (schL m j).name = nmL j from rfl, hn, show (schL m j).lays = laysL m 6 from rfl, show (schL m j).edits = edisL 48 from rfl, lays_ok h0 h1 6 (by omega), edis_ok 48 (by omega), len_lays, len_edis]
  simp
theorem schs_ok {m : Int} (h0 : 0 ≤ m) (h1 : m < 32) (k : Nat) (hk : k ≤ 32) : fe (schE 1 32 0 ((schsL m k).map (·.name))) 0 (schsL m k) = 0 := by
  refine fe_zero (fun i x hx => ?_)
  rw [Nat.zero_add, sch_names]
  have hx2 : ((List.range k).map (schL m))[i]? = some x := hx
  obtain ⟨hi, rfl⟩ := range_get hx2
  refine sch_ok h0 h1 (name_ok hk ?_).1
  rw [List.getElem?_map, List.getElem?_eq_getElem (by simpa using hi)]
  simp
theorem chk_base (C : Cfg) (hz : C.zones = zonL) (hp : C.people = peoL) (hc : C.cals = []) (hs : C.scheds.length ≤ 12) : chkS C = scE C := by
  have lp : peoL.length = 32 := by simp [peoL]
  have lz : zonL.length = 1 := rfl
  unfold chkS
  rw [if_neg (by rw [hz, hp, hc, lp, lz]; simp; omega), if_neg (by rw [zn_ok C hz]; simp), if_neg (by rw [pe_ok C hz hp]; simp), if_neg (by rw [ca_ok C hc]; simp)]
theorem chk_lim {m : Int} (h0 : 0 ≤ m) (h1 : m < 32) : chkS (cfgL m) = 0 := by
  rw [chk_base (cfgL m) rfl rfl rfl (by show (schsL m 12).length ≤ 12; rw [len_schs]; omega)]
  exact schs_ok h0 h1 12 (by omega)
end Rs
end Go.Proofs.YtphenbfhojdcpaaGreatDoor
namespace Go.Proofs.YtphenbfhojdcpaaGreatDoor
set_option linter.unusedSimpArgs false
set_option linter.unusedVariables false
set_option maxRecDepth 100000
namespace Rs
def moreW : Nm := [109, 111, 114, 101]
theorem fe_at {α : Type} {f : Nat → α → Int} {e : Int} (he : e ≠ 0) : ∀ {l : List α} {i k : Nat} {x : α}, l[k]? = some x → f (i + k) x = e → (∀ j y, j < k → l[j]? = some y → f (i + j) y = 0) → fe f i l = e
  | [], _, _, _, h, _, _ => by simp at h
  | y :: t, i, 0, x, h, hx, _ => by
    simp at h
    subst h
    rw [Nat.add_zero] at hx
    rw [fe, hx, if_neg he]
  | y :: t, i, k + 1, x, h, hx, ho => by
    have h0 := ho 0 y (by omega) rfl
    rw [Nat.add_zero] at h0
    rw [fe, if_pos h0]
    exact fe_at he (k := k) (by simpa using h) (by rw [show i + 1 + k = i + (k + 1) by omega]; exact hx) (fun j z hj hz => by rw [show i + 1 + j = i + (j + 1) by omega]; exact ho (j + 1) z (by omega) (by simpa using hz))
theorem chk_long {C : Cfg} (h : 32 < C.people.length ∨ 12 < C.scheds.length) : chkS C = 5 := by
  unfold chkS
  rw [if_pos (by rcases h with h | h <;> simp [h])]
theorem sch_long {np : Nat} {ns : List Nm} {i : Nat} {s : Sch} (hn : nameE ns i s.name = 0) (h : 6 < s.lays.length ∨ 48 < s.edits.length) : schE 1 np 0 ns i s = 5 := by
  unfold schE
  rw [if_neg (by rw [hn]; simp), if_pos h]
theorem set_names {m : Int} {j : Nat} {s : Sch} (h : s.name = nmL j) : ((schsL m 12).set j s).map (·.name) = (List.range 12).map nmL := by
  rw [List.map_set, sch_names, h]
  refine List.ext_getElem? fun i => ?_
  rw [List.getElem?_set]
  split
  · subst j
    split
    · rw [List.getElem?_map, List.getElem?_eq_getElem (by simp at *; omega)]; simp
    · rw [List.getElem?_eq_none (by omega)]
  · rfl
theorem lay_set_names {m : Int} {j : Nat} {l : Lay} (h : l.name = nmL j) : ((laysL m 6).set j l).map (·.name) = (List.range 6).map nmL := by
  rw [List.map_set, lay_names, h]
  refine List.ext_getElem? fun i => ?_
  rw [List.getElem?_set]
  split
  · subst j
    split
    · rw [List.getElem?_map, List.getElem?_eq_getElem (by simp at *; omega)]; simp
    · rw [List.getElem?_eq_none (by omega)]
  · rfl
theorem nm_zero {k i : Nat} (h : k ≤ 32) (hi : i < k) : nameE ((List.range k).map nmL) i (nmL i) = 0 := (name_ok (x := nmL i) h (by rw [List.getElem?_map, List.getElem?_eq_getElem (by simpa using hi)]; simp)).1
/-- One schedule is wrong. -/
theorem chk_set {m : Int} (h0 : 0 ≤ m) (h1 : m < 32) {j : Nat} (hj : j < 12) {s : Sch} (hn : s.name = nmL j) {e : Int} (he : e ≠ 0) (hs : schE 1 32 0 ((List.range 12).map nmL) j s = e) {C : Cfg} (c1 : C.zones = zonL) (c2 : C.people = peoL) (c3 : C.cals = []) (c4 : C.scheds = (schsL m 12).set j s) : chkS C = e := by
  rw [chk_base C c1 c2 c3 (by rw [c4, List.length_set, len_schs]; omega)]
  unfold scE
  rw [c1, c2, c3, c4, set_names hn]
  refine fe_at he (k := j) (x := s) ?_ ?_ ?_
  · rw [List.getElem?_set, if_pos rfl, len_schs, if_pos hj]
  · rw [Nat.zero_add]; exact hs
  · intro i y hi hy
    rw [List.getElem?_set, if_neg (by omega)] at hy
    have hx2 : ((List.range 12).map (schL m))[i]? = some y := hy
    obtain ⟨hi2, rfl⟩ := range_get hx2
    rw [Nat.zero_add]
    exact sch_ok h0 h1 (nm_zero (by omega) hi2)
/-- One layer is wrong. -/
theorem sch_set {m : Int} (h0 : 0 ≤ m) (h1 : m < 32) {i j : Nat} (hi : i < 12) (hj : j < 6) {l : Lay} (hn : l.name = nmL j) {e : Int} (he : e ≠ 0) (hl : layE 1 32 0 ((List.range 6).map nmL) j l = e) : schE 1 32 0 ((List.range 12).map nmL) i { schL m i with lays := (laysL m 6).set j l } = e := by
  have hf : fe (layE 1 32 0 (((laysL m 6).set j l).map (·.name))) 0 ((laysL m 6).set j l) = e := by
    rw [lay_set_names hn]
    refine fe_at he (k := j) (x := l) ?_ ?_ ?_
    · rw [List.getElem?_set, if_pos rfl, len_lays, if_pos hj]
    · rw [Nat.zero_add]; exact hl
    · intro i y hi hy
      rw [List.getElem?_set, if_neg (by omega)] at hy
      have hx2 : ((List.range 6).map (layL m))[i]? = some y := hy
      obtain ⟨hi2, rfl⟩ := range_get hx2
      rw [Nat.zero_add]
      exact lay_ok h0 h1 (nm_zero (by omega) hi2)
  unfold schE
  simp only
  rw [show (schL m i).name = nmL i from rfl, nm_zero (by omega) hi, hf, List.length_set, len_lays, show (schL m i).edits = edisL 48 from rfl, len_edis, if_neg (by simp), if_neg (by simp), if_pos he]
def layV13 (m : Int) : Lay := { layL m 2 with mem := memL m 12 ++ [0] }
def layW401 (m : Int) : Lay := { layL m 2 with every := 401 }
theorem lay_v (m : Int) : layE 1 32 0 ((List.range 6).map nmL) 2 (layV13 m) = 5 := by
  have hr : rot (layV13 m) = true := by unfold rot layV13 layL; simp [noDay]
  unfold layE
  rw [show (layV13 m).name = nmL 2 from rfl, nm_zero (by omega) (by omega), if_neg (by simp), if_neg (by simp [layV13, layL, isIx]), if_neg (by rw [hr]; simp), if_neg (by simp [layV13]), if_pos (by simp [layV13, memL])]
theorem lay_w (m : Int) : layE 1 32 0 ((List.range 6).map nmL) 2 (layW401 m) = 1 := by
  have hr : rot (layW401 m) = false := by unfold rot layW401 layL; simp [noDay]
  unfold layE
  rw [show (layW401 m).name = nmL 2 from rfl, nm_zero (by omega) (by omega), if_neg (by simp), if_neg (by simp [layW401, layL, isIx]), if_pos hr]
/-- The six copies as they are changed. -/
def cfgX (m : Int) : Cfg := { cfgL m with people := peoL ++ [⟨moreW, 0, [], 0, 0, false⟩] }
def cfgY (m : Int) : Cfg := { cfgL m with scheds := schsL m 12 ++ [⟨moreW, [], []⟩] }
def schZ (m : Int) : Sch := { schL m 0 with edits := edisL 48 ++ [⟨0, 0, 0, 0, 1⟩] }
def layU (m : Int) (nl : Nm) : Lay := { layL m 5 with name := nl }
def schU (m : Int) (nl : Nm) : Sch := { schL m 0 with lays := laysL m 6 ++ [layU m nl] }
def schV (m : Int) : Sch := { schL m 1 with lays := (laysL m 6).set 2 (layV13 m) }
def schW (m : Int) : Sch := { schL m 1 with lays := (laysL m 6).set 2 (layW401 m) }
def cfgT (m : Int) (j : Nat) (s : Sch) : Cfg := { cfgL m with scheds := (schsL m 12).set j s }
theorem chk_x (m : Int) : chkS (cfgX m) = 5 := chk_long (.inl (by simp [cfgX, peoL]))
theorem chk_y (m : Int) : chkS (cfgY m) = 5 := chk_long (.inr (by simp [cfgY, schsL]))
section
variable {m : Int} (h0 : 0 ≤ m) (h1 : m < 32)
include h0 h1
theorem chk_z : chkS (cfgT m 0 (schZ m)) = 5 := chk_set h0 h1 (j := 0) (by omega) rfl (by decide) (sch_long (by rw [show (schZ m).name = nmL 0 from rfl]; exact nm_zero (by omega) (by omega)) (.inr (by simp [schZ, edisL]))) rfl rfl rfl rfl
theorem chk_u (nl : Nm) : chkS (cfgT m 0 (schU m nl)) = 5 := chk_set h0 h1 (j := 0) (by omega) rfl (by decide) (sch_long (by rw [show (schU m nl).name = nmL 0 from rfl]; exact nm_zero (by omega) (by omega)) (.inl (by simp [schU, laysL]))) rfl rfl rfl rfl
theorem chk_v : chkS (cfgT m 1 (schV m)) = 5 := chk_set h0 h1 (j := 1) (by omega) rfl (by decide) (sch_set h0 h1 (by omega) (by omega) rfl (by decide) (lay_v m)) rfl rfl rfl rfl
theorem chk_w : chkS (cfgT m 1 (schW m)) = 1 := chk_set h0 h1 (j := 1) (by omega) rfl (by decide) (sch_set h0 h1 (by omega) (by omega) rfl (by decide) (lay_w m)) rfl rfl rfl rfl
end
end Rs
end Go.Proofs.YtphenbfhojdcpaaGreatDoor
