/- Plain facts on ratios: greatest common divisors, sums, products, the order. Nothing of the program stands in it. -/
set_option linter.unusedVariables false
namespace Rt

/-- The greatest common divisor, as an integer. -/
def g (a b : Int) : Int := (Nat.gcd a.natAbs b.natAbs : Nat)
theorem g_comm (a b : Int) : g a b = g b a := by unfold g; rw [Nat.gcd_comm]
theorem g_neg (a b : Int) : g (-a) b = g a b := by unfold g; rw [Int.natAbs_neg]
theorem g_dvd_left (a b : Int) : g a b ∣ a := Int.natAbs_dvd_natAbs.1 (by show (Int.natAbs ((Nat.gcd a.natAbs b.natAbs : Nat) : Int)) ∣ _; rw [Int.natAbs_natCast]; exact Nat.gcd_dvd_left _ _)
theorem g_dvd_right (a b : Int) : g a b ∣ b := Int.natAbs_dvd_natAbs.1 (by show (Int.natAbs ((Nat.gcd a.natAbs b.natAbs : Nat) : Int)) ∣ _; rw [Int.natAbs_natCast]; exact Nat.gcd_dvd_right _ _)
theorem g_pos {a b : Int} (hb : 1 ≤ b) : 1 ≤ g a b := by
  unfold g
  have := Nat.gcd_pos_of_pos_right a.natAbs (show 0 < b.natAbs by omega)
  omega
theorem g_le {a b : Int} (hb : 1 ≤ b) : g a b ≤ b := Int.le_of_dvd (by omega) (g_dvd_right a b)

/-- A valid ratio. -/
def vld (n d : Int) : Prop := 1 ≤ d ∧ d ≤ 4611686018427387904 ∧ -4611686018427387904 ≤ n ∧ n ≤ 4611686018427387904 ∧ g n d = 1
instance (n d : Int) : Decidable (vld n d) := by unfold vld; infer_instance
def vldB (n d : Int) : Bool := decide (vld n d)
theorem vldB_iff {n d : Int} : vldB n d = true ↔ vld n d := by unfold vldB; simp
theorem vldB_not {n d : Int} : vldB n d = false ↔ ¬ vld n d := by unfold vldB; simp

def fits (x : Int) : Prop := -4611686018427387904 ≤ x ∧ x ≤ 4611686018427387904
instance (x : Int) : Decidable (fits x) := by unfold fits; infer_instance
def fitsB (x : Int) : Bool := decide (fits x)

/-- Exact quotients. -/
theorem quo_dvd {a b : Int} (h : b ∣ a) : a.tdiv b * b = a := Int.tdiv_mul_cancel h
theorem quo_left (a b : Int) : a.tdiv (g a b) * g a b = a := quo_dvd (g_dvd_left a b)
theorem div_right (a b : Int) : b / g a b * g a b = b := Int.ediv_mul_cancel (g_dvd_right a b)
theorem div_left (a b : Int) : a / g a b * g a b = a := Int.ediv_mul_cancel (g_dvd_left a b)
theorem pos_of_mul {a b c : Int} (h : a * b = c) (hb : 1 ≤ b) (hc : 1 ≤ c) : 1 ≤ a := by
  by_cases h0 : a ≤ 0
  · have := Int.mul_le_mul_of_nonneg_right h0 (show 0 ≤ b by omega)
    omega
  · omega
theorem divr_pos {a b : Int} (hb : 1 ≤ b) : 1 ≤ b / g a b := pos_of_mul (div_right a b) (g_pos hb) hb
theorem divr_le {a b : Int} (hb : 1 ≤ b) : b / g a b ≤ b := Int.ediv_le_self _ (by omega)
theorem divl_pos {a b : Int} (ha : 1 ≤ a) (hb : 1 ≤ b) : 1 ≤ a / g a b := pos_of_mul (div_left a b) (g_pos hb) ha
theorem divl_le {a b : Int} (ha : 1 ≤ a) : a / g a b ≤ a := Int.ediv_le_self _ (by omega)
theorem quol_abs (a b : Int) : (a.tdiv (g a b)).natAbs ≤ a.natAbs := by
  rw [Int.natAbs_tdiv]
  exact Nat.div_le_self _ _
theorem quol_bd {a b m : Int} (h1 : -m ≤ a) (h2 : a ≤ m) : -m ≤ a.tdiv (g a b) ∧ a.tdiv (g a b) ≤ m := by
  have := quol_abs a b
  omega

/-- What is divided by its common divisor has none. -/
theorem cop_quo {a b p q G : Int} (hG : G = g a b) (hb : 1 ≤ b) (hp : p * G = a) (hq : q * G = b) : g p q = 1 := by
  have hg := g_pos (a := a) hb
  have e1 : p.natAbs * G.natAbs = a.natAbs := by rw [← Int.natAbs_mul, hp]
  have e2 : q.natAbs * G.natAbs = b.natAbs := by rw [← Int.natAbs_mul, hq]
  have e3 : G.natAbs = Nat.gcd a.natAbs b.natAbs := by rw [hG]; unfold g; simp
  have e4 : Nat.gcd (p.natAbs * G.natAbs) (q.natAbs * G.natAbs) = G.natAbs := by rw [e1, e2, ← e3]
  rw [Nat.gcd_mul_right] at e4
  have e5 : 0 < G.natAbs := by omega
  have e6 : Nat.gcd p.natAbs q.natAbs = 1 := Nat.eq_of_mul_eq_mul_right e5 (by rw [e4, Nat.one_mul])
  unfold g
  rw [e6]
  rfl
theorem cop_of {a b : Int} (h : g a b = 1) : Nat.Coprime a.natAbs b.natAbs := by
  unfold g at h
  unfold Nat.Coprime
  omega
theorem of_cop {a b : Int} (h : Nat.Coprime a.natAbs b.natAbs) : g a b = 1 := by
  unfold g
  unfold Nat.Coprime at h
  rw [h]
  rfl
theorem cop_dvd {a b c d : Int} (h : g a b = 1) (h1 : c ∣ a) (h2 : d ∣ b) : g c d = 1 :=
  of_cop (((cop_of h).coprime_dvd_left (Int.natAbs_dvd_natAbs.2 h1)).coprime_dvd_right (Int.natAbs_dvd_natAbs.2 h2))
theorem cop_mul {a b c d : Int} (h1 : g a c = 1) (h2 : g a d = 1) (h3 : g b c = 1) (h4 : g b d = 1) : g (a * b) (c * d) = 1 := by
  apply of_cop
  rw [Int.natAbs_mul, Int.natAbs_mul]
  exact Nat.Coprime.mul_left (Nat.Coprime.mul_right (cop_of h1) (cop_of h2)) (Nat.Coprime.mul_right (cop_of h3) (cop_of h4))

/-- A ratio in lowest terms has one form. -/
theorem one_form {n d n' d' : Int} (hd : 1 ≤ d) (hd' : 1 ≤ d') (h : g n d = 1) (h' : g n' d' = 1) (e : n * d' = n' * d) : n = n' ∧ d = d' := by
  have e1 : n.natAbs * d'.natAbs = n'.natAbs * d.natAbs := by rw [← Int.natAbs_mul, ← Int.natAbs_mul, e]
  have a1 : d.natAbs ∣ d'.natAbs := (cop_of h).symm.dvd_of_dvd_mul_left ⟨n'.natAbs, by rw [e1, Nat.mul_comm]⟩
  have a2 : d'.natAbs ∣ d.natAbs := (cop_of h').symm.dvd_of_dvd_mul_left ⟨n.natAbs, by rw [← e1, Nat.mul_comm]⟩
  have a3 := Nat.dvd_antisymm a1 a2
  have hdd : d = d' := by omega
  subst hdd
  exact ⟨Int.eq_of_mul_eq_mul_right (by omega) e, rfl⟩

/-! ### Sums -/
def addX (an ad bn bd : Int) : Int := an * (bd / g ad bd)
def addY (an ad bn bd : Int) : Int := bn * (ad / g ad bd)
def addD (ad bd : Int) : Int := ad / g ad bd * bd
def addOk (an ad bn bd : Int) : Prop := fits (addX an ad bn bd) ∧ fits (addY an ad bn bd) ∧ fits (addX an ad bn bd + addY an ad bn bd) ∧ fits (addD ad bd)
instance (an ad bn bd : Int) : Decidable (addOk an ad bn bd) := by unfold addOk; infer_instance
def lowN (n d : Int) : Int := n.tdiv (g n d)
def lowD (n d : Int) : Int := d / g n d
/-- What the sum of two valid ratios is. -/
def sumS (an ad bn bd : Int) : Int × Int × Int :=
  if addOk an ad bn bd then (lowN (addX an ad bn bd + addY an ad bn bd) (addD ad bd), lowD (addX an ad bn bd + addY an ad bn bd) (addD ad bd), 0) else (0, 0, 5)
def addS (an ad bn bd : Int) : Int × Int × Int := if vld an ad ∧ vld bn bd then sumS an ad bn bd else (0, 0, 8)

def subS (an ad bn bd : Int) : Int × Int × Int := if vld an ad ∧ vld bn bd then sumS an ad (-bn) bd else (0, 0, 8)

theorem low_cop {n d : Int} (hd : 1 ≤ d) : g (lowN n d) (lowD n d) = 1 := cop_quo (G := g n d) rfl hd (quo_left n d) (div_right n d)
theorem low_vld {n d : Int} (hd : 1 ≤ d) (fn : fits n) (fd : fits d) : vld (lowN n d) (lowD n d) := by
  have h1 := quol_bd (a := n) (b := d) fn.1 fn.2
  have h2 := divr_le (a := n) hd
  have h3 := divr_pos (a := n) hd
  have h4 := fd.2
  exact ⟨h3, Int.le_trans h2 h4, h1.1, h1.2, low_cop hd⟩
theorem low_eq {n d : Int} : lowN n d * d = n * lowD n d := by
  have h1 := quo_left n d
  have h2 := div_right n d
  unfold lowN lowD
  generalize n.tdiv (g n d) = p at *
  generalize d / g n d = q at *
  generalize g n d = G at *
  grind
theorem addD_pos {ad bd : Int} (ha : 1 ≤ ad) (hb : 1 ≤ bd) : 1 ≤ addD ad bd := by
  have h1 := divl_pos ha hb
  unfold addD
  have := Int.mul_le_mul h1 hb (by omega) (by omega)
  omega
theorem sum_vld {an ad bn bd : Int} (ha : vld an ad) (hb : vld bn bd) (h : addOk an ad bn bd) : vld (sumS an ad bn bd).1 (sumS an ad bn bd).2.1 := by
  unfold sumS
  rw [if_pos h]
  exact low_vld (addD_pos ha.1 hb.1) h.2.2.1 h.2.2.2
/-- The value of a sum. -/
theorem sum_eq {an ad bn bd : Int} (ha : 1 ≤ ad) (hb : 1 ≤ bd) (h : addOk an ad bn bd) : (sumS an ad bn bd).1 * (ad * bd) = (an * bd + bn * ad) * (sumS an ad bn bd).2.1 := by
  unfold sumS
  rw [if_pos h]
  show lowN _ _ * _ = _ * lowD _ _
  have hl := low_eq (n := addX an ad bn bd + addY an ad bn bd) (d := addD ad bd)
  have h1 := div_left ad bd
  have h2 := div_right ad bd
  have hg := g_pos (a := ad) hb
  revert hl
  unfold addX addY addD
  generalize lowN _ _ = p
  generalize lowD _ _ = q
  intro hl
  generalize ad / g ad bd = a' at *
  generalize bd / g ad bd = b' at *
  generalize g ad bd = G at *
  subst h1
  have e : p * (a' * G * bd) = G * (p * (a' * bd)) := by grind
  rw [e, hl]
  grind

theorem addX_comm (an ad bn bd : Int) : addX an ad bn bd = addY bn bd an ad := by unfold addX addY; rw [g_comm]
theorem addD_comm (ad bd : Int) : addD ad bd = addD bd ad := by
  unfold addD
  have h1 := div_left ad bd
  have h2 := div_right ad bd
  rw [g_comm bd ad]
  generalize ad / g ad bd = a' at *
  generalize bd / g ad bd = b' at *
  generalize g ad bd = G at *
  grind
theorem addOk_comm (an ad bn bd : Int) : addOk an ad bn bd ↔ addOk bn bd an ad := by
  unfold addOk
  rw [addX_comm an ad bn bd, addX_comm bn bd an ad, addD_comm ad bd, Int.add_comm (addY bn bd an ad)]
  constructor <;> (rintro ⟨a, b, c⟩; exact ⟨b, a, c⟩)
theorem sum_comm (an ad bn bd : Int) : sumS an ad bn bd = sumS bn bd an ad := by
  unfold sumS
  by_cases h : addOk an ad bn bd
  · rw [if_pos h, if_pos ((addOk_comm _ _ _ _).1 h), addX_comm an ad bn bd, addX_comm bn bd an ad, addD_comm ad bd, Int.add_comm (addY bn bd an ad)]
  · rw [if_neg h, if_neg (fun c => h ((addOk_comm _ _ _ _).2 c))]

theorem g_one_right (a : Int) : g a 1 = 1 := by unfold g; simp
theorem g_one_left (a : Int) : g 1 a = 1 := by unfold g; simp
/-- 0 changes nothing. -/
theorem sum_zero {n d : Int} (h : vld n d) : sumS n d 0 1 = (n, d, 0) := by
  obtain ⟨h1, h2, h3, h4, h5⟩ := h
  have hx : addX n d 0 1 = n := by unfold addX; rw [g_one_right]; simp
  have hy : addY n d 0 1 = 0 := by unfold addY; simp
  have hd : addD d 1 = d := by unfold addD; rw [g_one_right]; simp
  unfold sumS
  rw [if_pos (by unfold addOk fits; rw [hx, hy, hd]; omega), hx, hy, hd]
  unfold lowN lowD
  rw [Int.add_zero, h5]
  simp
/-- The numbers of a difference. -/
theorem neg_vld {n d : Int} (h : vld n d) : vld (-n) d := by
  obtain ⟨h1, h2, h3, h4, h5⟩ := h
  exact ⟨h1, h2, by omega, by omega, by rw [g_neg]; exact h5⟩
theorem neg_vld_iff {n d : Int} : vld (-n) d ↔ vld n d := ⟨fun h => by have := neg_vld h; rwa [Int.neg_neg] at this, neg_vld⟩
/-- Taking away what was added leads back. -/
theorem sum_back {an ad bn bd : Int} (ha : vld an ad) (hb : vld bn bd) (h : addOk an ad bn bd)
    (h' : addOk (sumS an ad bn bd).1 (sumS an ad bn bd).2.1 (-bn) bd) :
    (sumS (sumS an ad bn bd).1 (sumS an ad bn bd).2.1 (-bn) bd).1 = an ∧ (sumS (sumS an ad bn bd).1 (sumS an ad bn bd).2.1 (-bn) bd).2.1 = ad := by
  have v1 := sum_vld ha hb h
  have v2 := sum_vld v1 (neg_vld hb) h'
  have e1 := sum_eq ha.1 hb.1 h
  have e2 := sum_eq v1.1 hb.1 h'
  have hb1 := hb.1
  have hq := v1.1
  generalize (sumS an ad bn bd).1 = p at *
  generalize (sumS an ad bn bd).2.1 = q at *
  generalize (sumS p q (-bn) bd).1 = p' at *
  generalize (sumS p q (-bn) bd).2.1 = q' at *
  refine one_form v2.1 ha.1 v2.2.2.2.2 ha.2.2.2.2 ?_
  have hz : q * bd ≠ 0 := by
    have := Int.mul_le_mul hq hb1 (by omega) (by omega)
    omega
  apply Int.eq_of_mul_eq_mul_right hz
  grind

/-! ### Products -/
def mulN (an ad bn bd : Int) : Int := an.tdiv (g an bd) * bn.tdiv (g bn ad)
def mulD (an ad bn bd : Int) : Int := ad / g bn ad * (bd / g an bd)
def mulOk (an ad bn bd : Int) : Prop := fits (mulN an ad bn bd) ∧ fits (mulD an ad bn bd)
instance (an ad bn bd : Int) : Decidable (mulOk an ad bn bd) := by unfold mulOk; infer_instance
def prodS (an ad bn bd : Int) : Int × Int × Int := if mulOk an ad bn bd then (mulN an ad bn bd, mulD an ad bn bd, 0) else (0, 0, 5)
def mulS (an ad bn bd : Int) : Int × Int × Int := if vld an ad ∧ vld bn bd then prodS an ad bn bd else (0, 0, 8)
def divS (an ad bn bd : Int) : Int × Int × Int :=
  if vld an ad ∧ vld bn bd then (if bn = 0 then (0, 0, 1) else if bn < 0 then prodS an ad (-bd) (-bn) else prodS an ad bd bn) else (0, 0, 8)

theorem mulD_pos {an ad bn bd : Int} (ha : 1 ≤ ad) (hb : 1 ≤ bd) : 1 ≤ mulD an ad bn bd := by
  have h1 := divr_pos (a := bn) ha
  have h2 := divr_pos (a := an) hb
  unfold mulD
  have := Int.mul_le_mul h1 h2 (by omega) (by omega)
  omega
theorem mul_cop {an ad bn bd : Int} (ha : 1 ≤ ad) (hb : 1 ≤ bd) (ga : g an ad = 1) (gb : g bn bd = 1) : g (mulN an ad bn bd) (mulD an ad bn bd) = 1 := by
  unfold mulN mulD
  have d1 : an.tdiv (g an bd) ∣ an := ⟨_, (quo_left an bd).symm⟩
  have d2 : bn.tdiv (g bn ad) ∣ bn := ⟨_, (quo_left bn ad).symm⟩
  have d3 : ad / g bn ad ∣ ad := ⟨_, (div_right bn ad).symm⟩
  have d4 : bd / g an bd ∣ bd := ⟨_, (div_right an bd).symm⟩
  exact cop_mul (cop_dvd ga d1 d3) (cop_quo (G := g an bd) rfl hb (quo_left an bd) (div_right an bd)) (cop_quo (G := g bn ad) rfl ha (quo_left bn ad) (div_right bn ad)) (cop_dvd gb d2 d4)
theorem mul_eq (an ad bn bd : Int) : mulN an ad bn bd * (ad * bd) = an * bn * mulD an ad bn bd := by
  have h1 := quo_left an bd
  have h2 := quo_left bn ad
  have h3 := div_right bn ad
  have h4 := div_right an bd
  unfold mulN mulD
  generalize an.tdiv (g an bd) = a1 at *
  generalize bn.tdiv (g bn ad) = b1 at *
  generalize ad / g bn ad = d1 at *
  generalize bd / g an bd = d2 at *
  generalize g an bd = G at *
  generalize g bn ad = H at *
  subst h1 h2
  rw [← h3, ← h4]
  grind
theorem prod_vld {an ad bn bd : Int} (ha : vld an ad) (hb : vld bn bd) (h : mulOk an ad bn bd) : vld (mulN an ad bn bd) (mulD an ad bn bd) :=
  ⟨mulD_pos ha.1 hb.1, h.2.2, h.1.1, h.1.2, mul_cop ha.1 hb.1 ha.2.2.2.2 hb.2.2.2.2⟩
theorem mulN_comm (an ad bn bd : Int) : mulN an ad bn bd = mulN bn bd an ad := by unfold mulN; rw [Int.mul_comm]
theorem mulD_comm (an ad bn bd : Int) : mulD an ad bn bd = mulD bn bd an ad := by unfold mulD; rw [Int.mul_comm]
theorem prod_comm (an ad bn bd : Int) : prodS an ad bn bd = prodS bn bd an ad := by
  have hi : mulOk an ad bn bd ↔ mulOk bn bd an ad := by unfold mulOk; rw [mulN_comm an ad bn bd, mulD_comm an ad bn bd]
  unfold prodS
  by_cases h : mulOk an ad bn bd
  · rw [if_pos h, if_pos (hi.1 h), mulN_comm an ad bn bd, mulD_comm an ad bn bd]
  · rw [if_neg h, if_neg (fun c => h (hi.2 c))]
/-- Division undoes multiplication: with the reciprocal (c / e) of the second ratio, whatever its sign. -/
theorem prod_back {an ad bn bd c e : Int} (ha : vld an ad) (hb : vld bn bd) (h : mulOk an ad bn bd) (he : 1 ≤ e) (hc : c * bn = e * bd) (gc : g c e = 1) :
    prodS (mulN an ad bn bd) (mulD an ad bn bd) c e = (an, ad, 0) := by
  have v1 := prod_vld ha hb h
  have e1 := mul_eq an ad bn bd
  have hb1 := hb.1
  generalize mulN an ad bn bd = p at *
  generalize mulD an ad bn bd = q at *
  have p2 := mulD_pos (an := p) (bn := c) v1.1 he
  have c2 := mul_cop v1.1 he v1.2.2.2.2 gc
  have e2 := mul_eq p q c e
  have hq := v1.1
  have hz : q * (e * bd) ≠ 0 := by
    have h1 := Int.mul_le_mul he hb1 (by omega) (by omega)
    have := Int.mul_le_mul hq h1 (by omega) (by omega)
    omega
  have hf := one_form p2 ha.1 c2 ha.2.2.2.2 (by
    apply Int.eq_of_mul_eq_mul_right hz
    generalize mulN p q c e = p' at *
    generalize mulD p q c e = q' at *
    have k : p' * ad * (q * (e * bd)) = p' * (q * e) * (ad * bd) := by grind
    rw [k, e2]
    have k2 : p * c * q' * (ad * bd) = p * (ad * bd) * c * q' := by grind
    rw [k2, e1]
    have k3 : an * bn * q * c * q' = an * q' * q * (c * bn) := by grind
    rw [k3, hc]
    grind)
  have hk : mulOk p q c e := by unfold mulOk; rw [hf.1, hf.2]; exact ⟨⟨ha.2.2.1, ha.2.2.2.1⟩, by have := ha.1; omega, ha.2.1⟩
  unfold prodS
  rw [if_pos hk, hf.1, hf.2]
theorem div_back {an ad bn bd : Int} (ha : vld an ad) (hb : vld bn bd) (h : mulOk an ad bn bd) (h0 : bn ≠ 0) : divS (mulN an ad bn bd) (mulD an ad bn bd) bn bd = (an, ad, 0) := by
  unfold divS
  rw [if_pos ⟨prod_vld ha hb h, hb⟩, if_neg h0]
  have gb := hb.2.2.2.2
  by_cases hn : bn < 0
  · rw [if_pos hn]
    exact prod_back ha hb h (by omega) (by grind) (by rw [g_neg, g_comm, g_neg]; exact gb)
  · rw [if_neg hn]
    exact prod_back ha hb h (by omega) (by grind) (by rw [g_comm]; exact gb)

/-! ### The order -/
def ltB (an ad bn bd : Int) : Bool := decide (an * bd < bn * ad)
def lessB (an ad bn bd : Int) : Bool := decide (vld an ad ∧ vld bn bd ∧ an * bd < bn * ad)
theorem less_yes {an ad bn bd : Int} (ha : vld an ad) (hb : vld bn bd) : lessB an ad bn bd = ltB an ad bn bd := by
  unfold lessB ltB
  simp [ha, hb]
theorem lt_irr {an ad bn bd : Int} (h : ltB an ad bn bd = true) : ltB bn bd an ad = false := by
  unfold ltB at *
  simp at *
  omega
theorem lt_or {an ad bn bd : Int} (ha : vld an ad) (hb : vld bn bd) (h1 : ltB an ad bn bd = false) (h2 : ltB bn bd an ad = false) : an = bn ∧ ad = bd := by
  unfold ltB at *
  simp at *
  exact one_form ha.1 hb.1 ha.2.2.2.2 hb.2.2.2.2 (by omega)
theorem lt_ne {an ad bn bd : Int} (h : ltB an ad bn bd = true) : ¬ (an = bn ∧ ad = bd) := by
  rintro ⟨rfl, rfl⟩
  unfold ltB at h
  simp at h
theorem lt_trans {an ad bn bd cn cd : Int} (ha : 1 ≤ ad) (hb : 1 ≤ bd) (hc : 1 ≤ cd) (h1 : ltB an ad bn bd = true) (h2 : ltB bn bd cn cd = true) : ltB an ad cn cd = true := by
  unfold ltB at *
  simp at *
  have k1 := Int.mul_lt_mul_of_pos_right h1 (show 0 < cd by omega)
  have k2 := Int.mul_lt_mul_of_pos_right h2 (show 0 < ad by omega)
  have e1 : bn * ad * cd = bn * cd * ad := by grind
  have k3 : an * cd * bd < cn * ad * bd := by
    have a1 : an * cd * bd = an * bd * cd := by grind
    have a2 : cn * ad * bd = cn * bd * ad := by grind
    omega
  exact Int.lt_of_mul_lt_mul_right k3 (by omega)
/-- The order is that of the differences. -/
theorem sub_sign {an ad bn bd : Int} (ha : vld an ad) (hb : vld bn bd) (h : addOk bn bd (-an) ad) : decide (0 < (sumS bn bd (-an) ad).1) = ltB an ad bn bd := by
  have v := sum_vld hb (neg_vld ha) h
  have e := sum_eq hb.1 ha.1 h
  have hz := Int.mul_le_mul hb.1 ha.1 (by omega) (by have := hb.1; omega)
  have hq := v.1
  generalize (sumS bn bd (-an) ad).1 = p at *
  generalize (sumS bn bd (-an) ad).2.1 = q at *
  unfold ltB
  rw [decide_eq_decide]
  generalize bd * ad = D at *
  have e' : bn * ad + -an * bd = bn * ad - an * bd := by grind
  rw [e'] at e
  generalize bn * ad = u at *
  generalize an * bd = v at *
  constructor
  · intro hp
    have : 0 < p * D := Int.mul_pos hp (by omega)
    rw [e] at this
    have := Int.pos_of_mul_pos_left (show 0 < (u - v) * q from this) (by omega)
    omega
  · intro hv
    have : 0 < (u - v) * q := Int.mul_pos (by omega) (by omega)
    rw [← e] at this
    exact Int.pos_of_mul_pos_left this (by omega)

/-! ### Sizes -/
def ab (n : Int) : Int := if n < 0 then -n else n
theorem ab_bd {n : Int} (h1 : -4611686018427387904 ≤ n) (h2 : n ≤ 4611686018427387904) : 0 ≤ ab n ∧ ab n ≤ 4611686018427387904 := by unfold ab; omega
theorem ab_nat (n : Int) : ab n = (n.natAbs : Int) := by unfold ab; omega
theorem ab_mul (a b : Int) : ab a * ab b = ab (a * b) := by rw [ab_nat, ab_nat, ab_nat, Int.natAbs_mul]; simp
/-- x and y have the common divisor c. -/
def GcdIs (x y c : Int) : Prop := g x y = c
theorem gcdIs_ab (n d : Int) : GcdIs (ab n) (ab d) (g n d) := by unfold GcdIs g; rw [ab_nat, ab_nat]; simp
theorem g_ab (n d : Int) : g (ab n) d = g n d := by unfold g; rw [ab_nat]; simp
theorem g_mod {x y : Int} (hx : 0 ≤ x) (hy : 0 ≤ y) : g (y % x) x = g x y := by
  obtain ⟨a, rfl⟩ := Int.eq_ofNat_of_zero_le hx
  obtain ⟨b, rfl⟩ := Int.eq_ofNat_of_zero_le hy
  unfold g
  rw [show ((b : Int) % (a : Int)) = ((b % a : Nat) : Int) from (Int.natCast_emod b a).symm]
  simp only [Int.natAbs_natCast]
  rw [← Nat.gcd_rec]
theorem GcdIs.step {x y c : Int} (h : GcdIs x y c) (hx : 0 ≤ x) (hy : 0 ≤ y) : GcdIs (y % x) x c := (g_mod hx hy).trans h
theorem GcdIs.step' {x y c : Int} (h : GcdIs x y c) (hx : 0 ≤ x) (hy : 0 ≤ y) : GcdIs y (x % y) c := by
  unfold GcdIs at *
  rw [g_comm, g_mod hy hx, g_comm]
  exact h
theorem GcdIs.last {x y c : Int} (h : GcdIs x y c) (hx : x = 0) (hy : 0 ≤ y) : y = c := by
  subst hx
  unfold GcdIs g at h
  simp at h
  omega
theorem GcdIs.last' {x y c : Int} (h : GcdIs x y c) (hy : y = 0) (hx : 0 ≤ x) : x = c := by
  subst hy
  unfold GcdIs g at h
  simp at h
  omega
theorem mul_fits {a b : Int} (f1 : -4611686018427387904 ≤ a * b) (f2 : a * b ≤ 4611686018427387904) :
    ∃ l : Int, ab a * ab b / 18446744073709551616 = 0 ∧ ab a * ab b % 18446744073709551616 = l ∧ 0 ≤ l ∧ l ≤ 4611686018427387904 := by
  have := ab_bd f1 f2
  rw [ab_mul]
  exact ⟨ab (a * b), by omega, by omega, by omega, by omega⟩
theorem mul_wide {a b : Int} (a1 : -4611686018427387904 ≤ a) (a2 : a ≤ 4611686018427387904) (b1 : -4611686018427387904 ≤ b) (b2 : b ≤ 4611686018427387904) (f : ¬ (-4611686018427387904 ≤ a * b ∧ a * b ≤ 4611686018427387904)) :
    ∃ h l : Int, ab a * ab b / 18446744073709551616 = h ∧ ab a * ab b % 18446744073709551616 = l ∧ 0 ≤ h ∧ h ≤ 4611686018427387904 ∧ 0 ≤ l ∧ l < 18446744073709551616 ∧ (1 ≤ h ∨ (h = 0 ∧ 4611686018427387904 < l)) := by
  have h1 := ab_bd a1 a2
  have h2 := ab_bd b1 b2
  have h3 : ab a * ab b ≤ 4611686018427387904 * 4611686018427387904 := Int.mul_le_mul h1.2 h2.2 h2.1 (by omega)
  have h4 : 4611686018427387904 < ab (a * b) := by unfold ab; split <;> omega
  rw [ab_mul] at *
  refine ⟨_, _, rfl, rfl, by omega, by omega, by omega, by omega, by omega⟩
theorem quo_fits {a b : Int} (hb : 1 ≤ ab b) (f1 : -4611686018427387904 ≤ a * b) (f2 : a * b ≤ 4611686018427387904) : ab a ≤ 4611686018427387904 / ab b := by
  have := ab_bd f1 f2
  rw [← ab_mul] at this
  exact (Int.le_ediv_iff_mul_le (by omega)).2 this.2
theorem quo_wide {a b : Int} (hb : 1 ≤ ab b) (f : ¬ (-4611686018427387904 ≤ a * b ∧ a * b ≤ 4611686018427387904)) : 4611686018427387904 / ab b < ab a := by
  have h4 : 4611686018427387904 < ab (a * b) := by unfold ab; split <;> omega
  rw [← ab_mul] at h4
  exact (Int.ediv_lt_iff_lt_mul (by omega)).2 h4

/-! ### What the program's small functions return -/
def tmB (a b : Int) : Bool := decide (-4611686018427387904 ≤ a * b ∧ a * b ≤ 4611686018427387904)
def tmN (a b : Int) : Int := if tmB a b then a * b else 0
def plB (a b : Int) : Bool := decide (-4611686018427387904 ≤ a + b ∧ a + b ≤ 4611686018427387904)
def plN (a b : Int) : Int := if plB a b then a + b else 0
theorem tmB_yes {a b : Int} (h : -4611686018427387904 ≤ a * b ∧ a * b ≤ 4611686018427387904) : tmB a b = true := by unfold tmB; exact decide_eq_true h
theorem tmB_no {a b : Int} (h : ¬ (-4611686018427387904 ≤ a * b ∧ a * b ≤ 4611686018427387904)) : tmB a b = false := by unfold tmB; exact decide_eq_false h
theorem tmN_yes {a b : Int} (h : -4611686018427387904 ≤ a * b ∧ a * b ≤ 4611686018427387904) : tmN a b = a * b := by unfold tmN; rw [tmB_yes h]; rfl
theorem tmN_no {a b : Int} (h : ¬ (-4611686018427387904 ≤ a * b ∧ a * b ≤ 4611686018427387904)) : tmN a b = 0 := by unfold tmN; rw [tmB_no h]; rfl
theorem plB_yes {a b : Int} (h : -4611686018427387904 ≤ a + b ∧ a + b ≤ 4611686018427387904) : plB a b = true := by unfold plB; exact decide_eq_true h
theorem plB_no {a b : Int} (h : ¬ (-4611686018427387904 ≤ a + b ∧ a + b ≤ 4611686018427387904)) : plB a b = false := by unfold plB; exact decide_eq_false h
theorem plN_yes {a b : Int} (h : -4611686018427387904 ≤ a + b ∧ a + b ≤ 4611686018427387904) : plN a b = a + b := by unfold plN; rw [plB_yes h]; rfl
theorem plN_no {a b : Int} (h : ¬ (-4611686018427387904 ≤ a + b ∧ a + b ≤ 4611686018427387904)) : plN a b = 0 := by unfold plN; rw [plB_no h]; rfl
theorem tmN_bd (a b : Int) : -4611686018427387904 ≤ tmN a b ∧ tmN a b ≤ 4611686018427387904 := by
  unfold tmN tmB
  split
  · rename_i h; exact of_decide_eq_true h
  · omega
theorem tm_of {a b v : Int} (h : tmB a b = true) (hv : tmN a b = v) : v = a * b ∧ fits v := by
  have h' : -4611686018427387904 ≤ a * b ∧ a * b ≤ 4611686018427387904 := of_decide_eq_true h
  rw [tmN_yes h'] at hv
  subst hv
  exact ⟨rfl, h'⟩
theorem pl_of {a b v : Int} (h : plB a b = true) (hv : plN a b = v) : v = a + b ∧ fits v := by
  have h' : -4611686018427387904 ≤ a + b ∧ a + b ≤ 4611686018427387904 := of_decide_eq_true h
  rw [plN_yes h'] at hv
  subst hv
  exact ⟨rfl, h'⟩
theorem tm_not {a b : Int} (h : tmB a b = false) : ¬ fits (a * b) := of_decide_eq_false h
theorem pl_not {a b : Int} (h : plB a b = false) : ¬ fits (a + b) := of_decide_eq_false h

theorem sum_cases {an ad bn bd x y s dd : Int} {tx ty td ts : Bool} (ha : 1 ≤ ad) (hb : 1 ≤ bd)
    (hx : tmN an (bd / g ad bd) = x) (hy : tmN bn (ad / g ad bd) = y) (hd : tmN (ad / g ad bd) bd = dd) (hs : plN x y = s)
    (tx0 : tmB an (bd / g ad bd) = tx) (ty0 : tmB bn (ad / g ad bd) = ty) (td0 : tmB (ad / g ad bd) bd = td) (ts0 : plB x y = ts) :
    (sumS an ad bn bd = (lowN s dd, lowD s dd, 0) ∧ (tx = true ∧ ty = true ∧ ts = true ∧ td = true) ∧ fits s ∧ 1 ≤ dd ∧ dd ≤ 4611686018427387904) ∨
    (sumS an ad bn bd = (0, 0, 5) ∧ (tx = false ∨ (tx = true ∧ ty = false) ∨ (tx = true ∧ ty = true ∧ ts = false) ∨ (tx = true ∧ ty = true ∧ ts = true ∧ td = false))) := by
  have no : ¬ addOk an ad bn bd → sumS an ad bn bd = (0, 0, 5) := fun h => by unfold sumS; rw [if_neg h]
  cases tx with
  | false => exact .inr ⟨no (fun h => tm_not tx0 h.1), .inl rfl⟩
  | true =>
    have kx := tm_of tx0 hx
    cases ty with
    | false => exact .inr ⟨no (fun h => tm_not ty0 h.2.1), .inr (.inl ⟨rfl, rfl⟩)⟩
    | true =>
      have ky := tm_of ty0 hy
      have exy : addX an ad bn bd + addY an ad bn bd = x + y := by unfold addX addY; rw [kx.1, ky.1]
      cases ts with
      | false => exact .inr ⟨no (fun h => pl_not ts0 (by rw [← exy]; exact h.2.2.1)), .inr (.inr (.inl ⟨rfl, rfl, rfl⟩))⟩
      | true =>
        have ks := pl_of ts0 hs
        cases td with
        | false => exact .inr ⟨no (fun h => tm_not td0 h.2.2.2), .inr (.inr (.inr ⟨rfl, rfl, rfl, rfl⟩))⟩
        | true =>
          have kd := tm_of td0 hd
          have ed : addD ad bd = dd := by unfold addD; rw [kd.1]
          have hp := addD_pos ha hb
          have hok : addOk an ad bn bd := by
            refine ⟨?_, ?_, ?_, ?_⟩
            · show fits (an * (bd / g ad bd)); rw [← kx.1]; exact kx.2
            · show fits (bn * (ad / g ad bd)); rw [← ky.1]; exact ky.2
            · rw [exy, ← ks.1]; exact ks.2
            · rw [ed]; exact kd.2
          refine .inl ⟨?_, ⟨rfl, rfl, rfl, rfl⟩, ks.2, by omega, kd.2.2⟩
          unfold sumS
          rw [if_pos hok, exy, ed, ks.1]
theorem prod_cases {an ad bn bd x dd : Int} {tx td : Bool}
    (hx : tmN (an.tdiv (g an bd)) (bn.tdiv (g bn ad)) = x) (hd : tmN (ad / g bn ad) (bd / g an bd) = dd)
    (tx0 : tmB (an.tdiv (g an bd)) (bn.tdiv (g bn ad)) = tx) (td0 : tmB (ad / g bn ad) (bd / g an bd) = td) :
    (prodS an ad bn bd = (x, dd, 0) ∧ (tx = true ∧ td = true)) ∨ (prodS an ad bn bd = (0, 0, 5) ∧ (tx = false ∨ (tx = true ∧ td = false))) := by
  have no : ¬ mulOk an ad bn bd → prodS an ad bn bd = (0, 0, 5) := fun h => by unfold prodS; rw [if_neg h]
  cases tx with
  | false => exact .inr ⟨no (fun h => tm_not tx0 h.1), .inl rfl⟩
  | true =>
    have kx := tm_of tx0 hx
    cases td with
    | false => exact .inr ⟨no (fun h => tm_not td0 h.2), .inr ⟨rfl, rfl⟩⟩
    | true =>
      have kd := tm_of td0 hd
      have e1 : mulN an ad bn bd = x := by unfold mulN; rw [kx.1]
      have e2 : mulD an ad bn bd = dd := by unfold mulD; rw [kd.1]
      refine .inl ⟨?_, rfl, rfl⟩
      unfold prodS
      rw [if_pos (by unfold mulOk; rw [e1, e2]; exact ⟨kx.2, kd.2⟩), e1, e2]

/-! ### Less, by signs -/
theorem less_pp {an ad bn bd : Int} (h1 : 0 ≤ an) (h2 : 0 ≤ bn) : ltB (ab an) ad (ab bn) bd = ltB an ad bn bd := by
  rw [show ab an = an by unfold ab; omega, show ab bn = bn by unfold ab; omega]
theorem less_nn {an ad bn bd : Int} (h1 : an < 0) (h2 : bn < 0) : ltB (ab bn) bd (ab an) ad = ltB an ad bn bd := by
  rw [show ab an = -an by unfold ab; omega, show ab bn = -bn by unfold ab; omega]
  unfold ltB
  rw [decide_eq_decide, Int.neg_mul, Int.neg_mul]
  omega
theorem less_np {an ad bn bd : Int} (h1 : an < 0) (h2 : 0 ≤ bn) (ha : 1 ≤ ad) (hb : 1 ≤ bd) : ltB an ad bn bd = true := by
  unfold ltB
  have e1 : an * bd < 0 := Int.mul_neg_of_neg_of_pos h1 (by omega)
  have e2 : 0 ≤ bn * ad := Int.mul_nonneg h2 (by omega)
  exact decide_eq_true (by omega)
theorem less_pn {an ad bn bd : Int} (h1 : 0 ≤ an) (h2 : bn < 0) (ha : 1 ≤ ad) (hb : 1 ≤ bd) : ltB an ad bn bd = false := by
  unfold ltB
  have e1 : bn * ad < 0 := Int.mul_neg_of_neg_of_pos h2 (by omega)
  have e2 : 0 ≤ an * bd := Int.mul_nonneg h1 (by omega)
  exact decide_eq_false (by omega)

/-! ### Fractions, compared by quotients and remainders -/
def frB (a b c d : Int) : Bool := decide (a * d < c * b)
theorem fr_parts (a b : Int) : b * (a / b) + a % b = a := Int.mul_ediv_add_emod a b
theorem fr_lt {a b c d : Int} (hb : 1 ≤ b) (hd : 1 ≤ d) (h : a / b < c / d) : frB a b c d = true := by
  have e1 := fr_parts a b
  have e2 := fr_parts c d
  have m1 := Int.emod_lt_of_pos a (show 0 < b by omega)
  have m2 := Int.emod_nonneg c (show d ≠ 0 by omega)
  unfold frB
  apply decide_eq_true
  generalize a / b = q at *
  generalize c / d = p at *
  generalize a % b = r at *
  generalize c % d = s at *
  have k1 : a < b * (q + 1) := by rw [Int.mul_add]; omega
  have k2 : d * (q + 1) ≤ d * p := Int.mul_le_mul_of_nonneg_left (by omega) (by omega)
  have k3 := Int.mul_lt_mul_of_pos_right k1 (show 0 < d by omega)
  have k4 : d * (q + 1) * b ≤ c * b := Int.mul_le_mul_of_nonneg_right (by omega) (by omega)
  have k5 : b * (q + 1) * d = d * (q + 1) * b := by grind
  omega
theorem fr_asym {a b c d : Int} (h : frB c d a b = true) : frB a b c d = false := by
  unfold frB at *
  simp at *
  omega
theorem fr_same {a b c d : Int} (h : a / b = c / d) : (a * d < c * b ↔ a % b * d < c % d * b) := by
  have e1 := fr_parts a b
  have e2 := fr_parts c d
  rw [h] at e1
  generalize c / d = p at *
  generalize a % b = r at *
  generalize c % d = s at *
  have k1 : a * d = b * p * d + r * d := by rw [← e1]; grind
  have k2 : c * b = b * p * d + s * b := by rw [← e2]; grind
  omega
theorem fr_zero {a b c d : Int} (hb : 1 ≤ b) (hd : 1 ≤ d) (h : a / b = c / d) (hc : c % d = 0) : frB a b c d = false := by
  have m1 := Int.emod_nonneg a (show b ≠ 0 by omega)
  unfold frB
  apply decide_eq_false
  rw [fr_same h, hc]
  have := Int.mul_nonneg m1 (show 0 ≤ d by omega)
  omega
theorem fr_one {a b c d : Int} (hb : 1 ≤ b) (hd : 1 ≤ d) (h : a / b = c / d) (hc : 1 ≤ c % d) (ha : a % b = 0) : frB a b c d = true := by
  unfold frB
  apply decide_eq_true
  rw [fr_same h, ha]
  have := Int.mul_pos (show 0 < c % d by omega) (show 0 < b by omega)
  omega
theorem fr_rec {a b c d : Int} (h : a / b = c / d) : frB d (c % d) b (a % b) = frB a b c d := by
  unfold frB
  rw [decide_eq_decide, fr_same h, Int.mul_comm d, Int.mul_comm b]
theorem fr_lt' (an ad bn bd : Int) : frB an ad bn bd = ltB an ad bn bd := rfl
theorem less_nn' {an ad bn bd : Int} : frB (-bn) bd (-an) ad = ltB an ad bn bd := by
  unfold frB ltB
  rw [decide_eq_decide, Int.neg_mul, Int.neg_mul]
  omega

/-! ### What the reference's sum returns -/
theorem rsum_cases {an ad bn bd x y dd : Int} {tx ty td : Bool} (ha : 1 ≤ ad) (hb : 1 ≤ bd)
    (hx : tmN an (bd / g ad bd) = x) (hy : tmN bn (ad / g ad bd) = y) (hd : tmN (ad / g ad bd) bd = dd)
    (tx0 : tmB an (bd / g ad bd) = tx) (ty0 : tmB bn (ad / g ad bd) = ty) (td0 : tmB (ad / g ad bd) bd = td) :
    (sumS an ad bn bd = (lowN (x + y) dd, lowD (x + y) dd, 0) ∧ (tx = true ∧ ty = true ∧ td = true) ∧ fits (x + y) ∧ 1 ≤ dd ∧ dd ≤ 4611686018427387904) ∨
    (sumS an ad bn bd = (0, 0, 5) ∧ (tx = false ∨ (tx = true ∧ ty = false) ∨ (tx = true ∧ ty = true ∧ td = false) ∨ (tx = true ∧ ty = true ∧ td = true ∧ ¬ fits (x + y)))) := by
  rcases sum_cases ha hb hx hy hd rfl tx0 ty0 td0 rfl with ⟨hr, ⟨h1, h2, h3, h4⟩, hf, h5, h6⟩ | ⟨hr, hno⟩
  · have hs := pl_of h3 rfl
    rw [hs.1] at hr hf
    exact .inl ⟨hr, ⟨h1, h2, h4⟩, hf, h5, h6⟩
  · refine .inr ⟨hr, ?_⟩
    cases tx with
    | false => exact .inl rfl
    | true =>
      cases ty with
      | false => exact .inr (.inl ⟨rfl, rfl⟩)
      | true =>
        cases td with
        | false => exact .inr (.inr (.inl ⟨rfl, rfl, rfl⟩))
        | true =>
          refine .inr (.inr (.inr ⟨rfl, rfl, rfl, ?_⟩))
          rcases hno with h | ⟨_, h⟩ | ⟨_, _, h⟩ | ⟨_, _, _, h⟩
          · cases h
          · cases h
          · exact pl_not h
          · cases h
theorem low_one {n d : Int} (h : g n d = 1) : lowN n d = n ∧ lowD n d = d := by
  unfold lowN lowD
  rw [h]
  simp
theorem prod_vld_of {an ad bn bd x dd : Int} (ha : vld an ad) (hb : vld bn bd) (h : prodS an ad bn bd = (x, dd, 0)) : vld x dd := by
  unfold prodS at h
  by_cases hk : mulOk an ad bn bd
  · rw [if_pos hk] at h
    simp only [Prod.mk.injEq] at h
    rw [← h.1, ← h.2.1]
    exact prod_vld ha hb hk
  · rw [if_neg hk] at h
    simp at h
theorem inv_pos {n d : Int} (h : vld n d) (h0 : 0 < n) : vld d n := by
  obtain ⟨h1, h2, h3, h4, h5⟩ := h
  exact ⟨by omega, h4, by omega, h2, by rw [g_comm]; exact h5⟩
theorem inv_neg {n d : Int} (h : vld n d) (h0 : n < 0) : vld (-d) (-n) := by
  obtain ⟨h1, h2, h3, h4, h5⟩ := h
  exact ⟨by omega, by omega, by omega, by omega, by rw [g_neg, g_comm, g_neg]; exact h5⟩
end Rt
