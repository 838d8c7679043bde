/- ResolveLimits' copies in memory: what each is when it has been changed. ResolveLimits' copies: each change, and what the changed copy is. ResolveLimits' copies: the four that are changed inside a schedule. -/
import Derived.Test.YtphenbfhojdcpaaGreatDoorKlG26
import Derived.Test.YtphenbfhojdcpaaGreatDoorKlTq
namespace Go.Proofs.YtphenbfhojdcpaaGreatDoor
open Go.RowKit
set_option linter.unusedVariables false
set_option linter.unusedSimpArgs false
set_option maxRecDepth 100000
abbrev TT : Nat → Prop := fun _ => True
section
variable {α : Type} {k : Nat} {e : α → Nat → Value}
theorem Src.below {w W : World} {v : SV} {xs : List α} (h : Src k e w v xs) (hb : Below w.heap.size w W) : Src k e W v xs := ⟨h.at_ hb, h.2⟩
theorem LInS.src {S : Nat → Prop} {w : World} {v : SV} {xs : List α} (h : LInS k e S w v xs) (h0 : 0 < xs.length) (h1 : xs.length ≤ 900000) : Src k e w v xs := ⟨h.at_, h.len, .inr h0, h1⟩
theorem Rows.fin {w : World} {lo : Nat} {ρ : Key → Row} (h : Rows w lo ρ) {κ : Key} {T : TypeId} {v : SV} {xs : List α} (he : ρ κ = ⟨T, k, v, encK k e xs⟩) (hk : 0 < k) (hl : xs.length ≤ 1000000) : LInS k e TT w v xs :=
  ((h.list he hk).1.lins (fun _ _ _ => trivial) hl).1
end
def xsL (m : Int) (yv ev : SV) (ys : List (Rs.Lay × SV × SV)) : List SCp := (List.range 12).map fun i => ⟨(Rs.schL m i, yv, ev), ys, Rs.edisL 48⟩
theorem xsL_s (m : Int) (yv ev : SV) (ys : List (Rs.Lay × SV × SV)) : (xsL m yv ev ys).map (·.s) = SLs m yv ev 12 := by unfold xsL SLs; rw [List.map_map]; rfl
theorem xsL_len (m : Int) (yv ev : SV) (ys : List (Rs.Lay × SV × SV)) : (xsL m yv ev ys).length = 12 := by simp [xsL]
theorem xsL_get {m : Int} {yv ev : SV} {ys : List (Rs.Lay × SV × SV)} {i : Nat} (h : i < 12) : (xsL m yv ev ys)[i]? = some ⟨(Rs.schL m i, yv, ev), ys, Rs.edisL 48⟩ := by
  unfold xsL
  rw [List.getElem?_map, List.getElem?_eq_getElem (by simpa using h)]
  simp
/-- The configuration that is copied, and the layer. -/
structure CL (w : World) (m : Int) (bL : Nat) (nb : ByteArray) (zv pv cv mv yv ev : SV) (zs : List (Rs.Zone × SV)) (ps : List (Rs.Pers × SV)) (ys : List (Rs.Lay × SV × SV)) (W : World) : Prop where
  base : Below w.heap.size w W
  blk : BlkAt W w.heap.size (cfgA zv pv noSV cv) 27
  lay : BlkAt W bL #[.string nb, .int .i64 0, .int .i64 1, .int .i64 0, .int .i64 0, .int .i64 400, sv mv, .slice none 0 0, .int .i64 0, .int .i64 0] 40
  zn : Src 3 eZone W zv zs
  pe : Src 6 ePers W pv ps
  sc : Src 3 eSch W cv (SLs m yv ev 12)
  la : Src 10 eLay W yv ys
  ed : Src 5 eEdit W ev (Rs.edisL 48)
  me : Src 1 eInt W mv (Rs.memL m 12)
  zf : zs.map Prod.fst = Rs.zonL
  zo : ∀ x ∈ zs, ZoneS TT W x.1 x.2
  pf : ps.map Prod.fst = Rs.peoL
  po : ∀ x ∈ ps, PersS TT W x.1 x.2
  yf : ys.map Prod.fst = Rs.laysL m 6
  yo : ∀ x ∈ ys, LayS TT W x.1 x.2
  mo : LInS 1 eInt TT W mv (Rs.memL m 12)
section
variable {w W W' : World} {m : Int} {bL : Nat} {nb : ByteArray} {zv pv cv mv yv ev : SV} {zs : List (Rs.Zone × SV)} {ps : List (Rs.Pers × SV)} {ys : List (Rs.Lay × SV × SV)}
theorem CL.below (h : CL w m bL nb zv pv cv mv yv ev zs ps ys W) (hb : Below W.heap.size W W') : CL w m bL nb zv pv cv mv yv ev zs ps ys W' := by
  have mm : Mv TT W TT W' := Mv.of_below hb (fun _ _ _ => trivial)
  exact ⟨bstep h.base hb, h.blk.after hb, h.lay.after hb, h.zn.below hb, h.pe.below hb, h.sc.below hb, h.la.below hb, h.ed.below hb, h.me.below hb, h.zf, fun x hx => ZoneS.mv mm _ _ (h.zo x hx), h.pf, fun x hx => PersS.mv mm _ _ (h.po x hx), h.yf, fun x hx => LayS.mv mm _ _ (h.yo x hx), h.mo.mv mm⟩
/-- A copy that is being changed. -/
structure CX (W0 : World) (lo : Nat) (ρ : Key → Row) (W : World) : Prop where
  base : Below W0.heap.size W0 W
  rows : Rows W lo ρ
  lo0 : W0.heap.size ≤ lo
  le : lo ≤ W.heap.size
variable {W0 : World} {lo : Nat} {ρ ρ' : Key → Row}
theorem CX.go (h : CX W0 lo ρ W) {row : Option Nat} (hg : W.grownBy W' row) (hr : ∀ g, row = some g → lo ≤ g) (h' : Rows W' lo ρ') : CX W0 lo ρ' W' :=
  ⟨h.base.grown hg (Nat.le_trans h.lo0 h.le) (fun q hq => Nat.le_trans h.lo0 (hr q hq)), h', h.lo0, Nat.le_trans h.le hg.size⟩
theorem CX.below (h : CX W0 lo ρ W) (hb : Below W.heap.size W W') : CX W0 lo ρ W' := h.go (row := none) (grown_then (grown_refl _ _) hb (Nat.le_refl _)) (fun g e => by cases e) (h.rows.below hb)
theorem CX.drew (h : CX W0 lo ρ W) : CX W0 lo ρ W.drew := h.below (Below.refl _ _).drew
theorem CX.alloc (h : CX W0 lo ρ W) (o : Obj) : CX W0 lo ρ (W.alloc o) := h.below ((Below.refl _ _).alloc (Nat.le_refl _) o)
theorem CX.new (h : CX W0 lo ρ W) (κ : Key) (hn : (ρ κ).v = noSV) (cs : Array Value) (T : TypeId) : CX W0 lo (upd ρ κ ⟨T, cs.size, (some ⟨W.heap.size, 0, none⟩, 1, 1), cs.toList⟩) (W.alloc (.cells cs T)) :=
  h.go (row := none) (grown_alloc (grown_refl _ _) _) (fun g e => by cases e) (h.rows.new κ hn cs T h.le)
theorem CX.add {α : Type} {k : Nat} {e : α → Nat → Value} (h : CX W0 lo ρ W) (κ : Key) (hn : (ρ κ).v = noSV) {T : TypeId} {u : SV} {xs : List α} (ho : OwnL T k e W' lo (sv u) xs) (hl : xs.length = u.2.1) (hg : W.grownBy W' none) (hf : ∀ g, (sv u).ownBlock = some g → W.heap.size ≤ g) :
    CX W0 lo (upd ρ κ ⟨T, k, u, encK k e xs⟩) W' := h.go hg (fun g e => by cases e) (h.rows.add κ hn ho hl hg hf)
theorem CX.put {α : Type} {k : Nat} {e : α → Nat → Value} (h : CX W0 lo ρ W) (κ : Key) {v : SV} (hv : (ρ κ).v = v) {T : TypeId} {g n cap : Nat} {xs : List α} (ho : OwnL T k e W' lo (.slice (some ⟨g, 0, none⟩) n cap) xs) (hl : xs.length = n) (hg : W.grownBy W' (sv v).ownBlock) (hf : (sv v).ownBlock = some g ∨ W.heap.size ≤ g) :
    CX W0 lo (upd ρ κ ⟨T, k, (some ⟨g, 0, none⟩, n, cap), encK k e xs⟩) W' := by
  subst hv
  exact h.go hg (fun q hq => (Row.lt (h.rows.own κ) hq).1) (h.rows.put κ _ hg (list_own (v := (some ⟨g, 0, none⟩, n, cap)) ho hl) (fun q hq => by
    have e2 : some g = some q := hq
    cases e2
    exact hf))
theorem CX.store (h : CX W0 lo ρ W) (π : Key) {T : TypeId} {k g n cap : Nat} {cs : List Value} (he : ρ π = ⟨T, k, (some ⟨g, 0, none⟩, n, cap), cs⟩) (j : Nat) (u : Value) : CX W0 lo (upd ρ π ⟨T, k, (some ⟨g, 0, none⟩, n, cap), cs.set j u⟩) (W.setCell ⟨g, j, none⟩ u) := by
  have ea : (ρ π).v.1 = some ⟨g, 0, none⟩ := by rw [he]
  refine h.go (grown_set W g j u) (fun q hq => by cases hq; exact (Row.lt (h.rows.own π) (own_some ea)).1) (h.rows.store π ea ?_ (fun x hx => upd_ne _ hx))
  rw [upd_same, he]
theorem CX.cell (h : CX W0 lo ρ W) {κ : Key} {T : TypeId} {k g n cap : Nat} {cs : List Value} (he : ρ κ = ⟨T, k, (some ⟨g, 0, none⟩, n, cap), cs⟩) {j : Nat} {v : Value} (hv : cs[j]? = some v) (hj : j < n * k) : W.cell? ⟨g, j, none⟩ = some v ∧ W.frozen? ⟨g, j, none⟩ = false := ⟨(h.rows.cell he hj).trans hv, h.rows.free he j⟩
structure Copied (m : Int) (yv ev : SV) (zs : List (Rs.Zone × SV)) (ps : List (Rs.Pers × SV)) (ys : List (Rs.Lay × SV × SV)) (a b d r : SV) (bo : Nat) (ρ : Key → Row) (W0 W : World) : Prop where
  cx : CX W0 (W0.heap.size + 2) ρ W
  cp : Cp bo zs ps [] (xsL m yv ev ys) 12 ρ
  va : (ρ .zn).v = a
  vb : (ρ .pe).v = b
  vd : (ρ .ca).v = d
  vr : (ρ .sc).v = r
theorem CL.copy (h : CL w m bL nb zv pv cv mv yv ev zs ps ys W) : Calls Tryz.prog 8 #[.agg #[.slice zv.1 zv.2.1 zv.2.2, .slice pv.1 pv.2.1 pv.2.2, .slice none 0 0, .slice cv.1 cv.2.1 cv.2.2]] W fun e w' => ∃ (ρ : Key → Row) (bo : Nat) (a1 b1 d1 r1 : Option Addr) (a2 a3 b2 b3 d2 d3 r2 r3 : Nat), e = .returned (.agg #[.slice a1 a2 a3, .slice b1 b2 b3, .slice d1 d2 d3, .slice r1 r2 r3]) ∧ Copied m yv ev zs ps ys (a1, a2, a3) (b1, b2, b3) (d1, d2, d3) (r1, r2, r3) bo ρ W w' := by
  have hh := copy_is (cs := []) (xs := xsL m yv ev ys) zv.1 pv.1 none cv.1 zv.2.1 zv.2.2 pv.2.1 pv.2.2 0 0 cv.2.1 cv.2.2 W h.zn h.pe ⟨ListAt.nil_, rfl, .inl rfl, by simp⟩ (by rw [xsL_s]; exact h.sc) (fun x hx => by
    obtain ⟨i, -, rfl⟩ := List.mem_map.1 hx
    exact ⟨h.la, h.ed⟩)
  rw [xsL_len] at hh
  refine hh.mono ?_
  rintro e w' ⟨ρ, bo, rfl, h1, h2, h3, h4⟩
  exact ⟨ρ, bo, _, _, _, _, _, _, _, _, _, _, _, _, rfl, ⟨h1, h3, by omega, h2⟩, h4, rfl, rfl, rfl, rfl⟩
/-- A copy that is finished. -/
structure DoneC (b : Nat) (a1 a2 a3 a4 : SV) (C : Rs.Cfg) (W : World) : Prop where
  blk : BlkAt W b (cfgA a1 a2 a3 a4) 27
  cfg : CfgAt 0 W.heap.size W a1 a2 a3 a4 C
theorem DoneC.below {b : Nat} {a1 a2 a3 a4 : SV} {C : Rs.Cfg} (h : DoneC b a1 a2 a3 a4 C W) (hb : Below W.heap.size W W') : DoneC b a1 a2 a3 a4 C W' := ⟨h.blk.after hb, (h.cfg.below (Nat.le_refl _) hb).mono (Nat.le_refl _) hb.size⟩
theorem rows_cfg (hr : Rows W lo ρ) {vz vp vc vs : SV} {ss : List (Rs.Sch × SV × SV)} {C : Rs.Cfg} (h1 : ρ .zn = ⟨32, 3, vz, encK 3 eZone zs⟩) (h2 : ρ .pe = ⟨35, 6, vp, encK 6 ePers ps⟩) (h3 : ρ .ca = ⟨79, 3, vc, encK 3 eCal []⟩) (h4 : ρ .sc = ⟨44, 3, vs, encK 3 eSch ss⟩)
    (e1 : zs.map Prod.fst = C.zones) (o1 : ∀ x ∈ zs, ZoneS TT W x.1 x.2) (e2 : ps.map Prod.fst = C.people) (o2 : ∀ x ∈ ps, PersS TT W x.1 x.2) (e3 : C.cals = []) (e4 : ss.map Prod.fst = C.scheds) (o4 : ∀ x ∈ ss, SchS TT W x.1 x.2)
    (l1 : zs.length ≤ 1000000) (l2 : ps.length ≤ 1000000) (l4 : ss.length ≤ 1000000) : CfgAt 0 W.heap.size W vz vp vc vs C :=
  cfg_of (S := TT) ⟨⟨zs, e1, hr.fin h1 (by omega) l1, o1⟩, ⟨ps, e2, hr.fin h2 (by omega) l2, o2⟩, ⟨[], by rw [e3]; rfl, hr.fin h3 (by omega) (by simp), fun x hx => by cases hx⟩⟩ ⟨ss, e4, hr.fin h4 (by omega) l4, o4⟩ (fun b _ => Nat.zero_le b)
theorem sch_of (hr : Rows W lo ρ) {i : Nat} {vy ve : SV} {es : List Rs.Edit} {s : Rs.Sch} (h1 : ρ (.la i) = ⟨40, 10, vy, encK 10 eLay ys⟩) (h2 : ρ (.ed i) = ⟨46, 5, ve, encK 5 eEdit es⟩) (e1 : ys.map Prod.fst = s.lays) (o1 : ∀ y ∈ ys, LayS TT W y.1 y.2) (e2 : es = s.edits) (o2 : ∀ x ∈ es, I64 x.to) (l1 : ys.length ≤ 1000000) (l2 : es.length ≤ 1000000) : SchS TT W s (vy, ve) := by
  subst e2
  exact ⟨⟨ys, e1, hr.fin h1 (by omega) l1, o1⟩, hr.fin h2 (by omega) l2, o2⟩
end
theorem edis_fit (k : Nat) (hk : k ≤ 100) : ∀ x ∈ Rs.edisL k, I64 x.to := fun z hz => by
  obtain ⟨j, hj, rfl⟩ := List.mem_map.1 hz
  have := List.mem_range.1 hj
  unfold I64 Rs.ediL
  simp only
  omega
theorem cpL_get {ρ : Key → Row} {m : Int} {yv ev : SV} {ys : List (Rs.Lay × SV × SV)} {i : Nat} (h : i < 12) : (cpL ρ (xsL m yv ev ys) 12)[i]? = some (Rs.schL m i, (ρ (.la i)).v, (ρ (.ed i)).v) := by
  unfold cpL
  rw [List.getElem?_mapIdx, List.getElem?_take, if_pos h, xsL_get h]
  rfl
theorem cpL_fst {ρ : Key → Row} {m : Int} {yv ev : SV} {ys : List (Rs.Lay × SV × SV)} : (cpL ρ (xsL m yv ev ys) 12).map Prod.fst = Rs.schsL m 12 := by
  refine List.ext_getElem? fun i => ?_
  rw [List.getElem?_map]
  by_cases h : i < 12
  · rw [cpL_get h]
    unfold Rs.schsL
    rw [List.getElem?_map, List.getElem?_eq_getElem (by simpa using h)]
    simp
  · rw [List.getElem?_eq_none (by rw [cpL_len (by rw [xsL_len]; exact Nat.le_refl _)]; omega), List.getElem?_eq_none (by rw [Rs.len_schs]; omega)]
    rfl
theorem Rows.blk {W : World} {lo : Nat} {ρ : Key → Row} (h : Rows W lo ρ) {κ : Key} {T : TypeId} {k g : Nat} {cs : List Value} (he : ρ κ = ⟨T, k, (some ⟨g, 0, none⟩, 1, 1), cs⟩) : BlkAt W g cs.toArray T := by
  have ho := h.own κ
  rw [he] at ho
  rcases ho.2 with ⟨h1, _⟩ | ⟨g', cap, cur, h1, h2, h3, h4, h5, h6, h7⟩
  · cases h1
  · have h8 : Value.slice (some ⟨g, 0, none⟩) 1 1 = .slice (some ⟨g', 0, none⟩) 1 cap := h1
    simp only [Value.slice.injEq, Option.some.injEq, Addr.mk.injEq, and_true, true_and] at h8
    obtain ⟨rfl, rfl⟩ := h8
    have h9 : cur.toList = cs := by
      have h7' : List.take (1 * k) cur.toList = cs := h7
      have h6' : cur.size = 1 * k := h6
      rw [List.take_of_length_le (by rw [Array.length_toList, h6']; exact Nat.le_refl _)] at h7'
      exact h7'
    have h10 : cur = cs.toArray := by rw [← h9]
    rw [h10] at h3
    exact h3
theorem cl_of {w wr : World} {m : Int} {bL : Nat} {nb : ByteArray} {zv pv cv mv yv ev : SV} (hb : Below w.heap.size w wr) (k1 : BlkAt wr w.heap.size (cfgA zv pv noSV cv) 27) (k2 : BlkAt wr bL #[.string nb, .int .i64 0, .int .i64 1, .int .i64 0, .int .i64 0, .int .i64 400, sv mv, .slice none 0 0, .int .i64 0, .int .i64 0] 40) (hf : FinL zv pv mv yv ev 32 12 6 48 m TT wr) (hs : LInS 3 eSch TT wr cv (SLs m yv ev 12)) :
    ∃ zs ps ys, CL w m bL nb zv pv cv mv yv ev zs ps ys wr := by
  obtain ⟨zs, z1, z2, z3⟩ := hf.zones
  obtain ⟨ps, p1, p2, p3⟩ := hf.people
  obtain ⟨ys, y1, y2, y3⟩ := hf.lays
  have lz : zs.length = 1 := by rw [← List.length_map (f := Prod.fst), z1]; rfl
  have lp : ps.length = 32 := by rw [← List.length_map (f := Prod.fst), p1]; simp
  have ly : ys.length = 6 := by rw [← List.length_map (f := Prod.fst), y1]; exact Rs.len_lays m 6
  exact ⟨zs, ps, ys, hb, k1, k2, z2.src (by omega) (by omega), p2.src (by omega) (by omega), hs.src (by rw [SLs_len]; omega) (by rw [SLs_len]; omega), y2.src (by omega) (by omega), hf.edits.src (by rw [Rs.len_edis]; omega) (by rw [Rs.len_edis]; omega), hf.mem.src (by rw [mem_len]; omega) (by rw [mem_len]; omega), z1, z3, p1, p3, y1, y3, hf.mem⟩
end Go.Proofs.YtphenbfhojdcpaaGreatDoor
namespace Go.Proofs.YtphenbfhojdcpaaGreatDoor
open Go.RowKit
set_option linter.unusedVariables false
set_option linter.unusedSimpArgs false
set_option maxRecDepth 100000
def xR (a b d r : SV) (bx : Nat) : Row := ⟨27, 4, (some ⟨bx, 0, none⟩, 1, 1), [sv a, sv b, sv d, sv r]⟩
section
variable {w W0 W W' W5 : World} {m : Int} {bL bo : Nat} {nb : ByteArray} {zv pv cv mv yv ev a b d r : SV} {zs : List (Rs.Zone × SV)} {ps : List (Rs.Pers × SV)} {ys : List (Rs.Lay × SV × SV)} {ρ ρ' : Key → Row} {lo : Nat}
theorem Copied.x (hC : Copied m yv ev zs ps ys a b d r bo ρ W0 W) : CX W0 (W0.heap.size + 2) (upd ρ (.ru 1) (xR a b d r W.heap.size)) (W.alloc (.cells (cfgA a b d r) 27)) := hC.cx.new (.ru 1) hC.cp.s (cfgA a b d r) 27
theorem ys_len {m : Int} (yf : ys.map Prod.fst = Rs.laysL m 6) : ys.length = 6 := by rw [← List.length_map (f := Prod.fst), yf]; exact Rs.len_lays m 6
theorem sch_all (hr : Rows W lo ρ') (cp : Cp bo zs ps [] (xsL m yv ev ys) 12 ρ) (yf : ys.map Prod.fst = Rs.laysL m 6) (yo : ∀ y ∈ ys, LayS TT W y.1 y.2) {i : Nat} (hi : i < 12) (h1 : ρ' (.la i) = ρ (.la i)) (h2 : ρ' (.ed i) = ρ (.ed i)) : SchS TT W (Rs.schL m i) ((ρ (.la i)).v, (ρ (.ed i)).v) :=
  sch_of hr (h1.trans (cp.la i _ (xsL_get hi) hi)) (h2.trans (cp.ed i _ (xsL_get hi) hi)) yf yo rfl (edis_fit 48 (by omega)) (by show ys.length ≤ 1000000; rw [ys_len yf]; omega) (by show (Rs.edisL 48).length ≤ 1000000; rw [Rs.len_edis]; omega)
theorem cp_len (hL : CL w m bL nb zv pv cv mv yv ev zs ps ys W) : zs.length = 1 ∧ ps.length = 32 ∧ ys.length = 6 := by
  refine ⟨?_, ?_, ?_⟩
  · rw [← List.length_map (f := Prod.fst), hL.zf]; rfl
  · rw [← List.length_map (f := Prod.fst), hL.pf]; simp [Rs.peoL]
  · rw [← List.length_map (f := Prod.fst), hL.yf]; exact Rs.len_lays m 6
theorem get_sch {x : Rs.Sch × SV × SV} (hx : x ∈ cpL ρ (xsL m yv ev ys) 12) : ∃ i, i < 12 ∧ x = (Rs.schL m i, (ρ (.la i)).v, (ρ (.ed i)).v) := by
  obtain ⟨i, hi⟩ := List.mem_iff_getElem?.1 hx
  have hlt := (List.getElem?_eq_some_iff.1 hi).1
  rw [cpL_len (by rw [xsL_len]; exact Nat.le_refl _)] at hlt
  rw [cpL_get hlt] at hi
  exact ⟨i, hlt, (Option.some.inj hi).symm⟩
theorem cpL12_len : (cpL ρ (xsL m yv ev ys) 12).length = 12 := cpL_len (by rw [xsL_len]; exact Nat.le_refl _)
def morP : Rs.Pers × SV := (⟨Rs.moreW, 0, [], 0, 0, false⟩, noSV)
def rowX (ps : List (Rs.Pers × SV)) (g cap : Nat) : Row := ⟨35, 6, (some ⟨g, 0, none⟩, 33, cap), encK 6 ePers (ps ++ [morP])⟩
theorem step_x (hL : CL w m bL nb zv pv cv mv yv ev zs ps ys W0) (hC : Copied m yv ev zs ps ys a b d r bo ρ W0 W) {Y : Obj} {g cap : Nat} (hO : OwnL 35 6 ePers W5 (W0.heap.size + 2) (.slice (some ⟨g, 0, none⟩) 33 cap) (ps ++ [morP]))
    (hg : ((W.alloc (.cells (cfgA a b d r) 27)).alloc Y).grownBy W5 (sv b).ownBlock) (hgo : (sv b).ownBlock = some g ∨ g = ((W.alloc (.cells (cfgA a b d r) 27)).alloc Y).heap.size) :
    CX W0 (W0.heap.size + 2) (upd (upd ρ (.ru 1) (xR a b d r W.heap.size)) .pe (rowX ps g cap)) W5 :=
  (hC.x.alloc Y).put .pe (by rw [upd_ne _ (by simp)]; exact hC.vb) hO (by rw [List.length_append, (cp_len hL).2.1]; rfl) hg (hgo.imp id (fun e => by rw [e]; exact Nat.le_refl _))
theorem fin_x (hL : CL w m bL nb zv pv cv mv yv ev zs ps ys W0) (hC : Copied m yv ev zs ps ys a b d r bo ρ W0 W) {g cap bx : Nat} (h5 : CX W0 (W0.heap.size + 2) (upd (upd ρ (.ru 1) (xR a b d r bx)) .pe (rowX ps g cap)) W5) :
    (W5.cell? ⟨bx, 1, none⟩ = some (sv b) ∧ W5.frozen? ⟨bx, 1, none⟩ = false) ∧ Below W0.heap.size W0 (W5.setCell ⟨bx, 1, none⟩ (.slice (some ⟨g, 0, none⟩) 33 cap)) ∧ DoneC bx a (some ⟨g, 0, none⟩, 33, cap) d r (Rs.cfgX m) (W5.setCell ⟨bx, 1, none⟩ (.slice (some ⟨g, 0, none⟩) 33 cap)) := by
  have he : upd (upd ρ (.ru 1) (xR a b d r bx)) .pe (rowX ps g cap) (.ru 1) = ⟨27, 4, (some ⟨bx, 0, none⟩, 1, 1), [sv a, sv b, sv d, sv r]⟩ := by rw [upd_ne _ (by simp), upd_same]; rfl
  have h6 := h5.store (.ru 1) he 1 (.slice (some ⟨g, 0, none⟩) 33 cap)
  have hL6 := hL.below h6.base
  obtain ⟨l1, l2, l3⟩ := cp_len hL
  refine ⟨h5.cell he rfl (by omega), h6.base, h6.rows.blk (upd_same _ _ _), ?_⟩
  refine rows_cfg h6.rows (zs := zs) (ps := ps ++ [morP]) (ss := cpL ρ (xsL m yv ev ys) 12) ?_ ?_ ?_ ?_ hL.zf hL6.zo ?_ ?_ rfl ?_ ?_ (by omega) (by rw [List.length_append]; simp; omega) (by rw [cpL12_len]; omega)
  · rw [upd_ne _ (by simp), upd_ne _ (by simp), upd_ne _ (by simp), ← hC.va]; exact hC.cp.zn
  · rw [upd_ne _ (by simp), upd_same]; rfl
  · rw [upd_ne _ (by simp), upd_ne _ (by simp), upd_ne _ (by simp), ← hC.vd]; exact hC.cp.ca
  · rw [upd_ne _ (by simp), upd_ne _ (by simp), upd_ne _ (by simp), ← hC.vr]; exact hC.cp.sc
  · rw [List.map_append, hL.pf]; rfl
  · intro x hx
    rcases List.mem_append.1 hx with hx | hx
    · exact hL6.po x hx
    · simp at hx; subst hx; exact LInS.nil_ _ _
  · exact cpL_fst
  · intro x hx
    obtain ⟨i, hi, rfl⟩ := get_sch hx
    exact sch_all h6.rows hC.cp hL.yf hL6.yo hi (by rw [upd_ne _ (by simp), upd_ne _ (by simp), upd_ne _ (by simp)]) (by rw [upd_ne _ (by simp), upd_ne _ (by simp), upd_ne _ (by simp)])
def morS : Rs.Sch × SV × SV := (⟨Rs.moreW, [], []⟩, noSV, noSV)
def rowY (l : List (Rs.Sch × SV × SV)) (g cap : Nat) : Row := ⟨44, 3, (some ⟨g, 0, none⟩, 13, cap), encK 3 eSch (l ++ [morS])⟩
theorem step_y (hC : Copied m yv ev zs ps ys a b d r bo ρ W0 W) {Y : Obj} {g cap : Nat} (hO : OwnL 44 3 eSch W5 (W0.heap.size + 2) (.slice (some ⟨g, 0, none⟩) 13 cap) (cpL ρ (xsL m yv ev ys) 12 ++ [morS]))
    (hg : ((W.alloc (.cells (cfgA a b d r) 27)).alloc Y).grownBy W5 (sv r).ownBlock) (hgo : (sv r).ownBlock = some g ∨ g = ((W.alloc (.cells (cfgA a b d r) 27)).alloc Y).heap.size) :
    CX W0 (W0.heap.size + 2) (upd (upd ρ (.ru 1) (xR a b d r W.heap.size)) .sc (rowY (cpL ρ (xsL m yv ev ys) 12) g cap)) W5 :=
  (hC.x.alloc Y).put .sc (by rw [upd_ne _ (by simp)]; exact hC.vr) hO (by rw [List.length_append, cpL12_len]; rfl) hg (hgo.imp id (fun e => by rw [e]; exact Nat.le_refl _))
theorem fin_y (hL : CL w m bL nb zv pv cv mv yv ev zs ps ys W0) (hC : Copied m yv ev zs ps ys a b d r bo ρ W0 W) {g cap bx : Nat} (h5 : CX W0 (W0.heap.size + 2) (upd (upd ρ (.ru 1) (xR a b d r bx)) .sc (rowY (cpL ρ (xsL m yv ev ys) 12) g cap)) W5) :
    (W5.cell? ⟨bx, 3, none⟩ = some (sv r) ∧ W5.frozen? ⟨bx, 3, none⟩ = false) ∧ Below W0.heap.size W0 (W5.setCell ⟨bx, 3, none⟩ (.slice (some ⟨g, 0, none⟩) 13 cap)) ∧ DoneC bx a b d (some ⟨g, 0, none⟩, 13, cap) (Rs.cfgY m) (W5.setCell ⟨bx, 3, none⟩ (.slice (some ⟨g, 0, none⟩) 13 cap)) := by
  have he : upd (upd ρ (.ru 1) (xR a b d r bx)) .sc (rowY (cpL ρ (xsL m yv ev ys) 12) g cap) (.ru 1) = ⟨27, 4, (some ⟨bx, 0, none⟩, 1, 1), [sv a, sv b, sv d, sv r]⟩ := by rw [upd_ne _ (by simp), upd_same]; rfl
  have h6 := h5.store (.ru 1) he 3 (.slice (some ⟨g, 0, none⟩) 13 cap)
  have hL6 := hL.below h6.base
  obtain ⟨l1, l2, l3⟩ := cp_len hL
  refine ⟨h5.cell he rfl (by omega), h6.base, h6.rows.blk (upd_same _ _ _), ?_⟩
  refine rows_cfg h6.rows (zs := zs) (ps := ps) (ss := cpL ρ (xsL m yv ev ys) 12 ++ [morS]) ?_ ?_ ?_ ?_ hL.zf hL6.zo hL.pf hL6.po rfl ?_ ?_ (by omega) (by omega) (by rw [List.length_append, cpL12_len]; simp)
  · rw [upd_ne _ (by simp), upd_ne _ (by simp), upd_ne _ (by simp), ← hC.va]; exact hC.cp.zn
  · rw [upd_ne _ (by simp), upd_ne _ (by simp), upd_ne _ (by simp), ← hC.vb]; exact hC.cp.pe
  · rw [upd_ne _ (by simp), upd_ne _ (by simp), upd_ne _ (by simp), ← hC.vd]; exact hC.cp.ca
  · rw [upd_ne _ (by simp), upd_same]; rfl
  · rw [List.map_append, cpL_fst]; rfl
  · intro x hx
    rcases List.mem_append.1 hx with hx | hx
    · obtain ⟨i, hi, rfl⟩ := get_sch hx
      exact sch_all h6.rows hC.cp hL.yf hL6.yo hi (by rw [upd_ne _ (by simp), upd_ne _ (by simp), upd_ne _ (by simp)]) (by rw [upd_ne _ (by simp), upd_ne _ (by simp), upd_ne _ (by simp)])
    · simp at hx; subst hx; exact ⟨NestS.nil_ _ _, LInS.nil_ _ _, fun x hx => by cases hx⟩
end
end Go.Proofs.YtphenbfhojdcpaaGreatDoor
namespace Go.Proofs.YtphenbfhojdcpaaGreatDoor
open Go.RowKit
set_option linter.unusedVariables false
set_option linter.unusedSimpArgs false
set_option maxRecDepth 100000
theorem lset_self {α : Type} {l : List α} {n : Nat} {x : α} (h : l[n]? = some x) : l.set n x = l := by
  refine List.ext_getElem? fun i => ?_
  rw [List.getElem?_set]
  split
  · subst n
    have := (List.getElem?_eq_some_iff.1 h).1
    rw [if_pos this, h]
  · rfl
section
variable {w W0 W W' W5 W6 : World} {m : Int} {bL bo : Nat} {nb : ByteArray} {zv pv cv mv yv ev a b d r : SV} {zs : List (Rs.Zone × SV)} {ps : List (Rs.Pers × SV)} {ys : List (Rs.Lay × SV × SV)} {ρ ρ' : Key → Row} {lo : Nat}
theorem cx_x {bx : Nat} (h : CX W0 lo ρ' W) (he : ρ' (.ru 1) = xR a b d r bx) : W.cell? ⟨bx, 0, none⟩ = some (sv a) ∧ W.cell? ⟨bx, 1, none⟩ = some (sv b) ∧ W.cell? ⟨bx, 2, none⟩ = some (sv d) ∧ W.cell? ⟨bx, 3, none⟩ = some (sv r) :=
  ⟨(h.cell he rfl (by omega)).1, (h.cell he rfl (by omega)).1, (h.cell he rfl (by omega)).1, (h.cell he rfl (by omega)).1⟩
theorem cx_sc {gs rc : Nat} {l : List (Rs.Sch × SV × SV)} (h : CX W0 lo ρ' W) (hs : ρ' .sc = ⟨44, 3, (some ⟨gs, 0, none⟩, 12, rc), encK 3 eSch l⟩) {i : Nat} (hi : i < 12) {x : Rs.Sch × SV × SV} (hx : l[i]? = some x) {j : Nat} (hj : j < 3) :
    W.cell? ⟨gs, i * 3 + j, none⟩ = some (eSch x j) ∧ W.frozen? ⟨gs, i * 3 + j, none⟩ = false := h.cell hs (encK_get (e := eSch) l i j x hx hj) (by omega)
theorem cx_la {i gy cy n : Nat} {l : List (Rs.Lay × SV × SV)} (h : CX W0 lo ρ' W) (hs : ρ' (.la i) = ⟨40, 10, (some ⟨gy, 0, none⟩, n, cy), encK 10 eLay l⟩) {q : Nat} (hq : q < n) {x : Rs.Lay × SV × SV} (hx : l[q]? = some x) {j : Nat} (hj : j < 10) :
    W.cell? ⟨gy, q * 10 + j, none⟩ = some (eLay x j) ∧ W.frozen? ⟨gy, q * 10 + j, none⟩ = false := h.cell hs (encK_get (e := eLay) l q j x hx hj) (by omega)
theorem own_form {α : Type} {k : Nat} {e : α → Nat → Value} {T : TypeId} {κ : Key} {xs : List α} {v : SV} (h : Rows W lo ρ) (he : ρ κ = ⟨T, k, v, encK k e xs⟩) (hk : 0 < k) (hx : 0 < xs.length) : ∃ g c, v = (some ⟨g, 0, none⟩, xs.length, c) := by
  obtain ⟨h1, h2⟩ := h.list he hk
  obtain ⟨g, c, e1, -, -⟩ := World.ownsRow.form h1 hx
  obtain ⟨A, n, c'⟩ := v
  have e2 : Value.slice A n c' = .slice (some ⟨g, 0, none⟩) xs.length c := e1
  simp only [Value.slice.injEq] at e2
  exact ⟨g, c, by rw [e2.1, e2.2.1, e2.2.2]⟩
/-- The copy's schedules, and the layers and edits of each, lie in rows that are not empty. -/
theorem Copied.forms (hL : CL w m bL nb zv pv cv mv yv ev zs ps ys W0) (hC : Copied m yv ev zs ps ys a b d r bo ρ W0 W) : (∃ g c, r = (some ⟨g, 0, none⟩, 12, c)) ∧ ∀ i, i < 12 → (∃ g c, (ρ (.la i)).v = (some ⟨g, 0, none⟩, 6, c)) ∧ ∃ g c, (ρ (.ed i)).v = (some ⟨g, 0, none⟩, 48, c) := by
  refine ⟨?_, fun i hi => ⟨?_, ?_⟩⟩
  · have := own_form hC.cx.rows hC.cp.sc (by omega) (by rw [cpL12_len]; omega)
    rw [cpL12_len, hC.vr] at this
    exact this
  · have := own_form hC.cx.rows (hC.cp.la i _ (xsL_get hi) hi) (by omega) (by show 0 < ys.length; rw [ys_len hL.yf]; omega)
    rw [show (SCp.ys ⟨(Rs.schL m i, yv, ev), ys, Rs.edisL 48⟩).length = 6 from ys_len hL.yf] at this
    exact this
  · have := own_form hC.cx.rows (hC.cp.ed i _ (xsL_get hi) hi) (by omega) (by show 0 < (Rs.edisL 48).length; rw [Rs.len_edis]; omega)
    rw [show (SCp.es ⟨(Rs.schL m i, yv, ev), ys, Rs.edisL 48⟩).length = 48 from Rs.len_edis 48] at this
    exact this
theorem get_set {x n : Rs.Sch × SV × SV} {j : Nat} (hj : j < 12) (hx : x ∈ (cpL ρ (xsL m yv ev ys) 12).set j n) : x = n ∨ ∃ i, i < 12 ∧ i ≠ j ∧ x = (Rs.schL m i, (ρ (.la i)).v, (ρ (.ed i)).v) := by
  obtain ⟨i, hi⟩ := List.mem_iff_getElem?.1 hx
  rw [List.getElem?_set] at hi
  split at hi
  · rw [if_pos (by rw [cpL12_len]; exact hj)] at hi
    exact .inl (Option.some.inj hi).symm
  · rename_i hne
    have hlt := (List.getElem?_eq_some_iff.1 hi).1
    rw [cpL12_len] at hlt
    rw [cpL_get hlt] at hi
    exact .inr ⟨i, hlt, fun e => hne e.symm, (Option.some.inj hi).symm⟩
/-- A copy with one schedule changed is finished. -/
theorem fin_s (hL : CL w m bL nb zv pv cv mv yv ev zs ps ys W0) (hC : Copied m yv ev zs ps ys a b d r bo ρ W0 W) {bx j : Nat} (hj : j < 12) {s : Rs.Sch} {vy ve : SV} (h6 : CX W0 lo ρ' W6) (g1 : ρ' .zn = ρ .zn) (g2 : ρ' .pe = ρ .pe) (g3 : ρ' .ca = ρ .ca) (g4 : ρ' .sc = ⟨44, 3, r, encK 3 eSch ((cpL ρ (xsL m yv ev ys) 12).set j (s, vy, ve))⟩)
    (g5 : ρ' (.ru 1) = xR a b d r bx) (g6 : ∀ i, i ≠ j → ρ' (.la i) = ρ (.la i) ∧ ρ' (.ed i) = ρ (.ed i)) (hs : SchS TT W6 s (vy, ve)) : DoneC bx a b d r (Rs.cfgT m j s) W6 := by
  have hL6 := hL.below h6.base
  obtain ⟨l1, l2, l3⟩ := cp_len hL
  refine ⟨h6.rows.blk g5, ?_⟩
  refine rows_cfg h6.rows (zs := zs) (ps := ps) (ss := (cpL ρ (xsL m yv ev ys) 12).set j (s, vy, ve)) ?_ ?_ ?_ g4 hL.zf hL6.zo hL.pf hL6.po rfl ?_ ?_ (by omega) (by omega) (by rw [List.length_set, cpL12_len]; omega)
  · rw [g1, ← hC.va]; exact hC.cp.zn
  · rw [g2, ← hC.vb]; exact hC.cp.pe
  · rw [g3, ← hC.vd]; exact hC.cp.ca
  · rw [List.map_set, cpL_fst]; rfl
  · intro x hx
    rcases get_set hj hx with rfl | ⟨i, hi, hne, rfl⟩
    · exact hs
    · exact sch_all h6.rows hC.cp hL.yf hL6.yo hi (g6 i hne).1 (g6 i hne).2
/-- A schedule's cell is stored. -/
theorem sc_set {j q : Nat} (hj : j < 12) {s : Rs.Sch} {vy ve : SV} {u : Value} (hq : q < 3) (hu : eSch (s, vy, ve) q = u) (ho : ∀ q', q' < 3 → q' ≠ q → eSch (s, vy, ve) q' = eSch (Rs.schL m j, (ρ (.la j)).v, (ρ (.ed j)).v) q') : (encK 3 eSch (cpL ρ (xsL m yv ev ys) 12)).set (j * 3 + q) u = encK 3 eSch ((cpL ρ (xsL m yv ev ys) 12).set j (s, vy, ve)) :=
  (encK_set1 (cpL_get hj) hq hu ho).symm
theorem scs_same {j : Nat} (hj : j < 12) {s : Rs.Sch} (hn : s.name = Rs.nmL j) : encK 3 eSch (cpL ρ (xsL m yv ev ys) 12) = encK 3 eSch ((cpL ρ (xsL m yv ev ys) 12).set j (s, (ρ (.la j)).v, (ρ (.ed j)).v)) := by
  have h0 : eSch (s, (ρ (.la j)).v, (ρ (.ed j)).v) 0 = eSch (Rs.schL m j, (ρ (.la j)).v, (ρ (.ed j)).v) 0 := by
    show Value.string ⟨s.name.toArray⟩ = .string ⟨(Rs.nmL j).toArray⟩
    rw [hn]
  rw [← sc_set hj (q := 0) (by omega) h0 (fun q' h1 h2 => by
    rcases q' with _ | _ | _ | _
    · exact absurd rfl h2
    · rfl
    · rfl
    · omega)]
  exact (lset_self (encK_get (e := eSch) _ j 0 _ (cpL_get hj) (by omega))).symm
def morE : Rs.Edit := ⟨0, 0, 0, 0, 1⟩
def rowZ (g cap : Nat) : Row := ⟨46, 5, (some ⟨g, 0, none⟩, 49, cap), encK 5 eEdit (Rs.edisL 48 ++ [morE])⟩
theorem fin_z (hL : CL w m bL nb zv pv cv mv yv ev zs ps ys W0) {gs rc : Nat} (hC : Copied m yv ev zs ps ys a b d (some ⟨gs, 0, none⟩, 12, rc) bo ρ W0 W) {g cap bx : Nat} (h5 : CX W0 (W0.heap.size + 2) (upd (upd ρ (.ru 1) (xR a b d (some ⟨gs, 0, none⟩, 12, rc) bx)) (.ed 0) (rowZ g cap)) W5) :
    (W5.cell? ⟨gs, 2, none⟩ = some (sv (ρ (.ed 0)).v) ∧ W5.frozen? ⟨gs, 2, none⟩ = false) ∧ Below W0.heap.size W0 (W5.setCell ⟨gs, 2, none⟩ (.slice (some ⟨g, 0, none⟩) 49 cap)) ∧ DoneC bx a b d (some ⟨gs, 0, none⟩, 12, rc) (Rs.cfgT m 0 (Rs.schZ m)) (W5.setCell ⟨gs, 2, none⟩ (.slice (some ⟨g, 0, none⟩) 49 cap)) := by
  have hsc := hC.cp.sc
  rw [hC.vr] at hsc
  have he : upd (upd ρ (.ru 1) (xR a b d (some ⟨gs, 0, none⟩, 12, rc) bx)) (.ed 0) (rowZ g cap) .sc = ⟨44, 3, (some ⟨gs, 0, none⟩, 12, rc), encK 3 eSch (cpL ρ (xsL m yv ev ys) 12)⟩ := by rw [upd_ne _ (by simp), upd_ne _ (by simp)]; exact hsc
  have h6 := h5.store .sc he 2 (.slice (some ⟨g, 0, none⟩) 49 cap)
  have hL6 := hL.below h6.base
  refine ⟨cx_sc h5 he (i := 0) (by omega) (cpL_get (by omega)) (j := 2) (by omega), h6.base, fin_s hL hC (j := 0) (by omega) (s := Rs.schZ m) (vy := (ρ (.la 0)).v) (ve := (some ⟨g, 0, none⟩, 49, cap)) h6 ?_ ?_ ?_ ?_ ?_ ?_ ?_⟩
  · rw [upd_ne _ (by simp), upd_ne _ (by simp), upd_ne _ (by simp)]
  · rw [upd_ne _ (by simp), upd_ne _ (by simp), upd_ne _ (by simp)]
  · rw [upd_ne _ (by simp), upd_ne _ (by simp), upd_ne _ (by simp)]
  · rw [upd_same]
    refine congrArg _ ?_
    exact sc_set (j := 0) (q := 2) (by omega) (by omega) rfl (fun q' h1 h2 => by
      rcases q' with _ | _ | _ | _
      · rfl
      · rfl
      · exact absurd rfl h2
      · omega)
  · rw [upd_ne _ (by simp), upd_ne _ (by simp), upd_same]
  · intro i hi
    exact ⟨by rw [upd_ne _ (by simp), upd_ne _ (by simp), upd_ne _ (by simp)], by rw [upd_ne _ (by simp), upd_ne _ (by simp [hi]), upd_ne _ (by simp)]⟩
  · exact sch_of h6.rows (i := 0) (ys := ys) (es := Rs.edisL 48 ++ [morE]) (by rw [upd_ne _ (by simp), upd_ne _ (by simp), upd_ne _ (by simp)]; exact hC.cp.la 0 _ (xsL_get (by omega)) (by omega)) (by rw [upd_ne _ (by simp), upd_same]; rfl) hL.yf hL6.yo rfl (fun x hx => by
      rcases List.mem_append.1 hx with hx | hx
      · exact edis_fit 48 (by omega) x hx
      · simp at hx; subst hx; unfold I64 morE; simp) (by rw [ys_len hL.yf]; omega) (by rw [List.length_append, Rs.len_edis]; simp)
def rowU (ys : List (Rs.Lay × SV × SV)) (m : Int) (nl : Rs.Nm) (mv : SV) (g cap : Nat) : Row := ⟨40, 10, (some ⟨g, 0, none⟩, 7, cap), encK 10 eLay (ys ++ [(Rs.layU m nl, mv, noSV)])⟩
theorem fin_u (hL : CL w m bL nb zv pv cv mv yv ev zs ps ys W0) {gs rc : Nat} (hC : Copied m yv ev zs ps ys a b d (some ⟨gs, 0, none⟩, 12, rc) bo ρ W0 W) {nl : Rs.Nm} {g cap bx : Nat} (h5 : CX W0 (W0.heap.size + 2) (upd (upd ρ (.ru 1) (xR a b d (some ⟨gs, 0, none⟩, 12, rc) bx)) (.la 0) (rowU ys m nl mv g cap)) W5) :
    (W5.cell? ⟨gs, 1, none⟩ = some (sv (ρ (.la 0)).v) ∧ W5.frozen? ⟨gs, 1, none⟩ = false) ∧ Below W0.heap.size W0 (W5.setCell ⟨gs, 1, none⟩ (.slice (some ⟨g, 0, none⟩) 7 cap)) ∧ DoneC bx a b d (some ⟨gs, 0, none⟩, 12, rc) (Rs.cfgT m 0 (Rs.schU m nl)) (W5.setCell ⟨gs, 1, none⟩ (.slice (some ⟨g, 0, none⟩) 7 cap)) := by
  have hsc := hC.cp.sc
  rw [hC.vr] at hsc
  have he : upd (upd ρ (.ru 1) (xR a b d (some ⟨gs, 0, none⟩, 12, rc) bx)) (.la 0) (rowU ys m nl mv g cap) .sc = ⟨44, 3, (some ⟨gs, 0, none⟩, 12, rc), encK 3 eSch (cpL ρ (xsL m yv ev ys) 12)⟩ := by rw [upd_ne _ (by simp), upd_ne _ (by simp)]; exact hsc
  have h6 := h5.store .sc he 1 (.slice (some ⟨g, 0, none⟩) 7 cap)
  have hL6 := hL.below h6.base
  refine ⟨cx_sc h5 he (i := 0) (by omega) (cpL_get (by omega)) (j := 1) (by omega), h6.base, fin_s hL hC (j := 0) (by omega) (s := Rs.schU m nl) (vy := (some ⟨g, 0, none⟩, 7, cap)) (ve := (ρ (.ed 0)).v) h6 ?_ ?_ ?_ ?_ ?_ ?_ ?_⟩
  · rw [upd_ne _ (by simp), upd_ne _ (by simp), upd_ne _ (by simp)]
  · rw [upd_ne _ (by simp), upd_ne _ (by simp), upd_ne _ (by simp)]
  · rw [upd_ne _ (by simp), upd_ne _ (by simp), upd_ne _ (by simp)]
  · rw [upd_same]
    refine congrArg _ ?_
    exact sc_set (j := 0) (q := 1) (by omega) (by omega) rfl (fun q' h1 h2 => by
      rcases q' with _ | _ | _ | _
      · rfl
      · exact absurd rfl h2
      · rfl
      · omega)
  · rw [upd_ne _ (by simp), upd_ne _ (by simp), upd_same]
  · intro i hi
    exact ⟨by rw [upd_ne _ (by simp), upd_ne _ (by simp [hi]), upd_ne _ (by simp)], by rw [upd_ne _ (by simp), upd_ne _ (by simp), upd_ne _ (by simp)]⟩
  · exact sch_of h6.rows (i := 0) (ys := ys ++ [(Rs.layU m nl, mv, noSV)]) (es := Rs.edisL 48) (by rw [upd_ne _ (by simp), upd_same]; rfl) (by rw [upd_ne _ (by simp), upd_ne _ (by simp), upd_ne _ (by simp)]; exact hC.cp.ed 0 _ (xsL_get (by omega)) (by omega)) (by rw [List.map_append, hL.yf]; rfl) (fun y hy => by
      rcases List.mem_append.1 hy with hy | hy
      · exact hL6.yo y hy
      · simp at hy; subst hy; exact ⟨hL6.mo, LInS.nil_ _ _, by unfold I64; simp [Rs.layU, Rs.layL]⟩) rfl (edis_fit 48 (by omega)) (by rw [List.length_append, ys_len hL.yf]; simp) (by rw [Rs.len_edis]; omega)
theorem ys_get (yf : ys.map Prod.fst = Rs.laysL m 6) {i : Nat} (hi : i < 6) : ∃ mv wv, ys[i]? = some (Rs.layL m i, mv, wv) := by
  obtain ⟨⟨l, mv, wv⟩, hx⟩ := get_ex (xs := ys) (i := i) (by rw [ys_len yf]; exact hi)
  have h1 : (ys.map Prod.fst)[i]? = some l := by rw [List.getElem?_map, hx]; rfl
  rw [yf] at h1
  have h2 : ((List.range 6).map (Rs.layL m))[i]? = some l := h1
  obtain ⟨-, rfl⟩ := Rs.range_get h2
  exact ⟨mv, wv, hx⟩
theorem fin_l (hL : CL w m bL nb zv pv cv mv yv ev zs ps ys W0) {gs rc gy cy : Nat} (hC : Copied m yv ev zs ps ys a b d (some ⟨gs, 0, none⟩, 12, rc) bo ρ W0 W) (hy : (ρ (.la 1)).v = (some ⟨gy, 0, none⟩, 6, cy)) {bx : Nat} (h5 : CX W0 (W0.heap.size + 2) (upd ρ (.ru 1) (xR a b d (some ⟨gs, 0, none⟩, 12, rc) bx)) W5)
    {l : Rs.Lay} {m2 w2 nm : SV} (hg : ys[2]? = some (Rs.layL m 2, m2, w2)) {q : Nat} (hq : q < 10) {u : Value} (hu : eLay (l, nm, w2) q = u) (ho : ∀ q', q' < 10 → q' ≠ q → eLay (l, nm, w2) q' = eLay (Rs.layL m 2, m2, w2) q') (hl : LayS TT (W5.setCell ⟨gy, 20 + q, none⟩ u) l (nm, w2)) :
    (W5.cell? ⟨gy, 20 + q, none⟩ = some (eLay (Rs.layL m 2, m2, w2) q) ∧ W5.frozen? ⟨gy, 20 + q, none⟩ = false) ∧ Below W0.heap.size W0 (W5.setCell ⟨gy, 20 + q, none⟩ u) ∧ DoneC bx a b d (some ⟨gs, 0, none⟩, 12, rc) (Rs.cfgT m 1 { Rs.schL m 1 with lays := (Rs.laysL m 6).set 2 l }) (W5.setCell ⟨gy, 20 + q, none⟩ u) := by
  have hsc := hC.cp.sc
  rw [hC.vr] at hsc
  have hla := hC.cp.la 1 _ (xsL_get (by omega)) (by omega)
  rw [hy] at hla
  have he : upd ρ (.ru 1) (xR a b d (some ⟨gs, 0, none⟩, 12, rc) bx) (.la 1) = ⟨40, 10, (some ⟨gy, 0, none⟩, 6, cy), encK 10 eLay ys⟩ := by rw [upd_ne _ (by simp)]; exact hla
  have h6 := h5.store (.la 1) he (20 + q) u
  have hL6 := hL.below h6.base
  refine ⟨cx_la h5 he (q := 2) (by omega) hg hq, h6.base, fin_s hL hC (j := 1) (by omega) (s := { Rs.schL m 1 with lays := (Rs.laysL m 6).set 2 l }) (vy := (ρ (.la 1)).v) (ve := (ρ (.ed 1)).v) h6 ?_ ?_ ?_ ?_ ?_ ?_ ?_⟩
  · rw [upd_ne _ (by simp), upd_ne _ (by simp)]
  · rw [upd_ne _ (by simp), upd_ne _ (by simp)]
  · rw [upd_ne _ (by simp), upd_ne _ (by simp)]
  · rw [upd_ne _ (by simp), upd_ne _ (by simp), hsc]
    refine congrArg _ ?_
    exact scs_same (by omega) rfl
  · rw [upd_ne _ (by simp), upd_same]
  · intro i hi
    exact ⟨by rw [upd_ne _ (by simp [hi]), upd_ne _ (by simp)], by rw [upd_ne _ (by simp), upd_ne _ (by simp)]⟩
  · rw [hy]
    have hset : (encK 10 eLay ys).set (20 + q) u = encK 10 eLay (ys.set 2 (l, nm, w2)) := (encK_set1 (i := 2) hg hq hu ho).symm
    exact sch_of h6.rows (i := 1) (ys := ys.set 2 (l, nm, w2)) (es := Rs.edisL 48) (by rw [upd_same, hset]) (by rw [upd_ne _ (by simp), upd_ne _ (by simp)]; exact hC.cp.ed 1 _ (xsL_get (by omega)) (by omega)) (by rw [List.map_set, hL.yf]) (fun y hy => by
      rcases List.mem_or_eq_of_mem_set hy with hy | rfl
      · exact hL6.yo y hy
      · exact hl) rfl (edis_fit 48 (by omega)) (by rw [List.length_set, ys_len hL.yf]; omega) (by rw [Rs.len_edis]; omega)
theorem own_x (hC : Copied m yv ev zs ps ys a b d r bo ρ W0 W) : OwnL 35 6 ePers (W.alloc (.cells (cfgA a b d r) 27)) (W0.heap.size + 2) (sv b) ps := by
  have h := hC.cp.pe
  rw [hC.vb] at h
  exact (hC.x.rows.list (κ := .pe) (by rw [upd_ne _ (by simp)]; exact h) (by omega)).1
theorem own_y (hC : Copied m yv ev zs ps ys a b d r bo ρ W0 W) : OwnL 44 3 eSch (W.alloc (.cells (cfgA a b d r) 27)) (W0.heap.size + 2) (sv r) (cpL ρ (xsL m yv ev ys) 12) := by
  have h := hC.cp.sc
  rw [hC.vr] at h
  exact (hC.x.rows.list (κ := .sc) (by rw [upd_ne _ (by simp)]; exact h) (by omega)).1
theorem own_z {bx : Nat} (hC : Copied m yv ev zs ps ys a b d r bo ρ W0 W) (h : CX W0 lo (upd ρ (.ru 1) (xR a b d r bx)) W') : OwnL 46 5 eEdit W' lo (sv (ρ (.ed 0)).v) (Rs.edisL 48) :=
  (h.rows.list (κ := .ed 0) (by rw [upd_ne _ (by simp)]; exact hC.cp.ed 0 _ (xsL_get (by omega)) (by omega)) (by omega)).1
theorem own_u {bx : Nat} (hC : Copied m yv ev zs ps ys a b d r bo ρ W0 W) (h : CX W0 lo (upd ρ (.ru 1) (xR a b d r bx)) W') : OwnL 40 10 eLay W' lo (sv (ρ (.la 0)).v) ys :=
  (h.rows.list (κ := .la 0) (by rw [upd_ne _ (by simp)]; exact hC.cp.la 0 _ (xsL_get (by omega)) (by omega)) (by omega)).1
theorem x_sc {bx gs rc : Nat} (hC : Copied m yv ev zs ps ys a b d (some ⟨gs, 0, none⟩, 12, rc) bo ρ W0 W) (h : CX W0 lo (upd ρ (.ru 1) (xR a b d (some ⟨gs, 0, none⟩, 12, rc) bx)) W') {i : Nat} (hi : i < 12) : W'.cell? ⟨gs, i * 3 + 1, none⟩ = some (sv (ρ (.la i)).v) ∧ W'.cell? ⟨gs, i * 3 + 2, none⟩ = some (sv (ρ (.ed i)).v) := by
  have hsc := hC.cp.sc
  rw [hC.vr] at hsc
  exact ⟨(cx_sc h (by rw [upd_ne _ (by simp)]; exact hsc) hi (cpL_get hi) (j := 1) (by omega)).1, (cx_sc h (by rw [upd_ne _ (by simp)]; exact hsc) hi (cpL_get hi) (j := 2) (by omega)).1⟩
theorem mor_pe : ∀ j, j < 6 → (#[.string ⟨#[109, 111, 114, 101]⟩, .int .i64 0, .slice none 0 0, .int .i64 0, .int .i64 0, .bool false] : Array Value)[j]? = some (ePers morP j) := fun j hj => by
  rcases j with _ | _ | _ | _ | _ | _ | _ <;> first | rfl | omega
theorem mor_sc : ∀ j, j < 3 → (#[.string ⟨#[109, 111, 114, 101]⟩, .slice none 0 0, .slice none 0 0] : Array Value)[j]? = some (eSch morS j) := fun j hj => by
  rcases j with _ | _ | _ | _ <;> first | rfl | omega
theorem mor_ed : ∀ j, j < 5 → (#[Value.int .i64 0, .int .i64 0, .int .i64 0, .int .i64 0, .int .i64 1] : Array Value)[j]? = some (eEdit morE j) := fun j hj => by
  rcases j with _ | _ | _ | _ | _ | _ <;> first | rfl | omega
theorem z_cell {bx gs rc i : Nat} {v u : SV} (hC : Copied m yv ev zs ps ys a b d (some ⟨gs, 0, none⟩, 12, rc) bo ρ W0 W) (hi : i < 12) (hv : (ρ (.la i)).v = v) (hu : (ρ (.ed i)).v = u) (h : CX W0 lo (upd ρ (.ru 1) (xR a b d (some ⟨gs, 0, none⟩, 12, rc) bx)) W') : W'.cell? ⟨gs, i * 3 + 1, none⟩ = some (sv v) ∧ W'.cell? ⟨gs, i * 3 + 2, none⟩ = some (sv u) := by
  subst hv hu
  exact x_sc hC h hi
theorem mor_la (m : Int) (nb : ByteArray) (m1 : Option Addr) (m3 : Nat) : ∀ j, j < 10 → (#[.string nb, .int .i64 0, .int .i64 1, .int .i64 0, .int .i64 0, .int .i64 400, .slice m1 12 m3, .slice none 0 0, .int .i64 0, .int .i64 0] : Array Value)[j]? = some (eLay (Rs.layU m nb.data.toList, ((m1, 12, m3), noSV)) j) := fun j hj => by
  rcases j with _ | _ | _ | _ | _ | _ | _ | _ | _ | _ | _ <;> first | rfl | omega
/-- Blocks behind all rows are written. -/
theorem CX.far {B : Nat} (h : CX W0 lo ρ W) (hlt : ∀ κ g, (sv (ρ κ).v).ownBlock = some g → g < B) (hlo : lo ≤ B) {row : Option Nat} (hg : W.grownBy W' row) (hr : ∀ g, row = some g → B ≤ g) : CX W0 lo ρ W' :=
  h.go hg (fun g e => Nat.le_trans hlo (hr g e)) ⟨fun κ => Row.kept (h.rows.own κ) hg (fun g h1 h2 => by have := hlt κ g h1; have := hr g h2; omega), h.rows.sep⟩
theorem CX.lt (h : CX W0 lo ρ W) : ∀ κ g, (sv (ρ κ).v).ownBlock = some g → g < W.heap.size := fun κ g hg => (Row.lt (h.rows.own κ) hg).2
theorem mem13_len : (Rs.memL m 12 ++ [(0 : Int)]).length = 13 := by rw [List.length_append, mem_len]; rfl
theorem fin_v (hL : CL w m bL nb zv pv cv mv yv ev zs ps ys W0) {gs rc gy cy B : Nat} (hC : Copied m yv ev zs ps ys a b d (some ⟨gs, 0, none⟩, 12, rc) bo ρ W0 W) (hy : (ρ (.la 1)).v = (some ⟨gy, 0, none⟩, 6, cy)) {bx : Nat} (h5 : CX W0 (W0.heap.size + 2) (upd ρ (.ru 1) (xR a b d (some ⟨gs, 0, none⟩, 12, rc) bx)) W5)
    {g cap : Nat} (hO : OwnL 3 1 eInt W5 B (.slice (some ⟨g, 0, none⟩) 13 cap) (Rs.memL m 12 ++ [0])) (hB : gy < B) : (W5.frozen? ⟨gy, 26, none⟩ = false ∧ ∃ v, W5.cell? ⟨gy, 26, none⟩ = some (sv v)) ∧ Below W0.heap.size W0 (W5.setCell ⟨gy, 26, none⟩ (.slice (some ⟨g, 0, none⟩) 13 cap)) ∧ DoneC bx a b d (some ⟨gs, 0, none⟩, 12, rc) (Rs.cfgT m 1 (Rs.schV m)) (W5.setCell ⟨gy, 26, none⟩ (.slice (some ⟨g, 0, none⟩) 13 cap)) := by
  obtain ⟨m2, w2, hg⟩ := ys_get hL.yf (i := 2) (by omega)
  have hla := hC.cp.la 1 _ (xsL_get (by omega)) (by omega)
  rw [hy] at hla
  have he : upd ρ (.ru 1) (xR a b d (some ⟨gs, 0, none⟩, 12, rc) bx) (.la 1) = ⟨40, 10, (some ⟨gy, 0, none⟩, 6, cy), encK 10 eLay ys⟩ := by rw [upd_ne _ (by simp)]; exact hla
  have hb6 := (h5.store (.la 1) he 26 (.slice (some ⟨g, 0, none⟩) 13 cap)).base
  have h := fin_l hL hC hy h5 (l := Rs.layV13 m) (nm := (some ⟨g, 0, none⟩, 13, cap)) hg (q := 6) (by omega) rfl (fun q' h1 h2 => by
    rcases q' with _ | _ | _ | _ | _ | _ | _ | _ | _ | _ | _ <;> first | rfl | exact absurd rfl h2 | omega) ⟨((hO.grown (grown_set W5 gy 26 _) hB).lins (v := (some ⟨g, 0, none⟩, 13, cap)) (fun _ _ _ => trivial) (by rw [mem13_len]; omega)).1, ((hL.below hb6).yo _ (List.mem_of_getElem? hg)).2.1, by unfold I64; simp [Rs.layV13, Rs.layL]⟩
  exact ⟨⟨h.1.2, m2, h.1.1⟩, h.2⟩
theorem fin_w (hL : CL w m bL nb zv pv cv mv yv ev zs ps ys W0) {gs rc gy cy : Nat} (hC : Copied m yv ev zs ps ys a b d (some ⟨gs, 0, none⟩, 12, rc) bo ρ W0 W) (hy : (ρ (.la 1)).v = (some ⟨gy, 0, none⟩, 6, cy)) {bx : Nat} (h5 : CX W0 (W0.heap.size + 2) (upd ρ (.ru 1) (xR a b d (some ⟨gs, 0, none⟩, 12, rc) bx)) W5) : Below W0.heap.size W0 (W5.setCell ⟨gy, 25, none⟩ (.int .i64 401)) ∧ DoneC bx a b d (some ⟨gs, 0, none⟩, 12, rc) (Rs.cfgT m 1 (Rs.schW m)) (W5.setCell ⟨gy, 25, none⟩ (.int .i64 401)) := by
  obtain ⟨m2, w2, hg⟩ := ys_get hL.yf (i := 2) (by omega)
  have hla := hC.cp.la 1 _ (xsL_get (by omega)) (by omega)
  rw [hy] at hla
  have he : upd ρ (.ru 1) (xR a b d (some ⟨gs, 0, none⟩, 12, rc) bx) (.la 1) = ⟨40, 10, (some ⟨gy, 0, none⟩, 6, cy), encK 10 eLay ys⟩ := by rw [upd_ne _ (by simp)]; exact hla
  have hb6 := (h5.store (.la 1) he 25 (.int .i64 401)).base
  have hyo := (hL.below hb6).yo _ (List.mem_of_getElem? hg)
  exact (fin_l hL hC hy h5 (l := Rs.layW401 m) (nm := m2) hg (q := 5) (by omega) rfl (fun q' h1 h2 => by
    rcases q' with _ | _ | _ | _ | _ | _ | _ | _ | _ | _ | _ <;> first | rfl | exact absurd rfl h2 | omega) ⟨hyo.1, hyo.2.1, by unfold I64; simp [Rs.layW401, Rs.layL]⟩).2
/-- What is read of the second schedule's third layer. -/
theorem w_cell (hL : CL w m bL nb zv pv cv mv yv ev zs ps ys W0) {gy cy : Nat} (hC : Copied m yv ev zs ps ys a b d r bo ρ W0 W) (hy : (ρ (.la 1)).v = (some ⟨gy, 0, none⟩, 6, cy)) : W.cell? ⟨gy, 25, none⟩ = some (.int .i64 400) ∧ W.frozen? ⟨gy, 25, none⟩ = false := by
  obtain ⟨m2, w2, hg⟩ := ys_get hL.yf (i := 2) (by omega)
  have hla := hC.cp.la 1 _ (xsL_get (by omega)) (by omega)
  rw [hy] at hla
  exact cx_la hC.cx hla (q := 2) (by omega) hg (j := 5) (by omega)
theorem w_sc {gs rc : Nat} {v : SV} (hC : Copied m yv ev zs ps ys a b d (some ⟨gs, 0, none⟩, 12, rc) bo ρ W0 W) (hy : (ρ (.la 1)).v = v) : W.cell? ⟨gs, 4, none⟩ = some (sv v) := by
  subst hy
  have hsc := hC.cp.sc
  rw [hC.vr] at hsc
  exact (cx_sc hC.cx hsc (i := 1) (by omega) (cpL_get (by omega)) (j := 1) (by omega)).1
theorem step_z {gs rc ge ce bx : Nat} (hC : Copied m yv ev zs ps ys a b d (some ⟨gs, 0, none⟩, 12, rc) bo ρ W0 W) (hv : (ρ (.ed 0)).v = (some ⟨ge, 0, none⟩, 48, ce)) (h : CX W0 (W0.heap.size + 2) (upd ρ (.ru 1) (xR a b d (some ⟨gs, 0, none⟩, 12, rc) bx)) W') {g cap : Nat} (hO : OwnL 46 5 eEdit W5 (W0.heap.size + 2) (.slice (some ⟨g, 0, none⟩) (48 + 1) cap) (Rs.edisL 48 ++ [morE]))
    (hg : W'.grownBy W5 (Value.slice (some ⟨ge, 0, none⟩) 48 ce).ownBlock) (hgo : (Value.slice (some ⟨ge, 0, none⟩) 48 ce).ownBlock = some g ∨ g = W'.heap.size) : CX W0 (W0.heap.size + 2) (upd (upd ρ (.ru 1) (xR a b d (some ⟨gs, 0, none⟩, 12, rc) bx)) (.ed 0) (rowZ g cap)) W5 :=
  h.put (.ed 0) (v := (some ⟨ge, 0, none⟩, 48, ce)) (by rw [upd_ne _ (by simp)]; exact hv) (n := 49) hO (by rw [List.length_append, Rs.len_edis]; rfl) hg (hgo.imp id (fun e => by rw [e]; exact Nat.le_refl _))
theorem step_u {gs rc ge ce bx : Nat} {nl : Rs.Nm} {lv : SV} (ly : ys.length = 6) (hC : Copied m yv ev zs ps ys a b d (some ⟨gs, 0, none⟩, 12, rc) bo ρ W0 W) (hv : (ρ (.la 0)).v = (some ⟨ge, 0, none⟩, 6, ce)) (h : CX W0 (W0.heap.size + 2) (upd ρ (.ru 1) (xR a b d (some ⟨gs, 0, none⟩, 12, rc) bx)) W') {g cap : Nat} (hO : OwnL 40 10 eLay W5 (W0.heap.size + 2) (.slice (some ⟨g, 0, none⟩) (6 + 1) cap) (ys ++ [(Rs.layU m nl, lv, noSV)]))
    (hg : W'.grownBy W5 (Value.slice (some ⟨ge, 0, none⟩) 6 ce).ownBlock) (hgo : (Value.slice (some ⟨ge, 0, none⟩) 6 ce).ownBlock = some g ∨ g = W'.heap.size) : CX W0 (W0.heap.size + 2) (upd (upd ρ (.ru 1) (xR a b d (some ⟨gs, 0, none⟩, 12, rc) bx)) (.la 0) (rowU ys m nl lv g cap)) W5 :=
  h.put (.la 0) (v := (some ⟨ge, 0, none⟩, 6, ce)) (by rw [upd_ne _ (by simp)]; exact hv) (n := 7) hO (by rw [List.length_append, ly]; rfl) hg (hgo.imp id (fun e => by rw [e]; exact Nat.le_refl _))
theorem z_x {gs rc bx g cap : Nat} (h : CX W0 lo (upd (upd ρ (.ru 1) (xR a b d (some ⟨gs, 0, none⟩, 12, rc) bx)) (.ed 0) (rowZ g cap)) W5) : W5.cell? ⟨bx, 3, none⟩ = some (.slice (some ⟨gs, 0, none⟩) 12 rc) := (cx_x h (by rw [upd_ne _ (by simp), upd_same])).2.2.2
theorem u_x {gs rc bx g cap : Nat} {nl : Rs.Nm} {lv : SV} (h : CX W0 lo (upd (upd ρ (.ru 1) (xR a b d (some ⟨gs, 0, none⟩, 12, rc) bx)) (.la 0) (rowU ys m nl lv g cap)) W5) : W5.cell? ⟨bx, 3, none⟩ = some (.slice (some ⟨gs, 0, none⟩) 12 rc) := (cx_x h (by rw [upd_ne _ (by simp), upd_same])).2.2.2
theorem x_x {gs rc bx : Nat} (h : CX W0 lo (upd ρ (.ru 1) (xR a b d (some ⟨gs, 0, none⟩, 12, rc) bx)) W5) : W5.cell? ⟨bx, 3, none⟩ = some (.slice (some ⟨gs, 0, none⟩) 12 rc) := (cx_x h (upd_same _ _ _)).2.2.2
theorem z_sc (hL : CL w m bL nb zv pv cv mv yv ev zs ps ys W0) {gs rc g cap bx : Nat} {v : SV} (hC : Copied m yv ev zs ps ys a b d (some ⟨gs, 0, none⟩, 12, rc) bo ρ W0 W) (hv : (ρ (.ed 0)).v = v) (h : CX W0 (W0.heap.size + 2) (upd (upd ρ (.ru 1) (xR a b d (some ⟨gs, 0, none⟩, 12, rc) bx)) (.ed 0) (rowZ g cap)) W5) : W5.cell? ⟨gs, 2, none⟩ = some (sv v) := by
  subst hv
  exact (fin_z hL hC h).1.1
theorem u_sc (hL : CL w m bL nb zv pv cv mv yv ev zs ps ys W0) {gs rc g cap bx : Nat} {nl : Rs.Nm} {v : SV} (hC : Copied m yv ev zs ps ys a b d (some ⟨gs, 0, none⟩, 12, rc) bo ρ W0 W) (hv : (ρ (.la 0)).v = v) (h : CX W0 (W0.heap.size + 2) (upd (upd ρ (.ru 1) (xR a b d (some ⟨gs, 0, none⟩, 12, rc) bx)) (.la 0) (rowU ys m nl mv g cap)) W5) : W5.cell? ⟨gs, 1, none⟩ = some (sv v) := by
  subst hv
  exact (fin_u hL hC h).1.1
end
end Go.Proofs.YtphenbfhojdcpaaGreatDoor
