/- What a law of duty asks of Person, On and Times. -/
import Derived.Test.YtfamcohbnoibaaaGreatDoorKUw
import Derived.Test.YtfamcohbnoibaaaGreatDoorKG38
namespace Go.Proofs.YtfamcohbnoibaaaGreatDoor
open Go.RowKit
set_option linter.unusedVariables false
set_option linter.unusedSimpArgs false
set_option maxRecDepth 100000
section
variable {w W:World} {lo:Nat} {C:Rs.Cfg} {l:Rs.Lay} {a1:Option Addr} {a2 a3:Nat} {b1:Option Addr} {b2 b3:Nat} {c1:Option Addr} {c2 c3:Nat} {d1:Option Addr} {d2 d3:Nat} {m1:Option Addr} {m2 m3:Nat} {q1:Option Addr} {q2 q3:Nat} {bc bl:Nat} {cv lv:Array Value}
theorem LK.person (h:LK w lo (a1,a2,a3) (b1,b2,b3) (c1,c2,c3) (d1,d2,d3) C l (m1,m2,m3) (q1,q2,q3) bc bl cv lv W) (hn:l.name=[97]) {t:Int} (ht:I64 t):Calls Tryz.prog 18 #[.agg #[.slice a1 a2 a3,.slice b1 b2 b3,.slice c1 c2 c3,.slice d1 d2 d3],.agg #[.string ⟨#[97]⟩,.int .i64 l.zone,.int .i64 l.day,.int .i64 l.sec,.int .i64 l.unit,.int .i64 l.every,.slice m1 m2 m3,.slice q1 q2 q3,.int .i64 l.cal,.int .i64 l.mode],.int .i64 t] W fun e w'=>e= .returned (.int .i64 (Sg.perS C l t))∧Below W.heap.size W w':=by
  have :=Person_is a1 a2 a3 b1 b2 b3 c1 c2 c3 d1 d2 d3 m1 m2 m3 q1 q2 q3 t ht W h.din
  rw [hn] at this
  exact this
theorem LK.tim (h:LK w lo (a1,a2,a3) (b1,b2,b3) (c1,c2,c3) (d1,d2,d3) C l (m1,m2,m3) (q1,q2,q3) bc bl cv lv W) (hn:l.name=[97]) (hs:Sg.fitS C l=true→Sg.Small C l) {f t:Int} (hf:I64 f) (ht:I64 t):Calls Tryz.prog 20 #[.agg #[.slice a1 a2 a3,.slice b1 b2 b3,.slice c1 c2 c3,.slice d1 d2 d3],.agg #[.string ⟨#[97]⟩,.int .i64 l.zone,.int .i64 l.day,.int .i64 l.sec,.int .i64 l.unit,.int .i64 l.every,.slice m1 m2 m3,.slice q1 q2 q3,.int .i64 l.cal,.int .i64 l.mode],.int .i64 f,.int .i64 t] W (TimV C l f t W):=by
  have :=Times_is hs a1 a2 a3 b1 b2 b3 c1 c2 c3 d1 d2 d3 m1 m2 m3 q1 q2 q3 f t hf ht W h.din
  rw [hn] at this
  exact this
end
namespace Sg
theorem Dy.Ok.per_on {d:Dy} (h:d.Ok) (hm: ∀x∈d.ms,0≤x) (t:Int):d.on t=decide (0≤d.per t):=by
  unfold Dy.per
  by_cases ho:d.on t=true
  · rw [if_pos ho,ho]
    have hl:(d.sh t).toNat%d.ms.length<d.ms.length:=Nat.mod_lt _ h.m
    rw [show d.ms.getD ((d.sh t).toNat%d.ms.length) 0=d.ms[(d.sh t).toNat%d.ms.length] by simp [List.getD,List.getElem?_eq_getElem hl]]
    exact (decide_eq_true (hm _ (List.getElem_mem hl))).symm
  · rw [if_neg ho]
    simpa using ho
end Sg
end Go.Proofs.YtfamcohbnoibaaaGreatDoor
