import Derived.Test.YtfamcohbnoibaaaGreatDoorKG00
import Derived.Shelf.GgClosure.StringsIndexFunc
import Derived.Test.YtfamcohbnoibaaaGreatDoorKZci
import Derived.Test.YtfamcohbnoibaaaGreatDoorKG01
import Derived.Test.YtfamcohbnoibaaaGreatDoorShelf
import Derived.WalkSpells
import Derived.WalkLawsBesides
import Derived.IntWalk
import Derived.Lib.CutLaws
import Derived.Lib.ItoaMem
import Derived.Lib.FieldsLaws
import Derived.Lib.Join
set_option linter.unusedVariables false
set_option linter.unusedSimpArgs false
set_option maxRecDepth 100000
namespace Lx
open Go Go.Lib Go.Proofs.YtfamcohbnoibaaaGreatDoor
theorem decode_lo (s:ByteArray) (i:Nat) (h:(s.get! i).toNat<128):Utf8.decode s i=((s.get! i).toNat,1):=by
 unfold Utf8.decode
 simp only [Nat.add_zero]
 rw [if_pos (by simpa using h)]
theorem decode_hi (s:ByteArray) (i:Nat) (h:128≤(s.get! i).toNat):128≤(Utf8.decode s i).1:=by
 unfold Utf8.decode
 simp only [Nat.add_zero]
 rw [if_neg (by omega)]
 repeat' split
 all_goals simp_all [Utf8.runeError]
 all_goals omega
def fi (p:Nat→Bool):List UInt8→Option Nat
 |[]=>none
 |b::t=>if p b.toNat then some 0 else (fi p t).map (· +1)
theorem get_drop (s:ByteArray) (i:Nat) (h:i<s.size):s.data.toList.drop i=s.get! i::s.data.toList.drop (i+1):=by
 have hl:i<s.data.toList.length:=by rw [←size_eq];exact h
 rw [List.drop_eq_getElem_cons hl]
 congr 1
 obtain ⟨⟨l⟩⟩:=s
 simp only at hl
 show l[i]=(ByteArray.mk ⟨l⟩).get! i
 simp [ByteArray.get!,hl]
theorem idx_from (p:Nat→Bool) (hp: ∀r,128≤r→p r=true) (s:ByteArray): ∀(f pos:Nat),s.size≤pos+f→
  idxFuncFrom p true s f pos=match fi p (s.data.toList.drop pos) with|none=> -1|some i=>((pos+i:Nat):Int)
 |0,pos,h=>by
  have :s.data.toList.drop pos=[]:=List.drop_eq_nil_of_le (by rw [←size_eq];omega)
  rw [this]
  rfl
 |f+1,pos,h=>by
  unfold idxFuncFrom
  by_cases hlt:pos<s.size
  ·rw [if_pos hlt,get_drop s pos hlt]
   by_cases hb:(s.get! pos).toNat<128
   ·rw [decode_lo s pos hb]
    show (if p (s.get! pos).toNat=true then _ else idxFuncFrom p true s f (pos+1))=_
    by_cases hq:p (s.get! pos).toNat=true
    ·rw [if_pos hq]
     simp [fi,hq]
    ·rw [if_neg hq,idx_from p hp s f (pos+1) (by omega)]
     simp only [fi,hq]
     cases fi p (s.data.toList.drop (pos+1)) with
     |none=>rfl
     |some i=>show ((pos+1+i:Nat):Int)=((pos+(i+1):Nat):Int);congr 1;omega
   ·have hq:=hp _ (show 128≤(s.get! pos).toNat by omega)
    rw [if_pos (hp _ (decode_hi s pos (by omega)))]
    simp [fi,hq]
  ·rw [if_neg hlt]
   have :s.data.toList.drop pos=[]:=List.drop_eq_nil_of_le (by rw [←size_eq];omega)
   rw [this]
   rfl
theorem fi_noth: ∀l:List UInt8,(fi othR l).isNone=noth l
 |[]=>rfl
 |b::t=>by
  have ih:=fi_noth t
  unfold fi
  by_cases h:othR b.toNat=true
  ·simp [h,noth]
  ·simp only [noth,List.all_cons] at ih ⊢
   simp [h, ←ih]
theorem idx_noth (s:ByteArray):decide (idxFunc othR true s<0)=noth s.data.toList:=by
 unfold idxFunc
 rw [idx_from othR oth_hi s _ _ (by omega),List.drop_zero, ←fi_noth]
 cases fi othR s.data.toList with
 |none=>rfl
 |some i=>simp
end Lx
namespace Go.Proofs.YtfamcohbnoibaaaGreatDoor
open Go.RowKit
theorem letter_any (x:Nat) (w:World):Calls Tryz.prog 228 #[.int .i32 (x:Int)] w fun e w'=>e= .returned (.bool (Lx.lowR x))∧w=w':=by
 go_enter Tryz.func228,Tryz.ntmps228
 go_wp2
 all_goals go_ret
 all_goals exact ⟨ret_bool (by rw [Bool.eq_iff_iff];simp only [Lx.lowR,Bool.and_eq_true,decide_eq_true_eq,Bool.false_eq_true,false_iff,true_iff];omega),rfl⟩
theorem letter_is {x:Nat} {b:Bool} (h:Lx.lowR x=b) (w:World):Calls Tryz.prog 228 #[.int .i32 (x:Int)] w fun e w'=>e= .returned (.bool b)∧w=w':=h▸letter_any x w
theorem digit_any (x:Nat) (w:World):Calls Tryz.prog 230 #[.int .i32 (x:Int)] w fun e w'=>e= .returned (.bool (Lx.digR x))∧w=w':=by
 go_enter Tryz.func230,Tryz.ntmps230
 go_wp2
 all_goals go_ret
 all_goals exact ⟨ret_bool (by rw [Bool.eq_iff_iff];simp only [Lx.digR,Bool.and_eq_true,decide_eq_true_eq,Bool.false_eq_true,false_iff,true_iff];omega),rfl⟩
theorem digit_is {x:Nat} {b:Bool} (h:Lx.digR x=b) (w:World):Calls Tryz.prog 230 #[.int .i32 (x:Int)] w fun e w'=>e= .returned (.bool b)∧w=w':=h▸digit_any x w
theorem other_any (x:Nat) (w:World):Calls Tryz.prog 229 #[.int .i32 (x:Int)] w fun e w'=>e= .returned (.bool (Lx.othR x))∧w=w':=by
 by_cases h1:Lx.lowR x=true
 ·have HR:=Lib.hid (show false=Lx.othR x by simp [Lx.othR,h1])
  have HB:=Lib.hid h1
  clear h1
  go_enter Tryz.func229,Tryz.ntmps229
  go_wp2_with fail
  refine (letter_is HB.out _).mono ?_
  rintro e w' ⟨rfl,rfl⟩
  go_wp2_with fail
  go_ret
  exact ⟨ret_bool HR.out,rfl⟩
 ·have h1:Lx.lowR x=false:=by simpa using h1
  by_cases h2:Lx.digR x=true
  ·have HR:=Lib.hid (show false=Lx.othR x by simp [Lx.othR,h2])
   have HB:=Lib.hid h1
   have HC:=Lib.hid h2
   clear h1 h2
   go_enter Tryz.func229,Tryz.ntmps229
   go_wp2_with fail
   refine (letter_is HB.out _).mono ?_
   rintro e w' ⟨rfl,rfl⟩
   go_wp2_with fail
   refine (digit_is HC.out _).mono ?_
   rintro e w' ⟨rfl,rfl⟩
   go_wp2_with fail
   go_ret
   exact ⟨ret_bool HR.out,rfl⟩
  ·have h2:Lx.digR x=false:=by simpa using h2
   have HR:=Lib.hid (show (!(x==95)&& !(x==45))=Lx.othR x by simp [Lx.othR,h1,h2])
   have HB:=Lib.hid h1
   have HC:=Lib.hid h2
   clear h1 h2
   go_enter Tryz.func229,Tryz.ntmps229
   go_wp2_with fail
   refine (letter_is HB.out _).mono ?_
   rintro e w' ⟨rfl,rfl⟩
   go_wp2_with fail
   refine (digit_is HC.out _).mono ?_
   rintro e w' ⟨rfl,rfl⟩
   go_wp2_with fail
   all_goals go_ret
   all_goals exact ⟨ret_bool (Eq.trans (by rw [Bool.eq_iff_iff];simp;omega) HR.out),rfl⟩
theorem enters_other: ∀args w,(callFunc 229 args).run Tryz.prog w= .ok (.enter 229 args) w:=enters_of Tryz.func229 (by kernel_rfl) rfl
theorem gives_other (w:World):PredAt Tryz.prog 229 #[] encR Lx.othR w:=fun W x hb=>(other_any x W).mono fun e w' ⟨h1,h2⟩=>⟨h1,0,h2▸rfl⟩
theorem idxn_is (s:ByteArray) (w:World):Calls Tryz.prog 231 #[.string s,.func (.func 229) #[] #[]] w fun e w'=>e= .returned (.int .i64 (Lib.idxFunc Lx.othR true s))∧Below w.heap.size w w':=
 Tryz.strings_IndexFunc _ _ enters_other Lx.othR s w (gives_other w)
end Go.Proofs.YtfamcohbnoibaaaGreatDoor
namespace Go.Proofs.YtfamcohbnoibaaaGreatDoor
open Go.RowKit
theorem str_at {s:ByteArray} {k:Nat} {c:UInt8} (h:s.data.toList[k]? =some c) (T:TypeId) (hT: Tryz.prog.underlying T=some .string) (w:World):
  (Instr.index T (.string s) (.int .i64 (k:Int))).run Tryz.prog w= .ok (.int .u8 (c.toNat:Int)) w:=by
 have hk:k<s.size:=by
  rw [Lib.size_eq]
  exact (List.getElem?_eq_some_iff.1 h).1
 rw [run_index_string w T s .i64 (k:Int) hT,dif_pos ⟨by omega,by omega⟩]
 obtain ⟨⟨l⟩⟩:=s
 obtain ⟨hk2,h2⟩:=List.getElem?_eq_some_iff.1 h
 simp only [Int.toNat_natCast]
 have e:(ByteArray.mk ⟨l⟩)[k]'hk=c:=h2
 rw [e]
theorem empty_list {s:ByteArray} (h:s.data.toList≠[]):¬s.toList=[]:=by rw [Lib.toList_data];exact h
theorem conv_u8 (c:UInt8) (w:World):(convert 5 21 (.int .u8 (c.toNat:Int))).run Tryz.prog w= .ok (.int .i32 (c.toNat:Int)) w:=by
 have :=c.toNat_lt
 have h:=IntWalk.i32_in (c.toNat:Int) (by omega)
 simp [convert,go_sem,h]
set_option maxRecDepth 100000 in
set_option maxHeartbeats 800000 in
theorem name_any (s:ByteArray) (w:World):Calls Tryz.prog 193 #[.string s] w fun e w'=>e= .returned (.bool (Lx.nameS s.data.toList))∧Below w.heap.size w w':=by
 have hsz:=Lib.size_eq s
 cases hl:s.data.toList with
 |nil=>
  have he:s.toList=[]:=by rw [Lib.toList_data];exact hl
  have HR:=Lib.hid (show false=Lx.nameS [] from rfl)
  clear hl hsz
  go_enter Tryz.func193,Tryz.ntmps193
  go_wp2_with fail
  go_ret
  exact ⟨ret_bool HR.out,Below.refl _ _⟩
 |cons c t=>
  rw [hl] at hsz
  have he:¬s.toList=[]:=empty_list (by rw [hl];simp)
  have he2:(!s.toList.isEmpty)=true:=by simp [he]
  have he3:s.toList.isEmpty=false:=by simp [he]
  by_cases h24:24<s.size
  ·have HR:=Lib.hid (show false=Lx.nameS (c::t) by
    have :¬(c::t).length≤24:=by omega
    simp only [Lx.nameS,decide_eq_false this,Bool.false_and])
   have h24':decide ((24:Int)<s.size)=true:=by simp;omega
   clear hl hsz h24
   go_enter Tryz.func193,Tryz.ntmps193
   go_wp2_with fail
   go_ret
   exact ⟨ret_bool HR.out,Below.refl _ _⟩
  ·have h24':decide ((24:Int)<s.size)=false:=by simp;omega
   have hc:s.data.toList[0]? =some c:=by rw [hl];rfl
   have k0: ∀w,(Instr.index 9 (.string s) (.int .i64 0)).run Tryz.prog w= .ok (.int .u8 (c.toNat:Int)) w:=fun w=>str_at hc 9 Tryz.underlying9 w
   have k1: ∀w,(convert 5 21 (.int .u8 (c.toNat:Int))).run Tryz.prog w= .ok (.int .i32 (c.toNat:Int)) w:=fun w=>conv_u8 c w
   by_cases hlow:Lx.lowR c.toNat=true
   ·have HL:=Lib.hid hlow
    have hn:=Lx.idx_noth s
    obtain ⟨i,hi⟩: ∃i,Lib.idxFunc Lx.othR true s=i:=⟨_,rfl⟩
    rw [hi] at hn
    have HI:=Lib.hid hi
    have HR:=Lib.hid (show decide (i<0)=Lx.nameS (c::t) by
     have :(c::t).length≤24:=by omega
     rw [hn,hl]
     simp only [Lx.nameS,hlow,decide_eq_true this,Bool.true_and])
    clear hl hsz hc hlow hn hi h24
    go_enter Tryz.func193,Tryz.ntmps193
    go_wp2_with fail
    refine (letter_is HL.out _).mono ?_
    rintro e w' ⟨rfl,rfl⟩
    go_wp2_with fail
    refine (idxn_is s _).mono ?_
    rw [HI.out]
    rintro e w' ⟨rfl,hb⟩
    go_wp2_with fail
    all_goals go_ret
    all_goals exact ⟨ret_bool (by first|exact HR.out|(rw [←HR.out];simp;omega)),hb⟩
   ·have hlow:Lx.lowR c.toNat=false:=by simpa using hlow
    have HL:=Lib.hid hlow
    have HR:=Lib.hid (show false=Lx.nameS (c::t) by simp [Lx.nameS,hlow])
    clear hl hsz hc hlow h24
    go_enter Tryz.func193,Tryz.ntmps193
    go_wp2_with fail
    refine (letter_is HL.out _).mono ?_
    rintro e w' ⟨rfl,rfl⟩
    go_wp2_with fail
    go_ret
    exact ⟨ret_bool HR.out,Below.refl _ _⟩
theorem name_is {s:ByteArray} {b:Bool} (h:Lx.nameS s.data.toList=b) (w:World):Calls Tryz.prog 193 #[.string s] w fun e w'=>e= .returned (.bool b)∧Below w.heap.size w w':=h▸name_any s w
end Go.Proofs.YtfamcohbnoibaaaGreatDoor
namespace Go.Proofs.YtfamcohbnoibaaaGreatDoor
open Go.RowKit
theorem var_below {P:Program} {W W':World} {n:String} {cs:Array Value} (h:Below W.heap.size W W') (hv:W.var? P n=some cs):W'.var? P n=some cs:=by
 unfold World.var? at *
 cases hg:P.globalNamed n with
 |none=>simp [hg] at hv
 |some g=>
  simp only [hg,Option.bind_some] at *
  have hlt:g<W.heap.size:=by
   cases hh:W.heap[g]? with
   |none=>simp [hh] at hv
   |some o=>exact (Array.getElem?_eq_some_iff.1 hh).1
  rw [h.block g hlt]
  exact hv
structure LexT (w:World):Prop where
 civ:CivT w
 pow:Lib.TabIs Tryz.prog w "internal/strconv.uint64pow10" .u64 Lib.pow10Tab
 syn: ∃tp p,w.var? Tryz.prog "strconv.ErrSyntax"=some #[.iface tp p]
 rng: ∃tp p,w.var? Tryz.prog "strconv.ErrRange"=some #[.iface tp p]
 spc:Lib.TabIs Tryz.prog w "strings.asciiSpace" .u8 Lib.asciiSpaceTab
theorem LexT.below {w w':World} (h:LexT w) (hb:Below w.heap.size w w'):LexT w':=by
 obtain ⟨h1,h2,⟨a,b,h3⟩,⟨c,d,h4⟩,h5⟩:=h
 exact ⟨h1.below hb,var_below hb h2,⟨a,b,var_below hb h3⟩,⟨c,d,var_below hb h4⟩,var_below hb h5⟩
theorem LexT.alloc {w:World} (h:LexT w) (o:Obj):LexT (w.alloc o):=h.below ((Below.refl _ _).alloc (Nat.le_refl _) o)
theorem LexT.drewN {w:World} (h:LexT w) (n:Nat):LexT (w.drewN n):=h.below ⟨rfl,rfl,rfl,Nat.le_refl _,fun _ _=>rfl⟩
theorem LexT.drew {w:World} (h:LexT w):LexT w.drew:=h.below (Below.refl _ _).drew
def PartsAt (w:World) (b:Nat) (P:List ByteArray):Prop:= ∀k x,P[k]? =some x→w.cell? ⟨b,k,none⟩=some (.string x)
theorem PartsAt.below {w w':World} {b:Nat} {P:List ByteArray} (h:PartsAt w b P) (hb:Below w.heap.size w w'):PartsAt w' b P:=fun k x hx=>by
 have :=h k x hx
 exact (hb.cell (p:=⟨b,k,none⟩) (World.block_lt_of_cell? w _ this)).trans this
end Go.Proofs.YtfamcohbnoibaaaGreatDoor
namespace Go.Proofs.YtfamcohbnoibaaaGreatDoor
open Go.RowKit
def Num2 (M:Int) (o:Option Int) (w:World) (e:Ending) (w':World):Prop:=
 ∃v:Int,I64 v∧ -M≤v∧v≤M∧(∀x,o=some x→v=x)∧e= .returned (.tuple #[.int .i64 v,.bool o.isSome])∧Below w.heap.size w w'
theorem bdrewN {B:Nat} {a w:World} (h:Below B a w) (n:Nat):Below B a (w.drewN n):=⟨h.os,h.tape,h.output,h.size,h.block⟩
end Go.Proofs.YtfamcohbnoibaaaGreatDoor
namespace Go.Proofs.YtfamcohbnoibaaaGreatDoor
open Go.RowKit
def Fld (o:Option (List Nat)) (w:World) (e:Ending) (w':World):Prop:=
 (o=none∧e= .returned (.tuple #[.slice none 0 0,.bool false])∧Below w.heap.size w w')∨
 (∃(a b d bl:Nat),o=some [a,b,d]∧e= .returned (.tuple #[.slice (some ⟨bl,0,none⟩) 3 3,.bool true])∧BlkAt w' bl #[.int .i64 a,.int .i64 b,.int .i64 d] 3∧Below w.heap.size w w')
theorem Fld.no {o:Option (List Nat)} {w w':World} (h:o=none) (hb:Below w.heap.size w w'):Fld o w (.returned (.tuple #[.slice none 0 0,.bool false])) w':= .inl ⟨h,rfl,hb⟩
def Parts3 (w:World) (b:Nat) (p0 p1 p2:ByteArray):Prop:=w.cell? ⟨b,0,none⟩=some (.string p0)∧w.cell? ⟨b,1,none⟩=some (.string p1)∧w.cell? ⟨b,2,none⟩=some (.string p2)
theorem cell_lift {w w':World} {p:Addr} {v:Value} (h:w.cell? p=some v) (hb:Below w.heap.size w w'):w'.cell? p=some v:=(hb.cell (p:=p) (World.block_lt_of_cell? w _ h)).trans h
theorem Parts3.below {w w':World} {b:Nat} {p0 p1 p2:ByteArray} (h:Parts3 w b p0 p1 p2) (hb:Below w.heap.size w w'):Parts3 w' b p0 p1 p2:=⟨cell_lift h.1 hb,cell_lift h.2.1 hb,cell_lift h.2.2 hb⟩
theorem Parts3.set_ {w:World} {b g i:Nat} {v:Value} {p0 p1 p2:ByteArray} (h:Parts3 w b p0 p1 p2) (hne:g≠b):Parts3 (w.setCell ⟨g,i,none⟩ v) b p0 p1 p2:=by
 have key: ∀j u,w.cell? ⟨b,j,none⟩=some u→(w.setCell ⟨g,i,none⟩ v).cell? ⟨b,j,none⟩=some u:=fun j u hu=>by
  rw [World.cell?_setCell_other w _ _ _ (fun e=>hne (by injection e with e1))];exact hu
 exact ⟨key _ _ h.1,key _ _ h.2.1,key _ _ h.2.2⟩
def okP (p:ByteArray) (i:Nat):Prop:=p.data.toList.length=i∧Lx.alldig p.data.toList=true
end Go.Proofs.YtfamcohbnoibaaaGreatDoor
namespace Go.Proofs.YtfamcohbnoibaaaGreatDoor
open Go.RowKit
end Go.Proofs.YtfamcohbnoibaaaGreatDoor
namespace Go.Proofs.YtfamcohbnoibaaaGreatDoor
open Go.RowKit
theorem Num2.none_ {M:Int} {w w':World} (hM:0≤M) (v:Int) (hi:I64 v) (h1: -M≤v) (h2:v≤M) (hb:Below w.heap.size w w'):Num2 M none w (.returned (.tuple #[.int .i64 v,.bool false])) w':=⟨v,hi,h1,h2,(by rintro x ⟨⟩),rfl,hb⟩
end Go.Proofs.YtfamcohbnoibaaaGreatDoor
namespace Go.Proofs.YtfamcohbnoibaaaGreatDoor
open Go.RowKit
end Go.Proofs.YtfamcohbnoibaaaGreatDoor
namespace Go.Proofs.YtfamcohbnoibaaaGreatDoor
open Go.RowKit
section
variable {w w':World} {b:Nat} {k n:Int} {t:ByteArray}
end
end Go.Proofs.YtfamcohbnoibaaaGreatDoor
namespace Go.Proofs.YtfamcohbnoibaaaGreatDoor
open Go.RowKit
def TokV (o:Option Lx.Tk) (w:World) (e:Ending) (w':World):Prop:=
 (o=none∧e= .returned (.tuple #[.agg #[.int .i64 0,.string ⟨#[]⟩,.int .i64 0],.int .i64 2])∧Below w.heap.size w w')∨
 (∃(k:Int) (t:List UInt8) (n:Int),o=some (k,t,n)∧e= .returned (.tuple #[.agg #[.int .i64 k,.string ⟨t.toArray⟩,.int .i64 n],.int .i64 0])∧Below w.heap.size w w')
theorem TokV.no {o:Option Lx.Tk} {w w':World} (h:o=none) (hb:Below w.heap.size w w'):TokV o w (.returned (.tuple #[.agg #[.int .i64 0,.string ⟨#[]⟩,.int .i64 0],.int .i64 2])) w':= .inl ⟨h,rfl,hb⟩
theorem TokV.yes {o:Option Lx.Tk} {k n:Int} {w w':World} (h:o=some (k,[],n)) (hb:Below w.heap.size w w'):TokV o w (.returned (.tuple #[.agg #[.int .i64 k,.string ⟨#[]⟩,.int .i64 n],.int .i64 0])) w':= .inr ⟨k,[],n,h,rfl,hb⟩
end Go.Proofs.YtfamcohbnoibaaaGreatDoor
namespace Go.Proofs.YtfamcohbnoibaaaGreatDoor
open Go.RowKit
end Go.Proofs.YtfamcohbnoibaaaGreatDoor
namespace Go.Proofs.YtfamcohbnoibaaaGreatDoor
open Go.RowKit
def DtIs (n y m d:Int):Prop:=(Civ.vld y m d∧Civ.num y m d=n)∨((n<0∨98981≤n)∧y=0∧m=0∧d=0)
theorem DtIs.bd {n y m d:Int} (h:DtIs n y m d):0≤y∧y≤2240∧0≤m∧m≤12∧0≤d∧d≤31:=by
 rcases h with ⟨⟨h1,h2,h3,h4,h5,h6⟩,_⟩|⟨_,rfl,rfl,rfl⟩
 ·have :=Civ.dim_bd y m
  omega
 ·omega
end Go.Proofs.YtfamcohbnoibaaaGreatDoor
namespace Go.Proofs.YtfamcohbnoibaaaGreatDoor
open Go.RowKit
end Go.Proofs.YtfamcohbnoibaaaGreatDoor
namespace Go.Proofs.YtfamcohbnoibaaaGreatDoor
open Go.RowKit
end Go.Proofs.YtfamcohbnoibaaaGreatDoor
namespace Lx
open Go Go.Lib Go.Proofs.YtfamcohbnoibaaaGreatDoor
def prB (b:UInt8):Bool:=decide (32≤b.toNat)&&decide (b.toNat≤126)
def prn (l:List UInt8):Bool:=l.all prB
def toksS:List (List UInt8)→Option (List Tk)
 |[]=>some []
 |x::r=>match tokS x,toksS r with
  |some t,some ts=>some (t::ts)
  |_,_=>none
def lineS (l:List UInt8):Option (List Tk):=if prn l=true then toksS (fields (cut l [35]).1) else none
end Lx
namespace Go.Proofs.YtfamcohbnoibaaaGreatDoor
open Go.RowKit
def eTok:Lx.Tk→Nat→Value:=fun x j=>match j with
 |0=> .int .i64 x.1
 |1=> .string ⟨x.2.1.toArray⟩
 |_=> .int .i64 x.2.2
end Go.Proofs.YtfamcohbnoibaaaGreatDoor
namespace Go.Proofs.YtfamcohbnoibaaaGreatDoor
open Go.RowKit
def WordsAt (w:World) (b:Nat) (ws:List (List UInt8)):Prop:= ∀k x,ws[k]? =some x→w.cell? ⟨b,k,none⟩=some (.string ⟨x.toArray⟩)
end Go.Proofs.YtfamcohbnoibaaaGreatDoor
namespace Go.Proofs.YtfamcohbnoibaaaGreatDoor
open Go.RowKit
theorem t1:Lx.tokS [50,48,50,54,45,48,51,45,50,57,84,48,49,58,48,48,58,48,48,90]=some (5,[],1774746000):=by kernel_rfl
theorem t2:Lx.tokS [50,52,58,48,48]=some (2,[],86400):=by kernel_rfl
theorem t3:Lx.tokS [50,52,58,48,49]=none:=by kernel_rfl
theorem t4:Lx.lineS [97,32,35,32,98]=some [(0,[97],0)]:=by kernel_rfl
theorem t5:Lx.offTS (-5400)=[45,48,49,58,51,48]:=by
 have e:Lx.fullTS 5400=[48,49,58,51,48,58,48,48]:=by
  unfold Lx.fullTS
  rw [show Int.tdiv 5400 3600=1 from by decide,show (Int.tdiv 5400 60).tmod 60=30 from by decide,show Int.tmod 5400 60=0 from by decide]
  rw [Lx.pad2 (n:=1) (by decide) (by decide),Lx.pad2 (n:=30) (by decide) (by decide),Lx.pad2 (n:=0) (by decide) (by decide)]
  decide
 unfold Lx.offTS Lx.clockTS
 rw [if_pos (by decide),show (-(-5400):Int)=5400 from by decide,e]
 decide
end Go.Proofs.YtfamcohbnoibaaaGreatDoor
namespace Go.Proofs.YtfamcohbnoibaaaGreatDoor
open Go.RowKit
end Go.Proofs.YtfamcohbnoibaaaGreatDoor
namespace Lx
open Go Go.Lib Go.Proofs.YtfamcohbnoibaaaGreatDoor
end Lx
namespace Go.Proofs.YtfamcohbnoibaaaGreatDoor
open Go.RowKit
theorem tok_elem {w:World} {A:Option Addr} {ts:List Lx.Tk} (h:ListAt 3 eTok w A ts) {k:Nat} {y:Lx.Tk} (hy:ts[k]? =some y):
  ∃b off,A=some ⟨b,off,none⟩∧w.cell? ⟨b,off+k*3,none⟩=some (.int .i64 y.1)∧w.cell? ⟨b,off+k*3+1,none⟩=some (.string ⟨y.2.1.toArray⟩)∧w.cell? ⟨b,off+k*3+2,none⟩=some (.int .i64 y.2.2):=by
 obtain ⟨b,off,e,hb,hc⟩:=h (by have :=(List.getElem?_eq_some_iff.1 hy).1;omega)
 exact ⟨b,off,e,hc k y hy 0 (by decide),hc k y hy 1 (by decide),hc k y hy 2 (by decide)⟩
end Go.Proofs.YtfamcohbnoibaaaGreatDoor
namespace Sy
open Go Go.Lib Go.Proofs.YtfamcohbnoibaaaGreatDoor Lx
abbrev Fm:=List UInt8×List Int
def F:List Fm:=[([122,111,110,101],[0,4]),([114,117,108,101],[1,1,0,0,0,2,4]),([112,101,114,115,111,110],[0,0]),([113,117,105,101,116],[0,2,0,2]),([99,97,108,101,110,100,97,114],[0,0]),([100,97,121,115],[3]),([115,99,104,101,100,117,108,101],[0]),([108,97,121,101,114],[0,0,3,2,1,0]),([109,101,109,98,101,114],[0]),([111,110],[0,2,0,2]),([110,111,116],[0]),([111,110,108,121],[0]),([108,101,97,118,101],[0,5,5]),([111,118,101,114,114,105,100,101],[0,5,5]),([115,119,97,112],[0,0,5,5])]
abbrev St:=Int×List Tk
end Sy
namespace Go.Proofs.YtfamcohbnoibaaaGreatDoor
open Go.RowKit
section
variable {α:Type} {k:Nat} {e:α→Nat→Value}
theorem ListAt.sub {w:World} {b off:Nat} {xs:List α} (h:ListAt k e w (some ⟨b,off,none⟩) xs) (j m:Nat):ListAt k e w (some ⟨b,off+j*k,none⟩) ((xs.drop j).take m):=fun h0=>by
 have hl:0<xs.length:=by
  rw [List.length_take,List.length_drop] at h0
  omega
 obtain ⟨b',off',ea,hlt,hc⟩:=h hl
 cases ea
 refine ⟨b,_,rfl,hlt,fun i x hx q hq=> ?_⟩
 have hx2:xs[j+i]? =some x:=by
  rw [List.getElem?_take] at hx
  split at hx
  ·rwa [List.getElem?_drop] at hx
  ·cases hx
 have :=hc (j+i) x hx2 q hq
 rw [Nat.add_mul] at this
 rw [show off+j*k+i*k+q=off+(j*k+i*k)+q by omega]
 exact this
theorem ListAt.rest {w:World} {b off:Nat} {xs:List α} (h:ListAt k e w (some ⟨b,off,none⟩) xs) (j:Nat):ListAt k e w (some ⟨b,off+j*k,none⟩) (xs.drop j):=by
 have :=h.sub j (xs.drop j).length
 rwa [List.take_of_length_le (Nat.le_refl _)] at this
theorem ListAt.grown {w w':World} {A:Option Addr} {xs:List α} {row:Option Nat} (h:ListAt k e w A xs) (hg:w.grownBy w' row) (hr: ∀ad,A=some ad→some ad.block≠row):ListAt k e w' A xs:=fun h0=>by
 obtain ⟨b,off,ea,hlt,hc⟩:=h h0
 have hne:=hr _ ea
 refine ⟨b,off,ea,Nat.lt_of_lt_of_le hlt hg.size,fun i x hx j hj=> ?_⟩
 exact (hg.cell_far ⟨b,off+i*k+j,none⟩ hlt hne).trans (hc i x hx j hj)
theorem ListAt.lt_ {w:World} {b off:Nat} {xs:List α} (h:ListAt k e w (some ⟨b,off,none⟩) xs) (h0:0<xs.length):b<w.heap.size:=by
 obtain ⟨_,_,ea,hlt,_⟩:=h h0
 cases ea
 exact hlt
end
def FmsAt (w:World) (b:Nat) (fs:List Sy.Fm):Prop:= ∀k f,fs[k]? =some f→w.cell? ⟨b,k*2,none⟩=some (.string ⟨f.1.toArray⟩)∧ ∃A,w.cell? ⟨b,k*2+1,none⟩=some (.slice A f.2.length f.2.length)∧NumsAt w A f.2
theorem FmsAt.below {w w':World} {b:Nat} {fs:List Sy.Fm} (h:FmsAt w b fs) (hb:Below w.heap.size w w'):FmsAt w' b fs:=fun k f hk=>by
 obtain ⟨h1,A,h2,h3⟩:=h k f hk
 exact ⟨cell_lift h1 hb,A,cell_lift h2 hb,h3.below hb⟩
abbrev Raw:=Int×Option Addr×Nat×Nat
def eStm:Raw→Nat→Value:=fun x j=>match j with
 |0=> .int .i64 x.1
 |_=> .slice x.2.1 x.2.2.1 x.2.2.2
structure StmIs (w:World) (x:Raw) (s:Sy.St):Prop where
 line:x.1=s.1
 len:x.2.2.1=s.2.length
 cap:x.2.2.1≤x.2.2.2
 small:s.2.length≤600
 toks:ListAt 3 eTok w x.2.1 s.2
def Stms (w:World) (xs:List Raw) (ss:List Sy.St):Prop:=xs.length=ss.length∧ ∀(k:Nat) (x:Raw) (s:Sy.St),xs[k]? =some x→ss[k]? =some s→StmIs w x s
theorem StmIs.below {w w':World} {x:Raw} {s:Sy.St} (h:StmIs w x s) (hb:Below w.heap.size w w'):StmIs w' x s:=⟨h.line,h.len,h.cap,h.small,h.toks.below hb⟩
theorem Stms.below {w w':World} {xs:List Raw} {ss:List Sy.St} (h:Stms w xs ss) (hb:Below w.heap.size w w'):Stms w' xs ss:=⟨h.1,fun k x s hx hs=>(h.2 k x s hx hs).below hb⟩
theorem Stms.snoc {w:World} {xs:List Raw} {ss:List Sy.St} (h:Stms w xs ss) {x:Raw} {s:Sy.St} (hx:StmIs w x s):Stms w (xs++[x]) (ss++[s]):=by
 refine ⟨by simp [h.1],fun k y t hy ht=> ?_⟩
 by_cases hk:k<xs.length
 ·rw [List.getElem?_append_left hk] at hy
  rw [List.getElem?_append_left (by rw [←h.1];exact hk)] at ht
  exact h.2 k y t hy ht
 ·rw [List.getElem?_append_right (by omega)] at hy
  rw [List.getElem?_append_right (by have :=h.1;omega)] at ht
  have h0:k-xs.length=0:=by
   rcases Nat.eq_zero_or_pos (k-xs.length) with h|h
   ·exact h
   ·rw [List.getElem?_eq_none (by simp;omega)] at hy;cases hy
  rw [h0] at hy
  rw [show k-ss.length=0 by have :=h.1;omega] at ht
  simp at hy ht
  subst hy;subst ht
  exact hx
def StmsAt (w:World) (A:Option Addr) (ss:List Sy.St):Prop:= ∃xs,ListAt 2 eStm w A xs∧Stms w xs ss
theorem StmsAt.below {w w':World} {A:Option Addr} {ss:List Sy.St} (h:StmsAt w A ss) (hb:Below w.heap.size w w'):StmsAt w' A ss:=by
 obtain ⟨xs,h1,h2⟩:=h
 exact ⟨xs,h1.below hb,h2.below hb⟩
theorem StmsAt.nil_ {w:World} {A:Option Addr}:StmsAt w A []:=⟨[],ListAt.nil_,rfl,fun k x s h=>by simp at h⟩
theorem StmsAt.get {w:World} {A:Option Addr} {ss:List Sy.St} (h:StmsAt w A ss) {k:Nat} {s:Sy.St} (hs:ss[k]? =some s):
  ∃b off T c,A=some ⟨b,off,none⟩∧b<w.heap.size∧w.cell? ⟨b,off+k*2,none⟩=some (.int .i64 s.1)∧w.cell? ⟨b,off+k*2+1,none⟩=some (.slice T s.2.length c)∧s.2.length≤c∧s.2.length≤600∧ListAt 3 eTok w T s.2:=by
 obtain ⟨xs,h1,h2,h3⟩:=h
 have hk:=(List.getElem?_eq_some_iff.1 hs).1
 obtain ⟨x,hx⟩:=get_ex (xs:=xs) (i:=k) (by omega)
 obtain ⟨b,off,ea,hb,hc⟩:=h1 (by omega)
 have hx3:=h3 k x s hx hs
 have c0:=hc k x hx 0 (by decide)
 have c1:=hc k x hx 1 (by decide)
 simp only [eStm] at c0 c1
 rw [hx3.line] at c0
 rw [hx3.len] at c1
 exact ⟨b,off,x.2.1,x.2.2.2,ea,hb,c0,c1,by rw [←hx3.len];exact hx3.cap,hx3.small,hx3.toks⟩
end Go.Proofs.YtfamcohbnoibaaaGreatDoor
namespace Go.Proofs.YtfamcohbnoibaaaGreatDoor
open Go.RowKit
end Go.Proofs.YtfamcohbnoibaaaGreatDoor
namespace Go.Proofs.YtfamcohbnoibaaaGreatDoor
open Go.RowKit
def CutV (o:Option (List Lx.Tk)) (w:World) (e:Ending) (w':World):Prop:=
 ((o=none∧e= .returned (.tuple #[.slice none 0 0,.bool false]))∨ ∃(r:List Lx.Tk) (A:Option Addr) (c:Nat),o=some r∧e= .returned (.tuple #[.slice A r.length c,.bool true])∧r.length≤c∧ListAt 3 eTok w A r)∧Below w.heap.size w w'
theorem CutV.no {o:Option (List Lx.Tk)} {w w':World} (h:o=none) (hb:Below w.heap.size w w'):CutV o w (.returned (.tuple #[.slice none 0 0,.bool false])) w':=⟨.inl ⟨h,rfl⟩,hb⟩
theorem CutV.yes {o:Option (List Lx.Tk)} {w w':World} {r:List Lx.Tk} {A:Option Addr} {c:Nat} (h:o=some r) (hc:r.length≤c) (hl:ListAt 3 eTok w A r) (hb:Below w.heap.size w w'):CutV o w (.returned (.tuple #[.slice A r.length c,.bool true])) w':=⟨.inr ⟨r,A,c,h,rfl,hc,hl⟩,hb⟩
end Go.Proofs.YtfamcohbnoibaaaGreatDoor
namespace Go.Proofs.YtfamcohbnoibaaaGreatDoor
open Go.RowKit
end Go.Proofs.YtfamcohbnoibaaaGreatDoor
namespace Go.Proofs.YtfamcohbnoibaaaGreatDoor
open Go.RowKit
def StmV (p:Int×List Lx.Tk) (w:World) (e:Ending) (w':World):Prop:=
 ∃(A:Option Addr) (c:Nat),e= .returned (.tuple #[.slice A p.2.length c,.int .i64 p.1])∧ListAt 3 eTok w' A p.2∧p.2.length≤600∧p.2.length≤c∧(∀ad,A=some ad→w.heap.size≤ad.block)∧Below w.heap.size w w'
theorem StmV.bad {w w':World} {p:Int×List Lx.Tk} {n:Int} (h:p=(n,[])) (hb:Below w.heap.size w w'):StmV p w (.returned (.tuple #[.slice none 0 0,.int .i64 n])) w':=by
 subst h
 exact ⟨none,0,rfl,ListAt.nil_,by simp,by simp,(fun ad e=>by cases e),hb⟩
theorem StmIs.grown {w w':World} {x:Raw} {s:Sy.St} {row:Option Nat} (h:StmIs w x s) (hg:w.grownBy w' row) (hr: ∀ad,x.2.1=some ad→some ad.block≠row):StmIs w' x s:=⟨h.line,h.len,h.cap,h.small,h.toks.grown hg hr⟩
def ParseV (R:Int×Int×List Sy.St) (w:World) (e:Ending) (w':World):Prop:=
 ∃(A:Option Addr) (c:Nat),e= .returned (.tuple #[.slice A R.2.2.length c,.int .i64 R.2.1,.int .i64 R.1])∧StmsAt w' A R.2.2∧R.2.2.length≤c∧Below w.heap.size w w'
theorem ParseV.bad {w w':World} {R:Int×Int×List Sy.St} {e l:Int} (h:R=(e,l,[])) (hb:Below w.heap.size w w'):ParseV R w (.returned (.tuple #[.slice none 0 0,.int .i64 l,.int .i64 e])) w':=by
 subst h
 exact ⟨none,0,rfl,StmsAt.nil_,by simp,hb⟩
end Go.Proofs.YtfamcohbnoibaaaGreatDoor
namespace Sy
open Go Go.Lib Go.Proofs.YtfamcohbnoibaaaGreatDoor Lx
end Sy
namespace Go.Proofs.YtfamcohbnoibaaaGreatDoor
open Go.RowKit
theorem WordsAt.below {w w':World} {b:Nat} {ws:List (List UInt8)} (h:WordsAt w b ws) (hb:Below w.heap.size w w'):WordsAt w' b ws:=fun k x hx=>cell_lift (h k x hx) hb
end Go.Proofs.YtfamcohbnoibaaaGreatDoor
namespace Go.Proofs.YtfamcohbnoibaaaGreatDoor
namespace Rs
def tx (l:List Lx.Tk) (i:Nat):Nm:=(l.getD i (0,[],0)).2.1
def nm (l:List Lx.Tk) (i:Nat):Int:=(l.getD i (0,[],0)).2.2
def near (n:Int):Int:=min (max n (-1209600)) 1209600
def hrs (n:Int):Int:=near n*3600
def weekW:Nm:=[119,101,101,107]
def restW:Nm:=[114,101,115,116]
def lastOf {α:Type} (l:List α):Option α:=l[l.length-1]?
def setLast {α:Type} (l:List α) (x:α):List α:=l.set (l.length-1) x
def Cfg.zn (C:Cfg):List Nm:=C.zones.map (·.name)
def Cfg.pn (C:Cfg):List Nm:=C.people.map (·.name)
def Cfg.cn (C:Cfg):List Nm:=C.cals.map (·.name)
def optS:List Lx.Tk→Pers→Pers
 |[],p=>p
 |[_],p=>{p with cons:=true}
 |t::u::r,p=>if t.2.1=weekW then optS r {p with maxw:=hrs u.2.2} else if t.2.1=restW then optS r {p with minr:=hrs u.2.2} else optS (u::r) {p with cons:=true}
def optOk:List Lx.Tk→Prop
 |[]=>True
 |[t]=>t.2.1≠weekW∧t.2.1≠restW
 |t::u::r=>if t.2.1=weekW∨t.2.1=restW then optOk r else optOk (u::r)
def addDays (C:Cfg) (l:List Lx.Tk):Int×Cfg:=match lastOf C.cals with
 |none=>(9,C)
 |some x=>(0,{C with cals:=setLast C.cals {x with days:=x.days++l.map (·.2.2)}})
end Rs
end Go.Proofs.YtfamcohbnoibaaaGreatDoor
