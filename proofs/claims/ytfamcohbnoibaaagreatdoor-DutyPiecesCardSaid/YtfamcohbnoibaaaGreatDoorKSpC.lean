/- The reference's functions that read one list. -/
import Derived.Test.YtfamcohbnoibaaaGreatDoorKG30
import Derived.IntWalk
namespace Spn
theorem has_search {l:L} {x:Int} (hc:Chain l) (k:Nat) (hk:k≤l.length) (hlo: ∀j,j<k→(l.getD j (0,0)).2≤x) (hhi: ∀j,k≤j→j<l.length→x<(l.getD j (0,0)).2):
    (k<l.length∧(l.getD k (0,0)).1≤x)↔cov l x:=by
  constructor
  · rintro ⟨a,b⟩
    exact ⟨_,getD_mem a,b,hhi k (Nat.le_refl _) a⟩
  · rintro ⟨s,hs,a,b⟩
    obtain ⟨i,hi,rfl⟩:=List.getElem_of_mem hs
    have e: ∀j (h:j<l.length),l.getD j (0,0)=l[j]:=fun j h=>by simp [List.getD,List.getElem?_eq_getElem h]
    have hik:k≤i:=by
      rcases Nat.lt_or_ge i k with h|h
      · have :=hlo i h;rw [e i hi] at this;omega
      · exact h
    refine ⟨by omega, ?_⟩
    rw [e k (by omega)]
    rcases Nat.lt_or_eq_of_le hik with h|h
    · have h1:=List.pairwise_iff_getElem.1 hc.2 k i (by omega) hi h
      have h2:=hc.1 l[k] (List.getElem_mem _)
      omega
    · subst h;exact a
theorem sum_bd: ∀(l:L),(∀s∈l,0≤s.1∧s.1<s.2∧s.2≤8589934592)→0≤sum l∧sum l≤l.length*8589934592
  |[],_=>by simp [sum]
  |s::r,h=>by
   have a:=h s (by simp)
   have b:=sum_bd r fun t ht=>h t (by simp [ht])
   simp only [sum,List.length_cons]
   omega
theorem sum_snoc: ∀(l:L) (s:Int×Int),sum (l++[s])=sum l+(s.2-s.1)
  |[],s=>by simp [sum]
  |t::r,s=>by simp only [List.cons_append,sum,sum_snoc r s];omega
end Spn
namespace Go.Proofs.YtfamcohbnoibaaaGreatDoor
namespace Spw
open Go.RowKit
set_option linter.unusedVariables false
set_option linter.unusedSimpArgs false

set_option maxHeartbeats 2000000 in
set_option maxRecDepth 100000 in
theorem RValid_any (A:Option Addr) (n c:Nat) (xs:Spn.L) (w:World) (hA:SpansAt w A xs) (hn:xs.length=n) (hm:n≤9223372036854775807):
    Calls Tryz.prog 62 #[.slice A n c] w fun e w'=>e= .returned (.bool (Spn.vld xs))∧Below w.heap.size w w':=by
  by_cases hl:(4096:Int)<n
  · have hv:Spn.vld xs=false:=by unfold Spn.vld;simp;omega
    clear hn
    go_enter Tryz.func62,Tryz.ntmps62
    go_wp2_with fail
    go_ret
    exact ⟨by rw [hv];rfl,Below.refl _ _⟩
  · have hv:Spn.vld xs=Spn.okf (-1) xs:=by unfold Spn.vld;simp;omega
    have hl2:(n:Int)≤4096:=by omega
    have HV:=Lib.hid hv
    have HN:=Lib.hid hn
    clear hv hn hl
    go_enter Tryz.func62,Tryz.ntmps62
    go_wp2_with fail
    go_loopw [3] (fun i wr=> ∃(k:Nat) (x:Int),k≤n∧i= .int .i64 k∧Hid (Spn.okf (-1) xs=Spn.okf x (xs.drop k))∧Hid (x=if k=0 then -1 else (xs.getD (k-1) (0,0)).2)∧ -1≤x∧Below w.heap.size w wr) (fun i _=>n-(intOf i).toNat)
    case atStart=>exact ⟨0, -1,Nat.zero_le _,rfl,Lib.hid rfl,Lib.hid rfl,by omega,Below.refl _ _⟩
    case round=>
      obtain ⟨k,x,hk,rfl,H,HX,hx1,hB⟩:=hrel
      by_cases hlt:k<n
      · obtain ⟨b,off,rfl,hb,hc⟩:=hA (by have :=HN.out;omega)
        obtain ⟨c0,c1⟩:=hc k (by have :=HN.out;omega)
        have c0':=(bcell hB _ _ hb).trans c0
        have c1':=(bcell hB _ _ hb).trans c1
        clear c0 c1
        obtain ⟨⟨f,t⟩,HS⟩: ∃s:Int×Int,Hid (xs.getD k (0,0)=s):=⟨_,Lib.hid rfl⟩
        rw [HS.out] at c0' c1'
        have hlt2:(k:Int)<n:=by omega
        have hk0:(0:Int)≤k:=by omega
        simp only at c0' c1'
        have fin:¬(x<f∧f<t∧t≤8589934592)→(Ending.returned (.bool false)=Ending.returned (.bool (Spn.vld xs))):=fun hno=>by
          rw [HV.out,H.out,Spn.drop_cons xs k (0,0) (by have :=HN.out;omega),HS.out,Spn.okf_no hno]
        have go:x<f→f<t→t≤8589934592→Spn.okf (-1) xs=Spn.okf t (xs.drop (k+1)):=fun a b c=>by
          rw [H.out,Spn.drop_cons xs k (0,0) (by have :=HN.out;omega),HS.out,Spn.okf_yes a b c]
        have FIN:=Lib.hid fin
        have GO:=Lib.hid go
        clear fin go
        by_cases hkz:k=0
        · have hx0:x= -1:=by have :=HX.out;rw [if_pos hkz] at this;exact this
          have dk:decide ((0:Int)<k)=false:=by simp;omega
          have dk2:decide (0<k)=false:=by simp;omega
          have HX0:=Lib.hid hx0
          have HKZ:=Lib.hid hkz
          clear hc hx0 hkz
          by_cases g0:f<0
          · have d1:decide (f<0)=true:=by simpa using g0
            go_wp2_with fail
            go_quiet (fail)
            go_wp2_with fail
            go_ret
            exact ⟨FIN.out (by have :=HX0.out;omega),below_drewN hB _⟩
          · have d1:decide (f<0)=false:=by simpa using g0
            by_cases g1:t≤f
            · have d2:decide (t≤f)=true:=by simpa using g1
              go_wp2_with fail
              go_quiet (fail)
              go_wp2_with fail
              go_ret
              exact ⟨FIN.out (by have :=HX0.out;omega),below_drewN hB _⟩
            · have d2:decide (t≤f)=false:=by simpa using g1
              by_cases g2:8589934592<t
              · have d3:decide (8589934592<t)=true:=by simpa using g2
                go_wp2_with fail
                go_quiet (fail)
                go_wp2_with fail
                go_ret
                exact ⟨FIN.out (by have :=HX0.out;omega),below_drewN hB _⟩
              · have d3:decide (8589934592<t)=false:=by simpa using g2
                go_wp2_with fail
                go_quiet (fail)
                go_wp2_with fail
                go_roundw
                case rel=>exact ⟨k+1,t,by omega,by go_num,Lib.hid (GO.out (by have :=HX0.out;omega) (by omega) (by omega)),Lib.hid (by rw [if_neg (by omega),Nat.add_sub_cancel,HS.out]),by omega,below_drewN hB _⟩
                case measure=>simp [intOf];omega
        · obtain ⟨-,e1⟩:=hc (k-1) (by have :=HN.out;omega)
          have e1':=(bcell hB _ _ hb).trans e1
          have hx0:x=(xs.getD (k-1) (0,0)).2:=by have :=HX.out;rw [if_neg hkz] at this;exact this
          rw [←hx0] at e1'
          have dk:decide ((0:Int)<k)=true:=by simp;omega
          have dk2:decide (0<k)=true:=by simp;omega
          have hk1:(0:Int)≤(k:Int)-1:=by omega
          have hk2:(k:Int)-1<n:=by omega
          clear hc hx0 e1
          by_cases g0:f<0
          · have d1:decide (f<0)=true:=by simpa using g0
            go_wp2_with fail
            go_quiet (fail)
            go_wp2_with fail
            go_ret
            exact ⟨FIN.out (by omega),below_drewN hB _⟩
          · have d1:decide (f<0)=false:=by simpa using g0
            by_cases g1:t≤f
            · have d2:decide (t≤f)=true:=by simpa using g1
              go_wp2_with fail
              go_quiet (fail)
              go_wp2_with fail
              go_ret
              exact ⟨FIN.out (by omega),below_drewN hB _⟩
            · have d2:decide (t≤f)=false:=by simpa using g1
              by_cases g2:8589934592<t
              · have d3:decide (8589934592<t)=true:=by simpa using g2
                go_wp2_with fail
                go_quiet (fail)
                go_wp2_with fail
                go_ret
                exact ⟨FIN.out (by omega),below_drewN hB _⟩
              · have d3:decide (8589934592<t)=false:=by simpa using g2
                by_cases g3:f≤x
                · have d4:decide (f≤x)=true:=by simpa using g3
                  go_wp2_with fail
                  go_quiet (fail)
                  go_wp2_with fail
                  go_ret
                  exact ⟨FIN.out (by omega),below_drewN hB _⟩
                · have d4:decide (f≤x)=false:=by simpa using g3
                  go_wp2_with fail
                  go_quiet (fail)
                  go_wp2_with fail
                  go_roundw
                  case rel=>exact ⟨k+1,t,by omega,by go_num,Lib.hid (GO.out (by omega) (by omega) (by omega)),Lib.hid (by rw [if_neg (by omega),Nat.add_sub_cancel,HS.out]),by omega,below_drewN hB _⟩
                  case measure=>simp [intOf];omega
      · go_wp2_with fail
        go_ret
        exact ⟨by rw [HV.out,H.out,List.drop_of_length_le (by have :=HN.out;omega)];rfl,hB⟩

set_option maxHeartbeats 1000000 in
theorem rhas_any (A:Option Addr) (n c:Nat) (xs:Spn.L) (x:Int) (w:World) (hA:SpansAt w A xs) (hn:xs.length=n) (hv:Spn.vld xs=true):
    Calls Tryz.prog 63 #[.slice A n c,.int .i64 x] w fun e w'=>e= .returned (.bool (Spn.has xs x))∧w=w':=by
  have h4:(n:Int)≤4096:=by have :=((Spn.vld_iff xs).1 hv).1;omega
  have hch:=((Spn.vld_iff xs).1 hv).2.2
  have HN:=Lib.hid hn
  have HV:=Lib.hid hv
  have HC:=Lib.hid hch
  clear hn hv hch
  go_enter Tryz.func63,Tryz.ntmps63
  go_wp2_with fail
  go_loop [5,6] (fun lo hi=> ∃a b:Nat,a≤b∧b≤n∧lo= .int .i64 a∧hi= .int .i64 b∧Hid (∀j,j<a→(xs.getD j (0,0)).2≤x)∧Hid (∀j,b≤j→j<xs.length→x<(xs.getD j (0,0)).2)) (fun lo hi=>(intOf hi).toNat-(intOf lo).toNat)
  case atStart=>exact ⟨0,n,Nat.zero_le _,Nat.le_refl _,rfl,rfl,Lib.hid (fun j hj=>absurd hj (by omega)),Lib.hid (fun j h1 h2=>absurd h2 (by have :=HN.out;omega))⟩
  case round=>
    obtain ⟨a,b,hab,hbn,rfl,rfl,H1,H2⟩:=hrel
    by_cases hlt:a<b
    · obtain ⟨m,hm⟩: ∃m,m=(a+b)/2:=⟨_,rfl⟩
      have hm1:a≤m:=by omega
      have hm2:m<b:=by omega
      have hmi:((a:Int)+b)/2=(m:Int):=by omega
      obtain ⟨bb,off,rfl,hb,hc⟩:=hA (by have :=HN.out;omega)
      obtain ⟨-,c1⟩:=hc m (by have :=HN.out;omega)
      clear hc hm
      obtain ⟨⟨f,t⟩,HS⟩: ∃s:Int×Int,Hid (xs.getD m (0,0)=s):=⟨_,Lib.hid rfl⟩
      rw [HS.out] at c1
      have i1:(a:Int)+b≤8192:=by omega
      have i2:(m:Int)<n:=by omega
      by_cases ht:t≤x
      · go_wp2_with fail
        go_round
        case rel=>
          refine ⟨m+1,b,by omega,hbn,by go_num,rfl,Lib.hid (fun j hj=> ?_),H2⟩
          have h1:=Spn.chain_to HC.out (i:=j) (j:=m) (by omega) (by have :=HN.out;omega)
          rw [HS.out] at h1
          simp only at h1
          omega
        case measure=>simp [intOf];omega
      · go_wp2_with fail
        go_round
        case rel=>
          refine ⟨a,m,hm1,by omega,rfl,by rw [hmi],H1,Lib.hid (fun j h1 h2=> ?_)⟩
          have h1:=Spn.chain_to HC.out (i:=m) (j:=j) (by omega) h2
          rw [HS.out] at h1
          simp only at h1
          omega
        case measure=>simp [intOf];omega
    · obtain rfl:a=b:=by omega
      have key:=Spn.has_search (l:=xs) (x:=x) HC.out a (by have :=HN.out;omega) H1.out H2.out
      have KEY:=Lib.hid key
      clear key
      by_cases han:a<n
      · obtain ⟨bb,off,rfl,hb,hc⟩:=hA (by have :=HN.out;omega)
        obtain ⟨c0, -⟩:=hc a (by have :=HN.out;omega)
        clear hc
        obtain ⟨⟨f,t⟩,HS⟩: ∃s:Int×Int,Hid (xs.getD a (0,0)=s):=⟨_,Lib.hid rfl⟩
        rw [HS.out] at c0
        have i2:(a:Int)<n:=by omega
        have fin:Spn.has xs x=decide (f≤x):=by
          rw [Bool.eq_iff_iff,Spn.has_iff, ←KEY.out,HS.out]
          simp [HV.out]
          have :=HN.out;omega
        have FIN:=Lib.hid fin
        clear fin
        by_cases hf:f≤x
        all_goals
          go_wp2_with fail
          go_ret
          exact ⟨ret_bool (by rw [FIN.out];simp [hf]),rfl⟩
      · have fin:Spn.has xs x=false:=by
          rw [←Bool.not_eq_true,Spn.has_iff, ←KEY.out]
          have :=HN.out
          rintro ⟨-,h, -⟩;omega
        have FIN:=Lib.hid fin
        clear fin
        go_wp2_with fail
        go_ret
        exact ⟨ret_bool (by rw [FIN.out]),rfl⟩

set_option maxHeartbeats 1000000 in
theorem RHas_any (A:Option Addr) (n c:Nat) (xs:Spn.L) (x:Int) (w:World) (hA:SpansAt w A xs) (hn:xs.length=n) (hm:n≤9223372036854775807):
    Calls Tryz.prog 29 #[.slice A n c,.int .i64 x] w fun e w'=>e= .returned (.bool (Spn.has xs x))∧Below w.heap.size w w':=by
  have hV:=RValid_any A n c xs w hA hn hm
  by_cases hv:Spn.vld xs=true
  · rw [hv] at hV
    have hH:=fun W h=>rhas_any A n c xs x W h hn hv
    obtain ⟨r,hr⟩: ∃r,Spn.has xs x=r:=⟨_,rfl⟩
    rw [hr] at hH ⊢
    clear hr hn hv
    go_enter Tryz.func29,Tryz.ntmps29
    go_wp2_with fail
    refine hV.mono ?_
    rintro e w1 ⟨rfl,b1⟩
    go_wp2_with fail
    refine (hH w1 (hA.below b1)).mono ?_
    rintro e w2 ⟨rfl,rfl⟩
    go_wp2_with fail
    go_ret
    exact ⟨rfl,b1⟩
  · have hv':Spn.vld xs=false:=by simpa using hv
    have hr:Spn.has xs x=false:=by rw [←Bool.not_eq_true,Spn.has_iff];rintro ⟨h, -⟩;exact hv h
    rw [hv'] at hV
    rw [hr]
    clear hr hn hv hv'
    go_enter Tryz.func29,Tryz.ntmps29
    go_wp2_with fail
    refine hV.mono ?_
    rintro e w1 ⟨rfl,b1⟩
    go_wp2_with fail
    go_ret
    exact ⟨rfl,b1⟩

set_option maxHeartbeats 1000000 in
theorem RLength_any (A:Option Addr) (n c:Nat) (xs:Spn.L) (w:World) (hA:SpansAt w A xs) (hn:xs.length=n) (hm:n≤9223372036854775807):
    Calls Tryz.prog 30 #[.slice A n c] w fun e w'=>e= .returned (.int .i64 (Spn.len xs))∧Below w.heap.size w w':=by
  have hV:=fun W h=>RValid_any A n c xs W h hn hm
  by_cases hv:Spn.vld xs=true
  · have hl:Spn.len xs=Spn.sum xs:=by unfold Spn.len;rw [if_pos hv]
    have h4:(n:Int)≤4096:=by have :=((Spn.vld_iff xs).1 hv).1;omega
    have hall:=Spn.vld_all hv
    rw [hv] at hV
    have HN:=Lib.hid hn
    have HL:=Lib.hid hl
    have HV:=Lib.hid hall
    have HVV:=Lib.hid hV
    clear hn hl hv hall hV
    go_enter Tryz.func30,Tryz.ntmps30
    go_wp2_with fail
    go_loopw [3,4] (fun s i wr=> ∃k:Nat,k≤n∧i= .int .i64 k∧s= .int .i64 (Spn.sum (xs.take k))∧Below w.heap.size w wr) (fun _ i _=>n-(intOf i).toNat)
    case atStart=>exact ⟨0,Nat.zero_le _,rfl,rfl,Below.refl _ _⟩
    case round=>
      obtain ⟨k,hk,rfl,rfl,hB⟩:=hrel
      by_cases hlt:k<n
      · have hbs:=Spn.sum_bd (xs.take k) (fun s hs=>HV.out s (List.mem_of_mem_take hs))
        have hlk:(xs.take k).length=k:=by rw [List.length_take];have :=HN.out;omega
        rw [hlk] at hbs
        clear hlk
        have hft:=HV.out _ (Spn.getD_mem (l:=xs) (k:=k) (by have :=HN.out;omega))
        obtain ⟨⟨f,t⟩,HS⟩: ∃s:Int×Int,Hid (xs.getD k (0,0)=s):=⟨_,Lib.hid rfl⟩
        obtain ⟨S,HSum⟩: ∃S,Hid (Spn.sum (xs.take k)=S):=⟨_,Lib.hid rfl⟩
        rw [HSum.out] at hbs ⊢
        rw [HS.out] at hft
        obtain ⟨f0,f1,f2⟩:=hft
        obtain ⟨s0,s1⟩:=hbs
        simp only at f0 f1 f2
        have hlt2:(k:Int)<n:=by omega
        have hk0:(0:Int)≤k:=by omega
        go_wp2_with fail
        refine (HVV.out wr (hA.below hB)).mono ?_
        rintro e w1 ⟨rfl,b1⟩
        have hB1:=bstep hB b1
        obtain ⟨b,off,rfl,hb,hc⟩:=hA (by have :=HN.out;omega)
        obtain ⟨c0,c1⟩:=hc k (by have :=HN.out;omega)
        have c0':=(bcell hB1 _ _ hb).trans c0
        have c1':=(bcell hB1 _ _ hb).trans c1
        clear hc c0 c1
        rw [HS.out] at c0' c1'
        have e1:IntKind.i64.wrap (t-f)=t-f:=IntWalk.i64_in _ (by omega)
        have e2:IntKind.i64.wrap (S+(t-f))=S+(t-f):=IntWalk.i64_in _ (by omega)
        go_wp2_with fail
        go_quiet (fail)
        clear e1 e2
        go_wp2_with fail
        go_roundw
        case rel=>exact ⟨k+1,by omega,by go_num,by rw [Spn.take_snoc xs k (0,0) (by have :=HN.out;omega),Spn.sum_snoc,HS.out,HSum.out],below_drewN hB1 _⟩
        case measure=>simp [intOf];omega
      · go_wp2_with fail
        go_ret
        exact ⟨ret_int (by rw [HL.out,List.take_of_length_le (by have :=HN.out;omega)]),hB⟩
  · have hv':Spn.vld xs=false:=by simpa using hv
    have hl:Spn.len xs=0:=by unfold Spn.len;rw [if_neg hv]
    have h0:(0:Int)<n:=by
      rcases Nat.eq_zero_or_pos n with h|h
      · rw [List.eq_nil_of_length_eq_zero (hn.trans h)] at hv';simp [Spn.vld,Spn.okf] at hv'
      · omega
    have h0':0<n:=by omega
    have hV1:=hV w hA
    rw [hv'] at hV1
    have HL:=Lib.hid hl
    clear hn hv hv' hl hV
    go_enter Tryz.func30,Tryz.ntmps30
    go_wp2_with fail
    refine wp_loop_rounds 1 ?_
    rw [rounds_succ]
    go_wp2_with fail
    refine hV1.mono ?_
    rintro e w1 ⟨rfl,b1⟩
    go_wp2_with fail
    go_ret
    exact ⟨ret_int HL.out.symm,b1⟩

end Spw
end Go.Proofs.YtfamcohbnoibaaaGreatDoor
