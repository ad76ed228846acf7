/- The statement NfaStates: its walk. -/
import Derived.Test.YtefcbgnckgapgaaMI
namespace Go.Proofs.Ytefcbgnckgapgaa
open Go.RowKit Go.Lib Go.Op
def RestTo (l : List PIt) (k m : Nat) : Prop:=∀ (i : Nat) (x : PIt),k≤i→i < m→l[i]?=some x→x.no=true∨x.mode=3
theorem RestTo.next {l : List PIt} {k m : Nat} (h : RestTo l k m) {u : PIt} (hu : l[m]?=some u) (h3 : u.no=true∨u.mode=3) : RestTo l k (m+1):=fun i x h1 h2 hx=>by
 by_cases e : i=m
 ·subst e
  rw [hu] at hx
  cases hx
  exact h3
 ·exact h i x h1 (by omega) hx
theorem restTo_all {l : List PIt} {k : Nat} : RestTo l k l.length ↔ ((l.drop k).all fun x=>x.no || decide (x.mode=3))=true:=by
 rw [List.all_eq_true]
 constructor
 ·intro h x hx
  obtain ⟨i,hi⟩:=List.getElem?_of_mem hx
  rw [List.getElem?_drop] at hi
  have:=h (k+i) x (by omega) (List.getElem?_eq_some_iff.1 hi).1 hi
  simpa using this
 ·intro h i x h1 h2 hx
  have:=h x (List.mem_of_getElem? (i:=i - k) (by rw [List.getElem?_drop,show k+(i - k)=i by omega];exact hx))
  simpa using this
set_option maxHeartbeats 8000000 in
set_option maxRecDepth 100000 in
theorem nstates_walk (w : World) {a b : Option Addr} {q c r e : Nat} {p : PQu} (h : QuAt (fun _=>False) w a q c b r e p) (hl : QLn p) :
 Calls Try.prog 4 #[.agg #[.slice a q c,.slice b r e,.int .i64 p.within,.string (strB p.by_),.int .i64 p.pick]] w fun e w'=>e=.returned (.bool true)∧Below w.heap.size w w':=by
 have hb0:=(Below.refl w.heap.size w).alloc (Nat.le_refl _) (.cells #[.slice a q c,.slice b r e,.int .i64 p.within,.string (strB p.by_),.int .i64 p.pick] 25)
 have HX:=hid (Blk.new w #[.slice a q c,.slice b r e,.int .i64 p.within,.string (strB p.by_),.int .i64 p.pick] 25)
 have HB0:=hid hb0
 have HQ:=hid h
 have HL:=hid hl
 have HH:=hid (nhead_calls (w:=w.alloc (.cells #[.slice a q c,.slice b r e,.int .i64 p.within,.string (strB p.by_),.int .i64 p.pick] 25)))
 clear h hl hb0
 go_enter Try.func4,Try.ntmps4
 go_wp2_with fail
 with_reducible refine HH.out.mono ?_
 rintro e1 w1 ⟨rfl,hb1⟩
 have HB1:=hid (HB0.out.trans (hb1.mono HB0.out.size))
 have X1:=hid (HX.out.low hb1)
 have x0:=tcell X1.out (k:=0) rfl
 have x1:=tcell X1.out (k:=1) rfl
 have x2:=tcell X1.out (k:=2) rfl
 have x3:=tcell X1.out (k:=3) rfl
 have x4:=tcell X1.out (k:=4) rfl
 have HG:=hid (great_calls (w:=w1) ⟨HQ.out.1.low HB1.out,HQ.out.2.low HB1.out⟩ HL.out)
 clear hb1 HH HX HB0
 go_wp2_with fail
 with_reducible refine HG.out.mono ?_
 rintro e2 w2 ⟨g,rfl,hsm,hb2⟩
 have HB2:=hid (HB1.out.trans (hb2.mono HB1.out.size))
 have X2:=hid (X1.out.low hb2)
 clear hb2 HG X1 HB1 x0 x1 x2 x3 x4
 cases g with
 | true =>
   clear hsm
   go_wp2
   go_ret
   exact ⟨rfl,HB2.out⟩
 | false =>
 have HS:=hid (hsm rfl)
 clear hsm
 have x0:=tcell X2.out (k:=0) rfl
 have x1:=tcell X2.out (k:=1) rfl
 have x2:=tcell X2.out (k:=2) rfl
 have x3:=tcell X2.out (k:=3) rfl
 have x4:=tcell X2.out (k:=4) rfl
 obtain ⟨z,hz⟩ : ∃ z,rightQ p=z:=⟨_,rfl⟩
 have HZ:=hid hz
 clear hz
 cases z with
 | false =>
   have HC:=hid (ncompile_calls (w:=w2) (p:=p) (K:=fun _=>False) ⟨HQ.out.1.low HB2.out,HQ.out.2.low HB2.out⟩ HS.out.bd)
   go_wp2_with fail
   with_reducible refine HC.out.mono ?_
   rintro e3 w3 ⟨v,rfl,hrow,hb3⟩
   rw [HZ.out,if_neg (by simp)] at hrow
   obtain ⟨va,vc,rfl⟩:=hrow.slice
   have HB3:=hid (HB2.out.trans (hb3.mono HB2.out.size))
   have X3:=hid (X2.out.low hb3)
   have HROW:=hid (hrow.mono (K':=fun _=>False) (fun _ h=>h.elim))
   clear hb3 hrow X2 HC x0 x1 x2 x3 x4
   have x0:=tcell X3.out (k:=0) rfl
   have x1:=tcell X3.out (k:=1) rfl
   have x2:=tcell X3.out (k:=2) rfl
   have x3:=tcell X3.out (k:=3) rfl
   have x4:=tcell X3.out (k:=4) rfl
   have hr:=right_said (fun _=>False) w3 a b q c r e p ⟨HQ.out.1.low HB3.out,HQ.out.2.low HB3.out⟩ HS.out.bd
   rw [HZ.out] at hr
   have HR:=hid hr
   clear hr
   go_wp2_with fail
   with_reducible refine HR.out.mono ?_
   rintro e4 w4 ⟨rfl,hb4⟩
   have HB4:=hid (HB3.out.trans (hb4.mono HB3.out.size))
   have X4:=hid (X3.out.low hb4)
   have HROW4:=hid (HROW.out.low hb4)
   clear hb4 HR HROW X3 HB3 x0 x1 x2 x3 x4
   go_wp2
   go_ret
   exact ⟨rfl,HB4.out⟩
 | true =>
 have HC:=hid (ncompile_calls (w:=w2) (p:=p) (K:=fun _=>False) ⟨HQ.out.1.low HB2.out,HQ.out.2.low HB2.out⟩ HS.out.bd)
 go_wp2_with fail
 with_reducible refine HC.out.mono ?_
 rintro e3 w3 ⟨v,rfl,hrow,hb3⟩
 rw [HZ.out,if_pos rfl] at hrow
 obtain ⟨va,vc,rfl⟩:=hrow.slice
 have HB3:=hid (HB2.out.trans (hb3.mono HB2.out.size))
 have X3:=hid (X2.out.low hb3)
 have HROW:=hid (hrow.mono (K':=fun _=>False) (fun _ h=>h.elim))
 clear hb3 hrow X2 HC x0 x1 x2 x3 x4
 have x0:=tcell X3.out (k:=0) rfl
 have x1:=tcell X3.out (k:=1) rfl
 have x2:=tcell X3.out (k:=2) rfl
 have x3:=tcell X3.out (k:=3) rfl
 have x4:=tcell X3.out (k:=4) rfl
 have hr:=right_said (fun _=>False) w3 a b q c r e p ⟨HQ.out.1.low HB3.out,HQ.out.2.low HB3.out⟩ HS.out.bd
 rw [HZ.out] at hr
 have HR:=hid hr
 clear hr
 go_wp2_with fail
 with_reducible refine HR.out.mono ?_
 rintro e4 w4 ⟨rfl,hb4⟩
 have HB4:=hid (HB3.out.trans (hb4.mono HB3.out.size))
 have X4:=hid (X3.out.low hb4)
 have HROW4:=hid (HROW.out.low hb4)
 clear hb4 HR HROW X3 HB3 x0 x1 x2 x3 x4
 obtain ⟨i0,rr,hi0,hno0,hm0,hlen6⟩:=rightQ_first HZ.out
 have HQL:=hid HQ.out.1.len
 rw [← HQL.out] at hlen6
 clear hi0 hno0 hm0
 have hsl : (stsN p.its).length=q+1:=by rw [stsN_len,HQL.out]
 have HSL:=hid hsl
 rw [hsl] at HROW4 ⊢
 obtain ⟨gs,os,a1,c1,a2,c2,rfl,g0,g1,g2,_,_⟩:=HROW4.out.stateAt (stsN_zero p.its)
 simp only [Nat.zero_mul,Nat.add_zero] at g0 g1 g2
 rw [show st0.nx.length=1 from rfl] at g0
 rw [show st0.gd.length=0 from rfl] at g1
 rw [show st0.fin=false from rfl] at g2
 have x0:=tcell X4.out (k:=0) rfl
 have t0 : ((q : Int)+1 != (q : Int)+1)=false:=by simp
 clear hsl
 go_wp2
 clear x0 g0 g1 g2 t0
 have HB40 : Hid (Below w4.heap.size w4 w4):=Below.refl _ _
 go_loopw [5] (fun i wr=>∃ k : Nat,i=.int .i64 k∧1≤k∧k≤q+1∧Hid (Below w4.heap.size w4 wr)) (fun i _=>q+1 - (RowKit.intOf i).toNat)
 case atStart=>exact ⟨1,rfl,Nat.le_refl _,by omega,HB40⟩
 case round =>
  obtain ⟨k,rfl,hk1,hk2,HB⟩:=hrel
  obtain ⟨wo,rfl⟩ : ∃ wo,wo=wr:=⟨_,rfl⟩
  have HBw:=hid (HB4.out.trans (HB.out.mono HB4.out.size))
  by_cases hkl : k < q+1
  ·obtain ⟨j,hkj⟩ : ∃ j,k=j+1:=⟨k - 1,by omega⟩
   obtain ⟨y,hy⟩ : ∃ y,p.its[j]?=some y:=⟨_,List.getElem?_eq_getElem (by rw [← HQL.out];omega)⟩
   have hsk : (stsN p.its)[k]?=some (stAt p.its j y):=by rw [hkj];exact stsN_at hy
   have hok:=stAt_ok hy
   obtain ⟨s,hs⟩ : ∃ s,stAt p.its j y=s:=⟨_,rfl⟩
   rw [hs] at hsk hok
   obtain ⟨gs',os',sa,sc,sb,sd,eg,s0,s1,s2,hr1,hr2⟩:=(HROW4.out.low HB.out).stateAt hsk
   injection eg with eg
   injection eg with eg1 eg2
   subst eg1 eg2
   have hln : s.nx.length≤10∧s.gd.length≤10:=by
    have h:=behT_len (p.its.drop (j+1)) (j+1) (if y.mode=2 then [j] else []) []
    have h2 : behT (p.its.drop (j+1)) (j+1) (if y.mode=2 then [j] else []) []=s:=hs
    rw [h2,List.length_drop,← HQL.out] at h
    split at h <;> simp at h <;> omega
   have HOK:=hid hok
   have HKJ:=hid hkj
   have HLN:=hid hln
   obtain ⟨n1,hn1⟩ : ∃ n1,s.nx.length=n1:=⟨_,rfl⟩
   obtain ⟨n2,hn2⟩ : ∃ n2,s.gd.length=n2:=⟨_,rfl⟩
   obtain ⟨fb,hfb⟩ : ∃ fb,s.fin=fb:=⟨_,rfl⟩
   have HN1:=hid hn1
   have HN2:=hid hn2
   have HFB:=hid hfb
   rw [hn1] at s0 hln
   rw [hn2] at s1 hln
   rw [hfb] at s2
   have HR1:=hid hr1
   have HR2:=hid hr2
   have HBA:=hid ((Below.refl wo.heap.size wo).alloc (Nat.le_refl _) (.cells #[.slice sa n1 sc,.slice sb n2 sd,.bool fb] 36))
   have HSX:=hid (Blk.new wo #[.slice sa n1 sc,.slice sb n2 sd,.bool fb] 36)
   have fk : decide ((k : Int) < (q : Int)+1)=true:=decide_eq_true (by omega)
   have hw : IntKind.i64.wrap ((k : Int)+1)=((k+1 : Nat) : Int):=by rw [IntWalk.i64_in _ (by omega)];omega
   clear hy hsk hok hs hn1 hn2 hfb hr1 hr2 hkj
   go_wp2
   clear s0 s1 s2 hw
   have HB50 : Hid (Below (wo.alloc (.cells #[.slice sa n1 sc,.slice sb n2 sd,.bool fb] 36)).heap.size (wo.alloc (.cells #[.slice sa n1 sc,.slice sb n2 sd,.bool fb] 36)) (wo.alloc (.cells #[.slice sa n1 sc,.slice sb n2 sd,.bool fb] 36))):=Below.refl _ _
   go_loopw [7] (fun i w5=>∃ m : Nat,i=.int .i64 m∧m≤n1∧Hid (Below (wo.alloc (.cells #[.slice sa n1 sc,.slice sb n2 sd,.bool fb] 36)).heap.size (wo.alloc (.cells #[.slice sa n1 sc,.slice sb n2 sd,.bool fb] 36)) w5)) (fun i _=>n1 - (RowKit.intOf i).toNat)
   case atStart=>exact ⟨0,rfl,Nat.zero_le _,HB50⟩
   case round =>
    clear HB50
    obtain ⟨m,rfl,hm,HB5⟩:=hrel
    have hb5:=HBA.out.trans (HB5.out.mono HBA.out.size)
    have hsx:=HSX.out.low HB5.out
    have z0:=tcell hsx (k:=0) rfl
    have z1:=tcell hsx (k:=1) rfl
    have z2:=tcell hsx (k:=2) rfl
    have x0:=tcell ((X4.out.low HB.out).low hb5) (k:=0) rfl
    by_cases hml : m < n1
    ·obtain ⟨n,hn⟩ : ∃ n,s.nx[m]?=some n:=⟨_,List.getElem?_eq_getElem (by rw [HN1.out];exact hml)⟩
     obtain ⟨gn,on,rfl,hc⟩:=(HR1.out.low hb5).numAt hn
     obtain ⟨k1,k2,k3,k4⟩:=HOK.out.nx m n hn
     rw [← HQL.out] at k2
     obtain ⟨u,hu⟩ : ∃ u,p.its[n]?=some u:=⟨_,List.getElem?_eq_getElem (by rw [← HQL.out];exact k2)⟩
     obtain ⟨k5,k6,k7⟩:=k3 u hu
     rw [HFB.out] at k7
     obtain ⟨g,o,a1,c1,rfl,d0,d1,d2,d3,_⟩:=(HQ.out.1.low (HBw.out.trans (hb5.mono HBw.out.size))).itemAt hu
     have hkj:=HKJ.out
     have f2 : decide ((q : Int)≤(n : Int))=false:=decide_eq_false (by omega)
     have hw1 : IntKind.i64.wrap ((k : Int) - 1)=(j : Int):=by rw [IntWalk.i64_in _ (by omega)];omega
     have hw2 : IntKind.i64.wrap ((m : Int)+1)=((m+1 : Nat) : Int):=by rw [IntWalk.i64_in _ (by omega)];omega
     have HIT:=hid (rightQ_item HZ.out (List.mem_of_getElem? hu))
     clear hkj hn hu
     have f0 : 0 < m→∃ v : Nat,wr.cell? ⟨gn,on+(m - 1),none⟩=some (.int .i64 (v : Int))∧v < n∧IntKind.i64.wrap ((m : Int) - 1)=((m - 1 : Nat) : Int)∧(0 : Int)≤((m - 1 : Nat) : Int)∧((m - 1 : Nat) : Int) < (n1 : Int):=fun h0=>by
      obtain ⟨v,hv⟩ : ∃ v,s.nx[m - 1]?=some v:=⟨_,List.getElem?_eq_getElem (by rw [HN1.out];omega)⟩
      have hlt:=k4 v h0 hv
      obtain ⟨g7,o7,eg,hc7⟩:=(HR1.out.low hb5).numAt hv
      injection eg with eg
      injection eg with eg1 eg2
      subst eg1 eg2
      exact ⟨v,hc7,hlt,by rw [IntWalk.i64_in _ (by omega)];omega,by omega,by omega⟩
     clear k4 k3
     by_cases h0 : 0 < m
     ·obtain ⟨v,v1,v2,v3,v4⟩:=f0 h0
      have g0 : decide (0 < (m : Int))=true:=decide_eq_true (by omega)
      by_cases hnj : n=j
      ·have e1 : ((n : Int) == (j : Int))=true:=beq_iff_eq.2 (by omega)
       have e2 : ((n : Int) != (j : Int))=false:=by rw [bne,e1];rfl
       have hno : u.no=false:=by
        cases h : u.no with
        | false=>rfl
        | true=>exact absurd (HIT.out.2.2.1 h) (by have:=k6 hnj;omega)
       rw [hno] at d0
       rw [k6 hnj] at d3
       clear f0 k5 k6 k7 hnj hno
       cases fb
       all_goals
        as_aux_lemma =>
         go_wp2
         exact ⟨⟨m+1,rfl,hml,HB5⟩,by simp [RowKit.intOf];omega⟩
      ·have e1 : ((n : Int) == (j : Int))=false:=beq_eq_false_iff_ne.2 (by omega)
       have e2 : ((n : Int) != (j : Int))=true:=by rw [bne,e1];rfl
       have hno : u.no=false:=by
        cases h : u.no with
        | false=>rfl
        | true=>exact absurd (k5 h) hnj
       rw [hno] at d0
       cases fb with
       | true =>
         rw [k7 rfl hnj] at d3
         clear f0 k5 k6 k7 hnj hno
         as_aux_lemma =>
          go_wp2
          exact ⟨⟨m+1,rfl,hml,HB5⟩,by simp [RowKit.intOf];omega⟩
       | false =>
         clear f0 k5 k6 k7 hnj hno
         as_aux_lemma =>
          go_wp2
          exact ⟨⟨m+1,rfl,hml,HB5⟩,by simp [RowKit.intOf];omega⟩
     ·have u0:=trivial
      have g0 : decide (0 < (m : Int))=false:=decide_eq_false (by omega)
      by_cases hnj : n=j
      ·have e1 : ((n : Int) == (j : Int))=true:=beq_iff_eq.2 (by omega)
       have e2 : ((n : Int) != (j : Int))=false:=by rw [bne,e1];rfl
       have hno : u.no=false:=by
        cases h : u.no with
        | false=>rfl
        | true=>exact absurd (HIT.out.2.2.1 h) (by have:=k6 hnj;omega)
       rw [hno] at d0
       rw [k6 hnj] at d3
       clear f0 k5 k6 k7 hnj hno
       cases fb
       all_goals
        as_aux_lemma =>
         go_wp2
         exact ⟨⟨m+1,rfl,hml,HB5⟩,by simp [RowKit.intOf];omega⟩
      ·have e1 : ((n : Int) == (j : Int))=false:=beq_eq_false_iff_ne.2 (by omega)
       have e2 : ((n : Int) != (j : Int))=true:=by rw [bne,e1];rfl
       have hno : u.no=false:=by
        cases h : u.no with
        | false=>rfl
        | true=>exact absurd (k5 h) hnj
       rw [hno] at d0
       cases fb with
       | true =>
         rw [k7 rfl hnj] at d3
         clear f0 k5 k6 k7 hnj hno
         as_aux_lemma =>
          go_wp2
          exact ⟨⟨m+1,rfl,hml,HB5⟩,by simp [RowKit.intOf];omega⟩
       | false =>
         clear f0 k5 k6 k7 hnj hno
         as_aux_lemma =>
          go_wp2
          exact ⟨⟨m+1,rfl,hml,HB5⟩,by simp [RowKit.intOf];omega⟩
    ·clear x0 z1 z2
     as_aux_lemma =>
      go_wp2
      clear z0
      go_loopw [9] (fun i w5=>∃ m : Nat,i=.int .i64 m∧m≤n2∧Hid (Below (wo.alloc (.cells #[.slice sa n1 sc,.slice sb n2 sd,.bool fb] 36)).heap.size (wo.alloc (.cells #[.slice sa n1 sc,.slice sb n2 sd,.bool fb] 36)) w5)) (fun i _=>n2 - (RowKit.intOf i).toNat)
      case atStart=>exact ⟨0,rfl,Nat.zero_le _,HB5⟩
      case round =>
       clear HB5 hb5 hsx hml hm
       obtain ⟨m,rfl,hm,HB5⟩:=hrel
       have hb5:=HBA.out.trans (HB5.out.mono HBA.out.size)
       have hsx:=HSX.out.low HB5.out
       have z1:=tcell hsx (k:=1) rfl
       have z2:=tcell hsx (k:=2) rfl
       have x0:=tcell ((X4.out.low HB.out).low hb5) (k:=0) rfl
       by_cases hml : m < n2
       ·obtain ⟨n,hn⟩ : ∃ n,s.gd[m]?=some n:=⟨_,List.getElem?_eq_getElem (by rw [HN2.out];exact hml)⟩
        obtain ⟨gn,on,rfl,hc⟩:=(HR2.out.low hb5).numAt hn
        obtain ⟨k1,k2,k3,k4⟩:=HOK.out.gd m n hn
        rw [← HQL.out] at k2
        obtain ⟨u,hu⟩ : ∃ u,p.its[n]?=some u:=⟨_,List.getElem?_eq_getElem (by rw [← HQL.out];exact k2)⟩
        have k5:=k3 u hu
        obtain ⟨g,o,a1,c1,rfl,d0,d1,d2,d3,_⟩:=(HQ.out.1.low (HBw.out.trans (hb5.mono HBw.out.size))).itemAt hu
        rw [k5] at d0
        have hkj:=HKJ.out
        have k9 : k≤n:=by omega
        have f2 : decide ((q : Int)≤(n : Int))=false:=decide_eq_false (by omega)
        have hw2 : IntKind.i64.wrap ((m : Int)+1)=((m+1 : Nat) : Int):=by rw [IntWalk.i64_in _ (by omega)];omega
        clear hkj hn hu
        have f0 : 0 < m→∃ v : Nat,wr.cell? ⟨gn,on+(m - 1),none⟩=some (.int .i64 (v : Int))∧v < n∧IntKind.i64.wrap ((m : Int) - 1)=((m - 1 : Nat) : Int)∧(0 : Int)≤((m - 1 : Nat) : Int)∧((m - 1 : Nat) : Int) < (n2 : Int):=fun h0=>by
         obtain ⟨v,hv⟩ : ∃ v,s.gd[m - 1]?=some v:=⟨_,List.getElem?_eq_getElem (by rw [HN2.out];omega)⟩
         have hlt:=k4 v h0 hv
         obtain ⟨g7,o7,eg,hc7⟩:=(HR2.out.low hb5).numAt hv
         injection eg with eg
         injection eg with eg1 eg2
         subst eg1 eg2
         exact ⟨v,hc7,hlt,by rw [IntWalk.i64_in _ (by omega)];omega,by omega,by omega⟩
        clear k4 k3 k5 k1
        by_cases h0 : 0 < m
        ·obtain ⟨v,v1,v2,v3,v4⟩:=f0 h0
         have g0 : decide (0 < (m : Int))=true:=decide_eq_true (by omega)
         clear f0
         as_aux_lemma =>
          go_wp2
          exact ⟨⟨m+1,rfl,hml,HB5⟩,by simp [RowKit.intOf];omega⟩
        ·have g0 : decide (0 < (m : Int))=false:=decide_eq_false (by omega)
         clear f0
         as_aux_lemma =>
          go_wp2
          exact ⟨⟨m+1,rfl,hml,HB5⟩,by simp [RowKit.intOf];omega⟩
       ·clear z2 x0
        as_aux_lemma =>
         go_wp2
         clear z1
         go_loopw [11,12] (fun t i w5=>∃ (m : Nat) (rb : Bool),t=.bool rb∧i=.int .i64 m∧k≤m∧m≤q∧Hid (rb=true ↔ RestTo p.its k m)∧Hid (Below (wo.alloc (.cells #[.slice sa n1 sc,.slice sb n2 sd,.bool fb] 36)).heap.size (wo.alloc (.cells #[.slice sa n1 sc,.slice sb n2 sd,.bool fb] 36)) w5)) (fun _ i _=>q - (RowKit.intOf i).toNat)
         case atStart=>exact ⟨k,true,rfl,rfl,Nat.le_refl _,by omega,(by
          show _ ↔ _
          exact ⟨fun _ i x h1 h2=>by omega,fun _=>rfl⟩),HB5⟩
         case round =>
          clear HB5 hb5 hsx hml hm
          obtain ⟨m,rb,rfl,rfl,hkm,hm,HRT,HB5⟩:=hrel
          have hb5:=HBA.out.trans (HB5.out.mono HBA.out.size)
          have x0:=tcell ((X4.out.low HB.out).low hb5) (k:=0) rfl
          by_cases hml : m < q
          ·obtain ⟨u,hu⟩ : ∃ u,p.its[m]?=some u:=⟨_,List.getElem?_eq_getElem (by rw [← HQL.out];exact hml)⟩
           obtain ⟨g,o,a1,c1,rfl,d0,d1,d2,d3,_⟩:=(HQ.out.1.low (HBw.out.trans (hb5.mono HBw.out.size))).itemAt hu
           have hw2 : IntKind.i64.wrap ((m : Int)+1)=((m+1 : Nat) : Int):=by rw [IntWalk.i64_in _ (by omega)];omega
           have HU:=hid hu
           clear hu
           cases rb with
           | false =>
             have HRT2 : Hid (false=true ↔ RestTo p.its k (m+1)):=by
              show _ ↔ _
              exact ⟨(fun e=>by cases e),fun e=>HRT.out.2 (fun i x h1 h2 h3=>e i x h1 (by omega) h3)⟩
             clear d0 d1 d2 d3
             as_aux_lemma =>
              go_wp2
              exact ⟨⟨m+1,false,rfl,rfl,by omega,hml,HRT2,HB5⟩,by simp [RowKit.intOf];omega⟩
           | true =>
             have hrt:=HRT.out.1 rfl
             cases hno : u.no with
             | true =>
               have HRT2 : Hid (true=true ↔ RestTo p.its k (m+1)):=by
                show _ ↔ _
                exact ⟨fun _=>hrt.next HU.out (.inl hno),fun _=>rfl⟩
               rw [hno] at d0
               clear hrt hno
               as_aux_lemma =>
                go_wp2
                exact ⟨⟨m+1,true,rfl,rfl,by omega,hml,HRT2,HB5⟩,by simp [RowKit.intOf];omega⟩
             | false =>
               rw [hno] at d0
               by_cases h3 : u.mode=3
               ·have HRT2 : Hid (true=true ↔ RestTo p.its k (m+1)):=by
                 show _ ↔ _
                 exact ⟨fun _=>hrt.next HU.out (.inr h3),fun _=>rfl⟩
                have t3 : (u.mode == 3)=true:=beq_iff_eq.2 h3
                clear hrt hno h3
                as_aux_lemma =>
                 go_wp2
                 exact ⟨⟨m+1,true,rfl,rfl,by omega,hml,HRT2,HB5⟩,by simp [RowKit.intOf];omega⟩
               ·have HRT2 : Hid (false=true ↔ RestTo p.its k (m+1)):=by
                 show _ ↔ _
                 exact ⟨(fun e=>by cases e),fun e=>by
                  rcases e m u hkm (by omega) HU.out with h|h
                  ·rw [hno] at h
                   cases h
                  ·exact absurd h h3⟩
                have t3 : (u.mode == 3)=false:=beq_eq_false_iff_ne.2 h3
                clear hrt hno h3
                as_aux_lemma =>
                 go_wp2
                 exact ⟨⟨m+1,false,rfl,rfl,by omega,hml,HRT2,HB5⟩,by simp [RowKit.intOf];omega⟩
          ·have hmq : m=q:=by omega
           have hfin : fb=rb:=by
            rw [← HFB.out,HOK.out.fin,Bool.eq_iff_iff,HRT.out,hmq,HQL.out,HKJ.out]
            exact restTo_all.symm
           subst hfin
           have hsx:=HSX.out.low HB5.out
           have z2:=tcell hsx (k:=2) rfl
           have t4 : (fb != fb)=false:=by cases fb <;> rfl
           have hw : IntKind.i64.wrap ((k : Int)+1)=((k+1 : Nat) : Int):=by rw [IntWalk.i64_in _ (by omega)];omega
           have HBZ:=hid (HB.out.trans (hb5.mono HB.out.size))
           clear hmq hsx
           as_aux_lemma =>
            go_wp2
            exact ⟨⟨k+1,rfl,by omega,by omega,HBZ⟩,by simp [RowKit.intOf];omega⟩
  ·go_wp2
   go_ret
   exact ⟨rfl,HBw.out⟩
end Go.Proofs.Ytefcbgnckgapgaa
