/- Texts that others want. -/
import Derived.Test.YtkmlfkbpcgkpaaaGreatDoorM6
import Derived.Test.YtkmlfkbpcgkpaaaGreatDoorME
import Derived.Test.YtkmlfkbpcgkpaaaGreatDoorMF
import Derived.Test.YtkmlfkbpcgkpaaaGreatDoorMJ
namespace Go.Proofs.YtkmlfkbpcgkpaaaGreatDoor
open Go.RowKit Go.Lib Go.Op
set_option maxHeartbeats 8000000
set_option maxRecDepth 100000
theorem zbD : RightSaid:=by
 intro K w a b q c r d p h hqb
 obtain ⟨its,prs,wi,by_,pk⟩:=p
 have HI0:=hid (show RowK itemD K w (.slice a q c) its from h.1)
 have HP0:=hid (show RowK predD K w (.slice b r d) prs from h.2)
 have HQ:=hid (show its.length=q from h.1.len.symm)
 have HRr:=hid (show prs.length=r from h.2.len.symm)
 have HQB:=hid hqb
 obtain ⟨z,hz⟩ : ∃ z,rightQ ⟨its,prs,wi,by_,pk⟩=z:=⟨_,rfl⟩
 rw [hz]
 have HZ:=hid hz
 dsimp only
 have HB0:=hid ((Below.refl w.heap.size w).alloc (Nat.le_refl _) (.cells #[.slice a q c,.slice b r d,.int .i64 wi,.string (strB by_),.int .i64 pk] 26))
 have M0:=hid (tnew w #[.slice a q c,.slice b r d,.int .i64 wi,.string (strB by_),.int .i64 pk] 26 0 rfl)
 have M1:=hid (tnew w #[.slice a q c,.slice b r d,.int .i64 wi,.string (strB by_),.int .i64 pk] 26 1 rfl)
 have M2:=hid (tnew w #[.slice a q c,.slice b r d,.int .i64 wi,.string (strB by_),.int .i64 pk] 26 2 rfl)
 have M3:=hid (tnew w #[.slice a q c,.slice b r d,.int .i64 wi,.string (strB by_),.int .i64 pk] 26 3 rfl)
 have M4:=hid (tnew w #[.slice a q c,.slice b r d,.int .i64 wi,.string (strB by_),.int .i64 pk] 26 4 rfl)
 clear h hqb hz
 by_cases e1 : q < 1
 ·have t1 : decide ((q : Int) < 1)=true:=by rw [decide_eq_true_eq];omega
  have t1n : decide (q < 1)=true:=by rw [decide_eq_true_eq];omega
  have hz0 : z=false:=by
   rw [← HZ.out]
   unfold rightQ
   dsimp only
   rw [show rightIs its=false from Bool.eq_false_iff.2 (fun ht=>by have h1:=((za1 its).1 ht).1;rw [HQ.out] at h1;omega)]
   rfl
  subst hz0
  go_enter Tryz.func20,Tryz.ntmps20
  go_wp2
  go_ret
  exact ⟨rfl,HB0.out⟩
 by_cases e2 : 6 < q
 ·have t1 : decide ((q : Int) < 1)=false:=by rw [decide_eq_false_iff_not];omega
  have t1n : decide (q < 1)=false:=by rw [decide_eq_false_iff_not];omega
  have t2 : decide (6 < (q : Int))=true:=by rw [decide_eq_true_eq];omega
  have t2n : decide (6 < q)=true:=by rw [decide_eq_true_eq];omega
  have hz0 : z=false:=by
   rw [← HZ.out]
   unfold rightQ
   dsimp only
   rw [show rightIs its=false from Bool.eq_false_iff.2 (fun ht=>by have h1:=((za1 its).1 ht).1;rw [HQ.out] at h1;omega)]
   rfl
  subst hz0
  go_enter Tryz.func20,Tryz.ntmps20
  go_wp2
  go_ret
  exact ⟨rfl,HB0.out⟩
 by_cases e3 : 8 < r
 ·have t1 : decide ((q : Int) < 1)=false:=by rw [decide_eq_false_iff_not];omega
  have t1n : decide (q < 1)=false:=by rw [decide_eq_false_iff_not];omega
  have t2 : decide (6 < (q : Int))=false:=by rw [decide_eq_false_iff_not];omega
  have t2n : decide (6 < q)=false:=by rw [decide_eq_false_iff_not];omega
  have t3 : decide (8 < (r : Int))=true:=by rw [decide_eq_true_eq];omega
  have t3n : decide (8 < r)=true:=by rw [decide_eq_true_eq];omega
  have hz0 : z=false:=by
   rw [← HZ.out]
   unfold rightQ
   dsimp only
   rw [show (decide (prs.length≤8) && (prs.all rightP && (decide (0≤wi∧wi≤1099511627776) && ((decide (by_=[]) || nameB by_) && decide (1≤pk∧pk≤3)))))=false from by rw [show decide (prs.length≤8)=false from decide_eq_false (by rw [HRr.out];omega)];rfl,Bool.and_false]
  subst hz0
  go_enter Tryz.func20,Tryz.ntmps20
  go_wp2
  go_ret
  exact ⟨rfl,HB0.out⟩
 have t1 : decide ((q : Int) < 1)=false:=by rw [decide_eq_false_iff_not];omega
 have t1n : decide (q < 1)=false:=by rw [decide_eq_false_iff_not];omega
 have t2 : decide (6 < (q : Int))=false:=by rw [decide_eq_false_iff_not];omega
 have t2n : decide (6 < q)=false:=by rw [decide_eq_false_iff_not];omega
 have t3 : decide (8 < (r : Int))=false:=by rw [decide_eq_false_iff_not];omega
 have t3n : decide (8 < r)=false:=by rw [decide_eq_false_iff_not];omega
 go_enter Tryz.func20,Tryz.ntmps20
 go_wp2
 clear t1 t1n t2 t2n t3 t3n
 go_loopw [3,4] (fun i _ wr=>∃ j : Nat,i=.int .i64 j∧j≤q∧Hid (∀ (k : Nat) (u : PIt),k < j→its[k]?=some u→dItemR u (decide (k=0))=true∧∀ (l : Nat) (v : PIt),l < k→its[l]?=some v→v.x≠u.x)∧Hid (Below (w.alloc (.cells #[.slice a q c,.slice b r d,.int .i64 wi,.string (strB by_),.int .i64 pk] 26)).heap.size (w.alloc (.cells #[.slice a q c,.slice b r d,.int .i64 wi,.string (strB by_),.int .i64 pk] 26)) wr)) (fun i _ _=>q - (RowKit.intOf i).toNat)
 case atStart=>exact ⟨0,rfl,Nat.zero_le _,hid (fun k u hk=>absurd hk (Nat.not_lt_zero _)),hid (Below.refl _ _)⟩
 case round =>
  obtain ⟨j,rfl,hj,HU,HA⟩:=hrel
  have HBW:=hid (HB0.out.trans (HA.out.mono HB0.out.size))
  have m0:=zaa HA.out M0.out
  have m1:=zaa HA.out M1.out
  have m2:=zaa HA.out M2.out
  have m3:=zaa HA.out M3.out
  have m4:=zaa HA.out M4.out
  by_cases hlt : j < q
  ·obtain ⟨y,hy⟩ : ∃ y,its[j]?=some y:=⟨_,List.getElem?_eq_getElem (by rw [HQ.out];exact hlt)⟩
   have hr:=HI0.out.low HBW.out
   obtain ⟨g,o,a',c',rfl,k0,k1,k2,k3,hrow⟩:=hr.itemAt hy
   obtain ⟨fb,hfb⟩ : ∃ fb,((j : Int) == 0)=fb:=⟨_,rfl⟩
   have hfb2 : decide (j=0)=fb:=by
    rw [← hfb]
    by_cases h0 : j=0
    ·subst h0;rfl
    ·rw [decide_eq_false h0];exact (beq_eq_false_iff_ne.2 (by omega)).symm
   have hib:=HQB.out.1 y (List.mem_of_getElem? hy)
   have hrc:=zeW (no:=y.no) (x:=y.x) (md:=y.mode) hrow hib.1 hib.2.1 hib.2.2 fb
   obtain ⟨nn,hnn⟩ : ∃ nn,y.ns.length=nn:=⟨_,rfl⟩
   obtain ⟨t,ht⟩ : ∃ t,dItemR ⟨y.no,y.ns,y.x,y.mode⟩ fb=t:=⟨_,rfl⟩
   have hye : dItemR y (decide (j=0))=t:=by rw [hfb2];exact ht
   rw [hnn] at k1
   rw [hnn,ht] at hrc
   have HRC:=hid hrc
   have HY:=hid hy
   have HYE:=hid hye
   clear hr hrow hib hrc hnn ht hye hfb2
   cases t with
   | false =>
     have hz0 : z=false:=by
      rw [← HZ.out]
      unfold rightQ
      dsimp only
      rw [show rightIs its=false from Bool.eq_false_iff.2 (fun ht=>by have h1:=(((za1 its).1 ht).2 j y HY.out).1;rw [HYE.out] at h1;cases h1)]
      rfl
     subst hz0
     clear hy
     go_wp2_with fail
     with_reducible refine HRC.out.mono ?_
     rintro e w2 ⟨rfl,hb2⟩
     have HB2:=hid (HBW.out.trans (hb2.mono HBW.out.size))
     clear hb2
     go_wp2
     go_ret
     exact ⟨rfl,HB2.out⟩
   | true =>
     clear hy
     go_wp2_with fail
     with_reducible refine HRC.out.mono ?_
     rintro e w2 ⟨rfl,hb2⟩
     have HA2:=hid (HA.out.trans (hb2.mono HA.out.size))
     have HBW2:=hid (HBW.out.trans (hb2.mono HBW.out.size))
     clear hb2 k0 k1 k2 k3 m0 m1 m2 m3 m4 HA HBW HRC hfb
     go_wp2
     go_loopw [4] (fun i wr=>∃ k : Nat,i=.int .i64 k∧k≤j∧Hid (∀ (l : Nat) (v : PIt),l < k→its[l]?=some v→v.x≠y.x)∧Hid (Below w2.heap.size w2 wr)) (fun i _=>j - (RowKit.intOf i).toNat)
     case atStart=>exact ⟨0,rfl,Nat.zero_le _,hid (fun l v hl=>absurd hl (Nat.not_lt_zero _)),hid (Below.refl _ _)⟩
     case round =>
      obtain ⟨k,rfl,hk,HD,HB⟩:=hrel
      have HA:=hid (HA2.out.trans (HB.out.mono HA2.out.size))
      have HBW:=hid (HBW2.out.trans (HB.out.mono HBW2.out.size))
      have hr:=HI0.out.low HBW.out
      have m0:=zaa HA.out M0.out
      have m1:=zaa HA.out M1.out
      have m2:=zaa HA.out M2.out
      have m3:=zaa HA.out M3.out
      have m4:=zaa HA.out M4.out
      by_cases hkl : k < j
      ·obtain ⟨u,hu⟩ : ∃ u,its[k]?=some u:=⟨_,List.getElem?_eq_getElem (by rw [HQ.out];omega)⟩
       have hkq : k < q:=by omega
       obtain ⟨g1,o1,_,_,eg,_,_,hcu,_,_⟩:=hr.itemAt hu
       injection eg with eg
       injection eg with eg1 eg2
       subst eg1 eg2
       obtain ⟨g2,o2,_,_,eg,_,_,hcy,_,_⟩:=hr.itemAt HY.out
       injection eg with eg
       injection eg with eg1 eg2
       subst eg1 eg2
       have hw : IntKind.i64.wrap ((k : Int)+1)=((k+1 : Nat) : Int):=by rw [IntWalk.i64_in _ (by omega)];omega
       by_cases heq : u.x=y.x
       ·have hne : ((strB u.x).toList == (strB y.x).toList)=true:=by rw [zao,zao,beq_iff_eq];exact heq
        have hz0 : z=false:=by
         rw [← HZ.out]
         unfold rightQ
         dsimp only
         rw [show rightIs its=false from Bool.eq_false_iff.2 (fun ht=>(((za1 its).1 ht).2 j y HY.out).2 k u hkl hu heq)]
         rfl
        subst hz0
        clear hr hu heq
        go_wp2_with fail
        go_quiet (fail)
        have HB9:=hid (below_drewN HBW.out nq)
        go_wp2
        go_ret
        exact ⟨rfl,HB9.out⟩
       ·have hne : ((strB u.x).toList == (strB y.x).toList)=false:=by rw [zao,zao,beq_eq_false_iff_ne];exact heq
        have HD2 : Hid (∀ (l : Nat) (v : PIt),l < k+1→its[l]?=some v→v.x≠y.x):=hid (fun l v hl hv=>by
         by_cases hlk : l < k
         ·exact HD.out l v hlk hv
         ·obtain rfl : l=k:=by omega
          rw [hu] at hv
          injection hv with hv
          subst hv
          exact heq)
        clear hr hu heq
        go_wp2_with fail
        go_quiet (fail)
        have HB9:=hid (below_drewN HB.out nq)
        go_wp2
        exact ⟨⟨k+1,rfl,hkl,HD2,HB9⟩,by simp [RowKit.intOf];omega⟩
      ·have hkj : k=j:=by omega
       subst hkj
       have HU2 : Hid (∀ (l : Nat) (u : PIt),l < k+1→its[l]?=some u→dItemR u (decide (l=0))=true∧∀ (l' : Nat) (v : PIt),l' < l→its[l']?=some v→v.x≠u.x):=hid (fun l u hl hu=>by
        by_cases hlk : l < k
        ·exact HU.out l u hlk hu
        ·obtain rfl : l=k:=by omega
         rw [HY.out] at hu
         injection hu with hu
         subst hu
         exact ⟨HYE.out,HD.out⟩)
       have hw : IntKind.i64.wrap ((k : Int)+1)=((k+1 : Nat) : Int):=by rw [IntWalk.i64_in _ (by omega)];omega
       clear hr hkl
       go_wp2
       exact ⟨⟨k+1,rfl,hlt,HU2,HA⟩,by simp [RowKit.intOf];omega⟩
  ·have hjq : q=j:=by omega
   subst hjq
   have HRI : Hid (rightIs its=true):=hid ((za1 its).2 ⟨by rw [HQ.out];omega,fun k u hu=>HU.out k u (by rw [← HQ.out];exact (List.getElem?_eq_some_iff.1 hu).1) hu⟩)
   clear HU hlt
   have HA0:=HA
   go_wp2
   clear m0 m1 m2 m3 m4 HA HBW
   go_loopw [5,6] (fun i _ wr=>∃ j : Nat,i=.int .i64 j∧j≤r∧Hid (∀ (k : Nat) (u : PPr),k < j→prs[k]?=some u→rightP u=true)∧Hid (Below (w.alloc (.cells #[.slice a q c,.slice b r d,.int .i64 wi,.string (strB by_),.int .i64 pk] 26)).heap.size (w.alloc (.cells #[.slice a q c,.slice b r d,.int .i64 wi,.string (strB by_),.int .i64 pk] 26)) wr)) (fun i _ _=>r - (RowKit.intOf i).toNat)
   case atStart=>exact ⟨0,rfl,Nat.zero_le _,hid (fun k u hk=>absurd hk (Nat.not_lt_zero _)),HA0⟩
   case round =>
    clear HA0
    obtain ⟨j,rfl,hj,HU,HA⟩:=hrel
    have HBW:=hid (HB0.out.trans (HA.out.mono HB0.out.size))
    have m0:=zaa HA.out M0.out
    have m1:=zaa HA.out M1.out
    have m2:=zaa HA.out M2.out
    have m3:=zaa HA.out M3.out
    have m4:=zaa HA.out M4.out
    by_cases hlt : j < r
    ·obtain ⟨y,hy⟩ : ∃ y,prs[j]?=some y:=⟨_,List.getElem?_eq_getElem (by rw [HRr.out];exact hlt)⟩
     have hr:=HP0.out.low HBW.out
     obtain ⟨g,o,a1,q1,c1,b1,r1,d1,ee,rfl,hcell,hq1,hr1,hx1,hx2⟩:=hr.predAt hy
     have hpb:=HQB.out.2.1 y (List.mem_of_getElem? hy)
     have hbp:=(Below.refl wr.heap.size wr).alloc (Nat.le_refl _) (.cells #[.int .i64 y.cmp,.int .i64 y.l.k,.int .i64 y.l.v.k,.int .i64 y.l.v.n,.string (strB y.l.v.s),.string (strB y.l.x),.string (strB y.l.f),.slice a1 q1 c1,.int .i64 y.r.k,.int .i64 y.r.v.k,.int .i64 y.r.v.n,.string (strB y.r.v.s),.string (strB y.r.x),.string (strB y.r.f),.slice b1 r1 d1] 91)
     have i1:=zbY 6 (by omega) y.l hpb.1 (wr.alloc (.cells #[.int .i64 y.cmp,.int .i64 y.l.k,.int .i64 y.l.v.k,.int .i64 y.l.v.n,.string (strB y.l.v.s),.string (strB y.l.x),.string (strB y.l.f),.slice a1 q1 c1,.int .i64 y.r.k,.int .i64 y.r.v.k,.int .i64 y.r.v.n,.string (strB y.r.v.s),.string (strB y.r.x),.string (strB y.r.f),.slice b1 r1 d1] 91)) ee a1 c1 (hx1.keep (TFr.of_below hbp))
     have i2:=fun W (hW : Below wr.heap.size wr W)=>zbY 6 (by omega) y.r hpb.2 W ee b1 d1 (hx2.keep (TFr.of_below hW))
     rw [← hq1] at i1
     rw [← hr1] at i2
     obtain ⟨t1,ht1⟩ : ∃ t,rightX 6 y.l=t:=⟨_,rfl⟩
     obtain ⟨t2,ht2⟩ : ∃ t,rightX 6 y.r=t:=⟨_,rfl⟩
     rw [ht1] at i1
     rw [ht2] at i2
     have I1 : Hid (Calls Tryz.prog 50 #[.agg #[.int .i64 y.l.k,.int .i64 y.l.v.k,.int .i64 y.l.v.n,.string (strB y.l.v.s),.string (strB y.l.x),.string (strB y.l.f),.slice a1 q1 c1],.int .i64 6] (wr.alloc (.cells #[.int .i64 y.cmp,.int .i64 y.l.k,.int .i64 y.l.v.k,.int .i64 y.l.v.n,.string (strB y.l.v.s),.string (strB y.l.x),.string (strB y.l.f),.slice a1 q1 c1,.int .i64 y.r.k,.int .i64 y.r.v.k,.int .i64 y.r.v.n,.string (strB y.r.v.s),.string (strB y.r.x),.string (strB y.r.f),.slice b1 r1 d1] 91)) fun e w'=>e=.returned (.bool t1)∧Below (wr.alloc (.cells #[.int .i64 y.cmp,.int .i64 y.l.k,.int .i64 y.l.v.k,.int .i64 y.l.v.n,.string (strB y.l.v.s),.string (strB y.l.x),.string (strB y.l.f),.slice a1 q1 c1,.int .i64 y.r.k,.int .i64 y.r.v.k,.int .i64 y.r.v.n,.string (strB y.r.v.s),.string (strB y.r.x),.string (strB y.r.f),.slice b1 r1 d1] 91)).heap.size (wr.alloc (.cells #[.int .i64 y.cmp,.int .i64 y.l.k,.int .i64 y.l.v.k,.int .i64 y.l.v.n,.string (strB y.l.v.s),.string (strB y.l.x),.string (strB y.l.f),.slice a1 q1 c1,.int .i64 y.r.k,.int .i64 y.r.v.k,.int .i64 y.r.v.n,.string (strB y.r.v.s),.string (strB y.r.x),.string (strB y.r.f),.slice b1 r1 d1] 91)) w'):=hid i1
     have I2 : Hid (∀ W,Below wr.heap.size wr W→Calls Tryz.prog 50 #[.agg #[.int .i64 y.r.k,.int .i64 y.r.v.k,.int .i64 y.r.v.n,.string (strB y.r.v.s),.string (strB y.r.x),.string (strB y.r.f),.slice b1 r1 d1],.int .i64 6] W fun e w'=>e=.returned (.bool t2)∧Below W.heap.size W w'):=hid i2
     have HT:=hid (And.intro ht1 ht2)
     have HBP:=hid hbp
     have HY:=hid hy
     have k0:=hcell 0 _ rfl
     have k1:=hcell 1 _ rfl
     have k2:=hcell 2 _ rfl
     have k3:=hcell 3 _ rfl
     have k4:=hcell 4 _ rfl
     have k5:=hcell 5 _ rfl
     have k6:=hcell 6 _ rfl
     have k7:=hcell 7 _ rfl
     have k8:=hcell 8 _ rfl
     have k9:=hcell 9 _ rfl
     have k10:=hcell 10 _ rfl
     have k11:=hcell 11 _ rfl
     have k12:=hcell 12 _ rfl
     have k13:=hcell 13 _ rfl
     have k14:=hcell 14 _ rfl
     rw [Nat.add_zero] at k0
     have P8:=hid (tnew wr #[.int .i64 y.cmp,.int .i64 y.l.k,.int .i64 y.l.v.k,.int .i64 y.l.v.n,.string (strB y.l.v.s),.string (strB y.l.x),.string (strB y.l.f),.slice a1 q1 c1,.int .i64 y.r.k,.int .i64 y.r.v.k,.int .i64 y.r.v.n,.string (strB y.r.v.s),.string (strB y.r.x),.string (strB y.r.f),.slice b1 r1 d1] 91 8 rfl)
     have P9:=hid (tnew wr #[.int .i64 y.cmp,.int .i64 y.l.k,.int .i64 y.l.v.k,.int .i64 y.l.v.n,.string (strB y.l.v.s),.string (strB y.l.x),.string (strB y.l.f),.slice a1 q1 c1,.int .i64 y.r.k,.int .i64 y.r.v.k,.int .i64 y.r.v.n,.string (strB y.r.v.s),.string (strB y.r.x),.string (strB y.r.f),.slice b1 r1 d1] 91 9 rfl)
     have P10:=hid (tnew wr #[.int .i64 y.cmp,.int .i64 y.l.k,.int .i64 y.l.v.k,.int .i64 y.l.v.n,.string (strB y.l.v.s),.string (strB y.l.x),.string (strB y.l.f),.slice a1 q1 c1,.int .i64 y.r.k,.int .i64 y.r.v.k,.int .i64 y.r.v.n,.string (strB y.r.v.s),.string (strB y.r.x),.string (strB y.r.f),.slice b1 r1 d1] 91 10 rfl)
     have P11:=hid (tnew wr #[.int .i64 y.cmp,.int .i64 y.l.k,.int .i64 y.l.v.k,.int .i64 y.l.v.n,.string (strB y.l.v.s),.string (strB y.l.x),.string (strB y.l.f),.slice a1 q1 c1,.int .i64 y.r.k,.int .i64 y.r.v.k,.int .i64 y.r.v.n,.string (strB y.r.v.s),.string (strB y.r.x),.string (strB y.r.f),.slice b1 r1 d1] 91 11 rfl)
     have P12:=hid (tnew wr #[.int .i64 y.cmp,.int .i64 y.l.k,.int .i64 y.l.v.k,.int .i64 y.l.v.n,.string (strB y.l.v.s),.string (strB y.l.x),.string (strB y.l.f),.slice a1 q1 c1,.int .i64 y.r.k,.int .i64 y.r.v.k,.int .i64 y.r.v.n,.string (strB y.r.v.s),.string (strB y.r.x),.string (strB y.r.f),.slice b1 r1 d1] 91 12 rfl)
     have P13:=hid (tnew wr #[.int .i64 y.cmp,.int .i64 y.l.k,.int .i64 y.l.v.k,.int .i64 y.l.v.n,.string (strB y.l.v.s),.string (strB y.l.x),.string (strB y.l.f),.slice a1 q1 c1,.int .i64 y.r.k,.int .i64 y.r.v.k,.int .i64 y.r.v.n,.string (strB y.r.v.s),.string (strB y.r.x),.string (strB y.r.f),.slice b1 r1 d1] 91 13 rfl)
     have P14:=hid (tnew wr #[.int .i64 y.cmp,.int .i64 y.l.k,.int .i64 y.l.v.k,.int .i64 y.l.v.n,.string (strB y.l.v.s),.string (strB y.l.x),.string (strB y.l.f),.slice a1 q1 c1,.int .i64 y.r.k,.int .i64 y.r.v.k,.int .i64 y.r.v.n,.string (strB y.r.v.s),.string (strB y.r.x),.string (strB y.r.f),.slice b1 r1 d1] 91 14 rfl)
     clear hr hpb hbp i1 i2 ht1 ht2 hx1 hx2 hq1 hr1 hcell hy
     have HB1:=hid (HBW.out.trans (HBP.out.mono HBW.out.size))
     by_cases f1 : y.cmp < 1
     ·have u1 : decide (y.cmp < 1)=true:=by rw [decide_eq_true_eq];omega
      have hz0 : z=false:=by
       rw [← HZ.out]
       unfold rightQ
       dsimp only
       rw [show (decide (prs.length≤8) && (prs.all rightP && (decide (0≤wi∧wi≤1099511627776) && ((decide (by_=[]) || nameB by_) && decide (1≤pk∧pk≤3)))))=false from by rw [show prs.all rightP=false from List.all_eq_false.2 ⟨y,List.mem_of_getElem? HY.out,by unfold rightP;rw [show decide (1≤y.cmp∧y.cmp≤6)=false from decide_eq_false (by omega)];simp⟩,Bool.false_and,Bool.and_false],Bool.and_false]
      subst hz0
      go_wp2
      go_ret
      exact ⟨rfl,HB1.out⟩
     by_cases f2 : 6 < y.cmp
     ·have u1 : decide (y.cmp < 1)=false:=by rw [decide_eq_false_iff_not];omega
      have u2 : decide (6 < y.cmp)=true:=by rw [decide_eq_true_eq];omega
      have hz0 : z=false:=by
       rw [← HZ.out]
       unfold rightQ
       dsimp only
       rw [show (decide (prs.length≤8) && (prs.all rightP && (decide (0≤wi∧wi≤1099511627776) && ((decide (by_=[]) || nameB by_) && decide (1≤pk∧pk≤3)))))=false from by rw [show prs.all rightP=false from List.all_eq_false.2 ⟨y,List.mem_of_getElem? HY.out,by unfold rightP;rw [show decide (1≤y.cmp∧y.cmp≤6)=false from decide_eq_false (by omega)];simp⟩,Bool.false_and,Bool.and_false],Bool.and_false]
      subst hz0
      go_wp2
      go_ret
      exact ⟨rfl,HB1.out⟩
     have u1 : decide (y.cmp < 1)=false:=by rw [decide_eq_false_iff_not];omega
     have u2 : decide (6 < y.cmp)=false:=by rw [decide_eq_false_iff_not];omega
     cases t1 with
     | false =>
       have hz0 : z=false:=by
        rw [← HZ.out]
        unfold rightQ
        dsimp only
        rw [show (decide (prs.length≤8) && (prs.all rightP && (decide (0≤wi∧wi≤1099511627776) && ((decide (by_=[]) || nameB by_) && decide (1≤pk∧pk≤3)))))=false from by rw [show prs.all rightP=false from List.all_eq_false.2 ⟨y,List.mem_of_getElem? HY.out,by unfold rightP;rw [HT.out.1];simp⟩,Bool.false_and,Bool.and_false],Bool.and_false]
       subst hz0
       go_wp2_with fail
       with_reducible refine I1.out.mono ?_
       rintro e w2 ⟨rfl,hb2⟩
       have HB2:=hid (HB1.out.trans (hb2.mono HB1.out.size))
       clear hb2
       go_wp2
       go_ret
       exact ⟨rfl,HB2.out⟩
     | true =>
       go_wp2_with fail
       with_reducible refine I1.out.mono ?_
       rintro e w2 ⟨rfl,hb2⟩
       have HB2:=hid (HB1.out.trans (hb2.mono HB1.out.size))
       have HA2:=hid ((HA.out.trans (HBP.out.mono HA.out.size)).trans (hb2.mono (Nat.le_trans HA.out.size HBP.out.size)))
       have I3:=hid (I2.out w2 (HBP.out.trans (hb2.mono HBP.out.size)))
       have p8:=zaa hb2 P8.out
       have p9:=zaa hb2 P9.out
       have p10:=zaa hb2 P10.out
       have p11:=zaa hb2 P11.out
       have p12:=zaa hb2 P12.out
       have p13:=zaa hb2 P13.out
       have p14:=zaa hb2 P14.out
       clear hb2 k0 k1 k2 k3 k4 k5 k6 k7 k8 k9 k10 k11 k12 k13 k14 m0 m1 m2 m3 m4 I1 I2
       cases t2 with
       | false =>
         have hz0 : z=false:=by
          rw [← HZ.out]
          unfold rightQ
          dsimp only
          rw [show (decide (prs.length≤8) && (prs.all rightP && (decide (0≤wi∧wi≤1099511627776) && ((decide (by_=[]) || nameB by_) && decide (1≤pk∧pk≤3)))))=false from by rw [show prs.all rightP=false from List.all_eq_false.2 ⟨y,List.mem_of_getElem? HY.out,by unfold rightP;rw [HT.out.2];simp⟩,Bool.false_and,Bool.and_false],Bool.and_false]
         subst hz0
         go_wp2_with fail
         with_reducible refine I3.out.mono ?_
         rintro e w3 ⟨rfl,hb3⟩
         have HB3:=hid (HB2.out.trans (hb3.mono HB2.out.size))
         clear hb3
         go_wp2
         go_ret
         exact ⟨rfl,HB3.out⟩
       | true =>
         have hw : IntKind.i64.wrap ((j : Int)+1)=((j+1 : Nat) : Int):=by rw [IntWalk.i64_in _ (by omega)];omega
         have HU2 : Hid (∀ (k : Nat) (u : PPr),k < j+1→prs[k]?=some u→rightP u=true):=hid (fun k u hk hu=>by
          by_cases hkj : k < j
          ·exact HU.out k u hkj hu
          ·obtain rfl : k=j:=by omega
           rw [HY.out] at hu
           injection hu with hu
           subst hu
           unfold rightP
           rw [HT.out.1,HT.out.2,decide_eq_true (by omega)]
           rfl)
         go_wp2_with fail
         with_reducible refine I3.out.mono ?_
         rintro e w3 ⟨rfl,hb3⟩
         have HA3:=hid (HA2.out.trans (hb3.mono HA2.out.size))
         clear hb3
         go_wp2
         exact ⟨⟨j+1,rfl,hlt,HU2,HA3⟩,by simp [RowKit.intOf];omega⟩
    ·have hjr : r=j:=by omega
     have hall : prs.all rightP=true:=List.all_eq_true.2 (fun u hu=>by
      obtain ⟨k,hk⟩:=List.getElem?_of_mem hu
      exact HU.out k u (by have:=(List.getElem?_eq_some_iff.1 hk).1;rw [HRr.out] at this;omega) hk)
     have hz0:=HZ.out
     unfold rightQ at hz0
     dsimp only at hz0
     rw [HRI.out,hall,show decide (prs.length≤8)=true from decide_eq_true (by rw [HRr.out];omega),Bool.true_and,Bool.true_and,Bool.true_and] at hz0
     have HNM:=hid (zan by_ wr HQB.out.2.2)
     clear hall HZ HU
     by_cases g1 : ¬ 0≤wi
     ·have v1 : decide (0≤wi)=false:=by rw [decide_eq_false_iff_not];omega
      rw [show decide (0≤wi∧wi≤1099511627776)=false from decide_eq_false (by omega),Bool.false_and] at hz0
      subst hz0
      go_wp2
      go_ret
      exact ⟨rfl,HBW.out⟩
     have v1 : decide (0≤wi)=true:=decide_eq_true (by omega)
     by_cases g2 : ¬ wi≤1099511627776
     ·have v2 : decide (wi≤1099511627776)=false:=by rw [decide_eq_false_iff_not];omega
      rw [show decide (0≤wi∧wi≤1099511627776)=false from decide_eq_false (by omega),Bool.false_and] at hz0
      subst hz0
      go_wp2
      go_ret
      exact ⟨rfl,HBW.out⟩
     have v2 : decide (wi≤1099511627776)=true:=decide_eq_true (by omega)
     rw [show decide (0≤wi∧wi≤1099511627776)=true from decide_eq_true (by omega),Bool.true_and] at hz0
     obtain ⟨p1,hp1⟩ : ∃ p,decide (1≤pk)=p:=⟨_,rfl⟩
     obtain ⟨p3,hp3⟩ : ∃ p,decide (pk≤3)=p:=⟨_,rfl⟩
     rw [show decide (1≤pk∧pk≤3)=(p1 && p3) by rw [← hp1,← hp3,Bool.decide_and]] at hz0
     by_cases hby : by_=[]
     ·subst hby
      rw [show (decide (([] : List UInt8)=[]) || nameB [])=true by simp,Bool.true_and] at hz0
      subst hz0
      have m3e : wr.cell? ⟨w.heap.size,3,none⟩=some (.string ⟨#[]⟩):=m3
      clear m3
      cases p1 <;> cases p3
      all_goals
       go_wp2
       all_goals
        go_ret
        exact ⟨rfl,HBW.out⟩
     ·have hne : ¬ (strB by_).toList=[]:=zbj hby
      have hne2 : (strB by_).toList.isEmpty=false:=by
       rw [Bool.eq_false_iff]
       intro h
       exact hne (List.isEmpty_iff.1 h)
      rw [show decide (by_=[])=false from decide_eq_false hby,Bool.false_or] at hz0
      obtain ⟨nb,hnb⟩ : ∃ n,nameB by_=n:=⟨_,rfl⟩
      rw [hnb] at hz0 HNM
      subst hz0
      clear hnb hby
      cases nb <;> cases p1 <;> cases p3
      all_goals
       go_wp2_with fail
       with_reducible refine HNM.out.mono ?_
       rintro e w5 ⟨rfl,hb5⟩
       have m4':=zaa hb5 m4
       have HB5:=hid (HBW.out.trans (hb5.mono HBW.out.size))
       clear hb5
       go_wp2
       all_goals
        go_ret
        exact ⟨rfl,HB5.out⟩
section
variable {K : Nat→Prop} {w : World} {a qa qb : Option Addr} {n c q qc r d : Nat} {p : PQu} {x : PRun}
theorem ze2 (hq : QuAt K w qa q qc qb r d p) (hb : QuB p) (h : RowK evsD (fun _=>False) w (.slice a n c) x.bound) : Calls Tryz.prog 46 #[.agg #[.slice qa q qc,.slice qb r d,.int .i64 p.within,.string (strB p.by_),.int .i64 p.pick],.agg #[.int .i64 x.place,.slice a n c]] w fun ew w'=>ew=.returned (.bool (rightQ p && (rightR p.its x && waitsS (stQ p.its x.place))))∧Below w.heap.size w w':=by
 obtain ⟨W1,hW1⟩ : ∃ W1,(w.alloc (.cells #[.slice qa q qc,.slice qb r d,.int .i64 p.within,.string (strB p.by_),.int .i64 p.pick] 26)).alloc (.cells #[.int .i64 x.place,.slice a n c] 59)=W1:=⟨_,rfl⟩
 have hb0 : Below w.heap.size w W1:=by rw [← hW1];exact ((Below.refl _ w).alloc (Nat.le_refl _) _).alloc (by simp) _
 have hx : Blk W1 w.heap.size #[.slice qa q qc,.slice qb r d,.int .i64 p.within,.string (strB p.by_),.int .i64 p.pick] 26:=by
  rw [← hW1]
  exact (Blk.new w #[.slice qa q qc,.slice qb r d,.int .i64 p.within,.string (strB p.by_),.int .i64 p.pick] 26).low ((Below.refl _ _).alloc (Nat.le_refl _) _)
 have hy : Blk W1 (w.heap.size+1) #[.int .i64 x.place,.slice a n c] 59:=by
  rw [← hW1]
  have h1:=Blk.new (w.alloc (.cells #[.slice qa q qc,.slice qb r d,.int .i64 p.within,.string (strB p.by_),.int .i64 p.pick] 26)) #[.int .i64 x.place,.slice a n c] 59
  rw [World.size_alloc] at h1
  exact h1
 have hn:=h.len
 have HQ : Hid (QuAt K W1 qa q qc qb r d p):=⟨hq.1.low hb0,hq.2.low hb0⟩
 have HR : Hid (RowK evsD (fun _=>False) W1 (.slice a n c) x.bound):=h.low hb0
 have HX:=hid hx
 have HY:=hid hy
 have HB0:=hid hb0
 have HW1:=hid hW1
 have HN:=hid hn
 have HQB:=hid hb
 obtain ⟨x0,x1,x2,x3,x4⟩:=c5w hx
 have y0:=zab hy (k:=0) rfl
 have y1:=zab hy (k:=1) rfl
 rw [← hW1] at x0 x1 x2 x3 x4 y0 y1
 have hrc : ∀ W,Below W1.heap.size W1 W→Calls Tryz.prog 83 #[.agg #[.slice qa q qc,.slice qb r d,.int .i64 p.within,.string (strB p.by_),.int .i64 p.pick],.agg #[.int .i64 x.place,.slice a n c]] W fun e w'=>e=.returned (.bool (rightR p.its x))∧Below W.heap.size W w':=fun W hW=>by
  have h1:=zbI (w:=W) (K:=fun _=>False) (qa:=qa) (qb:=qb) (r:=r) (d:=d) (qc:=qc) (its:=p.its) (b:=x.bound) (a:=a) (c:=c) (by rw [← hq.1.len];exact (hq.1.mono (fun _ h=>h.elim)).low (hb0.trans (hW.mono hb0.size))) (by rw [← hn];exact (h.low hb0).low hW) p.within p.pick x.place (strB p.by_)
  rw [← hq.1.len,← hn] at h1
  exact h1
 have HRC:=hid hrc
 clear hx hy hb0 hW1 hq h hb hn hrc
 obtain ⟨zq,hzq⟩ : ∃ zq,rightQ p=zq:=⟨_,rfl⟩
 obtain ⟨zr,hzr⟩ : ∃ zr,rightR p.its x=zr:=⟨_,rfl⟩
 have HZQ:=hid hzq
 have HZR:=hid hzr
 rw [hzr] at HRC
 rw [hzq,hzr]
 clear hzq hzr
 cases zq with
 | false =>
   go_enter Tryz.func46,Tryz.ntmps46
   go_wp2_with (go_at_call 57;rw [HW1.out];refine (zaC HQ.out HQB.out).mono ?_;rintro e1 W2 ⟨v,rfl,hst,hb2⟩;obtain ⟨va,vc,rfl⟩:=hst.slice;rw [HZQ.out] at hst ⊢;skip;have HST:=hid hst;have HB2:=hid hb2;have x0:=zab (HX.out.low hb2) (k:=0) rfl;have x1:=zab (HX.out.low hb2) (k:=1) rfl;have x2:=zab (HX.out.low hb2) (k:=2) rfl;have x3:=zab (HX.out.low hb2) (k:=3) rfl;have x4:=zab (HX.out.low hb2) (k:=4) rfl;have y0:=zab (HY.out.low hb2) (k:=0) rfl;have y1:=zab (HY.out.low hb2) (k:=1) rfl;clear hst hb2)
   go_ret
   exact ⟨rfl,HB0.out.trans (HB2.out.mono HB0.out.size)⟩
 | true =>
 obtain ⟨m,hm⟩ : ∃ m,(stsN p.its).length=m:=⟨_,rfl⟩
 have hm6 : m≤7∧m=p.its.length+1:=by
  obtain ⟨_,_,_,_,_,h6⟩:=zaw HZQ.out
  rw [← hm,zbd]
  omega
 have hm0 : (0 : Int) < (m : Int):=by omega
 have HM:=hid hm
 clear hm
 cases zr with
 | false =>
   go_enter Tryz.func46,Tryz.ntmps46
   go_wp2_with (first|(go_at_call 57;rw [HW1.out];refine (zaC HQ.out HQB.out).mono ?_;rintro e1 W2 ⟨v,rfl,hst,hb2⟩;obtain ⟨va,vc,rfl⟩:=hst.slice;rw [HZQ.out,if_pos rfl,HM.out] at hst ⊢;have HST:=hid hst;have HB2:=hid hb2;have x0:=zab (HX.out.low hb2) (k:=0) rfl;have x1:=zab (HX.out.low hb2) (k:=1) rfl;have x2:=zab (HX.out.low hb2) (k:=2) rfl;have x3:=zab (HX.out.low hb2) (k:=3) rfl;have x4:=zab (HX.out.low hb2) (k:=4) rfl;have y0:=zab (HY.out.low hb2) (k:=0) rfl;have y1:=zab (HY.out.low hb2) (k:=1) rfl;clear hst hb2)|(go_at_call 83;refine (HRC.out W2 HB2.out).mono ?_;rintro e2 W3 ⟨rfl,hb3⟩;have HB3:=hid (HB2.out.trans (hb3.mono HB2.out.size));skip;clear hb3))
   go_ret
   exact ⟨rfl,HB0.out.trans (HB3.out.mono HB0.out.size)⟩
 | true =>
   obtain ⟨h1,h2,_⟩:=zaE.1 HZR.out
   obtain ⟨i5,hi5⟩ : ∃ i5 : Nat,x.place=i5:=⟨x.place.toNat,by omega⟩
   have hwk : IntKind.i64.wrap ((i5 : Int)+1)=((i5+1 : Nat) : Int):=by rw [IntWalk.i64_in _ (by omega)];omega
   have hk5 : ((i5+1 : Nat) : Int) < (m : Int):=by omega
   have hk6 : (0 : Int)≤((i5+1 : Nat) : Int):=by omega
   have HI5:=hid hi5
   have hsa : (stsN p.its)[i5+1]?=some (stQ p.its x.place):=by
    have h3:=zd9 (its:=p.its) (k:=x.place) (by omega) h2
    rwa [show (x.place+1).toNat=i5+1 by omega] at h3
   have HSA:=hid hsa
   clear h1 h2 hsa
   clear hi5
   go_enter Tryz.func46,Tryz.ntmps46
   go_wp2_with (first|(go_at_call 57;rw [HW1.out];refine (zaC HQ.out HQB.out).mono ?_;rintro e1 W2 ⟨v,rfl,hst,hb2⟩;obtain ⟨va,vc,rfl⟩:=hst.slice;rw [HZQ.out,if_pos rfl,HM.out] at hst ⊢;have HST:=hid hst;have HB2:=hid hb2;have x0:=zab (HX.out.low hb2) (k:=0) rfl;have x1:=zab (HX.out.low hb2) (k:=1) rfl;have x2:=zab (HX.out.low hb2) (k:=2) rfl;have x3:=zab (HX.out.low hb2) (k:=3) rfl;have x4:=zab (HX.out.low hb2) (k:=4) rfl;have y0:=zab (HY.out.low hb2) (k:=0) rfl;have y1:=zab (HY.out.low hb2) (k:=1) rfl;clear hst hb2)|(go_at_call 83;refine (HRC.out W2 HB2.out).mono ?_;rintro e2 W3 ⟨rfl,hb3⟩;have HB3:=hid (HB2.out.trans (hb3.mono HB2.out.size));obtain ⟨g9,o9,a9,c9,b9,d9,rfl,s0,s1,s2,_,_⟩:=(HST.out.low hb3).stateAt HSA.out;have y0:=zab (HY.out.low HB3.out) (k:=0) rfl;rw [HI5.out] at y0;clear hb3)|(go_at_call 84;refine (za3 (stQ p.its x.place)).mono ?_;rintro e4 W4 ⟨rfl,hb4⟩;have HB4:=hid (HB3.out.trans (hb4.mono HB3.out.size));clear hb4))
   go_ret
   exact ⟨rfl,HB0.out.trans (HB4.out.mono HB0.out.size)⟩
end
end Go.Proofs.YtkmlfkbpcgkpaaaGreatDoor
