/- Texts that others want. -/
import Derived.Test.YtkmlfkbpcgkpaaaGreatDoorM2
import Derived.Test.YtkmlfkbpcgkpaaaGreatDoorM3
import Derived.Test.YtkmlfkbpcgkpaaaGreatDoorMC
import Derived.Test.YtkmlfkbpcgkpaaaGreatDoorMG
namespace Go.Proofs.YtkmlfkbpcgkpaaaGreatDoor
open Go.RowKit Go.Lib Go.Op
theorem zfG (l : List (List UInt8)) : unlikeB l=true ↔ ∀ (j : Nat) (b : List UInt8),l[j]?=some b→nameB b=true∧∀ (k : Nat) (c : List UInt8),k < j→l[k]?=some c→c≠b:=by
 unfold unlikeB
 rw [Bool.and_eq_true,decide_eq_true_eq,List.all_eq_true,List.Nodup,List.pairwise_iff_getElem]
 constructor
 ·rintro ⟨h1,h2⟩ j b hj
  obtain ⟨hlt,rfl⟩:=List.getElem?_eq_some_iff.1 hj
  refine ⟨h1 _ (List.getElem_mem hlt),fun k c hk hc=>?_⟩
  obtain ⟨hkl,rfl⟩:=List.getElem?_eq_some_iff.1 hc
  exact h2 k j hkl hlt hk
 ·intro h
  refine ⟨fun x hx=>?_,fun i j hi hj hij=>(h j _ (List.getElem?_eq_getElem hj)).2 i _ hij (List.getElem?_eq_getElem hi)⟩
  obtain ⟨j,hj⟩:=List.getElem?_of_mem hx
  exact (h j x hj).1
def dItemR (i : PIt) (first : Bool) : Bool :=
 nameB i.x && (decide (1≤i.ns.length∧i.ns.length≤3) && (decide (1≤i.mode∧i.mode≤3) && (unlikeB i.ns && (!(first && (i.no || decide (i.mode=3))) && (!i.no || decide (i.mode=1))))))
theorem zbG (i : PIt) (first : Bool) : dItemR i first=true ↔ nameB i.x=true∧rightI i=true∧(first=true→i.no=false∧i.mode≠3):=by
 unfold dItemR rightI
 cases hno : i.no <;> cases first <;> cases hn : nameB i.x <;> cases hu : unlikeB i.ns <;> simp <;> omega
theorem za1 (l : List PIt) : rightIs l=true ↔ (1≤l.length∧l.length≤6)∧∀ (j : Nat) (i : PIt),l[j]?=some i→dItemR i (decide (j=0))=true∧∀ (k : Nat) (u : PIt),k < j→l[k]?=some u→u.x≠i.x:=by
 cases l with
 | nil=>simp [rightIs]
 | cons y r =>
   have hm : ∀ (j : Nat) (x : List UInt8),((y :: r).map (·.x))[j]?=some x ↔ ∃ i : PIt,(y :: r)[j]?=some i∧i.x=x:=fun j x=>by
    rw [List.getElem?_map,Option.map_eq_some_iff]
   show (!(decide (6 < (y :: r).length) || (y.no || decide (y.mode=3))) && ((y :: r).all rightI && unlikeB ((y :: r).map (·.x))))=true ↔ _
   rw [Bool.and_eq_true,Bool.and_eq_true,List.all_eq_true,zfG,Bool.not_eq_true',Bool.or_eq_false_iff,Bool.or_eq_false_iff,decide_eq_false_iff_not,decide_eq_false_iff_not]
   constructor
   ·rintro ⟨⟨h1,h2,h3⟩,h4,h5⟩
    refine ⟨⟨by simp,by omega⟩,fun j i hj=>⟨(zbG i _).2 ⟨(h5 j i.x ((hm j _).2 ⟨i,hj,rfl⟩)).1,h4 i (List.mem_of_getElem? hj),fun h0=>?_⟩,fun k u hk hu=>(h5 j i.x ((hm j _).2 ⟨i,hj,rfl⟩)).2 k u.x hk ((hm k _).2 ⟨u,hu,rfl⟩)⟩⟩
    rw [decide_eq_true_eq] at h0
    subst h0
    obtain rfl : y=i:=by simpa using hj
    exact ⟨h2,h3⟩
   ·rintro ⟨⟨h1,h2⟩,h3⟩
    have h0:=(zbG y _).1 (h3 0 y rfl).1
    refine ⟨⟨by omega,(h0.2.2 rfl).1,(h0.2.2 rfl).2⟩,fun i hi=>?_,fun j b hb=>?_⟩
    ·obtain ⟨j,hj⟩:=List.getElem?_of_mem hi
     exact ((zbG i _).1 (h3 j i hj).1).2.1
    ·obtain ⟨i,hi,rfl⟩:=(hm j b).1 hb
     refine ⟨((zbG i _).1 (h3 j i hi).1).1,fun k c hk hc=>?_⟩
     obtain ⟨u,hu,rfl⟩:=(hm k c).1 hc
     exact (h3 j i hi).2 k u hk hu
set_option maxHeartbeats 8000000
set_option maxRecDepth 100000
theorem zeW {K : Nat→Prop} {w : World} {a : Option Addr} {c : Nat} {no : Bool} {ns : List (List UInt8)} {x : List UInt8} {md : Int} (h : RowK nameD K w (.slice a ns.length c) ns) (hl : ns.length≤1000000) (hb : ∀ b∈ns,b.length≤1000000) (hx : x.length≤1000000) (first : Bool) :
 Calls Tryz.prog 49 #[.agg #[.bool no,.slice a ns.length c,.string (strB x),.int .i64 md],.bool first] w fun e w'=>e=.returned (.bool (dItemR ⟨no,ns,x,md⟩ first))∧Below w.heap.size w w':=by
 have H:=hid h
 have hc:=h.cap
 obtain ⟨z,hz⟩ : ∃ z,dItemR ⟨no,ns,x,md⟩ first=z:=⟨_,rfl⟩
 rw [hz]
 have HZ:=hid hz
 obtain ⟨q,hq⟩ : ∃ q,ns.length=q:=⟨_,rfl⟩
 have HQ:=hid hq
 have HBD:=hid hb
 rw [hq] at hc hl ⊢
 have hb0:=(Below.refl w.heap.size w).alloc (Nat.le_refl _) (.cells #[.bool no,.slice a q c,.string (strB x),.int .i64 md] 44)
 have HB0:=hid hb0
 have M0:=hid (tnew w #[.bool no,.slice a q c,.string (strB x),.int .i64 md] 44 0 rfl)
 have M1:=hid (tnew w #[.bool no,.slice a q c,.string (strB x),.int .i64 md] 44 1 rfl)
 have M2:=hid (tnew w #[.bool no,.slice a q c,.string (strB x),.int .i64 md] 44 2 rfl)
 have M3:=hid (tnew w #[.bool no,.slice a q c,.string (strB x),.int .i64 md] 44 3 rfl)
 have HN:=hid (fun W=>zan x W hx)
 clear h hz hq hb hb0 hx
 cases hnm : nameB x with
 | false =>
   rw [hnm] at HN
   have hz0 : z=false:=by rw [← HZ.out];unfold dItemR;rw [hnm];rfl
   subst hz0
   clear hnm
   go_enter Tryz.func49,Tryz.ntmps49
   go_wp2_with fail
   with_reducible refine (HN.out _).mono ?_
   rintro e w1 ⟨rfl,hb1⟩
   have m0:=zaa hb1 M0.out
   have m1:=zaa hb1 M1.out
   have m2:=zaa hb1 M2.out
   have m3:=zaa hb1 M3.out
   have HB1:=hid (HB0.out.trans (hb1.mono HB0.out.size))
   have HBA:=hid hb1
   clear hb1
   go_wp2
   go_ret
   exact ⟨rfl,HB1.out⟩
 | true =>
   rw [hnm] at HN
   have HNM:=hid hnm
   clear hnm
   by_cases e1 : q < 1
   ·have q1 : decide ((q : Int) < 1)=true:=by rw [decide_eq_true_eq];omega
    have q1n : decide (q < 1)=true:=by rw [decide_eq_true_eq];omega
    have hz0 : z=false:=by rw [← HZ.out];unfold dItemR;rw [show decide (1≤ns.length∧ns.length≤3)=false from decide_eq_false (by rw [HQ.out];omega)];simp
    subst hz0
    go_enter Tryz.func49,Tryz.ntmps49
    go_wp2_with fail
    with_reducible refine (HN.out _).mono ?_
    rintro e w1 ⟨rfl,hb1⟩
    have m0:=zaa hb1 M0.out
    have m1:=zaa hb1 M1.out
    have m2:=zaa hb1 M2.out
    have m3:=zaa hb1 M3.out
    have HB1:=hid (HB0.out.trans (hb1.mono HB0.out.size))
    have HBA:=hid hb1
    clear hb1
    go_wp2
    go_ret
    exact ⟨rfl,HB1.out⟩
   by_cases e2 : 3 < q
   ·have q1 : decide ((q : Int) < 1)=false:=by rw [decide_eq_false_iff_not];omega
    have q1n : decide (q < 1)=false:=by rw [decide_eq_false_iff_not];omega
    have q3 : decide (3 < (q : Int))=true:=by rw [decide_eq_true_eq];omega
    have q3n : decide (3 < q)=true:=by rw [decide_eq_true_eq];omega
    have hz0 : z=false:=by rw [← HZ.out];unfold dItemR;rw [show decide (1≤ns.length∧ns.length≤3)=false from decide_eq_false (by rw [HQ.out];omega)];simp
    subst hz0
    go_enter Tryz.func49,Tryz.ntmps49
    go_wp2_with fail
    with_reducible refine (HN.out _).mono ?_
    rintro e w1 ⟨rfl,hb1⟩
    have m0:=zaa hb1 M0.out
    have m1:=zaa hb1 M1.out
    have m2:=zaa hb1 M2.out
    have m3:=zaa hb1 M3.out
    have HB1:=hid (HB0.out.trans (hb1.mono HB0.out.size))
    have HBA:=hid hb1
    clear hb1
    go_wp2
    go_ret
    exact ⟨rfl,HB1.out⟩
   by_cases e3 : md < 1
   ·have q1 : decide ((q : Int) < 1)=false:=by rw [decide_eq_false_iff_not];omega
    have q1n : decide (q < 1)=false:=by rw [decide_eq_false_iff_not];omega
    have q3 : decide (3 < (q : Int))=false:=by rw [decide_eq_false_iff_not];omega
    have q3n : decide (3 < q)=false:=by rw [decide_eq_false_iff_not];omega
    have d1 : decide (md < 1)=true:=by rw [decide_eq_true_eq];omega
    have hz0 : z=false:=by rw [← HZ.out];unfold dItemR;rw [show decide (1≤md∧md≤3)=false from decide_eq_false (by omega)];simp
    subst hz0
    go_enter Tryz.func49,Tryz.ntmps49
    go_wp2_with fail
    with_reducible refine (HN.out _).mono ?_
    rintro e w1 ⟨rfl,hb1⟩
    have m0:=zaa hb1 M0.out
    have m1:=zaa hb1 M1.out
    have m2:=zaa hb1 M2.out
    have m3:=zaa hb1 M3.out
    have HB1:=hid (HB0.out.trans (hb1.mono HB0.out.size))
    have HBA:=hid hb1
    clear hb1
    go_wp2
    go_ret
    exact ⟨rfl,HB1.out⟩
   by_cases e4 : 3 < md
   ·have q1 : decide ((q : Int) < 1)=false:=by rw [decide_eq_false_iff_not];omega
    have q1n : decide (q < 1)=false:=by rw [decide_eq_false_iff_not];omega
    have q3 : decide (3 < (q : Int))=false:=by rw [decide_eq_false_iff_not];omega
    have q3n : decide (3 < q)=false:=by rw [decide_eq_false_iff_not];omega
    have d1 : decide (md < 1)=false:=by rw [decide_eq_false_iff_not];omega
    have d3 : decide (3 < md)=true:=by rw [decide_eq_true_eq];omega
    have hz0 : z=false:=by rw [← HZ.out];unfold dItemR;rw [show decide (1≤md∧md≤3)=false from decide_eq_false (by omega)];simp
    subst hz0
    go_enter Tryz.func49,Tryz.ntmps49
    go_wp2_with fail
    with_reducible refine (HN.out _).mono ?_
    rintro e w1 ⟨rfl,hb1⟩
    have m0:=zaa hb1 M0.out
    have m1:=zaa hb1 M1.out
    have m2:=zaa hb1 M2.out
    have m3:=zaa hb1 M3.out
    have HB1:=hid (HB0.out.trans (hb1.mono HB0.out.size))
    have HBA:=hid hb1
    clear hb1
    go_wp2
    go_ret
    exact ⟨rfl,HB1.out⟩
   have q1 : decide ((q : Int) < 1)=false:=by rw [decide_eq_false_iff_not];omega
   have q1n : decide (q < 1)=false:=by rw [decide_eq_false_iff_not];omega
   have q3 : decide (3 < (q : Int))=false:=by rw [decide_eq_false_iff_not];omega
   have q3n : decide (3 < q)=false:=by rw [decide_eq_false_iff_not];omega
   have d1 : decide (md < 1)=false:=by rw [decide_eq_false_iff_not];omega
   have d3 : decide (3 < md)=false:=by rw [decide_eq_false_iff_not];omega
   go_enter Tryz.func49,Tryz.ntmps49
   go_wp2_with fail
   with_reducible refine (HN.out _).mono ?_
   rintro e w1 ⟨rfl,hb1⟩
   have m0:=zaa hb1 M0.out
   have m1:=zaa hb1 M1.out
   have m2:=zaa hb1 M2.out
   have m3:=zaa hb1 M3.out
   have HB1:=hid (HB0.out.trans (hb1.mono HB0.out.size))
   have HBA:=hid hb1
   clear hb1
   go_wp2
   clear m0 m1 m2 m3 q1 q1n q3 q3n d1 d3
   go_loopw [5,6] (fun i _ wr=>∃ j : Nat,i=.int .i64 j∧j≤q∧Hid (UnTo ns j)∧Hid (Below (w.alloc (.cells #[.bool no,.slice a q c,.string (strB x),.int .i64 md] 44)).heap.size (w.alloc (.cells #[.bool no,.slice a q c,.string (strB x),.int .i64 md] 44)) wr)) (fun i _ _=>q - (RowKit.intOf i).toNat)
   case atStart=>exact ⟨0,rfl,Nat.zero_le _,hid ⟨fun b hb=>by simp at hb,by simp⟩,HBA⟩
   case round =>
    clear HBA HB1 HN
    obtain ⟨j,rfl,hj,HU,HA⟩:=hrel
    have HBW:=hid (HB0.out.trans (HA.out.mono HB0.out.size))
    have m0:=zaa HA.out M0.out
    have m1:=zaa HA.out M1.out
    have m2:=zaa HA.out M2.out
    have m3:=zaa HA.out M3.out
    by_cases hlt : j < q
    ·obtain ⟨y,hy⟩ : ∃ y,ns[j]?=some y:=⟨_,List.getElem?_eq_getElem (by rw [HQ.out];exact hlt)⟩
     have hr:=H.out.low HBW.out
     obtain ⟨g,o,rfl,hcell⟩:=hr.nameAt hy
     have HR:=hid hr
     have HY:=hid hy
     have HNy:=hid (zan y wr (HBD.out y (List.mem_of_getElem? hy)))
     clear hr
     cases hny : nameB y with
     | false =>
       rw [hny] at HNy
       have hz0 : z=false:=by
        rw [← HZ.out]
        unfold dItemR
        rw [show unlikeB ns=false from zcb hy hny]
        simp
       subst hz0
       clear hy hny
       go_wp2_with fail
       with_reducible refine HNy.out.mono ?_
       rintro e w2 ⟨rfl,hb2⟩
       have HB2:=hid (HBW.out.trans (hb2.mono HBW.out.size))
       clear hb2
       go_wp2
       go_ret
       exact ⟨rfl,HB2.out⟩
     | true =>
       rw [hny] at HNy
       have HNB:=hid hny
       clear hny hy
       go_wp2_with fail
       with_reducible refine HNy.out.mono ?_
       rintro e w2 ⟨rfl,hb2⟩
       have HR2:=hid (HR.out.low hb2)
       have HA2:=hid (HA.out.trans (hb2.mono HA.out.size))
       have HBW2:=hid (HBW.out.trans (hb2.mono HBW.out.size))
       clear hb2 hcell m0 m1 m2 m3 HA HBW HR HNy
       go_wp2
       go_loopw [6] (fun i wr=>∃ k : Nat,i=.int .i64 k∧k≤j∧Hid (∀ b∈ns.take k,b≠y)∧Hid (Below w2.heap.size w2 wr)) (fun i _=>j - (RowKit.intOf i).toNat)
       case atStart=>exact ⟨0,rfl,Nat.zero_le _,hid (fun b hb=>by simp at hb),hid (Below.refl _ _)⟩
       case round =>
        obtain ⟨k,rfl,hk,HD,HB⟩:=hrel
        have HA:=hid (HA2.out.trans (HB.out.mono HA2.out.size))
        have HBW:=hid (HBW2.out.trans (HB.out.mono HBW2.out.size))
        have hr:=HR2.out.low HB.out
        have m0:=zaa HA.out M0.out
        have m1:=zaa HA.out M1.out
        have m2:=zaa HA.out M2.out
        have m3:=zaa HA.out M3.out
        by_cases hkl : k < j
        ·obtain ⟨u,hu⟩ : ∃ u,ns[k]?=some u:=⟨_,List.getElem?_eq_getElem (by rw [HQ.out];omega)⟩
         have hkq : k < q:=by omega
         obtain ⟨g1,o1,eg,hcu⟩:=hr.nameAt hu
         injection eg with eg
         injection eg with eg1 eg2
         subst eg1 eg2
         obtain ⟨g2,o2,eg,hcy⟩:=hr.nameAt HY.out
         injection eg with eg
         injection eg with eg1 eg2
         subst eg1 eg2
         have hw : IntKind.i64.wrap ((k : Int)+1)=((k+1 : Nat) : Int):=by rw [IntWalk.i64_in _ (by omega)];omega
         by_cases heq : u=y
         ·subst heq
          have hz0 : z=false:=by
           rw [← HZ.out]
           unfold dItemR
           rw [show unlikeB ns=false from zbU HY.out (by rw [List.mem_take_iff_getElem];obtain ⟨hx1,hx2⟩:=List.getElem?_eq_some_iff.1 hu;exact ⟨k,by omega,hx2⟩)]
           simp
          subst hz0
          clear hr hu
          go_wp2_with fail
          go_quiet (fail)
          have HB9:=hid (below_drewN HBW.out nq)
          go_wp2
          go_ret
          exact ⟨rfl,HB9.out⟩
         ·have hne : ((strB u).toList == (strB y).toList)=false:=by rw [zao,zao,beq_eq_false_iff_ne];exact heq
          have HD2 : Hid (∀ b∈ns.take (k+1),b≠y):=hid (fun b hb=>by
           rw [List.take_add_one,hu] at hb
           rcases List.mem_append.1 hb with hb|hb
           ·exact HD.out b hb
           ·obtain rfl : b=u:=by simpa using hb
            exact heq)
          clear hr hu heq
          go_wp2_with fail
          go_quiet (fail)
          have HB9:=hid (below_drewN HB.out nq)
          go_wp2
          exact ⟨⟨k+1,rfl,hkl,HD2,HB9⟩,by simp [RowKit.intOf];omega⟩
        ·have hkj : k=j:=by omega
         subst hkj
         have HU2:=hid (HU.out.next HY.out HNB.out (fun hm=>HD.out y hm rfl))
         have hw : IntKind.i64.wrap ((k : Int)+1)=((k+1 : Nat) : Int):=by rw [IntWalk.i64_in _ (by omega)];omega
         clear hr hkl
         go_wp2
         exact ⟨⟨k+1,rfl,hlt,HU2,HA⟩,by simp [RowKit.intOf];omega⟩
    ·have hjq : j=q:=by omega
     subst hjq
     have hun : unlikeB ns=true:=zcD (by rw [HQ.out];exact HU.out)
     have hz0:=HZ.out
     unfold dItemR at hz0
     dsimp only at hz0
     rw [HNM.out,hun,show decide (1≤ns.length∧ns.length≤3)=true from decide_eq_true (by rw [HQ.out];omega),show decide (1≤md∧md≤3)=true from decide_eq_true (by omega)] at hz0
     clear hun HZ
     cases first <;> cases no
     all_goals
      by_cases f3 : md=3
      ·subst f3
       simp at hz0
       subst hz0
       go_wp2
       all_goals
        go_ret
        exact ⟨rfl,HBW.out⟩
      ·have b3 : (md == 3)=false:=beq_eq_false_iff_ne.2 f3
       by_cases f1 : md=1
       ·subst f1
        simp at hz0
        subst hz0
        go_wp2
        all_goals
         go_ret
         exact ⟨rfl,HBW.out⟩
       ·have b1 : (md == 1)=false:=beq_eq_false_iff_ne.2 f1
        simp [f1,f3] at hz0
        subst hz0
        go_wp2
        all_goals
         go_ret
         exact ⟨rfl,HBW.out⟩
def dR0 (n : Nat) (s : DS) : PEx × DS:=if dIs s 4 [40]=true∧s.deep < 6 then dInner (dTerm n) n s else dField s 2
def dR1 (n : Nat) (s : DS) : PEx × DS:=if dIs s 1 wMax then dCall (dSkip s) 6 else dR0 n s
def dR2 (n : Nat) (s : DS) : PEx × DS:=if dIs s 1 wMin then dCall (dSkip s) 5 else dR1 n s
def dR3 (n : Nat) (s : DS) : PEx × DS:=if dIs s 1 wSum then dCall (dSkip s) 4 else dR2 n s
theorem zgU {w : World} {R T : Nat} {L : List XTok} {s : DS} {t : XTok} {r : List XTok} (h : DdR w R T L s) (hb : s.bad=false) (hl : s.l=t :: r) (hnk : t.k≠2∧t.k≠3) (hno : dIs s 4 [45]=false∧dIs s 1 [116,114,117,101]=false∧dIs s 1 [102,97,108,115,101]=false∧dIs s 1 [99,111,117,110,116]=false) {n : Nat} (hexp : dIs s 4 [40]=true→s.deep < 6→∀ W,DdR W R T L (dOpen s)→Calls Tryz.prog 183 #[.pointer (some ⟨R,0,none⟩)] W (DxTo R T L (dExpr (dTerm n) n (dOpen s)) W)) (hedp : (dExpr (dTerm n) n (dOpen s)).2.deep=s.deep+1) (hok : s.deep≤6) : Calls Tryz.prog 218 #[.pointer (some ⟨R,0,none⟩)] w (DxTo R T L (dR3 n s) w):=by
 have HNK:=hid hnk
 clear hnk
 have HNO:=hid hno
 clear hno
 obtain ⟨z,hz⟩ : ∃ z,dR3 n s=z:=⟨_,rfl⟩
 rw [hz]
 have HZ:=hid hz
 have HEX:=hid hexp
 have HED:=hid hedp
 have HOK:=hid hok
 clear hz hexp hedp hok
 have hR:=h.lt
 have HH:=hid h
 have hb0:=(Below.refl w.heap.size w).alloc (Nat.le_refl _) (.cells #[.int .i64 0,.int .i64 0,.int .i64 0,.string ⟨#[]⟩,.string ⟨#[]⟩,.string ⟨#[]⟩,.slice none 0 0] 89)
 have HX:=hid (XBlk.new w (.int .i64 0) (.int .i64 0) (.int .i64 0) (.string ⟨#[]⟩) (.string ⟨#[]⟩) (.string ⟨#[]⟩) (.slice none 0 0))
 obtain ⟨a,c,h1⟩:=h.keep hb0
 have HD:=hid (show DdAt (w.alloc (.cells #[.int .i64 0,.int .i64 0,.int .i64 0,.string ⟨#[]⟩,.string ⟨#[]⟩,.string ⟨#[]⟩,.slice none 0 0] 89)) R T L s a c from h1)
 obtain ⟨o,rfl,hlt,d0,d1,d2⟩:=h1.first hl
 have HB0:=hid hb0
 have c0:=h1.c0
 have c1:=h1.c1
 have c2:=h1.c2
 rw [hb] at c2
 have HHD:=hid (h1.head hl)
 have HSB:=hid hb
 have HSL:=hid hl
 have hle:=h1.le
 have hln:=h1.len
 have HLN:=hid (show L.length - s.l.length≤500 by omega)
 obtain ⟨m,hm⟩ : ∃ m,L.length=m:=⟨_,rfl⟩
 obtain ⟨p,hp⟩ : ∃ p,L.length - s.l.length=p:=⟨_,rfl⟩
 have HP:=hid hp
 rw [hp] at c1 d0 d1 d2 hlt
 rw [hm] at c0 hlt
 have HSZ : Hid ((w.alloc (.cells #[.int .i64 0,.int .i64 0,.int .i64 0,.string ⟨#[]⟩,.string ⟨#[]⟩,.string ⟨#[]⟩,.slice none 0 0] 89)).heap.size=w.heap.size+1):=by show _=_;simp
 clear h1 hb hl hle hln hb0 h hm hp
 go_enter Tryz.func218,Tryz.ntmps218
 go_wp2_with fail
 go_quiet (fail)
 have hb1 : Below (w.alloc (.cells #[.int .i64 0,.int .i64 0,.int .i64 0,.string ⟨#[]⟩,.string ⟨#[]⟩,.string ⟨#[]⟩,.slice none 0 0] 89)).heap.size (w.alloc (.cells #[.int .i64 0,.int .i64 0,.int .i64 0,.string ⟨#[]⟩,.string ⟨#[]⟩,.string ⟨#[]⟩,.slice none 0 0] 89)) ((w.alloc (.cells #[.int .i64 0,.int .i64 0,.int .i64 0,.string ⟨#[]⟩,.string ⟨#[]⟩,.string ⟨#[]⟩,.slice none 0 0] 89)).drewN nq):=below_drewN (Below.refl _ _) _
 have hsz1 : ((w.alloc (.cells #[.int .i64 0,.int .i64 0,.int .i64 0,.string ⟨#[]⟩,.string ⟨#[]⟩,.string ⟨#[]⟩,.slice none 0 0] 89)).drewN nq).heap.size=w.heap.size+1:=by rw [World.heap_drewN];exact HSZ.out
 generalize (w.alloc (.cells #[.int .i64 0,.int .i64 0,.int .i64 0,.string ⟨#[]⟩,.string ⟨#[]⟩,.string ⟨#[]⟩,.slice none 0 0] 89)).drewN nq=w1 at hb1 hsz1 ⊢
 have e0:=zaa hb1 c0
 have e1:=zaa hb1 c1
 have e2:=zaa hb1 d0
 have e3:=zaa hb1 d1
 have e4:=zaa hb1 d2
 have HB1:=hid hb1
 have HS1:=hid hsz1
 clear c0 c1 c2 d0 d1 d2 hb1 hsz1
 have g0 : w1.drew.cell? _=_:=e0
 have g1 : w1.drew.cell? _=_:=e1
 have g2 : w1.drew.cell? _=_:=e2
 have g3 : w1.drew.cell? _=_:=e3
 have g4 : w1.drew.cell? _=_:=e4
 go_wp2_with fail
 refine wp_region_held_drew (S:=fun W=>W.cell? ⟨R,0,none⟩=some (.slice (some ⟨T,o,none⟩) m c)∧W.cell? ⟨R,1,none⟩=some (.int .i64 p)∧W.cell? ⟨T,o+p*3,none⟩=some (.int .i64 t.k)∧W.cell? ⟨T,o+p*3+1,none⟩=some (.string (strB t.b))∧W.cell? ⟨T,o+p*3+2,none⟩=some (.int .i64 t.at_)) (by kernel_rfl) ⟨g0,g1,g2,g3,g4⟩ (fun hHeld0=>?_)
 refine tK 0 29 (h:=?_)
 try simp only [Act.put,sI,sZ,sS]
 refine tK 1 30 (h:=?_)
 try simp only [Act.put,sI,sZ,sS]
 refine tK 2 31 (h:=?_)
 try simp only [Act.put,sI,sZ,sS]
 refine tK 3 32 (h:=?_)
 try simp only [Act.put,sI,sZ,sS]
 refine tK 4 33 (h:=?_)
 try simp only [Act.put,sI,sZ,sS]
 refine tK 5 34 (h:=?_)
 try simp only [Act.put,sI,sZ,sS]
 refine tK 6 35 (h:=?_)
 try simp only [Act.put,sI,sZ,sS]
 refine tK 7 36 (h:=?_)
 try simp only [Act.put,sI,sZ,sS]
 refine tK 8 37 (h:=?_)
 try simp only [Act.put,sI,sZ,sS]
 refine tK 9 38 (h:=?_)
 try simp only [Act.put,sI,sZ,sS]
 refine wpAnyH_ready (rs:=[10]) (by kernel_rfl) (by simp) ?_
 refine AllReadyH.cons (o:=_) rfl (fun K hK=>?_) AllReadyH.nil
 dsimp only [List.getElem_toArray,List.getElem_cons_succ,List.getElem_cons_zero]
 go_simp
 have q0 : (w1.alloc (.cells #[.int .i64 0,.string ⟨#[]⟩,.int .i64 0] 148)).drew.cell? _=_:=zad e0 _
 have q1 : (w1.alloc (.cells #[.int .i64 0,.string ⟨#[]⟩,.int .i64 0] 148)).drew.cell? _=_:=zad e1 _
 have q2 : (w1.alloc (.cells #[.int .i64 0,.string ⟨#[]⟩,.int .i64 0] 148)).drew.cell? _=_:=zad e2 _
 have q3 : (w1.alloc (.cells #[.int .i64 0,.string ⟨#[]⟩,.int .i64 0] 148)).drew.cell? _=_:=zad e3 _
 have q4 : (w1.alloc (.cells #[.int .i64 0,.string ⟨#[]⟩,.int .i64 0] 148)).drew.cell? _=_:=zad e4 _
 refine hK.out _ _ ⟨q0,q1,q2,q3,q4⟩ (fun hHeld1=>?_)
 clear hK K
 try simp only [Act.put,sI,sZ,sS]
 refine wpAnyH_ready (rs:=[11]) (by kernel_rfl) (by simp) ?_
 refine AllReadyH.cons (o:=_) rfl (fun K hK=>?_) AllReadyH.nil
 dsimp only [List.getElem_toArray,List.getElem_cons_succ,List.getElem_cons_zero]
 go_simp
 have v0 : (w1.alloc (.cells #[.int .i64 t.k,.string (strB t.b),.int .i64 t.at_] 148)).drew.cell? _=_:=zad e0 _
 have v1 : (w1.alloc (.cells #[.int .i64 t.k,.string (strB t.b),.int .i64 t.at_] 148)).drew.cell? _=_:=zad e1 _
 have v2 : (w1.alloc (.cells #[.int .i64 t.k,.string (strB t.b),.int .i64 t.at_] 148)).drew.cell? _=_:=zad e2 _
 have v3 : (w1.alloc (.cells #[.int .i64 t.k,.string (strB t.b),.int .i64 t.at_] 148)).drew.cell? _=_:=zad e3 _
 have v4 : (w1.alloc (.cells #[.int .i64 t.k,.string (strB t.b),.int .i64 t.at_] 148)).drew.cell? _=_:=zad e4 _
 refine hK.out _ _ ⟨v0,v1,v2,v3,v4⟩ (fun hHeld2=>?_)
 clear hK K
 try simp only [Act.put,sI,sZ,sS]
 refine wpAnyH_done (by kernel_rfl) ?_ _
 have HI : Hid (TmIn R T L s t w ((w1.alloc (.cells #[.int .i64 t.k,.string (strB t.b),.int .i64 t.at_] 148)).drew)):=by
  have hb2 : Below w1.heap.size w1 ((w1.alloc (.cells #[.int .i64 t.k,.string (strB t.b),.int .i64 t.at_] 148)).drew):=zae ((Below.refl _ w1).alloc (Nat.le_refl _) (.cells #[.int .i64 t.k,.string (strB t.b),.int .i64 t.at_] 148))
  have hb1:=HB1.out
  refine hid ⟨((HX.out.keep (TFr.of_below (K:=fun _=>False) hb1) id).keep (TFr.of_below (K:=fun _=>False) hb2) id),?_,DdTo.of_below HH.out ((HB0.out.trans (hb1.mono (by rw [HSZ.out];omega))).trans (hb2.mono (by rw [HS1.out];omega)))⟩
  have:=Blk.new w1 #[.int .i64 t.k,.string (strB t.b),.int .i64 t.at_] 148
  rw [HS1.out] at this
  exact this
 rw [HS1.out]
 generalize (w1.alloc (.cells #[.int .i64 t.k,.string (strB t.b),.int .i64 t.at_] 148)).drew=w2 at HI
 clear v0 v1 v2 v3 v4 q0 q1 q2 q3 q4 g0 g1 g2 g3 g4 e0 e1 e2 e3 e4 HB1 HS1 HX HB0 HD HSZ HH hHeld0 hHeld1 hHeld2
 have k0:=zab HI.out.tok (k:=0) rfl
 have k1:=zab HI.out.tok (k:=1) rfl
 have hk2 : ((t.k : Int) == 2)=false:=by rw [beq_eq_false_iff_ne];have:=HNK.out;omega
 have hk3 : ((t.k : Int) == 3)=false:=by rw [beq_eq_false_iff_ne];have:=HNK.out;omega
 have HC:=hid (zaj HI.out.rt.rd [45])
 rw [show dIs s 4 [45]=false from HNO.out.1,zai (show dIs s 4 [45]=false from HNO.out.1)] at HC
 have HC2 : Hid (Calls Tryz.prog 141 #[.pointer (some ⟨R,0,none⟩),.int .i64 4,.string ⟨#[45]⟩] w2 fun e w'=>e=.returned (.bool false)∧DdTo R T L s w2 w'):=HC.out
 clear HC
 go_wp2_with fail
 with_reducible refine HC2.out.mono ?_
 rintro e w3 ⟨rfl,hd⟩
 have HI:=hid (HI.out.call hR hd)
 clear hd HC2
 have HC:=hid (zaf HI.out.rt.rd [116,114,117,101])
 rw [show dIs s 1 [116,114,117,101]=false from HNO.out.2.1,zai (show dIs s 1 [116,114,117,101]=false from HNO.out.2.1)] at HC
 have HC2 : Hid (Calls Tryz.prog 141 #[.pointer (some ⟨R,0,none⟩),.int .i64 1,.string ⟨#[116,114,117,101]⟩] w3 fun e w'=>e=.returned (.bool false)∧DdTo R T L s w3 w'):=HC.out
 clear HC
 go_wp2_with fail
 with_reducible refine HC2.out.mono ?_
 rintro e w4 ⟨rfl,hd⟩
 have HI:=hid (HI.out.call hR hd)
 clear hd HC2
 have HC:=hid (zaf HI.out.rt.rd [102,97,108,115,101])
 rw [show dIs s 1 [102,97,108,115,101]=false from HNO.out.2.2.1,zai (show dIs s 1 [102,97,108,115,101]=false from HNO.out.2.2.1)] at HC
 have HC2 : Hid (Calls Tryz.prog 141 #[.pointer (some ⟨R,0,none⟩),.int .i64 1,.string ⟨#[102,97,108,115,101]⟩] w4 fun e w'=>e=.returned (.bool false)∧DdTo R T L s w4 w'):=HC.out
 clear HC
 go_wp2_with fail
 with_reducible refine HC2.out.mono ?_
 rintro e w5 ⟨rfl,hd⟩
 have HI:=hid (HI.out.call hR hd)
 clear hd HC2
 have HC:=hid (zaf HI.out.rt.rd [99,111,117,110,116])
 rw [show dIs s 1 [99,111,117,110,116]=false from HNO.out.2.2.2,zai (show dIs s 1 [99,111,117,110,116]=false from HNO.out.2.2.2)] at HC
 have HC2 : Hid (Calls Tryz.prog 141 #[.pointer (some ⟨R,0,none⟩),.int .i64 1,.string ⟨#[99,111,117,110,116]⟩] w5 fun e w'=>e=.returned (.bool false)∧DdTo R T L s w5 w'):=HC.out
 clear HC
 go_wp2_with fail
 with_reducible refine HC2.out.mono ?_
 rintro e w6 ⟨rfl,hd⟩
 have HI:=hid (HI.out.call hR hd)
 clear hd HC2
 clear hk2 hk3 k0 k1
 go_wp2
 go_loopw [7] (fun i wr=>∃ j : Int,i=.int .i64 j∧Hid ((j=4∧dR3 n s=z)∨(j=5∧dR2 n s=z)∨(j=6∧dR1 n s=z)∨(j=7∧dR0 n s=z))∧Hid (TmIn R T L s t w wr)) (fun i _=>7 - (RowKit.intOf i).toNat)
 case atStart=>exact ⟨4,rfl,hid (.inl ⟨rfl,HZ.out⟩),HI⟩
 case round =>
  clear HI
  obtain ⟨j,rfl,HJ,HI⟩:=hrel
  rcases HJ.out with ⟨rfl,hz⟩|⟨rfl,hz⟩|⟨rfl,hz⟩|⟨rfl,hz⟩
  ·skip
   have hw : IntKind.i64.wrap (4+1)=5:=IntWalk.i64_in _ (by omega)
   go_wp2_with fail
   with_reducible refine (rwk4 wr).mono ?_
   rintro e w7 ⟨rfl,rfl⟩
   cases hp : dIs s 1 [115,117,109] with
   | true =>
     have hz2 : dCall (dSkip s) 4=z:=by rw [← hz,dR3,show dIs s 1 wSum=true from hp,if_pos rfl]
     obtain ⟨⟨y,s1⟩,hy⟩ : ∃ z,dField (dMust (dSkip s) 4 [40]) 4=z:=⟨_,rfl⟩
     unfold dCall at hz2
     rw [hy] at hz2
     subst hz2
     have HA:=hid hy
     clear hz hy HJ
     have HP0:=hid hp
     clear hp
     have HC:=hid (zaf HI.out.rt.rd [115,117,109])
     rw [show dIs s 1 [115,117,109]=true from HP0.out,zah (show dIs s 1 [115,117,109]=true from HP0.out)] at HC
     have HC2 : Hid (Calls Tryz.prog 141 #[.pointer (some ⟨R,0,none⟩),.int .i64 1,.string ⟨#[115,117,109]⟩] wr fun e w'=>e=.returned (.bool true)∧DdTo R T L (dSkip s) wr w'):=HC.out
     clear HC
     go_wp2_with fail
     with_reducible refine HC2.out.mono ?_
     rintro e w8 ⟨rfl,hd⟩
     have HI:=hid (HI.out.call hR hd)
     clear hd HC2
     have HC : Hid (Calls Tryz.prog 139 #[.pointer (some ⟨R,0,none⟩),.int .i64 4,.string ⟨#[40]⟩] w8 fun e w'=>e=.returned (.tuple #[])∧DdTo R T L (dMust (dSkip s) 4 [40]) w8 w'):=hid (zat HI.out.rt.rd [40])
     go_wp2_with fail
     with_reducible refine HC.out.mono ?_
     rintro e w9 ⟨rfl,hd⟩
     have HI:=hid (HI.out.call hR hd)
     clear hd HC
     have HC2:=hid (DxTo.plain HA.out (zaR HI.out.rt.rd 4))
     go_wp2_with fail
     with_reducible refine HC2.out.mono ?_
     rintro e w10 ⟨kv,dx,rfl,hkv,hd⟩
     have HSW:=hid HI.out.res.lt
     obtain ⟨a4,m4,rfl⟩:=hkv.slice
     obtain ⟨q4,hq4⟩ : ∃ q,y.ks.length=q:=⟨_,rfl⟩
     rw [hq4] at hkv ⊢
     have HI:=hid (HI.out.call hR hd)
     have hb5:=(Below.refl w10.heap.size w10).alloc (Nat.le_refl _) (.cells #[.int .i64 y.k,.int .i64 y.v.k,.int .i64 y.v.n,.string (strB y.v.s),.string (strB y.x),.string (strB y.f),.slice a4 q4 m4] 89)
     have HI:=hid (HI.out.low hb5)
     have HY:=hid (XBlk.new w10 (.int .i64 y.k) (.int .i64 y.v.k) (.int .i64 y.v.n) (.string (strB y.v.s)) (.string (strB y.x)) (.string (strB y.f)) (.slice a4 q4 m4))
     have HKV:=hid (hkv.keepR (TFr.of_below (K:=(·=R)) hb5) (Nat.lt_trans hR HSW.out))
     have HLT : Hid (w.heap.size < w10.heap.size):=hid (Nat.lt_of_lt_of_le HSW.out hd.fr.size)
     clear hkv hd hq4 hb5 HC2
     simp only [xexV]
     have HC : Hid (Calls Tryz.prog 139 #[.pointer (some ⟨R,0,none⟩),.int .i64 4,.string ⟨#[41]⟩] (w10.alloc (.cells #[.int .i64 y.k,.int .i64 y.v.k,.int .i64 y.v.n,.string (strB y.v.s),.string (strB y.x),.string (strB y.f),.slice a4 q4 m4] 89)) fun e w'=>e=.returned (.tuple #[])∧DdTo R T L (dMust s1 4 [41]) (w10.alloc (.cells #[.int .i64 y.k,.int .i64 y.v.k,.int .i64 y.v.n,.string (strB y.v.s),.string (strB y.x),.string (strB y.f),.slice a4 q4 m4] 89)) w'):=hid (zat HI.out.rt.rd [41])
     go_wp2_with fail
     with_reducible refine HC.out.mono ?_
     rintro e w11 ⟨rfl,hd⟩
     have HI:=hid (HI.out.call hR hd)
     have HY:=hid (HY.out.keep hd.fr (by have:=HLT.out;omega))
     have KV:=hid (HKV.out.keepR hd.fr (Nat.lt_trans hR HSW.out))
     clear hd HC HKV
     obtain ⟨r0,r1,r2,r3,r4,r5,r6,h0,h1,h2,h3,h4,h5,h6⟩:=HI.out.res.all
     obtain ⟨c0,c1,c2,c3,c4,c5,c6,_,_,_,_,_,_,_⟩:=HY.out.all
     clear HY
     go_wp2
     refine bodyPost_ret (v:=exV y (.slice a4 q4 m4)) (by simp [results,Tryz.results218,go_sem,r0,r1,r2,r3,r4,r5,r6];rfl) rfl ⟨_,dx,rfl,?_,HI.out.rt.set7 hR (Nat.le_refl _) _ _ _ _ _ _ _⟩
     exact (KV.out.set7 (b:=w.heap.size) HSW.out _ _ _ _ _ _ _).after (Nat.le_of_lt HSW.out)
   | false =>
     have hz2 : dR2 n s=z:=by rw [← hz,dR3,show dIs s 1 wSum=false from hp,if_neg (by simp)]
     have HZ2:=hid hz2
     have HP0:=hid hp
     clear hz hz2 HJ hp
     have HC:=hid (zaf HI.out.rt.rd [115,117,109])
     rw [show dIs s 1 [115,117,109]=false from HP0.out,zai (show dIs s 1 [115,117,109]=false from HP0.out)] at HC
     have HC2 : Hid (Calls Tryz.prog 141 #[.pointer (some ⟨R,0,none⟩),.int .i64 1,.string ⟨#[115,117,109]⟩] wr fun e w'=>e=.returned (.bool false)∧DdTo R T L s wr w'):=HC.out
     clear HC
     go_wp2_with fail
     with_reducible refine HC2.out.mono ?_
     rintro e w8 ⟨rfl,hd⟩
     have HI:=hid (HI.out.call hR hd)
     clear hd HC2
     go_wp2
     exact ⟨⟨5,rfl,hid (.inr (.inl ⟨rfl,HZ2.out⟩)),HI⟩,by simp [RowKit.intOf]⟩
  ·skip
   have hw : IntKind.i64.wrap (5+1)=6:=IntWalk.i64_in _ (by omega)
   go_wp2_with fail
   with_reducible refine (rwk5 wr).mono ?_
   rintro e w7 ⟨rfl,rfl⟩
   cases hp : dIs s 1 [109,105,110] with
   | true =>
     have hz2 : dCall (dSkip s) 5=z:=by rw [← hz,dR2,show dIs s 1 wMin=true from hp,if_pos rfl]
     obtain ⟨⟨y,s1⟩,hy⟩ : ∃ z,dField (dMust (dSkip s) 4 [40]) 5=z:=⟨_,rfl⟩
     unfold dCall at hz2
     rw [hy] at hz2
     subst hz2
     have HA:=hid hy
     clear hz hy HJ
     have HP0:=hid hp
     clear hp
     have HC:=hid (zaf HI.out.rt.rd [109,105,110])
     rw [show dIs s 1 [109,105,110]=true from HP0.out,zah (show dIs s 1 [109,105,110]=true from HP0.out)] at HC
     have HC2 : Hid (Calls Tryz.prog 141 #[.pointer (some ⟨R,0,none⟩),.int .i64 1,.string ⟨#[109,105,110]⟩] wr fun e w'=>e=.returned (.bool true)∧DdTo R T L (dSkip s) wr w'):=HC.out
     clear HC
     go_wp2_with fail
     with_reducible refine HC2.out.mono ?_
     rintro e w8 ⟨rfl,hd⟩
     have HI:=hid (HI.out.call hR hd)
     clear hd HC2
     have HC : Hid (Calls Tryz.prog 139 #[.pointer (some ⟨R,0,none⟩),.int .i64 4,.string ⟨#[40]⟩] w8 fun e w'=>e=.returned (.tuple #[])∧DdTo R T L (dMust (dSkip s) 4 [40]) w8 w'):=hid (zat HI.out.rt.rd [40])
     go_wp2_with fail
     with_reducible refine HC.out.mono ?_
     rintro e w9 ⟨rfl,hd⟩
     have HI:=hid (HI.out.call hR hd)
     clear hd HC
     have HC2:=hid (DxTo.plain HA.out (zaR HI.out.rt.rd 5))
     go_wp2_with fail
     with_reducible refine HC2.out.mono ?_
     rintro e w10 ⟨kv,dx,rfl,hkv,hd⟩
     have HSW:=hid HI.out.res.lt
     obtain ⟨a4,m4,rfl⟩:=hkv.slice
     obtain ⟨q4,hq4⟩ : ∃ q,y.ks.length=q:=⟨_,rfl⟩
     rw [hq4] at hkv ⊢
     have HI:=hid (HI.out.call hR hd)
     have hb5:=(Below.refl w10.heap.size w10).alloc (Nat.le_refl _) (.cells #[.int .i64 y.k,.int .i64 y.v.k,.int .i64 y.v.n,.string (strB y.v.s),.string (strB y.x),.string (strB y.f),.slice a4 q4 m4] 89)
     have HI:=hid (HI.out.low hb5)
     have HY:=hid (XBlk.new w10 (.int .i64 y.k) (.int .i64 y.v.k) (.int .i64 y.v.n) (.string (strB y.v.s)) (.string (strB y.x)) (.string (strB y.f)) (.slice a4 q4 m4))
     have HKV:=hid (hkv.keepR (TFr.of_below (K:=(·=R)) hb5) (Nat.lt_trans hR HSW.out))
     have HLT : Hid (w.heap.size < w10.heap.size):=hid (Nat.lt_of_lt_of_le HSW.out hd.fr.size)
     clear hkv hd hq4 hb5 HC2
     simp only [xexV]
     have HC : Hid (Calls Tryz.prog 139 #[.pointer (some ⟨R,0,none⟩),.int .i64 4,.string ⟨#[41]⟩] (w10.alloc (.cells #[.int .i64 y.k,.int .i64 y.v.k,.int .i64 y.v.n,.string (strB y.v.s),.string (strB y.x),.string (strB y.f),.slice a4 q4 m4] 89)) fun e w'=>e=.returned (.tuple #[])∧DdTo R T L (dMust s1 4 [41]) (w10.alloc (.cells #[.int .i64 y.k,.int .i64 y.v.k,.int .i64 y.v.n,.string (strB y.v.s),.string (strB y.x),.string (strB y.f),.slice a4 q4 m4] 89)) w'):=hid (zat HI.out.rt.rd [41])
     go_wp2_with fail
     with_reducible refine HC.out.mono ?_
     rintro e w11 ⟨rfl,hd⟩
     have HI:=hid (HI.out.call hR hd)
     have HY:=hid (HY.out.keep hd.fr (by have:=HLT.out;omega))
     have KV:=hid (HKV.out.keepR hd.fr (Nat.lt_trans hR HSW.out))
     clear hd HC HKV
     obtain ⟨r0,r1,r2,r3,r4,r5,r6,h0,h1,h2,h3,h4,h5,h6⟩:=HI.out.res.all
     obtain ⟨c0,c1,c2,c3,c4,c5,c6,_,_,_,_,_,_,_⟩:=HY.out.all
     clear HY
     go_wp2
     refine bodyPost_ret (v:=exV y (.slice a4 q4 m4)) (by simp [results,Tryz.results218,go_sem,r0,r1,r2,r3,r4,r5,r6];rfl) rfl ⟨_,dx,rfl,?_,HI.out.rt.set7 hR (Nat.le_refl _) _ _ _ _ _ _ _⟩
     exact (KV.out.set7 (b:=w.heap.size) HSW.out _ _ _ _ _ _ _).after (Nat.le_of_lt HSW.out)
   | false =>
     have hz2 : dR1 n s=z:=by rw [← hz,dR2,show dIs s 1 wMin=false from hp,if_neg (by simp)]
     have HZ2:=hid hz2
     have HP0:=hid hp
     clear hz hz2 HJ hp
     have HC:=hid (zaf HI.out.rt.rd [109,105,110])
     rw [show dIs s 1 [109,105,110]=false from HP0.out,zai (show dIs s 1 [109,105,110]=false from HP0.out)] at HC
     have HC2 : Hid (Calls Tryz.prog 141 #[.pointer (some ⟨R,0,none⟩),.int .i64 1,.string ⟨#[109,105,110]⟩] wr fun e w'=>e=.returned (.bool false)∧DdTo R T L s wr w'):=HC.out
     clear HC
     go_wp2_with fail
     with_reducible refine HC2.out.mono ?_
     rintro e w8 ⟨rfl,hd⟩
     have HI:=hid (HI.out.call hR hd)
     clear hd HC2
     go_wp2
     exact ⟨⟨6,rfl,hid (.inr (.inr (.inl ⟨rfl,HZ2.out⟩))),HI⟩,by simp [RowKit.intOf]⟩
  ·skip
   have hw : IntKind.i64.wrap (6+1)=7:=IntWalk.i64_in _ (by omega)
   go_wp2_with fail
   with_reducible refine (rwk6 wr).mono ?_
   rintro e w7 ⟨rfl,rfl⟩
   cases hp : dIs s 1 [109,97,120] with
   | true =>
     have hz2 : dCall (dSkip s) 6=z:=by rw [← hz,dR1,show dIs s 1 wMax=true from hp,if_pos rfl]
     obtain ⟨⟨y,s1⟩,hy⟩ : ∃ z,dField (dMust (dSkip s) 4 [40]) 6=z:=⟨_,rfl⟩
     unfold dCall at hz2
     rw [hy] at hz2
     subst hz2
     have HA:=hid hy
     clear hz hy HJ
     have HP0:=hid hp
     clear hp
     have HC:=hid (zaf HI.out.rt.rd [109,97,120])
     rw [show dIs s 1 [109,97,120]=true from HP0.out,zah (show dIs s 1 [109,97,120]=true from HP0.out)] at HC
     have HC2 : Hid (Calls Tryz.prog 141 #[.pointer (some ⟨R,0,none⟩),.int .i64 1,.string ⟨#[109,97,120]⟩] wr fun e w'=>e=.returned (.bool true)∧DdTo R T L (dSkip s) wr w'):=HC.out
     clear HC
     go_wp2_with fail
     with_reducible refine HC2.out.mono ?_
     rintro e w8 ⟨rfl,hd⟩
     have HI:=hid (HI.out.call hR hd)
     clear hd HC2
     have HC : Hid (Calls Tryz.prog 139 #[.pointer (some ⟨R,0,none⟩),.int .i64 4,.string ⟨#[40]⟩] w8 fun e w'=>e=.returned (.tuple #[])∧DdTo R T L (dMust (dSkip s) 4 [40]) w8 w'):=hid (zat HI.out.rt.rd [40])
     go_wp2_with fail
     with_reducible refine HC.out.mono ?_
     rintro e w9 ⟨rfl,hd⟩
     have HI:=hid (HI.out.call hR hd)
     clear hd HC
     have HC2:=hid (DxTo.plain HA.out (zaR HI.out.rt.rd 6))
     go_wp2_with fail
     with_reducible refine HC2.out.mono ?_
     rintro e w10 ⟨kv,dx,rfl,hkv,hd⟩
     have HSW:=hid HI.out.res.lt
     obtain ⟨a4,m4,rfl⟩:=hkv.slice
     obtain ⟨q4,hq4⟩ : ∃ q,y.ks.length=q:=⟨_,rfl⟩
     rw [hq4] at hkv ⊢
     have HI:=hid (HI.out.call hR hd)
     have hb5:=(Below.refl w10.heap.size w10).alloc (Nat.le_refl _) (.cells #[.int .i64 y.k,.int .i64 y.v.k,.int .i64 y.v.n,.string (strB y.v.s),.string (strB y.x),.string (strB y.f),.slice a4 q4 m4] 89)
     have HI:=hid (HI.out.low hb5)
     have HY:=hid (XBlk.new w10 (.int .i64 y.k) (.int .i64 y.v.k) (.int .i64 y.v.n) (.string (strB y.v.s)) (.string (strB y.x)) (.string (strB y.f)) (.slice a4 q4 m4))
     have HKV:=hid (hkv.keepR (TFr.of_below (K:=(·=R)) hb5) (Nat.lt_trans hR HSW.out))
     have HLT : Hid (w.heap.size < w10.heap.size):=hid (Nat.lt_of_lt_of_le HSW.out hd.fr.size)
     clear hkv hd hq4 hb5 HC2
     simp only [xexV]
     have HC : Hid (Calls Tryz.prog 139 #[.pointer (some ⟨R,0,none⟩),.int .i64 4,.string ⟨#[41]⟩] (w10.alloc (.cells #[.int .i64 y.k,.int .i64 y.v.k,.int .i64 y.v.n,.string (strB y.v.s),.string (strB y.x),.string (strB y.f),.slice a4 q4 m4] 89)) fun e w'=>e=.returned (.tuple #[])∧DdTo R T L (dMust s1 4 [41]) (w10.alloc (.cells #[.int .i64 y.k,.int .i64 y.v.k,.int .i64 y.v.n,.string (strB y.v.s),.string (strB y.x),.string (strB y.f),.slice a4 q4 m4] 89)) w'):=hid (zat HI.out.rt.rd [41])
     go_wp2_with fail
     with_reducible refine HC.out.mono ?_
     rintro e w11 ⟨rfl,hd⟩
     have HI:=hid (HI.out.call hR hd)
     have HY:=hid (HY.out.keep hd.fr (by have:=HLT.out;omega))
     have KV:=hid (HKV.out.keepR hd.fr (Nat.lt_trans hR HSW.out))
     clear hd HC HKV
     obtain ⟨r0,r1,r2,r3,r4,r5,r6,h0,h1,h2,h3,h4,h5,h6⟩:=HI.out.res.all
     obtain ⟨c0,c1,c2,c3,c4,c5,c6,_,_,_,_,_,_,_⟩:=HY.out.all
     clear HY
     go_wp2
     refine bodyPost_ret (v:=exV y (.slice a4 q4 m4)) (by simp [results,Tryz.results218,go_sem,r0,r1,r2,r3,r4,r5,r6];rfl) rfl ⟨_,dx,rfl,?_,HI.out.rt.set7 hR (Nat.le_refl _) _ _ _ _ _ _ _⟩
     exact (KV.out.set7 (b:=w.heap.size) HSW.out _ _ _ _ _ _ _).after (Nat.le_of_lt HSW.out)
   | false =>
     have hz2 : dR0 n s=z:=by rw [← hz,dR1,show dIs s 1 wMax=false from hp,if_neg (by simp)]
     have HZ2:=hid hz2
     have HP0:=hid hp
     clear hz hz2 HJ hp
     have HC:=hid (zaf HI.out.rt.rd [109,97,120])
     rw [show dIs s 1 [109,97,120]=false from HP0.out,zai (show dIs s 1 [109,97,120]=false from HP0.out)] at HC
     have HC2 : Hid (Calls Tryz.prog 141 #[.pointer (some ⟨R,0,none⟩),.int .i64 1,.string ⟨#[109,97,120]⟩] wr fun e w'=>e=.returned (.bool false)∧DdTo R T L s wr w'):=HC.out
     clear HC
     go_wp2_with fail
     with_reducible refine HC2.out.mono ?_
     rintro e w8 ⟨rfl,hd⟩
     have HI:=hid (HI.out.call hR hd)
     clear hd HC2
     go_wp2
     exact ⟨⟨7,rfl,hid (.inr (.inr (.inr ⟨rfl,HZ2.out⟩))),HI⟩,by simp [RowKit.intOf]⟩
  ·unfold dR0 at hz
   cases hp : dIs s 4 [40] with
   | false =>
     rw [hp,if_neg (by simp)] at hz
     obtain ⟨⟨y,s1⟩,hy⟩ : ∃ z,dField s 2=z:=⟨_,rfl⟩
     rw [hy] at hz
     subst hz
     have HA:=hid hy
     have HP0:=hid hp
     clear hy hp HJ
     have HC:=hid (zb5 HI.out.rt.rd [40])
     rw [HP0.out] at HC
     have HC2 : Hid (Calls Tryz.prog 182 #[.pointer (some ⟨R,0,none⟩),.int .i64 4,.string ⟨#[40]⟩] wr fun e w'=>e=.returned (.bool false)∧Below wr.heap.size wr w'):=HC.out
     clear HC
     go_wp2_with fail
     with_reducible refine HC2.out.mono ?_
     rintro e w7 ⟨rfl,hb⟩
     have HI:=hid (HI.out.low hb)
     clear hb HC2
     have HC2:=hid (DxTo.plain HA.out (zaR HI.out.rt.rd 2))
     go_wp2_with fail
     with_reducible refine HC2.out.mono ?_
     rintro e w8 ⟨kv,dx,rfl,hkv,hd⟩
     have HSW:=hid HI.out.res.lt
     obtain ⟨a4,m4,rfl⟩:=hkv.slice
     obtain ⟨q4,hq4⟩ : ∃ q,y.ks.length=q:=⟨_,rfl⟩
     rw [hq4] at hkv ⊢
     have HI:=hid (HI.out.call hR hd)
     have KV:=hid hkv
     clear hkv hd hq4 HC2
     simp only [xexV]
     obtain ⟨r0,r1,r2,r3,r4,r5,r6,h0,h1,h2,h3,h4,h5,h6⟩:=HI.out.res.all
     go_wp2
     refine bodyPost_ret (v:=exV y (.slice a4 q4 m4)) (by simp [results,Tryz.results218,go_sem,r0,r1,r2,r3,r4,r5,r6];rfl) rfl ⟨_,dx,rfl,?_,HI.out.rt.set7 hR (Nat.le_refl _) _ _ _ _ _ _ _⟩
     exact (KV.out.set7 (b:=w.heap.size) HSW.out _ _ _ _ _ _ _).after (Nat.le_of_lt HSW.out)
   | true =>
     by_cases hd6 : s.deep < 6
     ·rw [hp,if_pos ⟨rfl,hd6⟩] at hz
      obtain ⟨⟨y,s1⟩,hy⟩ : ∃ z,dExpr (dTerm n) n (dOpen s)=z:=⟨_,rfl⟩
      unfold dInner at hz
      have hed:=HED.out
      rw [hy] at hz hed
      dsimp only at hz hed
      subst hz
      have HA:=hid hy
      have HP0:=hid hp
      have HD6:=hid hd6
      have HED2:=hid hed
      clear hy hp HJ hd6 hed
      have HC:=hid (zb5 HI.out.rt.rd [40])
      rw [HP0.out] at HC
      have HC2 : Hid (Calls Tryz.prog 182 #[.pointer (some ⟨R,0,none⟩),.int .i64 4,.string ⟨#[40]⟩] wr fun e w'=>e=.returned (.bool true)∧Below wr.heap.size wr w'):=HC.out
      clear HC
      go_wp2_with fail
      with_reducible refine HC2.out.mono ?_
      rintro e w7 ⟨rfl,hb⟩
      have HI:=hid (HI.out.low hb)
      clear hb HC2
      obtain ⟨a,c2,hd2⟩:=HI.out.rt.rd
      have d1:=hd2.c1
      have f1:=hd2.f 1
      have d3:=hd2.c3
      rw [HP.out] at d1
      have ht : decide ((s.deep : Int) < 6)=true:=by rw [decide_eq_true_eq];have:=HD6.out;omega
      have hw1 : IntKind.i64.wrap ((p : Int)+1)=(p : Int)+1:=IntWalk.i64_in _ (by have:=HLN.out;have:=HP.out;omega)
      have hw3 : IntKind.i64.wrap ((s.deep : Int)+1)=((s.deep+1 : Nat) : Int):=by rw [IntWalk.i64_in _ (by have:=HD6.out;omega)];omega
      obtain ⟨D,hD⟩ : ∃ D,s.deep+1=D:=⟨_,rfl⟩
      have HJ:=hid (HI.out.skip hR HSL.out (x:=(p : Int)+1) (by rw [HP.out]))
      obtain ⟨a5,c5,hd5⟩:=HJ.out.rt.rd
      have e3 : (w7.setCell ⟨R,1,none⟩ (.int .i64 ((p : Int)+1))).cell? ⟨R,3,none⟩=some (.int .i64 s.deep):=hd5.c3
      have f3:=hd5.f 3
      have HK : Hid (TmIn R T L (dOpen s) t w ((w7.setCell ⟨R,1,none⟩ (.int .i64 ((p : Int)+1))).setCell ⟨R,3,none⟩ (.int .i64 (D : Nat)))):=hid (HJ.out.setDeep hR (x:=s.deep+1) (by have:=HD6.out;omega) (by rw [hD]))
      have HB:=hid (DxTo.plain HA.out (HEX.out HP0.out HD6.out _ HK.out.rt.rd))
      rw [hD] at hw3
      have HDD:=hid hD
      clear hd2 hd5 HI HJ HEX hD
      have HI:=HK
      clear HK
      go_wp2_with fail
      generalize (w7.setCell ⟨R,1,none⟩ (.int .i64 ((p : Int)+1))).setCell ⟨R,3,none⟩ (.int .i64 (D : Nat))=w10 at HB HI ⊢
      clear d1 f1 d3 ht hw1 hw3 e3 f3
      with_reducible refine HB.out.mono ?_
      rintro e w8 ⟨kv,dx,rfl,hkv,hd⟩
      have HSW:=hid HI.out.res.lt
      obtain ⟨a4,m4,rfl⟩:=hkv.slice
      obtain ⟨q4,hq4⟩ : ∃ q,y.ks.length=q:=⟨_,rfl⟩
      rw [hq4] at hkv ⊢
      have HI:=hid (HI.out.call hR hd)
      have hb5:=(Below.refl w8.heap.size w8).alloc (Nat.le_refl _) (.cells #[.int .i64 y.k,.int .i64 y.v.k,.int .i64 y.v.n,.string (strB y.v.s),.string (strB y.x),.string (strB y.f),.slice a4 q4 m4] 89)
      have HI:=hid (HI.out.low hb5)
      have HY:=hid (XBlk.new w8 (.int .i64 y.k) (.int .i64 y.v.k) (.int .i64 y.v.n) (.string (strB y.v.s)) (.string (strB y.x)) (.string (strB y.f)) (.slice a4 q4 m4))
      have HKV:=hid (hkv.keepR (TFr.of_below (K:=(·=R)) hb5) (Nat.lt_trans hR HSW.out))
      have HLT : Hid (w.heap.size < w8.heap.size):=hid (Nat.lt_of_lt_of_le HSW.out hd.fr.size)
      clear hkv hd hq4 hb5 HB
      simp only [xexV]
      have HC : Hid (Calls Tryz.prog 139 #[.pointer (some ⟨R,0,none⟩),.int .i64 4,.string ⟨#[41]⟩] (w8.alloc (.cells #[.int .i64 y.k,.int .i64 y.v.k,.int .i64 y.v.n,.string (strB y.v.s),.string (strB y.x),.string (strB y.f),.slice a4 q4 m4] 89)) fun e w'=>e=.returned (.tuple #[])∧DdTo R T L (dMust s1 4 [41]) (w8.alloc (.cells #[.int .i64 y.k,.int .i64 y.v.k,.int .i64 y.v.n,.string (strB y.v.s),.string (strB y.x),.string (strB y.f),.slice a4 q4 m4] 89)) w'):=hid (zat HI.out.rt.rd [41])
      go_wp2_with fail
      with_reducible refine HC.out.mono ?_
      rintro e w9 ⟨rfl,hd⟩
      have HI:=hid (HI.out.call hR hd)
      have HY:=hid (HY.out.keep hd.fr (by have:=HLT.out;omega))
      have KV:=hid (HKV.out.keepR hd.fr (Nat.lt_trans hR HSW.out))
      clear hd HC HKV
      obtain ⟨a6,c6,hd6⟩:=HI.out.rt.rd
      have dd : (dMust s1 4 [41]).deep=D:=by rw [zaH,HED2.out,HDD.out]
      have d3:=hd6.c3
      have f3:=hd6.f 3
      rw [dd] at d3
      have hw : IntKind.i64.wrap ((D : Int) - 1)=(s.deep : Int):=by rw [IntWalk.i64_in _ (by have:=HDD.out;have:=HD6.out;omega)];have:=HDD.out;omega
      have hsh : dShut (dMust s1 4 [41])=⟨(dMust s1 4 [41]).l,s.deep,(dMust s1 4 [41]).bad⟩:=by unfold dShut;rw [dd,← HDD.out];rfl
      have HI : Hid (TmIn R T L (dShut (dMust s1 4 [41])) t w (w9.setCell ⟨R,3,none⟩ (.int .i64 (s.deep : Int)))):=hid (by rw [hsh];exact HI.out.setDeep hR (x:=s.deep) (by have:=HD6.out;omega) (v:=(s.deep : Int)) rfl)
      have HY:=hid (HY.out.keep (TFr.at R 3 (.int .i64 (s.deep : Int))) (by have:=HLT.out;omega))
      have KV:=hid (KV.out.keepR (TFr.at R 3 (.int .i64 (s.deep : Int))) (Nat.lt_trans hR HSW.out))
      clear hd6 dd hsh
      obtain ⟨r0,r1,r2,r3,r4,r5,r6,h0,h1,h2,h3,h4,h5,h6⟩:=HI.out.res.all
      obtain ⟨c0,c1,c2,c3,c4,c5,c6,_,_,_,_,_,_,_⟩:=HY.out.all
      clear HY
      go_wp2
      refine bodyPost_ret (v:=exV y (.slice a4 q4 m4)) (by simp [results,Tryz.results218,go_sem,r0,r1,r2,r3,r4,r5,r6];rfl) rfl ⟨_,dx,rfl,?_,HI.out.rt.set7 hR (Nat.le_refl _) _ _ _ _ _ _ _⟩
      exact (KV.out.set7 (b:=w.heap.size) HSW.out _ _ _ _ _ _ _).after (Nat.le_of_lt HSW.out)
     ·rw [hp,if_neg (fun h=>hd6 h.2)] at hz
      obtain ⟨⟨y,s1⟩,hy⟩ : ∃ z,dField s 2=z:=⟨_,rfl⟩
      rw [hy] at hz
      subst hz
      have HA:=hid hy
      have HP0:=hid hp
      clear hy hp HJ
      have HD6:=hid hd6
      clear hd6
      have HC:=hid (zb5 HI.out.rt.rd [40])
      rw [HP0.out] at HC
      have HC2 : Hid (Calls Tryz.prog 182 #[.pointer (some ⟨R,0,none⟩),.int .i64 4,.string ⟨#[40]⟩] wr fun e w'=>e=.returned (.bool true)∧Below wr.heap.size wr w'):=HC.out
      clear HC
      go_wp2_with fail
      with_reducible refine HC2.out.mono ?_
      rintro e w7 ⟨rfl,hb⟩
      have HI:=hid (HI.out.low hb)
      clear hb HC2
      obtain ⟨a,c2,hd2⟩:=HI.out.rt.rd
      have d3:=hd2.c3
      have ht : decide ((s.deep : Int) < 6)=false:=by rw [decide_eq_false_iff_not];have:=HD6.out;omega
      clear hd2
      have HC2:=hid (DxTo.plain HA.out (zaR HI.out.rt.rd 2))
      go_wp2_with fail
      with_reducible refine HC2.out.mono ?_
      rintro e w8 ⟨kv,dx,rfl,hkv,hd⟩
      have HSW:=hid HI.out.res.lt
      obtain ⟨a4,m4,rfl⟩:=hkv.slice
      obtain ⟨q4,hq4⟩ : ∃ q,y.ks.length=q:=⟨_,rfl⟩
      rw [hq4] at hkv ⊢
      have HI:=hid (HI.out.call hR hd)
      have KV:=hid hkv
      clear hkv hd hq4 HC2
      simp only [xexV]
      obtain ⟨r0,r1,r2,r3,r4,r5,r6,h0,h1,h2,h3,h4,h5,h6⟩:=HI.out.res.all
      clear d3 ht
      go_wp2
      refine bodyPost_ret (v:=exV y (.slice a4 q4 m4)) (by simp [results,Tryz.results218,go_sem,r0,r1,r2,r3,r4,r5,r6];rfl) rfl ⟨_,dx,rfl,?_,HI.out.rt.set7 hR (Nat.le_refl _) _ _ _ _ _ _ _⟩
      exact (KV.out.set7 (b:=w.heap.size) HSW.out _ _ _ _ _ _ _).after (Nat.le_of_lt HSW.out)
theorem zgV {R T : Nat} {L : List XTok} {s : DS} {w : World} (h : DdR w R T L s) : 0≤(dNum (dSkip s)).1∧(dNum (dSkip s)).1≤9223372036854775807:=by
 obtain ⟨a,c,h⟩:=h
 unfold dNum
 split
 ·rename_i hk
  dsimp only
  refine ⟨Int.natCast_nonneg _,?_⟩
  cases hl : s.l with
  | nil=>rw [show dHead (dSkip s)=[] by unfold dHead dSkip;rw [hl];rfl];decide
  | cons t r =>
    cases hr : r with
    | nil=>rw [show dHead (dSkip s)=[] by unfold dHead dSkip;rw [hl,hr];rfl];decide
    | cons u q =>
      have hu : DTok u:=h.ok u (h.suf.subset (by rw [hl,hr];simp))
      have hd : dHead (dSkip s)=u.b:=by unfold dHead dSkip;rw [hl,hr];rfl
      have hk2 : u.k=2:=by
       have:=hk.2
       rw [show dKind (dSkip s)=u.k by unfold dKind dSkip;rw [hl,hr];rfl] at this
       exact this
      have:=(hu.1.2.1 hk2).2.2
      rw [hd]
      omega
 ·show (0 : Int)≤0∧(0 : Int)≤9223372036854775807
  omega
theorem zcZ {R T : Nat} {L : List XTok} : ∀ (n : Nat) (w : World) (s : DS),DdR w R T L s→s.deep≤6→s.l.length < n→Calls Tryz.prog 218 #[.pointer (some ⟨R,0,none⟩)] w (DxTo R T L (dTerm n s) w)
 | 0,w,s,h,hok,hn=>absurd hn (Nat.not_lt_zero _)
 | n+1,w,s,h,hok,hn=>by
   by_cases hno : s.bad=true∨s.l=[]
   ·exact zi1 n h hno
   ·have hb : s.bad=false:=by
     cases hb : s.bad with
     | true=>exact absurd (.inl hb) hno
     | false=>rfl
    obtain ⟨t,r,hl⟩ : ∃ t r,s.l=t :: r:=by
     cases hl : s.l with
     | nil=>exact absurd (.inr hl) hno
     | cons t r=>exact ⟨t,r,rfl⟩
    have hkk : dKind s=t.k:=by unfold dKind;rw [hl]
    have hhd : dHead s=t.b:=by unfold dHead;rw [hl]
    rw [dTerm,if_neg hno,hkk,hhd]
    by_cases h2 : t.k=2
    ·rw [if_pos h2]
     exact zia h hb hl h2
    ·rw [if_neg h2]
     by_cases h3 : t.k=3
     ·rw [if_pos h3]
      exact zgW h hb hl h3
     ·rw [if_neg h3]
      cases hm : dIs s 4 [45] with
      | true =>
        rw [if_pos rfl]
        exact zib h hb hl ⟨h2,h3⟩ hm (zgV h)
      | false =>
        rw [if_neg (by simp)]
        cases ht : dIs s 1 bTrue with
        | true =>
          rw [if_pos rfl]
          exact zgX h hb hl ⟨h2,h3⟩ ⟨hm,ht⟩
        | false =>
          rw [if_neg (by simp)]
          cases hf : dIs s 1 bFalse with
          | true =>
            rw [if_pos rfl]
            exact zfK h hb hl ⟨h2,h3⟩ ⟨hm,ht,hf⟩
          | false =>
            rw [if_neg (by simp)]
            cases hc : dIs s 1 wCount with
            | true =>
              rw [if_pos rfl]
              exact zfL h hb hl ⟨h2,h3⟩ ⟨hm,ht,hf,hc⟩
            | false =>
              rw [if_neg (by simp)]
              refine zgU h hb hl ⟨h2,h3⟩ ⟨hm,ht,hf,hc⟩ (n:=n) (fun _ h6 W hW=>?_) (zbb (zaM n) n _) hok
              have hpos : 0 < n:=by
               rw [hl,List.length_cons] at hn
               omega
              have hlt : (dOpen s).l.length≤n - 1:=by
               show s.l.tail.length≤n - 1
               rw [List.length_tail]
               omega
              exact zc7 (m:=n - 1) (fun w s h hok hm=>zcZ n w s h hok (by omega)) (zbH n) (zaM n) hW (by show s.deep+1≤6;omega) hlt (by omega)
end Go.Proofs.YtkmlfkbpcgkpaaaGreatDoor
