/- Texts that others want. -/
import Derived.Test.YtkmlfkbpcgkpaaaGreatDoorM0
import Derived.Test.YtkmlfkbpcgkpaaaGreatDoorM4
import Derived.Test.YtkmlfkbpcgkpaaaGreatDoorM5
import Derived.Test.YtkmlfkbpcgkpaaaGreatDoorM6
import Derived.Lib.AppendZeros
namespace Go.Proofs.YtkmlfkbpcgkpaaaGreatDoor
open Go.RowKit Go.Lib Go.Op
set_option maxHeartbeats 8000000
set_option maxRecDepth 100000
theorem zd6 {a b : ByteArray} (h : a≠b) : (a.toList == b.toList)=false:=by
 rw [beq_eq_false_iff_ne,vtoL,vtoL]
 intro e
 apply h
 obtain ⟨x⟩:=a
 obtain ⟨y⟩:=b
 congr 1
 exact Array.toList_inj.1 e
theorem zgk (a : Option Addr) (c : Nat) (b : Option Addr) (d : Nat) (us vs : List VIn) (w : World) (ha : VRow w a us) (hb : VRow w b vs) (hl : us.length≤maxLen) (hm : vs.length≤maxLen) :
 Calls Tryz.prog 97 #[.slice a us.length c,.slice b vs.length d] w fun e w'=>(∃ g,e=.returned (.bool g))∧Below w.heap.size w w':=by
 have HA:=hid ha
 have HB:=hid hb
 obtain ⟨l,hll⟩ : ∃ l,us.length=l:=⟨_,rfl⟩
 obtain ⟨m,hmm⟩ : ∃ m,vs.length=m:=⟨_,rfl⟩
 rw [hll] at hl ⊢
 rw [hmm] at hm ⊢
 have Hl:=hid hll
 have Hm:=hid hmm
 unfold maxLen at hl hm
 clear ha hb hll hmm
 by_cases hlm : l=m
 ·subst hlm
  go_enter Tryz.func97,Tryz.ntmps97
  go_wp2
  go_loopw [5] (fun i wr=>∃ k : Nat,i=.int .i64 k∧k≤l∧Hid (Below w.heap.size w wr)) (fun i _=>l - (RowKit.intOf i).toNat)
  case atStart=>exact ⟨0,rfl,Nat.zero_le _,Below.refl _ _⟩
  case round =>
   obtain ⟨k,rfl,hk,HBl⟩:=hrel
   by_cases hlt : k < l
   ·obtain ⟨x,hx⟩ : ∃ x,us[k]?=some x:=⟨_,List.getElem?_eq_getElem (by rw [Hl.out];exact hlt)⟩
    obtain ⟨y,hy⟩ : ∃ y,vs[k]?=some y:=⟨_,List.getElem?_eq_getElem (by rw [Hm.out];exact hlt)⟩
    obtain ⟨A,rfl,c0,c1,c2,_⟩:=(HA.out.below HBl.out) k x hx
    obtain ⟨B,rfl,d0,d1,d2,_⟩:=(HB.out.below HBl.out) k y hy
    obtain ⟨k1,n1,s1⟩:=x
    obtain ⟨k2,n2,s2⟩:=y
    dsimp only at c0 c1 c2 d0 d1 d2
    unfold efld at c1 c2 d1 d2
    have hk0 : (0 : Int)≤(k : Int):=by omega
    have hk1 : (k : Int) < (l : Int):=by omega
    clear hx hy
    by_cases hkk : k1=k2
    ·subst hkk
     by_cases hnn : n1=n2
     ·subst hnn
      by_cases hss : s1=s2
      ·subst hss
       go_wp2_with fail
       go_quiet (fail)
       have HB1 : Hid (Below w.heap.size w (wr.drewN nq)):=zaF HBl.out _
       go_wp2_with fail
       go_roundw
       case rel=>exact ⟨k+1,by go_num,by omega,HB1⟩
       case measure=>simp [RowKit.intOf];omega
      ·have e1 : (s1.toList == s2.toList)=false:=zd6 hss
       go_wp2_with fail
       go_quiet (fail)
       have HB1 : Hid (Below w.heap.size w (wr.drewN nq)):=zaF HBl.out _
       go_wp2_with fail
       go_ret
       exact ⟨⟨_,rfl⟩,HB1.out⟩
     ·have e1 : (n1 == n2)=false:=by rw [beq_eq_false_iff_ne];exact hnn
      go_wp2_with fail
      go_quiet (fail)
      have HB1 : Hid (Below w.heap.size w (wr.drewN nq)):=zaF HBl.out _
      go_wp2_with fail
      go_ret
      exact ⟨⟨_,rfl⟩,HB1.out⟩
    ·have e1 : (k1 == k2)=false:=by rw [beq_eq_false_iff_ne];exact hkk
     go_wp2_with fail
     go_quiet (fail)
     have HB1 : Hid (Below w.heap.size w (wr.drewN nq)):=zaF HBl.out _
     go_wp2_with fail
     go_ret
     exact ⟨⟨_,rfl⟩,HB1.out⟩
   ·go_wp2
    go_ret
    exact ⟨⟨_,rfl⟩,HBl.out⟩
 ·have hd : ((l : Int) != (m : Int))=true:=by simp;omega
  go_enter Tryz.func97,Tryz.ntmps97
  go_wp2
  go_ret
  exact ⟨⟨_,rfl⟩,Below.refl _ _⟩
theorem zd7 (t d s : Int) (n : ByteArray) (a : Option Addr) (c : Nat) (vs : List VIn) (t' d' s' : Int) (n' : ByteArray) (a' : Option Addr) (c' : Nat) (vs' : List VIn) (w : World) (hx : VRow w a vs) (hy : VRow w a' vs') (hl : vs.length≤maxLen) (hm : vs'.length≤maxLen) :
 Calls Tryz.prog 62 #[evV t d s n (.slice a vs.length c),evV t' d' s' n' (.slice a' vs'.length c')] w fun e w'=>(∃ g : Bool,e=.returned (.bool g)∧((t,d,s,n,vs)=(t',d',s',n',vs')→g=true))∧Below w.heap.size w w':=by
 by_cases hc : (t,d,s,n,vs)=(t',d',s',n',vs')
 ·simp only [Prod.mk.injEq] at hc
  obtain ⟨rfl,rfl,rfl,rfl,rfl⟩:=hc
  exact (zdR t d s n a c a' c' vs w hx hy hl).mono fun e w' ⟨h1,h2⟩=>⟨⟨true,h1,fun _=>rfl⟩,h2⟩
 have hB0 : Below w.heap.size w ((w.alloc (.cells #[.int .i64 t,.int .i64 d,.int .i64 s,.string n,.slice a vs.length c] 41)).alloc (.cells #[.int .i64 t',.int .i64 d',.int .i64 s',.string n',.slice a' vs'.length c'] 41)):=((Below.refl _ _).alloc (Nat.le_refl _) _).alloc (by simp) _
 have HS:=hid (zgk a c a' c' vs vs' _ (hx.below hB0) (hy.below hB0) hl hm)
 have HC : Hid (∀ g : Bool,((t,d,s,n,vs)=(t',d',s',n',vs')→g=true)):=fun g h=>absurd h hc
 show Calls Tryz.prog 62 #[evV t d s n (.slice a vs.length c),evV t' d' s' n' (.slice a' vs'.length c')] w _
 obtain ⟨l,hll⟩ : ∃ l,vs.length=l:=⟨_,rfl⟩
 obtain ⟨m,hmm⟩ : ∃ m,vs'.length=m:=⟨_,rfl⟩
 rw [hll,hmm] at hB0 HS
 rw [hll,hmm]
 have HB0:=hid hB0
 clear hx hy hll hmm hB0 hl hm
 obtain ⟨P,hP⟩ : ∃ P : Bool→Prop,∀ g : Bool,P g ↔ ((t,d,s,n,vs)=(t',d',s',n',vs')→g=true):=⟨_,fun _=>Iff.rfl⟩
 have HP : Hid (∀ g,P g):=fun g=>(hP g).2 (HC.out g)
 simp only [← hP]
 clear hP HC hc
 by_cases h1 : t=t'
 ·subst h1
  by_cases h2 : d=d'
  ·subst h2
   by_cases h3 : s=s'
   ·subst h3
    by_cases h4 : n=n'
    ·subst h4
     go_enter Tryz.func62,Tryz.ntmps62
     go_wp2_with (go_at_call 97;refine HS.out.mono ?_;rintro e w1 ⟨⟨g,rfl⟩,hb1⟩)
     go_ret
     exact ⟨⟨g,by simp,HP.out g⟩,HB0.out.trans (hb1.mono HB0.out.size)⟩
    ·have e1 : (n.toList == n'.toList)=false:=zd6 h4
     go_enter Tryz.func62,Tryz.ntmps62
     go_wp2
     go_ret
     exact ⟨⟨false,by simp,HP.out _⟩,HB0.out⟩
   ·have e1 : (s == s')=false:=by rw [beq_eq_false_iff_ne];exact h3
    go_enter Tryz.func62,Tryz.ntmps62
    go_wp2
    go_ret
    exact ⟨⟨false,by simp,HP.out _⟩,HB0.out⟩
  ·have e1 : (d == d')=false:=by rw [beq_eq_false_iff_ne];exact h2
   go_enter Tryz.func62,Tryz.ntmps62
   go_wp2
   go_ret
   exact ⟨⟨false,by simp,HP.out _⟩,HB0.out⟩
 ·have e1 : (t == t')=false:=by rw [beq_eq_false_iff_ne];exact h1
  go_enter Tryz.func62,Tryz.ntmps62
  go_wp2
  go_ret
  exact ⟨⟨false,by simp,HP.out _⟩,HB0.out⟩
def SmTo {α : Type} (x y : α) (w : World) (e : Ending) (w' : World) : Prop:=∃ z : Bool,e=.returned (.bool z)∧(x=y→z=true)∧Below w.heap.size w w'
theorem zd8 {K K2 : Nat→Prop} {w : World} {a b : Option Addr} {c d : Nat} {x y : PEv} (hx : RowK valD K w (.slice a x.vals.length c) x.vals) (hy : RowK valD K2 w (.slice b y.vals.length d) y.vals) (hl : x.vals.length≤maxLen) (hm : y.vals.length≤maxLen) :
 Calls Tryz.prog 62 #[evV' x a c,evV' y b d] w (SmTo x y w):=by
 have h:=zd7 x.ts x.dep x.seq (strB x.name) a c (x.vals.map pvIn) y.ts y.dep y.seq (strB y.name) b d (y.vals.map pvIn) w hx.vrow hy.vrow (by rw [List.length_map];exact hl) (by rw [List.length_map];exact hm)
 rw [List.length_map,List.length_map] at h
 exact h.mono (fun e w' ⟨⟨g,h1,h2⟩,h3⟩=>⟨g,h1,fun e=>h2 (by rw [e]),h3⟩)
def CmE (l : List PEv) : Prop:=l.length≤140737488355328∧∀ e∈l,e.vals.length≤140737488355328
section
variable {K K2 : Nat→Prop} {w : World} {a b : Option Addr} {n m c d : Nat}
theorem zd3 {l s : List PEv} (hl : RowK evD K w (.slice a n c) l) (hs : RowK evD K2 w (.slice b m d) s) (hl2 : CmE l) (hs2 : CmE s) :
 Calls Tryz.prog 35 #[.slice a n c,.slice b m d] w (SmTo l s w):=by
 have HL:=hid hl
 have HS:=hid hs
 have HLV:=hid hl2.2
 have HSV:=hid hs2.2
 have Hn:=hid hl.len
 have Hm:=hid hs.len
 have hn : n≤140737488355328:=by rw [hl.len];exact hl2.1
 have hm : m≤140737488355328:=by rw [hs.len];exact hs2.1
 have HPF : Hid (l≠s→(l=s→false=true)):=fun h e=>absurd e h
 clear hl hs hl2 hs2
 by_cases hnm : n=m
 ·subst hnm
  go_enter Tryz.func35,Tryz.ntmps35
  go_wp2
  go_loopw [5] (fun i wr=>∃ k : Nat,i=.int .i64 k∧k≤n∧Hid (Below w.heap.size w wr)) (fun i _=>n - (RowKit.intOf i).toNat)
  case atStart=>exact ⟨0,rfl,Nat.zero_le _,Below.refl _ _⟩
  case round =>
   obtain ⟨k,rfl,hk,HB⟩:=hrel
   by_cases hlt : k < n
   ·obtain ⟨x,hx⟩ : ∃ x,l[k]?=some x:=⟨_,List.getElem?_eq_getElem (by rw [← Hn.out];exact hlt)⟩
    obtain ⟨y,hy⟩ : ∃ y,s[k]?=some y:=⟨_,List.getElem?_eq_getElem (by rw [← Hm.out];exact hlt)⟩
    obtain ⟨g1,o1,va,vc,rfl,c0,c1,c2,c3,c4,hv,hs⟩:=(HL.out.low HB.out).evAt hx
    obtain ⟨g2,o2,ua,uc,rfl,d0,d1,d2,d3,d4,hu,ht⟩:=(HS.out.low HB.out).evAt hy
    have HNE : Hid (x≠y→l≠s):=fun h e=>by rw [e,hy] at hx;exact h (Option.some.inj hx).symm
    have hvl:=HLV.out x (List.mem_of_getElem? hx)
    have hul:=HSV.out y (List.mem_of_getElem? hy)
    have HC : Hid (∀ W,Below wr.heap.size wr W→Calls Tryz.prog 62 #[evV' x va vc,evV' y ua uc] W fun e w'=>∃ z : Bool,e=.returned (.bool z)∧(z=false→x≠y)∧Below W.heap.size W w'):=fun W hW =>
     (zd8 (hv.low hW) (hu.low hW) (by unfold maxLen;omega) (by unfold maxLen;omega)).mono (fun e w' ⟨z,h1,h2,h3⟩=>⟨z,h1,(fun h e=>by rw [h2 e] at h;cases h),h3⟩)
    unfold evV' at HC
    obtain ⟨t1,p1,q1,nm1,vs1⟩:=x
    obtain ⟨t2,p2,q2,nm2,vs2⟩:=y
    dsimp only at c0 c1 c2 c3 c4 d0 d1 d2 d3 d4 hvl hul HC
    obtain ⟨ln1,hln1⟩ : ∃ z,vs1.length=z:=⟨_,rfl⟩
    obtain ⟨ln2,hln2⟩ : ∃ z,vs2.length=z:=⟨_,rfl⟩
    obtain ⟨nb1,hnb1⟩ : ∃ z,strB nm1=z:=⟨_,rfl⟩
    obtain ⟨nb2,hnb2⟩ : ∃ z,strB nm2=z:=⟨_,rfl⟩
    rw [hln1] at c4
    rw [hln2] at d4
    rw [hnb1] at c3
    rw [hnb2] at d3
    rw [hln1,hln2,hnb1,hnb2] at HC
    have hk0 : (0 : Int)≤(k : Int):=by omega
    have hk1 : (k : Int) < (n : Int):=by omega
    clear hx hy hv hu hs ht hvl hul hln1 hln2 hnb1 hnb2
    go_upto_region 6 with fail
    replace c0 : wr.drew.cell? ⟨g1,o1+k*5,none⟩=some (.int .i64 t1):=c0
    replace c1 : wr.drew.cell? ⟨g1,o1+k*5+1,none⟩=some (.int .i64 p1):=c1
    replace c2 : wr.drew.cell? ⟨g1,o1+k*5+2,none⟩=some (.int .i64 q1):=c2
    replace c3 : wr.drew.cell? ⟨g1,o1+k*5+3,none⟩=some (.string nb1):=c3
    replace c4 : wr.drew.cell? ⟨g1,o1+k*5+4,none⟩=some (.slice va ln1 vc):=c4
    replace d0 : wr.drew.cell? ⟨g2,o2+k*5,none⟩=some (.int .i64 t2):=d0
    replace d1 : wr.drew.cell? ⟨g2,o2+k*5+1,none⟩=some (.int .i64 p2):=d1
    replace d2 : wr.drew.cell? ⟨g2,o2+k*5+2,none⟩=some (.int .i64 q2):=d2
    replace d3 : wr.drew.cell? ⟨g2,o2+k*5+3,none⟩=some (.string nb2):=d3
    replace d4 : wr.drew.cell? ⟨g2,o2+k*5+4,none⟩=some (.slice ua ln2 uc):=d4
    have dd : Hid (Below wr.heap.size wr wr.drew):=zae (Below.refl _ _)
    refine wp_region_held_drew (S:=fun W=>(W.cell? ⟨g1,o1+k*5,none⟩=some (.int .i64 t1))∧(W.cell? ⟨g1,o1+k*5+1,none⟩=some (.int .i64 p1))∧(W.cell? ⟨g1,o1+k*5+2,none⟩=some (.int .i64 q1))∧(W.cell? ⟨g1,o1+k*5+3,none⟩=some (.string nb1))∧(W.cell? ⟨g1,o1+k*5+4,none⟩=some (.slice va ln1 vc))∧(W.cell? ⟨g2,o2+k*5,none⟩=some (.int .i64 t2))∧(W.cell? ⟨g2,o2+k*5+1,none⟩=some (.int .i64 p2))∧(W.cell? ⟨g2,o2+k*5+2,none⟩=some (.int .i64 q2))∧(W.cell? ⟨g2,o2+k*5+3,none⟩=some (.string nb2))∧(W.cell? ⟨g2,o2+k*5+4,none⟩=some (.slice ua ln2 uc))∧(Hid (Below wr.heap.size wr W))) (by kernel_rfl) ⟨c0,c1,c2,c3,c4,d0,d1,d2,d3,d4,dd⟩ (fun hHeld=>?_)
    refine rK 0 17 (h:=?_)
    try simp only [Act.put,rI,rZ,rS]
    refine rK 1 18 (h:=?_)
    try simp only [Act.put,rI,rZ,rS]
    refine rK 2 19 (h:=?_)
    try simp only [Act.put,rI,rZ,rS]
    refine rK 3 20 (h:=?_)
    try simp only [Act.put,rI,rZ,rS]
    refine rK 4 21 (h:=?_)
    try simp only [Act.put,rI,rZ,rS]
    refine rK 5 22 (h:=?_)
    try simp only [Act.put,rI,rZ,rS]
    refine rK 6 23 (h:=?_)
    try simp only [Act.put,rI,rZ,rS]
    refine rK 7 24 (h:=?_)
    try simp only [Act.put,rI,rZ,rS]
    refine rA 8 (h:=fun K hK=>?_)
    dsimp only [List.getElem_toArray,List.getElem_cons_succ,List.getElem_cons_zero]
    go_simp
    go_at_call 62
    with_reducible refine (HC.out _ dd.out).mono ?_
    rintro e w2 ⟨z,rfl,hz,hb⟩
    replace c0:=zaa hb c0
    replace c1:=zaa hb c1
    replace c2:=zaa hb c2
    replace c3:=zaa hb c3
    replace c4:=zaa hb c4
    replace d0:=zaa hb d0
    replace d1:=zaa hb d1
    replace d2:=zaa hb d2
    replace d3:=zaa hb d3
    replace d4:=zaa hb d4
    have HZ:=hid hz
    replace dd : Hid (Below wr.heap.size wr w2):=dd.out.trans (hb.mono dd.out.size)
    clear hb hz
    go_wp2_with fail
    refine hK.out _ _ ⟨c0,c1,c2,c3,c4,d0,d1,d2,d3,d4,dd⟩ (fun hHeld=>?_)
    clear hK K
    try simp only [Act.put,rI,rZ,rS]
    refine rK 9 26 (h:=?_)
    try simp only [Act.put,rI,rZ,rS]
    refine wpAnyH_done (by kernel_rfl) ?_ _
    cases z with
    | true =>
      go_wp2
      go_roundw
      case rel=>exact ⟨k+1,by go_num,by omega,HB.out.trans (dd.out.mono HB.out.size)⟩
      case measure=>simp [RowKit.intOf];omega
    | false =>
      go_wp2
      go_ret
      exact ⟨false,rfl,HPF.out (HNE.out (by first|exact HZ.out rfl|exact HZ.out trivial|exact HZ.out)),HB.out.trans (dd.out.mono HB.out.size)⟩
   ·go_wp2
    go_ret
    exact ⟨true,rfl,fun _=>rfl,HB.out⟩
 ·have HNE : Hid (l≠s):=fun e=>hnm (by rw [Hn.out,Hm.out,e])
  have hd : ((n : Int) != (m : Int))=true:=by simp;omega
  go_enter Tryz.func35,Tryz.ntmps35
  go_wp2
  go_ret
  exact ⟨false,rfl,HPF.out HNE.out,Below.refl _ _⟩
def CmB (b : List (List PEv)) : Prop:=b.length≤140737488355328∧∀ l∈b,CmE l
theorem zbv {l s : List (List PEv)} (hl : RowK evsD K w (.slice a n c) l) (hs : RowK evsD K2 w (.slice b m d) s) (hl2 : CmB l) (hs2 : CmB s) :
 Calls Tryz.prog 32 #[.slice a n c,.slice b m d] w (SmTo l s w):=by
 have HL:=hid hl
 have HS:=hid hs
 have HLV:=hid hl2.2
 have HSV:=hid hs2.2
 have Hn:=hid hl.len
 have Hm:=hid hs.len
 have hn : n≤140737488355328:=by rw [hl.len];exact hl2.1
 have hm : m≤140737488355328:=by rw [hs.len];exact hs2.1
 have HPF : Hid (l≠s→(l=s→false=true)):=fun h e=>absurd e h
 clear hl hs hl2 hs2
 by_cases hnm : n=m
 ·subst hnm
  go_enter Tryz.func32,Tryz.ntmps32
  go_wp2
  go_loopw [5] (fun i wr=>∃ k : Nat,i=.int .i64 k∧k≤n∧Hid (Below w.heap.size w wr)) (fun i _=>n - (RowKit.intOf i).toNat)
  case atStart=>exact ⟨0,rfl,Nat.zero_le _,Below.refl _ _⟩
  case round =>
   obtain ⟨k,rfl,hk,HB⟩:=hrel
   by_cases hlt : k < n
   ·obtain ⟨x,hx⟩ : ∃ x,l[k]?=some x:=⟨_,List.getElem?_eq_getElem (by rw [← Hn.out];exact hlt)⟩
    obtain ⟨y,hy⟩ : ∃ y,s[k]?=some y:=⟨_,List.getElem?_eq_getElem (by rw [← Hm.out];exact hlt)⟩
    obtain ⟨g1,o1,va,vc,rfl,c0,hv⟩:=(HL.out.low HB.out).evsAt hx
    obtain ⟨g2,o2,ua,uc,rfl,d0,hu⟩:=(HS.out.low HB.out).evsAt hy
    have HNE : Hid (x≠y→l≠s):=fun h e=>by rw [e,hy] at hx;exact h (Option.some.inj hx).symm
    have hvl:=HLV.out x (List.mem_of_getElem? hx)
    have hul:=HSV.out y (List.mem_of_getElem? hy)
    have HC : Hid (∀ W,Below wr.heap.size wr W→Calls Tryz.prog 35 #[.slice va x.length vc,.slice ua y.length uc] W fun e w'=>∃ z : Bool,e=.returned (.bool z)∧(z=false→x≠y)∧Below W.heap.size W w'):=fun W hW =>
     (zd3 (hv.low hW) (hu.low hW) hvl hul).mono (fun e w' ⟨z,h1,h2,h3⟩=>⟨z,h1,(fun h e=>by rw [h2 e] at h;cases h),h3⟩)
    obtain ⟨ln1,hln1⟩ : ∃ z,x.length=z:=⟨_,rfl⟩
    obtain ⟨ln2,hln2⟩ : ∃ z,y.length=z:=⟨_,rfl⟩
    rw [hln1] at c0
    rw [hln2] at d0
    rw [hln1,hln2] at HC
    have hk0 : (0 : Int)≤(k : Int):=by omega
    have hk1 : (k : Int) < (n : Int):=by omega
    clear hx hy hv hu hvl hul hln1 hln2
    go_upto_region 6 with fail
    replace c0 : wr.drew.cell? ⟨g1,o1+k,none⟩=some (.slice va ln1 vc):=c0
    replace d0 : wr.drew.cell? ⟨g2,o2+k,none⟩=some (.slice ua ln2 uc):=d0
    have dd : Hid (Below wr.heap.size wr wr.drew):=zae (Below.refl _ _)
    refine wp_region_held_drew (S:=fun W=>(W.cell? ⟨g1,o1+k,none⟩=some (.slice va ln1 vc))∧(W.cell? ⟨g2,o2+k,none⟩=some (.slice ua ln2 uc))∧(Hid (Below wr.heap.size wr W))) (by kernel_rfl) ⟨c0,d0,dd⟩ (fun hHeld=>?_)
    refine rK 0 17 (h:=?_)
    try simp only [Act.put,rI,rZ,rS]
    refine rK 1 18 (h:=?_)
    try simp only [Act.put,rI,rZ,rS]
    refine rK 2 19 (h:=?_)
    try simp only [Act.put,rI,rZ,rS]
    refine rK 3 20 (h:=?_)
    try simp only [Act.put,rI,rZ,rS]
    refine rK 4 21 (h:=?_)
    try simp only [Act.put,rI,rZ,rS]
    refine rK 5 22 (h:=?_)
    try simp only [Act.put,rI,rZ,rS]
    refine rK 6 23 (h:=?_)
    try simp only [Act.put,rI,rZ,rS]
    refine rK 7 24 (h:=?_)
    try simp only [Act.put,rI,rZ,rS]
    refine rA 8 (h:=fun K hK=>?_)
    dsimp only [List.getElem_toArray,List.getElem_cons_succ,List.getElem_cons_zero]
    go_simp
    go_at_call 35
    with_reducible refine (HC.out _ dd.out).mono ?_
    rintro e w2 ⟨z,rfl,hz,hb⟩
    replace c0:=zaa hb c0
    replace d0:=zaa hb d0
    have HZ:=hid hz
    replace dd : Hid (Below wr.heap.size wr w2):=dd.out.trans (hb.mono dd.out.size)
    clear hb hz
    go_wp2_with fail
    refine hK.out _ _ ⟨c0,d0,dd⟩ (fun hHeld=>?_)
    clear hK K
    try simp only [Act.put,rI,rZ,rS]
    refine rK 9 26 (h:=?_)
    try simp only [Act.put,rI,rZ,rS]
    refine wpAnyH_done (by kernel_rfl) ?_ _
    cases z with
    | true =>
      go_wp2
      go_roundw
      case rel=>exact ⟨k+1,by go_num,by omega,HB.out.trans (dd.out.mono HB.out.size)⟩
      case measure=>simp [RowKit.intOf];omega
    | false =>
      go_wp2
      go_ret
      exact ⟨false,rfl,HPF.out (HNE.out (by first|exact HZ.out rfl|exact HZ.out trivial|exact HZ.out)),HB.out.trans (dd.out.mono HB.out.size)⟩
   ·go_wp2
    go_ret
    exact ⟨true,rfl,fun _=>rfl,HB.out⟩
 ·have HNE : Hid (l≠s):=fun e=>hnm (by rw [Hn.out,Hm.out,e])
  have hd : ((n : Int) != (m : Int))=true:=by simp;omega
  go_enter Tryz.func32,Tryz.ntmps32
  go_wp2
  go_ret
  exact ⟨false,rfl,HPF.out HNE.out,Below.refl _ _⟩
end
def hqT1 : List UInt8:=[115,101,113,32,97,32,120,32,116,104,101,110,32,98,32,121,32,119,105,116,104,105,110,32,53]
def hqT2 : List UInt8:=[115,101,113,32,97,32,120,32,116,104,101,110,32,98,32,121,32,119,105,116,104,105,110,32,53,32,112,105,99,107,32,110,101,120,116]
def hqT3 : List UInt8:=[115,101,113,32,97,32,120,32,116,104,101,110,32,110,111,116,32,99,32,110,32,119,105,116,104,105,110,32,53]
def hqQ1 : PQu:=⟨[⟨false,[[97]],[120],1⟩,⟨false,[[98]],[121],1⟩],[],5,[],1⟩
def hqQ2 : PQu:=⟨[⟨false,[[97]],[120],1⟩,⟨false,[[98]],[121],1⟩],[],5,[],2⟩
def hqQ3 : PQu:=⟨[⟨false,[[97]],[120],1⟩,⟨true,[[99]],[110],1⟩],[],5,[],1⟩
theorem zhC : parseI hqT1=(hqQ1,0,0):=by kernel_rfl
theorem zhD : parseI hqT2=(hqQ2,0,0):=by kernel_rfl
theorem zhE : parseI hqT3=(hqQ3,0,0):=by kernel_rfl
theorem zj8 : QuB hqQ1:=by
 have h:=zdO hqT1 (by decide)
 rw [zhC] at h
 exact h
theorem zj9 : QuB hqQ2:=by
 have h:=zdO hqT2 (by decide)
 rw [zhD] at h
 exact h
theorem zka : QuB hqQ3:=by
 have h:=zdO hqT3 (by decide)
 rw [zhE] at h
 exact h
def hqA : List (List PEv)→Nat→Bool:=fun _ _=>true
def hqE (n : UInt8) (t : Int) : PEv:=⟨t,0,t,[n],[]⟩
def hqR1 : List PRun:=[⟨0,[[hqE 97 1],[]]⟩]
theorem hqS1 : stepP hqA hqQ1 (hqE 97 1) []=(hqR1,[]):=by kernel_rfl
def hqM2 : List PMt:=[⟨2,[[hqE 97 1],[hqE 98 2]]⟩]
theorem hqS2 : stepP hqA hqQ1 (hqE 98 2) hqR1=(hqR1,hqM2):=by kernel_rfl
def hqM3 : List PMt:=[⟨3,[[hqE 97 1],[hqE 98 3]]⟩]
theorem hqS3 : stepP hqA hqQ1 (hqE 98 3) hqR1=(hqR1,hqM3):=by kernel_rfl
theorem hqS4 : stepP hqA hqQ2 (hqE 98 2) hqR1=([],hqM2):=by kernel_rfl
theorem hqS5 : stepP hqA hqQ3 (hqE 97 1) []=(hqR1,[]):=by kernel_rfl
def hqM6 : List PMt:=[⟨6,[[hqE 97 1],[]]⟩]
theorem hqS6 : timeP hqQ3 hqR1 6=([],hqM6):=by kernel_rfl
theorem hqS7 : stepP hqA hqQ3 (hqE 99 3) hqR1=([],[]):=by kernel_rfl
theorem hqS8 : timeP hqQ3 hqR1 5=(hqR1,[]):=by kernel_rfl
theorem hqW : (rightQ hqQ3 && (rightR hqQ3.its ⟨0,[[hqE 97 1],[]]⟩ && waitsS (stQ hqQ3.its 0)))=true:=by kernel_rfl
theorem hqN1 : namesP hqQ1.its [98]=true:=by kernel_rfl
theorem hqN2 : namesP hqQ1.its [99]=false:=by kernel_rfl
theorem hqF : firstR [[hqE 97 1],[]]=1:=by kernel_rfl
theorem zds : RunsS hqR1∧∀ t∈hqR1,∀ l∈t.bound,l.length < 100000:=by
 unfold RunsS BdS hqR1 hqE
 refine ⟨⟨by decide,fun r hr=>?_⟩,fun r hr=>?_⟩
 ·rw [List.mem_singleton.1 hr]
  refine ⟨by decide,fun l hl=>?_⟩
  rcases List.mem_cons.1 hl with rfl|hl
  ·exact ⟨by decide,fun e he=>by rw [List.mem_singleton.1 he];decide⟩
  ·rw [List.mem_singleton.1 hl];exact ⟨by decide,fun e he=>by cases he⟩
 ·rw [List.mem_singleton.1 hr]
  intro l hl
  rcases List.mem_cons.1 hl with rfl|hl
  ·decide
  ·rw [List.mem_singleton.1 hl];decide
section
variable {α : Type} {D : RowD α} {K : Nat→Prop} {w : World} {l l0 : List α}
theorem OwnG.appendRow {B : Nat} {t ts ty : TypeId} {z : Value} {bytes : Nat} (hu : Tryz.prog.underlying ts=some (.slice t)) (hi : (Tryz.prog.info? t).map (fun i=>(i.zero,i.size,i.bytes))=some (some z,D.k,bytes)) (hzs : z.cells.size=D.k) (hk : 0 < D.k) (hby : bytes≤1000)
 {a : Option Addr} {c : Nat} (h : RowK D K w (.slice a l.length c) l) (hl : l0.length+l.length≤1000000) {v : Value} {css0 : List (List Value)} (ho : OwnG D K w B t v l0 css0) (hB : B≤w.heap.size) (hKv : ∀ g,v.ownBlock=some g→K g) :
 ∃ v' w' css,(Builtin.append_ #[ts,ts] ty #[v,.slice a l.length c]).run Tryz.prog w=.ok v' w'∧OwnG D (fun g=>K g∨v'.ownBlock=some g) w' B t v' (l0++l) css∧w.grownBy w' v.ownBlock∧(v'.ownBlock=v.ownBlock∨v'.ownBlock=some w.heap.size):=by
 obtain ⟨i0,hi,hz0,hz1,hz2⟩:=info_parts hi
 cases hl0 : l with
 | nil =>
   subst hl0
   obtain ⟨va,vc,rfl⟩:=ho.slice
   have hle : l0.length≤vc:=by
    rcases ho.row.2 with ⟨e1,e2⟩|⟨g,cap,cur,e1,_,_,e2,_⟩
    ·omega
    ·injection e1 with _ _ e3
     omega
   rw [List.append_nil]
   refine ⟨_,w,css0,?_,ho.mono (fun g hg=>hg.elim id (hKv g)),⟨rfl,rfl,rfl,Nat.le_refl _,fun _ _ _=>rfl⟩,.inl rfl⟩
   cases a with
   | none =>
     exact run_append_nothing w ts ts ty t i0 hu hi va l0.length vc hle _ (Src.ofNil w hu _)
   | some A =>
     exact run_append_nothing w ts ts ty t i0 hu hi va l0.length vc hle _ (Src.ofSlice w hu A 0 c [] (by simp) (fun j u h=>(by simp at h)) (fun u h=>(by cases h)))
 | cons x0 l1 =>
   rw [← hl0]
   obtain ⟨g,o,css,rfl,hg,h1,h2,h3,h4⟩:=h.src hk (by rw [hl0];simp)
   have hone : ∀ u∈css.flatten,u.oneCell'=true:=fun u hu=>by
    obtain ⟨cs,hcs,hu⟩:=List.mem_flatten.1 hu
    obtain ⟨j,hj,rfl⟩:=List.mem_iff_getElem.1 hcs
    obtain ⟨cs',e,hp⟩:=h3 j _ (List.getElem?_eq_getElem (by rw [← h1];exact hj))
    rw [List.getElem?_eq_getElem hj] at e
    have e2:=Option.some.inj e
    rw [← e2] at hp
    exact D.one hp u hu
   obtain ⟨v',w',hr,g2,g3,_,g5⟩:=run_append_own_at (P:=Tryz.prog) w B ts ty t i0 _ D.k bytes hu hi hz0 hz1 hz2 hzs hk v l0.length css0.flatten ho.row ⟨g,o,none⟩ l.length c css.flatten (by rw [zbf h2,h1]) (fun j u hj=>by
    have e : (⟨g,o,none⟩ : Addr).add j=⟨g,o+j,none⟩:=by unfold Addr.add;split <;> simp_all
    rw [e]
    exact h4 j u hj) hone (by unfold maxLen;omega) (by
    have : (l0.length+l.length)*bytes≤1000000*1000:=Nat.mul_le_mul hl hby
    omega) hB
   have key : ∀ {cs : List Value} {y : α},D.P K w cs y→D.P (fun g=>K g∨v'.ownBlock=some g) w' cs y:=fun {cs y} hp=>by
    rcases g5 with e|e
    ·rw [e]
     exact D.mono (fun g hg=>hg.elim id (hKv g)) (D.keep (TFr.of_grown g3 (fun k hk=>hKv k hk)) hp)
    ·rw [e]
     exact D.mono (fun g hg=>hg.imp id (fun h=>(Option.some.inj h).symm)) (D.keep (TFr.of_grown g3 (fun k hk=>.inl (hKv k hk))) (D.ne (Nat.le_refl _) hp))
   refine ⟨v',w',css0++css,hr,⟨by simp [ho.n,h1],?_,fun c hc=>?_,fun j x hj=>?_⟩,g3,g5⟩
   ·rw [List.length_append,List.flatten_append]
    exact g2
   ·rcases List.mem_append.1 hc with hc|hc
    ·exact ho.k c hc
    ·exact h2 c hc
   ·by_cases hlt : j < l0.length
    ·rw [List.getElem?_append_left hlt] at hj
     obtain ⟨cs,hc,hp⟩:=ho.p j x hj
     exact ⟨cs,by rw [List.getElem?_append_left (by rw [ho.n];exact hlt)];exact hc,key hp⟩
    ·rw [List.getElem?_append_right (by omega)] at hj
     obtain ⟨cs,hc,hp⟩:=h3 _ x hj
     exact ⟨cs,by rw [List.getElem?_append_right (by rw [ho.n];omega),ho.n];exact hc,key hp⟩
end
section
variable {K : Nat→Prop} {w : World}
def GrowTo (w : World) (e : Ending) (w' : World) : Prop:=∃ g cap,e=.returned (.slice (some ⟨g,0,none⟩) 0 cap)∧OwnG evD (fun _=>False) w' w.heap.size 41 (.slice (some ⟨g,0,none⟩) 0 cap) [] []∧Below w.heap.size w w'
theorem zgJ {n : Nat} (h0 : 0 < n) (hn : n≤1000000) : Calls Tryz.prog 220 #[.slice none 0 0,.int .i64 n] w (GrowTo w):=by
 obtain ⟨i0,hi,hz0,hz1,hz2⟩:=info_parts evI
 have hr:=run_append_nil_zeros (P:=Tryz.prog) w 27 3 27 41 i0 _ .i64 .i64 Tryz.underlying27 Tryz.underlying3 hi hz0 n h0 (by omega) (by omega) (by rw [hz2];omega)
 obtain ⟨cap,hcap⟩ : ∃ cap,grownCap w n 0 41=cap:=⟨_,rfl⟩
 have hge : n≤cap:=by rw [← hcap];exact grownCap_ge w n 0 41
 have hle : cap≤maxLen:=by rw [← hcap];exact grownCap_le_maxLen w n 0 41 (by unfold maxLen;omega)
 rw [hcap] at hr
 obtain ⟨cs,hcs⟩ : ∃ cs,Builtin.zeroCells (Value.agg #[.int .i64 0,.int .i64 0,.int .i64 0,.string .empty,.slice none 0 0]).cells n++Builtin.zeroCells (Value.agg #[.int .i64 0,.int .i64 0,.int .i64 0,.string .empty,.slice none 0 0]).cells (cap - n)=cs:=⟨_,rfl⟩
 have hsz : cs.size=cap*5:=by
  rw [← hcs,Array.size_append,size_zeroCells,size_zeroCells]
  show n*5+(cap - n)*5=cap*5
  omega
 rw [hcs] at hr
 have HB : Hid (Below w.heap.size w (w.drew.alloc (.cells cs 41))):=(zae (Below.refl _ w)).alloc (Nat.le_refl _) _
 have HO : Hid (OwnG evD (fun _=>False) (w.drew.alloc (.cells cs 41)) w.heap.size 41 (.slice (some ⟨w.heap.size,0,none⟩) 0 cap) [] []):=⟨rfl,⟨by simp,.inr ⟨w.heap.size,cap,cs,rfl,Nat.le_refl _,heap_alloc_new w.drew _,Nat.zero_le _,hle,hsz,by simp⟩⟩,fun c hc=>(by cases hc),fun j x hj=>(by simp at hj)⟩
 have hsl : ∀ W : World,(Instr.slice 27 (.slice (some ⟨w.heap.size,0,none⟩) n cap) none (some (.int .i64 0)) none).run Tryz.prog W=.ok (.slice (some ⟨w.heap.size,0,none⟩) 0 cap) W:=fun W=>by
  have hz : (sizeOf 41).run Tryz.prog W=.ok 5 W:=by kernel_rfl
  rw [run_slice_h (P:=Tryz.prog) W 27 (some ⟨w.heap.size,0,none⟩) n cap (by kernel_rfl) .i64 (0 : Int) (by omega) (by omega)]
  have he : Tryz.prog.elem 27=41:=by kernel_rfl
  rw [he,hz]
  simp [Result.andThen,sliced,Addr.add]
 have t0 : decide ((n : Int) < 0)=false:=decide_eq_false (by omega)
 have t1 : decide ((0 : Int) < (n : Int))=true:=decide_eq_true (by omega)
 have hw1 : IntKind.i64.wrap (n : Int)=(n : Int):=IntWalk.i64_in _ (by omega)
 have hw2 : IntKind.i64.wrap ((n : Int) - 0)=(n : Int):=by rw [IntWalk.i64_in _ (by omega)];omega
 clear hi hz0 hz1 hz2 hcap hge hle hcs hsz hn
 go_enter Tryz.func220,Tryz.ntmps220
 go_wp2_with (at_builtin;refine Lib.wpList_append_run _ rfl _ _ _ _ rfl _ _ rfl rfl _ _ hr ?_;clear hr)
 go_ret
 exact ⟨_,_,rfl,HO.out,HB.out⟩
end
def lens (b : List (List PEv)) : Nat:=(b.map List.length).sum
theorem zeB {b : List (List PEv)} {j : Nat} {l : List PEv} (h : b[j]?=some l) : lens (b.take (j+1))=lens (b.take j)+l.length:=by
 unfold lens
 rw [List.take_add_one,h]
 simp
theorem zeC {b : List (List PEv)} {j : Nat} {l : List PEv} (h : b[j]?=some l) : (b.take (j+1)).flatten=(b.take j).flatten++l:=by
 rw [List.take_add_one,h]
 simp
theorem zhL (b : List (List PEv)) : b.flatten.length=lens b:=by unfold lens;rw [List.length_flatten]
theorem zfx (b : List (List PEv)) (j : Nat) : lens (b.take j)≤lens b:=by
 have h : lens (b.take j)+lens (b.drop j)=lens b:=by
  unfold lens
  rw [← List.sum_append,← List.map_append,List.take_append_drop]
 omega
section
variable {K : Nat→Prop} {w : World} {a : Option Addr} {c : Nat} {b : List (List PEv)}
def ConcTo (K : Nat→Prop) (b : List (List PEv)) (w : World) (e : Ending) (w' : World) : Prop:=∃ v css,e=.returned v∧OwnG evD (fun g=>K g∨v.ownBlock=some g) w' w.heap.size 41 v b.flatten css∧Below w.heap.size w w'
theorem zeD (h : RowK evsD K w (.slice a b.length c) b) (hK : ∀ g,K g→g < w.heap.size) (h0 : 0 < lens b) (hb : lens b≤1000000) (hl : b.length≤1000000) : Calls Tryz.prog 195 #[.slice a b.length c] w (ConcTo K b w):=by
 have H:=hid h
 have HK:=hid hK
 obtain ⟨n,hn⟩ : ∃ n,b.length=n:=⟨_,rfl⟩
 have HN:=hid hn
 rw [hn] at hl H ⊢
 obtain ⟨s,hs⟩ : ∃ s,lens b=s:=⟨_,rfl⟩
 have HS:=hid hs
 have hb0 : 0 < s∧s≤1000000:=by omega
 have HG:=hid (zgJ (w:=w) (n:=s) hb0.1 hb0.2)
 clear h hK hn hs h0 hb
 go_enter Tryz.func195,Tryz.ntmps195
 go_wp2
 go_loop [3,11] (fun z i=>∃ j : Nat,i=.int .i64 j∧j≤n∧z=.int .i64 (lens (b.take j) : Nat)) (fun _ i=>n - (RowKit.intOf i).toNat)
 case atStart=>exact ⟨0,rfl,Nat.zero_le _,rfl⟩
 case round =>
  obtain ⟨j,rfl,hj,rfl⟩:=hrel
  obtain ⟨y,hy⟩ : ∃ y,lens (b.take j)=y:=⟨_,rfl⟩
  have HY:=hid hy
  have hys : y≤s:=by rw [← hy,← HS.out];exact zfx b j
  rw [hy]
  clear hy
  by_cases hlt : j < n
  ·obtain ⟨l,hl2⟩ : ∃ l,b[j]?=some l:=⟨_,List.getElem?_eq_getElem (by rw [HN.out];exact hlt)⟩
   obtain ⟨g,o,a2,c2,rfl,d0,_⟩:=H.out.evsAt hl2
   obtain ⟨m,hm⟩ : ∃ m,l.length=m:=⟨_,rfl⟩
   have HT : Hid (lens (b.take (j+1))=y+m):=by show _=_;rw [zeB hl2,HY.out,hm]
   have hym : y+m≤s:=by rw [← HT.out,← HS.out];exact zfx b _
   rw [hm] at d0
   have hk0 : (0 : Int)≤(j : Int):=by omega
   have hk1 : (j : Int) < (n : Int):=by omega
   have hw1 : IntKind.i64.wrap ((y : Int)+(m : Int))=((y+m : Nat) : Int):=by rw [IntWalk.i64_in _ (by omega)];omega
   have t0 : decide (((y+m : Nat) : Int) < 0)=false:=decide_eq_false (by omega)
   clear hl2 hm
   go_wp2
   go_round
   case rel=>exact ⟨j+1,by go_num,by omega,by rw [HT.out];simp⟩
   case measure=>simp [RowKit.intOf];omega
  ·have hjn : n=j:=by omega
   subst hjn
   have hye : y=s:=by rw [← HY.out,← HS.out,← HN.out,List.take_length]
   subst hye
   clear HY
   go_wp2_with (go_at_call 220;(with_reducible refine HG.out.mono ?_);rintro e w1 ⟨g1,cap,rfl,ho,hb1⟩)
   have HB1:=hid hb1
   have HO1 : Hid (∃ css,OwnG evD (fun g=>K g∨(Value.slice (some ⟨g1,0,none⟩) 0 cap).ownBlock=some g) w1 w.heap.size 41 (.slice (some ⟨g1,0,none⟩) 0 cap) ((b.take 0).flatten) css):=⟨[],⟨rfl,ho.row,ho.k,fun j x hj=>(by simp at hj)⟩⟩
   clear ho hb1
   go_loopw [6,27] (fun v i wr=>∃ j : Nat,i=.int .i64 j∧j≤n∧Hid (∃ css,OwnG evD (fun g=>K g∨v.ownBlock=some g) wr w.heap.size 41 v ((b.take j).flatten) css)∧Hid (Below w.heap.size w wr)) (fun _ i _=>n - (RowKit.intOf i).toNat)
   case atStart=>exact ⟨0,rfl,Nat.zero_le _,HO1,HB1⟩
   case round =>
    clear HO1 HB1
    obtain ⟨j,rfl,hj2,HO,HB⟩:=hrel
    obtain ⟨css,ho⟩:=HO.out
    obtain ⟨va,vc,rfl⟩:=ho.slice
    by_cases hlt : j < n
    ·obtain ⟨l,hl2⟩ : ∃ l,b[j]?=some l:=⟨_,List.getElem?_eq_getElem (by rw [HN.out];exact hlt)⟩
     obtain ⟨g,o,a2,c2,rfl,d0,hr⟩:=(H.out.low HB.out).evsAt hl2
     have hge:=((H.out.ge zbR (by decide)).low HB.out).evsAt hl2
     obtain ⟨g',o',a2',c2',e1,d0',hr'⟩:=hge
     injection e1 with e1
     injection e1 with e1 e2
     subst e1 e2
     rw [d0] at d0'
     injection d0' with d0'
     injection d0' with e3 e4 e5
     subst e3 e5
     obtain ⟨q,hq⟩ : ∃ q,((b.take j).flatten).length=q:=⟨_,rfl⟩
     obtain ⟨m,hm⟩ : ∃ m,l.length=m:=⟨_,rfl⟩
     have hqm : ((b.take j).flatten).length+l.length≤1000000:=by
      rw [zhL,← zeB hl2]
      have:=zfx b (j+1)
      have:=HS.out
      omega
     obtain ⟨v9,w9,css9,hr9,h9,hg9,hd9⟩:=OwnG.appendRow (ts:=27) (ty:=27) (z:=.agg #[.int .i64 0,.int .i64 0,.int .i64 0,.string .empty,.slice none 0 0]) (bytes:=64) Tryz.underlying27 evI rfl (by decide) (by decide) (hr'.mono (K':=fun g=>K g∨(Value.slice va ((b.take j).flatten).length vc).ownBlock=some g) (fun g hg=>hg.imp id (fun h=>(ho.own g h).1))) hqm ho HB.out.size (fun g hg=>.inr hg)
     obtain ⟨va9,vc9,rfl⟩:=h9.slice
     have HN9 : Hid (∃ css,OwnG evD (fun g=>K g∨(Value.slice va9 (q+m) vc9).ownBlock=some g) w9 w.heap.size 41 (.slice va9 (q+m) vc9) ((b.take (j+1)).flatten) css):=by
      rw [zeC hl2]
      rw [List.length_append,hq,hm] at h9
      exact ⟨css9,h9.mono (fun g hg=>hg.elim (fun e=>.inl (.inl e)) .inr)⟩
     have HB9 : Hid (Below w.heap.size w w9):=HB.out.grown hg9 HB.out.size (fun g hg=>(ho.own g hg).1)
     rw [List.length_append,hq,hm] at hr9
     rw [hm] at d0
     rw [hq]
     have hk0 : (0 : Int)≤(j : Int):=by omega
     have hk1 : (j : Int) < (n : Int):=by omega
     clear h9 hg9 hd9 ho hr hr' hl2 hm hq hqm HO e4
     go_wp2_with (at_builtin;refine Lib.wpList_append_run _ rfl _ _ _ _ rfl _ _ rfl rfl _ _ hr9 ?_;clear hr9)
     go_roundw
     case rel=>exact ⟨j+1,by go_num,by omega,HN9,HB9⟩
     case measure=>simp [RowKit.intOf];omega
    ·have hjn2 : n=j:=by omega
     subst hjn2
     have htk : b.take n=b:=by rw [← HN.out,List.take_length]
     rw [htk] at ho
     have HF:=hid ho
     clear ho HO
     go_wp2
     go_ret
     refine ⟨_,css,rfl,?_,HB.out⟩
     have e:=HF.out
     rw [htk]
     exact e
end
def ComAt (K : Nat→Prop) (W : World) (qa : Option Addr) (q qc : Nat) (va : Option Addr) (m vc : Nat) (ea : Option Addr) (en ec : Nat) (p : PQu) (e : PEv) : Prop :=
 RowK itemD K W (.slice qa q qc) p.its∧RowK stateD K W (.slice va m vc) (stsN p.its)∧RowK valD K W (.slice ea en ec) e.vals
theorem ComAt.low {K : Nat→Prop} {W W' : World} {qa va ea : Option Addr} {q qc m vc en ec : Nat} {p : PQu} {e : PEv} (h : ComAt K W qa q qc va m vc ea en ec p e) (hb : Below W.heap.size W W') : ComAt K W' qa q qc va m vc ea en ec p e:=⟨h.1.low hb,h.2.1.low hb,h.2.2.low hb⟩
def StaTo (K : Nat→Prop) (s : PSt) (w : World) (en : Ending) (w' : World) : Prop:=∃ a1 c1 a2 c2,en=.returned (.agg #[.slice a1 s.nx.length c1,.slice a2 s.gd.length c2,.bool s.fin])∧RowK numD K w' (.slice a1 s.nx.length c1) s.nx∧RowK numD K w' (.slice a2 s.gd.length c2) s.gd∧Below w.heap.size w w'
theorem zau {W : World} {b k g j : Nat} {u x : Value} (h : W.cell? ⟨b,k,none⟩=some u) (hne : b≠g) : (W.setCell ⟨g,j,none⟩ x).cell? ⟨b,k,none⟩=some u:=(TFr.at g j x).cell (K:=(·=g)) h hne
theorem zjc : GeD numD:=fun _ _ _ _ h=>h
theorem zge : GeD stateD:=fun _ _ _ _ ⟨a,c,b,d,h,h1,h2⟩=>⟨a,c,b,d,h,h1.ge zjc (by decide),h2.ge zjc (by decide)⟩
theorem zjD : GeD nameD:=fun _ _ _ _ h=>h
theorem zhK : GeD itemD:=fun _ _ _ _ ⟨a,c,h,h1⟩=>⟨a,c,h,h1.ge zjD (by decide)⟩
section
variable {K : Nat→Prop} {w : World} {sa qa qb va ea : Option Addr} {sn sc qc r d vc ec q m en : Nat} {p : PQu} {e : PEv} {a : Option Addr} {n c : Nat}
theorem zbi (h : ComAt K w qa q qc va m vc ea en ec p e) {pl : Int} {i : Nat} (hpl : pl+1=i) (hi : i≤1000000) {s : PSt} (hs : (stsN p.its)[i]?=some s) : Calls Tryz.prog 158 #[.agg #[.slice sa sn sc,.slice qa q qc,.slice qb r d,.int .i64 p.within,.string (strB p.by_),.int .i64 p.pick,.slice va m vc,.int .i64 e.ts,.int .i64 e.dep,.int .i64 e.seq,.string (strB e.name),.slice ea en ec],.agg #[.int .i64 pl,.slice a n c]] w (StaTo K s w):=by
 have hb0:=(Below.refl w.heap.size w).alloc (Nat.le_refl _) (.cells #[.slice sa sn sc,.slice qa q qc,.slice qb r d,.int .i64 p.within,.string (strB p.by_),.int .i64 p.pick,.slice va m vc,.int .i64 e.ts,.int .i64 e.dep,.int .i64 e.seq,.string (strB e.name),.slice ea en ec] 107)
 have hb1:=hb0.alloc hb0.size (.cells #[.int .i64 pl,.slice a n c] 59)
 have hb2:=hb1.alloc hb1.size (.cells #[.slice none 0 0,.slice none 0 0,.bool false] 101)
 have hal:=fun (W : World) (o : Obj)=>(Below.refl W.heap.size W).alloc (Nat.le_refl _) o
 have hX:=(Blk.new w #[.slice sa sn sc,.slice qa q qc,.slice qb r d,.int .i64 p.within,.string (strB p.by_),.int .i64 p.pick,.slice va m vc,.int .i64 e.ts,.int .i64 e.dep,.int .i64 e.seq,.string (strB e.name),.slice ea en ec] 107).low (hal _ (.cells #[.int .i64 pl,.slice a n c] 59))
 have hY:=Blk.new (w.alloc (.cells #[.slice sa sn sc,.slice qa q qc,.slice qb r d,.int .i64 p.within,.string (strB p.by_),.int .i64 p.pick,.slice va m vc,.int .i64 e.ts,.int .i64 e.dep,.int .i64 e.seq,.string (strB e.name),.slice ea en ec] 107)) #[.int .i64 pl,.slice a n c] 59
 rw [show (w.alloc (.cells #[.slice sa sn sc,.slice qa q qc,.slice qb r d,.int .i64 p.within,.string (strB p.by_),.int .i64 p.pick,.slice va m vc,.int .i64 e.ts,.int .i64 e.dep,.int .i64 e.seq,.string (strB e.name),.slice ea en ec] 107)).heap.size=w.heap.size+1 by simp] at hY
 have hX2:=hX.low (hal _ (.cells #[.slice none 0 0,.slice none 0 0,.bool false] 101))
 have hY2:=hY.low (hal _ (.cells #[.slice none 0 0,.slice none 0 0,.bool false] 101))
 have hZ:=Blk.new ((w.alloc (.cells #[.slice sa sn sc,.slice qa q qc,.slice qb r d,.int .i64 p.within,.string (strB p.by_),.int .i64 p.pick,.slice va m vc,.int .i64 e.ts,.int .i64 e.dep,.int .i64 e.seq,.string (strB e.name),.slice ea en ec] 107)).alloc (.cells #[.int .i64 pl,.slice a n c] 59)) #[.slice none 0 0,.slice none 0 0,.bool false] 101
 rw [show ((w.alloc (.cells #[.slice sa sn sc,.slice qa q qc,.slice qb r d,.int .i64 p.within,.string (strB p.by_),.int .i64 p.pick,.slice va m vc,.int .i64 e.ts,.int .i64 e.dep,.int .i64 e.seq,.string (strB e.name),.slice ea en ec] 107)).alloc (.cells #[.int .i64 pl,.slice a n c] 59)).heap.size=w.heap.size+2 by simp] at hZ
 obtain ⟨g,o,a1,c1,a2,c2,rfl,v0,v1,v2,r1,r2⟩:=h.2.1.stateAt hs
 have u0:=zaa hb2 v0
 have u1:=zaa hb2 v1
 have u2:=zaa hb2 v2
 have hm:=h.2.1.len
 have him : i < m:=by rw [hm];exact (List.getElem?_eq_some_iff.1 hs).1
 clear v0 v1 v2
 have x6:=zab hX2 (k:=6) rfl
 have y0:=zab hY2 (k:=0) rfl
 have hw : IntKind.i64.wrap (pl+1)=(i : Int):=by rw [hpl];exact IntWalk.i64_in _ (by omega)
 have hk0 : (0 : Int)≤(i : Int):=by omega
 have hk1 : (i : Int) < (m : Int):=by omega
 obtain ⟨nx,gd,fin⟩:=s
 dsimp only at u0 u1 u2 r1 r2
 obtain ⟨z1,hz1⟩ : ∃ z1,nx.length=z1:=⟨_,rfl⟩
 obtain ⟨z2,hz2⟩ : ∃ z2,gd.length=z2:=⟨_,rfl⟩
 rw [hz1] at u0 r1
 rw [hz2] at u1 r2
 have HZ1:=hid hz1
 have HZ2:=hid hz2
 have HR1:=hid r1
 have HR2:=hid r2
 have HB2:=hid hb1
 have z0:=zab hZ (k:=0) rfl
 have z1':=zab hZ (k:=1) rfl
 have z2':=zab hZ (k:=2) rfl
 have f0:=zac hZ (k:=0)
 have f1:=zac hZ (k:=1)
 have f2:=zac hZ (k:=2)
 clear h hb0 hb1 hb2 hal hX hY hX2 hY2 hZ hs hz1 hz2 r1 r2 hm him hpl
 go_enter Tryz.func158,Tryz.ntmps158
 go_wp2
 refine bodyPost_ret (v:=.agg #[.slice a1 z1 c1,.slice a2 z2 c2,.bool fin]) (by simp [results,Tryz.results158,go_sem]) rfl ?_
 have hb5:=HB2.out.alloc HB2.out.size (.cells #[.slice a1 z1 c1,.slice a2 z2 c2,.bool fin] 101)
 refine ⟨a1,c1,a2,c2,by rw [HZ1.out,HZ2.out],?_,?_,hb5⟩
 ·rw [HZ1.out];exact HR1.out.low hb5
 ·rw [HZ2.out];exact HR2.out.low hb5
end
theorem zak {W : World} {b k g : Nat} {u x0 x1 x2 x3 : Value} (h : W.cell? ⟨b,k,none⟩=some u) (hne : b≠g) : ((((W.setCell ⟨g,0,none⟩ x0).setCell ⟨g,1,none⟩ x1).setCell ⟨g,2,none⟩ x2).setCell ⟨g,3,none⟩ x3).cell? ⟨b,k,none⟩=some u :=
 zau (zau (zau (zau h hne) hne) hne) hne
theorem ziO {n : Nat} {W W' : World} (h : Below n W W') {b : Nat} (hb : n≤b) (x0 x1 x2 x3 : Value) : Below n W ((((W'.setCell ⟨b,0,none⟩ x0).setCell ⟨b,1,none⟩ x1).setCell ⟨b,2,none⟩ x2).setCell ⟨b,3,none⟩ x3) :=
 (((h.setCell (p:=⟨b,0,none⟩) hb x0).setCell (p:=⟨b,1,none⟩) hb x1).setCell (p:=⟨b,2,none⟩) hb x2).setCell (p:=⟨b,3,none⟩) hb x3
def onB (s : PSt) : Bool:=!s.nx.isEmpty || waitsS s
def fdB (s : PSt) : Bool:=s.fin && s.gd.isEmpty
section
variable {K : Nat→Prop} {w : World} {sa qa qb va ea : Option Addr} {sn sc qc r d vc ec q m en : Nat} {p : PQu} {e : PEv} {a : Option Addr} {n c : Nat}
theorem zaQ (h : ComAt K w qa q qc va m vc ea en ec p e) {pl : Int} {i : Nat} (hpl : pl+1=i) (hi : i≤1000000) {s : PSt} (hs : (stsN p.its)[i]?=some s) : Calls Tryz.prog 96 #[.agg #[.slice sa sn sc,.slice qa q qc,.slice qb r d,.int .i64 p.within,.string (strB p.by_),.int .i64 p.pick,.slice va m vc,.int .i64 e.ts,.int .i64 e.dep,.int .i64 e.seq,.string (strB e.name),.slice ea en ec],.agg #[.int .i64 pl,.slice a n c]] w fun ed w'=>ed=.returned (.agg #[.int .i64 pl,.slice a n c,.bool (onB s),.bool (fdB s)])∧Below w.heap.size w w':=by
 obtain ⟨zo,hzo⟩ : ∃ zo,onB s=zo:=⟨_,rfl⟩
 obtain ⟨zf,hzf⟩ : ∃ zf,fdB s=zf:=⟨_,rfl⟩
 rw [hzo,hzf]
 have HZO0:=hid hzo
 have HZF0:=hid hzf
 clear hzo hzf
 have hal:=fun (W : World) (o : Obj)=>(Below.refl W.heap.size W).alloc (Nat.le_refl _) o
 have hb0:=hal w (.cells #[.slice sa sn sc,.slice qa q qc,.slice qb r d,.int .i64 p.within,.string (strB p.by_),.int .i64 p.pick,.slice va m vc,.int .i64 e.ts,.int .i64 e.dep,.int .i64 e.seq,.string (strB e.name),.slice ea en ec] 107)
 have hb1:=hb0.alloc hb0.size (.cells #[.int .i64 pl,.slice a n c] 59)
 have hb2:=hb1.alloc hb1.size (.cells #[.int .i64 0,.slice none 0 0,.bool false,.bool false] 112)
 have hX:=((Blk.new w #[.slice sa sn sc,.slice qa q qc,.slice qb r d,.int .i64 p.within,.string (strB p.by_),.int .i64 p.pick,.slice va m vc,.int .i64 e.ts,.int .i64 e.dep,.int .i64 e.seq,.string (strB e.name),.slice ea en ec] 107).low (hal _ (.cells #[.int .i64 pl,.slice a n c] 59))).low (hal _ (.cells #[.int .i64 0,.slice none 0 0,.bool false,.bool false] 112))
 have hY:=(Blk.new (w.alloc (.cells #[.slice sa sn sc,.slice qa q qc,.slice qb r d,.int .i64 p.within,.string (strB p.by_),.int .i64 p.pick,.slice va m vc,.int .i64 e.ts,.int .i64 e.dep,.int .i64 e.seq,.string (strB e.name),.slice ea en ec] 107)) #[.int .i64 pl,.slice a n c] 59).low (hal _ (.cells #[.int .i64 0,.slice none 0 0,.bool false,.bool false] 112))
 rw [show (w.alloc (.cells #[.slice sa sn sc,.slice qa q qc,.slice qb r d,.int .i64 p.within,.string (strB p.by_),.int .i64 p.pick,.slice va m vc,.int .i64 e.ts,.int .i64 e.dep,.int .i64 e.seq,.string (strB e.name),.slice ea en ec] 107)).heap.size=w.heap.size+1 by simp] at hY
 have hZ:=Blk.new ((w.alloc (.cells #[.slice sa sn sc,.slice qa q qc,.slice qb r d,.int .i64 p.within,.string (strB p.by_),.int .i64 p.pick,.slice va m vc,.int .i64 e.ts,.int .i64 e.dep,.int .i64 e.seq,.string (strB e.name),.slice ea en ec] 107)).alloc (.cells #[.int .i64 pl,.slice a n c] 59)) #[.int .i64 0,.slice none 0 0,.bool false,.bool false] 112
 rw [show ((w.alloc (.cells #[.slice sa sn sc,.slice qa q qc,.slice qb r d,.int .i64 p.within,.string (strB p.by_),.int .i64 p.pick,.slice va m vc,.int .i64 e.ts,.int .i64 e.dep,.int .i64 e.seq,.string (strB e.name),.slice ea en ec] 107)).alloc (.cells #[.int .i64 pl,.slice a n c] 59)).heap.size=w.heap.size+1+1 by simp] at hZ
 have hst:=zbi (sa:=sa) (sn:=sn) (sc:=sc) (qb:=qb) (r:=r) (d:=d) (a:=a) (n:=n) (c:=c) (h.low hb2) hpl hi hs
 have HST:=hid hst
 have HX:=hid hX
 have HY:=hid hY
 have HZ:=hid hZ
 have HB2:=hid hb2
 have x0:=zab hX (k:=0) rfl
 have x1:=zab hX (k:=1) rfl
 have x2:=zab hX (k:=2) rfl
 have x3:=zab hX (k:=3) rfl
 have x4:=zab hX (k:=4) rfl
 have x5:=zab hX (k:=5) rfl
 have x6:=zab hX (k:=6) rfl
 have x7:=zab hX (k:=7) rfl
 have x8:=zab hX (k:=8) rfl
 have x9:=zab hX (k:=9) rfl
 have x10:=zab hX (k:=10) rfl
 have x11:=zab hX (k:=11) rfl
 have y0:=zab hY (k:=0) rfl
 have y1:=zab hY (k:=1) rfl
 clear h hb0 hb1 hb2 hal hX hY hZ hst hs hpl hi
 go_enter Tryz.func96,Tryz.ntmps96
 go_upto_region 2 with (go_at_call 158;(with_reducible refine HST.out.mono ?_);rintro en2 w4 ⟨a1,c1,a2,c2,rfl,_,_,hb4⟩;have y2:=zaa hb4 y0;have y3:=zaa hb4 y1;have HZ4:=hid (HZ.out.low hb4);have HB4:=hid (HB2.out.trans (hb4.mono HB2.out.size));clear hb4)
 have hwc:=fun W=>za3 (w:=W) (a:=a1) (c:=c1) (b:=a2) (d:=c2) s
 obtain ⟨nx,gd,fin⟩:=s
 dsimp only at hwc ⊢
 obtain ⟨z1,hz1⟩ : ∃ z1,nx.length=z1:=⟨_,rfl⟩
 obtain ⟨z2,hz2⟩ : ∃ z2,gd.length=z2:=⟨_,rfl⟩
 obtain ⟨zw,hzw⟩ : ∃ zw,waitsS ⟨nx,gd,fin⟩=zw:=⟨_,rfl⟩
 have hzo:=HZO0.out
 have hzf:=HZF0.out
 have hzo2 : (decide (0 < z1) || zw)=zo:=by
  rw [← hzo,← hzw,← hz1]
  unfold onB
  cases nx <;> simp
 have hzf2 : (fin && decide (z2=0))=zf:=by
  rw [← hzf,← hz2]
  unfold fdB
  cases gd <;> simp
 rw [hzw,hz1,hz2] at hwc
 (try rw [hz1,hz2])
 have HWC:=hid hwc
 have HZO:=hid hzo2
 have HZF:=hid hzf2
 have hal:=fun (W : World) (o : Obj)=>(Below.refl W.heap.size W).alloc (Nat.le_refl _) o
 have hU:=Blk.new w4 #[.slice a1 z1 c1,.slice a2 z2 c2,.bool fin] 101
 have HB5:=hid (HB4.out.alloc HB4.out.size (.cells #[.slice a1 z1 c1,.slice a2 z2 c2,.bool fin] 101))
 have HZ5:=hid (HZ4.out.low (hal _ (.cells #[.slice a1 z1 c1,.slice a2 z2 c2,.bool fin] 101)))
 have y4:=zad y2 (.cells #[.slice a1 z1 c1,.slice a2 z2 c2,.bool fin] 101)
 have y5:=zad y3 (.cells #[.slice a1 z1 c1,.slice a2 z2 c2,.bool fin] 101)
 have hlt4 : w.heap.size+1+1 < w4.heap.size:=HZ4.out.lt
 have f0 : (w4.alloc (.cells #[.slice a1 z1 c1,.slice a2 z2 c2,.bool fin] 101)).drew.cell? ⟨w.heap.size+1,0,none⟩=some (.int .i64 pl):=y4
 have f1 : (w4.alloc (.cells #[.slice a1 z1 c1,.slice a2 z2 c2,.bool fin] 101)).drew.cell? ⟨w.heap.size+1,1,none⟩=some (.slice a n c):=y5
 have f2 : (w4.alloc (.cells #[.slice a1 z1 c1,.slice a2 z2 c2,.bool fin] 101)).drew.cell? ⟨w4.heap.size,0,none⟩=some (.slice a1 z1 c1):=zab hU (k:=0) rfl
 have f3 : (w4.alloc (.cells #[.slice a1 z1 c1,.slice a2 z2 c2,.bool fin] 101)).drew.cell? ⟨w4.heap.size,1,none⟩=some (.slice a2 z2 c2):=zab hU (k:=1) rfl
 have f4 : (w4.alloc (.cells #[.slice a1 z1 c1,.slice a2 z2 c2,.bool fin] 101)).drew.cell? ⟨w4.heap.size,2,none⟩=some (.bool fin):=zab hU (k:=2) rfl
 obtain ⟨W5,hW5⟩ : ∃ W5,(w4.alloc (.cells #[.slice a1 z1 c1,.slice a2 z2 c2,.bool fin] 101))=W5:=⟨_,rfl⟩
 rw [hW5] at f0 f1 f2 f3 f4 HB5 HZ5
 (try rw [hW5])
 clear HZO0 HZF0 hwc hz1 hz2 hzw hzo hzf hzo2 hzf2 hal hU y2 y3 y4 y5 hW5 x0 y0 y1 x1 x2 x3 x4 x5 x6 x7 x8 x9 x10 x11
 by_cases hz : 0 < z1
 ·have t0 : decide ((0 : Int) < (z1 : Int))=true:=decide_eq_true (by omega)
  have t1 : decide (0 < z1)=true:=decide_eq_true hz
  have hzo3 : true=zo:=by have:=HZO.out;rw [t1,Bool.true_or] at this;exact this
  subst hzo3
  cases fin with
  | true =>
    have t2 : ((z2 : Int) == 0)=zf:=by
     have e:=HZF.out
     rw [Bool.true_and] at e
     rw [← e]
     by_cases h : z2=0 <;> simp [h]
    refine wp_region_held_drew (S:=fun W=>W.cell? ⟨w.heap.size+1,0,none⟩=some (.int .i64 pl)∧W.cell? ⟨w.heap.size+1,1,none⟩=some (.slice a n c)∧W.cell? ⟨w4.heap.size,0,none⟩=some (.slice a1 z1 c1)∧W.cell? ⟨w4.heap.size,1,none⟩=some (.slice a2 z2 c2)∧W.cell? ⟨w4.heap.size,2,none⟩=some (.bool true)) (by kernel_rfl) ⟨by assumption,by assumption,by assumption,by assumption,by assumption⟩ (fun hHeld=>?_)
    refine rK 0 9 (h:=?_)
    try simp only [Act.put,rI,rZ,rS]
    refine rK 1 10 (h:=?_)
    try simp only [Act.put,rI,rZ,rS]
    refine rK 2 11 (h:=?_)
    try simp only [Act.put,rI,rZ,rS]
    refine rK 3 12 (h:=?_)
    try simp only [Act.put,rI,rZ,rS]
    refine rK 4 13 (h:=?_)
    try simp only [Act.put,rI,rZ,rS]
    refine rK 5 14 (h:=?_)
    try simp only [Act.put,rI,rZ,rS]
    refine rP 6 15 (h:=?_)
    try simp only [Act.put,rI,rZ,rS]
    refine rP 7 16 (h:=?_)
    try simp only [Act.put,rI,rZ,rS]
    refine rK 9 18 (h:=?_)
    try simp only [Act.put,rI,rZ,rS]
    refine rK 10 19 (h:=?_)
    try simp only [Act.put,rI,rZ,rS]
    have HB6 : Hid (Below w.heap.size w W5.drew):=zae HB5.out
    have HZ6 : Hid (Blk W5.drew (w.heap.size+1+1) #[.int .i64 0,.slice none 0 0,.bool false,.bool false] 112):=HZ5.out
    have k0:=f0
    have k1:=f1
    have k2:=f2
    have k3:=f3
    have k4:=f4
    clear f0 f1 f2 f3 f4
    obtain ⟨w6,hw6⟩ : ∃ w6,W5.drew=w6:=⟨_,rfl⟩
    rw [hw6] at HB6 HZ6 k0 k1 k2 k3 k4 hHeld ⊢
    clear hw6
    refine rK 8 17 (h:=?_)
    try simp only [Act.put,rI,rZ,rS]
    refine rK 11 20 (h:=?_)
    try simp only [Act.put,rI,rZ,rS]
    refine rK 12 21 (h:=?_)
    try simp only [Act.put,rI,rZ,rS]
    refine rK 13 22 (h:=?_)
    try simp only [Act.put,rI,rZ,rS]
    refine rK 14 23 (h:=?_)
    try simp only [Act.put,rI,rZ,rS]
    refine rK 15 24 (h:=?_)
    try simp only [Act.put,rI,rZ,rS]
    refine rK 16 25 (h:=?_)
    try simp only [Act.put,rI,rZ,rS]
    refine rK 17 26 (h:=?_)
    try simp only [Act.put,rI,rZ,rS]
    have z0:=zab HZ6.out (k:=0) rfl
    have z1':=zab HZ6.out (k:=1) rfl
    have z2':=zab HZ6.out (k:=2) rfl
    have z3:=zab HZ6.out (k:=3) rfl
    have fz0:=zac HZ6.out (k:=0)
    have fz1:=zac HZ6.out (k:=1)
    have fz2:=zac HZ6.out (k:=2)
    have fz3:=zac HZ6.out (k:=3)
    refine rA 18 (h:=fun K hK=>?_)
    dsimp only [List.getElem_toArray,List.getElem_cons_succ,List.getElem_cons_zero]
    focus go_simp
    refine hK.out _ _ ⟨zak (g:=w.heap.size+1+1) k0 (by omega),zak (g:=w.heap.size+1+1) k1 (by omega),zak (g:=w.heap.size+1+1) k2 (by omega),zak (g:=w.heap.size+1+1) k3 (by omega),zak (g:=w.heap.size+1+1) k4 (by omega)⟩ (fun hHeld=>?_)
    clear hK K
    try simp only [Act.put,rI,rZ,rS]
    refine wpAnyH_done (by kernel_rfl) ?_ _
    go_wp2
    refine bodyPost_ret (v:=.agg #[.int .i64 pl,.slice a n c,.bool true,.bool zf]) (by simp [results,Tryz.results96,go_sem,z0,z1',z2',z3]) rfl ?_
    exact ⟨rfl,ziO (b:=w.heap.size+1+1) HB6.out (by omega) _ _ _ _⟩
  | false =>
    have t2 : false=zf:=HZF.out
    subst t2
    refine wp_region_held_drew (S:=fun W=>W.cell? ⟨w.heap.size+1,0,none⟩=some (.int .i64 pl)∧W.cell? ⟨w.heap.size+1,1,none⟩=some (.slice a n c)∧W.cell? ⟨w4.heap.size,0,none⟩=some (.slice a1 z1 c1)∧W.cell? ⟨w4.heap.size,1,none⟩=some (.slice a2 z2 c2)∧W.cell? ⟨w4.heap.size,2,none⟩=some (.bool false)) (by kernel_rfl) ⟨by assumption,by assumption,by assumption,by assumption,by assumption⟩ (fun hHeld=>?_)
    refine rK 0 9 (h:=?_)
    try simp only [Act.put,rI,rZ,rS]
    refine rK 1 10 (h:=?_)
    try simp only [Act.put,rI,rZ,rS]
    refine rK 2 11 (h:=?_)
    try simp only [Act.put,rI,rZ,rS]
    refine rK 3 12 (h:=?_)
    try simp only [Act.put,rI,rZ,rS]
    refine rK 4 13 (h:=?_)
    try simp only [Act.put,rI,rZ,rS]
    refine rK 5 14 (h:=?_)
    try simp only [Act.put,rI,rZ,rS]
    refine rP 6 15 (h:=?_)
    try simp only [Act.put,rI,rZ,rS]
    refine rP 7 16 (h:=?_)
    try simp only [Act.put,rI,rZ,rS]
    refine rK 9 18 (h:=?_)
    try simp only [Act.put,rI,rZ,rS]
    refine rK 10 19 (h:=?_)
    try simp only [Act.put,rI,rZ,rS]
    have HB6 : Hid (Below w.heap.size w W5.drew):=zae HB5.out
    have HZ6 : Hid (Blk W5.drew (w.heap.size+1+1) #[.int .i64 0,.slice none 0 0,.bool false,.bool false] 112):=HZ5.out
    have k0:=f0
    have k1:=f1
    have k2:=f2
    have k3:=f3
    have k4:=f4
    clear f0 f1 f2 f3 f4
    obtain ⟨w6,hw6⟩ : ∃ w6,W5.drew=w6:=⟨_,rfl⟩
    rw [hw6] at HB6 HZ6 k0 k1 k2 k3 k4 hHeld ⊢
    clear hw6
    refine rK 8 17 (h:=?_)
    try simp only [Act.put,rI,rZ,rS]
    refine rK 11 20 (h:=?_)
    try simp only [Act.put,rI,rZ,rS]
    refine rP 12 21 (h:=?_)
    try simp only [Act.put,rI,rZ,rS]
    refine rP 13 22 (h:=?_)
    try simp only [Act.put,rI,rZ,rS]
    refine rP 14 23 (h:=?_)
    try simp only [Act.put,rI,rZ,rS]
    refine rP 15 24 (h:=?_)
    try simp only [Act.put,rI,rZ,rS]
    refine rK 16 25 (h:=?_)
    try simp only [Act.put,rI,rZ,rS]
    refine rK 17 26 (h:=?_)
    try simp only [Act.put,rI,rZ,rS]
    have z0:=zab HZ6.out (k:=0) rfl
    have z1':=zab HZ6.out (k:=1) rfl
    have z2':=zab HZ6.out (k:=2) rfl
    have z3:=zab HZ6.out (k:=3) rfl
    have fz0:=zac HZ6.out (k:=0)
    have fz1:=zac HZ6.out (k:=1)
    have fz2:=zac HZ6.out (k:=2)
    have fz3:=zac HZ6.out (k:=3)
    refine rA 18 (h:=fun K hK=>?_)
    dsimp only [List.getElem_toArray,List.getElem_cons_succ,List.getElem_cons_zero]
    focus go_simp
    refine hK.out _ _ ⟨zak (g:=w.heap.size+1+1) k0 (by omega),zak (g:=w.heap.size+1+1) k1 (by omega),zak (g:=w.heap.size+1+1) k2 (by omega),zak (g:=w.heap.size+1+1) k3 (by omega),zak (g:=w.heap.size+1+1) k4 (by omega)⟩ (fun hHeld=>?_)
    clear hK K
    try simp only [Act.put,rI,rZ,rS]
    refine wpAnyH_done (by kernel_rfl) ?_ _
    go_wp2
    refine bodyPost_ret (v:=.agg #[.int .i64 pl,.slice a n c,.bool true,.bool false]) (by simp [results,Tryz.results96,go_sem,z0,z1',z2',z3]) rfl ?_
    exact ⟨rfl,ziO (b:=w.heap.size+1+1) HB6.out (by omega) _ _ _ _⟩
 ·have t0 : decide ((0 : Int) < (z1 : Int))=false:=decide_eq_false (by omega)
  have t1 : decide (0 < z1)=false:=decide_eq_false hz
  have hzo3 : zw=zo:=by have:=HZO.out;rw [t1,Bool.false_or] at this;exact this
  subst hzo3
  cases fin with
  | true =>
    have t2 : ((z2 : Int) == 0)=zf:=by
     have e:=HZF.out
     rw [Bool.true_and] at e
     rw [← e]
     by_cases h : z2=0 <;> simp [h]
    refine wp_region_held_drew (S:=fun W=>W.cell? ⟨w.heap.size+1,0,none⟩=some (.int .i64 pl)∧W.cell? ⟨w.heap.size+1,1,none⟩=some (.slice a n c)∧W.cell? ⟨w4.heap.size,0,none⟩=some (.slice a1 z1 c1)∧W.cell? ⟨w4.heap.size,1,none⟩=some (.slice a2 z2 c2)∧W.cell? ⟨w4.heap.size,2,none⟩=some (.bool true)) (by kernel_rfl) ⟨by assumption,by assumption,by assumption,by assumption,by assumption⟩ (fun hHeld=>?_)
    refine rK 0 9 (h:=?_)
    try simp only [Act.put,rI,rZ,rS]
    refine rK 1 10 (h:=?_)
    try simp only [Act.put,rI,rZ,rS]
    refine rK 2 11 (h:=?_)
    try simp only [Act.put,rI,rZ,rS]
    refine rK 3 12 (h:=?_)
    try simp only [Act.put,rI,rZ,rS]
    refine rK 4 13 (h:=?_)
    try simp only [Act.put,rI,rZ,rS]
    refine rK 5 14 (h:=?_)
    try simp only [Act.put,rI,rZ,rS]
    refine rK 6 15 (h:=?_)
    try simp only [Act.put,rI,rZ,rS]
    refine rK 9 18 (h:=?_)
    try simp only [Act.put,rI,rZ,rS]
    refine rK 10 19 (h:=?_)
    try simp only [Act.put,rI,rZ,rS]
    refine rA 7 (h:=fun K hK=>?_)
    dsimp only [List.getElem_toArray,List.getElem_cons_succ,List.getElem_cons_zero]
    go_simp
    go_at_call 84
    (with_reducible refine (HWC.out _).mono ?_)
    rintro en2 w6 ⟨rfl,hb6⟩
    have HB6 : Hid (Below w.heap.size w w6):=(zae HB5.out).trans (hb6.mono (zae HB5.out).size)
    have HZ6:=hid (show Blk w6 (w.heap.size+1+1) #[.int .i64 0,.slice none 0 0,.bool false,.bool false] 112 from Blk.low (w:=W5.drew) HZ5.out hb6)
    have k0:=zaa hb6 f0
    have k1:=zaa hb6 f1
    have k2:=zaa hb6 f2
    have k3:=zaa hb6 f3
    have k4:=zaa hb6 f4
    clear hb6 f0 f1 f2 f3 f4
    go_wp2_with fail
    refine hK.out _ _ ⟨k0,k1,k2,k3,k4⟩ (fun hHeld=>?_)
    clear hK K
    try simp only [Act.put,rI,rZ,rS]
    refine rK 8 17 (h:=?_)
    try simp only [Act.put,rI,rZ,rS]
    refine rK 11 20 (h:=?_)
    try simp only [Act.put,rI,rZ,rS]
    refine rK 12 21 (h:=?_)
    try simp only [Act.put,rI,rZ,rS]
    refine rK 13 22 (h:=?_)
    try simp only [Act.put,rI,rZ,rS]
    refine rK 14 23 (h:=?_)
    try simp only [Act.put,rI,rZ,rS]
    refine rK 15 24 (h:=?_)
    try simp only [Act.put,rI,rZ,rS]
    refine rK 16 25 (h:=?_)
    try simp only [Act.put,rI,rZ,rS]
    refine rK 17 26 (h:=?_)
    try simp only [Act.put,rI,rZ,rS]
    have z0:=zab HZ6.out (k:=0) rfl
    have z1':=zab HZ6.out (k:=1) rfl
    have z2':=zab HZ6.out (k:=2) rfl
    have z3:=zab HZ6.out (k:=3) rfl
    have fz0:=zac HZ6.out (k:=0)
    have fz1:=zac HZ6.out (k:=1)
    have fz2:=zac HZ6.out (k:=2)
    have fz3:=zac HZ6.out (k:=3)
    refine rA 18 (h:=fun K hK=>?_)
    dsimp only [List.getElem_toArray,List.getElem_cons_succ,List.getElem_cons_zero]
    focus go_simp
    refine hK.out _ _ ⟨zak (g:=w.heap.size+1+1) k0 (by omega),zak (g:=w.heap.size+1+1) k1 (by omega),zak (g:=w.heap.size+1+1) k2 (by omega),zak (g:=w.heap.size+1+1) k3 (by omega),zak (g:=w.heap.size+1+1) k4 (by omega)⟩ (fun hHeld=>?_)
    clear hK K
    try simp only [Act.put,rI,rZ,rS]
    refine wpAnyH_done (by kernel_rfl) ?_ _
    go_wp2
    refine bodyPost_ret (v:=.agg #[.int .i64 pl,.slice a n c,.bool zw,.bool zf]) (by simp [results,Tryz.results96,go_sem,z0,z1',z2',z3]) rfl ?_
    exact ⟨rfl,ziO (b:=w.heap.size+1+1) HB6.out (by omega) _ _ _ _⟩
  | false =>
    have t2 : false=zf:=HZF.out
    subst t2
    refine wp_region_held_drew (S:=fun W=>W.cell? ⟨w.heap.size+1,0,none⟩=some (.int .i64 pl)∧W.cell? ⟨w.heap.size+1,1,none⟩=some (.slice a n c)∧W.cell? ⟨w4.heap.size,0,none⟩=some (.slice a1 z1 c1)∧W.cell? ⟨w4.heap.size,1,none⟩=some (.slice a2 z2 c2)∧W.cell? ⟨w4.heap.size,2,none⟩=some (.bool false)) (by kernel_rfl) ⟨by assumption,by assumption,by assumption,by assumption,by assumption⟩ (fun hHeld=>?_)
    refine rK 0 9 (h:=?_)
    try simp only [Act.put,rI,rZ,rS]
    refine rK 1 10 (h:=?_)
    try simp only [Act.put,rI,rZ,rS]
    refine rK 2 11 (h:=?_)
    try simp only [Act.put,rI,rZ,rS]
    refine rK 3 12 (h:=?_)
    try simp only [Act.put,rI,rZ,rS]
    refine rK 4 13 (h:=?_)
    try simp only [Act.put,rI,rZ,rS]
    refine rK 5 14 (h:=?_)
    try simp only [Act.put,rI,rZ,rS]
    refine rK 6 15 (h:=?_)
    try simp only [Act.put,rI,rZ,rS]
    refine rK 9 18 (h:=?_)
    try simp only [Act.put,rI,rZ,rS]
    refine rK 10 19 (h:=?_)
    try simp only [Act.put,rI,rZ,rS]
    refine rA 7 (h:=fun K hK=>?_)
    dsimp only [List.getElem_toArray,List.getElem_cons_succ,List.getElem_cons_zero]
    go_simp
    go_at_call 84
    (with_reducible refine (HWC.out _).mono ?_)
    rintro en2 w6 ⟨rfl,hb6⟩
    have HB6 : Hid (Below w.heap.size w w6):=(zae HB5.out).trans (hb6.mono (zae HB5.out).size)
    have HZ6:=hid (show Blk w6 (w.heap.size+1+1) #[.int .i64 0,.slice none 0 0,.bool false,.bool false] 112 from Blk.low (w:=W5.drew) HZ5.out hb6)
    have k0:=zaa hb6 f0
    have k1:=zaa hb6 f1
    have k2:=zaa hb6 f2
    have k3:=zaa hb6 f3
    have k4:=zaa hb6 f4
    clear hb6 f0 f1 f2 f3 f4
    go_wp2_with fail
    refine hK.out _ _ ⟨k0,k1,k2,k3,k4⟩ (fun hHeld=>?_)
    clear hK K
    try simp only [Act.put,rI,rZ,rS]
    refine rK 8 17 (h:=?_)
    try simp only [Act.put,rI,rZ,rS]
    refine rK 11 20 (h:=?_)
    try simp only [Act.put,rI,rZ,rS]
    refine rP 12 21 (h:=?_)
    try simp only [Act.put,rI,rZ,rS]
    refine rP 13 22 (h:=?_)
    try simp only [Act.put,rI,rZ,rS]
    refine rP 14 23 (h:=?_)
    try simp only [Act.put,rI,rZ,rS]
    refine rP 15 24 (h:=?_)
    try simp only [Act.put,rI,rZ,rS]
    refine rK 16 25 (h:=?_)
    try simp only [Act.put,rI,rZ,rS]
    refine rK 17 26 (h:=?_)
    try simp only [Act.put,rI,rZ,rS]
    have z0:=zab HZ6.out (k:=0) rfl
    have z1':=zab HZ6.out (k:=1) rfl
    have z2':=zab HZ6.out (k:=2) rfl
    have z3:=zab HZ6.out (k:=3) rfl
    have fz0:=zac HZ6.out (k:=0)
    have fz1:=zac HZ6.out (k:=1)
    have fz2:=zac HZ6.out (k:=2)
    have fz3:=zac HZ6.out (k:=3)
    refine rA 18 (h:=fun K hK=>?_)
    dsimp only [List.getElem_toArray,List.getElem_cons_succ,List.getElem_cons_zero]
    focus go_simp
    refine hK.out _ _ ⟨zak (g:=w.heap.size+1+1) k0 (by omega),zak (g:=w.heap.size+1+1) k1 (by omega),zak (g:=w.heap.size+1+1) k2 (by omega),zak (g:=w.heap.size+1+1) k3 (by omega),zak (g:=w.heap.size+1+1) k4 (by omega)⟩ (fun hHeld=>?_)
    clear hK K
    try simp only [Act.put,rI,rZ,rS]
    refine wpAnyH_done (by kernel_rfl) ?_ _
    go_wp2
    refine bodyPost_ret (v:=.agg #[.int .i64 pl,.slice a n c,.bool zw,.bool false]) (by simp [results,Tryz.results96,go_sem,z0,z1',z2',z3]) rfl ?_
    exact ⟨rfl,ziO (b:=w.heap.size+1+1) HB6.out (by omega) _ _ _ _⟩
end
section
variable {K : Nat→Prop} {w : World}
theorem zeE {a : Option Addr} {c nb : Nat} {i : PIt} (b : List UInt8) (hc : w.cell? ⟨nb,0,none⟩=some (.string (strB b))) (h : RowK nameD K w (.slice a i.ns.length c) i.ns) (hl : i.ns.length≤1000000) :
 Calls Tryz.prog 64 #[.agg #[.bool i.no,.slice a i.ns.length c,.string (strB i.x),.int .i64 i.mode],.pointer (some ⟨nb,0,none⟩)] w fun e w'=>e=.returned (.bool (hasP i b))∧Below w.heap.size w w':=by
 have hb1 : Below w.heap.size w (w.alloc (.cells #[.bool i.no,.slice a i.ns.length c,.string (strB i.x),.int .i64 i.mode] 44)):=(Below.refl _ _).alloc (Nat.le_refl _) _
 have hcon:=zaK (h.low hb1) hl i.ns.length (Nat.le_refl _) c b
 have hc1:=za8 hb1 hc
 have HCON:=hid hcon
 have HB1:=hid hb1
 clear hcon h hb1
 go_enter Tryz.func64,Tryz.ntmps64
 go_wp2_with (go_at_call 65;refine HCON.out.mono ?_;rintro e w1 ⟨rfl,rfl⟩)
 go_ret
 exact ⟨by simp [hasP],HB1.out⟩
def NoNm (l : List PIt) (b : List UInt8) (k : Nat) : Prop:=∀ j x,j < k→l[j]?=some x→hasP x b=false
theorem NoNm.step {l : List PIt} {b : List UInt8} {k : Nat} (h : NoNm l b k) {x : PIt} (hk : l[k]?=some x) (hx : hasP x b=false) : NoNm l b (k+1):=fun j y hj hy=>by
 by_cases e : j=k
 ·subst e
  rw [hk] at hy
  injection hy with hy
  rw [← hy];exact hx
 ·exact h j y (by omega) hy
theorem NoNm.all {l : List PIt} {b : List UInt8} (h : NoNm l b l.length) : namesP l b=false:=by
 unfold namesP
 rw [List.any_eq_false]
 intro y hy
 obtain ⟨j,hj,rfl⟩:=List.mem_iff_getElem.1 hy
 rw [h j _ hj (List.getElem?_eq_getElem hj)]
 simp
theorem zhM {l : List PIt} {b : List UInt8} {k : Nat} {x : PIt} (hk : l[k]?=some x) (hx : hasP x b=true) : namesP l b=true:=by
 unfold namesP
 rw [List.any_eq_true]
 exact ⟨x,List.mem_of_getElem? hk,hx⟩
theorem zeF {a : Option Addr} {c n nb : Nat} {its : List PIt} (b : List UInt8) (hc : w.cell? ⟨nb,0,none⟩=some (.string (strB b))) (h : RowK itemD K w (.slice a n c) its) (hn : n≤1000000) (hl : ∀ i∈its,i.ns.length≤1000000) :
 Calls Tryz.prog 98 #[.slice a n c,.func (.func 64) #[] #[.pointer (some ⟨nb,0,none⟩)]] w (IdxPost w (namesP its b)):=by
 have HV:=hid h
 have HC:=hid hc
 have HL:=hid hl
 have HN : Hid (n=its.length):=h.len
 clear h hc hl
 go_enter Tryz.func98,Tryz.ntmps98
 go_wp2
 go_loopw [5,8] (fun x i wr=>∃ k : Nat,i=.int .i64 k∧k≤n∧Hid (NoNm its b k)∧Hid (Below w.heap.size w wr)) (fun _ i _=>n - (RowKit.intOf i).toNat)
 case atStart=>exact ⟨0,rfl,Nat.zero_le _,fun j x hj=>by omega,Below.refl _ _⟩
 case round =>
  obtain ⟨k,rfl,hk,HR,HB⟩:=hrel
  by_cases hlt : k < n
  ·obtain ⟨x,hx⟩ : ∃ x,its[k]?=some x:=⟨_,List.getElem?_eq_getElem (by rw [← HN.out];exact hlt)⟩
   obtain ⟨g,o,a1,c1,rfl,d0,d1,d2,d3,hr⟩:=(HV.out.low HB.out).itemAt hx
   have hcall:=zeE (w:=wr) b (za8 HB.out HC.out) hr (HL.out x (List.mem_of_getElem? hx))
   cases hz : hasP x b with
   | false =>
     have hst:=hid (HR.out.step hx hz)
     rw [hz] at hcall
     have HCL:=hid hcall
     obtain ⟨m1,hm1⟩ : ∃ m1,x.ns.length=m1:=⟨_,rfl⟩
     rw [hm1] at d1 HCL
     clear hx hz hr hcall
     go_wp2_with (go_at_call 64;refine HCL.out.mono ?_;rintro e w1 ⟨rfl,hb1⟩)
     have HB1 : Hid (Below w.heap.size w w1):=HB.out.trans (hb1.mono HB.out.size)
     clear HCL
     go_roundw
     case rel=>exact ⟨k+1,by go_num,by omega,hst,HB1⟩
     case measure=>simp [RowKit.intOf];omega
   | true =>
     have hno:=hid (zhM hx hz)
     rw [hz] at hcall
     have HCL:=hid hcall
     obtain ⟨m1,hm1⟩ : ∃ m1,x.ns.length=m1:=⟨_,rfl⟩
     rw [hm1] at d1 HCL
     clear hx hz hr hcall
     go_wp2_with (go_at_call 64;refine HCL.out.mono ?_;rintro e w1 ⟨rfl,hb1⟩)
     have HB1 : Hid (Below w.heap.size w w1):=HB.out.trans (hb1.mono HB.out.size)
     go_ret
     exact ⟨k,rfl,by rw [hno.out];simp,HB1.out⟩
  ·obtain rfl : k=n:=by omega
   have hall : Hid (namesP its b=false):=NoNm.all (by rw [← HN.out];exact HR.out)
   go_wp2
   go_ret
   exact ⟨-1,rfl,by rw [hall.out];rfl,HB.out⟩
theorem zcQ {a : Option Addr} {c n nb : Nat} {its : List PIt} (b : List UInt8) (hc : w.cell? ⟨nb,0,none⟩=some (.string (strB b))) (h : RowK itemD K w (.slice a n c) its) (hn : n≤1000000) (hl : ∀ i∈its,i.ns.length≤1000000) :
 Calls Tryz.prog 63 #[.slice a n c,.func (.func 64) #[] #[.pointer (some ⟨nb,0,none⟩)]] w fun e w'=>e=.returned (.bool (namesP its b))∧Below w.heap.size w w':=by
 have HI:=hid (zeF b hc h hn hl)
 clear hc h hl
 go_enter Tryz.func63,Tryz.ntmps63
 go_wp2_with (go_at_call 98;refine HI.out.mono ?_;rintro e w1 ⟨z,rfl,hz,hb⟩)
 go_ret
 exact ⟨by rw [← hz];rfl,hb⟩
theorem zbP {qa qb : Option Addr} {q qc r d : Nat} {p : PQu} (b : List UInt8) (h : RowK itemD K w (.slice qa q qc) p.its) (hn : q≤1000000) (hl : ∀ i∈p.its,i.ns.length≤1000000) :
 Calls Tryz.prog 36 #[.agg #[.slice qa q qc,.slice qb r d,.int .i64 p.within,.string (strB p.by_),.int .i64 p.pick],.string (strB b)] w fun e w'=>e=.returned (.bool (namesP p.its b))∧Below w.heap.size w w':=by
 have hb2 : Below w.heap.size w ((w.alloc (.cells #[.slice qa q qc,.slice qb r d,.int .i64 p.within,.string (strB p.by_),.int .i64 p.pick] 26)).alloc (.cells #[.string (strB b)] 9)):=((Below.refl _ _).alloc (Nat.le_refl _) _).alloc (by simp) _
 have hnb:=Blk.new (w.alloc (.cells #[.slice qa q qc,.slice qb r d,.int .i64 p.within,.string (strB p.by_),.int .i64 p.pick] 26)) #[.string (strB b)] 9
 rw [World.size_alloc] at hnb
 have HI:=hid (zcQ b (zab hnb (k:=0) rfl) (h.low hb2) hn hl)
 have HB2:=hid hb2
 clear h hl hb2 hnb
 go_enter Tryz.func36,Tryz.ntmps36
 go_wp2_with (go_at_call 63;refine HI.out.mono ?_;rintro e w1 ⟨rfl,hb⟩)
 go_ret
 exact ⟨rfl,HB2.out.trans (hb.mono HB2.out.size)⟩
end
end Go.Proofs.YtkmlfkbpcgkpaaaGreatDoor
