/- Texts that others want. -/
import Derived.Test.YtkmlfkbpcgkpaaaGreatDoorM0
import Derived.Test.YtkmlfkbpcgkpaaaGreatDoorM1
import Derived.Test.YtkmlfkbpcgkpaaaGreatDoorM4
import Derived.Test.YtkmlfkbpcgkpaaaGreatDoorM7
import Derived.Test.YtkmlfkbpcgkpaaaGreatDoorM8
import Derived.Test.YtkmlfkbpcgkpaaaGreatDoorM9
import Derived.Test.YtkmlfkbpcgkpaaaGreatDoorMA
namespace Go.Proofs.YtkmlfkbpcgkpaaaGreatDoor
open Go.RowKit Go.Lib Go.Op
theorem zeG {its : List PIt} (h0 : 0 < its.length) {s : PSt} (h : s∈stsN its) : ((∀ k∈s.nx,k < its.length)∧(∀ k∈s.gd,k < its.length))∧(s.nx.length≤its.length∧s.gd.length≤its.length):=by
 unfold stsN at h
 rcases List.mem_cons.1 h with rfl|h
 ·refine ⟨⟨fun k hk=>?_,fun k hk=>?_⟩,?_,?_⟩
  ·have : k=0:=by simpa [st0] using hk
   omega
  ·simp [st0] at hk
  ·simp [st0];omega
  ·simp [st0]
 ·obtain ⟨k,hk,rfl⟩:=List.mem_map.1 h
  have hk' : k < its.length:=List.mem_range.1 hk
  have hx : its[k]?=some its[k]:=List.getElem?_eq_getElem hk'
  have he : stF its k=stAt its k its[k]:=by unfold stF;rw [hx]
  rw [he]
  have ho:=zjk hx
  refine ⟨⟨fun n hn=>?_,fun n hn=>?_⟩,?_⟩
  ·obtain ⟨i,hi,rfl⟩:=List.mem_iff_getElem.1 hn
   exact (ho.nx i _ (List.getElem?_eq_getElem hi)).2.1
  ·obtain ⟨i,hi,rfl⟩:=List.mem_iff_getElem.1 hn
   exact (ho.gd i _ (List.getElem?_eq_getElem hi)).2.1
  ·unfold stAt
   have:=zdE (its.drop (k+1)) (k+1) (if its[k].mode=2 then [k] else []) []
   rw [List.length_drop] at this
   have h1 : (if its[k].mode=2 then [k] else []).length≤1:=by split <;> simp
   simp only [List.length_nil] at this
   omega
theorem zjE {its : List PIt} {k : Int} (h0 : 0≤k+1) (h1 : k < its.length) : stQ its k∈stsN its:=List.mem_of_getElem? (zd9 h0 h1)
section
variable {A : List (List PEv)→Nat→Bool} {its : List PIt} {e : PEv}
theorem zeH {r : PRun} (h0 : 0 < its.length) (h1 : 0≤r.place+1) (h2 : r.place < its.length) : (takenP A its e r).length≤its.length :=
 Nat.le_trans (List.length_filterMap_le _ _) (zeG h0 (zjE h1 h2)).2.1
theorem ziP {pick : Int} {r : PRun} (h0 : 0 < its.length) (h1 : 0≤r.place+1) (h2 : r.place < its.length) : (doesP A its e pick r).length≤its.length+1:=by
 have ht:=zeH (A:=A) (e:=e) h0 h1 h2
 have hg : (goesP A its e pick r).length≤its.length:=by
  unfold goesP
  split
  ·rw [List.length_take];omega
  ·exact ht
 unfold doesP
 split
 ·simp
 ·rw [List.length_append,List.length_map]
  have : (if staysP A its e pick r then [(⟨r,true,false⟩ : PDe)] else []).length≤1:=by split <;> simp
  omega
theorem zdv {α β : Type} {f : α→List β} {n : Nat} : ∀ {l : List α},(∀ x∈l,(f x).length≤n)→(l.flatMap f).length≤l.length*n
 | [],_=>by simp
 | x :: l,h=>by
   rw [List.flatMap_cons,List.length_append,List.length_cons,Nat.add_mul,Nat.one_mul]
   have h1:=h x (List.mem_cons_self ..)
   have h2:=zdv (l:=l) (fun y hy=>h y (List.mem_cons_of_mem _ hy))
   omega
theorem zeI {pick : Int} {runs : List PRun} (h0 : 0 < its.length) (h6 : its.length≤6) (hr : ∀ r∈runs,0≤r.place+1∧r.place < its.length) (hl : runs.length≤100000) : (deedsP A its e pick runs).length≤700006:=by
 unfold deedsP
 rw [List.length_append,List.length_map]
 have h1 : (runs.flatMap (doesP A its e pick)).length≤runs.length*7:=zdv (fun r hr'=>by
  have:=ziP (A:=A) (e:=e) (pick:=pick) h0 (hr r hr').1 (hr r hr').2
  omega)
 have h2:=zeH (A:=A) (e:=e) (r:=begunP its) h0 (by simp [begunP]) (by simp [begunP];omega)
 omega
end
set_option maxHeartbeats 8000000
set_option maxRecDepth 100000
def BKp (B : Nat) (w w' : World) : Prop:=Below B w w'∧KeepsFrom 0 w w'
theorem zeJ {w w3 : World} (hb : Below w.heap.size w w3) {g k : Nat} {v : Value} (hg : ∃ c,w.heap[g]?=some (.cells c 59 (0,0))∨w.heap[g]?=some (.cells c 37 (0,0))) : KeepsFrom 0 w (w3.setCell ⟨g,k,none⟩ v):=by
 have hf:=TFr.at (w:=w3) g k v
 refine ⟨Nat.le_trans hb.size hf.size,fun b o _ hk hc=>?_⟩
 have hlt:=(Array.getElem?_eq_some_iff.1 hk).1
 have hbg : b≠g:=fun e=>by
  obtain ⟨c,h|h⟩:=hg <;> (rw [e,h] at hk;injection hk with hk;rw [← hk] at hc;cases hc)
 exact ((hf.block b (Nat.lt_of_lt_of_le hlt hb.size) hbg).trans (hb.block b hlt)).trans hk
def ApK (X : Nat→Prop) (B : Nat) (l1 : List PRun) (l2 : List PMt) (w : World) (e : Ending) (w' : World) : Prop:=∃ v1 v2,e=.returned (.tuple #[v1,v2])∧OvX X B w' v1 v2 l1 l2∧BKp B w w'
section
variable {B : Nat} {w : World} {a1 a2 : Option Addr} {c1 c2 : Nat} {l1 : List PRun} {l2 : List PMt}
theorem zfy (h : OvI B w (.slice a1 l1.length c1) (.slice a2 l2.length c2) l1 l2) (_hB : B≤w.heap.size) (hs1 : ∀ r∈l1,BdS r.bound) (hs2 : ∀ r∈l2,BdS r.bound) (hl1 : l1.length≤1000000) (hl2 : l2.length≤1000000) : Calls Tryz.prog 55 #[.slice a1 l1.length c1,.slice a2 l2.length c2] w (ApK (fun g=>g < w.heap.size) B l1 l2 w):=by
 obtain ⟨N,hN⟩ : ∃ N : Nat→Prop,N=fun g=>g < w.heap.size:=⟨_,rfl⟩
 have HNd : Hid (∀ g,N g→g < w.heap.size):=fun g hg=>by rw [hN] at hg;exact hg
 have HNe : Hid (∀ g,g < w.heap.size→N g):=fun g hg=>by rw [hN];exact hg
 clear hN
 have HO : Hid (OvF N B w (.slice a1 l1.length c1) (.slice a2 l2.length c2) l1 l2 0 0):=h.f
 have HB0 : Hid (BKp B w w):=⟨Below.refl _ _,KeepsFrom.refl _ _⟩
 have HS1:=hid hs1
 have HS2:=hid hs2
 obtain ⟨n1,hn1⟩ : ∃ n1,l1.length=n1:=⟨_,rfl⟩
 obtain ⟨n2,hn2⟩ : ∃ n2,l2.length=n2:=⟨_,rfl⟩
 have HN1:=hid hn1
 have HN2:=hid hn2
 rw [hn1,hn2] at HO ⊢
 rw [hn1] at hl1
 rw [hn2] at hl2
 clear h hs1 hs2 hn1 hn2
 go_enter Tryz.func55,Tryz.ntmps55
 go_wp2
 go_loopw [10] (fun i wr=>∃ j : Nat,i=.int .i64 j∧j≤n1∧Hid (OvF N B wr (.slice a1 n1 c1) (.slice a2 n2 c2) l1 l2 j 0)∧Hid (BKp B w wr)) (fun i _=>n1 - (RowKit.intOf i).toNat)
 case atStart=>exact ⟨0,rfl,Nat.zero_le _,HO,HB0⟩
 case round =>
  clear HO HB0
  obtain ⟨j,rfl,hj,HO,HB⟩:=hrel
  by_cases hlt : j < n1
  ·obtain ⟨css1,css2,q1,q2,h3⟩:=HO.out;have h1:=q1.g;have h2:=q2.g;have HF1:=hid q1;have HF2:=hid q2;clear q1 q2
   obtain ⟨r,hr⟩ : ∃ r,l1[j]?=some r:=⟨_,List.getElem?_eq_getElem (by rw [HN1.out];exact hlt)⟩
   obtain ⟨cs,hcs,a5,c5,rfl,hb⟩:=h1.p j r hr
   obtain ⟨g1,rfl⟩:=h1.base hr
   have c0 : wr.cell? ⟨g1,j*2+1,none⟩=some (.slice a5 r.bound.length c5):=h1.cells (g:=g1) rfl hcs (r:=1) rfl
   have f0:=h1.frozen (g:=g1) rfl (j*2+1)
   have hown:=HO.out.ovI.own
   have HOWN:=hid hown;have hce:=zdQ hb (fun g hg=>(hown g hg).2) (HS1.out r (List.mem_of_getElem? hr))
   obtain ⟨m,hm⟩ : ∃ m,r.bound.length=m:=⟨_,rfl⟩
   have HM:=hid hm
   rw [hm] at hce c0
   have HCE:=hid hce
   have HH1:=hid h1
   have HH2:=hid h2
   have HH3:=hid h3
   have HCS:=hid hcs
   have HR:=hid hr
   have hg1:=h1.own g1 rfl
   have hk0 : (0 : Int)≤(j : Int):=by omega
   have hk1 : (j : Int) < (n1 : Int):=by omega
   clear h1 h2 h3 hr hcs hb hce hm HO hown
   go_wp2_with (go_at_call 90;(with_reducible refine HCE.out.mono ?_);rintro e w3 ⟨v3,rfl,h4,hb3⟩;obtain ⟨a3,c3,rfl⟩:=h4.slice;rw [HM.out] at h4 ⊢;have d0:=zaa hb3 c0;have e0:=zaB hb3 c0 f0)
   have hfr : TFr (fun b=>wr.heap.size≤b) (w3.setCell ⟨g1,j*2+1,none⟩ (.slice a3 m c3)) (w3.setCell ⟨g1,j*2+1,none⟩ (.slice a3 m c3)):=TFr.refl _ _
   have hN:=HF1.out.put (w3:=w3) (w2:=w3.setCell ⟨g1,j*2+1,none⟩ (.slice a3 m c3)) (g:=g1) (j:=j) (r:=1) (u:=.slice a3 m c3) zfW rfl (.inl rfl) hb3 HCS.out (by decide) hfr (fun y hy=>by
    rw [HR.out] at hy
    injection hy with hy
    subst hy
    exact ⟨a3,c3,by rw [HM.out];rfl,by rw [HM.out];exact (h4.set (b:=g1) hg1.2 _ _).mono (fun g hg=>hg.elim (fun h=>(HOWN.out g h).2) (fun h=>Nat.lt_of_lt_of_le (HNd.out g h) HB.out.1.size))⟩)
   have hO:=(HF2.out.low hb3).keep (TFr.at g1 (j*2+1) (.slice a3 m c3)) (fun _ g _ e=>by rw [e];exact .inl (.inl rfl)) (fun g hg e=>by subst e;exact HH3.out g rfl hg)
   have HN : Hid (OvF N B (w3.setCell ⟨g1,j*2+1,none⟩ (.slice a3 m c3)) (.slice (some ⟨g1,0,none⟩) n1 c1) (.slice a2 n2 c2) l1 l2 (j+1) 0):=⟨_,_,hN,hO,HH3.out⟩
   have HBN : Hid (BKp B w (w3.setCell ⟨g1,j*2+1,none⟩ (.slice a3 m c3))):=⟨(HB.out.1.trans (hb3.mono (Nat.le_trans hg1.1 (Nat.le_of_lt hg1.2)))).setCell (p:=⟨g1,j*2+1,none⟩) hg1.1 _,HB.out.2.trans (zeJ hb3 (by obtain ⟨c,h⟩:=HH1.out.isCells (g:=g1) rfl;exact ⟨c,.inl h⟩))⟩
   clear hN hO hfr h4 hb3 d0 e0 c0 f0
   go_roundw
   case rel=>exact ⟨j+1,by go_num,by omega,HN,HBN⟩
   case measure=>simp [RowKit.intOf];omega
  ·have hjn : n1=j:=by omega
   subst hjn
   have HO2:=HO
   have HB2:=HB
   go_wp2
   go_loopw [26] (fun i wr=>∃ j : Nat,i=.int .i64 j∧j≤n2∧Hid (OvF N B wr (.slice a1 n1 c1) (.slice a2 n2 c2) l1 l2 n1 j)∧Hid (BKp B w wr)) (fun i _=>n2 - (RowKit.intOf i).toNat)
   case atStart=>exact ⟨0,rfl,Nat.zero_le _,HO2,HB2⟩
   case round =>
    clear HO HB HO2 HB2
    obtain ⟨j,rfl,hj,HO,HB⟩:=hrel
    by_cases hlt : j < n2
    ·obtain ⟨css1,css2,q1,q2,h3⟩:=HO.out;have h1:=q1.g;have h2:=q2.g;have HF1:=hid q1;have HF2:=hid q2;clear q1 q2
     obtain ⟨r,hr⟩ : ∃ r,l2[j]?=some r:=⟨_,List.getElem?_eq_getElem (by rw [HN2.out];exact hlt)⟩
     obtain ⟨cs,hcs,a5,c5,rfl,hb⟩:=h2.p j r hr
     obtain ⟨g1,rfl⟩:=h2.base hr
     have c0 : wr.cell? ⟨g1,j*2+1,none⟩=some (.slice a5 r.bound.length c5):=h2.cells (g:=g1) rfl hcs (r:=1) rfl
     have f0:=h2.frozen (g:=g1) rfl (j*2+1)
     have hown:=HO.out.ovI.own
     have HOWN:=hid hown;have hce:=zdQ hb (fun g hg=>(hown g hg).2) (HS2.out r (List.mem_of_getElem? hr))
     obtain ⟨m,hm⟩ : ∃ m,r.bound.length=m:=⟨_,rfl⟩
     have HM:=hid hm
     rw [hm] at hce c0
     have HCE:=hid hce
     have HH1:=hid h1
     have HH2:=hid h2
     have HH3:=hid h3
     have HCS:=hid hcs
     have HR:=hid hr
     have hg1:=h2.own g1 rfl
     have hk0 : (0 : Int)≤(j : Int):=by omega
     have hk1 : (j : Int) < (n2 : Int):=by omega
     clear h1 h2 h3 hr hcs hb hce hm HO hown
     go_wp2_with (go_at_call 90;(with_reducible refine HCE.out.mono ?_);rintro e w3 ⟨v3,rfl,h4,hb3⟩;obtain ⟨a3,c3,rfl⟩:=h4.slice;rw [HM.out] at h4 ⊢;have d0:=zaa hb3 c0;have e0:=zaB hb3 c0 f0)
     have hfr : TFr (fun b=>wr.heap.size≤b) (w3.setCell ⟨g1,j*2+1,none⟩ (.slice a3 m c3)) (w3.setCell ⟨g1,j*2+1,none⟩ (.slice a3 m c3)):=TFr.refl _ _
     have hN:=HF2.out.put (w3:=w3) (w2:=w3.setCell ⟨g1,j*2+1,none⟩ (.slice a3 m c3)) (g:=g1) (j:=j) (r:=1) (u:=.slice a3 m c3) zjj rfl (.inr rfl) hb3 HCS.out (by decide) hfr (fun y hy=>by
      rw [HR.out] at hy
      injection hy with hy
      subst hy
      exact ⟨a3,c3,by rw [HM.out];rfl,by rw [HM.out];exact (h4.set (b:=g1) hg1.2 _ _).mono (fun g hg=>hg.elim (fun h=>(HOWN.out g h).2) (fun h=>Nat.lt_of_lt_of_le (HNd.out g h) HB.out.1.size))⟩)
     have hO:=(HF1.out.low hb3).keep (TFr.at g1 (j*2+1) (.slice a3 m c3)) (fun _ g _ e=>by rw [e];exact .inl (.inr rfl)) (fun g hg e=>by subst e;exact HH3.out g hg rfl)
     have HN : Hid (OvF N B (w3.setCell ⟨g1,j*2+1,none⟩ (.slice a3 m c3)) (.slice a1 n1 c1) (.slice (some ⟨g1,0,none⟩) n2 c2) l1 l2 n1 (j+1)):=⟨_,_,hO,hN,HH3.out⟩
     have HBN : Hid (BKp B w (w3.setCell ⟨g1,j*2+1,none⟩ (.slice a3 m c3))):=⟨(HB.out.1.trans (hb3.mono (Nat.le_trans hg1.1 (Nat.le_of_lt hg1.2)))).setCell (p:=⟨g1,j*2+1,none⟩) hg1.1 _,HB.out.2.trans (zeJ hb3 (by obtain ⟨c,h⟩:=HH2.out.isCells (g:=g1) rfl;exact ⟨c,.inr h⟩))⟩
     clear hN hO hfr h4 hb3 d0 e0 c0 f0
     go_roundw
     case rel=>exact ⟨j+1,by go_num,by omega,HN,HBN⟩
     case measure=>simp [RowKit.intOf];omega
    ·have hjn : n2=j:=by omega
     subst hjn
     have HO2:=HO
     have HB2:=HB
     go_wp2
     refine bodyPost_ret (v:=.tuple #[.slice a1 n1 c1,.slice a2 n2 c2]) (by simp [results,Tryz.results55,go_sem]) rfl ?_
     exact ⟨_,_,rfl,HO2.out.all (by rw [HN1.out];exact Nat.le_refl _) (by rw [HN2.out];exact Nat.le_refl _) HNe.out,HB2.out⟩
end
section
variable {A : List (List PEv)→Nat→Bool} {its : List PIt} {e : PEv}
theorem zgK {b : List (List PEv)} {k : Nat} (h : BdS b) (h9 : ∀ l∈b,l.length < 100000) (hv : e.vals.length≤100000) : BdS (withP e b k):=by
 unfold withP
 refine ⟨by rw [List.length_set];exact h.1,fun l hl=>?_⟩
 rcases List.mem_or_eq_of_mem_set hl with hl|rfl
 ·exact h.2 l hl
 ·cases hb : b[k]? with
  | none=>exact ⟨by simp,fun x hx=>by have : x=e:=by simpa using hx
                                      rw [this];exact hv⟩
  | some y =>
    have hy:=List.mem_of_getElem? hb
    refine ⟨?_,fun x hx=>?_⟩
    ·have:=h9 y hy
     simp
     omega
    ·rcases List.mem_append.1 (show x∈y++[e] by simpa using hx) with hx|hx
     ·exact (h.2 y hy).2 x hx
     ·rw [List.mem_singleton.1 hx];exact hv
theorem zcS {r : PRun} (h : BdS r.bound) (h9 : ∀ l∈r.bound,l.length < 100000) (hv : e.vals.length≤100000) : ∀ t∈takenP A its e r,BdS t.bound:=fun t ht=>by
 obtain ⟨k,_,hk⟩:=List.mem_filterMap.1 ht
 unfold takesP at hk
 split at hk
 ·cases hk
 ·split at hk
  ·injection hk with hk
   rw [← hk]
   exact zgK h h9 hv
  ·cases hk
theorem zfz {pick : Int} {runs : List PRun} (h : ∀ r∈runs,BdS r.bound) (h9 : ∀ r∈runs,∀ l∈r.bound,l.length < 100000) (hv : e.vals.length≤100000) (h6 : its.length≤6) : ∀ d∈deedsP A its e pick runs,BdS d.run.bound:=fun d hd=>by
 unfold deedsP at hd
 rcases List.mem_append.1 hd with hd|hd
 ·obtain ⟨r,hr,hd⟩:=List.mem_flatMap.1 hd
  unfold doesP at hd
  split at hd
  ·cases hd
  ·rcases List.mem_append.1 hd with hd|hd
   ·split at hd
    ·rw [List.mem_singleton.1 hd]
     exact h r hr
    ·cases hd
   ·obtain ⟨t,ht,rfl⟩:=List.mem_map.1 hd
    refine zcS (A:=A) (its:=its) (h r hr) (h9 r hr) hv t ?_
    unfold goesP at ht
    split at ht
    ·exact List.mem_of_mem_take ht
    ·exact ht
 ·obtain ⟨t,ht,rfl⟩:=List.mem_map.1 hd
  refine zcS (r:=begunP its) ⟨by simp [begunP];omega,fun l hl=>?_⟩ (fun l hl=>?_) hv t ht
  ·rw [List.eq_of_mem_replicate hl]
   simp
  ·rw [List.eq_of_mem_replicate hl]
   simp
end
end Go.Proofs.YtkmlfkbpcgkpaaaGreatDoor
namespace Go.Proofs.YtkmlfkbpcgkpaaaGreatDoor
open Go.RowKit Go.Lib Go.Op Go.Shelf
set_option maxHeartbeats 8000000
set_option maxRecDepth 100000
attribute [local go_sem] Oper.semAt_some
attribute [-go_sem] Go.Builtin.append_
section
variable {sa qa qb va ea : Option Addr} {sn sc qc r d vc ec q m en : Nat} {p : PQu} {e : PEv} {K : Nat→Prop} {w : World} {a : Option Addr} {c : Nat} {runs : List PRun} {A : List (List PEv)→Nat→Bool}
theorem zdt (hq : QuAt K w qa q qc qb r d p) (hb : QuB p) (h : RowK runD (fun _=>False) w (.slice a runs.length c) runs) (hs : RunsS runs) (hs9 : ∀ t∈runs,∀ l∈t.bound,l.length < 100000) (hev : RowK valD (fun _=>False) w (.slice ea en ec) e.vals) (hnm : e.name.length≤maxLen) (hvl : e.vals.length≤100000)
 (hall : (rightE e && (rightQ p && namesP p.its e.name))=true→AllSaid A sa sn sc qa q qc qb r d p) :
 Calls Tryz.prog 30 #[.slice sa sn sc,.agg #[.slice qa q qc,.slice qb r d,.int .i64 p.within,.string (strB p.by_),.int .i64 p.pick],.slice a runs.length c,.agg #[.int .i64 e.ts,.int .i64 e.dep,.int .i64 e.seq,.string (strB e.name),.slice ea en ec]] w (TiTo (stepP A p e runs).1 (stepP A p e runs).2 w):=by
 refine (callsIn_wide (n:=9)).1 ?_
 obtain ⟨W1,hW1⟩ : ∃ W1,(w.alloc (.cells #[.slice qa q qc,.slice qb r d,.int .i64 p.within,.string (strB p.by_),.int .i64 p.pick] 26)).alloc (.cells #[.int .i64 e.ts,.int .i64 e.dep,.int .i64 e.seq,.string (strB e.name),.slice ea en ec] 41)=W1:=⟨_,rfl⟩
 have hb1 : Below w.heap.size w W1:=by rw [← hW1];exact ((Below.refl _ w).alloc (Nat.le_refl _) _).alloc (by simp) _
 have hs1 : W1.heap.size=w.heap.size+2:=by rw [← hW1];simp
 have hbq : Blk W1 w.heap.size #[.slice qa q qc,.slice qb r d,.int .i64 p.within,.string (strB p.by_),.int .i64 p.pick] 26:=by rw [← hW1];exact (Blk.new w #[.slice qa q qc,.slice qb r d,.int .i64 p.within,.string (strB p.by_),.int .i64 p.pick] 26).low ((Below.refl _ _).alloc (Nat.le_refl _) _)
 have hbe : Blk W1 (w.heap.size+1) #[.int .i64 e.ts,.int .i64 e.dep,.int .i64 e.seq,.string (strB e.name),.slice ea en ec] 41:=by
  rw [← hW1]
  have h1:=Blk.new (w.alloc (.cells #[.slice qa q qc,.slice qb r d,.int .i64 p.within,.string (strB p.by_),.int .i64 p.pick] 26)) #[.int .i64 e.ts,.int .i64 e.dep,.int .i64 e.seq,.string (strB e.name),.slice ea en ec] 41
  rw [World.size_alloc] at h1
  exact h1
 have hq1 : QuAt K W1 qa q qc qb r d p:=⟨hq.1.low hb1,hq.2.low hb1⟩
 have hr1:=h.low hb1
 have hv1:=hev.low hb1
 obtain ⟨n,hn⟩ : ∃ n,runs.length=n:=⟨_,rfl⟩
 have hen : e.vals.length=en:=hev.len.symm
 have HRE : Hid (∀ W,Below W1.heap.size W1 W→Calls Tryz.prog 58 #[.agg #[.int .i64 e.ts,.int .i64 e.dep,.int .i64 e.seq,.string (strB e.name),.slice ea en ec]] W fun ew w'=>ew=.returned (.bool (rightE e))∧Below W.heap.size W w'):=fun W hW=>by
  have h1:=zcn (w:=W) (a:=ea) (c:=ec) (by rw [hen];exact hv1.low hW) hnm (by omega)
  unfold evV' at h1
  rw [hen] at h1
  exact h1
 have HTI : Hid (∀ W,Below W1.heap.size W1 W→Calls Tryz.prog 27 #[.agg #[.slice qa q qc,.slice qb r d,.int .i64 p.within,.string (strB p.by_),.int .i64 p.pick],.slice a n c,.int .i64 (-1)] W (TiTo (timeP p runs (-1)).1 (timeP p runs (-1)).2 W)):=fun W hW=>by
  have h1:=zcw (K:=K) (w:=W) ⟨hq1.1.low hW,hq1.2.low hW⟩ hb (a:=a) (c:=c) (hr1.low hW) hs (time:=-1) (by omega)
  rw [hn] at h1
  exact h1
 have HBQ:=hid hbq
 have HBE:=hid hbe
 have HB1:=hid hb1
 have HS1:=hid hs1
 have HQ1:=hid hq1
 have HR1:=hid hr1
 have HV1:=hid hv1
 have HN:=hid hn
 have HW1:=hid hW1
 have HALL:=hid hall
 have HS:=hid hs
 have HQB:=hid hb
 rw [hn]
 obtain ⟨x0,x1,x2,x3,x4⟩:=c5w hbq
 obtain ⟨y0,y1,y2,y3,y4⟩:=c5w hbe
 rw [← hW1] at x0 x1 x2 x3 x4 y0 y1 y2 y3 y4
 clear hbq hbe hb1 hs1 hq1 hr1 hv1 hn hen hW1 hq hb h hs hev hall
 refine callsIn_of_wp_marks Tryz.func30 rfl trivial ?_ rfl
 simp only [Tryz.ntmps30,List.size_toArray,List.length_cons,List.length_nil,Nat.reduceAdd,Nat.reduceSub,Array.replicate_succ,Array.replicate_zero,List.push_toArray,List.append_toArray,List.nil_append,List.cons_append]
 gi_wp2
 rw [HW1.out]
 obtain ⟨zr,hzr⟩ : ∃ zr,rightE e=zr:=⟨_,rfl⟩
 have HZR:=hid hzr
 rw [hzr] at HRE
 clear hzr x0 x1 x2 x3 x4 y0 y1 y2 y3 y4
 refine ⟨trivial,(callsIn_wide.2 (HRE.out W1 (Below.refl _ _))).mono ?_⟩
 rintro e1 W2 ⟨rfl,hb2⟩
 obtain ⟨x0,x1,x2,x3,x4⟩:=c5w (HBQ.out.low hb2)
 obtain ⟨y0,y1,y2,y3,y4⟩:=c5w (HBE.out.low hb2)
 have HB2:=hid hb2
 clear hb2
 cases zr with
 | false =>
   have hst : stepP A p e runs=timeP p runs (-1):=by unfold stepP;rw [HZR.out];rfl
   have HST:=hid hst
   clear hst
   gi_wp2
   refine ⟨trivial,(callsIn_wide.2 (HTI.out W2 HB2.out)).mono ?_⟩
   rintro e3 W3 ⟨v1,v2,rfl,ho,hb3⟩
   have HO:=hid ((ho.mono (X':=fun g=>g < w.heap.size) (fun g hg=>by have:=HB2.out.size;have:=HS1.out;omega)).base (B':=w.heap.size) (by have:=HB2.out.size;have:=HS1.out;omega))
   obtain ⟨a1,c1,rfl⟩:=ho.sl1
   obtain ⟨a2,c2,rfl⟩:=ho.sl2
   have HB3 : Hid (Below w.heap.size w W3):=(HB1.out.trans (HB2.out.mono HB1.out.size)).trans (hb3.mono (Nat.le_trans HB1.out.size HB2.out.size))
   clear ho hb3
   gi_wp2
   refine ⟨_,results_tmp2 rfl _ _ _,_,_,rfl,?_,HB3.out⟩
   rw [HST.out]
   exact HO.out
 | true =>
   gi_wp2
   refine ⟨trivial,(callsIn_wide.2 (zaC (w:=W2) (K:=K) ⟨HQ1.out.1.low HB2.out,HQ1.out.2.low HB2.out⟩ HQB.out)).mono ?_⟩
   rintro e3 W3 ⟨v,rfl,hst,hb3⟩
   obtain ⟨va,vc,rfl⟩:=hst.slice
   obtain ⟨m,hm⟩ : ∃ m,(if rightQ p then stsN p.its else []).length=m:=⟨_,rfl⟩
   rw [hm] at hst ⊢
   have hb23:=HB2.out.trans (hb3.mono HB2.out.size)
   obtain ⟨x0,x1,x2,x3,x4⟩:=c5w (HBQ.out.low hb23)
   obtain ⟨y0,y1,y2,y3,y4⟩:=c5w (HBE.out.low hb23)
   have hts : 0≤e.ts∧e.ts≤1099511627776:=by
    have h9:=zgq.1 HZR.out
    omega
   have HOV:=hid (zdh (w:=W3) (qa:=qa) (qb:=qb) (qc:=qc) (r:=r) (d:=d) (va:=va) (vc:=vc) (m:=m) (a:=a) (c:=c) (runs:=runs) (K:=K) (rightQ p) (by rw [← HQ1.out.1.len];exact HQ1.out.1.low hb23) hst (HR1.out.low hb23) (pk:=p.pick) (time:=e.ts - 1) zbc (fun hz=>by
    obtain ⟨_,_,_,_,_,h6⟩:=zaw hz
    exact h6) (by omega) (by have:=HS.out.1;omega) (strB p.by_))
   rw [← HQ1.out.1.len,HN.out] at HOV
   have HB23:=hid hb23
   have HST:=hid hst
   have HM:=hid hm
   clear hb3 hb23 hst hm
   gi_wp2
   refine ⟨trivial,(callsIn_wide.2 HOV.out).mono ?_⟩
   rintro e4 W4 ⟨v1,v2,rfl,ho,hb4⟩
   rw [zdz.1,zdz.2] at ho
   have hsm:=zdg (p:=p) (time:=e.ts - 1) HS.out
   have hln : (timeP p runs (e.ts - 1)).1.length≤runs.length∧(timeP p runs (e.ts - 1)).2.length≤runs.length:=by
    unfold timeP
    split
    ·exact ⟨List.length_filter_le _ _,List.length_filterMap_le _ _⟩
    ·exact ⟨Nat.zero_le _,Nat.zero_le _⟩
   obtain ⟨L1,hL1⟩ : ∃ L1,(timeP p runs (e.ts - 1)).1=L1:=⟨_,rfl⟩
   obtain ⟨L2,hL2⟩ : ∃ L2,(timeP p runs (e.ts - 1)).2=L2:=⟨_,rfl⟩
   rw [hL1,hL2] at ho hln hsm
   obtain ⟨a1,c1,rfl⟩:=ho.sl1
   obtain ⟨a2,c2,rfl⟩:=ho.sl2
   have HL1:=hid hL1
   have HL2:=hid hL2
   have HLN : Hid (L1.length≤100000∧L2.length≤100000):=⟨Nat.le_trans hln.1 HS.out.1,Nat.le_trans hln.2 HS.out.1⟩
   have HSM:=hid hsm
   obtain ⟨k1,hk1⟩ : ∃ k1,L1.length=k1:=⟨_,rfl⟩
   obtain ⟨k2,hk2⟩ : ∃ k2,L2.length=k2:=⟨_,rfl⟩
   rw [hk1,hk2] at ho ⊢
   have HK1:=hid hk1
   have HK2:=hid hk2
   have hb24:=HB23.out.trans (hb4.mono HB23.out.size)
   obtain ⟨W5,hW5⟩ : ∃ W5,W4.alloc (.cells #[.slice a2 k2 c2] 32)=W5:=⟨_,rfl⟩
   have hb45 : Below W4.heap.size W4 W5:=by rw [← hW5];exact (Below.refl _ _).alloc (Nat.le_refl _) _
   have hbx : Blk W5 W4.heap.size #[.slice a2 k2 c2] 32:=by rw [← hW5];exact Blk.new W4 _ _
   have hb25:=hb24.trans (hb45.mono hb24.size)
   have z0:=zab hbx (k:=0) rfl
   obtain ⟨x0,x1,x2,x3,x4⟩:=c5w (HBQ.out.low hb25)
   obtain ⟨y0,y1,y2,y3,y4⟩:=c5w (HBE.out.low hb25)
   have HW5:=hid hW5
   have HBX:=hid hbx
   have HO:=hid ho
   have HB4:=hid hb4
   have HB45:=hid hb45
   have HB25:=hid hb25
   rw [← hW5] at z0 x0 x1 x2 x3 x4 y0 y1 y2 y3 y4
   clear hL1 hL2 hk1 hk2 ho hb4 hb24 hb45 hbx hb25 hW5 hln hsm HOV
   have HBW : Hid (Below w.heap.size w W5):=HB1.out.trans (HB25.out.mono HB1.out.size)
   have HAP : Hid (∀ W,Below W5.heap.size W5 W→Calls Tryz.prog 55 #[.slice a1 k1 c1,.slice a2 k2 c2] W (ApN (fun g=>g < w.heap.size) w.heap.size L1 L2 W)):=fun W hW=>by
    have hsz:=HB1.out.size
    have hsz2:=HB25.out.size
    have hsz3:=hW.size
    have hsz4:=HB23.out.size
    have hI : OvI w.heap.size W (.slice a1 L1.length c1) (.slice a2 L2.length c2) L1 L2:=by
     rw [HK1.out,HK2.out]
     exact ((HO.out.low HB45.out).low hW).base (B':=w.heap.size) (by omega)
    have h1:=zer hI (by omega) HSM.out.1 HSM.out.2 (by have:=HLN.out;omega) (by have:=HLN.out;omega)
    rw [HK1.out,HK2.out] at h1
    exact h1.mono (fun ew w' ⟨v1,v2,q1,q2,q3⟩=>⟨v1,v2,q1,q2.mono (fun g hg=>by omega),q3⟩)
   obtain ⟨zq,hzq⟩ : ∃ zq,rightQ p=zq:=⟨_,rfl⟩
   have HZQ:=hid hzq
   rw [hzq] at HM HST
   clear hzq
   cases zq with
   | false =>
     have hm0 : ((m : Int) == 0)=true:=by
      have e1 : 0=m:=HM.out
      rw [← e1];rfl
     gi_wp2
     refine ⟨trivial,?_⟩
     gi_wp2
     rw [HW5.out]
     have hst : stepP A p e runs=(L1,L2):=by
      unfold stepP
      rw [HZR.out,HZQ.out,Bool.false_and,if_pos rfl,if_neg (by decide),← HL1.out,← HL2.out]
     refine ⟨trivial,(callsIn_wide.2 (HAP.out _ (Below.refl W5.heap.size W5))).mono ?_⟩
     rintro e7 W7 ⟨u1,u2,rfl,ho7,hb7⟩
     have HO7:=hid ho7
     have HB7 : Hid (Below w.heap.size w W7):=(HBW.out.trans (((Below.refl W5.heap.size W5)).mono HBW.out.size)).trans hb7
     obtain ⟨b1,d1,rfl⟩:=ho7.sl1
     obtain ⟨b2,d2,rfl⟩:=ho7.sl2
     clear ho7 hb7
     gi_wp2
     refine ⟨_,results_tmp2 rfl _ _ _,_,_,rfl,?_,HB7.out⟩
     rw [hst]
     exact HO7.out
   | true =>
     have hq6 : q≤6:=by
      obtain ⟨_,_,_,_,_,h6⟩:=zaw HZQ.out
      have:=HQ1.out.1.len
      omega
     have hmq : m=q+1:=by
      have e1 : (stsN p.its).length=m:=HM.out
      rw [zbd,← HQ1.out.1.len] at e1
      exact e1.symm
     have hm0 : ((m : Int) == 0)=false:=beq_eq_false_iff_ne.2 (by omega)
     have HNM : Hid (∀ W,Below W1.heap.size W1 W→Calls Tryz.prog 36 #[.agg #[.slice qa q qc,.slice qb r d,.int .i64 p.within,.string (strB p.by_),.int .i64 p.pick],.string (strB e.name)] W fun ew w'=>ew=.returned (.bool (namesP p.its e.name))∧Below W.heap.size W w'):=fun W hW =>
      zbP (K:=K) e.name (HQ1.out.1.low hW) (by omega) (fun i hi=>(HQB.out.1 i hi).1)
     obtain ⟨zn,hzn⟩ : ∃ zn,namesP p.its e.name=zn:=⟨_,rfl⟩
     have HZN:=hid hzn
     rw [hzn] at HNM
     clear hzn hmq
     gi_wp2
     rw [HW5.out]
     refine ⟨trivial,(callsIn_wide.2 (HNM.out W5 HB25.out)).mono ?_⟩
     rintro e6 W6 ⟨rfl,hb6⟩
     obtain ⟨x0,x1,x2,x3,x4⟩:=c5w ((HBQ.out.low HB25.out).low hb6)
     obtain ⟨y0,y1,y2,y3,y4⟩:=c5w ((HBE.out.low HB25.out).low hb6)
     have z0:=zab (HBX.out.low hb6) (k:=0) rfl
     have HB6:=hid hb6
     clear hb6
     cases zn with
     | false =>
       gi_wp2
       have hst : stepP A p e runs=(L1,L2):=by
        unfold stepP
        rw [HZR.out,HZQ.out,HZN.out,if_pos rfl,if_neg (by decide),← HL1.out,← HL2.out]
       refine ⟨trivial,(callsIn_wide.2 (HAP.out _ HB6.out)).mono ?_⟩
       rintro e7 W7 ⟨u1,u2,rfl,ho7,hb7⟩
       have HO7:=hid ho7
       have HB7 : Hid (Below w.heap.size w W7):=(HBW.out.trans ((HB6.out).mono HBW.out.size)).trans hb7
       obtain ⟨b1,d1,rfl⟩:=ho7.sl1
       obtain ⟨b2,d2,rfl⟩:=ho7.sl2
       clear ho7 hb7
       gi_wp2
       refine ⟨_,results_tmp2 rfl _ _ _,_,_,rfl,?_,HB7.out⟩
       rw [hst]
       exact HO7.out
     | true =>
       have hall:=HALL.out (by rw [HZR.out,HZQ.out,HZN.out];rfl)
       have hst2 : stepP A p e runs=(((deedsP A p.its e p.pick L1).filter (·.on)).map (·.run),L2++((deedsP A p.its e p.pick L1).filter (·.fd)).map fun d=>⟨e.ts,d.run.bound⟩):=by
        unfold stepP
        rw [HZR.out,HZQ.out,HZN.out,if_pos rfl,if_pos (by decide),HL1.out,HL2.out]
       have HST2:=hid hst2
       have HALL2:=hid hall
       clear hall hst2
       gi_wp2
       refine ⟨trivial,(callsIn_wide.2 zfv).mono ?_⟩
       rintro e8 W8 ⟨rfl,hW8⟩
       simp only [World.size_alloc,Nat.add_assoc,Nat.reduceAdd] at hW8 ⊢
       have HW8:=hid hW8
       clear hW8 x0 x1 x2 x3 x4 y0 y1 y2 y3 y4 z0
       gi_wp2
       have hW8:=HW8.out
       clear HW8
       have hb68 : Below W6.heap.size W6 W8:=by rw [hW8];exact ((((Below.refl _ W6).alloc (Nat.le_refl _) _).alloc (by simp) _).alloc (by simp only [World.size_alloc];omega) _).alloc (by simp only [World.size_alloc];omega) _
       have hs8 : W8.heap.size=W6.heap.size+4:=by rw [hW8];simp
       have hbo : Blk W8 (W6.heap.size+1) #[.slice none 0 0] 48:=by
        rw [hW8]
        have h1:=Blk.new (W6.alloc (.cells #[.slice sa sn sc,.slice qa q qc,.slice qb r d,.int .i64 p.within,.string (strB p.by_),.int .i64 p.pick,.slice va m vc,.int .i64 e.ts,.int .i64 e.dep,.int .i64 e.seq,.string (strB e.name),.slice ea en ec] 107)) #[.slice none 0 0] 48
        rw [World.size_alloc] at h1
        exact (h1.low ((Below.refl _ _).alloc (Nat.le_refl _) _)).low ((Below.refl _ _).alloc (Nat.le_refl _) _)
       have hxc : Blk W8 (W6.heap.size+2) #[.slice sa sn sc,.slice qa q qc,.slice qb r d,.int .i64 p.within,.string (strB p.by_),.int .i64 p.pick,.slice va m vc,.int .i64 e.ts,.int .i64 e.dep,.int .i64 e.seq,.string (strB e.name),.slice ea en ec] 107:=by
        rw [hW8]
        have h1:=Blk.new ((W6.alloc (.cells #[.slice sa sn sc,.slice qa q qc,.slice qb r d,.int .i64 p.within,.string (strB p.by_),.int .i64 p.pick,.slice va m vc,.int .i64 e.ts,.int .i64 e.dep,.int .i64 e.seq,.string (strB e.name),.slice ea en ec] 107)).alloc (.cells #[.slice none 0 0] 48)) #[.slice sa sn sc,.slice qa q qc,.slice qb r d,.int .i64 p.within,.string (strB p.by_),.int .i64 p.pick,.slice va m vc,.int .i64 e.ts,.int .i64 e.dep,.int .i64 e.seq,.string (strB e.name),.slice ea en ec] 107
        rw [World.size_alloc,World.size_alloc] at h1
        exact h1.low ((Below.refl _ _).alloc (Nat.le_refl _) _)
       have hxr : Blk W8 (W6.heap.size+3) #[.slice a1 k1 c1] 48:=by
        rw [hW8]
        have h1:=Blk.new (((W6.alloc (.cells #[.slice sa sn sc,.slice qa q qc,.slice qb r d,.int .i64 p.within,.string (strB p.by_),.int .i64 p.pick,.slice va m vc,.int .i64 e.ts,.int .i64 e.dep,.int .i64 e.seq,.string (strB e.name),.slice ea en ec] 107)).alloc (.cells #[.slice none 0 0] 48)).alloc (.cells #[.slice sa sn sc,.slice qa q qc,.slice qb r d,.int .i64 p.within,.string (strB p.by_),.int .i64 p.pick,.slice va m vc,.int .i64 e.ts,.int .i64 e.dep,.int .i64 e.seq,.string (strB e.name),.slice ea en ec] 107)) #[.slice a1 k1 c1] 48
        rw [World.size_alloc,World.size_alloc,World.size_alloc] at h1
        exact h1
       clear hW8
       have hb58:=HB6.out.trans (hb68.mono HB6.out.size)
       have hbf : Blk W8 W4.heap.size #[.slice a2 k2 c2] 32:=HBX.out.low hb58
       have hs45:=HBX.out.lt
       have hs56:=HB6.out.size
       have hs34:=HB4.out.size
       have hs13:=HB23.out.size
       obtain ⟨q1,q2,ho1,ho2,ho3⟩:=HO.out
       have hown2:=ho2.own
       have hown1:=ho1.own
       have hR4 : RowK runD (fun g=>(OK2 (.slice none 0 0) (.slice a2 k2 c2) g∨g=W6.heap.size+1)∨g=W4.heap.size) W8 (.slice a1 k1 c1) L1:=by
        have h1 : RowK runD (fun g=>(Value.slice a2 k2 c2).ownBlock=some g) W4 (.slice a1 k1 c1) L1:=ho1.row' (fun _ h=>.inr h) (fun g hg=>ho3 g hg)
        refine ((h1.ge zfW (by decide)).low (HB45.out.trans (hb58.mono HB45.out.size))).mono (fun g hg=>?_)
        rcases hg with (hg|hg)|hg
        ·rcases hg with hg|hg
         ·cases hg
         ·exact .inl hg
        ·exact .inr (by omega)
        ·exact .inr (by omega)
       have hS8 : StI (W6.heap.size+1) W4.heap.size W3.heap.size W8 (.slice none 0 0) (.slice a2 k2 c2) [] L2:=by
        refine ⟨by omega,hbo,hbf,fun g hg=>?_,[],q2,OwnG.nil,?_,fun g h=>by cases h⟩
        ·rcases hg with hg|hg
         ·cases hg
         ·have:=hown2 g hg
          omega
        ·have h1 : OwnG mtD (fun g=>OK2 (.slice a1 k1 c1) (.slice a2 k2 c2) g∨W4.heap.size≤g) W4 W3.heap.size 37 (.slice a2 k2 c2) L2 q2:=⟨ho2.n,ho2.row,ho2.k,fun j x hj=>by obtain ⟨cs,e1,e2⟩:=ho2.p j x hj;exact ⟨cs,e1,zjj _ _ _ _ e2⟩⟩
         refine (h1.low (HB45.out.trans (hb58.mono HB45.out.size))).mono (fun g hg=>?_)
         rcases hg with (hg|hg)|hg|hg
         ·cases hg
         ·exact .inl (.inr hg)
         ·exact .inr (by omega)
         ·exact .inr (by omega)
       have hSw : ∀ g,SwS (W6.heap.size+1) W4.heap.size W8 g→W3.heap.size≤g∧g≠W6.heap.size+2∧g≠W6.heap.size+3:=fun g hg=>by
        rcases hS8.sw.1 hg with hg|hg|hg
        ·rcases hg with hg|hg
         ·cases hg
         ·have:=hown2 g hg
          omega
        ·omega
        ·omega
       have hb18:=HB25.out.trans (hb58.mono HB25.out.size)
       have hb38 : Below W3.heap.size W3 W8:=HB4.out.trans ((HB45.out.trans (hb58.mono HB45.out.size)).mono HB4.out.size)
       have hcom : ComAt (SwS (W6.heap.size+1) W4.heap.size W8) W8 qa q qc va m vc ea en ec p e:=by
        refine ⟨?_,?_,?_⟩
        ·refine ((HQ1.out.1.ge zhK (by decide)).low hb18).mono (fun g hg=>.inr ?_)
         have:=(hSw g hg).1
         omega
        ·have h1:=HST.out
         rw [if_pos trivial] at h1
         refine ((h1.ge zge (by decide)).low hb38).mono (fun g hg=>.inr (hSw g hg).1)
        ·refine ((HV1.out.ge zfV (by decide)).low hb18).mono (fun g hg=>.inr ?_)
         have:=(hSw g hg).1
         omega
       have hR8 : RowK runD (SwS (W6.heap.size+1) W4.heap.size W8) W8 (.slice a1 k1 c1) L1:=hR4.mono (fun g hg=>by
        rcases hS8.sw.1 hg with hg|hg|hg
        ·exact .inl (.inl hg)
        ·exact .inl (.inr hg)
        ·exact .inr hg)
       have hqn : q=p.its.length:=HQ1.out.1.len
       have hL1m : ∀ t∈L1,t∈runs:=fun t ht=>by
        have e1:=HL1.out
        unfold timeP overP at e1
        rw [HZQ.out,if_pos rfl] at e1
        rw [← e1] at ht
        exact (List.mem_filter.1 ht).1
       have HDS:=hid (zfz (A:=A) (its:=p.its) (e:=e) (pick:=p.pick) (runs:=L1) HSM.out.1 (fun t ht=>hs9 t (hL1m t ht)) hvl (by have:=HQ1.out.1.len;omega))
       have hL1r : ∀ t∈L1,rightR p.its t=true:=fun t ht=>by
        have e1:=HL1.out
        unfold timeP overP at e1
        rw [HZQ.out,if_pos rfl] at e1
        rw [← e1] at ht
        have h2:=(List.mem_filter.1 ht).2
        unfold stayR at h2
        rw [Bool.and_eq_true] at h2
        exact h2.1
       have hrr : ∀ t∈L1,t.bound.length=q∧(∀ l∈t.bound,l.length≤100000)∧∃ i : Nat,t.place+1=i∧i≤1000000∧(stsN p.its)[i]?=some (stQ p.its t.place):=fun t ht=>by
        obtain ⟨h1,h2,_,h4,_⟩:=zaE.1 (hL1r t ht)
        exact ⟨by omega,fun l hl=>((HSM.out.1 t ht).2 l hl).1,(t.place+1).toNat,by omega,by omega,zd9 (by omega) h2⟩
       have hpos : 0 < p.its.length:=by
        obtain ⟨x,r,e,_⟩:=zaw HZQ.out
        rw [e]
        simp
       have hst3 : ∀ s∈stsN p.its,((∀ k∈s.nx,k < q)∧(∀ k∈s.gd,k < q))∧(s.nx.length≤1000∧s.gd.length≤1000):=fun s hs=>by
        have h1:=zeG hpos hs
        rw [← hqn] at h1
        exact ⟨h1.1,by omega,by omega⟩
       have hdl:=zeI (A:=A) (e:=e) (pick:=p.pick) (runs:=L1) hpos (by omega) (fun t ht=>by
        obtain ⟨h1,h2,_⟩:=zaE.1 (hL1r t ht)
        exact ⟨by omega,h2⟩) HLN.out.1
       have hpk : p.pick=1∨p.pick=2∨p.pick=3:=by
        have h1:=HZQ.out
        unfold rightQ at h1
        simp only [Bool.and_eq_true,decide_eq_true_eq] at h1
        have h2:=h1.2.2.2.2.2
        omega
       have hde:=zhH (zcR (W6.heap.size+1) W4.heap.size) (9 - 1) (by omega) hS8.c hxc (fun h=>(hSw _ h).2.1 rfl) hxr (fun h=>(hSw _ h).2.2 rfl) HALL2.out hcom hR8 (by have:=HLN.out.1;have:=HK1.out;omega) hrr hst3 (fun y hy=>(HQB.out.1 y hy).1) hq6 hnm hpk
       have HDL:=hid hdl
       have hbw8 : Below w.heap.size w W8:=HBW.out.trans (hb58.mono HBW.out.size)
       have hwz:=HB1.out.size
       have hs18:=hb18.size
       refine zcP (w0:=W8) (C:=CSt (W6.heap.size+1) W4.heap.size) rfl (by omega) (gf:=93) (lb:=#[.pointer (some ⟨W6.heap.size+3,0,none⟩),.pointer (some ⟨W6.heap.size+2,0,none⟩)]) rfl trivial (enters_of Tryz.func93 (by kernel_rfl) rfl) hde KpW.trans (fun W l o o' _ h1 h2 h3=>KpW.put (zcR _ _) W l o o' h1 h2 h3) (Below.refl _ _) (fun _=>rfl)
        (fun (pre : List DV) W=>W8.heap.size≤W.heap.size∧Below w.heap.size w W∧Blk W (w.heap.size+1) #[.int .i64 e.ts,.int .i64 e.dep,.int .i64 e.seq,.string (strB e.name),.slice ea en ec] 41∧∃ v1 v2,StI (W6.heap.size+1) W4.heap.size W3.heap.size W v1 v2 (((pre.map (·.d)).filter (·.on)).map (·.run)) (L2++((pre.map (·.d)).filter (·.fd)).map fun d=>⟨e.ts,d.run.bound⟩)) ?own ?hC ?start ?round2 ?done
       case own =>
        rintro s U U' row ⟨h0,h1,h2,v1,v2,h3⟩ hg hr
        refine ⟨Nat.le_trans h0 hg.size,⟨hg.os.trans h1.os,hg.tape.trans h1.tape,hg.output.trans h1.output,Nat.le_trans h1.size hg.size,fun k hk=>(hg.block k (by have:=h1.size;omega) (fun e=>?_)).trans (h1.block k hk)⟩,h2.grown hg (fun r e=>(hr r e).2),v1,v2,h3.grown hg (fun r e=>(hr r e).2)⟩
        have:=(hr k e.symm).1
        omega
       case hC =>
        rintro pre W ⟨h0,h1,h2,v1,v2,h3⟩
        exact h3.c
       case start=>exact ⟨Nat.le_refl _,hbw8,(HBE.out.low hb18),_,_,by simpa using hS8⟩
       case done =>
        rintro D xs W hD hxs ⟨h0,h1,h2,v1,v2,h3⟩ hd
        rw [hxs] at h3
        obtain ⟨LO,hLO⟩ : ∃ LO,((deedsP A p.its e p.pick L1).filter (·.on)).map (·.run)=LO:=⟨_,rfl⟩
        obtain ⟨LF,hLF⟩ : ∃ LF,L2++((deedsP A p.its e p.pick L1).filter (·.fd)).map (fun d=>(⟨e.ts,d.run.bound⟩ : PMt))=LF:=⟨_,rfl⟩
        have hLOs : (∀ t∈LO,BdS t.bound)∧LO.length≤1000000:=by
         rw [← hLO]
         refine ⟨fun t ht=>?_,?_⟩
         ·obtain ⟨x,hx,rfl⟩:=List.mem_map.1 ht
          exact HDS.out x (List.mem_filter.1 hx).1
         ·have:=List.length_filter_le (fun d : PDe=>d.on) (deedsP A p.its e p.pick L1)
          rw [List.length_map]
          omega
        have hLFs : (∀ t∈LF,BdS t.bound)∧LF.length≤1000000:=by
         rw [← hLF]
         refine ⟨fun t ht=>?_,?_⟩
         ·rcases List.mem_append.1 ht with ht|ht
          ·exact HSM.out.2 t ht
          ·obtain ⟨x,hx,rfl⟩:=List.mem_map.1 ht
           exact HDS.out x (List.mem_filter.1 hx).1
         ·have:=List.length_filter_le (fun d : PDe=>d.fd) (deedsP A p.its e p.pick L1)
          have:=HLN.out.2
          rw [List.length_append,List.length_map]
          omega
        have hsp : stepP A p e runs=(LO,LF):=by rw [HST2.out,hLO,hLF]
        rw [hLO,hLF] at h3
        obtain ⟨b1,d1,rfl⟩:=h3.r.sl1
        obtain ⟨b2,d2,rfl⟩:=h3.r.sl2
        have z1:=zab h3.o (k:=0) rfl
        have z2:=zab h3.f (k:=0) rfl
        have hap:=zfy (B:=W3.heap.size) h3.r.ovI (by omega) hLOs.1 hLFs.1 hLOs.2 hLFs.2
        obtain ⟨o1,ho1⟩ : ∃ o1,LO.length=o1:=⟨_,rfl⟩
        obtain ⟨o2,ho2⟩ : ∃ o2,LF.length=o2:=⟨_,rfl⟩
        rw [ho1,ho2] at hap
        rw [ho1] at z1
        rw [ho2] at z2
        have HAPK:=hid hap
        have HD:=hid hd
        have HBW8:=hid h1
        have HSP:=hid hsp
        have hw3 : w.heap.size≤W3.heap.size:=by omega
        have hW3D : W3.heap.size≤D:=by have:=hb38.size;omega
        clear hap hd h1 h2 h3 hsp hLOs hLFs hLO hLF hxs hde hR8 hcom hS8 hR4 hSw hown1 hown2 ho3 ho1 ho2 hbo hbf hxc hxr h0 hD
        gi_wp2
        refine ⟨trivial,(callsIn_wide.2 HAPK.out).mono ?_⟩
        rintro e9 W9 ⟨u1,u2,rfl,ho9,hb9,hk9⟩
        have HD9:=hid (hk9.same D _ (Nat.zero_le _) HD.out rfl)
        have HO9:=hid (ho9.mono (X':=fun g=>g < w.heap.size) (fun g hg=>Nat.lt_of_lt_of_le hg HBW8.out.size))
        have HB9:=hid hb9
        obtain ⟨b3,d3,rfl⟩:=ho9.sl1
        obtain ⟨b4,d4,rfl⟩:=ho9.sl2
        clear ho9 hb9 hk9
        gi_wp2
        refine ⟨by simp,.inl ⟨D,_,rfl,run_takeDeferred HD9.out,?_⟩⟩
        refine ⟨_,results_tmp2 rfl _ _ _,_,_,rfl,?_,?_⟩
        ·rw [HSP.out]
         obtain ⟨q3,q4,f1,f2,f3⟩:=HO9.out.base (B':=w.heap.size) hw3
         exact ⟨q3,q4,f1.grown zbX (grownBy_putObj' W9 D _) (fun r e=>by cases e;exact ⟨_,HD9.out,rfl⟩),f2.grown zkc (grownBy_putObj' W9 D _) (fun r e=>by cases e;exact ⟨_,HD9.out,rfl⟩),f3⟩
        ·have h1:=HBW8.out.trans (HB9.out.mono hw3)
         have hg:=grownBy_putObj' W9 D (.deferred none)
         exact ⟨hg.os.trans h1.os,hg.tape.trans h1.tape,hg.output.trans h1.output,Nat.le_trans h1.size hg.size,fun k hk=>(hg.block k (by have:=h1.size;omega) (fun e=>by have:=Option.some.inj e;omega)).trans (h1.block k hk)⟩
       case round2 =>
        rintro l' pre ⟨⟨⟨xp,xb⟩,xo,xf⟩,xa,xcap⟩ W hl' ⟨h0,h1,h2,v1,v2,h3⟩ ⟨hm1,hm2⟩
        dsimp only at hm2
        obtain ⟨m6,hm6⟩ : ∃ m6,xb.length=m6:=⟨_,rfl⟩
        rw [hm6] at hm2
        have HDL2 : Hid (pre.length < 700006):=by have:=HDL.out;show _ < _;omega
        clear hde hR8 hcom hS8 hR4 hSw hown1 hown2 ho1 ho2 ho3 hbo hbf hxc hxr hm1
        simp [Array.zip,DV.enc,hm6]
        gi_wp2
        have hCW':=h3.c
        have hb6' : Below W.heap.size W (W.alloc (.cells #[.int .i64 xp,.slice xa m6 xcap,.bool xo,.bool xf] 112)):=(Below.refl _ _).alloc (Nat.le_refl _) _
        have hbx:=Blk.new W #[.int .i64 xp,.slice xa m6 xcap,.bool xo,.bool xf] 112
        obtain ⟨Wa,hWa⟩ : ∃ Wa,W.alloc (.cells #[.int .i64 xp,.slice xa m6 xcap,.bool xo,.bool xf] 112)=Wa:=⟨_,rfl⟩
        have hsa : Wa.heap.size=W.heap.size+1:=by rw [← hWa];simp
        rw [hWa] at hb6' hbx ⊢
        clear hWa
        have hk6:=KpW.low (zcR _ _) hCW' hb6'
        have hIa:=h3.grown (zaP hb6') (fun r e=>by cases e)
        have hwW:=h1.size
        refine ⟨KeepsFrom.of_grownBy (zaP hb6') (fun j e=>by cases e),hk6,⟨by omega,h1.trans (hb6'.mono hwW),h2.low hb6',v1,v2,by simpa using hIa⟩,?_⟩
        rintro Wb hgb ob hob hoc i0 i1 i2 u1 u2 i3
        have hkb:=KpW.grown (zcR (W6.heap.size+1) W4.heap.size) hIa.c hgb (fun r e=>by cases e;exact ⟨ob,hob,hoc⟩)
        have hnx : ¬ SwS (W6.heap.size+1) W4.heap.size Wa W.heap.size:=fun hn=>by
         have:=(zcR _ _).lt _ hCW' _ ((zcR _ _).low W Wa hCW' hb6' _ hn)
         omega
        have hbb:=hbx.kp hnx hkb
        have hrow:=(hm2.kp zbK (by decide) hk6).kp zbK (by decide) hkb
        have hsw1:=HS1.out
        have hW3b : W3.heap.size≤Wb.heap.size:=by omega
        have hnev : ¬ SwS (W6.heap.size+1) W4.heap.size Wb (w.heap.size+1):=fun hn=>by
         rcases i3.sw.1 hn with hg|hg|hg
         ·have:=(i3.r.own _ hg).1
          omega
         ·omega
         ·omega
        have hlow : ∀ k,k < w.heap.size→¬ SwS (W6.heap.size+1) W4.heap.size Wb k:=fun k hk hn=>by
         rcases i3.sw.1 hn with hg|hg|hg
         ·have:=(i3.r.own _ hg).1
          omega
         ·omega
         ·omega
        have HFINAL : Hid (∀ (W' : World) (t1 t2 : Value),StI (W6.heap.size+1) W4.heap.size W3.heap.size W' t1 t2 (((pre.map (·.d)).filter (·.on)).map (·.run)++(if xo=true then [(⟨xp,xb⟩ : PRun)] else [])) ((L2++((pre.map (·.d)).filter (·.fd)).map fun d=>(⟨e.ts,d.run.bound⟩ : PMt))++(if xf=true then [(⟨e.ts,xb⟩ : PMt)] else []))→KpW (SwS (W6.heap.size+1) W4.heap.size) Wb W'→KeepsFrom 0 Wb W' →
         KeepsFrom (W6.heap.size+4) Wb W'∧KpW (SwS (W6.heap.size+1) W4.heap.size) Wb W'∧(W6.heap.size+4≤W'.heap.size∧Below w.heap.size w W'∧Blk W' (w.heap.size+1) #[.int .i64 e.ts,.int .i64 e.dep,.int .i64 e.seq,.string (strB e.name),.slice ea en ec] 41∧∃ v1 v2,StI (W6.heap.size+1) W4.heap.size W3.heap.size W' v1 v2 ((((pre++[(⟨⟨⟨xp,xb⟩,xo,xf⟩,xa,xcap⟩ : DV)]).map (·.d)).filter (·.on)).map (·.run)) (L2++(((pre++[(⟨⟨⟨xp,xb⟩,xo,xf⟩,xa,xcap⟩ : DV)]).map (·.d)).filter (·.fd)).map fun d=>⟨e.ts,d.run.bound⟩))):=by
         intro W' t1 t2 hI hK hF
         refine ⟨⟨hF.size,fun k o _ hk hc=>hF.same k o (Nat.zero_le _) hk hc⟩,hK,Nat.le_trans i0 hF.size,⟨hK.os.trans i1.os,hK.tape.trans i1.tape,hK.output.trans i1.output,Nat.le_trans i1.size hK.size,fun k hk=>?_⟩,(i2.kp hnev hK).1,t1,t2,?_⟩
         ·rw [← i1.block k hk]
          have hkl : k < Wb.heap.size:=Nat.lt_of_lt_of_le hk i1.size
          obtain ⟨o,ho⟩ : ∃ o,Wb.heap[k]?=some o:=⟨_,Array.getElem?_eq_getElem hkl⟩
          rw [ho]
          cases hoc2 : o.isCells with
          | false=>exact hF.same k o (Nat.zero_le _) ho hoc2
          | true =>
            cases o with
            | cells c t fr=>exact hK.blk k c t fr ho (hlow k hk)
            | _=>cases hoc2
         ·have e1 : (((pre++[(⟨⟨⟨xp,xb⟩,xo,xf⟩,xa,xcap⟩ : DV)]).map (·.d)).filter (·.on)).map (·.run)=((pre.map (·.d)).filter (·.on)).map (·.run)++(if xo=true then [(⟨xp,xb⟩ : PRun)] else []):=by
           cases xo <;> simp
          have e2 : L2++(((pre++[(⟨⟨⟨xp,xb⟩,xo,xf⟩,xa,xcap⟩ : DV)]).map (·.d)).filter (·.fd)).map (fun d=>(⟨e.ts,d.run.bound⟩ : PMt))=(L2++((pre.map (·.d)).filter (·.fd)).map fun d=>(⟨e.ts,d.run.bound⟩ : PMt))++(if xf=true then [(⟨e.ts,xb⟩ : PMt)] else []):=by
           cases xf <;> simp
          rw [e1,e2]
          exact hI
        have hLOl : (((pre.map (·.d)).filter (·.on)).map (·.run)).length≤700006:=by
         have h1:=List.length_filter_le (fun d : PDe=>d.on) (pre.map (·.d))
         have h2:=HDL2.out
         rw [List.length_map] at h1 ⊢
         omega
        have hLFl : (L2++((pre.map (·.d)).filter (·.fd)).map fun d=>(⟨e.ts,d.run.bound⟩ : PMt)).length≤800006:=by
         have h1:=List.length_filter_le (fun d : PDe=>d.fd) (pre.map (·.d))
         have h2:=HDL2.out
         have h3:=HLN.out.2
         rw [List.length_map] at h1
         rw [List.length_append,List.length_map]
         omega
        obtain ⟨LO,hLO⟩ : ∃ LO,((pre.map (·.d)).filter (·.on)).map (·.run)=LO:=⟨_,rfl⟩
        obtain ⟨LF,hLF⟩ : ∃ LF,(L2++((pre.map (·.d)).filter (·.fd)).map fun d=>(⟨e.ts,d.run.bound⟩ : PMt))=LF:=⟨_,rfl⟩
        rw [hLO,hLF] at HFINAL
        rw [hLO] at hLOl
        rw [hLF] at hLFl
        have i4 : StI (W6.heap.size+1) W4.heap.size W3.heap.size Wb u1 u2 LO LF:=by rw [← hLO,← hLF];exact i3
        clear i3 hLO hLF
        obtain ⟨b1,d1,rfl⟩:=i4.r.sl1
        obtain ⟨b2,d2,rfl⟩:=i4.r.sl2
        have z0:=zab hbb.1 (k:=0) rfl
        have z1:=zab hbb.1 (k:=1) rfl
        have z2:=zab hbb.1 (k:=2) rfl
        have z3:=zab hbb.1 (k:=3) rfl
        have y0:=zab i2 (k:=0) rfl
        have w1:=zab i4.o (k:=0) rfl
        have w2:=zab i4.f (k:=0) rfl
        have HI4:=hid i4
        have HBB:=hid hbb
        have HROW:=hid hrow
        have HM6:=hid hm6
        clear hkb hnx hbb hrow hnev hlow i0 i1 i2 i4 h1 h2 h3 hm2 hIa hk6 hb6' hbx hgb hob hoc hm6
        cases xf with
        | false =>
          cases xo with
          | false =>
            gi_wp2
            have hf:=HFINAL.out Wb _ _ (by simpa using HI4.out) (KpW.low (zcR _ _) HI4.out.c (Below.refl _ _)) (KeepsFrom.refl _ _)
            exact hf
          | true =>
            obtain ⟨a9,c9,w9,hr9,d9,f9,hI9,hK9,hF9⟩:=HI4.out.on hW3b (by omega) (x:=⟨xp,xb⟩) (cs:=[.int .i64 xp,.slice xa m6 xcap]) (Below.refl _ _) ⟨xa,xcap,by rw [HM6.out],by show RowK evsD _ Wb (.slice xa xb.length xcap) xb;rw [HM6.out];exact HROW.out⟩
            have HI9:=hid hI9
            have HK9:=hid hK9
            have HF9:=hid hF9
            clear hI9 hK9 hF9
            gi_wp2
            exact HFINAL.out _ _ _ (by simpa using HI9.out) HK9.out HF9.out
        | true =>
          obtain ⟨a9,c9,w9,hr9,d9,f9,hI9,hK9,hF9⟩:=HI4.out.fnd hW3b (by omega) (x:=⟨e.ts,xb⟩) (cs:=[.int .i64 e.ts,.slice xa m6 xcap]) (Below.refl _ _) ⟨xa,xcap,by rw [HM6.out],by show RowK evsD _ Wb (.slice xa xb.length xcap) xb;rw [HM6.out];exact HROW.out⟩
          have hbb2:=(HBB.out.1.kp HBB.out.2 hK9)
          have v0:=zab hbb2.1 (k:=0) rfl
          have v1:=zab hbb2.1 (k:=1) rfl
          have v2:=zab hbb2.1 (k:=2) rfl
          have HI9:=hid hI9
          have HK9:=hid hK9
          have HF9:=hid hF9
          have HRW9:=hid (HROW.out.kp zbK (by decide) hK9)
          clear hI9 hK9 hF9 hbb2
          cases xo with
          | false =>
            gi_wp2
            exact HFINAL.out _ _ _ (by simpa using HI9.out) HK9.out HF9.out
          | true =>
            have hW3c : W3.heap.size≤(w9.setCell ⟨W4.heap.size,0,none⟩ (.slice a9 (LF.length+1) c9)).heap.size:=Nat.le_trans hW3b HF9.out.size
            have w3:=zab HI9.out.o (k:=0) rfl
            obtain ⟨aA,cA,wA,hrA,dA,fA,hIA,hKA,hFA⟩:=HI9.out.on hW3c (by omega) (x:=⟨xp,xb⟩) (cs:=[.int .i64 xp,.slice xa m6 xcap]) (Below.refl _ _) ⟨xa,xcap,by rw [HM6.out],by show RowK evsD _ _ (.slice xa xb.length xcap) xb;rw [HM6.out];exact HRW9.out⟩
            rw [World.size_setCell] at hrA
            have HIA:=hid hIA
            have HKA:=hid (HK9.out.trans hKA)
            have HFA:=hid (HF9.out.trans hFA)
            clear hIA hKA hFA hW3c
            gi_wp2
            exact HFINAL.out _ _ _ (by simpa using HIA.out) HKA.out HFA.out
end
end Go.Proofs.YtkmlfkbpcgkpaaaGreatDoor
namespace Go.Proofs.YtkmlfkbpcgkpaaaGreatDoor
open Go.RowKit Go.Lib Go.Op
set_option maxHeartbeats 8000000
set_option maxRecDepth 100000
theorem zaW {w : World} (s : ByteArray) (t : Int) : Calls Tryz.prog 45 #[.string s,.int .i64 t] w fun e w'=>e=.returned (.agg #[.int .i64 t,.int .i64 0,.int .i64 t,.string s,.slice none 0 0])∧Below w.heap.size w w':=by
 go_enter Tryz.func45,Tryz.ntmps45
 go_wp2
 refine bodyPost_ret (v:=.agg #[.int .i64 t,.int .i64 0,.int .i64 t,.string s,.slice none 0 0]) (by simp [results,Tryz.results45,go_sem]) rfl ?_
 exact ⟨rfl,by repeat' (first|exact Below.refl _ _|refine Below.alloc ?_ (by simp <;> omega) _|refine Below.setCell ?_ (by simp <;> omega) _)⟩
section
variable {K : Nat→Prop} {w : World} {sa qa qb a : Option Addr} {sn sc q qc d n c : Nat} {p : PQu} {runs l1 : List PRun} {l2 : List PMt}
theorem hstep (hq : QuAt K w qa q qc qb 0 d p) (hb : QuB p) (h : RowK runD (fun _=>False) w (.slice a n c) runs) (hs : RunsS runs∧∀ t∈runs,∀ l∈t.bound,l.length < 100000) (nm : UInt8) (s : ByteArray) (hnm : strB [nm]=s) (t : Int) (hst : stepP hqA p (hqE nm t) runs=(l1,l2)) :
 Calls Tryz.prog 30 #[.slice sa sn sc,.agg #[.slice qa q qc,.slice qb 0 d,.int .i64 p.within,.string (strB p.by_),.int .i64 p.pick],.slice a n c,.agg #[.int .i64 t,.int .i64 0,.int .i64 t,.string s,.slice none 0 0]] w (TiTo l1 l2 w):=by
 have hn:=h.len
 subst hn
 have e:=zdt (sa:=sa) (sn:=sn) (sc:=sc) (e:=hqE nm t) (ea:=Option.none) (ec:=0) (en:=0) (A:=hqA) hq hb h hs.1 hs.2 (RowK.nil _ _ _) (show 1≤maxLen by unfold maxLen;omega) (Nat.zero_le _) (fun _=>zch)
 rw [hst] at e
 rw [← hnm]
 exact e
theorem zgG {r : Nat} (hq : QuAt K w qa q qc qb r d p) (hb : QuB p) (h : RowK runD (fun _=>False) w (.slice a n c) runs) (hs : RunsS runs) (t : Int) (ht : -9223372036854775808≤t∧t≤9223372036854775807) (hst : timeP p runs t=(l1,l2)) :
 Calls Tryz.prog 27 #[.agg #[.slice qa q qc,.slice qb r d,.int .i64 p.within,.string (strB p.by_),.int .i64 p.pick],.slice a n c,.int .i64 t] w (TiTo l1 l2 w):=by
 have hn:=h.len
 subst hn
 have e:=zcw hq hb h hs ht
 rw [hst] at e
 exact e
end
end Go.Proofs.YtkmlfkbpcgkpaaaGreatDoor
