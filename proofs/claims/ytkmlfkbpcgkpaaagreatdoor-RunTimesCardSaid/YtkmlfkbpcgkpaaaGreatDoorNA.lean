/- Compared: runs that are alike. -/
import Derived.Test.YtkmlfkbpcgkpaaaGreatDoorM7
import Derived.Test.YtkmlfkbpcgkpaaaGreatDoorMM
namespace Go.Proofs.YtkmlfkbpcgkpaaaGreatDoor
open Go.RowKit Go.Lib Go.Op
set_option maxHeartbeats 8000000
set_option maxRecDepth 100000
def SmB (b : List (List PEv)) : Prop:=b.length < 300∧∀ l∈b,SmE l
def SmRs (runs : List PRun) : Prop:=runs.length < 300∧∀ r∈runs,SmB r.bound
theorem SmRs.runsS {runs : List PRun} (h : SmRs runs) : RunsS runs∧∀ t∈runs,∀ l∈t.bound,l.length < 100000:=by
 refine ⟨⟨by have:=h.1;omega,fun r hr=>⟨by have:=(h.2 r hr).1;omega,fun l hl=>⟨by have:=((h.2 r hr).2 l hl).1;omega,fun e he=>by have:=((h.2 r hr).2 l hl).2 e he;omega⟩⟩⟩,fun r hr l hl=>by have:=((h.2 r hr).2 l hl).1;omega⟩
section
variable {K : Nat→Prop} {w : World} {a : Option Addr} {n c : Nat}
theorem zcv {runs : List PRun} (h : RowK runD K w (.slice a n c) runs) (hl : runs.length≤140737488355328) (hb : ∀ r∈runs,BdLn r.bound) : Calls Tryz.prog 25 #[.slice a n c] w fun e w'=>∃ g : Bool,e=.returned (.bool g)∧(g=false→SmRs runs)∧Below w.heap.size w w':=by
 have HL:=hid h
 have Hn:=hid h.len
 have HV:=hid hb
 have hn : n≤140737488355328:=by rw [h.len];exact hl
 clear h hl hb
 go_enter Tryz.func25,Tryz.ntmps25
 go_wp2
 go_loopw [3,4,5] (fun x i _j wr=>∃ k m : Nat,i=.int .i64 k∧k≤n∧x=.int .i64 m∧n≤m∧m≤281474976710656∧Hid (m < 300→∀ r∈runs.take k,SmB r.bound)∧Hid (Below w.heap.size w wr)) (fun _ i _ _=>n - (RowKit.intOf i).toNat)
 case atStart=>exact ⟨0,n,rfl,Nat.zero_le _,rfl,Nat.le_refl _,by omega,fun _ r hr=>(by simp at hr),Below.refl _ _⟩
 case round =>
  obtain ⟨k,m,rfl,hk,rfl,hnm,hm,HT,HB⟩:=hrel
  obtain ⟨wo,rfl⟩ : ∃ wo,wo=wr:=⟨_,rfl⟩
  by_cases hlt : k < n
  ·by_cases hm3 : m < 300
   ·obtain ⟨x,hx⟩ : ∃ x,runs[k]?=some x:=⟨_,List.getElem?_eq_getElem (by rw [← Hn.out];exact hlt)⟩
    obtain ⟨g0,o,ba,bc,rfl,c0,c1,hbd⟩:=(HL.out.low HB.out).runAt hx
    have hbl:=HV.out x (List.mem_of_getElem? hx)
    obtain ⟨bn,hbn⟩ : ∃ bn,x.bound.length=bn:=⟨_,rfl⟩
    have HBN:=hid hbn
    have hbn2 : bn≤140737488355328:=by rw [← hbn];exact hbl.1
    rw [hbn] at c1 hbd
    have HBD:=hid hbd
    have HBL:=hid hbl.2
    have HX:=hid hx
    have hk0 : (0 : Int)≤(k : Int):=by omega
    have hk1 : (k : Int) < (n : Int):=by omega
    have C1:=hid c1
    clear hx hbd hbl hbn c0
    have hd : decide ((m : Int) < 300)=true:=by simp;omega
    go_wp2_with fail
    clear c1 hd
    have HB5 : Hid (Below wo.heap.size wo wo):=Below.refl _ _
    go_loopw [3,5] (fun s j wr=>∃ k2 m2 : Nat,j=.int .i64 k2∧k2≤bn∧s=.int .i64 m2∧n≤m2∧bn≤m2∧m2≤140737488355728∧Hid (m2 < 300→∀ l∈x.bound.take k2,SmE l)∧Hid (Below wo.heap.size wo wr)) (fun _ j _=>bn - (RowKit.intOf j).toNat)
    case atStart=>exact ⟨0,m+bn,rfl,Nat.zero_le _,by go_num,by omega,by omega,by omega,fun _ r hr=>(by simp at hr),HB5⟩
    case round =>
     obtain ⟨k2,m2,rfl,hk2,rfl,hnm2,hbm2,hm2,HT2,HB2⟩:=hrel
     clear HB5
     have c1:=zaa HB2.out C1.out
     by_cases hlt2 : k2 < bn
     ·by_cases hm23 : m2 < 300
      ·obtain ⟨l,hl⟩ : ∃ l,x.bound[k2]?=some l:=⟨_,List.getElem?_eq_getElem (by rw [HBN.out];exact hlt2)⟩
       obtain ⟨g1,o1,ea,ec,rfl,e0,hrow⟩:=(HBD.out.low HB2.out).evsAt hl
       have hll:=HBL.out l (List.mem_of_getElem? hl)
       have HTN : Hid (SmE l→m2 < 300→∀ l∈x.bound.take (k2+1),SmE l):=fun hs hm l' hl'=>by
        rw [List.take_add_one,hl] at hl'
        rcases List.mem_append.1 hl' with h|h
        ·exact HT2.out hm l' h
        ·obtain rfl : l'=l:=by simpa using h
         exact hs
       obtain ⟨ln,hln⟩ : ∃ ln,l.length=ln:=⟨_,rfl⟩
       have hln2 : ln≤140737488355328:=by rw [← hln];exact hll.1
       rw [hln] at e0 hrow
       have HGR : Hid (∀ W,Below wr.heap.size wr W→Calls Tryz.prog 18 #[.slice ea ln ec] W fun e w'=>∃ g : Bool,e=.returned (.bool g)∧(g=false→SmE l)∧Below W.heap.size W w'):=fun W hW=>zd5 (hrow.low hW) hll.lnE
       have hj0 : (0 : Int)≤(k2 : Int):=by omega
       have hj1 : (k2 : Int) < (bn : Int):=by omega
       have hd : decide ((m2 : Int) < 300)=true:=by simp;omega
       clear hl hrow hll hln
       go_wp2_with (go_at_call 18;(with_reducible refine (HGR.out _ (Below.refl _ _)).mono ?_);rintro e w2 ⟨g,rfl,hg,hb2⟩;have HG:=hid hg;have HBB : Hid (Below wo.heap.size wo w2):=HB2.out.trans (hb2.mono HB2.out.size);clear hb2 hg;cases g)
       ·go_roundw
        case rel=>exact ⟨k2+1,m2+ln,by go_num,by omega,by go_num,by omega,by omega,by omega,fun _=>HTN.out (by first|exact HG.out rfl|exact HG.out trivial|exact HG.out) hm23,HBB⟩
        case measure=>simp [RowKit.intOf];omega
       ·go_ret
        exact ⟨true,rfl,fun h=>(by cases h),HB.out.trans (HBB.out.mono HB.out.size)⟩
      ·have hd : decide ((m2 : Int) < 300)=false:=by simp;omega
       go_wp2
       go_roundw
       case rel=>exact ⟨k+1,m2,by go_num,by omega,rfl,hnm2,by omega,fun h=>absurd h hm23,HB.out.trans (HB2.out.mono HB.out.size)⟩
       case measure=>simp [RowKit.intOf];omega
     ·have HTN : Hid (m2 < 300→∀ r∈runs.take (k+1),SmB r.bound):=fun hm r hr=>by
       rw [List.take_add_one,HX.out] at hr
       rcases List.mem_append.1 hr with h|h
       ·exact HT.out (by omega) r h
       ·obtain rfl : r=x:=by simpa using h
        have h2:=HT2.out hm
        rw [List.take_of_length_le (by rw [HBN.out];omega)] at h2
        exact ⟨by rw [HBN.out];omega,h2⟩
      by_cases hm23 : m2 < 300
      ·have hd : decide ((m2 : Int) < 300)=true:=by simp;omega
       go_wp2
       go_roundw
       case rel=>exact ⟨k+1,m2,by go_num,by omega,rfl,hnm2,by omega,HTN,HB.out.trans (HB2.out.mono HB.out.size)⟩
       case measure=>simp [RowKit.intOf];omega
      ·have hd : decide ((m2 : Int) < 300)=false:=by simp;omega
       go_wp2
       go_roundw
       case rel=>exact ⟨k+1,m2,by go_num,by omega,rfl,hnm2,by omega,HTN,HB.out.trans (HB2.out.mono HB.out.size)⟩
       case measure=>simp [RowKit.intOf];omega
   ·have hd : decide ((m : Int) < 300)=false:=by simp;omega
    have hd2 : decide ((300 : Int)≤(m : Int))=true:=by simp;omega
    go_wp2
    go_ret
    exact ⟨true,by simp <;> omega,fun h=>(by cases h),HB.out⟩
  ·have hkn : k=n:=by omega
   subst hkn
   by_cases hm3 : m < 300
   ·have hd2 : decide ((300 : Int)≤(m : Int))=false:=by simp;omega
    have HF : Hid (SmRs runs):=⟨by rw [← Hn.out];omega,by
     have h:=HT.out hm3
     rwa [List.take_of_length_le (by rw [← Hn.out];exact Nat.le_refl _)] at h⟩
    go_wp2
    go_ret
    exact ⟨false,by simp <;> omega,fun _=>HF.out,HB.out⟩
   ·have hd2 : decide ((300 : Int)≤(m : Int))=true:=by simp;omega
    go_wp2
    go_ret
    exact ⟨true,by simp <;> omega,fun h=>(by cases h),HB.out⟩
end
section
variable {K K2 : Nat→Prop} {w : World} {a b : Option Addr} {n m c d : Nat}
theorem zdf {l : List PRun} (hl : RowK runD K w (.slice a n c) l) (hs : RowK runD K2 w (.slice b m d) l) (hl2 : l.length≤140737488355328) (hc : ∀ r∈l,CmB r.bound) :
 Calls Tryz.prog 28 #[.slice a n c,.slice b m d] w fun e w'=>e=.returned (.bool true)∧Below w.heap.size w w':=by
 obtain rfl : m=n:=hs.len.trans hl.len.symm
 have HL:=hid hl
 have HS:=hid hs
 have HLV:=hid hc
 have Hn:=hid hl.len
 have hn : m≤140737488355328:=by rw [hl.len];exact hl2
 have ht : ((m : Int) != (m : Int))=false:=by simp
 clear hl hs hl2 hc
 go_enter Tryz.func28,Tryz.ntmps28
 go_wp2
 go_loopw [5] (fun i wr=>∃ k : Nat,i=.int .i64 k∧k≤m∧Hid (Below w.heap.size w wr)) (fun i _=>m - (RowKit.intOf i).toNat)
 case atStart=>exact ⟨0,rfl,Nat.zero_le _,Below.refl _ _⟩
 case round =>
  obtain ⟨k,rfl,hk,HB⟩:=hrel
  by_cases hlt : k < m
  ·obtain ⟨x,hx⟩ : ∃ x,l[k]?=some x:=⟨_,List.getElem?_eq_getElem (by rw [← Hn.out];exact hlt)⟩
   obtain ⟨g1,o1,va,vc,rfl,c0,c1,hv⟩:=(HL.out.low HB.out).runAt hx
   obtain ⟨g2,o2,ua,uc,rfl,d0,d1,hu⟩:=(HS.out.low HB.out).runAt hx
   have hvl:=HLV.out x (List.mem_of_getElem? hx)
   have HC : Hid (∀ W,Below wr.heap.size wr W→Calls Tryz.prog 32 #[.slice va x.bound.length vc,.slice ua x.bound.length uc] W fun e w'=>e=.returned (.bool true)∧Below W.heap.size W w'):=fun W hW =>
    (zbv (hv.low hW) (hu.low hW) hvl hvl).mono (fun e w' ⟨z,h1,h2,h3⟩=>⟨by rw [h1,h2 rfl],h3⟩)
   obtain ⟨ln,hln⟩ : ∃ z,x.bound.length=z:=⟨_,rfl⟩
   obtain ⟨pl,hpl⟩ : ∃ z,x.place=z:=⟨_,rfl⟩
   rw [hln] at c1 d1 HC
   rw [hpl] at c0 d0
   have hk0 : (0 : Int)≤(k : Int):=by omega
   have hk1 : (k : Int) < (m : Int):=by omega
   have hpp : (pl != pl)=false:=by simp
   clear hx hv hu hvl hln hpl
   go_upto_region 6 with fail
   replace c0 : wr.drew.cell? ⟨g1,o1+k*2,none⟩=some (.int .i64 pl):=c0
   replace c1 : wr.drew.cell? ⟨g1,o1+k*2+1,none⟩=some (.slice va ln vc):=c1
   replace d0 : wr.drew.cell? ⟨g2,o2+k*2,none⟩=some (.int .i64 pl):=d0
   replace d1 : wr.drew.cell? ⟨g2,o2+k*2+1,none⟩=some (.slice ua ln uc):=d1
   have dd : Hid (Below wr.heap.size wr wr.drew):=zae (Below.refl _ _)
   refine wp_region_held_drew (S:=fun W=>(W.cell? ⟨g1,o1+k*2,none⟩=some (.int .i64 pl))∧(W.cell? ⟨g1,o1+k*2+1,none⟩=some (.slice va ln vc))∧(W.cell? ⟨g2,o2+k*2,none⟩=some (.int .i64 pl))∧(W.cell? ⟨g2,o2+k*2+1,none⟩=some (.slice ua ln uc))∧(Hid (Below wr.heap.size wr W))) (by kernel_rfl) ⟨c0,c1,d0,d1,dd⟩ (fun hHeld=>?_)
   refine rK 0 17 (h:=?_)
   try simp only [Act.put,rI,rZ,rS]
   refine rK 1 18 (h:=?_)
   try simp only [Act.put,rI,rZ,rS]
   refine rK 2 19 (h:=?_)
   try simp only [Act.put,rI,rZ,rS]
   refine rK 3 20 (h:=?_)
   try simp only [Act.put,rI,rZ,rS]
   refine rK 4 21 (h:=?_)
   try simp only [Act.put,rI,rZ,rS]
   refine rK 5 22 (h:=?_)
   try simp only [Act.put,rI,rZ,rS]
   refine rK 6 23 (h:=?_)
   try simp only [Act.put,rI,rZ,rS]
   refine rK 7 24 (h:=?_)
   try simp only [Act.put,rI,rZ,rS]
   refine rK 8 25 (h:=?_)
   try simp only [Act.put,rI,rZ,rS]
   refine rK 9 26 (h:=?_)
   try simp only [Act.put,rI,rZ,rS]
   refine rK 10 27 (h:=?_)
   try simp only [Act.put,rI,rZ,rS]
   refine rK 11 28 (h:=?_)
   try simp only [Act.put,rI,rZ,rS]
   refine rK 12 29 (h:=?_)
   try simp only [Act.put,rI,rZ,rS]
   refine rK 13 30 (h:=?_)
   try simp only [Act.put,rI,rZ,rS]
   refine rK 14 31 (h:=?_)
   try simp only [Act.put,rI,rZ,rS]
   refine rK 15 32 (h:=?_)
   try simp only [Act.put,rI,rZ,rS]
   refine rK 16 33 (h:=?_)
   try simp only [Act.put,rI,rZ,rS]
   refine rK 17 34 (h:=?_)
   try simp only [Act.put,rI,rZ,rS]
   refine rK 18 35 (h:=?_)
   try simp only [Act.put,rI,rZ,rS]
   refine rK 19 36 (h:=?_)
   try simp only [Act.put,rI,rZ,rS]
   refine rK 20 37 (h:=?_)
   try simp only [Act.put,rI,rZ,rS]
   refine rK 21 38 (h:=?_)
   try simp only [Act.put,rI,rZ,rS]
   refine rA 22 (h:=fun K hK=>?_)
   dsimp only [List.getElem_toArray,List.getElem_cons_succ,List.getElem_cons_zero]
   go_simp
   go_at_call 32
   with_reducible refine (HC.out _ dd.out).mono ?_
   rintro e w2 ⟨rfl,hb⟩
   replace c0:=zaa hb c0
   replace c1:=zaa hb c1
   replace d0:=zaa hb d0
   replace d1:=zaa hb d1
   replace dd : Hid (Below wr.heap.size wr w2):=dd.out.trans (hb.mono dd.out.size)
   clear hb
   go_wp2_with fail
   refine hK.out _ _ ⟨c0,c1,d0,d1,dd⟩ (fun hHeld=>?_)
   clear hK K
   try simp only [Act.put,rI,rZ,rS]
   refine rK 23 40 (h:=?_)
   try simp only [Act.put,rI,rZ,rS]
   refine rK 24 41 (h:=?_)
   try simp only [Act.put,rI,rZ,rS]
   refine wpAnyH_done (by kernel_rfl) ?_ _
   go_wp2
   go_roundw
   case rel=>exact ⟨k+1,by go_num,by omega,HB.out.trans (dd.out.mono HB.out.size)⟩
   case measure=>simp [RowKit.intOf];omega
  ·go_wp2
   go_ret
   exact ⟨rfl,HB.out⟩
end
end Go.Proofs.YtkmlfkbpcgkpaaaGreatDoor
