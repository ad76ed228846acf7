/- Texts that others want. -/
import Derived.Test.YtkmlfkbpcgkpaaaGreatDoorM9
import Derived.ControlIn
import Derived.Deep.OwnRows
namespace Go.Proofs.YtkmlfkbpcgkpaaaGreatDoor
open Go.RowKit Go.Lib Go.Op Go.Shelf
set_option maxHeartbeats 8000000
set_option maxRecDepth 100000
attribute [local go_sem] Oper.semAt_some
structure DeS (Sw : World→Nat→Prop) (W : World) (xc xr xy : Nat) (cs : Array Value) (Y : Value) (ra : Option Addr) (rn rc : Nat) (runs : List PRun) (qa : Option Addr) (q qc : Nat) (va : Option Addr) (m vc : Nat) (ea : Option Addr) (en ec : Nat) (p : PQu) (e : PEv) : Prop where
 x : Blk W xc cs 107
 xn : ¬ Sw W xc
 y : Blk W xy #[Y] 159
 yn : ¬ Sw W xy
 com : ComAt (Sw W) W qa q qc va m vc ea en ec p e
 t : RowK runD (Sw W) W (.slice ra rn rc) runs
section
variable {Sw : World→Nat→Prop} {C : World→Prop} {W W' : World} {xc xr xy : Nat} {cs : Array Value} {Y : Value} {runs : List PRun} {ra qa va ea : Option Addr} {rn rc q qc m vc en ec : Nat} {p : PQu} {e : PEv}
theorem DeS.kp (h : DeS Sw W xc xr xy cs Y ra rn rc runs qa q qc va m vc ea en ec p e) (hp : KpW Sw W W') : DeS Sw W' xc xr xy cs Y ra rn rc runs qa q qc va m vc ea en ec p e :=
 ⟨(h.x.kp h.xn hp).1,(h.x.kp h.xn hp).2,(h.y.kp h.yn hp).1,(h.y.kp h.yn hp).2,h.com.kp hp,h.t.kp zbX (by decide) hp⟩
theorem KpW.low (hS : SwOk Sw C) (hC : C W) (hb : Below W.heap.size W W') : KpW Sw W W':=KpW.grown hS hC (zaP hb) (fun r e=>by cases e)
end
def Marks (B : Nat) (W : World) : List Deferred→Prop
 | []=>True
 | d :: ds=>(∃ D,d={ target:=.collected D,args:=#[] }∧B≤D∧W.heap[D]?=some (.deferred (some []))∧∀ d'∈ds,∀ D',d'.target=.collected D'→D' < D)∧Marks B W ds
theorem Marks.keeps {B : Nat} {W W' : World} (hk : KeepsFrom B W W') : ∀ {ds : List Deferred},Marks B W ds→Marks B W' ds
 | [],_=>trivial
 | _ :: _,⟨⟨D,h1,h2,h3,h4⟩,h⟩=>⟨⟨D,h1,h2,hk.same D _ h2 h3 rfl,h4⟩,h.keeps hk⟩
theorem Marks.lt {B : Nat} {W : World} : ∀ {ds : List Deferred},Marks B W ds→∀ d∈ds,∃ D,d.target=.collected D∧B≤D∧D < W.heap.size
 | [],_,d,hd=>absurd hd List.not_mem_nil
 | _ :: _,⟨⟨D,h1,h2,h3,h4⟩,h⟩,d,hd=>by
   rcases List.mem_cons.1 hd with e|e
   ·subst e
    exact ⟨D,by rw [h1],h2,(Array.getElem?_eq_some_iff.1 h3).1⟩
   ·exact h.lt d e
theorem Marks.put {B b : Nat} {W : World} {o : Obj} : ∀ {ds : List Deferred},Marks B W ds→(∀ d'∈ds,∀ D',d'.target=.collected D'→D' < b)→Marks B (W.putObj b o) ds
 | [],_,_=>trivial
 | _ :: _,⟨⟨D,h1,h2,h3,h4⟩,h⟩,hl=>⟨⟨D,h1,h2,(World.putObj_heap_other (by have:=hl _ (List.mem_cons_self ..) D (by rw [h1]);omega)).trans h3,h4⟩,h.put (fun d hd=>hl d (List.mem_cons_of_mem _ hd))⟩
theorem Marks.grown {B : Nat} {W W' : World} {row : Option Nat} (hg : W.grownBy W' row) : ∀ {ds : List Deferred},Marks B W ds→(∀ d'∈ds,∀ D',d'.target=.collected D'→row≠some D')→Marks B W' ds
 | [],_,_=>trivial
 | _ :: _,⟨⟨D,h1,h2,h3,h4⟩,h⟩,hl=>⟨⟨D,h1,h2,(hg.block D (Array.getElem?_eq_some_iff.1 h3).1 (fun e=>hl _ (List.mem_cons_self ..) D (by rw [h1]) e.symm)).trans h3,h4⟩,h.grown hg (fun d hd=>hl d (List.mem_cons_of_mem _ hd))⟩
theorem Marks.leaves {B n : Nat} {fn : Func} {tmps : Array Value} {R : Ending→World→Prop} {Z : World→Prop} (hZ : ∀ W b,Z W→B≤b→W.heap[b]?=some (.deferred (some []))→Z (W.putObj b (.deferred none))) (hR : ∀ W,Z W→LeavesIn Fence.wide n Tryz.prog fn tmps R [] .returning W) :
 ∀ (ds : List Deferred) (W : World),Marks B W ds→Z W→LeavesInM Fence.wide n Tryz.prog fn tmps R ds .returning W
 | [],W,_,hz=>hR W hz
 | _ :: ds,W,⟨⟨D,h1,h2,h3,h4⟩,h⟩,hz=>⟨(by intro e;cases e),.inl ⟨D,_,by rw [h1],run_takeDeferred h3,Marks.leaves hZ hR ds _ (h.put h4) (hZ W D hz h2 h3)⟩⟩
theorem zkr : (Tryz.prog.info? 27).map (fun i=>(i.zero,i.size,i.bytes))=some (some (.slice none 0 0),1,24):=by kernel_rfl
theorem zhF {q : Nat} (hq : q≤6) (W : World) : (Instr.makeSlice 35 (.int .i64 (q : Int)) (.int .i64 (q : Int))).run Tryz.prog W=.ok (.slice (some ⟨W.heap.size,0,none⟩) q q) (W.alloc (.cells (madeCells #[.slice none 0 0] q) 27)) :=
 run_make_row' (P:=Tryz.prog) 35 27 (.slice none 0 0) 24 (by kernel_rfl) zkr rfl .i64 .i64 q (by omega) (by omega) W
theorem zhG {K : Nat→Prop} {W : World} {b q : Nat} (h : Blk W b (madeCells #[.slice none 0 0] q) 27) (hn : ¬ K b) : RowK evsD K W (.slice (some ⟨b,0,none⟩) q q) (List.replicate q []):=by
 refine ⟨_,q,by rw [List.length_replicate],by simp,fun j x hj=>?_⟩
 have hlt : j < q:=by have:=(List.getElem?_eq_some_iff.1 hj).1;simpa using this
 have hx : x=[]:=by
  rw [List.getElem?_replicate_of_lt hlt] at hj
  injection hj with hj
  exact hj.symm
 subst hx
 refine ⟨b,0,[.slice none 0 0],rfl,hn,⟨none,0,rfl,RowK.nil _ _ _⟩,fun r u hu=>?_⟩
 have hr : r=0:=by have:=(List.getElem?_eq_some_iff.1 hu).1;simp at this;omega
 subst hr
 have hu' : u=.slice none 0 0:=by simpa using hu.symm
 subst hu'
 have hc:=zab h (k:=j) (v:=.slice none 0 0) (by simp [madeCells,hlt,Nat.mod_one])
 show W.cell? ⟨b,0+j*1+0,none⟩=_
 rw [show 0+j*1+0=j by omega]
 exact hc
section
variable {sa qa qb va ea : Option Addr} {sn sc qc r d vc ec q m en : Nat} {p : PQu} {e : PEv} {A : List (List PEv)→Nat→Bool} {Sw : World→Nat→Prop} {C : World→Prop}
theorem zhH (hS : SwOk Sw C) (nf : Nat) (hnf : 2≤nf) {w0 : World} {xc xr : Nat} (hC0 : C w0) (hX : Blk w0 xc #[.slice sa sn sc,.slice qa q qc,.slice qb r d,.int .i64 p.within,.string (strB p.by_),.int .i64 p.pick,.slice va m vc,.int .i64 e.ts,.int .i64 e.dep,.int .i64 e.seq,.string (strB e.name),.slice ea en ec] 107) (hXn : ¬ Sw w0 xc) {ra : Option Addr} {rn rc : Nat} {runs : List PRun} (hY : Blk w0 xr #[.slice ra rn rc] 48) (hYn : ¬ Sw w0 xr)
 (hall : AllSaid A sa sn sc qa q qc qb r d p) (h : ComAt (Sw w0) w0 qa q qc va m vc ea en ec p e) (hr : RowK runD (Sw w0) w0 (.slice ra rn rc) runs) (hrn : rn≤1000000)
 (hrr : ∀ t∈runs,t.bound.length=q∧(∀ l∈t.bound,l.length≤100000)∧∃ i : Nat,t.place+1=i∧i≤1000000∧(stsN p.its)[i]?=some (stQ p.its t.place)) (hst : ∀ s∈stsN p.its,((∀ k∈s.nx,k < q)∧(∀ k∈s.gd,k < q))∧(s.nx.length≤1000∧s.gd.length≤1000)) (hys : ∀ y∈p.its,y.ns.length≤1000000) (hq6 : q≤6) (hnm : e.name.length≤maxLen) (hpk : p.pick=1∨p.pick=2∨p.pick=3) :
 SeqM Fence.wide nf Tryz.prog 93 #[.pointer (some ⟨xr,0,none⟩),.pointer (some ⟨xc,0,none⟩)] DV.enc (KpW Sw) C (DM Sw (deedsP A p.its e p.pick runs).length) (fun xs=>xs.map (·.d)=deedsP A p.its e p.pick runs) w0:=by
 intro l J V hV hJ hJC hYI h0
 have hCV:=hJC [] V h0
 have hsw:=hS.low w0 V hC0 hV
 obtain ⟨DL,hDL⟩ : ∃ DL,deedsP A p.its e p.pick runs=DL:=⟨_,rfl⟩
 rw [hDL] at hYI ⊢
 obtain ⟨BD,hBD⟩ : ∃ BD,(takenP A p.its e (begunP p.its)).map (behindP p.its)=BD:=⟨_,rfl⟩
 unfold deedsP at hDL
 rw [hBD] at hDL
 have HBD : Hid ((takenP A p.its e (begunP p.its)).map (behindP p.its)=BD):=hBD
 clear hBD
 have HDL : Hid (runs.flatMap (doesP A p.its e p.pick)++BD=DL):=hDL
 have hkpV:=KpW.low hS hC0 hV
 have hX1:=hX.kp hXn hkpV
 have hY1:=hY.kp hYn hkpV
 have hbY : Below V.heap.size V (V.alloc (.cells #[.func (.yield l) #[] #[]] 159)):=(Below.refl _ _).alloc (Nat.le_refl _) _
 have y0:=zab (hY1.1.low hbY) (k:=0) rfl
 have HXV:=hid hX1
 have HYV:=hid hY1
 have HCOM : Hid (ComAt (Sw V) V qa q qc va m vc ea en ec p e):=h.kp hkpV
 have HROW : Hid (RowK runD (Sw V) V (.slice ra rn rc) runs):=hr.kp zbX (by decide) hkpV
 have HJ:=hid hJ
 have HJC:=hid hJC
 have HYI:=hid hYI
 have H0 : Hid (J [] V):=h0
 have HS:=hid hS
 have HRR:=hid hrr
 have HST:=hid hst
 have HAL:=hid hall
 have HYS:=hid hys
 have HPK:=hid hpk
 have HLEN : Hid (rn=runs.length):=hr.len
 clear hV hsw hDL hX1 hY1 hall h hr hrr hst hys hpk hX hXn hY hYn hC0 hJ hJC hYI h0 hS hkpV hCV hbY
 refine callsIn_of_wp_marks Tryz.func93 rfl trivial ?_ rfl
 simp only [Tryz.ntmps93,List.size_toArray,List.length_cons,List.length_nil,Nat.reduceAdd,Nat.reduceSub,Array.replicate_succ,Array.replicate_zero,List.push_toArray,List.append_toArray,List.nil_append,List.cons_append]
 gi_wp2
 obtain ⟨V1,hV1⟩ : ∃ V1,V.alloc (.cells #[.func (.yield l) #[] #[]] 159)=V1:=⟨_,rfl⟩
 rw [hV1]
 have HDV : Hid (DeS Sw V1 xc xr V.heap.size #[.slice sa sn sc,.slice qa q qc,.slice qb r d,.int .i64 p.within,.string (strB p.by_),.int .i64 p.pick,.slice va m vc,.int .i64 e.ts,.int .i64 e.dep,.int .i64 e.seq,.string (strB e.name),.slice ea en ec] (.func (.yield l) #[] #[]) ra rn rc runs qa q qc va m vc ea en ec p e):=by
  have hb1 : Below V.heap.size V V1:=by rw [← hV1];exact (Below.refl _ _).alloc (Nat.le_refl _) _
  have hk1:=KpW.low HS.out (HJC.out [] V H0.out) hb1
  refine ⟨(HXV.out.1.kp HXV.out.2 hk1).1,(HXV.out.1.kp HXV.out.2 hk1).2,by rw [← hV1];exact Blk.new V _ _,fun hn=>?_,HCOM.out.kp hk1,HROW.out.kp zbX (by decide) hk1⟩
  have:=HS.out.lt _ (HJC.out [] V H0.out) _ (HS.out.low V V1 (HJC.out [] V H0.out) hb1 _ hn)
  omega
 have HJ1 : Hid (J [] V1):=HJ.out [] V V1 none H0.out (by rw [← hV1];exact World.grownBy_alloc V _ none) (fun r e=>by cases e)
 have HSZ : Hid (V.heap.size≤V1.heap.size):=by rw [← hV1];show V.heap.size≤_;simp
 clear hV1 y0 HXV HYV HCOM HROW H0
 refine wpIn_loop (fun a wr=>∃ (j : Nat) (ds : List Deferred) (u5 u13 u14 u15 u16 u17 u18 u24 : Value),a={ tmps:=#[.func (.yield l) #[] #[],.pointer (some ⟨xr,0,none⟩),.pointer (some ⟨xc,0,none⟩),.pointer (some ⟨V.heap.size,0,none⟩),undef,u5,undef,undef,undef,undef,.slice ra rn rc,.int .i64 rn,.int .i64 j,u13,u14,u15,u16,u17,u18,undef,undef,undef,undef,undef,u24,undef,undef,undef,undef,undef,undef,undef,undef,undef,undef,undef,undef,undef,undef,undef,undef,undef,undef,undef,undef,undef],defers:=ds }∧j≤rn∧V.heap.size≤wr.heap.size∧Hid (Marks V.heap.size wr ds)∧Hid (∃ pre : List DV,pre.map (·.d)=(runs.take j).flatMap (doesP A p.its e p.pick)∧J pre wr)∧Hid (DeS Sw wr xc xr V.heap.size #[.slice sa sn sc,.slice qa q qc,.slice qb r d,.int .i64 p.within,.string (strB p.by_),.int .i64 p.pick,.slice va m vc,.int .i64 e.ts,.int .i64 e.dep,.int .i64 e.seq,.string (strB e.name),.slice ea en ec] (.func (.yield l) #[] #[]) ra rn rc runs qa q qc va m vc ea en ec p e)) (fun a _=>rn - (RowKit.intOf (a.tmps.getD 12 undef)).toNat) ⟨0,[],undef,undef,undef,undef,undef,undef,undef,undef,rfl,Nat.zero_le _,HSZ.out,trivial,⟨[],rfl,HJ1.out⟩,HDV.out⟩ ?round
 rintro a wr ⟨j,ds,u5,u13,u14,u15,u16,u17,u18,u24,rfl,hj,hsz,HM,HJP,HD⟩
 clear HDV HJ1 HSZ
 obtain ⟨pre,hpre,hJp⟩:=HJP.out
 have hCw:=HJC.out pre wr hJp
 by_cases hlt : j < rn
 ·obtain ⟨t,ht⟩ : ∃ t,runs[j]?=some t:=⟨_,List.getElem?_eq_getElem (by rw [← HLEN.out];exact hlt)⟩
  obtain ⟨hbn,hbl,i,hpl,hi,hsi⟩:=HRR.out t (List.mem_of_getElem? ht)
  obtain ⟨g5,o5,a5,c5,eg,d0,d1,hr5⟩:=HD.out.t.runAt ht
  obtain ⟨m5,hm5⟩ : ∃ m5,t.bound.length=m5:=⟨_,rfl⟩
  rw [hm5] at d1 hr5
  have hb5 : Below wr.heap.size wr (wr.alloc (.cells #[.int .i64 t.place,.slice a5 m5 c5] 59)):=(Below.refl _ _).alloc (Nat.le_refl _) _
  have HDW:=hid (HD.out.kp (KpW.low HS.out hCw hb5))
  have x0:=zab (HDW.out.x) (k:=0) rfl
  have x1:=zab (HDW.out.x) (k:=1) rfl
  have x2:=zab (HDW.out.x) (k:=2) rfl
  have x3:=zab (HDW.out.x) (k:=3) rfl
  have x4:=zab (HDW.out.x) (k:=4) rfl
  have x5:=zab (HDW.out.x) (k:=5) rfl
  have x6:=zab (HDW.out.x) (k:=6) rfl
  have x7:=zab (HDW.out.x) (k:=7) rfl
  have x8:=zab (HDW.out.x) (k:=8) rfl
  have x9:=zab (HDW.out.x) (k:=9) rfl
  have x10:=zab (HDW.out.x) (k:=10) rfl
  have x11:=zab (HDW.out.x) (k:=11) rfl
  have HJPR:=hid hJp
  have HPRE:=hid hpre
  have HR5:=hid hr5
  have HCW:=hid hCw
  have HM5:=hid hm5
  have HTJ:=hid ht
  have HBI : Hid (t.bound.length=q∧(∀ l∈t.bound,l.length≤100000)∧t.place+1=(i : Int)∧i≤1000000∧(stsN p.its)[i]?=some (stQ p.its t.place)):=⟨hbn,hbl,hpl,hi,hsi⟩
  have hj0 : (0 : Int)≤(j : Int):=by omega
  have hj1 : (j : Int) < (rn : Int):=by omega
  subst eg
  clear hpre hJp hr5 hCw hm5 ht hbn hbl hpl hi hsi HJP hb5
  gi_wp2
  refine ⟨trivial,fun _=>Nat.le_of_lt hnf,(callsIn_wide.2 zgH).mono ?_⟩
  rintro e4 W4 ⟨rfl,hW4⟩
  gi_wp2
  obtain ⟨W3,hW3⟩ : ∃ W3,((wr.alloc (.cells #[.int .i64 t.place,.slice a5 m5 c5] 59)).alloc (.cells #[.slice sa sn sc,.slice qa q qc,.slice qb r d,.int .i64 p.within,.string (strB p.by_),.int .i64 p.pick,.slice va m vc,.int .i64 e.ts,.int .i64 e.dep,.int .i64 e.seq,.string (strB e.name),.slice ea en ec] 107)).alloc (.cells #[.int .i64 t.place,.slice a5 m5 c5] 59)=W3:=⟨_,rfl⟩
  rw [hW3]
  have hb3 : Below wr.heap.size wr W3:=by rw [← hW3];exact (((Below.refl _ wr).alloc (Nat.le_refl _) _).alloc (by simp) _).alloc (by simp only [World.size_alloc];omega) _
  have hs3 : W3.heap.size=wr.heap.size+3:=by rw [← hW3];simp
  have hkx : Blk W3 (wr.heap.size+1) #[.slice sa sn sc,.slice qa q qc,.slice qb r d,.int .i64 p.within,.string (strB p.by_),.int .i64 p.pick,.slice va m vc,.int .i64 e.ts,.int .i64 e.dep,.int .i64 e.seq,.string (strB e.name),.slice ea en ec] 107:=by
   rw [← hW3]
   have h1:=Blk.new (wr.alloc (.cells #[.int .i64 t.place,.slice a5 m5 c5] 59)) #[.slice sa sn sc,.slice qa q qc,.slice qb r d,.int .i64 p.within,.string (strB p.by_),.int .i64 p.pick,.slice va m vc,.int .i64 e.ts,.int .i64 e.dep,.int .i64 e.seq,.string (strB e.name),.slice ea en ec] 107
   rw [World.size_alloc] at h1
   exact h1.low ((Below.refl _ _).alloc (Nat.le_refl _) _)
  have hky : Blk W3 (wr.heap.size+1+1) #[.int .i64 t.place,.slice a5 m5 c5] 59:=by
   rw [← hW3]
   have h1:=Blk.new ((wr.alloc (.cells #[.int .i64 t.place,.slice a5 m5 c5] 59)).alloc (.cells #[.slice sa sn sc,.slice qa q qc,.slice qb r d,.int .i64 p.within,.string (strB p.by_),.int .i64 p.pick,.slice va m vc,.int .i64 e.ts,.int .i64 e.dep,.int .i64 e.seq,.string (strB e.name),.slice ea en ec] 107)) #[.int .i64 t.place,.slice a5 m5 c5] 59
   rw [World.size_alloc,World.size_alloc] at h1
   exact h1
  clear hW3 d0 d1 x0 x1 x2 x3 x4 x5 x6 x7 x8 x9 x10 x11
  have hkp3:=KpW.low HS.out HCW.out hb3
  have hD3:=HD.out.kp hkp3
  have hj3 : J pre W3:=HJ.out pre wr W3 none HJPR.out (zaP hb3) (fun r e=>by cases e)
  have hm3 : Marks V.heap.size W3 ds:=HM.out.grown (zaP hb3) (fun _ _ _ _ e=>by cases e)
  have hnw : ∀ g,wr.heap.size≤g→¬ Sw W3 g:=fun g hg hn=>by
   have:=HS.out.lt _ HCW.out _ (HS.out.low wr W3 HCW.out hb3 _ hn)
   omega
  have hlt3 : ∀ d∈ds,∀ D,d.target=.collected D→D < W3.heap.size:=fun d hd D e=>by
   obtain ⟨D',e1,_,e3⟩:=hm3.lt d hd
   rw [e1] at e
   injection e with e
   omega
  have hCW3:=HJC.out pre W3 hj3
  have hss:=HST.out (stQ p.its t.place) (List.mem_of_getElem? HBI.out.2.2.2.2)
  have hdo:=ziK HS.out (nf - 1) (by omega) hCW3 hkx (hnw _ (by omega)) hky (hnw _ (by omega)) HAL.out hD3.com ((HR5.out.kp zbK (by decide) hkp3)) HBI.out.1 HYS.out hq6 HBI.out.2.1 hnm HBI.out.2.2.1 HBI.out.2.2.2.1 HBI.out.2.2.2.2 hss.1 hss.2 HPK.out
  obtain ⟨DD,hDD⟩ : ∃ DD,doesP A p.its e p.pick t=DD:=⟨_,rfl⟩
  have hte : (⟨t.place,t.bound⟩ : PRun)=t:=rfl
  rw [hte,hDD] at hdo
  have hfl : (runs.take (j+1)).flatMap (doesP A p.its e p.pick)=(runs.take j).flatMap (doesP A p.its e p.pick)++DD:=by
   rw [List.take_add_one,HTJ.out,List.flatMap_append,← hDD]
   simp
  have hall : ∃ more,DL=((runs.take j).flatMap (doesP A p.its e p.pick)++DD)++more:=by
   refine ⟨(runs.drop (j+1)).flatMap (doesP A p.its e p.pick)++BD,?_⟩
   rw [← HDL.out,← hfl,← List.append_assoc,← List.flatMap_append,List.take_append_drop]
  have hpl0 : pre.length+DD.length≤DL.length:=by
   obtain ⟨more,hm⟩:=hall
   have e1:=congrArg List.length HPRE.out
   have e2:=congrArg List.length hm
   simp only [List.length_map,List.length_append] at e1 e2
   omega
  have HFL:=hid hfl
  have HHJ:=HJ
  refine zcP (w0:=W3) (C:=C) rfl (by omega) (gf:=156) (lb:=#[.pointer (some ⟨wr.heap.size+1,0,none⟩),.pointer (some ⟨wr.heap.size+1+1,0,none⟩)]) rfl trivial (enters_of Tryz.func156 (by kernel_rfl) rfl) hdo KpW.trans (fun W l o o' _ h1 h2 h3=>KpW.put HS.out W l o o' h1 h2 h3) (Below.refl _ _) (fun _=>rfl)
   (fun (pre2 : List DV) W=>W3.heap.size≤W.heap.size∧J (pre++pre2) W∧Marks V.heap.size W ds∧DeS Sw W xc xr V.heap.size #[.slice sa sn sc,.slice qa q qc,.slice qb r d,.int .i64 p.within,.string (strB p.by_),.int .i64 p.pick,.slice va m vc,.int .i64 e.ts,.int .i64 e.dep,.int .i64 e.seq,.string (strB e.name),.slice ea en ec] (.func (.yield l) #[] #[]) (some ⟨g5,o5,none⟩) rn rc runs qa q qc va m vc ea en ec p e) ?own ?hC ?start ?round2 ?done
  case own =>
   rintro s U U' row ⟨h0,h1,h2,h3⟩ hg hr
   refine ⟨Nat.le_trans h0 hg.size,HJ.out _ U U' row h1 hg (fun r e=>⟨by have:=(hr r e).1;omega,(hr r e).2⟩),h2.grown hg (fun d hd D hD e=>?_),h3.kp (KpW.grown HS.out (HJC.out _ U h1) hg (fun r e=>(hr r e).2))⟩
   have e1:=hlt3 d hd D hD
   have e2:=(hr D e).1
   omega
  case hC=>exact fun pre2 W h=>HJC.out _ W h.2.1
  case start=>exact ⟨Nat.le_refl _,by rw [List.append_nil];exact hj3,hm3,hD3⟩
  case done =>
   rintro D xs W hD hxs ⟨h0,h1,h2,h3⟩ hd
   have HX1 : Hid (∃ pre : List DV,pre.map (·.d)=(runs.take (j+1)).flatMap (doesP A p.its e p.pick)∧J pre W):=⟨pre++xs,by rw [List.map_append,HPRE.out,HFL.out,hxs],h1⟩
   have HX2 : Hid (Marks V.heap.size W ({ target:=.collected D,args:=#[] } :: ds)):=⟨⟨D,rfl,by omega,hd,fun d' hd' D' e=>by have:=hlt3 d' hd' D' e;omega⟩,h2⟩
   have HX3:=hid h3
   have hszW : V.heap.size≤W.heap.size:=by omega
   clear hdo hkx hky hkp3 hD3 hj3 hm3 hnw hlt3 hCW3 hss hDD hte hfl hall hpl0 hb3 hs3 hxs h1 h2 h3 hd h0 hD
   gi_wp2
   have hjj : ((j : Int)+1)=((j+1 : Nat) : Int):=by omega
   rw [hjj]
   refine ⟨⟨j+1,_,_,_,_,_,_,_,_,_,rfl,by omega,hszW,HX2,HX1,HX3⟩,?_⟩
   simp [RowKit.intOf]
   omega
  case round2 =>
   rintro l' pre2 ⟨⟨⟨xp,xb⟩,xo,xf⟩,xa,xcap⟩ W hl' ⟨h0,h1,h2,h3⟩ ⟨hm1,hm2⟩
   dsimp only at hm2
   obtain ⟨m6,hm6⟩ : ∃ m6,xb.length=m6:=⟨_,rfl⟩
   rw [hm6] at hm2
   simp [Array.zip,DV.enc,hm6]
   gi_wp2
   have hCW':=HJC.out _ W h1
   have hb6 : Below W.heap.size W (W.alloc (.cells #[.int .i64 xp,.slice xa m6 xcap,.bool xo,.bool xf] 112)):=(Below.refl _ _).alloc (Nat.le_refl _) _
   have hk6:=KpW.low HS.out hCW' hb6
   have hbx:=Blk.new W #[.int .i64 xp,.slice xa m6 xcap,.bool xo,.bool xf] 112
   obtain ⟨W6,hW6⟩ : ∃ W6,W.alloc (.cells #[.int .i64 xp,.slice xa m6 xcap,.bool xo,.bool xf] 112)=W6:=⟨_,rfl⟩
   have hs6 : W6.heap.size=W.heap.size+1:=by rw [← hW6];simp
   rw [hW6] at hb6 hk6 hbx ⊢
   clear hW6
   have hj6 : J (pre++pre2) W6:=HJ.out _ W W6 none h1 (zaP hb6) (fun r e=>by cases e)
   have hm6':=h2.grown (zaP hb6) (fun _ _ _ _ e=>by cases e)
   refine ⟨KeepsFrom.of_grownBy (zaP hb6) (fun j e=>by cases e),hk6,⟨by omega,hj6,hm6',h3.kp hk6⟩,?_⟩
   rintro Wb hgb ob hob hoc i0 i1 i2 i3
   have hC6:=HJC.out _ W6 hj6
   have hkb:=KpW.grown HS.out hC6 hgb (fun r e=>by cases e;exact ⟨ob,hob,hoc⟩)
   have hnx : ¬ Sw W6 W.heap.size:=fun hn=>by
    have:=HS.out.lt _ hCW' _ (HS.out.low W W6 hCW' hb6 _ hn)
    omega
   have hbb:=(hbx.kp hnx hkb).1
   have y0:=zab i3.y (k:=0) rfl
   have z0:=zab hbb (k:=0) rfl
   have z1:=zab hbb (k:=1) rfl
   have z2:=zab hbb (k:=2) rfl
   have z3:=zab hbb (k:=3) rfl
   have hrow:=(hm2.kp zbK (by decide) hk6).kp zbK (by decide) hkb
   have hyi:=HYI.out (pre++pre2) (⟨⟨⟨xp,xb⟩,xo,xf⟩,xa,xcap⟩ : DV) Wb i1 ⟨by rw [List.length_append];omega,by show RowK evsD (Sw Wb) Wb (.slice xa xb.length xcap) xb;rw [hm6];exact hrow⟩
   obtain ⟨fn,tmps,assign,body,hy,hR⟩:=hyi
   simp only [DV.enc] at hy
   rw [hm6] at hy
   gi_wp2
   clear hbx hnx hbb hrow z0 z1 z2 z3 y0 hdo
   refine ⟨(fun h=>by cases h),(RoundIn.within hR).mono ?_⟩
   rintro e7 W7 ⟨rfl,hJ7,hk7,hf7⟩
   have HE7 : Hid (KeepsFrom W3.heap.size Wb W7∧KpW Sw Wb W7∧(W3.heap.size≤W7.heap.size∧J (pre++(pre2++[(⟨⟨⟨xp,xb⟩,xo,xf⟩,xa,xcap⟩ : DV)])) W7∧Marks V.heap.size W7 ds∧DeS Sw W7 xc xr V.heap.size #[.slice sa sn sc,.slice qa q qc,.slice qb r d,.int .i64 p.within,.string (strB p.by_),.int .i64 p.pick,.slice va m vc,.int .i64 e.ts,.int .i64 e.dep,.int .i64 e.seq,.string (strB e.name),.slice ea en ec] (.func (.yield l) #[] #[]) (some ⟨g5,o5,none⟩) rn rc runs qa q qc va m vc ea en ec p e)) :=
    ⟨⟨hf7.size,fun k o hk ho hc=>hf7.same k o (by omega) ho hc⟩,hk7,by have e1:=hf7.size;omega,by rw [← List.append_assoc];exact hJ7,i2.keeps hf7,i3.kp hk7⟩
   clear hJ7 hk7 hf7 i0 i1 i2 i3 hy hR
   gi_wp2
   have hE7:=HE7.out
   rw [hs3] at hE7
   exact hE7
 ·have hjt : j=rn:=by omega
  have htk : runs.take j=runs:=by rw [hjt,HLEN.out];exact List.take_length
  rw [htk] at hpre
  have hj1 : ¬ ((j : Int) < (rn : Int)):=by omega
  have hx:=HD.out.x
  have x1:=zab hx (k:=1) rfl
  have hmk:=zhF hq6 wr
  obtain ⟨EV,hEV⟩ : ∃ EV,madeCells #[.slice none 0 0] q=EV:=⟨_,rfl⟩
  rw [hEV] at hmk
  obtain ⟨W9,hW9⟩ : ∃ W9,(wr.alloc (.cells EV 27)).alloc (.cells #[.int .i64 (-1),.slice (some ⟨wr.heap.size,0,none⟩) q q] 59)=W9:=⟨_,rfl⟩
  have hb9 : Below wr.heap.size wr W9:=by rw [← hW9];exact ((Below.refl _ wr).alloc (Nat.le_refl _) _).alloc (by simp) _
  have hs9 : W9.heap.size=wr.heap.size+2:=by rw [← hW9];simp
  have hev : Blk W9 wr.heap.size EV 27:=by
   rw [← hW9]
   exact (Blk.new wr EV 27).low ((Below.refl _ _).alloc (Nat.le_refl _) _)
  rw [← hEV] at hev
  have hk9:=KpW.low HS.out hCw hb9
  have hD9:=HD.out.kp hk9
  have hj9 : J pre W9:=HJ.out pre wr W9 none hJp (zaP hb9) (fun r e=>by cases e)
  have hm9 : Marks V.heap.size W9 ds:=HM.out.grown (zaP hb9) (fun _ _ _ _ e=>by cases e)
  have hC9:=HJC.out pre W9 hj9
  have hrow:=zhG (K:=Sw W9) hev (fun hn=>by
   have:=HS.out.lt _ hCw _ (HS.out.low wr W9 hCw hb9 _ hn)
   omega)
  have hqq : q=p.its.length:=HD.out.com.1.len
  have hs0:=zd9 (its:=p.its) (k:=-1) (by omega) (by omega)
  have hss:=HST.out _ (List.mem_of_getElem? hs0)
  have HTAK:=hid (zcN (K:=Sw W9) HAL.out hD9.com (HS.out.lt _ hC9) hrow (by simp) HYS.out hq6 (fun l hl=>by rw [List.eq_of_mem_replicate hl];simp) hnm (pl:=-1) (i:=0) (by omega) (by omega) hs0 hss.1.1 hss.2.1)
  obtain ⟨TL,hTL⟩ : ∃ TL,(stQ p.its (-1)).nx.filterMap (takesP A p.its e (List.replicate q []))=TL:=⟨_,rfl⟩
  have hBD : TL.map (behindP p.its)=BD:=by
   rw [← HBD.out,← hTL]
   unfold takenP begunP
   rw [hqq]
  have HTAT : Hid (∀ t∈TL,∃ k : Nat,t.place=(k : Int)∧t.place+1=((k+1 : Nat) : Int)∧k < p.its.length∧(stsN p.its)[k+1]?=some (stQ p.its t.place)):=fun t ht=>zgd (by rw [hTL];exact ht)
  have hTLb : TL.length≤1000:=by rw [← hTL];exact Nat.le_trans (List.length_filterMap_le _ _) hss.2.1
  rw [hTL] at HTAK
  have HBD2 : Hid (TL.map (behindP p.its)=BD):=hBD
  have HQQ : Hid (q=p.its.length):=hqq
  have x0:=zab hD9.x (k:=0) rfl
  have x2:=zab hD9.x (k:=2) rfl
  have x3:=zab hD9.x (k:=3) rfl
  have x4:=zab hD9.x (k:=4) rfl
  have x5:=zab hD9.x (k:=5) rfl
  have x6:=zab hD9.x (k:=6) rfl
  have x7:=zab hD9.x (k:=7) rfl
  have x8:=zab hD9.x (k:=8) rfl
  have x9:=zab hD9.x (k:=9) rfl
  have x10:=zab hD9.x (k:=10) rfl
  have x11:=zab hD9.x (k:=11) rfl
  have x1b:=zab hD9.x (k:=1) rfl
  have HW9:=hid hW9
  have HD9:=hid hD9
  have HJ9:=hid hj9
  have HM9:=hid hm9
  have HC9:=hid hC9
  have HPRE:=hid hpre
  rw [← hW9] at x0 x1b x2 x3 x4 x5 x6 x7 x8 x9 x10 x11
  have hsz9 : V.heap.size≤W9.heap.size:=by omega
  clear hpre hJp hCw HJP htk hlt hx hb9 hs9 hev hk9 hD9 hj9 hm9 hC9 hrow hqq hs0 hss hTL hBD hW9
  gi_wp2
  rw [HW9.out]
  refine ⟨trivial,fun _=>Nat.le_of_lt hnf,(callsIn_wide.2 HTAK.out).mono ?_⟩
  rintro e2 W2 ⟨v,css,rfl,ho,hb2⟩
  obtain ⟨va1,vc1,rfl⟩:=ho.slice
  have hJ2:=HJ.out _ W9 W2 none HJ9.out (zaP hb2) (fun r e=>by cases e)
  have hrow2:=ho.row' (K':=Sw W2) (fun g hg=>.inl (HS.out.low _ _ HC9.out hb2 g hg)) (fun g hg hk=>by
   have e1:=(ho.own g hg).1
   have e2:=HS.out.lt _ HC9.out g (HS.out.low _ _ HC9.out hb2 g hk)
   omega)
  have HR2:=hid hrow2
  have HJ2:=hid hJ2
  have HM2 : Hid (Marks V.heap.size W2 ds):=HM9.out.grown (zaP hb2) (fun _ _ _ _ e=>by cases e)
  have HD2 : Hid (DeS Sw W2 xc xr V.heap.size #[.slice sa sn sc,.slice qa q qc,.slice qb r d,.int .i64 p.within,.string (strB p.by_),.int .i64 p.pick,.slice va m vc,.int .i64 e.ts,.int .i64 e.dep,.int .i64 e.seq,.string (strB e.name),.slice ea en ec] (.func (.yield l) #[] #[]) ra rn rc runs qa q qc va m vc ea en ec p e):=HD9.out.kp (KpW.low HS.out HC9.out hb2)
  have hsz2 : V.heap.size≤W2.heap.size:=Nat.le_trans hsz9 hb2.size
  obtain ⟨tl,htl⟩ : ∃ tl,TL.length=tl:=⟨_,rfl⟩
  have HTLN : Hid (TL.length=tl):=htl
  rw [htl] at HR2 hTLb ⊢
  clear hrow2 hJ2 ho hb2 htl HTAK HM9 HD9 HC9 HJ9 x0 x1 x1b x2 x3 x4 x5 x6 x7 x8 x9 x10 x11 hmk
  gi_wp2
  gi_loopw [35] (fun i wr=>∃ k : Nat,i=.int .i64 k∧k≤tl∧(V.heap.size≤wr.heap.size∧Hid (Marks V.heap.size wr ds)∧Hid (∃ pre : List DV,pre.map (·.d)=runs.flatMap (doesP A p.its e p.pick)++(TL.take k).map (behindP p.its)∧J pre wr)∧Hid (DeS Sw wr xc xr V.heap.size #[.slice sa sn sc,.slice qa q qc,.slice qb r d,.int .i64 p.within,.string (strB p.by_),.int .i64 p.pick,.slice va m vc,.int .i64 e.ts,.int .i64 e.dep,.int .i64 e.seq,.string (strB e.name),.slice ea en ec] (.func (.yield l) #[] #[]) ra rn rc runs qa q qc va m vc ea en ec p e)∧Hid (RowK runD (Sw wr) wr (.slice va1 tl vc1) TL))) (fun i _=>tl - (RowKit.intOf i).toNat)
  case atStart=>exact ⟨0,rfl,Nat.zero_le _,hsz2,HM2,⟨pre,by rw [HPRE.out];simp,HJ2.out⟩,HD2,HR2⟩
  case round =>
  clear HJ2 HM2 HD2 HR2 hsz2 hsz9 hsz HD HM HPRE
  obtain ⟨k,rfl,hk,hsz3,HM3,HJP3,HD3,HR3⟩:=hrel
  obtain ⟨pre3,hpre3,hJ3⟩:=HJP3.out
  have hC3:=HJC.out pre3 wr hJ3
  by_cases hlt : k < tl
  ·obtain ⟨t,ht⟩ : ∃ t,TL[k]?=some t:=⟨_,List.getElem?_eq_getElem (by rw [HTLN.out];exact hlt)⟩
   obtain ⟨i,hk1,hk2,hkq,hsq⟩:=HTAT.out t (List.mem_of_getElem? ht)
   obtain ⟨g5,o5,a5,c5,eg,d0,d1,hr5⟩:=HR3.out.runAt ht
   obtain ⟨m5,hm5⟩ : ∃ m5,t.bound.length=m5:=⟨_,rfl⟩
   rw [hm5] at d1 hr5
   obtain ⟨zo,hzo⟩ : ∃ zo,onB (stQ p.its t.place)=zo:=⟨_,rfl⟩
   obtain ⟨zf,hzf⟩ : ∃ zf,fdB (stQ p.its t.place)=zf:=⟨_,rfl⟩
   obtain ⟨W5,hW5⟩ : ∃ W5,wr.alloc (.cells #[.int .i64 t.place,.slice a5 m5 c5] 59)=W5:=⟨_,rfl⟩
   have hb5 : Below wr.heap.size wr W5:=by rw [← hW5];exact (Below.refl _ _).alloc (Nat.le_refl _) _
   have hkp5:=KpW.low HS.out hC3 hb5
   have hD5:=HD3.out.kp hkp5
   have hj5 : J pre3 W5:=HJ.out pre3 wr W5 none hJ3 (zaP hb5) (fun r e=>by cases e)
   have hm5' : Marks V.heap.size W5 ds:=HM3.out.grown (zaP hb5) (fun _ _ _ _ e=>by cases e)
   have hR5:=HR3.out.kp zbX (by decide) hkp5
   have hC5:=HJC.out pre3 W5 hj5
   have HBEH : Hid (∀ W,Below W5.heap.size W5 W→Calls Tryz.prog 96 #[.agg #[.slice sa sn sc,.slice qa q qc,.slice qb r d,.int .i64 p.within,.string (strB p.by_),.int .i64 p.pick,.slice va m vc,.int .i64 e.ts,.int .i64 e.dep,.int .i64 e.seq,.string (strB e.name),.slice ea en ec],.agg #[.int .i64 t.place,.slice a5 m5 c5]] W fun ed w'=>ed=.returned (.agg #[.int .i64 t.place,.slice a5 m5 c5,.bool zo,.bool zf])∧Below W.heap.size W w'):=fun W hW=>by
    have h1:=zaQ (sa:=sa) (sn:=sn) (sc:=sc) (qb:=qb) (r:=r) (d:=d) (a:=a5) (n:=m5) (c:=c5) (hD5.kp (KpW.low HS.out hC5 hW)).com hk2 (by have:=HQQ.out;omega) hsq
    rw [hzo,hzf] at h1
    exact h1
   have HYC : Hid (∀ W,Below W5.heap.size W5 W→W.cell? ⟨V.heap.size,0,none⟩=some (.func (.yield l) #[] #[])):=fun W hW=>zab (hD5.kp (KpW.low HS.out hC5 hW)).y (k:=0) rfl
   have HY : Hid (∀ W,Below W5.heap.size W5 W→YieldAt Fence.wide (nf - 1) Tryz.prog l #[.agg #[.int .i64 t.place,.slice a5 m5 c5,.bool zo,.bool zf]] W fun ew U=>ew=.returned (.bool true)∧(V.heap.size≤U.heap.size∧Hid (Marks V.heap.size U ds)∧Hid (∃ pre : List DV,pre.map (·.d)=runs.flatMap (doesP A p.its e p.pick)++(TL.take (k+1)).map (behindP p.its)∧J pre U)∧Hid (DeS Sw U xc xr V.heap.size #[.slice sa sn sc,.slice qa q qc,.slice qb r d,.int .i64 p.within,.string (strB p.by_),.int .i64 p.pick,.slice va m vc,.int .i64 e.ts,.int .i64 e.dep,.int .i64 e.seq,.string (strB e.name),.slice ea en ec] (.func (.yield l) #[] #[]) ra rn rc runs qa q qc va m vc ea en ec p e)∧Hid (RowK runD (Sw U) U (.slice va1 tl vc1) TL))):=fun W hW=>by
    have hjW:=HJ.out pre3 W5 W none hj5 (zaP hW) (fun r e=>by cases e)
    have hkW:=KpW.low HS.out hC5 hW
    have hDW:=hD5.kp hkW
    have hmW:=hm5'.grown (zaP hW) (fun _ _ _ _ e=>by cases e)
    have hRW:=hR5.kp zbX (by decide) hkW
    have hrb:=((hr5.kp zbK (by decide) hkp5).kp zbK (by decide) hkW)
    have hy:=HYI.out pre3 (⟨⟨t,zo,zf⟩,a5,c5⟩ : DV) W hjW ⟨by
     have e1:=congrArg List.length hpre3
     have e2:=congrArg List.length HDL.out
     have e3:=congrArg List.length HBD2.out
     have e4:=HTLN.out
     simp only [List.length_map,List.length_append,List.length_take] at e1 e2 e3
     omega,by show RowK evsD (Sw W) W (.slice a5 t.bound.length c5) t.bound;rw [hm5];exact hrb⟩
    obtain ⟨fn,tmps,assign,body,hy,hR⟩:=hy
    simp only [DV.enc] at hy
    rw [hm5] at hy
    refine ⟨fn,tmps,assign,body,hy,hR.mono ?_⟩
    rintro ew U ⟨rfl,hJU,hkU,hfU⟩
    refine ⟨rfl,Nat.le_trans (Nat.le_trans hsz3 hb5.size) (Nat.le_trans hW.size hfU.size),hmW.keeps hfU,⟨_,?_,hJU⟩,hDW.kp hkU,hRW.kp zbX (by decide) hkU⟩
    rw [List.map_append,hpre3,List.take_add_one,ht,List.append_assoc]
    simp only [List.map_append,List.map_cons,List.map_nil,Option.toList_some]
    rw [show behindP p.its t=⟨t,zo,zf⟩ by rw [← hzo,← hzf];rfl]
   have y0:=zab hD5.y (k:=0) rfl
   have x0:=zab hD5.x (k:=0) rfl
   have x1:=zab hD5.x (k:=1) rfl
   have x2:=zab hD5.x (k:=2) rfl
   have x3:=zab hD5.x (k:=3) rfl
   have x4:=zab hD5.x (k:=4) rfl
   have x5:=zab hD5.x (k:=5) rfl
   have x6:=zab hD5.x (k:=6) rfl
   have x7:=zab hD5.x (k:=7) rfl
   have x8:=zab hD5.x (k:=8) rfl
   have x9:=zab hD5.x (k:=9) rfl
   have x10:=zab hD5.x (k:=10) rfl
   have x11:=zab hD5.x (k:=11) rfl
   have hj0 : (0 : Int)≤(k : Int):=by omega
   have hj1 : (k : Int) < (tl : Int):=by omega
   subst eg
   rw [← hW5] at y0 x0 x1 x2 x3 x4 x5 x6 x7 x8 x9 x10 x11
   have HW5:=hid hW5
   clear hk1 hk2 hkq hsq hr5 hb5 hpre3 hJ3 hm5 ht HJP3 hzo hzf hkp5 hD5 hj5 hm5' hR5 hC5 hC3 HM3 HD3 HR3 hW5
   gi_wp2
   rw [HW5.out] at y0 x0 x1 x2 x3 x4 x5 x6 x7 x8 x9 x10 x11 ⊢
   have hz : Blk W5 wr.heap.size #[.int .i64 t.place,.slice a5 m5 c5] 59:=by rw [← HW5.out];exact Blk.new wr _ _
   have z0:=zab hz (k:=0) rfl
   have z1:=zab hz (k:=1) rfl
   clear hz d0 d1
   first
   | gi_region_with (first
     | (refine ⟨trivial,fun _=>Nat.le_of_lt hnf,(callsIn_wide.2 (HBEH.out _ (zae (Below.refl _ _)))).mono ?_⟩
        rintro e4 W4 ⟨rfl,hb4⟩
        have hb45:=(zae (Below.refl _ W5)).trans (hb4.mono (by simp))
        have y4:=HYC.out W4 hb45
        obtain ⟨fn4,tmps4,assign4,body4,hy4,hR4⟩:=HY.out W4 hb45
        clear hb45 hb4)
     | (refine ⟨fun _=>Nat.le_of_lt hnf,hR4.mono ?_⟩
        rintro e5 W6 ⟨rfl,HP6⟩
        have HP7:=hid HP6
        clear HP6 hR4 hy4))
   | fail "region"
   all_goals
    (clear x0 x1 x2 x3 x4 x5 x6 x7 x8 x9 x10 x11 y0 z0 z1
     gi_wp2
     go_roundw
     case rel=>exact ⟨k+1,by go_num,by omega,HP7.out⟩
     case measure =>
      simp [RowKit.intOf]
      omega)
  ·have hkt : k=tl:=by omega
   have htk : TL.take k=TL:=by rw [hkt];exact List.take_of_length_le (Nat.le_of_eq HTLN.out)
   have HFIN : Hid (∃ pre : List DV,pre.map (·.d)=DL∧J pre wr):=⟨pre3,by rw [hpre3,htk,HBD2.out];exact HDL.out,hJ3⟩
   have hk1 : ¬ ((k : Int) < (tl : Int)):=by omega
   clear hpre3 hJ3 htk HJP3 hC3
   gi_wp2
   refine Marks.leaves (Z:=fun W=>∃ pre : List DV,pre.map (·.d)=DL∧J pre W) ?_ ?_ ds wr HM3.out HFIN.out
   ·rintro W b ⟨pre,h1,h2⟩ hb hd
    exact ⟨pre,h1,HJ.out.putObj _ h2 hb hd rfl⟩
   ·rintro W ⟨pre,h1,h2⟩
    exact ⟨_,results_none rfl _ _ _,⟨_,rfl⟩,pre,h1,h2⟩
end
end Go.Proofs.YtkmlfkbpcgkpaaaGreatDoor
