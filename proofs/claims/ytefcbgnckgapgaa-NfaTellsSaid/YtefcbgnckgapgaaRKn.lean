/- Whether names are accepted: the document's. -/
import Derived.Test.YtefcbgnckgapgaaMI
import Derived.Deep.OwnRows
namespace Go.Proofs.Ytefcbgnckgapgaa
open Go.RowKit Go.Lib Go.Op Go.Deep
def boolB (q : Nat) (F : Nat→Bool) : Array Value:=((List.range (q+1)).map fun m=>Value.bool (F m)).toArray
theorem boolB_at {q : Nat} {F : Nat→Bool} {k : Nat} (hk : k≤q) : (boolB q F)[k]?=some (.bool (F k)):=by
 unfold boolB
 rw [List.getElem?_toArray,List.getElem?_map,List.getElem?_range (by omega)]
 rfl
theorem boolB_set {q : Nat} {F : Nat→Bool} {k : Nat} : (boolB q F).setIfInBounds k (.bool true)=boolB q (fun m=>F m || decide (m=k)):=by
 unfold boolB
 rw [List.setIfInBounds_toArray]
 congr 1
 apply List.ext_getElem?
 intro i
 rw [List.getElem?_set,List.getElem?_map,List.getElem?_map,List.length_map,List.length_range]
 by_cases hi : i < q+1
 ·rw [List.getElem?_range hi]
  by_cases e : k=i
  ·subst e
   simp [hi]
  ·have e2 : ¬ i=k:=fun h=>e h.symm
   simp [e,e2]
 ·have h1 : (List.range (q+1))[i]?=none:=List.getElem?_eq_none (by simp;omega)
  rw [h1]
  by_cases e : k=i
  ·subst e
   simp [hi]
  ·simp [e]
theorem boolB_congr {q : Nat} {F G : Nat→Bool} (h : ∀ m,F m=G m) : boolB q F=boolB q G:=by
 rw [show F=G from funext h]
set_option maxRecDepth 100000 in
theorem boolsI : (Try.prog.info? 4).map (fun i=>(i.zero,i.size,i.bytes))=some (some (.bool false),1,1):=by kernel_rfl
theorem made_bools : ∀ {q : Nat},q≤6→madeCells #[Value.bool false] (q+1)=boolB q fun _=>false
 | 0,_=>by kernel_rfl
 | 1,_=>by kernel_rfl
 | 2,_=>by kernel_rfl
 | 3,_=>by kernel_rfl
 | 4,_=>by kernel_rfl
 | 5,_=>by kernel_rfl
 | 6,_=>by kernel_rfl
 | n+7,h=>absurd h (by omega)
set_option maxRecDepth 100000 in
theorem make_bools {q : Nat} (hq : q≤6) (W : World) : (Instr.makeSlice 60 (.int .i64 ((q : Int)+1)) (.int .i64 ((q : Int)+1))).run Try.prog W=.ok (.slice (some ⟨W.heap.size,0,none⟩) (q+1) (q+1)) (W.alloc (.cells (boolB q fun _=>false) 4)):=by
 have h:=run_make_row' (P:=Try.prog) 60 4 (.bool false) 1 (by kernel_rfl) boolsI rfl .i64 .i64 (q+1) (by omega) (by omega) W
 rw [show ((q+1 : Nat) : Int)=(q : Int)+1 by omega] at h
 rw [made_bools hq] at h
 exact h
def NxT (l : List PIt) (v : Nat) (y : List UInt8) (k j m : Nat) : Prop:=∃ i x,m=i+1∧l[i]?=some x∧y∈x.ns∧((∃ k' s,k' < k∧(stsN l)[k']?=some s∧v.testBit k'=true∧i∈s.nx)∨∃ s,(stsN l)[k]?=some s∧v.testBit k=true∧i∈s.nx.take j)
section
variable {l : List PIt} {v : Nat} {y : List UInt8} {k j m : Nat}
theorem NxT.zero : ¬ NxT l v y 0 0 m:=by
 rintro ⟨i,x,_,_,_,⟨k',s,h,_⟩|⟨s,_,_,h⟩⟩
 ·omega
 ·simp at h
theorem NxT.yes {s : PSt} (hs : (stsN l)[k]?=some s) (hv : v.testBit k=true) {i : Nat} (hj : s.nx[j]?=some i) {x : PIt} (hx : l[i]?=some x) (hy : y∈x.ns) : NxT l v y k (j+1) m ↔ NxT l v y k j m∨m=i+1:=by
 constructor
 ·rintro ⟨i',x',rfl,h1,h2,h3|⟨s',h3,h4,h5⟩⟩
  ·exact .inl ⟨i',x',rfl,h1,h2,.inl h3⟩
  ·rw [hs] at h3
   cases h3
   rw [List.take_add_one,hj] at h5
   rcases List.mem_append.1 h5 with h5|h5
   ·exact .inl ⟨i',x',rfl,h1,h2,.inr ⟨s,hs,h4,h5⟩⟩
   ·obtain rfl : i'=i:=by simpa using h5
    exact .inr rfl
 ·rintro (⟨i',x',rfl,h1,h2,h3|⟨s',h3,h4,h5⟩⟩|rfl)
  ·exact ⟨i',x',rfl,h1,h2,.inl h3⟩
  ·exact ⟨i',x',rfl,h1,h2,.inr ⟨s',h3,h4,by rw [List.take_add_one];exact List.mem_append_left _ h5⟩⟩
  ·exact ⟨i,x,rfl,hx,hy,.inr ⟨s,hs,hv,by rw [List.take_add_one,hj];exact List.mem_append_right _ (by simp)⟩⟩
theorem NxT.no {s : PSt} (hs : (stsN l)[k]?=some s) {i : Nat} (hj : s.nx[j]?=some i) {x : PIt} (hx : l[i]?=some x) (hy : y ∉ x.ns) : NxT l v y k (j+1) m ↔ NxT l v y k j m:=by
 constructor
 ·rintro ⟨i',x',rfl,h1,h2,h3|⟨s',h3,h4,h5⟩⟩
  ·exact ⟨i',x',rfl,h1,h2,.inl h3⟩
  ·rw [hs] at h3
   cases h3
   rw [List.take_add_one,hj] at h5
   rcases List.mem_append.1 h5 with h5|h5
   ·exact ⟨i',x',rfl,h1,h2,.inr ⟨s,hs,h4,h5⟩⟩
   ·obtain rfl : i'=i:=by simpa using h5
    rw [hx] at h1
    cases h1
    exact absurd h2 hy
 ·rintro ⟨i',x',rfl,h1,h2,h3|⟨s',h3,h4,h5⟩⟩
  ·exact ⟨i',x',rfl,h1,h2,.inl h3⟩
  ·exact ⟨i',x',rfl,h1,h2,.inr ⟨s',h3,h4,by rw [List.take_add_one];exact List.mem_append_left _ h5⟩⟩
theorem NxT.done {s : PSt} (hs : (stsN l)[k]?=some s) (hj : v.testBit k=true→s.nx.length≤j) : NxT l v y (k+1) 0 m ↔ NxT l v y k j m:=by
 constructor
 ·rintro ⟨i',x',rfl,h1,h2,⟨k',s',h3,h4,h5,h6⟩|⟨s',_,_,h5⟩⟩
  ·by_cases e : k'=k
   ·subst e
    rw [hs] at h4
    cases h4
    exact ⟨i',x',rfl,h1,h2,.inr ⟨s,hs,h5,by rw [List.take_of_length_le (hj h5)];exact h6⟩⟩
   ·exact ⟨i',x',rfl,h1,h2,.inl ⟨k',s',by omega,h4,h5,h6⟩⟩
  ·simp at h5
 ·rintro ⟨i',x',rfl,h1,h2,⟨k',s',h3,h4,h5,h6⟩|⟨s',h3,h4,h5⟩⟩
  ·exact ⟨i',x',rfl,h1,h2,.inl ⟨k',s',by omega,h4,h5,h6⟩⟩
  ·exact ⟨i',x',rfl,h1,h2,.inl ⟨k,s',by omega,h3,h4,List.mem_of_mem_take h5⟩⟩
theorem NxT.all : NxT l v y (l.length+1) 0 m ↔ (stepN l v y).testBit m=true:=by
 unfold stepN
 rw [stepTo_bit]
 constructor
 ·rintro ⟨i,x,rfl,h1,h2,⟨k',s,h3,h4,h5,h6⟩|⟨s,_,_,h5⟩⟩
  ·exact ⟨i,rfl,(List.getElem?_eq_some_iff.1 h1).1,takesN_iff.2 ⟨⟨x,h1,h2⟩,k',s,h4,h5,h6⟩⟩
  ·simp at h5
 ·rintro ⟨i,rfl,h1,h2⟩
  obtain ⟨⟨x,hx,h3⟩,k',s,h4,h5,h6⟩:=takesN_iff.1 h2
  have hk:=(List.getElem?_eq_some_iff.1 h4).1
  rw [stsN_len] at hk
  exact ⟨i,x,rfl,hx,h3,.inl ⟨k',s,hk,h4,h5,h6⟩⟩
end
theorem sts_nx {l : List PIt} (h0 : l≠[]) {k : Nat} {s : PSt} (hs : (stsN l)[k]?=some s) : s.nx.length≤l.length+1∧s.gd.length≤l.length∧∀ i∈s.nx,i < l.length:=by
 cases k with
 | zero =>
   rw [stsN_zero] at hs
   cases hs
   refine ⟨by simp [st0],by simp [st0],fun i hi=>?_⟩
   obtain rfl : i=0:=by simpa [st0] using hi
   exact List.length_pos_iff.2 h0
 | succ k =>
   have hk:=(List.getElem?_eq_some_iff.1 hs).1
   rw [stsN_len] at hk
   have hx : l[k]?=some l[k]:=List.getElem?_eq_getElem (by omega)
   rw [stsN_at hx] at hs
   cases hs
   have h:=behT_len (l.drop (k+1)) (k+1) (if l[k].mode=2 then [k] else []) []
   rw [List.length_drop] at h
   refine ⟨?_,?_,fun i hi=>?_⟩
   ·unfold stAt
    have h1:=h.1
    split at h1 <;> rename_i e
    ·rw [if_pos e];simp at h1;omega
    ·rw [if_neg e];simp at h1;omega
   ·unfold stAt
    have h1:=h.2
    simp at h1
    omega
   ·obtain ⟨j,hj⟩:=List.getElem?_of_mem hi
    exact ((stAt_ok hx).nx j i hj).2.1
section
variable {K : Nat→Prop} {w : World} {a b a2 : Option Addr} {q c r d c2 : Nat} {p : PQu} {names : List (List UInt8)}
set_option maxHeartbeats 4000000 in
set_option maxRecDepth 100000 in
theorem nraccepts_calls (h : QuAt K w a q c b r d p) (hb : QuB p) (hn : RowK nameD K w (.slice a2 names.length c2) names) (hnl : names.length≤140737488355328) :
 Calls Try.prog 16 #[.agg #[.slice a q c,.slice b r d,.int .i64 p.within,.string (strB p.by_),.int .i64 p.pick],.slice a2 names.length c2] w fun e w'=>e=.returned (.bool (rightQ p && accQ p.its names))∧Below w.heap.size w w':=by
 have hb0:=(Below.refl w.heap.size w).alloc (Nat.le_refl _) (.cells #[.slice a q c,.slice b r d,.int .i64 p.within,.string (strB p.by_),.int .i64 p.pick] 25)
 have HX:=hid (Blk.new w #[.slice a q c,.slice b r d,.int .i64 p.within,.string (strB p.by_),.int .i64 p.pick] 25)
 have HC:=hid (nrcompile_calls (w:=w.alloc (.cells #[.slice a q c,.slice b r d,.int .i64 p.within,.string (strB p.by_),.int .i64 p.pick] 25)) (p:=p) (K:=K) ⟨h.1.low hb0,h.2.low hb0⟩ hb)
 have HQL:=hid h.1.len
 have HI:=hid (h.1.mono (K':=fun _=>False) (fun _ h=>h.elim))
 have HBI:=hid hb.1
 have HB0:=hid hb0
 have HN:=hid (hn.mono (K':=fun _=>False) (fun _ h=>h.elim))
 obtain ⟨z,hz⟩ : ∃ z,rightQ p=z:=⟨_,rfl⟩
 have HZ:=hid hz
 rw [hz]
 obtain ⟨n,hnn⟩ : ∃ n,names.length=n:=⟨_,rfl⟩
 have HNN:=hid hnn
 rw [hnn] at hnl ⊢
 have m0:=tcell HX.out (k:=0) rfl
 have m1:=tcell HX.out (k:=1) rfl
 have m2:=tcell HX.out (k:=2) rfl
 have m3:=tcell HX.out (k:=3) rfl
 have m4:=tcell HX.out (k:=4) rfl
 clear h hb hb0 hz hn hnn
 cases z with
 | false =>
   rw [Bool.false_and]
   go_enter Try.func16,Try.ntmps16
   go_wp2_with fail
   with_reducible refine HC.out.mono ?_
   rintro e w1 ⟨v,rfl,hrow,hb1⟩
   rw [HZ.out,if_neg (by simp)] at hrow
   obtain ⟨va,vc,rfl⟩:=hrow.slice
   have HB1:=hid (HB0.out.trans (hb1.mono HB0.out.size))
   clear hb1 hrow m0 m1 m2 m3 m4
   go_wp2
   go_ret
   exact ⟨rfl,HB1.out⟩
 | true =>
   rw [Bool.true_and]
   obtain ⟨zz,hzz⟩ : ∃ zz,accQ p.its names=zz:=⟨_,rfl⟩
   have HZZ:=hid hzz
   rw [hzz]
   obtain ⟨x0,rr,hi0,hno0,hm0,hlen6⟩:=rightQ_first HZ.out
   rw [← HQL.out] at hlen6
   have HNE : Hid (p.its≠[]):=by
    show _≠_
    rw [hi0]
    simp
   clear hi0 hno0 hm0 hzz
   have hmk:=make_bools hlen6
   go_enter Try.func16,Try.ntmps16
   go_wp2_with fail
   with_reducible refine HC.out.mono ?_
   rintro e w1 ⟨v,rfl,hrow,hb1⟩
   rw [HZ.out,if_pos rfl] at hrow
   obtain ⟨va,vc,rfl⟩:=hrow.slice
   have HS:=hid (hrow.mono (K':=fun _=>False) (fun _ h=>h.elim))
   have HX1:=hid (HX.out.low hb1)
   have HB1:=hid (HB0.out.trans (hb1.mono HB0.out.size))
   have hm : (stsN p.its).length=q+1:=by rw [stsN_len,HQL.out]
   have HM:=hid hm
   rw [hm] at HS ⊢
   have t0 : ((q : Int)+1 == 0)=false:=by rw [beq_eq_false_iff_ne];omega
   have HBA:=hid ((Below.refl w1.heap.size w1).alloc (Nat.le_refl _) (.cells (boolB q fun _=>false) 4))
   have hblk:=Blk.new w1 (boolB q fun _=>false) 4
   have y0:=tcell hblk (k:=0) (boolB_at (Nat.zero_le _))
   have yf:=tfrozen hblk (k:=0)
   have hst : (boolB q fun _=>false).setIfInBounds 0 (.bool true)=boolB q fun m=>(1 : Nat).testBit m:=by
    rw [boolB_set]
    exact boolB_congr (fun m=>by rw [show (1 : Nat)=2 ^ 0 from rfl,Nat.testBit_two_pow,Bool.false_or];exact decide_eq_decide.2 ⟨fun e=>e.symm,fun e=>e.symm⟩)
   have HW1 : Hid (Blk (w1.alloc (.cells ((boolB q fun _=>false).setIfInBounds 0 (.bool true)) 4)) w1.heap.size (boolB q fun m=>(1 : Nat).testBit m) 4):=by
    have h:=Blk.new w1 ((boolB q fun _=>false).setIfInBounds 0 (.bool true)) 4
    show Blk _ _ _ _
    rw [← hst]
    exact h
   have HW2 : Hid (Below w1.heap.size w1 (w1.alloc (.cells ((boolB q fun _=>false).setIfInBounds 0 (.bool true)) 4))):=(Below.refl w1.heap.size w1).alloc (Nat.le_refl _) _
   clear hb1 hrow hm m0 m1 m2 m3 m4 hblk hst HC
   go_wp2
   clear y0 yf t0
   go_loopw [6,7] (fun hv i wr=>∃ (j sv gH : Nat),i=.int .i64 j∧j≤n∧hv=.slice (some ⟨gH,0,none⟩) (q+1) (q+1)∧Hid (w1.heap.size≤gH∧Blk wr gH (boolB q fun m=>sv.testBit m) 4)∧Hid (runN p.its 1 names=runN p.its sv (names.drop j))∧Hid (Below w1.heap.size w1 wr)) (fun _ i _=>n - (RowKit.intOf i).toNat)
   case atStart=>exact ⟨0,1,w1.heap.size,rfl,Nat.zero_le _,rfl,⟨Nat.le_refl _,HW1.out⟩,rfl,HW2.out⟩
   case round =>
    clear HW1 HW2 HBA
    obtain ⟨j,sv,gH,rfl,hj,rfl,HH,HR,HB⟩:=hrel
    obtain ⟨wa,rfl⟩ : ∃ wa,wa=wr:=⟨_,rfl⟩
    have HBw:=hid (HB1.out.trans (HB.out.mono HB1.out.size))
    by_cases hlt : j < n
    ·obtain ⟨y,hy⟩ : ∃ y,names[j]?=some y:=⟨_,List.getElem?_eq_getElem (by rw [HNN.out];exact hlt)⟩
     have HY:=hid hy
     have hwj : IntKind.i64.wrap ((j : Int)+1)=((j+1 : Nat) : Int):=by rw [IntWalk.i64_in _ (by omega)];omega
     have HWJ:=hid hwj
     have HBN:=hid ((Below.refl wa.heap.size wa).alloc (Nat.le_refl _) (.cells (boolB q fun _=>false) 4))
     have hlH:=HH.out.2.lt
     have HLH:=hid hlH
     have HN0:=hid (Blk.new wa (boolB q fun _=>false) 4)
     have HH0:=hid (HH.out.2.low HBN.out)
     clear hy hlH hwj
     go_wp2
     go_loopw [9] (fun i wr=>∃ (k : Nat) (F : Nat→Bool),i=.int .i64 k∧k≤q+1∧Hid (Blk wr wa.heap.size (boolB q F) 4∧Blk wr gH (boolB q fun m=>sv.testBit m) 4)∧Hid (∀ m,F m=true ↔ NxT p.its sv y k 0 m)∧Hid (Below wa.heap.size wa wr)) (fun i _=>q+1 - (RowKit.intOf i).toNat)
     case atStart=>exact ⟨0,fun _=>false,rfl,Nat.zero_le _,⟨HN0.out,HH0.out⟩,(fun m=>⟨(fun e=>by cases e),fun e=>absurd e NxT.zero⟩),HBN.out⟩
     case round =>
      clear HN0 HH0 HBN
      obtain ⟨k,F,rfl,hk,HK,HF,HB2⟩:=hrel
      obtain ⟨wb,rfl⟩ : ∃ wb,wb=wr:=⟨_,rfl⟩
      by_cases hkl : k < q+1
      ·obtain ⟨s,hs⟩ : ∃ s,(stsN p.its)[k]?=some s:=⟨_,List.getElem?_eq_getElem (by rw [HM.out];exact hkl)⟩
       have hnx:=sts_nx HNE.out hs
       rw [← HQL.out] at hnx
       have HSS:=hid hs
       have HNX:=hid hnx
       have hwk : IntKind.i64.wrap ((k : Int)+1)=((k+1 : Nat) : Int):=by rw [IntWalk.i64_in _ (by omega)];omega
       have HWK:=hid hwk
       obtain ⟨ns,hns⟩ : ∃ ns,s.nx.length=ns:=⟨_,rfl⟩
       have HNS:=hid hns
       obtain ⟨tb,htb⟩ : ∃ tb,sv.testBit k=tb:=⟨_,rfl⟩
       have HTB:=hid htb
       have tk : decide ((k : Int) < (q : Int)+1)=true:=decide_eq_true (by omega)
       clear hs hnx hwk hns htb
       go_wp2
       clear tk
       go_loopw [10] (fun i wr=>∃ (j2 : Nat) (F : Nat→Bool),i=.int .i64 j2∧j2≤ns∧Hid (tb=false→j2=0)∧Hid (Blk wr wa.heap.size (boolB q F) 4∧Blk wr gH (boolB q fun m=>sv.testBit m) 4)∧Hid (∀ m,F m=true ↔ NxT p.its sv y k j2 m)∧Hid (Below wa.heap.size wa wr)) (fun i _=>ns - (RowKit.intOf i).toNat)
       case atStart=>exact ⟨0,F,rfl,Nat.zero_le _,fun _=>rfl,HK.out,HF.out,HB2.out⟩
       case round =>
        clear HK HF HB2
        obtain ⟨j2,F2,rfl,hj2,HT2,HK,HF,HB2⟩:=hrel
        have hBr:=HB.out.trans (HB2.out.mono HB.out.size)
        have HBr:=hid hBr
        have hBw:=HBw.out.trans (HB2.out.mono HBw.out.size)
        obtain ⟨g,o,a1,c1,a3,c3,rfl,e0,e1,e2,hr1,hr2⟩:=(HS.out.low hBr).stateAt HSS.out
        have h0:=tcell HK.out.2 (k:=k) (boolB_at (by omega))
        rw [HTB.out] at h0
        have HR1:=hid hr1
        rw [HNS.out] at e0
        clear hr1 hr2 e1 e2
        cases tb with
        | false =>
          have hwk:=HWK.out
          have HF3 : Hid (∀ m,F2 m=true ↔ NxT p.its sv y (k+1) 0 m):=by
           show ∀ m,_
           intro m
           rw [HF.out m]
           exact (NxT.done HSS.out (fun e=>by rw [HTB.out] at e;cases e)).symm
          clear hBr hBw
          go_wp2
          exact ⟨⟨k+1,F2,rfl,hkl,HK,HF3,HB2⟩,by simp [RowKit.intOf];omega⟩
        | true =>
          by_cases hjl : j2 < ns
          ·obtain ⟨i,hi⟩ : ∃ i,s.nx[j2]?=some i:=⟨_,List.getElem?_eq_getElem (by rw [HNS.out];exact hjl)⟩
           obtain ⟨gn,on,rfl,hc⟩:=HR1.out.numAt hi
           have hiq:=HNX.out.2.2 i (List.mem_of_getElem? hi)
           obtain ⟨x,hx⟩ : ∃ x,p.its[i]?=some x:=⟨_,List.getElem?_eq_getElem (by rw [← HQL.out];exact hiq)⟩
           obtain ⟨g3,o3,a4,c4,rfl,d0,d1,d2,d3,hr3⟩:=(HI.out.low hBw).itemAt hx
           obtain ⟨g4,o4,rfl,hcn⟩:=RowK.nameAt (HN.out.low hBw) HY.out
           have m0:=tcell ((HX1.out.low HB.out).low HB2.out) (k:=0) rfl
           have hd:=vbelow_drew (Below.refl wr.heap.size wr)
           have hhas:=nrhas_calls (w:=wr.drew) (hr3.low hd) (by have:=(HBI.out x (List.mem_of_getElem? hx)).1;omega) x.no (strB x.x) x.mode y
           obtain ⟨zb,hzb⟩ : ∃ zb,decide (y∈x.ns)=zb:=⟨_,rfl⟩
           obtain ⟨xl,hxl⟩ : ∃ xl,x.ns.length=xl:=⟨_,rfl⟩
           rw [hzb,hxl] at hhas
           rw [hxl] at d1
           have HHas:=hid hhas
           have HBd:=hid (vbelow_drew HB2.out)
           have HKd : Hid (Blk wr.drew wa.heap.size (boolB q F2) 4∧Blk wr.drew gH (boolB q fun m=>sv.testBit m) 4):=HK.out
           have f0 : wr.drew.cell? ⟨w.heap.size,0,none⟩=some (.slice (some ⟨g3,o3,none⟩) q c):=m0
           have f1 : wr.drew.cell? ⟨g3,o3+i*4,none⟩=some (.bool x.no):=d0
           have f2 : wr.drew.cell? ⟨g3,o3+i*4+1,none⟩=some (.slice a4 xl c4):=d1
           have f3 : wr.drew.cell? ⟨g3,o3+i*4+2,none⟩=some (.string (strB x.x)):=d2
           have f4 : wr.drew.cell? ⟨g3,o3+i*4+3,none⟩=some (.int .i64 x.mode):=d3
           have f5 : wr.drew.cell? ⟨g4,o4+j,none⟩=some (.string (strB y)):=hcn
           have hwj2 : IntKind.i64.wrap ((j2 : Int)+1)=((j2+1 : Nat) : Int):=by rw [IntWalk.i64_in _ (by have:=HNX.out.1;have:=HNS.out;omega)];omega
           have hwi : IntKind.i64.wrap ((i : Int)+1)=((i+1 : Nat) : Int):=by rw [IntWalk.i64_in _ (by omega)];omega
           have hi9 : (0 : Int)≤(i : Int)∧(i : Int) < (q : Int):=by omega
           cases zb with
           | false =>
             have HF3 : Hid (∀ m,F2 m=true ↔ NxT p.its sv y k (j2+1) m):=by
              show ∀ m,_
              intro m
              rw [HF.out m]
              exact (NxT.no HSS.out hi hx (of_decide_eq_false hzb)).symm
             clear hBr hBw hi hx hr3 hd hhas hzb hxl
             go_wp2_with fail
             clear hc d0 d1 d2 d3 hcn m0 h0 e0
             refine wp_region_held_drew (S:=fun W=>W.cell? ⟨w.heap.size,0,none⟩=some (.slice (some ⟨g3,o3,none⟩) q c)∧W.cell? ⟨g3,o3+i*4,none⟩=some (.bool x.no)∧W.cell? ⟨g3,o3+i*4+1,none⟩=some (.slice a4 xl c4)∧W.cell? ⟨g3,o3+i*4+2,none⟩=some (.string (strB x.x))∧W.cell? ⟨g3,o3+i*4+3,none⟩=some (.int .i64 x.mode)∧W.cell? ⟨g4,o4+j,none⟩=some (.string (strB y))) (by kernel_rfl) ⟨by assumption,by assumption,by assumption,by assumption,by assumption,by assumption⟩ (fun hHeld=>?_)
             refine tK 0 62 (h:=?_)
             try simp only [Act.put,sI,sZ,sS]
             refine tK 1 63 (h:=?_)
             try simp only [Act.put,sI,sZ,sS]
             refine tK 2 64 (h:=?_)
             try simp only [Act.put,sI,sZ,sS]
             refine tK 3 65 (h:=?_)
             try simp only [Act.put,sI,sZ,sS]
             refine tK 4 66 (h:=?_)
             try simp only [Act.put,sI,sZ,sS]
             refine tK 5 67 (h:=?_)
             try simp only [Act.put,sI,sZ,sS]
             refine tK 6 68 (h:=?_)
             try simp only [Act.put,sI,sZ,sS]
             refine tK 7 69 (h:=?_)
             try simp only [Act.put,sI,sZ,sS]
             refine tK 8 70 (h:=?_)
             try simp only [Act.put,sI,sZ,sS]
             refine wpAnyH_ready (rs:=[9]) (by kernel_rfl) (by simp) ?_
             refine AllReadyH.cons (o:=_) rfl (fun K hK=>?_) AllReadyH.nil
             dsimp only [List.getElem_toArray,List.getElem_cons_succ,List.getElem_cons_zero]
             go_simp
             go_at_call 18
             (with_reducible refine HHas.out.mono ?_)
             rintro e v1 ⟨rfl,hb⟩
             have HV1:=hid hb
             have HB9:=hid (HBd.out.trans (hb.mono HBd.out.size))
             have k0:=tkeep hb f0
             have k1:=tkeep hb f1
             have k2:=tkeep hb f2
             have k3:=tkeep hb f3
             have k4:=tkeep hb f4
             have k5:=tkeep hb f5
             clear hb
             go_wp2_with fail
             refine hK.out _ _ ⟨k0,k1,k2,k3,k4,k5⟩ (fun hHeld=>?_)
             clear hK K
             try simp only [Act.put,sI,sZ,sS]
             refine wpAnyH_done (by kernel_rfl) ?_ _
             go_wp2
             exact ⟨⟨j2+1,F2,rfl,hjl,(fun e=>by cases e),⟨HKd.out.1.low HV1.out,HKd.out.2.low HV1.out⟩,HF3,HB9⟩,by simp [RowKit.intOf];omega⟩
           | true =>
             have HF3 : Hid (∀ m,(F2 m || decide (m=i+1))=true ↔ NxT p.its sv y k (j2+1) m):=by
              show ∀ m,_
              intro m
              rw [Bool.or_eq_true,decide_eq_true_eq,HF.out m]
              exact (NxT.yes HSS.out HTB.out hi hx (of_decide_eq_true hzb)).symm
             clear hBr hBw hi hx hr3 hd hhas hzb hxl
             go_wp2_with fail
             clear hc d0 d1 d2 d3 hcn m0 h0 e0
             refine wp_region_held_drew (S:=fun W=>W.cell? ⟨w.heap.size,0,none⟩=some (.slice (some ⟨g3,o3,none⟩) q c)∧W.cell? ⟨g3,o3+i*4,none⟩=some (.bool x.no)∧W.cell? ⟨g3,o3+i*4+1,none⟩=some (.slice a4 xl c4)∧W.cell? ⟨g3,o3+i*4+2,none⟩=some (.string (strB x.x))∧W.cell? ⟨g3,o3+i*4+3,none⟩=some (.int .i64 x.mode)∧W.cell? ⟨g4,o4+j,none⟩=some (.string (strB y))) (by kernel_rfl) ⟨by assumption,by assumption,by assumption,by assumption,by assumption,by assumption⟩ (fun hHeld=>?_)
             refine tK 0 62 (h:=?_)
             try simp only [Act.put,sI,sZ,sS]
             refine tK 1 63 (h:=?_)
             try simp only [Act.put,sI,sZ,sS]
             refine tK 2 64 (h:=?_)
             try simp only [Act.put,sI,sZ,sS]
             refine tK 3 65 (h:=?_)
             try simp only [Act.put,sI,sZ,sS]
             refine tK 4 66 (h:=?_)
             try simp only [Act.put,sI,sZ,sS]
             refine tK 5 67 (h:=?_)
             try simp only [Act.put,sI,sZ,sS]
             refine tK 6 68 (h:=?_)
             try simp only [Act.put,sI,sZ,sS]
             refine tK 7 69 (h:=?_)
             try simp only [Act.put,sI,sZ,sS]
             refine tK 8 70 (h:=?_)
             try simp only [Act.put,sI,sZ,sS]
             refine wpAnyH_ready (rs:=[9]) (by kernel_rfl) (by simp) ?_
             refine AllReadyH.cons (o:=_) rfl (fun K hK=>?_) AllReadyH.nil
             dsimp only [List.getElem_toArray,List.getElem_cons_succ,List.getElem_cons_zero]
             go_simp
             go_at_call 18
             (with_reducible refine HHas.out.mono ?_)
             rintro e v1 ⟨rfl,hb⟩
             have HV1:=hid hb
             have HB9:=hid (HBd.out.trans (hb.mono HBd.out.size))
             have k0:=tkeep hb f0
             have k1:=tkeep hb f1
             have k2:=tkeep hb f2
             have k3:=tkeep hb f3
             have k4:=tkeep hb f4
             have k5:=tkeep hb f5
             clear hb
             go_wp2_with fail
             refine hK.out _ _ ⟨k0,k1,k2,k3,k4,k5⟩ (fun hHeld=>?_)
             clear hK K
             try simp only [Act.put,sI,sZ,sS]
             refine wpAnyH_done (by kernel_rfl) ?_ _
             have hk1:=HKd.out.1.low HV1.out
             have n0:=tcell hk1 (k:=i+1) (boolB_at (by omega))
             have nf:=tfrozen hk1 (k:=i+1)
             have HK9 : Hid (Blk (v1.setCell ⟨wa.heap.size,i+1,none⟩ (.bool true)) wa.heap.size (boolB q fun m=>F2 m || decide (m=i+1)) 4∧Blk (v1.setCell ⟨wa.heap.size,i+1,none⟩ (.bool true)) gH (boolB q fun m=>sv.testBit m) 4):=⟨hk1.set (i+1) (.bool true) boolB_set,(HKd.out.2.low HV1.out).at (by have:=HLH.out;omega) _ _⟩
             have HB10 : Hid (Below wa.heap.size wa (v1.setCell ⟨wa.heap.size,i+1,none⟩ (.bool true))):=((TFr.of_below (K:=(wa.heap.size≤·)) HB9.out).setCell (p:=⟨wa.heap.size,i+1,none⟩) (fun _=>Nat.le_refl _) _).below (Nat.le_refl _) (fun k hk=>hk)
             clear hk1
             go_wp2
             exact ⟨⟨j2+1,fun m=>F2 m || decide (m=i+1),rfl,hjl,(fun e=>by cases e),HK9,HF3,HB10⟩,by simp [RowKit.intOf];omega⟩
          ·have hwk:=HWK.out
           have HF3 : Hid (∀ m,F2 m=true ↔ NxT p.its sv y (k+1) 0 m):=by
            show ∀ m,_
            intro m
            rw [HF.out m]
            exact (NxT.done HSS.out (fun _=>by rw [HNS.out];omega)).symm
           clear hBr hBw
           go_wp2
           exact ⟨⟨k+1,F2,rfl,hkl,HK,HF3,HB2⟩,by simp [RowKit.intOf];omega⟩
      ·have hkq : k=p.its.length+1:=by rw [← HQL.out];omega
       have HNEW : Hid (w1.heap.size≤wa.heap.size∧Blk wb wa.heap.size (boolB q fun m=>(stepN p.its sv y).testBit m) 4):=by
        refine ⟨HB.out.size,?_⟩
        rw [← boolB_congr (F:=F) (G:=fun m=>(stepN p.its sv y).testBit m) (fun m=>by rw [Bool.eq_iff_iff,HF.out m,hkq];exact NxT.all)]
        exact HK.out.1
       have HR2 : Hid (runN p.its 1 names=runN p.its (stepN p.its sv y) (names.drop (j+1))):=HR.out.trans (runN_at HY.out)
       have HB3:=hid (HB.out.trans (HB2.out.mono HB.out.size))
       have hwj:=HWJ.out
       clear hkq
       go_wp2
       exact ⟨⟨j+1,stepN p.its sv y,wa.heap.size,rfl,hlt,rfl,HNEW,HR2,HB3⟩,by simp [RowKit.intOf];omega⟩
    ·have hjn : names.length≤j:=by rw [HNN.out];omega
     have hacc : zz=endN p.its sv:=by
      have h:=HR.out
      rw [List.drop_eq_nil_of_le hjn] at h
      rw [← HZZ.out,← run_is,h]
      rfl
     have HACC:=hid hacc
     clear hjn hacc
     go_wp2
     go_loopw [12] (fun i wr=>∃ k : Nat,i=.int .i64 k∧1≤k∧k≤q+1∧Hid (∀ k' s,k' < k→(stsN p.its)[k']?=some s→sv.testBit k'=true→s.fin=false)∧Hid (Below wa.heap.size wa wr)) (fun i _=>q+1 - (RowKit.intOf i).toNat)
     case atStart =>
      refine ⟨1,rfl,Nat.le_refl _,by omega,?_,Below.refl _ _⟩
      show ∀ k' s,_
      intro k' s h1 h2 _
      obtain rfl : k'=0:=by omega
      rw [stsN_zero] at h2
      cases h2
      rfl
     case round =>
      obtain ⟨k,rfl,hk1,hk,HNF,HB2⟩:=hrel
      have HBz:=hid (HBw.out.trans (HB2.out.mono HBw.out.size))
      by_cases hkl : k < q+1
      ·obtain ⟨s,hs⟩ : ∃ s,(stsN p.its)[k]?=some s:=⟨_,List.getElem?_eq_getElem (by rw [HM.out];exact hkl)⟩
       obtain ⟨g,o,a1,c1,a3,c3,rfl,e0,e1,e2,hr1,hr2⟩:=(HS.out.low (HB.out.trans (HB2.out.mono HB.out.size))).stateAt hs
       have h0:=tcell (HH.out.2.low HB2.out) (k:=k) (boolB_at (by omega))
       have hskip : (sv.testBit k=true→s.fin=false)→∀ k' s,k' < k+1→(stsN p.its)[k']?=some s→sv.testBit k'=true→s.fin=false:=fun h0 k' s' h1 h2 h3=>by
        by_cases hkk : k'=k
        ·subst hkk
         rw [hs] at h2
         cases h2
         exact h0 h3
        ·exact HNF.out k' s' (by omega) h2 h3
       have hwk : IntKind.i64.wrap ((k : Int)+1)=((k+1 : Nat) : Int):=by rw [IntWalk.i64_in _ (by omega)];omega
       cases htb : sv.testBit k with
       | false =>
         have HN2:=hid (hskip (fun e=>by rw [htb] at e;cases e))
         rw [htb] at h0
         clear hs hr1 hr2 hskip htb
         go_wp2
         exact ⟨⟨k+1,rfl,by omega,hkl,HN2,HB2⟩,by simp [RowKit.intOf];omega⟩
       | true =>
         rw [htb] at h0
         cases hfi : s.fin with
         | true =>
           obtain rfl : zz=true:=HACC.out.trans (endN_at hs htb hfi)
           rw [hfi] at e2
           clear hs hr1 hr2 hskip htb hfi
           go_wp2
           go_ret
           exact ⟨rfl,HBz.out⟩
         | false =>
           have HN2:=hid (hskip (fun _=>hfi))
           rw [hfi] at e2
           clear hs hr1 hr2 hskip htb hfi
           go_wp2
           exact ⟨⟨k+1,rfl,by omega,hkl,HN2,HB2⟩,by simp [RowKit.intOf];omega⟩
      ·obtain rfl : zz=false:=HACC.out.trans (endN_no (fun k' s h1 h2=>HNF.out k' s (by
        have:=(List.getElem?_eq_some_iff.1 h1).1
        rw [HM.out] at this
        omega) h1 h2))
       go_wp2
       go_ret
       exact ⟨rfl,HBz.out⟩
end
end Go.Proofs.Ytefcbgnckgapgaa
