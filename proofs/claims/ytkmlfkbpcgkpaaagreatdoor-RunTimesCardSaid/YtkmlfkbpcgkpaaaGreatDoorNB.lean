/- RunTimes: its walk. -/
import Derived.Test.YtkmlfkbpcgkpaaaGreatDoorMM
import Derived.Test.YtkmlfkbpcgkpaaaGreatDoorML
import Derived.Test.YtkmlfkbpcgkpaaaGreatDoorNA
import Derived.Test.YtkmlfkbpcgkpaaaGreatDoorM4
namespace Go.Proofs.YtkmlfkbpcgkpaaaGreatDoor
open Go.RowKit Go.Lib Go.Op
set_option maxHeartbeats 8000000
set_option maxRecDepth 100000
theorem SmE.cm {l : List PEv} (h : SmE l) : CmE l:=⟨by have:=h.1;omega,fun e he=>by have:=h.2 e he;omega⟩
theorem SmB.cm {b : List (List PEv)} (h : SmB b) : CmB b:=⟨by have:=h.1;omega,fun l hl=>(h.2 l hl).cm⟩
theorem zgZ {p : PQu} {runs : List PRun} {t : Int} : (∀ r∈(timeP p runs t).1,r∈runs):=by
 unfold timeP
 split
 ·exact fun r hr=>(List.mem_filter.1 hr).1
 ·exact fun r hr=>by cases hr
theorem SmRs.time {p : PQu} {runs : List PRun} {t : Int} (h : SmRs runs) : SmRs (timeP p runs t).1:=⟨Nat.lt_of_le_of_lt zbN.1 h.1,fun r hr=>h.2 r (zgZ r hr)⟩
theorem ze9 (w : World) {a b ra : Option Addr} {q c r e rn rc : Nat} {p : PQu} {runs : List PRun} (h : QuAt (fun _=>False) w a q c b r e p) (hl : QLn p) (hr : RowK runD (fun _=>False) w (.slice ra rn rc) runs) (hrl : runs.length≤140737488355328) (hrb : ∀ r∈runs,BdLn r.bound) (x y : Int) (hx : -9223372036854775808≤x∧x≤9223372036854775807) (hy : -9223372036854775808≤y∧y≤9223372036854775807) :
 Calls Tryz.prog 5 #[.agg #[.slice a q c,.slice b r e,.int .i64 p.within,.string (strB p.by_),.int .i64 p.pick],.slice ra rn rc,.int .i64 x,.int .i64 y] w fun ed w'=>ed=.returned (.bool true)∧Below w.heap.size w w':=by
 have hb0:=(Below.refl w.heap.size w).alloc (Nat.le_refl _) (.cells #[.slice a q c,.slice b r e,.int .i64 p.within,.string (strB p.by_),.int .i64 p.pick] 26)
 have HX:=hid (Blk.new w #[.slice a q c,.slice b r e,.int .i64 p.within,.string (strB p.by_),.int .i64 p.pick] 26)
 have HB0:=hid hb0
 have HQ:=hid h
 have HL:=hid hl
 have HR:=hid hr
 have HRL:=hid hrl
 have HRB:=hid hrb
 have HRN:=hid hr.len
 have HH:=hid (zcM (w:=w.alloc (.cells #[.slice a q c,.slice b r e,.int .i64 p.within,.string (strB p.by_),.int .i64 p.pick] 26)))
 clear h hl hb0 hr hrl hrb
 go_enter Tryz.func5,Tryz.ntmps5
 go_wp2_with fail
 with_reducible refine HH.out.mono ?_
 rintro e1 w1 ⟨rfl,hb1⟩
 have HB1:=hid (HB0.out.trans (hb1.mono HB0.out.size))
 have X1:=hid (HX.out.low hb1)
 obtain ⟨x0,x1,x2,x3,x4⟩:=c5w X1.out
 have HG:=hid (zcE (w:=w1) ⟨HQ.out.1.low HB1.out,HQ.out.2.low HB1.out⟩ HL.out)
 clear hb1 HH HX HB0
 go_wp2_with fail
 with_reducible refine HG.out.mono ?_
 rintro e2 w2 ⟨g,rfl,hsm,hb2⟩
 have HB2:=hid (HB1.out.trans (hb2.mono HB1.out.size))
 have X2:=hid (X1.out.low hb2)
 clear hb2 HG X1 HB1 x0 x1 x2 x3 x4
 cases g with
 | true =>
   clear hsm
   go_wp2
   go_ret
   exact ⟨rfl,HB2.out⟩
 | false =>
 have HS:=hid (hsm rfl).bd
 clear hsm
 have HGR:=hid (zcv (HR.out.low HB2.out) HRL.out HRB.out)
 go_wp2_with fail
 with_reducible refine HGR.out.mono ?_
 rintro e3 w3 ⟨g,rfl,hsm,hb3⟩
 have HB3:=hid (HB2.out.trans (hb3.mono HB2.out.size))
 have X3:=hid (X2.out.low hb3)
 clear hb3 HGR X2 HB2
 cases g with
 | true =>
   clear hsm
   go_wp2
   go_ret
   exact ⟨rfl,HB3.out⟩
 | false =>
 have HSM:=hid (hsm rfl)
 clear hsm
 by_cases h1 : x < 0
 ·have t1 : decide (x < 0)=true:=decide_eq_true h1
  go_wp2
  go_ret
  exact ⟨rfl,HB3.out⟩
 have t1 : decide (x < 0)=false:=decide_eq_false h1
 by_cases h2 : y < x
 ·have t2 : decide (y < x)=true:=decide_eq_true h2
  go_wp2
  go_ret
  exact ⟨rfl,HB3.out⟩
 have t2 : decide (y < x)=false:=decide_eq_false h2
 by_cases h3 : 4398046511104 < y
 ·have t3 : decide (4398046511104 < y)=true:=decide_eq_true h3
  go_wp2
  go_ret
  exact ⟨rfl,HB3.out⟩
 have t3 : decide (4398046511104 < y)=false:=decide_eq_false h3
 have hx0 : 0≤x:=by omega
 have hxy : x≤y:=by omega
 obtain ⟨x0,x1,x2,x3,x4⟩:=c5w X3.out
 obtain ⟨P1,hP1⟩ : ∃ P1,timeP p runs x=P1:=⟨_,rfl⟩
 obtain ⟨X,M⟩:=P1
 obtain ⟨P2,hP2⟩ : ∃ P2,timeP p X y=P2:=⟨_,rfl⟩
 obtain ⟨Y,N⟩:=P2
 obtain ⟨P3,hP3⟩ : ∃ P3,timeP p runs y=P3:=⟨_,rfl⟩
 obtain ⟨Z,O⟩:=P3
 have HSX : Hid (SmRs X):=by have h:=HSM.out.time (p:=p) (t:=x);rwa [hP1] at h
 have HSZ : Hid (SmRs Z):=by have h:=HSM.out.time (p:=p) (t:=y);rwa [hP3] at h
 have HYZ : Hid (Y=Z):=by
  have h:=zgm (q:=p) (runs:=runs) hx0 hxy
  rw [hP1,hP3] at h
  dsimp only at h
  rw [hP2] at h
  exact h
 have HCN : Hid (M.length+N.length=O.length):=by
  have h:=zgn (q:=p) (runs:=runs) hx0 hxy
  rw [hP1,hP3] at h
  dsimp only at h
  rw [hP2] at h
  exact h
 have HZL : Hid (Z.length≤rn):=by
  have h:=(zbN (q:=p) (runs:=runs) (b:=y)).1
  rw [hP3,← HRN.out] at h
  exact h
 have HOL : Hid (O.length≤rn):=by
  have h:=(zbN (q:=p) (runs:=runs) (b:=y)).2
  rw [hP3,← HRN.out] at h
  exact h
 have HLF : Hid (∀ r∈Z,y < firstR r.bound+p.within∧0≤firstR r.bound∧firstR r.bound≤1099511627776∧0≤p.within∧p.within≤1099511627776):=fun r hr=>by
  have h:=zg6 (q:=p) (runs:=runs) (b:=y) (by omega) r (by rw [hP3];exact hr)
  have h5:=zaE.1 h.2
  have hrq : rightQ p=true:=by
   by_cases hq : rightQ p=true
   ·exact hq
   ·unfold timeP at hP3
    rw [if_neg hq] at hP3
    injection hP3 with hP3 _
    rw [← hP3] at hr
    cases hr
  have hw:=zbc hrq
  exact ⟨h.1,h5.2.2.2.2.2.1,h5.2.2.2.2.2.2,hw.1,hw.2⟩
 have HDN : Hid (∀ m∈O,m.done≤y):=fun m hm=>zg7 (q:=p) (runs:=runs) m (by rw [hP3];exact hm)
 have hrn : rn < 300:=by rw [HRN.out];exact HSM.out.1
 have HT1 : Hid (∀ W,Below w3.heap.size w3 W→Calls Tryz.prog 27 #[.agg #[.slice a q c,.slice b r e,.int .i64 p.within,.string (strB p.by_),.int .i64 p.pick],.slice ra rn rc,.int .i64 x] W (TiTo X M W)):=fun W hW=>by
  have hb:=HB3.out.trans (hW.mono HB3.out.size)
  exact zgG (K:=fun _=>False) ⟨HQ.out.1.low hb,HQ.out.2.low hb⟩ HS.out (HR.out.low hb) HSM.out.runsS.1 x hx hP1
 have HT3 : Hid (∀ W,Below w3.heap.size w3 W→Calls Tryz.prog 27 #[.agg #[.slice a q c,.slice b r e,.int .i64 p.within,.string (strB p.by_),.int .i64 p.pick],.slice ra rn rc,.int .i64 y] W (TiTo Z O W)):=fun W hW=>by
  have hb:=HB3.out.trans (hW.mono HB3.out.size)
  exact zgG (K:=fun _=>False) ⟨HQ.out.1.low hb,HQ.out.2.low hb⟩ HS.out (HR.out.low hb) HSM.out.runsS.1 y hy hP3
 have HP2:=hid hP2
 clear hP1 hP2 hP3
 go_wp2_with fail
 with_reducible refine (HT1.out _ (Below.refl _ _)).mono ?_
 rintro e4 w4 ⟨v1,v2,rfl,ho,hb4⟩
 obtain ⟨a1,c1,rfl⟩:=ho.sl1
 obtain ⟨a2,c2,rfl⟩:=ho.sl2
 obtain ⟨n1,hn1⟩ : ∃ z,X.length=z:=⟨_,rfl⟩
 obtain ⟨m1,hm1⟩ : ∃ z,M.length=z:=⟨_,rfl⟩
 rw [hn1,hm1] at ho ⊢
 rw [hm1] at HCN
 have HO1:=hid ho.ovI.rows.1
 have HB34 : Hid (Below w3.heap.size w3 w4):=hb4
 have X4:=hid (X3.out.low hb4)
 clear ho hb4 hn1 hm1 HT1 x0 x1 x2 x3 x4
 obtain ⟨x0,x1,x2,x3,x4⟩:=c5w X4.out
 have HT2 : Hid (∀ W,Below w4.heap.size w4 W→Calls Tryz.prog 27 #[.agg #[.slice a q c,.slice b r e,.int .i64 p.within,.string (strB p.by_),.int .i64 p.pick],.slice a1 n1 c1,.int .i64 y] W (TiTo Y N W)):=fun W hW=>by
  have hb0:=HB34.out.trans (hW.mono HB34.out.size)
  have hb:=HB3.out.trans (hb0.mono HB3.out.size)
  exact zgG (K:=fun _=>False) ⟨HQ.out.1.low hb,HQ.out.2.low hb⟩ HS.out (HO1.out.low hW) HSX.out.runsS.1 y hy HP2.out
 go_wp2_with fail
 with_reducible refine (HT2.out _ (Below.refl _ _)).mono ?_
 rintro e5 w5 ⟨v1,v2,rfl,ho,hb5⟩
 obtain ⟨a3,c3,rfl⟩:=ho.sl1
 obtain ⟨a4,c4,rfl⟩:=ho.sl2
 obtain ⟨n2,hn2⟩ : ∃ z,Y.length=z:=⟨_,rfl⟩
 obtain ⟨m2,hm2⟩ : ∃ z,N.length=z:=⟨_,rfl⟩
 rw [hn2,hm2] at ho ⊢
 rw [hm2] at HCN
 have HO2:=hid ho.ovI.rows.1
 have HB35 : Hid (Below w3.heap.size w3 w5):=HB34.out.trans (hb5.mono HB34.out.size)
 have X5:=hid (X4.out.low hb5)
 clear ho hb5 hn2 hm2 HT2 x0 x1 x2 x3 x4 HO1 X4
 obtain ⟨x0,x1,x2,x3,x4⟩:=c5w X5.out
 go_wp2_with fail
 with_reducible refine (HT3.out _ HB35.out).mono ?_
 rintro e6 w6 ⟨v1,v2,rfl,ho,hb6⟩
 obtain ⟨a5,c5,rfl⟩:=ho.sl1
 obtain ⟨a6,c6,rfl⟩:=ho.sl2
 obtain ⟨n3,hn3⟩ : ∃ z,Z.length=z:=⟨_,rfl⟩
 obtain ⟨m3,hm3⟩ : ∃ z,O.length=z:=⟨_,rfl⟩
 rw [hn3,hm3] at ho ⊢
 rw [hm3] at HCN HOL
 rw [hn3] at HZL
 have HN3:=hid hn3
 have HM3:=hid hm3
 have HO3:=hid ho.ovI.rows
 have HB36 : Hid (Below w3.heap.size w3 w6):=HB35.out.trans (hb6.mono HB35.out.size)
 have X6:=hid (X5.out.low hb6)
 have HOY:=hid (HO2.out.low hb6)
 have hn3r : n3≤rn:=HZL.out
 have hm3r : m3≤rn:=HOL.out
 have HBW : Hid (Below w.heap.size w w6):=HB3.out.trans (HB36.out.mono HB3.out.size)
 clear ho hb6 hn3 hm3 HT3 x0 x1 x2 x3 x4 HO2 X5 X3 HB34 HB35 HB36 HB3
 go_wp2_with fail
 go_loopw [16] (fun i wr=>∃ k : Nat,i=.int .i64 k∧k≤n3∧Hid (Below w6.heap.size w6 wr)) (fun i _=>n3 - (RowKit.intOf i).toNat)
 case atStart=>exact ⟨0,rfl,Nat.zero_le _,Below.refl _ _⟩
 case round =>
  obtain ⟨k,rfl,hk,HB⟩:=hrel
  by_cases hlt : k < n3
  ·obtain ⟨z,hz⟩ : ∃ z,Z[k]?=some z:=⟨_,List.getElem?_eq_getElem (by rw [HN3.out];exact hlt)⟩
   obtain ⟨g1,o1,ba,bc,rfl,c0,c1,hbd⟩:=(HO3.out.1.low HB.out).runAt hz
   have hlf:=HLF.out z (List.mem_of_getElem? hz)
   have HFI : Hid (∀ W,Below wr.heap.size wr W→Calls Tryz.prog 31 #[.agg #[.int .i64 z.place,.slice ba z.bound.length bc]] W fun ew w'=>ew=.returned (.int .i64 (firstR z.bound))∧Below W.heap.size W w'):=fun W hW=>za2 (hbd.low hW) _
   obtain ⟨ln,hln⟩ : ∃ s,z.bound.length=s:=⟨_,rfl⟩
   obtain ⟨pl,hpl⟩ : ∃ s,z.place=s:=⟨_,rfl⟩
   obtain ⟨fi,hfi⟩ : ∃ s,firstR z.bound=s:=⟨_,rfl⟩
   obtain ⟨wi,hwi⟩ : ∃ s,p.within=s:=⟨_,rfl⟩
   rw [hln] at c1 HFI
   rw [hpl] at c0 HFI
   rw [hfi] at HFI hlf
   rw [hwi] at hlf
   have x2:=zab (X6.out.low HB.out) (k:=2) rfl
   have x2' : wr.cell? ⟨w.heap.size,2,none⟩=some (.int .i64 wi):=by rw [← hwi];exact x2
   obtain ⟨hf1,hf2,hf3,hf4,hf5⟩:=hlf
   have hk0 : (0 : Int)≤(k : Int):=by omega
   have hk1 : (k : Int) < (n3 : Int):=by omega
   have hsum : IntKind.i64.wrap (fi+wi)=fi+wi:=IntWalk.i64_in _ (by omega)
   have td : decide (fi+wi≤y)=false:=decide_eq_false (by omega)
   clear hz hbd hln hpl hfi hwi x2
   go_upto_region 10 with fail
   replace c0 : wr.drew.cell? ⟨g1,o1+k*2,none⟩=some (.int .i64 pl):=c0
   replace c1 : wr.drew.cell? ⟨g1,o1+k*2+1,none⟩=some (.slice ba ln bc):=c1
   replace x2' : wr.drew.cell? ⟨w.heap.size,2,none⟩=some (.int .i64 wi):=x2'
   have dd : Hid (Below wr.heap.size wr wr.drew):=zae (Below.refl _ _)
   refine wp_region_held_drew (S:=fun W=>(W.cell? ⟨g1,o1+k*2,none⟩=some (.int .i64 pl))∧(W.cell? ⟨g1,o1+k*2+1,none⟩=some (.slice ba ln bc))∧(W.cell? ⟨w.heap.size,2,none⟩=some (.int .i64 wi))∧(Hid (Below wr.heap.size wr W))) (by kernel_rfl) ⟨c0,c1,x2',dd⟩ (fun hHeld=>?_)
   refine rK 0 66 (h:=?_)
   try simp only [Act.put,rI,rZ,rS]
   refine rK 1 67 (h:=?_)
   try simp only [Act.put,rI,rZ,rS]
   refine rK 2 68 (h:=?_)
   try simp only [Act.put,rI,rZ,rS]
   refine rK 3 69 (h:=?_)
   try simp only [Act.put,rI,rZ,rS]
   refine rK 5 71 (h:=?_)
   try simp only [Act.put,rI,rZ,rS]
   refine rK 6 72 (h:=?_)
   try simp only [Act.put,rI,rZ,rS]
   refine rK 8 74 (h:=?_)
   try simp only [Act.put,rI,rZ,rS]
   refine rA 4 (h:=fun K hK=>?_)
   dsimp only [List.getElem_toArray,List.getElem_cons_succ,List.getElem_cons_zero]
   go_simp
   go_at_call 31
   with_reducible refine (HFI.out _ dd.out).mono ?_
   rintro ef w8 ⟨rfl,hb⟩
   replace c0:=zaa hb c0
   replace c1:=zaa hb c1
   replace x2':=zaa hb x2'
   replace dd : Hid (Below wr.heap.size wr w8):=dd.out.trans (hb.mono dd.out.size)
   clear hb
   go_wp2_with fail
   refine hK.out _ _ ⟨c0,c1,x2',dd⟩ (fun hHeld=>?_)
   clear hK K
   try simp only [Act.put,rI,rZ,rS]
   refine rK 7 73 (h:=?_)
   try simp only [Act.put,rI,rZ,rS]
   refine rK 9 75 (h:=?_)
   try simp only [Act.put,rI,rZ,rS]
   refine wpAnyH_done (by kernel_rfl) ?_ _
   go_wp2
   go_roundw
   case rel=>exact ⟨k+1,by go_num,by omega,HB.out.trans (dd.out.mono HB.out.size)⟩
   case measure=>simp [RowKit.intOf];omega
  ·obtain ⟨w7,hw7⟩ : ∃ w7,w7=wr:=⟨_,rfl⟩
   rw [← hw7] at HB ⊢
   clear hw7
   go_wp2_with fail
   go_loopw [17] (fun i wr=>∃ k : Nat,i=.int .i64 k∧k≤m3∧wr=w7) (fun i _=>m3 - (RowKit.intOf i).toNat)
   case atStart=>exact ⟨0,rfl,Nat.zero_le _,rfl⟩
   case round =>
    obtain ⟨k2,rfl,hk2,rfl⟩:=hrel
    by_cases hlt2 : k2 < m3
    ·obtain ⟨z,hz⟩ : ∃ z,O[k2]?=some z:=⟨_,List.getElem?_eq_getElem (by rw [HM3.out];exact hlt2)⟩
     obtain ⟨g1,o1,ba,bc,rfl,c0,c1,hbd⟩:=(HO3.out.2.low HB.out).mtAt hz
     have hdn:=HDN.out z (List.mem_of_getElem? hz)
     obtain ⟨dn,hdn2⟩ : ∃ s,z.done=s:=⟨_,rfl⟩
     rw [hdn2] at c0 hdn
     have hk0 : (0 : Int)≤(k2 : Int):=by omega
     have hk1 : (k2 : Int) < (m3 : Int):=by omega
     have td : decide (y < dn)=false:=decide_eq_false (by omega)
     clear hz hbd hdn2 c1
     go_wp2
     go_roundw
     case rel=>exact ⟨k2+1,by go_num,by omega,by first|rfl|trivial⟩
     case measure=>simp [RowKit.intOf];omega
    ·have HSR : Hid (Calls Tryz.prog 28 #[.slice a3 n2 c3,.slice a5 n3 c5] wr fun e w'=>e=.returned (.bool true)∧Below wr.heap.size wr w'):=by
      have h1:=HOY.out.low HB.out
      rw [HYZ.out] at h1
      exact zdf h1 (HO3.out.1.low HB.out) (by rw [HN3.out];omega) (fun r hr=>(HSZ.out.2 r hr).cm)
     have hc1 : ((m1 : Int)+(m2 : Int) == (m3 : Int))=true:=by have h:=HCN.out;simp;omega
     have hc2 : m1+m2=m3:=HCN.out
     have hc3 : decide ((n3 : Int)≤(rn : Int))=true:=by simp;omega
     have hc4 : decide (n3≤rn)=true:=by simp;omega
     go_wp2_with (go_at_call 28;(with_reducible refine HSR.out.mono ?_);rintro e w9 ⟨rfl,hb⟩;have HB9:=hid hb;clear hb)
     go_ret
     exact ⟨by simp <;> omega,HBW.out.trans ((HB.out.trans (HB9.out.mono HB.out.size)).mono HBW.out.size)⟩
end Go.Proofs.YtkmlfkbpcgkpaaaGreatDoor
