/- Texts that others want. -/
import Derived.Test.YtkmlfkbpcgkpaaaGreatDoorP0
import Derived.Test.YtkmlfkbpcgkpaaaGreatDoorMC
import Derived.Test.YtkmlfkbpcgkpaaaGreatDoorMM
import Derived.Laws.AppendOwnNone
import Derived.Test.YtkmlfkbpcgkpaaaGreatDoorML
import Derived.Test.YtkmlfkbpcgkpaaaGreatDoorM7
import Derived.Test.YtkmlfkbpcgkpaaaGreatDoorM4
import Derived.Test.YtkmlfkbpcgkpaaaGreatDoorMK
import Derived.Deep.RegionHeld3
import Derived.ProofKit
import Derived.OpenShut
import Derived.ShutString
import Derived.SizedLaws
namespace Go.Proofs.YtkmlfkbpcgkpaaaGreatDoor
open Go.RowKit Go.Lib Go.Op
set_option maxHeartbeats 8000000
set_option maxRecDepth 100000
theorem ze6 (a : Option Addr) (c : Nat) (xs : List SIn) (w : World) (hv : SRow w a xs) (hl : xs.length≤maxLen) :
 Calls Tryz.prog 16 #[.slice a xs.length c] w (GreatP w):=by
 have HV:=hid hv
 obtain ⟨l,hll⟩ : ∃ l,xs.length=l:=⟨_,rfl⟩
 rw [hll] at hl ⊢
 have Hl:=hid hll
 unfold maxLen at hl
 clear hv hll
 go_enter Tryz.func16,Tryz.ntmps16
 go_wp2
 go_loopw [3,4,5] (fun n i j wr=>∃ (k : Nat) (m : Int),i=.int .i64 k∧k≤l∧n=.int .i64 m∧Hid (Below w.heap.size w wr)) (fun _ i _ _=>l - (RowKit.intOf i).toNat)
 case atStart=>exact ⟨0,_,rfl,Nat.zero_le _,rfl,Below.refl _ _⟩
 case round =>
  obtain ⟨k,m,rfl,hk,rfl,HB⟩:=hrel
  by_cases hlt : k < l
  ·by_cases hm : m < 9000
   ·obtain ⟨x,hx⟩ : ∃ x,xs[k]?=some x:=⟨_,List.getElem?_eq_getElem (by rw [Hl.out];exact hlt)⟩
    obtain ⟨A,rfl,c0,c1,hfr,hfl,hs⟩:=(HV.out.below HB.out) k x hx
    obtain ⟨nm,fa,fc,fs⟩:=x
    dsimp only at c0 c1 hs hfr hfl
    unfold efld at c1
    have HFr:=hid hfr
    obtain ⟨f,hff⟩ : ∃ f,fs.length=f:=⟨_,rfl⟩
    have Hf:=hid hff
    rw [hff] at c1 hfl
    have hd : decide (m < 9000)=true:=by simpa using hm
    have hk0 : (0 : Int)≤(k : Int):=by omega
    have hk1 : (k : Int) < (l : Int):=by omega
    unfold maxLen at hfl hs
    have Hx:=hid hx
    clear hx hff hfr
    go_upto_region 5 with fail
    go_quiet (fail)
    go_wp2
    go_loopw [3,5] (fun n j wr=>∃ (k2 : Nat) (m2 : Int),j=.int .i64 k2∧k2≤f∧n=.int .i64 m2∧Hid (Below w.heap.size w wr)) (fun _ j _=>f - (RowKit.intOf j).toNat)
    case atStart=>exact ⟨0,_,rfl,Nat.zero_le _,rfl,zaF HB.out _⟩
    case round =>
     obtain ⟨k2,m2,rfl,hk2,rfl,HB2⟩:=hrel
     clear c0 c1
     obtain ⟨A',e1,c0,c1,hfr2,_⟩:=(HV.out.below HB2.out) k _ Hx.out
     injection e1 with e1
     subst e1
     dsimp only at c0 c1 hfr2
     unfold efld at c1
     rw [Hf.out] at c1
     by_cases hlt2 : k2 < f
     ·by_cases hm2 : m2 < 9000
      ·obtain ⟨y,hy⟩ : ∃ y,fs[k2]?=some y:=⟨_,List.getElem?_eq_getElem (by rw [Hf.out];exact hlt2)⟩
       obtain ⟨Bf,rfl,d0,d1,hs2⟩:=hfr2 k2 y hy
       have hd2 : decide (m2 < 9000)=true:=by simpa using hm2
       have hj0 : (0 : Int)≤(k2 : Int):=by omega
       have hj1 : (k2 : Int) < (f : Int):=by omega
       clear hy hfr2
       unfold maxLen at hs2
       go_wp2
       go_roundw
       case rel=>exact ⟨k2+1,_,by go_num,by omega,rfl,HB2⟩
       case measure=>simp [RowKit.intOf];omega
      ·have hd2 : decide (m2 < 9000)=false:=by simpa using hm2
       clear hfr2
       go_wp2
       go_roundw
       case rel=>exact ⟨k+1,_,by go_num,by omega,rfl,HB2⟩
       case measure=>simp [RowKit.intOf];omega
     ·clear hfr2
      go_wp2
      go_roundw
      case rel=>exact ⟨k+1,_,by go_num,by omega,rfl,HB2⟩
      case measure=>simp [RowKit.intOf];omega
   ·have hd : decide (m < 9000)=false:=by simpa using hm
    go_wp2
    go_ret
    exact ⟨_,rfl,HB.out⟩
  ·go_wp2
   go_ret
   exact ⟨_,rfl,HB.out⟩
theorem SmR.cm {n : Nat} {b : List (List PEv)} (h : SmR n b) (hn : n≤1000) : CmB b:=⟨by have:=h.1;omega,fun l hl=>⟨by have:=(h.2 l hl).1;omega,fun e he=>by have:=(h.2 l hl).2 e he;omega⟩⟩
theorem zje {A : List (List PEv)→Nat→Bool} {p : PQu} {l : List PEv} {t : Int} (hl : l.length≤60) (hv : ∀ e∈l,e.vals.length≤20) : ∀ m∈allP A p l t,CmB m.bound:=fun m hm=>by
 have h:=zjT (A:=A) (q:=p) (l:=l.reverse) (fun e he=>hv e (List.mem_reverse.1 he))
 have hn : l.reverse.length≤1000:=by rw [List.length_reverse];omega
 rcases List.mem_append.1 hm with hm|hm
 ·exact (h.2 m hm).cm hn
 ·exact ((zih h.1).2 m hm).cm hn
theorem zgY (w : World) {a b sa ea : Option Addr} {q c r e sc en ec : Nat} {p : PQu} {xs : List SIn} {ev : List PEv} (hs : SRow w sa xs) (hsl : xs.length≤maxLen) (h : QuAt (fun _=>False) w a q c b r e p) (hl : QLn p) (he : RowK evD (fun _=>False) w (.slice ea en ec) ev) (hel : LnE ev) (t : Int) (ht : -9223372036854775808≤t∧t≤9223372036854775807) :
 Calls Tryz.prog 6 #[.slice sa xs.length sc,.agg #[.slice a q c,.slice b r e,.int .i64 p.within,.string (strB p.by_),.int .i64 p.pick],.slice ea en ec,.int .i64 t] w fun ed w'=>ed=.returned (.bool true)∧Below w.heap.size w w':=by
 obtain ⟨w0,hw0⟩ : ∃ w0,w.alloc (.cells #[.slice a q c,.slice b r e,.int .i64 p.within,.string (strB p.by_),.int .i64 p.pick] 26)=w0:=⟨_,rfl⟩
 have HB0 : Hid (Below w.heap.size w w0):=by rw [← hw0];exact (Below.refl w.heap.size w).alloc (Nat.le_refl _) _
 have HX : Hid (Blk w0 w.heap.size #[.slice a q c,.slice b r e,.int .i64 p.within,.string (strB p.by_),.int .i64 p.pick] 26):=by rw [← hw0];exact Blk.new w #[.slice a q c,.slice b r e,.int .i64 p.within,.string (strB p.by_),.int .i64 p.pick] 26
 have HW0:=hid hw0
 have HQ:=hid h
 have HL:=hid hl
 have HE:=hid he
 have HEL:=hid hel
 have HSR:=hid hs
 have HSL:=hid hsl
 have HEN:=hid he.len
 have hq3 : r≤140737488355328:=by rw [h.2.len];exact hl.2.2.2.2
 have hq4 : q≤140737488355328:=by rw [h.1.len];exact hl.2.2.2.1
 have hen : en≤140737488355328:=by rw [he.len];exact hel.1
 have HQL:=hid h.1.len
 have HQR:=hid h.2.len
 have HH:=hid (zcM (w:=w0))
 obtain ⟨sn,hsn⟩ : ∃ z,xs.length=z:=⟨_,rfl⟩
 have HSN:=hid hsn
 have hsn2 : sn≤maxLen:=by rw [← hsn];exact hsl
 unfold maxLen at hsn2
 rw [hsn]
 clear h hl he hel hs hsl hw0 hsn
 go_enter Tryz.func6,Tryz.ntmps6
 go_wp2_with fail
 rw [HW0.out]
 with_reducible refine HH.out.mono ?_
 rintro e1 w1 ⟨rfl,hb1⟩
 have HB1:=hid (HB0.out.trans (hb1.mono HB0.out.size))
 have X1:=hid (HX.out.low hb1)
 clear hb1 HH HX HB0
 have HGS : Hid (Calls Tryz.prog 16 #[.slice sa sn sc] w1 (GreatP w1)):=by
  have h:=ze6 sa sc xs w1 (HSR.out.below HB1.out) HSL.out
  rw [HSN.out] at h
  exact h
 go_wp2_with fail
 with_reducible refine HGS.out.mono ?_
 rintro e2 w2 ⟨g,rfl,hb2⟩
 have HB2:=hid (HB1.out.trans (hb2.mono HB1.out.size))
 have X2:=hid (X1.out.low hb2)
 clear hb2 HGS X1 HB1
 cases g with
 | true =>
   go_wp2
   go_ret
   exact ⟨rfl,HB2.out⟩
 | false =>
 obtain ⟨x0,x1,x2,x3,x4⟩:=c5w X2.out
 have HG:=hid (zcE (w:=w2) ⟨HQ.out.1.low HB2.out,HQ.out.2.low HB2.out⟩ HL.out)
 go_wp2_with fail
 with_reducible refine HG.out.mono ?_
 rintro e3 w3 ⟨g,rfl,hsm,hb3⟩
 have HB3:=hid (HB2.out.trans (hb3.mono HB2.out.size))
 have X3:=hid (X2.out.low hb3)
 clear hb3 HG X2 HB2 x0 x1 x2 x3 x4
 cases g with
 | true =>
   clear hsm
   go_wp2
   go_ret
   exact ⟨rfl,HB3.out⟩
 | false =>
 have HS:=hid (hsm rfl).bd
 clear hsm
 have HGE:=hid (zd5 (HE.out.low HB3.out) HEL.out)
 go_wp2_with fail
 with_reducible refine HGE.out.mono ?_
 rintro e4 w4 ⟨g,rfl,hsm,hb4⟩
 have HB4:=hid (HB3.out.trans (hb4.mono HB3.out.size))
 have X4:=hid (X3.out.low hb4)
 clear hb4 HGE X3 HB3
 cases g with
 | true =>
   clear hsm
   go_wp2
   go_ret
   exact ⟨rfl,HB4.out⟩
 | false =>
 have HSE:=hid (hsm rfl)
 clear hsm
 have HSO:=hid (ze5 (HE.out.low HB4.out) HEL.out)
 go_wp2_with fail
 with_reducible refine HSO.out.mono ?_
 rintro e5 w5 ⟨g,rfl,hb5⟩
 have HB5:=hid (HB4.out.trans (hb5.mono HB4.out.size))
 have X5:=hid (X4.out.low hb5)
 clear hb5 HSO X4 HB4
 cases g with
 | false =>
   go_wp2
   go_ret
   exact ⟨rfl,HB5.out⟩
 | true =>
 obtain ⟨x0,x1,x2,x3,x4⟩:=c5w X5.out
 have hr:=zbD (fun _=>False) w5 a b q c r e p ⟨HQ.out.1.low HB5.out,HQ.out.2.low HB5.out⟩ HS.out
 obtain ⟨z,hz⟩ : ∃ z,rightQ p=z:=⟨_,rfl⟩
 rw [hz] at hr
 have HR:=hid hr
 have HZ:=hid hz
 clear hr hz
 go_wp2_with fail
 with_reducible refine HR.out.mono ?_
 rintro e6 w6 ⟨rfl,hb6⟩
 have HB6:=hid (HB5.out.trans (hb6.mono HB5.out.size))
 have X6:=hid (X5.out.low hb6)
 clear hb6 HR X5 HB5 x0 x1 x2 x3 x4
 cases z with
 | false =>
   go_wp2
   go_ret
   exact ⟨rfl,HB6.out⟩
 | true =>
 obtain ⟨x0,x1,x2,x3,x4⟩:=c5w X6.out
 by_cases h10 : 10 < en
 ·have t1 : decide ((10 : Int) < (en : Int))=true:=by simp;omega
  go_wp2
  go_ret
  exact ⟨rfl,HB6.out⟩
 have t1 : decide ((10 : Int) < (en : Int))=false:=by simp;omega
 by_cases hr0 : 0 < r
 ·have t2 : decide ((0 : Int) < (r : Int))=true:=by simp;omega
  go_wp2
  go_ret
  exact ⟨rfl,HB6.out⟩
 obtain rfl : r=0:=by omega
 have t2 : decide ((0 : Int) < ((0 : Nat) : Int))=false:=by decide
 clear hr0
 go_wp2_with fail
 go_loopw [10] (fun i wr=>∃ k : Nat,i=.int .i64 k∧k≤q∧wr=w6) (fun i _=>q - (RowKit.intOf i).toNat)
 case atStart=>exact ⟨0,rfl,Nat.zero_le _,rfl⟩
 case round =>
  obtain ⟨k,rfl,hk,rfl⟩:=hrel
  by_cases hlt : k < q
  ·obtain ⟨i,hi⟩ : ∃ i,p.its[k]?=some i:=⟨_,List.getElem?_eq_getElem (by rw [← HQL.out];exact hlt)⟩
   obtain ⟨g1,o1,na,nc,rfl,i0,i1,i2,i3,_,_⟩:=RowK.itemAt (HQ.out.1.low HB6.out) hi
   obtain ⟨no,hno⟩ : ∃ z,i.no=z:=⟨_,rfl⟩
   rw [hno] at i0
   have hk0 : (0 : Int)≤(k : Int):=by omega
   have hk1 : (k : Int) < (q : Int):=by omega
   clear hi hno i1 i2 i3
   cases no with
   | true =>
     go_wp2
     go_ret
     exact ⟨rfl,HB6.out⟩
   | false =>
     go_wp2
     go_roundw
     case rel=>exact ⟨k+1,by go_num,by omega,by first|rfl|trivial⟩
     case measure=>simp [RowKit.intOf];omega
  ·obtain ⟨pa,hpa⟩ : ∃ pa : PQu,pa=⟨p.its,p.prs,p.within,p.by_,1⟩:=⟨_,rfl⟩
   obtain ⟨pb,hpb⟩ : ∃ pb : PQu,pb=⟨p.its,p.prs,p.within,p.by_,2⟩:=⟨_,rfl⟩
   have HPA:=hid hpa
   have HPB:=hid hpb
   have hev : ev.length≤60∧∀ e∈ev,e.vals.length≤20:=⟨by have:=HSE.out.1;omega,HSE.out.2⟩
   have HEV:=hid hev
   obtain ⟨LX,hLX⟩ : ∃ LX,allP hqA pa ev t=LX:=⟨_,rfl⟩
   obtain ⟨LY,hLY⟩ : ∃ LY,allP hqA pb ev t=LY:=⟨_,rfl⟩
   have HSUB : Hid (LY.Sublist LX):=by
    rw [← hLX,← hLY]
    refine zjQ ?_ ?_ ?_ ?_ ?_ ev t
    ·rw [hpa,hpb]
    ·rw [hpa,hpb]
    ·rw [hpa,hpb];rfl
    ·rw [hpb]
    ·rw [hpa]
   have HCX : Hid (∀ m∈LX,CmB m.bound):=by rw [← hLX];exact zje hev.1 hev.2
   have HCY : Hid (∀ m∈LY,CmB m.bound):=by rw [← hLY];exact zje hev.1 hev.2
   obtain ⟨w7,hw7⟩ : ∃ w7,(wr.alloc (.cells #[.slice a q c,.slice b 0 e,.int .i64 p.within,.string (strB p.by_),.int .i64 1] 26)).alloc (.cells #[.slice a q c,.slice b 0 e,.int .i64 p.within,.string (strB p.by_),.int .i64 2] 26)=w7:=⟨_,rfl⟩
   have HB67 : Hid (Below wr.heap.size wr w7):=by rw [← hw7];exact ((Below.refl _ _).alloc (Nat.le_refl _) _).alloc (by simp) _
   have HXA : Hid (Blk w7 wr.heap.size #[.slice a q c,.slice b 0 e,.int .i64 p.within,.string (strB p.by_),.int .i64 1] 26):=by
    rw [← hw7]
    exact (Blk.new wr #[.slice a q c,.slice b 0 e,.int .i64 p.within,.string (strB p.by_),.int .i64 1] 26).low ((Below.refl _ _).alloc (Nat.le_refl _) _)
   have HXB : Hid (Blk w7 (wr.heap.size+1) #[.slice a q c,.slice b 0 e,.int .i64 p.within,.string (strB p.by_),.int .i64 2] 26):=by
    rw [← hw7]
    have h1:=Blk.new (wr.alloc (.cells #[.slice a q c,.slice b 0 e,.int .i64 p.within,.string (strB p.by_),.int .i64 1] 26)) #[.slice a q c,.slice b 0 e,.int .i64 p.within,.string (strB p.by_),.int .i64 2] 26
    rw [World.size_alloc] at h1
    exact h1
   have HW7:=hid hw7
   have HB7:=hid (HB6.out.trans (HB67.out.mono HB6.out.size))
   have HAX : Hid (∀ W,Below w7.heap.size w7 W→Calls Tryz.prog 21 #[.slice sa sn sc,.agg #[.slice a q c,.slice b 0 e,.int .i64 p.within,.string (strB p.by_),.int .i64 1],.slice ea en ec,.int .i64 t] W (AllTo LX W)):=fun W hW=>by
    have hb:=HB7.out.trans (hW.mono HB7.out.size)
    have h:=ze4 (K:=fun _=>False) (w:=W) (sa:=sa) (sn:=sn) (sc:=sc) (p:=pa) (qa:=a) (q:=q) (qc:=c) (qb:=b) (d:=e) (by rw [HPA.out];exact ⟨HQ.out.1.low hb,HQ.out.2.low hb⟩) (by rw [HPA.out];exact HS.out) (HE.out.low hb) HEV.out t ht
    rw [hLX,HPA.out] at h
    exact h
   have HAY : Hid (∀ W,Below w7.heap.size w7 W→Calls Tryz.prog 21 #[.slice sa sn sc,.agg #[.slice a q c,.slice b 0 e,.int .i64 p.within,.string (strB p.by_),.int .i64 2],.slice ea en ec,.int .i64 t] W (AllTo LY W)):=fun W hW=>by
    have hb:=HB7.out.trans (hW.mono HB7.out.size)
    have h:=ze4 (K:=fun _=>False) (w:=W) (sa:=sa) (sn:=sn) (sc:=sc) (p:=pb) (qa:=a) (q:=q) (qc:=c) (qb:=b) (d:=e) (by rw [HPB.out];exact ⟨HQ.out.1.low hb,HQ.out.2.low hb⟩) (by rw [HPB.out];exact HS.out) (HE.out.low hb) HEV.out t ht
    rw [hLY,HPB.out] at h
    exact h
   obtain ⟨y0,y1,y2,y3,y4⟩:=c5w (X6.out.low ((Below.refl wr.heap.size wr).alloc (Nat.le_refl _) (.cells #[.slice a q c,.slice b 0 e,.int .i64 p.within,.string (strB p.by_),.int .i64 p.pick] 26)))
   clear hpa hpb hev hLX hLY hw7
   go_wp2_with fail
   clear hk hlt y0 y1 y2 y3 y4
   rw [HW7.out]
   with_reducible refine (HAX.out _ (Below.refl _ _)).mono ?_
   rintro e8 w8 ⟨ax,nx,cx,zx,rfl,hx,hb8⟩
   have HRX:=hid hx
   have HB78:=hid hb8
   clear hx hb8 x0 x1 x2 x3 x4 HAX
   obtain ⟨x0,x1,x2,x3,x4⟩:=c5w (HXB.out.low HB78.out)
   go_wp2_with fail
   with_reducible refine (HAY.out _ HB78.out).mono ?_
   rintro e9 w9 ⟨ay,ny,cy,zy,rfl,hy,hb9⟩
   have HRY:=hid hy
   have HB89:=hid hb9
   have HB9 : Hid (Below w.heap.size w w9):=HB7.out.trans ((HB78.out.trans (hb9.mono HB78.out.size)).mono HB7.out.size)
   clear hy hb9 x0 x1 x2 x3 x4 HAY
   cases zx with
   | false =>
     go_wp2
     go_ret
     exact ⟨rfl,HB9.out⟩
   | true =>
   cases zy with
   | false =>
     go_wp2
     go_ret
     exact ⟨rfl,HB9.out⟩
   | true =>
   have hnx : nx≤2000:=(HRX.out (by first|rfl|trivial)).2
   have HX9 : Hid (RowK mtD (fun _=>False) w9 (.slice ax nx cx) LX):=(HRX.out (by first|rfl|trivial)).1.low HB89.out
   have HY9 : Hid (RowK mtD (fun _=>False) w9 (.slice ay ny cy) LY):=(HRY.out (by first|rfl|trivial)).1
   have HNX:=hid HX9.out.len
   have HNY:=hid HY9.out.len
   have hxy : ny≤nx:=by rw [HX9.out.len,HY9.out.len];exact HSUB.out.length_le
   clear HRX HRY HXA HXB HW7 HB67 HB7 HB78 HB89
   go_wp2_with fail
   go_loopw [17,18,19] (fun i _ _ wr=>∃ k : Nat,i=.int .i64 k∧k≤ny∧Hid (Below w9.heap.size w9 wr)) (fun i _ _ _=>ny - (RowKit.intOf i).toNat)
   case atStart=>exact ⟨0,rfl,Nat.zero_le _,Below.refl _ _⟩
   case round =>
    obtain ⟨k,rfl,hk,HB⟩:=hrel
    obtain ⟨wo,rfl⟩ : ∃ wo,wo=wr:=⟨_,rfl⟩
    by_cases hlt : k < ny
    ·obtain ⟨y,hy⟩ : ∃ y,LY[k]?=some y:=⟨_,List.getElem?_eq_getElem (by rw [← HNY.out];exact hlt)⟩
     have HJ : Hid (∃ j,j < nx∧LX[j]?=some y):=by
      have hm:=HSUB.out.subset (List.mem_of_getElem? hy)
      obtain ⟨j,hj,e⟩:=List.mem_iff_getElem.1 hm
      exact ⟨j,by rw [HNX.out];exact hj,by rw [← e];exact List.getElem?_eq_getElem hj⟩
     obtain ⟨j0,hj0,hj1⟩:=HJ.out
     have HJ1:=hid hj1
     obtain ⟨g2,o2,ub,uc,rfl,d0,d1,hyb⟩:=(HY9.out.low HB.out).mtAt hy
     have hyc:=HCY.out y (List.mem_of_getElem? hy)
     have D0:=hid d0
     have D1:=hid d1
     have HYB:=hid hyb
     have HYC:=hid hyc
     obtain ⟨ln2,hln2⟩ : ∃ z,y.bound.length=z:=⟨_,rfl⟩
     obtain ⟨dn2,hdn2⟩ : ∃ z,y.done=z:=⟨_,rfl⟩
     have HDN2:=hid hdn2
     rw [hln2] at D1 HYB
     rw [hdn2] at D0
     have hk0 : (0 : Int)≤(k : Int):=by omega
     have hk1 : (k : Int) < (ny : Int):=by omega
     clear hy hj1 d0 d1 hyb hyc hln2 hdn2 HJ
     have HBO : Hid (Below wo.heap.size wo wo):=Below.refl _ _
     go_wp2_with fail
     go_loopw [18,19] (fun s i wr=>∃ (k2 : Nat) (z : Bool),i=.int .i64 k2∧k2≤nx∧s=.bool z∧Hid (j0 < k2→z=true)∧Hid (Below wo.heap.size wo wr)) (fun _ i _=>nx - (RowKit.intOf i).toNat)
     case atStart=>exact ⟨0,false,rfl,Nat.zero_le _,rfl,fun h=>absurd h (Nat.not_lt_zero _),HBO⟩
     case round =>
      obtain ⟨k2,z,rfl,hk2,rfl,HT,HB2⟩:=hrel
      clear HBO
      by_cases hlt2 : k2 < nx
      ·obtain ⟨x,hx⟩ : ∃ x,LX[k2]?=some x:=⟨_,List.getElem?_eq_getElem (by rw [← HNX.out];exact hlt2)⟩
       have hb92:=HB.out.trans (HB2.out.mono HB.out.size)
       obtain ⟨g1,o1,vb,vc,rfl,c0,c1,hxb⟩:=(HX9.out.low hb92).mtAt hx
       have hxc:=HCX.out x (List.mem_of_getElem? hx)
       have d0:=zaa HB2.out D0.out
       have d1:=zaa HB2.out D1.out
       have HC : Hid (∀ W,Below wr.heap.size wr W→Calls Tryz.prog 32 #[.slice vb x.bound.length vc,.slice ub ln2 uc] W (SmTo x.bound y.bound W)):=fun W hW=>zbv (hxb.low hW) ((HYB.out.low HB2.out).low hW) hxc HYC.out
       have HXY : Hid (j0=k2→x=y):=fun e=>by
        have h:=HJ1.out
        rw [e,hx] at h
        exact Option.some.inj h
       obtain ⟨ln1,hln1⟩ : ∃ z,x.bound.length=z:=⟨_,rfl⟩
       obtain ⟨dn1,hdn1⟩ : ∃ z,x.done=z:=⟨_,rfl⟩
       have HDN1:=hid hdn1
       rw [hln1] at c1 HC
       rw [hdn1] at c0
       have hi0 : (0 : Int)≤(k2 : Int):=by omega
       have hi1 : (k2 : Int) < (nx : Int):=by omega
       clear hx hb92 hxb hxc hln1 hdn1
       cases z with
       | true =>
         go_upto_region 24 with fail
         replace c0 : wr.drew.cell? ⟨g1,o1+k2*2,none⟩=some (.int .i64 dn1):=c0
         replace c1 : wr.drew.cell? ⟨g1,o1+k2*2+1,none⟩=some (.slice vb ln1 vc):=c1
         replace d0 : wr.drew.cell? ⟨g2,o2+k*2,none⟩=some (.int .i64 dn2):=d0
         replace d1 : wr.drew.cell? ⟨g2,o2+k*2+1,none⟩=some (.slice ub ln2 uc):=d1
         have dd : Hid (Below wr.heap.size wr wr.drew):=zae (Below.refl _ _)
         refine wp_region_held_drew (S:=fun W=>(W.cell? ⟨g1,o1+k2*2,none⟩=some (.int .i64 dn1))∧(W.cell? ⟨g1,o1+k2*2+1,none⟩=some (.slice vb ln1 vc))∧(W.cell? ⟨g2,o2+k*2,none⟩=some (.int .i64 dn2))∧(W.cell? ⟨g2,o2+k*2+1,none⟩=some (.slice ub ln2 uc))∧(Hid (Below wr.heap.size wr W))) (by kernel_rfl) ⟨c0,c1,d0,d1,dd⟩ (fun hHeld=>?_)
         refine rL 0 106 (h:=?_)
         try simp only [Act.put,rI,rZ,rS]
         refine rL 1 107 (h:=?_)
         try simp only [Act.put,rI,rZ,rS]
         refine rP 2 108 (h:=?_)
         try simp only [Act.put,rI,rZ,rS]
         refine rP 3 109 (h:=?_)
         try simp only [Act.put,rI,rZ,rS]
         refine rP 4 110 (h:=?_)
         try simp only [Act.put,rI,rZ,rS]
         refine rP 5 111 (h:=?_)
         try simp only [Act.put,rI,rZ,rS]
         refine rP 6 112 (h:=?_)
         try simp only [Act.put,rI,rZ,rS]
         refine rP 7 113 (h:=?_)
         try simp only [Act.put,rI,rZ,rS]
         refine rP 8 114 (h:=?_)
         try simp only [Act.put,rI,rZ,rS]
         refine rP 9 115 (h:=?_)
         try simp only [Act.put,rI,rZ,rS]
         refine rP 10 116 (h:=?_)
         try simp only [Act.put,rI,rZ,rS]
         refine rP 11 117 (h:=?_)
         try simp only [Act.put,rI,rZ,rS]
         refine rP 12 118 (h:=?_)
         try simp only [Act.put,rI,rZ,rS]
         refine rP 13 119 (h:=?_)
         try simp only [Act.put,rI,rZ,rS]
         refine rP 14 120 (h:=?_)
         try simp only [Act.put,rI,rZ,rS]
         refine rP 15 121 (h:=?_)
         try simp only [Act.put,rI,rZ,rS]
         refine rP 16 122 (h:=?_)
         try simp only [Act.put,rI,rZ,rS]
         refine rP 17 123 (h:=?_)
         try simp only [Act.put,rI,rZ,rS]
         refine rP 18 124 (h:=?_)
         try simp only [Act.put,rI,rZ,rS]
         refine rP 19 125 (h:=?_)
         try simp only [Act.put,rI,rZ,rS]
         refine rP 20 126 (h:=?_)
         try simp only [Act.put,rI,rZ,rS]
         refine rP 21 127 (h:=?_)
         try simp only [Act.put,rI,rZ,rS]
         refine rP 22 128 (h:=?_)
         try simp only [Act.put,rI,rZ,rS]
         refine rP 23 129 (h:=?_)
         try simp only [Act.put,rI,rZ,rS]
         refine rP 24 130 (h:=?_)
         try simp only [Act.put,rI,rZ,rS]
         refine rP 25 131 (h:=?_)
         try simp only [Act.put,rI,rZ,rS]
         refine rL 26 132 (h:=?_)
         try simp only [Act.put,rI,rZ,rS]
         refine rL 27 18 (h:=?_)
         try simp only [Act.put,rI,rZ,rS]
         refine wpAnyH_done (by kernel_rfl) ?_ _
         go_wp2
         go_roundw
         case rel=>exact ⟨k2+1,true,by go_num,by omega,rfl,fun _=>rfl,HB2.out.trans (dd.out.mono HB2.out.size)⟩
         case measure=>simp [RowKit.intOf];omega
       | false =>
         have HTF : Hid (¬ j0 < k2):=fun h=>by have h2:=HT.out h;revert h2;simp
         by_cases hdd : dn1=dn2
         ·subst hdd
          go_upto_region 24 with fail
          replace c0 : wr.drew.cell? ⟨g1,o1+k2*2,none⟩=some (.int .i64 dn1):=c0
          replace c1 : wr.drew.cell? ⟨g1,o1+k2*2+1,none⟩=some (.slice vb ln1 vc):=c1
          replace d0 : wr.drew.cell? ⟨g2,o2+k*2,none⟩=some (.int .i64 dn1):=d0
          replace d1 : wr.drew.cell? ⟨g2,o2+k*2+1,none⟩=some (.slice ub ln2 uc):=d1
          have dd : Hid (Below wr.heap.size wr wr.drew):=zae (Below.refl _ _)
          refine wp_region_held_drew (S:=fun W=>(W.cell? ⟨g1,o1+k2*2,none⟩=some (.int .i64 dn1))∧(W.cell? ⟨g1,o1+k2*2+1,none⟩=some (.slice vb ln1 vc))∧(W.cell? ⟨g2,o2+k*2,none⟩=some (.int .i64 dn1))∧(W.cell? ⟨g2,o2+k*2+1,none⟩=some (.slice ub ln2 uc))∧(Hid (Below wr.heap.size wr W))) (by kernel_rfl) ⟨c0,c1,d0,d1,dd⟩ (fun hHeld=>?_)
          refine rL 0 106 (h:=?_)
          try simp only [Act.put,rI,rZ,rS]
          refine rL 1 107 (h:=?_)
          try simp only [Act.put,rI,rZ,rS]
          refine rL 2 108 (h:=?_)
          try simp only [Act.put,rI,rZ,rS]
          refine rL 3 109 (h:=?_)
          try simp only [Act.put,rI,rZ,rS]
          refine rL 4 110 (h:=?_)
          try simp only [Act.put,rI,rZ,rS]
          refine rL 5 111 (h:=?_)
          try simp only [Act.put,rI,rZ,rS]
          refine rK 6 112 (h:=?_)
          try simp only [Act.put,rI,rZ,rS]
          refine rL 7 113 (h:=?_)
          try simp only [Act.put,rI,rZ,rS]
          refine rL 8 114 (h:=?_)
          try simp only [Act.put,rI,rZ,rS]
          refine rL 9 115 (h:=?_)
          try simp only [Act.put,rI,rZ,rS]
          refine rL 10 116 (h:=?_)
          try simp only [Act.put,rI,rZ,rS]
          refine rK 11 117 (h:=?_)
          try simp only [Act.put,rI,rZ,rS]
          refine rL 12 118 (h:=?_)
          try simp only [Act.put,rI,rZ,rS]
          refine rL 13 119 (h:=?_)
          try simp only [Act.put,rI,rZ,rS]
          refine rL 14 120 (h:=?_)
          try simp only [Act.put,rI,rZ,rS]
          refine rL 15 121 (h:=?_)
          try simp only [Act.put,rI,rZ,rS]
          refine rL 16 122 (h:=?_)
          try simp only [Act.put,rI,rZ,rS]
          refine rL 17 123 (h:=?_)
          try simp only [Act.put,rI,rZ,rS]
          refine rK 18 124 (h:=?_)
          try simp only [Act.put,rI,rZ,rS]
          refine rL 19 125 (h:=?_)
          try simp only [Act.put,rI,rZ,rS]
          refine rL 20 126 (h:=?_)
          try simp only [Act.put,rI,rZ,rS]
          refine rL 21 127 (h:=?_)
          try simp only [Act.put,rI,rZ,rS]
          refine rL 22 128 (h:=?_)
          try simp only [Act.put,rI,rZ,rS]
          refine rK 23 129 (h:=?_)
          try simp only [Act.put,rI,rZ,rS]
          refine rA 24 (h:=fun K hK=>?_)
          dsimp only [List.getElem_toArray,List.getElem_cons_succ,List.getElem_cons_zero]
          go_simp
          go_at_call 32
          with_reducible refine (HC.out _ dd.out).mono ?_
          rintro ez wz ⟨z,rfl,hz,hb⟩
          have HZ:=hid hz
          replace c0:=zaa hb c0
          replace c1:=zaa hb c1
          replace d0:=zaa hb d0
          replace d1:=zaa hb d1
          replace dd : Hid (Below wr.heap.size wr wz):=dd.out.trans (hb.mono dd.out.size)
          clear hb hz
          go_wp2_with fail
          refine hK.out _ _ ⟨c0,c1,d0,d1,dd⟩ (fun hHeld=>?_)
          clear hK K
          try simp only [Act.put,rI,rZ,rS]
          refine rL 25 131 (h:=?_)
          try simp only [Act.put,rI,rZ,rS]
          refine rL 26 132 (h:=?_)
          try simp only [Act.put,rI,rZ,rS]
          refine rL 27 18 (h:=?_)
          try simp only [Act.put,rI,rZ,rS]
          refine wpAnyH_done (by kernel_rfl) ?_ _
          go_wp2
          go_roundw
          case rel=>exact ⟨k2+1,z,by go_num,by omega,rfl,fun h=>HZ.out (by rw [HXY.out (by have:=HTF.out;omega)]),HB2.out.trans (dd.out.mono HB2.out.size)⟩
          case measure=>simp [RowKit.intOf];omega
         ·have hdf : (dn1 == dn2)=false:=beq_eq_false_iff_ne.2 hdd
          have HNO : Hid (j0≠k2):=fun e=>hdd (by rw [← HDN1.out,← HDN2.out,HXY.out e])
          go_upto_region 24 with fail
          replace c0 : wr.drew.cell? ⟨g1,o1+k2*2,none⟩=some (.int .i64 dn1):=c0
          replace c1 : wr.drew.cell? ⟨g1,o1+k2*2+1,none⟩=some (.slice vb ln1 vc):=c1
          replace d0 : wr.drew.cell? ⟨g2,o2+k*2,none⟩=some (.int .i64 dn2):=d0
          replace d1 : wr.drew.cell? ⟨g2,o2+k*2+1,none⟩=some (.slice ub ln2 uc):=d1
          have dd : Hid (Below wr.heap.size wr wr.drew):=zae (Below.refl _ _)
          refine wp_region_held_drew (S:=fun W=>(W.cell? ⟨g1,o1+k2*2,none⟩=some (.int .i64 dn1))∧(W.cell? ⟨g1,o1+k2*2+1,none⟩=some (.slice vb ln1 vc))∧(W.cell? ⟨g2,o2+k*2,none⟩=some (.int .i64 dn2))∧(W.cell? ⟨g2,o2+k*2+1,none⟩=some (.slice ub ln2 uc))∧(Hid (Below wr.heap.size wr W))) (by kernel_rfl) ⟨c0,c1,d0,d1,dd⟩ (fun hHeld=>?_)
          refine rL 0 106 (h:=?_)
          try simp only [Act.put,rI,rZ,rS]
          refine rL 1 107 (h:=?_)
          try simp only [Act.put,rI,rZ,rS]
          refine rL 2 108 (h:=?_)
          try simp only [Act.put,rI,rZ,rS]
          refine rL 3 109 (h:=?_)
          try simp only [Act.put,rI,rZ,rS]
          refine rL 4 110 (h:=?_)
          try simp only [Act.put,rI,rZ,rS]
          refine rL 5 111 (h:=?_)
          try simp only [Act.put,rI,rZ,rS]
          refine rK 6 112 (h:=?_)
          try simp only [Act.put,rI,rZ,rS]
          refine rL 7 113 (h:=?_)
          try simp only [Act.put,rI,rZ,rS]
          refine rL 8 114 (h:=?_)
          try simp only [Act.put,rI,rZ,rS]
          refine rL 9 115 (h:=?_)
          try simp only [Act.put,rI,rZ,rS]
          refine rL 10 116 (h:=?_)
          try simp only [Act.put,rI,rZ,rS]
          refine rK 11 117 (h:=?_)
          try simp only [Act.put,rI,rZ,rS]
          refine rL 12 118 (h:=?_)
          try simp only [Act.put,rI,rZ,rS]
          refine rL 13 119 (h:=?_)
          try simp only [Act.put,rI,rZ,rS]
          refine rP 14 120 (h:=?_)
          try simp only [Act.put,rI,rZ,rS]
          refine rP 15 121 (h:=?_)
          try simp only [Act.put,rI,rZ,rS]
          refine rP 16 122 (h:=?_)
          try simp only [Act.put,rI,rZ,rS]
          refine rP 17 123 (h:=?_)
          try simp only [Act.put,rI,rZ,rS]
          refine rP 18 124 (h:=?_)
          try simp only [Act.put,rI,rZ,rS]
          refine rP 19 125 (h:=?_)
          try simp only [Act.put,rI,rZ,rS]
          refine rP 20 126 (h:=?_)
          try simp only [Act.put,rI,rZ,rS]
          refine rP 21 127 (h:=?_)
          try simp only [Act.put,rI,rZ,rS]
          refine rP 22 128 (h:=?_)
          try simp only [Act.put,rI,rZ,rS]
          refine rP 23 129 (h:=?_)
          try simp only [Act.put,rI,rZ,rS]
          refine rP 24 130 (h:=?_)
          try simp only [Act.put,rI,rZ,rS]
          refine rL 25 131 (h:=?_)
          try simp only [Act.put,rI,rZ,rS]
          refine rL 26 132 (h:=?_)
          try simp only [Act.put,rI,rZ,rS]
          refine rL 27 18 (h:=?_)
          try simp only [Act.put,rI,rZ,rS]
          refine wpAnyH_done (by kernel_rfl) ?_ _
          go_wp2
          go_roundw
          case rel=>exact ⟨k2+1,false,by go_num,by omega,rfl,fun h=>absurd h (by have:=HTF.out;have:=HNO.out;omega),HB2.out.trans (dd.out.mono HB2.out.size)⟩
          case measure=>simp [RowKit.intOf];omega
      ·obtain rfl : z=true:=HT.out (by omega)
       go_wp2
       go_roundw
       case rel=>exact ⟨k+1,by go_num,by omega,HB.out.trans (HB2.out.mono HB.out.size)⟩
       case measure=>simp [RowKit.intOf];omega
    ·have hc3 : decide ((ny : Int)≤(nx : Int))=true:=by simp;omega
     go_wp2
     go_ret
     exact ⟨by simp <;> omega,HB9.out.trans (HB.out.mono HB9.out.size)⟩
end Go.Proofs.YtkmlfkbpcgkpaaaGreatDoor
namespace Go.Proofs.YtkmlfkbpcgkpaaaGreatDoor
open Go.ChangeShapes Go.WideShapes Go.ChangeAt Go.RowKit Go.Lib Go.Deep
open Go.ChangeMaps (open_string shut_string)
set_option maxHeartbeats 8000000
set_option maxRecDepth 100000
instance : Inhabited FIn:=⟨(.empty,0)⟩
section
variable {H : Type} {enc : TypeId × Value→H} {w : World} {base : Nat} {spare : Nat→Bool} {held : Bool}
theorem zfU {fuel : Nat} {a : Option Addr} {len cap : Nat} {x : DataW H × List MemPlace} (h : DataW.trod enc Tryz.prog w base spare held fuel 76 [.slice a len cap]=some x) :
 ∃ fs : List FIn,len=fs.length∧fs.length≤maxLen∧FRow w a fs:=by
 rcases open_slice Tryz.underlying76 h with ⟨hcs,_⟩|⟨A,l,c,m,n,D,Pl,hcs,_,hl,hm,hmm,_,hx⟩
 ·simp at hcs
  obtain ⟨rfl,rfl,rfl⟩:=hcs
  exact ⟨[],rfl,Nat.zero_le _,fun j s hj=>by simp at hj⟩
 ·simp at hcs
  obtain ⟨rfl,rfl,rfl⟩:=hcs
  have hlm : len≤m:=by rw [hmm];split <;> omega
  have c2 : Tryz.prog.cellsOf 85=2:=by kernel_rfl
  have hall : ∀ i,i < len→∃ q : FIn,w.cell? (A.add (i*2))=some (.string q.1)∧w.cell? (efld A 2 i 1)=some (.int .i64 q.2)∧q.1.size≤maxLen:=fun i hi=>by
   obtain ⟨cs',h1,h2⟩:=hx i (by omega)
   rw [c2] at h1
   obtain ⟨_,hlen,hcell⟩:=World.cells?_some h1
   obtain ⟨xs,k,hk,hxy,_,hxl,hf⟩:=DataW.trod_struct Tryz.underlying85 h2
   match xs,hxl,cs',hlen with
   | [y0,y1],_,[v0,v1],_ =>
     have k0 : Tryz.prog.cellsOf 9=1:=by kernel_rfl
     have k1 : Tryz.prog.cellsOf 3=1:=by kernel_rfl
     have g0:=hf 0 _ rfl
     have g1:=hf 1 _ rfl
     simp [k0] at g0
     simp [k1] at g1
     have e0 : w.cell? (A.add (i*2))=some v0:=hcell 0 (by omega)
     have e1 : w.cell? (efld A 2 i 1)=some v1:=hcell 1 (by omega)
     obtain ⟨s0,hv0,_,hs0⟩:=DataW.trod_string Tryz.underlying9 g0
     obtain ⟨n1,hv1,_,wf1⟩:=DataW.trod_int Tryz.underlying3 g1
     simp at hv0 hv1
     subst hv0 hv1
     exact ⟨(s0,n1),e0,e1,hs0⟩
  obtain ⟨q,hq⟩:=choose_lt hall
  refine ⟨(List.range len).map q,by simp,by simp;omega,fun j o hj=>⟨A,rfl,?_⟩⟩
  obtain ⟨hjl,rfl⟩:=List.getElem?_eq_some_iff.1 hj
  simp at hjl ⊢
  exact hq j hjl
end
instance : Inhabited SIn:=⟨⟨.empty,none,0,[]⟩⟩
section
variable {H : Type} {enc : TypeId × Value→H} {w : World} {base : Nat} {spare : Nat→Bool} {held : Bool}
theorem zbw {P : Program} {e : TypeId} : ∀ {l : List (DataW H)} {d : DataW H} {n : Nat},d∈l→n∈d.weights P e→n∈DataW.weightsAll P e l
 | [],_,_,h,_=>by cases h
 | x :: l,d,n,h,hn=>by
   simp only [DataW.weightsAll,List.mem_append]
   rcases List.mem_cons.1 h with rfl|h
   ·exact .inl hn
   ·exact .inr (zbw h hn)
theorem ze7 {fuel : Nat} {a : Option Addr} {len cap : Nat} {x : DataW H × List MemPlace} (h : DataW.trod enc Tryz.prog w base spare held fuel 76 [.slice a len cap]=some x) (hw : ∀ q∈x.1.weights Tryz.prog 76,q≤reachBytes) :
 ∃ fs : List FIn,len=fs.length∧fs.length≤maxLen∧FRow w a fs∧fs.length*24≤140737488355328:=by
 obtain ⟨fs,rfl,hl,hr⟩:=zfU h
 refine ⟨fs,rfl,hl,hr,?_⟩
 rcases open_slice Tryz.underlying76 h with ⟨hcs,_⟩|⟨A,l,c,m,n,D,Pl,hcs,_,_,_,hmm,hx,_⟩
 ·simp at hcs
  rw [hcs.2.1];decide
 ·simp at hcs
  obtain ⟨rfl,rfl,rfl⟩:=hcs
  have hby : Tryz.prog.bytesOf 85=24:=by kernel_rfl
  have h1:=hw ((fs.length+(m - fs.length))*24) (by
   rw [hx]
   simp only [DataW.weights,Tryz.underlying76,hby,List.length_map,List.length_range,List.mem_cons,true_or])
  have h2:=reachBytes_lt
  have h3 : fs.length*24≤(fs.length+(m - fs.length))*24:=Nat.mul_le_mul_right _ (by omega)
  have h4 : (2 : Nat) ^ 47=140737488355328:=by decide
  omega
theorem ze8 {fuel : Nat} {a : Option Addr} {len cap : Nat} {x : DataW H × List MemPlace} (h : DataW.trod enc Tryz.prog w base spare held fuel 22 [.slice a len cap]=some x) (hw : ∀ q∈x.1.weights Tryz.prog 22,q≤reachBytes) :
 ∃ xs : List SIn,len=xs.length∧xs.length≤maxLen∧SRow w a xs∧∀ x∈xs,x.fs.length*24≤140737488355328:=by
 rcases open_slice Tryz.underlying22 h with ⟨hcs,_⟩|⟨A,l,c,m,n,D,Pl,hcs,_,hl,hm,hmm,hxw,hx⟩
 ·simp at hcs
  obtain ⟨rfl,rfl,rfl⟩:=hcs
  exact ⟨[],rfl,Nat.zero_le _,(fun j s hj=>by simp at hj),fun x hx=>by cases hx⟩
 ·simp at hcs
  obtain ⟨rfl,rfl,rfl⟩:=hcs
  have hlm : len≤m:=by rw [hmm];split <;> omega
  have c2 : Tryz.prog.cellsOf 78=2:=by kernel_rfl
  have hall : ∀ i,i < len→∃ q : SIn,(w.cell? (A.add (i*2))=some (.string q.name)∧w.cell? (efld A 2 i 1)=some (.slice q.fa q.fs.length q.fc)∧FRow w q.fa q.fs∧q.fs.length≤maxLen∧q.name.size≤maxLen)∧q.fs.length*24≤140737488355328:=fun i hi=>by
   obtain ⟨cs',h1,h2⟩:=hx i (by omega)
   rw [c2] at h1
   obtain ⟨_,hlen,hcell⟩:=World.cells?_some h1
   obtain ⟨xs,k,hk,hxy,_,hxl,hf⟩:=DataW.trod_struct Tryz.underlying78 h2
   match xs,hxl,cs',hlen with
   | [y0,y1],_,[v0,v1],_ =>
     have k0 : Tryz.prog.cellsOf 9=1:=by kernel_rfl
     have k1 : Tryz.prog.cellsOf 76=1:=by kernel_rfl
     have g0:=hf 0 _ rfl
     have g1:=hf 1 _ rfl
     simp [k0] at g0
     simp [k1] at g1
     have e0 : w.cell? (A.add (i*2))=some v0:=hcell 0 (by omega)
     have e1 : w.cell? (efld A 2 i 1)=some v1:=hcell 1 (by omega)
     obtain ⟨s0,hv0,_,hs0⟩:=DataW.trod_string Tryz.underlying9 g0
     simp at hv0
     subst hv0
     obtain ⟨a1,l1,c1,rfl⟩ : ∃ a l c,v1=.slice a l c:=by
      rcases DataW.trod_slice Tryz.underlying76 g1 with ⟨h,_⟩|⟨a,l,c,_,_,_,_,h,_⟩
      ·simp at h;exact ⟨_,_,_,h⟩
      ·simp at h;exact ⟨_,_,_,h⟩
     have hwi : ∀ q∈y1.1.weights Tryz.prog 76,q≤reachBytes:=fun q hq=>by
      refine hw q ?_
      rw [hxw]
      simp only [DataW.weights,Tryz.underlying22,List.mem_cons,List.mem_append]
      refine .inr (.inl (zbw (d:=D i) (List.mem_map.2 ⟨i,List.mem_range.2 hi,rfl⟩) ?_))
      have hD : D i=.agg [y0.1,y1.1]:=congrArg Prod.fst hxy
      rw [hD]
      simp only [DataW.weights,Tryz.underlying78]
      exact DataW.weights_mem_each (j:=1) (t:=76) (d:=y1.1) (by kernel_rfl) rfl q hq
     obtain ⟨fs,rfl,hl1,hr1,hb1⟩:=ze7 g1 hwi
     exact ⟨⟨s0,a1,c1,fs⟩,⟨e0,e1,hr1,hl1,hs0⟩,hb1⟩
  obtain ⟨q,hq⟩:=choose_lt hall
  refine ⟨(List.range len).map q,by simp,by simp;omega,fun j o hj=>⟨A,rfl,?_⟩,fun x hx=>?_⟩
  ·obtain ⟨hjl,rfl⟩:=List.getElem?_eq_some_iff.1 hj
   simp at hjl ⊢
   exact (hq j hjl).1
  ·obtain ⟨i,hi,rfl⟩:=List.mem_map.1 hx
   exact (hq i (List.mem_range.1 hi)).2
end
end Go.Proofs.YtkmlfkbpcgkpaaaGreatDoor
