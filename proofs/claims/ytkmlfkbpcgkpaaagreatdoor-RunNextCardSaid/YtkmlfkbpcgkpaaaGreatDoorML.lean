/- Texts that others want. -/
import Derived.Test.YtkmlfkbpcgkpaaaGreatDoorM7
import Derived.Test.YtkmlfkbpcgkpaaaGreatDoorMB
import Derived.Test.YtkmlfkbpcgkpaaaGreatDoorMK
namespace Go.Proofs.YtkmlfkbpcgkpaaaGreatDoor
open Go.RowKit Go.Lib Go.Op
set_option maxHeartbeats 8000000
set_option maxRecDepth 100000
theorem zcM {w : World} : Calls Tryz.prog 15 #[] w fun e w'=>e=.returned (.bool true)∧Below w.heap.size w w':=by
 obtain ⟨p1,hp1⟩ : ∃ p,hqQ1=p:=⟨_,rfl⟩
 have HP1:=hid hp1
 have HQB1 : Hid (QuB p1):=by rw [← hp1];exact zj8
 have HR1 : Hid (∀ (W : World) (s : ByteArray),s.data.toList=hqT1→Calls Tryz.prog 44 #[.string s] W (PaTo (p1,0,0) W)):=fun W s hs=>by
  have h:=zbu zbD (w:=W) hqT1 (by decide)
  rw [zhC,hp1] at h
  rw [← zdP s,hs]
  exact h
 obtain ⟨p2,hp2⟩ : ∃ p,hqQ2=p:=⟨_,rfl⟩
 have HP2:=hid hp2
 have HQB2 : Hid (QuB p2):=by rw [← hp2];exact zj9
 have HR2 : Hid (∀ (W : World) (s : ByteArray),s.data.toList=hqT2→Calls Tryz.prog 44 #[.string s] W (PaTo (p2,0,0) W)):=fun W s hs=>by
  have h:=zbu zbD (w:=W) hqT2 (by decide)
  rw [zhD,hp2] at h
  rw [← zdP s,hs]
  exact h
 obtain ⟨p3,hp3⟩ : ∃ p,hqQ3=p:=⟨_,rfl⟩
 have HP3:=hid hp3
 have HQB3 : Hid (QuB p3):=by rw [← hp3];exact zka
 have HR3 : Hid (∀ (W : World) (s : ByteArray),s.data.toList=hqT3→Calls Tryz.prog 44 #[.string s] W (PaTo (p3,0,0) W)):=fun W s hs=>by
  have h:=zbu zbD (w:=W) hqT3 (by decide)
  rw [zhE,hp3] at h
  rw [← zdP s,hs]
  exact h
 clear hp1 hp2 hp3
 go_enter Tryz.func15,Tryz.ntmps15
 go_wp2_with fail
 obtain ⟨u0,hu0⟩ : ∃ u0,u0=w.alloc (.cells #[.string ⟨#[97]⟩,.slice none 0 0,.string ⟨#[98]⟩,.slice none 0 0,.string ⟨#[99]⟩,.slice none 0 0] 78):=⟨_,rfl⟩
 have HU0 : Hid (Below w.heap.size w u0):=by rw [hu0];exact (Below.refl _ _).alloc (Nat.le_refl _) _
 rw [← hu0]
 clear hu0
 refine (HR1.out _ _ (by kernel_rfl)).mono ?_
 rintro e v1 ⟨a1,q1,c1,b1,r1,d1,rfl,hq1,hb1⟩
 dsimp only at hq1
 obtain rfl : q1=2:=by rw [hq1.1.len,← HP1.out];rfl
 obtain rfl : r1=0:=by rw [hq1.2.len,← HP1.out];rfl
 obtain ⟨u1,hu1⟩ : ∃ u,v1.alloc (.cells #[.slice a1 2 c1,.slice b1 0 d1,.int .i64 p1.within,.string (strB p1.by_),.int .i64 p1.pick] 26)=u:=⟨_,rfl⟩
 have HA1 : Hid (Below v1.heap.size v1 u1):=by rw [← hu1];exact (Below.refl _ _).alloc (Nat.le_refl _) _
 have HX1 : Hid (Blk u1 v1.heap.size #[.slice a1 2 c1,.slice b1 0 d1,.int .i64 p1.within,.string (strB p1.by_),.int .i64 p1.pick] 26):=by rw [← hu1];exact Blk.new _ _ _
 have HQ1 : Hid (QuAt (fun _=>False) u1 a1 2 c1 b1 0 d1 p1):=⟨(hq1.1.mono (fun _ h=>h.elim)).low HA1.out,(hq1.2.mono (fun _ h=>h.elim)).low HA1.out⟩
 have HU1 : Hid (Below w.heap.size w u1):=HU0.out.trans ((hb1.trans (HA1.out.mono hb1.size)).mono HU0.out.size)
 have HV1 : Hid (Below u0.heap.size u0 u1):=hb1.trans (HA1.out.mono hb1.size)
 have HW1:=hid hu1
 clear hq1 hb1 hu1 HR1
 go_wp2_with fail
 rw [HW1.out]
 clear HW1
 refine (HR2.out _ _ (by kernel_rfl)).mono ?_
 rintro e v2 ⟨a2,q2,c2,b2,r2,d2,rfl,hq2,hb2⟩
 dsimp only at hq2
 obtain rfl : q2=2:=by rw [hq2.1.len,← HP2.out];rfl
 obtain rfl : r2=0:=by rw [hq2.2.len,← HP2.out];rfl
 obtain ⟨u2,hu2⟩ : ∃ u,v2.alloc (.cells #[.slice a2 2 c2,.slice b2 0 d2,.int .i64 p2.within,.string (strB p2.by_),.int .i64 p2.pick] 26)=u:=⟨_,rfl⟩
 have HA2 : Hid (Below v2.heap.size v2 u2):=by rw [← hu2];exact (Below.refl _ _).alloc (Nat.le_refl _) _
 have HX2 : Hid (Blk u2 v2.heap.size #[.slice a2 2 c2,.slice b2 0 d2,.int .i64 p2.within,.string (strB p2.by_),.int .i64 p2.pick] 26):=by rw [← hu2];exact Blk.new _ _ _
 have HQ2 : Hid (QuAt (fun _=>False) u2 a2 2 c2 b2 0 d2 p2):=⟨(hq2.1.mono (fun _ h=>h.elim)).low HA2.out,(hq2.2.mono (fun _ h=>h.elim)).low HA2.out⟩
 have HU2 : Hid (Below w.heap.size w u2):=HU1.out.trans ((hb2.trans (HA2.out.mono hb2.size)).mono HU1.out.size)
 have HV2 : Hid (Below u1.heap.size u1 u2):=hb2.trans (HA2.out.mono hb2.size)
 have HW2:=hid hu2
 clear hq2 hb2 hu2 HR2
 go_wp2_with fail
 rw [HW2.out]
 clear HW2
 refine (HR3.out _ _ (by kernel_rfl)).mono ?_
 rintro e v3 ⟨a3,q3,c3,b3,r3,d3,rfl,hq3,hb3⟩
 dsimp only at hq3
 obtain rfl : q3=2:=by rw [hq3.1.len,← HP3.out];rfl
 obtain rfl : r3=0:=by rw [hq3.2.len,← HP3.out];rfl
 obtain ⟨u3,hu3⟩ : ∃ u,v3.alloc (.cells #[.slice a3 2 c3,.slice b3 0 d3,.int .i64 p3.within,.string (strB p3.by_),.int .i64 p3.pick] 26)=u:=⟨_,rfl⟩
 have HA3 : Hid (Below v3.heap.size v3 u3):=by rw [← hu3];exact (Below.refl _ _).alloc (Nat.le_refl _) _
 have HX3 : Hid (Blk u3 v3.heap.size #[.slice a3 2 c3,.slice b3 0 d3,.int .i64 p3.within,.string (strB p3.by_),.int .i64 p3.pick] 26):=by rw [← hu3];exact Blk.new _ _ _
 have HQ3 : Hid (QuAt (fun _=>False) u3 a3 2 c3 b3 0 d3 p3):=⟨(hq3.1.mono (fun _ h=>h.elim)).low HA3.out,(hq3.2.mono (fun _ h=>h.elim)).low HA3.out⟩
 have HU3 : Hid (Below w.heap.size w u3):=HU2.out.trans ((hb3.trans (HA3.out.mono hb3.size)).mono HU2.out.size)
 have HV3 : Hid (Below u2.heap.size u2 u3):=hb3.trans (HA3.out.mono hb3.size)
 have HW3:=hid hu3
 clear hq3 hb3 hu3 HR3
 have HB1 : Hid (Below u1.heap.size u1 u3):=HV2.out.trans (HV3.out.mono HV2.out.size)
 replace HX1:=hid (HX1.out.low HB1.out)
 replace HX2:=hid (HX2.out.low HV3.out)
 replace HQ1 : Hid (QuAt (fun _=>False) u3 a1 2 c1 b1 0 d1 p1):=⟨HQ1.out.1.low HB1.out,HQ1.out.2.low HB1.out⟩
 replace HQ2 : Hid (QuAt (fun _=>False) u3 a2 2 c2 b2 0 d2 p2):=⟨HQ2.out.1.low HV3.out,HQ2.out.2.low HV3.out⟩
 have HB0 : Hid (Below u3.heap.size u3 u3):=Below.refl _ _
 clear HB1 HV1 HV2 HV3 HA1 HA2 HA3 HU0 HU1 HU2
 have HST : Hid (∀ W,Below u3.heap.size u3 W→∀ (sa : Option Addr) (sn sc : Nat),Calls Tryz.prog 30 #[.slice sa sn sc,.agg #[.slice a1 2 c1,.slice b1 0 d1,.int .i64 p1.within,.string (strB p1.by_),.int .i64 p1.pick],.slice none 0 0,.agg #[.int .i64 1,.int .i64 0,.int .i64 1,.string ⟨#[97]⟩,.slice none 0 0]] W (TiTo hqR1 ([] : List PMt) W)):=fun W hW sa sn sc=>by
  have hb:=HB0.out.trans (hW.mono HB0.out.size)
  exact hstep (K:=fun _=>False) ⟨HQ1.out.1.low hb,HQ1.out.2.low hb⟩ HQB1.out (RowK.nil _ _ _) ⟨⟨by decide,fun r hr=>by cases hr⟩,fun r hr=>by cases hr⟩ 97 _ (by rfl) 1 (by rw [← HP1.out];exact hqS1)
 have y0:=zab (HX1.out.low HB0.out) (k:=0) rfl
 have y1:=zab (HX1.out.low HB0.out) (k:=1) rfl
 have y2:=zab (HX1.out.low HB0.out) (k:=2) rfl
 have y3:=zab (HX1.out.low HB0.out) (k:=3) rfl
 have y4:=zab (HX1.out.low HB0.out) (k:=4) rfl
 go_wp2_with fail
 rw [HW3.out]
 clear HW3
 have dd : Hid (Below u3.heap.size u3 u3.drew):=zae (Below.refl _ _)
 refine wp_region_held_drew (S:=fun W=>(W.cell? ⟨v1.heap.size,0,none⟩=some (.slice a1 2 c1))∧(W.cell? ⟨v1.heap.size,1,none⟩=some (.slice b1 0 d1))∧(W.cell? ⟨v1.heap.size,2,none⟩=some (.int .i64 p1.within))∧(W.cell? ⟨v1.heap.size,3,none⟩=some (.string (strB p1.by_)))∧(W.cell? ⟨v1.heap.size,4,none⟩=some (.int .i64 p1.pick))∧(Hid (Below u3.heap.size u3 W))) (by kernel_rfl) ⟨zaa dd.out y0,zaa dd.out y1,zaa dd.out y2,zaa dd.out y3,zaa dd.out y4,dd⟩ (fun hHeld=>?_)
 as_aux_lemma =>
 refine rL 0 47 (h:=?_)
 try simp only [Act.put,rI,rZ,rS]
 refine rK 1 48 (h:=?_)
 try simp only [Act.put,rI,rZ,rS]
 refine rA 2 (h:=fun K hK=>?_)
 dsimp only [List.getElem_toArray,List.getElem_cons_succ,List.getElem_cons_zero]
 go_simp
 go_at_call 45
 with_reducible refine (zaW _ _).mono ?_
 rintro e zz ⟨rfl,hb⟩
 replace dd : Hid (Below u3.heap.size u3 zz):=dd.out.trans (hb.mono dd.out.size)
 clear hb
 go_wp2_with fail
 refine hK.out _ _ ⟨zaa dd.out y0,zaa dd.out y1,zaa dd.out y2,zaa dd.out y3,zaa dd.out y4,dd⟩ (fun hHeld=>?_)
 clear hK K
 try simp only [Act.put,rI,rZ,rS]
 refine rA 3 (h:=fun K hK=>?_)
 dsimp only [List.getElem_toArray,List.getElem_cons_succ,List.getElem_cons_zero]
 go_simp
 go_at_call 30
 with_reducible refine (HST.out _ dd.out _ _ _).mono ?_
 rintro e z0 ⟨x1,x2,rfl,ho,hb⟩
 obtain ⟨raA,rcA,e1⟩:=ho.sl1
 rw [show (hqR1).length=1 from rfl] at e1
 subst e1
 obtain ⟨ram0,rcm0,e2⟩:=ho.sl2
 rw [show (([] : List PMt)).length=0 from rfl] at e2
 subst e2
 have HO:=hid ho.ovI.rows
 replace dd : Hid (Below u3.heap.size u3 z0):=dd.out.trans (hb.mono dd.out.size)
 clear hb
 clear ho HST
 go_wp2_with fail
 refine hK.out _ _ ⟨zaa dd.out y0,zaa dd.out y1,zaa dd.out y2,zaa dd.out y3,zaa dd.out y4,dd⟩ (fun hHeld=>?_)
 clear hK K
 try simp only [Act.put,rI,rZ,rS]
 refine rL 4 46 (h:=?_)
 try simp only [Act.put,rI,rZ,rS]
 refine rL 5 51 (h:=?_)
 try simp only [Act.put,rI,rZ,rS]
 refine rL 6 52 (h:=?_)
 try simp only [Act.put,rI,rZ,rS]
 refine rL 7 11 (h:=?_)
 try simp only [Act.put,rI,rZ,rS]
 refine rL 8 12 (h:=?_)
 try simp only [Act.put,rI,rZ,rS]
 refine wpAnyH_done (by kernel_rfl) ?_ _
 have HB1 : Hid (Below u3.heap.size u3 z0):=HB0.out.trans (dd.out.mono HB0.out.size)
 have HROWA:=hid HO.out.1
 clear HO y0 y1 y2 y3 y4 dd HB0
 have HST : Hid (∀ W,Below z0.heap.size z0 W→∀ (sa : Option Addr) (sn sc : Nat),Calls Tryz.prog 30 #[.slice sa sn sc,.agg #[.slice a1 2 c1,.slice b1 0 d1,.int .i64 p1.within,.string (strB p1.by_),.int .i64 p1.pick],.slice raA 1 rcA,.agg #[.int .i64 2,.int .i64 0,.int .i64 2,.string ⟨#[98]⟩,.slice none 0 0]] W (TiTo hqR1 hqM2 W)):=fun W hW sa sn sc=>by
  have hb:=HB1.out.trans (hW.mono HB1.out.size)
  exact hstep (K:=fun _=>False) ⟨HQ1.out.1.low hb,HQ1.out.2.low hb⟩ HQB1.out (HROWA.out.low hW) zds 98 _ (by rfl) 2 (by rw [← HP1.out];exact hqS2)
 have y0:=zab (HX1.out.low HB1.out) (k:=0) rfl
 have y1:=zab (HX1.out.low HB1.out) (k:=1) rfl
 have y2:=zab (HX1.out.low HB1.out) (k:=2) rfl
 have y3:=zab (HX1.out.low HB1.out) (k:=3) rfl
 have y4:=zab (HX1.out.low HB1.out) (k:=4) rfl
 go_wp2_with fail
 have dd : Hid (Below z0.heap.size z0 z0.drew):=zae (Below.refl _ _)
 refine wp_region_held_drew (S:=fun W=>(W.cell? ⟨v1.heap.size,0,none⟩=some (.slice a1 2 c1))∧(W.cell? ⟨v1.heap.size,1,none⟩=some (.slice b1 0 d1))∧(W.cell? ⟨v1.heap.size,2,none⟩=some (.int .i64 p1.within))∧(W.cell? ⟨v1.heap.size,3,none⟩=some (.string (strB p1.by_)))∧(W.cell? ⟨v1.heap.size,4,none⟩=some (.int .i64 p1.pick))∧(Hid (Below z0.heap.size z0 W))) (by kernel_rfl) ⟨zaa dd.out y0,zaa dd.out y1,zaa dd.out y2,zaa dd.out y3,zaa dd.out y4,dd⟩ (fun hHeld=>?_)
 as_aux_lemma =>
 refine rL 0 54 (h:=?_)
 try simp only [Act.put,rI,rZ,rS]
 refine rK 1 55 (h:=?_)
 try simp only [Act.put,rI,rZ,rS]
 refine rL 2 56 (h:=?_)
 try simp only [Act.put,rI,rZ,rS]
 refine rA 3 (h:=fun K hK=>?_)
 dsimp only [List.getElem_toArray,List.getElem_cons_succ,List.getElem_cons_zero]
 go_simp
 go_at_call 45
 with_reducible refine (zaW _ _).mono ?_
 rintro e zz ⟨rfl,hb⟩
 replace dd : Hid (Below z0.heap.size z0 zz):=dd.out.trans (hb.mono dd.out.size)
 clear hb
 go_wp2_with fail
 refine hK.out _ _ ⟨zaa dd.out y0,zaa dd.out y1,zaa dd.out y2,zaa dd.out y3,zaa dd.out y4,dd⟩ (fun hHeld=>?_)
 clear hK K
 try simp only [Act.put,rI,rZ,rS]
 refine rA 4 (h:=fun K hK=>?_)
 dsimp only [List.getElem_toArray,List.getElem_cons_succ,List.getElem_cons_zero]
 go_simp
 go_at_call 30
 with_reducible refine (HST.out _ dd.out _ _ _).mono ?_
 rintro e z1 ⟨x1,x2,rfl,ho,hb⟩
 obtain ⟨raB,rcB,e1⟩:=ho.sl1
 rw [show (hqR1).length=1 from rfl] at e1
 subst e1
 obtain ⟨raN,rcN,e2⟩:=ho.sl2
 rw [show (hqM2).length=1 from rfl] at e2
 subst e2
 have HO:=hid ho.ovI.rows
 replace dd : Hid (Below z0.heap.size z0 z1):=dd.out.trans (hb.mono dd.out.size)
 clear hb
 clear ho HST
 go_wp2_with fail
 refine hK.out _ _ ⟨zaa dd.out y0,zaa dd.out y1,zaa dd.out y2,zaa dd.out y3,zaa dd.out y4,dd⟩ (fun hHeld=>?_)
 clear hK K
 try simp only [Act.put,rI,rZ,rS]
 refine rL 5 53 (h:=?_)
 try simp only [Act.put,rI,rZ,rS]
 refine rL 6 59 (h:=?_)
 try simp only [Act.put,rI,rZ,rS]
 refine rL 7 60 (h:=?_)
 try simp only [Act.put,rI,rZ,rS]
 refine rL 8 13 (h:=?_)
 try simp only [Act.put,rI,rZ,rS]
 refine rL 9 14 (h:=?_)
 try simp only [Act.put,rI,rZ,rS]
 refine wpAnyH_done (by kernel_rfl) ?_ _
 have HB2 : Hid (Below u3.heap.size u3 z1):=HB1.out.trans (dd.out.mono HB1.out.size)
 replace HROWA:=hid (HROWA.out.low dd.out)
 have HROWB:=hid HO.out.1
 have HROWN:=hid HO.out.2
 clear HO y0 y1 y2 y3 y4 dd HB1
 have HST : Hid (∀ W,Below z1.heap.size z1 W→∀ (sa : Option Addr) (sn sc : Nat),Calls Tryz.prog 30 #[.slice sa sn sc,.agg #[.slice a1 2 c1,.slice b1 0 d1,.int .i64 p1.within,.string (strB p1.by_),.int .i64 p1.pick],.slice raB 1 rcB,.agg #[.int .i64 3,.int .i64 0,.int .i64 3,.string ⟨#[98]⟩,.slice none 0 0]] W (TiTo hqR1 hqM3 W)):=fun W hW sa sn sc=>by
  have hb:=HB2.out.trans (hW.mono HB2.out.size)
  exact hstep (K:=fun _=>False) ⟨HQ1.out.1.low hb,HQ1.out.2.low hb⟩ HQB1.out (HROWB.out.low hW) zds 98 _ (by rfl) 3 (by rw [← HP1.out];exact hqS3)
 have y0:=zab (HX1.out.low HB2.out) (k:=0) rfl
 have y1:=zab (HX1.out.low HB2.out) (k:=1) rfl
 have y2:=zab (HX1.out.low HB2.out) (k:=2) rfl
 have y3:=zab (HX1.out.low HB2.out) (k:=3) rfl
 have y4:=zab (HX1.out.low HB2.out) (k:=4) rfl
 go_wp2_with fail
 have dd : Hid (Below z1.heap.size z1 z1.drew):=zae (Below.refl _ _)
 refine wp_region_held_drew (S:=fun W=>(W.cell? ⟨v1.heap.size,0,none⟩=some (.slice a1 2 c1))∧(W.cell? ⟨v1.heap.size,1,none⟩=some (.slice b1 0 d1))∧(W.cell? ⟨v1.heap.size,2,none⟩=some (.int .i64 p1.within))∧(W.cell? ⟨v1.heap.size,3,none⟩=some (.string (strB p1.by_)))∧(W.cell? ⟨v1.heap.size,4,none⟩=some (.int .i64 p1.pick))∧(Hid (Below z1.heap.size z1 W))) (by kernel_rfl) ⟨zaa dd.out y0,zaa dd.out y1,zaa dd.out y2,zaa dd.out y3,zaa dd.out y4,dd⟩ (fun hHeld=>?_)
 as_aux_lemma =>
 refine rL 0 62 (h:=?_)
 try simp only [Act.put,rI,rZ,rS]
 refine rK 1 63 (h:=?_)
 try simp only [Act.put,rI,rZ,rS]
 refine rL 2 64 (h:=?_)
 try simp only [Act.put,rI,rZ,rS]
 refine rA 3 (h:=fun K hK=>?_)
 dsimp only [List.getElem_toArray,List.getElem_cons_succ,List.getElem_cons_zero]
 go_simp
 go_at_call 45
 with_reducible refine (zaW _ _).mono ?_
 rintro e zz ⟨rfl,hb⟩
 replace dd : Hid (Below z1.heap.size z1 zz):=dd.out.trans (hb.mono dd.out.size)
 clear hb
 go_wp2_with fail
 refine hK.out _ _ ⟨zaa dd.out y0,zaa dd.out y1,zaa dd.out y2,zaa dd.out y3,zaa dd.out y4,dd⟩ (fun hHeld=>?_)
 clear hK K
 try simp only [Act.put,rI,rZ,rS]
 refine rA 4 (h:=fun K hK=>?_)
 dsimp only [List.getElem_toArray,List.getElem_cons_succ,List.getElem_cons_zero]
 go_simp
 go_at_call 30
 with_reducible refine (HST.out _ dd.out _ _ _).mono ?_
 rintro e z2 ⟨x1,x2,rfl,ho,hb⟩
 obtain ⟨rax2,rcx2,e1⟩:=ho.sl1
 rw [show (hqR1).length=1 from rfl] at e1
 subst e1
 obtain ⟨raO,rcO,e2⟩:=ho.sl2
 rw [show (hqM3).length=1 from rfl] at e2
 subst e2
 have HO:=hid ho.ovI.rows
 replace dd : Hid (Below z1.heap.size z1 z2):=dd.out.trans (hb.mono dd.out.size)
 clear hb
 clear ho HST
 go_wp2_with fail
 refine hK.out _ _ ⟨zaa dd.out y0,zaa dd.out y1,zaa dd.out y2,zaa dd.out y3,zaa dd.out y4,dd⟩ (fun hHeld=>?_)
 clear hK K
 try simp only [Act.put,rI,rZ,rS]
 refine rL 5 61 (h:=?_)
 try simp only [Act.put,rI,rZ,rS]
 refine rL 6 67 (h:=?_)
 try simp only [Act.put,rI,rZ,rS]
 refine rL 7 68 (h:=?_)
 try simp only [Act.put,rI,rZ,rS]
 refine rL 8 15 (h:=?_)
 try simp only [Act.put,rI,rZ,rS]
 refine rL 9 16 (h:=?_)
 try simp only [Act.put,rI,rZ,rS]
 refine wpAnyH_done (by kernel_rfl) ?_ _
 have HB3 : Hid (Below u3.heap.size u3 z2):=HB2.out.trans (dd.out.mono HB2.out.size)
 replace HROWA:=hid (HROWA.out.low dd.out)
 replace HROWB:=hid (HROWB.out.low dd.out)
 replace HROWN:=hid (HROWN.out.low dd.out)
 have HROWO:=hid HO.out.2
 clear HO y0 y1 y2 y3 y4 dd HB2
 have HST : Hid (∀ W,Below z2.heap.size z2 W→∀ (sa : Option Addr) (sn sc : Nat),Calls Tryz.prog 30 #[.slice sa sn sc,.agg #[.slice a2 2 c2,.slice b2 0 d2,.int .i64 p2.within,.string (strB p2.by_),.int .i64 p2.pick],.slice raA 1 rcA,.agg #[.int .i64 2,.int .i64 0,.int .i64 2,.string ⟨#[98]⟩,.slice none 0 0]] W (TiTo ([] : List PRun) hqM2 W)):=fun W hW sa sn sc=>by
  have hb:=HB3.out.trans (hW.mono HB3.out.size)
  exact hstep (K:=fun _=>False) ⟨HQ2.out.1.low hb,HQ2.out.2.low hb⟩ HQB2.out (HROWA.out.low hW) zds 98 _ (by rfl) 2 (by rw [← HP2.out];exact hqS4)
 have y0:=zab (HX2.out.low HB3.out) (k:=0) rfl
 have y1:=zab (HX2.out.low HB3.out) (k:=1) rfl
 have y2:=zab (HX2.out.low HB3.out) (k:=2) rfl
 have y3:=zab (HX2.out.low HB3.out) (k:=3) rfl
 have y4:=zab (HX2.out.low HB3.out) (k:=4) rfl
 go_wp2_with fail
 have dd : Hid (Below z2.heap.size z2 z2.drew):=zae (Below.refl _ _)
 refine wp_region_held_drew (S:=fun W=>(W.cell? ⟨v2.heap.size,0,none⟩=some (.slice a2 2 c2))∧(W.cell? ⟨v2.heap.size,1,none⟩=some (.slice b2 0 d2))∧(W.cell? ⟨v2.heap.size,2,none⟩=some (.int .i64 p2.within))∧(W.cell? ⟨v2.heap.size,3,none⟩=some (.string (strB p2.by_)))∧(W.cell? ⟨v2.heap.size,4,none⟩=some (.int .i64 p2.pick))∧(Hid (Below z2.heap.size z2 W))) (by kernel_rfl) ⟨zaa dd.out y0,zaa dd.out y1,zaa dd.out y2,zaa dd.out y3,zaa dd.out y4,dd⟩ (fun hHeld=>?_)
 as_aux_lemma =>
 refine rL 0 70 (h:=?_)
 try simp only [Act.put,rI,rZ,rS]
 refine rK 1 71 (h:=?_)
 try simp only [Act.put,rI,rZ,rS]
 refine rL 2 72 (h:=?_)
 try simp only [Act.put,rI,rZ,rS]
 refine rA 3 (h:=fun K hK=>?_)
 dsimp only [List.getElem_toArray,List.getElem_cons_succ,List.getElem_cons_zero]
 go_simp
 go_at_call 45
 with_reducible refine (zaW _ _).mono ?_
 rintro e zz ⟨rfl,hb⟩
 replace dd : Hid (Below z2.heap.size z2 zz):=dd.out.trans (hb.mono dd.out.size)
 clear hb
 go_wp2_with fail
 refine hK.out _ _ ⟨zaa dd.out y0,zaa dd.out y1,zaa dd.out y2,zaa dd.out y3,zaa dd.out y4,dd⟩ (fun hHeld=>?_)
 clear hK K
 try simp only [Act.put,rI,rZ,rS]
 refine rA 4 (h:=fun K hK=>?_)
 dsimp only [List.getElem_toArray,List.getElem_cons_succ,List.getElem_cons_zero]
 go_simp
 go_at_call 30
 with_reducible refine (HST.out _ dd.out _ _ _).mono ?_
 rintro e z3 ⟨x1,x2,rfl,ho,hb⟩
 obtain ⟨raD3,rcD3,e1⟩:=ho.sl1
 rw [show (([] : List PRun)).length=0 from rfl] at e1
 subst e1
 obtain ⟨rax3,rcx3,e2⟩:=ho.sl2
 rw [show (hqM2).length=1 from rfl] at e2
 subst e2
 have HO:=hid ho.ovI.rows
 replace dd : Hid (Below z2.heap.size z2 z3):=dd.out.trans (hb.mono dd.out.size)
 clear hb
 clear ho HST
 go_wp2_with fail
 refine hK.out _ _ ⟨zaa dd.out y0,zaa dd.out y1,zaa dd.out y2,zaa dd.out y3,zaa dd.out y4,dd⟩ (fun hHeld=>?_)
 clear hK K
 try simp only [Act.put,rI,rZ,rS]
 refine rL 5 69 (h:=?_)
 try simp only [Act.put,rI,rZ,rS]
 refine rL 6 75 (h:=?_)
 try simp only [Act.put,rI,rZ,rS]
 refine rL 7 76 (h:=?_)
 try simp only [Act.put,rI,rZ,rS]
 refine rL 8 17 (h:=?_)
 try simp only [Act.put,rI,rZ,rS]
 refine rL 9 18 (h:=?_)
 try simp only [Act.put,rI,rZ,rS]
 refine wpAnyH_done (by kernel_rfl) ?_ _
 have HB4 : Hid (Below u3.heap.size u3 z3):=HB3.out.trans (dd.out.mono HB3.out.size)
 replace HROWA:=hid (HROWA.out.low dd.out)
 replace HROWB:=hid (HROWB.out.low dd.out)
 replace HROWN:=hid (HROWN.out.low dd.out)
 replace HROWO:=hid (HROWO.out.low dd.out)
 clear HO y0 y1 y2 y3 y4 dd HB3
 have HST : Hid (∀ W,Below z3.heap.size z3 W→∀ (sa : Option Addr) (sn sc : Nat),Calls Tryz.prog 30 #[.slice sa sn sc,.agg #[.slice a3 2 c3,.slice b3 0 d3,.int .i64 p3.within,.string (strB p3.by_),.int .i64 p3.pick],.slice none 0 0,.agg #[.int .i64 1,.int .i64 0,.int .i64 1,.string ⟨#[97]⟩,.slice none 0 0]] W (TiTo hqR1 ([] : List PMt) W)):=fun W hW sa sn sc=>by
  have hb:=HB4.out.trans (hW.mono HB4.out.size)
  exact hstep (K:=fun _=>False) ⟨HQ3.out.1.low hb,HQ3.out.2.low hb⟩ HQB3.out (RowK.nil _ _ _) ⟨⟨by decide,fun r hr=>by cases hr⟩,fun r hr=>by cases hr⟩ 97 _ (by rfl) 1 (by rw [← HP3.out];exact hqS5)
 have y0:=zab (HX3.out.low HB4.out) (k:=0) rfl
 have y1:=zab (HX3.out.low HB4.out) (k:=1) rfl
 have y2:=zab (HX3.out.low HB4.out) (k:=2) rfl
 have y3:=zab (HX3.out.low HB4.out) (k:=3) rfl
 have y4:=zab (HX3.out.low HB4.out) (k:=4) rfl
 go_wp2_with fail
 have dd : Hid (Below z3.heap.size z3 z3.drew):=zae (Below.refl _ _)
 refine wp_region_held_drew (S:=fun W=>(W.cell? ⟨v3.heap.size,0,none⟩=some (.slice a3 2 c3))∧(W.cell? ⟨v3.heap.size,1,none⟩=some (.slice b3 0 d3))∧(W.cell? ⟨v3.heap.size,2,none⟩=some (.int .i64 p3.within))∧(W.cell? ⟨v3.heap.size,3,none⟩=some (.string (strB p3.by_)))∧(W.cell? ⟨v3.heap.size,4,none⟩=some (.int .i64 p3.pick))∧(Hid (Below z3.heap.size z3 W))) (by kernel_rfl) ⟨zaa dd.out y0,zaa dd.out y1,zaa dd.out y2,zaa dd.out y3,zaa dd.out y4,dd⟩ (fun hHeld=>?_)
 as_aux_lemma =>
 refine rL 0 78 (h:=?_)
 try simp only [Act.put,rI,rZ,rS]
 refine rK 1 79 (h:=?_)
 try simp only [Act.put,rI,rZ,rS]
 refine rA 2 (h:=fun K hK=>?_)
 dsimp only [List.getElem_toArray,List.getElem_cons_succ,List.getElem_cons_zero]
 go_simp
 go_at_call 45
 with_reducible refine (zaW _ _).mono ?_
 rintro e zz ⟨rfl,hb⟩
 replace dd : Hid (Below z3.heap.size z3 zz):=dd.out.trans (hb.mono dd.out.size)
 clear hb
 go_wp2_with fail
 refine hK.out _ _ ⟨zaa dd.out y0,zaa dd.out y1,zaa dd.out y2,zaa dd.out y3,zaa dd.out y4,dd⟩ (fun hHeld=>?_)
 clear hK K
 try simp only [Act.put,rI,rZ,rS]
 refine rA 3 (h:=fun K hK=>?_)
 dsimp only [List.getElem_toArray,List.getElem_cons_succ,List.getElem_cons_zero]
 go_simp
 go_at_call 30
 with_reducible refine (HST.out _ dd.out _ _ _).mono ?_
 rintro e z4 ⟨x1,x2,rfl,ho,hb⟩
 obtain ⟨raC,rcC,e1⟩:=ho.sl1
 rw [show (hqR1).length=1 from rfl] at e1
 subst e1
 obtain ⟨rax4,rcx4,e2⟩:=ho.sl2
 rw [show (([] : List PMt)).length=0 from rfl] at e2
 subst e2
 have HO:=hid ho.ovI.rows
 replace dd : Hid (Below z3.heap.size z3 z4):=dd.out.trans (hb.mono dd.out.size)
 clear hb
 clear ho HST
 go_wp2_with fail
 refine hK.out _ _ ⟨zaa dd.out y0,zaa dd.out y1,zaa dd.out y2,zaa dd.out y3,zaa dd.out y4,dd⟩ (fun hHeld=>?_)
 clear hK K
 try simp only [Act.put,rI,rZ,rS]
 refine rL 4 77 (h:=?_)
 try simp only [Act.put,rI,rZ,rS]
 refine rL 5 82 (h:=?_)
 try simp only [Act.put,rI,rZ,rS]
 refine rL 6 83 (h:=?_)
 try simp only [Act.put,rI,rZ,rS]
 refine rL 7 19 (h:=?_)
 try simp only [Act.put,rI,rZ,rS]
 refine rL 8 20 (h:=?_)
 try simp only [Act.put,rI,rZ,rS]
 refine wpAnyH_done (by kernel_rfl) ?_ _
 have HB5 : Hid (Below u3.heap.size u3 z4):=HB4.out.trans (dd.out.mono HB4.out.size)
 replace HROWA:=hid (HROWA.out.low dd.out)
 replace HROWB:=hid (HROWB.out.low dd.out)
 replace HROWN:=hid (HROWN.out.low dd.out)
 replace HROWO:=hid (HROWO.out.low dd.out)
 have HROWC:=hid HO.out.1
 clear HO y0 y1 y2 y3 y4 dd HB4
 have HST : Hid (∀ W,Below z4.heap.size z4 W→Calls Tryz.prog 27 #[.agg #[.slice a3 2 c3,.slice b3 0 d3,.int .i64 p3.within,.string (strB p3.by_),.int .i64 p3.pick],.slice raC 1 rcC,.int .i64 6] W (TiTo ([] : List PRun) hqM6 W)):=fun W hW=>by
  have hb:=HB5.out.trans (hW.mono HB5.out.size)
  exact zgG (K:=fun _=>False) ⟨HQ3.out.1.low hb,HQ3.out.2.low hb⟩ HQB3.out (HROWC.out.low hW) zds.1 6 (by decide) (by rw [← HP3.out];exact hqS6)
 have y0:=zab (HX3.out.low HB5.out) (k:=0) rfl
 have y1:=zab (HX3.out.low HB5.out) (k:=1) rfl
 have y2:=zab (HX3.out.low HB5.out) (k:=2) rfl
 have y3:=zab (HX3.out.low HB5.out) (k:=3) rfl
 have y4:=zab (HX3.out.low HB5.out) (k:=4) rfl
 go_wp2_with (first|(go_at_call 27;(with_reducible refine (HST.out _ (Below.refl _ _)).mono ?_);rintro e z5 ⟨x1,x2,rfl,ho,hb⟩;obtain ⟨rax5,rcx5,e1⟩:=ho.sl1;rw [show (([] : List PRun)).length=0 from rfl] at e1;subst e1;obtain ⟨raF,rcF,e2⟩:=ho.sl2;rw [show (hqM6).length=1 from rfl] at e2;subst e2;have HO:=hid ho.ovI.rows;have dd : Hid (Below z4.heap.size z4 z5):=hb;have HB6 : Hid (Below u3.heap.size u3 z5):=HB5.out.trans (hb.mono HB5.out.size);clear ho hb HST)|fail)
 replace HROWA:=hid (HROWA.out.low dd.out)
 replace HROWB:=hid (HROWB.out.low dd.out)
 replace HROWN:=hid (HROWN.out.low dd.out)
 replace HROWO:=hid (HROWO.out.low dd.out)
 replace HROWC:=hid (HROWC.out.low dd.out)
 have HROWF:=hid HO.out.2
 clear HO y0 y1 y2 y3 y4 dd HB5
 have HST : Hid (∀ W,Below z5.heap.size z5 W→∀ (sa : Option Addr) (sn sc : Nat),Calls Tryz.prog 30 #[.slice sa sn sc,.agg #[.slice a3 2 c3,.slice b3 0 d3,.int .i64 p3.within,.string (strB p3.by_),.int .i64 p3.pick],.slice raC 1 rcC,.agg #[.int .i64 3,.int .i64 0,.int .i64 3,.string ⟨#[99]⟩,.slice none 0 0]] W (TiTo ([] : List PRun) ([] : List PMt) W)):=fun W hW sa sn sc=>by
  have hb:=HB6.out.trans (hW.mono HB6.out.size)
  exact hstep (K:=fun _=>False) ⟨HQ3.out.1.low hb,HQ3.out.2.low hb⟩ HQB3.out (HROWC.out.low hW) zds 99 _ (by rfl) 3 (by rw [← HP3.out];exact hqS7)
 have y0:=zab (HX3.out.low HB6.out) (k:=0) rfl
 have y1:=zab (HX3.out.low HB6.out) (k:=1) rfl
 have y2:=zab (HX3.out.low HB6.out) (k:=2) rfl
 have y3:=zab (HX3.out.low HB6.out) (k:=3) rfl
 have y4:=zab (HX3.out.low HB6.out) (k:=4) rfl
 go_wp2_with fail
 have dd : Hid (Below z5.heap.size z5 z5.drew):=zae (Below.refl _ _)
 refine wp_region_held_drew (S:=fun W=>(W.cell? ⟨v3.heap.size,0,none⟩=some (.slice a3 2 c3))∧(W.cell? ⟨v3.heap.size,1,none⟩=some (.slice b3 0 d3))∧(W.cell? ⟨v3.heap.size,2,none⟩=some (.int .i64 p3.within))∧(W.cell? ⟨v3.heap.size,3,none⟩=some (.string (strB p3.by_)))∧(W.cell? ⟨v3.heap.size,4,none⟩=some (.int .i64 p3.pick))∧(Hid (Below z5.heap.size z5 W))) (by kernel_rfl) ⟨zaa dd.out y0,zaa dd.out y1,zaa dd.out y2,zaa dd.out y3,zaa dd.out y4,dd⟩ (fun hHeld=>?_)
 as_aux_lemma =>
 refine rL 0 91 (h:=?_)
 try simp only [Act.put,rI,rZ,rS]
 refine rK 1 92 (h:=?_)
 try simp only [Act.put,rI,rZ,rS]
 refine rL 2 93 (h:=?_)
 try simp only [Act.put,rI,rZ,rS]
 refine rA 3 (h:=fun K hK=>?_)
 dsimp only [List.getElem_toArray,List.getElem_cons_succ,List.getElem_cons_zero]
 go_simp
 go_at_call 45
 with_reducible refine (zaW _ _).mono ?_
 rintro e zz ⟨rfl,hb⟩
 replace dd : Hid (Below z5.heap.size z5 zz):=dd.out.trans (hb.mono dd.out.size)
 clear hb
 go_wp2_with fail
 refine hK.out _ _ ⟨zaa dd.out y0,zaa dd.out y1,zaa dd.out y2,zaa dd.out y3,zaa dd.out y4,dd⟩ (fun hHeld=>?_)
 clear hK K
 try simp only [Act.put,rI,rZ,rS]
 refine rA 4 (h:=fun K hK=>?_)
 dsimp only [List.getElem_toArray,List.getElem_cons_succ,List.getElem_cons_zero]
 go_simp
 go_at_call 30
 with_reducible refine (HST.out _ dd.out _ _ _).mono ?_
 rintro e z6 ⟨x1,x2,rfl,ho,hb⟩
 obtain ⟨raG6,rcG6,e1⟩:=ho.sl1
 rw [show (([] : List PRun)).length=0 from rfl] at e1
 subst e1
 obtain ⟨rax6,rcx6,e2⟩:=ho.sl2
 rw [show (([] : List PMt)).length=0 from rfl] at e2
 subst e2
 have HO:=hid ho.ovI.rows
 replace dd : Hid (Below z5.heap.size z5 z6):=dd.out.trans (hb.mono dd.out.size)
 clear hb
 clear ho HST
 go_wp2_with fail
 refine hK.out _ _ ⟨zaa dd.out y0,zaa dd.out y1,zaa dd.out y2,zaa dd.out y3,zaa dd.out y4,dd⟩ (fun hHeld=>?_)
 clear hK K
 try simp only [Act.put,rI,rZ,rS]
 refine rL 5 90 (h:=?_)
 try simp only [Act.put,rI,rZ,rS]
 refine rL 6 96 (h:=?_)
 try simp only [Act.put,rI,rZ,rS]
 refine rL 7 97 (h:=?_)
 try simp only [Act.put,rI,rZ,rS]
 refine rL 8 23 (h:=?_)
 try simp only [Act.put,rI,rZ,rS]
 refine rL 9 24 (h:=?_)
 try simp only [Act.put,rI,rZ,rS]
 refine wpAnyH_done (by kernel_rfl) ?_ _
 have HB7 : Hid (Below u3.heap.size u3 z6):=HB6.out.trans (dd.out.mono HB6.out.size)
 replace HROWA:=hid (HROWA.out.low dd.out)
 replace HROWB:=hid (HROWB.out.low dd.out)
 replace HROWN:=hid (HROWN.out.low dd.out)
 replace HROWO:=hid (HROWO.out.low dd.out)
 replace HROWC:=hid (HROWC.out.low dd.out)
 replace HROWF:=hid (HROWF.out.low dd.out)
 clear HO y0 y1 y2 y3 y4 dd HB6
 have HST : Hid (∀ W,Below z6.heap.size z6 W→Calls Tryz.prog 27 #[.agg #[.slice a3 2 c3,.slice b3 0 d3,.int .i64 p3.within,.string (strB p3.by_),.int .i64 p3.pick],.slice raC 1 rcC,.int .i64 5] W (TiTo hqR1 ([] : List PMt) W)):=fun W hW=>by
  have hb:=HB7.out.trans (hW.mono HB7.out.size)
  exact zgG (K:=fun _=>False) ⟨HQ3.out.1.low hb,HQ3.out.2.low hb⟩ HQB3.out (HROWC.out.low hW) zds.1 5 (by decide) (by rw [← HP3.out];exact hqS8)
 have y0:=zab (HX3.out.low HB7.out) (k:=0) rfl
 have y1:=zab (HX3.out.low HB7.out) (k:=1) rfl
 have y2:=zab (HX3.out.low HB7.out) (k:=2) rfl
 have y3:=zab (HX3.out.low HB7.out) (k:=3) rfl
 have y4:=zab (HX3.out.low HB7.out) (k:=4) rfl
 obtain ⟨gN,oN,bN,cN,eN,n0,_,_⟩:=HROWN.out.mtAt (j:=0) (x:=⟨2,[[hqE 97 1],[hqE 98 2]]⟩) rfl
 obtain ⟨gF,oF,bF,cF,eF,f0,_,_⟩:=HROWF.out.mtAt (j:=0) (x:=⟨6,[[hqE 97 1],[]]⟩) rfl
 obtain ⟨gC,oC,bC,cC,eC,k0,k1,hbC⟩:=HROWC.out.runAt (j:=0) (x:=⟨0,[[hqE 97 1],[]]⟩) rfl
 obtain ⟨gA,oA,bA,cA,eA,l0,l1,hbA⟩:=HROWA.out.runAt (j:=0) (x:=⟨0,[[hqE 97 1],[]]⟩) rfl
 subst eN eF eC eA
 dsimp only [Nat.zero_mul,Nat.add_zero,List.length_cons,List.length_nil,Nat.zero_add,Nat.reduceAdd] at n0 f0 k0 k1 l0 l1 hbC hbA
 have HWT : Hid (∀ W,Below z6.heap.size z6 W→Calls Tryz.prog 46 #[.agg #[.slice a3 2 c3,.slice b3 0 d3,.int .i64 p3.within,.string (strB p3.by_),.int .i64 p3.pick],.agg #[.int .i64 0,.slice bC 2 cC]] W fun ew w'=>ew=.returned (.bool true)∧Below W.heap.size W w'):=fun W hW=>by
  have hb:=HB7.out.trans (hW.mono HB7.out.size)
  have h:=ze2 (K:=fun _=>False) (x:=⟨0,[[hqE 97 1],[]]⟩) ⟨HQ3.out.1.low hb,HQ3.out.2.low hb⟩ HQB3.out (hbC.low hW)
  rw [← HP3.out,hqW,HP3.out] at h
  exact h
 have HN1 : Hid (∀ W,Below z6.heap.size z6 W→Calls Tryz.prog 36 #[.agg #[.slice a1 2 c1,.slice b1 0 d1,.int .i64 p1.within,.string (strB p1.by_),.int .i64 p1.pick],.string ⟨#[98]⟩] W fun ew w'=>ew=.returned (.bool true)∧Below W.heap.size W w'):=fun W hW=>by
  have hb:=HB7.out.trans (hW.mono HB7.out.size)
  have h:=zbP (K:=fun _=>False) (p:=p1) (qb:=b1) (r:=0) (d:=d1) [98] (HQ1.out.1.low hb) (by decide) (fun i hi=>(HQB1.out.1 i hi).1)
  rw [show namesP p1.its [98]=true by rw [← HP1.out];exact hqN1] at h
  exact h
 have HN2 : Hid (∀ W,Below z6.heap.size z6 W→Calls Tryz.prog 36 #[.agg #[.slice a1 2 c1,.slice b1 0 d1,.int .i64 p1.within,.string (strB p1.by_),.int .i64 p1.pick],.string ⟨#[99]⟩] W fun ew w'=>ew=.returned (.bool false)∧Below W.heap.size W w'):=fun W hW=>by
  have hb:=HB7.out.trans (hW.mono HB7.out.size)
  have h:=zbP (K:=fun _=>False) (p:=p1) (qb:=b1) (r:=0) (d:=d1) [99] (HQ1.out.1.low hb) (by decide) (fun i hi=>(HQB1.out.1 i hi).1)
  rw [show namesP p1.its [99]=false by rw [← HP1.out];exact hqN2] at h
  exact h
 have HFI : Hid (∀ W,Below z6.heap.size z6 W→Calls Tryz.prog 31 #[.agg #[.int .i64 0,.slice bA 2 cA]] W fun ew w'=>ew=.returned (.int .i64 1)∧Below W.heap.size W w'):=fun W hW=>by
  have h:=za2 (K:=fun _=>False) (b:=[[hqE 97 1],[]]) (hbA.low hW) 0
  rw [hqF] at h
  exact h
 have s0:=zab (HX1.out.low HB7.out) (k:=0) rfl
 have s1:=zab (HX1.out.low HB7.out) (k:=1) rfl
 have s2:=zab (HX1.out.low HB7.out) (k:=2) rfl
 have s3:=zab (HX1.out.low HB7.out) (k:=3) rfl
 have s4:=zab (HX1.out.low HB7.out) (k:=4) rfl
 have dd : Hid (Below z6.heap.size z6 z6):=Below.refl _ _
 clear hbC hbA
 go_wp2_with (go_at_call 27;(with_reducible refine (HST.out _ (Below.refl _ _)).mono ?_);rintro e zz ⟨x1,x2,rfl,ho,hb⟩;obtain ⟨rax,rcx,e1⟩:=ho.sl1;rw [show hqR1.length=1 from rfl] at e1;subst e1;obtain ⟨ray,rcy,e2⟩:=ho.sl2;rw [show ([] : List PMt).length=0 from rfl] at e2;subst e2;replace dd : Hid (Below z6.heap.size z6 zz):=dd.out.trans (hb.mono dd.out.size);clear hb;clear ho HST)
 replace dd : Hid (Below z6.heap.size z6 zz.drew):=zae dd.out
 refine wp_region_held_drew (S:=fun W=>(W.cell? ⟨v3.heap.size,0,none⟩=some (.slice a3 2 c3))∧(W.cell? ⟨v3.heap.size,1,none⟩=some (.slice b3 0 d3))∧(W.cell? ⟨v3.heap.size,2,none⟩=some (.int .i64 p3.within))∧(W.cell? ⟨v3.heap.size,3,none⟩=some (.string (strB p3.by_)))∧(W.cell? ⟨v3.heap.size,4,none⟩=some (.int .i64 p3.pick))∧(W.cell? ⟨v1.heap.size,0,none⟩=some (.slice a1 2 c1))∧(W.cell? ⟨v1.heap.size,1,none⟩=some (.slice b1 0 d1))∧(W.cell? ⟨v1.heap.size,2,none⟩=some (.int .i64 p1.within))∧(W.cell? ⟨v1.heap.size,3,none⟩=some (.string (strB p1.by_)))∧(W.cell? ⟨v1.heap.size,4,none⟩=some (.int .i64 p1.pick))∧(W.cell? ⟨gN,oN,none⟩=some (.int .i64 2))∧(W.cell? ⟨gF,oF,none⟩=some (.int .i64 6))∧(W.cell? ⟨gC,oC,none⟩=some (.int .i64 0))∧(W.cell? ⟨gC,oC+1,none⟩=some (.slice bC 2 cC))∧(W.cell? ⟨gA,oA,none⟩=some (.int .i64 0))∧(W.cell? ⟨gA,oA+1,none⟩=some (.slice bA 2 cA))∧(Hid (Below z6.heap.size z6 W))) (by kernel_rfl) ⟨zaa dd.out y0,zaa dd.out y1,zaa dd.out y2,zaa dd.out y3,zaa dd.out y4,zaa dd.out s0,zaa dd.out s1,zaa dd.out s2,zaa dd.out s3,zaa dd.out s4,zaa dd.out n0,zaa dd.out f0,zaa dd.out k0,zaa dd.out k1,zaa dd.out l0,zaa dd.out l1,dd⟩ (fun hHeld=>?_)
 as_aux_lemma =>
 refine rL 0 104 (h:=?_)
 try simp only [Act.put,rI,rZ,rS]
 refine rL 1 105 (h:=?_)
 try simp only [Act.put,rI,rZ,rS]
 refine rL 2 106 (h:=?_)
 try simp only [Act.put,rI,rZ,rS]
 refine rL 3 107 (h:=?_)
 try simp only [Act.put,rI,rZ,rS]
 refine rL 4 108 (h:=?_)
 try simp only [Act.put,rI,rZ,rS]
 refine rL 5 109 (h:=?_)
 try simp only [Act.put,rI,rZ,rS]
 refine rL 6 110 (h:=?_)
 try simp only [Act.put,rI,rZ,rS]
 refine rL 7 111 (h:=?_)
 try simp only [Act.put,rI,rZ,rS]
 refine rL 8 112 (h:=?_)
 try simp only [Act.put,rI,rZ,rS]
 refine rL 9 113 (h:=?_)
 try simp only [Act.put,rI,rZ,rS]
 refine rL 10 114 (h:=?_)
 try simp only [Act.put,rI,rZ,rS]
 refine rL 11 115 (h:=?_)
 try simp only [Act.put,rI,rZ,rS]
 refine rL 12 116 (h:=?_)
 try simp only [Act.put,rI,rZ,rS]
 refine rL 13 117 (h:=?_)
 try simp only [Act.put,rI,rZ,rS]
 refine rL 14 118 (h:=?_)
 try simp only [Act.put,rI,rZ,rS]
 refine rL 15 119 (h:=?_)
 try simp only [Act.put,rI,rZ,rS]
 refine rL 16 120 (h:=?_)
 try simp only [Act.put,rI,rZ,rS]
 refine rL 17 121 (h:=?_)
 try simp only [Act.put,rI,rZ,rS]
 refine rL 18 122 (h:=?_)
 try simp only [Act.put,rI,rZ,rS]
 refine rL 19 123 (h:=?_)
 try simp only [Act.put,rI,rZ,rS]
 as_aux_lemma =>
 refine rL 20 124 (h:=?_)
 try simp only [Act.put,rI,rZ,rS]
 refine rL 21 125 (h:=?_)
 try simp only [Act.put,rI,rZ,rS]
 refine rK 22 126 (h:=?_)
 try simp only [Act.put,rI,rZ,rS]
 refine rL 23 127 (h:=?_)
 try simp only [Act.put,rI,rZ,rS]
 refine rL 24 128 (h:=?_)
 try simp only [Act.put,rI,rZ,rS]
 refine rL 25 129 (h:=?_)
 try simp only [Act.put,rI,rZ,rS]
 refine rL 26 130 (h:=?_)
 try simp only [Act.put,rI,rZ,rS]
 refine rL 27 131 (h:=?_)
 try simp only [Act.put,rI,rZ,rS]
 refine rL 28 132 (h:=?_)
 try simp only [Act.put,rI,rZ,rS]
 refine rL 29 133 (h:=?_)
 try simp only [Act.put,rI,rZ,rS]
 refine rL 30 134 (h:=?_)
 try simp only [Act.put,rI,rZ,rS]
 refine rL 31 135 (h:=?_)
 try simp only [Act.put,rI,rZ,rS]
 refine rL 32 136 (h:=?_)
 try simp only [Act.put,rI,rZ,rS]
 refine rL 33 137 (h:=?_)
 try simp only [Act.put,rI,rZ,rS]
 refine rL 34 138 (h:=?_)
 try simp only [Act.put,rI,rZ,rS]
 refine rL 35 139 (h:=?_)
 try simp only [Act.put,rI,rZ,rS]
 refine rL 36 140 (h:=?_)
 try simp only [Act.put,rI,rZ,rS]
 refine rL 37 141 (h:=?_)
 try simp only [Act.put,rI,rZ,rS]
 refine rL 38 142 (h:=?_)
 try simp only [Act.put,rI,rZ,rS]
 refine rL 39 143 (h:=?_)
 try simp only [Act.put,rI,rZ,rS]
 refine rL 40 144 (h:=?_)
 try simp only [Act.put,rI,rZ,rS]
 as_aux_lemma =>
 refine rK 41 145 (h:=?_)
 try simp only [Act.put,rI,rZ,rS]
 refine rL 42 146 (h:=?_)
 try simp only [Act.put,rI,rZ,rS]
 refine rL 43 147 (h:=?_)
 try simp only [Act.put,rI,rZ,rS]
 refine rK 44 148 (h:=?_)
 try simp only [Act.put,rI,rZ,rS]
 refine rA 45 (h:=fun K hK=>?_)
 dsimp only [List.getElem_toArray,List.getElem_cons_succ,List.getElem_cons_zero]
 go_simp
 go_at_call 46
 with_reducible refine (HWT.out _ dd.out).mono ?_
 rintro e zw ⟨rfl,hb⟩
 replace dd : Hid (Below z6.heap.size z6 zw):=dd.out.trans (hb.mono dd.out.size)
 clear hb HWT
 go_wp2_with fail
 refine hK.out _ _ ⟨zaa dd.out y0,zaa dd.out y1,zaa dd.out y2,zaa dd.out y3,zaa dd.out y4,zaa dd.out s0,zaa dd.out s1,zaa dd.out s2,zaa dd.out s3,zaa dd.out s4,zaa dd.out n0,zaa dd.out f0,zaa dd.out k0,zaa dd.out k1,zaa dd.out l0,zaa dd.out l1,dd⟩ (fun hHeld=>?_)
 clear hK K
 try simp only [Act.put,rI,rZ,rS]
 as_aux_lemma =>
 refine rL 46 150 (h:=?_)
 try simp only [Act.put,rI,rZ,rS]
 refine rL 47 151 (h:=?_)
 try simp only [Act.put,rI,rZ,rS]
 refine rL 48 152 (h:=?_)
 try simp only [Act.put,rI,rZ,rS]
 refine rL 49 153 (h:=?_)
 try simp only [Act.put,rI,rZ,rS]
 refine rL 50 154 (h:=?_)
 try simp only [Act.put,rI,rZ,rS]
 refine rL 51 155 (h:=?_)
 try simp only [Act.put,rI,rZ,rS]
 refine rL 52 156 (h:=?_)
 try simp only [Act.put,rI,rZ,rS]
 refine rL 53 157 (h:=?_)
 try simp only [Act.put,rI,rZ,rS]
 refine rL 54 158 (h:=?_)
 try simp only [Act.put,rI,rZ,rS]
 refine rL 55 159 (h:=?_)
 try simp only [Act.put,rI,rZ,rS]
 refine rK 56 160 (h:=?_)
 try simp only [Act.put,rI,rZ,rS]
 refine rL 57 161 (h:=?_)
 try simp only [Act.put,rI,rZ,rS]
 refine rL 58 162 (h:=?_)
 try simp only [Act.put,rI,rZ,rS]
 as_aux_lemma =>
 refine rL 59 163 (h:=?_)
 try simp only [Act.put,rI,rZ,rS]
 refine rL 60 164 (h:=?_)
 try simp only [Act.put,rI,rZ,rS]
 refine rL 61 165 (h:=?_)
 try simp only [Act.put,rI,rZ,rS]
 refine rL 62 166 (h:=?_)
 try simp only [Act.put,rI,rZ,rS]
 refine rL 63 167 (h:=?_)
 try simp only [Act.put,rI,rZ,rS]
 refine rL 64 168 (h:=?_)
 try simp only [Act.put,rI,rZ,rS]
 refine rL 65 169 (h:=?_)
 try simp only [Act.put,rI,rZ,rS]
 refine rL 66 170 (h:=?_)
 try simp only [Act.put,rI,rZ,rS]
 refine rL 67 171 (h:=?_)
 try simp only [Act.put,rI,rZ,rS]
 refine rL 68 172 (h:=?_)
 try simp only [Act.put,rI,rZ,rS]
 as_aux_lemma =>
 refine rL 69 173 (h:=?_)
 try simp only [Act.put,rI,rZ,rS]
 refine rK 70 174 (h:=?_)
 try simp only [Act.put,rI,rZ,rS]
 refine rA 71 (h:=fun K hK=>?_)
 dsimp only [List.getElem_toArray,List.getElem_cons_succ,List.getElem_cons_zero]
 go_simp
 go_at_call 36
 with_reducible refine (HN1.out _ dd.out).mono ?_
 rintro e zw ⟨rfl,hb⟩
 replace dd : Hid (Below z6.heap.size z6 zw):=dd.out.trans (hb.mono dd.out.size)
 clear hb HN1
 go_wp2_with fail
 refine hK.out _ _ ⟨zaa dd.out y0,zaa dd.out y1,zaa dd.out y2,zaa dd.out y3,zaa dd.out y4,zaa dd.out s0,zaa dd.out s1,zaa dd.out s2,zaa dd.out s3,zaa dd.out s4,zaa dd.out n0,zaa dd.out f0,zaa dd.out k0,zaa dd.out k1,zaa dd.out l0,zaa dd.out l1,dd⟩ (fun hHeld=>?_)
 clear hK K
 try simp only [Act.put,rI,rZ,rS]
 refine rL 72 176 (h:=?_)
 try simp only [Act.put,rI,rZ,rS]
 as_aux_lemma =>
 refine rL 73 177 (h:=?_)
 try simp only [Act.put,rI,rZ,rS]
 refine rK 74 178 (h:=?_)
 try simp only [Act.put,rI,rZ,rS]
 refine rA 75 (h:=fun K hK=>?_)
 dsimp only [List.getElem_toArray,List.getElem_cons_succ,List.getElem_cons_zero]
 go_simp
 go_at_call 36
 with_reducible refine (HN2.out _ dd.out).mono ?_
 rintro e zw ⟨rfl,hb⟩
 replace dd : Hid (Below z6.heap.size z6 zw):=dd.out.trans (hb.mono dd.out.size)
 clear hb HN2
 go_wp2_with fail
 refine hK.out _ _ ⟨zaa dd.out y0,zaa dd.out y1,zaa dd.out y2,zaa dd.out y3,zaa dd.out y4,zaa dd.out s0,zaa dd.out s1,zaa dd.out s2,zaa dd.out s3,zaa dd.out s4,zaa dd.out n0,zaa dd.out f0,zaa dd.out k0,zaa dd.out k1,zaa dd.out l0,zaa dd.out l1,dd⟩ (fun hHeld=>?_)
 clear hK K
 try simp only [Act.put,rI,rZ,rS]
 refine rL 76 180 (h:=?_)
 try simp only [Act.put,rI,rZ,rS]
 refine rL 77 181 (h:=?_)
 try simp only [Act.put,rI,rZ,rS]
 as_aux_lemma =>
 refine rL 78 182 (h:=?_)
 try simp only [Act.put,rI,rZ,rS]
 refine rL 79 183 (h:=?_)
 try simp only [Act.put,rI,rZ,rS]
 refine rL 80 184 (h:=?_)
 try simp only [Act.put,rI,rZ,rS]
 refine rK 81 185 (h:=?_)
 try simp only [Act.put,rI,rZ,rS]
 refine rA 82 (h:=fun K hK=>?_)
 dsimp only [List.getElem_toArray,List.getElem_cons_succ,List.getElem_cons_zero]
 go_simp
 go_at_call 31
 with_reducible refine (HFI.out _ dd.out).mono ?_
 rintro e zw ⟨rfl,hb⟩
 replace dd : Hid (Below z6.heap.size z6 zw):=dd.out.trans (hb.mono dd.out.size)
 clear hb HFI
 go_wp2_with fail
 refine hK.out _ _ ⟨zaa dd.out y0,zaa dd.out y1,zaa dd.out y2,zaa dd.out y3,zaa dd.out y4,zaa dd.out s0,zaa dd.out s1,zaa dd.out s2,zaa dd.out s3,zaa dd.out s4,zaa dd.out n0,zaa dd.out f0,zaa dd.out k0,zaa dd.out k1,zaa dd.out l0,zaa dd.out l1,dd⟩ (fun hHeld=>?_)
 clear hK K
 try simp only [Act.put,rI,rZ,rS]
 refine rL 83 187 (h:=?_)
 try simp only [Act.put,rI,rZ,rS]
 refine rL 84 188 (h:=?_)
 try simp only [Act.put,rI,rZ,rS]
 refine rL 85 0 (h:=?_)
 try simp only [Act.put,rI,rZ]
 refine wpAnyH_done (by kernel_rfl) ?_ _
 go_wp2
 go_ret
 exact ⟨rfl,HU3.out.trans ((HB7.out.trans (dd.out.mono HB7.out.size)).mono HU3.out.size)⟩
end Go.Proofs.YtkmlfkbpcgkpaaaGreatDoor
