/- The statement NfaTells: its walk. -/
import Derived.Test.YtefcbgnckgapgaaRKn
import Derived.Test.YtefcbgnckgapgaaRJn
namespace Go.Proofs.Ytefcbgnckgapgaa
open Go.RowKit Go.Lib Go.Op
set_option maxHeartbeats 8000000 in
set_option maxRecDepth 100000 in
theorem ntells_walk (w : World) {a b : Option Addr} {q c r e : Nat} {p : PQu} (h : QuAt (fun _=>False) w a q c b r e p) (hl : QLn p) {a2 : Option Addr} {c2 : Nat} {names : List (List UInt8)} (hn : RowK nameD (fun _=>False) w (.slice a2 names.length c2) names) (hnl : names.length≤140737488355328) (hnb : ∀ x∈names,x.length≤maxLen) :
 Calls Try.prog 3 #[.agg #[.slice a q c,.slice b r e,.int .i64 p.within,.string (strB p.by_),.int .i64 p.pick],.slice a2 names.length c2] w fun e w'=>e=.returned (.bool true)∧Below w.heap.size w w':=by
 have hb0:=(Below.refl w.heap.size w).alloc (Nat.le_refl _) (.cells #[.slice a q c,.slice b r e,.int .i64 p.within,.string (strB p.by_),.int .i64 p.pick] 25)
 have HX:=hid (Blk.new w #[.slice a q c,.slice b r e,.int .i64 p.within,.string (strB p.by_),.int .i64 p.pick] 25)
 have HB0:=hid hb0
 have HQ:=hid h
 have HL:=hid hl
 have HN:=hid hn
 have HNB:=hid hnb
 obtain ⟨nl,hnlq⟩ : ∃ nl,names.length=nl:=⟨_,rfl⟩
 have HNL:=hid hnlq
 have HN2:=hid hnl
 rw [hnlq] at hnl ⊢
 clear hn hnb hnlq
 have HH:=hid (nhead_calls (w:=w.alloc (.cells #[.slice a q c,.slice b r e,.int .i64 p.within,.string (strB p.by_),.int .i64 p.pick] 25)))
 clear h hl hb0
 go_enter Try.func3,Try.ntmps3
 go_wp2_with fail
 with_reducible refine HH.out.mono ?_
 rintro e1 w1 ⟨rfl,hb1⟩
 have HB1:=hid (HB0.out.trans (hb1.mono HB0.out.size))
 have X1:=hid (HX.out.low hb1)
 have x0:=tcell X1.out (k:=0) rfl
 have x1:=tcell X1.out (k:=1) rfl
 have x2:=tcell X1.out (k:=2) rfl
 have x3:=tcell X1.out (k:=3) rfl
 have x4:=tcell X1.out (k:=4) rfl
 have HG:=hid (great_calls (w:=w1) ⟨HQ.out.1.low HB1.out,HQ.out.2.low HB1.out⟩ HL.out)
 clear hb1 HH HX HB0
 go_wp2_with fail
 with_reducible refine HG.out.mono ?_
 rintro e2 w2 ⟨g,rfl,hsm,hb2⟩
 have HB2:=hid (HB1.out.trans (hb2.mono HB1.out.size))
 have X2:=hid (X1.out.low hb2)
 clear hb2 HG X1 HB1 x0 x1 x2 x3 x4
 cases g with
 | true =>
   clear hsm
   go_wp2
   go_ret
   exact ⟨rfl,HB2.out⟩
 | false =>
 have HS:=hid (hsm rfl)
 clear hsm
 have x0:=tcell X2.out (k:=0) rfl
 have x1:=tcell X2.out (k:=1) rfl
 have x2:=tcell X2.out (k:=2) rfl
 have x3:=tcell X2.out (k:=3) rfl
 have x4:=tcell X2.out (k:=4) rfl
 have hgn:=ngreat_calls (w:=w2) (HN.out.low HB2.out) HN2.out HNB.out
 obtain ⟨gz,hgz⟩ : ∃ z,decide (3000≤greatN names names.length)=z:=⟨_,rfl⟩
 rw [hgz,HNL.out] at hgn
 have HGN:=hid hgn
 have HGZ:=hid hgz
 clear hgn hgz
 go_wp2_with fail
 with_reducible refine HGN.out.mono ?_
 rintro e3 w3 ⟨rfl,hb3⟩
 have HB3:=hid (HB2.out.trans (hb3.mono HB2.out.size))
 have X3:=hid (X2.out.low hb3)
 clear hb3 HGN X2 HB2 x0 x1 x2 x3 x4
 cases gz with
 | true =>
   go_wp2
   go_ret
   exact ⟨rfl,HB3.out⟩
 | false =>
 have x0:=tcell X3.out (k:=0) rfl
 have x1:=tcell X3.out (k:=1) rfl
 have x2:=tcell X3.out (k:=2) rfl
 have x3:=tcell X3.out (k:=3) rfl
 have x4:=tcell X3.out (k:=4) rfl
 obtain ⟨L,hL⟩ : ∃ L,(if rightQ p then stsN p.its else [])=L:=⟨_,rfl⟩
 have HL2 : Hid ((if rightQ p then stsN p.its else [])=L):=hL
 have HLB : Hid (L.length≤1000∧∀ s∈L,s.nx.length≤1000∧s.gd.length≤1000):=by
  show _∧_
  rw [← hL]
  split
  ·rename_i hr
   obtain ⟨i0,rr,hi0,_,_,h6⟩:=rightQ_first hr
   have hne : p.its≠[]:=by rw [hi0];simp
   refine ⟨by rw [stsN_len];omega,fun s hs=>?_⟩
   obtain ⟨k,hk⟩:=List.getElem?_of_mem hs
   have:=sts_nx hne hk
   omega
  ·exact ⟨Nat.zero_le _,fun s hs=>by cases hs⟩
 obtain ⟨zb,hzb⟩ : ∃ z,(rightQ p && accQ p.its names)=z:=⟨_,rfl⟩
 have hd:=vbelow_drew (Below.refl w3.heap.size w3)
 have HA1 : Hid (∀ W,Below w3.drew.heap.size w3.drew W→Calls Try.prog 15 #[.agg #[.slice a q c,.slice b r e,.int .i64 p.within,.string (strB p.by_),.int .i64 p.pick],.slice a2 nl c2] W fun e w'=>e=.returned (.bool zb)∧Below W.heap.size W w'):=fun W hW=>by
  have hbw:=HB3.out.trans ((hd.trans hW).mono HB3.out.size)
  have h:=naccepts_calls (w:=W) (K:=fun _=>False) ⟨HQ.out.1.low hbw,HQ.out.2.low hbw⟩ HS.out.bd (HN.out.low hbw) HN2.out
  rw [hzb,HNL.out] at h
  exact h
 have HA2 : Hid (∀ W,Below w3.drew.heap.size w3.drew W→Calls Try.prog 16 #[.agg #[.slice a q c,.slice b r e,.int .i64 p.within,.string (strB p.by_),.int .i64 p.pick],.slice a2 nl c2] W fun e w'=>e=.returned (.bool zb)∧Below W.heap.size W w'):=fun W hW=>by
  have hbw:=HB3.out.trans ((hd.trans hW).mono HB3.out.size)
  have h:=nraccepts_calls (w:=W) (K:=fun _=>False) ⟨HQ.out.1.low hbw,HQ.out.2.low hbw⟩ HS.out.bd (HN.out.low hbw) HN2.out
  rw [hzb,HNL.out] at h
  exact h
 have HC1 : Hid (∀ W,Below w3.drew.heap.size w3.drew W→Calls Try.prog 13 #[.agg #[.slice a q c,.slice b r e,.int .i64 p.within,.string (strB p.by_),.int .i64 p.pick]] W (CoTo p W)):=fun W hW=>by
  have hbw:=HB3.out.trans ((hd.trans hW).mono HB3.out.size)
  exact ncompile_calls (w:=W) (K:=fun _=>False) ⟨HQ.out.1.low hbw,HQ.out.2.low hbw⟩ HS.out.bd
 have HC2 : Hid (∀ W,Below w3.drew.heap.size w3.drew W→Calls Try.prog 14 #[.agg #[.slice a q c,.slice b r e,.int .i64 p.within,.string (strB p.by_),.int .i64 p.pick]] W (CoTo p W)):=fun W hW=>by
  have hbw:=HB3.out.trans ((hd.trans hW).mono HB3.out.size)
  exact nrcompile_calls (w:=W) (K:=fun _=>False) ⟨HQ.out.1.low hbw,HQ.out.2.low hbw⟩ HS.out.bd
 have HBd:=hid (vbelow_drew HB3.out)
 have HV0 : Hid (Below w3.drew.heap.size w3.drew w3.drew):=Below.refl _ _
 have t0 : (zb == zb)=true:=by cases zb <;> rfl
 have f0 : w3.drew.cell? ⟨w.heap.size,0,none⟩=some (.slice a q c):=x0
 have f1 : w3.drew.cell? ⟨w.heap.size,1,none⟩=some (.slice b r e):=x1
 have f2 : w3.drew.cell? ⟨w.heap.size,2,none⟩=some (.int .i64 p.within):=x2
 have f3 : w3.drew.cell? ⟨w.heap.size,3,none⟩=some (.string (strB p.by_)):=x3
 have f4 : w3.drew.cell? ⟨w.heap.size,4,none⟩=some (.int .i64 p.pick):=x4
 clear hL hzb hd
 go_wp2_with fail
 clear x0 x1 x2 x3 x4
 refine wp_region_held_drew (S:=fun W=>W.cell? ⟨w.heap.size,0,none⟩=some (.slice a q c)∧W.cell? ⟨w.heap.size,1,none⟩=some (.slice b r e)∧W.cell? ⟨w.heap.size,2,none⟩=some (.int .i64 p.within)∧W.cell? ⟨w.heap.size,3,none⟩=some (.string (strB p.by_))∧W.cell? ⟨w.heap.size,4,none⟩=some (.int .i64 p.pick)) (by kernel_rfl) ⟨by assumption,by assumption,by assumption,by assumption,by assumption⟩ (fun hHeld=>?_)
 refine tK 0 14 (h:=?_)
 try simp only [Act.put,sI,sZ,sS]
 refine tK 1 15 (h:=?_)
 try simp only [Act.put,sI,sZ,sS]
 refine tK 2 16 (h:=?_)
 try simp only [Act.put,sI,sZ,sS]
 refine tK 4 18 (h:=?_)
 try simp only [Act.put,sI,sZ,sS]
 refine wpAnyH_ready (rs:=[3]) (by kernel_rfl) (by simp) ?_
 refine AllReadyH.cons (o:=_) rfl (fun K hK=>?_) AllReadyH.nil
 dsimp only [List.getElem_toArray,List.getElem_cons_succ,List.getElem_cons_zero]
 go_simp
 go_at_call 13
 (with_reducible refine (HC1.out _ HV0.out).mono ?_)
 rintro e v1 ⟨v,rfl,hrow,hb⟩
 rw [HL2.out] at hrow
 obtain ⟨va0,vc0,rfl⟩:=hrow.slice
 have HR0:=hid (hrow.mono (K':=fun _=>False) (fun _ h=>h.elim))
 clear hrow
 have HV1:=hid (HV0.out.trans (hb.mono HV0.out.size))
 have g0:=tkeep hb f0
 have g1:=tkeep hb f1
 have g2:=tkeep hb f2
 have g3:=tkeep hb f3
 have g4:=tkeep hb f4
 clear hb
 go_wp2_with fail
 refine hK.out _ _ ⟨g0,g1,g2,g3,g4⟩ (fun hHeld=>?_)
 clear hK K
 try simp only [Act.put,sI,sZ,sS]
 refine wpAnyH_ready (rs:=[5]) (by kernel_rfl) (by simp) ?_
 refine AllReadyH.cons (o:=_) rfl (fun K hK=>?_) AllReadyH.nil
 dsimp only [List.getElem_toArray,List.getElem_cons_succ,List.getElem_cons_zero]
 go_simp
 go_at_call 14
 (with_reducible refine (HC2.out _ HV1.out).mono ?_)
 rintro e v2 ⟨v,rfl,hrow,hb⟩
 rw [HL2.out] at hrow
 obtain ⟨va1,vc1,rfl⟩:=hrow.slice
 have HR1:=hid (hrow.mono (K':=fun _=>False) (fun _ h=>h.elim))
 clear hrow
 have HV2:=hid (HV1.out.trans (hb.mono HV1.out.size))
 have HR0:=hid (HR0.out.low hb)
 have u0:=tkeep hb g0
 have u1:=tkeep hb g1
 have u2:=tkeep hb g2
 have u3:=tkeep hb g3
 have u4:=tkeep hb g4
 clear hb
 go_wp2_with fail
 refine hK.out _ _ ⟨u0,u1,u2,u3,u4⟩ (fun hHeld=>?_)
 clear hK K
 try simp only [Act.put,sI,sZ,sS]
 refine wpAnyH_ready (rs:=[6]) (by kernel_rfl) (by simp) ?_
 refine AllReadyH.cons (o:=_) rfl (fun K hK=>?_) AllReadyH.nil
 dsimp only [List.getElem_toArray,List.getElem_cons_succ,List.getElem_cons_zero]
 go_simp
 go_at_call 12
 (with_reducible refine (nrsame_calls HR0.out HR1.out HLB.out.1 HLB.out.2).mono ?_)
 rintro e v3 ⟨rfl,hb⟩
 have HV3:=hid (HV2.out.trans (hb.mono HV2.out.size))
 have s0:=tkeep hb u0
 have s1:=tkeep hb u1
 have s2:=tkeep hb u2
 have s3:=tkeep hb u3
 have s4:=tkeep hb u4
 clear hb
 go_wp2_with fail
 refine hK.out _ _ ⟨s0,s1,s2,s3,s4⟩ (fun hHeld=>?_)
 clear hK K
 try simp only [Act.put,sI,sZ,sS]
 refine tK 7 21 (h:=?_)
 try simp only [Act.put,sI,sZ,sS]
 refine tK 8 22 (h:=?_)
 try simp only [Act.put,sI,sZ,sS]
 refine tK 9 23 (h:=?_)
 try simp only [Act.put,sI,sZ,sS]
 refine tK 10 24 (h:=?_)
 try simp only [Act.put,sI,sZ,sS]
 refine tK 12 26 (h:=?_)
 try simp only [Act.put,sI,sZ,sS]
 refine tK 13 27 (h:=?_)
 try simp only [Act.put,sI,sZ,sS]
 refine wpAnyH_ready (rs:=[11]) (by kernel_rfl) (by simp) ?_
 refine AllReadyH.cons (o:=_) rfl (fun K hK=>?_) AllReadyH.nil
 dsimp only [List.getElem_toArray,List.getElem_cons_succ,List.getElem_cons_zero]
 go_simp
 go_at_call 15
 (with_reducible refine (HA1.out _ HV3.out).mono ?_)
 rintro e v4 ⟨rfl,hb⟩
 have HV4:=hid (HV3.out.trans (hb.mono HV3.out.size))
 have x0:=tkeep hb s0
 have x1:=tkeep hb s1
 have x2:=tkeep hb s2
 have x3:=tkeep hb s3
 have x4:=tkeep hb s4
 clear hb
 go_wp2_with fail
 refine hK.out _ _ ⟨x0,x1,x2,x3,x4⟩ (fun hHeld=>?_)
 clear hK K
 try simp only [Act.put,sI,sZ,sS]
 refine wpAnyH_ready (rs:=[14]) (by kernel_rfl) (by simp) ?_
 refine AllReadyH.cons (o:=_) rfl (fun K hK=>?_) AllReadyH.nil
 dsimp only [List.getElem_toArray,List.getElem_cons_succ,List.getElem_cons_zero]
 go_simp
 go_at_call 16
 (with_reducible refine (HA2.out _ HV4.out).mono ?_)
 rintro e v5 ⟨rfl,hb⟩
 have HV5:=hid (HV4.out.trans (hb.mono HV4.out.size))
 have y0:=tkeep hb x0
 have y1:=tkeep hb x1
 have y2:=tkeep hb x2
 have y3:=tkeep hb x3
 have y4:=tkeep hb x4
 clear hb
 go_wp2_with fail
 refine hK.out _ _ ⟨y0,y1,y2,y3,y4⟩ (fun hHeld=>?_)
 clear hK K
 try simp only [Act.put,sI,sZ,sS]
 refine tK 15 29 (h:=?_)
 try simp only [Act.put,sI,sZ,sS]
 refine tK 16 30 (h:=?_)
 try simp only [Act.put,sI,sZ,sS]
 refine tK 17 4 (h:=?_)
 try simp only [Act.put,sI,sZ,sS]
 refine wpAnyH_done (by kernel_rfl) ?_ _
 go_wp2
 go_ret
 exact ⟨rfl,HBd.out.trans (HV5.out.mono HBd.out.size)⟩
end Go.Proofs.Ytefcbgnckgapgaa
