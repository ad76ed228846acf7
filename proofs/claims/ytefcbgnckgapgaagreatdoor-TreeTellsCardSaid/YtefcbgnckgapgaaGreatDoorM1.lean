/- Queries: calls and values. | Queries: values. | Queries in plain words: nothing that is read makes more tokens. | Queries: expressions. | Queries: brackets, terms. -/
import Derived.Test.YtefcbgnckgapgaaGreatDoorM0
namespace Go.Proofs.YtefcbgnckgapgaaGreatDoor
open Go.RowKit Go.Lib Go.Op
section
variable {w w' : World} {b : Nat} {t0 t1 t2 t3 t4 t5 t6 : Value}
theorem XBlk.setAll (h : XBlk w b t0 t1 t2 t3 t4 t5 t6) (v0 v1 v2 v3 v4 v5 v6 : Value) : XBlk (((((((w.setCell ⟨b,0,none⟩ v0).setCell ⟨b,1,none⟩ v1).setCell ⟨b,2,none⟩ v2).setCell ⟨b,3,none⟩ v3).setCell ⟨b,4,none⟩ v4).setCell ⟨b,5,none⟩ v5).setCell ⟨b,6,none⟩ v6) b v0 v1 v2 v3 v4 v5 v6:=by
 unfold XBlk at h ⊢
 rw [tsetCell_blk (tsetCell_blk (tsetCell_blk (tsetCell_blk (tsetCell_blk (tsetCell_blk (tsetCell_blk h _) _) _) _) _) _) _]
 rfl
theorem XBlk.past (h : XBlk w b t0 t1 t2 t3 t4 t5 t6) {b' : Nat} (hne : b≠b') (v0 v1 v2 v3 v4 v5 v6 : Value) : XBlk (((((((w.setCell ⟨b',0,none⟩ v0).setCell ⟨b',1,none⟩ v1).setCell ⟨b',2,none⟩ v2).setCell ⟨b',3,none⟩ v3).setCell ⟨b',4,none⟩ v4).setCell ⟨b',5,none⟩ v5).setCell ⟨b',6,none⟩ v6) b t0 t1 t2 t3 t4 t5 t6 :=
 ((((((h.keep (TFr.at b' 0 v0) hne).keep (TFr.at b' 1 v1) hne).keep (TFr.at b' 2 v2) hne).keep (TFr.at b' 3 v3) hne).keep (TFr.at b' 4 v4) hne).keep (TFr.at b' 5 v5) hne).keep (TFr.at b' 6 v6) hne
end
section
variable {w : World} {R T E : Nat} {s : RS}
set_option maxHeartbeats 1000000 in
set_option maxRecDepth 100000 in
theorem callX_calls (h : RdR w R T E s) (k : Int) : Calls Tryz.prog 132 #[.pointer (some ⟨R,0,none⟩),.int .i64 k] w (ExTo R T E (callT E s k) w):=by
 have hR:=h.lt
 obtain ⟨s1,hs1⟩ : ∃ s1,needT E s 4 [40]=s1:=⟨_,rfl⟩
 have hb1:=(Below.refl w.heap.size w).alloc (Nat.le_refl _) (.cells #[.int .i64 0,.int .i64 0,.int .i64 0,.string ⟨#[]⟩,.string ⟨#[]⟩,.string ⟨#[]⟩,.slice none 0 0] 40)
 have hb2:=hb1.alloc hb1.size (.cells #[.int .i64 0,.int .i64 0,.int .i64 0,.string ⟨#[]⟩,.string ⟨#[]⟩,.string ⟨#[]⟩,.slice none 0 0] 40)
 have hx4:=(XBlk.new w (.int .i64 0) (.int .i64 0) (.int .i64 0) (.string ⟨#[]⟩) (.string ⟨#[]⟩) (.string ⟨#[]⟩) (.slice none 0 0)).keep (TFr.of_below (K:=fun _=>False) ((Below.refl _ _).alloc (Nat.le_refl _) (.cells #[.int .i64 0,.int .i64 0,.int .i64 0,.string ⟨#[]⟩,.string ⟨#[]⟩,.string ⟨#[]⟩,.slice none 0 0] 40))) id
 have hx5:=XBlk.new (w.alloc (.cells #[.int .i64 0,.int .i64 0,.int .i64 0,.string ⟨#[]⟩,.string ⟨#[]⟩,.string ⟨#[]⟩,.slice none 0 0] 40)) (.int .i64 0) (.int .i64 0) (.int .i64 0) (.string ⟨#[]⟩) (.string ⟨#[]⟩) (.string ⟨#[]⟩) (.slice none 0 0)
 rw [show (w.alloc (.cells #[.int .i64 0,.int .i64 0,.int .i64 0,.string ⟨#[]⟩,.string ⟨#[]⟩,.string ⟨#[]⟩,.slice none 0 0] 40)).heap.size=w.heap.size+1 by simp] at hx5
 have HM:=hid (fun W=>sign_mark ⟨#[40]⟩ W)
 have HM2:=hid (fun W=>sign_mark ⟨#[41]⟩ W)
 have H:=hid (h.keep hb2)
 have HB2:=hid hb2
 have HX4:=hid hx4
 have HX5:=hid hx5
 by_cases hk : k=3
 ·obtain ⟨a,ha⟩ : ∃ a,nameT E s1=a:=⟨_,rfl⟩
  have hs : callT E s k=(.mk 3 noV a.1 [] [],needT E a.2 4 [41]):=by unfold callT;rw [hs1];dsimp only;rw [if_pos hk,ha]
  rw [hs]
  have HS1:=hid hs1
  have HA:=hid ha
  subst hk
  clear h ha hs hb1 hb2 hx4 hx5 hs1
  go_enter Tryz.func132,Tryz.ntmps132
  go_wp2_with fail
  with_reducible refine (HM.out _).mono ?_
  rintro e w1 ⟨rfl,hb1⟩
  have Y4:=hid (HX4.out.keep (TFr.of_below (K:=fun _=>False) hb1) id)
  have Y5:=hid (HX5.out.keep (TFr.of_below (K:=fun _=>False) hb1) id)
  have HB1:=hid (HB2.out.trans (hb1.mono HB2.out.size))
  have hnd:=needS_calls (H.out.keep hb1) [40]
  rw [HS1.out] at hnd
  have HND : Hid (Calls Tryz.prog 35 #[.pointer (some ⟨R,0,none⟩),.agg #[.int .i64 4,.string ⟨#[40]⟩]] w1 fun e w'=>e=.returned (.tuple #[])∧RdTo R T E s1 w1 w'):=hnd
  clear hb1 hnd HX4 HX5 HB2 H HM
  go_wp2_with fail
  with_reducible refine HND.out.mono ?_
  rintro e w2 ⟨rfl,hd2⟩
  have V4:=hid (Y4.out.keep hd2.fr (by omega))
  have V5:=hid (Y5.out.keep hd2.fr (by omega))
  have D2:=hid (RdTo.after HB1.out hd2)
  clear hd2 Y4 Y5 HND
  have hn:=nameR_calls D2.out.rd
  rw [HA.out] at hn
  have HN:=hid hn
  clear hn
  go_wp2_with fail
  with_reducible refine HN.out.mono ?_
  rintro e w3 ⟨rfl,hd3⟩
  have U4:=hid (V4.out.keep hd3.fr (by omega))
  have u5:=V5.out.keep hd3.fr (by omega)
  have D3:=hid (D2.out.trans hd3)
  clear hd3 V4 V5 HN D2
  have P5:=hid (u5.setAll (.int .i64 3) (.int .i64 0) (.int .i64 0) (.string ⟨#[]⟩) (.string (strB a.1)) (.string ⟨#[]⟩) (.slice none 0 0))
  have P4:=hid (U4.out.past (b':=w.heap.size+1) (by omega) (.int .i64 3) (.int .i64 0) (.int .i64 0) (.string ⟨#[]⟩) (.string (strB a.1)) (.string ⟨#[]⟩) (.slice none 0 0))
  have D4:=hid (D3.out.set7 hR (b:=w.heap.size+1) (by omega) (.int .i64 3) (.int .i64 0) (.int .i64 0) (.string ⟨#[]⟩) (.string (strB a.1)) (.string ⟨#[]⟩) (.slice none 0 0))
  obtain ⟨c0,c1,c2,c3,c4,c5,c6,f0,f1,f2,f3,f4,f5,f6⟩:=u5.all
  clear u5 U4 D3
  go_wp2_with fail
  with_reducible refine (HM2.out _).mono ?_
  rintro e w4 ⟨rfl,hb4⟩
  have Q4:=hid (P4.out.keep (TFr.of_below (K:=fun _=>False) hb4) id)
  have Q5:=hid (P5.out.keep (TFr.of_below (K:=fun _=>False) hb4) id)
  have D5:=hid (D4.out.then hb4)
  skip
  have HNE : Hid (Calls Tryz.prog 35 #[.pointer (some ⟨R,0,none⟩),.agg #[.int .i64 4,.string ⟨#[41]⟩]] w4 fun e w'=>e=.returned (.tuple #[])∧RdTo R T E (needT E a.2 4 [41]) w4 w'):=needS_calls D5.out.rd [41]
  clear hb4 P4 P5 D4 HM2 c0 c1 c2 c3 c4 c5 c6 f0 f1 f2 f3 f4 f5 f6
  go_wp2_with fail
  with_reducible refine HNE.out.mono ?_
  rintro e w5 ⟨rfl,hd5⟩
  have W4:=(Q4.out.keep hd5.fr (by omega))
  have W5:=(Q5.out.keep hd5.fr (by omega))
  obtain ⟨d0,d1,d2,d3,d4,d5,d6,g0,g1,g2,g3,g4,g5,g6⟩:=W5.all
  obtain ⟨r0,r1,r2,r3,r4,r5,r6,h0,h1,h2,h3,h4,h5,h6⟩:=W4.all
  have D6:=hid (D5.out.trans hd5)
  skip
  clear hd5 Q4 Q5 W4 W5 HNE D5
  go_wp2
  refine bodyPost_ret (v:=exV (.mk 3 noV a.1 [] []) (.slice none 0 0)) (by simp [results,Tryz.results132,go_sem,r0,r1,r2,r3,r4,r5,r6];rfl) rfl ⟨_,0,rfl,ExK.nil _ _,?_⟩
  exact D6.out.set7 hR (Nat.le_refl _) _ _ _ _ _ _ _
 ·obtain ⟨a,ha⟩ : ∃ a,fieldT E s1 k=a:=⟨_,rfl⟩
  have hs : callT E s k=(a.1,needT E a.2 4 [41]):=by unfold callT;rw [hs1];dsimp only;rw [if_neg hk,ha]
  rw [hs]
  have HS1:=hid hs1
  have HA:=hid ha
  have ht : (k == 3)=false:=by rw [beq_eq_false_iff_ne];exact hk
  clear h ha hs hb1 hb2 hx4 hx5 hs1
  go_enter Tryz.func132,Tryz.ntmps132
  go_wp2_with fail
  with_reducible refine (HM.out _).mono ?_
  rintro e w1 ⟨rfl,hb1⟩
  have Y4:=hid (HX4.out.keep (TFr.of_below (K:=fun _=>False) hb1) id)
  have Y5:=hid (HX5.out.keep (TFr.of_below (K:=fun _=>False) hb1) id)
  have HB1:=hid (HB2.out.trans (hb1.mono HB2.out.size))
  have hnd:=needS_calls (H.out.keep hb1) [40]
  rw [HS1.out] at hnd
  have HND : Hid (Calls Tryz.prog 35 #[.pointer (some ⟨R,0,none⟩),.agg #[.int .i64 4,.string ⟨#[40]⟩]] w1 fun e w'=>e=.returned (.tuple #[])∧RdTo R T E s1 w1 w'):=hnd
  clear hb1 hnd HX4 HX5 HB2 H HM
  go_wp2_with fail
  with_reducible refine HND.out.mono ?_
  rintro e w2 ⟨rfl,hd2⟩
  have V4:=hid (Y4.out.keep hd2.fr (by omega))
  have V5:=hid (Y5.out.keep hd2.fr (by omega))
  have D2:=hid (RdTo.after HB1.out hd2)
  clear hd2 Y4 Y5 HND
  have hn:=fieldX_calls D2.out.rd k
  rw [HA.out] at hn
  have HN:=hid hn
  clear hn
  go_wp2_with fail
  with_reducible refine HN.out.mono ?_
  rintro e w3 ⟨kv,d,rfl,hkv,hd3⟩
  obtain ⟨q,x⟩:=a
  dsimp only at hkv hd3
  have U4:=hid (V4.out.keep hd3.fr (by omega))
  have u5:=V5.out.keep hd3.fr (by omega)
  have D3:=hid (D2.out.trans hd3)
  have hsz:=V5.out.lt
  have hR2 : R < w2.heap.size:=by omega
  have K3:=hid hkv
  obtain ⟨ka,kc,rfl⟩:=hkv.slice
  obtain ⟨kl,hkl⟩ : ∃ kl,q.ks.length=kl:=⟨_,rfl⟩
  rw [hkl] at K3 ⊢
  unfold exV
  clear hkv hkl
  clear hd3 V4 V5 HN D2
  have P5:=hid (u5.setAll (.int .i64 q.k) (.int .i64 q.v.k) (.int .i64 q.v.n) (.string (strB q.v.s)) (.string (strB q.x)) (.string (strB q.f)) (.slice ka kl kc))
  have P4:=hid (U4.out.past (b':=w.heap.size+1) (by omega) (.int .i64 q.k) (.int .i64 q.v.k) (.int .i64 q.v.n) (.string (strB q.v.s)) (.string (strB q.x)) (.string (strB q.f)) (.slice ka kl kc))
  have D4:=hid (D3.out.set7 hR (b:=w.heap.size+1) (by omega) (.int .i64 q.k) (.int .i64 q.v.k) (.int .i64 q.v.n) (.string (strB q.v.s)) (.string (strB q.x)) (.string (strB q.f)) (.slice ka kl kc))
  obtain ⟨c0,c1,c2,c3,c4,c5,c6,f0,f1,f2,f3,f4,f5,f6⟩:=u5.all
  clear u5 U4 D3
  go_wp2_with fail
  with_reducible refine (HM2.out _).mono ?_
  rintro e w4 ⟨rfl,hb4⟩
  have Q4:=hid (P4.out.keep (TFr.of_below (K:=fun _=>False) hb4) id)
  have Q5:=hid (P5.out.keep (TFr.of_below (K:=fun _=>False) hb4) id)
  have D5:=hid (D4.out.then hb4)
  have K4:=hid ((K3.out.set7 (b:=w.heap.size+1) hsz (.int .i64 q.k) (.int .i64 q.v.k) (.int .i64 q.v.n) (.string (strB q.v.s)) (.string (strB q.x)) (.string (strB q.f)) (.slice ka kl kc)).keepR (TFr.of_below (K:=(·=R)) hb4) hR2)
  have HNE : Hid (Calls Tryz.prog 35 #[.pointer (some ⟨R,0,none⟩),.agg #[.int .i64 4,.string ⟨#[41]⟩]] w4 fun e w'=>e=.returned (.tuple #[])∧RdTo R T E (needT E x 4 [41]) w4 w'):=needS_calls D5.out.rd [41]
  clear hb4 P4 P5 D4 HM2 c0 c1 c2 c3 c4 c5 c6 f0 f1 f2 f3 f4 f5 f6
  go_wp2_with fail
  with_reducible refine HNE.out.mono ?_
  rintro e w5 ⟨rfl,hd5⟩
  have W4:=(Q4.out.keep hd5.fr (by omega))
  have W5:=(Q5.out.keep hd5.fr (by omega))
  obtain ⟨d0,d1,d2,d3,d4,d5,d6,g0,g1,g2,g3,g4,g5,g6⟩:=W5.all
  obtain ⟨r0,r1,r2,r3,r4,r5,r6,h0,h1,h2,h3,h4,h5,h6⟩:=W4.all
  have D6:=hid (D5.out.trans hd5)
  have K5:=hid (K4.out.keepR hd5.fr hR2)
  clear hd5 Q4 Q5 W4 W5 HNE D5
  go_wp2
  refine bodyPost_ret (v:=exV q (.slice ka kl kc)) (by simp [results,Tryz.results132,go_sem,r0,r1,r2,r3,r4,r5,r6];rfl) rfl ⟨_,d,rfl,(K5.out.set7 (b:=w.heap.size) (by show w.heap.size < w2.heap.size;omega) _ _ _ _ _ _ _).after (by omega),?_⟩
  exact D6.out.set7 hR (Nat.le_refl _) _ _ _ _ _ _ _
end
end Go.Proofs.YtefcbgnckgapgaaGreatDoor
namespace Go.Proofs.YtefcbgnckgapgaaGreatDoor
open Go.RowKit Go.Lib Go.Op
def VBlk (w : World) (b : Nat) (t0 t1 t2 : Value) : Prop:=w.heap[b]?=some (.cells #[t0,t1,t2] 37 (0,0))
section
variable {w w' : World} {b : Nat} {t0 t1 t2 : Value}
theorem VBlk.new (w : World) (t0 t1 t2 : Value) : VBlk (w.alloc (.cells #[t0,t1,t2] 37)) w.heap.size t0 t1 t2:=heap_alloc_new w _
theorem VBlk.all (h : VBlk w b t0 t1 t2) : w.cell? ⟨b,0,none⟩=some t0∧w.cell? ⟨b,1,none⟩=some t1∧w.cell? ⟨b,2,none⟩=some t2∧w.frozen? ⟨b,0,none⟩=false∧w.frozen? ⟨b,1,none⟩=false∧w.frozen? ⟨b,2,none⟩=false:=⟨tcell h rfl,tcell h rfl,tcell h rfl,tfrozen h,tfrozen h,tfrozen h⟩
theorem VBlk.keep {K : Nat→Prop} (h : VBlk w b t0 t1 t2) (hf : TFr K w w') (hk : ¬ K b) : VBlk w' b t0 t1 t2:=(hf.block b (Array.getElem?_eq_some_iff.1 h).1 hk).trans h
end
theorem two_index0 (a b : Value) (W : World) : (Instr.index 141 (.agg #[a,b]) (.int .i64 0)).run Tryz.prog W=.ok a W:=by kernel_rfl
theorem two_index1 (a b : Value) (W : World) : (Instr.index 141 (.agg #[a,b]) (.int .i64 1)).run Tryz.prog W=.ok b W:=by kernel_rfl
def ValTo (R T E : Nat) (p : PVal × Bool × RS) (w : World) (e : Ending) (w' : World) : Prop:=e=.returned (.tuple #[.agg #[.int .i64 p.1.k,.int .i64 p.1.n,.string (strB p.1.s)],.bool p.2.1])∧RdTo R T E p.2.2 w w'
section
variable {w : World} {R T E : Nat} {s : RS}
set_option maxHeartbeats 1000000 in
set_option maxRecDepth 100000 in
theorem val_num (h : RdR w R T E s) (hk : (nextT E s).k=2) : Calls Tryz.prog 129 #[.pointer (some ⟨R,0,none⟩)] w (ValTo R T E (⟨1,(numberT E s).1,[]⟩,true,(numberT E s).2) w):=by
 have hR:=h.lt
 have hb0:=(Below.refl w.heap.size w).alloc (Nat.le_refl _) (.cells #[.int .i64 0,.int .i64 0,.string ⟨#[]⟩] 37)
 have HV:=hid (VBlk.new w (.int .i64 0) (.int .i64 0) (.string ⟨#[]⟩))
 have H:=hid (h.keep hb0)
 have HB0:=hid hb0
 obtain ⟨x,hx⟩ : ∃ x,nextT E s=x:=⟨_,rfl⟩
 rw [hx] at hk
 have HNX:=hid (next_calls H.out)
 rw [hx] at HNX
 have hf:=fun (v : Value)=>field_kind v (.string (strB x.b)) (.int .i64 x.at_)
 rw [hk] at HNX
 have ht : (((2 : Nat) : Int) == 2)=true:=rfl
 go_enter Tryz.func129,Tryz.ntmps129
 go_wp2_with fail
 with_reducible refine HNX.out.mono ?_
 rintro e w1 ⟨rfl,hb1⟩
 have HV1:=hid (HV.out.keep (TFr.of_below (K:=fun _=>False) hb1) id)
 have D1:=hid (RdTo.of_below h (HB0.out.trans (hb1.mono HB0.out.size)))
 clear hb1
 have HNU:=hid (numberR_calls D1.out.rd)
 go_wp2_with fail
 with_reducible refine HNU.out.mono ?_
 rintro e w2 ⟨rfl,hd⟩
 obtain ⟨r0,r1,r2,f0,f1,f2⟩:=(HV1.out.keep hd.fr (by omega)).all
 have D9:=hid (D1.out.trans hd)
 clear hd HV HV1 D1 HNU HNX h hb0 H HB0 hk hx
 go_wp2
 refine bodyPost_ret (v:=.tuple #[.agg #[.int .i64 1,.int .i64 (numberT E s).1,.string ⟨#[]⟩],.bool true]) (by simp [results,Tryz.results129,go_sem,r0,r1,r2]) rfl ⟨rfl,?_⟩
 exact ((D9.out.set hR (Nat.le_refl _) _ _).set hR (Nat.le_refl _) _ _).set hR (Nat.le_refl _) _ _
set_option maxHeartbeats 1000000 in
set_option maxRecDepth 100000 in
theorem val_minus (h : RdR w R T E s) (hk : (nextT E s).k≠2) (hz : isT E s 4 [45]=true) : Calls Tryz.prog 129 #[.pointer (some ⟨R,0,none⟩)] w (ValTo R T E (⟨1,- (numberT E (takeT E s 4 [45]).2).1,[]⟩,true,(numberT E (takeT E s 4 [45]).2).2) w):=by
 have hR:=h.lt
 have hb0:=(Below.refl w.heap.size w).alloc (Nat.le_refl _) (.cells #[.int .i64 0,.int .i64 0,.string ⟨#[]⟩] 37)
 have HV:=hid (VBlk.new w (.int .i64 0) (.int .i64 0) (.string ⟨#[]⟩))
 have H:=hid (h.keep hb0)
 have HB0:=hid hb0
 obtain ⟨x,hx⟩ : ∃ x,nextT E s=x:=⟨_,rfl⟩
 rw [hx] at hk
 have HNX:=hid (next_calls H.out)
 rw [hx] at HNX
 have hf:=fun (v : Value)=>field_kind v (.string (strB x.b)) (.int .i64 x.at_)
 have ht : ((x.k : Int) == 2)=false:=by rw [beq_eq_false_iff_ne];omega
 obtain ⟨⟨z,s2⟩,hz2⟩ : ∃ z,numberT E (takeT E s 4 [45]).2=z:=⟨_,rfl⟩
 rw [hz2]
 go_enter Tryz.func129,Tryz.ntmps129
 go_wp2_with fail
 with_reducible refine HNX.out.mono ?_
 rintro e w1 ⟨rfl,hb1⟩
 have HV1:=hid (HV.out.keep (TFr.of_below (K:=fun _=>False) hb1) id)
 have D1:=hid (RdTo.of_below h (HB0.out.trans (hb1.mono HB0.out.size)))
 clear hb1
 have HM:=hid (sign_mark ⟨#[45]⟩ w1)
 go_wp2_with fail
 with_reducible refine HM.out.mono ?_
 rintro e w2 ⟨rfl,hb2⟩
 have HV2:=hid (HV1.out.keep (TFr.of_below (K:=fun _=>False) hb2) id)
 have D2:=hid (D1.out.then hb2)
 have htk:=takeS_calls D2.out.rd [45]
 rw [hz] at htk
 have HT : Hid (Calls Tryz.prog 39 #[.pointer (some ⟨R,0,none⟩),.agg #[.int .i64 4,.string ⟨#[45]⟩]] w2 fun e w'=>e=.returned (.bool true)∧RdTo R T E (takeT E s 4 [45]).2 w2 w'):=htk
 clear hb2 htk
 go_wp2_with fail
 with_reducible refine HT.out.mono ?_
 rintro e w3 ⟨rfl,hd3⟩
 have HV3:=hid (HV2.out.keep hd3.fr (by omega))
 have D3:=hid (D2.out.trans hd3)
 have HNU:=hid (numberR_calls hd3.rd)
 obtain ⟨n1,n2⟩:=numberT_bd hd3.rd
 clear hd3
 rw [hz2] at HNU n1 n2
 dsimp only at HNU n1 n2
 go_wp2_with fail
 with_reducible refine HNU.out.mono ?_
 rintro e w4 ⟨rfl,hd⟩
 obtain ⟨r0,r1,r2,f0,f1,f2⟩:=(HV3.out.keep hd.fr (by omega)).all
 have D9:=hid (D3.out.trans hd)
 have hw : IntKind.i64.wrap (-z)=-z:=IntWalk.i64_in (-z) (by omega)
 clear hd HV HV1 HV2 HV3 D1 D2 D3 HNU HNX HT HM h hb0 H HB0 hk hx hz hz2
 go_wp2
 refine bodyPost_ret (v:=.tuple #[.agg #[.int .i64 1,.int .i64 (- z),.string ⟨#[]⟩],.bool true]) (by simp [results,Tryz.results129,go_sem,r0,r1,r2]) rfl ⟨rfl,?_⟩
 exact ((D9.out.set hR (Nat.le_refl _) _ _).set hR (Nat.le_refl _) _ _).set hR (Nat.le_refl _) _ _
set_option maxHeartbeats 1000000 in
set_option maxRecDepth 100000 in
theorem val_quoted (h : RdR w R T E s) (_ : (nextT E s).k≠2) (hz : isT E s 4 [45]=false) (hk : (nextT E s).k=3) : Calls Tryz.prog 129 #[.pointer (some ⟨R,0,none⟩)] w (ValTo R T E (⟨2,0,(ofT E s 3).1⟩,true,(ofT E s 3).2) w):=by
 have hR:=h.lt
 have hb0:=(Below.refl w.heap.size w).alloc (Nat.le_refl _) (.cells #[.int .i64 0,.int .i64 0,.string ⟨#[]⟩] 37)
 have HV:=hid (VBlk.new w (.int .i64 0) (.int .i64 0) (.string ⟨#[]⟩))
 have H:=hid (h.keep hb0)
 have HB0:=hid hb0
 obtain ⟨x,hx⟩ : ∃ x,nextT E s=x:=⟨_,rfl⟩
 rw [hx] at hk
 have HNX:=hid (next_calls H.out)
 rw [hx] at HNX
 have hf:=fun (v : Value)=>field_kind v (.string (strB x.b)) (.int .i64 x.at_)
 rw [hk] at HNX
 have ht : (((3 : Nat) : Int) == 2)=false:=rfl
 have ht3 : (((3 : Nat) : Int) == 3)=true:=rfl
 go_enter Tryz.func129,Tryz.ntmps129
 go_wp2_with fail
 with_reducible refine HNX.out.mono ?_
 rintro e w1 ⟨rfl,hb1⟩
 have HV1:=hid (HV.out.keep (TFr.of_below (K:=fun _=>False) hb1) id)
 have D1:=hid (RdTo.of_below h (HB0.out.trans (hb1.mono HB0.out.size)))
 clear hb1
 have HM:=hid (sign_mark ⟨#[45]⟩ w1)
 go_wp2_with fail
 with_reducible refine HM.out.mono ?_
 rintro e w2 ⟨rfl,hb2⟩
 have HV2:=hid (HV1.out.keep (TFr.of_below (K:=fun _=>False) hb2) id)
 have D2:=hid (D1.out.then hb2)
 have htk:=takeS_calls D2.out.rd [45]
 rw [hz] at htk
 rw [takeT_no hz] at htk
 have HT : Hid (Calls Tryz.prog 39 #[.pointer (some ⟨R,0,none⟩),.agg #[.int .i64 4,.string ⟨#[45]⟩]] w2 fun e w'=>e=.returned (.bool false)∧RdTo R T E s w2 w'):=htk
 clear hb2 htk
 go_wp2_with fail
 with_reducible refine HT.out.mono ?_
 rintro e w3 ⟨rfl,hd3⟩
 have HV3:=hid (HV2.out.keep hd3.fr (by omega))
 have D3:=hid (D2.out.trans hd3)
 have HNY:=next_calls hd3.rd
 rw [hx,hk] at HNY
 have HNZ:=hid HNY
 clear hd3 HNY
 go_wp2_with fail
 with_reducible refine HNZ.out.mono ?_
 rintro e w4 ⟨rfl,hb4⟩
 have HV4:=hid (HV3.out.keep (TFr.of_below (K:=fun _=>False) hb4) id)
 have D4:=hid (D3.out.then hb4)
 clear hb4
 have HO:=hid (of3_calls D4.out.rd)
 go_wp2_with fail
 with_reducible refine HO.out.mono ?_
 rintro e w5 ⟨rfl,hd⟩
 obtain ⟨r0,r1,r2,f0,f1,f2⟩:=(HV4.out.keep hd.fr (by omega)).all
 have D9:=hid (D4.out.trans hd)
 clear hd HV HV1 HV2 HV3 HV4 D1 D2 D3 D4 HO HNX HT HM HNZ h hb0 H HB0 hk hx hz
 go_wp2
 refine bodyPost_ret (v:=.tuple #[.agg #[.int .i64 2,.int .i64 0,.string (strB (ofT E s 3).1)],.bool true]) (by simp [results,Tryz.results129,go_sem,r0,r1,r2]) rfl ⟨rfl,?_⟩
 exact ((D9.out.set hR (Nat.le_refl _) _ _).set hR (Nat.le_refl _) _ _).set hR (Nat.le_refl _) _ _
def truthT (E : Nat) (s : RS) : PVal × Bool × RS :=
 if isT E s 1 bFalse then (⟨3,0,[]⟩,true,(takeT E s 1 bFalse).2)
 else if isT E s 1 bTrue then (⟨3,1,[]⟩,true,(takeT E s 1 bTrue).2)
 else (noV,false,s)
set_option maxHeartbeats 1000000 in
set_option maxRecDepth 100000 in
theorem val_truth (h : RdR w R T E s) (hk : (nextT E s).k≠2) (hz : isT E s 4 [45]=false) (hk3 : (nextT E s).k≠3) : Calls Tryz.prog 129 #[.pointer (some ⟨R,0,none⟩)] w (ValTo R T E (truthT E s) w):=by
 have hR:=h.lt
 have hb0:=(Below.refl w.heap.size w).alloc (Nat.le_refl _) (.cells #[.int .i64 0,.int .i64 0,.string ⟨#[]⟩] 37)
 have HV:=hid (VBlk.new w (.int .i64 0) (.int .i64 0) (.string ⟨#[]⟩))
 have H:=hid (h.keep hb0)
 have HB0:=hid hb0
 obtain ⟨x,hx⟩ : ∃ x,nextT E s=x:=⟨_,rfl⟩
 rw [hx] at hk
 have HNX:=hid (next_calls H.out)
 rw [hx] at HNX
 have hf:=fun (v : Value)=>field_kind v (.string (strB x.b)) (.int .i64 x.at_)
 rw [hx] at hk3
 have ht : ((x.k : Int) == 2)=false:=by rw [beq_eq_false_iff_ne];omega
 have ht3 : ((x.k : Int) == 3)=false:=by rw [beq_eq_false_iff_ne];omega
 go_enter Tryz.func129,Tryz.ntmps129
 go_wp2_with fail
 with_reducible refine HNX.out.mono ?_
 rintro e w1 ⟨rfl,hb1⟩
 have HV1:=hid (HV.out.keep (TFr.of_below (K:=fun _=>False) hb1) id)
 have D1:=hid (RdTo.of_below h (HB0.out.trans (hb1.mono HB0.out.size)))
 clear hb1
 have HM:=hid (sign_mark ⟨#[45]⟩ w1)
 go_wp2_with fail
 with_reducible refine HM.out.mono ?_
 rintro e w2 ⟨rfl,hb2⟩
 have HV2:=hid (HV1.out.keep (TFr.of_below (K:=fun _=>False) hb2) id)
 have D2:=hid (D1.out.then hb2)
 have htk:=takeS_calls D2.out.rd [45]
 rw [hz] at htk
 rw [takeT_no hz] at htk
 have HT : Hid (Calls Tryz.prog 39 #[.pointer (some ⟨R,0,none⟩),.agg #[.int .i64 4,.string ⟨#[45]⟩]] w2 fun e w'=>e=.returned (.bool false)∧RdTo R T E s w2 w'):=htk
 clear hb2 htk
 go_wp2_with fail
 with_reducible refine HT.out.mono ?_
 rintro e w3 ⟨rfl,hd3⟩
 have HV3:=hid (HV2.out.keep hd3.fr (by omega))
 have D3:=hid (D2.out.trans hd3)
 have HNY:=next_calls hd3.rd
 rw [hx] at HNY
 have HNZ:=hid HNY
 clear hd3 HNY
 go_wp2_with fail
 with_reducible refine HNZ.out.mono ?_
 rintro e w4 ⟨rfl,hb4⟩
 have HV4:=hid (HV3.out.keep (TFr.of_below (K:=fun _=>False) hb4) id)
 have D4:=hid (D3.out.then hb4)
 clear hb4
 obtain ⟨aa,cc,k4⟩:=D4.out.rd
 have u0:=k4.vars.t0
 have u1:=k4.vars.t1
 clear k4 HV HV1 HV2 HV3 D1 D2 D3 HNX HT HM HNZ hb0 H HB0 hk hx hz hk3
 go_wp2
 go_loopw [31] (fun i wr=>∃ j : Nat,i=.int .i64 j∧j≤2∧Hid (1≤j→isT E s 1 bFalse=false)∧Hid (2≤j→isT E s 1 bTrue=false)∧Hid (RdTo R T E s w wr)∧Hid (VBlk wr w.heap.size (.int .i64 0) (.int .i64 0) (.string ⟨#[]⟩))) (fun i _=>2 - (RowKit.intOf i).toNat)
 case atStart=>exact ⟨0,rfl,by omega,fun e=>absurd e (by omega),fun e=>absurd e (by omega),D4.out,HV4.out⟩
 case round =>
  obtain ⟨j,rfl,hj,HJ1,HJ2,HD,HW⟩:=hrel
  have hj3 : j=0∨j=1∨j=2:=by omega
  rcases hj3 with rfl|rfl|rfl
  ·have hix:=two_index0 (.string ⟨#[102,97,108,115,101]⟩) (.string ⟨#[116,114,117,101]⟩)
   have HM:=hid (word_mark ⟨#[102,97,108,115,101]⟩ wr)
   cases hp : isT E s 1 bFalse with
   | true =>
     have hs : truthT E s=(⟨3,0,[]⟩,true,(takeT E s 1 bFalse).2):=by unfold truthT;rw [hp];rfl
     rw [hs]
     go_wp2_with fail
     with_reducible refine HM.out.mono ?_
     rintro e w5 ⟨rfl,hb5⟩
     have HW5:=hid (HW.out.keep (TFr.of_below (K:=fun _=>False) hb5) id)
     have D5:=hid (HD.out.then hb5)
     have htk:=takeW_calls D5.out.rd bFalse
     rw [hp] at htk
     have HT : Hid (Calls Tryz.prog 39 #[.pointer (some ⟨R,0,none⟩),.agg #[.int .i64 1,.string ⟨#[102,97,108,115,101]⟩]] w5 fun e w'=>e=.returned (.bool true)∧RdTo R T E (takeT E s 1 bFalse).2 w5 w'):=htk
     clear hb5 htk hs hp
     go_wp2_with fail
     with_reducible refine HT.out.mono ?_
     rintro e w6 ⟨rfl,hd⟩
     obtain ⟨r0,r1,r2,f0,f1,f2⟩:=(HW5.out.keep hd.fr (by omega)).all
     have D9:=hid (D5.out.trans hd)
     clear hd
     go_wp2
     refine bodyPost_ret (v:=.tuple #[.agg #[.int .i64 3,.int .i64 0,.string ⟨#[]⟩],.bool true]) (by simp [results,Tryz.results129,go_sem,r0,r1,r2]) rfl ⟨rfl,?_⟩
     exact ((D9.out.set hR (Nat.le_refl _) _ _).set hR (Nat.le_refl _) _ _).set hR (Nat.le_refl _) _ _
   | false =>
     go_wp2_with fail
     with_reducible refine HM.out.mono ?_
     rintro e w5 ⟨rfl,hb5⟩
     have HW5:=hid (HW.out.keep (TFr.of_below (K:=fun _=>False) hb5) id)
     have D5:=hid (HD.out.then hb5)
     have htk:=takeW_calls D5.out.rd bFalse
     rw [hp,takeT_no hp] at htk
     have HT : Hid (Calls Tryz.prog 39 #[.pointer (some ⟨R,0,none⟩),.agg #[.int .i64 1,.string ⟨#[102,97,108,115,101]⟩]] w5 fun e w'=>e=.returned (.bool false)∧RdTo R T E s w5 w'):=htk
     have HP:=hid hp
     clear hb5 htk hp
     go_wp2_with fail
     with_reducible refine HT.out.mono ?_
     rintro e w6 ⟨rfl,hd⟩
     have HW6:=hid (HW5.out.keep hd.fr (by omega))
     have D6:=hid (D5.out.trans hd)
     clear hd
     go_wp2
     go_round
     case rel=>(refine ⟨1,by go_num,by omega,?_,?_,D6,HW6⟩ <;> first|exact (fun _=>HP.out)|exact (fun _=>HJ1.out (by omega))|exact (fun e=>absurd e (by omega))|exact (fun _=>trivial)|trivial)
     case measure=>simp [RowKit.intOf]
  ·have hix:=two_index1 (.string ⟨#[102,97,108,115,101]⟩) (.string ⟨#[116,114,117,101]⟩)
   have HM:=hid (word_mark ⟨#[116,114,117,101]⟩ wr)
   cases hp : isT E s 1 bTrue with
   | true =>
     have hs : truthT E s=(⟨3,1,[]⟩,true,(takeT E s 1 bTrue).2):=by unfold truthT;rw [HJ1.out (by omega),hp];rfl
     rw [hs]
     go_wp2_with fail
     with_reducible refine HM.out.mono ?_
     rintro e w5 ⟨rfl,hb5⟩
     have HW5:=hid (HW.out.keep (TFr.of_below (K:=fun _=>False) hb5) id)
     have D5:=hid (HD.out.then hb5)
     have htk:=takeW_calls D5.out.rd bTrue
     rw [hp] at htk
     have HT : Hid (Calls Tryz.prog 39 #[.pointer (some ⟨R,0,none⟩),.agg #[.int .i64 1,.string ⟨#[116,114,117,101]⟩]] w5 fun e w'=>e=.returned (.bool true)∧RdTo R T E (takeT E s 1 bTrue).2 w5 w'):=htk
     clear hb5 htk hs hp
     go_wp2_with fail
     with_reducible refine HT.out.mono ?_
     rintro e w6 ⟨rfl,hd⟩
     obtain ⟨r0,r1,r2,f0,f1,f2⟩:=(HW5.out.keep hd.fr (by omega)).all
     have D9:=hid (D5.out.trans hd)
     clear hd
     go_wp2
     refine bodyPost_ret (v:=.tuple #[.agg #[.int .i64 3,.int .i64 1,.string ⟨#[]⟩],.bool true]) (by simp [results,Tryz.results129,go_sem,r0,r1,r2]) rfl ⟨rfl,?_⟩
     exact ((D9.out.set hR (Nat.le_refl _) _ _).set hR (Nat.le_refl _) _ _).set hR (Nat.le_refl _) _ _
   | false =>
     go_wp2_with fail
     with_reducible refine HM.out.mono ?_
     rintro e w5 ⟨rfl,hb5⟩
     have HW5:=hid (HW.out.keep (TFr.of_below (K:=fun _=>False) hb5) id)
     have D5:=hid (HD.out.then hb5)
     have htk:=takeW_calls D5.out.rd bTrue
     rw [hp,takeT_no hp] at htk
     have HT : Hid (Calls Tryz.prog 39 #[.pointer (some ⟨R,0,none⟩),.agg #[.int .i64 1,.string ⟨#[116,114,117,101]⟩]] w5 fun e w'=>e=.returned (.bool false)∧RdTo R T E s w5 w'):=htk
     have HP:=hid hp
     clear hb5 htk hp
     go_wp2_with fail
     with_reducible refine HT.out.mono ?_
     rintro e w6 ⟨rfl,hd⟩
     have HW6:=hid (HW5.out.keep hd.fr (by omega))
     have D6:=hid (D5.out.trans hd)
     clear hd
     go_wp2
     go_round
     case rel=>(refine ⟨2,by go_num,by omega,?_,?_,D6,HW6⟩ <;> first|exact (fun _=>HP.out)|exact (fun _=>HJ1.out (by omega))|exact (fun e=>absurd e (by omega))|exact (fun _=>trivial)|trivial)
     case measure=>simp [RowKit.intOf]
  ·have hs : truthT E s=(noV,false,s):=by unfold truthT;rw [HJ1.out (by omega),HJ2.out (by omega)];rfl
   have HS:=hid hs
   clear hs
   obtain ⟨r0,r1,r2,f0,f1,f2⟩:=HW.out.all
   have D9:=HD
   go_wp2
   refine bodyPost_ret (v:=.tuple #[.agg #[.int .i64 0,.int .i64 0,.string ⟨#[]⟩],.bool false]) (by simp [results,Tryz.results129,go_sem,r0,r1,r2]) rfl ?_
   unfold ValTo
   rw [HS.out]
   refine ⟨rfl,?_⟩
   exact ((D9.out.set hR (Nat.le_refl _) _ _).set hR (Nat.le_refl _) _ _).set hR (Nat.le_refl _) _ _
theorem val_calls (h : RdR w R T E s) : Calls Tryz.prog 129 #[.pointer (some ⟨R,0,none⟩)] w (ValTo R T E (valT E s) w):=by
 unfold valT
 by_cases h2 : (nextT E s).k=2
 ·rw [if_pos h2]
  exact val_num h h2
 rw [if_neg h2]
 cases hz : isT E s 4 [45] with
 | true =>
   rw [if_pos rfl]
   exact val_minus h h2 hz
 | false =>
   rw [if_neg (by simp)]
   by_cases h3 : (nextT E s).k=3
   ·rw [if_pos h3]
    exact val_quoted h h2 hz h3
   rw [if_neg h3]
   exact val_truth h h2 hz h3
end
end Go.Proofs.YtefcbgnckgapgaaGreatDoor
namespace Go.Proofs.YtefcbgnckgapgaaGreatDoor
open Go.Lib
section
variable {E : Nat} {s : RS}
theorem takeT_le (k : Nat) (b : List UInt8) : (takeT E s k b).2.l.length≤s.l.length:=by
 unfold takeT
 split
 ·show s.l.tail.length≤_;rw [List.length_tail];omega
 ·exact Nat.le_refl _
theorem takeT_lt {k : Nat} {b : List UInt8} (h : isT E s k b=true) (hk : k≠0) : (takeT E s k b).2.l.length < s.l.length:=by
 obtain ⟨t,r,hl⟩:=isT_cons h hk
 unfold takeT
 rw [if_pos h,hl]
 show r.length < (t :: r).length
 simp
theorem failT_le : (failT E s).l.length≤s.l.length:=by unfold failT;simp
theorem needT_le (k : Nat) (b : List UInt8) : (needT E s k b).l.length≤s.l.length:=by
 unfold needT
 split
 ·exact takeT_le k b
 ·exact Nat.le_trans failT_le (takeT_le k b)
theorem ofT_le (k : Nat) : (ofT E s k).2.l.length≤s.l.length:=by
 unfold ofT
 split
 ·show s.l.tail.length≤_;rw [List.length_tail];omega
 ·exact failT_le
theorem numberT_le : (numberT E s).2.l.length≤s.l.length:=ofT_le 2
theorem nameT_le : (nameT E s).2.l.length≤s.l.length:=by
 unfold nameT
 refine Nat.le_trans (ofT_le 1) ?_
 split
 ·exact failT_le
 ·exact Nat.le_refl _
theorem amongT_le (k : Nat) : ∀ (l : List (List UInt8)) (n : Nat),(amongT E s k n l).2.l.length≤s.l.length
 | [],n=>Nat.le_refl _
 | b :: r,n=>by
   rw [amongT]
   split
   ·exact takeT_le k b
   ·exact amongT_le k r (n+1)
theorem amongT_hitlt {k : Nat} (hk : k≠0) : ∀ (l : List (List UInt8)) (n : Nat),(∃ b∈l,isT E s k b=true)→(amongT E s k n l).2.l.length < s.l.length
 | [],n,h=>by obtain ⟨b,hb,_⟩:=h;cases hb
 | b :: r,n,h=>by
   rw [amongT]
   split
   ·rename_i hb
    exact takeT_lt hb hk
   ·rename_i hb
    obtain ⟨c,hc,h2⟩:=h
    rcases List.mem_cons.1 hc with rfl|hc
    ·exact absurd h2 hb
    ·exact amongT_hitlt hk r (n+1) ⟨c,hc,h2⟩
theorem amongT_none (k : Nat) : ∀ (l : List (List UInt8)) (n : Nat),(∀ b∈l,isT E s k b=false)→amongT E s k n l=(0,s)
 | [],n,_=>rfl
 | b :: r,n,h=>by
   rw [amongT,h b List.mem_cons_self]
   exact amongT_none k r (n+1) (fun c hc=>h c (List.mem_cons_of_mem _ hc))
theorem amongT_nz {k : Nat} (hk : k≠0) {l : List (List UInt8)} {n : Nat} (h : (amongT E s k n l).1≠0) : (amongT E s k n l).2.l.length < s.l.length:=by
 by_cases hb : ∃ b∈l,isT E s k b=true
 ·exact amongT_hitlt hk l n hb
 ·refine absurd ?_ h
  rw [amongT_none k l n (fun b hb2=>by
   cases hc : isT E s k b with
   | false=>rfl
   | true=>exact absurd ⟨b,hb2,hc⟩ hb)]
theorem chooseT_le (k : Nat) (l : List (List UInt8)) : (chooseT E s k l).2.l.length≤s.l.length:=by
 unfold chooseT
 split
 ·exact Nat.le_trans failT_le (amongT_le k l 0)
 ·exact amongT_le k l 0
theorem fieldT_le (k : Int) : (fieldT E s k).2.l.length≤s.l.length:=by
 unfold fieldT
 exact Nat.le_trans nameT_le (Nat.le_trans (needT_le _ _) nameT_le)
theorem callT_le (k : Int) : (callT E s k).2.l.length≤s.l.length:=by
 unfold callT
 refine Nat.le_trans (needT_le _ _) ?_
 split
 ·exact Nat.le_trans nameT_le (needT_le _ _)
 ·exact Nat.le_trans (fieldT_le _) (needT_le _ _)
theorem valT_le : (valT E s).2.2.l.length≤s.l.length:=by
 unfold valT
 split
 ·exact numberT_le
 ·split
  ·exact Nat.le_trans numberT_le (takeT_le _ _)
  ·split
   ·exact ofT_le 3
   ·split
    ·exact takeT_le _ _
    ·split
     ·exact takeT_le _ _
     ·exact Nat.le_refl _
theorem valT_no (h : (valT E s).2.1=false) : (valT E s).2.2=s:=by
 unfold valT at h ⊢
 split at h
 ·cases h
 ·rename_i h1
  rw [if_neg h1]
  split at h
  ·cases h
  ·rename_i h2
   rw [if_neg h2]
   split at h
   ·cases h
   ·rename_i h3
    rw [if_neg h3]
    split at h
    ·cases h
    ·rename_i h4
     rw [if_neg h4]
     split at h
     ·cases h
     ·rename_i h5
      rw [if_neg h5]
end
theorem sumsT_le {E : Nat} {tm : RS→PEx × RS} (ht : ∀ s,(tm s).2.l.length≤s.l.length) : ∀ (n : Nat) (x : PEx) (s : RS),(sumsT E tm n x s).2.l.length≤s.l.length
 | 0,x,s=>Nat.le_refl _
 | n+1,x,s=>by
   rw [sumsT]
   split
   ·exact amongT_le _ _ _
   ·exact Nat.le_trans (sumsT_le ht n _ _) (Nat.le_trans (ht _) (amongT_le _ _ _))
theorem exprT_le {E : Nat} {tm : RS→PEx × RS} (ht : ∀ s,(tm s).2.l.length≤s.l.length) (n : Nat) (s : RS) : (exprT E tm n s).2.l.length≤s.l.length :=
 Nat.le_trans (sumsT_le ht n _ _) (ht s)
theorem innerT_le {E : Nat} {tm : RS→PEx × RS} (ht : ∀ s,(tm s).2.l.length≤s.l.length) (n : Nat) (s : RS) : (innerT E tm n s).2.l.length≤s.l.length:=by
 unfold innerT
 refine Nat.le_trans (needT_le _ _) ?_
 refine Nat.le_trans (exprT_le ht n _) ?_
 refine Nat.le_trans (needT_le _ _) ?_
 split
 ·exact failT_le
 ·exact Nat.le_refl _
theorem termT_le {E : Nat} : ∀ (n : Nat) (s : RS),(termT E n s).2.l.length≤s.l.length
 | 0,s=>Nat.le_refl _
 | n+1,s=>by
   rw [termT]
   split
   ·exact valT_le
   ·split
    ·exact innerT_le (termT_le n) n s
    ·split
     ·exact Nat.le_trans (fieldT_le _) (amongT_le _ _ _)
     ·exact Nat.le_trans (callT_le _) (amongT_le _ _ _)
section
variable {E : Nat} {s : RS}
theorem takeT_deep (k : Nat) (b : List UInt8) : (takeT E s k b).2.deep=s.deep:=by
 unfold takeT
 split <;> rfl
theorem failT_deep : (failT E s).deep=s.deep:=rfl
theorem needT_deep (k : Nat) (b : List UInt8) : (needT E s k b).deep=s.deep:=by
 unfold needT
 split
 ·exact takeT_deep k b
 ·exact takeT_deep k b
theorem ofT_deep (k : Nat) : (ofT E s k).2.deep=s.deep:=by
 unfold ofT
 split <;> rfl
theorem numberT_deep : (numberT E s).2.deep=s.deep:=ofT_deep 2
theorem nameT_deep : (nameT E s).2.deep=s.deep:=by
 unfold nameT
 rw [ofT_deep]
 split <;> rfl
theorem amongT_deep (k : Nat) : ∀ (l : List (List UInt8)) (n : Nat),(amongT E s k n l).2.deep=s.deep
 | [],n=>rfl
 | b :: r,n=>by
   rw [amongT]
   split
   ·exact takeT_deep k b
   ·exact amongT_deep k r (n+1)
theorem chooseT_deep (k : Nat) (l : List (List UInt8)) : (chooseT E s k l).2.deep=s.deep:=by
 unfold chooseT
 split
 ·exact amongT_deep k l 0
 ·exact amongT_deep k l 0
theorem fieldT_deep (k : Int) : (fieldT E s k).2.deep=s.deep:=by
 unfold fieldT
 dsimp only
 rw [nameT_deep,needT_deep,nameT_deep]
theorem callT_deep (k : Int) : (callT E s k).2.deep=s.deep:=by
 unfold callT
 dsimp only
 rw [needT_deep]
 split
 ·dsimp only;rw [nameT_deep,needT_deep]
 ·rw [fieldT_deep,needT_deep]
theorem valT_deep : (valT E s).2.2.deep=s.deep:=by
 unfold valT
 split
 ·exact numberT_deep
 ·split
  ·dsimp only;rw [numberT_deep,takeT_deep]
  ·split
   ·exact ofT_deep 3
   ·split
    ·exact takeT_deep _ _
    ·split
     ·exact takeT_deep _ _
     ·rfl
theorem sumsT_deep {E : Nat} {tm : RS→PEx × RS} (ht : ∀ s,(tm s).2.deep=s.deep) : ∀ (n : Nat) (x : PEx) (s : RS),(sumsT E tm n x s).2.deep=s.deep
 | 0,x,s=>rfl
 | n+1,x,s=>by
   rw [sumsT]
   split
   ·exact amongT_deep _ _ _
   ·dsimp only;rw [sumsT_deep ht n _ _,ht,amongT_deep]
theorem exprT_deep {E : Nat} {tm : RS→PEx × RS} (ht : ∀ s,(tm s).2.deep=s.deep) (n : Nat) (s : RS) : (exprT E tm n s).2.deep=s.deep:=by
 unfold exprT
 rw [sumsT_deep ht,ht]
theorem innerT_deep {E : Nat} {tm : RS→PEx × RS} (ht : ∀ s,(tm s).2.deep=s.deep) (n : Nat) (s : RS) : (innerT E tm n s).2.deep=s.deep:=by
 unfold innerT
 dsimp only
 rw [needT_deep]
 dsimp only
 rw [exprT_deep ht]
 dsimp only
 rw [needT_deep]
 split
 ·rw [failT_deep];omega
 ·omega
theorem termT_deep {E : Nat} : ∀ (n : Nat) (s : RS),(termT E n s).2.deep=s.deep
 | 0,s=>rfl
 | n+1,s=>by
   rw [termT]
   split
   ·exact valT_deep
   ·split
    ·exact innerT_deep (termT_deep n) n s
    ·split
     ·rw [fieldT_deep,amongT_deep]
     ·rw [callT_deep,amongT_deep]
def DeepOk (s : RS) : Prop:=s.deep≤6∨s.l=[]
theorem DeepOk.le {s s' : RS} (h : DeepOk s) (hd : s'.deep=s.deep) (hl : s'.l.length≤s.l.length) : DeepOk s':=by
 rcases h with h|h
 ·exact .inl (by omega)
 ·rw [h] at hl
  exact .inr (List.eq_nil_of_length_eq_zero (by simpa using hl))
end
end Go.Proofs.YtefcbgnckgapgaaGreatDoor
namespace Go.Proofs.YtefcbgnckgapgaaGreatDoor
open Go.RowKit Go.Lib Go.Op
def leftN (R : Nat) (w : World) : Nat:=match w.cell? ⟨R,0,none⟩ with
 | some (.slice _ n _)=>n
 | _=>0
theorem leftN_is {w : World} {R T E : Nat} {s : RS} (h : RdR w R T E s) : leftN R w=s.l.length:=by
 obtain ⟨a,c,h⟩:=h
 unfold leftN
 rw [h.c0]
theorem ExK.ne {K : Nat→Prop} {w : World} {b : Nat} (hb : w.heap.size≤b) : ∀ {d : Nat} {kv : Value} {ks : List PEx},ExK K w d kv ks→ExK (fun g=>K g∨g=b) w d kv ks
 | 0,_,_,h=>h
 | d+1,kv,ks,⟨a,c,e,h⟩=>⟨a,c,e,fun j x hj=>by
   obtain ⟨g,o,kv',ea,hg,hc,hk⟩:=h j x hj
   have hlt:=World.block_lt_of_cell? _ _ hc.1
   exact ⟨g,o,kv',ea,⟨fun hn=>hn.elim hg.1 (fun e=>by have : g < w.heap.size:=hlt;omega),fun z=>z.elim hg.2 (fun e=>by have : g < w.heap.size:=hlt;omega)⟩,hc,ExK.ne hb hk⟩⟩
theorem ExK.pair {K : Nat→Prop} {w : World} {d : Nat} {x y : PEx} {kx ky : Value} (hx : ExK K w d kx x.ks) (hy : ExK K w d ky y.ks) {g : Nat} (hg : ¬ K g) (h : w.heap[g]?=some (.cells #[.int .i64 x.k,.int .i64 x.v.k,.int .i64 x.v.n,.string (strB x.v.s),.string (strB x.x),.string (strB x.f),kx,.int .i64 y.k,.int .i64 y.v.k,.int .i64 y.v.n,.string (strB y.v.s),.string (strB y.x),.string (strB y.f),ky] 40 (0,0))) :
 ExK K w (d+1) (.slice (some ⟨g,0,none⟩) 2 2) [x,y]:=by
 refine ⟨_,_,rfl,fun j z hj=>?_⟩
 match j,hj with
 | 0,hj =>
   obtain rfl : x=z:=by simpa using hj
   exact ⟨g,0,kx,rfl,⟨hg,fun _=>⟨_,_,h⟩⟩,⟨tcell h rfl,tcell h rfl,tcell h rfl,tcell h rfl,tcell h rfl,tcell h rfl,tcell h rfl⟩,hx⟩
 | 1,hj =>
   obtain rfl : y=z:=by simpa using hj
   exact ⟨g,0,ky,rfl,⟨hg,fun _=>⟨_,_,h⟩⟩,⟨tcell h rfl,tcell h rfl,tcell h rfl,tcell h rfl,tcell h rfl,tcell h rfl,tcell h rfl⟩,hy⟩
 | n+2,hj=>simp at hj
theorem xexV (x : PEx) (kv : Value) : exV x kv=.agg #[.int .i64 x.k,.int .i64 x.v.k,.int .i64 x.v.n,.string (strB x.v.s),.string (strB x.x),.string (strB x.f),kv]:=rfl
structure ExIn (R T E B b2 b3 M : Nat) (tm : RS→PEx × RS) (z : PEx × RS) (w wr : World) (n : Nat) (x : PEx) (s : RS) (d : Nat) (a : Option Addr) (m c : Nat) : Prop where
 res : XBlk wr b2 (.int .i64 0) (.int .i64 0) (.int .i64 0) (.string ⟨#[]⟩) (.string ⟨#[]⟩) (.string ⟨#[]⟩) (.slice none 0 0)
 own : XBlk wr b3 (.int .i64 x.k) (.int .i64 x.v.k) (.int .i64 x.v.n) (.string (strB x.v.s)) (.string (strB x.x)) (.string (strB x.f)) (.slice a m c)
 kids : ExK (fun g=>g < B∨g=b3) wr d (.slice a m c) x.ks
 rt : RdTo R T E s w wr
 is : sumsT E tm n x s=z
 len : s.l.length≤n∧s.l.length≤M
 ok : DeepOk s
 b2 : w.heap.size≤b2∧b2 < B
 b3 : B≤b3
 big : B≤wr.heap.size
theorem amongT_nil {E : Nat} {s : RS} {k : Nat} (hk : k≠0) (hs : s.l=[]) (l : List (List UInt8)) (n : Nat) : amongT E s k n l=(0,s):=amongT_none k l n (fun b _=>by
 unfold isT nextT
 rw [hs]
 simp
 intro e
 exact absurd e.symm hk)
theorem sumsT_end {E : Nat} {tm : RS→PEx × RS} {n : Nat} {x : PEx} {s : RS} (h : (amongT E s 4 0 sumsL).1=0) (hn : s.l.length≤n) : sumsT E tm n x s=(x,(amongT E s 4 0 sumsL).2):=by
 cases n with
 | zero =>
   have hs : s.l=[]:=List.eq_nil_of_length_eq_zero (by omega)
   rw [amongT_nil (by decide) hs]
   rfl
 | succ n=>rw [sumsT,if_pos h]
theorem sumsT_more {E : Nat} {tm : RS→PEx × RS} {n : Nat} {x : PEx} {s : RS} (h : (amongT E s 4 0 sumsL).1≠0) : sumsT E tm (n+1) x s=sumsT E tm n (.mk ((amongT E s 4 0 sumsL).1 : Int) noV [] [] [x,(tm (amongT E s 4 0 sumsL).2).1]) (tm (amongT E s 4 0 sumsL).2).2:=by
 rw [sumsT,if_neg h]
theorem ExTo.plain {R T E : Nat} {p : PEx × RS} {x : PEx} {s : RS} (hp : p=(x,s)) {f : Nat} {v : Array Value} {w : World} (h : Calls Tryz.prog f v w (ExTo R T E p w)) : Calls Tryz.prog f v w fun e w'=>∃ kv d,e=.returned (exV x kv)∧ExK (· < w.heap.size) w' d kv x.ks∧RdTo R T E s w w':=by
 subst hp
 exact h
set_option maxHeartbeats 1000000 in
set_option maxRecDepth 100000 in
theorem expr_calls {w : World} {R T E : Nat} {s : RS} {tm : RS→PEx × RS} {m n : Nat} (hterm : ∀ (w : World) (s : RS),RdR w R T E s→DeepOk s→s.l.length≤m→Calls Tryz.prog 115 #[.pointer (some ⟨R,0,none⟩)] w (ExTo R T E (tm s) w))
 (hle : ∀ s,(tm s).2.l.length≤s.l.length) (hdp : ∀ s,(tm s).2.deep=s.deep) (h : RdR w R T E s) (hok : DeepOk s) (hm : s.l.length≤m) (hn : s.l.length≤n) : Calls Tryz.prog 88 #[.pointer (some ⟨R,0,none⟩)] w (ExTo R T E (exprT E tm n s) w):=by
 have hR:=h.lt
 obtain ⟨z,hz⟩ : ∃ z,exprT E tm n s=z:=⟨_,rfl⟩
 rw [hz]
 have hb0:=(Below.refl w.heap.size w).alloc (Nat.le_refl _) (.cells #[.int .i64 0,.int .i64 0,.int .i64 0,.string ⟨#[]⟩,.string ⟨#[]⟩,.string ⟨#[]⟩,.slice none 0 0] 40)
 have hx2:=XBlk.new w (.int .i64 0) (.int .i64 0) (.int .i64 0) (.string ⟨#[]⟩) (.string ⟨#[]⟩) (.string ⟨#[]⟩) (.slice none 0 0)
 obtain ⟨⟨x1,s1⟩,hxs⟩ : ∃ z,tm s=z:=⟨_,rfl⟩
 have HT:=hid (ExTo.plain hxs (hterm _ s (h.keep hb0) hok hm))
 have HB0:=hid hb0
 have HX2:=hid hx2
 have HTM:=hid hterm
 have hsz0 : (w.alloc (.cells #[.int .i64 0,.int .i64 0,.int .i64 0,.string ⟨#[]⟩,.string ⟨#[]⟩,.string ⟨#[]⟩,.slice none 0 0] 40)).heap.size=w.heap.size+1:=by simp
 clear h hb0 hx2 hterm
 go_enter Tryz.func88,Tryz.ntmps88
 go_wp2_with fail
 with_reducible refine HT.out.mono ?_
 rintro e w1 ⟨kv,d,rfl,hkv,hd1⟩
 have hz1 : sumsT E tm n x1 s1=z:=by rw [← hz];unfold exprT;rw [hxs]
 have hl1:=hle s
 have hp1:=hdp s
 rw [hxs] at hl1 hp1
 obtain ⟨a1,m1,rfl⟩:=hkv.slice
 obtain ⟨q1,hq1⟩ : ∃ q,x1.ks.length=q:=⟨_,rfl⟩
 have hkids:=hkv
 rw [hq1] at hkids ⊢
 dsimp only at hl1 hp1
 have hbz:=hd1.fr.size
 rw [hsz0] at hbz
 have HI : Hid (ExIn R T E (w.heap.size+1) w.heap.size w1.heap.size m tm z w (w1.alloc (.cells #[.int .i64 x1.k,.int .i64 x1.v.k,.int .i64 x1.v.n,.string (strB x1.v.s),.string (strB x1.x),.string (strB x1.f),.slice a1 q1 m1] 40)) n x1 s1 d a1 q1 m1):=by
  have hb1:=(Below.refl w1.heap.size w1).alloc (Nat.le_refl _) (.cells #[.int .i64 x1.k,.int .i64 x1.v.k,.int .i64 x1.v.n,.string (strB x1.v.s),.string (strB x1.x),.string (strB x1.f),.slice a1 q1 m1] 40)
  refine ⟨(HX2.out.keep hd1.fr (by omega)).keep (TFr.of_below (K:=fun _=>False) hb1) id,XBlk.new _ _ _ _ _ _ _ _,?_,(RdTo.after HB0.out hd1).then hb1,hz1,⟨by omega,by omega⟩,hok.le hp1 hl1,⟨Nat.le_refl _,by omega⟩,hbz,?_⟩
  ·rw [hsz0] at hkids
   exact (ExK.ne (Nat.le_refl _) hkids).keepR (TFr.of_below (K:=(·=R)) hb1) (.inl (by omega))
  ·have:=hb1.size
   omega
 clear hz1 hl1 hp1 hd1 hkv hkids hxs hq1 hz HX2 HB0
 simp only [xexV]
 go_wp2
 go_loopw [4] (fun _ wr=>∃ (n : Nat) (x : PEx) (s : RS) (d : Nat) (a : Option Addr) (q c : Nat),Hid (ExIn R T E (w.heap.size+1) w.heap.size w1.heap.size m tm z w wr n x s d a q c)) (fun _ wr=>leftN R wr)
 case atStart=>exact ⟨n,x1,s1,d,a1,q1,m1,HI⟩
 case round =>
  obtain ⟨n2,x,s2,d2,a2,q2,cc,HE⟩:=hrel
  have hE:=HE.out
  have HL:=hid (leftN_is hE.rt.rd)
  have HS:=hid (fun W=>sums_calls W)
  obtain ⟨⟨kk,s3⟩,hk⟩ : ∃ z,amongT E s2 4 0 sumsL=z:=⟨_,rfl⟩
  have HA : Hid (∀ W,Below wr.heap.size wr W→Calls Tryz.prog 86 #[.pointer (some ⟨R,0,none⟩),.int .i64 4,textsV sumsL] W fun e w'=>e=.returned (.int .i64 kk)∧RdTo R T E s3 W w'):=fun W hW=>by
   have h:=amongS_calls (hE.rt.rd.keep hW) sumsL rfl
   rw [hk] at h
   exact h
  have HK:=hid hk
  clear hk hE
  go_wp2_with fail
  with_reducible refine (HS.out _).mono ?_
  rintro e w2 ⟨rfl,hb2⟩
  have HA2:=hid (HA.out w2 hb2)
  have HB2:=hid hb2
  clear hb2
  go_wp2_with fail
  with_reducible refine HA2.out.mono ?_
  rintro e w3 ⟨rfl,hd3⟩
  have hE:=HE.out
  have D3:=hid ((hE.rt.then HB2.out).trans hd3)
  have O3:=hid ((hE.own.keep (TFr.of_below (K:=fun _=>False) HB2.out) id).keep hd3.fr (by have:=hE.b3;omega))
  have R3:=hid ((hE.res.keep (TFr.of_below (K:=fun _=>False) HB2.out) id).keep hd3.fr (by omega))
  have K3:=hid ((hE.kids.keepR (TFr.of_below (K:=(·=R)) HB2.out) (.inl (by omega))).keepR hd3.fr (.inl (by omega)))
  have HI:=hid (And.intro hE.is (And.intro hE.len hE.ok))
  have HZ:=hid (And.intro hE.b3 (Nat.le_trans hE.big (Nat.le_trans HB2.out.size hd3.fr.size)))
  clear hE hd3 HE HA HA2 HS HB2
  by_cases hk0 : kk=0
  ·subst hk0
   have hz : z=(x,s3):=by
    rw [← HI.out.1,sumsT_end (by rw [HK.out]) HI.out.2.1.1,HK.out]
   subst hz
   obtain ⟨c0,c1,c2,c3,c4,c5,c6,_,_,_,_,_,_,_⟩:=O3.out.all
   obtain ⟨r0,r1,r2,r3,r4,r5,r6,h0,h1,h2,h3,h4,h5,h6⟩:=R3.out.all
   clear HK HI
   go_wp2
   refine bodyPost_ret (v:=exV x (.slice a2 q2 cc)) (by simp [results,Tryz.results88,go_sem,r0,r1,r2,r3,r4,r5,r6];rfl) rfl ⟨_,d2,rfl,?_,D3.out.set7 hR (Nat.le_refl _) _ _ _ _ _ _ _⟩
   exact (K3.out.set7 (.inl (by omega)) _ _ _ _ _ _ _).mono (fun k hk=>.inl (Nat.lt_of_lt_of_le hk (Nat.le_succ _)))
  ·obtain ⟨n3,rfl⟩ : ∃ n3,n2=n3+1:=by
    have h1:=amongT_nz (E:=E) (s:=s2) (k:=4) (by decide) (l:=sumsL) (n:=0) (by rw [HK.out];exact hk0)
    have h2:=HI.out.2.1.1
    exact ⟨n2 - 1,by omega⟩
   have hlt:=amongT_nz (E:=E) (s:=s2) (k:=4) (by decide) (l:=sumsL) (n:=0) (by rw [HK.out];exact hk0)
   rw [HK.out] at hlt
   have hdp3:=amongT_deep (E:=E) (s:=s2) 4 sumsL 0
   rw [HK.out] at hdp3
   dsimp only at hlt hdp3
   have ht : ((kk : Int) == 0)=false:=by rw [beq_eq_false_iff_ne];omega
   obtain ⟨⟨y,s4⟩,hys⟩ : ∃ z,tm s3=z:=⟨_,rfl⟩
   have hok3 : DeepOk s3:=HI.out.2.2.le hdp3 (Nat.le_of_lt hlt)
   have hle4:=hle s3
   have hdp4:=hdp s3
   rw [hys] at hle4 hdp4
   dsimp only at hle4 hdp4
   have his : sumsT E tm n3 (.mk (kk : Int) noV [] [] [x,y]) s4=z:=by
    rw [← HI.out.1,sumsT_more (by rw [HK.out];exact hk0),HK.out,hys]
   have HN:=hid (And.intro his (And.intro (show s4.l.length≤n3∧s4.l.length≤m by have:=HI.out.2.1;omega) (hok3.le hdp4 hle4)))
   have HLT:=hid (show s4.l.length < s2.l.length by omega)
   have HT2:=hid (ExTo.plain hys (HTM.out w3 s3 D3.out.rd hok3 (by have:=HI.out.2.1.2;omega)))
   clear hlt hdp3 hok3 hle4 hdp4 hys his HI HK
   go_wp2_with fail
   with_reducible refine HT2.out.mono ?_
   rintro e w4 ⟨kv,dy,rfl,hkv,hd4⟩
   obtain ⟨a4,m4,rfl⟩:=hkv.slice
   obtain ⟨q4,hq4⟩ : ∃ q,y.ks.length=q:=⟨_,rfl⟩
   rw [hq4] at hkv ⊢
   have D4:=hid (D3.out.trans hd4)
   have o4:=O3.out.keep hd4.fr (by have:=HZ.out.1;omega)
   have r4':=R3.out.keep hd4.fr (by omega)
   have k4:=K3.out.keepR hd4.fr (.inl (by omega))
   have hb5:=(Below.refl w4.heap.size w4).alloc (Nat.le_refl _) (.cells #[.int .i64 y.k,.int .i64 y.v.k,.int .i64 y.v.n,.string (strB y.v.s),.string (strB y.x),.string (strB y.f),.slice a4 q4 m4] 40)
   have hb6:=hb5.alloc hb5.size (.cells #[.int .i64 x.k,.int .i64 x.v.k,.int .i64 x.v.n,.string (strB x.v.s),.string (strB x.x),.string (strB x.f),.slice a2 q2 cc,.int .i64 y.k,.int .i64 y.v.k,.int .i64 y.v.n,.string (strB y.v.s),.string (strB y.x),.string (strB y.f),.slice a4 q4 m4] 40)
   have o5:=o4.keep (TFr.of_below (K:=fun _=>False) hb5) id
   have o6:=o4.keep (TFr.of_below (K:=fun _=>False) hb6) id
   have hz4 : w.heap.size+1≤w4.heap.size:=Nat.le_trans HZ.out.2 hd4.fr.size
   have hb3lt : w1.heap.size < w3.heap.size:=O3.out.lt
   have R6:=hid ((r4'.keep (TFr.of_below (K:=fun _=>False) hb6) id).past (b':=w1.heap.size) (by omega) (.int .i64 kk) (.int .i64 0) (.int .i64 0) (.string ⟨#[]⟩) (.string ⟨#[]⟩) (.string ⟨#[]⟩) (.slice (some ⟨w4.heap.size+1,0,none⟩) 2 2))
   have O7:=hid (o6.setAll (.int .i64 kk) (.int .i64 0) (.int .i64 0) (.string ⟨#[]⟩) (.string ⟨#[]⟩) (.string ⟨#[]⟩) (.slice (some ⟨w4.heap.size+1,0,none⟩) 2 2))
   have D7:=hid ((D4.out.then hb6).set7 hR (b:=w1.heap.size) (by have:=HZ.out.1;omega) (.int .i64 kk) (.int .i64 0) (.int .i64 0) (.string ⟨#[]⟩) (.string ⟨#[]⟩) (.string ⟨#[]⟩) (.slice (some ⟨w4.heap.size+1,0,none⟩) 2 2))
   have KK : Hid (ExK (fun g=>g < w.heap.size+1∨g=w1.heap.size) (((((((((w4.alloc (.cells #[.int .i64 y.k,.int .i64 y.v.k,.int .i64 y.v.n,.string (strB y.v.s),.string (strB y.x),.string (strB y.f),.slice a4 q4 m4] 40)).alloc (.cells #[.int .i64 x.k,.int .i64 x.v.k,.int .i64 x.v.n,.string (strB x.v.s),.string (strB x.x),.string (strB x.f),.slice a2 q2 cc,.int .i64 y.k,.int .i64 y.v.k,.int .i64 y.v.n,.string (strB y.v.s),.string (strB y.x),.string (strB y.f),.slice a4 q4 m4] 40)).setCell ⟨w1.heap.size,0,none⟩ (.int .i64 kk)).setCell ⟨w1.heap.size,1,none⟩ (.int .i64 0)).setCell ⟨w1.heap.size,2,none⟩ (.int .i64 0)).setCell ⟨w1.heap.size,3,none⟩ (.string ⟨#[]⟩)).setCell ⟨w1.heap.size,4,none⟩ (.string ⟨#[]⟩)).setCell ⟨w1.heap.size,5,none⟩ (.string ⟨#[]⟩)).setCell ⟨w1.heap.size,6,none⟩ (.slice (some ⟨w4.heap.size+1,0,none⟩) 2 2)) (max d2 dy+1) (.slice (some ⟨w4.heap.size+1,0,none⟩) 2 2) [x,y]):=by
    have hx:=(k4.keepR (TFr.of_below (K:=(·=R)) hb6) (.inl (by omega))).le (Nat.le_max_left d2 dy)
    have hy:=((hkv.mono (K':=fun g=>g < w.heap.size+1∨g=w1.heap.size) (fun k hk=>hk.elim (fun h=>Nat.lt_of_lt_of_le h HZ.out.2) (fun h=>h ▸ hb3lt))).keepR (TFr.of_below (K:=(·=R)) hb6) (.inl (by omega))).le (Nat.le_max_right d2 dy)
    have hg : ¬ (w4.heap.size+1 < w.heap.size+1∨w4.heap.size+1=w1.heap.size):=by have:=hd4.fr.size;omega
    have hblk : ((w4.alloc (.cells #[.int .i64 y.k,.int .i64 y.v.k,.int .i64 y.v.n,.string (strB y.v.s),.string (strB y.x),.string (strB y.f),.slice a4 q4 m4] 40)).alloc (.cells #[.int .i64 x.k,.int .i64 x.v.k,.int .i64 x.v.n,.string (strB x.v.s),.string (strB x.x),.string (strB x.f),.slice a2 q2 cc,.int .i64 y.k,.int .i64 y.v.k,.int .i64 y.v.n,.string (strB y.v.s),.string (strB y.x),.string (strB y.f),.slice a4 q4 m4] 40)).heap[w4.heap.size+1]?=some (.cells #[.int .i64 x.k,.int .i64 x.v.k,.int .i64 x.v.n,.string (strB x.v.s),.string (strB x.x),.string (strB x.f),.slice a2 q2 cc,.int .i64 y.k,.int .i64 y.v.k,.int .i64 y.v.n,.string (strB y.v.s),.string (strB y.x),.string (strB y.f),.slice a4 q4 m4] 40 (0,0)):=by
     have:=heap_alloc_new (w4.alloc (.cells #[.int .i64 y.k,.int .i64 y.v.k,.int .i64 y.v.n,.string (strB y.v.s),.string (strB y.x),.string (strB y.f),.slice a4 q4 m4] 40)) (.cells #[.int .i64 x.k,.int .i64 x.v.k,.int .i64 x.v.n,.string (strB x.v.s),.string (strB x.x),.string (strB x.f),.slice a2 q2 cc,.int .i64 y.k,.int .i64 y.v.k,.int .i64 y.v.n,.string (strB y.v.s),.string (strB y.x),.string (strB y.f),.slice a4 q4 m4] 40 (0,0))
     simpa using this
    exact (ExK.pair hx hy hg hblk).set7 (.inr rfl) _ _ _ _ _ _ _
   have HBIG:=hid (show w.heap.size+1≤w4.heap.size+1+1 by omega)
   obtain ⟨c0,c1,c2,c3,c4,c5,c6,_,_,_,_,_,_,_⟩:=o5.all
   obtain ⟨e0,e1,e2,e3,e4,e5,e6,f0,f1,f2,f3,f4,f5,f6⟩:=o6.all
   clear o4 o5 o6 r4' k4 hkv hd4 hb5 hb6 hq4 O3 R3 K3 D3 D4 HT2
   simp only [xexV]
   go_wp2
   clear c0 c1 c2 c3 c4 c5 c6 e0 e1 e2 e3 e4 e5 e6 f0 f1 f2 f3 f4 f5 f6
   refine ⟨⟨n3,.mk (kk : Int) noV [] [] [x,y],s4,max d2 dy+1,some ⟨w4.heap.size+1,0,none⟩,2,2,?_⟩,?_⟩
   ·exact ⟨R6.out,O7.out,KK.out,D7.out,HN.out.1,HN.out.2.1,HN.out.2.2,⟨Nat.le_refl _,Nat.lt_succ_self _⟩,HZ.out.1,by simpa using HBIG.out⟩
   ·rw [leftN_is D7.out.rd,HL.out]
    exact HLT.out
end Go.Proofs.YtefcbgnckgapgaaGreatDoor
namespace Go.Proofs.YtefcbgnckgapgaaGreatDoor
open Go.RowKit Go.Lib Go.Op
section
variable {w : World} {R T E : Nat} {s : RS}
theorem innerT_is {E : Nat} {tm : RS→PEx × RS} {n : Nat} {s s1 : RS} (hs1 : needT E (if s.deep=6 then failT E s else s) 4 [40]=s1) {x : PEx} {s2 : RS} (hx : exprT E tm n ⟨s1.l,s1.deep+1,s1.wrong⟩=(x,s2)) : innerT E tm n s=(x,needT E ⟨s2.l,s2.deep - 1,s2.wrong⟩ 4 [41]):=by
 unfold innerT
 rw [hs1]
 dsimp only
 rw [hx]
set_option maxHeartbeats 1000000 in
set_option maxRecDepth 100000 in
theorem inner_calls {tm : RS→PEx × RS} {n : Nat} (hexp : ∀ (s1 : RS),needT E (if s.deep=6 then failT E s else s) 4 [40]=s1→∀ (w : World),RdR w R T E ⟨s1.l,s1.deep+1,s1.wrong⟩→Calls Tryz.prog 88 #[.pointer (some ⟨R,0,none⟩)] w (ExTo R T E (exprT E tm n ⟨s1.l,s1.deep+1,s1.wrong⟩) w))
 (hxd : ∀ s1 : RS,(exprT E tm n s1).2.deep=s1.deep) (h : RdR w R T E s) (hd6 : s.deep≤6) : Calls Tryz.prog 131 #[.pointer (some ⟨R,0,none⟩)] w (ExTo R T E (innerT E tm n s) w):=by
 have hR:=h.lt
 obtain ⟨s1,hs1⟩ : ∃ s1,needT E (if s.deep=6 then failT E s else s) 4 [40]=s1:=⟨_,rfl⟩
 obtain ⟨⟨x,s2⟩,hx⟩ : ∃ z,exprT E tm n ⟨s1.l,s1.deep+1,s1.wrong⟩=z:=⟨_,rfl⟩
 have hdp1 : s1.deep=s.deep:=by
  rw [← hs1,needT_deep]
  split <;> rfl
 have hdp2 : s2.deep=s1.deep+1:=by
  have:=hxd ⟨s1.l,s1.deep+1,s1.wrong⟩
  rw [hx] at this
  exact this
 rw [innerT_is hs1 hx]
 have hb0:=(Below.refl w.heap.size w).alloc (Nat.le_refl _) (.cells #[.int .i64 0,.int .i64 0,.int .i64 0,.string ⟨#[]⟩,.string ⟨#[]⟩,.string ⟨#[]⟩,.slice none 0 0] 40)
 have Y0:=hid (XBlk.new w (.int .i64 0) (.int .i64 0) (.int .i64 0) (.string ⟨#[]⟩) (.string ⟨#[]⟩) (.string ⟨#[]⟩) (.slice none 0 0))
 have HM:=hid (fun W=>sign_mark ⟨#[40]⟩ W)
 have HM2:=hid (fun W=>sign_mark ⟨#[41]⟩ W)
 have HS1:=hid hs1
 have HXS:=hid hx
 have HDP:=hid hdp1
 have HDP2:=hid hdp2
 have HEXP:=hid (hexp s1 hs1)
 have D0:=hid (RdTo.of_below h hb0)
 obtain ⟨a0,c0,k0⟩:=h.keep hb0
 have u2:=k0.c2
 clear hb0 k0 hexp hxd h hs1 hx hdp1 hdp2
 have HE : Hid (∀ (w1 : World),RdTo R T E (if s.deep=6 then failT E s else s) w w1→XBlk w1 w.heap.size (.int .i64 0) (.int .i64 0) (.int .i64 0) (.string ⟨#[]⟩) (.string ⟨#[]⟩) (.string ⟨#[]⟩) (.slice none 0 0)→True):=fun _ _ _=>trivial
 by_cases h6 : s.deep=6
 ·rw [if_pos h6] at HS1
  rw [h6] at u2
  have ht : (((6 : Nat) : Int) == 6)=true:=rfl
  have HF:=hid (fail_calls D0.out.rd)
  clear HE
  go_enter Tryz.func131,Tryz.ntmps131
  go_wp2_with fail
  with_reducible refine HF.out.mono ?_
  rintro e w1 ⟨rfl,hd1⟩
  have D1:=hid (D0.out.trans hd1)
  have Y1:=hid (Y0.out.keep hd1.fr (by omega))
  clear hd1 D0 Y0 HF
  go_wp2_with fail
  with_reducible refine (HM.out _).mono ?_
  rintro e w2 ⟨rfl,hb2⟩
  have HND : Hid (Calls Tryz.prog 35 #[.pointer (some ⟨R,0,none⟩),.agg #[.int .i64 4,.string ⟨#[40]⟩]] w2 fun e w'=>e=.returned (.tuple #[])∧RdTo R T E s1 w2 w'):=by
   show Calls _ _ _ _ _
   rw [← HS1.out]
   exact needS_calls (D1.out.then hb2).rd [40]
  have D2:=hid (D1.out.then hb2)
  have Y2:=hid (Y1.out.keep (TFr.of_below (K:=fun _=>False) hb2) id)
  clear hb2 D1 Y1
  go_wp2_with fail
  with_reducible refine HND.out.mono ?_
  rintro e w3 ⟨rfl,hd3⟩
  have D3:=hid (D2.out.trans hd3)
  have Y3:=hid (Y2.out.keep hd3.fr (by omega))
  obtain ⟨a,c,k3⟩:=hd3.rd
  have v2:=k3.c2
  have g2:=k3.f 2
  have hdp : s1.deep≤7:=Nat.le_trans (Nat.le_of_eq HDP.out) (by omega)
  obtain ⟨q,hq⟩ : ∃ q,s1.deep=q:=⟨_,rfl⟩
  have HEXP1:=HEXP.out
  rw [hq] at HEXP1
  have HXS1:=HXS.out
  rw [hq] at HXS1
  have k4:=k3.setDeep' (x:=q+1) (by omega) (v:=(q : Int)+1) (by omega)
  have D4 : Hid (RdTo R T E ⟨s1.l,q+1,s1.wrong⟩ w (w3.setCell ⟨R,2,none⟩ (.int .i64 ((q : Int)+1)))):=⟨⟨a,c,k4⟩,D3.out.fr.trans (TFr.at R 2 _)⟩
  have Y4:=hid (Y3.out.keep (TFr.at R 2 (.int .i64 ((q : Int)+1))) (by omega))
  have hsz4 : w.heap.size < (w3.setCell ⟨R,2,none⟩ (.int .i64 ((q : Int)+1))).heap.size:=by have:=Y3.out.lt;simpa using this
  have HEX:=hid (ExTo.plain HXS1 (HEXP1 _ ⟨a,c,k4⟩))
  have hwr : IntKind.i64.wrap ((q : Int)+1)=(q : Int)+1:=IntWalk.i64_in _ (by omega)
  rw [hq] at v2
  have HQ:=hid (And.intro hq hdp)
  clear hd3 k3 k4 D2 D3 Y2 Y3 HND hq hdp HEXP1 HXS1 HEXP HXS HM HS1
  go_wp2_with fail
  with_reducible refine HEX.out.mono ?_
  rintro e w5 ⟨kv,dx,rfl,hkv,hd5⟩
  obtain ⟨a4,m4,rfl⟩:=hkv.slice
  obtain ⟨q4,hq4⟩ : ∃ q,x.ks.length=q:=⟨_,rfl⟩
  rw [hq4] at hkv ⊢
  have D5:=D4.out.trans hd5
  have Y5:=Y4.out.keep hd5.fr (by omega)
  have hb6:=(Below.refl w5.heap.size w5).alloc (Nat.le_refl _) (.cells #[.int .i64 x.k,.int .i64 x.v.k,.int .i64 x.v.n,.string (strB x.v.s),.string (strB x.x),.string (strB x.f),.slice a4 q4 m4] 40)
  have D6:=D5.then hb6
  have X6:=XBlk.new w5 (.int .i64 x.k) (.int .i64 x.v.k) (.int .i64 x.v.n) (.string (strB x.v.s)) (.string (strB x.x)) (.string (strB x.f)) (.slice a4 q4 m4)
  have Y6:=Y5.keep (TFr.of_below (K:=fun _=>False) hb6) id
  have hlt5 : R < w5.heap.size:=Nat.lt_of_lt_of_le hR (Nat.le_trans D4.out.fr.size hd5.fr.size)
  have hw5 : w.heap.size < w5.heap.size:=Y5.lt
  have K6:=hkv.keepR (TFr.of_below (K:=(·=R)) hb6) (by show R < _;omega)
  obtain ⟨a6,c6,k6⟩:=D6.rd
  have d2:=k6.c2
  have g6:=k6.f 2
  have hs2 : s2.deep=q+1:=by rw [HDP2.out,HQ.out.1]
  have hq7:=HQ.out.2
  have hq8 : q≤7:=by have:=HQ.out.1;omega
  have k7:=k6.setDeep' (x:=s2.deep - 1) (by omega) (v:=((q+1 : Nat) : Int) - 1) (by omega)
  rw [hs2] at d2
  have D7 : RdTo R T E ⟨s2.l,s2.deep - 1,s2.wrong⟩ w ((w5.alloc (.cells #[.int .i64 x.k,.int .i64 x.v.k,.int .i64 x.v.n,.string (strB x.v.s),.string (strB x.x),.string (strB x.f),.slice a4 q4 m4] 40)).setCell ⟨R,2,none⟩ (.int .i64 (((q+1 : Nat) : Int) - 1))):=⟨⟨a6,c6,k7⟩,D6.fr.trans (TFr.at R 2 _)⟩
  have X7:=hid (X6.keep (TFr.at R 2 (.int .i64 (((q+1 : Nat) : Int) - 1))) (by omega))
  have Y7:=hid (Y6.keep (TFr.at R 2 (.int .i64 (((q+1 : Nat) : Int) - 1))) (by omega))
  have K7:=hid (K6.keepR (TFr.at R 2 (.int .i64 (((q+1 : Nat) : Int) - 1))) (by show R < _;omega))
  have hwr2 : IntKind.i64.wrap (((q+1 : Nat) : Int) - 1)=((q+1 : Nat) : Int) - 1:=IntWalk.i64_in _ (by omega)
  obtain ⟨q1,hq1⟩ : ∃ q1,q+1=q1:=⟨_,rfl⟩
  rw [hq1] at d2 D7 X7 Y7 K7 hwr2
  have D8:=hid D7
  have HW5:=hid hlt5
  have HSZ:=hid hsz4
  clear hkv hd5 D5 Y5 hb6 D6 X6 Y6 K6 k6 k7 D7 hq4 hs2 hq7 hq8 hq1 Y4 D4 hsz4 HEX HQ hwr HDP2 hlt5 hw5
  simp only [xexV]
  go_wp2_with fail
  with_reducible refine (HM2.out _).mono ?_
  rintro e w8 ⟨rfl,hb8⟩
  have HNE:=hid (show Calls Tryz.prog 35 #[.pointer (some ⟨R,0,none⟩),.agg #[.int .i64 4,.string ⟨#[41]⟩]] w8 fun e w'=>e=.returned (.tuple #[])∧RdTo R T E (needT E ⟨s2.l,s2.deep - 1,s2.wrong⟩ 4 [41]) w8 w' from needS_calls (D8.out.then hb8).rd [41])
  have D9:=hid (D8.out.then hb8)
  have X8:=hid (X7.out.keep (TFr.of_below (K:=fun _=>False) hb8) id)
  have Y8:=hid (Y7.out.keep (TFr.of_below (K:=fun _=>False) hb8) id)
  have K8:=hid (K7.out.keepR (TFr.of_below (K:=(·=R)) hb8) (Nat.lt_trans hR HSZ.out))
  clear hb8 D8 X7 Y7 K7 HM2
  go_wp2_with fail
  with_reducible refine HNE.out.mono ?_
  rintro e w9 ⟨rfl,hd9⟩
  obtain ⟨e0,e1,e2,e3,e4,e5,e6,_,_,_,_,_,_,_⟩:=(X8.out.keep hd9.fr (by have:=HW5.out;omega)).all
  obtain ⟨r0,r1,r2,r3,r4,r5,r6,h0,h1,h2,h3,h4,h5,h6'⟩:=(Y8.out.keep hd9.fr (by omega)).all
  have D10:=hid (D9.out.trans hd9)
  have K9:=hid (K8.out.keepR hd9.fr (Nat.lt_trans hR HSZ.out))
  clear hd9 D9 X8 Y8 K8 HNE
  go_wp2
  refine bodyPost_ret (v:=exV x (.slice a4 q4 m4)) (by simp [results,Tryz.results131,go_sem,r0,r1,r2,r3,r4,r5,r6];rfl) rfl ⟨_,dx,rfl,?_,D10.out.set7 hR (Nat.le_refl _) _ _ _ _ _ _ _⟩
  exact (K9.out.set7 (b:=w.heap.size) HSZ.out _ _ _ _ _ _ _).after (Nat.le_of_lt HSZ.out)
 ·rw [if_neg h6] at HS1
  have ht : ((s.deep : Int) == 6)=false:=by rw [beq_eq_false_iff_ne];omega
  clear HE
  have D1:=D0
  have Y1:=Y0
  clear D0 Y0
  go_enter Tryz.func131,Tryz.ntmps131
  go_wp2_with fail
  with_reducible refine (HM.out _).mono ?_
  rintro e w2 ⟨rfl,hb2⟩
  have HND : Hid (Calls Tryz.prog 35 #[.pointer (some ⟨R,0,none⟩),.agg #[.int .i64 4,.string ⟨#[40]⟩]] w2 fun e w'=>e=.returned (.tuple #[])∧RdTo R T E s1 w2 w'):=by
   show Calls _ _ _ _ _
   rw [← HS1.out]
   exact needS_calls (D1.out.then hb2).rd [40]
  have D2:=hid (D1.out.then hb2)
  have Y2:=hid (Y1.out.keep (TFr.of_below (K:=fun _=>False) hb2) id)
  clear hb2 D1 Y1
  go_wp2_with fail
  with_reducible refine HND.out.mono ?_
  rintro e w3 ⟨rfl,hd3⟩
  have D3:=hid (D2.out.trans hd3)
  have Y3:=hid (Y2.out.keep hd3.fr (by omega))
  obtain ⟨a,c,k3⟩:=hd3.rd
  have v2:=k3.c2
  have g2:=k3.f 2
  have hdp : s1.deep≤7:=Nat.le_trans (Nat.le_of_eq HDP.out) (by omega)
  obtain ⟨q,hq⟩ : ∃ q,s1.deep=q:=⟨_,rfl⟩
  have HEXP1:=HEXP.out
  rw [hq] at HEXP1
  have HXS1:=HXS.out
  rw [hq] at HXS1
  have k4:=k3.setDeep' (x:=q+1) (by omega) (v:=(q : Int)+1) (by omega)
  have D4 : Hid (RdTo R T E ⟨s1.l,q+1,s1.wrong⟩ w (w3.setCell ⟨R,2,none⟩ (.int .i64 ((q : Int)+1)))):=⟨⟨a,c,k4⟩,D3.out.fr.trans (TFr.at R 2 _)⟩
  have Y4:=hid (Y3.out.keep (TFr.at R 2 (.int .i64 ((q : Int)+1))) (by omega))
  have hsz4 : w.heap.size < (w3.setCell ⟨R,2,none⟩ (.int .i64 ((q : Int)+1))).heap.size:=by have:=Y3.out.lt;simpa using this
  have HEX:=hid (ExTo.plain HXS1 (HEXP1 _ ⟨a,c,k4⟩))
  have hwr : IntKind.i64.wrap ((q : Int)+1)=(q : Int)+1:=IntWalk.i64_in _ (by omega)
  rw [hq] at v2
  have HQ:=hid (And.intro hq hdp)
  clear hd3 k3 k4 D2 D3 Y2 Y3 HND hq hdp HEXP1 HXS1 HEXP HXS HM HS1
  go_wp2_with fail
  with_reducible refine HEX.out.mono ?_
  rintro e w5 ⟨kv,dx,rfl,hkv,hd5⟩
  obtain ⟨a4,m4,rfl⟩:=hkv.slice
  obtain ⟨q4,hq4⟩ : ∃ q,x.ks.length=q:=⟨_,rfl⟩
  rw [hq4] at hkv ⊢
  have D5:=D4.out.trans hd5
  have Y5:=Y4.out.keep hd5.fr (by omega)
  have hb6:=(Below.refl w5.heap.size w5).alloc (Nat.le_refl _) (.cells #[.int .i64 x.k,.int .i64 x.v.k,.int .i64 x.v.n,.string (strB x.v.s),.string (strB x.x),.string (strB x.f),.slice a4 q4 m4] 40)
  have D6:=D5.then hb6
  have X6:=XBlk.new w5 (.int .i64 x.k) (.int .i64 x.v.k) (.int .i64 x.v.n) (.string (strB x.v.s)) (.string (strB x.x)) (.string (strB x.f)) (.slice a4 q4 m4)
  have Y6:=Y5.keep (TFr.of_below (K:=fun _=>False) hb6) id
  have hlt5 : R < w5.heap.size:=Nat.lt_of_lt_of_le hR (Nat.le_trans D4.out.fr.size hd5.fr.size)
  have hw5 : w.heap.size < w5.heap.size:=Y5.lt
  have K6:=hkv.keepR (TFr.of_below (K:=(·=R)) hb6) (by show R < _;omega)
  obtain ⟨a6,c6,k6⟩:=D6.rd
  have d2:=k6.c2
  have g6:=k6.f 2
  have hs2 : s2.deep=q+1:=by rw [HDP2.out,HQ.out.1]
  have hq7:=HQ.out.2
  have hq8 : q≤7:=by have:=HQ.out.1;omega
  have k7:=k6.setDeep' (x:=s2.deep - 1) (by omega) (v:=((q+1 : Nat) : Int) - 1) (by omega)
  rw [hs2] at d2
  have D7 : RdTo R T E ⟨s2.l,s2.deep - 1,s2.wrong⟩ w ((w5.alloc (.cells #[.int .i64 x.k,.int .i64 x.v.k,.int .i64 x.v.n,.string (strB x.v.s),.string (strB x.x),.string (strB x.f),.slice a4 q4 m4] 40)).setCell ⟨R,2,none⟩ (.int .i64 (((q+1 : Nat) : Int) - 1))):=⟨⟨a6,c6,k7⟩,D6.fr.trans (TFr.at R 2 _)⟩
  have X7:=hid (X6.keep (TFr.at R 2 (.int .i64 (((q+1 : Nat) : Int) - 1))) (by omega))
  have Y7:=hid (Y6.keep (TFr.at R 2 (.int .i64 (((q+1 : Nat) : Int) - 1))) (by omega))
  have K7:=hid (K6.keepR (TFr.at R 2 (.int .i64 (((q+1 : Nat) : Int) - 1))) (by show R < _;omega))
  have hwr2 : IntKind.i64.wrap (((q+1 : Nat) : Int) - 1)=((q+1 : Nat) : Int) - 1:=IntWalk.i64_in _ (by omega)
  obtain ⟨q1,hq1⟩ : ∃ q1,q+1=q1:=⟨_,rfl⟩
  rw [hq1] at d2 D7 X7 Y7 K7 hwr2
  have D8:=hid D7
  have HW5:=hid hlt5
  have HSZ:=hid hsz4
  clear hkv hd5 D5 Y5 hb6 D6 X6 Y6 K6 k6 k7 D7 hq4 hs2 hq7 hq8 hq1 Y4 D4 hsz4 HEX HQ hwr HDP2 hlt5 hw5
  simp only [xexV]
  go_wp2_with fail
  with_reducible refine (HM2.out _).mono ?_
  rintro e w8 ⟨rfl,hb8⟩
  have HNE:=hid (show Calls Tryz.prog 35 #[.pointer (some ⟨R,0,none⟩),.agg #[.int .i64 4,.string ⟨#[41]⟩]] w8 fun e w'=>e=.returned (.tuple #[])∧RdTo R T E (needT E ⟨s2.l,s2.deep - 1,s2.wrong⟩ 4 [41]) w8 w' from needS_calls (D8.out.then hb8).rd [41])
  have D9:=hid (D8.out.then hb8)
  have X8:=hid (X7.out.keep (TFr.of_below (K:=fun _=>False) hb8) id)
  have Y8:=hid (Y7.out.keep (TFr.of_below (K:=fun _=>False) hb8) id)
  have K8:=hid (K7.out.keepR (TFr.of_below (K:=(·=R)) hb8) (Nat.lt_trans hR HSZ.out))
  clear hb8 D8 X7 Y7 K7 HM2
  go_wp2_with fail
  with_reducible refine HNE.out.mono ?_
  rintro e w9 ⟨rfl,hd9⟩
  obtain ⟨e0,e1,e2,e3,e4,e5,e6,_,_,_,_,_,_,_⟩:=(X8.out.keep hd9.fr (by have:=HW5.out;omega)).all
  obtain ⟨r0,r1,r2,r3,r4,r5,r6,h0,h1,h2,h3,h4,h5,h6'⟩:=(Y8.out.keep hd9.fr (by omega)).all
  have D10:=hid (D9.out.trans hd9)
  have K9:=hid (K8.out.keepR hd9.fr (Nat.lt_trans hR HSZ.out))
  clear hd9 D9 X8 Y8 K8 HNE
  go_wp2
  refine bodyPost_ret (v:=exV x (.slice a4 q4 m4)) (by simp [results,Tryz.results131,go_sem,r0,r1,r2,r3,r4,r5,r6];rfl) rfl ⟨_,dx,rfl,?_,D10.out.set7 hR (Nat.le_refl _) _ _ _ _ _ _ _⟩
  exact (K9.out.set7 (b:=w.heap.size) HSZ.out _ _ _ _ _ _ _).after (Nat.le_of_lt HSZ.out)
end
end Go.Proofs.YtefcbgnckgapgaaGreatDoor
