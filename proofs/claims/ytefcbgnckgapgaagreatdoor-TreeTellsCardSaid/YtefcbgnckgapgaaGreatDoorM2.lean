/- Queries: terms. | Queries: rows of one's own, of elements that have memory of their own. | Queries: names, items, predicates in rows. | Queries: names, one behind the other. | Queries: items. | Queries: items, one behind the other. -/
import Derived.Test.YtefcbgnckgapgaaGreatDoorM1
import Derived.Test.YtefcbgnckgapgaaGreatDoorL5x
import Derived.Test.YtefcbgnckgapgaaGreatDoorV4
namespace Go.Proofs.YtefcbgnckgapgaaGreatDoor
open Go.RowKit Go.Lib Go.Op
section
variable {w : World} {R T E : Nat} {s : RS}
set_option maxHeartbeats 1000000 in
set_option maxRecDepth 100000 in
theorem term_val (h : RdR w R T E s) (hz : (valT E s).2.1=true) : Calls Tryz.prog 115 #[.pointer (some ⟨R,0,none⟩)] w (ExTo R T E (.mk 1 (valT E s).1 [] [] [],(valT E s).2.2) w):=by
 have hR:=h.lt
 have hb0:=(Below.refl w.heap.size w).alloc (Nat.le_refl _) (.cells #[.int .i64 0,.int .i64 0,.int .i64 0,.string ⟨#[]⟩,.string ⟨#[]⟩,.string ⟨#[]⟩,.slice none 0 0] 40)
 have Y0:=hid (XBlk.new w (.int .i64 0) (.int .i64 0) (.int .i64 0) (.string ⟨#[]⟩) (.string ⟨#[]⟩) (.string ⟨#[]⟩) (.slice none 0 0))
 have D0:=hid (RdTo.of_below h hb0)
 have hval:=val_calls D0.out.rd
 obtain ⟨⟨v,bb,s1⟩,hv⟩ : ∃ z,valT E s=z:=⟨_,rfl⟩
 rw [hv] at hz hval
 dsimp only at hz
 subst hz
 have HV : Hid (Calls Tryz.prog 129 #[.pointer (some ⟨R,0,none⟩)] (w.alloc (.cells #[.int .i64 0,.int .i64 0,.int .i64 0,.string ⟨#[]⟩,.string ⟨#[]⟩,.string ⟨#[]⟩,.slice none 0 0] 40)) fun e w'=>e=.returned (.tuple #[.agg #[.int .i64 v.k,.int .i64 v.n,.string (strB v.s)],.bool true])∧RdTo R T E s1 (w.alloc (.cells #[.int .i64 0,.int .i64 0,.int .i64 0,.string ⟨#[]⟩,.string ⟨#[]⟩,.string ⟨#[]⟩,.slice none 0 0] 40)) w'):=hval
 rw [hv]
 dsimp only
 clear h hb0 hv hval
 go_enter Tryz.func115,Tryz.ntmps115
 go_wp2_with fail
 with_reducible refine HV.out.mono ?_
 rintro e w1 ⟨rfl,hd1⟩
 have hb2:=(Below.refl w1.heap.size w1).alloc (Nat.le_refl _) (.cells #[.int .i64 v.k,.int .i64 v.n,.string (strB v.s)] 37)
 have Y2:=hid ((Y0.out.keep hd1.fr (by omega)).keep (TFr.of_below (K:=fun _=>False) hb2) id)
 have D2:=hid ((D0.out.trans hd1).then hb2)
 clear hd1 hb2 Y0 D0 HV
 obtain ⟨r0,r1,r2,r3,r4,r5,r6,h0,h1,h2,h3,h4,h5,h6⟩:=Y2.out.all
 go_wp2
 refine bodyPost_ret (v:=exV (.mk 1 v [] [] []) (.slice none 0 0)) (by simp [results,Tryz.results115,go_sem,r0,r1,r2,r3,r4,r5,r6];rfl) rfl ⟨_,0,rfl,ExK.nil _ _,?_⟩
 exact D2.out.set7 hR (Nat.le_refl _) _ _ _ _ _ _ _
set_option maxHeartbeats 1000000 in
set_option maxRecDepth 100000 in
theorem term_inner (h : RdR w R T E s) (hz : (valT E s).2.1=false) (hp : isT E s 4 [40]=true) (hd6 : s.deep≤6) {tm : RS→PEx × RS} {n : Nat} (hin : ∀ W,RdR W R T E s→Calls Tryz.prog 131 #[.pointer (some ⟨R,0,none⟩)] W (ExTo R T E (innerT E tm n s) W)) : Calls Tryz.prog 115 #[.pointer (some ⟨R,0,none⟩)] w (ExTo R T E (innerT E tm n s) w):=by
 have hno:=valT_no hz
 have hR:=h.lt
 have hb0:=(Below.refl w.heap.size w).alloc (Nat.le_refl _) (.cells #[.int .i64 0,.int .i64 0,.int .i64 0,.string ⟨#[]⟩,.string ⟨#[]⟩,.string ⟨#[]⟩,.slice none 0 0] 40)
 have Y0:=hid (XBlk.new w (.int .i64 0) (.int .i64 0) (.int .i64 0) (.string ⟨#[]⟩) (.string ⟨#[]⟩) (.string ⟨#[]⟩) (.slice none 0 0))
 have D0:=hid (RdTo.of_below h hb0)
 have hval:=val_calls D0.out.rd
 obtain ⟨⟨v,bb,s1⟩,hv⟩ : ∃ z,valT E s=z:=⟨_,rfl⟩
 rw [hv] at hz hval
 dsimp only at hz
 subst hz
 have HV : Hid (Calls Tryz.prog 129 #[.pointer (some ⟨R,0,none⟩)] (w.alloc (.cells #[.int .i64 0,.int .i64 0,.int .i64 0,.string ⟨#[]⟩,.string ⟨#[]⟩,.string ⟨#[]⟩,.slice none 0 0] 40)) fun e w'=>e=.returned (.tuple #[.agg #[.int .i64 v.k,.int .i64 v.n,.string (strB v.s)],.bool false])∧RdTo R T E s1 (w.alloc (.cells #[.int .i64 0,.int .i64 0,.int .i64 0,.string ⟨#[]⟩,.string ⟨#[]⟩,.string ⟨#[]⟩,.slice none 0 0] 40)) w'):=hval
 rw [hv] at hno
 dsimp only at hno
 subst hno
 obtain ⟨x,hx⟩ : ∃ x,innerT E tm n s1=x:=⟨_,rfl⟩
 rw [hx] at hin ⊢
 have HP:=hid hp
 have HD6:=hid hd6
 clear hp hd6 hx
 have HM:=hid (fun W=>sign_mark ⟨#[40]⟩ W)
 clear h hb0 hv hval
 go_enter Tryz.func115,Tryz.ntmps115
 go_wp2_with fail
 with_reducible refine HV.out.mono ?_
 rintro e w1 ⟨rfl,hd1⟩
 have hb2:=(Below.refl w1.heap.size w1).alloc (Nat.le_refl _) (.cells #[.int .i64 v.k,.int .i64 v.n,.string (strB v.s)] 37)
 have Y2:=hid ((Y0.out.keep hd1.fr (by omega)).keep (TFr.of_below (K:=fun _=>False) hb2) id)
 have D2:=hid ((D0.out.trans hd1).then hb2)
 clear hd1 hb2 Y0 D0 HV
 go_wp2_with fail
 with_reducible refine (HM.out _).mono ?_
 rintro e w3 ⟨rfl,hb3⟩
 have Y3:=hid (Y2.out.keep (TFr.of_below (K:=fun _=>False) hb3) id)
 have D3:=hid (D2.out.then hb3)
 have his:=isS_calls D3.out.rd [40]
 rw [HP.out] at his
 have HI : Hid (Calls Tryz.prog 87 #[.pointer (some ⟨R,0,none⟩),.agg #[.int .i64 4,.string ⟨#[40]⟩]] w3 fun e w'=>e=.returned (.bool true)∧Below w3.heap.size w3 w'):=his
 clear hb3 his Y2 D2 HM HP
 go_wp2_with fail
 with_reducible refine HI.out.mono ?_
 rintro e w4 ⟨rfl,hb4⟩
 have Y4:=hid (Y3.out.keep (TFr.of_below (K:=fun _=>False) hb4) id)
 have D4:=hid (D3.out.then hb4)
 clear hb4 Y3 D3 HI
 have HX:=hid (hin _ D4.out.rd)
 clear hin HD6
 go_wp2_with fail
 with_reducible refine HX.out.mono ?_
 rintro e w9 ⟨kv,dx,rfl,hkv,hd9⟩
 obtain ⟨a4,m4,rfl⟩:=hkv.slice
 obtain ⟨q4,hq4⟩ : ∃ q,x.1.ks.length=q:=⟨_,rfl⟩
 rw [hq4] at hkv ⊢
 obtain ⟨r0,r1,r2,r3,r4,r5,r6,h0,h1,h2,h3,h4,h5,h6⟩:=(Y4.out.keep hd9.fr (by omega)).all
 have D10:=hid (D4.out.trans hd9)
 have KV:=hid hkv
 have HSZ:=hid Y4.out.lt
 clear hkv hd9 hq4 Y4 D4 HX
 simp only [xexV]
 go_wp2
 refine bodyPost_ret (v:=exV x.1 (.slice a4 q4 m4)) (by simp [results,Tryz.results115,go_sem,r0,r1,r2,r3,r4,r5,r6];rfl) rfl ⟨_,dx,rfl,?_,D10.out.set7 hR (Nat.le_refl _) _ _ _ _ _ _ _⟩
 exact (KV.out.set7 (b:=w.heap.size) HSZ.out _ _ _ _ _ _ _).after (Nat.le_of_lt HSZ.out)
set_option maxHeartbeats 1000000 in
set_option maxRecDepth 100000 in
theorem term_field (h : RdR w R T E s) (hz : (valT E s).2.1=false) (hp : isT E s 4 [40]=false) {s2 : RS} (ha : amongT E s 1 0 callsL=(0,s2)) : Calls Tryz.prog 115 #[.pointer (some ⟨R,0,none⟩)] w (ExTo R T E (fieldT E s2 2) w):=by
 have hno:=valT_no hz
 have hR:=h.lt
 have hb0:=(Below.refl w.heap.size w).alloc (Nat.le_refl _) (.cells #[.int .i64 0,.int .i64 0,.int .i64 0,.string ⟨#[]⟩,.string ⟨#[]⟩,.string ⟨#[]⟩,.slice none 0 0] 40)
 have Y0:=hid (XBlk.new w (.int .i64 0) (.int .i64 0) (.int .i64 0) (.string ⟨#[]⟩) (.string ⟨#[]⟩) (.string ⟨#[]⟩) (.slice none 0 0))
 have D0:=hid (RdTo.of_below h hb0)
 have hval:=val_calls D0.out.rd
 obtain ⟨⟨v,bb,s1⟩,hv⟩ : ∃ z,valT E s=z:=⟨_,rfl⟩
 rw [hv] at hz hval
 dsimp only at hz
 subst hz
 have HV : Hid (Calls Tryz.prog 129 #[.pointer (some ⟨R,0,none⟩)] (w.alloc (.cells #[.int .i64 0,.int .i64 0,.int .i64 0,.string ⟨#[]⟩,.string ⟨#[]⟩,.string ⟨#[]⟩,.slice none 0 0] 40)) fun e w'=>e=.returned (.tuple #[.agg #[.int .i64 v.k,.int .i64 v.n,.string (strB v.s)],.bool false])∧RdTo R T E s1 (w.alloc (.cells #[.int .i64 0,.int .i64 0,.int .i64 0,.string ⟨#[]⟩,.string ⟨#[]⟩,.string ⟨#[]⟩,.slice none 0 0] 40)) w'):=hval
 rw [hv] at hno
 dsimp only at hno
 subst hno
 obtain ⟨x,hx⟩ : ∃ x,fieldT E s2 2=x:=⟨_,rfl⟩
 rw [hx]
 have HP:=hid hp
 have HAM:=hid ha
 have HQ:=hid hx
 clear hp hx ha
 have HM:=hid (fun W=>sign_mark ⟨#[40]⟩ W)
 clear h hb0 hv hval
 go_enter Tryz.func115,Tryz.ntmps115
 go_wp2_with fail
 with_reducible refine HV.out.mono ?_
 rintro e w1 ⟨rfl,hd1⟩
 have hb2:=(Below.refl w1.heap.size w1).alloc (Nat.le_refl _) (.cells #[.int .i64 v.k,.int .i64 v.n,.string (strB v.s)] 37)
 have Y2:=hid ((Y0.out.keep hd1.fr (by omega)).keep (TFr.of_below (K:=fun _=>False) hb2) id)
 have D2:=hid ((D0.out.trans hd1).then hb2)
 clear hd1 hb2 Y0 D0 HV
 go_wp2_with fail
 with_reducible refine (HM.out _).mono ?_
 rintro e w3 ⟨rfl,hb3⟩
 have Y3:=hid (Y2.out.keep (TFr.of_below (K:=fun _=>False) hb3) id)
 have D3:=hid (D2.out.then hb3)
 have his:=isS_calls D3.out.rd [40]
 rw [HP.out] at his
 have HI : Hid (Calls Tryz.prog 87 #[.pointer (some ⟨R,0,none⟩),.agg #[.int .i64 4,.string ⟨#[40]⟩]] w3 fun e w'=>e=.returned (.bool false)∧Below w3.heap.size w3 w'):=his
 clear hb3 his Y2 D2 HM HP
 go_wp2_with fail
 with_reducible refine HI.out.mono ?_
 rintro e w4 ⟨rfl,hb4⟩
 have Y4:=hid (Y3.out.keep (TFr.of_below (K:=fun _=>False) hb4) id)
 have D4:=hid (D3.out.then hb4)
 clear hb4 Y3 D3 HI
 have HCL:=hid (fun W=>calls_calls W)
 go_wp2_with fail
 with_reducible refine (HCL.out _).mono ?_
 rintro e w5 ⟨rfl,hb5⟩
 have Y5:=hid (Y4.out.keep (TFr.of_below (K:=fun _=>False) hb5) id)
 have D5:=hid (D4.out.then hb5)
 have ham:=amongW_calls D5.out.rd callsL rfl
 rw [HAM.out] at ham
 have HA:=hid ham
 clear hb5 ham Y4 D4 HCL HAM
 go_wp2_with fail
 with_reducible refine HA.out.mono ?_
 rintro e w6 ⟨rfl,hd6⟩
 have Y6:=hid (Y5.out.keep hd6.fr (by omega))
 have D6:=hid (D5.out.trans hd6)
 clear hd6 Y5 D5 HA
 have HX:=hid (show Calls Tryz.prog 133 #[.pointer (some ⟨R,0,none⟩),.int .i64 2] w6 (ExTo R T E x w6) from HQ.out ▸ fieldX_calls D6.out.rd 2)
 clear HQ
 go_wp2_with fail
 with_reducible refine HX.out.mono ?_
 rintro e w9 ⟨kv,dx,rfl,hkv,hd9⟩
 obtain ⟨a4,m4,rfl⟩:=hkv.slice
 obtain ⟨q4,hq4⟩ : ∃ q,x.1.ks.length=q:=⟨_,rfl⟩
 rw [hq4] at hkv ⊢
 obtain ⟨r0,r1,r2,r3,r4,r5,r6,h0,h1,h2,h3,h4,h5,h6⟩:=(Y6.out.keep hd9.fr (by omega)).all
 have D10:=hid (D6.out.trans hd9)
 have KV:=hid hkv
 have HSZ:=hid Y6.out.lt
 clear hkv hd9 hq4 Y6 D6 HX
 simp only [xexV]
 go_wp2
 refine bodyPost_ret (v:=exV x.1 (.slice a4 q4 m4)) (by simp [results,Tryz.results115,go_sem,r0,r1,r2,r3,r4,r5,r6];rfl) rfl ⟨_,dx,rfl,?_,D10.out.set7 hR (Nat.le_refl _) _ _ _ _ _ _ _⟩
 exact (KV.out.set7 (b:=w.heap.size) HSZ.out _ _ _ _ _ _ _).after (Nat.le_of_lt HSZ.out)
set_option maxHeartbeats 1000000 in
set_option maxRecDepth 100000 in
theorem term_call (h : RdR w R T E s) (hz : (valT E s).2.1=false) (hp : isT E s 4 [40]=false) {s2 : RS} {kk : Nat} (hk : kk≠0) (ha : amongT E s 1 0 callsL=(kk,s2)) : Calls Tryz.prog 115 #[.pointer (some ⟨R,0,none⟩)] w (ExTo R T E (callT E s2 kk) w):=by
 have hno:=valT_no hz
 have hR:=h.lt
 have hb0:=(Below.refl w.heap.size w).alloc (Nat.le_refl _) (.cells #[.int .i64 0,.int .i64 0,.int .i64 0,.string ⟨#[]⟩,.string ⟨#[]⟩,.string ⟨#[]⟩,.slice none 0 0] 40)
 have Y0:=hid (XBlk.new w (.int .i64 0) (.int .i64 0) (.int .i64 0) (.string ⟨#[]⟩) (.string ⟨#[]⟩) (.string ⟨#[]⟩) (.slice none 0 0))
 have D0:=hid (RdTo.of_below h hb0)
 have hval:=val_calls D0.out.rd
 obtain ⟨⟨v,bb,s1⟩,hv⟩ : ∃ z,valT E s=z:=⟨_,rfl⟩
 rw [hv] at hz hval
 dsimp only at hz
 subst hz
 have HV : Hid (Calls Tryz.prog 129 #[.pointer (some ⟨R,0,none⟩)] (w.alloc (.cells #[.int .i64 0,.int .i64 0,.int .i64 0,.string ⟨#[]⟩,.string ⟨#[]⟩,.string ⟨#[]⟩,.slice none 0 0] 40)) fun e w'=>e=.returned (.tuple #[.agg #[.int .i64 v.k,.int .i64 v.n,.string (strB v.s)],.bool false])∧RdTo R T E s1 (w.alloc (.cells #[.int .i64 0,.int .i64 0,.int .i64 0,.string ⟨#[]⟩,.string ⟨#[]⟩,.string ⟨#[]⟩,.slice none 0 0] 40)) w'):=hval
 rw [hv] at hno
 dsimp only at hno
 subst hno
 obtain ⟨x,hx⟩ : ∃ x,callT E s2 kk=x:=⟨_,rfl⟩
 rw [hx]
 have HP:=hid hp
 have HAM:=hid ha
 have HQ:=hid hx
 have ht : ((kk : Int) != 0)=true:=by rw [bne_iff_ne];omega
 clear hp hx ha
 have HM:=hid (fun W=>sign_mark ⟨#[40]⟩ W)
 clear h hb0 hv hval
 go_enter Tryz.func115,Tryz.ntmps115
 go_wp2_with fail
 with_reducible refine HV.out.mono ?_
 rintro e w1 ⟨rfl,hd1⟩
 have hb2:=(Below.refl w1.heap.size w1).alloc (Nat.le_refl _) (.cells #[.int .i64 v.k,.int .i64 v.n,.string (strB v.s)] 37)
 have Y2:=hid ((Y0.out.keep hd1.fr (by omega)).keep (TFr.of_below (K:=fun _=>False) hb2) id)
 have D2:=hid ((D0.out.trans hd1).then hb2)
 clear hd1 hb2 Y0 D0 HV
 go_wp2_with fail
 with_reducible refine (HM.out _).mono ?_
 rintro e w3 ⟨rfl,hb3⟩
 have Y3:=hid (Y2.out.keep (TFr.of_below (K:=fun _=>False) hb3) id)
 have D3:=hid (D2.out.then hb3)
 have his:=isS_calls D3.out.rd [40]
 rw [HP.out] at his
 have HI : Hid (Calls Tryz.prog 87 #[.pointer (some ⟨R,0,none⟩),.agg #[.int .i64 4,.string ⟨#[40]⟩]] w3 fun e w'=>e=.returned (.bool false)∧Below w3.heap.size w3 w'):=his
 clear hb3 his Y2 D2 HM HP
 go_wp2_with fail
 with_reducible refine HI.out.mono ?_
 rintro e w4 ⟨rfl,hb4⟩
 have Y4:=hid (Y3.out.keep (TFr.of_below (K:=fun _=>False) hb4) id)
 have D4:=hid (D3.out.then hb4)
 clear hb4 Y3 D3 HI
 have HCL:=hid (fun W=>calls_calls W)
 go_wp2_with fail
 with_reducible refine (HCL.out _).mono ?_
 rintro e w5 ⟨rfl,hb5⟩
 have Y5:=hid (Y4.out.keep (TFr.of_below (K:=fun _=>False) hb5) id)
 have D5:=hid (D4.out.then hb5)
 have ham:=amongW_calls D5.out.rd callsL rfl
 rw [HAM.out] at ham
 have HA:=hid ham
 clear hb5 ham Y4 D4 HCL HAM
 go_wp2_with fail
 with_reducible refine HA.out.mono ?_
 rintro e w6 ⟨rfl,hd6⟩
 have Y6:=hid (Y5.out.keep hd6.fr (by omega))
 have D6:=hid (D5.out.trans hd6)
 clear hd6 Y5 D5 HA
 have HX:=hid (show Calls Tryz.prog 132 #[.pointer (some ⟨R,0,none⟩),.int .i64 kk] w6 (ExTo R T E x w6) from HQ.out ▸ callX_calls D6.out.rd kk)
 clear HQ
 go_wp2_with fail
 with_reducible refine HX.out.mono ?_
 rintro e w9 ⟨kv,dx,rfl,hkv,hd9⟩
 obtain ⟨a4,m4,rfl⟩:=hkv.slice
 obtain ⟨q4,hq4⟩ : ∃ q,x.1.ks.length=q:=⟨_,rfl⟩
 rw [hq4] at hkv ⊢
 obtain ⟨r0,r1,r2,r3,r4,r5,r6,h0,h1,h2,h3,h4,h5,h6⟩:=(Y6.out.keep hd9.fr (by omega)).all
 have D10:=hid (D6.out.trans hd9)
 have KV:=hid hkv
 have HSZ:=hid Y6.out.lt
 clear hkv hd9 hq4 Y6 D6 HX
 simp only [xexV]
 go_wp2
 refine bodyPost_ret (v:=exV x.1 (.slice a4 q4 m4)) (by simp [results,Tryz.results115,go_sem,r0,r1,r2,r3,r4,r5,r6];rfl) rfl ⟨_,dx,rfl,?_,D10.out.set7 hR (Nat.le_refl _) _ _ _ _ _ _ _⟩
 exact (KV.out.set7 (b:=w.heap.size) HSZ.out _ _ _ _ _ _ _).after (Nat.le_of_lt HSZ.out)
end
theorem term_calls {R T E : Nat} : ∀ (n : Nat) (w : World) (s : RS),RdR w R T E s→DeepOk s→s.l.length < n→Calls Tryz.prog 115 #[.pointer (some ⟨R,0,none⟩)] w (ExTo R T E (termT E n s) w)
 | 0,w,s,h,hok,hn=>absurd hn (Nat.not_lt_zero _)
 | n+1,w,s,h,hok,hn=>by
   rw [termT]
   cases hz : (valT E s).2.1 with
   | true=>exact term_val h hz
   | false =>
     rw [if_neg (by simp)]
     cases hp : isT E s 4 [40] with
     | true =>
       rw [if_pos rfl]
       have hd6 : s.deep≤6:=by
        rcases hok with h6|h0
        ·exact h6
        ·obtain ⟨t,r,hl⟩:=isT_cons hp (by decide)
         rw [hl] at h0
         cases h0
       refine term_inner h hz hp hd6 (fun W hW=>?_)
       refine inner_calls (fun s1 hs1 w1 hw1=>?_) (exprT_deep (termT_deep n) n) hW hd6
       have hl1 : s1.l.length < s.l.length:=by
        have hpos : 0 < s.l.length:=by
         obtain ⟨t,r,hl⟩:=isT_cons hp (by decide)
         rw [hl];simp
        rw [← hs1]
        split
        ·refine Nat.lt_of_le_of_lt (needT_le _ _) ?_
         unfold failT
         simpa using hpos
        ·unfold needT
         rw [show (takeT E s 4 [40]).1=true by unfold takeT;rw [hp];rfl,if_pos rfl]
         exact takeT_lt hp (by decide)
       have hok1 : DeepOk ⟨s1.l,s1.deep+1,s1.wrong⟩:=by
        by_cases h6 : s.deep=6
        ·right
         rw [if_pos h6] at hs1
         rw [← hs1]
         have h0:=needT_le (E:=E) (s:=failT E s) 4 [40]
         exact List.eq_nil_of_length_eq_zero (by show (needT E (failT E s) 4 [40]).l.length=0;have : (failT E s).l.length=0:=rfl;omega)
        ·left
         rw [if_neg h6] at hs1
         show s1.deep+1≤6
         rw [← hs1,needT_deep]
         omega
       exact expr_calls (m:=n - 1) (fun w s h hok hm=>term_calls n w s h hok (by omega)) (termT_le n) (termT_deep n) hw1 hok1 (by show s1.l.length≤_;omega) (by show s1.l.length≤_;omega)
     | false =>
       rw [if_neg (by simp)]
       obtain ⟨⟨kk,s2⟩,ha⟩ : ∃ z,amongT E s 1 0 callsL=z:=⟨_,rfl⟩
       rw [ha]
       by_cases hk : kk=0
       ·subst hk
        rw [if_pos rfl]
        exact term_field h hz hp ha
       ·rw [if_neg hk]
        exact term_call h hz hp hk ha
end Go.Proofs.YtefcbgnckgapgaaGreatDoor
namespace Go.Proofs.YtefcbgnckgapgaaGreatDoor
open Go.RowKit Go.Lib Go.Op
structure RowD (α : Type) where
 k : Nat
 P : (Nat→Prop)→World→List Value→α→Prop
 len : ∀ {K w cs x},P K w cs x→cs.length=k
 one : ∀ {K w cs x},P K w cs x→∀ u∈cs,u.oneCell'=true
 keep : ∀ {K w w' cs x},TFr K w w'→P K w cs x→P K w' cs x
 mono : ∀ {K K' w cs x},(∀ g,K' g→K g)→P K w cs x→P K' w cs x
 ne : ∀ {K w cs x} {b : Nat},w.heap.size≤b→P K w cs x→P (fun g=>K g∨g=b) w cs x
theorem RowD.ne' {α : Type} {D : RowD α} {w w1 : World} {cs : List Value} {x : α} {o : Obj} (hb : Below w1.heap.size w1 (w1.alloc o)) (h : D.P (· < w.heap.size) w1 cs x) : D.P (fun g=>g < w.heap.size∨g=w1.heap.size) (w1.alloc o) cs x :=
 D.keep (TFr.of_below hb) (D.ne (Nat.le_refl _) h)
theorem RowD.at' {α : Type} {D : RowD α} {w3 w4 : World} {cs : List Value} {x : α} {o : Obj} {B : Nat} {v : Value} (hb : Below w4.heap.size w4 (w4.alloc o)) (hv : ∀ g,v.ownBlock=some g→B≤g∧g < w3.heap.size) (hB : B≤w3.heap.size) (h : D.P (· < w3.heap.size) w4 cs x) : D.P (fun g=>g < B∨v.ownBlock=some g) (w4.alloc o) cs x :=
 D.keep (TFr.of_below hb) (D.mono (fun _ hg=>hg.elim (fun h=>Nat.lt_of_lt_of_le h hB) (fun h=>(hv _ h).2)) h)
theorem flat_at {k : Nat} : ∀ {css : List (List Value)} {j : Nat} {cs : List Value},(∀ c∈css,c.length=k)→css[j]?=some cs→∀ r u,cs[r]?=some u→css.flatten[j*k+r]?=some u
 | [],j,cs,_,h,_,_,_=>by simp at h
 | c :: l,0,cs,hk,h,r,u,hu=>by
   obtain rfl : c=cs:=by simpa using h
   rw [List.flatten_cons,Nat.zero_mul,Nat.zero_add,List.getElem?_append_left (List.getElem?_eq_some_iff.1 hu).1]
   exact hu
 | c :: l,j+1,cs,hk,h,r,u,hu=>by
   have hc:=hk c List.mem_cons_self
   rw [List.flatten_cons,List.getElem?_append_right (by rw [hc,Nat.succ_mul];omega),hc,show (j+1)*k+r - k=j*k+r by rw [Nat.succ_mul];omega]
   exact flat_at (fun c hc=>hk c (List.mem_cons_of_mem _ hc)) (by simpa using h) r u hu
theorem flat_len {k : Nat} : ∀ {css : List (List Value)},(∀ c∈css,c.length=k)→css.flatten.length=css.length*k
 | [],_=>by simp
 | c :: l,hk=>by
   rw [List.flatten_cons,List.length_append,hk c List.mem_cons_self,flat_len (fun c hc=>hk c (List.mem_cons_of_mem _ hc)),List.length_cons,Nat.succ_mul]
   omega
variable {α : Type}
def RowK (D : RowD α) (K : Nat→Prop) (w : World) (v : Value) (l : List α) : Prop:=∃ a c,v=.slice a l.length c∧l.length≤c∧∀ (j : Nat) (x : α),l[j]?=some x→∃ g o cs,a=some ⟨g,o,none⟩∧¬ K g∧D.P K w cs x∧∀ r u,cs[r]?=some u→w.cell? ⟨g,o+j*D.k+r,none⟩=some u
theorem RowK.slice {D : RowD α} {K : Nat→Prop} {w : World} {v : Value} {l : List α} (h : RowK D K w v l) : ∃ a c,v=.slice a l.length c:=by
 obtain ⟨a,c,e,_⟩:=h
 exact ⟨a,c,e⟩
theorem RowK.keep {D : RowD α} {K : Nat→Prop} {w w' : World} {v : Value} {l : List α} (h : RowK D K w v l) (hf : TFr K w w') : RowK D K w' v l:=by
 obtain ⟨a,c,e,hcap,h⟩:=h
 refine ⟨a,c,e,hcap,fun j x hj=>?_⟩
 obtain ⟨g,o,cs,ea,hg,hp,hc⟩:=h j x hj
 exact ⟨g,o,cs,ea,hg,D.keep hf hp,fun r u hu=>hf.cell (hc r u hu) hg⟩
theorem RowK.keepR {D : RowD α} {K : Nat→Prop} {R : Nat} {w w' : World} {v : Value} {l : List α} (h : RowK D K w v l) (hf : TFr (·=R) w w') (hR : K R) : RowK D K w' v l:=h.keep (hf.mono (fun _ _ e=>e ▸ hR))
theorem RowK.mono {D : RowD α} {K K' : Nat→Prop} (hs : ∀ k,K' k→K k) {w : World} {v : Value} {l : List α} (h : RowK D K w v l) : RowK D K' w v l:=by
 obtain ⟨a,c,e,hcap,h⟩:=h
 refine ⟨a,c,e,hcap,fun j x hj=>?_⟩
 obtain ⟨g,o,cs,ea,hg,hp,hc⟩:=h j x hj
 exact ⟨g,o,cs,ea,fun hn=>hg (hs g hn),D.mono hs hp,hc⟩
theorem RowK.nil (D : RowD α) (K : Nat→Prop) (w : World) : RowK D K w (.slice none 0 0) []:=⟨none,0,rfl,Nat.le_refl _,fun j x hj=>by simp at hj⟩
theorem RowK.ne {D : RowD α} {K : Nat→Prop} {w : World} {v : Value} {l : List α} {b : Nat} (h : RowK D K w v l) (hk : 0 < D.k) (hb : w.heap.size≤b) : RowK D (fun g=>K g∨g=b) w v l:=by
 obtain ⟨a,c,e,hcap,h⟩:=h
 refine ⟨a,c,e,hcap,fun j x hj=>?_⟩
 obtain ⟨g,o,cs,ea,hg,hp,hc⟩:=h j x hj
 have hl:=D.len hp
 have h0:=hc 0 (cs[0]'(by omega)) (List.getElem?_eq_getElem _)
 have hlt : g < w.heap.size:=World.block_lt_of_cell? _ _ h0
 exact ⟨g,o,cs,ea,fun hn=>hn.elim hg (fun e=>by omega),D.ne hb hp,hc⟩
theorem RowK.cap {D : RowD α} {K : Nat→Prop} {w : World} {a : Option Addr} {n c : Nat} {l : List α} (h : RowK D K w (.slice a n c) l) : l.length≤c:=by
 obtain ⟨a',c',e,hc,_⟩:=h
 injection e with e1 e2 e3
 omega
def OwnP (D : RowD α) (w : World) (B : Nat) (t : TypeId) (v : Value) (l : List α) : Prop:=∃ css : List (List Value),css.length=l.length∧w.ownsRow B t D.k v l.length css.flatten∧(∀ c∈css,c.length=D.k)∧∀ (j : Nat) (x : α),l[j]?=some x→∃ cs,css[j]?=some cs∧D.P (fun g=>g < B∨v.ownBlock=some g) w cs x
theorem OwnP.slice {D : RowD α} {w : World} {B : Nat} {t : TypeId} {v : Value} {l : List α} (h : OwnP D w B t v l) : ∃ a c,v=.slice a l.length c:=by
 obtain ⟨css,h1,h2,h3,h4⟩:=h
 rcases h2.2 with ⟨rfl,h0⟩|⟨g,cap,cur,rfl,_⟩
 ·exact ⟨none,0,by rw [h0]⟩
 ·exact ⟨_,cap,rfl⟩
theorem OwnP.first {D : RowD α} {w : World} {B b : Nat} {t : TypeId} {cs : List Value} {x : α} (hb : B≤b) (hw : w.heap[b]?=some (.cells cs.toArray t (0,0))) (hx : D.P (fun g=>g < B∨g=b) w cs x) : OwnP D w B t (.slice (some ⟨b,0,none⟩) 1 1) [x]:=by
 have hl:=D.len hx
 refine ⟨[cs],rfl,⟨by simp [hl],.inr ⟨b,1,cs.toArray,rfl,hb,hw,Nat.le_refl _,by unfold maxLen;omega,by simp [hl],by simp [← hl]⟩⟩,fun c hc=>by rw [List.mem_singleton.1 hc];exact hl,fun j y hj=>?_⟩
 match j,hj with
 | 0,hj =>
   obtain rfl : x=y:=by simpa using hj
   exact ⟨cs,rfl,D.mono (fun g hg=>hg.imp id (fun e=>(Option.some.inj e).symm)) hx⟩
 | n+1,hj=>simp at hj
theorem OwnP.own {D : RowD α} {w : World} {B : Nat} {t : TypeId} {v : Value} {l : List α} (h : OwnP D w B t v l) : ∀ g,v.ownBlock=some g→B≤g∧g < w.heap.size:=by
 obtain ⟨css,h1,h2,h3,h4⟩:=h
 intro g hg
 rcases h2.2 with ⟨rfl,h0⟩|⟨g',cap,cur,rfl,hb,hh,_⟩
 ·cases hg
 ·obtain rfl : g'=g:=Option.some.inj hg
  exact ⟨hb,(Array.getElem?_eq_some_iff.1 hh).1⟩
theorem OwnP.keep {D : RowD α} {w w' : World} {B : Nat} {t : TypeId} {v : Value} {l : List α} (h : OwnP D w B t v l) {K : Nat→Prop} (hf : TFr K w w') (hK : ∀ g,K g→g < B) : OwnP D w' B t v l:=by
 have ho:=h.own
 obtain ⟨css,h1,h2,h3,h4⟩:=h
 refine ⟨css,h1,⟨h2.1,?_⟩,h3,fun j x hj=>?_⟩
 ·rcases h2.2 with h0|⟨g,cap,cur,e,hb,hh,r⟩
  ·exact .inl h0
  ·exact .inr ⟨g,cap,cur,e,hb,(hf.block g (Array.getElem?_eq_some_iff.1 hh).1 (fun hk=>by have:=hK g hk;omega)).trans hh,r⟩
 ·obtain ⟨cs,hc,hp⟩:=h4 j x hj
  exact ⟨cs,hc,D.keep (hf.mono (fun k _ hk=>.inl (hK k hk))) hp⟩
theorem OwnP.append {D : RowD α} {w : World} {B : Nat} {t ts ty : TypeId} {z : Value} {bytes : Nat} (hu : Tryz.prog.underlying ts=some (.slice t)) (hi : (Tryz.prog.info? t).map (fun i=>(i.zero,i.size,i.bytes))=some (some z,D.k,bytes)) (hzs : z.cells.size=D.k) (hk : 0 < D.k) (hby : bytes≤1000)
 {v : Value} {l : List α} (h : OwnP D w B t v l) (hB : B≤w.heap.size) (hl : l.length≤1000) {x : α} {cs : List Value} (hx : D.P (fun g=>g < B∨v.ownBlock=some g) w cs x) {vb : Nat} (hvb : w.heap[vb]?=some (.cells cs.toArray t (0,0))) :
 ∃ v' w',(Builtin.append_ #[ts,ts] ty #[v,.slice (some ⟨vb,0,none⟩) 1 1]).run Tryz.prog w=.ok v' w'∧OwnP D w' B t v' (l++[x])∧w.grownBy w' v.ownBlock:=by
 have hown:=h.own
 obtain ⟨css,h1,h2,h3,h4⟩:=h
 obtain ⟨i0,hi,hz0,hz1,hz2⟩:=info_parts hi
 have hcl:=D.len hx
 have hsrc : ∀ j u,cs[j]?=some u→w.cell? ((⟨vb,0,none⟩ : Addr).add j)=some u:=fun j u hj=>by
  have e : (⟨vb,0,none⟩ : Addr).add j=⟨vb,j,none⟩:=by unfold Addr.add;split <;> simp_all
  rw [e,cell_of_row w vb j _ t (0,0) hvb]
  simpa using hj
 obtain ⟨v',w',hr,g2,g3,_,g5⟩:=run_append_own_at (P:=Tryz.prog) w B ts ty t i0 _ D.k bytes hu hi hz0 hz1 hz2 hzs hk v l.length css.flatten h2 ⟨vb,0,none⟩ 1 1 cs (by omega) hsrc (D.one hx) (by unfold maxLen;omega) (by
  have : (l.length+1)*bytes≤1001*1000:=Nat.mul_le_mul (by omega) hby
  omega) hB
 refine ⟨v',w',hr,⟨css++[cs],by simp [h1],?_,fun c hc=>?_,fun j y hj=>?_⟩,g3⟩
 ·rw [List.length_append,List.flatten_append]
  simpa using g2
 ·rcases List.mem_append.1 hc with hc|hc
  ·exact h3 c hc
  ·rw [List.mem_singleton.1 hc];exact hcl
 ·have key : ∀ {cs : List Value} {y : α},D.P (fun g=>g < B∨v.ownBlock=some g) w cs y→D.P (fun g=>g < B∨v'.ownBlock=some g) w' cs y:=fun {cs y} hp=>by
   rcases g5 with e|e
   ·rw [e]
    exact D.keep (TFr.of_grown g3 (fun k hk=>.inr hk)) hp
   ·rw [e]
    exact D.mono (fun g hg=>hg.elim (fun h=>.inl (.inl h)) (fun h=>.inr (Option.some.inj h).symm)) (D.keep (TFr.of_grown g3 (fun k hk=>.inl (.inr hk))) (D.ne (Nat.le_refl _) hp))
  by_cases hlt : j < l.length
  ·rw [List.getElem?_append_left hlt] at hj
   obtain ⟨c,hc,hp⟩:=h4 j y hj
   exact ⟨c,by rw [List.getElem?_append_left (by omega)];exact hc,key hp⟩
  ·have hj2 : j=l.length:=by
    have:=(List.getElem?_eq_some_iff.1 hj).1
    simp at this
    omega
   subst hj2
   obtain rfl : x=y:=by simpa using hj
   exact ⟨cs,by rw [← h1];simp,key hx⟩
theorem OwnP.row {D : RowD α} {w : World} {B : Nat} {t : TypeId} {v : Value} {l : List α} (h : OwnP D w B t v l) : RowK D (· < B) w v l:=by
 obtain ⟨css,h1,h2,h3,h4⟩:=h
 rcases h2.2 with ⟨rfl,h0⟩|⟨g,cap,cur,rfl,hb,hh,hn,hc,hs,ht⟩
 ·exact ⟨none,0,by rw [h0],by omega,fun j x hj=>by have:=(List.getElem?_eq_some_iff.1 hj).1;omega⟩
 ·refine ⟨_,cap,rfl,hn,fun j x hj=>?_⟩
  obtain ⟨cs,hcs,hp⟩:=h4 j x hj
  refine ⟨g,0,cs,rfl,Nat.not_lt.2 hb,D.mono (fun k hk=>.inl hk) hp,fun r u hu=>?_⟩
  have e1:=flat_at h3 hcs r u hu
  have e2:=(List.getElem?_eq_some_iff.1 e1).1
  rw [cell_of_row w g _ cur t (0,0) hh,Nat.zero_add]
  rw [← ht,List.getElem?_take,if_pos (by rw [← h1,← flat_len h3];exact e2)] at e1
  simpa using e1
theorem RdTo.grown {w W W' : World} {R T E : Nat} {s : RS} (h : RdTo R T E s w W) (hR : R < w.heap.size) {row : Option Nat} (hg : W.grownBy W' row) (hb : ∀ k,row=some k→w.heap.size≤k) : RdTo R T E s w W':=by
 have hf : TFr (fun k=>row=some k) W W':=TFr.of_grown hg (fun k hk=>hk)
 exact ⟨h.rd.other hf (fun k hk e=>by have:=hb k e;omega),⟨hf.os.trans h.fr.os,hf.tape.trans h.fr.tape,hf.output.trans h.fr.output,Nat.le_trans h.fr.size hf.size,fun i hi hn=>(hf.block i (Nat.lt_of_lt_of_le hi h.fr.size) (fun e=>by have:=hb i e;omega)).trans (h.fr.block i hi hn)⟩⟩
end Go.Proofs.YtefcbgnckgapgaaGreatDoor
namespace Go.Proofs.YtefcbgnckgapgaaGreatDoor
open Go.RowKit Go.Lib Go.Op
def nameD : RowD (List UInt8) where
 k:=1
 P:=fun _ _ cs b=>cs=[.string (strB b)]
 len:=fun h=>by rw [h];rfl
 one:=fun h u hu=>by rw [h] at hu;rw [List.mem_singleton.1 hu];rfl
 keep:=fun _ h=>h
 mono:=fun _ h=>h
 ne:=fun _ h=>h
def itemD : RowD PIt where
 k:=4
 P:=fun K w cs i=>∃ a c,cs=[.bool i.no,.slice a i.ns.length c,.string (strB i.x),.int .i64 i.mode]∧RowK nameD K w (.slice a i.ns.length c) i.ns
 len:=fun ⟨a,c,h,_⟩=>by rw [h];rfl
 one:=fun ⟨a,c,h,_⟩ u hu=>by
  rw [h] at hu
  simp only [List.mem_cons,List.not_mem_nil,or_false] at hu
  rcases hu with rfl|rfl|rfl|rfl <;> rfl
 keep:=fun hf ⟨a,c,h,hr⟩=>⟨a,c,h,hr.keep hf⟩
 mono:=fun hs ⟨a,c,h,hr⟩=>⟨a,c,h,hr.mono hs⟩
 ne:=fun hb ⟨a,c,h,hr⟩=>⟨a,c,h,hr.ne (by decide) hb⟩
def exL (x : PEx) (kv : Value) : List Value:=[.int .i64 x.k,.int .i64 x.v.k,.int .i64 x.v.n,.string (strB x.v.s),.string (strB x.x),.string (strB x.f),kv]
def predD : RowD PPr where
 k:=15
 P:=fun K w cs p=>∃ a q c b r e d,cs=.int .i64 p.cmp :: (exL p.l (.slice a q c)++exL p.r (.slice b r e))∧ExK K w d (.slice a q c) p.l.ks∧ExK K w d (.slice b r e) p.r.ks
 len:=fun ⟨a,q,c,b,r,e,d,h,_⟩=>by rw [h];rfl
 one:=fun ⟨a,q,c,b,r,e,d,h,_⟩ u hu=>by
  rw [h] at hu
  simp only [exL,List.cons_append,List.nil_append,List.mem_cons,List.not_mem_nil,or_false] at hu
  rcases hu with rfl|rfl|rfl|rfl|rfl|rfl|rfl|rfl|rfl|rfl|rfl|rfl|rfl|rfl|rfl <;> rfl
 keep:=fun hf ⟨a,q,c,b,r,e,d,h,h1,h2⟩=>⟨a,q,c,b,r,e,d,h,h1.keep hf,h2.keep hf⟩
 mono:=fun hs ⟨a,q,c,b,r,e,d,h,h1,h2⟩=>⟨a,q,c,b,r,e,d,h,h1.mono hs,h2.mono hs⟩
 ne:=fun hb ⟨a,q,c,b,r,e,d,h,h1,h2⟩=>⟨a,q,c,b,r,e,d,h,ExK.ne hb h1,ExK.ne hb h2⟩
theorem strI : (Tryz.prog.info? 9).map (fun i=>(i.zero,i.size,i.bytes))=some (some (.string .empty),1,16):=by kernel_rfl
theorem itemI : (Tryz.prog.info? 35).map (fun i=>(i.zero,i.size,i.bytes))=some (some (.agg #[.bool false,.slice none 0 0,.string .empty,.int .i64 0]),4,56):=by kernel_rfl
theorem predI : (Tryz.prog.info? 42).map (fun i=>(i.zero,i.size,i.bytes))=some (some (.agg #[.int .i64 0,.int .i64 0,.int .i64 0,.int .i64 0,.string .empty,.string .empty,.string .empty,.slice none 0 0,.int .i64 0,.int .i64 0,.int .i64 0,.string .empty,.string .empty,.string .empty,.slice none 0 0]),15,200):=by kernel_rfl
section
variable {α : Type} {E : Nat} {b : List UInt8} {one : RS→α × RS} {n : Nat} {l : List α} {s : RS}
theorem rowT_end (h : isT E s 1 b=false) : rowT E b one n l s=(l,s):=by
 cases n with
 | zero=>rfl
 | succ n=>rw [rowT,h];rfl
theorem rowT_more (h : isT E s 1 b=true) : rowT E b one (n+1) l s=rowT E b one n (l++[(one (takeT E s 1 b).2).1]) (one (takeT E s 1 b).2).2:=by rw [rowT,h];rfl
theorem rowT_le (hle : ∀ s,(one s).2.l.length≤s.l.length) : ∀ (n : Nat) (l : List α) (s : RS),(rowT E b one n l s).2.l.length≤s.l.length
 | 0,l,s=>Nat.le_refl _
 | n+1,l,s=>by
   rw [rowT]
   split
   ·exact Nat.le_trans (rowT_le hle n _ _) (Nat.le_trans (hle _) (takeT_le _ _))
   ·exact Nat.le_refl _
theorem rowT_deep (hdp : ∀ s,(one s).2.deep=s.deep) : ∀ (n : Nat) (l : List α) (s : RS),(rowT E b one n l s).2.deep=s.deep
 | 0,l,s=>rfl
 | n+1,l,s=>by
   rw [rowT]
   split
   ·rw [rowT_deep hdp n _ _,hdp,takeT_deep]
   ·rfl
theorem row1T_le (hle : ∀ s,(one s).2.l.length≤s.l.length) (n : Nat) (s : RS) : (row1T E b one n s).2.l.length≤s.l.length:=Nat.le_trans (rowT_le hle n _ _) (hle s)
theorem row1T_deep (hdp : ∀ s,(one s).2.deep=s.deep) (n : Nat) (s : RS) : (row1T E b one n s).2.deep=s.deep:=(rowT_deep hdp n _ _).trans (hdp s)
end
structure RowIn {α : Type} (D : RowD α) (R T E m : Nat) (t : TypeId) (b : List UInt8) (one : RS→α × RS) (z : List α × RS) (w wr : World) (v : Value) (n : Nat) (l : List α) (s : RS) : Prop where
 own : OwnP D wr w.heap.size t v l
 rt : RdTo R T E s w wr
 is : rowT E b one n l s=z
 len : s.l.length≤n∧s.l.length≤m∧l.length+s.l.length≤501
 ok : DeepOk s
def RowTo {α : Type} (D : RowD α) (R T E : Nat) (p : List α × RS) (w : World) (e : Ending) (w' : World) : Prop:=∃ v,e=.returned v∧RowK D (· < w.heap.size) w' v p.1∧RdTo R T E p.2 w w'
end Go.Proofs.YtefcbgnckgapgaaGreatDoor
namespace Go.Proofs.YtefcbgnckgapgaaGreatDoor
open Go.RowKit Go.Lib Go.Op
set_option maxHeartbeats 1000000 in
set_option maxRecDepth 100000 in
theorem rowS_calls {w : World} {R T E : Nat} {s : RS} {one : RS→(List UInt8) × RS} {m n : Nat} (hone : ∀ (w : World) (s : RS),RdR w R T E s→DeepOk s→s.l.length≤m→Calls Tryz.prog 43 #[.pointer (some ⟨R,0,none⟩)] w fun e w'=>e=.returned (.string (strB (one s).1))∧RdTo R T E (one s).2 w w')
 (hle : ∀ s,(one s).2.l.length≤s.l.length) (hdp : ∀ s,(one s).2.deep=s.deep) (b : List UInt8) (h : RdR w R T E s) (hok : DeepOk s) (hm : s.l.length≤m) (hn : s.l.length≤n) (h5 : s.l.length≤500) :
 Calls Tryz.prog 84 #[.pointer (some ⟨R,0,none⟩),.string (strB b),.func (.func 43) #[.pointer (some ⟨R,0,none⟩)] #[]] w (RowTo nameD R T E (row1T E b one n s) w):=by
 have hR:=h.lt
 obtain ⟨z,hz⟩ : ∃ z,row1T E b one n s=z:=⟨_,rfl⟩
 rw [hz]
 obtain ⟨⟨y,s1⟩,hys⟩ : ∃ z,one s=z:=⟨_,rfl⟩
 have HO:=hone w s h hok hm
 have hl1:=hle s
 have hp1:=hdp s
 rw [hys] at HO hl1 hp1
 dsimp only at HO hl1 hp1
 have HO1:=hid HO
 have HON:=hid hone
 have hz1 : rowT E b one n [y] s1=z:=by rw [← hz];unfold row1T;rw [hys]
 have HW:=hid (fun W=>word_mark (strB b) W)
 have HX:=hid (And.intro hz1 (And.intro (show s1.l.length≤n∧s1.l.length≤m∧[y].length+s1.l.length≤501 from ⟨by omega,by omega,by simp;omega⟩) (hok.le hp1 hl1)))
 clear hone HO hz hz1 hl1 hp1 hys h hok hm hn h5
 go_enter Tryz.func84,Tryz.ntmps84
 go_wp2_with fail
 with_reducible refine HO1.out.mono ?_
 rintro e w1 ⟨rfl,hd1⟩
 have HI : Hid (RowIn nameD R T E m 9 b one z w (w1.alloc (.cells #[.string (strB y)] 9)) (.slice (some ⟨w1.heap.size,0,none⟩) 1 1) n [y] s1):=by
  have hb1:=(Below.refl w1.heap.size w1).alloc (Nat.le_refl _) (.cells #[.string (strB y)] 9)
  refine ⟨OwnP.first hd1.fr.size (heap_alloc_new w1 _) ?_,hd1.then hb1,HX.out.1,HX.out.2.1,HX.out.2.2⟩
  exact nameD.ne' hb1 (show nameD.P (· < w.heap.size) w1 [.string (strB y)] y from rfl)
 clear hd1 HX HO1
 go_wp2
 go_loopw [7] (fun v wr=>∃ (n : Nat) (l : List (List UInt8)) (s : RS),Hid (RowIn nameD R T E m 9 b one z w wr v n l s)) (fun _ wr=>leftN R wr)
 case atStart=>exact ⟨n,[y],s1,HI⟩
 case round =>
  clear HI
  obtain ⟨n2,l,s2,HE⟩:=hrel
  have hE:=HE.out
  obtain ⟨va,vc,rfl⟩:=hE.own.slice
  have HL:=hid (leftN_is hE.rt.rd)
  go_wp2_with fail
  with_reducible refine (HW.out _).mono ?_
  rintro e w2 ⟨rfl,hb2⟩
  have D2:=hid (hE.rt.then hb2)
  have O2:=hid (hE.own.keep (TFr.of_below (K:=fun _=>False) hb2) (fun _ h=>h.elim))
  have HZ:=hid (And.intro hE.is (And.intro hE.len hE.ok))
  have htk:=takeW_calls D2.out.rd b
  have HTK:=hid htk
  clear hb2 hE HE htk
  cases hp : isT E s2 1 b with
  | false =>
    have hz:=HZ.out.1
    rw [rowT_end hp] at hz
    subst hz
    rw [hp,takeT_no hp] at HTK
    clear hp HZ
    go_wp2_with fail
    with_reducible refine HTK.out.mono ?_
    rintro e w3 ⟨rfl,hd3⟩
    have D3:=hid (D2.out.trans hd3)
    have O3:=hid (O2.out.keep hd3.fr (fun k e=>by omega))
    clear hd3 D2 O2
    go_wp2
    go_ret
    exact ⟨_,rfl,O3.out.row,D3.out⟩
  | true =>
    obtain ⟨n3,rfl⟩ : ∃ n3,n2=n3+1:=by
     have h1:=takeT_lt hp (by decide)
     have h2:=HZ.out.2.1.1
     exact ⟨n2 - 1,by omega⟩
    have hlt:=takeT_lt hp (by decide)
    obtain ⟨s3,hs3⟩ : ∃ s3,(takeT E s2 1 b).2=s3:=⟨_,rfl⟩
    have hdp3:=takeT_deep (E:=E) (s:=s2) 1 b
    rw [hs3] at hlt hdp3
    obtain ⟨⟨y2,s4⟩,hys⟩ : ∃ z,one s3=z:=⟨_,rfl⟩
    have hok3 : DeepOk s3:=HZ.out.2.2.le hdp3 (Nat.le_of_lt hlt)
    have hle4:=hle s3
    have hdp4:=hdp s3
    have his:=HZ.out.1
    rw [rowT_more hp,hs3,hys] at his
    rw [hp,hs3] at HTK
    rw [hys] at hle4 hdp4
    dsimp only at hle4 hdp4 his
    have HN:=hid (And.intro his (And.intro (show s4.l.length≤n3∧s4.l.length≤m∧(l++[y2]).length+s4.l.length≤501 by have:=HZ.out.2.1;rw [List.length_append];simp;omega) (hok3.le hdp4 hle4)))
    have HLT:=hid (And.intro (show s4.l.length < s2.l.length by omega) (show l.length≤1000 by have:=HZ.out.2.1;omega))
    have HT2 : Hid (∀ W,RdR W R T E s3→Calls Tryz.prog 43 #[.pointer (some ⟨R,0,none⟩)] W fun e w'=>e=.returned (.string (strB y2))∧RdTo R T E s4 W w'):=fun W hW=>by
     have h:=HON.out W s3 hW hok3 (by have:=HZ.out.2.1;omega)
     rw [hys] at h
     exact h
    obtain ⟨q,hq⟩ : ∃ q,l.length=q:=⟨_,rfl⟩
    have HQ:=hid hq
    rw [hq] at O2 ⊢
    clear hlt hdp3 hok3 hle4 hdp4 hys his HZ hp hq hs3
    go_wp2_with fail
    with_reducible refine HTK.out.mono ?_
    rintro e w3 ⟨rfl,hd3⟩
    have HT3:=hid (HT2.out w3 hd3.rd)
    have D3:=hid (D2.out.trans hd3)
    have O3:=hid (O2.out.keep hd3.fr (fun k e=>by omega))
    clear hd3 D2 O2 HTK HT2
    go_wp2_with fail
    with_reducible refine HT3.out.mono ?_
    rintro e w4 ⟨rfl,hd4⟩
    have HAP : ∃ a9 l9 c9 w9,(Builtin.append_ #[33,33] 33 #[.slice va q vc,.slice (some ⟨w4.heap.size,0,none⟩) 1 1]).run Tryz.prog (w4.alloc (.cells #[.string (strB y2)] 9))=.ok (.slice a9 l9 c9) w9∧Hid (OwnP nameD w9 w.heap.size 9 (.slice a9 l9 c9) (l++[y2]))∧Hid (RdTo R T E s4 w w9):=by
     have hb5:=(Below.refl w4.heap.size w4).alloc (Nat.le_refl _) (.cells #[.string (strB y2)] 9)
     have o5:=(O3.out.keep hd4.fr (fun k e=>by omega)).keep (TFr.of_below (K:=fun _=>False) hb5) (fun _ h=>h.elim)
     have hw3:=O3.out.own
     have hB:=D3.out.fr.size
     have hpp:=nameD.at' (B:=w.heap.size) (v:=.slice va q vc) hb5 hw3 hB (show nameD.P (· < w3.heap.size) w4 [.string (strB y2)] y2 from rfl)
     obtain ⟨v9,w9,hr,ho,hg⟩:=OwnP.append (ts:=33) (ty:=33) (by kernel_rfl) strI rfl (by decide) (by decide) o5 (by have:=hd4.fr.size;have:=hb5.size;omega) HLT.out.2 hpp (heap_alloc_new w4 _)
     obtain ⟨a9,c9,rfl⟩:=ho.slice
     exact ⟨a9,_,c9,w9,hr,ho,((D3.out.trans hd4).then hb5).grown hR hg (fun k hk=>(o5.own k hk).1)⟩
    obtain ⟨a9,l9,c9,w9,hr9,O9,D9⟩:=HAP
    clear hd4 O3 D3 HT3
    go_wp2_with (at_builtin;refine Lib.wpList_append_run _ rfl _ _ _ _ rfl _ _ rfl rfl _ _ hr9 ?_;clear hr9)
    refine ⟨⟨n3,l++[y2],s4,?_⟩,?_⟩
    ·exact ⟨O9.out,D9.out,HN.out.1,HN.out.2.1,HN.out.2.2⟩
    ·rw [leftN_is D9.out.rd,HL.out]
     exact HLT.out.1
end Go.Proofs.YtefcbgnckgapgaaGreatDoor
namespace Go.Proofs.YtefcbgnckgapgaaGreatDoor
open Go.RowKit Go.Lib Go.Op
def Blk (w : World) (b : Nat) (cs : Array Value) (t : TypeId) : Prop:=w.heap[b]?=some (.cells cs t (0,0))
section
variable {w w' : World} {b : Nat} {cs : Array Value} {t : TypeId}
theorem Blk.new (w : World) (cs : Array Value) (t : TypeId) : Blk (w.alloc (.cells cs t)) w.heap.size cs t:=heap_alloc_new w _
theorem Blk.keep {K : Nat→Prop} (h : Blk w b cs t) (hf : TFr K w w') (hk : ¬ K b) : Blk w' b cs t:=(hf.block b (Array.getElem?_eq_some_iff.1 h).1 hk).trans h
theorem Blk.low (h : Blk w b cs t) (hb : Below w.heap.size w w') : Blk w' b cs t:=h.keep (TFr.of_below (K:=fun _=>False) hb) id
theorem Blk.set (h : Blk w b cs t) (k : Nat) (v : Value) {cs' : Array Value} (hc : cs.setIfInBounds k v=cs') : Blk (w.setCell ⟨b,k,none⟩ v) b cs' t:=by
 subst hc
 exact tsetCell_blk h v
theorem Blk.at (h : Blk w b cs t) {b' : Nat} (hne : b≠b') (k : Nat) (v : Value) : Blk (w.setCell ⟨b',k,none⟩ v) b cs t:=h.keep (TFr.at b' k v) hne
theorem Blk.lt (h : Blk w b cs t) : b < w.heap.size:=(Array.getElem?_eq_some_iff.1 h).1
end
theorem takeT_fst {E : Nat} {s : RS} (k : Nat) (b : List UInt8) : (takeT E s k b).1=isT E s k b:=by
 unfold takeT
 cases isT E s k b <;> rfl
theorem RowK.set {α : Type} {D : RowD α} {K : Nat→Prop} {w : World} {v : Value} {l : List α} (h : RowK D K w v l) {b : Nat} (hb : K b) (k : Nat) (u : Value) : RowK D K (w.setCell ⟨b,k,none⟩ u) v l:=h.keepR (TFr.at b k u) hb
theorem RowK.low {α : Type} {D : RowD α} {K : Nat→Prop} {w w' : World} {v : Value} {l : List α} (h : RowK D K w v l) (hb : Below w.heap.size w w') : RowK D K w' v l:=h.keep (TFr.of_below hb)
section
variable {E : Nat} {s : RS} {n : Nat}
theorem itemT_le : (itemT E n s).2.l.length≤s.l.length:=by
 unfold itemT
 exact Nat.le_trans (amongT_le _ _ _) (Nat.le_trans nameT_le (Nat.le_trans (row1T_le (fun _=>nameT_le) n _) (takeT_le _ _)))
theorem itemT_deep : (itemT E n s).2.deep=s.deep:=by
 unfold itemT
 dsimp only
 rw [amongT_deep,nameT_deep,row1T_deep (fun _=>nameT_deep),takeT_deep]
theorem predT_le : (predT E n s).2.l.length≤s.l.length:=by
 unfold predT
 exact Nat.le_trans (exprT_le (termT_le n) n _) (Nat.le_trans (chooseT_le _ _) (exprT_le (termT_le n) n _))
theorem predT_deep : (predT E n s).2.deep=s.deep:=by
 unfold predT
 dsimp only
 rw [exprT_deep (termT_deep n),chooseT_deep,exprT_deep (termT_deep n)]
end
set_option maxHeartbeats 1000000 in
set_option maxRecDepth 100000 in
theorem item_calls {w : World} {R T E : Nat} {s : RS} {n : Nat} (h : RdR w R T E s) (hok : DeepOk s) (hn : s.l.length≤n) (h5 : s.l.length≤500) : Calls Tryz.prog 38 #[.pointer (some ⟨R,0,none⟩)] w fun e w'=>∃ a q c,e=.returned (.agg #[.bool (itemT E n s).1.no,.slice a q c,.string (strB (itemT E n s).1.x),.int .i64 (itemT E n s).1.mode])∧itemD.P (· < w.heap.size) w' [.bool (itemT E n s).1.no,.slice a q c,.string (strB (itemT E n s).1.x),.int .i64 (itemT E n s).1.mode] (itemT E n s).1∧RdTo R T E (itemT E n s).2 w w':=by
 have hR:=h.lt
 obtain ⟨bn,hbn⟩ : ∃ bn,isT E s 1 wNot=bn:=⟨_,rfl⟩
 obtain ⟨s1,hs1⟩ : ∃ s1,(takeT E s 1 wNot).2=s1:=⟨_,rfl⟩
 obtain ⟨⟨ns,s2⟩,hns⟩ : ∃ z,row1T E wOr (nameT E) n s1=z:=⟨_,rfl⟩
 obtain ⟨⟨x,s3⟩,hx⟩ : ∃ z,nameT E s2=z:=⟨_,rfl⟩
 obtain ⟨⟨k,s4⟩,hk⟩ : ∃ z,amongT E s3 4 0 modesL=z:=⟨_,rfl⟩
 have hit : itemT E n s=(⟨bn,ns,x,if k=0 then 1 else (k : Int)⟩,s4):=by
  unfold itemT
  rw [takeT_fst,hbn,hs1,hns]
  dsimp only
  rw [hx]
  dsimp only
  rw [hk]
 rw [hit]
 obtain ⟨md,hmd⟩ : ∃ md,(if k=0 then 1 else (k : Int))=md:=⟨_,rfl⟩
 rw [hmd]
 have HMD:=hid hmd
 clear hmd
 have hok1 : DeepOk s1:=by rw [← hs1];exact hok.le (takeT_deep _ _) (takeT_le _ _)
 have hl1 : s1.l.length≤s.l.length:=by rw [← hs1];exact takeT_le _ _
 have hb1:=(Below.refl w.heap.size w).alloc (Nat.le_refl _) (.cells #[.bool false,.slice none 0 0,.string ⟨#[]⟩,.int .i64 0] 35)
 have hb2:=hb1.alloc hb1.size (.cells #[.bool false,.slice none 0 0,.string ⟨#[]⟩,.int .i64 0] 35)
 have P2:=hid ((Blk.new w #[.bool false,.slice none 0 0,.string ⟨#[]⟩,.int .i64 0] 35).low ((Below.refl _ _).alloc (Nat.le_refl _) (.cells #[.bool false,.slice none 0 0,.string ⟨#[]⟩,.int .i64 0] 35)))
 have hp3:=Blk.new (w.alloc (.cells #[.bool false,.slice none 0 0,.string ⟨#[]⟩,.int .i64 0] 35)) #[.bool false,.slice none 0 0,.string ⟨#[]⟩,.int .i64 0] 35
 rw [show (w.alloc (.cells #[.bool false,.slice none 0 0,.string ⟨#[]⟩,.int .i64 0] 35)).heap.size=w.heap.size+1 by simp] at hp3
 have P3:=hid hp3
 have D0:=hid (RdTo.of_below h hb2)
 have HS:=hid (And.intro hbn (And.intro hs1 (And.intro hns (And.intro hx hk))))
 have HL:=hid (And.intro hok1 (And.intro (show s1.l.length≤n by omega) (show s1.l.length≤500 by omega)))
 have HW : Hid (∀ W,Calls Tryz.prog 36 #[.string ⟨#[110,111,116]⟩] W fun e w'=>e=.returned (.agg #[.int .i64 1,.string ⟨#[110,111,116]⟩])∧Below W.heap.size W w'):=fun W=>word_mark _ W
 clear h hb1 hb2 hp3 hbn hs1 hns hx hk hit hok1 hl1 hok hn h5
 go_enter Tryz.func38,Tryz.ntmps38
 go_wp2_with fail
 with_reducible refine (HW.out _).mono ?_
 rintro e w1 ⟨rfl,hb1⟩
 have D1:=hid (D0.out.then hb1)
 have Q2:=hid (P2.out.low hb1)
 have Q3:=hid (P3.out.low hb1)
 have htk:=takeW_calls D1.out.rd wNot
 rw [HS.out.1,HS.out.2.1] at htk
 have HT : Hid (Calls Tryz.prog 39 #[.pointer (some ⟨R,0,none⟩),.agg #[.int .i64 1,.string ⟨#[110,111,116]⟩]] w1 fun e w'=>e=.returned (.bool bn)∧RdTo R T E s1 w1 w'):=htk
 clear hb1 htk D0 P2 P3
 go_wp2_with fail
 with_reducible refine HT.out.mono ?_
 rintro e w2 ⟨rfl,hd2⟩
 have q3:=Q3.out.keep hd2.fr (by omega)
 have c0:=tcell q3 (k:=0) rfl
 have c1:=tcell q3 (k:=1) rfl
 have c2:=tcell q3 (k:=2) rfl
 have c3:=tcell q3 (k:=3) rfl
 have fc0:=tfrozen q3 (k:=0)
 have fc1:=tfrozen q3 (k:=1)
 have fc2:=tfrozen q3 (k:=2)
 have fc3:=tfrozen q3 (k:=3)
 have D2:=hid ((D1.out.trans hd2).set hR (b:=w.heap.size+1) (by omega) 0 (.bool bn))
 have P2:=hid ((Q2.out.keep hd2.fr (by omega)).at (b':=w.heap.size+1) (by omega) 0 (.bool bn))
 have P3:=hid (q3.set 0 (.bool bn) rfl)
 have hrow:=rowS_calls (m:=n) (n:=n) (one:=nameT E) (fun w s h _ _=>nameR_calls h) (fun _=>nameT_le) (fun _=>nameT_deep) wOr D2.out.rd HL.out.1 HL.out.2.1 HL.out.2.1 HL.out.2.2
 rw [HS.out.2.2.1] at hrow
 have HRow:=hid (show Calls Tryz.prog 84 #[.pointer (some ⟨R,0,none⟩),.string ⟨#[111,114]⟩,.func (.func 43) #[.pointer (some ⟨R,0,none⟩)] #[]] (w2.setCell ⟨w.heap.size+1,0,none⟩ (.bool bn)) (RowTo nameD R T E (ns,s2) (w2.setCell ⟨w.heap.size+1,0,none⟩ (.bool bn))) from hrow)
 have HSZ:=hid (show w.heap.size+1 < (w2.setCell ⟨w.heap.size+1,0,none⟩ (.bool bn)).heap.size from P3.out.lt)
 clear hd2 q3 hrow D1 Q2 Q3 HT HW
 go_wp2_with fail
 with_reducible refine HRow.out.mono ?_
 rintro e w3 ⟨v,rfl,hrw,hd3⟩
 clear c0 c1 c2 c3 fc0 fc1 fc2 fc3
 obtain ⟨va,vc,rfl⟩:=hrw.slice
 obtain ⟨q,hq⟩ : ∃ q,(ns,s2).1.length=q:=⟨_,rfl⟩
 have hq' : ns.length=q:=hq
 rw [hq] at hrw ⊢
 dsimp only at hd3 hrw
 have q3:=P3.out.keep hd3.fr (by omega)
 have c0:=tcell q3 (k:=0) rfl
 have c1:=tcell q3 (k:=1) rfl
 have c2:=tcell q3 (k:=2) rfl
 have c3:=tcell q3 (k:=3) rfl
 have fc0:=tfrozen q3 (k:=0)
 have fc1:=tfrozen q3 (k:=1)
 have fc2:=tfrozen q3 (k:=2)
 have fc3:=tfrozen q3 (k:=3)
 have D3:=hid ((D2.out.trans hd3).set hR (b:=w.heap.size+1) (by omega) 1 (.slice va q vc))
 have Q2:=hid ((P2.out.keep hd3.fr (by omega)).at (b':=w.heap.size+1) (by omega) 1 (.slice va q vc))
 have Q3:=hid (q3.set 1 (.slice va q vc) rfl)
 have KR:=hid (hrw.set (b:=w.heap.size+1) HSZ.out 1 (.slice va q vc))
 have HN : Hid (Calls Tryz.prog 43 #[.pointer (some ⟨R,0,none⟩)] (w3.setCell ⟨w.heap.size+1,1,none⟩ (.slice va q vc)) fun e w'=>e=.returned (.string (strB x))∧RdTo R T E s3 (w3.setCell ⟨w.heap.size+1,1,none⟩ (.slice va q vc)) w'):=by
  have h:=nameR_calls D3.out.rd
  rw [HS.out.2.2.2.1] at h
  exact h
 have HQ:=hid hq'
 clear hq hq' hrw hd3 q3 D2 P2 P3 HRow
 go_wp2_with fail
 with_reducible refine HN.out.mono ?_
 rintro e w4 ⟨rfl,hd4⟩
 clear c0 c1 c2 c3 fc0 fc1 fc2 fc3
 have q3:=Q3.out.keep hd4.fr (by omega)
 have c0:=tcell q3 (k:=0) rfl
 have c1:=tcell q3 (k:=1) rfl
 have c2:=tcell q3 (k:=2) rfl
 have c3:=tcell q3 (k:=3) rfl
 have fc0:=tfrozen q3 (k:=0)
 have fc1:=tfrozen q3 (k:=1)
 have fc2:=tfrozen q3 (k:=2)
 have fc3:=tfrozen q3 (k:=3)
 have D4:=hid ((D3.out.trans hd4).set hR (b:=w.heap.size+1) (by omega) 2 (.string (strB x)))
 have P2:=hid ((Q2.out.keep hd4.fr (by omega)).at (b':=w.heap.size+1) (by omega) 2 (.string (strB x)))
 have P3:=hid (q3.set 2 (.string (strB x)) rfl)
 have KS:=hid ((KR.out.keepR hd4.fr (by have:=HSZ.out;show R < _;omega)).set (b:=w.heap.size+1) HSZ.out 2 (.string (strB x)))
 have HM:=hid (fun W=>modes_calls W)
 clear hd4 q3 D3 Q2 Q3 KR HN
 go_wp2_with fail
 with_reducible refine (HM.out _).mono ?_
 rintro e w5 ⟨rfl,hb5⟩
 clear c0 c1 c2 c3 fc0 fc1 fc2 fc3
 have D5:=hid (D4.out.then hb5)
 have Q2:=hid (P2.out.low hb5)
 have Q3:=hid (P3.out.low hb5)
 have KR:=hid (KS.out.low hb5)
 have ham:=amongS_calls D5.out.rd modesL rfl
 rw [HS.out.2.2.2.2] at ham
 have HA:=hid ham
 clear hb5 ham D4 P2 P3 KS HM
 go_wp2_with fail
 with_reducible refine HA.out.mono ?_
 rintro e w6 ⟨rfl,hd6⟩
 have hb7:=(Below.refl w6.heap.size w6).alloc (Nat.le_refl _) (.cells #[.int .i64 k,.int .i64 1] 3)
 have D6:=hid ((D5.out.trans hd6).then hb7)
 have P2:=hid ((Q2.out.keep hd6.fr (by omega)).low hb7)
 have P3:=hid ((Q3.out.keep hd6.fr (by omega)).low hb7)
 have KS:=hid ((KR.out.keepR hd6.fr (by have:=HSZ.out;show R < _;omega)).low hb7)
 have HO:=hid (or_calls (k : Int) 1 w6.heap.size 2 (w6.alloc (.cells #[.int .i64 k,.int .i64 1] 3)) (tnew _ _ _ 0 rfl) (tnew _ _ _ 1 rfl))
 have hif : (if (k : Int)≠0 then (k : Int) else 1)=if k=0 then 1 else (k : Int):=by
  by_cases hk0 : k=0
  ·subst hk0;rfl
  ·rw [if_neg hk0,if_pos (by omega)]
 rw [hif] at HO
 rw [HMD.out] at HO
 clear hd6 hb7 hif D5 Q2 Q3 KR HA
 go_wp2_with fail
 with_reducible refine HO.out.mono ?_
 rintro e w7 ⟨rfl,rfl⟩
 have q3:=P3.out
 have c0:=tcell q3 (k:=0) rfl
 have c1:=tcell q3 (k:=1) rfl
 have c2:=tcell q3 (k:=2) rfl
 have c3:=tcell q3 (k:=3) rfl
 have fc0:=tfrozen q3 (k:=0)
 have fc1:=tfrozen q3 (k:=1)
 have fc2:=tfrozen q3 (k:=2)
 have fc3:=tfrozen q3 (k:=3)
 have D7:=hid (D6.out.set hR (b:=w.heap.size+1) (by omega) 3 (.int .i64 md))
 have p2:=P2.out.at (b':=w.heap.size+1) (by omega) 3 (.int .i64 md)
 have p3:=q3.set 3 (.int .i64 md) rfl
 have d0:=tcell p3 (k:=0) rfl
 have d1:=tcell p3 (k:=1) rfl
 have d2:=tcell p3 (k:=2) rfl
 have d3:=tcell p3 (k:=3) rfl
 have fd0:=tfrozen p3 (k:=0)
 have fd1:=tfrozen p3 (k:=1)
 have fd2:=tfrozen p3 (k:=2)
 have fd3:=tfrozen p3 (k:=3)
 have r0:=tcell p2 (k:=0) rfl
 have r1:=tcell p2 (k:=1) rfl
 have r2:=tcell p2 (k:=2) rfl
 have r3:=tcell p2 (k:=3) rfl
 have fr0:=tfrozen p2 (k:=0)
 have fr1:=tfrozen p2 (k:=1)
 have fr2:=tfrozen p2 (k:=2)
 have fr3:=tfrozen p2 (k:=3)
 have KT:=hid (KS.out.set (b:=w.heap.size+1) HSZ.out 3 (.int .i64 md))
 clear q3 p2 p3 D6 P2 P3 KS HO HS HL
 go_wp2
 refine bodyPost_ret (v:=.agg #[.bool bn,.slice va q vc,.string (strB x),.int .i64 md]) (by simp [results,Tryz.results38,go_sem,r0,r1,r2,r3]) rfl ⟨va,q,vc,?_,?_,?_⟩
 ·rfl
 ·refine ⟨va,vc,?_,?_⟩
  ·show _=[Value.bool bn,.slice va ns.length vc,.string (strB x),.int .i64 md]
   rw [HQ.out]
  ·have hz:=HSZ.out
   have hk:=(((KT.out.set (b:=w.heap.size) (by show w.heap.size < _;omega) 0 (.bool bn)).set (b:=w.heap.size) (by show w.heap.size < _;omega) 1 (.slice va q vc)).set (b:=w.heap.size) (by show w.heap.size < _;omega) 2 (.string (strB x))).set (b:=w.heap.size) (by show w.heap.size < _;omega) 3 (.int .i64 md)
   show RowK nameD _ _ (.slice va ns.length vc) ns
   rw [HQ.out]
   exact hk.mono (fun k hk=>Nat.lt_trans (Nat.lt_trans hk (Nat.lt_succ_self _)) hz)
 ·exact (((D7.out.set hR (Nat.le_refl _) _ _).set hR (Nat.le_refl _) _ _).set hR (Nat.le_refl _) _ _).set hR (Nat.le_refl _) _ _
end Go.Proofs.YtefcbgnckgapgaaGreatDoor
namespace Go.Proofs.YtefcbgnckgapgaaGreatDoor
open Go.RowKit Go.Lib Go.Op
set_option maxHeartbeats 1000000 in
set_option maxRecDepth 100000 in
theorem rowI_calls {w : World} {R T E : Nat} {s : RS} {one : RS→PIt × RS} {m n : Nat} (hone : ∀ (w : World) (s : RS),RdR w R T E s→DeepOk s→s.l.length≤m→Calls Tryz.prog 38 #[.pointer (some ⟨R,0,none⟩)] w fun e w'=>∃ a q c,e=.returned (.agg #[.bool (one s).1.no,.slice a q c,.string (strB (one s).1.x),.int .i64 (one s).1.mode])∧itemD.P (· < w.heap.size) w' [.bool (one s).1.no,.slice a q c,.string (strB (one s).1.x),.int .i64 (one s).1.mode] (one s).1∧RdTo R T E (one s).2 w w')
 (hle : ∀ s,(one s).2.l.length≤s.l.length) (hdp : ∀ s,(one s).2.deep=s.deep) (b : List UInt8) (h : RdR w R T E s) (hok : DeepOk s) (hm : s.l.length≤m) (hn : s.l.length≤n) (h5 : s.l.length≤500) :
 Calls Tryz.prog 37 #[.pointer (some ⟨R,0,none⟩),.string (strB b),.func (.func 38) #[.pointer (some ⟨R,0,none⟩)] #[]] w (RowTo itemD R T E (row1T E b one n s) w):=by
 have hR:=h.lt
 obtain ⟨z,hz⟩ : ∃ z,row1T E b one n s=z:=⟨_,rfl⟩
 rw [hz]
 obtain ⟨⟨y,s1⟩,hys⟩ : ∃ z,one s=z:=⟨_,rfl⟩
 have HO:=hone w s h hok hm
 have hl1:=hle s
 have hp1:=hdp s
 rw [hys] at HO hl1 hp1
 dsimp only at HO hl1 hp1
 have HO1:=hid HO
 have HON:=hid hone
 have hz1 : rowT E b one n [y] s1=z:=by rw [← hz];unfold row1T;rw [hys]
 have HW:=hid (fun W=>word_mark (strB b) W)
 have HX:=hid (And.intro hz1 (And.intro (show s1.l.length≤n∧s1.l.length≤m∧[y].length+s1.l.length≤501 from ⟨by omega,by omega,by simp;omega⟩) (hok.le hp1 hl1)))
 clear hone HO hz hz1 hl1 hp1 hys h hok hm hn h5
 go_enter Tryz.func37,Tryz.ntmps37
 go_wp2_with fail
 with_reducible refine HO1.out.mono ?_
 rintro e w1 ⟨a,a1,c,rfl,hp,hd1⟩
 have HI : Hid (RowIn itemD R T E m 35 b one z w (w1.alloc (.cells #[.bool y.no,.slice a a1 c,.string (strB y.x),.int .i64 y.mode] 35)) (.slice (some ⟨w1.heap.size,0,none⟩) 1 1) n [y] s1):=by
  have hb1:=(Below.refl w1.heap.size w1).alloc (Nat.le_refl _) (.cells #[.bool y.no,.slice a a1 c,.string (strB y.x),.int .i64 y.mode] 35)
  refine ⟨OwnP.first hd1.fr.size (heap_alloc_new w1 _) ?_,hd1.then hb1,HX.out.1,HX.out.2.1,HX.out.2.2⟩
  exact itemD.ne' hb1 (show itemD.P (· < w.heap.size) w1 [.bool y.no,.slice a a1 c,.string (strB y.x),.int .i64 y.mode] y from hp)
 clear hd1 HX HO1 hp
 go_wp2
 go_loopw [7] (fun v wr=>∃ (n : Nat) (l : List PIt) (s : RS),Hid (RowIn itemD R T E m 35 b one z w wr v n l s)) (fun _ wr=>leftN R wr)
 case atStart=>exact ⟨n,[y],s1,HI⟩
 case round =>
  clear HI
  obtain ⟨n2,l,s2,HE⟩:=hrel
  have hE:=HE.out
  obtain ⟨va,vc,rfl⟩:=hE.own.slice
  have HL:=hid (leftN_is hE.rt.rd)
  go_wp2_with fail
  with_reducible refine (HW.out _).mono ?_
  rintro e w2 ⟨rfl,hb2⟩
  have D2:=hid (hE.rt.then hb2)
  have O2:=hid (hE.own.keep (TFr.of_below (K:=fun _=>False) hb2) (fun _ h=>h.elim))
  have HZ:=hid (And.intro hE.is (And.intro hE.len hE.ok))
  have htk:=takeW_calls D2.out.rd b
  have HTK:=hid htk
  clear hb2 hE HE htk
  cases hp : isT E s2 1 b with
  | false =>
    have hz:=HZ.out.1
    rw [rowT_end hp] at hz
    subst hz
    rw [hp,takeT_no hp] at HTK
    clear hp HZ
    go_wp2_with fail
    with_reducible refine HTK.out.mono ?_
    rintro e w3 ⟨rfl,hd3⟩
    have D3:=hid (D2.out.trans hd3)
    have O3:=hid (O2.out.keep hd3.fr (fun k e=>by omega))
    clear hd3 D2 O2
    go_wp2
    go_ret
    exact ⟨_,rfl,O3.out.row,D3.out⟩
  | true =>
    obtain ⟨n3,rfl⟩ : ∃ n3,n2=n3+1:=by
     have h1:=takeT_lt hp (by decide)
     have h2:=HZ.out.2.1.1
     exact ⟨n2 - 1,by omega⟩
    have hlt:=takeT_lt hp (by decide)
    obtain ⟨s3,hs3⟩ : ∃ s3,(takeT E s2 1 b).2=s3:=⟨_,rfl⟩
    have hdp3:=takeT_deep (E:=E) (s:=s2) 1 b
    rw [hs3] at hlt hdp3
    obtain ⟨⟨y2,s4⟩,hys⟩ : ∃ z,one s3=z:=⟨_,rfl⟩
    have hok3 : DeepOk s3:=HZ.out.2.2.le hdp3 (Nat.le_of_lt hlt)
    have hle4:=hle s3
    have hdp4:=hdp s3
    have his:=HZ.out.1
    rw [rowT_more hp,hs3,hys] at his
    rw [hp,hs3] at HTK
    rw [hys] at hle4 hdp4
    dsimp only at hle4 hdp4 his
    have HN:=hid (And.intro his (And.intro (show s4.l.length≤n3∧s4.l.length≤m∧(l++[y2]).length+s4.l.length≤501 by have:=HZ.out.2.1;rw [List.length_append];simp;omega) (hok3.le hdp4 hle4)))
    have HLT:=hid (And.intro (show s4.l.length < s2.l.length by omega) (show l.length≤1000 by have:=HZ.out.2.1;omega))
    have HT2 : Hid (∀ W,RdR W R T E s3→Calls Tryz.prog 38 #[.pointer (some ⟨R,0,none⟩)] W fun e w'=>∃ a q c,e=.returned (.agg #[.bool y2.no,.slice a q c,.string (strB y2.x),.int .i64 y2.mode])∧itemD.P (· < W.heap.size) w' [.bool y2.no,.slice a q c,.string (strB y2.x),.int .i64 y2.mode] y2∧RdTo R T E s4 W w'):=fun W hW=>by
     have h:=HON.out W s3 hW hok3 (by have:=HZ.out.2.1;omega)
     rw [hys] at h
     exact h
    obtain ⟨q,hq⟩ : ∃ q,l.length=q:=⟨_,rfl⟩
    have HQ:=hid hq
    rw [hq] at O2 ⊢
    clear hlt hdp3 hok3 hle4 hdp4 hys his HZ hp hq hs3
    go_wp2_with fail
    with_reducible refine HTK.out.mono ?_
    rintro e w3 ⟨rfl,hd3⟩
    have HT3:=hid (HT2.out w3 hd3.rd)
    have D3:=hid (D2.out.trans hd3)
    have O3:=hid (O2.out.keep hd3.fr (fun k e=>by omega))
    clear hd3 D2 O2 HTK HT2
    go_wp2_with fail
    with_reducible refine HT3.out.mono ?_
    rintro e w4 ⟨a,a1,c,rfl,hp,hd4⟩
    have HAP : ∃ a9 l9 c9 w9,(Builtin.append_ #[23,23] 23 #[.slice va q vc,.slice (some ⟨w4.heap.size,0,none⟩) 1 1]).run Tryz.prog (w4.alloc (.cells #[.bool y2.no,.slice a a1 c,.string (strB y2.x),.int .i64 y2.mode] 35))=.ok (.slice a9 l9 c9) w9∧Hid (OwnP itemD w9 w.heap.size 35 (.slice a9 l9 c9) (l++[y2]))∧Hid (RdTo R T E s4 w w9):=by
     have hb5:=(Below.refl w4.heap.size w4).alloc (Nat.le_refl _) (.cells #[.bool y2.no,.slice a a1 c,.string (strB y2.x),.int .i64 y2.mode] 35)
     have o5:=(O3.out.keep hd4.fr (fun k e=>by omega)).keep (TFr.of_below (K:=fun _=>False) hb5) (fun _ h=>h.elim)
     have hw3:=O3.out.own
     have hB:=D3.out.fr.size
     have hpp:=itemD.at' (B:=w.heap.size) (v:=.slice va q vc) hb5 hw3 hB (show itemD.P (· < w3.heap.size) w4 [.bool y2.no,.slice a a1 c,.string (strB y2.x),.int .i64 y2.mode] y2 from hp)
     obtain ⟨v9,w9,hr,ho,hg⟩:=OwnP.append (ts:=23) (ty:=23) (by kernel_rfl) itemI rfl (by decide) (by decide) o5 (by have:=hd4.fr.size;have:=hb5.size;omega) HLT.out.2 hpp (heap_alloc_new w4 _)
     obtain ⟨a9,c9,rfl⟩:=ho.slice
     exact ⟨a9,_,c9,w9,hr,ho,((D3.out.trans hd4).then hb5).grown hR hg (fun k hk=>(o5.own k hk).1)⟩
    obtain ⟨a9,l9,c9,w9,hr9,O9,D9⟩:=HAP
    clear hd4 O3 D3 HT3 hp
    go_wp2_with (at_builtin;refine Lib.wpList_append_run _ rfl _ _ _ _ rfl _ _ rfl rfl _ _ hr9 ?_;clear hr9)
    refine ⟨⟨n3,l++[y2],s4,?_⟩,?_⟩
    ·exact ⟨O9.out,D9.out,HN.out.1,HN.out.2.1,HN.out.2.2⟩
    ·rw [leftN_is D9.out.rd,HL.out]
     exact HLT.out.1
end Go.Proofs.YtefcbgnckgapgaaGreatDoor
