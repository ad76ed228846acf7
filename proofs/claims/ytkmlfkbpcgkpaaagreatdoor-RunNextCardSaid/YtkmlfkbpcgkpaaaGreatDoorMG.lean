/- Texts that others want. -/
import Derived.Test.YtkmlfkbpcgkpaaaGreatDoorM0
import Derived.Test.YtkmlfkbpcgkpaaaGreatDoorME
namespace Go.Proofs.YtkmlfkbpcgkpaaaGreatDoor
open Go.RowKit Go.Lib Go.Op
set_option maxHeartbeats 8000000
set_option maxRecDepth 100000
theorem rwk4 (w : World) : Calls Tryz.prog 233 #[.int .i64 4] w fun e w'=>e=.returned (.string ⟨#[115,117,109]⟩)∧w=w':=by
 go_enter Tryz.func233,Tryz.ntmps233
 go_wp2
 go_ret
 exact ⟨rfl,rfl⟩
theorem rwk5 (w : World) : Calls Tryz.prog 233 #[.int .i64 5] w fun e w'=>e=.returned (.string ⟨#[109,105,110]⟩)∧w=w':=by
 go_enter Tryz.func233,Tryz.ntmps233
 go_wp2
 go_ret
 exact ⟨rfl,rfl⟩
theorem rwk6 (w : World) : Calls Tryz.prog 233 #[.int .i64 6] w fun e w'=>e=.returned (.string ⟨#[109,97,120]⟩)∧w=w':=by
 go_enter Tryz.func233,Tryz.ntmps233
 go_wp2
 go_ret
 exact ⟨rfl,rfl⟩
structure TmIn (R T : Nat) (L : List XTok) (s : DS) (t : XTok) (w W : World) : Prop where
 res : XBlk W w.heap.size (.int .i64 0) (.int .i64 0) (.int .i64 0) (.string ⟨#[]⟩) (.string ⟨#[]⟩) (.string ⟨#[]⟩) (.slice none 0 0)
 tok : Blk W (w.heap.size+1) #[.int .i64 t.k,.string (strB t.b),.int .i64 t.at_] 148
 rt : DdTo R T L s w W
theorem TmIn.call {R T : Nat} {L : List XTok} {s s' : DS} {t : XTok} {w W W' : World} (h : TmIn R T L s t w W) (hR : R < w.heap.size) (hd : DdTo R T L s' W W') : TmIn R T L s' t w W' :=
 ⟨h.res.keep hd.fr (by omega),h.tok.keep hd.fr (by omega),h.rt.trans hd⟩
theorem TmIn.skip {R T : Nat} {L : List XTok} {s : DS} {t t2 : XTok} {r : List XTok} {w W : World} (h : TmIn R T L s t w W) (hR : R < w.heap.size) (hl : s.l=t2 :: r) {x : Int} (hx : x=((L.length - s.l.length : Nat) : Int)+1) : TmIn R T L (dSkip s) t w (W.setCell ⟨R,1,none⟩ (.int .i64 x)):=by
 obtain ⟨a,c,hd⟩:=h.rt.rd
 exact ⟨h.res.keep (TFr.at R 1 _) (by omega),h.tok.keep (TFr.at R 1 _) (by omega),⟨⟨a,c,hd.skip hl hx⟩,h.rt.fr.trans (TFr.at R 1 _)⟩⟩
theorem TmIn.setDeep {R T : Nat} {L : List XTok} {s : DS} {t : XTok} {w W : World} (h : TmIn R T L s t w W) (hR : R < w.heap.size) {x : Nat} (hx : x≤100) {v : Int} (hv : v=x) : TmIn R T L ⟨s.l,x,s.bad⟩ t w (W.setCell ⟨R,3,none⟩ (.int .i64 v)):=by
 obtain ⟨a,c,hd⟩:=h.rt.rd
 exact ⟨h.res.keep (TFr.at R 3 _) (by omega),h.tok.keep (TFr.at R 3 _) (by omega),⟨⟨a,c,hd.setDeep hx hv⟩,h.rt.fr.trans (TFr.at R 3 _)⟩⟩
theorem TmIn.low {R T : Nat} {L : List XTok} {s : DS} {t : XTok} {w W W' : World} (h : TmIn R T L s t w W) (hb : Below W.heap.size W W') : TmIn R T L s t w W' :=
 ⟨h.res.keep (TFr.of_below (K:=fun _=>False) hb) id,h.tok.low hb,h.rt.then hb⟩
theorem zi1 {w : World} {R T : Nat} {L : List XTok} {s : DS} (n : Nat) (h : DdR w R T L s) (hno : s.bad=true∨s.l=[]) : Calls Tryz.prog 218 #[.pointer (some ⟨R,0,none⟩)] w (DxTo R T L (dTerm (n+1) s) w):=by
 have hR:=h.lt
 have hz : dTerm (n+1) s=(noX,dFail s):=by rw [dTerm,if_pos hno]
 rw [hz]
 clear hz
 have hb0:=(Below.refl w.heap.size w).alloc (Nat.le_refl _) (.cells #[.int .i64 0,.int .i64 0,.int .i64 0,.string ⟨#[]⟩,.string ⟨#[]⟩,.string ⟨#[]⟩,.slice none 0 0] 89)
 have HX:=hid (XBlk.new w (.int .i64 0) (.int .i64 0) (.int .i64 0) (.string ⟨#[]⟩) (.string ⟨#[]⟩) (.string ⟨#[]⟩) (.slice none 0 0))
 have HF : Hid (∀ W,Below w.heap.size w W→Calls Tryz.prog 146 #[.pointer (some ⟨R,0,none⟩)] W fun e w'=>e=.returned (.tuple #[])∧DdTo R T L (dFail s) W w'):=fun W hW=>zam (h.keep hW)
 obtain ⟨a,c,h1⟩:=h.keep hb0
 have HB0:=hid hb0
 have c0:=h1.c0
 have c1:=h1.c1
 have c2:=h1.c2
 have HSZ : Hid ((w.alloc (.cells #[.int .i64 0,.int .i64 0,.int .i64 0,.string ⟨#[]⟩,.string ⟨#[]⟩,.string ⟨#[]⟩,.slice none 0 0] 89)).heap.size=w.heap.size+1):=by show _=_;simp
 have hle:=h1.le
 have hfin : Hid (∀ W w2,Below (w.alloc (.cells #[.int .i64 0,.int .i64 0,.int .i64 0,.string ⟨#[]⟩,.string ⟨#[]⟩,.string ⟨#[]⟩,.slice none 0 0] 89)).heap.size (w.alloc (.cells #[.int .i64 0,.int .i64 0,.int .i64 0,.string ⟨#[]⟩,.string ⟨#[]⟩,.string ⟨#[]⟩,.slice none 0 0] 89)) W→DdTo R T L (dFail s) W w2→XBlk w2 w.heap.size (.int .i64 0) (.int .i64 0) (.int .i64 0) (.string ⟨#[]⟩) (.string ⟨#[]⟩) (.string ⟨#[]⟩) (.slice none 0 0)∧DdTo R T L (dFail s) w w2):=fun W w2 hW hd =>
  ⟨(HX.out.keep (TFr.of_below (K:=fun _=>False) hW) id).keep hd.fr (by omega),DdTo.after (HB0.out.trans (hW.mono (by rw [HSZ.out];omega))) hd⟩
 cases hb : s.bad with
 | true =>
   rw [hb] at c2
   clear h1 hb hle hno hb0 h
   go_enter Tryz.func218,Tryz.ntmps218
   go_wp2_with fail
   go_quiet (fail)
   have hb1 : Below (w.alloc (.cells #[.int .i64 0,.int .i64 0,.int .i64 0,.string ⟨#[]⟩,.string ⟨#[]⟩,.string ⟨#[]⟩,.slice none 0 0] 89)).heap.size (w.alloc (.cells #[.int .i64 0,.int .i64 0,.int .i64 0,.string ⟨#[]⟩,.string ⟨#[]⟩,.string ⟨#[]⟩,.slice none 0 0] 89)) ((w.alloc (.cells #[.int .i64 0,.int .i64 0,.int .i64 0,.string ⟨#[]⟩,.string ⟨#[]⟩,.string ⟨#[]⟩,.slice none 0 0] 89)).drewN nq):=below_drewN (Below.refl _ _) _
   generalize (w.alloc (.cells #[.int .i64 0,.int .i64 0,.int .i64 0,.string ⟨#[]⟩,.string ⟨#[]⟩,.string ⟨#[]⟩,.slice none 0 0] 89)).drewN nq=w1 at hb1 ⊢
   have HB1:=hid hb1
   have HF2:=hid (HF.out w1 (HB0.out.trans (hb1.mono (by rw [HSZ.out];omega))))
   clear hb1 c0 c1 c2
   go_wp2_with fail
   with_reducible refine HF2.out.mono ?_
   rintro e w2 ⟨rfl,hd2⟩
   obtain ⟨x2,d2⟩:=hfin.out w1 w2 HB1.out hd2
   have D2:=hid d2
   obtain ⟨r0,r1,r2,r3,r4,r5,r6,h0,h1,h2,h3,h4,h5,h6⟩:=x2.all
   clear hd2 d2 x2 HF2
   go_wp2
   refine bodyPost_ret (v:=exV noX (.slice none 0 0)) (by simp [results,Tryz.results218,go_sem,r0,r1,r2,r3,r4,r5,r6];rfl) rfl ⟨_,0,rfl,ExK.nil _ _,?_⟩
   exact D2.out.set7 hR (Nat.le_refl _) _ _ _ _ _ _ _
 | false =>
   have hl : s.l=[]:=by
    rcases hno with e|e
    ·rw [hb] at e;cases e
    ·exact e
   rw [hb] at c2
   rw [hl,List.length_nil,Nat.sub_zero] at c1
   obtain ⟨m,hm⟩ : ∃ m,L.length=m:=⟨_,rfl⟩
   rw [hm] at c0 c1
   clear h1 hb hle hno hb0 h hl hm
   go_enter Tryz.func218,Tryz.ntmps218
   go_wp2_with fail
   go_quiet (fail)
   have hb1 : Below (w.alloc (.cells #[.int .i64 0,.int .i64 0,.int .i64 0,.string ⟨#[]⟩,.string ⟨#[]⟩,.string ⟨#[]⟩,.slice none 0 0] 89)).heap.size (w.alloc (.cells #[.int .i64 0,.int .i64 0,.int .i64 0,.string ⟨#[]⟩,.string ⟨#[]⟩,.string ⟨#[]⟩,.slice none 0 0] 89)) ((w.alloc (.cells #[.int .i64 0,.int .i64 0,.int .i64 0,.string ⟨#[]⟩,.string ⟨#[]⟩,.string ⟨#[]⟩,.slice none 0 0] 89)).drewN nq):=below_drewN (Below.refl _ _) _
   generalize (w.alloc (.cells #[.int .i64 0,.int .i64 0,.int .i64 0,.string ⟨#[]⟩,.string ⟨#[]⟩,.string ⟨#[]⟩,.slice none 0 0] 89)).drewN nq=w1 at hb1 ⊢
   have HB1:=hid hb1
   have HF2:=hid (HF.out w1 (HB0.out.trans (hb1.mono (by rw [HSZ.out];omega))))
   clear hb1 c0 c1 c2
   go_wp2_with fail
   with_reducible refine HF2.out.mono ?_
   rintro e w2 ⟨rfl,hd2⟩
   obtain ⟨x2,d2⟩:=hfin.out w1 w2 HB1.out hd2
   have D2:=hid d2
   obtain ⟨r0,r1,r2,r3,r4,r5,r6,h0,h1,h2,h3,h4,h5,h6⟩:=x2.all
   clear hd2 d2 x2 HF2
   go_wp2
   refine bodyPost_ret (v:=exV noX (.slice none 0 0)) (by simp [results,Tryz.results218,go_sem,r0,r1,r2,r3,r4,r5,r6];rfl) rfl ⟨_,0,rfl,ExK.nil _ _,?_⟩
   exact D2.out.set7 hR (Nat.le_refl _) _ _ _ _ _ _ _
theorem zia {w : World} {R T : Nat} {L : List XTok} {s : DS} {t : XTok} {r : List XTok} (h : DdR w R T L s) (hb : s.bad=false) (hl : s.l=t :: r) (hk : t.k=2) : Calls Tryz.prog 218 #[.pointer (some ⟨R,0,none⟩)] w (DxTo R T L ((valX ⟨1,(dNum s).1,[]⟩,(dNum s).2)) w):=by
 have HK:=hid hk
 clear hk
 obtain ⟨⟨a,s1⟩,ha⟩ : ∃ z,dNum s=z:=⟨_,rfl⟩
 rw [ha]
 have HA:=hid ha
 clear ha
 have hR:=h.lt
 have HH:=hid h
 have hb0:=(Below.refl w.heap.size w).alloc (Nat.le_refl _) (.cells #[.int .i64 0,.int .i64 0,.int .i64 0,.string ⟨#[]⟩,.string ⟨#[]⟩,.string ⟨#[]⟩,.slice none 0 0] 89)
 have HX:=hid (XBlk.new w (.int .i64 0) (.int .i64 0) (.int .i64 0) (.string ⟨#[]⟩) (.string ⟨#[]⟩) (.string ⟨#[]⟩) (.slice none 0 0))
 obtain ⟨a,c,h1⟩:=h.keep hb0
 have HD:=hid (show DdAt (w.alloc (.cells #[.int .i64 0,.int .i64 0,.int .i64 0,.string ⟨#[]⟩,.string ⟨#[]⟩,.string ⟨#[]⟩,.slice none 0 0] 89)) R T L s a c from h1)
 obtain ⟨o,rfl,hlt,d0,d1,d2⟩:=h1.first hl
 have HB0:=hid hb0
 have c0:=h1.c0
 have c1:=h1.c1
 have c2:=h1.c2
 rw [hb] at c2
 have HHD:=hid (h1.head hl)
 have HSB:=hid hb
 have HSL:=hid hl
 have hle:=h1.le
 have hln:=h1.len
 have HLN:=hid (show L.length - s.l.length≤500 by omega)
 obtain ⟨m,hm⟩ : ∃ m,L.length=m:=⟨_,rfl⟩
 obtain ⟨p,hp⟩ : ∃ p,L.length - s.l.length=p:=⟨_,rfl⟩
 have HP:=hid hp
 rw [hp] at c1 d0 d1 d2 hlt
 rw [hm] at c0 hlt
 have HSZ : Hid ((w.alloc (.cells #[.int .i64 0,.int .i64 0,.int .i64 0,.string ⟨#[]⟩,.string ⟨#[]⟩,.string ⟨#[]⟩,.slice none 0 0] 89)).heap.size=w.heap.size+1):=by show _=_;simp
 clear h1 hb hl hle hln hb0 h hm hp
 go_enter Tryz.func218,Tryz.ntmps218
 go_wp2_with fail
 go_quiet (fail)
 have hb1 : Below (w.alloc (.cells #[.int .i64 0,.int .i64 0,.int .i64 0,.string ⟨#[]⟩,.string ⟨#[]⟩,.string ⟨#[]⟩,.slice none 0 0] 89)).heap.size (w.alloc (.cells #[.int .i64 0,.int .i64 0,.int .i64 0,.string ⟨#[]⟩,.string ⟨#[]⟩,.string ⟨#[]⟩,.slice none 0 0] 89)) ((w.alloc (.cells #[.int .i64 0,.int .i64 0,.int .i64 0,.string ⟨#[]⟩,.string ⟨#[]⟩,.string ⟨#[]⟩,.slice none 0 0] 89)).drewN nq):=below_drewN (Below.refl _ _) _
 have hsz1 : ((w.alloc (.cells #[.int .i64 0,.int .i64 0,.int .i64 0,.string ⟨#[]⟩,.string ⟨#[]⟩,.string ⟨#[]⟩,.slice none 0 0] 89)).drewN nq).heap.size=w.heap.size+1:=by rw [World.heap_drewN];exact HSZ.out
 generalize (w.alloc (.cells #[.int .i64 0,.int .i64 0,.int .i64 0,.string ⟨#[]⟩,.string ⟨#[]⟩,.string ⟨#[]⟩,.slice none 0 0] 89)).drewN nq=w1 at hb1 hsz1 ⊢
 have e0:=zaa hb1 c0
 have e1:=zaa hb1 c1
 have e2:=zaa hb1 d0
 have e3:=zaa hb1 d1
 have e4:=zaa hb1 d2
 have HB1:=hid hb1
 have HS1:=hid hsz1
 clear c0 c1 c2 d0 d1 d2 hb1 hsz1
 have g0 : w1.drew.cell? _=_:=e0
 have g1 : w1.drew.cell? _=_:=e1
 have g2 : w1.drew.cell? _=_:=e2
 have g3 : w1.drew.cell? _=_:=e3
 have g4 : w1.drew.cell? _=_:=e4
 go_wp2_with fail
 refine wp_region_held_drew (S:=fun W=>W.cell? ⟨R,0,none⟩=some (.slice (some ⟨T,o,none⟩) m c)∧W.cell? ⟨R,1,none⟩=some (.int .i64 p)∧W.cell? ⟨T,o+p*3,none⟩=some (.int .i64 t.k)∧W.cell? ⟨T,o+p*3+1,none⟩=some (.string (strB t.b))∧W.cell? ⟨T,o+p*3+2,none⟩=some (.int .i64 t.at_)) (by kernel_rfl) ⟨g0,g1,g2,g3,g4⟩ (fun hHeld0=>?_)
 refine tK 0 29 (h:=?_)
 try simp only [Act.put,sI,sZ,sS]
 refine tK 1 30 (h:=?_)
 try simp only [Act.put,sI,sZ,sS]
 refine tK 2 31 (h:=?_)
 try simp only [Act.put,sI,sZ,sS]
 refine tK 3 32 (h:=?_)
 try simp only [Act.put,sI,sZ,sS]
 refine tK 4 33 (h:=?_)
 try simp only [Act.put,sI,sZ,sS]
 refine tK 5 34 (h:=?_)
 try simp only [Act.put,sI,sZ,sS]
 refine tK 6 35 (h:=?_)
 try simp only [Act.put,sI,sZ,sS]
 refine tK 7 36 (h:=?_)
 try simp only [Act.put,sI,sZ,sS]
 refine tK 8 37 (h:=?_)
 try simp only [Act.put,sI,sZ,sS]
 refine tK 9 38 (h:=?_)
 try simp only [Act.put,sI,sZ,sS]
 refine wpAnyH_ready (rs:=[10]) (by kernel_rfl) (by simp) ?_
 refine AllReadyH.cons (o:=_) rfl (fun K hK=>?_) AllReadyH.nil
 dsimp only [List.getElem_toArray,List.getElem_cons_succ,List.getElem_cons_zero]
 go_simp
 have q0 : (w1.alloc (.cells #[.int .i64 0,.string ⟨#[]⟩,.int .i64 0] 148)).drew.cell? _=_:=zad e0 _
 have q1 : (w1.alloc (.cells #[.int .i64 0,.string ⟨#[]⟩,.int .i64 0] 148)).drew.cell? _=_:=zad e1 _
 have q2 : (w1.alloc (.cells #[.int .i64 0,.string ⟨#[]⟩,.int .i64 0] 148)).drew.cell? _=_:=zad e2 _
 have q3 : (w1.alloc (.cells #[.int .i64 0,.string ⟨#[]⟩,.int .i64 0] 148)).drew.cell? _=_:=zad e3 _
 have q4 : (w1.alloc (.cells #[.int .i64 0,.string ⟨#[]⟩,.int .i64 0] 148)).drew.cell? _=_:=zad e4 _
 refine hK.out _ _ ⟨q0,q1,q2,q3,q4⟩ (fun hHeld1=>?_)
 clear hK K
 try simp only [Act.put,sI,sZ,sS]
 refine wpAnyH_ready (rs:=[11]) (by kernel_rfl) (by simp) ?_
 refine AllReadyH.cons (o:=_) rfl (fun K hK=>?_) AllReadyH.nil
 dsimp only [List.getElem_toArray,List.getElem_cons_succ,List.getElem_cons_zero]
 go_simp
 have v0 : (w1.alloc (.cells #[.int .i64 t.k,.string (strB t.b),.int .i64 t.at_] 148)).drew.cell? _=_:=zad e0 _
 have v1 : (w1.alloc (.cells #[.int .i64 t.k,.string (strB t.b),.int .i64 t.at_] 148)).drew.cell? _=_:=zad e1 _
 have v2 : (w1.alloc (.cells #[.int .i64 t.k,.string (strB t.b),.int .i64 t.at_] 148)).drew.cell? _=_:=zad e2 _
 have v3 : (w1.alloc (.cells #[.int .i64 t.k,.string (strB t.b),.int .i64 t.at_] 148)).drew.cell? _=_:=zad e3 _
 have v4 : (w1.alloc (.cells #[.int .i64 t.k,.string (strB t.b),.int .i64 t.at_] 148)).drew.cell? _=_:=zad e4 _
 refine hK.out _ _ ⟨v0,v1,v2,v3,v4⟩ (fun hHeld2=>?_)
 clear hK K
 try simp only [Act.put,sI,sZ,sS]
 refine wpAnyH_done (by kernel_rfl) ?_ _
 have HI : Hid (TmIn R T L s t w ((w1.alloc (.cells #[.int .i64 t.k,.string (strB t.b),.int .i64 t.at_] 148)).drew)):=by
  have hb2 : Below w1.heap.size w1 ((w1.alloc (.cells #[.int .i64 t.k,.string (strB t.b),.int .i64 t.at_] 148)).drew):=zae ((Below.refl _ w1).alloc (Nat.le_refl _) (.cells #[.int .i64 t.k,.string (strB t.b),.int .i64 t.at_] 148))
  have hb1:=HB1.out
  refine hid ⟨((HX.out.keep (TFr.of_below (K:=fun _=>False) hb1) id).keep (TFr.of_below (K:=fun _=>False) hb2) id),?_,DdTo.of_below HH.out ((HB0.out.trans (hb1.mono (by rw [HSZ.out];omega))).trans (hb2.mono (by rw [HS1.out];omega)))⟩
  have:=Blk.new w1 #[.int .i64 t.k,.string (strB t.b),.int .i64 t.at_] 148
  rw [HS1.out] at this
  exact this
 rw [HS1.out]
 generalize (w1.alloc (.cells #[.int .i64 t.k,.string (strB t.b),.int .i64 t.at_] 148)).drew=w2 at HI
 clear v0 v1 v2 v3 v4 q0 q1 q2 q3 q4 g0 g1 g2 g3 g4 e0 e1 e2 e3 e4 HB1 HS1 HX HB0 HD HSZ HH hHeld0 hHeld1 hHeld2
 have k0:=zab HI.out.tok (k:=0) rfl
 have k1:=zab HI.out.tok (k:=1) rfl
 have K0 : w2.cell? ⟨w.heap.size+1,0,none⟩=some (.int .i64 2):=by rw [k0,HK.out];rfl
 clear k0 k1
 have HC:=hid (zb4 HI.out.rt.rd)
 rw [HA.out] at HC
 have HC2 : Hid (Calls Tryz.prog 143 #[.pointer (some ⟨R,0,none⟩)] w2 fun e w'=>e=.returned (.int .i64 a)∧DdTo R T L s1 w2 w'):=HC.out
 clear HC
 go_wp2_with fail
 with_reducible refine HC2.out.mono ?_
 rintro e w3 ⟨rfl,hd⟩
 have HI:=hid (HI.out.call hR hd)
 clear hd HC2 K0
 obtain ⟨r0,r1,r2,r3,r4,r5,r6,h0,h1,h2,h3,h4,h5,h6⟩:=HI.out.res.all
 go_wp2
 refine bodyPost_ret (v:=exV (valX ⟨1,a,[]⟩) (.slice none 0 0)) (by simp [results,Tryz.results218,go_sem,r0,r1,r2,r3,r4,r5,r6];rfl) rfl ⟨_,0,rfl,ExK.nil _ _,?_⟩
 exact HI.out.rt.set7 hR (Nat.le_refl _) _ _ _ _ _ _ _
theorem zgW {w : World} {R T : Nat} {L : List XTok} {s : DS} {t : XTok} {r : List XTok} (h : DdR w R T L s) (hb : s.bad=false) (hl : s.l=t :: r) (hk : t.k=3) : Calls Tryz.prog 218 #[.pointer (some ⟨R,0,none⟩)] w (DxTo R T L ((valX ⟨2,0,t.b⟩,dSkip s)) w):=by
 have HK:=hid hk
 clear hk
 have hR:=h.lt
 have HH:=hid h
 have hb0:=(Below.refl w.heap.size w).alloc (Nat.le_refl _) (.cells #[.int .i64 0,.int .i64 0,.int .i64 0,.string ⟨#[]⟩,.string ⟨#[]⟩,.string ⟨#[]⟩,.slice none 0 0] 89)
 have HX:=hid (XBlk.new w (.int .i64 0) (.int .i64 0) (.int .i64 0) (.string ⟨#[]⟩) (.string ⟨#[]⟩) (.string ⟨#[]⟩) (.slice none 0 0))
 obtain ⟨a,c,h1⟩:=h.keep hb0
 have HD:=hid (show DdAt (w.alloc (.cells #[.int .i64 0,.int .i64 0,.int .i64 0,.string ⟨#[]⟩,.string ⟨#[]⟩,.string ⟨#[]⟩,.slice none 0 0] 89)) R T L s a c from h1)
 obtain ⟨o,rfl,hlt,d0,d1,d2⟩:=h1.first hl
 have HB0:=hid hb0
 have c0:=h1.c0
 have c1:=h1.c1
 have c2:=h1.c2
 rw [hb] at c2
 have HHD:=hid (h1.head hl)
 have HSB:=hid hb
 have HSL:=hid hl
 have hle:=h1.le
 have hln:=h1.len
 have HLN:=hid (show L.length - s.l.length≤500 by omega)
 obtain ⟨m,hm⟩ : ∃ m,L.length=m:=⟨_,rfl⟩
 obtain ⟨p,hp⟩ : ∃ p,L.length - s.l.length=p:=⟨_,rfl⟩
 have HP:=hid hp
 rw [hp] at c1 d0 d1 d2 hlt
 rw [hm] at c0 hlt
 have HSZ : Hid ((w.alloc (.cells #[.int .i64 0,.int .i64 0,.int .i64 0,.string ⟨#[]⟩,.string ⟨#[]⟩,.string ⟨#[]⟩,.slice none 0 0] 89)).heap.size=w.heap.size+1):=by show _=_;simp
 clear h1 hb hl hle hln hb0 h hm hp
 go_enter Tryz.func218,Tryz.ntmps218
 go_wp2_with fail
 go_quiet (fail)
 have hb1 : Below (w.alloc (.cells #[.int .i64 0,.int .i64 0,.int .i64 0,.string ⟨#[]⟩,.string ⟨#[]⟩,.string ⟨#[]⟩,.slice none 0 0] 89)).heap.size (w.alloc (.cells #[.int .i64 0,.int .i64 0,.int .i64 0,.string ⟨#[]⟩,.string ⟨#[]⟩,.string ⟨#[]⟩,.slice none 0 0] 89)) ((w.alloc (.cells #[.int .i64 0,.int .i64 0,.int .i64 0,.string ⟨#[]⟩,.string ⟨#[]⟩,.string ⟨#[]⟩,.slice none 0 0] 89)).drewN nq):=below_drewN (Below.refl _ _) _
 have hsz1 : ((w.alloc (.cells #[.int .i64 0,.int .i64 0,.int .i64 0,.string ⟨#[]⟩,.string ⟨#[]⟩,.string ⟨#[]⟩,.slice none 0 0] 89)).drewN nq).heap.size=w.heap.size+1:=by rw [World.heap_drewN];exact HSZ.out
 generalize (w.alloc (.cells #[.int .i64 0,.int .i64 0,.int .i64 0,.string ⟨#[]⟩,.string ⟨#[]⟩,.string ⟨#[]⟩,.slice none 0 0] 89)).drewN nq=w1 at hb1 hsz1 ⊢
 have e0:=zaa hb1 c0
 have e1:=zaa hb1 c1
 have e2:=zaa hb1 d0
 have e3:=zaa hb1 d1
 have e4:=zaa hb1 d2
 have HB1:=hid hb1
 have HS1:=hid hsz1
 clear c0 c1 c2 d0 d1 d2 hb1 hsz1
 have g0 : w1.drew.cell? _=_:=e0
 have g1 : w1.drew.cell? _=_:=e1
 have g2 : w1.drew.cell? _=_:=e2
 have g3 : w1.drew.cell? _=_:=e3
 have g4 : w1.drew.cell? _=_:=e4
 go_wp2_with fail
 refine wp_region_held_drew (S:=fun W=>W.cell? ⟨R,0,none⟩=some (.slice (some ⟨T,o,none⟩) m c)∧W.cell? ⟨R,1,none⟩=some (.int .i64 p)∧W.cell? ⟨T,o+p*3,none⟩=some (.int .i64 t.k)∧W.cell? ⟨T,o+p*3+1,none⟩=some (.string (strB t.b))∧W.cell? ⟨T,o+p*3+2,none⟩=some (.int .i64 t.at_)) (by kernel_rfl) ⟨g0,g1,g2,g3,g4⟩ (fun hHeld0=>?_)
 refine tK 0 29 (h:=?_)
 try simp only [Act.put,sI,sZ,sS]
 refine tK 1 30 (h:=?_)
 try simp only [Act.put,sI,sZ,sS]
 refine tK 2 31 (h:=?_)
 try simp only [Act.put,sI,sZ,sS]
 refine tK 3 32 (h:=?_)
 try simp only [Act.put,sI,sZ,sS]
 refine tK 4 33 (h:=?_)
 try simp only [Act.put,sI,sZ,sS]
 refine tK 5 34 (h:=?_)
 try simp only [Act.put,sI,sZ,sS]
 refine tK 6 35 (h:=?_)
 try simp only [Act.put,sI,sZ,sS]
 refine tK 7 36 (h:=?_)
 try simp only [Act.put,sI,sZ,sS]
 refine tK 8 37 (h:=?_)
 try simp only [Act.put,sI,sZ,sS]
 refine tK 9 38 (h:=?_)
 try simp only [Act.put,sI,sZ,sS]
 refine wpAnyH_ready (rs:=[10]) (by kernel_rfl) (by simp) ?_
 refine AllReadyH.cons (o:=_) rfl (fun K hK=>?_) AllReadyH.nil
 dsimp only [List.getElem_toArray,List.getElem_cons_succ,List.getElem_cons_zero]
 go_simp
 have q0 : (w1.alloc (.cells #[.int .i64 0,.string ⟨#[]⟩,.int .i64 0] 148)).drew.cell? _=_:=zad e0 _
 have q1 : (w1.alloc (.cells #[.int .i64 0,.string ⟨#[]⟩,.int .i64 0] 148)).drew.cell? _=_:=zad e1 _
 have q2 : (w1.alloc (.cells #[.int .i64 0,.string ⟨#[]⟩,.int .i64 0] 148)).drew.cell? _=_:=zad e2 _
 have q3 : (w1.alloc (.cells #[.int .i64 0,.string ⟨#[]⟩,.int .i64 0] 148)).drew.cell? _=_:=zad e3 _
 have q4 : (w1.alloc (.cells #[.int .i64 0,.string ⟨#[]⟩,.int .i64 0] 148)).drew.cell? _=_:=zad e4 _
 refine hK.out _ _ ⟨q0,q1,q2,q3,q4⟩ (fun hHeld1=>?_)
 clear hK K
 try simp only [Act.put,sI,sZ,sS]
 refine wpAnyH_ready (rs:=[11]) (by kernel_rfl) (by simp) ?_
 refine AllReadyH.cons (o:=_) rfl (fun K hK=>?_) AllReadyH.nil
 dsimp only [List.getElem_toArray,List.getElem_cons_succ,List.getElem_cons_zero]
 go_simp
 have v0 : (w1.alloc (.cells #[.int .i64 t.k,.string (strB t.b),.int .i64 t.at_] 148)).drew.cell? _=_:=zad e0 _
 have v1 : (w1.alloc (.cells #[.int .i64 t.k,.string (strB t.b),.int .i64 t.at_] 148)).drew.cell? _=_:=zad e1 _
 have v2 : (w1.alloc (.cells #[.int .i64 t.k,.string (strB t.b),.int .i64 t.at_] 148)).drew.cell? _=_:=zad e2 _
 have v3 : (w1.alloc (.cells #[.int .i64 t.k,.string (strB t.b),.int .i64 t.at_] 148)).drew.cell? _=_:=zad e3 _
 have v4 : (w1.alloc (.cells #[.int .i64 t.k,.string (strB t.b),.int .i64 t.at_] 148)).drew.cell? _=_:=zad e4 _
 refine hK.out _ _ ⟨v0,v1,v2,v3,v4⟩ (fun hHeld2=>?_)
 clear hK K
 try simp only [Act.put,sI,sZ,sS]
 refine wpAnyH_done (by kernel_rfl) ?_ _
 have HI : Hid (TmIn R T L s t w ((w1.alloc (.cells #[.int .i64 t.k,.string (strB t.b),.int .i64 t.at_] 148)).drew)):=by
  have hb2 : Below w1.heap.size w1 ((w1.alloc (.cells #[.int .i64 t.k,.string (strB t.b),.int .i64 t.at_] 148)).drew):=zae ((Below.refl _ w1).alloc (Nat.le_refl _) (.cells #[.int .i64 t.k,.string (strB t.b),.int .i64 t.at_] 148))
  have hb1:=HB1.out
  refine hid ⟨((HX.out.keep (TFr.of_below (K:=fun _=>False) hb1) id).keep (TFr.of_below (K:=fun _=>False) hb2) id),?_,DdTo.of_below HH.out ((HB0.out.trans (hb1.mono (by rw [HSZ.out];omega))).trans (hb2.mono (by rw [HS1.out];omega)))⟩
  have:=Blk.new w1 #[.int .i64 t.k,.string (strB t.b),.int .i64 t.at_] 148
  rw [HS1.out] at this
  exact this
 rw [HS1.out]
 generalize (w1.alloc (.cells #[.int .i64 t.k,.string (strB t.b),.int .i64 t.at_] 148)).drew=w2 at HI
 clear v0 v1 v2 v3 v4 q0 q1 q2 q3 q4 g0 g1 g2 g3 g4 e0 e1 e2 e3 e4 HB1 HS1 HX HB0 HD HSZ HH hHeld0 hHeld1 hHeld2
 have k0:=zab HI.out.tok (k:=0) rfl
 have k1:=zab HI.out.tok (k:=1) rfl
 have K0 : w2.cell? ⟨w.heap.size+1,0,none⟩=some (.int .i64 3):=by rw [k0,HK.out];rfl
 clear k0
 obtain ⟨a,c2,hd2⟩:=HI.out.rt.rd
 have d1:=hd2.c1
 have f1:=hd2.f 1
 rw [HP.out] at d1
 have hw : IntKind.i64.wrap ((p : Int)+1)=(p : Int)+1:=IntWalk.i64_in _ (by have:=HLN.out;have:=HP.out;omega)
 have HJ:=hid (HI.out.skip hR HSL.out (x:=(p : Int)+1) (by rw [HP.out]))
 have j1:=zab HJ.out.tok (k:=1) rfl
 clear hd2 HI
 have HI:=HJ
 clear HJ
 obtain ⟨r0,r1,r2,r3,r4,r5,r6,h0,h1,h2,h3,h4,h5,h6⟩:=HI.out.res.all
 go_wp2
 refine bodyPost_ret (v:=exV (valX ⟨2,0,t.b⟩) (.slice none 0 0)) (by simp [results,Tryz.results218,go_sem,r0,r1,r2,r3,r4,r5,r6];rfl) rfl ⟨_,0,rfl,ExK.nil _ _,?_⟩
 exact HI.out.rt.set7 hR (Nat.le_refl _) _ _ _ _ _ _ _
theorem zib {w : World} {R T : Nat} {L : List XTok} {s : DS} {t : XTok} {r : List XTok} (h : DdR w R T L s) (hb : s.bad=false) (hl : s.l=t :: r) (hnk : t.k≠2∧t.k≠3) (hm : dIs s 4 [45]=true) (hna : 0≤(dNum (dSkip s)).1∧(dNum (dSkip s)).1≤9223372036854775807) : Calls Tryz.prog 218 #[.pointer (some ⟨R,0,none⟩)] w (DxTo R T L ((valX ⟨1,-(dNum (dSkip s)).1,[]⟩,(dNum (dSkip s)).2)) w):=by
 have HNK:=hid hnk
 clear hnk
 obtain ⟨⟨a,s1⟩,ha⟩ : ∃ z,dNum (dSkip s)=z:=⟨_,rfl⟩
 rw [ha] at hna ⊢
 dsimp only at hna
 have HA:=hid ha
 have HM:=hid hm
 have HNA:=hid hna
 clear hm hna ha
 have hR:=h.lt
 have HH:=hid h
 have hb0:=(Below.refl w.heap.size w).alloc (Nat.le_refl _) (.cells #[.int .i64 0,.int .i64 0,.int .i64 0,.string ⟨#[]⟩,.string ⟨#[]⟩,.string ⟨#[]⟩,.slice none 0 0] 89)
 have HX:=hid (XBlk.new w (.int .i64 0) (.int .i64 0) (.int .i64 0) (.string ⟨#[]⟩) (.string ⟨#[]⟩) (.string ⟨#[]⟩) (.slice none 0 0))
 obtain ⟨a,c,h1⟩:=h.keep hb0
 have HD:=hid (show DdAt (w.alloc (.cells #[.int .i64 0,.int .i64 0,.int .i64 0,.string ⟨#[]⟩,.string ⟨#[]⟩,.string ⟨#[]⟩,.slice none 0 0] 89)) R T L s a c from h1)
 obtain ⟨o,rfl,hlt,d0,d1,d2⟩:=h1.first hl
 have HB0:=hid hb0
 have c0:=h1.c0
 have c1:=h1.c1
 have c2:=h1.c2
 rw [hb] at c2
 have HHD:=hid (h1.head hl)
 have HSB:=hid hb
 have HSL:=hid hl
 have hle:=h1.le
 have hln:=h1.len
 have HLN:=hid (show L.length - s.l.length≤500 by omega)
 obtain ⟨m,hm⟩ : ∃ m,L.length=m:=⟨_,rfl⟩
 obtain ⟨p,hp⟩ : ∃ p,L.length - s.l.length=p:=⟨_,rfl⟩
 have HP:=hid hp
 rw [hp] at c1 d0 d1 d2 hlt
 rw [hm] at c0 hlt
 have HSZ : Hid ((w.alloc (.cells #[.int .i64 0,.int .i64 0,.int .i64 0,.string ⟨#[]⟩,.string ⟨#[]⟩,.string ⟨#[]⟩,.slice none 0 0] 89)).heap.size=w.heap.size+1):=by show _=_;simp
 clear h1 hb hl hle hln hb0 h hm hp
 go_enter Tryz.func218,Tryz.ntmps218
 go_wp2_with fail
 go_quiet (fail)
 have hb1 : Below (w.alloc (.cells #[.int .i64 0,.int .i64 0,.int .i64 0,.string ⟨#[]⟩,.string ⟨#[]⟩,.string ⟨#[]⟩,.slice none 0 0] 89)).heap.size (w.alloc (.cells #[.int .i64 0,.int .i64 0,.int .i64 0,.string ⟨#[]⟩,.string ⟨#[]⟩,.string ⟨#[]⟩,.slice none 0 0] 89)) ((w.alloc (.cells #[.int .i64 0,.int .i64 0,.int .i64 0,.string ⟨#[]⟩,.string ⟨#[]⟩,.string ⟨#[]⟩,.slice none 0 0] 89)).drewN nq):=below_drewN (Below.refl _ _) _
 have hsz1 : ((w.alloc (.cells #[.int .i64 0,.int .i64 0,.int .i64 0,.string ⟨#[]⟩,.string ⟨#[]⟩,.string ⟨#[]⟩,.slice none 0 0] 89)).drewN nq).heap.size=w.heap.size+1:=by rw [World.heap_drewN];exact HSZ.out
 generalize (w.alloc (.cells #[.int .i64 0,.int .i64 0,.int .i64 0,.string ⟨#[]⟩,.string ⟨#[]⟩,.string ⟨#[]⟩,.slice none 0 0] 89)).drewN nq=w1 at hb1 hsz1 ⊢
 have e0:=zaa hb1 c0
 have e1:=zaa hb1 c1
 have e2:=zaa hb1 d0
 have e3:=zaa hb1 d1
 have e4:=zaa hb1 d2
 have HB1:=hid hb1
 have HS1:=hid hsz1
 clear c0 c1 c2 d0 d1 d2 hb1 hsz1
 have g0 : w1.drew.cell? _=_:=e0
 have g1 : w1.drew.cell? _=_:=e1
 have g2 : w1.drew.cell? _=_:=e2
 have g3 : w1.drew.cell? _=_:=e3
 have g4 : w1.drew.cell? _=_:=e4
 go_wp2_with fail
 refine wp_region_held_drew (S:=fun W=>W.cell? ⟨R,0,none⟩=some (.slice (some ⟨T,o,none⟩) m c)∧W.cell? ⟨R,1,none⟩=some (.int .i64 p)∧W.cell? ⟨T,o+p*3,none⟩=some (.int .i64 t.k)∧W.cell? ⟨T,o+p*3+1,none⟩=some (.string (strB t.b))∧W.cell? ⟨T,o+p*3+2,none⟩=some (.int .i64 t.at_)) (by kernel_rfl) ⟨g0,g1,g2,g3,g4⟩ (fun hHeld0=>?_)
 refine tK 0 29 (h:=?_)
 try simp only [Act.put,sI,sZ,sS]
 refine tK 1 30 (h:=?_)
 try simp only [Act.put,sI,sZ,sS]
 refine tK 2 31 (h:=?_)
 try simp only [Act.put,sI,sZ,sS]
 refine tK 3 32 (h:=?_)
 try simp only [Act.put,sI,sZ,sS]
 refine tK 4 33 (h:=?_)
 try simp only [Act.put,sI,sZ,sS]
 refine tK 5 34 (h:=?_)
 try simp only [Act.put,sI,sZ,sS]
 refine tK 6 35 (h:=?_)
 try simp only [Act.put,sI,sZ,sS]
 refine tK 7 36 (h:=?_)
 try simp only [Act.put,sI,sZ,sS]
 refine tK 8 37 (h:=?_)
 try simp only [Act.put,sI,sZ,sS]
 refine tK 9 38 (h:=?_)
 try simp only [Act.put,sI,sZ,sS]
 refine wpAnyH_ready (rs:=[10]) (by kernel_rfl) (by simp) ?_
 refine AllReadyH.cons (o:=_) rfl (fun K hK=>?_) AllReadyH.nil
 dsimp only [List.getElem_toArray,List.getElem_cons_succ,List.getElem_cons_zero]
 go_simp
 have q0 : (w1.alloc (.cells #[.int .i64 0,.string ⟨#[]⟩,.int .i64 0] 148)).drew.cell? _=_:=zad e0 _
 have q1 : (w1.alloc (.cells #[.int .i64 0,.string ⟨#[]⟩,.int .i64 0] 148)).drew.cell? _=_:=zad e1 _
 have q2 : (w1.alloc (.cells #[.int .i64 0,.string ⟨#[]⟩,.int .i64 0] 148)).drew.cell? _=_:=zad e2 _
 have q3 : (w1.alloc (.cells #[.int .i64 0,.string ⟨#[]⟩,.int .i64 0] 148)).drew.cell? _=_:=zad e3 _
 have q4 : (w1.alloc (.cells #[.int .i64 0,.string ⟨#[]⟩,.int .i64 0] 148)).drew.cell? _=_:=zad e4 _
 refine hK.out _ _ ⟨q0,q1,q2,q3,q4⟩ (fun hHeld1=>?_)
 clear hK K
 try simp only [Act.put,sI,sZ,sS]
 refine wpAnyH_ready (rs:=[11]) (by kernel_rfl) (by simp) ?_
 refine AllReadyH.cons (o:=_) rfl (fun K hK=>?_) AllReadyH.nil
 dsimp only [List.getElem_toArray,List.getElem_cons_succ,List.getElem_cons_zero]
 go_simp
 have v0 : (w1.alloc (.cells #[.int .i64 t.k,.string (strB t.b),.int .i64 t.at_] 148)).drew.cell? _=_:=zad e0 _
 have v1 : (w1.alloc (.cells #[.int .i64 t.k,.string (strB t.b),.int .i64 t.at_] 148)).drew.cell? _=_:=zad e1 _
 have v2 : (w1.alloc (.cells #[.int .i64 t.k,.string (strB t.b),.int .i64 t.at_] 148)).drew.cell? _=_:=zad e2 _
 have v3 : (w1.alloc (.cells #[.int .i64 t.k,.string (strB t.b),.int .i64 t.at_] 148)).drew.cell? _=_:=zad e3 _
 have v4 : (w1.alloc (.cells #[.int .i64 t.k,.string (strB t.b),.int .i64 t.at_] 148)).drew.cell? _=_:=zad e4 _
 refine hK.out _ _ ⟨v0,v1,v2,v3,v4⟩ (fun hHeld2=>?_)
 clear hK K
 try simp only [Act.put,sI,sZ,sS]
 refine wpAnyH_done (by kernel_rfl) ?_ _
 have HI : Hid (TmIn R T L s t w ((w1.alloc (.cells #[.int .i64 t.k,.string (strB t.b),.int .i64 t.at_] 148)).drew)):=by
  have hb2 : Below w1.heap.size w1 ((w1.alloc (.cells #[.int .i64 t.k,.string (strB t.b),.int .i64 t.at_] 148)).drew):=zae ((Below.refl _ w1).alloc (Nat.le_refl _) (.cells #[.int .i64 t.k,.string (strB t.b),.int .i64 t.at_] 148))
  have hb1:=HB1.out
  refine hid ⟨((HX.out.keep (TFr.of_below (K:=fun _=>False) hb1) id).keep (TFr.of_below (K:=fun _=>False) hb2) id),?_,DdTo.of_below HH.out ((HB0.out.trans (hb1.mono (by rw [HSZ.out];omega))).trans (hb2.mono (by rw [HS1.out];omega)))⟩
  have:=Blk.new w1 #[.int .i64 t.k,.string (strB t.b),.int .i64 t.at_] 148
  rw [HS1.out] at this
  exact this
 rw [HS1.out]
 generalize (w1.alloc (.cells #[.int .i64 t.k,.string (strB t.b),.int .i64 t.at_] 148)).drew=w2 at HI
 clear v0 v1 v2 v3 v4 q0 q1 q2 q3 q4 g0 g1 g2 g3 g4 e0 e1 e2 e3 e4 HB1 HS1 HX HB0 HD HSZ HH hHeld0 hHeld1 hHeld2
 have k0:=zab HI.out.tok (k:=0) rfl
 have k1:=zab HI.out.tok (k:=1) rfl
 have hk2 : ((t.k : Int) == 2)=false:=by rw [beq_eq_false_iff_ne];have:=HNK.out;omega
 have hk3 : ((t.k : Int) == 3)=false:=by rw [beq_eq_false_iff_ne];have:=HNK.out;omega
 have HC:=hid (zaj HI.out.rt.rd [45])
 rw [show dIs s 4 [45]=true from HM.out,zah (show dIs s 4 [45]=true from HM.out)] at HC
 have HC2 : Hid (Calls Tryz.prog 141 #[.pointer (some ⟨R,0,none⟩),.int .i64 4,.string ⟨#[45]⟩] w2 fun e w'=>e=.returned (.bool true)∧DdTo R T L (dSkip s) w2 w'):=HC.out
 clear HC
 go_wp2_with fail
 with_reducible refine HC2.out.mono ?_
 rintro e w3 ⟨rfl,hd⟩
 have HI:=hid (HI.out.call hR hd)
 clear hd HC2
 clear hk2 hk3 k0 k1
 have HC:=hid (zb4 HI.out.rt.rd)
 have hw : IntKind.i64.wrap (-a)=-a:=by
  have:=HNA.out
  exact IntWalk.i64_in _ (by omega)
 rw [HA.out] at HC
 have HC2 : Hid (Calls Tryz.prog 143 #[.pointer (some ⟨R,0,none⟩)] w3 fun e w'=>e=.returned (.int .i64 a)∧DdTo R T L s1 w3 w'):=HC.out
 clear HC
 go_wp2_with fail
 with_reducible refine HC2.out.mono ?_
 rintro e w4 ⟨rfl,hd⟩
 have HI:=hid (HI.out.call hR hd)
 clear hd HC2
 obtain ⟨r0,r1,r2,r3,r4,r5,r6,h0,h1,h2,h3,h4,h5,h6⟩:=HI.out.res.all
 go_wp2
 refine bodyPost_ret (v:=exV (valX ⟨1,-a,[]⟩) (.slice none 0 0)) (by simp [results,Tryz.results218,go_sem,r0,r1,r2,r3,r4,r5,r6];rfl) rfl ⟨_,0,rfl,ExK.nil _ _,?_⟩
 exact HI.out.rt.set7 hR (Nat.le_refl _) _ _ _ _ _ _ _
theorem zgX {w : World} {R T : Nat} {L : List XTok} {s : DS} {t : XTok} {r : List XTok} (h : DdR w R T L s) (hb : s.bad=false) (hl : s.l=t :: r) (hnk : t.k≠2∧t.k≠3) (hno : dIs s 4 [45]=false∧dIs s 1 [116,114,117,101]=true) : Calls Tryz.prog 218 #[.pointer (some ⟨R,0,none⟩)] w (DxTo R T L ((valX ⟨3,1,[]⟩,dSkip s)) w):=by
 have HNK:=hid hnk
 clear hnk
 have HNO:=hid hno
 clear hno
 have hR:=h.lt
 have HH:=hid h
 have hb0:=(Below.refl w.heap.size w).alloc (Nat.le_refl _) (.cells #[.int .i64 0,.int .i64 0,.int .i64 0,.string ⟨#[]⟩,.string ⟨#[]⟩,.string ⟨#[]⟩,.slice none 0 0] 89)
 have HX:=hid (XBlk.new w (.int .i64 0) (.int .i64 0) (.int .i64 0) (.string ⟨#[]⟩) (.string ⟨#[]⟩) (.string ⟨#[]⟩) (.slice none 0 0))
 obtain ⟨a,c,h1⟩:=h.keep hb0
 have HD:=hid (show DdAt (w.alloc (.cells #[.int .i64 0,.int .i64 0,.int .i64 0,.string ⟨#[]⟩,.string ⟨#[]⟩,.string ⟨#[]⟩,.slice none 0 0] 89)) R T L s a c from h1)
 obtain ⟨o,rfl,hlt,d0,d1,d2⟩:=h1.first hl
 have HB0:=hid hb0
 have c0:=h1.c0
 have c1:=h1.c1
 have c2:=h1.c2
 rw [hb] at c2
 have HHD:=hid (h1.head hl)
 have HSB:=hid hb
 have HSL:=hid hl
 have hle:=h1.le
 have hln:=h1.len
 have HLN:=hid (show L.length - s.l.length≤500 by omega)
 obtain ⟨m,hm⟩ : ∃ m,L.length=m:=⟨_,rfl⟩
 obtain ⟨p,hp⟩ : ∃ p,L.length - s.l.length=p:=⟨_,rfl⟩
 have HP:=hid hp
 rw [hp] at c1 d0 d1 d2 hlt
 rw [hm] at c0 hlt
 have HSZ : Hid ((w.alloc (.cells #[.int .i64 0,.int .i64 0,.int .i64 0,.string ⟨#[]⟩,.string ⟨#[]⟩,.string ⟨#[]⟩,.slice none 0 0] 89)).heap.size=w.heap.size+1):=by show _=_;simp
 clear h1 hb hl hle hln hb0 h hm hp
 go_enter Tryz.func218,Tryz.ntmps218
 go_wp2_with fail
 go_quiet (fail)
 have hb1 : Below (w.alloc (.cells #[.int .i64 0,.int .i64 0,.int .i64 0,.string ⟨#[]⟩,.string ⟨#[]⟩,.string ⟨#[]⟩,.slice none 0 0] 89)).heap.size (w.alloc (.cells #[.int .i64 0,.int .i64 0,.int .i64 0,.string ⟨#[]⟩,.string ⟨#[]⟩,.string ⟨#[]⟩,.slice none 0 0] 89)) ((w.alloc (.cells #[.int .i64 0,.int .i64 0,.int .i64 0,.string ⟨#[]⟩,.string ⟨#[]⟩,.string ⟨#[]⟩,.slice none 0 0] 89)).drewN nq):=below_drewN (Below.refl _ _) _
 have hsz1 : ((w.alloc (.cells #[.int .i64 0,.int .i64 0,.int .i64 0,.string ⟨#[]⟩,.string ⟨#[]⟩,.string ⟨#[]⟩,.slice none 0 0] 89)).drewN nq).heap.size=w.heap.size+1:=by rw [World.heap_drewN];exact HSZ.out
 generalize (w.alloc (.cells #[.int .i64 0,.int .i64 0,.int .i64 0,.string ⟨#[]⟩,.string ⟨#[]⟩,.string ⟨#[]⟩,.slice none 0 0] 89)).drewN nq=w1 at hb1 hsz1 ⊢
 have e0:=zaa hb1 c0
 have e1:=zaa hb1 c1
 have e2:=zaa hb1 d0
 have e3:=zaa hb1 d1
 have e4:=zaa hb1 d2
 have HB1:=hid hb1
 have HS1:=hid hsz1
 clear c0 c1 c2 d0 d1 d2 hb1 hsz1
 have g0 : w1.drew.cell? _=_:=e0
 have g1 : w1.drew.cell? _=_:=e1
 have g2 : w1.drew.cell? _=_:=e2
 have g3 : w1.drew.cell? _=_:=e3
 have g4 : w1.drew.cell? _=_:=e4
 go_wp2_with fail
 refine wp_region_held_drew (S:=fun W=>W.cell? ⟨R,0,none⟩=some (.slice (some ⟨T,o,none⟩) m c)∧W.cell? ⟨R,1,none⟩=some (.int .i64 p)∧W.cell? ⟨T,o+p*3,none⟩=some (.int .i64 t.k)∧W.cell? ⟨T,o+p*3+1,none⟩=some (.string (strB t.b))∧W.cell? ⟨T,o+p*3+2,none⟩=some (.int .i64 t.at_)) (by kernel_rfl) ⟨g0,g1,g2,g3,g4⟩ (fun hHeld0=>?_)
 refine tK 0 29 (h:=?_)
 try simp only [Act.put,sI,sZ,sS]
 refine tK 1 30 (h:=?_)
 try simp only [Act.put,sI,sZ,sS]
 refine tK 2 31 (h:=?_)
 try simp only [Act.put,sI,sZ,sS]
 refine tK 3 32 (h:=?_)
 try simp only [Act.put,sI,sZ,sS]
 refine tK 4 33 (h:=?_)
 try simp only [Act.put,sI,sZ,sS]
 refine tK 5 34 (h:=?_)
 try simp only [Act.put,sI,sZ,sS]
 refine tK 6 35 (h:=?_)
 try simp only [Act.put,sI,sZ,sS]
 refine tK 7 36 (h:=?_)
 try simp only [Act.put,sI,sZ,sS]
 refine tK 8 37 (h:=?_)
 try simp only [Act.put,sI,sZ,sS]
 refine tK 9 38 (h:=?_)
 try simp only [Act.put,sI,sZ,sS]
 refine wpAnyH_ready (rs:=[10]) (by kernel_rfl) (by simp) ?_
 refine AllReadyH.cons (o:=_) rfl (fun K hK=>?_) AllReadyH.nil
 dsimp only [List.getElem_toArray,List.getElem_cons_succ,List.getElem_cons_zero]
 go_simp
 have q0 : (w1.alloc (.cells #[.int .i64 0,.string ⟨#[]⟩,.int .i64 0] 148)).drew.cell? _=_:=zad e0 _
 have q1 : (w1.alloc (.cells #[.int .i64 0,.string ⟨#[]⟩,.int .i64 0] 148)).drew.cell? _=_:=zad e1 _
 have q2 : (w1.alloc (.cells #[.int .i64 0,.string ⟨#[]⟩,.int .i64 0] 148)).drew.cell? _=_:=zad e2 _
 have q3 : (w1.alloc (.cells #[.int .i64 0,.string ⟨#[]⟩,.int .i64 0] 148)).drew.cell? _=_:=zad e3 _
 have q4 : (w1.alloc (.cells #[.int .i64 0,.string ⟨#[]⟩,.int .i64 0] 148)).drew.cell? _=_:=zad e4 _
 refine hK.out _ _ ⟨q0,q1,q2,q3,q4⟩ (fun hHeld1=>?_)
 clear hK K
 try simp only [Act.put,sI,sZ,sS]
 refine wpAnyH_ready (rs:=[11]) (by kernel_rfl) (by simp) ?_
 refine AllReadyH.cons (o:=_) rfl (fun K hK=>?_) AllReadyH.nil
 dsimp only [List.getElem_toArray,List.getElem_cons_succ,List.getElem_cons_zero]
 go_simp
 have v0 : (w1.alloc (.cells #[.int .i64 t.k,.string (strB t.b),.int .i64 t.at_] 148)).drew.cell? _=_:=zad e0 _
 have v1 : (w1.alloc (.cells #[.int .i64 t.k,.string (strB t.b),.int .i64 t.at_] 148)).drew.cell? _=_:=zad e1 _
 have v2 : (w1.alloc (.cells #[.int .i64 t.k,.string (strB t.b),.int .i64 t.at_] 148)).drew.cell? _=_:=zad e2 _
 have v3 : (w1.alloc (.cells #[.int .i64 t.k,.string (strB t.b),.int .i64 t.at_] 148)).drew.cell? _=_:=zad e3 _
 have v4 : (w1.alloc (.cells #[.int .i64 t.k,.string (strB t.b),.int .i64 t.at_] 148)).drew.cell? _=_:=zad e4 _
 refine hK.out _ _ ⟨v0,v1,v2,v3,v4⟩ (fun hHeld2=>?_)
 clear hK K
 try simp only [Act.put,sI,sZ,sS]
 refine wpAnyH_done (by kernel_rfl) ?_ _
 have HI : Hid (TmIn R T L s t w ((w1.alloc (.cells #[.int .i64 t.k,.string (strB t.b),.int .i64 t.at_] 148)).drew)):=by
  have hb2 : Below w1.heap.size w1 ((w1.alloc (.cells #[.int .i64 t.k,.string (strB t.b),.int .i64 t.at_] 148)).drew):=zae ((Below.refl _ w1).alloc (Nat.le_refl _) (.cells #[.int .i64 t.k,.string (strB t.b),.int .i64 t.at_] 148))
  have hb1:=HB1.out
  refine hid ⟨((HX.out.keep (TFr.of_below (K:=fun _=>False) hb1) id).keep (TFr.of_below (K:=fun _=>False) hb2) id),?_,DdTo.of_below HH.out ((HB0.out.trans (hb1.mono (by rw [HSZ.out];omega))).trans (hb2.mono (by rw [HS1.out];omega)))⟩
  have:=Blk.new w1 #[.int .i64 t.k,.string (strB t.b),.int .i64 t.at_] 148
  rw [HS1.out] at this
  exact this
 rw [HS1.out]
 generalize (w1.alloc (.cells #[.int .i64 t.k,.string (strB t.b),.int .i64 t.at_] 148)).drew=w2 at HI
 clear v0 v1 v2 v3 v4 q0 q1 q2 q3 q4 g0 g1 g2 g3 g4 e0 e1 e2 e3 e4 HB1 HS1 HX HB0 HD HSZ HH hHeld0 hHeld1 hHeld2
 have k0:=zab HI.out.tok (k:=0) rfl
 have k1:=zab HI.out.tok (k:=1) rfl
 have hk2 : ((t.k : Int) == 2)=false:=by rw [beq_eq_false_iff_ne];have:=HNK.out;omega
 have hk3 : ((t.k : Int) == 3)=false:=by rw [beq_eq_false_iff_ne];have:=HNK.out;omega
 have HC:=hid (zaj HI.out.rt.rd [45])
 rw [show dIs s 4 [45]=false from HNO.out.1,zai (show dIs s 4 [45]=false from HNO.out.1)] at HC
 have HC2 : Hid (Calls Tryz.prog 141 #[.pointer (some ⟨R,0,none⟩),.int .i64 4,.string ⟨#[45]⟩] w2 fun e w'=>e=.returned (.bool false)∧DdTo R T L s w2 w'):=HC.out
 clear HC
 go_wp2_with fail
 with_reducible refine HC2.out.mono ?_
 rintro e w3 ⟨rfl,hd⟩
 have HI:=hid (HI.out.call hR hd)
 clear hd HC2
 have HC:=hid (zaf HI.out.rt.rd [116,114,117,101])
 rw [show dIs s 1 [116,114,117,101]=true from HNO.out.2,zah (show dIs s 1 [116,114,117,101]=true from HNO.out.2)] at HC
 have HC2 : Hid (Calls Tryz.prog 141 #[.pointer (some ⟨R,0,none⟩),.int .i64 1,.string ⟨#[116,114,117,101]⟩] w3 fun e w'=>e=.returned (.bool true)∧DdTo R T L (dSkip s) w3 w'):=HC.out
 clear HC
 go_wp2_with fail
 with_reducible refine HC2.out.mono ?_
 rintro e w4 ⟨rfl,hd⟩
 have HI:=hid (HI.out.call hR hd)
 clear hd HC2
 obtain ⟨r0,r1,r2,r3,r4,r5,r6,h0,h1,h2,h3,h4,h5,h6⟩:=HI.out.res.all
 clear hk2 hk3 k0 k1
 go_wp2
 refine bodyPost_ret (v:=exV (valX ⟨3,1,[]⟩) (.slice none 0 0)) (by simp [results,Tryz.results218,go_sem,r0,r1,r2,r3,r4,r5,r6];rfl) rfl ⟨_,0,rfl,ExK.nil _ _,?_⟩
 exact HI.out.rt.set7 hR (Nat.le_refl _) _ _ _ _ _ _ _
theorem zfK {w : World} {R T : Nat} {L : List XTok} {s : DS} {t : XTok} {r : List XTok} (h : DdR w R T L s) (hb : s.bad=false) (hl : s.l=t :: r) (hnk : t.k≠2∧t.k≠3) (hno : dIs s 4 [45]=false∧dIs s 1 [116,114,117,101]=false∧dIs s 1 [102,97,108,115,101]=true) : Calls Tryz.prog 218 #[.pointer (some ⟨R,0,none⟩)] w (DxTo R T L ((valX ⟨3,0,[]⟩,dSkip s)) w):=by
 have HNK:=hid hnk
 clear hnk
 have HNO:=hid hno
 clear hno
 have hR:=h.lt
 have HH:=hid h
 have hb0:=(Below.refl w.heap.size w).alloc (Nat.le_refl _) (.cells #[.int .i64 0,.int .i64 0,.int .i64 0,.string ⟨#[]⟩,.string ⟨#[]⟩,.string ⟨#[]⟩,.slice none 0 0] 89)
 have HX:=hid (XBlk.new w (.int .i64 0) (.int .i64 0) (.int .i64 0) (.string ⟨#[]⟩) (.string ⟨#[]⟩) (.string ⟨#[]⟩) (.slice none 0 0))
 obtain ⟨a,c,h1⟩:=h.keep hb0
 have HD:=hid (show DdAt (w.alloc (.cells #[.int .i64 0,.int .i64 0,.int .i64 0,.string ⟨#[]⟩,.string ⟨#[]⟩,.string ⟨#[]⟩,.slice none 0 0] 89)) R T L s a c from h1)
 obtain ⟨o,rfl,hlt,d0,d1,d2⟩:=h1.first hl
 have HB0:=hid hb0
 have c0:=h1.c0
 have c1:=h1.c1
 have c2:=h1.c2
 rw [hb] at c2
 have HHD:=hid (h1.head hl)
 have HSB:=hid hb
 have HSL:=hid hl
 have hle:=h1.le
 have hln:=h1.len
 have HLN:=hid (show L.length - s.l.length≤500 by omega)
 obtain ⟨m,hm⟩ : ∃ m,L.length=m:=⟨_,rfl⟩
 obtain ⟨p,hp⟩ : ∃ p,L.length - s.l.length=p:=⟨_,rfl⟩
 have HP:=hid hp
 rw [hp] at c1 d0 d1 d2 hlt
 rw [hm] at c0 hlt
 have HSZ : Hid ((w.alloc (.cells #[.int .i64 0,.int .i64 0,.int .i64 0,.string ⟨#[]⟩,.string ⟨#[]⟩,.string ⟨#[]⟩,.slice none 0 0] 89)).heap.size=w.heap.size+1):=by show _=_;simp
 clear h1 hb hl hle hln hb0 h hm hp
 go_enter Tryz.func218,Tryz.ntmps218
 go_wp2_with fail
 go_quiet (fail)
 have hb1 : Below (w.alloc (.cells #[.int .i64 0,.int .i64 0,.int .i64 0,.string ⟨#[]⟩,.string ⟨#[]⟩,.string ⟨#[]⟩,.slice none 0 0] 89)).heap.size (w.alloc (.cells #[.int .i64 0,.int .i64 0,.int .i64 0,.string ⟨#[]⟩,.string ⟨#[]⟩,.string ⟨#[]⟩,.slice none 0 0] 89)) ((w.alloc (.cells #[.int .i64 0,.int .i64 0,.int .i64 0,.string ⟨#[]⟩,.string ⟨#[]⟩,.string ⟨#[]⟩,.slice none 0 0] 89)).drewN nq):=below_drewN (Below.refl _ _) _
 have hsz1 : ((w.alloc (.cells #[.int .i64 0,.int .i64 0,.int .i64 0,.string ⟨#[]⟩,.string ⟨#[]⟩,.string ⟨#[]⟩,.slice none 0 0] 89)).drewN nq).heap.size=w.heap.size+1:=by rw [World.heap_drewN];exact HSZ.out
 generalize (w.alloc (.cells #[.int .i64 0,.int .i64 0,.int .i64 0,.string ⟨#[]⟩,.string ⟨#[]⟩,.string ⟨#[]⟩,.slice none 0 0] 89)).drewN nq=w1 at hb1 hsz1 ⊢
 have e0:=zaa hb1 c0
 have e1:=zaa hb1 c1
 have e2:=zaa hb1 d0
 have e3:=zaa hb1 d1
 have e4:=zaa hb1 d2
 have HB1:=hid hb1
 have HS1:=hid hsz1
 clear c0 c1 c2 d0 d1 d2 hb1 hsz1
 have g0 : w1.drew.cell? _=_:=e0
 have g1 : w1.drew.cell? _=_:=e1
 have g2 : w1.drew.cell? _=_:=e2
 have g3 : w1.drew.cell? _=_:=e3
 have g4 : w1.drew.cell? _=_:=e4
 go_wp2_with fail
 refine wp_region_held_drew (S:=fun W=>W.cell? ⟨R,0,none⟩=some (.slice (some ⟨T,o,none⟩) m c)∧W.cell? ⟨R,1,none⟩=some (.int .i64 p)∧W.cell? ⟨T,o+p*3,none⟩=some (.int .i64 t.k)∧W.cell? ⟨T,o+p*3+1,none⟩=some (.string (strB t.b))∧W.cell? ⟨T,o+p*3+2,none⟩=some (.int .i64 t.at_)) (by kernel_rfl) ⟨g0,g1,g2,g3,g4⟩ (fun hHeld0=>?_)
 refine tK 0 29 (h:=?_)
 try simp only [Act.put,sI,sZ,sS]
 refine tK 1 30 (h:=?_)
 try simp only [Act.put,sI,sZ,sS]
 refine tK 2 31 (h:=?_)
 try simp only [Act.put,sI,sZ,sS]
 refine tK 3 32 (h:=?_)
 try simp only [Act.put,sI,sZ,sS]
 refine tK 4 33 (h:=?_)
 try simp only [Act.put,sI,sZ,sS]
 refine tK 5 34 (h:=?_)
 try simp only [Act.put,sI,sZ,sS]
 refine tK 6 35 (h:=?_)
 try simp only [Act.put,sI,sZ,sS]
 refine tK 7 36 (h:=?_)
 try simp only [Act.put,sI,sZ,sS]
 refine tK 8 37 (h:=?_)
 try simp only [Act.put,sI,sZ,sS]
 refine tK 9 38 (h:=?_)
 try simp only [Act.put,sI,sZ,sS]
 refine wpAnyH_ready (rs:=[10]) (by kernel_rfl) (by simp) ?_
 refine AllReadyH.cons (o:=_) rfl (fun K hK=>?_) AllReadyH.nil
 dsimp only [List.getElem_toArray,List.getElem_cons_succ,List.getElem_cons_zero]
 go_simp
 have q0 : (w1.alloc (.cells #[.int .i64 0,.string ⟨#[]⟩,.int .i64 0] 148)).drew.cell? _=_:=zad e0 _
 have q1 : (w1.alloc (.cells #[.int .i64 0,.string ⟨#[]⟩,.int .i64 0] 148)).drew.cell? _=_:=zad e1 _
 have q2 : (w1.alloc (.cells #[.int .i64 0,.string ⟨#[]⟩,.int .i64 0] 148)).drew.cell? _=_:=zad e2 _
 have q3 : (w1.alloc (.cells #[.int .i64 0,.string ⟨#[]⟩,.int .i64 0] 148)).drew.cell? _=_:=zad e3 _
 have q4 : (w1.alloc (.cells #[.int .i64 0,.string ⟨#[]⟩,.int .i64 0] 148)).drew.cell? _=_:=zad e4 _
 refine hK.out _ _ ⟨q0,q1,q2,q3,q4⟩ (fun hHeld1=>?_)
 clear hK K
 try simp only [Act.put,sI,sZ,sS]
 refine wpAnyH_ready (rs:=[11]) (by kernel_rfl) (by simp) ?_
 refine AllReadyH.cons (o:=_) rfl (fun K hK=>?_) AllReadyH.nil
 dsimp only [List.getElem_toArray,List.getElem_cons_succ,List.getElem_cons_zero]
 go_simp
 have v0 : (w1.alloc (.cells #[.int .i64 t.k,.string (strB t.b),.int .i64 t.at_] 148)).drew.cell? _=_:=zad e0 _
 have v1 : (w1.alloc (.cells #[.int .i64 t.k,.string (strB t.b),.int .i64 t.at_] 148)).drew.cell? _=_:=zad e1 _
 have v2 : (w1.alloc (.cells #[.int .i64 t.k,.string (strB t.b),.int .i64 t.at_] 148)).drew.cell? _=_:=zad e2 _
 have v3 : (w1.alloc (.cells #[.int .i64 t.k,.string (strB t.b),.int .i64 t.at_] 148)).drew.cell? _=_:=zad e3 _
 have v4 : (w1.alloc (.cells #[.int .i64 t.k,.string (strB t.b),.int .i64 t.at_] 148)).drew.cell? _=_:=zad e4 _
 refine hK.out _ _ ⟨v0,v1,v2,v3,v4⟩ (fun hHeld2=>?_)
 clear hK K
 try simp only [Act.put,sI,sZ,sS]
 refine wpAnyH_done (by kernel_rfl) ?_ _
 have HI : Hid (TmIn R T L s t w ((w1.alloc (.cells #[.int .i64 t.k,.string (strB t.b),.int .i64 t.at_] 148)).drew)):=by
  have hb2 : Below w1.heap.size w1 ((w1.alloc (.cells #[.int .i64 t.k,.string (strB t.b),.int .i64 t.at_] 148)).drew):=zae ((Below.refl _ w1).alloc (Nat.le_refl _) (.cells #[.int .i64 t.k,.string (strB t.b),.int .i64 t.at_] 148))
  have hb1:=HB1.out
  refine hid ⟨((HX.out.keep (TFr.of_below (K:=fun _=>False) hb1) id).keep (TFr.of_below (K:=fun _=>False) hb2) id),?_,DdTo.of_below HH.out ((HB0.out.trans (hb1.mono (by rw [HSZ.out];omega))).trans (hb2.mono (by rw [HS1.out];omega)))⟩
  have:=Blk.new w1 #[.int .i64 t.k,.string (strB t.b),.int .i64 t.at_] 148
  rw [HS1.out] at this
  exact this
 rw [HS1.out]
 generalize (w1.alloc (.cells #[.int .i64 t.k,.string (strB t.b),.int .i64 t.at_] 148)).drew=w2 at HI
 clear v0 v1 v2 v3 v4 q0 q1 q2 q3 q4 g0 g1 g2 g3 g4 e0 e1 e2 e3 e4 HB1 HS1 HX HB0 HD HSZ HH hHeld0 hHeld1 hHeld2
 have k0:=zab HI.out.tok (k:=0) rfl
 have k1:=zab HI.out.tok (k:=1) rfl
 have hk2 : ((t.k : Int) == 2)=false:=by rw [beq_eq_false_iff_ne];have:=HNK.out;omega
 have hk3 : ((t.k : Int) == 3)=false:=by rw [beq_eq_false_iff_ne];have:=HNK.out;omega
 have HC:=hid (zaj HI.out.rt.rd [45])
 rw [show dIs s 4 [45]=false from HNO.out.1,zai (show dIs s 4 [45]=false from HNO.out.1)] at HC
 have HC2 : Hid (Calls Tryz.prog 141 #[.pointer (some ⟨R,0,none⟩),.int .i64 4,.string ⟨#[45]⟩] w2 fun e w'=>e=.returned (.bool false)∧DdTo R T L s w2 w'):=HC.out
 clear HC
 go_wp2_with fail
 with_reducible refine HC2.out.mono ?_
 rintro e w3 ⟨rfl,hd⟩
 have HI:=hid (HI.out.call hR hd)
 clear hd HC2
 have HC:=hid (zaf HI.out.rt.rd [116,114,117,101])
 rw [show dIs s 1 [116,114,117,101]=false from HNO.out.2.1,zai (show dIs s 1 [116,114,117,101]=false from HNO.out.2.1)] at HC
 have HC2 : Hid (Calls Tryz.prog 141 #[.pointer (some ⟨R,0,none⟩),.int .i64 1,.string ⟨#[116,114,117,101]⟩] w3 fun e w'=>e=.returned (.bool false)∧DdTo R T L s w3 w'):=HC.out
 clear HC
 go_wp2_with fail
 with_reducible refine HC2.out.mono ?_
 rintro e w4 ⟨rfl,hd⟩
 have HI:=hid (HI.out.call hR hd)
 clear hd HC2
 have HC:=hid (zaf HI.out.rt.rd [102,97,108,115,101])
 rw [show dIs s 1 [102,97,108,115,101]=true from HNO.out.2.2,zah (show dIs s 1 [102,97,108,115,101]=true from HNO.out.2.2)] at HC
 have HC2 : Hid (Calls Tryz.prog 141 #[.pointer (some ⟨R,0,none⟩),.int .i64 1,.string ⟨#[102,97,108,115,101]⟩] w4 fun e w'=>e=.returned (.bool true)∧DdTo R T L (dSkip s) w4 w'):=HC.out
 clear HC
 go_wp2_with fail
 with_reducible refine HC2.out.mono ?_
 rintro e w5 ⟨rfl,hd⟩
 have HI:=hid (HI.out.call hR hd)
 clear hd HC2
 obtain ⟨r0,r1,r2,r3,r4,r5,r6,h0,h1,h2,h3,h4,h5,h6⟩:=HI.out.res.all
 clear hk2 hk3 k0 k1
 go_wp2
 refine bodyPost_ret (v:=exV (valX ⟨3,0,[]⟩) (.slice none 0 0)) (by simp [results,Tryz.results218,go_sem,r0,r1,r2,r3,r4,r5,r6];rfl) rfl ⟨_,0,rfl,ExK.nil _ _,?_⟩
 exact HI.out.rt.set7 hR (Nat.le_refl _) _ _ _ _ _ _ _
theorem zfL {w : World} {R T : Nat} {L : List XTok} {s : DS} {t : XTok} {r : List XTok} (h : DdR w R T L s) (hb : s.bad=false) (hl : s.l=t :: r) (hnk : t.k≠2∧t.k≠3) (hno : dIs s 4 [45]=false∧dIs s 1 [116,114,117,101]=false∧dIs s 1 [102,97,108,115,101]=false∧dIs s 1 [99,111,117,110,116]=true) : Calls Tryz.prog 218 #[.pointer (some ⟨R,0,none⟩)] w (DxTo R T L (dCount (dSkip s)) w):=by
 have HNK:=hid hnk
 clear hnk
 have HNO:=hid hno
 clear hno
 unfold dCount
 obtain ⟨⟨a,s1⟩,ha⟩ : ∃ z,dName (dMust (dSkip s) 4 [40])=z:=⟨_,rfl⟩
 rw [ha]
 have HA:=hid ha
 clear ha
 have hR:=h.lt
 have HH:=hid h
 have hb0:=(Below.refl w.heap.size w).alloc (Nat.le_refl _) (.cells #[.int .i64 0,.int .i64 0,.int .i64 0,.string ⟨#[]⟩,.string ⟨#[]⟩,.string ⟨#[]⟩,.slice none 0 0] 89)
 have HX:=hid (XBlk.new w (.int .i64 0) (.int .i64 0) (.int .i64 0) (.string ⟨#[]⟩) (.string ⟨#[]⟩) (.string ⟨#[]⟩) (.slice none 0 0))
 obtain ⟨a,c,h1⟩:=h.keep hb0
 have HD:=hid (show DdAt (w.alloc (.cells #[.int .i64 0,.int .i64 0,.int .i64 0,.string ⟨#[]⟩,.string ⟨#[]⟩,.string ⟨#[]⟩,.slice none 0 0] 89)) R T L s a c from h1)
 obtain ⟨o,rfl,hlt,d0,d1,d2⟩:=h1.first hl
 have HB0:=hid hb0
 have c0:=h1.c0
 have c1:=h1.c1
 have c2:=h1.c2
 rw [hb] at c2
 have HHD:=hid (h1.head hl)
 have HSB:=hid hb
 have HSL:=hid hl
 have hle:=h1.le
 have hln:=h1.len
 have HLN:=hid (show L.length - s.l.length≤500 by omega)
 obtain ⟨m,hm⟩ : ∃ m,L.length=m:=⟨_,rfl⟩
 obtain ⟨p,hp⟩ : ∃ p,L.length - s.l.length=p:=⟨_,rfl⟩
 have HP:=hid hp
 rw [hp] at c1 d0 d1 d2 hlt
 rw [hm] at c0 hlt
 have HSZ : Hid ((w.alloc (.cells #[.int .i64 0,.int .i64 0,.int .i64 0,.string ⟨#[]⟩,.string ⟨#[]⟩,.string ⟨#[]⟩,.slice none 0 0] 89)).heap.size=w.heap.size+1):=by show _=_;simp
 clear h1 hb hl hle hln hb0 h hm hp
 go_enter Tryz.func218,Tryz.ntmps218
 go_wp2_with fail
 go_quiet (fail)
 have hb1 : Below (w.alloc (.cells #[.int .i64 0,.int .i64 0,.int .i64 0,.string ⟨#[]⟩,.string ⟨#[]⟩,.string ⟨#[]⟩,.slice none 0 0] 89)).heap.size (w.alloc (.cells #[.int .i64 0,.int .i64 0,.int .i64 0,.string ⟨#[]⟩,.string ⟨#[]⟩,.string ⟨#[]⟩,.slice none 0 0] 89)) ((w.alloc (.cells #[.int .i64 0,.int .i64 0,.int .i64 0,.string ⟨#[]⟩,.string ⟨#[]⟩,.string ⟨#[]⟩,.slice none 0 0] 89)).drewN nq):=below_drewN (Below.refl _ _) _
 have hsz1 : ((w.alloc (.cells #[.int .i64 0,.int .i64 0,.int .i64 0,.string ⟨#[]⟩,.string ⟨#[]⟩,.string ⟨#[]⟩,.slice none 0 0] 89)).drewN nq).heap.size=w.heap.size+1:=by rw [World.heap_drewN];exact HSZ.out
 generalize (w.alloc (.cells #[.int .i64 0,.int .i64 0,.int .i64 0,.string ⟨#[]⟩,.string ⟨#[]⟩,.string ⟨#[]⟩,.slice none 0 0] 89)).drewN nq=w1 at hb1 hsz1 ⊢
 have e0:=zaa hb1 c0
 have e1:=zaa hb1 c1
 have e2:=zaa hb1 d0
 have e3:=zaa hb1 d1
 have e4:=zaa hb1 d2
 have HB1:=hid hb1
 have HS1:=hid hsz1
 clear c0 c1 c2 d0 d1 d2 hb1 hsz1
 have g0 : w1.drew.cell? _=_:=e0
 have g1 : w1.drew.cell? _=_:=e1
 have g2 : w1.drew.cell? _=_:=e2
 have g3 : w1.drew.cell? _=_:=e3
 have g4 : w1.drew.cell? _=_:=e4
 go_wp2_with fail
 refine wp_region_held_drew (S:=fun W=>W.cell? ⟨R,0,none⟩=some (.slice (some ⟨T,o,none⟩) m c)∧W.cell? ⟨R,1,none⟩=some (.int .i64 p)∧W.cell? ⟨T,o+p*3,none⟩=some (.int .i64 t.k)∧W.cell? ⟨T,o+p*3+1,none⟩=some (.string (strB t.b))∧W.cell? ⟨T,o+p*3+2,none⟩=some (.int .i64 t.at_)) (by kernel_rfl) ⟨g0,g1,g2,g3,g4⟩ (fun hHeld0=>?_)
 refine tK 0 29 (h:=?_)
 try simp only [Act.put,sI,sZ,sS]
 refine tK 1 30 (h:=?_)
 try simp only [Act.put,sI,sZ,sS]
 refine tK 2 31 (h:=?_)
 try simp only [Act.put,sI,sZ,sS]
 refine tK 3 32 (h:=?_)
 try simp only [Act.put,sI,sZ,sS]
 refine tK 4 33 (h:=?_)
 try simp only [Act.put,sI,sZ,sS]
 refine tK 5 34 (h:=?_)
 try simp only [Act.put,sI,sZ,sS]
 refine tK 6 35 (h:=?_)
 try simp only [Act.put,sI,sZ,sS]
 refine tK 7 36 (h:=?_)
 try simp only [Act.put,sI,sZ,sS]
 refine tK 8 37 (h:=?_)
 try simp only [Act.put,sI,sZ,sS]
 refine tK 9 38 (h:=?_)
 try simp only [Act.put,sI,sZ,sS]
 refine wpAnyH_ready (rs:=[10]) (by kernel_rfl) (by simp) ?_
 refine AllReadyH.cons (o:=_) rfl (fun K hK=>?_) AllReadyH.nil
 dsimp only [List.getElem_toArray,List.getElem_cons_succ,List.getElem_cons_zero]
 go_simp
 have q0 : (w1.alloc (.cells #[.int .i64 0,.string ⟨#[]⟩,.int .i64 0] 148)).drew.cell? _=_:=zad e0 _
 have q1 : (w1.alloc (.cells #[.int .i64 0,.string ⟨#[]⟩,.int .i64 0] 148)).drew.cell? _=_:=zad e1 _
 have q2 : (w1.alloc (.cells #[.int .i64 0,.string ⟨#[]⟩,.int .i64 0] 148)).drew.cell? _=_:=zad e2 _
 have q3 : (w1.alloc (.cells #[.int .i64 0,.string ⟨#[]⟩,.int .i64 0] 148)).drew.cell? _=_:=zad e3 _
 have q4 : (w1.alloc (.cells #[.int .i64 0,.string ⟨#[]⟩,.int .i64 0] 148)).drew.cell? _=_:=zad e4 _
 refine hK.out _ _ ⟨q0,q1,q2,q3,q4⟩ (fun hHeld1=>?_)
 clear hK K
 try simp only [Act.put,sI,sZ,sS]
 refine wpAnyH_ready (rs:=[11]) (by kernel_rfl) (by simp) ?_
 refine AllReadyH.cons (o:=_) rfl (fun K hK=>?_) AllReadyH.nil
 dsimp only [List.getElem_toArray,List.getElem_cons_succ,List.getElem_cons_zero]
 go_simp
 have v0 : (w1.alloc (.cells #[.int .i64 t.k,.string (strB t.b),.int .i64 t.at_] 148)).drew.cell? _=_:=zad e0 _
 have v1 : (w1.alloc (.cells #[.int .i64 t.k,.string (strB t.b),.int .i64 t.at_] 148)).drew.cell? _=_:=zad e1 _
 have v2 : (w1.alloc (.cells #[.int .i64 t.k,.string (strB t.b),.int .i64 t.at_] 148)).drew.cell? _=_:=zad e2 _
 have v3 : (w1.alloc (.cells #[.int .i64 t.k,.string (strB t.b),.int .i64 t.at_] 148)).drew.cell? _=_:=zad e3 _
 have v4 : (w1.alloc (.cells #[.int .i64 t.k,.string (strB t.b),.int .i64 t.at_] 148)).drew.cell? _=_:=zad e4 _
 refine hK.out _ _ ⟨v0,v1,v2,v3,v4⟩ (fun hHeld2=>?_)
 clear hK K
 try simp only [Act.put,sI,sZ,sS]
 refine wpAnyH_done (by kernel_rfl) ?_ _
 have HI : Hid (TmIn R T L s t w ((w1.alloc (.cells #[.int .i64 t.k,.string (strB t.b),.int .i64 t.at_] 148)).drew)):=by
  have hb2 : Below w1.heap.size w1 ((w1.alloc (.cells #[.int .i64 t.k,.string (strB t.b),.int .i64 t.at_] 148)).drew):=zae ((Below.refl _ w1).alloc (Nat.le_refl _) (.cells #[.int .i64 t.k,.string (strB t.b),.int .i64 t.at_] 148))
  have hb1:=HB1.out
  refine hid ⟨((HX.out.keep (TFr.of_below (K:=fun _=>False) hb1) id).keep (TFr.of_below (K:=fun _=>False) hb2) id),?_,DdTo.of_below HH.out ((HB0.out.trans (hb1.mono (by rw [HSZ.out];omega))).trans (hb2.mono (by rw [HS1.out];omega)))⟩
  have:=Blk.new w1 #[.int .i64 t.k,.string (strB t.b),.int .i64 t.at_] 148
  rw [HS1.out] at this
  exact this
 rw [HS1.out]
 generalize (w1.alloc (.cells #[.int .i64 t.k,.string (strB t.b),.int .i64 t.at_] 148)).drew=w2 at HI
 clear v0 v1 v2 v3 v4 q0 q1 q2 q3 q4 g0 g1 g2 g3 g4 e0 e1 e2 e3 e4 HB1 HS1 HX HB0 HD HSZ HH hHeld0 hHeld1 hHeld2
 have k0:=zab HI.out.tok (k:=0) rfl
 have k1:=zab HI.out.tok (k:=1) rfl
 have hk2 : ((t.k : Int) == 2)=false:=by rw [beq_eq_false_iff_ne];have:=HNK.out;omega
 have hk3 : ((t.k : Int) == 3)=false:=by rw [beq_eq_false_iff_ne];have:=HNK.out;omega
 have HC:=hid (zaj HI.out.rt.rd [45])
 rw [show dIs s 4 [45]=false from HNO.out.1,zai (show dIs s 4 [45]=false from HNO.out.1)] at HC
 have HC2 : Hid (Calls Tryz.prog 141 #[.pointer (some ⟨R,0,none⟩),.int .i64 4,.string ⟨#[45]⟩] w2 fun e w'=>e=.returned (.bool false)∧DdTo R T L s w2 w'):=HC.out
 clear HC
 go_wp2_with fail
 with_reducible refine HC2.out.mono ?_
 rintro e w3 ⟨rfl,hd⟩
 have HI:=hid (HI.out.call hR hd)
 clear hd HC2
 have HC:=hid (zaf HI.out.rt.rd [116,114,117,101])
 rw [show dIs s 1 [116,114,117,101]=false from HNO.out.2.1,zai (show dIs s 1 [116,114,117,101]=false from HNO.out.2.1)] at HC
 have HC2 : Hid (Calls Tryz.prog 141 #[.pointer (some ⟨R,0,none⟩),.int .i64 1,.string ⟨#[116,114,117,101]⟩] w3 fun e w'=>e=.returned (.bool false)∧DdTo R T L s w3 w'):=HC.out
 clear HC
 go_wp2_with fail
 with_reducible refine HC2.out.mono ?_
 rintro e w4 ⟨rfl,hd⟩
 have HI:=hid (HI.out.call hR hd)
 clear hd HC2
 have HC:=hid (zaf HI.out.rt.rd [102,97,108,115,101])
 rw [show dIs s 1 [102,97,108,115,101]=false from HNO.out.2.2.1,zai (show dIs s 1 [102,97,108,115,101]=false from HNO.out.2.2.1)] at HC
 have HC2 : Hid (Calls Tryz.prog 141 #[.pointer (some ⟨R,0,none⟩),.int .i64 1,.string ⟨#[102,97,108,115,101]⟩] w4 fun e w'=>e=.returned (.bool false)∧DdTo R T L s w4 w'):=HC.out
 clear HC
 go_wp2_with fail
 with_reducible refine HC2.out.mono ?_
 rintro e w5 ⟨rfl,hd⟩
 have HI:=hid (HI.out.call hR hd)
 clear hd HC2
 have HC:=hid (zaf HI.out.rt.rd [99,111,117,110,116])
 rw [show dIs s 1 [99,111,117,110,116]=true from HNO.out.2.2.2,zah (show dIs s 1 [99,111,117,110,116]=true from HNO.out.2.2.2)] at HC
 have HC2 : Hid (Calls Tryz.prog 141 #[.pointer (some ⟨R,0,none⟩),.int .i64 1,.string ⟨#[99,111,117,110,116]⟩] w5 fun e w'=>e=.returned (.bool true)∧DdTo R T L (dSkip s) w5 w'):=HC.out
 clear HC
 go_wp2_with fail
 with_reducible refine HC2.out.mono ?_
 rintro e w6 ⟨rfl,hd⟩
 have HI:=hid (HI.out.call hR hd)
 clear hd HC2
 have HC : Hid (Calls Tryz.prog 139 #[.pointer (some ⟨R,0,none⟩),.int .i64 4,.string ⟨#[40]⟩] w6 fun e w'=>e=.returned (.tuple #[])∧DdTo R T L (dMust (dSkip s) 4 [40]) w6 w'):=hid (zat HI.out.rt.rd [40])
 go_wp2_with fail
 with_reducible refine HC.out.mono ?_
 rintro e w7 ⟨rfl,hd⟩
 have HI:=hid (HI.out.call hR hd)
 clear hd HC
 have HC:=hid (zaL HI.out.rt.rd)
 rw [HA.out] at HC
 have HC2 : Hid (Calls Tryz.prog 144 #[.pointer (some ⟨R,0,none⟩)] w7 fun e w'=>e=.returned (.string (strB a))∧DdTo R T L s1 w7 w'):=HC.out
 clear HC
 go_wp2_with fail
 with_reducible refine HC2.out.mono ?_
 rintro e w8 ⟨rfl,hd⟩
 have HI:=hid (HI.out.call hR hd)
 clear hd HC2
 have HC : Hid (Calls Tryz.prog 139 #[.pointer (some ⟨R,0,none⟩),.int .i64 4,.string ⟨#[41]⟩] w8 fun e w'=>e=.returned (.tuple #[])∧DdTo R T L (dMust s1 4 [41]) w8 w'):=hid (zat HI.out.rt.rd [41])
 go_wp2_with fail
 with_reducible refine HC.out.mono ?_
 rintro e w9 ⟨rfl,hd⟩
 have HI:=hid (HI.out.call hR hd)
 clear hd HC
 obtain ⟨r0,r1,r2,r3,r4,r5,r6,h0,h1,h2,h3,h4,h5,h6⟩:=HI.out.res.all
 clear hk2 hk3 k0 k1
 go_wp2
 refine bodyPost_ret (v:=exV (.mk 3 noV a [] []) (.slice none 0 0)) (by simp [results,Tryz.results218,go_sem,r0,r1,r2,r3,r4,r5,r6];rfl) rfl ⟨_,0,rfl,ExK.nil _ _,?_⟩
 exact HI.out.rt.set7 hR (Nat.le_refl _) _ _ _ _ _ _ _
end Go.Proofs.YtkmlfkbpcgkpaaaGreatDoor
