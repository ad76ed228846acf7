/- Texts that others want. -/
import Derived.Test.YtkmlfkbpcgkpaaaGreatDoorM0
import Derived.Test.YtkmlfkbpcgkpaaaGreatDoorMH
namespace Go.Proofs.YtkmlfkbpcgkpaaaGreatDoor
open Go.RowKit Go.Lib Go.Op
set_option maxHeartbeats 8000000
set_option maxRecDepth 100000
theorem kR5 {α : Type} {D : RowD α} {K K' : Nat→Prop} {w : World} {v : Value} {l : List α} {b : Nat} {u0 u1 u2 u3 u4 : Value} (h : RowK D K w v l) (hb : K b) (hm : ∀ g,K' g→K g) : RowK D K' (((((w.setCell ⟨b,0,none⟩ u0).setCell ⟨b,1,none⟩ u1).setCell ⟨b,2,none⟩ u2).setCell ⟨b,3,none⟩ u3).setCell ⟨b,4,none⟩ u4) v l:=(((((h.set hb 0 u0).set hb 1 u1).set hb 2 u2).set hb 3 u3).set hb 4 u4).mono hm
section
variable {α : Type} {b : List UInt8} {one : DS→α × DS}
theorem zh9 (hle : ∀ s,(one s).2.l.length≤s.l.length) : ∀ (n : Nat) (l : List α) (s : DS),(dRow b one n l s).2.l.length≤s.l.length
 | 0,l,s=>Nat.le_refl _
 | n+1,l,s=>by
   rw [dRow]
   split
   ·exact Nat.le_trans (zh9 hle n _ _) (Nat.le_trans (hle _) zas)
   ·exact Nat.le_refl _
theorem zeX (hdp : ∀ s,(one s).2.deep=s.deep) : ∀ (n : Nat) (l : List α) (s : DS),(dRow b one n l s).2.deep=s.deep
 | 0,l,s=>rfl
 | n+1,l,s=>by
   rw [dRow]
   split
   ·rw [zeX hdp n _ _,hdp]
    rfl
   ·rfl
end
theorem zdW (n : Nat) (s : DS) : (dItem n s).2.l.length≤s.l.length :=
 Nat.le_trans zi3 (Nat.le_trans zaU (Nat.le_trans (zh9 (fun _=>zaU) n _ _) (Nat.le_trans zaU (zdZ _ _))))
theorem zgS (n : Nat) (s : DS) : (dItem n s).2.deep=s.deep :=
 dMode_deep.trans (dName_deep.trans ((zeX (fun _=>dName_deep) n _ _).trans (dName_deep.trans (zdx _ _))))
theorem zdX (n : Nat) (s : DS) : (dPred n s).2.l.length≤s.l.length :=
 Nat.le_trans (zct (zbH n) n _) (Nat.le_trans (zdy _ _) (zct (zbH n) n _))
theorem zgT (n : Nat) (s : DS) : (dPred n s).2.deep=s.deep :=
 (zbb (zaM n) n _).trans ((zcm _ _).trans (zbb (zaM n) n _))
theorem RowK.upN {K : Nat→Prop} {w : World} {v : Value} {l : List (List UInt8)} (h : RowK nameD K w v l) {B : Nat} (hb : w.heap.size≤B) : RowK nameD (fun g=>K g∨B≤g) w v l:=by
 obtain ⟨a,c,e,hcap,h⟩:=h
 refine ⟨a,c,e,hcap,fun j x hj=>?_⟩
 obtain ⟨g,o,cs,ea,hg,hp,hc⟩:=h j x hj
 have hl:=nameD.len hp
 have hk : nameD.k=1:=rfl
 have h0:=hc 0 (cs[0]'(by omega)) (List.getElem?_eq_getElem _)
 have hlt : g < w.heap.size:=World.block_lt_of_cell? _ _ h0
 exact ⟨g,o,cs,ea,fun hn=>hn.elim hg (fun e=>by omega),hp,hc⟩
theorem RowK.upI {K : Nat→Prop} {w : World} {v : Value} {l : List PIt} (h : RowK itemD K w v l) {B : Nat} (hb : w.heap.size≤B) : RowK itemD (fun g=>K g∨B≤g) w v l:=by
 obtain ⟨a,c,e,hcap,h⟩:=h
 refine ⟨a,c,e,hcap,fun j x hj=>?_⟩
 obtain ⟨g,o,cs,ea,hg,hp,hc⟩:=h j x hj
 have hl:=itemD.len hp
 have hk : itemD.k=4:=rfl
 have h0:=hc 0 (cs[0]'(by omega)) (List.getElem?_eq_getElem _)
 have hlt : g < w.heap.size:=World.block_lt_of_cell? _ _ h0
 obtain ⟨a',c',hcs,hr⟩:=hp
 exact ⟨g,o,cs,ea,fun hn=>hn.elim hg (fun e=>by omega),⟨a',c',hcs,hr.upN hb⟩,hc⟩
structure QdIn (R T : Nat) (L : List XTok) (w W : World) (v u wi y pk : Value) (s : DS) : Prop where
 res : Blk W w.heap.size #[.slice none 0 0,.slice none 0 0,.int .i64 0,.string ⟨#[]⟩,.int .i64 0] 26
 own : Blk W (w.heap.size+1) #[v,u,wi,y,pk] 26
 rt : DdTo R T L s w W
 big : w.heap.size+2≤W.heap.size
section
variable {R T : Nat} {L : List XTok} {w W W' : World} {v u wi y pk : Value} {s s' : DS}
theorem QdIn.call (h : QdIn R T L w W v u wi y pk s) (hR : R < w.heap.size) (hd : DdTo R T L s' W W') : QdIn R T L w W' v u wi y pk s' :=
 ⟨h.res.keep hd.fr (by omega),h.own.keep hd.fr (by omega),h.rt.trans hd,Nat.le_trans h.big hd.fr.size⟩
theorem QdIn.low (h : QdIn R T L w W v u wi y pk s) (hb : Below W.heap.size W W') : QdIn R T L w W' v u wi y pk s :=
 ⟨h.res.low hb,h.own.low hb,h.rt.then hb,Nat.le_trans h.big hb.size⟩
theorem QdIn.grown (h : QdIn R T L w W v u wi y pk s) (hR : R < w.heap.size) {row : Option Nat} (hg : W.grownBy W' row) (hb : ∀ k,row=some k→w.heap.size+2≤k) : QdIn R T L w W' v u wi y pk s:=by
 have hf : TFr (fun k=>row=some k) W W':=TFr.of_grown hg (fun k hk=>hk)
 exact ⟨h.res.keep hf (fun hk=>by have:=hb _ hk;omega),h.own.keep hf (fun hk=>by have:=hb _ hk;omega),h.rt.grown hR hg (fun k hk=>by have:=hb k hk;omega),Nat.le_trans h.big hf.size⟩
theorem QdIn.set0 (h : QdIn R T L w W v u wi y pk s) (hR : R < w.heap.size) (x : Value) : QdIn R T L w (W.setCell ⟨w.heap.size+1,0,none⟩ x) x u wi y pk s :=
 ⟨h.res.at (by omega) 0 x,h.own.set 0 x rfl,h.rt.set hR (by omega) 0 x,by simpa using h.big⟩
theorem QdIn.set1 (h : QdIn R T L w W v u wi y pk s) (hR : R < w.heap.size) (x : Value) : QdIn R T L w (W.setCell ⟨w.heap.size+1,1,none⟩ x) v x wi y pk s :=
 ⟨h.res.at (by omega) 1 x,h.own.set 1 x rfl,h.rt.set hR (by omega) 1 x,by simpa using h.big⟩
theorem QdIn.set2 (h : QdIn R T L w W v u wi y pk s) (hR : R < w.heap.size) (x : Value) : QdIn R T L w (W.setCell ⟨w.heap.size+1,2,none⟩ x) v u x y pk s :=
 ⟨h.res.at (by omega) 2 x,h.own.set 2 x rfl,h.rt.set hR (by omega) 2 x,by simpa using h.big⟩
theorem QdIn.set3 (h : QdIn R T L w W v u wi y pk s) (hR : R < w.heap.size) (x : Value) : QdIn R T L w (W.setCell ⟨w.heap.size+1,3,none⟩ x) v u wi x pk s :=
 ⟨h.res.at (by omega) 3 x,h.own.set 3 x rfl,h.rt.set hR (by omega) 3 x,by simpa using h.big⟩
theorem QdIn.set4 (h : QdIn R T L w W v u wi y pk s) (hR : R < w.heap.size) (x : Value) : QdIn R T L w (W.setCell ⟨w.heap.size+1,4,none⟩ x) v u wi y x s :=
 ⟨h.res.at (by omega) 4 x,h.own.set 4 x rfl,h.rt.set hR (by omega) 4 x,by simpa using h.big⟩
end
def DqTo (R T : Nat) (L : List XTok) (p : PQu × DS) (w : World) (e : Ending) (w' : World) : Prop:=∃ a q c b r d,e=.returned (.agg #[.slice a q c,.slice b r d,.int .i64 p.1.within,.string (strB p.1.by_),.int .i64 p.1.pick]) ∧
 RowK itemD (· < w.heap.size) w' (.slice a q c) p.1.its∧RowK predD (· < w.heap.size) w' (.slice b r d) p.1.prs∧DdTo R T L p.2 w w'
theorem zgi {α : Type} (D : RowD α) (w : World) (B : Nat) (t : TypeId) : OwnP D w B t (.slice none 0 0) []:=⟨[],rfl,⟨by simp,.inl ⟨rfl,rfl⟩⟩,fun c hc=>by simp at hc,fun j x hj=>by simp at hj⟩
theorem zeY {w : World} {R T : Nat} {L : List XTok} {s : DS} {n : Nat} (h : DdR w R T L s) (hok : s.deep≤6) (hn : s.l.length < n) : Calls Tryz.prog 82 #[.pointer (some ⟨R,0,none⟩)] w (DqTo R T L (dQuery n s) w):=by
 have hR:=h.lt
 have h5 : s.l.length≤500:=by
  obtain ⟨a,c,h⟩:=h
  have:=h.le
  have:=h.len
  omega
 obtain ⟨s0,hs0⟩ : ∃ z,dMust s 1 wSeq=z:=⟨_,rfl⟩
 obtain ⟨⟨l1,s1⟩,h1⟩ : ∃ z,dRow1 wThen (dItem n) n s0=z:=⟨_,rfl⟩
 obtain ⟨⟨l2,s2⟩,h2⟩ : ∃ z,(if dIs s1 1 wWhere then dRow1 wAnd (dPred n) n (dSkip s1) else ([],s1))=z:=⟨_,rfl⟩
 obtain ⟨⟨x3,s3⟩,h3⟩ : ∃ z,dNum (dMust s2 1 wWithin)=z:=⟨_,rfl⟩
 obtain ⟨⟨x4,s4⟩,h4⟩ : ∃ z,(if dIs s3 1 wBy then dName (dSkip s3) else ([],s3))=z:=⟨_,rfl⟩
 obtain ⟨⟨x5,s5⟩,h5p⟩ : ∃ z,(if dIs s4 1 wPick then dChoose (dSkip s4) 1 dPicks else (1,s4))=z:=⟨_,rfl⟩
 have hz : dQuery n s=(⟨l1,l2,x3,x4,(x5 : Int)⟩,if s5.l=[] then s5 else dFail s5):=by
  unfold dQuery
  dsimp only
  rw [hs0,h1]
  dsimp only
  rw [h2]
  dsimp only
  rw [h3]
  dsimp only
  rw [h4]
  dsimp only
  rw [h5p]
 rw [hz]
 obtain ⟨s6,h6⟩ : ∃ z,(if s5.l=[] then s5 else dFail s5)=z:=⟨_,rfl⟩
 rw [h6]
 have H6:=hid h6
 have hle0 : s0.l.length≤s.l.length:=by rw [← hs0];exact zbk _ _
 have hdp0 : s0.deep=s.deep:=by rw [← hs0];exact zaH _ _
 have H2:=hid h2
 have H3:=hid h3
 have H4:=hid h4
 have H5:=hid h5p
 have HL0:=hid (show dRow wThen (dItem n) n ([]++[(dItem n s0).1]) (dItem n s0).2=(l1,s1)∧(dItem n s0).2.l.length≤n∧([] : List PIt).length+s0.l.length≤500 from ⟨h1,Nat.le_trans (zdW n s0) (by omega),by simp;omega⟩)
 have HOK0:=hid (show s0.deep≤6∧s0.l.length < n from ⟨by omega,by omega⟩)
 have hb1:=(Below.refl w.heap.size w).alloc (Nat.le_refl _) (.cells #[.slice none 0 0,.slice none 0 0,.int .i64 0,.string ⟨#[]⟩,.int .i64 0] 26)
 have hb2:=hb1.alloc hb1.size (.cells #[.slice none 0 0,.slice none 0 0,.int .i64 0,.string ⟨#[]⟩,.int .i64 1] 26)
 have P2:=(Blk.new w #[.slice none 0 0,.slice none 0 0,.int .i64 0,.string ⟨#[]⟩,.int .i64 0] 26).low ((Below.refl _ _).alloc (Nat.le_refl _) (.cells #[.slice none 0 0,.slice none 0 0,.int .i64 0,.string ⟨#[]⟩,.int .i64 1] 26))
 have P3:=Blk.new (w.alloc (.cells #[.slice none 0 0,.slice none 0 0,.int .i64 0,.string ⟨#[]⟩,.int .i64 0] 26)) #[.slice none 0 0,.slice none 0 0,.int .i64 0,.string ⟨#[]⟩,.int .i64 1] 26
 rw [show (w.alloc (.cells #[.slice none 0 0,.slice none 0 0,.int .i64 0,.string ⟨#[]⟩,.int .i64 0] 26)).heap.size=w.heap.size+1 by simp] at P3
 have HI : Hid (QdIn R T L w ((w.alloc (.cells #[.slice none 0 0,.slice none 0 0,.int .i64 0,.string ⟨#[]⟩,.int .i64 0] 26)).alloc (.cells #[.slice none 0 0,.slice none 0 0,.int .i64 0,.string ⟨#[]⟩,.int .i64 1] 26)) (.slice none 0 0) (.slice none 0 0) (.int .i64 0) (.string ⟨#[]⟩) (.int .i64 1) s):=hid ⟨P2,P3,DdTo.of_below h hb2,by simp⟩
 have HS0:=hid hs0
 clear h h5 hs0 h1 h2 h3 h4 h5p h6 hz hle0 hdp0 hb1 hb2 P2 P3 hn hok
 go_enter Tryz.func82,Tryz.ntmps82
 have HC:=hid (zck HI.out.rt.rd [115,101,113])
 rw [show dMust s 1 [115,101,113]=s0 from HS0.out] at HC
 have HC2 : Hid (Calls Tryz.prog 139 #[.pointer (some ⟨R,0,none⟩),.int .i64 1,.string ⟨#[115,101,113]⟩] ((w.alloc (.cells #[.slice none 0 0,.slice none 0 0,.int .i64 0,.string ⟨#[]⟩,.int .i64 0] 26)).alloc (.cells #[.slice none 0 0,.slice none 0 0,.int .i64 0,.string ⟨#[]⟩,.int .i64 1] 26)) fun e w'=>e=.returned (.tuple #[])∧DdTo R T L s0 ((w.alloc (.cells #[.slice none 0 0,.slice none 0 0,.int .i64 0,.string ⟨#[]⟩,.int .i64 0] 26)).alloc (.cells #[.slice none 0 0,.slice none 0 0,.int .i64 0,.string ⟨#[]⟩,.int .i64 1] 26)) w'):=HC.out
 clear HC
 go_wp2_with fail
 with_reducible refine HC2.out.mono ?_
 rintro e w3 ⟨rfl,hd⟩
 replace HI:=hid (HI.out.call hR hd)
 clear hd HC2
 go_wp2
 go_loopw [4,5] (fun on _ wr=>∃ (b : Bool) (v : Value) (l : List PIt) (s : DS) (k : Nat),on=.bool b∧Hid (QdIn R T L w wr v (.slice none 0 0) (.int .i64 0) (.string ⟨#[]⟩) (.int .i64 1) s)∧Hid (OwnP itemD wr (w.heap.size+2) 44 v l)∧Hid (s.deep≤6∧s.l.length < n)∧Hid (b=true→dRow wThen (dItem n) k (l++[(dItem n s).1]) (dItem n s).2=(l1,s1)∧(dItem n s).2.l.length≤k∧l.length+s.l.length≤500)∧Hid (b=false→(l,s)=(l1,s1))) (fun on _ wr=>2*leftD R wr+onN on)
 case atStart=>exact ⟨true,.slice none 0 0,[],s0,n,rfl,HI,hid (zgi _ _ _ _),HOK0,hid (fun _=>HL0.out),hid (fun h=>by cases h)⟩
 case round =>
  clear HI HL0 HOK0
  obtain ⟨b,v,l,s,k,rfl,HI,HO,HK,HT,HE⟩:=hrel
  cases b with
  | false =>
    have he:=HE.out rfl
    injection he with e1 e2
    have e1:=e1.symm
    have e2:=e2.symm
    subst e1 e2
    clear HE HT
    obtain ⟨ia,ic,rfl⟩:=HO.out.slice
    have HRI0:=HO.out.row
    obtain ⟨iq,hiq⟩ : ∃ q,l1.length=q:=⟨_,rfl⟩
    rw [hiq] at HI HRI0
    obtain ⟨B2,hB2⟩ : ∃ B2,wr.heap.size=B2:=⟨_,rfl⟩
    have HRI:=hid (HRI0.upI (B:=B2) (by omega))
    have HB2:=hid (show w.heap.size+2≤B2∧B2≤wr.heap.size from ⟨by have:=HI.out.big;omega,by omega⟩)
    clear HRI0 HO hiq hB2
    obtain ⟨b0,hb0⟩ : ∃ z,dIs s1 1 wWhere=z:=⟨_,rfl⟩
    obtain ⟨s9,hs9⟩ : ∃ z,dTake s1 1 wWhere=z:=⟨_,rfl⟩
    have HT0 : Hid (b0=true→dRow wAnd (dPred n) n ([]++[(dPred n s9).1]) (dPred n s9).2=(l2,s2)∧(dPred n s9).2.l.length≤n∧([] : List PPr).length+s9.l.length≤500):=hid (fun hb=>by
     have h2:=H2.out
     rw [hb0,if_pos hb] at h2
     have h9 : s9=dSkip s1:=by rw [← hs9];exact zah (hb0.trans hb)
     rw [h9]
     refine ⟨h2,Nat.le_trans (zdX n _) (Nat.le_trans zas (Nat.le_of_lt HK.out.2)),?_⟩
     obtain ⟨a,c,hd⟩:=HI.out.rt.rd
     have h5:=hd.le
     have h6:=hd.len
     have h7:=zas (s:=s1)
     rw [List.length_nil]
     omega)
    have HE0 : Hid (b0=false→(([] : List PPr),s9)=(l2,s2)):=hid (fun hb=>by
     have h2:=H2.out
     rw [hb0,if_neg (by rw [hb];simp)] at h2
     rw [← hs9,zai (hb0.trans hb)]
     exact h2)
    have HK0:=hid (show s9.deep≤6∧s9.l.length < n from ⟨by rw [← hs9,zdx];exact HK.out.1,by rw [← hs9];exact Nat.lt_of_le_of_lt (zdZ _ _) HK.out.2⟩)
    have HC:=hid (zaf HI.out.rt.rd wWhere)
    rw [hb0,hs9] at HC
    have HC2 : Hid (Calls Tryz.prog 141 #[.pointer (some ⟨R,0,none⟩),.int .i64 1,.string ⟨#[119,104,101,114,101]⟩] wr fun e w'=>e=.returned (.bool b0)∧DdTo R T L s9 wr w'):=HC.out
    clear HC hb0 hs9 H2 HK
    go_wp2_with fail
    with_reducible refine HC2.out.mono ?_
    rintro e w4 ⟨rfl,hd⟩
    replace HI:=hid (HI.out.call hR hd)
    replace HRI:=hid (HRI.out.keepR hd.fr (.inl (by omega)))
    replace HB2:=hid (And.intro HB2.out.1 (Nat.le_trans HB2.out.2 hd.fr.size))
    clear hd HC2
    go_wp2
    go_loopw [6,7] (fun on _ wr=>∃ (b : Bool) (v : Value) (l : List PPr) (s : DS) (k : Nat),on=.bool b∧Hid (QdIn R T L w wr (.slice ia iq ic) v (.int .i64 0) (.string ⟨#[]⟩) (.int .i64 1) s)∧Hid (OwnP predD wr B2 91 v l)∧Hid (s.deep≤6∧s.l.length < n)∧Hid (RowK itemD (fun g=>g < w.heap.size+2∨B2≤g) wr (.slice ia iq ic) l1)∧Hid (w.heap.size+2≤B2∧B2≤wr.heap.size)∧Hid (b=true→dRow wAnd (dPred n) k (l++[(dPred n s).1]) (dPred n s).2=(l2,s2)∧(dPred n s).2.l.length≤k∧l.length+s.l.length≤500)∧Hid (b=false→(l,s)=(l2,s2))) (fun on _ wr=>2*leftD R wr+onN on)
    case atStart=>exact ⟨b0,.slice none 0 0,[],s9,n,rfl,HI,hid (zgi _ _ _ _),HK0,HRI,HB2,HT0,HE0⟩
    case round =>
     clear HI HRI HB2 HT0 HE0 HK0
     obtain ⟨b,v,l,s,k,rfl,HI,HO,HK,HRI,HB2,HT,HE⟩:=hrel
     cases b with
     | false =>
       have he:=HE.out rfl
       injection he with e1 e2
       have e1:=e1.symm
       have e2:=e2.symm
       subst e1 e2
       clear HE HT
       obtain ⟨pa,pc,rfl⟩:=HO.out.slice
       have HRP0:=HO.out.row
       obtain ⟨pq,hpq⟩ : ∃ q,l2.length=q:=⟨_,rfl⟩
       rw [hpq] at HI HRP0
       have HRP:=hid HRP0
       clear HRP0 HO hpq HK
       have HC:=hid (zck HI.out.rt.rd [119,105,116,104,105,110])
       have HC2 : Hid (Calls Tryz.prog 139 #[.pointer (some ⟨R,0,none⟩),.int .i64 1,.string ⟨#[119,105,116,104,105,110]⟩] wr fun e w'=>e=.returned (.tuple #[])∧DdTo R T L (dMust s2 1 wWithin) wr w'):=HC.out
       clear HC
       go_wp2_with fail
       with_reducible refine HC2.out.mono ?_
       rintro e w4 ⟨rfl,hd⟩
       replace HI:=hid (HI.out.call hR hd)
       replace HRI:=hid (HRI.out.keepR hd.fr (.inl (by omega)))
       replace HRP:=hid (HRP.out.keepR hd.fr (by have:=HB2.out.1;omega))
       clear hd HC2
       have HC:=hid (zb4 HI.out.rt.rd)
       rw [H3.out] at HC
       have HC2 : Hid (Calls Tryz.prog 143 #[.pointer (some ⟨R,0,none⟩)] w4 fun e w'=>e=.returned (.int .i64 x3)∧DdTo R T L s3 w4 w'):=HC.out
       clear HC H3
       go_wp2_with fail
       with_reducible refine HC2.out.mono ?_
       rintro e w5 ⟨rfl,hd⟩
       replace HI:=hid (HI.out.call hR hd)
       replace HRI:=hid (HRI.out.keepR hd.fr (.inl (by omega)))
       replace HRP:=hid (HRP.out.keepR hd.fr (by have:=HB2.out.1;omega))
       clear hd HC2
       have c2:=zab HI.out.own (k:=2) rfl
       have fc2:=zac HI.out.own (k:=2)
       replace HI:=hid (HI.out.set2 hR (.int .i64 x3))
       replace HRI:=hid (HRI.out.keepR (TFr.at (w.heap.size+1) 2 (.int .i64 x3)) (.inl (by omega)))
       replace HRP:=hid (HRP.out.keepR (TFr.at (w.heap.size+1) 2 (.int .i64 x3)) (by have:=HB2.out.1;omega))
       cases hp : dIs s3 1 wBy with
       | false =>
         have h4:=H4.out
         rw [hp,if_neg (by simp)] at h4
         injection h4 with f1 f2
         subst f1 f2
         have HP0:=hid hp
         clear hp H4
         have HC:=hid (zaf HI.out.rt.rd [98,121])
         rw [show dIs s3 1 [98,121]=false from HP0.out,show dTake s3 1 [98,121]=s3 from zai HP0.out] at HC
         have HC2 : Hid (Calls Tryz.prog 141 #[.pointer (some ⟨R,0,none⟩),.int .i64 1,.string ⟨#[98,121]⟩] (w5.setCell ⟨w.heap.size+1,2,none⟩ (.int .i64 x3)) fun e w'=>e=.returned (.bool false)∧DdTo R T L s3 (w5.setCell ⟨w.heap.size+1,2,none⟩ (.int .i64 x3)) w'):=HC.out
         clear HC
         go_wp2_with fail
         with_reducible refine HC2.out.mono ?_
         rintro e w6 ⟨rfl,hd⟩
         replace HI:=hid (HI.out.call hR hd)
         replace HRI:=hid (HRI.out.keepR hd.fr (.inl (by omega)))
         replace HRP:=hid (HRP.out.keepR hd.fr (by have:=HB2.out.1;omega))
         clear hd HC2
         clear HP0 c2 fc2
         cases hp : dIs s3 1 wPick with
         | false =>
           have h5:=H5.out
           rw [hp,if_neg (by simp)] at h5
           injection h5 with f1 f2
           subst f1 f2
           have HP0:=hid hp
           clear hp H5
           have HC:=hid (zaf HI.out.rt.rd [112,105,99,107])
           rw [show dIs s3 1 [112,105,99,107]=false from HP0.out,show dTake s3 1 [112,105,99,107]=s3 from zai HP0.out] at HC
           have HC2 : Hid (Calls Tryz.prog 141 #[.pointer (some ⟨R,0,none⟩),.int .i64 1,.string ⟨#[112,105,99,107]⟩] w6 fun e w'=>e=.returned (.bool false)∧DdTo R T L s3 w6 w'):=HC.out
           clear HC
           go_wp2_with fail
           with_reducible refine HC2.out.mono ?_
           rintro e w12 ⟨rfl,hd⟩
           replace HI:=hid (HI.out.call hR hd)
           replace HRI:=hid (HRI.out.keepR hd.fr (.inl (by omega)))
           replace HRP:=hid (HRP.out.keepR hd.fr (by have:=HB2.out.1;omega))
           clear hd HC2
           clear HP0
           obtain ⟨ta,tc,hdd⟩:=HI.out.rt.rd
           have t0:=hdd.c0
           have t1:=hdd.c1
           have tle:=hdd.le
           obtain ⟨m,hm⟩ : ∃ m,L.length=m:=⟨_,rfl⟩
           rw [hm] at t0 t1 tle
           by_cases he : s3.l=[]
           ·have h6:=H6.out
            rw [if_pos he] at h6
            subst h6
            rw [he,List.length_nil,Nat.sub_zero] at t1
            clear hdd tle hm he H6
            go_wp2_with fail
            go_quiet (fail)
            have hb1 : Below (w12).heap.size (w12) ((w12).drewN nq):=below_drewN (Below.refl _ _) _
            generalize (w12).drewN nq=w20 at hb1 ⊢
            replace HI:=hid (HI.out.low hb1)
            replace HRI:=hid (HRI.out.keep (TFr.of_below hb1))
            replace HRP:=hid (HRP.out.keep (TFr.of_below hb1))
            clear hb1 t0 t1
            obtain ⟨e0,e1,e2,e3,e4⟩:=c5w HI.out.own
            obtain ⟨r0,r1,r2,r3,r4⟩:=c5w HI.out.res
            obtain ⟨fr0,fr1,fr2,fr3,fr4⟩:=f5w HI.out.res
            go_wp2
            refine bodyPost_ret (v:=.agg #[.slice ia iq ic,.slice pa pq pc,.int .i64 x3,.string ⟨#[]⟩,.int .i64 (1 : Nat)]) (by simp [results,Tryz.results82,go_sem,r0,r1,r2,r3,r4]) rfl ⟨ia,iq,ic,pa,pq,pc,rfl,?_,?_,((((HI.out.rt.set hR (Nat.le_refl _) 0 _).set hR (Nat.le_refl _) 1 _).set hR (Nat.le_refl _) 2 _).set hR (Nat.le_refl _) 3 _).set hR (Nat.le_refl _) 4 _⟩
            ·exact kR5 HRI.out (.inl (by omega)) (fun g hg=>.inl (by omega))
            ·exact kR5 HRP.out (by have:=HB2.out.1;omega) (fun g hg=>by have:=HB2.out.1;omega)
           ·have h6:=H6.out
            rw [if_neg he] at h6
            subst h6
            have hlt : m - s3.l.length < m:=by
             have:=List.length_pos_iff.2 he
             omega
            obtain ⟨p,hp⟩ : ∃ p,m - s3.l.length=p:=⟨_,rfl⟩
            rw [hp] at t1 hlt
            clear hdd tle hm he hp H6
            go_wp2_with fail
            go_quiet (fail)
            have hb1 : Below (w12).heap.size (w12) ((w12).drewN nq):=below_drewN (Below.refl _ _) _
            generalize (w12).drewN nq=w20 at hb1 ⊢
            replace HI:=hid (HI.out.low hb1)
            have HF:=hid (zam HI.out.rt.rd)
            replace HRI:=hid (HRI.out.keep (TFr.of_below hb1))
            replace HRP:=hid (HRP.out.keep (TFr.of_below hb1))
            clear hb1 t0 t1
            go_wp2_with fail
            with_reducible refine HF.out.mono ?_
            rintro e w21 ⟨rfl,hd⟩
            replace HI:=hid (HI.out.call hR hd)
            replace HRI:=hid (HRI.out.keepR hd.fr (.inl (by omega)))
            replace HRP:=hid (HRP.out.keepR hd.fr (by have:=HB2.out.1;omega))
            clear hd HF hlt
            obtain ⟨e0,e1,e2,e3,e4⟩:=c5w HI.out.own
            obtain ⟨r0,r1,r2,r3,r4⟩:=c5w HI.out.res
            obtain ⟨fr0,fr1,fr2,fr3,fr4⟩:=f5w HI.out.res
            go_wp2
            refine bodyPost_ret (v:=.agg #[.slice ia iq ic,.slice pa pq pc,.int .i64 x3,.string ⟨#[]⟩,.int .i64 (1 : Nat)]) (by simp [results,Tryz.results82,go_sem,r0,r1,r2,r3,r4]) rfl ⟨ia,iq,ic,pa,pq,pc,rfl,?_,?_,((((HI.out.rt.set hR (Nat.le_refl _) 0 _).set hR (Nat.le_refl _) 1 _).set hR (Nat.le_refl _) 2 _).set hR (Nat.le_refl _) 3 _).set hR (Nat.le_refl _) 4 _⟩
            ·exact kR5 HRI.out (.inl (by omega)) (fun g hg=>.inl (by omega))
            ·exact kR5 HRP.out (by have:=HB2.out.1;omega) (fun g hg=>by have:=HB2.out.1;omega)
         | true =>
           have h5:=H5.out
           rw [hp,if_pos rfl] at h5
           unfold dChoose at h5
           obtain ⟨⟨cm,sm⟩,hcm⟩ : ∃ z,dAmong (dSkip s3) 1 1 dPicks=z:=⟨_,rfl⟩
           rw [hcm] at h5
           dsimp only at h5
           have HX5:=hid h5
           have HC0:=hid hcm
           have HP0:=hid hp
           clear hp H5 h5 hcm
           have HC:=hid (zaf HI.out.rt.rd [112,105,99,107])
           rw [show dIs s3 1 [112,105,99,107]=true from HP0.out,show dTake s3 1 [112,105,99,107]=(dSkip s3) from zah HP0.out] at HC
           have HC2 : Hid (Calls Tryz.prog 141 #[.pointer (some ⟨R,0,none⟩),.int .i64 1,.string ⟨#[112,105,99,107]⟩] w6 fun e w'=>e=.returned (.bool true)∧DdTo R T L (dSkip s3) w6 w'):=HC.out
           clear HC
           go_wp2_with fail
           with_reducible refine HC2.out.mono ?_
           rintro e w12 ⟨rfl,hd⟩
           replace HI:=hid (HI.out.call hR hd)
           replace HRI:=hid (HRI.out.keepR hd.fr (.inl (by omega)))
           replace HRP:=hid (HRP.out.keepR hd.fr (by have:=HB2.out.1;omega))
           clear hd HC2
           clear HP0
           have c4:=zab HI.out.own (k:=4) rfl
           have fc4:=zac HI.out.own (k:=4)
           replace HI:=hid (HI.out.set4 hR (.int .i64 0))
           replace HRI:=hid (HRI.out.keepR (TFr.at (w.heap.size+1) 4 (.int .i64 0)) (.inl (by omega)))
           replace HRP:=hid (HRP.out.keepR (TFr.at (w.heap.size+1) 4 (.int .i64 0)) (by have:=HB2.out.1;omega))
           go_wp2
           clear c4 fc4
           go_loopw [8] (fun i wr=>∃ (j c : Int) (s' : DS),i=.int .i64 j∧Hid ((c=0∧s'=dSkip s3∧((j=1∧dAmong (dSkip s3) 1 1 [[97,110,121],[110,101,120,116],[115,116,114,105,99,116]]=(cm,sm))∨(j=2∧dAmong (dSkip s3) 1 2 [[110,101,120,116],[115,116,114,105,99,116]]=(cm,sm))∨(j=3∧dAmong (dSkip s3) 1 3 [[115,116,114,105,99,116]]=(cm,sm))∨(j=4∧dAmong (dSkip s3) 1 4 []=(cm,sm))))∨(1≤c∧c=(cm : Int)∧s'=sm∧1≤j∧j≤4))∧Hid (QdIn R T L w wr (.slice ia iq ic) (.slice pa pq pc) (.int .i64 x3) (.string ⟨#[]⟩) (.int .i64 c) s')∧Hid (RowK itemD (fun g=>g < w.heap.size+2∨B2≤g) wr (.slice ia iq ic) l1)∧Hid (RowK predD (· < B2) wr (.slice pa pq pc) l2)) (fun i _=>5 - (RowKit.intOf i).toNat)
           case atStart=>exact ⟨1,0,dSkip s3,rfl,hid (.inl ⟨rfl,rfl,.inl ⟨rfl,HC0.out⟩⟩),HI,HRI,HRP⟩
           case round =>
            clear HI HRI HRP HC0
            obtain ⟨j,c,s',rfl,HJ,HI,HRI,HRP⟩:=hrel
            rcases HJ.out with ⟨rfl,hs',hj⟩|⟨hc1,hcc,rfl,hj⟩
            ·rcases hj with ⟨rfl,hz⟩|⟨rfl,hz⟩|⟨rfl,hz⟩|⟨rfl,hz⟩
             ·have hw : IntKind.i64.wrap (1+1)=2:=IntWalk.i64_in _ (by omega)
              have c4:=zab HI.out.own (k:=4) rfl
              go_wp2_with fail
              with_reducible refine (rpk1 wr).mono ?_
              rintro e w14 ⟨rfl,hb⟩
              replace HI:=hid (HI.out.low hb)
              replace HRI:=hid (HRI.out.keep (TFr.of_below hb))
              replace HRP:=hid (HRP.out.keep (TFr.of_below hb))
              clear hb c4
              have HC:=hid (zaf HI.out.rt.rd [97,110,121])
              cases hp : dIs s' 1 [97,110,121] with
              | true =>
                rw [← hs',dAmong,if_pos hp] at hz
                injection hz with e1 e2
                rw [hp,zah hp] at HC
                have HC2 : Hid (Calls Tryz.prog 141 #[.pointer (some ⟨R,0,none⟩),.int .i64 1,.string ⟨#[97,110,121]⟩] w14 fun e w'=>e=.returned (.bool true)∧DdTo R T L (dSkip s') w14 w'):=HC.out
                have HE:=hid (And.intro e1 e2)
                clear hp HC e1 e2 HJ hs'
                go_wp2_with fail
                with_reducible refine HC2.out.mono ?_
                rintro e w15 ⟨rfl,hd⟩
                replace HI:=hid (HI.out.call hR hd)
                replace HRI:=hid (HRI.out.keepR hd.fr (.inl (by omega)))
                replace HRP:=hid (HRP.out.keepR hd.fr (by have:=HB2.out.1;omega))
                clear hd HC2
                have c4:=zab HI.out.own (k:=4) rfl
                have fc4:=zac HI.out.own (k:=4)
                replace HI:=hid (HI.out.set4 hR (.int .i64 1))
                replace HRI:=hid (HRI.out.keepR (TFr.at (w.heap.size+1) 4 (.int .i64 1)) (.inl (by omega)))
                replace HRP:=hid (HRP.out.keepR (TFr.at (w.heap.size+1) 4 (.int .i64 1)) (by have:=HB2.out.1;omega))
                go_wp2
                refine ⟨⟨2,1,dSkip s',rfl,hid (.inr ⟨by omega,by rw [← HE.out.1];rfl,HE.out.2,by omega,by omega⟩),HI,HRI,HRP⟩,by simp [RowKit.intOf]⟩
              | false =>
                rw [← hs',dAmong,if_neg (by rw [hp];simp)] at hz
                rw [hs'] at hz
                have HZ:=hid hz
                have HSP:=hid hs'
                rw [hp,zai hp] at HC
                have HC2 : Hid (Calls Tryz.prog 141 #[.pointer (some ⟨R,0,none⟩),.int .i64 1,.string ⟨#[97,110,121]⟩] w14 fun e w'=>e=.returned (.bool false)∧DdTo R T L s' w14 w'):=HC.out
                clear hp HC hz HJ hs'
                go_wp2_with fail
                with_reducible refine HC2.out.mono ?_
                rintro e w15 ⟨rfl,hd⟩
                replace HI:=hid (HI.out.call hR hd)
                replace HRI:=hid (HRI.out.keepR hd.fr (.inl (by omega)))
                replace HRP:=hid (HRP.out.keepR hd.fr (by have:=HB2.out.1;omega))
                clear hd HC2
                go_wp2
                refine ⟨⟨2,0,s',rfl,hid (.inl ⟨rfl,HSP.out,.inr (.inl ⟨rfl,HZ.out⟩)⟩),HI,HRI,HRP⟩,by simp [RowKit.intOf]⟩
             ·have hw : IntKind.i64.wrap (2+1)=3:=IntWalk.i64_in _ (by omega)
              have c4:=zab HI.out.own (k:=4) rfl
              go_wp2_with fail
              with_reducible refine (rpk2 wr).mono ?_
              rintro e w14 ⟨rfl,hb⟩
              replace HI:=hid (HI.out.low hb)
              replace HRI:=hid (HRI.out.keep (TFr.of_below hb))
              replace HRP:=hid (HRP.out.keep (TFr.of_below hb))
              clear hb c4
              have HC:=hid (zaf HI.out.rt.rd [110,101,120,116])
              cases hp : dIs s' 1 [110,101,120,116] with
              | true =>
                rw [← hs',dAmong,if_pos hp] at hz
                injection hz with e1 e2
                rw [hp,zah hp] at HC
                have HC2 : Hid (Calls Tryz.prog 141 #[.pointer (some ⟨R,0,none⟩),.int .i64 1,.string ⟨#[110,101,120,116]⟩] w14 fun e w'=>e=.returned (.bool true)∧DdTo R T L (dSkip s') w14 w'):=HC.out
                have HE:=hid (And.intro e1 e2)
                clear hp HC e1 e2 HJ hs'
                go_wp2_with fail
                with_reducible refine HC2.out.mono ?_
                rintro e w15 ⟨rfl,hd⟩
                replace HI:=hid (HI.out.call hR hd)
                replace HRI:=hid (HRI.out.keepR hd.fr (.inl (by omega)))
                replace HRP:=hid (HRP.out.keepR hd.fr (by have:=HB2.out.1;omega))
                clear hd HC2
                have c4:=zab HI.out.own (k:=4) rfl
                have fc4:=zac HI.out.own (k:=4)
                replace HI:=hid (HI.out.set4 hR (.int .i64 2))
                replace HRI:=hid (HRI.out.keepR (TFr.at (w.heap.size+1) 4 (.int .i64 2)) (.inl (by omega)))
                replace HRP:=hid (HRP.out.keepR (TFr.at (w.heap.size+1) 4 (.int .i64 2)) (by have:=HB2.out.1;omega))
                go_wp2
                refine ⟨⟨3,2,dSkip s',rfl,hid (.inr ⟨by omega,by rw [← HE.out.1];rfl,HE.out.2,by omega,by omega⟩),HI,HRI,HRP⟩,by simp [RowKit.intOf]⟩
              | false =>
                rw [← hs',dAmong,if_neg (by rw [hp];simp)] at hz
                rw [hs'] at hz
                have HZ:=hid hz
                have HSP:=hid hs'
                rw [hp,zai hp] at HC
                have HC2 : Hid (Calls Tryz.prog 141 #[.pointer (some ⟨R,0,none⟩),.int .i64 1,.string ⟨#[110,101,120,116]⟩] w14 fun e w'=>e=.returned (.bool false)∧DdTo R T L s' w14 w'):=HC.out
                clear hp HC hz HJ hs'
                go_wp2_with fail
                with_reducible refine HC2.out.mono ?_
                rintro e w15 ⟨rfl,hd⟩
                replace HI:=hid (HI.out.call hR hd)
                replace HRI:=hid (HRI.out.keepR hd.fr (.inl (by omega)))
                replace HRP:=hid (HRP.out.keepR hd.fr (by have:=HB2.out.1;omega))
                clear hd HC2
                go_wp2
                refine ⟨⟨3,0,s',rfl,hid (.inl ⟨rfl,HSP.out,.inr (.inr (.inl ⟨rfl,HZ.out⟩))⟩),HI,HRI,HRP⟩,by simp [RowKit.intOf]⟩
             ·have hw : IntKind.i64.wrap (3+1)=4:=IntWalk.i64_in _ (by omega)
              have c4:=zab HI.out.own (k:=4) rfl
              go_wp2_with fail
              with_reducible refine (rpk3 wr).mono ?_
              rintro e w14 ⟨rfl,hb⟩
              replace HI:=hid (HI.out.low hb)
              replace HRI:=hid (HRI.out.keep (TFr.of_below hb))
              replace HRP:=hid (HRP.out.keep (TFr.of_below hb))
              clear hb c4
              have HC:=hid (zaf HI.out.rt.rd [115,116,114,105,99,116])
              cases hp : dIs s' 1 [115,116,114,105,99,116] with
              | true =>
                rw [← hs',dAmong,if_pos hp] at hz
                injection hz with e1 e2
                rw [hp,zah hp] at HC
                have HC2 : Hid (Calls Tryz.prog 141 #[.pointer (some ⟨R,0,none⟩),.int .i64 1,.string ⟨#[115,116,114,105,99,116]⟩] w14 fun e w'=>e=.returned (.bool true)∧DdTo R T L (dSkip s') w14 w'):=HC.out
                have HE:=hid (And.intro e1 e2)
                clear hp HC e1 e2 HJ hs'
                go_wp2_with fail
                with_reducible refine HC2.out.mono ?_
                rintro e w15 ⟨rfl,hd⟩
                replace HI:=hid (HI.out.call hR hd)
                replace HRI:=hid (HRI.out.keepR hd.fr (.inl (by omega)))
                replace HRP:=hid (HRP.out.keepR hd.fr (by have:=HB2.out.1;omega))
                clear hd HC2
                have c4:=zab HI.out.own (k:=4) rfl
                have fc4:=zac HI.out.own (k:=4)
                replace HI:=hid (HI.out.set4 hR (.int .i64 3))
                replace HRI:=hid (HRI.out.keepR (TFr.at (w.heap.size+1) 4 (.int .i64 3)) (.inl (by omega)))
                replace HRP:=hid (HRP.out.keepR (TFr.at (w.heap.size+1) 4 (.int .i64 3)) (by have:=HB2.out.1;omega))
                go_wp2
                refine ⟨⟨4,3,dSkip s',rfl,hid (.inr ⟨by omega,by rw [← HE.out.1];rfl,HE.out.2,by omega,by omega⟩),HI,HRI,HRP⟩,by simp [RowKit.intOf]⟩
              | false =>
                rw [← hs',dAmong,if_neg (by rw [hp];simp)] at hz
                rw [hs'] at hz
                have HZ:=hid hz
                have HSP:=hid hs'
                rw [hp,zai hp] at HC
                have HC2 : Hid (Calls Tryz.prog 141 #[.pointer (some ⟨R,0,none⟩),.int .i64 1,.string ⟨#[115,116,114,105,99,116]⟩] w14 fun e w'=>e=.returned (.bool false)∧DdTo R T L s' w14 w'):=HC.out
                clear hp HC hz HJ hs'
                go_wp2_with fail
                with_reducible refine HC2.out.mono ?_
                rintro e w15 ⟨rfl,hd⟩
                replace HI:=hid (HI.out.call hR hd)
                replace HRI:=hid (HRI.out.keepR hd.fr (.inl (by omega)))
                replace HRP:=hid (HRP.out.keepR hd.fr (by have:=HB2.out.1;omega))
                clear hd HC2
                go_wp2
                refine ⟨⟨4,0,s',rfl,hid (.inl ⟨rfl,HSP.out,.inr (.inr (.inr ⟨rfl,HZ.out⟩))⟩),HI,HRI,HRP⟩,by simp [RowKit.intOf]⟩
             ·rw [← hs'] at hz
              injection hz with e1 e2
              have h5:=HX5.out
              rw [← e1] at h5
              rw [← e2,if_pos rfl] at h5
              injection h5 with f1 f2
              subst f1 f2
              clear e1 e2 HJ hs'
              have c4:=zab HI.out.own (k:=4) rfl
              have HF:=hid (zam HI.out.rt.rd)
              obtain ⟨s5,hs5⟩ : ∃ z,dFail s'=z:=⟨_,rfl⟩
              rw [hs5] at HF H6
              clear hs5
              go_wp2_with fail
              with_reducible refine HF.out.mono ?_
              rintro e w15 ⟨rfl,hd⟩
              replace HI:=hid (HI.out.call hR hd)
              replace HRI:=hid (HRI.out.keepR hd.fr (.inl (by omega)))
              replace HRP:=hid (HRP.out.keepR hd.fr (by have:=HB2.out.1;omega))
              clear hd HF c4
              obtain ⟨ta,tc,hdd⟩:=HI.out.rt.rd
              have t0:=hdd.c0
              have t1:=hdd.c1
              have tle:=hdd.le
              obtain ⟨m,hm⟩ : ∃ m,L.length=m:=⟨_,rfl⟩
              rw [hm] at t0 t1 tle
              by_cases he : s5.l=[]
              ·have h6:=H6.out
               rw [if_pos he] at h6
               subst h6
               rw [he,List.length_nil,Nat.sub_zero] at t1
               clear hdd tle hm he H6
               go_wp2_with fail
               go_quiet (fail)
               have hb1 : Below (w15).heap.size (w15) ((w15).drewN nq):=below_drewN (Below.refl _ _) _
               generalize (w15).drewN nq=w20 at hb1 ⊢
               replace HI:=hid (HI.out.low hb1)
               replace HRI:=hid (HRI.out.keep (TFr.of_below hb1))
               replace HRP:=hid (HRP.out.keep (TFr.of_below hb1))
               clear hb1 t0 t1
               obtain ⟨e0,e1,e2,e3,e4⟩:=c5w HI.out.own
               obtain ⟨r0,r1,r2,r3,r4⟩:=c5w HI.out.res
               obtain ⟨fr0,fr1,fr2,fr3,fr4⟩:=f5w HI.out.res
               go_wp2
               refine bodyPost_ret (v:=.agg #[.slice ia iq ic,.slice pa pq pc,.int .i64 x3,.string ⟨#[]⟩,.int .i64 (0 : Nat)]) (by simp [results,Tryz.results82,go_sem,r0,r1,r2,r3,r4]) rfl ⟨ia,iq,ic,pa,pq,pc,rfl,?_,?_,((((HI.out.rt.set hR (Nat.le_refl _) 0 _).set hR (Nat.le_refl _) 1 _).set hR (Nat.le_refl _) 2 _).set hR (Nat.le_refl _) 3 _).set hR (Nat.le_refl _) 4 _⟩
               ·exact kR5 HRI.out (.inl (by omega)) (fun g hg=>.inl (by omega))
               ·exact kR5 HRP.out (by have:=HB2.out.1;omega) (fun g hg=>by have:=HB2.out.1;omega)
              ·have h6:=H6.out
               rw [if_neg he] at h6
               subst h6
               have hlt : m - s5.l.length < m:=by
                have:=List.length_pos_iff.2 he
                omega
               obtain ⟨p,hp⟩ : ∃ p,m - s5.l.length=p:=⟨_,rfl⟩
               rw [hp] at t1 hlt
               clear hdd tle hm he hp H6
               go_wp2_with fail
               go_quiet (fail)
               have hb1 : Below (w15).heap.size (w15) ((w15).drewN nq):=below_drewN (Below.refl _ _) _
               generalize (w15).drewN nq=w20 at hb1 ⊢
               replace HI:=hid (HI.out.low hb1)
               have HF:=hid (zam HI.out.rt.rd)
               replace HRI:=hid (HRI.out.keep (TFr.of_below hb1))
               replace HRP:=hid (HRP.out.keep (TFr.of_below hb1))
               clear hb1 t0 t1
               go_wp2_with fail
               with_reducible refine HF.out.mono ?_
               rintro e w21 ⟨rfl,hd⟩
               replace HI:=hid (HI.out.call hR hd)
               replace HRI:=hid (HRI.out.keepR hd.fr (.inl (by omega)))
               replace HRP:=hid (HRP.out.keepR hd.fr (by have:=HB2.out.1;omega))
               clear hd HF hlt
               obtain ⟨e0,e1,e2,e3,e4⟩:=c5w HI.out.own
               obtain ⟨r0,r1,r2,r3,r4⟩:=c5w HI.out.res
               obtain ⟨fr0,fr1,fr2,fr3,fr4⟩:=f5w HI.out.res
               go_wp2
               refine bodyPost_ret (v:=.agg #[.slice ia iq ic,.slice pa pq pc,.int .i64 x3,.string ⟨#[]⟩,.int .i64 (0 : Nat)]) (by simp [results,Tryz.results82,go_sem,r0,r1,r2,r3,r4]) rfl ⟨ia,iq,ic,pa,pq,pc,rfl,?_,?_,((((HI.out.rt.set hR (Nat.le_refl _) 0 _).set hR (Nat.le_refl _) 1 _).set hR (Nat.le_refl _) 2 _).set hR (Nat.le_refl _) 3 _).set hR (Nat.le_refl _) 4 _⟩
               ·exact kR5 HRI.out (.inl (by omega)) (fun g hg=>.inl (by omega))
               ·exact kR5 HRP.out (by have:=HB2.out.1;omega) (fun g hg=>by have:=HB2.out.1;omega)
            ·have h5:=HX5.out
             rw [if_neg (by omega)] at h5
             injection h5 with f1 f2
             subst f1
             subst f2
             subst hcc
             have htc : ((cm : Int) == 0)=false:=by rw [beq_eq_false_iff_ne];omega
             clear HJ hc1
             by_cases h6 : j≤3
             ·have ht : decide (j≤3)=true:=by rw [decide_eq_true_eq];exact h6
              clear h6 hj
              have c4:=zab HI.out.own (k:=4) rfl
              obtain ⟨ta,tc,hdd⟩:=HI.out.rt.rd
              have t0:=hdd.c0
              have t1:=hdd.c1
              have tle:=hdd.le
              obtain ⟨m,hm⟩ : ∃ m,L.length=m:=⟨_,rfl⟩
              rw [hm] at t0 t1 tle
              by_cases he : s'.l=[]
              ·have h6:=H6.out
               rw [if_pos he] at h6
               subst h6
               rw [he,List.length_nil,Nat.sub_zero] at t1
               clear hdd tle hm he H6
               go_wp2_with fail
               go_quiet (fail)
               clear c4 htc ht
               have hb1 : Below (wr).heap.size (wr) ((wr).drewN nq):=below_drewN (Below.refl _ _) _
               generalize (wr).drewN nq=w20 at hb1 ⊢
               replace HI:=hid (HI.out.low hb1)
               replace HRI:=hid (HRI.out.keep (TFr.of_below hb1))
               replace HRP:=hid (HRP.out.keep (TFr.of_below hb1))
               clear hb1 t0 t1
               obtain ⟨e0,e1,e2,e3,e4⟩:=c5w HI.out.own
               obtain ⟨r0,r1,r2,r3,r4⟩:=c5w HI.out.res
               obtain ⟨fr0,fr1,fr2,fr3,fr4⟩:=f5w HI.out.res
               go_wp2
               refine bodyPost_ret (v:=.agg #[.slice ia iq ic,.slice pa pq pc,.int .i64 x3,.string ⟨#[]⟩,.int .i64 (cm : Nat)]) (by simp [results,Tryz.results82,go_sem,r0,r1,r2,r3,r4]) rfl ⟨ia,iq,ic,pa,pq,pc,rfl,?_,?_,((((HI.out.rt.set hR (Nat.le_refl _) 0 _).set hR (Nat.le_refl _) 1 _).set hR (Nat.le_refl _) 2 _).set hR (Nat.le_refl _) 3 _).set hR (Nat.le_refl _) 4 _⟩
               ·exact kR5 HRI.out (.inl (by omega)) (fun g hg=>.inl (by omega))
               ·exact kR5 HRP.out (by have:=HB2.out.1;omega) (fun g hg=>by have:=HB2.out.1;omega)
              ·have h6:=H6.out
               rw [if_neg he] at h6
               subst h6
               have hlt : m - s'.l.length < m:=by
                have:=List.length_pos_iff.2 he
                omega
               obtain ⟨p,hp⟩ : ∃ p,m - s'.l.length=p:=⟨_,rfl⟩
               rw [hp] at t1 hlt
               clear hdd tle hm he hp H6
               go_wp2_with fail
               go_quiet (fail)
               clear c4 htc ht
               have hb1 : Below (wr).heap.size (wr) ((wr).drewN nq):=below_drewN (Below.refl _ _) _
               generalize (wr).drewN nq=w20 at hb1 ⊢
               replace HI:=hid (HI.out.low hb1)
               have HF:=hid (zam HI.out.rt.rd)
               replace HRI:=hid (HRI.out.keep (TFr.of_below hb1))
               replace HRP:=hid (HRP.out.keep (TFr.of_below hb1))
               clear hb1 t0 t1
               go_wp2_with fail
               with_reducible refine HF.out.mono ?_
               rintro e w21 ⟨rfl,hd⟩
               replace HI:=hid (HI.out.call hR hd)
               replace HRI:=hid (HRI.out.keepR hd.fr (.inl (by omega)))
               replace HRP:=hid (HRP.out.keepR hd.fr (by have:=HB2.out.1;omega))
               clear hd HF hlt
               obtain ⟨e0,e1,e2,e3,e4⟩:=c5w HI.out.own
               obtain ⟨r0,r1,r2,r3,r4⟩:=c5w HI.out.res
               obtain ⟨fr0,fr1,fr2,fr3,fr4⟩:=f5w HI.out.res
               go_wp2
               refine bodyPost_ret (v:=.agg #[.slice ia iq ic,.slice pa pq pc,.int .i64 x3,.string ⟨#[]⟩,.int .i64 (cm : Nat)]) (by simp [results,Tryz.results82,go_sem,r0,r1,r2,r3,r4]) rfl ⟨ia,iq,ic,pa,pq,pc,rfl,?_,?_,((((HI.out.rt.set hR (Nat.le_refl _) 0 _).set hR (Nat.le_refl _) 1 _).set hR (Nat.le_refl _) 2 _).set hR (Nat.le_refl _) 3 _).set hR (Nat.le_refl _) 4 _⟩
               ·exact kR5 HRI.out (.inl (by omega)) (fun g hg=>.inl (by omega))
               ·exact kR5 HRP.out (by have:=HB2.out.1;omega) (fun g hg=>by have:=HB2.out.1;omega)
             ·have ht : decide (j≤3)=false:=by rw [decide_eq_false_iff_not];exact h6
              clear h6 hj
              have c4:=zab HI.out.own (k:=4) rfl
              obtain ⟨ta,tc,hdd⟩:=HI.out.rt.rd
              have t0:=hdd.c0
              have t1:=hdd.c1
              have tle:=hdd.le
              obtain ⟨m,hm⟩ : ∃ m,L.length=m:=⟨_,rfl⟩
              rw [hm] at t0 t1 tle
              by_cases he : s'.l=[]
              ·have h6:=H6.out
               rw [if_pos he] at h6
               subst h6
               rw [he,List.length_nil,Nat.sub_zero] at t1
               clear hdd tle hm he H6
               go_wp2_with fail
               go_quiet (fail)
               clear c4 htc ht
               have hb1 : Below (wr).heap.size (wr) ((wr).drewN nq):=below_drewN (Below.refl _ _) _
               generalize (wr).drewN nq=w20 at hb1 ⊢
               replace HI:=hid (HI.out.low hb1)
               replace HRI:=hid (HRI.out.keep (TFr.of_below hb1))
               replace HRP:=hid (HRP.out.keep (TFr.of_below hb1))
               clear hb1 t0 t1
               obtain ⟨e0,e1,e2,e3,e4⟩:=c5w HI.out.own
               obtain ⟨r0,r1,r2,r3,r4⟩:=c5w HI.out.res
               obtain ⟨fr0,fr1,fr2,fr3,fr4⟩:=f5w HI.out.res
               go_wp2
               refine bodyPost_ret (v:=.agg #[.slice ia iq ic,.slice pa pq pc,.int .i64 x3,.string ⟨#[]⟩,.int .i64 (cm : Nat)]) (by simp [results,Tryz.results82,go_sem,r0,r1,r2,r3,r4]) rfl ⟨ia,iq,ic,pa,pq,pc,rfl,?_,?_,((((HI.out.rt.set hR (Nat.le_refl _) 0 _).set hR (Nat.le_refl _) 1 _).set hR (Nat.le_refl _) 2 _).set hR (Nat.le_refl _) 3 _).set hR (Nat.le_refl _) 4 _⟩
               ·exact kR5 HRI.out (.inl (by omega)) (fun g hg=>.inl (by omega))
               ·exact kR5 HRP.out (by have:=HB2.out.1;omega) (fun g hg=>by have:=HB2.out.1;omega)
              ·have h6:=H6.out
               rw [if_neg he] at h6
               subst h6
               have hlt : m - s'.l.length < m:=by
                have:=List.length_pos_iff.2 he
                omega
               obtain ⟨p,hp⟩ : ∃ p,m - s'.l.length=p:=⟨_,rfl⟩
               rw [hp] at t1 hlt
               clear hdd tle hm he hp H6
               go_wp2_with fail
               go_quiet (fail)
               clear c4 htc ht
               have hb1 : Below (wr).heap.size (wr) ((wr).drewN nq):=below_drewN (Below.refl _ _) _
               generalize (wr).drewN nq=w20 at hb1 ⊢
               replace HI:=hid (HI.out.low hb1)
               have HF:=hid (zam HI.out.rt.rd)
               replace HRI:=hid (HRI.out.keep (TFr.of_below hb1))
               replace HRP:=hid (HRP.out.keep (TFr.of_below hb1))
               clear hb1 t0 t1
               go_wp2_with fail
               with_reducible refine HF.out.mono ?_
               rintro e w21 ⟨rfl,hd⟩
               replace HI:=hid (HI.out.call hR hd)
               replace HRI:=hid (HRI.out.keepR hd.fr (.inl (by omega)))
               replace HRP:=hid (HRP.out.keepR hd.fr (by have:=HB2.out.1;omega))
               clear hd HF hlt
               obtain ⟨e0,e1,e2,e3,e4⟩:=c5w HI.out.own
               obtain ⟨r0,r1,r2,r3,r4⟩:=c5w HI.out.res
               obtain ⟨fr0,fr1,fr2,fr3,fr4⟩:=f5w HI.out.res
               go_wp2
               refine bodyPost_ret (v:=.agg #[.slice ia iq ic,.slice pa pq pc,.int .i64 x3,.string ⟨#[]⟩,.int .i64 (cm : Nat)]) (by simp [results,Tryz.results82,go_sem,r0,r1,r2,r3,r4]) rfl ⟨ia,iq,ic,pa,pq,pc,rfl,?_,?_,((((HI.out.rt.set hR (Nat.le_refl _) 0 _).set hR (Nat.le_refl _) 1 _).set hR (Nat.le_refl _) 2 _).set hR (Nat.le_refl _) 3 _).set hR (Nat.le_refl _) 4 _⟩
               ·exact kR5 HRI.out (.inl (by omega)) (fun g hg=>.inl (by omega))
               ·exact kR5 HRP.out (by have:=HB2.out.1;omega) (fun g hg=>by have:=HB2.out.1;omega)
       | true =>
         have h4:=H4.out
         rw [hp,if_pos rfl] at h4
         have HX4:=hid h4
         have HP0:=hid hp
         clear hp H4 h4
         have HC:=hid (zaf HI.out.rt.rd [98,121])
         rw [show dIs s3 1 [98,121]=true from HP0.out,show dTake s3 1 [98,121]=(dSkip s3) from zah HP0.out] at HC
         have HC2 : Hid (Calls Tryz.prog 141 #[.pointer (some ⟨R,0,none⟩),.int .i64 1,.string ⟨#[98,121]⟩] (w5.setCell ⟨w.heap.size+1,2,none⟩ (.int .i64 x3)) fun e w'=>e=.returned (.bool true)∧DdTo R T L (dSkip s3) (w5.setCell ⟨w.heap.size+1,2,none⟩ (.int .i64 x3)) w'):=HC.out
         clear HC
         go_wp2_with fail
         with_reducible refine HC2.out.mono ?_
         rintro e w6 ⟨rfl,hd⟩
         replace HI:=hid (HI.out.call hR hd)
         replace HRI:=hid (HRI.out.keepR hd.fr (.inl (by omega)))
         replace HRP:=hid (HRP.out.keepR hd.fr (by have:=HB2.out.1;omega))
         clear hd HC2
         clear HP0 c2 fc2
         have HC:=hid (zaL HI.out.rt.rd)
         rw [HX4.out] at HC
         have HC2 : Hid (Calls Tryz.prog 144 #[.pointer (some ⟨R,0,none⟩)] w6 fun e w'=>e=.returned (.string (strB x4))∧DdTo R T L s4 w6 w'):=HC.out
         clear HC HX4
         go_wp2_with fail
         with_reducible refine HC2.out.mono ?_
         rintro e w7 ⟨rfl,hd⟩
         replace HI:=hid (HI.out.call hR hd)
         replace HRI:=hid (HRI.out.keepR hd.fr (.inl (by omega)))
         replace HRP:=hid (HRP.out.keepR hd.fr (by have:=HB2.out.1;omega))
         clear hd HC2
         have c3:=zab HI.out.own (k:=3) rfl
         have fc3:=zac HI.out.own (k:=3)
         replace HI:=hid (HI.out.set3 hR (.string (strB x4)))
         replace HRI:=hid (HRI.out.keepR (TFr.at (w.heap.size+1) 3 (.string (strB x4))) (.inl (by omega)))
         replace HRP:=hid (HRP.out.keepR (TFr.at (w.heap.size+1) 3 (.string (strB x4))) (by have:=HB2.out.1;omega))
         cases hp : dIs s4 1 wPick with
         | false =>
           have h5:=H5.out
           rw [hp,if_neg (by simp)] at h5
           injection h5 with f1 f2
           subst f1 f2
           have HP0:=hid hp
           clear hp H5
           have HC:=hid (zaf HI.out.rt.rd [112,105,99,107])
           rw [show dIs s4 1 [112,105,99,107]=false from HP0.out,show dTake s4 1 [112,105,99,107]=s4 from zai HP0.out] at HC
           have HC2 : Hid (Calls Tryz.prog 141 #[.pointer (some ⟨R,0,none⟩),.int .i64 1,.string ⟨#[112,105,99,107]⟩] (w7.setCell ⟨w.heap.size+1,3,none⟩ (.string (strB x4))) fun e w'=>e=.returned (.bool false)∧DdTo R T L s4 (w7.setCell ⟨w.heap.size+1,3,none⟩ (.string (strB x4))) w'):=HC.out
           clear HC
           go_wp2_with fail
           with_reducible refine HC2.out.mono ?_
           rintro e w12 ⟨rfl,hd⟩
           clear c3 fc3
           replace HI:=hid (HI.out.call hR hd)
           replace HRI:=hid (HRI.out.keepR hd.fr (.inl (by omega)))
           replace HRP:=hid (HRP.out.keepR hd.fr (by have:=HB2.out.1;omega))
           clear hd HC2
           clear HP0
           obtain ⟨ta,tc,hdd⟩:=HI.out.rt.rd
           have t0:=hdd.c0
           have t1:=hdd.c1
           have tle:=hdd.le
           obtain ⟨m,hm⟩ : ∃ m,L.length=m:=⟨_,rfl⟩
           rw [hm] at t0 t1 tle
           by_cases he : s4.l=[]
           ·have h6:=H6.out
            rw [if_pos he] at h6
            subst h6
            rw [he,List.length_nil,Nat.sub_zero] at t1
            clear hdd tle hm he H6
            go_wp2_with fail
            go_quiet (fail)
            have hb1 : Below (w12).heap.size (w12) ((w12).drewN nq):=below_drewN (Below.refl _ _) _
            generalize (w12).drewN nq=w20 at hb1 ⊢
            replace HI:=hid (HI.out.low hb1)
            replace HRI:=hid (HRI.out.keep (TFr.of_below hb1))
            replace HRP:=hid (HRP.out.keep (TFr.of_below hb1))
            clear hb1 t0 t1
            obtain ⟨e0,e1,e2,e3,e4⟩:=c5w HI.out.own
            obtain ⟨r0,r1,r2,r3,r4⟩:=c5w HI.out.res
            obtain ⟨fr0,fr1,fr2,fr3,fr4⟩:=f5w HI.out.res
            go_wp2
            refine bodyPost_ret (v:=.agg #[.slice ia iq ic,.slice pa pq pc,.int .i64 x3,.string (strB x4),.int .i64 (1 : Nat)]) (by simp [results,Tryz.results82,go_sem,r0,r1,r2,r3,r4]) rfl ⟨ia,iq,ic,pa,pq,pc,rfl,?_,?_,((((HI.out.rt.set hR (Nat.le_refl _) 0 _).set hR (Nat.le_refl _) 1 _).set hR (Nat.le_refl _) 2 _).set hR (Nat.le_refl _) 3 _).set hR (Nat.le_refl _) 4 _⟩
            ·exact kR5 HRI.out (.inl (by omega)) (fun g hg=>.inl (by omega))
            ·exact kR5 HRP.out (by have:=HB2.out.1;omega) (fun g hg=>by have:=HB2.out.1;omega)
           ·have h6:=H6.out
            rw [if_neg he] at h6
            subst h6
            have hlt : m - s4.l.length < m:=by
             have:=List.length_pos_iff.2 he
             omega
            obtain ⟨p,hp⟩ : ∃ p,m - s4.l.length=p:=⟨_,rfl⟩
            rw [hp] at t1 hlt
            clear hdd tle hm he hp H6
            go_wp2_with fail
            go_quiet (fail)
            have hb1 : Below (w12).heap.size (w12) ((w12).drewN nq):=below_drewN (Below.refl _ _) _
            generalize (w12).drewN nq=w20 at hb1 ⊢
            replace HI:=hid (HI.out.low hb1)
            have HF:=hid (zam HI.out.rt.rd)
            replace HRI:=hid (HRI.out.keep (TFr.of_below hb1))
            replace HRP:=hid (HRP.out.keep (TFr.of_below hb1))
            clear hb1 t0 t1
            go_wp2_with fail
            with_reducible refine HF.out.mono ?_
            rintro e w21 ⟨rfl,hd⟩
            replace HI:=hid (HI.out.call hR hd)
            replace HRI:=hid (HRI.out.keepR hd.fr (.inl (by omega)))
            replace HRP:=hid (HRP.out.keepR hd.fr (by have:=HB2.out.1;omega))
            clear hd HF hlt
            obtain ⟨e0,e1,e2,e3,e4⟩:=c5w HI.out.own
            obtain ⟨r0,r1,r2,r3,r4⟩:=c5w HI.out.res
            obtain ⟨fr0,fr1,fr2,fr3,fr4⟩:=f5w HI.out.res
            go_wp2
            refine bodyPost_ret (v:=.agg #[.slice ia iq ic,.slice pa pq pc,.int .i64 x3,.string (strB x4),.int .i64 (1 : Nat)]) (by simp [results,Tryz.results82,go_sem,r0,r1,r2,r3,r4]) rfl ⟨ia,iq,ic,pa,pq,pc,rfl,?_,?_,((((HI.out.rt.set hR (Nat.le_refl _) 0 _).set hR (Nat.le_refl _) 1 _).set hR (Nat.le_refl _) 2 _).set hR (Nat.le_refl _) 3 _).set hR (Nat.le_refl _) 4 _⟩
            ·exact kR5 HRI.out (.inl (by omega)) (fun g hg=>.inl (by omega))
            ·exact kR5 HRP.out (by have:=HB2.out.1;omega) (fun g hg=>by have:=HB2.out.1;omega)
         | true =>
           have h5:=H5.out
           rw [hp,if_pos rfl] at h5
           unfold dChoose at h5
           obtain ⟨⟨cm,sm⟩,hcm⟩ : ∃ z,dAmong (dSkip s4) 1 1 dPicks=z:=⟨_,rfl⟩
           rw [hcm] at h5
           dsimp only at h5
           have HX5:=hid h5
           have HC0:=hid hcm
           have HP0:=hid hp
           clear hp H5 h5 hcm
           have HC:=hid (zaf HI.out.rt.rd [112,105,99,107])
           rw [show dIs s4 1 [112,105,99,107]=true from HP0.out,show dTake s4 1 [112,105,99,107]=(dSkip s4) from zah HP0.out] at HC
           have HC2 : Hid (Calls Tryz.prog 141 #[.pointer (some ⟨R,0,none⟩),.int .i64 1,.string ⟨#[112,105,99,107]⟩] (w7.setCell ⟨w.heap.size+1,3,none⟩ (.string (strB x4))) fun e w'=>e=.returned (.bool true)∧DdTo R T L (dSkip s4) (w7.setCell ⟨w.heap.size+1,3,none⟩ (.string (strB x4))) w'):=HC.out
           clear HC
           go_wp2_with fail
           with_reducible refine HC2.out.mono ?_
           rintro e w12 ⟨rfl,hd⟩
           clear c3 fc3
           replace HI:=hid (HI.out.call hR hd)
           replace HRI:=hid (HRI.out.keepR hd.fr (.inl (by omega)))
           replace HRP:=hid (HRP.out.keepR hd.fr (by have:=HB2.out.1;omega))
           clear hd HC2
           clear HP0
           have c4:=zab HI.out.own (k:=4) rfl
           have fc4:=zac HI.out.own (k:=4)
           replace HI:=hid (HI.out.set4 hR (.int .i64 0))
           replace HRI:=hid (HRI.out.keepR (TFr.at (w.heap.size+1) 4 (.int .i64 0)) (.inl (by omega)))
           replace HRP:=hid (HRP.out.keepR (TFr.at (w.heap.size+1) 4 (.int .i64 0)) (by have:=HB2.out.1;omega))
           go_wp2
           clear c4 fc4
           go_loopw [8] (fun i wr=>∃ (j c : Int) (s' : DS),i=.int .i64 j∧Hid ((c=0∧s'=dSkip s4∧((j=1∧dAmong (dSkip s4) 1 1 [[97,110,121],[110,101,120,116],[115,116,114,105,99,116]]=(cm,sm))∨(j=2∧dAmong (dSkip s4) 1 2 [[110,101,120,116],[115,116,114,105,99,116]]=(cm,sm))∨(j=3∧dAmong (dSkip s4) 1 3 [[115,116,114,105,99,116]]=(cm,sm))∨(j=4∧dAmong (dSkip s4) 1 4 []=(cm,sm))))∨(1≤c∧c=(cm : Int)∧s'=sm∧1≤j∧j≤4))∧Hid (QdIn R T L w wr (.slice ia iq ic) (.slice pa pq pc) (.int .i64 x3) (.string (strB x4)) (.int .i64 c) s')∧Hid (RowK itemD (fun g=>g < w.heap.size+2∨B2≤g) wr (.slice ia iq ic) l1)∧Hid (RowK predD (· < B2) wr (.slice pa pq pc) l2)) (fun i _=>5 - (RowKit.intOf i).toNat)
           case atStart=>exact ⟨1,0,dSkip s4,rfl,hid (.inl ⟨rfl,rfl,.inl ⟨rfl,HC0.out⟩⟩),HI,HRI,HRP⟩
           case round =>
            clear HI HRI HRP HC0
            obtain ⟨j,c,s',rfl,HJ,HI,HRI,HRP⟩:=hrel
            rcases HJ.out with ⟨rfl,hs',hj⟩|⟨hc1,hcc,rfl,hj⟩
            ·rcases hj with ⟨rfl,hz⟩|⟨rfl,hz⟩|⟨rfl,hz⟩|⟨rfl,hz⟩
             ·have hw : IntKind.i64.wrap (1+1)=2:=IntWalk.i64_in _ (by omega)
              have c4:=zab HI.out.own (k:=4) rfl
              go_wp2_with fail
              with_reducible refine (rpk1 wr).mono ?_
              rintro e w14 ⟨rfl,hb⟩
              replace HI:=hid (HI.out.low hb)
              replace HRI:=hid (HRI.out.keep (TFr.of_below hb))
              replace HRP:=hid (HRP.out.keep (TFr.of_below hb))
              clear hb c4
              have HC:=hid (zaf HI.out.rt.rd [97,110,121])
              cases hp : dIs s' 1 [97,110,121] with
              | true =>
                rw [← hs',dAmong,if_pos hp] at hz
                injection hz with e1 e2
                rw [hp,zah hp] at HC
                have HC2 : Hid (Calls Tryz.prog 141 #[.pointer (some ⟨R,0,none⟩),.int .i64 1,.string ⟨#[97,110,121]⟩] w14 fun e w'=>e=.returned (.bool true)∧DdTo R T L (dSkip s') w14 w'):=HC.out
                have HE:=hid (And.intro e1 e2)
                clear hp HC e1 e2 HJ hs'
                go_wp2_with fail
                with_reducible refine HC2.out.mono ?_
                rintro e w15 ⟨rfl,hd⟩
                replace HI:=hid (HI.out.call hR hd)
                replace HRI:=hid (HRI.out.keepR hd.fr (.inl (by omega)))
                replace HRP:=hid (HRP.out.keepR hd.fr (by have:=HB2.out.1;omega))
                clear hd HC2
                have c4:=zab HI.out.own (k:=4) rfl
                have fc4:=zac HI.out.own (k:=4)
                replace HI:=hid (HI.out.set4 hR (.int .i64 1))
                replace HRI:=hid (HRI.out.keepR (TFr.at (w.heap.size+1) 4 (.int .i64 1)) (.inl (by omega)))
                replace HRP:=hid (HRP.out.keepR (TFr.at (w.heap.size+1) 4 (.int .i64 1)) (by have:=HB2.out.1;omega))
                go_wp2
                refine ⟨⟨2,1,dSkip s',rfl,hid (.inr ⟨by omega,by rw [← HE.out.1];rfl,HE.out.2,by omega,by omega⟩),HI,HRI,HRP⟩,by simp [RowKit.intOf]⟩
              | false =>
                rw [← hs',dAmong,if_neg (by rw [hp];simp)] at hz
                rw [hs'] at hz
                have HZ:=hid hz
                have HSP:=hid hs'
                rw [hp,zai hp] at HC
                have HC2 : Hid (Calls Tryz.prog 141 #[.pointer (some ⟨R,0,none⟩),.int .i64 1,.string ⟨#[97,110,121]⟩] w14 fun e w'=>e=.returned (.bool false)∧DdTo R T L s' w14 w'):=HC.out
                clear hp HC hz HJ hs'
                go_wp2_with fail
                with_reducible refine HC2.out.mono ?_
                rintro e w15 ⟨rfl,hd⟩
                replace HI:=hid (HI.out.call hR hd)
                replace HRI:=hid (HRI.out.keepR hd.fr (.inl (by omega)))
                replace HRP:=hid (HRP.out.keepR hd.fr (by have:=HB2.out.1;omega))
                clear hd HC2
                go_wp2
                refine ⟨⟨2,0,s',rfl,hid (.inl ⟨rfl,HSP.out,.inr (.inl ⟨rfl,HZ.out⟩)⟩),HI,HRI,HRP⟩,by simp [RowKit.intOf]⟩
             ·have hw : IntKind.i64.wrap (2+1)=3:=IntWalk.i64_in _ (by omega)
              have c4:=zab HI.out.own (k:=4) rfl
              go_wp2_with fail
              with_reducible refine (rpk2 wr).mono ?_
              rintro e w14 ⟨rfl,hb⟩
              replace HI:=hid (HI.out.low hb)
              replace HRI:=hid (HRI.out.keep (TFr.of_below hb))
              replace HRP:=hid (HRP.out.keep (TFr.of_below hb))
              clear hb c4
              have HC:=hid (zaf HI.out.rt.rd [110,101,120,116])
              cases hp : dIs s' 1 [110,101,120,116] with
              | true =>
                rw [← hs',dAmong,if_pos hp] at hz
                injection hz with e1 e2
                rw [hp,zah hp] at HC
                have HC2 : Hid (Calls Tryz.prog 141 #[.pointer (some ⟨R,0,none⟩),.int .i64 1,.string ⟨#[110,101,120,116]⟩] w14 fun e w'=>e=.returned (.bool true)∧DdTo R T L (dSkip s') w14 w'):=HC.out
                have HE:=hid (And.intro e1 e2)
                clear hp HC e1 e2 HJ hs'
                go_wp2_with fail
                with_reducible refine HC2.out.mono ?_
                rintro e w15 ⟨rfl,hd⟩
                replace HI:=hid (HI.out.call hR hd)
                replace HRI:=hid (HRI.out.keepR hd.fr (.inl (by omega)))
                replace HRP:=hid (HRP.out.keepR hd.fr (by have:=HB2.out.1;omega))
                clear hd HC2
                have c4:=zab HI.out.own (k:=4) rfl
                have fc4:=zac HI.out.own (k:=4)
                replace HI:=hid (HI.out.set4 hR (.int .i64 2))
                replace HRI:=hid (HRI.out.keepR (TFr.at (w.heap.size+1) 4 (.int .i64 2)) (.inl (by omega)))
                replace HRP:=hid (HRP.out.keepR (TFr.at (w.heap.size+1) 4 (.int .i64 2)) (by have:=HB2.out.1;omega))
                go_wp2
                refine ⟨⟨3,2,dSkip s',rfl,hid (.inr ⟨by omega,by rw [← HE.out.1];rfl,HE.out.2,by omega,by omega⟩),HI,HRI,HRP⟩,by simp [RowKit.intOf]⟩
              | false =>
                rw [← hs',dAmong,if_neg (by rw [hp];simp)] at hz
                rw [hs'] at hz
                have HZ:=hid hz
                have HSP:=hid hs'
                rw [hp,zai hp] at HC
                have HC2 : Hid (Calls Tryz.prog 141 #[.pointer (some ⟨R,0,none⟩),.int .i64 1,.string ⟨#[110,101,120,116]⟩] w14 fun e w'=>e=.returned (.bool false)∧DdTo R T L s' w14 w'):=HC.out
                clear hp HC hz HJ hs'
                go_wp2_with fail
                with_reducible refine HC2.out.mono ?_
                rintro e w15 ⟨rfl,hd⟩
                replace HI:=hid (HI.out.call hR hd)
                replace HRI:=hid (HRI.out.keepR hd.fr (.inl (by omega)))
                replace HRP:=hid (HRP.out.keepR hd.fr (by have:=HB2.out.1;omega))
                clear hd HC2
                go_wp2
                refine ⟨⟨3,0,s',rfl,hid (.inl ⟨rfl,HSP.out,.inr (.inr (.inl ⟨rfl,HZ.out⟩))⟩),HI,HRI,HRP⟩,by simp [RowKit.intOf]⟩
             ·have hw : IntKind.i64.wrap (3+1)=4:=IntWalk.i64_in _ (by omega)
              have c4:=zab HI.out.own (k:=4) rfl
              go_wp2_with fail
              with_reducible refine (rpk3 wr).mono ?_
              rintro e w14 ⟨rfl,hb⟩
              replace HI:=hid (HI.out.low hb)
              replace HRI:=hid (HRI.out.keep (TFr.of_below hb))
              replace HRP:=hid (HRP.out.keep (TFr.of_below hb))
              clear hb c4
              have HC:=hid (zaf HI.out.rt.rd [115,116,114,105,99,116])
              cases hp : dIs s' 1 [115,116,114,105,99,116] with
              | true =>
                rw [← hs',dAmong,if_pos hp] at hz
                injection hz with e1 e2
                rw [hp,zah hp] at HC
                have HC2 : Hid (Calls Tryz.prog 141 #[.pointer (some ⟨R,0,none⟩),.int .i64 1,.string ⟨#[115,116,114,105,99,116]⟩] w14 fun e w'=>e=.returned (.bool true)∧DdTo R T L (dSkip s') w14 w'):=HC.out
                have HE:=hid (And.intro e1 e2)
                clear hp HC e1 e2 HJ hs'
                go_wp2_with fail
                with_reducible refine HC2.out.mono ?_
                rintro e w15 ⟨rfl,hd⟩
                replace HI:=hid (HI.out.call hR hd)
                replace HRI:=hid (HRI.out.keepR hd.fr (.inl (by omega)))
                replace HRP:=hid (HRP.out.keepR hd.fr (by have:=HB2.out.1;omega))
                clear hd HC2
                have c4:=zab HI.out.own (k:=4) rfl
                have fc4:=zac HI.out.own (k:=4)
                replace HI:=hid (HI.out.set4 hR (.int .i64 3))
                replace HRI:=hid (HRI.out.keepR (TFr.at (w.heap.size+1) 4 (.int .i64 3)) (.inl (by omega)))
                replace HRP:=hid (HRP.out.keepR (TFr.at (w.heap.size+1) 4 (.int .i64 3)) (by have:=HB2.out.1;omega))
                go_wp2
                refine ⟨⟨4,3,dSkip s',rfl,hid (.inr ⟨by omega,by rw [← HE.out.1];rfl,HE.out.2,by omega,by omega⟩),HI,HRI,HRP⟩,by simp [RowKit.intOf]⟩
              | false =>
                rw [← hs',dAmong,if_neg (by rw [hp];simp)] at hz
                rw [hs'] at hz
                have HZ:=hid hz
                have HSP:=hid hs'
                rw [hp,zai hp] at HC
                have HC2 : Hid (Calls Tryz.prog 141 #[.pointer (some ⟨R,0,none⟩),.int .i64 1,.string ⟨#[115,116,114,105,99,116]⟩] w14 fun e w'=>e=.returned (.bool false)∧DdTo R T L s' w14 w'):=HC.out
                clear hp HC hz HJ hs'
                go_wp2_with fail
                with_reducible refine HC2.out.mono ?_
                rintro e w15 ⟨rfl,hd⟩
                replace HI:=hid (HI.out.call hR hd)
                replace HRI:=hid (HRI.out.keepR hd.fr (.inl (by omega)))
                replace HRP:=hid (HRP.out.keepR hd.fr (by have:=HB2.out.1;omega))
                clear hd HC2
                go_wp2
                refine ⟨⟨4,0,s',rfl,hid (.inl ⟨rfl,HSP.out,.inr (.inr (.inr ⟨rfl,HZ.out⟩))⟩),HI,HRI,HRP⟩,by simp [RowKit.intOf]⟩
             ·rw [← hs'] at hz
              injection hz with e1 e2
              have h5:=HX5.out
              rw [← e1] at h5
              rw [← e2,if_pos rfl] at h5
              injection h5 with f1 f2
              subst f1 f2
              clear e1 e2 HJ hs'
              have c4:=zab HI.out.own (k:=4) rfl
              have HF:=hid (zam HI.out.rt.rd)
              obtain ⟨s5,hs5⟩ : ∃ z,dFail s'=z:=⟨_,rfl⟩
              rw [hs5] at HF H6
              clear hs5
              go_wp2_with fail
              with_reducible refine HF.out.mono ?_
              rintro e w15 ⟨rfl,hd⟩
              replace HI:=hid (HI.out.call hR hd)
              replace HRI:=hid (HRI.out.keepR hd.fr (.inl (by omega)))
              replace HRP:=hid (HRP.out.keepR hd.fr (by have:=HB2.out.1;omega))
              clear hd HF c4
              obtain ⟨ta,tc,hdd⟩:=HI.out.rt.rd
              have t0:=hdd.c0
              have t1:=hdd.c1
              have tle:=hdd.le
              obtain ⟨m,hm⟩ : ∃ m,L.length=m:=⟨_,rfl⟩
              rw [hm] at t0 t1 tle
              by_cases he : s5.l=[]
              ·have h6:=H6.out
               rw [if_pos he] at h6
               subst h6
               rw [he,List.length_nil,Nat.sub_zero] at t1
               clear hdd tle hm he H6
               go_wp2_with fail
               go_quiet (fail)
               have hb1 : Below (w15).heap.size (w15) ((w15).drewN nq):=below_drewN (Below.refl _ _) _
               generalize (w15).drewN nq=w20 at hb1 ⊢
               replace HI:=hid (HI.out.low hb1)
               replace HRI:=hid (HRI.out.keep (TFr.of_below hb1))
               replace HRP:=hid (HRP.out.keep (TFr.of_below hb1))
               clear hb1 t0 t1
               obtain ⟨e0,e1,e2,e3,e4⟩:=c5w HI.out.own
               obtain ⟨r0,r1,r2,r3,r4⟩:=c5w HI.out.res
               obtain ⟨fr0,fr1,fr2,fr3,fr4⟩:=f5w HI.out.res
               go_wp2
               refine bodyPost_ret (v:=.agg #[.slice ia iq ic,.slice pa pq pc,.int .i64 x3,.string (strB x4),.int .i64 (0 : Nat)]) (by simp [results,Tryz.results82,go_sem,r0,r1,r2,r3,r4]) rfl ⟨ia,iq,ic,pa,pq,pc,rfl,?_,?_,((((HI.out.rt.set hR (Nat.le_refl _) 0 _).set hR (Nat.le_refl _) 1 _).set hR (Nat.le_refl _) 2 _).set hR (Nat.le_refl _) 3 _).set hR (Nat.le_refl _) 4 _⟩
               ·exact kR5 HRI.out (.inl (by omega)) (fun g hg=>.inl (by omega))
               ·exact kR5 HRP.out (by have:=HB2.out.1;omega) (fun g hg=>by have:=HB2.out.1;omega)
              ·have h6:=H6.out
               rw [if_neg he] at h6
               subst h6
               have hlt : m - s5.l.length < m:=by
                have:=List.length_pos_iff.2 he
                omega
               obtain ⟨p,hp⟩ : ∃ p,m - s5.l.length=p:=⟨_,rfl⟩
               rw [hp] at t1 hlt
               clear hdd tle hm he hp H6
               go_wp2_with fail
               go_quiet (fail)
               have hb1 : Below (w15).heap.size (w15) ((w15).drewN nq):=below_drewN (Below.refl _ _) _
               generalize (w15).drewN nq=w20 at hb1 ⊢
               replace HI:=hid (HI.out.low hb1)
               have HF:=hid (zam HI.out.rt.rd)
               replace HRI:=hid (HRI.out.keep (TFr.of_below hb1))
               replace HRP:=hid (HRP.out.keep (TFr.of_below hb1))
               clear hb1 t0 t1
               go_wp2_with fail
               with_reducible refine HF.out.mono ?_
               rintro e w21 ⟨rfl,hd⟩
               replace HI:=hid (HI.out.call hR hd)
               replace HRI:=hid (HRI.out.keepR hd.fr (.inl (by omega)))
               replace HRP:=hid (HRP.out.keepR hd.fr (by have:=HB2.out.1;omega))
               clear hd HF hlt
               obtain ⟨e0,e1,e2,e3,e4⟩:=c5w HI.out.own
               obtain ⟨r0,r1,r2,r3,r4⟩:=c5w HI.out.res
               obtain ⟨fr0,fr1,fr2,fr3,fr4⟩:=f5w HI.out.res
               go_wp2
               refine bodyPost_ret (v:=.agg #[.slice ia iq ic,.slice pa pq pc,.int .i64 x3,.string (strB x4),.int .i64 (0 : Nat)]) (by simp [results,Tryz.results82,go_sem,r0,r1,r2,r3,r4]) rfl ⟨ia,iq,ic,pa,pq,pc,rfl,?_,?_,((((HI.out.rt.set hR (Nat.le_refl _) 0 _).set hR (Nat.le_refl _) 1 _).set hR (Nat.le_refl _) 2 _).set hR (Nat.le_refl _) 3 _).set hR (Nat.le_refl _) 4 _⟩
               ·exact kR5 HRI.out (.inl (by omega)) (fun g hg=>.inl (by omega))
               ·exact kR5 HRP.out (by have:=HB2.out.1;omega) (fun g hg=>by have:=HB2.out.1;omega)
            ·have h5:=HX5.out
             rw [if_neg (by omega)] at h5
             injection h5 with f1 f2
             subst f1
             subst f2
             subst hcc
             have htc : ((cm : Int) == 0)=false:=by rw [beq_eq_false_iff_ne];omega
             clear HJ hc1
             by_cases h6 : j≤3
             ·have ht : decide (j≤3)=true:=by rw [decide_eq_true_eq];exact h6
              clear h6 hj
              have c4:=zab HI.out.own (k:=4) rfl
              obtain ⟨ta,tc,hdd⟩:=HI.out.rt.rd
              have t0:=hdd.c0
              have t1:=hdd.c1
              have tle:=hdd.le
              obtain ⟨m,hm⟩ : ∃ m,L.length=m:=⟨_,rfl⟩
              rw [hm] at t0 t1 tle
              by_cases he : s'.l=[]
              ·have h6:=H6.out
               rw [if_pos he] at h6
               subst h6
               rw [he,List.length_nil,Nat.sub_zero] at t1
               clear hdd tle hm he H6
               go_wp2_with fail
               go_quiet (fail)
               clear c4 htc ht
               have hb1 : Below (wr).heap.size (wr) ((wr).drewN nq):=below_drewN (Below.refl _ _) _
               generalize (wr).drewN nq=w20 at hb1 ⊢
               replace HI:=hid (HI.out.low hb1)
               replace HRI:=hid (HRI.out.keep (TFr.of_below hb1))
               replace HRP:=hid (HRP.out.keep (TFr.of_below hb1))
               clear hb1 t0 t1
               obtain ⟨e0,e1,e2,e3,e4⟩:=c5w HI.out.own
               obtain ⟨r0,r1,r2,r3,r4⟩:=c5w HI.out.res
               obtain ⟨fr0,fr1,fr2,fr3,fr4⟩:=f5w HI.out.res
               go_wp2
               refine bodyPost_ret (v:=.agg #[.slice ia iq ic,.slice pa pq pc,.int .i64 x3,.string (strB x4),.int .i64 (cm : Nat)]) (by simp [results,Tryz.results82,go_sem,r0,r1,r2,r3,r4]) rfl ⟨ia,iq,ic,pa,pq,pc,rfl,?_,?_,((((HI.out.rt.set hR (Nat.le_refl _) 0 _).set hR (Nat.le_refl _) 1 _).set hR (Nat.le_refl _) 2 _).set hR (Nat.le_refl _) 3 _).set hR (Nat.le_refl _) 4 _⟩
               ·exact kR5 HRI.out (.inl (by omega)) (fun g hg=>.inl (by omega))
               ·exact kR5 HRP.out (by have:=HB2.out.1;omega) (fun g hg=>by have:=HB2.out.1;omega)
              ·have h6:=H6.out
               rw [if_neg he] at h6
               subst h6
               have hlt : m - s'.l.length < m:=by
                have:=List.length_pos_iff.2 he
                omega
               obtain ⟨p,hp⟩ : ∃ p,m - s'.l.length=p:=⟨_,rfl⟩
               rw [hp] at t1 hlt
               clear hdd tle hm he hp H6
               go_wp2_with fail
               go_quiet (fail)
               clear c4 htc ht
               have hb1 : Below (wr).heap.size (wr) ((wr).drewN nq):=below_drewN (Below.refl _ _) _
               generalize (wr).drewN nq=w20 at hb1 ⊢
               replace HI:=hid (HI.out.low hb1)
               have HF:=hid (zam HI.out.rt.rd)
               replace HRI:=hid (HRI.out.keep (TFr.of_below hb1))
               replace HRP:=hid (HRP.out.keep (TFr.of_below hb1))
               clear hb1 t0 t1
               go_wp2_with fail
               with_reducible refine HF.out.mono ?_
               rintro e w21 ⟨rfl,hd⟩
               replace HI:=hid (HI.out.call hR hd)
               replace HRI:=hid (HRI.out.keepR hd.fr (.inl (by omega)))
               replace HRP:=hid (HRP.out.keepR hd.fr (by have:=HB2.out.1;omega))
               clear hd HF hlt
               obtain ⟨e0,e1,e2,e3,e4⟩:=c5w HI.out.own
               obtain ⟨r0,r1,r2,r3,r4⟩:=c5w HI.out.res
               obtain ⟨fr0,fr1,fr2,fr3,fr4⟩:=f5w HI.out.res
               go_wp2
               refine bodyPost_ret (v:=.agg #[.slice ia iq ic,.slice pa pq pc,.int .i64 x3,.string (strB x4),.int .i64 (cm : Nat)]) (by simp [results,Tryz.results82,go_sem,r0,r1,r2,r3,r4]) rfl ⟨ia,iq,ic,pa,pq,pc,rfl,?_,?_,((((HI.out.rt.set hR (Nat.le_refl _) 0 _).set hR (Nat.le_refl _) 1 _).set hR (Nat.le_refl _) 2 _).set hR (Nat.le_refl _) 3 _).set hR (Nat.le_refl _) 4 _⟩
               ·exact kR5 HRI.out (.inl (by omega)) (fun g hg=>.inl (by omega))
               ·exact kR5 HRP.out (by have:=HB2.out.1;omega) (fun g hg=>by have:=HB2.out.1;omega)
             ·have ht : decide (j≤3)=false:=by rw [decide_eq_false_iff_not];exact h6
              clear h6 hj
              have c4:=zab HI.out.own (k:=4) rfl
              obtain ⟨ta,tc,hdd⟩:=HI.out.rt.rd
              have t0:=hdd.c0
              have t1:=hdd.c1
              have tle:=hdd.le
              obtain ⟨m,hm⟩ : ∃ m,L.length=m:=⟨_,rfl⟩
              rw [hm] at t0 t1 tle
              by_cases he : s'.l=[]
              ·have h6:=H6.out
               rw [if_pos he] at h6
               subst h6
               rw [he,List.length_nil,Nat.sub_zero] at t1
               clear hdd tle hm he H6
               go_wp2_with fail
               go_quiet (fail)
               clear c4 htc ht
               have hb1 : Below (wr).heap.size (wr) ((wr).drewN nq):=below_drewN (Below.refl _ _) _
               generalize (wr).drewN nq=w20 at hb1 ⊢
               replace HI:=hid (HI.out.low hb1)
               replace HRI:=hid (HRI.out.keep (TFr.of_below hb1))
               replace HRP:=hid (HRP.out.keep (TFr.of_below hb1))
               clear hb1 t0 t1
               obtain ⟨e0,e1,e2,e3,e4⟩:=c5w HI.out.own
               obtain ⟨r0,r1,r2,r3,r4⟩:=c5w HI.out.res
               obtain ⟨fr0,fr1,fr2,fr3,fr4⟩:=f5w HI.out.res
               go_wp2
               refine bodyPost_ret (v:=.agg #[.slice ia iq ic,.slice pa pq pc,.int .i64 x3,.string (strB x4),.int .i64 (cm : Nat)]) (by simp [results,Tryz.results82,go_sem,r0,r1,r2,r3,r4]) rfl ⟨ia,iq,ic,pa,pq,pc,rfl,?_,?_,((((HI.out.rt.set hR (Nat.le_refl _) 0 _).set hR (Nat.le_refl _) 1 _).set hR (Nat.le_refl _) 2 _).set hR (Nat.le_refl _) 3 _).set hR (Nat.le_refl _) 4 _⟩
               ·exact kR5 HRI.out (.inl (by omega)) (fun g hg=>.inl (by omega))
               ·exact kR5 HRP.out (by have:=HB2.out.1;omega) (fun g hg=>by have:=HB2.out.1;omega)
              ·have h6:=H6.out
               rw [if_neg he] at h6
               subst h6
               have hlt : m - s'.l.length < m:=by
                have:=List.length_pos_iff.2 he
                omega
               obtain ⟨p,hp⟩ : ∃ p,m - s'.l.length=p:=⟨_,rfl⟩
               rw [hp] at t1 hlt
               clear hdd tle hm he hp H6
               go_wp2_with fail
               go_quiet (fail)
               clear c4 htc ht
               have hb1 : Below (wr).heap.size (wr) ((wr).drewN nq):=below_drewN (Below.refl _ _) _
               generalize (wr).drewN nq=w20 at hb1 ⊢
               replace HI:=hid (HI.out.low hb1)
               have HF:=hid (zam HI.out.rt.rd)
               replace HRI:=hid (HRI.out.keep (TFr.of_below hb1))
               replace HRP:=hid (HRP.out.keep (TFr.of_below hb1))
               clear hb1 t0 t1
               go_wp2_with fail
               with_reducible refine HF.out.mono ?_
               rintro e w21 ⟨rfl,hd⟩
               replace HI:=hid (HI.out.call hR hd)
               replace HRI:=hid (HRI.out.keepR hd.fr (.inl (by omega)))
               replace HRP:=hid (HRP.out.keepR hd.fr (by have:=HB2.out.1;omega))
               clear hd HF hlt
               obtain ⟨e0,e1,e2,e3,e4⟩:=c5w HI.out.own
               obtain ⟨r0,r1,r2,r3,r4⟩:=c5w HI.out.res
               obtain ⟨fr0,fr1,fr2,fr3,fr4⟩:=f5w HI.out.res
               go_wp2
               refine bodyPost_ret (v:=.agg #[.slice ia iq ic,.slice pa pq pc,.int .i64 x3,.string (strB x4),.int .i64 (cm : Nat)]) (by simp [results,Tryz.results82,go_sem,r0,r1,r2,r3,r4]) rfl ⟨ia,iq,ic,pa,pq,pc,rfl,?_,?_,((((HI.out.rt.set hR (Nat.le_refl _) 0 _).set hR (Nat.le_refl _) 1 _).set hR (Nat.le_refl _) 2 _).set hR (Nat.le_refl _) 3 _).set hR (Nat.le_refl _) 4 _⟩
               ·exact kR5 HRI.out (.inl (by omega)) (fun g hg=>.inl (by omega))
               ·exact kR5 HRP.out (by have:=HB2.out.1;omega) (fun g hg=>by have:=HB2.out.1;omega)
     | true =>
       have HT2:=hid (HT.out rfl)
       obtain ⟨⟨y,s4⟩,hy⟩ : ∃ z,dPred n s=z:=⟨_,rfl⟩
       have HP:=hid (zfI HI.out.rt.rd HK.out.1 HK.out.2)
       rw [hy] at HT2 HP
       dsimp only at HT2
       have HP2 : Hid (Calls Tryz.prog 142 #[.pointer (some ⟨R,0,none⟩)] wr (DpTo R T L (y,s4) wr)):=HP
       have HL:=hid (zaD HI.out.rt.rd)
       have HLE:=hid (show s4.l.length≤s.l.length∧s4.deep=s.deep from by
        have h1:=zdX n s
        have h2:=zgT n s
        rw [hy] at h1 h2
        exact ⟨h1,h2⟩)
       clear hy HT HE HP
       obtain ⟨va,vc,rfl⟩:=HO.out.slice
       obtain ⟨q,hq⟩ : ∃ q,l.length=q:=⟨_,rfl⟩
       have HQ:=hid hq
       rw [hq] at HI HO
       clear hq
       go_wp2_with fail
       with_reducible refine HP2.out.mono ?_
       rintro e w4 ⟨ya,yq,yc,za,zq,zc,dd,rfl,hrow,hrow2,hd⟩
       clear HP2
       dsimp only at hd hrow hrow2
       have HAP : ∃ a9 l9 c9 w9,(Builtin.append_ #[24,24] 24 #[.slice va q vc,.slice (some ⟨w4.heap.size+1,0,none⟩) 1 1]).run Tryz.prog ((w4.alloc (.cells #[.int .i64 y.cmp,.int .i64 y.l.k,.int .i64 y.l.v.k,.int .i64 y.l.v.n,.string (strB y.l.v.s),.string (strB y.l.x),.string (strB y.l.f),.slice ya yq yc,.int .i64 y.r.k,.int .i64 y.r.v.k,.int .i64 y.r.v.n,.string (strB y.r.v.s),.string (strB y.r.x),.string (strB y.r.f),.slice za zq zc] 91)).alloc (.cells #[.int .i64 y.cmp,.int .i64 y.l.k,.int .i64 y.l.v.k,.int .i64 y.l.v.n,.string (strB y.l.v.s),.string (strB y.l.x),.string (strB y.l.f),.slice ya yq yc,.int .i64 y.r.k,.int .i64 y.r.v.k,.int .i64 y.r.v.n,.string (strB y.r.v.s),.string (strB y.r.x),.string (strB y.r.f),.slice za zq zc] 91))=.ok (.slice a9 l9 c9) w9∧Hid (OwnP predD w9 (B2) 91 (.slice a9 l9 c9) (l++[y]))∧Hid (QdIn R T L w w9 (.slice ia iq ic) (.slice va q vc) (.int .i64 0) (.string ⟨#[]⟩) (.int .i64 1) s4)∧Hid (RowK itemD (fun g=>g < w.heap.size+2∨B2≤g) w9 (.slice ia iq ic) l1)∧B2≤w9.heap.size:=by
        have hdfr:=hd.fr
        have hb5:=(Below.refl w4.heap.size w4).alloc (Nat.le_refl _) (.cells #[.int .i64 y.cmp,.int .i64 y.l.k,.int .i64 y.l.v.k,.int .i64 y.l.v.n,.string (strB y.l.v.s),.string (strB y.l.x),.string (strB y.l.f),.slice ya yq yc,.int .i64 y.r.k,.int .i64 y.r.v.k,.int .i64 y.r.v.n,.string (strB y.r.v.s),.string (strB y.r.x),.string (strB y.r.f),.slice za zq zc] 91)
        have hb6:=hb5.alloc hb5.size (.cells #[.int .i64 y.cmp,.int .i64 y.l.k,.int .i64 y.l.v.k,.int .i64 y.l.v.n,.string (strB y.l.v.s),.string (strB y.l.x),.string (strB y.l.f),.slice ya yq yc,.int .i64 y.r.k,.int .i64 y.r.v.k,.int .i64 y.r.v.n,.string (strB y.r.v.s),.string (strB y.r.x),.string (strB y.r.f),.slice za zq zc] 91)
        have hbn:=(Below.refl (w4.alloc (.cells #[.int .i64 y.cmp,.int .i64 y.l.k,.int .i64 y.l.v.k,.int .i64 y.l.v.n,.string (strB y.l.v.s),.string (strB y.l.x),.string (strB y.l.f),.slice ya yq yc,.int .i64 y.r.k,.int .i64 y.r.v.k,.int .i64 y.r.v.n,.string (strB y.r.v.s),.string (strB y.r.x),.string (strB y.r.f),.slice za zq zc] 91)).heap.size (w4.alloc (.cells #[.int .i64 y.cmp,.int .i64 y.l.k,.int .i64 y.l.v.k,.int .i64 y.l.v.n,.string (strB y.l.v.s),.string (strB y.l.x),.string (strB y.l.f),.slice ya yq yc,.int .i64 y.r.k,.int .i64 y.r.v.k,.int .i64 y.r.v.n,.string (strB y.r.v.s),.string (strB y.r.x),.string (strB y.r.f),.slice za zq zc] 91))).alloc (Nat.le_refl _) (.cells #[.int .i64 y.cmp,.int .i64 y.l.k,.int .i64 y.l.v.k,.int .i64 y.l.v.n,.string (strB y.l.v.s),.string (strB y.l.x),.string (strB y.l.f),.slice ya yq yc,.int .i64 y.r.k,.int .i64 y.r.v.k,.int .i64 y.r.v.n,.string (strB y.r.v.s),.string (strB y.r.x),.string (strB y.r.f),.slice za zq zc] 91)
        have hsz : (w4.alloc (.cells #[.int .i64 y.cmp,.int .i64 y.l.k,.int .i64 y.l.v.k,.int .i64 y.l.v.n,.string (strB y.l.v.s),.string (strB y.l.x),.string (strB y.l.f),.slice ya yq yc,.int .i64 y.r.k,.int .i64 y.r.v.k,.int .i64 y.r.v.n,.string (strB y.r.v.s),.string (strB y.r.x),.string (strB y.r.f),.slice za zq zc] 91)).heap.size=w4.heap.size+1:=by simp
        have h4:=HI.out.call hR hd
        have h6:=h4.low hb6
        have ho:=HO.out.own
        have o6:=(HO.out.keep hd.fr (fun k e=>by have:=HB2.out.1;omega)).keep (TFr.of_below (K:=fun _=>False) hb6) (fun _ h=>h.elim)
        have hvb:=heap_alloc_new (w4.alloc (.cells #[.int .i64 y.cmp,.int .i64 y.l.k,.int .i64 y.l.v.k,.int .i64 y.l.v.n,.string (strB y.l.v.s),.string (strB y.l.x),.string (strB y.l.f),.slice ya yq yc,.int .i64 y.r.k,.int .i64 y.r.v.k,.int .i64 y.r.v.n,.string (strB y.r.v.s),.string (strB y.r.x),.string (strB y.r.f),.slice za zq zc] 91)) (.cells #[.int .i64 y.cmp,.int .i64 y.l.k,.int .i64 y.l.v.k,.int .i64 y.l.v.n,.string (strB y.l.v.s),.string (strB y.l.x),.string (strB y.l.f),.slice ya yq yc,.int .i64 y.r.k,.int .i64 y.r.v.k,.int .i64 y.r.v.n,.string (strB y.r.v.s),.string (strB y.r.x),.string (strB y.r.f),.slice za zq zc] 91 (0,0))
        rw [hsz] at hvb
        have hp5:=predD.at' (B:=B2) (v:=.slice va q vc) hb5 (fun g hg=>ho g hg) (HB2.out.2) (show predD.P (· < wr.heap.size) w4 [.int .i64 y.cmp,.int .i64 y.l.k,.int .i64 y.l.v.k,.int .i64 y.l.v.n,.string (strB y.l.v.s),.string (strB y.l.x),.string (strB y.l.f),.slice ya yq yc,.int .i64 y.r.k,.int .i64 y.r.v.k,.int .i64 y.r.v.n,.string (strB y.r.v.s),.string (strB y.r.x),.string (strB y.r.f),.slice za zq zc] y from ⟨ya,yq,yc,za,zq,zc,dd,rfl,hrow,hrow2⟩)
        have hpp:=predD.keep (TFr.of_below hbn) hp5
        obtain ⟨v9,w9,hr,ho9,hg⟩:=OwnP.append (ts:=24) (ty:=24) (by kernel_rfl) zko rfl (by decide) (by decide) o6 (Nat.le_trans HB2.out.2 (Nat.le_trans hd.fr.size hb6.size)) (by have:=HT2.out.2.2;have:=HQ.out;omega) hpp hvb
        obtain ⟨a9,c9,rfl⟩:=ho9.slice
        have hf : TFr (fun k=>(Value.slice va q vc).ownBlock=some k) ((w4.alloc (.cells #[.int .i64 y.cmp,.int .i64 y.l.k,.int .i64 y.l.v.k,.int .i64 y.l.v.n,.string (strB y.l.v.s),.string (strB y.l.x),.string (strB y.l.f),.slice ya yq yc,.int .i64 y.r.k,.int .i64 y.r.v.k,.int .i64 y.r.v.n,.string (strB y.r.v.s),.string (strB y.r.x),.string (strB y.r.f),.slice za zq zc] 91)).alloc (.cells #[.int .i64 y.cmp,.int .i64 y.l.k,.int .i64 y.l.v.k,.int .i64 y.l.v.n,.string (strB y.l.v.s),.string (strB y.l.x),.string (strB y.l.f),.slice ya yq yc,.int .i64 y.r.k,.int .i64 y.r.v.k,.int .i64 y.r.v.n,.string (strB y.r.v.s),.string (strB y.r.x),.string (strB y.r.f),.slice za zq zc] 91)) w9:=TFr.of_grown hg (fun k hk=>hk)
        have HRI2:=hid (show RowK itemD (fun g=>g < w.heap.size+2∨B2≤g) w9 (.slice ia iq ic) l1 from ((HRI.out.keepR hdfr (.inl (by omega))).keep (TFr.of_below hb6)).keep (hf.mono (fun g _ hg=>.inr (ho g hg).1)))
        exact ⟨a9,_,c9,w9,hr,hid ho9,hid (h6.grown hR hg (fun k hk=>by have:=(ho k hk).1;have:=HB2.out.1;omega)),HRI2,Nat.le_trans HB2.out.2 (Nat.le_trans hd.fr.size (Nat.le_trans hb6.size hf.size))⟩
       obtain ⟨a9,l9,c9,w9,hr9,O9,Q9,RI9,SZ9⟩:=HAP
       have e1:=zab (HI.out.own.keep hd.fr (by omega)) (k:=1) rfl
       have hb5:=(Below.refl w4.heap.size w4).alloc (Nat.le_refl _) (.cells #[.int .i64 y.cmp,.int .i64 y.l.k,.int .i64 y.l.v.k,.int .i64 y.l.v.n,.string (strB y.l.v.s),.string (strB y.l.x),.string (strB y.l.f),.slice ya yq yc,.int .i64 y.r.k,.int .i64 y.r.v.k,.int .i64 y.r.v.n,.string (strB y.r.v.s),.string (strB y.r.x),.string (strB y.r.f),.slice za zq zc] 91)
       have e1a:=zab ((HI.out.own.keep hd.fr (by omega)).low hb5) (k:=1) rfl
       have k1:=zab Q9.out.own (k:=1) rfl
       have fk1:=zac Q9.out.own (k:=1)
       replace HI : Hid (QdIn R T L w (w9.setCell ⟨w.heap.size+1,1,none⟩ (.slice a9 l9 c9)) (.slice ia iq ic) (.slice a9 l9 c9) (.int .i64 0) (.string ⟨#[]⟩) (.int .i64 1) s4):=hid (Q9.out.set1 hR _)
       replace HO : Hid (OwnP predD (w9.setCell ⟨w.heap.size+1,1,none⟩ (.slice a9 l9 c9)) (B2) 91 (.slice a9 l9 c9) (l++[y])):=hid (O9.out.keep (TFr.at (w.heap.size+1) 1 _) (fun k e=>by have:=HB2.out.1;omega))
       have HRI : Hid (RowK itemD (fun g=>g < w.heap.size+2∨B2≤g) (w9.setCell ⟨w.heap.size+1,1,none⟩ (.slice a9 l9 c9)) (.slice ia iq ic) l1):=hid (RI9.out.keepR (TFr.at (w.heap.size+1) 1 _) (.inl (by omega)))
       cases hp : dIs s4 1 [97,110,100] with
       | true =>
         obtain ⟨k3,rfl⟩ : ∃ k3,k=k3+1:=by
          have h1:=zaI hp
          have h2:=HT2.out.2.1
          exact ⟨k - 1,by omega⟩
         have HN : Hid (dRow wAnd (dPred n) k3 ((l++[y])++[(dPred n (dSkip s4)).1]) (dPred n (dSkip s4)).2=(l2,s2)∧(dPred n (dSkip s4)).2.l.length≤k3∧(l++[y]).length+(dSkip s4).l.length≤500):=by
          have h1:=zaI hp
          have h2:=HT2.out
          refine hid ⟨?_,Nat.le_trans (zdX n _) (by omega),?_⟩
          ·rw [← zcY (show dIs s4 1 wAnd=true from hp)]
           exact h2.1
          ·have:=HLE.out.1
           rw [List.length_append,List.length_singleton]
           omega
         have HLT:=hid (show (dSkip s4).l.length < s.l.length by have:=zaI hp;have:=HLE.out.1;omega)
         have HK2:=hid (show (dSkip s4).deep≤6∧(dSkip s4).l.length < n from ⟨by have:=HK.out.1;have:=HLE.out.2;show s4.deep≤6;omega,by have:=HK.out.2;have:=HLT.out;omega⟩)
         have HC:=hid (zaf HI.out.rt.rd [97,110,100])
         rw [hp,zah hp] at HC
         have HC2 : Hid (Calls Tryz.prog 141 #[.pointer (some ⟨R,0,none⟩),.int .i64 1,.string ⟨#[97,110,100]⟩] (w9.setCell ⟨w.heap.size+1,1,none⟩ (.slice a9 l9 c9)) fun e w'=>e=.returned (.bool true)∧DdTo R T L (dSkip s4) (w9.setCell ⟨w.heap.size+1,1,none⟩ (.slice a9 l9 c9)) w'):=HC.out
         clear HC hp HT2 hd hrow hrow2 hb5
         go_wp2_with (at_builtin;refine Lib.wpList_append_run _ rfl _ _ _ _ rfl _ _ rfl rfl _ _ hr9 ?_;clear hr9)
         with_reducible refine HC2.out.mono ?_
         rintro e w10 ⟨rfl,hd⟩
         replace HI:=hid (HI.out.call hR hd)
         replace HO:=hid (HO.out.keep hd.fr (fun k e=>by have:=HB2.out.1;omega))
         have HRI:=hid (HRI.out.keepR hd.fr (.inl (by omega)))
         have BIGQ:=Nat.le_trans (show B2≤(w9.setCell ⟨w.heap.size+1,1,none⟩ (.slice a9 l9 c9)).heap.size by simpa using SZ9) hd.fr.size
         clear hd HC2 e1 e1a k1 fk1
         go_wp2
         refine ⟨⟨true,_,l++[y],dSkip s4,k3,rfl,HI,HO,HK2,HRI,hid ⟨HB2.out.1,BIGQ⟩,hid (fun _=>HN.out),hid (fun h=>by cases h)⟩,?_⟩
         rw [zaD HI.out.rt.rd,HL.out]
         have:=HLT.out
         show 2*_+1 < 2*_+1
         omega
       | false =>
         have HN : Hid ((l++[y],s4)=(l2,s2)):=hid (by
          have h2:=HT2.out.1
          rw [zdY (show dIs s4 1 wAnd=false from hp)] at h2
          exact h2)
         have HK2:=hid (show s4.deep≤6∧s4.l.length < n from ⟨by have:=HK.out.1;have:=HLE.out.2;omega,by have:=HK.out.2;have:=HLE.out.1;omega⟩)
         have HC:=hid (zaf HI.out.rt.rd [97,110,100])
         rw [hp,zai hp] at HC
         have HC2 : Hid (Calls Tryz.prog 141 #[.pointer (some ⟨R,0,none⟩),.int .i64 1,.string ⟨#[97,110,100]⟩] (w9.setCell ⟨w.heap.size+1,1,none⟩ (.slice a9 l9 c9)) fun e w'=>e=.returned (.bool false)∧DdTo R T L s4 (w9.setCell ⟨w.heap.size+1,1,none⟩ (.slice a9 l9 c9)) w'):=HC.out
         clear HC hp HT2 hd hrow hrow2 hb5
         go_wp2_with (at_builtin;refine Lib.wpList_append_run _ rfl _ _ _ _ rfl _ _ rfl rfl _ _ hr9 ?_;clear hr9)
         with_reducible refine HC2.out.mono ?_
         rintro e w10 ⟨rfl,hd⟩
         replace HI:=hid (HI.out.call hR hd)
         replace HO:=hid (HO.out.keep hd.fr (fun k e=>by have:=HB2.out.1;omega))
         have HRI:=hid (HRI.out.keepR hd.fr (.inl (by omega)))
         have BIGQ:=Nat.le_trans (show B2≤(w9.setCell ⟨w.heap.size+1,1,none⟩ (.slice a9 l9 c9)).heap.size by simpa using SZ9) hd.fr.size
         clear hd HC2 e1 e1a k1 fk1
         go_wp2
         refine ⟨⟨false,_,l++[y],s4,k,rfl,HI,HO,HK2,HRI,hid ⟨HB2.out.1,BIGQ⟩,hid (fun h=>by cases h),hid (fun _=>HN.out)⟩,?_⟩
         rw [zaD HI.out.rt.rd,HL.out]
         have:=HLE.out.1
         show 2*_+0 < 2*_+1
         omega
  | true =>
    have HT2:=hid (HT.out rfl)
    obtain ⟨⟨y,s4⟩,hy⟩ : ∃ z,dItem n s=z:=⟨_,rfl⟩
    have HP:=hid (zfJ HI.out.rt.rd (Nat.le_of_lt HK.out.2))
    rw [hy] at HT2 HP
    dsimp only at HT2
    have HP2 : Hid (Calls Tryz.prog 140 #[.pointer (some ⟨R,0,none⟩)] wr (DiTo R T L (y,s4) wr)):=HP
    have HL:=hid (zaD HI.out.rt.rd)
    have HLE:=hid (show s4.l.length≤s.l.length∧s4.deep=s.deep from by
     have h1:=zdW n s
     have h2:=zgS n s
     rw [hy] at h1 h2
     exact ⟨h1,h2⟩)
    clear hy HT HE HP
    obtain ⟨va,vc,rfl⟩:=HO.out.slice
    obtain ⟨q,hq⟩ : ∃ q,l.length=q:=⟨_,rfl⟩
    have HQ:=hid hq
    rw [hq] at HI HO
    clear hq
    go_wp2_with fail
    with_reducible refine HP2.out.mono ?_
    rintro e w4 ⟨ya,yq,yc,rfl,rfl,hrow,hd⟩
    clear HP2
    dsimp only at hd hrow
    obtain ⟨yq,hyq⟩ : ∃ yq,y.ns.length=yq:=⟨_,rfl⟩
    rw [hyq] at hrow ⊢
    have HAP : ∃ a9 l9 c9 w9,(Builtin.append_ #[23,23] 23 #[.slice va q vc,.slice (some ⟨w4.heap.size+1,0,none⟩) 1 1]).run Tryz.prog ((w4.alloc (.cells #[.bool y.no,.slice ya yq yc,.string (strB y.x),.int .i64 y.mode] 44)).alloc (.cells #[.bool y.no,.slice ya yq yc,.string (strB y.x),.int .i64 y.mode] 44))=.ok (.slice a9 l9 c9) w9∧Hid (OwnP itemD w9 (w.heap.size+2) 44 (.slice a9 l9 c9) (l++[y]))∧Hid (QdIn R T L w w9 (.slice va q vc) (.slice none 0 0) (.int .i64 0) (.string ⟨#[]⟩) (.int .i64 1) s4):=by
     have hdfr:=hd.fr
     have hb5:=(Below.refl w4.heap.size w4).alloc (Nat.le_refl _) (.cells #[.bool y.no,.slice ya yq yc,.string (strB y.x),.int .i64 y.mode] 44)
     have hb6:=hb5.alloc hb5.size (.cells #[.bool y.no,.slice ya yq yc,.string (strB y.x),.int .i64 y.mode] 44)
     have hbn:=(Below.refl (w4.alloc (.cells #[.bool y.no,.slice ya yq yc,.string (strB y.x),.int .i64 y.mode] 44)).heap.size (w4.alloc (.cells #[.bool y.no,.slice ya yq yc,.string (strB y.x),.int .i64 y.mode] 44))).alloc (Nat.le_refl _) (.cells #[.bool y.no,.slice ya yq yc,.string (strB y.x),.int .i64 y.mode] 44)
     have hsz : (w4.alloc (.cells #[.bool y.no,.slice ya yq yc,.string (strB y.x),.int .i64 y.mode] 44)).heap.size=w4.heap.size+1:=by simp
     have h4:=HI.out.call hR hd
     have h6:=h4.low hb6
     have ho:=HO.out.own
     have o6:=(HO.out.keep hd.fr (fun k e=>by omega)).keep (TFr.of_below (K:=fun _=>False) hb6) (fun _ h=>h.elim)
     have hvb:=heap_alloc_new (w4.alloc (.cells #[.bool y.no,.slice ya yq yc,.string (strB y.x),.int .i64 y.mode] 44)) (.cells #[.bool y.no,.slice ya yq yc,.string (strB y.x),.int .i64 y.mode] 44 (0,0))
     rw [hsz] at hvb
     have hp5:=itemD.at' (B:=w.heap.size+2) (v:=.slice va q vc) hb5 (fun g hg=>ho g hg) (HI.out.big) (show itemD.P (· < wr.heap.size) w4 [.bool y.no,.slice ya yq yc,.string (strB y.x),.int .i64 y.mode] y from ⟨ya,yc,by rw [hyq],by rw [hyq];exact hrow⟩)
     have hpp:=itemD.keep (TFr.of_below hbn) hp5
     obtain ⟨v9,w9,hr,ho9,hg⟩:=OwnP.append (ts:=23) (ty:=23) (by kernel_rfl) zkn rfl (by decide) (by decide) o6 (h6.big) (by have:=HT2.out.2.2;have:=HQ.out;omega) hpp hvb
     obtain ⟨a9,c9,rfl⟩:=ho9.slice
     have hf : TFr (fun k=>(Value.slice va q vc).ownBlock=some k) ((w4.alloc (.cells #[.bool y.no,.slice ya yq yc,.string (strB y.x),.int .i64 y.mode] 44)).alloc (.cells #[.bool y.no,.slice ya yq yc,.string (strB y.x),.int .i64 y.mode] 44)) w9:=TFr.of_grown hg (fun k hk=>hk)
     exact ⟨a9,_,c9,w9,hr,hid ho9,hid (h6.grown hR hg (fun k hk=>by have:=(ho k hk).1;omega))⟩
    obtain ⟨a9,l9,c9,w9,hr9,O9,Q9⟩:=HAP
    have e1:=zab (HI.out.own.keep hd.fr (by omega)) (k:=0) rfl
    have hb5:=(Below.refl w4.heap.size w4).alloc (Nat.le_refl _) (.cells #[.bool y.no,.slice ya yq yc,.string (strB y.x),.int .i64 y.mode] 44)
    have e1a:=zab ((HI.out.own.keep hd.fr (by omega)).low hb5) (k:=0) rfl
    have k1:=zab Q9.out.own (k:=0) rfl
    have fk1:=zac Q9.out.own (k:=0)
    replace HI : Hid (QdIn R T L w (w9.setCell ⟨w.heap.size+1,0,none⟩ (.slice a9 l9 c9)) (.slice a9 l9 c9) (.slice none 0 0) (.int .i64 0) (.string ⟨#[]⟩) (.int .i64 1) s4):=hid (Q9.out.set0 hR _)
    replace HO : Hid (OwnP itemD (w9.setCell ⟨w.heap.size+1,0,none⟩ (.slice a9 l9 c9)) (w.heap.size+2) 44 (.slice a9 l9 c9) (l++[y])):=hid (O9.out.keep (TFr.at (w.heap.size+1) 0 _) (fun k e=>by omega))
    cases hp : dIs s4 1 [116,104,101,110] with
    | true =>
      obtain ⟨k3,rfl⟩ : ∃ k3,k=k3+1:=by
       have h1:=zaI hp
       have h2:=HT2.out.2.1
       exact ⟨k - 1,by omega⟩
      have HN : Hid (dRow wThen (dItem n) k3 ((l++[y])++[(dItem n (dSkip s4)).1]) (dItem n (dSkip s4)).2=(l1,s1)∧(dItem n (dSkip s4)).2.l.length≤k3∧(l++[y]).length+(dSkip s4).l.length≤500):=by
       have h1:=zaI hp
       have h2:=HT2.out
       refine hid ⟨?_,Nat.le_trans (zdW n _) (by omega),?_⟩
       ·rw [← zcY (show dIs s4 1 wThen=true from hp)]
        exact h2.1
       ·have:=HLE.out.1
        rw [List.length_append,List.length_singleton]
        omega
      have HLT:=hid (show (dSkip s4).l.length < s.l.length by have:=zaI hp;have:=HLE.out.1;omega)
      have HK2:=hid (show (dSkip s4).deep≤6∧(dSkip s4).l.length < n from ⟨by have:=HK.out.1;have:=HLE.out.2;show s4.deep≤6;omega,by have:=HK.out.2;have:=HLT.out;omega⟩)
      have HC:=hid (zaf HI.out.rt.rd [116,104,101,110])
      rw [hp,zah hp] at HC
      have HC2 : Hid (Calls Tryz.prog 141 #[.pointer (some ⟨R,0,none⟩),.int .i64 1,.string ⟨#[116,104,101,110]⟩] (w9.setCell ⟨w.heap.size+1,0,none⟩ (.slice a9 l9 c9)) fun e w'=>e=.returned (.bool true)∧DdTo R T L (dSkip s4) (w9.setCell ⟨w.heap.size+1,0,none⟩ (.slice a9 l9 c9)) w'):=HC.out
      clear HC hp HT2 hd hrow hb5
      go_wp2_with (at_builtin;refine Lib.wpList_append_run _ rfl _ _ _ _ rfl _ _ rfl rfl _ _ hr9 ?_;clear hr9)
      with_reducible refine HC2.out.mono ?_
      rintro e w10 ⟨rfl,hd⟩
      replace HI:=hid (HI.out.call hR hd)
      replace HO:=hid (HO.out.keep hd.fr (fun k e=>by omega))
      clear hd HC2 e1 e1a k1 fk1
      go_wp2
      refine ⟨⟨true,_,l++[y],dSkip s4,k3,rfl,HI,HO,HK2,hid (fun _=>HN.out),hid (fun h=>by cases h)⟩,?_⟩
      rw [zaD HI.out.rt.rd,HL.out]
      have:=HLT.out
      show 2*_+1 < 2*_+1
      omega
    | false =>
      have HN : Hid ((l++[y],s4)=(l1,s1)):=hid (by
       have h2:=HT2.out.1
       rw [zdY (show dIs s4 1 wThen=false from hp)] at h2
       exact h2)
      have HK2:=hid (show s4.deep≤6∧s4.l.length < n from ⟨by have:=HK.out.1;have:=HLE.out.2;omega,by have:=HK.out.2;have:=HLE.out.1;omega⟩)
      have HC:=hid (zaf HI.out.rt.rd [116,104,101,110])
      rw [hp,zai hp] at HC
      have HC2 : Hid (Calls Tryz.prog 141 #[.pointer (some ⟨R,0,none⟩),.int .i64 1,.string ⟨#[116,104,101,110]⟩] (w9.setCell ⟨w.heap.size+1,0,none⟩ (.slice a9 l9 c9)) fun e w'=>e=.returned (.bool false)∧DdTo R T L s4 (w9.setCell ⟨w.heap.size+1,0,none⟩ (.slice a9 l9 c9)) w'):=HC.out
      clear HC hp HT2 hd hrow hb5
      go_wp2_with (at_builtin;refine Lib.wpList_append_run _ rfl _ _ _ _ rfl _ _ rfl rfl _ _ hr9 ?_;clear hr9)
      with_reducible refine HC2.out.mono ?_
      rintro e w10 ⟨rfl,hd⟩
      replace HI:=hid (HI.out.call hR hd)
      replace HO:=hid (HO.out.keep hd.fr (fun k e=>by omega))
      clear hd HC2 e1 e1a k1 fk1
      go_wp2
      refine ⟨⟨false,_,l++[y],s4,k,rfl,HI,HO,HK2,hid (fun h=>by cases h),hid (fun _=>HN.out)⟩,?_⟩
      rw [zaD HI.out.rt.rd,HL.out]
      have:=HLE.out.1
      show 2*_+0 < 2*_+1
      omega
end Go.Proofs.YtkmlfkbpcgkpaaaGreatDoor
