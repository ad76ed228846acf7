/- Texts that others want. -/
import Derived.Test.YtkmlfkbpcgkpaaaGreatDoorM0
import Derived.Test.YtkmlfkbpcgkpaaaGreatDoorMF
namespace Go.Proofs.YtkmlfkbpcgkpaaaGreatDoor
open Go.RowKit Go.Lib Go.Op
set_option maxHeartbeats 8000000
set_option maxRecDepth 100000
structure ItIn (R T : Nat) (L : List XTok) (w W : World) (no : Bool) (v x : Value) (md : Int) (l : List (List UInt8)) (s : DS) : Prop where
 res : Blk W w.heap.size #[.bool false,.slice none 0 0,.string ⟨#[]⟩,.int .i64 0] 44
 own : Blk W (w.heap.size+1) #[.bool no,v,x,.int .i64 md] 44
 row : OwnP nameD W (w.heap.size+2) 9 v l
 rt : DdTo R T L s w W
 big : w.heap.size+2≤W.heap.size
section
variable {R T : Nat} {L : List XTok} {w W W' : World} {no : Bool} {v x : Value} {md : Int} {l : List (List UInt8)} {s s' : DS}
theorem ItIn.call (h : ItIn R T L w W no v x md l s) (hR : R < w.heap.size) (hd : DdTo R T L s' W W') : ItIn R T L w W' no v x md l s' :=
 ⟨h.res.keep hd.fr (by omega),h.own.keep hd.fr (by omega),h.row.keep hd.fr (fun k e=>by omega),h.rt.trans hd,Nat.le_trans h.big hd.fr.size⟩
theorem ItIn.low (h : ItIn R T L w W no v x md l s) (hb : Below W.heap.size W W') : ItIn R T L w W' no v x md l s :=
 ⟨h.res.low hb,h.own.low hb,h.row.keep (TFr.of_below (K:=fun _=>False) hb) (fun _ h=>h.elim),h.rt.then hb,Nat.le_trans h.big hb.size⟩
theorem ItIn.neg (h : ItIn R T L w W no v x md l s) (hR : R < w.heap.size) (b : Bool) : ItIn R T L w (W.setCell ⟨w.heap.size+1,0,none⟩ (.bool b)) b v x md l s :=
 ⟨h.res.at (by omega) _ _,h.own.set 0 _ rfl,h.row.keep (TFr.at (w.heap.size+1) 0 _) (fun k e=>by omega),h.rt.set hR (by omega) _ _,by simpa using h.big⟩
theorem ItIn.text (h : ItIn R T L w W no v x md l s) (hR : R < w.heap.size) (y : Value) : ItIn R T L w (W.setCell ⟨w.heap.size+1,2,none⟩ y) no v y md l s :=
 ⟨h.res.at (by omega) _ _,h.own.set 2 _ rfl,h.row.keep (TFr.at (w.heap.size+1) 2 _) (fun k e=>by omega),h.rt.set hR (by omega) _ _,by simpa using h.big⟩
theorem ItIn.mode (h : ItIn R T L w W no v x md l s) (hR : R < w.heap.size) (k : Int) : ItIn R T L w (W.setCell ⟨w.heap.size+1,3,none⟩ (.int .i64 k)) no v x k l s :=
 ⟨h.res.at (by omega) _ _,h.own.set 3 _ rfl,h.row.keep (TFr.at (w.heap.size+1) 3 _) (fun k e=>by omega),h.rt.set hR (by omega) _ _,by simpa using h.big⟩
end
def onN : Value→Nat
 | .bool true=>1
 | _=>0
def DiTo (R T : Nat) (L : List XTok) (p : PIt × DS) (w : World) (e : Ending) (w' : World) : Prop:=∃ a q c,e=.returned (.agg #[.bool p.1.no,.slice a q c,.string (strB p.1.x),.int .i64 p.1.mode])∧q=p.1.ns.length∧RowK nameD (· < w.heap.size) w' (.slice a q c) p.1.ns∧DdTo R T L p.2 w w'
theorem zdY {α : Type} {b : List UInt8} {one : DS→α × DS} {n : Nat} {l : List α} {s : DS} (h : dIs s 1 b=false) : dRow b one n l s=(l,s):=by
 cases n with
 | zero=>rfl
 | succ n=>rw [dRow,h];rfl
theorem zcY {α : Type} {b : List UInt8} {one : DS→α × DS} {n : Nat} {l : List α} {s : DS} (h : dIs s 1 b=true) : dRow b one (n+1) l s=dRow b one n (l++[(one (dSkip s)).1]) (one (dSkip s)).2:=by rw [dRow,if_pos h]
theorem zfJ {w : World} {R T : Nat} {L : List XTok} {s : DS} {n : Nat} (h : DdR w R T L s) (hn : s.l.length≤n) : Calls Tryz.prog 140 #[.pointer (some ⟨R,0,none⟩)] w (DiTo R T L (dItem n s) w):=by
 have hR:=h.lt
 have h5 : s.l.length≤500:=by
  obtain ⟨a,c,h⟩:=h
  have:=h.le
  have:=h.len
  omega
 obtain ⟨⟨l1,s1⟩,h1⟩ : ∃ z,dRow1 wOr dName n (dTake s 1 wNot)=z:=⟨_,rfl⟩
 obtain ⟨⟨x2,s2⟩,h2⟩ : ∃ z,dName s1=z:=⟨_,rfl⟩
 obtain ⟨⟨m3,s3⟩,h3⟩ : ∃ z,dMode s2=z:=⟨_,rfl⟩
 obtain ⟨bn,hbn⟩ : ∃ z,dIs s 1 wNot=z:=⟨_,rfl⟩
 obtain ⟨s0,hs0⟩ : ∃ z,dTake s 1 wNot=z:=⟨_,rfl⟩
 have hz : dItem n s=(⟨bn,l1,x2,m3⟩,s3):=by
  unfold dItem
  dsimp only
  rw [h1,hbn]
  dsimp only
  rw [h2]
  dsimp only
  rw [h3]
 rw [hz]
 rw [hs0] at h1
 have hle0 : s0.l.length≤s.l.length:=by rw [← hs0];exact zdZ _ _
 have HX:=hid (And.intro h2 h3)
 have HL0:=hid (show dRow wOr dName n ([]++[(dName s0).1]) (dName s0).2=(l1,s1)∧(dName s0).2.l.length≤n∧([] : List (List UInt8)).length+s0.l.length≤500 from ⟨h1,Nat.le_trans zaU (by omega),by simp;omega⟩)
 have hb1:=(Below.refl w.heap.size w).alloc (Nat.le_refl _) (.cells #[.bool false,.slice none 0 0,.string ⟨#[]⟩,.int .i64 0] 44)
 have hb2:=hb1.alloc hb1.size (.cells #[.bool false,.slice none 0 0,.string ⟨#[]⟩,.int .i64 1] 44)
 have P2:=(Blk.new w #[.bool false,.slice none 0 0,.string ⟨#[]⟩,.int .i64 0] 44).low ((Below.refl _ _).alloc (Nat.le_refl _) (.cells #[.bool false,.slice none 0 0,.string ⟨#[]⟩,.int .i64 1] 44))
 have P3:=Blk.new (w.alloc (.cells #[.bool false,.slice none 0 0,.string ⟨#[]⟩,.int .i64 0] 44)) #[.bool false,.slice none 0 0,.string ⟨#[]⟩,.int .i64 1] 44
 rw [show (w.alloc (.cells #[.bool false,.slice none 0 0,.string ⟨#[]⟩,.int .i64 0] 44)).heap.size=w.heap.size+1 by simp] at P3
 have HI : Hid (ItIn R T L w ((w.alloc (.cells #[.bool false,.slice none 0 0,.string ⟨#[]⟩,.int .i64 0] 44)).alloc (.cells #[.bool false,.slice none 0 0,.string ⟨#[]⟩,.int .i64 1] 44)) false (.slice none 0 0) (.string ⟨#[]⟩) 1 [] s):=hid ⟨P2,P3,⟨[],rfl,⟨by simp,.inl ⟨rfl,rfl⟩⟩,fun c hc=>by simp at hc,fun j x hj=>by simp at hj⟩,DdTo.of_below h hb2,by simp⟩
 have HC:=hid (zaf HI.out.rt.rd wNot)
 rw [hbn,hs0] at HC
 have HC2 : Hid (Calls Tryz.prog 141 #[.pointer (some ⟨R,0,none⟩),.int .i64 1,.string ⟨#[110,111,116]⟩] ((w.alloc (.cells #[.bool false,.slice none 0 0,.string ⟨#[]⟩,.int .i64 0] 44)).alloc (.cells #[.bool false,.slice none 0 0,.string ⟨#[]⟩,.int .i64 1] 44)) fun e w'=>e=.returned (.bool bn)∧DdTo R T L s0 ((w.alloc (.cells #[.bool false,.slice none 0 0,.string ⟨#[]⟩,.int .i64 0] 44)).alloc (.cells #[.bool false,.slice none 0 0,.string ⟨#[]⟩,.int .i64 1] 44)) w'):=HC.out
 clear h h5 h1 h2 h3 hbn hs0 hz hle0 hb1 hb2 P2 P3 HC hn
 go_enter Tryz.func140,Tryz.ntmps140
 go_wp2_with fail
 with_reducible refine HC2.out.mono ?_
 rintro e w3 ⟨rfl,hd⟩
 have HI:=hid (HI.out.call hR hd)
 clear hd HC2
 have c0:=zab HI.out.own (k:=0) rfl
 have c1:=zab HI.out.own (k:=1) rfl
 have c2:=zab HI.out.own (k:=2) rfl
 have c3:=zab HI.out.own (k:=3) rfl
 have fc0:=zac HI.out.own (k:=0)
 have fc1:=zac HI.out.own (k:=1)
 have fc2:=zac HI.out.own (k:=2)
 have fc3:=zac HI.out.own (k:=3)
 have HI:=hid (HI.out.neg hR bn)
 go_wp2
 clear c0 c1 c2 c3 fc0 fc1 fc2 fc3
 go_loopw [4,5] (fun on _ wr=>∃ (b : Bool) (v : Value) (l : List (List UInt8)) (s : DS) (k : Nat),on=.bool b∧Hid (ItIn R T L w wr bn v (.string ⟨#[]⟩) 1 l s)∧Hid (b=true→dRow wOr dName k (l++[(dName s).1]) (dName s).2=(l1,s1)∧(dName s).2.l.length≤k∧l.length+s.l.length≤500)∧Hid (b=false→(l,s)=(l1,s1))) (fun on _ wr=>2*leftD R wr+onN on)
 case atStart=>exact ⟨true,.slice none 0 0,[],s0,n,rfl,HI,hid (fun _=>HL0.out),hid (fun h=>by cases h)⟩
 case round =>
  clear HI HL0
  obtain ⟨b,v,l,s,k,rfl,HI,HT,HE⟩:=hrel
  cases b with
  | false =>
    have he:=HE.out rfl
    injection he with e1 e2
    subst e1 e2
    clear HE HT
    have HC:=zaL HI.out.rt.rd
    rw [HX.out.1] at HC
    have HC2 : Hid (Calls Tryz.prog 144 #[.pointer (some ⟨R,0,none⟩)] wr fun e w'=>e=.returned (.string (strB x2))∧DdTo R T L s2 wr w'):=hid HC
    clear HC
    go_wp2_with fail
    with_reducible refine HC2.out.mono ?_
    rintro e w4 ⟨rfl,hd⟩
    have HI:=hid (HI.out.call hR hd)
    clear hd HC2
    have c0:=zab HI.out.own (k:=0) rfl
    have c1:=zab HI.out.own (k:=1) rfl
    have c2:=zab HI.out.own (k:=2) rfl
    have c3:=zab HI.out.own (k:=3) rfl
    have fc0:=zac HI.out.own (k:=0)
    have fc1:=zac HI.out.own (k:=1)
    have fc2:=zac HI.out.own (k:=2)
    have fc3:=zac HI.out.own (k:=3)
    have HI:=hid (HI.out.text hR (.string (strB x2)))
    have h3:=HX.out.2
    clear HX
    unfold dMode at h3
    cases hp : dIs s2 4 [43] with
    | true =>
      rw [hp,if_pos rfl] at h3
      injection h3 with e1 e2
      subst e1 e2
      have HP0:=hid hp
      clear hp
      have HC:=hid (zaj HI.out.rt.rd [43])
      rw [show dIs s2 4 [43]=true from HP0.out,show dTake s2 4 [43]=(dSkip s2) from zah HP0.out] at HC
      have HC2 : Hid (Calls Tryz.prog 141 #[.pointer (some ⟨R,0,none⟩),.int .i64 4,.string ⟨#[43]⟩] (w4.setCell ⟨w.heap.size+1,2,none⟩ (.string (strB x2))) fun e w'=>e=.returned (.bool true)∧DdTo R T L (dSkip s2) (w4.setCell ⟨w.heap.size+1,2,none⟩ (.string (strB x2))) w'):=HC.out
      clear HC
      go_wp2_with fail
      with_reducible refine HC2.out.mono ?_
      rintro e w5 ⟨rfl,hd⟩
      clear c0 c1 c2 c3 fc0 fc1 fc2 fc3
      have HI:=hid (HI.out.call hR hd)
      clear hd HC2
      have c0:=zab HI.out.own (k:=0) rfl
      have c1:=zab HI.out.own (k:=1) rfl
      have c2:=zab HI.out.own (k:=2) rfl
      have c3:=zab HI.out.own (k:=3) rfl
      have fc0:=zac HI.out.own (k:=0)
      have fc1:=zac HI.out.own (k:=1)
      have fc2:=zac HI.out.own (k:=2)
      have fc3:=zac HI.out.own (k:=3)
      have HI:=hid (HI.out.mode hR 2)
      obtain ⟨va,vc,rfl⟩:=HI.out.row.slice
      have KR:=hid HI.out.row.row
      obtain ⟨q,hq⟩ : ∃ q,l.length=q:=⟨_,rfl⟩
      have HQ:=hid hq
      rw [hq] at HI KR
      clear hq
      have e0:=zab HI.out.own (k:=0) rfl
      have e1:=zab HI.out.own (k:=1) rfl
      have e2:=zab HI.out.own (k:=2) rfl
      have e3:=zab HI.out.own (k:=3) rfl
      have fe0:=zac HI.out.own (k:=0)
      have fe1:=zac HI.out.own (k:=1)
      have fe2:=zac HI.out.own (k:=2)
      have fe3:=zac HI.out.own (k:=3)
      have r0:=zab HI.out.res (k:=0) rfl
      have r1:=zab HI.out.res (k:=1) rfl
      have r2:=zab HI.out.res (k:=2) rfl
      have r3:=zab HI.out.res (k:=3) rfl
      have fr0:=zac HI.out.res (k:=0)
      have fr1:=zac HI.out.res (k:=1)
      have fr2:=zac HI.out.res (k:=2)
      have fr3:=zac HI.out.res (k:=3)
      go_wp2
      refine bodyPost_ret (v:=.agg #[.bool bn,.slice va q vc,.string (strB x2),.int .i64 2]) (by simp [results,Tryz.results140,go_sem,r0,r1,r2,r3]) rfl ⟨va,q,vc,rfl,HQ.out.symm,?_,(((HI.out.rt.set hR (Nat.le_refl _) 0 _).set hR (Nat.le_refl _) 1 _).set hR (Nat.le_refl _) 2 _).set hR (Nat.le_refl _) 3 _⟩
      exact (((((KR.out.keepR (TFr.at w.heap.size 0 _) (by omega)).keepR (TFr.at w.heap.size 1 _) (by omega)).keepR (TFr.at w.heap.size 2 _) (by omega)).keepR (TFr.at w.heap.size 3 _) (by omega)).mono (fun g hg=>by omega))
    | false =>
      have HP0:=hid hp
      rw [hp,if_neg (by simp)] at h3
      clear hp
      have HC:=hid (zaj HI.out.rt.rd [43])
      rw [show dIs s2 4 [43]=false from HP0.out,show dTake s2 4 [43]=s2 from zai HP0.out] at HC
      have HC2 : Hid (Calls Tryz.prog 141 #[.pointer (some ⟨R,0,none⟩),.int .i64 4,.string ⟨#[43]⟩] (w4.setCell ⟨w.heap.size+1,2,none⟩ (.string (strB x2))) fun e w'=>e=.returned (.bool false)∧DdTo R T L s2 (w4.setCell ⟨w.heap.size+1,2,none⟩ (.string (strB x2))) w'):=HC.out
      clear HC
      go_wp2_with fail
      with_reducible refine HC2.out.mono ?_
      rintro e w5 ⟨rfl,hd⟩
      clear c0 c1 c2 c3 fc0 fc1 fc2 fc3
      have HI:=hid (HI.out.call hR hd)
      clear hd HC2
      clear HP0
      cases hp : dIs s2 4 [63] with
      | true =>
        rw [hp,if_pos rfl] at h3
        injection h3 with e1 e2
        subst e1 e2
        have HP0:=hid hp
        clear hp
        have HC:=hid (zaj HI.out.rt.rd [63])
        rw [show dIs s2 4 [63]=true from HP0.out,show dTake s2 4 [63]=(dSkip s2) from zah HP0.out] at HC
        have HC2 : Hid (Calls Tryz.prog 141 #[.pointer (some ⟨R,0,none⟩),.int .i64 4,.string ⟨#[63]⟩] w5 fun e w'=>e=.returned (.bool true)∧DdTo R T L (dSkip s2) w5 w'):=HC.out
        clear HC
        go_wp2_with fail
        with_reducible refine HC2.out.mono ?_
        rintro e w6 ⟨rfl,hd⟩
        have HI:=hid (HI.out.call hR hd)
        clear hd HC2
        have c0:=zab HI.out.own (k:=0) rfl
        have c1:=zab HI.out.own (k:=1) rfl
        have c2:=zab HI.out.own (k:=2) rfl
        have c3:=zab HI.out.own (k:=3) rfl
        have fc0:=zac HI.out.own (k:=0)
        have fc1:=zac HI.out.own (k:=1)
        have fc2:=zac HI.out.own (k:=2)
        have fc3:=zac HI.out.own (k:=3)
        have HI:=hid (HI.out.mode hR 3)
        obtain ⟨va,vc,rfl⟩:=HI.out.row.slice
        have KR:=hid HI.out.row.row
        obtain ⟨q,hq⟩ : ∃ q,l.length=q:=⟨_,rfl⟩
        have HQ:=hid hq
        rw [hq] at HI KR
        clear hq
        have e0:=zab HI.out.own (k:=0) rfl
        have e1:=zab HI.out.own (k:=1) rfl
        have e2:=zab HI.out.own (k:=2) rfl
        have e3:=zab HI.out.own (k:=3) rfl
        have fe0:=zac HI.out.own (k:=0)
        have fe1:=zac HI.out.own (k:=1)
        have fe2:=zac HI.out.own (k:=2)
        have fe3:=zac HI.out.own (k:=3)
        have r0:=zab HI.out.res (k:=0) rfl
        have r1:=zab HI.out.res (k:=1) rfl
        have r2:=zab HI.out.res (k:=2) rfl
        have r3:=zab HI.out.res (k:=3) rfl
        have fr0:=zac HI.out.res (k:=0)
        have fr1:=zac HI.out.res (k:=1)
        have fr2:=zac HI.out.res (k:=2)
        have fr3:=zac HI.out.res (k:=3)
        go_wp2
        refine bodyPost_ret (v:=.agg #[.bool bn,.slice va q vc,.string (strB x2),.int .i64 3]) (by simp [results,Tryz.results140,go_sem,r0,r1,r2,r3]) rfl ⟨va,q,vc,rfl,HQ.out.symm,?_,(((HI.out.rt.set hR (Nat.le_refl _) 0 _).set hR (Nat.le_refl _) 1 _).set hR (Nat.le_refl _) 2 _).set hR (Nat.le_refl _) 3 _⟩
        exact (((((KR.out.keepR (TFr.at w.heap.size 0 _) (by omega)).keepR (TFr.at w.heap.size 1 _) (by omega)).keepR (TFr.at w.heap.size 2 _) (by omega)).keepR (TFr.at w.heap.size 3 _) (by omega)).mono (fun g hg=>by omega))
      | false =>
        have HP0:=hid hp
        rw [hp,if_neg (by simp)] at h3
        injection h3 with e1 e2
        subst e1 e2
        clear hp
        have HC:=hid (zaj HI.out.rt.rd [63])
        rw [show dIs s2 4 [63]=false from HP0.out,show dTake s2 4 [63]=s2 from zai HP0.out] at HC
        have HC2 : Hid (Calls Tryz.prog 141 #[.pointer (some ⟨R,0,none⟩),.int .i64 4,.string ⟨#[63]⟩] w5 fun e w'=>e=.returned (.bool false)∧DdTo R T L s2 w5 w'):=HC.out
        clear HC
        go_wp2_with fail
        with_reducible refine HC2.out.mono ?_
        rintro e w6 ⟨rfl,hd⟩
        have HI:=hid (HI.out.call hR hd)
        clear hd HC2
        obtain ⟨va,vc,rfl⟩:=HI.out.row.slice
        have KR:=hid HI.out.row.row
        obtain ⟨q,hq⟩ : ∃ q,l.length=q:=⟨_,rfl⟩
        have HQ:=hid hq
        rw [hq] at HI KR
        clear hq
        have e0:=zab HI.out.own (k:=0) rfl
        have e1:=zab HI.out.own (k:=1) rfl
        have e2:=zab HI.out.own (k:=2) rfl
        have e3:=zab HI.out.own (k:=3) rfl
        have fe0:=zac HI.out.own (k:=0)
        have fe1:=zac HI.out.own (k:=1)
        have fe2:=zac HI.out.own (k:=2)
        have fe3:=zac HI.out.own (k:=3)
        have r0:=zab HI.out.res (k:=0) rfl
        have r1:=zab HI.out.res (k:=1) rfl
        have r2:=zab HI.out.res (k:=2) rfl
        have r3:=zab HI.out.res (k:=3) rfl
        have fr0:=zac HI.out.res (k:=0)
        have fr1:=zac HI.out.res (k:=1)
        have fr2:=zac HI.out.res (k:=2)
        have fr3:=zac HI.out.res (k:=3)
        go_wp2
        refine bodyPost_ret (v:=.agg #[.bool bn,.slice va q vc,.string (strB x2),.int .i64 1]) (by simp [results,Tryz.results140,go_sem,r0,r1,r2,r3]) rfl ⟨va,q,vc,rfl,HQ.out.symm,?_,(((HI.out.rt.set hR (Nat.le_refl _) 0 _).set hR (Nat.le_refl _) 1 _).set hR (Nat.le_refl _) 2 _).set hR (Nat.le_refl _) 3 _⟩
        exact (((((KR.out.keepR (TFr.at w.heap.size 0 _) (by omega)).keepR (TFr.at w.heap.size 1 _) (by omega)).keepR (TFr.at w.heap.size 2 _) (by omega)).keepR (TFr.at w.heap.size 3 _) (by omega)).mono (fun g hg=>by omega))
  | true =>
    have HT2:=hid (HT.out rfl)
    obtain ⟨⟨y,s4⟩,hy⟩ : ∃ z,dName s=z:=⟨_,rfl⟩
    rw [hy] at HT2
    dsimp only at HT2
    have HA:=hid hy
    have HL:=hid (zaD HI.out.rt.rd)
    have HLE:=hid (show s4.l.length≤s.l.length by have:=zaU (s:=s);rw [hy] at this;exact this)
    clear hy HT HE
    obtain ⟨va,vc,rfl⟩:=HI.out.row.slice
    obtain ⟨q,hq⟩ : ∃ q,l.length=q:=⟨_,rfl⟩
    have HQ:=hid hq
    rw [hq] at HI
    clear hq
    have HC:=zaL HI.out.rt.rd
    rw [HA.out] at HC
    have HC2 : Hid (Calls Tryz.prog 144 #[.pointer (some ⟨R,0,none⟩)] wr fun e w'=>e=.returned (.string (strB y))∧DdTo R T L s4 wr w'):=hid HC
    clear HC
    go_wp2_with fail
    with_reducible refine HC2.out.mono ?_
    rintro e w4 ⟨rfl,hd⟩
    have HI:=hid (HI.out.call hR hd)
    clear hd HC2
    have HAP : ∃ a9 l9 c9 w9,(Builtin.append_ #[38,38] 38 #[.slice va q vc,.slice (some ⟨w4.heap.size,0,none⟩) 1 1]).run Tryz.prog (w4.alloc (.cells #[.string (strB y)] 9))=.ok (.slice a9 l9 c9) w9∧Hid (OwnP nameD w9 (w.heap.size+2) 9 (.slice a9 l9 c9) (l++[y]))∧Hid (DdTo R T L s4 w w9)∧Blk w9 w.heap.size #[.bool false,.slice none 0 0,.string ⟨#[]⟩,.int .i64 0] 44∧Blk w9 (w.heap.size+1) #[.bool bn,.slice va q vc,.string ⟨#[]⟩,.int .i64 1] 44∧w.heap.size+2≤w9.heap.size:=by
     have hb5:=(Below.refl w4.heap.size w4).alloc (Nat.le_refl _) (.cells #[.string (strB y)] 9)
     have h5:=HI.out.low hb5
     have hsz : (w4.alloc (.cells #[.string (strB y)] 9)).heap.size=w4.heap.size+1:=by simp
     have ho:=HI.out.row.own
     have hpp : nameD.P (fun g=>g < w.heap.size+2∨(Value.slice va q vc).ownBlock=some g) (w4.alloc (.cells #[.string (strB y)] 9)) [.string (strB y)] y:=rfl
     obtain ⟨v9,w9,hr,ho9,hg⟩:=OwnP.append (ts:=38) (ty:=38) (by kernel_rfl) strI rfl (by decide) (by decide) h5.row h5.big (by have:=HT2.out.2.2;have:=HQ.out;omega) hpp (heap_alloc_new w4 _)
     obtain ⟨a9,c9,rfl⟩:=ho9.slice
     have hf : TFr (fun k=>(Value.slice va q vc).ownBlock=some k) (w4.alloc (.cells #[.string (strB y)] 9)) w9:=TFr.of_grown hg (fun k hk=>hk)
     refine ⟨a9,_,c9,w9,hr,hid ho9,hid (h5.rt.grown hR hg (fun k hk=>by have:=(ho k hk).1;omega)),h5.res.keep hf (fun hk=>by have:=(ho _ hk).1;omega),h5.own.keep hf (fun hk=>by have:=(ho _ hk).1;omega),Nat.le_trans h5.big hf.size⟩
    obtain ⟨a9,l9,c9,w9,hr9,O9,D9,B9,G9,S9⟩:=HAP
    have c1:=zab HI.out.own (k:=1) rfl
    have k1:=zab G9 (k:=1) rfl
    have fk1:=zac G9 (k:=1)
    have HI : Hid (ItIn R T L w (w9.setCell ⟨w.heap.size+1,1,none⟩ (.slice a9 l9 c9)) bn (.slice a9 l9 c9) (.string ⟨#[]⟩) 1 (l++[y]) s4):=hid ⟨B9.at (by omega) _ _,G9.set 1 _ rfl,O9.out.keep (TFr.at (w.heap.size+1) 1 _) (fun k e=>by omega),D9.out.set hR (by omega) _ _,by simpa using S9⟩
    clear B9 G9 O9 D9 S9
    cases hp : dIs s4 1 [111,114] with
    | true =>
      have HP0:=hid hp
      obtain ⟨k3,rfl⟩ : ∃ k3,k=k3+1:=by
       have h1:=zaI hp
       have h2:=HT2.out.2.1
       exact ⟨k - 1,by omega⟩
      have HN : Hid (dRow wOr dName k3 ((l++[y])++[(dName (dSkip s4)).1]) (dName (dSkip s4)).2=(l1,s1)∧(dName (dSkip s4)).2.l.length≤k3∧(l++[y]).length+(dSkip s4).l.length≤500):=by
       have h1:=zaI hp
       have h2:=HT2.out
       refine hid ⟨?_,Nat.le_trans zaU (by omega),?_⟩
       ·rw [← zcY (show dIs s4 1 wOr=true from hp)]
        exact h2.1
       ·have:=HLE.out
        rw [List.length_append,List.length_singleton]
        omega
      have HLT:=hid (show (dSkip s4).l.length < s.l.length by have:=zaI hp;have:=HLE.out;omega)
      have HC:=hid (zaf HI.out.rt.rd [111,114])
      rw [hp,zah hp] at HC
      have HC2 : Hid (Calls Tryz.prog 141 #[.pointer (some ⟨R,0,none⟩),.int .i64 1,.string ⟨#[111,114]⟩] (w9.setCell ⟨w.heap.size+1,1,none⟩ (.slice a9 l9 c9)) fun e w'=>e=.returned (.bool true)∧DdTo R T L (dSkip s4) (w9.setCell ⟨w.heap.size+1,1,none⟩ (.slice a9 l9 c9)) w'):=HC.out
      clear HC hp HT2
      go_wp2_with (at_builtin;refine Lib.wpList_append_run _ rfl _ _ _ _ rfl _ _ rfl rfl _ _ hr9 ?_;clear hr9)
      with_reducible refine HC2.out.mono ?_
      rintro e w10 ⟨rfl,hd⟩
      have HI:=hid (HI.out.call hR hd)
      clear hd HC2 c1 k1 fk1
      go_wp2
      refine ⟨⟨true,_,l++[y],dSkip s4,k3,rfl,HI,hid (fun _=>HN.out),hid (fun h=>by cases h)⟩,?_⟩
      rw [zaD HI.out.rt.rd,HL.out]
      have:=HLT.out
      show 2*_+1 < 2*_+1
      omega
    | false =>
      have HN : Hid ((l++[y],s4)=(l1,s1)):=hid (by
       have h2:=HT2.out.1
       rw [zdY (show dIs s4 1 wOr=false from hp)] at h2
       exact h2)
      have HC:=hid (zaf HI.out.rt.rd [111,114])
      rw [hp,zai hp] at HC
      have HC2 : Hid (Calls Tryz.prog 141 #[.pointer (some ⟨R,0,none⟩),.int .i64 1,.string ⟨#[111,114]⟩] (w9.setCell ⟨w.heap.size+1,1,none⟩ (.slice a9 l9 c9)) fun e w'=>e=.returned (.bool false)∧DdTo R T L s4 (w9.setCell ⟨w.heap.size+1,1,none⟩ (.slice a9 l9 c9)) w'):=HC.out
      clear HC hp HT2
      go_wp2_with (at_builtin;refine Lib.wpList_append_run _ rfl _ _ _ _ rfl _ _ rfl rfl _ _ hr9 ?_;clear hr9)
      with_reducible refine HC2.out.mono ?_
      rintro e w10 ⟨rfl,hd⟩
      have HI:=hid (HI.out.call hR hd)
      clear hd HC2 c1 k1 fk1
      go_wp2
      refine ⟨⟨false,_,l++[y],s4,k,rfl,HI,hid (fun h=>by cases h),hid (fun _=>HN.out)⟩,?_⟩
      rw [zaD HI.out.rt.rd,HL.out]
      have:=HLE.out
      show 2*_+0 < 2*_+1
      omega
theorem rsg1 (w : World) : Calls Tryz.prog 184 #[.int .i64 1] w fun e w'=>e=.returned (.string ⟨#[61]⟩)∧Below w.heap.size w w':=by
 go_enter Tryz.func184,Tryz.ntmps184
 go_wp2
 go_ret
 exact ⟨rfl,(Below.refl _ _).alloc (Nat.le_refl _) _⟩
theorem rsg2 (w : World) : Calls Tryz.prog 184 #[.int .i64 2] w fun e w'=>e=.returned (.string ⟨#[33,61]⟩)∧Below w.heap.size w w':=by
 go_enter Tryz.func184,Tryz.ntmps184
 go_wp2
 go_ret
 exact ⟨rfl,(Below.refl _ _).alloc (Nat.le_refl _) _⟩
theorem rsg3 (w : World) : Calls Tryz.prog 184 #[.int .i64 3] w fun e w'=>e=.returned (.string ⟨#[60]⟩)∧Below w.heap.size w w':=by
 go_enter Tryz.func184,Tryz.ntmps184
 go_wp2
 go_ret
 exact ⟨rfl,(Below.refl _ _).alloc (Nat.le_refl _) _⟩
theorem rsg4 (w : World) : Calls Tryz.prog 184 #[.int .i64 4] w fun e w'=>e=.returned (.string ⟨#[60,61]⟩)∧Below w.heap.size w w':=by
 go_enter Tryz.func184,Tryz.ntmps184
 go_wp2
 go_ret
 exact ⟨rfl,(Below.refl _ _).alloc (Nat.le_refl _) _⟩
theorem rsg5 (w : World) : Calls Tryz.prog 184 #[.int .i64 5] w fun e w'=>e=.returned (.string ⟨#[62]⟩)∧Below w.heap.size w w':=by
 go_enter Tryz.func184,Tryz.ntmps184
 go_wp2
 go_ret
 exact ⟨rfl,(Below.refl _ _).alloc (Nat.le_refl _) _⟩
theorem rsg6 (w : World) : Calls Tryz.prog 184 #[.int .i64 6] w fun e w'=>e=.returned (.string ⟨#[62,61]⟩)∧Below w.heap.size w w':=by
 go_enter Tryz.func184,Tryz.ntmps184
 go_wp2
 go_ret
 exact ⟨rfl,(Below.refl _ _).alloc (Nat.le_refl _) _⟩
theorem rpk1 (w : World) : Calls Tryz.prog 145 #[.int .i64 1] w fun e w'=>e=.returned (.string ⟨#[97,110,121]⟩)∧Below w.heap.size w w':=by
 go_enter Tryz.func145,Tryz.ntmps145
 go_wp2
 go_ret
 exact ⟨rfl,(Below.refl _ _).alloc (Nat.le_refl _) _⟩
theorem rpk2 (w : World) : Calls Tryz.prog 145 #[.int .i64 2] w fun e w'=>e=.returned (.string ⟨#[110,101,120,116]⟩)∧Below w.heap.size w w':=by
 go_enter Tryz.func145,Tryz.ntmps145
 go_wp2
 go_ret
 exact ⟨rfl,(Below.refl _ _).alloc (Nat.le_refl _) _⟩
theorem rpk3 (w : World) : Calls Tryz.prog 145 #[.int .i64 3] w fun e w'=>e=.returned (.string ⟨#[115,116,114,105,99,116]⟩)∧Below w.heap.size w w':=by
 go_enter Tryz.func145,Tryz.ntmps145
 go_wp2
 go_ret
 exact ⟨rfl,(Below.refl _ _).alloc (Nat.le_refl _) _⟩
structure PdIn (R T : Nat) (L : List XTok) (w W : World) (c a0 a1 a2 a3 a4 a5 a6 b0 b1 b2 b3 b4 b5 b6 : Value) (s : DS) : Prop where
 res : Blk W w.heap.size #[.int .i64 0,.int .i64 0,.int .i64 0,.int .i64 0,.string ⟨#[]⟩,.string ⟨#[]⟩,.string ⟨#[]⟩,.slice none 0 0,.int .i64 0,.int .i64 0,.int .i64 0,.string ⟨#[]⟩,.string ⟨#[]⟩,.string ⟨#[]⟩,.slice none 0 0] 91
 own : Blk W (w.heap.size+1) #[c,a0,a1,a2,a3,a4,a5,a6,b0,b1,b2,b3,b4,b5,b6] 91
 rt : DdTo R T L s w W
 big : w.heap.size+2≤W.heap.size
section
variable {R T : Nat} {L : List XTok} {w W W' : World} {c a0 a1 a2 a3 a4 a5 a6 b0 b1 b2 b3 b4 b5 b6 : Value} {s s' : DS}
theorem PdIn.call (h : PdIn R T L w W c a0 a1 a2 a3 a4 a5 a6 b0 b1 b2 b3 b4 b5 b6 s) (hR : R < w.heap.size) (hd : DdTo R T L s' W W') : PdIn R T L w W' c a0 a1 a2 a3 a4 a5 a6 b0 b1 b2 b3 b4 b5 b6 s' :=
 ⟨h.res.keep hd.fr (by omega),h.own.keep hd.fr (by omega),h.rt.trans hd,Nat.le_trans h.big hd.fr.size⟩
theorem PdIn.low (h : PdIn R T L w W c a0 a1 a2 a3 a4 a5 a6 b0 b1 b2 b3 b4 b5 b6 s) (hb : Below W.heap.size W W') : PdIn R T L w W' c a0 a1 a2 a3 a4 a5 a6 b0 b1 b2 b3 b4 b5 b6 s :=
 ⟨h.res.low hb,h.own.low hb,h.rt.then hb,Nat.le_trans h.big hb.size⟩
theorem PdIn.setC (h : PdIn R T L w W c a0 a1 a2 a3 a4 a5 a6 b0 b1 b2 b3 b4 b5 b6 s) (hR : R < w.heap.size) (v0 : Value) : PdIn R T L w (W.setCell ⟨w.heap.size+1,0,none⟩ (v0)) v0 a0 a1 a2 a3 a4 a5 a6 b0 b1 b2 b3 b4 b5 b6 s :=
 ⟨(h.res.at (by omega) 0 (v0)),(h.own.set 0 (v0) (cs':=#[v0,a0,a1,a2,a3,a4,a5,a6,b0,b1,b2,b3,b4,b5,b6]) rfl),(h.rt.set hR (by omega) 0 (v0)),by simpa using h.big⟩
theorem PdIn.setL (h : PdIn R T L w W c a0 a1 a2 a3 a4 a5 a6 b0 b1 b2 b3 b4 b5 b6 s) (hR : R < w.heap.size) (v0 v1 v2 v3 v4 v5 v6 : Value) : PdIn R T L w (((((((W.setCell ⟨w.heap.size+1,1,none⟩ (v0)).setCell ⟨w.heap.size+1,2,none⟩ (v1)).setCell ⟨w.heap.size+1,3,none⟩ (v2)).setCell ⟨w.heap.size+1,4,none⟩ (v3)).setCell ⟨w.heap.size+1,5,none⟩ (v4)).setCell ⟨w.heap.size+1,6,none⟩ (v5)).setCell ⟨w.heap.size+1,7,none⟩ (v6)) c v0 v1 v2 v3 v4 v5 v6 b0 b1 b2 b3 b4 b5 b6 s :=
 ⟨(((((((h.res.at (by omega) 1 (v0)).at (by omega) 2 (v1)).at (by omega) 3 (v2)).at (by omega) 4 (v3)).at (by omega) 5 (v4)).at (by omega) 6 (v5)).at (by omega) 7 (v6)),(((((((h.own.set 1 (v0) (cs':=#[c,v0,a1,a2,a3,a4,a5,a6,b0,b1,b2,b3,b4,b5,b6]) rfl).set 2 (v1) (cs':=#[c,v0,v1,a2,a3,a4,a5,a6,b0,b1,b2,b3,b4,b5,b6]) rfl).set 3 (v2) (cs':=#[c,v0,v1,v2,a3,a4,a5,a6,b0,b1,b2,b3,b4,b5,b6]) rfl).set 4 (v3) (cs':=#[c,v0,v1,v2,v3,a4,a5,a6,b0,b1,b2,b3,b4,b5,b6]) rfl).set 5 (v4) (cs':=#[c,v0,v1,v2,v3,v4,a5,a6,b0,b1,b2,b3,b4,b5,b6]) rfl).set 6 (v5) (cs':=#[c,v0,v1,v2,v3,v4,v5,a6,b0,b1,b2,b3,b4,b5,b6]) rfl).set 7 (v6) (cs':=#[c,v0,v1,v2,v3,v4,v5,v6,b0,b1,b2,b3,b4,b5,b6]) rfl),(((((((h.rt.set hR (by omega) 1 (v0)).set hR (by omega) 2 (v1)).set hR (by omega) 3 (v2)).set hR (by omega) 4 (v3)).set hR (by omega) 5 (v4)).set hR (by omega) 6 (v5)).set hR (by omega) 7 (v6)),by simpa using h.big⟩
theorem PdIn.setR (h : PdIn R T L w W c a0 a1 a2 a3 a4 a5 a6 b0 b1 b2 b3 b4 b5 b6 s) (hR : R < w.heap.size) (v0 v1 v2 v3 v4 v5 v6 : Value) : PdIn R T L w (((((((W.setCell ⟨w.heap.size+1,8,none⟩ (v0)).setCell ⟨w.heap.size+1,9,none⟩ (v1)).setCell ⟨w.heap.size+1,10,none⟩ (v2)).setCell ⟨w.heap.size+1,11,none⟩ (v3)).setCell ⟨w.heap.size+1,12,none⟩ (v4)).setCell ⟨w.heap.size+1,13,none⟩ (v5)).setCell ⟨w.heap.size+1,14,none⟩ (v6)) c a0 a1 a2 a3 a4 a5 a6 v0 v1 v2 v3 v4 v5 v6 s :=
 ⟨(((((((h.res.at (by omega) 8 (v0)).at (by omega) 9 (v1)).at (by omega) 10 (v2)).at (by omega) 11 (v3)).at (by omega) 12 (v4)).at (by omega) 13 (v5)).at (by omega) 14 (v6)),(((((((h.own.set 8 (v0) (cs':=#[c,a0,a1,a2,a3,a4,a5,a6,v0,b1,b2,b3,b4,b5,b6]) rfl).set 9 (v1) (cs':=#[c,a0,a1,a2,a3,a4,a5,a6,v0,v1,b2,b3,b4,b5,b6]) rfl).set 10 (v2) (cs':=#[c,a0,a1,a2,a3,a4,a5,a6,v0,v1,v2,b3,b4,b5,b6]) rfl).set 11 (v3) (cs':=#[c,a0,a1,a2,a3,a4,a5,a6,v0,v1,v2,v3,b4,b5,b6]) rfl).set 12 (v4) (cs':=#[c,a0,a1,a2,a3,a4,a5,a6,v0,v1,v2,v3,v4,b5,b6]) rfl).set 13 (v5) (cs':=#[c,a0,a1,a2,a3,a4,a5,a6,v0,v1,v2,v3,v4,v5,b6]) rfl).set 14 (v6) (cs':=#[c,a0,a1,a2,a3,a4,a5,a6,v0,v1,v2,v3,v4,v5,v6]) rfl),(((((((h.rt.set hR (by omega) 8 (v0)).set hR (by omega) 9 (v1)).set hR (by omega) 10 (v2)).set hR (by omega) 11 (v3)).set hR (by omega) 12 (v4)).set hR (by omega) 13 (v5)).set hR (by omega) 14 (v6)),by simpa using h.big⟩
end
def DpTo (R T : Nat) (L : List XTok) (p : PPr × DS) (w : World) (e : Ending) (w' : World) : Prop:=∃ xa xq xc ya yq yc d,e=.returned (.agg #[.int .i64 p.1.cmp,.int .i64 p.1.l.k,.int .i64 p.1.l.v.k,.int .i64 p.1.l.v.n,.string (strB p.1.l.v.s),.string (strB p.1.l.x),.string (strB p.1.l.f),.slice xa xq xc,.int .i64 p.1.r.k,.int .i64 p.1.r.v.k,.int .i64 p.1.r.v.n,.string (strB p.1.r.v.s),.string (strB p.1.r.x),.string (strB p.1.r.f),.slice ya yq yc])∧ExK (· < w.heap.size) w' d (.slice xa xq xc) p.1.l.ks∧ExK (· < w.heap.size) w' d (.slice ya yq yc) p.1.r.ks∧DdTo R T L p.2 w w'
theorem zcl {R T : Nat} {L : List XTok} {n : Nat} {w : World} {s : DS} (h : DdR w R T L s) (hok : s.deep≤6) (hn : s.l.length < n) : Calls Tryz.prog 183 #[.pointer (some ⟨R,0,none⟩)] w (DxTo R T L (dExpr (dTerm n) n s) w) :=
 zc7 (m:=n - 1) (fun w s h hok hm=>zcZ n w s h hok (by omega)) (zbH n) (zaM n) h hok (by omega) (by omega)
theorem zfI {w : World} {R T : Nat} {L : List XTok} {s : DS} {n : Nat} (h : DdR w R T L s) (hok : s.deep≤6) (hn : s.l.length < n) : Calls Tryz.prog 142 #[.pointer (some ⟨R,0,none⟩)] w (DpTo R T L (dPred n s) w):=by
 have hR:=h.lt
 obtain ⟨⟨x,s1⟩,hx⟩ : ∃ z,dExpr (dTerm n) n s=z:=⟨_,rfl⟩
 obtain ⟨⟨cm,s2⟩,hc⟩ : ∃ z,dAmong s1 4 1 dCmps=z:=⟨_,rfl⟩
 obtain ⟨s3,hs3⟩ : ∃ z,(dChoose s1 4 dCmps).2=z:=⟨_,rfl⟩
 obtain ⟨⟨y,s4⟩,hy⟩ : ∃ z,dExpr (dTerm n) n s3=z:=⟨_,rfl⟩
 have hcm : (dChoose s1 4 dCmps).1=cm:=by
  unfold dChoose
  rw [hc]
  dsimp only
  split
  ·rename_i h0
   exact h0.symm
  ·rfl
 have hs3' : s3=if cm=0 then dFail s2 else s2:=by
  rw [← hs3]
  unfold dChoose
  rw [hc]
  dsimp only
  split <;> rfl
 have hz : dPred n s=(⟨x,(cm : Int),y⟩,s4):=by
  unfold dPred
  dsimp only
  rw [hx]
  dsimp only
  rw [hcm,hs3,hy]
 rw [hz]
 have hl1:=zct (zbH n) n s
 have hp1:=zbb (zaM n) n s
 rw [hx] at hl1 hp1
 have hl2:=zdy (s:=s1) 4 dCmps
 have hp2:=zcm (s:=s1) 4 dCmps
 rw [hs3] at hl2 hp2
 dsimp only at hl1 hp1
 have HOK:=hid (show s3.deep≤6∧s3.l.length < n from ⟨by omega,by omega⟩)
 have HX3:=hid hs3'
 have HC0:=hid hc
 have hb1:=(Below.refl w.heap.size w).alloc (Nat.le_refl _) (.cells #[.int .i64 0,.int .i64 0,.int .i64 0,.int .i64 0,.string ⟨#[]⟩,.string ⟨#[]⟩,.string ⟨#[]⟩,.slice none 0 0,.int .i64 0,.int .i64 0,.int .i64 0,.string ⟨#[]⟩,.string ⟨#[]⟩,.string ⟨#[]⟩,.slice none 0 0] 91)
 have hb2:=hb1.alloc hb1.size (.cells #[.int .i64 0,.int .i64 0,.int .i64 0,.int .i64 0,.string ⟨#[]⟩,.string ⟨#[]⟩,.string ⟨#[]⟩,.slice none 0 0,.int .i64 0,.int .i64 0,.int .i64 0,.string ⟨#[]⟩,.string ⟨#[]⟩,.string ⟨#[]⟩,.slice none 0 0] 91)
 have P2:=(Blk.new w #[.int .i64 0,.int .i64 0,.int .i64 0,.int .i64 0,.string ⟨#[]⟩,.string ⟨#[]⟩,.string ⟨#[]⟩,.slice none 0 0,.int .i64 0,.int .i64 0,.int .i64 0,.string ⟨#[]⟩,.string ⟨#[]⟩,.string ⟨#[]⟩,.slice none 0 0] 91).low ((Below.refl _ _).alloc (Nat.le_refl _) (.cells #[.int .i64 0,.int .i64 0,.int .i64 0,.int .i64 0,.string ⟨#[]⟩,.string ⟨#[]⟩,.string ⟨#[]⟩,.slice none 0 0,.int .i64 0,.int .i64 0,.int .i64 0,.string ⟨#[]⟩,.string ⟨#[]⟩,.string ⟨#[]⟩,.slice none 0 0] 91))
 have P3:=Blk.new (w.alloc (.cells #[.int .i64 0,.int .i64 0,.int .i64 0,.int .i64 0,.string ⟨#[]⟩,.string ⟨#[]⟩,.string ⟨#[]⟩,.slice none 0 0,.int .i64 0,.int .i64 0,.int .i64 0,.string ⟨#[]⟩,.string ⟨#[]⟩,.string ⟨#[]⟩,.slice none 0 0] 91)) #[.int .i64 0,.int .i64 0,.int .i64 0,.int .i64 0,.string ⟨#[]⟩,.string ⟨#[]⟩,.string ⟨#[]⟩,.slice none 0 0,.int .i64 0,.int .i64 0,.int .i64 0,.string ⟨#[]⟩,.string ⟨#[]⟩,.string ⟨#[]⟩,.slice none 0 0] 91
 rw [show (w.alloc (.cells #[.int .i64 0,.int .i64 0,.int .i64 0,.int .i64 0,.string ⟨#[]⟩,.string ⟨#[]⟩,.string ⟨#[]⟩,.slice none 0 0,.int .i64 0,.int .i64 0,.int .i64 0,.string ⟨#[]⟩,.string ⟨#[]⟩,.string ⟨#[]⟩,.slice none 0 0] 91)).heap.size=w.heap.size+1 by simp] at P3
 have HI : Hid (PdIn R T L w ((w.alloc (.cells #[.int .i64 0,.int .i64 0,.int .i64 0,.int .i64 0,.string ⟨#[]⟩,.string ⟨#[]⟩,.string ⟨#[]⟩,.slice none 0 0,.int .i64 0,.int .i64 0,.int .i64 0,.string ⟨#[]⟩,.string ⟨#[]⟩,.string ⟨#[]⟩,.slice none 0 0] 91)).alloc (.cells #[.int .i64 0,.int .i64 0,.int .i64 0,.int .i64 0,.string ⟨#[]⟩,.string ⟨#[]⟩,.string ⟨#[]⟩,.slice none 0 0,.int .i64 0,.int .i64 0,.int .i64 0,.string ⟨#[]⟩,.string ⟨#[]⟩,.string ⟨#[]⟩,.slice none 0 0] 91)) (.int .i64 0) (.int .i64 0) (.int .i64 0) (.int .i64 0) (.string ⟨#[]⟩) (.string ⟨#[]⟩) (.string ⟨#[]⟩) (.slice none 0 0) (.int .i64 0) (.int .i64 0) (.int .i64 0) (.string ⟨#[]⟩) (.string ⟨#[]⟩) (.string ⟨#[]⟩) (.slice none 0 0) s):=hid ⟨P2,P3,DdTo.of_below h hb2,by simp⟩
 have HX:=hid (DxTo.plain hx (zcl HI.out.rt.rd hok hn))
 have HY:=hid (fun W (hW : DdR W R T L s3)=>DxTo.plain hy (zcl hW HOK.out.1 HOK.out.2))
 clear h hx hc hs3 hy hcm hs3' hz hl1 hp1 hl2 hp2 hb1 hb2 P2 P3 hok hn
 go_enter Tryz.func142,Tryz.ntmps142
 go_wp2_with fail
 with_reducible refine HX.out.mono ?_
 rintro e w3 ⟨kv,dx,rfl,hkv,hd⟩
 obtain ⟨xa,xc,rfl⟩:=hkv.slice
 obtain ⟨xq,hxq⟩ : ∃ q,x.ks.length=q:=⟨_,rfl⟩
 rw [hxq] at hkv ⊢
 replace HI:=hid (HI.out.call hR hd)
 have KX:=hid (show ExK (· < w.heap.size+2) w3 dx (.slice xa xq xc) x.ks from hkv.mono (fun g hg=>by simpa using hg))
 clear hkv hd hxq HX
 have c1:=zab HI.out.own (k:=1) rfl
 have c2:=zab HI.out.own (k:=2) rfl
 have c3:=zab HI.out.own (k:=3) rfl
 have c4:=zab HI.out.own (k:=4) rfl
 have c5:=zab HI.out.own (k:=5) rfl
 have c6:=zab HI.out.own (k:=6) rfl
 have c7:=zab HI.out.own (k:=7) rfl
 have fc1:=zac HI.out.own (k:=1)
 have fc2:=zac HI.out.own (k:=2)
 have fc3:=zac HI.out.own (k:=3)
 have fc4:=zac HI.out.own (k:=4)
 have fc5:=zac HI.out.own (k:=5)
 have fc6:=zac HI.out.own (k:=6)
 have fc7:=zac HI.out.own (k:=7)
 replace HI:=hid (HI.out.setL hR (.int .i64 x.k) (.int .i64 x.v.k) (.int .i64 x.v.n) (.string (strB x.v.s)) (.string (strB x.x)) (.string (strB x.f)) (.slice xa xq xc))
 replace KX:=hid (((((((KX.out.set (b:=w.heap.size+1) (Nat.lt_succ_self _) 1 (.int .i64 x.k)).set (b:=w.heap.size+1) (Nat.lt_succ_self _) 2 (.int .i64 x.v.k)).set (b:=w.heap.size+1) (Nat.lt_succ_self _) 3 (.int .i64 x.v.n)).set (b:=w.heap.size+1) (Nat.lt_succ_self _) 4 (.string (strB x.v.s))).set (b:=w.heap.size+1) (Nat.lt_succ_self _) 5 (.string (strB x.x))).set (b:=w.heap.size+1) (Nat.lt_succ_self _) 6 (.string (strB x.f))).set (b:=w.heap.size+1) (Nat.lt_succ_self _) 7 (.slice xa xq xc))
 simp only [xexV]
 go_wp2
 clear c1 c2 c3 c4 c5 c6 c7 fc1 fc2 fc3 fc4 fc5 fc6 fc7
 go_loopw [4] (fun i wr=>∃ (j c : Int) (s' : DS),i=.int .i64 j∧Hid ((c=0∧s'=s1∧((j=1∧dAmong s1 4 1 [[61],[33,61],[60],[60,61],[62],[62,61]]=(cm,s2))∨(j=2∧dAmong s1 4 2 [[33,61],[60],[60,61],[62],[62,61]]=(cm,s2))∨(j=3∧dAmong s1 4 3 [[60],[60,61],[62],[62,61]]=(cm,s2))∨(j=4∧dAmong s1 4 4 [[60,61],[62],[62,61]]=(cm,s2))∨(j=5∧dAmong s1 4 5 [[62],[62,61]]=(cm,s2))∨(j=6∧dAmong s1 4 6 [[62,61]]=(cm,s2))∨(j=7∧dAmong s1 4 7 []=(cm,s2))))∨(1≤c∧c=(cm : Int)∧s'=s2∧1≤j∧j≤7))∧Hid (PdIn R T L w wr (.int .i64 c) (.int .i64 x.k) (.int .i64 x.v.k) (.int .i64 x.v.n) (.string (strB x.v.s)) (.string (strB x.x)) (.string (strB x.f)) (.slice xa xq xc) (.int .i64 0) (.int .i64 0) (.int .i64 0) (.string ⟨#[]⟩) (.string ⟨#[]⟩) (.string ⟨#[]⟩) (.slice none 0 0) s')∧Hid (ExK (· < w.heap.size+2) wr dx (.slice xa xq xc) x.ks)) (fun i _=>8 - (RowKit.intOf i).toNat)
 case atStart=>exact ⟨1,0,s1,rfl,hid (.inl ⟨rfl,rfl,.inl ⟨rfl,HC0.out⟩⟩),HI,KX⟩
 case round =>
  clear HI KX HC0
  obtain ⟨j,c,s',rfl,HJ,HI,KX⟩:=hrel
  rcases HJ.out with ⟨rfl,rfl,hj⟩|⟨hc1,hcc,rfl,hj⟩
  ·rcases hj with ⟨rfl,hz⟩|⟨rfl,hz⟩|⟨rfl,hz⟩|⟨rfl,hz⟩|⟨rfl,hz⟩|⟨rfl,hz⟩|⟨rfl,hz⟩
   ·have hw : IntKind.i64.wrap (1+1)=2:=IntWalk.i64_in _ (by omega)
    have c0:=zab HI.out.own (k:=0) rfl
    go_wp2_with fail
    with_reducible refine (rsg1 wr).mono ?_
    rintro e w4 ⟨rfl,hb⟩
    replace HI:=hid (HI.out.low hb)
    replace KX:=hid (KX.out.keepR (TFr.of_below (K:=(·=R)) hb) (by omega))
    clear hb c0
    have HC:=hid (zaj HI.out.rt.rd [61])
    cases hp : dIs s' 4 [61] with
    | true =>
      rw [dAmong,if_pos hp] at hz
      injection hz with e1 e2
      rw [hp,zah hp] at HC
      have HC2 : Hid (Calls Tryz.prog 141 #[.pointer (some ⟨R,0,none⟩),.int .i64 4,.string ⟨#[61]⟩] w4 fun e w'=>e=.returned (.bool true)∧DdTo R T L (dSkip s') w4 w'):=HC.out
      have HE:=hid (And.intro e1 e2)
      clear hp HC e1 e2 HJ
      go_wp2_with fail
      with_reducible refine HC2.out.mono ?_
      rintro e w5 ⟨rfl,hd⟩
      replace HI:=hid (HI.out.call hR hd)
      replace KX:=hid (KX.out.keepR hd.fr (by omega))
      clear hd HC2
      have c0:=zab HI.out.own (k:=0) rfl
      have fc0:=zac HI.out.own (k:=0)
      replace HI:=hid (HI.out.setC hR (.int .i64 1))
      replace KX:=hid (KX.out.set (b:=w.heap.size+1) (Nat.lt_succ_self _) 0 (.int .i64 1))
      go_wp2
      refine ⟨⟨2,1,dSkip s',rfl,hid (.inr ⟨by omega,by rw [← HE.out.1];rfl,HE.out.2,by omega,by omega⟩),HI,KX⟩,by simp [RowKit.intOf]⟩
    | false =>
      rw [dAmong,if_neg (by rw [hp];simp)] at hz
      have HZ:=hid hz
      rw [hp,zai hp] at HC
      have HC2 : Hid (Calls Tryz.prog 141 #[.pointer (some ⟨R,0,none⟩),.int .i64 4,.string ⟨#[61]⟩] w4 fun e w'=>e=.returned (.bool false)∧DdTo R T L s' w4 w'):=HC.out
      clear hp HC hz HJ
      go_wp2_with fail
      with_reducible refine HC2.out.mono ?_
      rintro e w5 ⟨rfl,hd⟩
      replace HI:=hid (HI.out.call hR hd)
      replace KX:=hid (KX.out.keepR hd.fr (by omega))
      clear hd HC2
      go_wp2
      refine ⟨⟨2,0,s',rfl,hid (.inl ⟨rfl,rfl,.inr (.inl ⟨rfl,HZ.out⟩)⟩),HI,KX⟩,by simp [RowKit.intOf]⟩
   ·have hw : IntKind.i64.wrap (2+1)=3:=IntWalk.i64_in _ (by omega)
    have c0:=zab HI.out.own (k:=0) rfl
    go_wp2_with fail
    with_reducible refine (rsg2 wr).mono ?_
    rintro e w4 ⟨rfl,hb⟩
    replace HI:=hid (HI.out.low hb)
    replace KX:=hid (KX.out.keepR (TFr.of_below (K:=(·=R)) hb) (by omega))
    clear hb c0
    have HC:=hid (zaj HI.out.rt.rd [33,61])
    cases hp : dIs s' 4 [33,61] with
    | true =>
      rw [dAmong,if_pos hp] at hz
      injection hz with e1 e2
      rw [hp,zah hp] at HC
      have HC2 : Hid (Calls Tryz.prog 141 #[.pointer (some ⟨R,0,none⟩),.int .i64 4,.string ⟨#[33,61]⟩] w4 fun e w'=>e=.returned (.bool true)∧DdTo R T L (dSkip s') w4 w'):=HC.out
      have HE:=hid (And.intro e1 e2)
      clear hp HC e1 e2 HJ
      go_wp2_with fail
      with_reducible refine HC2.out.mono ?_
      rintro e w5 ⟨rfl,hd⟩
      replace HI:=hid (HI.out.call hR hd)
      replace KX:=hid (KX.out.keepR hd.fr (by omega))
      clear hd HC2
      have c0:=zab HI.out.own (k:=0) rfl
      have fc0:=zac HI.out.own (k:=0)
      replace HI:=hid (HI.out.setC hR (.int .i64 2))
      replace KX:=hid (KX.out.set (b:=w.heap.size+1) (Nat.lt_succ_self _) 0 (.int .i64 2))
      go_wp2
      refine ⟨⟨3,2,dSkip s',rfl,hid (.inr ⟨by omega,by rw [← HE.out.1];rfl,HE.out.2,by omega,by omega⟩),HI,KX⟩,by simp [RowKit.intOf]⟩
    | false =>
      rw [dAmong,if_neg (by rw [hp];simp)] at hz
      have HZ:=hid hz
      rw [hp,zai hp] at HC
      have HC2 : Hid (Calls Tryz.prog 141 #[.pointer (some ⟨R,0,none⟩),.int .i64 4,.string ⟨#[33,61]⟩] w4 fun e w'=>e=.returned (.bool false)∧DdTo R T L s' w4 w'):=HC.out
      clear hp HC hz HJ
      go_wp2_with fail
      with_reducible refine HC2.out.mono ?_
      rintro e w5 ⟨rfl,hd⟩
      replace HI:=hid (HI.out.call hR hd)
      replace KX:=hid (KX.out.keepR hd.fr (by omega))
      clear hd HC2
      go_wp2
      refine ⟨⟨3,0,s',rfl,hid (.inl ⟨rfl,rfl,.inr (.inr (.inl ⟨rfl,HZ.out⟩))⟩),HI,KX⟩,by simp [RowKit.intOf]⟩
   ·have hw : IntKind.i64.wrap (3+1)=4:=IntWalk.i64_in _ (by omega)
    have c0:=zab HI.out.own (k:=0) rfl
    go_wp2_with fail
    with_reducible refine (rsg3 wr).mono ?_
    rintro e w4 ⟨rfl,hb⟩
    replace HI:=hid (HI.out.low hb)
    replace KX:=hid (KX.out.keepR (TFr.of_below (K:=(·=R)) hb) (by omega))
    clear hb c0
    have HC:=hid (zaj HI.out.rt.rd [60])
    cases hp : dIs s' 4 [60] with
    | true =>
      rw [dAmong,if_pos hp] at hz
      injection hz with e1 e2
      rw [hp,zah hp] at HC
      have HC2 : Hid (Calls Tryz.prog 141 #[.pointer (some ⟨R,0,none⟩),.int .i64 4,.string ⟨#[60]⟩] w4 fun e w'=>e=.returned (.bool true)∧DdTo R T L (dSkip s') w4 w'):=HC.out
      have HE:=hid (And.intro e1 e2)
      clear hp HC e1 e2 HJ
      go_wp2_with fail
      with_reducible refine HC2.out.mono ?_
      rintro e w5 ⟨rfl,hd⟩
      replace HI:=hid (HI.out.call hR hd)
      replace KX:=hid (KX.out.keepR hd.fr (by omega))
      clear hd HC2
      have c0:=zab HI.out.own (k:=0) rfl
      have fc0:=zac HI.out.own (k:=0)
      replace HI:=hid (HI.out.setC hR (.int .i64 3))
      replace KX:=hid (KX.out.set (b:=w.heap.size+1) (Nat.lt_succ_self _) 0 (.int .i64 3))
      go_wp2
      refine ⟨⟨4,3,dSkip s',rfl,hid (.inr ⟨by omega,by rw [← HE.out.1];rfl,HE.out.2,by omega,by omega⟩),HI,KX⟩,by simp [RowKit.intOf]⟩
    | false =>
      rw [dAmong,if_neg (by rw [hp];simp)] at hz
      have HZ:=hid hz
      rw [hp,zai hp] at HC
      have HC2 : Hid (Calls Tryz.prog 141 #[.pointer (some ⟨R,0,none⟩),.int .i64 4,.string ⟨#[60]⟩] w4 fun e w'=>e=.returned (.bool false)∧DdTo R T L s' w4 w'):=HC.out
      clear hp HC hz HJ
      go_wp2_with fail
      with_reducible refine HC2.out.mono ?_
      rintro e w5 ⟨rfl,hd⟩
      replace HI:=hid (HI.out.call hR hd)
      replace KX:=hid (KX.out.keepR hd.fr (by omega))
      clear hd HC2
      go_wp2
      refine ⟨⟨4,0,s',rfl,hid (.inl ⟨rfl,rfl,.inr (.inr (.inr (.inl ⟨rfl,HZ.out⟩)))⟩),HI,KX⟩,by simp [RowKit.intOf]⟩
   ·have hw : IntKind.i64.wrap (4+1)=5:=IntWalk.i64_in _ (by omega)
    have c0:=zab HI.out.own (k:=0) rfl
    go_wp2_with fail
    with_reducible refine (rsg4 wr).mono ?_
    rintro e w4 ⟨rfl,hb⟩
    replace HI:=hid (HI.out.low hb)
    replace KX:=hid (KX.out.keepR (TFr.of_below (K:=(·=R)) hb) (by omega))
    clear hb c0
    have HC:=hid (zaj HI.out.rt.rd [60,61])
    cases hp : dIs s' 4 [60,61] with
    | true =>
      rw [dAmong,if_pos hp] at hz
      injection hz with e1 e2
      rw [hp,zah hp] at HC
      have HC2 : Hid (Calls Tryz.prog 141 #[.pointer (some ⟨R,0,none⟩),.int .i64 4,.string ⟨#[60,61]⟩] w4 fun e w'=>e=.returned (.bool true)∧DdTo R T L (dSkip s') w4 w'):=HC.out
      have HE:=hid (And.intro e1 e2)
      clear hp HC e1 e2 HJ
      go_wp2_with fail
      with_reducible refine HC2.out.mono ?_
      rintro e w5 ⟨rfl,hd⟩
      replace HI:=hid (HI.out.call hR hd)
      replace KX:=hid (KX.out.keepR hd.fr (by omega))
      clear hd HC2
      have c0:=zab HI.out.own (k:=0) rfl
      have fc0:=zac HI.out.own (k:=0)
      replace HI:=hid (HI.out.setC hR (.int .i64 4))
      replace KX:=hid (KX.out.set (b:=w.heap.size+1) (Nat.lt_succ_self _) 0 (.int .i64 4))
      go_wp2
      refine ⟨⟨5,4,dSkip s',rfl,hid (.inr ⟨by omega,by rw [← HE.out.1];rfl,HE.out.2,by omega,by omega⟩),HI,KX⟩,by simp [RowKit.intOf]⟩
    | false =>
      rw [dAmong,if_neg (by rw [hp];simp)] at hz
      have HZ:=hid hz
      rw [hp,zai hp] at HC
      have HC2 : Hid (Calls Tryz.prog 141 #[.pointer (some ⟨R,0,none⟩),.int .i64 4,.string ⟨#[60,61]⟩] w4 fun e w'=>e=.returned (.bool false)∧DdTo R T L s' w4 w'):=HC.out
      clear hp HC hz HJ
      go_wp2_with fail
      with_reducible refine HC2.out.mono ?_
      rintro e w5 ⟨rfl,hd⟩
      replace HI:=hid (HI.out.call hR hd)
      replace KX:=hid (KX.out.keepR hd.fr (by omega))
      clear hd HC2
      go_wp2
      refine ⟨⟨5,0,s',rfl,hid (.inl ⟨rfl,rfl,.inr (.inr (.inr (.inr (.inl ⟨rfl,HZ.out⟩))))⟩),HI,KX⟩,by simp [RowKit.intOf]⟩
   ·have hw : IntKind.i64.wrap (5+1)=6:=IntWalk.i64_in _ (by omega)
    have c0:=zab HI.out.own (k:=0) rfl
    go_wp2_with fail
    with_reducible refine (rsg5 wr).mono ?_
    rintro e w4 ⟨rfl,hb⟩
    replace HI:=hid (HI.out.low hb)
    replace KX:=hid (KX.out.keepR (TFr.of_below (K:=(·=R)) hb) (by omega))
    clear hb c0
    have HC:=hid (zaj HI.out.rt.rd [62])
    cases hp : dIs s' 4 [62] with
    | true =>
      rw [dAmong,if_pos hp] at hz
      injection hz with e1 e2
      rw [hp,zah hp] at HC
      have HC2 : Hid (Calls Tryz.prog 141 #[.pointer (some ⟨R,0,none⟩),.int .i64 4,.string ⟨#[62]⟩] w4 fun e w'=>e=.returned (.bool true)∧DdTo R T L (dSkip s') w4 w'):=HC.out
      have HE:=hid (And.intro e1 e2)
      clear hp HC e1 e2 HJ
      go_wp2_with fail
      with_reducible refine HC2.out.mono ?_
      rintro e w5 ⟨rfl,hd⟩
      replace HI:=hid (HI.out.call hR hd)
      replace KX:=hid (KX.out.keepR hd.fr (by omega))
      clear hd HC2
      have c0:=zab HI.out.own (k:=0) rfl
      have fc0:=zac HI.out.own (k:=0)
      replace HI:=hid (HI.out.setC hR (.int .i64 5))
      replace KX:=hid (KX.out.set (b:=w.heap.size+1) (Nat.lt_succ_self _) 0 (.int .i64 5))
      go_wp2
      refine ⟨⟨6,5,dSkip s',rfl,hid (.inr ⟨by omega,by rw [← HE.out.1];rfl,HE.out.2,by omega,by omega⟩),HI,KX⟩,by simp [RowKit.intOf]⟩
    | false =>
      rw [dAmong,if_neg (by rw [hp];simp)] at hz
      have HZ:=hid hz
      rw [hp,zai hp] at HC
      have HC2 : Hid (Calls Tryz.prog 141 #[.pointer (some ⟨R,0,none⟩),.int .i64 4,.string ⟨#[62]⟩] w4 fun e w'=>e=.returned (.bool false)∧DdTo R T L s' w4 w'):=HC.out
      clear hp HC hz HJ
      go_wp2_with fail
      with_reducible refine HC2.out.mono ?_
      rintro e w5 ⟨rfl,hd⟩
      replace HI:=hid (HI.out.call hR hd)
      replace KX:=hid (KX.out.keepR hd.fr (by omega))
      clear hd HC2
      go_wp2
      refine ⟨⟨6,0,s',rfl,hid (.inl ⟨rfl,rfl,.inr (.inr (.inr (.inr (.inr (.inl ⟨rfl,HZ.out⟩)))))⟩),HI,KX⟩,by simp [RowKit.intOf]⟩
   ·have hw : IntKind.i64.wrap (6+1)=7:=IntWalk.i64_in _ (by omega)
    have c0:=zab HI.out.own (k:=0) rfl
    go_wp2_with fail
    with_reducible refine (rsg6 wr).mono ?_
    rintro e w4 ⟨rfl,hb⟩
    replace HI:=hid (HI.out.low hb)
    replace KX:=hid (KX.out.keepR (TFr.of_below (K:=(·=R)) hb) (by omega))
    clear hb c0
    have HC:=hid (zaj HI.out.rt.rd [62,61])
    cases hp : dIs s' 4 [62,61] with
    | true =>
      rw [dAmong,if_pos hp] at hz
      injection hz with e1 e2
      rw [hp,zah hp] at HC
      have HC2 : Hid (Calls Tryz.prog 141 #[.pointer (some ⟨R,0,none⟩),.int .i64 4,.string ⟨#[62,61]⟩] w4 fun e w'=>e=.returned (.bool true)∧DdTo R T L (dSkip s') w4 w'):=HC.out
      have HE:=hid (And.intro e1 e2)
      clear hp HC e1 e2 HJ
      go_wp2_with fail
      with_reducible refine HC2.out.mono ?_
      rintro e w5 ⟨rfl,hd⟩
      replace HI:=hid (HI.out.call hR hd)
      replace KX:=hid (KX.out.keepR hd.fr (by omega))
      clear hd HC2
      have c0:=zab HI.out.own (k:=0) rfl
      have fc0:=zac HI.out.own (k:=0)
      replace HI:=hid (HI.out.setC hR (.int .i64 6))
      replace KX:=hid (KX.out.set (b:=w.heap.size+1) (Nat.lt_succ_self _) 0 (.int .i64 6))
      go_wp2
      refine ⟨⟨7,6,dSkip s',rfl,hid (.inr ⟨by omega,by rw [← HE.out.1];rfl,HE.out.2,by omega,by omega⟩),HI,KX⟩,by simp [RowKit.intOf]⟩
    | false =>
      rw [dAmong,if_neg (by rw [hp];simp)] at hz
      have HZ:=hid hz
      rw [hp,zai hp] at HC
      have HC2 : Hid (Calls Tryz.prog 141 #[.pointer (some ⟨R,0,none⟩),.int .i64 4,.string ⟨#[62,61]⟩] w4 fun e w'=>e=.returned (.bool false)∧DdTo R T L s' w4 w'):=HC.out
      clear hp HC hz HJ
      go_wp2_with fail
      with_reducible refine HC2.out.mono ?_
      rintro e w5 ⟨rfl,hd⟩
      replace HI:=hid (HI.out.call hR hd)
      replace KX:=hid (KX.out.keepR hd.fr (by omega))
      clear hd HC2
      go_wp2
      refine ⟨⟨7,0,s',rfl,hid (.inl ⟨rfl,rfl,.inr (.inr (.inr (.inr (.inr (.inr ⟨rfl,HZ.out⟩)))))⟩),HI,KX⟩,by simp [RowKit.intOf]⟩
   ·injection hz with e1 e2
    subst e1 e2
    have hs3 : s3=dFail s':=HX3.out
    subst hs3
    have c0:=zab HI.out.own (k:=0) rfl
    have HF:=hid (zam HI.out.rt.rd)
    clear HJ
    go_wp2_with fail
    with_reducible refine HF.out.mono ?_
    rintro e w4 ⟨rfl,hd⟩
    replace HI:=hid (HI.out.call hR hd)
    replace KX:=hid (KX.out.keepR hd.fr (by omega))
    clear hd HF c0
    have HYC:=hid (HY.out _ HI.out.rt.rd)
    go_wp2_with fail
    with_reducible refine HYC.out.mono ?_
    rintro e w5 ⟨kv,dy,rfl,hkv,hd⟩
    obtain ⟨ya,yc,rfl⟩:=hkv.slice
    obtain ⟨yq,hyq⟩ : ∃ q,y.ks.length=q:=⟨_,rfl⟩
    rw [hyq] at hkv ⊢
    have KY:=hid (show ExK (· < w.heap.size+2) w5 dy (.slice ya yq yc) y.ks from hkv.mono (fun g hg=>Nat.lt_of_lt_of_le hg HI.out.big))
    replace HI:=hid (HI.out.call hR hd)
    replace KX:=hid (KX.out.keepR hd.fr (by omega))
    clear hkv hd hyq HYC HY
    have d8:=zab HI.out.own (k:=8) rfl
    have d9:=zab HI.out.own (k:=9) rfl
    have d10:=zab HI.out.own (k:=10) rfl
    have d11:=zab HI.out.own (k:=11) rfl
    have d12:=zab HI.out.own (k:=12) rfl
    have d13:=zab HI.out.own (k:=13) rfl
    have d14:=zab HI.out.own (k:=14) rfl
    have fd8:=zac HI.out.own (k:=8)
    have fd9:=zac HI.out.own (k:=9)
    have fd10:=zac HI.out.own (k:=10)
    have fd11:=zac HI.out.own (k:=11)
    have fd12:=zac HI.out.own (k:=12)
    have fd13:=zac HI.out.own (k:=13)
    have fd14:=zac HI.out.own (k:=14)
    replace HI:=hid (HI.out.setR hR (.int .i64 y.k) (.int .i64 y.v.k) (.int .i64 y.v.n) (.string (strB y.v.s)) (.string (strB y.x)) (.string (strB y.f)) (.slice ya yq yc))
    replace KX:=hid (((((((KX.out.set (b:=w.heap.size+1) (Nat.lt_succ_self _) 8 (.int .i64 y.k)).set (b:=w.heap.size+1) (Nat.lt_succ_self _) 9 (.int .i64 y.v.k)).set (b:=w.heap.size+1) (Nat.lt_succ_self _) 10 (.int .i64 y.v.n)).set (b:=w.heap.size+1) (Nat.lt_succ_self _) 11 (.string (strB y.v.s))).set (b:=w.heap.size+1) (Nat.lt_succ_self _) 12 (.string (strB y.x))).set (b:=w.heap.size+1) (Nat.lt_succ_self _) 13 (.string (strB y.f))).set (b:=w.heap.size+1) (Nat.lt_succ_self _) 14 (.slice ya yq yc))
    replace KY:=hid (((((((KY.out.set (b:=w.heap.size+1) (Nat.lt_succ_self _) 8 (.int .i64 y.k)).set (b:=w.heap.size+1) (Nat.lt_succ_self _) 9 (.int .i64 y.v.k)).set (b:=w.heap.size+1) (Nat.lt_succ_self _) 10 (.int .i64 y.v.n)).set (b:=w.heap.size+1) (Nat.lt_succ_self _) 11 (.string (strB y.v.s))).set (b:=w.heap.size+1) (Nat.lt_succ_self _) 12 (.string (strB y.x))).set (b:=w.heap.size+1) (Nat.lt_succ_self _) 13 (.string (strB y.f))).set (b:=w.heap.size+1) (Nat.lt_succ_self _) 14 (.slice ya yq yc))
    have e0:=zab HI.out.own (k:=0) rfl
    have e1:=zab HI.out.own (k:=1) rfl
    have e2:=zab HI.out.own (k:=2) rfl
    have e3:=zab HI.out.own (k:=3) rfl
    have e4:=zab HI.out.own (k:=4) rfl
    have e5:=zab HI.out.own (k:=5) rfl
    have e6:=zab HI.out.own (k:=6) rfl
    have e7:=zab HI.out.own (k:=7) rfl
    have e8:=zab HI.out.own (k:=8) rfl
    have e9:=zab HI.out.own (k:=9) rfl
    have e10:=zab HI.out.own (k:=10) rfl
    have e11:=zab HI.out.own (k:=11) rfl
    have e12:=zab HI.out.own (k:=12) rfl
    have e13:=zab HI.out.own (k:=13) rfl
    have e14:=zab HI.out.own (k:=14) rfl
    have r0:=zab HI.out.res (k:=0) rfl
    have r1:=zab HI.out.res (k:=1) rfl
    have r2:=zab HI.out.res (k:=2) rfl
    have r3:=zab HI.out.res (k:=3) rfl
    have r4:=zab HI.out.res (k:=4) rfl
    have r5:=zab HI.out.res (k:=5) rfl
    have r6:=zab HI.out.res (k:=6) rfl
    have r7:=zab HI.out.res (k:=7) rfl
    have r8:=zab HI.out.res (k:=8) rfl
    have r9:=zab HI.out.res (k:=9) rfl
    have r10:=zab HI.out.res (k:=10) rfl
    have r11:=zab HI.out.res (k:=11) rfl
    have r12:=zab HI.out.res (k:=12) rfl
    have r13:=zab HI.out.res (k:=13) rfl
    have r14:=zab HI.out.res (k:=14) rfl
    have fr0:=zac HI.out.res (k:=0)
    have fr1:=zac HI.out.res (k:=1)
    have fr2:=zac HI.out.res (k:=2)
    have fr3:=zac HI.out.res (k:=3)
    have fr4:=zac HI.out.res (k:=4)
    have fr5:=zac HI.out.res (k:=5)
    have fr6:=zac HI.out.res (k:=6)
    have fr7:=zac HI.out.res (k:=7)
    have fr8:=zac HI.out.res (k:=8)
    have fr9:=zac HI.out.res (k:=9)
    have fr10:=zac HI.out.res (k:=10)
    have fr11:=zac HI.out.res (k:=11)
    have fr12:=zac HI.out.res (k:=12)
    have fr13:=zac HI.out.res (k:=13)
    have fr14:=zac HI.out.res (k:=14)
    simp only [xexV]
    go_wp2
    refine bodyPost_ret (v:=.agg #[.int .i64 0,.int .i64 x.k,.int .i64 x.v.k,.int .i64 x.v.n,.string (strB x.v.s),.string (strB x.x),.string (strB x.f),.slice xa xq xc,.int .i64 y.k,.int .i64 y.v.k,.int .i64 y.v.n,.string (strB y.v.s),.string (strB y.x),.string (strB y.f),.slice ya yq yc]) (by simp [results,Tryz.results142,go_sem,r0,r1,r2,r3,r4,r5,r6,r7,r8,r9,r10,r11,r12,r13,r14]) rfl ⟨xa,xq,xc,ya,yq,yc,max dx dy,rfl,?_,?_,(((((((((((((((HI.out.rt.set hR (Nat.le_refl _) 0 (_)).set hR (Nat.le_refl _) 1 (_)).set hR (Nat.le_refl _) 2 (_)).set hR (Nat.le_refl _) 3 (_)).set hR (Nat.le_refl _) 4 (_)).set hR (Nat.le_refl _) 5 (_)).set hR (Nat.le_refl _) 6 (_)).set hR (Nat.le_refl _) 7 (_)).set hR (Nat.le_refl _) 8 (_)).set hR (Nat.le_refl _) 9 (_)).set hR (Nat.le_refl _) 10 (_)).set hR (Nat.le_refl _) 11 (_)).set hR (Nat.le_refl _) 12 (_)).set hR (Nat.le_refl _) 13 (_)).set hR (Nat.le_refl _) 14 (_))⟩
    ·exact ((((((((((((((((KX.out.set (b:=w.heap.size) (by omega) 0 (_)).set (b:=w.heap.size) (by omega) 1 (_)).set (b:=w.heap.size) (by omega) 2 (_)).set (b:=w.heap.size) (by omega) 3 (_)).set (b:=w.heap.size) (by omega) 4 (_)).set (b:=w.heap.size) (by omega) 5 (_)).set (b:=w.heap.size) (by omega) 6 (_)).set (b:=w.heap.size) (by omega) 7 (_)).set (b:=w.heap.size) (by omega) 8 (_)).set (b:=w.heap.size) (by omega) 9 (_)).set (b:=w.heap.size) (by omega) 10 (_)).set (b:=w.heap.size) (by omega) 11 (_)).set (b:=w.heap.size) (by omega) 12 (_)).set (b:=w.heap.size) (by omega) 13 (_)).set (b:=w.heap.size) (by omega) 14 (_)).le (Nat.le_max_left dx dy)).mono (fun g hg=>by omega)
    ·exact ((((((((((((((((KY.out.set (b:=w.heap.size) (by omega) 0 (_)).set (b:=w.heap.size) (by omega) 1 (_)).set (b:=w.heap.size) (by omega) 2 (_)).set (b:=w.heap.size) (by omega) 3 (_)).set (b:=w.heap.size) (by omega) 4 (_)).set (b:=w.heap.size) (by omega) 5 (_)).set (b:=w.heap.size) (by omega) 6 (_)).set (b:=w.heap.size) (by omega) 7 (_)).set (b:=w.heap.size) (by omega) 8 (_)).set (b:=w.heap.size) (by omega) 9 (_)).set (b:=w.heap.size) (by omega) 10 (_)).set (b:=w.heap.size) (by omega) 11 (_)).set (b:=w.heap.size) (by omega) 12 (_)).set (b:=w.heap.size) (by omega) 13 (_)).set (b:=w.heap.size) (by omega) 14 (_)).le (Nat.le_max_right dx dy)).mono (fun g hg=>by omega)
  ·have hs3 : s3=s':=by rw [HX3.out,if_neg (by omega)]
   subst hs3
   subst hcc
   have htc : ((cm : Int) == 0)=false:=by rw [beq_eq_false_iff_ne];omega
   clear HJ hc1
   by_cases h6 : j≤6
   ·have ht : decide (j≤6)=true:=by rw [decide_eq_true_eq];exact h6
    clear h6 hj
    have c0:=zab HI.out.own (k:=0) rfl
    have HYC:=hid (HY.out _ HI.out.rt.rd)
    go_wp2_with fail
    clear c0 htc ht
    with_reducible refine HYC.out.mono ?_
    rintro e w5 ⟨kv,dy,rfl,hkv,hd⟩
    obtain ⟨ya,yc,rfl⟩:=hkv.slice
    obtain ⟨yq,hyq⟩ : ∃ q,y.ks.length=q:=⟨_,rfl⟩
    rw [hyq] at hkv ⊢
    have KY:=hid (show ExK (· < w.heap.size+2) w5 dy (.slice ya yq yc) y.ks from hkv.mono (fun g hg=>Nat.lt_of_lt_of_le hg HI.out.big))
    replace HI:=hid (HI.out.call hR hd)
    replace KX:=hid (KX.out.keepR hd.fr (by omega))
    clear hkv hd hyq HYC HY
    have d8:=zab HI.out.own (k:=8) rfl
    have d9:=zab HI.out.own (k:=9) rfl
    have d10:=zab HI.out.own (k:=10) rfl
    have d11:=zab HI.out.own (k:=11) rfl
    have d12:=zab HI.out.own (k:=12) rfl
    have d13:=zab HI.out.own (k:=13) rfl
    have d14:=zab HI.out.own (k:=14) rfl
    have fd8:=zac HI.out.own (k:=8)
    have fd9:=zac HI.out.own (k:=9)
    have fd10:=zac HI.out.own (k:=10)
    have fd11:=zac HI.out.own (k:=11)
    have fd12:=zac HI.out.own (k:=12)
    have fd13:=zac HI.out.own (k:=13)
    have fd14:=zac HI.out.own (k:=14)
    replace HI:=hid (HI.out.setR hR (.int .i64 y.k) (.int .i64 y.v.k) (.int .i64 y.v.n) (.string (strB y.v.s)) (.string (strB y.x)) (.string (strB y.f)) (.slice ya yq yc))
    replace KX:=hid (((((((KX.out.set (b:=w.heap.size+1) (Nat.lt_succ_self _) 8 (.int .i64 y.k)).set (b:=w.heap.size+1) (Nat.lt_succ_self _) 9 (.int .i64 y.v.k)).set (b:=w.heap.size+1) (Nat.lt_succ_self _) 10 (.int .i64 y.v.n)).set (b:=w.heap.size+1) (Nat.lt_succ_self _) 11 (.string (strB y.v.s))).set (b:=w.heap.size+1) (Nat.lt_succ_self _) 12 (.string (strB y.x))).set (b:=w.heap.size+1) (Nat.lt_succ_self _) 13 (.string (strB y.f))).set (b:=w.heap.size+1) (Nat.lt_succ_self _) 14 (.slice ya yq yc))
    replace KY:=hid (((((((KY.out.set (b:=w.heap.size+1) (Nat.lt_succ_self _) 8 (.int .i64 y.k)).set (b:=w.heap.size+1) (Nat.lt_succ_self _) 9 (.int .i64 y.v.k)).set (b:=w.heap.size+1) (Nat.lt_succ_self _) 10 (.int .i64 y.v.n)).set (b:=w.heap.size+1) (Nat.lt_succ_self _) 11 (.string (strB y.v.s))).set (b:=w.heap.size+1) (Nat.lt_succ_self _) 12 (.string (strB y.x))).set (b:=w.heap.size+1) (Nat.lt_succ_self _) 13 (.string (strB y.f))).set (b:=w.heap.size+1) (Nat.lt_succ_self _) 14 (.slice ya yq yc))
    have e0:=zab HI.out.own (k:=0) rfl
    have e1:=zab HI.out.own (k:=1) rfl
    have e2:=zab HI.out.own (k:=2) rfl
    have e3:=zab HI.out.own (k:=3) rfl
    have e4:=zab HI.out.own (k:=4) rfl
    have e5:=zab HI.out.own (k:=5) rfl
    have e6:=zab HI.out.own (k:=6) rfl
    have e7:=zab HI.out.own (k:=7) rfl
    have e8:=zab HI.out.own (k:=8) rfl
    have e9:=zab HI.out.own (k:=9) rfl
    have e10:=zab HI.out.own (k:=10) rfl
    have e11:=zab HI.out.own (k:=11) rfl
    have e12:=zab HI.out.own (k:=12) rfl
    have e13:=zab HI.out.own (k:=13) rfl
    have e14:=zab HI.out.own (k:=14) rfl
    have r0:=zab HI.out.res (k:=0) rfl
    have r1:=zab HI.out.res (k:=1) rfl
    have r2:=zab HI.out.res (k:=2) rfl
    have r3:=zab HI.out.res (k:=3) rfl
    have r4:=zab HI.out.res (k:=4) rfl
    have r5:=zab HI.out.res (k:=5) rfl
    have r6:=zab HI.out.res (k:=6) rfl
    have r7:=zab HI.out.res (k:=7) rfl
    have r8:=zab HI.out.res (k:=8) rfl
    have r9:=zab HI.out.res (k:=9) rfl
    have r10:=zab HI.out.res (k:=10) rfl
    have r11:=zab HI.out.res (k:=11) rfl
    have r12:=zab HI.out.res (k:=12) rfl
    have r13:=zab HI.out.res (k:=13) rfl
    have r14:=zab HI.out.res (k:=14) rfl
    have fr0:=zac HI.out.res (k:=0)
    have fr1:=zac HI.out.res (k:=1)
    have fr2:=zac HI.out.res (k:=2)
    have fr3:=zac HI.out.res (k:=3)
    have fr4:=zac HI.out.res (k:=4)
    have fr5:=zac HI.out.res (k:=5)
    have fr6:=zac HI.out.res (k:=6)
    have fr7:=zac HI.out.res (k:=7)
    have fr8:=zac HI.out.res (k:=8)
    have fr9:=zac HI.out.res (k:=9)
    have fr10:=zac HI.out.res (k:=10)
    have fr11:=zac HI.out.res (k:=11)
    have fr12:=zac HI.out.res (k:=12)
    have fr13:=zac HI.out.res (k:=13)
    have fr14:=zac HI.out.res (k:=14)
    simp only [xexV]
    go_wp2
    refine bodyPost_ret (v:=.agg #[.int .i64 (cm : Nat),.int .i64 x.k,.int .i64 x.v.k,.int .i64 x.v.n,.string (strB x.v.s),.string (strB x.x),.string (strB x.f),.slice xa xq xc,.int .i64 y.k,.int .i64 y.v.k,.int .i64 y.v.n,.string (strB y.v.s),.string (strB y.x),.string (strB y.f),.slice ya yq yc]) (by simp [results,Tryz.results142,go_sem,r0,r1,r2,r3,r4,r5,r6,r7,r8,r9,r10,r11,r12,r13,r14]) rfl ⟨xa,xq,xc,ya,yq,yc,max dx dy,rfl,?_,?_,(((((((((((((((HI.out.rt.set hR (Nat.le_refl _) 0 (_)).set hR (Nat.le_refl _) 1 (_)).set hR (Nat.le_refl _) 2 (_)).set hR (Nat.le_refl _) 3 (_)).set hR (Nat.le_refl _) 4 (_)).set hR (Nat.le_refl _) 5 (_)).set hR (Nat.le_refl _) 6 (_)).set hR (Nat.le_refl _) 7 (_)).set hR (Nat.le_refl _) 8 (_)).set hR (Nat.le_refl _) 9 (_)).set hR (Nat.le_refl _) 10 (_)).set hR (Nat.le_refl _) 11 (_)).set hR (Nat.le_refl _) 12 (_)).set hR (Nat.le_refl _) 13 (_)).set hR (Nat.le_refl _) 14 (_))⟩
    ·exact ((((((((((((((((KX.out.set (b:=w.heap.size) (by omega) 0 (_)).set (b:=w.heap.size) (by omega) 1 (_)).set (b:=w.heap.size) (by omega) 2 (_)).set (b:=w.heap.size) (by omega) 3 (_)).set (b:=w.heap.size) (by omega) 4 (_)).set (b:=w.heap.size) (by omega) 5 (_)).set (b:=w.heap.size) (by omega) 6 (_)).set (b:=w.heap.size) (by omega) 7 (_)).set (b:=w.heap.size) (by omega) 8 (_)).set (b:=w.heap.size) (by omega) 9 (_)).set (b:=w.heap.size) (by omega) 10 (_)).set (b:=w.heap.size) (by omega) 11 (_)).set (b:=w.heap.size) (by omega) 12 (_)).set (b:=w.heap.size) (by omega) 13 (_)).set (b:=w.heap.size) (by omega) 14 (_)).le (Nat.le_max_left dx dy)).mono (fun g hg=>by omega)
    ·exact ((((((((((((((((KY.out.set (b:=w.heap.size) (by omega) 0 (_)).set (b:=w.heap.size) (by omega) 1 (_)).set (b:=w.heap.size) (by omega) 2 (_)).set (b:=w.heap.size) (by omega) 3 (_)).set (b:=w.heap.size) (by omega) 4 (_)).set (b:=w.heap.size) (by omega) 5 (_)).set (b:=w.heap.size) (by omega) 6 (_)).set (b:=w.heap.size) (by omega) 7 (_)).set (b:=w.heap.size) (by omega) 8 (_)).set (b:=w.heap.size) (by omega) 9 (_)).set (b:=w.heap.size) (by omega) 10 (_)).set (b:=w.heap.size) (by omega) 11 (_)).set (b:=w.heap.size) (by omega) 12 (_)).set (b:=w.heap.size) (by omega) 13 (_)).set (b:=w.heap.size) (by omega) 14 (_)).le (Nat.le_max_right dx dy)).mono (fun g hg=>by omega)
   ·have ht : decide (j≤6)=false:=by rw [decide_eq_false_iff_not];exact h6
    clear h6 hj
    have c0:=zab HI.out.own (k:=0) rfl
    have HYC:=hid (HY.out _ HI.out.rt.rd)
    go_wp2_with fail
    clear c0 htc ht
    with_reducible refine HYC.out.mono ?_
    rintro e w5 ⟨kv,dy,rfl,hkv,hd⟩
    obtain ⟨ya,yc,rfl⟩:=hkv.slice
    obtain ⟨yq,hyq⟩ : ∃ q,y.ks.length=q:=⟨_,rfl⟩
    rw [hyq] at hkv ⊢
    have KY:=hid (show ExK (· < w.heap.size+2) w5 dy (.slice ya yq yc) y.ks from hkv.mono (fun g hg=>Nat.lt_of_lt_of_le hg HI.out.big))
    replace HI:=hid (HI.out.call hR hd)
    replace KX:=hid (KX.out.keepR hd.fr (by omega))
    clear hkv hd hyq HYC HY
    have d8:=zab HI.out.own (k:=8) rfl
    have d9:=zab HI.out.own (k:=9) rfl
    have d10:=zab HI.out.own (k:=10) rfl
    have d11:=zab HI.out.own (k:=11) rfl
    have d12:=zab HI.out.own (k:=12) rfl
    have d13:=zab HI.out.own (k:=13) rfl
    have d14:=zab HI.out.own (k:=14) rfl
    have fd8:=zac HI.out.own (k:=8)
    have fd9:=zac HI.out.own (k:=9)
    have fd10:=zac HI.out.own (k:=10)
    have fd11:=zac HI.out.own (k:=11)
    have fd12:=zac HI.out.own (k:=12)
    have fd13:=zac HI.out.own (k:=13)
    have fd14:=zac HI.out.own (k:=14)
    replace HI:=hid (HI.out.setR hR (.int .i64 y.k) (.int .i64 y.v.k) (.int .i64 y.v.n) (.string (strB y.v.s)) (.string (strB y.x)) (.string (strB y.f)) (.slice ya yq yc))
    replace KX:=hid (((((((KX.out.set (b:=w.heap.size+1) (Nat.lt_succ_self _) 8 (.int .i64 y.k)).set (b:=w.heap.size+1) (Nat.lt_succ_self _) 9 (.int .i64 y.v.k)).set (b:=w.heap.size+1) (Nat.lt_succ_self _) 10 (.int .i64 y.v.n)).set (b:=w.heap.size+1) (Nat.lt_succ_self _) 11 (.string (strB y.v.s))).set (b:=w.heap.size+1) (Nat.lt_succ_self _) 12 (.string (strB y.x))).set (b:=w.heap.size+1) (Nat.lt_succ_self _) 13 (.string (strB y.f))).set (b:=w.heap.size+1) (Nat.lt_succ_self _) 14 (.slice ya yq yc))
    replace KY:=hid (((((((KY.out.set (b:=w.heap.size+1) (Nat.lt_succ_self _) 8 (.int .i64 y.k)).set (b:=w.heap.size+1) (Nat.lt_succ_self _) 9 (.int .i64 y.v.k)).set (b:=w.heap.size+1) (Nat.lt_succ_self _) 10 (.int .i64 y.v.n)).set (b:=w.heap.size+1) (Nat.lt_succ_self _) 11 (.string (strB y.v.s))).set (b:=w.heap.size+1) (Nat.lt_succ_self _) 12 (.string (strB y.x))).set (b:=w.heap.size+1) (Nat.lt_succ_self _) 13 (.string (strB y.f))).set (b:=w.heap.size+1) (Nat.lt_succ_self _) 14 (.slice ya yq yc))
    have e0:=zab HI.out.own (k:=0) rfl
    have e1:=zab HI.out.own (k:=1) rfl
    have e2:=zab HI.out.own (k:=2) rfl
    have e3:=zab HI.out.own (k:=3) rfl
    have e4:=zab HI.out.own (k:=4) rfl
    have e5:=zab HI.out.own (k:=5) rfl
    have e6:=zab HI.out.own (k:=6) rfl
    have e7:=zab HI.out.own (k:=7) rfl
    have e8:=zab HI.out.own (k:=8) rfl
    have e9:=zab HI.out.own (k:=9) rfl
    have e10:=zab HI.out.own (k:=10) rfl
    have e11:=zab HI.out.own (k:=11) rfl
    have e12:=zab HI.out.own (k:=12) rfl
    have e13:=zab HI.out.own (k:=13) rfl
    have e14:=zab HI.out.own (k:=14) rfl
    have r0:=zab HI.out.res (k:=0) rfl
    have r1:=zab HI.out.res (k:=1) rfl
    have r2:=zab HI.out.res (k:=2) rfl
    have r3:=zab HI.out.res (k:=3) rfl
    have r4:=zab HI.out.res (k:=4) rfl
    have r5:=zab HI.out.res (k:=5) rfl
    have r6:=zab HI.out.res (k:=6) rfl
    have r7:=zab HI.out.res (k:=7) rfl
    have r8:=zab HI.out.res (k:=8) rfl
    have r9:=zab HI.out.res (k:=9) rfl
    have r10:=zab HI.out.res (k:=10) rfl
    have r11:=zab HI.out.res (k:=11) rfl
    have r12:=zab HI.out.res (k:=12) rfl
    have r13:=zab HI.out.res (k:=13) rfl
    have r14:=zab HI.out.res (k:=14) rfl
    have fr0:=zac HI.out.res (k:=0)
    have fr1:=zac HI.out.res (k:=1)
    have fr2:=zac HI.out.res (k:=2)
    have fr3:=zac HI.out.res (k:=3)
    have fr4:=zac HI.out.res (k:=4)
    have fr5:=zac HI.out.res (k:=5)
    have fr6:=zac HI.out.res (k:=6)
    have fr7:=zac HI.out.res (k:=7)
    have fr8:=zac HI.out.res (k:=8)
    have fr9:=zac HI.out.res (k:=9)
    have fr10:=zac HI.out.res (k:=10)
    have fr11:=zac HI.out.res (k:=11)
    have fr12:=zac HI.out.res (k:=12)
    have fr13:=zac HI.out.res (k:=13)
    have fr14:=zac HI.out.res (k:=14)
    simp only [xexV]
    go_wp2
    refine bodyPost_ret (v:=.agg #[.int .i64 (cm : Nat),.int .i64 x.k,.int .i64 x.v.k,.int .i64 x.v.n,.string (strB x.v.s),.string (strB x.x),.string (strB x.f),.slice xa xq xc,.int .i64 y.k,.int .i64 y.v.k,.int .i64 y.v.n,.string (strB y.v.s),.string (strB y.x),.string (strB y.f),.slice ya yq yc]) (by simp [results,Tryz.results142,go_sem,r0,r1,r2,r3,r4,r5,r6,r7,r8,r9,r10,r11,r12,r13,r14]) rfl ⟨xa,xq,xc,ya,yq,yc,max dx dy,rfl,?_,?_,(((((((((((((((HI.out.rt.set hR (Nat.le_refl _) 0 (_)).set hR (Nat.le_refl _) 1 (_)).set hR (Nat.le_refl _) 2 (_)).set hR (Nat.le_refl _) 3 (_)).set hR (Nat.le_refl _) 4 (_)).set hR (Nat.le_refl _) 5 (_)).set hR (Nat.le_refl _) 6 (_)).set hR (Nat.le_refl _) 7 (_)).set hR (Nat.le_refl _) 8 (_)).set hR (Nat.le_refl _) 9 (_)).set hR (Nat.le_refl _) 10 (_)).set hR (Nat.le_refl _) 11 (_)).set hR (Nat.le_refl _) 12 (_)).set hR (Nat.le_refl _) 13 (_)).set hR (Nat.le_refl _) 14 (_))⟩
    ·exact ((((((((((((((((KX.out.set (b:=w.heap.size) (by omega) 0 (_)).set (b:=w.heap.size) (by omega) 1 (_)).set (b:=w.heap.size) (by omega) 2 (_)).set (b:=w.heap.size) (by omega) 3 (_)).set (b:=w.heap.size) (by omega) 4 (_)).set (b:=w.heap.size) (by omega) 5 (_)).set (b:=w.heap.size) (by omega) 6 (_)).set (b:=w.heap.size) (by omega) 7 (_)).set (b:=w.heap.size) (by omega) 8 (_)).set (b:=w.heap.size) (by omega) 9 (_)).set (b:=w.heap.size) (by omega) 10 (_)).set (b:=w.heap.size) (by omega) 11 (_)).set (b:=w.heap.size) (by omega) 12 (_)).set (b:=w.heap.size) (by omega) 13 (_)).set (b:=w.heap.size) (by omega) 14 (_)).le (Nat.le_max_left dx dy)).mono (fun g hg=>by omega)
    ·exact ((((((((((((((((KY.out.set (b:=w.heap.size) (by omega) 0 (_)).set (b:=w.heap.size) (by omega) 1 (_)).set (b:=w.heap.size) (by omega) 2 (_)).set (b:=w.heap.size) (by omega) 3 (_)).set (b:=w.heap.size) (by omega) 4 (_)).set (b:=w.heap.size) (by omega) 5 (_)).set (b:=w.heap.size) (by omega) 6 (_)).set (b:=w.heap.size) (by omega) 7 (_)).set (b:=w.heap.size) (by omega) 8 (_)).set (b:=w.heap.size) (by omega) 9 (_)).set (b:=w.heap.size) (by omega) 10 (_)).set (b:=w.heap.size) (by omega) 11 (_)).set (b:=w.heap.size) (by omega) 12 (_)).set (b:=w.heap.size) (by omega) 13 (_)).set (b:=w.heap.size) (by omega) 14 (_)).le (Nat.le_max_right dx dy)).mono (fun g hg=>by omega)
end Go.Proofs.YtkmlfkbpcgkpaaaGreatDoor
