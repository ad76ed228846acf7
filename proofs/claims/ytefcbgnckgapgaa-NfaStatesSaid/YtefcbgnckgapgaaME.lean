/- Queries: an item, as the document's reader reads it. | Words: the document's own Read. -/
import Derived.Test.YtefcbgnckgapgaaM1
import Derived.Test.YtefcbgnckgapgaaMC
import Derived.Test.YtefcbgnckgapgaaDDw
namespace Go.Proofs.Ytefcbgnckgapgaa
open Go.RowKit Go.Lib Go.Op
structure ItIn (R T : Nat) (L : List XTok) (w W : World) (no : Bool) (v x : Value) (md : Int) (l : List (List UInt8)) (s : DS) : Prop where
 res : Blk W w.heap.size #[.bool false,.slice none 0 0,.string ⟨#[]⟩,.int .i64 0] 38
 own : Blk W (w.heap.size+1) #[.bool no,v,x,.int .i64 md] 38
 row : OwnP nameD W (w.heap.size+2) 9 v l
 rt : DdTo R T L s w W
 big : w.heap.size+2≤W.heap.size
section
variable {R T : Nat} {L : List XTok} {w W W' : World} {no : Bool} {v x : Value} {md : Int} {l : List (List UInt8)} {s s' : DS}
theorem ItIn.call (h : ItIn R T L w W no v x md l s) (hR : R < w.heap.size) (hd : DdTo R T L s' W W') : ItIn R T L w W' no v x md l s' :=
 ⟨h.res.keep hd.fr (by omega),h.own.keep hd.fr (by omega),h.row.keep hd.fr (fun k e=>by omega),h.rt.trans hd,Nat.le_trans h.big hd.fr.size⟩
theorem ItIn.low (h : ItIn R T L w W no v x md l s) (hb : Below W.heap.size W W') : ItIn R T L w W' no v x md l s :=
 ⟨h.res.low hb,h.own.low hb,h.row.keep (TFr.of_below (K:=fun _=>False) hb) (fun _ h=>h.elim),h.rt.then hb,Nat.le_trans h.big hb.size⟩
theorem ItIn.neg (h : ItIn R T L w W no v x md l s) (hR : R < w.heap.size) (b : Bool) : ItIn R T L w (W.setCell ⟨w.heap.size+1,0,none⟩ (.bool b)) b v x md l s :=
 ⟨h.res.at (by omega) _ _,h.own.set 0 _ rfl,h.row.keep (TFr.at (w.heap.size+1) 0 _) (fun k e=>by omega),h.rt.set hR (by omega) _ _,by simpa using h.big⟩
theorem ItIn.text (h : ItIn R T L w W no v x md l s) (hR : R < w.heap.size) (y : Value) : ItIn R T L w (W.setCell ⟨w.heap.size+1,2,none⟩ y) no v y md l s :=
 ⟨h.res.at (by omega) _ _,h.own.set 2 _ rfl,h.row.keep (TFr.at (w.heap.size+1) 2 _) (fun k e=>by omega),h.rt.set hR (by omega) _ _,by simpa using h.big⟩
theorem ItIn.mode (h : ItIn R T L w W no v x md l s) (hR : R < w.heap.size) (k : Int) : ItIn R T L w (W.setCell ⟨w.heap.size+1,3,none⟩ (.int .i64 k)) no v x k l s :=
 ⟨h.res.at (by omega) _ _,h.own.set 3 _ rfl,h.row.keep (TFr.at (w.heap.size+1) 3 _) (fun k e=>by omega),h.rt.set hR (by omega) _ _,by simpa using h.big⟩
end
def onN : Value→Nat
 | .bool true=>1
 | _=>0
def DiTo (R T : Nat) (L : List XTok) (p : PIt × DS) (w : World) (e : Ending) (w' : World) : Prop:=∃ a q c,e=.returned (.agg #[.bool p.1.no,.slice a q c,.string (strB p.1.x),.int .i64 p.1.mode])∧q=p.1.ns.length∧RowK nameD (· < w.heap.size) w' (.slice a q c) p.1.ns∧DdTo R T L p.2 w w'
theorem dRow_end {α : Type} {b : List UInt8} {one : DS→α × DS} {n : Nat} {l : List α} {s : DS} (h : dIs s 1 b=false) : dRow b one n l s=(l,s):=by
 cases n with
 | zero=>rfl
 | succ n=>rw [dRow,h];rfl
theorem dRow_more {α : Type} {b : List UInt8} {one : DS→α × DS} {n : Nat} {l : List α} {s : DS} (h : dIs s 1 b=true) : dRow b one (n+1) l s=dRow b one n (l++[(one (dSkip s)).1]) (one (dSkip s)).2:=by rw [dRow,if_pos h]
theorem DdTo.grown' {w W W' : World} {R T : Nat} {L : List XTok} {s : DS} (h : DdTo R T L s w W) (hR : R < w.heap.size) {row : Option Nat} (hg : W.grownBy W' row) (hb : ∀ k,row=some k→w.heap.size≤k) : DdTo R T L s w W':=h.grown hR hg hb
set_option maxHeartbeats 8000000 in
set_option maxRecDepth 100000 in
theorem ditem_calls {w : World} {R T : Nat} {L : List XTok} {s : DS} {n : Nat} (h : DdR w R T L s) (hn : s.l.length≤n) : Calls Try.prog 48 #[.pointer (some ⟨R,0,none⟩)] w (DiTo R T L (dItem n s) w):=by
 have hR:=h.lt
 have h5 : s.l.length≤500:=by
  obtain ⟨a,c,h⟩:=h
  have:=h.le
  have:=h.len
  omega
 obtain ⟨⟨l1,s1⟩,h1⟩ : ∃ z,dRow1 wOr dName n (dTake s 1 wNot)=z:=⟨_,rfl⟩
 obtain ⟨⟨x2,s2⟩,h2⟩ : ∃ z,dName s1=z:=⟨_,rfl⟩
 obtain ⟨⟨m3,s3⟩,h3⟩ : ∃ z,dMode s2=z:=⟨_,rfl⟩
 obtain ⟨bn,hbn⟩ : ∃ z,dIs s 1 wNot=z:=⟨_,rfl⟩
 obtain ⟨s0,hs0⟩ : ∃ z,dTake s 1 wNot=z:=⟨_,rfl⟩
 have hz : dItem n s=(⟨bn,l1,x2,m3⟩,s3):=by
  unfold dItem
  dsimp only
  rw [h1,hbn]
  dsimp only
  rw [h2]
  dsimp only
  rw [h3]
 rw [hz]
 rw [hs0] at h1
 have hle0 : s0.l.length≤s.l.length:=by rw [← hs0];exact dTake_le _ _
 have HX:=hid (And.intro h2 h3)
 have HL0:=hid (show dRow wOr dName n ([]++[(dName s0).1]) (dName s0).2=(l1,s1)∧(dName s0).2.l.length≤n∧([] : List (List UInt8)).length+s0.l.length≤500 from ⟨h1,Nat.le_trans dName_le (by omega),by simp;omega⟩)
 have hb1:=(Below.refl w.heap.size w).alloc (Nat.le_refl _) (.cells #[.bool false,.slice none 0 0,.string ⟨#[]⟩,.int .i64 0] 38)
 have hb2:=hb1.alloc hb1.size (.cells #[.bool false,.slice none 0 0,.string ⟨#[]⟩,.int .i64 1] 38)
 have P2:=(Blk.new w #[.bool false,.slice none 0 0,.string ⟨#[]⟩,.int .i64 0] 38).low ((Below.refl _ _).alloc (Nat.le_refl _) (.cells #[.bool false,.slice none 0 0,.string ⟨#[]⟩,.int .i64 1] 38))
 have P3:=Blk.new (w.alloc (.cells #[.bool false,.slice none 0 0,.string ⟨#[]⟩,.int .i64 0] 38)) #[.bool false,.slice none 0 0,.string ⟨#[]⟩,.int .i64 1] 38
 rw [show (w.alloc (.cells #[.bool false,.slice none 0 0,.string ⟨#[]⟩,.int .i64 0] 38)).heap.size=w.heap.size+1 by simp] at P3
 have HI : Hid (ItIn R T L w ((w.alloc (.cells #[.bool false,.slice none 0 0,.string ⟨#[]⟩,.int .i64 0] 38)).alloc (.cells #[.bool false,.slice none 0 0,.string ⟨#[]⟩,.int .i64 1] 38)) false (.slice none 0 0) (.string ⟨#[]⟩) 1 [] s):=hid ⟨P2,P3,⟨[],rfl,⟨by simp,.inl ⟨rfl,rfl⟩⟩,fun c hc=>by simp at hc,fun j x hj=>by simp at hj⟩,DdTo.of_below h hb2,by simp⟩
 have HC:=hid (dtakeW_calls HI.out.rt.rd wNot)
 rw [hbn,hs0] at HC
 have HC2 : Hid (Calls Try.prog 49 #[.pointer (some ⟨R,0,none⟩),.int .i64 1,.string ⟨#[110,111,116]⟩] ((w.alloc (.cells #[.bool false,.slice none 0 0,.string ⟨#[]⟩,.int .i64 0] 38)).alloc (.cells #[.bool false,.slice none 0 0,.string ⟨#[]⟩,.int .i64 1] 38)) fun e w'=>e=.returned (.bool bn)∧DdTo R T L s0 ((w.alloc (.cells #[.bool false,.slice none 0 0,.string ⟨#[]⟩,.int .i64 0] 38)).alloc (.cells #[.bool false,.slice none 0 0,.string ⟨#[]⟩,.int .i64 1] 38)) w'):=HC.out
 clear h h5 h1 h2 h3 hbn hs0 hz hle0 hb1 hb2 P2 P3 HC hn
 go_enter Try.func48,Try.ntmps48
 go_wp2_with fail
 with_reducible refine HC2.out.mono ?_
 rintro e w3 ⟨rfl,hd⟩
 have HI:=hid (HI.out.call hR hd)
 clear hd HC2
 have c0:=tcell HI.out.own (k:=0) rfl
 have c1:=tcell HI.out.own (k:=1) rfl
 have c2:=tcell HI.out.own (k:=2) rfl
 have c3:=tcell HI.out.own (k:=3) rfl
 have fc0:=tfrozen HI.out.own (k:=0)
 have fc1:=tfrozen HI.out.own (k:=1)
 have fc2:=tfrozen HI.out.own (k:=2)
 have fc3:=tfrozen HI.out.own (k:=3)
 have HI:=hid (HI.out.neg hR bn)
 go_wp2
 clear c0 c1 c2 c3 fc0 fc1 fc2 fc3
 go_loopw [4,5] (fun on _ wr=>∃ (b : Bool) (v : Value) (l : List (List UInt8)) (s : DS) (k : Nat),on=.bool b∧Hid (ItIn R T L w wr bn v (.string ⟨#[]⟩) 1 l s)∧Hid (b=true→dRow wOr dName k (l++[(dName s).1]) (dName s).2=(l1,s1)∧(dName s).2.l.length≤k∧l.length+s.l.length≤500)∧Hid (b=false→(l,s)=(l1,s1))) (fun on _ wr=>2*leftD R wr+onN on)
 case atStart=>exact ⟨true,.slice none 0 0,[],s0,n,rfl,HI,hid (fun _=>HL0.out),hid (fun h=>by cases h)⟩
 case round =>
  clear HI HL0
  obtain ⟨b,v,l,s,k,rfl,HI,HT,HE⟩:=hrel
  cases b with
  | false =>
    have he:=HE.out rfl
    injection he with e1 e2
    subst e1 e2
    clear HE HT
    have HC:=dname_calls HI.out.rt.rd
    rw [HX.out.1] at HC
    have HC2 : Hid (Calls Try.prog 52 #[.pointer (some ⟨R,0,none⟩)] wr fun e w'=>e=.returned (.string (strB x2))∧DdTo R T L s2 wr w'):=hid HC
    clear HC
    go_wp2_with fail
    with_reducible refine HC2.out.mono ?_
    rintro e w4 ⟨rfl,hd⟩
    have HI:=hid (HI.out.call hR hd)
    clear hd HC2
    have c0:=tcell HI.out.own (k:=0) rfl
    have c1:=tcell HI.out.own (k:=1) rfl
    have c2:=tcell HI.out.own (k:=2) rfl
    have c3:=tcell HI.out.own (k:=3) rfl
    have fc0:=tfrozen HI.out.own (k:=0)
    have fc1:=tfrozen HI.out.own (k:=1)
    have fc2:=tfrozen HI.out.own (k:=2)
    have fc3:=tfrozen HI.out.own (k:=3)
    have HI:=hid (HI.out.text hR (.string (strB x2)))
    have h3:=HX.out.2
    clear HX
    unfold dMode at h3
    cases hp : dIs s2 4 [43] with
    | true =>
      rw [hp,if_pos rfl] at h3
      injection h3 with e1 e2
      subst e1 e2
      have HP0:=hid hp
      clear hp
      have HC:=hid (dtakeS_calls HI.out.rt.rd [43])
      rw [show dIs s2 4 [43]=true from HP0.out,show dTake s2 4 [43]=(dSkip s2) from dTake_yes HP0.out] at HC
      have HC2 : Hid (Calls Try.prog 49 #[.pointer (some ⟨R,0,none⟩),.int .i64 4,.string ⟨#[43]⟩] (w4.setCell ⟨w.heap.size+1,2,none⟩ (.string (strB x2))) fun e w'=>e=.returned (.bool true)∧DdTo R T L (dSkip s2) (w4.setCell ⟨w.heap.size+1,2,none⟩ (.string (strB x2))) w'):=HC.out
      clear HC
      go_wp2_with fail
      with_reducible refine HC2.out.mono ?_
      rintro e w5 ⟨rfl,hd⟩
      clear c0 c1 c2 c3 fc0 fc1 fc2 fc3
      have HI:=hid (HI.out.call hR hd)
      clear hd HC2
      have c0:=tcell HI.out.own (k:=0) rfl
      have c1:=tcell HI.out.own (k:=1) rfl
      have c2:=tcell HI.out.own (k:=2) rfl
      have c3:=tcell HI.out.own (k:=3) rfl
      have fc0:=tfrozen HI.out.own (k:=0)
      have fc1:=tfrozen HI.out.own (k:=1)
      have fc2:=tfrozen HI.out.own (k:=2)
      have fc3:=tfrozen HI.out.own (k:=3)
      have HI:=hid (HI.out.mode hR 2)
      obtain ⟨va,vc,rfl⟩:=HI.out.row.slice
      have KR:=hid HI.out.row.row
      obtain ⟨q,hq⟩ : ∃ q,l.length=q:=⟨_,rfl⟩
      have HQ:=hid hq
      rw [hq] at HI KR
      clear hq
      have e0:=tcell HI.out.own (k:=0) rfl
      have e1:=tcell HI.out.own (k:=1) rfl
      have e2:=tcell HI.out.own (k:=2) rfl
      have e3:=tcell HI.out.own (k:=3) rfl
      have fe0:=tfrozen HI.out.own (k:=0)
      have fe1:=tfrozen HI.out.own (k:=1)
      have fe2:=tfrozen HI.out.own (k:=2)
      have fe3:=tfrozen HI.out.own (k:=3)
      have r0:=tcell HI.out.res (k:=0) rfl
      have r1:=tcell HI.out.res (k:=1) rfl
      have r2:=tcell HI.out.res (k:=2) rfl
      have r3:=tcell HI.out.res (k:=3) rfl
      have fr0:=tfrozen HI.out.res (k:=0)
      have fr1:=tfrozen HI.out.res (k:=1)
      have fr2:=tfrozen HI.out.res (k:=2)
      have fr3:=tfrozen HI.out.res (k:=3)
      go_wp2
      refine bodyPost_ret (v:=.agg #[.bool bn,.slice va q vc,.string (strB x2),.int .i64 2]) (by simp [results,Try.results48,go_sem,r0,r1,r2,r3]) rfl ⟨va,q,vc,rfl,HQ.out.symm,?_,(((HI.out.rt.set hR (Nat.le_refl _) 0 _).set hR (Nat.le_refl _) 1 _).set hR (Nat.le_refl _) 2 _).set hR (Nat.le_refl _) 3 _⟩
      exact (((((KR.out.keepR (TFr.at w.heap.size 0 _) (by omega)).keepR (TFr.at w.heap.size 1 _) (by omega)).keepR (TFr.at w.heap.size 2 _) (by omega)).keepR (TFr.at w.heap.size 3 _) (by omega)).mono (fun g hg=>by omega))
    | false =>
      have HP0:=hid hp
      rw [hp,if_neg (by simp)] at h3
      clear hp
      have HC:=hid (dtakeS_calls HI.out.rt.rd [43])
      rw [show dIs s2 4 [43]=false from HP0.out,show dTake s2 4 [43]=s2 from dTake_no HP0.out] at HC
      have HC2 : Hid (Calls Try.prog 49 #[.pointer (some ⟨R,0,none⟩),.int .i64 4,.string ⟨#[43]⟩] (w4.setCell ⟨w.heap.size+1,2,none⟩ (.string (strB x2))) fun e w'=>e=.returned (.bool false)∧DdTo R T L s2 (w4.setCell ⟨w.heap.size+1,2,none⟩ (.string (strB x2))) w'):=HC.out
      clear HC
      go_wp2_with fail
      with_reducible refine HC2.out.mono ?_
      rintro e w5 ⟨rfl,hd⟩
      clear c0 c1 c2 c3 fc0 fc1 fc2 fc3
      have HI:=hid (HI.out.call hR hd)
      clear hd HC2
      clear HP0
      cases hp : dIs s2 4 [63] with
      | true =>
        rw [hp,if_pos rfl] at h3
        injection h3 with e1 e2
        subst e1 e2
        have HP0:=hid hp
        clear hp
        have HC:=hid (dtakeS_calls HI.out.rt.rd [63])
        rw [show dIs s2 4 [63]=true from HP0.out,show dTake s2 4 [63]=(dSkip s2) from dTake_yes HP0.out] at HC
        have HC2 : Hid (Calls Try.prog 49 #[.pointer (some ⟨R,0,none⟩),.int .i64 4,.string ⟨#[63]⟩] w5 fun e w'=>e=.returned (.bool true)∧DdTo R T L (dSkip s2) w5 w'):=HC.out
        clear HC
        go_wp2_with fail
        with_reducible refine HC2.out.mono ?_
        rintro e w6 ⟨rfl,hd⟩
        have HI:=hid (HI.out.call hR hd)
        clear hd HC2
        have c0:=tcell HI.out.own (k:=0) rfl
        have c1:=tcell HI.out.own (k:=1) rfl
        have c2:=tcell HI.out.own (k:=2) rfl
        have c3:=tcell HI.out.own (k:=3) rfl
        have fc0:=tfrozen HI.out.own (k:=0)
        have fc1:=tfrozen HI.out.own (k:=1)
        have fc2:=tfrozen HI.out.own (k:=2)
        have fc3:=tfrozen HI.out.own (k:=3)
        have HI:=hid (HI.out.mode hR 3)
        obtain ⟨va,vc,rfl⟩:=HI.out.row.slice
        have KR:=hid HI.out.row.row
        obtain ⟨q,hq⟩ : ∃ q,l.length=q:=⟨_,rfl⟩
        have HQ:=hid hq
        rw [hq] at HI KR
        clear hq
        have e0:=tcell HI.out.own (k:=0) rfl
        have e1:=tcell HI.out.own (k:=1) rfl
        have e2:=tcell HI.out.own (k:=2) rfl
        have e3:=tcell HI.out.own (k:=3) rfl
        have fe0:=tfrozen HI.out.own (k:=0)
        have fe1:=tfrozen HI.out.own (k:=1)
        have fe2:=tfrozen HI.out.own (k:=2)
        have fe3:=tfrozen HI.out.own (k:=3)
        have r0:=tcell HI.out.res (k:=0) rfl
        have r1:=tcell HI.out.res (k:=1) rfl
        have r2:=tcell HI.out.res (k:=2) rfl
        have r3:=tcell HI.out.res (k:=3) rfl
        have fr0:=tfrozen HI.out.res (k:=0)
        have fr1:=tfrozen HI.out.res (k:=1)
        have fr2:=tfrozen HI.out.res (k:=2)
        have fr3:=tfrozen HI.out.res (k:=3)
        go_wp2
        refine bodyPost_ret (v:=.agg #[.bool bn,.slice va q vc,.string (strB x2),.int .i64 3]) (by simp [results,Try.results48,go_sem,r0,r1,r2,r3]) rfl ⟨va,q,vc,rfl,HQ.out.symm,?_,(((HI.out.rt.set hR (Nat.le_refl _) 0 _).set hR (Nat.le_refl _) 1 _).set hR (Nat.le_refl _) 2 _).set hR (Nat.le_refl _) 3 _⟩
        exact (((((KR.out.keepR (TFr.at w.heap.size 0 _) (by omega)).keepR (TFr.at w.heap.size 1 _) (by omega)).keepR (TFr.at w.heap.size 2 _) (by omega)).keepR (TFr.at w.heap.size 3 _) (by omega)).mono (fun g hg=>by omega))
      | false =>
        have HP0:=hid hp
        rw [hp,if_neg (by simp)] at h3
        injection h3 with e1 e2
        subst e1 e2
        clear hp
        have HC:=hid (dtakeS_calls HI.out.rt.rd [63])
        rw [show dIs s2 4 [63]=false from HP0.out,show dTake s2 4 [63]=s2 from dTake_no HP0.out] at HC
        have HC2 : Hid (Calls Try.prog 49 #[.pointer (some ⟨R,0,none⟩),.int .i64 4,.string ⟨#[63]⟩] w5 fun e w'=>e=.returned (.bool false)∧DdTo R T L s2 w5 w'):=HC.out
        clear HC
        go_wp2_with fail
        with_reducible refine HC2.out.mono ?_
        rintro e w6 ⟨rfl,hd⟩
        have HI:=hid (HI.out.call hR hd)
        clear hd HC2
        obtain ⟨va,vc,rfl⟩:=HI.out.row.slice
        have KR:=hid HI.out.row.row
        obtain ⟨q,hq⟩ : ∃ q,l.length=q:=⟨_,rfl⟩
        have HQ:=hid hq
        rw [hq] at HI KR
        clear hq
        have e0:=tcell HI.out.own (k:=0) rfl
        have e1:=tcell HI.out.own (k:=1) rfl
        have e2:=tcell HI.out.own (k:=2) rfl
        have e3:=tcell HI.out.own (k:=3) rfl
        have fe0:=tfrozen HI.out.own (k:=0)
        have fe1:=tfrozen HI.out.own (k:=1)
        have fe2:=tfrozen HI.out.own (k:=2)
        have fe3:=tfrozen HI.out.own (k:=3)
        have r0:=tcell HI.out.res (k:=0) rfl
        have r1:=tcell HI.out.res (k:=1) rfl
        have r2:=tcell HI.out.res (k:=2) rfl
        have r3:=tcell HI.out.res (k:=3) rfl
        have fr0:=tfrozen HI.out.res (k:=0)
        have fr1:=tfrozen HI.out.res (k:=1)
        have fr2:=tfrozen HI.out.res (k:=2)
        have fr3:=tfrozen HI.out.res (k:=3)
        go_wp2
        refine bodyPost_ret (v:=.agg #[.bool bn,.slice va q vc,.string (strB x2),.int .i64 1]) (by simp [results,Try.results48,go_sem,r0,r1,r2,r3]) rfl ⟨va,q,vc,rfl,HQ.out.symm,?_,(((HI.out.rt.set hR (Nat.le_refl _) 0 _).set hR (Nat.le_refl _) 1 _).set hR (Nat.le_refl _) 2 _).set hR (Nat.le_refl _) 3 _⟩
        exact (((((KR.out.keepR (TFr.at w.heap.size 0 _) (by omega)).keepR (TFr.at w.heap.size 1 _) (by omega)).keepR (TFr.at w.heap.size 2 _) (by omega)).keepR (TFr.at w.heap.size 3 _) (by omega)).mono (fun g hg=>by omega))
  | true =>
    have HT2:=hid (HT.out rfl)
    obtain ⟨⟨y,s4⟩,hy⟩ : ∃ z,dName s=z:=⟨_,rfl⟩
    rw [hy] at HT2
    dsimp only at HT2
    have HA:=hid hy
    have HL:=hid (leftD_is HI.out.rt.rd)
    have HLE:=hid (show s4.l.length≤s.l.length by have:=dName_le (s:=s);rw [hy] at this;exact this)
    clear hy HT HE
    obtain ⟨va,vc,rfl⟩:=HI.out.row.slice
    obtain ⟨q,hq⟩ : ∃ q,l.length=q:=⟨_,rfl⟩
    have HQ:=hid hq
    rw [hq] at HI
    clear hq
    have HC:=dname_calls HI.out.rt.rd
    rw [HA.out] at HC
    have HC2 : Hid (Calls Try.prog 52 #[.pointer (some ⟨R,0,none⟩)] wr fun e w'=>e=.returned (.string (strB y))∧DdTo R T L s4 wr w'):=hid HC
    clear HC
    go_wp2_with fail
    with_reducible refine HC2.out.mono ?_
    rintro e w4 ⟨rfl,hd⟩
    have HI:=hid (HI.out.call hR hd)
    clear hd HC2
    have HAP : ∃ a9 l9 c9 w9,(Builtin.append_ #[26,26] 26 #[.slice va q vc,.slice (some ⟨w4.heap.size,0,none⟩) 1 1]).run Try.prog (w4.alloc (.cells #[.string (strB y)] 9))=.ok (.slice a9 l9 c9) w9∧Hid (OwnP nameD w9 (w.heap.size+2) 9 (.slice a9 l9 c9) (l++[y]))∧Hid (DdTo R T L s4 w w9)∧Blk w9 w.heap.size #[.bool false,.slice none 0 0,.string ⟨#[]⟩,.int .i64 0] 38∧Blk w9 (w.heap.size+1) #[.bool bn,.slice va q vc,.string ⟨#[]⟩,.int .i64 1] 38∧w.heap.size+2≤w9.heap.size:=by
     have hb5:=(Below.refl w4.heap.size w4).alloc (Nat.le_refl _) (.cells #[.string (strB y)] 9)
     have h5:=HI.out.low hb5
     have hsz : (w4.alloc (.cells #[.string (strB y)] 9)).heap.size=w4.heap.size+1:=by simp
     have ho:=HI.out.row.own
     have hpp : nameD.P (fun g=>g < w.heap.size+2∨(Value.slice va q vc).ownBlock=some g) (w4.alloc (.cells #[.string (strB y)] 9)) [.string (strB y)] y:=rfl
     obtain ⟨v9,w9,hr,ho9,hg⟩:=OwnP.append (ts:=26) (ty:=26) (by kernel_rfl) strI rfl (by decide) (by decide) h5.row h5.big (by have:=HT2.out.2.2;have:=HQ.out;omega) hpp (heap_alloc_new w4 _)
     obtain ⟨a9,c9,rfl⟩:=ho9.slice
     have hf : TFr (fun k=>(Value.slice va q vc).ownBlock=some k) (w4.alloc (.cells #[.string (strB y)] 9)) w9:=TFr.of_grown hg (fun k hk=>hk)
     refine ⟨a9,_,c9,w9,hr,hid ho9,hid (h5.rt.grown hR hg (fun k hk=>by have:=(ho k hk).1;omega)),h5.res.keep hf (fun hk=>by have:=(ho _ hk).1;omega),h5.own.keep hf (fun hk=>by have:=(ho _ hk).1;omega),Nat.le_trans h5.big hf.size⟩
    obtain ⟨a9,l9,c9,w9,hr9,O9,D9,B9,G9,S9⟩:=HAP
    have c1:=tcell HI.out.own (k:=1) rfl
    have k1:=tcell G9 (k:=1) rfl
    have fk1:=tfrozen G9 (k:=1)
    have HI : Hid (ItIn R T L w (w9.setCell ⟨w.heap.size+1,1,none⟩ (.slice a9 l9 c9)) bn (.slice a9 l9 c9) (.string ⟨#[]⟩) 1 (l++[y]) s4):=hid ⟨B9.at (by omega) _ _,G9.set 1 _ rfl,O9.out.keep (TFr.at (w.heap.size+1) 1 _) (fun k e=>by omega),D9.out.set hR (by omega) _ _,by simpa using S9⟩
    clear B9 G9 O9 D9 S9
    cases hp : dIs s4 1 [111,114] with
    | true =>
      have HP0:=hid hp
      obtain ⟨k3,rfl⟩ : ∃ k3,k=k3+1:=by
       have h1:=dSkip_lt hp
       have h2:=HT2.out.2.1
       exact ⟨k - 1,by omega⟩
      have HN : Hid (dRow wOr dName k3 ((l++[y])++[(dName (dSkip s4)).1]) (dName (dSkip s4)).2=(l1,s1)∧(dName (dSkip s4)).2.l.length≤k3∧(l++[y]).length+(dSkip s4).l.length≤500):=by
       have h1:=dSkip_lt hp
       have h2:=HT2.out
       refine hid ⟨?_,Nat.le_trans dName_le (by omega),?_⟩
       ·rw [← dRow_more (show dIs s4 1 wOr=true from hp)]
        exact h2.1
       ·have:=HLE.out
        rw [List.length_append,List.length_singleton]
        omega
      have HLT:=hid (show (dSkip s4).l.length < s.l.length by have:=dSkip_lt hp;have:=HLE.out;omega)
      have HC:=hid (dtakeW_calls HI.out.rt.rd [111,114])
      rw [hp,dTake_yes hp] at HC
      have HC2 : Hid (Calls Try.prog 49 #[.pointer (some ⟨R,0,none⟩),.int .i64 1,.string ⟨#[111,114]⟩] (w9.setCell ⟨w.heap.size+1,1,none⟩ (.slice a9 l9 c9)) fun e w'=>e=.returned (.bool true)∧DdTo R T L (dSkip s4) (w9.setCell ⟨w.heap.size+1,1,none⟩ (.slice a9 l9 c9)) w'):=HC.out
      clear HC hp HT2
      go_wp2_with (at_builtin;refine Lib.wpList_append_run _ rfl _ _ _ _ rfl _ _ rfl rfl _ _ hr9 ?_;clear hr9)
      with_reducible refine HC2.out.mono ?_
      rintro e w10 ⟨rfl,hd⟩
      have HI:=hid (HI.out.call hR hd)
      clear hd HC2 c1 k1 fk1
      go_wp2
      refine ⟨⟨true,_,l++[y],dSkip s4,k3,rfl,HI,hid (fun _=>HN.out),hid (fun h=>by cases h)⟩,?_⟩
      rw [leftD_is HI.out.rt.rd,HL.out]
      have:=HLT.out
      show 2*_+1 < 2*_+1
      omega
    | false =>
      have HN : Hid ((l++[y],s4)=(l1,s1)):=hid (by
       have h2:=HT2.out.1
       rw [dRow_end (show dIs s4 1 wOr=false from hp)] at h2
       exact h2)
      have HC:=hid (dtakeW_calls HI.out.rt.rd [111,114])
      rw [hp,dTake_no hp] at HC
      have HC2 : Hid (Calls Try.prog 49 #[.pointer (some ⟨R,0,none⟩),.int .i64 1,.string ⟨#[111,114]⟩] (w9.setCell ⟨w.heap.size+1,1,none⟩ (.slice a9 l9 c9)) fun e w'=>e=.returned (.bool false)∧DdTo R T L s4 (w9.setCell ⟨w.heap.size+1,1,none⟩ (.slice a9 l9 c9)) w'):=HC.out
      clear HC hp HT2
      go_wp2_with (at_builtin;refine Lib.wpList_append_run _ rfl _ _ _ _ rfl _ _ rfl rfl _ _ hr9 ?_;clear hr9)
      with_reducible refine HC2.out.mono ?_
      rintro e w10 ⟨rfl,hd⟩
      have HI:=hid (HI.out.call hR hd)
      clear hd HC2 c1 k1 fk1
      go_wp2
      refine ⟨⟨false,_,l++[y],s4,k,rfl,HI,hid (fun h=>by cases h),hid (fun _=>HN.out)⟩,?_⟩
      rw [leftD_is HI.out.rt.rd,HL.out]
      have:=HLE.out
      show 2*_+0 < 2*_+1
      omega
end Go.Proofs.Ytefcbgnckgapgaa
namespace Go.Proofs.Ytefcbgnckgapgaa
open Go.RowKit Go.Lib Go.Op
theorem XIn.blank {w : World} {l : List UInt8} {f a : Nat} {acc : List XTok} {v : Value} {W : World} (h : XIn w l f a acc v W) {c : UInt8} (hc : l[a]?=some c) (hb : xblank c=true) : XIn w l f (a+1) acc v W:=by
 obtain ⟨h1,h2,h3,h4,h5,h6⟩:=h
 obtain ⟨hlt,he⟩:=List.getElem?_eq_some_iff.1 hc
 refine ⟨hlt,by omega,?_,h4,h5,h6⟩
 rw [h3,List.drop_eq_getElem_cons hlt,he,dlexX_blank hb]
theorem dfirst_letter {c : UInt8} {t : List UInt8} (h : xletter c=true) {n : Nat} (hn : (if 16 < manyL xin (c :: t) then 0 else manyL xin (c :: t))=n) : firstX (c :: t)=(if n=0 then 0 else 1,n):=by
 have hm : 1≤manyL xin (c :: t):=by
  rw [manyL_cons,if_pos (by unfold xin;rw [h];rfl)]
  omega
 show firstC c t=_
 unfold firstC
 rw [if_pos h]
 subst hn
 split
 ·rfl
 ·rw [if_neg (by omega)]
theorem dfirst_digit {c : UInt8} {t : List UInt8} (h : xletter c=false) (hd : xdigit c=true) {n : Nat} (hn : (if rightN ((c :: t).take (manyL xdigit (c :: t))) then manyL xdigit (c :: t) else 0)=n) : firstX (c :: t)=(if n=0 then 0 else 2,n):=by
 have hm : 1≤manyL xdigit (c :: t):=by
  rw [manyL_cons,if_pos hd]
  omega
 show firstC c t=_
 unfold firstC
 rw [if_neg (by rw [h];simp),if_pos hd]
 subst hn
 split
 ·rw [if_neg (by omega)]
 ·rfl
theorem dfirst_quot {c : UInt8} {t : List UInt8} (h : xletter c=false) (hd : xdigit c=false) (h39 : c.toNat=39) {n : Nat} (hn : quotN t=n) : firstX (c :: t)=(if n=0 then 0 else 3,n):=by
 show firstC c t=_
 unfold firstC
 rw [if_neg (by rw [h];simp),if_neg (by rw [hd];simp),if_pos h39]
 subst hn
 unfold quotN
 split
 ·rfl
 ·rw [if_neg (by omega)]
theorem dfirst_sign {c : UInt8} {t : List UInt8} (h : xletter c=false) (hd : xdigit c=false) (h39 : ¬ c.toNat=39) {n : Nat} (hn : signN c t=n) : firstX (c :: t)=(if n=0 then 0 else 4,n):=by
 show firstC c t=_
 unfold firstC
 rw [if_neg (by rw [h];simp),if_neg (by rw [hd];simp),if_neg h39]
 subst hn
 unfold signN
 split
 ·rfl
 ·split <;> rfl
set_option maxHeartbeats 8000000 in
set_option maxRecDepth 100000 in
theorem xread_calls (w : World) (s : ByteArray) (l : List UInt8) (hl : s.data.toList=l) (hs : s.size≤100000) :
 Calls Try.prog 31 #[.string s] w (ReadQ w (readX l)):=by
 have hlen : l.length=s.size:=by rw [← hl];simp
 by_cases hlong : 512 < s.size
 ·have hr : readX l=([],2,0):=by unfold readX;rw [if_pos (by omega)]
  have Hr:=hid hr
  clear hr hl hlen
  go_enter Try.func31,Try.ntmps31
  go_wp2
  refine bodyPost_ret (v:=.tuple #[.slice none 0 0,.int .i64 2,.int .i64 0]) (by simp [results,Try.results31,go_sem]) rfl ?_
  exact ReadQ.mk Hr.out rfl rfl (XOwn.nil _ _) (Below.refl _ _)
 have Hl:=hid hl
 have Hlen:=hid hlen
 have HR0 : Hid (readX l=appX [] (lexX (s.size+1) (l.drop 0) 0 ([] : List XTok).length)):=by
  show _=_
  rw [appX_nil _ (lexX_form _ _ _ _).1]
  unfold readX
  rw [if_neg (by omega),hlen]
  rfl
 have HX0 : Hid (XIn w l (s.size+1) 0 [] (.slice none 0 0) w):=⟨Nat.zero_le _,by omega,HR0.out,by simp,XOwn.nil _ _,Below.refl _ _⟩
 clear hl hlen HR0
 go_enter Try.func31,Try.ntmps31
 go_wp2
 go_loopw [5,6,7,8,9] (fun v i x y z wr=>∃ (f a : Nat) (acc : List XTok),i=.int .i64 a∧Hid (XIn w l f a acc v wr)) (fun _ i _ _ _ _=>s.size - (RowKit.intOf i).toNat)
 case atStart=>exact ⟨s.size+1,0,[],rfl,HX0⟩
 case round =>
  clear HX0
  obtain ⟨f,a,acc,rfl,HX⟩:=hrel
  have hX:=HX.out
  obtain ⟨h1,h2,h3,h4,h5,h6⟩:=hX
  rw [Hlen.out] at h1 h2
  obtain ⟨f,rfl⟩ : ∃ g,f=g+1:=⟨f - 1,by omega⟩
  have H3:=hid h3
  have HO:=hid h5
  have HB:=hid h6
  obtain ⟨va,vc,rfl⟩:=h5.slice
  clear h3 h5 h6
  obtain ⟨q,hq⟩ : ∃ q,acc.length=q:=⟨_,rfl⟩
  have Hq:=hid hq
  rw [hq] at h4 ⊢
  clear hq
  by_cases hlt : a < s.size
  ·have hget:=get_at s hlt
   rw [Hl.out] at hget
   obtain ⟨c,hc⟩ : ∃ c,s[a]=c:=⟨_,rfl⟩
   rw [hc] at hget
   obtain ⟨m,hm⟩ : ∃ m,c.toNat=m:=⟨_,rfl⟩
   have hi:=index_lit s hlt hc hm
   have Hget:=hid hget
   have Hm:=hid hm
   have hdr : l.drop a=c :: l.drop (a+1):=by
    obtain ⟨h7,h8⟩:=List.getElem?_eq_some_iff.1 hget
    rw [List.drop_eq_getElem_cons h7,h8]
   have Hdr:=hid hdr
   clear hget hdr hc hm
   by_cases h32 : m=32
   ·have HN : Hid (XIn w l (f+1) (a+1) acc (.slice va acc.length vc) wr):=HX.out.blank Hget.out (by unfold xblank;rw [Hm.out];simp [h32])
    rw [Hq.out] at HN
    have t1 : ((m : Int) == 32)=true:=by rw [beq_iff_eq];omega
    clear h32
    go_wp2
    refine ⟨⟨f+1,a+1,acc,by go_num,HN⟩,?_⟩
    simp [RowKit.intOf]
    omega
   have t1 : ((m : Int) == 32)=false:=by rw [beq_eq_false_iff_ne];omega
   by_cases h10 : m=10
   ·have HN : Hid (XIn w l (f+1) (a+1) acc (.slice va acc.length vc) wr):=HX.out.blank Hget.out (by unfold xblank;rw [Hm.out];simp [h10])
    rw [Hq.out] at HN
    have t2 : ((m : Int) == 10)=true:=by rw [beq_iff_eq];omega
    clear h10
    go_wp2
    refine ⟨⟨f+1,a+1,acc,by go_num,HN⟩,?_⟩
    simp [RowKit.intOf]
    omega
   have t2 : ((m : Int) == 10)=false:=by rw [beq_eq_false_iff_ne];omega
   have Hm0 : Hid (manyL xblank (l.drop a)=0):=by
    show _=_
    rw [Hdr.out,manyL_cons,if_neg (by unfold xblank;rw [Hm.out];simp [h32,h10])]
   have Hnb : Hid (¬ (l.drop a).length≤manyL xblank (l.drop a)):=by
    show ¬ _
    rw [Hm0.out,List.length_drop,Hlen.out]
    omega
   have Hdd : Hid ((l.drop a).drop (manyL xblank (l.drop a))=l.drop a):=by
    show _=_
    rw [Hm0.out,List.drop_zero]
   have hyl : (s.extract a s.size).data.toList=l.drop a:=by rw [Pa.extract_from,Hl.out]
   have hyz : (s.extract a s.size).size≤1000:=by
    have e:=bsize (s.extract a s.size)
    rw [← e,hyl,List.length_drop,Hlen.out];omega
   have hyc : (s.extract a s.size).data.toList=c :: l.drop (a+1):=by rw [hyl,Hdr.out]
   have HBT : Hid (∀ k,Below w.heap.size w (wr.alloc (.cells #[.int .i64 k,.string ⟨#[]⟩,.int .i64 a] 72))):=fun k=>HB.out.alloc HB.out.size _
   clear h32 h10
   have HLe : Hid (∀ W,Calls Try.prog 41 #[.int .u8 m] W fun e w'=>e=.returned (.bool (xletter c))∧W=w'):=fun W=>by rw [← Hm.out];exact rletter_calls c W
   have HDi : Hid (∀ W,Calls Try.prog 43 #[.int .u8 m] W fun e w'=>e=.returned (.bool (xdigit c))∧W=w'):=fun W=>by rw [← Hm.out];exact rdigit_calls c W
   have hfle : Hid (∀ k n,firstX (l.drop a)=(k,n)→a+n≤s.size):=fun k n h=>by
    have:=firstX_le (l.drop a)
    rw [h,List.length_drop,Hlen.out] at this
    dsimp only at this
    omega
   have htk : Hid (∀ n,a+n≤s.size→(s.extract a (a+n)).data.toList=(l.drop a).take n):=fun n hn=>by
    rw [ext_list,Hl.out,List.drop_take]
    congr 1
    omega
   have HAP : Hid (∀ (k : Nat) (tx : ByteArray) (tb : List UInt8),tx=strB tb→∀ w2,Below wr.heap.size wr w2→∀ {n : Nat},firstX (l.drop a)=(k,n)→n≠0→tb=textX k ((l.drop a).take n)→q≠128→∃ a9 l9 c9 w9,(Builtin.append_ #[64,64] 64 #[.slice va q vc,.slice (some ⟨w2.heap.size,0,none⟩) 1 1]).run Try.prog (w2.alloc (.cells #[.int .i64 k,.string tx,.int .i64 a] 72))=.ok (.slice a9 l9 c9) w9∧Hid (XIn w l f (a+n) (acc++[⟨k,tb,a⟩]) (.slice a9 l9 c9) w9)):=by
    intro k tx tb htx w2 hb2 n hfx hn0 htb h128
    subst htx
    have hbw : Below w.heap.size w w2:=HB.out.trans (hb2.mono HB.out.size)
    have hba:=hbw.alloc hbw.size (.cells #[.int .i64 k,.string (strB tb),.int .i64 a] 72)
    have hown : XOwn (w2.alloc (.cells #[.int .i64 k,.string (strB tb),.int .i64 a] 72)) w.heap.size (.slice va q vc) acc:=by
     have h:=(HO.out.below hb2).below ((Below.refl _ _).alloc (Nat.le_refl _) (.cells #[.int .i64 k,.string (strB tb),.int .i64 a] 72))
     rw [Hq.out] at h
     exact h
    obtain ⟨v9,w9,hr9,ho9,hg9⟩:=hown.append hba.size (by rw [Hq.out];omega) ⟨k,tb,a⟩ w2.heap.size (heap_alloc_new w2 _) 64
    obtain ⟨a9,c9,rfl⟩:=ho9.slice
    refine ⟨a9,_,c9,w9,hr9,?_⟩
    rw [htb] at ho9 ⊢
    have h:=XIn.step HX.out Hm0.out (by rw [Hlen.out];omega) (show firstX (l.drop (a+0))=(k,n) by rw [Nat.add_zero];exact hfx) hn0 (by rw [Hq.out];exact h128) ho9 (hba.grown hg9 hba.size (fun j hj=>(hown.lt j hj).1))
    exact h
   cases hlb : xletter c with
   | true =>
     obtain ⟨n,hn⟩ : ∃ n : Nat,(if 16 < manyL xin (c :: l.drop (a+1)) then 0 else manyL xin (c :: l.drop (a+1)))=n:=⟨_,rfl⟩
     have HL : Hid (∀ W,Calls Try.prog 41 #[.int .u8 m] W fun e w'=>e=.returned (.bool true)∧W=w'):=fun W=>by rw [← hlb];exact HLe.out W
     have HN : Hid (∀ W,Calls Try.prog 42 #[.string (s.extract a s.size)] W fun e w'=>e=.returned (.int .i64 n)∧W=w'):=fun W=>by
      have h:=rwordx_calls (s.extract a s.size) W hyz (fun c hc=>by rw [hyc] at hc;injection hc with hc;rw [← hc];exact hlb)
      rw [hyc] at h
      rw [← hn]
      exact h
     have Hfx : Hid (firstX (l.drop a)=(if n=0 then 0 else 1,n)):=by show _=_;rw [Hdr.out];exact dfirst_letter hlb hn
     have HNL : Hid (n≠0→a+n≤s.size):=fun _=>hfle.out _ _ Hfx.out
     have HTX : Hid (n≠0→s.extract a (a+n)=strB (textX 1 ((l.drop a).take n))):=fun h0=>str_of (by rw [htk.out n (HNL.out h0)];rfl)
     clear hlb hn hyl hyz hyc HLe HDi hfle htk Hget Hdr
     by_cases hn0 : n=0
     ·subst hn0
      have hres : readX l=([],71,a):=by
       rw [H3.out,lexX_none Hnb.out (by rw [Hdd.out,Hfx.out]),Hm0.out]
       unfold appX
       simp
      have Hres:=hid hres
      clear hres HAP
      go_wp2_with fail
      with_reducible refine (HL.out _).mono ?_
      rintro e w1 ⟨rfl,rfl⟩
      go_wp2_with fail
      with_reducible refine (HN.out _).mono ?_
      rintro e w1 ⟨rfl,rfl⟩
      go_wp2
      refine bodyPost_ret (v:=.tuple #[.slice none 0 0,.int .i64 71,.int .i64 a]) (by simp [results,Try.results31,go_sem]) rfl ?_
      exact ReadQ.mk Hres.out rfl rfl (XOwn.nil _ _) (HBT.out _)
     have tz : ((n : Int) == 0)=false:=by rw [beq_eq_false_iff_ne];omega
     by_cases h128 : q=128
     ·have hres : readX l=([],2,a):=by
       rw [H3.out,lexX_many Hnb.out (by rw [Hdd.out,Hfx.out];exact hn0) (by rw [Hq.out];exact h128),Hm0.out]
       unfold appX
       simp
      have Hres:=hid hres
      have tq : ((q : Int) == 128)=true:=by rw [beq_iff_eq];omega
      clear hres HAP
      go_wp2_with fail
      with_reducible refine (HL.out _).mono ?_
      rintro e w1 ⟨rfl,rfl⟩
      go_wp2_with fail
      with_reducible refine (HN.out _).mono ?_
      rintro e w1 ⟨rfl,rfl⟩
      go_wp2
      refine bodyPost_ret (v:=.tuple #[.slice none 0 0,.int .i64 2,.int .i64 a]) (by simp [results,Try.results31,go_sem]) rfl ?_
      exact ReadQ.mk Hres.out rfl rfl (XOwn.nil _ _) (HBT.out _)
     have tq : ((q : Int) == 128)=false:=by rw [beq_eq_false_iff_ne];omega
     have htx : (s.extract a (a+n))=strB (textX 1 ((l.drop a).take n)):=HTX.out hn0
     have hnle:=HNL.out hn0
     have hw2 : IntKind.i64.wrap ((a : Int)+(n : Int))=(a : Int)+(n : Int):=IntWalk.i64_in _ (by omega)
     have hz1 : (0 : Int)≤(a : Int)+(n : Int):=by omega
     have hz2 : (a : Int)+(n : Int)≤(s.size : Int):=by omega
     have hz3 : ((a : Int)+(n : Int)).toNat=a+n:=by omega
     have hz4 : (a : Int)≤(a : Int)+(n : Int):=by omega
     have hr : ∃ a9 l9 c9 w9,(Builtin.append_ #[64,64] 64 #[.slice va q vc,.slice (some ⟨wr.heap.size+1,0,none⟩) 1 1]).run Try.prog ((wr.alloc (.cells #[.int .i64 1,.string (s.extract a (a+n)),.int .i64 a] 72)).alloc (.cells #[.int .i64 1,.string (s.extract a (a+n)),.int .i64 a] 72))=.ok (.slice a9 l9 c9) w9∧Hid (XIn w l f (a+n) (acc++[⟨1,textX 1 ((l.drop a).take n),a⟩]) (.slice a9 l9 c9) w9):=by
      have h:=HAP.out 1 (s.extract a (a+n)) (textX 1 ((l.drop a).take n)) htx (wr.alloc (.cells #[.int .i64 1,.string (s.extract a (a+n)),.int .i64 a] 72)) ((Below.refl _ _).alloc (Nat.le_refl _) _) (show firstX (l.drop a)=(1,n) by rw [Hfx.out,if_neg hn0]) hn0 rfl h128
      rw [World.size_alloc] at h
      exact h
     obtain ⟨a9,l9,c9,w9,hr9,HF9⟩:=hr
     clear htx HTX H3 Hnb Hdd Hfx HAP
     go_wp2_with fail
     with_reducible refine (HL.out _).mono ?_
     rintro e w1 ⟨rfl,rfl⟩
     go_wp2_with fail
     with_reducible refine (HN.out _).mono ?_
     rintro e w1 ⟨rfl,rfl⟩
     go_wp2_with (at_builtin;refine Lib.wpList_append_run _ rfl _ _ _ _ rfl _ _ rfl rfl _ _ hr9 ?_;clear hr9)
     refine ⟨⟨f,a+n,_,by go_num,HF9⟩,?_⟩
     simp [RowKit.intOf]
     omega
   | false =>
     have HL : Hid (∀ W,Calls Try.prog 41 #[.int .u8 m] W fun e w'=>e=.returned (.bool false)∧W=w'):=fun W=>by rw [← hlb];exact HLe.out W
     cases hdb : xdigit c with
     | true =>
       obtain ⟨n,hn⟩ : ∃ n : Nat,(if rightN ((c :: l.drop (a+1)).take (manyL xdigit (c :: l.drop (a+1)))) then manyL xdigit (c :: l.drop (a+1)) else 0)=n:=⟨_,rfl⟩
       have HD : Hid (∀ W,Calls Try.prog 43 #[.int .u8 m] W fun e w'=>e=.returned (.bool true)∧W=w'):=fun W=>by rw [← hdb];exact HDi.out W
       have HN : Hid (∀ W,Calls Try.prog 44 #[.string (s.extract a s.size)] W fun e w'=>e=.returned (.int .i64 n)∧W=w'):=fun W=>by
        have h:=rnumberx_calls (s.extract a s.size) W hyz c (l.drop (a+1)) hyc hdb
        rw [hyc] at h
        rw [← hn]
        exact h
       have Hfx : Hid (firstX (l.drop a)=(if n=0 then 0 else 2,n)):=by show _=_;rw [Hdr.out];exact dfirst_digit hlb hdb hn
       have HNL : Hid (n≠0→a+n≤s.size):=fun _=>hfle.out _ _ Hfx.out
       have HTX : Hid (n≠0→s.extract a (a+n)=strB (textX 2 ((l.drop a).take n))):=fun h0=>str_of (by rw [htk.out n (HNL.out h0)];rfl)
       clear hlb hdb hn hyl hyz hyc HLe HDi hfle htk Hget Hdr
       by_cases hn0 : n=0
       ·subst hn0
        have hres : readX l=([],71,a):=by
         rw [H3.out,lexX_none Hnb.out (by rw [Hdd.out,Hfx.out]),Hm0.out]
         unfold appX
         simp
        have Hres:=hid hres
        clear hres HAP
        go_wp2_with fail
        with_reducible refine (HL.out _).mono ?_
        rintro e w1 ⟨rfl,rfl⟩
        go_wp2_with fail
        with_reducible refine (HD.out _).mono ?_
        rintro e w1 ⟨rfl,rfl⟩
        go_wp2_with fail
        with_reducible refine (HN.out _).mono ?_
        rintro e w1 ⟨rfl,rfl⟩
        go_wp2
        refine bodyPost_ret (v:=.tuple #[.slice none 0 0,.int .i64 71,.int .i64 a]) (by simp [results,Try.results31,go_sem]) rfl ?_
        exact ReadQ.mk Hres.out rfl rfl (XOwn.nil _ _) (HBT.out _)
       have tz : ((n : Int) == 0)=false:=by rw [beq_eq_false_iff_ne];omega
       by_cases h128 : q=128
       ·have hres : readX l=([],2,a):=by
         rw [H3.out,lexX_many Hnb.out (by rw [Hdd.out,Hfx.out];exact hn0) (by rw [Hq.out];exact h128),Hm0.out]
         unfold appX
         simp
        have Hres:=hid hres
        have tq : ((q : Int) == 128)=true:=by rw [beq_iff_eq];omega
        clear hres HAP
        go_wp2_with fail
        with_reducible refine (HL.out _).mono ?_
        rintro e w1 ⟨rfl,rfl⟩
        go_wp2_with fail
        with_reducible refine (HD.out _).mono ?_
        rintro e w1 ⟨rfl,rfl⟩
        go_wp2_with fail
        with_reducible refine (HN.out _).mono ?_
        rintro e w1 ⟨rfl,rfl⟩
        go_wp2
        refine bodyPost_ret (v:=.tuple #[.slice none 0 0,.int .i64 2,.int .i64 a]) (by simp [results,Try.results31,go_sem]) rfl ?_
        exact ReadQ.mk Hres.out rfl rfl (XOwn.nil _ _) (HBT.out _)
       have tq : ((q : Int) == 128)=false:=by rw [beq_eq_false_iff_ne];omega
       have htx : (s.extract a (a+n))=strB (textX 2 ((l.drop a).take n)):=HTX.out hn0
       have hnle:=HNL.out hn0
       have hw2 : IntKind.i64.wrap ((a : Int)+(n : Int))=(a : Int)+(n : Int):=IntWalk.i64_in _ (by omega)
       have hz1 : (0 : Int)≤(a : Int)+(n : Int):=by omega
       have hz2 : (a : Int)+(n : Int)≤(s.size : Int):=by omega
       have hz3 : ((a : Int)+(n : Int)).toNat=a+n:=by omega
       have hz4 : (a : Int)≤(a : Int)+(n : Int):=by omega
       have hr : ∃ a9 l9 c9 w9,(Builtin.append_ #[64,64] 64 #[.slice va q vc,.slice (some ⟨wr.heap.size+1,0,none⟩) 1 1]).run Try.prog ((wr.alloc (.cells #[.int .i64 2,.string (s.extract a (a+n)),.int .i64 a] 72)).alloc (.cells #[.int .i64 2,.string (s.extract a (a+n)),.int .i64 a] 72))=.ok (.slice a9 l9 c9) w9∧Hid (XIn w l f (a+n) (acc++[⟨2,textX 2 ((l.drop a).take n),a⟩]) (.slice a9 l9 c9) w9):=by
        have h:=HAP.out 2 (s.extract a (a+n)) (textX 2 ((l.drop a).take n)) htx (wr.alloc (.cells #[.int .i64 2,.string (s.extract a (a+n)),.int .i64 a] 72)) ((Below.refl _ _).alloc (Nat.le_refl _) _) (show firstX (l.drop a)=(2,n) by rw [Hfx.out,if_neg hn0]) hn0 rfl h128
        rw [World.size_alloc] at h
        exact h
       obtain ⟨a9,l9,c9,w9,hr9,HF9⟩:=hr
       clear htx HTX H3 Hnb Hdd Hfx HAP
       go_wp2_with fail
       with_reducible refine (HL.out _).mono ?_
       rintro e w1 ⟨rfl,rfl⟩
       go_wp2_with fail
       with_reducible refine (HD.out _).mono ?_
       rintro e w1 ⟨rfl,rfl⟩
       go_wp2_with fail
       with_reducible refine (HN.out _).mono ?_
       rintro e w1 ⟨rfl,rfl⟩
       go_wp2_with (at_builtin;refine Lib.wpList_append_run _ rfl _ _ _ _ rfl _ _ rfl rfl _ _ hr9 ?_;clear hr9)
       refine ⟨⟨f,a+n,_,by go_num,HF9⟩,?_⟩
       simp [RowKit.intOf]
       omega
     | false =>
       have HD : Hid (∀ W,Calls Try.prog 43 #[.int .u8 m] W fun e w'=>e=.returned (.bool false)∧W=w'):=fun W=>by rw [← hdb];exact HDi.out W
       by_cases h39 : m=39
       ·obtain ⟨n,hn⟩ : ∃ n : Nat,quotN (l.drop (a+1))=n:=⟨_,rfl⟩
        have HN : Hid (∀ W,Calls Try.prog 45 #[.string (s.extract a s.size)] W fun e w'=>e=.returned (.int .i64 n)∧W=w'):=fun W=>by
         have h:=rquoted_calls (s.extract a s.size) W hyz c (l.drop (a+1)) hyc
         rw [← hn]
         exact h
        have Hfx : Hid (firstX (l.drop a)=(if n=0 then 0 else 3,n)):=by show _=_;rw [Hdr.out];exact dfirst_quot hlb hdb (by rw [Hm.out];exact h39) hn
        have HNL : Hid (n≠0→a+n≤s.size):=fun _=>hfle.out _ _ Hfx.out
        have HN2 : Hid (n≠0→2≤n):=fun _=>by
         rw [← hn]
         rename_i h0
         rw [← hn] at h0
         unfold quotN at h0 ⊢
         split
         ·rename_i e
          rw [if_pos e] at h0
          exact absurd rfl h0
         ·omega
        have HTX : Hid (n≠0→s.extract (a+1) (a+n - 1)=strB (textX 3 ((l.drop a).take n))):=fun h0=>str_of (by
         have hh:=HNL.out h0
         have hh2:=HN2.out h0
         unfold textX
         rw [if_pos rfl,List.length_take,List.length_drop,Hlen.out,Nat.min_eq_left (by omega),ext_list,Hl.out,List.drop_take,List.drop_take,List.drop_drop,List.take_take]
         congr 1
         omega)
        have t3 : ((m : Int) == 39)=true:=by rw [beq_iff_eq];omega
        clear hlb hdb hn hyl hyz hyc HLe HDi hfle htk Hget Hdr h39
        by_cases hn0 : n=0
        ·subst hn0
         have hres : readX l=([],71,a):=by
          rw [H3.out,lexX_none Hnb.out (by rw [Hdd.out,Hfx.out]),Hm0.out]
          unfold appX
          simp
         have Hres:=hid hres
         clear hres HAP
         go_wp2_with fail
         with_reducible refine (HL.out _).mono ?_
         rintro e w1 ⟨rfl,rfl⟩
         go_wp2_with fail
         with_reducible refine (HD.out _).mono ?_
         rintro e w1 ⟨rfl,rfl⟩
         go_wp2_with fail
         with_reducible refine (HN.out _).mono ?_
         rintro e w1 ⟨rfl,rfl⟩
         go_wp2
         refine bodyPost_ret (v:=.tuple #[.slice none 0 0,.int .i64 71,.int .i64 a]) (by simp [results,Try.results31,go_sem]) rfl ?_
         exact ReadQ.mk Hres.out rfl rfl (XOwn.nil _ _) (HBT.out _)
        have tz : ((n : Int) == 0)=false:=by rw [beq_eq_false_iff_ne];omega
        by_cases h128 : q=128
        ·have hres : readX l=([],2,a):=by
          rw [H3.out,lexX_many Hnb.out (by rw [Hdd.out,Hfx.out];exact hn0) (by rw [Hq.out];exact h128),Hm0.out]
          unfold appX
          simp
         have Hres:=hid hres
         have tq : ((q : Int) == 128)=true:=by rw [beq_iff_eq];omega
         clear hres HAP
         go_wp2_with fail
         with_reducible refine (HL.out _).mono ?_
         rintro e w1 ⟨rfl,rfl⟩
         go_wp2_with fail
         with_reducible refine (HD.out _).mono ?_
         rintro e w1 ⟨rfl,rfl⟩
         go_wp2_with fail
         with_reducible refine (HN.out _).mono ?_
         rintro e w1 ⟨rfl,rfl⟩
         go_wp2
         refine bodyPost_ret (v:=.tuple #[.slice none 0 0,.int .i64 2,.int .i64 a]) (by simp [results,Try.results31,go_sem]) rfl ?_
         exact ReadQ.mk Hres.out rfl rfl (XOwn.nil _ _) (HBT.out _)
        have tq : ((q : Int) == 128)=false:=by rw [beq_eq_false_iff_ne];omega
        have htx : (s.extract (a+1) (a+n - 1))=strB (textX 3 ((l.drop a).take n)):=HTX.out hn0
        have hnle:=HNL.out hn0
        have hw2 : IntKind.i64.wrap ((a : Int)+(n : Int))=(a : Int)+(n : Int):=IntWalk.i64_in _ (by omega)
        have hz1 : (0 : Int)≤(a : Int)+(n : Int):=by omega
        have hz2 : (a : Int)+(n : Int)≤(s.size : Int):=by omega
        have hz3 : ((a : Int)+(n : Int)).toNat=a+n:=by omega
        have hz4 : (a : Int)≤(a : Int)+(n : Int):=by omega
        have hn2:=HN2.out hn0
        have hw3 : IntKind.i64.wrap ((a : Int)+1)=(a : Int)+1:=IntWalk.i64_in _ (by omega)
        have hw4 : IntKind.i64.wrap ((a : Int)+(n : Int) - 1)=(a : Int)+(n : Int) - 1:=IntWalk.i64_in _ (by omega)
        have hy1 : (0 : Int)≤(a : Int)+1:=by omega
        have hy2 : (a : Int)+(n : Int) - 1≤(s.size : Int):=by omega
        have hy3 : ((a : Int)+(n : Int) - 1).toNat=a+n - 1:=by omega
        have hy4 : (a : Int)+1≤(a : Int)+(n : Int) - 1:=by omega
        have hy5 : ((a : Int)+1).toNat=a+1:=by omega
        have hr : ∃ a9 l9 c9 w9,(Builtin.append_ #[64,64] 64 #[.slice va q vc,.slice (some ⟨wr.heap.size+1,0,none⟩) 1 1]).run Try.prog ((wr.alloc (.cells #[.int .i64 3,.string (s.extract (a+1) (a+n - 1)),.int .i64 a] 72)).alloc (.cells #[.int .i64 3,.string (s.extract (a+1) (a+n - 1)),.int .i64 a] 72))=.ok (.slice a9 l9 c9) w9∧Hid (XIn w l f (a+n) (acc++[⟨3,textX 3 ((l.drop a).take n),a⟩]) (.slice a9 l9 c9) w9):=by
         have h:=HAP.out 3 (s.extract (a+1) (a+n - 1)) (textX 3 ((l.drop a).take n)) htx (wr.alloc (.cells #[.int .i64 3,.string (s.extract (a+1) (a+n - 1)),.int .i64 a] 72)) ((Below.refl _ _).alloc (Nat.le_refl _) _) (show firstX (l.drop a)=(3,n) by rw [Hfx.out,if_neg hn0]) hn0 rfl h128
         rw [World.size_alloc] at h
         exact h
        obtain ⟨a9,l9,c9,w9,hr9,HF9⟩:=hr
        clear htx HTX H3 Hnb Hdd Hfx HAP
        go_wp2_with fail
        with_reducible refine (HL.out _).mono ?_
        rintro e w1 ⟨rfl,rfl⟩
        go_wp2_with fail
        with_reducible refine (HD.out _).mono ?_
        rintro e w1 ⟨rfl,rfl⟩
        go_wp2_with fail
        with_reducible refine (HN.out _).mono ?_
        rintro e w1 ⟨rfl,rfl⟩
        go_wp2_with (at_builtin;refine Lib.wpList_append_run _ rfl _ _ _ _ rfl _ _ rfl rfl _ _ hr9 ?_;clear hr9)
        refine ⟨⟨f,a+n,_,by go_num,HF9⟩,?_⟩
        simp [RowKit.intOf]
        omega
       ·obtain ⟨n,hn⟩ : ∃ n : Nat,signN c (l.drop (a+1))=n:=⟨_,rfl⟩
        have HN : Hid (∀ W,Calls Try.prog 46 #[.string (s.extract a s.size)] W fun e w'=>e=.returned (.int .i64 n)∧Below W.heap.size W w'):=fun W=>by
         have h:=rsignx_calls (s.extract a s.size) W hyz c (l.drop (a+1)) hyc
         rw [← hn]
         exact h
        have Hfx : Hid (firstX (l.drop a)=(if n=0 then 0 else 4,n)):=by show _=_;rw [Hdr.out];exact dfirst_sign hlb hdb (by rw [Hm.out];exact h39) hn
        have HNL : Hid (n≠0→a+n≤s.size):=fun _=>hfle.out _ _ Hfx.out
        have HTX : Hid (n≠0→s.extract a (a+n)=strB (textX 4 ((l.drop a).take n))):=fun h0=>str_of (by rw [htk.out n (HNL.out h0)];rfl)
        have t3 : ((m : Int) == 39)=false:=by rw [beq_eq_false_iff_ne];omega
        clear hlb hdb hn hyl hyz hyc HLe HDi hfle htk Hget Hdr h39
        by_cases hn0 : n=0
        ·subst hn0
         have hres : readX l=([],71,a):=by
          rw [H3.out,lexX_none Hnb.out (by rw [Hdd.out,Hfx.out]),Hm0.out]
          unfold appX
          simp
         have Hres:=hid hres
         clear hres HAP
         go_wp2_with fail
         with_reducible refine (HL.out _).mono ?_
         rintro e w1 ⟨rfl,rfl⟩
         go_wp2_with fail
         with_reducible refine (HD.out _).mono ?_
         rintro e w1 ⟨rfl,rfl⟩
         go_wp2_with fail
         with_reducible refine (HN.out _).mono ?_
         rintro e w1 ⟨rfl,hb1⟩
         have HBs:=hid hb1
         have X1:=hid ((Blk.new wr #[.int .i64 4,.string ⟨#[]⟩,.int .i64 a] 72).low hb1)
         clear hb1
         go_wp2
         refine bodyPost_ret (v:=.tuple #[.slice none 0 0,.int .i64 71,.int .i64 a]) (by simp [results,Try.results31,go_sem]) rfl ?_
         exact ReadQ.mk Hres.out rfl rfl (XOwn.nil _ _) ((HBT.out _).trans (HBs.out.mono (HBT.out _).size))
        have tz : ((n : Int) == 0)=false:=by rw [beq_eq_false_iff_ne];omega
        by_cases h128 : q=128
        ·have hres : readX l=([],2,a):=by
          rw [H3.out,lexX_many Hnb.out (by rw [Hdd.out,Hfx.out];exact hn0) (by rw [Hq.out];exact h128),Hm0.out]
          unfold appX
          simp
         have Hres:=hid hres
         have tq : ((q : Int) == 128)=true:=by rw [beq_iff_eq];omega
         clear hres HAP
         go_wp2_with fail
         with_reducible refine (HL.out _).mono ?_
         rintro e w1 ⟨rfl,rfl⟩
         go_wp2_with fail
         with_reducible refine (HD.out _).mono ?_
         rintro e w1 ⟨rfl,rfl⟩
         go_wp2_with fail
         with_reducible refine (HN.out _).mono ?_
         rintro e w1 ⟨rfl,hb1⟩
         have HBs:=hid hb1
         have X1:=hid ((Blk.new wr #[.int .i64 4,.string ⟨#[]⟩,.int .i64 a] 72).low hb1)
         clear hb1
         go_wp2
         refine bodyPost_ret (v:=.tuple #[.slice none 0 0,.int .i64 2,.int .i64 a]) (by simp [results,Try.results31,go_sem]) rfl ?_
         exact ReadQ.mk Hres.out rfl rfl (XOwn.nil _ _) ((HBT.out _).trans (HBs.out.mono (HBT.out _).size))
        have tq : ((q : Int) == 128)=false:=by rw [beq_eq_false_iff_ne];omega
        have htx : (s.extract a (a+n))=strB (textX 4 ((l.drop a).take n)):=HTX.out hn0
        have hnle:=HNL.out hn0
        have hw2 : IntKind.i64.wrap ((a : Int)+(n : Int))=(a : Int)+(n : Int):=IntWalk.i64_in _ (by omega)
        have hz1 : (0 : Int)≤(a : Int)+(n : Int):=by omega
        have hz2 : (a : Int)+(n : Int)≤(s.size : Int):=by omega
        have hz3 : ((a : Int)+(n : Int)).toNat=a+n:=by omega
        have hz4 : (a : Int)≤(a : Int)+(n : Int):=by omega
        have HTXX:=hid htx
        have HFX:=hid (show firstX (l.drop a)=(4,n) by rw [Hfx.out,if_neg hn0])
        clear htx HTX H3 Hnb Hdd Hfx
        go_wp2_with fail
        with_reducible refine (HL.out _).mono ?_
        rintro e w1 ⟨rfl,rfl⟩
        go_wp2_with fail
        with_reducible refine (HD.out _).mono ?_
        rintro e w1 ⟨rfl,rfl⟩
        go_wp2_with fail
        with_reducible refine (HN.out _).mono ?_
        rintro e w1 ⟨rfl,hb1⟩
        have HBs:=hid hb1
        have X1:=hid ((Blk.new wr #[.int .i64 4,.string ⟨#[]⟩,.int .i64 a] 72).low hb1)
        clear hb1
        have x0:=tcell X1.out (k:=0) rfl
        have x1:=tcell X1.out (k:=1) rfl
        have x2:=tcell X1.out (k:=2) rfl
        have fx1:=tfrozen X1.out (k:=1)
        have hsz:=X1.out.lt
        have X2:=X1.out.set 1 (.string (s.extract a (a+n))) rfl
        have y0:=tcell X2 (k:=0) rfl
        have y1:=tcell X2 (k:=1) rfl
        have y2:=tcell X2 (k:=2) rfl
        have hr : ∃ a9 l9 c9 w9,(Builtin.append_ #[64,64] 64 #[.slice va q vc,.slice (some ⟨w1.heap.size,0,none⟩) 1 1]).run Try.prog ((w1.setCell ⟨wr.heap.size,1,none⟩ (.string (s.extract a (a+n)))).alloc (.cells #[.int .i64 4,.string (s.extract a (a+n)),.int .i64 a] 72))=.ok (.slice a9 l9 c9) w9∧Hid (XIn w l f (a+n) (acc++[⟨4,textX 4 ((l.drop a).take n),a⟩]) (.slice a9 l9 c9) w9):=by
         have hbz : Below wr.heap.size wr (w1.setCell ⟨wr.heap.size,1,none⟩ (.string (s.extract a (a+n)))):=by
          have h1:=((Below.refl wr.heap.size wr).alloc (Nat.le_refl _) (.cells #[.int .i64 4,.string ⟨#[]⟩,.int .i64 a] 72)).trans (HBs.out.mono (by simp))
          exact ((TFr.of_below (K:=fun k=>wr.heap.size≤k) h1).setCell (p:=⟨wr.heap.size,1,none⟩) (fun _=>Nat.le_refl _) _).below (Nat.le_refl _) (fun k hk=>hk)
         have h:=HAP.out 4 (s.extract a (a+n)) (textX 4 ((l.drop a).take n)) HTXX.out (w1.setCell ⟨wr.heap.size,1,none⟩ (.string (s.extract a (a+n)))) hbz HFX.out hn0 rfl h128
         rw [World.size_setCell] at h
         exact h
        obtain ⟨a9,l9,c9,w9,hr9,HF9⟩:=hr
        clear HAP X2
        go_wp2_with (at_builtin;refine Lib.wpList_append_run _ rfl _ _ _ _ rfl _ _ rfl rfl _ _ hr9 ?_;clear hr9)
        refine ⟨⟨f,a+n,_,by go_num,HF9⟩,?_⟩
        simp [RowKit.intOf]
        omega
  ·obtain rfl : a=s.size:=by omega
   have hres : readX l=(acc,0,0):=by
    rw [H3.out,lexX_end (by rw [List.length_drop,Hlen.out];omega)]
    unfold appX
    simp
   have Hres:=hid hres
   clear hres
   have HO2 : Hid (XOwn wr w.heap.size (.slice va q vc) acc):=by
    show XOwn _ _ _ _
    have h:=HO.out
    rw [Hq.out] at h
    exact h
   go_wp2
   refine bodyPost_ret (v:=.tuple #[.slice va q vc,.int .i64 0,.int .i64 0]) (by simp [results,Try.results31,go_sem]) rfl ?_
   exact ReadQ.mk Hres.out rfl rfl HO2.out HB.out
end Go.Proofs.Ytefcbgnckgapgaa
