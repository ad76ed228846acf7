/- Texts that others want. -/
import Derived.Test.YtkmlfkbpcgkpaaaGreatDoorM0
import Derived.Test.YtkmlfkbpcgkpaaaGreatDoorM4
import Derived.Deep.QuietTactic
import Derived.WalkMore
namespace Go.Proofs.YtkmlfkbpcgkpaaaGreatDoor
open Go.RowKit Go.Lib Go.Op
set_option maxHeartbeats 8000000
set_option maxRecDepth 100000
theorem zfi {l : List PIt} {j : Nat} {y : PIt} (h : l[j]?=some y) : l.drop j=y :: l.drop (j+1):=by
 obtain ⟨hj,rfl⟩:=List.getElem?_eq_some_iff.1 h
 exact List.drop_eq_getElem_cons hj
theorem zf5 {l : List PIt} {j : Nat} (h : l.length≤j) (n g : List Nat) : behT (l.drop j) j n g=⟨n,g,true⟩:=by
 rw [List.drop_eq_nil_of_le h]
 rfl
theorem zhd {l : List PIt} {j : Nat} {y : PIt} (h : l[j]?=some y) (hn : y.no=true) (n g : List Nat) : behT (l.drop j) j n g=behT (l.drop (j+1)) (j+1) n (g++[j]):=by
 rw [zfi h,behT,if_pos hn]
theorem zf6 {l : List PIt} {j : Nat} {y : PIt} (h : l[j]?=some y) (hn : y.no=false) (hm : y.mode=3) (n g : List Nat) : behT (l.drop j) j n g=behT (l.drop (j+1)) (j+1) (n++[j]) g:=by
 rw [zfi h,behT,if_neg (by rw [hn];simp),if_pos hm]
theorem zf7 {l : List PIt} {j : Nat} {y : PIt} (h : l[j]?=some y) (hn : y.no=false) (hm : y.mode≠3) (n g : List Nat) : behT (l.drop j) j n g=⟨n++[j],g,false⟩:=by
 rw [zfi h,behT,if_neg (by rw [hn];simp),if_neg hm]
def BeH (w wr : World) (l : List PIt) (st : PSt) (j : Nat) : Prop:=∃ vn vg n g,StM [(w.heap.size,#[.slice none 0 0,.slice none 0 0,.bool false],101)] w wr (w.heap.size+1) vn vg n g false∧behT (l.drop j) j n g=st∧n.length≤j∧g.length≤j
theorem zdH {K : Nat→Prop} {w : World} {a : Option Addr} {c : Nat} {l : List PIt} (h : RowK itemD K w (.slice a l.length c) l) (hl : l.length≤6) {k : Nat} {x : PIt} (hk : l[k]?=some x) :
 Calls Tryz.prog 91 #[.slice a l.length c,.int .i64 k] w (StTo (stAt l k x) w):=by
 obtain ⟨g,o,a',c',rfl,d0,d1,d2,d3,_⟩:=h.itemAt hk
 have hkl:=(List.getElem?_eq_some_iff.1 hk).1
 have H:=hid h
 have HK:=hid hk
 obtain ⟨q,hq⟩ : ∃ q,l.length=q:=⟨_,rfl⟩
 have HQ:=hid hq
 rw [hq] at hl hkl ⊢
 obtain ⟨st,hst⟩ : ∃ st,stAt l k x=st:=⟨_,rfl⟩
 have hb1:=(Below.refl w.heap.size w).alloc (Nat.le_refl _) (.cells #[.slice none 0 0,.slice none 0 0,.bool false] 101)
 have hb2:=hb1.alloc hb1.size (.cells #[.slice none 0 0,.slice none 0 0,.bool false] 101)
 have hp2:=(Blk.new w #[.slice none 0 0,.slice none 0 0,.bool false] 101).low ((Below.refl _ _).alloc (Nat.le_refl _) (.cells #[.slice none 0 0,.slice none 0 0,.bool false] 101))
 have hp3:=Blk.new (w.alloc (.cells #[.slice none 0 0,.slice none 0 0,.bool false] 101)) #[.slice none 0 0,.slice none 0 0,.bool false] 101
 rw [show (w.alloc (.cells #[.slice none 0 0,.slice none 0 0,.bool false] 101)).heap.size=w.heap.size+1 by simp] at hp3
 have e3:=zaa hb2 d3
 have s0 : StM [(w.heap.size,#[.slice none 0 0,.slice none 0 0,.bool false],101)] w ((w.alloc (.cells #[.slice none 0 0,.slice none 0 0,.bool false] 101)).alloc (.cells #[.slice none 0 0,.slice none 0 0,.bool false] 101)) (w.heap.size+1) (.slice none 0 0) (.slice none 0 0) [] [] false:=⟨hb2,hp3,by omega,OwnI.nil _ _,OwnI.nil _ _,by simp [Value.ownBlock],by simp [Value.ownBlock],fun b hb=>by simp [Value.ownBlock] at hb,fun r hr=>by
  obtain rfl:=List.mem_singleton.1 hr
  exact ⟨hp2,by dsimp only;omega,by simp [Value.ownBlock],by simp [Value.ownBlock]⟩⟩
 rw [hst]
 have HW : IntKind.i64.wrap ((k : Int)+1)=((k+1 : Nat) : Int):=by rw [IntWalk.i64_in _ (by omega)];omega
 by_cases h2 : x.mode=2
 ·have hst1 : behT (l.drop (k+1)) (k+1) [k] []=st:=by
   rw [← hst]
   unfold stAt
   rw [if_pos h2]
  obtain ⟨a9,c9,w9,hr9,hM9,hB9⟩:=s0.next (by simp) k
  have hsz : ((w.alloc (.cells #[.slice none 0 0,.slice none 0 0,.bool false] 101)).alloc (.cells #[.slice none 0 0,.slice none 0 0,.bool false] 101)).heap.size=w.heap.size+1+1:=by simp
  rw [hsz] at hr9
  have HM:=hid hM9
  have HB9:=hid hB9
  have HST:=hid hst1
  have t2 : (x.mode == 2)=true:=beq_iff_eq.2 h2
  have m0:=zab hB9 (k:=0) rfl
  have f0:=zac hB9 (k:=0)
  clear h hk hq hb1 hb2 hp2 hp3 d0 d1 d2 d3 hst hst1 s0 hM9 hB9 h2 hsz
  go_enter Tryz.func91,Tryz.ntmps91
  go_wp2_with (at_builtin;refine Lib.wpList_append_run _ rfl _ _ _ _ rfl _ _ rfl rfl _ _ hr9 ?_;clear hr9)
  have HS : Hid (BeH w (w9.setCell ⟨w.heap.size+1,0,none⟩ (.slice a9 1 c9)) l st (k+1)):=⟨_,_,_,_,HM.out,HST.out,by simp,by simp⟩
  clear m0 f0 HB9 HM HST t2 e3
  go_loopw [6] (fun i wr=>∃ j : Nat,i=.int .i64 j∧j≤q∧Hid (BeH w wr l st j)) (fun i _=>q - (RowKit.intOf i).toNat)
  case atStart=>exact ⟨k+1,by go_num,by omega,HS⟩
  case round =>
   obtain ⟨j,rfl,hj,HB⟩:=hrel
   obtain ⟨vn,vg,n,gg,hM,his,hn1,hn2⟩:=HB.out
   obtain ⟨na,nc,rfl⟩:=hM.nx.slice
   obtain ⟨ga,gc,rfl⟩:=hM.gd.slice
   have m0:=zab hM.blk (k:=0) rfl
   have m1:=zab hM.blk (k:=1) rfl
   have m2:=zab hM.blk (k:=2) rfl
   have f0:=zac hM.blk (k:=0)
   have f1:=zac hM.blk (k:=1)
   have f2:=zac hM.blk (k:=2)
   have HM:=hid hM
   have HIS:=hid his
   have HN:=hid (And.intro hn1 hn2)
   clear hM his hn1 hn2
   by_cases hlt : j < q
   ·obtain ⟨y,hy⟩ : ∃ y,l[j]?=some y:=⟨_,List.getElem?_eq_getElem (by rw [HQ.out];exact hlt)⟩
    obtain ⟨g1,o1,a1,c1,eg,d0,d1,d2,d3,_⟩:=(H.out.low HM.out.low).itemAt hy
    injection eg with eg
    injection eg with eg1 eg2
    subst eg1 eg2
    have HY:=hid hy
    have hw : IntKind.i64.wrap ((j : Int)+1)=((j+1 : Nat) : Int):=by rw [IntWalk.i64_in _ (by omega)];omega
    clear hy
    cases hno : y.no with
    | true =>
      obtain ⟨a5,c5,w5,hr5,hM5,hB5⟩:=HM.out.guard (by have:=HN.out.2;omega) j
      have HB2 : Hid (BeH w (w5.setCell ⟨w.heap.size+1,1,none⟩ (.slice a5 (gg.length+1) c5)) l st (j+1)):=⟨_,_,_,_,hM5,by rw [← zhd HY.out hno];exact HIS.out,by have:=HN.out.1;omega,by have:=HN.out.2;simp;omega⟩
      have p1:=zab hB5 (k:=1) rfl
      have q1:=zac hB5 (k:=1)
      rw [hno] at d0
      clear hM5 hB5 hno
      go_wp2_with (at_builtin;refine Lib.wpList_append_run _ rfl _ _ _ _ rfl _ _ rfl rfl _ _ hr5 ?_;clear hr5)
      exact ⟨⟨j+1,rfl,hlt,HB2⟩,by simp [RowKit.intOf];omega⟩
    | false =>
      obtain ⟨a5,c5,w5,hr5,hM5,hB5⟩:=HM.out.next (by have:=HN.out.1;omega) j
      have p0:=zab hB5 (k:=0) rfl
      have q0:=zac hB5 (k:=0)
      obtain ⟨W5,hW5⟩ : ∃ W5,W5=w5.setCell ⟨w.heap.size+1,0,none⟩ (.slice a5 (n.length+1) c5):=⟨_,rfl⟩
      rw [← hW5] at hM5
      have HW5:=hid hW5
      have H5:=hid hM5
      obtain ⟨g1,o1,a1,c1,eg,e0,e1,e2,e3,_⟩:=(H.out.low H5.out.low).itemAt HY.out
      injection eg with eg
      injection eg with eg1 eg2
      subst eg1 eg2
      rw [hno] at d0
      rw [HW5.out] at e3
      by_cases h3 : y.mode=3
      ·have HB2 : Hid (BeH w (w5.setCell ⟨w.heap.size+1,0,none⟩ (.slice a5 (n.length+1) c5)) l st (j+1)):=⟨_,_,_,_,by rw [← HW5.out];exact H5.out,by rw [← zf6 HY.out hno h3];exact HIS.out,by have:=HN.out.1;simp;omega,by have:=HN.out.2;omega⟩
       have b3 : (y.mode == 3)=true:=beq_iff_eq.2 h3
       clear hM5 hB5 hno h3 hW5 e0 e1 e2
       go_wp2_with (at_builtin;refine Lib.wpList_append_run _ rfl _ _ _ _ rfl _ _ rfl rfl _ _ hr5 ?_;clear hr5)
       exact ⟨⟨j+1,rfl,hlt,HB2⟩,by simp [RowKit.intOf];omega⟩
      ·have b3 : (y.mode == 3)=false:=beq_eq_false_iff_ne.2 h3
       have hst:=zf7 HY.out hno h3 n gg
       rw [HIS.out] at hst
       have hr:=(H5.out.still _ List.mem_cons_self)
       obtain ⟨hr1,hr2,hr3,hr4⟩:=hr
       have x0:=zab H5.out.blk (k:=0) rfl
       have x1:=zab H5.out.blk (k:=1) rfl
       have x2:=zab H5.out.blk (k:=2) rfl
       have y0:=zab hr1 (k:=0) rfl
       have y1:=zab hr1 (k:=1) rfl
       have y2:=zab hr1 (k:=2) rfl
       have z0:=zac hr1 (k:=0)
       have z1:=zac hr1 (k:=1)
       have z2:=zac hr1 (k:=2)
       rw [HW5.out] at x0 x1 x2 y0 y1 y2 z0 z1 z2
       have HST:=hid hst
       have HR:=hid (And.intro hr3 hr4)
       clear hM5 hB5 hno h3 hW5 e0 e1 e2 hst hr1 hr2 hr3 hr4
       go_wp2_with (at_builtin;refine Lib.wpList_append_run _ rfl _ _ _ _ rfl _ _ rfl rfl _ _ hr5 ?_;clear hr5)
       (try simp only [Exit.inBlock,Exit.then])
       obtain ⟨u1,u2,u3,u4,eu1,eu2,eu3,eu4⟩:=(HW5.out ▸ H5.out).done (Nat.le_refl _) HR.out.1 HR.out.2 (((TFr.at (w:=w5.setCell ⟨w.heap.size+1,0,none⟩ (.slice a5 (n.length+1) c5)) w.heap.size 0 (.slice a5 (n.length+1) c5)).trans (TFr.at w.heap.size 1 (.slice ga gg.length gc))).trans (TFr.at w.heap.size 2 (.bool false)))
       refine bodyPost_ret (v:=.agg #[.slice a5 (n.length+1) c5,.slice ga gg.length gc,.bool false]) (by simp [results,Tryz.results91,go_sem,y0,y1,y2]) rfl ?_
       rw [HST.out]
       injection eu2 with eu5 eu6 eu7
       subst eu5 eu7
       rw [List.length_append,List.length_singleton] at eu1
       exact ⟨_,_,_,_,by rw [List.length_append,List.length_singleton],by rw [List.length_append,List.length_singleton];exact eu3,eu4⟩
   ·have hje : l.length≤j:=by rw [HQ.out];omega
    have hst:=zf5 hje n gg
    rw [HIS.out] at hst
    have h5:=HM.out.fin true
    obtain ⟨hr1,hr2,hr3,hr4⟩:=h5.still _ List.mem_cons_self
    have x0:=zab h5.blk (k:=0) rfl
    have x1:=zab h5.blk (k:=1) rfl
    have x2:=zab h5.blk (k:=2) rfl
    have y0:=zab hr1 (k:=0) rfl
    have y1:=zab hr1 (k:=1) rfl
    have y2:=zab hr1 (k:=2) rfl
    have z0:=zac hr1 (k:=0)
    have z1:=zac hr1 (k:=1)
    have z2:=zac hr1 (k:=2)
    have H5:=hid h5
    have HST:=hid hst
    have HR:=hid (And.intro hr3 hr4)
    clear hje hst h5 hr1 hr2 hr3 hr4
    go_wp2
    obtain ⟨u1,u2,u3,u4,eu1,eu2,eu3,eu4⟩:=H5.out.done (Nat.le_refl _) HR.out.1 HR.out.2 (((TFr.at (w:=wr.setCell ⟨w.heap.size+1,2,none⟩ (.bool true)) w.heap.size 0 (.slice na n.length nc)).trans (TFr.at w.heap.size 1 (.slice ga gg.length gc))).trans (TFr.at w.heap.size 2 (.bool true)))
    refine bodyPost_ret (v:=.agg #[.slice na n.length nc,.slice ga gg.length gc,.bool true]) (by simp [results,Tryz.results91,go_sem,y0,y1,y2]) rfl ?_
    rw [HST.out]
    injection eu1 with eu5 eu6 eu7
    subst eu5 eu7
    injection eu2 with eu5 eu6 eu7
    subst eu5 eu7
    exact ⟨_,_,_,_,rfl,eu3,eu4⟩
 ·have hst1 : behT (l.drop (k+1)) (k+1) [] []=st:=by
   rw [← hst]
   unfold stAt
   rw [if_neg h2]
  have HM:=hid s0
  have HST:=hid hst1
  have t2 : (x.mode == 2)=false:=beq_eq_false_iff_ne.2 h2
  clear h hk hq hb1 hb2 hp2 hp3 d0 d1 d2 d3 hst hst1 s0 h2
  go_enter Tryz.func91,Tryz.ntmps91
  go_wp2_with fail
  have HS : Hid (BeH w ((w.alloc (.cells #[.slice none 0 0,.slice none 0 0,.bool false] 101)).alloc (.cells #[.slice none 0 0,.slice none 0 0,.bool false] 101)) l st (k+1)):=⟨_,_,_,_,HM.out,HST.out,by simp,by simp⟩
  clear HM HST t2 e3
  go_loopw [6] (fun i wr=>∃ j : Nat,i=.int .i64 j∧j≤q∧Hid (BeH w wr l st j)) (fun i _=>q - (RowKit.intOf i).toNat)
  case atStart=>exact ⟨k+1,by go_num,by omega,HS⟩
  case round =>
   obtain ⟨j,rfl,hj,HB⟩:=hrel
   obtain ⟨vn,vg,n,gg,hM,his,hn1,hn2⟩:=HB.out
   obtain ⟨na,nc,rfl⟩:=hM.nx.slice
   obtain ⟨ga,gc,rfl⟩:=hM.gd.slice
   have m0:=zab hM.blk (k:=0) rfl
   have m1:=zab hM.blk (k:=1) rfl
   have m2:=zab hM.blk (k:=2) rfl
   have f0:=zac hM.blk (k:=0)
   have f1:=zac hM.blk (k:=1)
   have f2:=zac hM.blk (k:=2)
   have HM:=hid hM
   have HIS:=hid his
   have HN:=hid (And.intro hn1 hn2)
   clear hM his hn1 hn2
   by_cases hlt : j < q
   ·obtain ⟨y,hy⟩ : ∃ y,l[j]?=some y:=⟨_,List.getElem?_eq_getElem (by rw [HQ.out];exact hlt)⟩
    obtain ⟨g1,o1,a1,c1,eg,d0,d1,d2,d3,_⟩:=(H.out.low HM.out.low).itemAt hy
    injection eg with eg
    injection eg with eg1 eg2
    subst eg1 eg2
    have HY:=hid hy
    have hw : IntKind.i64.wrap ((j : Int)+1)=((j+1 : Nat) : Int):=by rw [IntWalk.i64_in _ (by omega)];omega
    clear hy
    cases hno : y.no with
    | true =>
      obtain ⟨a5,c5,w5,hr5,hM5,hB5⟩:=HM.out.guard (by have:=HN.out.2;omega) j
      have HB2 : Hid (BeH w (w5.setCell ⟨w.heap.size+1,1,none⟩ (.slice a5 (gg.length+1) c5)) l st (j+1)):=⟨_,_,_,_,hM5,by rw [← zhd HY.out hno];exact HIS.out,by have:=HN.out.1;omega,by have:=HN.out.2;simp;omega⟩
      have p1:=zab hB5 (k:=1) rfl
      have q1:=zac hB5 (k:=1)
      rw [hno] at d0
      clear hM5 hB5 hno
      go_wp2_with (at_builtin;refine Lib.wpList_append_run _ rfl _ _ _ _ rfl _ _ rfl rfl _ _ hr5 ?_;clear hr5)
      exact ⟨⟨j+1,rfl,hlt,HB2⟩,by simp [RowKit.intOf];omega⟩
    | false =>
      obtain ⟨a5,c5,w5,hr5,hM5,hB5⟩:=HM.out.next (by have:=HN.out.1;omega) j
      have p0:=zab hB5 (k:=0) rfl
      have q0:=zac hB5 (k:=0)
      obtain ⟨W5,hW5⟩ : ∃ W5,W5=w5.setCell ⟨w.heap.size+1,0,none⟩ (.slice a5 (n.length+1) c5):=⟨_,rfl⟩
      rw [← hW5] at hM5
      have HW5:=hid hW5
      have H5:=hid hM5
      obtain ⟨g1,o1,a1,c1,eg,e0,e1,e2,e3,_⟩:=(H.out.low H5.out.low).itemAt HY.out
      injection eg with eg
      injection eg with eg1 eg2
      subst eg1 eg2
      rw [hno] at d0
      rw [HW5.out] at e3
      by_cases h3 : y.mode=3
      ·have HB2 : Hid (BeH w (w5.setCell ⟨w.heap.size+1,0,none⟩ (.slice a5 (n.length+1) c5)) l st (j+1)):=⟨_,_,_,_,by rw [← HW5.out];exact H5.out,by rw [← zf6 HY.out hno h3];exact HIS.out,by have:=HN.out.1;simp;omega,by have:=HN.out.2;omega⟩
       have b3 : (y.mode == 3)=true:=beq_iff_eq.2 h3
       clear hM5 hB5 hno h3 hW5 e0 e1 e2
       go_wp2_with (at_builtin;refine Lib.wpList_append_run _ rfl _ _ _ _ rfl _ _ rfl rfl _ _ hr5 ?_;clear hr5)
       exact ⟨⟨j+1,rfl,hlt,HB2⟩,by simp [RowKit.intOf];omega⟩
      ·have b3 : (y.mode == 3)=false:=beq_eq_false_iff_ne.2 h3
       have hst:=zf7 HY.out hno h3 n gg
       rw [HIS.out] at hst
       have hr:=(H5.out.still _ List.mem_cons_self)
       obtain ⟨hr1,hr2,hr3,hr4⟩:=hr
       have x0:=zab H5.out.blk (k:=0) rfl
       have x1:=zab H5.out.blk (k:=1) rfl
       have x2:=zab H5.out.blk (k:=2) rfl
       have y0:=zab hr1 (k:=0) rfl
       have y1:=zab hr1 (k:=1) rfl
       have y2:=zab hr1 (k:=2) rfl
       have z0:=zac hr1 (k:=0)
       have z1:=zac hr1 (k:=1)
       have z2:=zac hr1 (k:=2)
       rw [HW5.out] at x0 x1 x2 y0 y1 y2 z0 z1 z2
       have HST:=hid hst
       have HR:=hid (And.intro hr3 hr4)
       clear hM5 hB5 hno h3 hW5 e0 e1 e2 hst hr1 hr2 hr3 hr4
       go_wp2_with (at_builtin;refine Lib.wpList_append_run _ rfl _ _ _ _ rfl _ _ rfl rfl _ _ hr5 ?_;clear hr5)
       (try simp only [Exit.inBlock,Exit.then])
       obtain ⟨u1,u2,u3,u4,eu1,eu2,eu3,eu4⟩:=(HW5.out ▸ H5.out).done (Nat.le_refl _) HR.out.1 HR.out.2 (((TFr.at (w:=w5.setCell ⟨w.heap.size+1,0,none⟩ (.slice a5 (n.length+1) c5)) w.heap.size 0 (.slice a5 (n.length+1) c5)).trans (TFr.at w.heap.size 1 (.slice ga gg.length gc))).trans (TFr.at w.heap.size 2 (.bool false)))
       refine bodyPost_ret (v:=.agg #[.slice a5 (n.length+1) c5,.slice ga gg.length gc,.bool false]) (by simp [results,Tryz.results91,go_sem,y0,y1,y2]) rfl ?_
       rw [HST.out]
       injection eu2 with eu5 eu6 eu7
       subst eu5 eu7
       rw [List.length_append,List.length_singleton] at eu1
       exact ⟨_,_,_,_,by rw [List.length_append,List.length_singleton],by rw [List.length_append,List.length_singleton];exact eu3,eu4⟩
   ·have hje : l.length≤j:=by rw [HQ.out];omega
    have hst:=zf5 hje n gg
    rw [HIS.out] at hst
    have h5:=HM.out.fin true
    obtain ⟨hr1,hr2,hr3,hr4⟩:=h5.still _ List.mem_cons_self
    have x0:=zab h5.blk (k:=0) rfl
    have x1:=zab h5.blk (k:=1) rfl
    have x2:=zab h5.blk (k:=2) rfl
    have y0:=zab hr1 (k:=0) rfl
    have y1:=zab hr1 (k:=1) rfl
    have y2:=zab hr1 (k:=2) rfl
    have z0:=zac hr1 (k:=0)
    have z1:=zac hr1 (k:=1)
    have z2:=zac hr1 (k:=2)
    have H5:=hid h5
    have HST:=hid hst
    have HR:=hid (And.intro hr3 hr4)
    clear hje hst h5 hr1 hr2 hr3 hr4
    go_wp2
    obtain ⟨u1,u2,u3,u4,eu1,eu2,eu3,eu4⟩:=H5.out.done (Nat.le_refl _) HR.out.1 HR.out.2 (((TFr.at (w:=wr.setCell ⟨w.heap.size+1,2,none⟩ (.bool true)) w.heap.size 0 (.slice na n.length nc)).trans (TFr.at w.heap.size 1 (.slice ga gg.length gc))).trans (TFr.at w.heap.size 2 (.bool true)))
    refine bodyPost_ret (v:=.agg #[.slice na n.length nc,.slice ga gg.length gc,.bool true]) (by simp [results,Tryz.results91,go_sem,y0,y1,y2]) rfl ?_
    rw [HST.out]
    injection eu1 with eu5 eu6 eu7
    subst eu5 eu7
    injection eu2 with eu5 eu6 eu7
    subst eu5 eu7
    exact ⟨_,_,_,_,rfl,eu3,eu4⟩
theorem zjm {K : Nat→Prop} {W : World} {g n : Nat} (h : Blk W g #[.int .i64 (n : Int)] 3) (hg : ¬ K g) : RowK numD K W (.slice (some ⟨g,0,none⟩) 1 1) [n]:=by
 refine ⟨some ⟨g,0,none⟩,1,rfl,Nat.le_refl _,fun j x hj=>?_⟩
 match j,hj with
 | 0,hj =>
   obtain rfl : n=x:=by simpa using hj
   refine ⟨g,0,[.int .i64 (n : Int)],rfl,hg,rfl,fun r u hu=>?_⟩
   match r,hu with
   | 0,hu =>
     obtain rfl : Value.int .i64 (n : Int)=u:=by simpa using hu
     exact zab h rfl
   | r+1,hu=>simp at hu
 | j+1,hj=>simp at hj
section
variable {K : Nat→Prop} {w : World} {a b : Option Addr} {q c r d : Nat} {wi pk : Int} {bs : ByteArray}
end
def CoTo (p : PQu) (w : World) (e : Ending) (w' : World) : Prop:=∃ v,e=.returned v∧RowK stateD (· < w.heap.size) w' v (if rightQ p then stsN p.its else [])∧Below w.heap.size w w'
theorem CoTo.no {p : PQu} {w w' : World} (h : rightQ p=false) (hb : Below w.heap.size w w') : CoTo p w (.returned (.slice none 0 0)) w':=⟨_,rfl,by rw [h];exact RowK.nil _ _ _,hb⟩
theorem OwnP.state {wb wr w1 : World} {va : Option Addr} {n vc : Nat} {L : List PSt} (h : OwnP stateD wr wb.heap.size 101 (.slice va n vc) L) (hB : Below wb.heap.size wb wr) (hl : L.length≤1000) {s : PSt} {cs : List Value} (hs : stateD.P (· < wr.heap.size) w1 cs s) (hb : Below wr.heap.size wr w1) :
 ∃ a9 c9 w9,(Builtin.append_ #[96,96] 96 #[.slice va n vc,.slice (some ⟨w1.heap.size,0,none⟩) 1 1]).run Tryz.prog (w1.alloc (.cells cs.toArray 101))=.ok (.slice a9 (L.length+1) c9) w9∧OwnP stateD w9 wb.heap.size 101 (.slice a9 (L.length+1) c9) (L++[s])∧Below wb.heap.size wb w9:=by
 have hsz:=hB.size
 have hsz2:=hb.size
 have hb5:=(Below.refl w1.heap.size w1).alloc (Nat.le_refl _) (.cells cs.toArray 101)
 have o5:=(h.keep (TFr.of_below (K:=fun _=>False) hb) (fun _ h=>h.elim)).keep (TFr.of_below (K:=fun _=>False) hb5) (fun _ h=>h.elim)
 have hx : stateD.P (fun g=>g < wb.heap.size∨(Value.slice va n vc).ownBlock=some g) (w1.alloc (.cells cs.toArray 101)) cs s:=stateD.keep (TFr.of_below hb5) (stateD.mono (fun g hg=>by
  rcases hg with hg|hg
  ·exact Nat.lt_of_lt_of_le hg hsz
  ·exact (h.own g hg).2) hs)
 obtain ⟨v9,w9,hr,ho,hg⟩:=OwnP.append (ts:=96) (ty:=96) (by kernel_rfl) zj1 rfl (by decide) (by decide) o5 (by have:=hb5.size;omega) hl hx (heap_alloc_new w1 _)
 obtain ⟨a9,c9,rfl⟩:=ho.slice
 rw [List.length_append,List.length_singleton] at hr ho
 refine ⟨a9,c9,w9,hr,ho,?_⟩
 have hall : Below wb.heap.size wb (w1.alloc (.cells cs.toArray 101)):=(hB.trans (hb.mono hsz)).trans (hb5.mono (by omega))
 exact hall.grown hg hall.size (fun k hk=>(o5.own k hk).1)
theorem zhc {l : List PIt} {j : Nat} {x : PIt} (h : l[j]?=some x) : (stsN l).take (j+2)=(stsN l).take (j+1)++[stAt l j x]:=by
 rw [List.take_add_one (i:=j+1),zjl h]
 rfl
section
variable {K : Nat→Prop} {w : World} {a b : Option Addr} {q c r d : Nat} {p : PQu}
theorem zaC (h : QuAt K w a q c b r d p) (hb : QuB p) : Calls Tryz.prog 57 #[.agg #[.slice a q c,.slice b r d,.int .i64 p.within,.string (strB p.by_),.int .i64 p.pick]] w (CoTo p w):=by
 obtain rfl:=h.1.len
 have hb0:=(Below.refl w.heap.size w).alloc (Nat.le_refl _) (.cells #[.slice a p.its.length c,.slice b r d,.int .i64 p.within,.string (strB p.by_),.int .i64 p.pick] 26)
 have hx:=Blk.new w #[.slice a p.its.length c,.slice b r d,.int .i64 p.within,.string (strB p.by_),.int .i64 p.pick] 26
 have hR:=zfo (w:=w.alloc (.cells #[.slice a p.its.length c,.slice b r d,.int .i64 p.within,.string (strB p.by_),.int .i64 p.pick] 26)) (p:=p) (K:=K) ⟨h.1.low hb0,h.2.low hb0⟩ hb
 obtain ⟨z,hz⟩ : ∃ z,rightQ p=z:=⟨_,rfl⟩
 rw [hz] at hR
 have HR:=hid hR
 have HZ:=hid hz
 have HI:=hid h.1
 have HB0:=hid hb0
 have HX:=hid hx
 obtain ⟨l,hl⟩ : ∃ l,p.its=l:=⟨_,rfl⟩
 have HL:=hid hl
 rw [hl] at HR HI HX HB0 ⊢
 obtain ⟨q,hq⟩ : ∃ q,l.length=q:=⟨_,rfl⟩
 have HQ:=hid hq
 rw [hq] at HR HX HB0 ⊢
 clear h hb hb0 hx hR hz hl hq
 cases z with
 | false =>
   obtain ⟨m0,m1,m2,m3,m4⟩:=c5w HX.out
   go_enter Tryz.func57,Tryz.ntmps57
   go_wp2_with fail
   with_reducible refine HR.out.mono ?_
   rintro e w1 ⟨rfl,hb1⟩
   have HB1:=hid (HB0.out.trans (hb1.mono HB0.out.size))
   clear hb1
   go_wp2
   go_ret
   exact CoTo.no HZ.out HB1.out
 | true =>
   obtain ⟨x0,rr,hi0,hno0,hm0,hlen6⟩:=zaw HZ.out
   rw [HL.out,HQ.out] at hlen6
   obtain ⟨m0,m1,m2,m3,m4⟩:=c5w HX.out
   clear hi0
   go_enter Tryz.func57,Tryz.ntmps57
   go_wp2_with fail
   with_reducible refine HR.out.mono ?_
   rintro e w1 ⟨rfl,hb1⟩
   have HX1:=hid (HX.out.low hb1)
   have n0:=zab HX1.out (k:=0) rfl
   have HB1:=hid hb1
   have hc1:=(Below.refl w1.heap.size w1).alloc (Nat.le_refl _) (.cells #[.int .i64 0] 3)
   have hc2:=hc1.alloc hc1.size (.cells #[.slice (some ⟨w1.heap.size,0,none⟩) 1 1,.slice none 0 0,.bool false] 101)
   have hin:=(Blk.new w1 #[.int .i64 ((0 : Nat) : Int)] 3).low ((Below.refl _ _).alloc (Nat.le_refl _) (.cells #[.slice (some ⟨w1.heap.size,0,none⟩) 1 1,.slice none 0 0,.bool false] 101))
   have hst:=Blk.new (w1.alloc (.cells #[.int .i64 0] 3)) #[.slice (some ⟨w1.heap.size,0,none⟩) 1 1,.slice none 0 0,.bool false] 101
   rw [show (w1.alloc (.cells #[.int .i64 0] 3)).heap.size=w1.heap.size+1 by simp] at hst
   have HC2:=hid hc2
   have HO : Hid (OwnP stateD ((w1.alloc (.cells #[.int .i64 0] 3)).alloc (.cells #[.slice (some ⟨w1.heap.size,0,none⟩) 1 1,.slice none 0 0,.bool false] 101)) (w.alloc (.cells #[.slice a q c,.slice b r d,.int .i64 p.within,.string (strB p.by_),.int .i64 p.pick] 26)).heap.size 101 (.slice (some ⟨w1.heap.size+1,0,none⟩) 1 1) ((stsN l).take 1)):=by
    have hs1:=hb1.size
    refine OwnP.first (x:=st0) (b:=w1.heap.size+1) (cs:=[.slice (some ⟨w1.heap.size,0,none⟩) 1 1,.slice none 0 0,.bool false]) (by omega) hst ⟨_,_,_,_,rfl,?_,RowK.nil _ _ _⟩
    exact zjm hin (by show ¬ (_ < _∨_=_);omega)
   have HX2:=hid (HX1.out.low hc2)
   have n0:=zab HX2.out (k:=0) rfl
   have HB2:=hid (hb1.trans (hc2.mono hb1.size))
   clear hb1 m0 m1 m2 m3 m4 hc1 hc2 hin hst HB1 HC2 HX1
   go_wp2
   clear n0
   go_loopw [3,14] (fun v k wr=>∃ j : Nat,k=.int .i64 j∧j≤q∧Hid (OwnP stateD wr (w.alloc (.cells #[.slice a q c,.slice b r d,.int .i64 p.within,.string (strB p.by_),.int .i64 p.pick] 26)).heap.size 101 v ((stsN l).take (j+1)))∧Hid (Below (w.alloc (.cells #[.slice a q c,.slice b r d,.int .i64 p.within,.string (strB p.by_),.int .i64 p.pick] 26)).heap.size (w.alloc (.cells #[.slice a q c,.slice b r d,.int .i64 p.within,.string (strB p.by_),.int .i64 p.pick] 26)) wr)) (fun _ k _=>q - (RowKit.intOf k).toNat)
   case atStart=>exact ⟨0,rfl,Nat.zero_le _,HO,HB2⟩
   case round =>
    obtain ⟨j,rfl,hj,HO,HB⟩:=hrel
    have hxr:=HX.out.low HB.out
    have n0:=zab hxr (k:=0) rfl
    clear hxr
    obtain ⟨va,vc,rfl⟩:=HO.out.slice
    by_cases hlt : j < q
    ·obtain ⟨y,hy⟩ : ∃ y,l[j]?=some y:=⟨_,List.getElem?_eq_getElem (by rw [HQ.out];exact hlt)⟩
     have hbh:=zdH (w:=wr) (a:=a) (c:=c) (K:=K) (l:=l) ((HI.out.low HB0.out).low HB.out) (by rw [HQ.out];exact hlen6) hy
     rw [HQ.out] at hbh
     have HBH:=hid hbh
     obtain ⟨m,hm⟩ : ∃ m,((stsN l).take (j+1)).length=m:=⟨_,rfl⟩
     have hm2 : m≤7:=by rw [← hm,List.length_take,zbd,HQ.out];omega
     have HAP : Hid (∀ w1 cs,stateD.P (· < wr.heap.size) w1 cs (stAt l j y)→Below wr.heap.size wr w1→∃ a9 c9 w9,(Builtin.append_ #[96,96] 96 #[.slice va m vc,.slice (some ⟨w1.heap.size,0,none⟩) 1 1]).run Tryz.prog (w1.alloc (.cells cs.toArray 101))=.ok (.slice a9 (m+1) c9) w9∧Hid (OwnP stateD w9 (w.alloc (.cells #[.slice a q c,.slice b r d,.int .i64 p.within,.string (strB p.by_),.int .i64 p.pick] 26)).heap.size 101 (.slice a9 (m+1) c9) ((stsN l).take (j+1+1)))∧Hid (Below (w.alloc (.cells #[.slice a q c,.slice b r d,.int .i64 p.within,.string (strB p.by_),.int .i64 p.pick] 26)).heap.size (w.alloc (.cells #[.slice a q c,.slice b r d,.int .i64 p.within,.string (strB p.by_),.int .i64 p.pick] 26)) w9)):=fun w1 cs hs hb=>by
      have h:=HO.out.state HB.out (by rw [hm];omega) hs hb
      rw [hm,← zhc hy] at h
      exact h
     rw [hm] at HO ⊢
     clear hbh hm hy
     go_wp2_with (first
      | (go_at_call 91;(with_reducible refine HBH.out.mono ?_);rintro e w5 ⟨a5,c5,b5,d5,rfl,hs5,hb5⟩;obtain ⟨a9,c9,w9,hr9,O9,B9⟩:=HAP.out w5 _ hs5 hb5;clear hs5 hb5)
      | (at_builtin;refine Lib.wpList_append_run _ rfl _ _ _ _ rfl _ _ rfl rfl _ _ hr9 ?_;clear hr9))
     exact ⟨⟨j+1,by go_num,by omega,O9,B9⟩,by simp [RowKit.intOf];omega⟩
    ·have hjq : j=q:=by omega
     subst hjq
     have hall : (stsN l).take (j+1)=stsN l:=by rw [← HQ.out,← zbd,List.take_length]
     have ho:=HO.out
     rw [hall] at ho
     have HRW:=hid ho.row
     clear ho
     go_wp2
     go_ret
     refine ⟨_,rfl,?_,HB0.out.trans (HB.out.mono HB0.out.size)⟩
     rw [HZ.out,if_pos rfl,HL.out]
     show RowK stateD _ _ (.slice va ((stsN l).take (j+1)).length vc) _
     rw [hall]
     exact HRW.out.mono (fun g hg=>Nat.lt_of_lt_of_le hg HB0.out.size)
end
theorem RowK.numAt {K : Nat→Prop} {w : World} {a : Option Addr} {n c : Nat} {l : List Nat} (h : RowK numD K w (.slice a n c) l) {j x : Nat} (hj : l[j]?=some x) : ∃ g o,a=some ⟨g,o,none⟩∧w.cell? ⟨g,o+j,none⟩=some (.int .i64 (x : Int)):=by
 obtain ⟨a',c',e,_,h⟩:=h
 injection e with e1 e2 e3
 obtain ⟨g,o,cs,ea,hg,hp,hc⟩:=h j x hj
 have hp' : cs=[.int .i64 (x : Int)]:=hp
 subst hp'
 have:=hc 0 _ rfl
 exact ⟨g,o,e1.trans ea,by simpa [numD] using this⟩
theorem RowK.stateAt {K : Nat→Prop} {w : World} {a : Option Addr} {n c : Nat} {l : List PSt} (h : RowK stateD K w (.slice a n c) l) {j : Nat} {s : PSt} (hj : l[j]?=some s) : ∃ g o a1 c1 a2 c2,a=some ⟨g,o,none⟩∧w.cell? ⟨g,o+j*3,none⟩=some (.slice a1 s.nx.length c1)∧w.cell? ⟨g,o+j*3+1,none⟩=some (.slice a2 s.gd.length c2)∧w.cell? ⟨g,o+j*3+2,none⟩=some (.bool s.fin)∧RowK numD K w (.slice a1 s.nx.length c1) s.nx∧RowK numD K w (.slice a2 s.gd.length c2) s.gd:=by
 obtain ⟨a',c',e,_,h⟩:=h
 injection e with e1 e2 e3
 obtain ⟨g,o,cs,ea,hg,⟨a1,c1,a2,c2,hcs,hr1,hr2⟩,hc⟩:=h j s hj
 subst hcs
 exact ⟨g,o,a1,c1,a2,c2,e1.trans ea,hc 0 _ rfl,hc 1 _ rfl,hc 2 _ rfl,hr1,hr2⟩
section
variable {K : Nat→Prop} {w : World} {a b : Option Addr} {c d : Nat} {l : List PIt}
end
section
variable {K : Nat→Prop} {w : World} {a : Option Addr} {n c : Nat}
theorem RowK.evsAt {b : List (List PEv)} (h : RowK evsD K w (.slice a n c) b) {j : Nat} {l : List PEv} (hj : b[j]?=some l) : ∃ g o a2 c2,a=some ⟨g,o,none⟩∧w.cell? ⟨g,o+j,none⟩=some (.slice a2 l.length c2)∧RowK evD K w (.slice a2 l.length c2) l:=by
 obtain ⟨a',c',e,_,h⟩:=h
 injection e with e1 e2 e3
 obtain ⟨g,o,cs,ea,hg,⟨a2,c2,hcs,hr⟩,hc⟩:=h j l hj
 subst hcs
 have:=hc 0 _ rfl
 exact ⟨g,o,a2,c2,e1.trans ea,by simpa [evsD] using this,hr⟩
theorem RowK.evAt {l : List PEv} (h : RowK evD K w (.slice a n c) l) {j : Nat} {x : PEv} (hj : l[j]?=some x) : ∃ g o a2 c2,a=some ⟨g,o,none⟩∧w.cell? ⟨g,o+j*5,none⟩=some (.int .i64 x.ts)∧w.cell? ⟨g,o+j*5+1,none⟩=some (.int .i64 x.dep)∧w.cell? ⟨g,o+j*5+2,none⟩=some (.int .i64 x.seq)∧w.cell? ⟨g,o+j*5+3,none⟩=some (.string (strB x.name))∧w.cell? ⟨g,o+j*5+4,none⟩=some (.slice a2 x.vals.length c2)∧RowK valD K w (.slice a2 x.vals.length c2) x.vals∧x.name.length≤maxLen:=by
 obtain ⟨a',c',e,_,h⟩:=h
 injection e with e1 e2 e3
 obtain ⟨g,o,cs,ea,hg,⟨a2,c2,hcs,hr,hn⟩,hc⟩:=h j x hj
 subst hcs
 exact ⟨g,o,a2,c2,e1.trans ea,hc 0 _ rfl,hc 1 _ rfl,hc 2 _ rfl,hc 3 _ rfl,hc 4 _ rfl,hr,hn⟩
theorem RowK.runAt {l : List PRun} (h : RowK runD K w (.slice a n c) l) {j : Nat} {x : PRun} (hj : l[j]?=some x) : ∃ g o a2 c2,a=some ⟨g,o,none⟩∧w.cell? ⟨g,o+j*2,none⟩=some (.int .i64 x.place)∧w.cell? ⟨g,o+j*2+1,none⟩=some (.slice a2 x.bound.length c2)∧RowK evsD K w (.slice a2 x.bound.length c2) x.bound:=by
 obtain ⟨a',c',e,_,h⟩:=h
 injection e with e1 e2 e3
 obtain ⟨g,o,cs,ea,hg,⟨a2,c2,hcs,hr⟩,hc⟩:=h j x hj
 subst hcs
 exact ⟨g,o,a2,c2,e1.trans ea,hc 0 _ rfl,hc 1 _ rfl,hr⟩
theorem RowK.mtAt {l : List PMt} (h : RowK mtD K w (.slice a n c) l) {j : Nat} {x : PMt} (hj : l[j]?=some x) : ∃ g o a2 c2,a=some ⟨g,o,none⟩∧w.cell? ⟨g,o+j*2,none⟩=some (.int .i64 x.done)∧w.cell? ⟨g,o+j*2+1,none⟩=some (.slice a2 x.bound.length c2)∧RowK evsD K w (.slice a2 x.bound.length c2) x.bound:=by
 obtain ⟨a',c',e,_,h⟩:=h
 injection e with e1 e2 e3
 obtain ⟨g,o,cs,ea,hg,⟨a2,c2,hcs,hr⟩,hc⟩:=h j x hj
 subst hcs
 exact ⟨g,o,a2,c2,e1.trans ea,hc 0 _ rfl,hc 1 _ rfl,hr⟩
end
theorem zg3 {b : List (List PEv)} {l : List PEv} {e : PEv} (hl : b[0]?=some l) (he : l[0]?=some e) : firstR b=e.ts:=by
 cases b with
 | nil=>simp at hl
 | cons l' b =>
   obtain rfl : l'=l:=by simpa using hl
   cases l' with
   | nil=>simp at he
   | cons e' l' =>
     obtain rfl : e'=e:=by simpa using he
     rfl
theorem zfb {b : List (List PEv)} (h : ∀ l,b[0]?=some l→l=[]) : firstR b=0:=by
 cases b with
 | nil=>rfl
 | cons l b =>
   rw [h l rfl]
   rfl
theorem zgl {b : List (List PEv)} {l : List PEv} (hl : b[0]?=some l) : headNe b=!l.isEmpty:=by
 cases b with
 | nil=>simp at hl
 | cons l' b =>
   obtain rfl : l'=l:=by simpa using hl
   cases l' <;> rfl
section
variable {K : Nat→Prop} {w : World} {a : Option Addr} {c : Nat} {b : List (List PEv)}
theorem za2 (h : RowK evsD K w (.slice a b.length c) b) (k : Int) : Calls Tryz.prog 31 #[.agg #[.int .i64 k,.slice a b.length c]] w fun e w'=>e=.returned (.int .i64 (firstR b))∧Below w.heap.size w w':=by
 have hb0:=(Below.refl w.heap.size w).alloc (Nat.le_refl _) (.cells #[.int .i64 k,.slice a b.length c] 59)
 cases hb : b[0]? with
 | none =>
   have hbn : b=[]:=by cases b with
    | nil=>rfl
    | cons x l=>simp at hb
   subst hbn
   have HB:=hid hb0
   clear h hb hb0
   go_enter Tryz.func31,Tryz.ntmps31
   go_wp2
   go_ret
   exact ⟨rfl,HB.out⟩
 | some l =>
   obtain ⟨g,o,a2,c2,rfl,x0,hr⟩:=(h.low hb0).evsAt hb
   obtain ⟨n,hn⟩ : ∃ n,b.length=n:=⟨_,rfl⟩
   have hn0 : 0 < n:=by rw [← hn];exact (List.getElem?_eq_some_iff.1 hb).1
   have t0 : ((n : Int) == 0)=false:=beq_eq_false_iff_ne.2 (by omega)
   rw [Nat.add_zero] at x0
   have HB:=hid hb0
   cases he : l[0]? with
   | none =>
     have hln : l=[]:=by cases l with
      | nil=>rfl
      | cons x l=>simp at he
     obtain ⟨m,hm⟩ : ∃ m,l.length=m:=⟨_,rfl⟩
     have t1 : ((m : Int) == 0)=true:=by rw [← hm,hln];rfl
     obtain ⟨z,hz⟩ : ∃ z,firstR b=z:=⟨_,rfl⟩
     have HZ : Hid (z=0):=by rw [← hz];exact zfb (fun l2 hl=>by rw [hb] at hl;injection hl with hl;rw [← hl];exact hln)
     rw [hz]
     rw [hn] at HB x0 ⊢
     rw [hm] at x0
     clear h hb hb0 hr he hn hz hln hm
     go_enter Tryz.func31,Tryz.ntmps31
     go_wp2
     go_ret
     exact ⟨by rw [HZ.out];rfl,HB.out⟩
   | some e =>
     obtain ⟨g2,o2,a3,c3,rfl,y0,_,_,_,_,_,_⟩:=hr.evAt he
     obtain ⟨m,hm⟩ : ∃ m,l.length=m:=⟨_,rfl⟩
     have hm0 : 0 < m:=by rw [← hm];exact (List.getElem?_eq_some_iff.1 he).1
     have t1 : ((m : Int) == 0)=false:=beq_eq_false_iff_ne.2 (by omega)
     obtain ⟨z,hz⟩ : ∃ z,firstR b=z:=⟨_,rfl⟩
     have hz2 : e.ts=z:=by rw [← hz];exact (zg3 hb he).symm
     rw [Nat.zero_mul,Nat.add_zero] at y0
     rw [hz]
     rw [hz2] at y0
     rw [hn] at HB x0 y0 ⊢
     rw [hm] at x0
     clear h hb hb0 hr he hn hm hz hz2
     go_enter Tryz.func31,Tryz.ntmps31
     go_wp2
     go_ret
     exact ⟨rfl,HB.out⟩
end
theorem za3 {w : World} {a b : Option Addr} {c d : Nat} (s : PSt) : Calls Tryz.prog 84 #[.agg #[.slice a s.nx.length c,.slice b s.gd.length d,.bool s.fin]] w fun e w'=>e=.returned (.bool (waitsS s))∧Below w.heap.size w w':=by
 have hb0:=(Below.refl w.heap.size w).alloc (Nat.le_refl _) (.cells #[.slice a s.nx.length c,.slice b s.gd.length d,.bool s.fin] 101)
 have HB:=hid hb0
 obtain ⟨z,hz⟩ : ∃ z,waitsS s=z:=⟨_,rfl⟩
 have hz2 : (s.fin && decide (0 < s.gd.length))=z:=by
  rw [← hz]
  unfold waitsS
  cases s.gd <;> simp
 rw [hz]
 obtain ⟨nx,gd,f⟩:=s
 dsimp only at HB hz2 ⊢
 obtain ⟨n,hn⟩ : ∃ n,nx.length=n:=⟨_,rfl⟩
 obtain ⟨m,hm⟩ : ∃ m,gd.length=m:=⟨_,rfl⟩
 rw [hn,hm] at HB ⊢
 rw [hm] at hz2
 clear hz hn hm hb0
 cases f with
 | false =>
   obtain rfl : z=false:=by simpa using hz2.symm
   go_enter Tryz.func84,Tryz.ntmps84
   go_wp2
   go_ret
   exact ⟨rfl,HB.out⟩
 | true =>
   have t0 : decide (0 < m)=z:=by simpa using hz2
   have t1 : decide ((0 : Int) < (m : Int))=z:=by rw [← t0];exact decide_eq_decide.2 (by omega)
   clear hz2
   go_enter Tryz.func84,Tryz.ntmps84
   go_wp2
   go_ret
   exact ⟨rfl,HB.out⟩
section
variable {K : Nat→Prop} {w : World} {a qa qb : Option Addr} {c qc r d n q : Nat} {b : List (List PEv)} {its : List PIt}
theorem zbI (hq : RowK itemD K w (.slice qa its.length qc) its) (h : RowK evsD K w (.slice a b.length c) b) (wi pk k : Int) (bs : ByteArray) : Calls Tryz.prog 83 #[.agg #[.slice qa its.length qc,.slice qb r d,.int .i64 wi,.string bs,.int .i64 pk],.agg #[.int .i64 k,.slice a b.length c]] w fun e w'=>e=.returned (.bool (rightR its ⟨k,b⟩))∧Below w.heap.size w w':=by
 have hb0:=(Below.refl w.heap.size w).alloc (Nat.le_refl _) (.cells #[.slice qa its.length qc,.slice qb r d,.int .i64 wi,.string bs,.int .i64 pk] 26)
 have hb1:=hb0.alloc hb0.size (.cells #[.int .i64 k,.slice a b.length c] 59)
 have HF : Hid (∀ W,Below w.heap.size w W→Calls Tryz.prog 31 #[.agg #[.int .i64 k,.slice a b.length c]] W fun e w'=>e=.returned (.int .i64 (firstR b))∧Below W.heap.size W w'):=fun W hW=>za2 (h.low hW) k
 obtain ⟨z,hz⟩ : ∃ z,rightR its ⟨k,b⟩=z:=⟨_,rfl⟩
 rw [hz]
 unfold rightR at hz
 dsimp only at hz
 obtain ⟨n,hn⟩ : ∃ n,its.length=n:=⟨_,rfl⟩
 obtain ⟨m,hm⟩ : ∃ m,b.length=m:=⟨_,rfl⟩
 have HB:=hid hb1
 have HX:=hid ((Blk.new w #[.slice qa its.length qc,.slice qb r d,.int .i64 wi,.string bs,.int .i64 pk] 26).low ((Below.refl _ _).alloc (Nat.le_refl _) (.cells #[.int .i64 k,.slice a b.length c] 59)))
 have HY:=hid (Blk.new (w.alloc (.cells #[.slice qa its.length qc,.slice qb r d,.int .i64 wi,.string bs,.int .i64 pk] 26)) #[.int .i64 k,.slice a b.length c] 59)
 rw [show (w.alloc (.cells #[.slice qa its.length qc,.slice qb r d,.int .i64 wi,.string bs,.int .i64 pk] 26)).heap.size=w.heap.size+1 by simp] at HY
 by_cases h0 : k < 0
 ·obtain rfl : z=false:=by rw [← hz,decide_eq_false (by omega)];rfl
  have t0 : decide (k < 0)=true:=decide_eq_true h0
  rw [hn,hm] at HB HX HY ⊢
  clear hq h hb0 hb1 hz hn hm h0 HF
  go_enter Tryz.func83,Tryz.ntmps83
  go_wp2
  go_ret
  exact ⟨rfl,HB.out⟩
 rw [decide_eq_true (show 0≤k by omega),Bool.true_and] at hz
 have t0 : decide (k < 0)=false:=decide_eq_false h0
 by_cases h1 : (n : Int)≤k
 ·obtain rfl : z=false:=by rw [← hz,decide_eq_false (by omega)];rfl
  have t1 : decide ((n : Int)≤k)=true:=decide_eq_true h1
  rw [hn,hm] at HB HX HY ⊢
  clear hq h hb0 hb1 hz hn hm h0 h1 HF
  go_enter Tryz.func83,Tryz.ntmps83
  go_wp2
  go_ret
  exact ⟨rfl,HB.out⟩
 rw [decide_eq_true (show k < its.length by omega),Bool.true_and] at hz
 have t1 : decide ((n : Int)≤k)=false:=decide_eq_false h1
 obtain ⟨i,rfl⟩ : ∃ i : Nat,k=i:=⟨k.toNat,by omega⟩
 obtain ⟨y,hy⟩ : ∃ y,its[i]?=some y:=⟨_,List.getElem?_eq_getElem (by omega)⟩
 obtain ⟨g,o,a1,c1,rfl,d0,d1,d2,d3,_⟩:=(hq.low hb1).itemAt hy
 have hno : noAt its i=y.no:=by unfold noAt;rw [hy];rfl
 rw [Int.toNat_natCast,hno] at hz
 have hk0 : (0 : Int)≤(i : Int):=by omega
 have hk1 : (i : Int) < (n : Int):=by omega
 cases hyn : y.no with
 | true =>
   obtain rfl : z=false:=by rw [← hz,hyn];rfl
   rw [hyn] at d0
   rw [hn,hm] at HB HX HY d0 ⊢
   clear hq h hb0 hb1 hz hn hm h0 h1 HF hy hno hyn d1 d2 d3
   go_enter Tryz.func83,Tryz.ntmps83
   go_wp2
   go_ret
   exact ⟨rfl,HB.out⟩
 | false =>
 rw [hyn] at d0 hz
 rw [Bool.not_false,Bool.true_and] at hz
 by_cases h2 : m=n
 ·rw [decide_eq_true (show b.length=its.length by omega),Bool.true_and] at hz
  have t2 : ((m : Int) != (n : Int))=false:=by simp [h2]
  obtain ⟨l,hl⟩ : ∃ l,b[0]?=some l:=⟨_,List.getElem?_eq_getElem (by omega)⟩
  obtain ⟨g2,o2,a2,c2,rfl,x0,_⟩:=(h.low hb1).evsAt hl
  rw [zgl hl] at hz
  rw [Nat.add_zero] at x0
  have hm0 : 0 < m:=by omega
  obtain ⟨m2,hm2⟩ : ∃ m2,l.length=m2:=⟨_,rfl⟩
  by_cases h3 : m2=0
  ·obtain rfl : z=false:=by
    rw [← hz,List.eq_nil_of_length_eq_zero (show l.length=0 by omega)];rfl
   subst h3
   rw [hn,hm] at HB HX HY d0 x0 ⊢
   rw [hm2] at x0
   clear hq h hb0 hb1 hz hn hm h0 h1 HF hy hno hyn d1 d2 d3 hl hm2 h2
   go_enter Tryz.func83,Tryz.ntmps83
   go_wp2
   go_ret
   exact ⟨rfl,HB.out⟩
  ·have t3 : ((m2 : Int) == 0)=false:=beq_eq_false_iff_ne.2 (by omega)
   have he : l.isEmpty=false:=by cases l with
    | nil=>exact absurd hm2.symm h3
    | cons x l=>rfl
   rw [he,Bool.not_false,Bool.true_and] at hz
   obtain ⟨f,hf⟩ : ∃ f,firstR b=f:=⟨_,rfl⟩
   rw [hf] at hz HF
   have HZ:=hid hz
   rw [hn,hm] at HB HX HY d0 x0 ⊢
   rw [hm] at HF
   rw [hm2] at x0
   have hb1':=hb1
   rw [hn,hm] at hb1'
   clear hq h hb0 hb1 hn hm h0 h1 hy hno hyn d1 d2 d3 hl hm2 h2 he hf hz
   by_cases h4 : 0≤f
   ·have t4 : decide (0≤f)=true:=decide_eq_true h4
    obtain ⟨u,hu⟩ : ∃ u,decide (f≤1099511627776)=u:=⟨_,rfl⟩
    have HU:=hid hu
    go_enter Tryz.func83,Tryz.ntmps83
    go_upto_region 5 with fail
    have y0:=zab HY.out (k:=0) rfl
    have y1:=zab HY.out (k:=1) rfl
    go_wp2_with (first
     | (go_at_call 31;(with_reducible refine (HF.out _ hb1').mono ?_);rintro e w3 ⟨rfl,hb3⟩;have y2:=zaa hb3 y0;have y3:=zaa hb3 y1;have hb4:=hb1'.trans (hb3.mono hb1'.size);clear hb1')
     | (go_at_call 31;(with_reducible refine (HF.out _ hb4).mono ?_);rintro e w5 ⟨rfl,hb5⟩;have HB5:=hid (hb4.trans (hb5.mono hb4.size));clear hb4 hb5))
    go_ret
    exact ⟨zaJ (by rw [← HZ.out,← HU.out,t4,Bool.true_and]),HB5.out⟩
   ·have t4 : decide (0≤f)=false:=decide_eq_false h4
    go_enter Tryz.func83,Tryz.ntmps83
    go_upto_region 5 with fail
    have y0:=zab HY.out (k:=0) rfl
    have y1:=zab HY.out (k:=1) rfl
    go_wp2_with (go_at_call 31;(with_reducible refine (HF.out _ hb1').mono ?_);rintro e w3 ⟨rfl,hb3⟩;have HB5:=hid (hb1'.trans (hb3.mono hb1'.size));clear hb1' hb3)
    go_ret
    exact ⟨zaJ (by rw [← HZ.out,t4,Bool.false_and]),HB5.out⟩
 ·obtain rfl : z=false:=by rw [← hz,decide_eq_false (by omega)];rfl
  have t2 : ((m : Int) != (n : Int))=true:=by simp;omega
  rw [hn,hm] at HB HX HY d0 ⊢
  clear hq h hb0 hb1 hz hn hm h0 h1 HF hy hno hyn d1 d2 d3 h2
  go_enter Tryz.func83,Tryz.ntmps83
  go_wp2
  go_ret
  exact ⟨rfl,HB.out⟩
end
theorem OvI.base {B B' : Nat} {W : World} {v1 v2 : Value} {l1 : List PRun} {l2 : List PMt} (h : OvI B W v1 v2 l1 l2) (hB : B'≤B) : OvI B' W v1 v2 l1 l2:=by
 have key : ∀ {t : TypeId} {k n : Nat} {v : Value} {xs : List Value},W.ownsRow B t k v n xs→W.ownsRow B' t k v n xs:=fun h=>by
  refine ⟨h.1,?_⟩
  rcases h.2 with h2|⟨g,cap,cur,e,hb,r⟩
  ·exact .inl h2
  ·exact .inr ⟨g,cap,cur,e,Nat.le_trans hB hb,r⟩
 obtain ⟨c1,c2,h1,h2,h3⟩:=h
 exact ⟨c1,c2,⟨h1.n,key h1.row,h1.k,h1.p⟩,⟨h2.n,key h2.row,h2.k,h2.p⟩,h3⟩
def ovA (z : Bool) (its : List PIt) (wi time : Int) (runs : List PRun) : List PRun:=if z then (overP its wi time runs).1 else []
def ovB (z : Bool) (its : List PIt) (wi time : Int) (runs : List PRun) : List PMt:=if z then (overP its wi time runs).2 else []
theorem zg0 {z : Bool} {its : List PIt} {wi time : Int} {runs : List PRun} : ovA z its wi time (runs.take 0)=[]∧ovB z its wi time (runs.take 0)=[]:=by cases z <;> exact ⟨rfl,rfl⟩
theorem zjW {its : List PIt} {wi time : Int} {runs : List PRun} : ovA false its wi time runs=[]∧ovB false its wi time runs=[]:=⟨rfl,rfl⟩
theorem zkm {z : Bool} {its : List PIt} {wi time : Int} {runs : List PRun} : (ovA z its wi time runs).length≤runs.length∧(ovB z its wi time runs).length≤runs.length:=by
 cases z
 ·exact ⟨Nat.zero_le _,Nat.zero_le _⟩
 ·exact zg4
def OverTo (z : Bool) (its : List PIt) (wi time : Int) (runs : List PRun) (w : World) (e : Ending) (w' : World) : Prop:=∃ v1 v2,e=.returned (.tuple #[v1,v2])∧OvI w.heap.size w' v1 v2 (ovA z its wi time runs) (ovB z its wi time runs)∧Below w.heap.size w w'
theorem zjg {wi time : Int} {r : PRun} (h : time < 0) : lateR wi time r=false:=by unfold lateR;rw [decide_eq_false (by omega)];rfl
theorem zjh {wi time : Int} {r : PRun} {f : Int} (h : 0≤time) (hf : firstR r.bound=f) : lateR wi time r=!decide (time - wi < f):=by
 unfold lateR
 rw [decide_eq_true h,Bool.true_and,hf,← decide_not]
 exact decide_eq_decide.2 (by omega)
section
variable {its : List PIt} {wi time : Int} {runs : List PRun} {j : Nat} {r : PRun}
theorem zg1 (hr : runs[j]?=some r) (h : rightR its r=false) : ovA true its wi time (runs.take (j+1))=ovA true its wi time (runs.take j)∧ovB true its wi time (runs.take (j+1))=ovB true its wi time (runs.take j):=by
 have e:=zbS (its:=its) (wi:=wi) (time:=time) hr
 unfold stayR doneR at e
 rw [h] at e
 unfold ovA ovB
 simpa using e
theorem zg2 (hr : runs[j]?=some r) (h : rightR its r=true) (hl : lateR wi time r=false) : ovA true its wi time (runs.take (j+1))=ovA true its wi time (runs.take j)++[r]∧ovB true its wi time (runs.take (j+1))=ovB true its wi time (runs.take j):=by
 have e:=zbS (its:=its) (wi:=wi) (time:=time) hr
 unfold stayR doneR at e
 rw [h,hl] at e
 unfold ovA ovB
 simpa using e
theorem zji (hr : runs[j]?=some r) (h : rightR its r=true) (hl : lateR wi time r=true) (hw : waitsS (stQ its r.place)=false) : ovA true its wi time (runs.take (j+1))=ovA true its wi time (runs.take j)∧ovB true its wi time (runs.take (j+1))=ovB true its wi time (runs.take j):=by
 have e:=zbS (its:=its) (wi:=wi) (time:=time) hr
 unfold stayR doneR at e
 rw [h,hl,hw] at e
 unfold ovA ovB
 simpa using e
theorem zii (hr : runs[j]?=some r) (h : rightR its r=true) (hl : lateR wi time r=true) (hw : waitsS (stQ its r.place)=true) : ovA true its wi time (runs.take (j+1))=ovA true its wi time (runs.take j)∧ovB true its wi time (runs.take (j+1))=ovB true its wi time (runs.take j)++[⟨firstR r.bound+wi,r.bound⟩]:=by
 have e:=zbS (its:=its) (wi:=wi) (time:=time) hr
 unfold stayR doneR at e
 rw [h,hl,hw] at e
 unfold ovA ovB
 simpa using e
end
section
variable {K K2 : Nat→Prop} {w : World} {a qa qb va : Option Addr} {c qc r d vc m : Nat} {its : List PIt} {runs : List PRun}
theorem zdh (z : Bool) (hq : RowK itemD K w (.slice qa its.length qc) its) (hst : RowK stateD K2 w (.slice va m vc) (if z then stsN its else [])) (h : RowK runD (fun _=>False) w (.slice a runs.length c) runs) {wi pk time : Int} (hwi : z=true→0≤wi∧wi≤1099511627776) (hq6 : z=true→its.length≤6) (ht : -9223372036854775808≤time∧time≤9223372036854775807) (hl : runs.length≤1000000) (bs : ByteArray) : Calls Tryz.prog 56 #[.agg #[.slice qa its.length qc,.slice qb r d,.int .i64 wi,.string bs,.int .i64 pk],.slice va m vc,.slice a runs.length c,.int .i64 time] w (OverTo z its wi time runs w):=by
 obtain ⟨q,hqn⟩ : ∃ q,its.length=q:=⟨_,rfl⟩
 obtain ⟨n,hn⟩ : ∃ n,runs.length=n:=⟨_,rfl⟩
 have HM:=hid hst.len
 have HQ:=hid hq
 have HST:=hid hst
 have H:=hid (h.ge zfW (by decide))
 have HQN:=hid hqn
 have HN:=hid hn
 rw [hqn] at HQ ⊢
 rw [hn] at H hl ⊢
 have hb0:=(Below.refl w.heap.size w).alloc (Nat.le_refl _) (.cells #[.slice qa q qc,.slice qb r d,.int .i64 wi,.string bs,.int .i64 pk] 26)
 have HX:=hid (Blk.new w #[.slice qa q qc,.slice qb r d,.int .i64 wi,.string bs,.int .i64 pk] 26)
 have HB0 : Hid (Below w.heap.size w (w.alloc (.cells #[.slice qa q qc,.slice qb r d,.int .i64 wi,.string bs,.int .i64 pk] 26))):=hb0
 have HO0 : Hid (OvI (w.heap.size+1) (w.alloc (.cells #[.slice qa q qc,.slice qb r d,.int .i64 wi,.string bs,.int .i64 pk] 26)) (.slice none 0 0) (.slice none 0 0) (ovA z its wi time (runs.take 0)) (ovB z its wi time (runs.take 0))):=by
  rw [zg0.1,zg0.2]
  exact OvI.nil
 have hs1 : (w.alloc (.cells #[.slice qa q qc,.slice qb r d,.int .i64 wi,.string bs,.int .i64 pk] 26)).heap.size=w.heap.size+1:=by simp
 clear hq hst h hqn hn hb0
 go_enter Tryz.func56,Tryz.ntmps56
 go_wp2
 go_loopw [10,11,16] (fun v1 v2 i wr=>∃ j : Nat,i=.int .i64 j∧j≤n∧Hid (OvI (w.heap.size+1) wr v1 v2 (ovA z its wi time (runs.take j)) (ovB z its wi time (runs.take j)))∧Hid (Below (w.heap.size+1) (w.alloc (.cells #[.slice qa q qc,.slice qb r d,.int .i64 wi,.string bs,.int .i64 pk] 26)) wr)) (fun _ _ i _=>n - (RowKit.intOf i).toNat)
 case atStart=>exact ⟨0,rfl,Nat.zero_le _,HO0,Below.refl _ _⟩
 case round =>
  clear HO0
  obtain ⟨j,rfl,hj,HO,HB⟩:=hrel
  obtain ⟨a1,c1,rfl⟩:=HO.out.sl1
  obtain ⟨a2,c2,rfl⟩:=HO.out.sl2
  obtain ⟨L1,hL1⟩ : ∃ L1,(ovA z its wi time (runs.take j))=L1:=⟨_,rfl⟩
  obtain ⟨L2,hL2⟩ : ∃ L2,(ovB z its wi time (runs.take j))=L2:=⟨_,rfl⟩
  have hLL : L1.length≤n∧L2.length≤n:=by
   rw [← hL1,← hL2]
   have e:=zkm (z:=z) (its:=its) (wi:=wi) (time:=time) (runs:=runs.take j)
   rw [List.length_take,HN.out] at e
   omega
  have HL1:=hid hL1
  have HL2:=hid hL2
  rw [hL1,hL2] at HO ⊢
  obtain ⟨k1,hk1n⟩ : ∃ k1,L1.length=k1:=⟨_,rfl⟩
  obtain ⟨k2,hk2n⟩ : ∃ k2,L2.length=k2:=⟨_,rfl⟩
  have HK1:=hid hk1n
  have HK2:=hid hk2n
  rw [hk1n,hk2n] at HO hLL ⊢
  clear hL1 hL2 hk1n hk2n
  by_cases hlt : j < n
  ·obtain ⟨x,hx⟩ : ∃ x,runs[j]?=some x:=⟨_,List.getElem?_eq_getElem (by rw [HN.out];exact hlt)⟩
   have hbw : Below w.heap.size w wr:=HB0.out.trans (HB.out.mono (by omega))
   obtain ⟨g,o,a5,c5,rfl,d0,d1,hr5⟩:=(H.out.low hbw).runAt hx
   obtain ⟨m5,hm5⟩ : ∃ m5,x.bound.length=m5:=⟨_,rfl⟩
   have HM5:=hid hm5
   rw [hm5] at d1
   have HXX:=hid hx
   have HR5:=hid hr5
   have hi0 : (0 : Int)≤(j : Int):=by omega
   have hi1 : (j : Int) < (n : Int):=by omega
   have hba:=(Below.refl wr.heap.size wr).alloc (Nat.le_refl _) (.cells #[.int .i64 x.place,.slice a5 m5 c5] 59)
   have HBR:=hid (Blk.new wr #[.int .i64 x.place,.slice a5 m5 c5] 59)
   have HXW : Hid (Blk (wr.alloc (.cells #[.int .i64 x.place,.slice a5 m5 c5] 59)) w.heap.size #[.slice qa q qc,.slice qb r d,.int .i64 wi,.string bs,.int .i64 pk] 26):=((HX.out.keep (K:=fun _=>False) (TFr.of_below (by rw [hs1];exact HB.out)) id)).low hba
   have HBA:=hid hba
   have HBW:=hid hbw
   have hbsz : w.heap.size < wr.heap.size:=by have:=HB.out.size;omega
   clear hx hr5 hm5 hba hbw
   obtain ⟨wb,hwb⟩ : ∃ wb,wr.alloc (.cells #[.int .i64 x.place,.slice a5 m5 c5] 59)=wb:=⟨_,rfl⟩
   obtain ⟨q0,q1,q2,q3,q4⟩:=c5w HXW.out
   have r0:=zab HBR.out (k:=0) rfl
   have r1:=zab HBR.out (k:=1) rfl
   go_upto_region 6 with fail
   rw [hwb] at q0 q1 q2 q3 q4 r0 r1 HXW HBR HBA
   (try rw [hwb])
   clear hwb d0 d1
   cases z with
   | false =>
     have hm0 : ((m : Int) == 0)=true:=by
      have e : m=0:=HM.out
      rw [e];rfl
     have HN2 : Hid (OvI (w.heap.size+1) wb (.slice a1 k1 c1) (.slice a2 k2 c2) (ovA false its wi time (runs.take (j+1))) (ovB false its wi time (runs.take (j+1)))):=by
      have e:=HO.out.low HBA.out
      rw [← HL1.out,← HL2.out] at e
      rw [zjW.1,zjW.2] at e ⊢
      exact e
     have HBN : Hid (Below (w.heap.size+1) (w.alloc (.cells #[.slice qa q qc,.slice qb r d,.int .i64 wi,.string bs,.int .i64 pk] 26)) wb):=HB.out.trans (HBA.out.mono (by have:=HB.out.size;omega))
     go_wp2
     go_roundw
     case rel=>exact ⟨j+1,by go_num,by omega,HN2,HBN⟩
     case measure=>simp [RowKit.intOf];omega
   | true =>
   have hmq : m=q+1:=by
    have e : m=(stsN its).length:=HM.out
    rw [e,zbd,HQN.out]
   have hm0 : ((m : Int) == 0)=false:=beq_eq_false_iff_ne.2 (by omega)
   have HMQ:=hid hmq
   have hq7 : q≤6:=by rw [← HQN.out];exact hq6 rfl
   clear hmq hq6
   obtain ⟨zr,hzr⟩ : ∃ zr,rightR its x=zr:=⟨_,rfl⟩
   have hrc:=zbI (w:=wb) (qb:=qb) (r:=r) (d:=d) (K:=fun _=>False) (((HQN.out ▸ HQ.out : RowK itemD K w (.slice qa its.length qc) its).mono (fun _ h=>h.elim)).low (HBW.out.trans (HBA.out.mono HBW.out.size))) ((HR5.out.mono (K':=fun _=>False) (fun _ h=>h.elim)).low HBA.out) wi pk x.place bs
   rw [HQN.out,HM5.out] at hrc
   have hxe : (⟨x.place,x.bound⟩ : PRun)=x:=rfl
   rw [hxe,hzr] at hrc
   have HRC:=hid hrc
   have HZR:=hid hzr
   clear hrc hzr hxe
   cases zr with
   | false =>
     go_wp2_with (go_at_call 83;(with_reducible refine HRC.out.mono ?_);rintro e w4 ⟨rfl,hb4⟩;have HB4:=hid (HBA.out.trans (hb4.mono HBA.out.size));clear hb4)
     have HN2 : Hid (OvI (w.heap.size+1) w4 (.slice a1 k1 c1) (.slice a2 k2 c2) (ovA true its wi time (runs.take (j+1))) (ovB true its wi time (runs.take (j+1)))):=by
      have e:=HO.out.low HB4.out
      rw [(zg1 HXX.out HZR.out).1,(zg1 HXX.out HZR.out).2,HL1.out,HL2.out]
      exact e
     have HBN : Hid (Below (w.heap.size+1) (w.alloc (.cells #[.slice qa q qc,.slice qb r d,.int .i64 wi,.string bs,.int .i64 pk] 26)) w4):=HB.out.trans (HB4.out.mono (by have:=HB.out.size;omega))
     go_roundw
     case rel=>exact ⟨j+1,by go_num,by omega,HN2,HBN⟩
     case measure=>simp [RowKit.intOf];omega
   | true =>
   obtain ⟨i5,hi5⟩ : ∃ i5 : Nat,x.place=i5:=⟨x.place.toNat,by have:=(zaE.1 HZR.out).1;omega⟩
   have hi5q : i5 < q:=by have:=(zaE.1 HZR.out).2.1;have:=HQN.out;omega
   have HI5:=hid hi5
   have hfb:=(zaE.1 HZR.out).2.2.2.2.2
   obtain ⟨f,hf⟩ : ∃ f,firstR x.bound=f:=⟨_,rfl⟩
   have hfb2 : 0≤f∧f≤1099511627776:=by rw [← hf];exact hfb
   have HF:=hid hf
   have hwi2:=hwi rfl
   have HFC : Hid (∀ W,Below wb.heap.size wb W→Calls Tryz.prog 31 #[.agg #[.int .i64 x.place,.slice a5 m5 c5]] W fun e w'=>e=.returned (.int .i64 f)∧Below W.heap.size W w'):=fun W hW=>by
    have e:=za2 (w:=W) ((HR5.out.low HBA.out).low hW) x.place
    rw [HM5.out,hf] at e
    exact e
   have HAP : Hid (∀ W,Below wb.heap.size wb W→∃ a9 c9 w9,(Builtin.append_ #[48,48] 48 #[.slice a1 k1 c1,.slice (some ⟨W.heap.size,0,none⟩) 1 1]).run Tryz.prog (W.alloc (.cells #[.int .i64 x.place,.slice a5 m5 c5] 59))=.ok (.slice a9 (k1+1) c9) w9∧OvI (w.heap.size+1) w9 (.slice a9 (k1+1) c9) (.slice a2 k2 c2) (L1++[x]) L2∧Below (w.heap.size+1) wr w9):=fun W hW=>by
    have hW2:=HBA.out.trans (hW.mono HBA.out.size)
    have e:=HO.out.on (w1:=W) (x:=x) (cs:=[.int .i64 x.place,.slice a5 m5 c5]) (by have:=HB.out.size;omega) (by rw [HK1.out];omega) hW2 ⟨a5,c5,by rw [HM5.out],(HR5.out.low hW2).mono (fun b hb=>.inr (by have:=(HO.out.own b hb).1;omega))⟩
    rw [HK1.out] at e
    obtain ⟨a9,c9,w9,e1,e2,e3,e4⟩:=e
    exact ⟨a9,c9,w9,e1,e2,((hW2.alloc hW2.size _).mono (by have:=HB.out.size;omega)).grown e3 (by have:=HB.out.size;have:=hW2.size;simp;omega) (fun g hg=>(HO.out.own g (.inl hg)).1)⟩
   have HAF : Hid (∀ W,Below wb.heap.size wb W→∃ a9 c9 w9,(Builtin.append_ #[32,32] 32 #[.slice a2 k2 c2,.slice (some ⟨W.heap.size,0,none⟩) 1 1]).run Tryz.prog (W.alloc (.cells #[.int .i64 (f+wi),.slice a5 m5 c5] 37))=.ok (.slice a9 (k2+1) c9) w9∧OvI (w.heap.size+1) w9 (.slice a1 k1 c1) (.slice a9 (k2+1) c9) L1 (L2++[⟨f+wi,x.bound⟩])∧Below (w.heap.size+1) wr w9∧(W.alloc (.cells #[.int .i64 (f+wi),.slice a5 m5 c5] 37)).grownBy w9 (Value.slice a2 k2 c2).ownBlock):=fun W hW=>by
    have hW2:=HBA.out.trans (hW.mono HBA.out.size)
    have e:=HO.out.fnd (w1:=W) (x:=⟨f+wi,x.bound⟩) (cs:=[.int .i64 (f+wi),.slice a5 m5 c5]) (by have:=HB.out.size;omega) (by rw [HK2.out];omega) hW2 ⟨a5,c5,by rw [HM5.out],(HR5.out.low hW2).mono (fun b hb=>.inr (by have:=(HO.out.own b hb).1;omega))⟩
    rw [HK2.out] at e
    obtain ⟨a9,c9,w9,e1,e2,e3,e4⟩:=e
    exact ⟨a9,c9,w9,e1,e2,((hW2.alloc hW2.size _).mono (by have:=HB.out.size;omega)).grown e3 (by have:=HB.out.size;have:=hW2.size;simp;omega) (fun g hg=>(HO.out.own g (.inr hg)).1),e3⟩
   have HOW : Hid (∀ g,(Value.slice a2 k2 c2).ownBlock=some g→w.heap.size < g∧g < wr.heap.size):=fun g hg=>by have:=HO.out.own g (.inr hg);omega
   have hwb : wb.heap.size=wr.heap.size+1∨True:=.inr trivial
   have hwrb : wr.heap.size < wb.heap.size:=HBR.out.lt
   clear hfb hf hwi hi5
   by_cases htn : time < 0
   ·have hlate:=zjg (wi:=wi) (r:=x) htn
    have t0 : decide (time < 0)=true:=decide_eq_true htn
    have hon:=zg2 HXX.out HZR.out hlate
    have HON:=hid hon
    clear hon hlate htn
    go_wp2_with (go_at_call 83;(with_reducible refine HRC.out.mono ?_);rintro e w4 ⟨rfl,hb4⟩;have q4a:=zaa hb4 q2;have r0a:=zaa hb4 r0;have r1a:=zaa hb4 r1;have HB4:=hid hb4;clear hb4 q0 q1 q2 q3 q4 r0 r1)
    refine wp_region_held_drew (S:=fun _=>True) (by kernel_rfl) trivial (fun hHeld=>?_)
    refine rK 0 31 (h:=?_)
    try simp only [Act.put,rI,rZ,rS]
    refine rK 1 32 (h:=?_)
    try simp only [Act.put,rI,rZ,rS]
    refine rK 2 33 (h:=?_)
    try simp only [Act.put,rI,rZ,rS]
    refine rP 3 34 (h:=?_)
    try simp only [Act.put,rI,rZ,rS]
    refine rP 4 35 (h:=?_)
    try simp only [Act.put,rI,rZ,rS]
    refine rP 5 36 (h:=?_)
    try simp only [Act.put,rI,rZ,rS]
    refine rP 6 37 (h:=?_)
    try simp only [Act.put,rI,rZ,rS]
    refine rP 7 38 (h:=?_)
    try simp only [Act.put,rI,rZ,rS]
    refine rP 8 39 (h:=?_)
    try simp only [Act.put,rI,rZ,rS]
    refine rP 9 40 (h:=?_)
    try simp only [Act.put,rI,rZ,rS]
    refine rK 10 41 (h:=?_)
    try simp only [Act.put,rI,rZ,rS]
    refine rK 11 30 (h:=?_)
    try simp only [Act.put,rI,rZ,rS]
    refine wpAnyH_done (by kernel_rfl) ?_ _
    obtain ⟨a9,c9,w9,hr9,O9,B9⟩:=HAP.out _ (zae HB4.out)
    have HN2 : Hid (OvI (w.heap.size+1) w9 (.slice a9 (k1+1) c9) (.slice a2 k2 c2) (ovA true its wi time (runs.take (j+1))) (ovB true its wi time (runs.take (j+1)))):=by
     rw [HON.out.1,HON.out.2,HL1.out,HL2.out]
     exact O9
    have HBN : Hid (Below (w.heap.size+1) (w.alloc (.cells #[.slice qa q qc,.slice qb r d,.int .i64 wi,.string bs,.int .i64 pk] 26)) w9):=HB.out.trans B9
    clear O9 B9
    have s0 : w4.drew.cell? ⟨wr.heap.size,0,none⟩=some (.int .i64 x.place):=r0a
    have s1 : w4.drew.cell? ⟨wr.heap.size,1,none⟩=some (.slice a5 m5 c5):=r1a
    go_wp2_with (at_builtin;refine Lib.wpList_append_run _ rfl _ _ _ _ rfl _ _ rfl rfl _ _ hr9 ?_;clear hr9)
    go_roundw
    case rel=>exact ⟨j+1,by go_num,by omega,HN2,HBN⟩
    case measure=>simp [RowKit.intOf];omega
   ·have t0 : decide (time < 0)=false:=decide_eq_false htn
    obtain ⟨st,hstb⟩ : ∃ st,decide (time - wi < f)=st:=⟨_,rfl⟩
    have hlate:=zjh (wi:=wi) (r:=x) (show 0≤time by omega) HF.out
    rw [hstb] at hlate
    have hws : IntKind.i64.wrap (time - wi)=time - wi:=IntWalk.i64_in _ (by omega)
    have hws2 : IntKind.i64.wrap (f+wi)=f+wi:=IntWalk.i64_in _ (by omega)
    have HLATE:=hid hlate
    clear hlate
    go_wp2_with (go_at_call 83;(with_reducible refine HRC.out.mono ?_);rintro e w4 ⟨rfl,hb4⟩;have q2a:=zaa hb4 q2;have r0a:=zaa hb4 r0;have r1a:=zaa hb4 r1;have HB4:=hid hb4;clear hb4 q0 q1 q2 q3 q4 r0 r1)
    have f0 : w4.drew.cell? ⟨wr.heap.size,0,none⟩=some (.int .i64 x.place):=r0a
    have f1 : w4.drew.cell? ⟨wr.heap.size,1,none⟩=some (.slice a5 m5 c5):=r1a
    have f2 : w4.drew.cell? ⟨w.heap.size,2,none⟩=some (.int .i64 wi):=q2a
    clear r0a r1a q2a
    refine wp_region_held_drew (S:=fun W=>W.cell? ⟨wr.heap.size,0,none⟩=some (.int .i64 x.place)∧W.cell? ⟨wr.heap.size,1,none⟩=some (.slice a5 m5 c5)∧W.cell? ⟨w.heap.size,2,none⟩=some (.int .i64 wi)) (by kernel_rfl) ⟨by assumption,by assumption,by assumption⟩ (fun hHeld=>?_)
    refine rK 0 31 (h:=?_)
    try simp only [Act.put,rI,rZ,rS]
    refine rK 1 32 (h:=?_)
    try simp only [Act.put,rI,rZ,rS]
    refine rK 2 33 (h:=?_)
    try simp only [Act.put,rI,rZ,rS]
    refine rK 3 34 (h:=?_)
    try simp only [Act.put,rI,rZ,rS]
    refine rK 5 36 (h:=?_)
    try simp only [Act.put,rI,rZ,rS]
    refine rK 6 37 (h:=?_)
    try simp only [Act.put,rI,rZ,rS]
    refine rK 7 38 (h:=?_)
    try simp only [Act.put,rI,rZ,rS]
    refine rK 8 39 (h:=?_)
    try simp only [Act.put,rI,rZ,rS]
    refine rA 4 (h:=fun K hK=>?_)
    dsimp only [List.getElem_toArray,List.getElem_cons_succ,List.getElem_cons_zero]
    go_simp
    go_at_call 31
    (with_reducible refine (HFC.out _ (zae HB4.out)).mono ?_)
    rintro e w6 ⟨rfl,hb6⟩
    have HB6 : Hid (Below wb.heap.size wb w6):=(zae HB4.out).trans (hb6.mono (zae HB4.out).size)
    have k0:=zaa hb6 f0
    have k1b:=zaa hb6 f1
    have k2b:=zaa hb6 f2
    clear hb6 f0 f1 f2
    go_wp2_with fail
    refine hK.out _ _ ⟨k0,k1b,k2b⟩ (fun hHeld=>?_)
    clear hK K
    try simp only [Act.put,rI,rZ,rS]
    refine rK 9 40 (h:=?_)
    try simp only [Act.put,rI,rZ,rS]
    refine rK 10 41 (h:=?_)
    try simp only [Act.put,rI,rZ,rS]
    refine rK 11 30 (h:=?_)
    try simp only [Act.put,rI,rZ,rS]
    refine wpAnyH_done (by kernel_rfl) ?_ _
    cases st with
    | true =>
      obtain ⟨a9,c9,w9,hr9,O9,B9⟩:=HAP.out _ HB6.out
      have HN2 : Hid (OvI (w.heap.size+1) w9 (.slice a9 (k1+1) c9) (.slice a2 k2 c2) (ovA true its wi time (runs.take (j+1))) (ovB true its wi time (runs.take (j+1)))):=by
       have hon:=zg2 HXX.out HZR.out HLATE.out
       rw [hon.1,hon.2,HL1.out,HL2.out]
       exact O9
      have HBN : Hid (Below (w.heap.size+1) (w.alloc (.cells #[.slice qa q qc,.slice qb r d,.int .i64 wi,.string bs,.int .i64 pk] 26)) w9):=HB.out.trans B9
      clear O9 B9
      go_wp2_with (at_builtin;refine Lib.wpList_append_run _ rfl _ _ _ _ rfl _ _ rfl rfl _ _ hr9 ?_;clear hr9)
      go_roundw
      case rel=>exact ⟨j+1,by go_num,by omega,HN2,HBN⟩
      case measure=>simp [RowKit.intOf];omega
    | false =>
      obtain ⟨s,hs⟩ : ∃ s,(stsN its)[i5+1]?=some s:=⟨_,List.getElem?_eq_getElem (by rw [zbd,HQN.out];omega)⟩
      have hsq : stQ its x.place=s:=by
       unfold stQ
       rw [HI5.out,show ((i5 : Int)+1).toNat=i5+1 by omega,hs]
       rfl
      have hbw6:=HBW.out.trans ((HBA.out.trans (HB6.out.mono HBA.out.size)).mono HBW.out.size)
      obtain ⟨gs,os,b1,e1,b2,e2,rfl,u0,u1,u2,_,_⟩:=((show RowK stateD K2 w (.slice va m vc) (stsN its) from HST.out).low hbw6).stateAt hs
      have hwk : IntKind.i64.wrap ((i5 : Int)+1)=((i5+1 : Nat) : Int):=by rw [IntWalk.i64_in _ (by omega)];omega
      have hk5 : ((i5+1 : Nat) : Int) < (m : Int):=by have:=HMQ.out;omega
      have hk6 : (0 : Int)≤((i5+1 : Nat) : Int):=by omega
      have hwc:=fun W=>za3 (w:=W) (a:=b1) (c:=e1) (b:=b2) (d:=e2) s
      obtain ⟨sw,hsw⟩ : ∃ sw,waitsS s=sw:=⟨_,rfl⟩
      have HSW : Hid (waitsS (stQ its x.place)=sw):=by rw [hsq];exact hsw
      obtain ⟨snx,sgd,sfin⟩:=s
      dsimp only at u0 u1 u2 hwc
      obtain ⟨z1,hz1⟩ : ∃ z1,snx.length=z1:=⟨_,rfl⟩
      obtain ⟨z2,hz2⟩ : ∃ z2,sgd.length=z2:=⟨_,rfl⟩
      rw [hsw,hz1,hz2] at hwc
      rw [hz1] at u0
      rw [hz2] at u1
      have HWC:=hid hwc
      rw [HI5.out] at k0
      clear hwc hs hsq hsw hbw6 hz1 hz2
      cases sw with
      | false =>
        go_wp2_with (go_at_call 84;(with_reducible refine (HWC.out _).mono ?_);rintro e w7 ⟨rfl,hb7⟩;have HB7:=hid (HB6.out.trans (hb7.mono HB6.out.size));have m0:=zaa hb7 k0;have m1:=zaa hb7 k1b;have m2:=zaa hb7 k2b;clear hb7 k0 k1b k2b)
        have HN2 : Hid (OvI (w.heap.size+1) w7 (.slice a1 k1 c1) (.slice a2 k2 c2) (ovA true its wi time (runs.take (j+1))) (ovB true its wi time (runs.take (j+1)))):=by
         have hon:=zji HXX.out HZR.out HLATE.out HSW.out
         rw [hon.1,hon.2,HL1.out,HL2.out]
         exact HO.out.low (HBA.out.trans (HB7.out.mono HBA.out.size))
        have HBN : Hid (Below (w.heap.size+1) (w.alloc (.cells #[.slice qa q qc,.slice qb r d,.int .i64 wi,.string bs,.int .i64 pk] 26)) w7):=HB.out.trans ((HBA.out.trans (HB7.out.mono HBA.out.size)).mono (by have:=HB.out.size;omega))
        go_roundw
        case rel=>exact ⟨j+1,by go_num,by omega,HN2,HBN⟩
        case measure=>simp [RowKit.intOf];omega
      | true =>
        go_wp2_with (go_at_call 84;(with_reducible refine (HWC.out _).mono ?_);rintro e w7 ⟨rfl,hb7⟩;have HB7:=hid (HB6.out.trans (hb7.mono HB6.out.size));have m0:=zaa hb7 k0;have m1:=zaa hb7 k1b;have m2:=zaa hb7 k2b;clear hb7 k0 k1b k2b)
        rw [← HI5.out] at m0
        have n0 : w7.drew.cell? ⟨wr.heap.size,0,none⟩=some (.int .i64 x.place):=m0
        have n1 : w7.drew.cell? ⟨wr.heap.size,1,none⟩=some (.slice a5 m5 c5):=m1
        have n2 : w7.drew.cell? ⟨w.heap.size,2,none⟩=some (.int .i64 wi):=m2
        clear m0 m1 m2
        refine wp_region_held_drew (S:=fun W=>W.cell? ⟨wr.heap.size,0,none⟩=some (.int .i64 x.place)∧W.cell? ⟨wr.heap.size,1,none⟩=some (.slice a5 m5 c5)∧W.cell? ⟨w.heap.size,2,none⟩=some (.int .i64 wi)) (by kernel_rfl) ⟨by assumption,by assumption,by assumption⟩ (fun hHeld=>?_)
        refine rK 0 54 (h:=?_)
        try simp only [Act.put,rI,rZ,rS]
        refine rK 1 55 (h:=?_)
        try simp only [Act.put,rI,rZ,rS]
        refine rK 3 57 (h:=?_)
        try simp only [Act.put,rI,rZ,rS]
        refine rK 4 58 (h:=?_)
        try simp only [Act.put,rI,rZ,rS]
        refine rK 6 60 (h:=?_)
        try simp only [Act.put,rI,rZ,rS]
        refine rK 7 61 (h:=?_)
        try simp only [Act.put,rI,rZ,rS]
        refine rA 2 (h:=fun K hK=>?_)
        dsimp only [List.getElem_toArray,List.getElem_cons_succ,List.getElem_cons_zero]
        go_simp
        go_at_call 31
        (with_reducible refine (HFC.out _ (zae HB7.out)).mono ?_)
        rintro e w8 ⟨rfl,hb8⟩
        have HB8 : Hid (Below wb.heap.size wb w8):=(zae HB7.out).trans (hb8.mono (zae HB7.out).size)
        have p0:=zaa hb8 n0
        have p1:=zaa hb8 n1
        have p2:=zaa hb8 n2
        obtain ⟨a9,c9,w9,hr9,O9,B9,G9⟩:=HAF.out _ HB8.out
        clear hb8 n0 n1 n2
        go_wp2_with fail
        refine hK.out _ _ ⟨p0,p1,p2⟩ (fun hHeld=>?_)
        clear hK K
        try simp only [Act.put,rI,rZ,rS]
        refine rK 5 59 (h:=?_)
        try simp only [Act.put,rI,rZ,rS]
        refine rK 8 62 (h:=?_)
        try simp only [Act.put,rI,rZ,rS]
        refine rA 9 (h:=fun K hK=>?_)
        dsimp only [List.getElem_toArray,List.getElem_cons_succ,List.getElem_cons_zero]
        focus go_simp
        refine hK.out _ _ ⟨zad p0 _,zad p1 _,zad p2 _⟩ (fun hHeld=>?_)
        clear hK K
        try simp only [Act.put,rI,rZ,rS]
        refine rA 10 (h:=fun K hK=>?_)
        refine zcB ?e1 (.tmp 54) (.tmp 63) ?e2 ?et ?ea ?eb hr9 ?_
        case e1=>rfl
        case e2=>rfl
        case et=>rfl
        case ea=>simp [Act.eval]
        case eb=>simp [Act.eval]
        have g0 : ∀ {b k : Nat} {u : Value},b≤wr.heap.size→(b=wr.heap.size∨b=w.heap.size)→w8.cell? ⟨b,k,none⟩=some u→w9.cell? ⟨b,k,none⟩=some u:=fun {b k u} hb hb2 hc=>(World.cell?_of_block (G9.block b (by have:=World.block_lt_of_cell? _ _ hc;simp;exact Nat.lt_succ_of_lt this) (fun e=>by have:=HOW.out b e.symm;omega))).trans (zad hc _)
        have HN2 : Hid (OvI (w.heap.size+1) w9 (.slice a1 k1 c1) (.slice a9 (k2+1) c9) (ovA true its wi time (runs.take (j+1))) (ovB true its wi time (runs.take (j+1)))):=by (have hon:=zii HXX.out HZR.out HLATE.out HSW.out;rw [hon.1,hon.2,HL1.out,HL2.out,HF.out];exact O9)
        have HBN : Hid (Below (w.heap.size+1) (w.alloc (.cells #[.slice qa q qc,.slice qb r d,.int .i64 wi,.string bs,.int .i64 pk] 26)) w9):=HB.out.trans B9
        have h0:=g0 (Nat.le_refl _) (.inl rfl) p0
        have h1:=g0 (Nat.le_refl _) (.inl rfl) p1
        have h2:=g0 (Nat.le_of_lt hbsz) (.inr rfl) p2
        refine hK.out _ _ ⟨h0,h1,h2⟩ (fun hHeld=>?_)
        clear hK K
        try simp only [Act.put,rI]
        refine rK 11 11 (h:=?_)
        try simp only [Act.put]
        refine wpAnyH_done (by kernel_rfl) ?_ _
        go_wp2
        go_roundw
        case rel=>exact ⟨j+1,by go_num,by omega,HN2,HBN⟩
        case measure=>simp [RowKit.intOf];omega
  ·have hjn : n=j:=by omega
   subst hjn
   have htk : runs.take n=runs:=by rw [← HN.out,List.take_length]
   have HF2 : Hid (OvI w.heap.size wr (.slice a1 k1 c1) (.slice a2 k2 c2) (ovA z its wi time runs) (ovB z its wi time runs)):=by
    have e1:=HL1.out
    have e2:=HL2.out
    rw [htk] at e1 e2
    rw [e1,e2]
    exact HO.out.base (by omega)
   have HBF : Hid (Below w.heap.size w wr):=HB0.out.trans (HB.out.mono (by omega))
   clear HO HL1 HL2 htk
   go_wp2
   refine bodyPost_ret (v:=.tuple #[.slice a1 k1 c1,.slice a2 k2 c2]) (by simp [results,Tryz.results56,go_sem]) rfl ?_
   exact ⟨_,_,rfl,HF2.out,HBF.out⟩
end
end Go.Proofs.YtkmlfkbpcgkpaaaGreatDoor
