/- States in memory; the state behind an item. | The program's state behind an item. | The document's state behind an item. -/
import Derived.Test.YtefcbgnckgapgaaM0
import Derived.Test.YtefcbgnckgapgaaM1
import Derived.Test.YtefcbgnckgapgaaM5
import Derived.Deep.RegionLaw
namespace Go.Proofs.Ytefcbgnckgapgaa
open Go.RowKit Go.Lib Go.Op
def numD : RowD Nat where
 k:=1
 P:=fun _ _ cs n=>cs=[.int .i64 (n : Int)]
 len:=fun h=>by rw [h];rfl
 one:=fun h u hu=>by rw [h] at hu;rw [List.mem_singleton.1 hu];rfl
 keep:=fun _ h=>h
 mono:=fun _ h=>h
 ne:=fun _ h=>h
def stateD : RowD PSt where
 k:=3
 P:=fun K w cs s=>∃ a c b d,cs=[.slice a s.nx.length c,.slice b s.gd.length d,.bool s.fin]∧RowK numD K w (.slice a s.nx.length c) s.nx∧RowK numD K w (.slice b s.gd.length d) s.gd
 len:=fun ⟨a,c,b,d,h,_⟩=>by rw [h];rfl
 one:=fun ⟨a,c,b,d,h,_⟩ u hu=>by
  rw [h] at hu
  simp only [List.mem_cons,List.not_mem_nil,or_false] at hu
  rcases hu with rfl|rfl|rfl <;> rfl
 keep:=fun hf ⟨a,c,b,d,h,h1,h2⟩=>⟨a,c,b,d,h,h1.keep hf,h2.keep hf⟩
 mono:=fun hs ⟨a,c,b,d,h,h1,h2⟩=>⟨a,c,b,d,h,h1.mono hs,h2.mono hs⟩
 ne:=fun hb ⟨a,c,b,d,h,h1,h2⟩=>⟨a,c,b,d,h,h1.ne (by decide) hb,h2.ne (by decide) hb⟩
theorem intI : (Try.prog.info? 3).map (fun i=>(i.zero,i.size,i.bytes))=some (some (.int .i64 0),1,8):=by kernel_rfl
theorem stateI : (Try.prog.info? 36).map (fun i=>(i.zero,i.size,i.bytes))=some (some (.agg #[.slice none 0 0,.slice none 0 0,.bool false]),3,56):=by kernel_rfl
def nums (l : List Nat) : List Value:=l.map (fun (n : Nat)=>Value.int .i64 (n : Int))
def OwnI (w : World) (B : Nat) (v : Value) (l : List Nat) : Prop:=w.ownsRow B 3 1 v l.length (nums l)
theorem ownsRow_blk {w w' : World} {base : Nat} {e : TypeId} {size : Nat} {v : Value} {n : Nat} {xs : List Value} (h : w.ownsRow base e size v n xs) (hb : ∀ g,v.ownBlock=some g→w'.heap[g]?=w.heap[g]?) : w'.ownsRow base e size v n xs:=by
 obtain ⟨h1,h2⟩:=h
 refine ⟨h1,?_⟩
 rcases h2 with h2|⟨g,cap,cur,rfl,h3,h4,h5⟩
 ·exact .inl h2
 ·exact .inr ⟨g,cap,cur,rfl,h3,(hb g rfl).trans h4,h5⟩
section
variable {w w' : World} {B : Nat} {v : Value} {l : List Nat}
theorem OwnI.nil (w : World) (B : Nat) : OwnI w B (.slice none 0 0) []:=⟨by simp [nums],.inl ⟨rfl,rfl⟩⟩
theorem OwnI.slice (h : OwnI w B v l) : ∃ a c,v=.slice a l.length c:=by
 rcases h.2 with ⟨rfl,h0⟩|⟨g,cap,cur,rfl,_⟩
 ·exact ⟨none,0,by rw [h0]⟩
 ·exact ⟨_,cap,rfl⟩
theorem OwnI.own (h : OwnI w B v l) : ∀ g,v.ownBlock=some g→B≤g∧g < w.heap.size:=by
 intro g hg
 rcases h.2 with ⟨rfl,h0⟩|⟨g',cap,cur,rfl,hb,hh,_⟩
 ·cases hg
 ·obtain rfl : g'=g:=Option.some.inj hg
  exact ⟨hb,(Array.getElem?_eq_some_iff.1 hh).1⟩
theorem OwnI.blk (h : OwnI w B v l) (hb : ∀ g,v.ownBlock=some g→w'.heap[g]?=w.heap[g]?) : OwnI w' B v l:=ownsRow_blk h hb
theorem OwnI.row (h : OwnI w B v l) : RowK numD (· < B) w v l:=by
 rcases h.2 with ⟨rfl,h0⟩|⟨g,cap,cur,rfl,hb,hh,hn,hc,hs,ht⟩
 ·have : l=[]:=List.eq_nil_of_length_eq_zero h0
  subst this
  exact RowK.nil _ _ _
 ·refine ⟨_,cap,rfl,hn,fun j x hj=>⟨g,0,[.int .i64 x],rfl,Nat.not_lt.2 hb,rfl,fun r u hu=>?_⟩⟩
  match r,hu with
  | 0,hu =>
    obtain rfl : Value.int .i64 (x : Int)=u:=by simpa using hu
    have hj2:=(List.getElem?_eq_some_iff.1 hj).1
    rw [cell_of_row w g _ cur 3 (0,0) hh]
    have e : (nums l)[j]?=some (.int .i64 (x : Int)):=by simp [nums,hj]
    rw [← ht,List.getElem?_take] at e
    split at e
    ·show cur[0+j*1+0]?=_
     rw [← Array.getElem?_toList,show 0+j*1+0=j by omega]
     exact e
    ·cases e
  | r+1,hu=>simp at hu
theorem OwnI.append (h : OwnI w B v l) (hB : B≤w.heap.size) (hl : l.length≤1000) {n b : Nat} (hb : w.heap[b]?=some (.cells #[.int .i64 (n : Int)] 3 (0,0))) :
 ∃ v' w',(Builtin.append_ #[34,34] 34 #[v,.slice (some ⟨b,0,none⟩) 1 1]).run Try.prog w=.ok v' w'∧OwnI w' B v' (l++[n])∧w.grownBy w' v.ownBlock∧(v'.ownBlock=v.ownBlock∨v'.ownBlock=some w.heap.size):=by
 obtain ⟨i0,hi,hz0,hz1,hz2⟩:=info_parts intI
 obtain ⟨v',w',hr,g2,g3,_,g5⟩:=run_append_own_at (P:=Try.prog) w B 34 34 3 i0 _ 1 8 (by kernel_rfl) hi hz0 hz1 hz2 rfl (by decide) v l.length (nums l) h ⟨b,0,none⟩ 1 1 [.int .i64 (n : Int)] rfl (fun j u hj=>by
  match j,hj with
  | 0,hj =>
    obtain rfl : Value.int .i64 (n : Int)=u:=by simpa using hj
    have e : (⟨b,0,none⟩ : Addr).add 0=⟨b,0,none⟩:=by unfold Addr.add;rw [if_pos rfl]
    rw [e]
    exact tcell hb rfl
  | j+1,hj=>simp at hj) (fun u hu=>by rw [List.mem_singleton.1 hu];rfl) (by unfold maxLen;omega) (by omega) hB
 refine ⟨v',w',hr,?_,g3,g5⟩
 unfold OwnI nums
 rw [List.length_append,List.map_append]
 exact g2
end
structure StM (rs : List (Nat × Array Value × TypeId)) (w w' : World) (s : Nat) (vn vg : Value) (n g : List Nat) (f : Bool) : Prop where
 low : Below w.heap.size w w'
 blk : Blk w' s #[vn,vg,.bool f] 36
 new : w.heap.size≤s
 nx : OwnI w' w.heap.size vn n
 gd : OwnI w' w.heap.size vg g
 ne1 : vn.ownBlock≠some s
 ne2 : vg.ownBlock≠some s
 ne3 : ∀ b,vn.ownBlock=some b→vg.ownBlock≠some b
 still : ∀ r∈rs,Blk w' r.1 r.2.1 r.2.2∧r.1≠s∧vn.ownBlock≠some r.1∧vg.ownBlock≠some r.1
section
variable {rs : List (Nat × Array Value × TypeId)} {w w' w2 : World} {s : Nat} {vn vg : Value} {n g : List Nat} {f : Bool}
theorem StM.below (h : StM rs w w' s vn vg n g f) (hb : Below w'.heap.size w' w2) : StM rs w w2 s vn vg n g f :=
 ⟨h.low.trans (hb.mono h.low.size),h.blk.low hb,h.new,h.nx.blk (fun b hg=>hb.block b (h.nx.own b hg).2),h.gd.blk (fun b hg=>hb.block b (h.gd.own b hg).2),h.ne1,h.ne2,h.ne3,fun r hr=>⟨(h.still r hr).1.low hb,(h.still r hr).2⟩⟩
theorem StM.lt (h : StM rs w w' s vn vg n g f) : s < w'.heap.size:=h.blk.lt
theorem StM.next (h : StM rs w w' s vn vg n g f) (hn : n.length≤1000) (j : Nat) :
 ∃ a' c' w2,(Builtin.append_ #[34,34] 34 #[vn,.slice (some ⟨w'.heap.size,0,none⟩) 1 1]).run Try.prog (w'.alloc (.cells #[.int .i64 (j : Int)] 3))=.ok (.slice a' (n.length+1) c') w2 ∧
   StM rs w (w2.setCell ⟨s,0,none⟩ (.slice a' (n.length+1) c')) s (.slice a' (n.length+1) c') vg (n++[j]) g f∧Blk w2 s #[vn,vg,.bool f] 36:=by
 have h1:=h.below ((Below.refl w'.heap.size w').alloc (Nat.le_refl _) (.cells #[.int .i64 (j : Int)] 3))
 obtain ⟨v',w2,hr,ho,hg,hd⟩:=h1.nx.append h1.low.size hn (heap_alloc_new w' (.cells #[.int .i64 (j : Int)] 3))
 obtain ⟨a',c',rfl⟩:=ho.slice
 rw [List.length_append,List.length_singleton] at hr ho hd
 have hs2 : s < (w'.alloc (.cells #[.int .i64 (j : Int)] 3)).heap.size:=h1.lt
 have hbs : Blk w2 s #[vn,vg,.bool f] 36:=(hg.block s hs2 (fun e=>h1.ne1 e.symm)).trans h1.blk
 have hnew : ∀ b,(Value.slice a' (n.length+1) c').ownBlock=some b→b < (w'.alloc (.cells #[.int .i64 (j : Int)] 3)).heap.size→vn.ownBlock=some b:=fun b hb hlt=>by
  rcases hd with e|e
  ·rw [← e];exact hb
  ·rw [e] at hb
   have hb:=Option.some.inj hb
   omega
 have hv' : ∀ b,(Value.slice a' (n.length+1) c').ownBlock=some b→b≠s∧vg.ownBlock≠some b:=fun b hb =>
  ⟨fun e=>h1.ne1 (by rw [← e];exact hnew b hb (by omega)),fun e=>h1.ne3 b (hnew b hb (h1.gd.own _ e).2) e⟩
 refine ⟨a',c',w2,hr,⟨?_,hbs.set 0 _ rfl,h.new,?_,?_,fun e=>(hv' s e).1 rfl,h.ne2,fun b hb=>(hv' b hb).2,fun r hr=>?_⟩,hbs⟩
 ·have hB2 : Below w.heap.size w w2:=h1.low.grown hg h1.low.size (fun k hk=>(h1.nx.own k hk).1)
  exact ((TFr.of_below (K:=(w.heap.size≤·)) hB2).setCell (p:=⟨s,0,none⟩) (fun _=>h.new) _).below (Nat.le_refl _) (fun k hk=>hk)
 ·show OwnI _ _ _ _
  exact ho.blk (fun b hb=>heap_setCell_other w2 _ b _ (fun e=>(hv' b hb).1 e))
 ·refine (h1.gd.blk (w':=w2) (fun b hb=>hg.block b (h1.gd.own b hb).2 (fun e=>h1.ne3 b e.symm hb))).blk (fun b hb=>heap_setCell_other w2 _ b _ (fun e=>?_))
  have e2 : b=s:=e
  exact h.ne2 (e2 ▸ hb)
 ·obtain ⟨h2,h3,h4,h5⟩:=h1.still r hr
  exact ⟨Blk.at ((hg.block r.1 h2.lt (fun e=>h4 e.symm)).trans h2) h3 0 _,h3,fun e=>h4 (hnew _ e h2.lt),h5⟩
theorem StM.guard (h : StM rs w w' s vn vg n g f) (hn : g.length≤1000) (j : Nat) :
 ∃ a' c' w2,(Builtin.append_ #[34,34] 34 #[vg,.slice (some ⟨w'.heap.size,0,none⟩) 1 1]).run Try.prog (w'.alloc (.cells #[.int .i64 (j : Int)] 3))=.ok (.slice a' (g.length+1) c') w2 ∧
   StM rs w (w2.setCell ⟨s,1,none⟩ (.slice a' (g.length+1) c')) s vn (.slice a' (g.length+1) c') n (g++[j]) f∧Blk w2 s #[vn,vg,.bool f] 36:=by
 have h1:=h.below ((Below.refl w'.heap.size w').alloc (Nat.le_refl _) (.cells #[.int .i64 (j : Int)] 3))
 obtain ⟨v',w2,hr,ho,hg,hd⟩:=h1.gd.append h1.low.size hn (heap_alloc_new w' (.cells #[.int .i64 (j : Int)] 3))
 obtain ⟨a',c',rfl⟩:=ho.slice
 rw [List.length_append,List.length_singleton] at hr ho hd
 have hs2 : s < (w'.alloc (.cells #[.int .i64 (j : Int)] 3)).heap.size:=h1.lt
 have hbs : Blk w2 s #[vn,vg,.bool f] 36:=(hg.block s hs2 (fun e=>h1.ne2 e.symm)).trans h1.blk
 have hnew : ∀ b,(Value.slice a' (g.length+1) c').ownBlock=some b→b < (w'.alloc (.cells #[.int .i64 (j : Int)] 3)).heap.size→vg.ownBlock=some b:=fun b hb hlt=>by
  rcases hd with e|e
  ·rw [← e];exact hb
  ·rw [e] at hb
   have hb:=Option.some.inj hb
   omega
 have hv' : ∀ b,(Value.slice a' (g.length+1) c').ownBlock=some b→b≠s∧vn.ownBlock≠some b:=fun b hb =>
  ⟨fun e=>h1.ne2 (by rw [← e];exact hnew b hb (by omega)),fun e=>h1.ne3 b e (hnew b hb (h1.nx.own _ e).2)⟩
 refine ⟨a',c',w2,hr,⟨?_,hbs.set 1 _ rfl,h.new,?_,?_,h.ne1,fun e=>(hv' s e).1 rfl,fun b hb e=>(hv' b e).2 hb,fun r hr=>?_⟩,hbs⟩
 ·have hB2 : Below w.heap.size w w2:=h1.low.grown hg h1.low.size (fun k hk=>(h1.gd.own k hk).1)
  exact ((TFr.of_below (K:=(w.heap.size≤·)) hB2).setCell (p:=⟨s,1,none⟩) (fun _=>h.new) _).below (Nat.le_refl _) (fun k hk=>hk)
 ·refine (h1.nx.blk (w':=w2) (fun b hb=>hg.block b (h1.nx.own b hb).2 (fun e=>h1.ne3 b hb e.symm))).blk (fun b hb=>heap_setCell_other w2 _ b _ (fun e=>?_))
  have e2 : b=s:=e
  exact h.ne1 (e2 ▸ hb)
 ·show OwnI _ _ _ _
  exact ho.blk (fun b hb=>heap_setCell_other w2 _ b _ (fun e=>(hv' b hb).1 e))
 ·obtain ⟨h2,h3,h4,h5⟩:=h1.still r hr
  exact ⟨Blk.at ((hg.block r.1 h2.lt (fun e=>h5 e.symm)).trans h2) h3 1 _,h3,h4,fun e=>h5 (hnew _ e h2.lt)⟩
theorem StM.more (h : StM rs w w' s vn vg n g f) (cs : Array Value) (t : TypeId) : StM ((w'.heap.size,cs,t) :: rs) w (w'.alloc (.cells cs t)) s vn vg n g f:=by
 have h1:=h.below ((Below.refl w'.heap.size w').alloc (Nat.le_refl _) (.cells cs t))
 refine ⟨h1.low,h1.blk,h1.new,h1.nx,h1.gd,h1.ne1,h1.ne2,h1.ne3,fun r hr=>?_⟩
 rcases List.mem_cons.1 hr with rfl|hr
 ·exact ⟨Blk.new w' cs t,fun e=>by have:=h.lt;have e2 : w'.heap.size=s:=e;omega,fun e=>by have:=(h.nx.own _ e).2;dsimp only at this;omega,fun e=>by have:=(h.gd.own _ e).2;dsimp only at this;omega⟩
 ·exact h1.still r hr
theorem StM.less {r : Nat × Array Value × TypeId} (h : StM (r :: rs) w w' s vn vg n g f) : StM rs w w' s vn vg n g f :=
 ⟨h.low,h.blk,h.new,h.nx,h.gd,h.ne1,h.ne2,h.ne3,fun r hr=>h.still r (List.mem_cons_of_mem _ hr)⟩
theorem StM.fin (h : StM rs w w' s vn vg n g f) (f' : Bool) : StM rs w (w'.setCell ⟨s,2,none⟩ (.bool f')) s vn vg n g f' :=
 ⟨((TFr.of_below (K:=(w.heap.size≤·)) h.low).setCell (p:=⟨s,2,none⟩) (fun _=>h.new) _).below (Nat.le_refl _) (fun k hk=>hk),h.blk.set 2 _ rfl,h.new,
   h.nx.blk (fun b hb=>heap_setCell_other w' _ b _ (fun e=>by have e2 : b=s:=e;exact h.ne1 (e2 ▸ hb))),
   h.gd.blk (fun b hb=>heap_setCell_other w' _ b _ (fun e=>by have e2 : b=s:=e;exact h.ne2 (e2 ▸ hb))),h.ne1,h.ne2,h.ne3,fun r hr=>⟨(h.still r hr).1.at (h.still r hr).2.1 2 _,(h.still r hr).2⟩⟩
theorem StM.done (h : StM rs w w' s vn vg n g f) {r : Nat} (hr : w.heap.size≤r) (hrn : vn.ownBlock≠some r) (hrg : vg.ownBlock≠some r) (hw : TFr (·=r) w' w2) :
 ∃ a c b d,vn=.slice a n.length c∧vg=.slice b g.length d∧stateD.P (· < w.heap.size) w2 [vn,vg,.bool f] ⟨n,g,f⟩∧Below w.heap.size w w2:=by
 have h1:=(h.nx.blk (w':=w2) (fun b hb=>hw.block b (h.nx.own b hb).2 (fun e=>hrn (by rw [← e];exact hb)))).row
 have h2:=(h.gd.blk (w':=w2) (fun b hb=>hw.block b (h.gd.own b hb).2 (fun e=>hrg (by rw [← e];exact hb)))).row
 obtain ⟨a,c,rfl⟩:=h.nx.slice
 obtain ⟨b,d,rfl⟩:=h.gd.slice
 refine ⟨a,c,b,d,rfl,rfl,⟨a,c,b,d,rfl,h1,h2⟩,?_⟩
 exact ((TFr.of_below (K:=(·=r)) h.low).trans hw).below (Nat.le_refl _) (fun k hk=>by rw [hk];exact hr)
end
def StTo (s : PSt) (w : World) (e : Ending) (w' : World) : Prop:=∃ a c b d,e=.returned (.agg #[.slice a s.nx.length c,.slice b s.gd.length d,.bool s.fin])∧stateD.P (· < w.heap.size) w' [.slice a s.nx.length c,.slice b s.gd.length d,.bool s.fin] s∧Below w.heap.size w w'
end Go.Proofs.Ytefcbgnckgapgaa
namespace Go.Proofs.Ytefcbgnckgapgaa
open Go.RowKit Go.Lib Go.Op
theorem drop_at {l : List PIt} {j : Nat} {y : PIt} (h : l[j]?=some y) : l.drop j=y :: l.drop (j+1):=by
 obtain ⟨hj,rfl⟩:=List.getElem?_eq_some_iff.1 h
 exact List.drop_eq_getElem_cons hj
theorem behT_end {l : List PIt} {j : Nat} (h : l.length≤j) (n g : List Nat) : behT (l.drop j) j n g=⟨n,g,true⟩:=by
 rw [List.drop_eq_nil_of_le h]
 rfl
theorem behT_no {l : List PIt} {j : Nat} {y : PIt} (h : l[j]?=some y) (hn : y.no=true) (n g : List Nat) : behT (l.drop j) j n g=behT (l.drop (j+1)) (j+1) n (g++[j]):=by
 rw [drop_at h,behT,if_pos hn]
theorem behT_opt {l : List PIt} {j : Nat} {y : PIt} (h : l[j]?=some y) (hn : y.no=false) (hm : y.mode=3) (n g : List Nat) : behT (l.drop j) j n g=behT (l.drop (j+1)) (j+1) (n++[j]) g:=by
 rw [drop_at h,behT,if_neg (by rw [hn];simp),if_pos hm]
theorem behT_one {l : List PIt} {j : Nat} {y : PIt} (h : l[j]?=some y) (hn : y.no=false) (hm : y.mode≠3) (n g : List Nat) : behT (l.drop j) j n g=⟨n++[j],g,false⟩:=by
 rw [drop_at h,behT,if_neg (by rw [hn];simp),if_neg hm]
def BeH (w wr : World) (l : List PIt) (st : PSt) (j : Nat) : Prop:=∃ vn vg n g,StM [(w.heap.size,#[.slice none 0 0,.slice none 0 0,.bool false],36)] w wr (w.heap.size+1) vn vg n g false∧behT (l.drop j) j n g=st∧n.length≤j∧g.length≤j
set_option maxHeartbeats 1000000 in
set_option maxRecDepth 100000 in
theorem nbehind_calls {K : Nat→Prop} {w : World} {a : Option Addr} {c : Nat} {l : List PIt} (h : RowK itemD K w (.slice a l.length c) l) (hl : l.length≤6) {k : Nat} {x : PIt} (hk : l[k]?=some x) :
 Calls Try.prog 23 #[.slice a l.length c,.int .i64 k] w (StTo (stAt l k x) w):=by
 obtain ⟨g,o,a',c',rfl,d0,d1,d2,d3,_⟩:=h.itemAt hk
 have hkl:=(List.getElem?_eq_some_iff.1 hk).1
 have H:=hid h
 have HK:=hid hk
 obtain ⟨q,hq⟩ : ∃ q,l.length=q:=⟨_,rfl⟩
 have HQ:=hid hq
 rw [hq] at hl hkl ⊢
 obtain ⟨st,hst⟩ : ∃ st,stAt l k x=st:=⟨_,rfl⟩
 have hb1:=(Below.refl w.heap.size w).alloc (Nat.le_refl _) (.cells #[.slice none 0 0,.slice none 0 0,.bool false] 36)
 have hb2:=hb1.alloc hb1.size (.cells #[.slice none 0 0,.slice none 0 0,.bool false] 36)
 have hp2:=(Blk.new w #[.slice none 0 0,.slice none 0 0,.bool false] 36).low ((Below.refl _ _).alloc (Nat.le_refl _) (.cells #[.slice none 0 0,.slice none 0 0,.bool false] 36))
 have hp3:=Blk.new (w.alloc (.cells #[.slice none 0 0,.slice none 0 0,.bool false] 36)) #[.slice none 0 0,.slice none 0 0,.bool false] 36
 rw [show (w.alloc (.cells #[.slice none 0 0,.slice none 0 0,.bool false] 36)).heap.size=w.heap.size+1 by simp] at hp3
 have e3:=tkeep hb2 d3
 have s0 : StM [(w.heap.size,#[.slice none 0 0,.slice none 0 0,.bool false],36)] w ((w.alloc (.cells #[.slice none 0 0,.slice none 0 0,.bool false] 36)).alloc (.cells #[.slice none 0 0,.slice none 0 0,.bool false] 36)) (w.heap.size+1) (.slice none 0 0) (.slice none 0 0) [] [] false:=⟨hb2,hp3,by omega,OwnI.nil _ _,OwnI.nil _ _,by simp [Value.ownBlock],by simp [Value.ownBlock],fun b hb=>by simp [Value.ownBlock] at hb,fun r hr=>by
  obtain rfl:=List.mem_singleton.1 hr
  exact ⟨hp2,by dsimp only;omega,by simp [Value.ownBlock],by simp [Value.ownBlock]⟩⟩
 rw [hst]
 have HW : IntKind.i64.wrap ((k : Int)+1)=((k+1 : Nat) : Int):=by rw [IntWalk.i64_in _ (by omega)];omega
 by_cases h2 : x.mode=2
 ·have hst1 : behT (l.drop (k+1)) (k+1) [k] []=st:=by
   rw [← hst]
   unfold stAt
   rw [if_pos h2]
  obtain ⟨a9,c9,w9,hr9,hM9,hB9⟩:=s0.next (by simp) k
  have hsz : ((w.alloc (.cells #[.slice none 0 0,.slice none 0 0,.bool false] 36)).alloc (.cells #[.slice none 0 0,.slice none 0 0,.bool false] 36)).heap.size=w.heap.size+1+1:=by simp
  rw [hsz] at hr9
  have HM:=hid hM9
  have HB9:=hid hB9
  have HST:=hid hst1
  have t2 : (x.mode == 2)=true:=beq_iff_eq.2 h2
  have m0:=tcell hB9 (k:=0) rfl
  have f0:=tfrozen hB9 (k:=0)
  clear h hk hq hb1 hb2 hp2 hp3 d0 d1 d2 d3 hst hst1 s0 hM9 hB9 h2 hsz
  go_enter Try.func23,Try.ntmps23
  go_wp2_with (at_builtin;refine Lib.wpList_append_run _ rfl _ _ _ _ rfl _ _ rfl rfl _ _ hr9 ?_;clear hr9)
  have HS : Hid (BeH w (w9.setCell ⟨w.heap.size+1,0,none⟩ (.slice a9 1 c9)) l st (k+1)):=⟨_,_,_,_,HM.out,HST.out,by simp,by simp⟩
  clear m0 f0 HB9 HM HST t2 e3
  go_loopw [6] (fun i wr=>∃ j : Nat,i=.int .i64 j∧j≤q∧Hid (BeH w wr l st j)) (fun i _=>q - (RowKit.intOf i).toNat)
  case atStart=>exact ⟨k+1,by go_num,by omega,HS⟩
  case round =>
   obtain ⟨j,rfl,hj,HB⟩:=hrel
   obtain ⟨vn,vg,n,gg,hM,his,hn1,hn2⟩:=HB.out
   obtain ⟨na,nc,rfl⟩:=hM.nx.slice
   obtain ⟨ga,gc,rfl⟩:=hM.gd.slice
   have m0:=tcell hM.blk (k:=0) rfl
   have m1:=tcell hM.blk (k:=1) rfl
   have m2:=tcell hM.blk (k:=2) rfl
   have f0:=tfrozen hM.blk (k:=0)
   have f1:=tfrozen hM.blk (k:=1)
   have f2:=tfrozen hM.blk (k:=2)
   have HM:=hid hM
   have HIS:=hid his
   have HN:=hid (And.intro hn1 hn2)
   clear hM his hn1 hn2
   by_cases hlt : j < q
   ·obtain ⟨y,hy⟩ : ∃ y,l[j]?=some y:=⟨_,List.getElem?_eq_getElem (by rw [HQ.out];exact hlt)⟩
    obtain ⟨g1,o1,a1,c1,eg,d0,d1,d2,d3,_⟩:=(H.out.low HM.out.low).itemAt hy
    injection eg with eg
    injection eg with eg1 eg2
    subst eg1 eg2
    have HY:=hid hy
    have hw : IntKind.i64.wrap ((j : Int)+1)=((j+1 : Nat) : Int):=by rw [IntWalk.i64_in _ (by omega)];omega
    clear hy
    cases hno : y.no with
    | true =>
      obtain ⟨a5,c5,w5,hr5,hM5,hB5⟩:=HM.out.guard (by have:=HN.out.2;omega) j
      have HB2 : Hid (BeH w (w5.setCell ⟨w.heap.size+1,1,none⟩ (.slice a5 (gg.length+1) c5)) l st (j+1)):=⟨_,_,_,_,hM5,by rw [← behT_no HY.out hno];exact HIS.out,by have:=HN.out.1;omega,by have:=HN.out.2;simp;omega⟩
      have p1:=tcell hB5 (k:=1) rfl
      have q1:=tfrozen hB5 (k:=1)
      rw [hno] at d0
      clear hM5 hB5 hno
      go_wp2_with (at_builtin;refine Lib.wpList_append_run _ rfl _ _ _ _ rfl _ _ rfl rfl _ _ hr5 ?_;clear hr5)
      exact ⟨⟨j+1,rfl,hlt,HB2⟩,by simp [RowKit.intOf];omega⟩
    | false =>
      obtain ⟨a5,c5,w5,hr5,hM5,hB5⟩:=HM.out.next (by have:=HN.out.1;omega) j
      have p0:=tcell hB5 (k:=0) rfl
      have q0:=tfrozen hB5 (k:=0)
      obtain ⟨W5,hW5⟩ : ∃ W5,W5=w5.setCell ⟨w.heap.size+1,0,none⟩ (.slice a5 (n.length+1) c5):=⟨_,rfl⟩
      rw [← hW5] at hM5
      have HW5:=hid hW5
      have H5:=hid hM5
      obtain ⟨g1,o1,a1,c1,eg,e0,e1,e2,e3,_⟩:=(H.out.low H5.out.low).itemAt HY.out
      injection eg with eg
      injection eg with eg1 eg2
      subst eg1 eg2
      rw [hno] at d0
      rw [HW5.out] at e3
      by_cases h3 : y.mode=3
      ·have HB2 : Hid (BeH w (w5.setCell ⟨w.heap.size+1,0,none⟩ (.slice a5 (n.length+1) c5)) l st (j+1)):=⟨_,_,_,_,by rw [← HW5.out];exact H5.out,by rw [← behT_opt HY.out hno h3];exact HIS.out,by have:=HN.out.1;simp;omega,by have:=HN.out.2;omega⟩
       have b3 : (y.mode == 3)=true:=beq_iff_eq.2 h3
       clear hM5 hB5 hno h3 hW5 e0 e1 e2
       go_wp2_with (at_builtin;refine Lib.wpList_append_run _ rfl _ _ _ _ rfl _ _ rfl rfl _ _ hr5 ?_;clear hr5)
       exact ⟨⟨j+1,rfl,hlt,HB2⟩,by simp [RowKit.intOf];omega⟩
      ·have b3 : (y.mode == 3)=false:=beq_eq_false_iff_ne.2 h3
       have hst:=behT_one HY.out hno h3 n gg
       rw [HIS.out] at hst
       have hr:=(H5.out.still _ List.mem_cons_self)
       obtain ⟨hr1,hr2,hr3,hr4⟩:=hr
       have x0:=tcell H5.out.blk (k:=0) rfl
       have x1:=tcell H5.out.blk (k:=1) rfl
       have x2:=tcell H5.out.blk (k:=2) rfl
       have y0:=tcell hr1 (k:=0) rfl
       have y1:=tcell hr1 (k:=1) rfl
       have y2:=tcell hr1 (k:=2) rfl
       have z0:=tfrozen hr1 (k:=0)
       have z1:=tfrozen hr1 (k:=1)
       have z2:=tfrozen hr1 (k:=2)
       rw [HW5.out] at x0 x1 x2 y0 y1 y2 z0 z1 z2
       have HST:=hid hst
       have HR:=hid (And.intro hr3 hr4)
       clear hM5 hB5 hno h3 hW5 e0 e1 e2 hst hr1 hr2 hr3 hr4
       go_wp2_with (at_builtin;refine Lib.wpList_append_run _ rfl _ _ _ _ rfl _ _ rfl rfl _ _ hr5 ?_;clear hr5)
       (try simp only [Exit.inBlock,Exit.then])
       obtain ⟨u1,u2,u3,u4,eu1,eu2,eu3,eu4⟩:=(HW5.out ▸ H5.out).done (Nat.le_refl _) HR.out.1 HR.out.2 (((TFr.at (w:=w5.setCell ⟨w.heap.size+1,0,none⟩ (.slice a5 (n.length+1) c5)) w.heap.size 0 (.slice a5 (n.length+1) c5)).trans (TFr.at w.heap.size 1 (.slice ga gg.length gc))).trans (TFr.at w.heap.size 2 (.bool false)))
       refine bodyPost_ret (v:=.agg #[.slice a5 (n.length+1) c5,.slice ga gg.length gc,.bool false]) (by simp [results,Try.results23,go_sem,y0,y1,y2]) rfl ?_
       rw [HST.out]
       injection eu2 with eu5 eu6 eu7
       subst eu5 eu7
       rw [List.length_append,List.length_singleton] at eu1
       exact ⟨_,_,_,_,by rw [List.length_append,List.length_singleton],by rw [List.length_append,List.length_singleton];exact eu3,eu4⟩
   ·have hje : l.length≤j:=by rw [HQ.out];omega
    have hst:=behT_end hje n gg
    rw [HIS.out] at hst
    have h5:=HM.out.fin true
    obtain ⟨hr1,hr2,hr3,hr4⟩:=h5.still _ List.mem_cons_self
    have x0:=tcell h5.blk (k:=0) rfl
    have x1:=tcell h5.blk (k:=1) rfl
    have x2:=tcell h5.blk (k:=2) rfl
    have y0:=tcell hr1 (k:=0) rfl
    have y1:=tcell hr1 (k:=1) rfl
    have y2:=tcell hr1 (k:=2) rfl
    have z0:=tfrozen hr1 (k:=0)
    have z1:=tfrozen hr1 (k:=1)
    have z2:=tfrozen hr1 (k:=2)
    have H5:=hid h5
    have HST:=hid hst
    have HR:=hid (And.intro hr3 hr4)
    clear hje hst h5 hr1 hr2 hr3 hr4
    go_wp2
    obtain ⟨u1,u2,u3,u4,eu1,eu2,eu3,eu4⟩:=H5.out.done (Nat.le_refl _) HR.out.1 HR.out.2 (((TFr.at (w:=wr.setCell ⟨w.heap.size+1,2,none⟩ (.bool true)) w.heap.size 0 (.slice na n.length nc)).trans (TFr.at w.heap.size 1 (.slice ga gg.length gc))).trans (TFr.at w.heap.size 2 (.bool true)))
    refine bodyPost_ret (v:=.agg #[.slice na n.length nc,.slice ga gg.length gc,.bool true]) (by simp [results,Try.results23,go_sem,y0,y1,y2]) rfl ?_
    rw [HST.out]
    injection eu1 with eu5 eu6 eu7
    subst eu5 eu7
    injection eu2 with eu5 eu6 eu7
    subst eu5 eu7
    exact ⟨_,_,_,_,rfl,eu3,eu4⟩
 ·have hst1 : behT (l.drop (k+1)) (k+1) [] []=st:=by
   rw [← hst]
   unfold stAt
   rw [if_neg h2]
  have HM:=hid s0
  have HST:=hid hst1
  have t2 : (x.mode == 2)=false:=beq_eq_false_iff_ne.2 h2
  clear h hk hq hb1 hb2 hp2 hp3 d0 d1 d2 d3 hst hst1 s0 h2
  go_enter Try.func23,Try.ntmps23
  go_wp2_with fail
  have HS : Hid (BeH w ((w.alloc (.cells #[.slice none 0 0,.slice none 0 0,.bool false] 36)).alloc (.cells #[.slice none 0 0,.slice none 0 0,.bool false] 36)) l st (k+1)):=⟨_,_,_,_,HM.out,HST.out,by simp,by simp⟩
  clear HM HST t2 e3
  go_loopw [6] (fun i wr=>∃ j : Nat,i=.int .i64 j∧j≤q∧Hid (BeH w wr l st j)) (fun i _=>q - (RowKit.intOf i).toNat)
  case atStart=>exact ⟨k+1,by go_num,by omega,HS⟩
  case round =>
   obtain ⟨j,rfl,hj,HB⟩:=hrel
   obtain ⟨vn,vg,n,gg,hM,his,hn1,hn2⟩:=HB.out
   obtain ⟨na,nc,rfl⟩:=hM.nx.slice
   obtain ⟨ga,gc,rfl⟩:=hM.gd.slice
   have m0:=tcell hM.blk (k:=0) rfl
   have m1:=tcell hM.blk (k:=1) rfl
   have m2:=tcell hM.blk (k:=2) rfl
   have f0:=tfrozen hM.blk (k:=0)
   have f1:=tfrozen hM.blk (k:=1)
   have f2:=tfrozen hM.blk (k:=2)
   have HM:=hid hM
   have HIS:=hid his
   have HN:=hid (And.intro hn1 hn2)
   clear hM his hn1 hn2
   by_cases hlt : j < q
   ·obtain ⟨y,hy⟩ : ∃ y,l[j]?=some y:=⟨_,List.getElem?_eq_getElem (by rw [HQ.out];exact hlt)⟩
    obtain ⟨g1,o1,a1,c1,eg,d0,d1,d2,d3,_⟩:=(H.out.low HM.out.low).itemAt hy
    injection eg with eg
    injection eg with eg1 eg2
    subst eg1 eg2
    have HY:=hid hy
    have hw : IntKind.i64.wrap ((j : Int)+1)=((j+1 : Nat) : Int):=by rw [IntWalk.i64_in _ (by omega)];omega
    clear hy
    cases hno : y.no with
    | true =>
      obtain ⟨a5,c5,w5,hr5,hM5,hB5⟩:=HM.out.guard (by have:=HN.out.2;omega) j
      have HB2 : Hid (BeH w (w5.setCell ⟨w.heap.size+1,1,none⟩ (.slice a5 (gg.length+1) c5)) l st (j+1)):=⟨_,_,_,_,hM5,by rw [← behT_no HY.out hno];exact HIS.out,by have:=HN.out.1;omega,by have:=HN.out.2;simp;omega⟩
      have p1:=tcell hB5 (k:=1) rfl
      have q1:=tfrozen hB5 (k:=1)
      rw [hno] at d0
      clear hM5 hB5 hno
      go_wp2_with (at_builtin;refine Lib.wpList_append_run _ rfl _ _ _ _ rfl _ _ rfl rfl _ _ hr5 ?_;clear hr5)
      exact ⟨⟨j+1,rfl,hlt,HB2⟩,by simp [RowKit.intOf];omega⟩
    | false =>
      obtain ⟨a5,c5,w5,hr5,hM5,hB5⟩:=HM.out.next (by have:=HN.out.1;omega) j
      have p0:=tcell hB5 (k:=0) rfl
      have q0:=tfrozen hB5 (k:=0)
      obtain ⟨W5,hW5⟩ : ∃ W5,W5=w5.setCell ⟨w.heap.size+1,0,none⟩ (.slice a5 (n.length+1) c5):=⟨_,rfl⟩
      rw [← hW5] at hM5
      have HW5:=hid hW5
      have H5:=hid hM5
      obtain ⟨g1,o1,a1,c1,eg,e0,e1,e2,e3,_⟩:=(H.out.low H5.out.low).itemAt HY.out
      injection eg with eg
      injection eg with eg1 eg2
      subst eg1 eg2
      rw [hno] at d0
      rw [HW5.out] at e3
      by_cases h3 : y.mode=3
      ·have HB2 : Hid (BeH w (w5.setCell ⟨w.heap.size+1,0,none⟩ (.slice a5 (n.length+1) c5)) l st (j+1)):=⟨_,_,_,_,by rw [← HW5.out];exact H5.out,by rw [← behT_opt HY.out hno h3];exact HIS.out,by have:=HN.out.1;simp;omega,by have:=HN.out.2;omega⟩
       have b3 : (y.mode == 3)=true:=beq_iff_eq.2 h3
       clear hM5 hB5 hno h3 hW5 e0 e1 e2
       go_wp2_with (at_builtin;refine Lib.wpList_append_run _ rfl _ _ _ _ rfl _ _ rfl rfl _ _ hr5 ?_;clear hr5)
       exact ⟨⟨j+1,rfl,hlt,HB2⟩,by simp [RowKit.intOf];omega⟩
      ·have b3 : (y.mode == 3)=false:=beq_eq_false_iff_ne.2 h3
       have hst:=behT_one HY.out hno h3 n gg
       rw [HIS.out] at hst
       have hr:=(H5.out.still _ List.mem_cons_self)
       obtain ⟨hr1,hr2,hr3,hr4⟩:=hr
       have x0:=tcell H5.out.blk (k:=0) rfl
       have x1:=tcell H5.out.blk (k:=1) rfl
       have x2:=tcell H5.out.blk (k:=2) rfl
       have y0:=tcell hr1 (k:=0) rfl
       have y1:=tcell hr1 (k:=1) rfl
       have y2:=tcell hr1 (k:=2) rfl
       have z0:=tfrozen hr1 (k:=0)
       have z1:=tfrozen hr1 (k:=1)
       have z2:=tfrozen hr1 (k:=2)
       rw [HW5.out] at x0 x1 x2 y0 y1 y2 z0 z1 z2
       have HST:=hid hst
       have HR:=hid (And.intro hr3 hr4)
       clear hM5 hB5 hno h3 hW5 e0 e1 e2 hst hr1 hr2 hr3 hr4
       go_wp2_with (at_builtin;refine Lib.wpList_append_run _ rfl _ _ _ _ rfl _ _ rfl rfl _ _ hr5 ?_;clear hr5)
       (try simp only [Exit.inBlock,Exit.then])
       obtain ⟨u1,u2,u3,u4,eu1,eu2,eu3,eu4⟩:=(HW5.out ▸ H5.out).done (Nat.le_refl _) HR.out.1 HR.out.2 (((TFr.at (w:=w5.setCell ⟨w.heap.size+1,0,none⟩ (.slice a5 (n.length+1) c5)) w.heap.size 0 (.slice a5 (n.length+1) c5)).trans (TFr.at w.heap.size 1 (.slice ga gg.length gc))).trans (TFr.at w.heap.size 2 (.bool false)))
       refine bodyPost_ret (v:=.agg #[.slice a5 (n.length+1) c5,.slice ga gg.length gc,.bool false]) (by simp [results,Try.results23,go_sem,y0,y1,y2]) rfl ?_
       rw [HST.out]
       injection eu2 with eu5 eu6 eu7
       subst eu5 eu7
       rw [List.length_append,List.length_singleton] at eu1
       exact ⟨_,_,_,_,by rw [List.length_append,List.length_singleton],by rw [List.length_append,List.length_singleton];exact eu3,eu4⟩
   ·have hje : l.length≤j:=by rw [HQ.out];omega
    have hst:=behT_end hje n gg
    rw [HIS.out] at hst
    have h5:=HM.out.fin true
    obtain ⟨hr1,hr2,hr3,hr4⟩:=h5.still _ List.mem_cons_self
    have x0:=tcell h5.blk (k:=0) rfl
    have x1:=tcell h5.blk (k:=1) rfl
    have x2:=tcell h5.blk (k:=2) rfl
    have y0:=tcell hr1 (k:=0) rfl
    have y1:=tcell hr1 (k:=1) rfl
    have y2:=tcell hr1 (k:=2) rfl
    have z0:=tfrozen hr1 (k:=0)
    have z1:=tfrozen hr1 (k:=1)
    have z2:=tfrozen hr1 (k:=2)
    have H5:=hid h5
    have HST:=hid hst
    have HR:=hid (And.intro hr3 hr4)
    clear hje hst h5 hr1 hr2 hr3 hr4
    go_wp2
    obtain ⟨u1,u2,u3,u4,eu1,eu2,eu3,eu4⟩:=H5.out.done (Nat.le_refl _) HR.out.1 HR.out.2 (((TFr.at (w:=wr.setCell ⟨w.heap.size+1,2,none⟩ (.bool true)) w.heap.size 0 (.slice na n.length nc)).trans (TFr.at w.heap.size 1 (.slice ga gg.length gc))).trans (TFr.at w.heap.size 2 (.bool true)))
    refine bodyPost_ret (v:=.agg #[.slice na n.length nc,.slice ga gg.length gc,.bool true]) (by simp [results,Try.results23,go_sem,y0,y1,y2]) rfl ?_
    rw [HST.out]
    injection eu1 with eu5 eu6 eu7
    subst eu5 eu7
    injection eu2 with eu5 eu6 eu7
    subst eu5 eu7
    exact ⟨_,_,_,_,rfl,eu3,eu4⟩
end Go.Proofs.Ytefcbgnckgapgaa
namespace Go.Proofs.Ytefcbgnckgapgaa
open Go.RowKit Go.Lib Go.Op
theorem docT_end {l : List PIt} {j : Nat} (h : l.length≤j) (n g : List Nat) (f o : Bool) : docT (l.drop j) j n g f o=⟨n,g,f⟩:=by
 rw [List.drop_eq_nil_of_le h]
 rfl
theorem docT_at {l : List PIt} {j : Nat} {y : PIt} (h : l[j]?=some y) (n g : List Nat) (f o : Bool) : docT (l.drop j) j n g f o =
 (if o=false then docT (l.drop (j+1)) (j+1) n g (f && (y.no || decide (y.mode=3))) false
 else if y.no then docT (l.drop (j+1)) (j+1) n (g++[j]) (f && (y.no || decide (y.mode=3))) true
 else docT (l.drop (j+1)) (j+1) (n++[j]) g (f && (y.no || decide (y.mode=3))) (decide (y.mode=3))):=by
 rw [drop_at h,docT]
theorem num_one {K : Nat→Prop} {W : World} {g n : Nat} (h : Blk W g #[.int .i64 (n : Int)] 3) (hg : ¬ K g) : RowK numD K W (.slice (some ⟨g,0,none⟩) 1 1) [n]:=by
 refine ⟨some ⟨g,0,none⟩,1,rfl,Nat.le_refl _,fun j x hj=>?_⟩
 match j,hj with
 | 0,hj =>
   obtain rfl : n=x:=by simpa using hj
   refine ⟨g,0,[.int .i64 (n : Int)],rfl,hg,rfl,fun r u hu=>?_⟩
   match r,hu with
   | 0,hu =>
     obtain rfl : Value.int .i64 (n : Int)=u:=by simpa using hu
     exact tcell h rfl
   | r+1,hu=>simp at hu
 | j+1,hj=>simp at hj
def ReH (w wr : World) (rs : List (Nat × Array Value × TypeId)) (l : List PIt) (st : PSt) (j : Nat) (o : Bool) : Prop:=∃ vn vg n g f,StM rs w wr (w.heap.size+2) vn vg n g f∧docT (l.drop j) j n g f o=st∧n.length≤j∧g.length≤j
section
variable {K : Nat→Prop} {w : World} {a b : Option Addr} {q c r d : Nat} {wi pk : Int} {bs : ByteArray}
set_option maxHeartbeats 1000000 in
set_option maxRecDepth 100000 in
theorem nrstate_first : Calls Try.prog 24 #[.agg #[.slice a q c,.slice b r d,.int .i64 wi,.string bs,.int .i64 pk],.int .i64 (-1)] w (StTo st0 w):=by
 have hb1:=(Below.refl w.heap.size w).alloc (Nat.le_refl _) (.cells #[.slice a q c,.slice b r d,.int .i64 wi,.string bs,.int .i64 pk] 25)
 have hb2:=hb1.alloc hb1.size (.cells #[.slice (some ⟨w.heap.size+1+1,0,none⟩) 1 1,.slice none 0 0,.bool false] 36)
 have HB3:=hid (hb2.alloc hb2.size (.cells #[.int .i64 0] 3))
 have hi:=Blk.new ((w.alloc (.cells #[.slice a q c,.slice b r d,.int .i64 wi,.string bs,.int .i64 pk] 25)).alloc (.cells #[.slice (some ⟨w.heap.size+1+1,0,none⟩) 1 1,.slice none 0 0,.bool false] 36)) #[.int .i64 ((0 : Nat) : Int)] 3
 rw [show ((w.alloc (.cells #[.slice a q c,.slice b r d,.int .i64 wi,.string bs,.int .i64 pk] 25)).alloc (.cells #[.slice (some ⟨w.heap.size+1+1,0,none⟩) 1 1,.slice none 0 0,.bool false] 36)).heap.size=w.heap.size+1+1 by simp] at hi
 have HI:=hid hi
 clear hb1 hb2 hi
 go_enter Try.func24,Try.ntmps24
 go_wp2
 refine bodyPost_ret (v:=.agg #[.slice (some ⟨w.heap.size+1+1,0,none⟩) 1 1,.slice none 0 0,.bool false]) (by simp [results,Try.results24,go_sem]) rfl ?_
 exact ⟨_,_,_,_,rfl,⟨_,_,_,_,rfl,num_one HI.out (by show ¬ _ < _;omega),RowK.nil _ _ _⟩,HB3.out⟩
set_option maxHeartbeats 4000000 in
set_option maxRecDepth 100000 in
theorem nrstate_calls {l : List PIt} (h : RowK itemD K w (.slice a l.length c) l) (hl : l.length≤6) {k : Nat} {x : PIt} (hk : l[k]?=some x) (hq : q=l.length) : Calls Try.prog 24 #[.agg #[.slice a q c,.slice b r d,.int .i64 wi,.string bs,.int .i64 pk],.int .i64 k] w (StTo (stAt l k x) w):=by
 subst hq
 obtain ⟨g,o,a',c',rfl,d0,d1,d2,d3,_⟩:=h.itemAt hk
 have hkl:=(List.getElem?_eq_some_iff.1 hk).1
 have H:=hid h
 have HK:=hid hk
 obtain ⟨q,hq⟩ : ∃ q,l.length=q:=⟨_,rfl⟩
 have HQ:=hid hq
 rw [hq] at hl hkl ⊢
 obtain ⟨st,hst⟩ : ∃ st,stAt l k x=st:=⟨_,rfl⟩
 have hb1:=(Below.refl w.heap.size w).alloc (Nat.le_refl _) (.cells #[.slice (some ⟨g,o,none⟩) q c,.slice b r d,.int .i64 wi,.string bs,.int .i64 pk] 25)
 have hb2:=hb1.alloc hb1.size (.cells #[.slice none 0 0,.slice none 0 0,.bool false] 36)
 have hb3:=hb2.alloc hb2.size (.cells #[.slice none 0 0,.slice none 0 0,.bool true] 36)
 have e1 : (w.alloc (.cells #[.slice (some ⟨g,o,none⟩) q c,.slice b r d,.int .i64 wi,.string bs,.int .i64 pk] 25)).heap.size=w.heap.size+1:=by simp
 have e2 : ((w.alloc (.cells #[.slice (some ⟨g,o,none⟩) q c,.slice b r d,.int .i64 wi,.string bs,.int .i64 pk] 25)).alloc (.cells #[.slice none 0 0,.slice none 0 0,.bool false] 36)).heap.size=w.heap.size+2:=by simp
 have hx:=((Blk.new w #[.slice (some ⟨g,o,none⟩) q c,.slice b r d,.int .i64 wi,.string bs,.int .i64 pk] 25).low ((Below.refl _ _).alloc (Nat.le_refl _) (.cells #[.slice none 0 0,.slice none 0 0,.bool false] 36))).low ((Below.refl _ _).alloc (Nat.le_refl _) (.cells #[.slice none 0 0,.slice none 0 0,.bool true] 36))
 have hr:=(Blk.new (w.alloc (.cells #[.slice (some ⟨g,o,none⟩) q c,.slice b r d,.int .i64 wi,.string bs,.int .i64 pk] 25)) #[.slice none 0 0,.slice none 0 0,.bool false] 36).low ((Below.refl _ _).alloc (Nat.le_refl _) (.cells #[.slice none 0 0,.slice none 0 0,.bool true] 36))
 have hs:=Blk.new ((w.alloc (.cells #[.slice (some ⟨g,o,none⟩) q c,.slice b r d,.int .i64 wi,.string bs,.int .i64 pk] 25)).alloc (.cells #[.slice none 0 0,.slice none 0 0,.bool false] 36)) #[.slice none 0 0,.slice none 0 0,.bool true] 36
 rw [e1] at hr
 rw [e2] at hs
 have e3:=tkeep hb3 d3
 obtain ⟨RS,hRS⟩ : ∃ RS : List (Nat × Array Value × TypeId),RS=[(w.heap.size,#[.slice (some ⟨g,o,none⟩) q c,.slice b r d,.int .i64 wi,.string bs,.int .i64 pk],25),(w.heap.size+1,#[.slice none 0 0,.slice none 0 0,.bool false],36)]:=⟨_,rfl⟩
 have s0 : StM RS w (((w.alloc (.cells #[.slice (some ⟨g,o,none⟩) q c,.slice b r d,.int .i64 wi,.string bs,.int .i64 pk] 25)).alloc (.cells #[.slice none 0 0,.slice none 0 0,.bool false] 36)).alloc (.cells #[.slice none 0 0,.slice none 0 0,.bool true] 36)) (w.heap.size+2) (.slice none 0 0) (.slice none 0 0) [] [] true:=⟨hb3,hs,by omega,OwnI.nil _ _,OwnI.nil _ _,by simp [Value.ownBlock],by simp [Value.ownBlock],fun b hb=>by simp [Value.ownBlock] at hb,fun r hr'=>by
  rw [hRS] at hr'
  rcases List.mem_cons.1 hr' with rfl|hr'
  ·exact ⟨hx,by dsimp only;omega,by simp [Value.ownBlock],by simp [Value.ownBlock]⟩
  ·obtain rfl:=List.mem_singleton.1 hr'
   exact ⟨hr,by dsimp only;omega,by simp [Value.ownBlock],by simp [Value.ownBlock]⟩⟩
 have HRS : Hid ((w.heap.size,#[.slice (some ⟨g,o,none⟩) q c,.slice b r d,.int .i64 wi,.string bs,.int .i64 pk],25)∈RS∧(w.heap.size+1,#[.slice none 0 0,.slice none 0 0,.bool false],36)∈RS):=by rw [hRS];exact ⟨List.mem_cons_self,List.mem_cons_of_mem _ List.mem_cons_self⟩
 clear hRS
 rw [hst]
 have HW : IntKind.i64.wrap ((k : Int)+1)=((k+1 : Nat) : Int):=by rw [IntWalk.i64_in _ (by omega)];omega
 have hk0 : decide ((k : Int) < 0)=false:=decide_eq_false (by omega)
 have n0:=tcell hx (k:=0) rfl
 by_cases h2 : x.mode=2
 ·have hst1 : docT (l.drop (k+1)) (k+1) [k] [] true true=st:=by
   rw [← hst,docT_open]
   unfold stAt
   rw [if_pos h2]
  obtain ⟨a9,c9,w9,hr9,hM9,hB9⟩:=s0.next (by simp) k
  have hsz : (((w.alloc (.cells #[.slice (some ⟨g,o,none⟩) q c,.slice b r d,.int .i64 wi,.string bs,.int .i64 pk] 25)).alloc (.cells #[.slice none 0 0,.slice none 0 0,.bool false] 36)).alloc (.cells #[.slice none 0 0,.slice none 0 0,.bool true] 36)).heap.size=w.heap.size+1+1+1:=by simp
  rw [hsz] at hr9
  have HM:=hid hM9
  have HST:=hid hst1
  have t2 : (x.mode == 2)=true:=beq_iff_eq.2 h2
  have m0:=tcell hB9 (k:=0) rfl
  have f0:=tfrozen hB9 (k:=0)
  have s0c:=tcell s0.blk (k:=0) rfl
  clear h hk hq hb1 hb2 hb3 hx hr hs e1 e2 d0 d1 d2 d3 hst hst1 s0 hM9 hB9 h2 hsz
  go_enter Try.func24,Try.ntmps24
  go_wp2_with (at_builtin;refine Lib.wpList_append_run _ rfl _ _ _ _ rfl _ _ rfl rfl _ _ hr9 ?_;clear hr9)
  have HS : Hid (ReH w (w9.setCell ⟨w.heap.size+2,0,none⟩ (.slice a9 1 c9)) RS l st (k+1) true):=⟨_,_,_,_,_,HM.out,HST.out,by simp,by simp⟩
  clear m0 f0 HM HST t2 e3 n0 s0c hk0
  go_loopw [6,7] (fun o i wr=>∃ (j : Nat) (ob : Bool),o=.bool ob∧i=.int .i64 j∧j≤q∧Hid (ReH w wr RS l st j ob)) (fun _ i _=>q - (RowKit.intOf i).toNat)
  case atStart=>exact ⟨k+1,true,rfl,by go_num,by omega,HS⟩
  case round =>
   obtain ⟨j,ob,rfl,rfl,hj,HB⟩:=hrel
   obtain ⟨vn,vg,n,gg,fb,hM,his,hn1,hn2⟩:=HB.out
   obtain ⟨na,nc,rfl⟩:=hM.nx.slice
   obtain ⟨ga,gc,rfl⟩:=hM.gd.slice
   have hsl:=hM.lt
   have n0:=tcell (hM.still _ HRS.out.1).1 (k:=0) rfl
   have HN:=hid (And.intro hn1 hn2)
   by_cases hlt : j < q
   ·obtain ⟨y,hy⟩ : ∃ y,l[j]?=some y:=⟨_,List.getElem?_eq_getElem (by rw [HQ.out];exact hlt)⟩
    obtain ⟨g1,o1,a1,c1,eg,d0,d1,d2,d3,_⟩:=(H.out.low hM.low).itemAt hy
    injection eg with eg
    injection eg with eg1 eg2
    subst eg1 eg2
    have HY:=hid hy
    rw [docT_at hy] at his
    have hw : IntKind.i64.wrap ((j : Int)+1)=((j+1 : Nat) : Int):=by rw [IntWalk.i64_in _ (by omega)];omega
    clear hy
    cases ob
    case false =>
     cases hno : y.no with
     | true =>
       have h3 : True:=trivial
       rw [hno] at d0
       have hM5:=hM.more #[.bool true,.slice a1 y.ns.length c1,.string (strB y.x),.int .i64 y.mode] 38
       have HM5:=hid hM5
       have b0:=tcell hM5.blk (k:=0) rfl
       have b1:=tcell hM5.blk (k:=1) rfl
       have HB2 : Hid (ReH w (wr.alloc (.cells #[.bool true,.slice a1 y.ns.length c1,.string (strB y.x),.int .i64 y.mode] 38)) RS l st (j+1) false):=⟨_,_,_,_,_,HM5.out.less,by simpa [hno,h3] using his,by have:=HN.out.1;omega,by have:=HN.out.2;omega⟩
       clear hM hM5 his hn1 hn2 HB HS
       go_wp2_with fail
       exact ⟨⟨j+1,false,rfl,rfl,hlt,HB2⟩,by simp [RowKit.intOf];omega⟩
     | false =>
       rw [hno] at d0
       by_cases h3 : y.mode=3
       ·rw [h3] at d3
        have hM5:=hM.more #[.bool false,.slice a1 y.ns.length c1,.string (strB y.x),.int .i64 3] 38
        have HM5:=hid hM5
        have b0:=tcell hM5.blk (k:=0) rfl
        have b1:=tcell hM5.blk (k:=1) rfl
        have HB2 : Hid (ReH w (wr.alloc (.cells #[.bool false,.slice a1 y.ns.length c1,.string (strB y.x),.int .i64 3] 38)) RS l st (j+1) false):=⟨_,_,_,_,_,HM5.out.less,by simpa [hno,h3] using his,by have:=HN.out.1;omega,by have:=HN.out.2;omega⟩
        clear hM hM5 his hn1 hn2 HB HS
        go_wp2_with fail
        exact ⟨⟨j+1,false,rfl,rfl,hlt,HB2⟩,by simp [RowKit.intOf];omega⟩
       ·have t3 : (y.mode == 3)=false:=beq_eq_false_iff_ne.2 h3
        have hM5:=(hM.fin false).more #[.bool false,.slice a1 y.ns.length c1,.string (strB y.x),.int .i64 y.mode] 38
        rw [show (wr.setCell ⟨w.heap.size+2,2,none⟩ (.bool false)).heap.size=wr.heap.size by simp] at hM5
        have c2:=tcell hM.blk (k:=2) rfl
        have cf2:=tfrozen hM.blk (k:=2)
        have HM5:=hid hM5
        have b0:=tcell hM5.blk (k:=0) rfl
        have b1:=tcell hM5.blk (k:=1) rfl
        have HB2 : Hid (ReH w ((wr.setCell ⟨w.heap.size+2,2,none⟩ (.bool false)).alloc (.cells #[.bool false,.slice a1 y.ns.length c1,.string (strB y.x),.int .i64 y.mode] 38)) RS l st (j+1) false):=⟨_,_,_,_,_,HM5.out.less,by simpa [hno,h3] using his,by have:=HN.out.1;omega,by have:=HN.out.2;omega⟩
        clear hM hM5 his hn1 hn2 HB HS
        go_wp2_with fail
        exact ⟨⟨j+1,false,rfl,rfl,hlt,HB2⟩,by simp [RowKit.intOf];omega⟩
    case true =>
     cases hno : y.no with
     | true =>
       have h3 : True:=trivial
       rw [hno] at d0
       have hM5:=hM.more #[.bool true,.slice a1 y.ns.length c1,.string (strB y.x),.int .i64 y.mode] 38
       have HM5:=hid hM5
       have b0:=tcell hM5.blk (k:=0) rfl
       have b1:=tcell hM5.blk (k:=1) rfl
       obtain ⟨a5,c5,w5,hr5,hM6,hB5⟩:=HM5.out.guard (by have:=HN.out.2;omega) j
       rw [show (wr.alloc (.cells #[.bool true,.slice a1 y.ns.length c1,.string (strB y.x),.int .i64 y.mode] 38)).heap.size=wr.heap.size+1 by simp] at hr5
       have HB2 : Hid (ReH w (w5.setCell ⟨w.heap.size+2,1,none⟩ (.slice a5 (gg.length+1) c5)) RS l st (j+1) true):=⟨_,_,_,_,_,hM6.less,by simpa [hno,h3] using his,by have:=HN.out.1;simp;omega,by have:=HN.out.2;simp;omega⟩
       have p0:=tcell hB5 (k:=1) rfl
       have q0:=tfrozen hB5 (k:=1)
       clear hM hM5 his hn1 hn2 HB HS hM6 hB5
       go_wp2_with (at_builtin;refine Lib.wpList_append_run _ rfl _ _ _ _ rfl _ _ rfl rfl _ _ hr5 ?_;clear hr5)
       exact ⟨⟨j+1,true,rfl,rfl,hlt,HB2⟩,by simp [RowKit.intOf];omega⟩
     | false =>
       rw [hno] at d0
       by_cases h3 : y.mode=3
       ·rw [h3] at d3
        have hM5:=hM.more #[.bool false,.slice a1 y.ns.length c1,.string (strB y.x),.int .i64 3] 38
        have HM5:=hid hM5
        have b0:=tcell hM5.blk (k:=0) rfl
        have b1:=tcell hM5.blk (k:=1) rfl
        obtain ⟨a5,c5,w5,hr5,hM6,hB5⟩:=HM5.out.next (by have:=HN.out.1;omega) j
        rw [show (wr.alloc (.cells #[.bool false,.slice a1 y.ns.length c1,.string (strB y.x),.int .i64 3] 38)).heap.size=wr.heap.size+1 by simp] at hr5
        have HB2 : Hid (ReH w (w5.setCell ⟨w.heap.size+2,0,none⟩ (.slice a5 (n.length+1) c5)) RS l st (j+1) true):=⟨_,_,_,_,_,hM6.less,by simpa [hno,h3] using his,by have:=HN.out.1;simp;omega,by have:=HN.out.2;simp;omega⟩
        have p0:=tcell hB5 (k:=0) rfl
        have q0:=tfrozen hB5 (k:=0)
        have xk:=tcell (hM6.still _ List.mem_cons_self).1 (k:=3) rfl
        clear hM hM5 his hn1 hn2 HB HS hM6 hB5
        go_wp2_with (at_builtin;refine Lib.wpList_append_run _ rfl _ _ _ _ rfl _ _ rfl rfl _ _ hr5 ?_;clear hr5)
        exact ⟨⟨j+1,true,rfl,rfl,hlt,HB2⟩,by simp [RowKit.intOf];omega⟩
       ·have t3 : (y.mode == 3)=false:=beq_eq_false_iff_ne.2 h3
        have hM5:=(hM.fin false).more #[.bool false,.slice a1 y.ns.length c1,.string (strB y.x),.int .i64 y.mode] 38
        rw [show (wr.setCell ⟨w.heap.size+2,2,none⟩ (.bool false)).heap.size=wr.heap.size by simp] at hM5
        have c2:=tcell hM.blk (k:=2) rfl
        have cf2:=tfrozen hM.blk (k:=2)
        have HM5:=hid hM5
        have b0:=tcell hM5.blk (k:=0) rfl
        have b1:=tcell hM5.blk (k:=1) rfl
        obtain ⟨a5,c5,w5,hr5,hM6,hB5⟩:=HM5.out.next (by have:=HN.out.1;omega) j
        rw [show ((wr.setCell ⟨w.heap.size+2,2,none⟩ (.bool false)).alloc (.cells #[.bool false,.slice a1 y.ns.length c1,.string (strB y.x),.int .i64 y.mode] 38)).heap.size=wr.heap.size+1 by simp] at hr5
        have HB2 : Hid (ReH w (w5.setCell ⟨w.heap.size+2,0,none⟩ (.slice a5 (n.length+1) c5)) RS l st (j+1) false):=⟨_,_,_,_,_,hM6.less,by simpa [hno,h3] using his,by have:=HN.out.1;simp;omega,by have:=HN.out.2;simp;omega⟩
        have p0:=tcell hB5 (k:=0) rfl
        have q0:=tfrozen hB5 (k:=0)
        have xk:=tcell (hM6.still _ List.mem_cons_self).1 (k:=3) rfl
        clear hM hM5 his hn1 hn2 HB HS hM6 hB5
        go_wp2_with (at_builtin;refine Lib.wpList_append_run _ rfl _ _ _ _ rfl _ _ rfl rfl _ _ hr5 ?_;clear hr5)
        exact ⟨⟨j+1,false,rfl,rfl,hlt,HB2⟩,by simp [RowKit.intOf];omega⟩
   ·have hje : l.length≤j:=by rw [HQ.out];omega
    rw [docT_end hje] at his
    obtain ⟨hr1,hr2,hr3,hr4⟩:=hM.still _ HRS.out.2
    have x0:=tcell hM.blk (k:=0) rfl
    have x1:=tcell hM.blk (k:=1) rfl
    have x2:=tcell hM.blk (k:=2) rfl
    have y0:=tcell hr1 (k:=0) rfl
    have y1:=tcell hr1 (k:=1) rfl
    have y2:=tcell hr1 (k:=2) rfl
    have z0:=tfrozen hr1 (k:=0)
    have z1:=tfrozen hr1 (k:=1)
    have z2:=tfrozen hr1 (k:=2)
    have H5:=hid hM
    have HST:=hid his
    have HR:=hid (And.intro hr3 hr4)
    clear hje his hM hr1 hr2 hr3 hr4 HB HS
    go_wp2
    obtain ⟨u1,u2,u3,u4,eu1,eu2,eu3,eu4⟩:=H5.out.done (r:=w.heap.size+1) (by omega) HR.out.1 HR.out.2 (((TFr.at (w:=wr) (w.heap.size+1) 0 (.slice na n.length nc)).trans (TFr.at (w.heap.size+1) 1 (.slice ga gg.length gc))).trans (TFr.at (w.heap.size+1) 2 (.bool fb)))
    refine bodyPost_ret (v:=.agg #[.slice na n.length nc,.slice ga gg.length gc,.bool fb]) (by simp [results,Try.results24,go_sem,y0,y1,y2]) rfl ?_
    rw [← HST.out]
    injection eu1 with eu5 eu6 eu7
    subst eu5 eu7
    injection eu2 with eu5 eu6 eu7
    subst eu5 eu7
    exact ⟨_,_,_,_,rfl,eu3,eu4⟩
 ·have hst1 : docT (l.drop (k+1)) (k+1) [] [] true true=st:=by
   rw [← hst,docT_open]
   unfold stAt
   rw [if_neg h2]
  have HM:=hid s0
  have HST:=hid hst1
  have t2 : (x.mode == 2)=false:=beq_eq_false_iff_ne.2 h2
  clear h hk hq hb1 hb2 hb3 hx hr hs e1 e2 d0 d1 d2 d3 hst hst1 s0 h2
  go_enter Try.func24,Try.ntmps24
  go_wp2_with fail
  have HS : Hid (ReH w (((w.alloc (.cells #[.slice (some ⟨g,o,none⟩) q c,.slice b r d,.int .i64 wi,.string bs,.int .i64 pk] 25)).alloc (.cells #[.slice none 0 0,.slice none 0 0,.bool false] 36)).alloc (.cells #[.slice none 0 0,.slice none 0 0,.bool true] 36)) RS l st (k+1) true):=⟨_,_,_,_,_,HM.out,HST.out,by simp,by simp⟩
  clear HM HST t2 e3 n0 hk0
  go_loopw [6,7] (fun o i wr=>∃ (j : Nat) (ob : Bool),o=.bool ob∧i=.int .i64 j∧j≤q∧Hid (ReH w wr RS l st j ob)) (fun _ i _=>q - (RowKit.intOf i).toNat)
  case atStart=>exact ⟨k+1,true,rfl,by go_num,by omega,HS⟩
  case round =>
   obtain ⟨j,ob,rfl,rfl,hj,HB⟩:=hrel
   obtain ⟨vn,vg,n,gg,fb,hM,his,hn1,hn2⟩:=HB.out
   obtain ⟨na,nc,rfl⟩:=hM.nx.slice
   obtain ⟨ga,gc,rfl⟩:=hM.gd.slice
   have hsl:=hM.lt
   have n0:=tcell (hM.still _ HRS.out.1).1 (k:=0) rfl
   have HN:=hid (And.intro hn1 hn2)
   by_cases hlt : j < q
   ·obtain ⟨y,hy⟩ : ∃ y,l[j]?=some y:=⟨_,List.getElem?_eq_getElem (by rw [HQ.out];exact hlt)⟩
    obtain ⟨g1,o1,a1,c1,eg,d0,d1,d2,d3,_⟩:=(H.out.low hM.low).itemAt hy
    injection eg with eg
    injection eg with eg1 eg2
    subst eg1 eg2
    have HY:=hid hy
    rw [docT_at hy] at his
    have hw : IntKind.i64.wrap ((j : Int)+1)=((j+1 : Nat) : Int):=by rw [IntWalk.i64_in _ (by omega)];omega
    clear hy
    cases ob
    case false =>
     cases hno : y.no with
     | true =>
       have h3 : True:=trivial
       rw [hno] at d0
       have hM5:=hM.more #[.bool true,.slice a1 y.ns.length c1,.string (strB y.x),.int .i64 y.mode] 38
       have HM5:=hid hM5
       have b0:=tcell hM5.blk (k:=0) rfl
       have b1:=tcell hM5.blk (k:=1) rfl
       have HB2 : Hid (ReH w (wr.alloc (.cells #[.bool true,.slice a1 y.ns.length c1,.string (strB y.x),.int .i64 y.mode] 38)) RS l st (j+1) false):=⟨_,_,_,_,_,HM5.out.less,by simpa [hno,h3] using his,by have:=HN.out.1;omega,by have:=HN.out.2;omega⟩
       clear hM hM5 his hn1 hn2 HB HS
       go_wp2_with fail
       exact ⟨⟨j+1,false,rfl,rfl,hlt,HB2⟩,by simp [RowKit.intOf];omega⟩
     | false =>
       rw [hno] at d0
       by_cases h3 : y.mode=3
       ·rw [h3] at d3
        have hM5:=hM.more #[.bool false,.slice a1 y.ns.length c1,.string (strB y.x),.int .i64 3] 38
        have HM5:=hid hM5
        have b0:=tcell hM5.blk (k:=0) rfl
        have b1:=tcell hM5.blk (k:=1) rfl
        have HB2 : Hid (ReH w (wr.alloc (.cells #[.bool false,.slice a1 y.ns.length c1,.string (strB y.x),.int .i64 3] 38)) RS l st (j+1) false):=⟨_,_,_,_,_,HM5.out.less,by simpa [hno,h3] using his,by have:=HN.out.1;omega,by have:=HN.out.2;omega⟩
        clear hM hM5 his hn1 hn2 HB HS
        go_wp2_with fail
        exact ⟨⟨j+1,false,rfl,rfl,hlt,HB2⟩,by simp [RowKit.intOf];omega⟩
       ·have t3 : (y.mode == 3)=false:=beq_eq_false_iff_ne.2 h3
        have hM5:=(hM.fin false).more #[.bool false,.slice a1 y.ns.length c1,.string (strB y.x),.int .i64 y.mode] 38
        rw [show (wr.setCell ⟨w.heap.size+2,2,none⟩ (.bool false)).heap.size=wr.heap.size by simp] at hM5
        have c2:=tcell hM.blk (k:=2) rfl
        have cf2:=tfrozen hM.blk (k:=2)
        have HM5:=hid hM5
        have b0:=tcell hM5.blk (k:=0) rfl
        have b1:=tcell hM5.blk (k:=1) rfl
        have HB2 : Hid (ReH w ((wr.setCell ⟨w.heap.size+2,2,none⟩ (.bool false)).alloc (.cells #[.bool false,.slice a1 y.ns.length c1,.string (strB y.x),.int .i64 y.mode] 38)) RS l st (j+1) false):=⟨_,_,_,_,_,HM5.out.less,by simpa [hno,h3] using his,by have:=HN.out.1;omega,by have:=HN.out.2;omega⟩
        clear hM hM5 his hn1 hn2 HB HS
        go_wp2_with fail
        exact ⟨⟨j+1,false,rfl,rfl,hlt,HB2⟩,by simp [RowKit.intOf];omega⟩
    case true =>
     cases hno : y.no with
     | true =>
       have h3 : True:=trivial
       rw [hno] at d0
       have hM5:=hM.more #[.bool true,.slice a1 y.ns.length c1,.string (strB y.x),.int .i64 y.mode] 38
       have HM5:=hid hM5
       have b0:=tcell hM5.blk (k:=0) rfl
       have b1:=tcell hM5.blk (k:=1) rfl
       obtain ⟨a5,c5,w5,hr5,hM6,hB5⟩:=HM5.out.guard (by have:=HN.out.2;omega) j
       rw [show (wr.alloc (.cells #[.bool true,.slice a1 y.ns.length c1,.string (strB y.x),.int .i64 y.mode] 38)).heap.size=wr.heap.size+1 by simp] at hr5
       have HB2 : Hid (ReH w (w5.setCell ⟨w.heap.size+2,1,none⟩ (.slice a5 (gg.length+1) c5)) RS l st (j+1) true):=⟨_,_,_,_,_,hM6.less,by simpa [hno,h3] using his,by have:=HN.out.1;simp;omega,by have:=HN.out.2;simp;omega⟩
       have p0:=tcell hB5 (k:=1) rfl
       have q0:=tfrozen hB5 (k:=1)
       clear hM hM5 his hn1 hn2 HB HS hM6 hB5
       go_wp2_with (at_builtin;refine Lib.wpList_append_run _ rfl _ _ _ _ rfl _ _ rfl rfl _ _ hr5 ?_;clear hr5)
       exact ⟨⟨j+1,true,rfl,rfl,hlt,HB2⟩,by simp [RowKit.intOf];omega⟩
     | false =>
       rw [hno] at d0
       by_cases h3 : y.mode=3
       ·rw [h3] at d3
        have hM5:=hM.more #[.bool false,.slice a1 y.ns.length c1,.string (strB y.x),.int .i64 3] 38
        have HM5:=hid hM5
        have b0:=tcell hM5.blk (k:=0) rfl
        have b1:=tcell hM5.blk (k:=1) rfl
        obtain ⟨a5,c5,w5,hr5,hM6,hB5⟩:=HM5.out.next (by have:=HN.out.1;omega) j
        rw [show (wr.alloc (.cells #[.bool false,.slice a1 y.ns.length c1,.string (strB y.x),.int .i64 3] 38)).heap.size=wr.heap.size+1 by simp] at hr5
        have HB2 : Hid (ReH w (w5.setCell ⟨w.heap.size+2,0,none⟩ (.slice a5 (n.length+1) c5)) RS l st (j+1) true):=⟨_,_,_,_,_,hM6.less,by simpa [hno,h3] using his,by have:=HN.out.1;simp;omega,by have:=HN.out.2;simp;omega⟩
        have p0:=tcell hB5 (k:=0) rfl
        have q0:=tfrozen hB5 (k:=0)
        have xk:=tcell (hM6.still _ List.mem_cons_self).1 (k:=3) rfl
        clear hM hM5 his hn1 hn2 HB HS hM6 hB5
        go_wp2_with (at_builtin;refine Lib.wpList_append_run _ rfl _ _ _ _ rfl _ _ rfl rfl _ _ hr5 ?_;clear hr5)
        exact ⟨⟨j+1,true,rfl,rfl,hlt,HB2⟩,by simp [RowKit.intOf];omega⟩
       ·have t3 : (y.mode == 3)=false:=beq_eq_false_iff_ne.2 h3
        have hM5:=(hM.fin false).more #[.bool false,.slice a1 y.ns.length c1,.string (strB y.x),.int .i64 y.mode] 38
        rw [show (wr.setCell ⟨w.heap.size+2,2,none⟩ (.bool false)).heap.size=wr.heap.size by simp] at hM5
        have c2:=tcell hM.blk (k:=2) rfl
        have cf2:=tfrozen hM.blk (k:=2)
        have HM5:=hid hM5
        have b0:=tcell hM5.blk (k:=0) rfl
        have b1:=tcell hM5.blk (k:=1) rfl
        obtain ⟨a5,c5,w5,hr5,hM6,hB5⟩:=HM5.out.next (by have:=HN.out.1;omega) j
        rw [show ((wr.setCell ⟨w.heap.size+2,2,none⟩ (.bool false)).alloc (.cells #[.bool false,.slice a1 y.ns.length c1,.string (strB y.x),.int .i64 y.mode] 38)).heap.size=wr.heap.size+1 by simp] at hr5
        have HB2 : Hid (ReH w (w5.setCell ⟨w.heap.size+2,0,none⟩ (.slice a5 (n.length+1) c5)) RS l st (j+1) false):=⟨_,_,_,_,_,hM6.less,by simpa [hno,h3] using his,by have:=HN.out.1;simp;omega,by have:=HN.out.2;simp;omega⟩
        have p0:=tcell hB5 (k:=0) rfl
        have q0:=tfrozen hB5 (k:=0)
        have xk:=tcell (hM6.still _ List.mem_cons_self).1 (k:=3) rfl
        clear hM hM5 his hn1 hn2 HB HS hM6 hB5
        go_wp2_with (at_builtin;refine Lib.wpList_append_run _ rfl _ _ _ _ rfl _ _ rfl rfl _ _ hr5 ?_;clear hr5)
        exact ⟨⟨j+1,false,rfl,rfl,hlt,HB2⟩,by simp [RowKit.intOf];omega⟩
   ·have hje : l.length≤j:=by rw [HQ.out];omega
    rw [docT_end hje] at his
    obtain ⟨hr1,hr2,hr3,hr4⟩:=hM.still _ HRS.out.2
    have x0:=tcell hM.blk (k:=0) rfl
    have x1:=tcell hM.blk (k:=1) rfl
    have x2:=tcell hM.blk (k:=2) rfl
    have y0:=tcell hr1 (k:=0) rfl
    have y1:=tcell hr1 (k:=1) rfl
    have y2:=tcell hr1 (k:=2) rfl
    have z0:=tfrozen hr1 (k:=0)
    have z1:=tfrozen hr1 (k:=1)
    have z2:=tfrozen hr1 (k:=2)
    have H5:=hid hM
    have HST:=hid his
    have HR:=hid (And.intro hr3 hr4)
    clear hje his hM hr1 hr2 hr3 hr4 HB HS
    go_wp2
    obtain ⟨u1,u2,u3,u4,eu1,eu2,eu3,eu4⟩:=H5.out.done (r:=w.heap.size+1) (by omega) HR.out.1 HR.out.2 (((TFr.at (w:=wr) (w.heap.size+1) 0 (.slice na n.length nc)).trans (TFr.at (w.heap.size+1) 1 (.slice ga gg.length gc))).trans (TFr.at (w.heap.size+1) 2 (.bool fb)))
    refine bodyPost_ret (v:=.agg #[.slice na n.length nc,.slice ga gg.length gc,.bool fb]) (by simp [results,Try.results24,go_sem,y0,y1,y2]) rfl ?_
    rw [← HST.out]
    injection eu1 with eu5 eu6 eu7
    subst eu5 eu7
    injection eu2 with eu5 eu6 eu7
    subst eu5 eu7
    exact ⟨_,_,_,_,rfl,eu3,eu4⟩
end
end Go.Proofs.Ytefcbgnckgapgaa
