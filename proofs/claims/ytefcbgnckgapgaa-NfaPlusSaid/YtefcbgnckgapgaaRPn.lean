/- Rows of names of one's own; a query with one item more. -/
import Derived.Test.YtefcbgnckgapgaaMJ
namespace Go.Proofs.Ytefcbgnckgapgaa
open Go.RowKit Go.Lib Go.Op
def strsV (l : List (List UInt8)) : List Value:=l.map (fun n=>Value.string (strB n))
def OwnS (w : World) (B : Nat) (v : Value) (l : List (List UInt8)) : Prop:=w.ownsRow B 9 1 v l.length (strsV l)
section
variable {w w' : World} {B : Nat} {v : Value} {l : List (List UInt8)}
theorem OwnS.empty {g : Nat} (hg : B≤g) (h : w.heap[g]?=some (.cells #[] 9 (0,0))) : OwnS w B (.slice (some ⟨g,0,none⟩) 0 0) [] :=
 ⟨rfl,.inr ⟨g,0,#[],rfl,hg,h,Nat.le_refl _,Nat.zero_le _,rfl,rfl⟩⟩
theorem OwnS.slice (h : OwnS w B v l) : ∃ a c,v=.slice a l.length c:=by
 rcases h.2 with ⟨rfl,h0⟩|⟨g,cap,cur,rfl,_⟩
 ·exact ⟨none,0,by rw [h0]⟩
 ·exact ⟨_,cap,rfl⟩
theorem OwnS.own (h : OwnS w B v l) : ∀ g,v.ownBlock=some g→B≤g∧g < w.heap.size:=by
 intro g hg
 rcases h.2 with ⟨rfl,h0⟩|⟨g',cap,cur,rfl,hb,hh,_⟩
 ·cases hg
 ·obtain rfl : g'=g:=Option.some.inj hg
  exact ⟨hb,(Array.getElem?_eq_some_iff.1 hh).1⟩
theorem OwnS.blk (h : OwnS w B v l) (hb : ∀ g,v.ownBlock=some g→w'.heap[g]?=w.heap[g]?) : OwnS w' B v l:=ownsRow_blk h hb
theorem OwnS.row (h : OwnS w B v l) : RowK nameD (fun _=>False) w v l:=by
 rcases h.2 with ⟨rfl,h0⟩|⟨g,cap,cur,rfl,hb,hh,hn,hc,hs,ht⟩
 ·have : l=[]:=List.eq_nil_of_length_eq_zero h0
  subst this
  exact RowK.nil _ _ _
 ·refine ⟨_,cap,rfl,hn,fun j x hj=>⟨g,0,[.string (strB x)],rfl,fun h=>h,rfl,fun r u hu=>?_⟩⟩
  match r,hu with
  | 0,hu =>
    obtain rfl : Value.string (strB x)=u:=by simpa using hu
    rw [cell_of_row w g _ cur 9 (0,0) hh]
    have e : (strsV l)[j]?=some (.string (strB x)):=by simp [strsV,hj]
    rw [← ht,List.getElem?_take] at e
    split at e
    ·show cur[0+j*1+0]?=_
     rw [← Array.getElem?_toList,show 0+j*1+0=j by omega]
     exact e
    ·cases e
  | r+1,hu=>simp at hu
theorem OwnS.append (h : OwnS w B v l) (hB : B≤w.heap.size) (hl : l.length≤100000) {l2 : List (List UInt8)} (hl2 : l2.length≤100000) {A : Addr} {c : Nat} (hc : ∀ i x,l2[i]?=some x→w.cell? (A.add i)=some (.string (strB x))) :
 ∃ v' w',(Builtin.append_ #[26,26] 26 #[v,.slice (some A) l2.length c]).run Try.prog w=.ok v' w'∧OwnS w' B v' (l++l2)∧w.grownBy w' v.ownBlock:=by
 obtain ⟨i0,hi,hz0,hz1,hz2⟩:=info_parts strI
 obtain ⟨v',w',hr,g2,g3,_,g5⟩:=run_append_own_at (P:=Try.prog) w B 26 26 9 i0 _ 1 16 (by kernel_rfl) hi hz0 hz1 hz2 rfl (by decide) v l.length (strsV l) h A l2.length c (strsV l2) (by simp [strsV]) (fun j u hj=>by
  unfold strsV at hj
  rw [List.getElem?_map] at hj
  cases hx : l2[j]? with
  | none=>rw [hx] at hj;cases hj
  | some x =>
    rw [hx] at hj
    obtain rfl : Value.string (strB x)=u:=by simpa using hj
    exact hc j x hx) (fun u hu=>by
  obtain ⟨x,_,rfl⟩:=List.mem_map.1 hu
  rfl) (by unfold maxLen;omega) (by omega) hB
 refine ⟨v',w',hr,?_,g3⟩
 unfold OwnS strsV
 rw [List.length_append,List.map_append]
 exact g2
end
section
variable {wa : World}
theorem own_first {W : World} (h : Below wa.heap.size wa W) : Below wa.heap.size wa (W.alloc (.cells #[] 9))∧OwnS (W.alloc (.cells #[] 9)) wa.heap.size (.slice (some ⟨W.heap.size,0,none⟩) 0 0) [] :=
 ⟨h.trans (((Below.refl _ W).alloc (Nat.le_refl _) _).mono h.size),OwnS.empty h.size (heap_alloc_new W _)⟩
theorem own_copy {W : World} {v : Value} {a2 : Option Addr} {c2 : Nat} {names : List (List UInt8)} (hn : RowK nameD (fun _=>False) wa (.slice a2 names.length c2) names) (h0 : 0 < names.length) (h1 : names.length < 3000) (h : Below wa.heap.size wa W) (ho : OwnS W wa.heap.size v []) :
 ∃ v' w',(Builtin.append_ #[26,26] 26 #[v,.slice a2 names.length c2]).run Try.prog W=.ok v' w'∧OwnS w' wa.heap.size v' names∧Below wa.heap.size wa w'∧∀ g X,W.heap[g]?=some X→v.ownBlock≠some g→w'.heap[g]?=some X:=by
 obtain ⟨y,hy⟩ : ∃ y,names[0]?=some y:=⟨_,List.getElem?_eq_getElem h0⟩
 obtain ⟨gn,on,rfl,_⟩:=RowK.nameAt hn hy
 obtain ⟨v',w',hr,ho2,hg⟩:=ho.append (l2:=names) (A:=⟨gn,on,none⟩) (c:=c2) h.size (by simp) (by omega) (fun i x hx=>by
  obtain ⟨g2,o2,e,hc⟩:=RowK.nameAt hn hx
  injection e with e
  injection e with e1 e2
  subst e1 e2
  rw [add_at rfl]
  exact tkeep h hc)
 refine ⟨v',w',hr,by simpa using ho2,h.grown hg h.size (fun k hk=>(ho.own k hk).1),fun g X hX hne=>?_⟩
 exact (hg.block g (Array.getElem?_eq_some_iff.1 hX).1 (fun e=>hne e.symm)).trans hX
theorem own_more {W : World} {v : Value} {names : List (List UInt8)} {u : List UInt8} {g : Nat} (h1 : names.length < 3000) (h : Below wa.heap.size wa W) (ho : OwnS W wa.heap.size v names) (hg : W.heap[g]?=some (.cells #[.string (strB u)] 9 (0,0))) :
 ∃ v' w',(Builtin.append_ #[26,26] 26 #[v,.slice (some ⟨g,0,none⟩) 1 1]).run Try.prog W=.ok v' w'∧OwnS w' wa.heap.size v' (names++[u])∧Below wa.heap.size wa w':=by
 obtain ⟨v',w',hr,ho2,hg2⟩:=ho.append (l2:=[u]) (A:=⟨g,0,none⟩) (c:=1) h.size (by omega) (by simp) (fun i x hx=>by
  match i,hx with
  | 0,hx =>
    obtain rfl : u=x:=by simpa using hx
    rw [add_at rfl]
    exact tcell hg rfl
  | i+1,hx=>simp at hx)
 exact ⟨v',w',hr,ho2,h.grown hg2 h.size (fun k hk=>(ho.own k hk).1)⟩
end
theorem all_rows {w0 : World} {g o c : Nat} {l : List PIt} (h : RowK itemD (fun _=>False) w0 (.slice (some ⟨g,o,none⟩) l.length c) l) (hlen : l.length≤6) {B : Nat} (hB : w0.heap.size≤B) {W : World} {v : Value} (hW : Below w0.heap.size w0 W) (hBW : B≤W.heap.size) (ho : OwnQ W B w0.heap.size v []) :
 ∃ v' w5,(Builtin.append_ #[22,22] 22 #[v,.slice (some ⟨g,o,none⟩) l.length c]).run Try.prog W=.ok v' w5∧OwnQ w5 B w0.heap.size v' l∧Below B W w5∧w5.grownBy w5 none:=by
 obtain ⟨css,hcl,hc4,hcx,hcc⟩:=h.flat
 obtain ⟨v9,w9,hr,ho9,hg⟩:=ho.append (l2:=l) (A:=⟨g,o,none⟩) (c:=c) (css2:=css) hB hBW (by simp) (by omega) hcl hc4 (fun j x hj=>by
  obtain ⟨cs,h1,h2⟩:=hcx j x hj
  exact ⟨cs,h1,itemD.keep (TFr.of_below hW) (item_old h2)⟩) (fun i u hu=>tkeep hW (hcc i u hu))
 exact ⟨v9,w9,hr,by simpa using ho9,(Below.refl B W).grown hg hBW (fun k hk=>(ho.own k hk).1),World.grownBy.refl _ _⟩
theorem rowQ_of {K : Nat→Prop} {W : World} {B : Nat} {v : Value} {l : List PIt} {css : List (List Value)} (h1 : css.length=l.length) (h2 : W.ownsRow B 38 4 v l.length css.flatten) (h3 : ∀ c∈css,c.length=4) (h4 : ∀ (j : Nat) (x : PIt),l[j]?=some x→∃ cs,css[j]?=some cs∧itemD.P K W cs x) (hK : ∀ b,K b→b < B) : RowK itemD K W v l:=by
 rcases h2.2 with ⟨rfl,h0⟩|⟨g,cap,cur,rfl,hb,hh,hn,hc,hs,ht⟩
 ·have : l=[]:=List.eq_nil_of_length_eq_zero h0
  subst this
  exact RowK.nil _ _ _
 ·refine ⟨_,cap,rfl,hn,fun j x hj=>?_⟩
  obtain ⟨cs,hcs,hp⟩:=h4 j x hj
  refine ⟨g,0,cs,rfl,fun h=>by have:=hK _ h;omega,hp,fun r u hu=>?_⟩
  have h6:=flat_at (k:=4) h3 hcs r u hu
  have hrl : r < 4:=by
   have:=(List.getElem?_eq_some_iff.1 hu).1
   have h7:=h3 cs (List.mem_of_getElem? hcs)
   omega
  rw [← ht,List.getElem?_take] at h6
  split at h6
  ·rw [cell_of_row W g (0+j*itemD.k+r) _ 38 (0,0) hh,Nat.zero_add]
   rw [← Array.getElem?_toList]
   exact h6
  ·cases h6
def zIt : PIt:=⟨false,[[122]],[122,122],3⟩
theorem more_item {W : World} {B N : Nat} {v : Value} {l : List PIt} (h : OwnQ W B N v l) (hNB : N < B) (hB : B≤W.heap.size) (hl : l.length≤1000) {gi gs : Nat} (hgi : W.heap[gi]?=some (.cells #[.bool false,.slice (some ⟨gs,0,none⟩) 1 1,.string ⟨#[122,122]⟩,.int .i64 3] 38 (0,0)))
 (hgs : W.heap[gs]?=some (.cells #[.string ⟨#[122]⟩] 9 (0,0))) (hne : v.ownBlock≠some gs) (hgN : gs≠N) :
 ∃ a c w',(Builtin.append_ #[22,22] 22 #[v,.slice (some ⟨gi,0,none⟩) 1 1]).run Try.prog W=.ok (.slice a (l.length+1) c) w'∧RowK itemD (·=N) w' (.slice a (l.length+1) c) (l++[zIt])∧Below B W w':=by
 have hown:=h.own
 obtain ⟨css,h1,h2,h3,h4⟩:=h
 obtain ⟨i0,hi,hz0,hz1,hz2⟩:=info_parts itemI
 have hfl:=flatK_len (k:=4) h3
 obtain ⟨v',w',hr,g2,g3,_,g5⟩:=run_append_own_at (P:=Try.prog) W B 22 22 38 i0 _ 4 56 (by kernel_rfl) hi hz0 hz1 hz2 rfl (by decide) v l.length css.flatten h2 ⟨gi,0,none⟩ 1 1 [.bool false,.slice (some ⟨gs,0,none⟩) 1 1,.string ⟨#[122,122]⟩,.int .i64 3] rfl (fun i u hi=>by
  rw [add_at rfl,Nat.zero_add]
  refine tcell hgi ?_
  simpa using hi) (fun u hu=>by
  simp only [List.mem_cons,List.not_mem_nil,or_false] at hu
  rcases hu with rfl|rfl|rfl|rfl <;> rfl) (by unfold maxLen;omega) (by omega) hB
 have hfr:=TFr.of_grown (K:=fun b=>v.ownBlock=some b) g3 (fun k hk=>hk)
 have hz : itemD.P (fun b=>v.ownBlock=some b∨b=N) W [.bool false,.slice (some ⟨gs,0,none⟩) 1 1,.string ⟨#[122,122]⟩,.int .i64 3] zIt:=by
  refine ⟨some ⟨gs,0,none⟩,1,rfl,_,1,rfl,Nat.le_refl _,fun j x hj=>?_⟩
  match j,hj with
  | 0,hj =>
    obtain rfl : ([122] : List UInt8)=x:=by simpa [zIt] using hj
    refine ⟨gs,0,[.string (strB [122])],rfl,fun h=>h.elim hne hgN,rfl,fun r u hu=>?_⟩
    match r,hu with
    | 0,hu =>
      obtain rfl : Value.string (strB [122])=u:=by simpa using hu
      exact tcell hgs rfl
    | r+1,hu=>simp at hu
  | j+1,hj=>simp [zIt] at hj
 have hrow : RowK itemD (·=N) w' v' (l++[zIt]):=by
  refine rowQ_of (B:=B) (css:=css++[[.bool false,.slice (some ⟨gs,0,none⟩) 1 1,.string ⟨#[122,122]⟩,.int .i64 3]]) (by simp [h1]) ?_ (fun c hc=>?_) (fun j x hj=>?_) (fun b hb=>by rw [hb];exact hNB)
  ·rw [List.length_append,List.flatten_append]
   simpa using g2
  ·rcases List.mem_append.1 hc with hc|hc
   ·exact h3 c hc
   ·rw [List.mem_singleton.1 hc];rfl
  ·by_cases hlt : j < l.length
   ·rw [List.getElem?_append_left hlt] at hj
    obtain ⟨cs,hc,hp⟩:=h4 j x hj
    exact ⟨cs,by rw [List.getElem?_append_left (by omega)];exact hc,itemD.mono (fun b h=>by rw [h];exact Nat.le_refl _) (itemD.keep (hfr.mono (fun k _ hk=>Nat.le_trans (Nat.le_of_lt hNB) (hown k hk).1)) hp)⟩
   ·rw [List.getElem?_append_right (by omega)] at hj
    obtain ⟨j0,hj0⟩ : ∃ j0,j - l.length=j0:=⟨_,rfl⟩
    rw [hj0] at hj
    match j0,hj,hj0 with
    | 0,hj,hj0 =>
      obtain rfl : zIt=x:=by simpa using hj
      exact ⟨_,by rw [List.getElem?_append_right (by omega),h1,hj0];rfl,itemD.mono (fun _ h=>.inr h) (itemD.keep (hfr.mono (fun _ _ hk=>.inl hk)) hz)⟩
    | j0+1,hj,_=>simp at hj
 obtain ⟨a,c,e,hc,hx⟩:=hrow
 have e' : v'=.slice a (l.length+1) c:=by rw [e];simp
 subst e'
 exact ⟨a,c,w',hr,⟨a,c,by simp,hc,hx⟩,(Below.refl B W).grown g3 hB (fun k hk=>(hown k hk).1)⟩
end Go.Proofs.Ytefcbgnckgapgaa
