/- Queries: depths; above. | Queries: depths; the worklist in plain words. | Queries: depths; a row of rows, and one less of a row of one's own. | Queries: depths; long rows. | Queries: depths; what is left to do gets less; the map as a function of the world. | Queries: depths; the rows below an expression in memory, and their depths in plain words. | Queries: how much an expression is. | Queries that came in: Great. | Queries: the document's Same of expressions. -/
import Derived.Test.YtefcbgnckgapgaaGreatDoorM6
import Derived.Test.YtefcbgnckgapgaaGreatDoorM7
import Derived.Test.YtefcbgnckgapgaaGreatDoorMH
import Derived.Deep.QuietTactic
import Derived.BigQuiet
namespace Go.Proofs.YtefcbgnckgapgaaGreatDoor
open Go.RowKit Go.Lib Go.Op
def keyX (k : Int) (a : Option Addr) (n : Nat) : Option Addr × Nat:=if k=7∨k=8 then (if n=0 then (none,0) else (a,n)) else (none,0)
theorem keyV_nil : keyV (none,0)=.agg #[.pointer none,.int .i64 0]:=rfl
def undV (k : Int) (a : Option Addr) (n c : Nat) : Option Addr × Nat × Nat:=if k=7∨k=8 then (a,n,c) else (none,0,0)
theorem under_calls {w : World} {k : Int} {a : Option Addr} {c n : Nat} {v : PVal} {x f : List UInt8} : Calls Tryz.prog 27 #[.agg #[.int .i64 k,.int .i64 v.k,.int .i64 v.n,.string (strB v.s),.string (strB x),.string (strB f),.slice a n c]] w fun e w'=>e=.returned (.slice (undV k a n c).1 (undV k a n c).2.1 (undV k a n c).2.2)∧Below w.heap.size w w':=by
 unfold undV
 by_cases h : k=7∨k=8
 ·rw [if_pos h]
  exact under_yes h
 ·rw [if_neg h]
  exact under_no h
theorem place_calls {w : World} {k : Int} {a : Option Addr} {c n : Nat} (h : n≠0→∃ g o,a=some ⟨g,o,none⟩) : Calls Tryz.prog 28 #[.slice (undV k a n c).1 (undV k a n c).2.1 (undV k a n c).2.2] w fun e w'=>e=.returned (keyV (keyX k a n))∧Below w.heap.size w w':=by
 unfold undV keyX
 by_cases hk : k=7∨k=8
 ·rw [if_pos hk,if_pos hk]
  by_cases hn : n=0
  ·subst hn
   rw [if_pos rfl]
   exact place_nil
  ·rw [if_neg hn]
   obtain ⟨g,o,rfl⟩:=h hn
   exact place_some (Nat.pos_of_ne_zero hn)
 ·rw [if_neg hk,if_neg hk]
  exact place_nil
theorem DMap.below {W W' : World} {m : Nat} {f : Option Addr × Nat→Int} (h : DMap W m f) (hb : Below W.heap.size W W') : DMap W' m f:=by
 obtain ⟨es,c,h1,h2⟩:=h
 have hk : ∀ {b : Nat} {o : Obj},W.heap[b]?=some o→W'.heap[b]?=some o:=fun {b o} e=>((TFr.of_below (K:=fun _=>False) hb).block b (Array.getElem?_eq_some_iff.1 e).1 (fun h=>h)).trans e
 exact ⟨es,c,hk h1,⟨fun e he=>by
  obtain ⟨k,h3,h4,h5⟩:=h2.ent e he
  exact ⟨k,h3,fun a ha=>by
   obtain ⟨cs,t,h6⟩:=h4 a ha
   exact ⟨cs,t,hk h6⟩,h5⟩,h2.has,h2.one⟩⟩
theorem KBlk.below {W W' : World} {k : Option Addr × Nat} (h : KBlk W k) (hb : Below W.heap.size W W') : KBlk W' k:=fun a ha=>by
 obtain ⟨cs,t,h6⟩:=h a ha
 exact ⟨cs,t,((TFr.of_below (K:=fun _=>False) hb).block a.block (Array.getElem?_eq_some_iff.1 h6).1 (fun h=>h)).trans h6⟩
def mostF (f : Option Addr × Nat→Int) (l : List (Option Addr × Nat)) : Int:=l.foldl (fun m k=>max m (f k)) 0
theorem mostF_snoc (f : Option Addr × Nat→Int) (l : List (Option Addr × Nat)) (k : Option Addr × Nat) : mostF f (l++[k])=max (mostF f l) (f k):=by
 unfold mostF
 rw [List.foldl_append]
 rfl
theorem mostF_le {f : Option Addr × Nat→Int} {N : Int} (hN : 0≤N) (hf : ∀ k,f k≤N) (l : List (Option Addr × Nat)) : mostF f l≤N:=by
 have : ∀ (l : List (Option Addr × Nat)) (m : Int),m≤N→l.foldl (fun m k=>max m (f k)) m≤N:=fun l=>by
  induction l with
  | nil=>exact fun m h=>h
  | cons k r ih=>exact fun m h=>ih _ (by have:=hf k;show max m (f k)≤N;omega)
 exact this l 0 hN
theorem mostF_nonneg {f : Option Addr × Nat→Int} (l : List (Option Addr × Nat)) : 0≤mostF f l:=by
 have : ∀ (l : List (Option Addr × Nat)) (m : Int),0≤m→0≤l.foldl (fun m k=>max m (f k)) m:=fun l=>by
  induction l with
  | nil=>exact fun m h=>h
  | cons k r ih=>exact fun m h=>ih _ (by show 0≤max m (f k);omega)
 exact this l 0 (Int.le_refl _)
def KidsAt (w : World) (a : Option Addr) (l : List PEx) (ks : List (Option Addr × Nat)) : Prop:=ks.length=l.length∧∀ j x,l[j]?=some x→∃ g o a' c',a=some ⟨g,o,none⟩ ∧
 (w.cell? ⟨g,o+j*7,none⟩=some (.int .i64 x.k)∧w.cell? ⟨g,o+j*7+1,none⟩=some (.int .i64 x.v.k)∧w.cell? ⟨g,o+j*7+2,none⟩=some (.int .i64 x.v.n)∧w.cell? ⟨g,o+j*7+3,none⟩=some (.string (strB x.v.s))∧w.cell? ⟨g,o+j*7+4,none⟩=some (.string (strB x.x))∧w.cell? ⟨g,o+j*7+5,none⟩=some (.string (strB x.f))∧w.cell? ⟨g,o+j*7+6,none⟩=some (.slice a' x.ks.length c')) ∧
 (x.ks.length≠0→∃ g' o',a'=some ⟨g',o',none⟩)∧KBlk w (keyX x.k a' x.ks.length)∧ks[j]?=some (keyX x.k a' x.ks.length)
theorem KidsAt.below {w w' : World} {a : Option Addr} {l : List PEx} {ks : List (Option Addr × Nat)} (h : KidsAt w a l ks) (hb : Below w.heap.size w w') : KidsAt w' a l ks:=⟨h.1,fun j x hx=>by
 obtain ⟨g,o,a',c',e,⟨d0,d1,d2,d3,d4,d5,d6⟩,h1,h2,h3⟩:=h.2 j x hx
 exact ⟨g,o,a',c',e,⟨tkeep hb d0,tkeep hb d1,tkeep hb d2,tkeep hb d3,tkeep hb d4,tkeep hb d5,tkeep hb d6⟩,h1,h2.below hb,h3⟩⟩
set_option maxHeartbeats 2000000 in
set_option maxRecDepth 100000 in
theorem above_calls {w : World} {m : Nat} {f : Option Addr × Nat→Int} {a : Option Addr} {c : Nat} {l : List PEx} {ks : List (Option Addr × Nat)} (h : KidsAt w a l ks) (hm : DMap w m f) (hf : ∀ k,f k≤1000000) (hl : l.length≤1000000000) :
 Calls Tryz.prog 29 #[.map (some m),.slice a l.length c] w fun e w'=>e=.returned (.int .i64 (1+mostF f ks))∧Below w.heap.size w w':=by
 have H:=hid h
 have HM:=hid hm
 have HF:=hid hf
 obtain ⟨q,hq⟩ : ∃ q,l.length=q:=⟨_,rfl⟩
 have HQ:=hid hq
 rw [hq] at hl ⊢
 clear h hm hf hq
 go_enter Tryz.func29,Tryz.ntmps29
 go_wp2
 go_loopw [5,10] (fun v k wr=>∃ (j : Nat) (M : Int),v=.int .i64 M∧k=.int .i64 j∧j≤q∧Hid (M=mostF f (ks.take j))∧Hid (Below w.heap.size w wr)) (fun _ k _=>q - (RowKit.intOf k).toNat)
 case atStart=>exact ⟨0,0,rfl,rfl,Nat.zero_le _,rfl,Below.refl _ _⟩
 case round =>
  obtain ⟨j,M,rfl,rfl,hj,HO,HB⟩:=hrel
  by_cases hlt : j < q
  ·obtain ⟨y,hy⟩ : ∃ y,l[j]?=some y:=⟨_,List.getElem?_eq_getElem (by rw [HQ.out];exact hlt)⟩
   obtain ⟨g,o,a2,c2,rfl,⟨d0,d1,d2,d3,d4,d5,d6⟩,hne,hkb,hks⟩:=(H.out.below HB.out).2 j y hy
   obtain ⟨n2,hn2⟩ : ∃ n2,y.ks.length=n2:=⟨_,rfl⟩
   rw [hn2] at d6 hne hkb hks
   have hba:=(Below.refl wr.heap.size wr).alloc (Nat.le_refl _) (.cells #[.int .i64 y.k,.int .i64 y.v.k,.int .i64 y.v.n,.string (strB y.v.s),.string (strB y.x),.string (strB y.f),.slice a2 n2 c2] 40)
   have HBA:=hid (HB.out.trans (hba.mono HB.out.size))
   have HU:=hid (fun W=>under_calls (w:=W) (k:=y.k) (a:=a2) (c:=c2) (n:=n2) (v:=y.v) (x:=y.x) (f:=y.f))
   have HP:=hid (fun W=>place_calls (w:=W) (k:=y.k) (a:=a2) (c:=c2) (n:=n2) hne)
   have HL:=hid (fun W (hW : Below w.heap.size w W) (hW2 : Below wr.heap.size wr W)=>(HM.out.below hW).look (hkb.below hW2))
   have HK:=hid hks
   have HBA1:=hid hba
   clear hba hne hkb hks hn2 hy
   go_wp2_with (first
    | (go_at_call 27;(with_reducible refine (HU.out _).mono ?_);rintro e w1 ⟨rfl,hb1⟩;have HB1:=hid (HBA1.out.trans (hb1.mono HBA1.out.size));clear hb1)
    | (go_at_call 28;(with_reducible refine (HP.out _).mono ?_);rintro e w2 ⟨rfl,hb2⟩;have HB2:=hid (HB1.out.trans (hb2.mono HB1.out.size));have hl2:=HL.out w2 (HB.out.trans (HB2.out.mono HB.out.size)) HB2.out;clear hb2))
   go_round
   case rel=>exact ⟨j+1,_,rfl,by go_num,by omega,by
    show _=_
    rw [List.take_add_one,HK.out]
    simp only [Option.toList_some,mostF_snoc]
    rw [HO.out],HB.out.trans (HB2.out.mono HB.out.size)⟩
   case measure=>simp [RowKit.intOf];omega
  ·have hjq : j=ks.length:=by rw [H.out.1,HQ.out];omega
   have hM : M=mostF f ks:=by rw [HO.out,hjq,List.take_length]
   subst hM
   have h1:=mostF_le (f:=f) (N:=1000000) (by decide) HF.out ks
   have h2:=mostF_nonneg (f:=f) ks
   obtain ⟨M,hM⟩ : ∃ M,mostF f ks=M:=⟨_,rfl⟩
   rw [hM] at h1 h2 ⊢
   have HMM:=hid hM
   clear hM HO
   go_wp2
   go_ret
   exact ⟨by rw [HMM.out];rfl,HB.out⟩
end Go.Proofs.YtefcbgnckgapgaaGreatDoor
namespace Go.Proofs.YtefcbgnckgapgaaGreatDoor
open Go.RowKit Go.Lib Go.Op
structure DRows (R : List (Option Addr × Nat)) (kids : Option Addr × Nat→List (Option Addr × Nat)) (dep : Option Addr × Nat→Int) : Prop where
 one : R.Nodup
 mem : ∀ r∈R,∀ c∈kids r,c∈R
 dn : dep (none,0)=1
 depIs : ∀ r∈R,r≠(none,0)→dep r=1+mostF dep (kids r)
theorem mostF_mem {f : Option Addr × Nat→Int} : ∀ {l : List (Option Addr × Nat)} {k : Option Addr × Nat},k∈l→f k≤mostF f l:=fun {l k} h=>by
 have hm : ∀ (l : List (Option Addr × Nat)) (m : Int),m≤l.foldl (fun m k=>max m (f k)) m:=fun l=>by
  induction l with
  | nil=>exact fun m=>Int.le_refl _
  | cons a r ih=>exact fun m=>Int.le_trans (show m≤max m (f a) by omega) (ih _)
 have : ∀ (l : List (Option Addr × Nat)) (m : Int),k∈l→f k≤l.foldl (fun m k=>max m (f k)) m:=fun l=>by
  induction l with
  | nil=>exact fun m h=>by simp at h
  | cons a r ih =>
    intro m h
    rcases List.mem_cons.1 h with rfl|h
    ·exact Int.le_trans (show f k≤max m (f k) by omega) (hm r _)
    ·exact ih _ h
 exact this l 0 h
theorem mostF_congr {f g : Option Addr × Nat→Int} {l : List (Option Addr × Nat)} (h : ∀ k∈l,f k=g k) : mostF f l=mostF g l:=by
 have : ∀ (l : List (Option Addr × Nat)) (m : Int),(∀ k∈l,f k=g k)→l.foldl (fun m k=>max m (f k)) m=l.foldl (fun m k=>max m (g k)) m:=fun l=>by
  induction l with
  | nil=>exact fun _ _=>rfl
  | cons a r ih =>
    intro m h
    rw [List.foldl_cons,List.foldl_cons,h a List.mem_cons_self]
    exact ih _ (fun k hk=>h k (List.mem_cons_of_mem _ hk))
 exact this l 0 h
section
variable {R : List (Option Addr × Nat)} {kids : Option Addr × Nat→List (Option Addr × Nat)} {dep f : Option Addr × Nat→Int} {t : Option Addr × Nat} {st : List (Option Addr × Nat)}
theorem DRows.pos (H : DRows R kids dep) {r : Option Addr × Nat} (hr : r∈R) : 0 < dep r:=by
 by_cases h : r=(none,0)
 ·rw [h,H.dn];decide
 ·have:=H.depIs r hr h
  have:=mostF_nonneg (f:=dep) (kids r)
  omega
theorem DRows.less (H : DRows R kids dep) {r c : Option Addr × Nat} (hr : r∈R) (hn : r≠(none,0)) (hc : c∈kids r) : dep c < dep r:=by
 have:=H.depIs r hr hn
 have:=mostF_mem (f:=dep) hc
 omega
structure DInv (R : List (Option Addr × Nat)) (kids : Option Addr × Nat→List (Option Addr × Nat)) (dep f : Option Addr × Nat→Int) (st : List (Option Addr × Nat)) : Prop where
 vals : ∀ r∈R,f r=0∨f r=-1∨f r=dep r
 nil : f (none,0)=1
 inR : ∀ r∈st,r∈R
 beg : ∀ r,f r=-1→∃ pre suf,st=pre++r :: suf∧(∀ s∈pre,dep s < dep r)∧∀ c∈kids r,0 < f c∨c∈pre
theorem DInv.unseen (H : DRows R kids dep) (h : DInv R kids dep f (t :: st)) (h0 : f t=0) : DInv R kids dep (updF f t (-1)) ((kids t).reverse++t :: st):=by
 have ht:=h.inR t List.mem_cons_self
 have hn : t≠(none,0):=fun e=>by rw [e,h.nil] at h0;cases h0
 refine ⟨fun r hr=>?_,by rw [updF,if_neg (Ne.symm hn)];exact h.nil,fun r hr=>?_,fun r hr=>?_⟩
 ·unfold updF
  split
  ·exact Or.inr (Or.inl rfl)
  ·exact h.vals r hr
 ·rcases List.mem_append.1 hr with h1|h1
  ·exact H.mem t ht r (List.mem_reverse.1 h1)
  ·exact h.inR r h1
 ·by_cases hrt : r=t
  ·subst hrt
   exact ⟨(kids r).reverse,st,rfl,fun s hs=>H.less ht hn (List.mem_reverse.1 hs),fun c hc=>Or.inr (List.mem_reverse.2 hc)⟩
  ·rw [updF,if_neg hrt] at hr
   obtain ⟨pre,suf,h1,h2,h3⟩:=h.beg r hr
   cases pre with
   | nil =>
     rw [List.nil_append] at h1
     exact absurd (List.cons.inj h1).1.symm hrt
   | cons p pre =>
     obtain ⟨rfl,h4⟩:=List.cons.inj h1
     have htr:=h2 t List.mem_cons_self
     refine ⟨(kids t).reverse++t :: pre,suf,by rw [h4];simp,fun s hs=>?_,fun c hc=>?_⟩
     ·rcases List.mem_append.1 hs with h5|h5
      ·have:=H.less ht hn (List.mem_reverse.1 h5)
       omega
      ·exact h2 s h5
     ·rcases h3 c hc with h5|h5
      ·left
       rw [updF,if_neg (fun e=>by rw [e,h0] at h5;cases h5)]
       exact h5
      ·exact Or.inr (List.mem_append_right _ h5)
theorem DInv.begun (H : DRows R kids dep) (h : DInv R kids dep f (t :: st)) (h0 : f t=-1) : 1+mostF f (kids t)=dep t∧DInv R kids dep (updF f t (dep t)) (t :: st):=by
 have ht:=h.inR t List.mem_cons_self
 have hn : t≠(none,0):=fun e=>by rw [e,h.nil] at h0;cases h0
 have hp:=H.pos ht
 obtain ⟨pre,suf,h1,h2,h3⟩:=h.beg t h0
 have hpre : pre=[]:=by
  cases pre with
  | nil=>rfl
  | cons p pre =>
    obtain ⟨rfl,_⟩:=List.cons.inj h1
    have:=h2 t List.mem_cons_self
    omega
 subst hpre
 have hk : ∀ c∈kids t,f c=dep c:=fun c hc=>by
  rcases h3 c hc with h4|h4
  ·rcases h.vals c (H.mem t ht c hc) with h5|h5|h5
   ·omega
   ·omega
   ·exact h5
  ·simp at h4
 refine ⟨by rw [mostF_congr hk,H.depIs t ht hn],fun r hr=>?_,by rw [updF,if_neg (Ne.symm hn)];exact h.nil,h.inR,fun r hr=>?_⟩
 ·unfold updF
  split
  ·rename_i e
   rw [e]
   exact Or.inr (Or.inr rfl)
  ·exact h.vals r hr
 ·by_cases hrt : r=t
  ·rw [updF,if_pos hrt] at hr
   omega
  ·rw [updF,if_neg hrt] at hr
   obtain ⟨pre,suf,h4,h5,h6⟩:=h.beg r hr
   refine ⟨pre,suf,h4,h5,fun c hc=>?_⟩
   rcases h6 c hc with h7|h7
   ·left
    unfold updF
    split
    ·exact hp
    ·exact h7
   ·exact Or.inr h7
theorem DInv.done (h : DInv R kids dep f (t :: st)) (h0 : 0 < f t) : DInv R kids dep f st:=by
 refine ⟨h.vals,h.nil,fun r hr=>h.inR r (List.mem_cons_of_mem _ hr),fun r hr=>?_⟩
 obtain ⟨pre,suf,h1,h2,h3⟩:=h.beg r hr
 cases pre with
 | nil =>
   obtain ⟨rfl,_⟩:=List.cons.inj h1
   omega
 | cons p pre =>
   obtain ⟨rfl,h4⟩:=List.cons.inj h1
   refine ⟨pre,suf,h4,fun s hs=>h2 s (List.mem_cons_of_mem _ hs),fun c hc=>?_⟩
   rcases h3 c hc with h5|h5
   ·exact Or.inl h5
   ·rcases List.mem_cons.1 h5 with rfl|h6
    ·exact Or.inl h0
    ·exact Or.inr h6
def wtF (kids : Option Addr × Nat→List (Option Addr × Nat)) (f : Option Addr × Nat→Int) (r : Option Addr × Nat) : Nat:=if f r=0 then (kids r).length+2 else if f r=-1 then 1 else 0
def wtS (R : List (Option Addr × Nat)) (kids : Option Addr × Nat→List (Option Addr × Nat)) (f : Option Addr × Nat→Int) : Nat:=(R.map (wtF kids f)).sum
theorem wtS_upd (kids : Option Addr × Nat→List (Option Addr × Nat)) (f : Option Addr × Nat→Int) (v : Int) : ∀ (R : List (Option Addr × Nat)),R.Nodup→t∈R→wtS R kids (updF f t v)+wtF kids f t=wtS R kids f+wtF kids (updF f t v) t
 | [],_,h=>by simp at h
 | r :: R,hn,h=>by
   have hn':=List.nodup_cons.1 hn
   by_cases hr : r=t
   ·subst hr
    have he : R.map (wtF kids (updF f r v))=R.map (wtF kids f):=List.map_congr_left fun x hx=>by
     have hx : x≠r:=fun e=>hn'.1 (e ▸ hx)
     unfold wtF updF
     rw [if_neg hx]
    unfold wtS
    rw [List.map_cons,List.map_cons,List.sum_cons,List.sum_cons,he]
    omega
   ·have ih:=wtS_upd kids f v R hn'.2 (by
     rcases List.mem_cons.1 h with e|h
     ·exact absurd e.symm hr
     ·exact h)
    have hw : wtF kids (updF f t v) r=wtF kids f r:=by
     unfold wtF updF
     rw [if_neg hr]
    unfold wtS at ih ⊢
    rw [List.map_cons,List.map_cons,List.sum_cons,List.sum_cons,hw]
    omega
end
end Go.Proofs.YtefcbgnckgapgaaGreatDoor
namespace Go.Proofs.YtefcbgnckgapgaaGreatDoor
open Go.RowKit Go.Lib Go.Op
def sliceD : RowD (Option Addr × Nat × Nat) where
 k:=1
 P:=fun _ _ cs b=>cs=[.slice b.1 b.2.1 b.2.2]
 len:=fun h=>by rw [h];rfl
 one:=fun h u hu=>by rw [h] at hu;rw [List.mem_singleton.1 hu];rfl
 keep:=fun _ h=>h
 mono:=fun _ h=>h
 ne:=fun _ h=>h
theorem flatK_len {k : Nat} : ∀ {css : List (List Value)},(∀ c∈css,c.length=k)→css.flatten.length=css.length*k
 | [],_=>by simp
 | c :: css,h=>by
   rw [List.flatten_cons,List.length_append,h c List.mem_cons_self,flatK_len (fun c' hc=>h c' (List.mem_cons_of_mem _ hc)),List.length_cons,Nat.succ_mul]
   omega
theorem OwnP.pop {α : Type} {D : RowD α} {w : World} {B g cap n : Nat} {t : TypeId} {l : List α} {x : α} (h : OwnP D w B t (.slice (some ⟨g,0,none⟩) (n+1) cap) (l++[x])) : OwnP D w B t (.slice (some ⟨g,0,none⟩) n cap) l:=by
 obtain ⟨css,h1,h2,h3,h4⟩:=h
 rw [List.length_append,List.length_singleton] at h1 h2
 obtain ⟨cs',c,rfl⟩ : ∃ cs' c,css=cs'++[c]:=by
  rcases List.eq_nil_or_concat css with e|⟨a,b,e⟩
  ·rw [e] at h1;simp at h1
  ·exact ⟨a,b,by rw [e];simp⟩
 have hl : cs'.length=l.length:=by
  rw [List.length_append,List.length_singleton] at h1
  omega
 have hf:=flatK_len (k:=D.k) (css:=cs') (fun c hc=>h3 c (List.mem_append_left _ hc))
 rcases h2.2 with ⟨e,_⟩|⟨g',cap',cur,e,hb,hh,hn,hc,hs,ht⟩
 ·cases e
 ·have e':=e
  simp only [Value.slice.injEq,Option.some.injEq,Addr.mk.injEq,and_true] at e'
  obtain ⟨rfl,hnl,rfl⟩:=e'
  have hnl : n=l.length:=by omega
  subst hnl
  refine ⟨cs',hl,⟨by rw [hf,hl],.inr ⟨g,cap,cur,rfl,hb,hh,by omega,hc,hs,?_⟩⟩,fun c hc=>h3 c (List.mem_append_left _ hc),fun j y hj=>?_⟩
  ·have h5 : (cur.toList.take ((l.length+1)*D.k)).take (l.length*D.k)=cur.toList.take (l.length*D.k):=by
    rw [List.take_take]
    congr 1
    rw [Nat.succ_mul]
    omega
   rw [← h5,ht,List.flatten_append,List.take_append_of_le_length (by rw [hf,hl];exact Nat.le_refl _),List.take_of_length_le (by rw [hf,hl];exact Nat.le_refl _)]
  ·have hlt:=(List.getElem?_eq_some_iff.1 hj).1
   obtain ⟨cs,h5,h6⟩:=h4 j y (by rw [List.getElem?_append_left hlt];exact hj)
   rw [List.getElem?_append_left (by omega)] at h5
   exact ⟨cs,h5,h6⟩
end Go.Proofs.YtefcbgnckgapgaaGreatDoor
namespace Go.Proofs.YtefcbgnckgapgaaGreatDoor
open Go.RowKit Go.Lib Go.Op
theorem OwnP.appendBig {α : Type} {D : RowD α} {w : World} {B : Nat} {t ts ty : TypeId} {z : Value} {bytes : Nat} (hu : Tryz.prog.underlying ts=some (.slice t)) (hi : (Tryz.prog.info? t).map (fun i=>(i.zero,i.size,i.bytes))=some (some z,D.k,bytes)) (hzs : z.cells.size=D.k) (hk : 0 < D.k) (hby : bytes≤100)
 {v : Value} {l : List α} (h : OwnP D w B t v l) (hB : B≤w.heap.size) (hl : l.length≤1000000000) {x : α} {cs : List Value} (hx : D.P (fun g=>g < B∨v.ownBlock=some g) w cs x) {vb : Nat} (hvb : w.heap[vb]?=some (.cells cs.toArray t (0,0))) :
 ∃ v' w',(Builtin.append_ #[ts,ts] ty #[v,.slice (some ⟨vb,0,none⟩) 1 1]).run Tryz.prog w=.ok v' w'∧OwnP D w' B t v' (l++[x])∧w.grownBy w' v.ownBlock:=by
 have hown:=h.own
 obtain ⟨css,h1,h2,h3,h4⟩:=h
 obtain ⟨i0,hi,hz0,hz1,hz2⟩:=info_parts hi
 have hcl:=D.len hx
 have hsrc : ∀ j u,cs[j]?=some u→w.cell? ((⟨vb,0,none⟩ : Addr).add j)=some u:=fun j u hj=>by
  have e : (⟨vb,0,none⟩ : Addr).add j=⟨vb,j,none⟩:=by unfold Addr.add;split <;> simp_all
  rw [e,cell_of_row w vb j _ t (0,0) hvb]
  simpa using hj
 obtain ⟨v',w',hr,g2,g3,_,g5⟩:=run_append_own_at (P:=Tryz.prog) w B ts ty t i0 _ D.k bytes hu hi hz0 hz1 hz2 hzs hk v l.length css.flatten h2 ⟨vb,0,none⟩ 1 1 cs (by omega) hsrc (D.one hx) (by unfold maxLen;omega) (by
  have : (l.length+1)*bytes≤1000000001*100:=Nat.mul_le_mul (by omega) hby
  omega) hB
 refine ⟨v',w',hr,⟨css++[cs],by simp [h1],?_,fun c hc=>?_,fun j y hj=>?_⟩,g3⟩
 ·rw [List.length_append,List.flatten_append]
  simpa using g2
 ·rcases List.mem_append.1 hc with hc|hc
  ·exact h3 c hc
  ·rw [List.mem_singleton.1 hc];exact hcl
 ·have key : ∀ {cs : List Value} {y : α},D.P (fun g=>g < B∨v.ownBlock=some g) w cs y→D.P (fun g=>g < B∨v'.ownBlock=some g) w' cs y:=fun {cs y} hp=>by
   rcases g5 with e|e
   ·rw [e]
    exact D.keep (TFr.of_grown g3 (fun k hk=>.inr hk)) hp
   ·rw [e]
    exact D.mono (fun g hg=>hg.elim (fun h=>.inl (.inl h)) (fun h=>.inr (Option.some.inj h).symm)) (D.keep (TFr.of_grown g3 (fun k hk=>.inl (.inr hk))) (D.ne (Nat.le_refl _) hp))
  by_cases hlt : j < l.length
  ·rw [List.getElem?_append_left hlt] at hj
   obtain ⟨c,hc,hp⟩:=h4 j y hj
   exact ⟨c,by rw [List.getElem?_append_left (by omega)];exact hc,key hp⟩
  ·have hj2 : j=l.length:=by
    have:=(List.getElem?_eq_some_iff.1 hj).1
    simp at this
    omega
   subst hj2
   obtain rfl : x=y:=by simpa using hj
   exact ⟨cs,by rw [← h1];simp,key hx⟩
theorem appRows {w : World} {B : Nat} {v : Value} {l : List (Option Addr × Nat × Nat)} (h : OwnP sliceD w B 38 v l) (hB : B≤w.heap.size) (hl : l.length≤1000000000) (x : Option Addr × Nat × Nat) {vb : Nat} (hvb : w.heap[vb]?=some (.cells #[.slice x.1 x.2.1 x.2.2] 38 (0,0))) :
 ∃ v' w',(Builtin.append_ #[75,75] 75 #[v,.slice (some ⟨vb,0,none⟩) 1 1]).run Tryz.prog w=.ok v' w'∧OwnP sliceD w' B 38 v' (l++[x])∧w.grownBy w' v.ownBlock :=
 OwnP.appendBig (ts:=75) (ty:=75) (z:=.slice none 0 0) (bytes:=24) (by kernel_rfl) (by kernel_rfl) rfl (by decide) (by decide) h hB hl (cs:=[.slice x.1 x.2.1 x.2.2]) rfl hvb
end Go.Proofs.YtefcbgnckgapgaaGreatDoor
namespace Go.Proofs.YtefcbgnckgapgaaGreatDoor
open Go.RowKit Go.Lib Go.Op
section
variable {R : List (Option Addr × Nat)} {kids : Option Addr × Nat→List (Option Addr × Nat)} {dep f g : Option Addr × Nat→Int} {t : Option Addr × Nat} {st : List (Option Addr × Nat)}
theorem wtS_congr (h : ∀ r∈R,f r=g r) : wtS R kids f=wtS R kids g:=by
 unfold wtS
 have e : R.map (wtF kids f)=R.map (wtF kids g):=List.map_congr_left fun r hr=>by unfold wtF;rw [h r hr]
 rw [e]
theorem wtS_unseen (H : DRows R kids dep) (ht : t∈R) (h0 : f t=0) : wtS R kids (updF f t (-1))+(kids t).length+1=wtS R kids f:=by
 have h:=wtS_upd (t:=t) kids f (-1) R H.one ht
 have h1 : wtF kids f t=(kids t).length+2:=by unfold wtF;rw [if_pos h0]
 have h2 : wtF kids (updF f t (-1)) t=1:=by unfold wtF updF;rw [if_pos rfl];rfl
 omega
theorem wtS_begun (H : DRows R kids dep) (ht : t∈R) (h0 : f t=-1) : wtS R kids (updF f t (dep t))+1=wtS R kids f:=by
 have h:=wtS_upd (t:=t) kids f (dep t) R H.one ht
 have hp:=H.pos ht
 have h1 : wtF kids f t=1:=by unfold wtF;rw [if_neg (by rw [h0];decide),if_pos h0]
 have h2 : wtF kids (updF f t (dep t)) t=0:=by unfold wtF updF;rw [if_pos rfl,if_neg (by omega),if_neg (by omega)]
 omega
end
def fOf (P : Program) (m : Nat) (W : World) (k : Option Addr × Nat) : Int :=
 match (Instr.lookup 73 (.map (some m)) (keyV k) false).run P W with
 | .ok (.int _ v) _=>v
 | _=>0
theorem DMap.fOf {W : World} {m : Nat} {f : Option Addr × Nat→Int} (h : DMap W m f) {k : Option Addr × Nat} (hk : KBlk W k) : fOf Tryz.prog m W k=f k:=by
 unfold Go.Proofs.YtefcbgnckgapgaaGreatDoor.fOf
 rw [h.look hk]
def key3 (e : Option Addr × Nat × Nat) : Option Addr × Nat:=if e.2.1=0 then (none,0) else (e.1,e.2.1)
theorem key3_und (k : Int) (a : Option Addr) (n c : Nat) : key3 (undV k a n c)=keyX k a n:=by
 unfold key3 undV keyX
 split <;> simp
theorem DMap.start {W : World} {m : Nat} (hm : W.heap[m]?=some (.map #[] 0)) : DMap W m (fun _=>0):=⟨_,_,hm,⟨fun e he=>by simp at he,fun k hk=>absurd rfl hk,by simp⟩⟩
theorem KBlk.nil (W : World) : KBlk W (none,0):=fun a h=>by cases h
end Go.Proofs.YtefcbgnckgapgaaGreatDoor
namespace Go.Proofs.YtefcbgnckgapgaaGreatDoor
open Go.RowKit Go.Lib Go.Op
theorem PEx.ind {p : PEx→Prop} (h : ∀ k v x f ks,(∀ y∈ks,p y)→p (.mk k v x f ks)) : ∀ x,p x
 | .mk k v x f ks=>h k v x f ks (fun y _=>PEx.ind h y)
def deepI : PEx→Int
 | .mk k _ _ _ ks=>if k=7∨k=8 then 1+(ks.map fun y=>deepI y).foldr max 0 else 1
def deepIs (l : List PEx) : Int:=(l.map deepI).foldr max 0
theorem deepI_mk (k : Int) (v : PVal) (a b : List UInt8) (ks : List PEx) : deepI (.mk k v a b ks)=if k=7∨k=8 then 1+deepIs ks else 1:=by rw [deepI];rfl
theorem deepIs_nil : deepIs []=0:=rfl
theorem deepIs_cons (x : PEx) (r : List PEx) : deepIs (x :: r)=max (deepI x) (deepIs r):=rfl
def sizeI : PEx→Nat
 | .mk _ _ _ _ ks=>1+(ks.map fun y=>sizeI y).sum
def sizeIs (l : List PEx) : Nat:=(l.map sizeI).sum
theorem sizeI_mk (k : Int) (v : PVal) (a b : List UInt8) (ks : List PEx) : sizeI (.mk k v a b ks)=1+sizeIs ks:=by rw [sizeI];rfl
theorem sizeIs_nil : sizeIs []=0:=rfl
theorem sizeIs_cons (x : PEx) (r : List PEx) : sizeIs (x :: r)=sizeI x+sizeIs r:=rfl
theorem sizeI_pos (x : PEx) : 0 < sizeI x:=by
 obtain ⟨k,v,a,b,ks⟩:=x
 rw [sizeI_mk]
 omega
theorem sizeIs_len : ∀ l : List PEx,l.length≤sizeIs l
 | []=>Nat.zero_le _
 | x :: r=>by
   have:=sizeIs_len r
   have:=sizeI_pos x
   rw [sizeIs_cons,List.length_cons]
   omega
theorem sizeIs_mem {x : PEx} : ∀ {l : List PEx},x∈l→sizeI x≤sizeIs l
 | [],h=>by simp at h
 | y :: r,h=>by
   rw [sizeIs_cons]
   rcases List.mem_cons.1 h with rfl|h
   ·omega
   ·have:=sizeIs_mem h
    omega
theorem deepIs_le {l : List PEx} (h : ∀ y∈l,deepI y≤sizeI y) : deepIs l≤sizeIs l:=by
 induction l with
 | nil=>rw [deepIs_nil,sizeIs_nil];decide
 | cons x r ih =>
   have h1:=h x List.mem_cons_self
   have h2:=ih (fun y hy=>h y (List.mem_cons_of_mem _ hy))
   rw [deepIs_cons,sizeIs_cons]
   omega
theorem deepI_size : ∀ x : PEx,deepI x≤sizeI x:=PEx.ind fun k v x f ks ih=>by
 have h:=deepIs_le ih
 rw [deepI_mk,sizeI_mk]
 split <;> omega
theorem deepIs_size (l : List PEx) : deepIs l≤sizeIs l:=deepIs_le fun y _=>deepI_size y
def kidK (w : World) (r : Option Addr × Nat) (j : Nat) : Option Addr × Nat :=
 match r.1 with
 | none=>(none,0)
 | some a=>match w.cell? ⟨a.block,a.off+j*7,none⟩,w.cell? ⟨a.block,a.off+j*7+6,none⟩ with
   | some (.int _ k),some (.slice b n _)=>keyX k b n
   | _,_=>(none,0)
def kidsF (w : World) (r : Option Addr × Nat) : List (Option Addr × Nat):=(List.range r.2).map (kidK w r)
def depN (w : World) : Nat→Option Addr × Nat→Int
 | 0,_=>1
 | m+1,r=>if r=(none,0) then 1 else 1+mostF (depN w m) (kidsF w r)
theorem kidsF_len (w : World) (r : Option Addr × Nat) : (kidsF w r).length=r.2:=by
 unfold kidsF
 rw [List.length_map,List.length_range]
theorem kidsF_nil (w : World) : kidsF w (none,0)=[]:=rfl
theorem kidsF_at {w : World} {r : Option Addr × Nat} {j : Nat} (h : j < r.2) : (kidsF w r)[j]?=some (kidK w r j):=by
 unfold kidsF
 rw [List.getElem?_map,List.getElem?_range h]
 rfl
theorem depN_nil (w : World) (m : Nat) : depN w m (none,0)=1:=by
 cases m with
 | zero=>rfl
 | succ m=>rw [depN,if_pos rfl]
structure KSet (w : World) (N d : Nat) (L : List (Option Addr × Nat)) : Prop where
 kid : ∀ s∈L,∀ c∈kidsF w s,c∈L
 row : ∀ s∈L,s≠(none,0)→s.2≤N∧0 < s.2∧∃ l : List PEx,s.2=l.length∧KidsAt w s.1 l (kidsF w s)∧KBlk w s
 st : ∀ s∈L,∃ v : Int,v≤(N : Int)+1∧∀ m,d≤m→depN w m s=v
theorem KSet.nil (w : World) (N d : Nat) : KSet w N d [(none,0)]:=⟨fun s hs c hc=>by
 rw [List.mem_singleton.1 hs,kidsF_nil] at hc
 simp at hc,fun s hs hn=>absurd (List.mem_singleton.1 hs) hn,fun s hs=>⟨1,by omega,fun m _=>by rw [List.mem_singleton.1 hs,depN_nil]⟩⟩
theorem KSet.app {w : World} {N d : Nat} {L M : List (Option Addr × Nat)} (h : KSet w N d L) (g : KSet w N d M) : KSet w N d (L++M):=⟨fun s hs c hc=>by
 rcases List.mem_append.1 hs with hs|hs
 ·exact List.mem_append_left _ (h.kid s hs c hc)
 ·exact List.mem_append_right _ (g.kid s hs c hc),fun s hs=>by
 rcases List.mem_append.1 hs with hs|hs
 ·exact h.row s hs
 ·exact g.row s hs,fun s hs=>by
 rcases List.mem_append.1 hs with hs|hs
 ·exact h.st s hs
 ·exact g.st s hs⟩
theorem KSet.empty (w : World) (N d : Nat) : KSet w N d []:=⟨fun s hs=>by simp at hs,fun s hs=>by simp at hs,fun s hs=>by simp at hs⟩
theorem KSet.le {w : World} {N N' d d' : Nat} {L : List (Option Addr × Nat)} (h : KSet w N d L) (hn : N≤N') (hd : d≤d') : KSet w N' d' L:=⟨h.kid,fun s hs h0=>by
 obtain ⟨h1,h2⟩:=h.row s hs h0
 exact ⟨Nat.le_trans h1 hn,h2⟩,fun s hs=>by
 obtain ⟨v,hb,hv⟩:=h.st s hs
 exact ⟨v,by omega,fun m hm=>hv m (Nat.le_trans hd hm)⟩⟩
theorem ExK.addr {K : Nat→Prop} {w : World} {d : Nat} {a : Option Addr} {n c : Nat} {ks : List PEx} (h : ExK K w d (.slice a n c) ks) : n=ks.length∧(ks.length≠0→∃ g o,a=some ⟨g,o,none⟩∧(K 0→UBlk w g)):=by
 cases d with
 | zero =>
   obtain ⟨⟨a',c',e⟩,rfl⟩:=h
   injection e with e1 e2 e3
   exact ⟨e2,fun h=>absurd rfl h⟩
 | succ d =>
   obtain ⟨a',c',e,h⟩:=h
   injection e with e1 e2 e3
   subst e1
   refine ⟨e2,fun hn=>?_⟩
   obtain ⟨x,hx⟩ : ∃ x,ks[0]?=some x:=⟨_,List.getElem?_eq_getElem (by omega)⟩
   obtain ⟨g,o,kv',ea,hg,_,_⟩:=h 0 x hx
   exact ⟨g,o,ea,hg.2⟩
theorem keyX_of {w : World} {k : Int} {a : Option Addr} {n : Nat} (h : n≠0→∃ g o,a=some ⟨g,o,none⟩∧UBlk w g) : KBlk w (keyX k a n):=by
 unfold keyX
 split
 ·split
  ·exact KBlk.nil w
  ·rename_i hn
   obtain ⟨g,o,rfl,hu⟩:=h hn
   intro x hx
   obtain rfl:=Option.some.inj hx
   exact hu
 ·exact KBlk.nil w
theorem kset_all {w : World} {N d : Nat} {ks : List PEx} {f : Nat→Option Addr × Nat} : ∀ (l : List PEx) (i : Nat),(∀ j x,l[j]?=some x→∃ L,f (i+j)∈L∧L.length≤sizeI x∧KSet w N d L) →
 ∃ L,(∀ j,j < l.length→f (i+j)∈L)∧L.length≤sizeIs l∧KSet w N d L
 | [],i,_=>⟨[],fun j hj=>by simp at hj,Nat.le_refl _,KSet.empty w N d⟩
 | x :: r,i,h=>by
   obtain ⟨L,h1,h2,h3⟩:=h 0 x rfl
   obtain ⟨M,h4,h5,h6⟩:=kset_all (ks:=ks) r (i+1) (fun j y hj=>by
    have:=h (j+1) y (by simpa using hj)
    rwa [show i+(j+1)=i+1+j by omega] at this)
   refine ⟨L++M,fun j hj=>?_,by rw [List.length_append,sizeIs_cons];omega,h3.app h6⟩
   cases j with
   | zero=>exact List.mem_append_left _ h1
   | succ j =>
     have:=h4 j (by simpa using hj)
     rw [show i+1+j=i+(j+1) by omega] at this
     exact List.mem_append_right _ this
theorem mostF_eq {f : Option Addr × Nat→Int} : ∀ {ks : List (Option Addr × Nat)} {l : List PEx},ks.length=l.length→(∀ (j : Nat) (x : PEx) (c : Option Addr × Nat),l[j]?=some x→ks[j]?=some c→f c=deepI x)→mostF f ks=deepIs l:=fun {ks l}=>by
 have key : ∀ (ks : List (Option Addr × Nat)) (l : List PEx) (m : Int),0≤m→ks.length=l.length→(∀ (j : Nat) (x : PEx) (c : Option Addr × Nat),l[j]?=some x→ks[j]?=some c→f c=deepI x)→ks.foldl (fun m k=>max m (f k)) m=max m (deepIs l):=fun ks=>by
  induction ks with
  | nil =>
    intro l m hm hl _
    cases l with
    | nil=>rw [deepIs_nil];show m=max m 0;omega
    | cons x r=>simp at hl
  | cons k ks ih =>
    intro l m hm hl h
    cases l with
    | nil=>simp at hl
    | cons x r =>
      have h0:=h 0 x k rfl rfl
      rw [List.foldl_cons,ih r _ (by omega) (by simpa using hl) (fun j y c h1 h2=>h (j+1) y c (by simpa using h1) (by simpa using h2)),deepIs_cons,h0]
      omega
 intro hl h
 have h2:=key ks l 0 (Int.le_refl _) hl h
 have h3 : 0≤deepIs l:=by
  cases l with
  | nil=>rw [deepIs_nil];decide
  | cons x r =>
    have : ∀ l : List PEx,0≤deepIs l:=fun l=>by
     induction l with
     | nil=>rw [deepIs_nil];decide
     | cons x r ih=>rw [deepIs_cons];omega
    exact this _
 rw [mostF,h2]
 omega
theorem kset_of {K : Nat→Prop} {w : World} (hK : K 0) : ∀ (d : Nat) (x : PEx) (a : Option Addr) (c : Nat),ExK K w d (.slice a x.ks.length c) x.ks →
 ∃ L,keyX x.k a x.ks.length∈L∧L.length≤sizeI x∧KSet w (sizeI x) d L∧∀ m,d≤m→depN w m (keyX x.k a x.ks.length)=deepI x
 | d,.mk k v b f ks,a,c,h=>by
   have h' : ExK K w d (.slice a ks.length c) ks:=h
   show ∃ L,keyX k a ks.length∈L∧L.length≤sizeI (.mk k v b f ks)∧KSet w (sizeI (.mk k v b f ks)) d L∧∀ m,d≤m→depN w m (keyX k a ks.length)=deepI (.mk k v b f ks)
   have hsz : sizeI (.mk k v b f ks)=1+sizeIs ks:=sizeI_mk _ _ _ _ _
   have hdp : deepI (.mk k v b f ks)=if k=7∨k=8 then 1+deepIs ks else 1:=deepI_mk _ _ _ _ _
   rw [hsz,hdp]
   by_cases hk : k=7∨k=8
   ·rw [if_pos hk]
    by_cases hn : ks.length=0
    ·have hks : ks=[]:=List.eq_nil_of_length_eq_zero hn
     rw [show keyX k a ks.length=(none,0) by unfold keyX;rw [if_pos hk,if_pos hn]]
     exact ⟨[(none,0)],List.mem_singleton.2 rfl,by simp,KSet.nil _ _ _,fun m _=>by rw [depN_nil,hks,deepIs_nil];rfl⟩
    ·cases d with
     | zero =>
       obtain ⟨_,h0⟩:=h'
       rw [h0] at hn
       exact absurd rfl hn
     | succ d =>
       obtain ⟨_,ha⟩:=h'.addr
       obtain ⟨g,o,rfl,hu⟩:=ha hn
       have hu:=hu hK
       rw [show keyX k (some ⟨g,o,none⟩) ks.length=(some ⟨g,o,none⟩,ks.length) by unfold keyX;rw [if_pos hk,if_neg hn]]
       obtain ⟨a',c',e,h2⟩:=h'
       injection e with e1 e2 e3
       subst e1
       have hne : (some (⟨g,o,none⟩ : Addr),ks.length)≠(none,0):=fun e=>by simp at e
       have hkid : ∀ j x,ks[j]?=some x→∃ a2 c2,(w.cell? ⟨g,o+j*7,none⟩=some (.int .i64 x.k)∧w.cell? ⟨g,o+j*7+1,none⟩=some (.int .i64 x.v.k)∧w.cell? ⟨g,o+j*7+2,none⟩=some (.int .i64 x.v.n)∧w.cell? ⟨g,o+j*7+3,none⟩=some (.string (strB x.v.s))∧w.cell? ⟨g,o+j*7+4,none⟩=some (.string (strB x.x))∧w.cell? ⟨g,o+j*7+5,none⟩=some (.string (strB x.f))∧w.cell? ⟨g,o+j*7+6,none⟩=some (.slice a2 x.ks.length c2))∧ExK K w d (.slice a2 x.ks.length c2) x.ks∧kidK w (some ⟨g,o,none⟩,ks.length) j=keyX x.k a2 x.ks.length:=fun j x hx=>by
        obtain ⟨g',o',kv',ea,_,hc,hk'⟩:=h2 j x hx
        have ea:=Option.some.inj ea
        injection ea with e4 e5
        subst e4 e5
        obtain ⟨a2,c2,rfl⟩:=hk'.slice
        refine ⟨a2,c2,hc,hk',?_⟩
        unfold kidK
        dsimp only
        rw [hc.1,hc.2.2.2.2.2.2]
       obtain ⟨L,h3,h4,h5⟩:=kset_all (w:=w) (N:=sizeIs ks) (d:=d) (ks:=ks) (f:=kidK w (some ⟨g,o,none⟩,ks.length)) ks 0 (fun j x hj=>by
        obtain ⟨a2,c2,_,h6,h7⟩:=hkid j x hj
        obtain ⟨L,h8,h9,h10,_⟩:=kset_of hK d x a2 c2 h6
        rw [Nat.zero_add,h7]
        exact ⟨L,h8,h9,h10.le (sizeIs_mem (List.mem_of_getElem? hj)) (Nat.le_refl _)⟩)
       have hdep : ∀ m,d≤m→mostF (depN w m) (kidsF w (some ⟨g,o,none⟩,ks.length))=deepIs ks:=fun m hm=>mostF_eq (by rw [kidsF_len]) (fun j x c hx hc=>by
        obtain ⟨a2,c2,_,h6,h7⟩:=hkid j x hx
        rw [kidsF_at (List.getElem?_eq_some_iff.1 hx).1,h7] at hc
        rw [← Option.some.inj hc]
        obtain ⟨_,_,_,_,h8⟩:=kset_of hK d x a2 c2 h6
        exact h8 m hm)
       have hd : ∀ m,d+1≤m→depN w m (some ⟨g,o,none⟩,ks.length)=1+deepIs ks:=fun m hm=>by
        obtain ⟨m,rfl⟩ : ∃ m',m=m'+1:=⟨m - 1,by omega⟩
        rw [depN,if_neg hne,hdep m (by omega)]
       refine ⟨(some ⟨g,o,none⟩,ks.length) :: L,List.mem_cons_self,by rw [List.length_cons];omega,⟨fun s hs c hc=>?_,fun s hs h0=>?_,fun s hs=>?_⟩,hd⟩
       ·rcases List.mem_cons.1 hs with rfl|hs
        ·obtain ⟨j,hj⟩:=List.getElem?_of_mem hc
         have hjl : j < ks.length:=by
          have:=(List.getElem?_eq_some_iff.1 hj).1
          rwa [kidsF_len] at this
         rw [kidsF_at hjl] at hj
         rw [← Option.some.inj hj]
         have:=h3 j hjl
         rw [Nat.zero_add] at this
         exact List.mem_cons_of_mem _ this
        ·exact List.mem_cons_of_mem _ (h5.kid s hs c hc)
       ·rcases List.mem_cons.1 hs with rfl|hs
        ·refine ⟨?_,Nat.pos_of_ne_zero hn,ks,rfl,⟨kidsF_len _ _,fun j x hx=>?_⟩,fun y hy=>?_⟩
         ·have:=sizeIs_len ks
          show ks.length≤_
          omega
         ·obtain ⟨a2,c2,hc,h6,h7⟩:=hkid j x hx
          obtain ⟨_,h8⟩:=h6.addr
          refine ⟨g,o,a2,c2,rfl,hc,fun hn=>?_,keyX_of fun hn=>?_,?_⟩
          ·obtain ⟨g',o',e,_⟩:=h8 hn
           exact ⟨g',o',e⟩
          ·obtain ⟨g',o',e,hu'⟩:=h8 hn
           exact ⟨g',o',e,hu' hK⟩
          ·rw [kidsF_at (List.getElem?_eq_some_iff.1 hx).1,h7]
         ·obtain rfl:=Option.some.inj hy
          exact hu
        ·have:=(h5.le (Nat.le_succ _) (Nat.le_refl _)).row s hs h0
         rw [Nat.add_comm 1]
         exact this
       ·rcases List.mem_cons.1 hs with rfl|hs
        ·exact ⟨_,by have:=deepIs_size ks;omega,hd⟩
        ·exact (h5.le (Nat.le_add_left _ _) (Nat.le_succ _)).st s hs
   ·rw [if_neg hk]
    rw [show keyX k a ks.length=(none,0) by unfold keyX;rw [if_neg hk]]
    exact ⟨[(none,0)],List.mem_singleton.2 rfl,by simp,KSet.nil _ _ _,fun m _=>depN_nil w m⟩
 termination_by d=>d
theorem nodup_of {α : Type} [DecidableEq α] : ∀ (l : List α),∃ m : List α,m.Nodup∧m.length≤l.length∧∀ x,x∈m ↔ x∈l
 | []=>⟨[],List.nodup_nil,Nat.le_refl _,fun x=>Iff.rfl⟩
 | a :: l=>by
   obtain ⟨m,h1,h2,h3⟩:=nodup_of l
   by_cases h : a∈m
   ·exact ⟨m,h1,Nat.le_succ_of_le h2,fun x=>by
     rw [h3,List.mem_cons]
     exact ⟨Or.inr,fun h4=>h4.elim (fun e=>e ▸ (h3 a).1 h) id⟩⟩
   ·exact ⟨a :: m,List.nodup_cons.2 ⟨h,h1⟩,Nat.succ_le_succ h2,fun x=>by rw [List.mem_cons,List.mem_cons,h3]⟩
theorem wtS_bound {kids : Option Addr × Nat→List (Option Addr × Nat)} {f : Option Addr × Nat→Int} {N : Nat} : ∀ {R : List (Option Addr × Nat)},(∀ r∈R,(kids r).length≤N)→wtS R kids f≤R.length*(N+2)
 | [],_=>by simp [wtS]
 | r :: R,h=>by
   have ih:=wtS_bound (f:=f) (fun r hr=>h r (List.mem_cons_of_mem _ hr))
   have h1:=h r List.mem_cons_self
   have h2 : wtF kids f r≤N+2:=by unfold wtF;split;omega;split <;> omega
   unfold wtS at ih ⊢
   rw [List.map_cons,List.sum_cons,List.length_cons,Nat.succ_mul]
   omega
theorem rows_of {K : Nat→Prop} {w : World} (hK : K 0) {d : Nat} {x : PEx} {a : Option Addr} {c : Nat} (h : ExK K w d (.slice a x.ks.length c) x.ks) (hs : sizeI x≤10000) :
 ∃ R dep,DRows R (kidsF w) dep∧keyX x.k a x.ks.length∈R∧dep (keyX x.k a x.ks.length)=deepI x∧(∀ s∈R,s≠(none,0)→0 < s.2∧∃ l : List PEx,s.2=l.length∧l.length≤10000∧KidsAt w s.1 l (kidsF w s)∧KBlk w s)∧(∀ s∈R,dep s≤10001)∧∀ f,wtS R (kidsF w) f≤200000000:=by
 obtain ⟨L,h1,h2,h3,h4⟩:=kset_of hK d x a c h
 obtain ⟨R,g1,g2,g3⟩:=nodup_of L
 refine ⟨R,depN w d,⟨g1,fun r hr s hs=>(g3 s).2 (h3.kid r ((g3 r).1 hr) s hs),depN_nil w d,fun r hr hn=>?_⟩,(g3 _).2 h1,h4 d (Nat.le_refl _),fun s hs0 hn=>?_,fun s hs=>?_,fun f=>?_⟩
 ·obtain ⟨v,_,hv⟩:=h3.st r ((g3 r).1 hr)
  rw [hv d (Nat.le_refl _),← hv (d+1) (Nat.le_succ _),depN,if_neg hn]
 ·obtain ⟨h5,h6,l,h7,h8,h9⟩:=h3.row s ((g3 s).1 hs0) hn
  exact ⟨h6,l,h7,by omega,h8,h9⟩
 ·obtain ⟨v,hb,hv⟩:=h3.st s ((g3 s).1 hs)
  rw [hv d (Nat.le_refl _)]
  omega
 ·have h5 : ∀ r∈R,(kidsF w r).length≤10000:=fun r hr=>by
   rw [kidsF_len]
   by_cases hn : r=(none,0)
   ·rw [hn];exact Nat.zero_le _
   ·have:=(h3.row r ((g3 r).1 hr) hn).1
    omega
  have h6:=wtS_bound (f:=f) h5
  have h7 : R.length*(10000+2)≤10000*(10000+2):=Nat.mul_le_mul_right _ (by omega)
  omega
end Go.Proofs.YtefcbgnckgapgaaGreatDoor
namespace Go.Proofs.YtefcbgnckgapgaaGreatDoor
open Go.RowKit Go.Lib Go.Op
end Go.Proofs.YtefcbgnckgapgaaGreatDoor
namespace Go.Proofs.YtefcbgnckgapgaaGreatDoor
open Go.RowKit Go.Lib Go.Op
def ISm (i : PIt) : Prop:=i.x.length < 3000∧i.ns.length < 3000∧∀ b∈i.ns,b.length < 3000
def PSm (p : PPr) : Prop:=(XBd p.l∧sizeI p.l < 3000)∧XBd p.r∧sizeI p.r < 3000
structure QSm (p : PQu) : Prop where
 n1 : p.its.length < 3000
 n2 : p.prs.length < 3000
 by_ : p.by_.length < 3000
 its : ∀ i∈p.its,ISm i
 prs : ∀ x∈p.prs,PSm x
structure GIts (p : PQu) (w : World) (X : Obj) (wr : World) (N : Int) (j : Nat) : Prop where
 low : Below (w.heap.size+1) (w.alloc X) wr
 lo : 0≤N
 hi : N≤1000000000000000
 sm : N < 3000→(p.its.length < 3000∧p.prs.length < 3000∧p.by_.length < 3000)∧∀ i∈p.its.take j,ISm i
structure GNames (p : PQu) (i : PIt) (w : World) (X : Obj) (wr : World) (N : Int) (j k : Nat) : Prop where
 low : Below (w.heap.size+1) (w.alloc X) wr
 lo : 0≤N
 hi : N≤1000000000000000
 sm : N < 3000→((p.its.length < 3000∧p.prs.length < 3000∧p.by_.length < 3000)∧∀ i∈p.its.take j,ISm i)∧i.x.length < 3000∧i.ns.length < 3000∧∀ b∈i.ns.take k,b.length < 3000
structure GPrs (p : PQu) (w : World) (X : Obj) (wr : World) (N : Int) (j : Nat) : Prop where
 low : Below (w.heap.size+1) (w.alloc X) wr
 lo : 0≤N
 hi : N≤1000000000000000
 sm : N < 3000→((p.its.length < 3000∧p.prs.length < 3000∧p.by_.length < 3000)∧∀ i∈p.its,ISm i)∧∀ x∈p.prs.take j,PSm x
theorem RowK.nameAt3 {K : Nat→Prop} {w : World} {a : Option Addr} {n c : Nat} {l : List (List UInt8)} (h : RowK nameD K w (.slice a n c) l) {j : Nat} {b : List UInt8} (hj : l[j]?=some b) : ∃ g o,a=some ⟨g,o,none⟩∧w.cell? ⟨g,o+j,none⟩=some (.string (strB b)):=by
 obtain ⟨a',c',e,_,h⟩:=h
 injection e with e1 e2 e3
 obtain ⟨g,o,cs,ea,hg,hcs,hc⟩:=h j b hj
 have hcs : cs=[.string (strB b)]:=hcs
 subst hcs
 have:=hc 0 _ rfl
 exact ⟨g,o,e1.trans ea,by simpa [nameD] using this⟩
end Go.Proofs.YtefcbgnckgapgaaGreatDoor
namespace Go.Proofs.YtefcbgnckgapgaaGreatDoor
open Go.RowKit Go.Lib Go.Op
noncomputable def sameB {α : Type} (x y : α) : Bool:=@decide (x=y) (Classical.propDecidable _)
theorem sameB_yes {α : Type} {x y : α} (h : x=y) : sameB x y=true:=@decide_eq_true _ (Classical.propDecidable _) h
theorem sameB_no {α : Type} {x y : α} (h : x≠y) : sameB x y=false:=@decide_eq_false _ (Classical.propDecidable _) h
theorem sameB_of {α : Type} {x y : α} (h : sameB x y=true) : x=y:=@of_decide_eq_true _ (Classical.propDecidable _) h
theorem below_drew2 {n : Nat} {w W : World} (h : Below n w W) : Below n w W.drew:=⟨h.os,h.tape,h.output,h.size,h.block⟩
section
variable {w : World} {a a' : Option Addr} {c c' n n' : Nat} {k k' vk vk' vn vn' : Int} {vs vs' xx xx' f f' : List UInt8}
set_option maxHeartbeats 2000000 in
set_option maxRecDepth 100000 in
theorem sx_no (h : ¬ (k=k'∧vk=vk'∧vn=vn'∧vs=vs'∧xx=xx'∧f=f'∧n=n')) :
 Calls Tryz.prog 63 #[.agg #[.int .i64 k,.int .i64 vk,.int .i64 vn,.string (strB vs),.string (strB xx),.string (strB f),.slice a n c],.agg #[.int .i64 k',.int .i64 vk',.int .i64 vn',.string (strB vs'),.string (strB xx'),.string (strB f'),.slice a' n' c']] w fun e w'=>e=.returned (.bool false)∧Below w.heap.size w w':=by
 have HB0:=hid (((Below.refl w.heap.size w).alloc (Nat.le_refl _) (.cells #[.int .i64 k,.int .i64 vk,.int .i64 vn,.string (strB vs),.string (strB xx),.string (strB f),.slice a n c] 40)).alloc (by simp) (.cells #[.int .i64 k',.int .i64 vk',.int .i64 vn',.string (strB vs'),.string (strB xx'),.string (strB f'),.slice a' n' c'] 40))
 have H:=hid h
 clear h
 go_enter Tryz.func63,Tryz.ntmps63
 go_wp2
 all_goals first
  | (go_ret;exact ⟨rfl,((Below.refl w.heap.size w).alloc (Nat.le_refl _) _).alloc (by simp) _⟩)
  | (exfalso;have H1:=H.out;simp_all [tB_list];omega)
end
set_option maxHeartbeats 2000000 in
set_option maxRecDepth 100000 in
theorem sx_step {w : World} {a a' : Option Addr} {c c' n : Nat} {k vk vn : Int} {vs xx f : List UInt8} {ks ks' : List PEx} (h1 : ks.length=n) (h2 : ks'.length=n) (hn : n≤maxLen)
 (hk : ∀ j y z,ks[j]?=some y→ks'[j]?=some z→∃ g o a1 c1 g' o' a2 c2,a=some ⟨g,o,none⟩∧a'=some ⟨g',o',none⟩∧(w.cell? ⟨g,o+j*7,none⟩=some (.int .i64 y.k)∧w.cell? ⟨g,o+j*7+1,none⟩=some (.int .i64 y.v.k)∧w.cell? ⟨g,o+j*7+2,none⟩=some (.int .i64 y.v.n)∧w.cell? ⟨g,o+j*7+3,none⟩=some (.string (strB y.v.s))∧w.cell? ⟨g,o+j*7+4,none⟩=some (.string (strB y.x))∧w.cell? ⟨g,o+j*7+5,none⟩=some (.string (strB y.f))∧w.cell? ⟨g,o+j*7+6,none⟩=some (.slice a1 y.ks.length c1))∧(w.cell? ⟨g',o'+j*7,none⟩=some (.int .i64 z.k)∧w.cell? ⟨g',o'+j*7+1,none⟩=some (.int .i64 z.v.k)∧w.cell? ⟨g',o'+j*7+2,none⟩=some (.int .i64 z.v.n)∧w.cell? ⟨g',o'+j*7+3,none⟩=some (.string (strB z.v.s))∧w.cell? ⟨g',o'+j*7+4,none⟩=some (.string (strB z.x))∧w.cell? ⟨g',o'+j*7+5,none⟩=some (.string (strB z.f))∧w.cell? ⟨g',o'+j*7+6,none⟩=some (.slice a2 z.ks.length c2)) ∧
   ∀ W,Below w.heap.size w W→Calls Tryz.prog 63 #[exV y (.slice a1 y.ks.length c1),exV z (.slice a2 z.ks.length c2)] W fun e w'=>e=.returned (.bool (sameB y z))∧Below W.heap.size W w') :
 Calls Tryz.prog 63 #[.agg #[.int .i64 k,.int .i64 vk,.int .i64 vn,.string (strB vs),.string (strB xx),.string (strB f),.slice a n c],.agg #[.int .i64 k,.int .i64 vk,.int .i64 vn,.string (strB vs),.string (strB xx),.string (strB f),.slice a' n c']] w fun e w'=>e=.returned (.bool (sameB ks ks'))∧Below w.heap.size w w':=by
 have HK:=hid hk
 obtain ⟨sx,hsx⟩ : ∃ s,strB xx=s:=⟨_,rfl⟩
 obtain ⟨sf,hsf⟩ : ∃ s,strB f=s:=⟨_,rfl⟩
 obtain ⟨ss,hss⟩ : ∃ s,strB vs=s:=⟨_,rfl⟩
 rw [hsx,hsf,hss]
 have H1:=hid h1
 have H2:=hid h2
 have hb0:=((Below.refl w.heap.size w).alloc (Nat.le_refl _) (.cells #[.int .i64 k,.int .i64 vk,.int .i64 vn,.string ss,.string sx,.string sf,.slice a n c] 40)).alloc (by simp) (.cells #[.int .i64 k,.int .i64 vk,.int .i64 vn,.string ss,.string sx,.string sf,.slice a' n c'] 40)
 have HB0:=hid hb0
 have HX1 : Hid (XBlk ((w.alloc (.cells #[.int .i64 k,.int .i64 vk,.int .i64 vn,.string ss,.string sx,.string sf,.slice a n c] 40)).alloc (.cells #[.int .i64 k,.int .i64 vk,.int .i64 vn,.string ss,.string sx,.string sf,.slice a' n c'] 40)) w.heap.size (.int .i64 k) (.int .i64 vk) (.int .i64 vn) (.string ss) (.string sx) (.string sf) (.slice a n c)):=(((Below.refl (w.alloc (.cells #[.int .i64 k,.int .i64 vk,.int .i64 vn,.string ss,.string sx,.string sf,.slice a n c] 40)).heap.size (w.alloc (.cells #[.int .i64 k,.int .i64 vk,.int .i64 vn,.string ss,.string sx,.string sf,.slice a n c] 40))).alloc (Nat.le_refl _) (.cells #[.int .i64 k,.int .i64 vk,.int .i64 vn,.string ss,.string sx,.string sf,.slice a' n c'] 40)).block w.heap.size (by simp)).trans (XBlk.new w (.int .i64 k) (.int .i64 vk) (.int .i64 vn) (.string ss) (.string sx) (.string sf) (.slice a n c))
 have HX2 : Hid (XBlk ((w.alloc (.cells #[.int .i64 k,.int .i64 vk,.int .i64 vn,.string ss,.string sx,.string sf,.slice a n c] 40)).alloc (.cells #[.int .i64 k,.int .i64 vk,.int .i64 vn,.string ss,.string sx,.string sf,.slice a' n c'] 40)) (w.heap.size+1) (.int .i64 k) (.int .i64 vk) (.int .i64 vn) (.string ss) (.string sx) (.string sf) (.slice a' n c')):=by
  have h9:=XBlk.new (w.alloc (.cells #[.int .i64 k,.int .i64 vk,.int .i64 vn,.string ss,.string sx,.string sf,.slice a n c] 40)) (.int .i64 k) (.int .i64 vk) (.int .i64 vn) (.string ss) (.string sx) (.string sf) (.slice a' n c')
  have e9 : (w.alloc (.cells #[.int .i64 k,.int .i64 vk,.int .i64 vn,.string ss,.string sx,.string sf,.slice a n c] 40)).heap.size=w.heap.size+1:=by simp
  rw [e9] at h9
  exact h9
 obtain ⟨z,hz⟩ : ∃ z,sameB ks ks'=z:=⟨_,rfl⟩
 rw [hz]
 have HZ:=hid hz
 unfold maxLen at hn
 clear hk hz hsx hsf hss h1 h2 hb0
 go_enter Tryz.func63,Tryz.ntmps63
 go_wp2
 go_loopw [5] (fun i wr=>∃ (j : Nat),i=.int .i64 j∧j≤n∧Hid (ks.take j=ks'.take j)∧Hid (Below (w.heap.size+2) ((w.alloc (.cells #[.int .i64 k,.int .i64 vk,.int .i64 vn,.string ss,.string sx,.string sf,.slice a n c] 40)).alloc (.cells #[.int .i64 k,.int .i64 vk,.int .i64 vn,.string ss,.string sx,.string sf,.slice a' n c'] 40)) wr)) (fun i _=>n - (RowKit.intOf i).toNat)
 case atStart=>exact ⟨0,rfl,Nat.zero_le _,rfl,Below.refl _ _⟩
 case round =>
  obtain ⟨j,rfl,hj,HG,HB⟩:=hrel
  have hx1:=(HB.out.block w.heap.size (by omega)).trans HX1.out
  have hx2:=(HB.out.block (w.heap.size+1) (by omega)).trans HX2.out
  obtain ⟨_,_,_,_,_,_,x6,_,_,_,_,_,_,_⟩:=XBlk.all hx1
  obtain ⟨_,_,_,_,_,_,y6,_,_,_,_,_,_,_⟩:=XBlk.all hx2
  have HBw:=hid (HB0.out.trans (HB.out.mono (by omega)))
  have hsz : w.heap.size+2≤wr.heap.size:=by
   have:=HB.out.size
   simpa using this
  by_cases hlt : j < n
  ·obtain ⟨y,hy⟩ : ∃ y,ks[j]?=some y:=⟨_,List.getElem?_eq_getElem (by rw [H1.out];exact hlt)⟩
   obtain ⟨u,hu⟩ : ∃ u,ks'[j]?=some u:=⟨_,List.getElem?_eq_getElem (by rw [H2.out];exact hlt)⟩
   obtain ⟨g,o,a1,c1,g',o',a2,c2,rfl,rfl,⟨e0,e1,e2,e3,e4,e5,e6⟩,⟨i0,i1,i2,i3,i4,i5,i6⟩,hcall⟩:=HK.out j y u hy hu
   have d0:=tkeep HBw.out e0
   have d1:=tkeep HBw.out e1
   have d2:=tkeep HBw.out e2
   have d3:=tkeep HBw.out e3
   have d4:=tkeep HBw.out e4
   have d5:=tkeep HBw.out e5
   have d6:=tkeep HBw.out e6
   have f0:=tkeep HBw.out i0
   have f1:=tkeep HBw.out i1
   have f2:=tkeep HBw.out i2
   have f3:=tkeep HBw.out i3
   have f4:=tkeep HBw.out i4
   have f5:=tkeep HBw.out i5
   have f6:=tkeep HBw.out i6
   obtain ⟨n1,hn1⟩ : ∃ n1,y.ks.length=n1:=⟨_,rfl⟩
   obtain ⟨n2,hn2⟩ : ∃ n2,u.ks.length=n2:=⟨_,rfl⟩
   rw [hn1] at d6 hcall
   rw [hn2] at f6 hcall
   have HC:=hcall wr.drew (vbelow_drew HBw.out)
   have x6 : wr.drew.cell? _=_:=x6
   have y6 : wr.drew.cell? _=_:=y6
   have d0 : wr.drew.cell? _=_:=d0
   have d1 : wr.drew.cell? _=_:=d1
   have d2 : wr.drew.cell? _=_:=d2
   have d3 : wr.drew.cell? _=_:=d3
   have d4 : wr.drew.cell? _=_:=d4
   have d5 : wr.drew.cell? _=_:=d5
   have d6 : wr.drew.cell? _=_:=d6
   have f0 : wr.drew.cell? _=_:=f0
   have f1 : wr.drew.cell? _=_:=f1
   have f2 : wr.drew.cell? _=_:=f2
   have f3 : wr.drew.cell? _=_:=f3
   have f4 : wr.drew.cell? _=_:=f4
   have f5 : wr.drew.cell? _=_:=f5
   have f6 : wr.drew.cell? _=_:=f6
   simp only [xexV] at HC
   have HY:=hid hy
   have HU:=hid hu
   cases hr : sameB y u with
   | true =>
     rw [hr] at HC
     have HC:=hid HC
     have HN : Hid (ks.take (j+1)=ks'.take (j+1)):=by
      show _=_
      have hyu : y=u:=by
       exact sameB_of hr
      rw [List.take_add_one,List.take_add_one,HY.out,HU.out,HG.out,hyu]
     clear hy hu hcall hn1 hn2 e0 e1 e2 e3 e4 e5 e6 i0 i1 i2 i3 i4 i5 i6 hx1 hx2 hr
     go_wp2_with fail
     refine wp_region_held_drew (S:=fun W=>W.cell? ⟨w.heap.size,6,none⟩=some (.slice (some ⟨g,o,none⟩) n c)∧W.cell? ⟨w.heap.size+1,6,none⟩=some (.slice (some ⟨g',o',none⟩) n c')∧W.cell? ⟨g,o+j*7,none⟩=some (.int .i64 y.k)∧W.cell? ⟨g,o+j*7+1,none⟩=some (.int .i64 y.v.k)∧W.cell? ⟨g,o+j*7+2,none⟩=some (.int .i64 y.v.n)∧W.cell? ⟨g,o+j*7+3,none⟩=some (.string (strB y.v.s))∧W.cell? ⟨g,o+j*7+4,none⟩=some (.string (strB y.x))∧W.cell? ⟨g,o+j*7+5,none⟩=some (.string (strB y.f))∧W.cell? ⟨g,o+j*7+6,none⟩=some (.slice a1 n1 c1)∧W.cell? ⟨g',o'+j*7,none⟩=some (.int .i64 u.k)∧W.cell? ⟨g',o'+j*7+1,none⟩=some (.int .i64 u.v.k)∧W.cell? ⟨g',o'+j*7+2,none⟩=some (.int .i64 u.v.n)∧W.cell? ⟨g',o'+j*7+3,none⟩=some (.string (strB u.v.s))∧W.cell? ⟨g',o'+j*7+4,none⟩=some (.string (strB u.x))∧W.cell? ⟨g',o'+j*7+5,none⟩=some (.string (strB u.f))∧W.cell? ⟨g',o'+j*7+6,none⟩=some (.slice a2 n2 c2)) (by kernel_rfl) ⟨x6,y6,d0,d1,d2,d3,d4,d5,d6,f0,f1,f2,f3,f4,f5,f6⟩ (fun hHeld=>?_)
     refine tK 0 48 (h:=?_)
     try simp only [Act.put,sI,sZ,sS]
     refine tK 1 49 (h:=?_)
     try simp only [Act.put,sI,sZ,sS]
     refine tK 2 50 (h:=?_)
     try simp only [Act.put,sI,sZ,sS]
     refine tK 3 51 (h:=?_)
     try simp only [Act.put,sI,sZ,sS]
     refine tK 4 52 (h:=?_)
     try simp only [Act.put,sI,sZ,sS]
     refine tK 5 53 (h:=?_)
     try simp only [Act.put,sI,sZ,sS]
     refine tK 6 54 (h:=?_)
     try simp only [Act.put,sI,sZ,sS]
     refine tK 7 55 (h:=?_)
     try simp only [Act.put,sI,sZ,sS]
     refine tK 8 56 (h:=?_)
     try simp only [Act.put,sI,sZ,sS]
     refine tK 9 57 (h:=?_)
     try simp only [Act.put,sI,sZ,sS]
     refine wpAnyH_ready (rs:=[10]) (by kernel_rfl) (by simp) ?_
     refine AllReadyH.cons (o:=_) rfl (fun K hK=>?_) AllReadyH.nil
     dsimp only [List.getElem_toArray,List.getElem_cons_succ,List.getElem_cons_zero]
     go_simp
     go_at_call 63
     (with_reducible refine HC.out.mono ?_)
     rintro e w1 ⟨rfl,hb1⟩
     have HB1:=hid ((below_drew2 HB.out).trans (hb1.mono (show _≤wr.drew.heap.size from hsz)))
     have qx6:=tkeep hb1 x6
     have qy6:=tkeep hb1 y6
     have qd0:=tkeep hb1 d0
     have qd1:=tkeep hb1 d1
     have qd2:=tkeep hb1 d2
     have qd3:=tkeep hb1 d3
     have qd4:=tkeep hb1 d4
     have qd5:=tkeep hb1 d5
     have qd6:=tkeep hb1 d6
     have qf0:=tkeep hb1 f0
     have qf1:=tkeep hb1 f1
     have qf2:=tkeep hb1 f2
     have qf3:=tkeep hb1 f3
     have qf4:=tkeep hb1 f4
     have qf5:=tkeep hb1 f5
     have qf6:=tkeep hb1 f6
     clear hb1
     go_wp2_with fail
     refine hK.out _ _ ⟨qx6,qy6,qd0,qd1,qd2,qd3,qd4,qd5,qd6,qf0,qf1,qf2,qf3,qf4,qf5,qf6⟩ (fun hHelda0=>?_)
     clear hK K
     try simp only [Act.put,sI,sZ,sS]
     refine tK 11 59 (h:=?_)
     try simp only [Act.put,sI,sZ,sS]
     refine wpAnyH_done (by kernel_rfl) ?_ _
     go_wp2_with fail
     go_roundw
     case rel=>exact ⟨j+1,by go_num,by omega,HN,HB1⟩
     case measure=>simp [RowKit.intOf];omega
   | false =>
     rw [hr] at HC
     have HC:=hid HC
     have HE : Hid (z=false):=by
      show _=_
      rw [← HZ.out]
      refine sameB_no (fun e=>?_)
      have hyu : y=u:=by
       have h3:=HY.out
       have h4:=HU.out
       rw [e,h4] at h3
       exact (Option.some.inj h3).symm
      rw [sameB_yes hyu] at hr
      cases hr
     clear hy hu hcall hn1 hn2 e0 e1 e2 e3 e4 e5 e6 i0 i1 i2 i3 i4 i5 i6 hx1 hx2 hr
     go_wp2_with fail
     refine wp_region_held_drew (S:=fun W=>W.cell? ⟨w.heap.size,6,none⟩=some (.slice (some ⟨g,o,none⟩) n c)∧W.cell? ⟨w.heap.size+1,6,none⟩=some (.slice (some ⟨g',o',none⟩) n c')∧W.cell? ⟨g,o+j*7,none⟩=some (.int .i64 y.k)∧W.cell? ⟨g,o+j*7+1,none⟩=some (.int .i64 y.v.k)∧W.cell? ⟨g,o+j*7+2,none⟩=some (.int .i64 y.v.n)∧W.cell? ⟨g,o+j*7+3,none⟩=some (.string (strB y.v.s))∧W.cell? ⟨g,o+j*7+4,none⟩=some (.string (strB y.x))∧W.cell? ⟨g,o+j*7+5,none⟩=some (.string (strB y.f))∧W.cell? ⟨g,o+j*7+6,none⟩=some (.slice a1 n1 c1)∧W.cell? ⟨g',o'+j*7,none⟩=some (.int .i64 u.k)∧W.cell? ⟨g',o'+j*7+1,none⟩=some (.int .i64 u.v.k)∧W.cell? ⟨g',o'+j*7+2,none⟩=some (.int .i64 u.v.n)∧W.cell? ⟨g',o'+j*7+3,none⟩=some (.string (strB u.v.s))∧W.cell? ⟨g',o'+j*7+4,none⟩=some (.string (strB u.x))∧W.cell? ⟨g',o'+j*7+5,none⟩=some (.string (strB u.f))∧W.cell? ⟨g',o'+j*7+6,none⟩=some (.slice a2 n2 c2)) (by kernel_rfl) ⟨x6,y6,d0,d1,d2,d3,d4,d5,d6,f0,f1,f2,f3,f4,f5,f6⟩ (fun hHeld=>?_)
     refine tK 0 48 (h:=?_)
     try simp only [Act.put,sI,sZ,sS]
     refine tK 1 49 (h:=?_)
     try simp only [Act.put,sI,sZ,sS]
     refine tK 2 50 (h:=?_)
     try simp only [Act.put,sI,sZ,sS]
     refine tK 3 51 (h:=?_)
     try simp only [Act.put,sI,sZ,sS]
     refine tK 4 52 (h:=?_)
     try simp only [Act.put,sI,sZ,sS]
     refine tK 5 53 (h:=?_)
     try simp only [Act.put,sI,sZ,sS]
     refine tK 6 54 (h:=?_)
     try simp only [Act.put,sI,sZ,sS]
     refine tK 7 55 (h:=?_)
     try simp only [Act.put,sI,sZ,sS]
     refine tK 8 56 (h:=?_)
     try simp only [Act.put,sI,sZ,sS]
     refine tK 9 57 (h:=?_)
     try simp only [Act.put,sI,sZ,sS]
     refine wpAnyH_ready (rs:=[10]) (by kernel_rfl) (by simp) ?_
     refine AllReadyH.cons (o:=_) rfl (fun K hK=>?_) AllReadyH.nil
     dsimp only [List.getElem_toArray,List.getElem_cons_succ,List.getElem_cons_zero]
     go_simp
     go_at_call 63
     (with_reducible refine HC.out.mono ?_)
     rintro e w1 ⟨rfl,hb1⟩
     have HB1:=hid ((vbelow_drew HBw.out).trans (hb1.mono (show _≤wr.drew.heap.size from HBw.out.size)))
     have qx6:=tkeep hb1 x6
     have qy6:=tkeep hb1 y6
     have qd0:=tkeep hb1 d0
     have qd1:=tkeep hb1 d1
     have qd2:=tkeep hb1 d2
     have qd3:=tkeep hb1 d3
     have qd4:=tkeep hb1 d4
     have qd5:=tkeep hb1 d5
     have qd6:=tkeep hb1 d6
     have qf0:=tkeep hb1 f0
     have qf1:=tkeep hb1 f1
     have qf2:=tkeep hb1 f2
     have qf3:=tkeep hb1 f3
     have qf4:=tkeep hb1 f4
     have qf5:=tkeep hb1 f5
     have qf6:=tkeep hb1 f6
     clear hb1
     go_wp2_with fail
     refine hK.out _ _ ⟨qx6,qy6,qd0,qd1,qd2,qd3,qd4,qd5,qd6,qf0,qf1,qf2,qf3,qf4,qf5,qf6⟩ (fun hHelda0=>?_)
     clear hK K
     try simp only [Act.put,sI,sZ,sS]
     refine tK 11 59 (h:=?_)
     try simp only [Act.put,sI,sZ,sS]
     refine wpAnyH_done (by kernel_rfl) ?_ _
     go_wp2
     go_ret
     rw [HE.out]
     exact ⟨rfl,HB1.out⟩
  ·have HE : Hid (z=true):=by
    show _=_
    rw [← HZ.out]
    have h3:=HG.out
    rw [List.take_of_length_le (by rw [H1.out];omega),List.take_of_length_le (by rw [H2.out];omega)] at h3
    exact sameB_yes h3
   clear hx1 hx2
   go_wp2
   go_ret
   rw [HE.out]
   exact ⟨rfl,HBw.out⟩
theorem sameX_calls {K K' : Nat→Prop} : ∀ (d : Nat) (x : PEx) (_ : XLn x) (e : Nat) (y : PEx) (w : World) (a : Option Addr) (c : Nat) (_ : ExK K w d (.slice a x.ks.length c) x.ks) (a' : Option Addr) (c' : Nat) (_ : ExK K' w e (.slice a' y.ks.length c') y.ks),Calls Tryz.prog 63 #[exV x (.slice a x.ks.length c),exV y (.slice a' y.ks.length c')] w fun e w'=>e=.returned (.bool (sameB x y))∧Below w.heap.size w w':=fun d=>by
 induction d with
 | zero =>
   intro x hx e y w a c h a' c' h'
   obtain ⟨k,v,xx,f,ks,lv,lx,lf,lk,_⟩:=hx
   obtain ⟨k',v',xx',f',ks'⟩:=y
   obtain ⟨_,h0⟩:=h
   have h0 : ks=[]:=h0
   by_cases hall : k=k'∧v.k=v'.k∧v.n=v'.n∧v.s=v'.s∧xx=xx'∧f=f'∧ks.length=ks'.length
   ·obtain ⟨rfl,hv1,hv2,hv3,rfl,rfl,hn⟩:=hall
    have hv : v=v':=by cases v;cases v';cases hv1;cases hv2;cases hv3;rfl
    subst hv
    have:=sx_step (w:=w) (a:=a) (a':=a') (c:=c) (c':=c') (k:=k) (vk:=v.k) (vn:=v.n) (vs:=v.s) (xx:=xx) (f:=f) (ks:=ks) (ks':=ks') rfl hn.symm lk (fun j y z hy hz=>by
     rw [h0] at hy
     simp at hy)
    have e2 : sameB (PEx.mk k v xx f ks) (PEx.mk k v xx f ks')=sameB ks ks':=by
     by_cases hk : ks=ks'
     ·rw [sameB_yes hk,sameB_yes (by rw [hk])]
     ·rw [sameB_no hk,sameB_no (fun e=>hk (by injection e))]
    rw [e2]
    show Calls Tryz.prog 63 #[_,.agg #[.int .i64 k,.int .i64 v.k,.int .i64 v.n,.string (strB v.s),.string (strB xx),.string (strB f),.slice a' ks'.length c']] w _
    rw [← hn]
    exact this
   ·have e2 : sameB (PEx.mk k v xx f ks) (PEx.mk k' v' xx' f' ks')=false:=sameB_no (fun e=>hall (by cases e;exact ⟨rfl,rfl,rfl,rfl,rfl,rfl,rfl⟩))
    rw [e2]
    exact sx_no hall
 | succ d ih =>
   intro x hx e y w a c h a' c' h'
   obtain ⟨k,v,xx,f,ks,lv,lx,lf,lk,hks⟩:=hx
   obtain ⟨k',v',xx',f',ks'⟩:=y
   by_cases hall : k=k'∧v.k=v'.k∧v.n=v'.n∧v.s=v'.s∧xx=xx'∧f=f'∧ks.length=ks'.length
   ·obtain ⟨rfl,hv1,hv2,hv3,rfl,rfl,hn⟩:=hall
    have hv : v=v':=by cases v;cases v';cases hv1;cases hv2;cases hv3;rfl
    subst hv
    have:=sx_step (w:=w) (a:=a) (a':=a') (c:=c) (c':=c') (k:=k) (vk:=v.k) (vn:=v.n) (vs:=v.s) (xx:=xx) (f:=f) (ks:=ks) (ks':=ks') rfl hn.symm lk (fun j y z hy hz=>by
     obtain ⟨b,cb,eb,hh⟩:=h
     injection eb with e1 e3 e4
     subst e1 e4
     obtain ⟨g,o,kv,ea,_,hc,hkk⟩:=hh j y hy
     obtain ⟨a2,c2,rfl⟩:=hkk.slice
     cases e with
     | zero =>
       obtain ⟨_,h0⟩:=h'
       have h0 : ks'=[]:=h0
       rw [h0] at hz
       simp at hz
     | succ e =>
       obtain ⟨b',cb',eb',hh'⟩:=h'
       injection eb' with e1' e3' e4'
       subst e1' e4'
       obtain ⟨g',o',kv',ea',_,hc',hkk'⟩:=hh' j z hz
       obtain ⟨a2',c2',rfl⟩:=hkk'.slice
       exact ⟨g,o,a2,c2,g',o',a2',c2',ea,ea',hc,hc',fun W hW=>ih y (hks y (List.mem_of_getElem? hy)) e z W a2 c2 (hkk.keep (TFr.of_below (K:=K) hW)) a2' c2' (hkk'.keep (TFr.of_below (K:=K') hW))⟩)
    have e2 : sameB (PEx.mk k v xx f ks) (PEx.mk k v xx f ks')=sameB ks ks':=by
     by_cases hk : ks=ks'
     ·rw [sameB_yes hk,sameB_yes (by rw [hk])]
     ·rw [sameB_no hk,sameB_no (fun e=>hk (by injection e))]
    rw [e2]
    show Calls Tryz.prog 63 #[_,.agg #[.int .i64 k,.int .i64 v.k,.int .i64 v.n,.string (strB v.s),.string (strB xx),.string (strB f),.slice a' ks'.length c']] w _
    rw [← hn]
    exact this
   ·have e2 : sameB (PEx.mk k v xx f ks) (PEx.mk k' v' xx' f' ks')=false:=sameB_no (fun e=>hall (by cases e;exact ⟨rfl,rfl,rfl,rfl,rfl,rfl,rfl⟩))
    rw [e2]
    exact sx_no hall
end Go.Proofs.YtefcbgnckgapgaaGreatDoor
