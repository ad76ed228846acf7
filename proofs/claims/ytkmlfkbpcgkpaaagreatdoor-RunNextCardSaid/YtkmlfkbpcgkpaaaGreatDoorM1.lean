/- Texts that others want. -/
import Derived.Test.YtkmlfkbpcgkpaaaGreatDoorM0
import Derived.Deep.Upon
import Derived.Deep.Slices
namespace Go.Proofs.YtkmlfkbpcgkpaaaGreatDoor
open Go.RowKit Go.Lib Go.Op Go.Deep
def valD : RowD PVal where
 k:=3
 P:=fun _ _ cs v=>cs=[.int .i64 v.k,.int .i64 v.n,.string (strB v.s)]∧v.s.length≤maxLen
 len:=fun h=>by rw [h.1];rfl
 one:=fun h u hu=>by
  rw [h.1] at hu
  simp only [List.mem_cons,List.not_mem_nil,or_false] at hu
  rcases hu with rfl|rfl|rfl <;> rfl
 keep:=fun _ h=>h
 mono:=fun _ h=>h
 ne:=fun _ h=>h
def evD : RowD PEv where
 k:=5
 P:=fun K w cs e=>∃ a c,cs=[.int .i64 e.ts,.int .i64 e.dep,.int .i64 e.seq,.string (strB e.name),.slice a e.vals.length c]∧RowK valD K w (.slice a e.vals.length c) e.vals∧e.name.length≤maxLen
 len:=fun ⟨a,c,h,_⟩=>by rw [h];rfl
 one:=fun ⟨a,c,h,_⟩ u hu=>by
  rw [h] at hu
  simp only [List.mem_cons,List.not_mem_nil,or_false] at hu
  rcases hu with rfl|rfl|rfl|rfl|rfl <;> rfl
 keep:=fun hf ⟨a,c,h,h1,h2⟩=>⟨a,c,h,h1.keep hf,h2⟩
 mono:=fun hs ⟨a,c,h,h1,h2⟩=>⟨a,c,h,h1.mono hs,h2⟩
 ne:=fun hb ⟨a,c,h,h1,h2⟩=>⟨a,c,h,h1.ne (by decide) hb,h2⟩
def evsD : RowD (List PEv) where
 k:=1
 P:=fun K w cs l=>∃ a c,cs=[.slice a l.length c]∧RowK evD K w (.slice a l.length c) l
 len:=fun ⟨a,c,h,_⟩=>by rw [h];rfl
 one:=fun ⟨a,c,h,_⟩ u hu=>by rw [h] at hu;rw [List.mem_singleton.1 hu];rfl
 keep:=fun hf ⟨a,c,h,h1⟩=>⟨a,c,h,h1.keep hf⟩
 mono:=fun hs ⟨a,c,h,h1⟩=>⟨a,c,h,h1.mono hs⟩
 ne:=fun hb ⟨a,c,h,h1⟩=>⟨a,c,h,h1.ne (by decide) hb⟩
def runD : RowD PRun where
 k:=2
 P:=fun K w cs r=>∃ a c,cs=[.int .i64 r.place,.slice a r.bound.length c]∧RowK evsD K w (.slice a r.bound.length c) r.bound
 len:=fun ⟨a,c,h,_⟩=>by rw [h];rfl
 one:=fun ⟨a,c,h,_⟩ u hu=>by
  rw [h] at hu
  simp only [List.mem_cons,List.not_mem_nil,or_false] at hu
  rcases hu with rfl|rfl <;> rfl
 keep:=fun hf ⟨a,c,h,h1⟩=>⟨a,c,h,h1.keep hf⟩
 mono:=fun hs ⟨a,c,h,h1⟩=>⟨a,c,h,h1.mono hs⟩
 ne:=fun hb ⟨a,c,h,h1⟩=>⟨a,c,h,h1.ne (by decide) hb⟩
def mtD : RowD PMt where
 k:=2
 P:=fun K w cs r=>∃ a c,cs=[.int .i64 r.done,.slice a r.bound.length c]∧RowK evsD K w (.slice a r.bound.length c) r.bound
 len:=fun ⟨a,c,h,_⟩=>by rw [h];rfl
 one:=fun ⟨a,c,h,_⟩ u hu=>by
  rw [h] at hu
  simp only [List.mem_cons,List.not_mem_nil,or_false] at hu
  rcases hu with rfl|rfl <;> rfl
 keep:=fun hf ⟨a,c,h,h1⟩=>⟨a,c,h,h1.keep hf⟩
 mono:=fun hs ⟨a,c,h,h1⟩=>⟨a,c,h,h1.mono hs⟩
 ne:=fun hb ⟨a,c,h,h1⟩=>⟨a,c,h,h1.ne (by decide) hb⟩
def GeD {α : Type} (D : RowD α) : Prop:=∀ K w cs x,D.P K w cs x→D.P (fun g=>K g∨w.heap.size≤g) w cs x
theorem RowK.ge {α : Type} {D : RowD α} (hD : GeD D) (hk : 0 < D.k) {K : Nat→Prop} {w : World} {v : Value} {l : List α} (h : RowK D K w v l) : RowK D (fun g=>K g∨w.heap.size≤g) w v l:=by
 obtain ⟨a,c,e,hcap,h⟩:=h
 refine ⟨a,c,e,hcap,fun j x hj=>?_⟩
 obtain ⟨g,o,cs,ea,hg,hp,hc⟩:=h j x hj
 have hl:=D.len hp
 have h0:=hc 0 (cs[0]'(by omega)) (List.getElem?_eq_getElem _)
 have hlt : g < w.heap.size:=World.block_lt_of_cell? _ _ h0
 exact ⟨g,o,cs,ea,fun hn=>hn.elim hg (fun e=>by omega),hD _ _ _ _ hp,hc⟩
theorem zfV : GeD valD:=fun _ _ _ _ h=>h
theorem zjX : GeD evD:=fun _ _ _ _ ⟨a,c,h,h1,h2⟩=>⟨a,c,h,h1.ge zfV (by decide),h2⟩
theorem zbR : GeD evsD:=fun _ _ _ _ ⟨a,c,h,h1⟩=>⟨a,c,h,h1.ge zjX (by decide)⟩
theorem zfW : GeD runD:=fun _ _ _ _ ⟨a,c,h,h1⟩=>⟨a,c,h,h1.ge zbR (by decide)⟩
theorem zjj : GeD mtD:=fun _ _ _ _ ⟨a,c,h,h1⟩=>⟨a,c,h,h1.ge zbR (by decide)⟩
theorem zbn {w w' : World} {base : Nat} {e : TypeId} {size : Nat} {v : Value} {n : Nat} {xs : List Value} (h : w.ownsRow base e size v n xs) (hb : ∀ g,v.ownBlock=some g→w'.heap[g]?=w.heap[g]?) : w'.ownsRow base e size v n xs:=by
 obtain ⟨h1,h2⟩:=h
 refine ⟨h1,?_⟩
 rcases h2 with h2|⟨g,cap,cur,rfl,h3,h4,h5⟩
 ·exact .inl h2
 ·exact .inr ⟨g,cap,cur,rfl,h3,(hb g rfl).trans h4,h5⟩
structure OwnG {α : Type} (D : RowD α) (K : Nat→Prop) (w : World) (B : Nat) (t : TypeId) (v : Value) (l : List α) (css : List (List Value)) : Prop where
 n : css.length=l.length
 row : w.ownsRow B t D.k v l.length css.flatten
 k : ∀ c∈css,c.length=D.k
 p : ∀ (j : Nat) (x : α),l[j]?=some x→∃ cs,css[j]?=some cs∧D.P K w cs x
section
variable {α : Type} {D : RowD α} {K K' : Nat→Prop} {w w' : World} {B : Nat} {t : TypeId} {v : Value} {l : List α} {css : List (List Value)}
theorem OwnG.nil : OwnG D K w B t (.slice none 0 0) [] []:=⟨rfl,World.ownsRow_nil _ _ _ _,fun c hc=>(by cases hc),fun j x hj=>(by simp at hj)⟩
theorem OwnG.empty {g : Nat} (hg : B≤g) (h : w.heap[g]?=some (.cells #[] t (0,0))) : OwnG D K w B t (.slice (some ⟨g,0,none⟩) 0 0) [] [] :=
 ⟨rfl,⟨by simp,.inr ⟨g,0,#[],rfl,hg,h,Nat.le_refl _,Nat.zero_le _,by simp,by simp⟩⟩,fun c hc=>(by cases hc),fun j x hj=>(by simp at hj)⟩
theorem OwnG.slice (h : OwnG D K w B t v l css) : ∃ a c,v=.slice a l.length c:=by
 rcases h.row.2 with ⟨rfl,h0⟩|⟨g,cap,cur,rfl,_⟩
 ·exact ⟨none,0,by rw [h0]⟩
 ·exact ⟨_,cap,rfl⟩
theorem OwnG.own (h : OwnG D K w B t v l css) : ∀ g,v.ownBlock=some g→B≤g∧g < w.heap.size:=by
 intro g hg
 rcases h.row.2 with ⟨rfl,h0⟩|⟨g',cap,cur,rfl,hb,hh,_⟩
 ·cases hg
 ·obtain rfl : g'=g:=Option.some.inj hg
  exact ⟨hb,(Array.getElem?_eq_some_iff.1 hh).1⟩
theorem OwnG.mono (h : OwnG D K w B t v l css) (hs : ∀ g,K' g→K g) : OwnG D K' w B t v l css :=
 ⟨h.n,h.row,h.k,fun j x hj=>by obtain ⟨cs,h1,h2⟩:=h.p j x hj;exact ⟨cs,h1,D.mono hs h2⟩⟩
theorem OwnG.keep (h : OwnG D K w B t v l css) {T : Nat→Prop} (hf : TFr T w w') (hT : ∀ g,g < w.heap.size→T g→K g) (hv : ∀ g,v.ownBlock=some g→¬ T g) : OwnG D K w' B t v l css:=by
 have ho:=h.own
 refine ⟨h.n,zbn h.row (fun g hg=>hf.block g (ho g hg).2 (hv g hg)),h.k,fun j x hj=>?_⟩
 obtain ⟨cs,hc,hp⟩:=h.p j x hj
 exact ⟨cs,hc,D.keep (hf.mono hT) hp⟩
theorem OwnG.low (h : OwnG D K w B t v l css) (hb : Below w.heap.size w w') : OwnG D K w' B t v l css :=
 h.keep (T:=fun _=>False) (TFr.of_below hb) (fun _ _ h=>h.elim) (fun _ _ h=>h)
theorem OwnG.cells (h : OwnG D K w B t v l css) {g : Nat} (hg : v.ownBlock=some g) : ∀ {j r : Nat} {cs : List Value} {u : Value},css[j]?=some cs→cs[r]?=some u→w.cell? ⟨g,j*D.k+r,none⟩=some u:=by
 intro j r cs u hj hr
 rcases h.row.2 with ⟨rfl,h0⟩|⟨g',cap,cur,rfl,hb,hh,hn,hc,hs,ht⟩
 ·cases hg
 ·obtain rfl : g'=g:=Option.some.inj hg
  have e1:=zdG h.k hj r u hr
  have e2:=(List.getElem?_eq_some_iff.1 e1).1
  rw [cell_of_row w g' _ cur t (0,0) hh]
  rw [← ht,List.getElem?_take,if_pos (by rw [← h.n,← zbf h.k];exact e2)] at e1
  simpa using e1
theorem OwnG.row' (h : OwnG D K w B t v l css) (hK : ∀ g,K' g→K g) (hB : ∀ g,v.ownBlock=some g→¬ K' g) : RowK D K' w v l:=by
 rcases h.row.2 with ⟨rfl,h0⟩|⟨g,cap,cur,rfl,hb,hh,hn,hc,hs,ht⟩
 ·exact ⟨none,0,by rw [h0],by omega,fun j x hj=>by have:=(List.getElem?_eq_some_iff.1 hj).1;omega⟩
 ·refine ⟨_,cap,rfl,hn,fun j x hj=>?_⟩
  obtain ⟨cs,hcs,hp⟩:=h.p j x hj
  refine ⟨g,0,cs,rfl,hB g rfl,D.mono hK hp,fun r u hu=>?_⟩
  have e:=h.cells rfl hcs hu
  rwa [Nat.zero_add]
theorem OwnG.cap (h : OwnG D K w B t v l css) {a : Option Addr} {n c : Nat} (e : v=.slice a n c) : n=l.length∧(l≠[]→∃ g,a=some ⟨g,0,none⟩):=by
 rcases h.row.2 with ⟨rfl,h0⟩|⟨g,cap,cur,rfl,_⟩
 ·injection e with e1 e2 e3
  exact ⟨by omega,fun hn=>(hn (List.eq_nil_of_length_eq_zero h0)).elim⟩
 ·injection e with e1 e2 e3
  exact ⟨e2.symm,fun _=>⟨g,e1.symm⟩⟩
theorem OwnG.append {ts ty : TypeId} {z : Value} {bytes : Nat} (hu : Tryz.prog.underlying ts=some (.slice t)) (hi : (Tryz.prog.info? t).map (fun i=>(i.zero,i.size,i.bytes))=some (some z,D.k,bytes)) (hzs : z.cells.size=D.k) (hk : 0 < D.k) (hby : bytes≤100)
 (h : OwnG D K w B t v l css) (hK : ∀ g,v.ownBlock=some g→K g) (hB : B≤w.heap.size) (hl : l.length≤1000000) {x : α} {cs : List Value} (hx : D.P K w cs x) {vb : Nat} (hvb : w.heap[vb]?=some (.cells cs.toArray t (0,0))) :
 ∃ v' w',(Builtin.append_ #[ts,ts] ty #[v,.slice (some ⟨vb,0,none⟩) 1 1]).run Tryz.prog w=.ok v' w'∧OwnG D (fun g=>K g∨v'.ownBlock=some g) w' B t v' (l++[x]) (css++[cs])∧w.grownBy w' v.ownBlock∧(v'.ownBlock=v.ownBlock∨v'.ownBlock=some w.heap.size):=by
 have hown:=h.own
 obtain ⟨h1,h2,h3,h4⟩:=h
 obtain ⟨i0,hi,hz0,hz1,hz2⟩:=info_parts hi
 have hcl:=D.len hx
 have hsrc : ∀ j u,cs[j]?=some u→w.cell? ((⟨vb,0,none⟩ : Addr).add j)=some u:=fun j u hj=>by
  have e : (⟨vb,0,none⟩ : Addr).add j=⟨vb,j,none⟩:=by unfold Addr.add;split <;> simp_all
  rw [e,cell_of_row w vb j _ t (0,0) hvb]
  simpa using hj
 obtain ⟨v',w',hr,g2,g3,_,g5⟩:=run_append_own_at (P:=Tryz.prog) w B ts ty t i0 _ D.k bytes hu hi hz0 hz1 hz2 hzs hk v l.length css.flatten h2 ⟨vb,0,none⟩ 1 1 cs (by omega) hsrc (D.one hx) (by unfold maxLen;omega) (by
  have : (l.length+1)*bytes≤1000001*100:=Nat.mul_le_mul (by omega) hby
  omega) hB
 have key : ∀ {cs : List Value} {y : α},D.P K w cs y→D.P (fun g=>K g∨v'.ownBlock=some g) w' cs y:=fun {cs y} hp=>by
  rcases g5 with e|e
  ·rw [e]
   exact D.mono (fun g hg=>hg.elim id (hK g)) (D.keep (TFr.of_grown g3 (fun k hk=>hK k hk)) hp)
  ·rw [e]
   exact D.mono (fun g hg=>hg.imp id (fun h=>(Option.some.inj h).symm)) (D.keep (TFr.of_grown g3 (fun k hk=>.inl (hK k hk))) (D.ne (Nat.le_refl _) hp))
 refine ⟨v',w',hr,⟨by simp [h1],?_,fun c hc=>?_,fun j y hj=>?_⟩,g3,g5⟩
 ·rw [List.length_append,List.flatten_append]
  simpa using g2
 ·rcases List.mem_append.1 hc with hc|hc
  ·exact h3 c hc
  ·rw [List.mem_singleton.1 hc];exact hcl
 ·by_cases hlt : j < l.length
  ·rw [List.getElem?_append_left hlt] at hj
   obtain ⟨c,hc,hp⟩:=h4 j y hj
   exact ⟨c,by rw [List.getElem?_append_left (by omega)];exact hc,key hp⟩
  ·have hj2 : j=l.length:=by
    have:=(List.getElem?_eq_some_iff.1 hj).1
    simp at this
    omega
   subst hj2
   obtain rfl : x=y:=by simpa using hj
   exact ⟨cs,by rw [← h1];simp,key hx⟩
end
theorem zdA {k : Nat} : ∀ {css : List (List Value)} {j r : Nat} {cs : List Value} {u : Value},(∀ c∈css,c.length=k)→css[j]?=some cs→r < k→css.flatten.set (j*k+r) u=(css.set j (cs.set r u)).flatten
 | [],j,r,cs,u,_,h,_=>by simp at h
 | c :: l,0,r,cs,u,hk,h,hr=>by
   obtain rfl : c=cs:=by simpa using h
   rw [List.flatten_cons,Nat.zero_mul,Nat.zero_add,List.set_append_left _ _ (by rw [hk c List.mem_cons_self];exact hr),List.set_cons_zero,List.flatten_cons]
 | c :: l,j+1,r,cs,u,hk,h,hr=>by
   have hc:=hk c List.mem_cons_self
   rw [List.flatten_cons,List.set_append_right _ _ (by rw [hc,Nat.succ_mul];omega),hc,show (j+1)*k+r - k=j*k+r by rw [Nat.succ_mul];omega,List.set_cons_succ,List.flatten_cons,zdA (fun c hc=>hk c (List.mem_cons_of_mem _ hc)) (by simpa using h) hr]
instance : Inhabited PVal:=⟨⟨0,0,[]⟩⟩
instance : Inhabited PEv:=⟨⟨0,0,0,[],[]⟩⟩
instance : Inhabited PRun:=⟨⟨0,[]⟩⟩
instance : Inhabited PMt:=⟨⟨0,[]⟩⟩
section
variable {α : Type} {D : RowD α} {K : Nat→Prop} {w : World} {l : List α}
theorem RowK.src {a : Option Addr} {n c : Nat} (h : RowK D K w (.slice a n c) l) (hk : 0 < D.k) (hne : l≠[]) : ∃ (g o : Nat) (css : List (List Value)),a=some ⟨g,o,none⟩∧¬ K g∧css.length=l.length∧(∀ cs∈css,cs.length=D.k)∧(∀ (j : Nat) (x : α),l[j]?=some x→∃ cs,css[j]?=some cs∧D.P K w cs x)∧∀ (i : Nat) (u : Value),css.flatten[i]?=some u→w.cell? ⟨g,o+i,none⟩=some u:=by
 obtain ⟨a',c',e,hcap,h⟩:=h
 injection e with e1 e2 e3
 subst e1 e2 e3
 obtain ⟨x0,hx0⟩ : ∃ x,l[0]?=some x:=⟨_,List.getElem?_eq_getElem (List.length_pos_iff.2 hne)⟩
 obtain ⟨g,o,cs0,ea,hg,_,_⟩:=h 0 x0 hx0
 have hall : ∀ i,i < l.length→∃ cs : List Value,(∀ x,l[i]?=some x→D.P K w cs x)∧cs.length=D.k∧∀ r u,cs[r]?=some u→w.cell? ⟨g,o+i*D.k+r,none⟩=some u:=fun i hi=>by
  obtain ⟨g',o',cs,ea',_,hp,hc⟩:=h i _ (List.getElem?_eq_getElem hi)
  rw [ea] at ea'
  injection ea' with ea'
  injection ea' with e1 e2
  subst e1 e2
  refine ⟨cs,fun x hx=>?_,D.len hp,hc⟩
  rw [List.getElem?_eq_getElem hi] at hx
  injection hx with hx
  rw [← hx]
  exact hp
 obtain ⟨q,hq⟩:=choose_lt hall
 refine ⟨g,o,(List.range l.length).map q,ea,hg,by simp,fun cs hcs=>?_,fun j x hj=>?_,fun i u hu=>?_⟩
 ·obtain ⟨i,hi,rfl⟩:=List.mem_map.1 hcs
  exact (hq i (List.mem_range.1 hi)).2.1
 ·have hjl:=(List.getElem?_eq_some_iff.1 hj).1
  exact ⟨q j,by simp [hjl],(hq j hjl).1 x hj⟩
 ·have hkl : ∀ cs∈(List.range l.length).map q,cs.length=D.k:=fun cs hcs=>by
   obtain ⟨i,hi,rfl⟩:=List.mem_map.1 hcs
   exact (hq i (List.mem_range.1 hi)).2.1
  have hil:=(List.getElem?_eq_some_iff.1 hu).1
  rw [zbf hkl] at hil
  simp only [List.length_map,List.length_range] at hil
  obtain ⟨j,r,hr,rfl⟩ : ∃ j r,r < D.k∧i=j*D.k+r:=⟨i / D.k,i % D.k,Nat.mod_lt _ hk,by rw [Nat.mul_comm];exact (Nat.div_add_mod i D.k).symm⟩
  have hj : j < l.length:=by
   rcases Nat.lt_or_ge j l.length with h|h
   ·exact h
   ·have:=Nat.mul_le_mul_right D.k h
    omega
  have hcs : ((List.range l.length).map q)[j]?=some (q j):=by simp [hj]
  have hrl : r < (q j).length:=by rw [(hq j hj).2.1];exact hr
  have e:=zdG hkl hcs r _ (List.getElem?_eq_getElem hrl)
  rw [e] at hu
  injection hu with hu
  rw [← hu,← Nat.add_assoc]
  exact (hq j hj).2.2 r _ (List.getElem?_eq_getElem hrl)
theorem RowK.clone {B : Nat} {t ts ty : TypeId} {z : Value} {bytes : Nat} (hu : Tryz.prog.underlying ts=some (.slice t)) (hi : (Tryz.prog.info? t).map (fun i=>(i.zero,i.size,i.bytes))=some (some z,D.k,bytes)) (hzs : z.cells.size=D.k) (hk : 0 < D.k) (hby : bytes≤1000)
 {a : Option Addr} {c : Nat} (h : RowK D K w (.slice a l.length c) l) (hl : l.length≤1000000) {v : Value} (ho : OwnG D K w B t v [] []) (hB : B≤w.heap.size) (hKv : ∀ g,v.ownBlock=some g→K g) :
 ∃ v' w' css,(Builtin.append_ #[ts,ts] ty #[v,.slice a l.length c]).run Tryz.prog w=.ok v' w'∧OwnG D (fun g=>K g∨v'.ownBlock=some g) w' B t v' l css∧w.grownBy w' v.ownBlock∧(v'.ownBlock=v.ownBlock∨v'.ownBlock=some w.heap.size):=by
 obtain ⟨i0,hi,hz0,hz1,hz2⟩:=info_parts hi
 cases hl0 : l with
 | nil =>
   subst hl0
   obtain ⟨va,vc,rfl⟩:=ho.slice
   have hle : 0≤vc:=Nat.zero_le _
   refine ⟨_,w,[],?_,ho.mono (fun g hg=>hg.elim id (hKv g)),⟨rfl,rfl,rfl,Nat.le_refl _,fun _ _ _=>rfl⟩,.inl rfl⟩
   cases a with
   | none =>
     exact run_append_nothing w ts ts ty t i0 hu hi va 0 vc hle _ (Src.ofNil w hu _)
   | some A =>
     exact run_append_nothing w ts ts ty t i0 hu hi va 0 vc hle _ (Src.ofSlice w hu A 0 c [] (by simp) (fun j u h=>(by simp at h)) (fun u h=>(by cases h)))
 | cons x0 l0 =>
   rw [← hl0]
   obtain ⟨g,o,css,rfl,hg,h1,h2,h3,h4⟩:=h.src hk (by rw [hl0];simp)
   have hone : ∀ u∈css.flatten,u.oneCell'=true:=fun u hu=>by
    obtain ⟨cs,hcs,hu⟩:=List.mem_flatten.1 hu
    obtain ⟨j,hj,rfl⟩:=List.mem_iff_getElem.1 hcs
    obtain ⟨cs',e,hp⟩:=h3 j _ (List.getElem?_eq_getElem (by rw [← h1];exact hj))
    rw [List.getElem?_eq_getElem hj] at e
    have e2:=Option.some.inj e
    rw [← e2] at hp
    exact D.one hp u hu
   obtain ⟨v',w',hr,g2,g3,_,g5⟩:=run_append_own_at (P:=Tryz.prog) w B ts ty t i0 _ D.k bytes hu hi hz0 hz1 hz2 hzs hk v 0 [] ho.row ⟨g,o,none⟩ l.length c css.flatten (by rw [zbf h2,h1]) (fun j u hj=>by
    have e : (⟨g,o,none⟩ : Addr).add j=⟨g,o+j,none⟩:=by unfold Addr.add;split <;> simp_all
    rw [e]
    exact h4 j u hj) hone (by unfold maxLen;omega) (by
    have : (0+l.length)*bytes≤1000000*1000:=Nat.mul_le_mul (by omega) hby
    omega) hB
   rw [Nat.zero_add,List.nil_append] at g2
   refine ⟨v',w',css,hr,⟨h1,g2,h2,fun j x hj=>?_⟩,g3,g5⟩
   obtain ⟨cs,e1,e2⟩:=h3 j x hj
   refine ⟨cs,e1,?_⟩
   rcases g5 with e|e
   ·rw [e]
    exact D.mono (fun g hg=>hg.elim id (hKv g)) (D.keep (TFr.of_grown g3 (fun k hk=>hKv k hk)) e2)
   ·rw [e]
    exact D.mono (fun g hg=>hg.imp id (fun h=>(Option.some.inj h).symm)) (D.keep (TFr.of_grown g3 (fun k hk=>.inl (hKv k hk))) (D.ne (Nat.le_refl _) e2))
end
end Go.Proofs.YtkmlfkbpcgkpaaaGreatDoor
namespace Go.Proofs.YtkmlfkbpcgkpaaaGreatDoor
open Go.RowKit Go.Lib Go.Op
set_option maxHeartbeats 8000000
set_option maxRecDepth 100000
section
variable {w : World} {a : Option Addr} {c : Nat} {l : List (List UInt8)}
theorem zhe (n : Nat) (no : Bool) (x : ByteArray) (mode : Int) (h1 : mode < 1) : Calls Tryz.prog 160 #[.agg #[.bool no,.slice a n c,.string x,.int .i64 mode]] w fun e w'=>e=.returned (.bool false)∧Below w.heap.size w w':=by
 have HB:=hid ((Below.refl w.heap.size w).alloc (Nat.le_refl _) (.cells #[.bool no,.slice a n c,.string x,.int .i64 mode] 44))
 have t1 : decide (mode < 1)=true:=decide_eq_true h1
 clear h1
 go_enter Tryz.func160,Tryz.ntmps160
 go_wp2
 go_ret
 exact ⟨rfl,HB.out⟩
theorem zgr (n : Nat) (no : Bool) (x : ByteArray) (mode : Int) (h1 : ¬ mode < 1) (h2 : 3 < mode) : Calls Tryz.prog 160 #[.agg #[.bool no,.slice a n c,.string x,.int .i64 mode]] w fun e w'=>e=.returned (.bool false)∧Below w.heap.size w w':=by
 have HB:=hid ((Below.refl w.heap.size w).alloc (Nat.le_refl _) (.cells #[.bool no,.slice a n c,.string x,.int .i64 mode] 44))
 have t1 : decide (mode < 1)=false:=decide_eq_false h1
 have t2 : decide (3 < mode)=true:=decide_eq_true h2
 clear h1 h2
 go_enter Tryz.func160,Tryz.ntmps160
 go_wp2
 go_ret
 exact ⟨rfl,HB.out⟩
theorem zhf (n : Nat) (no : Bool) (x : ByteArray) (mode : Int) (h1 : ¬ mode < 1) (h2 : ¬ 3 < mode) (hno : no=true) (h3 : mode≠1) : Calls Tryz.prog 160 #[.agg #[.bool no,.slice a n c,.string x,.int .i64 mode]] w fun e w'=>e=.returned (.bool false)∧Below w.heap.size w w':=by
 have HB:=hid ((Below.refl w.heap.size w).alloc (Nat.le_refl _) (.cells #[.bool no,.slice a n c,.string x,.int .i64 mode] 44))
 have t1 : decide (mode < 1)=false:=decide_eq_false h1
 have t2 : decide (3 < mode)=false:=decide_eq_false h2
 have t3 : (mode != 1)=true:=by rw [bne_iff_ne];exact h3
 subst hno
 clear h1 h2 h3
 go_enter Tryz.func160,Tryz.ntmps160
 go_wp2
 go_ret
 exact ⟨rfl,HB.out⟩
theorem zgs (no : Bool) (x : ByteArray) (mode : Int) (h1 : ¬ mode < 1) (h2 : ¬ 3 < mode) (h3 : no=false∨mode=1) (n : Nat) (hn : n=0) : Calls Tryz.prog 160 #[.agg #[.bool no,.slice a n c,.string x,.int .i64 mode]] w fun e w'=>e=.returned (.bool false)∧Below w.heap.size w w':=by
 have t1 : decide (mode < 1)=false:=decide_eq_false h1
 have t2 : decide (3 < mode)=false:=decide_eq_false h2
 subst hn
 have HB:=hid ((Below.refl w.heap.size w).alloc (Nat.le_refl _) (.cells #[.bool no,.slice a 0 c,.string x,.int .i64 mode] 44))
 clear h1 h2
 cases no with
 | false =>
   clear h3
   go_enter Tryz.func160,Tryz.ntmps160
   go_wp2
   go_ret
   exact ⟨rfl,HB.out⟩
 | true =>
   have h3' : mode=1:=h3.resolve_left (by simp)
   subst h3'
   have t3 : ((1 : Int) != 1)=false:=rfl
   clear h3
   go_enter Tryz.func160,Tryz.ntmps160
   go_wp2
   go_ret
   exact ⟨rfl,HB.out⟩
theorem zgt (no : Bool) (x : ByteArray) (mode : Int) (h1 : ¬ mode < 1) (h2 : ¬ 3 < mode) (h3 : no=false∨mode=1) (n : Nat) (hn : 3 < n) : Calls Tryz.prog 160 #[.agg #[.bool no,.slice a n c,.string x,.int .i64 mode]] w fun e w'=>e=.returned (.bool false)∧Below w.heap.size w w':=by
 have t1 : decide (mode < 1)=false:=decide_eq_false h1
 have t2 : decide (3 < mode)=false:=decide_eq_false h2
 have u1 : decide (0 < n)=true:=decide_eq_true (by omega)
 have u2 : decide ((n : Int)≤3)=false:=decide_eq_false (by omega)
 have HB:=hid ((Below.refl w.heap.size w).alloc (Nat.le_refl _) (.cells #[.bool no,.slice a n c,.string x,.int .i64 mode] 44))
 clear h1 h2
 cases no with
 | false =>
   clear h3
   go_enter Tryz.func160,Tryz.ntmps160
   go_wp2
   go_ret
   exact ⟨rfl,HB.out⟩
 | true =>
   have h3' : mode=1:=h3.resolve_left (by simp)
   subst h3'
   have t3 : ((1 : Int) != 1)=false:=rfl
   clear h3
   go_enter Tryz.func160,Tryz.ntmps160
   go_wp2
   go_ret
   exact ⟨rfl,HB.out⟩
theorem zgu (no : Bool) (x : ByteArray) (mode : Int) (h1 : ¬ mode < 1) (h2 : ¬ 3 < mode) (h3 : no=false∨mode=1) (n : Nat) (hn : 0 < n) (hn3 : n≤3) (z : Bool) (hu : ∀ W,Below w.heap.size w W→Calls Tryz.prog 161 #[.slice a n c] W fun e w'=>e=.returned (.bool z)∧Below W.heap.size W w') : Calls Tryz.prog 160 #[.agg #[.bool no,.slice a n c,.string x,.int .i64 mode]] w fun e w'=>e=.returned (.bool z)∧Below w.heap.size w w':=by
 have t1 : decide (mode < 1)=false:=decide_eq_false h1
 have t2 : decide (3 < mode)=false:=decide_eq_false h2
 have u1 : decide (0 < n)=true:=decide_eq_true hn
 have u2 : decide ((n : Int)≤3)=true:=decide_eq_true (by omega)
 have HU:=hid hu
 clear hu hn hn3
 have HB:=hid ((Below.refl w.heap.size w).alloc (Nat.le_refl _) (.cells #[.bool no,.slice a n c,.string x,.int .i64 mode] 44))
 clear h1 h2
 cases no with
 | false =>
   clear h3
   go_enter Tryz.func160,Tryz.ntmps160
   go_wp2_with (go_at_call 161;(with_reducible refine (HU.out _ HB.out).mono ?_);rintro e w1 ⟨rfl,hb1⟩;have HB1:=hid (HB.out.trans (hb1.mono HB.out.size));clear hb1)
   go_ret
   exact ⟨zaJ (by cases z <;> rfl),HB1.out⟩
 | true =>
   have h3' : mode=1:=h3.resolve_left (by simp)
   subst h3'
   have t3 : ((1 : Int) != 1)=false:=rfl
   clear h3
   go_enter Tryz.func160,Tryz.ntmps160
   go_wp2_with (go_at_call 161;(with_reducible refine (HU.out _ HB.out).mono ?_);rintro e w1 ⟨rfl,hb1⟩;have HB1:=hid (HB.out.trans (hb1.mono HB.out.size));clear hb1)
   go_ret
   exact ⟨zaJ (by cases z <;> rfl),HB1.out⟩
theorem zcC {K : Nat→Prop} (i : PIt) (h : RowK nameD K w (.slice a i.ns.length c) i.ns) (hl : i.ns.length≤1000000) (hb : ∀ b∈i.ns,b.length≤1000000) (x : ByteArray) :
 Calls Tryz.prog 160 #[.agg #[.bool i.no,.slice a i.ns.length c,.string x,.int .i64 i.mode]] w fun e w'=>e=.returned (.bool (rightI i))∧Below w.heap.size w w':=by
 unfold rightI
 by_cases h1 : i.mode < 1
 ·rw [if_pos (.inl h1)]
  exact zhe _ _ _ _ h1
 by_cases h2 : 3 < i.mode
 ·rw [if_pos (.inr (.inl h2))]
  exact zgr _ _ _ _ h1 h2
 by_cases h3 : i.no=true∧i.mode≠1
 ·rw [if_pos (.inr (.inr h3))]
  exact zhf _ _ _ _ h1 h2 h3.1 h3.2
 rw [if_neg (fun e=>e.elim h1 (fun e=>e.elim h2 h3))]
 have h3' : i.no=false∨i.mode=1:=by
  cases hno : i.no with
  | false=>exact .inl rfl
  | true =>
    right
    by_cases hm : i.mode=1
    ·exact hm
    ·exact absurd ⟨hno,hm⟩ h3
 by_cases hn : i.ns.length=0
 ·rw [show decide (0 < i.ns.length∧i.ns.length≤3)=false by simp;omega]
  exact zgs _ _ _ h1 h2 h3' _ hn
 by_cases hn3 : 3 < i.ns.length
 ·rw [show decide (0 < i.ns.length∧i.ns.length≤3)=false by simp;omega]
  exact zgt _ _ _ h1 h2 h3' _ hn3
 rw [show decide (0 < i.ns.length∧i.ns.length≤3)=true by simp;omega,Bool.true_and]
 exact zgu _ _ _ h1 h2 h3' _ (by omega) (by omega) _ (fun W hW=>zcc (h.low hW) hl hb)
end
def ItB (i : PIt) : Prop:=i.ns.length≤1000000∧(∀ b∈i.ns,b.length≤1000000)∧i.x.length≤1000000
theorem RowK.itemAt {K : Nat→Prop} {w : World} {a : Option Addr} {n c : Nat} {l : List PIt} (h : RowK itemD K w (.slice a n c) l) {j : Nat} {i : PIt} (hj : l[j]?=some i) : ∃ g o a' c',a=some ⟨g,o,none⟩∧w.cell? ⟨g,o+j*4,none⟩=some (.bool i.no)∧w.cell? ⟨g,o+j*4+1,none⟩=some (.slice a' i.ns.length c')∧w.cell? ⟨g,o+j*4+2,none⟩=some (.string (strB i.x))∧w.cell? ⟨g,o+j*4+3,none⟩=some (.int .i64 i.mode)∧RowK nameD K w (.slice a' i.ns.length c') i.ns:=by
 obtain ⟨a1,c1,e,_,h⟩:=h
 injection e with e1 e2 e3
 obtain ⟨g,o,cs,ea,hg,⟨a',c',hcs,hr⟩,hc⟩:=h j i hj
 subst hcs
 exact ⟨g,o,a',c',e1.trans ea,hc 0 _ rfl,hc 1 _ rfl,hc 2 _ rfl,hc 3 _ rfl,hr⟩
theorem zfk {l : List PIt} {i : PIt} (h0 : l[0]?=some i) (h : 6 < l.length∨i.no=true∨i.mode=3) : rightIs l=false:=by
 cases l with
 | nil=>rfl
 | cons i' r =>
   obtain rfl : i'=i:=by simpa using h0
   unfold rightIs
   have : (decide (6 < (i' :: r).length) || (i'.no || decide (i'.mode=3)))=true:=by
    rcases h with h|h|h
    ·simp only [h,decide_true,Bool.true_or]
    ·simp [h]
    ·simp [h]
   show (!(decide (6 < (i' :: r).length) || (i'.no || decide (i'.mode=3))) && ((i' :: r).all rightI && unlikeB ((i' :: r).map (·.x))))=_
   rw [this];rfl
theorem zeh {l : List PIt} {i : PIt} (h0 : l[0]?=some i) (h1 : ¬ 6 < l.length) (h2 : i.no=false) (h3 : i.mode≠3) : rightIs l=(l.all rightI && unlikeB (l.map (·.x))):=by
 cases l with
 | nil=>simp at h0
 | cons i' r =>
   obtain rfl : i'=i:=by simpa using h0
   unfold rightIs
   have : (decide (6 < (i' :: r).length) || (i'.no || decide (i'.mode=3)))=false:=by
    rw [decide_eq_false h1,h2,decide_eq_false h3];rfl
   show (!(decide (6 < (i' :: r).length) || (i'.no || decide (i'.mode=3))) && ((i' :: r).all rightI && unlikeB ((i' :: r).map (·.x))))=_
   rw [this];rfl
section
variable {K : Nat→Prop} {w : World} {a : Option Addr} {c : Nat} {l : List PIt}
theorem zdm (h : RowK itemD K w (.slice a l.length c) l) (hbad : l=[]∨∃ i,l[0]?=some i∧(6 < l.length∨i.no=true∨i.mode=3)) :
 Calls Tryz.prog 100 #[.slice a l.length c] w fun e w'=>e=.returned (.bool false)∧Below w.heap.size w w':=by
 rcases hbad with rfl|⟨i,h0,hb⟩
 ·clear h
  go_enter Tryz.func100,Tryz.ntmps100
  go_wp2
  go_ret
  exact ⟨rfl,Below.refl _ _⟩
 ·obtain ⟨g,o,a',c',rfl,c0,c1,c2,c3,_⟩:=h.itemAt h0
  have hpos : 0 < l.length:=(List.getElem?_eq_some_iff.1 h0).1
  obtain ⟨q,hq⟩ : ∃ q,l.length=q:=⟨_,rfl⟩
  rw [hq] at hpos hb ⊢
  simp only [Nat.zero_mul,Nat.add_zero] at c0 c1 c2 c3
  have t0 : ((q : Int) == 0)=false:=by rw [beq_eq_false_iff_ne];omega
  clear h h0 hq
  by_cases h6 : 6 < q
  ·have t1 : decide (6 < (q : Int))=true:=decide_eq_true (by omega)
   clear hb
   go_enter Tryz.func100,Tryz.ntmps100
   go_wp2
   go_ret
   exact ⟨rfl,Below.refl _ _⟩
  have t1 : decide (6 < (q : Int))=false:=decide_eq_false (by omega)
  have hb2:=hb.resolve_left h6
  clear hb
  cases hno : i.no with
  | true =>
    rw [hno] at c0
    clear hb2 hno
    go_enter Tryz.func100,Tryz.ntmps100
    go_wp2
    go_ret
    exact ⟨rfl,Below.refl _ _⟩
  | false =>
    have hm:=hb2.resolve_left (by rw [hno];simp)
    rw [hno] at c0
    rw [hm] at c3
    have t3 : ((3 : Int) == 3)=true:=rfl
    clear hb2 hno hm
    go_enter Tryz.func100,Tryz.ntmps100
    go_wp2
    go_ret
    exact ⟨rfl,Below.refl _ _⟩
theorem zfl (h : RowK itemD K w (.slice a l.length c) l) {i : PIt} (h0 : l[0]?=some i) (h6 : ¬ 6 < l.length) (hno : i.no=false) (hm : i.mode≠3) (hbd : ∀ i∈l,ItB i) :
 Calls Tryz.prog 100 #[.slice a l.length c] w fun e w'=>e=.returned (.bool (l.all rightI && unlikeB (l.map (·.x))))∧Below w.heap.size w w':=by
 obtain ⟨z,hz⟩ : ∃ z,(l.all rightI && unlikeB (l.map (·.x)))=z:=⟨_,rfl⟩
 rw [hz]
 obtain ⟨g,o,a',c',rfl,c0,c1,c2,c3,_⟩:=h.itemAt h0
 have hpos : 0 < l.length:=(List.getElem?_eq_some_iff.1 h0).1
 have H:=hid h
 obtain ⟨q,hq⟩ : ∃ q,l.length=q:=⟨_,rfl⟩
 have HQ:=hid hq
 have HZ:=hid hz
 have HBD:=hid hbd
 rw [hq] at hpos h6 ⊢
 simp only [Nat.zero_mul,Nat.add_zero] at c0 c1 c2 c3
 have t0 : ((q : Int) == 0)=false:=by rw [beq_eq_false_iff_ne];omega
 have t1 : decide (6 < (q : Int))=false:=decide_eq_false (by omega)
 have t3 : (i.mode == 3)=false:=by rw [beq_eq_false_iff_ne];exact hm
 rw [hno] at c0
 clear h h0 hq hz hbd hno hm
 go_enter Tryz.func100,Tryz.ntmps100
 go_wp2
 clear c0 c1 c2 c3 t0 t1 t3
 go_loopw [3,29] (fun v k wr=>∃ j : Nat,k=.int .i64 j∧j≤q∧Hid (∀ i∈l.take j,rightI i=true)∧Hid (OwnP nameD wr w.heap.size 9 v ((l.take j).map (·.x)))∧Hid (Below w.heap.size w wr)) (fun _ k _=>q - (RowKit.intOf k).toNat)
 case atStart=>exact ⟨0,rfl,Nat.zero_le _,fun i hi=>(by simp at hi),⟨[],rfl,World.ownsRow_nil _ _ _ _,fun c hc=>(by cases hc),fun j x hj=>(by simp at hj)⟩,Below.refl _ _⟩
 case round =>
  obtain ⟨j,rfl,hj,HA,HO,HB⟩:=hrel
  obtain ⟨va,vc,rfl⟩:=HO.out.slice
  by_cases hlt : j < q
  ·obtain ⟨y,hy⟩ : ∃ y,l[j]?=some y:=⟨_,List.getElem?_eq_getElem (by rw [HQ.out];exact hlt)⟩
   have hyb:=HBD.out y (List.mem_of_getElem? hy)
   obtain ⟨g',o',a2,c2,e,d0,d1,d2,d3,hr⟩:=(H.out.low HB.out).itemAt hy
   injection e with e
   injection e with e1 e2
   subst e1 e2
   have hba:=(Below.refl wr.heap.size wr).alloc (Nat.le_refl _) (.cells #[.bool y.no,.slice a2 y.ns.length c2,.string (strB y.x),.int .i64 y.mode] 44)
   have HRI:=hid (zcC y (hr.low hba) hyb.1 hyb.2.1 (strB y.x))
   obtain ⟨m,hm⟩ : ∃ m,y.ns.length=m:=⟨_,rfl⟩
   rw [hm] at d1 HRI hba
   have HBA:=hid (HB.out.alloc HB.out.size (.cells #[.bool y.no,.slice a2 m c2,.string (strB y.x),.int .i64 y.mode] 44))
   have HBA1:=hid hba
   have HY:=hid hy
   obtain ⟨t,ht⟩ : ∃ t,rightI y=t:=⟨_,rfl⟩
   rw [ht] at HRI
   have HT:=hid ht
   obtain ⟨p,hp⟩ : ∃ p,((l.take j).map (·.x)).length=p:=⟨_,rfl⟩
   have HP:=hid hp
   rw [hp] at HO ⊢
   clear hr hba hm hy ht hyb hp
   cases t with
   | false =>
     have hz0 : z=false:=by
      rw [← HZ.out,List.all_eq_false.2 ⟨y,List.mem_of_getElem? HY.out,by rw [HT.out];simp⟩]
      rfl
     subst hz0
     go_wp2_with (go_at_call 160;(with_reducible refine HRI.out.mono ?_);rintro e w1 ⟨rfl,hb1⟩;have HB1:=hid (HBA.out.trans (hb1.mono HBA.out.size));clear hb1)
     go_ret
     exact ⟨rfl,HB1.out⟩
   | true =>
     have HA2 : Hid (∀ i∈l.take (j+1),rightI i=true):=fun i hi=>by
      rw [List.take_add_one,HY.out] at hi
      rcases List.mem_append.1 hi with hi|hi
      ·exact HA.out i hi
      ·obtain rfl : i=y:=by simpa using hi
       exact HT.out
     have HAP : Hid (∀ w1,Below (wr.alloc (.cells #[.bool y.no,.slice a2 m c2,.string (strB y.x),.int .i64 y.mode] 44)).heap.size (wr.alloc (.cells #[.bool y.no,.slice a2 m c2,.string (strB y.x),.int .i64 y.mode] 44)) w1→∃ a9 l9 c9 w9,(Builtin.append_ #[38,38] 38 #[.slice va p vc,.slice (some ⟨w1.heap.size,0,none⟩) 1 1]).run Tryz.prog (w1.alloc (.cells #[.string (strB y.x)] 9))=.ok (.slice a9 l9 c9) w9∧Hid (OwnP nameD w9 w.heap.size 9 (.slice a9 l9 c9) ((l.take (j+1)).map (·.x)))∧Hid (Below w.heap.size w w9)):=fun w1 hb1=>by
      have hb2 : Below wr.heap.size wr w1:=HBA1.out.trans (hb1.mono HBA1.out.size)
      have hb5:=(Below.refl w1.heap.size w1).alloc (Nat.le_refl _) (.cells #[.string (strB y.x)] 9)
      have o5:=(HO.out.keep (TFr.of_below (K:=fun _=>False) hb2) (fun _ h=>h.elim)).keep (TFr.of_below (K:=fun _=>False) hb5) (fun _ h=>h.elim)
      have hsz:=HB.out.size
      obtain ⟨v9,w9,hr,ho,hg⟩:=OwnP.append (ts:=38) (ty:=38) (x:=y.x) (by kernel_rfl) strI rfl (by decide) (by decide) o5 (by have:=hb2.size;have:=hb5.size;omega) (by rw [List.length_map,List.length_take];omega) (show nameD.P _ _ [.string (strB y.x)] y.x from rfl) (heap_alloc_new w1 _)
      obtain ⟨a9,c9,rfl⟩:=ho.slice
      refine ⟨a9,_,c9,w9,hr,?_,?_⟩
      ·show OwnP _ _ _ _ _ _
       rw [List.take_add_one,HY.out]
       simpa using ho
      ·have hall : Below w.heap.size w (w1.alloc (.cells #[.string (strB y.x)] 9)):=(HB.out.trans (hb2.mono hsz)).trans (hb5.mono (by have:=hb2.size;omega))
       exact hall.grown hg hall.size (fun k hk=>(o5.own k hk).1)
     go_wp2_with (first
      | (go_at_call 160;(with_reducible refine HRI.out.mono ?_);rintro e w1 ⟨rfl,hb1⟩;have e2:=zaa hb1 (tnew wr #[.bool y.no,.slice a2 m c2,.string (strB y.x),.int .i64 y.mode] 44 2 rfl);obtain ⟨a9,l9,c9,w9,hr9,O9,B9⟩:=HAP.out w1 hb1;clear hb1)
      | (at_builtin;refine Lib.wpList_append_run _ rfl _ _ _ _ rfl _ _ rfl rfl _ _ hr9 ?_;clear hr9))
     go_round
     case rel=>exact ⟨j+1,by go_num,by omega,HA2,O9,B9⟩
     case measure=>simp [RowKit.intOf];omega
  ·have hjq : j=l.length:=by rw [HQ.out];omega
   have hall : l.all rightI=true:=List.all_eq_true.2 (fun i hi=>HA.out i (by rw [hjq,List.take_length];exact hi))
   have hmap : (l.take j).map (·.x)=l.map (·.x):=by rw [hjq,List.take_length]
   rw [hmap] at HO ⊢
   have hz2 : unlikeB (l.map (·.x))=z:=by rw [← HZ.out,hall];rfl
   have hun:=zcc HO.out.row (by rw [List.length_map,HQ.out];omega) (fun b hb=>by
    obtain ⟨i,hi,rfl⟩:=List.mem_map.1 hb
    exact (HBD.out i hi).2.2)
   obtain ⟨p,hp⟩ : ∃ p,(l.map (·.x)).length=p:=⟨_,rfl⟩
   rw [hp,hz2] at hun
   rw [hp]
   have HU:=hid hun
   clear hun hp hz2 hmap hall hjq HO HZ
   go_wp2_with (go_at_call 161;(with_reducible refine HU.out.mono ?_);rintro e w1 ⟨rfl,hb1⟩;have HB1:=hid (HB.out.trans (hb1.mono HB.out.size));clear hb1)
   go_ret
   exact ⟨rfl,HB1.out⟩
theorem zco (h : RowK itemD K w (.slice a l.length c) l) (hbd : ∀ i∈l,ItB i) :
 Calls Tryz.prog 100 #[.slice a l.length c] w fun e w'=>e=.returned (.bool (rightIs l))∧Below w.heap.size w w':=by
 cases h0 : l[0]? with
 | none =>
   have hn : l=[]:=by
    cases l with
    | nil=>rfl
    | cons a r=>simp at h0
   have e:=zdm h (.inl hn)
   subst hn
   exact e
 | some i =>
   by_cases hb : 6 < l.length∨i.no=true∨i.mode=3
   ·rw [zfk h0 hb]
    exact zdm h (.inr ⟨i,h0,hb⟩)
   ·have h1 : ¬ 6 < l.length:=fun e=>hb (.inl e)
    have h2 : i.no=false:=by
     cases hn : i.no with
     | false=>rfl
     | true=>exact absurd (.inr (.inl hn)) hb
    have h3 : i.mode≠3:=fun e=>hb (.inr (.inr e))
    rw [zeh h0 h1 h2 h3]
    exact zfl h h0 h1 h2 h3 hbd
end
def inkB (c : UInt8) : Bool:=decide (32≤c.toNat∧c.toNat≤126∧c.toNat≠39)
def writeB (v : PVal) : Bool:=v.s.all inkB && rightB v
theorem zdc (k n : Int) (s : List UInt8) (w : World) (hs : s.length≤1000000) : Calls Tryz.prog 198 #[.agg #[.int .i64 k,.int .i64 n,.string (strB s)]] w fun e w'=>e=.returned (.bool (writeB ⟨k,n,s⟩))∧Below w.heap.size w w':=by
 obtain ⟨z,hz⟩ : ∃ z,writeB ⟨k,n,s⟩=z:=⟨_,rfl⟩
 rw [hz]
 have hb0:=(Below.refl w.heap.size w).alloc (Nat.le_refl _) (.cells #[.int .i64 k,.int .i64 n,.string (strB s)] 70)
 obtain ⟨W,c,hcv,hbW,hcell⟩:=zdk (w.alloc (.cells #[.int .i64 k,.int .i64 n,.string (strB s)] 70)) (strB s)
 have m0:=zaa hbW (tnew w #[.int .i64 k,.int .i64 n,.string (strB s)] 70 0 rfl)
 have m1:=zaa hbW (tnew w #[.int .i64 k,.int .i64 n,.string (strB s)] 70 1 rfl)
 have m2:=zaa hbW (tnew w #[.int .i64 k,.int .i64 n,.string (strB s)] 70 2 rfl)
 have HB:=hid (hb0.trans (hbW.mono hb0.size))
 obtain ⟨q,hq⟩ : ∃ q,(strB s).size=q:=⟨_,rfl⟩
 have hql : q=s.length:=by rw [← hq,zap]
 rw [zax] at hcell
 simp only [World.size_alloc] at hcell hcv
 have HC:=hid hcell
 have HQ:=hid hql
 have HZ:=hid hz
 rw [hq] at hcv
 have hvr:=zb9 k n (strB s) W (by rw [zap];unfold maxLen;omega)
 have hrv : rightV k n (strB s)=rightB ⟨k,n,s⟩:=by unfold rightV;rw [zax]
 rw [hrv] at hvr
 have HVR:=hid hvr
 have hqb : q≤1000000:=by omega
 clear hz hb0 hbW hcell hq hql hvr hrv
 go_enter Tryz.func198,Tryz.ntmps198
 go_wp2
 go_loop [9] (fun i=>∃ j : Nat,i=.int .i64 j∧j≤q∧Hid (∀ x∈s.take j,inkB x=true)) (fun i=>q - (RowKit.intOf i).toNat)
 case atStart=>exact ⟨0,rfl,Nat.zero_le _,fun x hx=>by simp at hx⟩
 case round =>
  obtain ⟨j,rfl,hj,HK⟩:=hrel
  by_cases hlt : j < q
  ·obtain ⟨x,hx⟩ : ∃ x,s[j]?=some x:=⟨_,List.getElem?_eq_getElem (by rw [← HQ.out];exact hlt)⟩
   have hcx:=HC.out j x hx
   have Hx:=hid hx
   have hx8:=x.toNat_lt
   have hstep:=fun hch : inkB x=true=>(fun y hy=>by
    rw [List.take_add_one,Hx.out] at hy
    rcases List.mem_append.1 hy with hy|hy
    ·exact HK.out y hy
    ·obtain rfl : y=x:=by simpa using hy
     exact hch : ∀ y∈s.take (j+1),inkB y=true)
   have hfail:=fun hch : inkB x=false=>(show z=false by
    rw [← HZ.out]
    unfold writeB
    rw [show s.all inkB=false from List.all_eq_false.2 ⟨x,List.mem_of_getElem? Hx.out,by simp [hch]⟩]
    rfl)
   unfold inkB at hstep hfail
   clear hx
   generalize x.toNat=n at *
   by_cases a1 : n < 32
   ·have hz0:=hfail (by simp;omega)
    subst hz0
    have t1 : decide (n < 32)=true:=decide_eq_true a1
    clear hstep hfail
    go_wp2
    go_ret
    exact ⟨rfl,HB.out⟩
   have t1 : decide ((n : Int) < 32)=false:=decide_eq_false (by omega)
   by_cases a2 : 126 < n
   ·have hz0:=hfail (by simp;omega)
    subst hz0
    have t2 : decide (126 < n)=true:=decide_eq_true a2
    clear hstep hfail
    go_wp2
    go_ret
    exact ⟨rfl,HB.out⟩
   have t2 : decide (126 < (n : Int))=false:=decide_eq_false (by omega)
   by_cases a3 : n=39
   ·have hz0:=hfail (by simp [a3])
    subst hz0
    subst a3
    clear hstep hfail
    go_wp2
    go_ret
    exact ⟨rfl,HB.out⟩
   have t3 : ((n : Int) == 39)=false:=by rw [beq_eq_false_iff_ne];omega
   have HS:=hid (hstep (by simp;omega))
   clear hstep hfail
   go_wp2
   go_round
   case rel=>exact ⟨j+1,by go_num,by omega,HS⟩
   case measure=>simp [RowKit.intOf];omega
  ·have hall : s.all inkB=true:=List.all_eq_true.2 (fun x hx=>HK.out x (by rw [show j=s.length by rw [← HQ.out];omega,List.take_length];exact hx))
   have hz2 : rightB ⟨k,n,s⟩=z:=by rw [← HZ.out];unfold writeB;rw [hall];rfl
   rw [hz2] at HVR
   clear hall hz2 HZ
   go_wp2_with (go_at_call 193;(with_reducible refine HVR.out.mono ?_);rintro e w1 ⟨rfl,rfl⟩)
   go_ret
   exact ⟨rfl,HB.out.alloc HB.out.size _⟩
section
variable {w : World} {a : Option Addr} {c n : Nat} {vs x f : List UInt8} {vk vn : Int}
theorem ziu : Calls Tryz.prog 197 #[.agg #[.int .i64 1,.int .i64 vk,.int .i64 vn,.string (strB vs),.string (strB x),.string (strB f),.slice a n c]] w fun e w'=>e=.returned (.bool (decide (x=[]∧f=[]∧n=0)))∧Below w.heap.size w w':=by
 go_enter Tryz.func197,Tryz.ntmps197
 go_wp2
 all_goals
  go_ret
  exact ⟨zaJ (by simp_all [zao] <;> omega),((Below.refl w.heap.size w).alloc (Nat.le_refl _) _).alloc (by simp) _⟩
theorem zgx : Calls Tryz.prog 197 #[.agg #[.int .i64 3,.int .i64 vk,.int .i64 vn,.string (strB vs),.string (strB x),.string (strB f),.slice a n c]] w fun e w'=>e=.returned (.bool (decide ((⟨vk,vn,vs⟩ : PVal)=noV∧f=[]∧n=0)))∧Below w.heap.size w w':=by
 go_enter Tryz.func197,Tryz.ntmps197
 go_wp2
 all_goals
  go_ret
  exact ⟨zaJ (by simp_all [zao,noV] <;> omega),((Below.refl w.heap.size w).alloc (Nat.le_refl _) _).alloc (by simp) _⟩
theorem zgy : Calls Tryz.prog 197 #[.agg #[.int .i64 2,.int .i64 vk,.int .i64 vn,.string (strB vs),.string (strB x),.string (strB f),.slice a n c]] w fun e w'=>e=.returned (.bool (decide ((⟨vk,vn,vs⟩ : PVal)=noV∧n=0)))∧Below w.heap.size w w':=by
 go_enter Tryz.func197,Tryz.ntmps197
 go_wp2
 all_goals
  go_ret
  exact ⟨zaJ (by simp_all [zao,noV] <;> omega),((Below.refl w.heap.size w).alloc (Nat.le_refl _) _).alloc (by simp) _⟩
theorem ziv : Calls Tryz.prog 197 #[.agg #[.int .i64 4,.int .i64 vk,.int .i64 vn,.string (strB vs),.string (strB x),.string (strB f),.slice a n c]] w fun e w'=>e=.returned (.bool (decide ((⟨vk,vn,vs⟩ : PVal)=noV∧n=0)))∧Below w.heap.size w w':=by
 go_enter Tryz.func197,Tryz.ntmps197
 go_wp2
 all_goals
  go_ret
  exact ⟨zaJ (by simp_all [zao,noV] <;> omega),((Below.refl w.heap.size w).alloc (Nat.le_refl _) _).alloc (by simp) _⟩
theorem ziw : Calls Tryz.prog 197 #[.agg #[.int .i64 5,.int .i64 vk,.int .i64 vn,.string (strB vs),.string (strB x),.string (strB f),.slice a n c]] w fun e w'=>e=.returned (.bool (decide ((⟨vk,vn,vs⟩ : PVal)=noV∧n=0)))∧Below w.heap.size w w':=by
 go_enter Tryz.func197,Tryz.ntmps197
 go_wp2
 all_goals
  go_ret
  exact ⟨zaJ (by simp_all [zao,noV] <;> omega),((Below.refl w.heap.size w).alloc (Nat.le_refl _) _).alloc (by simp) _⟩
theorem zix : Calls Tryz.prog 197 #[.agg #[.int .i64 6,.int .i64 vk,.int .i64 vn,.string (strB vs),.string (strB x),.string (strB f),.slice a n c]] w fun e w'=>e=.returned (.bool (decide ((⟨vk,vn,vs⟩ : PVal)=noV∧n=0)))∧Below w.heap.size w w':=by
 go_enter Tryz.func197,Tryz.ntmps197
 go_wp2
 all_goals
  go_ret
  exact ⟨zaJ (by simp_all [zao,noV] <;> omega),((Below.refl w.heap.size w).alloc (Nat.le_refl _) _).alloc (by simp) _⟩
theorem ziy : Calls Tryz.prog 197 #[.agg #[.int .i64 7,.int .i64 vk,.int .i64 vn,.string (strB vs),.string (strB x),.string (strB f),.slice a n c]] w fun e w'=>e=.returned (.bool (decide ((⟨vk,vn,vs⟩ : PVal)=noV∧x=[]∧f=[]∧n=2)))∧Below w.heap.size w w':=by
 go_enter Tryz.func197,Tryz.ntmps197
 go_wp2
 all_goals
  go_ret
  exact ⟨zaJ (by simp_all [zao,noV] <;> omega),((Below.refl w.heap.size w).alloc (Nat.le_refl _) _).alloc (by simp) _⟩
theorem ziz : Calls Tryz.prog 197 #[.agg #[.int .i64 8,.int .i64 vk,.int .i64 vn,.string (strB vs),.string (strB x),.string (strB f),.slice a n c]] w fun e w'=>e=.returned (.bool (decide ((⟨vk,vn,vs⟩ : PVal)=noV∧x=[]∧f=[]∧n=2)))∧Below w.heap.size w w':=by
 go_enter Tryz.func197,Tryz.ntmps197
 go_wp2
 all_goals
  go_ret
  exact ⟨zaJ (by simp_all [zao,noV] <;> omega),((Below.refl w.heap.size w).alloc (Nat.le_refl _) _).alloc (by simp) _⟩
theorem zhq {k : Int} (h1 : k≠1) (h2 : k≠2) (h3 : k≠3) (h4 : k≠4) (h5 : k≠5) (h6 : k≠6) (h7 : k≠7) (h8 : k≠8) : Calls Tryz.prog 197 #[.agg #[.int .i64 k,.int .i64 vk,.int .i64 vn,.string (strB vs),.string (strB x),.string (strB f),.slice a n c]] w fun e w'=>e=.returned (.bool (false))∧Below w.heap.size w w':=by
 have t1 : (k == 1)=false:=by rw [beq_eq_false_iff_ne];exact h1
 have t2 : (k == 2)=false:=by rw [beq_eq_false_iff_ne];exact h2
 have t3 : (k == 3)=false:=by rw [beq_eq_false_iff_ne];exact h3
 have t4 : (k == 4)=false:=by rw [beq_eq_false_iff_ne];exact h4
 have t5 : (k == 5)=false:=by rw [beq_eq_false_iff_ne];exact h5
 have t6 : (k == 6)=false:=by rw [beq_eq_false_iff_ne];exact h6
 have t7 : (k == 7)=false:=by rw [beq_eq_false_iff_ne];exact h7
 have t8 : (k == 8)=false:=by rw [beq_eq_false_iff_ne];exact h8
 clear h1 h2 h3 h4 h5 h6 h7 h8
 go_enter Tryz.func197,Tryz.ntmps197
 go_wp2
 all_goals
  go_ret
  exact ⟨zaJ (by rfl),((Below.refl w.heap.size w).alloc (Nat.le_refl _) _).alloc (by simp) _⟩
end
theorem evI : (Tryz.prog.info? 41).map (fun i=>(i.zero,i.size,i.bytes))=some (some (.agg #[.int .i64 0,.int .i64 0,.int .i64 0,.string .empty,.slice none 0 0]),5,64):=by kernel_rfl
theorem evsI : (Tryz.prog.info? 27).map (fun i=>(i.zero,i.size,i.bytes))=some (some (.slice none 0 0),1,24):=by kernel_rfl
theorem valI : (Tryz.prog.info? 70).map (fun i=>(i.zero,i.size,i.bytes))=some (some (.agg #[.int .i64 0,.int .i64 0,.string .empty]),3,32):=by kernel_rfl
theorem runI : (Tryz.prog.info? 59).map (fun i=>(i.zero,i.size,i.bytes))=some (some (.agg #[.int .i64 0,.slice none 0 0]),2,32):=by kernel_rfl
theorem mtI : (Tryz.prog.info? 37).map (fun i=>(i.zero,i.size,i.bytes))=some (some (.agg #[.int .i64 0,.slice none 0 0]),2,32):=by kernel_rfl
theorem RowK.none_nil {α : Type} {D : RowD α} {K : Nat→Prop} {w : World} {n c : Nat} {l : List α} (h : RowK D K w (.slice none n c) l) : l=[]:=by
 obtain ⟨a,c',e,hc,h⟩:=h
 injection e with e1 e2 e3
 subst e1
 cases l with
 | nil=>rfl
 | cons x l =>
   obtain ⟨g,o,cs,ea,_⟩:=h 0 x rfl
   cases ea
def CloneTo {α : Type} (D : RowD α) (K : Nat→Prop) (t : TypeId) (l : List α) (w : World) (e : Ending) (w' : World) : Prop:=∃ v css,e=.returned v∧OwnG D (fun g=>K g∨v.ownBlock=some g) w' w.heap.size t v l css∧Below w.heap.size w w'
theorem zbm {K : Nat→Prop} {w : World} {a : Option Addr} {c : Nat} {l : List (List PEv)} (h : RowK evsD K w (.slice a l.length c) l) (_ : ∀ g,K g→g < w.heap.size) (hl : l.length≤1000000) : Calls Tryz.prog 130 #[.slice a l.length c] w (CloneTo evsD K 27 l w):=by
 cases a with
 | none =>
   obtain rfl:=h.none_nil
   have heq:=fun W=>Lib.run_eql_slice_nil (P:=Tryz.prog) W 35 27 none 0 c 0 0 Tryz.underlying35
   clear h hl
   go_enter Tryz.func130,Tryz.ntmps130
   go_wp2
   all_goals
    go_ret
    exact ⟨_,[],rfl,OwnG.nil,Below.refl _ _⟩
 | some A =>
   have hbe : Below w.heap.size w (w.alloc (.cells #[] 27)):=(Below.refl _ _).alloc (Nat.le_refl _) _
   have h2 : RowK evsD (fun g=>K g∨g=w.heap.size) (w.alloc (.cells #[] 27)) (.slice (some A) l.length c) l:=(h.ne (by decide) (Nat.le_refl _)).low hbe
   have ho : OwnG evsD (fun g=>K g∨g=w.heap.size) (w.alloc (.cells #[] 27)) w.heap.size 27 (.slice (some ⟨w.heap.size,0,none⟩) 0 0) [] []:=OwnG.empty (Nat.le_refl _) (heap_alloc_new w _)
   obtain ⟨v9,w9,css,hr9,h9,hg9,hd9⟩:=h2.clone (t:=27) (ts:=35) (ty:=35) (z:=.slice none 0 0) (bytes:=24) Tryz.underlying35 evsI rfl (by decide) (by decide) hl ho hbe.size (fun g hg=>.inr (Option.some.inj hg).symm)
   have H9 : Hid (OwnG evsD (fun g=>K g∨v9.ownBlock=some g) w9 w.heap.size 27 v9 l css):=h9.mono (fun g hg=>hg.imp .inl id)
   have HB9 : Hid (Below w.heap.size w w9):=hbe.grown hg9 hbe.size (fun g hg=>by rw [← Option.some.inj hg];exact Nat.le_refl _)
   obtain ⟨n,hn⟩ : ∃ n,l.length=n:=⟨_,rfl⟩
   have heq:=fun W=>Lib.run_eql_slice_nil (P:=Tryz.prog) W 35 27 (some A) l.length c 0 0 Tryz.underlying35
   rw [hn] at hr9 heq ⊢
   clear h hl hbe h2 ho h9 hg9 hd9 hn
   go_enter Tryz.func130,Tryz.ntmps130
   go_wp2_with (at_builtin;refine Lib.wpList_append_run _ rfl _ _ _ _ rfl _ _ rfl rfl _ _ hr9 ?_;clear hr9)
   go_wp2
   go_ret
   exact ⟨_,css,rfl,H9.out,HB9.out⟩
theorem zdb {K : Nat→Prop} {w : World} {a : Option Addr} {c : Nat} {l : List (PEv)} (h : RowK evD K w (.slice a l.length c) l) (_ : ∀ g,K g→g < w.heap.size) (hl : l.length≤1000000) : Calls Tryz.prog 131 #[.slice a l.length c] w (CloneTo evD K 41 l w):=by
 cases a with
 | none =>
   obtain rfl:=h.none_nil
   have heq:=fun W=>Lib.run_eql_slice_nil (P:=Tryz.prog) W 27 41 none 0 c 0 0 Tryz.underlying27
   clear h hl
   go_enter Tryz.func131,Tryz.ntmps131
   go_wp2
   all_goals
    go_ret
    exact ⟨_,[],rfl,OwnG.nil,Below.refl _ _⟩
 | some A =>
   have hbe : Below w.heap.size w (w.alloc (.cells #[] 41)):=(Below.refl _ _).alloc (Nat.le_refl _) _
   have h2 : RowK evD (fun g=>K g∨g=w.heap.size) (w.alloc (.cells #[] 41)) (.slice (some A) l.length c) l:=(h.ne (by decide) (Nat.le_refl _)).low hbe
   have ho : OwnG evD (fun g=>K g∨g=w.heap.size) (w.alloc (.cells #[] 41)) w.heap.size 41 (.slice (some ⟨w.heap.size,0,none⟩) 0 0) [] []:=OwnG.empty (Nat.le_refl _) (heap_alloc_new w _)
   obtain ⟨v9,w9,css,hr9,h9,hg9,hd9⟩:=h2.clone (t:=41) (ts:=27) (ty:=27) (z:=.agg #[.int .i64 0,.int .i64 0,.int .i64 0,.string .empty,.slice none 0 0]) (bytes:=64) Tryz.underlying27 evI rfl (by decide) (by decide) hl ho hbe.size (fun g hg=>.inr (Option.some.inj hg).symm)
   have H9 : Hid (OwnG evD (fun g=>K g∨v9.ownBlock=some g) w9 w.heap.size 41 v9 l css):=h9.mono (fun g hg=>hg.imp .inl id)
   have HB9 : Hid (Below w.heap.size w w9):=hbe.grown hg9 hbe.size (fun g hg=>by rw [← Option.some.inj hg];exact Nat.le_refl _)
   obtain ⟨n,hn⟩ : ∃ n,l.length=n:=⟨_,rfl⟩
   have heq:=fun W=>Lib.run_eql_slice_nil (P:=Tryz.prog) W 27 41 (some A) l.length c 0 0 Tryz.underlying27
   rw [hn] at hr9 heq ⊢
   clear h hl hbe h2 ho h9 hg9 hd9 hn
   go_enter Tryz.func131,Tryz.ntmps131
   go_wp2_with (at_builtin;refine Lib.wpList_append_run _ rfl _ _ _ _ rfl _ _ rfl rfl _ _ hr9 ?_;clear hr9)
   go_wp2
   go_ret
   exact ⟨_,css,rfl,H9.out,HB9.out⟩
theorem zcx {K : Nat→Prop} {w : World} {a : Option Addr} {c : Nat} {l : List (PVal)} (h : RowK valD K w (.slice a l.length c) l) (_ : ∀ g,K g→g < w.heap.size) (hl : l.length≤1000000) : Calls Tryz.prog 132 #[.slice a l.length c] w (CloneTo valD K 70 l w):=by
 cases a with
 | none =>
   obtain rfl:=h.none_nil
   have heq:=fun W=>Lib.run_eql_slice_nil (P:=Tryz.prog) W 39 70 none 0 c 0 0 Tryz.underlying39
   clear h hl
   go_enter Tryz.func132,Tryz.ntmps132
   go_wp2
   all_goals
    go_ret
    exact ⟨_,[],rfl,OwnG.nil,Below.refl _ _⟩
 | some A =>
   have hbe : Below w.heap.size w (w.alloc (.cells #[] 70)):=(Below.refl _ _).alloc (Nat.le_refl _) _
   have h2 : RowK valD (fun g=>K g∨g=w.heap.size) (w.alloc (.cells #[] 70)) (.slice (some A) l.length c) l:=(h.ne (by decide) (Nat.le_refl _)).low hbe
   have ho : OwnG valD (fun g=>K g∨g=w.heap.size) (w.alloc (.cells #[] 70)) w.heap.size 70 (.slice (some ⟨w.heap.size,0,none⟩) 0 0) [] []:=OwnG.empty (Nat.le_refl _) (heap_alloc_new w _)
   obtain ⟨v9,w9,css,hr9,h9,hg9,hd9⟩:=h2.clone (t:=70) (ts:=39) (ty:=39) (z:=.agg #[.int .i64 0,.int .i64 0,.string .empty]) (bytes:=32) Tryz.underlying39 valI rfl (by decide) (by decide) hl ho hbe.size (fun g hg=>.inr (Option.some.inj hg).symm)
   have H9 : Hid (OwnG valD (fun g=>K g∨v9.ownBlock=some g) w9 w.heap.size 70 v9 l css):=h9.mono (fun g hg=>hg.imp .inl id)
   have HB9 : Hid (Below w.heap.size w w9):=hbe.grown hg9 hbe.size (fun g hg=>by rw [← Option.some.inj hg];exact Nat.le_refl _)
   obtain ⟨n,hn⟩ : ∃ n,l.length=n:=⟨_,rfl⟩
   have heq:=fun W=>Lib.run_eql_slice_nil (P:=Tryz.prog) W 39 70 (some A) l.length c 0 0 Tryz.underlying39
   rw [hn] at hr9 heq ⊢
   clear h hl hbe h2 ho h9 hg9 hd9 hn
   go_enter Tryz.func132,Tryz.ntmps132
   go_wp2_with (at_builtin;refine Lib.wpList_append_run _ rfl _ _ _ _ rfl _ _ rfl rfl _ _ hr9 ?_;clear hr9)
   go_wp2
   go_ret
   exact ⟨_,css,rfl,H9.out,HB9.out⟩
section
variable {α : Type} {D : RowD α} {K : Nat→Prop} {w w3 w2 : World} {B : Nat} {t : TypeId} {v : Value} {l : List α} {css : List (List Value)}
theorem zcy {k : Nat} (hrow : w.ownsRow B t k v l.length css.flatten) (hn : css.length=l.length) (hk : ∀ c∈css,c.length=k) {g : Nat} (hg : v.ownBlock=some g) {j r : Nat} {cs : List Value} (u : Value) (hj : css[j]?=some cs) (hr : r < k) : (w.setCell ⟨g,j*k+r,none⟩ u).ownsRow B t k v l.length (css.set j (cs.set r u)).flatten:=by
 have hjl:=(List.getElem?_eq_some_iff.1 hj).1
 refine ⟨by rw [← zdA hk hj hr,List.length_set];exact hrow.1,?_⟩
 rcases hrow.2 with ⟨rfl,h0⟩|⟨g',cap,cur,rfl,hb,hh,hn',hc,hs,ht⟩
 ·cases hg
 ·obtain rfl : g'=g:=Option.some.inj hg
  have e2 : j*k+r < l.length*k:=by
   have h1 : (j+1)*k≤l.length*k:=Nat.mul_le_mul_right _ (by rw [← hn];exact hjl)
   rw [Nat.succ_mul] at h1
   omega
  refine .inr ⟨g',cap,cur.setIfInBounds (j*k+r) u,rfl,hb,zal hh u,hn',hc,by rw [Array.size_setIfInBounds];exact hs,?_⟩
  rw [← zdA hk hj hr,← ht,Array.toList_setIfInBounds,List.take_set]
theorem OwnG.put (h : OwnG D K w B t v l css) (hD : GeD D) {g : Nat} (hg : v.ownBlock=some g) (hK : K g) {j r : Nat} {cs : List Value} {u : Value} (hb : Below w.heap.size w w3) (hj : css[j]?=some cs) (hr : r < D.k) (hf : TFr (fun b=>w.heap.size≤b) (w3.setCell ⟨g,j*D.k+r,none⟩ u) w2) (hx : ∀ x,l[j]?=some x→D.P K w2 (cs.set r u) x) :
 OwnG D K w2 B t v l (css.set j (cs.set r u)):=by
 have hgl:=(h.own g hg).2
 have hjl:=(List.getElem?_eq_some_iff.1 hj).1
 have hcl:=h.k cs (List.mem_of_getElem? hj)
 have h3 : w3.ownsRow B t D.k v l.length css.flatten:=zbn h.row (fun b hb'=>hb.block b (h.own b hb').2)
 refine ⟨by rw [List.length_set];exact h.n,zbn (zcy h3 h.n h.k hg u hj hr) (fun b hb'=>?_),fun c hc=>?_,fun i x hi=>?_⟩
 ·obtain rfl : g=b:=by rw [hg] at hb';exact Option.some.inj hb'
  have hs3:=hb.size
  exact hf.block g (by simp;omega) (by omega)
 ·rcases List.mem_or_eq_of_mem_set hc with hc|rfl
  ·exact h.k c hc
  ·rw [List.length_set];exact hcl
 ·by_cases e : i=j
  ·subst e
   exact ⟨_,by rw [List.getElem?_set_self hjl],hx x hi⟩
  ·obtain ⟨c,h1,h2⟩:=h.p i x hi
   refine ⟨c,by rw [List.getElem?_set_ne (fun h=>e h.symm)];exact h1,?_⟩
   have e1:=D.keep (TFr.of_below (K:=fun b=>K b∨w.heap.size≤b) hb) (hD _ _ _ _ h2)
   have e2:=D.keep ((TFr.at g (j*D.k+r) u).mono (fun k _ e=>.inl (e ▸ hK))) e1
   exact D.mono (fun b hb=>.inl hb) (D.keep (hf.mono (fun k _ e=>.inr e)) e2)
end
end Go.Proofs.YtkmlfkbpcgkpaaaGreatDoor
