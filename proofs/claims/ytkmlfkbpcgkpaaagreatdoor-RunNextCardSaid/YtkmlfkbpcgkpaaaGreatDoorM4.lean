/- Texts that others want. -/
import Derived.Test.YtkmlfkbpcgkpaaaGreatDoorM0
import Derived.Test.YtkmlfkbpcgkpaaaGreatDoorM1
import Derived.Test.YtkmlfkbpcgkpaaaGreatDoorM3
import Derived.Deep.RegionHeld3
import Derived.Deep.QuietTactic
import Derived.BigQuiet
import Derived.Deep.Cut
import Derived.WalkMore
import Derived.Deep.RegionLaw
namespace Go.Proofs.YtkmlfkbpcgkpaaaGreatDoor
open Go.RowKit Go.Lib Go.Op
section
variable {P : Program} {ops : Array Oper} {Q : Exit→Act→World→Prop} {md : Region.Mode} {S : World→Prop}
theorem zf4 (i d : Nat) {o : Oper} {v : Value} {fuel : Nat} {listed : Array Bool} {a : Act} {w : World} (ho : ops[i]?=some o) (hs : Region.noSelect ops=true) (hf : Region.free md ops listed i=true)
 (hr : (Region.ready md ops listed).contains i=true) (hd : o.dst=some d)
 (hQ : ∀ c a w,Q (.panic c) (a.put (some d) v) w→Q (.panic c) a w) (hw : Region.wanted o (yielded ops a.tmps)=true) (hy : ∀ w,S w→(execOp a.eval o).run P w=.ok (.value v) w) (hS : S w)
 (h : wpAnyH P md ops Q S fuel (listed.setIfInBounds i true) (a.put (some d) v) w) : wpAnyH P md ops Q S (fuel+1) listed a w :=
 wpAnyH_take ho hs hf hr (by rw [hd];exact hQ) (Or.inl ⟨hw,hy⟩) hS (by rw [hd];exact h)
theorem zj0 (i d : Nat) {fuel : Nat} {listed : Array Bool} {a : Act} {w : World} (hs : Region.noSelect ops=true) (hf : Region.free md ops listed i=true)
 (hr : (Region.ready md ops listed).contains i=true) (hd : (ops[i]?).map (·.dst)=some (some d)) (hw : ((ops[i]?).map fun o=>Region.wanted o (yielded ops a.tmps))=some false)
 (hQ : ∀ c a w,Q (.panic c) (a.put (some d) undef) w→Q (.panic c) a w) (hS : S w)
 (h : wpAnyH P md ops Q S fuel (listed.setIfInBounds i true) (a.put (some d) undef) w) : wpAnyH P md ops Q S (fuel+1) listed a w:=by
 cases ho : ops[i]? with
 | none=>rw [ho] at hd;cases hd
 | some o =>
   rw [ho] at hd hw
   simp only [Option.map_some,Option.some.injEq] at hd hw
   refine wpAnyH_take ho hs hf hr ?_ (Or.inr ⟨hw,rfl⟩) hS ?_
   ·rw [hd];exact hQ
   ·rw [hd];exact h
theorem rK (i d : Nat) {o : Oper} {v : Value} {fuel : Nat} {listed : Array Bool} {a : Act} {w : World} (ho : ops[i]?=some o:=by rfl) (hs : Region.noSelect ops=true:=by kernel_rfl) (hf : Region.free md ops listed i=true:=by kernel_rfl)
 (hr : (Region.ready md ops listed).contains i=true:=by kernel_rfl) (hd : o.dst=some d:=by rfl)
 (hQ : ∀ c a w,Q (.panic c) (a.put (some d) v) w→Q (.panic c) a w:=by exact fun _ _ _ h=>h) (hw : Region.wanted o (yielded ops a.tmps)=true:=by rfl) (hy : ∀ w,S w→(execOp a.eval o).run P w=.ok (.value v) w:=by (intro W hSw;(try dsimp only at hSw);(try go_split_ands);go_simp;(try rw [if_neg (by omega)]);try with_reducible rfl)) (hS : S w:=by assumption)
 (h : wpAnyH P md ops Q S fuel (listed.setIfInBounds i true) (a.put (some d) v) w) : wpAnyH P md ops Q S (fuel+1) listed a w:=zf4 i d ho hs hf hr hd hQ hw hy hS h
theorem rL (i d : Nat) {o : Oper} {v : Value} {fuel : Nat} {listed : Array Bool} {a : Act} {w : World} (ho : ops[i]?=some o:=by rfl) (hs : Region.noSelect ops=true:=by kernel_rfl) (hf : Region.free md ops listed i=true:=by kernel_rfl)
 (hr : (Region.ready md ops listed).contains i=true:=by kernel_rfl) (hd : o.dst=some d:=by rfl)
 (hQ : ∀ c a w,Q (.panic c) (a.put (some d) v) w→Q (.panic c) a w:=by exact fun _ _ _ h=>h) (hw : Region.wanted o (yielded ops a.tmps)=true:=by rfl) (hy : ∀ w,S w→(execOp a.eval o).run P w=.ok (.value v) w:=by (intro W hSw;clear hSw;go_simp;(try rw [if_neg (by omega)]);try with_reducible rfl)) (hS : S w:=by assumption)
 (h : wpAnyH P md ops Q S fuel (listed.setIfInBounds i true) (a.put (some d) v) w) : wpAnyH P md ops Q S (fuel+1) listed a w:=zf4 i d ho hs hf hr hd hQ hw hy hS h
theorem rP (i d : Nat) {fuel : Nat} {listed : Array Bool} {a : Act} {w : World} (hs : Region.noSelect ops=true:=by kernel_rfl) (hf : Region.free md ops listed i=true:=by kernel_rfl)
 (hr : (Region.ready md ops listed).contains i=true:=by kernel_rfl) (hd : (ops[i]?).map (·.dst)=some (some d):=by kernel_rfl) (hw : ((ops[i]?).map fun o=>Region.wanted o (yielded ops a.tmps))=some false:=by rfl)
 (hQ : ∀ c a w,Q (.panic c) (a.put (some d) undef) w→Q (.panic c) a w:=by exact fun _ _ _ h=>h) (hS : S w:=by assumption)
 (h : wpAnyH P md ops Q S fuel (listed.setIfInBounds i true) (a.put (some d) undef) w) : wpAnyH P md ops Q S (fuel+1) listed a w:=zj0 i d hs hf hr hd hw hQ hS h
theorem rA (i : Nat) {o : Oper} {fuel : Nat} {listed : Array Bool} {a : Act} {w : World} (ho : ops[i]? = some o := by rfl) (hr : Region.ready md ops listed = [i] := by kernel_rfl)
 (h : ∀ K' : Act → World → Prop, Shut (∀ a w, S w → (S w → wpAnyH P md ops Q S fuel (listed.setIfInBounds i true) a w) → K' a w) → if Region.wanted o (yielded ops a.tmps) = true then Oper.wp P o a w K' Q else K' (a.put o.dst undef) w) : wpAnyH P md ops Q S (fuel + 1) listed a w := wpAnyH_ready hr (by simp) (AllReadyH.cons ho h AllReadyH.nil)
theorem rI {α : Type _} {l : List α} {i : Nat} {a : α} : l.toArray.setIfInBounds i a=(l.set i a).toArray:=by simp
theorem rZ {α : Type _} {x y : α} {l : List α} : (x :: l).set 0 y=y :: l:=rfl
theorem rS {α : Type _} {x y : α} {l : List α} {n : Nat} : (x :: l).set (n+1) y=x :: l.set n y:=rfl
end
theorem zcB {w w' : World} {ops : Array Oper} {o : Oper} {a : Act} {K : Act→World→Prop} {Q : Exit→Act→World→Prop} {E : Prop} (hgd : o.guard=none) (s x : Operand) {ts tx ty : TypeId}
 (ho : o.op=.call { callee:=.builtin .append,args:=#[s,x],argTypes:=#[ts,tx] }) {v u v' : Value} (hty : o.type=ty) (hs : a.eval s=v) (hx : a.eval x=u)
 (hr : (Builtin.append_ #[ts,tx] ty #[v,u]).run Tryz.prog w=.ok v' w') (h : K (a.put o.dst v') w') :
 if Region.wanted o (yielded ops a.tmps)=true then Oper.wp Tryz.prog o a w K Q else E:=by
 have hw : Region.wanted o (yielded ops a.tmps)=true:=by simp [Region.wanted,hgd]
 rw [if_pos hw]
 subst hty
 unfold Oper.wp execOp
 simp only [ho,resolve,invoke,builtin,Sem.run_bind,Sem.run_pure,Result.andThen_ok,List.map_toArray,List.map_cons,List.map_nil,hs,hx,hr]
 exact h
def BdS (b : List (List PEv)) : Prop:=b.length≤100000∧∀ l∈b,l.length≤100000∧∀ e∈l,e.vals.length≤100000
theorem OwnG.frozen {α : Type} {D : RowD α} {K : Nat→Prop} {w : World} {B : Nat} {t : TypeId} {v : Value} {l : List α} {css : List (List Value)} (h : OwnG D K w B t v l css) {g : Nat} (hg : v.ownBlock=some g) (k : Nat) : w.frozen? ⟨g,k,none⟩=false:=by
 rcases h.row.2 with ⟨rfl,h0⟩|⟨g',cap,cur,rfl,hb,hh,_⟩
 ·cases hg
 ·obtain rfl : g'=g:=Option.some.inj hg
  exact zac hh
theorem OwnG.base {α : Type} {D : RowD α} {K : Nat→Prop} {w : World} {B : Nat} {t : TypeId} {a : Option Addr} {n c : Nat} {l : List α} {css : List (List Value)} (h : OwnG D K w B t (.slice a n c) l css) {j : Nat} {x : α} (hj : l[j]?=some x) : ∃ g,a=some ⟨g,0,none⟩:=(h.cap rfl).2 (fun e=>by rw [e] at hj;simp at hj)
theorem zaB {W W' : World} (h : Below W.heap.size W W') {p : Addr} {u : Value} (hc : W.cell? p=some u) (hf : W.frozen? p=false) : W'.frozen? p=false:=(World.frozen?_of_block (h.block _ (World.block_lt_of_cell? _ _ hc))).trans hf
section
variable {K : Nat→Prop} {w : World} {a : Option Addr} {c : Nat} {b : List (List PEv)}
end
theorem OwnG.ne {α : Type} {D : RowD α} {K : Nat→Prop} {w : World} {B : Nat} {t : TypeId} {v : Value} {l : List α} {css : List (List Value)} (h : OwnG D K w B t v l css) {b : Nat} (hb : w.heap.size≤b) : OwnG D (fun g=>K g∨g=b) w B t v l css :=
 ⟨h.n,h.row,h.k,fun j x hj=>by obtain ⟨cs,h1,h2⟩:=h.p j x hj;exact ⟨cs,h1,D.ne hb h2⟩⟩
def OK2 (v1 v2 : Value) : Nat→Prop:=fun g=>v1.ownBlock=some g∨v2.ownBlock=some g
def OvI (B : Nat) (W : World) (v1 v2 : Value) (l1 : List PRun) (l2 : List PMt) : Prop :=
 ∃ css1 css2,OwnG runD (OK2 v1 v2) W B 59 v1 l1 css1∧OwnG mtD (OK2 v1 v2) W B 37 v2 l2 css2∧∀ g,v1.ownBlock=some g→v2.ownBlock≠some g
section
variable {B : Nat} {W W' w w1 : World} {v1 v2 : Value} {l1 : List PRun} {l2 : List PMt}
theorem OvI.nil : OvI B W (.slice none 0 0) (.slice none 0 0) [] []:=⟨[],[],OwnG.nil,OwnG.nil,fun g h=>by cases h⟩
theorem OvI.low (h : OvI B W v1 v2 l1 l2) (hb : Below W.heap.size W W') : OvI B W' v1 v2 l1 l2:=by
 obtain ⟨c1,c2,h1,h2,h3⟩:=h
 exact ⟨c1,c2,h1.low hb,h2.low hb,h3⟩
theorem OvI.sl1 (h : OvI B W v1 v2 l1 l2) : ∃ a c,v1=.slice a l1.length c:=by
 obtain ⟨c1,c2,h1,h2,h3⟩:=h
 exact h1.slice
theorem OvI.sl2 (h : OvI B W v1 v2 l1 l2) : ∃ a c,v2=.slice a l2.length c:=by
 obtain ⟨c1,c2,h1,h2,h3⟩:=h
 exact h2.slice
theorem OvI.rows (h : OvI B W v1 v2 l1 l2) : RowK runD (fun _=>False) W v1 l1∧RowK mtD (fun _=>False) W v2 l2:=by
 obtain ⟨c1,c2,h1,h2,h3⟩:=h
 exact ⟨h1.row' (fun _ h=>h.elim) (fun _ _ h=>h),h2.row' (fun _ h=>h.elim) (fun _ _ h=>h)⟩
theorem OvI.own (h : OvI B W v1 v2 l1 l2) : ∀ g,OK2 v1 v2 g→B≤g∧g < W.heap.size:=by
 obtain ⟨c1,c2,h1,h2,h3⟩:=h
 exact fun g hg=>hg.elim (h1.own g) (h2.own g)
theorem OvI.on (h : OvI B w v1 v2 l1 l2) (hB : B≤w.heap.size) (hl : l1.length≤1000000) {x : PRun} {cs : List Value} (hb : Below w.heap.size w w1) (hx : runD.P (OK2 v1 v2) w1 cs x) :
 ∃ a9 c9 w9,(Builtin.append_ #[48,48] 48 #[v1,.slice (some ⟨w1.heap.size,0,none⟩) 1 1]).run Tryz.prog (w1.alloc (.cells cs.toArray 59))=.ok (.slice a9 (l1.length+1) c9) w9∧OvI B w9 (.slice a9 (l1.length+1) c9) v2 (l1++[x]) l2∧(w1.alloc (.cells cs.toArray 59)).grownBy w9 v1.ownBlock∧((Value.slice a9 (l1.length+1) c9).ownBlock=v1.ownBlock∨(Value.slice a9 (l1.length+1) c9).ownBlock=some (w1.heap.size+1)):=by
 obtain ⟨c1,c2,h1,h2,h3⟩:=h
 have hba:=hb.alloc hb.size (.cells cs.toArray 59)
 have hbb:=(Below.refl w1.heap.size w1).alloc (Nat.le_refl _) (.cells cs.toArray 59)
 have hsz:=hb.size
 obtain ⟨v9,w9,hr,ho,hg,hd⟩:=(h1.low hba).append (ts:=48) (ty:=48) (z:=.agg #[.int .i64 0,.slice none 0 0]) (bytes:=32) Tryz.underlying48 runI rfl (by decide) (by decide) (fun g hg=>.inl hg) (by simp;omega) hl (runD.keep (TFr.of_below hbb) hx) (heap_alloc_new w1 _)
 obtain ⟨a9,c9,rfl⟩:=ho.slice
 rw [List.length_append,List.length_singleton] at hr ho hd
 have h2' : OwnG mtD (fun g=>OK2 v1 v2 g∨g=(w1.alloc (.cells cs.toArray 59)).heap.size) w9 B 37 v2 l2 c2:=((h2.low hba).ne (Nat.le_refl _)).keep (TFr.of_grown hg (K:=fun g=>v1.ownBlock=some g) (fun k hk=>hk)) (fun g _ hg=>.inl (.inl hg)) (fun g hg hn=>h3 g hn hg)
 refine ⟨a9,c9,w9,hr,⟨c1++[cs],c2,?_,h2'.mono (fun g hg=>?_),fun g hg hn=>?_⟩,hg,by simpa using hd⟩
 ·rw [show l1.length+1=(l1++[x]).length by simp] at ho ⊢
  exact ho.mono (fun g hg=>hg.elim .inr (fun e=>.inl (.inr e)))
 ·rcases hg with hg|hg
  ·rcases hd with e|e
   ·exact .inl (.inl (by rw [← e];exact hg))
   ·rw [hg] at e
    exact .inr (Option.some.inj e)
  ·exact .inl (.inr hg)
 ·rcases hd with e|e
  ·exact h3 g (by rw [← e];exact hg) hn
  ·rw [hg] at e
   have e2:=Option.some.inj e
   have e3:=(h2.own g hn).2
   simp at e2
   omega
theorem OvI.fnd (h : OvI B w v1 v2 l1 l2) (hB : B≤w.heap.size) (hl : l2.length≤1000000) {x : PMt} {cs : List Value} (hb : Below w.heap.size w w1) (hx : mtD.P (OK2 v1 v2) w1 cs x) :
 ∃ a9 c9 w9,(Builtin.append_ #[32,32] 32 #[v2,.slice (some ⟨w1.heap.size,0,none⟩) 1 1]).run Tryz.prog (w1.alloc (.cells cs.toArray 37))=.ok (.slice a9 (l2.length+1) c9) w9∧OvI B w9 v1 (.slice a9 (l2.length+1) c9) l1 (l2++[x])∧(w1.alloc (.cells cs.toArray 37)).grownBy w9 v2.ownBlock∧((Value.slice a9 (l2.length+1) c9).ownBlock=v2.ownBlock∨(Value.slice a9 (l2.length+1) c9).ownBlock=some (w1.heap.size+1)):=by
 obtain ⟨c1,c2,h1,h2,h3⟩:=h
 have hba:=hb.alloc hb.size (.cells cs.toArray 37)
 have hbb:=(Below.refl w1.heap.size w1).alloc (Nat.le_refl _) (.cells cs.toArray 37)
 have hsz:=hb.size
 obtain ⟨v9,w9,hr,ho,hg,hd⟩:=(h2.low hba).append (ts:=32) (ty:=32) (z:=.agg #[.int .i64 0,.slice none 0 0]) (bytes:=32) Tryz.underlying32 mtI rfl (by decide) (by decide) (fun g hg=>.inr hg) (by simp;omega) hl (mtD.keep (TFr.of_below hbb) hx) (heap_alloc_new w1 _)
 obtain ⟨a9,c9,rfl⟩:=ho.slice
 rw [List.length_append,List.length_singleton] at hr ho hd
 have h1' : OwnG runD (fun g=>OK2 v1 v2 g∨g=(w1.alloc (.cells cs.toArray 37)).heap.size) w9 B 59 v1 l1 c1:=((h1.low hba).ne (Nat.le_refl _)).keep (TFr.of_grown hg (K:=fun g=>v2.ownBlock=some g) (fun k hk=>hk)) (fun g _ hg=>.inl (.inr hg)) (fun g hg hn=>h3 g hg hn)
 refine ⟨a9,c9,w9,hr,⟨c1,c2++[cs],h1'.mono (fun g hg=>?_),?_,fun g hg hn=>?_⟩,hg,by simpa using hd⟩
 ·rcases hg with hg|hg
  ·exact .inl (.inl hg)
  ·rcases hd with e|e
   ·exact .inl (.inr (by rw [← e];exact hg))
   ·rw [hg] at e
    exact .inr (Option.some.inj e)
 ·rw [show l2.length+1=(l2++[x]).length by simp] at ho ⊢
  exact ho.mono (fun g hg=>hg.elim (fun e=>.inl (.inl e)) .inr)
 ·rcases hd with e|e
  ·exact h3 g hg (by rw [← e];exact hn)
  ·rw [hn] at e
   have e2:=Option.some.inj e
   have e3:=(h1.own g hg).2
   simp at e2
   omega
end
section
variable {B : Nat} {w : World} {a1 a2 : Option Addr} {c1 c2 : Nat} {l1 : List PRun} {l2 : List PMt}
end
def keyX (k : Int) (a : Option Addr) (n : Nat) : Option Addr × Nat:=if k=7∨k=8 then (if n=0 then (none,0) else (a,n)) else (none,0)
def mostF (f : Option Addr × Nat→Int) (l : List (Option Addr × Nat)) : Int:=l.foldl (fun m k=>max m (f k)) 0
def KidsAt (w : World) (a : Option Addr) (l : List PEx) (ks : List (Option Addr × Nat)) : Prop:=ks.length=l.length∧∀ j x,l[j]?=some x→∃ g o a' c',a=some ⟨g,o,none⟩ ∧
 (w.cell? ⟨g,o+j*7,none⟩=some (.int .i64 x.k)∧w.cell? ⟨g,o+j*7+1,none⟩=some (.int .i64 x.v.k)∧w.cell? ⟨g,o+j*7+2,none⟩=some (.int .i64 x.v.n)∧w.cell? ⟨g,o+j*7+3,none⟩=some (.string (strB x.v.s))∧w.cell? ⟨g,o+j*7+4,none⟩=some (.string (strB x.x))∧w.cell? ⟨g,o+j*7+5,none⟩=some (.string (strB x.f))∧w.cell? ⟨g,o+j*7+6,none⟩=some (.slice a' x.ks.length c')) ∧
 (x.ks.length≠0→∃ g' o',a'=some ⟨g',o',none⟩)∧KBlk w (keyX x.k a' x.ks.length)∧ks[j]?=some (keyX x.k a' x.ks.length)
structure DRows (R : List (Option Addr × Nat)) (kids : Option Addr × Nat→List (Option Addr × Nat)) (dep : Option Addr × Nat→Int) : Prop where
 one : R.Nodup
 mem : ∀ r∈R,∀ c∈kids r,c∈R
 dn : dep (none,0)=1
 depIs : ∀ r∈R,r≠(none,0)→dep r=1+mostF dep (kids r)
section
variable {R : List (Option Addr × Nat)} {kids : Option Addr × Nat→List (Option Addr × Nat)} {dep f : Option Addr × Nat→Int} {t : Option Addr × Nat} {st : List (Option Addr × Nat)}
structure DInv (R : List (Option Addr × Nat)) (kids : Option Addr × Nat→List (Option Addr × Nat)) (dep f : Option Addr × Nat→Int) (st : List (Option Addr × Nat)) : Prop where
 vals : ∀ r∈R,f r=0∨f r=-1∨f r=dep r
 nil : f (none,0)=1
 inR : ∀ r∈st,r∈R
 beg : ∀ r,f r=-1→∃ pre suf,st=pre++r :: suf∧(∀ s∈pre,dep s < dep r)∧∀ c∈kids r,0 < f c∨c∈pre
def wtF (kids : Option Addr × Nat→List (Option Addr × Nat)) (f : Option Addr × Nat→Int) (r : Option Addr × Nat) : Nat:=if f r=0 then (kids r).length+2 else if f r=-1 then 1 else 0
def wtS (R : List (Option Addr × Nat)) (kids : Option Addr × Nat→List (Option Addr × Nat)) (f : Option Addr × Nat→Int) : Nat:=(R.map (wtF kids f)).sum
end
def sliceD : RowD (Option Addr × Nat × Nat) where
 k:=1
 P:=fun _ _ cs b=>cs=[.slice b.1 b.2.1 b.2.2]
 len:=fun h=>by rw [h];rfl
 one:=fun h u hu=>by rw [h] at hu;rw [List.mem_singleton.1 hu];rfl
 keep:=fun _ h=>h
 mono:=fun _ h=>h
 ne:=fun _ h=>h
section
variable {R : List (Option Addr × Nat)} {kids : Option Addr × Nat→List (Option Addr × Nat)} {dep f g : Option Addr × Nat→Int} {t : Option Addr × Nat} {st : List (Option Addr × Nat)}
end
def key3 (e : Option Addr × Nat × Nat) : Option Addr × Nat:=if e.2.1=0 then (none,0) else (e.1,e.2.1)
theorem PEx.ind {p : PEx→Prop} (h : ∀ k v x f ks,(∀ y∈ks,p y)→p (.mk k v x f ks)) : ∀ x,p x
 | .mk k v x f ks=>h k v x f ks (fun y _=>PEx.ind h y)
def deepI : PEx→Int
 | .mk k _ _ _ ks=>if k=7∨k=8 then 1+(ks.map fun y=>deepI y).foldr max 0 else 1
def sizeI : PEx→Nat
 | .mk _ _ _ _ ks=>1+(ks.map fun y=>sizeI y).sum
def sizeIs (l : List PEx) : Nat:=(l.map sizeI).sum
theorem ziA (k : Int) (v : PVal) (a b : List UInt8) (ks : List PEx) : sizeI (.mk k v a b ks)=1+sizeIs ks:=by rw [sizeI];rfl
theorem zgz : sizeIs []=0:=rfl
theorem zfp (x : PEx) (r : List PEx) : sizeIs (x :: r)=sizeI x+sizeIs r:=rfl
def kidK (w : World) (r : Option Addr × Nat) (j : Nat) : Option Addr × Nat :=
 match r.1 with
 | none=>(none,0)
 | some a=>match w.cell? ⟨a.block,a.off+j*7,none⟩,w.cell? ⟨a.block,a.off+j*7+6,none⟩ with
   | some (.int _ k),some (.slice b n _)=>keyX k b n
   | _,_=>(none,0)
def kidsF (w : World) (r : Option Addr × Nat) : List (Option Addr × Nat):=(List.range r.2).map (kidK w r)
def depN (w : World) : Nat→Option Addr × Nat→Int
 | 0,_=>1
 | m+1,r=>if r=(none,0) then 1 else 1+mostF (depN w m) (kidsF w r)
structure KSet (w : World) (N d : Nat) (L : List (Option Addr × Nat)) : Prop where
 kid : ∀ s∈L,∀ c∈kidsF w s,c∈L
 row : ∀ s∈L,s≠(none,0)→s.2≤N∧0 < s.2∧∃ l : List PEx,s.2=l.length∧KidsAt w s.1 l (kidsF w s)∧KBlk w s
 st : ∀ s∈L,∃ v : Int,v≤(N : Int)+1∧∀ m,d≤m→depN w m s=v
set_option maxHeartbeats 8000000
set_option maxRecDepth 100000
def gX : PEx→Int→Int
 | .mk _ v x f ks,m=>ks.foldl (fun n y=>if n < m then n+gX y (m - n) else n) (1+min (x.length : Int) 3000+min (f.length : Int) 3000+min (v.s.length : Int) 3000)
def gXs (l : List PEx) (n m : Int) : Int:=l.foldl (fun n y=>if n < m then n+gX y (m - n) else n) n
theorem zjn (k : Int) (v : PVal) (x f : List UInt8) (ks : List PEx) (m : Int) : gX (.mk k v x f ks) m=gXs ks (1+min (x.length : Int) 3000+min (f.length : Int) 3000+min (v.s.length : Int) 3000) m:=by
 rw [gX]
 rfl
theorem zfm (n m : Int) : gXs [] n m=n:=rfl
theorem zdI (y : PEx) (r : List PEx) {n m : Int} (h : n < m) : gXs (y :: r) n m=gXs r (n+gX y (m - n)) m:=by
 unfold gXs
 rw [List.foldl_cons,if_pos h]
theorem zfn {l : List PEx} {n m : Int} (h : ¬ n < m) : gXs l n m=n:=by
 induction l with
 | nil=>rfl
 | cons y r ih =>
   unfold gXs at ih ⊢
   rw [List.foldl_cons,if_neg h]
   exact ih
theorem zhg {l : List PEx} (hl : ∀ y∈l,∀ m,1≤gX y m∧gX y m≤max m 0+9001) : ∀ (n m : Int),0≤n→n≤max m 0+9001→n≤gXs l n m∧gXs l n m≤max m 0+9001:=by
 induction l with
 | nil=>exact fun n m h1 h2=>by rw [zfm];omega
 | cons y r ih =>
   intro n m h1 h2
   by_cases h : n < m
   ·rw [zdI _ _ h]
    have h3:=hl y List.mem_cons_self (m - n)
    have h4:=ih (fun z hz=>hl z (List.mem_cons_of_mem _ hz)) (n+gX y (m - n)) m (by omega) (by omega)
    omega
   ·rw [zfn h]
    omega
theorem zdJ : ∀ (x : PEx) (m : Int),1≤gX x m∧gX x m≤max m 0+9001:=PEx.ind fun k v x f ks ih m=>by
 have h:=zhg ih (1+min (x.length : Int) 3000+min (f.length : Int) 3000+min (v.s.length : Int) 3000) m (by omega) (by omega)
 rw [zjn]
 omega
theorem zhh {l : List PEx} (hl : ∀ y∈l,∀ m,m≤3000→gX y m < m→(sizeI y : Int)≤gX y m∧XBd y) : ∀ (n m : Int),0≤n→m≤3000→gXs l n m < m→n+(sizeIs l : Int)≤gXs l n m∧∀ y∈l,XBd y:=by
 induction l with
 | nil =>
   intro n m _ _ h
   rw [zfm,zgz]
   exact ⟨by omega,fun y hy=>by cases hy⟩
 | cons y r ih =>
   intro n m h0 hm h
   by_cases hn : n < m
   ·rw [zdI _ _ hn] at h ⊢
    have h3:=zdJ y (m - n)
    have h4:=zhg (l:=r) (fun z _=>zdJ z) (n+gX y (m - n)) m (by omega) (by omega)
    have h1:=ih (fun z hz=>hl z (List.mem_cons_of_mem _ hz)) (n+gX y (m - n)) m (by omega) hm h
    have h2:=hl y List.mem_cons_self (m - n) (by omega) (by omega)
    rw [zfp]
    refine ⟨by omega,fun z hz=>?_⟩
    rcases List.mem_cons.1 hz with rfl|hz
    ·exact h2.2
    ·exact h1.2 z hz
   ·rw [zfn hn] at h
    exact absurd h hn
theorem zcr : ∀ (x : PEx) (m : Int),m≤3000→gX x m < m→(sizeI x : Int)≤gX x m∧XBd x:=PEx.ind fun k v x f ks ih m hm h=>by
 rw [zjn] at h ⊢
 have h1:=zhg (l:=ks) (fun z _=>zdJ z) (1+min (x.length : Int) 3000+min (f.length : Int) 3000+min (v.s.length : Int) 3000) m (by omega) (by omega)
 have h2:=zhh ih (1+min (x.length : Int) 3000+min (f.length : Int) 3000+min (v.s.length : Int) 3000) m (by omega) hm h
 rw [ziA]
 exact ⟨by omega,.mk _ _ _ _ _ (by omega) (by omega) (by omega) h2.2⟩
theorem zcF {w : World} {a : Option Addr} {c : Nat} {k m : Int} {v : PVal} {xx f : List UInt8} {ks : List PEx} (lv : v.s.length≤maxLen) (lx : xx.length≤maxLen) (lf : f.length≤maxLen) (lk : ks.length≤maxLen) (hm : -20000≤m∧m≤20000)
 (hk : ∀ j y,ks[j]?=some y→∃ g o a' c',a=some ⟨g,o,none⟩∧(w.cell? ⟨g,o+j*7,none⟩=some (.int .i64 y.k)∧w.cell? ⟨g,o+j*7+1,none⟩=some (.int .i64 y.v.k)∧w.cell? ⟨g,o+j*7+2,none⟩=some (.int .i64 y.v.n)∧w.cell? ⟨g,o+j*7+3,none⟩=some (.string (strB y.v.s))∧w.cell? ⟨g,o+j*7+4,none⟩=some (.string (strB y.x))∧w.cell? ⟨g,o+j*7+5,none⟩=some (.string (strB y.f))∧w.cell? ⟨g,o+j*7+6,none⟩=some (.slice a' y.ks.length c')) ∧
   ∀ W m',Below w.heap.size w W→-20000≤m'∧m'≤20000→Calls Tryz.prog 47 #[exV y (.slice a' y.ks.length c'),.int .i64 m'] W fun e w'=>e=.returned (.int .i64 (gX y m'))∧Below W.heap.size W w') :
 Calls Tryz.prog 47 #[.agg #[.int .i64 k,.int .i64 v.k,.int .i64 v.n,.string (strB v.s),.string (strB xx),.string (strB f),.slice a ks.length c],.int .i64 m] w fun e w'=>e=.returned (.int .i64 (gX (.mk k v xx f ks) m))∧Below w.heap.size w w':=by
 have hz0 : gX (.mk k v xx f ks) m=gXs ks (1+min (xx.length : Int) 3000+min (f.length : Int) 3000+min (v.s.length : Int) 3000) m:=zjn _ _ _ _ _ _
 obtain ⟨z,hz⟩ : ∃ z,gX (.mk k v xx f ks) m=z:=⟨_,rfl⟩
 rw [hz]
 rw [hz] at hz0
 have hzb:=zdJ (.mk k v xx f ks) m
 rw [hz] at hzb
 have HK:=hid hk
 obtain ⟨sx,hsx⟩ : ∃ s,strB xx=s:=⟨_,rfl⟩
 obtain ⟨sf,hsf⟩ : ∃ s,strB f=s:=⟨_,rfl⟩
 obtain ⟨ss,hss⟩ : ∃ s,strB v.s=s:=⟨_,rfl⟩
 have l1 : sx.size=xx.length:=by rw [← hsx,zap]
 have l2 : sf.size=f.length:=by rw [← hsf,zap]
 have l3 : ss.size=v.s.length:=by rw [← hss,zap]
 rw [← l1] at lx hz0
 rw [← l2] at lf hz0
 rw [← l3] at lv hz0
 rw [hsx,hsf,hss]
 obtain ⟨q,hq⟩ : ∃ q,ks.length=q:=⟨_,rfl⟩
 rw [hq] at lk ⊢
 have HQ:=hid hq
 have HZ:=hid hz0
 have HB0:=hid ((Below.refl w.heap.size w).alloc (Nat.le_refl _) (.cells #[.int .i64 k,.int .i64 v.k,.int .i64 v.n,.string ss,.string sx,.string sf,.slice a q c] 89))
 have HX:=hid (XBlk.new w (.int .i64 k) (.int .i64 v.k) (.int .i64 v.n) (.string ss) (.string sx) (.string sf) (.slice a q c))
 unfold maxLen at lv lx lf lk
 clear hk hz hz0 hq hsx hsf hss l1 l2 l3
 go_enter Tryz.func47,Tryz.ntmps47
 go_wp2
 go_loopw [5,6] (fun n i wr=>∃ (j : Nat) (N : Int),n=.int .i64 N∧i=.int .i64 j∧j≤q∧(0≤N∧N≤30000)∧Hid (gXs (ks.drop j) N m=z)∧Hid (Below (w.heap.size+1) (w.alloc (.cells #[.int .i64 k,.int .i64 v.k,.int .i64 v.n,.string ss,.string sx,.string sf,.slice a q c] 89)) wr)) (fun _ i _=>q - (RowKit.intOf i).toNat)
 case atStart=>exact ⟨0,_,rfl,rfl,Nat.zero_le _,⟨by omega,by omega⟩,HZ.out.symm,Below.refl _ _⟩
 case round =>
  obtain ⟨j,N,rfl,rfl,hj,hN,HG,HB⟩:=hrel
  have hx:=(HB.out.block w.heap.size (Nat.lt_succ_self _)).trans HX.out
  obtain ⟨_,_,_,_,_,_,x6,_,_,_,_,_,_,_⟩:=XBlk.all hx
  have HBw:=hid (HB0.out.trans (HB.out.mono (Nat.le_succ _)))
  have hsz : w.heap.size+1≤wr.heap.size:=by
   have:=HB.out.size
   simpa using this
  by_cases hlt : j < q
  ·by_cases hm2 : N < m
   ·obtain ⟨y,hy⟩ : ∃ y,ks[j]?=some y:=⟨_,List.getElem?_eq_getElem (by rw [HQ.out];exact hlt)⟩
    obtain ⟨g,o,a',c',rfl,⟨e0,e1,e2,e3,e4,e5,e6⟩,hcall⟩:=HK.out j y hy
    have d0:=zaa HBw.out e0
    have d1:=zaa HBw.out e1
    have d2:=zaa HBw.out e2
    have d3:=zaa HBw.out e3
    have d4:=zaa HBw.out e4
    have d5:=zaa HBw.out e5
    have d6:=zaa HBw.out e6
    obtain ⟨n2,hn2⟩ : ∃ n2,y.ks.length=n2:=⟨_,rfl⟩
    rw [hn2] at d6 hcall
    have hgl:=zdJ y (m - N)
    obtain ⟨G,hG⟩ : ∃ G,gX y (m - N)=G:=⟨_,rfl⟩
    rw [hG] at hgl
    have HC:=hcall wr (m - N) HBw.out (by omega)
    rw [hG] at HC
    simp only [xexV] at HC
    have HC:=hid HC
    have HN : Hid (gXs (ks.drop (j+1)) (N+G) m=z):=by
     show _=_
     have hdr : ks.drop j=y :: ks.drop (j+1):=by
      rw [List.drop_eq_getElem_cons (by rw [HQ.out];exact hlt)]
      congr 1
      rw [List.getElem?_eq_getElem (by rw [HQ.out];exact hlt)] at hy
      exact Option.some.inj hy
     rw [← HG.out,hdr,zdI _ _ hm2,hG]
    have t1 : decide (N < m)=true:=decide_eq_true hm2
    have hN2 : 0≤N+G∧N+G≤30000:=by omega
    clear hy hcall hn2 hG e0 e1 e2 e3 e4 e5 e6 hx
    go_wp2_with (go_at_call 47;(with_reducible refine HC.out.mono ?_);rintro e w1 ⟨rfl,hb1⟩;have HB1:=hid (HB.out.trans (hb1.mono hsz));clear hb1)
    go_round
    case rel=>exact ⟨j+1,N+G,by go_num,by go_num,by omega,hN2,HN,HB1⟩
    case measure=>simp [RowKit.intOf];omega
   ·have t1 : decide (N < m)=false:=decide_eq_false hm2
    have HE : Hid (N=z):=by
     show _=_
     rw [← HG.out,zfn hm2]
    clear hx
    go_wp2
    go_ret
    obtain rfl : N=z:=HE.out
    exact ⟨rfl,HBw.out⟩
  ·have HE : Hid (N=z):=by
    show _=_
    rw [← HG.out,List.drop_of_length_le (by rw [HQ.out];omega),zfm]
   clear hx
   go_wp2
   go_ret
   obtain rfl : N=z:=HE.out
   exact ⟨rfl,HBw.out⟩
theorem za4 {K : Nat→Prop} : ∀ (d : Nat) (x : PEx) (_ : XLn x) (w : World) (a : Option Addr) (c : Nat) (_ : ExK K w d (.slice a x.ks.length c) x.ks) (m : Int) (_ : -20000≤m∧m≤20000),Calls Tryz.prog 47 #[exV x (.slice a x.ks.length c),.int .i64 m] w fun e w'=>e=.returned (.int .i64 (gX x m))∧Below w.heap.size w w':=fun d=>by
 induction d with
 | zero =>
   intro x hx w a c h m hm
   obtain ⟨k,v,xx,f,ks,lv,lx,lf,lk,_⟩:=hx
   obtain ⟨_,h0⟩:=h
   have h0 : ks=[]:=h0
   exact zcF lv lx lf lk hm (fun j y hy=>by
    rw [h0] at hy
    have hy : ([] : List PEx)[j]?=some y:=hy
    simp at hy)
 | succ d ih =>
   intro x hx w a c h m hm
   obtain ⟨k,v,xx,f,ks,lv,lx,lf,lk,hk⟩:=hx
   obtain ⟨a',c',e,h⟩:=h
   injection e with e1 e2 e3
   subst e1 e3
   refine zcF lv lx lf lk hm (fun j y hy=>?_)
   obtain ⟨g,o,kv',ea,_,hc,hkk⟩:=h j y hy
   obtain ⟨a2,c2,rfl⟩:=hkk.slice
   exact ⟨g,o,a2,c2,ea,hc,fun W m' hW hm'=>ih y (hk y (List.mem_of_getElem? hy)) W a2 c2 (hkk.keep (TFr.of_below (K:=K) hW)) m' hm'⟩
def ISm (i : PIt) : Prop:=i.x.length < 3000∧i.ns.length < 3000∧∀ b∈i.ns,b.length < 3000
def PSm (p : PPr) : Prop:=(XBd p.l∧sizeI p.l < 3000)∧XBd p.r∧sizeI p.r < 3000
structure QSm (p : PQu) : Prop where
 n1 : p.its.length < 3000
 n2 : p.prs.length < 3000
 by_ : p.by_.length < 3000
 its : ∀ i∈p.its,ISm i
 prs : ∀ x∈p.prs,PSm x
theorem QSm.bd {p : PQu} (h : QSm p) : QuB p:=⟨fun i hi=>by
 obtain ⟨h1,h2,h3⟩:=h.its i hi
 exact ⟨by omega,fun b hb=>by have:=h3 b hb;omega,by omega⟩,fun x hx=>⟨(h.prs x hx).1.1,(h.prs x hx).2.1⟩,by have:=h.by_;omega⟩
def GreatT (p : PQu) (w : World) (e : Ending) (w' : World) : Prop:=∃ g,e=.returned (.bool g)∧(g=false→QSm p)∧Below w.heap.size w w'
structure GIts (p : PQu) (w : World) (X : Obj) (wr : World) (N : Int) (j : Nat) : Prop where
 low : Below (w.heap.size+1) (w.alloc X) wr
 lo : 0≤N
 hi : N≤1000000000000000
 sm : N < 3000→(p.its.length < 3000∧p.prs.length < 3000∧p.by_.length < 3000)∧∀ i∈p.its.take j,ISm i
structure GNames (p : PQu) (i : PIt) (w : World) (X : Obj) (wr : World) (N : Int) (j k : Nat) : Prop where
 low : Below (w.heap.size+1) (w.alloc X) wr
 lo : 0≤N
 hi : N≤1000000000000000
 sm : N < 3000→((p.its.length < 3000∧p.prs.length < 3000∧p.by_.length < 3000)∧∀ i∈p.its.take j,ISm i)∧i.x.length < 3000∧i.ns.length < 3000∧∀ b∈i.ns.take k,b.length < 3000
structure GPrs (p : PQu) (w : World) (X : Obj) (wr : World) (N : Int) (j : Nat) : Prop where
 low : Below (w.heap.size+1) (w.alloc X) wr
 lo : 0≤N
 hi : N≤1000000000000000
 sm : N < 3000→((p.its.length < 3000∧p.prs.length < 3000∧p.by_.length < 3000)∧∀ i∈p.its,ISm i)∧∀ x∈p.prs.take j,PSm x
theorem zcq {α : Type} {P : α→Prop} {l : List α} {j : Nat} {x : α} (h : ∀ y∈l.take j,P y) (hx : l[j]?=some x) (hp : P x) : ∀ y∈l.take (j+1),P y:=fun y hy=>by
 rw [List.take_add_one,hx] at hy
 rcases List.mem_append.1 hy with h1|h1
 ·exact h y h1
 ·have : y=x:=by simpa using h1
  rw [this]
  exact hp
theorem RowK.nameAt3 {K : Nat→Prop} {w : World} {a : Option Addr} {n c : Nat} {l : List (List UInt8)} (h : RowK nameD K w (.slice a n c) l) {j : Nat} {b : List UInt8} (hj : l[j]?=some b) : ∃ g o,a=some ⟨g,o,none⟩∧w.cell? ⟨g,o+j,none⟩=some (.string (strB b)):=by
 obtain ⟨a',c',e,_,h⟩:=h
 injection e with e1 e2 e3
 obtain ⟨g,o,cs,ea,hg,hcs,hc⟩:=h j b hj
 have hcs : cs=[.string (strB b)]:=hcs
 subst hcs
 have:=hc 0 _ rfl
 exact ⟨g,o,e1.trans ea,by simpa [nameD] using this⟩
theorem zcE {w : World} {a b : Option Addr} {q c r e : Nat} {p : PQu} (h : QuAt (fun _=>False) w a q c b r e p) (hl : QLn p) :
 Calls Tryz.prog 17 #[.agg #[.slice a q c,.slice b r e,.int .i64 p.within,.string (strB p.by_),.int .i64 p.pick]] w (GreatT p w):=by
 obtain rfl:=h.1.len
 obtain rfl:=h.2.len
 have HQ:=hid h
 have HL:=hid hl
 obtain ⟨q,hq⟩ : ∃ q,p.its.length=q:=⟨_,rfl⟩
 obtain ⟨r,hr⟩ : ∃ r,p.prs.length=r:=⟨_,rfl⟩
 obtain ⟨sb,hsb⟩ : ∃ s,strB p.by_=s:=⟨_,rfl⟩
 have hsbl : sb.size=p.by_.length:=by rw [← hsb,zap]
 have hq2 : q≤140737488355328:=by rw [← hq];exact hl.2.2.2.1
 have hr2 : r≤140737488355328:=by rw [← hr];exact hl.2.2.2.2
 have hbl : sb.size≤9223372036854775807:=by rw [hsbl];exact hl.2.2.1
 have HC:=hid hq
 have HR:=hid hr
 have HSB:=hid hsbl
 rw [hq,hr] at HQ ⊢
 rw [hsb]
 obtain ⟨wi,hwi⟩ : ∃ z,p.within=z:=⟨_,rfl⟩
 obtain ⟨pk,hpk⟩ : ∃ z,p.pick=z:=⟨_,rfl⟩
 rw [hwi,hpk]
 have HX:=hid (Blk.new w #[.slice a q c,.slice b r e,.int .i64 wi,.string sb,.int .i64 pk] 26)
 have HW:=hid ((Below.refl w.heap.size w).alloc (Nat.le_refl _) (.cells #[.slice a q c,.slice b r e,.int .i64 wi,.string sb,.int .i64 pk] 26))
 obtain ⟨X,hX⟩ : ∃ X,Obj.cells #[.slice a q c,.slice b r e,.int .i64 wi,.string sb,.int .i64 pk] 26=X:=⟨_,rfl⟩
 rw [hX] at HX HW
 have HXX:=hid hX
 have HG0 : Hid (GIts p w X (w.alloc X) ((q : Int)+(r : Int)+min (sb.size : Int) 3000) 0):=⟨Below.refl _ _,by omega,by omega,fun h=>⟨⟨by rw [HC.out];omega,by rw [HR.out];omega,by rw [← hsbl];omega⟩,fun i hi=>(by simp at hi)⟩⟩
 rw [← hX] at HG0
 clear h hl hq hr hsb hsbl hwi hpk hX
 go_enter Tryz.func17,Tryz.ntmps17
 go_wp2
 rw [HXX.out] at HG0 ⊢
 go_loopw [3,4] (fun n i wr=>∃ (N : Int) (j : Nat),n=.int .i64 N∧i=.int .i64 j∧j≤q∧Hid (GIts p w X wr N j)) (fun _ i _=>q - (RowKit.intOf i).toNat)
 case atStart=>exact ⟨_,0,rfl,rfl,Nat.zero_le _,HG0⟩
 case round =>
  obtain ⟨N,j,rfl,rfl,hj,HG⟩:=hrel
  have hlo:=HG.out.lo
  have hhi:=HG.out.hi
  have hx:=(HG.out.low.block w.heap.size (Nat.lt_succ_self _)).trans HX.out
  have x0:=zab hx (k:=0) rfl
  have x1:=zab hx (k:=1) rfl
  have HBw:=hid (HW.out.trans (HG.out.low.mono (Nat.le_succ _)))
  have hsz : w.heap.size+1≤wr.heap.size:=by
   have:=HG.out.low.size
   simpa using this
  clear hx
  by_cases hgo : j < q∧N < 3000
  ·obtain ⟨hlt,hN⟩:=hgo
   obtain ⟨y,hy⟩ : ∃ y,p.its[j]?=some y:=⟨_,List.getElem?_eq_getElem (by rw [HC.out];exact hlt)⟩
   obtain ⟨g,o,a2,c2,rfl,d0,d1,d2,d3,hrn⟩:=(HQ.out.1.low HBw.out).itemAt hy
   have hyl:=HL.out.1 y (List.mem_of_getElem? hy)
   obtain ⟨m,hm⟩ : ∃ m,y.ns.length=m:=⟨_,rfl⟩
   obtain ⟨sx,hsx⟩ : ∃ s,strB y.x=s:=⟨_,rfl⟩
   have hsxl : sx.size=y.x.length:=by rw [← hsx,zap]
   rw [hm] at d1 hrn
   rw [hsx] at d2
   have hm2 : m≤140737488355328:=by rw [← hm];exact hyl.2.1
   have hsx2 : sx.size≤9223372036854775807:=by rw [hsxl];exact hyl.1
   have HRN:=hid hrn
   have HM:=hid hm
   have HSX:=hid hsxl
   have HY:=hid hy
   have t1 : decide (N < 3000)=true:=decide_eq_true hN
   have hw1 : IntKind.i64.wrap (N+min (sx.size : Int) 3000)=N+min (sx.size : Int) 3000:=IntWalk.i64_in _ (by omega)
   have hw2 : IntKind.i64.wrap (N+min (sx.size : Int) 3000+(m : Int))=N+min (sx.size : Int) 3000+(m : Int):=IntWalk.i64_in _ (by omega)
   have HGI : Hid (∀ nq,GNames p y w X (wr.drewN nq) (N+min (sx.size : Int) 3000+(m : Int)) j 0):=fun nq=>⟨below_drewN HG.out.low nq,by omega,by omega,fun h=>⟨HG.out.sm hN,by rw [← HSX.out];omega,by rw [HM.out];omega,fun b hb=>(by simp at hb)⟩⟩
   have HL2:=hid hyl.2.2
   clear hy hyl hm hsx hsxl hrn
   go_wp2_with fail
   go_quiet (fail)
   have HGI2:=hid (HGI.out nq)
   have hsz2 : wr.heap.size≤(wr.drewN nq).heap.size:=(below_drewN (Below.refl wr.heap.size wr) nq).size
   have HRN2:=hid (HRN.out.low (below_drewN (Below.refl wr.heap.size wr) nq))
   have k0 : (wr.drewN nq).cell? ⟨w.heap.size,0,none⟩=_:=zaa (below_drewN (Below.refl wr.heap.size wr) nq) x0
   have k1 : (wr.drewN nq).cell? ⟨g,o+j*4+1,none⟩=_:=zaa (below_drewN (Below.refl wr.heap.size wr) nq) d1
   have HBN:=hid (below_drewN (Below.refl wr.heap.size wr) nq)
   obtain ⟨w4,hw4⟩ : ∃ w4,w4=wr.drewN nq:=⟨_,rfl⟩
   rw [← hw4] at HGI2 hsz2 HRN2 k0 k1 HBN ⊢
   have HW4:=hid hw4
   clear hw4 HGI HRN x0 d0 d1 d2 d3
   go_wp2
   go_loopw [3,5] (fun n i wr=>∃ (M : Int) (k : Nat),n=.int .i64 M∧i=.int .i64 k∧k≤m∧Hid (Below w4.heap.size w4 wr)∧Hid (GNames p y w X wr M j k)) (fun _ i _=>m - (RowKit.intOf i).toNat)
   case atStart=>exact ⟨_,0,rfl,rfl,Nat.zero_le _,Below.refl _ _,HGI2⟩
   case round =>
    obtain ⟨M,k,rfl,rfl,hk,HB4,HGN⟩:=hrel
    have hlo2:=HGN.out.lo
    have hhi2:=HGN.out.hi
    have z0:=zaa HB4.out k0
    have z1:=zaa HB4.out k1
    by_cases hgo : k < m∧M < 3000
    ·obtain ⟨hlt2,hM⟩:=hgo
     obtain ⟨u,hu⟩ : ∃ u,y.ns[k]?=some u:=⟨_,List.getElem?_eq_getElem (by rw [HM.out];exact hlt2)⟩
     obtain ⟨g3,o3,rfl,v0⟩:=(HRN2.out.low HB4.out).nameAt3 hu
     obtain ⟨su,hsu⟩ : ∃ s,strB u=s:=⟨_,rfl⟩
     have hsul : su.size=u.length:=by rw [← hsu,zap]
     rw [hsu] at v0
     have hul : su.size≤9223372036854775807:=by rw [hsul];exact HL2.out u (List.mem_of_getElem? hu)
     have HGN2 : Hid (GNames p y w X wr (M+min (su.size : Int) 3000) j (k+1)):=⟨HGN.out.low,by omega,by omega,fun h=>by
      obtain ⟨h1,h2,h3,h4⟩:=HGN.out.sm hM
      exact ⟨h1,h2,h3,zcq h4 hu (by rw [← hsul];omega)⟩⟩
     have t3 : decide (M < 3000)=true:=decide_eq_true hM
     clear hu hsu hsul
     go_wp2
     go_round
     case rel=>exact ⟨M+min (su.size : Int) 3000,k+1,by go_num,by go_num,by omega,HB4,HGN2⟩
     case measure=>simp [RowKit.intOf];omega
    ·have HGE : Hid (GIts p w X wr M (j+1)):=⟨HGN.out.low,hlo2,hhi2,fun h=>by
      obtain ⟨h1,h2,h3,h4⟩:=HGN.out.sm h
      have hkm : k=y.ns.length:=by rw [HM.out];omega
      rw [hkm,List.take_length] at h4
      exact ⟨h1.1,zcq h1.2 HY.out ⟨h2,h3,h4⟩⟩⟩
     by_cases hk2 : k < m
     ·have t3 : decide (M < 3000)=false:=decide_eq_false (fun h=>hgo ⟨hk2,h⟩)
      go_wp2
      refine ⟨⟨M,j+1,by go_num,by go_num,by omega,HGE⟩,?_⟩
      simp [RowKit.intOf]
      omega
     ·go_wp2
      refine ⟨⟨M,j+1,by go_num,by go_num,by omega,HGE⟩,?_⟩
      simp [RowKit.intOf]
      omega
  ·have HG2 : Hid (GPrs p w X wr N 0):=⟨HG.out.low,hlo,hhi,fun h=>by
    obtain ⟨h1,h2⟩:=HG.out.sm h
    have hjq : j=p.its.length:=by rw [HC.out];omega
    rw [hjq,List.take_length] at h2
    exact ⟨⟨h1,h2⟩,fun x hx=>(by simp at hx)⟩⟩
   clear HG
   by_cases hlt : j < q
   ·have t1 : decide (N < 3000)=false:=decide_eq_false (fun h=>hgo ⟨hlt,h⟩)
    clear hgo
    go_wp2
    go_loopw [3,6] (fun n i wr=>∃ (N : Int) (j : Nat),n=.int .i64 N∧i=.int .i64 j∧j≤r∧Hid (GPrs p w X wr N j)) (fun _ i _=>r - (RowKit.intOf i).toNat)
    case atStart=>exact ⟨N,0,rfl,rfl,Nat.zero_le _,HG2⟩
    case round =>
     obtain ⟨N,j,rfl,rfl,hj,HG⟩:=hrel
     have hlo:=HG.out.lo
     have hhi:=HG.out.hi
     have hx:=(HG.out.low.block w.heap.size (Nat.lt_succ_self _)).trans HX.out
     have x1:=zab hx (k:=1) rfl
     have HBw:=hid (HW.out.trans (HG.out.low.mono (Nat.le_succ _)))
     have hsz : w.heap.size+1≤wr.heap.size:=by
      have:=HG.out.low.size
      simpa using this
     clear hx
     by_cases hlt : j < r
     ·by_cases hN : N < 3000
      ·obtain ⟨y,hy⟩ : ∃ y,p.prs[j]?=some y:=⟨_,List.getElem?_eq_getElem (by rw [HR.out];exact hlt)⟩
       obtain ⟨g,o,a1,n1,c1,b1,m1,dd1,ed,rfl,hcell,hq1,hr1,hk1,hk2⟩:=(HQ.out.2.low HBw.out).predAt hy
       have hyl:=HL.out.2.1 y (List.mem_of_getElem? hy)
       rw [← hq1] at hk1
       rw [← hr1] at hk2
       have hw0 : Below wr.heap.size wr wr.drew:=zae (Below.refl _ wr)
       have H0:=hid (za4 _ y.l hyl.1 wr.drew a1 c1 (by rw [← hq1];exact hk1.keep (TFr.of_below (K:=fun _=>False) hw0)) 3000 (by decide))
       have H1:=hid (fun W (hW : Below wr.heap.size wr W)=>za4 _ y.r hyl.2 W b1 dd1 (by rw [← hr1];exact hk2.keep (TFr.of_below (K:=fun _=>False) hW)) 3000 (by decide))
       rw [← hq1] at H0
       rw [← hr1] at H1
       simp only [xexV] at H0 H1
       have g1:=zdJ y.l 3000
       have g2:=zdJ y.r 3000
       have s1:=zcr y.l 3000 (by decide)
       have s2:=zcr y.r 3000 (by decide)
       obtain ⟨G1,hG1⟩ : ∃ G,gX y.l 3000=G:=⟨_,rfl⟩
       obtain ⟨G2,hG2⟩ : ∃ G,gX y.r 3000=G:=⟨_,rfl⟩
       rw [hG1] at H0 g1 s1
       rw [hG2] at H1 g2 s2
       have hw1 : IntKind.i64.wrap (N+G1)=N+G1:=IntWalk.i64_in _ (by omega)
       have hw2 : IntKind.i64.wrap (N+G1+G2)=N+G1+G2:=IntWalk.i64_in _ (by omega)
       have HB0:=hid hw0
       have HGN : Hid (∀ W,Below wr.heap.size wr W→GPrs p w X W (N+G1+G2) (j+1)):=fun W hW=>⟨HG.out.low.trans (hW.mono hsz),by omega,by omega,fun h=>by
        obtain ⟨h1,h2⟩:=HG.out.sm hN
        have h3:=s1 (by omega)
        have h4:=s2 (by omega)
        exact ⟨h1,zcq h2 hy ⟨⟨h3.2,by omega⟩,h4.2,by omega⟩⟩⟩
       have t1 : decide (N < 3000)=true:=decide_eq_true hN
       have dq : wr.drew.cell? ⟨w.heap.size,1,none⟩=some (.slice (some ⟨g,o,none⟩) r e):=x1
       have d1 : wr.drew.cell? ⟨g,o+j*15+1,none⟩=some (.int .i64 y.l.k):=hcell 1 _ rfl
       have d2 : wr.drew.cell? ⟨g,o+j*15+2,none⟩=some (.int .i64 y.l.v.k):=hcell 2 _ rfl
       have d3 : wr.drew.cell? ⟨g,o+j*15+3,none⟩=some (.int .i64 y.l.v.n):=hcell 3 _ rfl
       have d4 : wr.drew.cell? ⟨g,o+j*15+4,none⟩=some (.string (strB y.l.v.s)):=hcell 4 _ rfl
       have d5 : wr.drew.cell? ⟨g,o+j*15+5,none⟩=some (.string (strB y.l.x)):=hcell 5 _ rfl
       have d6 : wr.drew.cell? ⟨g,o+j*15+6,none⟩=some (.string (strB y.l.f)):=hcell 6 _ rfl
       have d7 : wr.drew.cell? ⟨g,o+j*15+7,none⟩=some (.slice a1 n1 c1):=hcell 7 _ rfl
       have d8 : wr.drew.cell? ⟨g,o+j*15+8,none⟩=some (.int .i64 y.r.k):=hcell 8 _ rfl
       have d9 : wr.drew.cell? ⟨g,o+j*15+9,none⟩=some (.int .i64 y.r.v.k):=hcell 9 _ rfl
       have d10 : wr.drew.cell? ⟨g,o+j*15+10,none⟩=some (.int .i64 y.r.v.n):=hcell 10 _ rfl
       have d11 : wr.drew.cell? ⟨g,o+j*15+11,none⟩=some (.string (strB y.r.v.s)):=hcell 11 _ rfl
       have d12 : wr.drew.cell? ⟨g,o+j*15+12,none⟩=some (.string (strB y.r.x)):=hcell 12 _ rfl
       have d13 : wr.drew.cell? ⟨g,o+j*15+13,none⟩=some (.string (strB y.r.f)):=hcell 13 _ rfl
       have d14 : wr.drew.cell? ⟨g,o+j*15+14,none⟩=some (.slice b1 m1 dd1):=hcell 14 _ rfl
       clear hcell hq1 hr1 hk1 hk2 hyl hw0 hG1 hG2 s1 s2 hy
       go_wp2_with fail
       refine wp_region_held_drew (S:=fun W=>W.cell? ⟨w.heap.size,1,none⟩=some (.slice (some ⟨g,o,none⟩) r e)∧W.cell? ⟨g,o+j*15+1,none⟩=some (.int .i64 y.l.k)∧W.cell? ⟨g,o+j*15+2,none⟩=some (.int .i64 y.l.v.k)∧W.cell? ⟨g,o+j*15+3,none⟩=some (.int .i64 y.l.v.n)∧W.cell? ⟨g,o+j*15+4,none⟩=some (.string (strB y.l.v.s))∧W.cell? ⟨g,o+j*15+5,none⟩=some (.string (strB y.l.x))∧W.cell? ⟨g,o+j*15+6,none⟩=some (.string (strB y.l.f))∧W.cell? ⟨g,o+j*15+7,none⟩=some (.slice a1 n1 c1)∧W.cell? ⟨g,o+j*15+8,none⟩=some (.int .i64 y.r.k)∧W.cell? ⟨g,o+j*15+9,none⟩=some (.int .i64 y.r.v.k)∧W.cell? ⟨g,o+j*15+10,none⟩=some (.int .i64 y.r.v.n)∧W.cell? ⟨g,o+j*15+11,none⟩=some (.string (strB y.r.v.s))∧W.cell? ⟨g,o+j*15+12,none⟩=some (.string (strB y.r.x))∧W.cell? ⟨g,o+j*15+13,none⟩=some (.string (strB y.r.f))∧W.cell? ⟨g,o+j*15+14,none⟩=some (.slice b1 m1 dd1)) (by kernel_rfl) ⟨dq,d1,d2,d3,d4,d5,d6,d7,d8,d9,d10,d11,d12,d13,d14⟩ (fun hHeld=>?_)
       refine tK 0 87 (h:=?_)
       try simp only [Act.put,sI,sZ,sS]
       refine tK 1 88 (h:=?_)
       try simp only [Act.put,sI,sZ,sS]
       refine tK 2 89 (h:=?_)
       try simp only [Act.put,sI,sZ,sS]
       refine tK 3 90 (h:=?_)
       try simp only [Act.put,sI,sZ,sS]
       refine tK 4 91 (h:=?_)
       try simp only [Act.put,sI,sZ,sS]
       refine tK 5 92 (h:=?_)
       try simp only [Act.put,sI,sZ,sS]
       refine tK 6 93 (h:=?_)
       try simp only [Act.put,sI,sZ,sS]
       refine tK 9 96 (h:=?_)
       try simp only [Act.put,sI,sZ,sS]
       refine tK 10 97 (h:=?_)
       try simp only [Act.put,sI,sZ,sS]
       refine tK 11 98 (h:=?_)
       try simp only [Act.put,sI,sZ,sS]
       refine tK 12 99 (h:=?_)
       try simp only [Act.put,sI,sZ,sS]
       refine tK 13 100 (h:=?_)
       try simp only [Act.put,sI,sZ,sS]
       refine tK 14 101 (h:=?_)
       try simp only [Act.put,sI,sZ,sS]
       refine rA 7 (h:=fun K hK=>?_)
       dsimp only [List.getElem_toArray,List.getElem_cons_succ,List.getElem_cons_zero]
       go_simp
       go_at_call 47
       (with_reducible refine H0.out.mono ?_)
       rintro e9 w1 ⟨rfl,hb1⟩
       have HB1:=hid (HB0.out.trans (hb1.mono (show _≤wr.drew.heap.size from HB0.out.size)))
       have eq:=zaa hb1 dq
       have e1:=zaa hb1 d1
       have e2:=zaa hb1 d2
       have e3:=zaa hb1 d3
       have e4:=zaa hb1 d4
       have e5:=zaa hb1 d5
       have e6:=zaa hb1 d6
       have e7:=zaa hb1 d7
       have e8:=zaa hb1 d8
       have e9:=zaa hb1 d9
       have e10:=zaa hb1 d10
       have e11:=zaa hb1 d11
       have e12:=zaa hb1 d12
       have e13:=zaa hb1 d13
       have e14:=zaa hb1 d14
       clear hb1
       go_wp2_with fail
       refine hK.out _ _ ⟨eq,e1,e2,e3,e4,e5,e6,e7,e8,e9,e10,e11,e12,e13,e14⟩ (fun hHelda7=>?_)
       clear hK K
       try simp only [Act.put,sI,sZ,sS]
       refine tK 8 95 (h:=?_)
       try simp only [Act.put,sI,sZ,sS]
       refine rA 15 (h:=fun K hK=>?_)
       dsimp only [List.getElem_toArray,List.getElem_cons_succ,List.getElem_cons_zero]
       go_simp
       go_at_call 47
       (with_reducible refine (H1.out _ HB1.out).mono ?_)
       rintro e9 w2 ⟨rfl,hb1⟩
       have HB2:=hid (HB1.out.trans (hb1.mono (show _≤w1.heap.size from HB1.out.size)))
       have fq:=zaa hb1 eq
       have f1:=zaa hb1 e1
       have f2:=zaa hb1 e2
       have f3:=zaa hb1 e3
       have f4:=zaa hb1 e4
       have f5:=zaa hb1 e5
       have f6:=zaa hb1 e6
       have f7:=zaa hb1 e7
       have f8:=zaa hb1 e8
       have f9:=zaa hb1 e9
       have f10:=zaa hb1 e10
       have f11:=zaa hb1 e11
       have f12:=zaa hb1 e12
       have f13:=zaa hb1 e13
       have f14:=zaa hb1 e14
       clear hb1
       go_wp2_with fail
       refine hK.out _ _ ⟨fq,f1,f2,f3,f4,f5,f6,f7,f8,f9,f10,f11,f12,f13,f14⟩ (fun hHelda15=>?_)
       clear hK K
       try simp only [Act.put,sI,sZ,sS]
       refine tK 16 103 (h:=?_)
       try simp only [Act.put,sI,sZ,sS]
       refine tK 17 3 (h:=?_)
       try simp only [Act.put,sI,sZ,sS]
       refine wpAnyH_done (by kernel_rfl) ?_ _
       go_wp2
       go_round
       case rel=>exact ⟨N+G1+G2,j+1,by go_num,by go_num,by omega,HGN.out _ HB2.out⟩
       case measure=>simp [RowKit.intOf];omega
      ·have t1 : decide (N < 3000)=false:=decide_eq_false hN
       have t2 : decide (3000≤N)=true:=decide_eq_true (by omega)
       go_wp2
       go_ret
       exact ⟨true,rfl,fun h=>(by cases h),HBw.out⟩
     ·have hjr : j=p.prs.length:=by rw [HR.out];omega
      by_cases hN : N < 3000
      ·have t2 : decide (3000≤N)=false:=decide_eq_false (by omega)
       go_wp2
       go_ret
       refine ⟨false,rfl,fun _=>?_,HBw.out⟩
       obtain ⟨⟨⟨n1,n2,n3⟩,h1⟩,h2⟩:=HG.out.sm hN
       rw [hjr,List.take_length] at h2
       exact ⟨n1,n2,n3,h1,h2⟩
      ·have t2 : decide (3000≤N)=true:=decide_eq_true (by omega)
       go_wp2
       go_ret
       exact ⟨true,rfl,fun h=>(by cases h),HBw.out⟩
   ·clear hgo
    go_wp2
    go_loopw [3,6] (fun n i wr=>∃ (N : Int) (j : Nat),n=.int .i64 N∧i=.int .i64 j∧j≤r∧Hid (GPrs p w X wr N j)) (fun _ i _=>r - (RowKit.intOf i).toNat)
    case atStart=>exact ⟨N,0,rfl,rfl,Nat.zero_le _,HG2⟩
    case round =>
     obtain ⟨N,j,rfl,rfl,hj,HG⟩:=hrel
     have hlo:=HG.out.lo
     have hhi:=HG.out.hi
     have hx:=(HG.out.low.block w.heap.size (Nat.lt_succ_self _)).trans HX.out
     have x1:=zab hx (k:=1) rfl
     have HBw:=hid (HW.out.trans (HG.out.low.mono (Nat.le_succ _)))
     have hsz : w.heap.size+1≤wr.heap.size:=by
      have:=HG.out.low.size
      simpa using this
     clear hx
     by_cases hlt : j < r
     ·by_cases hN : N < 3000
      ·obtain ⟨y,hy⟩ : ∃ y,p.prs[j]?=some y:=⟨_,List.getElem?_eq_getElem (by rw [HR.out];exact hlt)⟩
       obtain ⟨g,o,a1,n1,c1,b1,m1,dd1,ed,rfl,hcell,hq1,hr1,hk1,hk2⟩:=(HQ.out.2.low HBw.out).predAt hy
       have hyl:=HL.out.2.1 y (List.mem_of_getElem? hy)
       rw [← hq1] at hk1
       rw [← hr1] at hk2
       have hw0 : Below wr.heap.size wr wr.drew:=zae (Below.refl _ wr)
       have H0:=hid (za4 _ y.l hyl.1 wr.drew a1 c1 (by rw [← hq1];exact hk1.keep (TFr.of_below (K:=fun _=>False) hw0)) 3000 (by decide))
       have H1:=hid (fun W (hW : Below wr.heap.size wr W)=>za4 _ y.r hyl.2 W b1 dd1 (by rw [← hr1];exact hk2.keep (TFr.of_below (K:=fun _=>False) hW)) 3000 (by decide))
       rw [← hq1] at H0
       rw [← hr1] at H1
       simp only [xexV] at H0 H1
       have g1:=zdJ y.l 3000
       have g2:=zdJ y.r 3000
       have s1:=zcr y.l 3000 (by decide)
       have s2:=zcr y.r 3000 (by decide)
       obtain ⟨G1,hG1⟩ : ∃ G,gX y.l 3000=G:=⟨_,rfl⟩
       obtain ⟨G2,hG2⟩ : ∃ G,gX y.r 3000=G:=⟨_,rfl⟩
       rw [hG1] at H0 g1 s1
       rw [hG2] at H1 g2 s2
       have hw1 : IntKind.i64.wrap (N+G1)=N+G1:=IntWalk.i64_in _ (by omega)
       have hw2 : IntKind.i64.wrap (N+G1+G2)=N+G1+G2:=IntWalk.i64_in _ (by omega)
       have HB0:=hid hw0
       have HGN : Hid (∀ W,Below wr.heap.size wr W→GPrs p w X W (N+G1+G2) (j+1)):=fun W hW=>⟨HG.out.low.trans (hW.mono hsz),by omega,by omega,fun h=>by
        obtain ⟨h1,h2⟩:=HG.out.sm hN
        have h3:=s1 (by omega)
        have h4:=s2 (by omega)
        exact ⟨h1,zcq h2 hy ⟨⟨h3.2,by omega⟩,h4.2,by omega⟩⟩⟩
       have t1 : decide (N < 3000)=true:=decide_eq_true hN
       have dq : wr.drew.cell? ⟨w.heap.size,1,none⟩=some (.slice (some ⟨g,o,none⟩) r e):=x1
       have d1 : wr.drew.cell? ⟨g,o+j*15+1,none⟩=some (.int .i64 y.l.k):=hcell 1 _ rfl
       have d2 : wr.drew.cell? ⟨g,o+j*15+2,none⟩=some (.int .i64 y.l.v.k):=hcell 2 _ rfl
       have d3 : wr.drew.cell? ⟨g,o+j*15+3,none⟩=some (.int .i64 y.l.v.n):=hcell 3 _ rfl
       have d4 : wr.drew.cell? ⟨g,o+j*15+4,none⟩=some (.string (strB y.l.v.s)):=hcell 4 _ rfl
       have d5 : wr.drew.cell? ⟨g,o+j*15+5,none⟩=some (.string (strB y.l.x)):=hcell 5 _ rfl
       have d6 : wr.drew.cell? ⟨g,o+j*15+6,none⟩=some (.string (strB y.l.f)):=hcell 6 _ rfl
       have d7 : wr.drew.cell? ⟨g,o+j*15+7,none⟩=some (.slice a1 n1 c1):=hcell 7 _ rfl
       have d8 : wr.drew.cell? ⟨g,o+j*15+8,none⟩=some (.int .i64 y.r.k):=hcell 8 _ rfl
       have d9 : wr.drew.cell? ⟨g,o+j*15+9,none⟩=some (.int .i64 y.r.v.k):=hcell 9 _ rfl
       have d10 : wr.drew.cell? ⟨g,o+j*15+10,none⟩=some (.int .i64 y.r.v.n):=hcell 10 _ rfl
       have d11 : wr.drew.cell? ⟨g,o+j*15+11,none⟩=some (.string (strB y.r.v.s)):=hcell 11 _ rfl
       have d12 : wr.drew.cell? ⟨g,o+j*15+12,none⟩=some (.string (strB y.r.x)):=hcell 12 _ rfl
       have d13 : wr.drew.cell? ⟨g,o+j*15+13,none⟩=some (.string (strB y.r.f)):=hcell 13 _ rfl
       have d14 : wr.drew.cell? ⟨g,o+j*15+14,none⟩=some (.slice b1 m1 dd1):=hcell 14 _ rfl
       clear hcell hq1 hr1 hk1 hk2 hyl hw0 hG1 hG2 s1 s2 hy
       go_wp2_with fail
       refine wp_region_held_drew (S:=fun W=>W.cell? ⟨w.heap.size,1,none⟩=some (.slice (some ⟨g,o,none⟩) r e)∧W.cell? ⟨g,o+j*15+1,none⟩=some (.int .i64 y.l.k)∧W.cell? ⟨g,o+j*15+2,none⟩=some (.int .i64 y.l.v.k)∧W.cell? ⟨g,o+j*15+3,none⟩=some (.int .i64 y.l.v.n)∧W.cell? ⟨g,o+j*15+4,none⟩=some (.string (strB y.l.v.s))∧W.cell? ⟨g,o+j*15+5,none⟩=some (.string (strB y.l.x))∧W.cell? ⟨g,o+j*15+6,none⟩=some (.string (strB y.l.f))∧W.cell? ⟨g,o+j*15+7,none⟩=some (.slice a1 n1 c1)∧W.cell? ⟨g,o+j*15+8,none⟩=some (.int .i64 y.r.k)∧W.cell? ⟨g,o+j*15+9,none⟩=some (.int .i64 y.r.v.k)∧W.cell? ⟨g,o+j*15+10,none⟩=some (.int .i64 y.r.v.n)∧W.cell? ⟨g,o+j*15+11,none⟩=some (.string (strB y.r.v.s))∧W.cell? ⟨g,o+j*15+12,none⟩=some (.string (strB y.r.x))∧W.cell? ⟨g,o+j*15+13,none⟩=some (.string (strB y.r.f))∧W.cell? ⟨g,o+j*15+14,none⟩=some (.slice b1 m1 dd1)) (by kernel_rfl) ⟨dq,d1,d2,d3,d4,d5,d6,d7,d8,d9,d10,d11,d12,d13,d14⟩ (fun hHeld=>?_)
       refine tK 0 87 (h:=?_)
       try simp only [Act.put,sI,sZ,sS]
       refine tK 1 88 (h:=?_)
       try simp only [Act.put,sI,sZ,sS]
       refine tK 2 89 (h:=?_)
       try simp only [Act.put,sI,sZ,sS]
       refine tK 3 90 (h:=?_)
       try simp only [Act.put,sI,sZ,sS]
       refine tK 4 91 (h:=?_)
       try simp only [Act.put,sI,sZ,sS]
       refine tK 5 92 (h:=?_)
       try simp only [Act.put,sI,sZ,sS]
       refine tK 6 93 (h:=?_)
       try simp only [Act.put,sI,sZ,sS]
       refine tK 9 96 (h:=?_)
       try simp only [Act.put,sI,sZ,sS]
       refine tK 10 97 (h:=?_)
       try simp only [Act.put,sI,sZ,sS]
       refine tK 11 98 (h:=?_)
       try simp only [Act.put,sI,sZ,sS]
       refine tK 12 99 (h:=?_)
       try simp only [Act.put,sI,sZ,sS]
       refine tK 13 100 (h:=?_)
       try simp only [Act.put,sI,sZ,sS]
       refine tK 14 101 (h:=?_)
       try simp only [Act.put,sI,sZ,sS]
       refine rA 7 (h:=fun K hK=>?_)
       dsimp only [List.getElem_toArray,List.getElem_cons_succ,List.getElem_cons_zero]
       go_simp
       go_at_call 47
       (with_reducible refine H0.out.mono ?_)
       rintro e9 w1 ⟨rfl,hb1⟩
       have HB1:=hid (HB0.out.trans (hb1.mono (show _≤wr.drew.heap.size from HB0.out.size)))
       have eq:=zaa hb1 dq
       have e1:=zaa hb1 d1
       have e2:=zaa hb1 d2
       have e3:=zaa hb1 d3
       have e4:=zaa hb1 d4
       have e5:=zaa hb1 d5
       have e6:=zaa hb1 d6
       have e7:=zaa hb1 d7
       have e8:=zaa hb1 d8
       have e9:=zaa hb1 d9
       have e10:=zaa hb1 d10
       have e11:=zaa hb1 d11
       have e12:=zaa hb1 d12
       have e13:=zaa hb1 d13
       have e14:=zaa hb1 d14
       clear hb1
       go_wp2_with fail
       refine hK.out _ _ ⟨eq,e1,e2,e3,e4,e5,e6,e7,e8,e9,e10,e11,e12,e13,e14⟩ (fun hHeldb7=>?_)
       clear hK K
       try simp only [Act.put,sI,sZ,sS]
       refine tK 8 95 (h:=?_)
       try simp only [Act.put,sI,sZ,sS]
       refine rA 15 (h:=fun K hK=>?_)
       dsimp only [List.getElem_toArray,List.getElem_cons_succ,List.getElem_cons_zero]
       go_simp
       go_at_call 47
       (with_reducible refine (H1.out _ HB1.out).mono ?_)
       rintro e9 w2 ⟨rfl,hb1⟩
       have HB2:=hid (HB1.out.trans (hb1.mono (show _≤w1.heap.size from HB1.out.size)))
       have fq:=zaa hb1 eq
       have f1:=zaa hb1 e1
       have f2:=zaa hb1 e2
       have f3:=zaa hb1 e3
       have f4:=zaa hb1 e4
       have f5:=zaa hb1 e5
       have f6:=zaa hb1 e6
       have f7:=zaa hb1 e7
       have f8:=zaa hb1 e8
       have f9:=zaa hb1 e9
       have f10:=zaa hb1 e10
       have f11:=zaa hb1 e11
       have f12:=zaa hb1 e12
       have f13:=zaa hb1 e13
       have f14:=zaa hb1 e14
       clear hb1
       go_wp2_with fail
       refine hK.out _ _ ⟨fq,f1,f2,f3,f4,f5,f6,f7,f8,f9,f10,f11,f12,f13,f14⟩ (fun hHeldb15=>?_)
       clear hK K
       try simp only [Act.put,sI,sZ,sS]
       refine tK 16 103 (h:=?_)
       try simp only [Act.put,sI,sZ,sS]
       refine tK 17 3 (h:=?_)
       try simp only [Act.put,sI,sZ,sS]
       refine wpAnyH_done (by kernel_rfl) ?_ _
       go_wp2
       go_round
       case rel=>exact ⟨N+G1+G2,j+1,by go_num,by go_num,by omega,HGN.out _ HB2.out⟩
       case measure=>simp [RowKit.intOf];omega
      ·have t1 : decide (N < 3000)=false:=decide_eq_false hN
       have t2 : decide (3000≤N)=true:=decide_eq_true (by omega)
       go_wp2
       go_ret
       exact ⟨true,rfl,fun h=>(by cases h),HBw.out⟩
     ·have hjr : j=p.prs.length:=by rw [HR.out];omega
      by_cases hN : N < 3000
      ·have t2 : decide (3000≤N)=false:=decide_eq_false (by omega)
       go_wp2
       go_ret
       refine ⟨false,rfl,fun _=>?_,HBw.out⟩
       obtain ⟨⟨⟨n1,n2,n3⟩,h1⟩,h2⟩:=HG.out.sm hN
       rw [hjr,List.take_length] at h2
       exact ⟨n1,n2,n3,h1,h2⟩
      ·have t2 : decide (3000≤N)=true:=decide_eq_true (by omega)
       go_wp2
       go_ret
       exact ⟨true,rfl,fun h=>(by cases h),HBw.out⟩
structure DTree (w : World) (R : List (Option Addr × Nat)) (dep : Option Addr × Nat→Int) : Prop where
 rows : DRows R (kidsF w) dep
 at_ : ∀ s∈R,s≠(none,0)→0 < s.2∧∃ l : List PEx,s.2=l.length∧l.length≤10000∧KidsAt w s.1 l (kidsF w s)∧KBlk w s
 dep : ∀ s∈R,dep s≤10001
 wt : ∀ f,wtS R (kidsF w) f≤200000000
structure DeepIn (w : World) (X : Obj) (wr : World) (R : List (Option Addr × Nat)) (dep f : Option Addr × Nat→Int) (root : Option Addr × Nat) (v : Value) (st : List (Option Addr × Nat × Nat)) : Prop where
 own : OwnP sliceD wr (w.heap.size+2) 87 v st
 map : DMap wr (w.heap.size+1) f
 inv : DInv R (kidsF w) dep f (st.reverse.map key3)
 low : Below (w.heap.size+1) (w.alloc X) wr
 len : st.length+wtS R (kidsF w) f≤200000001
 top : ∀ k,f k≤1000000
 root : 0 < f root∨root∈st.map key3
 big : w.heap.size+2≤wr.heap.size
 keys : KeysIn wr (w.heap.size+1) w.heap.size
section
variable {w wr W : World} {X : Obj} {R : List (Option Addr × Nat)} {dep f : Option Addr × Nat→Int} {root : Option Addr × Nat} {v : Value} {st : List (Option Addr × Nat × Nat)} {e : Option Addr × Nat × Nat}
structure DeepPush (w : World) (X : Obj) (wr : World) (R : List (Option Addr × Nat)) (dep f : Option Addr × Nat→Int) (root : Option Addr × Nat) (e : Option Addr × Nat × Nat) (v : Value) (st : List (Option Addr × Nat × Nat)) (j : Nat) : Prop where
 own : ∃ ps : List (Option Addr × Nat × Nat),OwnP sliceD wr (w.heap.size+2) 87 v (st++e :: ps)∧ps.map key3=(kidsF w (key3 e)).take j
 map : DMap wr (w.heap.size+1) (updF f (key3 e) (-1))
 low : Below (w.heap.size+1) (w.alloc X) wr
 big : w.heap.size+2≤wr.heap.size
 keys : KeysIn wr (w.heap.size+1) w.heap.size
end
theorem zdO (l : List UInt8) (_ : l.length≤100000) : QuB (parseI l).1:=by
 have h0 : QuB noQ:=⟨fun i hi=>(by cases hi),fun p hp=>(by cases hp),Nat.zero_le _⟩
 obtain ⟨⟨ts,er,at_⟩,hts⟩ : ∃ z,readX l=z:=⟨_,rfl⟩
 unfold parseI
 rw [hts]
 split
 ·exact h0
 ·rename_i he
  have he : er=0:=Decidable.not_not.1 he
  subst he
  obtain ⟨htk,hlen,_,_,hl5⟩:=zdq hts
  have hqb:=zep (E:=l.length) (s:=⟨ts,0,-1⟩) (ts.length+1) ⟨fun t ht=>(htk t ht).1,by show ts.length≤_;omega⟩
  split
  ·exact h0
  ·split
   ·exact hqb
   ·exact h0
def hL : PEx:=.mk 8 noV [] [] [.mk 4 noV [121] [120] [],.mk 8 noV [] [] [.mk 2 noV [120] [120] [],.mk 1 ⟨1,1,[]⟩ [] [] []]]
def hP : PPr:=⟨hL,6,.mk 1 ⟨1,-3,[]⟩ [] [] []⟩
def hQ : PQu:=⟨[⟨false,[[97]],[120],1⟩,⟨true,[[98],[99]],[110],1⟩,⟨false,[[98]],[121],2⟩],[hP],5,[105,100],2⟩
theorem zdP (s : ByteArray) : strB s.data.toList=s:=by apply ByteArray.ext;simp [strB]
/-! Queries that are not right. -/
def numD : RowD Nat where
 k:=1
 P:=fun _ _ cs n=>cs=[.int .i64 (n : Int)]
 len:=fun h=>by rw [h];rfl
 one:=fun h u hu=>by rw [h] at hu;rw [List.mem_singleton.1 hu];rfl
 keep:=fun _ h=>h
 mono:=fun _ h=>h
 ne:=fun _ h=>h
def stateD : RowD PSt where
 k:=3
 P:=fun K w cs s=>∃ a c b d,cs=[.slice a s.nx.length c,.slice b s.gd.length d,.bool s.fin]∧RowK numD K w (.slice a s.nx.length c) s.nx∧RowK numD K w (.slice b s.gd.length d) s.gd
 len:=fun ⟨a,c,b,d,h,_⟩=>by rw [h];rfl
 one:=fun ⟨a,c,b,d,h,_⟩ u hu=>by
  rw [h] at hu
  simp only [List.mem_cons,List.not_mem_nil,or_false] at hu
  rcases hu with rfl|rfl|rfl <;> rfl
 keep:=fun hf ⟨a,c,b,d,h,h1,h2⟩=>⟨a,c,b,d,h,h1.keep hf,h2.keep hf⟩
 mono:=fun hs ⟨a,c,b,d,h,h1,h2⟩=>⟨a,c,b,d,h,h1.mono hs,h2.mono hs⟩
 ne:=fun hb ⟨a,c,b,d,h,h1,h2⟩=>⟨a,c,b,d,h,h1.ne (by decide) hb,h2.ne (by decide) hb⟩
theorem intI : (Tryz.prog.info? 3).map (fun i=>(i.zero,i.size,i.bytes))=some (some (.int .i64 0),1,8):=by kernel_rfl
theorem zj1 : (Tryz.prog.info? 101).map (fun i=>(i.zero,i.size,i.bytes))=some (some (.agg #[.slice none 0 0,.slice none 0 0,.bool false]),3,56):=by kernel_rfl
def nums (l : List Nat) : List Value:=l.map (fun (n : Nat)=>Value.int .i64 (n : Int))
def OwnI (w : World) (B : Nat) (v : Value) (l : List Nat) : Prop:=w.ownsRow B 3 1 v l.length (nums l)
theorem zfj {w w' : World} {base : Nat} {e : TypeId} {size : Nat} {v : Value} {n : Nat} {xs : List Value} (h : w.ownsRow base e size v n xs) (hb : ∀ g,v.ownBlock=some g→w'.heap[g]?=w.heap[g]?) : w'.ownsRow base e size v n xs:=by
 obtain ⟨h1,h2⟩:=h
 refine ⟨h1,?_⟩
 rcases h2 with h2|⟨g,cap,cur,rfl,h3,h4,h5⟩
 ·exact .inl h2
 ·exact .inr ⟨g,cap,cur,rfl,h3,(hb g rfl).trans h4,h5⟩
section
variable {w w' : World} {B : Nat} {v : Value} {l : List Nat}
theorem OwnI.nil (w : World) (B : Nat) : OwnI w B (.slice none 0 0) []:=⟨by simp [nums],.inl ⟨rfl,rfl⟩⟩
theorem OwnI.slice (h : OwnI w B v l) : ∃ a c,v=.slice a l.length c:=by
 rcases h.2 with ⟨rfl,h0⟩|⟨g,cap,cur,rfl,_⟩
 ·exact ⟨none,0,by rw [h0]⟩
 ·exact ⟨_,cap,rfl⟩
theorem OwnI.own (h : OwnI w B v l) : ∀ g,v.ownBlock=some g→B≤g∧g < w.heap.size:=by
 intro g hg
 rcases h.2 with ⟨rfl,h0⟩|⟨g',cap,cur,rfl,hb,hh,_⟩
 ·cases hg
 ·obtain rfl : g'=g:=Option.some.inj hg
  exact ⟨hb,(Array.getElem?_eq_some_iff.1 hh).1⟩
theorem OwnI.blk (h : OwnI w B v l) (hb : ∀ g,v.ownBlock=some g→w'.heap[g]?=w.heap[g]?) : OwnI w' B v l:=zfj h hb
theorem OwnI.row (h : OwnI w B v l) : RowK numD (· < B) w v l:=by
 rcases h.2 with ⟨rfl,h0⟩|⟨g,cap,cur,rfl,hb,hh,hn,hc,hs,ht⟩
 ·have : l=[]:=List.eq_nil_of_length_eq_zero h0
  subst this
  exact RowK.nil _ _ _
 ·refine ⟨_,cap,rfl,hn,fun j x hj=>⟨g,0,[.int .i64 x],rfl,Nat.not_lt.2 hb,rfl,fun r u hu=>?_⟩⟩
  match r,hu with
  | 0,hu =>
    obtain rfl : Value.int .i64 (x : Int)=u:=by simpa using hu
    have hj2:=(List.getElem?_eq_some_iff.1 hj).1
    rw [cell_of_row w g _ cur 3 (0,0) hh]
    have e : (nums l)[j]?=some (.int .i64 (x : Int)):=by simp [nums,hj]
    rw [← ht,List.getElem?_take] at e
    split at e
    ·show cur[0+j*1+0]?=_
     rw [← Array.getElem?_toList,show 0+j*1+0=j by omega]
     exact e
    ·cases e
  | r+1,hu=>simp at hu
theorem OwnI.append (h : OwnI w B v l) (hB : B≤w.heap.size) (hl : l.length≤1000) {n b : Nat} (hb : w.heap[b]?=some (.cells #[.int .i64 (n : Int)] 3 (0,0))) :
 ∃ v' w',(Builtin.append_ #[99,99] 99 #[v,.slice (some ⟨b,0,none⟩) 1 1]).run Tryz.prog w=.ok v' w'∧OwnI w' B v' (l++[n])∧w.grownBy w' v.ownBlock∧(v'.ownBlock=v.ownBlock∨v'.ownBlock=some w.heap.size):=by
 obtain ⟨i0,hi,hz0,hz1,hz2⟩:=info_parts intI
 obtain ⟨v',w',hr,g2,g3,_,g5⟩:=run_append_own_at (P:=Tryz.prog) w B 99 99 3 i0 _ 1 8 (by kernel_rfl) hi hz0 hz1 hz2 rfl (by decide) v l.length (nums l) h ⟨b,0,none⟩ 1 1 [.int .i64 (n : Int)] rfl (fun j u hj=>by
  match j,hj with
  | 0,hj =>
    obtain rfl : Value.int .i64 (n : Int)=u:=by simpa using hj
    have e : (⟨b,0,none⟩ : Addr).add 0=⟨b,0,none⟩:=by unfold Addr.add;rw [if_pos rfl]
    rw [e]
    exact zab hb rfl
  | j+1,hj=>simp at hj) (fun u hu=>by rw [List.mem_singleton.1 hu];rfl) (by unfold maxLen;omega) (by omega) hB
 refine ⟨v',w',hr,?_,g3,g5⟩
 unfold OwnI nums
 rw [List.length_append,List.map_append]
 exact g2
end
structure StM (rs : List (Nat × Array Value × TypeId)) (w w' : World) (s : Nat) (vn vg : Value) (n g : List Nat) (f : Bool) : Prop where
 low : Below w.heap.size w w'
 blk : Blk w' s #[vn,vg,.bool f] 101
 new : w.heap.size≤s
 nx : OwnI w' w.heap.size vn n
 gd : OwnI w' w.heap.size vg g
 ne1 : vn.ownBlock≠some s
 ne2 : vg.ownBlock≠some s
 ne3 : ∀ b,vn.ownBlock=some b→vg.ownBlock≠some b
 still : ∀ r∈rs,Blk w' r.1 r.2.1 r.2.2∧r.1≠s∧vn.ownBlock≠some r.1∧vg.ownBlock≠some r.1
section
variable {rs : List (Nat × Array Value × TypeId)} {w w' w2 : World} {s : Nat} {vn vg : Value} {n g : List Nat} {f : Bool}
theorem StM.below (h : StM rs w w' s vn vg n g f) (hb : Below w'.heap.size w' w2) : StM rs w w2 s vn vg n g f :=
 ⟨h.low.trans (hb.mono h.low.size),h.blk.low hb,h.new,h.nx.blk (fun b hg=>hb.block b (h.nx.own b hg).2),h.gd.blk (fun b hg=>hb.block b (h.gd.own b hg).2),h.ne1,h.ne2,h.ne3,fun r hr=>⟨(h.still r hr).1.low hb,(h.still r hr).2⟩⟩
theorem StM.lt (h : StM rs w w' s vn vg n g f) : s < w'.heap.size:=h.blk.lt
theorem StM.next (h : StM rs w w' s vn vg n g f) (hn : n.length≤1000) (j : Nat) :
 ∃ a' c' w2,(Builtin.append_ #[99,99] 99 #[vn,.slice (some ⟨w'.heap.size,0,none⟩) 1 1]).run Tryz.prog (w'.alloc (.cells #[.int .i64 (j : Int)] 3))=.ok (.slice a' (n.length+1) c') w2 ∧
   StM rs w (w2.setCell ⟨s,0,none⟩ (.slice a' (n.length+1) c')) s (.slice a' (n.length+1) c') vg (n++[j]) g f∧Blk w2 s #[vn,vg,.bool f] 101:=by
 have h1:=h.below ((Below.refl w'.heap.size w').alloc (Nat.le_refl _) (.cells #[.int .i64 (j : Int)] 3))
 obtain ⟨v',w2,hr,ho,hg,hd⟩:=h1.nx.append h1.low.size hn (heap_alloc_new w' (.cells #[.int .i64 (j : Int)] 3))
 obtain ⟨a',c',rfl⟩:=ho.slice
 rw [List.length_append,List.length_singleton] at hr ho hd
 have hs2 : s < (w'.alloc (.cells #[.int .i64 (j : Int)] 3)).heap.size:=h1.lt
 have hbs : Blk w2 s #[vn,vg,.bool f] 101:=(hg.block s hs2 (fun e=>h1.ne1 e.symm)).trans h1.blk
 have hnew : ∀ b,(Value.slice a' (n.length+1) c').ownBlock=some b→b < (w'.alloc (.cells #[.int .i64 (j : Int)] 3)).heap.size→vn.ownBlock=some b:=fun b hb hlt=>by
  rcases hd with e|e
  ·rw [← e];exact hb
  ·rw [e] at hb
   have hb:=Option.some.inj hb
   omega
 have hv' : ∀ b,(Value.slice a' (n.length+1) c').ownBlock=some b→b≠s∧vg.ownBlock≠some b:=fun b hb =>
  ⟨fun e=>h1.ne1 (by rw [← e];exact hnew b hb (by omega)),fun e=>h1.ne3 b (hnew b hb (h1.gd.own _ e).2) e⟩
 refine ⟨a',c',w2,hr,⟨?_,hbs.set 0 _ rfl,h.new,?_,?_,fun e=>(hv' s e).1 rfl,h.ne2,fun b hb=>(hv' b hb).2,fun r hr=>?_⟩,hbs⟩
 ·have hB2 : Below w.heap.size w w2:=h1.low.grown hg h1.low.size (fun k hk=>(h1.nx.own k hk).1)
  exact ((TFr.of_below (K:=(w.heap.size≤·)) hB2).setCell (p:=⟨s,0,none⟩) (fun _=>h.new) _).below (Nat.le_refl _) (fun k hk=>hk)
 ·show OwnI _ _ _ _
  exact ho.blk (fun b hb=>heap_setCell_other w2 _ b _ (fun e=>(hv' b hb).1 e))
 ·refine (h1.gd.blk (w':=w2) (fun b hb=>hg.block b (h1.gd.own b hb).2 (fun e=>h1.ne3 b e.symm hb))).blk (fun b hb=>heap_setCell_other w2 _ b _ (fun e=>?_))
  have e2 : b=s:=e
  exact h.ne2 (e2 ▸ hb)
 ·obtain ⟨h2,h3,h4,h5⟩:=h1.still r hr
  exact ⟨Blk.at ((hg.block r.1 h2.lt (fun e=>h4 e.symm)).trans h2) h3 0 _,h3,fun e=>h4 (hnew _ e h2.lt),h5⟩
theorem StM.guard (h : StM rs w w' s vn vg n g f) (hn : g.length≤1000) (j : Nat) :
 ∃ a' c' w2,(Builtin.append_ #[99,99] 99 #[vg,.slice (some ⟨w'.heap.size,0,none⟩) 1 1]).run Tryz.prog (w'.alloc (.cells #[.int .i64 (j : Int)] 3))=.ok (.slice a' (g.length+1) c') w2 ∧
   StM rs w (w2.setCell ⟨s,1,none⟩ (.slice a' (g.length+1) c')) s vn (.slice a' (g.length+1) c') n (g++[j]) f∧Blk w2 s #[vn,vg,.bool f] 101:=by
 have h1:=h.below ((Below.refl w'.heap.size w').alloc (Nat.le_refl _) (.cells #[.int .i64 (j : Int)] 3))
 obtain ⟨v',w2,hr,ho,hg,hd⟩:=h1.gd.append h1.low.size hn (heap_alloc_new w' (.cells #[.int .i64 (j : Int)] 3))
 obtain ⟨a',c',rfl⟩:=ho.slice
 rw [List.length_append,List.length_singleton] at hr ho hd
 have hs2 : s < (w'.alloc (.cells #[.int .i64 (j : Int)] 3)).heap.size:=h1.lt
 have hbs : Blk w2 s #[vn,vg,.bool f] 101:=(hg.block s hs2 (fun e=>h1.ne2 e.symm)).trans h1.blk
 have hnew : ∀ b,(Value.slice a' (g.length+1) c').ownBlock=some b→b < (w'.alloc (.cells #[.int .i64 (j : Int)] 3)).heap.size→vg.ownBlock=some b:=fun b hb hlt=>by
  rcases hd with e|e
  ·rw [← e];exact hb
  ·rw [e] at hb
   have hb:=Option.some.inj hb
   omega
 have hv' : ∀ b,(Value.slice a' (g.length+1) c').ownBlock=some b→b≠s∧vn.ownBlock≠some b:=fun b hb =>
  ⟨fun e=>h1.ne2 (by rw [← e];exact hnew b hb (by omega)),fun e=>h1.ne3 b e (hnew b hb (h1.nx.own _ e).2)⟩
 refine ⟨a',c',w2,hr,⟨?_,hbs.set 1 _ rfl,h.new,?_,?_,h.ne1,fun e=>(hv' s e).1 rfl,fun b hb e=>(hv' b e).2 hb,fun r hr=>?_⟩,hbs⟩
 ·have hB2 : Below w.heap.size w w2:=h1.low.grown hg h1.low.size (fun k hk=>(h1.gd.own k hk).1)
  exact ((TFr.of_below (K:=(w.heap.size≤·)) hB2).setCell (p:=⟨s,1,none⟩) (fun _=>h.new) _).below (Nat.le_refl _) (fun k hk=>hk)
 ·refine (h1.nx.blk (w':=w2) (fun b hb=>hg.block b (h1.nx.own b hb).2 (fun e=>h1.ne3 b hb e.symm))).blk (fun b hb=>heap_setCell_other w2 _ b _ (fun e=>?_))
  have e2 : b=s:=e
  exact h.ne1 (e2 ▸ hb)
 ·show OwnI _ _ _ _
  exact ho.blk (fun b hb=>heap_setCell_other w2 _ b _ (fun e=>(hv' b hb).1 e))
 ·obtain ⟨h2,h3,h4,h5⟩:=h1.still r hr
  exact ⟨Blk.at ((hg.block r.1 h2.lt (fun e=>h5 e.symm)).trans h2) h3 1 _,h3,h4,fun e=>h5 (hnew _ e h2.lt)⟩
theorem StM.fin (h : StM rs w w' s vn vg n g f) (f' : Bool) : StM rs w (w'.setCell ⟨s,2,none⟩ (.bool f')) s vn vg n g f' :=
 ⟨((TFr.of_below (K:=(w.heap.size≤·)) h.low).setCell (p:=⟨s,2,none⟩) (fun _=>h.new) _).below (Nat.le_refl _) (fun k hk=>hk),h.blk.set 2 _ rfl,h.new,
   h.nx.blk (fun b hb=>heap_setCell_other w' _ b _ (fun e=>by have e2 : b=s:=e;exact h.ne1 (e2 ▸ hb))),
   h.gd.blk (fun b hb=>heap_setCell_other w' _ b _ (fun e=>by have e2 : b=s:=e;exact h.ne2 (e2 ▸ hb))),h.ne1,h.ne2,h.ne3,fun r hr=>⟨(h.still r hr).1.at (h.still r hr).2.1 2 _,(h.still r hr).2⟩⟩
theorem StM.done (h : StM rs w w' s vn vg n g f) {r : Nat} (hr : w.heap.size≤r) (hrn : vn.ownBlock≠some r) (hrg : vg.ownBlock≠some r) (hw : TFr (·=r) w' w2) :
 ∃ a c b d,vn=.slice a n.length c∧vg=.slice b g.length d∧stateD.P (· < w.heap.size) w2 [vn,vg,.bool f] ⟨n,g,f⟩∧Below w.heap.size w w2:=by
 have h1:=(h.nx.blk (w':=w2) (fun b hb=>hw.block b (h.nx.own b hb).2 (fun e=>hrn (by rw [← e];exact hb)))).row
 have h2:=(h.gd.blk (w':=w2) (fun b hb=>hw.block b (h.gd.own b hb).2 (fun e=>hrg (by rw [← e];exact hb)))).row
 obtain ⟨a,c,rfl⟩:=h.nx.slice
 obtain ⟨b,d,rfl⟩:=h.gd.slice
 refine ⟨a,c,b,d,rfl,rfl,⟨a,c,b,d,rfl,h1,h2⟩,?_⟩
 exact ((TFr.of_below (K:=(·=r)) h.low).trans hw).below (Nat.le_refl _) (fun k hk=>by rw [hk];exact hr)
end
def StTo (s : PSt) (w : World) (e : Ending) (w' : World) : Prop:=∃ a c b d,e=.returned (.agg #[.slice a s.nx.length c,.slice b s.gd.length d,.bool s.fin])∧stateD.P (· < w.heap.size) w' [.slice a s.nx.length c,.slice b s.gd.length d,.bool s.fin] s∧Below w.heap.size w w'
end Go.Proofs.YtkmlfkbpcgkpaaaGreatDoor
