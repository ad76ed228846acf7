/- Queries: texts of expressions, all the way down. | Queries: texts of items and of predicates. | Queries: texts that are joined. | Queries: Print. | Queries: depths; under and place. | Queries: depths; the map by where Kids stand. | Queries: depths; the map's lookup. | Queries: depths; the map read and written. | Queries: depths; the map written. | Queries: depths; above. | Queries: depths; the worklist in plain words. | Queries: depths; a row of rows, and one less of a row of one's own. | Queries: depths; long rows. | Queries: depths; what is left to do gets less; the map as a function of the world. | Queries: depths; the rows below an expression in memory, and their depths in plain words. | Queries: how much an expression is. -/
import Derived.Test.YtefcbgnckgapgaaM3
import Derived.LaidEql
import Derived.Maps.Keyed
namespace Go.Proofs.Ytefcbgnckgapgaa
open Go.RowKit Go.Lib Go.Op
theorem nameB_len {b : List UInt8} (h : nameB b=true) : b.length≤16:=by
 unfold nameB at h
 rw [Bool.and_eq_true] at h
 exact (wordB_len h.1).2
theorem itoa_short (n : Int) (h : -1099511627776≤n∧n≤1099511627776) : (itoa n).length≤30:=Nat.le_trans (itoa_length_le n (by omega) (by omega)) (by decide)
theorem valTx_len {v : PVal} (h : rightB v=true) : (valTx v).length≤70:=by
 obtain ⟨k,n,s⟩:=v
 unfold valTx
 rcases rightB_kind h with hk|hk|hk
 ·dsimp only at hk
  subst hk
  unfold rightB at h
  simp only [if_true,decide_eq_true_eq] at h
  rw [if_neg (by simp),if_neg (by simp)]
  have:=itoa_short n ⟨h.1,h.2.1⟩
  show (itoa n).length≤70
  omega
 ·dsimp only at hk
  subst hk
  unfold rightB at h
  rw [if_neg (by simp),if_pos rfl,decide_eq_true_eq] at h
  rw [if_pos rfl]
  have:=h.2
  simp only [List.length_cons,List.length_append,List.length_nil]
  dsimp only at this
  omega
 ·dsimp only at hk
  subst hk
  rw [if_neg (by simp),if_pos rfl]
  split <;> decide
theorem rightX_kinds {d : Nat} {k : Int} {v : PVal} {x f : List UInt8} {ks : List PEx} (h : rightX (d+1) (.mk k v x f ks)=true) :
 (k=1∧rightB v=true)∨(k=3∧nameB x=true)∨((k=2∨k=4∨k=5∨k=6)∧nameB x=true∧nameB f=true)∨((k=7∨k=8)∧∃ y z,ks=[y,z]∧rightX d y=true∧rightX d z=true):=by
 rw [rightX_eq] at h
 split at h
 ·rename_i hk
  rw [Bool.and_eq_true] at h
  unfold writeB at h
  rw [Bool.and_eq_true] at h
  exact .inl ⟨hk,h.2.2⟩
 ·split at h
  ·rename_i _ hk
   rw [Bool.and_eq_true] at h
   exact .inr (.inl ⟨hk,h.2⟩)
  ·split at h
   ·rename_i _ _ hk
    rw [Bool.and_eq_true,Bool.and_eq_true] at h
    exact .inr (.inr (.inl ⟨hk,h.2.1,h.2.2⟩))
   ·split at h
    ·rename_i _ _ _ hk
     rw [Bool.and_eq_true] at h
     have h2 : ks.length=2:=by
      by_cases e : ks.length=2
      ·exact e
      ·rw [twoB_no e] at h;cases h.2
     obtain ⟨y,z,rfl⟩:=two_of h2
     have h3 : (rightX d y && rightX d z)=true:=h.2
     rw [Bool.and_eq_true] at h3
     exact .inr (.inr (.inr ⟨hk,y,z,rfl,h3.1,h3.2⟩))
    ·cases h
theorem exprTx_len : ∀ (d : Nat) (x : PEx),rightX d x=true→(exprTx d x).length≤100*3 ^ d
 | 0,x,h=>by cases x;cases h
 | d+1,.mk k v x f ks,h=>by
   have hp : 0 < 3 ^ d:=Nat.pow_pos (by decide)
   rw [Nat.pow_succ]
   rcases rightX_kinds h with ⟨rfl,hv⟩|⟨rfl,hx⟩|⟨hk,hx,hf⟩|⟨hk,y,z,rfl,h1,h2⟩
   ·show (valTx v).length≤_
    have:=valTx_len hv
    omega
   ·show (atL callsL 3++40 :: (x++[41])).length≤_
    have:=nameB_len hx
    have e : (atL callsL 3).length=5:=rfl
    simp only [List.length_append,List.length_cons,List.length_nil,e]
    omega
   ·have hx:=nameB_len hx
    have hf:=nameB_len hf
    rcases hk with rfl|rfl|rfl|rfl
    ·show (x++46 :: f).length≤_
     simp only [List.length_append,List.length_cons]
     omega
    ·show (atL callsL 4++40 :: (x++46 :: (f++[41]))).length≤_
     have e : (atL callsL 4).length=3:=rfl
     simp only [List.length_append,List.length_cons,List.length_nil,e]
     omega
    ·show (atL callsL 5++40 :: (x++46 :: (f++[41]))).length≤_
     have e : (atL callsL 5).length=3:=rfl
     simp only [List.length_append,List.length_cons,List.length_nil,e]
     omega
    ·show (atL callsL 6++40 :: (x++46 :: (f++[41]))).length≤_
     have e : (atL callsL 6).length=3:=rfl
     simp only [List.length_append,List.length_cons,List.length_nil,e]
     omega
   ·have h1:=exprTx_len d y h1
    have h2:=exprTx_len d z h2
    have e7 : (atL sumsL 7).length=1:=rfl
    have e8 : (atL sumsL 8).length=1:=rfl
    rcases hk with rfl|rfl
    ·show (exprTx d y++32 :: (atL sumsL 7++32 :: (if z.k=7∨z.k=8 then 40 :: (exprTx d z++[41]) else exprTx d z))).length≤_
     split <;> simp only [List.length_append,List.length_cons,List.length_nil,e7] <;> omega
    ·show (exprTx d y++32 :: (atL sumsL 8++32 :: (if z.k=7∨z.k=8 then 40 :: (exprTx d z++[41]) else exprTx d z))).length≤_
     split <;> simp only [List.length_append,List.length_cons,List.length_nil,e8] <;> omega
end Go.Proofs.Ytefcbgnckgapgaa
namespace Go.Proofs.Ytefcbgnckgapgaa
open Go.RowKit Go.Lib Go.Op
theorem atL_short {l : List (List UInt8)} (h : ∀ b∈l,b.length≤10) (k : Int) : (atL l k).length≤10:=by
 unfold atL
 rw [List.getD_eq_getElem?_getD]
 cases hk : l[k.toNat]? with
 | none=>simp
 | some b=>exact h b (List.mem_of_getElem? hk)
section
variable {w : World} {a : Option Addr} {c n : Nat} {x : List UInt8} {mode : Int}
end
section
variable {w : World} {a b : Option Addr} {q c r d : Nat} {p : PPr}
end
end Go.Proofs.Ytefcbgnckgapgaa
namespace Go.Proofs.Ytefcbgnckgapgaa
open Go.RowKit Go.Lib Go.Op
theorem inter_len (sep : List UInt8) (m : Nat) : ∀ (l : List (List UInt8)),(∀ b∈l,b.length≤m)→(sep.intercalate l).length≤l.length*(m+sep.length)
 | [],_=>by simp [List.intercalate]
 | [b],h=>by
   have:=h b (by simp)
   simp [List.intercalate]
   omega
 | b :: b' :: r,h=>by
   have ih:=inter_len sep m (b' :: r) (fun x hx=>h x (List.mem_cons_of_mem _ hx))
   have h1:=h b List.mem_cons_self
   have e : (sep.intercalate (b :: b' :: r))=b++(sep++sep.intercalate (b' :: r)):=by simp [List.intercalate]
   rw [e,List.length_append,List.length_append,List.length_cons (a:=b),Nat.succ_mul]
   omega
theorem unlikeB_names {l : List (List UInt8)} (h : unlikeB l=true) : ∀ b∈l,b.length≤16:=fun b hb=>by
 unfold unlikeB at h
 rw [Bool.and_eq_true,List.all_eq_true] at h
 exact nameB_len (h.1 b hb)
theorem rightI_parts {i : PIt} (h : rightI i=true) : (1≤i.mode∧i.mode≤3)∧0 < i.ns.length∧i.ns.length≤3∧∀ b∈i.ns,b.length≤16:=by
 unfold rightI at h
 split at h
 ·cases h
 ·rename_i hn
  rw [Bool.and_eq_true,decide_eq_true_eq] at h
  refine ⟨⟨?_,?_⟩,h.1.1,h.1.2,unlikeB_names h.2⟩
  ·exact Int.not_lt.1 (fun e=>hn (.inl e))
  ·exact Int.not_lt.1 (fun e=>hn (.inr (.inl e)))
theorem orjoin_len {i : PIt} (h : rightI i=true) : ([32,111,114,32].intercalate i.ns).length≤1000:=by
 obtain ⟨_,_,h3,h4⟩:=rightI_parts h
 have h1:=inter_len [32,111,114,32] 16 i.ns h4
 have : i.ns.length*(16+[32,111,114,32].length)≤3*20:=Nat.mul_le_mul h3 (by decide)
 omega
theorem itemTx_len {i : PIt} (h : rightI i=true) (hx : i.x.length≤100) : (itemTx i).length≤1200:=by
 unfold itemTx
 have h1:=orjoin_len h
 have h2:=atL_short (l:=modesL) (by decide) i.mode
 have h3 : (if i.no then ([110,111,116,32] : List UInt8) else []).length≤4:=by split <;> decide
 simp only [List.length_append,List.length_cons]
 omega
theorem predTx_len {p : PPr} (h : rightP p=true) : (predTx p).length≤200000:=by
 unfold rightP at h
 rw [Bool.and_eq_true,Bool.and_eq_true] at h
 have h1:=exprTx_len 6 p.l h.2.1
 have h2:=exprTx_len 6 p.r h.2.2
 have h3:=atL_short (l:=cmpsL) (by decide) p.cmp
 have e : (3 : Nat) ^ 6=729:=rfl
 unfold predTx
 simp only [List.length_append,List.length_cons]
 omega
end Go.Proofs.Ytefcbgnckgapgaa
namespace Go.Proofs.Ytefcbgnckgapgaa
open Go.RowKit Go.Lib Go.Op
section
variable {w : World} {a b : Option Addr} {q c r d : Nat} {wi pk : Int} {bb : List UInt8} {ti tp tf pt : ByteArray}
end
theorem rightQ_parts {p : PQu} (h : rightQ p=true) : rightIs p.its=true∧p.prs.length≤8∧(∀ y∈p.prs,rightP y=true)∧(0≤p.within∧p.within≤1099511627776)∧(p.by_=[]∨nameB p.by_=true)∧1≤p.pick∧p.pick≤3:=by
 unfold rightQ at h
 simp only [Bool.and_eq_true,Bool.or_eq_true,decide_eq_true_eq,List.all_eq_true] at h
 exact ⟨h.1,h.2.1,h.2.2.1,h.2.2.2.1,h.2.2.2.2.1,h.2.2.2.2.2⟩
theorem rightIs_parts {l : List PIt} (h : rightIs l=true) : l≠[]∧l.length≤6∧(∀ y∈l,rightI y=true∧y.x.length≤100):=by
 unfold rightIs at h
 cases l with
 | nil=>cases h
 | cons i r =>
   simp only [Bool.and_eq_true,Bool.not_eq_true',Bool.or_eq_false_iff,decide_eq_false_iff_not] at h
   refine ⟨by simp,by have:=h.1.1;omega,fun y hy=>⟨List.all_eq_true.1 h.2.1 y hy,?_⟩⟩
   have:=unlikeB_names h.2.2 y.x (List.mem_map_of_mem hy)
   omega
theorem strB_nil_size : (strB []).size=0:=rfl
end Go.Proofs.Ytefcbgnckgapgaa
namespace Go.Proofs.Ytefcbgnckgapgaa
open Go.RowKit Go.Lib Go.Op
section
variable {w : World} {a : Option Addr} {c n : Nat} {v : PVal} {x f : List UInt8}
end
section
variable {w : World} {g o n c : Nat} {a : Option Addr}
end
end Go.Proofs.Ytefcbgnckgapgaa
namespace Go.Proofs.Ytefcbgnckgapgaa
open Go.RowKit Go.Lib Go.Op
def keyV (k : Option Addr × Nat) : Value:=.agg #[.pointer k.1,.int .i64 k.2]
def KBlk (w : World) (k : Option Addr × Nat) : Prop:=∀ a,k.1=some a→∃ cs t,w.heap[a.block]?=some (.cells cs t (0,0))
end Go.Proofs.Ytefcbgnckgapgaa
namespace Go.Proofs.Ytefcbgnckgapgaa
open Go.RowKit Go.Lib Go.Op
theorem keyV_inj {k l : Option Addr × Nat} (h : keyV k=keyV l) : k=l:=by
 obtain ⟨a,n⟩:=k
 obtain ⟨b,m⟩:=l
 unfold keyV at h
 simp only [Value.agg.injEq,Array.mk.injEq,List.cons.injEq,Value.pointer.injEq,Value.int.injEq,and_true,true_and] at h
 obtain ⟨rfl,h2⟩:=h
 congr 1
 omega
structure DEs (W : World) (es : List MapEntry) (f : Option Addr × Nat→Int) : Prop where
 ent : ∀ e∈es,∃ k,e.key=keyV k∧KBlk W k∧e.val=.int .i64 (f k)
 has : ∀ k,f k≠0→∃ e∈es,e.key=keyV k
 one : es.Pairwise (fun a b=>a.key≠b.key)
end Go.Proofs.Ytefcbgnckgapgaa
namespace Go.Proofs.Ytefcbgnckgapgaa
open Go.RowKit Go.Lib Go.Op
def DMap (W : World) (m : Nat) (f : Option Addr × Nat→Int) : Prop:=∃ es clock,W.heap[m]?=some (.map es clock)∧DEs W es.toList f
theorem DEs.keys {W : World} {es : List MapEntry} {f : Option Addr × Nat→Int} (h : DEs W es f) : ∀ e∈es,∃ l,e.key=keyV l∧KBlk W l:=fun e he=>by
 obtain ⟨k,h1,h2,_⟩:=h.ent e he
 exact ⟨k,h1,h2⟩
end Go.Proofs.Ytefcbgnckgapgaa
namespace Go.Proofs.Ytefcbgnckgapgaa
open Go.RowKit Go.Lib Go.Op
theorem bits_kids (k : Option Addr × Nat) (d : Nat) : Instr.sameBits (d+2) (keyV k) (keyV k)=true:=by
 unfold keyV
 simp [Instr.sameBits]
theorem stays_kids (k : Option Addr × Nat) (W : World) : (Instr.keyThatStays (keyV k) (keyV k)).run Try.prog W=.ok (keyV k) W:=by
 simp only [Instr.keyThatStays,show (10000 : Nat)=9998+2 from rfl,bits_kids k 9998,if_true,Sem.run_pure]
def updF (f : Option Addr × Nat→Int) (k : Option Addr × Nat) (v : Int) : Option Addr × Nat→Int:=fun l=>if l=k then v else f l
theorem KBlk.set {W : World} {m : Nat} {es : Array MapEntry} {c : Nat} (hm : W.heap[m]?=some (.map es c)) {k : Option Addr × Nat} (h : KBlk W k) (o : Obj) : KBlk { W with heap:=W.heap.setIfInBounds m o } k:=fun a ha=>by
 obtain ⟨cs,t,hb⟩:=h a ha
 have hne : m≠a.block:=fun e=>by
  rw [← e,hm] at hb
  simp at hb
 exact ⟨cs,t,by rw [show ({ W with heap:=W.heap.setIfInBounds m o } : World).heap=W.heap.setIfInBounds m o from rfl,Array.getElem?_setIfInBounds_ne hne];exact hb⟩
def KeysIn (W : World) (m L : Nat) : Prop:=∀ es c,W.heap[m]?=some (.map es c)→∀ e∈es.toList,∀ k,e.key=keyV k→∀ a,k.1=some a→a.block < L
end Go.Proofs.Ytefcbgnckgapgaa
namespace Go.Proofs.Ytefcbgnckgapgaa
open Go.RowKit Go.Lib Go.Op
def keyX (k : Int) (a : Option Addr) (n : Nat) : Option Addr × Nat:=if k=7∨k=8 then (if n=0 then (none,0) else (a,n)) else (none,0)
theorem keyX_blk {w : World} {k : Int} {a : Option Addr} {n : Nat} (h : KBlk w (a,n)) : KBlk w (keyX k a n):=by
 unfold keyX
 split
 ·split
  ·exact fun x e=>by cases e
  ·exact h
 ·exact fun x e=>by cases e
theorem keyV_nil : keyV (none,0)=.agg #[.pointer none,.int .i64 0]:=rfl
def undV (k : Int) (a : Option Addr) (n c : Nat) : Option Addr × Nat × Nat:=if k=7∨k=8 then (a,n,c) else (none,0,0)
theorem DMap.below {W W' : World} {m : Nat} {f : Option Addr × Nat→Int} (h : DMap W m f) (hb : Below W.heap.size W W') : DMap W' m f:=by
 obtain ⟨es,c,h1,h2⟩:=h
 have hk : ∀ {b : Nat} {o : Obj},W.heap[b]?=some o→W'.heap[b]?=some o:=fun {b o} e=>((TFr.of_below (K:=fun _=>False) hb).block b (Array.getElem?_eq_some_iff.1 e).1 (fun h=>h)).trans e
 exact ⟨es,c,hk h1,⟨fun e he=>by
  obtain ⟨k,h3,h4,h5⟩:=h2.ent e he
  exact ⟨k,h3,fun a ha=>by
   obtain ⟨cs,t,h6⟩:=h4 a ha
   exact ⟨cs,t,hk h6⟩,h5⟩,h2.has,h2.one⟩⟩
theorem KBlk.below {W W' : World} {k : Option Addr × Nat} (h : KBlk W k) (hb : Below W.heap.size W W') : KBlk W' k:=fun a ha=>by
 obtain ⟨cs,t,h6⟩:=h a ha
 exact ⟨cs,t,((TFr.of_below (K:=fun _=>False) hb).block a.block (Array.getElem?_eq_some_iff.1 h6).1 (fun h=>h)).trans h6⟩
def mostF (f : Option Addr × Nat→Int) (l : List (Option Addr × Nat)) : Int:=l.foldl (fun m k=>max m (f k)) 0
theorem mostF_snoc (f : Option Addr × Nat→Int) (l : List (Option Addr × Nat)) (k : Option Addr × Nat) : mostF f (l++[k])=max (mostF f l) (f k):=by
 unfold mostF
 rw [List.foldl_append]
 rfl
theorem mostF_le {f : Option Addr × Nat→Int} {N : Int} (hN : 0≤N) (hf : ∀ k,f k≤N) (l : List (Option Addr × Nat)) : mostF f l≤N:=by
 have : ∀ (l : List (Option Addr × Nat)) (m : Int),m≤N→l.foldl (fun m k=>max m (f k)) m≤N:=fun l=>by
  induction l with
  | nil=>exact fun m h=>h
  | cons k r ih=>exact fun m h=>ih _ (by have:=hf k;show max m (f k)≤N;omega)
 exact this l 0 hN
theorem mostF_nonneg {f : Option Addr × Nat→Int} (l : List (Option Addr × Nat)) : 0≤mostF f l:=by
 have : ∀ (l : List (Option Addr × Nat)) (m : Int),0≤m→0≤l.foldl (fun m k=>max m (f k)) m:=fun l=>by
  induction l with
  | nil=>exact fun m h=>h
  | cons k r ih=>exact fun m h=>ih _ (by show 0≤max m (f k);omega)
 exact this l 0 (Int.le_refl _)
def KidsAt (w : World) (a : Option Addr) (l : List PEx) (ks : List (Option Addr × Nat)) : Prop:=ks.length=l.length∧∀ j x,l[j]?=some x→∃ g o a' c',a=some ⟨g,o,none⟩ ∧
 (w.cell? ⟨g,o+j*7,none⟩=some (.int .i64 x.k)∧w.cell? ⟨g,o+j*7+1,none⟩=some (.int .i64 x.v.k)∧w.cell? ⟨g,o+j*7+2,none⟩=some (.int .i64 x.v.n)∧w.cell? ⟨g,o+j*7+3,none⟩=some (.string (strB x.v.s))∧w.cell? ⟨g,o+j*7+4,none⟩=some (.string (strB x.x))∧w.cell? ⟨g,o+j*7+5,none⟩=some (.string (strB x.f))∧w.cell? ⟨g,o+j*7+6,none⟩=some (.slice a' x.ks.length c')) ∧
 (x.ks.length≠0→∃ g' o',a'=some ⟨g',o',none⟩)∧KBlk w (keyX x.k a' x.ks.length)∧ks[j]?=some (keyX x.k a' x.ks.length)
theorem KidsAt.below {w w' : World} {a : Option Addr} {l : List PEx} {ks : List (Option Addr × Nat)} (h : KidsAt w a l ks) (hb : Below w.heap.size w w') : KidsAt w' a l ks:=⟨h.1,fun j x hx=>by
 obtain ⟨g,o,a',c',e,⟨d0,d1,d2,d3,d4,d5,d6⟩,h1,h2,h3⟩:=h.2 j x hx
 exact ⟨g,o,a',c',e,⟨tkeep hb d0,tkeep hb d1,tkeep hb d2,tkeep hb d3,tkeep hb d4,tkeep hb d5,tkeep hb d6⟩,h1,h2.below hb,h3⟩⟩
end Go.Proofs.Ytefcbgnckgapgaa
namespace Go.Proofs.Ytefcbgnckgapgaa
open Go.RowKit Go.Lib Go.Op
structure DRows (R : List (Option Addr × Nat)) (kids : Option Addr × Nat→List (Option Addr × Nat)) (dep : Option Addr × Nat→Int) : Prop where
 one : R.Nodup
 mem : ∀ r∈R,∀ c∈kids r,c∈R
 dn : dep (none,0)=1
 depIs : ∀ r∈R,r≠(none,0)→dep r=1+mostF dep (kids r)
theorem mostF_mem {f : Option Addr × Nat→Int} : ∀ {l : List (Option Addr × Nat)} {k : Option Addr × Nat},k∈l→f k≤mostF f l:=fun {l k} h=>by
 have hm : ∀ (l : List (Option Addr × Nat)) (m : Int),m≤l.foldl (fun m k=>max m (f k)) m:=fun l=>by
  induction l with
  | nil=>exact fun m=>Int.le_refl _
  | cons a r ih=>exact fun m=>Int.le_trans (show m≤max m (f a) by omega) (ih _)
 have : ∀ (l : List (Option Addr × Nat)) (m : Int),k∈l→f k≤l.foldl (fun m k=>max m (f k)) m:=fun l=>by
  induction l with
  | nil=>exact fun m h=>by simp at h
  | cons a r ih =>
    intro m h
    rcases List.mem_cons.1 h with rfl|h
    ·exact Int.le_trans (show f k≤max m (f k) by omega) (hm r _)
    ·exact ih _ h
 exact this l 0 h
theorem mostF_congr {f g : Option Addr × Nat→Int} {l : List (Option Addr × Nat)} (h : ∀ k∈l,f k=g k) : mostF f l=mostF g l:=by
 have : ∀ (l : List (Option Addr × Nat)) (m : Int),(∀ k∈l,f k=g k)→l.foldl (fun m k=>max m (f k)) m=l.foldl (fun m k=>max m (g k)) m:=fun l=>by
  induction l with
  | nil=>exact fun _ _=>rfl
  | cons a r ih =>
    intro m h
    rw [List.foldl_cons,List.foldl_cons,h a List.mem_cons_self]
    exact ih _ (fun k hk=>h k (List.mem_cons_of_mem _ hk))
 exact this l 0 h
section
variable {R : List (Option Addr × Nat)} {kids : Option Addr × Nat→List (Option Addr × Nat)} {dep f : Option Addr × Nat→Int} {t : Option Addr × Nat} {st : List (Option Addr × Nat)}
theorem DRows.pos (H : DRows R kids dep) {r : Option Addr × Nat} (hr : r∈R) : 0 < dep r:=by
 by_cases h : r=(none,0)
 ·rw [h,H.dn];decide
 ·have:=H.depIs r hr h
  have:=mostF_nonneg (f:=dep) (kids r)
  omega
theorem DRows.less (H : DRows R kids dep) {r c : Option Addr × Nat} (hr : r∈R) (hn : r≠(none,0)) (hc : c∈kids r) : dep c < dep r:=by
 have:=H.depIs r hr hn
 have:=mostF_mem (f:=dep) hc
 omega
structure DInv (R : List (Option Addr × Nat)) (kids : Option Addr × Nat→List (Option Addr × Nat)) (dep f : Option Addr × Nat→Int) (st : List (Option Addr × Nat)) : Prop where
 vals : ∀ r∈R,f r=0∨f r=-1∨f r=dep r
 nil : f (none,0)=1
 inR : ∀ r∈st,r∈R
 beg : ∀ r,f r=-1→∃ pre suf,st=pre++r :: suf∧(∀ s∈pre,dep s < dep r)∧∀ c∈kids r,0 < f c∨c∈pre
theorem DInv.unseen (H : DRows R kids dep) (h : DInv R kids dep f (t :: st)) (h0 : f t=0) : DInv R kids dep (updF f t (-1)) ((kids t).reverse++t :: st):=by
 have ht:=h.inR t List.mem_cons_self
 have hn : t≠(none,0):=fun e=>by rw [e,h.nil] at h0;cases h0
 refine ⟨fun r hr=>?_,by rw [updF,if_neg (Ne.symm hn)];exact h.nil,fun r hr=>?_,fun r hr=>?_⟩
 ·unfold updF
  split
  ·exact Or.inr (Or.inl rfl)
  ·exact h.vals r hr
 ·rcases List.mem_append.1 hr with h1|h1
  ·exact H.mem t ht r (List.mem_reverse.1 h1)
  ·exact h.inR r h1
 ·by_cases hrt : r=t
  ·subst hrt
   exact ⟨(kids r).reverse,st,rfl,fun s hs=>H.less ht hn (List.mem_reverse.1 hs),fun c hc=>Or.inr (List.mem_reverse.2 hc)⟩
  ·rw [updF,if_neg hrt] at hr
   obtain ⟨pre,suf,h1,h2,h3⟩:=h.beg r hr
   cases pre with
   | nil =>
     rw [List.nil_append] at h1
     exact absurd (List.cons.inj h1).1.symm hrt
   | cons p pre =>
     obtain ⟨rfl,h4⟩:=List.cons.inj h1
     have htr:=h2 t List.mem_cons_self
     refine ⟨(kids t).reverse++t :: pre,suf,by rw [h4];simp,fun s hs=>?_,fun c hc=>?_⟩
     ·rcases List.mem_append.1 hs with h5|h5
      ·have:=H.less ht hn (List.mem_reverse.1 h5)
       omega
      ·exact h2 s h5
     ·rcases h3 c hc with h5|h5
      ·left
       rw [updF,if_neg (fun e=>by rw [e,h0] at h5;cases h5)]
       exact h5
      ·exact Or.inr (List.mem_append_right _ h5)
theorem DInv.begun (H : DRows R kids dep) (h : DInv R kids dep f (t :: st)) (h0 : f t=-1) : 1+mostF f (kids t)=dep t∧DInv R kids dep (updF f t (dep t)) (t :: st):=by
 have ht:=h.inR t List.mem_cons_self
 have hn : t≠(none,0):=fun e=>by rw [e,h.nil] at h0;cases h0
 have hp:=H.pos ht
 obtain ⟨pre,suf,h1,h2,h3⟩:=h.beg t h0
 have hpre : pre=[]:=by
  cases pre with
  | nil=>rfl
  | cons p pre =>
    obtain ⟨rfl,_⟩:=List.cons.inj h1
    have:=h2 t List.mem_cons_self
    omega
 subst hpre
 have hk : ∀ c∈kids t,f c=dep c:=fun c hc=>by
  rcases h3 c hc with h4|h4
  ·rcases h.vals c (H.mem t ht c hc) with h5|h5|h5
   ·omega
   ·omega
   ·exact h5
  ·simp at h4
 refine ⟨by rw [mostF_congr hk,H.depIs t ht hn],fun r hr=>?_,by rw [updF,if_neg (Ne.symm hn)];exact h.nil,h.inR,fun r hr=>?_⟩
 ·unfold updF
  split
  ·rename_i e
   rw [e]
   exact Or.inr (Or.inr rfl)
  ·exact h.vals r hr
 ·by_cases hrt : r=t
  ·rw [updF,if_pos hrt] at hr
   omega
  ·rw [updF,if_neg hrt] at hr
   obtain ⟨pre,suf,h4,h5,h6⟩:=h.beg r hr
   refine ⟨pre,suf,h4,h5,fun c hc=>?_⟩
   rcases h6 c hc with h7|h7
   ·left
    unfold updF
    split
    ·exact hp
    ·exact h7
   ·exact Or.inr h7
theorem DInv.done (h : DInv R kids dep f (t :: st)) (h0 : 0 < f t) : DInv R kids dep f st:=by
 refine ⟨h.vals,h.nil,fun r hr=>h.inR r (List.mem_cons_of_mem _ hr),fun r hr=>?_⟩
 obtain ⟨pre,suf,h1,h2,h3⟩:=h.beg r hr
 cases pre with
 | nil =>
   obtain ⟨rfl,_⟩:=List.cons.inj h1
   omega
 | cons p pre =>
   obtain ⟨rfl,h4⟩:=List.cons.inj h1
   refine ⟨pre,suf,h4,fun s hs=>h2 s (List.mem_cons_of_mem _ hs),fun c hc=>?_⟩
   rcases h3 c hc with h5|h5
   ·exact Or.inl h5
   ·rcases List.mem_cons.1 h5 with rfl|h6
    ·exact Or.inl h0
    ·exact Or.inr h6
def wtF (kids : Option Addr × Nat→List (Option Addr × Nat)) (f : Option Addr × Nat→Int) (r : Option Addr × Nat) : Nat:=if f r=0 then (kids r).length+2 else if f r=-1 then 1 else 0
def wtS (R : List (Option Addr × Nat)) (kids : Option Addr × Nat→List (Option Addr × Nat)) (f : Option Addr × Nat→Int) : Nat:=(R.map (wtF kids f)).sum
theorem wtS_upd (kids : Option Addr × Nat→List (Option Addr × Nat)) (f : Option Addr × Nat→Int) (v : Int) : ∀ (R : List (Option Addr × Nat)),R.Nodup→t∈R→wtS R kids (updF f t v)+wtF kids f t=wtS R kids f+wtF kids (updF f t v) t
 | [],_,h=>by simp at h
 | r :: R,hn,h=>by
   have hn':=List.nodup_cons.1 hn
   by_cases hr : r=t
   ·subst hr
    have he : R.map (wtF kids (updF f r v))=R.map (wtF kids f):=List.map_congr_left fun x hx=>by
     have hx : x≠r:=fun e=>hn'.1 (e ▸ hx)
     unfold wtF updF
     rw [if_neg hx]
    unfold wtS
    rw [List.map_cons,List.map_cons,List.sum_cons,List.sum_cons,he]
    omega
   ·have ih:=wtS_upd kids f v R hn'.2 (by
     rcases List.mem_cons.1 h with e|h
     ·exact absurd e.symm hr
     ·exact h)
    have hw : wtF kids (updF f t v) r=wtF kids f r:=by
     unfold wtF updF
     rw [if_neg hr]
    unfold wtS at ih ⊢
    rw [List.map_cons,List.map_cons,List.sum_cons,List.sum_cons,hw]
    omega
end
end Go.Proofs.Ytefcbgnckgapgaa
namespace Go.Proofs.Ytefcbgnckgapgaa
open Go.RowKit Go.Lib Go.Op
def sliceD : RowD (Option Addr × Nat × Nat) where
 k:=1
 P:=fun _ _ cs b=>cs=[.slice b.1 b.2.1 b.2.2]
 len:=fun h=>by rw [h];rfl
 one:=fun h u hu=>by rw [h] at hu;rw [List.mem_singleton.1 hu];rfl
 keep:=fun _ h=>h
 mono:=fun _ h=>h
 ne:=fun _ h=>h
theorem flatK_len {k : Nat} : ∀ {css : List (List Value)},(∀ c∈css,c.length=k)→css.flatten.length=css.length*k
 | [],_=>by simp
 | c :: css,h=>by
   rw [List.flatten_cons,List.length_append,h c List.mem_cons_self,flatK_len (fun c' hc=>h c' (List.mem_cons_of_mem _ hc)),List.length_cons,Nat.succ_mul]
   omega
theorem OwnP.pop {α : Type} {D : RowD α} {w : World} {B g cap n : Nat} {t : TypeId} {l : List α} {x : α} (h : OwnP D w B t (.slice (some ⟨g,0,none⟩) (n+1) cap) (l++[x])) : OwnP D w B t (.slice (some ⟨g,0,none⟩) n cap) l:=by
 obtain ⟨css,h1,h2,h3,h4⟩:=h
 rw [List.length_append,List.length_singleton] at h1 h2
 obtain ⟨cs',c,rfl⟩ : ∃ cs' c,css=cs'++[c]:=by
  rcases List.eq_nil_or_concat css with e|⟨a,b,e⟩
  ·rw [e] at h1;simp at h1
  ·exact ⟨a,b,by rw [e];simp⟩
 have hl : cs'.length=l.length:=by
  rw [List.length_append,List.length_singleton] at h1
  omega
 have hf:=flatK_len (k:=D.k) (css:=cs') (fun c hc=>h3 c (List.mem_append_left _ hc))
 rcases h2.2 with ⟨e,_⟩|⟨g',cap',cur,e,hb,hh,hn,hc,hs,ht⟩
 ·cases e
 ·have e':=e
  simp only [Value.slice.injEq,Option.some.injEq,Addr.mk.injEq,and_true] at e'
  obtain ⟨rfl,hnl,rfl⟩:=e'
  have hnl : n=l.length:=by omega
  subst hnl
  refine ⟨cs',hl,⟨by rw [hf,hl],.inr ⟨g,cap,cur,rfl,hb,hh,by omega,hc,hs,?_⟩⟩,fun c hc=>h3 c (List.mem_append_left _ hc),fun j y hj=>?_⟩
  ·have h5 : (cur.toList.take ((l.length+1)*D.k)).take (l.length*D.k)=cur.toList.take (l.length*D.k):=by
    rw [List.take_take]
    congr 1
    rw [Nat.succ_mul]
    omega
   rw [← h5,ht,List.flatten_append,List.take_append_of_le_length (by rw [hf,hl];exact Nat.le_refl _),List.take_of_length_le (by rw [hf,hl];exact Nat.le_refl _)]
  ·have hlt:=(List.getElem?_eq_some_iff.1 hj).1
   obtain ⟨cs,h5,h6⟩:=h4 j y (by rw [List.getElem?_append_left hlt];exact hj)
   rw [List.getElem?_append_left (by omega)] at h5
   exact ⟨cs,h5,h6⟩
end Go.Proofs.Ytefcbgnckgapgaa
namespace Go.Proofs.Ytefcbgnckgapgaa
open Go.RowKit Go.Lib Go.Op
theorem OwnP.appendBig {α : Type} {D : RowD α} {w : World} {B : Nat} {t ts ty : TypeId} {z : Value} {bytes : Nat} (hu : Try.prog.underlying ts=some (.slice t)) (hi : (Try.prog.info? t).map (fun i=>(i.zero,i.size,i.bytes))=some (some z,D.k,bytes)) (hzs : z.cells.size=D.k) (hk : 0 < D.k) (hby : bytes≤100)
 {v : Value} {l : List α} (h : OwnP D w B t v l) (hB : B≤w.heap.size) (hl : l.length≤1000000000) {x : α} {cs : List Value} (hx : D.P (fun g=>g < B∨v.ownBlock=some g) w cs x) {vb : Nat} (hvb : w.heap[vb]?=some (.cells cs.toArray t (0,0))) :
 ∃ v' w',(Builtin.append_ #[ts,ts] ty #[v,.slice (some ⟨vb,0,none⟩) 1 1]).run Try.prog w=.ok v' w'∧OwnP D w' B t v' (l++[x])∧w.grownBy w' v.ownBlock:=by
 have hown:=h.own
 obtain ⟨css,h1,h2,h3,h4⟩:=h
 obtain ⟨i0,hi,hz0,hz1,hz2⟩:=info_parts hi
 have hcl:=D.len hx
 have hsrc : ∀ j u,cs[j]?=some u→w.cell? ((⟨vb,0,none⟩ : Addr).add j)=some u:=fun j u hj=>by
  have e : (⟨vb,0,none⟩ : Addr).add j=⟨vb,j,none⟩:=by unfold Addr.add;split <;> simp_all
  rw [e,cell_of_row w vb j _ t (0,0) hvb]
  simpa using hj
 obtain ⟨v',w',hr,g2,g3,_,g5⟩:=run_append_own_at (P:=Try.prog) w B ts ty t i0 _ D.k bytes hu hi hz0 hz1 hz2 hzs hk v l.length css.flatten h2 ⟨vb,0,none⟩ 1 1 cs (by omega) hsrc (D.one hx) (by unfold maxLen;omega) (by
  have : (l.length+1)*bytes≤1000000001*100:=Nat.mul_le_mul (by omega) hby
  omega) hB
 refine ⟨v',w',hr,⟨css++[cs],by simp [h1],?_,fun c hc=>?_,fun j y hj=>?_⟩,g3⟩
 ·rw [List.length_append,List.flatten_append]
  simpa using g2
 ·rcases List.mem_append.1 hc with hc|hc
  ·exact h3 c hc
  ·rw [List.mem_singleton.1 hc];exact hcl
 ·have key : ∀ {cs : List Value} {y : α},D.P (fun g=>g < B∨v.ownBlock=some g) w cs y→D.P (fun g=>g < B∨v'.ownBlock=some g) w' cs y:=fun {cs y} hp=>by
   rcases g5 with e|e
   ·rw [e]
    exact D.keep (TFr.of_grown g3 (fun k hk=>.inr hk)) hp
   ·rw [e]
    exact D.mono (fun g hg=>hg.elim (fun h=>.inl (.inl h)) (fun h=>.inr (Option.some.inj h).symm)) (D.keep (TFr.of_grown g3 (fun k hk=>.inl (.inr hk))) (D.ne (Nat.le_refl _) hp))
  by_cases hlt : j < l.length
  ·rw [List.getElem?_append_left hlt] at hj
   obtain ⟨c,hc,hp⟩:=h4 j y hj
   exact ⟨c,by rw [List.getElem?_append_left (by omega)];exact hc,key hp⟩
  ·have hj2 : j=l.length:=by
    have:=(List.getElem?_eq_some_iff.1 hj).1
    simp at this
    omega
   subst hj2
   obtain rfl : x=y:=by simpa using hj
   exact ⟨cs,by rw [← h1];simp,key hx⟩
end Go.Proofs.Ytefcbgnckgapgaa
namespace Go.Proofs.Ytefcbgnckgapgaa
open Go.RowKit Go.Lib Go.Op
section
variable {R : List (Option Addr × Nat)} {kids : Option Addr × Nat→List (Option Addr × Nat)} {dep f g : Option Addr × Nat→Int} {t : Option Addr × Nat} {st : List (Option Addr × Nat)}
theorem wtS_congr (h : ∀ r∈R,f r=g r) : wtS R kids f=wtS R kids g:=by
 unfold wtS
 have e : R.map (wtF kids f)=R.map (wtF kids g):=List.map_congr_left fun r hr=>by unfold wtF;rw [h r hr]
 rw [e]
theorem wtS_unseen (H : DRows R kids dep) (ht : t∈R) (h0 : f t=0) : wtS R kids (updF f t (-1))+(kids t).length+1=wtS R kids f:=by
 have h:=wtS_upd (t:=t) kids f (-1) R H.one ht
 have h1 : wtF kids f t=(kids t).length+2:=by unfold wtF;rw [if_pos h0]
 have h2 : wtF kids (updF f t (-1)) t=1:=by unfold wtF updF;rw [if_pos rfl];rfl
 omega
theorem wtS_begun (H : DRows R kids dep) (ht : t∈R) (h0 : f t=-1) : wtS R kids (updF f t (dep t))+1=wtS R kids f:=by
 have h:=wtS_upd (t:=t) kids f (dep t) R H.one ht
 have hp:=H.pos ht
 have h1 : wtF kids f t=1:=by unfold wtF;rw [if_neg (by rw [h0];decide),if_pos h0]
 have h2 : wtF kids (updF f t (dep t)) t=0:=by unfold wtF updF;rw [if_pos rfl,if_neg (by omega),if_neg (by omega)]
 omega
end
def key3 (e : Option Addr × Nat × Nat) : Option Addr × Nat:=if e.2.1=0 then (none,0) else (e.1,e.2.1)
theorem key3_und (k : Int) (a : Option Addr) (n c : Nat) : key3 (undV k a n c)=keyX k a n:=by
 unfold key3 undV keyX
 split <;> simp
theorem DMap.start {W : World} {m : Nat} (hm : W.heap[m]?=some (.map #[] 0)) : DMap W m (fun _=>0):=⟨_,_,hm,⟨fun e he=>by simp at he,fun k hk=>absurd rfl hk,by simp⟩⟩
theorem KBlk.nil (W : World) : KBlk W (none,0):=fun a h=>by cases h
end Go.Proofs.Ytefcbgnckgapgaa
namespace Go.Proofs.Ytefcbgnckgapgaa
open Go.RowKit Go.Lib Go.Op
theorem PEx.ind {p : PEx→Prop} (h : ∀ k v x f ks,(∀ y∈ks,p y)→p (.mk k v x f ks)) : ∀ x,p x
 | .mk k v x f ks=>h k v x f ks (fun y _=>PEx.ind h y)
def deepI : PEx→Int
 | .mk k _ _ _ ks=>if k=7∨k=8 then 1+(ks.map fun y=>deepI y).foldr max 0 else 1
def deepIs (l : List PEx) : Int:=(l.map deepI).foldr max 0
theorem deepI_mk (k : Int) (v : PVal) (a b : List UInt8) (ks : List PEx) : deepI (.mk k v a b ks)=if k=7∨k=8 then 1+deepIs ks else 1:=by rw [deepI];rfl
theorem deepIs_nil : deepIs []=0:=rfl
theorem deepIs_cons (x : PEx) (r : List PEx) : deepIs (x :: r)=max (deepI x) (deepIs r):=rfl
def sizeI : PEx→Nat
 | .mk _ _ _ _ ks=>1+(ks.map fun y=>sizeI y).sum
def sizeIs (l : List PEx) : Nat:=(l.map sizeI).sum
theorem sizeI_mk (k : Int) (v : PVal) (a b : List UInt8) (ks : List PEx) : sizeI (.mk k v a b ks)=1+sizeIs ks:=by rw [sizeI];rfl
theorem sizeIs_nil : sizeIs []=0:=rfl
theorem sizeIs_cons (x : PEx) (r : List PEx) : sizeIs (x :: r)=sizeI x+sizeIs r:=rfl
theorem sizeI_pos (x : PEx) : 0 < sizeI x:=by
 obtain ⟨k,v,a,b,ks⟩:=x
 rw [sizeI_mk]
 omega
theorem sizeIs_len : ∀ l : List PEx,l.length≤sizeIs l
 | []=>Nat.zero_le _
 | x :: r=>by
   have:=sizeIs_len r
   have:=sizeI_pos x
   rw [sizeIs_cons,List.length_cons]
   omega
theorem sizeIs_mem {x : PEx} : ∀ {l : List PEx},x∈l→sizeI x≤sizeIs l
 | [],h=>by simp at h
 | y :: r,h=>by
   rw [sizeIs_cons]
   rcases List.mem_cons.1 h with rfl|h
   ·omega
   ·have:=sizeIs_mem h
    omega
theorem deepIs_le {l : List PEx} (h : ∀ y∈l,deepI y≤sizeI y) : deepIs l≤sizeIs l:=by
 induction l with
 | nil=>rw [deepIs_nil,sizeIs_nil];decide
 | cons x r ih =>
   have h1:=h x List.mem_cons_self
   have h2:=ih (fun y hy=>h y (List.mem_cons_of_mem _ hy))
   rw [deepIs_cons,sizeIs_cons]
   omega
theorem deepI_size : ∀ x : PEx,deepI x≤sizeI x:=PEx.ind fun k v x f ks ih=>by
 have h:=deepIs_le ih
 rw [deepI_mk,sizeI_mk]
 split <;> omega
theorem deepIs_size (l : List PEx) : deepIs l≤sizeIs l:=deepIs_le fun y _=>deepI_size y
def kidK (w : World) (r : Option Addr × Nat) (j : Nat) : Option Addr × Nat :=
 match r.1 with
 | none=>(none,0)
 | some a=>match w.cell? ⟨a.block,a.off+j*7,none⟩,w.cell? ⟨a.block,a.off+j*7+6,none⟩ with
   | some (.int _ k),some (.slice b n _)=>keyX k b n
   | _,_=>(none,0)
def kidsF (w : World) (r : Option Addr × Nat) : List (Option Addr × Nat):=(List.range r.2).map (kidK w r)
def depN (w : World) : Nat→Option Addr × Nat→Int
 | 0,_=>1
 | m+1,r=>if r=(none,0) then 1 else 1+mostF (depN w m) (kidsF w r)
theorem kidsF_len (w : World) (r : Option Addr × Nat) : (kidsF w r).length=r.2:=by
 unfold kidsF
 rw [List.length_map,List.length_range]
theorem kidsF_nil (w : World) : kidsF w (none,0)=[]:=rfl
theorem kidsF_at {w : World} {r : Option Addr × Nat} {j : Nat} (h : j < r.2) : (kidsF w r)[j]?=some (kidK w r j):=by
 unfold kidsF
 rw [List.getElem?_map,List.getElem?_range h]
 rfl
theorem depN_nil (w : World) (m : Nat) : depN w m (none,0)=1:=by
 cases m with
 | zero=>rfl
 | succ m=>rw [depN,if_pos rfl]
structure KSet (w : World) (N d : Nat) (L : List (Option Addr × Nat)) : Prop where
 kid : ∀ s∈L,∀ c∈kidsF w s,c∈L
 row : ∀ s∈L,s≠(none,0)→s.2≤N∧0 < s.2∧∃ l : List PEx,s.2=l.length∧KidsAt w s.1 l (kidsF w s)∧KBlk w s
 st : ∀ s∈L,∃ v : Int,v≤(N : Int)+1∧∀ m,d≤m→depN w m s=v
theorem KSet.nil (w : World) (N d : Nat) : KSet w N d [(none,0)]:=⟨fun s hs c hc=>by
 rw [List.mem_singleton.1 hs,kidsF_nil] at hc
 simp at hc,fun s hs hn=>absurd (List.mem_singleton.1 hs) hn,fun s hs=>⟨1,by omega,fun m _=>by rw [List.mem_singleton.1 hs,depN_nil]⟩⟩
theorem KSet.app {w : World} {N d : Nat} {L M : List (Option Addr × Nat)} (h : KSet w N d L) (g : KSet w N d M) : KSet w N d (L++M):=⟨fun s hs c hc=>by
 rcases List.mem_append.1 hs with hs|hs
 ·exact List.mem_append_left _ (h.kid s hs c hc)
 ·exact List.mem_append_right _ (g.kid s hs c hc),fun s hs=>by
 rcases List.mem_append.1 hs with hs|hs
 ·exact h.row s hs
 ·exact g.row s hs,fun s hs=>by
 rcases List.mem_append.1 hs with hs|hs
 ·exact h.st s hs
 ·exact g.st s hs⟩
theorem KSet.empty (w : World) (N d : Nat) : KSet w N d []:=⟨fun s hs=>by simp at hs,fun s hs=>by simp at hs,fun s hs=>by simp at hs⟩
theorem KSet.le {w : World} {N N' d d' : Nat} {L : List (Option Addr × Nat)} (h : KSet w N d L) (hn : N≤N') (hd : d≤d') : KSet w N' d' L:=⟨h.kid,fun s hs h0=>by
 obtain ⟨h1,h2⟩:=h.row s hs h0
 exact ⟨Nat.le_trans h1 hn,h2⟩,fun s hs=>by
 obtain ⟨v,hb,hv⟩:=h.st s hs
 exact ⟨v,by omega,fun m hm=>hv m (Nat.le_trans hd hm)⟩⟩
theorem ExK.addr {K : Nat→Prop} {w : World} {d : Nat} {a : Option Addr} {n c : Nat} {ks : List PEx} (h : ExK K w d (.slice a n c) ks) : n=ks.length∧(ks.length≠0→∃ g o,a=some ⟨g,o,none⟩∧(K 0→UBlk w g)):=by
 cases d with
 | zero =>
   obtain ⟨⟨a',c',e⟩,rfl⟩:=h
   injection e with e1 e2 e3
   exact ⟨e2,fun h=>absurd rfl h⟩
 | succ d =>
   obtain ⟨a',c',e,h⟩:=h
   injection e with e1 e2 e3
   subst e1
   refine ⟨e2,fun hn=>?_⟩
   obtain ⟨x,hx⟩ : ∃ x,ks[0]?=some x:=⟨_,List.getElem?_eq_getElem (by omega)⟩
   obtain ⟨g,o,kv',ea,hg,_,_⟩:=h 0 x hx
   exact ⟨g,o,ea,hg.2⟩
theorem keyX_of {w : World} {k : Int} {a : Option Addr} {n : Nat} (h : n≠0→∃ g o,a=some ⟨g,o,none⟩∧UBlk w g) : KBlk w (keyX k a n):=by
 unfold keyX
 split
 ·split
  ·exact KBlk.nil w
  ·rename_i hn
   obtain ⟨g,o,rfl,hu⟩:=h hn
   intro x hx
   obtain rfl:=Option.some.inj hx
   exact hu
 ·exact KBlk.nil w
theorem kset_all {w : World} {N d : Nat} {ks : List PEx} {f : Nat→Option Addr × Nat} : ∀ (l : List PEx) (i : Nat),(∀ j x,l[j]?=some x→∃ L,f (i+j)∈L∧L.length≤sizeI x∧KSet w N d L) →
 ∃ L,(∀ j,j < l.length→f (i+j)∈L)∧L.length≤sizeIs l∧KSet w N d L
 | [],i,_=>⟨[],fun j hj=>by simp at hj,Nat.le_refl _,KSet.empty w N d⟩
 | x :: r,i,h=>by
   obtain ⟨L,h1,h2,h3⟩:=h 0 x rfl
   obtain ⟨M,h4,h5,h6⟩:=kset_all (ks:=ks) r (i+1) (fun j y hj=>by
    have:=h (j+1) y (by simpa using hj)
    rwa [show i+(j+1)=i+1+j by omega] at this)
   refine ⟨L++M,fun j hj=>?_,by rw [List.length_append,sizeIs_cons];omega,h3.app h6⟩
   cases j with
   | zero=>exact List.mem_append_left _ h1
   | succ j =>
     have:=h4 j (by simpa using hj)
     rw [show i+1+j=i+(j+1) by omega] at this
     exact List.mem_append_right _ this
theorem mostF_eq {f : Option Addr × Nat→Int} : ∀ {ks : List (Option Addr × Nat)} {l : List PEx},ks.length=l.length→(∀ (j : Nat) (x : PEx) (c : Option Addr × Nat),l[j]?=some x→ks[j]?=some c→f c=deepI x)→mostF f ks=deepIs l:=fun {ks l}=>by
 have key : ∀ (ks : List (Option Addr × Nat)) (l : List PEx) (m : Int),0≤m→ks.length=l.length→(∀ (j : Nat) (x : PEx) (c : Option Addr × Nat),l[j]?=some x→ks[j]?=some c→f c=deepI x)→ks.foldl (fun m k=>max m (f k)) m=max m (deepIs l):=fun ks=>by
  induction ks with
  | nil =>
    intro l m hm hl _
    cases l with
    | nil=>rw [deepIs_nil];show m=max m 0;omega
    | cons x r=>simp at hl
  | cons k ks ih =>
    intro l m hm hl h
    cases l with
    | nil=>simp at hl
    | cons x r =>
      have h0:=h 0 x k rfl rfl
      rw [List.foldl_cons,ih r _ (by omega) (by simpa using hl) (fun j y c h1 h2=>h (j+1) y c (by simpa using h1) (by simpa using h2)),deepIs_cons,h0]
      omega
 intro hl h
 have h2:=key ks l 0 (Int.le_refl _) hl h
 have h3 : 0≤deepIs l:=by
  cases l with
  | nil=>rw [deepIs_nil];decide
  | cons x r =>
    have : ∀ l : List PEx,0≤deepIs l:=fun l=>by
     induction l with
     | nil=>rw [deepIs_nil];decide
     | cons x r ih=>rw [deepIs_cons];omega
    exact this _
 rw [mostF,h2]
 omega
theorem kset_of {K : Nat→Prop} {w : World} (hK : K 0) : ∀ (d : Nat) (x : PEx) (a : Option Addr) (c : Nat),ExK K w d (.slice a x.ks.length c) x.ks →
 ∃ L,keyX x.k a x.ks.length∈L∧L.length≤sizeI x∧KSet w (sizeI x) d L∧∀ m,d≤m→depN w m (keyX x.k a x.ks.length)=deepI x
 | d,.mk k v b f ks,a,c,h=>by
   have h' : ExK K w d (.slice a ks.length c) ks:=h
   show ∃ L,keyX k a ks.length∈L∧L.length≤sizeI (.mk k v b f ks)∧KSet w (sizeI (.mk k v b f ks)) d L∧∀ m,d≤m→depN w m (keyX k a ks.length)=deepI (.mk k v b f ks)
   have hsz : sizeI (.mk k v b f ks)=1+sizeIs ks:=sizeI_mk _ _ _ _ _
   have hdp : deepI (.mk k v b f ks)=if k=7∨k=8 then 1+deepIs ks else 1:=deepI_mk _ _ _ _ _
   rw [hsz,hdp]
   by_cases hk : k=7∨k=8
   ·rw [if_pos hk]
    by_cases hn : ks.length=0
    ·have hks : ks=[]:=List.eq_nil_of_length_eq_zero hn
     rw [show keyX k a ks.length=(none,0) by unfold keyX;rw [if_pos hk,if_pos hn]]
     exact ⟨[(none,0)],List.mem_singleton.2 rfl,by simp,KSet.nil _ _ _,fun m _=>by rw [depN_nil,hks,deepIs_nil];rfl⟩
    ·cases d with
     | zero =>
       obtain ⟨_,h0⟩:=h'
       rw [h0] at hn
       exact absurd rfl hn
     | succ d =>
       obtain ⟨_,ha⟩:=h'.addr
       obtain ⟨g,o,rfl,hu⟩:=ha hn
       have hu:=hu hK
       rw [show keyX k (some ⟨g,o,none⟩) ks.length=(some ⟨g,o,none⟩,ks.length) by unfold keyX;rw [if_pos hk,if_neg hn]]
       obtain ⟨a',c',e,h2⟩:=h'
       injection e with e1 e2 e3
       subst e1
       have hne : (some (⟨g,o,none⟩ : Addr),ks.length)≠(none,0):=fun e=>by simp at e
       have hkid : ∀ j x,ks[j]?=some x→∃ a2 c2,(w.cell? ⟨g,o+j*7,none⟩=some (.int .i64 x.k)∧w.cell? ⟨g,o+j*7+1,none⟩=some (.int .i64 x.v.k)∧w.cell? ⟨g,o+j*7+2,none⟩=some (.int .i64 x.v.n)∧w.cell? ⟨g,o+j*7+3,none⟩=some (.string (strB x.v.s))∧w.cell? ⟨g,o+j*7+4,none⟩=some (.string (strB x.x))∧w.cell? ⟨g,o+j*7+5,none⟩=some (.string (strB x.f))∧w.cell? ⟨g,o+j*7+6,none⟩=some (.slice a2 x.ks.length c2))∧ExK K w d (.slice a2 x.ks.length c2) x.ks∧kidK w (some ⟨g,o,none⟩,ks.length) j=keyX x.k a2 x.ks.length:=fun j x hx=>by
        obtain ⟨g',o',kv',ea,_,hc,hk'⟩:=h2 j x hx
        have ea:=Option.some.inj ea
        injection ea with e4 e5
        subst e4 e5
        obtain ⟨a2,c2,rfl⟩:=hk'.slice
        refine ⟨a2,c2,hc,hk',?_⟩
        unfold kidK
        dsimp only
        rw [hc.1,hc.2.2.2.2.2.2]
       obtain ⟨L,h3,h4,h5⟩:=kset_all (w:=w) (N:=sizeIs ks) (d:=d) (ks:=ks) (f:=kidK w (some ⟨g,o,none⟩,ks.length)) ks 0 (fun j x hj=>by
        obtain ⟨a2,c2,_,h6,h7⟩:=hkid j x hj
        obtain ⟨L,h8,h9,h10,_⟩:=kset_of hK d x a2 c2 h6
        rw [Nat.zero_add,h7]
        exact ⟨L,h8,h9,h10.le (sizeIs_mem (List.mem_of_getElem? hj)) (Nat.le_refl _)⟩)
       have hdep : ∀ m,d≤m→mostF (depN w m) (kidsF w (some ⟨g,o,none⟩,ks.length))=deepIs ks:=fun m hm=>mostF_eq (by rw [kidsF_len]) (fun j x c hx hc=>by
        obtain ⟨a2,c2,_,h6,h7⟩:=hkid j x hx
        rw [kidsF_at (List.getElem?_eq_some_iff.1 hx).1,h7] at hc
        rw [← Option.some.inj hc]
        obtain ⟨_,_,_,_,h8⟩:=kset_of hK d x a2 c2 h6
        exact h8 m hm)
       have hd : ∀ m,d+1≤m→depN w m (some ⟨g,o,none⟩,ks.length)=1+deepIs ks:=fun m hm=>by
        obtain ⟨m,rfl⟩ : ∃ m',m=m'+1:=⟨m - 1,by omega⟩
        rw [depN,if_neg hne,hdep m (by omega)]
       refine ⟨(some ⟨g,o,none⟩,ks.length) :: L,List.mem_cons_self,by rw [List.length_cons];omega,⟨fun s hs c hc=>?_,fun s hs h0=>?_,fun s hs=>?_⟩,hd⟩
       ·rcases List.mem_cons.1 hs with rfl|hs
        ·obtain ⟨j,hj⟩:=List.getElem?_of_mem hc
         have hjl : j < ks.length:=by
          have:=(List.getElem?_eq_some_iff.1 hj).1
          rwa [kidsF_len] at this
         rw [kidsF_at hjl] at hj
         rw [← Option.some.inj hj]
         have:=h3 j hjl
         rw [Nat.zero_add] at this
         exact List.mem_cons_of_mem _ this
        ·exact List.mem_cons_of_mem _ (h5.kid s hs c hc)
       ·rcases List.mem_cons.1 hs with rfl|hs
        ·refine ⟨?_,Nat.pos_of_ne_zero hn,ks,rfl,⟨kidsF_len _ _,fun j x hx=>?_⟩,fun y hy=>?_⟩
         ·have:=sizeIs_len ks
          show ks.length≤_
          omega
         ·obtain ⟨a2,c2,hc,h6,h7⟩:=hkid j x hx
          obtain ⟨_,h8⟩:=h6.addr
          refine ⟨g,o,a2,c2,rfl,hc,fun hn=>?_,keyX_of fun hn=>?_,?_⟩
          ·obtain ⟨g',o',e,_⟩:=h8 hn
           exact ⟨g',o',e⟩
          ·obtain ⟨g',o',e,hu'⟩:=h8 hn
           exact ⟨g',o',e,hu' hK⟩
          ·rw [kidsF_at (List.getElem?_eq_some_iff.1 hx).1,h7]
         ·obtain rfl:=Option.some.inj hy
          exact hu
        ·have:=(h5.le (Nat.le_succ _) (Nat.le_refl _)).row s hs h0
         rw [Nat.add_comm 1]
         exact this
       ·rcases List.mem_cons.1 hs with rfl|hs
        ·exact ⟨_,by have:=deepIs_size ks;omega,hd⟩
        ·exact (h5.le (Nat.le_add_left _ _) (Nat.le_succ _)).st s hs
   ·rw [if_neg hk]
    rw [show keyX k a ks.length=(none,0) by unfold keyX;rw [if_neg hk]]
    exact ⟨[(none,0)],List.mem_singleton.2 rfl,by simp,KSet.nil _ _ _,fun m _=>depN_nil w m⟩
 termination_by d=>d
theorem nodup_of {α : Type} [DecidableEq α] : ∀ (l : List α),∃ m : List α,m.Nodup∧m.length≤l.length∧∀ x,x∈m ↔ x∈l
 | []=>⟨[],List.nodup_nil,Nat.le_refl _,fun x=>Iff.rfl⟩
 | a :: l=>by
   obtain ⟨m,h1,h2,h3⟩:=nodup_of l
   by_cases h : a∈m
   ·exact ⟨m,h1,Nat.le_succ_of_le h2,fun x=>by
     rw [h3,List.mem_cons]
     exact ⟨Or.inr,fun h4=>h4.elim (fun e=>e ▸ (h3 a).1 h) id⟩⟩
   ·exact ⟨a :: m,List.nodup_cons.2 ⟨h,h1⟩,Nat.succ_le_succ h2,fun x=>by rw [List.mem_cons,List.mem_cons,h3]⟩
theorem wtS_bound {kids : Option Addr × Nat→List (Option Addr × Nat)} {f : Option Addr × Nat→Int} {N : Nat} : ∀ {R : List (Option Addr × Nat)},(∀ r∈R,(kids r).length≤N)→wtS R kids f≤R.length*(N+2)
 | [],_=>by simp [wtS]
 | r :: R,h=>by
   have ih:=wtS_bound (f:=f) (fun r hr=>h r (List.mem_cons_of_mem _ hr))
   have h1:=h r List.mem_cons_self
   have h2 : wtF kids f r≤N+2:=by unfold wtF;split;omega;split <;> omega
   unfold wtS at ih ⊢
   rw [List.map_cons,List.sum_cons,List.length_cons,Nat.succ_mul]
   omega
theorem rows_of {K : Nat→Prop} {w : World} (hK : K 0) {d : Nat} {x : PEx} {a : Option Addr} {c : Nat} (h : ExK K w d (.slice a x.ks.length c) x.ks) (hs : sizeI x≤10000) :
 ∃ R dep,DRows R (kidsF w) dep∧keyX x.k a x.ks.length∈R∧dep (keyX x.k a x.ks.length)=deepI x∧(∀ s∈R,s≠(none,0)→0 < s.2∧∃ l : List PEx,s.2=l.length∧l.length≤10000∧KidsAt w s.1 l (kidsF w s)∧KBlk w s)∧(∀ s∈R,dep s≤10001)∧∀ f,wtS R (kidsF w) f≤200000000:=by
 obtain ⟨L,h1,h2,h3,h4⟩:=kset_of hK d x a c h
 obtain ⟨R,g1,g2,g3⟩:=nodup_of L
 refine ⟨R,depN w d,⟨g1,fun r hr s hs=>(g3 s).2 (h3.kid r ((g3 r).1 hr) s hs),depN_nil w d,fun r hr hn=>?_⟩,(g3 _).2 h1,h4 d (Nat.le_refl _),fun s hs0 hn=>?_,fun s hs=>?_,fun f=>?_⟩
 ·obtain ⟨v,_,hv⟩:=h3.st r ((g3 r).1 hr)
  rw [hv d (Nat.le_refl _),← hv (d+1) (Nat.le_succ _),depN,if_neg hn]
 ·obtain ⟨h5,h6,l,h7,h8,h9⟩:=h3.row s ((g3 s).1 hs0) hn
  exact ⟨h6,l,h7,by omega,h8,h9⟩
 ·obtain ⟨v,hb,hv⟩:=h3.st s ((g3 s).1 hs)
  rw [hv d (Nat.le_refl _)]
  omega
 ·have h5 : ∀ r∈R,(kidsF w r).length≤10000:=fun r hr=>by
   rw [kidsF_len]
   by_cases hn : r=(none,0)
   ·rw [hn];exact Nat.zero_le _
   ·have:=(h3.row r ((g3 r).1 hr) hn).1
    omega
  have h6:=wtS_bound (f:=f) h5
  have h7 : R.length*(10000+2)≤10000*(10000+2):=Nat.mul_le_mul_right _ (by omega)
  omega
end Go.Proofs.Ytefcbgnckgapgaa
namespace Go.Proofs.Ytefcbgnckgapgaa
open Go.RowKit Go.Lib Go.Op
def gX : PEx→Int→Int
 | .mk _ v x f ks,m=>ks.foldl (fun n y=>if n < m then n+gX y (m - n) else n) (1+min (x.length : Int) 3000+min (f.length : Int) 3000+min (v.s.length : Int) 3000)
def gXs (l : List PEx) (n m : Int) : Int:=l.foldl (fun n y=>if n < m then n+gX y (m - n) else n) n
theorem gX_mk (k : Int) (v : PVal) (x f : List UInt8) (ks : List PEx) (m : Int) : gX (.mk k v x f ks) m=gXs ks (1+min (x.length : Int) 3000+min (f.length : Int) 3000+min (v.s.length : Int) 3000) m:=by
 rw [gX]
 rfl
theorem gXs_nil (n m : Int) : gXs [] n m=n:=rfl
theorem gXs_cons (y : PEx) (r : List PEx) {n m : Int} (h : n < m) : gXs (y :: r) n m=gXs r (n+gX y (m - n)) m:=by
 unfold gXs
 rw [List.foldl_cons,if_pos h]
theorem gXs_big {l : List PEx} {n m : Int} (h : ¬ n < m) : gXs l n m=n:=by
 induction l with
 | nil=>rfl
 | cons y r ih =>
   unfold gXs at ih ⊢
   rw [List.foldl_cons,if_neg h]
   exact ih
theorem gXs_le {l : List PEx} (hl : ∀ y∈l,∀ m,1≤gX y m∧gX y m≤max m 0+9001) : ∀ (n m : Int),0≤n→n≤max m 0+9001→n≤gXs l n m∧gXs l n m≤max m 0+9001:=by
 induction l with
 | nil=>exact fun n m h1 h2=>by rw [gXs_nil];omega
 | cons y r ih =>
   intro n m h1 h2
   by_cases h : n < m
   ·rw [gXs_cons _ _ h]
    have h3:=hl y List.mem_cons_self (m - n)
    have h4:=ih (fun z hz=>hl z (List.mem_cons_of_mem _ hz)) (n+gX y (m - n)) m (by omega) (by omega)
    omega
   ·rw [gXs_big h]
    omega
theorem gX_le : ∀ (x : PEx) (m : Int),1≤gX x m∧gX x m≤max m 0+9001:=PEx.ind fun k v x f ks ih m=>by
 have h:=gXs_le ih (1+min (x.length : Int) 3000+min (f.length : Int) 3000+min (v.s.length : Int) 3000) m (by omega) (by omega)
 rw [gX_mk]
 omega
theorem gXs_small {l : List PEx} (hl : ∀ y∈l,∀ m,m≤3000→gX y m < m→(sizeI y : Int)≤gX y m∧XBd y) : ∀ (n m : Int),0≤n→m≤3000→gXs l n m < m→n+(sizeIs l : Int)≤gXs l n m∧∀ y∈l,XBd y:=by
 induction l with
 | nil =>
   intro n m _ _ h
   rw [gXs_nil,sizeIs_nil]
   exact ⟨by omega,fun y hy=>by cases hy⟩
 | cons y r ih =>
   intro n m h0 hm h
   by_cases hn : n < m
   ·rw [gXs_cons _ _ hn] at h ⊢
    have h3:=gX_le y (m - n)
    have h4:=gXs_le (l:=r) (fun z _=>gX_le z) (n+gX y (m - n)) m (by omega) (by omega)
    have h1:=ih (fun z hz=>hl z (List.mem_cons_of_mem _ hz)) (n+gX y (m - n)) m (by omega) hm h
    have h2:=hl y List.mem_cons_self (m - n) (by omega) (by omega)
    rw [sizeIs_cons]
    refine ⟨by omega,fun z hz=>?_⟩
    rcases List.mem_cons.1 hz with rfl|hz
    ·exact h2.2
    ·exact h1.2 z hz
   ·rw [gXs_big hn] at h
    exact absurd h hn
theorem gX_small : ∀ (x : PEx) (m : Int),m≤3000→gX x m < m→(sizeI x : Int)≤gX x m∧XBd x:=PEx.ind fun k v x f ks ih m hm h=>by
 rw [gX_mk] at h ⊢
 have h1:=gXs_le (l:=ks) (fun z _=>gX_le z) (1+min (x.length : Int) 3000+min (f.length : Int) 3000+min (v.s.length : Int) 3000) m (by omega) (by omega)
 have h2:=gXs_small ih (1+min (x.length : Int) 3000+min (f.length : Int) 3000+min (v.s.length : Int) 3000) m (by omega) hm h
 rw [sizeI_mk]
 exact ⟨by omega,.mk _ _ _ _ _ (by omega) (by omega) (by omega) h2.2⟩
set_option maxHeartbeats 2000000 in
set_option maxRecDepth 100000 in
theorem greatX_step {w : World} {a : Option Addr} {c : Nat} {k m : Int} {v : PVal} {xx f : List UInt8} {ks : List PEx} (lv : v.s.length≤maxLen) (lx : xx.length≤maxLen) (lf : f.length≤maxLen) (lk : ks.length≤maxLen) (hm : -20000≤m∧m≤20000)
 (hk : ∀ j y,ks[j]?=some y→∃ g o a' c',a=some ⟨g,o,none⟩∧(w.cell? ⟨g,o+j*7,none⟩=some (.int .i64 y.k)∧w.cell? ⟨g,o+j*7+1,none⟩=some (.int .i64 y.v.k)∧w.cell? ⟨g,o+j*7+2,none⟩=some (.int .i64 y.v.n)∧w.cell? ⟨g,o+j*7+3,none⟩=some (.string (strB y.v.s))∧w.cell? ⟨g,o+j*7+4,none⟩=some (.string (strB y.x))∧w.cell? ⟨g,o+j*7+5,none⟩=some (.string (strB y.f))∧w.cell? ⟨g,o+j*7+6,none⟩=some (.slice a' y.ks.length c')) ∧
   ∀ W m',Below w.heap.size w W→-20000≤m'∧m'≤20000→Calls Try.prog 21 #[exV y (.slice a' y.ks.length c'),.int .i64 m'] W fun e w'=>e=.returned (.int .i64 (gX y m'))∧Below W.heap.size W w') :
 Calls Try.prog 21 #[.agg #[.int .i64 k,.int .i64 v.k,.int .i64 v.n,.string (strB v.s),.string (strB xx),.string (strB f),.slice a ks.length c],.int .i64 m] w fun e w'=>e=.returned (.int .i64 (gX (.mk k v xx f ks) m))∧Below w.heap.size w w':=by
 have hz0 : gX (.mk k v xx f ks) m=gXs ks (1+min (xx.length : Int) 3000+min (f.length : Int) 3000+min (v.s.length : Int) 3000) m:=gX_mk _ _ _ _ _ _
 obtain ⟨z,hz⟩ : ∃ z,gX (.mk k v xx f ks) m=z:=⟨_,rfl⟩
 rw [hz]
 rw [hz] at hz0
 have hzb:=gX_le (.mk k v xx f ks) m
 rw [hz] at hzb
 have HK:=hid hk
 obtain ⟨sx,hsx⟩ : ∃ s,strB xx=s:=⟨_,rfl⟩
 obtain ⟨sf,hsf⟩ : ∃ s,strB f=s:=⟨_,rfl⟩
 obtain ⟨ss,hss⟩ : ∃ s,strB v.s=s:=⟨_,rfl⟩
 have l1 : sx.size=xx.length:=by rw [← hsx,strB_size]
 have l2 : sf.size=f.length:=by rw [← hsf,strB_size]
 have l3 : ss.size=v.s.length:=by rw [← hss,strB_size]
 rw [← l1] at lx hz0
 rw [← l2] at lf hz0
 rw [← l3] at lv hz0
 rw [hsx,hsf,hss]
 obtain ⟨q,hq⟩ : ∃ q,ks.length=q:=⟨_,rfl⟩
 rw [hq] at lk ⊢
 have HQ:=hid hq
 have HZ:=hid hz0
 have HB0:=hid ((Below.refl w.heap.size w).alloc (Nat.le_refl _) (.cells #[.int .i64 k,.int .i64 v.k,.int .i64 v.n,.string ss,.string sx,.string sf,.slice a q c] 50))
 have HX:=hid (XBlk.new w (.int .i64 k) (.int .i64 v.k) (.int .i64 v.n) (.string ss) (.string sx) (.string sf) (.slice a q c))
 unfold maxLen at lv lx lf lk
 clear hk hz hz0 hq hsx hsf hss l1 l2 l3
 go_enter Try.func21,Try.ntmps21
 go_wp2
 go_loopw [5,6] (fun n i wr=>∃ (j : Nat) (N : Int),n=.int .i64 N∧i=.int .i64 j∧j≤q∧(0≤N∧N≤30000)∧Hid (gXs (ks.drop j) N m=z)∧Hid (Below (w.heap.size+1) (w.alloc (.cells #[.int .i64 k,.int .i64 v.k,.int .i64 v.n,.string ss,.string sx,.string sf,.slice a q c] 50)) wr)) (fun _ i _=>q - (RowKit.intOf i).toNat)
 case atStart=>exact ⟨0,_,rfl,rfl,Nat.zero_le _,⟨by omega,by omega⟩,HZ.out.symm,Below.refl _ _⟩
 case round =>
  obtain ⟨j,N,rfl,rfl,hj,hN,HG,HB⟩:=hrel
  have hx:=(HB.out.block w.heap.size (Nat.lt_succ_self _)).trans HX.out
  obtain ⟨_,_,_,_,_,_,x6,_,_,_,_,_,_,_⟩:=XBlk.all hx
  have HBw:=hid (HB0.out.trans (HB.out.mono (Nat.le_succ _)))
  have hsz : w.heap.size+1≤wr.heap.size:=by
   have:=HB.out.size
   simpa using this
  by_cases hlt : j < q
  ·by_cases hm2 : N < m
   ·obtain ⟨y,hy⟩ : ∃ y,ks[j]?=some y:=⟨_,List.getElem?_eq_getElem (by rw [HQ.out];exact hlt)⟩
    obtain ⟨g,o,a',c',rfl,⟨e0,e1,e2,e3,e4,e5,e6⟩,hcall⟩:=HK.out j y hy
    have d0:=tkeep HBw.out e0
    have d1:=tkeep HBw.out e1
    have d2:=tkeep HBw.out e2
    have d3:=tkeep HBw.out e3
    have d4:=tkeep HBw.out e4
    have d5:=tkeep HBw.out e5
    have d6:=tkeep HBw.out e6
    obtain ⟨n2,hn2⟩ : ∃ n2,y.ks.length=n2:=⟨_,rfl⟩
    rw [hn2] at d6 hcall
    have hgl:=gX_le y (m - N)
    obtain ⟨G,hG⟩ : ∃ G,gX y (m - N)=G:=⟨_,rfl⟩
    rw [hG] at hgl
    have HC:=hcall wr (m - N) HBw.out (by omega)
    rw [hG] at HC
    simp only [xexV] at HC
    have HC:=hid HC
    have HN : Hid (gXs (ks.drop (j+1)) (N+G) m=z):=by
     show _=_
     have hdr : ks.drop j=y :: ks.drop (j+1):=by
      rw [List.drop_eq_getElem_cons (by rw [HQ.out];exact hlt)]
      congr 1
      rw [List.getElem?_eq_getElem (by rw [HQ.out];exact hlt)] at hy
      exact Option.some.inj hy
     rw [← HG.out,hdr,gXs_cons _ _ hm2,hG]
    have t1 : decide (N < m)=true:=decide_eq_true hm2
    have hN2 : 0≤N+G∧N+G≤30000:=by omega
    clear hy hcall hn2 hG e0 e1 e2 e3 e4 e5 e6 hx
    go_wp2_with (go_at_call 21;(with_reducible refine HC.out.mono ?_);rintro e w1 ⟨rfl,hb1⟩;have HB1:=hid (HB.out.trans (hb1.mono hsz));clear hb1)
    go_round
    case rel=>exact ⟨j+1,N+G,by go_num,by go_num,by omega,hN2,HN,HB1⟩
    case measure=>simp [RowKit.intOf];omega
   ·have t1 : decide (N < m)=false:=decide_eq_false hm2
    have HE : Hid (N=z):=by
     show _=_
     rw [← HG.out,gXs_big hm2]
    clear hx
    go_wp2
    go_ret
    obtain rfl : N=z:=HE.out
    exact ⟨rfl,HBw.out⟩
  ·have HE : Hid (N=z):=by
    show _=_
    rw [← HG.out,List.drop_of_length_le (by rw [HQ.out];omega),gXs_nil]
   clear hx
   go_wp2
   go_ret
   obtain rfl : N=z:=HE.out
   exact ⟨rfl,HBw.out⟩
theorem greatX_calls {K : Nat→Prop} : ∀ (d : Nat) (x : PEx) (_ : XLn x) (w : World) (a : Option Addr) (c : Nat) (_ : ExK K w d (.slice a x.ks.length c) x.ks) (m : Int) (_ : -20000≤m∧m≤20000),Calls Try.prog 21 #[exV x (.slice a x.ks.length c),.int .i64 m] w fun e w'=>e=.returned (.int .i64 (gX x m))∧Below w.heap.size w w':=fun d=>by
 induction d with
 | zero =>
   intro x hx w a c h m hm
   obtain ⟨k,v,xx,f,ks,lv,lx,lf,lk,_⟩:=hx
   obtain ⟨_,h0⟩:=h
   have h0 : ks=[]:=h0
   exact greatX_step lv lx lf lk hm (fun j y hy=>by
    rw [h0] at hy
    have hy : ([] : List PEx)[j]?=some y:=hy
    simp at hy)
 | succ d ih =>
   intro x hx w a c h m hm
   obtain ⟨k,v,xx,f,ks,lv,lx,lf,lk,hk⟩:=hx
   obtain ⟨a',c',e,h⟩:=h
   injection e with e1 e2 e3
   subst e1 e3
   refine greatX_step lv lx lf lk hm (fun j y hy=>?_)
   obtain ⟨g,o,kv',ea,_,hc,hkk⟩:=h j y hy
   obtain ⟨a2,c2,rfl⟩:=hkk.slice
   exact ⟨g,o,a2,c2,ea,hc,fun W m' hW hm'=>ih y (hk y (List.mem_of_getElem? hy)) W a2 c2 (hkk.keep (TFr.of_below (K:=K) hW)) m' hm'⟩
end Go.Proofs.Ytefcbgnckgapgaa
