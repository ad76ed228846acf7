/- Queries in plain words: expressions, and what the reader of tokens does, call by call. | Queries: what stays; tokens and the reader in memory; words that are kept, names. | Queries: what the reader does with the token that comes. | Queries: what the reader does where something is wrong; tokens of a kind. | Queries: words that are kept. | Queries: numbers; the first of some texts that comes. | Queries: expressions in memory; fields, calls, values. -/
import Derived.Test.YtefcbgnckgapgaaGreatDoorL0x
import Derived.Test.YtefcbgnckgapgaaGreatDoorE0e
import Derived.Test.YtefcbgnckgapgaaGreatDoorL1x
import Derived.Test.YtefcbgnckgapgaaGreatDoorE1e
import Derived.Lib.Hide
namespace Go.Proofs.YtefcbgnckgapgaaGreatDoor
open Go.Lib
inductive PEx where
 | mk (k : Int) (v : PVal) (x f : List UInt8) (ks : List PEx)
namespace PEx
def k : PEx→Int|.mk k _ _ _ _=>k
def v : PEx→PVal|.mk _ v _ _ _=>v
def x : PEx→List UInt8|.mk _ _ x _ _=>x
def f : PEx→List UInt8|.mk _ _ _ f _=>f
def ks : PEx→List PEx|.mk _ _ _ _ ks=>ks
end PEx
def noV : PVal:=⟨0,0,[]⟩
def noX : PEx:=.mk 0 noV [] [] []
structure PIt where
 no : Bool
 ns : List (List UInt8)
 x : List UInt8
 mode : Int
structure PPr where
 l : PEx
 cmp : Int
 r : PEx
structure PQu where
 its : List PIt
 prs : List PPr
 within : Int
 by_ : List UInt8
 pick : Int
def noQ : PQu:=⟨[],[],0,[],0⟩
structure RS where
 l : List XTok
 deep : Nat
 wrong : Int
section
variable (E : Nat)
def nextT (s : RS) : XTok:=match s.l with
 | []=>⟨0,[],E⟩
 | t :: _=>t
def isT (s : RS) (k : Nat) (b : List UInt8) : Bool:=decide ((nextT E s).k=k∧(nextT E s).b=b)
def takeT (s : RS) (k : Nat) (b : List UInt8) : Bool × RS:=if isT E s k b then (true,⟨s.l.tail,s.deep,s.wrong⟩) else (false,s)
def failT (s : RS) : RS:=⟨[],s.deep,if s.wrong=-1 then ((nextT E s).at_ : Int) else s.wrong⟩
def needT (s : RS) (k : Nat) (b : List UInt8) : RS:=if (takeT E s k b).1 then (takeT E s k b).2 else failT E (takeT E s k b).2
def ofT (s : RS) (k : Nat) : List UInt8 × RS:=if (nextT E s).k=k then ((nextT E s).b,⟨s.l.tail,s.deep,s.wrong⟩) else ([],failT E s)
def numZ (b : List UInt8) : Int:=match parseIntB 64 b with
 | .ok v=>v
 | _=>0
def numberT (s : RS) : Int × RS:=(numZ (ofT E s 2).1,(ofT E s 2).2)
def keysL : List (List UInt8):=[[115,101,113],[116,104,101,110],[110,111,116],[111,114],[119,104,101,114,101],[97,110,100],[119,105,116,104,105,110],[98,121],[112,105,99,107],[97,110,121],[110,101,120,116],[115,116,114,105,99,116],[116,114,117,101],[102,97,108,115,101],[99,111,117,110,116],[115,117,109],[109,105,110],[109,97,120]]
def keyB (b : List UInt8) : Bool:=keysL.contains b
def nameB (b : List UInt8) : Bool:=wordB b && !keyB b
def nameT (s : RS) : List UInt8 × RS:=ofT E (if keyB (nextT E s).b then failT E s else s) 1
def amongT (s : RS) (k : Nat) : Nat→List (List UInt8)→Nat × RS
 | _,[]=>(0,s)
 | n,b :: r=>if isT E s k b then (n,(takeT E s k b).2) else amongT s k (n+1) r
def chooseT (s : RS) (k : Nat) (l : List (List UInt8)) : Nat × RS:=if (amongT E s k 0 l).1=0 then (0,failT E (amongT E s k 0 l).2) else amongT E s k 0 l
def cmpsL : List (List UInt8):=[[],[61],[33,61],[60],[60,61],[62],[62,61],[],[]]
def modesL : List (List UInt8):=[[],[],[43],[63],[],[],[],[],[]]
def picksL : List (List UInt8):=[[],[97,110,121],[110,101,120,116],[115,116,114,105,99,116],[],[],[],[],[]]
def callsL : List (List UInt8):=[[],[],[],[99,111,117,110,116],[115,117,109],[109,105,110],[109,97,120],[],[]]
def sumsL : List (List UInt8):=[[],[],[],[],[],[],[],[43],[45]]
def bTrue : List UInt8:=[116,114,117,101]
def bFalse : List UInt8:=[102,97,108,115,101]
def fieldT (s : RS) (k : Int) : PEx × RS :=
 let a:=nameT E s
 let b:=nameT E (needT E a.2 4 [46])
 (.mk k noV a.1 b.1 [],b.2)
def callT (s : RS) (k : Int) : PEx × RS :=
 let s1:=needT E s 4 [40]
 let a:=if k=3 then (PEx.mk 3 noV (nameT E s1).1 [] [],(nameT E s1).2) else fieldT E s1 k
 (a.1,needT E a.2 4 [41])
def valT (s : RS) : PVal × Bool × RS :=
 if (nextT E s).k=2 then (⟨1,(numberT E s).1,[]⟩,true,(numberT E s).2)
 else if isT E s 4 [45] then
  let s1:=(takeT E s 4 [45]).2
  (⟨1,- (numberT E s1).1,[]⟩,true,(numberT E s1).2)
 else if (nextT E s).k=3 then (⟨2,0,(ofT E s 3).1⟩,true,(ofT E s 3).2)
 else if isT E s 1 bFalse then (⟨3,0,[]⟩,true,(takeT E s 1 bFalse).2)
 else if isT E s 1 bTrue then (⟨3,1,[]⟩,true,(takeT E s 1 bTrue).2)
 else (noV,false,s)
def sumsT (term : RS→PEx × RS) : Nat→PEx→RS→PEx × RS
 | 0,x,s=>(x,s)
 | n+1,x,s =>
   if (amongT E s 4 0 sumsL).1=0 then (x,(amongT E s 4 0 sumsL).2)
   else
    let t:=term (amongT E s 4 0 sumsL).2
    sumsT term n (.mk ((amongT E s 4 0 sumsL).1 : Int) noV [] [] [x,t.1]) t.2
def exprT (term : RS→PEx × RS) (n : Nat) (s : RS) : PEx × RS:=sumsT E term n (term s).1 (term s).2
def innerT (term : RS→PEx × RS) (n : Nat) (s : RS) : PEx × RS :=
 let s1:=needT E (if s.deep=6 then failT E s else s) 4 [40]
 let a:=exprT E term n ⟨s1.l,s1.deep+1,s1.wrong⟩
 (a.1,needT E ⟨a.2.l,a.2.deep - 1,a.2.wrong⟩ 4 [41])
def termT : Nat→RS→PEx × RS
 | 0,s=>(noX,s)
 | n+1,s =>
   if (valT E s).2.1 then (.mk 1 (valT E s).1 [] [] [],(valT E s).2.2)
   else if isT E s 4 [40] then innerT E (termT n) n s
   else if (amongT E s 1 0 callsL).1=0 then fieldT E (amongT E s 1 0 callsL).2 2
   else callT E (amongT E s 1 0 callsL).2 (amongT E s 1 0 callsL).1
def rowT {α : Type} (b : List UInt8) (one : RS→α × RS) : Nat→List α→RS→List α × RS
 | 0,l,s=>(l,s)
 | n+1,l,s =>
   if isT E s 1 b then rowT b one n (l++[(one (takeT E s 1 b).2).1]) (one (takeT E s 1 b).2).2
   else (l,s)
def row1T {α : Type} (b : List UInt8) (one : RS→α × RS) (n : Nat) (s : RS) : List α × RS:=rowT E b one n [(one s).1] (one s).2
def wSeq : List UInt8:=[115,101,113]
def wThen : List UInt8:=[116,104,101,110]
def wNot : List UInt8:=[110,111,116]
def wOr : List UInt8:=[111,114]
def wWhere : List UInt8:=[119,104,101,114,101]
def wAnd : List UInt8:=[97,110,100]
def wWithin : List UInt8:=[119,105,116,104,105,110]
def wBy : List UInt8:=[98,121]
def wPick : List UInt8:=[112,105,99,107]
def itemT (n : Nat) (s : RS) : PIt × RS :=
 let a:=row1T E wOr (nameT E) n (takeT E s 1 wNot).2
 let b:=nameT E a.2
 let c:=amongT E b.2 4 0 modesL
 (⟨(takeT E s 1 wNot).1,a.1,b.1,if c.1=0 then 1 else (c.1 : Int)⟩,c.2)
def predT (n : Nat) (s : RS) : PPr × RS :=
 let a:=exprT E (termT E n) n s
 let c:=chooseT E a.2 4 cmpsL
 let b:=exprT E (termT E n) n c.2
 (⟨a.1,(c.1 : Int),b.1⟩,b.2)
def queryT (n : Nat) (s : RS) : PQu × RS :=
 let a:=row1T E wThen (itemT E n) n (needT E s 1 wSeq)
 let p:=if isT E a.2 1 wWhere then row1T E wAnd (predT E n) n (takeT E a.2 1 wWhere).2 else ([],a.2)
 let c:=numberT E (needT E p.2 1 wWithin)
 let b:=if isT E c.2 1 wBy then nameT E (takeT E c.2 1 wBy).2 else ([],c.2)
 let k:=if isT E b.2 1 wPick then chooseT E (takeT E b.2 1 wPick).2 1 picksL else (1,b.2)
 (⟨a.1,p.1,c.1,b.1,(k.1 : Int)⟩,if k.2.l=[] then k.2 else failT E k.2)
end
def rightX : Nat→PEx→Bool
 | 0,_=>false
 | d+1,.mk k v x f ks =>
   if k=1 then decide (x=[]∧f=[]∧ks.length=0) && (v.s.all (fun c=>decide (32≤c.toNat∧c.toNat≤126∧c.toNat≠39)) && rightB v)
   else if k=3 then decide (v=noV∧f=[]∧ks.length=0) && nameB x
   else if k=2∨k=4∨k=5∨k=6 then decide (v=noV∧ks.length=0) && (nameB x && nameB f)
   else if k=7∨k=8 then decide (v=noV∧x=[]∧f=[]) && (match ks with
    | [a,b]=>rightX d a && rightX d b
    | _=>false)
   else false
def unlikeB (l : List (List UInt8)) : Bool:=l.all nameB && decide l.Nodup
def rightI (i : PIt) : Bool :=
 if i.mode < 1∨3 < i.mode∨(i.no=true∧i.mode≠1) then false else decide (0 < i.ns.length∧i.ns.length≤3) && unlikeB i.ns
def rightIs (l : List PIt) : Bool :=
 match l with
 | []=>false
 | i :: _=>!(decide (6 < l.length) || (i.no || decide (i.mode=3))) && (l.all rightI && unlikeB (l.map (·.x)))
def rightP (p : PPr) : Bool:=decide (1≤p.cmp∧p.cmp≤6) && (rightX 6 p.l && rightX 6 p.r)
def rightQ (q : PQu) : Bool :=
 rightIs q.its && (decide (q.prs.length≤8) && (q.prs.all rightP && (decide (0≤q.within∧q.within≤1099511627776) && ((decide (q.by_=[]) || nameB q.by_) && decide (1≤q.pick∧q.pick≤3)))))
end Go.Proofs.YtefcbgnckgapgaaGreatDoor
namespace Go.Proofs.YtefcbgnckgapgaaGreatDoor
open Go.RowKit Go.Lib Go.Op
theorem tB_list (l : List UInt8) : (strB l).toList=l:=by rw [ByteArray.toList_eq,strB_list]
theorem tbool {a b : Bool} (h : a=b) : Ending.returned (.bool a)=.returned (.bool b):=by rw [h]
structure TFr (K : Nat→Prop) (w w' : World) : Prop where
 os : w'.os=w.os
 tape : w'.tape=w.tape
 output : w'.output=w.output
 size : w.heap.size≤w'.heap.size
 block : ∀ k,k < w.heap.size→¬ K k→w'.heap[k]?=w.heap[k]?
section
variable {K K' : Nat→Prop} {a b c w w' : World}
theorem TFr.refl (K : Nat→Prop) (w : World) : TFr K w w:=⟨rfl,rfl,rfl,Nat.le_refl _,fun _ _ _=>rfl⟩
theorem TFr.trans (h : TFr K a b) (k : TFr K b c) : TFr K a c :=
 ⟨k.os.trans h.os,k.tape.trans h.tape,k.output.trans h.output,Nat.le_trans h.size k.size,fun i hi hn=>(k.block i (Nat.lt_of_lt_of_le hi h.size) hn).trans (h.block i hi hn)⟩
theorem TFr.mono (h : TFr K a b) (hs : ∀ k,k < a.heap.size→K k→K' k) : TFr K' a b:=⟨h.os,h.tape,h.output,h.size,fun i hi hn=>h.block i hi (fun e=>hn (hs i hi e))⟩
theorem TFr.setCell (h : TFr K w w') {p : Addr} (hp : p.block < w.heap.size→K p.block) (v : Value) : TFr K w (w'.setCell p v) :=
 ⟨h.os,h.tape,h.output,by simpa using h.size,fun k hk hn=>(heap_setCell_other w' p k v (fun e=>hn (e ▸ hp (e ▸ hk)))).trans (h.block k hk hn)⟩
theorem TFr.of_below (h : Below w.heap.size w w') : TFr K w w':=⟨h.os,h.tape,h.output,h.size,fun k hk _=>h.block k hk⟩
theorem TFr.of_grown {row : Option Nat} (h : w.grownBy w' row) (hk : ∀ k,row=some k→K k) : TFr K w w':=⟨h.os,h.tape,h.output,h.size,fun k hl hn=>h.block k hl (fun e=>hn (hk k e.symm))⟩
theorem TFr.below (h : TFr K w w') {B : Nat} (hB : B≤w.heap.size) (hk : ∀ k,K k→B≤k) : Below B w w':=⟨h.os,h.tape,h.output,h.size,fun k hl=>h.block k (by omega) (fun e=>by have:=hk k e;omega)⟩
theorem TFr.at (R k : Nat) (v : Value) : TFr (·=R) w (w.setCell ⟨R,k,none⟩ v):=TFr.setCell (K:=(·=R)) (TFr.refl _ w) (p:=⟨R,k,none⟩) (fun _=>rfl) v
theorem TFr.cell (h : TFr K w w') {p : Addr} {v : Value} (hc : w.cell? p=some v) (hp : ¬ K p.block) : w'.cell? p=some v:=(World.cell?_of_block (h.block _ (World.block_lt_of_cell? _ _ hc) hp)).trans hc
end
section
variable {w w' : World}
theorem tcell {b k : Nat} {cs : Array Value} {e : TypeId} {fr : Nat × Nat} (h : w.heap[b]?=some (.cells cs e fr)) {v : Value} (hv : cs[k]?=some v) : w.cell? ⟨b,k,none⟩=some v:=by simp [World.cell?,h,hv]
theorem tkeepAl {W : World} {p : Addr} {v : Value} (h : W.cell? p=some v) (o : Obj) : (W.alloc o).cell? p=some v:=(World.cell?_alloc_lt _ _ _ (World.block_lt_of_cell? _ _ h)).trans h
theorem tkeep {w w' : World} (hb : Below w.heap.size w w') {p : Addr} {v : Value} (h : w.cell? p=some v) : w'.cell? p=some v:=(hb.cell (World.block_lt_of_cell? _ _ h)).trans h
theorem tnew (W : World) (cs : Array Value) (t : TypeId) (i : Nat) {x : Value} (hx : cs[i]?=some x) : (W.alloc (.cells cs t)).cell? ⟨W.heap.size,i,none⟩=some x:=tcell (heap_alloc_new W _) hx
theorem tfrozen {b k : Nat} {cs : Array Value} {e : TypeId} (h : w.heap[b]?=some (.cells cs e (0,0))) : w.frozen? ⟨b,k,none⟩=false:=by simp [World.frozen?,h]
theorem tsetCell_blk {b k : Nat} {cs : Array Value} {e : TypeId} {fr : Nat × Nat} (h : w.heap[b]?=some (.cells cs e fr)) (v : Value) : (w.setCell ⟨b,k,none⟩ v).heap[b]?=some (.cells (cs.setIfInBounds k v) e fr):=by
 simp [World.setCell,Array.getElem?_modify,h]
end
def TokL (T : Nat) (w : World) (a : Option Addr) (l : List XTok) : Prop:=∀ j t,l[j]?=some t→∃ o,a=some ⟨T,o,none⟩∧w.cell? ⟨T,o+j*3,none⟩=some (.int .i64 t.k)∧w.cell? ⟨T,o+j*3+1,none⟩=some (.string (strB t.b))∧w.cell? ⟨T,o+j*3+2,none⟩=some (.int .i64 t.at_)
theorem TokL.keep {K : Nat→Prop} {T : Nat} {w w' : World} {a : Option Addr} {l : List XTok} (h : TokL T w a l) (hf : TFr K w w') (hT : ¬ K T) : TokL T w' a l:=fun j t hj=>by
 obtain ⟨o,e,h0,h1,h2⟩:=h j t hj
 exact ⟨o,e,hf.cell h0 hT,hf.cell h1 hT,hf.cell h2 hT⟩
def TokOk (t : XTok) : Prop:=t.b.length≤1000∧t.at_≤1000000∧(t.k=2→∃ v : Int,parseIntB 64 t.b=.ok v∧0≤v∧v≤1099511627776)
theorem xvar_fr {R : Nat} {w w' : World} (hb : TFr (·=R) w w') {n : String} {g : Nat} (hg : Tryz.prog.globalNamed n=some g) (hR : R≠g) {x : Array Value} (h : w.var? Tryz.prog n=some x) : w'.var? Tryz.prog n=some x:=by
 simp only [World.var?,hg,Option.bind_some] at h ⊢
 cases hh : w.heap[g]? with
 | none=>rw [hh] at h;simp at h
 | some o =>
   have hlt:=(Array.getElem?_eq_some_iff.1 hh).1
   rw [hb.block g hlt (fun e=>hR e.symm)]
   exact h
structure TVars (w : World) : Prop where
 xv : XVars w
 t0 : w.cell? ⟨0,0,none⟩=some (.string ⟨#[102,97,108,115,101]⟩)
 t1 : w.cell? ⟨0,1,none⟩=some (.string ⟨#[116,114,117,101]⟩)
theorem TVars.below {w w' : World} (h : TVars w) (hb : Below w.heap.size w w') : TVars w':=⟨h.xv.below hb,tkeep hb h.t0,tkeep hb h.t1⟩
theorem XVars.fr {R : Nat} {w w' : World} (h : XVars w) (hb : TFr (·=R) w w') (hR : 2 < R∧3 < R∧0 < R) : XVars w':=by
 obtain ⟨⟨t,p,h1⟩,⟨t',p',h2⟩⟩:=h
 exact ⟨⟨t,p,xvar_fr hb xgSyn (Nat.ne_of_gt hR.1) h1⟩,⟨t',p',xvar_fr hb xgRan (Nat.ne_of_gt hR.2.1) h2⟩⟩
theorem TVars.fr {R : Nat} {w w' : World} (h : TVars w) (hb : TFr (·=R) w w') (hR : 2 < R∧3 < R∧0 < R) : TVars w':=⟨h.xv.fr hb hR,hb.cell h.t0 (Nat.ne_of_lt hR.2.2),hb.cell h.t1 (Nat.ne_of_lt hR.2.2)⟩
structure RdAt (w : World) (R T E : Nat) (s : RS) (a : Option Addr) (c : Nat) : Prop where
 blk : w.heap[R]?=some (.cells #[.slice a s.l.length c,.int .i64 E,.int .i64 s.deep,.int .i64 s.wrong] 50 (0,0))
 cap : s.l.length≤c
 max : c≤maxLen
 nil : a=none→c=0
 toks : TokL T w a s.l
 tr : T < R
 ok : ∀ t∈s.l,TokOk t
 deep : s.deep≤100
 en : E≤1000000
 vars : TVars w
 gl : 2 < R∧3 < R∧0 < R
def RdR (w : World) (R T E : Nat) (s : RS) : Prop:=∃ a c,RdAt w R T E s a c
section
variable {w w' : World} {R T E : Nat} {s : RS} {a : Option Addr} {c : Nat}
theorem RdAt.c0 (h : RdAt w R T E s a c) : w.cell? ⟨R,0,none⟩=some (.slice a s.l.length c):=tcell h.blk rfl
theorem RdAt.c1 (h : RdAt w R T E s a c) : w.cell? ⟨R,1,none⟩=some (.int .i64 E):=tcell h.blk rfl
theorem RdAt.c2 (h : RdAt w R T E s a c) : w.cell? ⟨R,2,none⟩=some (.int .i64 s.deep):=tcell h.blk rfl
theorem RdAt.c3 (h : RdAt w R T E s a c) : w.cell? ⟨R,3,none⟩=some (.int .i64 s.wrong):=tcell h.blk rfl
theorem RdAt.f (h : RdAt w R T E s a c) (k : Nat) : w.frozen? ⟨R,k,none⟩=false:=tfrozen h.blk
theorem RdAt.lt (h : RdAt w R T E s a c) : R < w.heap.size:=(Array.getElem?_eq_some_iff.1 h.blk).1
theorem RdAt.keep (h : RdAt w R T E s a c) (hb : Below w.heap.size w w') : RdAt w' R T E s a c :=
 { h with blk:=(hb.block R h.lt).trans h.blk,toks:=h.toks.keep (TFr.of_below (K:=fun _=>False) hb) id,vars:=h.vars.below hb }
theorem RdR.keep (h : RdR w R T E s) (hb : Below w.heap.size w w') : RdR w' R T E s:=by
 obtain ⟨a,c,h⟩:=h
 exact ⟨a,c,h.keep hb⟩
theorem RdAt.other {K : Nat→Prop} (h : RdAt w R T E s a c) (hf : TFr K w w') (hK : ∀ k,k≤R→¬ K k) : RdAt w' R T E s a c:=by
 have hG:=h.gl
 have hb : Below (R+1) w w':=hf.below h.lt (fun k hk=>Nat.lt_of_not_le (fun e=>hK k e hk))
 have hv : ∀ {n : String} {g : Nat} (hg : Tryz.prog.globalNamed n=some g) (_ : g < R) {x : Array Value},w.var? Tryz.prog n=some x→w'.var? Tryz.prog n=some x:=fun {n g} hg hlt {x} hx=>by
  simp only [World.var?,hg,Option.bind_some] at hx ⊢
  rw [hb.block g (by omega)]
  exact hx
 obtain ⟨⟨⟨t,p,h1⟩,⟨t',p',h2⟩⟩,h3,h4⟩:=h.vars
 exact { h with
  blk:=(hb.block R (by omega)).trans h.blk
  toks:=h.toks.keep hf (hK T (Nat.le_of_lt h.tr))
  vars:=⟨⟨⟨t,p,hv xgSyn hG.1 h1⟩,⟨t',p',hv xgRan hG.2.1 h2⟩⟩,(World.cell?_of_block (hb.block _ (by show 0 < R+1;omega))).trans h3,(World.cell?_of_block (hb.block _ (by show 0 < R+1;omega))).trans h4⟩ }
theorem RdR.other {K : Nat→Prop} (h : RdR w R T E s) (hf : TFr K w w') (hK : ∀ k,k≤R→¬ K k) : RdR w' R T E s:=by
 obtain ⟨a,c,h⟩:=h
 exact ⟨a,c,h.other hf hK⟩
theorem RdR.lt (h : RdR w R T E s) : R < w.heap.size:=by
 obtain ⟨a,c,h⟩:=h
 exact h.lt
theorem RdAt.first {t : XTok} {r : List XTok} (h : RdAt w R T E s a c) (hl : s.l=t :: r) : ∃ o,a=some ⟨T,o,none⟩∧w.cell? ⟨T,o,none⟩=some (.int .i64 t.k)∧w.cell? ⟨T,o+1,none⟩=some (.string (strB t.b))∧w.cell? ⟨T,o+2,none⟩=some (.int .i64 t.at_):=by
 obtain ⟨o,e,h0,h1,h2⟩:=h.toks 0 t (by rw [hl];rfl)
 exact ⟨o,e,by simpa using h0,by simpa using h1,by simpa using h2⟩
theorem RdAt.tail {t : XTok} {r : List XTok} (h : RdAt w R T E s a c) (hl : s.l=t :: r) : ∃ a' : Option Addr,
 (∀ W : World,(Instr.slice 45 (.slice a (r.length+1) c) (some (.int .i64 1)) none none).run Tryz.prog W=.ok (.slice a' r.length (c - 1)) W)∧RdAt (w.setCell ⟨R,0,none⟩ (.slice a' r.length (c - 1))) R T E ⟨r,s.deep,s.wrong⟩ a' (c - 1):=by
 have hcap:=h.cap
 rw [hl,List.length_cons] at hcap
 refine ⟨if c=1 then a else a.map (·.add (1*3)),fun W=>?_,?_⟩
 ·have hz : (sizeOf 56).run Tryz.prog W=.ok 3 W:=by kernel_rfl
  rw [show (Value.int .i64 1)=.int .i64 ((1 : Nat) : Int) from rfl,run_slice_l (P:=Tryz.prog) W 45 a (r.length+1) c (by kernel_rfl) .i64 ((1 : Nat) : Int) (by omega) (by omega)]
  have he : Tryz.prog.elem 45=56:=by kernel_rfl
  rw [he,hz]
  simp [Result.andThen,sliced]
 ·have hb:=h.blk
  rw [hl,List.length_cons] at hb
  refine ⟨by rw [tsetCell_blk hb];rfl,by simp;omega,by have:=h.max;omega,fun hn=>?_,fun j x hj=>?_,h.tr,fun x hx=>h.ok x (by rw [hl];exact List.mem_cons_of_mem _ hx),h.deep,h.en,h.vars.fr (TFr.at _ _ _) h.gl,h.gl⟩
  ·split at hn
   ·omega
   ·cases a with
    | none=>have:=h.nil rfl;omega
    | some A=>cases hn
  ·dsimp only at hj
   obtain ⟨o,e,h0,h1,h2⟩:=h.toks (j+1) x (by rw [hl];simpa using hj)
   have hlt : j < r.length:=(List.getElem?_eq_some_iff.1 hj).1
   have hc : c≠1:=by omega
   subst e
   have hfr : TFr (·=R) w (w.setCell ⟨R,0,none⟩ (.slice (if c=1 then some ⟨T,o,none⟩ else (some (⟨T,o,none⟩ : Addr)).map (·.add (1*3))) r.length (c - 1))):=TFr.at _ _ _
   have hg:=Nat.ne_of_lt h.tr
   refine ⟨o+3,by simp [hc,Addr.add],?_,?_,?_⟩
   ·have:=hfr.cell h0 hg
    rw [show o+3+j*3=o+(j+1)*3 by omega]
    exact this
   ·have:=hfr.cell h1 hg
    rw [show o+3+j*3+1=o+(j+1)*3+1 by omega]
    exact this
   ·have:=hfr.cell h2 hg
    rw [show o+3+j*3+2=o+(j+1)*3+2 by omega]
    exact this
theorem RdAt.empty (h : RdAt w R T E s a c) : RdAt (w.setCell ⟨R,0,none⟩ (.slice none 0 0)) R T E ⟨[],s.deep,s.wrong⟩ none 0 :=
 ⟨by rw [tsetCell_blk h.blk];rfl,Nat.le_refl _,Nat.zero_le _,fun _=>rfl,fun j x hj=>(by simp at hj),h.tr,fun x hx=>(by cases hx),h.deep,h.en,h.vars.fr (TFr.at _ _ _) h.gl,h.gl⟩
theorem RdAt.setWrong (h : RdAt w R T E s a c) (x : Int) : RdAt (w.setCell ⟨R,3,none⟩ (.int .i64 x)) R T E ⟨s.l,s.deep,x⟩ a c :=
 { h with
   blk:=by rw [tsetCell_blk h.blk];rfl
   toks:=h.toks.keep (TFr.at _ _ _) (Nat.ne_of_lt h.tr)
   vars:=h.vars.fr (TFr.at _ _ _) h.gl }
theorem RdAt.setDeep (h : RdAt w R T E s a c) {x : Nat} (hx : x≤100) : RdAt (w.setCell ⟨R,2,none⟩ (.int .i64 x)) R T E ⟨s.l,x,s.wrong⟩ a c :=
 { h with
   blk:=by rw [tsetCell_blk h.blk];rfl
   toks:=h.toks.keep (TFr.at _ _ _) (Nat.ne_of_lt h.tr)
   vars:=h.vars.fr (TFr.at _ _ _) h.gl
   deep:=hx }
end
theorem RdAt.setDeep' {w : World} {R T E : Nat} {s : RS} {a : Option Addr} {c : Nat} (h : RdAt w R T E s a c) {x : Nat} (hx : x≤100) {v : Int} (hv : v=x) : RdAt (w.setCell ⟨R,2,none⟩ (.int .i64 v)) R T E ⟨s.l,x,s.wrong⟩ a c:=by
 subst hv
 exact h.setDeep hx
structure RdTo (R T E : Nat) (s' : RS) (w w' : World) : Prop where
 rd : RdR w' R T E s'
 fr : TFr (·=R) w w'
theorem RdTo.of_below {w w' : World} {R T E : Nat} {s : RS} (h : RdR w R T E s) (hb : Below w.heap.size w w') : RdTo R T E s w w':=⟨h.keep hb,TFr.of_below hb⟩
theorem RdTo.after {w w1 w' : World} {R T E : Nat} {s : RS} (hb : Below w.heap.size w w1) (h : RdTo R T E s w1 w') : RdTo R T E s w w':=⟨h.rd,(TFr.of_below hb).trans h.fr⟩
theorem RdTo.trans {w w1 w' : World} {R T E : Nat} {s s' : RS} (h1 : RdTo R T E s w w1) (h : RdTo R T E s' w1 w') : RdTo R T E s' w w':=⟨h.rd,h1.fr.trans h.fr⟩
theorem RdTo.then {w w1 w' : World} {R T E : Nat} {s : RS} (h1 : RdTo R T E s w w1) (hb : Below w1.heap.size w1 w') : RdTo R T E s w w':=⟨h1.rd.keep hb,h1.fr.trans (TFr.of_below hb)⟩
theorem isT_cons {E : Nat} {s : RS} {k : Nat} {b : List UInt8} (h : isT E s k b=true) (hk : k≠0) : ∃ t r,s.l=t :: r:=by
 unfold isT nextT at h
 cases hl : s.l with
 | nil=>rw [hl] at h;simp at h;exact absurd h.1.symm hk
 | cons t r=>exact ⟨t,r,rfl⟩
end Go.Proofs.YtefcbgnckgapgaaGreatDoor
namespace Go.Proofs.YtefcbgnckgapgaaGreatDoor
open Go.RowKit Go.Lib Go.Op
theorem field_at (a b c : Value) (W : World) : (Instr.field 56 (.agg #[a,b,c]) 2).run Tryz.prog W=.ok c W:=by kernel_rfl
theorem field_text (a b c : Value) (W : World) : (Instr.field 56 (.agg #[a,b,c]) 1).run Tryz.prog W=.ok b W:=by kernel_rfl
theorem field_kind (a b c : Value) (W : World) : (Instr.field 56 (.agg #[a,b,c]) 0).run Tryz.prog W=.ok a W:=by kernel_rfl
section
variable {w : World} {R T E : Nat} {s : RS}
set_option maxRecDepth 100000 in
theorem next_calls (h : RdR w R T E s) : Calls Tryz.prog 91 #[.pointer (some ⟨R,0,none⟩)] w fun e w'=>e=.returned (.agg #[.int .i64 (nextT E s).k,.string (strB (nextT E s).b),.int .i64 (nextT E s).at_])∧Below w.heap.size w w':=by
 obtain ⟨a,c,h⟩:=h
 have c0:=h.c0
 have c1:=h.c1
 cases hl : s.l with
 | nil =>
   have hn : nextT E s=⟨0,[],E⟩:=by unfold nextT;rw [hl]
   rw [hn]
   rw [hl] at c0
   simp only [List.length_nil] at c0
   have HB:=hid ((Below.refl w.heap.size w).alloc (Nat.le_refl _) (.cells #[.int .i64 0,.string (strB []),.int .i64 E] 56))
   have d0:=tkeepAl c0
   have d1:=tkeepAl c1
   clear h hl hn
   go_enter Tryz.func91,Tryz.ntmps91
   go_wp2
   refine bodyPost_ret (v:=.agg #[.int .i64 0,.string (strB []),.int .i64 E]) (by simp [results,Tryz.results91,go_sem];rfl) rfl ⟨rfl,HB.out⟩
 | cons t r =>
   have hn : nextT E s=t:=by unfold nextT;rw [hl]
   rw [hn]
   obtain ⟨o,rfl,h0,h1,h2⟩:=h.first hl
   rw [hl,List.length_cons] at c0
   have hlen : ((r.length+1 : Nat) : Int)≠0:=by omega
   obtain ⟨q,hq⟩ : ∃ q,r.length+1=q:=⟨_,rfl⟩
   have ht : ((q : Int) == 0)=false:=by rw [beq_eq_false_iff_ne];omega
   have hq0 : 0 < q:=by omega
   rw [hq] at c0
   have HB:=hid ((Below.refl w.heap.size w).alloc (Nat.le_refl _) (.cells #[.int .i64 t.k,.string (strB t.b),.int .i64 t.at_] 56))
   have d0:=tkeepAl c0
   have d1:=tkeepAl h0
   have d2:=tkeepAl h1
   have d3:=tkeepAl h2
   clear h hl hn hlen hq
   go_enter Tryz.func91,Tryz.ntmps91
   go_wp2
   refine bodyPost_ret (v:=.agg #[.int .i64 t.k,.string (strB t.b),.int .i64 t.at_]) (by simp [results,Tryz.results91,go_sem]) rfl ⟨rfl,HB.out⟩
set_option maxRecDepth 100000 in
theorem is_calls (h : RdR w R T E s) (k : Nat) (b : List UInt8) : Calls Tryz.prog 87 #[.pointer (some ⟨R,0,none⟩),.agg #[.int .i64 k,.string (strB b)]] w fun e w'=>e=.returned (.bool (isT E s k b))∧Below w.heap.size w w':=by
 have hb0:=(Below.refl w.heap.size w).alloc (Nat.le_refl _) (.cells #[.int .i64 k,.string (strB b)] 86)
 have HN:=hid (next_calls (h.keep hb0))
 have HB0:=hid hb0
 obtain ⟨x,hx⟩ : ∃ x,nextT E s=x:=⟨_,rfl⟩
 have hz : isT E s k b=decide (x.k=k∧x.b=b):=by unfold isT;rw [hx]
 rw [hz]
 rw [hx] at HN
 clear h hx hz hb0
 go_enter Tryz.func87,Tryz.ntmps87
 go_wp2_with fail
 with_reducible refine HN.out.mono ?_
 rintro e w1 ⟨rfl,hb1⟩
 have m0:=tkeepAl (tkeep hb1 (tnew w #[.int .i64 k,.string (strB b)] 86 0 rfl))
 have m1:=tkeepAl (tkeep hb1 (tnew w #[.int .i64 k,.string (strB b)] 86 1 rfl))
 have HB1:=hid (HB0.out.trans (hb1.mono HB0.out.size))
 clear hb1
 go_wp2
 ·rename_i e1 e2
  rw [tB_list,tB_list] at e2
  go_ret
  exact ⟨tbool (by simp;exact ⟨by omega,e2.symm⟩),HB1.out.alloc HB1.out.size _⟩
 ·rename_i e1 e2
  rw [tB_list,tB_list] at e2
  go_ret
  exact ⟨tbool (by simp;exact fun _ e=>e2 e.symm),HB1.out.alloc HB1.out.size _⟩
 ·rename_i e1
  go_ret
  exact ⟨tbool (by simp;intro e;omega),HB1.out.alloc HB1.out.size _⟩
set_option maxRecDepth 100000 in
theorem take_calls (h : RdR w R T E s) {k : Nat} (hk : k≠0) (b : List UInt8) : Calls Tryz.prog 39 #[.pointer (some ⟨R,0,none⟩),.agg #[.int .i64 k,.string (strB b)]] w fun e w'=>e=.returned (.bool (isT E s k b))∧RdTo R T E (takeT E s k b).2 w w':=by
 have hb0:=(Below.refl w.heap.size w).alloc (Nat.le_refl _) (.cells #[.int .i64 k,.string (strB b)] 86)
 have HI:=hid (is_calls (h.keep hb0) k b)
 have HB0:=hid hb0
 have H:=hid h
 cases hz : isT E s k b with
 | false =>
   have hs : (takeT E s k b).2=s:=by unfold takeT;rw [hz];rfl
   rw [hs]
   rw [hz] at HI
   clear hz hs hb0 h
   go_enter Tryz.func39,Tryz.ntmps39
   go_wp2_with fail
   with_reducible refine HI.out.mono ?_
   rintro e w1 ⟨rfl,hb1⟩
   have HB1:=hid (HB0.out.trans (hb1.mono HB0.out.size))
   clear hb1
   go_wp2
   go_ret
   exact ⟨rfl,RdTo.of_below H.out HB1.out⟩
 | true =>
   obtain ⟨t,r,hl⟩:=isT_cons hz hk
   have hs : (takeT E s k b).2=⟨r,s.deep,s.wrong⟩:=by unfold takeT;rw [hz,hl];rfl
   rw [hs]
   rw [hz] at HI
   have HL:=hid hl
   clear hz hs hb0 h hl
   go_enter Tryz.func39,Tryz.ntmps39
   go_wp2_with fail
   with_reducible refine HI.out.mono ?_
   rintro e w1 ⟨rfl,hb1⟩
   have HB1:=hid (HB0.out.trans (hb1.mono HB0.out.size))
   clear hb1
   obtain ⟨a,c,h1⟩:=H.out.keep HB1.out
   obtain ⟨a',hsl,h2⟩:=h1.tail HL.out
   have H2:=hid h2
   have c0:=h1.c0
   have f0:=h1.f 0
   rw [HL.out,List.length_cons] at c0
   obtain ⟨q,hq⟩ : ∃ q,r.length+1=q:=⟨_,rfl⟩
   rw [hq] at c0 hsl
   obtain ⟨m,hm⟩ : ∃ m,r.length=m:=⟨_,rfl⟩
   obtain ⟨c',hc'⟩ : ∃ c',c - 1=c':=⟨_,rfl⟩
   rw [hm,hc'] at hsl H2
   clear h1 h2 hq hm hc'
   go_wp2
   go_ret
   exact ⟨rfl,⟨⟨a',_,H2.out⟩,(TFr.of_below HB1.out).trans (TFr.at _ _ _)⟩⟩
end
end Go.Proofs.YtefcbgnckgapgaaGreatDoor
namespace Go.Proofs.YtefcbgnckgapgaaGreatDoor
open Go.RowKit Go.Lib Go.Op
section
variable {w : World} {R T E : Nat} {s : RS}
set_option maxRecDepth 100000 in
theorem fail_calls (h : RdR w R T E s) : Calls Tryz.prog 45 #[.pointer (some ⟨R,0,none⟩)] w fun e w'=>e=.returned (.tuple #[])∧RdTo R T E (failT E s) w w':=by
 have HN:=hid (next_calls h)
 have H:=hid h
 obtain ⟨a,c,h1⟩:=h
 have c3:=h1.c3
 have f0:=h1.f 0
 have f3:=h1.f 3
 have c0:=h1.c0
 by_cases hw : s.wrong=-1
 ·have hs : failT E s=⟨[],s.deep,((nextT E s).at_ : Int)⟩:=by unfold failT;rw [if_pos hw]
  rw [hs]
  obtain ⟨x,hx⟩ : ∃ x,nextT E s=x:=⟨_,rfl⟩
  rw [hx] at HN ⊢
  rw [hw] at c3
  clear hs hx hw h1
  go_enter Tryz.func45,Tryz.ntmps45
  go_wp2_with fail
  with_reducible refine HN.out.mono ?_
  rintro e w1 ⟨rfl,hb1⟩
  obtain ⟨a1,c1,k1⟩:=H.out.keep hb1
  have g0:=k1.f 0
  have g3:=k1.f 3
  have b3:=k1.c3
  have b0:=k1.c0
  have k2:=k1.setWrong (x.at_ : Int)
  have g0':=k2.f 0
  have b0':=k2.c0
  have K3:=hid k2.empty
  have HB1:=hid hb1
  have hf:=field_at (.int .i64 x.k) (.string (strB x.b)) (.int .i64 x.at_)
  clear hb1 k1 k2
  go_wp2
  go_end0
  exact ⟨rfl,⟨⟨none,0,K3.out⟩,(TFr.of_below HB1.out).trans ((TFr.at _ _ _).trans (TFr.at _ _ _))⟩⟩
 ·have hs : failT E s=⟨[],s.deep,s.wrong⟩:=by unfold failT;rw [if_neg hw]
  rw [hs]
  have ht : (s.wrong == -1)=false:=by rw [beq_eq_false_iff_ne];exact hw
  have K3:=hid h1.empty
  clear hs hw h1
  go_enter Tryz.func45,Tryz.ntmps45
  go_wp2
  go_end0
  exact ⟨rfl,⟨⟨none,0,K3.out⟩,TFr.at _ _ _⟩⟩
set_option maxRecDepth 100000 in
theorem need_calls (h : RdR w R T E s) {k : Nat} (hk : k≠0) (b : List UInt8) : Calls Tryz.prog 35 #[.pointer (some ⟨R,0,none⟩),.agg #[.int .i64 k,.string (strB b)]] w fun e w'=>e=.returned (.tuple #[])∧RdTo R T E (needT E s k b) w w':=by
 have hb0:=(Below.refl w.heap.size w).alloc (Nat.le_refl _) (.cells #[.int .i64 k,.string (strB b)] 86)
 have HT:=hid (take_calls (h.keep hb0) hk b)
 have HB0:=hid hb0
 cases hz : isT E s k b with
 | false =>
   have hs : needT E s k b=failT E (takeT E s k b).2:=by unfold needT takeT;rw [hz];rfl
   rw [hs]
   rw [hz] at HT
   clear hz hs hb0 h
   go_enter Tryz.func35,Tryz.ntmps35
   go_wp2_with fail
   with_reducible refine HT.out.mono ?_
   rintro e w1 ⟨rfl,hd1⟩
   have HD1:=hid hd1
   have HF:=hid (fail_calls hd1.rd)
   clear hd1
   go_wp2_with fail
   with_reducible refine HF.out.mono ?_
   rintro e w2 ⟨rfl,hd2⟩
   have HD2:=hid (RdTo.after HB0.out (HD1.out.trans hd2))
   clear hd2
   go_wp2
   go_end0
   exact ⟨rfl,HD2.out⟩
 | true =>
   have hs : needT E s k b=(takeT E s k b).2:=by unfold needT takeT;rw [hz];rfl
   rw [hs]
   rw [hz] at HT
   clear hz hs hb0 h
   go_enter Tryz.func35,Tryz.ntmps35
   go_wp2_with fail
   with_reducible refine HT.out.mono ?_
   rintro e w1 ⟨rfl,hd1⟩
   have HD1:=hid (RdTo.after HB0.out hd1)
   clear hd1
   go_wp2
   go_end0
   exact ⟨rfl,HD1.out⟩
set_option maxRecDepth 100000 in
theorem of_calls' (h : RdR w R T E s) {k : Nat} (hk : k≠0) : Calls Tryz.prog 90 #[.pointer (some ⟨R,0,none⟩),.int .i64 k] w fun e w'=>e=.returned (.string (strB (ofT E s k).1))∧RdTo R T E (ofT E s k).2 w w':=by
 have HN:=hid (next_calls h)
 have H:=hid h
 by_cases hz : (nextT E s).k=k
 ·have hl : ∃ t r,s.l=t :: r:=by
   unfold nextT at hz
   cases hl : s.l with
   | nil=>rw [hl] at hz;exact absurd hz.symm hk
   | cons t r=>exact ⟨t,r,rfl⟩
  obtain ⟨t,r,hl⟩:=hl
  have hx : nextT E s=t:=by unfold nextT;rw [hl]
  have hs : ofT E s k=(t.b,⟨r,s.deep,s.wrong⟩):=by unfold ofT;rw [if_pos hz,hx,hl];rfl
  rw [hs]
  rw [hx] at HN hz
  have HL:=hid hl
  subst hz
  have ht : ((t.k : Int) != (t.k : Int))=false:=by simp
  clear hs hl hx h
  go_enter Tryz.func90,Tryz.ntmps90
  go_wp2_with fail
  with_reducible refine HN.out.mono ?_
  rintro e w1 ⟨rfl,hb1⟩
  have HB1:=hid (hb1.alloc hb1.size (.cells #[.int .i64 t.k,.string (strB t.b),.int .i64 t.at_] 56))
  clear hb1
  obtain ⟨a,c,h1⟩:=H.out.keep HB1.out
  obtain ⟨a',hsl,h2⟩:=h1.tail HL.out
  have H2:=hid h2
  have c0:=h1.c0
  have f0:=h1.f 0
  rw [HL.out,List.length_cons] at c0
  obtain ⟨q,hq⟩ : ∃ q,r.length+1=q:=⟨_,rfl⟩
  rw [hq] at c0 hsl
  obtain ⟨m,hm⟩ : ∃ m,r.length=m:=⟨_,rfl⟩
  obtain ⟨c',hc'⟩ : ∃ c',c - 1=c':=⟨_,rfl⟩
  rw [hm,hc'] at hsl H2
  have n1:=tnew w1 #[.int .i64 t.k,.string (strB t.b),.int .i64 t.at_] 56 1 rfl
  clear h1 h2 hq hm hc'
  go_wp2
  go_ret
  exact ⟨rfl,⟨⟨a',_,H2.out⟩,(TFr.of_below HB1.out).trans (TFr.at _ _ _)⟩⟩
 ·have hs : ofT E s k=([],failT E s):=by unfold ofT;rw [if_neg hz]
  rw [hs]
  obtain ⟨x,hx⟩ : ∃ x,nextT E s=x:=⟨_,rfl⟩
  rw [hx] at HN hz
  have ht : ((x.k : Int) != (k : Int))=true:=by rw [bne_iff_ne];omega
  clear hs hx h
  go_enter Tryz.func90,Tryz.ntmps90
  go_wp2_with fail
  with_reducible refine HN.out.mono ?_
  rintro e w1 ⟨rfl,hb1⟩
  have HB1:=hid (hb1.alloc hb1.size (.cells #[.int .i64 x.k,.string (strB x.b),.int .i64 x.at_] 56))
  clear hb1
  have HF:=hid (fail_calls (H.out.keep HB1.out))
  go_wp2_with fail
  with_reducible refine HF.out.mono ?_
  rintro e w2 ⟨rfl,hd2⟩
  have HD2:=hid (RdTo.after HB1.out hd2)
  clear hd2
  go_wp2
  go_ret
  exact ⟨rfl,HD2.out⟩
theorem of1_calls (h : RdR w R T E s) : Calls Tryz.prog 90 #[.pointer (some ⟨R,0,none⟩),.int .i64 1] w fun e w'=>e=.returned (.string (strB (ofT E s 1).1))∧RdTo R T E (ofT E s 1).2 w w':=of_calls' h (k:=1) (by decide)
theorem of2_calls (h : RdR w R T E s) : Calls Tryz.prog 90 #[.pointer (some ⟨R,0,none⟩),.int .i64 2] w fun e w'=>e=.returned (.string (strB (ofT E s 2).1))∧RdTo R T E (ofT E s 2).2 w w':=of_calls' h (k:=2) (by decide)
theorem of3_calls (h : RdR w R T E s) : Calls Tryz.prog 90 #[.pointer (some ⟨R,0,none⟩),.int .i64 3] w fun e w'=>e=.returned (.string (strB (ofT E s 3).1))∧RdTo R T E (ofT E s 3).2 w w':=of_calls' h (k:=3) (by decide)
theorem takeW_calls (h : RdR w R T E s) (b : List UInt8) : Calls Tryz.prog 39 #[.pointer (some ⟨R,0,none⟩),.agg #[.int .i64 1,.string (strB b)]] w fun e w'=>e=.returned (.bool (isT E s 1 b))∧RdTo R T E (takeT E s 1 b).2 w w':=take_calls h (k:=1) (by decide) b
theorem needW_calls (h : RdR w R T E s) (b : List UInt8) : Calls Tryz.prog 35 #[.pointer (some ⟨R,0,none⟩),.agg #[.int .i64 1,.string (strB b)]] w fun e w'=>e=.returned (.tuple #[])∧RdTo R T E (needT E s 1 b) w w':=need_calls h (k:=1) (by decide) b
theorem takeS_calls (h : RdR w R T E s) (b : List UInt8) : Calls Tryz.prog 39 #[.pointer (some ⟨R,0,none⟩),.agg #[.int .i64 4,.string (strB b)]] w fun e w'=>e=.returned (.bool (isT E s 4 b))∧RdTo R T E (takeT E s 4 b).2 w w':=take_calls h (k:=4) (by decide) b
theorem needS_calls (h : RdR w R T E s) (b : List UInt8) : Calls Tryz.prog 35 #[.pointer (some ⟨R,0,none⟩),.agg #[.int .i64 4,.string (strB b)]] w fun e w'=>e=.returned (.tuple #[])∧RdTo R T E (needT E s 4 b) w w':=need_calls h (k:=4) (by decide) b
theorem isS_calls (h : RdR w R T E s) (b : List UInt8) : Calls Tryz.prog 87 #[.pointer (some ⟨R,0,none⟩),.agg #[.int .i64 4,.string (strB b)]] w fun e w'=>e=.returned (.bool (isT E s 4 b))∧Below w.heap.size w w':=is_calls h 4 b
end
set_option maxRecDepth 100000 in
theorem word_mark (s : ByteArray) (w : World) : Calls Tryz.prog 36 #[.string s] w fun e w'=>e=.returned (.agg #[.int .i64 1,.string s])∧Below w.heap.size w w':=by
 have HB:=hid ((Below.refl w.heap.size w).alloc (Nat.le_refl _) (.cells #[.int .i64 1,.string s] 86))
 go_enter Tryz.func36,Tryz.ntmps36
 go_wp2
 refine bodyPost_ret (v:=.agg #[.int .i64 1,.string s]) (by simp [results,Tryz.results36,go_sem]) rfl ⟨rfl,HB.out⟩
set_option maxRecDepth 100000 in
theorem sign_mark (s : ByteArray) (w : World) : Calls Tryz.prog 130 #[.string s] w fun e w'=>e=.returned (.agg #[.int .i64 4,.string s])∧Below w.heap.size w w':=by
 have HB:=hid ((Below.refl w.heap.size w).alloc (Nat.le_refl _) (.cells #[.int .i64 4,.string s] 86))
 go_enter Tryz.func130,Tryz.ntmps130
 go_wp2
 refine bodyPost_ret (v:=.agg #[.int .i64 4,.string s]) (by simp [results,Tryz.results130,go_sem]) rfl ⟨rfl,HB.out⟩
end Go.Proofs.YtefcbgnckgapgaaGreatDoor
namespace Go.Proofs.YtefcbgnckgapgaaGreatDoor
open Go.RowKit Go.Lib Go.Op
set_option maxRecDepth 100000 in
theorem key_no (s : ByteArray) (w : World) (h : keyB s.toList=false) : Calls Tryz.prog 75 #[.string s] w fun e w'=>e=.returned (.bool false)∧w=w':=by
 unfold keyB keysL at h
 simp only [List.contains_cons,List.contains_nil,Bool.or_false,Bool.or_eq_false_iff] at h
 obtain ⟨h1,h2,h3,h4,h5,h6,h7,h8,h9,hA,hB,hC,hD,hE,hF,hG,hH,hI⟩:=h
 go_enter Tryz.func75,Tryz.ntmps75
 go_wp2
 go_ret
 exact ⟨rfl,rfl⟩
set_option maxRecDepth 100000 in
theorem key_calls (b : List UInt8) (w : World) : Calls Tryz.prog 75 #[.string (strB b)] w fun e w'=>e=.returned (.bool (keyB b))∧w=w':=by
 cases hk : keyB b with
 | false=>exact key_no (strB b) w (by rw [tB_list];exact hk)
 | true =>
   have hm : b∈keysL:=by unfold keyB at hk;simpa using hk
   simp only [keysL,List.mem_cons,List.not_mem_nil,or_false] at hm
   clear hk
   rcases hm with rfl|rfl|rfl|rfl|rfl|rfl|rfl|rfl|rfl|rfl|rfl|rfl|rfl|rfl|rfl|rfl|rfl|rfl
   all_goals
    simp only [strB]
    go_enter Tryz.func75,Tryz.ntmps75
    go_wp2
    go_ret
    exact ⟨rfl,rfl⟩
section
variable {w : World} {R T E : Nat} {s : RS}
set_option maxRecDepth 100000 in
theorem nameR_calls (h : RdR w R T E s) : Calls Tryz.prog 43 #[.pointer (some ⟨R,0,none⟩)] w fun e w'=>e=.returned (.string (strB (nameT E s).1))∧RdTo R T E (nameT E s).2 w w':=by
 have HN:=hid (next_calls h)
 have H:=hid h
 obtain ⟨x,hx⟩ : ∃ x,nextT E s=x:=⟨_,rfl⟩
 rw [hx] at HN
 have hf:=field_text (.int .i64 x.k) (.string (strB x.b)) (.int .i64 x.at_)
 have HK:=hid (fun W=>key_calls x.b W)
 cases hz : keyB x.b with
 | false =>
   have hs : nameT E s=ofT E s 1:=by unfold nameT;rw [hx,hz];rfl
   rw [hs]
   rw [hz] at HK
   clear hs hx hz h
   go_enter Tryz.func43,Tryz.ntmps43
   go_wp2_with fail
   with_reducible refine HN.out.mono ?_
   rintro e w1 ⟨rfl,hb1⟩
   have HB1:=hid hb1
   clear hb1
   have HO:=hid (of1_calls (H.out.keep HB1.out))
   go_wp2_with fail
   with_reducible refine (HK.out _).mono ?_
   rintro e w2 ⟨rfl,rfl⟩
   go_wp2_with fail
   with_reducible refine HO.out.mono ?_
   rintro e w3 ⟨rfl,hd⟩
   have HD:=hid (RdTo.after HB1.out hd)
   clear hd
   go_wp2
   go_ret
   exact ⟨rfl,HD.out⟩
 | true =>
   have hs : nameT E s=ofT E (failT E s) 1:=by unfold nameT;rw [hx,hz];rfl
   rw [hs]
   rw [hz] at HK
   clear hs hx hz h
   go_enter Tryz.func43,Tryz.ntmps43
   go_wp2_with fail
   with_reducible refine HN.out.mono ?_
   rintro e w1 ⟨rfl,hb1⟩
   have HB1:=hid hb1
   clear hb1
   have HF:=hid (fail_calls (H.out.keep HB1.out))
   go_wp2_with fail
   with_reducible refine (HK.out _).mono ?_
   rintro e w2 ⟨rfl,rfl⟩
   go_wp2_with fail
   with_reducible refine HF.out.mono ?_
   rintro e w3 ⟨rfl,hd⟩
   have HD:=hid (RdTo.after HB1.out hd)
   have HO:=hid (of1_calls hd.rd)
   clear hd
   go_wp2_with fail
   with_reducible refine HO.out.mono ?_
   rintro e w4 ⟨rfl,hd⟩
   have HD4:=hid (HD.out.trans hd)
   clear hd
   go_wp2
   go_ret
   exact ⟨rfl,HD4.out⟩
end
end Go.Proofs.YtefcbgnckgapgaaGreatDoor
namespace Go.Proofs.YtefcbgnckgapgaaGreatDoor
open Go.RowKit Go.Lib Go.Op
section
variable {w : World} {R T E : Nat} {s : RS}
theorem ofT_two {b : List UInt8} {s' : RS} (h : ofT E s 2=(b,s')) (hok : ∀ t∈s.l,TokOk t) : b.length≤1000∧(b=[]∨∃ v : Int,parseIntB 64 b=.ok v∧0≤v∧v≤1099511627776):=by
 unfold ofT nextT at h
 cases hl : s.l with
 | nil =>
   rw [hl] at h
   simp at h
   obtain ⟨rfl,_⟩:=h
   exact ⟨by simp,.inl rfl⟩
 | cons t r =>
   rw [hl] at h
   have ht:=hok t (by rw [hl];exact List.mem_cons_self)
   dsimp only at h
   split at h
   ·rename_i hk
    injection h with h1 h2
    subst h1
    exact ⟨ht.1,.inr (ht.2.2 hk)⟩
   ·injection h with h1 h2
    subst h1
    exact ⟨by simp,.inl rfl⟩
set_option maxRecDepth 100000 in
theorem numberR_calls (h : RdR w R T E s) : Calls Tryz.prog 42 #[.pointer (some ⟨R,0,none⟩)] w fun e w'=>e=.returned (.int .i64 (numberT E s).1)∧RdTo R T E (numberT E s).2 w w':=by
 obtain ⟨a,c,h1⟩:=h
 have hok:=h1.ok
 have HO:=hid (of2_calls ⟨a,c,h1⟩)
 unfold numberT
 obtain ⟨⟨b,s'⟩,hbs⟩ : ∃ p,ofT E s 2=p:=⟨_,rfl⟩
 obtain ⟨hbl,hb⟩:=ofT_two hbs hok
 rw [hbs] at HO ⊢
 dsimp only at HO ⊢
 have hbl2 : (strB b).size≤281474976710656:=by rw [strB_size];omega
 clear h1 hok hbs hbl
 rcases hb with rfl|⟨v,hv,hv0,hv1⟩
 ·have hz : numZ []=0:=by decide
  rw [hz]
  clear hz
  go_enter Tryz.func42,Tryz.ntmps42
  go_wp2_with fail
  with_reducible refine HO.out.mono ?_
  rintro e w1 ⟨rfl,hd⟩
  have HD:=hid hd
  obtain ⟨a2,c2,k2⟩:=hd.rd
  obtain ⟨tp,p,hvar⟩:=k2.vars.xv.esyn
  have hpn : parseIntB 64 (strB []).data.toList=parseIntB 64 []:=rfl
  have HP:=hid (xparse_no (strB []) hbl2 (by rw [hpn];intro v h;exact nomatch h) (by rw [hpn];intro h;exact nomatch h) tp p w1 hvar)
  clear hd k2 hvar hpn
  go_wp2_with fail
  with_reducible refine HP.out.mono ?_
  rintro e w2 ⟨t,N,rfl,hb⟩
  have HD2:=hid (HD.out.then hb)
  clear hb
  go_wp2
  go_ret
  exact ⟨rfl,HD2.out⟩
 ·have hz : numZ b=v:=by unfold numZ;rw [hv]
  rw [hz]
  have hv' : parseIntB 64 (strB b).data.toList=.ok v:=by rw [strB_list];exact hv
  have HP:=hid (fun W=>Tryz.strconv_ParseInt_10_at64_ok (strB b) (by omega) v hv' W)
  clear hz hv hv'
  go_enter Tryz.func42,Tryz.ntmps42
  go_wp2_with fail
  with_reducible refine HO.out.mono ?_
  rintro e w1 ⟨rfl,hd⟩
  have HD:=hid hd
  clear hd
  go_wp2_with fail
  with_reducible refine (HP.out _).mono ?_
  rintro e w2 ⟨rfl,hb⟩
  have HD2:=hid (HD.out.then (xbytesWorld hb))
  clear hb
  go_wp2
  go_ret
  exact ⟨rfl,HD2.out⟩
def textsV (l : List (List UInt8)) : Value:=.agg (l.map (fun b=>Value.string (strB b))).toArray
theorem texts_index0 (v0 v1 v2 v3 v4 v5 v6 v7 v8 : Value) (W : World) : (Instr.index 65 (.agg #[v0,v1,v2,v3,v4,v5,v6,v7,v8]) (.int .i64 ((0 : Nat) : Int))).run Tryz.prog W=.ok v0 W:=by kernel_rfl
theorem texts_index1 (v0 v1 v2 v3 v4 v5 v6 v7 v8 : Value) (W : World) : (Instr.index 65 (.agg #[v0,v1,v2,v3,v4,v5,v6,v7,v8]) (.int .i64 ((1 : Nat) : Int))).run Tryz.prog W=.ok v1 W:=by kernel_rfl
theorem texts_index2 (v0 v1 v2 v3 v4 v5 v6 v7 v8 : Value) (W : World) : (Instr.index 65 (.agg #[v0,v1,v2,v3,v4,v5,v6,v7,v8]) (.int .i64 ((2 : Nat) : Int))).run Tryz.prog W=.ok v2 W:=by kernel_rfl
theorem texts_index3 (v0 v1 v2 v3 v4 v5 v6 v7 v8 : Value) (W : World) : (Instr.index 65 (.agg #[v0,v1,v2,v3,v4,v5,v6,v7,v8]) (.int .i64 ((3 : Nat) : Int))).run Tryz.prog W=.ok v3 W:=by kernel_rfl
theorem texts_index4 (v0 v1 v2 v3 v4 v5 v6 v7 v8 : Value) (W : World) : (Instr.index 65 (.agg #[v0,v1,v2,v3,v4,v5,v6,v7,v8]) (.int .i64 ((4 : Nat) : Int))).run Tryz.prog W=.ok v4 W:=by kernel_rfl
theorem texts_index5 (v0 v1 v2 v3 v4 v5 v6 v7 v8 : Value) (W : World) : (Instr.index 65 (.agg #[v0,v1,v2,v3,v4,v5,v6,v7,v8]) (.int .i64 ((5 : Nat) : Int))).run Tryz.prog W=.ok v5 W:=by kernel_rfl
theorem texts_index6 (v0 v1 v2 v3 v4 v5 v6 v7 v8 : Value) (W : World) : (Instr.index 65 (.agg #[v0,v1,v2,v3,v4,v5,v6,v7,v8]) (.int .i64 ((6 : Nat) : Int))).run Tryz.prog W=.ok v6 W:=by kernel_rfl
theorem texts_index7 (v0 v1 v2 v3 v4 v5 v6 v7 v8 : Value) (W : World) : (Instr.index 65 (.agg #[v0,v1,v2,v3,v4,v5,v6,v7,v8]) (.int .i64 ((7 : Nat) : Int))).run Tryz.prog W=.ok v7 W:=by kernel_rfl
theorem texts_index8 (v0 v1 v2 v3 v4 v5 v6 v7 v8 : Value) (W : World) : (Instr.index 65 (.agg #[v0,v1,v2,v3,v4,v5,v6,v7,v8]) (.int .i64 ((8 : Nat) : Int))).run Tryz.prog W=.ok v8 W:=by kernel_rfl
theorem texts_index (v0 v1 v2 v3 v4 v5 v6 v7 v8 : Value) (k : Nat) (v : Value) (hv : [v0,v1,v2,v3,v4,v5,v6,v7,v8][k]?=some v) (W : World) : (Instr.index 65 (.agg #[v0,v1,v2,v3,v4,v5,v6,v7,v8]) (.int .i64 k)).run Tryz.prog W=.ok v W:=by
 match k,hv with
 | 0,hv=>rw [← Option.some.inj hv];exact texts_index0 v0 v1 v2 v3 v4 v5 v6 v7 v8 W
 | 1,hv=>rw [← Option.some.inj hv];exact texts_index1 v0 v1 v2 v3 v4 v5 v6 v7 v8 W
 | 2,hv=>rw [← Option.some.inj hv];exact texts_index2 v0 v1 v2 v3 v4 v5 v6 v7 v8 W
 | 3,hv=>rw [← Option.some.inj hv];exact texts_index3 v0 v1 v2 v3 v4 v5 v6 v7 v8 W
 | 4,hv=>rw [← Option.some.inj hv];exact texts_index4 v0 v1 v2 v3 v4 v5 v6 v7 v8 W
 | 5,hv=>rw [← Option.some.inj hv];exact texts_index5 v0 v1 v2 v3 v4 v5 v6 v7 v8 W
 | 6,hv=>rw [← Option.some.inj hv];exact texts_index6 v0 v1 v2 v3 v4 v5 v6 v7 v8 W
 | 7,hv=>rw [← Option.some.inj hv];exact texts_index7 v0 v1 v2 v3 v4 v5 v6 v7 v8 W
 | 8,hv=>rw [← Option.some.inj hv];exact texts_index8 v0 v1 v2 v3 v4 v5 v6 v7 v8 W
 | n+9,hv=>simp at hv
theorem takeT_no {k : Nat} {b : List UInt8} (h : isT E s k b=false) : (takeT E s k b).2=s:=by unfold takeT;rw [h];rfl
theorem amongT_step {k n : Nat} {b : List UInt8} {r : List (List UInt8)} (h : isT E s k b=false) : amongT E s k n (b :: r)=amongT E s k (n+1) r:=by rw [amongT,h];rfl
theorem amongT_hit {k n : Nat} {b : List UInt8} {r : List (List UInt8)} (h : isT E s k b=true) : amongT E s k n (b :: r)=(n,(takeT E s k b).2):=by rw [amongT,h];rfl
set_option maxHeartbeats 1000000 in
set_option maxRecDepth 100000 in
theorem among_calls' (h : RdR w R T E s) {k : Nat} (hk : k≠0) (l : List (List UInt8)) (hl : l.length=9) : Calls Tryz.prog 86 #[.pointer (some ⟨R,0,none⟩),.int .i64 k,textsV l] w fun e w'=>e=.returned (.int .i64 (amongT E s k 0 l).1)∧RdTo R T E (amongT E s k 0 l).2 w w':=by
 match l,hl with
 | [b0,b1,b2,b3,b4,b5,b6,b7,b8],_ =>
 have H:=hid h
 obtain ⟨z,hz⟩ : ∃ z,amongT E s k 0 [b0,b1,b2,b3,b4,b5,b6,b7,b8]=z:=⟨_,rfl⟩
 rw [hz]
 have HZ:=hid hz
 unfold textsV
 simp only [List.map]
 have HB0:=hid ((Below.refl w.heap.size w).alloc (Nat.le_refl _) (.cells #[.string (strB b0),.string (strB b1),.string (strB b2),.string (strB b3),.string (strB b4),.string (strB b5),.string (strB b6),.string (strB b7),.string (strB b8)] 65))
 clear h hz
 go_enter Tryz.func86,Tryz.ntmps86
 go_wp2
 go_loopw [10] (fun i wr=>∃ j : Nat,i=.int .i64 j∧j≤9∧Hid (amongT E s k j ([b0,b1,b2,b3,b4,b5,b6,b7,b8].drop j)=z)∧Hid (RdTo R T E s w wr)) (fun i _=>9 - (RowKit.intOf i).toNat)
 case atStart=>exact ⟨0,rfl,by omega,HZ,RdTo.of_below H.out HB0.out⟩
 case round =>
  obtain ⟨j,rfl,hj,HJ,HD⟩:=hrel
  by_cases hlt : j < 9
  ·have hget : ∃ b,[b0,b1,b2,b3,b4,b5,b6,b7,b8][j]?=some b:=⟨_,List.getElem?_eq_getElem (by simpa using hlt)⟩
   obtain ⟨b,hb⟩:=hget
   have hix:=texts_index (.string (strB b0)) (.string (strB b1)) (.string (strB b2)) (.string (strB b3)) (.string (strB b4)) (.string (strB b5)) (.string (strB b6)) (.string (strB b7)) (.string (strB b8)) j (.string (strB b)) (by
    have:=congrArg (Option.map (fun b=>Value.string (strB b))) hb
    rw [← List.getElem?_map] at this
    simpa using this)
   have hdr : [b0,b1,b2,b3,b4,b5,b6,b7,b8].drop j=b :: [b0,b1,b2,b3,b4,b5,b6,b7,b8].drop (j+1):=by
    rw [List.drop_eq_getElem_cons (by simpa using hlt)]
    rw [List.getElem?_eq_getElem (by simpa using hlt)] at hb
    injection hb with hb
    rw [hb]
   have HT:=hid (take_calls HD.out.rd hk b)
   have HJ2:=HJ.out
   rw [hdr] at HJ2
   clear hdr hb
   cases hp : isT E s k b with
   | true =>
     rw [hp] at HT
     rw [amongT_hit hp] at HJ2
     obtain rfl:=HJ2
     clear hp HJ HZ
     go_wp2_with (go_at_call 39;(with_reducible refine HT.out.mono ?_);rintro e w1 ⟨rfl,hd1⟩;have HD1:=hid (HD.out.trans hd1);clear hd1)
     go_ret
     exact ⟨rfl,HD1.out⟩
   | false =>
     rw [hp,takeT_no hp] at HT
     rw [amongT_step hp] at HJ2
     have HN:=hid HJ2
     clear hp HJ HJ2
     go_wp2_with (go_at_call 39;(with_reducible refine HT.out.mono ?_);rintro e w1 ⟨rfl,hd1⟩;have HD1:=hid (HD.out.trans hd1);clear hd1)
     go_round
     case rel=>exact ⟨j+1,by go_num,by omega,HN,HD1⟩
     case measure=>simp [RowKit.intOf];omega
  ·have hz : z=(0,s):=by
    rw [← HJ.out,List.drop_eq_nil_of_le (by simp;omega)]
    rfl
   have hj9 : j=9:=by omega
   subst hj9
   subst hz
   go_wp2
   go_ret
   exact ⟨rfl,HD.out⟩
theorem amongW_calls (h : RdR w R T E s) (l : List (List UInt8)) (hl : l.length=9) : Calls Tryz.prog 86 #[.pointer (some ⟨R,0,none⟩),.int .i64 1,textsV l] w fun e w'=>e=.returned (.int .i64 (amongT E s 1 0 l).1)∧RdTo R T E (amongT E s 1 0 l).2 w w':=among_calls' h (k:=1) (by decide) l hl
theorem amongS_calls (h : RdR w R T E s) (l : List (List UInt8)) (hl : l.length=9) : Calls Tryz.prog 86 #[.pointer (some ⟨R,0,none⟩),.int .i64 4,textsV l] w fun e w'=>e=.returned (.int .i64 (amongT E s 4 0 l).1)∧RdTo R T E (amongT E s 4 0 l).2 w w':=among_calls' h (k:=4) (by decide) l hl
set_option maxRecDepth 100000 in
theorem choose_calls' (h : RdR w R T E s) {k : Nat} (hk : k≠0) (l : List (List UInt8)) (hl : l.length=9) : Calls Tryz.prog 44 #[.pointer (some ⟨R,0,none⟩),.int .i64 k,textsV l] w fun e w'=>e=.returned (.int .i64 (chooseT E s k l).1)∧RdTo R T E (chooseT E s k l).2 w w':=by
 match l,hl with
 | [b0,b1,b2,b3,b4,b5,b6,b7,b8],hl =>
 have hb0:=(Below.refl w.heap.size w).alloc (Nat.le_refl _) (.cells #[.string (strB b0),.string (strB b1),.string (strB b2),.string (strB b3),.string (strB b4),.string (strB b5),.string (strB b6),.string (strB b7),.string (strB b8)] 65)
 have HA:=among_calls' (h.keep hb0) hk _ hl
 have hch : chooseT E s k [b0,b1,b2,b3,b4,b5,b6,b7,b8]=if (amongT E s k 0 [b0,b1,b2,b3,b4,b5,b6,b7,b8]).1=0 then (0,failT E (amongT E s k 0 [b0,b1,b2,b3,b4,b5,b6,b7,b8]).2) else amongT E s k 0 [b0,b1,b2,b3,b4,b5,b6,b7,b8]:=rfl
 rw [hch]
 obtain ⟨⟨n,s1⟩,hz⟩ : ∃ z,amongT E s k 0 [b0,b1,b2,b3,b4,b5,b6,b7,b8]=z:=⟨_,rfl⟩
 rw [hz] at HA ⊢
 unfold textsV at HA ⊢
 simp only [List.map] at HA ⊢
 have HH:=hid HA
 have HB0:=hid hb0
 clear h hz hb0 HA hch hl
 by_cases hn : n=0
 ·subst hn
  rw [if_pos rfl]
  go_enter Tryz.func44,Tryz.ntmps44
  go_wp2_with fail
  with_reducible refine HH.out.mono ?_
  rintro e w1 ⟨rfl,hd⟩
  have HD:=hid hd
  have HF:=hid (fail_calls hd.rd)
  clear hd
  go_wp2_with fail
  with_reducible refine HF.out.mono ?_
  rintro e w2 ⟨rfl,hd2⟩
  have HD2:=hid (RdTo.after HB0.out (HD.out.trans hd2))
  clear hd2
  go_wp2
  go_ret
  exact ⟨rfl,HD2.out⟩
 ·rw [if_neg hn]
  have ht : ((n : Int) == 0)=false:=by rw [beq_eq_false_iff_ne];omega
  go_enter Tryz.func44,Tryz.ntmps44
  go_wp2_with fail
  with_reducible refine HH.out.mono ?_
  rintro e w1 ⟨rfl,hd⟩
  have HD:=hid (RdTo.after HB0.out hd)
  clear hd
  go_wp2
  go_ret
  exact ⟨rfl,HD.out⟩
theorem chooseW_calls (h : RdR w R T E s) (l : List (List UInt8)) (hl : l.length=9) : Calls Tryz.prog 44 #[.pointer (some ⟨R,0,none⟩),.int .i64 1,textsV l] w fun e w'=>e=.returned (.int .i64 (chooseT E s 1 l).1)∧RdTo R T E (chooseT E s 1 l).2 w w':=choose_calls' h (k:=1) (by decide) l hl
theorem chooseS_calls (h : RdR w R T E s) (l : List (List UInt8)) (hl : l.length=9) : Calls Tryz.prog 44 #[.pointer (some ⟨R,0,none⟩),.int .i64 4,textsV l] w fun e w'=>e=.returned (.int .i64 (chooseT E s 4 l).1)∧RdTo R T E (chooseT E s 4 l).2 w w':=choose_calls' h (k:=4) (by decide) l hl
theorem numberT_bd (h : RdR w R T E s) : 0≤(numberT E s).1∧(numberT E s).1≤1099511627776:=by
 obtain ⟨a,c,h1⟩:=h
 obtain ⟨⟨b,s'⟩,hbs⟩ : ∃ p,ofT E s 2=p:=⟨_,rfl⟩
 obtain ⟨_,hb⟩:=ofT_two hbs h1.ok
 unfold numberT
 rw [hbs]
 rcases hb with rfl|⟨v,hv,hv0,hv1⟩
 ·show 0≤numZ []∧numZ []≤1099511627776
  decide
 ·have : numZ b=v:=by unfold numZ;rw [hv]
  dsimp only
  rw [this]
  exact ⟨hv0,hv1⟩
end
set_option maxRecDepth 100000 in
theorem cmps_calls (w : World) : Calls Tryz.prog 67 #[] w fun e w'=>e=.returned (textsV cmpsL)∧Below w.heap.size w w':=by
 have HB : Hid (∀ cs,Below w.heap.size w (w.alloc (.cells cs 65))):=fun cs=>(Below.refl w.heap.size w).alloc (Nat.le_refl _) (.cells cs 65)
 go_enter Tryz.func67,Tryz.ntmps67
 go_wp2
 refine bodyPost_ret (v:=textsV cmpsL) (by simp [results,Tryz.results67,go_sem];rfl) rfl ⟨rfl,HB.out _⟩
set_option maxRecDepth 100000 in
theorem modes_calls (w : World) : Calls Tryz.prog 65 #[] w fun e w'=>e=.returned (textsV modesL)∧Below w.heap.size w w':=by
 have HB : Hid (∀ cs,Below w.heap.size w (w.alloc (.cells cs 65))):=fun cs=>(Below.refl w.heap.size w).alloc (Nat.le_refl _) (.cells cs 65)
 go_enter Tryz.func65,Tryz.ntmps65
 go_wp2
 refine bodyPost_ret (v:=textsV modesL) (by simp [results,Tryz.results65,go_sem];rfl) rfl ⟨rfl,HB.out _⟩
set_option maxRecDepth 100000 in
theorem picks_calls (w : World) : Calls Tryz.prog 23 #[] w fun e w'=>e=.returned (textsV picksL)∧Below w.heap.size w w':=by
 have HB : Hid (∀ cs,Below w.heap.size w (w.alloc (.cells cs 65))):=fun cs=>(Below.refl w.heap.size w).alloc (Nat.le_refl _) (.cells cs 65)
 go_enter Tryz.func23,Tryz.ntmps23
 go_wp2
 refine bodyPost_ret (v:=textsV picksL) (by simp [results,Tryz.results23,go_sem];rfl) rfl ⟨rfl,HB.out _⟩
set_option maxRecDepth 100000 in
theorem calls_calls (w : World) : Calls Tryz.prog 103 #[] w fun e w'=>e=.returned (textsV callsL)∧Below w.heap.size w w':=by
 have HB : Hid (∀ cs,Below w.heap.size w (w.alloc (.cells cs 65))):=fun cs=>(Below.refl w.heap.size w).alloc (Nat.le_refl _) (.cells cs 65)
 go_enter Tryz.func103,Tryz.ntmps103
 go_wp2
 refine bodyPost_ret (v:=textsV callsL) (by simp [results,Tryz.results103,go_sem];rfl) rfl ⟨rfl,HB.out _⟩
set_option maxRecDepth 100000 in
theorem sums_calls (w : World) : Calls Tryz.prog 104 #[] w fun e w'=>e=.returned (textsV sumsL)∧Below w.heap.size w w':=by
 have HB : Hid (∀ cs,Below w.heap.size w (w.alloc (.cells cs 65))):=fun cs=>(Below.refl w.heap.size w).alloc (Nat.le_refl _) (.cells cs 65)
 go_enter Tryz.func104,Tryz.ntmps104
 go_wp2
 refine bodyPost_ret (v:=textsV sumsL) (by simp [results,Tryz.results104,go_sem];rfl) rfl ⟨rfl,HB.out _⟩
end Go.Proofs.YtefcbgnckgapgaaGreatDoor
namespace Go.Proofs.YtefcbgnckgapgaaGreatDoor
open Go.RowKit Go.Lib Go.Op
def UBlk (w : World) (g : Nat) : Prop:=∃ cs t,w.heap[g]?=some (.cells cs t (0,0))
theorem UBlk.keep {K : Nat→Prop} {w w' : World} (hf : TFr K w w') {g : Nat} (hg : ¬ K g) (h : UBlk w g) : UBlk w' g:=by
 obtain ⟨cs,t,hb⟩:=h
 exact ⟨cs,t,(hf.block g (Array.getElem?_eq_some_iff.1 hb).1 hg).trans hb⟩
def ExK (K : Nat→Prop) (w : World) : Nat→Value→List PEx→Prop
 | 0,kv,ks=>(∃ a c,kv=.slice a 0 c)∧ks=[]
 | d+1,kv,ks=>∃ a c,kv=.slice a ks.length c∧∀ j x,ks[j]?=some x→∃ g o kv',a=some ⟨g,o,none⟩∧(¬ K g∧(K 0→UBlk w g)) ∧
    (w.cell? ⟨g,o+j*7,none⟩=some (.int .i64 x.k)∧w.cell? ⟨g,o+j*7+1,none⟩=some (.int .i64 x.v.k)∧w.cell? ⟨g,o+j*7+2,none⟩=some (.int .i64 x.v.n)∧w.cell? ⟨g,o+j*7+3,none⟩=some (.string (strB x.v.s))∧w.cell? ⟨g,o+j*7+4,none⟩=some (.string (strB x.x))∧w.cell? ⟨g,o+j*7+5,none⟩=some (.string (strB x.f))∧w.cell? ⟨g,o+j*7+6,none⟩=some kv') ∧
    ExK K w d kv' x.ks
theorem ExK.slice {K : Nat→Prop} {w : World} {d : Nat} {kv : Value} {ks : List PEx} (h : ExK K w d kv ks) : ∃ a c,kv=.slice a ks.length c:=by
 cases d with
 | zero=>obtain ⟨⟨a,c,rfl⟩,rfl⟩:=h;exact ⟨a,c,rfl⟩
 | succ d=>obtain ⟨a,c,rfl,_⟩:=h;exact ⟨a,c,rfl⟩
theorem ExK.keep {K : Nat→Prop} {w w' : World} (hf : TFr K w w') : ∀ {d : Nat} {kv : Value} {ks : List PEx},ExK K w d kv ks→ExK K w' d kv ks
 | 0,_,_,h=>h
 | d+1,kv,ks,⟨a,c,e,h⟩=>⟨a,c,e,fun j x hj=>by
   obtain ⟨g,o,kv',ea,hg,⟨h0,h1,h2,h3,h4,h5,h6⟩,hk⟩:=h j x hj
   exact ⟨g,o,kv',ea,⟨hg.1,fun z=>(hg.2 z).keep hf hg.1⟩,⟨hf.cell h0 hg.1,hf.cell h1 hg.1,hf.cell h2 hg.1,hf.cell h3 hg.1,hf.cell h4 hg.1,hf.cell h5 hg.1,hf.cell h6 hg.1⟩,ExK.keep hf hk⟩⟩
theorem ExK.mono {K K' : Nat→Prop} (hs : ∀ k,K' k→K k) {w : World} : ∀ {d : Nat} {kv : Value} {ks : List PEx},ExK K w d kv ks→ExK K' w d kv ks
 | 0,_,_,h=>h
 | d+1,kv,ks,⟨a,c,e,h⟩=>⟨a,c,e,fun j x hj=>by
   obtain ⟨g,o,kv',ea,hg,hc,hk⟩:=h j x hj
   exact ⟨g,o,kv',ea,⟨fun hn=>hg.1 (hs g hn),fun z=>hg.2 (hs 0 z)⟩,hc,ExK.mono hs hk⟩⟩
theorem ExK.up {K : Nat→Prop} {w : World} : ∀ {d : Nat} {kv : Value} {ks : List PEx},ExK K w d kv ks→ExK K w (d+1) kv ks
 | 0,kv,ks,⟨⟨a,c,e⟩,h0⟩=>by
   subst h0
   exact ⟨a,c,e,fun j x hj=>by simp at hj⟩
 | d+1,kv,ks,⟨a,c,e,h⟩=>⟨a,c,e,fun j x hj=>by
   obtain ⟨g,o,kv',ea,hg,hc,hk⟩:=h j x hj
   exact ⟨g,o,kv',ea,hg,hc,ExK.up hk⟩⟩
theorem ExK.le {K : Nat→Prop} {w : World} {d : Nat} {kv : Value} {ks : List PEx} (h : ExK K w d kv ks) : ∀ {e : Nat},d≤e→ExK K w e kv ks:=fun {e} he=>by
 induction e with
 | zero=>obtain rfl : d=0:=by omega
         exact h
 | succ e ih =>
   by_cases h2 : d=e+1
   ·rw [← h2];exact h
   ·exact (ih (by omega)).up
theorem ExK.nil (K : Nat→Prop) (w : World) : ExK K w 0 (.slice none 0 0) []:=⟨⟨none,0,rfl⟩,rfl⟩
theorem ExK.keepR {K : Nat→Prop} {R : Nat} {w w' : World} {d : Nat} {kv : Value} {ks : List PEx} (h : ExK K w d kv ks) (hf : TFr (·=R) w w') (hR : K R) : ExK K w' d kv ks:=h.keep (hf.mono (fun _ _ e=>e ▸ hR))
theorem ExK.set {K : Nat→Prop} {w : World} {d : Nat} {kv : Value} {ks : List PEx} (h : ExK K w d kv ks) {b : Nat} (hb : K b) (k : Nat) (v : Value) : ExK K (w.setCell ⟨b,k,none⟩ v) d kv ks:=h.keepR (TFr.at b k v) hb
theorem ExK.after {w w1 : World} {W : World} {d : Nat} {kv : Value} {ks : List PEx} (h : ExK (· < w1.heap.size) W d kv ks) (hb : w.heap.size≤w1.heap.size) : ExK (· < w.heap.size) W d kv ks:=h.mono (fun _ hk=>Nat.lt_of_lt_of_le hk hb)
def XBlk (w : World) (b : Nat) (t0 t1 t2 t3 t4 t5 t6 : Value) : Prop:=w.heap[b]?=some (.cells #[t0,t1,t2,t3,t4,t5,t6] 40 (0,0))
section
variable {w w' : World} {b : Nat} {t0 t1 t2 t3 t4 t5 t6 : Value}
theorem XBlk.new (w : World) (t0 t1 t2 t3 t4 t5 t6 : Value) : XBlk (w.alloc (.cells #[t0,t1,t2,t3,t4,t5,t6] 40)) w.heap.size t0 t1 t2 t3 t4 t5 t6:=heap_alloc_new w _
theorem XBlk.all (h : XBlk w b t0 t1 t2 t3 t4 t5 t6) : w.cell? ⟨b,0,none⟩=some t0∧w.cell? ⟨b,1,none⟩=some t1∧w.cell? ⟨b,2,none⟩=some t2∧w.cell? ⟨b,3,none⟩=some t3∧w.cell? ⟨b,4,none⟩=some t4∧w.cell? ⟨b,5,none⟩=some t5∧w.cell? ⟨b,6,none⟩=some t6∧w.frozen? ⟨b,0,none⟩=false∧w.frozen? ⟨b,1,none⟩=false∧w.frozen? ⟨b,2,none⟩=false∧w.frozen? ⟨b,3,none⟩=false∧w.frozen? ⟨b,4,none⟩=false∧w.frozen? ⟨b,5,none⟩=false∧w.frozen? ⟨b,6,none⟩=false:=⟨tcell h rfl,tcell h rfl,tcell h rfl,tcell h rfl,tcell h rfl,tcell h rfl,tcell h rfl,tfrozen h,tfrozen h,tfrozen h,tfrozen h,tfrozen h,tfrozen h,tfrozen h⟩
theorem XBlk.keep {K : Nat→Prop} (h : XBlk w b t0 t1 t2 t3 t4 t5 t6) (hf : TFr K w w') (hk : ¬ K b) : XBlk w' b t0 t1 t2 t3 t4 t5 t6:=(hf.block b (Array.getElem?_eq_some_iff.1 h).1 hk).trans h
theorem XBlk.set4 (h : XBlk w b t0 t1 t2 t3 t4 t5 t6) (v : Value) : XBlk (w.setCell ⟨b,4,none⟩ v) b t0 t1 t2 t3 v t5 t6:=by
 unfold XBlk
 rw [tsetCell_blk h]
 rfl
theorem XBlk.set5 (h : XBlk w b t0 t1 t2 t3 t4 t5 t6) (v : Value) : XBlk (w.setCell ⟨b,5,none⟩ v) b t0 t1 t2 t3 t4 v t6:=by
 unfold XBlk
 rw [tsetCell_blk h]
 rfl
theorem XBlk.lt (h : XBlk w b t0 t1 t2 t3 t4 t5 t6) : b < w.heap.size:=(Array.getElem?_eq_some_iff.1 h).1
end
theorem RdTo.set {w w' : World} {R T E : Nat} {s : RS} (h : RdTo R T E s w w') (hR : R < w.heap.size) {b : Nat} (hb : w.heap.size≤b) (k : Nat) (v : Value) : RdTo R T E s w (w'.setCell ⟨b,k,none⟩ v) :=
 ⟨h.rd.other (TFr.at b k v) (fun j hj e=>by omega),h.fr.setCell (p:=⟨b,k,none⟩) (fun hlt=>absurd hlt (by show ¬ b < _;omega)) v⟩
theorem RdTo.set7 {w w' : World} {R T E : Nat} {s : RS} (h : RdTo R T E s w w') (hR : R < w.heap.size) {b : Nat} (hb : w.heap.size≤b) (t0 t1 t2 t3 t4 t5 t6 : Value) : RdTo R T E s w (((((((w'.setCell ⟨b,0,none⟩ t0).setCell ⟨b,1,none⟩ t1).setCell ⟨b,2,none⟩ t2).setCell ⟨b,3,none⟩ t3).setCell ⟨b,4,none⟩ t4).setCell ⟨b,5,none⟩ t5).setCell ⟨b,6,none⟩ t6) :=
 ((((((h.set hR hb _ _).set hR hb _ _).set hR hb _ _).set hR hb _ _).set hR hb _ _).set hR hb _ _).set hR hb _ _
theorem ExK.set7 {K : Nat→Prop} {w : World} {d : Nat} {kv : Value} {ks : List PEx} (h : ExK K w d kv ks) {b : Nat} (hb : K b) (t0 t1 t2 t3 t4 t5 t6 : Value) : ExK K (((((((w.setCell ⟨b,0,none⟩ t0).setCell ⟨b,1,none⟩ t1).setCell ⟨b,2,none⟩ t2).setCell ⟨b,3,none⟩ t3).setCell ⟨b,4,none⟩ t4).setCell ⟨b,5,none⟩ t5).setCell ⟨b,6,none⟩ t6) d kv ks :=
 ((((((h.set hb _ _).set hb _ _).set hb _ _).set hb _ _).set hb _ _).set hb _ _).set hb _ _
def exV (x : PEx) (kv : Value) : Value:=.agg #[.int .i64 x.k,.int .i64 x.v.k,.int .i64 x.v.n,.string (strB x.v.s),.string (strB x.x),.string (strB x.f),kv]
def ExTo (R T E : Nat) (p : PEx × RS) (w : World) (e : Ending) (w' : World) : Prop:=∃ kv d,e=.returned (exV p.1 kv)∧ExK (· < w.heap.size) w' d kv p.1.ks∧RdTo R T E p.2 w w'
section
variable {w : World} {R T E : Nat} {s : RS}
set_option maxHeartbeats 1000000 in
set_option maxRecDepth 100000 in
theorem fieldX_calls (h : RdR w R T E s) (k : Int) : Calls Tryz.prog 133 #[.pointer (some ⟨R,0,none⟩),.int .i64 k] w (ExTo R T E (fieldT E s k) w):=by
 have H:=hid h
 have hR:=h.lt
 obtain ⟨a,ha⟩ : ∃ a,nameT E s=a:=⟨_,rfl⟩
 obtain ⟨b,hb⟩ : ∃ b,nameT E (needT E a.2 4 [46])=b:=⟨_,rfl⟩
 have hs : fieldT E s k=(.mk k noV a.1 b.1 [],b.2):=by unfold fieldT;rw [ha];dsimp only;rw [hb]
 rw [hs]
 have HBB:=hid hb
 have hb1:=(Below.refl w.heap.size w).alloc (Nat.le_refl _) (.cells #[.int .i64 0,.int .i64 0,.int .i64 0,.string ⟨#[]⟩,.string ⟨#[]⟩,.string ⟨#[]⟩,.slice none 0 0] 40)
 have hb2:=hb1.alloc hb1.size (.cells #[.int .i64 k,.int .i64 0,.int .i64 0,.string ⟨#[]⟩,.string ⟨#[]⟩,.string ⟨#[]⟩,.slice none 0 0] 40)
 have hx4:=(XBlk.new w (.int .i64 0) (.int .i64 0) (.int .i64 0) (.string ⟨#[]⟩) (.string ⟨#[]⟩) (.string ⟨#[]⟩) (.slice none 0 0)).keep (TFr.of_below (K:=fun _=>False) ((Below.refl _ _).alloc (Nat.le_refl _) (.cells #[.int .i64 k,.int .i64 0,.int .i64 0,.string ⟨#[]⟩,.string ⟨#[]⟩,.string ⟨#[]⟩,.slice none 0 0] 40))) id
 have hx5:=XBlk.new (w.alloc (.cells #[.int .i64 0,.int .i64 0,.int .i64 0,.string ⟨#[]⟩,.string ⟨#[]⟩,.string ⟨#[]⟩,.slice none 0 0] 40)) (.int .i64 k) (.int .i64 0) (.int .i64 0) (.string ⟨#[]⟩) (.string ⟨#[]⟩) (.string ⟨#[]⟩) (.slice none 0 0)
 rw [show (w.alloc (.cells #[.int .i64 0,.int .i64 0,.int .i64 0,.string ⟨#[]⟩,.string ⟨#[]⟩,.string ⟨#[]⟩,.slice none 0 0] 40)).heap.size=w.heap.size+1 by simp] at hx5
 have HN:=hid (nameR_calls (h.keep hb2))
 rw [ha] at HN
 have HB2:=hid hb2
 have HX4:=hid hx4
 have HX5:=hid hx5
 clear h ha hb hs hb1 hb2 hx4 hx5
 go_enter Tryz.func133,Tryz.ntmps133
 go_wp2_with fail
 with_reducible refine HN.out.mono ?_
 rintro e w1 ⟨rfl,hd1⟩
 have hf1:=hd1.fr
 have y4:=hid (HX4.out.keep hf1 (by omega))
 have y5:=HX5.out.keep hf1 (by omega)
 have D1:=hid (RdTo.after HB2.out hd1)
 clear hd1 hf1
 have Y5:=hid (y5.set4 (.string (strB a.1)))
 obtain ⟨c0,c1,c2,c3,c4,c5,c6,f0,f1,f2,f3,f4,f5,f6⟩:=y5.all
 have D2:=hid (D1.out.set hR (b:=w.heap.size+1) (by omega) 4 (.string (strB a.1)))
 have Y4:=hid (y4.out.keep (TFr.at (w.heap.size+1) 4 (.string (strB a.1))) (by omega))
 clear y4 y5
 have HM:=hid (fun W=>sign_mark ⟨#[46]⟩ W)
 go_wp2_with fail
 with_reducible refine (HM.out _).mono ?_
 rintro e w2 ⟨rfl,hb2⟩
 have D3:=hid (D2.out.then hb2)
 have Z4:=hid (Y4.out.keep (TFr.of_below (K:=fun _=>False) hb2) id)
 have Z5:=hid (Y5.out.keep (TFr.of_below (K:=fun _=>False) hb2) id)
 have HND : Hid (Calls Tryz.prog 35 #[.pointer (some ⟨R,0,none⟩),.agg #[.int .i64 4,.string ⟨#[46]⟩]] w2 fun e w'=>e=.returned (.tuple #[])∧RdTo R T E (needT E a.2 4 [46]) w2 w'):=needS_calls D3.out.rd [46]
 clear hb2 Y4 Y5 D2 HM c0 c1 c2 c3 c4 c5 c6 f0 f1 f2 f3 f4 f5 f6
 go_wp2_with fail
 with_reducible refine HND.out.mono ?_
 rintro e w3 ⟨rfl,hd3⟩
 have V4:=hid (Z4.out.keep hd3.fr (by omega))
 have V5:=hid (Z5.out.keep hd3.fr (by omega))
 have D4:=hid (D3.out.trans hd3)
 have HN2:=nameR_calls hd3.rd
 rw [HBB.out] at HN2
 have HN3:=hid HN2
 clear hd3 Z4 Z5 HN2
 go_wp2_with fail
 with_reducible refine HN3.out.mono ?_
 rintro e w4 ⟨rfl,hd4⟩
 have U4:=hid ((V4.out.keep hd4.fr (by omega)).keep (TFr.at (w.heap.size+1) 5 (.string (strB b.1))) (by omega))
 have u5:=V5.out.keep hd4.fr (by omega)
 obtain ⟨c0,c1,c2,c3,c4,c5,c6,f0,f1,f2,f3,f4,f5,f6⟩:=u5.all
 obtain ⟨d0,d1,d2,d3,d4,d5,d6,g0,g1,g2,g3,g4,g5,g6⟩:=(u5.set5 (.string (strB b.1))).all
 obtain ⟨r0,r1,r2,r3,r4,r5,r6,h0,h1,h2,h3,h4,h5,h6⟩:=U4.out.all
 have D5:=hid ((D4.out.trans hd4).set hR (b:=w.heap.size+1) (by omega) 5 (.string (strB b.1)))
 clear hd4 V4 V5 u5 U4 HBB HN HN3
 go_wp2
 refine bodyPost_ret (v:=exV (.mk k noV a.1 b.1 []) (.slice none 0 0)) (by simp [results,Tryz.results133,go_sem,r0,r1,r2,r3,r4,r5,r6];rfl) rfl ⟨_,0,rfl,ExK.nil _ _,?_⟩
 exact D5.out.set7 hR (Nat.le_refl _) _ _ _ _ _ _ _
end
end Go.Proofs.YtefcbgnckgapgaaGreatDoor
