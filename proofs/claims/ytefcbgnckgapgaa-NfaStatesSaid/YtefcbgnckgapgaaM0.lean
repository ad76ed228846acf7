/- Queries in plain words: expressions, and what the reader of tokens does, call by call. | The states of a query, and the rows of names that it accepts, in plain words. | Sets of places as bits: has, with. | Queries: what stays; tokens and the reader in memory; words that are kept, names. | Queries: what the reader does with the token that comes. | Queries: what the reader does where something is wrong; tokens of a kind. | Queries: words that are kept. | Queries: numbers; the first of some texts that comes. | Queries: expressions in memory; fields, calls, values. | Queries: calls and values. | Queries: values. | Queries in plain words: nothing that is read makes more tokens. | Queries: expressions. | Queries: brackets, terms. | Queries: terms. | Queries: rows of one's own, of elements that have memory of their own. -/
import Derived.Test.YtefcbgnckgapgaaL0x
import Derived.Test.YtefcbgnckgapgaaE0e
import Derived.Test.YtefcbgnckgapgaaV3
import Derived.Test.YtefcbgnckgapgaaL1x
import Derived.Test.YtefcbgnckgapgaaE1e
import Derived.Lib.Hide
import Derived.Test.YtefcbgnckgapgaaL5x
namespace Go.Proofs.Ytefcbgnckgapgaa
open Go.Lib
inductive PEx where
 | mk (k : Int) (v : PVal) (x f : List UInt8) (ks : List PEx)
namespace PEx
def k : PEx→Int|.mk k _ _ _ _=>k
def v : PEx→PVal|.mk _ v _ _ _=>v
def x : PEx→List UInt8|.mk _ _ x _ _=>x
def f : PEx→List UInt8|.mk _ _ _ f _=>f
def ks : PEx→List PEx|.mk _ _ _ _ ks=>ks
end PEx
def noV : PVal:=⟨0,0,[]⟩
def noX : PEx:=.mk 0 noV [] [] []
structure PIt where
 no : Bool
 ns : List (List UInt8)
 x : List UInt8
 mode : Int
structure PPr where
 l : PEx
 cmp : Int
 r : PEx
structure PQu where
 its : List PIt
 prs : List PPr
 within : Int
 by_ : List UInt8
 pick : Int
def noQ : PQu:=⟨[],[],0,[],0⟩
structure RS where
 l : List XTok
 deep : Nat
 wrong : Int
section
variable (E : Nat)
def nextT (s : RS) : XTok:=match s.l with
 | []=>⟨0,[],E⟩
 | t :: _=>t
def isT (s : RS) (k : Nat) (b : List UInt8) : Bool:=decide ((nextT E s).k=k∧(nextT E s).b=b)
def takeT (s : RS) (k : Nat) (b : List UInt8) : Bool × RS:=if isT E s k b then (true,⟨s.l.tail,s.deep,s.wrong⟩) else (false,s)
def failT (s : RS) : RS:=⟨[],s.deep,if s.wrong=-1 then ((nextT E s).at_ : Int) else s.wrong⟩
def needT (s : RS) (k : Nat) (b : List UInt8) : RS:=if (takeT E s k b).1 then (takeT E s k b).2 else failT E (takeT E s k b).2
def ofT (s : RS) (k : Nat) : List UInt8 × RS:=if (nextT E s).k=k then ((nextT E s).b,⟨s.l.tail,s.deep,s.wrong⟩) else ([],failT E s)
def numZ (b : List UInt8) : Int:=match parseIntB 64 b with
 | .ok v=>v
 | _=>0
def numberT (s : RS) : Int × RS:=(numZ (ofT E s 2).1,(ofT E s 2).2)
def keysL : List (List UInt8):=[[115,101,113],[116,104,101,110],[110,111,116],[111,114],[119,104,101,114,101],[97,110,100],[119,105,116,104,105,110],[98,121],[112,105,99,107],[97,110,121],[110,101,120,116],[115,116,114,105,99,116],[116,114,117,101],[102,97,108,115,101],[99,111,117,110,116],[115,117,109],[109,105,110],[109,97,120]]
def keyB (b : List UInt8) : Bool:=keysL.contains b
def nameB (b : List UInt8) : Bool:=wordB b && !keyB b
def nameT (s : RS) : List UInt8 × RS:=ofT E (if keyB (nextT E s).b then failT E s else s) 1
def amongT (s : RS) (k : Nat) : Nat→List (List UInt8)→Nat × RS
 | _,[]=>(0,s)
 | n,b :: r=>if isT E s k b then (n,(takeT E s k b).2) else amongT s k (n+1) r
def chooseT (s : RS) (k : Nat) (l : List (List UInt8)) : Nat × RS:=if (amongT E s k 0 l).1=0 then (0,failT E (amongT E s k 0 l).2) else amongT E s k 0 l
def cmpsL : List (List UInt8):=[[],[61],[33,61],[60],[60,61],[62],[62,61],[],[]]
def modesL : List (List UInt8):=[[],[],[43],[63],[],[],[],[],[]]
def picksL : List (List UInt8):=[[],[97,110,121],[110,101,120,116],[115,116,114,105,99,116],[],[],[],[],[]]
def callsL : List (List UInt8):=[[],[],[],[99,111,117,110,116],[115,117,109],[109,105,110],[109,97,120],[],[]]
def sumsL : List (List UInt8):=[[],[],[],[],[],[],[],[43],[45]]
def bTrue : List UInt8:=[116,114,117,101]
def bFalse : List UInt8:=[102,97,108,115,101]
def fieldT (s : RS) (k : Int) : PEx × RS :=
 let a:=nameT E s
 let b:=nameT E (needT E a.2 4 [46])
 (.mk k noV a.1 b.1 [],b.2)
def callT (s : RS) (k : Int) : PEx × RS :=
 let s1:=needT E s 4 [40]
 let a:=if k=3 then (PEx.mk 3 noV (nameT E s1).1 [] [],(nameT E s1).2) else fieldT E s1 k
 (a.1,needT E a.2 4 [41])
def valT (s : RS) : PVal × Bool × RS :=
 if (nextT E s).k=2 then (⟨1,(numberT E s).1,[]⟩,true,(numberT E s).2)
 else if isT E s 4 [45] then
  let s1:=(takeT E s 4 [45]).2
  (⟨1,- (numberT E s1).1,[]⟩,true,(numberT E s1).2)
 else if (nextT E s).k=3 then (⟨2,0,(ofT E s 3).1⟩,true,(ofT E s 3).2)
 else if isT E s 1 bFalse then (⟨3,0,[]⟩,true,(takeT E s 1 bFalse).2)
 else if isT E s 1 bTrue then (⟨3,1,[]⟩,true,(takeT E s 1 bTrue).2)
 else (noV,false,s)
def sumsT (term : RS→PEx × RS) : Nat→PEx→RS→PEx × RS
 | 0,x,s=>(x,s)
 | n+1,x,s =>
   if (amongT E s 4 0 sumsL).1=0 then (x,(amongT E s 4 0 sumsL).2)
   else
    let t:=term (amongT E s 4 0 sumsL).2
    sumsT term n (.mk ((amongT E s 4 0 sumsL).1 : Int) noV [] [] [x,t.1]) t.2
def exprT (term : RS→PEx × RS) (n : Nat) (s : RS) : PEx × RS:=sumsT E term n (term s).1 (term s).2
def innerT (term : RS→PEx × RS) (n : Nat) (s : RS) : PEx × RS :=
 let s1:=needT E (if s.deep=6 then failT E s else s) 4 [40]
 let a:=exprT E term n ⟨s1.l,s1.deep+1,s1.wrong⟩
 (a.1,needT E ⟨a.2.l,a.2.deep - 1,a.2.wrong⟩ 4 [41])
def termT : Nat→RS→PEx × RS
 | 0,s=>(noX,s)
 | n+1,s =>
   if (valT E s).2.1 then (.mk 1 (valT E s).1 [] [] [],(valT E s).2.2)
   else if isT E s 4 [40] then innerT E (termT n) n s
   else if (amongT E s 1 0 callsL).1=0 then fieldT E (amongT E s 1 0 callsL).2 2
   else callT E (amongT E s 1 0 callsL).2 (amongT E s 1 0 callsL).1
def rowT {α : Type} (b : List UInt8) (one : RS→α × RS) : Nat→List α→RS→List α × RS
 | 0,l,s=>(l,s)
 | n+1,l,s =>
   if isT E s 1 b then rowT b one n (l++[(one (takeT E s 1 b).2).1]) (one (takeT E s 1 b).2).2
   else (l,s)
def row1T {α : Type} (b : List UInt8) (one : RS→α × RS) (n : Nat) (s : RS) : List α × RS:=rowT E b one n [(one s).1] (one s).2
def wSeq : List UInt8:=[115,101,113]
def wThen : List UInt8:=[116,104,101,110]
def wNot : List UInt8:=[110,111,116]
def wOr : List UInt8:=[111,114]
def wWhere : List UInt8:=[119,104,101,114,101]
def wAnd : List UInt8:=[97,110,100]
def wWithin : List UInt8:=[119,105,116,104,105,110]
def wBy : List UInt8:=[98,121]
def wPick : List UInt8:=[112,105,99,107]
def itemT (n : Nat) (s : RS) : PIt × RS :=
 let a:=row1T E wOr (nameT E) n (takeT E s 1 wNot).2
 let b:=nameT E a.2
 let c:=amongT E b.2 4 0 modesL
 (⟨(takeT E s 1 wNot).1,a.1,b.1,if c.1=0 then 1 else (c.1 : Int)⟩,c.2)
def predT (n : Nat) (s : RS) : PPr × RS :=
 let a:=exprT E (termT E n) n s
 let c:=chooseT E a.2 4 cmpsL
 let b:=exprT E (termT E n) n c.2
 (⟨a.1,(c.1 : Int),b.1⟩,b.2)
def queryT (n : Nat) (s : RS) : PQu × RS :=
 let a:=row1T E wThen (itemT E n) n (needT E s 1 wSeq)
 let p:=if isT E a.2 1 wWhere then row1T E wAnd (predT E n) n (takeT E a.2 1 wWhere).2 else ([],a.2)
 let c:=numberT E (needT E p.2 1 wWithin)
 let b:=if isT E c.2 1 wBy then nameT E (takeT E c.2 1 wBy).2 else ([],c.2)
 let k:=if isT E b.2 1 wPick then chooseT E (takeT E b.2 1 wPick).2 1 picksL else (1,b.2)
 (⟨a.1,p.1,c.1,b.1,(k.1 : Int)⟩,if k.2.l=[] then k.2 else failT E k.2)
end
def rightX : Nat→PEx→Bool
 | 0,_=>false
 | d+1,.mk k v x f ks =>
   if k=1 then decide (x=[]∧f=[]∧ks.length=0) && (v.s.all (fun c=>decide (32≤c.toNat∧c.toNat≤126∧c.toNat≠39)) && rightB v)
   else if k=3 then decide (v=noV∧f=[]∧ks.length=0) && nameB x
   else if k=2∨k=4∨k=5∨k=6 then decide (v=noV∧ks.length=0) && (nameB x && nameB f)
   else if k=7∨k=8 then decide (v=noV∧x=[]∧f=[]) && (match ks with
    | [a,b]=>rightX d a && rightX d b
    | _=>false)
   else false
def unlikeB (l : List (List UInt8)) : Bool:=l.all nameB && decide l.Nodup
def rightI (i : PIt) : Bool :=
 if i.mode < 1∨3 < i.mode∨(i.no=true∧i.mode≠1) then false else decide (0 < i.ns.length∧i.ns.length≤3) && unlikeB i.ns
def rightIs (l : List PIt) : Bool :=
 match l with
 | []=>false
 | i :: _=>!(decide (6 < l.length) || (i.no || decide (i.mode=3))) && (l.all rightI && unlikeB (l.map (·.x)))
def rightP (p : PPr) : Bool:=decide (1≤p.cmp∧p.cmp≤6) && (rightX 6 p.l && rightX 6 p.r)
def rightQ (q : PQu) : Bool :=
 rightIs q.its && (decide (q.prs.length≤8) && (q.prs.all rightP && (decide (0≤q.within∧q.within≤1099511627776) && ((decide (q.by_=[]) || nameB q.by_) && decide (1≤q.pick∧q.pick≤3)))))
def parseQ (l : List UInt8) : PQu × Nat × Nat :=
 if (readX l).2.1≠0 then (noQ,(readX l).2.1,(readX l).2.2)
 else
  let r:=queryT l.length ((readX l).1.length+1) ⟨(readX l).1,0,-1⟩
  if r.2.wrong≠-1 then (noQ,81,r.2.wrong.toNat)
  else if rightQ r.1 then (r.1,0,0) else (noQ,2,0)
end Go.Proofs.Ytefcbgnckgapgaa
namespace Go.Proofs.Ytefcbgnckgapgaa
open Go.Lib
structure PSt where
 nx : List Nat
 gd : List Nat
 fin : Bool
def behT : List PIt→Nat→List Nat→List Nat→PSt
 | [],_,n,g=>⟨n,g,true⟩
 | x :: r,j,n,g=>if x.no then behT r (j+1) n (g++[j]) else if x.mode=3 then behT r (j+1) (n++[j]) g else ⟨n++[j],g,false⟩
def stAt (l : List PIt) (k : Nat) (x : PIt) : PSt:=behT (l.drop (k+1)) (k+1) (if x.mode=2 then [k] else []) []
def stF (l : List PIt) (k : Nat) : PSt:=match l[k]? with
 | some x=>stAt l k x
 | none=>⟨[],[],false⟩
def st0 : PSt:=⟨[0],[],false⟩
def stsN (l : List PIt) : List PSt:=st0 :: (List.range l.length).map (stF l)
theorem stsN_len (l : List PIt) : (stsN l).length=l.length+1:=by simp [stsN]
theorem stsN_zero (l : List PIt) : (stsN l)[0]?=some st0:=rfl
theorem stsN_at {l : List PIt} {k : Nat} {x : PIt} (h : l[k]?=some x) : (stsN l)[k+1]?=some (stAt l k x):=by
 have hk:=(List.getElem?_eq_some_iff.1 h).1
 obtain rfl : l[k]=x:=(List.getElem?_eq_some_iff.1 h).2
 simp [stsN,hk,stF]
def goL : List PIt→Nat→List Nat
 | [],_=>[]
 | x :: r,j=>if x.no then goL r (j+1) else if x.mode=3 then j :: goL r (j+1) else [j]
theorem behT_nx : ∀ (r : List PIt) (j : Nat) (n g : List Nat),(behT r j n g).nx=n++goL r j
 | [],_,n,g=>by simp [behT,goL]
 | x :: r,j,n,g=>by
   unfold behT goL
   split
   ·rw [behT_nx r]
   ·split
    ·rw [behT_nx r]
     simp
    ·rfl
theorem behT_fin : ∀ (r : List PIt) (j : Nat) (n g : List Nat),(behT r j n g).fin=r.all (fun x=>x.no || decide (x.mode=3))
 | [],_,n,g=>by simp [behT]
 | x :: r,j,n,g=>by
   unfold behT
   split
   ·rename_i h
    rw [behT_fin r]
    simp [h]
   ·rename_i h
    split
    ·rename_i h3
     rw [behT_fin r]
     simp [h3]
    ·rename_i h3
     simp [h,h3]
theorem behT_len : ∀ (r : List PIt) (j : Nat) (n g : List Nat),(behT r j n g).nx.length≤n.length+r.length∧(behT r j n g).gd.length≤g.length+r.length
 | [],_,n,g=>by simp [behT]
 | x :: r,j,n,g=>by
   unfold behT
   split
   ·have:=behT_len r (j+1) n (g++[j])
    simp at this ⊢
    omega
   ·split
    ·have:=behT_len r (j+1) (n++[j]) g
     simp at this ⊢
     omega
    ·simp
theorem goL_mem : ∀ {r : List PIt} {j k : Nat},k∈goL r j→j≤k∧k < j+r.length
 | [],j,k,h=>by simp [goL] at h
 | x :: r,j,k,h=>by
   unfold goL at h
   split at h
   ·have:=goL_mem h
    simp
    omega
   ·split at h
    ·rcases List.mem_cons.1 h with rfl|h
     ·simp
     ·have:=goL_mem h
      simp
      omega
    ·obtain rfl : k=j:=by simpa using h
     simp
def docT : List PIt→Nat→List Nat→List Nat→Bool→Bool→PSt
 | [],_,n,g,f,_=>⟨n,g,f⟩
 | x :: r,j,n,g,f,o =>
   let f':=f && (x.no || decide (x.mode=3))
   if o=false then docT r (j+1) n g f' false
   else if x.no then docT r (j+1) n (g++[j]) f' true
   else docT r (j+1) (n++[j]) g f' (decide (x.mode=3))
theorem docT_shut : ∀ (r : List PIt) (j : Nat) (n g : List Nat) (f : Bool),docT r j n g f false=⟨n,g,f && r.all (fun x=>x.no || decide (x.mode=3))⟩
 | [],_,n,g,f=>by simp [docT]
 | x :: r,j,n,g,f=>by
   unfold docT
   dsimp only
   rw [if_pos rfl,docT_shut r]
   simp [Bool.and_assoc]
theorem docT_open : ∀ (r : List PIt) (j : Nat) (n g : List Nat),docT r j n g true true=behT r j n g
 | [],_,n,g=>by simp [docT,behT]
 | x :: r,j,n,g=>by
   unfold docT behT
   dsimp only
   rw [if_neg (by simp)]
   split
   ·rename_i h
    rw [show (true && (x.no || decide (x.mode=3)))=true by simp [h]]
    exact docT_open r _ _ _
   ·rename_i h
    split
    ·rename_i h3
     rw [show (true && (x.no || decide (x.mode=3)))=true by simp [h3],decide_eq_true h3]
     exact docT_open r _ _ _
    ·rename_i h3
     rw [decide_eq_false h3,docT_shut]
     simp [h]
def plusO (x : PIt) : Option PIt:=if x.mode=2 then some x else none
def accGo (f : Option PIt→List PIt→Bool) (name : List UInt8) : List PIt→Bool
 | []=>false
 | x :: r=>if x.no then accGo f name r else (decide (name∈x.ns) && f (plusO x) r) || (decide (x.mode=3) && accGo f name r)
def accR : List (List UInt8)→Option PIt→List PIt→Bool
 | [],_,rest=>rest.all (fun x=>x.no || decide (x.mode=3))
 | name :: ns,p,rest=>(match p with
    | some x=>decide (name∈x.ns) && accR ns p rest
    | none=>false) || accGo (fun y r=>accR ns y r) name rest
def accQ : List PIt→List (List UInt8)→Bool
 | x :: r,name :: ns=>decide (name∈x.ns) && accR ns (plusO x) r
 | _,_=>false
theorem accQ_cons (x : PIt) (r : List PIt) (name : List UInt8) (ns : List (List UInt8)) : accQ (x :: r) (name :: ns)=(decide (name∈x.ns) && accR ns (plusO x) r):=rfl
def accK (l : List PIt) (k : Nat) (ns : List (List UInt8)) : Bool:=match k with
 | 0=>accQ l ns
 | k+1=>match l[k]? with
   | some x=>accR ns (plusO x) (l.drop (k+1))
   | none=>false
theorem accK_succ {l : List PIt} {k : Nat} {x : PIt} (h : l[k]?=some x) (ns : List (List UInt8)) : accK l (k+1) ns=accR ns (plusO x) (l.drop (k+1)):=by
 show (match l[k]? with
  | some x=>accR ns (plusO x) (l.drop (k+1))
  | none=>false)=_
 rw [h]
theorem accGo_iff {f : Option PIt→List PIt→Bool} {name : List UInt8} {l : List PIt} : ∀ {r : List PIt} {i : Nat},l.drop i=r→(accGo f name r=true ↔ ∃ j x,j∈goL r i∧l[j]?=some x∧name∈x.ns∧f (plusO x) (l.drop (j+1))=true)
 | [],i,_=>by simp [accGo,goL]
 | x :: r,i,h=>by
   have hx : l[i]?=some x:=by
    have:=congrArg (fun z=>z[0]?) h
    simpa using this
   have hr : l.drop (i+1)=r:=by
    have:=congrArg List.tail h
    simpa using this
   have ih:=accGo_iff (f:=f) (name:=name) hr
   unfold accGo goL
   split
   ·exact ih
   ·rename_i hno
    simp only [Bool.or_eq_true,Bool.and_eq_true,decide_eq_true_eq,ih]
    split
    ·rename_i h3
     constructor
     ·rintro (⟨h1,h2⟩|⟨_,j,y,h1,h2⟩)
      ·exact ⟨i,x,List.mem_cons_self,hx,h1,by rw [hr];exact h2⟩
      ·exact ⟨j,y,List.mem_cons_of_mem _ h1,h2⟩
     ·rintro ⟨j,y,h1,h2,h4,h5⟩
      rcases List.mem_cons.1 h1 with rfl|h1
      ·rw [hx] at h2
       cases h2
       exact .inl ⟨h4,by rw [← hr];exact h5⟩
      ·exact .inr ⟨h3,j,y,h1,h2,h4,h5⟩
    ·rename_i h3
     constructor
     ·rintro (⟨h1,h2⟩|⟨e,_⟩)
      ·exact ⟨i,x,List.mem_singleton.2 rfl,hx,h1,by rw [hr];exact h2⟩
      ·exact absurd e h3
     ·rintro ⟨j,y,h1,h2,h4,h5⟩
      obtain rfl:=List.mem_singleton.1 h1
      rw [hx] at h2
      cases h2
      exact .inl ⟨h4,by rw [← hr];exact h5⟩
theorem accR_cons {l : List PIt} {k : Nat} {y : PIt} (hy : l[k]?=some y) (name : List UInt8) (ns : List (List UInt8)) : accR (name :: ns) (plusO y) (l.drop (k+1))=true ↔ ∃ j x,j∈(stAt l k y).nx∧l[j]?=some x∧name∈x.ns∧accK l (j+1) ns=true:=by
 have hk : ∀ j x,l[j]?=some x→accK l (j+1) ns=accR ns (plusO x) (l.drop (j+1)):=fun j x hx=>accK_succ hx ns
 have h1:=accGo_iff (f:=fun y r=>accR ns y r) (name:=name) (l:=l) (r:=l.drop (k+1)) (i:=k+1) rfl
 unfold accR stAt
 rw [behT_nx]
 unfold plusO at *
 by_cases h2 : y.mode=2
 ·rw [if_pos h2,if_pos h2] at *
  simp only [Bool.or_eq_true,Bool.and_eq_true,decide_eq_true_eq]
  constructor
  ·rintro (⟨h3,h4⟩|h3)
   ·exact ⟨k,y,by simp,hy,h3,by rw [hk k y hy,if_pos h2];exact h4⟩
   ·obtain ⟨j,x,h4,h5,h6,h7⟩:=h1.1 h3
    exact ⟨j,x,by simp [h4],h5,h6,by rw [hk j x h5];exact h7⟩
  ·rintro ⟨j,x,h4,h5,h6,h7⟩
   rw [hk j x h5] at h7
   rcases List.mem_append.1 h4 with h4|h4
   ·obtain rfl:=List.mem_singleton.1 h4
    rw [hy] at h5
    cases h5
    rw [if_pos h2] at h7
    exact .inl ⟨h6,h7⟩
   ·exact .inr (h1.2 ⟨j,x,h4,h5,h6,h7⟩)
 ·rw [if_neg h2,if_neg h2] at *
  simp only [Bool.false_or,List.nil_append]
  rw [h1]
  constructor
  ·rintro ⟨j,x,h4,h5,h6,h7⟩
   exact ⟨j,x,h4,h5,h6,by rw [hk j x h5];exact h7⟩
  ·rintro ⟨j,x,h4,h5,h6,h7⟩
   exact ⟨j,x,h4,h5,h6,by rw [← hk j x h5];exact h7⟩
def takesN (l : List PIt) (v : Nat) (name : List UInt8) (i : Nat) : Bool :=
 (match l[i]? with
   | some x=>decide (name∈x.ns)
   | none=>false) && (List.range (l.length+1)).any (fun k=>v.testBit k && (match (stsN l)[k]? with
   | some s=>decide (i∈s.nx)
   | none=>false))
def stepTo (l : List PIt) (v : Nat) (name : List UInt8) : Nat→Nat
 | 0=>0
 | i+1=>if takesN l v name i then stepTo l v name i ||| 2 ^ (i+1) else stepTo l v name i
def stepN (l : List PIt) (v : Nat) (name : List UInt8) : Nat:=stepTo l v name l.length
def runN (l : List PIt) (v : Nat) (names : List (List UInt8)) : Nat:=names.foldl (stepN l) v
def endN (l : List PIt) (v : Nat) : Bool:=(List.range (l.length+1)).any (fun k=>v.testBit k && (match (stsN l)[k]? with
    | some s=>s.fin
    | none=>false))
theorem stepTo_bit (l : List PIt) (v : Nat) (name : List UInt8) : ∀ (m k : Nat),(stepTo l v name m).testBit k=true ↔ ∃ i,k=i+1∧i < m∧takesN l v name i=true
 | 0,k=>by simp [stepTo]
 | m+1,k=>by
   have ih:=stepTo_bit l v name m k
   unfold stepTo
   split
   ·rename_i h
    rw [Nat.testBit_or,Bool.or_eq_true,ih,Nat.testBit_two_pow,decide_eq_true_eq]
    constructor
    ·rintro (⟨i,h1,h2,h3⟩|h1)
     ·exact ⟨i,h1,by omega,h3⟩
     ·exact ⟨m,by omega,by omega,h⟩
    ·rintro ⟨i,h1,h2,h3⟩
     by_cases hi : i=m
     ·exact .inr (by omega)
     ·exact .inl ⟨i,h1,by omega,h3⟩
   ·rename_i h
    rw [ih]
    constructor
    ·rintro ⟨i,h1,h2,h3⟩
     exact ⟨i,h1,by omega,h3⟩
    ·rintro ⟨i,h1,h2,h3⟩
     by_cases hi : i=m
     ·exact absurd (hi ▸ h3) h
     ·exact ⟨i,h1,by omega,h3⟩
theorem stepTo_lt (l : List PIt) (v : Nat) (name : List UInt8) : ∀ m,stepTo l v name m < 2 ^ (m+1)
 | 0=>by simp [stepTo]
 | m+1=>by
   have ih:=stepTo_lt l v name m
   have h2 : (2 : Nat) ^ (m+1) < 2 ^ (m+2):=Nat.pow_lt_pow_right (by omega) (by omega)
   unfold stepTo
   split
   ·exact Nat.or_lt_two_pow (by omega) (by omega)
   ·omega
theorem takesN_iff {l : List PIt} {v : Nat} {name : List UInt8} {i : Nat} : takesN l v name i=true ↔ (∃ x,l[i]?=some x∧name∈x.ns)∧∃ k s,(stsN l)[k]?=some s∧v.testBit k=true∧i∈s.nx:=by
 unfold takesN
 rw [Bool.and_eq_true,List.any_eq_true]
 constructor
 ·rintro ⟨h1,k,h2,h3⟩
  constructor
  ·split at h1
   ·rename_i x hx
    exact ⟨x,hx,by simpa using h1⟩
   ·cases h1
  ·rw [Bool.and_eq_true] at h3
   obtain ⟨h3,h4⟩:=h3
   split at h4
   ·rename_i s hs
    exact ⟨k,s,hs,h3,by simpa using h4⟩
   ·cases h4
 ·rintro ⟨⟨x,hx,h1⟩,k,s,h2,h3,h4⟩
  constructor
  ·rw [hx]
   simpa using h1
  ·have hk:=(List.getElem?_eq_some_iff.1 h2).1
   rw [stsN_len] at hk
   exact ⟨k,List.mem_range.2 hk,by rw [h2,h3];simpa using h4⟩
theorem accK_nil {l : List PIt} {k : Nat} {s : PSt} (h : (stsN l)[k]?=some s) : accK l k []=s.fin:=by
 match k with
 | 0 =>
   rw [stsN_zero] at h
   cases h
   unfold accK accQ
   cases l <;> rfl
 | k+1 =>
   have hk:=(List.getElem?_eq_some_iff.1 h).1
   rw [stsN_len] at hk
   have hx : l[k]?=some l[k]:=List.getElem?_eq_getElem (by omega)
   rw [stsN_at hx] at h
   cases h
   rw [accK_succ hx]
   unfold accR stAt
   rw [behT_fin]
theorem accK_cons {l : List PIt} {k : Nat} {s : PSt} (h : (stsN l)[k]?=some s) (name : List UInt8) (ns : List (List UInt8)) : accK l k (name :: ns)=true ↔ ∃ j x,j∈s.nx∧l[j]?=some x∧name∈x.ns∧accK l (j+1) ns=true:=by
 match k with
 | 0 =>
   rw [stsN_zero] at h
   cases h
   cases l with
   | nil=>simp [accK,accQ,st0]
   | cons x r=>simp [accK,accQ,st0]
 | k+1 =>
   have hk:=(List.getElem?_eq_some_iff.1 h).1
   rw [stsN_len] at hk
   have hx : l[k]?=some l[k]:=List.getElem?_eq_getElem (by omega)
   rw [stsN_at hx] at h
   cases h
   rw [← accR_cons hx,accK_succ hx]
theorem runN_acc {l : List PIt} : ∀ {ns : List (List UInt8)} {v : Nat},endN l (runN l v ns)=true ↔ ∃ k s,(stsN l)[k]?=some s∧v.testBit k=true∧accK l k ns=true
 | [],v=>by
   unfold endN runN
   rw [List.any_eq_true]
   constructor
   ·rintro ⟨k,_,h⟩
    rw [Bool.and_eq_true] at h
    obtain ⟨h1,h2⟩:=h
    split at h2
    ·rename_i s hs
     exact ⟨k,s,hs,h1,by rw [accK_nil hs];exact h2⟩
    ·cases h2
   ·rintro ⟨k,s,hs,h1,h2⟩
    have hk:=(List.getElem?_eq_some_iff.1 hs).1
    rw [stsN_len] at hk
    refine ⟨k,List.mem_range.2 hk,?_⟩
    rw [accK_nil hs] at h2
    simp only [List.foldl_nil,h1,hs,h2,Bool.and_self]
 | name :: ns,v=>by
   have ih:=runN_acc (l:=l) (ns:=ns) (v:=stepN l v name)
   have e : runN l v (name :: ns)=runN l (stepN l v name) ns:=rfl
   rw [e,ih]
   constructor
   ·rintro ⟨k,s,hs,h1,h2⟩
    obtain ⟨i,rfl,hi,h3⟩:=(stepTo_bit l v name l.length k).1 h1
    obtain ⟨⟨x,hx,h4⟩,k0,s0,h5,h6,h7⟩:=takesN_iff.1 h3
    exact ⟨k0,s0,h5,h6,(accK_cons h5 name ns).2 ⟨i,x,h7,hx,h4,h2⟩⟩
   ·rintro ⟨k0,s0,h5,h6,h7⟩
    obtain ⟨j,x,h8,hx,h4,h2⟩:=(accK_cons h5 name ns).1 h7
    have hj:=(List.getElem?_eq_some_iff.1 hx).1
    exact ⟨j+1,_,stsN_at hx,(stepTo_bit l v name l.length (j+1)).2 ⟨j,rfl,hj,takesN_iff.2 ⟨⟨x,hx,h4⟩,k0,s0,h5,h6,h8⟩⟩,h2⟩
theorem run_is (l : List PIt) (ns : List (List UInt8)) : endN l (runN l 1 ns)=accQ l ns:=by
 rw [Bool.eq_iff_iff,runN_acc]
 constructor
 ·rintro ⟨k,s,_,h1,h2⟩
  have hk : k=0:=by
   rw [show (1 : Nat)=2 ^ 0 from rfl,Nat.testBit_two_pow,decide_eq_true_eq] at h1
   omega
  subst hk
  exact h2
 ·intro h
  exact ⟨0,st0,rfl,rfl,h⟩
theorem runN_zero (l : List PIt) : ∀ ns : List (List UInt8),endN l (runN l 0 ns)=false:=fun ns=>by
 rw [← Bool.not_eq_true,runN_acc]
 rintro ⟨k,s,_,h,_⟩
 simp at h
end Go.Proofs.Ytefcbgnckgapgaa
namespace Go.Proofs.Ytefcbgnckgapgaa
open Go.RowKit Go.Lib Go.Op
theorem u64_in (n : Nat) (h : n < 2 ^ 64) : IntKind.u64.wrap (n : Int)=n:=by
 simp [IntKind.wrap,IntKind.bits,IntKind.signed]
 omega
theorem bits_and_nat (x y : Nat) (hx : x < 2 ^ 64) (hy : y < 2 ^ 64) : bits .and .u64 (x : Int) (y : Int)=((x &&& y : Nat) : Int):=by
 have e : bits .and .u64 (x : Int) (y : Int)=IntKind.u64.wrap ((BitVec.ofInt 64 (x : Int) &&& BitVec.ofInt 64 (y : Int)).toNat : Int):=rfl
 rw [e,BitVec.toNat_and,BitVec.ofInt_natCast,BitVec.ofInt_natCast,BitVec.toNat_ofNat,BitVec.toNat_ofNat,Nat.mod_eq_of_lt hx,Nat.mod_eq_of_lt hy]
 exact u64_in _ (Nat.lt_of_le_of_lt Nat.and_le_left hx)
theorem bits_or_nat (x y : Nat) (hx : x < 2 ^ 64) (hy : y < 2 ^ 64) : bits .or .u64 (x : Int) (y : Int)=((x ||| y : Nat) : Int):=by
 have e : bits .or .u64 (x : Int) (y : Int)=IntKind.u64.wrap ((BitVec.ofInt 64 (x : Int) ||| BitVec.ofInt 64 (y : Int)).toNat : Int):=rfl
 rw [e,BitVec.toNat_or,BitVec.ofInt_natCast,BitVec.ofInt_natCast,BitVec.toNat_ofNat,BitVec.toNat_ofNat,Nat.mod_eq_of_lt hx,Nat.mod_eq_of_lt hy]
 exact u64_in _ (Nat.or_lt_two_pow hx hy)
theorem has_bits (v k : Nat) (hv : v < 2 ^ 64) : (bits .and .u64 ((v : Int) / 2 ^ k) 1 == 1)=v.testBit k:=by
 have h1 : ((v : Int) / 2 ^ k)=((v / 2 ^ k : Nat) : Int):=by
  rw [Int.natCast_ediv,Int.natCast_pow]
  rfl
 have h2:=bits_and_nat (v / 2 ^ k) 1 (Nat.lt_of_le_of_lt (Nat.div_le_self _ _) hv) (by decide)
 rw [h1,show (1 : Int)=((1 : Nat) : Int) from rfl,h2,Nat.and_one_is_mod,Nat.testBit_eq_decide_div_mod_eq,Bool.eq_iff_iff,beq_iff_eq,decide_eq_true_eq]
 omega
theorem with_bits (v k : Nat) (hv : v < 2 ^ 64) (hk : k < 64) : bits .or .u64 (v : Int) (IntKind.u64.wrap (2 ^ k))=((v ||| 2 ^ k : Nat) : Int):=by
 have hp : (2 : Nat) ^ k < 2 ^ 64:=Nat.pow_lt_pow_right (by decide) hk
 have h1 : ((2 : Int) ^ k)=((2 ^ k : Nat) : Int):=by
  rw [Int.natCast_pow]
  rfl
 rw [h1,u64_in _ hp,bits_or_nat _ _ hv hp]
set_option maxRecDepth 100000 in
theorem nhas_calls (v k : Nat) (hv : v < 2 ^ 64) (hk : k < 64) (w : World) : Calls Try.prog 27 #[.int .u64 v,.int .i64 k] w fun e w'=>e=.returned (.bool (v.testBit k))∧w'=w:=by
 have hb:=has_bits v k hv
 go_enter Try.func27,Try.ntmps27
 go_wp2
 go_ret
 exact ⟨by rw [← hb];rfl,rfl⟩
set_option maxRecDepth 100000 in
theorem nwith_calls (v k : Nat) (hv : v < 2 ^ 64) (hk : k < 64) (w : World) : Calls Try.prog 25 #[.int .u64 v,.int .i64 k] w fun e w'=>e=.returned (.int .u64 ((v ||| 2 ^ k : Nat) : Int))∧w'=w:=by
 have hb:=with_bits v k hv hk
 go_enter Try.func25,Try.ntmps25
 go_wp2
 go_ret
 exact ⟨by rw [← hb];rfl,rfl⟩
end Go.Proofs.Ytefcbgnckgapgaa
namespace Go.Proofs.Ytefcbgnckgapgaa
open Go.RowKit Go.Lib Go.Op
theorem tB_list (l : List UInt8) : (strB l).toList=l:=by rw [ByteArray.toList_eq,strB_list]
theorem tbool {a b : Bool} (h : a=b) : Ending.returned (.bool a)=.returned (.bool b):=by rw [h]
structure TFr (K : Nat→Prop) (w w' : World) : Prop where
 os : w'.os=w.os
 tape : w'.tape=w.tape
 output : w'.output=w.output
 size : w.heap.size≤w'.heap.size
 block : ∀ k,k < w.heap.size→¬ K k→w'.heap[k]?=w.heap[k]?
section
variable {K K' : Nat→Prop} {a b c w w' : World}
theorem TFr.refl (K : Nat→Prop) (w : World) : TFr K w w:=⟨rfl,rfl,rfl,Nat.le_refl _,fun _ _ _=>rfl⟩
theorem TFr.trans (h : TFr K a b) (k : TFr K b c) : TFr K a c :=
 ⟨k.os.trans h.os,k.tape.trans h.tape,k.output.trans h.output,Nat.le_trans h.size k.size,fun i hi hn=>(k.block i (Nat.lt_of_lt_of_le hi h.size) hn).trans (h.block i hi hn)⟩
theorem TFr.mono (h : TFr K a b) (hs : ∀ k,k < a.heap.size→K k→K' k) : TFr K' a b:=⟨h.os,h.tape,h.output,h.size,fun i hi hn=>h.block i hi (fun e=>hn (hs i hi e))⟩
theorem TFr.drew (h : TFr K w w') : TFr K w w'.drew:=⟨h.os,h.tape,h.output,h.size,h.block⟩
theorem TFr.alloc (h : TFr K w w') (o : Obj) : TFr K w (w'.alloc o):=⟨h.os,h.tape,h.output,Nat.le_trans h.size (by simp),fun k hk hn=>(heap_alloc_old w' o (Nat.lt_of_lt_of_le hk h.size)).trans (h.block k hk hn)⟩
theorem TFr.setCell (h : TFr K w w') {p : Addr} (hp : p.block < w.heap.size→K p.block) (v : Value) : TFr K w (w'.setCell p v) :=
 ⟨h.os,h.tape,h.output,by simpa using h.size,fun k hk hn=>(heap_setCell_other w' p k v (fun e=>hn (e ▸ hp (e ▸ hk)))).trans (h.block k hk hn)⟩
theorem TFr.of_below (h : Below w.heap.size w w') : TFr K w w':=⟨h.os,h.tape,h.output,h.size,fun k hk _=>h.block k hk⟩
theorem TFr.of_grown {row : Option Nat} (h : w.grownBy w' row) (hk : ∀ k,row=some k→K k) : TFr K w w':=⟨h.os,h.tape,h.output,h.size,fun k hl hn=>h.block k hl (fun e=>hn (hk k e.symm))⟩
theorem TFr.below (h : TFr K w w') {B : Nat} (hB : B≤w.heap.size) (hk : ∀ k,K k→B≤k) : Below B w w':=⟨h.os,h.tape,h.output,h.size,fun k hl=>h.block k (by omega) (fun e=>by have:=hk k e;omega)⟩
theorem TFr.at (R k : Nat) (v : Value) : TFr (·=R) w (w.setCell ⟨R,k,none⟩ v):=TFr.setCell (K:=(·=R)) (TFr.refl _ w) (p:=⟨R,k,none⟩) (fun _=>rfl) v
theorem TFr.cell (h : TFr K w w') {p : Addr} {v : Value} (hc : w.cell? p=some v) (hp : ¬ K p.block) : w'.cell? p=some v:=(World.cell?_of_block (h.block _ (World.block_lt_of_cell? _ _ hc) hp)).trans hc
end
section
variable {w w' : World}
theorem tcell {b k : Nat} {cs : Array Value} {e : TypeId} {fr : Nat × Nat} (h : w.heap[b]?=some (.cells cs e fr)) {v : Value} (hv : cs[k]?=some v) : w.cell? ⟨b,k,none⟩=some v:=by simp [World.cell?,h,hv]
theorem tkeepAl {W : World} {p : Addr} {v : Value} (h : W.cell? p=some v) (o : Obj) : (W.alloc o).cell? p=some v:=(World.cell?_alloc_lt _ _ _ (World.block_lt_of_cell? _ _ h)).trans h
theorem tkeep {w w' : World} (hb : Below w.heap.size w w') {p : Addr} {v : Value} (h : w.cell? p=some v) : w'.cell? p=some v:=(hb.cell (World.block_lt_of_cell? _ _ h)).trans h
theorem tnew (W : World) (cs : Array Value) (t : TypeId) (i : Nat) {x : Value} (hx : cs[i]?=some x) : (W.alloc (.cells cs t)).cell? ⟨W.heap.size,i,none⟩=some x:=tcell (heap_alloc_new W _) hx
theorem tfrozen {b k : Nat} {cs : Array Value} {e : TypeId} (h : w.heap[b]?=some (.cells cs e (0,0))) : w.frozen? ⟨b,k,none⟩=false:=by simp [World.frozen?,h]
theorem tsetCell_blk {b k : Nat} {cs : Array Value} {e : TypeId} {fr : Nat × Nat} (h : w.heap[b]?=some (.cells cs e fr)) (v : Value) : (w.setCell ⟨b,k,none⟩ v).heap[b]?=some (.cells (cs.setIfInBounds k v) e fr):=by
 simp [World.setCell,Array.getElem?_modify,h]
end
def TokL (T : Nat) (w : World) (a : Option Addr) (l : List XTok) : Prop:=∀ j t,l[j]?=some t→∃ o,a=some ⟨T,o,none⟩∧w.cell? ⟨T,o+j*3,none⟩=some (.int .i64 t.k)∧w.cell? ⟨T,o+j*3+1,none⟩=some (.string (strB t.b))∧w.cell? ⟨T,o+j*3+2,none⟩=some (.int .i64 t.at_)
theorem TokL.keep {K : Nat→Prop} {T : Nat} {w w' : World} {a : Option Addr} {l : List XTok} (h : TokL T w a l) (hf : TFr K w w') (hT : ¬ K T) : TokL T w' a l:=fun j t hj=>by
 obtain ⟨o,e,h0,h1,h2⟩:=h j t hj
 exact ⟨o,e,hf.cell h0 hT,hf.cell h1 hT,hf.cell h2 hT⟩
def TokOk (t : XTok) : Prop:=t.b.length≤1000∧t.at_≤1000000∧(t.k=2→∃ v : Int,parseIntB 64 t.b=.ok v∧0≤v∧v≤1099511627776)
theorem xvar_fr {R : Nat} {w w' : World} (hb : TFr (·=R) w w') {n : String} {g : Nat} (hg : Try.prog.globalNamed n=some g) (hR : R≠g) {x : Array Value} (h : w.var? Try.prog n=some x) : w'.var? Try.prog n=some x:=by
 simp only [World.var?,hg,Option.bind_some] at h ⊢
 cases hh : w.heap[g]? with
 | none=>rw [hh] at h;simp at h
 | some o =>
   have hlt:=(Array.getElem?_eq_some_iff.1 hh).1
   rw [hb.block g hlt (fun e=>hR e.symm)]
   exact h
section
variable {w w' : World} {R T E : Nat} {s : RS} {a : Option Addr} {c : Nat}
end
theorem isT_cons {E : Nat} {s : RS} {k : Nat} {b : List UInt8} (h : isT E s k b=true) (hk : k≠0) : ∃ t r,s.l=t :: r:=by
 unfold isT nextT at h
 cases hl : s.l with
 | nil=>rw [hl] at h;simp at h;exact absurd h.1.symm hk
 | cons t r=>exact ⟨t,r,rfl⟩
end Go.Proofs.Ytefcbgnckgapgaa
namespace Go.Proofs.Ytefcbgnckgapgaa
open Go.RowKit Go.Lib Go.Op
def tokV (t : XTok) : Value:=.agg #[.int .i64 t.k,.string (strB t.b),.int .i64 t.at_]
def rdP (R : Nat) : Value:=.pointer (some ⟨R,0,none⟩)
def markV (k : Nat) (b : List UInt8) : Value:=.agg #[.int .i64 k,.string (strB b)]
theorem field_at (a b c : Value) (W : World) : (Instr.field 72 (.agg #[a,b,c]) 2).run Try.prog W=.ok c W:=by kernel_rfl
theorem field_text (a b c : Value) (W : World) : (Instr.field 72 (.agg #[a,b,c]) 1).run Try.prog W=.ok b W:=by kernel_rfl
theorem field_kind (a b c : Value) (W : World) : (Instr.field 72 (.agg #[a,b,c]) 0).run Try.prog W=.ok a W:=by kernel_rfl
section
variable {w : World} {R T E : Nat} {s : RS}
end
end Go.Proofs.Ytefcbgnckgapgaa
namespace Go.Proofs.Ytefcbgnckgapgaa
open Go.RowKit Go.Lib Go.Op
section
variable {w : World} {R T E : Nat} {s : RS}
end
end Go.Proofs.Ytefcbgnckgapgaa
namespace Go.Proofs.Ytefcbgnckgapgaa
open Go.RowKit Go.Lib Go.Op
set_option maxRecDepth 100000 in
theorem key_no (s : ByteArray) (w : World) (h : keyB s.toList=false) : Calls Try.prog 61 #[.string s] w fun e w'=>e=.returned (.bool false)∧w=w':=by
 unfold keyB keysL at h
 simp only [List.contains_cons,List.contains_nil,Bool.or_false,Bool.or_eq_false_iff] at h
 obtain ⟨h1,h2,h3,h4,h5,h6,h7,h8,h9,hA,hB,hC,hD,hE,hF,hG,hH,hI⟩:=h
 go_enter Try.func61,Try.ntmps61
 go_wp2
 go_ret
 exact ⟨rfl,rfl⟩
set_option maxRecDepth 100000 in
theorem key_calls (b : List UInt8) (w : World) : Calls Try.prog 61 #[.string (strB b)] w fun e w'=>e=.returned (.bool (keyB b))∧w=w':=by
 cases hk : keyB b with
 | false=>exact key_no (strB b) w (by rw [tB_list];exact hk)
 | true =>
   have hm : b∈keysL:=by unfold keyB at hk;simpa using hk
   simp only [keysL,List.mem_cons,List.not_mem_nil,or_false] at hm
   clear hk
   rcases hm with rfl|rfl|rfl|rfl|rfl|rfl|rfl|rfl|rfl|rfl|rfl|rfl|rfl|rfl|rfl|rfl|rfl|rfl
   all_goals
    simp only [strB]
    go_enter Try.func61,Try.ntmps61
    go_wp2
    go_ret
    exact ⟨rfl,rfl⟩
section
variable {w : World} {R T E : Nat} {s : RS}
end
end Go.Proofs.Ytefcbgnckgapgaa
namespace Go.Proofs.Ytefcbgnckgapgaa
open Go.RowKit Go.Lib Go.Op
section
variable {w : World} {R T E : Nat} {s : RS}
theorem ofT_two {b : List UInt8} {s' : RS} (h : ofT E s 2=(b,s')) (hok : ∀ t∈s.l,TokOk t) : b.length≤1000∧(b=[]∨∃ v : Int,parseIntB 64 b=.ok v∧0≤v∧v≤1099511627776):=by
 unfold ofT nextT at h
 cases hl : s.l with
 | nil =>
   rw [hl] at h
   simp at h
   obtain ⟨rfl,_⟩:=h
   exact ⟨by simp,.inl rfl⟩
 | cons t r =>
   rw [hl] at h
   have ht:=hok t (by rw [hl];exact List.mem_cons_self)
   dsimp only at h
   split at h
   ·rename_i hk
    injection h with h1 h2
    subst h1
    exact ⟨ht.1,.inr (ht.2.2 hk)⟩
   ·injection h with h1 h2
    subst h1
    exact ⟨by simp,.inl rfl⟩
def textsV (l : List (List UInt8)) : Value:=.agg (l.map (fun b=>Value.string (strB b))).toArray
theorem takeT_no {k : Nat} {b : List UInt8} (h : isT E s k b=false) : (takeT E s k b).2=s:=by unfold takeT;rw [h];rfl
theorem amongT_step {k n : Nat} {b : List UInt8} {r : List (List UInt8)} (h : isT E s k b=false) : amongT E s k n (b :: r)=amongT E s k (n+1) r:=by rw [amongT,h];rfl
theorem amongT_hit {k n : Nat} {b : List UInt8} {r : List (List UInt8)} (h : isT E s k b=true) : amongT E s k n (b :: r)=(n,(takeT E s k b).2):=by rw [amongT,h];rfl
end
end Go.Proofs.Ytefcbgnckgapgaa
namespace Go.Proofs.Ytefcbgnckgapgaa
open Go.RowKit Go.Lib Go.Op
def UBlk (w : World) (g : Nat) : Prop:=∃ cs t,w.heap[g]?=some (.cells cs t (0,0))
theorem UBlk.keep {K : Nat→Prop} {w w' : World} (hf : TFr K w w') {g : Nat} (hg : ¬ K g) (h : UBlk w g) : UBlk w' g:=by
 obtain ⟨cs,t,hb⟩:=h
 exact ⟨cs,t,(hf.block g (Array.getElem?_eq_some_iff.1 hb).1 hg).trans hb⟩
def ExK (K : Nat→Prop) (w : World) : Nat→Value→List PEx→Prop
 | 0,kv,ks=>(∃ a c,kv=.slice a 0 c)∧ks=[]
 | d+1,kv,ks=>∃ a c,kv=.slice a ks.length c∧∀ j x,ks[j]?=some x→∃ g o kv',a=some ⟨g,o,none⟩∧(¬ K g∧(K 0→UBlk w g)) ∧
    (w.cell? ⟨g,o+j*7,none⟩=some (.int .i64 x.k)∧w.cell? ⟨g,o+j*7+1,none⟩=some (.int .i64 x.v.k)∧w.cell? ⟨g,o+j*7+2,none⟩=some (.int .i64 x.v.n)∧w.cell? ⟨g,o+j*7+3,none⟩=some (.string (strB x.v.s))∧w.cell? ⟨g,o+j*7+4,none⟩=some (.string (strB x.x))∧w.cell? ⟨g,o+j*7+5,none⟩=some (.string (strB x.f))∧w.cell? ⟨g,o+j*7+6,none⟩=some kv') ∧
    ExK K w d kv' x.ks
theorem ExK.slice {K : Nat→Prop} {w : World} {d : Nat} {kv : Value} {ks : List PEx} (h : ExK K w d kv ks) : ∃ a c,kv=.slice a ks.length c:=by
 cases d with
 | zero=>obtain ⟨⟨a,c,rfl⟩,rfl⟩:=h;exact ⟨a,c,rfl⟩
 | succ d=>obtain ⟨a,c,rfl,_⟩:=h;exact ⟨a,c,rfl⟩
theorem ExK.keep {K : Nat→Prop} {w w' : World} (hf : TFr K w w') : ∀ {d : Nat} {kv : Value} {ks : List PEx},ExK K w d kv ks→ExK K w' d kv ks
 | 0,_,_,h=>h
 | d+1,kv,ks,⟨a,c,e,h⟩=>⟨a,c,e,fun j x hj=>by
   obtain ⟨g,o,kv',ea,hg,⟨h0,h1,h2,h3,h4,h5,h6⟩,hk⟩:=h j x hj
   exact ⟨g,o,kv',ea,⟨hg.1,fun z=>(hg.2 z).keep hf hg.1⟩,⟨hf.cell h0 hg.1,hf.cell h1 hg.1,hf.cell h2 hg.1,hf.cell h3 hg.1,hf.cell h4 hg.1,hf.cell h5 hg.1,hf.cell h6 hg.1⟩,ExK.keep hf hk⟩⟩
theorem ExK.mono {K K' : Nat→Prop} (hs : ∀ k,K' k→K k) {w : World} : ∀ {d : Nat} {kv : Value} {ks : List PEx},ExK K w d kv ks→ExK K' w d kv ks
 | 0,_,_,h=>h
 | d+1,kv,ks,⟨a,c,e,h⟩=>⟨a,c,e,fun j x hj=>by
   obtain ⟨g,o,kv',ea,hg,hc,hk⟩:=h j x hj
   exact ⟨g,o,kv',ea,⟨fun hn=>hg.1 (hs g hn),fun z=>hg.2 (hs 0 z)⟩,hc,ExK.mono hs hk⟩⟩
theorem ExK.up {K : Nat→Prop} {w : World} : ∀ {d : Nat} {kv : Value} {ks : List PEx},ExK K w d kv ks→ExK K w (d+1) kv ks
 | 0,kv,ks,⟨⟨a,c,e⟩,h0⟩=>by
   subst h0
   exact ⟨a,c,e,fun j x hj=>by simp at hj⟩
 | d+1,kv,ks,⟨a,c,e,h⟩=>⟨a,c,e,fun j x hj=>by
   obtain ⟨g,o,kv',ea,hg,hc,hk⟩:=h j x hj
   exact ⟨g,o,kv',ea,hg,hc,ExK.up hk⟩⟩
theorem ExK.le {K : Nat→Prop} {w : World} {d : Nat} {kv : Value} {ks : List PEx} (h : ExK K w d kv ks) : ∀ {e : Nat},d≤e→ExK K w e kv ks:=fun {e} he=>by
 induction e with
 | zero=>obtain rfl : d=0:=by omega
         exact h
 | succ e ih =>
   by_cases h2 : d=e+1
   ·rw [← h2];exact h
   ·exact (ih (by omega)).up
theorem ExK.nil (K : Nat→Prop) (w : World) : ExK K w 0 (.slice none 0 0) []:=⟨⟨none,0,rfl⟩,rfl⟩
theorem ExK.keepR {K : Nat→Prop} {R : Nat} {w w' : World} {d : Nat} {kv : Value} {ks : List PEx} (h : ExK K w d kv ks) (hf : TFr (·=R) w w') (hR : K R) : ExK K w' d kv ks:=h.keep (hf.mono (fun _ _ e=>e ▸ hR))
theorem ExK.set {K : Nat→Prop} {w : World} {d : Nat} {kv : Value} {ks : List PEx} (h : ExK K w d kv ks) {b : Nat} (hb : K b) (k : Nat) (v : Value) : ExK K (w.setCell ⟨b,k,none⟩ v) d kv ks:=h.keepR (TFr.at b k v) hb
theorem ExK.after {w w1 : World} {W : World} {d : Nat} {kv : Value} {ks : List PEx} (h : ExK (· < w1.heap.size) W d kv ks) (hb : w.heap.size≤w1.heap.size) : ExK (· < w.heap.size) W d kv ks:=h.mono (fun _ hk=>Nat.lt_of_lt_of_le hk hb)
def XBlk (w : World) (b : Nat) (t0 t1 t2 t3 t4 t5 t6 : Value) : Prop:=w.heap[b]?=some (.cells #[t0,t1,t2,t3,t4,t5,t6] 50 (0,0))
section
variable {w w' : World} {b : Nat} {t0 t1 t2 t3 t4 t5 t6 : Value}
theorem XBlk.new (w : World) (t0 t1 t2 t3 t4 t5 t6 : Value) : XBlk (w.alloc (.cells #[t0,t1,t2,t3,t4,t5,t6] 50)) w.heap.size t0 t1 t2 t3 t4 t5 t6:=heap_alloc_new w _
theorem XBlk.all (h : XBlk w b t0 t1 t2 t3 t4 t5 t6) : w.cell? ⟨b,0,none⟩=some t0∧w.cell? ⟨b,1,none⟩=some t1∧w.cell? ⟨b,2,none⟩=some t2∧w.cell? ⟨b,3,none⟩=some t3∧w.cell? ⟨b,4,none⟩=some t4∧w.cell? ⟨b,5,none⟩=some t5∧w.cell? ⟨b,6,none⟩=some t6∧w.frozen? ⟨b,0,none⟩=false∧w.frozen? ⟨b,1,none⟩=false∧w.frozen? ⟨b,2,none⟩=false∧w.frozen? ⟨b,3,none⟩=false∧w.frozen? ⟨b,4,none⟩=false∧w.frozen? ⟨b,5,none⟩=false∧w.frozen? ⟨b,6,none⟩=false:=⟨tcell h rfl,tcell h rfl,tcell h rfl,tcell h rfl,tcell h rfl,tcell h rfl,tcell h rfl,tfrozen h,tfrozen h,tfrozen h,tfrozen h,tfrozen h,tfrozen h,tfrozen h⟩
theorem XBlk.keep {K : Nat→Prop} (h : XBlk w b t0 t1 t2 t3 t4 t5 t6) (hf : TFr K w w') (hk : ¬ K b) : XBlk w' b t0 t1 t2 t3 t4 t5 t6:=(hf.block b (Array.getElem?_eq_some_iff.1 h).1 hk).trans h
theorem XBlk.set4 (h : XBlk w b t0 t1 t2 t3 t4 t5 t6) (v : Value) : XBlk (w.setCell ⟨b,4,none⟩ v) b t0 t1 t2 t3 v t5 t6:=by
 unfold XBlk
 rw [tsetCell_blk h]
 rfl
theorem XBlk.set5 (h : XBlk w b t0 t1 t2 t3 t4 t5 t6) (v : Value) : XBlk (w.setCell ⟨b,5,none⟩ v) b t0 t1 t2 t3 t4 v t6:=by
 unfold XBlk
 rw [tsetCell_blk h]
 rfl
theorem XBlk.lt (h : XBlk w b t0 t1 t2 t3 t4 t5 t6) : b < w.heap.size:=(Array.getElem?_eq_some_iff.1 h).1
end
theorem ExK.set7 {K : Nat→Prop} {w : World} {d : Nat} {kv : Value} {ks : List PEx} (h : ExK K w d kv ks) {b : Nat} (hb : K b) (t0 t1 t2 t3 t4 t5 t6 : Value) : ExK K (((((((w.setCell ⟨b,0,none⟩ t0).setCell ⟨b,1,none⟩ t1).setCell ⟨b,2,none⟩ t2).setCell ⟨b,3,none⟩ t3).setCell ⟨b,4,none⟩ t4).setCell ⟨b,5,none⟩ t5).setCell ⟨b,6,none⟩ t6) d kv ks :=
 ((((((h.set hb _ _).set hb _ _).set hb _ _).set hb _ _).set hb _ _).set hb _ _).set hb _ _
def exV (x : PEx) (kv : Value) : Value:=.agg #[.int .i64 x.k,.int .i64 x.v.k,.int .i64 x.v.n,.string (strB x.v.s),.string (strB x.x),.string (strB x.f),kv]
section
variable {w : World} {R T E : Nat} {s : RS}
end
end Go.Proofs.Ytefcbgnckgapgaa
namespace Go.Proofs.Ytefcbgnckgapgaa
open Go.RowKit Go.Lib Go.Op
section
variable {w w' : World} {b : Nat} {t0 t1 t2 t3 t4 t5 t6 : Value}
theorem XBlk.setAll (h : XBlk w b t0 t1 t2 t3 t4 t5 t6) (v0 v1 v2 v3 v4 v5 v6 : Value) : XBlk (((((((w.setCell ⟨b,0,none⟩ v0).setCell ⟨b,1,none⟩ v1).setCell ⟨b,2,none⟩ v2).setCell ⟨b,3,none⟩ v3).setCell ⟨b,4,none⟩ v4).setCell ⟨b,5,none⟩ v5).setCell ⟨b,6,none⟩ v6) b v0 v1 v2 v3 v4 v5 v6:=by
 unfold XBlk at h ⊢
 rw [tsetCell_blk (tsetCell_blk (tsetCell_blk (tsetCell_blk (tsetCell_blk (tsetCell_blk (tsetCell_blk h _) _) _) _) _) _) _]
 rfl
theorem XBlk.past (h : XBlk w b t0 t1 t2 t3 t4 t5 t6) {b' : Nat} (hne : b≠b') (v0 v1 v2 v3 v4 v5 v6 : Value) : XBlk (((((((w.setCell ⟨b',0,none⟩ v0).setCell ⟨b',1,none⟩ v1).setCell ⟨b',2,none⟩ v2).setCell ⟨b',3,none⟩ v3).setCell ⟨b',4,none⟩ v4).setCell ⟨b',5,none⟩ v5).setCell ⟨b',6,none⟩ v6) b t0 t1 t2 t3 t4 t5 t6 :=
 ((((((h.keep (TFr.at b' 0 v0) hne).keep (TFr.at b' 1 v1) hne).keep (TFr.at b' 2 v2) hne).keep (TFr.at b' 3 v3) hne).keep (TFr.at b' 4 v4) hne).keep (TFr.at b' 5 v5) hne).keep (TFr.at b' 6 v6) hne
end
section
variable {w : World} {R T E : Nat} {s : RS}
end
end Go.Proofs.Ytefcbgnckgapgaa
namespace Go.Proofs.Ytefcbgnckgapgaa
open Go.RowKit Go.Lib Go.Op
def VBlk (w : World) (b : Nat) (t0 t1 t2 : Value) : Prop:=w.heap[b]?=some (.cells #[t0,t1,t2] 47 (0,0))
section
variable {w w' : World} {b : Nat} {t0 t1 t2 : Value}
theorem VBlk.new (w : World) (t0 t1 t2 : Value) : VBlk (w.alloc (.cells #[t0,t1,t2] 47)) w.heap.size t0 t1 t2:=heap_alloc_new w _
theorem VBlk.all (h : VBlk w b t0 t1 t2) : w.cell? ⟨b,0,none⟩=some t0∧w.cell? ⟨b,1,none⟩=some t1∧w.cell? ⟨b,2,none⟩=some t2∧w.frozen? ⟨b,0,none⟩=false∧w.frozen? ⟨b,1,none⟩=false∧w.frozen? ⟨b,2,none⟩=false:=⟨tcell h rfl,tcell h rfl,tcell h rfl,tfrozen h,tfrozen h,tfrozen h⟩
theorem VBlk.keep {K : Nat→Prop} (h : VBlk w b t0 t1 t2) (hf : TFr K w w') (hk : ¬ K b) : VBlk w' b t0 t1 t2:=(hf.block b (Array.getElem?_eq_some_iff.1 h).1 hk).trans h
end
section
variable {w : World} {R T E : Nat} {s : RS}
def truthT (E : Nat) (s : RS) : PVal × Bool × RS :=
 if isT E s 1 bFalse then (⟨3,0,[]⟩,true,(takeT E s 1 bFalse).2)
 else if isT E s 1 bTrue then (⟨3,1,[]⟩,true,(takeT E s 1 bTrue).2)
 else (noV,false,s)
end
end Go.Proofs.Ytefcbgnckgapgaa
namespace Go.Proofs.Ytefcbgnckgapgaa
open Go.Lib
section
variable {E : Nat} {s : RS}
theorem takeT_le (k : Nat) (b : List UInt8) : (takeT E s k b).2.l.length≤s.l.length:=by
 unfold takeT
 split
 ·show s.l.tail.length≤_;rw [List.length_tail];omega
 ·exact Nat.le_refl _
theorem takeT_lt {k : Nat} {b : List UInt8} (h : isT E s k b=true) (hk : k≠0) : (takeT E s k b).2.l.length < s.l.length:=by
 obtain ⟨t,r,hl⟩:=isT_cons h hk
 unfold takeT
 rw [if_pos h,hl]
 show r.length < (t :: r).length
 simp
theorem failT_le : (failT E s).l.length≤s.l.length:=by unfold failT;simp
theorem needT_le (k : Nat) (b : List UInt8) : (needT E s k b).l.length≤s.l.length:=by
 unfold needT
 split
 ·exact takeT_le k b
 ·exact Nat.le_trans failT_le (takeT_le k b)
theorem ofT_le (k : Nat) : (ofT E s k).2.l.length≤s.l.length:=by
 unfold ofT
 split
 ·show s.l.tail.length≤_;rw [List.length_tail];omega
 ·exact failT_le
theorem numberT_le : (numberT E s).2.l.length≤s.l.length:=ofT_le 2
theorem nameT_le : (nameT E s).2.l.length≤s.l.length:=by
 unfold nameT
 refine Nat.le_trans (ofT_le 1) ?_
 split
 ·exact failT_le
 ·exact Nat.le_refl _
theorem amongT_le (k : Nat) : ∀ (l : List (List UInt8)) (n : Nat),(amongT E s k n l).2.l.length≤s.l.length
 | [],n=>Nat.le_refl _
 | b :: r,n=>by
   rw [amongT]
   split
   ·exact takeT_le k b
   ·exact amongT_le k r (n+1)
theorem amongT_hitlt {k : Nat} (hk : k≠0) : ∀ (l : List (List UInt8)) (n : Nat),(∃ b∈l,isT E s k b=true)→(amongT E s k n l).2.l.length < s.l.length
 | [],n,h=>by obtain ⟨b,hb,_⟩:=h;cases hb
 | b :: r,n,h=>by
   rw [amongT]
   split
   ·rename_i hb
    exact takeT_lt hb hk
   ·rename_i hb
    obtain ⟨c,hc,h2⟩:=h
    rcases List.mem_cons.1 hc with rfl|hc
    ·exact absurd h2 hb
    ·exact amongT_hitlt hk r (n+1) ⟨c,hc,h2⟩
theorem amongT_none (k : Nat) : ∀ (l : List (List UInt8)) (n : Nat),(∀ b∈l,isT E s k b=false)→amongT E s k n l=(0,s)
 | [],n,_=>rfl
 | b :: r,n,h=>by
   rw [amongT,h b List.mem_cons_self]
   exact amongT_none k r (n+1) (fun c hc=>h c (List.mem_cons_of_mem _ hc))
theorem amongT_nz {k : Nat} (hk : k≠0) {l : List (List UInt8)} {n : Nat} (h : (amongT E s k n l).1≠0) : (amongT E s k n l).2.l.length < s.l.length:=by
 by_cases hb : ∃ b∈l,isT E s k b=true
 ·exact amongT_hitlt hk l n hb
 ·refine absurd ?_ h
  rw [amongT_none k l n (fun b hb2=>by
   cases hc : isT E s k b with
   | false=>rfl
   | true=>exact absurd ⟨b,hb2,hc⟩ hb)]
theorem chooseT_le (k : Nat) (l : List (List UInt8)) : (chooseT E s k l).2.l.length≤s.l.length:=by
 unfold chooseT
 split
 ·exact Nat.le_trans failT_le (amongT_le k l 0)
 ·exact amongT_le k l 0
theorem fieldT_le (k : Int) : (fieldT E s k).2.l.length≤s.l.length:=by
 unfold fieldT
 exact Nat.le_trans nameT_le (Nat.le_trans (needT_le _ _) nameT_le)
theorem callT_le (k : Int) : (callT E s k).2.l.length≤s.l.length:=by
 unfold callT
 refine Nat.le_trans (needT_le _ _) ?_
 split
 ·exact Nat.le_trans nameT_le (needT_le _ _)
 ·exact Nat.le_trans (fieldT_le _) (needT_le _ _)
theorem valT_le : (valT E s).2.2.l.length≤s.l.length:=by
 unfold valT
 split
 ·exact numberT_le
 ·split
  ·exact Nat.le_trans numberT_le (takeT_le _ _)
  ·split
   ·exact ofT_le 3
   ·split
    ·exact takeT_le _ _
    ·split
     ·exact takeT_le _ _
     ·exact Nat.le_refl _
theorem valT_no (h : (valT E s).2.1=false) : (valT E s).2.2=s:=by
 unfold valT at h ⊢
 split at h
 ·cases h
 ·rename_i h1
  rw [if_neg h1]
  split at h
  ·cases h
  ·rename_i h2
   rw [if_neg h2]
   split at h
   ·cases h
   ·rename_i h3
    rw [if_neg h3]
    split at h
    ·cases h
    ·rename_i h4
     rw [if_neg h4]
     split at h
     ·cases h
     ·rename_i h5
      rw [if_neg h5]
end
theorem sumsT_le {E : Nat} {tm : RS→PEx × RS} (ht : ∀ s,(tm s).2.l.length≤s.l.length) : ∀ (n : Nat) (x : PEx) (s : RS),(sumsT E tm n x s).2.l.length≤s.l.length
 | 0,x,s=>Nat.le_refl _
 | n+1,x,s=>by
   rw [sumsT]
   split
   ·exact amongT_le _ _ _
   ·exact Nat.le_trans (sumsT_le ht n _ _) (Nat.le_trans (ht _) (amongT_le _ _ _))
theorem exprT_le {E : Nat} {tm : RS→PEx × RS} (ht : ∀ s,(tm s).2.l.length≤s.l.length) (n : Nat) (s : RS) : (exprT E tm n s).2.l.length≤s.l.length :=
 Nat.le_trans (sumsT_le ht n _ _) (ht s)
theorem innerT_le {E : Nat} {tm : RS→PEx × RS} (ht : ∀ s,(tm s).2.l.length≤s.l.length) (n : Nat) (s : RS) : (innerT E tm n s).2.l.length≤s.l.length:=by
 unfold innerT
 refine Nat.le_trans (needT_le _ _) ?_
 refine Nat.le_trans (exprT_le ht n _) ?_
 refine Nat.le_trans (needT_le _ _) ?_
 split
 ·exact failT_le
 ·exact Nat.le_refl _
theorem termT_le {E : Nat} : ∀ (n : Nat) (s : RS),(termT E n s).2.l.length≤s.l.length
 | 0,s=>Nat.le_refl _
 | n+1,s=>by
   rw [termT]
   split
   ·exact valT_le
   ·split
    ·exact innerT_le (termT_le n) n s
    ·split
     ·exact Nat.le_trans (fieldT_le _) (amongT_le _ _ _)
     ·exact Nat.le_trans (callT_le _) (amongT_le _ _ _)
section
variable {E : Nat} {s : RS}
theorem takeT_deep (k : Nat) (b : List UInt8) : (takeT E s k b).2.deep=s.deep:=by
 unfold takeT
 split <;> rfl
theorem failT_deep : (failT E s).deep=s.deep:=rfl
theorem needT_deep (k : Nat) (b : List UInt8) : (needT E s k b).deep=s.deep:=by
 unfold needT
 split
 ·exact takeT_deep k b
 ·exact takeT_deep k b
theorem ofT_deep (k : Nat) : (ofT E s k).2.deep=s.deep:=by
 unfold ofT
 split <;> rfl
theorem numberT_deep : (numberT E s).2.deep=s.deep:=ofT_deep 2
theorem nameT_deep : (nameT E s).2.deep=s.deep:=by
 unfold nameT
 rw [ofT_deep]
 split <;> rfl
theorem amongT_deep (k : Nat) : ∀ (l : List (List UInt8)) (n : Nat),(amongT E s k n l).2.deep=s.deep
 | [],n=>rfl
 | b :: r,n=>by
   rw [amongT]
   split
   ·exact takeT_deep k b
   ·exact amongT_deep k r (n+1)
theorem chooseT_deep (k : Nat) (l : List (List UInt8)) : (chooseT E s k l).2.deep=s.deep:=by
 unfold chooseT
 split
 ·exact amongT_deep k l 0
 ·exact amongT_deep k l 0
theorem fieldT_deep (k : Int) : (fieldT E s k).2.deep=s.deep:=by
 unfold fieldT
 dsimp only
 rw [nameT_deep,needT_deep,nameT_deep]
theorem callT_deep (k : Int) : (callT E s k).2.deep=s.deep:=by
 unfold callT
 dsimp only
 rw [needT_deep]
 split
 ·dsimp only;rw [nameT_deep,needT_deep]
 ·rw [fieldT_deep,needT_deep]
theorem valT_deep : (valT E s).2.2.deep=s.deep:=by
 unfold valT
 split
 ·exact numberT_deep
 ·split
  ·dsimp only;rw [numberT_deep,takeT_deep]
  ·split
   ·exact ofT_deep 3
   ·split
    ·exact takeT_deep _ _
    ·split
     ·exact takeT_deep _ _
     ·rfl
theorem sumsT_deep {E : Nat} {tm : RS→PEx × RS} (ht : ∀ s,(tm s).2.deep=s.deep) : ∀ (n : Nat) (x : PEx) (s : RS),(sumsT E tm n x s).2.deep=s.deep
 | 0,x,s=>rfl
 | n+1,x,s=>by
   rw [sumsT]
   split
   ·exact amongT_deep _ _ _
   ·dsimp only;rw [sumsT_deep ht n _ _,ht,amongT_deep]
theorem exprT_deep {E : Nat} {tm : RS→PEx × RS} (ht : ∀ s,(tm s).2.deep=s.deep) (n : Nat) (s : RS) : (exprT E tm n s).2.deep=s.deep:=by
 unfold exprT
 rw [sumsT_deep ht,ht]
theorem innerT_deep {E : Nat} {tm : RS→PEx × RS} (ht : ∀ s,(tm s).2.deep=s.deep) (n : Nat) (s : RS) : (innerT E tm n s).2.deep=s.deep:=by
 unfold innerT
 dsimp only
 rw [needT_deep]
 dsimp only
 rw [exprT_deep ht]
 dsimp only
 rw [needT_deep]
 split
 ·rw [failT_deep];omega
 ·omega
theorem termT_deep {E : Nat} : ∀ (n : Nat) (s : RS),(termT E n s).2.deep=s.deep
 | 0,s=>rfl
 | n+1,s=>by
   rw [termT]
   split
   ·exact valT_deep
   ·split
    ·exact innerT_deep (termT_deep n) n s
    ·split
     ·rw [fieldT_deep,amongT_deep]
     ·rw [callT_deep,amongT_deep]
def DeepOk (s : RS) : Prop:=s.deep≤6∨s.l=[]
theorem DeepOk.le {s s' : RS} (h : DeepOk s) (hd : s'.deep=s.deep) (hl : s'.l.length≤s.l.length) : DeepOk s':=by
 rcases h with h|h
 ·exact .inl (by omega)
 ·rw [h] at hl
  exact .inr (List.eq_nil_of_length_eq_zero (by simpa using hl))
end
end Go.Proofs.Ytefcbgnckgapgaa
namespace Go.Proofs.Ytefcbgnckgapgaa
open Go.RowKit Go.Lib Go.Op
def leftN (R : Nat) (w : World) : Nat:=match w.cell? ⟨R,0,none⟩ with
 | some (.slice _ n _)=>n
 | _=>0
theorem ExK.ne {K : Nat→Prop} {w : World} {b : Nat} (hb : w.heap.size≤b) : ∀ {d : Nat} {kv : Value} {ks : List PEx},ExK K w d kv ks→ExK (fun g=>K g∨g=b) w d kv ks
 | 0,_,_,h=>h
 | d+1,kv,ks,⟨a,c,e,h⟩=>⟨a,c,e,fun j x hj=>by
   obtain ⟨g,o,kv',ea,hg,hc,hk⟩:=h j x hj
   have hlt:=World.block_lt_of_cell? _ _ hc.1
   exact ⟨g,o,kv',ea,⟨fun hn=>hn.elim hg.1 (fun e=>by have : g < w.heap.size:=hlt;omega),fun z=>z.elim hg.2 (fun e=>by have : g < w.heap.size:=hlt;omega)⟩,hc,ExK.ne hb hk⟩⟩
theorem ExK.pair {K : Nat→Prop} {w : World} {d : Nat} {x y : PEx} {kx ky : Value} (hx : ExK K w d kx x.ks) (hy : ExK K w d ky y.ks) {g : Nat} (hg : ¬ K g) (h : w.heap[g]?=some (.cells #[.int .i64 x.k,.int .i64 x.v.k,.int .i64 x.v.n,.string (strB x.v.s),.string (strB x.x),.string (strB x.f),kx,.int .i64 y.k,.int .i64 y.v.k,.int .i64 y.v.n,.string (strB y.v.s),.string (strB y.x),.string (strB y.f),ky] 50 (0,0))) :
 ExK K w (d+1) (.slice (some ⟨g,0,none⟩) 2 2) [x,y]:=by
 refine ⟨_,_,rfl,fun j z hj=>?_⟩
 match j,hj with
 | 0,hj =>
   obtain rfl : x=z:=by simpa using hj
   exact ⟨g,0,kx,rfl,⟨hg,fun _=>⟨_,_,h⟩⟩,⟨tcell h rfl,tcell h rfl,tcell h rfl,tcell h rfl,tcell h rfl,tcell h rfl,tcell h rfl⟩,hx⟩
 | 1,hj =>
   obtain rfl : y=z:=by simpa using hj
   exact ⟨g,0,ky,rfl,⟨hg,fun _=>⟨_,_,h⟩⟩,⟨tcell h rfl,tcell h rfl,tcell h rfl,tcell h rfl,tcell h rfl,tcell h rfl,tcell h rfl⟩,hy⟩
 | n+2,hj=>simp at hj
theorem xexV (x : PEx) (kv : Value) : exV x kv=.agg #[.int .i64 x.k,.int .i64 x.v.k,.int .i64 x.v.n,.string (strB x.v.s),.string (strB x.x),.string (strB x.f),kv]:=rfl
theorem amongT_nil {E : Nat} {s : RS} {k : Nat} (hk : k≠0) (hs : s.l=[]) (l : List (List UInt8)) (n : Nat) : amongT E s k n l=(0,s):=amongT_none k l n (fun b _=>by
 unfold isT nextT
 rw [hs]
 simp
 intro e
 exact absurd e.symm hk)
theorem sumsT_end {E : Nat} {tm : RS→PEx × RS} {n : Nat} {x : PEx} {s : RS} (h : (amongT E s 4 0 sumsL).1=0) (hn : s.l.length≤n) : sumsT E tm n x s=(x,(amongT E s 4 0 sumsL).2):=by
 cases n with
 | zero =>
   have hs : s.l=[]:=List.eq_nil_of_length_eq_zero (by omega)
   rw [amongT_nil (by decide) hs]
   rfl
 | succ n=>rw [sumsT,if_pos h]
theorem sumsT_more {E : Nat} {tm : RS→PEx × RS} {n : Nat} {x : PEx} {s : RS} (h : (amongT E s 4 0 sumsL).1≠0) : sumsT E tm (n+1) x s=sumsT E tm n (.mk ((amongT E s 4 0 sumsL).1 : Int) noV [] [] [x,(tm (amongT E s 4 0 sumsL).2).1]) (tm (amongT E s 4 0 sumsL).2).2:=by
 rw [sumsT,if_neg h]
end Go.Proofs.Ytefcbgnckgapgaa
namespace Go.Proofs.Ytefcbgnckgapgaa
open Go.RowKit Go.Lib Go.Op
section
variable {w : World} {R T E : Nat} {s : RS}
theorem innerT_is {E : Nat} {tm : RS→PEx × RS} {n : Nat} {s s1 : RS} (hs1 : needT E (if s.deep=6 then failT E s else s) 4 [40]=s1) {x : PEx} {s2 : RS} (hx : exprT E tm n ⟨s1.l,s1.deep+1,s1.wrong⟩=(x,s2)) : innerT E tm n s=(x,needT E ⟨s2.l,s2.deep - 1,s2.wrong⟩ 4 [41]):=by
 unfold innerT
 rw [hs1]
 dsimp only
 rw [hx]
end
end Go.Proofs.Ytefcbgnckgapgaa
namespace Go.Proofs.Ytefcbgnckgapgaa
open Go.RowKit Go.Lib Go.Op
section
variable {w : World} {R T E : Nat} {s : RS}
end
end Go.Proofs.Ytefcbgnckgapgaa
namespace Go.Proofs.Ytefcbgnckgapgaa
open Go.RowKit Go.Lib Go.Op
structure RowD (α : Type) where
 k : Nat
 P : (Nat→Prop)→World→List Value→α→Prop
 len : ∀ {K w cs x},P K w cs x→cs.length=k
 one : ∀ {K w cs x},P K w cs x→∀ u∈cs,u.oneCell'=true
 keep : ∀ {K w w' cs x},TFr K w w'→P K w cs x→P K w' cs x
 mono : ∀ {K K' w cs x},(∀ g,K' g→K g)→P K w cs x→P K' w cs x
 ne : ∀ {K w cs x} {b : Nat},w.heap.size≤b→P K w cs x→P (fun g=>K g∨g=b) w cs x
theorem RowD.ne' {α : Type} {D : RowD α} {w w1 : World} {cs : List Value} {x : α} {o : Obj} (hb : Below w1.heap.size w1 (w1.alloc o)) (h : D.P (· < w.heap.size) w1 cs x) : D.P (fun g=>g < w.heap.size∨g=w1.heap.size) (w1.alloc o) cs x :=
 D.keep (TFr.of_below hb) (D.ne (Nat.le_refl _) h)
theorem RowD.at' {α : Type} {D : RowD α} {w3 w4 : World} {cs : List Value} {x : α} {o : Obj} {B : Nat} {v : Value} (hb : Below w4.heap.size w4 (w4.alloc o)) (hv : ∀ g,v.ownBlock=some g→B≤g∧g < w3.heap.size) (hB : B≤w3.heap.size) (h : D.P (· < w3.heap.size) w4 cs x) : D.P (fun g=>g < B∨v.ownBlock=some g) (w4.alloc o) cs x :=
 D.keep (TFr.of_below hb) (D.mono (fun _ hg=>hg.elim (fun h=>Nat.lt_of_lt_of_le h hB) (fun h=>(hv _ h).2)) h)
theorem flat_at {k : Nat} : ∀ {css : List (List Value)} {j : Nat} {cs : List Value},(∀ c∈css,c.length=k)→css[j]?=some cs→∀ r u,cs[r]?=some u→css.flatten[j*k+r]?=some u
 | [],j,cs,_,h,_,_,_=>by simp at h
 | c :: l,0,cs,hk,h,r,u,hu=>by
   obtain rfl : c=cs:=by simpa using h
   rw [List.flatten_cons,Nat.zero_mul,Nat.zero_add,List.getElem?_append_left (List.getElem?_eq_some_iff.1 hu).1]
   exact hu
 | c :: l,j+1,cs,hk,h,r,u,hu=>by
   have hc:=hk c List.mem_cons_self
   rw [List.flatten_cons,List.getElem?_append_right (by rw [hc,Nat.succ_mul];omega),hc,show (j+1)*k+r - k=j*k+r by rw [Nat.succ_mul];omega]
   exact flat_at (fun c hc=>hk c (List.mem_cons_of_mem _ hc)) (by simpa using h) r u hu
theorem flat_len {k : Nat} : ∀ {css : List (List Value)},(∀ c∈css,c.length=k)→css.flatten.length=css.length*k
 | [],_=>by simp
 | c :: l,hk=>by
   rw [List.flatten_cons,List.length_append,hk c List.mem_cons_self,flat_len (fun c hc=>hk c (List.mem_cons_of_mem _ hc)),List.length_cons,Nat.succ_mul]
   omega
variable {α : Type}
def RowK (D : RowD α) (K : Nat→Prop) (w : World) (v : Value) (l : List α) : Prop:=∃ a c,v=.slice a l.length c∧l.length≤c∧∀ (j : Nat) (x : α),l[j]?=some x→∃ g o cs,a=some ⟨g,o,none⟩∧¬ K g∧D.P K w cs x∧∀ r u,cs[r]?=some u→w.cell? ⟨g,o+j*D.k+r,none⟩=some u
theorem RowK.slice {D : RowD α} {K : Nat→Prop} {w : World} {v : Value} {l : List α} (h : RowK D K w v l) : ∃ a c,v=.slice a l.length c:=by
 obtain ⟨a,c,e,_⟩:=h
 exact ⟨a,c,e⟩
theorem RowK.keep {D : RowD α} {K : Nat→Prop} {w w' : World} {v : Value} {l : List α} (h : RowK D K w v l) (hf : TFr K w w') : RowK D K w' v l:=by
 obtain ⟨a,c,e,hcap,h⟩:=h
 refine ⟨a,c,e,hcap,fun j x hj=>?_⟩
 obtain ⟨g,o,cs,ea,hg,hp,hc⟩:=h j x hj
 exact ⟨g,o,cs,ea,hg,D.keep hf hp,fun r u hu=>hf.cell (hc r u hu) hg⟩
theorem RowK.keepR {D : RowD α} {K : Nat→Prop} {R : Nat} {w w' : World} {v : Value} {l : List α} (h : RowK D K w v l) (hf : TFr (·=R) w w') (hR : K R) : RowK D K w' v l:=h.keep (hf.mono (fun _ _ e=>e ▸ hR))
theorem RowK.mono {D : RowD α} {K K' : Nat→Prop} (hs : ∀ k,K' k→K k) {w : World} {v : Value} {l : List α} (h : RowK D K w v l) : RowK D K' w v l:=by
 obtain ⟨a,c,e,hcap,h⟩:=h
 refine ⟨a,c,e,hcap,fun j x hj=>?_⟩
 obtain ⟨g,o,cs,ea,hg,hp,hc⟩:=h j x hj
 exact ⟨g,o,cs,ea,fun hn=>hg (hs g hn),D.mono hs hp,hc⟩
theorem RowK.nil (D : RowD α) (K : Nat→Prop) (w : World) : RowK D K w (.slice none 0 0) []:=⟨none,0,rfl,Nat.le_refl _,fun j x hj=>by simp at hj⟩
theorem RowK.ne {D : RowD α} {K : Nat→Prop} {w : World} {v : Value} {l : List α} {b : Nat} (h : RowK D K w v l) (hk : 0 < D.k) (hb : w.heap.size≤b) : RowK D (fun g=>K g∨g=b) w v l:=by
 obtain ⟨a,c,e,hcap,h⟩:=h
 refine ⟨a,c,e,hcap,fun j x hj=>?_⟩
 obtain ⟨g,o,cs,ea,hg,hp,hc⟩:=h j x hj
 have hl:=D.len hp
 have h0:=hc 0 (cs[0]'(by omega)) (List.getElem?_eq_getElem _)
 have hlt : g < w.heap.size:=World.block_lt_of_cell? _ _ h0
 exact ⟨g,o,cs,ea,fun hn=>hn.elim hg (fun e=>by omega),D.ne hb hp,hc⟩
theorem RowK.cap {D : RowD α} {K : Nat→Prop} {w : World} {a : Option Addr} {n c : Nat} {l : List α} (h : RowK D K w (.slice a n c) l) : l.length≤c:=by
 obtain ⟨a',c',e,hc,_⟩:=h
 injection e with e1 e2 e3
 omega
def OwnP (D : RowD α) (w : World) (B : Nat) (t : TypeId) (v : Value) (l : List α) : Prop:=∃ css : List (List Value),css.length=l.length∧w.ownsRow B t D.k v l.length css.flatten∧(∀ c∈css,c.length=D.k)∧∀ (j : Nat) (x : α),l[j]?=some x→∃ cs,css[j]?=some cs∧D.P (fun g=>g < B∨v.ownBlock=some g) w cs x
theorem OwnP.slice {D : RowD α} {w : World} {B : Nat} {t : TypeId} {v : Value} {l : List α} (h : OwnP D w B t v l) : ∃ a c,v=.slice a l.length c:=by
 obtain ⟨css,h1,h2,h3,h4⟩:=h
 rcases h2.2 with ⟨rfl,h0⟩|⟨g,cap,cur,rfl,_⟩
 ·exact ⟨none,0,by rw [h0]⟩
 ·exact ⟨_,cap,rfl⟩
theorem OwnP.first {D : RowD α} {w : World} {B b : Nat} {t : TypeId} {cs : List Value} {x : α} (hb : B≤b) (hw : w.heap[b]?=some (.cells cs.toArray t (0,0))) (hx : D.P (fun g=>g < B∨g=b) w cs x) : OwnP D w B t (.slice (some ⟨b,0,none⟩) 1 1) [x]:=by
 have hl:=D.len hx
 refine ⟨[cs],rfl,⟨by simp [hl],.inr ⟨b,1,cs.toArray,rfl,hb,hw,Nat.le_refl _,by unfold maxLen;omega,by simp [hl],by simp [← hl]⟩⟩,fun c hc=>by rw [List.mem_singleton.1 hc];exact hl,fun j y hj=>?_⟩
 match j,hj with
 | 0,hj =>
   obtain rfl : x=y:=by simpa using hj
   exact ⟨cs,rfl,D.mono (fun g hg=>hg.imp id (fun e=>(Option.some.inj e).symm)) hx⟩
 | n+1,hj=>simp at hj
theorem OwnP.own {D : RowD α} {w : World} {B : Nat} {t : TypeId} {v : Value} {l : List α} (h : OwnP D w B t v l) : ∀ g,v.ownBlock=some g→B≤g∧g < w.heap.size:=by
 obtain ⟨css,h1,h2,h3,h4⟩:=h
 intro g hg
 rcases h2.2 with ⟨rfl,h0⟩|⟨g',cap,cur,rfl,hb,hh,_⟩
 ·cases hg
 ·obtain rfl : g'=g:=Option.some.inj hg
  exact ⟨hb,(Array.getElem?_eq_some_iff.1 hh).1⟩
theorem OwnP.keep {D : RowD α} {w w' : World} {B : Nat} {t : TypeId} {v : Value} {l : List α} (h : OwnP D w B t v l) {K : Nat→Prop} (hf : TFr K w w') (hK : ∀ g,K g→g < B) : OwnP D w' B t v l:=by
 have ho:=h.own
 obtain ⟨css,h1,h2,h3,h4⟩:=h
 refine ⟨css,h1,⟨h2.1,?_⟩,h3,fun j x hj=>?_⟩
 ·rcases h2.2 with h0|⟨g,cap,cur,e,hb,hh,r⟩
  ·exact .inl h0
  ·exact .inr ⟨g,cap,cur,e,hb,(hf.block g (Array.getElem?_eq_some_iff.1 hh).1 (fun hk=>by have:=hK g hk;omega)).trans hh,r⟩
 ·obtain ⟨cs,hc,hp⟩:=h4 j x hj
  exact ⟨cs,hc,D.keep (hf.mono (fun k _ hk=>.inl (hK k hk))) hp⟩
theorem OwnP.append {D : RowD α} {w : World} {B : Nat} {t ts ty : TypeId} {z : Value} {bytes : Nat} (hu : Try.prog.underlying ts=some (.slice t)) (hi : (Try.prog.info? t).map (fun i=>(i.zero,i.size,i.bytes))=some (some z,D.k,bytes)) (hzs : z.cells.size=D.k) (hk : 0 < D.k) (hby : bytes≤1000)
 {v : Value} {l : List α} (h : OwnP D w B t v l) (hB : B≤w.heap.size) (hl : l.length≤1000) {x : α} {cs : List Value} (hx : D.P (fun g=>g < B∨v.ownBlock=some g) w cs x) {vb : Nat} (hvb : w.heap[vb]?=some (.cells cs.toArray t (0,0))) :
 ∃ v' w',(Builtin.append_ #[ts,ts] ty #[v,.slice (some ⟨vb,0,none⟩) 1 1]).run Try.prog w=.ok v' w'∧OwnP D w' B t v' (l++[x])∧w.grownBy w' v.ownBlock:=by
 have hown:=h.own
 obtain ⟨css,h1,h2,h3,h4⟩:=h
 obtain ⟨i0,hi,hz0,hz1,hz2⟩:=info_parts hi
 have hcl:=D.len hx
 have hsrc : ∀ j u,cs[j]?=some u→w.cell? ((⟨vb,0,none⟩ : Addr).add j)=some u:=fun j u hj=>by
  have e : (⟨vb,0,none⟩ : Addr).add j=⟨vb,j,none⟩:=by unfold Addr.add;split <;> simp_all
  rw [e,cell_of_row w vb j _ t (0,0) hvb]
  simpa using hj
 obtain ⟨v',w',hr,g2,g3,_,g5⟩:=run_append_own_at (P:=Try.prog) w B ts ty t i0 _ D.k bytes hu hi hz0 hz1 hz2 hzs hk v l.length css.flatten h2 ⟨vb,0,none⟩ 1 1 cs (by omega) hsrc (D.one hx) (by unfold maxLen;omega) (by
  have : (l.length+1)*bytes≤1001*1000:=Nat.mul_le_mul (by omega) hby
  omega) hB
 refine ⟨v',w',hr,⟨css++[cs],by simp [h1],?_,fun c hc=>?_,fun j y hj=>?_⟩,g3⟩
 ·rw [List.length_append,List.flatten_append]
  simpa using g2
 ·rcases List.mem_append.1 hc with hc|hc
  ·exact h3 c hc
  ·rw [List.mem_singleton.1 hc];exact hcl
 ·have key : ∀ {cs : List Value} {y : α},D.P (fun g=>g < B∨v.ownBlock=some g) w cs y→D.P (fun g=>g < B∨v'.ownBlock=some g) w' cs y:=fun {cs y} hp=>by
   rcases g5 with e|e
   ·rw [e]
    exact D.keep (TFr.of_grown g3 (fun k hk=>.inr hk)) hp
   ·rw [e]
    exact D.mono (fun g hg=>hg.elim (fun h=>.inl (.inl h)) (fun h=>.inr (Option.some.inj h).symm)) (D.keep (TFr.of_grown g3 (fun k hk=>.inl (.inr hk))) (D.ne (Nat.le_refl _) hp))
  by_cases hlt : j < l.length
  ·rw [List.getElem?_append_left hlt] at hj
   obtain ⟨c,hc,hp⟩:=h4 j y hj
   exact ⟨c,by rw [List.getElem?_append_left (by omega)];exact hc,key hp⟩
  ·have hj2 : j=l.length:=by
    have:=(List.getElem?_eq_some_iff.1 hj).1
    simp at this
    omega
   subst hj2
   obtain rfl : x=y:=by simpa using hj
   exact ⟨cs,by rw [← h1];simp,key hx⟩
theorem OwnP.row {D : RowD α} {w : World} {B : Nat} {t : TypeId} {v : Value} {l : List α} (h : OwnP D w B t v l) : RowK D (· < B) w v l:=by
 obtain ⟨css,h1,h2,h3,h4⟩:=h
 rcases h2.2 with ⟨rfl,h0⟩|⟨g,cap,cur,rfl,hb,hh,hn,hc,hs,ht⟩
 ·exact ⟨none,0,by rw [h0],by omega,fun j x hj=>by have:=(List.getElem?_eq_some_iff.1 hj).1;omega⟩
 ·refine ⟨_,cap,rfl,hn,fun j x hj=>?_⟩
  obtain ⟨cs,hcs,hp⟩:=h4 j x hj
  refine ⟨g,0,cs,rfl,Nat.not_lt.2 hb,D.mono (fun k hk=>.inl hk) hp,fun r u hu=>?_⟩
  have e1:=flat_at h3 hcs r u hu
  have e2:=(List.getElem?_eq_some_iff.1 e1).1
  rw [cell_of_row w g _ cur t (0,0) hh,Nat.zero_add]
  rw [← ht,List.getElem?_take,if_pos (by rw [← h1,← flat_len h3];exact e2)] at e1
  simpa using e1
end Go.Proofs.Ytefcbgnckgapgaa
