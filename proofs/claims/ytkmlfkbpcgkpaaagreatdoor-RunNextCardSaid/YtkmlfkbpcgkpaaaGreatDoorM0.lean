/- Texts that others want. -/
import Derived.Test.YtkmlfkbpcgkpaaaGreatDoorWL0x
import Derived.Test.YtkmlfkbpcgkpaaaGreatDoorWE0e
import Derived.Test.YtkmlfkbpcgkpaaaGreatDoorWL1x
import Derived.Test.YtkmlfkbpcgkpaaaGreatDoorWE1e
import Derived.Lib.Hide
import Derived.Test.YtkmlfkbpcgkpaaaGreatDoorWL5x
import Derived.Test.YtkmlfkbpcgkpaaaGreatDoorWV4
import Derived.Deep.DeepCutAuto
import Derived.Test.YtkmlfkbpcgkpaaaGreatDoorWTS
import Derived.Test.YtkmlfkbpcgkpaaaGreatDoorWV3
namespace Go.Proofs.YtkmlfkbpcgkpaaaGreatDoor
open Go.Lib
inductive PEx where
 | mk (k : Int) (v : PVal) (x f : List UInt8) (ks : List PEx)
namespace PEx
def k : PEx→Int|.mk k _ _ _ _=>k
def v : PEx→PVal|.mk _ v _ _ _=>v
def x : PEx→List UInt8|.mk _ _ x _ _=>x
def f : PEx→List UInt8|.mk _ _ _ f _=>f
def ks : PEx→List PEx|.mk _ _ _ _ ks=>ks
end PEx
def noV : PVal:=⟨0,0,[]⟩
def noX : PEx:=.mk 0 noV [] [] []
structure PIt where
 no : Bool
 ns : List (List UInt8)
 x : List UInt8
 mode : Int
structure PPr where
 l : PEx
 cmp : Int
 r : PEx
structure PQu where
 its : List PIt
 prs : List PPr
 within : Int
 by_ : List UInt8
 pick : Int
def noQ : PQu:=⟨[],[],0,[],0⟩
structure RS where
 l : List XTok
 deep : Nat
 wrong : Int
section
variable (E : Nat)
def nextT (s : RS) : XTok:=match s.l with
 | []=>⟨0,[],E⟩
 | t :: _=>t
def isT (s : RS) (k : Nat) (b : List UInt8) : Bool:=decide ((nextT E s).k=k∧(nextT E s).b=b)
def takeT (s : RS) (k : Nat) (b : List UInt8) : Bool × RS:=if isT E s k b then (true,⟨s.l.tail,s.deep,s.wrong⟩) else (false,s)
def failT (s : RS) : RS:=⟨[],s.deep,if s.wrong=-1 then ((nextT E s).at_ : Int) else s.wrong⟩
def needT (s : RS) (k : Nat) (b : List UInt8) : RS:=if (takeT E s k b).1 then (takeT E s k b).2 else failT E (takeT E s k b).2
def ofT (s : RS) (k : Nat) : List UInt8 × RS:=if (nextT E s).k=k then ((nextT E s).b,⟨s.l.tail,s.deep,s.wrong⟩) else ([],failT E s)
def numZ (b : List UInt8) : Int:=match parseIntB 64 b with
 | .ok v=>v
 | _=>0
def numberT (s : RS) : Int × RS:=(numZ (ofT E s 2).1,(ofT E s 2).2)
def keysL : List (List UInt8):=[[115,101,113],[116,104,101,110],[110,111,116],[111,114],[119,104,101,114,101],[97,110,100],[119,105,116,104,105,110],[98,121],[112,105,99,107],[97,110,121],[110,101,120,116],[115,116,114,105,99,116],[116,114,117,101],[102,97,108,115,101],[99,111,117,110,116],[115,117,109],[109,105,110],[109,97,120]]
def keyB (b : List UInt8) : Bool:=keysL.contains b
def nameB (b : List UInt8) : Bool:=wordB b && !keyB b
def nameT (s : RS) : List UInt8 × RS:=ofT E (if keyB (nextT E s).b then failT E s else s) 1
def amongT (s : RS) (k : Nat) : Nat→List (List UInt8)→Nat × RS
 | _,[]=>(0,s)
 | n,b :: r=>if isT E s k b then (n,(takeT E s k b).2) else amongT s k (n+1) r
def chooseT (s : RS) (k : Nat) (l : List (List UInt8)) : Nat × RS:=if (amongT E s k 0 l).1=0 then (0,failT E (amongT E s k 0 l).2) else amongT E s k 0 l
def cmpsL : List (List UInt8):=[[],[61],[33,61],[60],[60,61],[62],[62,61],[],[]]
def modesL : List (List UInt8):=[[],[],[43],[63],[],[],[],[],[]]
def picksL : List (List UInt8):=[[],[97,110,121],[110,101,120,116],[115,116,114,105,99,116],[],[],[],[],[]]
def callsL : List (List UInt8):=[[],[],[],[99,111,117,110,116],[115,117,109],[109,105,110],[109,97,120],[],[]]
def sumsL : List (List UInt8):=[[],[],[],[],[],[],[],[43],[45]]
def bTrue : List UInt8:=[116,114,117,101]
def bFalse : List UInt8:=[102,97,108,115,101]
def fieldT (s : RS) (k : Int) : PEx × RS :=
 let a:=nameT E s
 let b:=nameT E (needT E a.2 4 [46])
 (.mk k noV a.1 b.1 [],b.2)
def callT (s : RS) (k : Int) : PEx × RS :=
 let s1:=needT E s 4 [40]
 let a:=if k=3 then (PEx.mk 3 noV (nameT E s1).1 [] [],(nameT E s1).2) else fieldT E s1 k
 (a.1,needT E a.2 4 [41])
def valT (s : RS) : PVal × Bool × RS :=
 if (nextT E s).k=2 then (⟨1,(numberT E s).1,[]⟩,true,(numberT E s).2)
 else if isT E s 4 [45] then
  let s1:=(takeT E s 4 [45]).2
  (⟨1,- (numberT E s1).1,[]⟩,true,(numberT E s1).2)
 else if (nextT E s).k=3 then (⟨2,0,(ofT E s 3).1⟩,true,(ofT E s 3).2)
 else if isT E s 1 bFalse then (⟨3,0,[]⟩,true,(takeT E s 1 bFalse).2)
 else if isT E s 1 bTrue then (⟨3,1,[]⟩,true,(takeT E s 1 bTrue).2)
 else (noV,false,s)
def sumsT (term : RS→PEx × RS) : Nat→PEx→RS→PEx × RS
 | 0,x,s=>(x,s)
 | n+1,x,s =>
   if (amongT E s 4 0 sumsL).1=0 then (x,(amongT E s 4 0 sumsL).2)
   else
    let t:=term (amongT E s 4 0 sumsL).2
    sumsT term n (.mk ((amongT E s 4 0 sumsL).1 : Int) noV [] [] [x,t.1]) t.2
def exprT (term : RS→PEx × RS) (n : Nat) (s : RS) : PEx × RS:=sumsT E term n (term s).1 (term s).2
def innerT (term : RS→PEx × RS) (n : Nat) (s : RS) : PEx × RS :=
 let s1:=needT E (if s.deep=6 then failT E s else s) 4 [40]
 let a:=exprT E term n ⟨s1.l,s1.deep+1,s1.wrong⟩
 (a.1,needT E ⟨a.2.l,a.2.deep - 1,a.2.wrong⟩ 4 [41])
def termT : Nat→RS→PEx × RS
 | 0,s=>(noX,s)
 | n+1,s =>
   if (valT E s).2.1 then (.mk 1 (valT E s).1 [] [] [],(valT E s).2.2)
   else if isT E s 4 [40] then innerT E (termT n) n s
   else if (amongT E s 1 0 callsL).1=0 then fieldT E (amongT E s 1 0 callsL).2 2
   else callT E (amongT E s 1 0 callsL).2 (amongT E s 1 0 callsL).1
def rowT {α : Type} (b : List UInt8) (one : RS→α × RS) : Nat→List α→RS→List α × RS
 | 0,l,s=>(l,s)
 | n+1,l,s =>
   if isT E s 1 b then rowT b one n (l++[(one (takeT E s 1 b).2).1]) (one (takeT E s 1 b).2).2
   else (l,s)
def row1T {α : Type} (b : List UInt8) (one : RS→α × RS) (n : Nat) (s : RS) : List α × RS:=rowT E b one n [(one s).1] (one s).2
def wSeq : List UInt8:=[115,101,113]
def wThen : List UInt8:=[116,104,101,110]
def wNot : List UInt8:=[110,111,116]
def wOr : List UInt8:=[111,114]
def wWhere : List UInt8:=[119,104,101,114,101]
def wAnd : List UInt8:=[97,110,100]
def wWithin : List UInt8:=[119,105,116,104,105,110]
def wBy : List UInt8:=[98,121]
def wPick : List UInt8:=[112,105,99,107]
def itemT (n : Nat) (s : RS) : PIt × RS :=
 let a:=row1T E wOr (nameT E) n (takeT E s 1 wNot).2
 let b:=nameT E a.2
 let c:=amongT E b.2 4 0 modesL
 (⟨(takeT E s 1 wNot).1,a.1,b.1,if c.1=0 then 1 else (c.1 : Int)⟩,c.2)
def predT (n : Nat) (s : RS) : PPr × RS :=
 let a:=exprT E (termT E n) n s
 let c:=chooseT E a.2 4 cmpsL
 let b:=exprT E (termT E n) n c.2
 (⟨a.1,(c.1 : Int),b.1⟩,b.2)
def queryT (n : Nat) (s : RS) : PQu × RS :=
 let a:=row1T E wThen (itemT E n) n (needT E s 1 wSeq)
 let p:=if isT E a.2 1 wWhere then row1T E wAnd (predT E n) n (takeT E a.2 1 wWhere).2 else ([],a.2)
 let c:=numberT E (needT E p.2 1 wWithin)
 let b:=if isT E c.2 1 wBy then nameT E (takeT E c.2 1 wBy).2 else ([],c.2)
 let k:=if isT E b.2 1 wPick then chooseT E (takeT E b.2 1 wPick).2 1 picksL else (1,b.2)
 (⟨a.1,p.1,c.1,b.1,(k.1 : Int)⟩,if k.2.l=[] then k.2 else failT E k.2)
end
def rightX : Nat→PEx→Bool
 | 0,_=>false
 | d+1,.mk k v x f ks =>
   if k=1 then decide (x=[]∧f=[]∧ks.length=0) && (v.s.all (fun c=>decide (32≤c.toNat∧c.toNat≤126∧c.toNat≠39)) && rightB v)
   else if k=3 then decide (v=noV∧f=[]∧ks.length=0) && nameB x
   else if k=2∨k=4∨k=5∨k=6 then decide (v=noV∧ks.length=0) && (nameB x && nameB f)
   else if k=7∨k=8 then decide (v=noV∧x=[]∧f=[]) && (match ks with
    | [a,b]=>rightX d a && rightX d b
    | _=>false)
   else false
def unlikeB (l : List (List UInt8)) : Bool:=l.all nameB && decide l.Nodup
def rightI (i : PIt) : Bool :=
 if i.mode < 1∨3 < i.mode∨(i.no=true∧i.mode≠1) then false else decide (0 < i.ns.length∧i.ns.length≤3) && unlikeB i.ns
def rightIs (l : List PIt) : Bool :=
 match l with
 | []=>false
 | i :: _=>!(decide (6 < l.length) || (i.no || decide (i.mode=3))) && (l.all rightI && unlikeB (l.map (·.x)))
def rightP (p : PPr) : Bool:=decide (1≤p.cmp∧p.cmp≤6) && (rightX 6 p.l && rightX 6 p.r)
def rightQ (q : PQu) : Bool :=
 rightIs q.its && (decide (q.prs.length≤8) && (q.prs.all rightP && (decide (0≤q.within∧q.within≤1099511627776) && ((decide (q.by_=[]) || nameB q.by_) && decide (1≤q.pick∧q.pick≤3)))))
structure PSt where
 nx : List Nat
 gd : List Nat
 fin : Bool
def behT : List PIt→Nat→List Nat→List Nat→PSt
 | [],_,n,g=>⟨n,g,true⟩
 | x :: r,j,n,g=>if x.no then behT r (j+1) n (g++[j]) else if x.mode=3 then behT r (j+1) (n++[j]) g else ⟨n++[j],g,false⟩
def stAt (l : List PIt) (k : Nat) (x : PIt) : PSt:=behT (l.drop (k+1)) (k+1) (if x.mode=2 then [k] else []) []
def stF (l : List PIt) (k : Nat) : PSt:=match l[k]? with
 | some x=>stAt l k x
 | none=>⟨[],[],false⟩
def st0 : PSt:=⟨[0],[],false⟩
def stsN (l : List PIt) : List PSt:=st0 :: (List.range l.length).map (stF l)
theorem zbd (l : List PIt) : (stsN l).length=l.length+1:=by simp [stsN]
theorem zjl {l : List PIt} {k : Nat} {x : PIt} (h : l[k]?=some x) : (stsN l)[k+1]?=some (stAt l k x):=by
 have hk:=(List.getElem?_eq_some_iff.1 h).1
 obtain rfl : l[k]=x:=(List.getElem?_eq_some_iff.1 h).2
 simp [stsN,hk,stF]
def goL : List PIt→Nat→List Nat
 | [],_=>[]
 | x :: r,j=>if x.no then goL r (j+1) else if x.mode=3 then j :: goL r (j+1) else [j]
theorem zdC : ∀ (r : List PIt) (j : Nat) (n g : List Nat),(behT r j n g).nx=n++goL r j
 | [],_,n,g=>by simp [behT,goL]
 | x :: r,j,n,g=>by
   unfold behT goL
   split
   ·rw [zdC r]
   ·split
    ·rw [zdC r]
     simp
    ·rfl
theorem zdD : ∀ (r : List PIt) (j : Nat) (n g : List Nat),(behT r j n g).fin=r.all (fun x=>x.no || decide (x.mode=3))
 | [],_,n,g=>by simp [behT]
 | x :: r,j,n,g=>by
   unfold behT
   split
   ·rename_i h
    rw [zdD r]
    simp [h]
   ·rename_i h
    split
    ·rename_i h3
     rw [zdD r]
     simp [h3]
    ·rename_i h3
     simp [h,h3]
theorem zdE : ∀ (r : List PIt) (j : Nat) (n g : List Nat),(behT r j n g).nx.length≤n.length+r.length∧(behT r j n g).gd.length≤g.length+r.length
 | [],_,n,g=>by simp [behT]
 | x :: r,j,n,g=>by
   unfold behT
   split
   ·have:=zdE r (j+1) n (g++[j])
    simp at this ⊢
    omega
   ·split
    ·have:=zdE r (j+1) (n++[j]) g
     simp at this ⊢
     omega
    ·simp
theorem zdF : ∀ {r : List PIt} {j k : Nat},k∈goL r j→j≤k∧k < j+r.length
 | [],j,k,h=>by simp [goL] at h
 | x :: r,j,k,h=>by
   unfold goL at h
   split at h
   ·have:=zdF h
    simp
    omega
   ·split at h
    ·rcases List.mem_cons.1 h with rfl|h
     ·simp
     ·have:=zdF h
      simp
      omega
    ·obtain rfl : k=j:=by simpa using h
     simp
theorem zea {x : PIt} {r : List PIt} : rightIs (x :: r)=true ↔ r.length≤5∧x.no=false∧x.mode≠3∧(∀ y∈x :: r,rightI y=true)∧(∀ y∈x :: r,nameB y.x=true)∧((x :: r).map (·.x)).Nodup:=by
 unfold rightIs unlikeB
 simp only [Bool.and_eq_true,Bool.not_eq_true',Bool.or_eq_false_iff,decide_eq_false_iff_not,List.all_eq_true,decide_eq_true_eq,List.length_cons,List.mem_map,forall_exists_index,and_imp,forall_apply_eq_imp_iff₂]
 constructor
 ·rintro ⟨⟨h1,h2,h3⟩,h4,h5,h6⟩
  exact ⟨by omega,h2,h3,h4,h5,h6⟩
 ·rintro ⟨h1,h2,h3,h4,h5,h6⟩
  exact ⟨⟨by omega,h2,h3⟩,h4,h5,h6⟩
theorem zgo {q : PQu} (h : rightQ q=true) : rightIs q.its=true:=by
 unfold rightQ at h
 rw [Bool.and_eq_true] at h
 exact h.1
theorem zaw {q : PQu} (h : rightQ q=true) : ∃ x r,q.its=x :: r∧x.no=false∧x.mode≠3∧q.its.length≤6:=by
 have h1:=zgo h
 cases hi : q.its with
 | nil=>rw [hi] at h1;cases h1
 | cons x r =>
   rw [hi,zea] at h1
   obtain ⟨h2,h3,h4,_⟩:=h1
   exact ⟨x,r,rfl,h3,h4,by simp;omega⟩
theorem zdB : ∀ (r : List PIt) (j : Nat),(goL r j).Pairwise (· < ·)
 | [],_=>List.Pairwise.nil
 | x :: r,j=>by
   unfold goL
   split
   ·exact zdB r (j+1)
   ·split
    ·refine List.Pairwise.cons (fun k hk=>?_) (zdB r (j+1))
     have:=zdF hk
     omega
    ·exact List.pairwise_singleton _ _
theorem zg8 {l : List PIt} : ∀ {r : List PIt} {j k : Nat},l.drop j=r→k∈goL r j→∃ y,l[k]?=some y∧y.no=false
 | [],j,k,_,h=>by simp [goL] at h
 | x :: r,j,k,hd,h=>by
   have hx : l[j]?=some x:=by
    have:=congrArg (fun z=>z[0]?) hd
    simpa using this
   have hr : l.drop (j+1)=r:=by
    have:=congrArg List.tail hd
    simpa using this
   unfold goL at h
   split at h
   ·exact zg8 hr h
   ·rename_i hn
    have hn : x.no=false:=by simpa using hn
    split at h
    ·rcases List.mem_cons.1 h with rfl|h
     ·exact ⟨x,hx,hn⟩
     ·exact zg8 hr h
    ·obtain rfl:=List.mem_singleton.1 h
     exact ⟨x,hx,hn⟩
theorem zfc {l : List PIt} : ∀ {r : List PIt} {j k : Nat},l.drop j=r→k∈goL r j→(r.all fun x=>x.no || decide (x.mode=3))=true→∃ y,l[k]?=some y∧y.mode=3
 | [],j,k,_,h,_=>by simp [goL] at h
 | x :: r,j,k,hd,h,ha=>by
   have hx : l[j]?=some x:=by
    have:=congrArg (fun z=>z[0]?) hd
    simpa using this
   have hr : l.drop (j+1)=r:=by
    have:=congrArg List.tail hd
    simpa using this
   simp only [List.all_cons,Bool.and_eq_true] at ha
   unfold goL at h
   split at h
   ·exact zfc hr h ha.2
   ·rename_i hn
    have h3 : x.mode=3:=by
     have:=ha.1
     simpa [hn] using this
    rw [if_pos h3] at h
    rcases List.mem_cons.1 h with rfl|h
    ·exact ⟨x,hx,h3⟩
    ·exact zfc hr h ha.2
def gdL : List PIt→Nat→List Nat
 | [],_=>[]
 | x :: r,j=>if x.no then j :: gdL r (j+1) else if x.mode=3 then gdL r (j+1) else []
theorem zfd : ∀ (r : List PIt) (j : Nat) (n g : List Nat),(behT r j n g).gd=g++gdL r j
 | [],_,n,g=>by simp [behT,gdL]
 | x :: r,j,n,g=>by
   unfold behT gdL
   split
   ·rw [zfd r]
    simp
   ·split
    ·rw [zfd r]
    ·simp
theorem zfe {l : List PIt} : ∀ {r : List PIt} {j k : Nat},l.drop j=r→k∈gdL r j→j≤k∧k < j+r.length∧∃ y,l[k]?=some y∧y.no=true
 | [],j,k,_,h=>by simp [gdL] at h
 | x :: r,j,k,hd,h=>by
   have hx : l[j]?=some x:=by
    have:=congrArg (fun z=>z[0]?) hd
    simpa using this
   have hr : l.drop (j+1)=r:=by
    have:=congrArg List.tail hd
    simpa using this
   unfold gdL at h
   split at h
   ·rename_i hn
    rcases List.mem_cons.1 h with rfl|h
    ·exact ⟨Nat.le_refl _,by simp,x,hx,hn⟩
    ·have:=zfe hr h
     exact ⟨by omega,by simp;omega,this.2.2⟩
   ·split at h
    ·have:=zfe hr h
     exact ⟨by omega,by simp;omega,this.2.2⟩
    ·simp at h
theorem zff : ∀ {r : List PIt} {j k : Nat},k∈gdL r j→j≤k
 | [],j,k,h=>by simp [gdL] at h
 | x :: r,j,k,h=>by
   unfold gdL at h
   split at h
   ·rcases List.mem_cons.1 h with rfl|h
    ·exact Nat.le_refl _
    ·have:=zff h
     omega
   ·split at h
    ·have:=zff h
     omega
    ·simp at h
theorem zfg : ∀ (r : List PIt) (j : Nat),(gdL r j).Pairwise (· < ·)
 | [],_=>List.Pairwise.nil
 | x :: r,j=>by
   unfold gdL
   split
   ·refine List.Pairwise.cons (fun k hk=>?_) (zfg r (j+1))
    have:=zff hk
    omega
   ·split
    ·exact zfg r (j+1)
    ·exact List.Pairwise.nil
structure StOk (l : List PIt) (k : Nat) (s : PSt) : Prop where
 nx : ∀ (i n : Nat),s.nx[i]?=some n→k≤n∧n < l.length∧(∀ y,l[n]?=some y→(y.no=true→n=k)∧(n=k→y.mode=2)∧(s.fin=true→n≠k→y.mode=3))∧∀ m,0 < i→s.nx[i - 1]?=some m→m < n
 gd : ∀ (i n : Nat),s.gd[i]?=some n→k+1≤n∧n < l.length∧(∀ y,l[n]?=some y→y.no=true)∧∀ m,0 < i→s.gd[i - 1]?=some m→m < n
 fin : s.fin=(l.drop (k+1)).all fun x=>x.no || decide (x.mode=3)
theorem zi8 {l : List Nat} (h : l.Pairwise (· < ·)) {i n m : Nat} (h1 : l[i]?=some n) (h0 : 0 < i) (h2 : l[i - 1]?=some m) : m < n:=by
 obtain ⟨hi,rfl⟩:=List.getElem?_eq_some_iff.1 h1
 obtain ⟨hj,rfl⟩:=List.getElem?_eq_some_iff.1 h2
 exact List.pairwise_iff_getElem.1 h (i - 1) i hj hi (by omega)
theorem zjk {l : List PIt} {k : Nat} {x : PIt} (h : l[k]?=some x) : StOk l k (stAt l k x):=by
 have hk:=(List.getElem?_eq_some_iff.1 h).1
 have hfin : (stAt l k x).fin=(l.drop (k+1)).all fun x=>x.no || decide (x.mode=3):=by
  unfold stAt
  rw [zdD]
 have hgo : ∀ n,n∈goL (l.drop (k+1)) (k+1)→k+1≤n∧n < l.length:=fun n hn=>by
  have:=zdF hn
  rw [List.length_drop] at this
  omega
 refine ⟨fun i n hn=>?_,fun i n hn=>?_,hfin⟩
 ·have hasc : (stAt l k x).nx.Pairwise (· < ·):=by
   unfold stAt
   rw [zdC]
   split
   ·exact List.Pairwise.cons (fun m hm=>by have:=hgo m hm;omega) (zdB _ _)
   ·exact zdB _ _
  have hm:=List.mem_of_getElem? hn
  have hm2 : (n=k∧x.mode=2)∨n∈goL (l.drop (k+1)) (k+1):=by
   unfold stAt at hm
   rw [zdC] at hm
   split at hm
   ·rename_i h2
    rcases List.mem_append.1 hm with hm|hm
    ·exact .inl ⟨List.mem_singleton.1 hm,h2⟩
    ·exact .inr hm
   ·exact .inr (by simpa using hm)
  refine ⟨?_,?_,fun y hy=>⟨fun hno=>?_,fun e=>?_,fun hf hne=>?_⟩,fun m h0 h1=>zi8 hasc hn h0 h1⟩
  ·rcases hm2 with ⟨e,_⟩|hm2
   ·omega
   ·have:=hgo n hm2;omega
  ·rcases hm2 with ⟨e,_⟩|hm2
   ·omega
   ·exact (hgo n hm2).2
  ·rcases hm2 with ⟨e,_⟩|hm2
   ·exact e
   ·obtain ⟨z,hz,hz2⟩:=zg8 rfl hm2
    rw [hy] at hz
    cases hz
    rw [hz2] at hno
    cases hno
  ·rcases hm2 with ⟨_,e2⟩|hm2
   ·subst e
    rw [h] at hy
    cases hy
    exact e2
   ·have:=hgo n hm2;omega
  ·rcases hm2 with ⟨e,_⟩|hm2
   ·exact absurd e hne
   ·rw [hfin] at hf
    obtain ⟨z,hz,hz2⟩:=zfc rfl hm2 hf
    rw [hy] at hz
    cases hz
    exact hz2
 ·have he : (stAt l k x).gd=gdL (l.drop (k+1)) (k+1):=by
   unfold stAt
   rw [zfd]
   rfl
  rw [he] at hn
  have hm:=zfe rfl (List.mem_of_getElem? hn)
  rw [List.length_drop] at hm
  refine ⟨hm.1,by omega,fun y hy=>?_,fun m h0 h1=>?_⟩
  ·obtain ⟨z,hz,hz2⟩:=hm.2.2
   rw [hy] at hz
   cases hz
   exact hz2
  ·rw [he] at h1
   exact zi8 (zfg _ _) hn h0 h1
end Go.Proofs.YtkmlfkbpcgkpaaaGreatDoor
namespace Go.Proofs.YtkmlfkbpcgkpaaaGreatDoor
structure PRun where
 place : Int
 bound : List (List PEv)
structure PMt where
 done : Int
 bound : List (List PEv)
def firstR : List (List PEv)→Int
 | (e :: _) :: _=>e.ts
 | _=>0
def headNe : List (List PEv)→Bool
 | (_ :: _) :: _=>true
 | _=>false
def noAt (its : List PIt) (k : Nat) : Bool:=(its[k]?.map (·.no)).getD false
def rightR (its : List PIt) (r : PRun) : Bool:=decide (0≤r.place) && (decide (r.place < its.length) && (!noAt its r.place.toNat && (decide (r.bound.length=its.length) && (headNe r.bound && (decide (0≤firstR r.bound) && decide (firstR r.bound≤1099511627776))))))
theorem zaE {its : List PIt} {r : PRun} : rightR its r=true ↔ 0≤r.place∧r.place < its.length∧noAt its r.place.toNat=false∧r.bound.length=its.length∧headNe r.bound=true∧0≤firstR r.bound∧firstR r.bound≤1099511627776:=by
 simp only [rightR,Bool.and_eq_true,decide_eq_true_eq,Bool.not_eq_true']
def waitsS (s : PSt) : Bool:=s.fin && !s.gd.isEmpty
def stQ (its : List PIt) (k : Int) : PSt:=(stsN its)[(k+1).toNat]?.getD ⟨[],[],false⟩
theorem zd9 {its : List PIt} {k : Int} (h0 : 0≤k+1) (h1 : k < its.length) : (stsN its)[(k+1).toNat]?=some (stQ its k):=by
 unfold stQ
 have h : (k+1).toNat < (stsN its).length:=by rw [zbd];omega
 rw [List.getElem?_eq_getElem h]
 rfl
def lateR (wi time : Int) (r : PRun) : Bool:=decide (0≤time) && decide (firstR r.bound≤time - wi)
def stayR (its : List PIt) (wi time : Int) (r : PRun) : Bool:=rightR its r && !lateR wi time r
def doneR (its : List PIt) (wi time : Int) (r : PRun) : Option PMt:=if rightR its r && (lateR wi time r && waitsS (stQ its r.place)) then some ⟨firstR r.bound+wi,r.bound⟩ else none
def overP (its : List PIt) (wi time : Int) (runs : List PRun) : List PRun × List PMt:=(runs.filter (stayR its wi time),runs.filterMap (doneR its wi time))
def timeP (q : PQu) (runs : List PRun) (time : Int) : List PRun × List PMt:=if rightQ q then overP q.its q.within time runs else ([],[])
section
variable (A : List (List PEv)→Nat→Bool) (its : List PIt) (e : PEv)
def hasP (i : PIt) (b : List UInt8) : Bool:=decide (b∈i.ns)
def namesP (b : List UInt8) : Bool:=its.any fun i=>hasP i b
def withP (b : List (List PEv)) (k : Nat) : List (List PEv):=b.set k ((b[k]?.getD [])++[e])
def takesP (b : List (List PEv)) (k : Nat) : Option PRun:=match its[k]? with
 | none=>none
 | some i=>if hasP i e.name && A (withP e b k) k then some ⟨k,withP e b k⟩ else none
def takenP (r : PRun) : List PRun:=(stQ its r.place).nx.filterMap (takesP A its e r.bound)
def refusedP (r : PRun) : Bool:=(stQ its r.place).gd.any fun k=>(takesP A its e r.bound k).isSome
structure PDe where
 run : PRun
 on : Bool
 fd : Bool
def behindP (r : PRun) : PDe:=⟨r,!(stQ its r.place).nx.isEmpty || waitsS (stQ its r.place),(stQ its r.place).fin && (stQ its r.place).gd.isEmpty⟩
def staysP (pick : Int) (r : PRun) : Bool:=if pick=3 then waitsS (stQ its r.place) && (takenP A its e r).isEmpty else if pick=2 then (takenP A its e r).isEmpty else true
def goesP (pick : Int) (r : PRun) : List PRun:=if pick=3∨pick=2 then (takenP A its e r).take 1 else takenP A its e r
def doesP (pick : Int) (r : PRun) : List PDe:=if refusedP A its e r then [] else (if staysP A its e pick r then [⟨r,true,false⟩] else [])++(goesP A its e pick r).map (behindP its)
def begunP : PRun:=⟨-1,List.replicate its.length []⟩
def deedsP (pick : Int) (runs : List PRun) : List PDe:=runs.flatMap (doesP A its e pick)++(takenP A its e (begunP its)).map (behindP its)
end
def stepP (A : List (List PEv)→Nat→Bool) (q : PQu) (e : PEv) (runs : List PRun) : List PRun × List PMt :=
 if rightE e then
  if rightQ q && namesP q.its e.name then
   (((deedsP A q.its e q.pick (timeP q runs (e.ts - 1)).1).filter (·.on)).map (·.run),(timeP q runs (e.ts - 1)).2++((deedsP A q.its e q.pick (timeP q runs (e.ts - 1)).1).filter (·.fd)).map fun d=>⟨e.ts,d.run.bound⟩)
  else timeP q runs (e.ts - 1)
 else timeP q runs (-1)
theorem zbS {its : List PIt} {wi time : Int} {runs : List PRun} {k : Nat} {r : PRun} (h : runs[k]?=some r) :
 (overP its wi time (runs.take (k+1))).1=(overP its wi time (runs.take k)).1++(if stayR its wi time r then [r] else [])∧(overP its wi time (runs.take (k+1))).2=(overP its wi time (runs.take k)).2++(doneR its wi time r).toList:=by
 rw [List.take_add_one,h]
 unfold overP
 simp only [Option.toList_some,List.filter_append,List.filterMap_append]
 refine ⟨?_,?_⟩
 ·rw [List.filter_cons]
  split <;> rfl
 ·rw [List.filterMap_cons]
  cases doneR its wi time r <;> rfl
theorem zg4 {its : List PIt} {wi time : Int} {runs : List PRun} : (overP its wi time runs).1.length≤runs.length∧(overP its wi time runs).2.length≤runs.length :=
 ⟨List.length_filter_le _ _,List.length_filterMap_le _ _⟩
theorem zg5 {its : List PIt} {wi a b : Int} (ha : 0≤a) (hb : a≤b) (r : PRun) : (stayR its wi b r && stayR its wi a r)=stayR its wi b r:=by
 unfold stayR lateR
 cases rightR its r with
 | false=>rfl
 | true =>
   by_cases h : firstR r.bound≤b - wi
   ·simp [h,show 0≤b by omega]
   ·simp [h,show ¬ firstR r.bound≤a - wi by omega]
theorem zgm {q : PQu} {runs : List PRun} {a b : Int} (ha : 0≤a) (hb : a≤b) : (timeP q (timeP q runs a).1 b).1=(timeP q runs b).1:=by
 unfold timeP
 split
 ·unfold overP
  dsimp only
  rw [List.filter_filter]
  congr 1
  funext r
  exact zg5 ha hb r
 ·rfl
theorem zdi {its : List PIt} {wi a b : Int} (ha : 0≤a) (hb : a≤b) : ∀ runs : List PRun,(overP its wi a runs).2.length+(overP its wi b (overP its wi a runs).1).2.length=(overP its wi b runs).2.length
 | []=>rfl
 | r :: l=>by
   have ih:=zdi (its:=its) (wi:=wi) ha hb l
   unfold overP at ih ⊢
   dsimp only at ih ⊢
   have e1 : doneR its wi a r=none∧stayR its wi a r=true∨(stayR its wi a r=false∧(doneR its wi a r).isSome=(doneR its wi b r).isSome):=by
    unfold doneR stayR lateR
    cases rightR its r with
    | false=>simp
    | true =>
      by_cases h : firstR r.bound≤a - wi
      ·refine .inr ?_
       have h2 : firstR r.bound≤b - wi:=by omega
       cases waitsS (stQ its r.place) <;> simp [h,h2,ha,show 0≤b by omega]
      ·refine .inl ?_
       simp [h]
   rcases e1 with ⟨e1,e2⟩|⟨e1,e2⟩
   ·rw [List.filterMap_cons,e1,List.filter_cons,e2,if_pos rfl,List.filterMap_cons,List.filterMap_cons]
    cases doneR its wi b r with
    | none=>exact ih
    | some m=>simp only [List.length_cons];omega
   ·rw [List.filter_cons,e1,List.filterMap_cons,List.filterMap_cons]
    cases h1 : doneR its wi a r with
    | none =>
      cases h2 : doneR its wi b r with
      | none=>exact ih
      | some m=>rw [h1,h2] at e2;cases e2
    | some m =>
      cases h2 : doneR its wi b r with
      | none=>rw [h1,h2] at e2;cases e2
      | some m =>
        simp only [List.length_cons]
        simp only [Bool.false_eq_true,if_false]
        omega
theorem zgn {q : PQu} {runs : List PRun} {a b : Int} (ha : 0≤a) (hb : a≤b) : (timeP q runs a).2.length+(timeP q (timeP q runs a).1 b).2.length=(timeP q runs b).2.length:=by
 unfold timeP
 split
 ·exact zdi ha hb runs
 ·rfl
theorem zg6 {q : PQu} {runs : List PRun} {b : Int} (hb : 0≤b) : ∀ r∈(timeP q runs b).1,b < firstR r.bound+q.within∧rightR q.its r=true:=by
 intro r hr
 unfold timeP at hr
 split at hr
 ·have h:=(List.mem_filter.1 hr).2
  unfold stayR lateR at h
  simp only [Bool.and_eq_true,Bool.not_eq_true',Bool.and_eq_false_iff,decide_eq_false_iff_not] at h
  refine ⟨?_,h.1⟩
  rcases h.2 with h|h <;> omega
 ·cases hr
theorem zg7 {q : PQu} {runs : List PRun} {b : Int} : ∀ m∈(timeP q runs b).2,m.done≤b:=by
 intro m hm
 unfold timeP at hm
 split at hm
 ·obtain ⟨r,_,hr⟩:=List.mem_filterMap.1 hm
  unfold doneR lateR at hr
  split at hr
  ·rename_i h
   simp only [Bool.and_eq_true,decide_eq_true_eq] at h
   injection hr with hr
   rw [← hr]
   dsimp only
   omega
  ·cases hr
 ·cases hm
theorem zbN {q : PQu} {runs : List PRun} {b : Int} : (timeP q runs b).1.length≤runs.length∧(timeP q runs b).2.length≤runs.length:=by
 unfold timeP
 split
 ·exact zg4
 ·exact ⟨Nat.zero_le _,Nat.zero_le _⟩
end Go.Proofs.YtkmlfkbpcgkpaaaGreatDoor
namespace Go.Proofs.YtkmlfkbpcgkpaaaGreatDoor
open Go.RowKit Go.Lib Go.Op
theorem zao (l : List UInt8) : (strB l).toList=l:=by rw [ByteArray.toList_eq,zax]
theorem zaJ {a b : Bool} (h : a=b) : Ending.returned (.bool a)=.returned (.bool b):=by rw [h]
structure TFr (K : Nat→Prop) (w w' : World) : Prop where
 os : w'.os=w.os
 tape : w'.tape=w.tape
 output : w'.output=w.output
 size : w.heap.size≤w'.heap.size
 block : ∀ k,k < w.heap.size→¬ K k→w'.heap[k]?=w.heap[k]?
section
variable {K K' : Nat→Prop} {a b c w w' : World}
theorem TFr.refl (K : Nat→Prop) (w : World) : TFr K w w:=⟨rfl,rfl,rfl,Nat.le_refl _,fun _ _ _=>rfl⟩
theorem TFr.trans (h : TFr K a b) (k : TFr K b c) : TFr K a c :=
 ⟨k.os.trans h.os,k.tape.trans h.tape,k.output.trans h.output,Nat.le_trans h.size k.size,fun i hi hn=>(k.block i (Nat.lt_of_lt_of_le hi h.size) hn).trans (h.block i hi hn)⟩
theorem TFr.mono (h : TFr K a b) (hs : ∀ k,k < a.heap.size→K k→K' k) : TFr K' a b:=⟨h.os,h.tape,h.output,h.size,fun i hi hn=>h.block i hi (fun e=>hn (hs i hi e))⟩
theorem TFr.setCell (h : TFr K w w') {p : Addr} (hp : p.block < w.heap.size→K p.block) (v : Value) : TFr K w (w'.setCell p v) :=
 ⟨h.os,h.tape,h.output,by simpa using h.size,fun k hk hn=>(heap_setCell_other w' p k v (fun e=>hn (e ▸ hp (e ▸ hk)))).trans (h.block k hk hn)⟩
theorem TFr.of_below (h : Below w.heap.size w w') : TFr K w w':=⟨h.os,h.tape,h.output,h.size,fun k hk _=>h.block k hk⟩
theorem TFr.of_grown {row : Option Nat} (h : w.grownBy w' row) (hk : ∀ k,row=some k→K k) : TFr K w w':=⟨h.os,h.tape,h.output,h.size,fun k hl hn=>h.block k hl (fun e=>hn (hk k e.symm))⟩
theorem TFr.below (h : TFr K w w') {B : Nat} (hB : B≤w.heap.size) (hk : ∀ k,K k→B≤k) : Below B w w':=⟨h.os,h.tape,h.output,h.size,fun k hl=>h.block k (by omega) (fun e=>by have:=hk k e;omega)⟩
theorem TFr.at (R k : Nat) (v : Value) : TFr (·=R) w (w.setCell ⟨R,k,none⟩ v):=TFr.setCell (K:=(·=R)) (TFr.refl _ w) (p:=⟨R,k,none⟩) (fun _=>rfl) v
theorem TFr.cell (h : TFr K w w') {p : Addr} {v : Value} (hc : w.cell? p=some v) (hp : ¬ K p.block) : w'.cell? p=some v:=(World.cell?_of_block (h.block _ (World.block_lt_of_cell? _ _ hc) hp)).trans hc
end
section
variable {w w' : World}
theorem zab {b k : Nat} {cs : Array Value} {e : TypeId} {fr : Nat × Nat} (h : w.heap[b]?=some (.cells cs e fr)) {v : Value} (hv : cs[k]?=some v) : w.cell? ⟨b,k,none⟩=some v:=by simp [World.cell?,h,hv]
theorem zad {W : World} {p : Addr} {v : Value} (h : W.cell? p=some v) (o : Obj) : (W.alloc o).cell? p=some v:=(World.cell?_alloc_lt _ _ _ (World.block_lt_of_cell? _ _ h)).trans h
theorem zaa {w w' : World} (hb : Below w.heap.size w w') {p : Addr} {v : Value} (h : w.cell? p=some v) : w'.cell? p=some v:=(hb.cell (World.block_lt_of_cell? _ _ h)).trans h
theorem tnew (W : World) (cs : Array Value) (t : TypeId) (i : Nat) {x : Value} (hx : cs[i]?=some x) : (W.alloc (.cells cs t)).cell? ⟨W.heap.size,i,none⟩=some x:=zab (heap_alloc_new W _) hx
theorem zac {b k : Nat} {cs : Array Value} {e : TypeId} (h : w.heap[b]?=some (.cells cs e (0,0))) : w.frozen? ⟨b,k,none⟩=false:=by simp [World.frozen?,h]
theorem c5w {W : World} {b : Nat} {e : TypeId} {v0 v1 v2 v3 v4 : Value} (h : W.heap[b]?=some (.cells #[v0,v1,v2,v3,v4] e (0,0))) : W.cell? ⟨b,0,none⟩=some v0∧W.cell? ⟨b,1,none⟩=some v1∧W.cell? ⟨b,2,none⟩=some v2∧W.cell? ⟨b,3,none⟩=some v3∧W.cell? ⟨b,4,none⟩=some v4:=⟨zab h rfl,zab h rfl,zab h rfl,zab h rfl,zab h rfl⟩
theorem f5w {W : World} {b : Nat} {e : TypeId} {v0 v1 v2 v3 v4 : Value} (h : W.heap[b]?=some (.cells #[v0,v1,v2,v3,v4] e (0,0))) : W.frozen? ⟨b,0,none⟩=false∧W.frozen? ⟨b,1,none⟩=false∧W.frozen? ⟨b,2,none⟩=false∧W.frozen? ⟨b,3,none⟩=false∧W.frozen? ⟨b,4,none⟩=false:=⟨zac h,zac h,zac h,zac h,zac h⟩
theorem zal {b k : Nat} {cs : Array Value} {e : TypeId} {fr : Nat × Nat} (h : w.heap[b]?=some (.cells cs e fr)) (v : Value) : (w.setCell ⟨b,k,none⟩ v).heap[b]?=some (.cells (cs.setIfInBounds k v) e fr):=by
 simp [World.setCell,Array.getElem?_modify,h]
end
def TokL (T : Nat) (w : World) (a : Option Addr) (l : List XTok) : Prop:=∀ j t,l[j]?=some t→∃ o,a=some ⟨T,o,none⟩∧w.cell? ⟨T,o+j*3,none⟩=some (.int .i64 t.k)∧w.cell? ⟨T,o+j*3+1,none⟩=some (.string (strB t.b))∧w.cell? ⟨T,o+j*3+2,none⟩=some (.int .i64 t.at_)
theorem TokL.keep {K : Nat→Prop} {T : Nat} {w w' : World} {a : Option Addr} {l : List XTok} (h : TokL T w a l) (hf : TFr K w w') (hT : ¬ K T) : TokL T w' a l:=fun j t hj=>by
 obtain ⟨o,e,h0,h1,h2⟩:=h j t hj
 exact ⟨o,e,hf.cell h0 hT,hf.cell h1 hT,hf.cell h2 hT⟩
def TokOk (t : XTok) : Prop:=t.b.length≤1000∧t.at_≤1000000∧(t.k=2→∃ v : Int,parseIntB 64 t.b=.ok v∧0≤v∧v≤1099511627776)
section
variable {w w' : World} {R T E : Nat} {s : RS} {a : Option Addr} {c : Nat}
end
theorem zim {E : Nat} {s : RS} {k : Nat} {b : List UInt8} (h : isT E s k b=true) (hk : k≠0) : ∃ t r,s.l=t :: r:=by
 unfold isT nextT at h
 cases hl : s.l with
 | nil=>rw [hl] at h;simp at h;exact absurd h.1.symm hk
 | cons t r=>exact ⟨t,r,rfl⟩
section
variable {w : World} {R T E : Nat} {s : RS}
end
section
variable {w : World} {R T E : Nat} {s : RS}
end
set_option maxHeartbeats 8000000
set_option maxRecDepth 100000
theorem zjZ (s : ByteArray) (w : World) (h : keyB s.toList=false) : Calls Tryz.prog 166 #[.string s] w fun e w'=>e=.returned (.bool false)∧w=w':=by
 unfold keyB keysL at h
 simp only [List.contains_cons,List.contains_nil,Bool.or_false,Bool.or_eq_false_iff] at h
 obtain ⟨h1,h2,h3,h4,h5,h6,h7,h8,h9,hA,hB,hC,hD,hE,hF,hG,hH,hI⟩:=h
 go_enter Tryz.func166,Tryz.ntmps166
 go_wp2
 go_ret
 exact ⟨rfl,rfl⟩
theorem zhb (b : List UInt8) (w : World) : Calls Tryz.prog 166 #[.string (strB b)] w fun e w'=>e=.returned (.bool (keyB b))∧w=w':=by
 cases hk : keyB b with
 | false=>exact zjZ (strB b) w (by rw [zao];exact hk)
 | true =>
   have hm : b∈keysL:=by unfold keyB at hk;simpa using hk
   simp only [keysL,List.mem_cons,List.not_mem_nil,or_false] at hm
   clear hk
   rcases hm with rfl|rfl|rfl|rfl|rfl|rfl|rfl|rfl|rfl|rfl|rfl|rfl|rfl|rfl|rfl|rfl|rfl|rfl
   all_goals
    simp only [strB]
    go_enter Tryz.func166,Tryz.ntmps166
    go_wp2
    go_ret
    exact ⟨rfl,rfl⟩
section
variable {w : World} {R T E : Nat} {s : RS}
end
section
variable {w : World} {R T E : Nat} {s : RS}
theorem zfh {k n : Nat} {b : List UInt8} {r : List (List UInt8)} (h : isT E s k b=false) : amongT E s k n (b :: r)=amongT E s k (n+1) r:=by rw [amongT,h];rfl
end
def UBlk (w : World) (g : Nat) : Prop:=∃ cs t,w.heap[g]?=some (.cells cs t (0,0))
theorem UBlk.keep {K : Nat→Prop} {w w' : World} (hf : TFr K w w') {g : Nat} (hg : ¬ K g) (h : UBlk w g) : UBlk w' g:=by
 obtain ⟨cs,t,hb⟩:=h
 exact ⟨cs,t,(hf.block g (Array.getElem?_eq_some_iff.1 hb).1 hg).trans hb⟩
def ExK (K : Nat→Prop) (w : World) : Nat→Value→List PEx→Prop
 | 0,kv,ks=>(∃ a c,kv=.slice a 0 c)∧ks=[]
 | d+1,kv,ks=>∃ a c,kv=.slice a ks.length c∧∀ j x,ks[j]?=some x→∃ g o kv',a=some ⟨g,o,none⟩∧(¬ K g∧(K 0→UBlk w g)) ∧
    (w.cell? ⟨g,o+j*7,none⟩=some (.int .i64 x.k)∧w.cell? ⟨g,o+j*7+1,none⟩=some (.int .i64 x.v.k)∧w.cell? ⟨g,o+j*7+2,none⟩=some (.int .i64 x.v.n)∧w.cell? ⟨g,o+j*7+3,none⟩=some (.string (strB x.v.s))∧w.cell? ⟨g,o+j*7+4,none⟩=some (.string (strB x.x))∧w.cell? ⟨g,o+j*7+5,none⟩=some (.string (strB x.f))∧w.cell? ⟨g,o+j*7+6,none⟩=some kv') ∧
    ExK K w d kv' x.ks
theorem ExK.slice {K : Nat→Prop} {w : World} {d : Nat} {kv : Value} {ks : List PEx} (h : ExK K w d kv ks) : ∃ a c,kv=.slice a ks.length c:=by
 cases d with
 | zero=>obtain ⟨⟨a,c,rfl⟩,rfl⟩:=h;exact ⟨a,c,rfl⟩
 | succ d=>obtain ⟨a,c,rfl,_⟩:=h;exact ⟨a,c,rfl⟩
theorem ExK.keep {K : Nat→Prop} {w w' : World} (hf : TFr K w w') : ∀ {d : Nat} {kv : Value} {ks : List PEx},ExK K w d kv ks→ExK K w' d kv ks
 | 0,_,_,h=>h
 | d+1,kv,ks,⟨a,c,e,h⟩=>⟨a,c,e,fun j x hj=>by
   obtain ⟨g,o,kv',ea,hg,⟨h0,h1,h2,h3,h4,h5,h6⟩,hk⟩:=h j x hj
   exact ⟨g,o,kv',ea,⟨hg.1,fun z=>(hg.2 z).keep hf hg.1⟩,⟨hf.cell h0 hg.1,hf.cell h1 hg.1,hf.cell h2 hg.1,hf.cell h3 hg.1,hf.cell h4 hg.1,hf.cell h5 hg.1,hf.cell h6 hg.1⟩,ExK.keep hf hk⟩⟩
theorem ExK.mono {K K' : Nat→Prop} (hs : ∀ k,K' k→K k) {w : World} : ∀ {d : Nat} {kv : Value} {ks : List PEx},ExK K w d kv ks→ExK K' w d kv ks
 | 0,_,_,h=>h
 | d+1,kv,ks,⟨a,c,e,h⟩=>⟨a,c,e,fun j x hj=>by
   obtain ⟨g,o,kv',ea,hg,hc,hk⟩:=h j x hj
   exact ⟨g,o,kv',ea,⟨fun hn=>hg.1 (hs g hn),fun z=>hg.2 (hs 0 z)⟩,hc,ExK.mono hs hk⟩⟩
theorem ExK.up {K : Nat→Prop} {w : World} : ∀ {d : Nat} {kv : Value} {ks : List PEx},ExK K w d kv ks→ExK K w (d+1) kv ks
 | 0,kv,ks,⟨⟨a,c,e⟩,h0⟩=>by
   subst h0
   exact ⟨a,c,e,fun j x hj=>by simp at hj⟩
 | d+1,kv,ks,⟨a,c,e,h⟩=>⟨a,c,e,fun j x hj=>by
   obtain ⟨g,o,kv',ea,hg,hc,hk⟩:=h j x hj
   exact ⟨g,o,kv',ea,hg,hc,ExK.up hk⟩⟩
theorem ExK.le {K : Nat→Prop} {w : World} {d : Nat} {kv : Value} {ks : List PEx} (h : ExK K w d kv ks) : ∀ {e : Nat},d≤e→ExK K w e kv ks:=fun {e} he=>by
 induction e with
 | zero=>obtain rfl : d=0:=by omega
         exact h
 | succ e ih =>
   by_cases h2 : d=e+1
   ·rw [← h2];exact h
   ·exact (ih (by omega)).up
theorem ExK.nil (K : Nat→Prop) (w : World) : ExK K w 0 (.slice none 0 0) []:=⟨⟨none,0,rfl⟩,rfl⟩
theorem ExK.keepR {K : Nat→Prop} {R : Nat} {w w' : World} {d : Nat} {kv : Value} {ks : List PEx} (h : ExK K w d kv ks) (hf : TFr (·=R) w w') (hR : K R) : ExK K w' d kv ks:=h.keep (hf.mono (fun _ _ e=>e ▸ hR))
theorem ExK.set {K : Nat→Prop} {w : World} {d : Nat} {kv : Value} {ks : List PEx} (h : ExK K w d kv ks) {b : Nat} (hb : K b) (k : Nat) (v : Value) : ExK K (w.setCell ⟨b,k,none⟩ v) d kv ks:=h.keepR (TFr.at b k v) hb
theorem ExK.after {w w1 : World} {W : World} {d : Nat} {kv : Value} {ks : List PEx} (h : ExK (· < w1.heap.size) W d kv ks) (hb : w.heap.size≤w1.heap.size) : ExK (· < w.heap.size) W d kv ks:=h.mono (fun _ hk=>Nat.lt_of_lt_of_le hk hb)
def XBlk (w : World) (b : Nat) (t0 t1 t2 t3 t4 t5 t6 : Value) : Prop:=w.heap[b]?=some (.cells #[t0,t1,t2,t3,t4,t5,t6] 89 (0,0))
section
variable {w w' : World} {b : Nat} {t0 t1 t2 t3 t4 t5 t6 : Value}
theorem XBlk.new (w : World) (t0 t1 t2 t3 t4 t5 t6 : Value) : XBlk (w.alloc (.cells #[t0,t1,t2,t3,t4,t5,t6] 89)) w.heap.size t0 t1 t2 t3 t4 t5 t6:=heap_alloc_new w _
theorem XBlk.all (h : XBlk w b t0 t1 t2 t3 t4 t5 t6) : w.cell? ⟨b,0,none⟩=some t0∧w.cell? ⟨b,1,none⟩=some t1∧w.cell? ⟨b,2,none⟩=some t2∧w.cell? ⟨b,3,none⟩=some t3∧w.cell? ⟨b,4,none⟩=some t4∧w.cell? ⟨b,5,none⟩=some t5∧w.cell? ⟨b,6,none⟩=some t6∧w.frozen? ⟨b,0,none⟩=false∧w.frozen? ⟨b,1,none⟩=false∧w.frozen? ⟨b,2,none⟩=false∧w.frozen? ⟨b,3,none⟩=false∧w.frozen? ⟨b,4,none⟩=false∧w.frozen? ⟨b,5,none⟩=false∧w.frozen? ⟨b,6,none⟩=false:=⟨zab h rfl,zab h rfl,zab h rfl,zab h rfl,zab h rfl,zab h rfl,zab h rfl,zac h,zac h,zac h,zac h,zac h,zac h,zac h⟩
theorem XBlk.keep {K : Nat→Prop} (h : XBlk w b t0 t1 t2 t3 t4 t5 t6) (hf : TFr K w w') (hk : ¬ K b) : XBlk w' b t0 t1 t2 t3 t4 t5 t6:=(hf.block b (Array.getElem?_eq_some_iff.1 h).1 hk).trans h
theorem XBlk.set4 (h : XBlk w b t0 t1 t2 t3 t4 t5 t6) (v : Value) : XBlk (w.setCell ⟨b,4,none⟩ v) b t0 t1 t2 t3 v t5 t6:=by
 unfold XBlk
 rw [zal h]
 rfl
theorem XBlk.set5 (h : XBlk w b t0 t1 t2 t3 t4 t5 t6) (v : Value) : XBlk (w.setCell ⟨b,5,none⟩ v) b t0 t1 t2 t3 t4 v t6:=by
 unfold XBlk
 rw [zal h]
 rfl
theorem XBlk.lt (h : XBlk w b t0 t1 t2 t3 t4 t5 t6) : b < w.heap.size:=(Array.getElem?_eq_some_iff.1 h).1
end
theorem ExK.set7 {K : Nat→Prop} {w : World} {d : Nat} {kv : Value} {ks : List PEx} (h : ExK K w d kv ks) {b : Nat} (hb : K b) (t0 t1 t2 t3 t4 t5 t6 : Value) : ExK K (((((((w.setCell ⟨b,0,none⟩ t0).setCell ⟨b,1,none⟩ t1).setCell ⟨b,2,none⟩ t2).setCell ⟨b,3,none⟩ t3).setCell ⟨b,4,none⟩ t4).setCell ⟨b,5,none⟩ t5).setCell ⟨b,6,none⟩ t6) d kv ks :=
 ((((((h.set hb _ _).set hb _ _).set hb _ _).set hb _ _).set hb _ _).set hb _ _).set hb _ _
def exV (x : PEx) (kv : Value) : Value:=.agg #[.int .i64 x.k,.int .i64 x.v.k,.int .i64 x.v.n,.string (strB x.v.s),.string (strB x.x),.string (strB x.f),kv]
section
variable {w : World} {R T E : Nat} {s : RS}
end
section
variable {w w' : World} {b : Nat} {t0 t1 t2 t3 t4 t5 t6 : Value}
theorem XBlk.setAll (h : XBlk w b t0 t1 t2 t3 t4 t5 t6) (v0 v1 v2 v3 v4 v5 v6 : Value) : XBlk (((((((w.setCell ⟨b,0,none⟩ v0).setCell ⟨b,1,none⟩ v1).setCell ⟨b,2,none⟩ v2).setCell ⟨b,3,none⟩ v3).setCell ⟨b,4,none⟩ v4).setCell ⟨b,5,none⟩ v5).setCell ⟨b,6,none⟩ v6) b v0 v1 v2 v3 v4 v5 v6:=by
 unfold XBlk at h ⊢
 rw [zal (zal (zal (zal (zal (zal (zal h _) _) _) _) _) _) _]
 rfl
theorem XBlk.past (h : XBlk w b t0 t1 t2 t3 t4 t5 t6) {b' : Nat} (hne : b≠b') (v0 v1 v2 v3 v4 v5 v6 : Value) : XBlk (((((((w.setCell ⟨b',0,none⟩ v0).setCell ⟨b',1,none⟩ v1).setCell ⟨b',2,none⟩ v2).setCell ⟨b',3,none⟩ v3).setCell ⟨b',4,none⟩ v4).setCell ⟨b',5,none⟩ v5).setCell ⟨b',6,none⟩ v6) b t0 t1 t2 t3 t4 t5 t6 :=
 ((((((h.keep (TFr.at b' 0 v0) hne).keep (TFr.at b' 1 v1) hne).keep (TFr.at b' 2 v2) hne).keep (TFr.at b' 3 v3) hne).keep (TFr.at b' 4 v4) hne).keep (TFr.at b' 5 v5) hne).keep (TFr.at b' 6 v6) hne
end
section
variable {w : World} {R T E : Nat} {s : RS}
end
section
variable {w w' : World} {b : Nat} {t0 t1 t2 : Value}
end
section
variable {w : World} {R T E : Nat} {s : RS}
end
end Go.Proofs.YtkmlfkbpcgkpaaaGreatDoor
namespace Go.Proofs.YtkmlfkbpcgkpaaaGreatDoor
open Go.Lib
section
variable {E : Nat} {s : RS}
theorem zik (k : Nat) (b : List UInt8) : (takeT E s k b).2.l.length≤s.l.length:=by
 unfold takeT
 split
 ·show s.l.tail.length≤_;rw [List.length_tail];omega
 ·exact Nat.le_refl _
theorem zil {k : Nat} {b : List UInt8} (h : isT E s k b=true) (hk : k≠0) : (takeT E s k b).2.l.length < s.l.length:=by
 obtain ⟨t,r,hl⟩:=zim h hk
 unfold takeT
 rw [if_pos h,hl]
 show r.length < (t :: r).length
 simp
theorem zfX : (failT E s).l.length≤s.l.length:=by unfold failT;simp
theorem zjY (k : Nat) : (ofT E s k).2.l.length≤s.l.length:=by
 unfold ofT
 split
 ·show s.l.tail.length≤_;rw [List.length_tail];omega
 ·exact zfX
theorem zfY : (nameT E s).2.l.length≤s.l.length:=by
 unfold nameT
 refine Nat.le_trans (zjY 1) ?_
 split
 ·exact zfX
 ·exact Nat.le_refl _
theorem zbO (k : Nat) : ∀ (l : List (List UInt8)) (n : Nat),(∀ b∈l,isT E s k b=false)→amongT E s k n l=(0,s)
 | [],n,_=>rfl
 | b :: r,n,h=>by
   rw [amongT,h b List.mem_cons_self]
   exact zbO k r (n+1) (fun c hc=>h c (List.mem_cons_of_mem _ hc))
end
section
variable {E : Nat} {s : RS}
end
end Go.Proofs.YtkmlfkbpcgkpaaaGreatDoor
namespace Go.Proofs.YtkmlfkbpcgkpaaaGreatDoor
open Go.RowKit Go.Lib Go.Op
theorem ExK.ne {K : Nat→Prop} {w : World} {b : Nat} (hb : w.heap.size≤b) : ∀ {d : Nat} {kv : Value} {ks : List PEx},ExK K w d kv ks→ExK (fun g=>K g∨g=b) w d kv ks
 | 0,_,_,h=>h
 | d+1,kv,ks,⟨a,c,e,h⟩=>⟨a,c,e,fun j x hj=>by
   obtain ⟨g,o,kv',ea,hg,hc,hk⟩:=h j x hj
   have hlt:=World.block_lt_of_cell? _ _ hc.1
   exact ⟨g,o,kv',ea,⟨fun hn=>hn.elim hg.1 (fun e=>by have : g < w.heap.size:=hlt;omega),fun z=>z.elim hg.2 (fun e=>by have : g < w.heap.size:=hlt;omega)⟩,hc,ExK.ne hb hk⟩⟩
theorem ExK.pair {K : Nat→Prop} {w : World} {d : Nat} {x y : PEx} {kx ky : Value} (hx : ExK K w d kx x.ks) (hy : ExK K w d ky y.ks) {g : Nat} (hg : ¬ K g) (h : w.heap[g]?=some (.cells #[.int .i64 x.k,.int .i64 x.v.k,.int .i64 x.v.n,.string (strB x.v.s),.string (strB x.x),.string (strB x.f),kx,.int .i64 y.k,.int .i64 y.v.k,.int .i64 y.v.n,.string (strB y.v.s),.string (strB y.x),.string (strB y.f),ky] 89 (0,0))) :
 ExK K w (d+1) (.slice (some ⟨g,0,none⟩) 2 2) [x,y]:=by
 refine ⟨_,_,rfl,fun j z hj=>?_⟩
 match j,hj with
 | 0,hj =>
   obtain rfl : x=z:=by simpa using hj
   exact ⟨g,0,kx,rfl,⟨hg,fun _=>⟨_,_,h⟩⟩,⟨zab h rfl,zab h rfl,zab h rfl,zab h rfl,zab h rfl,zab h rfl,zab h rfl⟩,hx⟩
 | 1,hj =>
   obtain rfl : y=z:=by simpa using hj
   exact ⟨g,0,ky,rfl,⟨hg,fun _=>⟨_,_,h⟩⟩,⟨zab h rfl,zab h rfl,zab h rfl,zab h rfl,zab h rfl,zab h rfl,zab h rfl⟩,hy⟩
 | n+2,hj=>simp at hj
theorem xexV (x : PEx) (kv : Value) : exV x kv=.agg #[.int .i64 x.k,.int .i64 x.v.k,.int .i64 x.v.n,.string (strB x.v.s),.string (strB x.x),.string (strB x.f),kv]:=rfl
section
variable {w : World} {R T E : Nat} {s : RS}
end
section
variable {w : World} {R T E : Nat} {s : RS}
end
structure RowD (α : Type) where
 k : Nat
 P : (Nat→Prop)→World→List Value→α→Prop
 len : ∀ {K w cs x},P K w cs x→cs.length=k
 one : ∀ {K w cs x},P K w cs x→∀ u∈cs,u.oneCell'=true
 keep : ∀ {K w w' cs x},TFr K w w'→P K w cs x→P K w' cs x
 mono : ∀ {K K' w cs x},(∀ g,K' g→K g)→P K w cs x→P K' w cs x
 ne : ∀ {K w cs x} {b : Nat},w.heap.size≤b→P K w cs x→P (fun g=>K g∨g=b) w cs x
theorem RowD.at' {α : Type} {D : RowD α} {w3 w4 : World} {cs : List Value} {x : α} {o : Obj} {B : Nat} {v : Value} (hb : Below w4.heap.size w4 (w4.alloc o)) (hv : ∀ g,v.ownBlock=some g→B≤g∧g < w3.heap.size) (hB : B≤w3.heap.size) (h : D.P (· < w3.heap.size) w4 cs x) : D.P (fun g=>g < B∨v.ownBlock=some g) (w4.alloc o) cs x :=
 D.keep (TFr.of_below hb) (D.mono (fun _ hg=>hg.elim (fun h=>Nat.lt_of_lt_of_le h hB) (fun h=>(hv _ h).2)) h)
theorem zdG {k : Nat} : ∀ {css : List (List Value)} {j : Nat} {cs : List Value},(∀ c∈css,c.length=k)→css[j]?=some cs→∀ r u,cs[r]?=some u→css.flatten[j*k+r]?=some u
 | [],j,cs,_,h,_,_,_=>by simp at h
 | c :: l,0,cs,hk,h,r,u,hu=>by
   obtain rfl : c=cs:=by simpa using h
   rw [List.flatten_cons,Nat.zero_mul,Nat.zero_add,List.getElem?_append_left (List.getElem?_eq_some_iff.1 hu).1]
   exact hu
 | c :: l,j+1,cs,hk,h,r,u,hu=>by
   have hc:=hk c List.mem_cons_self
   rw [List.flatten_cons,List.getElem?_append_right (by rw [hc,Nat.succ_mul];omega),hc,show (j+1)*k+r - k=j*k+r by rw [Nat.succ_mul];omega]
   exact zdG (fun c hc=>hk c (List.mem_cons_of_mem _ hc)) (by simpa using h) r u hu
theorem zbf {k : Nat} : ∀ {css : List (List Value)},(∀ c∈css,c.length=k)→css.flatten.length=css.length*k
 | [],_=>by simp
 | c :: l,hk=>by
   rw [List.flatten_cons,List.length_append,hk c List.mem_cons_self,zbf (fun c hc=>hk c (List.mem_cons_of_mem _ hc)),List.length_cons,Nat.succ_mul]
   omega
variable {α : Type}
def RowK (D : RowD α) (K : Nat→Prop) (w : World) (v : Value) (l : List α) : Prop:=∃ a c,v=.slice a l.length c∧l.length≤c∧∀ (j : Nat) (x : α),l[j]?=some x→∃ g o cs,a=some ⟨g,o,none⟩∧¬ K g∧D.P K w cs x∧∀ r u,cs[r]?=some u→w.cell? ⟨g,o+j*D.k+r,none⟩=some u
theorem RowK.slice {D : RowD α} {K : Nat→Prop} {w : World} {v : Value} {l : List α} (h : RowK D K w v l) : ∃ a c,v=.slice a l.length c:=by
 obtain ⟨a,c,e,_⟩:=h
 exact ⟨a,c,e⟩
theorem RowK.keep {D : RowD α} {K : Nat→Prop} {w w' : World} {v : Value} {l : List α} (h : RowK D K w v l) (hf : TFr K w w') : RowK D K w' v l:=by
 obtain ⟨a,c,e,hcap,h⟩:=h
 refine ⟨a,c,e,hcap,fun j x hj=>?_⟩
 obtain ⟨g,o,cs,ea,hg,hp,hc⟩:=h j x hj
 exact ⟨g,o,cs,ea,hg,D.keep hf hp,fun r u hu=>hf.cell (hc r u hu) hg⟩
theorem RowK.keepR {D : RowD α} {K : Nat→Prop} {R : Nat} {w w' : World} {v : Value} {l : List α} (h : RowK D K w v l) (hf : TFr (·=R) w w') (hR : K R) : RowK D K w' v l:=h.keep (hf.mono (fun _ _ e=>e ▸ hR))
theorem RowK.mono {D : RowD α} {K K' : Nat→Prop} (hs : ∀ k,K' k→K k) {w : World} {v : Value} {l : List α} (h : RowK D K w v l) : RowK D K' w v l:=by
 obtain ⟨a,c,e,hcap,h⟩:=h
 refine ⟨a,c,e,hcap,fun j x hj=>?_⟩
 obtain ⟨g,o,cs,ea,hg,hp,hc⟩:=h j x hj
 exact ⟨g,o,cs,ea,fun hn=>hg (hs g hn),D.mono hs hp,hc⟩
theorem RowK.nil (D : RowD α) (K : Nat→Prop) (w : World) : RowK D K w (.slice none 0 0) []:=⟨none,0,rfl,Nat.le_refl _,fun j x hj=>by simp at hj⟩
theorem RowK.ne {D : RowD α} {K : Nat→Prop} {w : World} {v : Value} {l : List α} {b : Nat} (h : RowK D K w v l) (hk : 0 < D.k) (hb : w.heap.size≤b) : RowK D (fun g=>K g∨g=b) w v l:=by
 obtain ⟨a,c,e,hcap,h⟩:=h
 refine ⟨a,c,e,hcap,fun j x hj=>?_⟩
 obtain ⟨g,o,cs,ea,hg,hp,hc⟩:=h j x hj
 have hl:=D.len hp
 have h0:=hc 0 (cs[0]'(by omega)) (List.getElem?_eq_getElem _)
 have hlt : g < w.heap.size:=World.block_lt_of_cell? _ _ h0
 exact ⟨g,o,cs,ea,fun hn=>hn.elim hg (fun e=>by omega),D.ne hb hp,hc⟩
theorem RowK.cap {D : RowD α} {K : Nat→Prop} {w : World} {a : Option Addr} {n c : Nat} {l : List α} (h : RowK D K w (.slice a n c) l) : l.length≤c:=by
 obtain ⟨a',c',e,hc,_⟩:=h
 injection e with e1 e2 e3
 omega
def OwnP (D : RowD α) (w : World) (B : Nat) (t : TypeId) (v : Value) (l : List α) : Prop:=∃ css : List (List Value),css.length=l.length∧w.ownsRow B t D.k v l.length css.flatten∧(∀ c∈css,c.length=D.k)∧∀ (j : Nat) (x : α),l[j]?=some x→∃ cs,css[j]?=some cs∧D.P (fun g=>g < B∨v.ownBlock=some g) w cs x
theorem OwnP.slice {D : RowD α} {w : World} {B : Nat} {t : TypeId} {v : Value} {l : List α} (h : OwnP D w B t v l) : ∃ a c,v=.slice a l.length c:=by
 obtain ⟨css,h1,h2,h3,h4⟩:=h
 rcases h2.2 with ⟨rfl,h0⟩|⟨g,cap,cur,rfl,_⟩
 ·exact ⟨none,0,by rw [h0]⟩
 ·exact ⟨_,cap,rfl⟩
theorem OwnP.first {D : RowD α} {w : World} {B b : Nat} {t : TypeId} {cs : List Value} {x : α} (hb : B≤b) (hw : w.heap[b]?=some (.cells cs.toArray t (0,0))) (hx : D.P (fun g=>g < B∨g=b) w cs x) : OwnP D w B t (.slice (some ⟨b,0,none⟩) 1 1) [x]:=by
 have hl:=D.len hx
 refine ⟨[cs],rfl,⟨by simp [hl],.inr ⟨b,1,cs.toArray,rfl,hb,hw,Nat.le_refl _,by unfold maxLen;omega,by simp [hl],by simp [← hl]⟩⟩,fun c hc=>by rw [List.mem_singleton.1 hc];exact hl,fun j y hj=>?_⟩
 match j,hj with
 | 0,hj =>
   obtain rfl : x=y:=by simpa using hj
   exact ⟨cs,rfl,D.mono (fun g hg=>hg.imp id (fun e=>(Option.some.inj e).symm)) hx⟩
 | n+1,hj=>simp at hj
theorem OwnP.own {D : RowD α} {w : World} {B : Nat} {t : TypeId} {v : Value} {l : List α} (h : OwnP D w B t v l) : ∀ g,v.ownBlock=some g→B≤g∧g < w.heap.size:=by
 obtain ⟨css,h1,h2,h3,h4⟩:=h
 intro g hg
 rcases h2.2 with ⟨rfl,h0⟩|⟨g',cap,cur,rfl,hb,hh,_⟩
 ·cases hg
 ·obtain rfl : g'=g:=Option.some.inj hg
  exact ⟨hb,(Array.getElem?_eq_some_iff.1 hh).1⟩
theorem OwnP.keep {D : RowD α} {w w' : World} {B : Nat} {t : TypeId} {v : Value} {l : List α} (h : OwnP D w B t v l) {K : Nat→Prop} (hf : TFr K w w') (hK : ∀ g,K g→g < B) : OwnP D w' B t v l:=by
 have ho:=h.own
 obtain ⟨css,h1,h2,h3,h4⟩:=h
 refine ⟨css,h1,⟨h2.1,?_⟩,h3,fun j x hj=>?_⟩
 ·rcases h2.2 with h0|⟨g,cap,cur,e,hb,hh,r⟩
  ·exact .inl h0
  ·exact .inr ⟨g,cap,cur,e,hb,(hf.block g (Array.getElem?_eq_some_iff.1 hh).1 (fun hk=>by have:=hK g hk;omega)).trans hh,r⟩
 ·obtain ⟨cs,hc,hp⟩:=h4 j x hj
  exact ⟨cs,hc,D.keep (hf.mono (fun k _ hk=>.inl (hK k hk))) hp⟩
theorem OwnP.append {D : RowD α} {w : World} {B : Nat} {t ts ty : TypeId} {z : Value} {bytes : Nat} (hu : Tryz.prog.underlying ts=some (.slice t)) (hi : (Tryz.prog.info? t).map (fun i=>(i.zero,i.size,i.bytes))=some (some z,D.k,bytes)) (hzs : z.cells.size=D.k) (hk : 0 < D.k) (hby : bytes≤1000)
 {v : Value} {l : List α} (h : OwnP D w B t v l) (hB : B≤w.heap.size) (hl : l.length≤1000) {x : α} {cs : List Value} (hx : D.P (fun g=>g < B∨v.ownBlock=some g) w cs x) {vb : Nat} (hvb : w.heap[vb]?=some (.cells cs.toArray t (0,0))) :
 ∃ v' w',(Builtin.append_ #[ts,ts] ty #[v,.slice (some ⟨vb,0,none⟩) 1 1]).run Tryz.prog w=.ok v' w'∧OwnP D w' B t v' (l++[x])∧w.grownBy w' v.ownBlock:=by
 have hown:=h.own
 obtain ⟨css,h1,h2,h3,h4⟩:=h
 obtain ⟨i0,hi,hz0,hz1,hz2⟩:=info_parts hi
 have hcl:=D.len hx
 have hsrc : ∀ j u,cs[j]?=some u→w.cell? ((⟨vb,0,none⟩ : Addr).add j)=some u:=fun j u hj=>by
  have e : (⟨vb,0,none⟩ : Addr).add j=⟨vb,j,none⟩:=by unfold Addr.add;split <;> simp_all
  rw [e,cell_of_row w vb j _ t (0,0) hvb]
  simpa using hj
 obtain ⟨v',w',hr,g2,g3,_,g5⟩:=run_append_own_at (P:=Tryz.prog) w B ts ty t i0 _ D.k bytes hu hi hz0 hz1 hz2 hzs hk v l.length css.flatten h2 ⟨vb,0,none⟩ 1 1 cs (by omega) hsrc (D.one hx) (by unfold maxLen;omega) (by
  have : (l.length+1)*bytes≤1001*1000:=Nat.mul_le_mul (by omega) hby
  omega) hB
 refine ⟨v',w',hr,⟨css++[cs],by simp [h1],?_,fun c hc=>?_,fun j y hj=>?_⟩,g3⟩
 ·rw [List.length_append,List.flatten_append]
  simpa using g2
 ·rcases List.mem_append.1 hc with hc|hc
  ·exact h3 c hc
  ·rw [List.mem_singleton.1 hc];exact hcl
 ·have key : ∀ {cs : List Value} {y : α},D.P (fun g=>g < B∨v.ownBlock=some g) w cs y→D.P (fun g=>g < B∨v'.ownBlock=some g) w' cs y:=fun {cs y} hp=>by
   rcases g5 with e|e
   ·rw [e]
    exact D.keep (TFr.of_grown g3 (fun k hk=>.inr hk)) hp
   ·rw [e]
    exact D.mono (fun g hg=>hg.elim (fun h=>.inl (.inl h)) (fun h=>.inr (Option.some.inj h).symm)) (D.keep (TFr.of_grown g3 (fun k hk=>.inl (.inr hk))) (D.ne (Nat.le_refl _) hp))
  by_cases hlt : j < l.length
  ·rw [List.getElem?_append_left hlt] at hj
   obtain ⟨c,hc,hp⟩:=h4 j y hj
   exact ⟨c,by rw [List.getElem?_append_left (by omega)];exact hc,key hp⟩
  ·have hj2 : j=l.length:=by
    have:=(List.getElem?_eq_some_iff.1 hj).1
    simp at this
    omega
   subst hj2
   obtain rfl : x=y:=by simpa using hj
   exact ⟨cs,by rw [← h1];simp,key hx⟩
theorem OwnP.row {D : RowD α} {w : World} {B : Nat} {t : TypeId} {v : Value} {l : List α} (h : OwnP D w B t v l) : RowK D (· < B) w v l:=by
 obtain ⟨css,h1,h2,h3,h4⟩:=h
 rcases h2.2 with ⟨rfl,h0⟩|⟨g,cap,cur,rfl,hb,hh,hn,hc,hs,ht⟩
 ·exact ⟨none,0,by rw [h0],by omega,fun j x hj=>by have:=(List.getElem?_eq_some_iff.1 hj).1;omega⟩
 ·refine ⟨_,cap,rfl,hn,fun j x hj=>?_⟩
  obtain ⟨cs,hcs,hp⟩:=h4 j x hj
  refine ⟨g,0,cs,rfl,Nat.not_lt.2 hb,D.mono (fun k hk=>.inl hk) hp,fun r u hu=>?_⟩
  have e1:=zdG h3 hcs r u hu
  have e2:=(List.getElem?_eq_some_iff.1 e1).1
  rw [cell_of_row w g _ cur t (0,0) hh,Nat.zero_add]
  rw [← ht,List.getElem?_take,if_pos (by rw [← h1,← zbf h3];exact e2)] at e1
  simpa using e1
def nameD : RowD (List UInt8) where
 k:=1
 P:=fun _ _ cs b=>cs=[.string (strB b)]
 len:=fun h=>by rw [h];rfl
 one:=fun h u hu=>by rw [h] at hu;rw [List.mem_singleton.1 hu];rfl
 keep:=fun _ h=>h
 mono:=fun _ h=>h
 ne:=fun _ h=>h
def itemD : RowD PIt where
 k:=4
 P:=fun K w cs i=>∃ a c,cs=[.bool i.no,.slice a i.ns.length c,.string (strB i.x),.int .i64 i.mode]∧RowK nameD K w (.slice a i.ns.length c) i.ns
 len:=fun ⟨a,c,h,_⟩=>by rw [h];rfl
 one:=fun ⟨a,c,h,_⟩ u hu=>by
  rw [h] at hu
  simp only [List.mem_cons,List.not_mem_nil,or_false] at hu
  rcases hu with rfl|rfl|rfl|rfl <;> rfl
 keep:=fun hf ⟨a,c,h,hr⟩=>⟨a,c,h,hr.keep hf⟩
 mono:=fun hs ⟨a,c,h,hr⟩=>⟨a,c,h,hr.mono hs⟩
 ne:=fun hb ⟨a,c,h,hr⟩=>⟨a,c,h,hr.ne (by decide) hb⟩
def exL (x : PEx) (kv : Value) : List Value:=[.int .i64 x.k,.int .i64 x.v.k,.int .i64 x.v.n,.string (strB x.v.s),.string (strB x.x),.string (strB x.f),kv]
def predD : RowD PPr where
 k:=15
 P:=fun K w cs p=>∃ a q c b r e d,cs=.int .i64 p.cmp :: (exL p.l (.slice a q c)++exL p.r (.slice b r e))∧ExK K w d (.slice a q c) p.l.ks∧ExK K w d (.slice b r e) p.r.ks
 len:=fun ⟨a,q,c,b,r,e,d,h,_⟩=>by rw [h];rfl
 one:=fun ⟨a,q,c,b,r,e,d,h,_⟩ u hu=>by
  rw [h] at hu
  simp only [exL,List.cons_append,List.nil_append,List.mem_cons,List.not_mem_nil,or_false] at hu
  rcases hu with rfl|rfl|rfl|rfl|rfl|rfl|rfl|rfl|rfl|rfl|rfl|rfl|rfl|rfl|rfl <;> rfl
 keep:=fun hf ⟨a,q,c,b,r,e,d,h,h1,h2⟩=>⟨a,q,c,b,r,e,d,h,h1.keep hf,h2.keep hf⟩
 mono:=fun hs ⟨a,q,c,b,r,e,d,h,h1,h2⟩=>⟨a,q,c,b,r,e,d,h,h1.mono hs,h2.mono hs⟩
 ne:=fun hb ⟨a,q,c,b,r,e,d,h,h1,h2⟩=>⟨a,q,c,b,r,e,d,h,ExK.ne hb h1,ExK.ne hb h2⟩
theorem strI : (Tryz.prog.info? 9).map (fun i=>(i.zero,i.size,i.bytes))=some (some (.string .empty),1,16):=by kernel_rfl
theorem zkn : (Tryz.prog.info? 44).map (fun i=>(i.zero,i.size,i.bytes))=some (some (.agg #[.bool false,.slice none 0 0,.string .empty,.int .i64 0]),4,56):=by kernel_rfl
theorem zko : (Tryz.prog.info? 91).map (fun i=>(i.zero,i.size,i.bytes))=some (some (.agg #[.int .i64 0,.int .i64 0,.int .i64 0,.int .i64 0,.string .empty,.string .empty,.string .empty,.slice none 0 0,.int .i64 0,.int .i64 0,.int .i64 0,.string .empty,.string .empty,.string .empty,.slice none 0 0]),15,200):=by kernel_rfl
section
variable {α : Type} {E : Nat} {b : List UInt8} {one : RS→α × RS} {n : Nat} {l : List α} {s : RS}
end
def Blk (w : World) (b : Nat) (cs : Array Value) (t : TypeId) : Prop:=w.heap[b]?=some (.cells cs t (0,0))
section
variable {w w' : World} {b : Nat} {cs : Array Value} {t : TypeId}
theorem Blk.new (w : World) (cs : Array Value) (t : TypeId) : Blk (w.alloc (.cells cs t)) w.heap.size cs t:=heap_alloc_new w _
theorem Blk.keep {K : Nat→Prop} (h : Blk w b cs t) (hf : TFr K w w') (hk : ¬ K b) : Blk w' b cs t:=(hf.block b (Array.getElem?_eq_some_iff.1 h).1 hk).trans h
theorem Blk.low (h : Blk w b cs t) (hb : Below w.heap.size w w') : Blk w' b cs t:=h.keep (TFr.of_below (K:=fun _=>False) hb) id
theorem Blk.set (h : Blk w b cs t) (k : Nat) (v : Value) {cs' : Array Value} (hc : cs.setIfInBounds k v=cs') : Blk (w.setCell ⟨b,k,none⟩ v) b cs' t:=by
 subst hc
 exact zal h v
theorem Blk.at (h : Blk w b cs t) {b' : Nat} (hne : b≠b') (k : Nat) (v : Value) : Blk (w.setCell ⟨b',k,none⟩ v) b cs t:=h.keep (TFr.at b' k v) hne
theorem Blk.lt (h : Blk w b cs t) : b < w.heap.size:=(Array.getElem?_eq_some_iff.1 h).1
end
theorem RowK.set {α : Type} {D : RowD α} {K : Nat→Prop} {w : World} {v : Value} {l : List α} (h : RowK D K w v l) {b : Nat} (hb : K b) (k : Nat) (u : Value) : RowK D K (w.setCell ⟨b,k,none⟩ u) v l:=h.keepR (TFr.at b k u) hb
theorem RowK.low {α : Type} {D : RowD α} {K : Nat→Prop} {w w' : World} {v : Value} {l : List α} (h : RowK D K w v l) (hb : Below w.heap.size w w') : RowK D K w' v l:=h.keep (TFr.of_below hb)
section
variable {E : Nat} {s : RS} {n : Nat}
end
section
variable {R T E : Nat} {w wc w' : World} {s s' : RS} {c0 c1 c2 c3 c4 : Value} {its : List PIt} {prs : List PPr}
end
set_option maxHeartbeats 8000000
set_option maxRecDepth 100000
theorem zar (b : List UInt8) (w : World) (hb : b.length≤1000000) : Calls Tryz.prog 102 #[.string (strB b)] w fun e w'=>e=.returned (.bool (nameB b))∧Below w.heap.size w w':=by
 have hw:=zdl (strB b) w (by rw [zap];unfold maxLen;omega)
 rw [zax] at hw
 have HK:=hid (fun W=>zhb b W)
 unfold nameB
 cases h1 : wordB b with
 | false =>
   rw [h1] at hw
   have HW:=hid hw
   clear hw hb h1
   go_enter Tryz.func102,Tryz.ntmps102
   go_wp2_with (go_at_call 165;(with_reducible refine HW.out.mono ?_);rintro e w1 ⟨rfl,hb1⟩;have HB1:=hid hb1;clear hb1)
   go_ret
   exact ⟨rfl,HB1.out⟩
 | true =>
   rw [h1] at hw
   have HW:=hid hw
   obtain ⟨z,hz⟩ : ∃ z,keyB b=z:=⟨_,rfl⟩
   rw [hz] at HK ⊢
   clear hw hb h1 hz
   go_enter Tryz.func102,Tryz.ntmps102
   go_wp2_with (first
    | (go_at_call 165;(with_reducible refine HW.out.mono ?_);rintro e w1 ⟨rfl,hb1⟩;have HB1:=hid hb1;clear hb1)
    | (go_at_call 166;(with_reducible refine (HK.out _).mono ?_);rintro e w2 ⟨rfl,rfl⟩))
   go_ret
   exact ⟨zaJ (by cases z <;> rfl),HB1.out⟩
theorem RowK.nameAt {K : Nat→Prop} {w : World} {a : Option Addr} {c : Nat} {l : List (List UInt8)} (h : RowK nameD K w (.slice a l.length c) l) {j : Nat} {b : List UInt8} (hj : l[j]?=some b) : ∃ g o,a=some ⟨g,o,none⟩∧w.cell? ⟨g,o+j,none⟩=some (.string (strB b)):=by
 obtain ⟨a',c',e,_,h⟩:=h
 injection e with e1 e2 e3
 obtain ⟨g,o,cs,ea,hg,hp,hc⟩:=h j b hj
 have hp' : cs=[.string (strB b)]:=hp
 subst hp'
 have:=hc 0 _ rfl
 exact ⟨g,o,e1.trans ea,by simpa [nameD] using this⟩
theorem zaK {K : Nat→Prop} {w : World} {a : Option Addr} {c : Nat} {l : List (List UInt8)} (h : RowK nameD K w (.slice a l.length c) l) (hl : l.length≤1000000) (m : Nat) (hm : m≤l.length) (c' : Nat) (x : List UInt8) :
 Calls Tryz.prog 65 #[.slice a m c',.string (strB x)] w fun e w'=>e=.returned (.bool (decide (x∈l.take m)))∧w'=w:=by
 by_cases h0 : m=0
 ·subst h0
  refine (Tryz.slices_Contains_string_empty a c' (strB x) w).mono ?_
  rintro e w' ⟨rfl,rfl⟩
  exact ⟨by simp,rfl⟩
 ·have h1 : ∃ b,l[0]?=some b:=⟨_,List.getElem?_eq_getElem (by omega)⟩
  obtain ⟨b0,hb0⟩:=h1
  obtain ⟨g,o,rfl,_⟩:=h.nameAt hb0
  refine (Tryz.slices_Contains_string g o m c' (l.map strB) (strB x) w (by simpa using hm) (by omega) (fun j hj=>?_)).mono ?_
  ·rw [List.length_map] at hj
   obtain ⟨g',o',e,h2⟩:=h.nameAt (List.getElem?_eq_getElem hj)
   injection e with e
   injection e with e1 e2
   subst e1 e2
   rw [h2]
   simp [List.getD,hj]
  ·rintro e w' ⟨rfl,rfl⟩
   refine ⟨?_,rfl⟩
   have e1 : containsS ((l.map strB).take m) (strB x)=decide (x∈l.take m):=by
    rw [← List.map_take,Bool.eq_iff_iff,containsS_iff,decide_eq_true_eq,List.mem_map]
    exact ⟨fun ⟨y,hy,e⟩=>by
     have : y=x:=by rw [← zax y,← zax x,e]
     rw [← this];exact hy,fun h=>⟨x,h,rfl⟩⟩
   rw [e1]
def UnTo (l : List (List UInt8)) (j : Nat) : Prop:=(∀ b∈l.take j,nameB b=true)∧(l.take j).Nodup
theorem UnTo.next {l : List (List UInt8)} {j : Nat} {x : List UInt8} (h : UnTo l j) (hx : l[j]?=some x) (h1 : nameB x=true) (h2 : x ∉ l.take j) : UnTo l (j+1):=by
 unfold UnTo
 rw [List.take_add_one,hx]
 refine ⟨fun b hb=>?_,?_⟩
 ·rcases List.mem_append.1 hb with hb|hb
  ·exact h.1 b hb
  ·obtain rfl : b=x:=by simpa using hb
   exact h1
 ·rw [List.nodup_append]
  exact ⟨h.2,by simp,fun a ha b hb=>by
   obtain rfl : b=x:=by simpa using hb
   exact fun e=>h2 (e ▸ ha)⟩
theorem zcb {l : List (List UInt8)} {j : Nat} {x : List UInt8} (hx : l[j]?=some x) (h1 : nameB x=false) : unlikeB l=false:=by
 unfold unlikeB
 have : l.all nameB=false:=List.all_eq_false.2 ⟨x,List.mem_of_getElem? hx,by simp [h1]⟩
 rw [this];rfl
theorem zbU {l : List (List UInt8)} {j : Nat} {x : List UInt8} (hx : l[j]?=some x) (h2 : x∈l.take j) : unlikeB l=false:=by
 unfold unlikeB
 have : ¬ l.Nodup:=fun hn=>by
  have h3 : (l.take (j+1)).Nodup:=hn.sublist (List.take_sublist _ _)
  rw [List.take_add_one,hx,List.nodup_append] at h3
  exact h3.2.2 x h2 x (by simp) rfl
 simp [this]
theorem zcD {l : List (List UInt8)} (h : UnTo l l.length) : unlikeB l=true:=by
 obtain ⟨h1,h2⟩:=h
 rw [List.take_length] at h1 h2
 unfold unlikeB
 simp only [Bool.and_eq_true,List.all_eq_true,decide_eq_true_eq]
 exact ⟨h1,h2⟩
theorem zgv (a : Option Addr) (n c m : Nat) (hm : m≤n) (hn : n≤c) (W : World) : (Instr.slice 38 (.slice a n c) none (some (.int .i64 m)) none).run Tryz.prog W=.ok (.slice a m c) W:=by
 have hz : (sizeOf 9).run Tryz.prog W=.ok 1 W:=by kernel_rfl
 rw [run_slice_h (P:=Tryz.prog) W 38 a n c (by kernel_rfl) .i64 (m : Int) (by omega) (by omega)]
 have he : Tryz.prog.elem 38=9:=by kernel_rfl
 rw [he,hz]
 cases a <;> simp [Result.andThen,sliced,Addr.add]
theorem zcc {K : Nat→Prop} {w : World} {a : Option Addr} {c : Nat} {l : List (List UInt8)} (h : RowK nameD K w (.slice a l.length c) l) (hl : l.length≤1000000) (hb : ∀ b∈l,b.length≤1000000) :
 Calls Tryz.prog 161 #[.slice a l.length c] w fun e w'=>e=.returned (.bool (unlikeB l))∧Below w.heap.size w w':=by
 have hc:=h.cap
 have H:=hid h
 obtain ⟨q,hq⟩ : ∃ q,l.length=q:=⟨_,rfl⟩
 have HQ:=hid hq
 have HBD:=hid hb
 obtain ⟨z,hz⟩ : ∃ z,unlikeB l=z:=⟨_,rfl⟩
 have HZ:=hid hz
 rw [hz]
 rw [hq] at hc hl ⊢
 clear h hq hb hz
 go_enter Tryz.func161,Tryz.ntmps161
 go_wp2
 go_loopw [7] (fun i wr=>∃ j : Nat,i=.int .i64 j∧j≤q∧Hid (UnTo l j)∧Hid (Below w.heap.size w wr)) (fun i _=>q - (RowKit.intOf i).toNat)
 case atStart=>exact ⟨0,rfl,Nat.zero_le _,⟨fun b hb=>by simp at hb,by simp⟩,Below.refl _ _⟩
 case round =>
  obtain ⟨j,rfl,hj,HU,HB⟩:=hrel
  by_cases hlt : j < q
  ·obtain ⟨x,hx⟩ : ∃ x,l[j]?=some x:=⟨_,List.getElem?_eq_getElem (by rw [HQ.out];exact hlt)⟩
   have hr:=H.out.low HB.out
   obtain ⟨g,o,rfl,hcell⟩:=hr.nameAt hx
   have HN:=hid (zar x wr (HBD.out x (List.mem_of_getElem? hx)))
   have HX:=hid hx
   cases hnm : nameB x with
   | false =>
     rw [hnm] at HN
     have hz0 : z=false:=HZ.out.symm.trans (zcb hx hnm)
     subst hz0
     clear hr hx hnm
     go_wp2_with (go_at_call 102;(with_reducible refine HN.out.mono ?_);rintro e w1 ⟨rfl,hb1⟩;have HB1:=hid (HB.out.trans (hb1.mono HB.out.size));clear hb1)
     go_ret
     exact ⟨rfl,HB1.out⟩
   | true =>
     rw [hnm] at HN
     have hsl:=zgv (some ⟨g,o,none⟩) q c j (by omega) hc
     have hr':=hr
     rw [HQ.out] at hr'
     have HCT : Hid (∀ W,Below wr.heap.size wr W→Calls Tryz.prog 65 #[.slice (some ⟨g,o,none⟩) j c,.string (strB x)] W fun e w'=>e=.returned (.bool (decide (x∈l.take j)))∧w'=W):=fun W hW=>zaK (hr.low hW) (by rw [HQ.out];exact hl) j (by rw [HQ.out];exact hj) c x
     have HNM:=hid hnm
     obtain ⟨t,ht⟩ : ∃ t,decide (x∈l.take j)=t:=⟨_,rfl⟩
     rw [ht] at HCT
     have HT:=hid ht
     clear hr hr' hx hnm ht
     cases t with
     | true =>
       have hz0 : z=false:=HZ.out.symm.trans (zbU HX.out (of_decide_eq_true HT.out))
       subst hz0
       go_wp2_with (first
        | (go_at_call 102;(with_reducible refine HN.out.mono ?_);rintro e w1 ⟨rfl,hb1⟩;have HB1:=hid (HB.out.trans (hb1.mono HB.out.size));have HC1:=hid (HCT.out _ hb1);clear hb1)
        | (go_at_call 65;(with_reducible refine HC1.out.mono ?_);rintro e w2 ⟨rfl,rfl⟩))
       go_ret
       exact ⟨rfl,HB1.out⟩
     | false =>
       have HU2:=hid (HU.out.next HX.out HNM.out (of_decide_eq_false HT.out))
       go_wp2_with (first
        | (go_at_call 102;(with_reducible refine HN.out.mono ?_);rintro e w1 ⟨rfl,hb1⟩;have HB1:=hid (HB.out.trans (hb1.mono HB.out.size));have HC1:=hid (HCT.out _ hb1);clear hb1)
        | (go_at_call 65;(with_reducible refine HC1.out.mono ?_);rintro e w2 ⟨rfl,rfl⟩))
       go_round
       case rel=>exact ⟨j+1,by go_num,by omega,HU2,HB1⟩
       case measure=>simp [RowKit.intOf];omega
  ·have hz0 : z=true:=HZ.out.symm.trans (zcD (by rw [HQ.out,show q=j by omega];exact HU.out))
   subst hz0
   go_wp2
   go_ret
   exact ⟨rfl,HB.out⟩
end Go.Proofs.YtkmlfkbpcgkpaaaGreatDoor
