/- Texts that others want. -/
import Derived.Test.YtkmlfkbpcgkpaaaGreatDoorM0
import Derived.Test.YtkmlfkbpcgkpaaaGreatDoorM3
import Derived.Test.YtkmlfkbpcgkpaaaGreatDoorMC
import Derived.Test.YtkmlfkbpcgkpaaaGreatDoorWL6x
import Derived.Lib.ItoaNum
import Derived.Lib.ParseIntBTie
import Derived.Lib.Strings
import Derived.Test.YtkmlfkbpcgkpaaaGreatDoorWCCw
import Derived.Deep.QuietTactic
import Derived.BigQuiet
namespace Go.Proofs.YtkmlfkbpcgkpaaaGreatDoor
open Go.Lib
def saidB (k : Nat) (b : List UInt8) : List UInt8:=if k=3 then 39 :: (b++[39]) else b
structure Fits (k : Nat) (b r : List UInt8) : Prop where
 first : firstX (saidB k b++r)=(k,(saidB k b).length)
 len : (saidB k b).length≠0
 text : textX k (saidB k b)=b
 head : ∀ x,(saidB k b++r)[0]?=some x→xblank x=false
inductive Lx : List UInt8→List (Nat × List UInt8)→Prop
 | nil : Lx [] []
 | blank {l : List UInt8} {ts : List (Nat × List UInt8)} (h : Lx l ts) : Lx (32 :: l) ts
 | tok {r : List UInt8} {ts : List (Nat × List UInt8)} (k : Nat) (b : List UInt8) (hf : Fits k b r) (h : Lx r ts) : Lx (saidB k b++r) ((k,b) :: ts)
/-! Which tokens fit. -/
def Dn (P : Int→Prop) (s : RS) : Prop:=s.l=[]∧P s.wrong
section
variable {E : Nat} {P : Int→Prop} {s : RS}
theorem Dn.isT (h : Dn P s) {k : Nat} (hk : k≠0) (b : List UInt8) : isT E s k b=false:=by
 unfold Go.Proofs.YtkmlfkbpcgkpaaaGreatDoor.isT nextT
 rw [h.1]
 simp
 intro e
 exact absurd e.symm hk
theorem Dn.next (h : Dn P s) : nextT E s=⟨0,[],E⟩:=by unfold nextT;rw [h.1]
theorem Dn.take (h : Dn P s) {k : Nat} (hk : k≠0) (b : List UInt8) : takeT E s k b=(false,s):=by
 unfold takeT
 rw [h.isT hk,if_neg (by simp)]
theorem Dn.among (h : Dn P s) {k : Nat} (hk : k≠0) (l : List (List UInt8)) (n : Nat) : amongT E s k n l=(0,s):=zbO k l n (fun b _=>h.isT hk b)
end
structure Sim where
 E : Nat
 T : Nat
 P : Int
 r : List XTok
section
variable (X : Sim)
def Sync (s s' : RS) : Prop:=s'.l≠[]∧s.l=s'.l++X.r∧s.deep=s'.deep∧s.wrong=-1∧s'.wrong=-1∧∀ u∈s'.l,(u.at_ : Int)≠X.P
def Over (s : RS) : Prop:=Dn (fun x=>x=-1∨x=X.T) s
def Bad (s : RS) : Prop:=Dn (fun x=>x≠-1∧x≠X.P) s
def Rl {α : Type} (a a' : α × RS) : Prop:=(Sync X a.2 a'.2∧a.1=a'.1)∨Over X a'.2∨Bad X a.2
structure GoodR {α : Type} (m m' : Nat) (f f' : RS→α × RS) : Prop where
 sync : ∀ s s',s.l.length≤m→s'.l.length≤m'→Sync X s s'→Rl X (f s) (f' s')
 over : ∀ s,Over X s→Over X (f' s).2
 bad : ∀ s,Bad X s→Bad X (f s).2
 le : ∀ s,(f s).2.l.length≤s.l.length
 le' : ∀ s,(f' s).2.l.length≤s.l.length
end
section
variable {X : Sim} {α β : Type} {m m' : Nat}
end
section
variable {E : Nat}
theorem zb1 {s : RS} {t : XTok} {r : List XTok} (h : s.l=t :: r) (k : Nat) (b : List UInt8) : isT E s k b=decide (t.k=k∧t.b=b):=by
 unfold isT nextT
 rw [h]
theorem zeV {s : RS} {t : XTok} {r : List XTok} (h : s.l=t :: r) {k : Nat} {b : List UInt8} (hk : t.k=k) (hb : t.b=b) : takeT E s k b=(true,⟨r,s.deep,s.wrong⟩):=by
 unfold takeT
 rw [zb1 h,if_pos (by simp [hk,hb]),h]
 rfl
theorem zh6 {s : RS} {t : XTok} {r : List XTok} (h : s.l=t :: r) {k : Nat} {b : List UInt8} (hk : t.k=k) (hb : t.b=b) : needT E s k b=⟨r,s.deep,s.wrong⟩:=by
 unfold needT
 rw [zeV h hk hb,if_pos rfl]
theorem zfE {s : RS} {t : XTok} {r : List XTok} (h : s.l=t :: r) {k : Nat} (hk : t.k=k) : ofT E s k=(t.b,⟨r,s.deep,s.wrong⟩):=by
 unfold ofT nextT
 rw [h]
 dsimp only
 rw [if_pos hk]
 rfl
theorem zh7 {s : RS} {t : XTok} {r : List XTok} (h : s.l=t :: r) (hk : t.k=1) (hb : nameB t.b=true) : nameT E s=(t.b,⟨r,s.deep,s.wrong⟩):=by
 unfold nameT
 have hn : (nextT E s).b=t.b:=by unfold nextT;rw [h]
 unfold nameB at hb
 rw [Bool.and_eq_true,Bool.not_eq_true'] at hb
 rw [hn,hb.2,if_neg (by simp)]
 exact zfE h hk
theorem zfF {s : RS} {t : XTok} {r : List XTok} (h : s.l=t :: r) (hk : t.k=2) : numberT E s=(numZ t.b,⟨r,s.deep,s.wrong⟩):=by
 unfold numberT
 rw [zfE h hk]
end
section
variable {E : Nat}
theorem zaT {s : RS} {t : XTok} {r : List XTok} (h : s.l=t :: r) : nextT E s=t:=by
 unfold nextT
 rw [h]
theorem zh5 {s : RS} {t : XTok} {r : List XTok} (h : s.l=t :: r) (h2 : t.k≠2) (h3 : t.k≠3) (h4 : t.k=4→t.b≠[45]) (h1 : t.k=1→t.b≠bFalse∧t.b≠bTrue) : valT E s=(noV,false,s):=by
 unfold valT
 rw [zaT h,if_neg h2,zb1 h,if_neg (by simp;exact h4),if_neg h3,zb1 h,if_neg (by simp;exact fun e=>(h1 e).1),zb1 h,if_neg (by simp;exact fun e=>(h1 e).2)]
end
structure DS where
 l : List XTok
 deep : Nat
 bad : Bool
def dFail (s : DS) : DS:=⟨s.l,s.deep,true⟩
def dIs (s : DS) (k : Nat) (b : List UInt8) : Bool:=!s.bad && (match s.l with
 | []=>false
 | t :: _=>decide (t.k=k∧t.b=b))
def dSkip (s : DS) : DS:=⟨s.l.tail,s.deep,s.bad⟩
def dTake (s : DS) (k : Nat) (b : List UInt8) : DS:=if dIs s k b then dSkip s else s
def dMust (s : DS) (k : Nat) (b : List UInt8) : DS:=if dIs s k b then dSkip s else dFail s
def dHead (s : DS) : List UInt8:=match s.l with
 | []=>[]
 | t :: _=>t.b
def dKind (s : DS) : Nat:=match s.l with
 | []=>0
 | t :: _=>t.k
def dNamed (s : DS) : Bool:=!s.bad && (match s.l with
 | []=>false
 | t :: _=>decide (t.k=1) && nameB t.b)
def dName (s : DS) : List UInt8 × DS:=if dNamed s then (dHead s,dSkip s) else ([],dFail s)
def decN (b : List UInt8) : Nat:=decF 0 b
def dNum (s : DS) : Int × DS:=if s.bad=false∧dKind s=2 then ((decN (dHead s) : Nat),dSkip s) else (0,dFail s)
def dField (s : DS) (k : Int) : PEx × DS:=(.mk k noV (dName s).1 (dName (dMust (dName s).2 4 [46])).1 [],(dName (dMust (dName s).2 4 [46])).2)
def dCount (s : DS) : PEx × DS:=(.mk 3 noV (dName (dMust s 4 [40])).1 [] [],dMust (dName (dMust s 4 [40])).2 4 [41])
def dCall (s : DS) (k : Int) : PEx × DS:=((dField (dMust s 4 [40]) k).1,dMust (dField (dMust s 4 [40]) k).2 4 [41])
def valX (v : PVal) : PEx:=.mk 1 v [] [] []
def wCount : List UInt8:=[99,111,117,110,116]
def wSum : List UInt8:=[115,117,109]
def wMin : List UInt8:=[109,105,110]
def wMax : List UInt8:=[109,97,120]
def dSums (term : DS→PEx × DS) : Nat→PEx→DS→PEx × DS
 | 0,x,s=>(x,s)
 | n+1,x,s =>
   if dIs s 4 [43] then dSums term n (.mk 7 noV [] [] [x,(term (dSkip s)).1]) (term (dSkip s)).2
   else if dIs s 4 [45] then dSums term n (.mk 8 noV [] [] [x,(term (dSkip s)).1]) (term (dSkip s)).2
   else (x,s)
def dExpr (term : DS→PEx × DS) (n : Nat) (s : DS) : PEx × DS:=dSums term n (term s).1 (term s).2
def dOpen (s : DS) : DS:=⟨s.l.tail,s.deep+1,s.bad⟩
def dShut (s : DS) : DS:=⟨s.l,s.deep - 1,s.bad⟩
def dInner (term : DS→PEx × DS) (n : Nat) (s : DS) : PEx × DS:=((dExpr term n (dOpen s)).1,dShut (dMust (dExpr term n (dOpen s)).2 4 [41]))
def dTerm : Nat→DS→PEx × DS
 | 0,s=>(noX,s)
 | n+1,s =>
   if s.bad=true∨s.l=[] then (noX,dFail s)
   else if dKind s=2 then (valX ⟨1,(dNum s).1,[]⟩,(dNum s).2)
   else if dKind s=3 then (valX ⟨2,0,dHead s⟩,dSkip s)
   else if dIs s 4 [45] then (valX ⟨1,-(dNum (dSkip s)).1,[]⟩,(dNum (dSkip s)).2)
   else if dIs s 1 bTrue then (valX ⟨3,1,[]⟩,dSkip s)
   else if dIs s 1 bFalse then (valX ⟨3,0,[]⟩,dSkip s)
   else if dIs s 1 wCount then dCount (dSkip s)
   else if dIs s 1 wSum then dCall (dSkip s) 4
   else if dIs s 1 wMin then dCall (dSkip s) 5
   else if dIs s 1 wMax then dCall (dSkip s) 6
   else if dIs s 4 [40]=true∧s.deep < 6 then dInner (dTerm n) n s
   else dField s 2
def dRow {α : Type} (b : List UInt8) (one : DS→α × DS) : Nat→List α→DS→List α × DS
 | 0,l,s=>(l,s)
 | n+1,l,s=>if dIs s 1 b then dRow b one n (l++[(one (dSkip s)).1]) (one (dSkip s)).2 else (l,s)
def dRow1 {α : Type} (b : List UInt8) (one : DS→α × DS) (n : Nat) (s : DS) : List α × DS:=dRow b one n [(one s).1] (one s).2
def dAmong (s : DS) (k : Nat) : Nat→List (List UInt8)→Nat × DS
 | _,[]=>(0,s)
 | n,b :: r=>if dIs s k b then (n,dSkip s) else dAmong s k (n+1) r
def dChoose (s : DS) (k : Nat) (l : List (List UInt8)) : Nat × DS:=if (dAmong s k 1 l).1=0 then (0,dFail (dAmong s k 1 l).2) else dAmong s k 1 l
def dCmps : List (List UInt8):=[[61],[33,61],[60],[60,61],[62],[62,61]]
def dPicks : List (List UInt8):=[[97,110,121],[110,101,120,116],[115,116,114,105,99,116]]
def dMode (s : DS) : Int × DS:=if dIs s 4 [43] then (2,dSkip s) else if dIs s 4 [63] then (3,dSkip s) else (1,s)
def dItem (n : Nat) (s : DS) : PIt × DS :=
 let a:=dRow1 wOr dName n (dTake s 1 wNot)
 let b:=dName a.2
 let c:=dMode b.2
 (⟨dIs s 1 wNot,a.1,b.1,c.1⟩,c.2)
def dPred (n : Nat) (s : DS) : PPr × DS :=
 let a:=dExpr (dTerm n) n s
 let c:=dChoose a.2 4 dCmps
 let b:=dExpr (dTerm n) n c.2
 (⟨a.1,(c.1 : Int),b.1⟩,b.2)
def dQuery (n : Nat) (s : DS) : PQu × DS :=
 let a:=dRow1 wThen (dItem n) n (dMust s 1 wSeq)
 let p:=if dIs a.2 1 wWhere then dRow1 wAnd (dPred n) n (dSkip a.2) else ([],a.2)
 let c:=dNum (dMust p.2 1 wWithin)
 let b:=if dIs c.2 1 wBy then dName (dSkip c.2) else ([],c.2)
 let k:=if dIs b.2 1 wPick then dChoose (dSkip b.2) 1 dPicks else (1,b.2)
 (⟨a.1,p.1,c.1,b.1,(k.1 : Int)⟩,if k.2.l=[] then k.2 else dFail k.2)
def WTok (t : XTok) : Prop:=(t.k=1→wordB t.b=true)∧(t.k=2→numZ t.b=(decN t.b : Nat)∧(∀ c∈t.b,xdigit c=true)∧decN t.b≤1099511627776)∧(t.k=1∨t.k=4→t.b≠[])
def Oks (s : DS) : Prop:=s.bad=false∧s.deep≤6∧∀ t∈s.l,WTok t
def dAt (E : Nat) (s : DS) : Nat:=match s.l with
 | []=>E
 | t :: _=>t.at_
def lift (s : DS) : RS:=⟨s.l,s.deep,-1⟩
def Alk (E : Nat) {α : Type} (p : α × DS) (q : α × RS) : Prop:=(Oks p.2∧q.2=lift p.2∧p.1=q.1)∨(p.2.bad=true∧q.2.l=[]∧q.2.wrong=dAt E p.2)
structure GoodD (E : Nat) {α : Type} (f : DS→α × DS) (g : RS→α × RS) : Prop where
 good : ∀ s,Oks s→Alk E (f s) (g (lift s))
 badl : ∀ s,s.bad=true→(f s).2.bad=true∧(f s).2.l=s.l
 badr : ∀ s : RS,s.l=[]→s.wrong≠-1→(g s).2.l=[]∧(g s).2.wrong=s.wrong
section
variable {E : Nat} {α β : Type}
theorem zjP {s s' : DS} (h : s'.l=s.l) : dAt E s'=dAt E s:=by unfold dAt;rw [h]
theorem GoodD.bind {f : DS→α × DS} {g : RS→α × RS} {f' : α→DS→β × DS} {g' : α→RS→β × RS} (h : GoodD E f g) (h' : ∀ a,GoodD E (f' a) (g' a)) : GoodD E (fun s=>f' (f s).1 (f s).2) (fun s=>g' (g s).1 (g s).2) :=
 ⟨fun s hs=>by
   rcases h.good s hs with ⟨h1,h2,h3⟩|⟨h1,h2,h3⟩
   ·show Alk E (f' (f s).1 (f s).2) (g' (g (lift s)).1 (g (lift s)).2)
    rw [h2,← h3]
    exact (h' _).good _ h1
   ·refine .inr ?_
    have a1:=(h' (f s).1).badl _ h1
    have a2:=(h' (g (lift s)).1).badr _ h2 (by rw [h3];omega)
    exact ⟨a1.1,a2.1,by rw [a2.2,h3,zjP a1.2]⟩,
  fun s hs=>by
   have a:=h.badl s hs
   have b:=(h' (f s).1).badl _ a.1
   exact ⟨b.1,b.2.trans a.2⟩,
  fun s hl hw=>by
   have a:=h.badr s hl hw
   have b:=(h' (g s).1).badr _ a.1 (by rw [a.2];exact hw)
   exact ⟨b.1,b.2.trans a.2⟩⟩
theorem GoodD.pure (a : α) : GoodD E (fun s=>(a,s)) (fun s=>(a,s)):=⟨fun _ hs=>.inl ⟨hs,rfl,rfl⟩,fun _ hs=>⟨hs,rfl⟩,fun _ hl _=>⟨hl,rfl⟩⟩
theorem GoodD.map {f : DS→α × DS} {g : RS→α × RS} (h : GoodD E f g) (p : α→β) : GoodD E (fun s=>(p (f s).1,(f s).2)) (fun s=>(p (g s).1,(g s).2)):=h.bind (f':=fun a s=>(p a,s)) (g':=fun a s=>(p a,s)) (fun a=>GoodD.pure (p a))
theorem zcX {s : RS} (hl : s.l=[]) (hw : s.wrong≠-1) : Dn (·≠-1) s:=⟨hl,hw⟩
theorem zbl {s : DS} (h : s.bad=true) (k : Nat) (b : List UInt8) : dIs s k b=false:=by unfold dIs;rw [h];rfl
theorem zdV {s : DS} (h : Oks s) {k : Nat} (hk : k≠0) (b : List UInt8) : dIs s k b=isT E (lift s) k b:=by
 unfold dIs isT nextT lift
 rw [h.1]
 dsimp only
 cases s.l with
 | nil=>simp;intro e;exact absurd e.symm hk
 | cons t r=>simp
theorem Oks.skip {s : DS} (h : Oks s) : Oks (dSkip s):=⟨h.1,h.2.1,fun t ht=>h.2.2 t (List.mem_of_mem_tail ht)⟩
theorem za6 (a : α) : GoodD E (fun s=>(a,dFail s)) (fun s=>(a,failT E s)) :=
 ⟨fun s hs=>.inr ⟨rfl,rfl,by
   show (failT E (lift s)).wrong=((dAt E (dFail s) : Nat) : Int)
   unfold failT lift dAt dFail nextT
   rw [if_pos rfl]
   dsimp only
   cases s.l <;> rfl⟩,fun s hs=>⟨rfl,rfl⟩,fun s hl hw=>by
   refine ⟨rfl,?_⟩
   show (failT E s).wrong=_
   unfold failT
   rw [if_neg hw]⟩
theorem zkj {k : Nat} (hk : k≠0) (b : List UInt8) : GoodD E (fun s=>(dIs s k b,dTake s k b)) (fun s=>takeT E s k b) :=
 ⟨fun s hs=>by
   show Alk E (dIs s k b,dTake s k b) (takeT E (lift s) k b)
   unfold dTake takeT
   rw [zdV (E:=E) hs hk b]
   cases hz : isT E (lift s) k b with
   | true=>exact .inl ⟨hs.skip,rfl,rfl⟩
   | false=>exact .inl ⟨hs,rfl,rfl⟩,
  fun s hs=>by
   show (dTake s k b).bad=true∧(dTake s k b).l=s.l
   unfold dTake
   rw [zbl hs]
   exact ⟨hs,rfl⟩,
  fun s hl hw=>by
   show (takeT E s k b).2.l=[]∧(takeT E s k b).2.wrong=s.wrong
   rw [(zcX hl hw).take hk]
   exact ⟨hl,rfl⟩⟩
theorem zbM {k : Nat} (hk : k≠0) (b : List UInt8) : GoodD E (fun s=>((),dMust s k b)) (fun s=>((),needT E s k b)) :=
 ⟨fun s hs=>by
   show Alk E ((),dMust s k b) ((),needT E (lift s) k b)
   unfold dMust needT takeT
   rw [zdV (E:=E) hs hk b]
   cases hz : isT E (lift s) k b with
   | true=>exact .inl ⟨hs.skip,rfl,rfl⟩
   | false=>exact (za6 ()).good s hs,
  fun s hs=>by
   show (dMust s k b).bad=true∧(dMust s k b).l=s.l
   unfold dMust
   rw [zbl hs]
   exact ⟨rfl,rfl⟩,
  fun s hl hw=>by
   show (needT E s k b).l=[]∧(needT E s k b).wrong=s.wrong
   unfold needT
   rw [(zcX hl hw).take hk]
   exact (za6 (α:=Unit) ()).badr s hl hw⟩
theorem zgh {k : Nat} {b : List UInt8} (hk : k≠0) {f f' : DS→α × DS} {g g' : RS→α × RS} (h : GoodD E f g) (h' : GoodD E f' g') : GoodD E (fun s=>if dIs s k b then f (dSkip s) else f' s) (fun s=>if isT E s k b then g (takeT E s k b).2 else g' s) :=
 ⟨fun s hs=>by
   show Alk E (if dIs s k b then f (dSkip s) else f' s) (if isT E (lift s) k b then g (takeT E (lift s) k b).2 else g' (lift s))
   rw [zdV (E:=E) hs hk b]
   cases hz : isT E (lift s) k b with
   | true =>
     have e : (takeT E (lift s) k b).2=lift (dSkip s):=by unfold takeT;rw [hz];rfl
     rw [if_pos rfl,if_pos rfl,e]
     exact h.good _ hs.skip
   | false=>exact h'.good s hs,
  fun s hs=>by
   show (if dIs s k b then f (dSkip s) else f' s).2.bad=true∧(if dIs s k b then f (dSkip s) else f' s).2.l=s.l
   rw [zbl hs]
   exact h'.badl s hs,
  fun s hl hw=>by
   show (if isT E s k b then g (takeT E s k b).2 else g' s).2.l=[]∧(if isT E s k b then g (takeT E s k b).2 else g' s).2.wrong=s.wrong
   rw [(zcX hl hw).isT hk]
   exact h'.badr s hl hw⟩
theorem zi0 {b : List UInt8} (h : wordB b=true) : nameB b=!keyB b:=by unfold nameB;rw [h];rfl
theorem zfD {s : RS} (hl : s.l=[]) (hw : s.wrong≠-1) {k : Nat} (hk : k≠0) : (ofT E s k).2.l=[]∧(ofT E s k).2.wrong=s.wrong:=by
 unfold ofT
 rw [(zcX hl hw).next,if_neg (fun e=>hk e.symm)]
 exact (za6 (α:=Unit) ()).badr s hl hw
theorem nameGD : GoodD E dName (nameT E) :=
 ⟨fun s hs=>by
   unfold dName dNamed
   rw [hs.1]
   cases hl : s.l with
   | nil =>
     have e : nameT E (lift s)=([],failT E (lift s)):=by
      unfold nameT nextT lift ofT nextT
      dsimp only
      rw [hl]
      rfl
     rw [e]
     exact (za6 []).good s hs
   | cons t r =>
     have hw:=hs.2.2 t (by rw [hl];exact List.mem_cons_self)
     have hl' : (lift s).l=t :: r:=hl
     have hn : nextT E (lift s)=t:=zaT hl'
     by_cases h1 : t.k=1
     ·have hk:=zi0 (hw.1 h1)
      rw [show (!false && (decide (t.k=1) && nameB t.b))=!keyB t.b by rw [hk];simp [h1]]
      cases hb : keyB t.b with
      | false =>
        rw [zh7 hl' h1 (by rw [hk,hb];rfl)]
        refine .inl ⟨hs.skip,?_,?_⟩
        ·show _=lift (dSkip s)
         unfold lift dSkip
         rw [hl]
         rfl
        ·show dHead s=t.b
         unfold dHead
         rw [hl]
      | true =>
        have e : nameT E (lift s)=([],failT E (failT E (lift s))):=by
         unfold nameT
         rw [hn,hb,if_pos rfl]
         unfold ofT
         rw [show (nextT E (failT E (lift s))).k=0 from rfl,if_neg (by decide)]
        rw [e]
        have a:=(za6 (E:=E) ([] : List UInt8)).good s hs
        have b:=(za6 (E:=E) ([] : List UInt8)).badr (failT E (lift s)) rfl (by
         rcases a with ⟨a1,_⟩|⟨_,_,a3⟩
         ·exact absurd (show true=false from a1.1) (by decide)
         ·have : (failT E (lift s)).wrong=_:=a3
          rw [this];omega)
        rcases a with ⟨a1,_⟩|⟨a1,a2,a3⟩
        ·exact absurd (show true=false from a1.1) (by decide)
        ·exact .inr ⟨a1,b.1,b.2.trans a3⟩
     ·rw [show (!false && (decide (t.k=1) && nameB t.b))=false by simp [h1]]
      have a:=(za6 (E:=E) ([] : List UInt8)).good s hs
      rcases a with ⟨a1,_⟩|⟨a1,a2,a3⟩
      ·exact absurd (show true=false from a1.1) (by decide)
      have a3' : (failT E (lift s)).wrong=dAt E (dFail s):=a3
      refine .inr ⟨a1,?_⟩
      unfold nameT
      rw [hn]
      split
      ·have b:=zfD (E:=E) (s:=failT E (lift s)) rfl (by rw [a3'];omega) (k:=1) (by decide)
       exact ⟨b.1,b.2.trans a3⟩
      ·unfold ofT
       rw [hn,if_neg h1]
       exact ⟨rfl,a3⟩,
  fun s hs=>by
   unfold dName dNamed
   rw [hs]
   exact ⟨rfl,rfl⟩,
  fun s hl hw=>by
   unfold nameT
   rw [(zcX hl hw).next]
   rw [show keyB ([] : List UInt8)=false by decide]
   exact zfD hl hw (by decide)⟩
theorem numGD : GoodD E dNum (numberT E) :=
 ⟨fun s hs=>by
   unfold dNum dKind
   rw [hs.1]
   cases hl : s.l with
   | nil =>
     have e : numberT E (lift s)=(0,failT E (lift s)):=by
      have e2 : ofT E (lift s) 2=([],failT E (lift s)):=by
       unfold ofT nextT
       rw [show (lift s).l=[] from hl]
       rfl
      unfold numberT
      rw [e2]
      rw [show numZ []=0 by decide]
     rw [e,if_neg (by simp)]
     exact (za6 0).good s hs
   | cons t r =>
     have hw:=hs.2.2 t (by rw [hl];exact List.mem_cons_self)
     have hl' : (lift s).l=t :: r:=hl
     dsimp only
     by_cases h2 : t.k=2
     ·rw [if_pos ⟨rfl,h2⟩,zfF hl' h2]
      refine .inl ⟨hs.skip,?_,?_⟩
      ·show _=lift (dSkip s)
       unfold lift dSkip
       rw [hl]
       rfl
      ·show ((decN (dHead s) : Nat) : Int)=numZ t.b
       unfold dHead
       rw [hl,(hw.2.1 h2).1]
     ·rw [if_neg (fun e=>h2 e.2)]
      have e : numberT E (lift s)=(0,failT E (lift s)):=by
       unfold numberT ofT
       rw [zaT hl',if_neg h2]
       rw [show numZ []=0 by decide]
      rw [e]
      exact (za6 0).good s hs,
  fun s hs=>by
   unfold dNum
   rw [hs,if_neg (by simp)]
   exact ⟨rfl,rfl⟩,
  fun s hl hw=>zfD hl hw (by decide)⟩
end
section
variable {E : Nat}
theorem zcU {s : DS} (h : Oks s) {k : Nat} (hk : k=1∨k=4) : isT E (lift s) k []=false:=by
 unfold isT nextT lift
 dsimp only
 cases hl : s.l with
 | nil=>simp;omega
 | cons t r =>
   have hw:=(h.2.2 t (by rw [hl];exact List.mem_cons_self)).2.2
   simp
   intro e
   exact hw (by omega)
theorem za0 {s : DS} (h : Oks s) {k : Nat} (hk : k≠0) (n : Nat) (b : List UInt8) (r : List (List UInt8)) : amongT E (lift s) k n (b :: r)=if dIs s k b then (n,lift (dSkip s)) else amongT E (lift s) k (n+1) r:=by
 rw [amongT,zdV (E:=E) h hk b]
 cases hz : isT E (lift s) k b with
 | true =>
   have e : (takeT E (lift s) k b).2=lift (dSkip s):=by unfold takeT;rw [hz];rfl
   rw [if_pos rfl,if_pos rfl,e]
 | false=>rfl
theorem zbE {s : DS} (h : Oks s) {k : Nat} (hk : k=1∨k=4) (es : List (List UInt8)) (he : ∀ b∈es,b=[]) : ∀ (l : List (List UInt8)) (n : Nat),amongT E (lift s) k n (l++es)=((dAmong s k n l).1,lift (dAmong s k n l).2)
 | [],n=>by
   rw [List.nil_append,zbO k es n (fun b hb=>by rw [he b hb];exact zcU h hk)]
   rfl
 | b :: l,n=>by
   rw [List.cons_append,za0 h (by omega),dAmong]
   split
   ·rfl
   ·exact zbE h hk es he l (n+1)
theorem zb6 {s : DS} (h : s.bad=true) (k : Nat) : ∀ (l : List (List UInt8)) (n : Nat),dAmong s k n l=(0,s)
 | [],n=>rfl
 | b :: l,n=>by
   rw [dAmong,zbl h]
   exact zb6 h k l (n+1)
theorem zbF {s : DS} (h : Oks s) (k : Nat) : ∀ (l : List (List UInt8)) (n : Nat),Oks (dAmong s k n l).2
 | [],n=>h
 | b :: l,n=>by
   rw [dAmong]
   split
   ·exact h.skip
   ·exact zbF h k l (n+1)
theorem amongGD {k : Nat} (hk : k=1∨k=4) (l es : List (List UInt8)) (he : ∀ b∈es,b=[]) (n : Nat) : GoodD E (fun s=>dAmong s k n l) (fun s=>amongT E s k n (l++es)) :=
 ⟨fun s hs=>by
   show Alk E (dAmong s k n l) (amongT E (lift s) k n (l++es))
   rw [zbE hs hk es he l n]
   exact .inl ⟨zbF hs k l n,rfl,rfl⟩,
  fun s hs=>by
   show (dAmong s k n l).2.bad=true∧(dAmong s k n l).2.l=s.l
   rw [zb6 hs]
   exact ⟨hs,rfl⟩,
  fun s hl hw=>by
   show (amongT E s k n (l++es)).2.l=[]∧(amongT E s k n (l++es)).2.wrong=s.wrong
   rw [(zcX hl hw).among (by omega)]
   exact ⟨hl,rfl⟩⟩
theorem zaq {s : RS} {k : Nat} (h : isT E s k []=false) (n : Nat) (r : List (List UInt8)) : amongT E s k n ([] :: r)=amongT E s k (n+1) r:=zfh h
theorem zgg {k : Nat} (hk : k=1∨k=4) (l es : List (List UInt8)) (he : ∀ b∈es,b=[]) : GoodD E (fun s=>dChoose s k l) (fun s=>chooseT E s k ([] :: (l++es))) :=
 ⟨fun s hs=>by
   show Alk E (dChoose s k l) (chooseT E (lift s) k ([] :: (l++es)))
   unfold dChoose chooseT
   rw [zaq (zcU hs hk),zbE hs hk es he l 1]
   dsimp only
   split
   ·exact (za6 0).good _ (zbF hs k l 1)
   ·exact .inl ⟨zbF hs k l 1,rfl,rfl⟩,
  fun s hs=>by
   show (dChoose s k l).2.bad=true∧(dChoose s k l).2.l=s.l
   unfold dChoose
   rw [zb6 hs,if_pos rfl]
   exact ⟨rfl,rfl⟩,
  fun s hl hw=>by
   show (chooseT E s k ([] :: (l++es))).2.l=[]∧(chooseT E s k ([] :: (l++es))).2.wrong=s.wrong
   unfold chooseT
   rw [(zcX hl hw).among (by omega),if_pos rfl]
   exact (za6 (α:=Unit) ()).badr s hl hw⟩
theorem modeGD : GoodD E dMode (fun s=>(if (amongT E s 4 0 modesL).1=0 then 1 else ((amongT E s 4 0 modesL).1 : Int),(amongT E s 4 0 modesL).2)) :=
 ⟨fun s hs=>by
   have h0:=zcU (E:=E) hs (k:=4) (.inr rfl)
   show Alk E (dMode s) (if (amongT E (lift s) 4 0 modesL).1=0 then 1 else ((amongT E (lift s) 4 0 modesL).1 : Int),(amongT E (lift s) 4 0 modesL).2)
   have e : amongT E (lift s) 4 0 modesL=((dAmong s 4 2 [[43],[63]]).1,lift (dAmong s 4 2 [[43],[63]]).2):=by
    unfold modesL
    rw [zaq h0,zaq h0]
    exact zbE hs (.inr rfl) [[],[],[],[],[]] (by simp) [[43],[63]] 2
   rw [e]
   unfold dMode dAmong dAmong dAmong
   cases dIs s 4 [43] with
   | true=>exact .inl ⟨hs.skip,rfl,rfl⟩
   | false =>
     cases dIs s 4 [63] with
     | true=>exact .inl ⟨hs.skip,rfl,rfl⟩
     | false=>exact .inl ⟨hs,rfl,rfl⟩,
  fun s hs=>by
   unfold dMode
   rw [zbl hs,zbl hs]
   exact ⟨hs,rfl⟩,
  fun s hl hw=>by
   show (amongT E s 4 0 modesL).2.l=[]∧(amongT E s 4 0 modesL).2.wrong=s.wrong
   rw [(zcX hl hw).among (by decide)]
   exact ⟨hl,rfl⟩⟩
theorem zdU (k : Int) : GoodD E (fun s=>dField s k) (fun s=>fieldT E s k) :=
 nameGD.bind (f':=fun a s=>(PEx.mk k noV a (dName (dMust s 4 [46])).1 [],(dName (dMust s 4 [46])).2)) (g':=fun a s=>(PEx.mk k noV a (nameT E (needT E s 4 [46])).1 [],(nameT E (needT E s 4 [46])).2))
  (fun a=>((zbM (E:=E) (k:=4) (by decide) [46]).bind (f':=fun _ s=>dName s) (g':=fun _ s=>nameT E s) (fun _=>nameGD)).map (fun b=>PEx.mk k noV a b []))
theorem zjd {α : Type} {f : DS→α × DS} {g : RS→α × RS} (h : GoodD E f g) (b : List UInt8) : GoodD E (fun s=>((f s).1,dMust (f s).2 4 b)) (fun s=>((g s).1,needT E (g s).2 4 b)) :=
 h.bind (f':=fun a s=>(a,dMust s 4 b)) (g':=fun a s=>(a,needT E s 4 b)) (fun a=>(zbM (E:=E) (k:=4) (by decide) b).map (fun _=>a))
theorem countGD : GoodD E dCount (fun s=>callT E s 3) :=
 zjd (f:=fun s=>(PEx.mk 3 noV (dName (dMust s 4 [40])).1 [] [],(dName (dMust s 4 [40])).2)) (g:=fun s=>(PEx.mk 3 noV (nameT E (needT E s 4 [40])).1 [] [],(nameT E (needT E s 4 [40])).2))
  (((zbM (E:=E) (k:=4) (by decide) [40]).bind (f':=fun _ s=>dName s) (g':=fun _ s=>nameT E s) (fun _=>nameGD)).map (fun a=>PEx.mk 3 noV a [] [])) [41]
theorem zhX {k : Int} (hk : k≠3) : GoodD E (fun s=>dCall s k) (fun s=>callT E s k):=by
 have h:=zjd (f:=fun s=>dField (dMust s 4 [40]) k) (g:=fun s=>fieldT E (needT E s 4 [40]) k) ((zbM (E:=E) (k:=4) (by decide) [40]).bind (f':=fun _ s=>dField s k) (g':=fun _ s=>fieldT E s k) (fun _=>zdU k)) [41]
 have e : (fun s=>callT E s k)=fun s=>((fieldT E (needT E s 4 [40]) k).1,needT E (fieldT E (needT E s 4 [40]) k).2 4 [41]):=by
  funext s
  unfold callT
  dsimp only
  rw [if_neg hk]
 rw [e]
 exact h
theorem zgQ {s : DS} (h : Oks s) : amongT E (lift s) 4 0 sumsL=if dIs s 4 [43] then (7,lift (dSkip s)) else if dIs s 4 [45] then (8,lift (dSkip s)) else (0,lift s):=by
 have h0:=zcU (E:=E) h (k:=4) (.inr rfl)
 unfold sumsL
 rw [zaq h0,zaq h0,zaq h0,zaq h0,zaq h0,zaq h0,zaq h0,za0 h (by decide),za0 h (by decide)]
 rfl
theorem zhY {tm : DS→PEx × DS} {tm' : RS→PEx × RS} (ht : GoodD E tm tm') : ∀ (n : Nat) (x : PEx),GoodD E (fun s=>dSums tm n x s) (fun s=>sumsT E tm' n x s)
 | 0,x=>GoodD.pure x
 | n+1,x=>⟨fun s hs=>by
    show Alk E (dSums tm (n+1) x s) (sumsT E tm' (n+1) x (lift s))
    rw [dSums,sumsT,zgQ hs]
    cases h43 : dIs s 4 [43] with
    | true=>exact (ht.bind (f':=fun a s=>dSums tm n (.mk 7 noV [] [] [x,a]) s) (g':=fun a s=>sumsT E tm' n (.mk 7 noV [] [] [x,a]) s) (fun a=>zhY ht n _)).good (dSkip s) hs.skip
    | false =>
      cases h45 : dIs s 4 [45] with
      | true=>exact (ht.bind (f':=fun a s=>dSums tm n (.mk 8 noV [] [] [x,a]) s) (g':=fun a s=>sumsT E tm' n (.mk 8 noV [] [] [x,a]) s) (fun a=>zhY ht n _)).good (dSkip s) hs.skip
      | false=>exact .inl ⟨hs,rfl,rfl⟩,
   fun s hs=>by
    show (dSums tm (n+1) x s).2.bad=true∧(dSums tm (n+1) x s).2.l=s.l
    rw [dSums,zbl hs,zbl hs]
    exact ⟨hs,rfl⟩,
   fun s hl hw=>by
    show (sumsT E tm' (n+1) x s).2.l=[]∧(sumsT E tm' (n+1) x s).2.wrong=s.wrong
    rw [sumsT,(zcX hl hw).among (by decide),if_pos rfl]
    exact ⟨hl,rfl⟩⟩
theorem zhZ {tm : DS→PEx × DS} {tm' : RS→PEx × RS} (ht : GoodD E tm tm') (n : Nat) : GoodD E (fun s=>dExpr tm n s) (fun s=>exprT E tm' n s) :=
 ht.bind (f':=fun a s=>dSums tm n a s) (g':=fun a s=>sumsT E tm' n a s) (fun a=>zhY ht n a)
theorem zh0 {tm : DS→PEx × DS} {tm' : RS→PEx × RS} (ht : GoodD E tm tm') (n : Nat) : GoodD E (fun s=>((dExpr tm n s).1,dShut (dMust (dExpr tm n s).2 4 [41]))) (fun s=>((exprT E tm' n s).1,needT E ⟨(exprT E tm' n s).2.l,(exprT E tm' n s).2.deep - 1,(exprT E tm' n s).2.wrong⟩ 4 [41])) :=
 (zhZ ht n).bind (f':=fun a s=>(a,dShut (dMust s 4 [41]))) (g':=fun a s=>(a,needT E ⟨s.l,s.deep - 1,s.wrong⟩ 4 [41])) (fun a=>⟨fun s hs=>by
   have hs' : Oks (dShut s):=⟨hs.1,by show s.deep - 1≤6;have:=hs.2.1;omega,hs.2.2⟩
   have h:=((zbM (E:=E) (k:=4) (by decide) [41]).map (fun _=>a)).good (dShut s) hs'
   have e : dMust (dShut s) 4 [41]=dShut (dMust s 4 [41]):=by
    unfold dMust dIs dShut
    dsimp only
    split <;> rfl
   rw [e] at h
   exact h,
  fun s hs=>by
   show (dShut (dMust s 4 [41])).bad=true∧(dShut (dMust s 4 [41])).l=s.l
   unfold dMust
   rw [zbl hs]
   exact ⟨rfl,rfl⟩,
  fun s hl hw=>(zbM (E:=E) (k:=4) (by decide) [41]).badr ⟨s.l,s.deep - 1,s.wrong⟩ hl hw⟩)
theorem zcs (tm' : RS→PEx × RS) (n : Nat) (s : RS) : innerT E tm' n s=(fun s=>((exprT E tm' n s).1,needT E ⟨(exprT E tm' n s).2.l,(exprT E tm' n s).2.deep - 1,(exprT E tm' n s).2.wrong⟩ 4 [41])) ⟨(needT E (if s.deep=6 then failT E s else s) 4 [40]).l,(needT E (if s.deep=6 then failT E s else s) 4 [40]).deep+1,(needT E (if s.deep=6 then failT E s else s) 4 [40]).wrong⟩:=rfl
theorem zgR {tm : DS→PEx × DS} {tm' : RS→PEx × RS} (ht : GoodD E tm tm') (n : Nat) {s : RS} (hl : s.l=[]) (hw : s.wrong≠-1) : (innerT E tm' n s).2.l=[]∧(innerT E tm' n s).2.wrong=s.wrong:=by
 rw [zcs]
 have h1 : (if s.deep=6 then failT E s else s).l=[]∧(if s.deep=6 then failT E s else s).wrong=s.wrong:=by
  split
  ·exact (za6 (α:=Unit) ()).badr s hl hw
  ·exact ⟨hl,rfl⟩
 have h2:=(zbM (E:=E) (k:=4) (by decide) [40]).badr _ h1.1 (by rw [h1.2];exact hw)
 have h3:=(zh0 ht n).badr ⟨(needT E (if s.deep=6 then failT E s else s) 4 [40]).l,(needT E (if s.deep=6 then failT E s else s) 4 [40]).deep+1,(needT E (if s.deep=6 then failT E s else s) 4 [40]).wrong⟩ h2.1 (by show (needT E (if s.deep=6 then failT E s else s) 4 [40]).wrong≠-1;rw [show (needT E (if s.deep=6 then failT E s else s) 4 [40]).wrong=_ from h2.2,h1.2];exact hw)
 refine ⟨h3.1,h3.2.trans ?_⟩
 show (needT E (if s.deep=6 then failT E s else s) 4 [40]).wrong=s.wrong
 rw [show (needT E (if s.deep=6 then failT E s else s) 4 [40]).wrong=_ from h2.2,h1.2]
theorem zbt {n : Nat} {s s' : RS} {v : PVal} (h : valT E s=(v,true,s')) : termT E (n+1) s=(valX v,s'):=by
 rw [termT,h]
 rfl
theorem zcV {n : Nat} {s : RS} (h : valT E s=(noV,false,s)) : termT E (n+1) s=if isT E s 4 [40] then innerT E (termT E n) n s else if (amongT E s 1 0 callsL).1=0 then fieldT E (amongT E s 1 0 callsL).2 2 else callT E (amongT E s 1 0 callsL).2 (amongT E s 1 0 callsL).1:=by
 rw [termT,h]
 rfl
theorem zeU {s : DS} (h : Oks s) : amongT E (lift s) 1 0 callsL=if dIs s 1 wCount then (3,lift (dSkip s)) else if dIs s 1 wSum then (4,lift (dSkip s)) else if dIs s 1 wMin then (5,lift (dSkip s)) else if dIs s 1 wMax then (6,lift (dSkip s)) else (0,lift s):=by
 have h0:=zcU (E:=E) h (k:=1) (.inl rfl)
 unfold callsL
 rw [zaq h0,zaq h0,zaq h0,za0 h (by decide),za0 h (by decide),za0 h (by decide),za0 h (by decide),zaq h0,zaq h0]
 rfl
theorem zh1 {s : RS} (hl : s.l=[]) : valT E s=(noV,false,s):=by
 have hd : Dn (fun _=>True) s:=⟨hl,trivial⟩
 unfold valT
 rw [hd.next,hd.isT (by decide),hd.isT (by decide),hd.isT (by decide)]
 rfl
theorem zcW {s : DS} (hs : Oks s) (hn : dNamed s=false) (k : Int) : (fieldT E (lift s) k).2.l=[]∧(fieldT E (lift s) k).2.wrong=dAt E s∧(dField s k).2.bad=true∧(dField s k).2.l=s.l:=by
 have h1 : dName s=([],dFail s):=by unfold dName;rw [hn];rfl
 have h2:=(zbM (E:=E) (k:=4) (by decide) [46]).badl (dFail s) rfl
 have h3:=(nameGD (E:=E)).badl (dMust (dFail s) 4 [46]) h2.1
 have h4 : (dField s k).2=(dName (dMust (dFail s) 4 [46])).2:=by unfold dField;rw [h1]
 have h5 : (dField s k).2.bad=true∧(dField s k).2.l=s.l:=by rw [h4];exact ⟨h3.1,h3.2.trans h2.2⟩
 rcases (zdU (E:=E) k).good s hs with ⟨a1,_⟩|⟨_,a2,a3⟩
 ·exact absurd a1.1 (by rw [h5.1];decide)
 ·exact ⟨a2,by rw [a3,zjP h5.2],h5⟩
theorem zh2 {s : DS} {t : XTok} {r : List XTok} (hb : s.bad=false) (hl : s.l=t :: r) (k : Nat) (b : List UInt8) : dIs s k b=decide (t.k=k∧t.b=b):=by
 unfold dIs
 rw [hb,hl]
 rfl
theorem zh3 : ∀ n : Nat,GoodD E (dTerm n) (termT E n)
 | 0=>GoodD.pure noX
 | n+1=>⟨fun s hs=>by
    have ih:=zh3 n
    cases hl : s.l with
    | nil =>
      rw [dTerm,if_pos (.inr hl),zcV (zh1 (show (lift s).l=[] from hl))]
      have hd : Dn (fun _=>True) (lift s):=⟨hl,trivial⟩
      rw [hd.isT (by decide),hd.among (by decide),if_neg (by decide),if_pos rfl]
      obtain ⟨h1,h2,h3,h4⟩:=zcW (E:=E) hs (by unfold dNamed;rw [hl];simp) 2
      exact .inr ⟨rfl,h1,h2⟩
    | cons t r =>
      have hl' : (lift s).l=t :: r:=hl
      have hi:=zh2 hs.1 hl
      have hti:=fun k b=>zb1 (E:=E) hl' k b
      have hw:=hs.2.2 t (by rw [hl];exact List.mem_cons_self)
      have hkd : dKind s=t.k:=by unfold dKind;rw [hl]
      have hhd : dHead s=t.b:=by unfold dHead;rw [hl]
      have hsk : lift (dSkip s)=⟨r,(lift s).deep,(lift s).wrong⟩:=by unfold lift dSkip;rw [hl];rfl
      have htk : ∀ {k : Nat} {b : List UInt8},t.k=k→t.b=b→(takeT E (lift s) k b).2=lift (dSkip s):=fun h1 h2=>by rw [zeV hl' h1 h2,hsk]
      rw [dTerm,if_neg (by rw [hs.1,hl];simp),hkd]
      by_cases h2 : t.k=2
      ·rw [if_pos h2]
       have e : valT E (lift s)=(⟨1,(numberT E (lift s)).1,[]⟩,true,(numberT E (lift s)).2):=by unfold valT;rw [zaT hl',if_pos h2]
       rw [zbt e]
       exact (numGD.map (fun m=>valX ⟨1,m,[]⟩)).good s hs
      rw [if_neg h2]
      by_cases h3 : t.k=3
      ·rw [if_pos h3]
       have e : valT E (lift s)=(⟨2,0,t.b⟩,true,lift (dSkip s)):=by
        unfold valT
        rw [zaT hl',if_neg h2,hti,if_neg (by simp [h3]),if_pos h3,zfE hl' h3,hsk]
       rw [zbt e,hhd]
       exact .inl ⟨hs.skip,rfl,rfl⟩
      rw [if_neg h3]
      by_cases hm : t.k=4∧t.b=[45]
      ·have e : valT E (lift s)=(⟨1,-(numberT E (lift (dSkip s))).1,[]⟩,true,(numberT E (lift (dSkip s))).2):=by
        unfold valT
        rw [zaT hl',if_neg h2,hti,if_pos (by simp [hm]),htk hm.1 hm.2]
       rw [hi,if_pos (by simp [hm]),zbt e]
       exact (numGD.map (fun m=>valX ⟨1,-m,[]⟩)).good (dSkip s) hs.skip
      rw [hi,if_neg (by simpa using hm)]
      by_cases ht : t.k=1∧t.b=bTrue
      ·have e : valT E (lift s)=(⟨3,1,[]⟩,true,lift (dSkip s)):=by
        unfold valT
        rw [zaT hl',if_neg h2,hti,if_neg (by simpa using hm),if_neg h3,hti,if_neg (by rw [ht.2];simp;intro _;decide),hti,if_pos (by simp [ht]),htk ht.1 ht.2]
       rw [hi,if_pos (by simp [ht]),zbt e]
       exact .inl ⟨hs.skip,rfl,rfl⟩
      rw [hi,if_neg (by simpa using ht)]
      by_cases hf : t.k=1∧t.b=bFalse
      ·have e : valT E (lift s)=(⟨3,0,[]⟩,true,lift (dSkip s)):=by
        unfold valT
        rw [zaT hl',if_neg h2,hti,if_neg (by simpa using hm),if_neg h3,hti,if_pos (by simp [hf]),htk hf.1 hf.2]
       rw [hi,if_pos (by simp [hf]),zbt e]
       exact .inl ⟨hs.skip,rfl,rfl⟩
      rw [hi,if_neg (by simpa using hf)]
      rw [zcV (zh5 hl' h2 h3 (fun a b=>hm ⟨a,b⟩) (fun a=>⟨fun b=>hf ⟨a,b⟩,fun b=>ht ⟨a,b⟩⟩))]
      have hac:=zeU (E:=E) hs
      by_cases hc3 : t.k=1∧t.b=wCount
      ·rw [hi 1 wCount,if_pos (show decide (t.k=1∧t.b=wCount)=true by simp [hc3])] at hac
       rw [hi 1 wCount,if_pos (show decide (t.k=1∧t.b=wCount)=true by simp [hc3]),hti,if_neg (show ¬ decide (t.k=4∧t.b=[40])=true by simp [hc3.1]),hac,if_neg (show ¬ 3=0 by decide)]
       exact countGD.good (dSkip s) hs.skip
      rw [hi 1 wCount,if_neg (show ¬ decide (t.k=1∧t.b=wCount)=true by simpa using hc3)] at hac
      rw [hi 1 wCount,if_neg (show ¬ decide (t.k=1∧t.b=wCount)=true by simpa using hc3)]
      by_cases hc4 : t.k=1∧t.b=wSum
      ·rw [hi 1 wSum,if_pos (show decide (t.k=1∧t.b=wSum)=true by simp [hc4])] at hac
       rw [hi 1 wSum,if_pos (show decide (t.k=1∧t.b=wSum)=true by simp [hc4]),hti,if_neg (show ¬ decide (t.k=4∧t.b=[40])=true by simp [hc4.1]),hac,if_neg (show ¬ 4=0 by decide)]
       exact (zhX (k:=4) (by decide)).good (dSkip s) hs.skip
      rw [hi 1 wSum,if_neg (show ¬ decide (t.k=1∧t.b=wSum)=true by simpa using hc4)] at hac
      rw [hi 1 wSum,if_neg (show ¬ decide (t.k=1∧t.b=wSum)=true by simpa using hc4)]
      by_cases hc5 : t.k=1∧t.b=wMin
      ·rw [hi 1 wMin,if_pos (show decide (t.k=1∧t.b=wMin)=true by simp [hc5])] at hac
       rw [hi 1 wMin,if_pos (show decide (t.k=1∧t.b=wMin)=true by simp [hc5]),hti,if_neg (show ¬ decide (t.k=4∧t.b=[40])=true by simp [hc5.1]),hac,if_neg (show ¬ 5=0 by decide)]
       exact (zhX (k:=5) (by decide)).good (dSkip s) hs.skip
      rw [hi 1 wMin,if_neg (show ¬ decide (t.k=1∧t.b=wMin)=true by simpa using hc5)] at hac
      rw [hi 1 wMin,if_neg (show ¬ decide (t.k=1∧t.b=wMin)=true by simpa using hc5)]
      by_cases hc6 : t.k=1∧t.b=wMax
      ·rw [hi 1 wMax,if_pos (show decide (t.k=1∧t.b=wMax)=true by simp [hc6])] at hac
       rw [hi 1 wMax,if_pos (show decide (t.k=1∧t.b=wMax)=true by simp [hc6]),hti,if_neg (show ¬ decide (t.k=4∧t.b=[40])=true by simp [hc6.1]),hac,if_neg (show ¬ 6=0 by decide)]
       exact (zhX (k:=6) (by decide)).good (dSkip s) hs.skip
      rw [hi 1 wMax,if_neg (show ¬ decide (t.k=1∧t.b=wMax)=true by simpa using hc6)] at hac
      rw [hi 1 wMax,if_neg (show ¬ decide (t.k=1∧t.b=wMax)=true by simpa using hc6)]
      rw [hac,hti]
      dsimp only
      rw [if_pos (rfl : (0 : Nat)=0)]
      by_cases hp : t.k=4∧t.b=[40]
      ·have h40 : dIs s 4 [40]=true:=by rw [hi];simp [hp]
       rw [if_pos (show decide (t.k=4∧t.b=[40])=true by simp [hp])]
       by_cases hd : s.deep < 6
       ·rw [if_pos ⟨h40,hd⟩,zcs,if_neg (show ¬ (lift s).deep=6 by show ¬ s.deep=6;omega),zh6 hl' hp.1 hp.2]
        have ho : Oks (dOpen s):=⟨hs.1,by show s.deep+1≤6;omega,fun u hu=>hs.2.2 u (List.mem_of_mem_tail hu)⟩
        have h:=(zh0 ih n).good (dOpen s) ho
        have e : lift (dOpen s)=⟨r,(lift s).deep+1,(lift s).wrong⟩:=by unfold lift dOpen;rw [hl];rfl
        rw [e] at h
        exact h
       ·rw [if_neg (fun h=>hd h.2)]
        have hd6 : s.deep=6:=by have:=hs.2.1;omega
        obtain ⟨h1,h2,h3,h4⟩:=zcW (E:=E) hs (by unfold dNamed;rw [hl];simp [hp.1]) 2
        have hfw : (failT E (lift s)).wrong=dAt E s:=by
         unfold failT lift dAt
         rw [if_pos rfl,show nextT E ⟨s.l,s.deep,-1⟩=t from zaT hl,hl]
        have hb:=zgR ih n (s:=failT E (lift s)) rfl (by rw [hfw];omega)
        have e : innerT E (termT E n) n (lift s)=innerT E (termT E n) n (failT E (lift s)):=by
         rw [zcs,zcs,if_pos (show (lift s).deep=6 from hd6),if_pos (show (failT E (lift s)).deep=6 from hd6)]
         have e2 : failT E (failT E (lift s))=failT E (lift s):=by
          rw [show failT E (failT E (lift s))=⟨[],(failT E (lift s)).deep,(failT E (failT E (lift s))).wrong⟩ from rfl,((za6 (E:=E) (α:=Unit) ()).badr (failT E (lift s)) rfl (by rw [hfw];omega)).2]
          rfl
         rw [e2]
        rw [e]
        exact .inr ⟨h3,hb.1,by rw [hb.2,hfw,zjP h4]⟩
      ·have h40 : dIs s 4 [40]=false:=by rw [hi];simpa using hp
       rw [if_neg (fun h=>by rw [h40] at h;cases h.1),if_neg (show ¬ decide (t.k=4∧t.b=[40])=true by simpa using hp)]
       exact (zdU 2).good s hs,
   fun s hs=>by
    rw [dTerm,if_pos (.inl hs)]
    exact ⟨rfl,rfl⟩,
   fun s hl hw=>by
    rw [zcV (zh1 hl),(zcX hl hw).isT (by decide),(zcX hl hw).among (by decide),if_neg (by decide),if_pos rfl]
    exact (zdU 2).badr s hl hw⟩
theorem zkg {α : Type} {one : DS→α × DS} {one' : RS→α × RS} (ho : GoodD E one one') (b : List UInt8) : ∀ (n : Nat) (l : List α),GoodD E (fun s=>dRow b one n l s) (fun s=>rowT E b one' n l s)
 | 0,l=>GoodD.pure l
 | n+1,l=>by
   have h:=zgh (E:=E) (k:=1) (b:=b) (by decide) (ho.bind (f':=fun a s=>dRow b one n (l++[a]) s) (g':=fun a s=>rowT E b one' n (l++[a]) s) (fun a=>zkg ho b n (l++[a]))) (GoodD.pure l)
   exact h
theorem zh4 {α : Type} {one : DS→α × DS} {one' : RS→α × RS} (ho : GoodD E one one') (b : List UInt8) (n : Nat) : GoodD E (fun s=>dRow1 b one n s) (fun s=>row1T E b one' n s) :=
 ho.bind (f':=fun a s=>dRow b one n [a] s) (g':=fun a s=>rowT E b one' n [a] s) (fun a=>zkg ho b n [a])
theorem zkh (n : Nat) : GoodD E (dItem n) (itemT E n):=by
 have h:=(zkj (E:=E) (k:=1) (by decide) wNot).bind (f':=fun c s=>(PIt.mk c (dRow1 wOr dName n s).1 (dName (dRow1 wOr dName n s).2).1 (dMode (dName (dRow1 wOr dName n s).2).2).1,(dMode (dName (dRow1 wOr dName n s).2).2).2))
  (g':=fun c s=>(PIt.mk c (row1T E wOr (nameT E) n s).1 (nameT E (row1T E wOr (nameT E) n s).2).1 (if (amongT E (nameT E (row1T E wOr (nameT E) n s).2).2 4 0 modesL).1=0 then 1 else ((amongT E (nameT E (row1T E wOr (nameT E) n s).2).2 4 0 modesL).1 : Int)),(amongT E (nameT E (row1T E wOr (nameT E) n s).2).2 4 0 modesL).2))
  (fun c=>(zh4 nameGD wOr n).bind (f':=fun ns s=>(PIt.mk c ns (dName s).1 (dMode (dName s).2).1,(dMode (dName s).2).2)) (g':=fun ns s=>(PIt.mk c ns (nameT E s).1 (if (amongT E (nameT E s).2 4 0 modesL).1=0 then 1 else ((amongT E (nameT E s).2 4 0 modesL).1 : Int)),(amongT E (nameT E s).2 4 0 modesL).2))
    (fun ns=>nameGD.bind (f':=fun x s=>(PIt.mk c ns x (dMode s).1,(dMode s).2)) (g':=fun x s=>(PIt.mk c ns x (if (amongT E s 4 0 modesL).1=0 then 1 else ((amongT E s 4 0 modesL).1 : Int)),(amongT E s 4 0 modesL).2))
      (fun x=>modeGD.map (fun m=>PIt.mk c ns x m))))
 exact h
theorem zki (n : Nat) : GoodD E (dPred n) (predT E n):=by
 have h:=(zhZ (E:=E) (zh3 n) n).bind (f':=fun a s=>(PPr.mk a ((dChoose s 4 dCmps).1 : Int) (dExpr (dTerm n) n (dChoose s 4 dCmps).2).1,(dExpr (dTerm n) n (dChoose s 4 dCmps).2).2))
  (g':=fun a s=>(PPr.mk a ((chooseT E s 4 cmpsL).1 : Int) (exprT E (termT E n) n (chooseT E s 4 cmpsL).2).1,(exprT E (termT E n) n (chooseT E s 4 cmpsL).2).2))
  (fun a=>((zgg (E:=E) (k:=4) (.inr rfl) dCmps [[],[]] (by simp)).map (fun c=>(c : Int))).bind (f':=fun (c : Int) s=>(PPr.mk a c (dExpr (dTerm n) n s).1,(dExpr (dTerm n) n s).2)) (g':=fun (c : Int) s=>(PPr.mk a c (exprT E (termT E n) n s).1,(exprT E (termT E n) n s).2))
    (fun c=>(zhZ (E:=E) (zh3 n) n).map (fun b=>PPr.mk a c b)))
 exact h
theorem endGD : GoodD E (fun s=>((),if s.l=[] then s else dFail s)) (fun s=>((),if s.l=[] then s else failT E s)) :=
 ⟨fun s hs=>by
   show Alk E ((),if s.l=[] then s else dFail s) ((),if (lift s).l=[] then lift s else failT E (lift s))
   by_cases hl : s.l=[]
   ·rw [if_pos hl,if_pos (show (lift s).l=[] from hl)]
    exact .inl ⟨hs,rfl,rfl⟩
   ·rw [if_neg hl,if_neg (show ¬ (lift s).l=[] from hl)]
    exact (za6 ()).good s hs,
  fun s hs=>by
   show (if s.l=[] then s else dFail s).bad=true∧(if s.l=[] then s else dFail s).l=s.l
   split
   ·exact ⟨hs,rfl⟩
   ·exact ⟨rfl,rfl⟩,
  fun s hl hw=>by
   show (if s.l=[] then s else failT E s).l=[]∧(if s.l=[] then s else failT E s).wrong=s.wrong
   rw [if_pos hl]
   exact ⟨hl,rfl⟩⟩
def dQ4 (its : List PIt) (prs : List PPr) (n : Int) (b : List UInt8) (s : DS) : PQu × DS :=
 (⟨its,prs,n,b,(((if dIs s 1 wPick then dChoose (dSkip s) 1 dPicks else (1,s) : Nat × DS)).1 : Int)⟩,if (if dIs s 1 wPick then dChoose (dSkip s) 1 dPicks else (1,s) : Nat × DS).2.l=[] then (if dIs s 1 wPick then dChoose (dSkip s) 1 dPicks else (1,s) : Nat × DS).2 else dFail (if dIs s 1 wPick then dChoose (dSkip s) 1 dPicks else (1,s) : Nat × DS).2)
def tQ4 (E : Nat) (its : List PIt) (prs : List PPr) (n : Int) (b : List UInt8) (s : RS) : PQu × RS :=
 (⟨its,prs,n,b,(((if isT E s 1 wPick then chooseT E (takeT E s 1 wPick).2 1 picksL else (1,s) : Nat × RS)).1 : Int)⟩,if (if isT E s 1 wPick then chooseT E (takeT E s 1 wPick).2 1 picksL else (1,s) : Nat × RS).2.l=[] then (if isT E s 1 wPick then chooseT E (takeT E s 1 wPick).2 1 picksL else (1,s) : Nat × RS).2 else failT E (if isT E s 1 wPick then chooseT E (takeT E s 1 wPick).2 1 picksL else (1,s) : Nat × RS).2)
theorem q4GD (its : List PIt) (prs : List PPr) (n : Int) (b : List UInt8) : GoodD E (dQ4 its prs n b) (tQ4 E its prs n b) :=
 ((zgh (E:=E) (k:=1) (b:=wPick) (by decide) (zgg (E:=E) (k:=1) (.inl rfl) dPicks [[],[],[],[],[]] (by simp)) (GoodD.pure 1)).map (fun k=>(k : Int))).bind
   (f':=fun (k : Int) s=>(PQu.mk its prs n b k,if s.l=[] then s else dFail s)) (g':=fun (k : Int) s=>(PQu.mk its prs n b k,if s.l=[] then s else failT E s)) (fun k=>endGD.map (fun _=>PQu.mk its prs n b k))
def dQ3 (its : List PIt) (prs : List PPr) (n : Int) (s : DS) : PQu × DS:=dQ4 its prs n (if dIs s 1 wBy then dName (dSkip s) else ([],s)).1 (if dIs s 1 wBy then dName (dSkip s) else ([],s)).2
def tQ3 (E : Nat) (its : List PIt) (prs : List PPr) (n : Int) (s : RS) : PQu × RS:=tQ4 E its prs n (if isT E s 1 wBy then nameT E (takeT E s 1 wBy).2 else ([],s)).1 (if isT E s 1 wBy then nameT E (takeT E s 1 wBy).2 else ([],s)).2
theorem q3GD (its : List PIt) (prs : List PPr) (n : Int) : GoodD E (dQ3 its prs n) (tQ3 E its prs n) :=
 (zgh (E:=E) (k:=1) (b:=wBy) (by decide) nameGD (GoodD.pure [])).bind (f':=fun b s=>dQ4 its prs n b s) (g':=fun b s=>tQ4 E its prs n b s) (fun b=>q4GD its prs n b)
def dQ2 (its : List PIt) (prs : List PPr) (s : DS) : PQu × DS:=dQ3 its prs (dNum (dMust s 1 wWithin)).1 (dNum (dMust s 1 wWithin)).2
def tQ2 (E : Nat) (its : List PIt) (prs : List PPr) (s : RS) : PQu × RS:=tQ3 E its prs (numberT E (needT E s 1 wWithin)).1 (numberT E (needT E s 1 wWithin)).2
theorem q2GD (its : List PIt) (prs : List PPr) : GoodD E (dQ2 its prs) (tQ2 E its prs) :=
 ((zbM (E:=E) (k:=1) (by decide) wWithin).bind (f':=fun _ s=>dNum s) (g':=fun _ s=>numberT E s) (fun _=>numGD)).bind (f':=fun n s=>dQ3 its prs n s) (g':=fun n s=>tQ3 E its prs n s) (fun n=>q3GD its prs n)
def dQ1 (n : Nat) (its : List PIt) (s : DS) : PQu × DS:=dQ2 its (if dIs s 1 wWhere then dRow1 wAnd (dPred n) n (dSkip s) else ([],s)).1 (if dIs s 1 wWhere then dRow1 wAnd (dPred n) n (dSkip s) else ([],s)).2
def tQ1 (E n : Nat) (its : List PIt) (s : RS) : PQu × RS:=tQ2 E its (if isT E s 1 wWhere then row1T E wAnd (predT E n) n (takeT E s 1 wWhere).2 else ([],s)).1 (if isT E s 1 wWhere then row1T E wAnd (predT E n) n (takeT E s 1 wWhere).2 else ([],s)).2
theorem q1GD (n : Nat) (its : List PIt) : GoodD E (dQ1 n its) (tQ1 E n its) :=
 (zgh (E:=E) (k:=1) (b:=wWhere) (by decide) (zh4 (zki n) wAnd n) (GoodD.pure [])).bind (f':=fun prs s=>dQ2 its prs s) (g':=fun prs s=>tQ2 E its prs s) (fun prs=>q2GD its prs)
theorem zjO (n : Nat) : GoodD E (dQuery n) (queryT E n):=by
 have h:=((zbM (E:=E) (k:=1) (by decide) wSeq).bind (f':=fun _ s=>dRow1 wThen (dItem n) n s) (g':=fun _ s=>row1T E wThen (itemT E n) n s) (fun _=>zh4 (zkh n) wThen n)).bind (f':=fun its s=>dQ1 n its s) (g':=fun its s=>tQ1 E n its s) (fun its=>q1GD n its)
 exact h
end
end Go.Proofs.YtkmlfkbpcgkpaaaGreatDoor
namespace Go.Proofs.YtkmlfkbpcgkpaaaGreatDoor
open Go.RowKit Go.Lib Go.Op
set_option maxHeartbeats 8000000
set_option maxRecDepth 100000
def DTok (t : XTok) : Prop:=WTok t∧t.b.length≤1000∧t.at_≤1000000
structure DdAt (w : World) (R T : Nat) (L : List XTok) (s : DS) (a : Option Addr) (c : Nat) : Prop where
 blk : w.heap[R]?=some (.cells #[.slice a L.length c,.int .i64 ((L.length - s.l.length : Nat) : Int),.bool s.bad,.int .i64 s.deep] 145 (0,0))
 suf : s.l <:+ L
 toks : TokL T w a L
 tr : T < R
 len : L.length≤500
 ok : ∀ t∈L,DTok t
 deep : s.deep≤100
def DdR (w : World) (R T : Nat) (L : List XTok) (s : DS) : Prop:=∃ a c,DdAt w R T L s a c
section
variable {w w' : World} {R T : Nat} {L : List XTok} {s : DS} {a : Option Addr} {c : Nat}
theorem DdAt.c0 (h : DdAt w R T L s a c) : w.cell? ⟨R,0,none⟩=some (.slice a L.length c):=zab h.blk rfl
theorem DdAt.c1 (h : DdAt w R T L s a c) : w.cell? ⟨R,1,none⟩=some (.int .i64 ((L.length - s.l.length : Nat) : Int)):=zab h.blk rfl
theorem DdAt.c2 (h : DdAt w R T L s a c) : w.cell? ⟨R,2,none⟩=some (.bool s.bad):=zab h.blk rfl
theorem DdAt.c3 (h : DdAt w R T L s a c) : w.cell? ⟨R,3,none⟩=some (.int .i64 s.deep):=zab h.blk rfl
theorem DdAt.f (h : DdAt w R T L s a c) (k : Nat) : w.frozen? ⟨R,k,none⟩=false:=zac h.blk
theorem DdAt.lt (h : DdAt w R T L s a c) : R < w.heap.size:=(Array.getElem?_eq_some_iff.1 h.blk).1
theorem DdR.lt (h : DdR w R T L s) : R < w.heap.size:=by
 obtain ⟨a,c,h⟩:=h
 exact h.lt
theorem DdAt.le (h : DdAt w R T L s a c) : s.l.length≤L.length:=h.suf.length_le
theorem DdAt.keep (h : DdAt w R T L s a c) (hb : Below w.heap.size w w') : DdAt w' R T L s a c :=
 { h with blk:=(hb.block R h.lt).trans h.blk,toks:=h.toks.keep (TFr.of_below (K:=fun _=>False) hb) id }
theorem DdR.keep (h : DdR w R T L s) (hb : Below w.heap.size w w') : DdR w' R T L s:=by
 obtain ⟨a,c,h⟩:=h
 exact ⟨a,c,h.keep hb⟩
theorem DdAt.other {K : Nat→Prop} (h : DdAt w R T L s a c) (hf : TFr K w w') (hK : ∀ k,k≤R→¬ K k) : DdAt w' R T L s a c :=
 { h with blk:=(hf.block R h.lt (hK R (Nat.le_refl _))).trans h.blk,toks:=h.toks.keep hf (hK T (Nat.le_of_lt h.tr)) }
theorem DdR.other {K : Nat→Prop} (h : DdR w R T L s) (hf : TFr K w w') (hK : ∀ k,k≤R→¬ K k) : DdR w' R T L s:=by
 obtain ⟨a,c,h⟩:=h
 exact ⟨a,c,h.other hf hK⟩
theorem DdAt.first {t : XTok} {r : List XTok} (h : DdAt w R T L s a c) (hl : s.l=t :: r) : ∃ o,a=some ⟨T,o,none⟩∧L.length - s.l.length < L.length∧w.cell? ⟨T,o+(L.length - s.l.length)*3,none⟩=some (.int .i64 t.k)∧w.cell? ⟨T,o+(L.length - s.l.length)*3+1,none⟩=some (.string (strB t.b))∧w.cell? ⟨T,o+(L.length - s.l.length)*3+2,none⟩=some (.int .i64 t.at_):=by
 have hle:=h.le
 rw [hl,List.length_cons] at hle
 obtain ⟨p,hp⟩:=h.suf
 have hpl : p.length=L.length - s.l.length:=by rw [← hp,List.length_append];omega
 have hget : L[L.length - s.l.length]?=some t:=by
  rw [← hpl]
  rw [← hp,List.getElem?_append_right (Nat.le_refl _),Nat.sub_self,hl]
  rfl
 obtain ⟨o,e,h0,h1,h2⟩:=h.toks _ t hget
 exact ⟨o,e,by rw [hl,List.length_cons];omega,h0,h1,h2⟩
theorem DdAt.head {t : XTok} {r : List XTok} (h : DdAt w R T L s a c) (hl : s.l=t :: r) : DTok t:=h.ok t (h.suf.subset (by rw [hl];exact List.mem_cons_self))
theorem DdAt.skip {t : XTok} {r : List XTok} (h : DdAt w R T L s a c) (hl : s.l=t :: r) {x : Int} (hx : x=((L.length - s.l.length : Nat) : Int)+1) : DdAt (w.setCell ⟨R,1,none⟩ (.int .i64 x)) R T L (dSkip s) a c:=by
 have hle:=h.le
 rw [hl,List.length_cons] at hle
 exact { h with
  blk:=by
   rw [zal h.blk]
   have e : x=((L.length - (dSkip s).l.length : Nat) : Int):=by
    rw [hx,hl]
    unfold dSkip
    rw [hl]
    simp only [List.tail_cons,List.length_cons]
    omega
   rw [e]
   rfl
  suf:=(List.tail_suffix _).trans h.suf
  toks:=h.toks.keep (TFr.at _ _ _) (Nat.ne_of_lt h.tr)
  deep:=h.deep }
theorem DdAt.setBad (h : DdAt w R T L s a c) : DdAt (w.setCell ⟨R,2,none⟩ (.bool true)) R T L (dFail s) a c :=
 { h with
   blk:=by rw [zal h.blk];rfl
   toks:=h.toks.keep (TFr.at _ _ _) (Nat.ne_of_lt h.tr)
   suf:=h.suf
   deep:=h.deep }
theorem DdAt.setDeep (h : DdAt w R T L s a c) {x : Nat} (hx : x≤100) {v : Int} (hv : v=x) : DdAt (w.setCell ⟨R,3,none⟩ (.int .i64 v)) R T L ⟨s.l,x,s.bad⟩ a c:=by
 subst hv
 exact { h with
  blk:=by rw [zal h.blk];rfl
  toks:=h.toks.keep (TFr.at _ _ _) (Nat.ne_of_lt h.tr)
  deep:=hx }
end
structure DdTo (R T : Nat) (L : List XTok) (s' : DS) (w w' : World) : Prop where
 rd : DdR w' R T L s'
 fr : TFr (·=R) w w'
section
variable {w w1 w' : World} {R T : Nat} {L : List XTok} {s s' : DS}
theorem DdTo.of_below (h : DdR w R T L s) (hb : Below w.heap.size w w') : DdTo R T L s w w':=⟨h.keep hb,TFr.of_below hb⟩
theorem DdTo.after (hb : Below w.heap.size w w1) (h : DdTo R T L s w1 w') : DdTo R T L s w w':=⟨h.rd,(TFr.of_below hb).trans h.fr⟩
theorem DdTo.trans (h1 : DdTo R T L s w w1) (h : DdTo R T L s' w1 w') : DdTo R T L s' w w':=⟨h.rd,h1.fr.trans h.fr⟩
theorem DdTo.then (h1 : DdTo R T L s w w1) (hb : Below w1.heap.size w1 w') : DdTo R T L s w w':=⟨h1.rd.keep hb,h1.fr.trans (TFr.of_below hb)⟩
theorem DdTo.set (h : DdTo R T L s w w') (hR : R < w.heap.size) {b : Nat} (hb : w.heap.size≤b) (k : Nat) (v : Value) : DdTo R T L s w (w'.setCell ⟨b,k,none⟩ v) :=
 ⟨h.rd.other (TFr.at b k v) (fun j hj e=>by omega),h.fr.setCell (p:=⟨b,k,none⟩) (fun hlt=>absurd hlt (by show ¬ b < _;omega)) v⟩
theorem DdTo.set7 (h : DdTo R T L s w w') (hR : R < w.heap.size) {b : Nat} (hb : w.heap.size≤b) (t0 t1 t2 t3 t4 t5 t6 : Value) : DdTo R T L s w (((((((w'.setCell ⟨b,0,none⟩ t0).setCell ⟨b,1,none⟩ t1).setCell ⟨b,2,none⟩ t2).setCell ⟨b,3,none⟩ t3).setCell ⟨b,4,none⟩ t4).setCell ⟨b,5,none⟩ t5).setCell ⟨b,6,none⟩ t6) :=
 ((((((h.set hR hb _ _).set hR hb _ _).set hR hb _ _).set hR hb _ _).set hR hb _ _).set hR hb _ _).set hR hb _ _
theorem DdTo.grown (h : DdTo R T L s w w1) (hR : R < w.heap.size) {row : Option Nat} (hg : w1.grownBy w' row) (hb : ∀ k,row=some k→w.heap.size≤k) : DdTo R T L s w w':=by
 have hf : TFr (fun k=>row=some k) w1 w':=TFr.of_grown hg (fun k hk=>hk)
 exact ⟨h.rd.other hf (fun k hk e=>by have:=hb k e;omega),⟨hf.os.trans h.fr.os,hf.tape.trans h.fr.tape,hf.output.trans h.fr.output,Nat.le_trans h.fr.size hf.size,fun i hi hn=>(hf.block i (Nat.lt_of_lt_of_le hi h.fr.size) (fun e=>by have:=hb i e;omega)).trans (h.fr.block i hi hn)⟩⟩
end
section
variable {w : World} {R T : Nat} {L : List XTok} {s : DS}
theorem zam (h : DdR w R T L s) : Calls Tryz.prog 146 #[.pointer (some ⟨R,0,none⟩)] w fun e w'=>e=.returned (.tuple #[])∧DdTo R T L (dFail s) w w':=by
 obtain ⟨a,c,h1⟩:=h
 have c2:=h1.c2
 have f2:=h1.f 2
 have K3:=hid h1.setBad
 clear h1
 go_enter Tryz.func146,Tryz.ntmps146
 go_wp2
 go_end0
 exact ⟨rfl,⟨⟨a,c,K3.out⟩,TFr.at _ _ _⟩⟩
theorem zeT (h : DdR w R T L s) (k : Nat) (b : List UInt8) : Calls Tryz.prog 182 #[.pointer (some ⟨R,0,none⟩),.int .i64 k,.string (strB b)] w fun e w'=>e=.returned (.bool (dIs s k b))∧Below w.heap.size w w':=by
 obtain ⟨a,c,h1⟩:=h
 have c0:=h1.c0
 have c1:=h1.c1
 have c2:=h1.c2
 have hle:=h1.le
 have hlen:=h1.len
 cases hb : s.bad with
 | true =>
   rw [zbl hb]
   rw [hb] at c2
   clear h1 hb hle hlen
   go_enter Tryz.func182,Tryz.ntmps182
   go_wp2_with fail
   go_quiet (fail)
   have HB1 : Hid (Below w.heap.size w (w.drewN nq)):=below_drewN (Below.refl _ _) _
   go_wp2
   go_ret
   exact ⟨rfl,HB1.out⟩
 | false =>
   rw [hb] at c2
   cases hl : s.l with
   | nil =>
     have hz : dIs s k b=false:=by unfold dIs;rw [hl];simp
     rw [hz]
     rw [hl,List.length_nil,Nat.sub_zero] at c1
     obtain ⟨n,hn⟩ : ∃ n,L.length=n:=⟨_,rfl⟩
     rw [hn] at c0 c1
     clear h1 hb hl hz hle hlen hn
     go_enter Tryz.func182,Tryz.ntmps182
     go_wp2_with fail
     go_quiet (fail)
     have HB1 : Hid (Below w.heap.size w (w.drewN nq)):=below_drewN (Below.refl _ _) _
     go_wp2
     go_ret
     exact ⟨rfl,HB1.out⟩
   | cons t r =>
     have hz : dIs s k b=decide (t.k=k∧t.b=b):=zh2 hb hl k b
     rw [hz]
     obtain ⟨o,rfl,hlt,h0,h2,h3⟩:=h1.first hl
     obtain ⟨n,hn⟩ : ∃ n,L.length=n:=⟨_,rfl⟩
     obtain ⟨p,hp⟩ : ∃ p,L.length - s.l.length=p:=⟨_,rfl⟩
     rw [hp] at c1 h0 h2 h3 hlt
     rw [hn] at c0 hlt
     clear h1 hb hl hz hle hlen hn hp
     have H3 : (t.k≠k)∨(t.k=k∧t.b≠b)∨(t.k=k∧t.b=b):=by
      by_cases e1 : t.k=k
      ·by_cases e2 : t.b=b
       ·exact .inr (.inr ⟨e1,e2⟩)
       ·exact .inr (.inl ⟨e1,e2⟩)
      ·exact .inl e1
     obtain ⟨tb,htb⟩ : ∃ tb,t.b=tb:=⟨_,rfl⟩
     obtain ⟨tk,htk⟩ : ∃ tk,t.k=tk:=⟨_,rfl⟩
     rw [htb,htk] at H3 ⊢
     rw [htk] at h0
     rw [htb] at h2
     clear htb htk h3
     rcases H3 with e1|⟨e1,e2⟩|⟨e1,e2⟩
     ·have t1 : (tk == k)=false:=by rw [beq_eq_false_iff_ne];exact e1
      have t2 : ((tk : Int) == (k : Int))=false:=by rw [beq_eq_false_iff_ne];omega
      rw [decide_eq_false (fun h=>e1 h.1)]
      clear e1
      go_enter Tryz.func182,Tryz.ntmps182
      go_wp2_with fail
      go_quiet (fail)
      have HB1 : Hid (Below w.heap.size w (w.drewN nq)):=below_drewN (Below.refl _ _) _
      go_wp2
      go_ret
      exact ⟨rfl,HB1.out⟩
     ·have t1 : (tk == k)=true:=by rw [beq_iff_eq];exact e1
      have t2 : ((tk : Int) == (k : Int))=true:=by rw [beq_iff_eq];omega
      have t3 : ((strB tb).toList == (strB b).toList)=false:=by rw [zao,zao,beq_eq_false_iff_ne];exact e2
      rw [decide_eq_false (fun h=>e2 h.2)]
      obtain ⟨s1,hs1⟩ : ∃ s1,strB tb=s1:=⟨_,rfl⟩
      obtain ⟨s2,hs2⟩ : ∃ s2,strB b=s2:=⟨_,rfl⟩
      rw [hs1,hs2] at t3
      rw [hs1] at h2
      rw [hs2]
      clear e1 e2 hs1 hs2
      go_enter Tryz.func182,Tryz.ntmps182
      go_wp2_with fail
      go_quiet (fail)
      have HB1 : Hid (Below w.heap.size w (w.drewN nq)):=below_drewN (Below.refl _ _) _
      go_wp2
      go_ret
      exact ⟨rfl,HB1.out⟩
     ·subst e1 e2
      have t2 : ((tk : Int) == (tk : Int))=true:=beq_self_eq_true _
      rw [decide_eq_true (And.intro rfl rfl)]
      go_enter Tryz.func182,Tryz.ntmps182
      go_wp2_with fail
      go_quiet (fail)
      have HB1 : Hid (Below w.heap.size w (w.drewN nq)):=below_drewN (Below.refl _ _) _
      go_wp2
      go_ret
      exact ⟨rfl,HB1.out⟩
theorem zbs (h : DdR w R T L s) (k : Nat) (b : List UInt8) : Calls Tryz.prog 141 #[.pointer (some ⟨R,0,none⟩),.int .i64 k,.string (strB b)] w fun e w'=>e=.returned (.bool (dIs s k b))∧DdTo R T L (dTake s k b) w w':=by
 have HI:=hid (zeT h k b)
 have H:=hid h
 cases hz : dIs s k b with
 | false =>
   have hs : dTake s k b=s:=by unfold dTake;rw [hz];rfl
   rw [hs]
   rw [hz] at HI
   clear hz hs h
   go_enter Tryz.func141,Tryz.ntmps141
   go_wp2_with fail
   with_reducible refine HI.out.mono ?_
   rintro e w1 ⟨rfl,hb1⟩
   have HB1:=hid hb1
   clear hb1
   go_wp2
   go_ret
   exact ⟨rfl,DdTo.of_below H.out HB1.out⟩
 | true =>
   obtain ⟨t,r,hl⟩ : ∃ t r,s.l=t :: r:=by
    unfold dIs at hz
    cases hl : s.l with
    | nil=>rw [hl] at hz;simp at hz
    | cons t r=>exact ⟨t,r,rfl⟩
   have hs : dTake s k b=dSkip s:=by unfold dTake;rw [hz];rfl
   rw [hs]
   rw [hz] at HI
   have HL:=hid hl
   clear hz hs h hl
   go_enter Tryz.func141,Tryz.ntmps141
   go_wp2_with fail
   with_reducible refine HI.out.mono ?_
   rintro e w1 ⟨rfl,hb1⟩
   have HB1:=hid hb1
   clear hb1
   obtain ⟨a,c,h1⟩:=H.out.keep HB1.out
   have H2:=hid (h1.skip HL.out rfl)
   have c1:=h1.c1
   have f1:=h1.f 1
   have hlen:=h1.len
   have hw : IntKind.i64.wrap (((L.length - s.l.length : Nat) : Int)+1)=((L.length - s.l.length : Nat) : Int)+1:=IntWalk.i64_in _ (by omega)
   obtain ⟨p,hp⟩ : ∃ p,L.length - s.l.length=p:=⟨_,rfl⟩
   rw [hp] at c1 hw H2
   clear h1 hp hlen
   go_wp2
   go_ret
   exact ⟨rfl,⟨⟨a,c,H2.out⟩,(TFr.of_below HB1.out).trans (TFr.at _ _ _)⟩⟩
theorem zcj (h : DdR w R T L s) (k : Nat) (b : List UInt8) : Calls Tryz.prog 139 #[.pointer (some ⟨R,0,none⟩),.int .i64 k,.string (strB b)] w fun e w'=>e=.returned (.tuple #[])∧DdTo R T L (dMust s k b) w w':=by
 have HT:=hid (zbs h k b)
 cases hz : dIs s k b with
 | false =>
   have hs : dMust s k b=dFail (dTake s k b):=by unfold dMust dTake;rw [hz];rfl
   rw [hs]
   rw [hz] at HT
   clear hz hs h
   go_enter Tryz.func139,Tryz.ntmps139
   go_wp2_with fail
   with_reducible refine HT.out.mono ?_
   rintro e w1 ⟨rfl,hd1⟩
   have HD1:=hid hd1
   have HF:=hid (zam hd1.rd)
   clear hd1
   go_wp2_with fail
   with_reducible refine HF.out.mono ?_
   rintro e w2 ⟨rfl,hd2⟩
   have HD2:=hid (HD1.out.trans hd2)
   clear hd2
   go_wp2
   go_end0
   exact ⟨rfl,HD2.out⟩
 | true =>
   have hs : dMust s k b=dTake s k b:=by unfold dMust dTake;rw [hz];rfl
   rw [hs]
   rw [hz] at HT
   clear hz hs h
   go_enter Tryz.func139,Tryz.ntmps139
   go_wp2_with fail
   with_reducible refine HT.out.mono ?_
   rintro e w1 ⟨rfl,hd1⟩
   have HD1:=hid hd1
   clear hd1
   go_wp2
   go_end0
   exact ⟨rfl,HD1.out⟩
theorem zb5 (h : DdR w R T L s) (b : List UInt8) : Calls Tryz.prog 182 #[.pointer (some ⟨R,0,none⟩),.int .i64 4,.string (strB b)] w fun e w'=>e=.returned (.bool (dIs s 4 b))∧Below w.heap.size w w':=zeT h 4 b
theorem zaf (h : DdR w R T L s) (b : List UInt8) : Calls Tryz.prog 141 #[.pointer (some ⟨R,0,none⟩),.int .i64 1,.string (strB b)] w fun e w'=>e=.returned (.bool (dIs s 1 b))∧DdTo R T L (dTake s 1 b) w w':=zbs h 1 b
theorem zaj (h : DdR w R T L s) (b : List UInt8) : Calls Tryz.prog 141 #[.pointer (some ⟨R,0,none⟩),.int .i64 4,.string (strB b)] w fun e w'=>e=.returned (.bool (dIs s 4 b))∧DdTo R T L (dTake s 4 b) w w':=zbs h 4 b
theorem zck (h : DdR w R T L s) (b : List UInt8) : Calls Tryz.prog 139 #[.pointer (some ⟨R,0,none⟩),.int .i64 1,.string (strB b)] w fun e w'=>e=.returned (.tuple #[])∧DdTo R T L (dMust s 1 b) w w':=zcj h 1 b
theorem zat (h : DdR w R T L s) (b : List UInt8) : Calls Tryz.prog 139 #[.pointer (some ⟨R,0,none⟩),.int .i64 4,.string (strB b)] w fun e w'=>e=.returned (.tuple #[])∧DdTo R T L (dMust s 4 b) w w':=zcj h 4 b
end
end Go.Proofs.YtkmlfkbpcgkpaaaGreatDoor
namespace Go.Proofs.YtkmlfkbpcgkpaaaGreatDoor
open Go.Lib
section
variable {s : DS}
theorem zas : (dSkip s).l.length≤s.l.length:=by unfold dSkip;rw [List.length_tail];omega
theorem zdZ (k : Nat) (b : List UInt8) : (dTake s k b).l.length≤s.l.length:=by
 unfold dTake
 split
 ·exact zas
 ·exact Nat.le_refl _
theorem zdx (k : Nat) (b : List UInt8) : (dTake s k b).deep=s.deep:=by
 unfold dTake
 split <;> rfl
theorem zi2 {k : Nat} {b : List UInt8} (h : dIs s k b=true) : s.bad=false∧∃ t r,s.l=t :: r:=by
 unfold dIs at h
 rw [Bool.and_eq_true,Bool.not_eq_true'] at h
 refine ⟨h.1,?_⟩
 cases hl : s.l with
 | nil=>rw [hl] at h;simp at h
 | cons t r=>exact ⟨t,r,rfl⟩
theorem zaI {k : Nat} {b : List UInt8} (h : dIs s k b=true) : (dSkip s).l.length < s.l.length:=by
 obtain ⟨_,t,r,hl⟩:=zi2 h
 unfold dSkip
 rw [hl]
 simp
theorem zai {k : Nat} {b : List UInt8} (h : dIs s k b=false) : dTake s k b=s:=by unfold dTake;rw [h];rfl
theorem zah {k : Nat} {b : List UInt8} (h : dIs s k b=true) : dTake s k b=dSkip s:=by unfold dTake;rw [h];rfl
theorem zbk (k : Nat) (b : List UInt8) : (dMust s k b).l.length≤s.l.length:=by
 unfold dMust
 split
 ·exact zas
 ·exact Nat.le_refl _
theorem zaH (k : Nat) (b : List UInt8) : (dMust s k b).deep=s.deep:=by
 unfold dMust
 split <;> rfl
theorem zaU : (dName s).2.l.length≤s.l.length:=by
 unfold dName
 split
 ·exact zas
 ·exact Nat.le_refl _
theorem dName_deep : (dName s).2.deep=s.deep:=by
 unfold dName
 split <;> rfl
theorem zic : (dNum s).2.l.length≤s.l.length:=by
 unfold dNum
 split
 ·exact zas
 ·exact Nat.le_refl _
theorem zeZ : (dNum s).2.deep=s.deep:=by
 unfold dNum
 split <;> rfl
theorem ze0 (k : Int) : (dField s k).2.l.length≤s.l.length:=Nat.le_trans zaU (Nat.le_trans (zbk _ _) zaU)
theorem zc8 (k : Int) : (dField s k).2.deep=s.deep:=by
 unfold dField
 dsimp only
 rw [dName_deep,zaH,dName_deep]
theorem zid : (dCount s).2.l.length≤s.l.length:=Nat.le_trans (zbk _ _) (Nat.le_trans zaU (zbk _ _))
theorem zfM : (dCount s).2.deep=s.deep:=by
 unfold dCount
 dsimp only
 rw [zaH,dName_deep,zaH]
theorem zd0 (k : Int) : (dCall s k).2.l.length≤s.l.length:=Nat.le_trans (zbk _ _) (Nat.le_trans (ze0 k) (zbk _ _))
theorem zb7 (k : Int) : (dCall s k).2.deep=s.deep:=by
 unfold dCall
 dsimp only
 rw [zaH,zc8,zaH]
theorem zc9 (k : Nat) : ∀ (l : List (List UInt8)) (n : Nat),(dAmong s k n l).2.l.length≤s.l.length
 | [],_=>Nat.le_refl _
 | b :: l,n=>by
   rw [dAmong]
   split
   ·exact zas
   ·exact zc9 k l (n+1)
theorem zbQ (k : Nat) : ∀ (l : List (List UInt8)) (n : Nat),(dAmong s k n l).2.deep=s.deep
 | [],_=>rfl
 | b :: l,n=>by
   rw [dAmong]
   split
   ·rfl
   ·exact zbQ k l (n+1)
theorem zdy (k : Nat) (l : List (List UInt8)) : (dChoose s k l).2.l.length≤s.l.length:=by
 unfold dChoose
 split
 ·exact zc9 k l 1
 ·exact zc9 k l 1
theorem zcm (k : Nat) (l : List (List UInt8)) : (dChoose s k l).2.deep=s.deep:=by
 unfold dChoose
 split
 ·exact zbQ k l 1
 ·exact zbQ k l 1
theorem zi3 : (dMode s).2.l.length≤s.l.length:=by
 unfold dMode
 split
 ·exact zas
 ·split
  ·exact zas
  ·exact Nat.le_refl _
theorem dMode_deep : (dMode s).2.deep=s.deep:=by
 unfold dMode
 split
 ·rfl
 ·split <;> rfl
end
theorem zd1 {tm : DS→PEx × DS} (ht : ∀ s,(tm s).2.l.length≤s.l.length) : ∀ (n : Nat) (x : PEx) (s : DS),(dSums tm n x s).2.l.length≤s.l.length
 | 0,x,s=>Nat.le_refl _
 | n+1,x,s=>by
   rw [dSums]
   split
   ·exact Nat.le_trans (zd1 ht n _ _) (Nat.le_trans (ht _) zas)
   ·split
    ·exact Nat.le_trans (zd1 ht n _ _) (Nat.le_trans (ht _) zas)
    ·exact Nat.le_refl _
theorem zb8 {tm : DS→PEx × DS} (ht : ∀ s,(tm s).2.deep=s.deep) : ∀ (n : Nat) (x : PEx) (s : DS),(dSums tm n x s).2.deep=s.deep
 | 0,x,s=>rfl
 | n+1,x,s=>by
   rw [dSums]
   split
   ·rw [zb8 ht n _ _,ht];rfl
   ·split
    ·rw [zb8 ht n _ _,ht];rfl
    ·rfl
theorem zct {tm : DS→PEx × DS} (ht : ∀ s,(tm s).2.l.length≤s.l.length) (n : Nat) (s : DS) : (dExpr tm n s).2.l.length≤s.l.length:=Nat.le_trans (zd1 ht n _ _) (ht s)
theorem zbb {tm : DS→PEx × DS} (ht : ∀ s,(tm s).2.deep=s.deep) (n : Nat) (s : DS) : (dExpr tm n s).2.deep=s.deep:=(zb8 ht n _ _).trans (ht s)
theorem zie {tm : DS→PEx × DS} (ht : ∀ s,(tm s).2.l.length≤s.l.length) (n : Nat) (s : DS) : (dInner tm n s).2.l.length≤s.l.length:=by
 refine Nat.le_trans (zbk _ _) (Nat.le_trans (zct ht n _) ?_)
 show s.l.tail.length≤_
 rw [List.length_tail]
 omega
theorem zfN {tm : DS→PEx × DS} (ht : ∀ s,(tm s).2.deep=s.deep) (n : Nat) (s : DS) : (dInner tm n s).2.deep=s.deep:=by
 show (dMust (dExpr tm n (dOpen s)).2 4 [41]).deep - 1=s.deep
 rw [zaH,zbb ht]
 show s.deep+1 - 1=s.deep
 omega
theorem zbH : ∀ (n : Nat) (s : DS),(dTerm n s).2.l.length≤s.l.length
 | 0,s=>Nat.le_refl _
 | n+1,s=>by
   rw [dTerm]
   repeat' split
   ·exact Nat.le_refl _
   ·exact zic
   ·exact zas
   ·exact Nat.le_trans zic zas
   ·exact zas
   ·exact zas
   ·exact Nat.le_trans zid zas
   ·exact Nat.le_trans (zd0 _) zas
   ·exact Nat.le_trans (zd0 _) zas
   ·exact Nat.le_trans (zd0 _) zas
   ·exact zie (zbH n) n s
   ·exact ze0 2
theorem zaM : ∀ (n : Nat) (s : DS),(dTerm n s).2.deep=s.deep
 | 0,s=>rfl
 | n+1,s=>by
   rw [dTerm]
   repeat' split
   ·rfl
   ·exact zeZ
   ·rfl
   ·exact zeZ
   ·rfl
   ·rfl
   ·exact zfM
   ·exact zb7 _
   ·exact zb7 _
   ·exact zb7 _
   ·exact zfN (zaM n) n s
   ·exact zc8 2
end Go.Proofs.YtkmlfkbpcgkpaaaGreatDoor
