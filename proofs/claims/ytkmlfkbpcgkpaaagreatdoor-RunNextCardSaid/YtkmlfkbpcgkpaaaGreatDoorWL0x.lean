/- Words of a query's text, in plain words. -/
import Derived.Test.YtkmlfkbpcgkpaaaGreatDoorWF3
import Derived.Lib.ParseIntBTie
import Derived.Lib.Bytealg
namespace Go.Proofs.YtkmlfkbpcgkpaaaGreatDoor
open Go.Lib
def xblank (c : UInt8) : Bool:=decide (c.toNat=32) || decide (c.toNat=10)
def xletter (c : UInt8) : Bool:=decide (97≤c.toNat) && decide (c.toNat≤122)
def xdigit (c : UInt8) : Bool:=decide (48≤c.toNat) && decide (c.toNat≤57)
def xin (c : UInt8) : Bool:=xletter c || (xdigit c || decide (c.toNat=95))
def xquot (c : UInt8) : Bool:=decide (32≤c.toNat) && (decide (c.toNat≤126) && !decide (c.toNat=39))
def manyL (p : UInt8→Bool) (l : List UInt8) : Nat:=(l.takeWhile p).length
theorem zbx (p : UInt8→Bool) (l : List UInt8) : manyL p l≤l.length:=(List.takeWhile_prefix _).length_le
theorem zav (p : UInt8→Bool) (c : UInt8) (l : List UInt8) : manyL p (c :: l)=if p c then manyL p l+1 else 0:=by
 unfold manyL
 rw [List.takeWhile_cons]
 cases p c <;> simp
theorem za9 (p : UInt8→Bool) : ∀ (l : List UInt8),∀ c∈l.take (manyL p l),p c=true
 | [],c,h=>by simp at h
 | x :: l,c,h=>by
   rw [zav] at h
   split at h
   ·rename_i hx
    simp at h
    rcases h with rfl|h
    ·exact hx
    ·exact za9 p l c h
   ·simp at h
theorem zb2 (p : UInt8→Bool) : ∀ (l : List UInt8) (c : UInt8),l[manyL p l]?=some c→p c=false
 | [],c,h=>by simp at h
 | x :: l,c,h=>by
   rw [zav] at h
   split at h
   ·exact zb2 p l c (by simpa using h)
   ·rename_i hx
    simp at h
    subst h
    simpa using hx
theorem zbe (p : UInt8→Bool) : ∀ (l : List UInt8) (n : Nat),n≤l.length→(∀ c∈l.take n,p c=true)→(∀ c,l[n]?=some c→p c=false)→manyL p l=n
 | [],n,hn,_,_=>by simp at hn;subst hn;rfl
 | x :: l,0,_,_,h2=>by rw [zav,if_neg (by simp [h2 x rfl])]
 | x :: l,n+1,hn,h1,h2=>by
   rw [zav,if_pos (h1 x (by simp)),zbe p l n (by simpa using hn) (fun c hc=>h1 c (by simp [hc])) (fun c hc=>h2 c (by simpa using hc))]
def rightN (l : List UInt8) : Bool :=
 match parseIntB 64 l with
 | .ok v=>decide (v≤1099511627776) && (!(l.head?.map (·.toNat) == some 48) || l.length == 1)
 | _=>false
def amongL (l : List UInt8) (c : UInt8) : Bool:=decide (0≤indexByte l c)
def signsL : List UInt8:=[61,60,62,43,45,40,41,46,63]
def beforeL : List UInt8:=[33,60,62]
def firstC (c : UInt8) (t : List UInt8) : Nat × Nat :=
 if xletter c then (if 16 < manyL xin (c :: t) then (0,0) else (1,manyL xin (c :: t)))
 else if xdigit c then (if rightN ((c :: t).take (manyL xdigit (c :: t))) then (2,manyL xdigit (c :: t)) else (0,0))
 else if c.toNat=39 then (if 65 < 1+manyL xquot t∨manyL xquot t=t.length∨¬ t[manyL xquot t]?=some 39 then (0,0) else (3,1+manyL xquot t+1))
 else if (t[0]?=some 61∧amongL beforeL c=true) then (4,2)
 else if amongL signsL c then (4,1)
 else (0,0)
def firstX : List UInt8→Nat × Nat
 | []=>(0,0)
 | c :: t=>firstC c t
structure XTok where
 k : Nat
 b : List UInt8
 at_ : Nat
def textX (k : Nat) (bs : List UInt8) : List UInt8:=if k=3 then (bs.drop 1).take (bs.length - 2) else bs
def saidX (t : XTok) : List UInt8:=if t.k=3 then 39 :: (t.b++[39]) else t.b
def consX (t : XTok) (r : List XTok × Nat × Nat) : List XTok × Nat × Nat:=if r.2.1=0 then (t :: r.1,0,0) else r
def appX (acc : List XTok) (r : List XTok × Nat × Nat) : List XTok × Nat × Nat:=if r.2.1=0 then (acc++r.1,0,0) else r
theorem zij (r : List XTok × Nat × Nat) (h : r.2.1=0→r.2.2=0) : appX [] r=r:=by
 unfold appX
 split
 ·rename_i h0
  obtain ⟨l,e,p⟩:=r
  dsimp only at h h0
  rw [h h0,h0];rfl
 ·rfl
theorem zg9 (acc : List XTok) (t : XTok) (r : List XTok × Nat × Nat) : appX acc (consX t r)=appX (acc++[t]) r:=by
 unfold appX consX
 by_cases h : r.2.1=0 <;> simp [h]
def lexX : Nat→List UInt8→Nat→Nat→List XTok × Nat × Nat
 | 0,_,_,_=>([],71,0)
 | f+1,l,a,n =>
   if l.length≤manyL xblank l then ([],0,0)
   else if (firstX (l.drop (manyL xblank l))).2=0 then ([],71,a+manyL xblank l)
   else if n=128 then ([],2,a+manyL xblank l)
   else consX ⟨(firstX (l.drop (manyL xblank l))).1,textX (firstX (l.drop (manyL xblank l))).1 ((l.drop (manyL xblank l)).take (firstX (l.drop (manyL xblank l))).2),a+manyL xblank l⟩
    (lexX f ((l.drop (manyL xblank l)).drop (firstX (l.drop (manyL xblank l))).2) (a+manyL xblank l+(firstX (l.drop (manyL xblank l))).2) (n+1))
def readX (l : List UInt8) : List XTok × Nat × Nat:=if 512 < l.length then ([],2,0) else lexX (l.length+1) l 0 0
theorem zeb : ∀ (f : Nat) (l : List UInt8) (a n : Nat),((lexX f l a n).2.1=0→(lexX f l a n).2.2=0)∧((lexX f l a n).2.1≠0→(lexX f l a n).1=[])
 | 0,l,a,n=>by simp [lexX]
 | f+1,l,a,n=>by
   rw [lexX]
   split
   ·simp
   ·split
    ·simp
    ·split
     ·simp
     ·have ih:=zeb f ((l.drop (manyL xblank l)).drop (firstX (l.drop (manyL xblank l))).2) (a+manyL xblank l+(firstX (l.drop (manyL xblank l))).2) (n+1)
      unfold consX
      split
      ·simp
      ·rename_i h
       exact ⟨fun e=>absurd e h,ih.2⟩
theorem zcz (l : List UInt8) : (firstX l).2≤l.length:=by
 cases l with
 | nil=>simp [firstX]
 | cons c t =>
   have h1:=zbx xin (c :: t)
   have h2:=zbx xdigit (c :: t)
   have h3:=zbx xquot t
   simp only [List.length_cons] at h1 h2 ⊢
   show (firstC c t).2≤_
   unfold firstC
   split
   ·split
    ·simp
    ·exact h1
   ·split
    ·split
     ·exact h2
     ·simp
    ·split
     ·split
      ·simp
      ·rename_i h
       have : manyL xquot t≠t.length:=fun e=>h (.inr (.inl e))
       show 1+manyL xquot t+1≤t.length+1
       omega
     ·split
      ·rename_i h
       have:=(List.getElem?_eq_some_iff.1 h.1).1
       show 2≤t.length+1
       omega
      ·split
       ·show 1≤t.length+1;omega
       ·simp
theorem zgp {l : List UInt8} (h : (firstX l).2≠0) (a : Nat) : saidX ⟨(firstX l).1,textX (firstX l).1 (l.take (firstX l).2),a⟩=l.take (firstX l).2:=by
 cases l with
 | nil=>simp [firstX] at h
 | cons c t =>
   unfold saidX textX
   dsimp only
   by_cases h3 : (firstX (c :: t)).1=3
   ·rw [if_pos h3,if_pos h3]
    have h3' : (firstC c t).1=3:=h3
    unfold firstC at h3'
    split at h3'
    ·split at h3' <;> cases h3'
    ·split at h3'
     ·split at h3' <;> cases h3'
     ·split at h3'
      ·split at h3'
       ·cases h3'
       ·rename_i n1 n2 hc hq
        have e : firstX (c :: t)=(3,1+manyL xquot t+1):=by
         show firstC c t=_
         unfold firstC
         rw [if_neg n1,if_neg n2,if_pos hc,if_neg hq]
        have hle:=zbx xquot t
        have hne : manyL xquot t≠t.length:=fun e=>hq (.inr (.inl e))
        have h39 : t[manyL xquot t]?=some 39:=Classical.byContradiction fun e=>hq (.inr (.inr e))
        rw [e]
        have hc39 : c=39:=UInt8.toNat_inj.1 hc
        rw [hc39,show 1+manyL xquot t+1=(manyL xquot t+1)+1 by omega,List.take_succ_cons,List.drop_succ_cons,List.drop_zero]
        have hl : (t.take (manyL xquot t+1)).length=manyL xquot t+1:=by rw [List.length_take];omega
        rw [List.length_cons,hl,List.take_take,show min (manyL xquot t+1+1 - 2) (manyL xquot t+1)=manyL xquot t by omega]
        congr 1
        rw [List.take_add_one,h39]
        rfl
      ·split at h3'
       ·cases h3'
       ·split at h3' <;> cases h3'
   ·rw [if_neg h3,if_neg h3]
end Go.Proofs.YtkmlfkbpcgkpaaaGreatDoor
