/- Words in plain words: what tokens are, where they stand, and how they are read again. -/
import Derived.Test.YtkmlfkbpcgkpaaaGreatDoorWL5x
namespace Go.Proofs.YtkmlfkbpcgkpaaaGreatDoor
def GoodT (t : XTok) : Prop:=∃ r z,firstX r=(t.k,z)∧z≠0∧t.b=textX t.k (r.take z)∧∀ x,r[0]?=some x→xblank x=false
theorem GoodT.said {t : XTok} {r : List UInt8} {z : Nat} (h1 : firstX r=(t.k,z)) (h2 : z≠0) (h3 : t.b=textX t.k (r.take z)) : saidX t=r.take z:=by
 have h:=zgp (l:=r) (by rw [h1];exact h2) t.at_
 rw [h1] at h
 dsimp only at h
 rw [← h3] at h
 exact h
theorem zhx {l : List UInt8} : ∀ x,(l.drop (manyL xblank l))[0]?=some x→xblank x=false:=fun x hx=>by
 rw [List.getElem?_drop,Nat.add_zero] at hx
 exact zb2 xblank l x hx
theorem ziH {t : XTok} {r : List XTok × Nat × Nat} {l : List XTok} {p : Nat} (h : consX t r=(l,0,p)) : ∃ l' p',r=(l',0,p')∧l=t :: l':=by
 obtain ⟨l',e,p'⟩:=r
 unfold consX at h
 by_cases he : e=0
 ·subst he
  simp only [if_true] at h
  injection h with h1 _
  exact ⟨l',p',rfl,h1.symm⟩
 ·rw [if_neg he] at h
  injection h with _ h2
  injection h2 with h2 _
  exact absurd h2 he
theorem zhy {f : Nat} {l : List UInt8} {a n : Nat} {ts : List XTok} {p : Nat} (h : lexX f l a n=(ts,0,p)) : ∃ g,f=g+1 ∧
 ((l.length≤manyL xblank l∧ts=[])∨(¬ l.length≤manyL xblank l∧n≠128∧∃ k z r p',firstX (l.drop (manyL xblank l))=(k,z)∧z≠0∧ts=⟨k,textX k ((l.drop (manyL xblank l)).take z),a+manyL xblank l⟩ :: r∧lexX g ((l.drop (manyL xblank l)).drop z) (a+manyL xblank l+z) (n+1)=(r,0,p'))):=by
 cases f with
 | zero=>rw [lexX] at h;injection h with _ h;injection h with h _;cases h
 | succ g =>
   refine ⟨g,rfl,?_⟩
   by_cases h1 : l.length≤manyL xblank l
   ·rw [zf1 h1] at h
    injection h with h _
    exact .inl ⟨h1,h.symm⟩
   ·by_cases h2 : (firstX (l.drop (manyL xblank l))).2=0
    ·rw [zbp h1 h2] at h;injection h with _ h;injection h with h _;cases h
    ·by_cases h3 : n=128
     ·rw [zbq h1 h2 h3] at h;injection h with _ h;injection h with h _;cases h
     ·rw [zee h1 h2 h3] at h
      obtain ⟨r,p',h4,h5⟩:=ziH h
      exact .inr ⟨h1,h3,_,_,r,p',rfl,h2,h5,h4⟩
theorem zeq : ∀ (f : Nat) (l : List UInt8) (a n : Nat) (ts : List XTok) (p : Nat),lexX f l a n=(ts,0,p)→n≤128→(∀ t∈ts,GoodT t)∧n+ts.length≤128
 | 0,l,a,n,ts,p,h,_=>by rw [lexX] at h;injection h with _ h;injection h with h _;cases h
 | f+1,l,a,n,ts,p,h,hn=>by
   obtain ⟨g,hg,h1|⟨_,h128,k,z,r,p',h2,h3,rfl,h5⟩⟩:=zhy h
   ·obtain ⟨_,rfl⟩:=h1
    exact ⟨(fun t ht=>by cases ht),by simpa using hn⟩
   ·obtain rfl : f=g:=by omega
    have ih:=zeq f _ _ _ _ _ h5 (by omega)
    refine ⟨fun t ht=>?_,by rw [List.length_cons];omega⟩
    rcases List.mem_cons.1 ht with rfl|ht
    ·exact ⟨_,z,h2,h3,rfl,zhx⟩
    ·exact ih.1 t ht
def PlX (l : List UInt8) : Nat→List XTok→Prop
 | a,[]=>a≤l.length∧∀ j x,a≤j→l[j]?=some x→xblank x=true
 | a,t :: r=>a≤t.at_∧t.at_≤l.length∧(∀ j x,a≤j→j < t.at_→l[j]?=some x→xblank x=true)∧(saidX t).length≠0∧t.at_+(saidX t).length≤l.length∧(l.drop t.at_).take (saidX t).length=saidX t∧PlX l (t.at_+(saidX t).length) r
theorem zcK (l : List UInt8) : ∀ (f a n : Nat) (ts : List XTok) (p : Nat),a≤l.length→lexX f (l.drop a) a n=(ts,0,p)→PlX l a ts
 | 0,a,n,ts,p,_,h=>by rw [lexX] at h;injection h with _ h;injection h with h _;cases h
 | f+1,a,n,ts,p,ha,h=>by
   have hbl : ∀ j x,a≤j→j < a+manyL xblank (l.drop a)→l[j]?=some x→xblank x=true:=fun j x h1 h2 h3=>by
    refine za9 xblank (l.drop a) x (List.mem_of_getElem? (i:=j - a) ?_)
    rw [List.getElem?_take,if_pos (by omega),List.getElem?_drop,show a+(j - a)=j by omega]
    exact h3
   obtain ⟨g,hg,⟨h1,rfl⟩|⟨h1,_,k,z,r,p',h2,h3,rfl,h5⟩⟩:=zhy h
   ·refine ⟨ha,fun j x hj hx=>hbl j x hj ?_ hx⟩
    have:=(List.getElem?_eq_some_iff.1 hx).1
    rw [List.length_drop] at h1
    omega
   ·obtain rfl : f=g:=by omega
    have hle:=zcz ((l.drop a).drop (manyL xblank (l.drop a)))
    rw [h2,List.length_drop,List.length_drop] at hle
    rw [List.length_drop] at h1
    dsimp only at hle
    rw [List.drop_drop] at h2 h5 ⊢
    rw [List.drop_drop] at h5
    have hsaid:=GoodT.said (t:=⟨k,textX k ((l.drop (a+manyL xblank (l.drop a))).take z),a+manyL xblank (l.drop a)⟩) h2 h3 rfl
    have hlen : (saidX ⟨k,textX k ((l.drop (a+manyL xblank (l.drop a))).take z),a+manyL xblank (l.drop a)⟩).length=z:=by
     rw [hsaid,List.length_take,List.length_drop];omega
    refine ⟨Nat.le_add_right _ _,by dsimp only;omega,hbl,by rw [hlen];exact h3,by rw [hlen];dsimp only;omega,by rw [hlen,hsaid],?_⟩
    rw [hlen]
    simp only [← Nat.add_assoc] at h5
    exact zcK l f (a+manyL xblank (l.drop a)+z) _ _ _ (by omega) h5
end Go.Proofs.YtkmlfkbpcgkpaaaGreatDoor
