/- Queries in plain words: tokens that a text is made of, and how they are read. | A journal's files in plain words: their names and numbers. | Queries in plain words: the tokens of a query's text. | Queries in plain words: what stands ahead of what is wrong has nothing wrong ahead of its own end. | Queries in plain words: what is read of the tokens of an expression's text. -/
import Derived.Test.YtefcbgnckgapgaaM3
import Derived.Test.YtefcbgnckgapgaaL6x
import Derived.Lib.ItoaNum
import Derived.Lib.ParseIntBTie
import Derived.Lib.Strings
namespace Go.Proofs.Ytefcbgnckgapgaa
open Go.Lib
def saidB (k : Nat) (b : List UInt8) : List UInt8:=if k=3 then 39 :: (b++[39]) else b
structure Fits (k : Nat) (b r : List UInt8) : Prop where
 first : firstX (saidB k b++r)=(k,(saidB k b).length)
 len : (saidB k b).length≠0
 text : textX k (saidB k b)=b
 head : ∀ x,(saidB k b++r)[0]?=some x→xblank x=false
inductive Lx : List UInt8→List (Nat × List UInt8)→Prop
 | nil : Lx [] []
 | blank {l : List UInt8} {ts : List (Nat × List UInt8)} (h : Lx l ts) : Lx (32 :: l) ts
 | tok {r : List UInt8} {ts : List (Nat × List UInt8)} (k : Nat) (b : List UInt8) (hf : Fits k b r) (h : Lx r ts) : Lx (saidB k b++r) ((k,b) :: ts)
theorem Lx.head_blank {l : List UInt8} {ts : List (Nat × List UInt8)} (h : Lx (32 :: l) ts) : Lx l ts:=by
 generalize hm : (32 :: l)=m at h
 cases h with
 | nil=>cases hm
 | blank h =>
   injection hm with _ hm
   rw [hm]
   exact h
 | tok k b hf h =>
   have:=hf.head 32 (by rw [← hm];rfl)
   rw [xblank_32] at this
   cases this
theorem Lx.lex {l : List UInt8} {ts : List (Nat × List UInt8)} (h : Lx l ts) : ∀ (f a n : Nat),l.length < f→n+ts.length≤128→∃ us,lexX f l a n=(us,0,0)∧us.map bare=ts:=by
 induction h with
 | nil =>
   intro f a n hf _
   obtain ⟨g,rfl⟩ : ∃ g,f=g+1:=⟨f - 1,by omega⟩
   exact ⟨[],lexX_end (by simp),rfl⟩
 | blank h ih =>
   intro f a n hf hn
   rw [lexX_blank]
   exact ih f (a+1) n (by rw [List.length_cons] at hf;omega) hn
 | @tok r ts k b hf h ih =>
   intro f a n hlt hn
   obtain ⟨g,rfl⟩ : ∃ g,f=g+1:=⟨f - 1,by omega⟩
   rw [List.length_append] at hlt
   rw [List.length_cons] at hn
   have hl:=hf.len
   obtain ⟨us,h1,h2⟩:=ih g (a+0+(saidB k b).length) (n+1) (by omega) (by omega)
   have hm0 : manyL xblank (saidB k b++r)=0:=manyL_is xblank _ 0 (Nat.zero_le _) (fun x hx=>by simp at hx) hf.head
   refine ⟨⟨k,b,a+0⟩ :: us,?_,by rw [List.map_cons,h2];rfl⟩
   rw [lexX_more (by rw [hm0,List.length_append];omega) (by rw [hm0,List.drop_zero,hf.first];exact hl) (by omega),hm0,List.drop_zero,hf.first]
   dsimp only
   rw [List.drop_left' rfl,h1,List.take_left' rfl,hf.text]
   rfl
theorem Lx.long {l : List UInt8} {ts : List (Nat × List UInt8)} (h : Lx l ts) : ∀ (f a n : Nat),l.length < f→n≤128→128 < n+ts.length→(lexX f l a n).2.1=2:=by
 induction h with
 | nil =>
   intro f a n hf h1 h2
   simp at h2
   omega
 | blank h ih =>
   intro f a n hf hn h2
   rw [lexX_blank]
   exact ih f (a+1) n (by rw [List.length_cons] at hf;omega) hn h2
 | @tok r ts k b hf h ih =>
   intro f a n hlt hn h2
   obtain ⟨g,rfl⟩ : ∃ g,f=g+1:=⟨f - 1,by omega⟩
   rw [List.length_append] at hlt
   rw [List.length_cons] at h2
   have hl:=hf.len
   have hm0 : manyL xblank (saidB k b++r)=0:=manyL_is xblank _ 0 (Nat.zero_le _) (fun x hx=>by simp at hx) hf.head
   have c1 : ¬ (saidB k b++r).length≤manyL xblank (saidB k b++r):=by rw [hm0,List.length_append];omega
   have c2 : (firstX ((saidB k b++r).drop (manyL xblank (saidB k b++r)))).2≠0:=by rw [hm0,List.drop_zero,hf.first];exact hl
   by_cases h128 : n=128
   ·rw [lexX_many c1 c2 h128]
   ·have h3:=ih g (a+0+(saidB k b).length) (n+1) (by omega) (by omega) (by omega)
    rw [lexX_more c1 c2 h128,hm0,List.drop_zero,hf.first]
    dsimp only
    rw [List.drop_left' rfl]
    unfold consX
    rw [h3,if_neg (by decide)]
    exact h3
theorem Lx.one {l : List UInt8} {ts : List (Nat × List UInt8)} (h : Lx l ts) : ∀ {us : List (Nat × List UInt8)},Lx l us→ts=us:=by
 induction h with
 | nil =>
   intro us h2
   generalize hm : ([] : List UInt8)=m at h2
   cases h2 with
   | nil=>rfl
   | blank h=>cases hm
   | tok k b hf h =>
     have:=congrArg List.length hm
     rw [List.length_append] at this
     have h3:=hf.len
     simp only [List.length_nil] at this
     omega
 | blank h ih=>exact fun h2=>ih h2.head_blank
 | @tok r ts k b hf h ih =>
   intro us h2
   generalize hm : saidB k b++r=m at h2
   cases h2 with
   | nil =>
     have:=congrArg List.length hm
     rw [List.length_append] at this
     have h3:=hf.len
     simp only [List.length_nil] at this
     omega
   | blank h =>
     have:=hf.head 32 (by rw [hm];rfl)
     rw [xblank_32] at this
     cases this
   | @tok r' ts' k' b' hf' h' =>
     have h1:=hf.first
     rw [hm,hf'.first] at h1
     injection h1 with e1 e2
     subst e1
     have e3:=List.append_inj hm e2.symm
     have e4 : b=b':=by rw [← hf.text,← hf'.text,e3.1]
     rw [e4,ih (e3.2 ▸ h')]
/-! Which tokens fit. -/
theorem manyL_all {p : UInt8→Bool} {b r : List UInt8} (hb : ∀ c∈b,p c=true) (hr : ∀ x,r[0]?=some x→p x=false) : manyL p (b++r)=b.length :=
 manyL_is p _ _ (by rw [List.length_append];omega) (fun c hc=>by
  rw [List.take_left' rfl] at hc
  exact hb c hc) (fun c hc=>by
  rw [List.getElem?_append_right (Nat.le_refl _),Nat.sub_self] at hc
  exact hr c hc)
theorem fits_word {b r : List UInt8} (h0 : ∃ c t,b=c :: t∧xletter c=true) (hb : ∀ c∈b,xin c=true) (hl : b.length≤16) (hr : ∀ x,r[0]?=some x→xin x=false) : Fits 1 b r:=by
 obtain ⟨c,t,rfl,hc⟩:=h0
 have hs : saidB 1 (c :: t)=c :: t:=if_neg (by decide)
 refine ⟨?_,by rw [hs];simp,by rw [hs];exact if_neg (by decide),fun x hx=>?_⟩
 ·rw [hs]
  have hm:=manyL_all hb hr
  show firstC c (t++r)=_
  unfold firstC
  rw [if_pos hc]
  have hm' : manyL xin (c :: (t++r))=(c :: t).length:=hm
  rw [hm',if_neg (by omega)]
 ·rw [hs] at hx
  obtain rfl : c=x:=by simpa using hx
  unfold xletter at hc
  unfold xblank
  simp at hc ⊢
  omega
theorem fits_num {b r : List UInt8} (h0 : b≠[]) (hb : ∀ c∈b,xdigit c=true) (hn : rightN b=true) (hr : ∀ x,r[0]?=some x→xdigit x=false) : Fits 2 b r:=by
 cases b with
 | nil=>exact absurd rfl h0
 | cons c t =>
   have hs : saidB 2 (c :: t)=c :: t:=if_neg (by decide)
   have hc:=hb c List.mem_cons_self
   have hnl : xletter c=false:=by
    unfold xdigit at hc
    unfold xletter
    simp at hc ⊢
    omega
   refine ⟨?_,by rw [hs];simp,by rw [hs];exact if_neg (by decide),fun x hx=>?_⟩
   ·rw [hs]
    have hm:=manyL_all hb hr
    show firstC c (t++r)=_
    unfold firstC
    rw [hnl,if_neg (by decide),if_pos hc]
    have hm' : manyL xdigit (c :: (t++r))=(c :: t).length:=hm
    have ht : (c :: (t++r)).take (c :: t).length=c :: t:=List.take_left' (l₁:=c :: t) rfl
    rw [hm',ht,if_pos hn]
   ·rw [hs] at hx
    obtain rfl : c=x:=by simpa using hx
    unfold xdigit at hc
    unfold xblank
    simp at hc ⊢
    omega
theorem fits_quot {b r : List UInt8} (hb : ∀ c∈b,xquot c=true) (hl : b.length≤64) : Fits 3 b r:=by
 have hs : saidB 3 b=39 :: (b++[39]):=if_pos rfl
 have hm : manyL xquot (b++([39]++r))=b.length:=manyL_all hb (fun x hx=>by
  have : x=39:=by simpa using hx.symm
  rw [this]
  exact xquot_39)
 refine ⟨?_,by rw [hs];simp,?_,fun x hx=>?_⟩
 ·rw [hs]
  show firstC 39 ((b++[39])++r)=_
  rw [List.append_assoc]
  unfold firstC
  rw [if_neg (by decide),if_neg (by decide),if_pos (by decide),hm,if_neg]
  ·simp
   omega
  ·rintro (h|h|h)
   ·omega
   ·simp at h
   ·apply h
    rw [List.getElem?_append_right (Nat.le_refl _),Nat.sub_self]
    rfl
 ·rw [hs]
  unfold textX
  rw [if_pos rfl]
  simp
 ·rw [hs] at hx
  obtain rfl : 39=x:=by simpa using hx
  decide
theorem fits_two {c : UInt8} {r : List UInt8} (hc : c=33∨c=60∨c=62) : Fits 4 [c,61] r:=by
 have hs : saidB 4 [c,61]=[c,61]:=if_neg (by decide)
 refine ⟨?_,by rw [hs];simp,by rw [hs];exact if_neg (by decide),fun x hx=>?_⟩
 ·rw [hs]
  show firstC c (61 :: r)=_
  unfold firstC
  rcases hc with rfl|rfl|rfl <;> (rw [if_neg (by decide),if_neg (by decide),if_neg (by decide),if_pos ⟨rfl,by decide⟩];rfl)
 ·rw [hs] at hx
  obtain rfl : c=x:=by simpa using hx
  rcases hc with rfl|rfl|rfl <;> decide
theorem fits_sign {c : UInt8} {r : List UInt8} (hc : c∈signsL) (hr : ∀ x,r[0]?=some x→x≠61) : Fits 4 [c] r:=by
 have hs : saidB 4 [c]=[c]:=if_neg (by decide)
 have hc' : c=61∨c=60∨c=62∨c=43∨c=45∨c=40∨c=41∨c=46∨c=63:=by simpa [signsL] using hc
 refine ⟨?_,by rw [hs];simp,by rw [hs];exact if_neg (by decide),fun x hx=>?_⟩
 ·rw [hs]
  show firstC c r=_
  unfold firstC
  rw [if_neg (by rcases hc' with rfl|rfl|rfl|rfl|rfl|rfl|rfl|rfl|rfl <;> decide),if_neg (by rcases hc' with rfl|rfl|rfl|rfl|rfl|rfl|rfl|rfl|rfl <;> decide),if_neg (by rcases hc' with rfl|rfl|rfl|rfl|rfl|rfl|rfl|rfl|rfl <;> decide),if_neg (fun h=>hr 61 h.1 rfl),if_pos (by rcases hc' with rfl|rfl|rfl|rfl|rfl|rfl|rfl|rfl|rfl <;> decide)]
  rfl
 ·rw [hs] at hx
  obtain rfl : c=x:=by simpa using hx
  rcases hc' with rfl|rfl|rfl|rfl|rfl|rfl|rfl|rfl|rfl <;> decide
end Go.Proofs.Ytefcbgnckgapgaa
namespace Go.Proofs.Ytefcbgnckgapgaa
open Go.Lib
theorem dec_ne (u : Nat) : decDigits u≠[]:=fun e=>by
 have h:=decDigits_length u
 have:=nDigits_pos u
 rw [e] at h
 simp at h
 omega
theorem digit_toNat {d : Nat} (h : d < 10) : (UInt8.ofNat (48+d)).toNat=48+d:=by simp;omega
theorem dec_digits : ∀ (u : Nat),∀ c∈decDigits u,48≤c.toNat∧c.toNat≤57:=by
 intro u
 induction u using Nat.strongRecOn with
 | ind u ih =>
   intro c hc
   rw [decDigits] at hc
   split at hc
   ·rename_i h
    simp only [List.mem_singleton] at hc
    subst hc
    rw [digit_toNat h]
    omega
   ·rename_i h
    rcases List.mem_append.1 hc with hc|hc
    ·exact ih (u / 10) (by omega) c hc
    ·simp only [List.mem_singleton] at hc
     subst hc
     rw [digit_toNat (Nat.mod_lt _ (by omega))]
     have:=Nat.mod_lt u (y:=10) (by omega)
     omega
theorem parse_dec (u : Nat) (hu : u < 9223372036854775808) (r : List UInt8) : parseUint10 0 (decDigits u++r)=parseUint10 u r:=by
 induction u using Nat.strongRecOn generalizing r with
 | ind u ih =>
   rw [decDigits]
   split
   ·rename_i h
    rw [List.singleton_append,parseUint10]
    rw [digit_toNat h,if_pos (by omega),if_neg (by omega),if_neg (by omega)]
    congr 1
    omega
   ·rename_i h
    rw [List.append_assoc,ih (u / 10) (by omega) (by omega),List.singleton_append,parseUint10]
    have:=Nat.mod_lt u (y:=10) (by omega)
    rw [digit_toNat this,if_pos (by omega),if_neg (by omega),if_neg (by omega)]
    congr 1
    omega
theorem parse_itoa {n : Nat} (h : n < 9223372036854775808) : parseIntB 64 (decDigits n)=.ok (n : Int):=by
 have h1:=parse_dec n h []
 rw [List.append_nil] at h1
 rw [parseIntB_64]
 cases hd : decDigits n with
 | nil=>exact absurd hd (dec_ne n)
 | cons c r =>
   have hc:=dec_digits n c (by rw [hd];simp)
   unfold atoiAll
   dsimp only
   have h43 : ¬ (c.toNat=43∨c.toNat=45):=by omega
   have h45 : ¬ c.toNat=45:=by omega
   rw [if_neg h43]
   rw [hd] at h1
   have h2 : parseMag (c :: r)=.ok n:=by
    unfold parseMag
    rw [if_neg (by simp),h1]
    rfl
   rw [h2]
   dsimp only
   rw [if_neg (by omega),if_neg (by simp [h45]),if_neg h45]
def numName (mark : List UInt8) (n : Nat) : List UInt8:=mark++decDigits n
def numOf (mark nm : List UInt8) : Int :=
 match parseIntB 64 (trimPrefix nm mark) with
 | .ok v=>if 1≤v∧mark++itoa v=nm then v else 0
 | _=>0
theorem itoa_nat (n : Nat) : itoa (n : Int)=decDigits n:=by unfold itoa;rw [if_neg (by omega)];simp
theorem trim_name (mark x : List UInt8) : trimPrefix (mark++x) mark=x:=by
 unfold trimPrefix hasPrefix
 rw [if_pos (by simp)]
 simp
theorem numOf_name {mark : List UInt8} {n : Nat} (h1 : 1≤n) (h2 : n < 9223372036854775808) : numOf mark (numName mark n)=n:=by
 unfold numOf numName
 rw [trim_name,parse_itoa h2]
 dsimp only
 rw [if_pos ⟨by omega,by rw [itoa_nat]⟩]
theorem numOf_cases (mark nm : List UInt8) : numOf mark nm=0∨∃ n : Nat,1≤n∧n < 9223372036854775808∧numOf mark nm=n∧nm=numName mark n:=by
 unfold numOf
 cases hp : parseIntB 64 (trimPrefix nm mark) with
 | ok v =>
   dsimp only
   by_cases h : 1≤v∧mark++itoa v=nm
   ·rw [if_pos h]
    have hb:=parseIntB_bounds hp
    obtain ⟨n,rfl⟩ : ∃ n : Nat,v=n:=⟨v.toNat,by omega⟩
    refine Or.inr ⟨n,by omega,by have:=hb.2;simp at this;omega,rfl,?_⟩
    rw [← h.2,itoa_nat]
    rfl
   ·rw [if_neg h]
    exact Or.inl rfl
 | _=>exact Or.inl rfl
theorem dec_inj : ∀ {a b : Nat},decDigits a=decDigits b→a=b:=by
 intro a
 induction a using Nat.strongRecOn with
 | ind a ih =>
   intro b h
   rw [decDigits,decDigits.eq_def b] at h
   by_cases ha : a < 10
   ·rw [dif_pos ha] at h
    by_cases hb : b < 10
    ·rw [dif_pos hb] at h
     injection h with h
     have h2:=congrArg UInt8.toNat h
     rw [digit_toNat ha,digit_toNat hb] at h2
     omega
    ·rw [dif_neg hb] at h
     have h2:=congrArg List.length h
     simp at h2
     exact absurd h2 (dec_ne _)
   ·rw [dif_neg ha] at h
    by_cases hb : b < 10
    ·rw [dif_pos hb] at h
     have h2:=congrArg List.length h
     simp at h2
     exact absurd h2 (dec_ne _)
    ·rw [dif_neg hb] at h
     obtain ⟨h1,h2⟩:=List.append_inj' h rfl
     have h3:=ih (a / 10) (by omega) h1
     injection h2 with h2
     have h4:=congrArg UInt8.toNat h2
     have:=Nat.mod_lt a (y:=10) (by omega)
     have:=Nat.mod_lt b (y:=10) (by omega)
     rw [digit_toNat (by omega),digit_toNat (by omega)] at h4
     omega
theorem numName_inj {mark : List UInt8} {a b : Nat} (h : numName mark a=numName mark b) : a=b:=dec_inj (List.append_cancel_left h)
end Go.Proofs.Ytefcbgnckgapgaa
namespace Go.Proofs.Ytefcbgnckgapgaa
open Go.Lib
theorem Lx.word {b r : List UInt8} {ts : List (Nat × List UInt8)} (h0 : ∃ c t,b=c :: t∧xletter c=true) (hb : ∀ c∈b,xin c=true) (hl : b.length≤16) (hr : ∀ x,r[0]?=some x→xin x=false) (h : Lx r ts) : Lx (b++r) ((1,b) :: ts):=Lx.tok 1 b (fits_word h0 hb hl hr) h
theorem Lx.sign {c : UInt8} {r : List UInt8} {ts : List (Nat × List UInt8)} (hc : c∈signsL) (hr : ∀ x,r[0]?=some x→x≠61) (h : Lx r ts) : Lx (c :: r) ((4,[c]) :: ts):=Lx.tok 4 [c] (fits_sign hc hr) h
theorem Lx.two {c : UInt8} {r : List UInt8} {ts : List (Nat × List UInt8)} (hc : c=33∨c=60∨c=62) (h : Lx r ts) : Lx (c :: 61 :: r) ((4,[c,61]) :: ts):=Lx.tok 4 [c,61] (fits_two hc) h
theorem Lx.quot {b r : List UInt8} {ts : List (Nat × List UInt8)} (hb : ∀ c∈b,xquot c=true) (hl : b.length≤64) (h : Lx r ts) : Lx (39 :: (b++[39])++r) ((3,b) :: ts):=Lx.tok 3 b (fits_quot hb hl) h
theorem Lx.num {b r : List UInt8} {ts : List (Nat × List UInt8)} (h0 : b≠[]) (hb : ∀ c∈b,xdigit c=true) (hn : rightN b=true) (hr : ∀ x,r[0]?=some x→xdigit x=false) (h : Lx r ts) : Lx (b++r) ((2,b) :: ts):=Lx.tok 2 b (fits_num h0 hb hn hr) h
theorem letter_x (c : UInt8) : letterB c=xletter c:=by
 unfold letterB xletter
 exact Bool.decide_and _ _
theorem char_x (c : UInt8) : charB c=xin c:=by
 unfold charB xin
 rw [letter_x,Bool.or_comm (decide (c.toNat=95))]
 congr 2
 exact Bool.decide_and _ _
theorem name_word {b : List UInt8} (h : nameB b=true) : (∃ c t,b=c :: t∧xletter c=true)∧(∀ c∈b,xin c=true)∧b.length≤16:=by
 unfold nameB at h
 rw [Bool.and_eq_true] at h
 have h1:=h.1
 cases b with
 | nil=>cases h1
 | cons c t =>
   unfold wordB at h1
   simp only [Bool.and_eq_true,decide_eq_true_eq,List.all_eq_true] at h1
   obtain ⟨h2,h3,h4⟩:=h1
   have hx : xletter c=true:=(letter_x c).symm.trans h2
   refine ⟨⟨c,t,rfl,hx⟩,fun y hy=>?_,by rw [List.length_cons];omega⟩
   rcases List.mem_cons.1 hy with rfl|hy
   ·unfold xin
    rw [hx]
    rfl
   ·exact (char_x y).symm.trans (h4 y hy)
def EndsOk (r : List UInt8) : Prop:=∀ x,r[0]?=some x→x=32∨x=41
theorem EndsOk.xin {r : List UInt8} (h : EndsOk r) : ∀ x,r[0]?=some x→xin x=false:=fun x hx=>by
 rcases h x hx with rfl|rfl <;> decide
theorem EndsOk.dig {r : List UInt8} (h : EndsOk r) : ∀ x,r[0]?=some x→xdigit x=false:=fun x hx=>by
 rcases h x hx with rfl|rfl <;> decide
theorem EndsOk.eq {r : List UInt8} (h : EndsOk r) : ∀ x,r[0]?=some x→x≠61:=fun x hx=>by
 rcases h x hx with rfl|rfl <;> decide
def tokPV (v : PVal) : List (Nat × List UInt8):=if v.k=2 then [(3,v.s)] else if v.k=3 then [(1,if v.n=1 then bTrue else bFalse)] else if v.n < 0 then [(4,[45]),(2,decDigits v.n.natAbs)] else [(2,decDigits v.n.toNat)]
def tokX : Nat→PEx→List (Nat × List UInt8)
 | 0,_=>[]
 | d+1,.mk k v x f ks =>
   if k=1 then tokPV v
   else if k=2 then [(1,x),(4,[46]),(1,f)]
   else if k=3 then [(1,atL callsL k),(4,[40]),(1,x),(4,[41])]
   else if k=4∨k=5∨k=6 then [(1,atL callsL k),(4,[40]),(1,x),(4,[46]),(1,f),(4,[41])]
   else match ks with
    | [a,b]=>tokX d a++(4,atL sumsL k) :: (if b.k=7∨b.k=8 then (4,[40]) :: (tokX d b++[(4,[41])]) else tokX d b)
    | _=>[]
theorem exprTx_s (d : Nat) (k : Int) (v : PVal) (x f : List UInt8) (ks : List PEx) : exprTx (d+1) (.mk k v x f ks)=(if k=1 then valTx v
 else if k=2 then x++46 :: f
 else if k=3 then atL callsL k++40 :: (x++[41])
 else if k=4∨k=5∨k=6 then atL callsL k++40 :: (x++46 :: (f++[41]))
 else match ks with
  | [a,b]=>exprTx d a++32 :: (atL sumsL k++32 :: (if b.k=7∨b.k=8 then 40 :: (exprTx d b++[41]) else exprTx d b))
  | _=>[]):=rfl
theorem tokX_s (d : Nat) (k : Int) (v : PVal) (x f : List UInt8) (ks : List PEx) : tokX (d+1) (.mk k v x f ks)=(if k=1 then tokPV v
 else if k=2 then [(1,x),(4,[46]),(1,f)]
 else if k=3 then [(1,atL callsL k),(4,[40]),(1,x),(4,[41])]
 else if k=4∨k=5∨k=6 then [(1,atL callsL k),(4,[40]),(1,x),(4,[46]),(1,f),(4,[41])]
 else match ks with
  | [a,b]=>tokX d a++(4,atL sumsL k) :: (if b.k=7∨b.k=8 then (4,[40]) :: (tokX d b++[(4,[41])]) else tokX d b)
  | _=>[]):=rfl
theorem dec_first : ∀ (n : Nat),n≠0→∀ c,(decDigits n).head?=some c→c.toNat≠48:=fun n=>by
 induction n using Nat.strongRecOn with
 | ind n ih =>
   intro hn c hc
   rw [decDigits] at hc
   split at hc
   ·rename_i h
    have hc : UInt8.ofNat (48+n)=c:=by simpa using hc
    rw [← hc,digit_toNat h]
    omega
   ·rename_i h
    have h1 : n / 10≠0:=by omega
    refine ih (n / 10) (by omega) h1 c ?_
    cases hd : decDigits (n / 10) with
    | nil=>exact absurd hd (dec_ne _)
    | cons y r =>
      rw [hd] at hc
      simpa using hc
theorem dec_right {n : Nat} (h : n≤1099511627776) : rightN (decDigits n)=true:=by
 unfold rightN
 rw [parse_itoa (by omega)]
 dsimp only
 rw [Bool.and_eq_true,decide_eq_true_eq]
 refine ⟨by omega,?_⟩
 by_cases h0 : n=0
 ·subst h0
  rw [Bool.or_eq_true]
  right
  rw [decDigits]
  rfl
 ·rw [Bool.or_eq_true]
  left
  cases hd : (decDigits n).head? with
  | none=>rfl
  | some c =>
    have:=dec_first n h0 c hd
    simp
    exact this
theorem dec_xdigit (n : Nat) : ∀ c∈decDigits n,xdigit c=true:=fun c hc=>by
 have:=dec_digits n c hc
 unfold xdigit
 simp
 omega
theorem lx_val {v : PVal} (hr : rightB v=true) (hw : ∀ c∈v.s,inkB c=true) {r : List UInt8} {ts : List (Nat × List UInt8)} (he : EndsOk r) (h : Lx r ts) : Lx (valTx v++r) (tokPV v++ts):=by
 unfold rightB at hr
 unfold valTx tokPV
 by_cases h1 : v.k=1
 ·rw [if_pos h1,decide_eq_true_eq] at hr
  rw [if_neg (by omega),if_neg (by omega),if_neg (by omega),if_neg (by omega)]
  unfold itoa
  by_cases hn : v.n < 0
  ·rw [if_pos hn,if_pos hn]
   exact Lx.sign (by decide) (fun x hx=>by
    have hx' : (decDigits v.n.natAbs++r)[0]?=some x:=hx
    cases hd : decDigits v.n.natAbs with
    | nil=>exact absurd hd (dec_ne _)
    | cons y t =>
      rw [hd] at hx'
      obtain rfl : y=x:=by simpa using hx'
      have:=dec_digits v.n.natAbs y (by rw [hd];exact List.mem_cons_self)
      intro e
      rw [e] at this
      revert this
      decide) (Lx.num (dec_ne _) (dec_xdigit _) (dec_right (by omega)) he.dig h)
  ·rw [if_neg hn,if_neg hn]
   exact Lx.num (dec_ne _) (dec_xdigit _) (dec_right (by omega)) he.dig h
 ·rw [if_neg h1] at hr
  by_cases h2 : v.k=2
  ·rw [if_pos h2,decide_eq_true_eq] at hr
   rw [if_pos h2,if_pos h2]
   exact Lx.quot (fun c hc=>by
    have:=hw c hc
    unfold inkB at this
    unfold xquot
    simp at this ⊢
    omega) hr.2 h
  ·rw [if_neg h2] at hr
   by_cases h3 : v.k=3
   ·rw [if_neg h2,if_neg h2,if_pos h3,if_pos h3]
    by_cases hn : v.n=1
    ·rw [if_pos hn]
     exact Lx.word ⟨_,_,rfl,by decide⟩ (by decide) (by decide) he.xin h
    ·rw [if_neg hn]
     exact Lx.word ⟨_,_,rfl,by decide⟩ (by decide) (by decide) he.xin h
   ·rw [if_neg h3] at hr
    cases hr
theorem lx_name {b r : List UInt8} {ts : List (Nat × List UInt8)} (hb : nameB b=true) (hr : ∀ x,r[0]?=some x→xin x=false) (h : Lx r ts) : Lx (b++r) ((1,b) :: ts):=by
 obtain ⟨h1,h2,h3⟩:=name_word hb
 exact Lx.word h1 h2 h3 hr h
theorem not61 {c : UInt8} {r : List UInt8} (hc : c≠61) : ∀ x,(c :: r)[0]?=some x→x≠61:=fun x hx=>by
 obtain rfl : c=x:=by simpa using hx
 exact hc
theorem notin {c : UInt8} {r : List UInt8} (hc : xin c=false) : ∀ x,(c :: r)[0]?=some x→xin x=false:=fun x hx=>by
 obtain rfl : c=x:=by simpa using hx
 exact hc
theorem name_not61 {b r : List UInt8} (hb : nameB b=true) : ∀ x,(b++r)[0]?=some x→x≠61:=fun x hx=>by
 obtain ⟨⟨c,t,rfl,hc⟩,_⟩:=name_word hb
 obtain rfl : c=x:=by simpa using hx
 intro e
 rw [e] at hc
 revert hc
 decide
theorem expr_head : ∀ (d : Nat) (x : PEx) (r : List UInt8),rightX d x=true→∀ y,(exprTx d x++r)[0]?=some y→y≠61
 | 0,x,r,h,_,_=>by
   cases x
   rw [rightX] at h
   cases h
 | d+1,.mk k v x f ks,r,h,y,hy=>by
   by_cases h1 : k=1
   ·subst h1
    rw [rightX_one] at h
    rw [exprTx_s,if_pos rfl] at hy
    simp only [Bool.and_eq_true,decide_eq_true_eq] at h
    unfold valTx at hy
    split at hy
    ·obtain rfl : 39=y:=by simpa using hy
     decide
    ·split at hy
     ·split at hy
      ·obtain rfl : 116=y:=by simpa [bTrue] using hy
       decide
      ·obtain rfl : 102=y:=by simpa [bFalse] using hy
       decide
     ·unfold itoa at hy
      split at hy
      ·obtain rfl : 45=y:=by simpa using hy
       decide
      ·cases hd : decDigits v.n.toNat with
       | nil=>exact absurd hd (dec_ne _)
       | cons z t =>
         rw [hd] at hy
         obtain rfl : z=y:=by simpa using hy
         have:=dec_digits v.n.toNat z (by rw [hd];exact List.mem_cons_self)
         intro e
         rw [e] at this
         revert this
         decide
   ·by_cases h2 : k=2
    ·subst h2
     rw [rightX_field _ _ (.inl rfl)] at h
     simp only [Bool.and_eq_true] at h
     rw [exprTx_s,if_neg (by decide),if_pos rfl,List.append_assoc] at hy
     exact name_not61 h.2.1 y hy
    ·by_cases h3 : k=3
     ·subst h3
      rw [exprTx_s,if_neg (by decide),if_neg (by decide),if_pos rfl] at hy
      obtain rfl : 99=y:=by simpa [atL,callsL] using hy
      decide
     ·by_cases h4 : k=4∨k=5∨k=6
      ·rw [exprTx_s,if_neg h1,if_neg h2,if_neg h3,if_pos h4] at hy
       rcases h4 with rfl|rfl|rfl
       ·obtain rfl : 115=y:=by simpa [atL,callsL] using hy
        decide
       ·obtain rfl : 109=y:=by simpa [atL,callsL] using hy
        decide
       ·obtain rfl : 109=y:=by simpa [atL,callsL] using hy
        decide
      ·by_cases h7 : k=7∨k=8
       ·rw [rightX_two d k h7] at h
        rw [Bool.and_eq_true] at h
        by_cases hl : ks.length=2
        ·obtain ⟨a,b,rfl⟩:=two_of hl
         have h8 : rightX d a=true∧rightX d b=true:=by
          have:=h.2
          unfold twoB at this
          simpa using this
         rw [exprTx_s,if_neg h1,if_neg h2,if_neg h3,if_neg h4,List.append_assoc] at hy
         exact expr_head d a _ h8.1 y hy
        ·rw [twoB_no hl] at h
         cases h.2
       ·rw [rightX_none d k h1 h3 (by omega) h7] at h
        cases h
theorem lx_expr : ∀ (d : Nat) (x : PEx) (r : List UInt8) (ts : List (Nat × List UInt8)),rightX d x=true→EndsOk r→Lx r ts→Lx (exprTx d x++r) (tokX d x++ts)
 | 0,x,r,ts,h,_,_=>by
   cases x
   rw [rightX] at h
   cases h
 | d+1,.mk k v x f ks,r,ts,h,he,hl=>by
   by_cases h1 : k=1
   ·subst h1
    rw [rightX_one] at h
    simp only [Bool.and_eq_true,decide_eq_true_eq] at h
    rw [exprTx_s,if_pos rfl,tokX_s,if_pos rfl]
    have hw:=h.2
    unfold writeB at hw
    simp only [Bool.and_eq_true,List.all_eq_true] at hw
    exact lx_val hw.2 hw.1 he hl
   ·by_cases h2 : k=2
    ·subst h2
     rw [rightX_field _ _ (.inl rfl)] at h
     simp only [Bool.and_eq_true] at h
     rw [exprTx_s,if_neg (by decide),if_pos rfl,tokX_s,if_neg (by decide),if_pos rfl,List.append_assoc]
     exact lx_name h.2.1 (notin (by decide)) (Lx.sign (by decide) (name_not61 h.2.2) (lx_name h.2.2 he.xin hl))
    ·by_cases h3 : k=3
     ·subst h3
      rw [rightX_three] at h
      simp only [Bool.and_eq_true] at h
      rw [exprTx_s,if_neg (by decide),if_neg (by decide),if_pos rfl,tokX_s,if_neg (by decide),if_neg (by decide),if_pos rfl,List.append_assoc]
      refine Lx.word ⟨_,_,rfl,by decide⟩ (by decide) (by decide) (notin (by decide)) ?_
      show Lx (40 :: ((x++[41])++r)) _
      refine Lx.sign (by decide) (by rw [List.append_assoc];exact name_not61 h.2) ?_
      rw [List.append_assoc]
      exact lx_name h.2 (notin (by decide)) (Lx.sign (by decide) he.eq hl)
     ·by_cases h4 : k=4∨k=5∨k=6
      ·rw [rightX_field _ _ (.inr h4)] at h
       simp only [Bool.and_eq_true] at h
       rw [exprTx_s,if_neg h1,if_neg h2,if_neg h3,if_pos h4,tokX_s,if_neg h1,if_neg h2,if_neg h3,if_pos h4,List.append_assoc]
       have hrest : Lx (40 :: (x++46 :: (f++[41]))++r) ((4,[40]) :: (1,x) :: (4,[46]) :: (1,f) :: (4,[41]) :: ts):=by
        show Lx (40 :: ((x++46 :: (f++[41]))++r)) _
        refine Lx.sign (by decide) (by rw [List.append_assoc];exact name_not61 h.2.1) ?_
        rw [List.append_assoc]
        refine lx_name h.2.1 (notin (by decide)) ?_
        show Lx (46 :: ((f++[41])++r)) _
        refine Lx.sign (by decide) (by rw [List.append_assoc];exact name_not61 h.2.2) ?_
        rw [List.append_assoc]
        exact lx_name h.2.2 (notin (by decide)) (Lx.sign (by decide) he.eq hl)
       rcases h4 with rfl|rfl|rfl
       ·exact Lx.word ⟨_,_,rfl,by decide⟩ (by decide) (by decide) (notin (by decide)) hrest
       ·exact Lx.word ⟨_,_,rfl,by decide⟩ (by decide) (by decide) (notin (by decide)) hrest
       ·exact Lx.word ⟨_,_,rfl,by decide⟩ (by decide) (by decide) (notin (by decide)) hrest
      ·by_cases h7 : k=7∨k=8
       ·rw [rightX_two d k h7] at h
        rw [Bool.and_eq_true] at h
        by_cases hl2 : ks.length=2
        ·obtain ⟨a,b,rfl⟩:=two_of hl2
         have h8 : rightX d a=true∧rightX d b=true:=by
          have:=h.2
          unfold twoB at this
          simpa using this
         have hb : Lx ((if b.k=7∨b.k=8 then 40 :: (exprTx d b++[41]) else exprTx d b)++r) ((if b.k=7∨b.k=8 then (4,[40]) :: (tokX d b++[(4,[41])]) else tokX d b)++ts):=by
          split
          ·show Lx (40 :: ((exprTx d b++[41])++r)) ((4,[40]) :: ((tokX d b++[(4,[41])])++ts))
           rw [List.append_assoc,List.append_assoc]
           exact Lx.sign (by decide) (expr_head d b _ h8.2) (lx_expr d b _ _ h8.2 (fun x hx=>.inr (by simpa using hx.symm)) (Lx.sign (by decide) he.eq hl))
          ·exact lx_expr d b _ _ h8.2 he hl
         rw [exprTx_s,if_neg h1,if_neg h2,if_neg h3,if_neg h4,tokX_s,if_neg h1,if_neg h2,if_neg h3,if_neg h4,List.append_assoc,List.append_assoc]
         refine lx_expr d a _ _ h8.1 (fun x hx=>.inl (by simpa using hx.symm)) ?_
         rcases h7 with rfl|rfl
         ·exact Lx.blank (Lx.sign (c:=43) (by decide) (not61 (by decide)) (Lx.blank hb))
         ·exact Lx.blank (Lx.sign (c:=45) (by decide) (not61 (by decide)) (Lx.blank hb))
        ·rw [twoB_no hl2] at h
         cases h.2
       ·rw [rightX_none d k h1 h3 (by omega) h7] at h
        cases h
end Go.Proofs.Ytefcbgnckgapgaa
namespace Go.Proofs.Ytefcbgnckgapgaa
open Go.Lib
def Dn (P : Int→Prop) (s : RS) : Prop:=s.l=[]∧P s.wrong
section
variable {E : Nat} {P : Int→Prop} {s : RS}
theorem Dn.isT (h : Dn P s) {k : Nat} (hk : k≠0) (b : List UInt8) : isT E s k b=false:=by
 unfold Go.Proofs.Ytefcbgnckgapgaa.isT nextT
 rw [h.1]
 simp
 intro e
 exact absurd e.symm hk
theorem Dn.next (h : Dn P s) : nextT E s=⟨0,[],E⟩:=by unfold nextT;rw [h.1]
theorem Dn.take (h : Dn P s) {k : Nat} (hk : k≠0) (b : List UInt8) : takeT E s k b=(false,s):=by
 unfold takeT
 rw [h.isT hk,if_neg (by simp)]
theorem Dn.fail (hP : P (-1)→P E) (h : Dn P s) : Dn P (failT E s):=⟨rfl,by
 unfold failT
 (try dsimp only)
 rw [h.next]
 split
 ·rename_i e
  exact hP (e ▸ h.2)
 ·exact h.2⟩
theorem Dn.among (h : Dn P s) {k : Nat} (hk : k≠0) (l : List (List UInt8)) (n : Nat) : amongT E s k n l=(0,s):=amongT_none k l n (fun b _=>h.isT hk b)
end
structure Sim where
 E : Nat
 T : Nat
 P : Int
 r : List XTok
section
variable (X : Sim)
def Sync (s s' : RS) : Prop:=s'.l≠[]∧s.l=s'.l++X.r∧s.deep=s'.deep∧s.wrong=-1∧s'.wrong=-1∧∀ u∈s'.l,(u.at_ : Int)≠X.P
def Over (s : RS) : Prop:=Dn (fun x=>x=-1∨x=X.T) s
def Bad (s : RS) : Prop:=Dn (fun x=>x≠-1∧x≠X.P) s
def Rl {α : Type} (a a' : α × RS) : Prop:=(Sync X a.2 a'.2∧a.1=a'.1)∨Over X a'.2∨Bad X a.2
structure GoodR {α : Type} (m m' : Nat) (f f' : RS→α × RS) : Prop where
 sync : ∀ s s',s.l.length≤m→s'.l.length≤m'→Sync X s s'→Rl X (f s) (f' s')
 over : ∀ s,Over X s→Over X (f' s).2
 bad : ∀ s,Bad X s→Bad X (f s).2
 le : ∀ s,(f s).2.l.length≤s.l.length
 le' : ∀ s,(f' s).2.l.length≤s.l.length
end
section
variable {X : Sim} {α β : Type} {m m' : Nat}
theorem GoodR.low {f f' : RS→α × RS} (h : GoodR X m m' f f') {n n' : Nat} (hn : n≤m) (hn' : n'≤m') : GoodR X n n' f f':=⟨fun s s' h1 h2=>h.sync s s' (Nat.le_trans h1 hn) (Nat.le_trans h2 hn'),h.over,h.bad,h.le,h.le'⟩
theorem GoodR.bind {f f' : RS→α × RS} {g g' : α→RS→β × RS} (h : GoodR X m m' f f') (hg : ∀ a,GoodR X m m' (g a) (g' a)) : GoodR X m m' (fun s=>g (f s).1 (f s).2) (fun s=>g' (f' s).1 (f' s).2) :=
 ⟨fun s s' h1 h2 hs=>by
   rcases h.sync s s' h1 h2 hs with ⟨h3,h4⟩|h3|h3
   ·rw [h4]
    exact (hg _).sync _ _ (Nat.le_trans (h.le s) h1) (Nat.le_trans (h.le' s') h2) h3
   ·exact .inr (.inl ((hg _).over _ h3))
   ·exact .inr (.inr ((hg _).bad _ h3)),fun s hs=>(hg _).over _ (h.over s hs),fun s hs=>(hg _).bad _ (h.bad s hs),fun s=>Nat.le_trans ((hg _).le _) (h.le s),fun s=>Nat.le_trans ((hg _).le' _) (h.le' s)⟩
theorem GoodR.pure (a : α) : GoodR X m m' (fun s=>(a,s)) (fun s=>(a,s)):=⟨fun _ _ _ _ h=>.inl ⟨h,rfl⟩,fun _ h=>h,fun _ h=>h,fun _=>Nat.le_refl _,fun _=>Nat.le_refl _⟩
theorem GoodR.map {f f' : RS→α × RS} (h : GoodR X m m' f f') (p : α→β) : GoodR X m m' (fun s=>(p (f s).1,(f s).2)) (fun s=>(p (f' s).1,(f' s).2)):=h.bind (g:=fun a s=>(p a,s)) (g':=fun a s=>(p a,s)) (fun a=>GoodR.pure (p a))
theorem Sync.next {s s' : RS} (h : Sync X s s') (E E' : Nat) : nextT E s=nextT E' s':=by
 obtain ⟨h1,h2,_⟩:=h
 unfold nextT
 rw [h2]
 cases hl : s'.l with
 | nil=>exact absurd hl h1
 | cons u r=>rfl
theorem Sync.isT {s s' : RS} (h : Sync X s s') (E E' : Nat) (k : Nat) (b : List UInt8) : isT E s k b=isT E' s' k b:=by
 unfold Go.Proofs.Ytefcbgnckgapgaa.isT
 rw [h.next E E']
theorem Sync.tail {s s' : RS} (h : Sync X s s') : Rl X ((),(⟨s.l.tail,s.deep,s.wrong⟩ : RS)) ((),(⟨s'.l.tail,s'.deep,s'.wrong⟩ : RS)):=by
 obtain ⟨h1,h2,h3,h4,h5,h6⟩:=h
 cases hl : s'.l with
 | nil=>exact absurd hl h1
 | cons u r =>
   by_cases hr : r=[]
   ·exact .inr (.inl ⟨hr,.inl h5⟩)
   ·refine .inl ⟨⟨hr,?_,h3,h4,h5,fun v hv=>h6 v (by rw [hl];exact List.mem_cons_of_mem _ hv)⟩,rfl⟩
    show s.l.tail=_
    rw [h2,hl]
    rfl
theorem Rl.val {a a' : RS} (h : Rl X ((),a) ((),a')) {x x' : α} (hx : x=x') : Rl X (x,a) (x',a'):=h.imp (fun h=>⟨h.1,hx⟩) id
theorem Sync.fail {s s' : RS} (h : Sync X s s') : Bad X (failT X.E s):=by
 obtain ⟨h1,h2,h3,h4,h5,h6⟩:=h
 refine ⟨rfl,?_⟩
 unfold failT nextT
 (try dsimp only)
 rw [h4,if_pos rfl,h2]
 cases hl : s'.l with
 | nil=>exact absurd hl h1
 | cons u r =>
   have:=h6 u (by rw [hl];exact List.mem_cons_self)
   dsimp only [List.cons_append]
   exact ⟨by omega,this⟩
theorem over_fail {s : RS} (h : Over X s) : Over X (failT X.T s):=Dn.fail (fun _=>.inr rfl) h
theorem bad_fail {s : RS} (h : Bad X s) : Bad X (failT X.E s):=Dn.fail (fun h=>absurd rfl h.1) h
theorem failG (a : α) : GoodR X m m' (fun s=>(a,failT X.E s)) (fun s=>(a,failT X.T s)):=⟨fun _ _ _ _ h=>.inr (.inr h.fail),fun _ h=>over_fail h,fun _ h=>bad_fail h,fun _=>failT_le,fun _=>failT_le⟩
theorem takeG {k : Nat} (hk : k≠0) (b : List UInt8) : GoodR X m m' (fun s=>takeT X.E s k b) (fun s=>takeT X.T s k b):=⟨fun s s' _ _ h=>by
 unfold takeT
 rw [h.isT X.E X.T]
 split
 ·exact h.tail.val rfl
 ·exact .inl ⟨h,rfl⟩,fun s h=>by rw [Dn.take h hk];exact h,fun s h=>by rw [Dn.take h hk];exact h,fun s=>takeT_le k b,fun s=>takeT_le k b⟩
theorem GoodR.ite {f f' g g' : RS→α × RS} {c c' : RS→Bool} (hc : ∀ s s',Sync X s s'→c s=c' s') (hf : GoodR X m m' f f') (hg : GoodR X m m' g g') : GoodR X m m' (fun s=>if c s then f s else g s) (fun s=>if c' s then f' s else g' s):=⟨fun s s' h1 h2 h=>by
 (try dsimp only)
 rw [hc s s' h]
 split
 ·exact hf.sync s s' h1 h2 h
 ·exact hg.sync s s' h1 h2 h,fun s h=>by
 (try dsimp only)
 split
 ·exact hf.over s h
 ·exact hg.over s h,fun s h=>by
 (try dsimp only)
 split
 ·exact hf.bad s h
 ·exact hg.bad s h,fun s=>by
 (try dsimp only)
 split
 ·exact hf.le s
 ·exact hg.le s,fun s=>by
 (try dsimp only)
 split
 ·exact hf.le' s
 ·exact hg.le' s⟩
theorem GoodR.iteP {f f' g g' : RS→α × RS} {c c' : RS→Prop} [∀ s,Decidable (c s)] [∀ s,Decidable (c' s)] (hc : ∀ s s',Sync X s s'→(c s ↔ c' s')) (hf : GoodR X m m' f f') (hg : GoodR X m m' g g') : GoodR X m m' (fun s=>if c s then f s else g s) (fun s=>if c' s then f' s else g' s):=by
 have h:=GoodR.ite (c:=fun s=>decide (c s)) (c':=fun s=>decide (c' s)) (fun s s' h=>by simp only [hc s s' h]) hf hg
 simpa only [decide_eq_true_eq] using h
theorem needG {k : Nat} (hk : k≠0) (b : List UInt8) : GoodR X m m' (fun s=>((),needT X.E s k b)) (fun s=>((),needT X.T s k b)):=by
 have h:=(takeG (X:=X) (m:=m) (m':=m') hk b).bind (g:=fun z s=>((),if z then s else failT X.E s)) (g':=fun z s=>((),if z then s else failT X.T s)) (fun z=>by
  cases z with
  | true=>exact GoodR.pure ()
  | false=>exact failG ())
 exact h
theorem ofG (k : Nat) (hk : k≠0) : GoodR X m m' (fun s=>ofT X.E s k) (fun s=>ofT X.T s k):=by
 refine ⟨fun s s' _ _ h=>?_,fun s h=>?_,fun s h=>?_,fun s=>ofT_le k,fun s=>ofT_le k⟩
 ·unfold ofT
  rw [h.next X.E X.T]
  split
  ·exact h.tail.val rfl
  ·exact .inr (.inr h.fail)
 ·unfold ofT
  rw [Dn.next h,if_neg (by exact fun e=>hk e.symm)]
  exact over_fail h
 ·unfold ofT
  rw [Dn.next h,if_neg (by exact fun e=>hk e.symm)]
  exact bad_fail h
theorem numberG : GoodR X m m' (fun s=>numberT X.E s) (fun s=>numberT X.T s):=(ofG 2 (by decide)).map numZ
theorem nameG : GoodR X m m' (fun s=>nameT X.E s) (fun s=>nameT X.T s):=by
 have h:=(GoodR.ite (X:=X) (m:=m) (m':=m') (c:=fun s=>keyB (nextT X.E s).b) (c':=fun s=>keyB (nextT X.T s).b) (fun s s' h=>by rw [h.next X.E X.T]) (failG ()) (GoodR.pure ())).bind (g:=fun _ s=>ofT X.E s 1) (g':=fun _ s=>ofT X.T s 1) (fun _=>ofG 1 (by decide))
 refine ⟨fun s s' h1 h2 hs=>?_,fun s hs=>?_,fun s hs=>?_,fun s=>nameT_le,fun s=>nameT_le⟩
 ·have:=h.sync s s' h1 h2 hs
  unfold nameT
  revert this
  (try dsimp only)
  cases keyB (nextT X.E s).b <;> cases keyB (nextT X.T s').b <;> exact id
 ·have:=h.over s hs
  unfold nameT
  revert this
  (try dsimp only)
  cases keyB (nextT X.T s).b <;> exact id
 ·have:=h.bad s hs
  unfold nameT
  revert this
  (try dsimp only)
  cases keyB (nextT X.E s).b <;> exact id
theorem amongG {k : Nat} (hk : k≠0) : ∀ (l : List (List UInt8)) (n : Nat),GoodR X m m' (fun s=>amongT X.E s k n l) (fun s=>amongT X.T s k n l)
 | [],_=>GoodR.pure 0
 | b :: l,n=>GoodR.ite (c:=fun s=>isT X.E s k b) (c':=fun s=>isT X.T s k b) (fun _ _ h=>h.isT _ _ _ _) ((takeG hk b).map fun _=>n) (amongG hk l (n+1))
theorem chooseG {k : Nat} (hk : k≠0) (l : List (List UInt8)) : GoodR X m m' (fun s=>chooseT X.E s k l) (fun s=>chooseT X.T s k l):=by
 have h:=(amongG (X:=X) (m:=m) (m':=m') hk l 0).bind (g:=fun n s=>if n=0 then (0,failT X.E s) else (n,s)) (g':=fun n s=>if n=0 then (0,failT X.T s) else (n,s)) (fun n=>by
  by_cases hn : n=0
  ·simp only [if_pos hn]
   exact failG 0
  ·simp only [if_neg hn]
   exact GoodR.pure n)
 exact h
theorem fieldG (k : Int) : GoodR X m m' (fun s=>fieldT X.E s k) (fun s=>fieldT X.T s k) :=
 nameG.bind (g:=fun a s=>(PEx.mk k noV a (nameT X.E (needT X.E s 4 [46])).1 [],(nameT X.E (needT X.E s 4 [46])).2)) (g':=fun a s=>(PEx.mk k noV a (nameT X.T (needT X.T s 4 [46])).1 [],(nameT X.T (needT X.T s 4 [46])).2))
  fun a=>(needG (by decide) [46]).bind (g:=fun _ s=>(PEx.mk k noV a (nameT X.E s).1 [],(nameT X.E s).2)) (g':=fun _ s=>(PEx.mk k noV a (nameT X.T s).1 [],(nameT X.T s).2)) fun _=>nameG.map fun b=>PEx.mk k noV a b []
theorem callG (k : Int) : GoodR X m m' (fun s=>callT X.E s k) (fun s=>callT X.T s k):=by
 by_cases hk : k=3
 ·subst hk
  exact (needG (by decide) [40]).bind (g:=fun _ s=>(PEx.mk 3 noV (nameT X.E s).1 [] [],needT X.E (nameT X.E s).2 4 [41])) (g':=fun _ s=>(PEx.mk 3 noV (nameT X.T s).1 [] [],needT X.T (nameT X.T s).2 4 [41]))
   fun _=>nameG.bind (g:=fun a s=>(PEx.mk 3 noV a [] [],needT X.E s 4 [41])) (g':=fun a s=>(PEx.mk 3 noV a [] [],needT X.T s 4 [41])) fun a=>(needG (by decide) [41]).map fun _=>PEx.mk 3 noV a [] []
 ·have h:=(needG (X:=X) (m:=m) (m':=m') (k:=4) (by decide) [40]).bind (g:=fun _ s=>((fieldT X.E s k).1,needT X.E (fieldT X.E s k).2 4 [41])) (g':=fun _ s=>((fieldT X.T s k).1,needT X.T (fieldT X.T s k).2 4 [41]))
   fun _=>(fieldG k).bind (g:=fun a s=>(a,needT X.E s 4 [41])) (g':=fun a s=>(a,needT X.T s 4 [41])) fun a=>(needG (by decide) [41]).map fun _=>a
  have e : ∀ (E : Nat) (s : RS),callT E s k=((fieldT E (needT E s 4 [40]) k).1,needT E (fieldT E (needT E s 4 [40]) k).2 4 [41]):=fun E s=>by unfold callT;simp only [if_neg hk]
  simp only [e]
  exact h
def valP (E : Nat) (s : RS) : (PVal × Bool) × RS :=
 if (nextT E s).k=2 then ((⟨1,(numberT E s).1,[]⟩,true),(numberT E s).2)
 else if isT E s 4 [45]=true then ((⟨1,- (numberT E (takeT E s 4 [45]).2).1,[]⟩,true),(numberT E (takeT E s 4 [45]).2).2)
 else if (nextT E s).k=3 then ((⟨2,0,(ofT E s 3).1⟩,true),(ofT E s 3).2)
 else if isT E s 1 bFalse=true then ((⟨3,0,[]⟩,true),(takeT E s 1 bFalse).2)
 else if isT E s 1 bTrue=true then ((⟨3,1,[]⟩,true),(takeT E s 1 bTrue).2)
 else ((noV,false),s)
theorem valP_eq (E : Nat) (s : RS) : valP E s=(((valT E s).1,(valT E s).2.1),(valT E s).2.2):=by
 unfold valP valT
 split
 ·rfl
 ·split
  ·rfl
  ·split
   ·rfl
   ·split
    ·rfl
    ·split <;> rfl
theorem valG : GoodR X m m' (fun s=>valP X.E s) (fun s=>valP X.T s) :=
 GoodR.iteP (c:=fun s=>(nextT X.E s).k=2) (c':=fun s=>(nextT X.T s).k=2) (fun s s' h=>by rw [h.next X.E X.T]) (numberG.map fun n=>((⟨1,n,[]⟩ : PVal),true))
  (GoodR.iteP (c:=fun s=>isT X.E s 4 [45]=true) (c':=fun s=>isT X.T s 4 [45]=true) (fun s s' h=>by rw [h.isT X.E X.T])
    ((takeG (k:=4) (by decide) [45]).bind (g:=fun _ s=>(((⟨1,- (numberT X.E s).1,[]⟩ : PVal),true),(numberT X.E s).2)) (g':=fun _ s=>(((⟨1,- (numberT X.T s).1,[]⟩ : PVal),true),(numberT X.T s).2)) fun _=>numberG.map fun n=>((⟨1,- n,[]⟩ : PVal),true))
    (GoodR.iteP (c:=fun s=>(nextT X.E s).k=3) (c':=fun s=>(nextT X.T s).k=3) (fun s s' h=>by rw [h.next X.E X.T]) ((ofG 3 (by decide)).map fun b=>((⟨2,0,b⟩ : PVal),true))
      (GoodR.iteP (c:=fun s=>isT X.E s 1 bFalse=true) (c':=fun s=>isT X.T s 1 bFalse=true) (fun s s' h=>by rw [h.isT X.E X.T]) ((takeG (k:=1) (by decide) bFalse).map fun _=>((⟨3,0,[]⟩ : PVal),true))
        (GoodR.iteP (c:=fun s=>isT X.E s 1 bTrue=true) (c':=fun s=>isT X.T s 1 bTrue=true) (fun s s' h=>by rw [h.isT X.E X.T]) ((takeG (k:=1) (by decide) bTrue).map fun _=>((⟨3,1,[]⟩ : PVal),true)) (GoodR.pure (noV,false))))))
theorem sums_over {tm : RS→PEx × RS} (_ : ∀ s,Over X s→Over X (tm s).2) : ∀ (n : Nat) (x : PEx) (s : RS),Over X s→Over X (sumsT X.T tm n x s).2
 | 0,x,s,h=>h
 | n+1,x,s,h=>by
   rw [sumsT,Dn.among h (by decide),if_pos rfl]
   exact h
theorem sums_bad {tm : RS→PEx × RS} (_ : ∀ s,Bad X s→Bad X (tm s).2) : ∀ (n : Nat) (x : PEx) (s : RS),Bad X s→Bad X (sumsT X.E tm n x s).2
 | 0,x,s,h=>h
 | n+1,x,s,h=>by
   rw [sumsT,Dn.among h (by decide),if_pos rfl]
   exact h
theorem sumsG {tm tm' : RS→PEx × RS} {M M' : Nat} (ht : GoodR X M M' tm tm') : ∀ (m' m : Nat) (x : PEx),m≤M→m'≤M'→GoodR X m m' (fun s=>sumsT X.E tm m x s) (fun s=>sumsT X.T tm' m' x s):=fun m'=>by
 induction m' with
 | zero=>exact fun m x _ _=>⟨fun s s' _ h2 h=>absurd (List.eq_nil_of_length_eq_zero (Nat.le_zero.1 h2)) h.1,fun s h=>sums_over ht.over _ _ _ h,fun s h=>sums_bad ht.bad _ _ _ h,fun s=>sumsT_le ht.le _ _ _,fun s=>sumsT_le ht.le' _ _ _⟩
 | succ m' ih =>
   intro m x hM hM'
   refine ⟨fun s s' h1 h2 h=>?_,fun s h=>sums_over ht.over _ _ _ h,fun s h=>sums_bad ht.bad _ _ _ h,fun s=>sumsT_le ht.le _ _ _,fun s=>sumsT_le ht.le' _ _ _⟩
   cases m with
   | zero =>
     have : s.l=[]:=List.eq_nil_of_length_eq_zero (by omega)
     rw [h.2.1] at this
     exact absurd (List.append_eq_nil_iff.1 this).1 h.1
   | succ m =>
     (try dsimp only)
     rw [sumsT,sumsT]
     have ha:=(amongG (X:=X) (m:=m+1) (m':=m'+1) (k:=4) (by decide) sumsL 0).sync s s' h1 h2 h
     rcases ha with ⟨h3,h4⟩|h3|h3
     ·(try dsimp only at h3 h4)
      rw [h4]
      split
      ·exact .inl ⟨h3,rfl⟩
      ·rename_i hn
       have l1:=amongT_nz (E:=X.E) (s:=s) (k:=4) (by decide) (l:=sumsL) (n:=0) (by rw [h4];exact hn)
       have l2:=amongT_nz (E:=X.T) (s:=s') (k:=4) (by decide) (l:=sumsL) (n:=0) hn
       have hb:=(ht.low (n:=m) (n':=m') (by omega) (by omega)).bind (g:=fun a s=>sumsT X.E tm m (.mk ((amongT X.T s' 4 0 sumsL).1 : Int) noV [] [] [x,a]) s) (g':=fun a s=>sumsT X.T tm' m' (.mk ((amongT X.T s' 4 0 sumsL).1 : Int) noV [] [] [x,a]) s) (fun a=>ih m _ (by omega) (by omega))
       exact hb.sync _ _ (by omega) (by omega) h3
     ·refine .inr (.inl ?_)
      split
      ·exact h3
      ·exact sums_over ht.over _ _ _ (ht.over _ h3)
     ·refine .inr (.inr ?_)
      split
      ·exact h3
      ·exact sums_bad ht.bad _ _ _ (ht.bad _ h3)
theorem exprG {tm tm' : RS→PEx × RS} (ht : GoodR X m m' tm tm') : GoodR X m m' (fun s=>exprT X.E tm m s) (fun s=>exprT X.T tm' m' s) :=
 ht.bind (g:=fun a s=>sumsT X.E tm m a s) (g':=fun a s=>sumsT X.T tm' m' a s) (fun a=>sumsG ht m' m a (Nat.le_refl _) (Nat.le_refl _))
theorem deepG (f : Nat→Nat) : GoodR X m m' (fun s=>((),(⟨s.l,f s.deep,s.wrong⟩ : RS))) (fun s=>((),(⟨s.l,f s.deep,s.wrong⟩ : RS))):=⟨fun s s' _ _ h=>.inl ⟨⟨h.1,h.2.1,by rw [h.2.2.1],h.2.2.2⟩,rfl⟩,fun s h=>h,fun s h=>h,fun s=>Nat.le_refl _,fun s=>Nat.le_refl _⟩
def innerR (E : Nat) (tm : RS→PEx × RS) (n : Nat) (s : RS) : PEx × RS :=
 ((exprT E tm n ⟨s.l,s.deep+1,s.wrong⟩).1,needT E ⟨(exprT E tm n ⟨s.l,s.deep+1,s.wrong⟩).2.l,(exprT E tm n ⟨s.l,s.deep+1,s.wrong⟩).2.deep - 1,(exprT E tm n ⟨s.l,s.deep+1,s.wrong⟩).2.wrong⟩ 4 [41])
theorem innerRG {tm tm' : RS→PEx × RS} (ht : GoodR X m m' tm tm') : GoodR X m m' (fun s=>innerR X.E tm m s) (fun s=>innerR X.T tm' m' s) :=
 (deepG (·+1)).bind (g:=fun _ s=>((exprT X.E tm m s).1,needT X.E ⟨(exprT X.E tm m s).2.l,(exprT X.E tm m s).2.deep - 1,(exprT X.E tm m s).2.wrong⟩ 4 [41])) (g':=fun _ s=>((exprT X.T tm' m' s).1,needT X.T ⟨(exprT X.T tm' m' s).2.l,(exprT X.T tm' m' s).2.deep - 1,(exprT X.T tm' m' s).2.wrong⟩ 4 [41]))
   fun _=>(exprG ht).bind (g:=fun a s=>(a,needT X.E ⟨s.l,s.deep - 1,s.wrong⟩ 4 [41])) (g':=fun a s=>(a,needT X.T ⟨s.l,s.deep - 1,s.wrong⟩ 4 [41]))
    fun a=>(deepG (· - 1)).bind (g:=fun _ s=>(a,needT X.E s 4 [41])) (g':=fun _ s=>(a,needT X.T s 4 [41])) fun _=>(needG (by decide) [41]).map fun _=>a
theorem innerT_eq (E : Nat) (tm : RS→PEx × RS) (n : Nat) (s : RS) : innerT E tm n s=innerR E tm n (needT E (if s.deep=6 then failT E s else s) 4 [40]):=rfl
theorem inner_over {tm : RS→PEx × RS} (hd : ∀ s,Over X s→Over X (tm s).2) (n : Nat) {s : RS} (h : Over X s) : Over X (innerR X.T tm n s).2:=by
 have h1 : Over X (⟨s.l,s.deep+1,s.wrong⟩ : RS):=h
 have h2 : Over X (exprT X.T tm n ⟨s.l,s.deep+1,s.wrong⟩).2:=sums_over hd _ _ _ (hd _ h1)
 exact (needG (X:=X) (m:=0) (m':=0) (k:=4) (by decide) [41]).over _ (show Over X (⟨_,_,_⟩ : RS) from h2)
theorem inner_bad {tm : RS→PEx × RS} (hd : ∀ s,Bad X s→Bad X (tm s).2) (n : Nat) {s : RS} (h : Bad X s) : Bad X (innerR X.E tm n s).2:=by
 have h1 : Bad X (⟨s.l,s.deep+1,s.wrong⟩ : RS):=h
 have h2 : Bad X (exprT X.E tm n ⟨s.l,s.deep+1,s.wrong⟩).2:=sums_bad hd _ _ _ (hd _ h1)
 exact (needG (X:=X) (m:=0) (m':=0) (k:=4) (by decide) [41]).bad _ (show Bad X (⟨_,_,_⟩ : RS) from h2)
theorem termT_eq (E n : Nat) (s : RS) : termT E (n+1) s =
 if (valP E s).1.2=true then (.mk 1 (valP E s).1.1 [] [] [],(valP E s).2)
 else if isT E s 4 [40]=true then innerT E (termT E n) n s
 else if (amongT E s 1 0 callsL).1=0 then fieldT E (amongT E s 1 0 callsL).2 2
 else callT E (amongT E s 1 0 callsL).2 (amongT E s 1 0 callsL).1:=by
 rw [termT,valP_eq]
theorem term_over : ∀ (n : Nat) (s : RS),Over X s→Over X (termT X.T n s).2
 | 0,s,h=>h
 | n+1,s,h=>by
   have hv:=(valG (X:=X) (m:=0) (m':=0)).over s h
   rw [termT_eq]
   split
   ·exact hv
   ·rw [Dn.isT h (by decide),if_neg (by simp),Dn.among h (by decide),if_pos rfl]
    exact (fieldG (X:=X) (m:=0) (m':=0) 2).over s h
theorem term_bad : ∀ (n : Nat) (s : RS),Bad X s→Bad X (termT X.E n s).2
 | 0,s,h=>h
 | n+1,s,h=>by
   have hv:=(valG (X:=X) (m:=0) (m':=0)).bad s h
   rw [termT_eq]
   split
   ·exact hv
   ·rw [Dn.isT h (by decide),if_neg (by simp),Dn.among h (by decide),if_pos rfl]
    exact (fieldG (X:=X) (m:=0) (m':=0) 2).bad s h
theorem valP_no {E : Nat} {s : RS} (h : ¬ (valP E s).1.2=true) : (valP E s).2=s:=by
 unfold valP at h ⊢
 split at h
 ·exact absurd rfl h
 ·rename_i h1
  split at h
  ·exact absurd rfl h
  ·rename_i h2
   split at h
   ·exact absurd rfl h
   ·rename_i h3
    split at h
    ·exact absurd rfl h
    ·rename_i h4
     split at h
     ·exact absurd rfl h
     ·rename_i h5
      rw [if_neg h1,if_neg h2,if_neg h3,if_neg h4,if_neg h5]
def valF (E : Nat) (s : RS) : Bool:=decide ((nextT E s).k=2) || (isT E s 4 [45] || (decide ((nextT E s).k=3) || (isT E s 1 bFalse || isT E s 1 bTrue)))
theorem valP_flag (E : Nat) (s : RS) : (valP E s).1.2=valF E s:=by
 unfold valP valF
 split
 ·rename_i h
  rw [decide_eq_true h]
  rfl
 ·rename_i h
  rw [decide_eq_false h,Bool.false_or]
  split
  ·rename_i h
   rw [h]
   rfl
  ·rename_i h
   rw [Bool.not_eq_true] at h
   rw [h,Bool.false_or]
   split
   ·rename_i h
    rw [decide_eq_true h]
    rfl
   ·rename_i h
    rw [decide_eq_false h,Bool.false_or]
    split
    ·rename_i h
     rw [h]
     rfl
    ·rename_i h
     rw [Bool.not_eq_true] at h
     rw [h,Bool.false_or]
     split
     ·rename_i h
      rw [h]
     ·rename_i h
      rw [Bool.not_eq_true] at h
      rw [h]
theorem Sync.flag {s s' : RS} (h : Sync X s s') : (valP X.E s).1.2=(valP X.T s').1.2:=by
 rw [valP_flag,valP_flag]
 unfold valF
 rw [h.next X.E X.T,h.isT X.E X.T,h.isT X.E X.T,h.isT X.E X.T]
theorem termG : ∀ (m' m : Nat),GoodR X m m' (fun s=>termT X.E m s) (fun s=>termT X.T m' s):=fun m'=>by
 induction m' with
 | zero=>exact fun m=>⟨fun s s' _ h2 h=>absurd (List.eq_nil_of_length_eq_zero (Nat.le_zero.1 h2)) h.1,fun s h=>term_over _ _ h,fun s h=>term_bad _ _ h,fun s=>termT_le _ _,fun s=>termT_le _ _⟩
 | succ m' ih =>
   intro m
   refine ⟨fun s s' h1 h2 h=>?_,fun s h=>term_over _ _ h,fun s h=>term_bad _ _ h,fun s=>termT_le _ _,fun s=>termT_le _ _⟩
   cases m with
   | zero =>
     have : s.l=[]:=List.eq_nil_of_length_eq_zero (by omega)
     rw [h.2.1] at this
     exact absurd (List.append_eq_nil_iff.1 this).1 h.1
   | succ m =>
     (try dsimp only)
     rw [termT_eq,termT_eq]
     have hv:=(valG (X:=X) (m:=m+1) (m':=m'+1)).sync s s' h1 h2 h
     (try dsimp only at hv)
     have hfl:=h.flag
     by_cases hc : (valP X.E s).1.2=true
     ·rw [if_pos hc,if_pos (by rw [← hfl];exact hc)]
      rcases hv with ⟨h3,h4⟩|h3|h3
      ·exact .inl ⟨h3,by rw [h4]⟩
      ·exact .inr (.inl h3)
      ·exact .inr (.inr h3)
     ·rw [if_neg hc]
      have hc' : ¬ (valP X.T s').1.2=true:=by rw [← hfl];exact hc
      rw [if_neg hc',h.isT X.E X.T]
      clear hv hc hc' hfl
      by_cases hb : isT X.T s' 4 [40]=true
      ·rw [if_pos hb,if_pos hb,innerT_eq,innerT_eq]
       by_cases hd : s.deep=6
       ·refine .inr (.inr (inner_bad (term_bad m) m ?_))
        rw [if_pos hd]
        exact (needG (X:=X) (m:=0) (m':=0) (k:=4) (by decide) [40]).bad _ h.fail
       ·rw [if_neg hd,if_neg (by rw [← h.2.2.1];exact hd)]
        have hn:=(needG (X:=X) (m:=m+1) (m':=m'+1) (k:=4) (by decide) [40]).sync s s' h1 h2 h
        have e1 : needT X.E s 4 [40]=(takeT X.E s 4 [40]).2:=by unfold needT takeT;rw [h.isT X.E X.T,if_pos hb];rfl
        have e2 : needT X.T s' 4 [40]=(takeT X.T s' 4 [40]).2:=by unfold needT takeT;rw [if_pos hb];rfl
        have l1:=takeT_lt (E:=X.E) (s:=s) (k:=4) (b:=[40]) (by rw [h.isT X.E X.T];exact hb) (by decide)
        have l2:=takeT_lt (E:=X.T) (s:=s') (k:=4) (b:=[40]) hb (by decide)
        rw [← e1] at l1
        rw [← e2] at l2
        rcases hn with ⟨h3,_⟩|h3|h3
        ·exact (innerRG (ih m)).sync _ _ (by omega) (by omega) h3
        ·exact .inr (.inl (inner_over (term_over m') m' h3))
        ·exact .inr (.inr (inner_bad (term_bad m) m h3))
      ·rw [if_neg hb,if_neg hb]
       have ha:=(amongG (X:=X) (m:=m+1) (m':=m'+1) (k:=1) (by decide) callsL 0).sync s s' h1 h2 h
       rcases ha with ⟨h3,h4⟩|h3|h3
       ·(try dsimp only at h3 h4)
        rw [h4]
        have l1:=amongT_le (E:=X.E) (s:=s) 1 callsL 0
        have l2:=amongT_le (E:=X.T) (s:=s') 1 callsL 0
        split
        ·exact (fieldG (m:=m+1) (m':=m'+1) 2).sync _ _ (by omega) (by omega) h3
        ·exact (callG (m:=m+1) (m':=m'+1) _).sync _ _ (by omega) (by omega) h3
       ·refine .inr (.inl ?_)
        split
        ·exact (fieldG (X:=X) (m:=0) (m':=0) 2).over _ h3
        ·exact (callG (X:=X) (m:=0) (m':=0) _).over _ h3
       ·refine .inr (.inr ?_)
        split
        ·exact (fieldG (X:=X) (m:=0) (m':=0) 2).bad _ h3
        ·exact (callG (X:=X) (m:=0) (m':=0) _).bad _ h3
theorem row_over {one : RS→α × RS} (_ : ∀ s,Over X s→Over X (one s).2) (b : List UInt8) : ∀ (n : Nat) (l : List α) (s : RS),Over X s→Over X (rowT X.T b one n l s).2
 | 0,l,s,h=>h
 | n+1,l,s,h=>by
   rw [rowT,Dn.isT h (by decide),if_neg (by simp)]
   exact h
theorem row_bad {one : RS→α × RS} (_ : ∀ s,Bad X s→Bad X (one s).2) (b : List UInt8) : ∀ (n : Nat) (l : List α) (s : RS),Bad X s→Bad X (rowT X.E b one n l s).2
 | 0,l,s,h=>h
 | n+1,l,s,h=>by
   rw [rowT,Dn.isT h (by decide),if_neg (by simp)]
   exact h
theorem rowG {one one' : RS→α × RS} {M M' : Nat} (ho : GoodR X M M' one one') (b : List UInt8) : ∀ (m' m : Nat) (l : List α),m≤M→m'≤M'→GoodR X m m' (fun s=>rowT X.E b one m l s) (fun s=>rowT X.T b one' m' l s):=fun m'=>by
 induction m' with
 | zero=>exact fun m x _ _=>⟨fun s s' _ h2 h=>absurd (List.eq_nil_of_length_eq_zero (Nat.le_zero.1 h2)) h.1,fun s h=>row_over ho.over _ _ _ _ h,fun s h=>row_bad ho.bad _ _ _ _ h,fun s=>rowT_le ho.le _ _ _,fun s=>rowT_le ho.le' _ _ _⟩
 | succ m' ih =>
   intro m l hM hM'
   refine ⟨fun s s' h1 h2 h=>?_,fun s h=>row_over ho.over _ _ _ _ h,fun s h=>row_bad ho.bad _ _ _ _ h,fun s=>rowT_le ho.le _ _ _,fun s=>rowT_le ho.le' _ _ _⟩
   cases m with
   | zero =>
     have : s.l=[]:=List.eq_nil_of_length_eq_zero (by omega)
     rw [h.2.1] at this
     exact absurd (List.append_eq_nil_iff.1 this).1 h.1
   | succ m =>
     (try dsimp only)
     rw [rowT,rowT,h.isT X.E X.T]
     by_cases hb : isT X.T s' 1 b=true
     ·rw [if_pos hb,if_pos hb]
      have l1:=takeT_lt (E:=X.E) (s:=s) (k:=1) (b:=b) (by rw [h.isT X.E X.T];exact hb) (by decide)
      have l2:=takeT_lt (E:=X.T) (s:=s') (k:=1) (b:=b) hb (by decide)
      rcases (takeG (X:=X) (m:=m+1) (m':=m'+1) (k:=1) (by decide) b).sync s s' h1 h2 h with ⟨h3,_⟩|h3|h3
      ·have hg:=(ho.low (n:=m) (n':=m') (by omega) (by omega)).bind (g:=fun a s=>rowT X.E b one m (l++[a]) s) (g':=fun a s=>rowT X.T b one' m' (l++[a]) s) (fun a=>ih m _ (by omega) (by omega))
       exact hg.sync _ _ (by omega) (by omega) h3
      ·exact .inr (.inl (row_over ho.over _ _ _ _ (ho.over _ h3)))
      ·exact .inr (.inr (row_bad ho.bad _ _ _ _ (ho.bad _ h3)))
     ·rw [if_neg hb,if_neg hb]
      exact .inl ⟨h,rfl⟩
theorem row1G {one one' : RS→α × RS} (ho : GoodR X m m' one one') (b : List UInt8) : GoodR X m m' (fun s=>row1T X.E b one m s) (fun s=>row1T X.T b one' m' s) :=
 ho.bind (g:=fun a s=>rowT X.E b one m [a] s) (g':=fun a s=>rowT X.T b one' m' [a] s) fun a=>rowG ho b m' m [a] (Nat.le_refl _) (Nat.le_refl _)
theorem itemG : GoodR X m m' (fun s=>itemT X.E m s) (fun s=>itemT X.T m' s) :=
 (takeG (by decide) wNot).bind
   (g:=fun z s=>((⟨z,(row1T X.E wOr (nameT X.E) m s).1,(nameT X.E (row1T X.E wOr (nameT X.E) m s).2).1,if (amongT X.E (nameT X.E (row1T X.E wOr (nameT X.E) m s).2).2 4 0 modesL).1=0 then 1 else ((amongT X.E (nameT X.E (row1T X.E wOr (nameT X.E) m s).2).2 4 0 modesL).1 : Int)⟩ : PIt),(amongT X.E (nameT X.E (row1T X.E wOr (nameT X.E) m s).2).2 4 0 modesL).2))
   (g':=fun z s=>((⟨z,(row1T X.T wOr (nameT X.T) m' s).1,(nameT X.T (row1T X.T wOr (nameT X.T) m' s).2).1,if (amongT X.T (nameT X.T (row1T X.T wOr (nameT X.T) m' s).2).2 4 0 modesL).1=0 then 1 else ((amongT X.T (nameT X.T (row1T X.T wOr (nameT X.T) m' s).2).2 4 0 modesL).1 : Int)⟩ : PIt),(amongT X.T (nameT X.T (row1T X.T wOr (nameT X.T) m' s).2).2 4 0 modesL).2))
   fun z=>(row1G nameG wOr).bind
    (g:=fun a s=>((⟨z,a,(nameT X.E s).1,if (amongT X.E (nameT X.E s).2 4 0 modesL).1=0 then 1 else ((amongT X.E (nameT X.E s).2 4 0 modesL).1 : Int)⟩ : PIt),(amongT X.E (nameT X.E s).2 4 0 modesL).2))
    (g':=fun a s=>((⟨z,a,(nameT X.T s).1,if (amongT X.T (nameT X.T s).2 4 0 modesL).1=0 then 1 else ((amongT X.T (nameT X.T s).2 4 0 modesL).1 : Int)⟩ : PIt),(amongT X.T (nameT X.T s).2 4 0 modesL).2))
    fun a=>nameG.bind
     (g:=fun b s=>((⟨z,a,b,if (amongT X.E s 4 0 modesL).1=0 then 1 else ((amongT X.E s 4 0 modesL).1 : Int)⟩ : PIt),(amongT X.E s 4 0 modesL).2))
     (g':=fun b s=>((⟨z,a,b,if (amongT X.T s 4 0 modesL).1=0 then 1 else ((amongT X.T s 4 0 modesL).1 : Int)⟩ : PIt),(amongT X.T s 4 0 modesL).2))
     fun b=>(amongG (by decide) modesL 0).map fun (c : Nat)=>(⟨z,a,b,if c=0 then 1 else (c : Int)⟩ : PIt)
theorem predG : GoodR X m m' (fun s=>predT X.E m s) (fun s=>predT X.T m' s) :=
 (exprG (termG m' m)).bind
   (g:=fun a s=>((⟨a,((chooseT X.E s 4 cmpsL).1 : Int),(exprT X.E (termT X.E m) m (chooseT X.E s 4 cmpsL).2).1⟩ : PPr),(exprT X.E (termT X.E m) m (chooseT X.E s 4 cmpsL).2).2))
   (g':=fun a s=>((⟨a,((chooseT X.T s 4 cmpsL).1 : Int),(exprT X.T (termT X.T m') m' (chooseT X.T s 4 cmpsL).2).1⟩ : PPr),(exprT X.T (termT X.T m') m' (chooseT X.T s 4 cmpsL).2).2))
   fun a=>(chooseG (by decide) cmpsL).bind
    (g:=fun c s=>((⟨a,((c : Nat) : Int),(exprT X.E (termT X.E m) m s).1⟩ : PPr),(exprT X.E (termT X.E m) m s).2))
    (g':=fun c s=>((⟨a,((c : Nat) : Int),(exprT X.T (termT X.T m') m' s).1⟩ : PPr),(exprT X.T (termT X.T m') m' s).2))
    fun c=>(exprG (termG m' m)).map fun b=>(⟨a,(c : Int),b⟩ : PPr)
end
end Go.Proofs.Ytefcbgnckgapgaa
namespace Go.Proofs.Ytefcbgnckgapgaa
open Go.Lib
section
variable {E : Nat}
theorem isT_head {s : RS} {t : XTok} {r : List XTok} (h : s.l=t :: r) (k : Nat) (b : List UInt8) : isT E s k b=decide (t.k=k∧t.b=b):=by
 unfold isT nextT
 rw [h]
theorem takeT_yes {s : RS} {t : XTok} {r : List XTok} (h : s.l=t :: r) {k : Nat} {b : List UInt8} (hk : t.k=k) (hb : t.b=b) : takeT E s k b=(true,⟨r,s.deep,s.wrong⟩):=by
 unfold takeT
 rw [isT_head h,if_pos (by simp [hk,hb]),h]
 rfl
theorem takeT_not {s : RS} {t : XTok} {r : List XTok} (h : s.l=t :: r) {k : Nat} {b : List UInt8} (hn : t.k≠k∨t.b≠b) : takeT E s k b=(false,s):=by
 unfold takeT
 rw [isT_head h,if_neg (by simp;rcases hn with h|h;exact fun e=>absurd e h;exact fun _ e=>h e)]
theorem needT_yes {s : RS} {t : XTok} {r : List XTok} (h : s.l=t :: r) {k : Nat} {b : List UInt8} (hk : t.k=k) (hb : t.b=b) : needT E s k b=⟨r,s.deep,s.wrong⟩:=by
 unfold needT
 rw [takeT_yes h hk hb,if_pos rfl]
theorem ofT_yes {s : RS} {t : XTok} {r : List XTok} (h : s.l=t :: r) {k : Nat} (hk : t.k=k) : ofT E s k=(t.b,⟨r,s.deep,s.wrong⟩):=by
 unfold ofT nextT
 rw [h]
 dsimp only
 rw [if_pos hk]
 rfl
theorem nameT_yes {s : RS} {t : XTok} {r : List XTok} (h : s.l=t :: r) (hk : t.k=1) (hb : nameB t.b=true) : nameT E s=(t.b,⟨r,s.deep,s.wrong⟩):=by
 unfold nameT
 have hn : (nextT E s).b=t.b:=by unfold nextT;rw [h]
 unfold nameB at hb
 rw [Bool.and_eq_true,Bool.not_eq_true'] at hb
 rw [hn,hb.2,if_neg (by simp)]
 exact ofT_yes h hk
theorem numberT_yes {s : RS} {t : XTok} {r : List XTok} (h : s.l=t :: r) (hk : t.k=2) : numberT E s=(numZ t.b,⟨r,s.deep,s.wrong⟩):=by
 unfold numberT
 rw [ofT_yes h hk]
theorem amongT_no {s : RS} {t : XTok} {r : List XTok} (h : s.l=t :: r) {k : Nat} {l : List (List UInt8)} (hn : t.k≠k∨t.b ∉ l) (n : Nat) : amongT E s k n l=(0,s):=amongT_none k l n (fun b hb=>by
 rw [isT_head h]
 simp
 rcases hn with h|h
 ·exact fun e=>absurd e h
 ·exact fun _ e=>h (e ▸ hb))
theorem numZ_dec {n : Nat} (h : n≤1099511627776) : numZ (decDigits n)=n:=by
 unfold numZ
 rw [parse_itoa (by omega)]
theorem name_key {b : List UInt8} (h : nameB b=true) : b ∉ keysL:=by
 unfold nameB at h
 rw [Bool.and_eq_true,Bool.not_eq_true'] at h
 have:=h.2
 unfold keyB at this
 simpa using this
theorem name_ne {b : List UInt8} (h : nameB b=true) : b≠[]:=fun e=>by
 rw [e] at h
 cases h
def BareIs (us : List XTok) (ts : List (Nat × List UInt8)) : Prop:=us.map bare=ts
theorem bare_cons {us : List XTok} {k : Nat} {b : List UInt8} {ts : List (Nat × List UInt8)} (h : us.map bare=(k,b) :: ts) : ∃ t r,us=t :: r∧t.k=k∧t.b=b∧r.map bare=ts:=by
 cases us with
 | nil=>cases h
 | cons t r =>
   rw [List.map_cons] at h
   injection h with h1 h2
   injection h1 with h3 h4
   exact ⟨t,r,rfl,h3,h4,h2⟩
theorem bare_app {us : List XTok} {ts ts' : List (Nat × List UInt8)} (h : us.map bare=ts++ts') : ∃ a b,us=a++b∧a.map bare=ts∧b.map bare=ts':=by
 obtain ⟨a,b,h1,h2,h3⟩:=List.map_eq_append_iff.1 h
 exact ⟨a,b,h1,h2,h3⟩
theorem bare_nil {us : List XTok} (h : us.map bare=[]) : us=[]:=List.map_eq_nil_iff.1 h
theorem sumsT_fuel {tm : RS→PEx × RS} (ht : ∀ s,(tm s).2.l.length≤s.l.length) : ∀ (n m : Nat) (x : PEx) (s : RS),s.l.length≤n→s.l.length≤m→sumsT E tm n x s=sumsT E tm m x s
 | 0,m,x,s,h,_=>by
   cases m with
   | zero=>rfl
   | succ m =>
     rw [sumsT,sumsT,amongT_nil (by decide) (List.eq_nil_of_length_eq_zero (by omega)),if_pos rfl]
 | n+1,0,x,s,_,h=>by
   rw [sumsT,sumsT,amongT_nil (by decide) (List.eq_nil_of_length_eq_zero (by omega)),if_pos rfl]
 | n+1,m+1,x,s,h1,h2=>by
   rw [sumsT,sumsT]
   split
   ·rfl
   ·rename_i hk
    have hl:=amongT_nz (E:=E) (s:=s) (k:=4) (by decide) (l:=sumsL) (n:=0) hk
    have h3:=ht (amongT E s 4 0 sumsL).2
    exact sumsT_fuel ht n m _ _ (by omega) (by omega)
theorem val_of {v : PVal} (hr : rightB v=true) {s : RS} {us rest : List XTok} (hs : s.l=us++rest) (hu : us.map bare=tokPV v) : valT E s=(v,true,⟨rest,s.deep,s.wrong⟩):=by
 obtain ⟨vk,vn,vs⟩:=v
 unfold rightB at hr
 unfold tokPV at hu
 dsimp only at hr hu
 by_cases h1 : vk=1
 ·subst h1
  rw [if_pos rfl,decide_eq_true_eq] at hr
  obtain ⟨h3,h4,rfl⟩:=hr
  rw [if_neg (by decide),if_neg (by decide)] at hu
  by_cases hn : vn < 0
  ·rw [if_pos hn] at hu
   obtain ⟨t,r,rfl,hk,hb,hu⟩:=bare_cons hu
   obtain ⟨t2,r2,rfl,hk2,hb2,hu⟩:=bare_cons hu
   rw [bare_nil hu] at hs
   have hs : s.l=t :: t2 :: rest:=hs
   unfold valT
   have hn2 : (nextT E s).k≠2:=by unfold nextT;rw [hs];dsimp only;omega
   rw [if_neg hn2,isT_head hs,if_pos (by simp [hk,hb]),takeT_yes hs hk hb]
   dsimp only
   rw [numberT_yes (s:=⟨t2 :: rest,s.deep,s.wrong⟩) rfl hk2,hb2,numZ_dec (by omega)]
   dsimp only
   congr 2
   omega
  ·rw [if_neg hn] at hu
   obtain ⟨t,r,rfl,hk,hb,hu⟩:=bare_cons hu
   rw [bare_nil hu] at hs
   have hs : s.l=t :: rest:=hs
   unfold valT
   have hn2 : (nextT E s).k=2:=by unfold nextT;rw [hs];exact hk
   rw [if_pos hn2,numberT_yes hs hk,hb,numZ_dec (by omega)]
   dsimp only
   congr 2
   omega
 ·rw [if_neg h1] at hr
  by_cases h2 : vk=2
  ·subst h2
   rw [if_pos rfl,decide_eq_true_eq] at hr
   obtain ⟨rfl,_⟩:=hr
   rw [if_pos rfl] at hu
   obtain ⟨t,r,rfl,hk,hb,hu⟩:=bare_cons hu
   rw [bare_nil hu] at hs
   have hs : s.l=t :: rest:=hs
   unfold valT
   have hn2 : (nextT E s).k=3:=by unfold nextT;rw [hs];exact hk
   rw [if_neg (by omega),isT_head hs,if_neg (by simp;omega),if_pos hn2,ofT_yes hs hk,hb]
  ·rw [if_neg h2] at hr
   by_cases h3 : vk=3
   ·subst h3
    rw [if_pos rfl,decide_eq_true_eq] at hr
    obtain ⟨h4,h5,rfl⟩:=hr
    rw [if_neg (by decide),if_pos rfl] at hu
    obtain ⟨t,r,rfl,hk,hb,hu⟩:=bare_cons hu
    rw [bare_nil hu] at hs
    have hs : s.l=t :: rest:=hs
    have hn2 : (nextT E s).k=1:=by unfold nextT;rw [hs];exact hk
    unfold valT
    rw [if_neg (by omega),isT_head hs,if_neg (by simp;omega),if_neg (by omega),isT_head hs,isT_head hs]
    by_cases hn : vn=1
    ·subst hn
     rw [if_pos rfl] at hb
     rw [if_neg (by rw [hb];simp;intro _;decide),if_pos (by simp [hk,hb]),takeT_yes hs hk hb]
    ·have hn0 : vn=0:=by omega
     subst hn0
     rw [if_neg (by decide)] at hb
     rw [if_pos (by simp [hk,hb]),takeT_yes hs hk hb]
   ·rw [if_neg h3] at hr
    cases hr
end
end Go.Proofs.Ytefcbgnckgapgaa
