/- Words in plain words: what digits say; what the document asks of a number is what the program asks. -/
import Derived.Test.YtkmlfkbpcgkpaaaGreatDoorWL0x
import Derived.Lib.ParseIntBTie
import Derived.Lib.IndexLaws
namespace Go.Proofs.YtkmlfkbpcgkpaaaGreatDoor
open Go.Lib
def dstep (n : Nat) (c : UInt8) : Nat:=10*n+(c.toNat - 48)
def decF (n : Nat) (b : List UInt8) : Nat:=b.foldl dstep n
theorem zb0 (n : Nat) (c : UInt8) (b : List UInt8) : decF n (c :: b)=decF (dstep n c) b:=by
 unfold decF
 rw [List.foldl_cons]
theorem zhU (b : List UInt8) : ∀ (n : Nat),n*10 ^ b.length≤decF n b:=by
 induction b with
 | nil=>intro n;show n*10 ^ 0≤n;omega
 | cons c b ih =>
   intro n
   rw [zb0,List.length_cons,Nat.pow_succ,Nat.mul_comm (10 ^ b.length) 10,← Nat.mul_assoc]
   have h1:=ih (dstep n c)
   have h2 : n*10≤dstep n c:=by unfold dstep;omega
   exact Nat.le_trans (Nat.mul_le_mul_right _ h2) h1
theorem zjN (b : List UInt8) : ∀ (n : Nat),(∀ c∈b,xdigit c=true)→decF n b < (n+1)*10 ^ b.length:=by
 induction b with
 | nil=>intro n _;show n < (n+1)*10 ^ 0;omega
 | cons c b ih =>
   intro n h
   have hc:=h c List.mem_cons_self
   unfold xdigit at hc
   simp only [Bool.and_eq_true,decide_eq_true_eq] at hc
   have h1:=ih (dstep n c) (fun x hx=>h x (List.mem_cons_of_mem _ hx))
   rw [zb0,List.length_cons,Nat.pow_succ,Nat.mul_comm (10 ^ b.length) 10,← Nat.mul_assoc]
   have h2 : dstep n c+1≤(n+1)*10:=by unfold dstep;omega
   exact Nat.lt_of_lt_of_le h1 (Nat.mul_le_mul_right _ h2)
theorem zeO (b : List UInt8) (n : Nat) : n≤decF n b:=by
 refine Nat.le_trans ?_ (zhU b n)
 have : 0 < 10 ^ b.length:=Nat.pow_pos (by decide)
 exact Nat.le_mul_of_pos_right n this
theorem zci : ∀ (b : List UInt8) (n : Nat),n < 18446744073709551616→(∀ c∈b,xdigit c=true)→parseUint10 n b=if decF n b < 18446744073709551616 then .ok (decF n b) else .range
 | [],n,hn,_=>by rw [parseUint10];show _=if n < _ then _ else _;rw [if_pos hn];rfl
 | c :: b,n,hn,h=>by
   have hc:=h c List.mem_cons_self
   unfold xdigit at hc
   simp only [Bool.and_eq_true,decide_eq_true_eq] at hc
   have hm:=zeO b (dstep n c)
   have hd : dstep n c=n*10+(c.toNat - 48):=by unfold dstep;omega
   rw [parseUint10,if_pos hc,zb0]
   by_cases h1 : 1844674407370955162≤n
   ·rw [if_pos h1,if_neg (by omega)]
   ·rw [if_neg h1]
    by_cases h2 : 18446744073709551616≤n*10+(c.toNat - 48)
    ·rw [if_pos h2,if_neg (by omega)]
    ·rw [if_neg h2,← hd]
     exact zci b _ (by omega) (fun x hx=>h x (List.mem_cons_of_mem _ hx))
theorem zeP {c : UInt8} {r : List UInt8} (h : ∀ x∈c :: r,xdigit x=true) : parseIntB 64 (c :: r)=if decF 0 (c :: r) < 9223372036854775808 then .ok (decF 0 (c :: r) : Nat) else .range:=by
 have hc:=h c List.mem_cons_self
 unfold xdigit at hc
 simp only [Bool.and_eq_true,decide_eq_true_eq] at hc
 rw [parseIntB_64]
 unfold atoiAll
 dsimp only
 rw [if_neg (by omega)]
 unfold parseMag
 rw [if_neg (by simp),zci _ 0 (by decide) h]
 by_cases h1 : decF 0 (c :: r) < 18446744073709551616
 ·rw [if_pos h1]
  dsimp only
  by_cases h2 : decF 0 (c :: r) < 9223372036854775808
  ·rw [if_pos h2,if_neg (by omega),if_neg (by omega),if_neg (by omega)]
  ·rw [if_neg h2,if_pos ⟨by omega,by omega⟩]
 ·rw [if_neg h1,if_neg (by omega)]
theorem zgO {c : UInt8} {r : List UInt8} (h : ∀ x∈c :: r,xdigit x=true) : rightN (c :: r)=decide (decF 0 (c :: r)≤1099511627776∧(c.toNat≠48∨r=[])):=by
 unfold rightN
 rw [zeP h]
 by_cases h1 : decF 0 (c :: r) < 9223372036854775808
 ·rw [if_pos h1]
  dsimp only
  rw [List.head?_cons,Option.map_some,List.length_cons]
  by_cases h2 : decF 0 (c :: r)≤1099511627776
  ·rw [decide_eq_true (show ((decF 0 (c :: r) : Nat) : Int)≤1099511627776 by omega)]
   by_cases h3 : c.toNat=48
   ·cases r <;> simp [h3,h2]
   ·simp [h3,h2]
  ·rw [decide_eq_false (show ¬ ((decF 0 (c :: r) : Nat) : Int)≤1099511627776 by omega)]
   simp [h2]
 ·rw [if_neg h1]
  dsimp only
  symm
  rw [decide_eq_false]
  omega
theorem zgP {c : UInt8} {r : List UInt8} (h : ∀ x∈c :: r,xdigit x=true) : rightN (c :: r)=!decide (13 < (c :: r).length∨1099511627776 < decF 0 ((c :: r).take 13)∨(1 < (c :: r).length∧c.toNat=48)):=by
 rw [zgO h]
 have hc:=h c List.mem_cons_self
 unfold xdigit at hc
 simp only [Bool.and_eq_true,decide_eq_true_eq] at hc
 rw [Bool.eq_iff_iff]
 simp only [Bool.not_eq_true',decide_eq_true_eq,decide_eq_false_iff_not]
 by_cases hlen : 13 < (c :: r).length
 ·constructor
  ·rintro ⟨h1,h2⟩
   exfalso
   have hr : r≠[]:=fun e=>by rw [e] at hlen;simp at hlen
   have h48 : c.toNat≠48:=by
    rcases h2 with h2|h2
    ·exact h2
    ·exact absurd h2 hr
   have h3:=zhU r (dstep 0 c)
   rw [← zb0] at h3
   have h4 : 1≤dstep 0 c:=by unfold dstep;omega
   have h5 : 10 ^ 13≤10 ^ r.length:=Nat.pow_le_pow_right (by decide) (by simp at hlen;omega)
   have h6 : 10 ^ r.length≤dstep 0 c*10 ^ r.length:=Nat.le_mul_of_pos_left _ h4
   have : (10 : Nat) ^ 13=10000000000000:=by decide
   omega
  ·intro h1
   exact absurd (.inl hlen) h1
 ·have ht : (c :: r).take 13=c :: r:=List.take_of_length_le (by omega)
  rw [ht]
  constructor
  ·rintro ⟨h1,h2⟩ (h3|h3|⟨h3,h4⟩)
   ·exact hlen h3
   ·omega
   ·rcases h2 with h2|h2
    ·exact h2 h4
    ·rw [h2] at h3;simp at h3
  ·intro h1
   refine ⟨by have:=fun e=>h1 (.inr (.inl e));omega,?_⟩
   by_cases h48 : c.toNat=48
   ·refine .inr (Classical.byContradiction fun e=>h1 (.inr (.inr ⟨?_,h48⟩)))
    cases r with
    | nil=>exact absurd rfl e
    | cons=>simp
   ·exact .inl h48
theorem zeQ {b : List UInt8} {k : Nat} {c : UInt8} (h : b[k]?=some c) : decF 0 (b.take (k+1))=dstep (decF 0 (b.take k)) c:=by
 rw [List.take_add_one,h]
 unfold decF
 rw [List.foldl_append]
 rfl
theorem zeR (l : List UInt8) (c : UInt8) : amongL l c=decide (c∈l):=by
 unfold amongL
 have hg:=indexByte_ge l c
 rw [Bool.eq_iff_iff,decide_eq_true_eq,decide_eq_true_eq]
 constructor
 ·intro h
  obtain ⟨o,ho⟩ : ∃ o : Nat,indexByte l c=o:=⟨(indexByte l c).toNat,by omega⟩
  exact List.mem_of_getElem? (indexByte_some ho).1
 ·intro h
  obtain ⟨k,hk⟩:=List.getElem?_of_mem h
  have h2 : ¬ indexByte l c=-1:=fun e=>indexByte_none e k hk
  omega
theorem zfB {c : UInt8} (hc : xblank c=true) (r : List UInt8) (f a n : Nat) : lexX f (c :: r) a n=lexX f r (a+1) n:=by
 cases f with
 | zero=>rfl
 | succ f =>
   have hm : manyL xblank (c :: r)=manyL xblank r+1:=by rw [zav,if_pos hc]
   rw [lexX,lexX,hm,List.drop_succ_cons,List.length_cons]
   have e : a+(manyL xblank r+1)=a+1+manyL xblank r:=by omega
   rw [e]
   by_cases h : r.length≤manyL xblank r
   ·rw [if_pos h,if_pos (by omega)]
   ·rw [if_neg h,if_neg (by omega)]
end Go.Proofs.YtkmlfkbpcgkpaaaGreatDoor
