/- Words: a scope in which the run jumps onwards; the token that bytes begin with. -/
import Derived.Test.YtefcbgnckgapgaaGreatDoorL2x
import Derived.Lib.PathFns
import Derived.ScopeJumps
import Derived.WalkMore
namespace Go.Proofs.YtefcbgnckgapgaaGreatDoor
open Go.RowKit Go.Lib Go.Op
def Exit.goes (P : Program) : Nat→Code→(Exit→Act→World→Prop)→Exit→Act→World→Prop
 | 0,_,_,.goto _,_,_=>False
 | n+1,c,Q,.goto l,a,w=>∃ rest,findLabel c l=some rest∧rest.wp P (Exit.goes P n c Q) a w
 | _,_,Q,e,a,w=>Q e a w
theorem Exit.goes_ret (P : Program) (n : Nat) (c : Code) (Q : Exit→Act→World→Prop) (a : Act) (w : World) : Exit.goes P n c Q .ret a w=Q .ret a w:=by cases n <;> rfl
theorem wp_scope_goes {P : Program} {a : Act} {w : World} {Q : Exit→Act→World→Prop} {c : Code} (n : Nat) (h : c.wp P (Exit.goes P n c Q) a w) : (Code.scope c).wp P Q a w:=by
 intro b k cs
 have key : ∀ n (rest : Code) a w,rest.wp P (Exit.goes P n c Q) a w→∃ e a' w',Q e a' w'∧Arrives P (lone (b.at a (.code rest :: .inScope c :: k)) cs w) b k cs e a' w':=by
  intro n
  induction n with
  | zero =>
    intro rest a w h
    obtain ⟨e,a₁,w₁,hq,harr⟩:=h b (.inScope c :: k) cs
    cases e with
    | normal=>exact ⟨.normal,a₁,w₁,hq,Steps.trans harr (.one step_inScope)⟩
    | exit id=>exact ⟨.exit id,a₁,w₁,hq,fun k' hk=>harr k' (by simp [exitTo,hk])⟩
    | goto l=>exact hq.elim
    | ret=>exact ⟨_,a₁,w₁,hq,harr⟩
    | panic ch=>exact ⟨_,a₁,w₁,hq,harr⟩
    | outgrown=>exact ⟨_,a₁,w₁,hq,harr⟩
  | succ n ih =>
    intro rest a w h
    obtain ⟨e,a₁,w₁,hq,harr⟩:=h b (.inScope c :: k) cs
    cases e with
    | normal=>exact ⟨.normal,a₁,w₁,hq,Steps.trans harr (.one step_inScope)⟩
    | exit id=>exact ⟨.exit id,a₁,w₁,hq,fun k' hk=>harr k' (by simp [exitTo,hk])⟩
    | goto l =>
      obtain ⟨rest',hf,hr⟩:=hq
      have hg : gotoIn l (.inScope c :: k)=some (.code rest' :: .inScope c :: k):=by simp [gotoIn,hf]
      obtain ⟨e₂,a₂,w₂,hq₂,harr₂⟩:=ih rest' a₁ w₁ hr
      exact ⟨e₂,a₂,w₂,hq₂,.of_steps (harr _ hg) harr₂⟩
    | ret=>exact ⟨_,a₁,w₁,hq,harr⟩
    | panic ch=>exact ⟨_,a₁,w₁,hq,harr⟩
    | outgrown=>exact ⟨_,a₁,w₁,hq,harr⟩
 obtain ⟨e,a',w',hq,harr⟩:=key n c a w h
 exact ⟨e,a',w',hq,.of_steps (.one step_scope) harr⟩
theorem wp_scope_goes' {P : Program} {a : Act} {w : World} {Q : Exit→Act→World→Prop} {c : Code} (n : Nat) (h : ∀ C : Code,Hid (C=c)→c.wp P (Exit.goes P n C Q) a w) : (Code.scope c).wp P Q a w:=wp_scope_goes n (h c rfl)
def XFirst (w : World) (l : List UInt8) (e : Ending) (w' : World) : Prop:=e=.returned (.tuple #[.int .i64 (firstX l).1,.int .i64 (firstX l).2])∧Below w.heap.size w w'
theorem XFirst.mk {w : World} {l : List UInt8} {k n : Nat} {k' n' : Int} {w' : World} (h : firstX l=(k,n)) (hk : k'=k) (hn : n'=n) (hb : Below w.heap.size w w') : XFirst w l (.returned (.tuple #[.int .i64 k',.int .i64 n'])) w':=by
 unfold XFirst
 rw [h,hk,hn]
 exact ⟨rfl,hb⟩
set_option maxHeartbeats 1000000 in
set_option maxRecDepth 100000 in
theorem first_word {w : World} (_hv : XVars w) (s : ByteArray) (c : UInt8) (t : List UInt8) (hl : s.data.toList=c :: t) (hs : s.size≤1000) (hc : xletter c=true) :
 Calls Tryz.prog 33 #[.string s] w (XFirst w (c :: t)):=by
 have hlen0 : s.data.toList.length=s.size:=by simp
 have h0 : 0 < s.size:=by rw [hl] at hlen0;simp at hlen0;omega
 have hlen : t.length+1=s.size:=by rw [← hlen0,hl];rfl
 have hs0 : s[0]=c:=by
  have : s.data.toList[0]?=some s[0]:=by rw [List.getElem?_eq_getElem (by omega)];rfl
  rw [hl] at this;simpa using this.symm
 have HL : Hid (∀ W,Calls Tryz.prog 78 #[.int .u8 s[0].toNat] W fun e w'=>e=.returned (.bool true)∧W=w'):=fun W=>by rw [hs0,← hc];exact xletter_calls c W
 have HM : Hid (∀ W,Calls Tryz.prog 31 #[.string s,.func (.func 80) #[] #[]] W fun e w'=>e=.returned (.int .i64 (manyL xin (c :: t)))∧W=w'):=fun W=>by rw [← hl];exact many_xin s W hs
 have HF : Hid (firstX (c :: t)=if 16 < manyL xin (c :: t) then (0,0) else (1,manyL xin (c :: t))):=by
  show firstC c t=_
  unfold firstC
  rw [if_pos hc]
 have hml:=manyL_le xin (c :: t)
 simp only [List.length_cons] at hml
 generalize manyL xin (c :: t)=n at *
 clear hs0 hl hlen0 hc
 by_cases h16 : 16 < n
 ·have HF2 : Hid (firstX (c :: t)=(0,0)):=by show _=_;rw [HF.out,if_pos h16]
  go_enter Tryz.func33,Tryz.ntmps33
  go_wp2
  refine wp_scope_goes' 3 (fun C HC=>?_)
  go_wp2_with (first|(go_at_call 78;(with_reducible refine (HL.out _).mono ?_);rintro e w1 ⟨rfl,rfl⟩)|(go_at_call 79;(with_reducible refine (HD.out _).mono ?_);rintro e w1 ⟨rfl,rfl⟩)|(go_at_call 31;(with_reducible refine (HM.out _).mono ?_);rintro e w1 ⟨rfl,rfl⟩)|(go_at_call 81;(with_reducible refine HR.out.mono ?_);rintro e w1 ⟨rfl,hb1⟩)|(go_at_call 83;(with_reducible refine (HA.out _).mono ?_);rintro e w1 ⟨rfl,rfl⟩)|(go_at_call 83;(with_reducible refine (HB.out _).mono ?_);rintro e w1 ⟨rfl,rfl⟩))
  go_step3
  change ∃ rest,findLabel C 0=some rest∧rest.wp Tryz.prog (Exit.goes Tryz.prog 2 C _) _ _
  refine ⟨_,by rw [HC.out];rfl,?_⟩
  go_wp2_with (first|(go_at_call 78;(with_reducible refine (HL.out _).mono ?_);rintro e w1 ⟨rfl,rfl⟩)|(go_at_call 79;(with_reducible refine (HD.out _).mono ?_);rintro e w1 ⟨rfl,rfl⟩)|(go_at_call 31;(with_reducible refine (HM.out _).mono ?_);rintro e w1 ⟨rfl,rfl⟩)|(go_at_call 81;(with_reducible refine HR.out.mono ?_);rintro e w1 ⟨rfl,hb1⟩)|(go_at_call 83;(with_reducible refine (HA.out _).mono ?_);rintro e w1 ⟨rfl,rfl⟩)|(go_at_call 83;(with_reducible refine (HB.out _).mono ?_);rintro e w1 ⟨rfl,rfl⟩))
  go_step3
  change ∃ rest,findLabel C 4=some rest∧rest.wp Tryz.prog (Exit.goes Tryz.prog 1 C _) _ _
  refine ⟨_,by rw [HC.out];rfl,?_⟩
  go_wp2_with (first|(go_at_call 78;(with_reducible refine (HL.out _).mono ?_);rintro e w1 ⟨rfl,rfl⟩)|(go_at_call 79;(with_reducible refine (HD.out _).mono ?_);rintro e w1 ⟨rfl,rfl⟩)|(go_at_call 31;(with_reducible refine (HM.out _).mono ?_);rintro e w1 ⟨rfl,rfl⟩)|(go_at_call 81;(with_reducible refine HR.out.mono ?_);rintro e w1 ⟨rfl,hb1⟩)|(go_at_call 83;(with_reducible refine (HA.out _).mono ?_);rintro e w1 ⟨rfl,rfl⟩)|(go_at_call 83;(with_reducible refine (HB.out _).mono ?_);rintro e w1 ⟨rfl,rfl⟩))
  rw [Exit.goes_ret]
  go_ret2
  exact XFirst.mk HF2.out rfl rfl (Below.refl _ _)
 ·have HF2 : Hid (firstX (c :: t)=(1,n)):=by show _=_;rw [HF.out,if_neg h16]
  go_enter Tryz.func33,Tryz.ntmps33
  go_wp2
  refine wp_scope_goes' 3 (fun C HC=>?_)
  go_wp2_with (first|(go_at_call 78;(with_reducible refine (HL.out _).mono ?_);rintro e w1 ⟨rfl,rfl⟩)|(go_at_call 79;(with_reducible refine (HD.out _).mono ?_);rintro e w1 ⟨rfl,rfl⟩)|(go_at_call 31;(with_reducible refine (HM.out _).mono ?_);rintro e w1 ⟨rfl,rfl⟩)|(go_at_call 81;(with_reducible refine HR.out.mono ?_);rintro e w1 ⟨rfl,hb1⟩)|(go_at_call 83;(with_reducible refine (HA.out _).mono ?_);rintro e w1 ⟨rfl,rfl⟩)|(go_at_call 83;(with_reducible refine (HB.out _).mono ?_);rintro e w1 ⟨rfl,rfl⟩))
  go_step3
  change ∃ rest,findLabel C 0=some rest∧rest.wp Tryz.prog (Exit.goes Tryz.prog 2 C _) _ _
  refine ⟨_,by rw [HC.out];rfl,?_⟩
  go_wp2_with (first|(go_at_call 78;(with_reducible refine (HL.out _).mono ?_);rintro e w1 ⟨rfl,rfl⟩)|(go_at_call 79;(with_reducible refine (HD.out _).mono ?_);rintro e w1 ⟨rfl,rfl⟩)|(go_at_call 31;(with_reducible refine (HM.out _).mono ?_);rintro e w1 ⟨rfl,rfl⟩)|(go_at_call 81;(with_reducible refine HR.out.mono ?_);rintro e w1 ⟨rfl,hb1⟩)|(go_at_call 83;(with_reducible refine (HA.out _).mono ?_);rintro e w1 ⟨rfl,rfl⟩)|(go_at_call 83;(with_reducible refine (HB.out _).mono ?_);rintro e w1 ⟨rfl,rfl⟩))
  rw [Exit.goes_ret]
  go_ret2
  exact XFirst.mk HF2.out rfl rfl (Below.refl _ _)
set_option maxHeartbeats 1000000 in
set_option maxRecDepth 100000 in
theorem first_number {w : World} (hv : XVars w) (s : ByteArray) (c : UInt8) (t : List UInt8) (hl : s.data.toList=c :: t) (hs : s.size≤1000) (hc : xletter c=false) (hd : xdigit c=true) :
 Calls Tryz.prog 33 #[.string s] w (XFirst w (c :: t)):=by
 have hlen0 : s.data.toList.length=s.size:=by simp
 have h0 : 0 < s.size:=by rw [hl] at hlen0;simp at hlen0;omega
 have hlen : t.length+1=s.size:=by rw [← hlen0,hl];rfl
 have hs0 : s[0]=c:=by
  have : s.data.toList[0]?=some s[0]:=by rw [List.getElem?_eq_getElem (by omega)];rfl
  rw [hl] at this;simpa using this.symm
 have HL : Hid (∀ W,Calls Tryz.prog 78 #[.int .u8 s[0].toNat] W fun e w'=>e=.returned (.bool false)∧W=w'):=fun W=>by rw [hs0,← hc];exact xletter_calls c W
 have HD : Hid (∀ W,Calls Tryz.prog 79 #[.int .u8 s[0].toNat] W fun e w'=>e=.returned (.bool true)∧W=w'):=fun W=>by rw [hs0,← hd];exact xdigit_calls c W
 have HM : Hid (∀ W,Calls Tryz.prog 31 #[.string s,.func (.func 79) #[] #[]] W fun e w'=>e=.returned (.int .i64 (manyL xdigit (c :: t)))∧W=w'):=fun W=>by rw [← hl];exact many_xdigit s W hs
 have HF : Hid (firstX (c :: t)=if rightN ((c :: t).take (manyL xdigit (c :: t))) then (2,manyL xdigit (c :: t)) else (0,0)):=by
  show firstC c t=_
  unfold firstC
  rw [if_neg (by rw [hc];simp),if_pos hd]
 have hml:=manyL_le xdigit (c :: t)
 have hm0 : 0 < manyL xdigit (c :: t):=by rw [manyL_cons,if_pos hd];omega
 simp only [List.length_cons] at hml
 generalize manyL xdigit (c :: t)=n at *
 have hxl : (s.extract 0 n).data.toList=(c :: t).take n:=by rw [Pa.extract_upto,hl]
 have hxs : (s.extract 0 n).size=n:=by
  have h1 : (s.extract 0 n).data.toList.length=(s.extract 0 n).size:=by simp
  rw [← h1,hxl,List.length_take,List.length_cons]
  omega
 obtain ⟨r,hr⟩ : ∃ r,rightN ((c :: t).take n)=r:=⟨_,rfl⟩
 have HR : Hid (Calls Tryz.prog 81 #[.string (s.extract 0 n)] w fun e w'=>e=.returned (.bool r)∧Below w.heap.size w w'):=by show Calls _ _ _ _ _;rw [← hr,← hxl];exact xright_calls hv _ (by omega) (by omega)
 rw [hr] at HF
 clear hs0 hl hlen0 hc hd hxl hxs hv hr
 cases r with
 | false =>
   have HF2 : Hid (firstX (c :: t)=(0,0)):=by show _=_;rw [HF.out];rfl
   go_enter Tryz.func33,Tryz.ntmps33
   go_wp2
   refine wp_scope_goes' 3 (fun C HC=>?_)
   go_wp2_with (first|(go_at_call 78;(with_reducible refine (HL.out _).mono ?_);rintro e w1 ⟨rfl,rfl⟩)|(go_at_call 79;(with_reducible refine (HD.out _).mono ?_);rintro e w1 ⟨rfl,rfl⟩)|(go_at_call 31;(with_reducible refine (HM.out _).mono ?_);rintro e w1 ⟨rfl,rfl⟩)|(go_at_call 81;(with_reducible refine HR.out.mono ?_);rintro e w1 ⟨rfl,hb1⟩)|(go_at_call 83;(with_reducible refine (HA.out _).mono ?_);rintro e w1 ⟨rfl,rfl⟩)|(go_at_call 83;(with_reducible refine (HB.out _).mono ?_);rintro e w1 ⟨rfl,rfl⟩))
   go_step3
   change ∃ rest,findLabel C 1=some rest∧rest.wp Tryz.prog (Exit.goes Tryz.prog 2 C _) _ _
   refine ⟨_,by rw [HC.out];rfl,?_⟩
   go_wp2_with (first|(go_at_call 78;(with_reducible refine (HL.out _).mono ?_);rintro e w1 ⟨rfl,rfl⟩)|(go_at_call 79;(with_reducible refine (HD.out _).mono ?_);rintro e w1 ⟨rfl,rfl⟩)|(go_at_call 31;(with_reducible refine (HM.out _).mono ?_);rintro e w1 ⟨rfl,rfl⟩)|(go_at_call 81;(with_reducible refine HR.out.mono ?_);rintro e w1 ⟨rfl,hb1⟩)|(go_at_call 83;(with_reducible refine (HA.out _).mono ?_);rintro e w1 ⟨rfl,rfl⟩)|(go_at_call 83;(with_reducible refine (HB.out _).mono ?_);rintro e w1 ⟨rfl,rfl⟩))
   go_step3
   change ∃ rest,findLabel C 4=some rest∧rest.wp Tryz.prog (Exit.goes Tryz.prog 1 C _) _ _
   refine ⟨_,by rw [HC.out];rfl,?_⟩
   go_wp2_with (first|(go_at_call 78;(with_reducible refine (HL.out _).mono ?_);rintro e w1 ⟨rfl,rfl⟩)|(go_at_call 79;(with_reducible refine (HD.out _).mono ?_);rintro e w1 ⟨rfl,rfl⟩)|(go_at_call 31;(with_reducible refine (HM.out _).mono ?_);rintro e w1 ⟨rfl,rfl⟩)|(go_at_call 81;(with_reducible refine HR.out.mono ?_);rintro e w1 ⟨rfl,hb1⟩)|(go_at_call 83;(with_reducible refine (HA.out _).mono ?_);rintro e w1 ⟨rfl,rfl⟩)|(go_at_call 83;(with_reducible refine (HB.out _).mono ?_);rintro e w1 ⟨rfl,rfl⟩))
   rw [Exit.goes_ret]
   go_ret2
   exact XFirst.mk HF2.out rfl rfl (hb1)
 | true =>
   have HF2 : Hid (firstX (c :: t)=(2,n)):=by show _=_;rw [HF.out];rfl
   go_enter Tryz.func33,Tryz.ntmps33
   go_wp2
   refine wp_scope_goes' 3 (fun C HC=>?_)
   go_wp2_with (first|(go_at_call 78;(with_reducible refine (HL.out _).mono ?_);rintro e w1 ⟨rfl,rfl⟩)|(go_at_call 79;(with_reducible refine (HD.out _).mono ?_);rintro e w1 ⟨rfl,rfl⟩)|(go_at_call 31;(with_reducible refine (HM.out _).mono ?_);rintro e w1 ⟨rfl,rfl⟩)|(go_at_call 81;(with_reducible refine HR.out.mono ?_);rintro e w1 ⟨rfl,hb1⟩)|(go_at_call 83;(with_reducible refine (HA.out _).mono ?_);rintro e w1 ⟨rfl,rfl⟩)|(go_at_call 83;(with_reducible refine (HB.out _).mono ?_);rintro e w1 ⟨rfl,rfl⟩))
   go_step3
   change ∃ rest,findLabel C 1=some rest∧rest.wp Tryz.prog (Exit.goes Tryz.prog 2 C _) _ _
   refine ⟨_,by rw [HC.out];rfl,?_⟩
   go_wp2_with (first|(go_at_call 78;(with_reducible refine (HL.out _).mono ?_);rintro e w1 ⟨rfl,rfl⟩)|(go_at_call 79;(with_reducible refine (HD.out _).mono ?_);rintro e w1 ⟨rfl,rfl⟩)|(go_at_call 31;(with_reducible refine (HM.out _).mono ?_);rintro e w1 ⟨rfl,rfl⟩)|(go_at_call 81;(with_reducible refine HR.out.mono ?_);rintro e w1 ⟨rfl,hb1⟩)|(go_at_call 83;(with_reducible refine (HA.out _).mono ?_);rintro e w1 ⟨rfl,rfl⟩)|(go_at_call 83;(with_reducible refine (HB.out _).mono ?_);rintro e w1 ⟨rfl,rfl⟩))
   rw [Exit.goes_ret]
   go_ret2
   exact XFirst.mk HF2.out rfl rfl (hb1)
set_option maxHeartbeats 1000000 in
set_option maxRecDepth 100000 in
theorem first_quoted {w : World} (_hv : XVars w) (s : ByteArray) (c : UInt8) (t : List UInt8) (hl : s.data.toList=c :: t) (hs : s.size≤1000) (hc : xletter c=false) (hd : xdigit c=false) (hq : c.toNat=39) :
 Calls Tryz.prog 33 #[.string s] w (XFirst w (c :: t)):=by
 have hlen0 : s.data.toList.length=s.size:=by simp
 have h0 : 0 < s.size:=by rw [hl] at hlen0;simp at hlen0;omega
 have hlen : t.length+1=s.size:=by rw [← hlen0,hl];rfl
 have hs0 : s[0]=c:=by
  have : s.data.toList[0]?=some s[0]:=by rw [List.getElem?_eq_getElem (by omega)];rfl
  rw [hl] at this;simpa using this.symm
 have HL : Hid (∀ W,Calls Tryz.prog 78 #[.int .u8 s[0].toNat] W fun e w'=>e=.returned (.bool false)∧W=w'):=fun W=>by rw [hs0,← hc];exact xletter_calls c W
 have HD : Hid (∀ W,Calls Tryz.prog 79 #[.int .u8 s[0].toNat] W fun e w'=>e=.returned (.bool false)∧W=w'):=fun W=>by rw [hs0,← hd];exact xdigit_calls c W
 have hxl : (s.extract 1 s.size).data.toList=t:=by rw [Pa.extract_from,hl];rfl
 have hxs : (s.extract 1 s.size).size≤1000:=by
  have h1 : (s.extract 1 s.size).data.toList.length=(s.extract 1 s.size).size:=by simp
  rw [← h1,hxl]
  omega
 have HM : Hid (∀ W,Calls Tryz.prog 31 #[.string (s.extract 1 s.size),.func (.func 82) #[] #[]] W fun e w'=>e=.returned (.int .i64 (manyL xquot t))∧W=w'):=fun W=>by
  have h:=many_xquot (s.extract 1 s.size) W hxs
  rw [hxl] at h
  exact h
 have HF : Hid (firstX (c :: t)=if 65 < 1+manyL xquot t∨manyL xquot t=t.length∨¬ t[manyL xquot t]?=some 39 then (0,0) else (3,1+manyL xquot t+1)):=by
  show firstC c t=_
  unfold firstC
  rw [if_neg (by rw [hc];simp),if_neg (by rw [hd];simp),if_pos hq]
 have hml:=manyL_le xquot t
 have t0 : ((s[0].toNat : Int) == 39)=true:=by rw [hs0,hq];rfl
 generalize manyL xquot t=n at *
 by_cases h65 : 65 < 1+n
 ·have HF2 : Hid (firstX (c :: t)=(0,0)):=by show _=_;rw [HF.out,if_pos (.inl h65)]
  have t1 : decide (65 < 1+(n : Int))=true:=by simp;omega
  clear hs0 hl hlen0 hc hd hxl hxs HF hq
  go_enter Tryz.func33,Tryz.ntmps33
  go_wp2
  refine wp_scope_goes' 3 (fun C HC=>?_)
  go_wp2_with (first|(go_at_call 78;(with_reducible refine (HL.out _).mono ?_);rintro e w1 ⟨rfl,rfl⟩)|(go_at_call 79;(with_reducible refine (HD.out _).mono ?_);rintro e w1 ⟨rfl,rfl⟩)|(go_at_call 31;(with_reducible refine (HM.out _).mono ?_);rintro e w1 ⟨rfl,rfl⟩)|(go_at_call 81;(with_reducible refine HR.out.mono ?_);rintro e w1 ⟨rfl,hb1⟩)|(go_at_call 83;(with_reducible refine (HA.out _).mono ?_);rintro e w1 ⟨rfl,rfl⟩)|(go_at_call 83;(with_reducible refine (HB.out _).mono ?_);rintro e w1 ⟨rfl,rfl⟩))
  go_step3
  change ∃ rest,findLabel C 2=some rest∧rest.wp Tryz.prog (Exit.goes Tryz.prog 2 C _) _ _
  refine ⟨_,by rw [HC.out];rfl,?_⟩
  go_wp2_with (first|(go_at_call 78;(with_reducible refine (HL.out _).mono ?_);rintro e w1 ⟨rfl,rfl⟩)|(go_at_call 79;(with_reducible refine (HD.out _).mono ?_);rintro e w1 ⟨rfl,rfl⟩)|(go_at_call 31;(with_reducible refine (HM.out _).mono ?_);rintro e w1 ⟨rfl,rfl⟩)|(go_at_call 81;(with_reducible refine HR.out.mono ?_);rintro e w1 ⟨rfl,hb1⟩)|(go_at_call 83;(with_reducible refine (HA.out _).mono ?_);rintro e w1 ⟨rfl,rfl⟩)|(go_at_call 83;(with_reducible refine (HB.out _).mono ?_);rintro e w1 ⟨rfl,rfl⟩))
  go_step3
  change ∃ rest,findLabel C 4=some rest∧rest.wp Tryz.prog (Exit.goes Tryz.prog 1 C _) _ _
  refine ⟨_,by rw [HC.out];rfl,?_⟩
  go_wp2_with (first|(go_at_call 78;(with_reducible refine (HL.out _).mono ?_);rintro e w1 ⟨rfl,rfl⟩)|(go_at_call 79;(with_reducible refine (HD.out _).mono ?_);rintro e w1 ⟨rfl,rfl⟩)|(go_at_call 31;(with_reducible refine (HM.out _).mono ?_);rintro e w1 ⟨rfl,rfl⟩)|(go_at_call 81;(with_reducible refine HR.out.mono ?_);rintro e w1 ⟨rfl,hb1⟩)|(go_at_call 83;(with_reducible refine (HA.out _).mono ?_);rintro e w1 ⟨rfl,rfl⟩)|(go_at_call 83;(with_reducible refine (HB.out _).mono ?_);rintro e w1 ⟨rfl,rfl⟩))
  rw [Exit.goes_ret]
  go_ret2
  exact XFirst.mk HF2.out rfl rfl (Below.refl _ _)
 have t1 : decide (65 < 1+(n : Int))=false:=by simp;omega
 by_cases hnl : n=t.length
 ·have HF2 : Hid (firstX (c :: t)=(0,0)):=by show _=_;rw [HF.out,if_pos (.inr (.inl hnl))]
  have t2 : (1+(n : Int) == (s.size : Int))=true:=by rw [beq_iff_eq];omega
  clear hs0 hl hlen0 hc hd hxl hxs HF hq
  go_enter Tryz.func33,Tryz.ntmps33
  go_wp2
  refine wp_scope_goes' 3 (fun C HC=>?_)
  go_wp2_with (first|(go_at_call 78;(with_reducible refine (HL.out _).mono ?_);rintro e w1 ⟨rfl,rfl⟩)|(go_at_call 79;(with_reducible refine (HD.out _).mono ?_);rintro e w1 ⟨rfl,rfl⟩)|(go_at_call 31;(with_reducible refine (HM.out _).mono ?_);rintro e w1 ⟨rfl,rfl⟩)|(go_at_call 81;(with_reducible refine HR.out.mono ?_);rintro e w1 ⟨rfl,hb1⟩)|(go_at_call 83;(with_reducible refine (HA.out _).mono ?_);rintro e w1 ⟨rfl,rfl⟩)|(go_at_call 83;(with_reducible refine (HB.out _).mono ?_);rintro e w1 ⟨rfl,rfl⟩))
  go_step3
  change ∃ rest,findLabel C 2=some rest∧rest.wp Tryz.prog (Exit.goes Tryz.prog 2 C _) _ _
  refine ⟨_,by rw [HC.out];rfl,?_⟩
  go_wp2_with (first|(go_at_call 78;(with_reducible refine (HL.out _).mono ?_);rintro e w1 ⟨rfl,rfl⟩)|(go_at_call 79;(with_reducible refine (HD.out _).mono ?_);rintro e w1 ⟨rfl,rfl⟩)|(go_at_call 31;(with_reducible refine (HM.out _).mono ?_);rintro e w1 ⟨rfl,rfl⟩)|(go_at_call 81;(with_reducible refine HR.out.mono ?_);rintro e w1 ⟨rfl,hb1⟩)|(go_at_call 83;(with_reducible refine (HA.out _).mono ?_);rintro e w1 ⟨rfl,rfl⟩)|(go_at_call 83;(with_reducible refine (HB.out _).mono ?_);rintro e w1 ⟨rfl,rfl⟩))
  go_step3
  change ∃ rest,findLabel C 4=some rest∧rest.wp Tryz.prog (Exit.goes Tryz.prog 1 C _) _ _
  refine ⟨_,by rw [HC.out];rfl,?_⟩
  go_wp2_with (first|(go_at_call 78;(with_reducible refine (HL.out _).mono ?_);rintro e w1 ⟨rfl,rfl⟩)|(go_at_call 79;(with_reducible refine (HD.out _).mono ?_);rintro e w1 ⟨rfl,rfl⟩)|(go_at_call 31;(with_reducible refine (HM.out _).mono ?_);rintro e w1 ⟨rfl,rfl⟩)|(go_at_call 81;(with_reducible refine HR.out.mono ?_);rintro e w1 ⟨rfl,hb1⟩)|(go_at_call 83;(with_reducible refine (HA.out _).mono ?_);rintro e w1 ⟨rfl,rfl⟩)|(go_at_call 83;(with_reducible refine (HB.out _).mono ?_);rintro e w1 ⟨rfl,rfl⟩))
  rw [Exit.goes_ret]
  go_ret2
  exact XFirst.mk HF2.out rfl rfl (Below.refl _ _)
 have t2 : (1+(n : Int) == (s.size : Int))=false:=by rw [beq_eq_false_iff_ne];omega
 have hn1 : n+1 < s.size:=by omega
 have hb0 : (0 : Int)≤1+(n : Int):=by omega
 have hb1 : 1+(n : Int) < (s.size : Int):=by omega
 have hbn : (1+(n : Int)).toNat=n+1:=by omega
 have hsn : t[n]?=some s[n+1]:=by
  have h1 : s.data.toList[n+1]?=some s[n+1]:=by rw [List.getElem?_eq_getElem (by omega)];rfl
  rw [hl] at h1
  simpa using h1
 by_cases h39 : s[n+1]=39
 ·have HF2 : Hid (firstX (c :: t)=(3,1+n+1)):=by
   show _=_
   rw [HF.out,if_neg (by rintro (h|h|h);exact h65 h;exact hnl h;exact h (by rw [hsn,h39]))]
  have t3 : ((s[n+1].toNat : Int) != 39)=false:=by rw [h39];rfl
  clear hs0 hl hlen0 hc hd hxl hxs HF hq hsn h39
  go_enter Tryz.func33,Tryz.ntmps33
  go_wp2
  refine wp_scope_goes' 3 (fun C HC=>?_)
  go_wp2_with (first|(go_at_call 78;(with_reducible refine (HL.out _).mono ?_);rintro e w1 ⟨rfl,rfl⟩)|(go_at_call 79;(with_reducible refine (HD.out _).mono ?_);rintro e w1 ⟨rfl,rfl⟩)|(go_at_call 31;(with_reducible refine (HM.out _).mono ?_);rintro e w1 ⟨rfl,rfl⟩)|(go_at_call 81;(with_reducible refine HR.out.mono ?_);rintro e w1 ⟨rfl,hb1⟩)|(go_at_call 83;(with_reducible refine (HA.out _).mono ?_);rintro e w1 ⟨rfl,rfl⟩)|(go_at_call 83;(with_reducible refine (HB.out _).mono ?_);rintro e w1 ⟨rfl,rfl⟩))
  go_step3
  change ∃ rest,findLabel C 2=some rest∧rest.wp Tryz.prog (Exit.goes Tryz.prog 2 C _) _ _
  refine ⟨_,by rw [HC.out];rfl,?_⟩
  go_wp2_with (first|(go_at_call 78;(with_reducible refine (HL.out _).mono ?_);rintro e w1 ⟨rfl,rfl⟩)|(go_at_call 79;(with_reducible refine (HD.out _).mono ?_);rintro e w1 ⟨rfl,rfl⟩)|(go_at_call 31;(with_reducible refine (HM.out _).mono ?_);rintro e w1 ⟨rfl,rfl⟩)|(go_at_call 81;(with_reducible refine HR.out.mono ?_);rintro e w1 ⟨rfl,hb1⟩)|(go_at_call 83;(with_reducible refine (HA.out _).mono ?_);rintro e w1 ⟨rfl,rfl⟩)|(go_at_call 83;(with_reducible refine (HB.out _).mono ?_);rintro e w1 ⟨rfl,rfl⟩))
  rw [Exit.goes_ret]
  go_ret2
  exact XFirst.mk HF2.out rfl (by omega) (Below.refl _ _)
 ·have HF2 : Hid (firstX (c :: t)=(0,0)):=by
   show _=_
   rw [HF.out,if_pos (.inr (.inr (by rw [hsn];intro e;injection e with e;exact h39 e)))]
  have t3 : ((s[n+1].toNat : Int) != 39)=true:=by
   rw [bne_iff_ne]
   intro e
   exact h39 (UInt8.toNat_inj.1 (by show _=39;omega))
  clear hs0 hl hlen0 hc hd hxl hxs HF hq hsn h39
  go_enter Tryz.func33,Tryz.ntmps33
  go_wp2
  refine wp_scope_goes' 3 (fun C HC=>?_)
  go_wp2_with (first|(go_at_call 78;(with_reducible refine (HL.out _).mono ?_);rintro e w1 ⟨rfl,rfl⟩)|(go_at_call 79;(with_reducible refine (HD.out _).mono ?_);rintro e w1 ⟨rfl,rfl⟩)|(go_at_call 31;(with_reducible refine (HM.out _).mono ?_);rintro e w1 ⟨rfl,rfl⟩)|(go_at_call 81;(with_reducible refine HR.out.mono ?_);rintro e w1 ⟨rfl,hb1⟩)|(go_at_call 83;(with_reducible refine (HA.out _).mono ?_);rintro e w1 ⟨rfl,rfl⟩)|(go_at_call 83;(with_reducible refine (HB.out _).mono ?_);rintro e w1 ⟨rfl,rfl⟩))
  go_step3
  change ∃ rest,findLabel C 2=some rest∧rest.wp Tryz.prog (Exit.goes Tryz.prog 2 C _) _ _
  refine ⟨_,by rw [HC.out];rfl,?_⟩
  go_wp2_with (first|(go_at_call 78;(with_reducible refine (HL.out _).mono ?_);rintro e w1 ⟨rfl,rfl⟩)|(go_at_call 79;(with_reducible refine (HD.out _).mono ?_);rintro e w1 ⟨rfl,rfl⟩)|(go_at_call 31;(with_reducible refine (HM.out _).mono ?_);rintro e w1 ⟨rfl,rfl⟩)|(go_at_call 81;(with_reducible refine HR.out.mono ?_);rintro e w1 ⟨rfl,hb1⟩)|(go_at_call 83;(with_reducible refine (HA.out _).mono ?_);rintro e w1 ⟨rfl,rfl⟩)|(go_at_call 83;(with_reducible refine (HB.out _).mono ?_);rintro e w1 ⟨rfl,rfl⟩))
  go_step3
  change ∃ rest,findLabel C 4=some rest∧rest.wp Tryz.prog (Exit.goes Tryz.prog 1 C _) _ _
  refine ⟨_,by rw [HC.out];rfl,?_⟩
  go_wp2_with (first|(go_at_call 78;(with_reducible refine (HL.out _).mono ?_);rintro e w1 ⟨rfl,rfl⟩)|(go_at_call 79;(with_reducible refine (HD.out _).mono ?_);rintro e w1 ⟨rfl,rfl⟩)|(go_at_call 31;(with_reducible refine (HM.out _).mono ?_);rintro e w1 ⟨rfl,rfl⟩)|(go_at_call 81;(with_reducible refine HR.out.mono ?_);rintro e w1 ⟨rfl,hb1⟩)|(go_at_call 83;(with_reducible refine (HA.out _).mono ?_);rintro e w1 ⟨rfl,rfl⟩)|(go_at_call 83;(with_reducible refine (HB.out _).mono ?_);rintro e w1 ⟨rfl,rfl⟩))
  rw [Exit.goes_ret]
  go_ret2
  exact XFirst.mk HF2.out rfl rfl (Below.refl _ _)
set_option maxHeartbeats 1000000 in
set_option maxRecDepth 100000 in
theorem first_sign {w : World} (_hv : XVars w) (s : ByteArray) (c : UInt8) (t : List UInt8) (hl : s.data.toList=c :: t) (hs : s.size≤1000) (hc : xletter c=false) (hd : xdigit c=false) (hq : c.toNat≠39) :
 Calls Tryz.prog 33 #[.string s] w (XFirst w (c :: t)):=by
 have hlen0 : s.data.toList.length=s.size:=by simp
 have h0 : 0 < s.size:=by rw [hl] at hlen0;simp at hlen0;omega
 have hlen : t.length+1=s.size:=by rw [← hlen0,hl];rfl
 have hs0 : s[0]=c:=by
  have : s.data.toList[0]?=some s[0]:=by rw [List.getElem?_eq_getElem (by omega)];rfl
  rw [hl] at this;simpa using this.symm
 have HL : Hid (∀ W,Calls Tryz.prog 78 #[.int .u8 s[0].toNat] W fun e w'=>e=.returned (.bool false)∧W=w'):=fun W=>by rw [hs0,← hc];exact xletter_calls c W
 have HD : Hid (∀ W,Calls Tryz.prog 79 #[.int .u8 s[0].toNat] W fun e w'=>e=.returned (.bool false)∧W=w'):=fun W=>by rw [hs0,← hd];exact xdigit_calls c W
 obtain ⟨a,ha⟩ : ∃ a,amongL beforeL c=a:=⟨_,rfl⟩
 obtain ⟨b,hb⟩ : ∃ b,amongL signsL c=b:=⟨_,rfl⟩
 have HA : Hid (∀ W,Calls Tryz.prog 83 #[.string ⟨#[33,60,62]⟩,.int .u8 s[0].toNat] W fun e w'=>e=.returned (.bool a)∧W=w'):=fun W=>by rw [hs0,← ha];exact among_calls ⟨#[33,60,62]⟩ beforeL rfl c W
 have HB : Hid (∀ W,Calls Tryz.prog 83 #[.string ⟨#[61,60,62,43,45,40,41,46,63]⟩,.int .u8 s[0].toNat] W fun e w'=>e=.returned (.bool b)∧W=w'):=fun W=>by rw [hs0,← hb];exact among_calls ⟨#[61,60,62,43,45,40,41,46,63]⟩ signsL rfl c W
 have HF : Hid (firstX (c :: t)=if (t[0]?=some 61∧a=true) then (4,2) else if b then (4,1) else (0,0)):=by
  show firstC c t=_
  unfold firstC
  rw [if_neg (by rw [hc];simp),if_neg (by rw [hd];simp),if_neg hq,ha,hb]
 have t0 : ((s[0].toNat : Int) == 39)=false:=by rw [hs0,beq_eq_false_iff_ne];omega
 by_cases h1 : 1 < s.size
 ·have t1 : decide (1 < (s.size : Int))=true:=by simp;omega
  have hs1 : t[0]?=some s[1]:=by
   have h1 : s.data.toList[1]?=some s[1]:=by rw [List.getElem?_eq_getElem (by omega)];rfl
   rw [hl] at h1
   simpa using h1
  by_cases h61 : s[1]=61
  ·have t2 : ((s[1].toNat : Int) == 61)=true:=by rw [h61];rfl
   cases a with
   | true =>
     have HF2 : Hid (firstX (c :: t)=(4,2)):=by show _=_;rw [HF.out,if_pos ⟨by rw [hs1,h61],rfl⟩]
     clear hs0 hl hlen0 hc hd HF hq hs1 h61 ha hb
     go_enter Tryz.func33,Tryz.ntmps33
     go_wp2
     refine wp_scope_goes' 3 (fun C HC=>?_)
     go_wp2_with (first|(go_at_call 78;(with_reducible refine (HL.out _).mono ?_);rintro e w1 ⟨rfl,rfl⟩)|(go_at_call 79;(with_reducible refine (HD.out _).mono ?_);rintro e w1 ⟨rfl,rfl⟩)|(go_at_call 31;(with_reducible refine (HM.out _).mono ?_);rintro e w1 ⟨rfl,rfl⟩)|(go_at_call 81;(with_reducible refine HR.out.mono ?_);rintro e w1 ⟨rfl,hb1⟩)|(go_at_call 83;(with_reducible refine (HA.out _).mono ?_);rintro e w1 ⟨rfl,rfl⟩)|(go_at_call 83;(with_reducible refine (HB.out _).mono ?_);rintro e w1 ⟨rfl,rfl⟩))
     go_step3
     change ∃ rest,findLabel C 3=some rest∧rest.wp Tryz.prog (Exit.goes Tryz.prog 2 C _) _ _
     refine ⟨_,by rw [HC.out];rfl,?_⟩
     go_wp2_with (first|(go_at_call 78;(with_reducible refine (HL.out _).mono ?_);rintro e w1 ⟨rfl,rfl⟩)|(go_at_call 79;(with_reducible refine (HD.out _).mono ?_);rintro e w1 ⟨rfl,rfl⟩)|(go_at_call 31;(with_reducible refine (HM.out _).mono ?_);rintro e w1 ⟨rfl,rfl⟩)|(go_at_call 81;(with_reducible refine HR.out.mono ?_);rintro e w1 ⟨rfl,hb1⟩)|(go_at_call 83;(with_reducible refine (HA.out _).mono ?_);rintro e w1 ⟨rfl,rfl⟩)|(go_at_call 83;(with_reducible refine (HB.out _).mono ?_);rintro e w1 ⟨rfl,rfl⟩))
     rw [Exit.goes_ret]
     go_ret2
     exact XFirst.mk HF2.out rfl rfl (Below.refl _ _)
   | false =>
     cases b with
     | true =>
       have HF2 : Hid (firstX (c :: t)=(4,1)):=by show _=_;rw [HF.out,if_neg (by simp),if_pos rfl]
       clear hs0 hl hlen0 hc hd HF hq hs1 h61 ha hb
       go_enter Tryz.func33,Tryz.ntmps33
       go_wp2
       refine wp_scope_goes' 3 (fun C HC=>?_)
       go_wp2_with (first|(go_at_call 78;(with_reducible refine (HL.out _).mono ?_);rintro e w1 ⟨rfl,rfl⟩)|(go_at_call 79;(with_reducible refine (HD.out _).mono ?_);rintro e w1 ⟨rfl,rfl⟩)|(go_at_call 31;(with_reducible refine (HM.out _).mono ?_);rintro e w1 ⟨rfl,rfl⟩)|(go_at_call 81;(with_reducible refine HR.out.mono ?_);rintro e w1 ⟨rfl,hb1⟩)|(go_at_call 83;(with_reducible refine (HA.out _).mono ?_);rintro e w1 ⟨rfl,rfl⟩)|(go_at_call 83;(with_reducible refine (HB.out _).mono ?_);rintro e w1 ⟨rfl,rfl⟩))
       go_step3
       change ∃ rest,findLabel C 3=some rest∧rest.wp Tryz.prog (Exit.goes Tryz.prog 2 C _) _ _
       refine ⟨_,by rw [HC.out];rfl,?_⟩
       go_wp2_with (first|(go_at_call 78;(with_reducible refine (HL.out _).mono ?_);rintro e w1 ⟨rfl,rfl⟩)|(go_at_call 79;(with_reducible refine (HD.out _).mono ?_);rintro e w1 ⟨rfl,rfl⟩)|(go_at_call 31;(with_reducible refine (HM.out _).mono ?_);rintro e w1 ⟨rfl,rfl⟩)|(go_at_call 81;(with_reducible refine HR.out.mono ?_);rintro e w1 ⟨rfl,hb1⟩)|(go_at_call 83;(with_reducible refine (HA.out _).mono ?_);rintro e w1 ⟨rfl,rfl⟩)|(go_at_call 83;(with_reducible refine (HB.out _).mono ?_);rintro e w1 ⟨rfl,rfl⟩))
       rw [Exit.goes_ret]
       go_ret2
       exact XFirst.mk HF2.out rfl rfl (Below.refl _ _)
     | false =>
       have HF2 : Hid (firstX (c :: t)=(0,0)):=by show _=_;rw [HF.out,if_neg (by simp),if_neg (by simp)]
       clear hs0 hl hlen0 hc hd HF hq hs1 h61 ha hb
       go_enter Tryz.func33,Tryz.ntmps33
       go_wp2
       refine wp_scope_goes' 3 (fun C HC=>?_)
       go_wp2_with (first|(go_at_call 78;(with_reducible refine (HL.out _).mono ?_);rintro e w1 ⟨rfl,rfl⟩)|(go_at_call 79;(with_reducible refine (HD.out _).mono ?_);rintro e w1 ⟨rfl,rfl⟩)|(go_at_call 31;(with_reducible refine (HM.out _).mono ?_);rintro e w1 ⟨rfl,rfl⟩)|(go_at_call 81;(with_reducible refine HR.out.mono ?_);rintro e w1 ⟨rfl,hb1⟩)|(go_at_call 83;(with_reducible refine (HA.out _).mono ?_);rintro e w1 ⟨rfl,rfl⟩)|(go_at_call 83;(with_reducible refine (HB.out _).mono ?_);rintro e w1 ⟨rfl,rfl⟩))
       go_step3
       change ∃ rest,findLabel C 3=some rest∧rest.wp Tryz.prog (Exit.goes Tryz.prog 2 C _) _ _
       refine ⟨_,by rw [HC.out];rfl,?_⟩
       go_wp2_with (first|(go_at_call 78;(with_reducible refine (HL.out _).mono ?_);rintro e w1 ⟨rfl,rfl⟩)|(go_at_call 79;(with_reducible refine (HD.out _).mono ?_);rintro e w1 ⟨rfl,rfl⟩)|(go_at_call 31;(with_reducible refine (HM.out _).mono ?_);rintro e w1 ⟨rfl,rfl⟩)|(go_at_call 81;(with_reducible refine HR.out.mono ?_);rintro e w1 ⟨rfl,hb1⟩)|(go_at_call 83;(with_reducible refine (HA.out _).mono ?_);rintro e w1 ⟨rfl,rfl⟩)|(go_at_call 83;(with_reducible refine (HB.out _).mono ?_);rintro e w1 ⟨rfl,rfl⟩))
       go_step3
       go_wp2_with (first|(go_at_call 78;(with_reducible refine (HL.out _).mono ?_);rintro e w1 ⟨rfl,rfl⟩)|(go_at_call 79;(with_reducible refine (HD.out _).mono ?_);rintro e w1 ⟨rfl,rfl⟩)|(go_at_call 31;(with_reducible refine (HM.out _).mono ?_);rintro e w1 ⟨rfl,rfl⟩)|(go_at_call 81;(with_reducible refine HR.out.mono ?_);rintro e w1 ⟨rfl,hb1⟩)|(go_at_call 83;(with_reducible refine (HA.out _).mono ?_);rintro e w1 ⟨rfl,rfl⟩)|(go_at_call 83;(with_reducible refine (HB.out _).mono ?_);rintro e w1 ⟨rfl,rfl⟩))
       rw [Exit.goes_ret]
       go_ret2
       exact XFirst.mk HF2.out rfl rfl (Below.refl _ _)
  ·have t2 : ((s[1].toNat : Int) == 61)=false:=by
    rw [beq_eq_false_iff_ne]
    intro e
    exact h61 (UInt8.toNat_inj.1 (by show _=61;omega))
   have hno : ¬ (t[0]?=some 61∧a=true):=fun h=>h61 (by have h2:=h.1;rw [hs1] at h2;injection h2)
   cases b with
   | true =>
     have HF2 : Hid (firstX (c :: t)=(4,1)):=by show _=_;rw [HF.out,if_neg hno,if_pos rfl]
     clear hs0 hl hlen0 hc hd HF hq hs1 h61 ha hb hno
     go_enter Tryz.func33,Tryz.ntmps33
     go_wp2
     refine wp_scope_goes' 3 (fun C HC=>?_)
     go_wp2_with (first|(go_at_call 78;(with_reducible refine (HL.out _).mono ?_);rintro e w1 ⟨rfl,rfl⟩)|(go_at_call 79;(with_reducible refine (HD.out _).mono ?_);rintro e w1 ⟨rfl,rfl⟩)|(go_at_call 31;(with_reducible refine (HM.out _).mono ?_);rintro e w1 ⟨rfl,rfl⟩)|(go_at_call 81;(with_reducible refine HR.out.mono ?_);rintro e w1 ⟨rfl,hb1⟩)|(go_at_call 83;(with_reducible refine (HA.out _).mono ?_);rintro e w1 ⟨rfl,rfl⟩)|(go_at_call 83;(with_reducible refine (HB.out _).mono ?_);rintro e w1 ⟨rfl,rfl⟩))
     go_step3
     change ∃ rest,findLabel C 3=some rest∧rest.wp Tryz.prog (Exit.goes Tryz.prog 2 C _) _ _
     refine ⟨_,by rw [HC.out];rfl,?_⟩
     go_wp2_with (first|(go_at_call 78;(with_reducible refine (HL.out _).mono ?_);rintro e w1 ⟨rfl,rfl⟩)|(go_at_call 79;(with_reducible refine (HD.out _).mono ?_);rintro e w1 ⟨rfl,rfl⟩)|(go_at_call 31;(with_reducible refine (HM.out _).mono ?_);rintro e w1 ⟨rfl,rfl⟩)|(go_at_call 81;(with_reducible refine HR.out.mono ?_);rintro e w1 ⟨rfl,hb1⟩)|(go_at_call 83;(with_reducible refine (HA.out _).mono ?_);rintro e w1 ⟨rfl,rfl⟩)|(go_at_call 83;(with_reducible refine (HB.out _).mono ?_);rintro e w1 ⟨rfl,rfl⟩))
     rw [Exit.goes_ret]
     go_ret2
     exact XFirst.mk HF2.out rfl rfl (Below.refl _ _)
   | false =>
     have HF2 : Hid (firstX (c :: t)=(0,0)):=by show _=_;rw [HF.out,if_neg hno,if_neg (by simp)]
     clear hs0 hl hlen0 hc hd HF hq hs1 h61 ha hb hno
     go_enter Tryz.func33,Tryz.ntmps33
     go_wp2
     refine wp_scope_goes' 3 (fun C HC=>?_)
     go_wp2_with (first|(go_at_call 78;(with_reducible refine (HL.out _).mono ?_);rintro e w1 ⟨rfl,rfl⟩)|(go_at_call 79;(with_reducible refine (HD.out _).mono ?_);rintro e w1 ⟨rfl,rfl⟩)|(go_at_call 31;(with_reducible refine (HM.out _).mono ?_);rintro e w1 ⟨rfl,rfl⟩)|(go_at_call 81;(with_reducible refine HR.out.mono ?_);rintro e w1 ⟨rfl,hb1⟩)|(go_at_call 83;(with_reducible refine (HA.out _).mono ?_);rintro e w1 ⟨rfl,rfl⟩)|(go_at_call 83;(with_reducible refine (HB.out _).mono ?_);rintro e w1 ⟨rfl,rfl⟩))
     go_step3
     change ∃ rest,findLabel C 3=some rest∧rest.wp Tryz.prog (Exit.goes Tryz.prog 2 C _) _ _
     refine ⟨_,by rw [HC.out];rfl,?_⟩
     go_wp2_with (first|(go_at_call 78;(with_reducible refine (HL.out _).mono ?_);rintro e w1 ⟨rfl,rfl⟩)|(go_at_call 79;(with_reducible refine (HD.out _).mono ?_);rintro e w1 ⟨rfl,rfl⟩)|(go_at_call 31;(with_reducible refine (HM.out _).mono ?_);rintro e w1 ⟨rfl,rfl⟩)|(go_at_call 81;(with_reducible refine HR.out.mono ?_);rintro e w1 ⟨rfl,hb1⟩)|(go_at_call 83;(with_reducible refine (HA.out _).mono ?_);rintro e w1 ⟨rfl,rfl⟩)|(go_at_call 83;(with_reducible refine (HB.out _).mono ?_);rintro e w1 ⟨rfl,rfl⟩))
     go_step3
     go_wp2_with (first|(go_at_call 78;(with_reducible refine (HL.out _).mono ?_);rintro e w1 ⟨rfl,rfl⟩)|(go_at_call 79;(with_reducible refine (HD.out _).mono ?_);rintro e w1 ⟨rfl,rfl⟩)|(go_at_call 31;(with_reducible refine (HM.out _).mono ?_);rintro e w1 ⟨rfl,rfl⟩)|(go_at_call 81;(with_reducible refine HR.out.mono ?_);rintro e w1 ⟨rfl,hb1⟩)|(go_at_call 83;(with_reducible refine (HA.out _).mono ?_);rintro e w1 ⟨rfl,rfl⟩)|(go_at_call 83;(with_reducible refine (HB.out _).mono ?_);rintro e w1 ⟨rfl,rfl⟩))
     rw [Exit.goes_ret]
     go_ret2
     exact XFirst.mk HF2.out rfl rfl (Below.refl _ _)
 ·have t1 : decide (1 < (s.size : Int))=false:=by simp;omega
  have hno : ¬ (t[0]?=some 61∧a=true):=fun h=>by have:=(List.getElem?_eq_some_iff.1 h.1).1;omega
  cases b with
  | true =>
    have HF2 : Hid (firstX (c :: t)=(4,1)):=by show _=_;rw [HF.out,if_neg hno,if_pos rfl]
    clear hs0 hl hlen0 hc hd HF hq ha hb hno
    go_enter Tryz.func33,Tryz.ntmps33
    go_wp2
    refine wp_scope_goes' 3 (fun C HC=>?_)
    go_wp2_with (first|(go_at_call 78;(with_reducible refine (HL.out _).mono ?_);rintro e w1 ⟨rfl,rfl⟩)|(go_at_call 79;(with_reducible refine (HD.out _).mono ?_);rintro e w1 ⟨rfl,rfl⟩)|(go_at_call 31;(with_reducible refine (HM.out _).mono ?_);rintro e w1 ⟨rfl,rfl⟩)|(go_at_call 81;(with_reducible refine HR.out.mono ?_);rintro e w1 ⟨rfl,hb1⟩)|(go_at_call 83;(with_reducible refine (HA.out _).mono ?_);rintro e w1 ⟨rfl,rfl⟩)|(go_at_call 83;(with_reducible refine (HB.out _).mono ?_);rintro e w1 ⟨rfl,rfl⟩))
    go_step3
    change ∃ rest,findLabel C 3=some rest∧rest.wp Tryz.prog (Exit.goes Tryz.prog 2 C _) _ _
    refine ⟨_,by rw [HC.out];rfl,?_⟩
    go_wp2_with (first|(go_at_call 78;(with_reducible refine (HL.out _).mono ?_);rintro e w1 ⟨rfl,rfl⟩)|(go_at_call 79;(with_reducible refine (HD.out _).mono ?_);rintro e w1 ⟨rfl,rfl⟩)|(go_at_call 31;(with_reducible refine (HM.out _).mono ?_);rintro e w1 ⟨rfl,rfl⟩)|(go_at_call 81;(with_reducible refine HR.out.mono ?_);rintro e w1 ⟨rfl,hb1⟩)|(go_at_call 83;(with_reducible refine (HA.out _).mono ?_);rintro e w1 ⟨rfl,rfl⟩)|(go_at_call 83;(with_reducible refine (HB.out _).mono ?_);rintro e w1 ⟨rfl,rfl⟩))
    rw [Exit.goes_ret]
    go_ret2
    exact XFirst.mk HF2.out rfl rfl (Below.refl _ _)
  | false =>
    have HF2 : Hid (firstX (c :: t)=(0,0)):=by show _=_;rw [HF.out,if_neg hno,if_neg (by simp)]
    clear hs0 hl hlen0 hc hd HF hq ha hb hno
    go_enter Tryz.func33,Tryz.ntmps33
    go_wp2
    refine wp_scope_goes' 3 (fun C HC=>?_)
    go_wp2_with (first|(go_at_call 78;(with_reducible refine (HL.out _).mono ?_);rintro e w1 ⟨rfl,rfl⟩)|(go_at_call 79;(with_reducible refine (HD.out _).mono ?_);rintro e w1 ⟨rfl,rfl⟩)|(go_at_call 31;(with_reducible refine (HM.out _).mono ?_);rintro e w1 ⟨rfl,rfl⟩)|(go_at_call 81;(with_reducible refine HR.out.mono ?_);rintro e w1 ⟨rfl,hb1⟩)|(go_at_call 83;(with_reducible refine (HA.out _).mono ?_);rintro e w1 ⟨rfl,rfl⟩)|(go_at_call 83;(with_reducible refine (HB.out _).mono ?_);rintro e w1 ⟨rfl,rfl⟩))
    go_step3
    change ∃ rest,findLabel C 3=some rest∧rest.wp Tryz.prog (Exit.goes Tryz.prog 2 C _) _ _
    refine ⟨_,by rw [HC.out];rfl,?_⟩
    go_wp2_with (first|(go_at_call 78;(with_reducible refine (HL.out _).mono ?_);rintro e w1 ⟨rfl,rfl⟩)|(go_at_call 79;(with_reducible refine (HD.out _).mono ?_);rintro e w1 ⟨rfl,rfl⟩)|(go_at_call 31;(with_reducible refine (HM.out _).mono ?_);rintro e w1 ⟨rfl,rfl⟩)|(go_at_call 81;(with_reducible refine HR.out.mono ?_);rintro e w1 ⟨rfl,hb1⟩)|(go_at_call 83;(with_reducible refine (HA.out _).mono ?_);rintro e w1 ⟨rfl,rfl⟩)|(go_at_call 83;(with_reducible refine (HB.out _).mono ?_);rintro e w1 ⟨rfl,rfl⟩))
    go_step3
    go_wp2_with (first|(go_at_call 78;(with_reducible refine (HL.out _).mono ?_);rintro e w1 ⟨rfl,rfl⟩)|(go_at_call 79;(with_reducible refine (HD.out _).mono ?_);rintro e w1 ⟨rfl,rfl⟩)|(go_at_call 31;(with_reducible refine (HM.out _).mono ?_);rintro e w1 ⟨rfl,rfl⟩)|(go_at_call 81;(with_reducible refine HR.out.mono ?_);rintro e w1 ⟨rfl,hb1⟩)|(go_at_call 83;(with_reducible refine (HA.out _).mono ?_);rintro e w1 ⟨rfl,rfl⟩)|(go_at_call 83;(with_reducible refine (HB.out _).mono ?_);rintro e w1 ⟨rfl,rfl⟩))
    rw [Exit.goes_ret]
    go_ret2
    exact XFirst.mk HF2.out rfl rfl (Below.refl _ _)
theorem first_calls {w : World} (hv : XVars w) (s : ByteArray) (l : List UInt8) (hl : s.data.toList=l) (h0 : 0 < s.size) (hs : s.size≤1000) :
 Calls Tryz.prog 33 #[.string s] w (XFirst w l):=by
 cases l with
 | nil =>
   have : s.data.toList.length=s.size:=by simp
   rw [hl] at this;simp at this;omega
 | cons c t =>
   cases h1 : xletter c with
   | true=>exact first_word hv s c t hl hs h1
   | false =>
     cases h2 : xdigit c with
     | true=>exact first_number hv s c t hl hs h1 h2
     | false =>
       by_cases h3 : c.toNat=39
       ·exact first_quoted hv s c t hl hs h1 h2 h3
       ·exact first_sign hv s c t hl hs h1 h2 h3
end Go.Proofs.YtefcbgnckgapgaaGreatDoor
