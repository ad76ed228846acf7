/- The document's own answer on words. | Queries: words that are kept, and names, as the document asks. | The document's Right of values. | Queries: which items are right. | Queries: which rows of items are right. | Queries: what a value may be that has a text; what an expression has. -/
import Derived.Test.YtefcbgnckgapgaaGreatDoorM3
import Derived.Test.YtefcbgnckgapgaaGreatDoorE1e
import Derived.Lib.Hide
import Derived.Test.YtefcbgnckgapgaaGreatDoorV4
namespace Go.Proofs.YtefcbgnckgapgaaGreatDoor
open Go.RowKit Go.Lib Go.Op
def RWordTo (l : List UInt8) (k : Nat) : Prop:=(∀ c,0 < k→l[0]?=some c→letterB c=true)∧∀ j x,j < k→l[j]?=some x→charB x=true
theorem RWordTo.step {l : List UInt8} {k : Nat} (h : RWordTo l k) {c : UInt8} (hk : l[k]?=some c) (hc : charB c=true) (h0 : k=0→letterB c=true) : RWordTo l (k+1):=by
 refine ⟨fun x _ hx=>?_,fun j x hj hx=>?_⟩
 ·rcases Nat.eq_zero_or_pos k with e|e
  ·subst e
   rw [hk] at hx
   injection hx with hx
   rw [← hx];exact h0 rfl
  ·exact h.1 x e hx
 ·by_cases e : j=k
  ·subst e
   rw [hk] at hx
   injection hx with hx
   rw [← hx];exact hc
  ·exact h.2 j x (by omega) hx
theorem RWordTo.fin {l : List UInt8} (h : RWordTo l l.length) (h1 : 1≤l.length) (h2 : l.length≤16) : wordB l=true :=
 wordB_yes (List.getElem?_eq_getElem (by omega)) (h.1 _ (by omega) (List.getElem?_eq_getElem (by omega))) h2 fun k x hx=>h.2 k x (List.getElem?_eq_some_iff.1 hx).1 hx
set_option maxHeartbeats 4000000 in
set_option maxRecDepth 100000 in
theorem rword_calls (s : ByteArray) (w : World) (hs : s.size≤maxLen) :
 Calls Tryz.prog 97 #[.string s] w fun e w'=>e=.returned (.bool (wordB s.data.toList))∧w=w':=by
 unfold maxLen at hs
 have hsl : s.data.toList.length=s.size:=by simp
 generalize hr : wordB s.data.toList=r
 have Hr : Hid (wordB s.data.toList=r):=hr
 have Hsl : Hid (s.data.toList.length=s.size):=hsl
 clear hr hsl
 go_enter Tryz.func97,Tryz.ntmps97
 go_wp2
 go_loop [3,4,5] (fun i x y=>∃ k : Nat,k≤s.size∧i=.int .i64 k∧Hid (RWordTo s.data.toList k)) (fun i _ _=>s.size - (RowKit.intOf i).toNat)
 case atStart=>exact ⟨0,Nat.zero_le _,rfl,fun c h=>absurd h (Nat.not_lt_zero 0),fun j x hj=>absurd hj (Nat.not_lt_zero j)⟩
 case round =>
  obtain ⟨k,hk,rfl,HK⟩:=hrel
  by_cases hlt : k < s.size
  ·have hx : s.data.toList[k]?=some s[k]:=by
    rw [List.getElem?_eq_getElem (by rw [Hsl.out];exact hlt)]
    rfl
   have hb : s[k].toNat < 256:=s[k].toNat_lt
   have hstep:=fun h1 h2=>hid (HK.out.step hx h1 h2)
   have hnot:=fun h=>(hid (Hr.out.symm.trans (wordB_not hx h)) : Hid (r=false))
   have hx0 : ∀ j,j=k→s.data.toList[j]?=some s[k]:=fun j e=>by rw [e];exact hx
   have hfirst:=fun (e : 0=k) (hle : letterB s[k]=false)=>(hid (Hr.out.symm.trans (wordB_first (l:=s.data.toList) (c:=s[k]) (hx0 0 e) hle)) : Hid (r=false))
   have hlo : letterB s[k]=decide (97≤s[k].toNat∧s[k].toNat≤122):=rfl
   have hco:=charB_of (c:=s[k])
   rw [hlo] at hstep hfirst
   rw [hco] at hstep hnot
   clear hlo hco hx hx0
   by_cases a1 : 97≤s[k].toNat∧s[k].toNat≤122
   ·have hst:=hstep (by simp [a1]) (fun _=>by simp [a1])
    obtain ⟨b1,b2⟩:=a1
    clear hstep hnot hfirst
    go_wp2
    go_round
    case rel=>exact ⟨k+1,by omega,by go_num,hst⟩
    case measure=>simp [RowKit.intOf];omega
   ·by_cases h0 : k=0
    ·have hst:=(hfirst h0.symm (decide_eq_false a1)).out
     subst hst
     subst h0
     have h3 : (s[0].toNat < 97)∨(97≤s[0].toNat∧122 < s[0].toNat):=by omega
     clear hstep hnot hfirst a1
     rcases h3 with h3|⟨h3,h4⟩
     ·go_wp2
      go_ret
      exact ⟨rfl,rfl⟩
     ·have hd : decide ((s[0].toNat : Int)≤122)=false:=by simp;omega
      go_wp2
      go_ret
      exact ⟨rfl,rfl⟩
    ·have hk0 : ((k : Int) == 0)=false:=by rw [beq_eq_false_iff_ne];omega
     have go1 : ∀ (_ : s[k].toNat=95∨(48≤s[k].toNat∧s[k].toNat≤57)),Hid (RWordTo s.data.toList (k+1)):=fun h=>hstep (by simp;omega) (fun e=>absurd e h0)
     have go0 : ∀ (_ : ¬ s[k].toNat=95) (_ : ¬ (48≤s[k].toNat∧s[k].toNat≤57)),Hid (r=false):=fun h1 h2=>hnot (by simp;omega)
     clear hstep hnot hfirst
     by_cases a2 : s[k].toNat=95
     ·have hst:=go1 (.inl a2)
      have ht : ((s[k].toNat : Int) != 95)=false:=by rw [bne_eq_false_iff_eq];omega
      have h3 : s[k].toNat < 97:=by omega
      clear go1 go0 a1
      go_wp2
      go_round
      case rel=>exact ⟨k+1,by omega,by go_num,hst⟩
      case measure=>simp [RowKit.intOf];omega
     have ht : ((s[k].toNat : Int) != 95)=true:=by rw [bne_iff_ne];omega
     by_cases a3 : 48≤s[k].toNat∧s[k].toNat≤57
     ·have hst:=go1 (.inr a3)
      obtain ⟨b1,b2⟩:=a3
      have h3 : s[k].toNat < 97:=by omega
      clear go1 go0 a1 a2
      go_wp2
      go_round
      case rel=>exact ⟨k+1,by omega,by go_num,hst⟩
      case measure=>simp [RowKit.intOf];omega
     ·have hst:=(go0 a2 a3).out
      subst hst
      have h3 : (s[k].toNat < 97∧s[k].toNat < 48)∨(s[k].toNat < 97∧48≤s[k].toNat∧57 < s[k].toNat)∨(97≤s[k].toNat∧122 < s[k].toNat∧48≤s[k].toNat∧57 < s[k].toNat):=by omega
      clear go1 go0 a1 a2 a3
      rcases h3 with ⟨h3,h4⟩|⟨h3,h4,h5⟩|⟨h3,h4,h5,h6⟩
      ·go_wp2
       go_ret
       exact ⟨rfl,rfl⟩
      ·go_wp2
       go_ret
       exact ⟨rfl,rfl⟩
      ·have hd : decide ((s[k].toNat : Int)≤122)=false:=by simp;omega
       go_wp2
       go_ret
       exact ⟨rfl,rfl⟩
  ·obtain rfl : k=s.size:=by omega
   by_cases h1 : s.size < 1
   ·have hf : r=false:=Hr.out.symm.trans (by
     have : s.data.toList=[]:=List.eq_nil_of_length_eq_zero (by rw [Hsl.out];omega)
     rw [this];rfl)
    subst hf
    have hd : decide (1≤(s.size : Int))=false:=by simp;omega
    go_wp2
    go_ret
    exact ⟨rfl,rfl⟩
   by_cases h2 : 16 < s.size
   ·have hf : r=false:=Hr.out.symm.trans (wordB_long (by rw [Hsl.out];exact h2))
    subst hf
    have hd : decide ((s.size : Int)≤16)=false:=by simp;omega
    go_wp2
    go_ret
    exact ⟨rfl,rfl⟩
   have hf : r=true:=Hr.out.symm.trans ((show RWordTo s.data.toList s.data.toList.length by rw [Hsl.out];exact HK.out).fin (by rw [Hsl.out];omega) (by rw [Hsl.out];omega))
   subst hf
   have hd : decide ((s.size : Int)≤16)=true:=by simp;omega
   go_wp2
   go_ret
   exact ⟨rfl,rfl⟩
end Go.Proofs.YtefcbgnckgapgaaGreatDoor
namespace Go.Proofs.YtefcbgnckgapgaaGreatDoor
open Go.RowKit Go.Lib Go.Op
def keysV : Array Value:=#[.string ⟨#[115,101,113]⟩,.string ⟨#[116,104,101,110]⟩,.string ⟨#[110,111,116]⟩,.string ⟨#[111,114]⟩,.string ⟨#[119,104,101,114,101]⟩,.string ⟨#[97,110,100]⟩,.string ⟨#[119,105,116,104,105,110]⟩,.string ⟨#[98,121]⟩,.string ⟨#[112,105,99,107]⟩,.string ⟨#[97,110,121]⟩,.string ⟨#[110,101,120,116]⟩,.string ⟨#[115,116,114,105,99,116]⟩,.string ⟨#[116,114,117,101]⟩,.string ⟨#[102,97,108,115,101]⟩,.string ⟨#[99,111,117,110,116]⟩,.string ⟨#[115,117,109]⟩,.string ⟨#[109,105,110]⟩,.string ⟨#[109,97,120]⟩]
theorem keysV_is : keysV=(keysL.map (fun b=>Value.string (strB b))).toArray:=rfl
theorem keysV_at {k : Nat} {x : List UInt8} (h : keysL[k]?=some x) : keysV[k]?=some (.string (strB x)):=by
 rw [keysV_is]
 simp [h]
set_option maxHeartbeats 1000000 in
set_option maxRecDepth 100000 in
theorem rkey_calls (b : List UInt8) (w : World) : Calls Tryz.prog 98 #[.string (strB b)] w fun e w'=>e=.returned (.bool (keyB b))∧Below w.heap.size w w':=by
 obtain ⟨z,hz⟩ : ∃ z,keyB b=z:=⟨_,rfl⟩
 rw [hz]
 have Hz:=hid hz
 have HB0:=hid ((Below.refl w.heap.size w).alloc (Nat.le_refl _) (.cells keysV 9))
 clear hz
 go_enter Tryz.func98,Tryz.ntmps98
 go_wp2
 go_loop [4] (fun n=>∃ k : Nat,n=.int .i64 k∧k≤18∧Hid (∀ j x,j < k→keysL[j]?=some x→x≠b)) (fun n=>18 - (RowKit.intOf n).toNat)
 case atStart=>exact ⟨0,rfl,Nat.zero_le _,fun j x hj=>absurd hj (Nat.not_lt_zero j)⟩
 case round =>
  obtain ⟨k,rfl,hk,HK⟩:=hrel
  by_cases hlt : k < 18
  ·obtain ⟨x,hx⟩ : ∃ x,keysL[k]?=some x:=⟨_,List.getElem?_eq_getElem (by exact hlt)⟩
   have hc : (w.alloc (.cells keysV 9)).cell? ⟨w.heap.size,k,none⟩=some (.string (strB x)):=tnew w keysV 9 k (keysV_at hx)
   unfold keysV at hc
   by_cases he : x=b
   ·have HR : Hid (z=true):=by
     show z=_
     rw [← Hz.out]
     unfold keyB
     rw [List.contains_iff_mem]
     exact he ▸ List.mem_of_getElem? hx
    have ht : ((strB x).toList == (strB b).toList)=true:=by rw [he];simp
    clear hx HK he
    go_wp2
    go_ret
    exact ⟨tbool HR.out.symm,HB0.out⟩
   ·have ht : ((strB x).toList == (strB b).toList)=false:=by rw [tB_list,tB_list,beq_eq_false_iff_ne];exact he
    have HN : Hid (∀ j y,j < k+1→keysL[j]?=some y→y≠b):=fun j y hj hy=>by
     by_cases hjk : j=k
     ·subst hjk
      rw [hx] at hy
      injection hy with hy
      rw [← hy];exact he
     ·exact HK.out j y (by omega) hy
    clear hx HK he
    go_wp2
    go_round
    case rel=>exact ⟨k+1,by go_num,by omega,HN⟩
    case measure=>simp [RowKit.intOf];omega
  ·obtain rfl : k=18:=by omega
   have HR : Hid (z=false):=by
    show z=_
    rw [← Hz.out]
    unfold keyB
    rw [← Bool.not_eq_true,List.contains_iff_mem]
    intro hm
    obtain ⟨j,hj⟩:=List.getElem?_of_mem hm
    exact HK.out j b (List.getElem?_eq_some_iff.1 hj).1 hj rfl
   clear HK
   go_wp2
   go_ret
   exact ⟨tbool HR.out.symm,HB0.out⟩
set_option maxRecDepth 100000 in
theorem rname_calls' (b : List UInt8) (w : World) (hb : b.length≤1000000) : Calls Tryz.prog 62 #[.string (strB b)] w fun e w'=>e=.returned (.bool (nameB b))∧Below w.heap.size w w':=by
 have HW : Hid (Calls Tryz.prog 97 #[.string (strB b)] w fun e w'=>e=.returned (.bool (wordB b))∧w=w'):=by
  show Calls _ _ _ _ _
  have h:=rword_calls (strB b) w (by unfold maxLen;rw [strB_size];omega)
  rw [strB_list] at h
  exact h
 have HK:=hid (fun W=>rkey_calls b W)
 unfold nameB
 obtain ⟨r1,h1⟩ : ∃ r,wordB b=r:=⟨_,rfl⟩
 obtain ⟨r2,h2⟩ : ∃ r,keyB b=r:=⟨_,rfl⟩
 rw [h1] at HW ⊢
 rw [h2] at HK ⊢
 clear h1 h2 hb
 cases r1 with
 | false =>
   go_enter Tryz.func62,Tryz.ntmps62
   go_wp2_with (go_at_call 97;(with_reducible refine HW.out.mono ?_);rintro e w1 ⟨rfl,rfl⟩)
   go_ret
   exact ⟨rfl,Below.refl _ _⟩
 | true =>
   go_enter Tryz.func62,Tryz.ntmps62
   go_wp2_with (first|(go_at_call 97;(with_reducible refine HW.out.mono ?_);rintro e w1 ⟨rfl,rfl⟩)|(go_at_call 98;(with_reducible refine (HK.out _).mono ?_);rintro e w2 ⟨rfl,hb2⟩;have HB2:=hid hb2;clear hb2))
   go_ret
   exact ⟨tbool (by cases r2 <;> rfl),HB2.out⟩
end Go.Proofs.YtefcbgnckgapgaaGreatDoor
namespace Go.Proofs.YtefcbgnckgapgaaGreatDoor
open Go.RowKit Go.Lib Go.Op
set_option maxHeartbeats 1000000 in
set_option maxRecDepth 100000 in
theorem rright_calls (k n : Int) (s : ByteArray) (w : World) (hs : s.size≤maxLen) :
 Calls Tryz.prog 96 #[.agg #[.int .i64 k,.int .i64 n,.string s]] w fun e w'=>e=.returned (.bool (rightV k n s))∧w'=w.alloc (.cells #[.int .i64 k,.int .i64 n,.string s] 37):=by
 unfold maxLen at hs
 have hsl : s.data.toList.length=s.size:=by simp
 by_cases hse : s.data.toList=[]
 ·obtain rfl:=vempty hse
  clear hsl hse hs
  by_cases h3 : k=3
  ·subst h3
   rw [rightV_3]
   go_enter Tryz.func96,Tryz.ntmps96
   go_wp2
   all_goals (go_ret;exact ⟨vret_bool (by simp;omega),rfl⟩)
  by_cases h1 : k=1
  ·subst h1
   rw [rightV_1]
   go_enter Tryz.func96,Tryz.ntmps96
   go_wp2
   all_goals (go_ret;exact ⟨vret_bool (by simp;omega),rfl⟩)
  by_cases h2 : k=2
  ·subst h2
   rw [rightV_2]
   by_cases hn : n=0
   ·subst hn
    go_enter Tryz.func96,Tryz.ntmps96
    go_wp2
    all_goals (go_ret;exact ⟨vret_bool (by simp),rfl⟩)
   ·go_enter Tryz.func96,Tryz.ntmps96
    go_wp2
    all_goals (go_ret;exact ⟨vret_bool (by simp;omega),rfl⟩)
  ·rw [rightV_not h1 h2 h3]
   go_enter Tryz.func96,Tryz.ntmps96
   go_wp2
   all_goals (go_ret;exact ⟨vret_bool (by simp),rfl⟩)
 ·have ha : (s.toList == [])=false:=by rw [beq_eq_false_iff_ne,vtoL];exact hse
  have hb : (!s.toList.isEmpty)=true:=by rw [vtoL];simpa using hse
  have hc : s.toList.isEmpty=false:=by rw [vtoL];simpa using hse
  by_cases h3 : k=3
  ·subst h3
   rw [rightV_3]
   go_enter Tryz.func96,Tryz.ntmps96
   go_wp2
   all_goals (go_ret;exact ⟨vret_bool (by first|rfl|(simp [hse])|(simp;omega)),rfl⟩)
  by_cases h1 : k=1
  ·subst h1
   rw [rightV_1]
   go_enter Tryz.func96,Tryz.ntmps96
   go_wp2
   all_goals (go_ret;exact ⟨vret_bool (by first|rfl|(simp [hse])|(simp;omega)),rfl⟩)
  by_cases h2 : k=2
  ·subst h2
   rw [rightV_2]
   by_cases hn : n=0
   ·subst hn
    clear ha hb hc
    go_enter Tryz.func96,Tryz.ntmps96
    go_wp2
    all_goals (go_ret;exact ⟨vret_bool (by simp [hsl];try omega),rfl⟩)
   ·clear ha hb hc
    go_enter Tryz.func96,Tryz.ntmps96
    go_wp2
    all_goals (go_ret;exact ⟨vret_bool (by simp;omega),rfl⟩)
  ·rw [rightV_not h1 h2 h3]
   go_enter Tryz.func96,Tryz.ntmps96
   go_wp2
   all_goals (go_ret;exact ⟨vret_bool (by simp),rfl⟩)
end Go.Proofs.YtefcbgnckgapgaaGreatDoor
namespace Go.Proofs.YtefcbgnckgapgaaGreatDoor
open Go.RowKit Go.Lib Go.Op
section
variable {w : World} {a : Option Addr} {c : Nat} {l : List (List UInt8)}
set_option maxRecDepth 100000 in
theorem ritem_low (n : Nat) (no : Bool) (x : ByteArray) (mode : Int) (h1 : mode < 1) : Calls Tryz.prog 69 #[.agg #[.bool no,.slice a n c,.string x,.int .i64 mode]] w fun e w'=>e=.returned (.bool false)∧Below w.heap.size w w':=by
 have HB:=hid ((Below.refl w.heap.size w).alloc (Nat.le_refl _) (.cells #[.bool no,.slice a n c,.string x,.int .i64 mode] 35))
 have t1 : decide (mode < 1)=true:=decide_eq_true h1
 clear h1
 go_enter Tryz.func69,Tryz.ntmps69
 go_wp2
 go_ret
 exact ⟨rfl,HB.out⟩
set_option maxRecDepth 100000 in
theorem ritem_high (n : Nat) (no : Bool) (x : ByteArray) (mode : Int) (h1 : ¬ mode < 1) (h2 : 3 < mode) : Calls Tryz.prog 69 #[.agg #[.bool no,.slice a n c,.string x,.int .i64 mode]] w fun e w'=>e=.returned (.bool false)∧Below w.heap.size w w':=by
 have HB:=hid ((Below.refl w.heap.size w).alloc (Nat.le_refl _) (.cells #[.bool no,.slice a n c,.string x,.int .i64 mode] 35))
 have t1 : decide (mode < 1)=false:=decide_eq_false h1
 have t2 : decide (3 < mode)=true:=decide_eq_true h2
 clear h1 h2
 go_enter Tryz.func69,Tryz.ntmps69
 go_wp2
 go_ret
 exact ⟨rfl,HB.out⟩
set_option maxRecDepth 100000 in
theorem ritem_not (n : Nat) (no : Bool) (x : ByteArray) (mode : Int) (h1 : ¬ mode < 1) (h2 : ¬ 3 < mode) (hno : no=true) (h3 : mode≠1) : Calls Tryz.prog 69 #[.agg #[.bool no,.slice a n c,.string x,.int .i64 mode]] w fun e w'=>e=.returned (.bool false)∧Below w.heap.size w w':=by
 have HB:=hid ((Below.refl w.heap.size w).alloc (Nat.le_refl _) (.cells #[.bool no,.slice a n c,.string x,.int .i64 mode] 35))
 have t1 : decide (mode < 1)=false:=decide_eq_false h1
 have t2 : decide (3 < mode)=false:=decide_eq_false h2
 have t3 : (mode != 1)=true:=by rw [bne_iff_ne];exact h3
 subst hno
 clear h1 h2 h3
 go_enter Tryz.func69,Tryz.ntmps69
 go_wp2
 go_ret
 exact ⟨rfl,HB.out⟩
set_option maxRecDepth 100000 in
theorem ritem_none (no : Bool) (x : ByteArray) (mode : Int) (h1 : ¬ mode < 1) (h2 : ¬ 3 < mode) (h3 : no=false∨mode=1) (n : Nat) (hn : n=0) : Calls Tryz.prog 69 #[.agg #[.bool no,.slice a n c,.string x,.int .i64 mode]] w fun e w'=>e=.returned (.bool false)∧Below w.heap.size w w':=by
 have t1 : decide (mode < 1)=false:=decide_eq_false h1
 have t2 : decide (3 < mode)=false:=decide_eq_false h2
 subst hn
 have HB:=hid ((Below.refl w.heap.size w).alloc (Nat.le_refl _) (.cells #[.bool no,.slice a 0 c,.string x,.int .i64 mode] 35))
 clear h1 h2
 cases no with
 | false =>
   clear h3
   go_enter Tryz.func69,Tryz.ntmps69
   go_wp2
   go_ret
   exact ⟨rfl,HB.out⟩
 | true =>
   have h3' : mode=1:=h3.resolve_left (by simp)
   subst h3'
   have t3 : ((1 : Int) != 1)=false:=rfl
   clear h3
   go_enter Tryz.func69,Tryz.ntmps69
   go_wp2
   go_ret
   exact ⟨rfl,HB.out⟩
set_option maxRecDepth 100000 in
theorem ritem_many (no : Bool) (x : ByteArray) (mode : Int) (h1 : ¬ mode < 1) (h2 : ¬ 3 < mode) (h3 : no=false∨mode=1) (n : Nat) (hn : 3 < n) : Calls Tryz.prog 69 #[.agg #[.bool no,.slice a n c,.string x,.int .i64 mode]] w fun e w'=>e=.returned (.bool false)∧Below w.heap.size w w':=by
 have t1 : decide (mode < 1)=false:=decide_eq_false h1
 have t2 : decide (3 < mode)=false:=decide_eq_false h2
 have u1 : decide (0 < n)=true:=decide_eq_true (by omega)
 have u2 : decide ((n : Int)≤3)=false:=decide_eq_false (by omega)
 have HB:=hid ((Below.refl w.heap.size w).alloc (Nat.le_refl _) (.cells #[.bool no,.slice a n c,.string x,.int .i64 mode] 35))
 clear h1 h2
 cases no with
 | false =>
   clear h3
   go_enter Tryz.func69,Tryz.ntmps69
   go_wp2
   go_ret
   exact ⟨rfl,HB.out⟩
 | true =>
   have h3' : mode=1:=h3.resolve_left (by simp)
   subst h3'
   have t3 : ((1 : Int) != 1)=false:=rfl
   clear h3
   go_enter Tryz.func69,Tryz.ntmps69
   go_wp2
   go_ret
   exact ⟨rfl,HB.out⟩
set_option maxRecDepth 100000 in
theorem ritem_some (no : Bool) (x : ByteArray) (mode : Int) (h1 : ¬ mode < 1) (h2 : ¬ 3 < mode) (h3 : no=false∨mode=1) (n : Nat) (hn : 0 < n) (hn3 : n≤3) (z : Bool) (hu : ∀ W,Below w.heap.size w W→Calls Tryz.prog 70 #[.slice a n c] W fun e w'=>e=.returned (.bool z)∧Below W.heap.size W w') : Calls Tryz.prog 69 #[.agg #[.bool no,.slice a n c,.string x,.int .i64 mode]] w fun e w'=>e=.returned (.bool z)∧Below w.heap.size w w':=by
 have t1 : decide (mode < 1)=false:=decide_eq_false h1
 have t2 : decide (3 < mode)=false:=decide_eq_false h2
 have u1 : decide (0 < n)=true:=decide_eq_true hn
 have u2 : decide ((n : Int)≤3)=true:=decide_eq_true (by omega)
 have HU:=hid hu
 clear hu hn hn3
 have HB:=hid ((Below.refl w.heap.size w).alloc (Nat.le_refl _) (.cells #[.bool no,.slice a n c,.string x,.int .i64 mode] 35))
 clear h1 h2
 cases no with
 | false =>
   clear h3
   go_enter Tryz.func69,Tryz.ntmps69
   go_wp2_with (go_at_call 70;(with_reducible refine (HU.out _ HB.out).mono ?_);rintro e w1 ⟨rfl,hb1⟩;have HB1:=hid (HB.out.trans (hb1.mono HB.out.size));clear hb1)
   go_ret
   exact ⟨tbool (by cases z <;> rfl),HB1.out⟩
 | true =>
   have h3' : mode=1:=h3.resolve_left (by simp)
   subst h3'
   have t3 : ((1 : Int) != 1)=false:=rfl
   clear h3
   go_enter Tryz.func69,Tryz.ntmps69
   go_wp2_with (go_at_call 70;(with_reducible refine (HU.out _ HB.out).mono ?_);rintro e w1 ⟨rfl,hb1⟩;have HB1:=hid (HB.out.trans (hb1.mono HB.out.size));clear hb1)
   go_ret
   exact ⟨tbool (by cases z <;> rfl),HB1.out⟩
theorem rightItem_calls {K : Nat→Prop} (i : PIt) (h : RowK nameD K w (.slice a i.ns.length c) i.ns) (hl : i.ns.length≤1000000) (hb : ∀ b∈i.ns,b.length≤1000000) (x : ByteArray) :
 Calls Tryz.prog 69 #[.agg #[.bool i.no,.slice a i.ns.length c,.string x,.int .i64 i.mode]] w fun e w'=>e=.returned (.bool (rightI i))∧Below w.heap.size w w':=by
 unfold rightI
 by_cases h1 : i.mode < 1
 ·rw [if_pos (.inl h1)]
  exact ritem_low _ _ _ _ h1
 by_cases h2 : 3 < i.mode
 ·rw [if_pos (.inr (.inl h2))]
  exact ritem_high _ _ _ _ h1 h2
 by_cases h3 : i.no=true∧i.mode≠1
 ·rw [if_pos (.inr (.inr h3))]
  exact ritem_not _ _ _ _ h1 h2 h3.1 h3.2
 rw [if_neg (fun e=>e.elim h1 (fun e=>e.elim h2 h3))]
 have h3' : i.no=false∨i.mode=1:=by
  cases hno : i.no with
  | false=>exact .inl rfl
  | true =>
    right
    by_cases hm : i.mode=1
    ·exact hm
    ·exact absurd ⟨hno,hm⟩ h3
 by_cases hn : i.ns.length=0
 ·rw [show decide (0 < i.ns.length∧i.ns.length≤3)=false by simp;omega]
  exact ritem_none _ _ _ h1 h2 h3' _ hn
 by_cases hn3 : 3 < i.ns.length
 ·rw [show decide (0 < i.ns.length∧i.ns.length≤3)=false by simp;omega]
  exact ritem_many _ _ _ h1 h2 h3' _ hn3
 rw [show decide (0 < i.ns.length∧i.ns.length≤3)=true by simp;omega,Bool.true_and]
 exact ritem_some _ _ _ h1 h2 h3' _ (by omega) (by omega) _ (fun W hW=>unlike_calls (h.low hW) hl hb)
end
end Go.Proofs.YtefcbgnckgapgaaGreatDoor
namespace Go.Proofs.YtefcbgnckgapgaaGreatDoor
open Go.RowKit Go.Lib Go.Op
def ItB (i : PIt) : Prop:=i.ns.length≤1000000∧(∀ b∈i.ns,b.length≤1000000)∧i.x.length≤1000000
theorem RowK.itemAt {K : Nat→Prop} {w : World} {a : Option Addr} {n c : Nat} {l : List PIt} (h : RowK itemD K w (.slice a n c) l) {j : Nat} {i : PIt} (hj : l[j]?=some i) : ∃ g o a' c',a=some ⟨g,o,none⟩∧w.cell? ⟨g,o+j*4,none⟩=some (.bool i.no)∧w.cell? ⟨g,o+j*4+1,none⟩=some (.slice a' i.ns.length c')∧w.cell? ⟨g,o+j*4+2,none⟩=some (.string (strB i.x))∧w.cell? ⟨g,o+j*4+3,none⟩=some (.int .i64 i.mode)∧RowK nameD K w (.slice a' i.ns.length c') i.ns:=by
 obtain ⟨a1,c1,e,_,h⟩:=h
 injection e with e1 e2 e3
 obtain ⟨g,o,cs,ea,hg,⟨a',c',hcs,hr⟩,hc⟩:=h j i hj
 subst hcs
 exact ⟨g,o,a',c',e1.trans ea,hc 0 _ rfl,hc 1 _ rfl,hc 2 _ rfl,hc 3 _ rfl,hr⟩
theorem rightIs_bad {l : List PIt} {i : PIt} (h0 : l[0]?=some i) (h : 6 < l.length∨i.no=true∨i.mode=3) : rightIs l=false:=by
 cases l with
 | nil=>rfl
 | cons i' r =>
   obtain rfl : i'=i:=by simpa using h0
   unfold rightIs
   have : (decide (6 < (i' :: r).length) || (i'.no || decide (i'.mode=3)))=true:=by
    rcases h with h|h|h
    ·simp only [h,decide_true,Bool.true_or]
    ·simp [h]
    ·simp [h]
   show (!(decide (6 < (i' :: r).length) || (i'.no || decide (i'.mode=3))) && ((i' :: r).all rightI && unlikeB ((i' :: r).map (·.x))))=_
   rw [this];rfl
theorem rightIs_good {l : List PIt} {i : PIt} (h0 : l[0]?=some i) (h1 : ¬ 6 < l.length) (h2 : i.no=false) (h3 : i.mode≠3) : rightIs l=(l.all rightI && unlikeB (l.map (·.x))):=by
 cases l with
 | nil=>simp at h0
 | cons i' r =>
   obtain rfl : i'=i:=by simpa using h0
   unfold rightIs
   have : (decide (6 < (i' :: r).length) || (i'.no || decide (i'.mode=3)))=false:=by
    rw [decide_eq_false h1,h2,decide_eq_false h3];rfl
   show (!(decide (6 < (i' :: r).length) || (i'.no || decide (i'.mode=3))) && ((i' :: r).all rightI && unlikeB ((i' :: r).map (·.x))))=_
   rw [this];rfl
section
variable {K : Nat→Prop} {w : World} {a : Option Addr} {c : Nat} {l : List PIt}
set_option maxHeartbeats 1000000 in
set_option maxRecDepth 100000 in
theorem ritems_bad (h : RowK itemD K w (.slice a l.length c) l) (hbad : l=[]∨∃ i,l[0]?=some i∧(6 < l.length∨i.no=true∨i.mode=3)) :
 Calls Tryz.prog 24 #[.slice a l.length c] w fun e w'=>e=.returned (.bool false)∧Below w.heap.size w w':=by
 rcases hbad with rfl|⟨i,h0,hb⟩
 ·clear h
  go_enter Tryz.func24,Tryz.ntmps24
  go_wp2
  go_ret
  exact ⟨rfl,Below.refl _ _⟩
 ·obtain ⟨g,o,a',c',rfl,c0,c1,c2,c3,_⟩:=h.itemAt h0
  have hpos : 0 < l.length:=(List.getElem?_eq_some_iff.1 h0).1
  obtain ⟨q,hq⟩ : ∃ q,l.length=q:=⟨_,rfl⟩
  rw [hq] at hpos hb ⊢
  simp only [Nat.zero_mul,Nat.add_zero] at c0 c1 c2 c3
  have t0 : ((q : Int) == 0)=false:=by rw [beq_eq_false_iff_ne];omega
  clear h h0 hq
  by_cases h6 : 6 < q
  ·have t1 : decide (6 < (q : Int))=true:=decide_eq_true (by omega)
   clear hb
   go_enter Tryz.func24,Tryz.ntmps24
   go_wp2
   go_ret
   exact ⟨rfl,Below.refl _ _⟩
  have t1 : decide (6 < (q : Int))=false:=decide_eq_false (by omega)
  have hb2:=hb.resolve_left h6
  clear hb
  cases hno : i.no with
  | true =>
    rw [hno] at c0
    clear hb2 hno
    go_enter Tryz.func24,Tryz.ntmps24
    go_wp2
    go_ret
    exact ⟨rfl,Below.refl _ _⟩
  | false =>
    have hm:=hb2.resolve_left (by rw [hno];simp)
    rw [hno] at c0
    rw [hm] at c3
    have t3 : ((3 : Int) == 3)=true:=rfl
    clear hb2 hno hm
    go_enter Tryz.func24,Tryz.ntmps24
    go_wp2
    go_ret
    exact ⟨rfl,Below.refl _ _⟩
set_option maxHeartbeats 2000000 in
set_option maxRecDepth 100000 in
theorem ritems_good (h : RowK itemD K w (.slice a l.length c) l) {i : PIt} (h0 : l[0]?=some i) (h6 : ¬ 6 < l.length) (hno : i.no=false) (hm : i.mode≠3) (hbd : ∀ i∈l,ItB i) :
 Calls Tryz.prog 24 #[.slice a l.length c] w fun e w'=>e=.returned (.bool (l.all rightI && unlikeB (l.map (·.x))))∧Below w.heap.size w w':=by
 obtain ⟨z,hz⟩ : ∃ z,(l.all rightI && unlikeB (l.map (·.x)))=z:=⟨_,rfl⟩
 rw [hz]
 obtain ⟨g,o,a',c',rfl,c0,c1,c2,c3,_⟩:=h.itemAt h0
 have hpos : 0 < l.length:=(List.getElem?_eq_some_iff.1 h0).1
 have H:=hid h
 obtain ⟨q,hq⟩ : ∃ q,l.length=q:=⟨_,rfl⟩
 have HQ:=hid hq
 have HZ:=hid hz
 have HBD:=hid hbd
 rw [hq] at hpos h6 ⊢
 simp only [Nat.zero_mul,Nat.add_zero] at c0 c1 c2 c3
 have t0 : ((q : Int) == 0)=false:=by rw [beq_eq_false_iff_ne];omega
 have t1 : decide (6 < (q : Int))=false:=decide_eq_false (by omega)
 have t3 : (i.mode == 3)=false:=by rw [beq_eq_false_iff_ne];exact hm
 rw [hno] at c0
 clear h h0 hq hz hbd hno hm
 go_enter Tryz.func24,Tryz.ntmps24
 go_wp2
 clear c0 c1 c2 c3 t0 t1 t3
 go_loopw [3,29] (fun v k wr=>∃ j : Nat,k=.int .i64 j∧j≤q∧Hid (∀ i∈l.take j,rightI i=true)∧Hid (OwnP nameD wr w.heap.size 9 v ((l.take j).map (·.x)))∧Hid (Below w.heap.size w wr)) (fun _ k _=>q - (RowKit.intOf k).toNat)
 case atStart=>exact ⟨0,rfl,Nat.zero_le _,fun i hi=>(by simp at hi),⟨[],rfl,World.ownsRow_nil _ _ _ _,fun c hc=>(by cases hc),fun j x hj=>(by simp at hj)⟩,Below.refl _ _⟩
 case round =>
  obtain ⟨j,rfl,hj,HA,HO,HB⟩:=hrel
  obtain ⟨va,vc,rfl⟩:=HO.out.slice
  by_cases hlt : j < q
  ·obtain ⟨y,hy⟩ : ∃ y,l[j]?=some y:=⟨_,List.getElem?_eq_getElem (by rw [HQ.out];exact hlt)⟩
   have hyb:=HBD.out y (List.mem_of_getElem? hy)
   obtain ⟨g',o',a2,c2,e,d0,d1,d2,d3,hr⟩:=(H.out.low HB.out).itemAt hy
   injection e with e
   injection e with e1 e2
   subst e1 e2
   have hba:=(Below.refl wr.heap.size wr).alloc (Nat.le_refl _) (.cells #[.bool y.no,.slice a2 y.ns.length c2,.string (strB y.x),.int .i64 y.mode] 35)
   have HRI:=hid (rightItem_calls y (hr.low hba) hyb.1 hyb.2.1 (strB y.x))
   obtain ⟨m,hm⟩ : ∃ m,y.ns.length=m:=⟨_,rfl⟩
   rw [hm] at d1 HRI hba
   have HBA:=hid (HB.out.alloc HB.out.size (.cells #[.bool y.no,.slice a2 m c2,.string (strB y.x),.int .i64 y.mode] 35))
   have HBA1:=hid hba
   have HY:=hid hy
   obtain ⟨t,ht⟩ : ∃ t,rightI y=t:=⟨_,rfl⟩
   rw [ht] at HRI
   have HT:=hid ht
   obtain ⟨p,hp⟩ : ∃ p,((l.take j).map (·.x)).length=p:=⟨_,rfl⟩
   have HP:=hid hp
   rw [hp] at HO ⊢
   clear hr hba hm hy ht hyb hp
   cases t with
   | false =>
     have hz0 : z=false:=by
      rw [← HZ.out,List.all_eq_false.2 ⟨y,List.mem_of_getElem? HY.out,by rw [HT.out];simp⟩]
      rfl
     subst hz0
     go_wp2_with (go_at_call 69;(with_reducible refine HRI.out.mono ?_);rintro e w1 ⟨rfl,hb1⟩;have HB1:=hid (HBA.out.trans (hb1.mono HBA.out.size));clear hb1)
     go_ret
     exact ⟨rfl,HB1.out⟩
   | true =>
     have HA2 : Hid (∀ i∈l.take (j+1),rightI i=true):=fun i hi=>by
      rw [List.take_add_one,HY.out] at hi
      rcases List.mem_append.1 hi with hi|hi
      ·exact HA.out i hi
      ·obtain rfl : i=y:=by simpa using hi
       exact HT.out
     have HAP : Hid (∀ w1,Below (wr.alloc (.cells #[.bool y.no,.slice a2 m c2,.string (strB y.x),.int .i64 y.mode] 35)).heap.size (wr.alloc (.cells #[.bool y.no,.slice a2 m c2,.string (strB y.x),.int .i64 y.mode] 35)) w1→∃ a9 l9 c9 w9,(Builtin.append_ #[33,33] 33 #[.slice va p vc,.slice (some ⟨w1.heap.size,0,none⟩) 1 1]).run Tryz.prog (w1.alloc (.cells #[.string (strB y.x)] 9))=.ok (.slice a9 l9 c9) w9∧Hid (OwnP nameD w9 w.heap.size 9 (.slice a9 l9 c9) ((l.take (j+1)).map (·.x)))∧Hid (Below w.heap.size w w9)):=fun w1 hb1=>by
      have hb2 : Below wr.heap.size wr w1:=HBA1.out.trans (hb1.mono HBA1.out.size)
      have hb5:=(Below.refl w1.heap.size w1).alloc (Nat.le_refl _) (.cells #[.string (strB y.x)] 9)
      have o5:=(HO.out.keep (TFr.of_below (K:=fun _=>False) hb2) (fun _ h=>h.elim)).keep (TFr.of_below (K:=fun _=>False) hb5) (fun _ h=>h.elim)
      have hsz:=HB.out.size
      obtain ⟨v9,w9,hr,ho,hg⟩:=OwnP.append (ts:=33) (ty:=33) (x:=y.x) (by kernel_rfl) strI rfl (by decide) (by decide) o5 (by have:=hb2.size;have:=hb5.size;omega) (by rw [List.length_map,List.length_take];omega) (show nameD.P _ _ [.string (strB y.x)] y.x from rfl) (heap_alloc_new w1 _)
      obtain ⟨a9,c9,rfl⟩:=ho.slice
      refine ⟨a9,_,c9,w9,hr,?_,?_⟩
      ·show OwnP _ _ _ _ _ _
       rw [List.take_add_one,HY.out]
       simpa using ho
      ·have hall : Below w.heap.size w (w1.alloc (.cells #[.string (strB y.x)] 9)):=(HB.out.trans (hb2.mono hsz)).trans (hb5.mono (by have:=hb2.size;omega))
       exact hall.grown hg hall.size (fun k hk=>(o5.own k hk).1)
     go_wp2_with (first
      | (go_at_call 69;(with_reducible refine HRI.out.mono ?_);rintro e w1 ⟨rfl,hb1⟩;have e2:=tkeep hb1 (tnew wr #[.bool y.no,.slice a2 m c2,.string (strB y.x),.int .i64 y.mode] 35 2 rfl);obtain ⟨a9,l9,c9,w9,hr9,O9,B9⟩:=HAP.out w1 hb1;clear hb1)
      | (at_builtin;refine Lib.wpList_append_run _ rfl _ _ _ _ rfl _ _ rfl rfl _ _ hr9 ?_;clear hr9))
     go_round
     case rel=>exact ⟨j+1,by go_num,by omega,HA2,O9,B9⟩
     case measure=>simp [RowKit.intOf];omega
  ·have hjq : j=l.length:=by rw [HQ.out];omega
   have hall : l.all rightI=true:=List.all_eq_true.2 (fun i hi=>HA.out i (by rw [hjq,List.take_length];exact hi))
   have hmap : (l.take j).map (·.x)=l.map (·.x):=by rw [hjq,List.take_length]
   rw [hmap] at HO ⊢
   have hz2 : unlikeB (l.map (·.x))=z:=by rw [← HZ.out,hall];rfl
   have hun:=unlike_calls HO.out.row (by rw [List.length_map,HQ.out];omega) (fun b hb=>by
    obtain ⟨i,hi,rfl⟩:=List.mem_map.1 hb
    exact (HBD.out i hi).2.2)
   obtain ⟨p,hp⟩ : ∃ p,(l.map (·.x)).length=p:=⟨_,rfl⟩
   rw [hp,hz2] at hun
   rw [hp]
   have HU:=hid hun
   clear hun hp hz2 hmap hall hjq HO HZ
   go_wp2_with (go_at_call 70;(with_reducible refine HU.out.mono ?_);rintro e w1 ⟨rfl,hb1⟩;have HB1:=hid (HB.out.trans (hb1.mono HB.out.size));clear hb1)
   go_ret
   exact ⟨rfl,HB1.out⟩
theorem rightItems_calls (h : RowK itemD K w (.slice a l.length c) l) (hbd : ∀ i∈l,ItB i) :
 Calls Tryz.prog 24 #[.slice a l.length c] w fun e w'=>e=.returned (.bool (rightIs l))∧Below w.heap.size w w':=by
 cases h0 : l[0]? with
 | none =>
   have hn : l=[]:=by
    cases l with
    | nil=>rfl
    | cons a r=>simp at h0
   have e:=ritems_bad h (.inl hn)
   subst hn
   exact e
 | some i =>
   by_cases hb : 6 < l.length∨i.no=true∨i.mode=3
   ·rw [rightIs_bad h0 hb]
    exact ritems_bad h (.inr ⟨i,h0,hb⟩)
   ·have h1 : ¬ 6 < l.length:=fun e=>hb (.inl e)
    have h2 : i.no=false:=by
     cases hn : i.no with
     | false=>rfl
     | true=>exact absurd (.inr (.inl hn)) hb
    have h3 : i.mode≠3:=fun e=>hb (.inr (.inr e))
    rw [rightIs_good h0 h1 h2 h3]
    exact ritems_good h h0 h1 h2 h3 hbd
end
end Go.Proofs.YtefcbgnckgapgaaGreatDoor
namespace Go.Proofs.YtefcbgnckgapgaaGreatDoor
open Go.RowKit Go.Lib Go.Op
def inkB (c : UInt8) : Bool:=decide (32≤c.toNat∧c.toNat≤126∧c.toNat≠39)
def writeB (v : PVal) : Bool:=v.s.all inkB && rightB v
set_option maxHeartbeats 1000000 in
set_option maxRecDepth 100000 in
theorem writable_calls (k n : Int) (s : List UInt8) (w : World) (hs : s.length≤1000000) : Calls Tryz.prog 111 #[.agg #[.int .i64 k,.int .i64 n,.string (strB s)]] w fun e w'=>e=.returned (.bool (writeB ⟨k,n,s⟩))∧Below w.heap.size w w':=by
 obtain ⟨z,hz⟩ : ∃ z,writeB ⟨k,n,s⟩=z:=⟨_,rfl⟩
 rw [hz]
 have hb0:=(Below.refl w.heap.size w).alloc (Nat.le_refl _) (.cells #[.int .i64 k,.int .i64 n,.string (strB s)] 37)
 obtain ⟨W,c,hcv,hbW,hcell⟩:=conv_bytes (w.alloc (.cells #[.int .i64 k,.int .i64 n,.string (strB s)] 37)) (strB s)
 have m0:=tkeep hbW (tnew w #[.int .i64 k,.int .i64 n,.string (strB s)] 37 0 rfl)
 have m1:=tkeep hbW (tnew w #[.int .i64 k,.int .i64 n,.string (strB s)] 37 1 rfl)
 have m2:=tkeep hbW (tnew w #[.int .i64 k,.int .i64 n,.string (strB s)] 37 2 rfl)
 have HB:=hid (hb0.trans (hbW.mono hb0.size))
 obtain ⟨q,hq⟩ : ∃ q,(strB s).size=q:=⟨_,rfl⟩
 have hql : q=s.length:=by rw [← hq,strB_size]
 rw [strB_list] at hcell
 simp only [World.size_alloc] at hcell hcv
 have HC:=hid hcell
 have HQ:=hid hql
 have HZ:=hid hz
 rw [hq] at hcv
 have hvr:=vright_calls k n (strB s) W (by rw [strB_size];unfold maxLen;omega)
 have hrv : rightV k n (strB s)=rightB ⟨k,n,s⟩:=by unfold rightV;rw [strB_list]
 rw [hrv] at hvr
 have HVR:=hid hvr
 have hqb : q≤1000000:=by omega
 clear hz hb0 hbW hcell hq hql hvr hrv
 go_enter Tryz.func111,Tryz.ntmps111
 go_wp2
 go_loop [9] (fun i=>∃ j : Nat,i=.int .i64 j∧j≤q∧Hid (∀ x∈s.take j,inkB x=true)) (fun i=>q - (RowKit.intOf i).toNat)
 case atStart=>exact ⟨0,rfl,Nat.zero_le _,fun x hx=>by simp at hx⟩
 case round =>
  obtain ⟨j,rfl,hj,HK⟩:=hrel
  by_cases hlt : j < q
  ·obtain ⟨x,hx⟩ : ∃ x,s[j]?=some x:=⟨_,List.getElem?_eq_getElem (by rw [← HQ.out];exact hlt)⟩
   have hcx:=HC.out j x hx
   have Hx:=hid hx
   have hx8:=x.toNat_lt
   have hstep:=fun hch : inkB x=true=>(fun y hy=>by
    rw [List.take_add_one,Hx.out] at hy
    rcases List.mem_append.1 hy with hy|hy
    ·exact HK.out y hy
    ·obtain rfl : y=x:=by simpa using hy
     exact hch : ∀ y∈s.take (j+1),inkB y=true)
   have hfail:=fun hch : inkB x=false=>(show z=false by
    rw [← HZ.out]
    unfold writeB
    rw [show s.all inkB=false from List.all_eq_false.2 ⟨x,List.mem_of_getElem? Hx.out,by simp [hch]⟩]
    rfl)
   unfold inkB at hstep hfail
   clear hx
   generalize x.toNat=n at *
   by_cases a1 : n < 32
   ·have hz0:=hfail (by simp;omega)
    subst hz0
    have t1 : decide (n < 32)=true:=decide_eq_true a1
    clear hstep hfail
    go_wp2
    go_ret
    exact ⟨rfl,HB.out⟩
   have t1 : decide ((n : Int) < 32)=false:=decide_eq_false (by omega)
   by_cases a2 : 126 < n
   ·have hz0:=hfail (by simp;omega)
    subst hz0
    have t2 : decide (126 < n)=true:=decide_eq_true a2
    clear hstep hfail
    go_wp2
    go_ret
    exact ⟨rfl,HB.out⟩
   have t2 : decide (126 < (n : Int))=false:=decide_eq_false (by omega)
   by_cases a3 : n=39
   ·have hz0:=hfail (by simp [a3])
    subst hz0
    subst a3
    clear hstep hfail
    go_wp2
    go_ret
    exact ⟨rfl,HB.out⟩
   have t3 : ((n : Int) == 39)=false:=by rw [beq_eq_false_iff_ne];omega
   have HS:=hid (hstep (by simp;omega))
   clear hstep hfail
   go_wp2
   go_round
   case rel=>exact ⟨j+1,by go_num,by omega,HS⟩
   case measure=>simp [RowKit.intOf];omega
  ·have hall : s.all inkB=true:=List.all_eq_true.2 (fun x hx=>HK.out x (by rw [show j=s.length by rw [← HQ.out];omega,List.take_length];exact hx))
   have hz2 : rightB ⟨k,n,s⟩=z:=by rw [← HZ.out];unfold writeB;rw [hall];rfl
   rw [hz2] at HVR
   clear hall hz2 HZ
   go_wp2_with (go_at_call 127;(with_reducible refine HVR.out.mono ?_);rintro e w1 ⟨rfl,rfl⟩)
   go_ret
   exact ⟨rfl,HB.out.alloc HB.out.size _⟩
section
variable {w : World} {a : Option Addr} {c n : Nat} {vs x f : List UInt8} {vk vn : Int}
set_option maxHeartbeats 1000000 in
set_option maxRecDepth 100000 in
theorem bare_val : Calls Tryz.prog 110 #[.agg #[.int .i64 1,.int .i64 vk,.int .i64 vn,.string (strB vs),.string (strB x),.string (strB f),.slice a n c]] w fun e w'=>e=.returned (.bool (decide (x=[]∧f=[]∧n=0)))∧Below w.heap.size w w':=by
 go_enter Tryz.func110,Tryz.ntmps110
 go_wp2
 all_goals
  go_ret
  exact ⟨tbool (by simp_all [tB_list] <;> omega),((Below.refl w.heap.size w).alloc (Nat.le_refl _) _).alloc (by simp) _⟩
set_option maxHeartbeats 1000000 in
set_option maxRecDepth 100000 in
theorem bare_count : Calls Tryz.prog 110 #[.agg #[.int .i64 3,.int .i64 vk,.int .i64 vn,.string (strB vs),.string (strB x),.string (strB f),.slice a n c]] w fun e w'=>e=.returned (.bool (decide ((⟨vk,vn,vs⟩ : PVal)=noV∧f=[]∧n=0)))∧Below w.heap.size w w':=by
 go_enter Tryz.func110,Tryz.ntmps110
 go_wp2
 all_goals
  go_ret
  exact ⟨tbool (by simp_all [tB_list,noV] <;> omega),((Below.refl w.heap.size w).alloc (Nat.le_refl _) _).alloc (by simp) _⟩
set_option maxHeartbeats 1000000 in
set_option maxRecDepth 100000 in
theorem bare_field : Calls Tryz.prog 110 #[.agg #[.int .i64 2,.int .i64 vk,.int .i64 vn,.string (strB vs),.string (strB x),.string (strB f),.slice a n c]] w fun e w'=>e=.returned (.bool (decide ((⟨vk,vn,vs⟩ : PVal)=noV∧n=0)))∧Below w.heap.size w w':=by
 go_enter Tryz.func110,Tryz.ntmps110
 go_wp2
 all_goals
  go_ret
  exact ⟨tbool (by simp_all [tB_list,noV] <;> omega),((Below.refl w.heap.size w).alloc (Nat.le_refl _) _).alloc (by simp) _⟩
set_option maxHeartbeats 1000000 in
set_option maxRecDepth 100000 in
theorem bare_sum : Calls Tryz.prog 110 #[.agg #[.int .i64 4,.int .i64 vk,.int .i64 vn,.string (strB vs),.string (strB x),.string (strB f),.slice a n c]] w fun e w'=>e=.returned (.bool (decide ((⟨vk,vn,vs⟩ : PVal)=noV∧n=0)))∧Below w.heap.size w w':=by
 go_enter Tryz.func110,Tryz.ntmps110
 go_wp2
 all_goals
  go_ret
  exact ⟨tbool (by simp_all [tB_list,noV] <;> omega),((Below.refl w.heap.size w).alloc (Nat.le_refl _) _).alloc (by simp) _⟩
set_option maxHeartbeats 1000000 in
set_option maxRecDepth 100000 in
theorem bare_min : Calls Tryz.prog 110 #[.agg #[.int .i64 5,.int .i64 vk,.int .i64 vn,.string (strB vs),.string (strB x),.string (strB f),.slice a n c]] w fun e w'=>e=.returned (.bool (decide ((⟨vk,vn,vs⟩ : PVal)=noV∧n=0)))∧Below w.heap.size w w':=by
 go_enter Tryz.func110,Tryz.ntmps110
 go_wp2
 all_goals
  go_ret
  exact ⟨tbool (by simp_all [tB_list,noV] <;> omega),((Below.refl w.heap.size w).alloc (Nat.le_refl _) _).alloc (by simp) _⟩
set_option maxHeartbeats 1000000 in
set_option maxRecDepth 100000 in
theorem bare_max : Calls Tryz.prog 110 #[.agg #[.int .i64 6,.int .i64 vk,.int .i64 vn,.string (strB vs),.string (strB x),.string (strB f),.slice a n c]] w fun e w'=>e=.returned (.bool (decide ((⟨vk,vn,vs⟩ : PVal)=noV∧n=0)))∧Below w.heap.size w w':=by
 go_enter Tryz.func110,Tryz.ntmps110
 go_wp2
 all_goals
  go_ret
  exact ⟨tbool (by simp_all [tB_list,noV] <;> omega),((Below.refl w.heap.size w).alloc (Nat.le_refl _) _).alloc (by simp) _⟩
set_option maxHeartbeats 1000000 in
set_option maxRecDepth 100000 in
theorem bare_add : Calls Tryz.prog 110 #[.agg #[.int .i64 7,.int .i64 vk,.int .i64 vn,.string (strB vs),.string (strB x),.string (strB f),.slice a n c]] w fun e w'=>e=.returned (.bool (decide ((⟨vk,vn,vs⟩ : PVal)=noV∧x=[]∧f=[]∧n=2)))∧Below w.heap.size w w':=by
 go_enter Tryz.func110,Tryz.ntmps110
 go_wp2
 all_goals
  go_ret
  exact ⟨tbool (by simp_all [tB_list,noV] <;> omega),((Below.refl w.heap.size w).alloc (Nat.le_refl _) _).alloc (by simp) _⟩
set_option maxHeartbeats 1000000 in
set_option maxRecDepth 100000 in
theorem bare_sub : Calls Tryz.prog 110 #[.agg #[.int .i64 8,.int .i64 vk,.int .i64 vn,.string (strB vs),.string (strB x),.string (strB f),.slice a n c]] w fun e w'=>e=.returned (.bool (decide ((⟨vk,vn,vs⟩ : PVal)=noV∧x=[]∧f=[]∧n=2)))∧Below w.heap.size w w':=by
 go_enter Tryz.func110,Tryz.ntmps110
 go_wp2
 all_goals
  go_ret
  exact ⟨tbool (by simp_all [tB_list,noV] <;> omega),((Below.refl w.heap.size w).alloc (Nat.le_refl _) _).alloc (by simp) _⟩
set_option maxHeartbeats 1000000 in
set_option maxRecDepth 100000 in
theorem bare_none {k : Int} (h1 : k≠1) (h2 : k≠2) (h3 : k≠3) (h4 : k≠4) (h5 : k≠5) (h6 : k≠6) (h7 : k≠7) (h8 : k≠8) : Calls Tryz.prog 110 #[.agg #[.int .i64 k,.int .i64 vk,.int .i64 vn,.string (strB vs),.string (strB x),.string (strB f),.slice a n c]] w fun e w'=>e=.returned (.bool (false))∧Below w.heap.size w w':=by
 have t1 : (k == 1)=false:=by rw [beq_eq_false_iff_ne];exact h1
 have t2 : (k == 2)=false:=by rw [beq_eq_false_iff_ne];exact h2
 have t3 : (k == 3)=false:=by rw [beq_eq_false_iff_ne];exact h3
 have t4 : (k == 4)=false:=by rw [beq_eq_false_iff_ne];exact h4
 have t5 : (k == 5)=false:=by rw [beq_eq_false_iff_ne];exact h5
 have t6 : (k == 6)=false:=by rw [beq_eq_false_iff_ne];exact h6
 have t7 : (k == 7)=false:=by rw [beq_eq_false_iff_ne];exact h7
 have t8 : (k == 8)=false:=by rw [beq_eq_false_iff_ne];exact h8
 clear h1 h2 h3 h4 h5 h6 h7 h8
 go_enter Tryz.func110,Tryz.ntmps110
 go_wp2
 all_goals
  go_ret
  exact ⟨tbool (by rfl),((Below.refl w.heap.size w).alloc (Nat.le_refl _) _).alloc (by simp) _⟩
end
end Go.Proofs.YtefcbgnckgapgaaGreatDoor
