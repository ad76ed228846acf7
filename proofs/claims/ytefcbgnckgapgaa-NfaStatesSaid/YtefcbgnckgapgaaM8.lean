/- The document's own answer on words. | Queries: words that are kept, and names, as the document asks. | The document's Right of values. | Queries: which expressions are right, as the document asks, by their kinds. | Queries: which expressions are right, as the document asks: texts where none may stand. | Queries: the document's reader in memory; what it does with the token that comes. -/
import Derived.Test.YtefcbgnckgapgaaM0
import Derived.Test.YtefcbgnckgapgaaM1
import Derived.Test.YtefcbgnckgapgaaM2
import Derived.Test.YtefcbgnckgapgaaMA
import Derived.Test.YtefcbgnckgapgaaE1e
import Derived.Lib.Hide
import Derived.Test.YtefcbgnckgapgaaV4
import Derived.Deep.QuietTactic
import Derived.BigQuiet
namespace Go.Proofs.Ytefcbgnckgapgaa
open Go.RowKit Go.Lib Go.Op
def RWordTo (l : List UInt8) (k : Nat) : Prop:=(∀ c,0 < k→l[0]?=some c→letterB c=true)∧∀ j x,j < k→l[j]?=some x→charB x=true
theorem RWordTo.step {l : List UInt8} {k : Nat} (h : RWordTo l k) {c : UInt8} (hk : l[k]?=some c) (hc : charB c=true) (h0 : k=0→letterB c=true) : RWordTo l (k+1):=by
 refine ⟨fun x _ hx=>?_,fun j x hj hx=>?_⟩
 ·rcases Nat.eq_zero_or_pos k with e|e
  ·subst e
   rw [hk] at hx
   injection hx with hx
   rw [← hx];exact h0 rfl
  ·exact h.1 x e hx
 ·by_cases e : j=k
  ·subst e
   rw [hk] at hx
   injection hx with hx
   rw [← hx];exact hc
  ·exact h.2 j x (by omega) hx
theorem RWordTo.fin {l : List UInt8} (h : RWordTo l l.length) (h1 : 1≤l.length) (h2 : l.length≤16) : wordB l=true :=
 wordB_yes (List.getElem?_eq_getElem (by omega)) (h.1 _ (by omega) (List.getElem?_eq_getElem (by omega))) h2 fun k x hx=>h.2 k x (List.getElem?_eq_some_iff.1 hx).1 hx
theorem rletter_char {c : UInt8} (h : letterB c=true) : charB c=true:=by unfold charB;rw [h];rfl
set_option maxHeartbeats 4000000 in
set_option maxRecDepth 100000 in
theorem rword_calls (s : ByteArray) (w : World) (hs : s.size≤maxLen) :
 Calls Try.prog 39 #[.string s] w fun e w'=>e=.returned (.bool (wordB s.data.toList))∧w=w':=by
 unfold maxLen at hs
 have hsl : s.data.toList.length=s.size:=by simp
 generalize hr : wordB s.data.toList=r
 have Hr : Hid (wordB s.data.toList=r):=hr
 have Hsl : Hid (s.data.toList.length=s.size):=hsl
 clear hr hsl
 go_enter Try.func39,Try.ntmps39
 go_wp2
 go_loop [3,4,5] (fun i x y=>∃ k : Nat,k≤s.size∧i=.int .i64 k∧Hid (RWordTo s.data.toList k)) (fun i _ _=>s.size - (RowKit.intOf i).toNat)
 case atStart=>exact ⟨0,Nat.zero_le _,rfl,fun c h=>absurd h (Nat.not_lt_zero 0),fun j x hj=>absurd hj (Nat.not_lt_zero j)⟩
 case round =>
  obtain ⟨k,hk,rfl,HK⟩:=hrel
  by_cases hlt : k < s.size
  ·have hx : s.data.toList[k]?=some s[k]:=by
    rw [List.getElem?_eq_getElem (by rw [Hsl.out];exact hlt)]
    rfl
   have hb : s[k].toNat < 256:=s[k].toNat_lt
   have hstep:=fun h1 h2=>hid (HK.out.step hx h1 h2)
   have hnot:=fun h=>(hid (Hr.out.symm.trans (wordB_not hx h)) : Hid (r=false))
   have hx0 : ∀ j,j=k→s.data.toList[j]?=some s[k]:=fun j e=>by rw [e];exact hx
   have hfirst:=fun (e : 0=k) (hle : letterB s[k]=false)=>(hid (Hr.out.symm.trans (wordB_first (l:=s.data.toList) (c:=s[k]) (hx0 0 e) hle)) : Hid (r=false))
   have hlo : letterB s[k]=decide (97≤s[k].toNat∧s[k].toNat≤122):=rfl
   have hco:=charB_of (c:=s[k])
   rw [hlo] at hstep hfirst
   rw [hco] at hstep hnot
   clear hlo hco hx hx0
   by_cases a1 : 97≤s[k].toNat∧s[k].toNat≤122
   ·have hst:=hstep (by simp [a1]) (fun _=>by simp [a1])
    obtain ⟨b1,b2⟩:=a1
    clear hstep hnot hfirst
    go_wp2
    go_round
    case rel=>exact ⟨k+1,by omega,by go_num,hst⟩
    case measure=>simp [RowKit.intOf];omega
   ·by_cases h0 : k=0
    ·have hst:=(hfirst h0.symm (decide_eq_false a1)).out
     subst hst
     subst h0
     have h3 : (s[0].toNat < 97)∨(97≤s[0].toNat∧122 < s[0].toNat):=by omega
     clear hstep hnot hfirst a1
     rcases h3 with h3|⟨h3,h4⟩
     ·go_wp2
      go_ret
      exact ⟨rfl,rfl⟩
     ·have hd : decide ((s[0].toNat : Int)≤122)=false:=by simp;omega
      go_wp2
      go_ret
      exact ⟨rfl,rfl⟩
    ·have hk0 : ((k : Int) == 0)=false:=by rw [beq_eq_false_iff_ne];omega
     have go1 : ∀ (_ : s[k].toNat=95∨(48≤s[k].toNat∧s[k].toNat≤57)),Hid (RWordTo s.data.toList (k+1)):=fun h=>hstep (by simp;omega) (fun e=>absurd e h0)
     have go0 : ∀ (_ : ¬ s[k].toNat=95) (_ : ¬ (48≤s[k].toNat∧s[k].toNat≤57)),Hid (r=false):=fun h1 h2=>hnot (by simp;omega)
     clear hstep hnot hfirst
     by_cases a2 : s[k].toNat=95
     ·have hst:=go1 (.inl a2)
      have ht : ((s[k].toNat : Int) != 95)=false:=by rw [bne_eq_false_iff_eq];omega
      have h3 : s[k].toNat < 97:=by omega
      clear go1 go0 a1
      go_wp2
      go_round
      case rel=>exact ⟨k+1,by omega,by go_num,hst⟩
      case measure=>simp [RowKit.intOf];omega
     have ht : ((s[k].toNat : Int) != 95)=true:=by rw [bne_iff_ne];omega
     by_cases a3 : 48≤s[k].toNat∧s[k].toNat≤57
     ·have hst:=go1 (.inr a3)
      obtain ⟨b1,b2⟩:=a3
      have h3 : s[k].toNat < 97:=by omega
      clear go1 go0 a1 a2
      go_wp2
      go_round
      case rel=>exact ⟨k+1,by omega,by go_num,hst⟩
      case measure=>simp [RowKit.intOf];omega
     ·have hst:=(go0 a2 a3).out
      subst hst
      have h3 : (s[k].toNat < 97∧s[k].toNat < 48)∨(s[k].toNat < 97∧48≤s[k].toNat∧57 < s[k].toNat)∨(97≤s[k].toNat∧122 < s[k].toNat∧48≤s[k].toNat∧57 < s[k].toNat):=by omega
      clear go1 go0 a1 a2 a3
      rcases h3 with ⟨h3,h4⟩|⟨h3,h4,h5⟩|⟨h3,h4,h5,h6⟩
      ·go_wp2
       go_ret
       exact ⟨rfl,rfl⟩
      ·go_wp2
       go_ret
       exact ⟨rfl,rfl⟩
      ·have hd : decide ((s[k].toNat : Int)≤122)=false:=by simp;omega
       go_wp2
       go_ret
       exact ⟨rfl,rfl⟩
  ·obtain rfl : k=s.size:=by omega
   by_cases h1 : s.size < 1
   ·have hf : r=false:=Hr.out.symm.trans (by
     have : s.data.toList=[]:=List.eq_nil_of_length_eq_zero (by rw [Hsl.out];omega)
     rw [this];rfl)
    subst hf
    have hd : decide (1≤(s.size : Int))=false:=by simp;omega
    go_wp2
    go_ret
    exact ⟨rfl,rfl⟩
   by_cases h2 : 16 < s.size
   ·have hf : r=false:=Hr.out.symm.trans (wordB_long (by rw [Hsl.out];exact h2))
    subst hf
    have hd : decide ((s.size : Int)≤16)=false:=by simp;omega
    go_wp2
    go_ret
    exact ⟨rfl,rfl⟩
   have hf : r=true:=Hr.out.symm.trans ((show RWordTo s.data.toList s.data.toList.length by rw [Hsl.out];exact HK.out).fin (by rw [Hsl.out];omega) (by rw [Hsl.out];omega))
   subst hf
   have hd : decide ((s.size : Int)≤16)=true:=by simp;omega
   go_wp2
   go_ret
   exact ⟨rfl,rfl⟩
end Go.Proofs.Ytefcbgnckgapgaa
namespace Go.Proofs.Ytefcbgnckgapgaa
open Go.RowKit Go.Lib Go.Op
def keysV : Array Value:=#[.string ⟨#[115,101,113]⟩,.string ⟨#[116,104,101,110]⟩,.string ⟨#[110,111,116]⟩,.string ⟨#[111,114]⟩,.string ⟨#[119,104,101,114,101]⟩,.string ⟨#[97,110,100]⟩,.string ⟨#[119,105,116,104,105,110]⟩,.string ⟨#[98,121]⟩,.string ⟨#[112,105,99,107]⟩,.string ⟨#[97,110,121]⟩,.string ⟨#[110,101,120,116]⟩,.string ⟨#[115,116,114,105,99,116]⟩,.string ⟨#[116,114,117,101]⟩,.string ⟨#[102,97,108,115,101]⟩,.string ⟨#[99,111,117,110,116]⟩,.string ⟨#[115,117,109]⟩,.string ⟨#[109,105,110]⟩,.string ⟨#[109,97,120]⟩]
theorem keysV_is : keysV=(keysL.map (fun b=>Value.string (strB b))).toArray:=rfl
theorem keysV_at {k : Nat} {x : List UInt8} (h : keysL[k]?=some x) : keysV[k]?=some (.string (strB x)):=by
 rw [keysV_is]
 simp [h]
set_option maxHeartbeats 1000000 in
set_option maxRecDepth 100000 in
theorem rkey_calls (b : List UInt8) (w : World) : Calls Try.prog 40 #[.string (strB b)] w fun e w'=>e=.returned (.bool (keyB b))∧Below w.heap.size w w':=by
 obtain ⟨z,hz⟩ : ∃ z,keyB b=z:=⟨_,rfl⟩
 rw [hz]
 have Hz:=hid hz
 have HB0:=hid ((Below.refl w.heap.size w).alloc (Nat.le_refl _) (.cells keysV 9))
 clear hz
 go_enter Try.func40,Try.ntmps40
 go_wp2
 go_loop [4] (fun n=>∃ k : Nat,n=.int .i64 k∧k≤18∧Hid (∀ j x,j < k→keysL[j]?=some x→x≠b)) (fun n=>18 - (RowKit.intOf n).toNat)
 case atStart=>exact ⟨0,rfl,Nat.zero_le _,fun j x hj=>absurd hj (Nat.not_lt_zero j)⟩
 case round =>
  obtain ⟨k,rfl,hk,HK⟩:=hrel
  by_cases hlt : k < 18
  ·obtain ⟨x,hx⟩ : ∃ x,keysL[k]?=some x:=⟨_,List.getElem?_eq_getElem (by exact hlt)⟩
   have hc : (w.alloc (.cells keysV 9)).cell? ⟨w.heap.size,k,none⟩=some (.string (strB x)):=tnew w keysV 9 k (keysV_at hx)
   unfold keysV at hc
   by_cases he : x=b
   ·have HR : Hid (z=true):=by
     show z=_
     rw [← Hz.out]
     unfold keyB
     rw [List.contains_iff_mem]
     exact he ▸ List.mem_of_getElem? hx
    have ht : ((strB x).toList == (strB b).toList)=true:=by rw [he];simp
    clear hx HK he
    go_wp2
    go_ret
    exact ⟨tbool HR.out.symm,HB0.out⟩
   ·have ht : ((strB x).toList == (strB b).toList)=false:=by rw [tB_list,tB_list,beq_eq_false_iff_ne];exact he
    have HN : Hid (∀ j y,j < k+1→keysL[j]?=some y→y≠b):=fun j y hj hy=>by
     by_cases hjk : j=k
     ·subst hjk
      rw [hx] at hy
      injection hy with hy
      rw [← hy];exact he
     ·exact HK.out j y (by omega) hy
    clear hx HK he
    go_wp2
    go_round
    case rel=>exact ⟨k+1,by go_num,by omega,HN⟩
    case measure=>simp [RowKit.intOf];omega
  ·obtain rfl : k=18:=by omega
   have HR : Hid (z=false):=by
    show z=_
    rw [← Hz.out]
    unfold keyB
    rw [← Bool.not_eq_true,List.contains_iff_mem]
    intro hm
    obtain ⟨j,hj⟩:=List.getElem?_of_mem hm
    exact HK.out j b (List.getElem?_eq_some_iff.1 hj).1 hj rfl
   clear HK
   go_wp2
   go_ret
   exact ⟨tbool HR.out.symm,HB0.out⟩
set_option maxRecDepth 100000 in
theorem rname_calls' (b : List UInt8) (w : World) (hb : b.length≤1000000) : Calls Try.prog 30 #[.string (strB b)] w fun e w'=>e=.returned (.bool (nameB b))∧Below w.heap.size w w':=by
 have HW : Hid (Calls Try.prog 39 #[.string (strB b)] w fun e w'=>e=.returned (.bool (wordB b))∧w=w'):=by
  show Calls _ _ _ _ _
  have h:=rword_calls (strB b) w (by unfold maxLen;rw [strB_size];omega)
  rw [strB_list] at h
  exact h
 have HK:=hid (fun W=>rkey_calls b W)
 unfold nameB
 obtain ⟨r1,h1⟩ : ∃ r,wordB b=r:=⟨_,rfl⟩
 obtain ⟨r2,h2⟩ : ∃ r,keyB b=r:=⟨_,rfl⟩
 rw [h1] at HW ⊢
 rw [h2] at HK ⊢
 clear h1 h2 hb
 cases r1 with
 | false =>
   go_enter Try.func30,Try.ntmps30
   go_wp2_with (go_at_call 39;(with_reducible refine HW.out.mono ?_);rintro e w1 ⟨rfl,rfl⟩)
   go_ret
   exact ⟨rfl,Below.refl _ _⟩
 | true =>
   go_enter Try.func30,Try.ntmps30
   go_wp2_with (first|(go_at_call 39;(with_reducible refine HW.out.mono ?_);rintro e w1 ⟨rfl,rfl⟩)|(go_at_call 40;(with_reducible refine (HK.out _).mono ?_);rintro e w2 ⟨rfl,hb2⟩;have HB2:=hid hb2;clear hb2))
   go_ret
   exact ⟨tbool (by cases r2 <;> rfl),HB2.out⟩
end Go.Proofs.Ytefcbgnckgapgaa
namespace Go.Proofs.Ytefcbgnckgapgaa
open Go.RowKit Go.Lib Go.Op
set_option maxHeartbeats 1000000 in
set_option maxRecDepth 100000 in
theorem rright_calls (k n : Int) (s : ByteArray) (w : World) (hs : s.size≤maxLen) :
 Calls Try.prog 38 #[.agg #[.int .i64 k,.int .i64 n,.string s]] w fun e w'=>e=.returned (.bool (rightV k n s))∧w'=w.alloc (.cells #[.int .i64 k,.int .i64 n,.string s] 47):=by
 unfold maxLen at hs
 have hsl : s.data.toList.length=s.size:=by simp
 by_cases hse : s.data.toList=[]
 ·obtain rfl:=vempty hse
  clear hsl hse hs
  by_cases h3 : k=3
  ·subst h3
   rw [rightV_3]
   go_enter Try.func38,Try.ntmps38
   go_wp2
   all_goals (go_ret;exact ⟨vret_bool (by simp;omega),rfl⟩)
  by_cases h1 : k=1
  ·subst h1
   rw [rightV_1]
   go_enter Try.func38,Try.ntmps38
   go_wp2
   all_goals (go_ret;exact ⟨vret_bool (by simp;omega),rfl⟩)
  by_cases h2 : k=2
  ·subst h2
   rw [rightV_2]
   by_cases hn : n=0
   ·subst hn
    go_enter Try.func38,Try.ntmps38
    go_wp2
    all_goals (go_ret;exact ⟨vret_bool (by simp),rfl⟩)
   ·go_enter Try.func38,Try.ntmps38
    go_wp2
    all_goals (go_ret;exact ⟨vret_bool (by simp;omega),rfl⟩)
  ·rw [rightV_not h1 h2 h3]
   go_enter Try.func38,Try.ntmps38
   go_wp2
   all_goals (go_ret;exact ⟨vret_bool (by simp),rfl⟩)
 ·have ha : (s.toList == [])=false:=by rw [beq_eq_false_iff_ne,vtoL];exact hse
  have hb : (!s.toList.isEmpty)=true:=by rw [vtoL];simpa using hse
  have hc : s.toList.isEmpty=false:=by rw [vtoL];simpa using hse
  by_cases h3 : k=3
  ·subst h3
   rw [rightV_3]
   go_enter Try.func38,Try.ntmps38
   go_wp2
   all_goals (go_ret;exact ⟨vret_bool (by first|rfl|(simp [hse])|(simp;omega)),rfl⟩)
  by_cases h1 : k=1
  ·subst h1
   rw [rightV_1]
   go_enter Try.func38,Try.ntmps38
   go_wp2
   all_goals (go_ret;exact ⟨vret_bool (by first|rfl|(simp [hse])|(simp;omega)),rfl⟩)
  by_cases h2 : k=2
  ·subst h2
   rw [rightV_2]
   by_cases hn : n=0
   ·subst hn
    clear ha hb hc
    go_enter Try.func38,Try.ntmps38
    go_wp2
    all_goals (go_ret;exact ⟨vret_bool (by simp [hsl];try omega),rfl⟩)
   ·clear ha hb hc
    go_enter Try.func38,Try.ntmps38
    go_wp2
    all_goals (go_ret;exact ⟨vret_bool (by simp;omega),rfl⟩)
  ·rw [rightV_not h1 h2 h3]
   go_enter Try.func38,Try.ntmps38
   go_wp2
   all_goals (go_ret;exact ⟨vret_bool (by simp),rfl⟩)
end Go.Proofs.Ytefcbgnckgapgaa
namespace Go.Proofs.Ytefcbgnckgapgaa
open Go.RowKit Go.Lib Go.Op
section
variable {w : World} {a : Option Addr} {c n : Nat} {vk vn : Int} {vs x f : List UInt8}
set_option maxHeartbeats 4000000 in
set_option maxRecDepth 100000 in
theorem rr_zero (k : Int) : Calls Try.prog 29 #[.agg #[.int .i64 k,.int .i64 vk,.int .i64 vn,.string (strB vs),.string (strB x),.string (strB f),.slice a n c],.int .i64 0] w fun e w'=>e=.returned (.bool false)∧Below w.heap.size w w':=by
 go_enter Try.func29,Try.ntmps29
 go_wp2
 all_goals
  go_ret
  exact ⟨rfl,(Below.refl w.heap.size w).alloc (Nat.le_refl _) _⟩
set_option maxHeartbeats 4000000 in
set_option maxRecDepth 100000 in
theorem rr_valk (m : Nat) (hm : 0 < m) (hm7 : m≤100) {k : Int} (hk : ¬ k=1) (hv : ¬ vk=0) : Calls Try.prog 29 #[.agg #[.int .i64 k,.int .i64 vk,.int .i64 vn,.string (strB vs),.string (strB x),.string (strB f),.slice a n c],.int .i64 m] w fun e w'=>e=.returned (.bool false)∧Below w.heap.size w w':=by
 have ht : decide ((m : Int) < 1)=false:=by rw [decide_eq_false_iff_not];omega
 go_enter Try.func29,Try.ntmps29
 go_wp2
 all_goals
  go_ret
  exact ⟨rfl,(Below.refl w.heap.size w).alloc (Nat.le_refl _) _⟩
set_option maxHeartbeats 4000000 in
set_option maxRecDepth 100000 in
theorem rr_valn (m : Nat) (hm : 0 < m) (hm7 : m≤100) {k : Int} (hk : ¬ k=1) (hv : ¬ vn=0) : Calls Try.prog 29 #[.agg #[.int .i64 k,.int .i64 0,.int .i64 vn,.string (strB vs),.string (strB x),.string (strB f),.slice a n c],.int .i64 m] w fun e w'=>e=.returned (.bool false)∧Below w.heap.size w w':=by
 have ht : decide ((m : Int) < 1)=false:=by rw [decide_eq_false_iff_not];omega
 go_enter Try.func29,Try.ntmps29
 go_wp2
 all_goals
  go_ret
  exact ⟨rfl,(Below.refl w.heap.size w).alloc (Nat.le_refl _) _⟩
set_option maxHeartbeats 4000000 in
set_option maxRecDepth 100000 in
theorem rr_vals (m : Nat) (hm : 0 < m) (hm7 : m≤100) {k : Int} (hk : ¬ k=1) (hv : ¬ (strB vs).toList=[]) : Calls Try.prog 29 #[.agg #[.int .i64 k,.int .i64 0,.int .i64 0,.string (strB vs),.string (strB x),.string (strB f),.slice a n c],.int .i64 m] w fun e w'=>e=.returned (.bool false)∧Below w.heap.size w w':=by
 have ht : decide ((m : Int) < 1)=false:=by rw [decide_eq_false_iff_not];omega
 go_enter Try.func29,Try.ntmps29
 go_wp2
 all_goals
  go_ret
  exact ⟨rfl,(Below.refl w.heap.size w).alloc (Nat.le_refl _) _⟩
set_option maxHeartbeats 4000000 in
set_option maxRecDepth 100000 in
theorem rr_kids (m : Nat) (hm : 0 < m) (hm7 : m≤100) {k : Int} (hk7 : ¬ k=7) (hk8 : ¬ k=8) (hn : 0 < n) : Calls Try.prog 29 #[.agg #[.int .i64 k,.int .i64 vk,.int .i64 vn,.string (strB vs),.string (strB x),.string (strB f),.slice a n c],.int .i64 m] w fun e w'=>e=.returned (.bool false)∧Below w.heap.size w w':=by
 have ht : decide ((m : Int) < 1)=false:=by rw [decide_eq_false_iff_not];omega
 go_enter Try.func29,Try.ntmps29
 go_wp2
 all_goals
  go_ret
  exact ⟨rfl,(Below.refl w.heap.size w).alloc (Nat.le_refl _) _⟩
set_option maxHeartbeats 4000000 in
set_option maxRecDepth 100000 in
theorem rr_field2 (m : Nat) (hm : 0 < m) (hm7 : m≤100) (hx : x.length≤1000000) (hf : f.length≤1000000) : Calls Try.prog 29 #[.agg #[.int .i64 2,.int .i64 0,.int .i64 0,.string ⟨#[]⟩,.string (strB x),.string (strB f),.slice a 0 c],.int .i64 m] w fun e w'=>e=.returned (.bool (nameB x && nameB f))∧Below w.heap.size w w':=by
 have ht : decide ((m : Int) < 1)=false:=by rw [decide_eq_false_iff_not];omega
 have hb0:=(Below.refl w.heap.size w).alloc (Nat.le_refl _) (.cells #[.int .i64 2,.int .i64 0,.int .i64 0,.string ⟨#[]⟩,.string (strB x),.string (strB f),.slice a 0 c] 50)
 have m4:=tnew w #[.int .i64 2,.int .i64 0,.int .i64 0,.string ⟨#[]⟩,.string (strB x),.string (strB f),.slice a 0 c] 50 4 rfl
 have HM5:=hid (tnew w #[.int .i64 2,.int .i64 0,.int .i64 0,.string ⟨#[]⟩,.string (strB x),.string (strB f),.slice a 0 c] 50 5 rfl)
 have HB0:=hid hb0
 have HNx:=hid (fun W=>rname_calls' x W hx)
 have HNf:=hid (fun W=>rname_calls' f W hf)
 obtain ⟨r1,h1⟩ : ∃ r,nameB x=r:=⟨_,rfl⟩
 obtain ⟨r2,h2⟩ : ∃ r,nameB f=r:=⟨_,rfl⟩
 rw [h1] at HNx ⊢
 rw [h2] at HNf ⊢
 clear hb0 h1 h2 hx hf hm hm7 m4
 cases r1
 ·go_enter Try.func29,Try.ntmps29
  go_wp2_with fail
  with_reducible refine (HNx.out _).mono ?_
  rintro e w1 ⟨rfl,hb1⟩
  have HB1:=hid (HB0.out.trans (hb1.mono HB0.out.size))
  clear hb1
  go_wp2
  go_ret
  exact ⟨rfl,HB1.out⟩
 ·go_enter Try.func29,Try.ntmps29
  go_wp2_with fail
  with_reducible refine (HNx.out _).mono ?_
  rintro e w1 ⟨rfl,hb1⟩
  have m5:=tkeep hb1 HM5.out
  have HB1:=hid (HB0.out.trans (hb1.mono HB0.out.size))
  clear hb1
  go_wp2_with fail
  with_reducible refine (HNf.out _).mono ?_
  rintro e w2 ⟨rfl,hb2⟩
  have HB2:=hid (HB1.out.trans (hb2.mono HB1.out.size))
  clear hb2
  go_wp2
  go_ret
  exact ⟨rfl,HB2.out⟩
set_option maxHeartbeats 4000000 in
set_option maxRecDepth 100000 in
theorem rr_field4 (m : Nat) (hm : 0 < m) (hm7 : m≤100) (hx : x.length≤1000000) (hf : f.length≤1000000) : Calls Try.prog 29 #[.agg #[.int .i64 4,.int .i64 0,.int .i64 0,.string ⟨#[]⟩,.string (strB x),.string (strB f),.slice a 0 c],.int .i64 m] w fun e w'=>e=.returned (.bool (nameB x && nameB f))∧Below w.heap.size w w':=by
 have ht : decide ((m : Int) < 1)=false:=by rw [decide_eq_false_iff_not];omega
 have hb0:=(Below.refl w.heap.size w).alloc (Nat.le_refl _) (.cells #[.int .i64 4,.int .i64 0,.int .i64 0,.string ⟨#[]⟩,.string (strB x),.string (strB f),.slice a 0 c] 50)
 have m4:=tnew w #[.int .i64 4,.int .i64 0,.int .i64 0,.string ⟨#[]⟩,.string (strB x),.string (strB f),.slice a 0 c] 50 4 rfl
 have HM5:=hid (tnew w #[.int .i64 4,.int .i64 0,.int .i64 0,.string ⟨#[]⟩,.string (strB x),.string (strB f),.slice a 0 c] 50 5 rfl)
 have HB0:=hid hb0
 have HNx:=hid (fun W=>rname_calls' x W hx)
 have HNf:=hid (fun W=>rname_calls' f W hf)
 obtain ⟨r1,h1⟩ : ∃ r,nameB x=r:=⟨_,rfl⟩
 obtain ⟨r2,h2⟩ : ∃ r,nameB f=r:=⟨_,rfl⟩
 rw [h1] at HNx ⊢
 rw [h2] at HNf ⊢
 clear hb0 h1 h2 hx hf hm hm7 m4
 cases r1
 ·go_enter Try.func29,Try.ntmps29
  go_wp2_with fail
  with_reducible refine (HNx.out _).mono ?_
  rintro e w1 ⟨rfl,hb1⟩
  have HB1:=hid (HB0.out.trans (hb1.mono HB0.out.size))
  clear hb1
  go_wp2
  go_ret
  exact ⟨rfl,HB1.out⟩
 ·go_enter Try.func29,Try.ntmps29
  go_wp2_with fail
  with_reducible refine (HNx.out _).mono ?_
  rintro e w1 ⟨rfl,hb1⟩
  have m5:=tkeep hb1 HM5.out
  have HB1:=hid (HB0.out.trans (hb1.mono HB0.out.size))
  clear hb1
  go_wp2_with fail
  with_reducible refine (HNf.out _).mono ?_
  rintro e w2 ⟨rfl,hb2⟩
  have HB2:=hid (HB1.out.trans (hb2.mono HB1.out.size))
  clear hb2
  go_wp2
  go_ret
  exact ⟨rfl,HB2.out⟩
set_option maxHeartbeats 4000000 in
set_option maxRecDepth 100000 in
theorem rr_field5 (m : Nat) (hm : 0 < m) (hm7 : m≤100) (hx : x.length≤1000000) (hf : f.length≤1000000) : Calls Try.prog 29 #[.agg #[.int .i64 5,.int .i64 0,.int .i64 0,.string ⟨#[]⟩,.string (strB x),.string (strB f),.slice a 0 c],.int .i64 m] w fun e w'=>e=.returned (.bool (nameB x && nameB f))∧Below w.heap.size w w':=by
 have ht : decide ((m : Int) < 1)=false:=by rw [decide_eq_false_iff_not];omega
 have hb0:=(Below.refl w.heap.size w).alloc (Nat.le_refl _) (.cells #[.int .i64 5,.int .i64 0,.int .i64 0,.string ⟨#[]⟩,.string (strB x),.string (strB f),.slice a 0 c] 50)
 have m4:=tnew w #[.int .i64 5,.int .i64 0,.int .i64 0,.string ⟨#[]⟩,.string (strB x),.string (strB f),.slice a 0 c] 50 4 rfl
 have HM5:=hid (tnew w #[.int .i64 5,.int .i64 0,.int .i64 0,.string ⟨#[]⟩,.string (strB x),.string (strB f),.slice a 0 c] 50 5 rfl)
 have HB0:=hid hb0
 have HNx:=hid (fun W=>rname_calls' x W hx)
 have HNf:=hid (fun W=>rname_calls' f W hf)
 obtain ⟨r1,h1⟩ : ∃ r,nameB x=r:=⟨_,rfl⟩
 obtain ⟨r2,h2⟩ : ∃ r,nameB f=r:=⟨_,rfl⟩
 rw [h1] at HNx ⊢
 rw [h2] at HNf ⊢
 clear hb0 h1 h2 hx hf hm hm7 m4
 cases r1
 ·go_enter Try.func29,Try.ntmps29
  go_wp2_with fail
  with_reducible refine (HNx.out _).mono ?_
  rintro e w1 ⟨rfl,hb1⟩
  have HB1:=hid (HB0.out.trans (hb1.mono HB0.out.size))
  clear hb1
  go_wp2
  go_ret
  exact ⟨rfl,HB1.out⟩
 ·go_enter Try.func29,Try.ntmps29
  go_wp2_with fail
  with_reducible refine (HNx.out _).mono ?_
  rintro e w1 ⟨rfl,hb1⟩
  have m5:=tkeep hb1 HM5.out
  have HB1:=hid (HB0.out.trans (hb1.mono HB0.out.size))
  clear hb1
  go_wp2_with fail
  with_reducible refine (HNf.out _).mono ?_
  rintro e w2 ⟨rfl,hb2⟩
  have HB2:=hid (HB1.out.trans (hb2.mono HB1.out.size))
  clear hb2
  go_wp2
  go_ret
  exact ⟨rfl,HB2.out⟩
set_option maxHeartbeats 4000000 in
set_option maxRecDepth 100000 in
theorem rr_field6 (m : Nat) (hm : 0 < m) (hm7 : m≤100) (hx : x.length≤1000000) (hf : f.length≤1000000) : Calls Try.prog 29 #[.agg #[.int .i64 6,.int .i64 0,.int .i64 0,.string ⟨#[]⟩,.string (strB x),.string (strB f),.slice a 0 c],.int .i64 m] w fun e w'=>e=.returned (.bool (nameB x && nameB f))∧Below w.heap.size w w':=by
 have ht : decide ((m : Int) < 1)=false:=by rw [decide_eq_false_iff_not];omega
 have hb0:=(Below.refl w.heap.size w).alloc (Nat.le_refl _) (.cells #[.int .i64 6,.int .i64 0,.int .i64 0,.string ⟨#[]⟩,.string (strB x),.string (strB f),.slice a 0 c] 50)
 have m4:=tnew w #[.int .i64 6,.int .i64 0,.int .i64 0,.string ⟨#[]⟩,.string (strB x),.string (strB f),.slice a 0 c] 50 4 rfl
 have HM5:=hid (tnew w #[.int .i64 6,.int .i64 0,.int .i64 0,.string ⟨#[]⟩,.string (strB x),.string (strB f),.slice a 0 c] 50 5 rfl)
 have HB0:=hid hb0
 have HNx:=hid (fun W=>rname_calls' x W hx)
 have HNf:=hid (fun W=>rname_calls' f W hf)
 obtain ⟨r1,h1⟩ : ∃ r,nameB x=r:=⟨_,rfl⟩
 obtain ⟨r2,h2⟩ : ∃ r,nameB f=r:=⟨_,rfl⟩
 rw [h1] at HNx ⊢
 rw [h2] at HNf ⊢
 clear hb0 h1 h2 hx hf hm hm7 m4
 cases r1
 ·go_enter Try.func29,Try.ntmps29
  go_wp2_with fail
  with_reducible refine (HNx.out _).mono ?_
  rintro e w1 ⟨rfl,hb1⟩
  have HB1:=hid (HB0.out.trans (hb1.mono HB0.out.size))
  clear hb1
  go_wp2
  go_ret
  exact ⟨rfl,HB1.out⟩
 ·go_enter Try.func29,Try.ntmps29
  go_wp2_with fail
  with_reducible refine (HNx.out _).mono ?_
  rintro e w1 ⟨rfl,hb1⟩
  have m5:=tkeep hb1 HM5.out
  have HB1:=hid (HB0.out.trans (hb1.mono HB0.out.size))
  clear hb1
  go_wp2_with fail
  with_reducible refine (HNf.out _).mono ?_
  rintro e w2 ⟨rfl,hb2⟩
  have HB2:=hid (HB1.out.trans (hb2.mono HB1.out.size))
  clear hb2
  go_wp2
  go_ret
  exact ⟨rfl,HB2.out⟩
set_option maxHeartbeats 4000000 in
set_option maxRecDepth 100000 in
theorem rr_count (m : Nat) (hm : 0 < m) (hm7 : m≤100) (hx : x.length≤1000000) : Calls Try.prog 29 #[.agg #[.int .i64 3,.int .i64 0,.int .i64 0,.string ⟨#[]⟩,.string (strB x),.string (strB f),.slice a 0 c],.int .i64 m] w fun e w'=>e=.returned (.bool (decide (f=[]) && nameB x))∧Below w.heap.size w w':=by
 have ht : decide ((m : Int) < 1)=false:=by rw [decide_eq_false_iff_not];omega
 have hb0:=(Below.refl w.heap.size w).alloc (Nat.le_refl _) (.cells #[.int .i64 3,.int .i64 0,.int .i64 0,.string ⟨#[]⟩,.string (strB x),.string (strB f),.slice a 0 c] 50)
 have HM5:=hid (tnew w #[.int .i64 3,.int .i64 0,.int .i64 0,.string ⟨#[]⟩,.string (strB x),.string (strB f),.slice a 0 c] 50 5 rfl)
 have HB0:=hid hb0
 have HNx:=hid (fun W=>rname_calls' x W hx)
 obtain ⟨r1,h1⟩ : ∃ r,nameB x=r:=⟨_,rfl⟩
 rw [h1] at HNx ⊢
 clear hb0 h1 hx hm hm7
 cases r1
 ·rw [Bool.and_false]
  go_enter Try.func29,Try.ntmps29
  go_wp2_with fail
  with_reducible refine (HNx.out _).mono ?_
  rintro e w1 ⟨rfl,hb1⟩
  have HB1:=hid (HB0.out.trans (hb1.mono HB0.out.size))
  clear hb1
  go_wp2
  go_ret
  exact ⟨rfl,HB1.out⟩
 ·rw [Bool.and_true]
  by_cases hf : f=[]
  ·subst hf
   rw [decide_eq_true rfl]
   go_enter Try.func29,Try.ntmps29
   go_wp2_with fail
   with_reducible refine (HNx.out _).mono ?_
   rintro e w1 ⟨rfl,hb1⟩
   have m5 : w1.cell? ⟨w.heap.size,5,none⟩=some (.string ⟨#[]⟩):=tkeep hb1 HM5.out
   have HB1:=hid (HB0.out.trans (hb1.mono HB0.out.size))
   clear hb1
   go_wp2
   go_ret
   exact ⟨rfl,HB1.out⟩
  ·rw [decide_eq_false hf]
   have hf2 : ¬ (strB f).toList=[]:=fun h=>hf ((tB_list f).symm.trans h)
   go_enter Try.func29,Try.ntmps29
   go_wp2_with fail
   with_reducible refine (HNx.out _).mono ?_
   rintro e w1 ⟨rfl,hb1⟩
   have m5:=tkeep hb1 HM5.out
   have HB1:=hid (HB0.out.trans (hb1.mono HB0.out.size))
   clear hb1
   have hfe : (strB f).toList.isEmpty=false:=by
    rw [Bool.eq_false_iff]
    intro h
    exact hf2 (List.isEmpty_iff.1 h)
   go_wp2
   go_ret
   exact ⟨by first|rfl|exact congrArg (fun b=>Ending.returned (.bool b)) hfe,HB1.out⟩
end
end Go.Proofs.Ytefcbgnckgapgaa
namespace Go.Proofs.Ytefcbgnckgapgaa
open Go.RowKit Go.Lib Go.Op
section
variable {w : World} {a : Option Addr} {c n : Nat} {vk vn : Int} {vs x f : List UInt8}
set_option maxHeartbeats 4000000 in
set_option maxRecDepth 100000 in
theorem rr_onex (m : Nat) (hm : 0 < m) (hm7 : m≤100) (hx : ¬ (strB x).toList=[]) : Calls Try.prog 29 #[.agg #[.int .i64 1,.int .i64 vk,.int .i64 vn,.string (strB vs),.string (strB x),.string (strB f),.slice a 0 c],.int .i64 m] w fun e w'=>e=.returned (.bool false)∧Below w.heap.size w w':=by
 have ht : decide ((m : Int) < 1)=false:=by rw [decide_eq_false_iff_not];omega
 have hye : (strB x).toList.isEmpty=false:=by
  rw [Bool.eq_false_iff]
  intro h
  exact hx (List.isEmpty_iff.1 h)
 go_enter Try.func29,Try.ntmps29
 go_wp2
 all_goals
  go_ret
  exact ⟨rfl,(Below.refl w.heap.size w).alloc (Nat.le_refl _) _⟩
set_option maxHeartbeats 4000000 in
set_option maxRecDepth 100000 in
theorem rr_onef (m : Nat) (hm : 0 < m) (hm7 : m≤100) (hf : ¬ (strB f).toList=[]) : Calls Try.prog 29 #[.agg #[.int .i64 1,.int .i64 vk,.int .i64 vn,.string (strB vs),.string ⟨#[]⟩,.string (strB f),.slice a 0 c],.int .i64 m] w fun e w'=>e=.returned (.bool false)∧Below w.heap.size w w':=by
 have ht : decide ((m : Int) < 1)=false:=by rw [decide_eq_false_iff_not];omega
 have hye : (strB f).toList.isEmpty=false:=by
  rw [Bool.eq_false_iff]
  intro h
  exact hf (List.isEmpty_iff.1 h)
 go_enter Try.func29,Try.ntmps29
 go_wp2
 all_goals
  go_ret
  exact ⟨rfl,(Below.refl w.heap.size w).alloc (Nat.le_refl _) _⟩
set_option maxHeartbeats 4000000 in
set_option maxRecDepth 100000 in
theorem rr_sum7x (m : Nat) (hm : 0 < m) (hm7 : m≤100) (hx : ¬ (strB x).toList=[]) : Calls Try.prog 29 #[.agg #[.int .i64 7,.int .i64 0,.int .i64 0,.string ⟨#[]⟩,.string (strB x),.string (strB f),.slice a n c],.int .i64 m] w fun e w'=>e=.returned (.bool false)∧Below w.heap.size w w':=by
 have ht : decide ((m : Int) < 1)=false:=by rw [decide_eq_false_iff_not];omega
 have hye : (strB x).toList.isEmpty=false:=by
  rw [Bool.eq_false_iff]
  intro h
  exact hx (List.isEmpty_iff.1 h)
 go_enter Try.func29,Try.ntmps29
 go_wp2
 all_goals
  go_ret
  exact ⟨rfl,(Below.refl w.heap.size w).alloc (Nat.le_refl _) _⟩
set_option maxHeartbeats 4000000 in
set_option maxRecDepth 100000 in
theorem rr_sum7f (m : Nat) (hm : 0 < m) (hm7 : m≤100) (hf : ¬ (strB f).toList=[]) : Calls Try.prog 29 #[.agg #[.int .i64 7,.int .i64 0,.int .i64 0,.string ⟨#[]⟩,.string ⟨#[]⟩,.string (strB f),.slice a n c],.int .i64 m] w fun e w'=>e=.returned (.bool false)∧Below w.heap.size w w':=by
 have ht : decide ((m : Int) < 1)=false:=by rw [decide_eq_false_iff_not];omega
 have hye : (strB f).toList.isEmpty=false:=by
  rw [Bool.eq_false_iff]
  intro h
  exact hf (List.isEmpty_iff.1 h)
 go_enter Try.func29,Try.ntmps29
 go_wp2
 all_goals
  go_ret
  exact ⟨rfl,(Below.refl w.heap.size w).alloc (Nat.le_refl _) _⟩
set_option maxHeartbeats 4000000 in
set_option maxRecDepth 100000 in
theorem rr_sum8x (m : Nat) (hm : 0 < m) (hm7 : m≤100) (hx : ¬ (strB x).toList=[]) : Calls Try.prog 29 #[.agg #[.int .i64 8,.int .i64 0,.int .i64 0,.string ⟨#[]⟩,.string (strB x),.string (strB f),.slice a n c],.int .i64 m] w fun e w'=>e=.returned (.bool false)∧Below w.heap.size w w':=by
 have ht : decide ((m : Int) < 1)=false:=by rw [decide_eq_false_iff_not];omega
 have hye : (strB x).toList.isEmpty=false:=by
  rw [Bool.eq_false_iff]
  intro h
  exact hx (List.isEmpty_iff.1 h)
 go_enter Try.func29,Try.ntmps29
 go_wp2
 all_goals
  go_ret
  exact ⟨rfl,(Below.refl w.heap.size w).alloc (Nat.le_refl _) _⟩
set_option maxHeartbeats 4000000 in
set_option maxRecDepth 100000 in
theorem rr_sum8f (m : Nat) (hm : 0 < m) (hm7 : m≤100) (hf : ¬ (strB f).toList=[]) : Calls Try.prog 29 #[.agg #[.int .i64 8,.int .i64 0,.int .i64 0,.string ⟨#[]⟩,.string ⟨#[]⟩,.string (strB f),.slice a n c],.int .i64 m] w fun e w'=>e=.returned (.bool false)∧Below w.heap.size w w':=by
 have ht : decide ((m : Int) < 1)=false:=by rw [decide_eq_false_iff_not];omega
 have hye : (strB f).toList.isEmpty=false:=by
  rw [Bool.eq_false_iff]
  intro h
  exact hf (List.isEmpty_iff.1 h)
 go_enter Try.func29,Try.ntmps29
 go_wp2
 all_goals
  go_ret
  exact ⟨rfl,(Below.refl w.heap.size w).alloc (Nat.le_refl _) _⟩
set_option maxHeartbeats 4000000 in
set_option maxRecDepth 100000 in
theorem rr_nonex (m : Nat) (hm : 0 < m) (hm7 : m≤100) {k : Int} (h2 : ¬ k=2) (h3 : ¬ k=3) (h4 : ¬ k=4) (h5 : ¬ k=5) (h6 : ¬ k=6) (h1 : ¬ k=1) (h7 : ¬ k=7) (h8 : ¬ k=8) (hx : ¬ (strB x).toList=[]) : Calls Try.prog 29 #[.agg #[.int .i64 k,.int .i64 0,.int .i64 0,.string ⟨#[]⟩,.string (strB x),.string (strB f),.slice a 0 c],.int .i64 m] w fun e w'=>e=.returned (.bool false)∧Below w.heap.size w w':=by
 have ht : decide ((m : Int) < 1)=false:=by rw [decide_eq_false_iff_not];omega
 have b1 : (k == 1)=false:=beq_eq_false_iff_ne.2 h1
 have b2 : (k == 2)=false:=beq_eq_false_iff_ne.2 h2
 have b3 : (k == 3)=false:=beq_eq_false_iff_ne.2 h3
 have b4 : (k == 4)=false:=beq_eq_false_iff_ne.2 h4
 have b5 : (k == 5)=false:=beq_eq_false_iff_ne.2 h5
 have b6 : (k == 6)=false:=beq_eq_false_iff_ne.2 h6
 have b7 : (k == 7)=false:=beq_eq_false_iff_ne.2 h7
 have b8 : (k == 8)=false:=beq_eq_false_iff_ne.2 h8
 have hye : (strB x).toList.isEmpty=false:=by
  rw [Bool.eq_false_iff]
  intro h
  exact hx (List.isEmpty_iff.1 h)
 go_enter Try.func29,Try.ntmps29
 go_wp2
 all_goals
  go_ret
  exact ⟨rfl,(Below.refl w.heap.size w).alloc (Nat.le_refl _) _⟩
set_option maxHeartbeats 4000000 in
set_option maxRecDepth 100000 in
theorem rr_nonef (m : Nat) (hm : 0 < m) (hm7 : m≤100) {k : Int} (h2 : ¬ k=2) (h3 : ¬ k=3) (h4 : ¬ k=4) (h5 : ¬ k=5) (h6 : ¬ k=6) (h1 : ¬ k=1) (h7 : ¬ k=7) (h8 : ¬ k=8) (hf : ¬ (strB f).toList=[]) : Calls Try.prog 29 #[.agg #[.int .i64 k,.int .i64 0,.int .i64 0,.string ⟨#[]⟩,.string ⟨#[]⟩,.string (strB f),.slice a 0 c],.int .i64 m] w fun e w'=>e=.returned (.bool false)∧Below w.heap.size w w':=by
 have ht : decide ((m : Int) < 1)=false:=by rw [decide_eq_false_iff_not];omega
 have b1 : (k == 1)=false:=beq_eq_false_iff_ne.2 h1
 have b2 : (k == 2)=false:=beq_eq_false_iff_ne.2 h2
 have b3 : (k == 3)=false:=beq_eq_false_iff_ne.2 h3
 have b4 : (k == 4)=false:=beq_eq_false_iff_ne.2 h4
 have b5 : (k == 5)=false:=beq_eq_false_iff_ne.2 h5
 have b6 : (k == 6)=false:=beq_eq_false_iff_ne.2 h6
 have b7 : (k == 7)=false:=beq_eq_false_iff_ne.2 h7
 have b8 : (k == 8)=false:=beq_eq_false_iff_ne.2 h8
 have hye : (strB f).toList.isEmpty=false:=by
  rw [Bool.eq_false_iff]
  intro h
  exact hf (List.isEmpty_iff.1 h)
 go_enter Try.func29,Try.ntmps29
 go_wp2
 all_goals
  go_ret
  exact ⟨rfl,(Below.refl w.heap.size w).alloc (Nat.le_refl _) _⟩
set_option maxHeartbeats 4000000 in
set_option maxRecDepth 100000 in
theorem rr_nonee (m : Nat) (hm : 0 < m) (hm7 : m≤100) {k : Int} (h2 : ¬ k=2) (h3 : ¬ k=3) (h4 : ¬ k=4) (h5 : ¬ k=5) (h6 : ¬ k=6) (h1 : ¬ k=1) (h7 : ¬ k=7) (h8 : ¬ k=8) : Calls Try.prog 29 #[.agg #[.int .i64 k,.int .i64 0,.int .i64 0,.string ⟨#[]⟩,.string ⟨#[]⟩,.string ⟨#[]⟩,.slice a 0 c],.int .i64 m] w fun e w'=>e=.returned (.bool false)∧Below w.heap.size w w':=by
 have ht : decide ((m : Int) < 1)=false:=by rw [decide_eq_false_iff_not];omega
 have b1 : (k == 1)=false:=beq_eq_false_iff_ne.2 h1
 have b2 : (k == 2)=false:=beq_eq_false_iff_ne.2 h2
 have b3 : (k == 3)=false:=beq_eq_false_iff_ne.2 h3
 have b4 : (k == 4)=false:=beq_eq_false_iff_ne.2 h4
 have b5 : (k == 5)=false:=beq_eq_false_iff_ne.2 h5
 have b6 : (k == 6)=false:=beq_eq_false_iff_ne.2 h6
 have b7 : (k == 7)=false:=beq_eq_false_iff_ne.2 h7
 have b8 : (k == 8)=false:=beq_eq_false_iff_ne.2 h8
 go_enter Try.func29,Try.ntmps29
 go_wp2
 go_loopw [7] (fun i wr=>i=.int .i64 0∧Hid (wr=w.alloc (.cells #[.int .i64 k,.int .i64 0,.int .i64 0,.string ⟨#[]⟩,.string ⟨#[]⟩,.string ⟨#[]⟩,.slice a 0 c] 50))) (fun _ _=>0)
 case atStart=>exact ⟨rfl,hid rfl⟩
 case round =>
  obtain ⟨rfl,hw⟩:=hrel
  have hw:=hw.out
  subst hw
  go_wp2
  go_ret
  exact ⟨rfl,(Below.refl w.heap.size w).alloc (Nat.le_refl _) _⟩
set_option maxHeartbeats 4000000 in
set_option maxRecDepth 100000 in
theorem rr_sum7no (m : Nat) (hm : 0 < m) (hm7 : m≤100) (hn : ¬ n=2) : Calls Try.prog 29 #[.agg #[.int .i64 7,.int .i64 0,.int .i64 0,.string ⟨#[]⟩,.string ⟨#[]⟩,.string ⟨#[]⟩,.slice a n c],.int .i64 m] w fun e w'=>e=.returned (.bool false)∧Below w.heap.size w w':=by
 have ht : decide ((m : Int) < 1)=false:=by rw [decide_eq_false_iff_not];omega
 have hn2 : decide (n=2)=false:=decide_eq_false hn
 go_enter Try.func29,Try.ntmps29
 go_wp2
 all_goals
  go_ret
  exact ⟨rfl,(Below.refl w.heap.size w).alloc (Nat.le_refl _) _⟩
set_option maxHeartbeats 4000000 in
set_option maxRecDepth 100000 in
theorem rr_sum8no (m : Nat) (hm : 0 < m) (hm7 : m≤100) (hn : ¬ n=2) : Calls Try.prog 29 #[.agg #[.int .i64 8,.int .i64 0,.int .i64 0,.string ⟨#[]⟩,.string ⟨#[]⟩,.string ⟨#[]⟩,.slice a n c],.int .i64 m] w fun e w'=>e=.returned (.bool false)∧Below w.heap.size w w':=by
 have ht : decide ((m : Int) < 1)=false:=by rw [decide_eq_false_iff_not];omega
 have hn2 : decide (n=2)=false:=decide_eq_false hn
 go_enter Try.func29,Try.ntmps29
 go_wp2
 all_goals
  go_ret
  exact ⟨rfl,(Below.refl w.heap.size w).alloc (Nat.le_refl _) _⟩
end
end Go.Proofs.Ytefcbgnckgapgaa
namespace Go.Proofs.Ytefcbgnckgapgaa
open Go.RowKit Go.Lib Go.Op
def DTok (t : XTok) : Prop:=WTok t∧t.b.length≤1000∧t.at_≤1000000
structure DdAt (w : World) (R T : Nat) (L : List XTok) (s : DS) (a : Option Addr) (c : Nat) : Prop where
 blk : w.heap[R]?=some (.cells #[.slice a L.length c,.int .i64 ((L.length - s.l.length : Nat) : Int),.bool s.bad,.int .i64 s.deep] 69 (0,0))
 suf : s.l <:+ L
 toks : TokL T w a L
 tr : T < R
 len : L.length≤500
 ok : ∀ t∈L,DTok t
 deep : s.deep≤100
def DdR (w : World) (R T : Nat) (L : List XTok) (s : DS) : Prop:=∃ a c,DdAt w R T L s a c
section
variable {w w' : World} {R T : Nat} {L : List XTok} {s : DS} {a : Option Addr} {c : Nat}
theorem DdAt.c0 (h : DdAt w R T L s a c) : w.cell? ⟨R,0,none⟩=some (.slice a L.length c):=tcell h.blk rfl
theorem DdAt.c1 (h : DdAt w R T L s a c) : w.cell? ⟨R,1,none⟩=some (.int .i64 ((L.length - s.l.length : Nat) : Int)):=tcell h.blk rfl
theorem DdAt.c2 (h : DdAt w R T L s a c) : w.cell? ⟨R,2,none⟩=some (.bool s.bad):=tcell h.blk rfl
theorem DdAt.c3 (h : DdAt w R T L s a c) : w.cell? ⟨R,3,none⟩=some (.int .i64 s.deep):=tcell h.blk rfl
theorem DdAt.f (h : DdAt w R T L s a c) (k : Nat) : w.frozen? ⟨R,k,none⟩=false:=tfrozen h.blk
theorem DdAt.lt (h : DdAt w R T L s a c) : R < w.heap.size:=(Array.getElem?_eq_some_iff.1 h.blk).1
theorem DdR.lt (h : DdR w R T L s) : R < w.heap.size:=by
 obtain ⟨a,c,h⟩:=h
 exact h.lt
theorem DdAt.le (h : DdAt w R T L s a c) : s.l.length≤L.length:=h.suf.length_le
theorem DdAt.keep (h : DdAt w R T L s a c) (hb : Below w.heap.size w w') : DdAt w' R T L s a c :=
 { h with blk:=(hb.block R h.lt).trans h.blk,toks:=h.toks.keep (TFr.of_below (K:=fun _=>False) hb) id }
theorem DdR.keep (h : DdR w R T L s) (hb : Below w.heap.size w w') : DdR w' R T L s:=by
 obtain ⟨a,c,h⟩:=h
 exact ⟨a,c,h.keep hb⟩
theorem DdAt.other {K : Nat→Prop} (h : DdAt w R T L s a c) (hf : TFr K w w') (hK : ∀ k,k≤R→¬ K k) : DdAt w' R T L s a c :=
 { h with blk:=(hf.block R h.lt (hK R (Nat.le_refl _))).trans h.blk,toks:=h.toks.keep hf (hK T (Nat.le_of_lt h.tr)) }
theorem DdR.other {K : Nat→Prop} (h : DdR w R T L s) (hf : TFr K w w') (hK : ∀ k,k≤R→¬ K k) : DdR w' R T L s:=by
 obtain ⟨a,c,h⟩:=h
 exact ⟨a,c,h.other hf hK⟩
theorem DdR.drew (h : DdR w R T L s) : DdR w.drew R T L s:=h.other (TFr.drew (TFr.refl (fun _=>False) w)) (fun _ _ h=>h)
theorem DdAt.first {t : XTok} {r : List XTok} (h : DdAt w R T L s a c) (hl : s.l=t :: r) : ∃ o,a=some ⟨T,o,none⟩∧L.length - s.l.length < L.length∧w.cell? ⟨T,o+(L.length - s.l.length)*3,none⟩=some (.int .i64 t.k)∧w.cell? ⟨T,o+(L.length - s.l.length)*3+1,none⟩=some (.string (strB t.b))∧w.cell? ⟨T,o+(L.length - s.l.length)*3+2,none⟩=some (.int .i64 t.at_):=by
 have hle:=h.le
 rw [hl,List.length_cons] at hle
 obtain ⟨p,hp⟩:=h.suf
 have hpl : p.length=L.length - s.l.length:=by rw [← hp,List.length_append];omega
 have hget : L[L.length - s.l.length]?=some t:=by
  rw [← hpl]
  rw [← hp,List.getElem?_append_right (Nat.le_refl _),Nat.sub_self,hl]
  rfl
 obtain ⟨o,e,h0,h1,h2⟩:=h.toks _ t hget
 exact ⟨o,e,by rw [hl,List.length_cons];omega,h0,h1,h2⟩
theorem DdAt.head {t : XTok} {r : List XTok} (h : DdAt w R T L s a c) (hl : s.l=t :: r) : DTok t:=h.ok t (h.suf.subset (by rw [hl];exact List.mem_cons_self))
theorem DdAt.skip {t : XTok} {r : List XTok} (h : DdAt w R T L s a c) (hl : s.l=t :: r) {x : Int} (hx : x=((L.length - s.l.length : Nat) : Int)+1) : DdAt (w.setCell ⟨R,1,none⟩ (.int .i64 x)) R T L (dSkip s) a c:=by
 have hle:=h.le
 rw [hl,List.length_cons] at hle
 exact { h with
  blk:=by
   rw [tsetCell_blk h.blk]
   have e : x=((L.length - (dSkip s).l.length : Nat) : Int):=by
    rw [hx,hl]
    unfold dSkip
    rw [hl]
    simp only [List.tail_cons,List.length_cons]
    omega
   rw [e]
   rfl
  suf:=(List.tail_suffix _).trans h.suf
  toks:=h.toks.keep (TFr.at _ _ _) (Nat.ne_of_lt h.tr)
  deep:=h.deep }
theorem DdAt.setBad (h : DdAt w R T L s a c) : DdAt (w.setCell ⟨R,2,none⟩ (.bool true)) R T L (dFail s) a c :=
 { h with
   blk:=by rw [tsetCell_blk h.blk];rfl
   toks:=h.toks.keep (TFr.at _ _ _) (Nat.ne_of_lt h.tr)
   suf:=h.suf
   deep:=h.deep }
theorem DdAt.setDeep (h : DdAt w R T L s a c) {x : Nat} (hx : x≤100) {v : Int} (hv : v=x) : DdAt (w.setCell ⟨R,3,none⟩ (.int .i64 v)) R T L ⟨s.l,x,s.bad⟩ a c:=by
 subst hv
 exact { h with
  blk:=by rw [tsetCell_blk h.blk];rfl
  toks:=h.toks.keep (TFr.at _ _ _) (Nat.ne_of_lt h.tr)
  deep:=hx }
end
structure DdTo (R T : Nat) (L : List XTok) (s' : DS) (w w' : World) : Prop where
 rd : DdR w' R T L s'
 fr : TFr (·=R) w w'
section
variable {w w1 w' : World} {R T : Nat} {L : List XTok} {s s' : DS}
theorem DdTo.of_below (h : DdR w R T L s) (hb : Below w.heap.size w w') : DdTo R T L s w w':=⟨h.keep hb,TFr.of_below hb⟩
theorem DdTo.after (hb : Below w.heap.size w w1) (h : DdTo R T L s w1 w') : DdTo R T L s w w':=⟨h.rd,(TFr.of_below hb).trans h.fr⟩
theorem DdTo.trans (h1 : DdTo R T L s w w1) (h : DdTo R T L s' w1 w') : DdTo R T L s' w w':=⟨h.rd,h1.fr.trans h.fr⟩
theorem DdTo.then (h1 : DdTo R T L s w w1) (hb : Below w1.heap.size w1 w') : DdTo R T L s w w':=⟨h1.rd.keep hb,h1.fr.trans (TFr.of_below hb)⟩
theorem DdTo.drew (h : DdTo R T L s w w') : DdTo R T L s w w'.drew:=⟨h.rd.drew,h.fr.drew⟩
theorem DdTo.set (h : DdTo R T L s w w') (hR : R < w.heap.size) {b : Nat} (hb : w.heap.size≤b) (k : Nat) (v : Value) : DdTo R T L s w (w'.setCell ⟨b,k,none⟩ v) :=
 ⟨h.rd.other (TFr.at b k v) (fun j hj e=>by omega),h.fr.setCell (p:=⟨b,k,none⟩) (fun hlt=>absurd hlt (by show ¬ b < _;omega)) v⟩
theorem DdTo.set7 (h : DdTo R T L s w w') (hR : R < w.heap.size) {b : Nat} (hb : w.heap.size≤b) (t0 t1 t2 t3 t4 t5 t6 : Value) : DdTo R T L s w (((((((w'.setCell ⟨b,0,none⟩ t0).setCell ⟨b,1,none⟩ t1).setCell ⟨b,2,none⟩ t2).setCell ⟨b,3,none⟩ t3).setCell ⟨b,4,none⟩ t4).setCell ⟨b,5,none⟩ t5).setCell ⟨b,6,none⟩ t6) :=
 ((((((h.set hR hb _ _).set hR hb _ _).set hR hb _ _).set hR hb _ _).set hR hb _ _).set hR hb _ _).set hR hb _ _
theorem DdTo.grown (h : DdTo R T L s w w1) (hR : R < w.heap.size) {row : Option Nat} (hg : w1.grownBy w' row) (hb : ∀ k,row=some k→w.heap.size≤k) : DdTo R T L s w w':=by
 have hf : TFr (fun k=>row=some k) w1 w':=TFr.of_grown hg (fun k hk=>hk)
 exact ⟨h.rd.other hf (fun k hk e=>by have:=hb k e;omega),⟨hf.os.trans h.fr.os,hf.tape.trans h.fr.tape,hf.output.trans h.fr.output,Nat.le_trans h.fr.size hf.size,fun i hi hn=>(hf.block i (Nat.lt_of_lt_of_le hi h.fr.size) (fun e=>by have:=hb i e;omega)).trans (h.fr.block i hi hn)⟩⟩
end
section
variable {w : World} {R T : Nat} {L : List XTok} {s : DS}
set_option maxRecDepth 100000 in
theorem dfail_calls (h : DdR w R T L s) : Calls Try.prog 54 #[.pointer (some ⟨R,0,none⟩)] w fun e w'=>e=.returned (.tuple #[])∧DdTo R T L (dFail s) w w':=by
 obtain ⟨a,c,h1⟩:=h
 have c2:=h1.c2
 have f2:=h1.f 2
 have K3:=hid h1.setBad
 clear h1
 go_enter Try.func54,Try.ntmps54
 go_wp2
 go_end0
 exact ⟨rfl,⟨⟨a,c,K3.out⟩,TFr.at _ _ _⟩⟩
set_option maxHeartbeats 1000000 in
set_option maxRecDepth 100000 in
theorem dis_calls (h : DdR w R T L s) (k : Nat) (b : List UInt8) : Calls Try.prog 64 #[.pointer (some ⟨R,0,none⟩),.int .i64 k,.string (strB b)] w fun e w'=>e=.returned (.bool (dIs s k b))∧Below w.heap.size w w':=by
 obtain ⟨a,c,h1⟩:=h
 have c0:=h1.c0
 have c1:=h1.c1
 have c2:=h1.c2
 have hle:=h1.le
 have hlen:=h1.len
 cases hb : s.bad with
 | true =>
   rw [is_bad hb]
   rw [hb] at c2
   clear h1 hb hle hlen
   go_enter Try.func64,Try.ntmps64
   go_wp2_with fail
   go_quiet (fail)
   have HB1 : Hid (Below w.heap.size w (w.drewN nq)):=below_drewN (Below.refl _ _) _
   go_wp2
   go_ret
   exact ⟨rfl,HB1.out⟩
 | false =>
   rw [hb] at c2
   cases hl : s.l with
   | nil =>
     have hz : dIs s k b=false:=by unfold dIs;rw [hl];simp
     rw [hz]
     rw [hl,List.length_nil,Nat.sub_zero] at c1
     obtain ⟨n,hn⟩ : ∃ n,L.length=n:=⟨_,rfl⟩
     rw [hn] at c0 c1
     clear h1 hb hl hz hle hlen hn
     go_enter Try.func64,Try.ntmps64
     go_wp2_with fail
     go_quiet (fail)
     have HB1 : Hid (Below w.heap.size w (w.drewN nq)):=below_drewN (Below.refl _ _) _
     go_wp2
     go_ret
     exact ⟨rfl,HB1.out⟩
   | cons t r =>
     have hz : dIs s k b=decide (t.k=k∧t.b=b):=is_head hb hl k b
     rw [hz]
     obtain ⟨o,rfl,hlt,h0,h2,h3⟩:=h1.first hl
     obtain ⟨n,hn⟩ : ∃ n,L.length=n:=⟨_,rfl⟩
     obtain ⟨p,hp⟩ : ∃ p,L.length - s.l.length=p:=⟨_,rfl⟩
     rw [hp] at c1 h0 h2 h3 hlt
     rw [hn] at c0 hlt
     clear h1 hb hl hz hle hlen hn hp
     have H3 : (t.k≠k)∨(t.k=k∧t.b≠b)∨(t.k=k∧t.b=b):=by
      by_cases e1 : t.k=k
      ·by_cases e2 : t.b=b
       ·exact .inr (.inr ⟨e1,e2⟩)
       ·exact .inr (.inl ⟨e1,e2⟩)
      ·exact .inl e1
     obtain ⟨tb,htb⟩ : ∃ tb,t.b=tb:=⟨_,rfl⟩
     obtain ⟨tk,htk⟩ : ∃ tk,t.k=tk:=⟨_,rfl⟩
     rw [htb,htk] at H3 ⊢
     rw [htk] at h0
     rw [htb] at h2
     clear htb htk h3
     rcases H3 with e1|⟨e1,e2⟩|⟨e1,e2⟩
     ·have t1 : (tk == k)=false:=by rw [beq_eq_false_iff_ne];exact e1
      have t2 : ((tk : Int) == (k : Int))=false:=by rw [beq_eq_false_iff_ne];omega
      rw [decide_eq_false (fun h=>e1 h.1)]
      clear e1
      go_enter Try.func64,Try.ntmps64
      go_wp2_with fail
      go_quiet (fail)
      have HB1 : Hid (Below w.heap.size w (w.drewN nq)):=below_drewN (Below.refl _ _) _
      go_wp2
      go_ret
      exact ⟨rfl,HB1.out⟩
     ·have t1 : (tk == k)=true:=by rw [beq_iff_eq];exact e1
      have t2 : ((tk : Int) == (k : Int))=true:=by rw [beq_iff_eq];omega
      have t3 : ((strB tb).toList == (strB b).toList)=false:=by rw [tB_list,tB_list,beq_eq_false_iff_ne];exact e2
      rw [decide_eq_false (fun h=>e2 h.2)]
      obtain ⟨s1,hs1⟩ : ∃ s1,strB tb=s1:=⟨_,rfl⟩
      obtain ⟨s2,hs2⟩ : ∃ s2,strB b=s2:=⟨_,rfl⟩
      rw [hs1,hs2] at t3
      rw [hs1] at h2
      rw [hs2]
      clear e1 e2 hs1 hs2
      go_enter Try.func64,Try.ntmps64
      go_wp2_with fail
      go_quiet (fail)
      have HB1 : Hid (Below w.heap.size w (w.drewN nq)):=below_drewN (Below.refl _ _) _
      go_wp2
      go_ret
      exact ⟨rfl,HB1.out⟩
     ·subst e1 e2
      have t2 : ((tk : Int) == (tk : Int))=true:=beq_self_eq_true _
      rw [decide_eq_true (And.intro rfl rfl)]
      go_enter Try.func64,Try.ntmps64
      go_wp2_with fail
      go_quiet (fail)
      have HB1 : Hid (Below w.heap.size w (w.drewN nq)):=below_drewN (Below.refl _ _) _
      go_wp2
      go_ret
      exact ⟨rfl,HB1.out⟩
set_option maxRecDepth 100000 in
theorem dtake_calls' (h : DdR w R T L s) (k : Nat) (b : List UInt8) : Calls Try.prog 49 #[.pointer (some ⟨R,0,none⟩),.int .i64 k,.string (strB b)] w fun e w'=>e=.returned (.bool (dIs s k b))∧DdTo R T L (dTake s k b) w w':=by
 have HI:=hid (dis_calls h k b)
 have H:=hid h
 cases hz : dIs s k b with
 | false =>
   have hs : dTake s k b=s:=by unfold dTake;rw [hz];rfl
   rw [hs]
   rw [hz] at HI
   clear hz hs h
   go_enter Try.func49,Try.ntmps49
   go_wp2_with fail
   with_reducible refine HI.out.mono ?_
   rintro e w1 ⟨rfl,hb1⟩
   have HB1:=hid hb1
   clear hb1
   go_wp2
   go_ret
   exact ⟨rfl,DdTo.of_below H.out HB1.out⟩
 | true =>
   obtain ⟨t,r,hl⟩ : ∃ t r,s.l=t :: r:=by
    unfold dIs at hz
    cases hl : s.l with
    | nil=>rw [hl] at hz;simp at hz
    | cons t r=>exact ⟨t,r,rfl⟩
   have hs : dTake s k b=dSkip s:=by unfold dTake;rw [hz];rfl
   rw [hs]
   rw [hz] at HI
   have HL:=hid hl
   clear hz hs h hl
   go_enter Try.func49,Try.ntmps49
   go_wp2_with fail
   with_reducible refine HI.out.mono ?_
   rintro e w1 ⟨rfl,hb1⟩
   have HB1:=hid hb1
   clear hb1
   obtain ⟨a,c,h1⟩:=H.out.keep HB1.out
   have H2:=hid (h1.skip HL.out rfl)
   have c1:=h1.c1
   have f1:=h1.f 1
   have hlen:=h1.len
   have hw : IntKind.i64.wrap (((L.length - s.l.length : Nat) : Int)+1)=((L.length - s.l.length : Nat) : Int)+1:=IntWalk.i64_in _ (by omega)
   obtain ⟨p,hp⟩ : ∃ p,L.length - s.l.length=p:=⟨_,rfl⟩
   rw [hp] at c1 hw H2
   clear h1 hp hlen
   go_wp2
   go_ret
   exact ⟨rfl,⟨⟨a,c,H2.out⟩,(TFr.of_below HB1.out).trans (TFr.at _ _ _)⟩⟩
set_option maxRecDepth 100000 in
theorem dmust_calls' (h : DdR w R T L s) (k : Nat) (b : List UInt8) : Calls Try.prog 47 #[.pointer (some ⟨R,0,none⟩),.int .i64 k,.string (strB b)] w fun e w'=>e=.returned (.tuple #[])∧DdTo R T L (dMust s k b) w w':=by
 have HT:=hid (dtake_calls' h k b)
 cases hz : dIs s k b with
 | false =>
   have hs : dMust s k b=dFail (dTake s k b):=by unfold dMust dTake;rw [hz];rfl
   rw [hs]
   rw [hz] at HT
   clear hz hs h
   go_enter Try.func47,Try.ntmps47
   go_wp2_with fail
   with_reducible refine HT.out.mono ?_
   rintro e w1 ⟨rfl,hd1⟩
   have HD1:=hid hd1
   have HF:=hid (dfail_calls hd1.rd)
   clear hd1
   go_wp2_with fail
   with_reducible refine HF.out.mono ?_
   rintro e w2 ⟨rfl,hd2⟩
   have HD2:=hid (HD1.out.trans hd2)
   clear hd2
   go_wp2
   go_end0
   exact ⟨rfl,HD2.out⟩
 | true =>
   have hs : dMust s k b=dTake s k b:=by unfold dMust dTake;rw [hz];rfl
   rw [hs]
   rw [hz] at HT
   clear hz hs h
   go_enter Try.func47,Try.ntmps47
   go_wp2_with fail
   with_reducible refine HT.out.mono ?_
   rintro e w1 ⟨rfl,hd1⟩
   have HD1:=hid hd1
   clear hd1
   go_wp2
   go_end0
   exact ⟨rfl,HD1.out⟩
theorem disW_calls (h : DdR w R T L s) (b : List UInt8) : Calls Try.prog 64 #[.pointer (some ⟨R,0,none⟩),.int .i64 1,.string (strB b)] w fun e w'=>e=.returned (.bool (dIs s 1 b))∧Below w.heap.size w w':=dis_calls h 1 b
theorem disS_calls (h : DdR w R T L s) (b : List UInt8) : Calls Try.prog 64 #[.pointer (some ⟨R,0,none⟩),.int .i64 4,.string (strB b)] w fun e w'=>e=.returned (.bool (dIs s 4 b))∧Below w.heap.size w w':=dis_calls h 4 b
theorem dtakeW_calls (h : DdR w R T L s) (b : List UInt8) : Calls Try.prog 49 #[.pointer (some ⟨R,0,none⟩),.int .i64 1,.string (strB b)] w fun e w'=>e=.returned (.bool (dIs s 1 b))∧DdTo R T L (dTake s 1 b) w w':=dtake_calls' h 1 b
theorem dtakeS_calls (h : DdR w R T L s) (b : List UInt8) : Calls Try.prog 49 #[.pointer (some ⟨R,0,none⟩),.int .i64 4,.string (strB b)] w fun e w'=>e=.returned (.bool (dIs s 4 b))∧DdTo R T L (dTake s 4 b) w w':=dtake_calls' h 4 b
theorem dmustW_calls (h : DdR w R T L s) (b : List UInt8) : Calls Try.prog 47 #[.pointer (some ⟨R,0,none⟩),.int .i64 1,.string (strB b)] w fun e w'=>e=.returned (.tuple #[])∧DdTo R T L (dMust s 1 b) w w':=dmust_calls' h 1 b
theorem dmustS_calls (h : DdR w R T L s) (b : List UInt8) : Calls Try.prog 47 #[.pointer (some ⟨R,0,none⟩),.int .i64 4,.string (strB b)] w fun e w'=>e=.returned (.tuple #[])∧DdTo R T L (dMust s 4 b) w w':=dmust_calls' h 4 b
end
end Go.Proofs.Ytefcbgnckgapgaa
