/- Texts that others want. -/
import Derived.Test.YtkmlfkbpcgkpaaaGreatDoorM0
import Derived.Test.YtkmlfkbpcgkpaaaGreatDoorM2
import Derived.Test.YtkmlfkbpcgkpaaaGreatDoorWE1e
import Derived.Lib.Hide
import Derived.Test.YtkmlfkbpcgkpaaaGreatDoorWV4
namespace Go.Proofs.YtkmlfkbpcgkpaaaGreatDoor
open Go.RowKit Go.Lib Go.Op
set_option maxHeartbeats 8000000
set_option maxRecDepth 100000
def RWordTo (l : List UInt8) (k : Nat) : Prop:=(∀ c,0 < k→l[0]?=some c→letterB c=true)∧∀ j x,j < k→l[j]?=some x→charB x=true
theorem RWordTo.step {l : List UInt8} {k : Nat} (h : RWordTo l k) {c : UInt8} (hk : l[k]?=some c) (hc : charB c=true) (h0 : k=0→letterB c=true) : RWordTo l (k+1):=by
 refine ⟨fun x _ hx=>?_,fun j x hj hx=>?_⟩
 ·rcases Nat.eq_zero_or_pos k with e|e
  ·subst e
   rw [hk] at hx
   injection hx with hx
   rw [← hx];exact h0 rfl
  ·exact h.1 x e hx
 ·by_cases e : j=k
  ·subst e
   rw [hk] at hx
   injection hx with hx
   rw [← hx];exact hc
  ·exact h.2 j x (by omega) hx
theorem RWordTo.fin {l : List UInt8} (h : RWordTo l l.length) (h1 : 1≤l.length) (h2 : l.length≤16) : wordB l=true :=
 zed (List.getElem?_eq_getElem (by omega)) (h.1 _ (by omega) (List.getElem?_eq_getElem (by omega))) h2 fun k x hx=>h.2 k x (List.getElem?_eq_some_iff.1 hx).1 hx
theorem zcT (s : ByteArray) (w : World) (hs : s.size≤maxLen) :
 Calls Tryz.prog 60 #[.string s] w fun e w'=>e=.returned (.bool (wordB s.data.toList))∧w=w':=by
 unfold maxLen at hs
 have hsl : s.data.toList.length=s.size:=by simp
 generalize hr : wordB s.data.toList=r
 have Hr : Hid (wordB s.data.toList=r):=hr
 have Hsl : Hid (s.data.toList.length=s.size):=hsl
 clear hr hsl
 go_enter Tryz.func60,Tryz.ntmps60
 go_wp2
 go_loop [3,4,5] (fun i x y=>∃ k : Nat,k≤s.size∧i=.int .i64 k∧Hid (RWordTo s.data.toList k)) (fun i _ _=>s.size - (RowKit.intOf i).toNat)
 case atStart=>exact ⟨0,Nat.zero_le _,rfl,fun c h=>absurd h (Nat.not_lt_zero 0),fun j x hj=>absurd hj (Nat.not_lt_zero j)⟩
 case round =>
  obtain ⟨k,hk,rfl,HK⟩:=hrel
  by_cases hlt : k < s.size
  ·have hx : s.data.toList[k]?=some s[k]:=by
    rw [List.getElem?_eq_getElem (by rw [Hsl.out];exact hlt)]
    rfl
   have hb : s[k].toNat < 256:=s[k].toNat_lt
   have hstep:=fun h1 h2=>hid (HK.out.step hx h1 h2)
   have hnot:=fun h=>(hid (Hr.out.symm.trans (zec hx h)) : Hid (r=false))
   have hx0 : ∀ j,j=k→s.data.toList[j]?=some s[k]:=fun j e=>by rw [e];exact hx
   have hfirst:=fun (e : 0=k) (hle : letterB s[k]=false)=>(hid (Hr.out.symm.trans (zcA (l:=s.data.toList) (c:=s[k]) (hx0 0 e) hle)) : Hid (r=false))
   have hlo : letterB s[k]=decide (97≤s[k].toNat∧s[k].toNat≤122):=rfl
   have hco:=zf0 (c:=s[k])
   rw [hlo] at hstep hfirst
   rw [hco] at hstep hnot
   clear hlo hco hx hx0
   by_cases a1 : 97≤s[k].toNat∧s[k].toNat≤122
   ·have hst:=hstep (by simp [a1]) (fun _=>by simp [a1])
    obtain ⟨b1,b2⟩:=a1
    clear hstep hnot hfirst
    go_wp2
    go_round
    case rel=>exact ⟨k+1,by omega,by go_num,hst⟩
    case measure=>simp [RowKit.intOf];omega
   ·by_cases h0 : k=0
    ·have hst:=(hfirst h0.symm (decide_eq_false a1)).out
     subst hst
     subst h0
     have h3 : (s[0].toNat < 97)∨(97≤s[0].toNat∧122 < s[0].toNat):=by omega
     clear hstep hnot hfirst a1
     rcases h3 with h3|⟨h3,h4⟩
     ·go_wp2
      go_ret
      exact ⟨rfl,rfl⟩
     ·have hd : decide ((s[0].toNat : Int)≤122)=false:=by simp;omega
      go_wp2
      go_ret
      exact ⟨rfl,rfl⟩
    ·have hk0 : ((k : Int) == 0)=false:=by rw [beq_eq_false_iff_ne];omega
     have go1 : ∀ (_ : s[k].toNat=95∨(48≤s[k].toNat∧s[k].toNat≤57)),Hid (RWordTo s.data.toList (k+1)):=fun h=>hstep (by simp;omega) (fun e=>absurd e h0)
     have go0 : ∀ (_ : ¬ s[k].toNat=95) (_ : ¬ (48≤s[k].toNat∧s[k].toNat≤57)),Hid (r=false):=fun h1 h2=>hnot (by simp;omega)
     clear hstep hnot hfirst
     by_cases a2 : s[k].toNat=95
     ·have hst:=go1 (.inl a2)
      have ht : ((s[k].toNat : Int) != 95)=false:=by rw [bne_eq_false_iff_eq];omega
      have h3 : s[k].toNat < 97:=by omega
      clear go1 go0 a1
      go_wp2
      go_round
      case rel=>exact ⟨k+1,by omega,by go_num,hst⟩
      case measure=>simp [RowKit.intOf];omega
     have ht : ((s[k].toNat : Int) != 95)=true:=by rw [bne_iff_ne];omega
     by_cases a3 : 48≤s[k].toNat∧s[k].toNat≤57
     ·have hst:=go1 (.inr a3)
      obtain ⟨b1,b2⟩:=a3
      have h3 : s[k].toNat < 97:=by omega
      clear go1 go0 a1 a2
      go_wp2
      go_round
      case rel=>exact ⟨k+1,by omega,by go_num,hst⟩
      case measure=>simp [RowKit.intOf];omega
     ·have hst:=(go0 a2 a3).out
      subst hst
      have h3 : (s[k].toNat < 97∧s[k].toNat < 48)∨(s[k].toNat < 97∧48≤s[k].toNat∧57 < s[k].toNat)∨(97≤s[k].toNat∧122 < s[k].toNat∧48≤s[k].toNat∧57 < s[k].toNat):=by omega
      clear go1 go0 a1 a2 a3
      rcases h3 with ⟨h3,h4⟩|⟨h3,h4,h5⟩|⟨h3,h4,h5,h6⟩
      ·go_wp2
       go_ret
       exact ⟨rfl,rfl⟩
      ·go_wp2
       go_ret
       exact ⟨rfl,rfl⟩
      ·have hd : decide ((s[k].toNat : Int)≤122)=false:=by simp;omega
       go_wp2
       go_ret
       exact ⟨rfl,rfl⟩
  ·obtain rfl : k=s.size:=by omega
   by_cases h1 : s.size < 1
   ·have hf : r=false:=Hr.out.symm.trans (by
     have : s.data.toList=[]:=List.eq_nil_of_length_eq_zero (by rw [Hsl.out];omega)
     rw [this];rfl)
    subst hf
    have hd : decide (1≤(s.size : Int))=false:=by simp;omega
    go_wp2
    go_ret
    exact ⟨rfl,rfl⟩
   by_cases h2 : 16 < s.size
   ·have hf : r=false:=Hr.out.symm.trans (zdj (by rw [Hsl.out];exact h2))
    subst hf
    have hd : decide ((s.size : Int)≤16)=false:=by simp;omega
    go_wp2
    go_ret
    exact ⟨rfl,rfl⟩
   have hf : r=true:=Hr.out.symm.trans ((show RWordTo s.data.toList s.data.toList.length by rw [Hsl.out];exact HK.out).fin (by rw [Hsl.out];omega) (by rw [Hsl.out];omega))
   subst hf
   have hd : decide ((s.size : Int)≤16)=true:=by simp;omega
   go_wp2
   go_ret
   exact ⟨rfl,rfl⟩
def keysV : Array Value:=#[.string ⟨#[115,101,113]⟩,.string ⟨#[116,104,101,110]⟩,.string ⟨#[110,111,116]⟩,.string ⟨#[111,114]⟩,.string ⟨#[119,104,101,114,101]⟩,.string ⟨#[97,110,100]⟩,.string ⟨#[119,105,116,104,105,110]⟩,.string ⟨#[98,121]⟩,.string ⟨#[112,105,99,107]⟩,.string ⟨#[97,110,121]⟩,.string ⟨#[110,101,120,116]⟩,.string ⟨#[115,116,114,105,99,116]⟩,.string ⟨#[116,114,117,101]⟩,.string ⟨#[102,97,108,115,101]⟩,.string ⟨#[99,111,117,110,116]⟩,.string ⟨#[115,117,109]⟩,.string ⟨#[109,105,110]⟩,.string ⟨#[109,97,120]⟩]
theorem ziY : keysV=(keysL.map (fun b=>Value.string (strB b))).toArray:=rfl
theorem ziZ {k : Nat} {x : List UInt8} (h : keysL[k]?=some x) : keysV[k]?=some (.string (strB x)):=by
 rw [ziY]
 simp [h]
theorem zgM (b : List UInt8) (w : World) : Calls Tryz.prog 85 #[.string (strB b)] w fun e w'=>e=.returned (.bool (keyB b))∧Below w.heap.size w w':=by
 obtain ⟨z,hz⟩ : ∃ z,keyB b=z:=⟨_,rfl⟩
 rw [hz]
 have Hz:=hid hz
 have HB0:=hid ((Below.refl w.heap.size w).alloc (Nat.le_refl _) (.cells keysV 9))
 clear hz
 go_enter Tryz.func85,Tryz.ntmps85
 go_wp2
 go_loop [4] (fun n=>∃ k : Nat,n=.int .i64 k∧k≤18∧Hid (∀ j x,j < k→keysL[j]?=some x→x≠b)) (fun n=>18 - (RowKit.intOf n).toNat)
 case atStart=>exact ⟨0,rfl,Nat.zero_le _,fun j x hj=>absurd hj (Nat.not_lt_zero j)⟩
 case round =>
  obtain ⟨k,rfl,hk,HK⟩:=hrel
  by_cases hlt : k < 18
  ·obtain ⟨x,hx⟩ : ∃ x,keysL[k]?=some x:=⟨_,List.getElem?_eq_getElem (by exact hlt)⟩
   have hc : (w.alloc (.cells keysV 9)).cell? ⟨w.heap.size,k,none⟩=some (.string (strB x)):=tnew w keysV 9 k (ziZ hx)
   unfold keysV at hc
   by_cases he : x=b
   ·have HR : Hid (z=true):=by
     show z=_
     rw [← Hz.out]
     unfold keyB
     rw [List.contains_iff_mem]
     exact he ▸ List.mem_of_getElem? hx
    have ht : ((strB x).toList == (strB b).toList)=true:=by rw [he];simp
    clear hx HK he
    go_wp2
    go_ret
    exact ⟨zaJ HR.out.symm,HB0.out⟩
   ·have ht : ((strB x).toList == (strB b).toList)=false:=by rw [zao,zao,beq_eq_false_iff_ne];exact he
    have HN : Hid (∀ j y,j < k+1→keysL[j]?=some y→y≠b):=fun j y hj hy=>by
     by_cases hjk : j=k
     ·subst hjk
      rw [hx] at hy
      injection hy with hy
      rw [← hy];exact he
     ·exact HK.out j y (by omega) hy
    clear hx HK he
    go_wp2
    go_round
    case rel=>exact ⟨k+1,by go_num,by omega,HN⟩
    case measure=>simp [RowKit.intOf];omega
  ·obtain rfl : k=18:=by omega
   have HR : Hid (z=false):=by
    show z=_
    rw [← Hz.out]
    unfold keyB
    rw [← Bool.not_eq_true,List.contains_iff_mem]
    intro hm
    obtain ⟨j,hj⟩:=List.getElem?_of_mem hm
    exact HK.out j b (List.getElem?_eq_some_iff.1 hj).1 hj rfl
   clear HK
   go_wp2
   go_ret
   exact ⟨zaJ HR.out.symm,HB0.out⟩
theorem zan (b : List UInt8) (w : World) (hb : b.length≤1000000) : Calls Tryz.prog 51 #[.string (strB b)] w fun e w'=>e=.returned (.bool (nameB b))∧Below w.heap.size w w':=by
 have HW : Hid (Calls Tryz.prog 60 #[.string (strB b)] w fun e w'=>e=.returned (.bool (wordB b))∧w=w'):=by
  show Calls _ _ _ _ _
  have h:=zcT (strB b) w (by unfold maxLen;rw [zap];omega)
  rw [zax] at h
  exact h
 have HK:=hid (fun W=>zgM b W)
 unfold nameB
 obtain ⟨r1,h1⟩ : ∃ r,wordB b=r:=⟨_,rfl⟩
 obtain ⟨r2,h2⟩ : ∃ r,keyB b=r:=⟨_,rfl⟩
 rw [h1] at HW ⊢
 rw [h2] at HK ⊢
 clear h1 h2 hb
 cases r1 with
 | false =>
   go_enter Tryz.func51,Tryz.ntmps51
   go_wp2_with (go_at_call 60;(with_reducible refine HW.out.mono ?_);rintro e w1 ⟨rfl,rfl⟩)
   go_ret
   exact ⟨rfl,Below.refl _ _⟩
 | true =>
   go_enter Tryz.func51,Tryz.ntmps51
   go_wp2_with (first|(go_at_call 60;(with_reducible refine HW.out.mono ?_);rintro e w1 ⟨rfl,rfl⟩)|(go_at_call 85;(with_reducible refine (HK.out _).mono ?_);rintro e w2 ⟨rfl,hb2⟩;have HB2:=hid hb2;clear hb2))
   go_ret
   exact ⟨zaJ (by cases r2 <;> rfl),HB2.out⟩
theorem rright_calls (k n : Int) (s : ByteArray) (w : World) (hs : s.size≤maxLen) :
 Calls Tryz.prog 61 #[.agg #[.int .i64 k,.int .i64 n,.string s]] w fun e w'=>e=.returned (.bool (rightV k n s))∧w'=w.alloc (.cells #[.int .i64 k,.int .i64 n,.string s] 70):=by
 unfold maxLen at hs
 have hsl : s.data.toList.length=s.size:=by simp
 by_cases hse : s.data.toList=[]
 ·obtain rfl:=zfZ hse
  clear hsl hse hs
  by_cases h3 : k=3
  ·subst h3
   rw [zbA]
   go_enter Tryz.func61,Tryz.ntmps61
   go_wp2
   all_goals (go_ret;exact ⟨zag (by simp;omega),rfl⟩)
  by_cases h1 : k=1
  ·subst h1
   rw [zby]
   go_enter Tryz.func61,Tryz.ntmps61
   go_wp2
   all_goals (go_ret;exact ⟨zag (by simp;omega),rfl⟩)
  by_cases h2 : k=2
  ·subst h2
   rw [zbz]
   by_cases hn : n=0
   ·subst hn
    go_enter Tryz.func61,Tryz.ntmps61
    go_wp2
    all_goals (go_ret;exact ⟨zag (by simp),rfl⟩)
   ·go_enter Tryz.func61,Tryz.ntmps61
    go_wp2
    all_goals (go_ret;exact ⟨zag (by simp;omega),rfl⟩)
  ·rw [zaV h1 h2 h3]
   go_enter Tryz.func61,Tryz.ntmps61
   go_wp2
   all_goals (go_ret;exact ⟨zag (by simp),rfl⟩)
 ·have ha : (s.toList == [])=false:=by rw [beq_eq_false_iff_ne,vtoL];exact hse
  have hb : (!s.toList.isEmpty)=true:=by rw [vtoL];simpa using hse
  have hc : s.toList.isEmpty=false:=by rw [vtoL];simpa using hse
  by_cases h3 : k=3
  ·subst h3
   rw [zbA]
   go_enter Tryz.func61,Tryz.ntmps61
   go_wp2
   all_goals (go_ret;exact ⟨zag (by first|rfl|(simp [hse])|(simp;omega)),rfl⟩)
  by_cases h1 : k=1
  ·subst h1
   rw [zby]
   go_enter Tryz.func61,Tryz.ntmps61
   go_wp2
   all_goals (go_ret;exact ⟨zag (by first|rfl|(simp [hse])|(simp;omega)),rfl⟩)
  by_cases h2 : k=2
  ·subst h2
   rw [zbz]
   by_cases hn : n=0
   ·subst hn
    clear ha hb hc
    go_enter Tryz.func61,Tryz.ntmps61
    go_wp2
    all_goals (go_ret;exact ⟨zag (by simp [hsl];try omega),rfl⟩)
   ·clear ha hb hc
    go_enter Tryz.func61,Tryz.ntmps61
    go_wp2
    all_goals (go_ret;exact ⟨zag (by simp;omega),rfl⟩)
  ·rw [zaV h1 h2 h3]
   go_enter Tryz.func61,Tryz.ntmps61
   go_wp2
   all_goals (go_ret;exact ⟨zag (by simp),rfl⟩)
section
variable {w : World} {a : Option Addr} {c n : Nat} {vk vn : Int} {vs x f : List UInt8}
theorem zjJ (k : Int) : Calls Tryz.prog 50 #[.agg #[.int .i64 k,.int .i64 vk,.int .i64 vn,.string (strB vs),.string (strB x),.string (strB f),.slice a n c],.int .i64 0] w fun e w'=>e=.returned (.bool false)∧Below w.heap.size w w':=by
 go_enter Tryz.func50,Tryz.ntmps50
 go_wp2
 all_goals
  go_ret
  exact ⟨rfl,(Below.refl w.heap.size w).alloc (Nat.le_refl _) _⟩
theorem zjK (m : Nat) (hm : 0 < m) (hm7 : m≤100) {k : Int} (hk : ¬ k=1) (hv : ¬ vk=0) : Calls Tryz.prog 50 #[.agg #[.int .i64 k,.int .i64 vk,.int .i64 vn,.string (strB vs),.string (strB x),.string (strB f),.slice a n c],.int .i64 m] w fun e w'=>e=.returned (.bool false)∧Below w.heap.size w w':=by
 have ht : decide ((m : Int) < 1)=false:=by rw [decide_eq_false_iff_not];omega
 go_enter Tryz.func50,Tryz.ntmps50
 go_wp2
 all_goals
  go_ret
  exact ⟨rfl,(Below.refl w.heap.size w).alloc (Nat.le_refl _) _⟩
theorem zjL (m : Nat) (hm : 0 < m) (hm7 : m≤100) {k : Int} (hk : ¬ k=1) (hv : ¬ vn=0) : Calls Tryz.prog 50 #[.agg #[.int .i64 k,.int .i64 0,.int .i64 vn,.string (strB vs),.string (strB x),.string (strB f),.slice a n c],.int .i64 m] w fun e w'=>e=.returned (.bool false)∧Below w.heap.size w w':=by
 have ht : decide ((m : Int) < 1)=false:=by rw [decide_eq_false_iff_not];omega
 go_enter Tryz.func50,Tryz.ntmps50
 go_wp2
 all_goals
  go_ret
  exact ⟨rfl,(Below.refl w.heap.size w).alloc (Nat.le_refl _) _⟩
theorem zjM (m : Nat) (hm : 0 < m) (hm7 : m≤100) {k : Int} (hk : ¬ k=1) (hv : ¬ (strB vs).toList=[]) : Calls Tryz.prog 50 #[.agg #[.int .i64 k,.int .i64 0,.int .i64 0,.string (strB vs),.string (strB x),.string (strB f),.slice a n c],.int .i64 m] w fun e w'=>e=.returned (.bool false)∧Below w.heap.size w w':=by
 have ht : decide ((m : Int) < 1)=false:=by rw [decide_eq_false_iff_not];omega
 go_enter Tryz.func50,Tryz.ntmps50
 go_wp2
 all_goals
  go_ret
  exact ⟨rfl,(Below.refl w.heap.size w).alloc (Nat.le_refl _) _⟩
theorem zhP (m : Nat) (hm : 0 < m) (hm7 : m≤100) {k : Int} (hk7 : ¬ k=7) (hk8 : ¬ k=8) (hn : 0 < n) : Calls Tryz.prog 50 #[.agg #[.int .i64 k,.int .i64 vk,.int .i64 vn,.string (strB vs),.string (strB x),.string (strB f),.slice a n c],.int .i64 m] w fun e w'=>e=.returned (.bool false)∧Below w.heap.size w w':=by
 have ht : decide ((m : Int) < 1)=false:=by rw [decide_eq_false_iff_not];omega
 go_enter Tryz.func50,Tryz.ntmps50
 go_wp2
 all_goals
  go_ret
  exact ⟨rfl,(Below.refl w.heap.size w).alloc (Nat.le_refl _) _⟩
theorem zhQ (m : Nat) (hm : 0 < m) (hm7 : m≤100) (hx : x.length≤1000000) (hf : f.length≤1000000) : Calls Tryz.prog 50 #[.agg #[.int .i64 2,.int .i64 0,.int .i64 0,.string ⟨#[]⟩,.string (strB x),.string (strB f),.slice a 0 c],.int .i64 m] w fun e w'=>e=.returned (.bool (nameB x && nameB f))∧Below w.heap.size w w':=by
 have ht : decide ((m : Int) < 1)=false:=by rw [decide_eq_false_iff_not];omega
 have hb0:=(Below.refl w.heap.size w).alloc (Nat.le_refl _) (.cells #[.int .i64 2,.int .i64 0,.int .i64 0,.string ⟨#[]⟩,.string (strB x),.string (strB f),.slice a 0 c] 89)
 have m4:=tnew w #[.int .i64 2,.int .i64 0,.int .i64 0,.string ⟨#[]⟩,.string (strB x),.string (strB f),.slice a 0 c] 89 4 rfl
 have HM5:=hid (tnew w #[.int .i64 2,.int .i64 0,.int .i64 0,.string ⟨#[]⟩,.string (strB x),.string (strB f),.slice a 0 c] 89 5 rfl)
 have HB0:=hid hb0
 have HNx:=hid (fun W=>zan x W hx)
 have HNf:=hid (fun W=>zan f W hf)
 obtain ⟨r1,h1⟩ : ∃ r,nameB x=r:=⟨_,rfl⟩
 obtain ⟨r2,h2⟩ : ∃ r,nameB f=r:=⟨_,rfl⟩
 rw [h1] at HNx ⊢
 rw [h2] at HNf ⊢
 clear hb0 h1 h2 hx hf hm hm7 m4
 cases r1
 ·go_enter Tryz.func50,Tryz.ntmps50
  go_wp2_with fail
  with_reducible refine (HNx.out _).mono ?_
  rintro e w1 ⟨rfl,hb1⟩
  have HB1:=hid (HB0.out.trans (hb1.mono HB0.out.size))
  clear hb1
  go_wp2
  go_ret
  exact ⟨rfl,HB1.out⟩
 ·go_enter Tryz.func50,Tryz.ntmps50
  go_wp2_with fail
  with_reducible refine (HNx.out _).mono ?_
  rintro e w1 ⟨rfl,hb1⟩
  have m5:=zaa hb1 HM5.out
  have HB1:=hid (HB0.out.trans (hb1.mono HB0.out.size))
  clear hb1
  go_wp2_with fail
  with_reducible refine (HNf.out _).mono ?_
  rintro e w2 ⟨rfl,hb2⟩
  have HB2:=hid (HB1.out.trans (hb2.mono HB1.out.size))
  clear hb2
  go_wp2
  go_ret
  exact ⟨rfl,HB2.out⟩
theorem zhR (m : Nat) (hm : 0 < m) (hm7 : m≤100) (hx : x.length≤1000000) (hf : f.length≤1000000) : Calls Tryz.prog 50 #[.agg #[.int .i64 4,.int .i64 0,.int .i64 0,.string ⟨#[]⟩,.string (strB x),.string (strB f),.slice a 0 c],.int .i64 m] w fun e w'=>e=.returned (.bool (nameB x && nameB f))∧Below w.heap.size w w':=by
 have ht : decide ((m : Int) < 1)=false:=by rw [decide_eq_false_iff_not];omega
 have hb0:=(Below.refl w.heap.size w).alloc (Nat.le_refl _) (.cells #[.int .i64 4,.int .i64 0,.int .i64 0,.string ⟨#[]⟩,.string (strB x),.string (strB f),.slice a 0 c] 89)
 have m4:=tnew w #[.int .i64 4,.int .i64 0,.int .i64 0,.string ⟨#[]⟩,.string (strB x),.string (strB f),.slice a 0 c] 89 4 rfl
 have HM5:=hid (tnew w #[.int .i64 4,.int .i64 0,.int .i64 0,.string ⟨#[]⟩,.string (strB x),.string (strB f),.slice a 0 c] 89 5 rfl)
 have HB0:=hid hb0
 have HNx:=hid (fun W=>zan x W hx)
 have HNf:=hid (fun W=>zan f W hf)
 obtain ⟨r1,h1⟩ : ∃ r,nameB x=r:=⟨_,rfl⟩
 obtain ⟨r2,h2⟩ : ∃ r,nameB f=r:=⟨_,rfl⟩
 rw [h1] at HNx ⊢
 rw [h2] at HNf ⊢
 clear hb0 h1 h2 hx hf hm hm7 m4
 cases r1
 ·go_enter Tryz.func50,Tryz.ntmps50
  go_wp2_with fail
  with_reducible refine (HNx.out _).mono ?_
  rintro e w1 ⟨rfl,hb1⟩
  have HB1:=hid (HB0.out.trans (hb1.mono HB0.out.size))
  clear hb1
  go_wp2
  go_ret
  exact ⟨rfl,HB1.out⟩
 ·go_enter Tryz.func50,Tryz.ntmps50
  go_wp2_with fail
  with_reducible refine (HNx.out _).mono ?_
  rintro e w1 ⟨rfl,hb1⟩
  have m5:=zaa hb1 HM5.out
  have HB1:=hid (HB0.out.trans (hb1.mono HB0.out.size))
  clear hb1
  go_wp2_with fail
  with_reducible refine (HNf.out _).mono ?_
  rintro e w2 ⟨rfl,hb2⟩
  have HB2:=hid (HB1.out.trans (hb2.mono HB1.out.size))
  clear hb2
  go_wp2
  go_ret
  exact ⟨rfl,HB2.out⟩
theorem zhS (m : Nat) (hm : 0 < m) (hm7 : m≤100) (hx : x.length≤1000000) (hf : f.length≤1000000) : Calls Tryz.prog 50 #[.agg #[.int .i64 5,.int .i64 0,.int .i64 0,.string ⟨#[]⟩,.string (strB x),.string (strB f),.slice a 0 c],.int .i64 m] w fun e w'=>e=.returned (.bool (nameB x && nameB f))∧Below w.heap.size w w':=by
 have ht : decide ((m : Int) < 1)=false:=by rw [decide_eq_false_iff_not];omega
 have hb0:=(Below.refl w.heap.size w).alloc (Nat.le_refl _) (.cells #[.int .i64 5,.int .i64 0,.int .i64 0,.string ⟨#[]⟩,.string (strB x),.string (strB f),.slice a 0 c] 89)
 have m4:=tnew w #[.int .i64 5,.int .i64 0,.int .i64 0,.string ⟨#[]⟩,.string (strB x),.string (strB f),.slice a 0 c] 89 4 rfl
 have HM5:=hid (tnew w #[.int .i64 5,.int .i64 0,.int .i64 0,.string ⟨#[]⟩,.string (strB x),.string (strB f),.slice a 0 c] 89 5 rfl)
 have HB0:=hid hb0
 have HNx:=hid (fun W=>zan x W hx)
 have HNf:=hid (fun W=>zan f W hf)
 obtain ⟨r1,h1⟩ : ∃ r,nameB x=r:=⟨_,rfl⟩
 obtain ⟨r2,h2⟩ : ∃ r,nameB f=r:=⟨_,rfl⟩
 rw [h1] at HNx ⊢
 rw [h2] at HNf ⊢
 clear hb0 h1 h2 hx hf hm hm7 m4
 cases r1
 ·go_enter Tryz.func50,Tryz.ntmps50
  go_wp2_with fail
  with_reducible refine (HNx.out _).mono ?_
  rintro e w1 ⟨rfl,hb1⟩
  have HB1:=hid (HB0.out.trans (hb1.mono HB0.out.size))
  clear hb1
  go_wp2
  go_ret
  exact ⟨rfl,HB1.out⟩
 ·go_enter Tryz.func50,Tryz.ntmps50
  go_wp2_with fail
  with_reducible refine (HNx.out _).mono ?_
  rintro e w1 ⟨rfl,hb1⟩
  have m5:=zaa hb1 HM5.out
  have HB1:=hid (HB0.out.trans (hb1.mono HB0.out.size))
  clear hb1
  go_wp2_with fail
  with_reducible refine (HNf.out _).mono ?_
  rintro e w2 ⟨rfl,hb2⟩
  have HB2:=hid (HB1.out.trans (hb2.mono HB1.out.size))
  clear hb2
  go_wp2
  go_ret
  exact ⟨rfl,HB2.out⟩
theorem zhT (m : Nat) (hm : 0 < m) (hm7 : m≤100) (hx : x.length≤1000000) (hf : f.length≤1000000) : Calls Tryz.prog 50 #[.agg #[.int .i64 6,.int .i64 0,.int .i64 0,.string ⟨#[]⟩,.string (strB x),.string (strB f),.slice a 0 c],.int .i64 m] w fun e w'=>e=.returned (.bool (nameB x && nameB f))∧Below w.heap.size w w':=by
 have ht : decide ((m : Int) < 1)=false:=by rw [decide_eq_false_iff_not];omega
 have hb0:=(Below.refl w.heap.size w).alloc (Nat.le_refl _) (.cells #[.int .i64 6,.int .i64 0,.int .i64 0,.string ⟨#[]⟩,.string (strB x),.string (strB f),.slice a 0 c] 89)
 have m4:=tnew w #[.int .i64 6,.int .i64 0,.int .i64 0,.string ⟨#[]⟩,.string (strB x),.string (strB f),.slice a 0 c] 89 4 rfl
 have HM5:=hid (tnew w #[.int .i64 6,.int .i64 0,.int .i64 0,.string ⟨#[]⟩,.string (strB x),.string (strB f),.slice a 0 c] 89 5 rfl)
 have HB0:=hid hb0
 have HNx:=hid (fun W=>zan x W hx)
 have HNf:=hid (fun W=>zan f W hf)
 obtain ⟨r1,h1⟩ : ∃ r,nameB x=r:=⟨_,rfl⟩
 obtain ⟨r2,h2⟩ : ∃ r,nameB f=r:=⟨_,rfl⟩
 rw [h1] at HNx ⊢
 rw [h2] at HNf ⊢
 clear hb0 h1 h2 hx hf hm hm7 m4
 cases r1
 ·go_enter Tryz.func50,Tryz.ntmps50
  go_wp2_with fail
  with_reducible refine (HNx.out _).mono ?_
  rintro e w1 ⟨rfl,hb1⟩
  have HB1:=hid (HB0.out.trans (hb1.mono HB0.out.size))
  clear hb1
  go_wp2
  go_ret
  exact ⟨rfl,HB1.out⟩
 ·go_enter Tryz.func50,Tryz.ntmps50
  go_wp2_with fail
  with_reducible refine (HNx.out _).mono ?_
  rintro e w1 ⟨rfl,hb1⟩
  have m5:=zaa hb1 HM5.out
  have HB1:=hid (HB0.out.trans (hb1.mono HB0.out.size))
  clear hb1
  go_wp2_with fail
  with_reducible refine (HNf.out _).mono ?_
  rintro e w2 ⟨rfl,hb2⟩
  have HB2:=hid (HB1.out.trans (hb2.mono HB1.out.size))
  clear hb2
  go_wp2
  go_ret
  exact ⟨rfl,HB2.out⟩
theorem ziX (m : Nat) (hm : 0 < m) (hm7 : m≤100) (hx : x.length≤1000000) : Calls Tryz.prog 50 #[.agg #[.int .i64 3,.int .i64 0,.int .i64 0,.string ⟨#[]⟩,.string (strB x),.string (strB f),.slice a 0 c],.int .i64 m] w fun e w'=>e=.returned (.bool (decide (f=[]) && nameB x))∧Below w.heap.size w w':=by
 have ht : decide ((m : Int) < 1)=false:=by rw [decide_eq_false_iff_not];omega
 have hb0:=(Below.refl w.heap.size w).alloc (Nat.le_refl _) (.cells #[.int .i64 3,.int .i64 0,.int .i64 0,.string ⟨#[]⟩,.string (strB x),.string (strB f),.slice a 0 c] 89)
 have HM5:=hid (tnew w #[.int .i64 3,.int .i64 0,.int .i64 0,.string ⟨#[]⟩,.string (strB x),.string (strB f),.slice a 0 c] 89 5 rfl)
 have HB0:=hid hb0
 have HNx:=hid (fun W=>zan x W hx)
 obtain ⟨r1,h1⟩ : ∃ r,nameB x=r:=⟨_,rfl⟩
 rw [h1] at HNx ⊢
 clear hb0 h1 hx hm hm7
 cases r1
 ·rw [Bool.and_false]
  go_enter Tryz.func50,Tryz.ntmps50
  go_wp2_with fail
  with_reducible refine (HNx.out _).mono ?_
  rintro e w1 ⟨rfl,hb1⟩
  have HB1:=hid (HB0.out.trans (hb1.mono HB0.out.size))
  clear hb1
  go_wp2
  go_ret
  exact ⟨rfl,HB1.out⟩
 ·rw [Bool.and_true]
  by_cases hf : f=[]
  ·subst hf
   rw [decide_eq_true rfl]
   go_enter Tryz.func50,Tryz.ntmps50
   go_wp2_with fail
   with_reducible refine (HNx.out _).mono ?_
   rintro e w1 ⟨rfl,hb1⟩
   have m5 : w1.cell? ⟨w.heap.size,5,none⟩=some (.string ⟨#[]⟩):=zaa hb1 HM5.out
   have HB1:=hid (HB0.out.trans (hb1.mono HB0.out.size))
   clear hb1
   go_wp2
   go_ret
   exact ⟨rfl,HB1.out⟩
  ·rw [decide_eq_false hf]
   have hf2 : ¬ (strB f).toList=[]:=fun h=>hf ((zao f).symm.trans h)
   go_enter Tryz.func50,Tryz.ntmps50
   go_wp2_with fail
   with_reducible refine (HNx.out _).mono ?_
   rintro e w1 ⟨rfl,hb1⟩
   have m5:=zaa hb1 HM5.out
   have HB1:=hid (HB0.out.trans (hb1.mono HB0.out.size))
   clear hb1
   have hfe : (strB f).toList.isEmpty=false:=by
    rw [Bool.eq_false_iff]
    intro h
    exact hf2 (List.isEmpty_iff.1 h)
   go_wp2
   go_ret
   exact ⟨by first|rfl|exact congrArg (fun b=>Ending.returned (.bool b)) hfe,HB1.out⟩
end
section
variable {w : World} {a : Option Addr} {c n : Nat} {vk vn : Int} {vs x f : List UInt8}
theorem zjH (m : Nat) (hm : 0 < m) (hm7 : m≤100) (hx : ¬ (strB x).toList=[]) : Calls Tryz.prog 50 #[.agg #[.int .i64 1,.int .i64 vk,.int .i64 vn,.string (strB vs),.string (strB x),.string (strB f),.slice a 0 c],.int .i64 m] w fun e w'=>e=.returned (.bool false)∧Below w.heap.size w w':=by
 have ht : decide ((m : Int) < 1)=false:=by rw [decide_eq_false_iff_not];omega
 have hye : (strB x).toList.isEmpty=false:=by
  rw [Bool.eq_false_iff]
  intro h
  exact hx (List.isEmpty_iff.1 h)
 go_enter Tryz.func50,Tryz.ntmps50
 go_wp2
 all_goals
  go_ret
  exact ⟨rfl,(Below.refl w.heap.size w).alloc (Nat.le_refl _) _⟩
theorem zjI (m : Nat) (hm : 0 < m) (hm7 : m≤100) (hf : ¬ (strB f).toList=[]) : Calls Tryz.prog 50 #[.agg #[.int .i64 1,.int .i64 vk,.int .i64 vn,.string (strB vs),.string ⟨#[]⟩,.string (strB f),.slice a 0 c],.int .i64 m] w fun e w'=>e=.returned (.bool false)∧Below w.heap.size w w':=by
 have ht : decide ((m : Int) < 1)=false:=by rw [decide_eq_false_iff_not];omega
 have hye : (strB f).toList.isEmpty=false:=by
  rw [Bool.eq_false_iff]
  intro h
  exact hf (List.isEmpty_iff.1 h)
 go_enter Tryz.func50,Tryz.ntmps50
 go_wp2
 all_goals
  go_ret
  exact ⟨rfl,(Below.refl w.heap.size w).alloc (Nat.le_refl _) _⟩
theorem ziQ (m : Nat) (hm : 0 < m) (hm7 : m≤100) (hx : ¬ (strB x).toList=[]) : Calls Tryz.prog 50 #[.agg #[.int .i64 7,.int .i64 0,.int .i64 0,.string ⟨#[]⟩,.string (strB x),.string (strB f),.slice a n c],.int .i64 m] w fun e w'=>e=.returned (.bool false)∧Below w.heap.size w w':=by
 have ht : decide ((m : Int) < 1)=false:=by rw [decide_eq_false_iff_not];omega
 have hye : (strB x).toList.isEmpty=false:=by
  rw [Bool.eq_false_iff]
  intro h
  exact hx (List.isEmpty_iff.1 h)
 go_enter Tryz.func50,Tryz.ntmps50
 go_wp2
 all_goals
  go_ret
  exact ⟨rfl,(Below.refl w.heap.size w).alloc (Nat.le_refl _) _⟩
theorem ziR (m : Nat) (hm : 0 < m) (hm7 : m≤100) (hf : ¬ (strB f).toList=[]) : Calls Tryz.prog 50 #[.agg #[.int .i64 7,.int .i64 0,.int .i64 0,.string ⟨#[]⟩,.string ⟨#[]⟩,.string (strB f),.slice a n c],.int .i64 m] w fun e w'=>e=.returned (.bool false)∧Below w.heap.size w w':=by
 have ht : decide ((m : Int) < 1)=false:=by rw [decide_eq_false_iff_not];omega
 have hye : (strB f).toList.isEmpty=false:=by
  rw [Bool.eq_false_iff]
  intro h
  exact hf (List.isEmpty_iff.1 h)
 go_enter Tryz.func50,Tryz.ntmps50
 go_wp2
 all_goals
  go_ret
  exact ⟨rfl,(Below.refl w.heap.size w).alloc (Nat.le_refl _) _⟩
theorem ziS (m : Nat) (hm : 0 < m) (hm7 : m≤100) (hx : ¬ (strB x).toList=[]) : Calls Tryz.prog 50 #[.agg #[.int .i64 8,.int .i64 0,.int .i64 0,.string ⟨#[]⟩,.string (strB x),.string (strB f),.slice a n c],.int .i64 m] w fun e w'=>e=.returned (.bool false)∧Below w.heap.size w w':=by
 have ht : decide ((m : Int) < 1)=false:=by rw [decide_eq_false_iff_not];omega
 have hye : (strB x).toList.isEmpty=false:=by
  rw [Bool.eq_false_iff]
  intro h
  exact hx (List.isEmpty_iff.1 h)
 go_enter Tryz.func50,Tryz.ntmps50
 go_wp2
 all_goals
  go_ret
  exact ⟨rfl,(Below.refl w.heap.size w).alloc (Nat.le_refl _) _⟩
theorem ziT (m : Nat) (hm : 0 < m) (hm7 : m≤100) (hf : ¬ (strB f).toList=[]) : Calls Tryz.prog 50 #[.agg #[.int .i64 8,.int .i64 0,.int .i64 0,.string ⟨#[]⟩,.string ⟨#[]⟩,.string (strB f),.slice a n c],.int .i64 m] w fun e w'=>e=.returned (.bool false)∧Below w.heap.size w w':=by
 have ht : decide ((m : Int) < 1)=false:=by rw [decide_eq_false_iff_not];omega
 have hye : (strB f).toList.isEmpty=false:=by
  rw [Bool.eq_false_iff]
  intro h
  exact hf (List.isEmpty_iff.1 h)
 go_enter Tryz.func50,Tryz.ntmps50
 go_wp2
 all_goals
  go_ret
  exact ⟨rfl,(Below.refl w.heap.size w).alloc (Nat.le_refl _) _⟩
theorem ziU (m : Nat) (hm : 0 < m) (hm7 : m≤100) {k : Int} (h2 : ¬ k=2) (h3 : ¬ k=3) (h4 : ¬ k=4) (h5 : ¬ k=5) (h6 : ¬ k=6) (h1 : ¬ k=1) (h7 : ¬ k=7) (h8 : ¬ k=8) (hx : ¬ (strB x).toList=[]) : Calls Tryz.prog 50 #[.agg #[.int .i64 k,.int .i64 0,.int .i64 0,.string ⟨#[]⟩,.string (strB x),.string (strB f),.slice a 0 c],.int .i64 m] w fun e w'=>e=.returned (.bool false)∧Below w.heap.size w w':=by
 have ht : decide ((m : Int) < 1)=false:=by rw [decide_eq_false_iff_not];omega
 have b1 : (k == 1)=false:=beq_eq_false_iff_ne.2 h1
 have b2 : (k == 2)=false:=beq_eq_false_iff_ne.2 h2
 have b3 : (k == 3)=false:=beq_eq_false_iff_ne.2 h3
 have b4 : (k == 4)=false:=beq_eq_false_iff_ne.2 h4
 have b5 : (k == 5)=false:=beq_eq_false_iff_ne.2 h5
 have b6 : (k == 6)=false:=beq_eq_false_iff_ne.2 h6
 have b7 : (k == 7)=false:=beq_eq_false_iff_ne.2 h7
 have b8 : (k == 8)=false:=beq_eq_false_iff_ne.2 h8
 have hye : (strB x).toList.isEmpty=false:=by
  rw [Bool.eq_false_iff]
  intro h
  exact hx (List.isEmpty_iff.1 h)
 go_enter Tryz.func50,Tryz.ntmps50
 go_wp2
 all_goals
  go_ret
  exact ⟨rfl,(Below.refl w.heap.size w).alloc (Nat.le_refl _) _⟩
theorem ziV (m : Nat) (hm : 0 < m) (hm7 : m≤100) {k : Int} (h2 : ¬ k=2) (h3 : ¬ k=3) (h4 : ¬ k=4) (h5 : ¬ k=5) (h6 : ¬ k=6) (h1 : ¬ k=1) (h7 : ¬ k=7) (h8 : ¬ k=8) (hf : ¬ (strB f).toList=[]) : Calls Tryz.prog 50 #[.agg #[.int .i64 k,.int .i64 0,.int .i64 0,.string ⟨#[]⟩,.string ⟨#[]⟩,.string (strB f),.slice a 0 c],.int .i64 m] w fun e w'=>e=.returned (.bool false)∧Below w.heap.size w w':=by
 have ht : decide ((m : Int) < 1)=false:=by rw [decide_eq_false_iff_not];omega
 have b1 : (k == 1)=false:=beq_eq_false_iff_ne.2 h1
 have b2 : (k == 2)=false:=beq_eq_false_iff_ne.2 h2
 have b3 : (k == 3)=false:=beq_eq_false_iff_ne.2 h3
 have b4 : (k == 4)=false:=beq_eq_false_iff_ne.2 h4
 have b5 : (k == 5)=false:=beq_eq_false_iff_ne.2 h5
 have b6 : (k == 6)=false:=beq_eq_false_iff_ne.2 h6
 have b7 : (k == 7)=false:=beq_eq_false_iff_ne.2 h7
 have b8 : (k == 8)=false:=beq_eq_false_iff_ne.2 h8
 have hye : (strB f).toList.isEmpty=false:=by
  rw [Bool.eq_false_iff]
  intro h
  exact hf (List.isEmpty_iff.1 h)
 go_enter Tryz.func50,Tryz.ntmps50
 go_wp2
 all_goals
  go_ret
  exact ⟨rfl,(Below.refl w.heap.size w).alloc (Nat.le_refl _) _⟩
theorem ziW (m : Nat) (hm : 0 < m) (hm7 : m≤100) {k : Int} (h2 : ¬ k=2) (h3 : ¬ k=3) (h4 : ¬ k=4) (h5 : ¬ k=5) (h6 : ¬ k=6) (h1 : ¬ k=1) (h7 : ¬ k=7) (h8 : ¬ k=8) : Calls Tryz.prog 50 #[.agg #[.int .i64 k,.int .i64 0,.int .i64 0,.string ⟨#[]⟩,.string ⟨#[]⟩,.string ⟨#[]⟩,.slice a 0 c],.int .i64 m] w fun e w'=>e=.returned (.bool false)∧Below w.heap.size w w':=by
 have ht : decide ((m : Int) < 1)=false:=by rw [decide_eq_false_iff_not];omega
 have b1 : (k == 1)=false:=beq_eq_false_iff_ne.2 h1
 have b2 : (k == 2)=false:=beq_eq_false_iff_ne.2 h2
 have b3 : (k == 3)=false:=beq_eq_false_iff_ne.2 h3
 have b4 : (k == 4)=false:=beq_eq_false_iff_ne.2 h4
 have b5 : (k == 5)=false:=beq_eq_false_iff_ne.2 h5
 have b6 : (k == 6)=false:=beq_eq_false_iff_ne.2 h6
 have b7 : (k == 7)=false:=beq_eq_false_iff_ne.2 h7
 have b8 : (k == 8)=false:=beq_eq_false_iff_ne.2 h8
 go_enter Tryz.func50,Tryz.ntmps50
 go_wp2
 go_loopw [7] (fun i wr=>i=.int .i64 0∧Hid (wr=w.alloc (.cells #[.int .i64 k,.int .i64 0,.int .i64 0,.string ⟨#[]⟩,.string ⟨#[]⟩,.string ⟨#[]⟩,.slice a 0 c] 89))) (fun _ _=>0)
 case atStart=>exact ⟨rfl,hid rfl⟩
 case round =>
  obtain ⟨rfl,hw⟩:=hrel
  have hw:=hw.out
  subst hw
  go_wp2
  go_ret
  exact ⟨rfl,(Below.refl w.heap.size w).alloc (Nat.le_refl _) _⟩
theorem zhN (m : Nat) (hm : 0 < m) (hm7 : m≤100) (hn : ¬ n=2) : Calls Tryz.prog 50 #[.agg #[.int .i64 7,.int .i64 0,.int .i64 0,.string ⟨#[]⟩,.string ⟨#[]⟩,.string ⟨#[]⟩,.slice a n c],.int .i64 m] w fun e w'=>e=.returned (.bool false)∧Below w.heap.size w w':=by
 have ht : decide ((m : Int) < 1)=false:=by rw [decide_eq_false_iff_not];omega
 have hn2 : decide (n=2)=false:=decide_eq_false hn
 go_enter Tryz.func50,Tryz.ntmps50
 go_wp2
 all_goals
  go_ret
  exact ⟨rfl,(Below.refl w.heap.size w).alloc (Nat.le_refl _) _⟩
theorem zhO (m : Nat) (hm : 0 < m) (hm7 : m≤100) (hn : ¬ n=2) : Calls Tryz.prog 50 #[.agg #[.int .i64 8,.int .i64 0,.int .i64 0,.string ⟨#[]⟩,.string ⟨#[]⟩,.string ⟨#[]⟩,.slice a n c],.int .i64 m] w fun e w'=>e=.returned (.bool false)∧Below w.heap.size w w':=by
 have ht : decide ((m : Int) < 1)=false:=by rw [decide_eq_false_iff_not];omega
 have hn2 : decide (n=2)=false:=decide_eq_false hn
 go_enter Tryz.func50,Tryz.ntmps50
 go_wp2
 all_goals
  go_ret
  exact ⟨rfl,(Below.refl w.heap.size w).alloc (Nat.le_refl _) _⟩
end
end Go.Proofs.YtkmlfkbpcgkpaaaGreatDoor
