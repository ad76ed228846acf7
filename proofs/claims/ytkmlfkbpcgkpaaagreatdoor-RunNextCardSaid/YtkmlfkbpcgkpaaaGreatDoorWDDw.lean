/- Words: what the document's own reader of words asks of the bytes. -/
import Derived.Test.YtkmlfkbpcgkpaaaGreatDoorWCCw
import Derived.Test.YtkmlfkbpcgkpaaaGreatDoorWV4
import Derived.Deep.QuietTactic
import Derived.BigQuiet
import Derived.Test.YtkmlfkbpcgkpaaaGreatDoorWD2
namespace Go.Proofs.YtkmlfkbpcgkpaaaGreatDoor
open Go.RowKit Go.Lib Go.Op
set_option maxHeartbeats 8000000
set_option maxRecDepth 100000
theorem zkf {a b : Bool} (h : a=b) : Ending.returned (.bool a)=.returned (.bool b):=by rw [h]
theorem zbZ (c : UInt8) (w : World) : Calls Tryz.prog 133 #[.int .u8 c.toNat] w fun e w'=>e=.returned (.bool (xletter c))∧w=w':=by
 unfold xletter
 generalize c.toNat=n
 by_cases h1 : 97≤n
 all_goals
  go_enter Tryz.func133,Tryz.ntmps133
  go_wp2
  go_ret
  exact ⟨zkf (by first|(simp;done)|(simp;omega)|(rw [Bool.eq_iff_iff];simp;omega)),rfl⟩
theorem za5 (c : UInt8) (w : World) : Calls Tryz.prog 135 #[.int .u8 c.toNat] w fun e w'=>e=.returned (.bool (xdigit c))∧w=w':=by
 unfold xdigit
 generalize c.toNat=n
 by_cases h1 : 48≤n
 all_goals
  go_enter Tryz.func135,Tryz.ntmps135
  go_wp2
  go_ret
  exact ⟨zkf (by first|(simp;done)|(simp;omega)|(rw [Bool.eq_iff_iff];simp;omega)),rfl⟩
theorem zbL (s : ByteArray) {k : Nat} (h : k < s.size) : s.data.toList[k]?=some s[k]:=by
 rw [List.getElem?_eq_getElem (by simpa using h)]
 rfl
theorem zeM (s : ByteArray) (w : World) (hs : s.size≤1000) (h0 : ∀ c,s.data.toList[0]?=some c→xletter c=true) : Calls Tryz.prog 134 #[.string s] w fun e w'=>e=.returned (.int .i64 ((if 16 < manyL xin s.data.toList then 0 else manyL xin s.data.toList : Nat) : Int))∧w=w':=by
 have hl : s.data.toList.length=s.size:=by simp
 have Hl:=hid hl
 have H0:=hid h0
 obtain ⟨z,hz⟩ : ∃ z,manyL xin s.data.toList=z:=⟨_,rfl⟩
 have Hz:=hid hz
 rw [hz]
 obtain ⟨y,hy⟩ : ∃ y : Nat,(if 16 < z then 0 else z : Nat)=y:=⟨_,rfl⟩
 have Hy:=hid hy
 rw [hy]
 clear hl hz hy h0
 go_enter Tryz.func134,Tryz.ntmps134
 go_wp2
 go_loop [3] (fun n=>∃ k : Nat,n=.int .i64 k∧k≤s.size∧Hid (∀ c∈s.data.toList.take k,xin c=true)) (fun n=>s.size - (RowKit.intOf n).toNat)
 case atStart=>exact ⟨0,rfl,Nat.zero_le _,fun c hc=>by simp at hc⟩
 case round =>
  obtain ⟨k,rfl,hk,HK⟩:=hrel
  have hend : Hid (z=k→k≤16→y=k):=fun e h=>by rw [← Hy.out,e,if_neg (by omega)]
  have hend2 : Hid (z=k→16 < k→y=0):=fun e h=>by rw [← Hy.out,e,if_pos h]
  by_cases hlt : k < s.size
  ·have hget:=zbL s hlt
   have Hget:=hid hget
   have HL : Hid (Calls Tryz.prog 133 #[.int .u8 s[k].toNat] w fun e w'=>e=.returned (.bool (xletter s[k]))∧w=w'):=zbZ s[k] w
   have HD : Hid (Calls Tryz.prog 135 #[.int .u8 s[k].toNat] w fun e w'=>e=.returned (.bool (xdigit s[k]))∧w=w'):=za5 s[k] w
   have HN : Hid (xin s[k]=true→∀ c∈s.data.toList.take (k+1),xin c=true):=fun hp c hc=>by
    rw [List.take_add_one,Hget.out] at hc
    rcases List.mem_append.1 hc with h|h
    ·exact HK.out c h
    ·simp at h
     rw [h];exact hp
   have HE : Hid (xin s[k]=false→z=k):=fun hp=>Hz.out.symm.trans (zbe xin _ k (by rw [Hl.out];exact hk) HK.out (fun x hx=>by
    rw [Hget.out] at hx
    injection hx with hx
    rw [← hx];exact hp))
   have hxi : xin s[k]=(xletter s[k] || (xdigit s[k] || decide (s[k].toNat=95))):=rfl
   rw [hxi] at HN HE
   have h0l : k=0→xletter s[k]=true:=fun e=>by subst e;exact H0.out _ Hget.out
   clear hget hxi
   cases hlb : xletter s[k] with
   | true =>
     rw [hlb] at HL HN
     have HN2:=hid (HN.out rfl)
     clear HN HE HD h0l hlb
     go_wp2_with (go_at_call 133;(with_reducible refine HL.out.mono ?_);rintro e w1 ⟨rfl,rfl⟩)
     go_round
     case rel=>exact ⟨k+1,by go_num,by omega,HN2⟩
     case measure=>simp [RowKit.intOf];omega
   | false =>
     rw [hlb] at HL HN HE h0l
     have hk0 : 0 < k:=Nat.pos_of_ne_zero (fun e=>by have:=h0l e;cases this)
     clear h0l hlb
     cases hdb : xdigit s[k] with
     | true =>
       rw [hdb] at HD HN
       have HN2:=hid (HN.out rfl)
       clear HN HE hdb
       go_wp2_with (first|(go_at_call 133;(with_reducible refine HL.out.mono ?_);rintro e w1 ⟨rfl,rfl⟩)|(go_at_call 135;(with_reducible refine HD.out.mono ?_);rintro e w1 ⟨rfl,rfl⟩))
       go_round
       case rel=>exact ⟨k+1,by go_num,by omega,HN2⟩
       case measure=>simp [RowKit.intOf];omega
     | false =>
       rw [hdb] at HD HN HE
       clear hdb
       by_cases h95 : s[k].toNat=95
       ·have ht : ((s[k].toNat : Int) == 95)=true:=by rw [beq_iff_eq];omega
        have HN2:=hid (HN.out (by simp [h95]))
        clear HN HE h95
        go_wp2_with (first|(go_at_call 133;(with_reducible refine HL.out.mono ?_);rintro e w1 ⟨rfl,rfl⟩)|(go_at_call 135;(with_reducible refine HD.out.mono ?_);rintro e w1 ⟨rfl,rfl⟩))
        go_round
        case rel=>exact ⟨k+1,by go_num,by omega,HN2⟩
        case measure=>simp [RowKit.intOf];omega
       ·have ht : ((s[k].toNat : Int) == 95)=false:=by rw [beq_eq_false_iff_ne];omega
        have hz2:=HE.out (by simp [h95])
        clear HN HE h95
        by_cases h16 : 16 < k
        ·have HR:=hid (hend2.out hz2 h16)
         go_wp2_with (first|(go_at_call 133;(with_reducible refine HL.out.mono ?_);rintro e w1 ⟨rfl,rfl⟩)|(go_at_call 135;(with_reducible refine HD.out.mono ?_);rintro e w1 ⟨rfl,rfl⟩))
         go_ret
         exact ⟨zaS (by rw [HR.out];rfl),rfl⟩
        ·have HR:=hid (hend.out hz2 (by omega))
         go_wp2_with (first|(go_at_call 133;(with_reducible refine HL.out.mono ?_);rintro e w1 ⟨rfl,rfl⟩)|(go_at_call 135;(with_reducible refine HD.out.mono ?_);rintro e w1 ⟨rfl,rfl⟩))
         go_ret
         exact ⟨zaS (by rw [HR.out]),rfl⟩
  ·have hz2 : z=k:=Hz.out.symm.trans (zbe xin _ k (by rw [Hl.out];exact hk) HK.out (fun x hx=>by
    rw [List.getElem?_eq_none (by rw [Hl.out];omega)] at hx
    cases hx))
   by_cases h16 : 16 < k
   ·have HR:=hid (hend2.out hz2 h16)
    clear hz2
    go_wp2
    go_ret
    exact ⟨zaS (by rw [HR.out];rfl),rfl⟩
   ·have HR:=hid (hend.out hz2 (by omega))
    clear hz2
    go_wp2
    go_ret
    exact ⟨zaS (by rw [HR.out]),rfl⟩
def NumIn (l : List UInt8) (k v : Nat) : Prop:=(∀ c∈l.take k,xdigit c=true)∧v=decF 0 (l.take (min k 13))∧v < 10000000000000
theorem NumIn.step {l : List UInt8} {k v : Nat} (h : NumIn l k v) {c : UInt8} (hc : l[k]?=some c) (hd : xdigit c=true) : NumIn l (k+1) (if k < 13 then dstep v c else v):=by
 have h1 : ∀ x∈l.take (k+1),xdigit x=true:=fun x hx=>by
  rw [List.take_add_one,hc] at hx
  rcases List.mem_append.1 hx with h'|h'
  ·exact h.1 x h'
  ·simp at h'
   rw [h'];exact hd
 refine ⟨h1,?_⟩
 have hb : ∀ j,j≤k+1→j≤13→decF 0 (l.take j) < 10000000000000:=fun j hj hj2=>by
  have h2:=zjN (l.take j) 0 (fun x hx=>h1 x (by
   have : l.take j=(l.take (k+1)).take j:=by rw [List.take_take,Nat.min_eq_left hj]
   rw [this] at hx
   exact List.mem_of_mem_take hx))
  have h3 : 10 ^ (l.take j).length≤10 ^ 13:=Nat.pow_le_pow_right (by decide) (by rw [List.length_take];omega)
  have : (10 : Nat) ^ 13=10000000000000:=by decide
  omega
 by_cases hk : k < 13
 ·rw [if_pos hk]
  have e : dstep v c=decF 0 (l.take (min (k+1) 13)):=by
   rw [h.2.1,Nat.min_eq_left (by omega),Nat.min_eq_left (by omega),zeQ hc]
  exact ⟨e,by rw [e,Nat.min_eq_left (by omega)];exact hb _ (Nat.le_refl _) (by omega)⟩
 ·rw [if_neg hk]
  refine ⟨by rw [h.2.1,Nat.min_eq_right (by omega),Nat.min_eq_right (by omega)],h.2.2⟩
theorem zde (s : ByteArray) (w : World) (hs : s.size≤1000) (c0 : UInt8) (t0 : List UInt8) (h0 : s.data.toList=c0 :: t0) (hd0 : xdigit c0=true) : Calls Tryz.prog 136 #[.string s] w fun e w'=>e=.returned (.int .i64 ((if rightN (s.data.toList.take (manyL xdigit s.data.toList)) then manyL xdigit s.data.toList else 0 : Nat) : Int))∧w=w':=by
 have hl : s.data.toList.length=s.size:=by simp
 have hpos : 0 < s.size:=by rw [← hl,h0];simp
 have Hl:=hid hl
 have hs0 : s[0]=c0:=by
  have h:=zbL s hpos
  rw [h0] at h
  simpa using h.symm
 obtain ⟨z,hz⟩ : ∃ z,manyL xdigit s.data.toList=z:=⟨_,rfl⟩
 have hz1 : 1≤z:=by rw [← hz,h0,zav,if_pos hd0];omega
 have hzl : z≤s.size:=by rw [← hl,← hz];exact zbx _ _
 have Hz:=hid hz
 rw [hz]
 obtain ⟨y,hy⟩ : ∃ y : Nat,(if rightN (s.data.toList.take z) then z else 0 : Nat)=y:=⟨_,rfl⟩
 rw [hy]
 obtain ⟨z',rfl⟩ : ∃ z',z=z'+1:=⟨z - 1,by omega⟩
 have hdoc:=zgP (c:=c0) (r:=t0.take z') (fun x hx=>by
  rw [← List.take_succ_cons,← h0,← hz] at hx
  exact za9 _ _ x hx)
 rw [← List.take_succ_cons,← h0,List.length_take,hl,List.take_take,Nat.min_eq_left hzl,Nat.min_comm] at hdoc
 have Hy : Hid (∀ v : Nat,v=decF 0 (s.data.toList.take (min (z'+1) 13))→(13 < z'+1∨1099511627776 < v∨(1 < z'+1∧s[0].toNat=48)→y=0)∧(¬ (13 < z'+1∨1099511627776 < v∨(1 < z'+1∧s[0].toNat=48))→y=z'+1)):=fun v hv=>by
  rw [← hv,← hs0] at hdoc
  rw [← hy,hdoc]
  refine ⟨fun h=>?_,fun h=>?_⟩
  ·rw [if_neg (by rw [decide_eq_true h];simp)]
  ·rw [if_pos (by rw [decide_eq_false h];rfl)]
 clear hl hz hy h0 hd0 hs0 hdoc hz1 hzl
 go_enter Tryz.func136,Tryz.ntmps136
 go_wp2
 go_loop [3,4] (fun n u=>∃ k v : Nat,n=.int .i64 k∧u=.int .i64 v∧k≤s.size∧Hid (NumIn s.data.toList k v)) (fun n _=>s.size - (RowKit.intOf n).toNat)
 case atStart=>exact ⟨0,0,rfl,rfl,Nat.zero_le _,⟨fun c hc=>by simp at hc,by simp [decF],by decide⟩⟩
 case round =>
  obtain ⟨k,v,rfl,rfl,hk,HK⟩:=hrel
  have hv13:=HK.out.2.2
  by_cases hlt : k < s.size∧∃ c,s.data.toList[k]?=some c∧xdigit c=true
  ·obtain ⟨hlt,c,hc,hd⟩:=hlt
   have hget:=zbL s hlt
   have he : s[k]=c:=by rw [hget] at hc;injection hc
   have HD : Hid (Calls Tryz.prog 135 #[.int .u8 s[k].toNat] w fun e w'=>e=.returned (.bool true)∧w=w'):=by show Calls _ _ _ _ _;rw [he,← hd];exact za5 c w
   have HN:=hid (HK.out.step hc hd)
   have hx:=hd
   unfold xdigit at hx
   simp only [Bool.and_eq_true,decide_eq_true_eq] at hx
   obtain ⟨hx1,hx2⟩:=hx
   rw [← he] at hx1 hx2 HN
   clear hget hc hd he
   have hw1 : (((s[k].toNat : Int) - 48) % 256)=(s[k].toNat : Int) - 48:=by omega
   by_cases h13 : k < 13
   ·rw [if_pos h13] at HN
    have hm : IntKind.i64.wrap (10*(v : Int))=10*(v : Int):=IntWalk.i64_in _ (by omega)
    go_wp2_with (go_at_call 135;(with_reducible refine HD.out.mono ?_);rintro e w1 ⟨rfl,rfl⟩)
    go_round
    case rel=>exact ⟨k+1,dstep v s[k],by go_num,by unfold dstep;go_num,by omega,HN⟩
    case measure=>simp [RowKit.intOf];omega
   ·rw [if_neg h13] at HN
    go_wp2_with (go_at_call 135;(with_reducible refine HD.out.mono ?_);rintro e w1 ⟨rfl,rfl⟩)
    go_round
    case rel=>exact ⟨k+1,v,by go_num,rfl,by omega,HN⟩
    case measure=>simp [RowKit.intOf];omega
  ·have hzk : z'+1=k:=Hz.out.symm.trans (zbe xdigit _ k (by rw [Hl.out];exact hk) HK.out.1 (fun x hx=>by
    by_cases hlt2 : k < s.size
    ·cases hxd : xdigit x with
     | false=>rfl
     | true=>exact absurd ⟨hlt2,x,hx,hxd⟩ hlt
    ·rw [List.getElem?_eq_none (by rw [Hl.out];omega)] at hx
     cases hx))
   have hY:=Hy.out v (by rw [hzk];exact HK.out.2.1)
   rw [hzk] at hY
   have HD : Hid (k < s.size→∀ h : k < s.size,Calls Tryz.prog 135 #[.int .u8 s[k].toNat] w fun e w'=>e=.returned (.bool false)∧w=w'):=fun hlt2 _=>by
    have : xdigit s[k]=false:=by
     cases hxd : xdigit s[k] with
     | false=>rfl
     | true=>exact absurd ⟨hlt2,s[k],zbL s hlt2,hxd⟩ hlt
    rw [← this]
    exact za5 _ w
   have hk1 : 1≤k:=by omega
   clear hlt HK hzk
   have hfin : (13 < k∧y=0)∨(¬ 13 < k∧1099511627776 < v∧y=0)∨(¬ 13 < k∧¬ 1099511627776 < v∧1 < k∧s[0].toNat=48∧y=0)∨(¬ 13 < k∧¬ 1099511627776 < v∧1 < k∧s[0].toNat≠48∧y=k)∨(¬ 13 < k∧¬ 1099511627776 < v∧¬ 1 < k∧y=k):=by
    by_cases a1 : 13 < k
    ·exact .inl ⟨a1,hY.1 (.inl a1)⟩
    ·by_cases a2 : 1099511627776 < v
     ·exact .inr (.inl ⟨a1,a2,hY.1 (.inr (.inl a2))⟩)
     ·by_cases a3 : 1 < k
      ·by_cases a4 : s[0].toNat=48
       ·exact .inr (.inr (.inl ⟨a1,a2,a3,a4,hY.1 (.inr (.inr ⟨a3,a4⟩))⟩))
       ·exact .inr (.inr (.inr (.inl ⟨a1,a2,a3,a4,hY.2 (by omega)⟩)))
      ·exact .inr (.inr (.inr (.inr ⟨a1,a2,a3,hY.2 (by omega)⟩)))
   clear hY
   by_cases hlt2 : k < s.size
   ·have HD2:=hid (HD.out hlt2 hlt2)
    clear HD
    rcases hfin with ⟨a1,rfl⟩|⟨a1,a2,rfl⟩|⟨a1,a2,a3,a4,rfl⟩|⟨a1,a2,a3,a4,rfl⟩|⟨a1,a2,a3,rfl⟩
    ·go_wp2_with (go_at_call 135;(with_reducible refine HD2.out.mono ?_);rintro e w1 ⟨rfl,rfl⟩)
     go_ret
     exact ⟨rfl,rfl⟩
    ·go_wp2_with (go_at_call 135;(with_reducible refine HD2.out.mono ?_);rintro e w1 ⟨rfl,rfl⟩)
     go_ret
     exact ⟨rfl,rfl⟩
    ·have ht : ((s[0].toNat : Int) == 48)=true:=by rw [beq_iff_eq];omega
     go_wp2_with (go_at_call 135;(with_reducible refine HD2.out.mono ?_);rintro e w1 ⟨rfl,rfl⟩)
     go_ret
     exact ⟨rfl,rfl⟩
    ·have ht : ((s[0].toNat : Int) == 48)=false:=by rw [beq_eq_false_iff_ne];omega
     go_wp2_with (go_at_call 135;(with_reducible refine HD2.out.mono ?_);rintro e w1 ⟨rfl,rfl⟩)
     go_ret
     exact ⟨rfl,rfl⟩
    ·go_wp2_with (go_at_call 135;(with_reducible refine HD2.out.mono ?_);rintro e w1 ⟨rfl,rfl⟩)
     go_ret
     exact ⟨rfl,rfl⟩
   ·rcases hfin with ⟨a1,rfl⟩|⟨a1,a2,rfl⟩|⟨a1,a2,a3,a4,rfl⟩|⟨a1,a2,a3,a4,rfl⟩|⟨a1,a2,a3,rfl⟩
    ·go_wp2
     go_ret
     exact ⟨rfl,rfl⟩
    ·go_wp2
     go_ret
     exact ⟨rfl,rfl⟩
    ·have ht : ((s[0].toNat : Int) == 48)=true:=by rw [beq_iff_eq];omega
     go_wp2
     go_ret
     exact ⟨rfl,rfl⟩
    ·have ht : ((s[0].toNat : Int) == 48)=false:=by rw [beq_eq_false_iff_ne];omega
     go_wp2
     go_ret
     exact ⟨rfl,rfl⟩
    ·go_wp2
     go_ret
     exact ⟨rfl,rfl⟩
def quotN (t : List UInt8) : Nat:=if 65 < 1+manyL xquot t∨manyL xquot t=t.length∨¬ t[manyL xquot t]?=some 39 then 0 else 1+manyL xquot t+1
theorem zdT (s : ByteArray) (w : World) (hs : s.size≤1000) (c0 : UInt8) (t : List UInt8) (h0 : s.data.toList=c0 :: t) : Calls Tryz.prog 137 #[.string s] w fun e w'=>e=.returned (.int .i64 (quotN t : Nat))∧w=w':=by
 have hl : t.length+1=s.size:=by rw [← List.length_cons (a:=c0),← h0];simp
 have Hl:=hid hl
 have H0:=hid h0
 obtain ⟨y,hy⟩ : ∃ y : Nat,quotN t=y:=⟨_,rfl⟩
 have Hy:=hid hy
 rw [hy]
 have hpos : 1≤s.size:=by omega
 clear hl hy h0
 go_enter Tryz.func137,Tryz.ntmps137
 go_wp2
 go_loop [3] (fun n=>∃ k : Nat,n=.int .i64 ((k : Int)+1)∧k+1≤s.size∧k≤65∧Hid (∀ c∈t.take k,xquot c=true)) (fun n=>s.size - (RowKit.intOf n).toNat)
 case atStart=>exact ⟨0,rfl,hpos,by omega,fun c hc=>by simp at hc⟩
 case round =>
  obtain ⟨k,rfl,hk,hk65,HK⟩:=hrel
  have hkn : ((k : Int)+1).toNat=k+1:=by omega
  by_cases hlt : k+1 < s.size
  ·by_cases h65 : k+1≤65
   ·have hget : t[k]?=some s[k+1]:=by
     have h:=zbL s hlt
     rw [H0.out] at h
     simpa using h
    have Hget:=hid hget
    clear hget
    have hi1 : (0 : Int)≤(k : Int)+1:=by omega
    have hi2 : (k : Int)+1 < (s.size : Int):=by omega
    have hi3 : (k : Int)+1≤65:=by omega
    by_cases h39 : s[k+1].toNat=39
    ·have hm : manyL xquot t=k:=zbe xquot t k (by have:=Hl.out;omega) HK.out (fun x hx=>by
      rw [Hget.out] at hx
      injection hx with hx
      rw [← hx]
      unfold xquot
      simp [h39])
     have HR : Hid (y=k+2):=by
      show y=_
      rw [← Hy.out]
      unfold quotN
      rw [hm,if_neg]
      ·omega
      ·rintro (a|a|a)
       ·omega
       ·have:=Hl.out;omega
       ·refine a (Hget.out.trans ?_)
        congr 1
        exact UInt8.toNat_inj.1 h39
     have ht : ((s[k+1].toNat : Int) == 39)=true:=by rw [beq_iff_eq];omega
     clear h39 hm HK
     go_wp2
     go_ret
     exact ⟨zaS (by rw [HR.out];omega),rfl⟩
    ·have ht : ((s[k+1].toNat : Int) == 39)=false:=by rw [beq_eq_false_iff_ne];omega
     by_cases hq : 32≤s[k+1].toNat∧s[k+1].toNat≤126
     ·have HN : Hid (∀ c∈t.take (k+1),xquot c=true):=fun c hc=>by
       rw [List.take_add_one,Hget.out] at hc
       rcases List.mem_append.1 hc with h|h
       ·exact HK.out c h
       ·simp at h
        rw [h]
        unfold xquot
        simp [hq,h39]
      obtain ⟨hq1,hq2⟩:=hq
      clear h39 HK
      go_wp2
      go_round
      case rel=>exact ⟨k+1,by go_num,by omega,by omega,HN⟩
      case measure=>simp [RowKit.intOf];omega
     ·have hm : manyL xquot t=k:=zbe xquot t k (by have:=Hl.out;omega) HK.out (fun x hx=>by
       rw [Hget.out] at hx
       injection hx with hx
       rw [← hx]
       unfold xquot
       simp
       omega)
      have HR : Hid (y=0):=by
       show y=_
       rw [← Hy.out]
       unfold quotN
       rw [hm,if_pos (.inr (.inr (fun e=>h39 (by rw [Hget.out] at e;injection e with e;rw [e];rfl))))]
      have hq3 : s[k+1].toNat < 32∨(32≤s[k+1].toNat∧126 < s[k+1].toNat):=by omega
      clear h39 hm HK hq
      rcases hq3 with hq3|⟨hq3,hq4⟩
      ·go_wp2
       go_ret
       exact ⟨zaS (by rw [HR.out];rfl),rfl⟩
      ·go_wp2
       go_ret
       exact ⟨zaS (by rw [HR.out];rfl),rfl⟩
   ·have HR : Hid (y=0):=by
     show y=_
     rw [← Hy.out]
     unfold quotN
     have hm : k≤manyL xquot t:=by
      by_cases hle : k≤manyL xquot t
      ·exact hle
      ·exfalso
       have hlt2 : manyL xquot t < t.length:=by have:=Hl.out;omega
       have h1:=zb2 xquot t _ (List.getElem?_eq_getElem hlt2)
       have h2:=HK.out t[manyL xquot t] (by
        rw [List.mem_iff_getElem?]
        exact ⟨manyL xquot t,by rw [List.getElem?_take,if_pos (by omega),List.getElem?_eq_getElem hlt2]⟩)
       rw [h1] at h2
       cases h2
     rw [if_pos (.inl (by omega))]
    have hi3 : ¬ (k : Int)+1≤65:=by omega
    clear HK
    go_wp2
    go_ret
    exact ⟨zaS (by rw [HR.out];rfl),rfl⟩
  ·have hm : manyL xquot t=k:=zbe xquot t k (by have:=Hl.out;omega) HK.out (fun x hx=>by
    rw [List.getElem?_eq_none (by have:=Hl.out;omega)] at hx
    cases hx)
   have HR : Hid (y=0):=by
    show y=_
    rw [← Hy.out]
    unfold quotN
    rw [hm,if_pos (.inr (.inl (by have:=Hl.out;omega)))]
   have hi2 : ¬ (k : Int)+1 < (s.size : Int):=by omega
   clear hm HK
   go_wp2
   go_ret
   exact ⟨zaS (by rw [HR.out];rfl),rfl⟩
def signN (c : UInt8) (t : List UInt8) : Nat:=if t[0]?=some 61∧amongL beforeL c=true then 2 else if amongL signsL c then 1 else 0
theorem zba (s : ByteArray) {k : Nat} {c : UInt8} (hk : k < s.size) (h : s[k]=c) {m : Nat} (hm : c.toNat=m) (W : World) : (Instr.index 9 (.string s) (.int .i64 (k : Int))).run Tryz.prog W=.ok (.int .u8 (m : Int)) W:=by
 rw [run_index_string W 9 s .i64 k Tryz.underlying9,dif_pos ⟨by omega,by omega⟩]
 have e : s[(k : Int).toNat]'(by simpa using hk)=c:=h
 rw [e,hm]
theorem zgN (s : ByteArray) {c : UInt8} (hk : 0 < s.size) (h : s[0]=c) {m : Nat} (hm : c.toNat=m) (W : World) : (Instr.index 9 (.string s) (.int .i64 0)).run Tryz.prog W=.ok (.int .u8 (m : Int)) W:=zba s hk h hm W
theorem zb3 (s : ByteArray) {c : UInt8} (hk : 1 < s.size) (h : s[1]=c) {m : Nat} (hm : c.toNat=m) (W : World) : (Instr.index 9 (.string s) (.int .i64 1)).run Tryz.prog W=.ok (.int .u8 (m : Int)) W:=zba s hk h hm W
theorem zeN (s : ByteArray) (w : World) (hs : s.size≤1000) (c : UInt8) (t : List UInt8) (h0 : s.data.toList=c :: t) : Calls Tryz.prog 138 #[.string s] w fun e w'=>e=.returned (.int .i64 (signN c t : Nat))∧Below w.heap.size w w':=by
 have hl : t.length+1=s.size:=by rw [← List.length_cons (a:=c),← h0];simp
 have hpos : 0 < s.size:=by omega
 have hs0 : s[0]=c:=by
  have h:=zbL s hpos
  rw [h0] at h
  simpa using h.symm
 have hmem : amongL signsL c=true ↔ c∈signsL:=by rw [zeR];simp
 have hb : amongL beforeL c=true ↔ (c.toNat=33∨c.toNat=60∨c.toNat=62):=by
  rw [zeR]
  simp only [beforeL,List.mem_cons,List.not_mem_nil,or_false,decide_eq_true_eq]
  constructor
  ·rintro (rfl|rfl|rfl) <;> decide
  ·rintro (h|h|h)
   ·exact .inl (UInt8.toNat_inj.1 h)
   ·exact .inr (.inl (UInt8.toNat_inj.1 h))
   ·exact .inr (.inr (UInt8.toNat_inj.1 h))
 obtain ⟨y,hy⟩ : ∃ y : Nat,signN c t=y:=⟨_,rfl⟩
 rw [hy]
 unfold signN at hy
 obtain ⟨m,hm⟩ : ∃ m,c.toNat=m:=⟨_,rfl⟩
 have hi0:=zgN s hpos hs0 hm
 by_cases h2 : t[0]?=some 61∧amongL beforeL c=true
 ·rw [if_pos h2] at hy
  subst hy
  have h1 : 1 < s.size:=by have:=(List.getElem?_eq_some_iff.1 h2.1).1;omega
  have hs1 : s[1]=61:=by
   have h:=zbL s h1
   rw [h0] at h
   have h3 : some (61 : UInt8)=some s[1]:=h2.1.symm.trans (by simpa using h)
   injection h3 with h3
   exact h3.symm
  have hi1:=zb3 s h1 hs1 (m:=61) rfl
  have hb2:=hb.1 h2.2
  rw [hm] at hb2
  clear hb hmem h2 hs0 h0 hl hs1 hpos hm
  rcases hb2 with e|e|e
  ·subst e
   go_enter Tryz.func138,Tryz.ntmps138
   go_wp2
   go_ret
   exact ⟨rfl,Below.refl _ _⟩
  ·subst e
   go_enter Tryz.func138,Tryz.ntmps138
   go_wp2
   go_ret
   exact ⟨rfl,Below.refl _ _⟩
  ·subst e
   go_enter Tryz.func138,Tryz.ntmps138
   go_wp2
   go_ret
   exact ⟨rfl,Below.refl _ _⟩
 ·rw [if_neg h2] at hy
  have Hy : Hid ((if amongL signsL c=true then 1 else 0)=y):=hy
  have hno : (¬ 1 < s.size)∨(1 < s.size∧∃ k : Nat,k≠61∧∀ W,(Instr.index 9 (.string s) (.int .i64 1)).run Tryz.prog W=.ok (.int .u8 (k : Int)) W)∨(1 < s.size∧(∀ W,(Instr.index 9 (.string s) (.int .i64 1)).run Tryz.prog W=.ok (.int .u8 61) W)∧m≠33∧m≠60∧m≠62):=by
   by_cases a1 : 1 < s.size
   ·by_cases a2 : s[1].toNat=61
    ·have h:=zbL s a1
     rw [h0] at h
     have h3 : t[0]?=some s[1]:=by simpa using h
     have h4 : t[0]?=some 61:=by rw [h3];congr 1;exact UInt8.toNat_inj.1 a2
     have h5 : ¬ (c.toNat=33∨c.toNat=60∨c.toNat=62):=fun e=>h2 ⟨h4,hb.2 e⟩
     exact .inr (.inr ⟨a1,zb3 s a1 rfl a2,by omega⟩)
    ·exact .inr (.inl ⟨a1,_,a2,zb3 s a1 rfl rfl⟩)
   ·exact .inl a1
  have HM:=hid hmem
  have Hm:=hid hm
  clear hb hmem h2 hs0 h0 hl hy hpos hm
  rcases hno with a1|⟨a1,k1,a2,hi1⟩|⟨a1,hi1,b1,b2,b3⟩
  all_goals
   first
   | have t1 : ((k1 : Int) == 61)=false:=by rw [beq_eq_false_iff_ne];omega
     clear a2
   | have t2 : ((m : Int) == 33)=false:=by rw [beq_eq_false_iff_ne];omega
     have t3 : ((m : Int) == 60)=false:=by rw [beq_eq_false_iff_ne];omega
     have t4 : ((m : Int) == 62)=false:=by rw [beq_eq_false_iff_ne];omega
     clear b1 b2 b3
   | skip
   go_enter Tryz.func138,Tryz.ntmps138
   go_wp2
   obtain ⟨sg,hsg⟩ : ∃ sg : ByteArray,(⟨#[61,60,62,43,45,40,41,46,63]⟩ : ByteArray)=sg:=⟨_,rfl⟩
   rw [hsg]
   have HSZ : Hid (sg.size=9):=by show _=_;rw [← hsg];rfl
   have hs9 : sg.size≤1000:=by rw [HSZ.out];omega
   have HSG : Hid (sg.data.toList=signsL):=by show _=_;rw [← hsg];rfl
   clear hsg
   go_loopw [4] (fun n wr=>∃ k : Nat,n=.int .i64 k∧k≤sg.size∧Hid (∀ j x,j < k→signsL[j]?=some x→x≠c)∧Hid (Below w.heap.size w wr)) (fun n _=>sg.size - (RowKit.intOf n).toNat)
   case atStart=>exact ⟨0,rfl,Nat.zero_le _,fun j x hj=>absurd hj (Nat.not_lt_zero j),Below.refl _ _⟩
   case round =>
    obtain ⟨k,rfl,hk,HK,HB⟩:=hrel
    by_cases hlt : k < sg.size
    ·have hx1:=zbL sg hlt
     rw [HSG.out] at hx1
     by_cases he : sg[k]=c
     ·have HR : Hid (y=1):=by
       show y=_
       rw [← Hy.out,if_pos (HM.out.2 (he ▸ List.mem_of_getElem? hx1))]
      have hi3:=zba sg hlt he Hm.out
      clear HK hx1 he
      go_wp2_with fail
      go_quiet (fail)
      have HB1 : Hid (Below w.heap.size w (wr.drewN nq)):=below_drewN HB.out _
      go_wp2
      go_ret
      exact ⟨zaS (by rw [HR.out];rfl),HB1.out⟩
     ·obtain ⟨m2,hm2⟩ : ∃ m2,sg[k].toNat=m2:=⟨_,rfl⟩
      have hi3:=zba sg hlt rfl hm2
      have ht : (m == m2)=false:=by
       rw [beq_eq_false_iff_ne]
       intro e
       exact he (UInt8.toNat_inj.1 (by rw [hm2,Hm.out,e]))
      have ht2 : ((m : Int) == (m2 : Int))=false:=by
       rw [beq_eq_false_iff_ne] at ht ⊢
       omega
      have HN : Hid (∀ j x,j < k+1→signsL[j]?=some x→x≠c):=fun j x' hj hx'=>by
       by_cases hjk : j=k
       ·subst hjk
        rw [hx1] at hx'
        injection hx' with hx'
        rw [← hx'];exact he
       ·exact HK.out j x' (by omega) hx'
      clear HK hx1 he hm2
      go_wp2_with fail
      go_quiet (fail)
      have HB1 : Hid (Below w.heap.size w (wr.drewN nq)):=below_drewN HB.out _
      go_wp2
      go_roundw
      case rel=>exact ⟨k+1,by go_num,by omega,HN,HB1⟩
      case measure=>simp [RowKit.intOf];omega
    ·have HR : Hid (y=0):=by
      show y=_
      rw [← Hy.out,if_neg]
      intro hm
      obtain ⟨j,hj⟩:=List.getElem?_of_mem (HM.out.1 hm)
      have hj2:=(List.getElem?_eq_some_iff.1 hj).1
      have hj9 : signsL.length=9:=rfl
      have hs10:=HSZ.out
      exact HK.out j c (by omega) hj rfl
     clear HK
     go_wp2
     go_ret
     exact ⟨zaS (by rw [HR.out];rfl),HB.out⟩
end Go.Proofs.YtkmlfkbpcgkpaaaGreatDoor
