/- Events: letter, number, Word. -/
import Derived.Test.YtkmlfkbpcgkpaaaGreatDoorWE0e
import Derived.Test.YtkmlfkbpcgkpaaaGreatDoorWV3
import Derived.Test.YtkmlfkbpcgkpaaaGreatDoorWF2
import Derived.Lib.ConvBytes
namespace Go.Proofs.YtkmlfkbpcgkpaaaGreatDoor
open Go.RowKit Go.Lib Go.Op
set_option maxHeartbeats 8000000
set_option maxRecDepth 100000
theorem zbo (n : Nat) (w : World) (hn : n < 256) : Calls Tryz.prog 200 #[.int .u8 n] w fun e w'=>e=.returned (.bool (decide (97≤n∧n≤122)))∧w=w':=by
 by_cases h1 : 97≤n
 all_goals
  go_enter Tryz.func200,Tryz.ntmps200
  go_wp2
  go_ret
  exact ⟨zag (by first|(simp;done)|(simp;omega)|(rw [Bool.eq_iff_iff];simp;omega)),rfl⟩
theorem zbT (n : Int) (w : World) : Calls Tryz.prog 191 #[.int .i64 n] w fun e w'=>e=.returned (.bool (numB n))∧w=w':=by
 unfold numB
 by_cases h1 : 0≤n
 all_goals
  go_enter Tryz.func191,Tryz.ntmps191
  go_wp2
  go_ret
  exact ⟨zag (by first|(simp;done)|(simp;omega)|(rw [Bool.eq_iff_iff];simp;omega)),rfl⟩
theorem zec {l : List UInt8} {k : Nat} {c : UInt8} (hk : l[k]?=some c) (h : charB c=false) : wordB l=false:=by
 cases l with
 | nil=>rfl
 | cons x t =>
   cases k with
   | zero =>
     have e : x=c:=by simpa using hk
     subst e
     have : letterB x=false:=by
      unfold charB at h
      simp only [Bool.or_eq_false_iff] at h
      exact h.1
     simp [wordB,this]
   | succ k =>
     have : t.all charB=false:=by
      rw [List.all_eq_false]
      exact ⟨c,List.mem_of_getElem? (by simpa using hk),by simp [h]⟩
     simp [wordB,this]
theorem zed {l : List UInt8} {c : UInt8} (h0 : l[0]?=some c) (hc : letterB c=true) (hl : l.length≤16) (ha : ∀ (k : Nat) (x : UInt8),l[k]?=some x→charB x=true) : wordB l=true:=by
 cases l with
 | nil=>cases h0
 | cons x t =>
   have e : x=c:=by simpa using h0
   subst e
   have : t.all charB=true:=by
    rw [List.all_eq_true]
    intro y hy
    obtain ⟨j,hj,rfl⟩:=List.mem_iff_getElem.1 hy
    exact ha (j+1) _ (by simp [hj])
   simp only [List.length_cons] at hl
   simp only [wordB,hc,this,Bool.true_and,Bool.and_true,decide_eq_true_eq]
   omega
theorem zdj {l : List UInt8} (h : 16 < l.length) : wordB l=false:=by
 cases hw : wordB l with
 | false=>rfl
 | true=>have:=zha hw;omega
theorem zcA {l : List UInt8} {c : UInt8} (h0 : l[0]?=some c) (hc : letterB c=false) : wordB l=false:=by
 cases l with
 | nil=>rfl
 | cons x t =>
   have e : x=c:=by simpa using h0
   subst e
   simp [wordB,hc]
def CharsTo (l : List UInt8) (k : Nat) : Prop:=∀ j x,j < k→l[j]?=some x→charB x=true
theorem CharsTo.step {l : List UInt8} {k : Nat} (h : CharsTo l k) {c : UInt8} (hk : l[k]?=some c) (hc : charB c=true) : CharsTo l (k+1):=fun j x hj hx=>by
 by_cases e : j=k
 ·subst e
  rw [hk] at hx
  injection hx with hx
  rw [← hx];exact hc
 ·exact h j x (by omega) hx
theorem zf0 {c : UInt8} : charB c=(decide (97≤c.toNat∧c.toNat≤122) || (decide (c.toNat=95) || decide (48≤c.toNat∧c.toNat≤57))):=rfl
theorem zdk (w : World) (s : ByteArray) : ∃ (W : World) (c : Nat),(convert 9 237 (.string s)).run Tryz.prog w=.ok (.slice (some ⟨w.heap.size,0,none⟩) s.size c) W∧Below w.heap.size w W∧∀ j x,s.data.toList[j]?=some x→W.cell? ⟨w.heap.size,j,none⟩=some (.int .u8 x.toNat):=by
 refine ⟨_,_,Go.Lib.run_convert_string_bytes w 9 237 5 s Tryz.underlying9 Tryz.underlying237 Tryz.underlying5,⟨?_,?_,?_,by rw [bytesWorld_size];omega,fun q hq=>bytesWorld_at_old w _ s q hq⟩,fun j x hx=>?_⟩
 ·simp [bytesWorld,World.freeze,World.alloc,World.drew,-World.alloc_eq,-World.drew_eq]
 ·simp [bytesWorld,World.freeze,World.alloc,World.drew,-World.alloc_eq,-World.drew_eq]
 ·simp [bytesWorld,World.freeze,World.alloc,World.drew,-World.alloc_eq,-World.drew_eq]
 ·have hj : j < s.size:=by
   have:=(List.getElem?_eq_some_iff.1 hx).1
   simpa using this
  rw [bytesWorld_cell w _ s j hj]
  simp [List.getD,hx]
theorem zdl (s : ByteArray) (w : World) (hs : s.size≤maxLen) :
 Calls Tryz.prog 165 #[.string s] w fun e w'=>e=.returned (.bool (wordB s.data.toList))∧Below w.heap.size w w':=by
 unfold maxLen at hs
 have hsl : s.data.toList.length=s.size:=by simp
 by_cases h0 : s.size=0
 ·obtain rfl : s=⟨#[]⟩:=zfZ (List.eq_nil_of_length_eq_zero (by omega))
  clear hsl hs
  go_enter Tryz.func165,Tryz.ntmps165
  go_wp2
  go_ret
  exact ⟨rfl,Below.refl _ _⟩
 have hse : s.data.toList≠[]:=fun e=>by rw [e] at hsl;simp at hsl;omega
 have ha : (s.toList == [])=false:=by rw [beq_eq_false_iff_ne,vtoL];exact hse
 have hb : (!s.toList.isEmpty)=true:=by rw [vtoL];simpa using hse
 have hc : s.toList.isEmpty=false:=by rw [vtoL];simpa using hse
 by_cases h16 : 16 < s.size
 ·have hf : wordB s.data.toList=false:=zdj (by omega)
  rw [hf]
  clear hf hse
  go_enter Tryz.func165,Tryz.ntmps165
  go_wp2
  go_ret
  exact ⟨rfl,Below.refl _ _⟩
 have h00 : 0 < s.size:=by omega
 have hfst : s.data.toList[0]?=some s[0]:=by
  rw [List.getElem?_eq_getElem (by omega)]
  rfl
 obtain ⟨c0,hc0⟩ : ∃ c0,s[0]=c0:=⟨_,rfl⟩
 rw [hc0] at hfst
 have hc8:=c0.toNat_lt
 have Hfst:=hid hfst
 have Hsl:=hid hsl
 cases hl : letterB c0 with
 | false =>
   rw [zcA hfst hl]
   have hl' : decide (97≤c0.toNat∧c0.toNat≤122)=false:=hl
   have HL : Hid (∀ W,Calls Tryz.prog 200 #[.int .u8 c0.toNat] W fun e w'=>e=.returned (.bool false)∧W=w'):=fun W=>hl' ▸ zbo c0.toNat W hc8
   clear hfst hl hl' hse hsl
   go_enter Tryz.func165,Tryz.ntmps165
   go_wp2_with (go_at_call 200;(first|(refine (HL.out _).mono ?_)|(rw [hc0];refine (HL.out _).mono ?_));rintro e wq ⟨rfl,rfl⟩)
   go_ret
   exact ⟨rfl,Below.refl _ _⟩
 | true =>
   have hl' : decide (97≤c0.toNat∧c0.toNat≤122)=true:=hl
   have HL : Hid (∀ W,Calls Tryz.prog 200 #[.int .u8 c0.toNat] W fun e w'=>e=.returned (.bool true)∧W=w'):=fun W=>hl' ▸ zbo c0.toNat W hc8
   have Hl0:=hid hl
   obtain ⟨W,c,hcv,hbW,hcell⟩:=zdk w s
   have HC:=hid hcell
   have HB:=hid hbW
   have H0 : Hid (CharsTo s.data.toList 0):=fun j x hj=>by omega
   clear hfst hl hl' hse hsl hcell hbW
   go_enter Tryz.func165,Tryz.ntmps165
   go_wp2_with (go_at_call 200;(first|(refine (HL.out _).mono ?_)|(rw [hc0];refine (HL.out _).mono ?_));rintro e wq ⟨rfl,rfl⟩)
   go_loop [4,21] (fun x i=>∃ k : Nat,i=.int .i64 k∧k≤s.size∧Hid (CharsTo s.data.toList k)) (fun _ i=>16 - (intOf i).toNat)
   case atStart=>exact ⟨0,rfl,Nat.zero_le _,H0⟩
   case round =>
    obtain ⟨k,rfl,hk,HK⟩:=hrel
    by_cases hlt : k < s.size
    ·obtain ⟨x,hx⟩ : ∃ x,s.data.toList[k]?=some x:=⟨_,List.getElem?_eq_getElem (by rw [Hsl.out];exact hlt)⟩
     have hcx:=HC.out k x hx
     have Hx:=hid hx
     have hx8:=x.toNat_lt
     have HLx:=fun W=>zbo x.toNat W hx8
     have hstep:=fun hch : charB x=true=>hid (HK.out.step hx hch)
     have hfail:=fun hch : charB x=false=>hid (zec hx hch)
     rw [zf0] at hstep hfail
     clear hx
     generalize x.toNat=n at *
     have go1 : ∀ (_ : n=95∨(48≤n∧n≤57)∨(97≤n∧n≤122)),Hid (CharsTo s.data.toList (k+1)):=fun h=>hstep (by simp;omega)
     have go0 : ∀ (_ : ¬ n=95) (_ : ¬ (48≤n∧n≤57)) (_ : ¬ (97≤n∧n≤122)),Hid (wordB s.data.toList=false):=fun h1 h2 h3=>hfail (by simp;omega)
     clear hstep hfail
     by_cases a1 : 97≤n∧n≤122
     ·have hst:=go1 (.inr (.inr a1))
      have HLb : Hid (∀ W,Calls Tryz.prog 200 #[.int .u8 n] W fun e w'=>e=.returned (.bool true)∧W=w'):=fun W=>by have:=HLx W;rwa [decide_eq_true a1] at this
      clear go1 go0 HLx
      go_wp2_with (go_at_call 200;refine (HLb.out _).mono ?_;rintro e wq ⟨rfl,rfl⟩)
      go_round
      case rel=>exact ⟨k+1,by go_num,by omega,hst⟩
      case measure=>simp [intOf];omega
     have HLb : Hid (∀ W,Calls Tryz.prog 200 #[.int .u8 n] W fun e w'=>e=.returned (.bool false)∧W=w'):=fun W=>by have:=HLx W;rwa [decide_eq_false a1] at this
     clear HLx
     by_cases a2 : n=95
     ·have hst:=go1 (.inl a2)
      subst a2
      clear go1 go0
      go_wp2_with (go_at_call 200;refine (HLb.out _).mono ?_;rintro e wq ⟨rfl,rfl⟩)
      go_round
      case rel=>exact ⟨k+1,by go_num,by omega,hst⟩
      case measure=>simp [intOf];omega
     have a5 : ((n : Int) != 95)=true:=by rw [bne_iff_ne];omega
     by_cases a3 : n < 48
     ·have hst:=go0 a2 (by omega) a1
      clear go1 go0
      go_wp2_with (go_at_call 200;refine (HLb.out _).mono ?_;rintro e wq ⟨rfl,rfl⟩)
      go_ret
      exact ⟨zag hst.out.symm,HB.out⟩
     by_cases a4 : 57 < n
     ·have hst:=go0 a2 (by omega) a1
      clear go1 go0
      go_wp2_with (go_at_call 200;refine (HLb.out _).mono ?_;rintro e wq ⟨rfl,rfl⟩)
      go_ret
      exact ⟨zag hst.out.symm,HB.out⟩
     ·have hst:=go1 (.inr (.inl ⟨by omega,by omega⟩))
      clear go1 go0
      go_wp2_with (go_at_call 200;refine (HLb.out _).mono ?_;rintro e wq ⟨rfl,rfl⟩)
      go_round
      case rel=>exact ⟨k+1,by go_num,by omega,hst⟩
      case measure=>simp [intOf];omega
    ·have hyes:=hid (zed Hfst.out Hl0.out (by rw [Hsl.out];omega) fun j x hx=>HK.out j x (by have:=(List.getElem?_eq_some_iff.1 hx).1;rw [Hsl.out] at this;omega) hx)
     go_wp2
     go_ret
     exact ⟨zag hyes.out.symm,HB.out⟩
end Go.Proofs.YtkmlfkbpcgkpaaaGreatDoor
