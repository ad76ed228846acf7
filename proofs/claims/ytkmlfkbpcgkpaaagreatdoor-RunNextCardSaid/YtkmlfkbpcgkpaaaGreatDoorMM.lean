/- Texts that others want. -/
import Derived.Test.YtkmlfkbpcgkpaaaGreatDoorM3
import Derived.Test.YtkmlfkbpcgkpaaaGreatDoorM4
import Derived.Test.YtkmlfkbpcgkpaaaGreatDoorM6
import Derived.Test.YtkmlfkbpcgkpaaaGreatDoorM7
import Derived.Test.YtkmlfkbpcgkpaaaGreatDoorWV4
import Derived.Test.YtkmlfkbpcgkpaaaGreatDoorWF3
import Derived.Test.YtkmlfkbpcgkpaaaGreatDoorWF4
import Derived.Laws.AppendOwnNone
import Derived.Lib.MinMax
import Derived.Deep.RegionLaw
import Derived.Deep.DeepCutAuto
import Derived.Lib.SlBytesConst
import Derived.Deep.RegionHeld
import Derived.Laws.EntriesVeiled
import Derived.ProofKit
import Derived.OpenShut
import Derived.ShutString
import Derived.ChangeOld
import Derived.Deep.Strs
import Derived.Lib.SmallJoins
namespace Go.Proofs.YtkmlfkbpcgkpaaaGreatDoor
open Go.RowKit Go.Lib Go.Op
set_option maxHeartbeats 8000000
set_option maxRecDepth 100000
instance : Inhabited VIn:=⟨(0,0,.empty)⟩
def GreatP (w : World) (e : Ending) (w' : World) : Prop:=∃ g : Bool,e=.returned (.bool g)∧Below w.heap.size w w'
def rgreatM : Int→List VIn→Int
 | m,[]=>m
 | m,x :: r=>if m < 9000 then rgreatM (wrap64 (m+min (x.2.2.size : Int) 9000)) r else m
def rgreatEB (nm : ByteArray) (vs : List VIn) : Bool:=decide (9000≤rgreatM (wrap64 ((nm.size : Int)+(vs.length : Int))) vs)
theorem zfa {m : Int} (h : ¬ m < 9000) : ∀ vs,rgreatM m vs=m
 | []=>rfl
 | x :: r=>by rw [rgreatM,if_neg h]
theorem zda (t d s : Int) (n : ByteArray) (a : Option Addr) (c : Nat) (vs : List VIn) (w : World) (_hn : n.size≤maxLen) (hv : VRow w a vs) (hl : vs.length≤maxLen) :
 Calls Tryz.prog 26 #[evV t d s n (.slice a vs.length c)] w fun e w'=>e=.returned (.bool (rgreatEB n vs))∧Below w.heap.size w w':=by
 have hb0 : Below w.heap.size w (w.alloc (.cells #[.int .i64 t,.int .i64 d,.int .i64 s,.string n,.slice a vs.length c] 41)):=(Below.refl _ _).alloc (Nat.le_refl _) _
 have HV:=hid (hv.below hb0)
 obtain ⟨z,hz⟩ : ∃ z,rgreatM (wrap64 ((n.size : Int)+(vs.length : Int))) vs=z:=⟨_,rfl⟩
 unfold rgreatEB
 rw [hz]
 obtain ⟨l,hll⟩ : ∃ l,vs.length=l:=⟨_,rfl⟩
 have Hl:=hid hll
 rw [hll] at hl hb0 HV hz ⊢
 have HB0:=hid hb0
 have Hz:=hid hz
 unfold maxLen at hl _hn
 clear hv hll hb0 hz
 go_enter Tryz.func26,Tryz.ntmps26
 go_wp2
 go_loop [3,4] (fun x i=>∃ (k : Nat) (m : Int),i=.int .i64 k∧k≤l∧x=.int .i64 m∧Hid (rgreatM m (vs.drop k)=z)) (fun _ i=>l - (RowKit.intOf i).toNat)
 case atStart=>exact ⟨0,_,rfl,Nat.zero_le _,rfl,Hz⟩
 case round =>
  obtain ⟨k,m,rfl,hk,rfl,HM⟩:=hrel
  by_cases hlt : k < l
  ·by_cases hm : m < 9000
   ·obtain ⟨x,hx⟩ : ∃ x,vs[k]?=some x:=⟨_,List.getElem?_eq_getElem (by rw [Hl.out];exact hlt)⟩
    obtain ⟨A,rfl,c0,c1,c2,hs⟩:=HV.out k x hx
    have hdr : vs.drop k=x :: vs.drop (k+1):=by
     rw [List.drop_eq_getElem_cons (by rw [Hl.out];exact hlt)]
     congr 1
     rw [List.getElem?_eq_getElem (by rw [Hl.out];exact hlt)] at hx
     injection hx
    have HN : Hid (rgreatM (wrap64 (m+min (x.2.2.size : Int) 9000)) (vs.drop (k+1))=z):=by
     show _=_
     rw [← HM.out,hdr,rgreatM,if_pos hm]
    obtain ⟨k1,n1,s1⟩:=x
    dsimp only at c0 c1 c2 hs HN
    unfold efld at c1 c2
    have hd : decide (m < 9000)=true:=by simpa using hm
    clear hx hdr
    go_wp2
    go_round
    case rel=>exact ⟨k+1,_,by go_num,by omega,rfl,HN⟩
    case measure=>simp [RowKit.intOf];omega
   ·have hd : decide (m < 9000)=false:=by simpa using hm
    have HE : Hid (m=z):=by show _=_;rw [← HM.out,zfa hm]
    go_wp2
    go_ret
    exact ⟨zag (by have h:=HE.out;symm;rw [decide_eq_true_eq];omega),HB0.out⟩
  ·have HE : Hid (m=z):=by
    show _=_
    rw [← HM.out,List.drop_of_length_le (by rw [Hl.out];omega)]
    rfl
   go_wp2
   go_ret
   exact ⟨zag (by rw [HE.out]),HB0.out⟩
def SmE (l : List PEv) : Prop:=l.length < 60∧∀ e∈l,e.vals.length≤20
def LnE (l : List PEv) : Prop:=l.length≤140737488355328∧∀ e∈l,e.vals.length≤140737488355328
section
variable {K : Nat→Prop} {w : World} {a : Option Addr} {n c : Nat}
theorem zd5 {l : List PEv} (h : RowK evD K w (.slice a n c) l) (hl : LnE l) : Calls Tryz.prog 18 #[.slice a n c] w fun e w'=>∃ g : Bool,e=.returned (.bool g)∧(g=false→SmE l)∧Below w.heap.size w w':=by
 have HL:=hid h
 have Hn:=hid h.len
 have HV:=hid hl.2
 have hn : n≤140737488355328:=by rw [h.len];exact hl.1
 clear h hl
 by_cases hn3 : n < 300
 ·go_enter Tryz.func18,Tryz.ntmps18
  go_wp2
  go_loopw [4] (fun i wr=>∃ k : Nat,i=.int .i64 k∧k≤n∧Hid (∀ e∈l.take k,e.vals.length≤20)∧Hid (Below w.heap.size w wr)) (fun i _=>n - (RowKit.intOf i).toNat)
  case atStart=>exact ⟨0,rfl,Nat.zero_le _,fun e he=>(by simp at he),Below.refl _ _⟩
  case round =>
   obtain ⟨k,rfl,hk,HT,HB⟩:=hrel
   by_cases hlt : k < n
   ·obtain ⟨x,hx⟩ : ∃ x,l[k]?=some x:=⟨_,List.getElem?_eq_getElem (by rw [← Hn.out];exact hlt)⟩
    obtain ⟨g0,o,va,vc,rfl,c0,c1,c2,c3,c4,hv,hs⟩:=(HL.out.low HB.out).evAt hx
    have hvl:=HV.out x (List.mem_of_getElem? hx)
    obtain ⟨g,hg⟩ : ∃ g,rgreatEB (strB x.name) (x.vals.map pvIn)=g:=⟨_,rfl⟩
    obtain ⟨t,d,s,nm,vs⟩:=x
    dsimp only at c0 c1 c2 c3 c4 hv hs hvl hg
    have HE : Hid (∀ W,Below wr.heap.size wr W→Calls Tryz.prog 26 #[.agg #[.int .i64 t,.int .i64 d,.int .i64 s,.string (strB nm),.slice va vs.length vc]] W fun e w'=>e=.returned (.bool g)∧Below W.heap.size W w'):=fun W hW=>by
     have h:=zda t d s (strB nm) va vc (vs.map pvIn) W (by rw [zap];exact hs) ((hv.low hW).vrow) (by rw [List.length_map];unfold maxLen;omega)
     rw [List.length_map,hg] at h
     exact h
    obtain ⟨q,hq⟩ : ∃ q,vs.length=q:=⟨_,rfl⟩
    obtain ⟨nb,hnb⟩ : ∃ nb,strB nm=nb:=⟨_,rfl⟩
    have HQ:=hid hq
    rw [hq] at c4 hvl HE
    rw [hnb] at c3 HE
    have HX:=hid hx
    have hk0 : (0 : Int)≤(k : Int):=by omega
    have hk1 : (k : Int) < (n : Int):=by omega
    have hn4 : (n : Int) < 300:=by omega
    clear hx hv hs hg hq hnb
    have HN : Hid (q≤20→∀ e∈l.take (k+1),e.vals.length≤20):=fun hq e he=>by
     rw [List.take_add_one,HX.out] at he
     rcases List.mem_append.1 he with he|he
     ·exact HT.out e he
     ·obtain rfl : e=⟨t,d,s,nm,vs⟩:=by simpa using he
      show vs.length≤20
      rw [HQ.out];exact hq
    have hd : decide ((n : Int) < 300)=true:=by simp;omega
    cases g with
    | true =>
      go_wp2_with (go_at_call 26;(with_reducible refine (HE.out _ (Below.refl _ _)).mono ?_);rintro e w2 ⟨rfl,hb2⟩;replace c4:=zaa hb2 c4;have HB2 : Hid (Below w.heap.size w w2):=HB.out.trans (hb2.mono HB.out.size);clear hb2)
      go_ret
      exact ⟨true,rfl,fun h=>(by cases h),HB2.out⟩
    | false =>
      by_cases hq2 : q≤20
      ·have hq4 : decide (20 < (q : Int))=false:=by simp;omega
       go_wp2_with (go_at_call 26;(with_reducible refine (HE.out _ (Below.refl _ _)).mono ?_);rintro e w2 ⟨rfl,hb2⟩;replace c4:=zaa hb2 c4;have HB2 : Hid (Below w.heap.size w w2):=HB.out.trans (hb2.mono HB.out.size);clear hb2)
       go_roundw
       case rel=>exact ⟨k+1,by go_num,by omega,HN.out hq2,HB2⟩
       case measure=>simp [RowKit.intOf];omega
      ·have hq4 : decide (20 < (q : Int))=true:=by simp;omega
       go_wp2_with (go_at_call 26;(with_reducible refine (HE.out _ (Below.refl _ _)).mono ?_);rintro e w2 ⟨rfl,hb2⟩;replace c4:=zaa hb2 c4;have HB2 : Hid (Below w.heap.size w w2):=HB.out.trans (hb2.mono HB.out.size);clear hb2)
       go_ret
       exact ⟨true,rfl,fun h=>(by cases h),HB2.out⟩
   ·have hkn : k=n:=by omega
    subst hkn
    have hfin : Hid ((∀ e∈l,e.vals.length≤20)∧l.length=k):=⟨by
     have h:=HT.out
     rwa [List.take_of_length_le (by rw [← Hn.out];exact Nat.le_refl _)] at h,Hn.out.symm⟩
    by_cases h6 : k < 60
    ·have hd : decide ((60 : Int)≤(k : Int))=false:=by simp;omega
     go_wp2
     go_ret
     exact ⟨false,by simp <;> omega,fun _=>⟨by rw [hfin.out.2];exact h6,hfin.out.1⟩,HB.out⟩
    ·have hd : decide ((60 : Int)≤(k : Int))=true:=by simp;omega
     go_wp2
     go_ret
     exact ⟨true,by simp <;> omega,fun h=>(by cases h),HB.out⟩
 ·have hd : decide ((n : Int) < 300)=false:=by simp;omega
  have hd2 : decide ((60 : Int)≤(n : Int))=true:=by simp;omega
  go_enter Tryz.func18,Tryz.ntmps18
  go_wp2
  go_loopw [4] (fun i wr=>i=.int .i64 0∧wr=w) (fun _ _=>0)
  case atStart=>exact ⟨rfl,rfl⟩
  case round =>
   obtain ⟨rfl,rfl⟩:=hrel
   go_wp2
   go_ret
   exact ⟨true,by simp <;> omega,fun h=>(by cases h),Below.refl _ _⟩
end
theorem RwLn.lnE {l : List PEv} (h : RwLn l) : LnE l:=⟨h.1,fun e he=>h.2 e he⟩
end Go.Proofs.YtkmlfkbpcgkpaaaGreatDoor
