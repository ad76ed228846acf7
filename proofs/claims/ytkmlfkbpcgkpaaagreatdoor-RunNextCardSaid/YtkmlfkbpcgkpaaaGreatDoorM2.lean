/- Texts that others want. -/
import Derived.Test.YtkmlfkbpcgkpaaaGreatDoorM1
namespace Go.Proofs.YtkmlfkbpcgkpaaaGreatDoor
open Go.RowKit Go.Lib Go.Op
set_option maxHeartbeats 8000000
set_option maxRecDepth 100000
inductive XBd : PEx→Prop
 | mk (k : Int) (v : PVal) (x f : List UInt8) (ks : List PEx) (hv : v.s.length≤1000000) (hx : x.length≤1000000) (hf : f.length≤1000000) (hk : ∀ y∈ks,XBd y) : XBd (.mk k v x f ks)
section
variable {w : World} {a : Option Addr} {c n : Nat} {v : PVal} {x f : List UInt8}
theorem zju (k : Int) : Calls Tryz.prog 163 #[.agg #[.int .i64 k,.int .i64 v.k,.int .i64 v.n,.string (strB v.s),.string (strB x),.string (strB f),.slice a n c],.int .i64 0] w fun e w'=>e=.returned (.bool false)∧Below w.heap.size w w':=by
 have HB:=hid ((Below.refl w.heap.size w).alloc (Nat.le_refl _) (.cells #[.int .i64 k,.int .i64 v.k,.int .i64 v.n,.string (strB v.s),.string (strB x),.string (strB f),.slice a n c] 89))
 go_enter Tryz.func163,Tryz.ntmps163
 go_wp2
 go_ret
 exact ⟨rfl,HB.out⟩
theorem zbh (m : Nat) (hm : 0 < m) (hm7 : m≤100) (k : Int) (hba : ∀ W,Calls Tryz.prog 197 #[.agg #[.int .i64 k,.int .i64 v.k,.int .i64 v.n,.string (strB v.s),.string (strB x),.string (strB f),.slice a n c]] W fun e w'=>e=.returned (.bool false)∧Below W.heap.size W w') : Calls Tryz.prog 163 #[.agg #[.int .i64 k,.int .i64 v.k,.int .i64 v.n,.string (strB v.s),.string (strB x),.string (strB f),.slice a n c],.int .i64 m] w fun e w'=>e=.returned (.bool false)∧Below w.heap.size w w':=by
 have hb0:=(Below.refl w.heap.size w).alloc (Nat.le_refl _) (.cells #[.int .i64 k,.int .i64 v.k,.int .i64 v.n,.string (strB v.s),.string (strB x),.string (strB f),.slice a n c] 89)
 have HB0:=hid hb0
 have t0 : ((m : Int) == 0)=false:=by rw [beq_eq_false_iff_ne];omega
 have HBa : Hid (Calls Tryz.prog 197 #[.agg #[.int .i64 k,.int .i64 v.k,.int .i64 v.n,.string (strB v.s),.string (strB x),.string (strB f),.slice a n c]] (w.alloc (.cells #[.int .i64 k,.int .i64 v.k,.int .i64 v.n,.string (strB v.s),.string (strB x),.string (strB f),.slice a n c] 89)) fun e w'=>e=.returned (.bool false)∧Below (w.alloc (.cells #[.int .i64 k,.int .i64 v.k,.int .i64 v.n,.string (strB v.s),.string (strB x),.string (strB f),.slice a n c] 89)).heap.size (w.alloc (.cells #[.int .i64 k,.int .i64 v.k,.int .i64 v.n,.string (strB v.s),.string (strB x),.string (strB f),.slice a n c] 89)) w'):=hba _
 clear hba hm hb0
 go_enter Tryz.func163,Tryz.ntmps163
 go_wp2_with (go_at_call 197;(with_reducible refine HBa.out.mono ?_);rintro e w1 ⟨rfl,hb1⟩;have hB1:=HB0.out.trans (hb1.mono HB0.out.size);have HB1:=hid hB1;clear hb1 hB1)
 go_ret
 exact ⟨rfl,HB1.out⟩
theorem zj6 (m : Nat) (hm : 0 < m) (hm7 : m≤100) (hba : ∀ W,Calls Tryz.prog 197 #[.agg #[.int .i64 1,.int .i64 v.k,.int .i64 v.n,.string (strB v.s),.string (strB x),.string (strB f),.slice a n c]] W fun e w'=>e=.returned (.bool true)∧Below W.heap.size W w') (hv : v.s.length≤1000000) : Calls Tryz.prog 163 #[.agg #[.int .i64 1,.int .i64 v.k,.int .i64 v.n,.string (strB v.s),.string (strB x),.string (strB f),.slice a n c],.int .i64 m] w fun e w'=>e=.returned (.bool (writeB v))∧Below w.heap.size w w':=by
 have hb0:=(Below.refl w.heap.size w).alloc (Nat.le_refl _) (.cells #[.int .i64 1,.int .i64 v.k,.int .i64 v.n,.string (strB v.s),.string (strB x),.string (strB f),.slice a n c] 89)
 have HB0:=hid hb0
 have t0 : ((m : Int) == 0)=false:=by rw [beq_eq_false_iff_ne];omega
 have HBa : Hid (Calls Tryz.prog 197 #[.agg #[.int .i64 1,.int .i64 v.k,.int .i64 v.n,.string (strB v.s),.string (strB x),.string (strB f),.slice a n c]] (w.alloc (.cells #[.int .i64 1,.int .i64 v.k,.int .i64 v.n,.string (strB v.s),.string (strB x),.string (strB f),.slice a n c] 89)) fun e w'=>e=.returned (.bool true)∧Below (w.alloc (.cells #[.int .i64 1,.int .i64 v.k,.int .i64 v.n,.string (strB v.s),.string (strB x),.string (strB f),.slice a n c] 89)).heap.size (w.alloc (.cells #[.int .i64 1,.int .i64 v.k,.int .i64 v.n,.string (strB v.s),.string (strB x),.string (strB f),.slice a n c] 89)) w'):=hba _
 have HWr:=hid (fun W=>zdc v.k v.n v.s W hv)
 obtain ⟨z,hz⟩ : ∃ z,writeB v=z:=⟨_,rfl⟩
 have HWr2 : Hid (∀ W,Calls Tryz.prog 198 #[.agg #[.int .i64 v.k,.int .i64 v.n,.string (strB v.s)]] W fun e w'=>e=.returned (.bool z)∧Below W.heap.size W w'):=fun W=>by rw [← hz];exact HWr.out W
 rw [hz]
 clear hba hm hb0 hv hz HWr
 go_enter Tryz.func163,Tryz.ntmps163
 go_wp2_with (first
  | (go_at_call 197;(with_reducible refine HBa.out.mono ?_);rintro e w1 ⟨rfl,hb1⟩;have hB1:=HB0.out.trans (hb1.mono HB0.out.size);have m0:=zaa hb1 (tnew w #[.int .i64 1,.int .i64 v.k,.int .i64 v.n,.string (strB v.s),.string (strB x),.string (strB f),.slice a n c] 89 0 rfl);have m1:=zaa hb1 (tnew w #[.int .i64 1,.int .i64 v.k,.int .i64 v.n,.string (strB v.s),.string (strB x),.string (strB f),.slice a n c] 89 1 rfl);have m2:=zaa hb1 (tnew w #[.int .i64 1,.int .i64 v.k,.int .i64 v.n,.string (strB v.s),.string (strB x),.string (strB f),.slice a n c] 89 2 rfl);have m3:=zaa hb1 (tnew w #[.int .i64 1,.int .i64 v.k,.int .i64 v.n,.string (strB v.s),.string (strB x),.string (strB f),.slice a n c] 89 3 rfl);have m4:=zaa hb1 (tnew w #[.int .i64 1,.int .i64 v.k,.int .i64 v.n,.string (strB v.s),.string (strB x),.string (strB f),.slice a n c] 89 4 rfl);have m5:=zaa hb1 (tnew w #[.int .i64 1,.int .i64 v.k,.int .i64 v.n,.string (strB v.s),.string (strB x),.string (strB f),.slice a n c] 89 5 rfl);have m6:=zaa hb1 (tnew w #[.int .i64 1,.int .i64 v.k,.int .i64 v.n,.string (strB v.s),.string (strB x),.string (strB f),.slice a n c] 89 6 rfl);have HB1:=hid hB1;clear hb1 hB1)
  | (go_at_call 198;(with_reducible refine (HWr2.out _).mono ?_);rintro e w2 ⟨rfl,hb2⟩;have HB2:=hid (HB1.out.trans (hb2.mono HB1.out.size));clear hb2))
 go_ret
 exact ⟨rfl,HB2.out⟩
theorem zit (m : Nat) (hm : 0 < m) (hm7 : m≤100) (hba : ∀ W,Calls Tryz.prog 197 #[.agg #[.int .i64 3,.int .i64 v.k,.int .i64 v.n,.string (strB v.s),.string (strB x),.string (strB f),.slice a n c]] W fun e w'=>e=.returned (.bool true)∧Below W.heap.size W w') (hx : x.length≤1000000) : Calls Tryz.prog 163 #[.agg #[.int .i64 3,.int .i64 v.k,.int .i64 v.n,.string (strB v.s),.string (strB x),.string (strB f),.slice a n c],.int .i64 m] w fun e w'=>e=.returned (.bool (nameB x))∧Below w.heap.size w w':=by
 have hb0:=(Below.refl w.heap.size w).alloc (Nat.le_refl _) (.cells #[.int .i64 3,.int .i64 v.k,.int .i64 v.n,.string (strB v.s),.string (strB x),.string (strB f),.slice a n c] 89)
 have HB0:=hid hb0
 have t0 : ((m : Int) == 0)=false:=by rw [beq_eq_false_iff_ne];omega
 have HBa : Hid (Calls Tryz.prog 197 #[.agg #[.int .i64 3,.int .i64 v.k,.int .i64 v.n,.string (strB v.s),.string (strB x),.string (strB f),.slice a n c]] (w.alloc (.cells #[.int .i64 3,.int .i64 v.k,.int .i64 v.n,.string (strB v.s),.string (strB x),.string (strB f),.slice a n c] 89)) fun e w'=>e=.returned (.bool true)∧Below (w.alloc (.cells #[.int .i64 3,.int .i64 v.k,.int .i64 v.n,.string (strB v.s),.string (strB x),.string (strB f),.slice a n c] 89)).heap.size (w.alloc (.cells #[.int .i64 3,.int .i64 v.k,.int .i64 v.n,.string (strB v.s),.string (strB x),.string (strB f),.slice a n c] 89)) w'):=hba _
 have HN:=hid (fun W=>zar x W hx)
 obtain ⟨z,hz⟩ : ∃ z,nameB x=z:=⟨_,rfl⟩
 rw [hz] at HN ⊢
 clear hba hm hb0 hx hz
 go_enter Tryz.func163,Tryz.ntmps163
 go_wp2_with (first
  | (go_at_call 197;(with_reducible refine HBa.out.mono ?_);rintro e w1 ⟨rfl,hb1⟩;have hB1:=HB0.out.trans (hb1.mono HB0.out.size);have m0:=zaa hb1 (tnew w #[.int .i64 3,.int .i64 v.k,.int .i64 v.n,.string (strB v.s),.string (strB x),.string (strB f),.slice a n c] 89 0 rfl);have m1:=zaa hb1 (tnew w #[.int .i64 3,.int .i64 v.k,.int .i64 v.n,.string (strB v.s),.string (strB x),.string (strB f),.slice a n c] 89 1 rfl);have m2:=zaa hb1 (tnew w #[.int .i64 3,.int .i64 v.k,.int .i64 v.n,.string (strB v.s),.string (strB x),.string (strB f),.slice a n c] 89 2 rfl);have m3:=zaa hb1 (tnew w #[.int .i64 3,.int .i64 v.k,.int .i64 v.n,.string (strB v.s),.string (strB x),.string (strB f),.slice a n c] 89 3 rfl);have m4:=zaa hb1 (tnew w #[.int .i64 3,.int .i64 v.k,.int .i64 v.n,.string (strB v.s),.string (strB x),.string (strB f),.slice a n c] 89 4 rfl);have m5:=zaa hb1 (tnew w #[.int .i64 3,.int .i64 v.k,.int .i64 v.n,.string (strB v.s),.string (strB x),.string (strB f),.slice a n c] 89 5 rfl);have m6:=zaa hb1 (tnew w #[.int .i64 3,.int .i64 v.k,.int .i64 v.n,.string (strB v.s),.string (strB x),.string (strB f),.slice a n c] 89 6 rfl);have HB1:=hid hB1;clear hb1 hB1)
  | (go_at_call 102;(with_reducible refine (HN.out _).mono ?_);rintro e w2 ⟨rfl,hb2⟩;have HB2:=hid (HB1.out.trans (hb2.mono HB1.out.size));clear hb2))
 go_ret
 exact ⟨rfl,HB2.out⟩
theorem zhm (m : Nat) (hm : 0 < m) (hm7 : m≤100) (hba : ∀ W,Calls Tryz.prog 197 #[.agg #[.int .i64 2,.int .i64 v.k,.int .i64 v.n,.string (strB v.s),.string (strB x),.string (strB f),.slice a n c]] W fun e w'=>e=.returned (.bool true)∧Below W.heap.size W w') (hx : x.length≤1000000) (hf : f.length≤1000000) : Calls Tryz.prog 163 #[.agg #[.int .i64 2,.int .i64 v.k,.int .i64 v.n,.string (strB v.s),.string (strB x),.string (strB f),.slice a n c],.int .i64 m] w fun e w'=>e=.returned (.bool (nameB x && nameB f))∧Below w.heap.size w w':=by
 have hb0:=(Below.refl w.heap.size w).alloc (Nat.le_refl _) (.cells #[.int .i64 2,.int .i64 v.k,.int .i64 v.n,.string (strB v.s),.string (strB x),.string (strB f),.slice a n c] 89)
 have HB0:=hid hb0
 have t0 : ((m : Int) == 0)=false:=by rw [beq_eq_false_iff_ne];omega
 have HBa : Hid (Calls Tryz.prog 197 #[.agg #[.int .i64 2,.int .i64 v.k,.int .i64 v.n,.string (strB v.s),.string (strB x),.string (strB f),.slice a n c]] (w.alloc (.cells #[.int .i64 2,.int .i64 v.k,.int .i64 v.n,.string (strB v.s),.string (strB x),.string (strB f),.slice a n c] 89)) fun e w'=>e=.returned (.bool true)∧Below (w.alloc (.cells #[.int .i64 2,.int .i64 v.k,.int .i64 v.n,.string (strB v.s),.string (strB x),.string (strB f),.slice a n c] 89)).heap.size (w.alloc (.cells #[.int .i64 2,.int .i64 v.k,.int .i64 v.n,.string (strB v.s),.string (strB x),.string (strB f),.slice a n c] 89)) w'):=hba _
 have HN:=hid (fun W=>zar x W hx)
 have HF:=hid (fun W=>zar f W hf)
 obtain ⟨z,hz⟩ : ∃ z,nameB x=z:=⟨_,rfl⟩
 obtain ⟨y,hy⟩ : ∃ y,nameB f=y:=⟨_,rfl⟩
 rw [hz] at HN ⊢
 rw [hy] at HF ⊢
 clear hba hm hb0 hx hf hz hy
 cases z with
 | false =>
   go_enter Tryz.func163,Tryz.ntmps163
   go_wp2_with (first
    | (go_at_call 197;(with_reducible refine HBa.out.mono ?_);rintro e w1 ⟨rfl,hb1⟩;have hB1:=HB0.out.trans (hb1.mono HB0.out.size);have m0:=zaa hb1 (tnew w #[.int .i64 2,.int .i64 v.k,.int .i64 v.n,.string (strB v.s),.string (strB x),.string (strB f),.slice a n c] 89 0 rfl);have m1:=zaa hb1 (tnew w #[.int .i64 2,.int .i64 v.k,.int .i64 v.n,.string (strB v.s),.string (strB x),.string (strB f),.slice a n c] 89 1 rfl);have m2:=zaa hb1 (tnew w #[.int .i64 2,.int .i64 v.k,.int .i64 v.n,.string (strB v.s),.string (strB x),.string (strB f),.slice a n c] 89 2 rfl);have m3:=zaa hb1 (tnew w #[.int .i64 2,.int .i64 v.k,.int .i64 v.n,.string (strB v.s),.string (strB x),.string (strB f),.slice a n c] 89 3 rfl);have m4:=zaa hb1 (tnew w #[.int .i64 2,.int .i64 v.k,.int .i64 v.n,.string (strB v.s),.string (strB x),.string (strB f),.slice a n c] 89 4 rfl);have m5:=zaa hb1 (tnew w #[.int .i64 2,.int .i64 v.k,.int .i64 v.n,.string (strB v.s),.string (strB x),.string (strB f),.slice a n c] 89 5 rfl);have m6:=zaa hb1 (tnew w #[.int .i64 2,.int .i64 v.k,.int .i64 v.n,.string (strB v.s),.string (strB x),.string (strB f),.slice a n c] 89 6 rfl);have HB1:=hid hB1;clear hb1 hB1)
    | (go_at_call 102;(with_reducible refine (HN.out _).mono ?_);rintro e w2 ⟨rfl,hb2⟩;have HB2:=hid (HB1.out.trans (hb2.mono HB1.out.size));clear hb2))
   go_ret
   exact ⟨rfl,HB2.out⟩
 | true =>
   go_enter Tryz.func163,Tryz.ntmps163
   go_wp2_with (first
    | (go_at_call 197;(with_reducible refine HBa.out.mono ?_);rintro e w1 ⟨rfl,hb1⟩;have hB1:=HB0.out.trans (hb1.mono HB0.out.size);have m0:=zaa hb1 (tnew w #[.int .i64 2,.int .i64 v.k,.int .i64 v.n,.string (strB v.s),.string (strB x),.string (strB f),.slice a n c] 89 0 rfl);have m1:=zaa hb1 (tnew w #[.int .i64 2,.int .i64 v.k,.int .i64 v.n,.string (strB v.s),.string (strB x),.string (strB f),.slice a n c] 89 1 rfl);have m2:=zaa hb1 (tnew w #[.int .i64 2,.int .i64 v.k,.int .i64 v.n,.string (strB v.s),.string (strB x),.string (strB f),.slice a n c] 89 2 rfl);have m3:=zaa hb1 (tnew w #[.int .i64 2,.int .i64 v.k,.int .i64 v.n,.string (strB v.s),.string (strB x),.string (strB f),.slice a n c] 89 3 rfl);have m4:=zaa hb1 (tnew w #[.int .i64 2,.int .i64 v.k,.int .i64 v.n,.string (strB v.s),.string (strB x),.string (strB f),.slice a n c] 89 4 rfl);have m5:=zaa hb1 (tnew w #[.int .i64 2,.int .i64 v.k,.int .i64 v.n,.string (strB v.s),.string (strB x),.string (strB f),.slice a n c] 89 5 rfl);have m6:=zaa hb1 (tnew w #[.int .i64 2,.int .i64 v.k,.int .i64 v.n,.string (strB v.s),.string (strB x),.string (strB f),.slice a n c] 89 6 rfl);have HB1:=hid hB1;clear hb1 hB1)
    | (go_at_call 102;(with_reducible refine (HN.out _).mono ?_);rintro e w2 ⟨rfl,hb2⟩;have m5':=zaa hb2 m5;have HB2:=hid (HB1.out.trans (hb2.mono HB1.out.size));clear hb2)
    | (go_at_call 102;(with_reducible refine (HF.out _).mono ?_);rintro e w3 ⟨rfl,hb3⟩;have HB3:=hid (HB2.out.trans (hb3.mono HB2.out.size));clear hb3))
   go_ret
   exact ⟨zaJ (by cases y <;> rfl),HB3.out⟩
theorem zhn (m : Nat) (hm : 0 < m) (hm7 : m≤100) (hba : ∀ W,Calls Tryz.prog 197 #[.agg #[.int .i64 4,.int .i64 v.k,.int .i64 v.n,.string (strB v.s),.string (strB x),.string (strB f),.slice a n c]] W fun e w'=>e=.returned (.bool true)∧Below W.heap.size W w') (hx : x.length≤1000000) (hf : f.length≤1000000) : Calls Tryz.prog 163 #[.agg #[.int .i64 4,.int .i64 v.k,.int .i64 v.n,.string (strB v.s),.string (strB x),.string (strB f),.slice a n c],.int .i64 m] w fun e w'=>e=.returned (.bool (nameB x && nameB f))∧Below w.heap.size w w':=by
 have hb0:=(Below.refl w.heap.size w).alloc (Nat.le_refl _) (.cells #[.int .i64 4,.int .i64 v.k,.int .i64 v.n,.string (strB v.s),.string (strB x),.string (strB f),.slice a n c] 89)
 have HB0:=hid hb0
 have t0 : ((m : Int) == 0)=false:=by rw [beq_eq_false_iff_ne];omega
 have HBa : Hid (Calls Tryz.prog 197 #[.agg #[.int .i64 4,.int .i64 v.k,.int .i64 v.n,.string (strB v.s),.string (strB x),.string (strB f),.slice a n c]] (w.alloc (.cells #[.int .i64 4,.int .i64 v.k,.int .i64 v.n,.string (strB v.s),.string (strB x),.string (strB f),.slice a n c] 89)) fun e w'=>e=.returned (.bool true)∧Below (w.alloc (.cells #[.int .i64 4,.int .i64 v.k,.int .i64 v.n,.string (strB v.s),.string (strB x),.string (strB f),.slice a n c] 89)).heap.size (w.alloc (.cells #[.int .i64 4,.int .i64 v.k,.int .i64 v.n,.string (strB v.s),.string (strB x),.string (strB f),.slice a n c] 89)) w'):=hba _
 have HN:=hid (fun W=>zar x W hx)
 have HF:=hid (fun W=>zar f W hf)
 obtain ⟨z,hz⟩ : ∃ z,nameB x=z:=⟨_,rfl⟩
 obtain ⟨y,hy⟩ : ∃ y,nameB f=y:=⟨_,rfl⟩
 rw [hz] at HN ⊢
 rw [hy] at HF ⊢
 clear hba hm hb0 hx hf hz hy
 cases z with
 | false =>
   go_enter Tryz.func163,Tryz.ntmps163
   go_wp2_with (first
    | (go_at_call 197;(with_reducible refine HBa.out.mono ?_);rintro e w1 ⟨rfl,hb1⟩;have hB1:=HB0.out.trans (hb1.mono HB0.out.size);have m0:=zaa hb1 (tnew w #[.int .i64 4,.int .i64 v.k,.int .i64 v.n,.string (strB v.s),.string (strB x),.string (strB f),.slice a n c] 89 0 rfl);have m1:=zaa hb1 (tnew w #[.int .i64 4,.int .i64 v.k,.int .i64 v.n,.string (strB v.s),.string (strB x),.string (strB f),.slice a n c] 89 1 rfl);have m2:=zaa hb1 (tnew w #[.int .i64 4,.int .i64 v.k,.int .i64 v.n,.string (strB v.s),.string (strB x),.string (strB f),.slice a n c] 89 2 rfl);have m3:=zaa hb1 (tnew w #[.int .i64 4,.int .i64 v.k,.int .i64 v.n,.string (strB v.s),.string (strB x),.string (strB f),.slice a n c] 89 3 rfl);have m4:=zaa hb1 (tnew w #[.int .i64 4,.int .i64 v.k,.int .i64 v.n,.string (strB v.s),.string (strB x),.string (strB f),.slice a n c] 89 4 rfl);have m5:=zaa hb1 (tnew w #[.int .i64 4,.int .i64 v.k,.int .i64 v.n,.string (strB v.s),.string (strB x),.string (strB f),.slice a n c] 89 5 rfl);have m6:=zaa hb1 (tnew w #[.int .i64 4,.int .i64 v.k,.int .i64 v.n,.string (strB v.s),.string (strB x),.string (strB f),.slice a n c] 89 6 rfl);have HB1:=hid hB1;clear hb1 hB1)
    | (go_at_call 102;(with_reducible refine (HN.out _).mono ?_);rintro e w2 ⟨rfl,hb2⟩;have HB2:=hid (HB1.out.trans (hb2.mono HB1.out.size));clear hb2))
   go_ret
   exact ⟨rfl,HB2.out⟩
 | true =>
   go_enter Tryz.func163,Tryz.ntmps163
   go_wp2_with (first
    | (go_at_call 197;(with_reducible refine HBa.out.mono ?_);rintro e w1 ⟨rfl,hb1⟩;have hB1:=HB0.out.trans (hb1.mono HB0.out.size);have m0:=zaa hb1 (tnew w #[.int .i64 4,.int .i64 v.k,.int .i64 v.n,.string (strB v.s),.string (strB x),.string (strB f),.slice a n c] 89 0 rfl);have m1:=zaa hb1 (tnew w #[.int .i64 4,.int .i64 v.k,.int .i64 v.n,.string (strB v.s),.string (strB x),.string (strB f),.slice a n c] 89 1 rfl);have m2:=zaa hb1 (tnew w #[.int .i64 4,.int .i64 v.k,.int .i64 v.n,.string (strB v.s),.string (strB x),.string (strB f),.slice a n c] 89 2 rfl);have m3:=zaa hb1 (tnew w #[.int .i64 4,.int .i64 v.k,.int .i64 v.n,.string (strB v.s),.string (strB x),.string (strB f),.slice a n c] 89 3 rfl);have m4:=zaa hb1 (tnew w #[.int .i64 4,.int .i64 v.k,.int .i64 v.n,.string (strB v.s),.string (strB x),.string (strB f),.slice a n c] 89 4 rfl);have m5:=zaa hb1 (tnew w #[.int .i64 4,.int .i64 v.k,.int .i64 v.n,.string (strB v.s),.string (strB x),.string (strB f),.slice a n c] 89 5 rfl);have m6:=zaa hb1 (tnew w #[.int .i64 4,.int .i64 v.k,.int .i64 v.n,.string (strB v.s),.string (strB x),.string (strB f),.slice a n c] 89 6 rfl);have HB1:=hid hB1;clear hb1 hB1)
    | (go_at_call 102;(with_reducible refine (HN.out _).mono ?_);rintro e w2 ⟨rfl,hb2⟩;have m5':=zaa hb2 m5;have HB2:=hid (HB1.out.trans (hb2.mono HB1.out.size));clear hb2)
    | (go_at_call 102;(with_reducible refine (HF.out _).mono ?_);rintro e w3 ⟨rfl,hb3⟩;have HB3:=hid (HB2.out.trans (hb3.mono HB2.out.size));clear hb3))
   go_ret
   exact ⟨zaJ (by cases y <;> rfl),HB3.out⟩
theorem zho (m : Nat) (hm : 0 < m) (hm7 : m≤100) (hba : ∀ W,Calls Tryz.prog 197 #[.agg #[.int .i64 5,.int .i64 v.k,.int .i64 v.n,.string (strB v.s),.string (strB x),.string (strB f),.slice a n c]] W fun e w'=>e=.returned (.bool true)∧Below W.heap.size W w') (hx : x.length≤1000000) (hf : f.length≤1000000) : Calls Tryz.prog 163 #[.agg #[.int .i64 5,.int .i64 v.k,.int .i64 v.n,.string (strB v.s),.string (strB x),.string (strB f),.slice a n c],.int .i64 m] w fun e w'=>e=.returned (.bool (nameB x && nameB f))∧Below w.heap.size w w':=by
 have hb0:=(Below.refl w.heap.size w).alloc (Nat.le_refl _) (.cells #[.int .i64 5,.int .i64 v.k,.int .i64 v.n,.string (strB v.s),.string (strB x),.string (strB f),.slice a n c] 89)
 have HB0:=hid hb0
 have t0 : ((m : Int) == 0)=false:=by rw [beq_eq_false_iff_ne];omega
 have HBa : Hid (Calls Tryz.prog 197 #[.agg #[.int .i64 5,.int .i64 v.k,.int .i64 v.n,.string (strB v.s),.string (strB x),.string (strB f),.slice a n c]] (w.alloc (.cells #[.int .i64 5,.int .i64 v.k,.int .i64 v.n,.string (strB v.s),.string (strB x),.string (strB f),.slice a n c] 89)) fun e w'=>e=.returned (.bool true)∧Below (w.alloc (.cells #[.int .i64 5,.int .i64 v.k,.int .i64 v.n,.string (strB v.s),.string (strB x),.string (strB f),.slice a n c] 89)).heap.size (w.alloc (.cells #[.int .i64 5,.int .i64 v.k,.int .i64 v.n,.string (strB v.s),.string (strB x),.string (strB f),.slice a n c] 89)) w'):=hba _
 have HN:=hid (fun W=>zar x W hx)
 have HF:=hid (fun W=>zar f W hf)
 obtain ⟨z,hz⟩ : ∃ z,nameB x=z:=⟨_,rfl⟩
 obtain ⟨y,hy⟩ : ∃ y,nameB f=y:=⟨_,rfl⟩
 rw [hz] at HN ⊢
 rw [hy] at HF ⊢
 clear hba hm hb0 hx hf hz hy
 cases z with
 | false =>
   go_enter Tryz.func163,Tryz.ntmps163
   go_wp2_with (first
    | (go_at_call 197;(with_reducible refine HBa.out.mono ?_);rintro e w1 ⟨rfl,hb1⟩;have hB1:=HB0.out.trans (hb1.mono HB0.out.size);have m0:=zaa hb1 (tnew w #[.int .i64 5,.int .i64 v.k,.int .i64 v.n,.string (strB v.s),.string (strB x),.string (strB f),.slice a n c] 89 0 rfl);have m1:=zaa hb1 (tnew w #[.int .i64 5,.int .i64 v.k,.int .i64 v.n,.string (strB v.s),.string (strB x),.string (strB f),.slice a n c] 89 1 rfl);have m2:=zaa hb1 (tnew w #[.int .i64 5,.int .i64 v.k,.int .i64 v.n,.string (strB v.s),.string (strB x),.string (strB f),.slice a n c] 89 2 rfl);have m3:=zaa hb1 (tnew w #[.int .i64 5,.int .i64 v.k,.int .i64 v.n,.string (strB v.s),.string (strB x),.string (strB f),.slice a n c] 89 3 rfl);have m4:=zaa hb1 (tnew w #[.int .i64 5,.int .i64 v.k,.int .i64 v.n,.string (strB v.s),.string (strB x),.string (strB f),.slice a n c] 89 4 rfl);have m5:=zaa hb1 (tnew w #[.int .i64 5,.int .i64 v.k,.int .i64 v.n,.string (strB v.s),.string (strB x),.string (strB f),.slice a n c] 89 5 rfl);have m6:=zaa hb1 (tnew w #[.int .i64 5,.int .i64 v.k,.int .i64 v.n,.string (strB v.s),.string (strB x),.string (strB f),.slice a n c] 89 6 rfl);have HB1:=hid hB1;clear hb1 hB1)
    | (go_at_call 102;(with_reducible refine (HN.out _).mono ?_);rintro e w2 ⟨rfl,hb2⟩;have HB2:=hid (HB1.out.trans (hb2.mono HB1.out.size));clear hb2))
   go_ret
   exact ⟨rfl,HB2.out⟩
 | true =>
   go_enter Tryz.func163,Tryz.ntmps163
   go_wp2_with (first
    | (go_at_call 197;(with_reducible refine HBa.out.mono ?_);rintro e w1 ⟨rfl,hb1⟩;have hB1:=HB0.out.trans (hb1.mono HB0.out.size);have m0:=zaa hb1 (tnew w #[.int .i64 5,.int .i64 v.k,.int .i64 v.n,.string (strB v.s),.string (strB x),.string (strB f),.slice a n c] 89 0 rfl);have m1:=zaa hb1 (tnew w #[.int .i64 5,.int .i64 v.k,.int .i64 v.n,.string (strB v.s),.string (strB x),.string (strB f),.slice a n c] 89 1 rfl);have m2:=zaa hb1 (tnew w #[.int .i64 5,.int .i64 v.k,.int .i64 v.n,.string (strB v.s),.string (strB x),.string (strB f),.slice a n c] 89 2 rfl);have m3:=zaa hb1 (tnew w #[.int .i64 5,.int .i64 v.k,.int .i64 v.n,.string (strB v.s),.string (strB x),.string (strB f),.slice a n c] 89 3 rfl);have m4:=zaa hb1 (tnew w #[.int .i64 5,.int .i64 v.k,.int .i64 v.n,.string (strB v.s),.string (strB x),.string (strB f),.slice a n c] 89 4 rfl);have m5:=zaa hb1 (tnew w #[.int .i64 5,.int .i64 v.k,.int .i64 v.n,.string (strB v.s),.string (strB x),.string (strB f),.slice a n c] 89 5 rfl);have m6:=zaa hb1 (tnew w #[.int .i64 5,.int .i64 v.k,.int .i64 v.n,.string (strB v.s),.string (strB x),.string (strB f),.slice a n c] 89 6 rfl);have HB1:=hid hB1;clear hb1 hB1)
    | (go_at_call 102;(with_reducible refine (HN.out _).mono ?_);rintro e w2 ⟨rfl,hb2⟩;have m5':=zaa hb2 m5;have HB2:=hid (HB1.out.trans (hb2.mono HB1.out.size));clear hb2)
    | (go_at_call 102;(with_reducible refine (HF.out _).mono ?_);rintro e w3 ⟨rfl,hb3⟩;have HB3:=hid (HB2.out.trans (hb3.mono HB2.out.size));clear hb3))
   go_ret
   exact ⟨zaJ (by cases y <;> rfl),HB3.out⟩
theorem zhp (m : Nat) (hm : 0 < m) (hm7 : m≤100) (hba : ∀ W,Calls Tryz.prog 197 #[.agg #[.int .i64 6,.int .i64 v.k,.int .i64 v.n,.string (strB v.s),.string (strB x),.string (strB f),.slice a n c]] W fun e w'=>e=.returned (.bool true)∧Below W.heap.size W w') (hx : x.length≤1000000) (hf : f.length≤1000000) : Calls Tryz.prog 163 #[.agg #[.int .i64 6,.int .i64 v.k,.int .i64 v.n,.string (strB v.s),.string (strB x),.string (strB f),.slice a n c],.int .i64 m] w fun e w'=>e=.returned (.bool (nameB x && nameB f))∧Below w.heap.size w w':=by
 have hb0:=(Below.refl w.heap.size w).alloc (Nat.le_refl _) (.cells #[.int .i64 6,.int .i64 v.k,.int .i64 v.n,.string (strB v.s),.string (strB x),.string (strB f),.slice a n c] 89)
 have HB0:=hid hb0
 have t0 : ((m : Int) == 0)=false:=by rw [beq_eq_false_iff_ne];omega
 have HBa : Hid (Calls Tryz.prog 197 #[.agg #[.int .i64 6,.int .i64 v.k,.int .i64 v.n,.string (strB v.s),.string (strB x),.string (strB f),.slice a n c]] (w.alloc (.cells #[.int .i64 6,.int .i64 v.k,.int .i64 v.n,.string (strB v.s),.string (strB x),.string (strB f),.slice a n c] 89)) fun e w'=>e=.returned (.bool true)∧Below (w.alloc (.cells #[.int .i64 6,.int .i64 v.k,.int .i64 v.n,.string (strB v.s),.string (strB x),.string (strB f),.slice a n c] 89)).heap.size (w.alloc (.cells #[.int .i64 6,.int .i64 v.k,.int .i64 v.n,.string (strB v.s),.string (strB x),.string (strB f),.slice a n c] 89)) w'):=hba _
 have HN:=hid (fun W=>zar x W hx)
 have HF:=hid (fun W=>zar f W hf)
 obtain ⟨z,hz⟩ : ∃ z,nameB x=z:=⟨_,rfl⟩
 obtain ⟨y,hy⟩ : ∃ y,nameB f=y:=⟨_,rfl⟩
 rw [hz] at HN ⊢
 rw [hy] at HF ⊢
 clear hba hm hb0 hx hf hz hy
 cases z with
 | false =>
   go_enter Tryz.func163,Tryz.ntmps163
   go_wp2_with (first
    | (go_at_call 197;(with_reducible refine HBa.out.mono ?_);rintro e w1 ⟨rfl,hb1⟩;have hB1:=HB0.out.trans (hb1.mono HB0.out.size);have m0:=zaa hb1 (tnew w #[.int .i64 6,.int .i64 v.k,.int .i64 v.n,.string (strB v.s),.string (strB x),.string (strB f),.slice a n c] 89 0 rfl);have m1:=zaa hb1 (tnew w #[.int .i64 6,.int .i64 v.k,.int .i64 v.n,.string (strB v.s),.string (strB x),.string (strB f),.slice a n c] 89 1 rfl);have m2:=zaa hb1 (tnew w #[.int .i64 6,.int .i64 v.k,.int .i64 v.n,.string (strB v.s),.string (strB x),.string (strB f),.slice a n c] 89 2 rfl);have m3:=zaa hb1 (tnew w #[.int .i64 6,.int .i64 v.k,.int .i64 v.n,.string (strB v.s),.string (strB x),.string (strB f),.slice a n c] 89 3 rfl);have m4:=zaa hb1 (tnew w #[.int .i64 6,.int .i64 v.k,.int .i64 v.n,.string (strB v.s),.string (strB x),.string (strB f),.slice a n c] 89 4 rfl);have m5:=zaa hb1 (tnew w #[.int .i64 6,.int .i64 v.k,.int .i64 v.n,.string (strB v.s),.string (strB x),.string (strB f),.slice a n c] 89 5 rfl);have m6:=zaa hb1 (tnew w #[.int .i64 6,.int .i64 v.k,.int .i64 v.n,.string (strB v.s),.string (strB x),.string (strB f),.slice a n c] 89 6 rfl);have HB1:=hid hB1;clear hb1 hB1)
    | (go_at_call 102;(with_reducible refine (HN.out _).mono ?_);rintro e w2 ⟨rfl,hb2⟩;have HB2:=hid (HB1.out.trans (hb2.mono HB1.out.size));clear hb2))
   go_ret
   exact ⟨rfl,HB2.out⟩
 | true =>
   go_enter Tryz.func163,Tryz.ntmps163
   go_wp2_with (first
    | (go_at_call 197;(with_reducible refine HBa.out.mono ?_);rintro e w1 ⟨rfl,hb1⟩;have hB1:=HB0.out.trans (hb1.mono HB0.out.size);have m0:=zaa hb1 (tnew w #[.int .i64 6,.int .i64 v.k,.int .i64 v.n,.string (strB v.s),.string (strB x),.string (strB f),.slice a n c] 89 0 rfl);have m1:=zaa hb1 (tnew w #[.int .i64 6,.int .i64 v.k,.int .i64 v.n,.string (strB v.s),.string (strB x),.string (strB f),.slice a n c] 89 1 rfl);have m2:=zaa hb1 (tnew w #[.int .i64 6,.int .i64 v.k,.int .i64 v.n,.string (strB v.s),.string (strB x),.string (strB f),.slice a n c] 89 2 rfl);have m3:=zaa hb1 (tnew w #[.int .i64 6,.int .i64 v.k,.int .i64 v.n,.string (strB v.s),.string (strB x),.string (strB f),.slice a n c] 89 3 rfl);have m4:=zaa hb1 (tnew w #[.int .i64 6,.int .i64 v.k,.int .i64 v.n,.string (strB v.s),.string (strB x),.string (strB f),.slice a n c] 89 4 rfl);have m5:=zaa hb1 (tnew w #[.int .i64 6,.int .i64 v.k,.int .i64 v.n,.string (strB v.s),.string (strB x),.string (strB f),.slice a n c] 89 5 rfl);have m6:=zaa hb1 (tnew w #[.int .i64 6,.int .i64 v.k,.int .i64 v.n,.string (strB v.s),.string (strB x),.string (strB f),.slice a n c] 89 6 rfl);have HB1:=hid hB1;clear hb1 hB1)
    | (go_at_call 102;(with_reducible refine (HN.out _).mono ?_);rintro e w2 ⟨rfl,hb2⟩;have m5':=zaa hb2 m5;have HB2:=hid (HB1.out.trans (hb2.mono HB1.out.size));clear hb2)
    | (go_at_call 102;(with_reducible refine (HF.out _).mono ?_);rintro e w3 ⟨rfl,hb3⟩;have HB3:=hid (HB2.out.trans (hb3.mono HB2.out.size));clear hb3))
   go_ret
   exact ⟨zaJ (by cases y <;> rfl),HB3.out⟩
theorem zjv (m : Nat) (hm : 0 < m) (hm7 : m≤100) {g o : Nat} (hba : ∀ W,Calls Tryz.prog 197 #[.agg #[.int .i64 7,.int .i64 v.k,.int .i64 v.n,.string (strB v.s),.string (strB x),.string (strB f),.slice (some ⟨g,o,none⟩) 2 c]] W fun e w'=>e=.returned (.bool true)∧Below W.heap.size W w') {y z : PEx} {ay az : Option Addr} {qy cy qz cz : Nat} (r1 r2 : Bool) (yc0 : w.cell? ⟨g,o,none⟩=some (.int .i64 y.k)) (yc1 : w.cell? ⟨g,o+1,none⟩=some (.int .i64 y.v.k)) (yc2 : w.cell? ⟨g,o+2,none⟩=some (.int .i64 y.v.n)) (yc3 : w.cell? ⟨g,o+3,none⟩=some (.string (strB y.v.s))) (yc4 : w.cell? ⟨g,o+4,none⟩=some (.string (strB y.x))) (yc5 : w.cell? ⟨g,o+5,none⟩=some (.string (strB y.f))) (yc6 : w.cell? ⟨g,o+6,none⟩=some (.slice ay qy cy)) (zc0 : w.cell? ⟨g,o+7,none⟩=some (.int .i64 z.k)) (zc1 : w.cell? ⟨g,o+8,none⟩=some (.int .i64 z.v.k)) (zc2 : w.cell? ⟨g,o+9,none⟩=some (.int .i64 z.v.n)) (zc3 : w.cell? ⟨g,o+10,none⟩=some (.string (strB z.v.s))) (zc4 : w.cell? ⟨g,o+11,none⟩=some (.string (strB z.x))) (zc5 : w.cell? ⟨g,o+12,none⟩=some (.string (strB z.f))) (zc6 : w.cell? ⟨g,o+13,none⟩=some (.slice az qz cz)) (h1 : ∀ W,Below w.heap.size w W→Calls Tryz.prog 163 #[exV y (.slice ay qy cy),.int .i64 ((m : Int) - 1)] W fun e w'=>e=.returned (.bool r1)∧Below W.heap.size W w') (h2 : ∀ W,Below w.heap.size w W→Calls Tryz.prog 163 #[exV z (.slice az qz cz),.int .i64 ((m : Int) - 1)] W fun e w'=>e=.returned (.bool r2)∧Below W.heap.size W w') : Calls Tryz.prog 163 #[.agg #[.int .i64 7,.int .i64 v.k,.int .i64 v.n,.string (strB v.s),.string (strB x),.string (strB f),.slice (some ⟨g,o,none⟩) 2 c],.int .i64 m] w fun e w'=>e=.returned (.bool (r1 && r2))∧Below w.heap.size w w':=by
 have hb0:=(Below.refl w.heap.size w).alloc (Nat.le_refl _) (.cells #[.int .i64 7,.int .i64 v.k,.int .i64 v.n,.string (strB v.s),.string (strB x),.string (strB f),.slice (some ⟨g,o,none⟩) 2 c] 89)
 have HB0:=hid hb0
 have t0 : ((m : Int) == 0)=false:=by rw [beq_eq_false_iff_ne];omega
 have HBa : Hid (Calls Tryz.prog 197 #[.agg #[.int .i64 7,.int .i64 v.k,.int .i64 v.n,.string (strB v.s),.string (strB x),.string (strB f),.slice (some ⟨g,o,none⟩) 2 c]] (w.alloc (.cells #[.int .i64 7,.int .i64 v.k,.int .i64 v.n,.string (strB v.s),.string (strB x),.string (strB f),.slice (some ⟨g,o,none⟩) 2 c] 89)) fun e w'=>e=.returned (.bool true)∧Below (w.alloc (.cells #[.int .i64 7,.int .i64 v.k,.int .i64 v.n,.string (strB v.s),.string (strB x),.string (strB f),.slice (some ⟨g,o,none⟩) 2 c] 89)).heap.size (w.alloc (.cells #[.int .i64 7,.int .i64 v.k,.int .i64 v.n,.string (strB v.s),.string (strB x),.string (strB f),.slice (some ⟨g,o,none⟩) 2 c] 89)) w'):=hba _
 have hwr : IntKind.i64.wrap ((m : Int) - 1)=(m : Int) - 1:=IntWalk.i64_in _ (by omega)
 have H1:=hid h1
 have H2:=hid h2
 simp only [xexV] at H1 H2
 clear hba hm hb0 h1 h2
 cases r1 with
 | false =>
   go_enter Tryz.func163,Tryz.ntmps163
   go_wp2_with (first
    | (go_at_call 197;(with_reducible refine HBa.out.mono ?_);rintro e w1 ⟨rfl,hb1⟩;have hB1:=HB0.out.trans (hb1.mono HB0.out.size);have m0:=zaa hb1 (tnew w #[.int .i64 7,.int .i64 v.k,.int .i64 v.n,.string (strB v.s),.string (strB x),.string (strB f),.slice (some ⟨g,o,none⟩) 2 c] 89 0 rfl);have m1:=zaa hb1 (tnew w #[.int .i64 7,.int .i64 v.k,.int .i64 v.n,.string (strB v.s),.string (strB x),.string (strB f),.slice (some ⟨g,o,none⟩) 2 c] 89 1 rfl);have m2:=zaa hb1 (tnew w #[.int .i64 7,.int .i64 v.k,.int .i64 v.n,.string (strB v.s),.string (strB x),.string (strB f),.slice (some ⟨g,o,none⟩) 2 c] 89 2 rfl);have m3:=zaa hb1 (tnew w #[.int .i64 7,.int .i64 v.k,.int .i64 v.n,.string (strB v.s),.string (strB x),.string (strB f),.slice (some ⟨g,o,none⟩) 2 c] 89 3 rfl);have m4:=zaa hb1 (tnew w #[.int .i64 7,.int .i64 v.k,.int .i64 v.n,.string (strB v.s),.string (strB x),.string (strB f),.slice (some ⟨g,o,none⟩) 2 c] 89 4 rfl);have m5:=zaa hb1 (tnew w #[.int .i64 7,.int .i64 v.k,.int .i64 v.n,.string (strB v.s),.string (strB x),.string (strB f),.slice (some ⟨g,o,none⟩) 2 c] 89 5 rfl);have m6:=zaa hb1 (tnew w #[.int .i64 7,.int .i64 v.k,.int .i64 v.n,.string (strB v.s),.string (strB x),.string (strB f),.slice (some ⟨g,o,none⟩) 2 c] 89 6 rfl);have y0:=zaa hB1 yc0;have y1:=zaa hB1 yc1;have y2:=zaa hB1 yc2;have y3:=zaa hB1 yc3;have y4:=zaa hB1 yc4;have y5:=zaa hB1 yc5;have y6:=zaa hB1 yc6;have HB1:=hid hB1;clear hb1 hB1)
    | (go_at_call 163;(with_reducible refine (H1.out _ HB1.out).mono ?_);rintro e w2 ⟨rfl,hb2⟩;have HB2:=hid (HB1.out.trans (hb2.mono HB1.out.size));clear hb2))
   go_ret
   exact ⟨rfl,HB2.out⟩
 | true =>
   go_enter Tryz.func163,Tryz.ntmps163
   go_wp2_with (first
    | (go_at_call 197;(with_reducible refine HBa.out.mono ?_);rintro e w1 ⟨rfl,hb1⟩;have hB1:=HB0.out.trans (hb1.mono HB0.out.size);have m0:=zaa hb1 (tnew w #[.int .i64 7,.int .i64 v.k,.int .i64 v.n,.string (strB v.s),.string (strB x),.string (strB f),.slice (some ⟨g,o,none⟩) 2 c] 89 0 rfl);have m1:=zaa hb1 (tnew w #[.int .i64 7,.int .i64 v.k,.int .i64 v.n,.string (strB v.s),.string (strB x),.string (strB f),.slice (some ⟨g,o,none⟩) 2 c] 89 1 rfl);have m2:=zaa hb1 (tnew w #[.int .i64 7,.int .i64 v.k,.int .i64 v.n,.string (strB v.s),.string (strB x),.string (strB f),.slice (some ⟨g,o,none⟩) 2 c] 89 2 rfl);have m3:=zaa hb1 (tnew w #[.int .i64 7,.int .i64 v.k,.int .i64 v.n,.string (strB v.s),.string (strB x),.string (strB f),.slice (some ⟨g,o,none⟩) 2 c] 89 3 rfl);have m4:=zaa hb1 (tnew w #[.int .i64 7,.int .i64 v.k,.int .i64 v.n,.string (strB v.s),.string (strB x),.string (strB f),.slice (some ⟨g,o,none⟩) 2 c] 89 4 rfl);have m5:=zaa hb1 (tnew w #[.int .i64 7,.int .i64 v.k,.int .i64 v.n,.string (strB v.s),.string (strB x),.string (strB f),.slice (some ⟨g,o,none⟩) 2 c] 89 5 rfl);have m6:=zaa hb1 (tnew w #[.int .i64 7,.int .i64 v.k,.int .i64 v.n,.string (strB v.s),.string (strB x),.string (strB f),.slice (some ⟨g,o,none⟩) 2 c] 89 6 rfl);have y0:=zaa hB1 yc0;have y1:=zaa hB1 yc1;have y2:=zaa hB1 yc2;have y3:=zaa hB1 yc3;have y4:=zaa hB1 yc4;have y5:=zaa hB1 yc5;have y6:=zaa hB1 yc6;have z0:=zaa hB1 zc0;have z1:=zaa hB1 zc1;have z2:=zaa hB1 zc2;have z3:=zaa hB1 zc3;have z4:=zaa hB1 zc4;have z5:=zaa hB1 zc5;have z6:=zaa hB1 zc6;have HB1:=hid hB1;clear hb1 hB1)
    | (go_at_call 163;(with_reducible refine (H1.out _ HB1.out).mono ?_);rintro e w2 ⟨rfl,hb2⟩;have z0':=zaa hb2 z0;have z1':=zaa hb2 z1;have z2':=zaa hb2 z2;have z3':=zaa hb2 z3;have z4':=zaa hb2 z4;have z5':=zaa hb2 z5;have z6':=zaa hb2 z6;have m6':=zaa hb2 m6;have HB2:=hid (HB1.out.trans (hb2.mono HB1.out.size));clear hb2)
    | (go_at_call 163;(with_reducible refine (H2.out _ HB2.out).mono ?_);rintro e w3 ⟨rfl,hb3⟩;have HB3:=hid (HB2.out.trans (hb3.mono HB2.out.size));clear hb3))
   go_ret
   exact ⟨zaJ (by cases r2 <;> rfl),HB3.out⟩
theorem zjw (m : Nat) (hm : 0 < m) (hm7 : m≤100) {g o : Nat} (hba : ∀ W,Calls Tryz.prog 197 #[.agg #[.int .i64 8,.int .i64 v.k,.int .i64 v.n,.string (strB v.s),.string (strB x),.string (strB f),.slice (some ⟨g,o,none⟩) 2 c]] W fun e w'=>e=.returned (.bool true)∧Below W.heap.size W w') {y z : PEx} {ay az : Option Addr} {qy cy qz cz : Nat} (r1 r2 : Bool) (yc0 : w.cell? ⟨g,o,none⟩=some (.int .i64 y.k)) (yc1 : w.cell? ⟨g,o+1,none⟩=some (.int .i64 y.v.k)) (yc2 : w.cell? ⟨g,o+2,none⟩=some (.int .i64 y.v.n)) (yc3 : w.cell? ⟨g,o+3,none⟩=some (.string (strB y.v.s))) (yc4 : w.cell? ⟨g,o+4,none⟩=some (.string (strB y.x))) (yc5 : w.cell? ⟨g,o+5,none⟩=some (.string (strB y.f))) (yc6 : w.cell? ⟨g,o+6,none⟩=some (.slice ay qy cy)) (zc0 : w.cell? ⟨g,o+7,none⟩=some (.int .i64 z.k)) (zc1 : w.cell? ⟨g,o+8,none⟩=some (.int .i64 z.v.k)) (zc2 : w.cell? ⟨g,o+9,none⟩=some (.int .i64 z.v.n)) (zc3 : w.cell? ⟨g,o+10,none⟩=some (.string (strB z.v.s))) (zc4 : w.cell? ⟨g,o+11,none⟩=some (.string (strB z.x))) (zc5 : w.cell? ⟨g,o+12,none⟩=some (.string (strB z.f))) (zc6 : w.cell? ⟨g,o+13,none⟩=some (.slice az qz cz)) (h1 : ∀ W,Below w.heap.size w W→Calls Tryz.prog 163 #[exV y (.slice ay qy cy),.int .i64 ((m : Int) - 1)] W fun e w'=>e=.returned (.bool r1)∧Below W.heap.size W w') (h2 : ∀ W,Below w.heap.size w W→Calls Tryz.prog 163 #[exV z (.slice az qz cz),.int .i64 ((m : Int) - 1)] W fun e w'=>e=.returned (.bool r2)∧Below W.heap.size W w') : Calls Tryz.prog 163 #[.agg #[.int .i64 8,.int .i64 v.k,.int .i64 v.n,.string (strB v.s),.string (strB x),.string (strB f),.slice (some ⟨g,o,none⟩) 2 c],.int .i64 m] w fun e w'=>e=.returned (.bool (r1 && r2))∧Below w.heap.size w w':=by
 have hb0:=(Below.refl w.heap.size w).alloc (Nat.le_refl _) (.cells #[.int .i64 8,.int .i64 v.k,.int .i64 v.n,.string (strB v.s),.string (strB x),.string (strB f),.slice (some ⟨g,o,none⟩) 2 c] 89)
 have HB0:=hid hb0
 have t0 : ((m : Int) == 0)=false:=by rw [beq_eq_false_iff_ne];omega
 have HBa : Hid (Calls Tryz.prog 197 #[.agg #[.int .i64 8,.int .i64 v.k,.int .i64 v.n,.string (strB v.s),.string (strB x),.string (strB f),.slice (some ⟨g,o,none⟩) 2 c]] (w.alloc (.cells #[.int .i64 8,.int .i64 v.k,.int .i64 v.n,.string (strB v.s),.string (strB x),.string (strB f),.slice (some ⟨g,o,none⟩) 2 c] 89)) fun e w'=>e=.returned (.bool true)∧Below (w.alloc (.cells #[.int .i64 8,.int .i64 v.k,.int .i64 v.n,.string (strB v.s),.string (strB x),.string (strB f),.slice (some ⟨g,o,none⟩) 2 c] 89)).heap.size (w.alloc (.cells #[.int .i64 8,.int .i64 v.k,.int .i64 v.n,.string (strB v.s),.string (strB x),.string (strB f),.slice (some ⟨g,o,none⟩) 2 c] 89)) w'):=hba _
 have hwr : IntKind.i64.wrap ((m : Int) - 1)=(m : Int) - 1:=IntWalk.i64_in _ (by omega)
 have H1:=hid h1
 have H2:=hid h2
 simp only [xexV] at H1 H2
 clear hba hm hb0 h1 h2
 cases r1 with
 | false =>
   go_enter Tryz.func163,Tryz.ntmps163
   go_wp2_with (first
    | (go_at_call 197;(with_reducible refine HBa.out.mono ?_);rintro e w1 ⟨rfl,hb1⟩;have hB1:=HB0.out.trans (hb1.mono HB0.out.size);have m0:=zaa hb1 (tnew w #[.int .i64 8,.int .i64 v.k,.int .i64 v.n,.string (strB v.s),.string (strB x),.string (strB f),.slice (some ⟨g,o,none⟩) 2 c] 89 0 rfl);have m1:=zaa hb1 (tnew w #[.int .i64 8,.int .i64 v.k,.int .i64 v.n,.string (strB v.s),.string (strB x),.string (strB f),.slice (some ⟨g,o,none⟩) 2 c] 89 1 rfl);have m2:=zaa hb1 (tnew w #[.int .i64 8,.int .i64 v.k,.int .i64 v.n,.string (strB v.s),.string (strB x),.string (strB f),.slice (some ⟨g,o,none⟩) 2 c] 89 2 rfl);have m3:=zaa hb1 (tnew w #[.int .i64 8,.int .i64 v.k,.int .i64 v.n,.string (strB v.s),.string (strB x),.string (strB f),.slice (some ⟨g,o,none⟩) 2 c] 89 3 rfl);have m4:=zaa hb1 (tnew w #[.int .i64 8,.int .i64 v.k,.int .i64 v.n,.string (strB v.s),.string (strB x),.string (strB f),.slice (some ⟨g,o,none⟩) 2 c] 89 4 rfl);have m5:=zaa hb1 (tnew w #[.int .i64 8,.int .i64 v.k,.int .i64 v.n,.string (strB v.s),.string (strB x),.string (strB f),.slice (some ⟨g,o,none⟩) 2 c] 89 5 rfl);have m6:=zaa hb1 (tnew w #[.int .i64 8,.int .i64 v.k,.int .i64 v.n,.string (strB v.s),.string (strB x),.string (strB f),.slice (some ⟨g,o,none⟩) 2 c] 89 6 rfl);have y0:=zaa hB1 yc0;have y1:=zaa hB1 yc1;have y2:=zaa hB1 yc2;have y3:=zaa hB1 yc3;have y4:=zaa hB1 yc4;have y5:=zaa hB1 yc5;have y6:=zaa hB1 yc6;have HB1:=hid hB1;clear hb1 hB1)
    | (go_at_call 163;(with_reducible refine (H1.out _ HB1.out).mono ?_);rintro e w2 ⟨rfl,hb2⟩;have HB2:=hid (HB1.out.trans (hb2.mono HB1.out.size));clear hb2))
   go_ret
   exact ⟨rfl,HB2.out⟩
 | true =>
   go_enter Tryz.func163,Tryz.ntmps163
   go_wp2_with (first
    | (go_at_call 197;(with_reducible refine HBa.out.mono ?_);rintro e w1 ⟨rfl,hb1⟩;have hB1:=HB0.out.trans (hb1.mono HB0.out.size);have m0:=zaa hb1 (tnew w #[.int .i64 8,.int .i64 v.k,.int .i64 v.n,.string (strB v.s),.string (strB x),.string (strB f),.slice (some ⟨g,o,none⟩) 2 c] 89 0 rfl);have m1:=zaa hb1 (tnew w #[.int .i64 8,.int .i64 v.k,.int .i64 v.n,.string (strB v.s),.string (strB x),.string (strB f),.slice (some ⟨g,o,none⟩) 2 c] 89 1 rfl);have m2:=zaa hb1 (tnew w #[.int .i64 8,.int .i64 v.k,.int .i64 v.n,.string (strB v.s),.string (strB x),.string (strB f),.slice (some ⟨g,o,none⟩) 2 c] 89 2 rfl);have m3:=zaa hb1 (tnew w #[.int .i64 8,.int .i64 v.k,.int .i64 v.n,.string (strB v.s),.string (strB x),.string (strB f),.slice (some ⟨g,o,none⟩) 2 c] 89 3 rfl);have m4:=zaa hb1 (tnew w #[.int .i64 8,.int .i64 v.k,.int .i64 v.n,.string (strB v.s),.string (strB x),.string (strB f),.slice (some ⟨g,o,none⟩) 2 c] 89 4 rfl);have m5:=zaa hb1 (tnew w #[.int .i64 8,.int .i64 v.k,.int .i64 v.n,.string (strB v.s),.string (strB x),.string (strB f),.slice (some ⟨g,o,none⟩) 2 c] 89 5 rfl);have m6:=zaa hb1 (tnew w #[.int .i64 8,.int .i64 v.k,.int .i64 v.n,.string (strB v.s),.string (strB x),.string (strB f),.slice (some ⟨g,o,none⟩) 2 c] 89 6 rfl);have y0:=zaa hB1 yc0;have y1:=zaa hB1 yc1;have y2:=zaa hB1 yc2;have y3:=zaa hB1 yc3;have y4:=zaa hB1 yc4;have y5:=zaa hB1 yc5;have y6:=zaa hB1 yc6;have z0:=zaa hB1 zc0;have z1:=zaa hB1 zc1;have z2:=zaa hB1 zc2;have z3:=zaa hB1 zc3;have z4:=zaa hB1 zc4;have z5:=zaa hB1 zc5;have z6:=zaa hB1 zc6;have HB1:=hid hB1;clear hb1 hB1)
    | (go_at_call 163;(with_reducible refine (H1.out _ HB1.out).mono ?_);rintro e w2 ⟨rfl,hb2⟩;have z0':=zaa hb2 z0;have z1':=zaa hb2 z1;have z2':=zaa hb2 z2;have z3':=zaa hb2 z3;have z4':=zaa hb2 z4;have z5':=zaa hb2 z5;have z6':=zaa hb2 z6;have m6':=zaa hb2 m6;have HB2:=hid (HB1.out.trans (hb2.mono HB1.out.size));clear hb2)
    | (go_at_call 163;(with_reducible refine (H2.out _ HB2.out).mono ?_);rintro e w3 ⟨rfl,hb3⟩;have HB3:=hid (HB2.out.trans (hb3.mono HB2.out.size));clear hb3))
   go_ret
   exact ⟨zaJ (by cases r2 <;> rfl),HB3.out⟩
end
def twoB (r : PEx→Bool) : List PEx→Bool
 | [a,b]=>r a && r b
 | _=>false
theorem zaY (d : Nat) (k : Int) (v : PVal) (x f : List UInt8) (ks : List PEx) : rightX (d+1) (.mk k v x f ks) =
 if k=1 then decide (x=[]∧f=[]∧ks.length=0) && writeB v
 else if k=3 then decide (v=noV∧f=[]∧ks.length=0) && nameB x
 else if k=2∨k=4∨k=5∨k=6 then decide (v=noV∧ks.length=0) && (nameB x && nameB f)
 else if k=7∨k=8 then decide (v=noV∧x=[]∧f=[]) && twoB (rightX d) ks
 else false:=by
 match ks with
 | []=>rfl
 | [_]=>rfl
 | [_,_]=>rfl
 | _ :: _ :: _ :: _=>rfl
theorem zdp (d : Nat) (v : PVal) (x f : List UInt8) (ks : List PEx) : rightX (d+1) (.mk 1 v x f ks)=(decide (x=[]∧f=[]∧ks.length=0) && writeB v):=by rw [zaY,if_pos rfl]
theorem zce (d : Nat) (v : PVal) (x f : List UInt8) (ks : List PEx) : rightX (d+1) (.mk 3 v x f ks)=(decide (v=noV∧f=[]∧ks.length=0) && nameB x):=by rw [zaY,if_neg (by decide),if_pos rfl]
theorem zaO (d : Nat) (k : Int) (hk : k=2∨k=4∨k=5∨k=6) (v : PVal) (x f : List UInt8) (ks : List PEx) : rightX (d+1) (.mk k v x f ks)=(decide (v=noV∧ks.length=0) && (nameB x && nameB f)):=by rw [zaY,if_neg (by omega),if_neg (by omega),if_pos hk]
theorem zbB (d : Nat) (k : Int) (hk : k=7∨k=8) (v : PVal) (x f : List UInt8) (ks : List PEx) : rightX (d+1) (.mk k v x f ks)=(decide (v=noV∧x=[]∧f=[]) && twoB (rightX d) ks):=by rw [zaY,if_neg (by omega),if_neg (by omega),if_neg (by omega),if_pos hk]
theorem zcH (d : Nat) (k : Int) (h1 : k≠1) (h3 : k≠3) (h : ¬ (k=2∨k=4∨k=5∨k=6)) (h7 : ¬ (k=7∨k=8)) (v : PVal) (x f : List UInt8) (ks : List PEx) : rightX (d+1) (.mk k v x f ks)=false:=by rw [zaY,if_neg h1,if_neg h3,if_neg h,if_neg h7]
theorem zhk {ks : List PEx} (h : ks.length=2) : ∃ y z,ks=[y,z]:=by
 match ks,h with
 | [y,z],_=>exact ⟨y,z,rfl⟩
theorem zhl {r : PEx→Bool} {ks : List PEx} (h : ks.length≠2) : twoB r ks=false:=by
 match ks,h with
 | [],_=>rfl
 | [_],_=>rfl
 | [_,_],h=>exact absurd rfl h
 | _ :: _ :: _ :: _,_=>rfl
theorem zcI (d : Nat) (k : Int) (hk : k=7∨k=8) (v : PVal) (x f : List UInt8) (ks : List PEx) (h : decide (v=noV∧x=[]∧f=[]∧ks.length=2)=false) : rightX (d+1) (.mk k v x f ks)=false:=by
 rw [zbB d k hk]
 by_cases h2 : ks.length=2
 ·have : decide (v=noV∧x=[]∧f=[])=false:=by
   rw [decide_eq_false_iff_not] at h ⊢
   exact fun e=>h ⟨e.1,e.2.1,e.2.2,h2⟩
  rw [this];rfl
 ·rw [zhl h2,Bool.and_false]
theorem zaG {K : Nat→Prop} : ∀ (d : Nat) (_ : d≤100) (x : PEx) (_ : XBd x) (w : World) (e : Nat) (a : Option Addr) (c : Nat) (_ : ExK K w e (.slice a x.ks.length c) x.ks),Calls Tryz.prog 163 #[exV x (.slice a x.ks.length c),.int .i64 d] w fun e w'=>e=.returned (.bool (rightX d x))∧Below w.heap.size w w'
 | 0,_,x,_,w,e,a,c,_=>zju (w:=w) (a:=a) (c:=c) (n:=x.ks.length) (v:=x.v) (x:=x.x) (f:=x.f) x.k
 | d+1,hd,.mk k v x f ks,hb,w,e,a,c,h=>by
   obtain ⟨_,_,_,_,_,hv,hx,hf,hk⟩:=hb
   show Calls Tryz.prog 163 #[.agg #[.int .i64 k,.int .i64 v.k,.int .i64 v.n,.string (strB v.s),.string (strB x),.string (strB f),.slice a ks.length c],.int .i64 ((d+1 : Nat) : Int)] w _
   have h' : ExK K w e (.slice a ks.length c) ks:=h
   by_cases k1 : k=1
   ·subst k1
    rw [zdp]
    have hba:=fun W=>ziu (w:=W) (a:=a) (c:=c) (n:=ks.length) (vs:=v.s) (x:=x) (f:=f) (vk:=v.k) (vn:=v.n)
    cases hz : decide (x=[]∧f=[]∧ks.length=0) with
    | false =>
      rw [hz] at hba
      exact zbh (d+1) (Nat.succ_pos d) hd 1 hba
    | true =>
      rw [hz] at hba
      rw [Bool.true_and]
      exact zj6 (d+1) (Nat.succ_pos d) hd hba hv
   by_cases k3 : k=3
   ·subst k3
    rw [zce]
    have hba:=fun W=>zgx (w:=W) (a:=a) (c:=c) (n:=ks.length) (vs:=v.s) (x:=x) (f:=f) (vk:=v.k) (vn:=v.n)
    cases hz : decide (v=noV∧f=[]∧ks.length=0) with
    | false =>
      rw [show decide ((⟨v.k,v.n,v.s⟩ : PVal)=noV∧f=[]∧ks.length=0)=false from hz] at hba
      exact zbh (d+1) (Nat.succ_pos d) hd 3 hba
    | true =>
      rw [show decide ((⟨v.k,v.n,v.s⟩ : PVal)=noV∧f=[]∧ks.length=0)=true from hz] at hba
      rw [Bool.true_and]
      exact zit (d+1) (Nat.succ_pos d) hd hba hx
   by_cases k2 : k=2
   ·subst k2
    rw [zaO d 2 (by decide)]
    have hba:=fun W=>zgy (w:=W) (a:=a) (c:=c) (n:=ks.length) (vs:=v.s) (x:=x) (f:=f) (vk:=v.k) (vn:=v.n)
    cases hz : decide (v=noV∧ks.length=0) with
    | false =>
      rw [show decide ((⟨v.k,v.n,v.s⟩ : PVal)=noV∧ks.length=0)=false from hz] at hba
      exact zbh (d+1) (Nat.succ_pos d) hd 2 hba
    | true =>
      rw [show decide ((⟨v.k,v.n,v.s⟩ : PVal)=noV∧ks.length=0)=true from hz] at hba
      rw [Bool.true_and]
      exact zhm (d+1) (Nat.succ_pos d) hd hba hx hf
   by_cases k4 : k=4
   ·subst k4
    rw [zaO d 4 (by decide)]
    have hba:=fun W=>ziv (w:=W) (a:=a) (c:=c) (n:=ks.length) (vs:=v.s) (x:=x) (f:=f) (vk:=v.k) (vn:=v.n)
    cases hz : decide (v=noV∧ks.length=0) with
    | false =>
      rw [show decide ((⟨v.k,v.n,v.s⟩ : PVal)=noV∧ks.length=0)=false from hz] at hba
      exact zbh (d+1) (Nat.succ_pos d) hd 4 hba
    | true =>
      rw [show decide ((⟨v.k,v.n,v.s⟩ : PVal)=noV∧ks.length=0)=true from hz] at hba
      rw [Bool.true_and]
      exact zhn (d+1) (Nat.succ_pos d) hd hba hx hf
   by_cases k5 : k=5
   ·subst k5
    rw [zaO d 5 (by decide)]
    have hba:=fun W=>ziw (w:=W) (a:=a) (c:=c) (n:=ks.length) (vs:=v.s) (x:=x) (f:=f) (vk:=v.k) (vn:=v.n)
    cases hz : decide (v=noV∧ks.length=0) with
    | false =>
      rw [show decide ((⟨v.k,v.n,v.s⟩ : PVal)=noV∧ks.length=0)=false from hz] at hba
      exact zbh (d+1) (Nat.succ_pos d) hd 5 hba
    | true =>
      rw [show decide ((⟨v.k,v.n,v.s⟩ : PVal)=noV∧ks.length=0)=true from hz] at hba
      rw [Bool.true_and]
      exact zho (d+1) (Nat.succ_pos d) hd hba hx hf
   by_cases k6 : k=6
   ·subst k6
    rw [zaO d 6 (by decide)]
    have hba:=fun W=>zix (w:=W) (a:=a) (c:=c) (n:=ks.length) (vs:=v.s) (x:=x) (f:=f) (vk:=v.k) (vn:=v.n)
    cases hz : decide (v=noV∧ks.length=0) with
    | false =>
      rw [show decide ((⟨v.k,v.n,v.s⟩ : PVal)=noV∧ks.length=0)=false from hz] at hba
      exact zbh (d+1) (Nat.succ_pos d) hd 6 hba
    | true =>
      rw [show decide ((⟨v.k,v.n,v.s⟩ : PVal)=noV∧ks.length=0)=true from hz] at hba
      rw [Bool.true_and]
      exact zhp (d+1) (Nat.succ_pos d) hd hba hx hf
   by_cases k7 : k=7
   ·subst k7
    have hba:=fun W=>ziy (w:=W) (a:=a) (c:=c) (n:=ks.length) (vs:=v.s) (x:=x) (f:=f) (vk:=v.k) (vn:=v.n)
    cases hz : decide (v=noV∧x=[]∧f=[]∧ks.length=2) with
    | false =>
      rw [show decide ((⟨v.k,v.n,v.s⟩ : PVal)=noV∧x=[]∧f=[]∧ks.length=2)=false from hz] at hba
      rw [zcI d 7 (by decide) v x f ks hz]
      exact zbh (d+1) (Nat.succ_pos d) hd 7 hba
    | true =>
      rw [show decide ((⟨v.k,v.n,v.s⟩ : PVal)=noV∧x=[]∧f=[]∧ks.length=2)=true from hz] at hba
      rw [decide_eq_true_eq] at hz
      obtain ⟨z1,z2,z3,z4⟩:=hz
      obtain ⟨y,z,rfl⟩:=zhk z4
      cases e with
      | zero=>exact absurd h'.2 (by simp)
      | succ e =>
      obtain ⟨a',c',ea,hc⟩:=h'
      injection ea with ea1 ea2 ea3
      subst ea1
      obtain ⟨g,o,ky,rfl,_,⟨y0,y1,y2,y3,y4,y5,y6⟩,hky⟩:=hc 0 y rfl
      obtain ⟨g',o',kz,eg,_,⟨q0,q1,q2,q3,q4,q5,q6⟩,hkz⟩:=hc 1 z rfl
      injection eg with eg
      injection eg with eg1 eg2
      subst eg1 eg2
      obtain ⟨ay,cy,rfl⟩:=hky.slice
      obtain ⟨az,cz,rfl⟩:=hkz.slice
      simp only [Nat.zero_mul,Nat.one_mul,Nat.add_zero] at y0 y1 y2 y3 y4 y5 y6 q0 q1 q2 q3 q4 q5 q6
      have hd3 : decide (v=noV∧x=[]∧f=[])=true:=decide_eq_true ⟨z1,z2,z3⟩
      rw [zbB d 7 (by decide),hd3,Bool.true_and,show twoB (rightX d) [y,z]=(rightX d y && rightX d z) from rfl]
      clear hd3 z1 z2 z3
      have hcast : (((d+1 : Nat) : Int) - 1)=(d : Int):=by omega
      exact zjv (v:=v) (x:=x) (f:=f) (c:=c) (d+1) (Nat.succ_pos d) hd hba (rightX d y) (rightX d z) y0 y1 y2 y3 y4 y5 y6 q0 q1 q2 q3 q4 q5 q6
       (fun W hW=>by rw [hcast];exact zaG d (by omega) y (hk y (by simp)) W e ay cy (hky.keep (TFr.of_below hW)))
       (fun W hW=>by rw [hcast];exact zaG d (by omega) z (hk z (by simp)) W e az cz (hkz.keep (TFr.of_below hW)))
   by_cases k8 : k=8
   ·subst k8
    have hba:=fun W=>ziz (w:=W) (a:=a) (c:=c) (n:=ks.length) (vs:=v.s) (x:=x) (f:=f) (vk:=v.k) (vn:=v.n)
    cases hz : decide (v=noV∧x=[]∧f=[]∧ks.length=2) with
    | false =>
      rw [show decide ((⟨v.k,v.n,v.s⟩ : PVal)=noV∧x=[]∧f=[]∧ks.length=2)=false from hz] at hba
      rw [zcI d 8 (by decide) v x f ks hz]
      exact zbh (d+1) (Nat.succ_pos d) hd 8 hba
    | true =>
      rw [show decide ((⟨v.k,v.n,v.s⟩ : PVal)=noV∧x=[]∧f=[]∧ks.length=2)=true from hz] at hba
      rw [decide_eq_true_eq] at hz
      obtain ⟨z1,z2,z3,z4⟩:=hz
      obtain ⟨y,z,rfl⟩:=zhk z4
      cases e with
      | zero=>exact absurd h'.2 (by simp)
      | succ e =>
      obtain ⟨a',c',ea,hc⟩:=h'
      injection ea with ea1 ea2 ea3
      subst ea1
      obtain ⟨g,o,ky,rfl,_,⟨y0,y1,y2,y3,y4,y5,y6⟩,hky⟩:=hc 0 y rfl
      obtain ⟨g',o',kz,eg,_,⟨q0,q1,q2,q3,q4,q5,q6⟩,hkz⟩:=hc 1 z rfl
      injection eg with eg
      injection eg with eg1 eg2
      subst eg1 eg2
      obtain ⟨ay,cy,rfl⟩:=hky.slice
      obtain ⟨az,cz,rfl⟩:=hkz.slice
      simp only [Nat.zero_mul,Nat.one_mul,Nat.add_zero] at y0 y1 y2 y3 y4 y5 y6 q0 q1 q2 q3 q4 q5 q6
      have hd3 : decide (v=noV∧x=[]∧f=[])=true:=decide_eq_true ⟨z1,z2,z3⟩
      rw [zbB d 8 (by decide),hd3,Bool.true_and,show twoB (rightX d) [y,z]=(rightX d y && rightX d z) from rfl]
      clear hd3 z1 z2 z3
      have hcast : (((d+1 : Nat) : Int) - 1)=(d : Int):=by omega
      exact zjw (v:=v) (x:=x) (f:=f) (c:=c) (d+1) (Nat.succ_pos d) hd hba (rightX d y) (rightX d z) y0 y1 y2 y3 y4 y5 y6 q0 q1 q2 q3 q4 q5 q6
       (fun W hW=>by rw [hcast];exact zaG d (by omega) y (hk y (by simp)) W e ay cy (hky.keep (TFr.of_below hW)))
       (fun W hW=>by rw [hcast];exact zaG d (by omega) z (hk z (by simp)) W e az cz (hkz.keep (TFr.of_below hW)))
   rw [zcH d k k1 k3 (by omega) (by omega)]
   exact zbh (d+1) (Nat.succ_pos d) hd k (fun W=>zhq k1 k2 k3 k4 k5 k6 k7 k8)
def PrB (p : PPr) : Prop:=XBd p.l∧XBd p.r
def QuB (q : PQu) : Prop:=(∀ i∈q.its,ItB i)∧(∀ p∈q.prs,PrB p)∧q.by_.length≤1000000
section
variable {w : World} {a b : Option Addr} {q c r d : Nat} {p : PPr}
theorem zj5 (h1 : p.cmp < 1) : Calls Tryz.prog 162 #[.agg #[.int .i64 p.cmp,.int .i64 p.l.k,.int .i64 p.l.v.k,.int .i64 p.l.v.n,.string (strB p.l.v.s),.string (strB p.l.x),.string (strB p.l.f),.slice a q c,.int .i64 p.r.k,.int .i64 p.r.v.k,.int .i64 p.r.v.n,.string (strB p.r.v.s),.string (strB p.r.x),.string (strB p.r.f),.slice b r d]] w fun e w'=>e=.returned (.bool true)∧Below w.heap.size w w':=by
 have hb0:=(Below.refl w.heap.size w).alloc (Nat.le_refl _) (.cells #[.int .i64 p.cmp,.int .i64 p.l.k,.int .i64 p.l.v.k,.int .i64 p.l.v.n,.string (strB p.l.v.s),.string (strB p.l.x),.string (strB p.l.f),.slice a q c,.int .i64 p.r.k,.int .i64 p.r.v.k,.int .i64 p.r.v.n,.string (strB p.r.v.s),.string (strB p.r.x),.string (strB p.r.f),.slice b r d] 91)
 have HB0:=hid hb0
 have t1 : decide (p.cmp < 1)=true:=decide_eq_true h1
 clear h1 hb0
 go_enter Tryz.func162,Tryz.ntmps162
 go_wp2
 go_ret
 exact ⟨rfl,HB0.out⟩
theorem zjt (h1 : ¬ p.cmp < 1) (h2 : 6 < p.cmp) : Calls Tryz.prog 162 #[.agg #[.int .i64 p.cmp,.int .i64 p.l.k,.int .i64 p.l.v.k,.int .i64 p.l.v.n,.string (strB p.l.v.s),.string (strB p.l.x),.string (strB p.l.f),.slice a q c,.int .i64 p.r.k,.int .i64 p.r.v.k,.int .i64 p.r.v.n,.string (strB p.r.v.s),.string (strB p.r.x),.string (strB p.r.f),.slice b r d]] w fun e w'=>e=.returned (.bool true)∧Below w.heap.size w w':=by
 have hb0:=(Below.refl w.heap.size w).alloc (Nat.le_refl _) (.cells #[.int .i64 p.cmp,.int .i64 p.l.k,.int .i64 p.l.v.k,.int .i64 p.l.v.n,.string (strB p.l.v.s),.string (strB p.l.x),.string (strB p.l.f),.slice a q c,.int .i64 p.r.k,.int .i64 p.r.v.k,.int .i64 p.r.v.n,.string (strB p.r.v.s),.string (strB p.r.x),.string (strB p.r.f),.slice b r d] 91)
 have HB0:=hid hb0
 have t1 : decide (p.cmp < 1)=false:=decide_eq_false h1
 have t2 : decide (6 < p.cmp)=true:=decide_eq_true h2
 clear h1 h2 hb0
 go_enter Tryz.func162,Tryz.ntmps162
 go_wp2
 go_ret
 exact ⟨rfl,HB0.out⟩
theorem zis (h1 : ¬ p.cmp < 1) (h2 : ¬ 6 < p.cmp) (z1 z2 : Bool) (hl : ∀ W,Below w.heap.size w W→Calls Tryz.prog 163 #[exV p.l (.slice a q c),.int .i64 6] W fun e w'=>e=.returned (.bool z1)∧Below W.heap.size W w') (hr : ∀ W,Below w.heap.size w W→Calls Tryz.prog 163 #[exV p.r (.slice b r d),.int .i64 6] W fun e w'=>e=.returned (.bool z2)∧Below W.heap.size W w') : Calls Tryz.prog 162 #[.agg #[.int .i64 p.cmp,.int .i64 p.l.k,.int .i64 p.l.v.k,.int .i64 p.l.v.n,.string (strB p.l.v.s),.string (strB p.l.x),.string (strB p.l.f),.slice a q c,.int .i64 p.r.k,.int .i64 p.r.v.k,.int .i64 p.r.v.n,.string (strB p.r.v.s),.string (strB p.r.x),.string (strB p.r.f),.slice b r d]] w fun e w'=>e=.returned (.bool (!(z1 && z2)))∧Below w.heap.size w w':=by
 have hb0:=(Below.refl w.heap.size w).alloc (Nat.le_refl _) (.cells #[.int .i64 p.cmp,.int .i64 p.l.k,.int .i64 p.l.v.k,.int .i64 p.l.v.n,.string (strB p.l.v.s),.string (strB p.l.x),.string (strB p.l.f),.slice a q c,.int .i64 p.r.k,.int .i64 p.r.v.k,.int .i64 p.r.v.n,.string (strB p.r.v.s),.string (strB p.r.x),.string (strB p.r.f),.slice b r d] 91)
 have HB0:=hid hb0
 have t1 : decide (p.cmp < 1)=false:=decide_eq_false h1
 have t2 : decide (6 < p.cmp)=false:=decide_eq_false h2
 have H1:=hid (hl _ hb0)
 have H2:=hid hr
 simp only [xexV] at H1 H2
 clear h1 h2 hb0 hl hr
 cases z1 with
 | false =>
   go_enter Tryz.func162,Tryz.ntmps162
   go_wp2_with (go_at_call 163;(with_reducible refine H1.out.mono ?_);rintro e w1 ⟨rfl,hb1⟩;have HB1:=hid (HB0.out.trans (hb1.mono HB0.out.size));clear hb1)
   go_ret
   exact ⟨rfl,HB1.out⟩
 | true =>
   go_enter Tryz.func162,Tryz.ntmps162
   go_wp2_with (first
    | (go_at_call 163;(with_reducible refine H1.out.mono ?_);rintro e w1 ⟨rfl,hb1⟩;have m8:=zaa hb1 (tnew w #[.int .i64 p.cmp,.int .i64 p.l.k,.int .i64 p.l.v.k,.int .i64 p.l.v.n,.string (strB p.l.v.s),.string (strB p.l.x),.string (strB p.l.f),.slice a q c,.int .i64 p.r.k,.int .i64 p.r.v.k,.int .i64 p.r.v.n,.string (strB p.r.v.s),.string (strB p.r.x),.string (strB p.r.f),.slice b r d] 91 8 rfl);have m9:=zaa hb1 (tnew w #[.int .i64 p.cmp,.int .i64 p.l.k,.int .i64 p.l.v.k,.int .i64 p.l.v.n,.string (strB p.l.v.s),.string (strB p.l.x),.string (strB p.l.f),.slice a q c,.int .i64 p.r.k,.int .i64 p.r.v.k,.int .i64 p.r.v.n,.string (strB p.r.v.s),.string (strB p.r.x),.string (strB p.r.f),.slice b r d] 91 9 rfl);have m10:=zaa hb1 (tnew w #[.int .i64 p.cmp,.int .i64 p.l.k,.int .i64 p.l.v.k,.int .i64 p.l.v.n,.string (strB p.l.v.s),.string (strB p.l.x),.string (strB p.l.f),.slice a q c,.int .i64 p.r.k,.int .i64 p.r.v.k,.int .i64 p.r.v.n,.string (strB p.r.v.s),.string (strB p.r.x),.string (strB p.r.f),.slice b r d] 91 10 rfl);have m11:=zaa hb1 (tnew w #[.int .i64 p.cmp,.int .i64 p.l.k,.int .i64 p.l.v.k,.int .i64 p.l.v.n,.string (strB p.l.v.s),.string (strB p.l.x),.string (strB p.l.f),.slice a q c,.int .i64 p.r.k,.int .i64 p.r.v.k,.int .i64 p.r.v.n,.string (strB p.r.v.s),.string (strB p.r.x),.string (strB p.r.f),.slice b r d] 91 11 rfl);have m12:=zaa hb1 (tnew w #[.int .i64 p.cmp,.int .i64 p.l.k,.int .i64 p.l.v.k,.int .i64 p.l.v.n,.string (strB p.l.v.s),.string (strB p.l.x),.string (strB p.l.f),.slice a q c,.int .i64 p.r.k,.int .i64 p.r.v.k,.int .i64 p.r.v.n,.string (strB p.r.v.s),.string (strB p.r.x),.string (strB p.r.f),.slice b r d] 91 12 rfl);have m13:=zaa hb1 (tnew w #[.int .i64 p.cmp,.int .i64 p.l.k,.int .i64 p.l.v.k,.int .i64 p.l.v.n,.string (strB p.l.v.s),.string (strB p.l.x),.string (strB p.l.f),.slice a q c,.int .i64 p.r.k,.int .i64 p.r.v.k,.int .i64 p.r.v.n,.string (strB p.r.v.s),.string (strB p.r.x),.string (strB p.r.f),.slice b r d] 91 13 rfl);have m14:=zaa hb1 (tnew w #[.int .i64 p.cmp,.int .i64 p.l.k,.int .i64 p.l.v.k,.int .i64 p.l.v.n,.string (strB p.l.v.s),.string (strB p.l.x),.string (strB p.l.f),.slice a q c,.int .i64 p.r.k,.int .i64 p.r.v.k,.int .i64 p.r.v.n,.string (strB p.r.v.s),.string (strB p.r.x),.string (strB p.r.f),.slice b r d] 91 14 rfl);have HB1:=hid (HB0.out.trans (hb1.mono HB0.out.size));clear hb1)
    | (go_at_call 163;(with_reducible refine (H2.out _ HB1.out).mono ?_);rintro e w2 ⟨rfl,hb2⟩;have HB2:=hid (HB1.out.trans (hb2.mono HB1.out.size));clear hb2))
   go_ret
   exact ⟨zaJ (by cases z2 <;> rfl),HB2.out⟩
theorem zdK {K : Nat→Prop} {e1 e2 : Nat} (hb : PrB p) (h1 : ExK K w e1 (.slice a p.l.ks.length c) p.l.ks) (h2 : ExK K w e2 (.slice b p.r.ks.length d) p.r.ks) (hq : q=p.l.ks.length) (hr : r=p.r.ks.length) :
 Calls Tryz.prog 162 #[.agg #[.int .i64 p.cmp,.int .i64 p.l.k,.int .i64 p.l.v.k,.int .i64 p.l.v.n,.string (strB p.l.v.s),.string (strB p.l.x),.string (strB p.l.f),.slice a q c,.int .i64 p.r.k,.int .i64 p.r.v.k,.int .i64 p.r.v.n,.string (strB p.r.v.s),.string (strB p.r.x),.string (strB p.r.f),.slice b r d]] w fun e w'=>e=.returned (.bool (!rightP p))∧Below w.heap.size w w':=by
 subst hq hr
 unfold rightP
 by_cases l1 : p.cmp < 1
 ·rw [show decide (1≤p.cmp∧p.cmp≤6)=false by simp;omega]
  exact zj5 l1
 by_cases l2 : 6 < p.cmp
 ·rw [show decide (1≤p.cmp∧p.cmp≤6)=false by simp;omega]
  exact zjt l1 l2
 rw [show decide (1≤p.cmp∧p.cmp≤6)=true by simp;omega,Bool.true_and]
 exact zis l1 l2 _ _ (fun W hW=>zaG 6 (by decide) p.l hb.1 W e1 a c (h1.keep (TFr.of_below hW))) (fun W hW=>zaG 6 (by decide) p.r hb.2 W e2 b d (h2.keep (TFr.of_below hW)))
end
theorem RowK.predAt {K : Nat→Prop} {w : World} {a : Option Addr} {n c : Nat} {l : List PPr} (h : RowK predD K w (.slice a n c) l) {j : Nat} {p : PPr} (hj : l[j]?=some p) : ∃ g o a1 q c1 b1 r d1 e,a=some ⟨g,o,none⟩∧(∀ k u,(#[.int .i64 p.cmp,.int .i64 p.l.k,.int .i64 p.l.v.k,.int .i64 p.l.v.n,.string (strB p.l.v.s),.string (strB p.l.x),.string (strB p.l.f),.slice a1 q c1,.int .i64 p.r.k,.int .i64 p.r.v.k,.int .i64 p.r.v.n,.string (strB p.r.v.s),.string (strB p.r.x),.string (strB p.r.f),.slice b1 r d1] : Array Value)[k]?=some u→w.cell? ⟨g,o+j*15+k,none⟩=some u)∧q=p.l.ks.length∧r=p.r.ks.length∧ExK K w e (.slice a1 p.l.ks.length c1) p.l.ks∧ExK K w e (.slice b1 p.r.ks.length d1) p.r.ks:=by
 obtain ⟨a',c',e,_,h⟩:=h
 injection e with e1 e2 e3
 obtain ⟨g,o,cs,ea,hg,⟨a1,q,c1,b1,r,d1,e,hcs,hl,hr⟩,hc⟩:=h j p hj
 subst hcs
 obtain ⟨a2,c2,e4⟩:=hl.slice
 obtain ⟨a3,c3,e5⟩:=hr.slice
 injection e4 with e41 e42 e43
 injection e5 with e51 e52 e53
 rw [e42] at hl
 rw [e52] at hr
 exact ⟨g,o,a1,q,c1,b1,r,d1,e,e1.trans ea,fun k u hu=>hc k u (by simpa [exL] using hu),e42,e52,hl,hr⟩
theorem zej {K : Nat→Prop} {w : World} {a : Option Addr} {c : Nat} {l : List PPr} (h : RowK predD K w (.slice a l.length c) l) (hl : l.length≤1000000) (hbd : ∀ p∈l,PrB p) :
 Calls Tryz.prog 199 #[.slice a l.length c,.func (.func 162) #[] #[]] w fun e w'=>∃ i : Int,e=.returned (.int .i64 i)∧(0≤i ↔ l.all rightP=false)∧Below w.heap.size w w':=by
 have H:=hid h
 obtain ⟨n,hn⟩ : ∃ n,l.length=n:=⟨_,rfl⟩
 have HN:=hid hn
 have HBD:=hid hbd
 obtain ⟨z,hz⟩ : ∃ z,l.all rightP=z:=⟨_,rfl⟩
 have HZ:=hid hz
 rw [hz]
 rw [hn] at hl ⊢
 clear h hn hbd hz
 go_enter Tryz.func199,Tryz.ntmps199
 go_wp2
 go_loopw [8] (fun k wr=>∃ j : Nat,k=.int .i64 j∧j≤n∧Hid (∀ p∈l.take j,rightP p=true)∧Hid (Below w.heap.size w wr)) (fun k _=>n - (RowKit.intOf k).toNat)
 case atStart=>exact ⟨0,rfl,Nat.zero_le _,fun p hp=>(by simp at hp),Below.refl _ _⟩
 case round =>
  obtain ⟨j,rfl,hj,HA,HB⟩:=hrel
  by_cases hlt : j < n
  ·obtain ⟨p,hp⟩ : ∃ p,l[j]?=some p:=⟨_,List.getElem?_eq_getElem (by rw [HN.out];exact hlt)⟩
   obtain ⟨g,o,a1,q,c1,b1,r,d1,ed,rfl,hcell,hq,hr,h1,h2⟩:=(H.out.low HB.out).predAt hp
   have HP:=hid (zdK (w:=wr) (q:=q) (r:=r) (HBD.out p (List.mem_of_getElem? hp)) h1 h2 hq hr)
   have m0:=hcell 0 _ rfl
   have m1:=hcell 1 _ rfl
   have m2:=hcell 2 _ rfl
   have m3:=hcell 3 _ rfl
   have m4:=hcell 4 _ rfl
   have m5:=hcell 5 _ rfl
   have m6:=hcell 6 _ rfl
   have m7:=hcell 7 _ rfl
   have m8:=hcell 8 _ rfl
   have m9:=hcell 9 _ rfl
   have m10:=hcell 10 _ rfl
   have m11:=hcell 11 _ rfl
   have m12:=hcell 12 _ rfl
   have m13:=hcell 13 _ rfl
   have m14:=hcell 14 _ rfl
   have HJ:=hid hp
   obtain ⟨t,ht⟩ : ∃ t,rightP p=t:=⟨_,rfl⟩
   rw [ht] at HP
   have HT:=hid ht
   clear hp hcell hq hr h1 h2 ht
   simp only [Nat.add_zero] at m0
   cases t with
   | false =>
     have hz0 : z=false:=HZ.out.symm.trans (List.all_eq_false.2 ⟨p,List.mem_of_getElem? HJ.out,by rw [HT.out];simp⟩)
     subst hz0
     go_wp2_with (go_at_call 162;(with_reducible refine HP.out.mono ?_);rintro e w1 ⟨rfl,hb1⟩;have HB1:=hid (HB.out.trans (hb1.mono HB.out.size));clear hb1)
     go_ret
     exact ⟨_,rfl,by simp,HB1.out⟩
   | true =>
     have HA2 : Hid (∀ p∈l.take (j+1),rightP p=true):=fun x hx=>by
      rw [List.take_add_one,HJ.out] at hx
      rcases List.mem_append.1 hx with hx|hx
      ·exact HA.out x hx
      ·obtain rfl : x=p:=by simpa using hx
       exact HT.out
     go_wp2_with (go_at_call 162;(with_reducible refine HP.out.mono ?_);rintro e w1 ⟨rfl,hb1⟩;have HB1:=hid (HB.out.trans (hb1.mono HB.out.size));clear hb1)
     go_round
     case rel=>exact ⟨j+1,by go_num,by omega,HA2,HB1⟩
     case measure=>simp [RowKit.intOf];omega
  ·have hz2 : z=true:=by
    rw [← HZ.out]
    exact List.all_eq_true.2 (fun p hp=>HA.out p (by rw [show j=l.length by rw [HN.out];omega,List.take_length];exact hp))
   subst hz2
   go_wp2
   go_ret
   exact ⟨-1,rfl,by simp,HB.out⟩
end Go.Proofs.YtkmlfkbpcgkpaaaGreatDoor
