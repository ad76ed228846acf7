/- Texts that others want. -/
import Derived.Test.YtkmlfkbpcgkpaaaGreatDoorM1
import Derived.Test.YtkmlfkbpcgkpaaaGreatDoorM2
import Derived.ProofKit
import Derived.OpenShut
import Derived.ShutString
import Derived.Deep.Strs
import Derived.SizedLaws
import Derived.Test.YtkmlfkbpcgkpaaaGreatDoorTie
import Derived.Test.YtkmlfkbpcgkpaaaGreatDoorCards
import Derived.LaidMore
import Derived.LaidLaws
import Derived.ChangeOld
import Derived.Stop.Joined
import Derived.Lib.SmallJoins
import Derived.Lib.LaidTab
import Derived.SevenTiedAt
import Derived.Test.YtkmlfkbpcgkpaaaGreatDoorWL6x
import Derived.Deep.RegionHeld3
import Derived.Test.YtkmlfkbpcgkpaaaGreatDoorWTSJ
import Derived.Lib.AppendIntMem
import Derived.Lib.ItoaLen
import Derived.LaidEql
import Derived.Maps.Keyed
namespace Go.Proofs.YtkmlfkbpcgkpaaaGreatDoor
open Go.RowKit Go.Lib Go.Op
set_option maxHeartbeats 8000000
set_option maxRecDepth 100000
theorem zcG {K : Nat→Prop} {w : World} {a : Option Addr} {c : Nat} {l : List PPr} (h : RowK predD K w (.slice a l.length c) l) (hl : l.length≤1000000) (hbd : ∀ p∈l,PrB p) :
 Calls Tryz.prog 164 #[.slice a l.length c,.func (.func 162) #[] #[]] w fun e w'=>e=.returned (.bool (!(l.all rightP)))∧Below w.heap.size w w':=by
 have HI:=hid (zej h hl hbd)
 obtain ⟨n,hn⟩ : ∃ n,l.length=n:=⟨_,rfl⟩
 obtain ⟨z,hz⟩ : ∃ z,l.all rightP=z:=⟨_,rfl⟩
 rw [hz] at HI ⊢
 rw [hn] at HI ⊢
 clear h hl hbd hn hz
 go_enter Tryz.func164,Tryz.ntmps164
 go_wp2_with fail
 with_reducible refine HI.out.mono ?_
 rintro e w1 ⟨i,rfl,hi,hb⟩
 have HB:=hid hb
 cases z with
 | false =>
   have t0 : decide (0≤i)=true:=decide_eq_true (hi.2 rfl)
   clear hb hi
   go_wp2
   go_ret
   exact ⟨rfl,HB.out⟩
 | true =>
   have t0 : decide (0≤i)=false:=decide_eq_false (fun h=>by have:=hi.1 h;simp at this)
   clear hb hi
   go_wp2
   go_ret
   exact ⟨rfl,HB.out⟩
theorem zcp {K : Nat→Prop} {w : World} {a : Option Addr} {c : Nat} {l : List PPr} (h : RowK predD K w (.slice a l.length c) l) (hbd : ∀ p∈l,PrB p) :
 Calls Tryz.prog 101 #[.slice a l.length c] w fun e w'=>e=.returned (.bool (decide (l.length≤8) && l.all rightP))∧Below w.heap.size w w':=by
 by_cases h8 : l.length≤8
 ·have HC:=hid (zcG h (by omega) hbd)
  rw [decide_eq_true h8,Bool.true_and]
  obtain ⟨n,hn⟩ : ∃ n,l.length=n:=⟨_,rfl⟩
  obtain ⟨z,hz⟩ : ∃ z,l.all rightP=z:=⟨_,rfl⟩
  rw [hz] at HC ⊢
  rw [hn] at HC h8 ⊢
  have t0 : decide ((n : Int)≤8)=true:=decide_eq_true (by omega)
  clear h hbd hn hz
  go_enter Tryz.func101,Tryz.ntmps101
  go_wp2_with (go_at_call 164;(with_reducible refine HC.out.mono ?_);rintro e w1 ⟨rfl,hb⟩;have HB:=hid hb;clear hb)
  go_ret
  exact ⟨zaJ (by cases z <;> rfl),HB.out⟩
 ·rw [decide_eq_false h8,Bool.false_and]
  obtain ⟨n,hn⟩ : ∃ n,l.length=n:=⟨_,rfl⟩
  rw [hn] at h8 ⊢
  have t0 : decide ((n : Int)≤8)=false:=decide_eq_false (by omega)
  clear h hbd hn
  go_enter Tryz.func101,Tryz.ntmps101
  go_wp2
  go_ret
  exact ⟨rfl,Below.refl _ _⟩
section
variable {w : World} {a b : Option Addr} {q c r d : Nat} {wi pk : Int} {bb : List UInt8}
theorem zin (hI : ∀ W,Below w.heap.size w W→Calls Tryz.prog 100 #[.slice a q c] W fun e w'=>e=.returned (.bool false)∧Below W.heap.size W w') : Calls Tryz.prog 66 #[.agg #[.slice a q c,.slice b r d,.int .i64 wi,.string (strB bb),.int .i64 pk]] w fun e w'=>e=.returned (.bool false)∧Below w.heap.size w w':=by
 have hb0:=(Below.refl w.heap.size w).alloc (Nat.le_refl _) (.cells #[.slice a q c,.slice b r d,.int .i64 wi,.string (strB bb),.int .i64 pk] 26)
 have HB0:=hid hb0
 have HI:=hid (hI _ hb0)
 clear hI hb0
 go_enter Tryz.func66,Tryz.ntmps66
 go_wp2_with (go_at_call 100;(with_reducible refine HI.out.mono ?_);rintro e w1 ⟨rfl,hb1⟩;have m1:=zaa hb1 (tnew w #[.slice a q c,.slice b r d,.int .i64 wi,.string (strB bb),.int .i64 pk] 26 1 rfl);have m2:=zaa hb1 (tnew w #[.slice a q c,.slice b r d,.int .i64 wi,.string (strB bb),.int .i64 pk] 26 2 rfl);have m3:=zaa hb1 (tnew w #[.slice a q c,.slice b r d,.int .i64 wi,.string (strB bb),.int .i64 pk] 26 3 rfl);have m4:=zaa hb1 (tnew w #[.slice a q c,.slice b r d,.int .i64 wi,.string (strB bb),.int .i64 pk] 26 4 rfl);have HB1:=hid (HB0.out.trans (hb1.mono HB0.out.size));clear hb1)
 go_ret
 exact ⟨rfl,HB1.out⟩
theorem zio (hI : ∀ W,Below w.heap.size w W→Calls Tryz.prog 100 #[.slice a q c] W fun e w'=>e=.returned (.bool true)∧Below W.heap.size W w') (hP : ∀ W,Below w.heap.size w W→Calls Tryz.prog 101 #[.slice b r d] W fun e w'=>e=.returned (.bool false)∧Below W.heap.size W w') : Calls Tryz.prog 66 #[.agg #[.slice a q c,.slice b r d,.int .i64 wi,.string (strB bb),.int .i64 pk]] w fun e w'=>e=.returned (.bool false)∧Below w.heap.size w w':=by
 have hb0:=(Below.refl w.heap.size w).alloc (Nat.le_refl _) (.cells #[.slice a q c,.slice b r d,.int .i64 wi,.string (strB bb),.int .i64 pk] 26)
 have HB0:=hid hb0
 have HI:=hid (hI _ hb0)
 have HP:=hid hP
 clear hI hb0 hP
 go_enter Tryz.func66,Tryz.ntmps66
 go_wp2_with (first
  | (go_at_call 100;(with_reducible refine HI.out.mono ?_);rintro e w1 ⟨rfl,hb1⟩;have m1:=zaa hb1 (tnew w #[.slice a q c,.slice b r d,.int .i64 wi,.string (strB bb),.int .i64 pk] 26 1 rfl);have m2:=zaa hb1 (tnew w #[.slice a q c,.slice b r d,.int .i64 wi,.string (strB bb),.int .i64 pk] 26 2 rfl);have m3:=zaa hb1 (tnew w #[.slice a q c,.slice b r d,.int .i64 wi,.string (strB bb),.int .i64 pk] 26 3 rfl);have m4:=zaa hb1 (tnew w #[.slice a q c,.slice b r d,.int .i64 wi,.string (strB bb),.int .i64 pk] 26 4 rfl);have HB1:=hid (HB0.out.trans (hb1.mono HB0.out.size));clear hb1)
  | (go_at_call 101;(with_reducible refine (HP.out _ HB1.out).mono ?_);rintro e w2 ⟨rfl,hb2⟩;have n1:=zaa hb2 m1;have n2:=zaa hb2 m2;have n3:=zaa hb2 m3;have n4:=zaa hb2 m4;have HB2:=hid (HB1.out.trans (hb2.mono HB1.out.size));clear hb2))
 go_ret
 exact ⟨rfl,HB2.out⟩
theorem zj2 (hI : ∀ W,Below w.heap.size w W→Calls Tryz.prog 100 #[.slice a q c] W fun e w'=>e=.returned (.bool true)∧Below W.heap.size W w') (hP : ∀ W,Below w.heap.size w W→Calls Tryz.prog 101 #[.slice b r d] W fun e w'=>e=.returned (.bool true)∧Below W.heap.size W w') (h1 : ¬ 0≤wi) : Calls Tryz.prog 66 #[.agg #[.slice a q c,.slice b r d,.int .i64 wi,.string (strB bb),.int .i64 pk]] w fun e w'=>e=.returned (.bool false)∧Below w.heap.size w w':=by
 have hb0:=(Below.refl w.heap.size w).alloc (Nat.le_refl _) (.cells #[.slice a q c,.slice b r d,.int .i64 wi,.string (strB bb),.int .i64 pk] 26)
 have HB0:=hid hb0
 have HI:=hid (hI _ hb0)
 have HP:=hid hP
 have t1 : decide (0≤wi)=false:=decide_eq_false h1
 clear h1
 clear hI hb0 hP
 go_enter Tryz.func66,Tryz.ntmps66
 go_wp2_with (first
  | (go_at_call 100;(with_reducible refine HI.out.mono ?_);rintro e w1 ⟨rfl,hb1⟩;have m1:=zaa hb1 (tnew w #[.slice a q c,.slice b r d,.int .i64 wi,.string (strB bb),.int .i64 pk] 26 1 rfl);have m2:=zaa hb1 (tnew w #[.slice a q c,.slice b r d,.int .i64 wi,.string (strB bb),.int .i64 pk] 26 2 rfl);have m3:=zaa hb1 (tnew w #[.slice a q c,.slice b r d,.int .i64 wi,.string (strB bb),.int .i64 pk] 26 3 rfl);have m4:=zaa hb1 (tnew w #[.slice a q c,.slice b r d,.int .i64 wi,.string (strB bb),.int .i64 pk] 26 4 rfl);have HB1:=hid (HB0.out.trans (hb1.mono HB0.out.size));clear hb1)
  | (go_at_call 101;(with_reducible refine (HP.out _ HB1.out).mono ?_);rintro e w2 ⟨rfl,hb2⟩;have n1:=zaa hb2 m1;have n2:=zaa hb2 m2;have n3:=zaa hb2 m3;have n4:=zaa hb2 m4;have HB2:=hid (HB1.out.trans (hb2.mono HB1.out.size));clear hb2))
 go_ret
 exact ⟨rfl,HB2.out⟩
theorem zjp (hI : ∀ W,Below w.heap.size w W→Calls Tryz.prog 100 #[.slice a q c] W fun e w'=>e=.returned (.bool true)∧Below W.heap.size W w') (hP : ∀ W,Below w.heap.size w W→Calls Tryz.prog 101 #[.slice b r d] W fun e w'=>e=.returned (.bool true)∧Below W.heap.size W w') (h1 : 0≤wi) (h2 : ¬ wi≤1099511627776) : Calls Tryz.prog 66 #[.agg #[.slice a q c,.slice b r d,.int .i64 wi,.string (strB bb),.int .i64 pk]] w fun e w'=>e=.returned (.bool false)∧Below w.heap.size w w':=by
 have hb0:=(Below.refl w.heap.size w).alloc (Nat.le_refl _) (.cells #[.slice a q c,.slice b r d,.int .i64 wi,.string (strB bb),.int .i64 pk] 26)
 have HB0:=hid hb0
 have HI:=hid (hI _ hb0)
 have HP:=hid hP
 have t1 : decide (0≤wi)=true:=decide_eq_true h1
 have t2 : decide (wi≤1099511627776)=false:=decide_eq_false h2
 clear h1 h2
 clear hI hb0 hP
 go_enter Tryz.func66,Tryz.ntmps66
 go_wp2_with (first
  | (go_at_call 100;(with_reducible refine HI.out.mono ?_);rintro e w1 ⟨rfl,hb1⟩;have m1:=zaa hb1 (tnew w #[.slice a q c,.slice b r d,.int .i64 wi,.string (strB bb),.int .i64 pk] 26 1 rfl);have m2:=zaa hb1 (tnew w #[.slice a q c,.slice b r d,.int .i64 wi,.string (strB bb),.int .i64 pk] 26 2 rfl);have m3:=zaa hb1 (tnew w #[.slice a q c,.slice b r d,.int .i64 wi,.string (strB bb),.int .i64 pk] 26 3 rfl);have m4:=zaa hb1 (tnew w #[.slice a q c,.slice b r d,.int .i64 wi,.string (strB bb),.int .i64 pk] 26 4 rfl);have HB1:=hid (HB0.out.trans (hb1.mono HB0.out.size));clear hb1)
  | (go_at_call 101;(with_reducible refine (HP.out _ HB1.out).mono ?_);rintro e w2 ⟨rfl,hb2⟩;have n1:=zaa hb2 m1;have n2:=zaa hb2 m2;have n3:=zaa hb2 m3;have n4:=zaa hb2 m4;have HB2:=hid (HB1.out.trans (hb2.mono HB1.out.size));clear hb2))
 go_ret
 exact ⟨rfl,HB2.out⟩
theorem zjq (hI : ∀ W,Below w.heap.size w W→Calls Tryz.prog 100 #[.slice a q c] W fun e w'=>e=.returned (.bool true)∧Below W.heap.size W w') (hP : ∀ W,Below w.heap.size w W→Calls Tryz.prog 101 #[.slice b r d] W fun e w'=>e=.returned (.bool true)∧Below W.heap.size W w') (hN : ∀ W,Calls Tryz.prog 102 #[.string (strB bb)] W fun e w'=>e=.returned (.bool false)∧Below W.heap.size W w') (h1 : 0≤wi) (h2 : wi≤1099511627776) (h3 : bb≠[]) : Calls Tryz.prog 66 #[.agg #[.slice a q c,.slice b r d,.int .i64 wi,.string (strB bb),.int .i64 pk]] w fun e w'=>e=.returned (.bool false)∧Below w.heap.size w w':=by
 have hb0:=(Below.refl w.heap.size w).alloc (Nat.le_refl _) (.cells #[.slice a q c,.slice b r d,.int .i64 wi,.string (strB bb),.int .i64 pk] 26)
 have HB0:=hid hb0
 have HI:=hid (hI _ hb0)
 have HP:=hid hP
 have HN:=hid hN
 have t1 : decide (0≤wi)=true:=decide_eq_true h1
 have t2 : decide (wi≤1099511627776)=true:=decide_eq_true h2
 clear h1 h2
 have t3 : ((strB bb).toList == [])=false:=by rw [zao,beq_eq_false_iff_ne];exact h3
 clear h3
 clear hI hb0 hP hN
 go_enter Tryz.func66,Tryz.ntmps66
 go_wp2_with (first
  | (go_at_call 100;(with_reducible refine HI.out.mono ?_);rintro e w1 ⟨rfl,hb1⟩;have m1:=zaa hb1 (tnew w #[.slice a q c,.slice b r d,.int .i64 wi,.string (strB bb),.int .i64 pk] 26 1 rfl);have m2:=zaa hb1 (tnew w #[.slice a q c,.slice b r d,.int .i64 wi,.string (strB bb),.int .i64 pk] 26 2 rfl);have m3:=zaa hb1 (tnew w #[.slice a q c,.slice b r d,.int .i64 wi,.string (strB bb),.int .i64 pk] 26 3 rfl);have m4:=zaa hb1 (tnew w #[.slice a q c,.slice b r d,.int .i64 wi,.string (strB bb),.int .i64 pk] 26 4 rfl);have HB1:=hid (HB0.out.trans (hb1.mono HB0.out.size));clear hb1)
  | (go_at_call 101;(with_reducible refine (HP.out _ HB1.out).mono ?_);rintro e w2 ⟨rfl,hb2⟩;have n1:=zaa hb2 m1;have n2:=zaa hb2 m2;have n3:=zaa hb2 m3;have n4:=zaa hb2 m4;have HB2:=hid (HB1.out.trans (hb2.mono HB1.out.size));clear hb2)
  | (go_at_call 102;(with_reducible refine (HN.out _).mono ?_);rintro e w3 ⟨rfl,hb3⟩;have k4:=zaa hb3 n4;have HB3:=hid (HB2.out.trans (hb3.mono HB2.out.size));clear hb3))
 go_ret
 exact ⟨rfl,HB3.out⟩
theorem zjr (hI : ∀ W,Below w.heap.size w W→Calls Tryz.prog 100 #[.slice a q c] W fun e w'=>e=.returned (.bool true)∧Below W.heap.size W w') (hP : ∀ W,Below w.heap.size w W→Calls Tryz.prog 101 #[.slice b r d] W fun e w'=>e=.returned (.bool true)∧Below W.heap.size W w') (h1 : 0≤wi) (h2 : wi≤1099511627776) (h3 : bb=[]) (h4 : ¬ 1≤pk) : Calls Tryz.prog 66 #[.agg #[.slice a q c,.slice b r d,.int .i64 wi,.string (strB bb),.int .i64 pk]] w fun e w'=>e=.returned (.bool false)∧Below w.heap.size w w':=by
 have hb0:=(Below.refl w.heap.size w).alloc (Nat.le_refl _) (.cells #[.slice a q c,.slice b r d,.int .i64 wi,.string (strB bb),.int .i64 pk] 26)
 have HB0:=hid hb0
 have HI:=hid (hI _ hb0)
 have HP:=hid hP
 have t1 : decide (0≤wi)=true:=decide_eq_true h1
 have t2 : decide (wi≤1099511627776)=true:=decide_eq_true h2
 clear h1 h2
 have t3 : ((strB bb).toList == [])=true:=by rw [zao,h3];rfl
 clear h3
 have t4 : decide (1≤pk)=false:=decide_eq_false h4
 clear h4
 clear hI hb0 hP
 go_enter Tryz.func66,Tryz.ntmps66
 go_wp2_with (first
  | (go_at_call 100;(with_reducible refine HI.out.mono ?_);rintro e w1 ⟨rfl,hb1⟩;have m1:=zaa hb1 (tnew w #[.slice a q c,.slice b r d,.int .i64 wi,.string (strB bb),.int .i64 pk] 26 1 rfl);have m2:=zaa hb1 (tnew w #[.slice a q c,.slice b r d,.int .i64 wi,.string (strB bb),.int .i64 pk] 26 2 rfl);have m3:=zaa hb1 (tnew w #[.slice a q c,.slice b r d,.int .i64 wi,.string (strB bb),.int .i64 pk] 26 3 rfl);have m4:=zaa hb1 (tnew w #[.slice a q c,.slice b r d,.int .i64 wi,.string (strB bb),.int .i64 pk] 26 4 rfl);have HB1:=hid (HB0.out.trans (hb1.mono HB0.out.size));clear hb1)
  | (go_at_call 101;(with_reducible refine (HP.out _ HB1.out).mono ?_);rintro e w2 ⟨rfl,hb2⟩;have n1:=zaa hb2 m1;have n2:=zaa hb2 m2;have n3:=zaa hb2 m3;have n4:=zaa hb2 m4;have HB2:=hid (HB1.out.trans (hb2.mono HB1.out.size));clear hb2))
 go_ret
 exact ⟨rfl,HB2.out⟩
theorem ziq (hI : ∀ W,Below w.heap.size w W→Calls Tryz.prog 100 #[.slice a q c] W fun e w'=>e=.returned (.bool true)∧Below W.heap.size W w') (hP : ∀ W,Below w.heap.size w W→Calls Tryz.prog 101 #[.slice b r d] W fun e w'=>e=.returned (.bool true)∧Below W.heap.size W w') (h1 : 0≤wi) (h2 : wi≤1099511627776) (h3 : bb=[]) (h4 : 1≤pk) (h5 : ¬ pk≤3) : Calls Tryz.prog 66 #[.agg #[.slice a q c,.slice b r d,.int .i64 wi,.string (strB bb),.int .i64 pk]] w fun e w'=>e=.returned (.bool false)∧Below w.heap.size w w':=by
 have hb0:=(Below.refl w.heap.size w).alloc (Nat.le_refl _) (.cells #[.slice a q c,.slice b r d,.int .i64 wi,.string (strB bb),.int .i64 pk] 26)
 have HB0:=hid hb0
 have HI:=hid (hI _ hb0)
 have HP:=hid hP
 have t1 : decide (0≤wi)=true:=decide_eq_true h1
 have t2 : decide (wi≤1099511627776)=true:=decide_eq_true h2
 clear h1 h2
 have t3 : ((strB bb).toList == [])=true:=by rw [zao,h3];rfl
 clear h3
 have t4 : decide (1≤pk)=true:=decide_eq_true h4
 have t5 : decide (pk≤3)=false:=decide_eq_false h5
 clear h4 h5
 clear hI hb0 hP
 go_enter Tryz.func66,Tryz.ntmps66
 go_wp2_with (first
  | (go_at_call 100;(with_reducible refine HI.out.mono ?_);rintro e w1 ⟨rfl,hb1⟩;have m1:=zaa hb1 (tnew w #[.slice a q c,.slice b r d,.int .i64 wi,.string (strB bb),.int .i64 pk] 26 1 rfl);have m2:=zaa hb1 (tnew w #[.slice a q c,.slice b r d,.int .i64 wi,.string (strB bb),.int .i64 pk] 26 2 rfl);have m3:=zaa hb1 (tnew w #[.slice a q c,.slice b r d,.int .i64 wi,.string (strB bb),.int .i64 pk] 26 3 rfl);have m4:=zaa hb1 (tnew w #[.slice a q c,.slice b r d,.int .i64 wi,.string (strB bb),.int .i64 pk] 26 4 rfl);have HB1:=hid (HB0.out.trans (hb1.mono HB0.out.size));clear hb1)
  | (go_at_call 101;(with_reducible refine (HP.out _ HB1.out).mono ?_);rintro e w2 ⟨rfl,hb2⟩;have n1:=zaa hb2 m1;have n2:=zaa hb2 m2;have n3:=zaa hb2 m3;have n4:=zaa hb2 m4;have HB2:=hid (HB1.out.trans (hb2.mono HB1.out.size));clear hb2))
 go_ret
 exact ⟨rfl,HB2.out⟩
theorem zj3 (hI : ∀ W,Below w.heap.size w W→Calls Tryz.prog 100 #[.slice a q c] W fun e w'=>e=.returned (.bool true)∧Below W.heap.size W w') (hP : ∀ W,Below w.heap.size w W→Calls Tryz.prog 101 #[.slice b r d] W fun e w'=>e=.returned (.bool true)∧Below W.heap.size W w') (h1 : 0≤wi) (h2 : wi≤1099511627776) (h3 : bb=[]) (h4 : 1≤pk) (h5 : pk≤3) : Calls Tryz.prog 66 #[.agg #[.slice a q c,.slice b r d,.int .i64 wi,.string (strB bb),.int .i64 pk]] w fun e w'=>e=.returned (.bool true)∧Below w.heap.size w w':=by
 have hb0:=(Below.refl w.heap.size w).alloc (Nat.le_refl _) (.cells #[.slice a q c,.slice b r d,.int .i64 wi,.string (strB bb),.int .i64 pk] 26)
 have HB0:=hid hb0
 have HI:=hid (hI _ hb0)
 have HP:=hid hP
 have t1 : decide (0≤wi)=true:=decide_eq_true h1
 have t2 : decide (wi≤1099511627776)=true:=decide_eq_true h2
 clear h1 h2
 have t3 : ((strB bb).toList == [])=true:=by rw [zao,h3];rfl
 clear h3
 have t4 : decide (1≤pk)=true:=decide_eq_true h4
 have t5 : decide (pk≤3)=true:=decide_eq_true h5
 clear h4 h5
 clear hI hb0 hP
 go_enter Tryz.func66,Tryz.ntmps66
 go_wp2_with (first
  | (go_at_call 100;(with_reducible refine HI.out.mono ?_);rintro e w1 ⟨rfl,hb1⟩;have m1:=zaa hb1 (tnew w #[.slice a q c,.slice b r d,.int .i64 wi,.string (strB bb),.int .i64 pk] 26 1 rfl);have m2:=zaa hb1 (tnew w #[.slice a q c,.slice b r d,.int .i64 wi,.string (strB bb),.int .i64 pk] 26 2 rfl);have m3:=zaa hb1 (tnew w #[.slice a q c,.slice b r d,.int .i64 wi,.string (strB bb),.int .i64 pk] 26 3 rfl);have m4:=zaa hb1 (tnew w #[.slice a q c,.slice b r d,.int .i64 wi,.string (strB bb),.int .i64 pk] 26 4 rfl);have HB1:=hid (HB0.out.trans (hb1.mono HB0.out.size));clear hb1)
  | (go_at_call 101;(with_reducible refine (HP.out _ HB1.out).mono ?_);rintro e w2 ⟨rfl,hb2⟩;have n1:=zaa hb2 m1;have n2:=zaa hb2 m2;have n3:=zaa hb2 m3;have n4:=zaa hb2 m4;have HB2:=hid (HB1.out.trans (hb2.mono HB1.out.size));clear hb2))
 go_ret
 exact ⟨rfl,HB2.out⟩
theorem zjs (hI : ∀ W,Below w.heap.size w W→Calls Tryz.prog 100 #[.slice a q c] W fun e w'=>e=.returned (.bool true)∧Below W.heap.size W w') (hP : ∀ W,Below w.heap.size w W→Calls Tryz.prog 101 #[.slice b r d] W fun e w'=>e=.returned (.bool true)∧Below W.heap.size W w') (hN : ∀ W,Calls Tryz.prog 102 #[.string (strB bb)] W fun e w'=>e=.returned (.bool true)∧Below W.heap.size W w') (h1 : 0≤wi) (h2 : wi≤1099511627776) (h3 : bb≠[]) (h4 : ¬ 1≤pk) : Calls Tryz.prog 66 #[.agg #[.slice a q c,.slice b r d,.int .i64 wi,.string (strB bb),.int .i64 pk]] w fun e w'=>e=.returned (.bool false)∧Below w.heap.size w w':=by
 have hb0:=(Below.refl w.heap.size w).alloc (Nat.le_refl _) (.cells #[.slice a q c,.slice b r d,.int .i64 wi,.string (strB bb),.int .i64 pk] 26)
 have HB0:=hid hb0
 have HI:=hid (hI _ hb0)
 have HP:=hid hP
 have HN:=hid hN
 have t1 : decide (0≤wi)=true:=decide_eq_true h1
 have t2 : decide (wi≤1099511627776)=true:=decide_eq_true h2
 clear h1 h2
 have t3 : ((strB bb).toList == [])=false:=by rw [zao,beq_eq_false_iff_ne];exact h3
 clear h3
 have t4 : decide (1≤pk)=false:=decide_eq_false h4
 clear h4
 clear hI hb0 hP hN
 go_enter Tryz.func66,Tryz.ntmps66
 go_wp2_with (first
  | (go_at_call 100;(with_reducible refine HI.out.mono ?_);rintro e w1 ⟨rfl,hb1⟩;have m1:=zaa hb1 (tnew w #[.slice a q c,.slice b r d,.int .i64 wi,.string (strB bb),.int .i64 pk] 26 1 rfl);have m2:=zaa hb1 (tnew w #[.slice a q c,.slice b r d,.int .i64 wi,.string (strB bb),.int .i64 pk] 26 2 rfl);have m3:=zaa hb1 (tnew w #[.slice a q c,.slice b r d,.int .i64 wi,.string (strB bb),.int .i64 pk] 26 3 rfl);have m4:=zaa hb1 (tnew w #[.slice a q c,.slice b r d,.int .i64 wi,.string (strB bb),.int .i64 pk] 26 4 rfl);have HB1:=hid (HB0.out.trans (hb1.mono HB0.out.size));clear hb1)
  | (go_at_call 101;(with_reducible refine (HP.out _ HB1.out).mono ?_);rintro e w2 ⟨rfl,hb2⟩;have n1:=zaa hb2 m1;have n2:=zaa hb2 m2;have n3:=zaa hb2 m3;have n4:=zaa hb2 m4;have HB2:=hid (HB1.out.trans (hb2.mono HB1.out.size));clear hb2)
  | (go_at_call 102;(with_reducible refine (HN.out _).mono ?_);rintro e w3 ⟨rfl,hb3⟩;have k4:=zaa hb3 n4;have HB3:=hid (HB2.out.trans (hb3.mono HB2.out.size));clear hb3))
 go_ret
 exact ⟨rfl,HB3.out⟩
theorem zir (hI : ∀ W,Below w.heap.size w W→Calls Tryz.prog 100 #[.slice a q c] W fun e w'=>e=.returned (.bool true)∧Below W.heap.size W w') (hP : ∀ W,Below w.heap.size w W→Calls Tryz.prog 101 #[.slice b r d] W fun e w'=>e=.returned (.bool true)∧Below W.heap.size W w') (hN : ∀ W,Calls Tryz.prog 102 #[.string (strB bb)] W fun e w'=>e=.returned (.bool true)∧Below W.heap.size W w') (h1 : 0≤wi) (h2 : wi≤1099511627776) (h3 : bb≠[]) (h4 : 1≤pk) (h5 : ¬ pk≤3) : Calls Tryz.prog 66 #[.agg #[.slice a q c,.slice b r d,.int .i64 wi,.string (strB bb),.int .i64 pk]] w fun e w'=>e=.returned (.bool false)∧Below w.heap.size w w':=by
 have hb0:=(Below.refl w.heap.size w).alloc (Nat.le_refl _) (.cells #[.slice a q c,.slice b r d,.int .i64 wi,.string (strB bb),.int .i64 pk] 26)
 have HB0:=hid hb0
 have HI:=hid (hI _ hb0)
 have HP:=hid hP
 have HN:=hid hN
 have t1 : decide (0≤wi)=true:=decide_eq_true h1
 have t2 : decide (wi≤1099511627776)=true:=decide_eq_true h2
 clear h1 h2
 have t3 : ((strB bb).toList == [])=false:=by rw [zao,beq_eq_false_iff_ne];exact h3
 clear h3
 have t4 : decide (1≤pk)=true:=decide_eq_true h4
 have t5 : decide (pk≤3)=false:=decide_eq_false h5
 clear h4 h5
 clear hI hb0 hP hN
 go_enter Tryz.func66,Tryz.ntmps66
 go_wp2_with (first
  | (go_at_call 100;(with_reducible refine HI.out.mono ?_);rintro e w1 ⟨rfl,hb1⟩;have m1:=zaa hb1 (tnew w #[.slice a q c,.slice b r d,.int .i64 wi,.string (strB bb),.int .i64 pk] 26 1 rfl);have m2:=zaa hb1 (tnew w #[.slice a q c,.slice b r d,.int .i64 wi,.string (strB bb),.int .i64 pk] 26 2 rfl);have m3:=zaa hb1 (tnew w #[.slice a q c,.slice b r d,.int .i64 wi,.string (strB bb),.int .i64 pk] 26 3 rfl);have m4:=zaa hb1 (tnew w #[.slice a q c,.slice b r d,.int .i64 wi,.string (strB bb),.int .i64 pk] 26 4 rfl);have HB1:=hid (HB0.out.trans (hb1.mono HB0.out.size));clear hb1)
  | (go_at_call 101;(with_reducible refine (HP.out _ HB1.out).mono ?_);rintro e w2 ⟨rfl,hb2⟩;have n1:=zaa hb2 m1;have n2:=zaa hb2 m2;have n3:=zaa hb2 m3;have n4:=zaa hb2 m4;have HB2:=hid (HB1.out.trans (hb2.mono HB1.out.size));clear hb2)
  | (go_at_call 102;(with_reducible refine (HN.out _).mono ?_);rintro e w3 ⟨rfl,hb3⟩;have k4:=zaa hb3 n4;have HB3:=hid (HB2.out.trans (hb3.mono HB2.out.size));clear hb3))
 go_ret
 exact ⟨rfl,HB3.out⟩
theorem zj4 (hI : ∀ W,Below w.heap.size w W→Calls Tryz.prog 100 #[.slice a q c] W fun e w'=>e=.returned (.bool true)∧Below W.heap.size W w') (hP : ∀ W,Below w.heap.size w W→Calls Tryz.prog 101 #[.slice b r d] W fun e w'=>e=.returned (.bool true)∧Below W.heap.size W w') (hN : ∀ W,Calls Tryz.prog 102 #[.string (strB bb)] W fun e w'=>e=.returned (.bool true)∧Below W.heap.size W w') (h1 : 0≤wi) (h2 : wi≤1099511627776) (h3 : bb≠[]) (h4 : 1≤pk) (h5 : pk≤3) : Calls Tryz.prog 66 #[.agg #[.slice a q c,.slice b r d,.int .i64 wi,.string (strB bb),.int .i64 pk]] w fun e w'=>e=.returned (.bool true)∧Below w.heap.size w w':=by
 have hb0:=(Below.refl w.heap.size w).alloc (Nat.le_refl _) (.cells #[.slice a q c,.slice b r d,.int .i64 wi,.string (strB bb),.int .i64 pk] 26)
 have HB0:=hid hb0
 have HI:=hid (hI _ hb0)
 have HP:=hid hP
 have HN:=hid hN
 have t1 : decide (0≤wi)=true:=decide_eq_true h1
 have t2 : decide (wi≤1099511627776)=true:=decide_eq_true h2
 clear h1 h2
 have t3 : ((strB bb).toList == [])=false:=by rw [zao,beq_eq_false_iff_ne];exact h3
 clear h3
 have t4 : decide (1≤pk)=true:=decide_eq_true h4
 have t5 : decide (pk≤3)=true:=decide_eq_true h5
 clear h4 h5
 clear hI hb0 hP hN
 go_enter Tryz.func66,Tryz.ntmps66
 go_wp2_with (first
  | (go_at_call 100;(with_reducible refine HI.out.mono ?_);rintro e w1 ⟨rfl,hb1⟩;have m1:=zaa hb1 (tnew w #[.slice a q c,.slice b r d,.int .i64 wi,.string (strB bb),.int .i64 pk] 26 1 rfl);have m2:=zaa hb1 (tnew w #[.slice a q c,.slice b r d,.int .i64 wi,.string (strB bb),.int .i64 pk] 26 2 rfl);have m3:=zaa hb1 (tnew w #[.slice a q c,.slice b r d,.int .i64 wi,.string (strB bb),.int .i64 pk] 26 3 rfl);have m4:=zaa hb1 (tnew w #[.slice a q c,.slice b r d,.int .i64 wi,.string (strB bb),.int .i64 pk] 26 4 rfl);have HB1:=hid (HB0.out.trans (hb1.mono HB0.out.size));clear hb1)
  | (go_at_call 101;(with_reducible refine (HP.out _ HB1.out).mono ?_);rintro e w2 ⟨rfl,hb2⟩;have n1:=zaa hb2 m1;have n2:=zaa hb2 m2;have n3:=zaa hb2 m3;have n4:=zaa hb2 m4;have HB2:=hid (HB1.out.trans (hb2.mono HB1.out.size));clear hb2)
  | (go_at_call 102;(with_reducible refine (HN.out _).mono ?_);rintro e w3 ⟨rfl,hb3⟩;have k4:=zaa hb3 n4;have HB3:=hid (HB2.out.trans (hb3.mono HB2.out.size));clear hb3))
 go_ret
 exact ⟨rfl,HB3.out⟩
end
def QuAt (K : Nat→Prop) (w : World) (a : Option Addr) (q c : Nat) (b : Option Addr) (r d : Nat) (p : PQu) : Prop:=RowK itemD K w (.slice a q c) p.its∧RowK predD K w (.slice b r d) p.prs
theorem RowK.len {α : Type} {D : RowD α} {K : Nat→Prop} {w : World} {a : Option Addr} {n c : Nat} {l : List α} (h : RowK D K w (.slice a n c) l) : n=l.length:=by
 obtain ⟨a',c',e⟩:=h.slice
 injection e with e1 e2 e3
theorem zfo {K : Nat→Prop} {w : World} {a b : Option Addr} {q c r d : Nat} {p : PQu} (h : QuAt K w a q c b r d p) (hb : QuB p) :
 Calls Tryz.prog 66 #[.agg #[.slice a q c,.slice b r d,.int .i64 p.within,.string (strB p.by_),.int .i64 p.pick]] w fun e w'=>e=.returned (.bool (rightQ p))∧Below w.heap.size w w':=by
 obtain ⟨h1,h2⟩:=h
 obtain rfl:=h1.len
 obtain rfl:=h2.len
 have hI:=fun W (hW : Below w.heap.size w W)=>zco (h1.low hW) hb.1
 have hP:=fun W (hW : Below w.heap.size w W)=>zcp (h2.low hW) hb.2.1
 have hN:=fun W=>zar p.by_ W hb.2.2
 unfold rightQ
 cases b1 : rightIs p.its with
 | false =>
   rw [b1] at hI
   exact zin hI
 | true =>
 rw [b1] at hI
 rw [Bool.true_and,← Bool.and_assoc]
 cases b2 : (decide (p.prs.length≤8) && p.prs.all rightP) with
 | false =>
   rw [b2] at hP
   exact zio hI hP
 | true =>
 rw [b2] at hP
 rw [Bool.true_and]
 by_cases w1 : ¬ (0≤p.within)
 ·rw [show decide (0≤p.within∧p.within≤1099511627776)=false from decide_eq_false (fun e=>w1 e.1)]
  exact zj2 hI hP w1
 have w1:=Decidable.not_not.1 w1
 by_cases w2 : ¬ (p.within≤1099511627776)
 ·rw [show decide (0≤p.within∧p.within≤1099511627776)=false from decide_eq_false (fun e=>w2 e.2)]
  exact zjp hI hP w1 w2
 have w2:=Decidable.not_not.1 w2
 rw [show decide (0≤p.within∧p.within≤1099511627776)=true from decide_eq_true ⟨w1,w2⟩,Bool.true_and]
 by_cases h0 : p.by_=[]
 ·rw [show (decide (p.by_=[]) || nameB p.by_)=true by rw [decide_eq_true h0];rfl,Bool.true_and]
  by_cases p1 : ¬ (1≤p.pick)
  ·rw [show decide (1≤p.pick∧p.pick≤3)=false from decide_eq_false (fun e=>p1 e.1)]
   exact zjr hI hP w1 w2 h0 p1
  have p1:=Decidable.not_not.1 p1
  by_cases p2 : p.pick≤3
  ·rw [show decide (1≤p.pick∧p.pick≤3)=true from decide_eq_true ⟨p1,p2⟩]
   exact zj3 hI hP w1 w2 h0 p1 p2
  ·rw [show decide (1≤p.pick∧p.pick≤3)=false from decide_eq_false (fun e=>p2 e.2)]
   exact ziq hI hP w1 w2 h0 p1 p2
 ·rw [show (decide (p.by_=[]) || nameB p.by_)=nameB p.by_ by rw [decide_eq_false h0];rfl]
  cases b3 : nameB p.by_ with
  | false =>
    rw [b3] at hN
    rw [Bool.false_and]
    exact zjq hI hP hN w1 w2 h0
  | true =>
  rw [b3] at hN
  rw [Bool.true_and]
  by_cases p1 : ¬ (1≤p.pick)
  ·rw [show decide (1≤p.pick∧p.pick≤3)=false from decide_eq_false (fun e=>p1 e.1)]
   exact zjs hI hP hN w1 w2 h0 p1
  have p1:=Decidable.not_not.1 p1
  by_cases p2 : p.pick≤3
  ·rw [show decide (1≤p.pick∧p.pick≤3)=true from decide_eq_true ⟨p1,p2⟩]
   exact zj4 hI hP hN w1 w2 h0 p1 p2
  ·rw [show decide (1≤p.pick∧p.pick≤3)=false from decide_eq_false (fun e=>p2 e.2)]
   exact zir hI hP hN w1 w2 h0 p1 p2
end Go.Proofs.YtkmlfkbpcgkpaaaGreatDoor
namespace Go.Proofs.YtkmlfkbpcgkpaaaGreatDoor
open Go.ChangeShapes Go.WideShapes Go.ChangeAt Go.RowKit Go.Lib Go.Deep Go.Op
set_option maxHeartbeats 8000000
set_option maxRecDepth 100000
instance : Inhabited PEx:=⟨noX⟩
instance : Inhabited PIt:=⟨⟨false,[],[],0⟩⟩
instance : Inhabited PPr:=⟨⟨noX,0,noX⟩⟩
theorem zjo (s : ByteArray) : strB s.data.toList=s:=by apply ByteArray.ext;simp [strB]
section
variable {H : Type} {enc : TypeId × Value→H} {w : World} {base : Nat} {spare : Nat→Bool} {held : Bool}
theorem zbJ {P : Program} {e : TypeId} : ∀ {l : List (DataW H)} {d : DataW H} {n : Nat},d∈l→n∈d.weights P e→n∈DataW.weightsAll P e l
 | [],_,_,h,_=>by cases h
 | x :: l,d,n,h,hn=>by
   simp only [DataW.weightsAll,List.mem_append]
   rcases List.mem_cons.1 h with rfl|h
   ·exact .inl hn
   ·exact .inr (zbJ h hn)
def WLe (t : TypeId) (d : DataW H) : Prop:=∀ q∈d.weights Tryz.prog t,q≤reachBytes
theorem zcd {t e : TypeId} {fuel : Nat} {cs : List Value} {x : DataW H × List MemPlace} (ht : Tryz.prog.underlying t=some (.slice e)) (h : DataW.trod enc Tryz.prog w base spare held fuel t cs=some x) :
 cs=[.slice none 0 0]∨∃ (a : Addr) (len cap n : Nat),fuel=n+1∧cs=[.slice (some a) len cap]∧len≤cap∧cap≤maxLen∧(WLe t x.1→len*Tryz.prog.bytesOf e≤reachBytes) ∧
  ∀ i,i < len→∃ cs' y,w.cells? base (a.add (i*Tryz.prog.cellsOf e)) (Tryz.prog.cellsOf e)=some cs'∧DataW.trod enc Tryz.prog w base spare held n e cs'=some y∧(WLe t x.1→WLe e y.1):=by
 rcases DataW.trod_slice ht h with ⟨h0,_⟩|⟨a,len,cap,elems,rest,n,hf,hcs,hx,_,hl,hm,hlen,hel,_⟩
 ·exact .inl h0
 ·refine .inr ⟨a,len,cap,n,hf,hcs,hl,hm,fun hw=>?_,fun i hi=>?_⟩
  ·have h1:=hw ((elems.length+rest.length)*Tryz.prog.bytesOf e) (by
    rw [hx]
    simp only [DataW.weights,ht,List.length_map,List.mem_cons,true_or])
   have h2 : len*Tryz.prog.bytesOf e≤(elems.length+rest.length)*Tryz.prog.bytesOf e:=Nat.mul_le_mul_right _ (by omega)
   omega
  ·have h1:=hel i hi
   rw [List.getElem?_eq_getElem (by omega)] at h1
   obtain ⟨cs',h2,h3⟩:=Option.bind_eq_some_iff.1 h1
   refine ⟨cs',_,h2,h3,fun hw q hq=>hw q ?_⟩
   rw [hx]
   simp only [DataW.weights,ht,List.mem_cons,List.mem_append]
   exact .inr (.inl (zbJ (List.mem_map.2 ⟨_,List.getElem_mem (by omega),rfl⟩) hq))
theorem zf8 {a : Addr} (hs : a.spot=none) (i : Nat) : a.add i=⟨a.block,a.off+i,none⟩:=by
 obtain ⟨b,o,s⟩:=a
 dsimp only at hs
 subst hs
 unfold Addr.add
 split
 ·rename_i h
  rw [h]
  rfl
 ·rfl
theorem zdn {a : Addr} {k : Nat} {cs : List Value} (hk : 0 < k) (h : w.cells? base a k=some cs) : a.spot=none:=by
 obtain ⟨_,hl,hc⟩:=World.cells?_some h
 have h0:=hc 0 hk
 rw [List.getElem?_eq_getElem (by omega)] at h0
 unfold World.cell? at h0
 have e : a.add 0=a:=by unfold Addr.add;rw [if_pos rfl]
 rw [e] at h0
 split at h0
 ·split at h0
  ·cases h0
  ·rename_i hs
   simpa using hs
 ·cases h0
theorem zbg {t e : TypeId} {α : Type} [Inhabited α] (D : RowD α) (hk : 0 < D.k) (ht : Tryz.prog.underlying t=some (.slice e)) (ck : Tryz.prog.cellsOf e=D.k) (Q : α→Prop) {fuel : Nat} {cs : List Value} {x : DataW H × List MemPlace} (h : DataW.trod enc Tryz.prog w base spare held fuel t cs=some x) (hw : WLe t x.1)
 (hel : ∀ n cs' y,n < fuel→DataW.trod enc Tryz.prog w base spare held n e cs'=some y→WLe e y.1→∃ z,D.P (fun _=>False) w cs' z∧Q z) : ∃ (l : List α) (a : Option Addr) (c : Nat),cs=[.slice a l.length c]∧RowK D (fun _=>False) w (.slice a l.length c) l∧l.length*Tryz.prog.bytesOf e≤reachBytes∧∀ z∈l,Q z:=by
 rcases zcd ht h with rfl|⟨a,len,cap,n,hf,rfl,hl,hm,hby,hx⟩
 ·exact ⟨[],none,0,rfl,RowK.nil _ _ _,by simp,fun z hz=>by cases hz⟩
 ·have hall : ∀ i,i < len→∃ z : α,(∃ cs',w.cells? base (a.add (i*D.k)) D.k=some cs'∧D.P (fun _=>False) w cs' z)∧Q z:=fun i hi=>by
   obtain ⟨cs',y,h1,h2,h5⟩:=hx i hi
   rw [ck] at h1
   obtain ⟨z,h3,h4⟩:=hel n cs' y (by omega) h2 (h5 hw)
   exact ⟨z,⟨cs',h1,h3⟩,h4⟩
  obtain ⟨q,hq⟩:=choose_lt hall
  have hlen : ((List.range len).map q).length=len:=by simp
  refine ⟨(List.range len).map q,some a,cap,by rw [hlen],⟨some a,cap,rfl,by rw [hlen];exact hl,fun j z hj=>?_⟩,by rw [hlen];exact hby hw,fun z hz=>?_⟩
  ·obtain ⟨hjl,rfl⟩:=List.getElem?_eq_some_iff.1 hj
   rw [hlen] at hjl
   obtain ⟨⟨cs',h1,h3⟩,_⟩:=hq j hjl
   have hs : a.spot=none:=by
    obtain ⟨⟨cs0,g1,_⟩,_⟩:=hq 0 (by omega)
    rw [Nat.zero_mul] at g1
    have e0 : a.add 0=a:=by unfold Addr.add;rw [if_pos rfl]
    rw [e0] at g1
    exact zdn hk g1
   obtain ⟨_,hl1,hc⟩:=World.cells?_some h1
   refine ⟨a.block,a.off,cs',?_,fun hf=>hf,by simpa using h3,fun r u hu=>?_⟩
   ·obtain ⟨b,o,s⟩:=a
    dsimp only at hs
    subst hs
    rfl
   ·have hr:=(List.getElem?_eq_some_iff.1 hu).1
    have:=hc r (by omega)
    rw [zf8 hs,zf8 rfl,hu] at this
    exact this
  ·obtain ⟨i,hi,rfl⟩:=List.mem_map.1 hz
   exact (hq i (List.mem_range.1 hi)).2
inductive XLn : PEx→Prop
 | mk (k : Int) (v : PVal) (x f : List UInt8) (ks : List PEx) (hv : v.s.length≤maxLen) (hx : x.length≤maxLen) (hf : f.length≤maxLen) (hl : ks.length≤maxLen) (hk : ∀ y∈ks,XLn y) : XLn (.mk k v x f ks)
theorem zaN {fuel : Nat} {cs : List Value} {x : DataW H × List MemPlace} (h : DataW.trod enc Tryz.prog w base spare held fuel 9 cs=some x) : ∃ b : List UInt8,cs=[.string (strB b)]∧b.length≤maxLen:=by
 obtain ⟨s,rfl,_,hs⟩:=DataW.trod_string Tryz.underlying9 h
 refine ⟨s.data.toList,by rw [zjo],?_⟩
 have : s.data.toList.length=s.size:=by simp
 omega
theorem zei : ∀ (fuel : Nat) (cs : List Value) (x : DataW H × List MemPlace),DataW.trod enc Tryz.prog w base spare held fuel 89 cs=some x →
 ∃ (y : PEx) (a : Option Addr) (c d : Nat),cs=exL y (.slice a y.ks.length c)∧ExK (fun _=>False) w d (.slice a y.ks.length c) y.ks∧XLn y:=fun fuel=>by
 induction fuel using Nat.strongRecOn with
 | _ fuel ih =>
   intro cs x h
   obtain ⟨xs,n,hn,_,hcl,hxl,hF⟩:=DataW.trod_struct Tryz.underlying89 h
   have c7 : Tryz.prog.cellsOf 89=7:=by kernel_rfl
   have ci : Tryz.prog.cellsOf 3=1:=by kernel_rfl
   have cs1 : Tryz.prog.cellsOf 9=1:=by kernel_rfl
   have ck1 : Tryz.prog.cellsOf 87=1:=by kernel_rfl
   have cv : Tryz.prog.cellsOf 70=3:=by kernel_rfl
   have c64 : Tryz.prog.cellsOf 2=1:=by kernel_rfl
   rw [c7] at hcl
   match xs,hxl,cs,hcl with
   | [y0,y1,y2,y3,y4],_,[v0,v1,v2,v3,v4,v5,v6],_ =>
     have g0:=hF 0 _ rfl
     have g1:=hF 1 _ rfl
     have g2:=hF 2 _ rfl
     have g3:=hF 3 _ rfl
     have g4:=hF 4 _ rfl
     simp [ci] at g0
     simp [cv] at g1
     simp [cs1] at g2
     simp [cs1] at g3
     simp [ck1] at g4
     obtain ⟨k,hk,_⟩:=DataW.trod_int Tryz.underlying3 g0
     obtain ⟨x2,h2,l2⟩:=zaN g2
     obtain ⟨x3,h3,l3⟩:=zaN g3
     obtain ⟨zs,m,hm,_,hvl,hzl,hG⟩:=DataW.trod_struct Tryz.underlying70 g1
     match zs,hzl with
     | [z0,z1,z2],_ =>
       have q0:=hG 0 _ rfl
       have q1:=hG 1 _ rfl
       have q2:=hG 2 _ rfl
       simp [ci] at q0
       simp [c64] at q1
       simp [cs1] at q2
       obtain ⟨vk,hvk,_⟩:=DataW.trod_int Tryz.underlying3 q0
       obtain ⟨vn,hvn,_⟩:=DataW.trod_int Tryz.underlying2 q1
       obtain ⟨vs,hvs,l1⟩:=zaN q2
       simp at hk h2 h3 hvk hvn hvs
       subst hk h2 h3 hvk hvn hvs
       rcases zcd Tryz.underlying87 g4 with e|⟨a,len,cap,n',hf,e,hl,hm',_,hx⟩
       ·simp at e
        subst e
        exact ⟨.mk k ⟨vk,vn,vs⟩ x2 x3 [],none,0,0,rfl,ExK.nil _ _,.mk _ _ _ _ _ l1 l2 l3 (Nat.zero_le _) (fun y hy=>by cases hy)⟩
       ·simp at e
        subst e
        have hall : ∀ i,i < len→∃ y : PEx,∃ cs' a' c' d',w.cells? base (a.add (i*7)) 7=some cs'∧cs'=exL y (.slice a' y.ks.length c')∧ExK (fun _=>False) w d' (.slice a' y.ks.length c') y.ks∧XLn y:=fun i hi=>by
         obtain ⟨cs',y,h1,h2,_⟩:=hx i hi
         rw [c7] at h1
         obtain ⟨z,a',c',d',h3,h4,h5⟩:=ih n' (by omega) cs' y h2
         exact ⟨z,cs',a',c',d',h1,h3,h4,h5⟩
        obtain ⟨q,hq⟩:=choose_lt hall
        have hlen : ((List.range len).map q).length=len:=by simp
        obtain ⟨D,hD⟩:=fuel_lt (n:=len) (q:=fun i d=>∃ cs' a' c',w.cells? base (a.add (i*7)) 7=some cs'∧cs'=exL (q i) (.slice a' (q i).ks.length c')∧ExK (fun _=>False) w d (.slice a' (q i).ks.length c') (q i).ks) (fun i d d' hd hh=>by
         obtain ⟨cs',a',c',h1,h2,h3⟩:=hh
         exact ⟨cs',a',c',h1,h2,h3.le hd⟩) (fun i hi=>by
         obtain ⟨cs',a',c',d',h1,h2,h3,_⟩:=hq i hi
         exact ⟨d',cs',a',c',h1,h2,h3⟩)
        refine ⟨.mk k ⟨vk,vn,vs⟩ x2 x3 ((List.range len).map q),some a,cap,D+1,?_,?_,.mk _ _ _ _ _ l1 l2 l3 (by rw [hlen];omega) (fun y hy=>?_)⟩
        ·show _=exL _ (.slice (some a) ((List.range len).map q).length cap)
         rw [hlen]
         rfl
        ·show ExK _ _ _ (.slice (some a) ((List.range len).map q).length cap) ((List.range len).map q)
         refine ⟨some a,cap,rfl,fun j z hj=>?_⟩
         obtain ⟨hjl,rfl⟩:=List.getElem?_eq_some_iff.1 hj
         rw [hlen] at hjl
         obtain ⟨cs',a',c',h1,h2,h3⟩:=hD j hjl
         have hs : a.spot=none:=by
          obtain ⟨cs0,_,_,g1,_⟩:=hD 0 (by omega)
          rw [Nat.zero_mul] at g1
          have e0 : a.add 0=a:=by unfold Addr.add;rw [if_pos rfl]
          rw [e0] at g1
          exact zdn (by decide) g1
         obtain ⟨_,hl1,hc⟩:=World.cells?_some h1
         have hcell : ∀ r,r < 7→w.cell? ⟨a.block,a.off+j*7+r,none⟩=cs'[r]?:=fun r hr=>by
          have:=hc r hr
          rw [zf8 hs,zf8 rfl] at this
          exact this
         subst h2
         have hz : ((List.range len).map q)[j]=q j:=by simp
         refine ⟨a.block,a.off,.slice a' (q j).ks.length c',?_,⟨fun hf=>hf,fun hf=>hf.elim⟩,?_,?_⟩
         ·obtain ⟨b,o,s⟩:=a
          dsimp only at hs
          subst hs
          rfl
         ·rw [hz]
          exact ⟨hcell 0 (by decide),hcell 1 (by decide),hcell 2 (by decide),hcell 3 (by decide),hcell 4 (by decide),hcell 5 (by decide),hcell 6 (by decide)⟩
         ·rw [hz]
          exact h3
        ·obtain ⟨i,hi,rfl⟩:=List.mem_map.1 hy
         obtain ⟨_,_,_,_,_,_,_,h5⟩:=hq i (List.mem_range.1 hi)
         exact h5
def ILn (i : PIt) : Prop:=i.x.length≤maxLen∧i.ns.length≤140737488355328∧∀ b∈i.ns,b.length≤maxLen
def QLn (q : PQu) : Prop:=(∀ i∈q.its,ILn i)∧(∀ p∈q.prs,XLn p.l∧XLn p.r)∧q.by_.length≤maxLen∧q.its.length≤140737488355328∧q.prs.length≤140737488355328
theorem zaX {n b : Nat} (hb : 0 < b) (h : n*b≤reachBytes) : n≤140737488355328:=by
 have h2:=reachBytes_lt
 have h4 : (2 : Nat) ^ 47=140737488355328:=by decide
 have h5 : n*1≤n*b:=Nat.mul_le_mul_left _ hb
 omega
theorem zgw {fuel : Nat} {cs : List Value} {x : DataW H × List MemPlace} (h : DataW.trod enc Tryz.prog w base spare held fuel 38 cs=some x) (hw : WLe 38 x.1) : ∃ (l : List (List UInt8)) (a : Option Addr) (c : Nat),cs=[.slice a l.length c]∧RowK nameD (fun _=>False) w (.slice a l.length c) l∧l.length*Tryz.prog.bytesOf 9≤reachBytes∧∀ b∈l,b.length≤maxLen :=
 zbg nameD (by decide) Tryz.underlying38 (by kernel_rfl) (fun b=>b.length≤maxLen) h hw (fun n cs' y _ hy _=>by
  obtain ⟨b,h1,h2⟩:=zaN hy
  exact ⟨b,h1,h2⟩)
theorem zhi {fuel : Nat} {cs : List Value} {x : DataW H × List MemPlace} (h : DataW.trod enc Tryz.prog w base spare held fuel 44 cs=some x) (hw : WLe 44 x.1) : ∃ i : PIt,itemD.P (fun _=>False) w cs i∧ILn i:=by
 obtain ⟨xs,n,hn,hxe,hcl,hxl,hF⟩:=DataW.trod_struct Tryz.underlying44 h
 have c4 : Tryz.prog.cellsOf 44=4:=by kernel_rfl
 have cb : Tryz.prog.cellsOf 4=1:=by kernel_rfl
 have ci : Tryz.prog.cellsOf 3=1:=by kernel_rfl
 have cs1 : Tryz.prog.cellsOf 9=1:=by kernel_rfl
 have cn : Tryz.prog.cellsOf 38=1:=by kernel_rfl
 rw [c4] at hcl
 match xs,hxl,cs,hcl with
 | [y0,y1,y2,y3],_,[v0,v1,v2,v3],_ =>
   have g0:=hF 0 _ rfl
   have g1:=hF 1 _ rfl
   have g2:=hF 2 _ rfl
   have g3:=hF 3 _ rfl
   simp [cb] at g0
   simp [cn] at g1
   simp [cs1] at g2
   simp [ci] at g3
   obtain ⟨b,hb,_⟩:=DataW.trod_bool Tryz.underlying4 g0
   obtain ⟨l,a,c,hl,hr,hc,hlb⟩:=zgw g1 (fun q hq=>hw q (by
    rw [hxe]
    simp only [DataW.weights,Tryz.underlying44]
    exact DataW.weights_mem_each (j:=1) (t:=38) (d:=y1.1) (by kernel_rfl) rfl q hq))
   obtain ⟨vx,hx,l2⟩:=zaN g2
   obtain ⟨m,hm,_⟩:=DataW.trod_int Tryz.underlying3 g3
   simp at hb hl hx hm
   subst hb hl hx hm
   exact ⟨⟨b,l,vx,m⟩,⟨a,c,rfl,hr⟩,l2,zaX (show 0 < Tryz.prog.bytesOf 9 by rw [show Tryz.prog.bytesOf 9=16 by kernel_rfl];decide) hc,hlb⟩
theorem zhj {fuel : Nat} {cs : List Value} {x : DataW H × List MemPlace} (h : DataW.trod enc Tryz.prog w base spare held fuel 91 cs=some x) : ∃ p : PPr,predD.P (fun _=>False) w cs p∧(XLn p.l∧XLn p.r):=by
 obtain ⟨xs,n,hn,_,hcl,hxl,hF⟩:=DataW.trod_struct Tryz.underlying91 h
 have c15 : Tryz.prog.cellsOf 91=15:=by kernel_rfl
 have ci : Tryz.prog.cellsOf 3=1:=by kernel_rfl
 have c7 : Tryz.prog.cellsOf 89=7:=by kernel_rfl
 rw [c15] at hcl
 match xs,hxl,cs,hcl with
 | [y0,y1,y2],_,[v0,v1,v2,v3,v4,v5,v6,v7,v8,v9,v10,v11,v12,v13,v14],_ =>
   have g0:=hF 0 _ rfl
   have g1:=hF 1 _ rfl
   have g2:=hF 2 _ rfl
   simp [ci] at g0
   simp [c7] at g1
   simp [c7] at g2
   obtain ⟨m,hm,_⟩:=DataW.trod_int Tryz.underlying3 g0
   obtain ⟨l,a,c,d1,h1,h2,h3⟩:=zei _ _ _ g1
   obtain ⟨r,b,e,d2,h4,h5,h6⟩:=zei _ _ _ g2
   simp [exL] at hm h1 h4
   obtain ⟨rfl,rfl,rfl,rfl,rfl,rfl,rfl⟩:=h1
   obtain ⟨rfl,rfl,rfl,rfl,rfl,rfl,rfl⟩:=h4
   subst hm
   exact ⟨⟨l,m,r⟩,⟨a,l.ks.length,c,b,r.ks.length,e,max d1 d2,rfl,h2.le (Nat.le_max_left _ _),h5.le (Nat.le_max_right _ _)⟩,h3,h6⟩
theorem zdo {b0 : Nat} {v : Value} {d : DataW H} {p : List MemPlace} (hv : Value.okWide Tryz.prog w .any b0 26 v) (h : DataW.Trod enc Tryz.prog w base spare held 26 v d p) (hw : WLe 26 d) :
 ∃ (a : Option Addr) (q c : Nat) (b : Option Addr) (r e : Nat) (p : PQu),v=.agg #[.slice a q c,.slice b r e,.int .i64 p.within,.string (strB p.by_),.int .i64 p.pick]∧QuAt (fun _=>False) w a q c b r e p∧QLn p:=by
 obtain ⟨cs,rfl,hsz⟩:=okWide_struct Tryz.underlying26 hv
 obtain ⟨fuel,hf⟩:=h
 obtain ⟨xs,k,hk,hxy,_,hxl,hF⟩:=DataW.trod_struct Tryz.underlying26 hf
 have c5 : Tryz.prog.cellsOf 26=5:=by kernel_rfl
 have ci : Tryz.prog.cellsOf 3=1:=by kernel_rfl
 have c64 : Tryz.prog.cellsOf 2=1:=by kernel_rfl
 have cs1 : Tryz.prog.cellsOf 9=1:=by kernel_rfl
 have c1 : Tryz.prog.cellsOf 23=1:=by kernel_rfl
 have c2 : Tryz.prog.cellsOf 24=1:=by kernel_rfl
 obtain ⟨cl⟩:=cs
 rw [c5] at hsz
 simp at hsz
 match xs,hxl,cl,hsz with
 | [y0,y1,y2,y3,y4],_,[v0,v1,v2,v3,v4],_ =>
   have g0:=hF 0 _ rfl
   have g1:=hF 1 _ rfl
   have g2:=hF 2 _ rfl
   have g3:=hF 3 _ rfl
   have g4:=hF 4 _ rfl
   simp [c1,Value.cells] at g0
   simp [c2,Value.cells] at g1
   simp [c64,Value.cells] at g2
   simp [cs1,Value.cells] at g3
   simp [ci,Value.cells] at g4
   obtain ⟨its,a,c,hi,hir,hic,hiq⟩:=zbg itemD (by decide) Tryz.underlying23 (by kernel_rfl) ILn g0 (fun q hq=>hw q (by
    have hd : d=.agg [y0.1,y1.1,y2.1,y3.1,y4.1]:=congrArg Prod.fst hxy
    rw [hd]
    simp only [DataW.weights,Tryz.underlying26]
    exact DataW.weights_mem_each (j:=0) (t:=23) (d:=y0.1) (by kernel_rfl) rfl q hq)) (fun n cs' y _ hy hwy=>zhi hy hwy)
   obtain ⟨prs,b,e,hp,hpr,hpc,hpq⟩:=zbg predD (by decide) Tryz.underlying24 (by kernel_rfl) (fun p=>XLn p.l∧XLn p.r) g1 (fun q hq=>hw q (by
    have hd : d=.agg [y0.1,y1.1,y2.1,y3.1,y4.1]:=congrArg Prod.fst hxy
    rw [hd]
    simp only [DataW.weights,Tryz.underlying26]
    exact DataW.weights_mem_each (j:=1) (t:=24) (d:=y1.1) (by kernel_rfl) rfl q hq)) (fun n cs' y _ hy _=>zhj hy)
   obtain ⟨wi,hw,_⟩:=DataW.trod_int Tryz.underlying2 g2
   obtain ⟨bb,hb,hbl⟩:=zaN g3
   obtain ⟨pk,hpk,_⟩:=DataW.trod_int Tryz.underlying3 g4
   simp at hi hp hw hb hpk
   subst hi hp hw hb hpk
   exact ⟨a,its.length,c,b,prs.length,e,⟨its,prs,wi,bb,pk⟩,rfl,⟨hir,hpr⟩,hiq,hpq,hbl,zaX (show 0 < Tryz.prog.bytesOf 44 by rw [show Tryz.prog.bytesOf 44=56 by kernel_rfl];decide) hic,zaX (show 0 < Tryz.prog.bytesOf 91 by rw [show Tryz.prog.bytesOf 91=200 by kernel_rfl];decide) hpc⟩
end
def EvLn (e : PEv) : Prop:=e.vals.length≤140737488355328
def RwLn (l : List PEv) : Prop:=l.length≤140737488355328∧∀ e∈l,EvLn e
def BdLn (b : List (List PEv)) : Prop:=b.length≤140737488355328∧∀ l∈b,RwLn l
section
variable {H : Type} {enc : TypeId × Value→H} {w : World} {base : Nat} {spare : Nat→Bool} {held : Bool}
theorem zhA {fuel : Nat} {cs : List Value} {x : DataW H × List MemPlace} (h : DataW.trod enc Tryz.prog w base spare held fuel 70 cs=some x) : ∃ v : PVal,valD.P (fun _=>False) w cs v∧True:=by
 obtain ⟨xs,n,hn,_,hcl,hxl,hF⟩:=DataW.trod_struct Tryz.underlying70 h
 have c3 : Tryz.prog.cellsOf 70=3:=by kernel_rfl
 have ci : Tryz.prog.cellsOf 3=1:=by kernel_rfl
 have c64 : Tryz.prog.cellsOf 2=1:=by kernel_rfl
 have cs1 : Tryz.prog.cellsOf 9=1:=by kernel_rfl
 rw [c3] at hcl
 match xs,hxl,cs,hcl with
 | [y0,y1,y2],_,[v0,v1,v2],_ =>
   have g0:=hF 0 _ rfl
   have g1:=hF 1 _ rfl
   have g2:=hF 2 _ rfl
   simp [ci] at g0
   simp [c64] at g1
   simp [cs1] at g2
   obtain ⟨k,hk,_⟩:=DataW.trod_int Tryz.underlying3 g0
   obtain ⟨m,hm,_⟩:=DataW.trod_int Tryz.underlying2 g1
   obtain ⟨s,hs,l2⟩:=zaN g2
   simp at hk hm hs
   subst hk hm hs
   exact ⟨⟨k,m,s⟩,⟨rfl,l2⟩,trivial⟩
theorem ziJ {fuel : Nat} {cs : List Value} {x : DataW H × List MemPlace} (h : DataW.trod enc Tryz.prog w base spare held fuel 41 cs=some x) (hw : WLe 41 x.1) : ∃ e : PEv,evD.P (fun _=>False) w cs e∧EvLn e:=by
 obtain ⟨xs,n,hn,hxe,hcl,hxl,hF⟩:=DataW.trod_struct Tryz.underlying41 h
 have c5 : Tryz.prog.cellsOf 41=5:=by kernel_rfl
 have ci : Tryz.prog.cellsOf 3=1:=by kernel_rfl
 have c64 : Tryz.prog.cellsOf 2=1:=by kernel_rfl
 have cs1 : Tryz.prog.cellsOf 9=1:=by kernel_rfl
 have cv : Tryz.prog.cellsOf 39=1:=by kernel_rfl
 rw [c5] at hcl
 match xs,hxl,cs,hcl with
 | [y0,y1,y2,y3,y4],_,[v0,v1,v2,v3,v4],_ =>
   have g0:=hF 0 _ rfl
   have g1:=hF 1 _ rfl
   have g2:=hF 2 _ rfl
   have g3:=hF 3 _ rfl
   have g4:=hF 4 _ rfl
   simp [c64] at g0
   simp [ci] at g1
   simp [c64] at g2
   simp [cs1] at g3
   simp [cv] at g4
   obtain ⟨t,ht,_⟩:=DataW.trod_int Tryz.underlying2 g0
   obtain ⟨d,hd,_⟩:=DataW.trod_int Tryz.underlying3 g1
   obtain ⟨s,hs,_⟩:=DataW.trod_int Tryz.underlying2 g2
   obtain ⟨b,hb,l2⟩:=zaN g3
   obtain ⟨l,a,c,hl,hr,hc,_⟩:=zbg valD (by decide) Tryz.underlying39 (by kernel_rfl) (fun _=>True) g4 (fun q hq=>hw q (by
    rw [hxe]
    simp only [DataW.weights,Tryz.underlying41]
    exact DataW.weights_mem_each (j:=4) (t:=39) (d:=y4.1) (by kernel_rfl) rfl q hq)) (fun n cs' y _ hy _=>zhA hy)
   simp at ht hd hs hb hl
   subst ht hd hs hb hl
   exact ⟨⟨t,d,s,b,l⟩,⟨a,c,rfl,hr,l2⟩,zaX (show 0 < Tryz.prog.bytesOf 70 by rw [show Tryz.prog.bytesOf 70=32 by kernel_rfl];decide) hc⟩
theorem zeA {fuel : Nat} {cs : List Value} {x : DataW H × List MemPlace} (h : DataW.trod enc Tryz.prog w base spare held fuel 27 cs=some x) (hw : WLe 27 x.1) : ∃ l : List PEv,evsD.P (fun _=>False) w cs l∧RwLn l:=by
 obtain ⟨l,a,c,hl,hr,hc,hq⟩:=zbg evD (by decide) Tryz.underlying27 (by kernel_rfl) EvLn h hw (fun n cs' y _ hy hwy=>ziJ hy hwy)
 exact ⟨l,⟨a,c,hl,hr⟩,zaX (show 0 < Tryz.prog.bytesOf 41 by rw [show Tryz.prog.bytesOf 41=64 by kernel_rfl];decide) hc,hq⟩
theorem zfu {fuel : Nat} {cs : List Value} {x : DataW H × List MemPlace} (h : DataW.trod enc Tryz.prog w base spare held fuel 35 cs=some x) (hw : WLe 35 x.1) : ∃ (b : List (List PEv)) (a : Option Addr) (c : Nat),cs=[.slice a b.length c]∧RowK evsD (fun _=>False) w (.slice a b.length c) b∧BdLn b:=by
 obtain ⟨l,a,c,hl,hr,hc,hq⟩:=zbg evsD (by decide) Tryz.underlying35 (by kernel_rfl) RwLn h hw (fun n cs' y _ hy hwy=>zeA hy hwy)
 exact ⟨l,a,c,hl,hr,zaX (show 0 < Tryz.prog.bytesOf 27 by rw [show Tryz.prog.bytesOf 27=24 by kernel_rfl];decide) hc,hq⟩
theorem zhB {fuel : Nat} {cs : List Value} {x : DataW H × List MemPlace} (h : DataW.trod enc Tryz.prog w base spare held fuel 59 cs=some x) (hw : WLe 59 x.1) : ∃ r : PRun,runD.P (fun _=>False) w cs r∧BdLn r.bound:=by
 obtain ⟨xs,n,hn,hxe,hcl,hxl,hF⟩:=DataW.trod_struct Tryz.underlying59 h
 have c2 : Tryz.prog.cellsOf 59=2:=by kernel_rfl
 have ci : Tryz.prog.cellsOf 3=1:=by kernel_rfl
 have cv : Tryz.prog.cellsOf 35=1:=by kernel_rfl
 rw [c2] at hcl
 match xs,hxl,cs,hcl with
 | [y0,y1],_,[v0,v1],_ =>
   have g0:=hF 0 _ rfl
   have g1:=hF 1 _ rfl
   simp [ci] at g0
   simp [cv] at g1
   obtain ⟨t,ht,_⟩:=DataW.trod_int Tryz.underlying3 g0
   obtain ⟨b,a,c,hl,hr,hq⟩:=zfu g1 (fun q hq=>hw q (by
    rw [hxe]
    simp only [DataW.weights,Tryz.underlying59]
    exact DataW.weights_mem_each (j:=1) (t:=35) (d:=y1.1) (by kernel_rfl) rfl q hq))
   simp at ht hl
   subst ht hl
   exact ⟨⟨t,b⟩,⟨a,c,rfl,hr⟩,hq⟩
theorem zgF {fuel : Nat} {cs : List Value} {x : DataW H × List MemPlace} (h : DataW.trod enc Tryz.prog w base spare held fuel 48 cs=some x) (hw : WLe 48 x.1) : ∃ (l : List PRun) (a : Option Addr) (c : Nat),cs=[.slice a l.length c]∧RowK runD (fun _=>False) w (.slice a l.length c) l∧l.length≤140737488355328∧∀ r∈l,BdLn r.bound:=by
 obtain ⟨l,a,c,hl,hr,hc,hq⟩:=zbg runD (by decide) Tryz.underlying48 (by kernel_rfl) (fun r=>BdLn r.bound) h hw (fun n cs' y _ hy hwy=>zhB hy hwy)
 exact ⟨l,a,c,hl,hr,zaX (show 0 < Tryz.prog.bytesOf 59 by rw [show Tryz.prog.bytesOf 59=32 by kernel_rfl];decide) hc,hq⟩
end
end Go.Proofs.YtkmlfkbpcgkpaaaGreatDoor
namespace Go.Proofs.YtkmlfkbpcgkpaaaGreatDoor
open Go.ChangeShapes Go.WideShapes Go.ChangeAt Go.RowKit Go.Lib Go.Joins
theorem zkk : ownKnob Tryz.prog.godebug=none:=by kernel_rfl
theorem za7 : laidOutB Tryz.prog=true:=by kernel_rfl
def laidR {H : Type} : List (String × DataW H):=[("augury/value.holds",Rows.laid_augury_value_holds)]
theorem ze3 (os : Os) (args : Array Value) : laidMetH Tryz.prog laidR ((World.doorLaid Tryz.prog 20 os).forCall (fun _ _=>0) ⟨#[],args,[]⟩).memory :=
 laidMetH_of_parts3 (fuel:=8) (laidMet_of_run' 8 (by kernel_rfl) (by kernel_rfl)) (by kernel_rfl) (by kernel_rfl)
end Go.Proofs.YtkmlfkbpcgkpaaaGreatDoor
namespace Go.Proofs.YtkmlfkbpcgkpaaaGreatDoor
open Go.Lib
section
variable {E : Nat} {s : RS}
theorem zay (k : Nat) (b : List UInt8) : (takeT E s k b).2.l <:+ s.l:=by
 unfold takeT
 split
 ·exact List.tail_suffix _
 ·exact List.suffix_refl _
theorem zbr : (failT E s).l <:+ s.l:=List.nil_suffix
theorem zaz (k : Nat) (b : List UInt8) : (needT E s k b).l <:+ s.l:=by
 unfold needT
 split
 ·exact zay k b
 ·exact List.nil_suffix
theorem zfq (k : Nat) : (ofT E s k).2.l <:+ s.l:=by
 unfold ofT
 split
 ·exact List.tail_suffix _
 ·exact zbr
theorem numberT_suf : (numberT E s).2.l <:+ s.l:=zfq 2
theorem nameT_suf : (nameT E s).2.l <:+ s.l:=by
 unfold nameT
 refine (zfq 1).trans ?_
 split
 ·exact zbr
 ·exact List.suffix_refl _
theorem zaA (k : Nat) : ∀ (l : List (List UInt8)) (n : Nat),(amongT E s k n l).2.l <:+ s.l
 | [],n=>List.suffix_refl _
 | b :: r,n=>by
   rw [amongT]
   split
   ·exact zay k b
   ·exact zaA k r (n+1)
theorem zcJ (k : Nat) (l : List (List UInt8)) : (chooseT E s k l).2.l <:+ s.l:=by
 unfold chooseT
 split
 ·exact List.nil_suffix
 ·exact zaA k l 0
theorem zdr (k : Int) : (fieldT E s k).2.l <:+ s.l:=by
 unfold fieldT
 exact nameT_suf.trans ((zaz _ _).trans nameT_suf)
theorem zhu (k : Int) : (callT E s k).2.l <:+ s.l:=by
 unfold callT
 refine (zaz _ _).trans ?_
 split
 ·exact nameT_suf.trans (zaz _ _)
 ·exact (zdr _).trans (zaz _ _)
theorem ziC : (valT E s).2.2.l <:+ s.l:=by
 unfold valT
 split
 ·exact numberT_suf
 ·split
  ·exact numberT_suf.trans (zay _ _)
  ·split
   ·exact zfq 3
   ·split
    ·exact zay _ _
    ·split
     ·exact zay _ _
     ·exact List.suffix_refl _
theorem zel {E : Nat} {tm : RS→PEx × RS} (ht : ∀ s,(tm s).2.l <:+ s.l) : ∀ (n : Nat) (x : PEx) (s : RS),(sumsT E tm n x s).2.l <:+ s.l
 | 0,x,s=>List.suffix_refl _
 | n+1,x,s=>by
   rw [sumsT]
   split
   ·exact zaA _ _ _
   ·exact (zel ht n _ _).trans ((ht _).trans (zaA _ _ _))
theorem zbV {E : Nat} {tm : RS→PEx × RS} (ht : ∀ s,(tm s).2.l <:+ s.l) (n : Nat) (s : RS) : (exprT E tm n s).2.l <:+ s.l:=(zel ht n _ _).trans (ht s)
theorem zgA {E : Nat} {tm : RS→PEx × RS} (ht : ∀ s,(tm s).2.l <:+ s.l) (n : Nat) (s : RS) : (innerT E tm n s).2.l <:+ s.l:=by
 unfold innerT
 refine (zaz _ _).trans ?_
 refine (zbV ht n _).trans ?_
 refine (zaz _ _).trans ?_
 split
 ·exact zbr
 ·exact List.suffix_refl _
theorem zaZ {E : Nat} : ∀ (n : Nat) (s : RS),(termT E n s).2.l <:+ s.l
 | 0,s=>List.suffix_refl _
 | n+1,s=>by
   rw [termT]
   split
   ·exact ziC
   ·split
    ·exact zgA (zaZ n) n s
    ·split
     ·exact (zdr _).trans (zaA _ _ _)
     ·exact (zhu _).trans (zaA _ _ _)
theorem zf9 {α : Type} {b : List UInt8} {one : RS→α × RS} (hle : ∀ s,(one s).2.l <:+ s.l) : ∀ (n : Nat) (l : List α) (s : RS),(rowT E b one n l s).2.l <:+ s.l
 | 0,l,s=>List.suffix_refl _
 | n+1,l,s=>by
   rw [rowT]
   split
   ·exact (zf9 hle n _ _).trans ((hle _).trans (zay _ _))
   ·exact List.suffix_refl _
theorem zbW {α : Type} {b : List UInt8} {one : RS→α × RS} (hle : ∀ s,(one s).2.l <:+ s.l) (n : Nat) (s : RS) : (row1T E b one n s).2.l <:+ s.l:=(zf9 hle n _ _).trans (hle s)
theorem zem (n : Nat) : (itemT E n s).2.l <:+ s.l:=by
 unfold itemT
 exact (zaA _ _ _).trans (nameT_suf.trans ((zbW (fun _=>nameT_suf) n _).trans (zay _ _)))
theorem zen (n : Nat) : (predT E n s).2.l <:+ s.l:=by
 unfold predT
 exact (zbV (zaZ n) n _).trans ((zcJ _ _).trans (zbV (zaZ n) n _))
end
def SB (s : RS) : Prop:=(∀ t∈s.l,t.b.length≤1000)∧s.l.length≤500
theorem SB.suf {s s' : RS} (h : SB s) (hs : s'.l <:+ s.l) : SB s':=⟨fun t ht=>h.1 t (hs.subset ht),Nat.le_trans hs.length_le h.2⟩
section
variable {E : Nat} {s : RS}
theorem ziD (h : SB s) : (nextT E s).b.length≤1000:=by
 unfold nextT
 split
 ·simp
 ·rename_i t r hl
  exact h.1 t (by rw [hl];exact List.mem_cons_self)
theorem zi9 (h : SB s) (k : Nat) : (ofT E s k).1.length≤1000:=by
 unfold ofT
 split
 ·exact ziD h
 ·simp
theorem zbC (h : SB s) : (nameT E s).1.length≤1000:=by
 unfold nameT
 refine zi9 ?_ 1
 split
 ·exact h.suf zbr
 ·exact h
theorem zeo (h : SB s) (k : Int) : XBd (fieldT E s k).1:=by
 unfold fieldT
 have h1:=zbC (E:=E) h
 have h2:=zbC (E:=E) (s:=needT E (nameT E s).2 4 [46]) ((h.suf nameT_suf).suf (zaz _ _))
 exact .mk _ _ _ _ _ (by simp [noV]) (by omega) (by omega) (fun y hy=>by cases hy)
theorem ziE (h : SB s) (k : Int) : XBd (callT E s k).1:=by
 unfold callT
 dsimp only
 split
 ·have h1:=zbC (E:=E) (s:=needT E s 4 [40]) (h.suf (zaz _ _))
  exact .mk _ _ _ _ _ (by simp [noV]) (by omega) (by simp) (fun y hy=>by cases hy)
 ·exact zeo (h.suf (zaz _ _)) k
theorem zjx (h : SB s) : (valT E s).1.s.length≤1000:=by
 unfold valT
 split
 ·simp
 ·split
  ·simp
  ·split
   ·exact zi9 h 3
   ·split
    ·simp
    ·split
     ·simp
     ·simp [noV]
theorem zga {E : Nat} {tm : RS→PEx × RS} (ht : ∀ s,(tm s).2.l <:+ s.l) (hb : ∀ s,SB s→XBd (tm s).1) : ∀ (n : Nat) (x : PEx) (s : RS),XBd x→SB s→XBd (sumsT E tm n x s).1
 | 0,x,s,hx,_=>hx
 | n+1,x,s,hx,h=>by
   rw [sumsT]
   split
   ·exact hx
   ·have h1 : SB (amongT E s 4 0 sumsL).2:=h.suf (zaA _ _ _)
    refine zga ht hb n _ _ (.mk _ _ _ _ _ (by simp [noV]) (by simp) (by simp) (fun y hy=>?_)) (h1.suf (ht _))
    rcases List.mem_cons.1 hy with rfl|hy
    ·exact hx
    ·rw [List.mem_singleton.1 hy]
     exact hb _ h1
theorem zdL {E : Nat} {tm : RS→PEx × RS} (ht : ∀ s,(tm s).2.l <:+ s.l) (hb : ∀ s,SB s→XBd (tm s).1) (n : Nat) {s : RS} (h : SB s) : XBd (exprT E tm n s).1:=zga ht hb n _ _ (hb s h) (h.suf (ht s))
theorem zhv {E : Nat} {tm : RS→PEx × RS} (ht : ∀ s,(tm s).2.l <:+ s.l) (hb : ∀ s,SB s→XBd (tm s).1) (n : Nat) {s : RS} (h : SB s) : XBd (innerT E tm n s).1:=by
 unfold innerT
 refine zdL ht hb n ?_
 refine SB.suf ?_ (zaz (E:=E) 4 [40])
 split
 ·exact h.suf zbr
 ·exact h
theorem zdM {E : Nat} : ∀ (n : Nat) (s : RS),SB s→XBd (termT E n s).1
 | 0,s,_=>.mk _ _ _ _ _ (by simp [noV]) (by simp) (by simp) (fun y hy=>by cases hy)
 | n+1,s,h=>by
   rw [termT]
   split
   ·exact .mk _ _ _ _ _ (by have:=zjx (E:=E) h;omega) (by simp) (by simp) (fun y hy=>by cases hy)
   ·split
    ·exact zhv (zaZ n) (zdM n) n h
    ·split
     ·exact zeo (h.suf (zaA _ _ _)) _
     ·exact ziE (h.suf (zaA _ _ _)) _
theorem zhw {α : Type} {Q : α→Prop} {b : List UInt8} {one : RS→α × RS} (hs : ∀ s,(one s).2.l <:+ s.l) (hb : ∀ s,SB s→Q (one s).1) : ∀ (n : Nat) (l : List α) (s : RS),(∀ x∈l,Q x)→SB s→∀ x∈(rowT E b one n l s).1,Q x
 | 0,l,s,hl,_=>hl
 | n+1,l,s,hl,h=>by
   rw [rowT]
   split
   ·have h1 : SB (takeT E s 1 b).2:=h.suf (zay _ _)
    refine zhw hs hb n _ _ (fun x hx=>?_) (h1.suf (hs _))
    rcases List.mem_append.1 hx with hx|hx
    ·exact hl x hx
    ·rw [List.mem_singleton.1 hx]
     exact hb _ h1
   ·exact hl
theorem zdN {α : Type} {Q : α→Prop} {b : List UInt8} {one : RS→α × RS} (hs : ∀ s,(one s).2.l <:+ s.l) (hb : ∀ s,SB s→Q (one s).1) (n : Nat) {s : RS} (h : SB s) : ∀ x∈(row1T E b one n s).1,Q x :=
 zhw hs hb n _ _ (fun x hx=>by rw [List.mem_singleton.1 hx];exact hb s h) (h.suf (hs s))
theorem zgb {α : Type} {b : List UInt8} {one : RS→α × RS} (hs : ∀ s,(one s).2.l.length≤s.l.length) : ∀ (n : Nat) (l : List α) (s : RS),(rowT E b one n l s).1.length≤l.length+s.l.length
 | 0,l,s=>by show l.length≤_;omega
 | n+1,l,s=>by
   rw [rowT]
   split
   ·rename_i hc
    have h1:=zil hc (by decide)
    have h2:=hs (takeT E s 1 b).2
    have h3:=zgb (b:=b) hs n (l++[(one (takeT E s 1 b).2).1]) (one (takeT E s 1 b).2).2
    rw [List.length_append,List.length_singleton] at h3
    omega
   ·show l.length≤_;omega
theorem ziF (n : Nat) (h : SB s) : ItB (itemT E n s).1:=by
 unfold itemT
 have h5:=h.2
 have h1 : SB (takeT E s 1 wNot).2:=h.suf (zay _ _)
 have hl:=zik (E:=E) (s:=s) 1 wNot
 refine ⟨?_,fun b hb=>?_,?_⟩
 ·have h2:=zgb (E:=E) (b:=wOr) (one:=nameT E) (fun _=>zfY) n [(nameT E (takeT E s 1 wNot).2).1] (nameT E (takeT E s 1 wNot).2).2
  have h3:=zfY (E:=E) (s:=(takeT E s 1 wNot).2)
  show (row1T E wOr (nameT E) n (takeT E s 1 wNot).2).1.length≤_
  unfold row1T
  rw [List.length_singleton] at h2
  omega
 ·have:=zdN (E:=E) (Q:=fun b=>b.length≤1000) (b:=wOr) (fun _=>nameT_suf) (fun _ hs=>zbC hs) n h1 b hb
  omega
 ·have:=zbC (E:=E) (s:=(row1T E wOr (nameT E) n (takeT E s 1 wNot).2).2) (h1.suf (zbW (fun _=>nameT_suf) n _))
  show (nameT E _).1.length≤_
  omega
theorem ziG (n : Nat) (h : SB s) : PrB (predT E n s).1:=by
 unfold predT
 exact ⟨zdL (zaZ n) (zdM n) n h,zdL (zaZ n) (zdM n) n ((h.suf (zbV (zaZ n) n s)).suf (zcJ _ _))⟩
theorem zep (n : Nat) (h : SB s) : QuB (queryT E n s).1:=by
 have h0 : SB (needT E s 1 wSeq):=h.suf (zaz _ _)
 obtain ⟨a,ha⟩ : ∃ a,row1T E wThen (itemT E n) n (needT E s 1 wSeq)=a:=⟨_,rfl⟩
 have h1 : SB a.2:=by rw [← ha];exact h0.suf (zbW (fun _=>zem n) n _)
 obtain ⟨p,hp⟩ : ∃ p,(if isT E a.2 1 wWhere then row1T E wAnd (predT E n) n (takeT E a.2 1 wWhere).2 else ([],a.2))=p:=⟨_,rfl⟩
 have hp1 : (∀ x∈p.1,PrB x)∧SB p.2:=by
  rw [← hp]
  split
  ·exact ⟨zdN (fun _=>zen n) (fun _ hs=>ziG n hs) n (h1.suf (zay _ _)),(h1.suf (zay _ _)).suf (zbW (fun _=>zen n) n _)⟩
  ·exact ⟨fun x hx=>(by cases hx),h1⟩
 obtain ⟨c,hc⟩ : ∃ c,numberT E (needT E p.2 1 wWithin)=c:=⟨_,rfl⟩
 have h2 : SB c.2:=by rw [← hc];exact (hp1.2.suf (zaz _ _)).suf numberT_suf
 obtain ⟨b,hb⟩ : ∃ b,(if isT E c.2 1 wBy then nameT E (takeT E c.2 1 wBy).2 else ([],c.2))=b:=⟨_,rfl⟩
 have hb1 : b.1.length≤1000:=by
  rw [← hb]
  split
  ·exact zbC (h2.suf (zay _ _))
  ·simp
 have e : (queryT E n s).1.its=a.1∧(queryT E n s).1.prs=p.1∧(queryT E n s).1.by_=b.1:=by
  unfold queryT
  rw [ha]
  try dsimp only
  rw [hp]
  try dsimp only
  rw [hc]
  try dsimp only
  rw [hb]
  exact ⟨rfl,rfl,rfl⟩
 refine ⟨?_,?_,?_⟩
 ·rw [e.1,← ha]
  exact zdN (fun _=>zem n) (fun _ hs=>ziF n hs) n h0
 ·rw [e.2.1]
  exact hp1.1
 ·rw [e.2.2]
  omega
end
end Go.Proofs.YtkmlfkbpcgkpaaaGreatDoor
namespace Go.Proofs.YtkmlfkbpcgkpaaaGreatDoor
open Go.RowKit Go.Lib Go.Op
theorem zhs {l : List UInt8} : ∀ {a : Nat} {ts : List XTok},PlX l a ts→∀ t∈ts,t.at_+(saidX t).length≤l.length
 | _,[],_,t,ht=>by cases ht
 | _,u :: r,h,t,ht=>by
   obtain ⟨_,_,_,_,h5,_,h7⟩:=h
   rcases List.mem_cons.1 ht with rfl|ht
   ·exact h5
   ·exact zhs h7 t ht
theorem ziB (t : XTok) : t.b.length≤(saidX t).length:=by
 unfold saidX
 split
 ·simp;omega
 ·exact Nat.le_refl _
theorem zcf {c : UInt8} {r : List UInt8} (hc : xdigit c=true) (h : rightN (c :: r)=true) : ∃ v : Int,parseIntB 64 (c :: r)=.ok v∧0≤v∧v≤1099511627776:=by
 unfold xdigit at hc
 simp only [Bool.and_eq_true,decide_eq_true_eq] at hc
 unfold rightN at h
 cases hp : parseIntB 64 (c :: r) with
 | ok v =>
   rw [hp] at h
   simp only [Bool.and_eq_true,decide_eq_true_eq] at h
   refine ⟨v,rfl,?_,h.1⟩
   unfold parseIntB at hp
   dsimp only at hp
   rw [if_neg (by omega)] at hp
   split at hp
   ·cases hp
   ·cases hp
   ·split at hp
    ·cases hp
    ·split at hp
     ·cases hp
     ·rw [if_neg (by omega)] at hp
      injection hp with hp
      omega
 | _=>rw [hp] at h;cases h
theorem zht {t : XTok} (h : GoodT t) (hk : t.k=2) : ∃ v : Int,parseIntB 64 t.b=.ok v∧0≤v∧v≤1099511627776:=by
 obtain ⟨r,z,h1,h2,h3,_⟩:=h
 rw [hk] at h1 h3
 have h3' : t.b=r.take z:=h3
 cases r with
 | nil=>rw [firstX] at h1;injection h1 with e _;cases e
 | cons c u =>
   have h4 : firstC c u=(2,z):=h1
   unfold firstC at h4
   split at h4
   ·split at h4
    ·injection h4 with e _;cases e
    ·injection h4 with e _;cases e
   ·split at h4
    ·rename_i hd
     split at h4
     ·rename_i hr
      injection h4 with _ hz
      rw [hz] at hr
      obtain ⟨y,rfl⟩ : ∃ y,z=y+1:=⟨z - 1,by omega⟩
      rw [h3',List.take_succ_cons]
      rw [List.take_succ_cons] at hr
      exact zcf hd hr
     ·injection h4 with e _;cases e
    ·split at h4
     ·split at h4
      ·injection h4 with e _;cases e
      ·injection h4 with e _;cases e
     ·split at h4
      ·injection h4 with e _;cases e
      ·split at h4
       ·injection h4 with e _;cases e
       ·injection h4 with e _;cases e
theorem zdq {l : List UInt8} {ts : List XTok} {p : Nat} (h : readX l=(ts,0,p)) : (∀ t∈ts,TokOk t)∧ts.length≤128∧(∀ t∈ts,GoodT t)∧PlX l 0 ts∧l.length≤512:=by
 unfold readX at h
 split at h
 ·injection h with _ h;injection h with h _;cases h
 ·rename_i hl
  obtain ⟨h1,h2⟩:=zeq _ _ _ _ _ _ h (by omega)
  have h3:=zcK l (l.length+1) 0 0 ts p (Nat.zero_le _) (by rw [List.drop_zero];exact h)
  refine ⟨fun t ht=>?_,by omega,h1,h3,by omega⟩
  have h4:=zhs h3 t ht
  have h5:=ziB t
  exact ⟨by omega,by omega,fun hk=>zht (h1 t ht) hk⟩
def parseI (l : List UInt8) : PQu × Int × Int :=
 if (readX l).2.1≠0 then (noQ,(readX l).2.1,(readX l).2.2)
 else if (queryT l.length ((readX l).1.length+1) ⟨(readX l).1,0,-1⟩).2.wrong≠-1 then (noQ,81,(queryT l.length ((readX l).1.length+1) ⟨(readX l).1,0,-1⟩).2.wrong)
 else if rightQ (queryT l.length ((readX l).1.length+1) ⟨(readX l).1,0,-1⟩).1 then ((queryT l.length ((readX l).1.length+1) ⟨(readX l).1,0,-1⟩).1,0,0) else (noQ,2,0)
section
variable {P : Program} {ops : Array Oper} {Q : Exit→Act→World→Prop} {md : Region.Mode} {S : World→Prop}
theorem zj7 (i d : Nat) {o : Oper} {v : Value} {fuel : Nat} {listed : Array Bool} {a : Act} {w : World} (ho : ops[i]?=some o) (hs : Region.noSelect ops=true) (hf : Region.free md ops listed i=true)
 (hr : (Region.ready md ops listed).contains i=true) (hd : o.dst=some d)
 (hQ : ∀ c a w,Q (.panic c) (a.put (some d) v) w→Q (.panic c) a w) (hw : Region.wanted o (yielded ops a.tmps)=true) (hy : ∀ w,S w→(execOp a.eval o).run P w=.ok (.value v) w) (hS : S w)
 (h : wpAnyH P md ops Q S fuel (listed.setIfInBounds i true) (a.put (some d) v) w) : wpAnyH P md ops Q S (fuel+1) listed a w :=
 wpAnyH_take ho hs hf hr (by rw [hd];exact hQ) (Or.inl ⟨hw,hy⟩) hS (by rw [hd];exact h)
theorem tK (i d : Nat) {o : Oper} {v : Value} {fuel : Nat} {listed : Array Bool} {a : Act} {w : World} (ho : ops[i]?=some o:=by rfl) (hs : Region.noSelect ops=true:=by kernel_rfl) (hf : Region.free md ops listed i=true:=by kernel_rfl)
 (hr : (Region.ready md ops listed).contains i=true:=by kernel_rfl) (hd : o.dst=some d:=by rfl)
 (hQ : ∀ c a w,Q (.panic c) (a.put (some d) v) w→Q (.panic c) a w:=by exact fun _ _ _ h=>h) (hw : Region.wanted o (yielded ops a.tmps)=true:=by rfl) (hy : ∀ w,S w→(execOp a.eval o).run P w=.ok (.value v) w:=by (intro W hSw;(try dsimp only at hSw);(try go_split_ands);go_simp;(try rw [if_neg (by omega)]);try with_reducible rfl)) (hS : S w:=by assumption)
 (h : wpAnyH P md ops Q S fuel (listed.setIfInBounds i true) (a.put (some d) v) w) : wpAnyH P md ops Q S (fuel+1) listed a w:=zj7 i d ho hs hf hr hd hQ hw hy hS h
theorem sI {α : Type _} {l : List α} {i : Nat} {a : α} : l.toArray.setIfInBounds i a=(l.set i a).toArray:=by simp
theorem sZ {α : Type _} {x y : α} {l : List α} : (x :: l).set 0 y=y :: l:=rfl
theorem sS {α : Type _} {x y : α} {l : List α} {n : Nat} : (x :: l).set (n+1) y=x :: l.set n y:=rfl
end
def PaTo (p : PQu × Int × Int) (w : World) (e : Ending) (w' : World) : Prop:=∃ a q c b r d,e=.returned (.tuple #[.agg #[.slice a q c,.slice b r d,.int .i64 p.1.within,.string (strB p.1.by_),.int .i64 p.1.pick],.int .i64 p.2.1,.int .i64 p.2.2])∧QuAt (· < w.heap.size) w' a q c b r d p.1∧Below w.heap.size w w'
theorem PaTo.zero {w w' : World} {x y : Int} (hb : Below w.heap.size w w') : PaTo (noQ,x,y) w (.returned (.tuple #[.agg #[.slice none 0 0,.slice none 0 0,.int .i64 0,.string ⟨#[]⟩,.int .i64 0],.int .i64 x,.int .i64 y])) w' :=
 ⟨Option.none,0,0,Option.none,0,0,rfl,⟨RowK.nil _ _ _,RowK.nil _ _ _⟩,hb⟩
theorem bset {w w' : World} (h : Below w.heap.size w w') {b : Nat} (hb : w.heap.size≤b) (k : Nat) (v : Value) : Below w.heap.size w (w'.setCell ⟨b,k,none⟩ v):=h.setCell (p:=⟨b,k,none⟩) hb v
theorem zhr {w w' : World} (h : Below w.heap.size w w') {b : Nat} (hb : w.heap.size≤b) (v0 v1 v2 v3 v4 : Value) : Below w.heap.size w (((((w'.setCell ⟨b,0,none⟩ v0).setCell ⟨b,1,none⟩ v1).setCell ⟨b,2,none⟩ v2).setCell ⟨b,3,none⟩ v3).setCell ⟨b,4,none⟩ v4) :=
 bset (bset (bset (bset (bset h hb _ _) hb _ _) hb _ _) hb _ _) hb _ _
theorem zek {W : World} {g b k : Nat} {u : Value} (hne : g≠b) (h : W.cell? ⟨g,k,none⟩=some u) (v0 v1 v2 v3 v4 : Value) : (((((W.setCell ⟨b,0,none⟩ v0).setCell ⟨b,1,none⟩ v1).setCell ⟨b,2,none⟩ v2).setCell ⟨b,3,none⟩ v3).setCell ⟨b,4,none⟩ v4).cell? ⟨g,k,none⟩=some u :=
 (TFr.at b 4 v4).cell ((TFr.at b 3 v3).cell ((TFr.at b 2 v2).cell ((TFr.at b 1 v1).cell ((TFr.at b 0 v0).cell h hne) hne) hne) hne) hne
end Go.Proofs.YtkmlfkbpcgkpaaaGreatDoor
namespace Go.Proofs.YtkmlfkbpcgkpaaaGreatDoor
open Go.RowKit Go.Lib Go.Op Go.Shelf
end Go.Proofs.YtkmlfkbpcgkpaaaGreatDoor
namespace Go.Proofs.YtkmlfkbpcgkpaaaGreatDoor
open Go.RowKit Go.Lib Go.Op Go.Shelf Go.Sort
end Go.Proofs.YtkmlfkbpcgkpaaaGreatDoor
namespace Go.Proofs.YtkmlfkbpcgkpaaaGreatDoor
open Go.RowKit Go.Lib Go.Op
section
variable {w : World} {a : Option Addr} {c n : Nat} {v : PVal} {x f : List UInt8}
end
section
variable {w : World} {c : Nat} {v : PVal} {x f : List UInt8}
end
section
variable {w : World} {a : Option Addr} {c n : Nat} {x : List UInt8} {mode : Int}
end
section
variable {w : World} {a b : Option Addr} {q c r d : Nat} {p : PPr}
end
section
variable {w : World} {a b : Option Addr} {q c r d : Nat} {wi pk : Int} {bb : List UInt8} {ti tp tf pt : ByteArray}
end
section
variable {w : World} {a : Option Addr} {c n : Nat} {v : PVal} {x f : List UInt8}
end
section
variable {w : World} {g o n c : Nat} {a : Option Addr}
end
def keyV (k : Option Addr × Nat) : Value:=.agg #[.pointer k.1,.int .i64 k.2]
def KBlk (w : World) (k : Option Addr × Nat) : Prop:=∀ a,k.1=some a→∃ cs t,w.heap[a.block]?=some (.cells cs t (0,0))
structure DEs (W : World) (es : List MapEntry) (f : Option Addr × Nat→Int) : Prop where
 ent : ∀ e∈es,∃ k,e.key=keyV k∧KBlk W k∧e.val=.int .i64 (f k)
 has : ∀ k,f k≠0→∃ e∈es,e.key=keyV k
 one : es.Pairwise (fun a b=>a.key≠b.key)
def DMap (W : World) (m : Nat) (f : Option Addr × Nat→Int) : Prop:=∃ es clock,W.heap[m]?=some (.map es clock)∧DEs W es.toList f
def updF (f : Option Addr × Nat→Int) (k : Option Addr × Nat) (v : Int) : Option Addr × Nat→Int:=fun l=>if l=k then v else f l
def KeysIn (W : World) (m L : Nat) : Prop:=∀ es c,W.heap[m]?=some (.map es c)→∀ e∈es.toList,∀ k,e.key=keyV k→∀ a,k.1=some a→a.block < L
end Go.Proofs.YtkmlfkbpcgkpaaaGreatDoor
