/- Queries: which expressions are right, as the document asks, by their kinds. | Queries: which expressions are right, as the document asks: texts where none may stand. | Queries: which queries are right. | Queries in plain words: what is left is an end of what was; texts are no longer than tokens. | Queries: which items are right, said as the document says it; plain. | Queries that came in: expressions, items, predicates. -/
import Derived.Test.YtefcbgnckgapgaaGreatDoorM4
import Derived.Test.YtefcbgnckgapgaaGreatDoorM5
import Derived.ProofKit
import Derived.OpenShut
import Derived.ShutString
import Derived.Deep.Strs
import Derived.SizedLaws
namespace Go.Proofs.YtefcbgnckgapgaaGreatDoor
open Go.RowKit Go.Lib Go.Op
section
variable {w : World} {a : Option Addr} {c n : Nat} {vk vn : Int} {vs x f : List UInt8}
set_option maxHeartbeats 4000000 in
set_option maxRecDepth 100000 in
theorem rr_zero (k : Int) : Calls Tryz.prog 61 #[.agg #[.int .i64 k,.int .i64 vk,.int .i64 vn,.string (strB vs),.string (strB x),.string (strB f),.slice a n c],.int .i64 0] w fun e w'=>e=.returned (.bool false)∧Below w.heap.size w w':=by
 go_enter Tryz.func61,Tryz.ntmps61
 go_wp2
 all_goals
  go_ret
  exact ⟨rfl,(Below.refl w.heap.size w).alloc (Nat.le_refl _) _⟩
set_option maxHeartbeats 4000000 in
set_option maxRecDepth 100000 in
theorem rr_valk (m : Nat) (hm : 0 < m) (hm7 : m≤100) {k : Int} (hk : ¬ k=1) (hv : ¬ vk=0) : Calls Tryz.prog 61 #[.agg #[.int .i64 k,.int .i64 vk,.int .i64 vn,.string (strB vs),.string (strB x),.string (strB f),.slice a n c],.int .i64 m] w fun e w'=>e=.returned (.bool false)∧Below w.heap.size w w':=by
 have ht : decide ((m : Int) < 1)=false:=by rw [decide_eq_false_iff_not];omega
 go_enter Tryz.func61,Tryz.ntmps61
 go_wp2
 all_goals
  go_ret
  exact ⟨rfl,(Below.refl w.heap.size w).alloc (Nat.le_refl _) _⟩
set_option maxHeartbeats 4000000 in
set_option maxRecDepth 100000 in
theorem rr_valn (m : Nat) (hm : 0 < m) (hm7 : m≤100) {k : Int} (hk : ¬ k=1) (hv : ¬ vn=0) : Calls Tryz.prog 61 #[.agg #[.int .i64 k,.int .i64 0,.int .i64 vn,.string (strB vs),.string (strB x),.string (strB f),.slice a n c],.int .i64 m] w fun e w'=>e=.returned (.bool false)∧Below w.heap.size w w':=by
 have ht : decide ((m : Int) < 1)=false:=by rw [decide_eq_false_iff_not];omega
 go_enter Tryz.func61,Tryz.ntmps61
 go_wp2
 all_goals
  go_ret
  exact ⟨rfl,(Below.refl w.heap.size w).alloc (Nat.le_refl _) _⟩
set_option maxHeartbeats 4000000 in
set_option maxRecDepth 100000 in
theorem rr_vals (m : Nat) (hm : 0 < m) (hm7 : m≤100) {k : Int} (hk : ¬ k=1) (hv : ¬ (strB vs).toList=[]) : Calls Tryz.prog 61 #[.agg #[.int .i64 k,.int .i64 0,.int .i64 0,.string (strB vs),.string (strB x),.string (strB f),.slice a n c],.int .i64 m] w fun e w'=>e=.returned (.bool false)∧Below w.heap.size w w':=by
 have ht : decide ((m : Int) < 1)=false:=by rw [decide_eq_false_iff_not];omega
 go_enter Tryz.func61,Tryz.ntmps61
 go_wp2
 all_goals
  go_ret
  exact ⟨rfl,(Below.refl w.heap.size w).alloc (Nat.le_refl _) _⟩
set_option maxHeartbeats 4000000 in
set_option maxRecDepth 100000 in
theorem rr_kids (m : Nat) (hm : 0 < m) (hm7 : m≤100) {k : Int} (hk7 : ¬ k=7) (hk8 : ¬ k=8) (hn : 0 < n) : Calls Tryz.prog 61 #[.agg #[.int .i64 k,.int .i64 vk,.int .i64 vn,.string (strB vs),.string (strB x),.string (strB f),.slice a n c],.int .i64 m] w fun e w'=>e=.returned (.bool false)∧Below w.heap.size w w':=by
 have ht : decide ((m : Int) < 1)=false:=by rw [decide_eq_false_iff_not];omega
 go_enter Tryz.func61,Tryz.ntmps61
 go_wp2
 all_goals
  go_ret
  exact ⟨rfl,(Below.refl w.heap.size w).alloc (Nat.le_refl _) _⟩
set_option maxHeartbeats 4000000 in
set_option maxRecDepth 100000 in
theorem rr_field2 (m : Nat) (hm : 0 < m) (hm7 : m≤100) (hx : x.length≤1000000) (hf : f.length≤1000000) : Calls Tryz.prog 61 #[.agg #[.int .i64 2,.int .i64 0,.int .i64 0,.string ⟨#[]⟩,.string (strB x),.string (strB f),.slice a 0 c],.int .i64 m] w fun e w'=>e=.returned (.bool (nameB x && nameB f))∧Below w.heap.size w w':=by
 have ht : decide ((m : Int) < 1)=false:=by rw [decide_eq_false_iff_not];omega
 have hb0:=(Below.refl w.heap.size w).alloc (Nat.le_refl _) (.cells #[.int .i64 2,.int .i64 0,.int .i64 0,.string ⟨#[]⟩,.string (strB x),.string (strB f),.slice a 0 c] 40)
 have m4:=tnew w #[.int .i64 2,.int .i64 0,.int .i64 0,.string ⟨#[]⟩,.string (strB x),.string (strB f),.slice a 0 c] 40 4 rfl
 have HM5:=hid (tnew w #[.int .i64 2,.int .i64 0,.int .i64 0,.string ⟨#[]⟩,.string (strB x),.string (strB f),.slice a 0 c] 40 5 rfl)
 have HB0:=hid hb0
 have HNx:=hid (fun W=>rname_calls' x W hx)
 have HNf:=hid (fun W=>rname_calls' f W hf)
 obtain ⟨r1,h1⟩ : ∃ r,nameB x=r:=⟨_,rfl⟩
 obtain ⟨r2,h2⟩ : ∃ r,nameB f=r:=⟨_,rfl⟩
 rw [h1] at HNx ⊢
 rw [h2] at HNf ⊢
 clear hb0 h1 h2 hx hf hm hm7 m4
 cases r1
 ·go_enter Tryz.func61,Tryz.ntmps61
  go_wp2_with fail
  with_reducible refine (HNx.out _).mono ?_
  rintro e w1 ⟨rfl,hb1⟩
  have HB1:=hid (HB0.out.trans (hb1.mono HB0.out.size))
  clear hb1
  go_wp2
  go_ret
  exact ⟨rfl,HB1.out⟩
 ·go_enter Tryz.func61,Tryz.ntmps61
  go_wp2_with fail
  with_reducible refine (HNx.out _).mono ?_
  rintro e w1 ⟨rfl,hb1⟩
  have m5:=tkeep hb1 HM5.out
  have HB1:=hid (HB0.out.trans (hb1.mono HB0.out.size))
  clear hb1
  go_wp2_with fail
  with_reducible refine (HNf.out _).mono ?_
  rintro e w2 ⟨rfl,hb2⟩
  have HB2:=hid (HB1.out.trans (hb2.mono HB1.out.size))
  clear hb2
  go_wp2
  go_ret
  exact ⟨rfl,HB2.out⟩
set_option maxHeartbeats 4000000 in
set_option maxRecDepth 100000 in
theorem rr_field4 (m : Nat) (hm : 0 < m) (hm7 : m≤100) (hx : x.length≤1000000) (hf : f.length≤1000000) : Calls Tryz.prog 61 #[.agg #[.int .i64 4,.int .i64 0,.int .i64 0,.string ⟨#[]⟩,.string (strB x),.string (strB f),.slice a 0 c],.int .i64 m] w fun e w'=>e=.returned (.bool (nameB x && nameB f))∧Below w.heap.size w w':=by
 have ht : decide ((m : Int) < 1)=false:=by rw [decide_eq_false_iff_not];omega
 have hb0:=(Below.refl w.heap.size w).alloc (Nat.le_refl _) (.cells #[.int .i64 4,.int .i64 0,.int .i64 0,.string ⟨#[]⟩,.string (strB x),.string (strB f),.slice a 0 c] 40)
 have m4:=tnew w #[.int .i64 4,.int .i64 0,.int .i64 0,.string ⟨#[]⟩,.string (strB x),.string (strB f),.slice a 0 c] 40 4 rfl
 have HM5:=hid (tnew w #[.int .i64 4,.int .i64 0,.int .i64 0,.string ⟨#[]⟩,.string (strB x),.string (strB f),.slice a 0 c] 40 5 rfl)
 have HB0:=hid hb0
 have HNx:=hid (fun W=>rname_calls' x W hx)
 have HNf:=hid (fun W=>rname_calls' f W hf)
 obtain ⟨r1,h1⟩ : ∃ r,nameB x=r:=⟨_,rfl⟩
 obtain ⟨r2,h2⟩ : ∃ r,nameB f=r:=⟨_,rfl⟩
 rw [h1] at HNx ⊢
 rw [h2] at HNf ⊢
 clear hb0 h1 h2 hx hf hm hm7 m4
 cases r1
 ·go_enter Tryz.func61,Tryz.ntmps61
  go_wp2_with fail
  with_reducible refine (HNx.out _).mono ?_
  rintro e w1 ⟨rfl,hb1⟩
  have HB1:=hid (HB0.out.trans (hb1.mono HB0.out.size))
  clear hb1
  go_wp2
  go_ret
  exact ⟨rfl,HB1.out⟩
 ·go_enter Tryz.func61,Tryz.ntmps61
  go_wp2_with fail
  with_reducible refine (HNx.out _).mono ?_
  rintro e w1 ⟨rfl,hb1⟩
  have m5:=tkeep hb1 HM5.out
  have HB1:=hid (HB0.out.trans (hb1.mono HB0.out.size))
  clear hb1
  go_wp2_with fail
  with_reducible refine (HNf.out _).mono ?_
  rintro e w2 ⟨rfl,hb2⟩
  have HB2:=hid (HB1.out.trans (hb2.mono HB1.out.size))
  clear hb2
  go_wp2
  go_ret
  exact ⟨rfl,HB2.out⟩
set_option maxHeartbeats 4000000 in
set_option maxRecDepth 100000 in
theorem rr_field5 (m : Nat) (hm : 0 < m) (hm7 : m≤100) (hx : x.length≤1000000) (hf : f.length≤1000000) : Calls Tryz.prog 61 #[.agg #[.int .i64 5,.int .i64 0,.int .i64 0,.string ⟨#[]⟩,.string (strB x),.string (strB f),.slice a 0 c],.int .i64 m] w fun e w'=>e=.returned (.bool (nameB x && nameB f))∧Below w.heap.size w w':=by
 have ht : decide ((m : Int) < 1)=false:=by rw [decide_eq_false_iff_not];omega
 have hb0:=(Below.refl w.heap.size w).alloc (Nat.le_refl _) (.cells #[.int .i64 5,.int .i64 0,.int .i64 0,.string ⟨#[]⟩,.string (strB x),.string (strB f),.slice a 0 c] 40)
 have m4:=tnew w #[.int .i64 5,.int .i64 0,.int .i64 0,.string ⟨#[]⟩,.string (strB x),.string (strB f),.slice a 0 c] 40 4 rfl
 have HM5:=hid (tnew w #[.int .i64 5,.int .i64 0,.int .i64 0,.string ⟨#[]⟩,.string (strB x),.string (strB f),.slice a 0 c] 40 5 rfl)
 have HB0:=hid hb0
 have HNx:=hid (fun W=>rname_calls' x W hx)
 have HNf:=hid (fun W=>rname_calls' f W hf)
 obtain ⟨r1,h1⟩ : ∃ r,nameB x=r:=⟨_,rfl⟩
 obtain ⟨r2,h2⟩ : ∃ r,nameB f=r:=⟨_,rfl⟩
 rw [h1] at HNx ⊢
 rw [h2] at HNf ⊢
 clear hb0 h1 h2 hx hf hm hm7 m4
 cases r1
 ·go_enter Tryz.func61,Tryz.ntmps61
  go_wp2_with fail
  with_reducible refine (HNx.out _).mono ?_
  rintro e w1 ⟨rfl,hb1⟩
  have HB1:=hid (HB0.out.trans (hb1.mono HB0.out.size))
  clear hb1
  go_wp2
  go_ret
  exact ⟨rfl,HB1.out⟩
 ·go_enter Tryz.func61,Tryz.ntmps61
  go_wp2_with fail
  with_reducible refine (HNx.out _).mono ?_
  rintro e w1 ⟨rfl,hb1⟩
  have m5:=tkeep hb1 HM5.out
  have HB1:=hid (HB0.out.trans (hb1.mono HB0.out.size))
  clear hb1
  go_wp2_with fail
  with_reducible refine (HNf.out _).mono ?_
  rintro e w2 ⟨rfl,hb2⟩
  have HB2:=hid (HB1.out.trans (hb2.mono HB1.out.size))
  clear hb2
  go_wp2
  go_ret
  exact ⟨rfl,HB2.out⟩
set_option maxHeartbeats 4000000 in
set_option maxRecDepth 100000 in
theorem rr_field6 (m : Nat) (hm : 0 < m) (hm7 : m≤100) (hx : x.length≤1000000) (hf : f.length≤1000000) : Calls Tryz.prog 61 #[.agg #[.int .i64 6,.int .i64 0,.int .i64 0,.string ⟨#[]⟩,.string (strB x),.string (strB f),.slice a 0 c],.int .i64 m] w fun e w'=>e=.returned (.bool (nameB x && nameB f))∧Below w.heap.size w w':=by
 have ht : decide ((m : Int) < 1)=false:=by rw [decide_eq_false_iff_not];omega
 have hb0:=(Below.refl w.heap.size w).alloc (Nat.le_refl _) (.cells #[.int .i64 6,.int .i64 0,.int .i64 0,.string ⟨#[]⟩,.string (strB x),.string (strB f),.slice a 0 c] 40)
 have m4:=tnew w #[.int .i64 6,.int .i64 0,.int .i64 0,.string ⟨#[]⟩,.string (strB x),.string (strB f),.slice a 0 c] 40 4 rfl
 have HM5:=hid (tnew w #[.int .i64 6,.int .i64 0,.int .i64 0,.string ⟨#[]⟩,.string (strB x),.string (strB f),.slice a 0 c] 40 5 rfl)
 have HB0:=hid hb0
 have HNx:=hid (fun W=>rname_calls' x W hx)
 have HNf:=hid (fun W=>rname_calls' f W hf)
 obtain ⟨r1,h1⟩ : ∃ r,nameB x=r:=⟨_,rfl⟩
 obtain ⟨r2,h2⟩ : ∃ r,nameB f=r:=⟨_,rfl⟩
 rw [h1] at HNx ⊢
 rw [h2] at HNf ⊢
 clear hb0 h1 h2 hx hf hm hm7 m4
 cases r1
 ·go_enter Tryz.func61,Tryz.ntmps61
  go_wp2_with fail
  with_reducible refine (HNx.out _).mono ?_
  rintro e w1 ⟨rfl,hb1⟩
  have HB1:=hid (HB0.out.trans (hb1.mono HB0.out.size))
  clear hb1
  go_wp2
  go_ret
  exact ⟨rfl,HB1.out⟩
 ·go_enter Tryz.func61,Tryz.ntmps61
  go_wp2_with fail
  with_reducible refine (HNx.out _).mono ?_
  rintro e w1 ⟨rfl,hb1⟩
  have m5:=tkeep hb1 HM5.out
  have HB1:=hid (HB0.out.trans (hb1.mono HB0.out.size))
  clear hb1
  go_wp2_with fail
  with_reducible refine (HNf.out _).mono ?_
  rintro e w2 ⟨rfl,hb2⟩
  have HB2:=hid (HB1.out.trans (hb2.mono HB1.out.size))
  clear hb2
  go_wp2
  go_ret
  exact ⟨rfl,HB2.out⟩
set_option maxHeartbeats 4000000 in
set_option maxRecDepth 100000 in
theorem rr_count (m : Nat) (hm : 0 < m) (hm7 : m≤100) (hx : x.length≤1000000) : Calls Tryz.prog 61 #[.agg #[.int .i64 3,.int .i64 0,.int .i64 0,.string ⟨#[]⟩,.string (strB x),.string (strB f),.slice a 0 c],.int .i64 m] w fun e w'=>e=.returned (.bool (decide (f=[]) && nameB x))∧Below w.heap.size w w':=by
 have ht : decide ((m : Int) < 1)=false:=by rw [decide_eq_false_iff_not];omega
 have hb0:=(Below.refl w.heap.size w).alloc (Nat.le_refl _) (.cells #[.int .i64 3,.int .i64 0,.int .i64 0,.string ⟨#[]⟩,.string (strB x),.string (strB f),.slice a 0 c] 40)
 have HM5:=hid (tnew w #[.int .i64 3,.int .i64 0,.int .i64 0,.string ⟨#[]⟩,.string (strB x),.string (strB f),.slice a 0 c] 40 5 rfl)
 have HB0:=hid hb0
 have HNx:=hid (fun W=>rname_calls' x W hx)
 obtain ⟨r1,h1⟩ : ∃ r,nameB x=r:=⟨_,rfl⟩
 rw [h1] at HNx ⊢
 clear hb0 h1 hx hm hm7
 cases r1
 ·rw [Bool.and_false]
  go_enter Tryz.func61,Tryz.ntmps61
  go_wp2_with fail
  with_reducible refine (HNx.out _).mono ?_
  rintro e w1 ⟨rfl,hb1⟩
  have HB1:=hid (HB0.out.trans (hb1.mono HB0.out.size))
  clear hb1
  go_wp2
  go_ret
  exact ⟨rfl,HB1.out⟩
 ·rw [Bool.and_true]
  by_cases hf : f=[]
  ·subst hf
   rw [decide_eq_true rfl]
   go_enter Tryz.func61,Tryz.ntmps61
   go_wp2_with fail
   with_reducible refine (HNx.out _).mono ?_
   rintro e w1 ⟨rfl,hb1⟩
   have m5 : w1.cell? ⟨w.heap.size,5,none⟩=some (.string ⟨#[]⟩):=tkeep hb1 HM5.out
   have HB1:=hid (HB0.out.trans (hb1.mono HB0.out.size))
   clear hb1
   go_wp2
   go_ret
   exact ⟨rfl,HB1.out⟩
  ·rw [decide_eq_false hf]
   have hf2 : ¬ (strB f).toList=[]:=fun h=>hf ((tB_list f).symm.trans h)
   go_enter Tryz.func61,Tryz.ntmps61
   go_wp2_with fail
   with_reducible refine (HNx.out _).mono ?_
   rintro e w1 ⟨rfl,hb1⟩
   have m5:=tkeep hb1 HM5.out
   have HB1:=hid (HB0.out.trans (hb1.mono HB0.out.size))
   clear hb1
   have hfe : (strB f).toList.isEmpty=false:=by
    rw [Bool.eq_false_iff]
    intro h
    exact hf2 (List.isEmpty_iff.1 h)
   go_wp2
   go_ret
   exact ⟨by first|rfl|exact congrArg (fun b=>Ending.returned (.bool b)) hfe,HB1.out⟩
end
end Go.Proofs.YtefcbgnckgapgaaGreatDoor
namespace Go.Proofs.YtefcbgnckgapgaaGreatDoor
open Go.RowKit Go.Lib Go.Op
section
variable {w : World} {a : Option Addr} {c n : Nat} {vk vn : Int} {vs x f : List UInt8}
set_option maxHeartbeats 4000000 in
set_option maxRecDepth 100000 in
theorem rr_onex (m : Nat) (hm : 0 < m) (hm7 : m≤100) (hx : ¬ (strB x).toList=[]) : Calls Tryz.prog 61 #[.agg #[.int .i64 1,.int .i64 vk,.int .i64 vn,.string (strB vs),.string (strB x),.string (strB f),.slice a 0 c],.int .i64 m] w fun e w'=>e=.returned (.bool false)∧Below w.heap.size w w':=by
 have ht : decide ((m : Int) < 1)=false:=by rw [decide_eq_false_iff_not];omega
 have hye : (strB x).toList.isEmpty=false:=by
  rw [Bool.eq_false_iff]
  intro h
  exact hx (List.isEmpty_iff.1 h)
 go_enter Tryz.func61,Tryz.ntmps61
 go_wp2
 all_goals
  go_ret
  exact ⟨rfl,(Below.refl w.heap.size w).alloc (Nat.le_refl _) _⟩
set_option maxHeartbeats 4000000 in
set_option maxRecDepth 100000 in
theorem rr_onef (m : Nat) (hm : 0 < m) (hm7 : m≤100) (hf : ¬ (strB f).toList=[]) : Calls Tryz.prog 61 #[.agg #[.int .i64 1,.int .i64 vk,.int .i64 vn,.string (strB vs),.string ⟨#[]⟩,.string (strB f),.slice a 0 c],.int .i64 m] w fun e w'=>e=.returned (.bool false)∧Below w.heap.size w w':=by
 have ht : decide ((m : Int) < 1)=false:=by rw [decide_eq_false_iff_not];omega
 have hye : (strB f).toList.isEmpty=false:=by
  rw [Bool.eq_false_iff]
  intro h
  exact hf (List.isEmpty_iff.1 h)
 go_enter Tryz.func61,Tryz.ntmps61
 go_wp2
 all_goals
  go_ret
  exact ⟨rfl,(Below.refl w.heap.size w).alloc (Nat.le_refl _) _⟩
set_option maxHeartbeats 4000000 in
set_option maxRecDepth 100000 in
theorem rr_sum7x (m : Nat) (hm : 0 < m) (hm7 : m≤100) (hx : ¬ (strB x).toList=[]) : Calls Tryz.prog 61 #[.agg #[.int .i64 7,.int .i64 0,.int .i64 0,.string ⟨#[]⟩,.string (strB x),.string (strB f),.slice a n c],.int .i64 m] w fun e w'=>e=.returned (.bool false)∧Below w.heap.size w w':=by
 have ht : decide ((m : Int) < 1)=false:=by rw [decide_eq_false_iff_not];omega
 have hye : (strB x).toList.isEmpty=false:=by
  rw [Bool.eq_false_iff]
  intro h
  exact hx (List.isEmpty_iff.1 h)
 go_enter Tryz.func61,Tryz.ntmps61
 go_wp2
 all_goals
  go_ret
  exact ⟨rfl,(Below.refl w.heap.size w).alloc (Nat.le_refl _) _⟩
set_option maxHeartbeats 4000000 in
set_option maxRecDepth 100000 in
theorem rr_sum7f (m : Nat) (hm : 0 < m) (hm7 : m≤100) (hf : ¬ (strB f).toList=[]) : Calls Tryz.prog 61 #[.agg #[.int .i64 7,.int .i64 0,.int .i64 0,.string ⟨#[]⟩,.string ⟨#[]⟩,.string (strB f),.slice a n c],.int .i64 m] w fun e w'=>e=.returned (.bool false)∧Below w.heap.size w w':=by
 have ht : decide ((m : Int) < 1)=false:=by rw [decide_eq_false_iff_not];omega
 have hye : (strB f).toList.isEmpty=false:=by
  rw [Bool.eq_false_iff]
  intro h
  exact hf (List.isEmpty_iff.1 h)
 go_enter Tryz.func61,Tryz.ntmps61
 go_wp2
 all_goals
  go_ret
  exact ⟨rfl,(Below.refl w.heap.size w).alloc (Nat.le_refl _) _⟩
set_option maxHeartbeats 4000000 in
set_option maxRecDepth 100000 in
theorem rr_sum8x (m : Nat) (hm : 0 < m) (hm7 : m≤100) (hx : ¬ (strB x).toList=[]) : Calls Tryz.prog 61 #[.agg #[.int .i64 8,.int .i64 0,.int .i64 0,.string ⟨#[]⟩,.string (strB x),.string (strB f),.slice a n c],.int .i64 m] w fun e w'=>e=.returned (.bool false)∧Below w.heap.size w w':=by
 have ht : decide ((m : Int) < 1)=false:=by rw [decide_eq_false_iff_not];omega
 have hye : (strB x).toList.isEmpty=false:=by
  rw [Bool.eq_false_iff]
  intro h
  exact hx (List.isEmpty_iff.1 h)
 go_enter Tryz.func61,Tryz.ntmps61
 go_wp2
 all_goals
  go_ret
  exact ⟨rfl,(Below.refl w.heap.size w).alloc (Nat.le_refl _) _⟩
set_option maxHeartbeats 4000000 in
set_option maxRecDepth 100000 in
theorem rr_sum8f (m : Nat) (hm : 0 < m) (hm7 : m≤100) (hf : ¬ (strB f).toList=[]) : Calls Tryz.prog 61 #[.agg #[.int .i64 8,.int .i64 0,.int .i64 0,.string ⟨#[]⟩,.string ⟨#[]⟩,.string (strB f),.slice a n c],.int .i64 m] w fun e w'=>e=.returned (.bool false)∧Below w.heap.size w w':=by
 have ht : decide ((m : Int) < 1)=false:=by rw [decide_eq_false_iff_not];omega
 have hye : (strB f).toList.isEmpty=false:=by
  rw [Bool.eq_false_iff]
  intro h
  exact hf (List.isEmpty_iff.1 h)
 go_enter Tryz.func61,Tryz.ntmps61
 go_wp2
 all_goals
  go_ret
  exact ⟨rfl,(Below.refl w.heap.size w).alloc (Nat.le_refl _) _⟩
set_option maxHeartbeats 4000000 in
set_option maxRecDepth 100000 in
theorem rr_nonex (m : Nat) (hm : 0 < m) (hm7 : m≤100) {k : Int} (h2 : ¬ k=2) (h3 : ¬ k=3) (h4 : ¬ k=4) (h5 : ¬ k=5) (h6 : ¬ k=6) (h1 : ¬ k=1) (h7 : ¬ k=7) (h8 : ¬ k=8) (hx : ¬ (strB x).toList=[]) : Calls Tryz.prog 61 #[.agg #[.int .i64 k,.int .i64 0,.int .i64 0,.string ⟨#[]⟩,.string (strB x),.string (strB f),.slice a 0 c],.int .i64 m] w fun e w'=>e=.returned (.bool false)∧Below w.heap.size w w':=by
 have ht : decide ((m : Int) < 1)=false:=by rw [decide_eq_false_iff_not];omega
 have b1 : (k == 1)=false:=beq_eq_false_iff_ne.2 h1
 have b2 : (k == 2)=false:=beq_eq_false_iff_ne.2 h2
 have b3 : (k == 3)=false:=beq_eq_false_iff_ne.2 h3
 have b4 : (k == 4)=false:=beq_eq_false_iff_ne.2 h4
 have b5 : (k == 5)=false:=beq_eq_false_iff_ne.2 h5
 have b6 : (k == 6)=false:=beq_eq_false_iff_ne.2 h6
 have b7 : (k == 7)=false:=beq_eq_false_iff_ne.2 h7
 have b8 : (k == 8)=false:=beq_eq_false_iff_ne.2 h8
 have hye : (strB x).toList.isEmpty=false:=by
  rw [Bool.eq_false_iff]
  intro h
  exact hx (List.isEmpty_iff.1 h)
 go_enter Tryz.func61,Tryz.ntmps61
 go_wp2
 all_goals
  go_ret
  exact ⟨rfl,(Below.refl w.heap.size w).alloc (Nat.le_refl _) _⟩
set_option maxHeartbeats 4000000 in
set_option maxRecDepth 100000 in
theorem rr_nonef (m : Nat) (hm : 0 < m) (hm7 : m≤100) {k : Int} (h2 : ¬ k=2) (h3 : ¬ k=3) (h4 : ¬ k=4) (h5 : ¬ k=5) (h6 : ¬ k=6) (h1 : ¬ k=1) (h7 : ¬ k=7) (h8 : ¬ k=8) (hf : ¬ (strB f).toList=[]) : Calls Tryz.prog 61 #[.agg #[.int .i64 k,.int .i64 0,.int .i64 0,.string ⟨#[]⟩,.string ⟨#[]⟩,.string (strB f),.slice a 0 c],.int .i64 m] w fun e w'=>e=.returned (.bool false)∧Below w.heap.size w w':=by
 have ht : decide ((m : Int) < 1)=false:=by rw [decide_eq_false_iff_not];omega
 have b1 : (k == 1)=false:=beq_eq_false_iff_ne.2 h1
 have b2 : (k == 2)=false:=beq_eq_false_iff_ne.2 h2
 have b3 : (k == 3)=false:=beq_eq_false_iff_ne.2 h3
 have b4 : (k == 4)=false:=beq_eq_false_iff_ne.2 h4
 have b5 : (k == 5)=false:=beq_eq_false_iff_ne.2 h5
 have b6 : (k == 6)=false:=beq_eq_false_iff_ne.2 h6
 have b7 : (k == 7)=false:=beq_eq_false_iff_ne.2 h7
 have b8 : (k == 8)=false:=beq_eq_false_iff_ne.2 h8
 have hye : (strB f).toList.isEmpty=false:=by
  rw [Bool.eq_false_iff]
  intro h
  exact hf (List.isEmpty_iff.1 h)
 go_enter Tryz.func61,Tryz.ntmps61
 go_wp2
 all_goals
  go_ret
  exact ⟨rfl,(Below.refl w.heap.size w).alloc (Nat.le_refl _) _⟩
set_option maxHeartbeats 4000000 in
set_option maxRecDepth 100000 in
theorem rr_nonee (m : Nat) (hm : 0 < m) (hm7 : m≤100) {k : Int} (h2 : ¬ k=2) (h3 : ¬ k=3) (h4 : ¬ k=4) (h5 : ¬ k=5) (h6 : ¬ k=6) (h1 : ¬ k=1) (h7 : ¬ k=7) (h8 : ¬ k=8) : Calls Tryz.prog 61 #[.agg #[.int .i64 k,.int .i64 0,.int .i64 0,.string ⟨#[]⟩,.string ⟨#[]⟩,.string ⟨#[]⟩,.slice a 0 c],.int .i64 m] w fun e w'=>e=.returned (.bool false)∧Below w.heap.size w w':=by
 have ht : decide ((m : Int) < 1)=false:=by rw [decide_eq_false_iff_not];omega
 have b1 : (k == 1)=false:=beq_eq_false_iff_ne.2 h1
 have b2 : (k == 2)=false:=beq_eq_false_iff_ne.2 h2
 have b3 : (k == 3)=false:=beq_eq_false_iff_ne.2 h3
 have b4 : (k == 4)=false:=beq_eq_false_iff_ne.2 h4
 have b5 : (k == 5)=false:=beq_eq_false_iff_ne.2 h5
 have b6 : (k == 6)=false:=beq_eq_false_iff_ne.2 h6
 have b7 : (k == 7)=false:=beq_eq_false_iff_ne.2 h7
 have b8 : (k == 8)=false:=beq_eq_false_iff_ne.2 h8
 go_enter Tryz.func61,Tryz.ntmps61
 go_wp2
 go_loopw [7] (fun i wr=>i=.int .i64 0∧Hid (wr=w.alloc (.cells #[.int .i64 k,.int .i64 0,.int .i64 0,.string ⟨#[]⟩,.string ⟨#[]⟩,.string ⟨#[]⟩,.slice a 0 c] 40))) (fun _ _=>0)
 case atStart=>exact ⟨rfl,hid rfl⟩
 case round =>
  obtain ⟨rfl,hw⟩:=hrel
  have hw:=hw.out
  subst hw
  go_wp2
  go_ret
  exact ⟨rfl,(Below.refl w.heap.size w).alloc (Nat.le_refl _) _⟩
set_option maxHeartbeats 4000000 in
set_option maxRecDepth 100000 in
theorem rr_sum7no (m : Nat) (hm : 0 < m) (hm7 : m≤100) (hn : ¬ n=2) : Calls Tryz.prog 61 #[.agg #[.int .i64 7,.int .i64 0,.int .i64 0,.string ⟨#[]⟩,.string ⟨#[]⟩,.string ⟨#[]⟩,.slice a n c],.int .i64 m] w fun e w'=>e=.returned (.bool false)∧Below w.heap.size w w':=by
 have ht : decide ((m : Int) < 1)=false:=by rw [decide_eq_false_iff_not];omega
 have hn2 : decide (n=2)=false:=decide_eq_false hn
 go_enter Tryz.func61,Tryz.ntmps61
 go_wp2
 all_goals
  go_ret
  exact ⟨rfl,(Below.refl w.heap.size w).alloc (Nat.le_refl _) _⟩
set_option maxHeartbeats 4000000 in
set_option maxRecDepth 100000 in
theorem rr_sum8no (m : Nat) (hm : 0 < m) (hm7 : m≤100) (hn : ¬ n=2) : Calls Tryz.prog 61 #[.agg #[.int .i64 8,.int .i64 0,.int .i64 0,.string ⟨#[]⟩,.string ⟨#[]⟩,.string ⟨#[]⟩,.slice a n c],.int .i64 m] w fun e w'=>e=.returned (.bool false)∧Below w.heap.size w w':=by
 have ht : decide ((m : Int) < 1)=false:=by rw [decide_eq_false_iff_not];omega
 have hn2 : decide (n=2)=false:=decide_eq_false hn
 go_enter Tryz.func61,Tryz.ntmps61
 go_wp2
 all_goals
  go_ret
  exact ⟨rfl,(Below.refl w.heap.size w).alloc (Nat.le_refl _) _⟩
end
end Go.Proofs.YtefcbgnckgapgaaGreatDoor
namespace Go.Proofs.YtefcbgnckgapgaaGreatDoor
open Go.RowKit Go.Lib Go.Op
set_option maxHeartbeats 1000000 in
set_option maxRecDepth 100000 in
theorem containsP_calls {K : Nat→Prop} {w : World} {a : Option Addr} {c : Nat} {l : List PPr} (h : RowK predD K w (.slice a l.length c) l) (hl : l.length≤1000000) (hbd : ∀ p∈l,PrB p) :
 Calls Tryz.prog 73 #[.slice a l.length c,.func (.func 71) #[] #[]] w fun e w'=>e=.returned (.bool (!(l.all rightP)))∧Below w.heap.size w w':=by
 have HI:=hid (indexP_calls h hl hbd)
 obtain ⟨n,hn⟩ : ∃ n,l.length=n:=⟨_,rfl⟩
 obtain ⟨z,hz⟩ : ∃ z,l.all rightP=z:=⟨_,rfl⟩
 rw [hz] at HI ⊢
 rw [hn] at HI ⊢
 clear h hl hbd hn hz
 go_enter Tryz.func73,Tryz.ntmps73
 go_wp2_with fail
 with_reducible refine HI.out.mono ?_
 rintro e w1 ⟨i,rfl,hi,hb⟩
 have HB:=hid hb
 cases z with
 | false =>
   have t0 : decide (0≤i)=true:=decide_eq_true (hi.2 rfl)
   clear hb hi
   go_wp2
   go_ret
   exact ⟨rfl,HB.out⟩
 | true =>
   have t0 : decide (0≤i)=false:=decide_eq_false (fun h=>by have:=hi.1 h;simp at this)
   clear hb hi
   go_wp2
   go_ret
   exact ⟨rfl,HB.out⟩
set_option maxHeartbeats 1000000 in
set_option maxRecDepth 100000 in
theorem rightPreds_calls {K : Nat→Prop} {w : World} {a : Option Addr} {c : Nat} {l : List PPr} (h : RowK predD K w (.slice a l.length c) l) (hbd : ∀ p∈l,PrB p) :
 Calls Tryz.prog 25 #[.slice a l.length c] w fun e w'=>e=.returned (.bool (decide (l.length≤8) && l.all rightP))∧Below w.heap.size w w':=by
 by_cases h8 : l.length≤8
 ·have HC:=hid (containsP_calls h (by omega) hbd)
  rw [decide_eq_true h8,Bool.true_and]
  obtain ⟨n,hn⟩ : ∃ n,l.length=n:=⟨_,rfl⟩
  obtain ⟨z,hz⟩ : ∃ z,l.all rightP=z:=⟨_,rfl⟩
  rw [hz] at HC ⊢
  rw [hn] at HC h8 ⊢
  have t0 : decide ((n : Int)≤8)=true:=decide_eq_true (by omega)
  clear h hbd hn hz
  go_enter Tryz.func25,Tryz.ntmps25
  go_wp2_with (go_at_call 73;(with_reducible refine HC.out.mono ?_);rintro e w1 ⟨rfl,hb⟩;have HB:=hid hb;clear hb)
  go_ret
  exact ⟨tbool (by cases z <;> rfl),HB.out⟩
 ·rw [decide_eq_false h8,Bool.false_and]
  obtain ⟨n,hn⟩ : ∃ n,l.length=n:=⟨_,rfl⟩
  rw [hn] at h8 ⊢
  have t0 : decide ((n : Int)≤8)=false:=decide_eq_false (by omega)
  clear h hbd hn
  go_enter Tryz.func25,Tryz.ntmps25
  go_wp2
  go_ret
  exact ⟨rfl,Below.refl _ _⟩
section
variable {w : World} {a b : Option Addr} {q c r d : Nat} {wi pk : Int} {bb : List UInt8}
set_option maxHeartbeats 1000000 in
set_option maxRecDepth 100000 in
theorem rq_items (hI : ∀ W,Below w.heap.size w W→Calls Tryz.prog 24 #[.slice a q c] W fun e w'=>e=.returned (.bool false)∧Below W.heap.size W w') : Calls Tryz.prog 9 #[.agg #[.slice a q c,.slice b r d,.int .i64 wi,.string (strB bb),.int .i64 pk]] w fun e w'=>e=.returned (.bool false)∧Below w.heap.size w w':=by
 have hb0:=(Below.refl w.heap.size w).alloc (Nat.le_refl _) (.cells #[.slice a q c,.slice b r d,.int .i64 wi,.string (strB bb),.int .i64 pk] 26)
 have HB0:=hid hb0
 have HI:=hid (hI _ hb0)
 clear hI hb0
 go_enter Tryz.func9,Tryz.ntmps9
 go_wp2_with (go_at_call 24;(with_reducible refine HI.out.mono ?_);rintro e w1 ⟨rfl,hb1⟩;have m1:=tkeep hb1 (tnew w #[.slice a q c,.slice b r d,.int .i64 wi,.string (strB bb),.int .i64 pk] 26 1 rfl);have m2:=tkeep hb1 (tnew w #[.slice a q c,.slice b r d,.int .i64 wi,.string (strB bb),.int .i64 pk] 26 2 rfl);have m3:=tkeep hb1 (tnew w #[.slice a q c,.slice b r d,.int .i64 wi,.string (strB bb),.int .i64 pk] 26 3 rfl);have m4:=tkeep hb1 (tnew w #[.slice a q c,.slice b r d,.int .i64 wi,.string (strB bb),.int .i64 pk] 26 4 rfl);have HB1:=hid (HB0.out.trans (hb1.mono HB0.out.size));clear hb1)
 go_ret
 exact ⟨rfl,HB1.out⟩
set_option maxHeartbeats 1000000 in
set_option maxRecDepth 100000 in
theorem rq_preds (hI : ∀ W,Below w.heap.size w W→Calls Tryz.prog 24 #[.slice a q c] W fun e w'=>e=.returned (.bool true)∧Below W.heap.size W w') (hP : ∀ W,Below w.heap.size w W→Calls Tryz.prog 25 #[.slice b r d] W fun e w'=>e=.returned (.bool false)∧Below W.heap.size W w') : Calls Tryz.prog 9 #[.agg #[.slice a q c,.slice b r d,.int .i64 wi,.string (strB bb),.int .i64 pk]] w fun e w'=>e=.returned (.bool false)∧Below w.heap.size w w':=by
 have hb0:=(Below.refl w.heap.size w).alloc (Nat.le_refl _) (.cells #[.slice a q c,.slice b r d,.int .i64 wi,.string (strB bb),.int .i64 pk] 26)
 have HB0:=hid hb0
 have HI:=hid (hI _ hb0)
 have HP:=hid hP
 clear hI hb0 hP
 go_enter Tryz.func9,Tryz.ntmps9
 go_wp2_with (first
  | (go_at_call 24;(with_reducible refine HI.out.mono ?_);rintro e w1 ⟨rfl,hb1⟩;have m1:=tkeep hb1 (tnew w #[.slice a q c,.slice b r d,.int .i64 wi,.string (strB bb),.int .i64 pk] 26 1 rfl);have m2:=tkeep hb1 (tnew w #[.slice a q c,.slice b r d,.int .i64 wi,.string (strB bb),.int .i64 pk] 26 2 rfl);have m3:=tkeep hb1 (tnew w #[.slice a q c,.slice b r d,.int .i64 wi,.string (strB bb),.int .i64 pk] 26 3 rfl);have m4:=tkeep hb1 (tnew w #[.slice a q c,.slice b r d,.int .i64 wi,.string (strB bb),.int .i64 pk] 26 4 rfl);have HB1:=hid (HB0.out.trans (hb1.mono HB0.out.size));clear hb1)
  | (go_at_call 25;(with_reducible refine (HP.out _ HB1.out).mono ?_);rintro e w2 ⟨rfl,hb2⟩;have n1:=tkeep hb2 m1;have n2:=tkeep hb2 m2;have n3:=tkeep hb2 m3;have n4:=tkeep hb2 m4;have HB2:=hid (HB1.out.trans (hb2.mono HB1.out.size));clear hb2))
 go_ret
 exact ⟨rfl,HB2.out⟩
set_option maxHeartbeats 1000000 in
set_option maxRecDepth 100000 in
theorem rq_neg (hI : ∀ W,Below w.heap.size w W→Calls Tryz.prog 24 #[.slice a q c] W fun e w'=>e=.returned (.bool true)∧Below W.heap.size W w') (hP : ∀ W,Below w.heap.size w W→Calls Tryz.prog 25 #[.slice b r d] W fun e w'=>e=.returned (.bool true)∧Below W.heap.size W w') (h1 : ¬ 0≤wi) : Calls Tryz.prog 9 #[.agg #[.slice a q c,.slice b r d,.int .i64 wi,.string (strB bb),.int .i64 pk]] w fun e w'=>e=.returned (.bool false)∧Below w.heap.size w w':=by
 have hb0:=(Below.refl w.heap.size w).alloc (Nat.le_refl _) (.cells #[.slice a q c,.slice b r d,.int .i64 wi,.string (strB bb),.int .i64 pk] 26)
 have HB0:=hid hb0
 have HI:=hid (hI _ hb0)
 have HP:=hid hP
 have t1 : decide (0≤wi)=false:=decide_eq_false h1
 clear h1
 clear hI hb0 hP
 go_enter Tryz.func9,Tryz.ntmps9
 go_wp2_with (first
  | (go_at_call 24;(with_reducible refine HI.out.mono ?_);rintro e w1 ⟨rfl,hb1⟩;have m1:=tkeep hb1 (tnew w #[.slice a q c,.slice b r d,.int .i64 wi,.string (strB bb),.int .i64 pk] 26 1 rfl);have m2:=tkeep hb1 (tnew w #[.slice a q c,.slice b r d,.int .i64 wi,.string (strB bb),.int .i64 pk] 26 2 rfl);have m3:=tkeep hb1 (tnew w #[.slice a q c,.slice b r d,.int .i64 wi,.string (strB bb),.int .i64 pk] 26 3 rfl);have m4:=tkeep hb1 (tnew w #[.slice a q c,.slice b r d,.int .i64 wi,.string (strB bb),.int .i64 pk] 26 4 rfl);have HB1:=hid (HB0.out.trans (hb1.mono HB0.out.size));clear hb1)
  | (go_at_call 25;(with_reducible refine (HP.out _ HB1.out).mono ?_);rintro e w2 ⟨rfl,hb2⟩;have n1:=tkeep hb2 m1;have n2:=tkeep hb2 m2;have n3:=tkeep hb2 m3;have n4:=tkeep hb2 m4;have HB2:=hid (HB1.out.trans (hb2.mono HB1.out.size));clear hb2))
 go_ret
 exact ⟨rfl,HB2.out⟩
set_option maxHeartbeats 1000000 in
set_option maxRecDepth 100000 in
theorem rq_long (hI : ∀ W,Below w.heap.size w W→Calls Tryz.prog 24 #[.slice a q c] W fun e w'=>e=.returned (.bool true)∧Below W.heap.size W w') (hP : ∀ W,Below w.heap.size w W→Calls Tryz.prog 25 #[.slice b r d] W fun e w'=>e=.returned (.bool true)∧Below W.heap.size W w') (h1 : 0≤wi) (h2 : ¬ wi≤1099511627776) : Calls Tryz.prog 9 #[.agg #[.slice a q c,.slice b r d,.int .i64 wi,.string (strB bb),.int .i64 pk]] w fun e w'=>e=.returned (.bool false)∧Below w.heap.size w w':=by
 have hb0:=(Below.refl w.heap.size w).alloc (Nat.le_refl _) (.cells #[.slice a q c,.slice b r d,.int .i64 wi,.string (strB bb),.int .i64 pk] 26)
 have HB0:=hid hb0
 have HI:=hid (hI _ hb0)
 have HP:=hid hP
 have t1 : decide (0≤wi)=true:=decide_eq_true h1
 have t2 : decide (wi≤1099511627776)=false:=decide_eq_false h2
 clear h1 h2
 clear hI hb0 hP
 go_enter Tryz.func9,Tryz.ntmps9
 go_wp2_with (first
  | (go_at_call 24;(with_reducible refine HI.out.mono ?_);rintro e w1 ⟨rfl,hb1⟩;have m1:=tkeep hb1 (tnew w #[.slice a q c,.slice b r d,.int .i64 wi,.string (strB bb),.int .i64 pk] 26 1 rfl);have m2:=tkeep hb1 (tnew w #[.slice a q c,.slice b r d,.int .i64 wi,.string (strB bb),.int .i64 pk] 26 2 rfl);have m3:=tkeep hb1 (tnew w #[.slice a q c,.slice b r d,.int .i64 wi,.string (strB bb),.int .i64 pk] 26 3 rfl);have m4:=tkeep hb1 (tnew w #[.slice a q c,.slice b r d,.int .i64 wi,.string (strB bb),.int .i64 pk] 26 4 rfl);have HB1:=hid (HB0.out.trans (hb1.mono HB0.out.size));clear hb1)
  | (go_at_call 25;(with_reducible refine (HP.out _ HB1.out).mono ?_);rintro e w2 ⟨rfl,hb2⟩;have n1:=tkeep hb2 m1;have n2:=tkeep hb2 m2;have n3:=tkeep hb2 m3;have n4:=tkeep hb2 m4;have HB2:=hid (HB1.out.trans (hb2.mono HB1.out.size));clear hb2))
 go_ret
 exact ⟨rfl,HB2.out⟩
set_option maxHeartbeats 1000000 in
set_option maxRecDepth 100000 in
theorem rq_name (hI : ∀ W,Below w.heap.size w W→Calls Tryz.prog 24 #[.slice a q c] W fun e w'=>e=.returned (.bool true)∧Below W.heap.size W w') (hP : ∀ W,Below w.heap.size w W→Calls Tryz.prog 25 #[.slice b r d] W fun e w'=>e=.returned (.bool true)∧Below W.heap.size W w') (hN : ∀ W,Calls Tryz.prog 26 #[.string (strB bb)] W fun e w'=>e=.returned (.bool false)∧Below W.heap.size W w') (h1 : 0≤wi) (h2 : wi≤1099511627776) (h3 : bb≠[]) : Calls Tryz.prog 9 #[.agg #[.slice a q c,.slice b r d,.int .i64 wi,.string (strB bb),.int .i64 pk]] w fun e w'=>e=.returned (.bool false)∧Below w.heap.size w w':=by
 have hb0:=(Below.refl w.heap.size w).alloc (Nat.le_refl _) (.cells #[.slice a q c,.slice b r d,.int .i64 wi,.string (strB bb),.int .i64 pk] 26)
 have HB0:=hid hb0
 have HI:=hid (hI _ hb0)
 have HP:=hid hP
 have HN:=hid hN
 have t1 : decide (0≤wi)=true:=decide_eq_true h1
 have t2 : decide (wi≤1099511627776)=true:=decide_eq_true h2
 clear h1 h2
 have t3 : ((strB bb).toList == [])=false:=by rw [tB_list,beq_eq_false_iff_ne];exact h3
 clear h3
 clear hI hb0 hP hN
 go_enter Tryz.func9,Tryz.ntmps9
 go_wp2_with (first
  | (go_at_call 24;(with_reducible refine HI.out.mono ?_);rintro e w1 ⟨rfl,hb1⟩;have m1:=tkeep hb1 (tnew w #[.slice a q c,.slice b r d,.int .i64 wi,.string (strB bb),.int .i64 pk] 26 1 rfl);have m2:=tkeep hb1 (tnew w #[.slice a q c,.slice b r d,.int .i64 wi,.string (strB bb),.int .i64 pk] 26 2 rfl);have m3:=tkeep hb1 (tnew w #[.slice a q c,.slice b r d,.int .i64 wi,.string (strB bb),.int .i64 pk] 26 3 rfl);have m4:=tkeep hb1 (tnew w #[.slice a q c,.slice b r d,.int .i64 wi,.string (strB bb),.int .i64 pk] 26 4 rfl);have HB1:=hid (HB0.out.trans (hb1.mono HB0.out.size));clear hb1)
  | (go_at_call 25;(with_reducible refine (HP.out _ HB1.out).mono ?_);rintro e w2 ⟨rfl,hb2⟩;have n1:=tkeep hb2 m1;have n2:=tkeep hb2 m2;have n3:=tkeep hb2 m3;have n4:=tkeep hb2 m4;have HB2:=hid (HB1.out.trans (hb2.mono HB1.out.size));clear hb2)
  | (go_at_call 26;(with_reducible refine (HN.out _).mono ?_);rintro e w3 ⟨rfl,hb3⟩;have k4:=tkeep hb3 n4;have HB3:=hid (HB2.out.trans (hb3.mono HB2.out.size));clear hb3))
 go_ret
 exact ⟨rfl,HB3.out⟩
set_option maxHeartbeats 1000000 in
set_option maxRecDepth 100000 in
theorem rq_low0 (hI : ∀ W,Below w.heap.size w W→Calls Tryz.prog 24 #[.slice a q c] W fun e w'=>e=.returned (.bool true)∧Below W.heap.size W w') (hP : ∀ W,Below w.heap.size w W→Calls Tryz.prog 25 #[.slice b r d] W fun e w'=>e=.returned (.bool true)∧Below W.heap.size W w') (h1 : 0≤wi) (h2 : wi≤1099511627776) (h3 : bb=[]) (h4 : ¬ 1≤pk) : Calls Tryz.prog 9 #[.agg #[.slice a q c,.slice b r d,.int .i64 wi,.string (strB bb),.int .i64 pk]] w fun e w'=>e=.returned (.bool false)∧Below w.heap.size w w':=by
 have hb0:=(Below.refl w.heap.size w).alloc (Nat.le_refl _) (.cells #[.slice a q c,.slice b r d,.int .i64 wi,.string (strB bb),.int .i64 pk] 26)
 have HB0:=hid hb0
 have HI:=hid (hI _ hb0)
 have HP:=hid hP
 have t1 : decide (0≤wi)=true:=decide_eq_true h1
 have t2 : decide (wi≤1099511627776)=true:=decide_eq_true h2
 clear h1 h2
 have t3 : ((strB bb).toList == [])=true:=by rw [tB_list,h3];rfl
 clear h3
 have t4 : decide (1≤pk)=false:=decide_eq_false h4
 clear h4
 clear hI hb0 hP
 go_enter Tryz.func9,Tryz.ntmps9
 go_wp2_with (first
  | (go_at_call 24;(with_reducible refine HI.out.mono ?_);rintro e w1 ⟨rfl,hb1⟩;have m1:=tkeep hb1 (tnew w #[.slice a q c,.slice b r d,.int .i64 wi,.string (strB bb),.int .i64 pk] 26 1 rfl);have m2:=tkeep hb1 (tnew w #[.slice a q c,.slice b r d,.int .i64 wi,.string (strB bb),.int .i64 pk] 26 2 rfl);have m3:=tkeep hb1 (tnew w #[.slice a q c,.slice b r d,.int .i64 wi,.string (strB bb),.int .i64 pk] 26 3 rfl);have m4:=tkeep hb1 (tnew w #[.slice a q c,.slice b r d,.int .i64 wi,.string (strB bb),.int .i64 pk] 26 4 rfl);have HB1:=hid (HB0.out.trans (hb1.mono HB0.out.size));clear hb1)
  | (go_at_call 25;(with_reducible refine (HP.out _ HB1.out).mono ?_);rintro e w2 ⟨rfl,hb2⟩;have n1:=tkeep hb2 m1;have n2:=tkeep hb2 m2;have n3:=tkeep hb2 m3;have n4:=tkeep hb2 m4;have HB2:=hid (HB1.out.trans (hb2.mono HB1.out.size));clear hb2))
 go_ret
 exact ⟨rfl,HB2.out⟩
set_option maxHeartbeats 1000000 in
set_option maxRecDepth 100000 in
theorem rq_high0 (hI : ∀ W,Below w.heap.size w W→Calls Tryz.prog 24 #[.slice a q c] W fun e w'=>e=.returned (.bool true)∧Below W.heap.size W w') (hP : ∀ W,Below w.heap.size w W→Calls Tryz.prog 25 #[.slice b r d] W fun e w'=>e=.returned (.bool true)∧Below W.heap.size W w') (h1 : 0≤wi) (h2 : wi≤1099511627776) (h3 : bb=[]) (h4 : 1≤pk) (h5 : ¬ pk≤3) : Calls Tryz.prog 9 #[.agg #[.slice a q c,.slice b r d,.int .i64 wi,.string (strB bb),.int .i64 pk]] w fun e w'=>e=.returned (.bool false)∧Below w.heap.size w w':=by
 have hb0:=(Below.refl w.heap.size w).alloc (Nat.le_refl _) (.cells #[.slice a q c,.slice b r d,.int .i64 wi,.string (strB bb),.int .i64 pk] 26)
 have HB0:=hid hb0
 have HI:=hid (hI _ hb0)
 have HP:=hid hP
 have t1 : decide (0≤wi)=true:=decide_eq_true h1
 have t2 : decide (wi≤1099511627776)=true:=decide_eq_true h2
 clear h1 h2
 have t3 : ((strB bb).toList == [])=true:=by rw [tB_list,h3];rfl
 clear h3
 have t4 : decide (1≤pk)=true:=decide_eq_true h4
 have t5 : decide (pk≤3)=false:=decide_eq_false h5
 clear h4 h5
 clear hI hb0 hP
 go_enter Tryz.func9,Tryz.ntmps9
 go_wp2_with (first
  | (go_at_call 24;(with_reducible refine HI.out.mono ?_);rintro e w1 ⟨rfl,hb1⟩;have m1:=tkeep hb1 (tnew w #[.slice a q c,.slice b r d,.int .i64 wi,.string (strB bb),.int .i64 pk] 26 1 rfl);have m2:=tkeep hb1 (tnew w #[.slice a q c,.slice b r d,.int .i64 wi,.string (strB bb),.int .i64 pk] 26 2 rfl);have m3:=tkeep hb1 (tnew w #[.slice a q c,.slice b r d,.int .i64 wi,.string (strB bb),.int .i64 pk] 26 3 rfl);have m4:=tkeep hb1 (tnew w #[.slice a q c,.slice b r d,.int .i64 wi,.string (strB bb),.int .i64 pk] 26 4 rfl);have HB1:=hid (HB0.out.trans (hb1.mono HB0.out.size));clear hb1)
  | (go_at_call 25;(with_reducible refine (HP.out _ HB1.out).mono ?_);rintro e w2 ⟨rfl,hb2⟩;have n1:=tkeep hb2 m1;have n2:=tkeep hb2 m2;have n3:=tkeep hb2 m3;have n4:=tkeep hb2 m4;have HB2:=hid (HB1.out.trans (hb2.mono HB1.out.size));clear hb2))
 go_ret
 exact ⟨rfl,HB2.out⟩
set_option maxHeartbeats 1000000 in
set_option maxRecDepth 100000 in
theorem rq_ok0 (hI : ∀ W,Below w.heap.size w W→Calls Tryz.prog 24 #[.slice a q c] W fun e w'=>e=.returned (.bool true)∧Below W.heap.size W w') (hP : ∀ W,Below w.heap.size w W→Calls Tryz.prog 25 #[.slice b r d] W fun e w'=>e=.returned (.bool true)∧Below W.heap.size W w') (h1 : 0≤wi) (h2 : wi≤1099511627776) (h3 : bb=[]) (h4 : 1≤pk) (h5 : pk≤3) : Calls Tryz.prog 9 #[.agg #[.slice a q c,.slice b r d,.int .i64 wi,.string (strB bb),.int .i64 pk]] w fun e w'=>e=.returned (.bool true)∧Below w.heap.size w w':=by
 have hb0:=(Below.refl w.heap.size w).alloc (Nat.le_refl _) (.cells #[.slice a q c,.slice b r d,.int .i64 wi,.string (strB bb),.int .i64 pk] 26)
 have HB0:=hid hb0
 have HI:=hid (hI _ hb0)
 have HP:=hid hP
 have t1 : decide (0≤wi)=true:=decide_eq_true h1
 have t2 : decide (wi≤1099511627776)=true:=decide_eq_true h2
 clear h1 h2
 have t3 : ((strB bb).toList == [])=true:=by rw [tB_list,h3];rfl
 clear h3
 have t4 : decide (1≤pk)=true:=decide_eq_true h4
 have t5 : decide (pk≤3)=true:=decide_eq_true h5
 clear h4 h5
 clear hI hb0 hP
 go_enter Tryz.func9,Tryz.ntmps9
 go_wp2_with (first
  | (go_at_call 24;(with_reducible refine HI.out.mono ?_);rintro e w1 ⟨rfl,hb1⟩;have m1:=tkeep hb1 (tnew w #[.slice a q c,.slice b r d,.int .i64 wi,.string (strB bb),.int .i64 pk] 26 1 rfl);have m2:=tkeep hb1 (tnew w #[.slice a q c,.slice b r d,.int .i64 wi,.string (strB bb),.int .i64 pk] 26 2 rfl);have m3:=tkeep hb1 (tnew w #[.slice a q c,.slice b r d,.int .i64 wi,.string (strB bb),.int .i64 pk] 26 3 rfl);have m4:=tkeep hb1 (tnew w #[.slice a q c,.slice b r d,.int .i64 wi,.string (strB bb),.int .i64 pk] 26 4 rfl);have HB1:=hid (HB0.out.trans (hb1.mono HB0.out.size));clear hb1)
  | (go_at_call 25;(with_reducible refine (HP.out _ HB1.out).mono ?_);rintro e w2 ⟨rfl,hb2⟩;have n1:=tkeep hb2 m1;have n2:=tkeep hb2 m2;have n3:=tkeep hb2 m3;have n4:=tkeep hb2 m4;have HB2:=hid (HB1.out.trans (hb2.mono HB1.out.size));clear hb2))
 go_ret
 exact ⟨rfl,HB2.out⟩
set_option maxHeartbeats 1000000 in
set_option maxRecDepth 100000 in
theorem rq_low1 (hI : ∀ W,Below w.heap.size w W→Calls Tryz.prog 24 #[.slice a q c] W fun e w'=>e=.returned (.bool true)∧Below W.heap.size W w') (hP : ∀ W,Below w.heap.size w W→Calls Tryz.prog 25 #[.slice b r d] W fun e w'=>e=.returned (.bool true)∧Below W.heap.size W w') (hN : ∀ W,Calls Tryz.prog 26 #[.string (strB bb)] W fun e w'=>e=.returned (.bool true)∧Below W.heap.size W w') (h1 : 0≤wi) (h2 : wi≤1099511627776) (h3 : bb≠[]) (h4 : ¬ 1≤pk) : Calls Tryz.prog 9 #[.agg #[.slice a q c,.slice b r d,.int .i64 wi,.string (strB bb),.int .i64 pk]] w fun e w'=>e=.returned (.bool false)∧Below w.heap.size w w':=by
 have hb0:=(Below.refl w.heap.size w).alloc (Nat.le_refl _) (.cells #[.slice a q c,.slice b r d,.int .i64 wi,.string (strB bb),.int .i64 pk] 26)
 have HB0:=hid hb0
 have HI:=hid (hI _ hb0)
 have HP:=hid hP
 have HN:=hid hN
 have t1 : decide (0≤wi)=true:=decide_eq_true h1
 have t2 : decide (wi≤1099511627776)=true:=decide_eq_true h2
 clear h1 h2
 have t3 : ((strB bb).toList == [])=false:=by rw [tB_list,beq_eq_false_iff_ne];exact h3
 clear h3
 have t4 : decide (1≤pk)=false:=decide_eq_false h4
 clear h4
 clear hI hb0 hP hN
 go_enter Tryz.func9,Tryz.ntmps9
 go_wp2_with (first
  | (go_at_call 24;(with_reducible refine HI.out.mono ?_);rintro e w1 ⟨rfl,hb1⟩;have m1:=tkeep hb1 (tnew w #[.slice a q c,.slice b r d,.int .i64 wi,.string (strB bb),.int .i64 pk] 26 1 rfl);have m2:=tkeep hb1 (tnew w #[.slice a q c,.slice b r d,.int .i64 wi,.string (strB bb),.int .i64 pk] 26 2 rfl);have m3:=tkeep hb1 (tnew w #[.slice a q c,.slice b r d,.int .i64 wi,.string (strB bb),.int .i64 pk] 26 3 rfl);have m4:=tkeep hb1 (tnew w #[.slice a q c,.slice b r d,.int .i64 wi,.string (strB bb),.int .i64 pk] 26 4 rfl);have HB1:=hid (HB0.out.trans (hb1.mono HB0.out.size));clear hb1)
  | (go_at_call 25;(with_reducible refine (HP.out _ HB1.out).mono ?_);rintro e w2 ⟨rfl,hb2⟩;have n1:=tkeep hb2 m1;have n2:=tkeep hb2 m2;have n3:=tkeep hb2 m3;have n4:=tkeep hb2 m4;have HB2:=hid (HB1.out.trans (hb2.mono HB1.out.size));clear hb2)
  | (go_at_call 26;(with_reducible refine (HN.out _).mono ?_);rintro e w3 ⟨rfl,hb3⟩;have k4:=tkeep hb3 n4;have HB3:=hid (HB2.out.trans (hb3.mono HB2.out.size));clear hb3))
 go_ret
 exact ⟨rfl,HB3.out⟩
set_option maxHeartbeats 1000000 in
set_option maxRecDepth 100000 in
theorem rq_high1 (hI : ∀ W,Below w.heap.size w W→Calls Tryz.prog 24 #[.slice a q c] W fun e w'=>e=.returned (.bool true)∧Below W.heap.size W w') (hP : ∀ W,Below w.heap.size w W→Calls Tryz.prog 25 #[.slice b r d] W fun e w'=>e=.returned (.bool true)∧Below W.heap.size W w') (hN : ∀ W,Calls Tryz.prog 26 #[.string (strB bb)] W fun e w'=>e=.returned (.bool true)∧Below W.heap.size W w') (h1 : 0≤wi) (h2 : wi≤1099511627776) (h3 : bb≠[]) (h4 : 1≤pk) (h5 : ¬ pk≤3) : Calls Tryz.prog 9 #[.agg #[.slice a q c,.slice b r d,.int .i64 wi,.string (strB bb),.int .i64 pk]] w fun e w'=>e=.returned (.bool false)∧Below w.heap.size w w':=by
 have hb0:=(Below.refl w.heap.size w).alloc (Nat.le_refl _) (.cells #[.slice a q c,.slice b r d,.int .i64 wi,.string (strB bb),.int .i64 pk] 26)
 have HB0:=hid hb0
 have HI:=hid (hI _ hb0)
 have HP:=hid hP
 have HN:=hid hN
 have t1 : decide (0≤wi)=true:=decide_eq_true h1
 have t2 : decide (wi≤1099511627776)=true:=decide_eq_true h2
 clear h1 h2
 have t3 : ((strB bb).toList == [])=false:=by rw [tB_list,beq_eq_false_iff_ne];exact h3
 clear h3
 have t4 : decide (1≤pk)=true:=decide_eq_true h4
 have t5 : decide (pk≤3)=false:=decide_eq_false h5
 clear h4 h5
 clear hI hb0 hP hN
 go_enter Tryz.func9,Tryz.ntmps9
 go_wp2_with (first
  | (go_at_call 24;(with_reducible refine HI.out.mono ?_);rintro e w1 ⟨rfl,hb1⟩;have m1:=tkeep hb1 (tnew w #[.slice a q c,.slice b r d,.int .i64 wi,.string (strB bb),.int .i64 pk] 26 1 rfl);have m2:=tkeep hb1 (tnew w #[.slice a q c,.slice b r d,.int .i64 wi,.string (strB bb),.int .i64 pk] 26 2 rfl);have m3:=tkeep hb1 (tnew w #[.slice a q c,.slice b r d,.int .i64 wi,.string (strB bb),.int .i64 pk] 26 3 rfl);have m4:=tkeep hb1 (tnew w #[.slice a q c,.slice b r d,.int .i64 wi,.string (strB bb),.int .i64 pk] 26 4 rfl);have HB1:=hid (HB0.out.trans (hb1.mono HB0.out.size));clear hb1)
  | (go_at_call 25;(with_reducible refine (HP.out _ HB1.out).mono ?_);rintro e w2 ⟨rfl,hb2⟩;have n1:=tkeep hb2 m1;have n2:=tkeep hb2 m2;have n3:=tkeep hb2 m3;have n4:=tkeep hb2 m4;have HB2:=hid (HB1.out.trans (hb2.mono HB1.out.size));clear hb2)
  | (go_at_call 26;(with_reducible refine (HN.out _).mono ?_);rintro e w3 ⟨rfl,hb3⟩;have k4:=tkeep hb3 n4;have HB3:=hid (HB2.out.trans (hb3.mono HB2.out.size));clear hb3))
 go_ret
 exact ⟨rfl,HB3.out⟩
set_option maxHeartbeats 1000000 in
set_option maxRecDepth 100000 in
theorem rq_ok1 (hI : ∀ W,Below w.heap.size w W→Calls Tryz.prog 24 #[.slice a q c] W fun e w'=>e=.returned (.bool true)∧Below W.heap.size W w') (hP : ∀ W,Below w.heap.size w W→Calls Tryz.prog 25 #[.slice b r d] W fun e w'=>e=.returned (.bool true)∧Below W.heap.size W w') (hN : ∀ W,Calls Tryz.prog 26 #[.string (strB bb)] W fun e w'=>e=.returned (.bool true)∧Below W.heap.size W w') (h1 : 0≤wi) (h2 : wi≤1099511627776) (h3 : bb≠[]) (h4 : 1≤pk) (h5 : pk≤3) : Calls Tryz.prog 9 #[.agg #[.slice a q c,.slice b r d,.int .i64 wi,.string (strB bb),.int .i64 pk]] w fun e w'=>e=.returned (.bool true)∧Below w.heap.size w w':=by
 have hb0:=(Below.refl w.heap.size w).alloc (Nat.le_refl _) (.cells #[.slice a q c,.slice b r d,.int .i64 wi,.string (strB bb),.int .i64 pk] 26)
 have HB0:=hid hb0
 have HI:=hid (hI _ hb0)
 have HP:=hid hP
 have HN:=hid hN
 have t1 : decide (0≤wi)=true:=decide_eq_true h1
 have t2 : decide (wi≤1099511627776)=true:=decide_eq_true h2
 clear h1 h2
 have t3 : ((strB bb).toList == [])=false:=by rw [tB_list,beq_eq_false_iff_ne];exact h3
 clear h3
 have t4 : decide (1≤pk)=true:=decide_eq_true h4
 have t5 : decide (pk≤3)=true:=decide_eq_true h5
 clear h4 h5
 clear hI hb0 hP hN
 go_enter Tryz.func9,Tryz.ntmps9
 go_wp2_with (first
  | (go_at_call 24;(with_reducible refine HI.out.mono ?_);rintro e w1 ⟨rfl,hb1⟩;have m1:=tkeep hb1 (tnew w #[.slice a q c,.slice b r d,.int .i64 wi,.string (strB bb),.int .i64 pk] 26 1 rfl);have m2:=tkeep hb1 (tnew w #[.slice a q c,.slice b r d,.int .i64 wi,.string (strB bb),.int .i64 pk] 26 2 rfl);have m3:=tkeep hb1 (tnew w #[.slice a q c,.slice b r d,.int .i64 wi,.string (strB bb),.int .i64 pk] 26 3 rfl);have m4:=tkeep hb1 (tnew w #[.slice a q c,.slice b r d,.int .i64 wi,.string (strB bb),.int .i64 pk] 26 4 rfl);have HB1:=hid (HB0.out.trans (hb1.mono HB0.out.size));clear hb1)
  | (go_at_call 25;(with_reducible refine (HP.out _ HB1.out).mono ?_);rintro e w2 ⟨rfl,hb2⟩;have n1:=tkeep hb2 m1;have n2:=tkeep hb2 m2;have n3:=tkeep hb2 m3;have n4:=tkeep hb2 m4;have HB2:=hid (HB1.out.trans (hb2.mono HB1.out.size));clear hb2)
  | (go_at_call 26;(with_reducible refine (HN.out _).mono ?_);rintro e w3 ⟨rfl,hb3⟩;have k4:=tkeep hb3 n4;have HB3:=hid (HB2.out.trans (hb3.mono HB2.out.size));clear hb3))
 go_ret
 exact ⟨rfl,HB3.out⟩
end
def QuAt (K : Nat→Prop) (w : World) (a : Option Addr) (q c : Nat) (b : Option Addr) (r d : Nat) (p : PQu) : Prop:=RowK itemD K w (.slice a q c) p.its∧RowK predD K w (.slice b r d) p.prs
theorem RowK.len {α : Type} {D : RowD α} {K : Nat→Prop} {w : World} {a : Option Addr} {n c : Nat} {l : List α} (h : RowK D K w (.slice a n c) l) : n=l.length:=by
 obtain ⟨a',c',e⟩:=h.slice
 injection e with e1 e2 e3
theorem right_calls {K : Nat→Prop} {w : World} {a b : Option Addr} {q c r d : Nat} {p : PQu} (h : QuAt K w a q c b r d p) (hb : QuB p) :
 Calls Tryz.prog 9 #[.agg #[.slice a q c,.slice b r d,.int .i64 p.within,.string (strB p.by_),.int .i64 p.pick]] w fun e w'=>e=.returned (.bool (rightQ p))∧Below w.heap.size w w':=by
 obtain ⟨h1,h2⟩:=h
 obtain rfl:=h1.len
 obtain rfl:=h2.len
 have hI:=fun W (hW : Below w.heap.size w W)=>rightItems_calls (h1.low hW) hb.1
 have hP:=fun W (hW : Below w.heap.size w W)=>rightPreds_calls (h2.low hW) hb.2.1
 have hN:=fun W=>nameOk_calls p.by_ W hb.2.2
 unfold rightQ
 cases b1 : rightIs p.its with
 | false =>
   rw [b1] at hI
   exact rq_items hI
 | true =>
 rw [b1] at hI
 rw [Bool.true_and,← Bool.and_assoc]
 cases b2 : (decide (p.prs.length≤8) && p.prs.all rightP) with
 | false =>
   rw [b2] at hP
   exact rq_preds hI hP
 | true =>
 rw [b2] at hP
 rw [Bool.true_and]
 by_cases w1 : ¬ (0≤p.within)
 ·rw [show decide (0≤p.within∧p.within≤1099511627776)=false from decide_eq_false (fun e=>w1 e.1)]
  exact rq_neg hI hP w1
 have w1:=Decidable.not_not.1 w1
 by_cases w2 : ¬ (p.within≤1099511627776)
 ·rw [show decide (0≤p.within∧p.within≤1099511627776)=false from decide_eq_false (fun e=>w2 e.2)]
  exact rq_long hI hP w1 w2
 have w2:=Decidable.not_not.1 w2
 rw [show decide (0≤p.within∧p.within≤1099511627776)=true from decide_eq_true ⟨w1,w2⟩,Bool.true_and]
 by_cases h0 : p.by_=[]
 ·rw [show (decide (p.by_=[]) || nameB p.by_)=true by rw [decide_eq_true h0];rfl,Bool.true_and]
  by_cases p1 : ¬ (1≤p.pick)
  ·rw [show decide (1≤p.pick∧p.pick≤3)=false from decide_eq_false (fun e=>p1 e.1)]
   exact rq_low0 hI hP w1 w2 h0 p1
  have p1:=Decidable.not_not.1 p1
  by_cases p2 : p.pick≤3
  ·rw [show decide (1≤p.pick∧p.pick≤3)=true from decide_eq_true ⟨p1,p2⟩]
   exact rq_ok0 hI hP w1 w2 h0 p1 p2
  ·rw [show decide (1≤p.pick∧p.pick≤3)=false from decide_eq_false (fun e=>p2 e.2)]
   exact rq_high0 hI hP w1 w2 h0 p1 p2
 ·rw [show (decide (p.by_=[]) || nameB p.by_)=nameB p.by_ by rw [decide_eq_false h0];rfl]
  cases b3 : nameB p.by_ with
  | false =>
    rw [b3] at hN
    rw [Bool.false_and]
    exact rq_name hI hP hN w1 w2 h0
  | true =>
  rw [b3] at hN
  rw [Bool.true_and]
  by_cases p1 : ¬ (1≤p.pick)
  ·rw [show decide (1≤p.pick∧p.pick≤3)=false from decide_eq_false (fun e=>p1 e.1)]
   exact rq_low1 hI hP hN w1 w2 h0 p1
  have p1:=Decidable.not_not.1 p1
  by_cases p2 : p.pick≤3
  ·rw [show decide (1≤p.pick∧p.pick≤3)=true from decide_eq_true ⟨p1,p2⟩]
   exact rq_ok1 hI hP hN w1 w2 h0 p1 p2
  ·rw [show decide (1≤p.pick∧p.pick≤3)=false from decide_eq_false (fun e=>p2 e.2)]
   exact rq_high1 hI hP hN w1 w2 h0 p1 p2
end Go.Proofs.YtefcbgnckgapgaaGreatDoor
namespace Go.Proofs.YtefcbgnckgapgaaGreatDoor
open Go.Lib
section
variable {E : Nat} {s : RS}
theorem takeT_suf (k : Nat) (b : List UInt8) : (takeT E s k b).2.l <:+ s.l:=by
 unfold takeT
 split
 ·exact List.tail_suffix _
 ·exact List.suffix_refl _
theorem failT_suf : (failT E s).l <:+ s.l:=List.nil_suffix
theorem needT_suf (k : Nat) (b : List UInt8) : (needT E s k b).l <:+ s.l:=by
 unfold needT
 split
 ·exact takeT_suf k b
 ·exact List.nil_suffix
theorem ofT_suf (k : Nat) : (ofT E s k).2.l <:+ s.l:=by
 unfold ofT
 split
 ·exact List.tail_suffix _
 ·exact failT_suf
theorem numberT_suf : (numberT E s).2.l <:+ s.l:=ofT_suf 2
theorem nameT_suf : (nameT E s).2.l <:+ s.l:=by
 unfold nameT
 refine (ofT_suf 1).trans ?_
 split
 ·exact failT_suf
 ·exact List.suffix_refl _
theorem amongT_suf (k : Nat) : ∀ (l : List (List UInt8)) (n : Nat),(amongT E s k n l).2.l <:+ s.l
 | [],n=>List.suffix_refl _
 | b :: r,n=>by
   rw [amongT]
   split
   ·exact takeT_suf k b
   ·exact amongT_suf k r (n+1)
theorem chooseT_suf (k : Nat) (l : List (List UInt8)) : (chooseT E s k l).2.l <:+ s.l:=by
 unfold chooseT
 split
 ·exact List.nil_suffix
 ·exact amongT_suf k l 0
theorem fieldT_suf (k : Int) : (fieldT E s k).2.l <:+ s.l:=by
 unfold fieldT
 exact nameT_suf.trans ((needT_suf _ _).trans nameT_suf)
theorem callT_suf (k : Int) : (callT E s k).2.l <:+ s.l:=by
 unfold callT
 refine (needT_suf _ _).trans ?_
 split
 ·exact nameT_suf.trans (needT_suf _ _)
 ·exact (fieldT_suf _).trans (needT_suf _ _)
theorem valT_suf : (valT E s).2.2.l <:+ s.l:=by
 unfold valT
 split
 ·exact numberT_suf
 ·split
  ·exact numberT_suf.trans (takeT_suf _ _)
  ·split
   ·exact ofT_suf 3
   ·split
    ·exact takeT_suf _ _
    ·split
     ·exact takeT_suf _ _
     ·exact List.suffix_refl _
theorem sumsT_suf {E : Nat} {tm : RS→PEx × RS} (ht : ∀ s,(tm s).2.l <:+ s.l) : ∀ (n : Nat) (x : PEx) (s : RS),(sumsT E tm n x s).2.l <:+ s.l
 | 0,x,s=>List.suffix_refl _
 | n+1,x,s=>by
   rw [sumsT]
   split
   ·exact amongT_suf _ _ _
   ·exact (sumsT_suf ht n _ _).trans ((ht _).trans (amongT_suf _ _ _))
theorem exprT_suf {E : Nat} {tm : RS→PEx × RS} (ht : ∀ s,(tm s).2.l <:+ s.l) (n : Nat) (s : RS) : (exprT E tm n s).2.l <:+ s.l:=(sumsT_suf ht n _ _).trans (ht s)
theorem innerT_suf {E : Nat} {tm : RS→PEx × RS} (ht : ∀ s,(tm s).2.l <:+ s.l) (n : Nat) (s : RS) : (innerT E tm n s).2.l <:+ s.l:=by
 unfold innerT
 refine (needT_suf _ _).trans ?_
 refine (exprT_suf ht n _).trans ?_
 refine (needT_suf _ _).trans ?_
 split
 ·exact failT_suf
 ·exact List.suffix_refl _
theorem termT_suf {E : Nat} : ∀ (n : Nat) (s : RS),(termT E n s).2.l <:+ s.l
 | 0,s=>List.suffix_refl _
 | n+1,s=>by
   rw [termT]
   split
   ·exact valT_suf
   ·split
    ·exact innerT_suf (termT_suf n) n s
    ·split
     ·exact (fieldT_suf _).trans (amongT_suf _ _ _)
     ·exact (callT_suf _).trans (amongT_suf _ _ _)
theorem rowT_suf {α : Type} {b : List UInt8} {one : RS→α × RS} (hle : ∀ s,(one s).2.l <:+ s.l) : ∀ (n : Nat) (l : List α) (s : RS),(rowT E b one n l s).2.l <:+ s.l
 | 0,l,s=>List.suffix_refl _
 | n+1,l,s=>by
   rw [rowT]
   split
   ·exact (rowT_suf hle n _ _).trans ((hle _).trans (takeT_suf _ _))
   ·exact List.suffix_refl _
theorem row1T_suf {α : Type} {b : List UInt8} {one : RS→α × RS} (hle : ∀ s,(one s).2.l <:+ s.l) (n : Nat) (s : RS) : (row1T E b one n s).2.l <:+ s.l:=(rowT_suf hle n _ _).trans (hle s)
theorem itemT_suf (n : Nat) : (itemT E n s).2.l <:+ s.l:=by
 unfold itemT
 exact (amongT_suf _ _ _).trans (nameT_suf.trans ((row1T_suf (fun _=>nameT_suf) n _).trans (takeT_suf _ _)))
theorem predT_suf (n : Nat) : (predT E n s).2.l <:+ s.l:=by
 unfold predT
 exact (exprT_suf (termT_suf n) n _).trans ((chooseT_suf _ _).trans (exprT_suf (termT_suf n) n _))
end
def SB (s : RS) : Prop:=(∀ t∈s.l,t.b.length≤1000)∧s.l.length≤500
theorem SB.suf {s s' : RS} (h : SB s) (hs : s'.l <:+ s.l) : SB s':=⟨fun t ht=>h.1 t (hs.subset ht),Nat.le_trans hs.length_le h.2⟩
section
variable {E : Nat} {s : RS}
theorem nextT_sb (h : SB s) : (nextT E s).b.length≤1000:=by
 unfold nextT
 split
 ·simp
 ·rename_i t r hl
  exact h.1 t (by rw [hl];exact List.mem_cons_self)
theorem ofT_sb (h : SB s) (k : Nat) : (ofT E s k).1.length≤1000:=by
 unfold ofT
 split
 ·exact nextT_sb h
 ·simp
theorem nameT_sb (h : SB s) : (nameT E s).1.length≤1000:=by
 unfold nameT
 refine ofT_sb ?_ 1
 split
 ·exact h.suf failT_suf
 ·exact h
theorem fieldT_sb (h : SB s) (k : Int) : XBd (fieldT E s k).1:=by
 unfold fieldT
 have h1:=nameT_sb (E:=E) h
 have h2:=nameT_sb (E:=E) (s:=needT E (nameT E s).2 4 [46]) ((h.suf nameT_suf).suf (needT_suf _ _))
 exact .mk _ _ _ _ _ (by simp [noV]) (by omega) (by omega) (fun y hy=>by cases hy)
theorem callT_sb (h : SB s) (k : Int) : XBd (callT E s k).1:=by
 unfold callT
 dsimp only
 split
 ·have h1:=nameT_sb (E:=E) (s:=needT E s 4 [40]) (h.suf (needT_suf _ _))
  exact .mk _ _ _ _ _ (by simp [noV]) (by omega) (by simp) (fun y hy=>by cases hy)
 ·exact fieldT_sb (h.suf (needT_suf _ _)) k
theorem valT_sb (h : SB s) : (valT E s).1.s.length≤1000:=by
 unfold valT
 split
 ·simp
 ·split
  ·simp
  ·split
   ·exact ofT_sb h 3
   ·split
    ·simp
    ·split
     ·simp
     ·simp [noV]
theorem sumsT_sb {E : Nat} {tm : RS→PEx × RS} (ht : ∀ s,(tm s).2.l <:+ s.l) (hb : ∀ s,SB s→XBd (tm s).1) : ∀ (n : Nat) (x : PEx) (s : RS),XBd x→SB s→XBd (sumsT E tm n x s).1
 | 0,x,s,hx,_=>hx
 | n+1,x,s,hx,h=>by
   rw [sumsT]
   split
   ·exact hx
   ·have h1 : SB (amongT E s 4 0 sumsL).2:=h.suf (amongT_suf _ _ _)
    refine sumsT_sb ht hb n _ _ (.mk _ _ _ _ _ (by simp [noV]) (by simp) (by simp) (fun y hy=>?_)) (h1.suf (ht _))
    rcases List.mem_cons.1 hy with rfl|hy
    ·exact hx
    ·rw [List.mem_singleton.1 hy]
     exact hb _ h1
theorem exprT_sb {E : Nat} {tm : RS→PEx × RS} (ht : ∀ s,(tm s).2.l <:+ s.l) (hb : ∀ s,SB s→XBd (tm s).1) (n : Nat) {s : RS} (h : SB s) : XBd (exprT E tm n s).1:=sumsT_sb ht hb n _ _ (hb s h) (h.suf (ht s))
theorem innerT_sb {E : Nat} {tm : RS→PEx × RS} (ht : ∀ s,(tm s).2.l <:+ s.l) (hb : ∀ s,SB s→XBd (tm s).1) (n : Nat) {s : RS} (h : SB s) : XBd (innerT E tm n s).1:=by
 unfold innerT
 refine exprT_sb ht hb n ?_
 refine SB.suf ?_ (needT_suf (E:=E) 4 [40])
 split
 ·exact h.suf failT_suf
 ·exact h
theorem termT_sb {E : Nat} : ∀ (n : Nat) (s : RS),SB s→XBd (termT E n s).1
 | 0,s,_=>.mk _ _ _ _ _ (by simp [noV]) (by simp) (by simp) (fun y hy=>by cases hy)
 | n+1,s,h=>by
   rw [termT]
   split
   ·exact .mk _ _ _ _ _ (by have:=valT_sb (E:=E) h;omega) (by simp) (by simp) (fun y hy=>by cases hy)
   ·split
    ·exact innerT_sb (termT_suf n) (termT_sb n) n h
    ·split
     ·exact fieldT_sb (h.suf (amongT_suf _ _ _)) _
     ·exact callT_sb (h.suf (amongT_suf _ _ _)) _
theorem rowT_sb {α : Type} {Q : α→Prop} {b : List UInt8} {one : RS→α × RS} (hs : ∀ s,(one s).2.l <:+ s.l) (hb : ∀ s,SB s→Q (one s).1) : ∀ (n : Nat) (l : List α) (s : RS),(∀ x∈l,Q x)→SB s→∀ x∈(rowT E b one n l s).1,Q x
 | 0,l,s,hl,_=>hl
 | n+1,l,s,hl,h=>by
   rw [rowT]
   split
   ·have h1 : SB (takeT E s 1 b).2:=h.suf (takeT_suf _ _)
    refine rowT_sb hs hb n _ _ (fun x hx=>?_) (h1.suf (hs _))
    rcases List.mem_append.1 hx with hx|hx
    ·exact hl x hx
    ·rw [List.mem_singleton.1 hx]
     exact hb _ h1
   ·exact hl
theorem row1T_sb {α : Type} {Q : α→Prop} {b : List UInt8} {one : RS→α × RS} (hs : ∀ s,(one s).2.l <:+ s.l) (hb : ∀ s,SB s→Q (one s).1) (n : Nat) {s : RS} (h : SB s) : ∀ x∈(row1T E b one n s).1,Q x :=
 rowT_sb hs hb n _ _ (fun x hx=>by rw [List.mem_singleton.1 hx];exact hb s h) (h.suf (hs s))
theorem rowT_len {α : Type} {b : List UInt8} {one : RS→α × RS} (hs : ∀ s,(one s).2.l.length≤s.l.length) : ∀ (n : Nat) (l : List α) (s : RS),(rowT E b one n l s).1.length≤l.length+s.l.length
 | 0,l,s=>by show l.length≤_;omega
 | n+1,l,s=>by
   rw [rowT]
   split
   ·rename_i hc
    have h1:=takeT_lt hc (by decide)
    have h2:=hs (takeT E s 1 b).2
    have h3:=rowT_len (b:=b) hs n (l++[(one (takeT E s 1 b).2).1]) (one (takeT E s 1 b).2).2
    rw [List.length_append,List.length_singleton] at h3
    omega
   ·show l.length≤_;omega
theorem itemT_sb (n : Nat) (h : SB s) : ItB (itemT E n s).1:=by
 unfold itemT
 have h5:=h.2
 have h1 : SB (takeT E s 1 wNot).2:=h.suf (takeT_suf _ _)
 have hl:=takeT_le (E:=E) (s:=s) 1 wNot
 refine ⟨?_,fun b hb=>?_,?_⟩
 ·have h2:=rowT_len (E:=E) (b:=wOr) (one:=nameT E) (fun _=>nameT_le) n [(nameT E (takeT E s 1 wNot).2).1] (nameT E (takeT E s 1 wNot).2).2
  have h3:=nameT_le (E:=E) (s:=(takeT E s 1 wNot).2)
  show (row1T E wOr (nameT E) n (takeT E s 1 wNot).2).1.length≤_
  unfold row1T
  rw [List.length_singleton] at h2
  omega
 ·have:=row1T_sb (E:=E) (Q:=fun b=>b.length≤1000) (b:=wOr) (fun _=>nameT_suf) (fun _ hs=>nameT_sb hs) n h1 b hb
  omega
 ·have:=nameT_sb (E:=E) (s:=(row1T E wOr (nameT E) n (takeT E s 1 wNot).2).2) (h1.suf (row1T_suf (fun _=>nameT_suf) n _))
  show (nameT E _).1.length≤_
  omega
theorem predT_sb (n : Nat) (h : SB s) : PrB (predT E n s).1:=by
 unfold predT
 exact ⟨exprT_sb (termT_suf n) (termT_sb n) n h,exprT_sb (termT_suf n) (termT_sb n) n ((h.suf (exprT_suf (termT_suf n) n s)).suf (chooseT_suf _ _))⟩
theorem queryT_sb (n : Nat) (h : SB s) : QuB (queryT E n s).1:=by
 have h0 : SB (needT E s 1 wSeq):=h.suf (needT_suf _ _)
 obtain ⟨a,ha⟩ : ∃ a,row1T E wThen (itemT E n) n (needT E s 1 wSeq)=a:=⟨_,rfl⟩
 have h1 : SB a.2:=by rw [← ha];exact h0.suf (row1T_suf (fun _=>itemT_suf n) n _)
 obtain ⟨p,hp⟩ : ∃ p,(if isT E a.2 1 wWhere then row1T E wAnd (predT E n) n (takeT E a.2 1 wWhere).2 else ([],a.2))=p:=⟨_,rfl⟩
 have hp1 : (∀ x∈p.1,PrB x)∧SB p.2:=by
  rw [← hp]
  split
  ·exact ⟨row1T_sb (fun _=>predT_suf n) (fun _ hs=>predT_sb n hs) n (h1.suf (takeT_suf _ _)),(h1.suf (takeT_suf _ _)).suf (row1T_suf (fun _=>predT_suf n) n _)⟩
  ·exact ⟨fun x hx=>(by cases hx),h1⟩
 obtain ⟨c,hc⟩ : ∃ c,numberT E (needT E p.2 1 wWithin)=c:=⟨_,rfl⟩
 have h2 : SB c.2:=by rw [← hc];exact (hp1.2.suf (needT_suf _ _)).suf numberT_suf
 obtain ⟨b,hb⟩ : ∃ b,(if isT E c.2 1 wBy then nameT E (takeT E c.2 1 wBy).2 else ([],c.2))=b:=⟨_,rfl⟩
 have hb1 : b.1.length≤1000:=by
  rw [← hb]
  split
  ·exact nameT_sb (h2.suf (takeT_suf _ _))
  ·simp
 have e : (queryT E n s).1.its=a.1∧(queryT E n s).1.prs=p.1∧(queryT E n s).1.by_=b.1:=by
  unfold queryT
  rw [ha]
  try dsimp only
  rw [hp]
  try dsimp only
  rw [hc]
  try dsimp only
  rw [hb]
  exact ⟨rfl,rfl,rfl⟩
 refine ⟨?_,?_,?_⟩
 ·rw [e.1,← ha]
  exact row1T_sb (fun _=>itemT_suf n) (fun _ hs=>itemT_sb n hs) n h0
 ·rw [e.2.1]
  exact hp1.1
 ·rw [e.2.2]
  omega
end
end Go.Proofs.YtefcbgnckgapgaaGreatDoor
namespace Go.Proofs.YtefcbgnckgapgaaGreatDoor
open Go.RowKit Go.Lib Go.Op
theorem unlikeB_iff (l : List (List UInt8)) : unlikeB l=true ↔ ∀ (j : Nat) (b : List UInt8),l[j]?=some b→nameB b=true∧∀ (k : Nat) (c : List UInt8),k < j→l[k]?=some c→c≠b:=by
 unfold unlikeB
 rw [Bool.and_eq_true,decide_eq_true_eq,List.all_eq_true,List.Nodup,List.pairwise_iff_getElem]
 constructor
 ·rintro ⟨h1,h2⟩ j b hj
  obtain ⟨hlt,rfl⟩:=List.getElem?_eq_some_iff.1 hj
  refine ⟨h1 _ (List.getElem_mem hlt),fun k c hk hc=>?_⟩
  obtain ⟨hkl,rfl⟩:=List.getElem?_eq_some_iff.1 hc
  exact h2 k j hkl hlt hk
 ·intro h
  refine ⟨fun x hx=>?_,fun i j hi hj hij=>(h j _ (List.getElem?_eq_getElem hj)).2 i _ hij (List.getElem?_eq_getElem hi)⟩
  obtain ⟨j,hj⟩:=List.getElem?_of_mem hx
  exact (h j x hj).1
def dItemR (i : PIt) (first : Bool) : Bool :=
 nameB i.x && (decide (1≤i.ns.length∧i.ns.length≤3) && (decide (1≤i.mode∧i.mode≤3) && (unlikeB i.ns && (!(first && (i.no || decide (i.mode=3))) && (!i.no || decide (i.mode=1))))))
theorem dItemR_iff (i : PIt) (first : Bool) : dItemR i first=true ↔ nameB i.x=true∧rightI i=true∧(first=true→i.no=false∧i.mode≠3):=by
 unfold dItemR rightI
 cases hno : i.no <;> cases first <;> cases hn : nameB i.x <;> cases hu : unlikeB i.ns <;> simp <;> omega
theorem rightIs_iff (l : List PIt) : rightIs l=true ↔ (1≤l.length∧l.length≤6)∧∀ (j : Nat) (i : PIt),l[j]?=some i→dItemR i (decide (j=0))=true∧∀ (k : Nat) (u : PIt),k < j→l[k]?=some u→u.x≠i.x:=by
 cases l with
 | nil=>simp [rightIs]
 | cons y r =>
   have hm : ∀ (j : Nat) (x : List UInt8),((y :: r).map (·.x))[j]?=some x ↔ ∃ i : PIt,(y :: r)[j]?=some i∧i.x=x:=fun j x=>by
    rw [List.getElem?_map,Option.map_eq_some_iff]
   show (!(decide (6 < (y :: r).length) || (y.no || decide (y.mode=3))) && ((y :: r).all rightI && unlikeB ((y :: r).map (·.x))))=true ↔ _
   rw [Bool.and_eq_true,Bool.and_eq_true,List.all_eq_true,unlikeB_iff,Bool.not_eq_true',Bool.or_eq_false_iff,Bool.or_eq_false_iff,decide_eq_false_iff_not,decide_eq_false_iff_not]
   constructor
   ·rintro ⟨⟨h1,h2,h3⟩,h4,h5⟩
    refine ⟨⟨by simp,by omega⟩,fun j i hj=>⟨(dItemR_iff i _).2 ⟨(h5 j i.x ((hm j _).2 ⟨i,hj,rfl⟩)).1,h4 i (List.mem_of_getElem? hj),fun h0=>?_⟩,fun k u hk hu=>(h5 j i.x ((hm j _).2 ⟨i,hj,rfl⟩)).2 k u.x hk ((hm k _).2 ⟨u,hu,rfl⟩)⟩⟩
    rw [decide_eq_true_eq] at h0
    subst h0
    obtain rfl : y=i:=by simpa using hj
    exact ⟨h2,h3⟩
   ·rintro ⟨⟨h1,h2⟩,h3⟩
    have h0:=(dItemR_iff y _).1 (h3 0 y rfl).1
    refine ⟨⟨by omega,(h0.2.2 rfl).1,(h0.2.2 rfl).2⟩,fun i hi=>?_,fun j b hb=>?_⟩
    ·obtain ⟨j,hj⟩:=List.getElem?_of_mem hi
     exact ((dItemR_iff i _).1 (h3 j i hj).1).2.1
    ·obtain ⟨i,hi,rfl⟩:=(hm j b).1 hb
     refine ⟨((dItemR_iff i _).1 (h3 j i hi).1).1,fun k c hk hc=>?_⟩
     obtain ⟨u,hu,rfl⟩:=(hm k c).1 hc
     exact (h3 j i hi).2 k u hk hu
end Go.Proofs.YtefcbgnckgapgaaGreatDoor
namespace Go.Proofs.YtefcbgnckgapgaaGreatDoor
open Go.ChangeShapes Go.WideShapes Go.ChangeAt Go.RowKit Go.Lib Go.Deep Go.Op
instance : Inhabited PEx:=⟨noX⟩
instance : Inhabited PIt:=⟨⟨false,[],[],0⟩⟩
instance : Inhabited PPr:=⟨⟨noX,0,noX⟩⟩
section
variable {H : Type} {enc : TypeId × Value→H} {w : World} {base : Nat} {spare : Nat→Bool} {held : Bool}
inductive XLn : PEx→Prop
 | mk (k : Int) (v : PVal) (x f : List UInt8) (ks : List PEx) (hv : v.s.length≤maxLen) (hx : x.length≤maxLen) (hf : f.length≤maxLen) (hl : ks.length≤maxLen) (hk : ∀ y∈ks,XLn y) : XLn (.mk k v x f ks)
end
end Go.Proofs.YtefcbgnckgapgaaGreatDoor
