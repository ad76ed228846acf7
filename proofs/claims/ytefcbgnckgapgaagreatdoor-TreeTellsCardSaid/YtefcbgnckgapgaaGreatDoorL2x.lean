/- Words: how many bytes are of a kind. -/
import Derived.Test.YtefcbgnckgapgaaGreatDoorL1x
namespace Go.Proofs.YtefcbgnckgapgaaGreatDoor
open Go.RowKit Go.Lib Go.Op
set_option maxHeartbeats 1000000 in
set_option maxRecDepth 100000 in
theorem many_xblank (s : ByteArray) (w : World) (hs : s.size≤1000) : Calls Tryz.prog 31 #[.string s,.func (.func 32) #[] #[]] w fun e w'=>e=.returned (.int .i64 (manyL xblank s.data.toList))∧w=w':=by
 have hl : s.data.toList.length=s.size:=by simp
 have Hl:=hid hl
 obtain ⟨z,hz⟩ : ∃ z,manyL xblank s.data.toList=z:=⟨_,rfl⟩
 have Hz:=hid hz
 rw [hz]
 clear hl hz
 go_enter Tryz.func31,Tryz.ntmps31
 go_wp2
 go_loop [5] (fun n=>∃ k : Nat,n=.int .i64 k∧k≤s.size∧Hid (∀ c∈s.data.toList.take k,xblank c=true)) (fun n=>s.size - (RowKit.intOf n).toNat)
 case atStart=>exact ⟨0,rfl,Nat.zero_le _,fun c hc=>by simp at hc⟩
 case round =>
  obtain ⟨k,rfl,hk,HK⟩:=hrel
  by_cases hlt : k < s.size
  ·have hget : s.data.toList[k]?=some s[k]:=by
    rw [List.getElem?_eq_getElem (by rw [Hl.out];exact hlt)]
    rfl
   have Hget:=hid hget
   obtain ⟨c,hc⟩ : ∃ c,s[k]=c:=⟨_,rfl⟩
   have HC : Hid (Calls Tryz.prog 32 #[.int .u8 s[k].toNat] w fun e w'=>e=.returned (.bool (xblank s[k]))∧w=w'):=xblank_calls s[k] w
   cases hp : xblank s[k] with
   | true =>
     rw [hp] at HC
     have HN : Hid (∀ c∈s.data.toList.take (k+1),xblank c=true):=fun c hc=>by
      rw [List.take_add_one,Hget.out] at hc
      rcases List.mem_append.1 hc with h|h
      ·exact HK.out c h
      ·simp at h
       rw [h];exact hp
     clear hget hc hp
     go_wp2_with (go_at_call 32;(with_reducible refine HC.out.mono ?_);rintro e w1 ⟨rfl,rfl⟩)
     go_round
     case rel=>exact ⟨k+1,by go_num,by omega,HN⟩
     case measure=>simp [RowKit.intOf];omega
   | false =>
     rw [hp] at HC
     have HE : Hid (z=k):=Hz.out.symm.trans (manyL_is xblank _ k (by rw [Hl.out];exact hk) HK.out (fun x hx=>by
      rw [Hget.out] at hx
      injection hx with hx
      rw [← hx];exact hp))
     clear hget hc hp
     go_wp2_with (go_at_call 32;(with_reducible refine HC.out.mono ?_);rintro e w1 ⟨rfl,rfl⟩)
     go_ret
     exact ⟨ret_num (by rw [HE.out]),rfl⟩
  ·have HE : Hid (z=k):=Hz.out.symm.trans (manyL_is xblank _ k (by rw [Hl.out];exact hk) HK.out (fun x hx=>by
    rw [List.getElem?_eq_none (by rw [Hl.out];omega)] at hx
    cases hx))
   go_wp2
   go_ret
   exact ⟨ret_num (by rw [HE.out]),rfl⟩
set_option maxHeartbeats 1000000 in
set_option maxRecDepth 100000 in
theorem many_xin (s : ByteArray) (w : World) (hs : s.size≤1000) : Calls Tryz.prog 31 #[.string s,.func (.func 80) #[] #[]] w fun e w'=>e=.returned (.int .i64 (manyL xin s.data.toList))∧w=w':=by
 have hl : s.data.toList.length=s.size:=by simp
 have Hl:=hid hl
 obtain ⟨z,hz⟩ : ∃ z,manyL xin s.data.toList=z:=⟨_,rfl⟩
 have Hz:=hid hz
 rw [hz]
 clear hl hz
 go_enter Tryz.func31,Tryz.ntmps31
 go_wp2
 go_loop [5] (fun n=>∃ k : Nat,n=.int .i64 k∧k≤s.size∧Hid (∀ c∈s.data.toList.take k,xin c=true)) (fun n=>s.size - (RowKit.intOf n).toNat)
 case atStart=>exact ⟨0,rfl,Nat.zero_le _,fun c hc=>by simp at hc⟩
 case round =>
  obtain ⟨k,rfl,hk,HK⟩:=hrel
  by_cases hlt : k < s.size
  ·have hget : s.data.toList[k]?=some s[k]:=by
    rw [List.getElem?_eq_getElem (by rw [Hl.out];exact hlt)]
    rfl
   have Hget:=hid hget
   obtain ⟨c,hc⟩ : ∃ c,s[k]=c:=⟨_,rfl⟩
   have HC : Hid (Calls Tryz.prog 80 #[.int .u8 s[k].toNat] w fun e w'=>e=.returned (.bool (xin s[k]))∧w=w'):=xin_calls s[k] w
   cases hp : xin s[k] with
   | true =>
     rw [hp] at HC
     have HN : Hid (∀ c∈s.data.toList.take (k+1),xin c=true):=fun c hc=>by
      rw [List.take_add_one,Hget.out] at hc
      rcases List.mem_append.1 hc with h|h
      ·exact HK.out c h
      ·simp at h
       rw [h];exact hp
     clear hget hc hp
     go_wp2_with (go_at_call 80;(with_reducible refine HC.out.mono ?_);rintro e w1 ⟨rfl,rfl⟩)
     go_round
     case rel=>exact ⟨k+1,by go_num,by omega,HN⟩
     case measure=>simp [RowKit.intOf];omega
   | false =>
     rw [hp] at HC
     have HE : Hid (z=k):=Hz.out.symm.trans (manyL_is xin _ k (by rw [Hl.out];exact hk) HK.out (fun x hx=>by
      rw [Hget.out] at hx
      injection hx with hx
      rw [← hx];exact hp))
     clear hget hc hp
     go_wp2_with (go_at_call 80;(with_reducible refine HC.out.mono ?_);rintro e w1 ⟨rfl,rfl⟩)
     go_ret
     exact ⟨ret_num (by rw [HE.out]),rfl⟩
  ·have HE : Hid (z=k):=Hz.out.symm.trans (manyL_is xin _ k (by rw [Hl.out];exact hk) HK.out (fun x hx=>by
    rw [List.getElem?_eq_none (by rw [Hl.out];omega)] at hx
    cases hx))
   go_wp2
   go_ret
   exact ⟨ret_num (by rw [HE.out]),rfl⟩
set_option maxHeartbeats 1000000 in
set_option maxRecDepth 100000 in
theorem many_xdigit (s : ByteArray) (w : World) (hs : s.size≤1000) : Calls Tryz.prog 31 #[.string s,.func (.func 79) #[] #[]] w fun e w'=>e=.returned (.int .i64 (manyL xdigit s.data.toList))∧w=w':=by
 have hl : s.data.toList.length=s.size:=by simp
 have Hl:=hid hl
 obtain ⟨z,hz⟩ : ∃ z,manyL xdigit s.data.toList=z:=⟨_,rfl⟩
 have Hz:=hid hz
 rw [hz]
 clear hl hz
 go_enter Tryz.func31,Tryz.ntmps31
 go_wp2
 go_loop [5] (fun n=>∃ k : Nat,n=.int .i64 k∧k≤s.size∧Hid (∀ c∈s.data.toList.take k,xdigit c=true)) (fun n=>s.size - (RowKit.intOf n).toNat)
 case atStart=>exact ⟨0,rfl,Nat.zero_le _,fun c hc=>by simp at hc⟩
 case round =>
  obtain ⟨k,rfl,hk,HK⟩:=hrel
  by_cases hlt : k < s.size
  ·have hget : s.data.toList[k]?=some s[k]:=by
    rw [List.getElem?_eq_getElem (by rw [Hl.out];exact hlt)]
    rfl
   have Hget:=hid hget
   obtain ⟨c,hc⟩ : ∃ c,s[k]=c:=⟨_,rfl⟩
   have HC : Hid (Calls Tryz.prog 79 #[.int .u8 s[k].toNat] w fun e w'=>e=.returned (.bool (xdigit s[k]))∧w=w'):=xdigit_calls s[k] w
   cases hp : xdigit s[k] with
   | true =>
     rw [hp] at HC
     have HN : Hid (∀ c∈s.data.toList.take (k+1),xdigit c=true):=fun c hc=>by
      rw [List.take_add_one,Hget.out] at hc
      rcases List.mem_append.1 hc with h|h
      ·exact HK.out c h
      ·simp at h
       rw [h];exact hp
     clear hget hc hp
     go_wp2_with (go_at_call 79;(with_reducible refine HC.out.mono ?_);rintro e w1 ⟨rfl,rfl⟩)
     go_round
     case rel=>exact ⟨k+1,by go_num,by omega,HN⟩
     case measure=>simp [RowKit.intOf];omega
   | false =>
     rw [hp] at HC
     have HE : Hid (z=k):=Hz.out.symm.trans (manyL_is xdigit _ k (by rw [Hl.out];exact hk) HK.out (fun x hx=>by
      rw [Hget.out] at hx
      injection hx with hx
      rw [← hx];exact hp))
     clear hget hc hp
     go_wp2_with (go_at_call 79;(with_reducible refine HC.out.mono ?_);rintro e w1 ⟨rfl,rfl⟩)
     go_ret
     exact ⟨ret_num (by rw [HE.out]),rfl⟩
  ·have HE : Hid (z=k):=Hz.out.symm.trans (manyL_is xdigit _ k (by rw [Hl.out];exact hk) HK.out (fun x hx=>by
    rw [List.getElem?_eq_none (by rw [Hl.out];omega)] at hx
    cases hx))
   go_wp2
   go_ret
   exact ⟨ret_num (by rw [HE.out]),rfl⟩
set_option maxHeartbeats 1000000 in
set_option maxRecDepth 100000 in
theorem many_xquot (s : ByteArray) (w : World) (hs : s.size≤1000) : Calls Tryz.prog 31 #[.string s,.func (.func 82) #[] #[]] w fun e w'=>e=.returned (.int .i64 (manyL xquot s.data.toList))∧w=w':=by
 have hl : s.data.toList.length=s.size:=by simp
 have Hl:=hid hl
 obtain ⟨z,hz⟩ : ∃ z,manyL xquot s.data.toList=z:=⟨_,rfl⟩
 have Hz:=hid hz
 rw [hz]
 clear hl hz
 go_enter Tryz.func31,Tryz.ntmps31
 go_wp2
 go_loop [5] (fun n=>∃ k : Nat,n=.int .i64 k∧k≤s.size∧Hid (∀ c∈s.data.toList.take k,xquot c=true)) (fun n=>s.size - (RowKit.intOf n).toNat)
 case atStart=>exact ⟨0,rfl,Nat.zero_le _,fun c hc=>by simp at hc⟩
 case round =>
  obtain ⟨k,rfl,hk,HK⟩:=hrel
  by_cases hlt : k < s.size
  ·have hget : s.data.toList[k]?=some s[k]:=by
    rw [List.getElem?_eq_getElem (by rw [Hl.out];exact hlt)]
    rfl
   have Hget:=hid hget
   obtain ⟨c,hc⟩ : ∃ c,s[k]=c:=⟨_,rfl⟩
   have HC : Hid (Calls Tryz.prog 82 #[.int .u8 s[k].toNat] w fun e w'=>e=.returned (.bool (xquot s[k]))∧w=w'):=xquot_calls s[k] w
   cases hp : xquot s[k] with
   | true =>
     rw [hp] at HC
     have HN : Hid (∀ c∈s.data.toList.take (k+1),xquot c=true):=fun c hc=>by
      rw [List.take_add_one,Hget.out] at hc
      rcases List.mem_append.1 hc with h|h
      ·exact HK.out c h
      ·simp at h
       rw [h];exact hp
     clear hget hc hp
     go_wp2_with (go_at_call 82;(with_reducible refine HC.out.mono ?_);rintro e w1 ⟨rfl,rfl⟩)
     go_round
     case rel=>exact ⟨k+1,by go_num,by omega,HN⟩
     case measure=>simp [RowKit.intOf];omega
   | false =>
     rw [hp] at HC
     have HE : Hid (z=k):=Hz.out.symm.trans (manyL_is xquot _ k (by rw [Hl.out];exact hk) HK.out (fun x hx=>by
      rw [Hget.out] at hx
      injection hx with hx
      rw [← hx];exact hp))
     clear hget hc hp
     go_wp2_with (go_at_call 82;(with_reducible refine HC.out.mono ?_);rintro e w1 ⟨rfl,rfl⟩)
     go_ret
     exact ⟨ret_num (by rw [HE.out]),rfl⟩
  ·have HE : Hid (z=k):=Hz.out.symm.trans (manyL_is xquot _ k (by rw [Hl.out];exact hk) HK.out (fun x hx=>by
    rw [List.getElem?_eq_none (by rw [Hl.out];omega)] at hx
    cases hx))
   go_wp2
   go_ret
   exact ⟨ret_num (by rw [HE.out]),rfl⟩
end Go.Proofs.YtefcbgnckgapgaaGreatDoor
