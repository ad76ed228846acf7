/- Values: the sign of two. -/
import Derived.Test.YtefcbgnckgapgaaGreatDoorV3
import Derived.Deep.QuietTactic
import Derived.BigQuiet
import Derived.Deep.RegionHeld3
import Derived.IntWalk
import Derived.Deep.RegionLaw
namespace Go.Proofs.YtefcbgnckgapgaaGreatDoor
open Go.RowKit Go.Lib Go.Op
set_option maxRecDepth 100000 in
theorem or_calls (x y : Int) (b c : Nat) (w : World) (hx : w.cell? ⟨b,0,none⟩=some (.int .i64 x)) (hy : w.cell? ⟨b,1,none⟩=some (.int .i64 y)) :
 Calls Tryz.prog 85 #[.slice (some ⟨b,0,none⟩) 2 c] w fun e w'=>e=.returned (.int .i64 (if x≠0 then x else y))∧w=w':=by
 by_cases h : x=0
 ·rw [if_neg (fun e=>e h)]
  subst h
  by_cases h2 : y=0
  ·subst h2
   go_enter Tryz.func85,Tryz.ntmps85
   go_wp2
   go_loop [8] (fun i=>∃ k : Nat,k≤2∧i=.int .i64 k) (fun i=>2 - (intOf i).toNat)
   case atStart=>exact ⟨0,by omega,rfl⟩
   case round =>
    obtain ⟨k,hk,rfl⟩:=hrel
    obtain rfl|rfl|rfl : k=0∨k=1∨k=2:=by omega
    ·go_wp2
     go_round
     case rel=>exact ⟨1,by omega,by go_num⟩
     case measure=>simp [intOf]
    ·go_wp2
     go_round
     case rel=>exact ⟨2,by omega,by go_num⟩
     case measure=>simp [intOf]
    ·go_wp2
     go_ret
     exact ⟨rfl,rfl⟩
  ·go_enter Tryz.func85,Tryz.ntmps85
   go_wp2
   go_loop [8] (fun i=>∃ k : Nat,k≤1∧i=.int .i64 k) (fun i=>2 - (intOf i).toNat)
   case atStart=>exact ⟨0,by omega,rfl⟩
   case round =>
    obtain ⟨k,hk,rfl⟩:=hrel
    obtain rfl|rfl : k=0∨k=1:=by omega
    ·go_wp2
     go_round
     case rel=>exact ⟨1,by omega,by go_num⟩
     case measure=>simp [intOf]
    ·go_wp2
     go_ret
     exact ⟨rfl,rfl⟩
 ·rw [if_pos h]
  go_enter Tryz.func85,Tryz.ntmps85
  go_wp2
  go_loop [8] (fun i=>i=.int .i64 0) (fun i=>2 - (intOf i).toNat)
  case atStart=>exact rfl
  case round =>
   subst hrel
   go_wp2
   go_ret
   exact ⟨rfl,rfl⟩
theorem vbelow_drewN {w w' : World} (h : Below w.heap.size w w') (n : Nat) : Below w.heap.size w (w'.drewN n):=⟨h.os,h.tape,h.output,h.size,h.block⟩
theorem vbelow_drew {w w' : World} (h : Below w.heap.size w w') : Below w.heap.size w w'.drew:=⟨h.os,h.tape,h.output,h.size,h.block⟩
abbrev aggV (k n : Int) (s : ByteArray) : Value:=.agg #[.int .i64 k,.int .i64 n,.string s]
end Go.Proofs.YtefcbgnckgapgaaGreatDoor
