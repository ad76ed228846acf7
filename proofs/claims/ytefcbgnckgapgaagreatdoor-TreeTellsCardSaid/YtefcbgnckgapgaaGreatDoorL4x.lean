/- Words: a token; all tokens of a text. -/
import Derived.Test.YtefcbgnckgapgaaGreatDoorL3x
import Derived.Test.YtefcbgnckgapgaaGreatDoorF4
namespace Go.Proofs.YtefcbgnckgapgaaGreatDoor
open Go.RowKit Go.Lib Go.Op
theorem ext_list (s : ByteArray) (i j : Nat) : (s.extract i j).data.toList=(s.data.toList.take j).drop i:=by
 rw [ByteArray.data_extract]
 simp [List.extract_eq_take_drop,List.drop_take]
theorem str_of {s : ByteArray} {l : List UInt8} (h : s.data.toList=l) : s=strB l:=by
 apply ByteArray.ext
 apply Array.ext'
 rw [h]
 simp [strB]
def TokQ (w : World) (k : Nat) (l : List UInt8) (a : Nat) (e : Ending) (w' : World) : Prop:=e=.returned (.agg #[.int .i64 k,.string (strB (textX k l)),.int .i64 a])∧Below w.heap.size w w'
set_option maxHeartbeats 1000000 in
set_option maxRecDepth 100000 in
theorem token_calls (k : Nat) (s : ByteArray) (a : Nat) (w : World) (h3 : k=3→2≤s.size) (hs : s.size≤1000) :
 Calls Tryz.prog 34 #[.int .i64 k,.string s,.int .i64 a] w (TokQ w k s.data.toList a):=by
 by_cases hk : k=3
 ·subst hk
  have hz:=h3 rfl
  have hT : Hid (∀ W,Below w.heap.size w W→TokQ w 3 s.data.toList a (.returned (.agg #[.int .i64 (3 : Nat),.string (s.extract 1 (s.size - 1)),.int .i64 a])) W):=fun W hW=>by
   refine ⟨?_,hW⟩
   have e : s.extract 1 (s.size - 1)=strB (textX 3 s.data.toList):=str_of (by
    rw [ext_list]
    unfold textX
    rw [if_pos rfl]
    have : s.data.toList.length=s.size:=by simp
    rw [this,List.drop_take]
    congr 1)
   rw [e]
  clear h3
  have hn1 : (0 : Int)≤(s.size : Int) - 1:=by omega
  have hn2 : ((s.size : Int) - 1).toNat=s.size - 1:=by omega
  have hn3 : (1 : Int)≤(s.size : Int) - 1:=by omega
  have hn4 : (s.size : Int) - 1≤(s.size : Int):=by omega
  go_enter Tryz.func34,Tryz.ntmps34
  go_wp2
  refine bodyPost_ret (v:=.agg #[.int .i64 (3 : Nat),.string (s.extract 1 (s.size - 1)),.int .i64 a]) (by simp [results,Tryz.results34,go_sem]) rfl (hT.out _ ((Below.refl _ _).alloc (Nat.le_refl _) _))
 ·have hd : ((k : Int) == 3)=false:=by rw [beq_eq_false_iff_ne];omega
  have hT : Hid (∀ W,Below w.heap.size w W→TokQ w k s.data.toList a (.returned (.agg #[.int .i64 k,.string s,.int .i64 a])) W):=fun W hW=>by
   refine ⟨?_,hW⟩
   have e : s=strB (textX k s.data.toList):=str_of (by unfold textX;rw [if_neg hk])
   rw [← e]
  clear h3
  go_enter Tryz.func34,Tryz.ntmps34
  go_wp2
  refine bodyPost_ret (v:=.agg #[.int .i64 k,.string s,.int .i64 a]) (by simp [results,Tryz.results34,go_sem]) rfl (hT.out _ ((Below.refl _ _).alloc (Nat.le_refl _) _))
end Go.Proofs.YtefcbgnckgapgaaGreatDoor
