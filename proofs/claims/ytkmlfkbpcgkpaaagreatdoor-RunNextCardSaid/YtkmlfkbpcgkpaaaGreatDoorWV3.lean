/- Values: Right, written, and cmp's functions. -/
import Derived.Test.YtkmlfkbpcgkpaaaGreatDoorWV2
import Derived.WalkKit
import Derived.WalkSpells
import Derived.WalkLawsBesides
import Derived.Lib.Hide
import Derived.Lib.Strings
namespace Go.Proofs.YtkmlfkbpcgkpaaaGreatDoor
open Go.RowKit Go.Lib Go.Op
set_option maxHeartbeats 8000000
set_option maxRecDepth 100000
def rightV (k n : Int) (s : ByteArray) : Bool:=rightB ⟨k,n,s.data.toList⟩
theorem zby (n : Int) (s : ByteArray) : rightV 1 n s=decide (-1099511627776≤n∧n≤1099511627776∧s.data.toList=[]):=rfl
theorem zbz (n : Int) (s : ByteArray) : rightV 2 n s=decide (n=0∧s.data.toList.length≤64):=rfl
theorem zbA (n : Int) (s : ByteArray) : rightV 3 n s=decide (0≤n∧n≤1∧s.data.toList=[]):=rfl
theorem zaV {k n : Int} {s : ByteArray} (h1 : k≠1) (h2 : k≠2) (h3 : k≠3) : rightV k n s=false:=by
 unfold rightV rightB;rw [if_neg h1,if_neg h2,if_neg h3]
theorem vtoL (a : ByteArray) : a.toList=a.data.toList:=ByteArray.toList_eq a
theorem zag {a b : Bool} (h : a=b) : Ending.returned (.bool a)=.returned (.bool b):=by rw [h]
theorem zfZ {s : ByteArray} (h : s.data.toList=[]) : s=⟨#[]⟩:=by
 apply ByteArray.ext
 apply Array.ext'
 rw [h]
theorem zb9 (k n : Int) (s : ByteArray) (w : World) (hs : s.size≤maxLen) :
 Calls Tryz.prog 193 #[.agg #[.int .i64 k,.int .i64 n,.string s]] w fun e w'=>e=.returned (.bool (rightV k n s))∧w'=w.alloc (.cells #[.int .i64 k,.int .i64 n,.string s] 70):=by
 unfold maxLen at hs
 have hsl : s.data.toList.length=s.size:=by simp
 by_cases hse : s.data.toList=[]
 ·obtain rfl:=zfZ hse
  clear hsl hse hs
  by_cases h3 : k=3
  ·subst h3
   rw [zbA]
   go_enter Tryz.func193,Tryz.ntmps193
   go_wp2
   all_goals (go_ret;exact ⟨zag (by simp;omega),rfl⟩)
  by_cases h1 : k=1
  ·subst h1
   rw [zby]
   go_enter Tryz.func193,Tryz.ntmps193
   go_wp2
   all_goals (go_ret;exact ⟨zag (by simp;omega),rfl⟩)
  by_cases h2 : k=2
  ·subst h2
   rw [zbz]
   by_cases hn : n=0
   ·subst hn
    go_enter Tryz.func193,Tryz.ntmps193
    go_wp2
    all_goals (go_ret;exact ⟨zag (by simp),rfl⟩)
   ·go_enter Tryz.func193,Tryz.ntmps193
    go_wp2
    all_goals (go_ret;exact ⟨zag (by simp;omega),rfl⟩)
  ·rw [zaV h1 h2 h3]
   go_enter Tryz.func193,Tryz.ntmps193
   go_wp2
   all_goals (go_ret;exact ⟨zag (by simp),rfl⟩)
 ·have ha : (s.toList == [])=false:=by rw [beq_eq_false_iff_ne,vtoL];exact hse
  have hb : (!s.toList.isEmpty)=true:=by rw [vtoL];simpa using hse
  have hc : s.toList.isEmpty=false:=by rw [vtoL];simpa using hse
  by_cases h3 : k=3
  ·subst h3
   rw [zbA]
   go_enter Tryz.func193,Tryz.ntmps193
   go_wp2
   all_goals (go_ret;exact ⟨zag (by first|rfl|(simp [hse])|(simp;omega)),rfl⟩)
  by_cases h1 : k=1
  ·subst h1
   rw [zby]
   go_enter Tryz.func193,Tryz.ntmps193
   go_wp2
   all_goals (go_ret;exact ⟨zag (by first|rfl|(simp [hse])|(simp;omega)),rfl⟩)
  by_cases h2 : k=2
  ·subst h2
   rw [zbz]
   by_cases hn : n=0
   ·subst hn
    clear ha hb hc
    go_enter Tryz.func193,Tryz.ntmps193
    go_wp2
    all_goals (go_ret;exact ⟨zag (by simp [hsl];try omega),rfl⟩)
   ·clear ha hb hc
    go_enter Tryz.func193,Tryz.ntmps193
    go_wp2
    all_goals (go_ret;exact ⟨zag (by simp;omega),rfl⟩)
  ·rw [zaV h1 h2 h3]
   go_enter Tryz.func193,Tryz.ntmps193
   go_wp2
   all_goals (go_ret;exact ⟨zag (by simp),rfl⟩)
end Go.Proofs.YtkmlfkbpcgkpaaaGreatDoor
