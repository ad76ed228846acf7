/- Words: what single bytes and digits are. -/
import Derived.Test.YtefcbgnckgapgaaGreatDoorL0x
import Derived.Test.YtefcbgnckgapgaaGreatDoorV3
import Derived.Test.YtefcbgnckgapgaaGreatDoorD2
import Derived.Test.YtefcbgnckgapgaaGreatDoorLS
import Derived.Lib.Hide
import Derived.Lib.AtoiErrMem
namespace Go.Proofs.YtefcbgnckgapgaaGreatDoor
open Go.RowKit Go.Lib Go.Op
theorem xbool {a b : Bool} (h : a=b) : Ending.returned (.bool a)=.returned (.bool b):=by rw [h]
set_option maxRecDepth 100000 in
theorem xletter_calls (c : UInt8) (w : World) : Calls Tryz.prog 78 #[.int .u8 c.toNat] w fun e w'=>e=.returned (.bool (xletter c))∧w=w':=by
 unfold xletter
 generalize c.toNat=n
 by_cases h1 : 97≤n
 all_goals
  go_enter Tryz.func78,Tryz.ntmps78
  go_wp2
  go_ret
  exact ⟨xbool (by first|(simp;done)|(simp;omega)|(rw [Bool.eq_iff_iff];simp;omega)),rfl⟩
set_option maxRecDepth 100000 in
theorem xdigit_calls (c : UInt8) (w : World) : Calls Tryz.prog 79 #[.int .u8 c.toNat] w fun e w'=>e=.returned (.bool (xdigit c))∧w=w':=by
 unfold xdigit
 generalize c.toNat=n
 by_cases h1 : 48≤n
 all_goals
  go_enter Tryz.func79,Tryz.ntmps79
  go_wp2
  go_ret
  exact ⟨xbool (by first|(simp;done)|(simp;omega)|(rw [Bool.eq_iff_iff];simp;omega)),rfl⟩
set_option maxRecDepth 100000 in
theorem xblank_calls (c : UInt8) (w : World) : Calls Tryz.prog 32 #[.int .u8 c.toNat] w fun e w'=>e=.returned (.bool (xblank c))∧w=w':=by
 unfold xblank
 generalize c.toNat=n
 by_cases h1 : n=32
 ·subst h1
  go_enter Tryz.func32,Tryz.ntmps32
  go_wp2
  go_ret
  exact ⟨xbool (by simp),rfl⟩
 ·have hd : ((n : Int) == 32)=false:=by rw [beq_eq_false_iff_ne];omega
  by_cases h2 : n=10
  ·subst h2
   go_enter Tryz.func32,Tryz.ntmps32
   go_wp2
   go_ret
   exact ⟨xbool (by simp),rfl⟩
  ·have hd2 : ((n : Int) == 10)=false:=by rw [beq_eq_false_iff_ne];omega
   go_enter Tryz.func32,Tryz.ntmps32
   go_wp2
   go_ret
   exact ⟨xbool (by simp [h1,h2]),rfl⟩
set_option maxRecDepth 100000 in
theorem xquot_calls (c : UInt8) (w : World) : Calls Tryz.prog 82 #[.int .u8 c.toNat] w fun e w'=>e=.returned (.bool (xquot c))∧w=w':=by
 unfold xquot
 generalize c.toNat=n
 by_cases h1 : 32≤n
 ·by_cases h2 : n≤126
  ·by_cases h3 : n=39
   ·subst h3
    go_enter Tryz.func82,Tryz.ntmps82
    go_wp2
    go_ret
    exact ⟨xbool (by simp),rfl⟩
   ·have hd : ((n : Int) != 39)=true:=by rw [bne_iff_ne];omega
    go_enter Tryz.func82,Tryz.ntmps82
    go_wp2
    go_ret
    exact ⟨xbool (by simp [h1,h2,h3]),rfl⟩
  ·have hd : decide ((n : Int)≤126)=false:=by simp;omega
   go_enter Tryz.func82,Tryz.ntmps82
   go_wp2
   go_ret
   exact ⟨xbool (by simp [h2]),rfl⟩
 ·have hd : decide (32≤(n : Int))=false:=by simp;omega
  go_enter Tryz.func82,Tryz.ntmps82
  go_wp2
  go_ret
  exact ⟨xbool (by simp [h1]),rfl⟩
set_option maxRecDepth 100000 in
theorem xin_calls (c : UInt8) (w : World) : Calls Tryz.prog 80 #[.int .u8 c.toNat] w fun e w'=>e=.returned (.bool (xin c))∧w=w':=by
 have HL : Hid (Calls Tryz.prog 78 #[.int .u8 c.toNat] w fun e w'=>e=.returned (.bool (xletter c))∧w=w'):=xletter_calls c w
 have HD : Hid (Calls Tryz.prog 79 #[.int .u8 c.toNat] w fun e w'=>e=.returned (.bool (xdigit c))∧w=w'):=xdigit_calls c w
 obtain ⟨z,hz⟩ : ∃ z,xin c=z:=⟨_,rfl⟩
 have Hz:=hid hz
 rw [hz]
 unfold xin at hz
 cases hl : xletter c with
 | true =>
   rw [hl] at HL hz
   have hz1 : z=true:=by rw [← hz];rfl
   subst hz1
   clear hz hl
   go_enter Tryz.func80,Tryz.ntmps80
   go_wp2_with (go_at_call 78;(with_reducible refine HL.out.mono ?_);rintro e w1 ⟨rfl,rfl⟩)
   go_ret
   exact ⟨rfl,rfl⟩
 | false =>
   cases hd : xdigit c with
   | true =>
     rw [hl] at HL hz
     rw [hd] at HD hz
     have hz1 : z=true:=by rw [← hz];rfl
     subst hz1
     clear hz hl hd
     go_enter Tryz.func80,Tryz.ntmps80
     go_wp2_with (first|(go_at_call 78;(with_reducible refine HL.out.mono ?_);rintro e w1 ⟨rfl,rfl⟩)|(go_at_call 79;(with_reducible refine HD.out.mono ?_);rintro e w1 ⟨rfl,rfl⟩))
     go_ret
     exact ⟨rfl,rfl⟩
   | false =>
     rw [hl] at HL hz
     rw [hd] at HD hz
     by_cases h3 : c.toNat=95
     ·have hz1 : z=true:=by rw [← hz];simp [h3]
      have ht : ((c.toNat : Int) == 95)=true:=by rw [beq_iff_eq];omega
      subst hz1
      clear hz hl hd h3
      go_enter Tryz.func80,Tryz.ntmps80
      go_wp2_with (first|(go_at_call 78;(with_reducible refine HL.out.mono ?_);rintro e w1 ⟨rfl,rfl⟩)|(go_at_call 79;(with_reducible refine HD.out.mono ?_);rintro e w1 ⟨rfl,rfl⟩))
      go_ret
      exact ⟨rfl,rfl⟩
     ·have hz1 : z=false:=by rw [← hz];simp [h3]
      have ht : ((c.toNat : Int) == 95)=false:=by rw [beq_eq_false_iff_ne];omega
      subst hz1
      clear hz hl hd h3
      go_enter Tryz.func80,Tryz.ntmps80
      go_wp2_with (first|(go_at_call 78;(with_reducible refine HL.out.mono ?_);rintro e w1 ⟨rfl,rfl⟩)|(go_at_call 79;(with_reducible refine HD.out.mono ?_);rintro e w1 ⟨rfl,rfl⟩))
      go_ret
      exact ⟨rfl,rfl⟩
set_option maxRecDepth 100000 in
theorem sindex_calls (s : ByteArray) (c : UInt8) (w : World) : Calls Tryz.prog 114 #[.string s,.int .u8 c.toNat] w fun e w'=>e=.returned (.int .i64 (indexByte s.data.toList c))∧w=w':=by
 have h:=Tryz.stringslite_IndexByte s c.toNat w
 have e : ((c.toNat : Int)).toNat.toUInt8=c:=by simp
 rw [e] at h
 have H:=hid h
 clear h e
 go_enter Tryz.func114,Tryz.ntmps114
 go_wp2_with fail
 refine H.out.mono ?_
 rintro e w1 ⟨rfl,rfl⟩
 go_wp2
 go_ret
 exact ⟨rfl,rfl⟩
set_option maxRecDepth 100000 in
theorem among_calls (s : ByteArray) (l : List UInt8) (hl : s.data.toList=l) (c : UInt8) (w : World) : Calls Tryz.prog 83 #[.string s,.int .u8 c.toNat] w fun e w'=>e=.returned (.bool (amongL l c))∧w=w':=by
 subst hl
 unfold amongL
 have H:=hid (sindex_calls s c w)
 obtain ⟨z,hz⟩ : ∃ z,indexByte s.data.toList c=z:=⟨_,rfl⟩
 rw [hz] at H ⊢
 clear hz
 go_enter Tryz.func83,Tryz.ntmps83
 go_wp2_with fail
 refine H.out.mono ?_
 rintro e w1 ⟨rfl,rfl⟩
 go_wp2
 go_ret
 exact ⟨rfl,rfl⟩
structure XVars (w : World) : Prop where
 esyn : ∃ tp p,w.var? Tryz.prog "strconv.ErrSyntax"=some #[.iface tp p]
 eran : ∃ tp p,w.var? Tryz.prog "strconv.ErrRange"=some #[.iface tp p]
theorem xgSyn : Tryz.prog.globalNamed "strconv.ErrSyntax"=some 2:=by kernel_rfl
theorem xgRan : Tryz.prog.globalNamed "strconv.ErrRange"=some 3:=by kernel_rfl
theorem xvar_keep {w w' : World} (hb : Below w.heap.size w w') {n : String} {g : Nat} (hg : Tryz.prog.globalNamed n=some g) {x : Array Value} (h : w.var? Tryz.prog n=some x) : w'.var? Tryz.prog n=some x:=by
 simp only [World.var?,hg,Option.bind_some] at h ⊢
 cases hh : w.heap[g]? with
 | none=>rw [hh] at h;simp at h
 | some o =>
   have hlt:=(Array.getElem?_eq_some_iff.1 hh).1
   rw [hb.block g hlt]
   exact h
theorem XVars.below {w w' : World} (h : XVars w) (hb : Below w.heap.size w w') : XVars w':=by
 obtain ⟨⟨t,p,h1⟩,⟨t',p',h2⟩⟩:=h
 exact ⟨⟨t,p,xvar_keep hb xgSyn h1⟩,⟨t',p',xvar_keep hb xgRan h2⟩⟩
theorem xbytesWorld {w w' : World} {t : TypeId} (h : w'=w∨∃ s,w'=bytesWorld w t s) : Below w.heap.size w w':=by
 rcases h with rfl|⟨s,rfl⟩
 ·exact Below.refl _ _
 ·exact ⟨rfl,rfl,rfl,by rw [bytesWorld_size];omega,fun k hk=>bytesWorld_at_old w t s k hk⟩
theorem xparse_no (s : ByteArray) (hlim : s.size≤281474976710656) (h1 : ∀ v,parseIntB 64 s.data.toList≠.ok v) (h2 : parseIntB 64 s.data.toList≠.range) (tp : TypeId) (p : Value) (w : World) (hvar : w.var? Tryz.prog "strconv.ErrSyntax"=some #[.iface tp p]) :
 Calls Tryz.prog 89 #[.string s,.int .i64 10,.int .i64 64] w fun e w'=>∃ t N,e=.returned (.tuple #[.int .i64 (0),.iface t (.pointer (some ⟨N,0,none⟩))])∧Below w.heap.size w w' :=
 (Any.strconv_ParseInt_10_at64_syntax_var Tryz.laysC174 s hlim (by
   cases hp : parseIntB 64 s.data.toList with
   | ok v=>exact absurd hp (h1 v)
   | range=>exact absurd hp h2
   | _=>rfl) tp p w hvar).mono fun e w' ⟨N,h3,_,_,h4⟩=>⟨_,N,h3,h4⟩
set_option maxHeartbeats 1000000 in
set_option maxRecDepth 100000 in
theorem xright_calls {w : World} (hv : XVars w) (s : ByteArray) (h0 : 0 < s.size) (hs : s.size≤1000) :
 Calls Tryz.prog 81 #[.string s] w fun e w'=>e=.returned (.bool (rightN s.data.toList))∧Below w.heap.size w w':=by
 obtain ⟨z,hz⟩ : ∃ z,rightN s.data.toList=z:=⟨_,rfl⟩
 rw [hz]
 unfold rightN at hz
 cases hp : parseIntB 64 s.data.toList with
 | range =>
   rw [hp] at hz
   obtain ⟨tp,p,hvar⟩:=hv.eran
   have HP:=hid (Tryz.strconv_ParseInt_10_at64_range_var s (by omega) hp tp p w hvar)
   have hz0 : z=false:=hz.symm
   subst hz0
   clear hv hz hp hvar
   go_enter Tryz.func81,Tryz.ntmps81
   go_wp2_with fail
   refine HP.out.mono ?_
   rintro e w2 ⟨N,rfl,_,_,hb⟩
   have HB:=hid hb
   clear hb
   go_wp2_with fail
   go_ret
   exact ⟨rfl,HB.out⟩
 | ok v =>
   rw [hp] at hz
   dsimp only at hz
   have hbd:=parseIntB_bounds hp
   have HP:=hid (Tryz.strconv_ParseInt_10_at64_ok s (by omega) v hp w)
   have hhd : s.data.toList.head?=some s[0]:=by
    rw [List.head?_eq_getElem?,List.getElem?_eq_getElem (by simpa using h0)]
    rfl
   have hlen : s.data.toList.length=s.size:=by simp
   rw [hhd,hlen] at hz
   have HZ:=hid hz
   clear hhd hlen hbd hp hv hz
   by_cases h1 : v≤1099511627776
   ·by_cases h2 : s[0].toNat=48
    ·have t2 : ((s[0].toNat : Int) != 48)=false:=by rw [bne_eq_false_iff_eq];omega
     by_cases h3 : s.size=1
     ·have t3 : ((s.size : Int) == 1)=true:=by rw [beq_iff_eq];omega
      have hz1 : z=true:=by rw [← HZ.out];simp [h1,h3]
      subst hz1
      clear HZ h2 h3
      go_enter Tryz.func81,Tryz.ntmps81
      go_wp2_with fail
      refine HP.out.mono ?_
      rintro e w2 ⟨rfl,hb⟩
      have HB:=hid (xbytesWorld hb)
      clear hb
      go_wp2_with fail
      go_ret
      exact ⟨rfl,HB.out⟩
     ·have t3 : ((s.size : Int) == 1)=false:=by rw [beq_eq_false_iff_ne];omega
      have hz1 : z=false:=by rw [← HZ.out];simp [h2,h3]
      subst hz1
      clear HZ h2 h3
      go_enter Tryz.func81,Tryz.ntmps81
      go_wp2_with fail
      refine HP.out.mono ?_
      rintro e w2 ⟨rfl,hb⟩
      have HB:=hid (xbytesWorld hb)
      clear hb
      go_wp2_with fail
      go_ret
      exact ⟨rfl,HB.out⟩
    ·have t2 : ((s[0].toNat : Int) != 48)=true:=by rw [bne_iff_ne];omega
     have hz1 : z=true:=by rw [← HZ.out];simp [h1,h2]
     subst hz1
     clear HZ h2
     go_enter Tryz.func81,Tryz.ntmps81
     go_wp2_with fail
     refine HP.out.mono ?_
     rintro e w2 ⟨rfl,hb⟩
     have HB:=hid (xbytesWorld hb)
     clear hb
     go_wp2_with fail
     go_ret
     exact ⟨rfl,HB.out⟩
   ·have hz1 : z=false:=by rw [← HZ.out];simp [h1]
    subst hz1
    clear HZ
    go_enter Tryz.func81,Tryz.ntmps81
    go_wp2_with fail
    refine HP.out.mono ?_
    rintro e w2 ⟨rfl,hb⟩
    have HB:=hid (xbytesWorld hb)
    clear hb
    go_wp2_with fail
    go_ret
    exact ⟨rfl,HB.out⟩
 | _ =>
   rw [hp] at hz
   obtain ⟨tp,p,hvar⟩:=hv.esyn
   have HP:=hid (xparse_no s (by omega) (by rw [hp];intro v h;cases h) (by rw [hp];intro h;cases h) tp p w hvar)
   have hz0 : z=false:=hz.symm
   subst hz0
   clear hv hz hp hvar
   go_enter Tryz.func81,Tryz.ntmps81
   go_wp2_with fail
   refine HP.out.mono ?_
   rintro e w2 ⟨t,N,rfl,hb⟩
   have HB:=hid hb
   clear hb
   go_wp2_with fail
   go_ret
   exact ⟨rfl,HB.out⟩
end Go.Proofs.YtefcbgnckgapgaaGreatDoor
