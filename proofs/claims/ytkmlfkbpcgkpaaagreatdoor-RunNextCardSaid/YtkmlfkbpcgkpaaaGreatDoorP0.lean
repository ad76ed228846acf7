/- Texts that others want. -/
import Derived.Test.YtkmlfkbpcgkpaaaGreatDoorMB
import Derived.Test.YtkmlfkbpcgkpaaaGreatDoorMC
import Derived.Test.YtkmlfkbpcgkpaaaGreatDoorM6
import Derived.Test.YtkmlfkbpcgkpaaaGreatDoorMM
namespace Go.Proofs.YtkmlfkbpcgkpaaaGreatDoor
open Go.RowKit Go.Lib Go.Op
theorem zfR {α β : Type} {f g : α→List β} (hfg : ∀ x,(f x).Sublist (g x)) {l m : List α} (h : l.Sublist m) : (l.flatMap f).Sublist (m.flatMap g):=by
 induction h with
 | slnil=>exact List.Sublist.refl _
 | cons x _ ih =>
   rw [List.flatMap_cons]
   exact ih.trans (List.sublist_append_right _ _)
 | cons_cons x _ ih =>
   rw [List.flatMap_cons,List.flatMap_cons]
   exact (hfg x).append ih
section
variable {A : List (List PEv)→Nat→Bool} {its : List PIt} {e : PEv}
theorem zi5 (r : PRun) : (doesP A its e 2 r).Sublist (doesP A its e 1 r):=by
 unfold doesP
 cases refusedP A its e r with
 | true=>exact List.Sublist.refl _
 | false =>
   simp only [Bool.false_eq_true,if_false]
   have h1 : staysP A its e 1 r=true:=rfl
   have h2 : staysP A its e 2 r=(takenP A its e r).isEmpty:=rfl
   have g1 : goesP A its e 1 r=takenP A its e r:=rfl
   have g2 : goesP A its e 2 r=(takenP A its e r).take 1:=rfl
   rw [h1,h2,g1,g2,if_pos rfl]
   refine List.Sublist.append ?_ ((List.take_sublist 1 _).map _)
   split
   ·exact List.Sublist.refl _
   ·exact List.nil_sublist _
theorem zif {l m : List PRun} (h : l.Sublist m) : (deedsP A its e 2 l).Sublist (deedsP A its e 1 m):=by
 unfold deedsP
 exact (zfR zi5 h).append (List.Sublist.refl _)
theorem zcu {q p : PQu} (hi : q.its=p.its) (hw : q.within=p.within) (hr : rightQ q=rightQ p) {l m : List PRun} (h : l.Sublist m) (t : Int) : (timeP q l t).1.Sublist (timeP p m t).1∧(timeP q l t).2.Sublist (timeP p m t).2:=by
 unfold timeP
 rw [hi,hw,hr]
 split
 ·exact ⟨h.filter _,h.filterMap _⟩
 ·exact ⟨List.Sublist.refl _,List.Sublist.refl _⟩
theorem zi6 {q p : PQu} (hi : q.its=p.its) (hw : q.within=p.within) (hr : rightQ q=rightQ p) (hq : q.pick=2) (hp : p.pick=1) {l m : List PRun} (h : l.Sublist m) : (stepP A q e l).1.Sublist (stepP A p e m).1∧(stepP A q e l).2.Sublist (stepP A p e m).2:=by
 unfold stepP
 rw [hq,hp]
 cases rightE e with
 | false=>exact zcu hi hw hr h _
 | true =>
   rw [if_pos rfl,if_pos rfl,hr,hi]
   split
   ·have ht:=zcu hi hw hr h (e.ts - 1)
    have hd:=zif (A:=A) (its:=p.its) (e:=e) ht.1
    exact ⟨(hd.filter _).map _,ht.2.append ((hd.filter _).map _)⟩
   ·exact zcu hi hw hr h _
end
def goP (A : List (List PEv)→Nat→Bool) (q : PQu) : List PEv→List PRun × List PMt
 | []=>([],[])
 | e :: l=>((stepP A q e (goP A q l).1).1,(goP A q l).2++(stepP A q e (goP A q l).1).2)
def runsP (A : List (List PEv)→Nat→Bool) (q : PQu) (l : List PEv) : List PRun × List PMt:=goP A q l.reverse
def allP (A : List (List PEv)→Nat→Bool) (q : PQu) (l : List PEv) (t : Int) : List PMt:=(runsP A q l).2++(timeP q (runsP A q l).1 t).2
theorem zig {A : List (List PEv)→Nat→Bool} {q : PQu} {l : List PEv} {k : Nat} {e : PEv} (h : l[k]?=some e) : runsP A q (l.take (k+1))=((stepP A q e (runsP A q (l.take k)).1).1,(runsP A q (l.take k)).2++(stepP A q e (runsP A q (l.take k)).1).2):=by
 unfold runsP
 rw [List.take_add_one,h,Option.toList_some,List.reverse_append]
 rfl
theorem zjf {A : List (List PEv)→Nat→Bool} {q p : PQu} (hi : q.its=p.its) (hw : q.within=p.within) (hr : rightQ q=rightQ p) (hq : q.pick=2) (hp : p.pick=1) : ∀ l : List PEv,(goP A q l).1.Sublist (goP A p l).1∧(goP A q l).2.Sublist (goP A p l).2
 | []=>⟨List.Sublist.refl _,List.Sublist.refl _⟩
 | e :: l=>by
   have ih:=zjf (A:=A) hi hw hr hq hp l
   have hs:=zi6 (A:=A) (e:=e) hi hw hr hq hp ih.1
   exact ⟨hs.1,ih.2.append hs.2⟩
theorem zjQ {A : List (List PEv)→Nat→Bool} {q p : PQu} (hi : q.its=p.its) (hw : q.within=p.within) (hr : rightQ q=rightQ p) (hq : q.pick=2) (hp : p.pick=1) (l : List PEv) (t : Int) : (allP A q l t).Sublist (allP A p l t):=by
 have h:=zjf (A:=A) hi hw hr hq hp l.reverse
 exact h.2.append (zcu hi hw hr h.1 t).2
def SmR (n : Nat) (b : List (List PEv)) : Prop:=b.length≤6∧∀ l∈b,l.length≤n∧∀ e∈l,e.vals.length≤20
section
variable {A : List (List PEv)→Nat→Bool} {its : List PIt} {e : PEv} {n : Nat}
theorem SmR.up {m : Nat} {b : List (List PEv)} (h : SmR n b) (hm : n≤m) : SmR m b:=⟨h.1,fun l hl=>⟨Nat.le_trans (h.2 l hl).1 hm,(h.2 l hl).2⟩⟩
theorem SmR.bd {b : List (List PEv)} (h : SmR n b) (hn : n≤1000) : BdS b∧∀ l∈b,l.length < 100000:=by
 refine ⟨⟨by have:=h.1;omega,fun l hl=>⟨by have:=(h.2 l hl).1;omega,fun x hx=>by have:=(h.2 l hl).2 x hx;omega⟩⟩,fun l hl=>by have:=(h.2 l hl).1;omega⟩
theorem zjR {b : List (List PEv)} {k : Nat} (h : SmR n b) (hv : e.vals.length≤20) : SmR (n+1) (withP e b k):=by
 unfold withP
 refine ⟨by rw [List.length_set];exact h.1,fun l hl=>?_⟩
 rcases List.mem_or_eq_of_mem_set hl with hl|rfl
 ·exact (h.up (Nat.le_succ n)).2 l hl
 ·cases hb : b[k]? with
  | none=>exact ⟨by simp,fun x hx=>by have : x=e:=by simpa using hx
                                      rw [this];exact hv⟩
  | some y =>
    have hy:=List.mem_of_getElem? hb
    refine ⟨?_,fun x hx=>?_⟩
    ·have:=(h.2 y hy).1
     simp
     omega
    ·rcases List.mem_append.1 (show x∈y++[e] by simpa using hx) with hx|hx
     ·exact (h.2 y hy).2 x hx
     ·rw [List.mem_singleton.1 hx];exact hv
theorem zgj {r : PRun} (h : SmR n r.bound) (hv : e.vals.length≤20) : ∀ t∈takenP A its e r,SmR (n+1) t.bound:=fun t ht=>by
 obtain ⟨k,_,hk⟩:=List.mem_filterMap.1 ht
 unfold takesP at hk
 split at hk
 ·cases hk
 ·split at hk
  ·injection hk with hk
   rw [← hk]
   exact zjR h hv
  ·cases hk
theorem zi7 {pick : Int} {runs : List PRun} (h : ∀ r∈runs,SmR n r.bound) (hv : e.vals.length≤20) (h6 : its.length≤6) : ∀ d∈deedsP A its e pick runs,SmR (n+1) d.run.bound:=fun d hd=>by
 unfold deedsP at hd
 rcases List.mem_append.1 hd with hd|hd
 ·obtain ⟨r,hr,hd⟩:=List.mem_flatMap.1 hd
  unfold doesP at hd
  split at hd
  ·cases hd
  ·rcases List.mem_append.1 hd with hd|hd
   ·split at hd
    ·rw [List.mem_singleton.1 hd]
     exact (h r hr).up (Nat.le_succ n)
    ·cases hd
   ·obtain ⟨t,ht,rfl⟩:=List.mem_map.1 hd
    refine zgj (A:=A) (its:=its) (h r hr) hv t ?_
    unfold goesP at ht
    split at ht
    ·exact List.mem_of_mem_take ht
    ·exact ht
 ·obtain ⟨t,ht,rfl⟩:=List.mem_map.1 hd
  refine zgj (r:=begunP its) ⟨by simp [begunP];omega,fun l hl=>?_⟩ hv t ht
  rw [List.eq_of_mem_replicate hl]
  simp
theorem zih {q : PQu} {runs : List PRun} {t : Int} (h : ∀ r∈runs,SmR n r.bound) : (∀ r∈(timeP q runs t).1,SmR n r.bound)∧∀ m∈(timeP q runs t).2,SmR n m.bound:=by
 unfold timeP
 split
 ·refine ⟨fun r hr=>h r (List.mem_filter.1 hr).1,fun m hm=>?_⟩
  obtain ⟨r,hr,e⟩:=List.mem_filterMap.1 hm
  unfold doneR at e
  split at e
  ·injection e with e
   rw [← e]
   exact h r hr
  ·cases e
 ·exact ⟨fun r hr=>(by cases hr),fun r hr=>(by cases hr)⟩
theorem zjS {q : PQu} {runs : List PRun} (h : ∀ r∈runs,SmR n r.bound) (hv : e.vals.length≤20) : (∀ r∈(stepP A q e runs).1,SmR (n+1) r.bound)∧∀ m∈(stepP A q e runs).2,SmR (n+1) m.bound:=by
 have ht:=fun t=>zih (q:=q) (t:=t) h
 unfold stepP
 split
 ·split
  ·rename_i h1 h2
   obtain ⟨hq,_⟩:=Bool.and_eq_true_iff.1 h2
   have h6 : q.its.length≤6:=by
    obtain ⟨_,_,_,_,_,h6⟩:=zaw hq
    exact h6
   have hd:=zi7 (A:=A) (its:=q.its) (e:=e) (pick:=q.pick) (ht (e.ts - 1)).1 hv h6
   refine ⟨fun r hr=>?_,fun m hm=>?_⟩
   ·obtain ⟨d,hd',rfl⟩:=List.mem_map.1 hr
    exact hd d (List.mem_filter.1 hd').1
   ·rcases List.mem_append.1 hm with hm|hm
    ·exact ((ht (e.ts - 1)).2 m hm).up (Nat.le_succ n)
    ·obtain ⟨d,hd',rfl⟩:=List.mem_map.1 hm
     exact hd d (List.mem_filter.1 hd').1
  ·exact ⟨fun r hr=>((ht _).1 r hr).up (Nat.le_succ n),fun r hr=>((ht _).2 r hr).up (Nat.le_succ n)⟩
 ·exact ⟨fun r hr=>((ht _).1 r hr).up (Nat.le_succ n),fun r hr=>((ht _).2 r hr).up (Nat.le_succ n)⟩
theorem zjT {q : PQu} : ∀ {l : List PEv},(∀ e∈l,e.vals.length≤20)→(∀ r∈(goP A q l).1,SmR l.length r.bound)∧∀ m∈(goP A q l).2,SmR l.length m.bound
 | [],_=>⟨fun r hr=>(by cases hr),fun r hr=>(by cases hr)⟩
 | e :: l,h=>by
   have ih:=zjT (q:=q) (l:=l) (fun x hx=>h x (List.mem_cons_of_mem _ hx))
   have hs:=zjS (A:=A) (q:=q) ih.1 (h e List.mem_cons_self)
   refine ⟨hs.1,fun m hm=>?_⟩
   rcases List.mem_append.1 hm with hm|hm
   ·exact (ih.2 m hm).up (by rw [List.length_cons];exact Nat.le_succ _)
   ·exact hs.2 m hm
end
set_option maxHeartbeats 8000000
set_option maxRecDepth 100000
theorem zfS (t d s : Int) (n : ByteArray) (v : Value) (t' d' s' : Int) (n' : ByteArray) (v' : Value) (hv : ∃ a l c,v=.slice a l c) (hv' : ∃ a l c,v'=.slice a l c) (w : World) :
 Calls Tryz.prog 48 #[evV t d s n v,evV t' d' s' n' v'] w fun e w'=>e=.returned (.bool (lessE t d s t' d' s'))∧Below w.heap.size w w':=by
 obtain ⟨a1,l1,c1,rfl⟩:=hv
 obtain ⟨a2,l2,c2,rfl⟩:=hv'
 by_cases h1 : t=t'
 ·subst h1
  by_cases h2 : d=d'
  ·subst h2
   have e : lessE t d s t d s'=decide (s < s'):=by unfold lessE;simp
   rw [e]
   clear e
   by_cases h3 : s < s'
   ·rw [decide_eq_true h3]
    go_enter Tryz.func48,Tryz.ntmps48
    go_wp2
    go_ret
    exact ⟨rfl,by repeat' (first|exact Below.refl _ _|refine Below.alloc ?_ (by simp <;> omega) _)⟩
   ·rw [decide_eq_false h3]
    go_enter Tryz.func48,Tryz.ntmps48
    go_wp2
    go_ret
    exact ⟨rfl,by repeat' (first|exact Below.refl _ _|refine Below.alloc ?_ (by simp <;> omega) _)⟩
  ·have e : lessE t d s t d' s'=decide (d < d'):=by unfold lessE;simp [h2]
   rw [e]
   have hb : (d != d')=true:=by rw [bne_iff_ne];exact h2
   clear e
   by_cases h3 : d < d'
   ·rw [decide_eq_true h3]
    go_enter Tryz.func48,Tryz.ntmps48
    go_wp2
    go_ret
    exact ⟨rfl,by repeat' (first|exact Below.refl _ _|refine Below.alloc ?_ (by simp <;> omega) _)⟩
   ·rw [decide_eq_false h3]
    go_enter Tryz.func48,Tryz.ntmps48
    go_wp2
    go_ret
    exact ⟨rfl,by repeat' (first|exact Below.refl _ _|refine Below.alloc ?_ (by simp <;> omega) _)⟩
 ·have e : lessE t d s t' d' s'=decide (t < t'):=by unfold lessE;simp [h1]
  rw [e]
  have hb : (t != t')=true:=by rw [bne_iff_ne];exact h1
  clear e
  by_cases h3 : t < t'
  ·rw [decide_eq_true h3]
   go_enter Tryz.func48,Tryz.ntmps48
   go_wp2
   go_ret
   exact ⟨rfl,by repeat' (first|exact Below.refl _ _|refine Below.alloc ?_ (by simp <;> omega) _)⟩
  ·rw [decide_eq_false h3]
   go_enter Tryz.func48,Tryz.ntmps48
   go_wp2
   go_ret
   exact ⟨rfl,by repeat' (first|exact Below.refl _ _|refine Below.alloc ?_ (by simp <;> omega) _)⟩
def headE (t d s : Int) (n : ByteArray) : Bool:=numB t && (numB s && (decide (0≤d∧d≤3) && wordB n.data.toList))
theorem zfT (t d s : Int) (n : ByteArray) (vs : List VIn) : rightE (pe t d s n vs)=(headE t d s n && (decide (vs.length≤8) && (vs.map pv).all rightB)):=by
 rw [zcg]
 unfold headE
 simp only [Bool.and_assoc]
theorem zd4 (t d s : Int) (n : ByteArray) (a : Option Addr) (c : Nat) (vs : List VIn) (w : World) (hn : n.size≤maxLen) (hv : VRow w a vs) (hl : vs.length≤maxLen) :
 Calls Tryz.prog 34 #[evV t d s n (.slice a vs.length c)] w fun e w'=>e=.returned (.bool (rightE (pe t d s n vs)))∧Below w.heap.size w w':=by
 rw [zfT]
 have HV:=hid hv
 have HN:=hid (fun W=>zcT n W hn)
 obtain ⟨l,hll⟩ : ∃ l,vs.length=l:=⟨_,rfl⟩
 have Hl:=hid hll
 rw [hll] at hl ⊢
 unfold maxLen at hl
 clear hv hll hn
 unfold headE numB
 by_cases h1 : t < 0
 ·rw [decide_eq_false (show ¬ (0≤t∧t≤1099511627776) by omega)]
  go_enter Tryz.func34,Tryz.ntmps34
  go_wp2
  go_ret
  exact ⟨rfl,(Below.refl _ _).alloc (Nat.le_refl _) _⟩
 by_cases h2 : 1099511627776 < t
 ·rw [decide_eq_false (show ¬ (0≤t∧t≤1099511627776) by omega)]
  go_enter Tryz.func34,Tryz.ntmps34
  go_wp2
  go_ret
  exact ⟨rfl,(Below.refl _ _).alloc (Nat.le_refl _) _⟩
 rw [decide_eq_true (show 0≤t∧t≤1099511627776 by omega),Bool.true_and]
 by_cases h3 : s < 0
 ·rw [decide_eq_false (show ¬ (0≤s∧s≤1099511627776) by omega)]
  go_enter Tryz.func34,Tryz.ntmps34
  go_wp2
  go_ret
  exact ⟨rfl,(Below.refl _ _).alloc (Nat.le_refl _) _⟩
 by_cases h4 : 1099511627776 < s
 ·rw [decide_eq_false (show ¬ (0≤s∧s≤1099511627776) by omega)]
  go_enter Tryz.func34,Tryz.ntmps34
  go_wp2
  go_ret
  exact ⟨rfl,(Below.refl _ _).alloc (Nat.le_refl _) _⟩
 rw [decide_eq_true (show 0≤s∧s≤1099511627776 by omega),Bool.true_and]
 by_cases h5 : d < 0
 ·rw [decide_eq_false (show ¬ (0≤d∧d≤3) by omega)]
  go_enter Tryz.func34,Tryz.ntmps34
  go_wp2
  go_ret
  exact ⟨rfl,(Below.refl _ _).alloc (Nat.le_refl _) _⟩
 by_cases h6 : 3 < d
 ·rw [decide_eq_false (show ¬ (0≤d∧d≤3) by omega)]
  go_enter Tryz.func34,Tryz.ntmps34
  go_wp2
  go_ret
  exact ⟨rfl,(Below.refl _ _).alloc (Nat.le_refl _) _⟩
 rw [decide_eq_true (show 0≤d∧d≤3 by omega),Bool.true_and]
 cases h7 : wordB n.data.toList with
 | false =>
   rw [h7] at HN
   go_enter Tryz.func34,Tryz.ntmps34
   go_wp2_with (go_at_call 60;refine (HN.out _).mono ?_;rintro e w1 ⟨rfl,rfl⟩)
   go_ret
   exact ⟨rfl,(Below.refl _ _).alloc (Nat.le_refl _) _⟩
 | true =>
 rw [h7] at HN
 rw [Bool.true_and]
 obtain ⟨res,hres⟩ : ∃ res,(decide (l≤8) && (vs.map pv).all rightB)=res:=⟨_,rfl⟩
 have Hres:=hid hres
 rw [hres]
 clear hres h7
 have HB0 : Hid (Below w.heap.size w (w.alloc (.cells #[.int .i64 t,.int .i64 d,.int .i64 s,.string n,.slice a l c] 41))):=(Below.refl _ _).alloc (Nat.le_refl _) _
 have HX4 : Hid ((w.alloc (.cells #[.int .i64 t,.int .i64 d,.int .i64 s,.string n,.slice a l c] 41)).cell? ⟨w.heap.size,4,none⟩=some (.slice a l c)):=by show _=_;simp
 go_enter Tryz.func34,Tryz.ntmps34
 go_wp2_with (go_at_call 60;refine (HN.out _).mono ?_;rintro e w1 ⟨rfl,rfl⟩)
 generalize w.alloc (.cells #[.int .i64 t,.int .i64 d,.int .i64 s,.string n,.slice a l c] 41)=w0 at *
 go_loopw [3] (fun i wr=>∃ k : Nat,i=.int .i64 k∧k≤l∧Hid (RightTo vs k)∧Hid (Below w0.heap.size w0 wr)) (fun i _=>l - (RowKit.intOf i).toNat)
 case atStart=>exact ⟨0,rfl,Nat.zero_le _,fun j x hj=>by omega,Below.refl _ _⟩
 case round =>
  obtain ⟨k,rfl,hk,HR,HB⟩:=hrel
  have HBw : Hid (Below w.heap.size w wr):=HB0.out.trans (HB.out.mono HB0.out.size)
  have x4:=za8 HB.out HX4.out
  by_cases hlt : k < l
  ·obtain ⟨x,hx⟩ : ∃ x,vs[k]?=some x:=⟨_,List.getElem?_eq_getElem (by rw [Hl.out];exact hlt)⟩
   obtain ⟨A,rfl,c0,c1,c2,hs⟩:=(HV.out.below HBw.out) k x hx
   have hcall:=rright_calls x.1 x.2.1 x.2.2 wr hs
   unfold efld at c1 c2
   have hrv : rightV x.1 x.2.1 x.2.2=rightB (pv x):=rfl
   rw [hrv] at hcall
   cases hr : rightB (pv x) with
   | true =>
     have hst:=hid (HR.out.step hx hr)
     rw [hr] at hcall
     obtain ⟨k1,n1,s1⟩:=x
     dsimp only at c0 c1 c2 hcall
     clear hx hrv hr
     go_wp2_with (go_at_call 61;refine hcall.mono ?_;rintro e w1 ⟨rfl,rfl⟩)
     have HB1 : Hid (Below w0.heap.size w0 (wr.alloc (.cells #[.int .i64 k1,.int .i64 n1,.string s1] 70))):=HB.out.alloc HB.out.size _
     clear hcall
     go_roundw
     case rel=>exact ⟨k+1,by go_num,by omega,hst,HB1⟩
     case measure=>simp [RowKit.intOf];omega
   | false =>
     have hno:=hid (zgc hx hr)
     rw [hr] at hcall
     obtain ⟨k1,n1,s1⟩:=x
     dsimp only at c0 c1 c2 hcall
     clear hx hrv hr
     go_wp2_with (go_at_call 61;refine hcall.mono ?_;rintro e w1 ⟨rfl,rfl⟩)
     go_ret
     exact ⟨by rw [← Hres.out,hno.out,Bool.and_false];rfl,HBw.out.alloc HBw.out.size _⟩
  ·obtain rfl : k=l:=by omega
   have hall:=hid (RightTo.all (vs:=vs) (by rw [Hl.out];exact HR.out))
   by_cases h8 : k≤8
   ·have hd : decide ((k : Int)≤8)=true:=by simp;omega
    have e8 : decide (k≤8)=true:=decide_eq_true h8
    go_wp2
    go_ret
    exact ⟨by rw [← Hres.out,hall.out,e8];rfl,HBw.out⟩
   ·have hd : decide ((k : Int)≤8)=false:=by simp;omega
    have e8 : decide (k≤8)=false:=decide_eq_false h8
    go_wp2
    go_ret
    exact ⟨by rw [← Hres.out,e8];rfl,HBw.out⟩
section
variable {α : Type} {D : RowD α} {K : Nat→Prop} {w : World} {B : Nat} {t : TypeId} {v : Value} {l m : List α} {css : List (List Value)}
theorem OwnG.more {ts ty : TypeId} {z : Value} {bytes : Nat} (hu : Tryz.prog.underlying ts=some (.slice t)) (hi : (Tryz.prog.info? t).map (fun i=>(i.zero,i.size,i.bytes))=some (some z,D.k,bytes)) (hzs : z.cells.size=D.k) (hk : 0 < D.k) (hby : bytes≤100)
 (h : OwnG D K w B t v l css) (hK : ∀ g,v.ownBlock=some g→K g) (hB : B≤w.heap.size) (hl : l.length≤1000000) {a : Option Addr} {c : Nat} (hm : RowK D K w (.slice a m.length c) m) (hml : m.length≤1000000) :
 ∃ v' w' css',(Builtin.append_ #[ts,ts] ty #[v,.slice a m.length c]).run Tryz.prog w=.ok v' w'∧OwnG D (fun g=>K g∨v'.ownBlock=some g) w' B t v' (l++m) css'∧w.grownBy w' v.ownBlock∧(v'.ownBlock=v.ownBlock∨v'.ownBlock=some w.heap.size):=by
 obtain ⟨i0,hi,hz0,hz1,hz2⟩:=info_parts hi
 cases hm0 : m with
 | nil =>
   subst hm0
   have hle : ∃ va vc,v=.slice va l.length vc∧l.length≤vc:=by
    rcases h.row.2 with ⟨rfl,h0⟩|⟨g,cap,cur,rfl,_,_,hn,_⟩
    ·exact ⟨none,0,by rw [h0],by omega⟩
    ·exact ⟨_,cap,rfl,hn⟩
   obtain ⟨va,vc,rfl,hle⟩:=hle
   refine ⟨_,w,css,?_,?_,⟨rfl,rfl,rfl,Nat.le_refl _,fun _ _ _=>rfl⟩,.inl rfl⟩
   ·cases a with
    | none =>
      exact run_append_nothing w ts ts ty t i0 hu hi va _ vc hle _ (Src.ofNil w hu _)
    | some A =>
      exact run_append_nothing w ts ts ty t i0 hu hi va _ vc hle _ (Src.ofSlice w hu A 0 c [] (by simp) (fun j u h=>(by simp at h)) (fun u h=>(by cases h)))
   ·rw [List.append_nil]
    exact h.mono (fun g hg=>hg.elim id (hK g))
 | cons x0 m0 =>
   rw [← hm0]
   obtain ⟨g,o,mss,rfl,hg,h1,h2,h3,h4⟩:=hm.src hk (by rw [hm0];simp)
   have hone : ∀ u∈mss.flatten,u.oneCell'=true:=fun u hu=>by
    obtain ⟨cs,hcs,hu⟩:=List.mem_flatten.1 hu
    obtain ⟨j,hj,rfl⟩:=List.mem_iff_getElem.1 hcs
    obtain ⟨cs',e,hp⟩:=h3 j _ (List.getElem?_eq_getElem (by rw [← h1];exact hj))
    rw [List.getElem?_eq_getElem hj] at e
    have e2:=Option.some.inj e
    rw [← e2] at hp
    exact D.one hp u hu
   obtain ⟨v',w',hr,g2,g3,_,g5⟩:=run_append_own_at (P:=Tryz.prog) w B ts ty t i0 _ D.k bytes hu hi hz0 hz1 hz2 hzs hk v l.length css.flatten h.row ⟨g,o,none⟩ m.length c mss.flatten (by rw [zbf h2,h1]) (fun j u hj=>by
    have e : (⟨g,o,none⟩ : Addr).add j=⟨g,o+j,none⟩:=by unfold Addr.add;split <;> simp_all
    rw [e]
    exact h4 j u hj) hone (by unfold maxLen;omega) (by
    have : (l.length+m.length)*bytes≤2000000*100:=Nat.mul_le_mul (by omega) hby
    omega) hB
   have key : ∀ {cs : List Value} {y : α},D.P K w cs y→D.P (fun g=>K g∨v'.ownBlock=some g) w' cs y:=fun {cs y} hp=>by
    rcases g5 with e|e
    ·rw [e]
     exact D.mono (fun g hg=>hg.elim id (hK g)) (D.keep (TFr.of_grown g3 (fun k hk=>hK k hk)) hp)
    ·rw [e]
     exact D.mono (fun g hg=>hg.imp id (fun h=>(Option.some.inj h).symm)) (D.keep (TFr.of_grown g3 (fun k hk=>.inl (hK k hk))) (D.ne (Nat.le_refl _) hp))
   refine ⟨v',w',css++mss,hr,⟨by simp [h.n,h1],?_,fun c hc=>?_,fun j x hj=>?_⟩,g3,g5⟩
   ·rw [List.length_append,List.flatten_append]
    exact g2
   ·rcases List.mem_append.1 hc with hc|hc
    ·exact h.k c hc
    ·exact h2 c hc
   ·by_cases hlt : j < l.length
    ·rw [List.getElem?_append_left hlt] at hj
     obtain ⟨cs,e1,e2⟩:=h.p j x hj
     exact ⟨cs,by rw [List.getElem?_append_left (by rw [h.n];exact hlt)];exact e1,key e2⟩
    ·rw [List.getElem?_append_right (by omega)] at hj
     obtain ⟨cs,e1,e2⟩:=h3 _ x hj
     exact ⟨cs,by rw [List.getElem?_append_right (by rw [h.n];omega),h.n];exact e1,key e2⟩
end
def SoTo (w : World) (e : Ending) (w' : World) : Prop:=∃ z : Bool,e=.returned (.bool z)∧Below w.heap.size w w'
theorem ze5 {K : Nat→Prop} {w : World} {a : Option Addr} {n c : Nat} {l : List PEv} (h : RowK evD K w (.slice a n c) l) (hl : LnE l) : Calls Tryz.prog 19 #[.slice a n c] w (SoTo w):=by
 have HL:=hid h
 have Hn:=hid h.len
 have HV:=hid hl.2
 have hn : n≤140737488355328:=by rw [h.len];exact hl.1
 clear h hl
 go_enter Tryz.func19,Tryz.ntmps19
 go_wp2
 go_loopw [3] (fun i wr=>∃ k : Nat,i=.int .i64 k∧k≤n∧Hid (Below w.heap.size w wr)) (fun i _=>n - (RowKit.intOf i).toNat)
 case atStart=>exact ⟨0,rfl,Nat.zero_le _,Below.refl _ _⟩
 case round =>
  obtain ⟨k,rfl,hk,HB⟩:=hrel
  by_cases hlt : k < n
  ·obtain ⟨x,hx⟩ : ∃ x,l[k]?=some x:=⟨_,List.getElem?_eq_getElem (by rw [← Hn.out];exact hlt)⟩
   obtain ⟨g1,o1,va,vc,rfl,c0,c1,c2,c3,c4,hv,hs⟩:=(HL.out.low HB.out).evAt hx
   have hvl:=HV.out x (List.mem_of_getElem? hx)
   have HR : Hid (∀ W,Below wr.heap.size wr W→Calls Tryz.prog 34 #[.agg #[.int .i64 x.ts,.int .i64 x.dep,.int .i64 x.seq,.string (strB x.name),.slice va x.vals.length vc]] W fun e w'=>e=.returned (.bool (rightE x))∧Below W.heap.size W w'):=fun W hW=>by
    have h:=zd4 x.ts x.dep x.seq (strB x.name) va vc (x.vals.map pvIn) W (by rw [zap];exact hs) ((hv.low hW).vrow) (by rw [List.length_map];unfold maxLen;omega)
    rw [List.length_map,zjV] at h
    exact h
   have HPV : Hid (0 < k→∃ y ya yc,l[k - 1]?=some y∧wr.cell? ⟨g1,o1+(k - 1)*5,none⟩=some (.int .i64 y.ts)∧wr.cell? ⟨g1,o1+(k - 1)*5+1,none⟩=some (.int .i64 y.dep)∧wr.cell? ⟨g1,o1+(k - 1)*5+2,none⟩=some (.int .i64 y.seq)∧wr.cell? ⟨g1,o1+(k - 1)*5+3,none⟩=some (.string (strB y.name))∧wr.cell? ⟨g1,o1+(k - 1)*5+4,none⟩=some (.slice ya y.vals.length yc)):=fun h0=>by
    obtain ⟨y,hy⟩ : ∃ y,l[k - 1]?=some y:=⟨_,List.getElem?_eq_getElem (by rw [← Hn.out];omega)⟩
    obtain ⟨g2,o2,ya,yc,e,d0,d1,d2,d3,d4,_,_⟩:=(HL.out.low HB.out).evAt hy
    injection e with e
    injection e with e1 e2
    subst e1 e2
    exact ⟨y,ya,yc,hy,d0,d1,d2,d3,d4⟩
   obtain ⟨t,d,s,nm,vs⟩:=x
   dsimp only at c0 c1 c2 c3 c4 hvl HR
   obtain ⟨zr,hzr⟩ : ∃ z,rightE ⟨t,d,s,nm,vs⟩=z:=⟨_,rfl⟩
   obtain ⟨ln,hln⟩ : ∃ z,vs.length=z:=⟨_,rfl⟩
   obtain ⟨nb,hnb⟩ : ∃ z,strB nm=z:=⟨_,rfl⟩
   rw [hzr] at HR
   rw [hln] at c4 HR
   rw [hnb] at c3 HR
   have hk0 : (0 : Int)≤(k : Int):=by omega
   have hk1 : (k : Int) < (n : Int):=by omega
   clear hx hv hs hvl hzr hln hnb
   cases zr with
   | false =>
     go_upto_region 4 with fail
     replace c0 : wr.drew.cell? ⟨g1,o1+k*5,none⟩=some (.int .i64 t):=c0
     replace c1 : wr.drew.cell? ⟨g1,o1+k*5+1,none⟩=some (.int .i64 d):=c1
     replace c2 : wr.drew.cell? ⟨g1,o1+k*5+2,none⟩=some (.int .i64 s):=c2
     replace c3 : wr.drew.cell? ⟨g1,o1+k*5+3,none⟩=some (.string nb):=c3
     replace c4 : wr.drew.cell? ⟨g1,o1+k*5+4,none⟩=some (.slice va ln vc):=c4
     have dd : Hid (Below wr.heap.size wr wr.drew):=zae (Below.refl _ _)
     refine wp_region_held_drew (S:=fun W=>(W.cell? ⟨g1,o1+k*5,none⟩=some (.int .i64 t))∧(W.cell? ⟨g1,o1+k*5+1,none⟩=some (.int .i64 d))∧(W.cell? ⟨g1,o1+k*5+2,none⟩=some (.int .i64 s))∧(W.cell? ⟨g1,o1+k*5+3,none⟩=some (.string nb))∧(W.cell? ⟨g1,o1+k*5+4,none⟩=some (.slice va ln vc))∧(Hid (Below wr.heap.size wr W))) (by kernel_rfl) ⟨c0,c1,c2,c3,c4,dd⟩ (fun hHeld=>?_)
     refine rK 0 10 (h:=?_)
     try simp only [Act.put,rI,rZ,rS]
     refine rK 1 11 (h:=?_)
     try simp only [Act.put,rI,rZ,rS]
     refine rK 2 12 (h:=?_)
     try simp only [Act.put,rI,rZ,rS]
     refine rK 3 13 (h:=?_)
     try simp only [Act.put,rI,rZ,rS]
     refine rA 4 (h:=fun K hK=>?_)
     dsimp only [List.getElem_toArray,List.getElem_cons_succ,List.getElem_cons_zero]
     go_simp
     go_at_call 34
     with_reducible refine (HR.out _ dd.out).mono ?_
     rintro e w2 ⟨rfl,hb⟩
     replace c0:=zaa hb c0
     replace c1:=zaa hb c1
     replace c2:=zaa hb c2
     replace c3:=zaa hb c3
     replace c4:=zaa hb c4
     replace dd : Hid (Below wr.heap.size wr w2):=dd.out.trans (hb.mono dd.out.size)
     clear hb
     go_wp2_with fail
     refine hK.out _ _ ⟨c0,c1,c2,c3,c4,dd⟩ (fun hHeld=>?_)
     clear hK K
     try simp only [Act.put,rI,rZ,rS]
     refine rK 5 15 (h:=?_)
     try simp only [Act.put,rI,rZ,rS]
     refine rK 6 16 (h:=?_)
     try simp only [Act.put,rI,rZ,rS]
     refine rP 7 17 (h:=?_)
     try simp only [Act.put,rI,rZ,rS]
     refine rP 8 18 (h:=?_)
     try simp only [Act.put,rI,rZ,rS]
     refine rP 9 19 (h:=?_)
     try simp only [Act.put,rI,rZ,rS]
     refine rP 10 20 (h:=?_)
     try simp only [Act.put,rI,rZ,rS]
     refine rP 11 21 (h:=?_)
     try simp only [Act.put,rI,rZ,rS]
     refine rP 12 22 (h:=?_)
     try simp only [Act.put,rI,rZ,rS]
     refine rP 13 23 (h:=?_)
     try simp only [Act.put,rI,rZ,rS]
     refine rP 14 24 (h:=?_)
     try simp only [Act.put,rI,rZ,rS]
     refine rP 15 25 (h:=?_)
     try simp only [Act.put,rI,rZ,rS]
     refine rP 16 26 (h:=?_)
     try simp only [Act.put,rI,rZ,rS]
     refine rP 17 27 (h:=?_)
     try simp only [Act.put,rI,rZ,rS]
     refine rP 18 28 (h:=?_)
     try simp only [Act.put,rI,rZ,rS]
     refine rP 19 29 (h:=?_)
     try simp only [Act.put,rI,rZ,rS]
     refine rP 20 30 (h:=?_)
     try simp only [Act.put,rI,rZ,rS]
     refine rP 21 31 (h:=?_)
     try simp only [Act.put,rI,rZ,rS]
     refine rK 22 32 (h:=?_)
     try simp only [Act.put,rI,rZ,rS]
     refine wpAnyH_done (by kernel_rfl) ?_ _
     go_wp2
     go_ret
     exact ⟨false,rfl,HB.out.trans (dd.out.mono HB.out.size)⟩
   | true =>
     by_cases h0 : k=0
     ·subst h0
      have hd : decide ((0 : Int) < 0)=false:=by decide
      go_upto_region 4 with fail
      replace c0 : wr.drew.cell? ⟨g1,o1,none⟩=some (.int .i64 t):=c0
      replace c1 : wr.drew.cell? ⟨g1,o1+1,none⟩=some (.int .i64 d):=c1
      replace c2 : wr.drew.cell? ⟨g1,o1+2,none⟩=some (.int .i64 s):=c2
      replace c3 : wr.drew.cell? ⟨g1,o1+3,none⟩=some (.string nb):=c3
      replace c4 : wr.drew.cell? ⟨g1,o1+4,none⟩=some (.slice va ln vc):=c4
      have dd : Hid (Below wr.heap.size wr wr.drew):=zae (Below.refl _ _)
      refine wp_region_held_drew (S:=fun W=>(W.cell? ⟨g1,o1,none⟩=some (.int .i64 t))∧(W.cell? ⟨g1,o1+1,none⟩=some (.int .i64 d))∧(W.cell? ⟨g1,o1+2,none⟩=some (.int .i64 s))∧(W.cell? ⟨g1,o1+3,none⟩=some (.string nb))∧(W.cell? ⟨g1,o1+4,none⟩=some (.slice va ln vc))∧(Hid (Below wr.heap.size wr W))) (by kernel_rfl) ⟨c0,c1,c2,c3,c4,dd⟩ (fun hHeld=>?_)
      refine rK 0 10 (h:=?_)
      try simp only [Act.put,rI,rZ,rS]
      refine rK 1 11 (h:=?_)
      try simp only [Act.put,rI,rZ,rS]
      refine rK 2 12 (h:=?_)
      try simp only [Act.put,rI,rZ,rS]
      refine rK 3 13 (h:=?_)
      try simp only [Act.put,rI,rZ,rS]
      refine rA 4 (h:=fun K hK=>?_)
      dsimp only [List.getElem_toArray,List.getElem_cons_succ,List.getElem_cons_zero]
      go_simp
      go_at_call 34
      with_reducible refine (HR.out _ dd.out).mono ?_
      rintro e w2 ⟨rfl,hb⟩
      replace c0:=zaa hb c0
      replace c1:=zaa hb c1
      replace c2:=zaa hb c2
      replace c3:=zaa hb c3
      replace c4:=zaa hb c4
      replace dd : Hid (Below wr.heap.size wr w2):=dd.out.trans (hb.mono dd.out.size)
      clear hb
      go_wp2_with fail
      refine hK.out _ _ ⟨c0,c1,c2,c3,c4,dd⟩ (fun hHeld=>?_)
      clear hK K
      try simp only [Act.put,rI,rZ,rS]
      refine rK 5 15 (h:=?_)
      try simp only [Act.put,rI,rZ,rS]
      refine rK 6 16 (h:=?_)
      try simp only [Act.put,rI,rZ,rS]
      refine rK 7 17 (h:=?_)
      try simp only [Act.put,rI,rZ,rS]
      refine rK 8 18 (h:=?_)
      try simp only [Act.put,rI,rZ,rS]
      refine rK 9 19 (h:=?_)
      try simp only [Act.put,rI,rZ,rS]
      refine rP 10 20 (h:=?_)
      try simp only [Act.put,rI,rZ,rS]
      refine rP 11 21 (h:=?_)
      try simp only [Act.put,rI,rZ,rS]
      refine rP 12 22 (h:=?_)
      try simp only [Act.put,rI,rZ,rS]
      refine rP 13 23 (h:=?_)
      try simp only [Act.put,rI,rZ,rS]
      refine rP 14 24 (h:=?_)
      try simp only [Act.put,rI,rZ,rS]
      refine rP 15 25 (h:=?_)
      try simp only [Act.put,rI,rZ,rS]
      refine rP 16 26 (h:=?_)
      try simp only [Act.put,rI,rZ,rS]
      refine rP 17 27 (h:=?_)
      try simp only [Act.put,rI,rZ,rS]
      refine rP 18 28 (h:=?_)
      try simp only [Act.put,rI,rZ,rS]
      refine rP 19 29 (h:=?_)
      try simp only [Act.put,rI,rZ,rS]
      refine rP 20 30 (h:=?_)
      try simp only [Act.put,rI,rZ,rS]
      refine rK 21 31 (h:=?_)
      try simp only [Act.put,rI,rZ,rS]
      refine rK 22 32 (h:=?_)
      try simp only [Act.put,rI,rZ,rS]
      refine wpAnyH_done (by kernel_rfl) ?_ _
      go_wp2
      go_roundw
      case rel=>exact ⟨1,by go_num,by omega,HB.out.trans (dd.out.mono HB.out.size)⟩
      case measure=>simp [RowKit.intOf];omega
     ·obtain ⟨y,ya,yc,hy,d0,d1,d2,d3,d4⟩:=HPV.out (by omega)
      obtain ⟨t2,p2,s2,nm2,vs2⟩:=y
      dsimp only at d0 d1 d2 d3 d4
      obtain ⟨ln2,hln2⟩ : ∃ z,vs2.length=z:=⟨_,rfl⟩
      obtain ⟨nb2,hnb2⟩ : ∃ z,strB nm2=z:=⟨_,rfl⟩
      rw [hln2] at d4
      rw [hnb2] at d3
      clear hy hln2 hnb2
      obtain ⟨zl,hzl⟩ : ∃ z,lessE t2 p2 s2 t d s=z:=⟨_,rfl⟩
      have HLS : Hid (∀ W,Calls Tryz.prog 48 #[.agg #[.int .i64 t2,.int .i64 p2,.int .i64 s2,.string nb2,.slice ya ln2 yc],.agg #[.int .i64 t,.int .i64 d,.int .i64 s,.string nb,.slice va ln vc]] W fun e w'=>e=.returned (.bool zl)∧Below W.heap.size W w'):=fun W=>by
       have h:=zfS t2 p2 s2 nb2 (.slice ya ln2 yc) t d s nb (.slice va ln vc) ⟨_,_,_,rfl⟩ ⟨_,_,_,rfl⟩ W
       rw [hzl] at h
       exact h
      clear hzl
      have hk2 : ((k : Int) - 1)=((k - 1 : Nat) : Int):=by omega
      have hk3 : IntKind.i64.wrap ((k : Int) - 1)=((k - 1 : Nat) : Int):=by rw [IntWalk.i64_in _ (by omega)];omega
      have hk4 : (0 : Int)≤((k - 1 : Nat) : Int):=by omega
      have hk5 : ((k - 1 : Nat) : Int) < (n : Int):=by omega
      have hk6 : decide ((0 : Int) < (k : Int))=true:=by simp;omega
      go_upto_region 4 with fail
      replace c0 : wr.drew.cell? ⟨g1,o1+k*5,none⟩=some (.int .i64 t):=c0
      replace c1 : wr.drew.cell? ⟨g1,o1+k*5+1,none⟩=some (.int .i64 d):=c1
      replace c2 : wr.drew.cell? ⟨g1,o1+k*5+2,none⟩=some (.int .i64 s):=c2
      replace c3 : wr.drew.cell? ⟨g1,o1+k*5+3,none⟩=some (.string nb):=c3
      replace c4 : wr.drew.cell? ⟨g1,o1+k*5+4,none⟩=some (.slice va ln vc):=c4
      replace d0 : wr.drew.cell? ⟨g1,o1+(k - 1)*5,none⟩=some (.int .i64 t2):=d0
      replace d1 : wr.drew.cell? ⟨g1,o1+(k - 1)*5+1,none⟩=some (.int .i64 p2):=d1
      replace d2 : wr.drew.cell? ⟨g1,o1+(k - 1)*5+2,none⟩=some (.int .i64 s2):=d2
      replace d3 : wr.drew.cell? ⟨g1,o1+(k - 1)*5+3,none⟩=some (.string nb2):=d3
      replace d4 : wr.drew.cell? ⟨g1,o1+(k - 1)*5+4,none⟩=some (.slice ya ln2 yc):=d4
      have dd : Hid (Below wr.heap.size wr wr.drew):=zae (Below.refl _ _)
      refine wp_region_held_drew (S:=fun W=>(W.cell? ⟨g1,o1+k*5,none⟩=some (.int .i64 t))∧(W.cell? ⟨g1,o1+k*5+1,none⟩=some (.int .i64 d))∧(W.cell? ⟨g1,o1+k*5+2,none⟩=some (.int .i64 s))∧(W.cell? ⟨g1,o1+k*5+3,none⟩=some (.string nb))∧(W.cell? ⟨g1,o1+k*5+4,none⟩=some (.slice va ln vc))∧(W.cell? ⟨g1,o1+(k - 1)*5,none⟩=some (.int .i64 t2))∧(W.cell? ⟨g1,o1+(k - 1)*5+1,none⟩=some (.int .i64 p2))∧(W.cell? ⟨g1,o1+(k - 1)*5+2,none⟩=some (.int .i64 s2))∧(W.cell? ⟨g1,o1+(k - 1)*5+3,none⟩=some (.string nb2))∧(W.cell? ⟨g1,o1+(k - 1)*5+4,none⟩=some (.slice ya ln2 yc))∧(Hid (Below wr.heap.size wr W))) (by kernel_rfl) ⟨c0,c1,c2,c3,c4,d0,d1,d2,d3,d4,dd⟩ (fun hHeld=>?_)
      refine rK 0 10 (h:=?_)
      try simp only [Act.put,rI,rZ,rS]
      refine rK 1 11 (h:=?_)
      try simp only [Act.put,rI,rZ,rS]
      refine rK 2 12 (h:=?_)
      try simp only [Act.put,rI,rZ,rS]
      refine rK 3 13 (h:=?_)
      try simp only [Act.put,rI,rZ,rS]
      refine rA 4 (h:=fun K hK=>?_)
      dsimp only [List.getElem_toArray,List.getElem_cons_succ,List.getElem_cons_zero]
      go_simp
      go_at_call 34
      with_reducible refine (HR.out _ dd.out).mono ?_
      rintro e w2 ⟨rfl,hb⟩
      replace c0:=zaa hb c0
      replace c1:=zaa hb c1
      replace c2:=zaa hb c2
      replace c3:=zaa hb c3
      replace c4:=zaa hb c4
      replace d0:=zaa hb d0
      replace d1:=zaa hb d1
      replace d2:=zaa hb d2
      replace d3:=zaa hb d3
      replace d4:=zaa hb d4
      replace dd : Hid (Below wr.heap.size wr w2):=dd.out.trans (hb.mono dd.out.size)
      clear hb
      go_wp2_with fail
      refine hK.out _ _ ⟨c0,c1,c2,c3,c4,d0,d1,d2,d3,d4,dd⟩ (fun hHeld=>?_)
      clear hK K
      try simp only [Act.put,rI,rZ,rS]
      refine rK 5 15 (h:=?_)
      try simp only [Act.put,rI,rZ,rS]
      refine rK 6 16 (h:=?_)
      try simp only [Act.put,rI,rZ,rS]
      refine rK 7 17 (h:=?_)
      try simp only [Act.put,rI,rZ,rS]
      refine zf4 8 18 (v:=(.bool true)) rfl (by kernel_rfl) (by kernel_rfl) (by kernel_rfl) rfl (fun _ _ _ h=>h) (by rfl) ?yc8 (by first|assumption|(refine ⟨?_,?_,?_,?_,?_,?_,?_,?_,?_,?_,?_⟩ <;> assumption)) ?rc8
      case yc8=>(intro W hSw;(try dsimp only at hSw);(try obtain ⟨hS0,hS1,hS2,hS3,hS4,hS5,hS6,hS7,hS8,hS9,hS10⟩:=hSw);go_simp;(try rw [if_neg (by omega)]);(first|rfl|omega|(simp;omega)|(rw [hk6])))
      try simp only [Act.put,rI,rZ,rS]
      refine rK 9 19 (h:=?_)
      try simp only [Act.put,rI,rZ,rS]
      refine rK 10 20 (h:=?_)
      try simp only [Act.put,rI,rZ,rS]
      refine rK 11 21 (h:=?_)
      try simp only [Act.put,rI,rZ,rS]
      refine zf4 12 22 (v:=(.int .i64 ((k - 1 : Nat) : Int))) rfl (by kernel_rfl) (by kernel_rfl) (by kernel_rfl) rfl (fun _ _ _ h=>h) (by rfl) ?yc12 (by first|assumption|(refine ⟨?_,?_,?_,?_,?_,?_,?_,?_,?_,?_,?_⟩ <;> assumption)) ?rc12
      case yc12=>(intro W hSw;(try dsimp only at hSw);(try obtain ⟨hS0,hS1,hS2,hS3,hS4,hS5,hS6,hS7,hS8,hS9,hS10⟩:=hSw);go_simp;(try rw [if_neg (by omega)]);(first|rfl|(rw [IntWalk.i64_in _ (by omega)])|(rw [hk3])))
      try simp only [Act.put,rI,rZ,rS]
      refine rK 13 23 (h:=?_)
      try simp only [Act.put,rI,rZ,rS]
      refine rK 14 24 (h:=?_)
      try simp only [Act.put,rI,rZ,rS]
      refine rK 15 25 (h:=?_)
      try simp only [Act.put,rI,rZ,rS]
      refine rK 16 26 (h:=?_)
      try simp only [Act.put,rI,rZ,rS]
      refine rK 17 27 (h:=?_)
      try simp only [Act.put,rI,rZ,rS]
      refine rK 18 28 (h:=?_)
      try simp only [Act.put,rI,rZ,rS]
      refine rA 19 (h:=fun K hK=>?_)
      dsimp only [List.getElem_toArray,List.getElem_cons_succ,List.getElem_cons_zero]
      go_simp
      go_at_call 48
      with_reducible refine (HLS.out _).mono ?_
      rintro e w2 ⟨rfl,hb⟩
      replace c0:=zaa hb c0
      replace c1:=zaa hb c1
      replace c2:=zaa hb c2
      replace c3:=zaa hb c3
      replace c4:=zaa hb c4
      replace d0:=zaa hb d0
      replace d1:=zaa hb d1
      replace d2:=zaa hb d2
      replace d3:=zaa hb d3
      replace d4:=zaa hb d4
      replace dd : Hid (Below wr.heap.size wr w2):=dd.out.trans (hb.mono dd.out.size)
      clear hb
      go_wp2_with fail
      refine hK.out _ _ ⟨c0,c1,c2,c3,c4,d0,d1,d2,d3,d4,dd⟩ (fun hHeld=>?_)
      clear hK K
      try simp only [Act.put,rI,rZ,rS]
      refine rK 20 30 (h:=?_)
      try simp only [Act.put,rI,rZ,rS]
      refine rK 21 31 (h:=?_)
      try simp only [Act.put,rI,rZ,rS]
      refine rK 22 32 (h:=?_)
      try simp only [Act.put,rI,rZ,rS]
      refine wpAnyH_done (by kernel_rfl) ?_ _
      cases zl with
      | true =>
        go_wp2
        go_roundw
        case rel=>exact ⟨k+1,by go_num,by omega,HB.out.trans (dd.out.mono HB.out.size)⟩
        case measure=>simp [RowKit.intOf];omega
      | false =>
        go_wp2
        go_ret
        exact ⟨false,rfl,HB.out.trans (dd.out.mono HB.out.size)⟩
  ·go_wp2
   go_ret
   exact ⟨true,rfl,HB.out⟩
attribute [-go_sem] Go.Builtin.append_
def AllTo (L : List PMt) (w : World) (e : Ending) (w' : World) : Prop:=∃ a n c z,e=.returned (.tuple #[.slice a n c,.bool z])∧(z=true→RowK mtD (fun _=>False) w' (.slice a n c) L∧n≤2000)∧Below w.heap.size w w'
structure AllI (w wr : World) (v1 v2 : Value) (L1 : List PRun) (L2 : List PMt) : Prop where
 r : RowK runD (fun g=>v2.ownBlock=some g) wr v1 L1
 o : ∃ css,OwnG mtD (fun g=>v2.ownBlock=some g) wr w.heap.size 37 v2 L2 css
 n1 : L1.length≤300
 n2 : L2.length≤1000
 b : Below w.heap.size w wr
theorem zi4 {A : List (List PEv)→Nat→Bool} {p : PQu} {e : PEv} {runs : List PRun} (hl : runs.length≤300) : (stepP A p e runs).1.length≤710000∧(stepP A p e runs).2.length≤710000:=by
 have ht:=fun t=>zbN (q:=p) (runs:=runs) (b:=t)
 unfold stepP
 split
 ·split
  ·rename_i h1 h2
   obtain ⟨hq,_⟩:=Bool.and_eq_true_iff.1 h2
   obtain ⟨i0,_,hi,_,_,h6⟩:=zaw hq
   have h0 : 0 < p.its.length:=by rw [hi] <;> simp
   have hd:=zeI (A:=A) (its:=p.its) (e:=e) (pick:=p.pick) (runs:=(timeP p runs (e.ts - 1)).1) h0 h6 (fun r hr=>by
    have h:=hr
    unfold timeP at h
    rw [if_pos hq] at h
    have h3:=(List.mem_filter.1 h).2
    unfold stayR at h3
    have h4:=zaE.1 (Bool.and_eq_true_iff.1 h3).1
    exact ⟨by have:=h4.1;omega,h4.2.1⟩) (by have:=(ht (e.ts - 1)).1;omega)
   have f1:=List.length_filter_le (fun x : PDe=>x.on) (deedsP A p.its e p.pick (timeP p runs (e.ts - 1)).1)
   have f2:=List.length_filter_le (fun x : PDe=>x.fd) (deedsP A p.its e p.pick (timeP p runs (e.ts - 1)).1)
   have f3:=(ht (e.ts - 1)).2
   dsimp only
   rw [List.length_append,List.length_map,List.length_map]
   exact ⟨by omega,by omega⟩
  ·have:=ht (e.ts - 1);omega
 ·have:=ht (-1);omega
theorem AllI.app {w w6 w7 : World} {v1 v2 u1 u2 : Value} {L1 M1 : List PRun} {L2 M2 : List PMt} (h : AllI w w6 v1 v2 L1 L2) (hb : Below w6.heap.size w6 w7) (ho : OvX (fun g=>g < w6.heap.size) w6.heap.size w7 u1 u2 M1 M2) (hm : M2.length≤1000000) :
 ∃ a' c' w8,(Builtin.append_ #[32,32] 32 #[v2,u2]).run Tryz.prog w7=.ok (.slice a' (L2.length+M2.length) c') w8∧RowK runD (fun g=>(Value.slice a' (L2.length+M2.length) c').ownBlock=some g) w8 u1 M1∧(∃ css,OwnG mtD (fun g=>(Value.slice a' (L2.length+M2.length) c').ownBlock=some g) w8 w.heap.size 37 (.slice a' (L2.length+M2.length) c') (L2++M2) css)∧Below w.heap.size w w8:=by
 obtain ⟨css,h2⟩:=h.o
 obtain ⟨r1,r2⟩:=ho.rows (fun g hg=>hg)
 obtain ⟨a2,c2,rfl⟩:=ho.sl2
 have hown:=h2.own
 have hin : ∀ g,v2.ownBlock=some g→g < w6.heap.size:=fun g hg=>(hown g hg).2
 have hB6:=h.b.size
 have hB7:=hb.size
 obtain ⟨v',w8,css',hr,g1,g2,g3⟩:=(h2.low hb).more (ts:=32) (ty:=32) (z:=.agg #[.int .i64 0,.slice none 0 0]) (bytes:=32) Tryz.underlying32 mtI rfl (by decide) (by decide) (fun g hg=>hg) (by omega) (by have:=h.n2;omega) (r2.mono (fun g hg=>.inr (hin g hg))) hm
 obtain ⟨a',c',rfl⟩:=g1.slice
 rw [List.length_append] at hr g1 g3
 have hrr : RowK runD (fun g=>(Value.slice a' (L2.length+M2.length) c').ownBlock=some g) w8 u1 M1:=by
  have e1 : RowK runD (fun g=>v2.ownBlock=some g) w7 u1 M1:=r1.mono (fun g hg=>.inr (hin g hg))
  rcases g3 with e|e
  ·rw [e]
   exact e1.keep (TFr.of_grown g2 (fun k hk=>hk))
  ·rw [e]
   have e2:=(e1.ne (b:=w7.heap.size) (by decide) (Nat.le_refl _)).keep (TFr.of_grown g2 (K:=fun g=>v2.ownBlock=some g∨g=w7.heap.size) (fun k hk=>.inl hk))
   exact e2.mono (fun g hg=>.inr (Option.some.inj hg).symm)
 refine ⟨a',c',w8,hr,hrr,⟨css',?_⟩,?_⟩
 ·exact g1.mono (K':=fun g=>(Value.slice a' (L2.length+M2.length) c').ownBlock=some g) (fun g hg=>.inr hg)
 ·have e1:=h.b.trans (hb.mono hB6)
  refine ⟨g2.os.trans e1.os,g2.tape.trans e1.tape,g2.output.trans e1.output,Nat.le_trans e1.size g2.size,fun k hk=>?_⟩
  rw [← e1.block k hk]
  refine g2.block k (Nat.lt_of_lt_of_le hk (Nat.le_trans hB6 hB7)) (fun e=>?_)
  have:=(hown k e.symm).1
  omega
section
variable {K : Nat→Prop} {w : World} {sa qa qb ea : Option Addr} {sn sc q qc d en ec : Nat} {p : PQu} {ev : List PEv}
theorem ze4 (hq : QuAt K w qa q qc qb 0 d p) (hb : QuB p) (h : RowK evD (fun _=>False) w (.slice ea en ec) ev) (hs : ev.length≤60∧∀ e∈ev,e.vals.length≤20) (t : Int) (ht : -9223372036854775808≤t∧t≤9223372036854775807) :
 Calls Tryz.prog 21 #[.slice sa sn sc,.agg #[.slice qa q qc,.slice qb 0 d,.int .i64 p.within,.string (strB p.by_),.int .i64 p.pick],.slice ea en ec,.int .i64 t] w (AllTo (allP hqA p ev t) w):=by
 obtain ⟨w0,hw0⟩ : ∃ w0,w.alloc (.cells #[.slice qa q qc,.slice qb 0 d,.int .i64 p.within,.string (strB p.by_),.int .i64 p.pick] 26)=w0:=⟨_,rfl⟩
 have HB0 : Hid (Below w.heap.size w w0):=by rw [← hw0];exact (Below.refl w.heap.size w).alloc (Nat.le_refl _) _
 have HX : Hid (Blk w0 w.heap.size #[.slice qa q qc,.slice qb 0 d,.int .i64 p.within,.string (strB p.by_),.int .i64 p.pick] 26):=by rw [← hw0];exact Blk.new w #[.slice qa q qc,.slice qb 0 d,.int .i64 p.within,.string (strB p.by_),.int .i64 p.pick] 26
 have HW0:=hid hw0
 have HQ : Hid (QuAt K w0 qa q qc qb 0 d p):=⟨hq.1.low HB0.out,hq.2.low HB0.out⟩
 have HQB:=hid hb
 have HE : Hid (RowK evD (fun _=>False) w0 (.slice ea en ec) ev):=h.low HB0.out
 have HS:=hid hs.2
 have Hn:=hid h.len
 have hen : en≤60:=by rw [h.len];exact hs.1
 have HSM : Hid (∀ k,(∀ r∈(runsP hqA p (ev.take k)).1,SmR 60 r.bound)):=fun k r hr=>by
  have h1:=(zjT (A:=hqA) (q:=p) (l:=(ev.take k).reverse) (fun e he=>hs.2 e (List.mem_of_mem_take (List.mem_reverse.1 he)))).1 r hr
  refine h1.up ?_
  rw [List.length_reverse,List.length_take]
  have:=hs.1
  omega
 have HI : Hid (AllI w0 w0 (.slice none 0 0) (.slice none 0 0) (runsP hqA p (ev.take 0)).1 (runsP hqA p (ev.take 0)).2):=⟨RowK.nil _ _ _,⟨[],OwnG.nil⟩,Nat.zero_le _,Nat.zero_le _,Below.refl _ _⟩
 clear hq hb h hs hw0
 go_enter Tryz.func21,Tryz.ntmps21
 go_wp2
 rw [HW0.out]
 go_loopw [10,11,12,13,14] (fun x y i _ _ wr=>∃ (k n1 n2 c1 c2 : Nat) (a1 a2 : Option Addr),i=.int .i64 k∧k≤en∧x=.slice a1 n1 c1∧y=.slice a2 n2 c2∧Hid (AllI w0 wr (.slice a1 n1 c1) (.slice a2 n2 c2) (runsP hqA p (ev.take k)).1 (runsP hqA p (ev.take k)).2)) (fun _ _ i _ _ _=>en - (RowKit.intOf i).toNat)
 case atStart=>exact ⟨0,0,0,0,0,none,none,rfl,Nat.zero_le _,rfl,rfl,HI⟩
 case round =>
  clear HI
  obtain ⟨k,n1,n2,c1,c2,a1,a2,rfl,hk,rfl,rfl,HI⟩:=hrel
  have HSK:=hid (HSM.out k)
  obtain ⟨P,hP⟩ : ∃ P,runsP hqA p (ev.take k)=P:=⟨_,rfl⟩
  have HPK:=hid hP
  rw [hP] at HI HSK
  obtain ⟨L1,L2⟩:=P
  dsimp only at HI HSK
  have hn1:=HI.out.r.len
  have hn2 : n2=L2.length:=by
   obtain ⟨css,h⟩:=HI.out.o
   obtain ⟨a,c,e⟩:=h.slice
   injection e
  have HN1:=hid hn1
  have HN2:=hid hn2
  obtain ⟨x0,x1,x2,x3,x4⟩:=c5w (HX.out.low HI.out.b)
  have HRS : Hid (RunsS L1∧∀ t∈L1,∀ l∈t.bound,l.length < 100000):=⟨⟨by have:=HI.out.n1;omega,fun r hr=>((HSK.out r hr).bd (by decide)).1⟩,fun r hr=>((HSK.out r hr).bd (by decide)).2⟩
  clear hP hn1 hn2
  by_cases hlt : k < en
  ·obtain ⟨e,he⟩ : ∃ e,ev[k]?=some e:=⟨_,List.getElem?_eq_getElem (by rw [← Hn.out];exact hlt)⟩
   obtain ⟨g1,o1,va,vc,rfl,y0,y1,y2,y3,y4,hv,hs⟩:=(HE.out.low HI.out.b).evAt he
   have hev:=HS.out e (List.mem_of_getElem? he)
   obtain ⟨M,hM⟩ : ∃ M,stepP hqA p e L1=M:=⟨_,rfl⟩
   obtain ⟨M1,M2⟩:=M
   have hlen:=zi4 (A:=hqA) (p:=p) (e:=e) (runs:=L1) HI.out.n1
   rw [hM] at hlen
   have HMK : Hid (runsP hqA p (ev.take (k+1))=(M1,L2++M2)):=by
    show _=_
    rw [zig he,HPK.out]
    dsimp only
    rw [hM]
   have HST : Hid (∀ W,Below wr.heap.size wr W→Calls Tryz.prog 30 #[.slice sa sn sc,.agg #[.slice qa q qc,.slice qb 0 d,.int .i64 p.within,.string (strB p.by_),.int .i64 p.pick],.slice a1 n1 c1,.agg #[.int .i64 e.ts,.int .i64 e.dep,.int .i64 e.seq,.string (strB e.name),.slice va e.vals.length vc]] W (TiTo M1 M2 W)):=fun W hW=>by
    have hb:=HI.out.b.trans (hW.mono HI.out.b.size)
    have h1:=(HI.out.r.low hW).mono (K':=fun _=>False) (fun _ h=>h.elim)
    rw [HN1.out] at h1 ⊢
    have h:=zdt (sa:=sa) (sn:=sn) (sc:=sc) (e:=e) (ea:=va) (ec:=vc) (en:=e.vals.length) (A:=hqA) ⟨HQ.out.1.low hb,HQ.out.2.low hb⟩ HQB.out h1 HRS.out.1 HRS.out.2 (hv.low hW) hs (by omega) (fun _=>zch)
    rw [hM] at h
    exact h
   obtain ⟨ln,hln⟩ : ∃ z,e.vals.length=z:=⟨_,rfl⟩
   obtain ⟨nb,hnb⟩ : ∃ z,strB e.name=z:=⟨_,rfl⟩
   rw [hln] at y4 HST
   rw [hnb] at y3 HST
   have hk0 : (0 : Int)≤(k : Int):=by omega
   have hk1 : (k : Int) < (en : Int):=by omega
   have HLN:=hid hlen
   clear he hv hs hev hM hlen hln hnb
   go_upto_region 6 with fail
   replace x0 : wr.drew.cell? ⟨w.heap.size,0,none⟩=some (.slice qa q qc):=x0
   replace x1 : wr.drew.cell? ⟨w.heap.size,1,none⟩=some (.slice qb 0 d):=x1
   replace x2 : wr.drew.cell? ⟨w.heap.size,2,none⟩=some (.int .i64 p.within):=x2
   replace x3 : wr.drew.cell? ⟨w.heap.size,3,none⟩=some (.string (strB p.by_)):=x3
   replace x4 : wr.drew.cell? ⟨w.heap.size,4,none⟩=some (.int .i64 p.pick):=x4
   replace y0 : wr.drew.cell? ⟨g1,o1+k*5,none⟩=some (.int .i64 e.ts):=y0
   replace y1 : wr.drew.cell? ⟨g1,o1+k*5+1,none⟩=some (.int .i64 e.dep):=y1
   replace y2 : wr.drew.cell? ⟨g1,o1+k*5+2,none⟩=some (.int .i64 e.seq):=y2
   replace y3 : wr.drew.cell? ⟨g1,o1+k*5+3,none⟩=some (.string nb):=y3
   replace y4 : wr.drew.cell? ⟨g1,o1+k*5+4,none⟩=some (.slice va ln vc):=y4
   have dd : Hid (Below wr.heap.size wr wr.drew):=zae (Below.refl _ _)
   refine wp_region_held_drew (S:=fun W=>(W.cell? ⟨w.heap.size,0,none⟩=some (.slice qa q qc))∧(W.cell? ⟨w.heap.size,1,none⟩=some (.slice qb 0 d))∧(W.cell? ⟨w.heap.size,2,none⟩=some (.int .i64 p.within))∧(W.cell? ⟨w.heap.size,3,none⟩=some (.string (strB p.by_)))∧(W.cell? ⟨w.heap.size,4,none⟩=some (.int .i64 p.pick))∧(W.cell? ⟨g1,o1+k*5,none⟩=some (.int .i64 e.ts))∧(W.cell? ⟨g1,o1+k*5+1,none⟩=some (.int .i64 e.dep))∧(W.cell? ⟨g1,o1+k*5+2,none⟩=some (.int .i64 e.seq))∧(W.cell? ⟨g1,o1+k*5+3,none⟩=some (.string nb))∧(W.cell? ⟨g1,o1+k*5+4,none⟩=some (.slice va ln vc))∧(Hid (Below wr.heap.size wr W))) (by kernel_rfl) ⟨x0,x1,x2,x3,x4,y0,y1,y2,y3,y4,dd⟩ (fun hHeld=>?_)
   refine rL 0 24 (h:=?_)
   try simp only [Act.put,rI,rZ,rS]
   refine rK 1 25 (h:=?_)
   try simp only [Act.put,rI,rZ,rS]
   refine rL 2 26 (h:=?_)
   try simp only [Act.put,rI,rZ,rS]
   refine rL 3 27 (h:=?_)
   try simp only [Act.put,rI,rZ,rS]
   refine rL 4 28 (h:=?_)
   try simp only [Act.put,rI,rZ,rS]
   refine rL 5 29 (h:=?_)
   try simp only [Act.put,rI,rZ,rS]
   refine rK 6 30 (h:=?_)
   try simp only [Act.put,rI,rZ,rS]
   refine rA 7 (h:=fun K hK=>?_)
   dsimp only [List.getElem_toArray,List.getElem_cons_succ,List.getElem_cons_zero]
   go_simp
   go_at_call 30
   with_reducible refine (HST.out _ dd.out).mono ?_
   rintro e1 w7 ⟨v1,v2,rfl,ho,hb⟩
   have HO : Hid (OvX (fun g=>g < wr.heap.size) wr.heap.size w7 v1 v2 M1 M2):=ho
   obtain ⟨a3,c3,rfl⟩:=ho.sl1
   obtain ⟨a4,c4,rfl⟩:=ho.sl2
   replace x0:=zaa hb x0
   replace x1:=zaa hb x1
   replace x2:=zaa hb x2
   replace x3:=zaa hb x3
   replace x4:=zaa hb x4
   replace y0:=zaa hb y0
   replace y1:=zaa hb y1
   replace y2:=zaa hb y2
   replace y3:=zaa hb y3
   replace y4:=zaa hb y4
   replace dd : Hid (Below wr.heap.size wr w7):=dd.out.trans (hb.mono dd.out.size)
   clear hb ho
   go_wp2_with fail
   refine hK.out _ _ ⟨x0,x1,x2,x3,x4,y0,y1,y2,y3,y4,dd⟩ (fun hHeld=>?_)
   clear hK K
   try simp only [Act.put,rI,rZ,rS]
   refine rL 8 23 (h:=?_)
   try simp only [Act.put,rI,rZ,rS]
   refine rL 9 32 (h:=?_)
   try simp only [Act.put,rI,rZ,rS]
   refine rL 10 33 (h:=?_)
   try simp only [Act.put,rI,rZ,rS]
   refine rL 11 13 (h:=?_)
   try simp only [Act.put,rI,rZ,rS]
   refine rL 12 14 (h:=?_)
   try simp only [Act.put,rI,rZ,rS]
   refine wpAnyH_done (by kernel_rfl) ?_ _
   obtain ⟨a5,c5,w8,hr,g1',g2',g3'⟩:=HI.out.app dd.out HO.out (by have:=HLN.out.2;omega)
   obtain ⟨n5,hn5⟩ : ∃ z,L2.length+M2.length=z:=⟨_,rfl⟩
   obtain ⟨n3,hn3⟩ : ∃ z,M1.length=z:=⟨_,rfl⟩
   obtain ⟨n4,hn4⟩ : ∃ z,M2.length=z:=⟨_,rfl⟩
   rw [hn5,hn4] at hr
   rw [hn5] at g1' g2'
   rw [hn3] at g1' ⊢
   rw [hn4] at ⊢
   have HG3:=hid g3'
   have HNI : Hid (¬ 300 < n3→¬ 1000 < n5→AllI w0 w8 (.slice a3 n3 c3) (.slice a5 n5 c5) (runsP hqA p (ev.take (k+1))).1 (runsP hqA p (ev.take (k+1))).2):=fun q1 q2=>by
    rw [HMK.out]
    exact ⟨g1',g2',by show M1.length≤300;omega,by show (L2++M2).length≤1000;rw [List.length_append];omega,g3'⟩
   have hn3l : n3≤710000:=by have:=HLN.out.1;omega
   have hn5l : n5≤720000:=by have:=HLN.out.2;have:=HI.out.n2;omega
   clear hn5 hn3 hn4 g1' g2' g3' y0 y1 y2 y3 y4 x0 x1 x2 x3 x4 dd HO HST
   by_cases h3 : 300 < n3
   ·have t1 : decide ((300 : Int) < (n3 : Int))=true:=by simp;omega
    go_wp2
    refine bodyPost_ret (v:=.tuple #[.slice none 0 0,.bool false]) (by simp [results,Tryz.results21,go_sem]) rfl ?_
    exact ⟨none,0,0,false,rfl,fun h=>(by cases h),HB0.out.trans (HG3.out.mono HB0.out.size)⟩
   ·have t1 : decide ((300 : Int) < (n3 : Int))=false:=by simp;omega
    by_cases h5 : 1000 < n5
    ·have t2 : decide ((1000 : Int) < (n5 : Int))=true:=by simp;omega
     go_wp2
     refine bodyPost_ret (v:=.tuple #[.slice none 0 0,.bool false]) (by simp [results,Tryz.results21,go_sem]) rfl ?_
     exact ⟨none,0,0,false,rfl,fun h=>(by cases h),HB0.out.trans (HG3.out.mono HB0.out.size)⟩
    ·have t2 : decide ((1000 : Int) < (n5 : Int))=false:=by simp;omega
     go_wp2
     go_roundw
     case rel=>exact ⟨k+1,n3,n5,c3,c5,a3,a5,by go_num,by omega,rfl,rfl,HNI.out h3 h5⟩
     case measure=>simp [RowKit.intOf];omega
  ·have hkn : k=en:=by omega
   have HEV : Hid (ev.take k=ev):=List.take_of_length_le (by rw [← Hn.out];omega)
   obtain ⟨M,hM⟩ : ∃ M,timeP p L1 t=M:=⟨_,rfl⟩
   obtain ⟨M1,M2⟩:=M
   have HFIN : Hid (allP hqA p ev t=L2++M2):=by
    show _=_
    unfold allP
    have h:=HPK.out
    rw [HEV.out] at h
    rw [h]
    dsimp only
    rw [hM]
   have hlen : M2.length≤300:=by
    have h:=(zbN (q:=p) (runs:=L1) (b:=t)).2
    rw [hM] at h
    have:=HI.out.n1
    dsimp only at h
    omega
   have HTM : Hid (Calls Tryz.prog 27 #[.agg #[.slice qa q qc,.slice qb 0 d,.int .i64 p.within,.string (strB p.by_),.int .i64 p.pick],.slice a1 n1 c1,.int .i64 t] wr (TiTo M1 M2 wr)) :=
    zgG (K:=K) ⟨HQ.out.1.low HI.out.b,HQ.out.2.low HI.out.b⟩ HQB.out (HI.out.r.mono (fun _ h=>h.elim)) HRS.out.1 t ht hM
   clear hM
   go_wp2_with fail
   with_reducible refine HTM.out.mono ?_
   rintro e1 w7 ⟨v1,v2,rfl,ho,hb7⟩
   obtain ⟨a5,c5,w8,hr,_,g2',g3'⟩:=HI.out.app hb7 ho (by omega)
   obtain ⟨a3,c3,rfl⟩:=ho.sl1
   obtain ⟨a4,c4,rfl⟩:=ho.sl2
   obtain ⟨css,h9⟩:=g2'
   have HRW : Hid (RowK mtD (fun _=>False) w8 (.slice a5 (L2.length+M2.length) c5) (L2++M2)):=h9.row' (fun _ h=>h.elim) (fun _ _ h=>h)
   have HG3:=hid g3'
   obtain ⟨n5,hn5⟩ : ∃ z,L2.length+M2.length=z:=⟨_,rfl⟩
   obtain ⟨n3,hn3⟩ : ∃ z,M1.length=z:=⟨_,rfl⟩
   obtain ⟨n4,hn4⟩ : ∃ z,M2.length=z:=⟨_,rfl⟩
   rw [hn5,hn4] at hr
   rw [hn5] at HRW
   rw [hn3,hn4]
   have hn5l : n5≤2000:=by have:=HI.out.n2;omega
   clear hn5 hn3 hn4 h9 g3' ho hb7 x0 x1 x2 x3 x4 HTM
   go_wp2
   refine bodyPost_ret (v:=.tuple #[.slice a5 n5 c5,.bool true]) (by simp [results,Tryz.results21,go_sem]) rfl ?_
   rw [HFIN.out]
   exact ⟨a5,n5,c5,true,rfl,fun _=>⟨HRW.out,hn5l⟩,HB0.out.trans (HG3.out.mono HB0.out.size)⟩
end
end Go.Proofs.YtkmlfkbpcgkpaaaGreatDoor
