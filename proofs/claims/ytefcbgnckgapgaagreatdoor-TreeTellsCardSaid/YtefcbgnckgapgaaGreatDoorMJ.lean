/- Queries: the document's Same of items. | Queries: the document's Same of predicates. -/
import Derived.Test.YtefcbgnckgapgaaGreatDoorMI
namespace Go.Proofs.YtefcbgnckgapgaaGreatDoor
open Go.RowKit Go.Lib Go.Op
def IBlk (w : World) (b : Nat) (t0 t1 t2 t3 : Value) : Prop:=w.heap[b]?=some (.cells #[t0,t1,t2,t3] 35 (0,0))
theorem IBlk.new (w : World) (t0 t1 t2 t3 : Value) : IBlk (w.alloc (.cells #[t0,t1,t2,t3] 35)) w.heap.size t0 t1 t2 t3:=heap_alloc_new w _
section
variable {w : World} {a a' : Option Addr} {c c' n n' : Nat} {no no' : Bool} {m m' : Int} {x x' : List UInt8}
set_option maxHeartbeats 2000000 in
set_option maxRecDepth 100000 in
theorem si_no (h : ¬ (no=no'∧x=x'∧m=m'∧n=n')) :
 Calls Tryz.prog 16 #[.agg #[.bool no,.slice a n c,.string (strB x),.int .i64 m],.agg #[.bool no',.slice a' n' c',.string (strB x'),.int .i64 m']] w fun e w'=>e=.returned (.bool false)∧Below w.heap.size w w':=by
 have H:=hid h
 clear h
 go_enter Tryz.func16,Tryz.ntmps16
 go_wp2
 all_goals first
  | (go_ret;exact ⟨rfl,((Below.refl w.heap.size w).alloc (Nat.le_refl _) _).alloc (by simp) _⟩)
  | (exfalso;have H1:=H.out;simp_all [tB_list];omega)
  | (exfalso;have H1:=H.out;simp_all [tB_list])
end
set_option maxHeartbeats 2000000 in
set_option maxRecDepth 100000 in
theorem si_step {K K' : Nat→Prop} {w : World} {a a' : Option Addr} {c c' n : Nat} {no : Bool} {m : Int} {x : List UInt8} {ns ns' : List (List UInt8)} (h1 : ns.length=n) (h2 : ns'.length=n) (hn : n≤maxLen) (hr : RowK nameD K w (.slice a n c) ns) (hr' : RowK nameD K' w (.slice a' n c') ns') :
 Calls Tryz.prog 16 #[.agg #[.bool no,.slice a n c,.string (strB x),.int .i64 m],.agg #[.bool no,.slice a' n c',.string (strB x),.int .i64 m]] w fun e w'=>e=.returned (.bool (sameB ns ns'))∧Below w.heap.size w w':=by
 obtain ⟨sx,hsx⟩ : ∃ s,strB x=s:=⟨_,rfl⟩
 rw [hsx]
 have H1:=hid h1
 have H2:=hid h2
 have HR:=hid hr
 have HR':=hid hr'
 have HB0:=hid (((Below.refl w.heap.size w).alloc (Nat.le_refl _) (.cells #[.bool no,.slice a n c,.string sx,.int .i64 m] 35)).alloc (by simp) (.cells #[.bool no,.slice a' n c',.string sx,.int .i64 m] 35))
 have HX1 : Hid (IBlk ((w.alloc (.cells #[.bool no,.slice a n c,.string sx,.int .i64 m] 35)).alloc (.cells #[.bool no,.slice a' n c',.string sx,.int .i64 m] 35)) w.heap.size (.bool no) (.slice a n c) (.string sx) (.int .i64 m)):=(((Below.refl (w.alloc (.cells #[.bool no,.slice a n c,.string sx,.int .i64 m] 35)).heap.size (w.alloc (.cells #[.bool no,.slice a n c,.string sx,.int .i64 m] 35))).alloc (Nat.le_refl _) (.cells #[.bool no,.slice a' n c',.string sx,.int .i64 m] 35)).block w.heap.size (by simp)).trans (IBlk.new w (.bool no) (.slice a n c) (.string sx) (.int .i64 m))
 have HX2 : Hid (IBlk ((w.alloc (.cells #[.bool no,.slice a n c,.string sx,.int .i64 m] 35)).alloc (.cells #[.bool no,.slice a' n c',.string sx,.int .i64 m] 35)) (w.heap.size+1) (.bool no) (.slice a' n c') (.string sx) (.int .i64 m)):=by
  have h9:=IBlk.new (w.alloc (.cells #[.bool no,.slice a n c,.string sx,.int .i64 m] 35)) (.bool no) (.slice a' n c') (.string sx) (.int .i64 m)
  have e9 : (w.alloc (.cells #[.bool no,.slice a n c,.string sx,.int .i64 m] 35)).heap.size=w.heap.size+1:=by simp
  rw [e9] at h9
  exact h9
 obtain ⟨z,hz⟩ : ∃ z,sameB ns ns'=z:=⟨_,rfl⟩
 rw [hz]
 have HZ:=hid hz
 unfold maxLen at hn
 clear hz hsx h1 h2 hr hr'
 go_enter Tryz.func16,Tryz.ntmps16
 go_wp2
 go_loopw [5] (fun i wr=>∃ (j : Nat),i=.int .i64 j∧j≤n∧Hid (ns.take j=ns'.take j)∧Hid (Below (w.heap.size+2) ((w.alloc (.cells #[.bool no,.slice a n c,.string sx,.int .i64 m] 35)).alloc (.cells #[.bool no,.slice a' n c',.string sx,.int .i64 m] 35)) wr)) (fun i _=>n - (RowKit.intOf i).toNat)
 case atStart=>exact ⟨0,rfl,Nat.zero_le _,rfl,Below.refl _ _⟩
 case round =>
  obtain ⟨j,rfl,hj,HG,HB⟩:=hrel
  have hx1:=(HB.out.block w.heap.size (by omega)).trans HX1.out
  have hx2:=(HB.out.block (w.heap.size+1) (by omega)).trans HX2.out
  have x1:=tcell hx1 (k:=1) rfl
  have y1:=tcell hx2 (k:=1) rfl
  have HBw:=hid (HB0.out.trans (HB.out.mono (by omega)))
  by_cases hlt : j < n
  ·obtain ⟨y,hy⟩ : ∃ y,ns[j]?=some y:=⟨_,List.getElem?_eq_getElem (by rw [H1.out];exact hlt)⟩
   obtain ⟨u,hu⟩ : ∃ u,ns'[j]?=some u:=⟨_,List.getElem?_eq_getElem (by rw [H2.out];exact hlt)⟩
   obtain ⟨g,o,rfl,e0⟩:=HR.out.nameAt3 hy
   obtain ⟨g',o',rfl,i0⟩:=HR'.out.nameAt3 hu
   have d0:=tkeep HBw.out e0
   have f0:=tkeep HBw.out i0
   have HY:=hid hy
   have HU:=hid hu
   have hk0 : (0 : Int)≤(j : Int):=by omega
   have hk1 : (j : Int) < (n : Int):=by omega
   by_cases hr : y=u
   ·subst hr
    have HN : Hid (ns.take (j+1)=ns'.take (j+1)):=by
     show _=_
     rw [List.take_add_one,List.take_add_one,HY.out,HU.out,HG.out]
    clear hy hu e0 i0 hx1 hx2
    go_wp2_with fail
    go_quiet (fail)
    have HB1 : Hid (Below (w.heap.size+2) ((w.alloc (.cells #[.bool no,.slice (some ⟨g,o,none⟩) n c,.string sx,.int .i64 m] 35)).alloc (.cells #[.bool no,.slice (some ⟨g',o',none⟩) n c',.string sx,.int .i64 m] 35)) (wr.drewN nq)):=⟨HB.out.os,HB.out.tape,HB.out.output,HB.out.size,HB.out.block⟩
    go_wp2_with fail
    go_roundw
    case rel=>exact ⟨j+1,by go_num,by omega,HN,HB1⟩
    case measure=>simp [RowKit.intOf];omega
   ·have HE : Hid (z=false):=by
     show _=_
     rw [← HZ.out]
     refine sameB_no (fun e=>hr ?_)
     have h3:=HY.out
     have h4:=HU.out
     rw [e,h4] at h3
     exact (Option.some.inj h3).symm
    have t0 : ((strB y).toList == (strB u).toList)=false:=by simp [tB_list,hr]
    clear hy hu e0 i0 hx1 hx2 hr
    go_wp2_with fail
    go_quiet (fail)
    have HB1 : Hid (Below w.heap.size w (wr.drewN nq)):=vbelow_drewN HBw.out _
    go_wp2
    go_ret
    rw [HE.out]
    exact ⟨rfl,HB1.out⟩
  ·have HE : Hid (z=true):=by
    show _=_
    rw [← HZ.out]
    have h3:=HG.out
    rw [List.take_of_length_le (by rw [H1.out];omega),List.take_of_length_le (by rw [H2.out];omega)] at h3
    exact sameB_yes h3
   clear hx1 hx2
   go_wp2
   go_ret
   rw [HE.out]
   exact ⟨rfl,HBw.out⟩
theorem sameI_calls {K K' : Nat→Prop} {w : World} {a a' : Option Addr} {c c' : Nat} (i j : PIt) (hr : RowK nameD K w (.slice a i.ns.length c) i.ns) (hr' : RowK nameD K' w (.slice a' j.ns.length c') j.ns) (hl : i.ns.length≤maxLen) :
 Calls Tryz.prog 16 #[.agg #[.bool i.no,.slice a i.ns.length c,.string (strB i.x),.int .i64 i.mode],.agg #[.bool j.no,.slice a' j.ns.length c',.string (strB j.x),.int .i64 j.mode]] w fun e w'=>e=.returned (.bool (sameB i j))∧Below w.heap.size w w':=by
 obtain ⟨no,ns,x,m⟩:=i
 obtain ⟨no',ns',x',m'⟩:=j
 dsimp only at hr hr' hl ⊢
 by_cases hall : no=no'∧x=x'∧m=m'∧ns.length=ns'.length
 ·obtain ⟨rfl,rfl,rfl,hn⟩:=hall
  have e2 : sameB (PIt.mk no ns x m) (PIt.mk no ns' x m)=sameB ns ns':=by
   by_cases hk : ns=ns'
   ·rw [sameB_yes hk,sameB_yes (by rw [hk])]
   ·rw [sameB_no hk,sameB_no (fun e=>hk (by injection e))]
  rw [e2,← hn]
  rw [← hn] at hr'
  exact si_step rfl hn.symm hl hr hr'
 ·have e2 : sameB (PIt.mk no ns x m) (PIt.mk no' ns' x' m')=false:=sameB_no (fun e=>hall (by cases e;exact ⟨rfl,rfl,rfl,rfl⟩))
  rw [e2]
  exact si_no hall
end Go.Proofs.YtefcbgnckgapgaaGreatDoor
namespace Go.Proofs.YtefcbgnckgapgaaGreatDoor
open Go.RowKit Go.Lib Go.Op
section
variable {w : World} {a b a' b' : Option Addr} {q c r d q' c' r' d' : Nat} {p p' : PPr}
set_option maxHeartbeats 2000000 in
set_option maxRecDepth 100000 in
theorem sp_no (h : p.cmp≠p'.cmp) : Calls Tryz.prog 17 #[.agg #[.int .i64 p.cmp,.int .i64 p.l.k,.int .i64 p.l.v.k,.int .i64 p.l.v.n,.string (strB p.l.v.s),.string (strB p.l.x),.string (strB p.l.f),.slice a q c,.int .i64 p.r.k,.int .i64 p.r.v.k,.int .i64 p.r.v.n,.string (strB p.r.v.s),.string (strB p.r.x),.string (strB p.r.f),.slice b r d],.agg #[.int .i64 p'.cmp,.int .i64 p'.l.k,.int .i64 p'.l.v.k,.int .i64 p'.l.v.n,.string (strB p'.l.v.s),.string (strB p'.l.x),.string (strB p'.l.f),.slice a' q' c',.int .i64 p'.r.k,.int .i64 p'.r.v.k,.int .i64 p'.r.v.n,.string (strB p'.r.v.s),.string (strB p'.r.x),.string (strB p'.r.f),.slice b' r' d']] w fun e w'=>e=.returned (.bool false)∧Below w.heap.size w w':=by
 have HB0:=hid (((Below.refl w.heap.size w).alloc (Nat.le_refl _) (.cells #[.int .i64 p.cmp,.int .i64 p.l.k,.int .i64 p.l.v.k,.int .i64 p.l.v.n,.string (strB p.l.v.s),.string (strB p.l.x),.string (strB p.l.f),.slice a q c,.int .i64 p.r.k,.int .i64 p.r.v.k,.int .i64 p.r.v.n,.string (strB p.r.v.s),.string (strB p.r.x),.string (strB p.r.f),.slice b r d] 42)).alloc (by simp) (.cells #[.int .i64 p'.cmp,.int .i64 p'.l.k,.int .i64 p'.l.v.k,.int .i64 p'.l.v.n,.string (strB p'.l.v.s),.string (strB p'.l.x),.string (strB p'.l.f),.slice a' q' c',.int .i64 p'.r.k,.int .i64 p'.r.v.k,.int .i64 p'.r.v.n,.string (strB p'.r.v.s),.string (strB p'.r.x),.string (strB p'.r.f),.slice b' r' d'] 42))
 have t1 : (p.cmp == p'.cmp)=false:=by rw [beq_eq_false_iff_ne];exact h
 clear h
 go_enter Tryz.func17,Tryz.ntmps17
 go_wp2
 go_ret
 exact ⟨rfl,HB0.out⟩
set_option maxHeartbeats 2000000 in
set_option maxRecDepth 100000 in
theorem sp_sides (h : p.cmp=p'.cmp) (z1 z2 : Bool) (hl : ∀ W,Below w.heap.size w W→Calls Tryz.prog 63 #[exV p.l (.slice a q c),exV p'.l (.slice a' q' c')] W fun e w'=>e=.returned (.bool z1)∧Below W.heap.size W w') (hr : ∀ W,Below w.heap.size w W→Calls Tryz.prog 63 #[exV p.r (.slice b r d),exV p'.r (.slice b' r' d')] W fun e w'=>e=.returned (.bool z2)∧Below W.heap.size W w') :
 Calls Tryz.prog 17 #[.agg #[.int .i64 p.cmp,.int .i64 p.l.k,.int .i64 p.l.v.k,.int .i64 p.l.v.n,.string (strB p.l.v.s),.string (strB p.l.x),.string (strB p.l.f),.slice a q c,.int .i64 p.r.k,.int .i64 p.r.v.k,.int .i64 p.r.v.n,.string (strB p.r.v.s),.string (strB p.r.x),.string (strB p.r.f),.slice b r d],.agg #[.int .i64 p'.cmp,.int .i64 p'.l.k,.int .i64 p'.l.v.k,.int .i64 p'.l.v.n,.string (strB p'.l.v.s),.string (strB p'.l.x),.string (strB p'.l.f),.slice a' q' c',.int .i64 p'.r.k,.int .i64 p'.r.v.k,.int .i64 p'.r.v.n,.string (strB p'.r.v.s),.string (strB p'.r.x),.string (strB p'.r.f),.slice b' r' d']] w fun e w'=>e=.returned (.bool (z1 && z2))∧Below w.heap.size w w':=by
 have HB0:=hid (((Below.refl w.heap.size w).alloc (Nat.le_refl _) (.cells #[.int .i64 p.cmp,.int .i64 p.l.k,.int .i64 p.l.v.k,.int .i64 p.l.v.n,.string (strB p.l.v.s),.string (strB p.l.x),.string (strB p.l.f),.slice a q c,.int .i64 p.r.k,.int .i64 p.r.v.k,.int .i64 p.r.v.n,.string (strB p.r.v.s),.string (strB p.r.x),.string (strB p.r.f),.slice b r d] 42)).alloc (by simp) (.cells #[.int .i64 p'.cmp,.int .i64 p'.l.k,.int .i64 p'.l.v.k,.int .i64 p'.l.v.n,.string (strB p'.l.v.s),.string (strB p'.l.x),.string (strB p'.l.f),.slice a' q' c',.int .i64 p'.r.k,.int .i64 p'.r.v.k,.int .i64 p'.r.v.n,.string (strB p'.r.v.s),.string (strB p'.r.x),.string (strB p'.r.f),.slice b' r' d'] 42))
 have t1 : (p.cmp == p'.cmp)=true:=by rw [h];exact beq_self_eq_true _
 have H1:=hid (hl _ HB0.out)
 have H2:=hid hr
 simp only [xexV] at H1 H2
 have e9 : (w.alloc (.cells #[.int .i64 p.cmp,.int .i64 p.l.k,.int .i64 p.l.v.k,.int .i64 p.l.v.n,.string (strB p.l.v.s),.string (strB p.l.x),.string (strB p.l.f),.slice a q c,.int .i64 p.r.k,.int .i64 p.r.v.k,.int .i64 p.r.v.n,.string (strB p.r.v.s),.string (strB p.r.x),.string (strB p.r.f),.slice b r d] 42)).heap.size=w.heap.size+1:=by simp
 have m8 : ((w.alloc (.cells #[.int .i64 p.cmp,.int .i64 p.l.k,.int .i64 p.l.v.k,.int .i64 p.l.v.n,.string (strB p.l.v.s),.string (strB p.l.x),.string (strB p.l.f),.slice a q c,.int .i64 p.r.k,.int .i64 p.r.v.k,.int .i64 p.r.v.n,.string (strB p.r.v.s),.string (strB p.r.x),.string (strB p.r.f),.slice b r d] 42)).alloc (.cells #[.int .i64 p'.cmp,.int .i64 p'.l.k,.int .i64 p'.l.v.k,.int .i64 p'.l.v.n,.string (strB p'.l.v.s),.string (strB p'.l.x),.string (strB p'.l.f),.slice a' q' c',.int .i64 p'.r.k,.int .i64 p'.r.v.k,.int .i64 p'.r.v.n,.string (strB p'.r.v.s),.string (strB p'.r.x),.string (strB p'.r.f),.slice b' r' d'] 42)).cell? ⟨w.heap.size,8,none⟩=some (.int .i64 p.r.k):=tkeep ((Below.refl (w.alloc (.cells #[.int .i64 p.cmp,.int .i64 p.l.k,.int .i64 p.l.v.k,.int .i64 p.l.v.n,.string (strB p.l.v.s),.string (strB p.l.x),.string (strB p.l.f),.slice a q c,.int .i64 p.r.k,.int .i64 p.r.v.k,.int .i64 p.r.v.n,.string (strB p.r.v.s),.string (strB p.r.x),.string (strB p.r.f),.slice b r d] 42)).heap.size (w.alloc (.cells #[.int .i64 p.cmp,.int .i64 p.l.k,.int .i64 p.l.v.k,.int .i64 p.l.v.n,.string (strB p.l.v.s),.string (strB p.l.x),.string (strB p.l.f),.slice a q c,.int .i64 p.r.k,.int .i64 p.r.v.k,.int .i64 p.r.v.n,.string (strB p.r.v.s),.string (strB p.r.x),.string (strB p.r.f),.slice b r d] 42))).alloc (Nat.le_refl _) (.cells #[.int .i64 p'.cmp,.int .i64 p'.l.k,.int .i64 p'.l.v.k,.int .i64 p'.l.v.n,.string (strB p'.l.v.s),.string (strB p'.l.x),.string (strB p'.l.f),.slice a' q' c',.int .i64 p'.r.k,.int .i64 p'.r.v.k,.int .i64 p'.r.v.n,.string (strB p'.r.v.s),.string (strB p'.r.x),.string (strB p'.r.f),.slice b' r' d'] 42)) (tnew w #[.int .i64 p.cmp,.int .i64 p.l.k,.int .i64 p.l.v.k,.int .i64 p.l.v.n,.string (strB p.l.v.s),.string (strB p.l.x),.string (strB p.l.f),.slice a q c,.int .i64 p.r.k,.int .i64 p.r.v.k,.int .i64 p.r.v.n,.string (strB p.r.v.s),.string (strB p.r.x),.string (strB p.r.f),.slice b r d] 42 8 rfl)
 have k8 : ((w.alloc (.cells #[.int .i64 p.cmp,.int .i64 p.l.k,.int .i64 p.l.v.k,.int .i64 p.l.v.n,.string (strB p.l.v.s),.string (strB p.l.x),.string (strB p.l.f),.slice a q c,.int .i64 p.r.k,.int .i64 p.r.v.k,.int .i64 p.r.v.n,.string (strB p.r.v.s),.string (strB p.r.x),.string (strB p.r.f),.slice b r d] 42)).alloc (.cells #[.int .i64 p'.cmp,.int .i64 p'.l.k,.int .i64 p'.l.v.k,.int .i64 p'.l.v.n,.string (strB p'.l.v.s),.string (strB p'.l.x),.string (strB p'.l.f),.slice a' q' c',.int .i64 p'.r.k,.int .i64 p'.r.v.k,.int .i64 p'.r.v.n,.string (strB p'.r.v.s),.string (strB p'.r.x),.string (strB p'.r.f),.slice b' r' d'] 42)).cell? ⟨w.heap.size+1,8,none⟩=some (.int .i64 p'.r.k):=by
  have h9:=tnew (w.alloc (.cells #[.int .i64 p.cmp,.int .i64 p.l.k,.int .i64 p.l.v.k,.int .i64 p.l.v.n,.string (strB p.l.v.s),.string (strB p.l.x),.string (strB p.l.f),.slice a q c,.int .i64 p.r.k,.int .i64 p.r.v.k,.int .i64 p.r.v.n,.string (strB p.r.v.s),.string (strB p.r.x),.string (strB p.r.f),.slice b r d] 42)) #[.int .i64 p'.cmp,.int .i64 p'.l.k,.int .i64 p'.l.v.k,.int .i64 p'.l.v.n,.string (strB p'.l.v.s),.string (strB p'.l.x),.string (strB p'.l.f),.slice a' q' c',.int .i64 p'.r.k,.int .i64 p'.r.v.k,.int .i64 p'.r.v.n,.string (strB p'.r.v.s),.string (strB p'.r.x),.string (strB p'.r.f),.slice b' r' d'] 42 8 rfl
  rw [e9] at h9
  exact h9
 have m9 : ((w.alloc (.cells #[.int .i64 p.cmp,.int .i64 p.l.k,.int .i64 p.l.v.k,.int .i64 p.l.v.n,.string (strB p.l.v.s),.string (strB p.l.x),.string (strB p.l.f),.slice a q c,.int .i64 p.r.k,.int .i64 p.r.v.k,.int .i64 p.r.v.n,.string (strB p.r.v.s),.string (strB p.r.x),.string (strB p.r.f),.slice b r d] 42)).alloc (.cells #[.int .i64 p'.cmp,.int .i64 p'.l.k,.int .i64 p'.l.v.k,.int .i64 p'.l.v.n,.string (strB p'.l.v.s),.string (strB p'.l.x),.string (strB p'.l.f),.slice a' q' c',.int .i64 p'.r.k,.int .i64 p'.r.v.k,.int .i64 p'.r.v.n,.string (strB p'.r.v.s),.string (strB p'.r.x),.string (strB p'.r.f),.slice b' r' d'] 42)).cell? ⟨w.heap.size,9,none⟩=some (.int .i64 p.r.v.k):=tkeep ((Below.refl (w.alloc (.cells #[.int .i64 p.cmp,.int .i64 p.l.k,.int .i64 p.l.v.k,.int .i64 p.l.v.n,.string (strB p.l.v.s),.string (strB p.l.x),.string (strB p.l.f),.slice a q c,.int .i64 p.r.k,.int .i64 p.r.v.k,.int .i64 p.r.v.n,.string (strB p.r.v.s),.string (strB p.r.x),.string (strB p.r.f),.slice b r d] 42)).heap.size (w.alloc (.cells #[.int .i64 p.cmp,.int .i64 p.l.k,.int .i64 p.l.v.k,.int .i64 p.l.v.n,.string (strB p.l.v.s),.string (strB p.l.x),.string (strB p.l.f),.slice a q c,.int .i64 p.r.k,.int .i64 p.r.v.k,.int .i64 p.r.v.n,.string (strB p.r.v.s),.string (strB p.r.x),.string (strB p.r.f),.slice b r d] 42))).alloc (Nat.le_refl _) (.cells #[.int .i64 p'.cmp,.int .i64 p'.l.k,.int .i64 p'.l.v.k,.int .i64 p'.l.v.n,.string (strB p'.l.v.s),.string (strB p'.l.x),.string (strB p'.l.f),.slice a' q' c',.int .i64 p'.r.k,.int .i64 p'.r.v.k,.int .i64 p'.r.v.n,.string (strB p'.r.v.s),.string (strB p'.r.x),.string (strB p'.r.f),.slice b' r' d'] 42)) (tnew w #[.int .i64 p.cmp,.int .i64 p.l.k,.int .i64 p.l.v.k,.int .i64 p.l.v.n,.string (strB p.l.v.s),.string (strB p.l.x),.string (strB p.l.f),.slice a q c,.int .i64 p.r.k,.int .i64 p.r.v.k,.int .i64 p.r.v.n,.string (strB p.r.v.s),.string (strB p.r.x),.string (strB p.r.f),.slice b r d] 42 9 rfl)
 have k9 : ((w.alloc (.cells #[.int .i64 p.cmp,.int .i64 p.l.k,.int .i64 p.l.v.k,.int .i64 p.l.v.n,.string (strB p.l.v.s),.string (strB p.l.x),.string (strB p.l.f),.slice a q c,.int .i64 p.r.k,.int .i64 p.r.v.k,.int .i64 p.r.v.n,.string (strB p.r.v.s),.string (strB p.r.x),.string (strB p.r.f),.slice b r d] 42)).alloc (.cells #[.int .i64 p'.cmp,.int .i64 p'.l.k,.int .i64 p'.l.v.k,.int .i64 p'.l.v.n,.string (strB p'.l.v.s),.string (strB p'.l.x),.string (strB p'.l.f),.slice a' q' c',.int .i64 p'.r.k,.int .i64 p'.r.v.k,.int .i64 p'.r.v.n,.string (strB p'.r.v.s),.string (strB p'.r.x),.string (strB p'.r.f),.slice b' r' d'] 42)).cell? ⟨w.heap.size+1,9,none⟩=some (.int .i64 p'.r.v.k):=by
  have h9:=tnew (w.alloc (.cells #[.int .i64 p.cmp,.int .i64 p.l.k,.int .i64 p.l.v.k,.int .i64 p.l.v.n,.string (strB p.l.v.s),.string (strB p.l.x),.string (strB p.l.f),.slice a q c,.int .i64 p.r.k,.int .i64 p.r.v.k,.int .i64 p.r.v.n,.string (strB p.r.v.s),.string (strB p.r.x),.string (strB p.r.f),.slice b r d] 42)) #[.int .i64 p'.cmp,.int .i64 p'.l.k,.int .i64 p'.l.v.k,.int .i64 p'.l.v.n,.string (strB p'.l.v.s),.string (strB p'.l.x),.string (strB p'.l.f),.slice a' q' c',.int .i64 p'.r.k,.int .i64 p'.r.v.k,.int .i64 p'.r.v.n,.string (strB p'.r.v.s),.string (strB p'.r.x),.string (strB p'.r.f),.slice b' r' d'] 42 9 rfl
  rw [e9] at h9
  exact h9
 have m10 : ((w.alloc (.cells #[.int .i64 p.cmp,.int .i64 p.l.k,.int .i64 p.l.v.k,.int .i64 p.l.v.n,.string (strB p.l.v.s),.string (strB p.l.x),.string (strB p.l.f),.slice a q c,.int .i64 p.r.k,.int .i64 p.r.v.k,.int .i64 p.r.v.n,.string (strB p.r.v.s),.string (strB p.r.x),.string (strB p.r.f),.slice b r d] 42)).alloc (.cells #[.int .i64 p'.cmp,.int .i64 p'.l.k,.int .i64 p'.l.v.k,.int .i64 p'.l.v.n,.string (strB p'.l.v.s),.string (strB p'.l.x),.string (strB p'.l.f),.slice a' q' c',.int .i64 p'.r.k,.int .i64 p'.r.v.k,.int .i64 p'.r.v.n,.string (strB p'.r.v.s),.string (strB p'.r.x),.string (strB p'.r.f),.slice b' r' d'] 42)).cell? ⟨w.heap.size,10,none⟩=some (.int .i64 p.r.v.n):=tkeep ((Below.refl (w.alloc (.cells #[.int .i64 p.cmp,.int .i64 p.l.k,.int .i64 p.l.v.k,.int .i64 p.l.v.n,.string (strB p.l.v.s),.string (strB p.l.x),.string (strB p.l.f),.slice a q c,.int .i64 p.r.k,.int .i64 p.r.v.k,.int .i64 p.r.v.n,.string (strB p.r.v.s),.string (strB p.r.x),.string (strB p.r.f),.slice b r d] 42)).heap.size (w.alloc (.cells #[.int .i64 p.cmp,.int .i64 p.l.k,.int .i64 p.l.v.k,.int .i64 p.l.v.n,.string (strB p.l.v.s),.string (strB p.l.x),.string (strB p.l.f),.slice a q c,.int .i64 p.r.k,.int .i64 p.r.v.k,.int .i64 p.r.v.n,.string (strB p.r.v.s),.string (strB p.r.x),.string (strB p.r.f),.slice b r d] 42))).alloc (Nat.le_refl _) (.cells #[.int .i64 p'.cmp,.int .i64 p'.l.k,.int .i64 p'.l.v.k,.int .i64 p'.l.v.n,.string (strB p'.l.v.s),.string (strB p'.l.x),.string (strB p'.l.f),.slice a' q' c',.int .i64 p'.r.k,.int .i64 p'.r.v.k,.int .i64 p'.r.v.n,.string (strB p'.r.v.s),.string (strB p'.r.x),.string (strB p'.r.f),.slice b' r' d'] 42)) (tnew w #[.int .i64 p.cmp,.int .i64 p.l.k,.int .i64 p.l.v.k,.int .i64 p.l.v.n,.string (strB p.l.v.s),.string (strB p.l.x),.string (strB p.l.f),.slice a q c,.int .i64 p.r.k,.int .i64 p.r.v.k,.int .i64 p.r.v.n,.string (strB p.r.v.s),.string (strB p.r.x),.string (strB p.r.f),.slice b r d] 42 10 rfl)
 have k10 : ((w.alloc (.cells #[.int .i64 p.cmp,.int .i64 p.l.k,.int .i64 p.l.v.k,.int .i64 p.l.v.n,.string (strB p.l.v.s),.string (strB p.l.x),.string (strB p.l.f),.slice a q c,.int .i64 p.r.k,.int .i64 p.r.v.k,.int .i64 p.r.v.n,.string (strB p.r.v.s),.string (strB p.r.x),.string (strB p.r.f),.slice b r d] 42)).alloc (.cells #[.int .i64 p'.cmp,.int .i64 p'.l.k,.int .i64 p'.l.v.k,.int .i64 p'.l.v.n,.string (strB p'.l.v.s),.string (strB p'.l.x),.string (strB p'.l.f),.slice a' q' c',.int .i64 p'.r.k,.int .i64 p'.r.v.k,.int .i64 p'.r.v.n,.string (strB p'.r.v.s),.string (strB p'.r.x),.string (strB p'.r.f),.slice b' r' d'] 42)).cell? ⟨w.heap.size+1,10,none⟩=some (.int .i64 p'.r.v.n):=by
  have h9:=tnew (w.alloc (.cells #[.int .i64 p.cmp,.int .i64 p.l.k,.int .i64 p.l.v.k,.int .i64 p.l.v.n,.string (strB p.l.v.s),.string (strB p.l.x),.string (strB p.l.f),.slice a q c,.int .i64 p.r.k,.int .i64 p.r.v.k,.int .i64 p.r.v.n,.string (strB p.r.v.s),.string (strB p.r.x),.string (strB p.r.f),.slice b r d] 42)) #[.int .i64 p'.cmp,.int .i64 p'.l.k,.int .i64 p'.l.v.k,.int .i64 p'.l.v.n,.string (strB p'.l.v.s),.string (strB p'.l.x),.string (strB p'.l.f),.slice a' q' c',.int .i64 p'.r.k,.int .i64 p'.r.v.k,.int .i64 p'.r.v.n,.string (strB p'.r.v.s),.string (strB p'.r.x),.string (strB p'.r.f),.slice b' r' d'] 42 10 rfl
  rw [e9] at h9
  exact h9
 have m11 : ((w.alloc (.cells #[.int .i64 p.cmp,.int .i64 p.l.k,.int .i64 p.l.v.k,.int .i64 p.l.v.n,.string (strB p.l.v.s),.string (strB p.l.x),.string (strB p.l.f),.slice a q c,.int .i64 p.r.k,.int .i64 p.r.v.k,.int .i64 p.r.v.n,.string (strB p.r.v.s),.string (strB p.r.x),.string (strB p.r.f),.slice b r d] 42)).alloc (.cells #[.int .i64 p'.cmp,.int .i64 p'.l.k,.int .i64 p'.l.v.k,.int .i64 p'.l.v.n,.string (strB p'.l.v.s),.string (strB p'.l.x),.string (strB p'.l.f),.slice a' q' c',.int .i64 p'.r.k,.int .i64 p'.r.v.k,.int .i64 p'.r.v.n,.string (strB p'.r.v.s),.string (strB p'.r.x),.string (strB p'.r.f),.slice b' r' d'] 42)).cell? ⟨w.heap.size,11,none⟩=some (.string (strB p.r.v.s)):=tkeep ((Below.refl (w.alloc (.cells #[.int .i64 p.cmp,.int .i64 p.l.k,.int .i64 p.l.v.k,.int .i64 p.l.v.n,.string (strB p.l.v.s),.string (strB p.l.x),.string (strB p.l.f),.slice a q c,.int .i64 p.r.k,.int .i64 p.r.v.k,.int .i64 p.r.v.n,.string (strB p.r.v.s),.string (strB p.r.x),.string (strB p.r.f),.slice b r d] 42)).heap.size (w.alloc (.cells #[.int .i64 p.cmp,.int .i64 p.l.k,.int .i64 p.l.v.k,.int .i64 p.l.v.n,.string (strB p.l.v.s),.string (strB p.l.x),.string (strB p.l.f),.slice a q c,.int .i64 p.r.k,.int .i64 p.r.v.k,.int .i64 p.r.v.n,.string (strB p.r.v.s),.string (strB p.r.x),.string (strB p.r.f),.slice b r d] 42))).alloc (Nat.le_refl _) (.cells #[.int .i64 p'.cmp,.int .i64 p'.l.k,.int .i64 p'.l.v.k,.int .i64 p'.l.v.n,.string (strB p'.l.v.s),.string (strB p'.l.x),.string (strB p'.l.f),.slice a' q' c',.int .i64 p'.r.k,.int .i64 p'.r.v.k,.int .i64 p'.r.v.n,.string (strB p'.r.v.s),.string (strB p'.r.x),.string (strB p'.r.f),.slice b' r' d'] 42)) (tnew w #[.int .i64 p.cmp,.int .i64 p.l.k,.int .i64 p.l.v.k,.int .i64 p.l.v.n,.string (strB p.l.v.s),.string (strB p.l.x),.string (strB p.l.f),.slice a q c,.int .i64 p.r.k,.int .i64 p.r.v.k,.int .i64 p.r.v.n,.string (strB p.r.v.s),.string (strB p.r.x),.string (strB p.r.f),.slice b r d] 42 11 rfl)
 have k11 : ((w.alloc (.cells #[.int .i64 p.cmp,.int .i64 p.l.k,.int .i64 p.l.v.k,.int .i64 p.l.v.n,.string (strB p.l.v.s),.string (strB p.l.x),.string (strB p.l.f),.slice a q c,.int .i64 p.r.k,.int .i64 p.r.v.k,.int .i64 p.r.v.n,.string (strB p.r.v.s),.string (strB p.r.x),.string (strB p.r.f),.slice b r d] 42)).alloc (.cells #[.int .i64 p'.cmp,.int .i64 p'.l.k,.int .i64 p'.l.v.k,.int .i64 p'.l.v.n,.string (strB p'.l.v.s),.string (strB p'.l.x),.string (strB p'.l.f),.slice a' q' c',.int .i64 p'.r.k,.int .i64 p'.r.v.k,.int .i64 p'.r.v.n,.string (strB p'.r.v.s),.string (strB p'.r.x),.string (strB p'.r.f),.slice b' r' d'] 42)).cell? ⟨w.heap.size+1,11,none⟩=some (.string (strB p'.r.v.s)):=by
  have h9:=tnew (w.alloc (.cells #[.int .i64 p.cmp,.int .i64 p.l.k,.int .i64 p.l.v.k,.int .i64 p.l.v.n,.string (strB p.l.v.s),.string (strB p.l.x),.string (strB p.l.f),.slice a q c,.int .i64 p.r.k,.int .i64 p.r.v.k,.int .i64 p.r.v.n,.string (strB p.r.v.s),.string (strB p.r.x),.string (strB p.r.f),.slice b r d] 42)) #[.int .i64 p'.cmp,.int .i64 p'.l.k,.int .i64 p'.l.v.k,.int .i64 p'.l.v.n,.string (strB p'.l.v.s),.string (strB p'.l.x),.string (strB p'.l.f),.slice a' q' c',.int .i64 p'.r.k,.int .i64 p'.r.v.k,.int .i64 p'.r.v.n,.string (strB p'.r.v.s),.string (strB p'.r.x),.string (strB p'.r.f),.slice b' r' d'] 42 11 rfl
  rw [e9] at h9
  exact h9
 have m12 : ((w.alloc (.cells #[.int .i64 p.cmp,.int .i64 p.l.k,.int .i64 p.l.v.k,.int .i64 p.l.v.n,.string (strB p.l.v.s),.string (strB p.l.x),.string (strB p.l.f),.slice a q c,.int .i64 p.r.k,.int .i64 p.r.v.k,.int .i64 p.r.v.n,.string (strB p.r.v.s),.string (strB p.r.x),.string (strB p.r.f),.slice b r d] 42)).alloc (.cells #[.int .i64 p'.cmp,.int .i64 p'.l.k,.int .i64 p'.l.v.k,.int .i64 p'.l.v.n,.string (strB p'.l.v.s),.string (strB p'.l.x),.string (strB p'.l.f),.slice a' q' c',.int .i64 p'.r.k,.int .i64 p'.r.v.k,.int .i64 p'.r.v.n,.string (strB p'.r.v.s),.string (strB p'.r.x),.string (strB p'.r.f),.slice b' r' d'] 42)).cell? ⟨w.heap.size,12,none⟩=some (.string (strB p.r.x)):=tkeep ((Below.refl (w.alloc (.cells #[.int .i64 p.cmp,.int .i64 p.l.k,.int .i64 p.l.v.k,.int .i64 p.l.v.n,.string (strB p.l.v.s),.string (strB p.l.x),.string (strB p.l.f),.slice a q c,.int .i64 p.r.k,.int .i64 p.r.v.k,.int .i64 p.r.v.n,.string (strB p.r.v.s),.string (strB p.r.x),.string (strB p.r.f),.slice b r d] 42)).heap.size (w.alloc (.cells #[.int .i64 p.cmp,.int .i64 p.l.k,.int .i64 p.l.v.k,.int .i64 p.l.v.n,.string (strB p.l.v.s),.string (strB p.l.x),.string (strB p.l.f),.slice a q c,.int .i64 p.r.k,.int .i64 p.r.v.k,.int .i64 p.r.v.n,.string (strB p.r.v.s),.string (strB p.r.x),.string (strB p.r.f),.slice b r d] 42))).alloc (Nat.le_refl _) (.cells #[.int .i64 p'.cmp,.int .i64 p'.l.k,.int .i64 p'.l.v.k,.int .i64 p'.l.v.n,.string (strB p'.l.v.s),.string (strB p'.l.x),.string (strB p'.l.f),.slice a' q' c',.int .i64 p'.r.k,.int .i64 p'.r.v.k,.int .i64 p'.r.v.n,.string (strB p'.r.v.s),.string (strB p'.r.x),.string (strB p'.r.f),.slice b' r' d'] 42)) (tnew w #[.int .i64 p.cmp,.int .i64 p.l.k,.int .i64 p.l.v.k,.int .i64 p.l.v.n,.string (strB p.l.v.s),.string (strB p.l.x),.string (strB p.l.f),.slice a q c,.int .i64 p.r.k,.int .i64 p.r.v.k,.int .i64 p.r.v.n,.string (strB p.r.v.s),.string (strB p.r.x),.string (strB p.r.f),.slice b r d] 42 12 rfl)
 have k12 : ((w.alloc (.cells #[.int .i64 p.cmp,.int .i64 p.l.k,.int .i64 p.l.v.k,.int .i64 p.l.v.n,.string (strB p.l.v.s),.string (strB p.l.x),.string (strB p.l.f),.slice a q c,.int .i64 p.r.k,.int .i64 p.r.v.k,.int .i64 p.r.v.n,.string (strB p.r.v.s),.string (strB p.r.x),.string (strB p.r.f),.slice b r d] 42)).alloc (.cells #[.int .i64 p'.cmp,.int .i64 p'.l.k,.int .i64 p'.l.v.k,.int .i64 p'.l.v.n,.string (strB p'.l.v.s),.string (strB p'.l.x),.string (strB p'.l.f),.slice a' q' c',.int .i64 p'.r.k,.int .i64 p'.r.v.k,.int .i64 p'.r.v.n,.string (strB p'.r.v.s),.string (strB p'.r.x),.string (strB p'.r.f),.slice b' r' d'] 42)).cell? ⟨w.heap.size+1,12,none⟩=some (.string (strB p'.r.x)):=by
  have h9:=tnew (w.alloc (.cells #[.int .i64 p.cmp,.int .i64 p.l.k,.int .i64 p.l.v.k,.int .i64 p.l.v.n,.string (strB p.l.v.s),.string (strB p.l.x),.string (strB p.l.f),.slice a q c,.int .i64 p.r.k,.int .i64 p.r.v.k,.int .i64 p.r.v.n,.string (strB p.r.v.s),.string (strB p.r.x),.string (strB p.r.f),.slice b r d] 42)) #[.int .i64 p'.cmp,.int .i64 p'.l.k,.int .i64 p'.l.v.k,.int .i64 p'.l.v.n,.string (strB p'.l.v.s),.string (strB p'.l.x),.string (strB p'.l.f),.slice a' q' c',.int .i64 p'.r.k,.int .i64 p'.r.v.k,.int .i64 p'.r.v.n,.string (strB p'.r.v.s),.string (strB p'.r.x),.string (strB p'.r.f),.slice b' r' d'] 42 12 rfl
  rw [e9] at h9
  exact h9
 have m13 : ((w.alloc (.cells #[.int .i64 p.cmp,.int .i64 p.l.k,.int .i64 p.l.v.k,.int .i64 p.l.v.n,.string (strB p.l.v.s),.string (strB p.l.x),.string (strB p.l.f),.slice a q c,.int .i64 p.r.k,.int .i64 p.r.v.k,.int .i64 p.r.v.n,.string (strB p.r.v.s),.string (strB p.r.x),.string (strB p.r.f),.slice b r d] 42)).alloc (.cells #[.int .i64 p'.cmp,.int .i64 p'.l.k,.int .i64 p'.l.v.k,.int .i64 p'.l.v.n,.string (strB p'.l.v.s),.string (strB p'.l.x),.string (strB p'.l.f),.slice a' q' c',.int .i64 p'.r.k,.int .i64 p'.r.v.k,.int .i64 p'.r.v.n,.string (strB p'.r.v.s),.string (strB p'.r.x),.string (strB p'.r.f),.slice b' r' d'] 42)).cell? ⟨w.heap.size,13,none⟩=some (.string (strB p.r.f)):=tkeep ((Below.refl (w.alloc (.cells #[.int .i64 p.cmp,.int .i64 p.l.k,.int .i64 p.l.v.k,.int .i64 p.l.v.n,.string (strB p.l.v.s),.string (strB p.l.x),.string (strB p.l.f),.slice a q c,.int .i64 p.r.k,.int .i64 p.r.v.k,.int .i64 p.r.v.n,.string (strB p.r.v.s),.string (strB p.r.x),.string (strB p.r.f),.slice b r d] 42)).heap.size (w.alloc (.cells #[.int .i64 p.cmp,.int .i64 p.l.k,.int .i64 p.l.v.k,.int .i64 p.l.v.n,.string (strB p.l.v.s),.string (strB p.l.x),.string (strB p.l.f),.slice a q c,.int .i64 p.r.k,.int .i64 p.r.v.k,.int .i64 p.r.v.n,.string (strB p.r.v.s),.string (strB p.r.x),.string (strB p.r.f),.slice b r d] 42))).alloc (Nat.le_refl _) (.cells #[.int .i64 p'.cmp,.int .i64 p'.l.k,.int .i64 p'.l.v.k,.int .i64 p'.l.v.n,.string (strB p'.l.v.s),.string (strB p'.l.x),.string (strB p'.l.f),.slice a' q' c',.int .i64 p'.r.k,.int .i64 p'.r.v.k,.int .i64 p'.r.v.n,.string (strB p'.r.v.s),.string (strB p'.r.x),.string (strB p'.r.f),.slice b' r' d'] 42)) (tnew w #[.int .i64 p.cmp,.int .i64 p.l.k,.int .i64 p.l.v.k,.int .i64 p.l.v.n,.string (strB p.l.v.s),.string (strB p.l.x),.string (strB p.l.f),.slice a q c,.int .i64 p.r.k,.int .i64 p.r.v.k,.int .i64 p.r.v.n,.string (strB p.r.v.s),.string (strB p.r.x),.string (strB p.r.f),.slice b r d] 42 13 rfl)
 have k13 : ((w.alloc (.cells #[.int .i64 p.cmp,.int .i64 p.l.k,.int .i64 p.l.v.k,.int .i64 p.l.v.n,.string (strB p.l.v.s),.string (strB p.l.x),.string (strB p.l.f),.slice a q c,.int .i64 p.r.k,.int .i64 p.r.v.k,.int .i64 p.r.v.n,.string (strB p.r.v.s),.string (strB p.r.x),.string (strB p.r.f),.slice b r d] 42)).alloc (.cells #[.int .i64 p'.cmp,.int .i64 p'.l.k,.int .i64 p'.l.v.k,.int .i64 p'.l.v.n,.string (strB p'.l.v.s),.string (strB p'.l.x),.string (strB p'.l.f),.slice a' q' c',.int .i64 p'.r.k,.int .i64 p'.r.v.k,.int .i64 p'.r.v.n,.string (strB p'.r.v.s),.string (strB p'.r.x),.string (strB p'.r.f),.slice b' r' d'] 42)).cell? ⟨w.heap.size+1,13,none⟩=some (.string (strB p'.r.f)):=by
  have h9:=tnew (w.alloc (.cells #[.int .i64 p.cmp,.int .i64 p.l.k,.int .i64 p.l.v.k,.int .i64 p.l.v.n,.string (strB p.l.v.s),.string (strB p.l.x),.string (strB p.l.f),.slice a q c,.int .i64 p.r.k,.int .i64 p.r.v.k,.int .i64 p.r.v.n,.string (strB p.r.v.s),.string (strB p.r.x),.string (strB p.r.f),.slice b r d] 42)) #[.int .i64 p'.cmp,.int .i64 p'.l.k,.int .i64 p'.l.v.k,.int .i64 p'.l.v.n,.string (strB p'.l.v.s),.string (strB p'.l.x),.string (strB p'.l.f),.slice a' q' c',.int .i64 p'.r.k,.int .i64 p'.r.v.k,.int .i64 p'.r.v.n,.string (strB p'.r.v.s),.string (strB p'.r.x),.string (strB p'.r.f),.slice b' r' d'] 42 13 rfl
  rw [e9] at h9
  exact h9
 have m14 : ((w.alloc (.cells #[.int .i64 p.cmp,.int .i64 p.l.k,.int .i64 p.l.v.k,.int .i64 p.l.v.n,.string (strB p.l.v.s),.string (strB p.l.x),.string (strB p.l.f),.slice a q c,.int .i64 p.r.k,.int .i64 p.r.v.k,.int .i64 p.r.v.n,.string (strB p.r.v.s),.string (strB p.r.x),.string (strB p.r.f),.slice b r d] 42)).alloc (.cells #[.int .i64 p'.cmp,.int .i64 p'.l.k,.int .i64 p'.l.v.k,.int .i64 p'.l.v.n,.string (strB p'.l.v.s),.string (strB p'.l.x),.string (strB p'.l.f),.slice a' q' c',.int .i64 p'.r.k,.int .i64 p'.r.v.k,.int .i64 p'.r.v.n,.string (strB p'.r.v.s),.string (strB p'.r.x),.string (strB p'.r.f),.slice b' r' d'] 42)).cell? ⟨w.heap.size,14,none⟩=some (.slice b r d):=tkeep ((Below.refl (w.alloc (.cells #[.int .i64 p.cmp,.int .i64 p.l.k,.int .i64 p.l.v.k,.int .i64 p.l.v.n,.string (strB p.l.v.s),.string (strB p.l.x),.string (strB p.l.f),.slice a q c,.int .i64 p.r.k,.int .i64 p.r.v.k,.int .i64 p.r.v.n,.string (strB p.r.v.s),.string (strB p.r.x),.string (strB p.r.f),.slice b r d] 42)).heap.size (w.alloc (.cells #[.int .i64 p.cmp,.int .i64 p.l.k,.int .i64 p.l.v.k,.int .i64 p.l.v.n,.string (strB p.l.v.s),.string (strB p.l.x),.string (strB p.l.f),.slice a q c,.int .i64 p.r.k,.int .i64 p.r.v.k,.int .i64 p.r.v.n,.string (strB p.r.v.s),.string (strB p.r.x),.string (strB p.r.f),.slice b r d] 42))).alloc (Nat.le_refl _) (.cells #[.int .i64 p'.cmp,.int .i64 p'.l.k,.int .i64 p'.l.v.k,.int .i64 p'.l.v.n,.string (strB p'.l.v.s),.string (strB p'.l.x),.string (strB p'.l.f),.slice a' q' c',.int .i64 p'.r.k,.int .i64 p'.r.v.k,.int .i64 p'.r.v.n,.string (strB p'.r.v.s),.string (strB p'.r.x),.string (strB p'.r.f),.slice b' r' d'] 42)) (tnew w #[.int .i64 p.cmp,.int .i64 p.l.k,.int .i64 p.l.v.k,.int .i64 p.l.v.n,.string (strB p.l.v.s),.string (strB p.l.x),.string (strB p.l.f),.slice a q c,.int .i64 p.r.k,.int .i64 p.r.v.k,.int .i64 p.r.v.n,.string (strB p.r.v.s),.string (strB p.r.x),.string (strB p.r.f),.slice b r d] 42 14 rfl)
 have k14 : ((w.alloc (.cells #[.int .i64 p.cmp,.int .i64 p.l.k,.int .i64 p.l.v.k,.int .i64 p.l.v.n,.string (strB p.l.v.s),.string (strB p.l.x),.string (strB p.l.f),.slice a q c,.int .i64 p.r.k,.int .i64 p.r.v.k,.int .i64 p.r.v.n,.string (strB p.r.v.s),.string (strB p.r.x),.string (strB p.r.f),.slice b r d] 42)).alloc (.cells #[.int .i64 p'.cmp,.int .i64 p'.l.k,.int .i64 p'.l.v.k,.int .i64 p'.l.v.n,.string (strB p'.l.v.s),.string (strB p'.l.x),.string (strB p'.l.f),.slice a' q' c',.int .i64 p'.r.k,.int .i64 p'.r.v.k,.int .i64 p'.r.v.n,.string (strB p'.r.v.s),.string (strB p'.r.x),.string (strB p'.r.f),.slice b' r' d'] 42)).cell? ⟨w.heap.size+1,14,none⟩=some (.slice b' r' d'):=by
  have h9:=tnew (w.alloc (.cells #[.int .i64 p.cmp,.int .i64 p.l.k,.int .i64 p.l.v.k,.int .i64 p.l.v.n,.string (strB p.l.v.s),.string (strB p.l.x),.string (strB p.l.f),.slice a q c,.int .i64 p.r.k,.int .i64 p.r.v.k,.int .i64 p.r.v.n,.string (strB p.r.v.s),.string (strB p.r.x),.string (strB p.r.f),.slice b r d] 42)) #[.int .i64 p'.cmp,.int .i64 p'.l.k,.int .i64 p'.l.v.k,.int .i64 p'.l.v.n,.string (strB p'.l.v.s),.string (strB p'.l.x),.string (strB p'.l.f),.slice a' q' c',.int .i64 p'.r.k,.int .i64 p'.r.v.k,.int .i64 p'.r.v.n,.string (strB p'.r.v.s),.string (strB p'.r.x),.string (strB p'.r.f),.slice b' r' d'] 42 14 rfl
  rw [e9] at h9
  exact h9
 clear hl hr h e9
 cases z1 with
 | false =>
   go_enter Tryz.func17,Tryz.ntmps17
   go_wp2_with (go_at_call 63;(with_reducible refine H1.out.mono ?_);rintro e w1 ⟨rfl,hb1⟩;have m8:=tkeep hb1 m8;have k8:=tkeep hb1 k8;have m9:=tkeep hb1 m9;have k9:=tkeep hb1 k9;have m10:=tkeep hb1 m10;have k10:=tkeep hb1 k10;have m11:=tkeep hb1 m11;have k11:=tkeep hb1 k11;have m12:=tkeep hb1 m12;have k12:=tkeep hb1 k12;have m13:=tkeep hb1 m13;have k13:=tkeep hb1 k13;have m14:=tkeep hb1 m14;have k14:=tkeep hb1 k14;have HB1:=hid (HB0.out.trans (hb1.mono HB0.out.size));clear hb1)
   go_ret
   exact ⟨rfl,HB1.out⟩
 | true =>
   go_enter Tryz.func17,Tryz.ntmps17
   go_wp2_with (first
    | (go_at_call 63;(with_reducible refine H1.out.mono ?_);rintro e w1 ⟨rfl,hb1⟩;have m8:=tkeep hb1 m8;have k8:=tkeep hb1 k8;have m9:=tkeep hb1 m9;have k9:=tkeep hb1 k9;have m10:=tkeep hb1 m10;have k10:=tkeep hb1 k10;have m11:=tkeep hb1 m11;have k11:=tkeep hb1 k11;have m12:=tkeep hb1 m12;have k12:=tkeep hb1 k12;have m13:=tkeep hb1 m13;have k13:=tkeep hb1 k13;have m14:=tkeep hb1 m14;have k14:=tkeep hb1 k14;have HB1:=hid (HB0.out.trans (hb1.mono HB0.out.size));clear hb1)
    | (go_at_call 63;(with_reducible refine (H2.out _ HB1.out).mono ?_);rintro e w2 ⟨rfl,hb2⟩;have HB2:=hid (HB1.out.trans (hb2.mono HB1.out.size));clear hb2))
   go_ret
   exact ⟨tbool (by cases z2 <;> rfl),HB2.out⟩
theorem sameP_calls {K K' : Nat→Prop} {e1 e2 e3 e4 : Nat} (hL : XLn p.l) (hR : XLn p.r) (h1 : ExK K w e1 (.slice a p.l.ks.length c) p.l.ks) (h2 : ExK K w e2 (.slice b p.r.ks.length d) p.r.ks) (h3 : ExK K' w e3 (.slice a' p'.l.ks.length c') p'.l.ks) (h4 : ExK K' w e4 (.slice b' p'.r.ks.length d') p'.r.ks) (hq : q=p.l.ks.length) (hr : r=p.r.ks.length) (hq' : q'=p'.l.ks.length) (hr' : r'=p'.r.ks.length) :
 Calls Tryz.prog 17 #[.agg #[.int .i64 p.cmp,.int .i64 p.l.k,.int .i64 p.l.v.k,.int .i64 p.l.v.n,.string (strB p.l.v.s),.string (strB p.l.x),.string (strB p.l.f),.slice a q c,.int .i64 p.r.k,.int .i64 p.r.v.k,.int .i64 p.r.v.n,.string (strB p.r.v.s),.string (strB p.r.x),.string (strB p.r.f),.slice b r d],.agg #[.int .i64 p'.cmp,.int .i64 p'.l.k,.int .i64 p'.l.v.k,.int .i64 p'.l.v.n,.string (strB p'.l.v.s),.string (strB p'.l.x),.string (strB p'.l.f),.slice a' q' c',.int .i64 p'.r.k,.int .i64 p'.r.v.k,.int .i64 p'.r.v.n,.string (strB p'.r.v.s),.string (strB p'.r.x),.string (strB p'.r.f),.slice b' r' d']] w fun e w'=>e=.returned (.bool (sameB p p'))∧Below w.heap.size w w':=by
 subst hq hr hq' hr'
 by_cases hc : p.cmp=p'.cmp
 ·have e9 : sameB p p'=(sameB p.l p'.l && sameB p.r p'.r):=by
   obtain ⟨l,cm,r⟩:=p
   obtain ⟨l',cm',r'⟩:=p'
   dsimp only at hc ⊢
   subst hc
   by_cases x1 : l=l'
   ·by_cases x2 : r=r'
    ·rw [sameB_yes x1,sameB_yes x2,sameB_yes (by rw [x1,x2])]
     rfl
    ·rw [sameB_yes x1,sameB_no x2,sameB_no (fun e=>x2 (by injection e))]
     rfl
   ·rw [sameB_no x1,sameB_no (fun e=>x1 (by injection e))]
    rfl
  rw [e9]
  exact sp_sides hc _ _ (fun W hW=>sameX_calls e1 p.l hL e3 p'.l W a c (h1.keep (TFr.of_below hW)) a' c' (h3.keep (TFr.of_below hW))) (fun W hW=>sameX_calls e2 p.r hR e4 p'.r W b d (h2.keep (TFr.of_below hW)) b' d' (h4.keep (TFr.of_below hW)))
 ·rw [sameB_no (fun e=>hc (by rw [e]))]
  exact sp_no hc
end
end Go.Proofs.YtefcbgnckgapgaaGreatDoor
