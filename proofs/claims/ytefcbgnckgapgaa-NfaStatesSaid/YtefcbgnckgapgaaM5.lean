/- Queries that came in: Great. | Queries: what Deep holds in a round. | Queries: Deep. | Queries: the live question of the layer's statements. | The statement TreeDeep: its walk. | Queries: rows of items that are put together anew; queries that are not right. -/
import Derived.Test.YtefcbgnckgapgaaM3
import Derived.Test.YtefcbgnckgapgaaM4
import Derived.Deep.QuietTactic
import Derived.BigQuiet
namespace Go.Proofs.Ytefcbgnckgapgaa
open Go.RowKit Go.Lib Go.Op
def ISm (i : PIt) : Prop:=i.x.length < 3000∧i.ns.length < 3000∧∀ b∈i.ns,b.length < 3000
def PSm (p : PPr) : Prop:=(XBd p.l∧sizeI p.l < 3000)∧XBd p.r∧sizeI p.r < 3000
structure QSm (p : PQu) : Prop where
 n1 : p.its.length < 3000
 n2 : p.prs.length < 3000
 by_ : p.by_.length < 3000
 its : ∀ i∈p.its,ISm i
 prs : ∀ x∈p.prs,PSm x
theorem QSm.bd {p : PQu} (h : QSm p) : QuB p:=⟨fun i hi=>by
 obtain ⟨h1,h2,h3⟩:=h.its i hi
 exact ⟨by omega,fun b hb=>by have:=h3 b hb;omega,by omega⟩,fun x hx=>⟨(h.prs x hx).1.1,(h.prs x hx).2.1⟩,by have:=h.by_;omega⟩
def GreatT (p : PQu) (w : World) (e : Ending) (w' : World) : Prop:=∃ g,e=.returned (.bool g)∧(g=false→QSm p)∧Below w.heap.size w w'
structure GIts (p : PQu) (w : World) (X : Obj) (wr : World) (N : Int) (j : Nat) : Prop where
 low : Below (w.heap.size+1) (w.alloc X) wr
 lo : 0≤N
 hi : N≤1000000000000000
 sm : N < 3000→(p.its.length < 3000∧p.prs.length < 3000∧p.by_.length < 3000)∧∀ i∈p.its.take j,ISm i
structure GNames (p : PQu) (i : PIt) (w : World) (X : Obj) (wr : World) (N : Int) (j k : Nat) : Prop where
 low : Below (w.heap.size+1) (w.alloc X) wr
 lo : 0≤N
 hi : N≤1000000000000000
 sm : N < 3000→((p.its.length < 3000∧p.prs.length < 3000∧p.by_.length < 3000)∧∀ i∈p.its.take j,ISm i)∧i.x.length < 3000∧i.ns.length < 3000∧∀ b∈i.ns.take k,b.length < 3000
structure GPrs (p : PQu) (w : World) (X : Obj) (wr : World) (N : Int) (j : Nat) : Prop where
 low : Below (w.heap.size+1) (w.alloc X) wr
 lo : 0≤N
 hi : N≤1000000000000000
 sm : N < 3000→((p.its.length < 3000∧p.prs.length < 3000∧p.by_.length < 3000)∧∀ i∈p.its,ISm i)∧∀ x∈p.prs.take j,PSm x
theorem all_take {α : Type} {P : α→Prop} {l : List α} {j : Nat} {x : α} (h : ∀ y∈l.take j,P y) (hx : l[j]?=some x) (hp : P x) : ∀ y∈l.take (j+1),P y:=fun y hy=>by
 rw [List.take_add_one,hx] at hy
 rcases List.mem_append.1 hy with h1|h1
 ·exact h y h1
 ·have : y=x:=by simpa using h1
  rw [this]
  exact hp
theorem RowK.nameAt3 {K : Nat→Prop} {w : World} {a : Option Addr} {n c : Nat} {l : List (List UInt8)} (h : RowK nameD K w (.slice a n c) l) {j : Nat} {b : List UInt8} (hj : l[j]?=some b) : ∃ g o,a=some ⟨g,o,none⟩∧w.cell? ⟨g,o+j,none⟩=some (.string (strB b)):=by
 obtain ⟨a',c',e,_,h⟩:=h
 injection e with e1 e2 e3
 obtain ⟨g,o,cs,ea,hg,hcs,hc⟩:=h j b hj
 have hcs : cs=[.string (strB b)]:=hcs
 subst hcs
 have:=hc 0 _ rfl
 exact ⟨g,o,e1.trans ea,by simpa [nameD] using this⟩
set_option maxHeartbeats 4000000 in
set_option maxRecDepth 100000 in
theorem great_calls {w : World} {a b : Option Addr} {q c r e : Nat} {p : PQu} (h : QuAt (fun _=>False) w a q c b r e p) (hl : QLn p) :
 Calls Try.prog 10 #[.agg #[.slice a q c,.slice b r e,.int .i64 p.within,.string (strB p.by_),.int .i64 p.pick]] w (GreatT p w):=by
 obtain rfl:=h.1.len
 obtain rfl:=h.2.len
 have HQ:=hid h
 have HL:=hid hl
 obtain ⟨q,hq⟩ : ∃ q,p.its.length=q:=⟨_,rfl⟩
 obtain ⟨r,hr⟩ : ∃ r,p.prs.length=r:=⟨_,rfl⟩
 obtain ⟨sb,hsb⟩ : ∃ s,strB p.by_=s:=⟨_,rfl⟩
 have hsbl : sb.size=p.by_.length:=by rw [← hsb,strB_size]
 have hq2 : q≤140737488355328:=by rw [← hq];exact hl.2.2.2.1
 have hr2 : r≤140737488355328:=by rw [← hr];exact hl.2.2.2.2
 have hbl : sb.size≤9223372036854775807:=by rw [hsbl];exact hl.2.2.1
 have HC:=hid hq
 have HR:=hid hr
 have HSB:=hid hsbl
 rw [hq,hr] at HQ ⊢
 rw [hsb]
 obtain ⟨wi,hwi⟩ : ∃ z,p.within=z:=⟨_,rfl⟩
 obtain ⟨pk,hpk⟩ : ∃ z,p.pick=z:=⟨_,rfl⟩
 rw [hwi,hpk]
 have HX:=hid (Blk.new w #[.slice a q c,.slice b r e,.int .i64 wi,.string sb,.int .i64 pk] 25)
 have HW:=hid ((Below.refl w.heap.size w).alloc (Nat.le_refl _) (.cells #[.slice a q c,.slice b r e,.int .i64 wi,.string sb,.int .i64 pk] 25))
 obtain ⟨X,hX⟩ : ∃ X,Obj.cells #[.slice a q c,.slice b r e,.int .i64 wi,.string sb,.int .i64 pk] 25=X:=⟨_,rfl⟩
 rw [hX] at HX HW
 have HXX:=hid hX
 have HG0 : Hid (GIts p w X (w.alloc X) ((q : Int)+(r : Int)+min (sb.size : Int) 3000) 0):=⟨Below.refl _ _,by omega,by omega,fun h=>⟨⟨by rw [HC.out];omega,by rw [HR.out];omega,by rw [← hsbl];omega⟩,fun i hi=>(by simp at hi)⟩⟩
 rw [← hX] at HG0
 clear h hl hq hr hsb hsbl hwi hpk hX
 go_enter Try.func10,Try.ntmps10
 go_wp2
 rw [HXX.out] at HG0 ⊢
 go_loopw [3,4] (fun n i wr=>∃ (N : Int) (j : Nat),n=.int .i64 N∧i=.int .i64 j∧j≤q∧Hid (GIts p w X wr N j)) (fun _ i _=>q - (RowKit.intOf i).toNat)
 case atStart=>exact ⟨_,0,rfl,rfl,Nat.zero_le _,HG0⟩
 case round =>
  obtain ⟨N,j,rfl,rfl,hj,HG⟩:=hrel
  have hlo:=HG.out.lo
  have hhi:=HG.out.hi
  have hx:=(HG.out.low.block w.heap.size (Nat.lt_succ_self _)).trans HX.out
  have x0:=tcell hx (k:=0) rfl
  have x1:=tcell hx (k:=1) rfl
  have HBw:=hid (HW.out.trans (HG.out.low.mono (Nat.le_succ _)))
  have hsz : w.heap.size+1≤wr.heap.size:=by
   have:=HG.out.low.size
   simpa using this
  clear hx
  by_cases hgo : j < q∧N < 3000
  ·obtain ⟨hlt,hN⟩:=hgo
   obtain ⟨y,hy⟩ : ∃ y,p.its[j]?=some y:=⟨_,List.getElem?_eq_getElem (by rw [HC.out];exact hlt)⟩
   obtain ⟨g,o,a2,c2,rfl,d0,d1,d2,d3,hrn⟩:=(HQ.out.1.low HBw.out).itemAt hy
   have hyl:=HL.out.1 y (List.mem_of_getElem? hy)
   obtain ⟨m,hm⟩ : ∃ m,y.ns.length=m:=⟨_,rfl⟩
   obtain ⟨sx,hsx⟩ : ∃ s,strB y.x=s:=⟨_,rfl⟩
   have hsxl : sx.size=y.x.length:=by rw [← hsx,strB_size]
   rw [hm] at d1 hrn
   rw [hsx] at d2
   have hm2 : m≤140737488355328:=by rw [← hm];exact hyl.2.1
   have hsx2 : sx.size≤9223372036854775807:=by rw [hsxl];exact hyl.1
   have HRN:=hid hrn
   have HM:=hid hm
   have HSX:=hid hsxl
   have HY:=hid hy
   have t1 : decide (N < 3000)=true:=decide_eq_true hN
   have hw1 : IntKind.i64.wrap (N+min (sx.size : Int) 3000)=N+min (sx.size : Int) 3000:=IntWalk.i64_in _ (by omega)
   have hw2 : IntKind.i64.wrap (N+min (sx.size : Int) 3000+(m : Int))=N+min (sx.size : Int) 3000+(m : Int):=IntWalk.i64_in _ (by omega)
   have HGI : Hid (∀ nq,GNames p y w X (wr.drewN nq) (N+min (sx.size : Int) 3000+(m : Int)) j 0):=fun nq=>⟨below_drewN HG.out.low nq,by omega,by omega,fun h=>⟨HG.out.sm hN,by rw [← HSX.out];omega,by rw [HM.out];omega,fun b hb=>(by simp at hb)⟩⟩
   have HL2:=hid hyl.2.2
   clear hy hyl hm hsx hsxl hrn
   go_wp2_with fail
   go_quiet (fail)
   have HGI2:=hid (HGI.out nq)
   have hsz2 : wr.heap.size≤(wr.drewN nq).heap.size:=(below_drewN (Below.refl wr.heap.size wr) nq).size
   have HRN2:=hid (HRN.out.low (below_drewN (Below.refl wr.heap.size wr) nq))
   have k0 : (wr.drewN nq).cell? ⟨w.heap.size,0,none⟩=_:=tkeep (below_drewN (Below.refl wr.heap.size wr) nq) x0
   have k1 : (wr.drewN nq).cell? ⟨g,o+j*4+1,none⟩=_:=tkeep (below_drewN (Below.refl wr.heap.size wr) nq) d1
   have HBN:=hid (below_drewN (Below.refl wr.heap.size wr) nq)
   obtain ⟨w4,hw4⟩ : ∃ w4,w4=wr.drewN nq:=⟨_,rfl⟩
   rw [← hw4] at HGI2 hsz2 HRN2 k0 k1 HBN ⊢
   have HW4:=hid hw4
   clear hw4 HGI HRN x0 d0 d1 d2 d3
   go_wp2
   go_loopw [3,5] (fun n i wr=>∃ (M : Int) (k : Nat),n=.int .i64 M∧i=.int .i64 k∧k≤m∧Hid (Below w4.heap.size w4 wr)∧Hid (GNames p y w X wr M j k)) (fun _ i _=>m - (RowKit.intOf i).toNat)
   case atStart=>exact ⟨_,0,rfl,rfl,Nat.zero_le _,Below.refl _ _,HGI2⟩
   case round =>
    obtain ⟨M,k,rfl,rfl,hk,HB4,HGN⟩:=hrel
    have hlo2:=HGN.out.lo
    have hhi2:=HGN.out.hi
    have z0:=tkeep HB4.out k0
    have z1:=tkeep HB4.out k1
    by_cases hgo : k < m∧M < 3000
    ·obtain ⟨hlt2,hM⟩:=hgo
     obtain ⟨u,hu⟩ : ∃ u,y.ns[k]?=some u:=⟨_,List.getElem?_eq_getElem (by rw [HM.out];exact hlt2)⟩
     obtain ⟨g3,o3,rfl,v0⟩:=(HRN2.out.low HB4.out).nameAt3 hu
     obtain ⟨su,hsu⟩ : ∃ s,strB u=s:=⟨_,rfl⟩
     have hsul : su.size=u.length:=by rw [← hsu,strB_size]
     rw [hsu] at v0
     have hul : su.size≤9223372036854775807:=by rw [hsul];exact HL2.out u (List.mem_of_getElem? hu)
     have HGN2 : Hid (GNames p y w X wr (M+min (su.size : Int) 3000) j (k+1)):=⟨HGN.out.low,by omega,by omega,fun h=>by
      obtain ⟨h1,h2,h3,h4⟩:=HGN.out.sm hM
      exact ⟨h1,h2,h3,all_take h4 hu (by rw [← hsul];omega)⟩⟩
     have t3 : decide (M < 3000)=true:=decide_eq_true hM
     clear hu hsu hsul
     go_wp2
     go_round
     case rel=>exact ⟨M+min (su.size : Int) 3000,k+1,by go_num,by go_num,by omega,HB4,HGN2⟩
     case measure=>simp [RowKit.intOf];omega
    ·have HGE : Hid (GIts p w X wr M (j+1)):=⟨HGN.out.low,hlo2,hhi2,fun h=>by
      obtain ⟨h1,h2,h3,h4⟩:=HGN.out.sm h
      have hkm : k=y.ns.length:=by rw [HM.out];omega
      rw [hkm,List.take_length] at h4
      exact ⟨h1.1,all_take h1.2 HY.out ⟨h2,h3,h4⟩⟩⟩
     by_cases hk2 : k < m
     ·have t3 : decide (M < 3000)=false:=decide_eq_false (fun h=>hgo ⟨hk2,h⟩)
      go_wp2
      refine ⟨⟨M,j+1,by go_num,by go_num,by omega,HGE⟩,?_⟩
      simp [RowKit.intOf]
      omega
     ·go_wp2
      refine ⟨⟨M,j+1,by go_num,by go_num,by omega,HGE⟩,?_⟩
      simp [RowKit.intOf]
      omega
  ·have HG2 : Hid (GPrs p w X wr N 0):=⟨HG.out.low,hlo,hhi,fun h=>by
    obtain ⟨h1,h2⟩:=HG.out.sm h
    have hjq : j=p.its.length:=by rw [HC.out];omega
    rw [hjq,List.take_length] at h2
    exact ⟨⟨h1,h2⟩,fun x hx=>(by simp at hx)⟩⟩
   clear HG
   by_cases hlt : j < q
   ·have t1 : decide (N < 3000)=false:=decide_eq_false (fun h=>hgo ⟨hlt,h⟩)
    clear hgo
    go_wp2
    go_loopw [3,6] (fun n i wr=>∃ (N : Int) (j : Nat),n=.int .i64 N∧i=.int .i64 j∧j≤r∧Hid (GPrs p w X wr N j)) (fun _ i _=>r - (RowKit.intOf i).toNat)
    case atStart=>exact ⟨N,0,rfl,rfl,Nat.zero_le _,HG2⟩
    case round =>
     obtain ⟨N,j,rfl,rfl,hj,HG⟩:=hrel
     have hlo:=HG.out.lo
     have hhi:=HG.out.hi
     have hx:=(HG.out.low.block w.heap.size (Nat.lt_succ_self _)).trans HX.out
     have x1:=tcell hx (k:=1) rfl
     have HBw:=hid (HW.out.trans (HG.out.low.mono (Nat.le_succ _)))
     have hsz : w.heap.size+1≤wr.heap.size:=by
      have:=HG.out.low.size
      simpa using this
     clear hx
     by_cases hlt : j < r
     ·by_cases hN : N < 3000
      ·obtain ⟨y,hy⟩ : ∃ y,p.prs[j]?=some y:=⟨_,List.getElem?_eq_getElem (by rw [HR.out];exact hlt)⟩
       obtain ⟨g,o,a1,n1,c1,b1,m1,dd1,ed,rfl,hcell,hq1,hr1,hk1,hk2⟩:=(HQ.out.2.low HBw.out).predAt hy
       have hyl:=HL.out.2.1 y (List.mem_of_getElem? hy)
       rw [← hq1] at hk1
       rw [← hr1] at hk2
       have hw0 : Below wr.heap.size wr wr.drew:=vbelow_drew (Below.refl _ wr)
       have H0:=hid (greatX_calls _ y.l hyl.1 wr.drew a1 c1 (by rw [← hq1];exact hk1.keep (TFr.of_below (K:=fun _=>False) hw0)) 3000 (by decide))
       have H1:=hid (fun W (hW : Below wr.heap.size wr W)=>greatX_calls _ y.r hyl.2 W b1 dd1 (by rw [← hr1];exact hk2.keep (TFr.of_below (K:=fun _=>False) hW)) 3000 (by decide))
       rw [← hq1] at H0
       rw [← hr1] at H1
       simp only [xexV] at H0 H1
       have g1:=gX_le y.l 3000
       have g2:=gX_le y.r 3000
       have s1:=gX_small y.l 3000 (by decide)
       have s2:=gX_small y.r 3000 (by decide)
       obtain ⟨G1,hG1⟩ : ∃ G,gX y.l 3000=G:=⟨_,rfl⟩
       obtain ⟨G2,hG2⟩ : ∃ G,gX y.r 3000=G:=⟨_,rfl⟩
       rw [hG1] at H0 g1 s1
       rw [hG2] at H1 g2 s2
       have hw1 : IntKind.i64.wrap (N+G1)=N+G1:=IntWalk.i64_in _ (by omega)
       have hw2 : IntKind.i64.wrap (N+G1+G2)=N+G1+G2:=IntWalk.i64_in _ (by omega)
       have HB0:=hid hw0
       have HGN : Hid (∀ W,Below wr.heap.size wr W→GPrs p w X W (N+G1+G2) (j+1)):=fun W hW=>⟨HG.out.low.trans (hW.mono hsz),by omega,by omega,fun h=>by
        obtain ⟨h1,h2⟩:=HG.out.sm hN
        have h3:=s1 (by omega)
        have h4:=s2 (by omega)
        exact ⟨h1,all_take h2 hy ⟨⟨h3.2,by omega⟩,h4.2,by omega⟩⟩⟩
       have t1 : decide (N < 3000)=true:=decide_eq_true hN
       have dq : wr.drew.cell? ⟨w.heap.size,1,none⟩=some (.slice (some ⟨g,o,none⟩) r e):=x1
       have d1 : wr.drew.cell? ⟨g,o+j*15+1,none⟩=some (.int .i64 y.l.k):=hcell 1 _ rfl
       have d2 : wr.drew.cell? ⟨g,o+j*15+2,none⟩=some (.int .i64 y.l.v.k):=hcell 2 _ rfl
       have d3 : wr.drew.cell? ⟨g,o+j*15+3,none⟩=some (.int .i64 y.l.v.n):=hcell 3 _ rfl
       have d4 : wr.drew.cell? ⟨g,o+j*15+4,none⟩=some (.string (strB y.l.v.s)):=hcell 4 _ rfl
       have d5 : wr.drew.cell? ⟨g,o+j*15+5,none⟩=some (.string (strB y.l.x)):=hcell 5 _ rfl
       have d6 : wr.drew.cell? ⟨g,o+j*15+6,none⟩=some (.string (strB y.l.f)):=hcell 6 _ rfl
       have d7 : wr.drew.cell? ⟨g,o+j*15+7,none⟩=some (.slice a1 n1 c1):=hcell 7 _ rfl
       have d8 : wr.drew.cell? ⟨g,o+j*15+8,none⟩=some (.int .i64 y.r.k):=hcell 8 _ rfl
       have d9 : wr.drew.cell? ⟨g,o+j*15+9,none⟩=some (.int .i64 y.r.v.k):=hcell 9 _ rfl
       have d10 : wr.drew.cell? ⟨g,o+j*15+10,none⟩=some (.int .i64 y.r.v.n):=hcell 10 _ rfl
       have d11 : wr.drew.cell? ⟨g,o+j*15+11,none⟩=some (.string (strB y.r.v.s)):=hcell 11 _ rfl
       have d12 : wr.drew.cell? ⟨g,o+j*15+12,none⟩=some (.string (strB y.r.x)):=hcell 12 _ rfl
       have d13 : wr.drew.cell? ⟨g,o+j*15+13,none⟩=some (.string (strB y.r.f)):=hcell 13 _ rfl
       have d14 : wr.drew.cell? ⟨g,o+j*15+14,none⟩=some (.slice b1 m1 dd1):=hcell 14 _ rfl
       clear hcell hq1 hr1 hk1 hk2 hyl hw0 hG1 hG2 s1 s2 hy
       go_wp2_with fail
       refine wp_region_held_drew (S:=fun W=>W.cell? ⟨w.heap.size,1,none⟩=some (.slice (some ⟨g,o,none⟩) r e)∧W.cell? ⟨g,o+j*15+1,none⟩=some (.int .i64 y.l.k)∧W.cell? ⟨g,o+j*15+2,none⟩=some (.int .i64 y.l.v.k)∧W.cell? ⟨g,o+j*15+3,none⟩=some (.int .i64 y.l.v.n)∧W.cell? ⟨g,o+j*15+4,none⟩=some (.string (strB y.l.v.s))∧W.cell? ⟨g,o+j*15+5,none⟩=some (.string (strB y.l.x))∧W.cell? ⟨g,o+j*15+6,none⟩=some (.string (strB y.l.f))∧W.cell? ⟨g,o+j*15+7,none⟩=some (.slice a1 n1 c1)∧W.cell? ⟨g,o+j*15+8,none⟩=some (.int .i64 y.r.k)∧W.cell? ⟨g,o+j*15+9,none⟩=some (.int .i64 y.r.v.k)∧W.cell? ⟨g,o+j*15+10,none⟩=some (.int .i64 y.r.v.n)∧W.cell? ⟨g,o+j*15+11,none⟩=some (.string (strB y.r.v.s))∧W.cell? ⟨g,o+j*15+12,none⟩=some (.string (strB y.r.x))∧W.cell? ⟨g,o+j*15+13,none⟩=some (.string (strB y.r.f))∧W.cell? ⟨g,o+j*15+14,none⟩=some (.slice b1 m1 dd1)) (by kernel_rfl) ⟨dq,d1,d2,d3,d4,d5,d6,d7,d8,d9,d10,d11,d12,d13,d14⟩ (fun hHeld=>?_)
       refine tK 0 87 (h:=?_)
       try simp only [Act.put,sI,sZ,sS]
       refine tK 1 88 (h:=?_)
       try simp only [Act.put,sI,sZ,sS]
       refine tK 2 89 (h:=?_)
       try simp only [Act.put,sI,sZ,sS]
       refine tK 3 90 (h:=?_)
       try simp only [Act.put,sI,sZ,sS]
       refine tK 4 91 (h:=?_)
       try simp only [Act.put,sI,sZ,sS]
       refine tK 5 92 (h:=?_)
       try simp only [Act.put,sI,sZ,sS]
       refine tK 6 93 (h:=?_)
       try simp only [Act.put,sI,sZ,sS]
       refine tK 9 96 (h:=?_)
       try simp only [Act.put,sI,sZ,sS]
       refine tK 10 97 (h:=?_)
       try simp only [Act.put,sI,sZ,sS]
       refine tK 11 98 (h:=?_)
       try simp only [Act.put,sI,sZ,sS]
       refine tK 12 99 (h:=?_)
       try simp only [Act.put,sI,sZ,sS]
       refine tK 13 100 (h:=?_)
       try simp only [Act.put,sI,sZ,sS]
       refine tK 14 101 (h:=?_)
       try simp only [Act.put,sI,sZ,sS]
       refine wpAnyH_ready (rs:=[7]) (by kernel_rfl) (by simp) ?_
       refine AllReadyH.cons (o:=_) rfl (fun K hK=>?_) AllReadyH.nil
       dsimp only [List.getElem_toArray,List.getElem_cons_succ,List.getElem_cons_zero]
       go_simp
       go_at_call 21
       (with_reducible refine H0.out.mono ?_)
       rintro e9 w1 ⟨rfl,hb1⟩
       have HB1:=hid (HB0.out.trans (hb1.mono (show _≤wr.drew.heap.size from HB0.out.size)))
       have eq:=tkeep hb1 dq
       have e1:=tkeep hb1 d1
       have e2:=tkeep hb1 d2
       have e3:=tkeep hb1 d3
       have e4:=tkeep hb1 d4
       have e5:=tkeep hb1 d5
       have e6:=tkeep hb1 d6
       have e7:=tkeep hb1 d7
       have e8:=tkeep hb1 d8
       have e9:=tkeep hb1 d9
       have e10:=tkeep hb1 d10
       have e11:=tkeep hb1 d11
       have e12:=tkeep hb1 d12
       have e13:=tkeep hb1 d13
       have e14:=tkeep hb1 d14
       clear hb1
       go_wp2_with fail
       refine hK.out _ _ ⟨eq,e1,e2,e3,e4,e5,e6,e7,e8,e9,e10,e11,e12,e13,e14⟩ (fun hHelda7=>?_)
       clear hK K
       try simp only [Act.put,sI,sZ,sS]
       refine tK 8 95 (h:=?_)
       try simp only [Act.put,sI,sZ,sS]
       refine wpAnyH_ready (rs:=[15]) (by kernel_rfl) (by simp) ?_
       refine AllReadyH.cons (o:=_) rfl (fun K hK=>?_) AllReadyH.nil
       dsimp only [List.getElem_toArray,List.getElem_cons_succ,List.getElem_cons_zero]
       go_simp
       go_at_call 21
       (with_reducible refine (H1.out _ HB1.out).mono ?_)
       rintro e9 w2 ⟨rfl,hb1⟩
       have HB2:=hid (HB1.out.trans (hb1.mono (show _≤w1.heap.size from HB1.out.size)))
       have fq:=tkeep hb1 eq
       have f1:=tkeep hb1 e1
       have f2:=tkeep hb1 e2
       have f3:=tkeep hb1 e3
       have f4:=tkeep hb1 e4
       have f5:=tkeep hb1 e5
       have f6:=tkeep hb1 e6
       have f7:=tkeep hb1 e7
       have f8:=tkeep hb1 e8
       have f9:=tkeep hb1 e9
       have f10:=tkeep hb1 e10
       have f11:=tkeep hb1 e11
       have f12:=tkeep hb1 e12
       have f13:=tkeep hb1 e13
       have f14:=tkeep hb1 e14
       clear hb1
       go_wp2_with fail
       refine hK.out _ _ ⟨fq,f1,f2,f3,f4,f5,f6,f7,f8,f9,f10,f11,f12,f13,f14⟩ (fun hHelda15=>?_)
       clear hK K
       try simp only [Act.put,sI,sZ,sS]
       refine tK 16 103 (h:=?_)
       try simp only [Act.put,sI,sZ,sS]
       refine tK 17 3 (h:=?_)
       try simp only [Act.put,sI,sZ,sS]
       refine wpAnyH_done (by kernel_rfl) ?_ _
       go_wp2
       go_round
       case rel=>exact ⟨N+G1+G2,j+1,by go_num,by go_num,by omega,HGN.out _ HB2.out⟩
       case measure=>simp [RowKit.intOf];omega
      ·have t1 : decide (N < 3000)=false:=decide_eq_false hN
       have t2 : decide (3000≤N)=true:=decide_eq_true (by omega)
       go_wp2
       go_ret
       exact ⟨true,rfl,fun h=>(by cases h),HBw.out⟩
     ·have hjr : j=p.prs.length:=by rw [HR.out];omega
      by_cases hN : N < 3000
      ·have t2 : decide (3000≤N)=false:=decide_eq_false (by omega)
       go_wp2
       go_ret
       refine ⟨false,rfl,fun _=>?_,HBw.out⟩
       obtain ⟨⟨⟨n1,n2,n3⟩,h1⟩,h2⟩:=HG.out.sm hN
       rw [hjr,List.take_length] at h2
       exact ⟨n1,n2,n3,h1,h2⟩
      ·have t2 : decide (3000≤N)=true:=decide_eq_true (by omega)
       go_wp2
       go_ret
       exact ⟨true,rfl,fun h=>(by cases h),HBw.out⟩
   ·clear hgo
    go_wp2
    go_loopw [3,6] (fun n i wr=>∃ (N : Int) (j : Nat),n=.int .i64 N∧i=.int .i64 j∧j≤r∧Hid (GPrs p w X wr N j)) (fun _ i _=>r - (RowKit.intOf i).toNat)
    case atStart=>exact ⟨N,0,rfl,rfl,Nat.zero_le _,HG2⟩
    case round =>
     obtain ⟨N,j,rfl,rfl,hj,HG⟩:=hrel
     have hlo:=HG.out.lo
     have hhi:=HG.out.hi
     have hx:=(HG.out.low.block w.heap.size (Nat.lt_succ_self _)).trans HX.out
     have x1:=tcell hx (k:=1) rfl
     have HBw:=hid (HW.out.trans (HG.out.low.mono (Nat.le_succ _)))
     have hsz : w.heap.size+1≤wr.heap.size:=by
      have:=HG.out.low.size
      simpa using this
     clear hx
     by_cases hlt : j < r
     ·by_cases hN : N < 3000
      ·obtain ⟨y,hy⟩ : ∃ y,p.prs[j]?=some y:=⟨_,List.getElem?_eq_getElem (by rw [HR.out];exact hlt)⟩
       obtain ⟨g,o,a1,n1,c1,b1,m1,dd1,ed,rfl,hcell,hq1,hr1,hk1,hk2⟩:=(HQ.out.2.low HBw.out).predAt hy
       have hyl:=HL.out.2.1 y (List.mem_of_getElem? hy)
       rw [← hq1] at hk1
       rw [← hr1] at hk2
       have hw0 : Below wr.heap.size wr wr.drew:=vbelow_drew (Below.refl _ wr)
       have H0:=hid (greatX_calls _ y.l hyl.1 wr.drew a1 c1 (by rw [← hq1];exact hk1.keep (TFr.of_below (K:=fun _=>False) hw0)) 3000 (by decide))
       have H1:=hid (fun W (hW : Below wr.heap.size wr W)=>greatX_calls _ y.r hyl.2 W b1 dd1 (by rw [← hr1];exact hk2.keep (TFr.of_below (K:=fun _=>False) hW)) 3000 (by decide))
       rw [← hq1] at H0
       rw [← hr1] at H1
       simp only [xexV] at H0 H1
       have g1:=gX_le y.l 3000
       have g2:=gX_le y.r 3000
       have s1:=gX_small y.l 3000 (by decide)
       have s2:=gX_small y.r 3000 (by decide)
       obtain ⟨G1,hG1⟩ : ∃ G,gX y.l 3000=G:=⟨_,rfl⟩
       obtain ⟨G2,hG2⟩ : ∃ G,gX y.r 3000=G:=⟨_,rfl⟩
       rw [hG1] at H0 g1 s1
       rw [hG2] at H1 g2 s2
       have hw1 : IntKind.i64.wrap (N+G1)=N+G1:=IntWalk.i64_in _ (by omega)
       have hw2 : IntKind.i64.wrap (N+G1+G2)=N+G1+G2:=IntWalk.i64_in _ (by omega)
       have HB0:=hid hw0
       have HGN : Hid (∀ W,Below wr.heap.size wr W→GPrs p w X W (N+G1+G2) (j+1)):=fun W hW=>⟨HG.out.low.trans (hW.mono hsz),by omega,by omega,fun h=>by
        obtain ⟨h1,h2⟩:=HG.out.sm hN
        have h3:=s1 (by omega)
        have h4:=s2 (by omega)
        exact ⟨h1,all_take h2 hy ⟨⟨h3.2,by omega⟩,h4.2,by omega⟩⟩⟩
       have t1 : decide (N < 3000)=true:=decide_eq_true hN
       have dq : wr.drew.cell? ⟨w.heap.size,1,none⟩=some (.slice (some ⟨g,o,none⟩) r e):=x1
       have d1 : wr.drew.cell? ⟨g,o+j*15+1,none⟩=some (.int .i64 y.l.k):=hcell 1 _ rfl
       have d2 : wr.drew.cell? ⟨g,o+j*15+2,none⟩=some (.int .i64 y.l.v.k):=hcell 2 _ rfl
       have d3 : wr.drew.cell? ⟨g,o+j*15+3,none⟩=some (.int .i64 y.l.v.n):=hcell 3 _ rfl
       have d4 : wr.drew.cell? ⟨g,o+j*15+4,none⟩=some (.string (strB y.l.v.s)):=hcell 4 _ rfl
       have d5 : wr.drew.cell? ⟨g,o+j*15+5,none⟩=some (.string (strB y.l.x)):=hcell 5 _ rfl
       have d6 : wr.drew.cell? ⟨g,o+j*15+6,none⟩=some (.string (strB y.l.f)):=hcell 6 _ rfl
       have d7 : wr.drew.cell? ⟨g,o+j*15+7,none⟩=some (.slice a1 n1 c1):=hcell 7 _ rfl
       have d8 : wr.drew.cell? ⟨g,o+j*15+8,none⟩=some (.int .i64 y.r.k):=hcell 8 _ rfl
       have d9 : wr.drew.cell? ⟨g,o+j*15+9,none⟩=some (.int .i64 y.r.v.k):=hcell 9 _ rfl
       have d10 : wr.drew.cell? ⟨g,o+j*15+10,none⟩=some (.int .i64 y.r.v.n):=hcell 10 _ rfl
       have d11 : wr.drew.cell? ⟨g,o+j*15+11,none⟩=some (.string (strB y.r.v.s)):=hcell 11 _ rfl
       have d12 : wr.drew.cell? ⟨g,o+j*15+12,none⟩=some (.string (strB y.r.x)):=hcell 12 _ rfl
       have d13 : wr.drew.cell? ⟨g,o+j*15+13,none⟩=some (.string (strB y.r.f)):=hcell 13 _ rfl
       have d14 : wr.drew.cell? ⟨g,o+j*15+14,none⟩=some (.slice b1 m1 dd1):=hcell 14 _ rfl
       clear hcell hq1 hr1 hk1 hk2 hyl hw0 hG1 hG2 s1 s2 hy
       go_wp2_with fail
       refine wp_region_held_drew (S:=fun W=>W.cell? ⟨w.heap.size,1,none⟩=some (.slice (some ⟨g,o,none⟩) r e)∧W.cell? ⟨g,o+j*15+1,none⟩=some (.int .i64 y.l.k)∧W.cell? ⟨g,o+j*15+2,none⟩=some (.int .i64 y.l.v.k)∧W.cell? ⟨g,o+j*15+3,none⟩=some (.int .i64 y.l.v.n)∧W.cell? ⟨g,o+j*15+4,none⟩=some (.string (strB y.l.v.s))∧W.cell? ⟨g,o+j*15+5,none⟩=some (.string (strB y.l.x))∧W.cell? ⟨g,o+j*15+6,none⟩=some (.string (strB y.l.f))∧W.cell? ⟨g,o+j*15+7,none⟩=some (.slice a1 n1 c1)∧W.cell? ⟨g,o+j*15+8,none⟩=some (.int .i64 y.r.k)∧W.cell? ⟨g,o+j*15+9,none⟩=some (.int .i64 y.r.v.k)∧W.cell? ⟨g,o+j*15+10,none⟩=some (.int .i64 y.r.v.n)∧W.cell? ⟨g,o+j*15+11,none⟩=some (.string (strB y.r.v.s))∧W.cell? ⟨g,o+j*15+12,none⟩=some (.string (strB y.r.x))∧W.cell? ⟨g,o+j*15+13,none⟩=some (.string (strB y.r.f))∧W.cell? ⟨g,o+j*15+14,none⟩=some (.slice b1 m1 dd1)) (by kernel_rfl) ⟨dq,d1,d2,d3,d4,d5,d6,d7,d8,d9,d10,d11,d12,d13,d14⟩ (fun hHeld=>?_)
       refine tK 0 87 (h:=?_)
       try simp only [Act.put,sI,sZ,sS]
       refine tK 1 88 (h:=?_)
       try simp only [Act.put,sI,sZ,sS]
       refine tK 2 89 (h:=?_)
       try simp only [Act.put,sI,sZ,sS]
       refine tK 3 90 (h:=?_)
       try simp only [Act.put,sI,sZ,sS]
       refine tK 4 91 (h:=?_)
       try simp only [Act.put,sI,sZ,sS]
       refine tK 5 92 (h:=?_)
       try simp only [Act.put,sI,sZ,sS]
       refine tK 6 93 (h:=?_)
       try simp only [Act.put,sI,sZ,sS]
       refine tK 9 96 (h:=?_)
       try simp only [Act.put,sI,sZ,sS]
       refine tK 10 97 (h:=?_)
       try simp only [Act.put,sI,sZ,sS]
       refine tK 11 98 (h:=?_)
       try simp only [Act.put,sI,sZ,sS]
       refine tK 12 99 (h:=?_)
       try simp only [Act.put,sI,sZ,sS]
       refine tK 13 100 (h:=?_)
       try simp only [Act.put,sI,sZ,sS]
       refine tK 14 101 (h:=?_)
       try simp only [Act.put,sI,sZ,sS]
       refine wpAnyH_ready (rs:=[7]) (by kernel_rfl) (by simp) ?_
       refine AllReadyH.cons (o:=_) rfl (fun K hK=>?_) AllReadyH.nil
       dsimp only [List.getElem_toArray,List.getElem_cons_succ,List.getElem_cons_zero]
       go_simp
       go_at_call 21
       (with_reducible refine H0.out.mono ?_)
       rintro e9 w1 ⟨rfl,hb1⟩
       have HB1:=hid (HB0.out.trans (hb1.mono (show _≤wr.drew.heap.size from HB0.out.size)))
       have eq:=tkeep hb1 dq
       have e1:=tkeep hb1 d1
       have e2:=tkeep hb1 d2
       have e3:=tkeep hb1 d3
       have e4:=tkeep hb1 d4
       have e5:=tkeep hb1 d5
       have e6:=tkeep hb1 d6
       have e7:=tkeep hb1 d7
       have e8:=tkeep hb1 d8
       have e9:=tkeep hb1 d9
       have e10:=tkeep hb1 d10
       have e11:=tkeep hb1 d11
       have e12:=tkeep hb1 d12
       have e13:=tkeep hb1 d13
       have e14:=tkeep hb1 d14
       clear hb1
       go_wp2_with fail
       refine hK.out _ _ ⟨eq,e1,e2,e3,e4,e5,e6,e7,e8,e9,e10,e11,e12,e13,e14⟩ (fun hHeldb7=>?_)
       clear hK K
       try simp only [Act.put,sI,sZ,sS]
       refine tK 8 95 (h:=?_)
       try simp only [Act.put,sI,sZ,sS]
       refine wpAnyH_ready (rs:=[15]) (by kernel_rfl) (by simp) ?_
       refine AllReadyH.cons (o:=_) rfl (fun K hK=>?_) AllReadyH.nil
       dsimp only [List.getElem_toArray,List.getElem_cons_succ,List.getElem_cons_zero]
       go_simp
       go_at_call 21
       (with_reducible refine (H1.out _ HB1.out).mono ?_)
       rintro e9 w2 ⟨rfl,hb1⟩
       have HB2:=hid (HB1.out.trans (hb1.mono (show _≤w1.heap.size from HB1.out.size)))
       have fq:=tkeep hb1 eq
       have f1:=tkeep hb1 e1
       have f2:=tkeep hb1 e2
       have f3:=tkeep hb1 e3
       have f4:=tkeep hb1 e4
       have f5:=tkeep hb1 e5
       have f6:=tkeep hb1 e6
       have f7:=tkeep hb1 e7
       have f8:=tkeep hb1 e8
       have f9:=tkeep hb1 e9
       have f10:=tkeep hb1 e10
       have f11:=tkeep hb1 e11
       have f12:=tkeep hb1 e12
       have f13:=tkeep hb1 e13
       have f14:=tkeep hb1 e14
       clear hb1
       go_wp2_with fail
       refine hK.out _ _ ⟨fq,f1,f2,f3,f4,f5,f6,f7,f8,f9,f10,f11,f12,f13,f14⟩ (fun hHeldb15=>?_)
       clear hK K
       try simp only [Act.put,sI,sZ,sS]
       refine tK 16 103 (h:=?_)
       try simp only [Act.put,sI,sZ,sS]
       refine tK 17 3 (h:=?_)
       try simp only [Act.put,sI,sZ,sS]
       refine wpAnyH_done (by kernel_rfl) ?_ _
       go_wp2
       go_round
       case rel=>exact ⟨N+G1+G2,j+1,by go_num,by go_num,by omega,HGN.out _ HB2.out⟩
       case measure=>simp [RowKit.intOf];omega
      ·have t1 : decide (N < 3000)=false:=decide_eq_false hN
       have t2 : decide (3000≤N)=true:=decide_eq_true (by omega)
       go_wp2
       go_ret
       exact ⟨true,rfl,fun h=>(by cases h),HBw.out⟩
     ·have hjr : j=p.prs.length:=by rw [HR.out];omega
      by_cases hN : N < 3000
      ·have t2 : decide (3000≤N)=false:=decide_eq_false (by omega)
       go_wp2
       go_ret
       refine ⟨false,rfl,fun _=>?_,HBw.out⟩
       obtain ⟨⟨⟨n1,n2,n3⟩,h1⟩,h2⟩:=HG.out.sm hN
       rw [hjr,List.take_length] at h2
       exact ⟨n1,n2,n3,h1,h2⟩
      ·have t2 : decide (3000≤N)=true:=decide_eq_true (by omega)
       go_wp2
       go_ret
       exact ⟨true,rfl,fun h=>(by cases h),HBw.out⟩
end Go.Proofs.Ytefcbgnckgapgaa
namespace Go.Proofs.Ytefcbgnckgapgaa
open Go.RowKit Go.Lib Go.Op
def lenV : Value→Nat
 | .slice _ n _=>n
 | _=>0
theorem OwnP.top {w : World} {B n c : Nat} {a : Option Addr} {t : TypeId} {l : List (Option Addr × Nat × Nat)} {e : Option Addr × Nat × Nat} (h : OwnP sliceD w B t (.slice a n c) (l++[e])) :
 ∃ g,a=some ⟨g,0,none⟩∧n=l.length+1∧w.cell? ⟨g,l.length,none⟩=some (.slice e.1 e.2.1 e.2.2)∧n≤c:=by
 obtain ⟨css,h1,h2,h3,h4⟩:=h
 rw [List.length_append,List.length_singleton] at h1 h2
 obtain ⟨cs,h5,h6⟩:=h4 l.length e (by simp)
 have h6 : cs=[.slice e.1 e.2.1 e.2.2]:=h6
 subst h6
 rcases h2.2 with ⟨_,h0⟩|⟨g,cap,cur,e1,hb,hh,hn,hc,hs,ht⟩
 ·omega
 ·injection e1 with e1 e2 e3
  subst e1 e2 e3
  refine ⟨g,rfl,rfl,?_,hn⟩
  have h7:=flat_at (k:=1) (j:=l.length) h3 h5 0 _ rfl
  rw [Nat.mul_one,Nat.add_zero,← ht,List.getElem?_take,if_pos (by show l.length < (l.length+1)*1;omega)] at h7
  rw [cell_of_row w g l.length _ t (0,0) hh]
  simpa using h7
theorem OwnP.map_kept {w : World} {B m : Nat} {t : TypeId} {v : Value} {l : List (Option Addr × Nat × Nat)} (h : OwnP sliceD w B t v l) (hm : m < B) (o : Obj) : OwnP sliceD { w with heap:=w.heap.setIfInBounds m o } B t v l:=by
 obtain ⟨css,h1,h2,h3,h4⟩:=h
 refine ⟨css,h1,⟨h2.1,?_⟩,h3,fun j x hj=>?_⟩
 ·rcases h2.2 with h0|⟨g,cap,cur,e,hb,hh,r⟩
  ·exact .inl h0
  ·refine .inr ⟨g,cap,cur,e,hb,?_,r⟩
   show (w.heap.setIfInBounds m o)[g]?=_
   rw [Array.getElem?_setIfInBounds_ne (by omega)]
   exact hh
 ·exact h4 j x hj
theorem below_map {B m : Nat} {w W : World} (h : Below B w W) (hm : B≤m) (o : Obj) : Below B w { W with heap:=W.heap.setIfInBounds m o } :=
 h.trans ⟨rfl,rfl,rfl,by simp,fun k hk=>Array.getElem?_setIfInBounds_ne (by omega)⟩
theorem blk_map {w : World} {b m : Nat} {o o' : Obj} (h : w.heap[b]?=some o') (hm : m≠b) : ({ w with heap:=w.heap.setIfInBounds m o } : World).heap[b]?=some o':=by
 show (w.heap.setIfInBounds m o)[b]?=_
 rw [Array.getElem?_setIfInBounds_ne hm]
 exact h
theorem DMap.lt {W : World} {m : Nat} {f : Option Addr × Nat→Int} (h : DMap W m f) : m < W.heap.size:=by
 obtain ⟨es,c,h1,_⟩:=h
 exact (Array.getElem?_eq_some_iff.1 h1).1
theorem DMap.keepL {W W' : World} {m L : Nat} {f : Option Addr × Nat→Int} (h : DMap W m f) (hk : KeysIn W m L) {K : Nat→Prop} (hf : TFr K W W') (hm : ¬ K m) (hL : ∀ b,b < L→¬ K b) : DMap W' m f∧KeysIn W' m L:=by
 have hlt:=h.lt
 have hmb:=hf.block m hlt hm
 refine ⟨?_,fun es c he=>hk es c (by rw [← hmb];exact he)⟩
 obtain ⟨es,c,h1,h2⟩:=h
 refine ⟨es,c,hmb.trans h1,⟨fun e he=>?_,h2.has,h2.one⟩⟩
 obtain ⟨k,h3,h4,h5⟩:=h2.ent e he
 refine ⟨k,h3,fun a ha=>?_,h5⟩
 obtain ⟨cs,t,h6⟩:=h4 a ha
 exact ⟨cs,t,(hf.block a.block (Array.getElem?_eq_some_iff.1 h6).1 (hL _ (hk es c h1 e he k h3 a ha))).trans h6⟩
theorem KeysIn.below {W W' : World} {m L : Nat} (h : KeysIn W m L) (hb : Below W.heap.size W W') (hm : m < W.heap.size) : KeysIn W' m L:=fun es c he=>h es c (by rw [← hb.block m hm];exact he)
structure DTree (w : World) (R : List (Option Addr × Nat)) (dep : Option Addr × Nat→Int) : Prop where
 rows : DRows R (kidsF w) dep
 at_ : ∀ s∈R,s≠(none,0)→0 < s.2∧∃ l : List PEx,s.2=l.length∧l.length≤10000∧KidsAt w s.1 l (kidsF w s)∧KBlk w s
 dep : ∀ s∈R,dep s≤10001
 wt : ∀ f,wtS R (kidsF w) f≤200000000
theorem DTree.low {w : World} {R : List (Option Addr × Nat)} {dep : Option Addr × Nat→Int} (T : DTree w R dep) {s : Option Addr × Nat} (hs : s∈R) : ∀ a,s.1=some a→a.block < w.heap.size:=fun a ha=>by
 by_cases h : s=(none,0)
 ·rw [h] at ha
  cases ha
 ·obtain ⟨_,_,_,_,_,hk⟩:=T.at_ s hs h
  obtain ⟨cs,t,hb⟩:=hk a ha
  exact (Array.getElem?_eq_some_iff.1 hb).1
theorem DTree.blk {w : World} {R : List (Option Addr × Nat)} {dep : Option Addr × Nat→Int} (T : DTree w R dep) {s : Option Addr × Nat} (hs : s∈R) : KBlk w s:=by
 by_cases h : s=(none,0)
 ·rw [h];exact KBlk.nil w
 ·obtain ⟨_,_,_,_,_,h⟩:=T.at_ s hs h
  exact h
theorem DTree.addr {w : World} {R : List (Option Addr × Nat)} {dep : Option Addr × Nat→Int} (T : DTree w R dep) {e : Option Addr × Nat × Nat} (hs : key3 e∈R) (hn : e.2.1≠0) : ∃ g o,e.1=some ⟨g,o,none⟩:=by
 have hk : key3 e=(e.1,e.2.1):=by unfold key3;rw [if_neg hn]
 rw [hk] at hs
 obtain ⟨h1,l,h2,_,h3,_⟩:=T.at_ _ hs (fun h=>hn (congrArg Prod.snd h))
 dsimp only at h1 h2 h3
 obtain ⟨x,hx⟩ : ∃ x,l[0]?=some x:=⟨_,List.getElem?_eq_getElem (by omega)⟩
 obtain ⟨g,o,_,_,ha,_⟩:=h3.2 0 x hx
 exact ⟨g,o,ha⟩
structure DeepIn (w : World) (X : Obj) (wr : World) (R : List (Option Addr × Nat)) (dep f : Option Addr × Nat→Int) (root : Option Addr × Nat) (v : Value) (st : List (Option Addr × Nat × Nat)) : Prop where
 own : OwnP sliceD wr (w.heap.size+2) 48 v st
 map : DMap wr (w.heap.size+1) f
 inv : DInv R (kidsF w) dep f (st.reverse.map key3)
 low : Below (w.heap.size+1) (w.alloc X) wr
 len : st.length+wtS R (kidsF w) f≤200000001
 top : ∀ k,f k≤1000000
 root : 0 < f root∨root∈st.map key3
 big : w.heap.size+2≤wr.heap.size
 keys : KeysIn wr (w.heap.size+1) w.heap.size
theorem rev_top (st : List (Option Addr × Nat × Nat)) (e : Option Addr × Nat × Nat) : (st++[e]).reverse.map key3=key3 e :: st.reverse.map key3:=by
 rw [List.reverse_append]
 rfl
section
variable {w wr W : World} {X : Obj} {R : List (Option Addr × Nat)} {dep f : Option Addr × Nat→Int} {root : Option Addr × Nat} {v : Value} {st : List (Option Addr × Nat × Nat)} {e : Option Addr × Nat × Nat}
theorem DeepIn.low0 (h : DeepIn w X wr R dep f root v st) : Below w.heap.size w wr:=((Below.refl w.heap.size w).alloc (Nat.le_refl _) X).trans (h.low.mono (Nat.le_succ _))
theorem DeepIn.mem (h : DeepIn w X wr R dep f root v (st++[e])) : key3 e∈R:=h.inv.inR _ (by rw [rev_top];exact List.mem_cons_self)
theorem DeepIn.below (h : DeepIn w X wr R dep f root v st) (hb : Below wr.heap.size wr W) : DeepIn w X W R dep f root v st :=
 ⟨h.own.keep (TFr.of_below (K:=fun _=>False) hb) (fun _ h=>h.elim),h.map.below hb,h.inv,h.low.trans (hb.mono (Nat.le_of_succ_le h.big)),h.len,h.top,h.root,Nat.le_trans h.big hb.size,h.keys.below hb (Nat.lt_of_lt_of_le (Nat.lt_succ_self _) h.big)⟩
structure DeepPush (w : World) (X : Obj) (wr : World) (R : List (Option Addr × Nat)) (dep f : Option Addr × Nat→Int) (root : Option Addr × Nat) (e : Option Addr × Nat × Nat) (v : Value) (st : List (Option Addr × Nat × Nat)) (j : Nat) : Prop where
 own : ∃ ps : List (Option Addr × Nat × Nat),OwnP sliceD wr (w.heap.size+2) 48 v (st++e :: ps)∧ps.map key3=(kidsF w (key3 e)).take j
 map : DMap wr (w.heap.size+1) (updF f (key3 e) (-1))
 low : Below (w.heap.size+1) (w.alloc X) wr
 big : w.heap.size+2≤wr.heap.size
 keys : KeysIn wr (w.heap.size+1) w.heap.size
theorem DeepPush.low0 {e : Option Addr × Nat × Nat} {j : Nat} (h : DeepPush w X wr R dep f root e v st j) : Below w.heap.size w wr:=((Below.refl w.heap.size w).alloc (Nat.le_refl _) X).trans (h.low.mono (Nat.le_succ _))
theorem DeepIn.done (h : DeepIn w X wr R dep f root v (st++[e])) (hf : 0 < f (key3 e)) {v' : Value} (hv : OwnP sliceD wr (w.heap.size+2) 48 v' st) : DeepIn w X wr R dep f root v' st :=
 ⟨hv,h.map,(by have:=h.inv;rw [rev_top] at this;exact this.done hf),h.low,by have:=h.len;rw [List.length_append] at this;omega,h.top,by
   rcases h.root with h1|h1
   ·exact .inl h1
   ·rw [List.map_append,List.mem_append] at h1
    rcases h1 with h1|h1
    ·exact .inr h1
    ·rw [List.map_singleton,List.mem_singleton] at h1
     exact .inl (h1 ▸ hf),h.big,h.keys⟩
theorem DeepIn.begun (T : DTree w R dep) (h : DeepIn w X wr R dep f root v (st++[e])) (hf : f (key3 e)=-1) {W : World} {o : Obj} (hm : DMap { W with heap:=W.heap.setIfInBounds (w.heap.size+1) o } (w.heap.size+1) (updF f (key3 e) (1+mostF f (kidsF w (key3 e))))) (hb : Below wr.heap.size wr W) (hky : KeysIn { W with heap:=W.heap.setIfInBounds (w.heap.size+1) o } (w.heap.size+1) w.heap.size) :
 DeepIn w X { W with heap:=W.heap.setIfInBounds (w.heap.size+1) o } R dep (updF f (key3 e) (1+mostF f (kidsF w (key3 e)))) root v (st++[e])∧wtS R (kidsF w) (updF f (key3 e) (1+mostF f (kidsF w (key3 e)))) < wtS R (kidsF w) f:=by
 have hi:=h.inv
 rw [rev_top] at hi
 have hi2:=hi.begun T.rows hf
 have hw:=wtS_begun T.rows h.mem hf
 rw [hi2.1] at hm ⊢
 have hd:=T.dep _ h.mem
 have hp:=T.rows.pos h.mem
 refine ⟨⟨((h.own.keep (TFr.of_below (K:=fun _=>False) hb) (fun _ h=>h.elim)).map_kept (by omega) o),hm,by rw [rev_top];exact hi2.2,below_map (h.low.trans (hb.mono (Nat.le_of_succ_le h.big))) (Nat.le_refl _) o,by have:=h.len;omega,fun k=>?_,?_,?_,hky⟩,by omega⟩
 ·unfold updF
  split
  ·omega
  ·exact h.top k
 ·rcases h.root with h1|h1
  ·left
   unfold updF
   split
   ·exact hp
   ·exact h1
  ·exact .inr h1
 ·have:=h.big
  have:=hb.size
  simp only [Array.size_setIfInBounds]
  omega
theorem DeepIn.push (_ : DTree w R dep) (h : DeepIn w X wr R dep f root v (st++[e])) {W : World} {o : Obj} (hm : DMap { W with heap:=W.heap.setIfInBounds (w.heap.size+1) o } (w.heap.size+1) (updF f (key3 e) (-1))) (hb : Below wr.heap.size wr W) (hky : KeysIn { W with heap:=W.heap.setIfInBounds (w.heap.size+1) o } (w.heap.size+1) w.heap.size) :
 DeepPush w X { W with heap:=W.heap.setIfInBounds (w.heap.size+1) o } R dep f root e v st 0 :=
 ⟨⟨[],(h.own.keep (TFr.of_below (K:=fun _=>False) hb) (fun _ h=>h.elim)).map_kept (by omega) o,rfl⟩,hm,below_map (h.low.trans (hb.mono (Nat.le_of_succ_le h.big))) (Nat.le_refl _) o,by
   have:=h.big
   have:=hb.size
   simp only [Array.size_setIfInBounds]
   omega,hky⟩
theorem DeepIn.pushed (T : DTree w R dep) (h : DeepIn w X wr R dep f root v (st++[e])) (hf : f (key3 e)=0) {j : Nat} (hj : (kidsF w (key3 e)).length≤j) {W : World} {v' : Value} (hp : DeepPush w X W R dep f root e v' st j) :
 ∃ st',DeepIn w X W R dep (updF f (key3 e) (-1)) root v' st'∧st'.length+wtS R (kidsF w) (updF f (key3 e) (-1)) < (st++[e]).length+wtS R (kidsF w) f:=by
 obtain ⟨ps,ho,hk⟩:=hp.own
 rw [List.take_of_length_le hj] at hk
 have hi:=h.inv
 rw [rev_top] at hi
 have hi2:=hi.unseen T.rows hf
 have hw:=wtS_unseen T.rows h.mem hf
 have hl : ps.length=(kidsF w (key3 e)).length:=by rw [← hk,List.length_map]
 have hlen:=h.len
 rw [List.length_append,List.length_singleton] at hlen
 refine ⟨st++e :: ps,⟨ho,hp.map,?_,hp.low,?_,fun k=>?_,?_,hp.big,hp.keys⟩,?_⟩
 ·have e1 : (st++e :: ps).reverse.map key3=(kidsF w (key3 e)).reverse++key3 e :: st.reverse.map key3:=by
   rw [← hk,List.reverse_append,List.reverse_cons,List.map_append,List.map_append,List.map_reverse]
   simp
  rw [e1]
  exact hi2
 ·rw [List.length_append,List.length_cons]
  omega
 ·unfold updF
  split
  ·decide
  ·exact h.top k
 ·rcases h.root with h1|h1
  ·left
   have hr : root≠key3 e:=fun hr=>by
    rw [hr,hf] at h1
    cases h1
   unfold updF
   rw [if_neg hr]
   exact h1
  ·right
   rw [List.map_append,List.mem_append] at h1 ⊢
   rcases h1 with h1|h1
   ·exact .inl h1
   ·rw [List.map_singleton,List.mem_singleton] at h1
    exact .inr (by rw [h1];simp)
 ·rw [List.length_append,List.length_append,List.length_cons,List.length_singleton]
  omega
end
end Go.Proofs.Ytefcbgnckgapgaa
namespace Go.Proofs.Ytefcbgnckgapgaa
open Go.RowKit Go.Lib Go.Op
theorem DeepIn.start {w : World} {X : Obj} {R : List (Option Addr × Nat)} {dep : Option Addr × Nat→Int} (T : DTree w R dep) {W3 : World} {e : Option Addr × Nat × Nat} (he : key3 e∈R) (hm : DMap W3 (w.heap.size+1) (updF (fun _=>0) (none,0) 1)) (hl : Below (w.heap.size+1) (w.alloc X) W3) (hb : w.heap.size+2≤W3.heap.size) (hky : KeysIn W3 (w.heap.size+1) w.heap.size) :
 DeepIn w X (W3.alloc (.cells #[.slice e.1 e.2.1 e.2.2] 48)) R dep (updF (fun _=>0) (none,0) 1) (key3 e) (.slice (some ⟨W3.heap.size,0,none⟩) 1 1) [e]:=by
 have hba:=(Below.refl W3.heap.size W3).alloc (Nat.le_refl _) (.cells #[.slice e.1 e.2.1 e.2.2] 48)
 have h0 : ∀ r,updF (fun _=>0) (none,0) 1 r=if r=(none,0) then 1 else 0:=fun r=>rfl
 refine ⟨OwnP.first (cs:=[.slice e.1 e.2.1 e.2.2]) hb (heap_alloc_new W3 _) rfl,hm.below hba,⟨fun r hr=>?_,?_,fun r hr=>?_,fun r hr=>?_⟩,hl.trans (hba.mono (by omega)),?_,fun k=>?_,.inr (by simp),?_,hky.below hba (by omega)⟩
 ·rw [h0]
  split
  ·rename_i h
   exact .inr (.inr (by rw [h,T.rows.dn]))
  ·exact .inl rfl
 ·rw [h0,if_pos rfl]
 ·have : r=key3 e:=by simpa using hr
  rw [this]
  exact he
 ·rw [h0] at hr
  split at hr <;> omega
 ·have:=T.wt (updF (fun _=>0) (none,0) 1)
  rw [List.length_singleton]
  omega
 ·rw [h0]
  split <;> decide
 ·have:=hba.size
  omega
theorem DeepIn.last {w wr : World} {X : Obj} {R : List (Option Addr × Nat)} {dep f : Option Addr × Nat→Int} {root : Option Addr × Nat} {v : Value} (h : DeepIn w X wr R dep f root v []) (hr : root∈R) : f root=dep root:=by
 have h1 : 0 < f root:=h.root.elim id (fun h=>by simp at h)
 rcases h.inv.vals root hr with h2|h2|h2
 ·omega
 ·omega
 ·exact h2
end Go.Proofs.Ytefcbgnckgapgaa
namespace Go.Proofs.Ytefcbgnckgapgaa
open Go.RowKit Go.Lib Go.Op
theorem parse_bd (l : List UInt8) (_ : l.length≤100000) : QuB (parseI l).1:=by
 have h0 : QuB noQ:=⟨fun i hi=>(by cases hi),fun p hp=>(by cases hp),Nat.zero_le _⟩
 obtain ⟨⟨ts,er,at_⟩,hts⟩ : ∃ z,readX l=z:=⟨_,rfl⟩
 unfold parseI
 rw [hts]
 split
 ·exact h0
 ·rename_i he
  have he : er=0:=Decidable.not_not.1 he
  subst he
  obtain ⟨htk,hlen,_,_,hl5⟩:=readX_toks hts
  have hqb:=queryT_sb (E:=l.length) (s:=⟨ts,0,-1⟩) (ts.length+1) ⟨fun t ht=>(htk t ht).1,by show ts.length≤_;omega⟩
  split
  ·exact h0
  ·split
   ·exact hqb
   ·exact h0
def hT1 : List UInt8:=[115,101,113,32,97,32,120,32,116,104,101,110,32,110,111,116,32,98,32,111,114,32,99,32,110,32,116,104,101,110,32,98,32,121,43,32,119,104,101,114,101,32,115,117,109,40,121,46,120,41,32,45,32,40,120,46,120,32,45,32,49,41,32,62,61,32,45,51,32,119,105,116,104,105,110,32,53,32,98,121,32,105,100,32,112,105,99,107,32,110,101,120,116]
def hL : PEx:=.mk 8 noV [] [] [.mk 4 noV [121] [120] [],.mk 8 noV [] [] [.mk 2 noV [120] [120] [],.mk 1 ⟨1,1,[]⟩ [] [] []]]
def hP : PPr:=⟨hL,6,.mk 1 ⟨1,-3,[]⟩ [] [] []⟩
def hQ : PQu:=⟨[⟨false,[[97]],[120],1⟩,⟨true,[[98],[99]],[110],1⟩,⟨false,[[98]],[121],2⟩],[hP],5,[105,100],2⟩
theorem hT1_is : parseI hT1=(hQ,0,0):=by kernel_rfl
theorem hT2_is : parseI [115,101,113,32,97,32,120,32,116,104,101,110]=(noQ,81,12):=by kernel_rfl
theorem hT3_is : parseI [115,101,113,32,97,32,115,101,113,32,119,105,116,104,105,110,32,53]=(noQ,81,6):=by kernel_rfl
theorem hT4_is : parseI [115,101,113,32,110,111,116,32,97,32,120,32,119,105,116,104,105,110,32,53]=(noQ,2,0):=by kernel_rfl
theorem hQ_print : strB (printQ hQ)=⟨([115,101,113,32,97,32,120,32,116,104,101,110,32,110,111,116,32,98,32,111,114,32,99,32,110,32,116,104,101,110,32,98,32,121,43,32,119,104,101,114,101,32,115,117,109,40].append [121,46,120,41,32,45,32,40,120,46,120,32,45,32,49,41,32,62,61,32,45,51,32,119,105,116,104,105,110,32,53,32,98,121,32,105,100,32,112,105,99,107,32,110,101,120,116]).toArray⟩:=by kernel_rfl
theorem hQ_right : rightQ hQ=true:=by kernel_rfl
theorem hQ_deep : deepI hL=3:=by
 simp [hL,deepI_mk,deepIs_cons,deepIs_nil]
 decide
theorem hQ_size : sizeI hL=5:=by
 simp [hL,sizeI_mk,sizeIs_cons,sizeIs_nil]
theorem hQ_b : QuB hQ:=by
 have h:=parse_bd hT1 (by decide)
 rw [hT1_is] at h
 exact h
def HdP (w : World) (e : Ending) (w' : World) : Prop:=∃ (a : Option Addr) (c : Nat) (b : Option Addr) (d : Nat),e=.returned (.tuple #[.agg #[.slice a 3 c,.slice b 1 d,.int .i64 5,.string ⟨#[105,100]⟩,.int .i64 2],.int .i64 0,.int .i64 0])∧QuAt (· < w.heap.size) w' a 3 c b 1 d hQ∧Below w.heap.size w w'
theorem strB_eq' (s : ByteArray) : strB s.data.toList=s:=by apply ByteArray.ext;simp [strB]
def NoP (w : World) (x p : Int) (e : Ending) (w' : World) : Prop:=∃ (a : Option Addr) (q c : Nat) (b : Option Addr) (r d : Nat),e=.returned (.tuple #[.agg #[.slice a q c,.slice b r d,.int .i64 0,.string ⟨#[]⟩,.int .i64 0],.int .i64 x,.int .i64 p])∧Below w.heap.size w w'
end Go.Proofs.Ytefcbgnckgapgaa
namespace Go.Proofs.Ytefcbgnckgapgaa
open Go.RowKit Go.Lib Go.Op
def xN (v : List UInt8) : Nat→PEx
 | 0=>.mk 3 noV v [] []
 | n+1=>.mk 7 noV [] [] [xN v n,.mk 3 noV v [] []]
theorem xN_deep (v : List UInt8) : ∀ n : Nat,deepI (xN v n)=n+1
 | 0=>by simp [xN,deepI_mk]
 | n+1=>by
   rw [xN,deepI_mk,if_pos (.inl rfl),deepIs_cons,deepIs_cons,deepIs_nil,xN_deep v n,deepI_mk,if_neg (by decide)]
   omega
theorem xN_size (v : List UInt8) : ∀ n : Nat,sizeI (xN v n)=2*n+1
 | 0=>by simp [xN,sizeI_mk,sizeIs_nil]
 | n+1=>by
   rw [xN,sizeI_mk,sizeIs_cons,sizeIs_cons,sizeIs_nil,xN_size v n,sizeI_mk,sizeIs_nil]
   omega
theorem xN_bd {v : List UInt8} (hv : v.length≤1000000) : ∀ n : Nat,XBd (xN v n)
 | 0=>.mk _ _ _ _ _ (by decide) hv (by decide) (fun y hy=>by cases hy)
 | n+1=>.mk _ _ _ _ _ (by decide) (by decide) (by decide) (fun y hy=>by
   rcases List.mem_cons.1 hy with rfl|hy
   ·exact xN_bd hv n
   ·rw [List.mem_singleton.1 hy]
    exact xN_bd hv 0)
theorem xN_right {v : List UInt8} (hv : nameB v=true) : ∀ (n d : Nat),rightX d (xN v n)=decide (n < d)
 | n,0=>by
   cases n <;> simp [rightX]
 | 0,d+1=>by
   rw [xN,rightX_three,hv]
   simp
 | n+1,d+1=>by
   rw [xN,rightX_two d 7 (.inl rfl)]
   show (decide _ && (rightX d (xN v n) && rightX d (xN v 0)))=_
   rw [xN_right hv n d,xN_right hv 0 d]
   simp
   omega
def withX (p : PQu) (x : PEx) : PQu:=⟨p.its,[⟨x,1,x⟩],p.within,p.by_,p.pick⟩
theorem withX_right {p : PQu} (h : rightQ p=true) {v : List UInt8} (hv : nameB v=true) (n : Nat) : rightQ (withX p (xN v n))=decide (n < 6):=by
 unfold rightQ at h ⊢
 simp only [Bool.and_eq_true] at h
 obtain ⟨h1,h2,h3,h4,h5,h6⟩:=h
 show (rightIs p.its && (decide (1≤8) && (rightP ⟨xN v n,1,xN v n⟩ && true && (decide (0≤p.within∧p.within≤1099511627776) && ((decide (p.by_=[]) || nameB p.by_) && decide (1≤p.pick∧p.pick≤3))))))=_
 rw [h1,h4,h5,h6]
 unfold rightP
 rw [xN_right hv]
 simp
theorem right_first {p : PQu} (h : rightQ p=true) : ∃ i r,p.its=i :: r∧nameB i.x=true:=by
 unfold rightQ at h
 simp only [Bool.and_eq_true] at h
 obtain ⟨h1,_⟩:=h
 unfold rightIs at h1
 cases hi : p.its with
 | nil=>rw [hi] at h1;cases h1
 | cons i r =>
   rw [hi] at h1
   refine ⟨i,r,rfl,?_⟩
   simp only [Bool.and_eq_true,unlikeB,List.all_eq_true] at h1
   exact h1.2.2.1 _ (by simp)
def DLp (w3 wr : World) (v : List UInt8) (j : Nat) : Prop:=∃ (x : PEx) (a : Option Addr) (n c d : Nat),x=xN v j∧n=x.ks.length ∧
 XBlk wr w3.heap.size (.int .i64 x.k) (.int .i64 x.v.k) (.int .i64 x.v.n) (.string (strB x.v.s)) (.string (strB x.x)) (.string (strB x.f)) (.slice a n c) ∧
 ExK (· < w3.heap.size+1) wr d (.slice a n c) x.ks∧Below w3.heap.size w3 wr∧w3.heap.size+1≤wr.heap.size
end Go.Proofs.Ytefcbgnckgapgaa
namespace Go.Proofs.Ytefcbgnckgapgaa
open Go.RowKit Go.Lib Go.Op
theorem step_append_runI {P : Program} {o : Oper} {a : Act} {w : World} {K : Act→World→Prop} {Q : Exit→Act→World→Prop} {E c : Prop} [Decidable c] (hc : c)
 (d x : Operand) (dT sT : TypeId) (hop : o.op=Op.call { callee:=Callee.builtin Builtin.append,args:=#[d,x],argTypes:=#[dT,sT] })
 (v u : Value) (hd : a.eval d=v) (hx : a.eval x=u) {v' : Value} {w' : World} (hr : (Builtin.append_ #[dT,sT] o.type #[v,u]).run P w=.ok v' w') (hK : K (a.put o.dst v') w') :
 if c then Oper.wp P o a w K Q else E:=by
 rw [if_pos hc]
 unfold Oper.wp execOp
 simp only [hop,resolve,invoke,builtin,Sem.run_bind,Sem.run_pure,Result.andThen_ok,List.map_toArray,List.map_cons,List.map_nil,hd,hx,hr]
 exact hK
theorem flat_get {α : Type} {k : Nat} (hk0 : 0 < k) : ∀ {css : List (List α)} {i : Nat} {u : α},(∀ c∈css,c.length=k)→css.flatten[i]?=some u→∃ j r cs,css[j]?=some cs∧cs[r]?=some u∧i=j*k+r
 | [],i,u,_,h=>by simp at h
 | c :: css,i,u,hk,h=>by
   have hc:=hk c List.mem_cons_self
   rw [List.flatten_cons] at h
   by_cases hi : i < k
   ·rw [List.getElem?_append_left (by omega)] at h
    exact ⟨0,i,c,rfl,h,by omega⟩
   ·rw [List.getElem?_append_right (by omega),hc] at h
    obtain ⟨j,r,cs,h1,h2,h3⟩:=flat_get hk0 (fun c hc=>hk c (List.mem_cons_of_mem _ hc)) h
    refine ⟨j+1,r,cs,by simpa using h1,h2,?_⟩
    rw [Nat.succ_mul]
    omega
def OwnQ (W : World) (B N : Nat) (v : Value) (l : List PIt) : Prop:=∃ css : List (List Value),css.length=l.length∧W.ownsRow B 38 4 v l.length css.flatten∧(∀ c∈css,c.length=4) ∧
 ∀ (j : Nat) (x : PIt),l[j]?=some x→∃ cs,css[j]?=some cs∧itemD.P (fun b=>N≤b) W cs x
theorem OwnQ.empty {W : World} {B N g : Nat} (hg : B≤g) (h : W.heap[g]?=some (.cells #[] 38 (0,0))) : OwnQ W B N (.slice (some ⟨g,0,none⟩) 0 0) [] :=
 ⟨[],rfl,⟨rfl,.inr ⟨g,0,#[],rfl,hg,h,Nat.le_refl _,Nat.zero_le _,rfl,rfl⟩⟩,fun c hc=>(by cases hc),fun j x hj=>(by simp at hj)⟩
theorem OwnQ.slice {W : World} {B N : Nat} {v : Value} {l : List PIt} (h : OwnQ W B N v l) : ∃ a c,v=.slice a l.length c:=by
 obtain ⟨css,h1,h2,h3,h4⟩:=h
 rcases h2.2 with ⟨rfl,h0⟩|⟨g,cap,cur,rfl,_⟩
 ·exact ⟨none,0,by rw [h0]⟩
 ·exact ⟨_,cap,rfl⟩
theorem OwnQ.own {W : World} {B N : Nat} {v : Value} {l : List PIt} (h : OwnQ W B N v l) : ∀ g,v.ownBlock=some g→B≤g∧g < W.heap.size:=by
 obtain ⟨css,h1,h2,h3,h4⟩:=h
 intro g hg
 rcases h2.2 with ⟨rfl,h0⟩|⟨g',cap,cur,rfl,hb,hh,_⟩
 ·cases hg
 ·obtain rfl : g'=g:=Option.some.inj hg
  exact ⟨hb,(Array.getElem?_eq_some_iff.1 hh).1⟩
theorem OwnQ.keep {W W' : World} {B N : Nat} {v : Value} {l : List PIt} (h : OwnQ W B N v l) {K : Nat→Prop} (hf : TFr K W W') (hK : ∀ b,K b→N≤b) (hv : ∀ g,v.ownBlock=some g→¬ K g) : OwnQ W' B N v l:=by
 obtain ⟨css,h1,h2,h3,h4⟩:=h
 refine ⟨css,h1,⟨h2.1,?_⟩,h3,fun j x hj=>?_⟩
 ·rcases h2.2 with h0|⟨g,cap,cur,e,hb,hh,r⟩
  ·exact .inl h0
  ·exact .inr ⟨g,cap,cur,e,hb,(hf.block g (Array.getElem?_eq_some_iff.1 hh).1 (hv g (by rw [e];rfl))).trans hh,r⟩
 ·obtain ⟨cs,hc,hp⟩:=h4 j x hj
  exact ⟨cs,hc,itemD.keep (hf.mono (fun k _ hk=>hK k hk)) hp⟩
theorem OwnQ.low {W W' : World} {B N : Nat} {v : Value} {l : List PIt} (h : OwnQ W B N v l) (hb : Below W.heap.size W W') : OwnQ W' B N v l:=h.keep (TFr.of_below (K:=fun _=>False) hb) (fun _ h=>h.elim) (fun _ _ h=>h)
theorem OwnQ.append {W : World} {B N : Nat} {v : Value} {l l2 : List PIt} (h : OwnQ W B N v l) (hNB : N≤B) (hB : B≤W.heap.size) (hl : l.length≤100000) (hl2 : l2.length≤100000) {A : Addr} {c : Nat} {css2 : List (List Value)} (k1 : css2.length=l2.length) (k2 : ∀ c∈css2,c.length=4)
 (k3 : ∀ (j : Nat) (x : PIt),l2[j]?=some x→∃ cs,css2[j]?=some cs∧itemD.P (fun b=>N≤b) W cs x) (k4 : ∀ i u,css2.flatten[i]?=some u→W.cell? (A.add i)=some u) :
 ∃ v' w',(Builtin.append_ #[22,22] 22 #[v,.slice (some A) l2.length c]).run Try.prog W=.ok v' w'∧OwnQ w' B N v' (l++l2)∧W.grownBy w' v.ownBlock:=by
 have hown:=h.own
 obtain ⟨css,h1,h2,h3,h4⟩:=h
 obtain ⟨i0,hi,hz0,hz1,hz2⟩:=info_parts itemI
 have hfl:=flatK_len (k:=4) k2
 obtain ⟨v',w',hr,g2,g3,_,g5⟩:=run_append_own_at (P:=Try.prog) W B 22 22 38 i0 _ 4 56 (by kernel_rfl) hi hz0 hz1 hz2 rfl (by decide) v l.length css.flatten h2 A l2.length c css2.flatten (by rw [hfl,k1]) k4 (fun u hu=>by
  obtain ⟨cs,hcs,hu2⟩:=List.mem_flatten.1 hu
  obtain ⟨j,hj⟩:=List.getElem?_of_mem hcs
  have hjl:=(List.getElem?_eq_some_iff.1 hj).1
  obtain ⟨cs',e1,e2⟩:=k3 j (l2[j]'(by omega)) (List.getElem?_eq_getElem _)
  rw [hj] at e1
  rw [← Option.some.inj e1] at e2
  exact itemD.one e2 u hu2) (by unfold maxLen;omega) (by omega) hB
 have hfr:=TFr.of_grown (K:=fun b=>v.ownBlock=some b) g3 (fun k hk=>hk)
 refine ⟨v',w',hr,⟨css++css2,by simp [h1,k1],?_,fun c hc=>?_,fun j x hj=>?_⟩,g3⟩
 ·rw [List.length_append,List.flatten_append]
  exact g2
 ·rcases List.mem_append.1 hc with hc|hc
  ·exact h3 c hc
  ·exact k2 c hc
 ·have key : ∀ {cs : List Value} {y : PIt},itemD.P (fun b=>N≤b) W cs y→itemD.P (fun b=>N≤b) w' cs y:=fun hp=>itemD.keep (hfr.mono (fun k _ hk=>Nat.le_trans hNB (hown k hk).1)) hp
  by_cases hlt : j < l.length
  ·rw [List.getElem?_append_left hlt] at hj
   obtain ⟨cs,hc,hp⟩:=h4 j x hj
   exact ⟨cs,by rw [List.getElem?_append_left (by omega)];exact hc,key hp⟩
  ·rw [List.getElem?_append_right (by omega)] at hj
   obtain ⟨cs,hc,hp⟩:=k3 _ x hj
   exact ⟨cs,by rw [List.getElem?_append_right (by omega),h1];exact hc,key hp⟩
theorem OwnQ.row {W : World} {B N : Nat} {v : Value} {l : List PIt} (h : OwnQ W B N v l) : RowK itemD (fun _=>False) W v l:=by
 obtain ⟨css,h1,h2,h3,h4⟩:=h
 rcases h2.2 with ⟨rfl,h0⟩|⟨g,cap,cur,rfl,hb,hh,hn,hc,hs,ht⟩
 ·have : l=[]:=List.eq_nil_of_length_eq_zero h0
  subst this
  exact RowK.nil _ _ _
 ·refine ⟨_,cap,rfl,hn,fun j x hj=>?_⟩
  obtain ⟨cs,hcs,hp⟩:=h4 j x hj
  refine ⟨g,0,cs,rfl,fun h=>h,itemD.mono (fun _ h=>h.elim) hp,fun r u hu=>?_⟩
  have hjl:=(List.getElem?_eq_some_iff.1 hj).1
  have h6:=flat_at (k:=4) h3 hcs r u hu
  have hrl : r < 4:=by
   have:=(List.getElem?_eq_some_iff.1 hu).1
   have h7:=h3 cs (List.mem_of_getElem? hcs)
   omega
  rw [← ht,List.getElem?_take] at h6
  split at h6
  ·rw [cell_of_row W g (0+j*itemD.k+r) _ 38 (0,0) hh,Nat.zero_add]
   rw [← Array.getElem?_toList]
   exact h6
  ·cases h6
theorem names_old {w : World} {v : Value} {l : List (List UInt8)} (h : RowK nameD (fun _=>False) w v l) : RowK nameD (fun b=>w.heap.size≤b) w v l:=by
 obtain ⟨a,c,e,hc,h⟩:=h
 refine ⟨a,c,e,hc,fun j x hj=>?_⟩
 obtain ⟨g,o,cs,ea,_,hp,hcl⟩:=h j x hj
 have hp' : cs=[.string (strB x)]:=hp
 have:=World.block_lt_of_cell? _ _ (hcl 0 _ (by rw [hp'];rfl))
 have h2 : g < w.heap.size:=this
 exact ⟨g,o,cs,ea,by omega,hp,hcl⟩
theorem item_old {w : World} {cs : List Value} {x : PIt} (h : itemD.P (fun _=>False) w cs x) : itemD.P (fun b=>w.heap.size≤b) w cs x:=by
 obtain ⟨a,c,e,hr⟩:=h
 exact ⟨a,c,e,names_old hr⟩
theorem RowK.flat {K : Nat→Prop} {w : World} {g o n c : Nat} {l : List PIt} (h : RowK itemD K w (.slice (some ⟨g,o,none⟩) n c) l) : ∃ css : List (List Value),css.length=l.length∧(∀ c∈css,c.length=4)∧(∀ (j : Nat) (x : PIt),l[j]?=some x→∃ cs,css[j]?=some cs∧itemD.P K w cs x)∧∀ i u,css.flatten[i]?=some u→w.cell? ((⟨g,o,none⟩ : Addr).add i)=some u:=by
 obtain ⟨a,c',e,_,h⟩:=h
 injection e with e1 e2 e3
 subst e1
 have hall : ∀ j,j < l.length→∃ cs : List Value,(∀ x,l[j]?=some x→itemD.P K w cs x)∧cs.length=4∧∀ r u,cs[r]?=some u→w.cell? ⟨g,o+j*4+r,none⟩=some u:=fun j hj=>by
  obtain ⟨g',o',cs,ea,_,hp,hc⟩:=h j l[j] (List.getElem?_eq_getElem hj)
  have ea:=Option.some.inj ea
  injection ea with e4 e5
  subst e4 e5
  refine ⟨cs,fun x hx=>?_,itemD.len hp,hc⟩
  rw [List.getElem?_eq_getElem hj] at hx
  rw [← Option.some.inj hx]
  exact hp
 obtain ⟨q,hq⟩:=Go.Deep.choose_lt hall
 have hk : ∀ c∈(List.range l.length).map q,c.length=4:=fun c hc=>by
  obtain ⟨j,hj,rfl⟩:=List.mem_map.1 hc
  exact (hq j (List.mem_range.1 hj)).2.1
 refine ⟨(List.range l.length).map q,by simp,hk,fun j x hj=>?_,fun i u hu=>?_⟩
 ·have hjl:=(List.getElem?_eq_some_iff.1 hj).1
  exact ⟨q j,by rw [List.getElem?_map,List.getElem?_range hjl];rfl,(hq j hjl).1 x hj⟩
 ·obtain ⟨j,r,cs,h1,h2,rfl⟩:=flat_get (by decide) hk hu
  have hjl : j < l.length:=by
   have:=(List.getElem?_eq_some_iff.1 h1).1
   simpa using this
  rw [List.getElem?_map,List.getElem?_range hjl] at h1
  have h1 : q j=cs:=by simpa using h1
  rw [← h1] at h2
  have h3:=(hq j hjl).2.2 r u h2
  have e : ((⟨g,o,none⟩ : Addr).add (j*4+r))=⟨g,o+j*4+r,none⟩:=by
   unfold Addr.add
   split
   ·rename_i h0
    congr 1
    omega
   ·congr 1
    show o+(j*4+r)=o+j*4+r
    omega
  rw [e]
  exact h3
/-! Queries that are not right. -/
theorem bad_its (p : PQu) : rightQ ⟨[],p.prs,p.within,p.by_,p.pick⟩=false:=rfl
theorem bad_within (p : PQu) : rightQ ⟨p.its,p.prs,-1,p.by_,p.pick⟩=false:=by
 unfold rightQ
 simp
theorem bad_pick (p : PQu) : rightQ ⟨p.its,p.prs,p.within,p.by_,4⟩=false:=by
 unfold rightQ
 simp
theorem bad_twice (p : PQu) {i : PIt} (hi : i∈p.its) : rightQ ⟨p.its++[i],p.prs,p.within,p.by_,p.pick⟩=false:=by
 have h : rightIs (p.its++[i])=false:=by
  have hu : unlikeB ((p.its++[i]).map (·.x))=false:=by
   unfold unlikeB
   rw [Bool.and_eq_false_iff]
   right
   rw [decide_eq_false_iff_not,List.map_append,List.nodup_append]
   rintro ⟨_,_,h⟩
   exact h i.x (List.mem_map.2 ⟨i,hi,rfl⟩) i.x (by simp) rfl
  cases hp : p.its with
  | nil=>rw [hp] at hi;cases hi
  | cons y r =>
    rw [hp] at hu
    unfold rightIs
    rw [List.cons_append] at hu ⊢
    dsimp only
    rw [hu]
    simp
 unfold rightQ
 rw [h]
 rfl
theorem print_bad {q : PQu} (h : rightQ q=false) : printQ q=[]:=by
 unfold printQ
 rw [h]
 rfl
end Go.Proofs.Ytefcbgnckgapgaa
