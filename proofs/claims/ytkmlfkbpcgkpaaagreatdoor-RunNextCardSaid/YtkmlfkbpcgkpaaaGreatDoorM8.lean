/- Texts that others want. -/
import Derived.Test.YtkmlfkbpcgkpaaaGreatDoorM7
import Derived.Laws.EntriesVeiled
namespace Go.Proofs.YtkmlfkbpcgkpaaaGreatDoor
open Go.RowKit Go.Lib Go.Op
set_option maxHeartbeats 8000000
set_option maxRecDepth 100000
theorem OwnG.put2 {α : Type} {D : RowD α} {K : Nat→Prop} {w w3 : World} {B : Nat} {t : TypeId} {v : Value} {l : List α} {css : List (List Value)} (h : OwnG D K w B t v l css) (hD : GeD D) {g : Nat} (hg : v.ownBlock=some g) (hK : K g) {j r : Nat} {cs : List Value} {u : Value} (hb : Below w.heap.size w w3) (hj : css[j]?=some cs) (hr : r < D.k) {x : α} (hx : D.P K (w3.setCell ⟨g,j*D.k+r,none⟩ u) (cs.set r u) x) :
 OwnG D K (w3.setCell ⟨g,j*D.k+r,none⟩ u) B t v (l.set j x) (css.set j (cs.set r u)):=by
 have hgl:=(h.own g hg).2
 have hjl:=(List.getElem?_eq_some_iff.1 hj).1
 have hcl:=h.k cs (List.mem_of_getElem? hj)
 have h3 : w3.ownsRow B t D.k v l.length css.flatten:=zbn h.row (fun b hb'=>hb.block b (h.own b hb').2)
 refine ⟨by rw [List.length_set,List.length_set];exact h.n,by rw [List.length_set];exact zcy h3 h.n h.k hg u hj hr,fun c hc=>?_,fun i y hi=>?_⟩
 ·rcases List.mem_or_eq_of_mem_set hc with hc|rfl
  ·exact h.k c hc
  ·rw [List.length_set];exact hcl
 ·by_cases e : i=j
  ·subst e
   rw [List.getElem?_set_self (by rw [← h.n];exact hjl)] at hi
   obtain rfl:=Option.some.inj hi
   exact ⟨_,by rw [List.getElem?_set_self hjl],hx⟩
  ·rw [List.getElem?_set_ne (fun h=>e h.symm)] at hi
   obtain ⟨c,h1,h2⟩:=h.p i y hi
   refine ⟨c,by rw [List.getElem?_set_ne (fun h=>e h.symm)];exact h1,?_⟩
   have e1:=D.keep (TFr.of_below (K:=fun b=>K b∨w.heap.size≤b) hb) (hD _ _ _ _ h2)
   have e2:=D.keep ((TFr.at g (j*D.k+r) u).mono (fun k _ e=>.inl (e ▸ hK))) e1
   exact D.mono (fun b hb=>.inl hb) e2
theorem zhI {n : Nat} {W W' : World} (h : Below n W W') {b : Nat} (hb : n≤b) (x0 x1 : Value) : Below n W ((W'.setCell ⟨b,0,none⟩ x0).setCell ⟨b,1,none⟩ x1) :=
 (h.setCell (p:=⟨b,0,none⟩) hb x0).setCell (p:=⟨b,1,none⟩) hb x1
def AllSaid (A : List (List PEv)→Nat→Bool) (sa : Option Addr) (sn sc : Nat) (qa : Option Addr) (q qc : Nat) (qb : Option Addr) (r d : Nat) (p : PQu) : Prop:=∀ (W : World) (ba : Option Addr) (bn bc : Nat) (B : List (List PEv)) (k : Nat),RowK evsD (fun _=>False) W (.slice ba bn bc) B→k < q →
 Calls Tryz.prog 196 #[.slice sa sn sc,.agg #[.slice qa q qc,.slice qb r d,.int .i64 p.within,.string (strB p.by_),.int .i64 p.pick],.slice ba bn bc,.int .i64 k] W fun en w'=>en=.returned (.bool (A B k))∧Below W.heap.size W w'
def TkTo (K : Nat→Prop) (o : Option PRun) (w : World) (en : Ending) (w' : World) : Prop:=∃ pl a n c z,en=.returned (.tuple #[.agg #[.int .i64 pl,.slice a n c],.bool z])∧z=o.isSome∧(∀ t,o=some t→pl=t.place∧RowK evsD K w' (.slice a n c) t.bound)∧Below w.heap.size w w'
theorem zhJ {A : List (List PEv)→Nat→Bool} {its : List PIt} {e : PEv} {b : List (List PEv)} {k : Nat} {y : PIt} (hy : its[k]?=some y) : takesP A its e b k=if hasP y e.name && A (withP e b k) k then some ⟨k,withP e b k⟩ else none:=by unfold takesP;rw [hy]
section
variable {K : Nat→Prop} {w : World} {sa qa qb va ea : Option Addr} {sn sc qc r d vc ec q m en : Nat} {p : PQu} {e : PEv} {a : Option Addr} {n c : Nat} {A : List (List PEv)→Nat→Bool} {b : List (List PEv)}
theorem zcO (hall : AllSaid A sa sn sc qa q qc qb r d p) (h : ComAt K w qa q qc va m vc ea en ec p e) (hK : ∀ g,K g→g < w.heap.size) (hb : RowK evsD K w (.slice a n c) b) (hbn : b.length=q) {k : Nat} {y : PIt} (hy : p.its[k]?=some y) (hyn : y.ns.length≤1000000) (hq6 : q≤6) (hbs : ∀ l∈b,l.length≤100000) (hnm : e.name.length≤maxLen) (pl : Int) : Calls Tryz.prog 159 #[.agg #[.slice sa sn sc,.slice qa q qc,.slice qb r d,.int .i64 p.within,.string (strB p.by_),.int .i64 p.pick,.slice va m vc,.int .i64 e.ts,.int .i64 e.dep,.int .i64 e.seq,.string (strB e.name),.slice ea en ec],.agg #[.int .i64 pl,.slice a n c],.int .i64 k] w (TkTo K (takesP A p.its e b k) w):=by
 obtain ⟨ou,hou⟩ : ∃ ou,takesP A p.its e b k=ou:=⟨_,rfl⟩
 rw [hou]
 rw [zhJ hy] at hou
 have hn : n=b.length:=hb.len
 have hq : q=p.its.length:=h.1.len
 have hkq : k < q:=by rw [hq];exact (List.getElem?_eq_some_iff.1 hy).1
 have hal:=fun (W : World) (o : Obj)=>(Below.refl W.heap.size W).alloc (Nat.le_refl _) o
 have hb0:=hal w (.cells #[.slice sa sn sc,.slice qa q qc,.slice qb r d,.int .i64 p.within,.string (strB p.by_),.int .i64 p.pick,.slice va m vc,.int .i64 e.ts,.int .i64 e.dep,.int .i64 e.seq,.string (strB e.name),.slice ea en ec] 107)
 have hb1:=hb0.alloc hb0.size (.cells #[.int .i64 pl,.slice a n c] 59)
 have hb2:=hb1.alloc hb1.size (.cells #[.int .i64 0,.slice none 0 0] 59)
 have hX:=((Blk.new w #[.slice sa sn sc,.slice qa q qc,.slice qb r d,.int .i64 p.within,.string (strB p.by_),.int .i64 p.pick,.slice va m vc,.int .i64 e.ts,.int .i64 e.dep,.int .i64 e.seq,.string (strB e.name),.slice ea en ec] 107).low (hal _ (.cells #[.int .i64 pl,.slice a n c] 59))).low (hal _ (.cells #[.int .i64 0,.slice none 0 0] 59))
 have hY:=(Blk.new (w.alloc (.cells #[.slice sa sn sc,.slice qa q qc,.slice qb r d,.int .i64 p.within,.string (strB p.by_),.int .i64 p.pick,.slice va m vc,.int .i64 e.ts,.int .i64 e.dep,.int .i64 e.seq,.string (strB e.name),.slice ea en ec] 107)) #[.int .i64 pl,.slice a n c] 59).low (hal _ (.cells #[.int .i64 0,.slice none 0 0] 59))
 rw [show (w.alloc (.cells #[.slice sa sn sc,.slice qa q qc,.slice qb r d,.int .i64 p.within,.string (strB p.by_),.int .i64 p.pick,.slice va m vc,.int .i64 e.ts,.int .i64 e.dep,.int .i64 e.seq,.string (strB e.name),.slice ea en ec] 107)).heap.size=w.heap.size+1 by simp] at hY
 have hZ:=Blk.new ((w.alloc (.cells #[.slice sa sn sc,.slice qa q qc,.slice qb r d,.int .i64 p.within,.string (strB p.by_),.int .i64 p.pick,.slice va m vc,.int .i64 e.ts,.int .i64 e.dep,.int .i64 e.seq,.string (strB e.name),.slice ea en ec] 107)).alloc (.cells #[.int .i64 pl,.slice a n c] 59)) #[.int .i64 0,.slice none 0 0] 59
 rw [show ((w.alloc (.cells #[.slice sa sn sc,.slice qa q qc,.slice qb r d,.int .i64 p.within,.string (strB p.by_),.int .i64 p.pick,.slice va m vc,.int .i64 e.ts,.int .i64 e.dep,.int .i64 e.seq,.string (strB e.name),.slice ea en ec] 107)).alloc (.cells #[.int .i64 pl,.slice a n c] 59)).heap.size=w.heap.size+1+1 by simp] at hZ
 obtain ⟨g,o,b1,e1,rfl,d0,d1,d2,d3,hns⟩:=(h.1.low (zae hb2)).itemAt hy
 have hcon:=zaK hns hyn y.ns.length (Nat.le_refl _) e1 e.name
 rw [List.take_length] at hcon
 obtain ⟨zc,hzc⟩ : ∃ zc,decide (e.name∈y.ns)=zc:=⟨_,rfl⟩
 rw [hzc] at hcon
 have hhas : hasP y e.name=zc:=hzc
 rw [hhas] at hou
 have HCON:=hid hcon
 have HALL:=hid hall
 have HEV:=hid h.2.2
 have HBD:=hid hb
 have HKK:=hid hK
 have HBS:=hid hbs
 obtain ⟨row,hl⟩ : ∃ row,b[k]?=some row:=⟨_,List.getElem?_eq_getElem (by omega)⟩
 have HL:=hid hl
 have HNB:=hid hn
 have HBN:=hid hbn
 have HWI : Hid (withP e b k=b.set k (row++[e])):=by show _=_;unfold withP;rw [hl];rfl
 have HENL:=hid h.2.2.len
 have HNM:=hid hnm
 have hkn : k < n:=by omega
 obtain ⟨zs,hzs⟩ : ∃ zs,y.ns.length=zs:=⟨_,rfl⟩
 rw [hzs] at d1 HCON
 obtain ⟨bw,hbw⟩ : ∃ bw,withP e b k=bw:=⟨_,rfl⟩
 have HBW:=hid hbw
 rw [hbw] at hou
 have HOU:=hid hou
 clear hou
 have x1:=zab hX (k:=1) rfl
 have x10:=zab hX (k:=10) rfl
 obtain ⟨wB,hwB⟩ : ∃ wB,((w.alloc (.cells #[.slice sa sn sc,.slice (some ⟨g,o,none⟩) q qc,.slice qb r d,.int .i64 p.within,.string (strB p.by_),.int .i64 p.pick,.slice va m vc,.int .i64 e.ts,.int .i64 e.dep,.int .i64 e.seq,.string (strB e.name),.slice ea en ec] 107)).alloc (.cells #[.int .i64 pl,.slice a n c] 59)).alloc (.cells #[.int .i64 0,.slice none 0 0] 59)=wB:=⟨_,rfl⟩
 have HB2 : Hid (Below w.heap.size w wB):=by rw [← hwB];exact hb2
 have HX : Hid (Blk wB w.heap.size #[.slice sa sn sc,.slice (some ⟨g,o,none⟩) q qc,.slice qb r d,.int .i64 p.within,.string (strB p.by_),.int .i64 p.pick,.slice va m vc,.int .i64 e.ts,.int .i64 e.dep,.int .i64 e.seq,.string (strB e.name),.slice ea en ec] 107):=by rw [← hwB];exact hX
 have HY : Hid (Blk wB (w.heap.size+1) #[.int .i64 pl,.slice a n c] 59):=by rw [← hwB];exact hY
 have HZ : Hid (Blk wB (w.heap.size+1+1) #[.int .i64 0,.slice none 0 0] 59):=by rw [← hwB];exact hZ
 rw [hwB] at HCON d1 x1 x10
 have f0 : wB.drew.cell? ⟨w.heap.size,1,none⟩=some (.slice (some ⟨g,o,none⟩) q qc):=x1
 have f1 : wB.drew.cell? ⟨w.heap.size,10,none⟩=some (.string (strB e.name)):=x10
 have hk0 : (0 : Int)≤(k : Int):=by omega
 have hk1 : (k : Int) < (q : Int):=by omega
 have hk2 : (k : Int) < (n : Int):=by omega
 have HKN:=hid hkn
 have HKQ:=hid hkq
 clear hall h hK hb hbn hy hyn hbs hnm hn hq hal hb0 hb1 hb2 hX hY hZ d0 d2 d3 hns hcon hzc hhas hl hzs hbw x1 x10
 go_enter Tryz.func159,Tryz.ntmps159
 go_wp2_with fail
 (try rw [hwB])
 clear hwB
 refine wp_region_held_drew (S:=fun W=>W.cell? ⟨w.heap.size,1,none⟩=some (.slice (some ⟨g,o,none⟩) q qc)∧W.cell? ⟨w.heap.size,10,none⟩=some (.string (strB e.name))∧W.cell? ⟨g,o+k*4+1,none⟩=some (.slice b1 zs e1)) (by kernel_rfl) ⟨by assumption,by assumption,by assumption⟩ (fun hHeld=>?_)
 refine rK 0 9 (h:=?_)
 try simp only [Act.put,rI,rZ,rS]
 refine rK 1 10 (h:=?_)
 try simp only [Act.put,rI,rZ,rS]
 refine rK 2 11 (h:=?_)
 try simp only [Act.put,rI,rZ,rS]
 refine rK 3 12 (h:=?_)
 try simp only [Act.put,rI,rZ,rS]
 refine rK 4 13 (h:=?_)
 try simp only [Act.put,rI,rZ,rS]
 refine rK 5 14 (h:=?_)
 try simp only [Act.put,rI,rZ,rS]
 refine rK 6 15 (h:=?_)
 try simp only [Act.put,rI,rZ,rS]
 refine rK 7 16 (h:=?_)
 try simp only [Act.put,rI,rZ,rS]
 refine rK 8 17 (h:=?_)
 try simp only [Act.put,rI,rZ,rS]
 refine rK 9 18 (h:=?_)
 try simp only [Act.put,rI,rZ,rS]
 refine rA 10 (h:=fun K hK=>?_)
 dsimp only [List.getElem_toArray,List.getElem_cons_succ,List.getElem_cons_zero]
 go_simp
 go_at_call 65
 (with_reducible refine HCON.out.mono ?_)
 rintro en2 w4 ⟨rfl,rfl⟩
 go_wp2_with fail
 refine hK.out _ _ ⟨f0,f1,d1⟩ (fun hHeld=>?_)
 clear hK K
 try simp only [Act.put,rI,rZ,rS]
 refine rK 11 20 (h:=?_)
 try simp only [Act.put,rI,rZ,rS]
 refine wpAnyH_done (by kernel_rfl) ?_ _
 obtain ⟨wD,hwD⟩ : ∃ wD,wB.drew=wD:=⟨_,rfl⟩
 have HBD2 : Hid (Below w.heap.size w wD):=by rw [← hwD];exact zae HB2.out
 have HXD : Hid (Blk wD w.heap.size #[.slice sa sn sc,.slice (some ⟨g,o,none⟩) q qc,.slice qb r d,.int .i64 p.within,.string (strB p.by_),.int .i64 p.pick,.slice va m vc,.int .i64 e.ts,.int .i64 e.dep,.int .i64 e.seq,.string (strB e.name),.slice ea en ec] 107):=by rw [← hwD];exact HX.out
 have HYD : Hid (Blk wD (w.heap.size+1) #[.int .i64 pl,.slice a n c] 59):=by rw [← hwD];exact HY.out
 have HZD : Hid (Blk wD (w.heap.size+1+1) #[.int .i64 0,.slice none 0 0] 59):=by rw [← hwD];exact HZ.out
 (try rw [hwD])
 clear hwD f0 f1 d1 HB2 HX HY HZ HCON
 cases zc with
 | false =>
   have z0:=zab HZD.out (k:=0) rfl
   have z1:=zab HZD.out (k:=1) rfl
   have fz0:=zac HZD.out (k:=0)
   have fz1:=zac HZD.out (k:=1)
   go_wp2
   refine bodyPost_ret (v:=.tuple #[.agg #[.int .i64 0,.slice none 0 0],.bool false]) (by simp [results,Tryz.results159,go_sem,z0,z1]) rfl ?_
   have ho : ou=none:=HOU.out.symm
   subst ho
   exact ⟨_,_,_,_,_,rfl,rfl,fun t ht=>(by cases ht),zhI (b:=w.heap.size+1+1) HBD2.out (by omega) _ _⟩
 | true =>
 have y1:=zab HYD.out (k:=1) rfl
 obtain ⟨K0,hK0⟩ : ∃ K0 : Nat→Prop,K0=fun g=>K g∨g=w.heap.size+1+1:=⟨_,rfl⟩
 have HK0a : Hid (∀ g,K0 g→g < wD.heap.size):=fun g hg=>by
  rw [hK0] at hg
  rcases hg with hg|hg
  ·have:=HKK.out g hg;have:=HBD2.out.size;omega
  ·rw [hg];exact HZD.out.lt
 have HK0b : Hid (∀ g,K g→K0 g):=fun g hg=>by rw [hK0];exact .inl hg
 have HK0c : Hid (K0 (w.heap.size+1+1)):=by rw [hK0];exact Or.inr rfl
 have HK0d : Hid (∀ g,K0 g→K g∨w.heap.size≤g):=fun g hg=>by
  rw [hK0] at hg
  exact hg.imp id (fun e=>by omega)
 clear hK0
 have hcl:=zbm (w:=wD) (K:=K0) (a:=a) (c:=c) (l:=b) (((show RowK evsD K w (.slice a b.length c) b by rw [← HNB.out];exact HBD.out).ge zbR (by decide)).low HBD2.out |>.mono HK0d.out) HK0a.out (by have:=HBN.out;omega)
 rw [← HNB.out] at hcl
 have HCL:=hid hcl
 clear hcl
 go_wp2_with (go_at_call 130;(with_reducible refine HCL.out.mono ?_);rintro en2 w5 ⟨v5,css5,rfl,h5,hb5⟩;obtain ⟨a5,c5,rfl⟩:=h5.slice;rw [← HNB.out] at h5 ⊢)
 obtain ⟨g1,rfl⟩:=h5.base HL.out
 obtain ⟨cs,hcs,a6,c6,rfl,hr6⟩:=h5.p k row HL.out
 have m0 : w5.cell? ⟨g1,k,none⟩=some (.slice a6 row.length c6):=by
  have e:=h5.cells (g:=g1) rfl hcs (r:=0) rfl
  rwa [show k*evsD.k+0=k by show k*1+0=k;omega] at e
 have mf:=h5.frozen (g:=g1) rfl k
 have hg1:=h5.own g1 rfl
 have HX5:=hid (HXD.out.low hb5)
 have HZ5:=hid (HZD.out.low hb5)
 have HB5:=hid (HBD2.out.trans (hb5.mono HBD2.out.size))
 have hK1 : ∀ gg,(K0 gg∨(Value.slice (some ⟨g1,0,none⟩) n c5).ownBlock=some gg)→gg < w5.heap.size:=fun gg hg=>hg.elim (fun h=>Nat.lt_of_lt_of_le (HK0a.out gg h) hb5.size) (fun h=>(h5.own gg h).2)
 obtain ⟨wE,hwE⟩ : ∃ wE,w5.drew=wE:=⟨_,rfl⟩
 have hbE : Below w5.heap.size w5 wE:=by rw [← hwE];exact zae (Below.refl _ _)
 have HWEQ:=hid hwE
 have HBE:=hid hbE
 clear hwE
 have hcc:=zeD (K:=fun gg=>K0 gg∨(Value.slice (some ⟨g1,0,none⟩) n c5).ownBlock=some gg) (w:=(wE.alloc (.cells #[.int .i64 e.ts,.int .i64 e.dep,.int .i64 e.seq,.string (strB e.name),.slice ea en ec] 41)).alloc (.cells #[.slice a6 row.length c6,.slice (some ⟨wE.heap.size,0,none⟩) 1 1] 27)) (a:=some ⟨wE.heap.size+1,0,none⟩) (c:=2) (b:=[row,[e]]) (by
  have hq1 : Below w5.heap.size w5 (wE.alloc (.cells #[.int .i64 e.ts,.int .i64 e.dep,.int .i64 e.seq,.string (strB e.name),.slice ea en ec] 41)):=hbE.alloc hbE.size _
  have hq2:=hq1.alloc hq1.size (.cells #[.slice a6 row.length c6,.slice (some ⟨wE.heap.size,0,none⟩) 1 1] 27)
  have hbe : Blk (wE.alloc (.cells #[.int .i64 e.ts,.int .i64 e.dep,.int .i64 e.seq,.string (strB e.name),.slice ea en ec] 41)) wE.heap.size #[.int .i64 e.ts,.int .i64 e.dep,.int .i64 e.seq,.string (strB e.name),.slice ea en ec] 41:=Blk.new wE _ _
  have hbe2:=hbe.low ((Below.refl _ _).alloc (Nat.le_refl _) (.cells #[.slice a6 row.length c6,.slice (some ⟨wE.heap.size,0,none⟩) 1 1] 27))
  have hbr:=Blk.new (wE.alloc (.cells #[.int .i64 e.ts,.int .i64 e.dep,.int .i64 e.seq,.string (strB e.name),.slice ea en ec] 41)) #[.slice a6 row.length c6,.slice (some ⟨wE.heap.size,0,none⟩) 1 1] 27
  rw [show (wE.alloc (.cells #[.int .i64 e.ts,.int .i64 e.dep,.int .i64 e.seq,.string (strB e.name),.slice ea en ec] 41)).heap.size=wE.heap.size+1 by simp] at hbr
  refine ⟨_,2,rfl,by simp,fun j x hj=>⟨wE.heap.size+1,0,?_⟩⟩
  match j,hj with
  | 0,hj =>
    obtain rfl : row=x:=by simpa using hj
    exact ⟨[.slice a6 row.length c6],rfl,fun hh=>by have:=hK1 _ hh;have:=hbE.size;omega,⟨a6,c6,rfl,hr6.low hq2⟩,fun r u hu=>by
     match r,hu with
     | 0,hu =>
       obtain rfl : Value.slice a6 row.length c6=u:=by simpa using hu
       exact zab hbr (k:=0) rfl
     | r+1,hu=>simp at hu⟩
  | 1,hj =>
    obtain rfl : [e]=x:=by simpa using hj
    have hev : evD.P (fun gg=>K0 gg∨(Value.slice (some ⟨g1,0,none⟩) n c5).ownBlock=some gg) ((wE.alloc (.cells #[.int .i64 e.ts,.int .i64 e.dep,.int .i64 e.seq,.string (strB e.name),.slice ea en ec] 41)).alloc (.cells #[.slice a6 row.length c6,.slice (some ⟨wE.heap.size,0,none⟩) 1 1] 27)) [.int .i64 e.ts,.int .i64 e.dep,.int .i64 e.seq,.string (strB e.name),.slice ea en ec] e :=
     ⟨ea,ec,by rw [HENL.out],by
       have h1:=(HEV.out.ge zfV (by decide)).low (HB5.out.trans (hq2.mono HB5.out.size))
       have e9 : (Value.slice ea e.vals.length ec)=.slice ea en ec:=by rw [HENL.out]
       rw [e9]
       exact h1.mono (fun gg (hg : K0 gg∨(Value.slice (some ⟨g1,0,none⟩) n c5).ownBlock=some gg)=>hg.elim (HK0d.out gg) (fun h=>.inr (by have:=(h5.own gg h).1;have:=HBD2.out.size;omega))),HNM.out⟩
    exact ⟨[.slice (some ⟨wE.heap.size,0,none⟩) 1 1],rfl,fun hh=>by have:=hK1 _ hh;have:=hbE.size;omega,⟨_,_,rfl,⟨_,1,rfl,Nat.le_refl _,fun j2 x2 hj2=>by
     match j2,hj2 with
     | 0,hj2 =>
       obtain rfl : e=x2:=by simpa using hj2
       exact ⟨wE.heap.size,0,_,rfl,fun hh=>by have:=hK1 _ hh;have:=hbE.size;omega,hev,fun r u hu=>by
        rw [Nat.zero_mul,Nat.zero_add]
        refine zab hbe2 ?_
        rw [← hu]
        simp⟩
     | j2+1,hj2=>simp at hj2⟩⟩,fun r u hu=>by
     match r,hu with
     | 0,hu =>
       obtain rfl : Value.slice (some ⟨wE.heap.size,0,none⟩) 1 1=u:=by simpa using hu
       exact zab hbr (k:=1) rfl
     | r+1,hu=>simp at hu⟩
  | j+2,hj=>simp at hj)
  (fun gg hg=>by have:=hK1 gg hg;have:=hbE.size;simp;omega) (by simp [lens]) (by
    have:=HBS.out row (List.mem_of_getElem? HL.out)
    simp [lens]
    omega) (by simp)
 obtain ⟨m6,hm6⟩ : ∃ m6,row.length=m6:=⟨_,rfl⟩
 have HM6:=hid hm6
 rw [show ([row,[e]] : List (List PEv)).length=2 from rfl] at hcc
 rw [hm6] at hcc m0
 have HCON4:=hid hcc
 have H5:=hid h5
 have HCS:=hid hcs
 have HK1:=hid hK1
 have HG1:=hid hg1
 have q7:=zab HX5.out (k:=7) rfl
 have q8:=zab HX5.out (k:=8) rfl
 have q9:=zab HX5.out (k:=9) rfl
 have q10:=zab HX5.out (k:=10) rfl
 have q11:=zab HX5.out (k:=11) rfl
 have f0 : wE.cell? ⟨w.heap.size,7,none⟩=some (.int .i64 e.ts):=zaa hbE q7
 have f1 : wE.cell? ⟨w.heap.size,8,none⟩=some (.int .i64 e.dep):=zaa hbE q8
 have f2 : wE.cell? ⟨w.heap.size,9,none⟩=some (.int .i64 e.seq):=zaa hbE q9
 have f3 : wE.cell? ⟨w.heap.size,10,none⟩=some (.string (strB e.name)):=zaa hbE q10
 have f4 : wE.cell? ⟨w.heap.size,11,none⟩=some (.slice ea en ec):=zaa hbE q11
 have mm : wE.cell? ⟨g1,k,none⟩=some (.slice a6 m6 c6):=zaa hbE m0
 have hwg : w.heap.size≠g1:=by have:=hg1.1;have:=HYD.out.lt;omega
 have hzg : w.heap.size+1+1≠g1:=by have:=hg1.1;have:=HZD.out.lt;omega
 have mfE : wE.frozen? ⟨g1,k,none⟩=false:=zaB hbE m0 mf
 clear hbE mf h5 hcs hr6 hb5 hK1 hg1 hcc hm6 q7 q8 q9 q10 q11 m0 y1
 refine wp_region_held_drew (S:=fun W=>W.cell? ⟨w.heap.size,7,none⟩=some (.int .i64 e.ts)∧W.cell? ⟨w.heap.size,8,none⟩=some (.int .i64 e.dep)∧W.cell? ⟨w.heap.size,9,none⟩=some (.int .i64 e.seq)∧W.cell? ⟨w.heap.size,10,none⟩=some (.string (strB e.name))∧W.cell? ⟨w.heap.size,11,none⟩=some (.slice ea en ec)) (by kernel_rfl) (by rw [HWEQ.out];exact ⟨f0,f1,f2,f3,f4⟩) (fun hHeld=>?_)
 rw [HWEQ.out] at hHeld ⊢
 refine rK 0 25 (h:=?_)
 try simp only [Act.put,rI,rZ,rS]
 refine rK 1 26 (h:=?_)
 try simp only [Act.put,rI,rZ,rS]
 refine rK 2 27 (h:=?_)
 try simp only [Act.put,rI,rZ,rS]
 refine rK 3 28 (h:=?_)
 try simp only [Act.put,rI,rZ,rS]
 refine rK 4 29 (h:=?_)
 try simp only [Act.put,rI,rZ,rS]
 refine rK 6 31 (h:=?_)
 try simp only [Act.put,rI,rZ,rS]
 refine rK 7 32 (h:=?_)
 try simp only [Act.put,rI,rZ,rS]
 refine wpAnyH_ready (rs:=[5,8]) (by kernel_rfl) (by simp) ?_
 refine AllReadyH.cons (o:=_) rfl (fun K hK=>?ra) (AllReadyH.cons (o:=_) rfl (fun K hK=>?rb) AllReadyH.nil)
 case ra =>
  dsimp only [List.getElem_toArray,List.getElem_cons_succ,List.getElem_cons_zero]
  focus go_simp
  refine hK.out _ _ ⟨f0,f1,f2,f3,f4⟩ (fun hHeld=>?_)
  clear hK K
  try simp only [Act.put,rI,rZ,rS]
  refine rA 8 (h:=fun K hK=>?_)
  dsimp only [List.getElem_toArray,List.getElem_cons_succ,List.getElem_cons_zero]
  focus go_simp
  refine hK.out _ _ ⟨zad f0 _,zad f1 _,zad f2 _,zad f3 _,zad f4 _⟩ (fun hHeld=>?_)
  clear hK K
  try simp only [Act.put,rI,rZ,rS]
  refine rA 9 (h:=fun K hK=>?_)
  dsimp only [List.getElem_toArray,List.getElem_cons_succ,List.getElem_cons_zero]
  focus go_simp
  refine hK.out _ _ ⟨zad (zad f0 _) _,zad (zad f1 _) _,zad (zad f2 _) _,zad (zad f3 _) _,zad (zad f4 _) _⟩ (fun hHeld=>?_)
  clear hK K
  try simp only [Act.put,rI,rZ,rS]
  refine rA 10 (h:=fun K hK=>?_)
  dsimp only [List.getElem_toArray,List.getElem_cons_succ,List.getElem_cons_zero]
  go_simp
  go_at_call 195
  (with_reducible refine HCON4.out.mono ?_)
  rintro en2 w6 ⟨v6,css6,rfl,h6,hb6⟩
  obtain ⟨a7,c7,rfl⟩:=h6.slice
  obtain ⟨m7,hm7⟩ : ∃ m7,[row,[e]].flatten.length=m7:=⟨_,rfl⟩
  have HM7:=hid hm7
  rw [hm7] at h6 ⊢
  have hq1 : Below w5.heap.size w5 (wE.alloc (.cells #[.int .i64 e.ts,.int .i64 e.dep,.int .i64 e.seq,.string (strB e.name),.slice ea en ec] 41)):=HBE.out.alloc HBE.out.size _
  have hq2:=hq1.alloc hq1.size (.cells #[.slice a6 m6 c6,.slice (some ⟨wE.heap.size,0,none⟩) 1 1] 27)
  have hb65 : Below w5.heap.size w5 w6:=hq2.trans (hb6.mono hq2.size)
  have HB65:=hid hb65
  have H6:=hid h6
  have HQS : Hid (w5.heap.size≤((wE.alloc (.cells #[.int .i64 e.ts,.int .i64 e.dep,.int .i64 e.seq,.string (strB e.name),.slice ea en ec] 41)).alloc (.cells #[.slice a6 m6 c6,.slice (some ⟨wE.heap.size,0,none⟩) 1 1] 27)).heap.size):=hq2.size
  have hbE6 : Below wE.heap.size wE w6:=(((Below.refl wE.heap.size wE).alloc (Nat.le_refl _) _).alloc (by simp) _).trans (hb6.mono (by simp;omega))
  have k0:=zaa hbE6 f0
  have k1:=zaa hbE6 f1
  have k2:=zaa hbE6 f2
  have k3:=zaa hbE6 f3
  have k4:=zaa hbE6 f4
  have mk:=zaa hbE6 mm
  have mkf : w6.frozen? ⟨g1,k,none⟩=false:=zaB hbE6 mm mfE
  clear hbE6 hb65 hq1 hq2 hb6 h6 hm7 f0 f1 f2 f3 f4 mm
  go_wp2_with fail
  refine hK.out _ _ ⟨k0,k1,k2,k3,k4⟩ (fun hHeld=>?_)
  clear hK K
  try simp only [Act.put,rI,rZ,rS]
  refine rK 11 36 (h:=?_)
  try simp only [Act.put,rI,rZ,rS]
  refine rA 12 (h:=fun K hK=>?_)
  dsimp only [List.getElem_toArray,List.getElem_cons_succ,List.getElem_cons_zero]
  focus go_simp
  have hr7 : RowK evD (fun gg=>K0 gg∨(Value.slice (some ⟨g1,0,none⟩) n c5).ownBlock=some gg) (w6.setCell ⟨g1,k,none⟩ (.slice a7 m7 c7)) (.slice a7 m7 c7) (row++[e]):=by (have e1:=H6.out.row' (K':=fun gg=>K0 gg∨(Value.slice (some ⟨g1,0,none⟩) n c5).ownBlock=some gg) (fun gg hg=>.inl hg) (fun gg hg hk=>by have e1:=HK1.out gg hk;have e2:=(H6.out.own gg hg).1;have e3:=HQS.out;omega);have e2 : [row,[e]].flatten=row++[e]:=(by simp);rw [e2] at e1;exact e1.set (b:=g1) (.inr rfl) _ _)
  have hke : k*evsD.k+0=k:=(by show k*1+0=k;omega)
  have hput:=H5.out.put2 zbR (g:=g1) rfl (.inr rfl) (j:=k) (r:=0) (u:=.slice a7 m7 c7) HB65.out HCS.out (by decide) (x:=row++[e]) ⟨a7,c7,by rw [← HM7.out];simp,by have e3 : (row++[e]).length=m7:=(by rw [← HM7.out];simp);rw [e3,hke];exact hr7⟩
  rw [hke] at hput
  have HROW : Hid (RowK evsD K0 (w6.setCell ⟨g1,k,none⟩ (.slice a7 m7 c7)) (.slice (some ⟨g1,0,none⟩) n c5) bw):=by (rw [← HBW.out,HWI.out];exact hput.row' (fun gg hg=>.inl hg) (fun gg hg hk=>by have e1:=(H5.out.own gg hg).1;have e2:=HK0a.out gg hk;omega))
  have HB7 : Hid (Below w.heap.size w (w6.setCell ⟨g1,k,none⟩ (.slice a7 m7 c7))):=(HB5.out.trans (HB65.out.mono HB5.out.size)).setCell (p:=⟨g1,k,none⟩) (by have e1:=HG1.out.1;have e2:=HBD2.out.size;show w.heap.size≤g1;omega) _
  have HX7 : Hid (Blk (w6.setCell ⟨g1,k,none⟩ (.slice a7 m7 c7)) w.heap.size #[.slice sa sn sc,.slice (some ⟨g,o,none⟩) q qc,.slice qb r d,.int .i64 p.within,.string (strB p.by_),.int .i64 p.pick,.slice va m vc,.int .i64 e.ts,.int .i64 e.dep,.int .i64 e.seq,.string (strB e.name),.slice ea en ec] 107):=(HX5.out.low HB65.out).at hwg _ _
  have HZ7 : Hid (Blk (w6.setCell ⟨g1,k,none⟩ (.slice a7 m7 c7)) (w.heap.size+1+1) #[.int .i64 0,.slice none 0 0] 59):=(HZ5.out.low HB65.out).at hzg _ _
  clear hr7 hput
  refine hK.out _ _ ⟨zau k0 hwg,zau k1 hwg,zau k2 hwg,zau k3 hwg,zau k4 hwg⟩ (fun hHeld=>?_)
  clear hK K
  try simp only [Act.put,rI,rZ,rS]
  refine wpAnyH_done (by kernel_rfl) ?_ _
  clear hHeld
  obtain ⟨w7,hw7⟩ : ∃ w7,w6.setCell ⟨g1,k,none⟩ (.slice a7 m7 c7)=w7:=⟨_,rfl⟩
  rw [hw7] at HROW HB7 HX7 HZ7
  (try rw [hw7])
  clear hw7
  have i0:=zab HX7.out (k:=0) rfl
  have i1:=zab HX7.out (k:=1) rfl
  have i2:=zab HX7.out (k:=2) rfl
  have i3:=zab HX7.out (k:=3) rfl
  have i4:=zab HX7.out (k:=4) rfl
  have i5:=zab HX7.out (k:=5) rfl
  have hca:=HALL.out w7 (some ⟨g1,0,none⟩) n c5 bw k (HROW.out.mono (fun _ h=>h.elim)) HKQ.out
  obtain ⟨za,hza⟩ : ∃ za,A bw k=za:=⟨_,rfl⟩
  rw [hza] at hca
  have HCA:=hid hca
  have HZA:=hid hza
  clear hca hza
  cases za with
  | false =>
    go_wp2_with (go_at_call 196;(with_reducible refine HCA.out.mono ?_);rintro en2 w8 ⟨rfl,hb8⟩;have HZ8:=hid (HZ7.out.low hb8);have HB8:=hid (HB7.out.trans (hb8.mono HB7.out.size));have HR8:=hid (HROW.out.low hb8);have z0:=zab HZ8.out (k:=0) rfl;have z1:=zab HZ8.out (k:=1) rfl;have fz0:=zac HZ8.out (k:=0);have fz1:=zac HZ8.out (k:=1);clear hb8)
    refine bodyPost_ret (v:=.tuple #[.agg #[.int .i64 0,.slice none 0 0],.bool false]) (by simp [results,Tryz.results159,go_sem,z0,z1]) rfl ?_
    have ho : ou=none:=by (have e:=HOU.out;rw [HZA.out] at e;exact e.symm)
    subst ho
    exact ⟨_,_,_,_,_,rfl,rfl,fun t ht=>(by cases ht),zhI (b:=w.heap.size+1+1) HB8.out (by omega) _ _⟩
  | true =>
    go_wp2_with (go_at_call 196;(with_reducible refine HCA.out.mono ?_);rintro en2 w8 ⟨rfl,hb8⟩;have HZ8:=hid (HZ7.out.low hb8);have HB8:=hid (HB7.out.trans (hb8.mono HB7.out.size));have HR8:=hid (HROW.out.low hb8);have z0:=zab HZ8.out (k:=0) rfl;have z1:=zab HZ8.out (k:=1) rfl;have fz0:=zac HZ8.out (k:=0);have fz1:=zac HZ8.out (k:=1);clear hb8)
    refine bodyPost_ret (v:=.tuple #[.agg #[.int .i64 k,.slice (some ⟨g1,0,none⟩) n c5],.bool true]) (by simp [results,Tryz.results159,go_sem,z0,z1]) rfl ?_
    have ho : ou=some ⟨(k : Int),bw⟩:=by (have e:=HOU.out;rw [HZA.out] at e;exact e.symm)
    subst ho
    refine ⟨_,_,_,_,_,rfl,rfl,fun t ht=>?_,zhI (b:=w.heap.size+1+1) HB8.out (by omega) _ _⟩
    obtain rfl : (⟨(k : Int),bw⟩ : PRun)=t:=by simpa using ht
    refine ⟨rfl,?_⟩
    exact ((HR8.out.set (b:=w.heap.size+1+1) HK0c.out _ _).set (b:=w.heap.size+1+1) HK0c.out _ _).mono HK0b.out
 case rb =>
  dsimp only [List.getElem_toArray,List.getElem_cons_succ,List.getElem_cons_zero]
  focus go_simp
  refine hK.out _ _ ⟨zad f0 _,zad f1 _,zad f2 _,zad f3 _,zad f4 _⟩ (fun hHeld=>?_)
  clear hK K
  try simp only [Act.put,rI,rZ,rS]
  refine rA 5 (h:=fun K hK=>?_)
  dsimp only [List.getElem_toArray,List.getElem_cons_succ,List.getElem_cons_zero]
  have mm2:=zad mm (.cells #[.int .i64 e.ts,.int .i64 e.dep,.int .i64 e.seq,.string (strB e.name),.slice ea en ec] 41)
  focus go_simp
  refine hK.out _ _ ⟨zad f0 _,zad f1 _,zad f2 _,zad f3 _,zad f4 _⟩ (fun hHeld=>?_)
  clear hK K
  try simp only [Act.put,rI,rZ,rS]
  refine rA 9 (h:=fun K hK=>?_)
  dsimp only [List.getElem_toArray,List.getElem_cons_succ,List.getElem_cons_zero]
  focus go_simp
  refine hK.out _ _ ⟨zad (zad f0 _) _,zad (zad f1 _) _,zad (zad f2 _) _,zad (zad f3 _) _,zad (zad f4 _) _⟩ (fun hHeld=>?_)
  clear hK K
  try simp only [Act.put,rI,rZ,rS]
  refine rA 10 (h:=fun K hK=>?_)
  dsimp only [List.getElem_toArray,List.getElem_cons_succ,List.getElem_cons_zero]
  go_simp
  go_at_call 195
  (with_reducible refine HCON4.out.mono ?_)
  rintro en2 w6 ⟨v6,css6,rfl,h6,hb6⟩
  obtain ⟨a7,c7,rfl⟩:=h6.slice
  obtain ⟨m7,hm7⟩ : ∃ m7,[row,[e]].flatten.length=m7:=⟨_,rfl⟩
  have HM7:=hid hm7
  rw [hm7] at h6 ⊢
  have hq1 : Below w5.heap.size w5 (wE.alloc (.cells #[.int .i64 e.ts,.int .i64 e.dep,.int .i64 e.seq,.string (strB e.name),.slice ea en ec] 41)):=HBE.out.alloc HBE.out.size _
  have hq2:=hq1.alloc hq1.size (.cells #[.slice a6 m6 c6,.slice (some ⟨wE.heap.size,0,none⟩) 1 1] 27)
  have hb65 : Below w5.heap.size w5 w6:=hq2.trans (hb6.mono hq2.size)
  have HB65:=hid hb65
  have H6:=hid h6
  have HQS : Hid (w5.heap.size≤((wE.alloc (.cells #[.int .i64 e.ts,.int .i64 e.dep,.int .i64 e.seq,.string (strB e.name),.slice ea en ec] 41)).alloc (.cells #[.slice a6 m6 c6,.slice (some ⟨wE.heap.size,0,none⟩) 1 1] 27)).heap.size):=hq2.size
  have hbE6 : Below wE.heap.size wE w6:=(((Below.refl wE.heap.size wE).alloc (Nat.le_refl _) _).alloc (by simp) _).trans (hb6.mono (by simp;omega))
  have k0:=zaa hbE6 f0
  have k1:=zaa hbE6 f1
  have k2:=zaa hbE6 f2
  have k3:=zaa hbE6 f3
  have k4:=zaa hbE6 f4
  have mk:=zaa hbE6 mm
  have mkf : w6.frozen? ⟨g1,k,none⟩=false:=zaB hbE6 mm mfE
  clear hbE6 hb65 hq1 hq2 hb6 h6 hm7 f0 f1 f2 f3 f4 mm
  go_wp2_with fail
  refine hK.out _ _ ⟨k0,k1,k2,k3,k4⟩ (fun hHeld=>?_)
  clear hK K
  try simp only [Act.put,rI,rZ,rS]
  refine rK 11 36 (h:=?_)
  try simp only [Act.put,rI,rZ,rS]
  refine rA 12 (h:=fun K hK=>?_)
  dsimp only [List.getElem_toArray,List.getElem_cons_succ,List.getElem_cons_zero]
  focus go_simp
  have hr7 : RowK evD (fun gg=>K0 gg∨(Value.slice (some ⟨g1,0,none⟩) n c5).ownBlock=some gg) (w6.setCell ⟨g1,k,none⟩ (.slice a7 m7 c7)) (.slice a7 m7 c7) (row++[e]):=by (have e1:=H6.out.row' (K':=fun gg=>K0 gg∨(Value.slice (some ⟨g1,0,none⟩) n c5).ownBlock=some gg) (fun gg hg=>.inl hg) (fun gg hg hk=>by have e1:=HK1.out gg hk;have e2:=(H6.out.own gg hg).1;have e3:=HQS.out;omega);have e2 : [row,[e]].flatten=row++[e]:=(by simp);rw [e2] at e1;exact e1.set (b:=g1) (.inr rfl) _ _)
  have hke : k*evsD.k+0=k:=(by show k*1+0=k;omega)
  have hput:=H5.out.put2 zbR (g:=g1) rfl (.inr rfl) (j:=k) (r:=0) (u:=.slice a7 m7 c7) HB65.out HCS.out (by decide) (x:=row++[e]) ⟨a7,c7,by rw [← HM7.out];simp,by have e3 : (row++[e]).length=m7:=(by rw [← HM7.out];simp);rw [e3,hke];exact hr7⟩
  rw [hke] at hput
  have HROW : Hid (RowK evsD K0 (w6.setCell ⟨g1,k,none⟩ (.slice a7 m7 c7)) (.slice (some ⟨g1,0,none⟩) n c5) bw):=by (rw [← HBW.out,HWI.out];exact hput.row' (fun gg hg=>.inl hg) (fun gg hg hk=>by have e1:=(H5.out.own gg hg).1;have e2:=HK0a.out gg hk;omega))
  have HB7 : Hid (Below w.heap.size w (w6.setCell ⟨g1,k,none⟩ (.slice a7 m7 c7))):=(HB5.out.trans (HB65.out.mono HB5.out.size)).setCell (p:=⟨g1,k,none⟩) (by have e1:=HG1.out.1;have e2:=HBD2.out.size;show w.heap.size≤g1;omega) _
  have HX7 : Hid (Blk (w6.setCell ⟨g1,k,none⟩ (.slice a7 m7 c7)) w.heap.size #[.slice sa sn sc,.slice (some ⟨g,o,none⟩) q qc,.slice qb r d,.int .i64 p.within,.string (strB p.by_),.int .i64 p.pick,.slice va m vc,.int .i64 e.ts,.int .i64 e.dep,.int .i64 e.seq,.string (strB e.name),.slice ea en ec] 107):=(HX5.out.low HB65.out).at hwg _ _
  have HZ7 : Hid (Blk (w6.setCell ⟨g1,k,none⟩ (.slice a7 m7 c7)) (w.heap.size+1+1) #[.int .i64 0,.slice none 0 0] 59):=(HZ5.out.low HB65.out).at hzg _ _
  clear hr7 hput
  refine hK.out _ _ ⟨zau k0 hwg,zau k1 hwg,zau k2 hwg,zau k3 hwg,zau k4 hwg⟩ (fun hHeld=>?_)
  clear hK K
  try simp only [Act.put,rI,rZ,rS]
  refine wpAnyH_done (by kernel_rfl) ?_ _
  clear hHeld
  obtain ⟨w7,hw7⟩ : ∃ w7,w6.setCell ⟨g1,k,none⟩ (.slice a7 m7 c7)=w7:=⟨_,rfl⟩
  rw [hw7] at HROW HB7 HX7 HZ7
  (try rw [hw7])
  clear hw7
  have i0:=zab HX7.out (k:=0) rfl
  have i1:=zab HX7.out (k:=1) rfl
  have i2:=zab HX7.out (k:=2) rfl
  have i3:=zab HX7.out (k:=3) rfl
  have i4:=zab HX7.out (k:=4) rfl
  have i5:=zab HX7.out (k:=5) rfl
  have hca:=HALL.out w7 (some ⟨g1,0,none⟩) n c5 bw k (HROW.out.mono (fun _ h=>h.elim)) HKQ.out
  obtain ⟨za,hza⟩ : ∃ za,A bw k=za:=⟨_,rfl⟩
  rw [hza] at hca
  have HCA:=hid hca
  have HZA:=hid hza
  clear hca hza
  cases za with
  | false =>
    go_wp2_with (go_at_call 196;(with_reducible refine HCA.out.mono ?_);rintro en2 w8 ⟨rfl,hb8⟩;have HZ8:=hid (HZ7.out.low hb8);have HB8:=hid (HB7.out.trans (hb8.mono HB7.out.size));have HR8:=hid (HROW.out.low hb8);have z0:=zab HZ8.out (k:=0) rfl;have z1:=zab HZ8.out (k:=1) rfl;have fz0:=zac HZ8.out (k:=0);have fz1:=zac HZ8.out (k:=1);clear hb8)
    refine bodyPost_ret (v:=.tuple #[.agg #[.int .i64 0,.slice none 0 0],.bool false]) (by simp [results,Tryz.results159,go_sem,z0,z1]) rfl ?_
    have ho : ou=none:=by (have e:=HOU.out;rw [HZA.out] at e;exact e.symm)
    subst ho
    exact ⟨_,_,_,_,_,rfl,rfl,fun t ht=>(by cases ht),zhI (b:=w.heap.size+1+1) HB8.out (by omega) _ _⟩
  | true =>
    go_wp2_with (go_at_call 196;(with_reducible refine HCA.out.mono ?_);rintro en2 w8 ⟨rfl,hb8⟩;have HZ8:=hid (HZ7.out.low hb8);have HB8:=hid (HB7.out.trans (hb8.mono HB7.out.size));have HR8:=hid (HROW.out.low hb8);have z0:=zab HZ8.out (k:=0) rfl;have z1:=zab HZ8.out (k:=1) rfl;have fz0:=zac HZ8.out (k:=0);have fz1:=zac HZ8.out (k:=1);clear hb8)
    refine bodyPost_ret (v:=.tuple #[.agg #[.int .i64 k,.slice (some ⟨g1,0,none⟩) n c5],.bool true]) (by simp [results,Tryz.results159,go_sem,z0,z1]) rfl ?_
    have ho : ou=some ⟨(k : Int),bw⟩:=by (have e:=HOU.out;rw [HZA.out] at e;exact e.symm)
    subst ho
    refine ⟨_,_,_,_,_,rfl,rfl,fun t ht=>?_,zhI (b:=w.heap.size+1+1) HB8.out (by omega) _ _⟩
    obtain rfl : (⟨(k : Int),bw⟩ : PRun)=t:=by simpa using ht
    refine ⟨rfl,?_⟩
    exact ((HR8.out.set (b:=w.heap.size+1+1) HK0c.out _ _).set (b:=w.heap.size+1+1) HK0c.out _ _).mono HK0b.out
end
theorem ComAt.ge {K : Nat→Prop} {W : World} {qa va ea : Option Addr} {q qc m vc en ec : Nat} {p : PQu} {e : PEv} (h : ComAt K W qa q qc va m vc ea en ec p e) : ComAt (fun g=>K g∨W.heap.size≤g) W qa q qc va m vc ea en ec p e:=⟨h.1.ge zhK (by decide),h.2.1.ge zge (by decide),h.2.2.ge zfV (by decide)⟩
theorem ComAt.mono {K K' : Nat→Prop} {W : World} {qa va ea : Option Addr} {q qc m vc en ec : Nat} {p : PQu} {e : PEv} (h : ComAt K W qa q qc va m vc ea en ec p e) (hs : ∀ g,K' g→K g) : ComAt K' W qa q qc va m vc ea en ec p e:=⟨h.1.mono hs,h.2.1.mono hs,h.2.2.mono hs⟩
theorem ziM (W : World) (a b : Option Addr) (n m c d : Nat) (f : Bool) : (Instr.field 101 (.agg #[.slice a n c,.slice b m d,.bool f]) 0).run Tryz.prog W=.ok (.slice a n c) W:=by kernel_rfl
theorem ziN (W : World) (a b : Option Addr) (n m c d : Nat) (f : Bool) : (Instr.field 101 (.agg #[.slice a n c,.slice b m d,.bool f]) 1).run Tryz.prog W=.ok (.slice b m d) W:=by kernel_rfl
def TnTo (K : Nat→Prop) (l : List PRun) (w : World) (en : Ending) (w' : World) : Prop:=∃ v css,en=.returned v∧OwnG runD (fun g=>K g∨v.ownBlock=some g) w' w.heap.size 59 v l css∧Below w.heap.size w w'
section
variable {K : Nat→Prop} {w : World} {sa qa qb va ea : Option Addr} {sn sc qc r d vc ec q m en : Nat} {p : PQu} {e : PEv} {a : Option Addr} {n c : Nat} {A : List (List PEv)→Nat→Bool} {b : List (List PEv)}
theorem zcN (hall : AllSaid A sa sn sc qa q qc qb r d p) (h : ComAt K w qa q qc va m vc ea en ec p e) (hK : ∀ g,K g→g < w.heap.size) (hb : RowK evsD K w (.slice a n c) b) (hbn : b.length=q) (hys : ∀ y∈p.its,y.ns.length≤1000000) (hq6 : q≤6) (hbs : ∀ l∈b,l.length≤100000) (hnm : e.name.length≤maxLen) {pl : Int} {i : Nat} (hpl : pl+1=i) (hi : i≤1000000) {s : PSt} (hs : (stsN p.its)[i]?=some s) (hnx : ∀ k∈s.nx,k < q) (hnl : s.nx.length≤1000) : Calls Tryz.prog 95 #[.agg #[.slice sa sn sc,.slice qa q qc,.slice qb r d,.int .i64 p.within,.string (strB p.by_),.int .i64 p.pick,.slice va m vc,.int .i64 e.ts,.int .i64 e.dep,.int .i64 e.seq,.string (strB e.name),.slice ea en ec],.agg #[.int .i64 pl,.slice a n c]] w (TnTo K (s.nx.filterMap (takesP A p.its e b)) w):=by
 have hal:=fun (W : World) (o : Obj)=>(Below.refl W.heap.size W).alloc (Nat.le_refl _) o
 have hb0:=hal w (.cells #[.slice sa sn sc,.slice qa q qc,.slice qb r d,.int .i64 p.within,.string (strB p.by_),.int .i64 p.pick,.slice va m vc,.int .i64 e.ts,.int .i64 e.dep,.int .i64 e.seq,.string (strB e.name),.slice ea en ec] 107)
 have hb1:=hb0.alloc hb0.size (.cells #[.int .i64 pl,.slice a n c] 59)
 have hX:=(Blk.new w #[.slice sa sn sc,.slice qa q qc,.slice qb r d,.int .i64 p.within,.string (strB p.by_),.int .i64 p.pick,.slice va m vc,.int .i64 e.ts,.int .i64 e.dep,.int .i64 e.seq,.string (strB e.name),.slice ea en ec] 107).low (hal _ (.cells #[.int .i64 pl,.slice a n c] 59))
 have hY:=Blk.new (w.alloc (.cells #[.slice sa sn sc,.slice qa q qc,.slice qb r d,.int .i64 p.within,.string (strB p.by_),.int .i64 p.pick,.slice va m vc,.int .i64 e.ts,.int .i64 e.dep,.int .i64 e.seq,.string (strB e.name),.slice ea en ec] 107)) #[.int .i64 pl,.slice a n c] 59
 rw [show (w.alloc (.cells #[.slice sa sn sc,.slice qa q qc,.slice qb r d,.int .i64 p.within,.string (strB p.by_),.int .i64 p.pick,.slice va m vc,.int .i64 e.ts,.int .i64 e.dep,.int .i64 e.seq,.string (strB e.name),.slice ea en ec] 107)).heap.size=w.heap.size+1 by simp] at hY
 obtain ⟨wB,hwB⟩ : ∃ wB,(w.alloc (.cells #[.slice sa sn sc,.slice qa q qc,.slice qb r d,.int .i64 p.within,.string (strB p.by_),.int .i64 p.pick,.slice va m vc,.int .i64 e.ts,.int .i64 e.dep,.int .i64 e.seq,.string (strB e.name),.slice ea en ec] 107)).alloc (.cells #[.int .i64 pl,.slice a n c] 59)=wB:=⟨_,rfl⟩
 rw [hwB] at hb1 hX hY
 have hst:=zbi (sa:=sa) (sn:=sn) (sc:=sc) (qb:=qb) (r:=r) (d:=d) (a:=a) (n:=n) (c:=c) (h.low hb1) hpl hi hs
 have HST:=hid hst
 have HX:=hid hX
 have HY:=hid hY
 have HB1:=hid hb1
 have HNX:=hid hnx
 obtain ⟨nx,hnxl⟩ : ∃ nx,s.nx=nx:=⟨_,rfl⟩
 obtain ⟨zl,hzl⟩ : ∃ zl,nx.length=zl:=⟨_,rfl⟩
 rw [hnxl] at HNX hnl ⊢
 rw [hzl] at hnl
 have HZL:=hid hzl
 have HTK : Hid (∀ (W : World) (K' : Nat→Prop) (k : Nat),Below w.heap.size w W→(∀ g,K' g→K g∨w.heap.size≤g)→(∀ g,K' g→g < W.heap.size)→k∈nx→Calls Tryz.prog 159 #[.agg #[.slice sa sn sc,.slice qa q qc,.slice qb r d,.int .i64 p.within,.string (strB p.by_),.int .i64 p.pick,.slice va m vc,.int .i64 e.ts,.int .i64 e.dep,.int .i64 e.seq,.string (strB e.name),.slice ea en ec],.agg #[.int .i64 pl,.slice a n c],.int .i64 k] W (TkTo K' (takesP A p.its e b k) W)):=fun W K' k hW hK1 hK2 hk=>by
  have hkq:=HNX.out k hk
  have hqq : q=p.its.length:=h.1.len
  obtain ⟨y,hy⟩ : ∃ y,p.its[k]?=some y:=⟨_,List.getElem?_eq_getElem (by omega)⟩
  exact zcO hall ((h.ge.low hW).mono hK1) hK2 (((hb.ge zbR (by decide)).low hW).mono hK1) hbn hy (hys y (List.mem_of_getElem? hy)) hq6 hbs hnm pl
 have hfd:=ziM
 have HKK:=hid hK
 have HSL:=hid hnxl
 have x0:=zab hX (k:=0) rfl
 have x1:=zab hX (k:=1) rfl
 have x2:=zab hX (k:=2) rfl
 have x3:=zab hX (k:=3) rfl
 have x4:=zab hX (k:=4) rfl
 have x5:=zab hX (k:=5) rfl
 have x6:=zab hX (k:=6) rfl
 have x7:=zab hX (k:=7) rfl
 have x8:=zab hX (k:=8) rfl
 have x9:=zab hX (k:=9) rfl
 have x10:=zab hX (k:=10) rfl
 have x11:=zab hX (k:=11) rfl
 have y0:=zab hY (k:=0) rfl
 have y1:=zab hY (k:=1) rfl
 clear hall h hK hb hbn hys hq6 hbs hnm hpl hi hs hnx hal hb0 hb1 hX hY hst hnxl hzl
 go_enter Tryz.func95,Tryz.ntmps95
 go_wp2_with (go_at_call 158;(with_reducible refine HST.out.mono ?_);rintro en2 w4 ⟨a1,c1,a2,c2,rfl,hr1,hr2,hb4⟩;have HR1:=hid hr1;have HX4:=hid (HX.out.low hb4);have HY4:=hid (HY.out.low hb4);have HB4:=hid (HB1.out.trans (hb4.mono HB1.out.size));clear hr1 hr2 hb4 y0 y1 x0 x1 x2 x3 x4 x5 x6 x7 x8 x9 x10 x11 hwB)
 rw [HSL.out] at HR1
 (try rw [HSL.out])
 obtain ⟨an,cn,han⟩ : ∃ an cn,(an,cn)=(a1,c1):=⟨_,_,rfl⟩
 injection han with han hcn
 subst han hcn
 rw [HZL.out] at HR1
 (try rw [HZL.out])
 go_wp2
 have HO0 : Hid (∃ css,OwnG runD (fun g=>K g∨(Value.slice none 0 0).ownBlock=some g) w4 w4.heap.size 59 (.slice none 0 0) ((nx.take 0).filterMap (takesP A p.its e b)) css):=⟨[],OwnG.nil⟩
 have HBI : Hid (Below w4.heap.size w4 w4):=Below.refl _ _
 go_loopw [5,15] (fun v i wr=>∃ j : Nat,i=.int .i64 j∧j≤zl∧Hid (∃ css,OwnG runD (fun g=>K g∨v.ownBlock=some g) wr w4.heap.size 59 v ((nx.take j).filterMap (takesP A p.its e b)) css)∧Hid (Below w4.heap.size w4 wr)) (fun _ i _=>zl - (RowKit.intOf i).toNat)
 case atStart=>exact ⟨0,rfl,Nat.zero_le _,HO0,HBI⟩
 case round =>
  clear HO0 HBI
  obtain ⟨j,rfl,hj,HO,HB⟩:=hrel
  obtain ⟨css,ho⟩:=HO.out
  obtain ⟨v1,v2,rfl⟩:=ho.slice
  obtain ⟨ln,hln⟩ : ∃ ln,((nx.take j).filterMap (takesP A p.its e b)).length=ln:=⟨_,rfl⟩
  have hlnb : ln≤1000:=by
   rw [← hln]
   refine Nat.le_trans (List.length_filterMap_le _ _) ?_
   rw [List.length_take]
   omega
  have HLN:=hid hln
  by_cases hlt : j < zl
  ·obtain ⟨k,hk⟩ : ∃ k,nx[j]?=some k:=⟨_,List.getElem?_eq_getElem (by rw [HZL.out];exact hlt)⟩
   have hbr:=HB4.out.trans (HB.out.mono HB4.out.size)
   obtain ⟨gn,on,rfl,hc⟩:=RowK.numAt (HR1.out.low HB.out) hk
   have hxr:=HX4.out.low HB.out
   have hyr:=HY4.out.low HB.out
   have x0:=zab hxr (k:=0) rfl
   have x1:=zab hxr (k:=1) rfl
   have x2:=zab hxr (k:=2) rfl
   have x3:=zab hxr (k:=3) rfl
   have x4:=zab hxr (k:=4) rfl
   have x5:=zab hxr (k:=5) rfl
   have x6:=zab hxr (k:=6) rfl
   have x7:=zab hxr (k:=7) rfl
   have x8:=zab hxr (k:=8) rfl
   have x9:=zab hxr (k:=9) rfl
   have x10:=zab hxr (k:=10) rfl
   have x11:=zab hxr (k:=11) rfl
   have y0:=zab hyr (k:=0) rfl
   have y1:=zab hyr (k:=1) rfl
   have htk:=HTK.out wr (fun g=>K g∨(Value.slice v1 ((nx.take j).filterMap (takesP A p.its e b)).length v2).ownBlock=some g) k hbr (fun g hg=>hg.imp id (fun hh=>by have:=(ho.own g hh).1;have:=HB4.out.size;omega)) (fun g hg=>hg.elim (fun hh=>Nat.lt_of_lt_of_le (HKK.out g hh) hbr.size) (fun hh=>(ho.own g hh).2)) (List.mem_of_getElem? hk)
   obtain ⟨ot,hot⟩ : ∃ ot,takesP A p.its e b k=ot:=⟨_,rfl⟩
   have HTAKE : Hid ((nx.take (j+1)).filterMap (takesP A p.its e b)=(nx.take j).filterMap (takesP A p.its e b)++ot.toList):=by
    show _=_
    rw [List.take_add_one,hk,Option.toList_some,List.filterMap_append,List.filterMap_cons,hot]
    cases ot <;> rfl
   rw [hot] at htk
   rw [hln] at htk
   have HTKC:=hid htk
   have HOW:=hid ho
   have hi0 : (0 : Int)≤(j : Int):=by omega
   have hi1 : (j : Int) < (zl : Int):=by omega
   have HBR:=hid hbr
   clear hk hxr hyr htk hot ho HO hbr
   rw [hln]
   cases ot with
   | none =>
     go_wp2_with (go_at_call 159;(with_reducible refine HTKC.out.mono ?_);rintro en2 w5 ⟨pl5,a5,n5,c5,z5,rfl,rfl,_,hb5⟩;have HB5:=hid hb5;clear hb5)
     have HBA : Hid (Below wr.heap.size wr (w5.alloc (.cells #[.int .i64 pl5,.slice a5 n5 c5] 59))):=HB5.out.alloc HB5.out.size _
     have HN : Hid (∃ css,OwnG runD (fun g=>K g∨(Value.slice v1 ln v2).ownBlock=some g) (w5.alloc (.cells #[.int .i64 pl5,.slice a5 n5 c5] 59)) w4.heap.size 59 (.slice v1 ln v2) ((nx.take (j+1)).filterMap (takesP A p.its e b)) css):=by
      rw [HTAKE.out,Option.toList_none,List.append_nil]
      have e1:=HOW.out.low HBA.out
      rw [HLN.out] at e1
      exact ⟨css,e1⟩
     have HBN : Hid (Below w4.heap.size w4 (w5.alloc (.cells #[.int .i64 pl5,.slice a5 n5 c5] 59))):=HB.out.trans (HBA.out.mono HB.out.size)
     go_roundw
     case rel=>exact ⟨j+1,by go_num,by omega,HN,HBN⟩
     case measure=>simp [RowKit.intOf];omega
   | some t =>
     have HAPP : Hid (∀ (w5 : World) (pl5 : Int) (a5 : Option Addr) (n5 c5 : Nat),pl5=t.place→RowK evsD (fun g=>K g∨(Value.slice v1 ln v2).ownBlock=some g) w5 (.slice a5 n5 c5) t.bound→Below wr.heap.size wr w5 →
      ∃ a9 c9 w9,(Builtin.append_ #[48,48] 48 #[.slice v1 ln v2,.slice (some ⟨w5.heap.size+1,0,none⟩) 1 1]).run Tryz.prog ((w5.alloc (.cells #[.int .i64 pl5,.slice a5 n5 c5] 59)).alloc (.cells #[.int .i64 pl5,.slice a5 n5 c5] 59))=.ok (.slice a9 (ln+1) c9) w9∧Hid (∃ css,OwnG runD (fun g=>K g∨(Value.slice a9 (ln+1) c9).ownBlock=some g) w9 w4.heap.size 59 (.slice a9 (ln+1) c9) ((nx.take (j+1)).filterMap (takesP A p.its e b)) css)∧Hid (Below w4.heap.size w4 w9)):=fun w5 pl5 a5 n5 c5 hp hr hb5=>by
      have hba:=(hb5.alloc hb5.size (.cells #[.int .i64 pl5,.slice a5 n5 c5] 59))
      have hba2:=hba.alloc hba.size (.cells #[.int .i64 pl5,.slice a5 n5 c5] 59)
      have hal:=fun (W : World) (o : Obj)=>(Below.refl W.heap.size W).alloc (Nat.le_refl _) o
      have e1:=HOW.out.low hba2
      rw [HLN.out] at e1
      have hsz:=HB.out.size
      have hb5s:=hb5.size
      have hbl:=Blk.new (w5.alloc (.cells #[.int .i64 pl5,.slice a5 n5 c5] 59)) #[.int .i64 pl5,.slice a5 n5 c5] 59
      rw [show (w5.alloc (.cells #[.int .i64 pl5,.slice a5 n5 c5] 59)).heap.size=w5.heap.size+1 by simp] at hbl
      obtain rfl : n5=t.bound.length:=hr.len
      obtain ⟨v9,w9,hr9,h9,hg9,hd9⟩:=e1.append (ts:=48) (ty:=48) (z:=.agg #[.int .i64 0,.slice none 0 0]) (bytes:=32) Tryz.underlying48 runI rfl (by decide) (by decide) (fun g hg=>.inr hg) (by simp;omega) (by rw [HLN.out];omega) (x:=t) (cs:=[.int .i64 pl5,.slice a5 t.bound.length c5]) ⟨a5,c5,by rw [hp],(hr.low (hal _ _)).low (hal _ _)⟩ hbl
      obtain ⟨a9,c9,rfl⟩:=h9.slice
      rw [List.length_append,List.length_singleton,HLN.out] at h9 hr9
      refine ⟨a9,c9,w9,hr9,⟨css++[[.int .i64 pl5,.slice a5 t.bound.length c5]],?_⟩,(HB.out.trans (hba2.mono hsz)).grown hg9 (by simp;omega) (fun g hg=>(e1.own g hg).1)⟩
      rw [HTAKE.out]
      exact h9.mono (fun g hg=>hg.elim (fun hh=>.inl (.inl hh)) .inr)
     go_wp2_with (first
      | (go_at_call 159;(with_reducible refine HTKC.out.mono ?_);rintro en2 w5 ⟨pl5,a5,n5,c5,z5,rfl,rfl,hsome,hb5⟩;obtain ⟨hp5,hr5⟩:=hsome t rfl;obtain ⟨a9,c9,w9,hr9,HN,HBN⟩:=HAPP.out w5 pl5 a5 n5 c5 hp5 hr5 hb5;clear hsome hb5 hr5 hp5)
      | (at_builtin;refine Lib.wpList_append_run _ rfl _ _ _ _ rfl _ _ rfl rfl _ _ hr9 ?_;clear hr9))
     go_roundw
     case rel=>exact ⟨j+1,by go_num,by omega,HN,HBN⟩
     case measure=>simp [RowKit.intOf];omega
  ·have hjz : zl=j:=by omega
   subst hjz
   have htk : nx.take zl=nx:=by rw [← HZL.out,List.take_length]
   rw [htk] at ho HLN
   rw [htk]
   have HF:=hid (ho.base' HB4.out.size)
   have HBF:=hid (HB4.out.trans (HB.out.mono HB4.out.size))
   clear ho HO HB
   go_wp2
   go_ret
   exact ⟨_,css,rfl,HF.out,HBF.out⟩
theorem zdS (hall : AllSaid A sa sn sc qa q qc qb r d p) (h : ComAt K w qa q qc va m vc ea en ec p e) (hK : ∀ g,K g→g < w.heap.size) (hb : RowK evsD K w (.slice a n c) b) (hbn : b.length=q) (hys : ∀ y∈p.its,y.ns.length≤1000000) (hq6 : q≤6) (hbs : ∀ l∈b,l.length≤100000) (hnm : e.name.length≤maxLen) {pl : Int} {i : Nat} (hpl : pl+1=i) (hi : i≤1000000) {s : PSt} (hs : (stsN p.its)[i]?=some s) (hnx : ∀ k∈s.gd,k < q) (hnl : s.gd.length≤1000) : Calls Tryz.prog 157 #[.agg #[.slice sa sn sc,.slice qa q qc,.slice qb r d,.int .i64 p.within,.string (strB p.by_),.int .i64 p.pick,.slice va m vc,.int .i64 e.ts,.int .i64 e.dep,.int .i64 e.seq,.string (strB e.name),.slice ea en ec],.agg #[.int .i64 pl,.slice a n c]] w fun ed w'=>ed=.returned (.bool (s.gd.any fun k=>(takesP A p.its e b k).isSome))∧Below w.heap.size w w':=by
 have hal:=fun (W : World) (o : Obj)=>(Below.refl W.heap.size W).alloc (Nat.le_refl _) o
 have hb0:=hal w (.cells #[.slice sa sn sc,.slice qa q qc,.slice qb r d,.int .i64 p.within,.string (strB p.by_),.int .i64 p.pick,.slice va m vc,.int .i64 e.ts,.int .i64 e.dep,.int .i64 e.seq,.string (strB e.name),.slice ea en ec] 107)
 have hb1:=hb0.alloc hb0.size (.cells #[.int .i64 pl,.slice a n c] 59)
 have hX:=(Blk.new w #[.slice sa sn sc,.slice qa q qc,.slice qb r d,.int .i64 p.within,.string (strB p.by_),.int .i64 p.pick,.slice va m vc,.int .i64 e.ts,.int .i64 e.dep,.int .i64 e.seq,.string (strB e.name),.slice ea en ec] 107).low (hal _ (.cells #[.int .i64 pl,.slice a n c] 59))
 have hY:=Blk.new (w.alloc (.cells #[.slice sa sn sc,.slice qa q qc,.slice qb r d,.int .i64 p.within,.string (strB p.by_),.int .i64 p.pick,.slice va m vc,.int .i64 e.ts,.int .i64 e.dep,.int .i64 e.seq,.string (strB e.name),.slice ea en ec] 107)) #[.int .i64 pl,.slice a n c] 59
 rw [show (w.alloc (.cells #[.slice sa sn sc,.slice qa q qc,.slice qb r d,.int .i64 p.within,.string (strB p.by_),.int .i64 p.pick,.slice va m vc,.int .i64 e.ts,.int .i64 e.dep,.int .i64 e.seq,.string (strB e.name),.slice ea en ec] 107)).heap.size=w.heap.size+1 by simp] at hY
 obtain ⟨wB,hwB⟩ : ∃ wB,(w.alloc (.cells #[.slice sa sn sc,.slice qa q qc,.slice qb r d,.int .i64 p.within,.string (strB p.by_),.int .i64 p.pick,.slice va m vc,.int .i64 e.ts,.int .i64 e.dep,.int .i64 e.seq,.string (strB e.name),.slice ea en ec] 107)).alloc (.cells #[.int .i64 pl,.slice a n c] 59)=wB:=⟨_,rfl⟩
 rw [hwB] at hb1 hX hY
 have hst:=zbi (sa:=sa) (sn:=sn) (sc:=sc) (qb:=qb) (r:=r) (d:=d) (a:=a) (n:=n) (c:=c) (h.low hb1) hpl hi hs
 have HST:=hid hst
 have HX:=hid hX
 have HY:=hid hY
 have HB1:=hid hb1
 have HNX:=hid hnx
 obtain ⟨nx,hnxl⟩ : ∃ nx,s.gd=nx:=⟨_,rfl⟩
 obtain ⟨zl,hzl⟩ : ∃ zl,nx.length=zl:=⟨_,rfl⟩
 rw [hnxl] at HNX hnl ⊢
 obtain ⟨zr,hzr⟩ : ∃ zr,(nx.any fun k=>(takesP A p.its e b k).isSome)=zr:=⟨_,rfl⟩
 rw [hzr]
 have HZR:=hid hzr
 clear hzr
 rw [hzl] at hnl
 have HZL:=hid hzl
 have HTK : Hid (∀ (W : World) (K' : Nat→Prop) (k : Nat),Below w.heap.size w W→(∀ g,K' g→K g∨w.heap.size≤g)→(∀ g,K' g→g < W.heap.size)→k∈nx→Calls Tryz.prog 159 #[.agg #[.slice sa sn sc,.slice qa q qc,.slice qb r d,.int .i64 p.within,.string (strB p.by_),.int .i64 p.pick,.slice va m vc,.int .i64 e.ts,.int .i64 e.dep,.int .i64 e.seq,.string (strB e.name),.slice ea en ec],.agg #[.int .i64 pl,.slice a n c],.int .i64 k] W (TkTo K' (takesP A p.its e b k) W)):=fun W K' k hW hK1 hK2 hk=>by
  have hkq:=HNX.out k hk
  have hqq : q=p.its.length:=h.1.len
  obtain ⟨y,hy⟩ : ∃ y,p.its[k]?=some y:=⟨_,List.getElem?_eq_getElem (by omega)⟩
  exact zcO hall ((h.ge.low hW).mono hK1) hK2 (((hb.ge zbR (by decide)).low hW).mono hK1) hbn hy (hys y (List.mem_of_getElem? hy)) hq6 hbs hnm pl
 have hfd:=ziN
 have HKK:=hid hK
 have HSL:=hid hnxl
 have x0:=zab hX (k:=0) rfl
 have x1:=zab hX (k:=1) rfl
 have x2:=zab hX (k:=2) rfl
 have x3:=zab hX (k:=3) rfl
 have x4:=zab hX (k:=4) rfl
 have x5:=zab hX (k:=5) rfl
 have x6:=zab hX (k:=6) rfl
 have x7:=zab hX (k:=7) rfl
 have x8:=zab hX (k:=8) rfl
 have x9:=zab hX (k:=9) rfl
 have x10:=zab hX (k:=10) rfl
 have x11:=zab hX (k:=11) rfl
 have y0:=zab hY (k:=0) rfl
 have y1:=zab hY (k:=1) rfl
 clear hall h hK hb hbn hys hq6 hbs hnm hpl hi hs hnx hal hb0 hb1 hX hY hst hnxl hzl
 go_enter Tryz.func157,Tryz.ntmps157
 go_wp2_with (go_at_call 158;(with_reducible refine HST.out.mono ?_);rintro en2 w4 ⟨a1,c1,a2,c2,rfl,hr1,hr2,hb4⟩;have HR1:=hid hr2;have HX4:=hid (HX.out.low hb4);have HY4:=hid (HY.out.low hb4);have HB4:=hid (HB1.out.trans (hb4.mono HB1.out.size));clear hr1 hr2 hb4 y0 y1 x0 x1 x2 x3 x4 x5 x6 x7 x8 x9 x10 x11 hwB)
 rw [HSL.out] at HR1
 (try rw [HSL.out])
 obtain ⟨an,cn,han⟩ : ∃ an cn,(an,cn)=(a2,c2):=⟨_,_,rfl⟩
 injection han with han hcn
 subst han hcn
 rw [HZL.out] at HR1
 (try rw [HZL.out])
 go_wp2
 have HO0 : Hid (((nx.take 0).any fun k=>(takesP A p.its e b k).isSome)=false):=rfl
 have HBI : Hid (Below w4.heap.size w4 w4):=Below.refl _ _
 go_loopw [14] (fun i wr=>∃ j : Nat,i=.int .i64 j∧j≤zl∧Hid (((nx.take j).any fun k=>(takesP A p.its e b k).isSome)=false)∧Hid (Below w4.heap.size w4 wr)) (fun i _=>zl - (RowKit.intOf i).toNat)
 case atStart=>exact ⟨0,rfl,Nat.zero_le _,HO0,HBI⟩
 case round =>
  clear HO0 HBI
  obtain ⟨j,rfl,hj,HO,HB⟩:=hrel
  by_cases hlt : j < zl
  ·obtain ⟨k,hk⟩ : ∃ k,nx[j]?=some k:=⟨_,List.getElem?_eq_getElem (by rw [HZL.out];exact hlt)⟩
   have hbr:=HB4.out.trans (HB.out.mono HB4.out.size)
   obtain ⟨gn,on,rfl,hc⟩:=RowK.numAt (HR1.out.low HB.out) hk
   have hxr:=HX4.out.low HB.out
   have hyr:=HY4.out.low HB.out
   have x0:=zab hxr (k:=0) rfl
   have x1:=zab hxr (k:=1) rfl
   have x2:=zab hxr (k:=2) rfl
   have x3:=zab hxr (k:=3) rfl
   have x4:=zab hxr (k:=4) rfl
   have x5:=zab hxr (k:=5) rfl
   have x6:=zab hxr (k:=6) rfl
   have x7:=zab hxr (k:=7) rfl
   have x8:=zab hxr (k:=8) rfl
   have x9:=zab hxr (k:=9) rfl
   have x10:=zab hxr (k:=10) rfl
   have x11:=zab hxr (k:=11) rfl
   have y0:=zab hyr (k:=0) rfl
   have y1:=zab hyr (k:=1) rfl
   have htk:=HTK.out wr K k hbr (fun g hg=>.inl hg) (fun g hg=>Nat.lt_of_lt_of_le (HKK.out g hg) hbr.size) (List.mem_of_getElem? hk)
   obtain ⟨ot,hot⟩ : ∃ ot,takesP A p.its e b k=ot:=⟨_,rfl⟩
   have HTAKE : Hid (((nx.take (j+1)).any fun k=>(takesP A p.its e b k).isSome)=ot.isSome):=by
    show _=_
    rw [List.take_add_one,hk,Option.toList_some,List.any_append,HO.out,Bool.false_or]
    simp [hot]
   have HANY : Hid (ot.isSome=true→(nx.any fun k=>(takesP A p.its e b k).isSome)=true):=fun ht=>by
    rw [List.any_eq_true]
    exact ⟨k,List.mem_of_getElem? hk,by rw [hot];exact ht⟩
   rw [hot] at htk
   have HTKC:=hid htk
   have hi0 : (0 : Int)≤(j : Int):=by omega
   have hi1 : (j : Int) < (zl : Int):=by omega
   have HBR:=hid hbr
   clear hk hxr hyr htk hot HO hbr
   cases ot with
   | none =>
     go_wp2_with (go_at_call 159;(with_reducible refine HTKC.out.mono ?_);rintro en2 w5 ⟨pl5,a5,n5,c5,z5,rfl,rfl,_,hb5⟩;have HB5:=hid hb5;clear hb5)
     have HBN : Hid (Below w4.heap.size w4 (w5.alloc (.cells #[.int .i64 pl5,.slice a5 n5 c5] 59))):=HB.out.trans ((HB5.out.alloc HB5.out.size _).mono HB.out.size)
     go_roundw
     case rel=>exact ⟨j+1,by go_num,by omega,HTAKE,HBN⟩
     case measure=>simp [RowKit.intOf];omega
   | some t =>
     have HZT : Hid (true=zr):=by rw [← HZR.out];exact (HANY.out rfl).symm
     go_wp2_with (go_at_call 159;(with_reducible refine HTKC.out.mono ?_);rintro en2 w5 ⟨pl5,a5,n5,c5,z5,rfl,rfl,_,hb5⟩;have HB5:=hid hb5;clear hb5)
     go_ret
     exact ⟨zaJ HZT.out,HBR.out.trans ((HB5.out.alloc HB5.out.size _).mono HBR.out.size)⟩
  ·have hjz : zl=j:=by omega
   subst hjz
   have htk : nx.take zl=nx:=by rw [← HZL.out,List.take_length]
   rw [htk] at HO
   have HZT : Hid (false=zr):=by rw [← HZR.out];exact HO.out.symm
   have HBF:=hid (HB4.out.trans (HB.out.mono HB4.out.size))
   clear HO HB
   go_wp2
   go_ret
   exact ⟨zaJ HZT.out,HBF.out⟩
end
section
variable {sa qa ba : Option Addr} {sn sc q qc d bn bc : Nat} {qb : Option Addr} {w : World}
theorem zeK (g : Nat) (lb : Array Value) : Calls Tryz.prog 238 #[.func (.func g) #[] lb] w fun ed w'=>(∃ g lb,ed=.returned (.func (.func g) #[] lb))∧Below w.heap.size w w':=by
 have hmm:=@run_makeMap Tryz.prog
 go_enter Tryz.func238,Tryz.ntmps238
 go_wp2
 go_ret
 exact ⟨⟨_,_,rfl⟩,by repeat' (first|exact Below.refl _ _|refine Below.alloc ?_ (by simp <;> omega) _)⟩
theorem zeL (g : Nat) (lb : Array Value) : Calls Tryz.prog 239 #[.func (.func g) #[] lb] w fun ed w'=>(∃ g lb,ed=.returned (.func (.func g) #[] lb))∧Below w.heap.size w w':=by
 have hmm:=@run_makeMap Tryz.prog
 go_enter Tryz.func239,Tryz.ntmps239
 go_wp2
 go_ret
 exact ⟨⟨_,_,rfl⟩,by repeat' (first|exact Below.refl _ _|refine Below.alloc ?_ (by simp <;> omega) _)⟩
theorem asking_calls {wi pk : Int} {bs : ByteArray} {r : Nat} : Calls Tryz.prog 221 #[.slice sa sn sc,.agg #[.slice qa q qc,.slice qb r d,.int .i64 wi,.string bs,.int .i64 pk],.slice ba bn bc] w fun ed w'=>(∃ g1 l1 g2 l2,ed=.returned (.agg #[.slice ba bn bc,.func (.func g1) #[] l1,.func (.func g2) #[] l2]))∧Below w.heap.size w w':=by
 obtain ⟨W1,hW1⟩ : ∃ W1,((w.alloc (.cells #[.slice sa sn sc] 22)).alloc (.cells #[.slice qa q qc,.slice qb r d,.int .i64 wi,.string bs,.int .i64 pk] 26)).alloc (.cells #[.slice none 0 0,.nilFunc,.nilFunc] 259)=W1:=⟨_,rfl⟩
 have hb0 : Below w.heap.size w W1:=by rw [← hW1];exact (((Below.refl _ w).alloc (Nat.le_refl _) _).alloc (by simp) _).alloc (by simp only [World.size_alloc];omega) _
 have hx : Blk W1 (w.heap.size+1+1) #[.slice none 0 0,.nilFunc,.nilFunc] 259:=by
  rw [← hW1]
  have h1:=Blk.new ((w.alloc (.cells #[.slice sa sn sc] 22)).alloc (.cells #[.slice qa q qc,.slice qb r d,.int .i64 wi,.string bs,.int .i64 pk] 26)) #[.slice none 0 0,.nilFunc,.nilFunc] 259
  rw [World.size_alloc,World.size_alloc] at h1
  exact h1
 have HX:=hid hx
 have HB0:=hid hb0
 have HW1:=hid hW1
 clear hx hb0 hW1
 go_enter Tryz.func221,Tryz.ntmps221
 go_wp2_with (first
  | (go_at_call 238;rw [HW1.out];refine (zeK _ _).mono ?_;rintro e w1 ⟨⟨g1,l1,rfl⟩,hb1⟩
     have HB1:=hid hb1
     clear hb1)
  | (go_at_call 239;refine (zeL _ _).mono ?_;rintro e w2 ⟨⟨g2,l2,rfl⟩,hb2⟩
     have HB2 : Hid (Below W1.heap.size W1 w2):=HB1.out.trans (hb2.mono HB1.out.size)
     clear hb2 HB1
     have x0:=zab (HX.out.low HB2.out) (k:=0) rfl
     have x1:=zab (HX.out.low HB2.out) (k:=1) rfl
     have x2:=zab (HX.out.low HB2.out) (k:=2) rfl
     have f0:=zac (HX.out.low HB2.out) (k:=0)
     have f1:=zac (HX.out.low HB2.out) (k:=1)
     have f2:=zac (HX.out.low HB2.out) (k:=2)))
 obtain ⟨W4,hW4⟩ : ∃ W4,((w2.setCell ⟨w.heap.size+1+1,0,none⟩ (.slice ba bn bc)).setCell ⟨w.heap.size+1+1,1,none⟩ (.func (.func g1) #[] l1)).setCell ⟨w.heap.size+1+1,2,none⟩ (.func (.func g2) #[] l2)=W4:=⟨_,rfl⟩
 have hbk : Blk W4 (w.heap.size+1+1) #[.slice ba bn bc,.func (.func g1) #[] l1,.func (.func g2) #[] l2] 259:=by
  rw [← hW4]
  exact (((HX.out.low HB2.out).set 0 _ rfl).set 1 _ rfl).set 2 _ rfl
 have hbw : Below w.heap.size w W4:=by
  rw [← hW4]
  have h2 : Below w.heap.size w w2:=HB0.out.trans (HB2.out.mono HB0.out.size)
  exact ((h2.setCell (p:=⟨w.heap.size+1+1,0,none⟩) (show w.heap.size≤w.heap.size+1+1 by omega) _).setCell (p:=⟨w.heap.size+1+1,1,none⟩) (show w.heap.size≤w.heap.size+1+1 by omega) _).setCell (p:=⟨w.heap.size+1+1,2,none⟩) (show w.heap.size≤w.heap.size+1+1 by omega) _
 rw [hW4]
 have c0:=zab hbk (k:=0) rfl
 have c1:=zab hbk (k:=1) rfl
 have c2:=zab hbk (k:=2) rfl
 refine bodyPost_ret (v:=.agg #[.slice ba bn bc,.func (.func g1) #[] l1,.func (.func g2) #[] l2]) ?_ rfl ⟨⟨g1,l1,g2,l2,rfl⟩,hbw⟩
 simp [results,Tryz.results221,go_sem,c0,c1,c2]
theorem zfA (g : Nat) (lb : Array Value) : Calls Tryz.prog 199 #[.slice qb 0 d,.func (.func g) #[] lb] w fun ed w'=>ed=.returned (.int .i64 (-1))∧w'=w:=by
 go_enter Tryz.func199,Tryz.ntmps199
 go_wp2
 go_loopw [5,8] (fun _ i wr=>i=.int .i64 0∧wr=w) (fun _ _ _=>0)
 case atStart=>exact ⟨rfl,rfl⟩
 case round =>
  obtain ⟨rfl,rfl⟩:=hrel
  go_wp2
  go_ret
  exact ⟨rfl,rfl⟩
theorem zdd (g : Nat) (lb : Array Value) : Calls Tryz.prog 164 #[.slice qb 0 d,.func (.func g) #[] lb] w fun ed w'=>ed=.returned (.bool false)∧w'=w:=by
 go_enter Tryz.func164,Tryz.ntmps164
 go_wp2_with (go_at_call 199;refine (zfA _ _).mono ?_;rintro e w1 ⟨rfl,rfl⟩)
 go_ret
 exact ⟨rfl,rfl⟩
theorem zgL {wi pk k : Int} {bs : ByteArray} : Calls Tryz.prog 196 #[.slice sa sn sc,.agg #[.slice qa q qc,.slice qb 0 d,.int .i64 wi,.string bs,.int .i64 pk],.slice ba bn bc,.int .i64 k] w fun ed w'=>ed=.returned (.bool true)∧Below w.heap.size w w':=by
 obtain ⟨W1,hW1⟩ : ∃ W1,(w.alloc (.cells #[.slice qa q qc,.slice qb 0 d,.int .i64 wi,.string bs,.int .i64 pk] 26)).alloc (.cells #[.int .i64 k] 3)=W1:=⟨_,rfl⟩
 have hb0 : Below w.heap.size w W1:=by rw [← hW1];exact ((Below.refl _ w).alloc (Nat.le_refl _) _).alloc (by simp) _
 have hx : Blk W1 w.heap.size #[.slice qa q qc,.slice qb 0 d,.int .i64 wi,.string bs,.int .i64 pk] 26:=by
  rw [← hW1]
  exact (Blk.new w _ _).low ((Below.refl _ _).alloc (Nat.le_refl _) _)
 obtain ⟨x0,x1,x2,x3,x4⟩:=c5w hx
 have HX:=hid hx
 have HB0:=hid hb0
 have HW1:=hid hW1
 rw [← hW1] at x0 x1 x2 x3 x4
 clear hx hb0 hW1
 go_enter Tryz.func196,Tryz.ntmps196
 go_wp2_with (first
  | (go_at_call 221;rw [HW1.out];refine asking_calls.mono ?_;rintro e w1 ⟨⟨g1,l1,g2,l2,rfl⟩,hb1⟩
     have HB1:=hid hb1
     have hba:=(Below.refl w1.heap.size w1).alloc (Nat.le_refl _) (.cells #[.slice ba bn bc,.func (.func g1) #[] l1,.func (.func g2) #[] l2] 259)
     have z1:=zab ((HX.out.low hb1).low hba) (k:=1) rfl
     have HBA:=hid hba
     clear hb1 hba x0 x1 x2 x3 x4)
  | (go_at_call 164;refine (zdd _ _).mono ?_;rintro e w2 ⟨rfl,rfl⟩))
 go_ret
 exact ⟨rfl,(HB0.out.trans (HB1.out.mono HB0.out.size)).trans (HBA.out.mono (Nat.le_trans HB0.out.size HB1.out.size))⟩
end
theorem zch {sa : Option Addr} {sn sc : Nat} {qa : Option Addr} {q qc : Nat} {qb : Option Addr} {d : Nat} {p : PQu} : AllSaid (fun _ _=>true) sa sn sc qa q qc qb 0 d p:=fun _W _ba _bn _bc _B _k _ _=>zgL
end Go.Proofs.YtkmlfkbpcgkpaaaGreatDoor
