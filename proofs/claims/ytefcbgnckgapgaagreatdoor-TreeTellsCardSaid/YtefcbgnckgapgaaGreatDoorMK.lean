/- Queries: the document's Same. | Queries: what Deep holds in a round. | Queries: Deep. -/
import Derived.Test.YtefcbgnckgapgaaGreatDoorMI
import Derived.Test.YtefcbgnckgapgaaGreatDoorMJ
namespace Go.Proofs.YtefcbgnckgapgaaGreatDoor
open Go.RowKit Go.Lib Go.Op
def QBlk (w : World) (b : Nat) (t0 t1 t2 t3 t4 : Value) : Prop:=w.heap[b]?=some (.cells #[t0,t1,t2,t3,t4] 26 (0,0))
theorem QBlk.new (w : World) (t0 t1 t2 t3 t4 : Value) : QBlk (w.alloc (.cells #[t0,t1,t2,t3,t4] 26)) w.heap.size t0 t1 t2 t3 t4:=heap_alloc_new w _
def QLs (p : PQu) : Prop:=(∀ i∈p.its,i.ns.length≤maxLen)∧∀ x∈p.prs,XLn x.l∧XLn x.r
section
variable {w : World} {a b a' b' : Option Addr} {q c r d q' c' r' d' : Nat} {wi wi' pk pk' : Int} {by_ by_' : List UInt8}
set_option maxHeartbeats 4000000 in
set_option maxRecDepth 100000 in
theorem sq_no (h : ¬ (q=q'∧r=r'∧wi=wi'∧by_=by_'∧pk=pk')) :
 Calls Tryz.prog 7 #[.agg #[.slice a q c,.slice b r d,.int .i64 wi,.string (strB by_),.int .i64 pk],.agg #[.slice a' q' c',.slice b' r' d',.int .i64 wi',.string (strB by_'),.int .i64 pk']] w fun e w'=>e=.returned (.bool false)∧Below w.heap.size w w':=by
 have H:=hid h
 clear h
 go_enter Tryz.func7,Tryz.ntmps7
 go_wp2
 all_goals first
  | (go_ret;exact ⟨rfl,((Below.refl w.heap.size w).alloc (Nat.le_refl _) _).alloc (by simp) _⟩)
  | (exfalso;have H1:=H.out;simp_all [tB_list];omega)
  | (exfalso;have H1:=H.out;simp_all [tB_list])
end
set_option maxHeartbeats 4000000 in
set_option maxRecDepth 100000 in
theorem sq_step {K K' : Nat→Prop} {w : World} {a b a' b' : Option Addr} {q c r d c' d' : Nat} {wi pk : Int} {by_ : List UInt8} {its its' : List PIt} {prs prs' : List PPr} (hq : QuAt K w a q c b r d ⟨its,prs,wi,by_,pk⟩) (hq' : QuAt K' w a' q c' b' r d' ⟨its',prs',wi,by_,pk⟩) (h1 : its.length=q) (h2 : its'.length=q) (h3 : prs.length=r) (h4 : prs'.length=r) (lq : q≤maxLen) (lr : r≤maxLen) (hl : QLs ⟨its,prs,wi,by_,pk⟩) :
 Calls Tryz.prog 7 #[.agg #[.slice a q c,.slice b r d,.int .i64 wi,.string (strB by_),.int .i64 pk],.agg #[.slice a' q c',.slice b' r d',.int .i64 wi,.string (strB by_),.int .i64 pk]] w fun e w'=>e=.returned (.bool (sameB (PQu.mk its prs wi by_ pk) (PQu.mk its' prs' wi by_ pk)))∧Below w.heap.size w w':=by
 obtain ⟨z,hz⟩ : ∃ z,sameB (PQu.mk its prs wi by_ pk) (PQu.mk its' prs' wi by_ pk)=z:=⟨_,rfl⟩
 rw [hz]
 have HZ:=hid hz
 have HQ : Hid (RowK itemD K w (.slice a q c) its∧RowK predD K w (.slice b r d) prs):=hq
 have HQ' : Hid (RowK itemD K' w (.slice a' q c') its'∧RowK predD K' w (.slice b' r d') prs'):=hq'
 have HL : Hid ((∀ i∈its,i.ns.length≤maxLen)∧∀ x∈prs,XLn x.l∧XLn x.r):=hl
 obtain ⟨sb,hsb⟩ : ∃ s,strB by_=s:=⟨_,rfl⟩
 rw [hsb]
 have H1:=hid h1
 have H2:=hid h2
 have H3:=hid h3
 have H4:=hid h4
 have HB0:=hid (((Below.refl w.heap.size w).alloc (Nat.le_refl _) (.cells #[.slice a q c,.slice b r d,.int .i64 wi,.string sb,.int .i64 pk] 26)).alloc (by simp) (.cells #[.slice a' q c',.slice b' r d',.int .i64 wi,.string sb,.int .i64 pk] 26))
 have HX1 : Hid (QBlk ((w.alloc (.cells #[.slice a q c,.slice b r d,.int .i64 wi,.string sb,.int .i64 pk] 26)).alloc (.cells #[.slice a' q c',.slice b' r d',.int .i64 wi,.string sb,.int .i64 pk] 26)) w.heap.size (.slice a q c) (.slice b r d) (.int .i64 wi) (.string sb) (.int .i64 pk)):=(((Below.refl (w.alloc (.cells #[.slice a q c,.slice b r d,.int .i64 wi,.string sb,.int .i64 pk] 26)).heap.size (w.alloc (.cells #[.slice a q c,.slice b r d,.int .i64 wi,.string sb,.int .i64 pk] 26))).alloc (Nat.le_refl _) (.cells #[.slice a' q c',.slice b' r d',.int .i64 wi,.string sb,.int .i64 pk] 26)).block w.heap.size (by simp)).trans (QBlk.new w (.slice a q c) (.slice b r d) (.int .i64 wi) (.string sb) (.int .i64 pk))
 have HX2 : Hid (QBlk ((w.alloc (.cells #[.slice a q c,.slice b r d,.int .i64 wi,.string sb,.int .i64 pk] 26)).alloc (.cells #[.slice a' q c',.slice b' r d',.int .i64 wi,.string sb,.int .i64 pk] 26)) (w.heap.size+1) (.slice a' q c') (.slice b' r d') (.int .i64 wi) (.string sb) (.int .i64 pk)):=by
  have h9:=QBlk.new (w.alloc (.cells #[.slice a q c,.slice b r d,.int .i64 wi,.string sb,.int .i64 pk] 26)) (.slice a' q c') (.slice b' r d') (.int .i64 wi) (.string sb) (.int .i64 pk)
  have e9 : (w.alloc (.cells #[.slice a q c,.slice b r d,.int .i64 wi,.string sb,.int .i64 pk] 26)).heap.size=w.heap.size+1:=by simp
  rw [e9] at h9
  exact h9
 unfold maxLen at lq lr
 clear hz hsb h1 h2 h3 h4 hq hq' hl
 go_enter Tryz.func7,Tryz.ntmps7
 go_wp2
 go_loopw [5] (fun i wr=>∃ (j : Nat),i=.int .i64 j∧j≤q∧Hid (its.take j=its'.take j)∧Hid (Below (w.heap.size+2) ((w.alloc (.cells #[.slice a q c,.slice b r d,.int .i64 wi,.string sb,.int .i64 pk] 26)).alloc (.cells #[.slice a' q c',.slice b' r d',.int .i64 wi,.string sb,.int .i64 pk] 26)) wr)) (fun i _=>q - (RowKit.intOf i).toNat)
 case atStart=>exact ⟨0,rfl,Nat.zero_le _,rfl,Below.refl _ _⟩
 case round =>
  obtain ⟨j,rfl,hj,HG,HB⟩:=hrel
  have hx1:=(HB.out.block w.heap.size (by omega)).trans HX1.out
  have hx2:=(HB.out.block (w.heap.size+1) (by omega)).trans HX2.out
  have x0:=tcell hx1 (k:=0) rfl
  have y0:=tcell hx2 (k:=0) rfl
  have HBw:=hid (HB0.out.trans (HB.out.mono (by omega)))
  have hsz : w.heap.size+2≤wr.heap.size:=by
   have:=HB.out.size
   simpa using this
  by_cases hlt : j < q
  ·obtain ⟨y,hy⟩ : ∃ y,its[j]?=some y:=⟨_,List.getElem?_eq_getElem (by rw [H1.out];exact hlt)⟩
   obtain ⟨u,hu⟩ : ∃ u,its'[j]?=some u:=⟨_,List.getElem?_eq_getElem (by rw [H2.out];exact hlt)⟩
   obtain ⟨g,o,a1,c1,rfl,e0,e1,e2,e3,hk1⟩:=HQ.out.1.itemAt hy
   obtain ⟨g',o',a2,c2,rfl,i0,i1,i2,i3,hk2⟩:=HQ'.out.1.itemAt hu
   have HC:=sameI_calls (w:=wr.drew) y u (hk1.keep (TFr.of_below (K:=K) (vbelow_drew HBw.out))) (hk2.keep (TFr.of_below (K:=K') (vbelow_drew HBw.out))) (HL.out.1 y (List.mem_of_getElem? hy))
   obtain ⟨n1,hn1⟩ : ∃ n1,y.ns.length=n1:=⟨_,rfl⟩
   obtain ⟨n2,hn2⟩ : ∃ n2,u.ns.length=n2:=⟨_,rfl⟩
   rw [hn1] at e1
   rw [hn2] at i1
   rw [hn1,hn2] at HC
   have x0 : wr.drew.cell? _=_:=x0
   have y0 : wr.drew.cell? _=_:=y0
   have d0 : wr.drew.cell? _=_:=tkeep HBw.out e0
   have f0 : wr.drew.cell? _=_:=tkeep HBw.out i0
   have d1 : wr.drew.cell? _=_:=tkeep HBw.out e1
   have f1 : wr.drew.cell? _=_:=tkeep HBw.out i1
   have d2 : wr.drew.cell? _=_:=tkeep HBw.out e2
   have f2 : wr.drew.cell? _=_:=tkeep HBw.out i2
   have d3 : wr.drew.cell? _=_:=tkeep HBw.out e3
   have f3 : wr.drew.cell? _=_:=tkeep HBw.out i3
   have HY:=hid hy
   have HU:=hid hu
   cases hr : sameB y u with
   | true =>
     rw [hr] at HC
     have HC:=hid HC
     have HN : Hid (its.take (j+1)=its'.take (j+1)):=by
      show _=_
      have hyu : y=u:=sameB_of hr
      rw [List.take_add_one,List.take_add_one,HY.out,HU.out,HG.out,hyu]
     clear hy hu hn1 hn2 hk1 hk2 e0 e1 e2 e3 i0 i1 i2 i3 hx1 hx2 hr
     go_wp2_with fail
     refine wp_region_held_drew (S:=fun W=>W.cell? ⟨w.heap.size,0,none⟩=some (.slice (some ⟨g,o,none⟩) q c)∧W.cell? ⟨w.heap.size+1,0,none⟩=some (.slice (some ⟨g',o',none⟩) q c')∧W.cell? ⟨g,o+j*4,none⟩=some (.bool y.no)∧W.cell? ⟨g,o+j*4+1,none⟩=some (.slice a1 n1 c1)∧W.cell? ⟨g,o+j*4+2,none⟩=some (.string (strB y.x))∧W.cell? ⟨g,o+j*4+3,none⟩=some (.int .i64 y.mode)∧W.cell? ⟨g',o'+j*4,none⟩=some (.bool u.no)∧W.cell? ⟨g',o'+j*4+1,none⟩=some (.slice a2 n2 c2)∧W.cell? ⟨g',o'+j*4+2,none⟩=some (.string (strB u.x))∧W.cell? ⟨g',o'+j*4+3,none⟩=some (.int .i64 u.mode)) (by kernel_rfl) ⟨x0,y0,d0,d1,d2,d3,f0,f1,f2,f3⟩ (fun hHeld=>?_)
     refine tK 0 51 (h:=?_)
     try simp only [Act.put,sI,sZ,sS]
     refine tK 1 52 (h:=?_)
     try simp only [Act.put,sI,sZ,sS]
     refine tK 2 53 (h:=?_)
     try simp only [Act.put,sI,sZ,sS]
     refine tK 3 54 (h:=?_)
     try simp only [Act.put,sI,sZ,sS]
     refine tK 4 55 (h:=?_)
     try simp only [Act.put,sI,sZ,sS]
     refine tK 5 56 (h:=?_)
     try simp only [Act.put,sI,sZ,sS]
     refine tK 6 57 (h:=?_)
     try simp only [Act.put,sI,sZ,sS]
     refine tK 7 58 (h:=?_)
     try simp only [Act.put,sI,sZ,sS]
     refine tK 8 59 (h:=?_)
     try simp only [Act.put,sI,sZ,sS]
     refine tK 9 60 (h:=?_)
     try simp only [Act.put,sI,sZ,sS]
     refine wpAnyH_ready (rs:=[10]) (by kernel_rfl) (by simp) ?_
     refine AllReadyH.cons (o:=_) rfl (fun K hK=>?_) AllReadyH.nil
     dsimp only [List.getElem_toArray,List.getElem_cons_succ,List.getElem_cons_zero]
     go_simp
     go_at_call 16
     (with_reducible refine HC.out.mono ?_)
     rintro e w1 ⟨rfl,hb1⟩
     have HB1:=hid ((below_drew2 HB.out).trans (hb1.mono (show _≤wr.drew.heap.size from hsz)))
     have qx0:=tkeep hb1 x0
     have qy0:=tkeep hb1 y0
     have qd0:=tkeep hb1 d0
     have qd1:=tkeep hb1 d1
     have qd2:=tkeep hb1 d2
     have qd3:=tkeep hb1 d3
     have qf0:=tkeep hb1 f0
     have qf1:=tkeep hb1 f1
     have qf2:=tkeep hb1 f2
     have qf3:=tkeep hb1 f3
     clear hb1
     go_wp2_with fail
     refine hK.out _ _ ⟨qx0,qy0,qd0,qd1,qd2,qd3,qf0,qf1,qf2,qf3⟩ (fun hHelda0=>?_)
     clear hK K
     try simp only [Act.put,sI,sZ,sS]
     refine tK 11 62 (h:=?_)
     try simp only [Act.put,sI,sZ,sS]
     refine wpAnyH_done (by kernel_rfl) ?_ _
     go_wp2_with fail
     go_roundw
     case rel=>exact ⟨j+1,by go_num,by omega,HN,HB1⟩
     case measure=>simp [RowKit.intOf];omega
   | false =>
     rw [hr] at HC
     have HC:=hid HC
     have HE : Hid (z=false):=by
      show _=_
      rw [← HZ.out]
      refine sameB_no (fun e=>?_)
      injection e with e1 e2
      have hyu : y=u:=by
       have h3:=HY.out
       have h4:=HU.out
       rw [e1,h4] at h3
       exact (Option.some.inj h3).symm
      rw [sameB_yes hyu] at hr
      cases hr
     clear hy hu hn1 hn2 hk1 hk2 e0 e1 e2 e3 i0 i1 i2 i3 hx1 hx2 hr
     go_wp2_with fail
     refine wp_region_held_drew (S:=fun W=>W.cell? ⟨w.heap.size,0,none⟩=some (.slice (some ⟨g,o,none⟩) q c)∧W.cell? ⟨w.heap.size+1,0,none⟩=some (.slice (some ⟨g',o',none⟩) q c')∧W.cell? ⟨g,o+j*4,none⟩=some (.bool y.no)∧W.cell? ⟨g,o+j*4+1,none⟩=some (.slice a1 n1 c1)∧W.cell? ⟨g,o+j*4+2,none⟩=some (.string (strB y.x))∧W.cell? ⟨g,o+j*4+3,none⟩=some (.int .i64 y.mode)∧W.cell? ⟨g',o'+j*4,none⟩=some (.bool u.no)∧W.cell? ⟨g',o'+j*4+1,none⟩=some (.slice a2 n2 c2)∧W.cell? ⟨g',o'+j*4+2,none⟩=some (.string (strB u.x))∧W.cell? ⟨g',o'+j*4+3,none⟩=some (.int .i64 u.mode)) (by kernel_rfl) ⟨x0,y0,d0,d1,d2,d3,f0,f1,f2,f3⟩ (fun hHeld=>?_)
     refine tK 0 51 (h:=?_)
     try simp only [Act.put,sI,sZ,sS]
     refine tK 1 52 (h:=?_)
     try simp only [Act.put,sI,sZ,sS]
     refine tK 2 53 (h:=?_)
     try simp only [Act.put,sI,sZ,sS]
     refine tK 3 54 (h:=?_)
     try simp only [Act.put,sI,sZ,sS]
     refine tK 4 55 (h:=?_)
     try simp only [Act.put,sI,sZ,sS]
     refine tK 5 56 (h:=?_)
     try simp only [Act.put,sI,sZ,sS]
     refine tK 6 57 (h:=?_)
     try simp only [Act.put,sI,sZ,sS]
     refine tK 7 58 (h:=?_)
     try simp only [Act.put,sI,sZ,sS]
     refine tK 8 59 (h:=?_)
     try simp only [Act.put,sI,sZ,sS]
     refine tK 9 60 (h:=?_)
     try simp only [Act.put,sI,sZ,sS]
     refine wpAnyH_ready (rs:=[10]) (by kernel_rfl) (by simp) ?_
     refine AllReadyH.cons (o:=_) rfl (fun K hK=>?_) AllReadyH.nil
     dsimp only [List.getElem_toArray,List.getElem_cons_succ,List.getElem_cons_zero]
     go_simp
     go_at_call 16
     (with_reducible refine HC.out.mono ?_)
     rintro e w1 ⟨rfl,hb1⟩
     have HB1:=hid ((vbelow_drew HBw.out).trans (hb1.mono (show _≤wr.drew.heap.size from HBw.out.size)))
     have qx0:=tkeep hb1 x0
     have qy0:=tkeep hb1 y0
     have qd0:=tkeep hb1 d0
     have qd1:=tkeep hb1 d1
     have qd2:=tkeep hb1 d2
     have qd3:=tkeep hb1 d3
     have qf0:=tkeep hb1 f0
     have qf1:=tkeep hb1 f1
     have qf2:=tkeep hb1 f2
     have qf3:=tkeep hb1 f3
     clear hb1
     go_wp2_with fail
     refine hK.out _ _ ⟨qx0,qy0,qd0,qd1,qd2,qd3,qf0,qf1,qf2,qf3⟩ (fun hHelda0=>?_)
     clear hK K
     try simp only [Act.put,sI,sZ,sS]
     refine tK 11 62 (h:=?_)
     try simp only [Act.put,sI,sZ,sS]
     refine wpAnyH_done (by kernel_rfl) ?_ _
     go_wp2
     go_ret
     rw [HE.out]
     exact ⟨rfl,HB1.out⟩
  ·have HIt : Hid (its=its'):=by
    show _=_
    have h3:=HG.out
    rw [List.take_of_length_le (by rw [H1.out];omega),List.take_of_length_le (by rw [H2.out];omega)] at h3
    exact h3
   have HBo:=HB
   clear hx1 hx2 HBw hsz HG HB
   rename_i wo
   go_wp2
   go_loopw [6] (fun i wr=>∃ (j : Nat),i=.int .i64 j∧j≤r∧Hid (prs.take j=prs'.take j)∧Hid (Below (w.heap.size+2) ((w.alloc (.cells #[.slice a q c,.slice b r d,.int .i64 wi,.string sb,.int .i64 pk] 26)).alloc (.cells #[.slice a' q c',.slice b' r d',.int .i64 wi,.string sb,.int .i64 pk] 26)) wr)) (fun i _=>r - (RowKit.intOf i).toNat)
   case atStart=>exact ⟨0,rfl,Nat.zero_le _,rfl,HBo.out⟩
   case round =>
    obtain ⟨j,rfl,hj,HG,HB⟩:=hrel
    have hx1:=(HB.out.block w.heap.size (by omega)).trans HX1.out
    have hx2:=(HB.out.block (w.heap.size+1) (by omega)).trans HX2.out
    have x0:=tcell hx1 (k:=1) rfl
    have y0:=tcell hx2 (k:=1) rfl
    have HBw:=hid (HB0.out.trans (HB.out.mono (by omega)))
    have hsz : w.heap.size+2≤wr.heap.size:=by
     have:=HB.out.size
     simpa using this
    by_cases hlt : j < r
    ·obtain ⟨y,hy⟩ : ∃ y,prs[j]?=some y:=⟨_,List.getElem?_eq_getElem (by rw [H3.out];exact hlt)⟩
     obtain ⟨u,hu⟩ : ∃ u,prs'[j]?=some u:=⟨_,List.getElem?_eq_getElem (by rw [H4.out];exact hlt)⟩
     obtain ⟨g,o,a1,q1,c1,b1,r1,dd1,ed,rfl,hcell,hq1,hr1,hk1,hk2⟩:=HQ.out.2.predAt hy
     obtain ⟨g',o',a2,q2,c2,b2,r2,dd2,ed',rfl,hcell',hq2,hr2,hk3,hk4⟩:=HQ'.out.2.predAt hu
     have hll:=HL.out.2 y (List.mem_of_getElem? hy)
     have HC:=sameP_calls (w:=wr.drew) (p:=y) (p':=u) hll.1 hll.2 (hk1.keep (TFr.of_below (K:=K) (vbelow_drew HBw.out))) (hk2.keep (TFr.of_below (K:=K) (vbelow_drew HBw.out))) (hk3.keep (TFr.of_below (K:=K') (vbelow_drew HBw.out))) (hk4.keep (TFr.of_below (K:=K') (vbelow_drew HBw.out))) hq1 hr1 hq2 hr2
     have x0 : wr.drew.cell? _=_:=x0
     have y0 : wr.drew.cell? _=_:=y0
     have d0 : wr.drew.cell? ⟨g,o+j*15,none⟩=some (.int .i64 y.cmp):=tkeep HBw.out (hcell 0 _ rfl)
     have f0 : wr.drew.cell? ⟨g',o'+j*15,none⟩=some (.int .i64 u.cmp):=tkeep HBw.out (hcell' 0 _ rfl)
     have d1 : wr.drew.cell? ⟨g,o+j*15+1,none⟩=some (.int .i64 y.l.k):=tkeep HBw.out (hcell 1 _ rfl)
     have f1 : wr.drew.cell? ⟨g',o'+j*15+1,none⟩=some (.int .i64 u.l.k):=tkeep HBw.out (hcell' 1 _ rfl)
     have d2 : wr.drew.cell? ⟨g,o+j*15+2,none⟩=some (.int .i64 y.l.v.k):=tkeep HBw.out (hcell 2 _ rfl)
     have f2 : wr.drew.cell? ⟨g',o'+j*15+2,none⟩=some (.int .i64 u.l.v.k):=tkeep HBw.out (hcell' 2 _ rfl)
     have d3 : wr.drew.cell? ⟨g,o+j*15+3,none⟩=some (.int .i64 y.l.v.n):=tkeep HBw.out (hcell 3 _ rfl)
     have f3 : wr.drew.cell? ⟨g',o'+j*15+3,none⟩=some (.int .i64 u.l.v.n):=tkeep HBw.out (hcell' 3 _ rfl)
     have d4 : wr.drew.cell? ⟨g,o+j*15+4,none⟩=some (.string (strB y.l.v.s)):=tkeep HBw.out (hcell 4 _ rfl)
     have f4 : wr.drew.cell? ⟨g',o'+j*15+4,none⟩=some (.string (strB u.l.v.s)):=tkeep HBw.out (hcell' 4 _ rfl)
     have d5 : wr.drew.cell? ⟨g,o+j*15+5,none⟩=some (.string (strB y.l.x)):=tkeep HBw.out (hcell 5 _ rfl)
     have f5 : wr.drew.cell? ⟨g',o'+j*15+5,none⟩=some (.string (strB u.l.x)):=tkeep HBw.out (hcell' 5 _ rfl)
     have d6 : wr.drew.cell? ⟨g,o+j*15+6,none⟩=some (.string (strB y.l.f)):=tkeep HBw.out (hcell 6 _ rfl)
     have f6 : wr.drew.cell? ⟨g',o'+j*15+6,none⟩=some (.string (strB u.l.f)):=tkeep HBw.out (hcell' 6 _ rfl)
     have d7 : wr.drew.cell? ⟨g,o+j*15+7,none⟩=some (.slice a1 q1 c1):=tkeep HBw.out (hcell 7 _ rfl)
     have f7 : wr.drew.cell? ⟨g',o'+j*15+7,none⟩=some (.slice a2 q2 c2):=tkeep HBw.out (hcell' 7 _ rfl)
     have d8 : wr.drew.cell? ⟨g,o+j*15+8,none⟩=some (.int .i64 y.r.k):=tkeep HBw.out (hcell 8 _ rfl)
     have f8 : wr.drew.cell? ⟨g',o'+j*15+8,none⟩=some (.int .i64 u.r.k):=tkeep HBw.out (hcell' 8 _ rfl)
     have d9 : wr.drew.cell? ⟨g,o+j*15+9,none⟩=some (.int .i64 y.r.v.k):=tkeep HBw.out (hcell 9 _ rfl)
     have f9 : wr.drew.cell? ⟨g',o'+j*15+9,none⟩=some (.int .i64 u.r.v.k):=tkeep HBw.out (hcell' 9 _ rfl)
     have d10 : wr.drew.cell? ⟨g,o+j*15+10,none⟩=some (.int .i64 y.r.v.n):=tkeep HBw.out (hcell 10 _ rfl)
     have f10 : wr.drew.cell? ⟨g',o'+j*15+10,none⟩=some (.int .i64 u.r.v.n):=tkeep HBw.out (hcell' 10 _ rfl)
     have d11 : wr.drew.cell? ⟨g,o+j*15+11,none⟩=some (.string (strB y.r.v.s)):=tkeep HBw.out (hcell 11 _ rfl)
     have f11 : wr.drew.cell? ⟨g',o'+j*15+11,none⟩=some (.string (strB u.r.v.s)):=tkeep HBw.out (hcell' 11 _ rfl)
     have d12 : wr.drew.cell? ⟨g,o+j*15+12,none⟩=some (.string (strB y.r.x)):=tkeep HBw.out (hcell 12 _ rfl)
     have f12 : wr.drew.cell? ⟨g',o'+j*15+12,none⟩=some (.string (strB u.r.x)):=tkeep HBw.out (hcell' 12 _ rfl)
     have d13 : wr.drew.cell? ⟨g,o+j*15+13,none⟩=some (.string (strB y.r.f)):=tkeep HBw.out (hcell 13 _ rfl)
     have f13 : wr.drew.cell? ⟨g',o'+j*15+13,none⟩=some (.string (strB u.r.f)):=tkeep HBw.out (hcell' 13 _ rfl)
     have d14 : wr.drew.cell? ⟨g,o+j*15+14,none⟩=some (.slice b1 r1 dd1):=tkeep HBw.out (hcell 14 _ rfl)
     have f14 : wr.drew.cell? ⟨g',o'+j*15+14,none⟩=some (.slice b2 r2 dd2):=tkeep HBw.out (hcell' 14 _ rfl)
     have HY:=hid hy
     have HU:=hid hu
     cases hr : sameB y u with
     | true =>
       rw [hr] at HC
       have HC:=hid HC
       have HN : Hid (prs.take (j+1)=prs'.take (j+1)):=by
        show _=_
        have hyu : y=u:=sameB_of hr
        rw [List.take_add_one,List.take_add_one,HY.out,HU.out,HG.out,hyu]
       clear hy hu hcell hcell' hq1 hr1 hq2 hr2 hk1 hk2 hk3 hk4 hll hx1 hx2 hr
       go_wp2_with fail
       refine wp_region_held_drew (S:=fun W=>W.cell? ⟨w.heap.size,1,none⟩=some (.slice (some ⟨g,o,none⟩) r d)∧W.cell? ⟨w.heap.size+1,1,none⟩=some (.slice (some ⟨g',o',none⟩) r d')∧W.cell? ⟨g,o+j*15,none⟩=some (.int .i64 y.cmp)∧W.cell? ⟨g,o+j*15+1,none⟩=some (.int .i64 y.l.k)∧W.cell? ⟨g,o+j*15+2,none⟩=some (.int .i64 y.l.v.k)∧W.cell? ⟨g,o+j*15+3,none⟩=some (.int .i64 y.l.v.n)∧W.cell? ⟨g,o+j*15+4,none⟩=some (.string (strB y.l.v.s))∧W.cell? ⟨g,o+j*15+5,none⟩=some (.string (strB y.l.x))∧W.cell? ⟨g,o+j*15+6,none⟩=some (.string (strB y.l.f))∧W.cell? ⟨g,o+j*15+7,none⟩=some (.slice a1 q1 c1)∧W.cell? ⟨g,o+j*15+8,none⟩=some (.int .i64 y.r.k)∧W.cell? ⟨g,o+j*15+9,none⟩=some (.int .i64 y.r.v.k)∧W.cell? ⟨g,o+j*15+10,none⟩=some (.int .i64 y.r.v.n)∧W.cell? ⟨g,o+j*15+11,none⟩=some (.string (strB y.r.v.s))∧W.cell? ⟨g,o+j*15+12,none⟩=some (.string (strB y.r.x))∧W.cell? ⟨g,o+j*15+13,none⟩=some (.string (strB y.r.f))∧W.cell? ⟨g,o+j*15+14,none⟩=some (.slice b1 r1 dd1)∧W.cell? ⟨g',o'+j*15,none⟩=some (.int .i64 u.cmp)∧W.cell? ⟨g',o'+j*15+1,none⟩=some (.int .i64 u.l.k)∧W.cell? ⟨g',o'+j*15+2,none⟩=some (.int .i64 u.l.v.k)∧W.cell? ⟨g',o'+j*15+3,none⟩=some (.int .i64 u.l.v.n)∧W.cell? ⟨g',o'+j*15+4,none⟩=some (.string (strB u.l.v.s))∧W.cell? ⟨g',o'+j*15+5,none⟩=some (.string (strB u.l.x))∧W.cell? ⟨g',o'+j*15+6,none⟩=some (.string (strB u.l.f))∧W.cell? ⟨g',o'+j*15+7,none⟩=some (.slice a2 q2 c2)∧W.cell? ⟨g',o'+j*15+8,none⟩=some (.int .i64 u.r.k)∧W.cell? ⟨g',o'+j*15+9,none⟩=some (.int .i64 u.r.v.k)∧W.cell? ⟨g',o'+j*15+10,none⟩=some (.int .i64 u.r.v.n)∧W.cell? ⟨g',o'+j*15+11,none⟩=some (.string (strB u.r.v.s))∧W.cell? ⟨g',o'+j*15+12,none⟩=some (.string (strB u.r.x))∧W.cell? ⟨g',o'+j*15+13,none⟩=some (.string (strB u.r.f))∧W.cell? ⟨g',o'+j*15+14,none⟩=some (.slice b2 r2 dd2)) (by kernel_rfl) ⟨x0,y0,d0,d1,d2,d3,d4,d5,d6,d7,d8,d9,d10,d11,d12,d13,d14,f0,f1,f2,f3,f4,f5,f6,f7,f8,f9,f10,f11,f12,f13,f14⟩ (fun hHeld=>?_)
       refine tK 0 70 (h:=?_)
       try simp only [Act.put,sI,sZ,sS]
       refine tK 1 71 (h:=?_)
       try simp only [Act.put,sI,sZ,sS]
       refine tK 2 72 (h:=?_)
       try simp only [Act.put,sI,sZ,sS]
       refine tK 3 73 (h:=?_)
       try simp only [Act.put,sI,sZ,sS]
       refine tK 4 74 (h:=?_)
       try simp only [Act.put,sI,sZ,sS]
       refine tK 5 75 (h:=?_)
       try simp only [Act.put,sI,sZ,sS]
       refine tK 6 76 (h:=?_)
       try simp only [Act.put,sI,sZ,sS]
       refine tK 7 77 (h:=?_)
       try simp only [Act.put,sI,sZ,sS]
       refine tK 8 78 (h:=?_)
       try simp only [Act.put,sI,sZ,sS]
       refine tK 9 79 (h:=?_)
       try simp only [Act.put,sI,sZ,sS]
       refine wpAnyH_ready (rs:=[10]) (by kernel_rfl) (by simp) ?_
       refine AllReadyH.cons (o:=_) rfl (fun K hK=>?_) AllReadyH.nil
       dsimp only [List.getElem_toArray,List.getElem_cons_succ,List.getElem_cons_zero]
       go_simp
       go_at_call 17
       (with_reducible refine HC.out.mono ?_)
       rintro e w1 ⟨rfl,hb1⟩
       have HB1:=hid ((below_drew2 HB.out).trans (hb1.mono (show _≤wr.drew.heap.size from hsz)))
       have qx0:=tkeep hb1 x0
       have qy0:=tkeep hb1 y0
       have qd0:=tkeep hb1 d0
       have qd1:=tkeep hb1 d1
       have qd2:=tkeep hb1 d2
       have qd3:=tkeep hb1 d3
       have qd4:=tkeep hb1 d4
       have qd5:=tkeep hb1 d5
       have qd6:=tkeep hb1 d6
       have qd7:=tkeep hb1 d7
       have qd8:=tkeep hb1 d8
       have qd9:=tkeep hb1 d9
       have qd10:=tkeep hb1 d10
       have qd11:=tkeep hb1 d11
       have qd12:=tkeep hb1 d12
       have qd13:=tkeep hb1 d13
       have qd14:=tkeep hb1 d14
       have qf0:=tkeep hb1 f0
       have qf1:=tkeep hb1 f1
       have qf2:=tkeep hb1 f2
       have qf3:=tkeep hb1 f3
       have qf4:=tkeep hb1 f4
       have qf5:=tkeep hb1 f5
       have qf6:=tkeep hb1 f6
       have qf7:=tkeep hb1 f7
       have qf8:=tkeep hb1 f8
       have qf9:=tkeep hb1 f9
       have qf10:=tkeep hb1 f10
       have qf11:=tkeep hb1 f11
       have qf12:=tkeep hb1 f12
       have qf13:=tkeep hb1 f13
       have qf14:=tkeep hb1 f14
       clear hb1
       go_wp2_with fail
       refine hK.out _ _ ⟨qx0,qy0,qd0,qd1,qd2,qd3,qd4,qd5,qd6,qd7,qd8,qd9,qd10,qd11,qd12,qd13,qd14,qf0,qf1,qf2,qf3,qf4,qf5,qf6,qf7,qf8,qf9,qf10,qf11,qf12,qf13,qf14⟩ (fun hHelda0=>?_)
       clear hK K
       try simp only [Act.put,sI,sZ,sS]
       refine tK 11 81 (h:=?_)
       try simp only [Act.put,sI,sZ,sS]
       refine wpAnyH_done (by kernel_rfl) ?_ _
       go_wp2_with fail
       go_roundw
       case rel=>exact ⟨j+1,by go_num,by omega,HN,HB1⟩
       case measure=>simp [RowKit.intOf];omega
     | false =>
       rw [hr] at HC
       have HC:=hid HC
       have HE : Hid (z=false):=by
        show _=_
        rw [← HZ.out]
        refine sameB_no (fun e=>?_)
        injection e with e1 e2
        have hyu : y=u:=by
         have h3:=HY.out
         have h4:=HU.out
         rw [e2,h4] at h3
         exact (Option.some.inj h3).symm
        rw [sameB_yes hyu] at hr
        cases hr
       clear hy hu hcell hcell' hq1 hr1 hq2 hr2 hk1 hk2 hk3 hk4 hll hx1 hx2 hr
       go_wp2_with fail
       refine wp_region_held_drew (S:=fun W=>W.cell? ⟨w.heap.size,1,none⟩=some (.slice (some ⟨g,o,none⟩) r d)∧W.cell? ⟨w.heap.size+1,1,none⟩=some (.slice (some ⟨g',o',none⟩) r d')∧W.cell? ⟨g,o+j*15,none⟩=some (.int .i64 y.cmp)∧W.cell? ⟨g,o+j*15+1,none⟩=some (.int .i64 y.l.k)∧W.cell? ⟨g,o+j*15+2,none⟩=some (.int .i64 y.l.v.k)∧W.cell? ⟨g,o+j*15+3,none⟩=some (.int .i64 y.l.v.n)∧W.cell? ⟨g,o+j*15+4,none⟩=some (.string (strB y.l.v.s))∧W.cell? ⟨g,o+j*15+5,none⟩=some (.string (strB y.l.x))∧W.cell? ⟨g,o+j*15+6,none⟩=some (.string (strB y.l.f))∧W.cell? ⟨g,o+j*15+7,none⟩=some (.slice a1 q1 c1)∧W.cell? ⟨g,o+j*15+8,none⟩=some (.int .i64 y.r.k)∧W.cell? ⟨g,o+j*15+9,none⟩=some (.int .i64 y.r.v.k)∧W.cell? ⟨g,o+j*15+10,none⟩=some (.int .i64 y.r.v.n)∧W.cell? ⟨g,o+j*15+11,none⟩=some (.string (strB y.r.v.s))∧W.cell? ⟨g,o+j*15+12,none⟩=some (.string (strB y.r.x))∧W.cell? ⟨g,o+j*15+13,none⟩=some (.string (strB y.r.f))∧W.cell? ⟨g,o+j*15+14,none⟩=some (.slice b1 r1 dd1)∧W.cell? ⟨g',o'+j*15,none⟩=some (.int .i64 u.cmp)∧W.cell? ⟨g',o'+j*15+1,none⟩=some (.int .i64 u.l.k)∧W.cell? ⟨g',o'+j*15+2,none⟩=some (.int .i64 u.l.v.k)∧W.cell? ⟨g',o'+j*15+3,none⟩=some (.int .i64 u.l.v.n)∧W.cell? ⟨g',o'+j*15+4,none⟩=some (.string (strB u.l.v.s))∧W.cell? ⟨g',o'+j*15+5,none⟩=some (.string (strB u.l.x))∧W.cell? ⟨g',o'+j*15+6,none⟩=some (.string (strB u.l.f))∧W.cell? ⟨g',o'+j*15+7,none⟩=some (.slice a2 q2 c2)∧W.cell? ⟨g',o'+j*15+8,none⟩=some (.int .i64 u.r.k)∧W.cell? ⟨g',o'+j*15+9,none⟩=some (.int .i64 u.r.v.k)∧W.cell? ⟨g',o'+j*15+10,none⟩=some (.int .i64 u.r.v.n)∧W.cell? ⟨g',o'+j*15+11,none⟩=some (.string (strB u.r.v.s))∧W.cell? ⟨g',o'+j*15+12,none⟩=some (.string (strB u.r.x))∧W.cell? ⟨g',o'+j*15+13,none⟩=some (.string (strB u.r.f))∧W.cell? ⟨g',o'+j*15+14,none⟩=some (.slice b2 r2 dd2)) (by kernel_rfl) ⟨x0,y0,d0,d1,d2,d3,d4,d5,d6,d7,d8,d9,d10,d11,d12,d13,d14,f0,f1,f2,f3,f4,f5,f6,f7,f8,f9,f10,f11,f12,f13,f14⟩ (fun hHeld=>?_)
       refine tK 0 70 (h:=?_)
       try simp only [Act.put,sI,sZ,sS]
       refine tK 1 71 (h:=?_)
       try simp only [Act.put,sI,sZ,sS]
       refine tK 2 72 (h:=?_)
       try simp only [Act.put,sI,sZ,sS]
       refine tK 3 73 (h:=?_)
       try simp only [Act.put,sI,sZ,sS]
       refine tK 4 74 (h:=?_)
       try simp only [Act.put,sI,sZ,sS]
       refine tK 5 75 (h:=?_)
       try simp only [Act.put,sI,sZ,sS]
       refine tK 6 76 (h:=?_)
       try simp only [Act.put,sI,sZ,sS]
       refine tK 7 77 (h:=?_)
       try simp only [Act.put,sI,sZ,sS]
       refine tK 8 78 (h:=?_)
       try simp only [Act.put,sI,sZ,sS]
       refine tK 9 79 (h:=?_)
       try simp only [Act.put,sI,sZ,sS]
       refine wpAnyH_ready (rs:=[10]) (by kernel_rfl) (by simp) ?_
       refine AllReadyH.cons (o:=_) rfl (fun K hK=>?_) AllReadyH.nil
       dsimp only [List.getElem_toArray,List.getElem_cons_succ,List.getElem_cons_zero]
       go_simp
       go_at_call 17
       (with_reducible refine HC.out.mono ?_)
       rintro e w1 ⟨rfl,hb1⟩
       have HB1:=hid ((vbelow_drew HBw.out).trans (hb1.mono (show _≤wr.drew.heap.size from HBw.out.size)))
       have qx0:=tkeep hb1 x0
       have qy0:=tkeep hb1 y0
       have qd0:=tkeep hb1 d0
       have qd1:=tkeep hb1 d1
       have qd2:=tkeep hb1 d2
       have qd3:=tkeep hb1 d3
       have qd4:=tkeep hb1 d4
       have qd5:=tkeep hb1 d5
       have qd6:=tkeep hb1 d6
       have qd7:=tkeep hb1 d7
       have qd8:=tkeep hb1 d8
       have qd9:=tkeep hb1 d9
       have qd10:=tkeep hb1 d10
       have qd11:=tkeep hb1 d11
       have qd12:=tkeep hb1 d12
       have qd13:=tkeep hb1 d13
       have qd14:=tkeep hb1 d14
       have qf0:=tkeep hb1 f0
       have qf1:=tkeep hb1 f1
       have qf2:=tkeep hb1 f2
       have qf3:=tkeep hb1 f3
       have qf4:=tkeep hb1 f4
       have qf5:=tkeep hb1 f5
       have qf6:=tkeep hb1 f6
       have qf7:=tkeep hb1 f7
       have qf8:=tkeep hb1 f8
       have qf9:=tkeep hb1 f9
       have qf10:=tkeep hb1 f10
       have qf11:=tkeep hb1 f11
       have qf12:=tkeep hb1 f12
       have qf13:=tkeep hb1 f13
       have qf14:=tkeep hb1 f14
       clear hb1
       go_wp2_with fail
       refine hK.out _ _ ⟨qx0,qy0,qd0,qd1,qd2,qd3,qd4,qd5,qd6,qd7,qd8,qd9,qd10,qd11,qd12,qd13,qd14,qf0,qf1,qf2,qf3,qf4,qf5,qf6,qf7,qf8,qf9,qf10,qf11,qf12,qf13,qf14⟩ (fun hHelda0=>?_)
       clear hK K
       try simp only [Act.put,sI,sZ,sS]
       refine tK 11 81 (h:=?_)
       try simp only [Act.put,sI,sZ,sS]
       refine wpAnyH_done (by kernel_rfl) ?_ _
       go_wp2
       go_ret
       rw [HE.out]
       exact ⟨rfl,HB1.out⟩
    ·have HE : Hid (z=true):=by
      show _=_
      rw [← HZ.out]
      have h3:=HG.out
      rw [List.take_of_length_le (by rw [H3.out];omega),List.take_of_length_le (by rw [H4.out];omega)] at h3
      exact sameB_yes (by rw [h3,HIt.out])
     clear hx1 hx2
     go_wp2
     go_ret
     rw [HE.out]
     exact ⟨rfl,HBw.out⟩
theorem same_calls {K K' : Nat→Prop} {w : World} {a b a' b' : Option Addr} {q c r d q' c' r' d' : Nat} (p p' : PQu) (hq : QuAt K w a q c b r d p) (hq' : QuAt K' w a' q' c' b' r' d' p') (lq : p.its.length≤maxLen) (lr : p.prs.length≤maxLen) (hl : QLs p) :
 Calls Tryz.prog 7 #[.agg #[.slice a q c,.slice b r d,.int .i64 p.within,.string (strB p.by_),.int .i64 p.pick],.agg #[.slice a' q' c',.slice b' r' d',.int .i64 p'.within,.string (strB p'.by_),.int .i64 p'.pick]] w fun e w'=>e=.returned (.bool (sameB p p'))∧Below w.heap.size w w':=by
 obtain ⟨its,prs,wi,by_,pk⟩:=p
 obtain ⟨its',prs',wi',by_',pk'⟩:=p'
 have n1 : q=its.length:=hq.1.len
 have n2 : r=prs.length:=hq.2.len
 have n3 : q'=its'.length:=hq'.1.len
 have n4 : r'=prs'.length:=hq'.2.len
 by_cases hall : q=q'∧r=r'∧wi=wi'∧by_=by_'∧pk=pk'
 ·obtain ⟨rfl,rfl,rfl,rfl,rfl⟩:=hall
  exact sq_step hq hq' n1.symm n3.symm n2.symm n4.symm (by rw [n1];exact lq) (by rw [n2];exact lr) hl
 ·rw [sameB_no (fun e=>hall (by cases e;exact ⟨n1.trans n3.symm,n2.trans n4.symm,rfl,rfl,rfl⟩))]
  exact sq_no hall
end Go.Proofs.YtefcbgnckgapgaaGreatDoor
namespace Go.Proofs.YtefcbgnckgapgaaGreatDoor
open Go.RowKit Go.Lib Go.Op
def lenV : Value→Nat
 | .slice _ n _=>n
 | _=>0
theorem OwnP.top {w : World} {B n c : Nat} {a : Option Addr} {t : TypeId} {l : List (Option Addr × Nat × Nat)} {e : Option Addr × Nat × Nat} (h : OwnP sliceD w B t (.slice a n c) (l++[e])) :
 ∃ g,a=some ⟨g,0,none⟩∧n=l.length+1∧w.cell? ⟨g,l.length,none⟩=some (.slice e.1 e.2.1 e.2.2)∧n≤c:=by
 obtain ⟨css,h1,h2,h3,h4⟩:=h
 rw [List.length_append,List.length_singleton] at h1 h2
 obtain ⟨cs,h5,h6⟩:=h4 l.length e (by simp)
 have h6 : cs=[.slice e.1 e.2.1 e.2.2]:=h6
 subst h6
 rcases h2.2 with ⟨_,h0⟩|⟨g,cap,cur,e1,hb,hh,hn,hc,hs,ht⟩
 ·omega
 ·injection e1 with e1 e2 e3
  subst e1 e2 e3
  refine ⟨g,rfl,rfl,?_,hn⟩
  have h7:=flat_at (k:=1) (j:=l.length) h3 h5 0 _ rfl
  rw [Nat.mul_one,Nat.add_zero,← ht,List.getElem?_take,if_pos (by show l.length < (l.length+1)*1;omega)] at h7
  rw [cell_of_row w g l.length _ t (0,0) hh]
  simpa using h7
theorem OwnP.map_kept {w : World} {B m : Nat} {t : TypeId} {v : Value} {l : List (Option Addr × Nat × Nat)} (h : OwnP sliceD w B t v l) (hm : m < B) (o : Obj) : OwnP sliceD { w with heap:=w.heap.setIfInBounds m o } B t v l:=by
 obtain ⟨css,h1,h2,h3,h4⟩:=h
 refine ⟨css,h1,⟨h2.1,?_⟩,h3,fun j x hj=>?_⟩
 ·rcases h2.2 with h0|⟨g,cap,cur,e,hb,hh,r⟩
  ·exact .inl h0
  ·refine .inr ⟨g,cap,cur,e,hb,?_,r⟩
   show (w.heap.setIfInBounds m o)[g]?=_
   rw [Array.getElem?_setIfInBounds_ne (by omega)]
   exact hh
 ·exact h4 j x hj
theorem below_map {B m : Nat} {w W : World} (h : Below B w W) (hm : B≤m) (o : Obj) : Below B w { W with heap:=W.heap.setIfInBounds m o } :=
 h.trans ⟨rfl,rfl,rfl,by simp,fun k hk=>Array.getElem?_setIfInBounds_ne (by omega)⟩
theorem placeE_calls {w : World} (e : Option Addr × Nat × Nat) (h : e.2.1≠0→∃ g o,e.1=some ⟨g,o,none⟩) : Calls Tryz.prog 28 #[.slice e.1 e.2.1 e.2.2] w fun r w'=>r=.returned (keyV (key3 e))∧Below w.heap.size w w':=by
 obtain ⟨a,n,c⟩:=e
 unfold key3
 dsimp only at h ⊢
 by_cases hn : n=0
 ·subst hn
  rw [if_pos rfl]
  exact place_nil
 ·rw [if_neg hn]
  obtain ⟨g,o,rfl⟩:=h hn
  exact place_some (Nat.pos_of_ne_zero hn)
theorem DMap.lt {W : World} {m : Nat} {f : Option Addr × Nat→Int} (h : DMap W m f) : m < W.heap.size:=by
 obtain ⟨es,c,h1,_⟩:=h
 exact (Array.getElem?_eq_some_iff.1 h1).1
theorem DMap.keepL {W W' : World} {m L : Nat} {f : Option Addr × Nat→Int} (h : DMap W m f) (hk : KeysIn W m L) {K : Nat→Prop} (hf : TFr K W W') (hm : ¬ K m) (hL : ∀ b,b < L→¬ K b) : DMap W' m f∧KeysIn W' m L:=by
 have hlt:=h.lt
 have hmb:=hf.block m hlt hm
 refine ⟨?_,fun es c he=>hk es c (by rw [← hmb];exact he)⟩
 obtain ⟨es,c,h1,h2⟩:=h
 refine ⟨es,c,hmb.trans h1,⟨fun e he=>?_,h2.has,h2.one⟩⟩
 obtain ⟨k,h3,h4,h5⟩:=h2.ent e he
 refine ⟨k,h3,fun a ha=>?_,h5⟩
 obtain ⟨cs,t,h6⟩:=h4 a ha
 exact ⟨cs,t,(hf.block a.block (Array.getElem?_eq_some_iff.1 h6).1 (hL _ (hk es c h1 e he k h3 a ha))).trans h6⟩
theorem KeysIn.below {W W' : World} {m L : Nat} (h : KeysIn W m L) (hb : Below W.heap.size W W') (hm : m < W.heap.size) : KeysIn W' m L:=fun es c he=>h es c (by rw [← hb.block m hm];exact he)
structure DTree (w : World) (R : List (Option Addr × Nat)) (dep : Option Addr × Nat→Int) : Prop where
 rows : DRows R (kidsF w) dep
 at_ : ∀ s∈R,s≠(none,0)→0 < s.2∧∃ l : List PEx,s.2=l.length∧l.length≤10000∧KidsAt w s.1 l (kidsF w s)∧KBlk w s
 dep : ∀ s∈R,dep s≤10001
 wt : ∀ f,wtS R (kidsF w) f≤200000000
theorem DTree.low {w : World} {R : List (Option Addr × Nat)} {dep : Option Addr × Nat→Int} (T : DTree w R dep) {s : Option Addr × Nat} (hs : s∈R) : ∀ a,s.1=some a→a.block < w.heap.size:=fun a ha=>by
 by_cases h : s=(none,0)
 ·rw [h] at ha
  cases ha
 ·obtain ⟨_,_,_,_,_,hk⟩:=T.at_ s hs h
  obtain ⟨cs,t,hb⟩:=hk a ha
  exact (Array.getElem?_eq_some_iff.1 hb).1
theorem DTree.blk {w : World} {R : List (Option Addr × Nat)} {dep : Option Addr × Nat→Int} (T : DTree w R dep) {s : Option Addr × Nat} (hs : s∈R) : KBlk w s:=by
 by_cases h : s=(none,0)
 ·rw [h];exact KBlk.nil w
 ·obtain ⟨_,_,_,_,_,h⟩:=T.at_ s hs h
  exact h
theorem DTree.addr {w : World} {R : List (Option Addr × Nat)} {dep : Option Addr × Nat→Int} (T : DTree w R dep) {e : Option Addr × Nat × Nat} (hs : key3 e∈R) (hn : e.2.1≠0) : ∃ g o,e.1=some ⟨g,o,none⟩:=by
 have hk : key3 e=(e.1,e.2.1):=by unfold key3;rw [if_neg hn]
 rw [hk] at hs
 obtain ⟨h1,l,h2,_,h3,_⟩:=T.at_ _ hs (fun h=>hn (congrArg Prod.snd h))
 dsimp only at h1 h2 h3
 obtain ⟨x,hx⟩ : ∃ x,l[0]?=some x:=⟨_,List.getElem?_eq_getElem (by omega)⟩
 obtain ⟨g,o,_,_,ha,_⟩:=h3.2 0 x hx
 exact ⟨g,o,ha⟩
structure DeepIn (w : World) (X : Obj) (wr : World) (R : List (Option Addr × Nat)) (dep f : Option Addr × Nat→Int) (root : Option Addr × Nat) (v : Value) (st : List (Option Addr × Nat × Nat)) : Prop where
 own : OwnP sliceD wr (w.heap.size+2) 38 v st
 map : DMap wr (w.heap.size+1) f
 inv : DInv R (kidsF w) dep f (st.reverse.map key3)
 low : Below (w.heap.size+1) (w.alloc X) wr
 len : st.length+wtS R (kidsF w) f≤200000001
 top : ∀ k,f k≤1000000
 root : 0 < f root∨root∈st.map key3
 big : w.heap.size+2≤wr.heap.size
 keys : KeysIn wr (w.heap.size+1) w.heap.size
theorem rev_top (st : List (Option Addr × Nat × Nat)) (e : Option Addr × Nat × Nat) : (st++[e]).reverse.map key3=key3 e :: st.reverse.map key3:=by
 rw [List.reverse_append]
 rfl
section
variable {w wr W : World} {X : Obj} {R : List (Option Addr × Nat)} {dep f : Option Addr × Nat→Int} {root : Option Addr × Nat} {v : Value} {st : List (Option Addr × Nat × Nat)} {e : Option Addr × Nat × Nat}
theorem DeepIn.low0 (h : DeepIn w X wr R dep f root v st) : Below w.heap.size w wr:=((Below.refl w.heap.size w).alloc (Nat.le_refl _) X).trans (h.low.mono (Nat.le_succ _))
theorem DeepIn.wt_eq (T : DTree w R dep) (h : DeepIn w X wr R dep f root v st) : wtS R (kidsF w) (fOf Tryz.prog (w.heap.size+1) wr)=wtS R (kidsF w) f:=wtS_congr fun _ hr=>h.map.fOf ((T.blk hr).below h.low0)
theorem DeepIn.mem (h : DeepIn w X wr R dep f root v (st++[e])) : key3 e∈R:=h.inv.inR _ (by rw [rev_top];exact List.mem_cons_self)
theorem DeepIn.below (h : DeepIn w X wr R dep f root v st) (hb : Below wr.heap.size wr W) : DeepIn w X W R dep f root v st :=
 ⟨h.own.keep (TFr.of_below (K:=fun _=>False) hb) (fun _ h=>h.elim),h.map.below hb,h.inv,h.low.trans (hb.mono (Nat.le_of_succ_le h.big)),h.len,h.top,h.root,Nat.le_trans h.big hb.size,h.keys.below hb (Nat.lt_of_lt_of_le (Nat.lt_succ_self _) h.big)⟩
structure DeepPush (w : World) (X : Obj) (wr : World) (R : List (Option Addr × Nat)) (dep f : Option Addr × Nat→Int) (root : Option Addr × Nat) (e : Option Addr × Nat × Nat) (v : Value) (st : List (Option Addr × Nat × Nat)) (j : Nat) : Prop where
 own : ∃ ps : List (Option Addr × Nat × Nat),OwnP sliceD wr (w.heap.size+2) 38 v (st++e :: ps)∧ps.map key3=(kidsF w (key3 e)).take j
 map : DMap wr (w.heap.size+1) (updF f (key3 e) (-1))
 low : Below (w.heap.size+1) (w.alloc X) wr
 big : w.heap.size+2≤wr.heap.size
 keys : KeysIn wr (w.heap.size+1) w.heap.size
theorem DeepPush.low0 {e : Option Addr × Nat × Nat} {j : Nat} (h : DeepPush w X wr R dep f root e v st j) : Below w.heap.size w wr:=((Below.refl w.heap.size w).alloc (Nat.le_refl _) X).trans (h.low.mono (Nat.le_succ _))
theorem DeepIn.done (h : DeepIn w X wr R dep f root v (st++[e])) (hf : 0 < f (key3 e)) {v' : Value} (hv : OwnP sliceD wr (w.heap.size+2) 38 v' st) : DeepIn w X wr R dep f root v' st :=
 ⟨hv,h.map,(by have:=h.inv;rw [rev_top] at this;exact this.done hf),h.low,by have:=h.len;rw [List.length_append] at this;omega,h.top,by
   rcases h.root with h1|h1
   ·exact .inl h1
   ·rw [List.map_append,List.mem_append] at h1
    rcases h1 with h1|h1
    ·exact .inr h1
    ·rw [List.map_singleton,List.mem_singleton] at h1
     exact .inl (h1 ▸ hf),h.big,h.keys⟩
theorem DeepIn.begun (T : DTree w R dep) (h : DeepIn w X wr R dep f root v (st++[e])) (hf : f (key3 e)=-1) {W : World} {o : Obj} (hm : DMap { W with heap:=W.heap.setIfInBounds (w.heap.size+1) o } (w.heap.size+1) (updF f (key3 e) (1+mostF f (kidsF w (key3 e))))) (hb : Below wr.heap.size wr W) (hky : KeysIn { W with heap:=W.heap.setIfInBounds (w.heap.size+1) o } (w.heap.size+1) w.heap.size) :
 DeepIn w X { W with heap:=W.heap.setIfInBounds (w.heap.size+1) o } R dep (updF f (key3 e) (1+mostF f (kidsF w (key3 e)))) root v (st++[e])∧wtS R (kidsF w) (updF f (key3 e) (1+mostF f (kidsF w (key3 e)))) < wtS R (kidsF w) f:=by
 have hi:=h.inv
 rw [rev_top] at hi
 have hi2:=hi.begun T.rows hf
 have hw:=wtS_begun T.rows h.mem hf
 rw [hi2.1] at hm ⊢
 have hd:=T.dep _ h.mem
 have hp:=T.rows.pos h.mem
 refine ⟨⟨((h.own.keep (TFr.of_below (K:=fun _=>False) hb) (fun _ h=>h.elim)).map_kept (by omega) o),hm,by rw [rev_top];exact hi2.2,below_map (h.low.trans (hb.mono (Nat.le_of_succ_le h.big))) (Nat.le_refl _) o,by have:=h.len;omega,fun k=>?_,?_,?_,hky⟩,by omega⟩
 ·unfold updF
  split
  ·omega
  ·exact h.top k
 ·rcases h.root with h1|h1
  ·left
   unfold updF
   split
   ·exact hp
   ·exact h1
  ·exact .inr h1
 ·have:=h.big
  have:=hb.size
  simp only [Array.size_setIfInBounds]
  omega
theorem DeepIn.push (_ : DTree w R dep) (h : DeepIn w X wr R dep f root v (st++[e])) {W : World} {o : Obj} (hm : DMap { W with heap:=W.heap.setIfInBounds (w.heap.size+1) o } (w.heap.size+1) (updF f (key3 e) (-1))) (hb : Below wr.heap.size wr W) (hky : KeysIn { W with heap:=W.heap.setIfInBounds (w.heap.size+1) o } (w.heap.size+1) w.heap.size) :
 DeepPush w X { W with heap:=W.heap.setIfInBounds (w.heap.size+1) o } R dep f root e v st 0 :=
 ⟨⟨[],(h.own.keep (TFr.of_below (K:=fun _=>False) hb) (fun _ h=>h.elim)).map_kept (by omega) o,rfl⟩,hm,below_map (h.low.trans (hb.mono (Nat.le_of_succ_le h.big))) (Nat.le_refl _) o,by
   have:=h.big
   have:=hb.size
   simp only [Array.size_setIfInBounds]
   omega,hky⟩
theorem DeepIn.pushed (T : DTree w R dep) (h : DeepIn w X wr R dep f root v (st++[e])) (hf : f (key3 e)=0) {j : Nat} (hj : (kidsF w (key3 e)).length≤j) {W : World} {v' : Value} (hp : DeepPush w X W R dep f root e v' st j) :
 ∃ st',DeepIn w X W R dep (updF f (key3 e) (-1)) root v' st'∧st'.length+wtS R (kidsF w) (updF f (key3 e) (-1)) < (st++[e]).length+wtS R (kidsF w) f:=by
 obtain ⟨ps,ho,hk⟩:=hp.own
 rw [List.take_of_length_le hj] at hk
 have hi:=h.inv
 rw [rev_top] at hi
 have hi2:=hi.unseen T.rows hf
 have hw:=wtS_unseen T.rows h.mem hf
 have hl : ps.length=(kidsF w (key3 e)).length:=by rw [← hk,List.length_map]
 have hlen:=h.len
 rw [List.length_append,List.length_singleton] at hlen
 refine ⟨st++e :: ps,⟨ho,hp.map,?_,hp.low,?_,fun k=>?_,?_,hp.big,hp.keys⟩,?_⟩
 ·have e1 : (st++e :: ps).reverse.map key3=(kidsF w (key3 e)).reverse++key3 e :: st.reverse.map key3:=by
   rw [← hk,List.reverse_append,List.reverse_cons,List.map_append,List.map_append,List.map_reverse]
   simp
  rw [e1]
  exact hi2
 ·rw [List.length_append,List.length_cons]
  omega
 ·unfold updF
  split
  ·decide
  ·exact h.top k
 ·rcases h.root with h1|h1
  ·left
   have hr : root≠key3 e:=fun hr=>by
    rw [hr,hf] at h1
    cases h1
   unfold updF
   rw [if_neg hr]
   exact h1
  ·right
   rw [List.map_append,List.mem_append] at h1 ⊢
   rcases h1 with h1|h1
   ·exact .inl h1
   ·rw [List.map_singleton,List.mem_singleton] at h1
    exact .inr (by rw [h1];simp)
 ·rw [List.length_append,List.length_append,List.length_cons,List.length_singleton]
  omega
end
end Go.Proofs.YtefcbgnckgapgaaGreatDoor
namespace Go.Proofs.YtefcbgnckgapgaaGreatDoor
open Go.RowKit Go.Lib Go.Op
theorem DMap.put {W : World} {m : Nat} {f : Option Addr × Nat→Int} (h : DMap W m f) {k : Option Addr × Nat} (hk : KBlk W k) (v : Int) :
 ∃ o W2,(Instr.mapUpdate 73 (.map (some m)) (keyV k) (.int .i64 v)).run Tryz.prog W=.ok () W2∧Hid (W2={ W with heap:=W.heap.setIfInBounds m o })∧Hid (DMap W2 m (updF f k v))∧Hid (∀ L,KeysIn W m L→(∀ a,k.1=some a→a.block < L)→KeysIn W2 m L):=by
 obtain ⟨o,h1,h2,h3⟩:=h.upd hk v
 exact ⟨o,_,h1,rfl,h2,h3⟩
theorem DeepIn.start {w : World} {X : Obj} {R : List (Option Addr × Nat)} {dep : Option Addr × Nat→Int} (T : DTree w R dep) {W3 : World} {e : Option Addr × Nat × Nat} (he : key3 e∈R) (hm : DMap W3 (w.heap.size+1) (updF (fun _=>0) (none,0) 1)) (hl : Below (w.heap.size+1) (w.alloc X) W3) (hb : w.heap.size+2≤W3.heap.size) (hky : KeysIn W3 (w.heap.size+1) w.heap.size) :
 DeepIn w X (W3.alloc (.cells #[.slice e.1 e.2.1 e.2.2] 38)) R dep (updF (fun _=>0) (none,0) 1) (key3 e) (.slice (some ⟨W3.heap.size,0,none⟩) 1 1) [e]:=by
 have hba:=(Below.refl W3.heap.size W3).alloc (Nat.le_refl _) (.cells #[.slice e.1 e.2.1 e.2.2] 38)
 have h0 : ∀ r,updF (fun _=>0) (none,0) 1 r=if r=(none,0) then 1 else 0:=fun r=>rfl
 refine ⟨OwnP.first (cs:=[.slice e.1 e.2.1 e.2.2]) hb (heap_alloc_new W3 _) rfl,hm.below hba,⟨fun r hr=>?_,?_,fun r hr=>?_,fun r hr=>?_⟩,hl.trans (hba.mono (by omega)),?_,fun k=>?_,.inr (by simp),?_,hky.below hba (by omega)⟩
 ·rw [h0]
  split
  ·rename_i h
   exact .inr (.inr (by rw [h,T.rows.dn]))
  ·exact .inl rfl
 ·rw [h0,if_pos rfl]
 ·have : r=key3 e:=by simpa using hr
  rw [this]
  exact he
 ·rw [h0] at hr
  split at hr <;> omega
 ·have:=T.wt (updF (fun _=>0) (none,0) 1)
  rw [List.length_singleton]
  omega
 ·rw [h0]
  split <;> decide
 ·have:=hba.size
  omega
theorem DeepIn.last {w wr : World} {X : Obj} {R : List (Option Addr × Nat)} {dep f : Option Addr × Nat→Int} {root : Option Addr × Nat} {v : Value} (h : DeepIn w X wr R dep f root v []) (hr : root∈R) : f root=dep root:=by
 have h1 : 0 < f root:=h.root.elim id (fun h=>by simp at h)
 rcases h.inv.vals root hr with h2|h2|h2
 ·omega
 ·omega
 ·exact h2
set_option maxHeartbeats 4000000 in
set_option maxRecDepth 100000 in
theorem deep_calls {K : Nat→Prop} (hK : K 0) {w : World} {d : Nat} {x : PEx} {a : Option Addr} {c : Nat} (h : ExK K w d (.slice a x.ks.length c) x.ks) (hs : sizeI x≤10000) :
 Calls Tryz.prog 10 #[exV x (.slice a x.ks.length c)] w fun e w'=>e=.returned (.int .i64 (deepI x))∧Below w.heap.size w w':=by
 obtain ⟨R,dep,hR,hroot,hdep,hat,hdb,hwt⟩:=rows_of hK h hs
 have T : DTree w R dep:=⟨hR,hat,hdb,hwt⟩
 obtain ⟨_,hadr⟩:=h.addr
 have hadr2 : x.ks.length≠0→∃ g o,a=some ⟨g,o,none⟩:=fun hn=>by
  obtain ⟨g,o,e,_⟩:=hadr hn
  exact ⟨g,o,e⟩
 obtain ⟨n,hn⟩ : ∃ n,x.ks.length=n:=⟨_,rfl⟩
 rw [hn] at hroot hdep hadr2 ⊢
 rw [← hdep]
 have HT:=hid T
 have HR:=hid hroot
 have HA:=hid hadr2
 have hbx:=(Below.refl (w.heap.size+1) (w.alloc (.cells #[.int .i64 x.k,.int .i64 x.v.k,.int .i64 x.v.n,.string (strB x.v.s),.string (strB x.x),.string (strB x.f),.slice a n c] 40)))
 have hX:=XBlk.new w (.int .i64 x.k) (.int .i64 x.v.k) (.int .i64 x.v.n) (.string (strB x.v.s)) (.string (strB x.x)) (.string (strB x.f)) (.slice a n c)
 obtain ⟨X,hXo⟩ : ∃ X,Obj.cells #[.int .i64 x.k,.int .i64 x.v.k,.int .i64 x.v.n,.string (strB x.v.s),.string (strB x.x),.string (strB x.f),.slice a n c] 40=X:=⟨_,rfl⟩
 have HXo:=hid hXo
 rw [hXo] at hX hbx
 have hsz : (w.alloc X).heap.size=w.heap.size+1:=by simp
 have hm1 : DMap ((w.alloc X).alloc (.map #[] 0)) (w.heap.size+1) (fun _=>0):=DMap.start (by rw [← hsz];exact heap_alloc_new (w.alloc X) _)
 obtain ⟨o1,W2,hr1,HW2,HM2,hky2⟩:=hm1.put (KBlk.nil _) 1
 have HKY2 : Hid (KeysIn W2 (w.heap.size+1) w.heap.size):=hky2.out _ (fun es c he e hm=>by
  rw [← hsz,heap_alloc_new (w.alloc X) _] at he
  injection he with he
  injection he with he _
  rw [← he] at hm
  simp at hm) (fun a ha=>by cases ha)
 clear hky2
 rw [keyV_nil] at hr1
 have hl2 : Below (w.heap.size+1) (w.alloc X) W2:=by
  rw [HW2.out]
  exact below_map (hbx.alloc (by omega) (.map #[] 0)) (Nat.le_refl _) o1
 have hb2 : w.heap.size+2≤W2.heap.size:=by
  rw [HW2.out]
  simp
 have hX2 : XBlk W2 w.heap.size (.int .i64 x.k) (.int .i64 x.v.k) (.int .i64 x.v.n) (.string (strB x.v.s)) (.string (strB x.x)) (.string (strB x.f)) (.slice a n c):=(hl2.block w.heap.size (Nat.lt_succ_self _)).trans hX
 have HX:=hid hX
 have HU:=hid (fun W=>under_calls (w:=W) (k:=x.k) (a:=a) (c:=c) (n:=n) (v:=x.v) (x:=x.x) (f:=x.f))
 have HP0:=hid (fun W=>place_calls (w:=W) (k:=x.k) (a:=a) (c:=c) (n:=n) hadr2)
 obtain ⟨c0,c1,c2,c3,c4,c5,c6,_,_,_,_,_,_,_⟩:=hX2.all
 rw [← hXo] at hr1
 have HL2:=hid (And.intro hl2 hb2)
 have hk3:=key3_und x.k a n c
 obtain ⟨⟨ua,un,uc⟩,hu⟩ : ∃ z,undV x.k a n c=z:=⟨_,rfl⟩
 rw [hu] at HU HP0 hk3
 have HK3:=hid hk3
 clear h hs hR hroot hdep hat hdb hwt T hadr hadr2 hbx hX hXo hm1 hl2 hb2 hX2 hk3 hu hn hsz
 simp only [xexV]
 have hmm:=@run_makeMap Tryz.prog
 go_enter Tryz.func10,Tryz.ntmps10
 go_wp2_with fail
 with_reducible refine (HU.out _).mono ?_
 rintro e w3 ⟨rfl,hb3⟩
 have HI : Hid (DeepIn w X (w3.alloc (.cells #[.slice ua un uc] 38)) R dep (updF (fun _=>0) (none,0) 1) (keyX x.k a n) (.slice (some ⟨w3.heap.size,0,none⟩) 1 1) [(ua,un,uc)]):=by
  have h3:=HL2.out
  have:=DeepIn.start (X:=X) HT.out (W3:=w3) (e:=(ua,un,uc)) (by rw [HK3.out];exact HR.out) (HM2.out.below hb3) (h3.1.trans (hb3.mono (by omega))) (by have:=hb3.size;omega) (HKY2.out.below hb3 (by omega))
  rw [HK3.out] at this
  exact this
 clear hb3 hr1 c0 c1 c2 c3 c4 c5 c6
 go_wp2
 go_loopw [4] (fun v wr=>∃ (st : List (Option Addr × Nat × Nat)) (f : Option Addr × Nat→Int),Hid (DeepIn w X wr R dep f (keyX x.k a n) v st)) (fun v wr=>lenV v+wtS R (kidsF w) (fOf Tryz.prog (w.heap.size+1) wr))
 case atStart=>exact ⟨_,_,HI⟩
 case round =>
  obtain ⟨st,f,HD⟩:=hrel
  obtain ⟨va,vc,rfl⟩:=HD.out.own.slice
  have HWT:=hid (HD.out.wt_eq HT.out)
  have HLOW:=hid HD.out.low0
  have hst : st=[]∨∃ st' e,st=st'++[e]:=by
   rcases List.eq_nil_or_concat st with h|⟨a,b,h⟩
   ·exact .inl h
   ·exact .inr ⟨a,b,by rw [h,List.concat_eq_append]⟩
  rcases hst with rfl|⟨st',e,rfl⟩
  ·have hf:=HD.out.last HR.out
   have hx:=(HD.out.low.block w.heap.size (Nat.lt_succ_self _)).trans HX.out
   obtain ⟨c0,c1,c2,c3,c4,c5,c6,_,_,_,_,_,_,_⟩:=XBlk.all hx
   have HL:=hid (fun W (hW : Below wr.heap.size wr W)=>(HD.out.map.below hW).look (((HT.out.blk HR.out).below HLOW.out).below hW))
   rw [hf] at HL
   clear hf hx HWT
   simp only [List.length_nil]
   go_wp2_with fail
   with_reducible refine (HU.out _).mono ?_
   rintro e w5 ⟨rfl,hb5⟩
   have HB5:=hid hb5
   clear hb5
   go_wp2_with fail
   with_reducible refine (HP0.out _).mono ?_
   rintro e w6 ⟨rfl,hb6⟩
   have HB6:=hid (HB5.out.trans (hb6.mono HB5.out.size))
   have hl:=HL.out w6 HB6.out
   clear hb6
   go_wp2
   go_ret
   exact ⟨rfl,HLOW.out.trans (HB6.out.mono HLOW.out.size)⟩
  ·have hmem:=HD.out.mem
   obtain ⟨q,hq⟩ : ∃ q,(st'++[e]).length=q:=⟨_,rfl⟩
   have HQ:=hid hq
   have hown:=HD.out.own
   rw [hq] at HD hown ⊢
   obtain ⟨g,rfl,hq1,hct,hcap⟩:=hown.top
   obtain ⟨p,hp⟩ : ∃ p,st'.length=p:=⟨_,rfl⟩
   rw [hp] at hq1 hct
   subst hq1
   have HP:=hid hp
   have HPE:=hid (fun W=>placeE_calls (w:=W) e (fun hn=>HT.out.addr hmem hn))
   have HL:=hid (fun W (hW : Below wr.heap.size wr W)=>(HD.out.map.below hW).look (((HT.out.blk hmem).below HLOW.out).below hW))
   have HM:=hid hmem
   obtain ⟨z,hz⟩ : ∃ z,f (key3 e)=z:=⟨_,rfl⟩
   have hv:=HD.out.inv.vals _ hmem
   have hpos:=HT.out.rows.pos hmem
   rw [hz] at HL hv
   have HZ:=hid hz
   have hnil:=HD.out.inv.nil
   have hen : z≤0→e.2.1≠0:=fun hz0 he=>by
    have : key3 e=(none,0):=by unfold key3;rw [if_pos he]
    rw [this,hnil] at hz
    omega
   have HEN:=hid hen
   have hpb : p≤200000001:=by
    have:=HD.out.len
    rw [List.length_append,hp] at this
    omega
   clear hq hown hp hmem hz hnil hen
   obtain ⟨ea,en,ec⟩:=e
   dsimp only at hct HPE
   go_wp2_with fail
   with_reducible refine (HPE.out _).mono ?_
   rintro e1 w5 ⟨rfl,hb5⟩
   have hl:=HL.out w5 hb5
   have HB5:=hid hb5
   clear hb5
   by_cases hz0 : z=0
   ·subst hz0
    have hne:=HEN.out (Int.le_refl _)
    have hk3 : key3 (ea,en,ec)=(ea,en):=by unfold key3;rw [if_neg hne]
    obtain ⟨hn0,l,hll,hl4,hka,_⟩:=HT.out.at_ _ HM.out (by rw [hk3];exact fun e=>hne (congrArg Prod.snd e))
    rw [hk3] at hll hka hn0
    dsimp only at hll hka hn0
    have HKA:=hid hka
    have HLL:=hid hll
    have HE:=hid (And.intro hl4 hn0)
    have HK3e:=hid hk3
    clear hv hpos hct hk3 hll hl4 hka hn0 hne
    go_wp2_with fail
    with_reducible refine (HPE.out _).mono ?_
    rintro e1 w6 ⟨rfl,hb6⟩
    have HB6:=hid (HB5.out.trans (hb6.mono HB5.out.size))
    obtain ⟨o7,W7,hr7,HW7,HM7,HKY7⟩:=(HD.out.map.below HB6.out).put (((HT.out.blk HM.out).below HLOW.out).below HB6.out) (-1)
    have HPU : Hid (DeepPush w X W7 R dep f (keyX x.k a n) (ea,en,ec) (.slice (some ⟨g,0,none⟩) (p+1) vc) st' 0):=by
     have h:=HD.out.push HT.out (o:=o7) (by rw [← HW7.out];exact HM7.out) HB6.out (by rw [← HW7.out];exact HKY7.out _ (HD.out.keys.below HB6.out (by have:=HD.out.big;omega)) (HT.out.low HM.out))
     rw [← HW7.out] at h
     exact h
    clear hb6 hl HB5
    go_wp2
    go_loopw [4,39] (fun v k wr=>∃ j : Nat,k=.int .i64 j∧j≤en∧Hid (DeepPush w X wr R dep f (keyX x.k a n) (ea,en,ec) v st' j)) (fun _ k _=>en - (RowKit.intOf k).toNat)
    case atStart=>exact ⟨0,rfl,Nat.zero_le _,HPU⟩
    case round =>
     obtain ⟨j,rfl,hj,HPj⟩:=hrel
     by_cases hlt : j < en
     ·obtain ⟨ps,ho,hk⟩:=HPj.out.own
      obtain ⟨va,vc',rfl⟩:=ho.slice
      obtain ⟨y,hy⟩ : ∃ y,l[j]?=some y:=⟨_,List.getElem?_eq_getElem (by rw [← HLL.out];exact hlt)⟩
      obtain ⟨g2,o2,a2,c2,hea,⟨d0,d1,d2,d3,d4,d5,d6⟩,hne2,hkb2,hks2⟩:=(HKA.out.below HPj.out.low0).2 j y hy
      obtain ⟨n2,hn2⟩ : ∃ n2,y.ks.length=n2:=⟨_,rfl⟩
      rw [hn2] at d6 hne2 hkb2 hks2
      have hen4 : en≤10000:=by rw [HLL.out];exact HE.out.1
      obtain ⟨len,hlen⟩ : ∃ len,(st'++(ea,en,ec) :: ps).length=len:=⟨_,rfl⟩
      have hlb : len≤500000000:=by
       have h1 : ps.length=j:=by
        have:=congrArg List.length hk
        rw [List.length_map,List.length_take,kidsF_len] at this
        have h2 : en≤10000:=by rw [HLL.out];exact HE.out.1
        have h3 : (key3 (ea,en,ec)).2=en:=by rw [HK3e.out]
        omega
       have h2 : en≤10000:=by rw [HLL.out];exact HE.out.1
       rw [← hlen,List.length_append,List.length_cons,HP.out,h1]
       omega
      have hba:=(Below.refl wr.heap.size wr).alloc (Nat.le_refl _) (.cells #[.int .i64 y.k,.int .i64 y.v.k,.int .i64 y.v.n,.string (strB y.v.s),.string (strB y.x),.string (strB y.f),.slice a2 n2 c2] 40)
      have HBA:=hid hba
      have HU2:=hid (fun W=>under_calls (w:=W) (k:=y.k) (a:=a2) (c:=c2) (n:=n2) (v:=y.v) (x:=y.x) (f:=y.f))
      have hk32:=key3_und y.k a2 n2 c2
      obtain ⟨⟨ua2,un2,uc2⟩,hu2⟩ : ∃ z,undV y.k a2 n2 c2=z:=⟨_,rfl⟩
      rw [hu2] at HU2 hk32
      have HAP : Hid (∀ w1,Below wr.heap.size wr w1→∃ a9 l9 c9 w9,(Builtin.append_ #[75,75] 75 #[.slice va len vc',.slice (some ⟨w1.heap.size,0,none⟩) 1 1]).run Tryz.prog (w1.alloc (.cells #[.slice ua2 un2 uc2] 38))=.ok (.slice a9 l9 c9) w9∧Hid (DeepPush w X w9 R dep f (keyX x.k a n) (ea,en,ec) (.slice a9 l9 c9) st' (j+1))):=fun w1 hb1=>by
       have hb5:=(Below.refl w1.heap.size w1).alloc (Nat.le_refl _) (.cells #[.slice ua2 un2 uc2] 38)
       have hb15:=hb1.trans (hb5.mono hb1.size)
       have o5:=ho.keep (TFr.of_below (K:=fun _=>False) hb15) (fun _ h=>h.elim)
       have hbig:=HPj.out.big
       rw [hlen] at o5
       obtain ⟨v9,w9,hr,ho9,hg⟩:=appRows o5 (by have:=hb15.size;omega) (by rw [hlen];omega) (ua2,un2,uc2) (heap_alloc_new w1 _)
       obtain ⟨a9,c9,rfl⟩:=ho9.slice
       refine ⟨a9,_,c9,w9,hr,?_⟩
       have hown:=o5.own
       have hmk:=(HPj.out.map.below hb15).keepL (L:=w.heap.size) (HPj.out.keys.below hb15 (by omega)) (TFr.of_grown (K:=fun b=>w.heap.size+2≤b) hg (fun k hk=>(hown k hk).1)) (by omega) (fun b hb=>by omega)
       refine ⟨⟨ps++[(ua2,un2,uc2)],?_,?_⟩,hmk.1,(HPj.out.low.trans (hb15.mono (by omega))).grown hg (by have:=hb15.size;omega) (fun k hk=>by have:=(hown k hk).1;omega),?_,hmk.2⟩
       ·rw [← List.cons_append,← List.append_assoc]
        exact ho9
       ·rw [List.map_append,hk,HK3e.out,List.take_add_one,hks2,List.map_singleton,hk32]
        rfl
       ·have:=hb15.size
        have:=hg.size
        omega
      subst hea
      rw [hlen]
      clear ho hk hy hne2 hkb2 hks2 hn2 hlen hk32 hu2 hba hr7
      go_wp2_with (first
       | (go_at_call 27;(with_reducible refine (HU2.out _).mono ?_);rintro e1 w9 ⟨rfl,hb9⟩;obtain ⟨a9,l9,c9,w10,hr9,HP9⟩:=HAP.out w9 (HBA.out.trans (hb9.mono HBA.out.size));clear hb9)
       | (at_builtin;refine Lib.wpList_append_run _ rfl _ _ _ _ rfl _ _ rfl rfl _ _ hr9 ?_;clear hr9))
      go_round
      case rel=>exact ⟨j+1,by go_num,by omega,HP9⟩
      case measure=>simp [RowKit.intOf];omega
     ·obtain ⟨st9,HD9,hlt9⟩:=HD.out.pushed HT.out HZ.out (j:=j) (by rw [kidsF_len,HK3e.out];show en≤j;omega) HPj.out
      obtain ⟨va,vc',rfl⟩:=HD9.own.slice
      have HD9:=hid HD9
      have HLT9:=hid hlt9
      clear hlt9 hr7
      go_wp2
      refine ⟨⟨_,_,HD9⟩,?_⟩
      rw [HD9.out.wt_eq HT.out,HWT.out]
      have h1:=HLT9.out
      rw [HQ.out] at h1
      exact h1
   ·have tz0 : (z == 0)=false:=by rw [beq_eq_false_iff_ne];exact hz0
    by_cases hz1 : z=-1
    ·subst hz1
     have hne:=HEN.out (by decide)
     have hk3 : key3 (ea,en,ec)=(ea,en):=by unfold key3;rw [if_neg hne]
     obtain ⟨hn0,l,hll,hl4,hka,_⟩:=HT.out.at_ _ HM.out (by rw [hk3];exact fun e=>hne (congrArg Prod.snd e))
     have hab:=fun W (hW : Below wr.heap.size wr W)=>above_calls (w:=W) (c:=ec) ((hka.below HLOW.out).below hW) (HD.out.map.below hW) HD.out.top (by omega)
     rw [hk3] at hll
     dsimp only at hll
     have hk1 : (key3 (ea,en,ec)).1=ea:=by rw [hk3]
     rw [← hll,hk1] at hab
     have HAB:=hid hab
     clear hv hpos hct hll hl4 hka hn0 hne hab hk1 hk3
     go_wp2_with fail
     with_reducible refine (HPE.out _).mono ?_
     rintro e1 w6 ⟨rfl,hb6⟩
     have HB6:=hid (HB5.out.trans (hb6.mono HB5.out.size))
     clear hb6 hl HB5
     go_wp2_with fail
     with_reducible refine (HAB.out _ HB6.out).mono ?_
     rintro e1 w7 ⟨rfl,hb7⟩
     have HB7:=hid (HB6.out.trans (hb7.mono HB6.out.size))
     obtain ⟨o8,W8,hr8,HW8,HM8,HKY8⟩:=(HD.out.map.below HB7.out).put (((HT.out.blk HM.out).below HLOW.out).below HB7.out) (1+mostF f (kidsF w (key3 (ea,en,ec))))
     have HD8 : Hid (DeepIn w X W8 R dep (updF f (key3 (ea,en,ec)) (1+mostF f (kidsF w (key3 (ea,en,ec))))) (keyX x.k a n) (.slice (some ⟨g,0,none⟩) (p+1) vc) (st'++[(ea,en,ec)])∧wtS R (kidsF w) (updF f (key3 (ea,en,ec)) (1+mostF f (kidsF w (key3 (ea,en,ec))))) < wtS R (kidsF w) f):=by
      have h:=HD.out.begun HT.out HZ.out (o:=o8) (by rw [← HW8.out];exact HM8.out) HB7.out (by rw [← HW8.out];exact HKY8.out _ (HD.out.keys.below HB7.out (by have:=HD.out.big;omega)) (HT.out.low HM.out))
      rw [← HW8.out] at h
      exact h
     clear hb7 HAB HB6
     go_wp2
     refine ⟨⟨_,_,HD8.out.1⟩,?_⟩
     rw [HD8.out.1.wt_eq HT.out,HWT.out]
     have:=HD8.out.2
     omega
    ·have tz1 : (z == -1)=false:=by rw [beq_eq_false_iff_ne];exact hz1
     have hzp : 0 < z:=by
      rcases hv with h|h|h
      ·exact absurd h hz0
      ·exact absurd h hz1
      ·omega
     have HD5:=hid ((HD.out.below HB5.out).done (by rw [HZ.out];exact hzp) (((HD.out.below HB5.out).own).pop))
     clear hv hpos hct
     go_wp2
     refine ⟨⟨_,_,HD5⟩,?_⟩
     show lenV (.slice _ p _)+_ < lenV (.slice _ (p+1) _)+_
     rw [HD5.out.wt_eq HT.out,HWT.out]
     show p+_ < p+1+_
     omega
end Go.Proofs.YtefcbgnckgapgaaGreatDoor
