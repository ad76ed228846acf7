/- The statement NfaOpt: its walk. -/
import Derived.Test.YtefcbgnckgapgaaMI
namespace Go.Proofs.Ytefcbgnckgapgaa
open Go.RowKit Go.Lib Go.Op
theorem flat_take {α : Type} {css : List (List α)} {k i : Nat} {u : α} (h : (css.take k).flatten[i]?=some u) : css.flatten[i]?=some u:=by
 have e : css.flatten=(css.take k).flatten++(css.drop k).flatten:=by rw [← List.flatten_append,List.take_append_drop]
 rw [e,List.getElem?_append_left (List.getElem?_eq_some_iff.1 h).1]
 exact h
theorem flat_drop {css : List (List Value)} {m n i : Nat} {u : Value} (hk : ∀ c∈css,c.length=n) (hm : m≤css.length) (h : (css.drop m).flatten[i]?=some u) : css.flatten[m*n+i]?=some u:=by
 have e : css.flatten=(css.take m).flatten++(css.drop m).flatten:=by rw [← List.flatten_append,List.take_append_drop]
 have hl : (css.take m).flatten.length=m*n:=by
  rw [flat_len (k:=n) (fun c hc=>hk c (List.mem_of_mem_take hc)),List.length_take,Nat.min_eq_left hm]
 rw [e,List.getElem?_append_right (by omega),hl,show m*n+i - m*n=i by omega]
 exact h
theorem items_upto (a : Option Addr) (n c m : Nat) (hm : m≤n) (_ : n≤c) (W : World) : (Instr.slice 22 (.slice a n c) none (some (.int .i64 (m : Int))) none).run Try.prog W=.ok (.slice a m c) W:=by
 have hz : (sizeOf 38).run Try.prog W=.ok 4 W:=by kernel_rfl
 rw [run_slice_h (P:=Try.prog) W 22 a n c (by kernel_rfl) .i64 (m : Int) (by omega) (by omega)]
 have he : Try.prog.elem 22=38:=by kernel_rfl
 rw [he,hz]
 cases a <;> simp [Result.andThen,sliced,Addr.add]
def behA (g o c m : Nat) : Addr:=if c=m then ⟨g,o,none⟩ else ⟨g,o+m*4,none⟩
theorem items_from (g o n c m : Nat) (hm : m≤n) (_ : n≤c) (W : World) : (Instr.slice 22 (.slice (some ⟨g,o,none⟩) n c) (some (.int .i64 (m : Int))) none none).run Try.prog W=.ok (.slice (some (behA g o c m)) (n - m) (c - m)) W:=by
 have hz : (sizeOf 38).run Try.prog W=.ok 4 W:=by kernel_rfl
 rw [run_slice_l (P:=Try.prog) W 22 (some ⟨g,o,none⟩) n c (by kernel_rfl) .i64 (m : Int) (by omega) (by omega)]
 have he : Try.prog.elem 22=38:=by kernel_rfl
 rw [he,hz]
 unfold behA
 simp only [Result.andThen,sliced,Int.toNat_natCast]
 split
 ·rfl
 ·rw [Option.map_some,add_at rfl]
theorem opt_out {p : PQu} (h : rightQ p=true) {kk : Nat} {y : PIt} (hy : p.its[kk]?=some y) (hm : y.mode=3) (hn : y.no=false) {names : List (List UInt8)} (ho : ∀ a∈names,a ∉ y.ns) :
 rightQ ⟨p.its.take kk++p.its.drop (kk+1),[],p.within,p.by_,p.pick⟩=true∧accQ (p.its.take kk++p.its.drop (kk+1)) names=accQ p.its names:=by
 obtain ⟨i0,rr,hi0,_,hm0,_⟩:=rightQ_first h
 cases kk with
 | zero =>
   rw [hi0] at hy
   obtain rfl : i0=y:=by simpa using hy
   exact absurd hm hm0
 | succ k =>
   have hy2 : rr[k]?=some y:=by
    rw [hi0] at hy
    simpa using hy
   have e1 : p.its.take (k+1)++p.its.drop (k+1+1)=i0 :: (rr.take k++rr.drop (k+1)):=by rw [hi0];simp
   have e2 : rr=rr.take k++y :: rr.drop (k+1):=by rw [← drop_at hy2,List.take_append_drop]
   rw [e1]
   refine ⟨rightQ_sub h hi0 ?_,?_⟩
   ·conv=>rhs;rw [e2]
    exact (List.Sublist.refl _).append (List.sublist_cons_self _ _)
   ·have h3:=accQ_out (y:=i0) (x:=y) (A:=rr.take k) (B:=rr.drop (k+1)) hm hn ho
    rw [List.cons_append,List.cons_append,← e2,← hi0] at h3
    exact h3
theorem opt_rows {w0 : World} {g o c : Nat} {l : List PIt} {kk : Nat} (h : RowK itemD (fun _=>False) w0 (.slice (some ⟨g,o,none⟩) l.length c) l) (hlen : l.length≤6) (hk : kk < l.length) {B : Nat} (hB : w0.heap.size≤B) :
 (∀ W v,Below w0.heap.size w0 W→B≤W.heap.size→OwnQ W B w0.heap.size v []→∃ a3 l3 c3 w5,(Builtin.append_ #[22,22] 22 #[v,.slice (some ⟨g,o,none⟩) kk c]).run Try.prog W=.ok (.slice a3 l3 c3) w5∧OwnQ w5 B w0.heap.size (.slice a3 l3 c3) (l.take kk)∧Below B W w5) ∧
 (∀ W v,Below w0.heap.size w0 W→B≤W.heap.size→OwnQ W B w0.heap.size v (l.take kk)→∃ a3 l3 c3 w5,(Builtin.append_ #[22,22] 22 #[v,.slice (some (behA g o c (kk+1))) (l.length - (kk+1)) (c - (kk+1))]).run Try.prog W=.ok (.slice a3 l3 c3) w5∧OwnQ w5 B w0.heap.size (.slice a3 l3 c3) (l.take kk++l.drop (kk+1))∧Below B W w5):=by
 obtain ⟨css,hcl,hc4,hcx,hcc⟩:=h.flat
 refine ⟨fun W v hW hBW ho=>?_,fun W v hW hBW ho=>?_⟩
 ·have hl1 : (l.take kk).length=kk:=by rw [List.length_take];omega
  obtain ⟨v9,w9,hr,ho9,hg⟩:=ho.append (l2:=l.take kk) (A:=⟨g,o,none⟩) (c:=c) (css2:=css.take kk) hB hBW (by simp) (by omega) (by rw [List.length_take,List.length_take];omega) (fun c hc=>hc4 c (List.mem_of_mem_take hc)) (fun j x hj=>by
   rw [List.getElem?_take] at hj
   split at hj
   ·rename_i hjk
    obtain ⟨cs,h1,h2⟩:=hcx j x hj
    exact ⟨cs,by rw [List.getElem?_take,if_pos hjk];exact h1,itemD.keep (TFr.of_below hW) (item_old h2)⟩
   ·cases hj) (fun i u hu=>tkeep hW (hcc i u (flat_take hu)))
  rw [hl1] at hr
  obtain ⟨a3,c3,rfl⟩:=ho9.slice
  exact ⟨a3,_,c3,w9,hr,by simpa using ho9,(Below.refl B W).grown hg hBW (fun k hk=>(ho.own k hk).1)⟩
 ·have hl1 : (l.drop (kk+1)).length=l.length - (kk+1):=by rw [List.length_drop]
  obtain ⟨v9,w9,hr,ho9,hg⟩:=ho.append (l2:=l.drop (kk+1)) (A:=behA g o c (kk+1)) (c:=c - (kk+1)) (css2:=css.drop (kk+1)) hB hBW (by rw [List.length_take];omega) (by omega) (by rw [List.length_drop,List.length_drop];omega) (fun c hc=>hc4 c (List.mem_of_mem_drop hc)) (fun j x hj=>by
   rw [List.getElem?_drop] at hj
   obtain ⟨cs,h1,h2⟩:=hcx _ x hj
   exact ⟨cs,by rw [List.getElem?_drop];exact h1,itemD.keep (TFr.of_below hW) (item_old h2)⟩) (fun i u hu=>by
   have h1:=hcc _ u (flat_drop hc4 (by omega) hu)
   have hcap:=h.cap
   have hne : c≠kk+1:=fun e=>by
    have h3 : css.drop (kk+1)=[]:=List.drop_eq_nil_of_le (by omega)
    rw [h3] at hu
    simp at hu
   unfold behA
   rw [if_neg hne,add_at rfl]
   rw [add_at rfl] at h1
   have e : o+((kk+1)*4+i)=o+(kk+1)*4+i:=by omega
   dsimp only at h1 ⊢
   rw [e] at h1
   exact tkeep hW h1)
  rw [hl1] at hr
  obtain ⟨a3,c3,rfl⟩:=ho9.slice
  exact ⟨a3,_,c3,w9,hr,ho9,(Below.refl B W).grown hg hBW (fun k hk=>(ho.own k hk).1)⟩
set_option maxHeartbeats 8000000 in
set_option maxRecDepth 100000 in
theorem nopt_walk (w : World) {a b : Option Addr} {q c r e : Nat} {p : PQu} (h : QuAt (fun _=>False) w a q c b r e p) (hl : QLn p) {a2 : Option Addr} {c2 : Nat} {names : List (List UInt8)} (hn : RowK nameD (fun _=>False) w (.slice a2 names.length c2) names) (hnl : names.length≤140737488355328) (hnb : ∀ x∈names,x.length≤maxLen) (t : Int) (ht : 0≤t∧t≤255) :
 Calls Try.prog 8 #[.agg #[.slice a q c,.slice b r e,.int .i64 p.within,.string (strB p.by_),.int .i64 p.pick],.slice a2 names.length c2,.int .u8 t] w fun e w'=>e=.returned (.bool true)∧Below w.heap.size w w':=by
 have hb0:=(Below.refl w.heap.size w).alloc (Nat.le_refl _) (.cells #[.slice a q c,.slice b r e,.int .i64 p.within,.string (strB p.by_),.int .i64 p.pick] 25)
 have HX:=hid (Blk.new w #[.slice a q c,.slice b r e,.int .i64 p.within,.string (strB p.by_),.int .i64 p.pick] 25)
 have HB0:=hid hb0
 have HQ:=hid h
 have HL:=hid hl
 have HN:=hid hn
 have HNB:=hid hnb
 obtain ⟨nl,hnlq⟩ : ∃ nl,names.length=nl:=⟨_,rfl⟩
 have HNL:=hid hnlq
 have HN2:=hid hnl
 rw [hnlq] at hnl ⊢
 clear hn hnb hnlq
 have HH:=hid (nhead_calls (w:=w.alloc (.cells #[.slice a q c,.slice b r e,.int .i64 p.within,.string (strB p.by_),.int .i64 p.pick] 25)))
 clear h hl hb0
 go_enter Try.func8,Try.ntmps8
 go_wp2_with fail
 with_reducible refine HH.out.mono ?_
 rintro e1 w1 ⟨rfl,hb1⟩
 have HB1:=hid (HB0.out.trans (hb1.mono HB0.out.size))
 have X1:=hid (HX.out.low hb1)
 have x0:=tcell X1.out (k:=0) rfl
 have x1:=tcell X1.out (k:=1) rfl
 have x2:=tcell X1.out (k:=2) rfl
 have x3:=tcell X1.out (k:=3) rfl
 have x4:=tcell X1.out (k:=4) rfl
 have HG:=hid (great_calls (w:=w1) ⟨HQ.out.1.low HB1.out,HQ.out.2.low HB1.out⟩ HL.out)
 clear hb1 HH HX HB0
 go_wp2_with fail
 with_reducible refine HG.out.mono ?_
 rintro e2 w2 ⟨g,rfl,hsm,hb2⟩
 have HB2:=hid (HB1.out.trans (hb2.mono HB1.out.size))
 have X2:=hid (X1.out.low hb2)
 clear hb2 HG X1 HB1 x0 x1 x2 x3 x4
 cases g with
 | true =>
   clear hsm
   go_wp2
   go_ret
   exact ⟨rfl,HB2.out⟩
 | false =>
 have HS:=hid (hsm rfl)
 clear hsm
 have x0:=tcell X2.out (k:=0) rfl
 have x1:=tcell X2.out (k:=1) rfl
 have x2:=tcell X2.out (k:=2) rfl
 have x3:=tcell X2.out (k:=3) rfl
 have x4:=tcell X2.out (k:=4) rfl
 have hgn:=ngreat_calls (w:=w2) (HN.out.low HB2.out) HN2.out HNB.out
 obtain ⟨gz,hgz⟩ : ∃ z,decide (3000≤greatN names names.length)=z:=⟨_,rfl⟩
 rw [hgz,HNL.out] at hgn
 have HGN:=hid hgn
 have HGZ:=hid hgz
 clear hgn hgz
 go_wp2_with fail
 with_reducible refine HGN.out.mono ?_
 rintro e3 w3 ⟨rfl,hb3⟩
 have HB3:=hid (HB2.out.trans (hb3.mono HB2.out.size))
 have X3:=hid (X2.out.low hb3)
 clear hb3 HGN X2 HB2 x0 x1 x2 x3 x4
 cases gz with
 | true =>
   go_wp2
   go_ret
   exact ⟨rfl,HB3.out⟩
 | false =>
 have x0:=tcell X3.out (k:=0) rfl
 have x1:=tcell X3.out (k:=1) rfl
 have x2:=tcell X3.out (k:=2) rfl
 have x3:=tcell X3.out (k:=3) rfl
 have x4:=tcell X3.out (k:=4) rfl
 have hr:=right_said (fun _=>False) w3 a b q c r e p ⟨HQ.out.1.low HB3.out,HQ.out.2.low HB3.out⟩ HS.out.bd
 obtain ⟨z,hz⟩ : ∃ z,rightQ p=z:=⟨_,rfl⟩
 rw [hz] at hr
 have HR:=hid hr
 have HZ:=hid hz
 clear hr hz
 go_wp2_with fail
 with_reducible refine HR.out.mono ?_
 rintro e4 w4 ⟨rfl,hb4⟩
 have HB4:=hid (HB3.out.trans (hb4.mono HB3.out.size))
 have X4:=hid (X3.out.low hb4)
 clear hb4 HR X3 HB3 x0 x1 x2 x3 x4
 cases z with
 | false =>
   go_wp2
   go_ret
   exact ⟨rfl,HB4.out⟩
 | true =>
 have x0:=tcell X4.out (k:=0) rfl
 have x1:=tcell X4.out (k:=1) rfl
 have x2:=tcell X4.out (k:=2) rfl
 have x3:=tcell X4.out (k:=3) rfl
 have x4:=tcell X4.out (k:=4) rfl
 obtain ⟨i0,rr,hi0,hno0,hm0,hlen6⟩:=rightQ_first HZ.out
 have HQL:=hid HQ.out.1.len
 rw [← HQL.out] at hlen6
 have hq0 : 0 < q:=by rw [HQL.out,hi0];simp
 have HI0:=hid hi0
 have HM0:=hid hm0
 obtain ⟨kk,hkk⟩ : ∃ kk : Nat,t % (q : Int)=kk:=⟨(t % (q : Int)).toNat,by have:=Int.emod_nonneg t (show (q : Int)≠0 by omega);omega⟩
 have hkq : kk < q:=by
  have:=Int.emod_lt_of_pos t (show (0 : Int) < q by omega)
  omega
 have htm : Int.tmod t (q : Int)=kk:=by rw [Int.tmod_eq_emod_of_nonneg ht.1,hkk]
 have hwr : IntKind.i64.wrap t=t:=IntWalk.i64_in _ (by omega)
 have hki : (0 : Int)≤(kk : Int)∧(kk : Int) < (q : Int):=by omega
 obtain ⟨y,hy⟩ : ∃ y,p.its[kk]?=some y:=⟨_,List.getElem?_eq_getElem (by rw [← HQL.out];exact hkq)⟩
 obtain ⟨g,o,a1,c1,rfl,d0,d1,d2,d3,hr⟩:=HQ.out.1.itemAt hy
 replace d0:=tkeep HB4.out d0
 replace d1:=tkeep HB4.out d1
 replace d2:=tkeep HB4.out d2
 replace d3:=tkeep HB4.out d3
 have hit:=rightQ_item HZ.out (List.mem_of_getElem? hy)
 have HY:=hid hy
 clear hi0 hno0 hm0 hkk ht hy
 by_cases hm : y.mode=3
 ·have hno : y.no=false:=by
   cases hn : y.no with
   | false=>rfl
   | true=>have:=hit.2.2.1 hn;omega
  obtain ⟨m,hml⟩ : ∃ m,y.ns.length=m:=⟨_,rfl⟩
  have hm3 : y.ns.length≤3:=hit.2.2.2.1
  have HR:=hid hr
  have HMl:=hid hml
  rw [hno] at d0
  rw [hml] at d1
  rw [hm] at d3
  have HNO:=hid hno
  have HMD:=hid hm
  clear hit hr hno hm hml
  go_wp2
  clear htm hwr
  have HB40 : Hid (Below w4.heap.size w4 w4):=Below.refl _ _
  go_loopw [9] (fun i wr=>∃ j : Nat,i=.int .i64 j∧j≤nl∧Hid (∀ x∈names.take j,x ∉ y.ns)∧Hid (Below w4.heap.size w4 wr)) (fun i _=>nl - (RowKit.intOf i).toNat)
  case atStart=>exact ⟨0,rfl,Nat.zero_le _,fun x hx=>(by simp at hx),HB40⟩
  case round =>
   obtain ⟨j,rfl,hj,HA,HB⟩:=hrel
   have HBw:=hid (HB4.out.trans (HB.out.mono HB4.out.size))
   have xr:=X4.out.low HB.out
   have y0:=tcell xr (k:=0) rfl
   by_cases hlt : j < nl
   ·obtain ⟨u,hu⟩ : ∃ u,names[j]?=some u:=⟨_,List.getElem?_eq_getElem (by rw [HNL.out];exact hlt)⟩
    obtain ⟨gn,on,rfl,hc⟩:=RowK.nameAt (HN.out.low HBw.out) hu
    have hw : IntKind.i64.wrap ((j : Int)+1)=((j+1 : Nat) : Int):=by rw [IntWalk.i64_in _ (by omega)];omega
    have hhas:=nrhas_calls (w:=wr.drew) ((HR.out.low HBw.out).low (vbelow_drew (Below.refl _ wr))) (by omega) false (strB y.x) 3 u
    rw [HMl.out] at hhas
    have HBd:=hid (vbelow_drew HB.out)
    have f0 : wr.drew.cell? ⟨w.heap.size,0,none⟩=some (.slice (some ⟨g,o,none⟩) q c):=y0
    have f1 : wr.drew.cell? ⟨g,o+kk*4,none⟩=some (.bool false):=tkeep HB.out d0
    have f2 : wr.drew.cell? ⟨g,o+kk*4+1,none⟩=some (.slice a1 m c1):=tkeep HB.out d1
    have f3 : wr.drew.cell? ⟨g,o+kk*4+2,none⟩=some (.string (strB y.x)):=tkeep HB.out d2
    have f4 : wr.drew.cell? ⟨g,o+kk*4+3,none⟩=some (.int .i64 3):=tkeep HB.out d3
    have f5 : wr.drew.cell? ⟨gn,on+j,none⟩=some (.string (strB u)):=hc
    by_cases hin : u∈y.ns
    ·rw [decide_eq_true hin] at hhas
     have HHas:=hid hhas
     clear hhas hu hin xr
     go_wp2_with fail
     clear hc y0
     refine wp_region_held_drew (S:=fun W=>W.cell? ⟨w.heap.size,0,none⟩=some (.slice (some ⟨g,o,none⟩) q c)∧W.cell? ⟨g,o+kk*4,none⟩=some (.bool false)∧W.cell? ⟨g,o+kk*4+1,none⟩=some (.slice a1 m c1)∧W.cell? ⟨g,o+kk*4+2,none⟩=some (.string (strB y.x))∧W.cell? ⟨g,o+kk*4+3,none⟩=some (.int .i64 3)∧W.cell? ⟨gn,on+j,none⟩=some (.string (strB u))) (by kernel_rfl) ⟨by assumption,by assumption,by assumption,by assumption,by assumption,by assumption⟩ (fun hHeld=>?_)
     refine tK 0 44 (h:=?_)
     try simp only [Act.put,sI,sZ,sS]
     refine tK 1 45 (h:=?_)
     try simp only [Act.put,sI,sZ,sS]
     refine tK 2 46 (h:=?_)
     try simp only [Act.put,sI,sZ,sS]
     refine tK 3 47 (h:=?_)
     try simp only [Act.put,sI,sZ,sS]
     refine tK 4 48 (h:=?_)
     try simp only [Act.put,sI,sZ,sS]
     refine tK 5 49 (h:=?_)
     try simp only [Act.put,sI,sZ,sS]
     refine tK 6 50 (h:=?_)
     try simp only [Act.put,sI,sZ,sS]
     refine tK 7 51 (h:=?_)
     try simp only [Act.put,sI,sZ,sS]
     refine tK 8 52 (h:=?_)
     try simp only [Act.put,sI,sZ,sS]
     refine wpAnyH_ready (rs:=[9]) (by kernel_rfl) (by simp) ?_
     refine AllReadyH.cons (o:=_) rfl (fun K hK=>?_) AllReadyH.nil
     dsimp only [List.getElem_toArray,List.getElem_cons_succ,List.getElem_cons_zero]
     go_simp
     go_at_call 18
     (with_reducible refine HHas.out.mono ?_)
     rintro e v1 ⟨rfl,hb⟩
     have HB9:=hid (HBd.out.trans (hb.mono HBd.out.size))
     have k0:=tkeep hb f0
     have k1:=tkeep hb f1
     have k2:=tkeep hb f2
     have k3:=tkeep hb f3
     have k4:=tkeep hb f4
     have k5:=tkeep hb f5
     clear hb
     go_wp2_with fail
     refine hK.out _ _ ⟨k0,k1,k2,k3,k4,k5⟩ (fun hHeld=>?_)
     clear hK K
     try simp only [Act.put,sI,sZ,sS]
     refine wpAnyH_done (by kernel_rfl) ?_ _
     go_wp2
     go_ret
     exact ⟨rfl,HB4.out.trans (HB9.out.mono HB4.out.size)⟩
    ·rw [decide_eq_false hin] at hhas
     have HHas:=hid hhas
     have HA2 : Hid (∀ x∈names.take (j+1),x ∉ y.ns):=by
      show ∀ x∈_,_
      rw [List.take_add_one,hu]
      intro x hx
      rcases List.mem_append.1 hx with hx|hx
      ·exact HA.out x hx
      ·obtain rfl : x=u:=by simpa using hx
       exact hin
     clear hhas hu hin xr
     go_wp2_with fail
     clear hc y0
     refine wp_region_held_drew (S:=fun W=>W.cell? ⟨w.heap.size,0,none⟩=some (.slice (some ⟨g,o,none⟩) q c)∧W.cell? ⟨g,o+kk*4,none⟩=some (.bool false)∧W.cell? ⟨g,o+kk*4+1,none⟩=some (.slice a1 m c1)∧W.cell? ⟨g,o+kk*4+2,none⟩=some (.string (strB y.x))∧W.cell? ⟨g,o+kk*4+3,none⟩=some (.int .i64 3)∧W.cell? ⟨gn,on+j,none⟩=some (.string (strB u))) (by kernel_rfl) ⟨by assumption,by assumption,by assumption,by assumption,by assumption,by assumption⟩ (fun hHeld=>?_)
     refine tK 0 44 (h:=?_)
     try simp only [Act.put,sI,sZ,sS]
     refine tK 1 45 (h:=?_)
     try simp only [Act.put,sI,sZ,sS]
     refine tK 2 46 (h:=?_)
     try simp only [Act.put,sI,sZ,sS]
     refine tK 3 47 (h:=?_)
     try simp only [Act.put,sI,sZ,sS]
     refine tK 4 48 (h:=?_)
     try simp only [Act.put,sI,sZ,sS]
     refine tK 5 49 (h:=?_)
     try simp only [Act.put,sI,sZ,sS]
     refine tK 6 50 (h:=?_)
     try simp only [Act.put,sI,sZ,sS]
     refine tK 7 51 (h:=?_)
     try simp only [Act.put,sI,sZ,sS]
     refine tK 8 52 (h:=?_)
     try simp only [Act.put,sI,sZ,sS]
     refine wpAnyH_ready (rs:=[9]) (by kernel_rfl) (by simp) ?_
     refine AllReadyH.cons (o:=_) rfl (fun K hK=>?_) AllReadyH.nil
     dsimp only [List.getElem_toArray,List.getElem_cons_succ,List.getElem_cons_zero]
     go_simp
     go_at_call 18
     (with_reducible refine HHas.out.mono ?_)
     rintro e v1 ⟨rfl,hb⟩
     have HB9:=hid (HBd.out.trans (hb.mono HBd.out.size))
     have k0:=tkeep hb f0
     have k1:=tkeep hb f1
     have k2:=tkeep hb f2
     have k3:=tkeep hb f3
     have k4:=tkeep hb f4
     have k5:=tkeep hb f5
     clear hb
     go_wp2_with fail
     refine hK.out _ _ ⟨k0,k1,k2,k3,k4,k5⟩ (fun hHeld=>?_)
     clear hK K
     try simp only [Act.put,sI,sZ,sS]
     refine wpAnyH_done (by kernel_rfl) ?_ _
     go_wp2
     exact ⟨⟨j+1,rfl,hlt,HA2,HB9⟩,by simp [RowKit.intOf];omega⟩
   ·have hjn : j=nl:=by omega
    have hout : ∀ a∈names,a ∉ y.ns:=by
     have h:=HA.out
     rw [hjn,← HNL.out,List.take_length] at h
     exact h
    have HOUT:=hid hout
    have y1:=tcell xr (k:=1) rfl
    have y2:=tcell xr (k:=2) rfl
    have y3:=tcell xr (k:=3) rfl
    have y4:=tcell xr (k:=4) rfl
    have HBA:=hid ((Below.refl wr.heap.size wr).alloc (Nat.le_refl _) (.cells #[.slice (some ⟨g,o,none⟩) q c,.slice none 0 0,.int .i64 p.within,.string (strB p.by_),.int .i64 p.pick] 25))
    have HX1:=hid (Blk.new wr #[.slice (some ⟨g,o,none⟩) q c,.slice none 0 0,.int .i64 p.within,.string (strB p.by_),.int .i64 p.pick] 25)
    have XR:=hid xr
    have f0 : (wr.alloc (.cells #[.slice (some ⟨g,o,none⟩) q c,.slice none 0 0,.int .i64 p.within,.string (strB p.by_),.int .i64 p.pick] 25)).drew.cell? ⟨w.heap.size,0,none⟩=some (.slice (some ⟨g,o,none⟩) q c):=tkeepAl y0 _
    have hup:=items_upto (some ⟨g,o,none⟩) q c kk (by omega) (by have:=HQ.out.1.cap;have:=HQL.out;omega)
    have hfr:=items_from g o q c (kk+1) (by omega) (by have:=HQ.out.1.cap;have:=HQL.out;omega)
    have hw1 : IntKind.i64.wrap ((kk : Int)+1)=((kk+1 : Nat) : Int):=by rw [IntWalk.i64_in _ (by omega)];omega
    have hw2 : ((kk+1 : Nat) : Int)=(kk : Int)+1:=by omega
    rw [hw2] at hfr
    have hki2 : (0 : Int)≤(kk : Int)+1∧(kk : Int)+1≤(q : Int):=by omega
    clear hjn hout xr d0 d1 d2 d3
    go_wp2_with fail
    clear y0 y1 y2 y3 y4
    refine wp_region_held_drew (S:=fun W=>W.cell? ⟨w.heap.size,0,none⟩=some (.slice (some ⟨g,o,none⟩) q c)) (by kernel_rfl) (by assumption) (fun hHeld=>?_)
    obtain ⟨wd,hwd⟩ : ∃ wd,wd=(wr.alloc (.cells #[.slice (some ⟨g,o,none⟩) q c,.slice none 0 0,.int .i64 p.within,.string (strB p.by_),.int .i64 p.pick] 25)).drew:=⟨_,rfl⟩
    have hszd : (wr.alloc (.cells #[.slice (some ⟨g,o,none⟩) q c,.slice none 0 0,.int .i64 p.within,.string (strB p.by_),.int .i64 p.pick] 25)).drew.heap.size=wr.heap.size+1:=by simp
    have HWD : Hid (Below wr.heap.size wr wd):=by rw [hwd];exact vbelow_drew HBA.out
    have HXD : Hid (Blk wd wr.heap.size #[.slice (some ⟨g,o,none⟩) q c,.slice none 0 0,.int .i64 p.within,.string (strB p.by_),.int .i64 p.pick] 25):=by rw [hwd];exact HX1.out
    rw [← hwd] at hHeld hszd ⊢
    clear hwd f0
    have HSZ:=hid hszd
    have hrows:=opt_rows (w0:=wr) (l:=p.its) (kk:=kk) (g:=g) (o:=o) (c:=c) (by have h:=HQ.out.1.low HBw.out;rw [HQL.out] at h;exact h) (by have:=HQL.out;omega) (by have:=HQL.out;omega) (B:=wr.heap.size+1) (Nat.le_succ _)
    rw [← HQL.out] at hrows
    have HR1:=hid hrows.1
    have HR2:=hid hrows.2
    have hlw : w.heap.size < wr.heap.size:=Nat.lt_of_lt_of_le X4.out.lt HB.out.size
    have HLW:=hid hlw
    clear hrows hszd hlw
    refine ttakeH 1 58 (v:=?vc1) rfl (by kernel_rfl) (by kernel_rfl) (by kernel_rfl) rfl (fun _ _ _ h=>h) (by rfl) ?yc1 (by assumption) ?rc1
    case yc1=>(intro W hSw;(try dsimp only at hSw);(try obtain hS0:=hSw);go_simp;(try rw [if_neg (by omega)]);try with_reducible rfl)
    try simp only [Act.put,sI,sZ,sS]
    refine ttakeH 2 59 (v:=?vc2) rfl (by kernel_rfl) (by kernel_rfl) (by kernel_rfl) rfl (fun _ _ _ h=>h) (by rfl) ?yc2 (by assumption) ?rc2
    case yc2=>(intro W hSw;(try dsimp only at hSw);(try obtain hS0:=hSw);go_simp;(try rw [if_neg (by omega)]);try with_reducible rfl)
    try simp only [Act.put,sI,sZ,sS]
    refine ttakeH 3 60 (v:=?vc3) rfl (by kernel_rfl) (by kernel_rfl) (by kernel_rfl) rfl (fun _ _ _ h=>h) (by rfl) ?yc3 (by assumption) ?rc3
    case yc3=>(intro W hSw;(try dsimp only at hSw);(try obtain hS0:=hSw);go_simp;(try rw [if_neg (by omega)]);try with_reducible rfl)
    try simp only [Act.put,sI,sZ,sS]
    refine ttakeH 4 61 (v:=?vc4) rfl (by kernel_rfl) (by kernel_rfl) (by kernel_rfl) rfl (fun _ _ _ h=>h) (by rfl) ?yc4 (by assumption) ?rc4
    case yc4=>(intro W hSw;(try dsimp only at hSw);(try obtain hS0:=hSw);go_simp;(try rw [if_neg (by omega)]);try with_reducible rfl)
    try simp only [Act.put,sI,sZ,sS]
    refine ttakeH 6 63 (v:=?vc6) rfl (by kernel_rfl) (by kernel_rfl) (by kernel_rfl) rfl (fun _ _ _ h=>h) (by rfl) ?yc6 (by assumption) ?rc6
    case yc6=>(intro W hSw;(try dsimp only at hSw);(try obtain hS0:=hSw);go_simp;(try rw [if_neg (by omega)]);try with_reducible rfl)
    try simp only [Act.put,sI,sZ,sS]
    refine ttakeH 7 64 (v:=?vc7) rfl (by kernel_rfl) (by kernel_rfl) (by kernel_rfl) rfl (fun _ _ _ h=>h) (by rfl) ?yc7 (by assumption) ?rc7
    case yc7=>(intro W hSw;(try dsimp only at hSw);(try obtain hS0:=hSw);go_simp;(try rw [if_neg (by omega)]);try with_reducible rfl)
    try simp only [Act.put,sI,sZ,sS]
    refine ttakeH 8 65 (v:=?vc8) rfl (by kernel_rfl) (by kernel_rfl) (by kernel_rfl) rfl (fun _ _ _ h=>h) (by rfl) ?yc8 (by assumption) ?rc8
    case yc8=>(intro W hSw;(try dsimp only at hSw);(try obtain hS0:=hSw);go_simp;(try rw [if_neg (by omega)]);try with_reducible rfl)
    try simp only [Act.put,sI,sZ,sS]
    refine ttakeH 9 66 (v:=?vc9) rfl (by kernel_rfl) (by kernel_rfl) (by kernel_rfl) rfl (fun _ _ _ h=>h) (by rfl) ?yc9 (by assumption) ?rc9
    case yc9=>(intro W hSw;(try dsimp only at hSw);(try obtain hS0:=hSw);go_simp;(try rw [if_neg (by omega)]);try with_reducible rfl)
    try simp only [Act.put,sI,sZ,sS]
    refine ttakeH 10 67 (v:=?vc10) rfl (by kernel_rfl) (by kernel_rfl) (by kernel_rfl) rfl (fun _ _ _ h=>h) (by rfl) ?yc10 (by assumption) ?rc10
    case yc10=>(intro W hSw;(try dsimp only at hSw);(try obtain hS0:=hSw);go_simp;(try rw [if_neg (by omega)]);try with_reducible rfl)
    try simp only [Act.put,sI,sZ,sS]
    refine wpAnyH_ready (rs:=[0]) (by kernel_rfl) (by simp) ?_
    refine AllReadyH.cons (o:=_) rfl (fun K hK=>?_) AllReadyH.nil
    dsimp only [List.getElem_toArray,List.getElem_cons_succ,List.getElem_cons_zero]
    go_simp
    have HB1:=hid ((Below.refl wd.heap.size wd).alloc (Nat.le_refl _) (.cells #[] 38))
    have HE:=hid (OwnQ.empty (W:=(wd.alloc (.cells #[] 38))) (B:=wr.heap.size+1) (N:=wr.heap.size) (g:=wd.heap.size) (by rw [HSZ.out];exact Nat.le_refl _) (heap_alloc_new wd _))
    refine hK.out _ _ (tkeep HB1.out hHeld) (fun hHeld0=>?_)
    clear hK K
    try simp only [Act.put,sI,sZ,sS]
    refine wpAnyH_ready (rs:=[5]) (by kernel_rfl) (by simp) ?_
    refine AllReadyH.cons (o:=_) rfl (fun K hK=>?_) AllReadyH.nil
    dsimp only [List.getElem_toArray,List.getElem_cons_succ,List.getElem_cons_zero]
    obtain ⟨a3,l3,c3,w5,hr3,hO3,hB3⟩:=HR1.out (wd.alloc (.cells #[] 38)) _ (HWD.out.trans (HB1.out.mono HWD.out.size)) (by have:=HB1.out.size;have:=HSZ.out;omega) HE.out
    have HB3:=hid ((HB1.out.mono (show wr.heap.size+1≤wd.heap.size by rw [HSZ.out];exact Nat.le_refl _)).trans hB3)
    have HO3:=hid hO3
    refine step_append_runI (by rfl) (.tmp 57) (.tmp 61) 22 22 rfl _ _ (by simp [Act.eval]) (by simp [Act.eval]) hr3 ?_
    refine hK.out _ _ ((HB3.out.cell (p:=⟨w.heap.size,0,none⟩) (by have:=HLW.out;show w.heap.size < wr.heap.size+1;omega)).trans hHeld) (fun hHeld5=>?_)
    clear hK K hr3 hO3 hB3
    try simp only [Act.put,sI,sZ,sS]
    refine wpAnyH_ready (rs:=[11]) (by kernel_rfl) (by simp) ?_
    refine AllReadyH.cons (o:=_) rfl (fun K hK=>?_) AllReadyH.nil
    dsimp only [List.getElem_toArray,List.getElem_cons_succ,List.getElem_cons_zero]
    obtain ⟨a9,l9,c9,w8,hr9,hO9,hB9⟩:=HR2.out w5 _ (HWD.out.trans (HB3.out.mono (Nat.le_succ _))) (by have:=HB3.out.size;have:=HSZ.out;omega) HO3.out
    have HB9:=hid (HB3.out.trans hB9)
    have HO9:=hid hO9
    refine step_append_runI (by rfl) (.tmp 62) (.tmp 67) 22 22 rfl _ _ (by simp [Act.eval]) (by simp [Act.eval]) hr9 ?_
    refine hK.out _ _ ((HB9.out.cell (p:=⟨w.heap.size,0,none⟩) (by have:=HLW.out;show w.heap.size < wr.heap.size+1;omega)).trans hHeld) (fun hHeld11=>?_)
    clear hK K hr9 hO9 hB9
    try simp only [Act.put,sI,sZ,sS]
    refine ttakeH 12 69 (v:=?vd12) rfl (by kernel_rfl) (by kernel_rfl) (by kernel_rfl) rfl (fun _ _ _ h=>h) (by rfl) ?yd12 (by assumption) ?rd12
    case yd12=>(intro W hSw;(try dsimp only at hSw);(try obtain hS0:=hSw);go_simp;(try rw [if_neg (by omega)]);try with_reducible rfl)
    try simp only [Act.put,sI,sZ,sS]
    have hbx : Blk w8 wr.heap.size #[.slice (some ⟨g,o,none⟩) q c,.slice none 0 0,.int .i64 p.within,.string (strB p.by_),.int .i64 p.pick] 25:=(HB9.out.block _ (Nat.lt_succ_self _)).trans HXD.out
    have z0:=tcell hbx (k:=0) rfl
    have zf:=tfrozen hbx (k:=0)
    refine wpAnyH_ready (rs:=[13]) (by kernel_rfl) (by simp) ?_
    refine AllReadyH.cons (o:=_) rfl (fun K hK=>?_) AllReadyH.nil
    dsimp only [List.getElem_toArray,List.getElem_cons_succ,List.getElem_cons_zero]
    go_simp
    refine hK.out _ _ ((TFr.at wr.heap.size 0 _).cell hHeld11 (by have:=HLW.out;show ¬ w.heap.size=_;omega)) (fun hHeld13=>?_)
    clear hK K
    try simp only [Act.put,sI,sZ,sS]
    refine wpAnyH_done (by kernel_rfl) ?_ _
    obtain ⟨W9,hW9⟩ : ∃ W9,W9=w8.setCell ⟨wr.heap.size,0,none⟩ (.slice a9 l9 c9):=⟨_,rfl⟩
    rw [← hW9]
    have hO10 : OwnQ W9 (wr.heap.size+1) wr.heap.size (.slice a9 l9 c9) (p.its.take kk++p.its.drop (kk+1)):=by
     rw [hW9]
     exact HO9.out.keep (TFr.at wr.heap.size 0 _) (fun b hb=>by rw [hb];exact Nat.le_refl _) (fun g hg e=>by have:=(HO9.out.own g hg).1;omega)
    have hbox : Blk W9 wr.heap.size #[.slice a9 l9 c9,.slice none 0 0,.int .i64 p.within,.string (strB p.by_),.int .i64 p.pick] 25:=by
     rw [hW9]
     exact hbx.set 0 _ rfl
    have HB10 : Hid (Below wr.heap.size wr W9):=by
     rw [hW9]
     exact ((TFr.of_below (K:=(wr.heap.size≤·)) (HWD.out.trans (HB9.out.mono (Nat.le_succ _)))).setCell (p:=⟨wr.heap.size,0,none⟩) (fun _=>Nat.le_refl _) _).below (Nat.le_refl _) (fun k hk=>hk)
    have hrow:=hO10.row
    obtain ⟨hr2,hac⟩:=opt_out HZ.out HY.out HMD.out HNO.out HOUT.out
    have hbd2 : QuB ⟨p.its.take kk++p.its.drop (kk+1),[],p.within,p.by_,p.pick⟩:=⟨fun i hi=>HS.out.bd.1 i (by
     rcases List.mem_append.1 hi with hi|hi
     ·exact List.mem_of_mem_take hi
     ·exact List.mem_of_mem_drop hi),fun p hp=>(by cases hp),HS.out.bd.2.2⟩
    obtain ⟨zz,hzz⟩ : ∃ z,accQ p.its names=z:=⟨_,rfl⟩
    have HBw9:=hid (HBw.out.trans (HB10.out.mono HBw.out.size))
    have HA1 : Hid (∀ W,Below W9.heap.size W9 W→Calls Try.prog 15 #[.agg #[.slice a9 l9 c9,.slice none 0 0,.int .i64 p.within,.string (strB p.by_),.int .i64 p.pick],.slice a2 nl c2] W fun e w'=>e=.returned (.bool zz)∧Below W.heap.size W w'):=fun W hW=>by
     have h:=naccepts_calls (w:=W) (K:=fun _=>False) (p:=⟨p.its.take kk++p.its.drop (kk+1),[],p.within,p.by_,p.pick⟩) (b:=Option.none) (r:=0) (d:=0) ⟨hrow.low hW,RowK.nil _ _ _⟩ hbd2 (HN.out.low (HBw9.out.trans (hW.mono HBw9.out.size))) HN2.out
     rw [hr2,Bool.true_and,show accQ (PQu.its ⟨p.its.take kk++p.its.drop (kk+1),[],p.within,p.by_,p.pick⟩) names=zz from hac.trans hzz,HNL.out] at h
     exact h
    have HA2 : Hid (∀ W,Below W9.heap.size W9 W→Calls Try.prog 15 #[.agg #[.slice (some ⟨g,o,none⟩) q c,.slice b r e,.int .i64 p.within,.string (strB p.by_),.int .i64 p.pick],.slice a2 nl c2] W fun e w'=>e=.returned (.bool zz)∧Below W.heap.size W w'):=fun W hW=>by
     have hbw:=HBw9.out.trans (hW.mono HBw9.out.size)
     have h:=naccepts_calls (w:=W) (K:=fun _=>False) ⟨HQ.out.1.low hbw,HQ.out.2.low hbw⟩ HS.out.bd (HN.out.low hbw) HN2.out
     rw [HZ.out,Bool.true_and,hzz,HNL.out] at h
     exact h
    have xr9:=XR.out.low HB10.out
    have f0 : W9.drew.cell? ⟨wr.heap.size,0,none⟩=some (.slice a9 l9 c9):=tcell hbox (k:=0) rfl
    have f1 : W9.drew.cell? ⟨wr.heap.size,1,none⟩=some (.slice none 0 0):=tcell hbox (k:=1) rfl
    have f2 : W9.drew.cell? ⟨wr.heap.size,2,none⟩=some (.int .i64 p.within):=tcell hbox (k:=2) rfl
    have f3 : W9.drew.cell? ⟨wr.heap.size,3,none⟩=some (.string (strB p.by_)):=tcell hbox (k:=3) rfl
    have f4 : W9.drew.cell? ⟨wr.heap.size,4,none⟩=some (.int .i64 p.pick):=tcell hbox (k:=4) rfl
    have f5 : W9.drew.cell? ⟨w.heap.size,0,none⟩=some (.slice (some ⟨g,o,none⟩) q c):=tcell xr9 (k:=0) rfl
    have f6 : W9.drew.cell? ⟨w.heap.size,1,none⟩=some (.slice b r e):=tcell xr9 (k:=1) rfl
    have f7 : W9.drew.cell? ⟨w.heap.size,2,none⟩=some (.int .i64 p.within):=tcell xr9 (k:=2) rfl
    have f8 : W9.drew.cell? ⟨w.heap.size,3,none⟩=some (.string (strB p.by_)):=tcell xr9 (k:=3) rfl
    have f9 : W9.drew.cell? ⟨w.heap.size,4,none⟩=some (.int .i64 p.pick):=tcell xr9 (k:=4) rfl
    have HW : Hid (Below W9.heap.size W9 W9.drew):=vbelow_drew (Below.refl _ W9)
    have t0 : (zz == zz)=true:=by cases zz <;> rfl
    clear hW9 hO10 hbox hrow hr2 hac hbd2 hzz xr9 hbx z0 zf hHeld hHeld0 hHeld5 hHeld11 hHeld13
    go_wp2_with fail
    refine wp_region_held_drew (S:=fun W=>W.cell? ⟨wr.heap.size,0,none⟩=some (.slice a9 l9 c9)∧W.cell? ⟨wr.heap.size,1,none⟩=some (.slice none 0 0)∧W.cell? ⟨wr.heap.size,2,none⟩=some (.int .i64 p.within)∧W.cell? ⟨wr.heap.size,3,none⟩=some (.string (strB p.by_))∧W.cell? ⟨wr.heap.size,4,none⟩=some (.int .i64 p.pick)∧W.cell? ⟨w.heap.size,0,none⟩=some (.slice (some ⟨g,o,none⟩) q c)∧W.cell? ⟨w.heap.size,1,none⟩=some (.slice b r e)∧W.cell? ⟨w.heap.size,2,none⟩=some (.int .i64 p.within)∧W.cell? ⟨w.heap.size,3,none⟩=some (.string (strB p.by_))∧W.cell? ⟨w.heap.size,4,none⟩=some (.int .i64 p.pick)) (by kernel_rfl) ⟨by assumption,by assumption,by assumption,by assumption,by assumption,by assumption,by assumption,by assumption,by assumption,by assumption⟩ (fun hHeld=>?_)
    refine tK 0 70 (h:=?_)
    try simp only [Act.put,sI,sZ,sS]
    refine tK 1 71 (h:=?_)
    try simp only [Act.put,sI,sZ,sS]
    refine tK 2 72 (h:=?_)
    try simp only [Act.put,sI,sZ,sS]
    refine tK 3 73 (h:=?_)
    try simp only [Act.put,sI,sZ,sS]
    refine tK 5 75 (h:=?_)
    try simp only [Act.put,sI,sZ,sS]
    refine tK 6 76 (h:=?_)
    try simp only [Act.put,sI,sZ,sS]
    refine wpAnyH_ready (rs:=[4]) (by kernel_rfl) (by simp) ?_
    refine AllReadyH.cons (o:=_) rfl (fun K hK=>?_) AllReadyH.nil
    dsimp only [List.getElem_toArray,List.getElem_cons_succ,List.getElem_cons_zero]
    go_simp
    go_at_call 15
    (with_reducible refine (HA1.out _ HW.out).mono ?_)
    rintro e w11 ⟨rfl,hb⟩
    have HW2:=hid (HW.out.trans (hb.mono HW.out.size))
    have g0:=tkeep hb f0
    have g1:=tkeep hb f1
    have g2:=tkeep hb f2
    have g3:=tkeep hb f3
    have g4:=tkeep hb f4
    have g5:=tkeep hb f5
    have g6:=tkeep hb f6
    have g7:=tkeep hb f7
    have g8:=tkeep hb f8
    have g9:=tkeep hb f9
    clear hb
    go_wp2_with fail
    refine hK.out _ _ ⟨g0,g1,g2,g3,g4,g5,g6,g7,g8,g9⟩ (fun hHeld=>?_)
    clear hK K
    try simp only [Act.put,sI,sZ,sS]
    refine wpAnyH_ready (rs:=[7]) (by kernel_rfl) (by simp) ?_
    refine AllReadyH.cons (o:=_) rfl (fun K hK=>?_) AllReadyH.nil
    dsimp only [List.getElem_toArray,List.getElem_cons_succ,List.getElem_cons_zero]
    go_simp
    go_at_call 15
    (with_reducible refine (HA2.out _ HW2.out).mono ?_)
    rintro e w12 ⟨rfl,hb⟩
    have HW3:=hid (HW2.out.trans (hb.mono HW2.out.size))
    have h0:=tkeep hb g0
    have h1:=tkeep hb g1
    have h2:=tkeep hb g2
    have h3:=tkeep hb g3
    have h4:=tkeep hb g4
    have h5:=tkeep hb g5
    have h6:=tkeep hb g6
    have h7:=tkeep hb g7
    have h8:=tkeep hb g8
    have h9:=tkeep hb g9
    clear hb
    go_wp2_with fail
    refine hK.out _ _ ⟨h0,h1,h2,h3,h4,h5,h6,h7,h8,h9⟩ (fun hHeld=>?_)
    clear hK K
    try simp only [Act.put,sI,sZ,sS]
    refine tK 8 78 (h:=?_)
    try simp only [Act.put,sI,sZ,sS]
    refine tK 9 79 (h:=?_)
    try simp only [Act.put,sI,sZ,sS]
    refine tK 10 6 (h:=?_)
    try simp only [Act.put,sI,sZ,sS]
    refine wpAnyH_done (by kernel_rfl) ?_ _
    go_wp2
    go_ret
    exact ⟨rfl,HBw9.out.trans (HW3.out.mono HBw9.out.size)⟩
 ·have t0 : (y.mode != 3)=true:=by simp [hm]
  clear hr hit hm
  go_wp2
  go_ret
  exact ⟨rfl,HB4.out⟩
end Go.Proofs.Ytefcbgnckgapgaa
