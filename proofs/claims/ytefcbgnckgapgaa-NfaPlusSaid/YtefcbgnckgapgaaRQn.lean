/- The statement NfaPlus: its walk. -/
import Derived.Test.YtefcbgnckgapgaaRPn
import Derived.Deep.DeepCutAuto
namespace Go.Proofs.Ytefcbgnckgapgaa
open Go.RowKit Go.Lib Go.Op
section
variable {wa W : World}
theorem own_new (u : List UInt8) (h : Below wa.heap.size wa W) : Below wa.heap.size wa (W.alloc (.cells #[.string (strB u)] 9))∧(W.alloc (.cells #[.string (strB u)] 9)).heap[W.heap.size]?=some (.cells #[.string (strB u)] 9 (0,0)) :=
 ⟨h.trans (((Below.refl _ W).alloc (Nat.le_refl _) _).mono h.size),heap_alloc_new W _⟩
theorem alloc_keep (W : World) (x : Obj) (g : Nat) (X : Obj) (h : W.heap[g]?=some X) : (W.alloc x).heap[g]?=some X :=
 (((Below.refl W.heap.size W).alloc (Nat.le_refl _) x).block g (Array.getElem?_eq_some_iff.1 h).1).trans h
theorem own_keep {W' : World} {B : Nat} {v : Value} {l : List (List UInt8)} (ho : OwnS W B v l) (hk : ∀ (g : Nat) (X : Obj),W.heap[g]?=some X→W'.heap[g]?=some X) : OwnS W' B v l:=ho.blk fun g hg=>by
 have h:=Array.getElem?_eq_getElem (ho.own g hg).2
 rw [h]
 exact hk g _ h
theorem acc_own {w : World} {a b : Option Addr} {q c r e : Nat} {p : PQu} {B : Nat} {v : Value} {l : List (List UInt8)} (h : QuAt (fun _=>False) w a q c b r e p) (hs : QuB p) (hb : Below w.heap.size w W) (ho : OwnS W B v l) (hl : l.length≤100000) (hr : rightQ p=true) (ha : accQ p.its l=true) :
 Calls Try.prog 15 #[.agg #[.slice a q c,.slice b r e,.int .i64 p.within,.string (strB p.by_),.int .i64 p.pick],v] W fun e w'=>e=.returned (.bool true)∧Below W.heap.size W w':=by
 obtain ⟨a2,c2,rfl⟩:=ho.slice
 have h:=naccepts_calls ⟨h.1.low hb,h.2.low hb⟩ hs ho.row (by omega)
 rw [hr,ha] at h
 exact h
end
set_option maxHeartbeats 8000000 in
set_option maxRecDepth 100000 in
theorem nplus_walk (w : World) {a b : Option Addr} {q c r e : Nat} {p : PQu} (h : QuAt (fun _=>False) w a q c b r e p) (hl : QLn p) {a2 : Option Addr} {c2 : Nat} {names : List (List UInt8)} (hn : RowK nameD (fun _=>False) w (.slice a2 names.length c2) names) (hnl : names.length≤140737488355328) (hnb : ∀ x∈names,x.length≤maxLen) :
 Calls Try.prog 6 #[.agg #[.slice a q c,.slice b r e,.int .i64 p.within,.string (strB p.by_),.int .i64 p.pick],.slice a2 names.length c2] w fun e w'=>e=.returned (.bool true)∧Below w.heap.size w w':=by
 have hb0:=(Below.refl w.heap.size w).alloc (Nat.le_refl _) (.cells #[.slice a q c,.slice b r e,.int .i64 p.within,.string (strB p.by_),.int .i64 p.pick] 25)
 have HX:=hid (Blk.new w #[.slice a q c,.slice b r e,.int .i64 p.within,.string (strB p.by_),.int .i64 p.pick] 25)
 have HB0:=hid hb0
 have HQ:=hid h
 have HL:=hid hl
 have HN:=hid hn
 have HNB:=hid hnb
 obtain ⟨nl,hnlq⟩ : ∃ nl,names.length=nl:=⟨_,rfl⟩
 have HNL:=hid hnlq
 have HN2:=hid hnl
 rw [hnlq] at hnl ⊢
 clear hn hnb hnlq
 have HH:=hid (nhead_calls (w:=w.alloc (.cells #[.slice a q c,.slice b r e,.int .i64 p.within,.string (strB p.by_),.int .i64 p.pick] 25)))
 clear h hl hb0
 go_enter Try.func6,Try.ntmps6
 go_wp2_with fail
 with_reducible refine HH.out.mono ?_
 rintro e1 w1 ⟨rfl,hb1⟩
 have HB1:=hid (HB0.out.trans (hb1.mono HB0.out.size))
 have X1:=hid (HX.out.low hb1)
 have x0:=tcell X1.out (k:=0) rfl
 have x1:=tcell X1.out (k:=1) rfl
 have x2:=tcell X1.out (k:=2) rfl
 have x3:=tcell X1.out (k:=3) rfl
 have x4:=tcell X1.out (k:=4) rfl
 have HG:=hid (great_calls (w:=w1) ⟨HQ.out.1.low HB1.out,HQ.out.2.low HB1.out⟩ HL.out)
 clear hb1 HH HX HB0
 go_wp2_with fail
 with_reducible refine HG.out.mono ?_
 rintro e2 w2 ⟨g,rfl,hsm,hb2⟩
 have HB2:=hid (HB1.out.trans (hb2.mono HB1.out.size))
 have X2:=hid (X1.out.low hb2)
 clear hb2 HG X1 HB1 x0 x1 x2 x3 x4
 cases g with
 | true =>
   clear hsm
   go_wp2
   go_ret
   exact ⟨rfl,HB2.out⟩
 | false =>
 have HS:=hid (hsm rfl)
 clear hsm
 have x0:=tcell X2.out (k:=0) rfl
 have x1:=tcell X2.out (k:=1) rfl
 have x2:=tcell X2.out (k:=2) rfl
 have x3:=tcell X2.out (k:=3) rfl
 have x4:=tcell X2.out (k:=4) rfl
 have hgn:=ngreat_calls (w:=w2) (HN.out.low HB2.out) HN2.out HNB.out
 obtain ⟨gz,hgz⟩ : ∃ z,decide (3000≤greatN names names.length)=z:=⟨_,rfl⟩
 rw [hgz,HNL.out] at hgn
 have HGN:=hid hgn
 have HGZ:=hid hgz
 clear hgn hgz
 go_wp2_with fail
 with_reducible refine HGN.out.mono ?_
 rintro e3 w3 ⟨rfl,hb3⟩
 have HB3:=hid (HB2.out.trans (hb3.mono HB2.out.size))
 have X3:=hid (X2.out.low hb3)
 clear hb3 HGN X2 HB2 x0 x1 x2 x3 x4
 cases gz with
 | true =>
   go_wp2
   go_ret
   exact ⟨rfl,HB3.out⟩
 | false =>
 have x0:=tcell X3.out (k:=0) rfl
 have x1:=tcell X3.out (k:=1) rfl
 have x2:=tcell X3.out (k:=2) rfl
 have x3:=tcell X3.out (k:=3) rfl
 have x4:=tcell X3.out (k:=4) rfl
 have hr:=right_said (fun _=>False) w3 a b q c r e p ⟨HQ.out.1.low HB3.out,HQ.out.2.low HB3.out⟩ HS.out.bd
 obtain ⟨z,hz⟩ : ∃ z,rightQ p=z:=⟨_,rfl⟩
 rw [hz] at hr
 have HR:=hid hr
 have HZ:=hid hz
 clear hr hz
 go_wp2_with fail
 with_reducible refine HR.out.mono ?_
 rintro e4 w4 ⟨rfl,hb4⟩
 have HB4:=hid (HB3.out.trans (hb4.mono HB3.out.size))
 have X4:=hid (X3.out.low hb4)
 clear hb4 HR X3 HB3 x0 x1 x2 x3 x4
 cases z with
 | false =>
   go_wp2
   go_ret
   exact ⟨rfl,HB4.out⟩
 | true =>
 have x0:=tcell X4.out (k:=0) rfl
 have x1:=tcell X4.out (k:=1) rfl
 have x2:=tcell X4.out (k:=2) rfl
 have x3:=tcell X4.out (k:=3) rfl
 have x4:=tcell X4.out (k:=4) rfl
 have HQL:=hid HQ.out.1.len
 have hsm : names.length < 3000:=by
  have h:=of_decide_eq_false HGZ.out
  have h2:=greatN_le names names.length
  omega
 have HN3:=hid hsm
 clear hsm
 by_cases hn0 : nl=0
 ·have t0 : ((nl : Int) == 0)=true:=beq_iff_eq.2 (by omega)
  clear hn0
  go_wp2
  go_ret
  exact ⟨rfl,HB4.out⟩
 have t0 : ((nl : Int) == 0)=false:=beq_eq_false_iff_ne.2 (by omega)
 obtain ⟨z,hz⟩ : ∃ z,accQ p.its names=z:=⟨_,rfl⟩
 have ha:=naccepts_calls (w:=w4) (K:=fun _=>False) ⟨HQ.out.1.low HB4.out,HQ.out.2.low HB4.out⟩ HS.out.bd (HN.out.low HB4.out) HN2.out
 rw [HZ.out,Bool.true_and,hz,HNL.out] at ha
 have HA:=hid ha
 have HAC:=hid hz
 clear ha hz
 go_wp2_with fail
 with_reducible refine HA.out.mono ?_
 rintro e5 w5 ⟨rfl,hb5⟩
 have HB5:=hid (HB4.out.trans (hb5.mono HB4.out.size))
 have X5:=hid (X4.out.low hb5)
 clear hb5 HA X4 HB4 x0 x1 x2 x3 x4
 cases z with
 | false =>
   go_wp2
   go_ret
   exact ⟨rfl,HB5.out⟩
 | true =>
 have x0:=tcell X5.out (k:=0) rfl
 have x1:=tcell X5.out (k:=1) rfl
 have x2:=tcell X5.out (k:=2) rfl
 have x3:=tcell X5.out (k:=3) rfl
 have x4:=tcell X5.out (k:=4) rfl
 obtain ⟨i0,rr,hi0,hno0,hm0,hlen6⟩:=rightQ_first HZ.out
 rw [← HQL.out] at hlen6
 have hq0 : 0 < q:=by rw [HQL.out,hi0];simp
 clear hi0 hno0 hm0
 obtain ⟨kk,hkk⟩ : ∃ kk,q - 1=kk:=⟨_,rfl⟩
 obtain ⟨y,hy⟩ : ∃ y,p.its[kk]?=some y:=⟨_,List.getElem?_eq_getElem (by rw [← HQL.out];omega)⟩
 obtain ⟨g,o,a1,c1,rfl,d0,d1,d2,d3,hr⟩:=HQ.out.1.itemAt hy
 replace d0:=tkeep HB5.out d0
 replace d1:=tkeep HB5.out d1
 replace d2:=tkeep HB5.out d2
 replace d3:=tkeep HB5.out d3
 have hit:=rightQ_item HZ.out (List.mem_of_getElem? hy)
 have HLAST : Hid (p.its.getLast?=some y):=by
  show _=_
  rw [List.getLast?_eq_getElem?,← HQL.out,hkk]
  exact hy
 obtain ⟨m,hml⟩ : ∃ m,y.ns.length=m:=⟨_,rfl⟩
 have hm3 : m≤3:=by rw [← hml];exact hit.2.2.2.1
 have HMl:=hid hml
 have HR:=hid hr
 have HNM : Hid (y.mode=2→y.no=false):=fun h=>by
  cases hn : y.no with
  | false=>rfl
  | true=>have:=hit.2.2.1 hn;omega
 rw [hml] at d1
 have hw : IntKind.i64.wrap ((q : Int) - 1)=(kk : Int):=by rw [IntWalk.i64_in _ (by omega)];omega
 have hki : (0 : Int)≤(kk : Int)∧(kk : Int) < (q : Int):=by omega
 have hnl0 : 0 < nl:=Nat.pos_of_ne_zero hn0
 clear hy hit hr hml t0 hn0
 go_upto_region 5 with fail
 obtain ⟨wa,hwa⟩ : ∃ wa,wa=w5.alloc (.cells #[.bool y.no,.slice a1 m c1,.string (strB y.x),.int .i64 y.mode] 38):=⟨_,rfl⟩
 have hba : Below w.heap.size w wa:=by rw [hwa];exact HB5.out.alloc HB5.out.size _
 have hbx : Blk wa w5.heap.size #[.bool y.no,.slice a1 m c1,.string (strB y.x),.int .i64 y.mode] 38:=by rw [hwa];exact Blk.new w5 #[.bool y.no,.slice a1 m c1,.string (strB y.x),.int .i64 y.mode] 38
 have hqx : Blk wa w.heap.size #[.slice (some ⟨g,o,none⟩) q c,.slice b r e,.int .i64 p.within,.string (strB p.by_),.int .i64 p.pick] 25:=by rw [hwa];exact X5.out.low ((Below.refl _ w5).alloc (Nat.le_refl _) _)
 rw [← hwa]
 have HBA:=hid hba
 have HQX:=hid hqx
 clear hwa d0 d1 d2 d3 x0 x1 x2 x3 x4 hw hki
 go_cut [68] (fun s wx=>s=.bool false∧Hid (Below wa.heap.size wa wx))
 case first =>
  have f0:=tcell hbx (k:=0) rfl
  have f1:=tcell hbx (k:=1) rfl
  have f2:=tcell hbx (k:=2) rfl
  have f3:=tcell hbx (k:=3) rfl
  have g0:=tcell hqx (k:=0) rfl
  have g1:=tcell hqx (k:=1) rfl
  have g2:=tcell hqx (k:=2) rfl
  have g3:=tcell hqx (k:=3) rfl
  have g4:=tcell hqx (k:=4) rfl
  clear hba hbx hqx
  have HBd : Hid (Below wa.heap.size wa wa.drew):=vbelow_drew (Below.refl _ wa)
  by_cases hm : y.mode=2
  ·rw [hm] at f3
   have hno:=HNM.out hm
   obtain ⟨nk,hnk⟩ : ∃ nk,nl - 1=nk:=⟨_,rfl⟩
   obtain ⟨u,hu⟩ : ∃ u,names[nk]?=some u:=⟨_,List.getElem?_eq_getElem (by rw [HNL.out];omega)⟩
   have hna:=HN.out.low HBA.out
   obtain ⟨gn,on,rfl,hc⟩:=RowK.nameAt hna hu
   have HNA:=hid hna
   have hw : IntKind.i64.wrap ((nl : Int) - 1)=(nk : Int):=by rw [IntWalk.i64_in _ (by omega)];omega
   have hki : (0 : Int)≤(nk : Int)∧(nk : Int) < (nl : Int):=by omega
   have hhas:=nrhas_calls (w:=wa.drew) ((HR.out.low HBA.out).low HBd.out) (by have:=HMl.out;omega) y.no (strB y.x) 2 u
   rw [HMl.out] at hhas
   have HU:=hid hu
   have HM2:=hid hm
   have HNO:=hid hno
   clear hna hu hnk hm hno
   by_cases hin : u∈y.ns
   ·rw [decide_eq_true hin] at hhas
    have HHas:=hid hhas
    have hacc:=accQ_plus HLAST.out HM2.out HNO.out hin HAC.out
    have HACC:=hid hacc
    clear hhas hin hacc
    refine wp_region_held_drew (S:=fun W=>Hid (Below wa.heap.size wa W)) (by kernel_rfl) (by assumption) (fun hHeld=>?_)
    refine tK 0 40 (h:=?_)
    try simp only [Act.put,sI,sZ,sS]
    refine ttakeH 1 41 (v:=?vc1) rfl (by kernel_rfl) (by kernel_rfl) (by kernel_rfl) rfl (fun _ _ _ h=>h) (by rfl) ?yc1 (by assumption) ?rc1
    case yc1=>(intro W hSw;(try dsimp only at hSw);have k0:=tkeep hSw.out f3;go_simp;(try rw [if_neg (by omega)]);try with_reducible rfl)
    try simp only [Act.put,sI,sZ,sS]
    refine tK 2 42 (h:=?_)
    try simp only [Act.put,sI,sZ,sS]
    refine tK 3 43 (h:=?_)
    try simp only [Act.put,sI,sZ,sS]
    refine ttakeH 4 44 (v:=?vc4) rfl (by kernel_rfl) (by kernel_rfl) (by kernel_rfl) rfl (fun _ _ _ h=>h) (by rfl) ?yc4 (by assumption) ?rc4
    case yc4=>(intro W hSw;(try dsimp only at hSw);have k0:=tkeep hSw.out f0;have k1:=tkeep hSw.out f1;have k2:=tkeep hSw.out f2;have k3:=tkeep hSw.out f3;go_simp;(try rw [if_neg (by omega)]);try with_reducible rfl)
    try simp only [Act.put,sI,sZ,sS]
    refine tK 5 45 (h:=?_)
    try simp only [Act.put,sI,sZ,sS]
    refine tK 6 46 (h:=?_)
    try simp only [Act.put,sI,sZ,sS]
    refine tK 7 47 (h:=?_)
    try simp only [Act.put,sI,sZ,sS]
    refine tK 8 48 (h:=?_)
    try simp only [Act.put,sI,sZ,sS]
    refine tK 9 49 (h:=?_)
    try simp only [Act.put,sI,sZ,sS]
    refine ttakeH 10 50 (v:=?vc10) rfl (by kernel_rfl) (by kernel_rfl) (by kernel_rfl) rfl (fun _ _ _ h=>h) (by rfl) ?yc10 (by assumption) ?rc10
    case yc10=>(intro W hSw;(try dsimp only at hSw);have k0:=tkeep hSw.out hc;go_simp;(try rw [if_neg (by omega)]);try with_reducible rfl)
    try simp only [Act.put,sI,sZ,sS]
    refine wpAnyH_ready (rs:=[11]) (by kernel_rfl) (by simp) ?_
    refine AllReadyH.cons (o:=_) rfl (fun K hK=>?_) AllReadyH.nil
    dsimp only [List.getElem_toArray,List.getElem_cons_succ,List.getElem_cons_zero]
    go_simp
    go_at_call 18
    (with_reducible refine HHas.out.mono ?_)
    rintro e v1 ⟨rfl,hb⟩
    have HB9:=hid (HBd.out.trans (hb.mono HBd.out.size))
    clear hb
    go_wp2_with fail
    refine hK.out _ _ HB9 (fun hHeld=>?_)
    clear hK K
    try simp only [Act.put,sI,sZ,sS]
    refine tK 12 52 (h:=?_)
    try simp only [Act.put,sI,sZ,sS]
    refine tK 13 53 (h:=?_)
    try simp only [Act.put,sI,sZ,sS]
    refine ttakeH 14 54 (v:=?vc14) rfl (by kernel_rfl) (by kernel_rfl) (by kernel_rfl) rfl (fun _ _ _ h=>h) (by rfl) ?yc14 (by assumption) ?rc14
    case yc14=>(intro W hSw;(try dsimp only at hSw);have k0:=tkeep hSw.out g0;have k1:=tkeep hSw.out g1;have k2:=tkeep hSw.out g2;have k3:=tkeep hSw.out g3;have k4:=tkeep hSw.out g4;go_simp;(try rw [if_neg (by omega)]);try with_reducible rfl)
    try simp only [Act.put,sI,sZ,sS]
    refine tK 16 56 (h:=?_)
    try simp only [Act.put,sI,sZ,sS]
    refine tK 18 58 (h:=?_)
    try simp only [Act.put,sI,sZ,sS]
    refine tK 19 59 (h:=?_)
    try simp only [Act.put,sI,sZ,sS]
    refine tK 20 60 (h:=?_)
    try simp only [Act.put,sI,sZ,sS]
    refine tK 21 61 (h:=?_)
    try simp only [Act.put,sI,sZ,sS]
    refine tK 22 62 (h:=?_)
    try simp only [Act.put,sI,sZ,sS]
    refine ttakeH 23 63 (v:=?vc23) rfl (by kernel_rfl) (by kernel_rfl) (by kernel_rfl) rfl (fun _ _ _ h=>h) (by rfl) ?yc23 (by assumption) ?rc23
    case yc23=>(intro W hSw;(try dsimp only at hSw);have k0:=tkeep hSw.out hc;go_simp;(try rw [if_neg (by omega)]);try with_reducible rfl)
    try simp only [Act.put,sI,sZ,sS]
    refine wpAnyH_ready (rs:=[15,24]) (by kernel_rfl) (by simp) ?_
    refine AllReadyH.cons (o:=_) rfl (fun K hK=>?_) (AllReadyH.cons (o:=_) rfl (fun K hK=>?_) AllReadyH.nil)
    ·dsimp only [List.getElem_toArray,List.getElem_cons_succ,List.getElem_cons_zero]
     go_simp
     have h1:=own_first HB9.out
     refine hK.out _ _ (hid h1.1) (fun hHeld=>?_)
     clear hK K
     obtain ⟨W1,hW⟩ : ∃ x,x=v1.alloc (.cells #[] 9):=⟨_,rfl⟩
     have hkp : ∀ (g : Nat) (X : Obj),v1.heap[g]?=some X→W1.heap[g]?=some X:=by rw [hW];exact alloc_keep v1 _
     have HSZ1:=hid (show W1.heap.size=v1.heap.size+1 by rw [hW];simp)
     rw [← hW] at h1 hHeld ⊢
     have HB1:=hid h1.1
     have HO:=hid h1.2
     clear hW h1
     clear hkp
     try simp only [Act.put,sI,sZ,sS]
     refine wpAnyH_ready (rs:=[17,24]) (by kernel_rfl) (by simp) ?_
     refine AllReadyH.cons (o:=_) rfl (fun K hK=>?_) (AllReadyH.cons (o:=_) rfl (fun K hK=>?_) AllReadyH.nil)
     ·dsimp only [List.getElem_toArray,List.getElem_cons_succ,List.getElem_cons_zero]
      obtain ⟨v3,W2,hr,ho,hbb,hkg⟩:=own_copy HNA.out (by rw [HNL.out];omega) HN3.out HB1.out HO.out
      rw [HNL.out] at hr
      refine step_append_runI (by rfl) (.tmp 55) (.tmp 56) 26 26 rfl _ _ (by simp [Act.eval]) (by simp [Act.eval]) hr ?_
      refine hK.out _ _ (hid hbb) (fun hHeld=>?_)
      clear hK K hr
      have HB2:=hid hbb
      clear HO
      have HO:=hid ho
      clear ho hbb hkg
      try simp only [Act.put,sI,sZ,sS]
      refine wpAnyH_ready (rs:=[24]) (by kernel_rfl) (by simp) ?_
      refine AllReadyH.cons (o:=_) rfl (fun K hK=>?_) AllReadyH.nil
      dsimp only [List.getElem_toArray,List.getElem_cons_succ,List.getElem_cons_zero]
      go_simp
      have h1:=own_new u HB2.out
      refine hK.out _ _ (hid h1.1) (fun hHeld=>?_)
      clear hK K
      obtain ⟨W3,hW⟩ : ∃ x,x=W2.alloc (.cells #[.string (strB u)] 9):=⟨_,rfl⟩
      have hkp : ∀ (g : Nat) (X : Obj),W2.heap[g]?=some X→W3.heap[g]?=some X:=by rw [hW];exact alloc_keep W2 _
      have HSZ2:=hid (show W3.heap.size=W2.heap.size+1 by rw [hW];simp)
      rw [← hW] at h1 hHeld ⊢
      have HB3:=hid h1.1
      have HG:=hid h1.2
      clear hW h1
      replace HO:=hid (own_keep HO.out hkp)
      clear hkp
      try simp only [Act.put,sI,sZ,sS]
      refine wpAnyH_ready (rs:=[25]) (by kernel_rfl) (by simp) ?_
      refine AllReadyH.cons (o:=_) rfl (fun K hK=>?_) AllReadyH.nil
      dsimp only [List.getElem_toArray,List.getElem_cons_succ,List.getElem_cons_zero]
      obtain ⟨v5,w5t,hr,ho,hbb⟩:=own_more (u:=u) HN3.out HB3.out HO.out HG.out
      refine step_append_runI (by rfl) (.tmp 57) (.tmp 64) 26 26 rfl _ _ (by simp [Act.eval]) (by simp [Act.eval]) hr ?_
      refine hK.out _ _ (hid hbb) (fun hHeld=>?_)
      clear hK K hr
      have HBM:=hid hbb
      have HOM:=hid ho
      clear ho hbb HO HG
      try simp only [Act.put,sI,sZ,sS]
      have HA9:=hid (acc_own HQ.out HS.out.bd (HBA.out.trans (HBM.out.mono HBA.out.size)) HOM.out (by have:=HN3.out;simp;omega) HZ.out HACC.out)
      refine wpAnyH_ready (rs:=[26]) (by kernel_rfl) (by simp) ?_
      refine AllReadyH.cons (o:=_) rfl (fun K hK=>?_) AllReadyH.nil
      dsimp only [List.getElem_toArray,List.getElem_cons_succ,List.getElem_cons_zero]
      go_simp
      go_at_call 15
      (with_reducible refine HA9.out.mono ?_)
      rintro e w9 ⟨rfl,hb⟩
      have HB99:=hid (HBM.out.trans (hb.mono HBM.out.size))
      clear hb
      go_wp2_with fail
      refine hK.out _ _ HB99 (fun hHeld=>?_)
      clear hK K
      try simp only [Act.put,sI,sZ,sS]
      refine tK 27 67 (h:=?_)
      try simp only [Act.put,sI,sZ,sS]
      refine tK 28 68 (h:=?_)
      try simp only [Act.put,sI,sZ,sS]
      refine wpAnyH_done (by kernel_rfl) ?_ _
      go_wp2_with fail
      go_meet
      exact ⟨rfl,HB99⟩
     ·dsimp only [List.getElem_toArray,List.getElem_cons_succ,List.getElem_cons_zero]
      go_simp
      have h1:=own_new u HB1.out
      refine hK.out _ _ (hid h1.1) (fun hHeld=>?_)
      clear hK K
      obtain ⟨W2,hW⟩ : ∃ x,x=W1.alloc (.cells #[.string (strB u)] 9):=⟨_,rfl⟩
      have hkp : ∀ (g : Nat) (X : Obj),W1.heap[g]?=some X→W2.heap[g]?=some X:=by rw [hW];exact alloc_keep W1 _
      have HSZ2:=hid (show W2.heap.size=W1.heap.size+1 by rw [hW];simp)
      rw [← hW] at h1 hHeld ⊢
      have HB2:=hid h1.1
      have HG:=hid h1.2
      clear hW h1
      replace HO:=hid (own_keep HO.out hkp)
      clear hkp
      try simp only [Act.put,sI,sZ,sS]
      refine wpAnyH_ready (rs:=[17]) (by kernel_rfl) (by simp) ?_
      refine AllReadyH.cons (o:=_) rfl (fun K hK=>?_) AllReadyH.nil
      dsimp only [List.getElem_toArray,List.getElem_cons_succ,List.getElem_cons_zero]
      obtain ⟨v3,W3,hr,ho,hbb,hkg⟩:=own_copy HNA.out (by rw [HNL.out];omega) HN3.out HB2.out HO.out
      rw [HNL.out] at hr
      refine step_append_runI (by rfl) (.tmp 55) (.tmp 56) 26 26 rfl _ _ (by simp [Act.eval]) (by simp [Act.eval]) hr ?_
      refine hK.out _ _ (hid hbb) (fun hHeld=>?_)
      clear hK K hr
      have HB3:=hid hbb
      replace HG:=hid (hkg _ _ HG.out (by have:=HSZ1.out;simp [Value.ownBlock];omega))
      clear HO
      have HO:=hid ho
      clear ho hbb hkg
      try simp only [Act.put,sI,sZ,sS]
      refine wpAnyH_ready (rs:=[25]) (by kernel_rfl) (by simp) ?_
      refine AllReadyH.cons (o:=_) rfl (fun K hK=>?_) AllReadyH.nil
      dsimp only [List.getElem_toArray,List.getElem_cons_succ,List.getElem_cons_zero]
      obtain ⟨v5,w5t,hr,ho,hbb⟩:=own_more (u:=u) HN3.out HB3.out HO.out HG.out
      refine step_append_runI (by rfl) (.tmp 57) (.tmp 64) 26 26 rfl _ _ (by simp [Act.eval]) (by simp [Act.eval]) hr ?_
      refine hK.out _ _ (hid hbb) (fun hHeld=>?_)
      clear hK K hr
      have HBM:=hid hbb
      have HOM:=hid ho
      clear ho hbb HO HG
      try simp only [Act.put,sI,sZ,sS]
      have HA9:=hid (acc_own HQ.out HS.out.bd (HBA.out.trans (HBM.out.mono HBA.out.size)) HOM.out (by have:=HN3.out;simp;omega) HZ.out HACC.out)
      refine wpAnyH_ready (rs:=[26]) (by kernel_rfl) (by simp) ?_
      refine AllReadyH.cons (o:=_) rfl (fun K hK=>?_) AllReadyH.nil
      dsimp only [List.getElem_toArray,List.getElem_cons_succ,List.getElem_cons_zero]
      go_simp
      go_at_call 15
      (with_reducible refine HA9.out.mono ?_)
      rintro e w9 ⟨rfl,hb⟩
      have HB99:=hid (HBM.out.trans (hb.mono HBM.out.size))
      clear hb
      go_wp2_with fail
      refine hK.out _ _ HB99 (fun hHeld=>?_)
      clear hK K
      try simp only [Act.put,sI,sZ,sS]
      refine tK 27 67 (h:=?_)
      try simp only [Act.put,sI,sZ,sS]
      refine tK 28 68 (h:=?_)
      try simp only [Act.put,sI,sZ,sS]
      refine wpAnyH_done (by kernel_rfl) ?_ _
      go_wp2_with fail
      go_meet
      exact ⟨rfl,HB99⟩
    ·dsimp only [List.getElem_toArray,List.getElem_cons_succ,List.getElem_cons_zero]
     go_simp
     have h1:=own_new u HB9.out
     refine hK.out _ _ (hid h1.1) (fun hHeld=>?_)
     clear hK K
     obtain ⟨W1,hW⟩ : ∃ x,x=v1.alloc (.cells #[.string (strB u)] 9):=⟨_,rfl⟩
     have hkp : ∀ (g : Nat) (X : Obj),v1.heap[g]?=some X→W1.heap[g]?=some X:=by rw [hW];exact alloc_keep v1 _
     have HSZ1:=hid (show W1.heap.size=v1.heap.size+1 by rw [hW];simp)
     rw [← hW] at h1 hHeld ⊢
     have HB1:=hid h1.1
     have HG:=hid h1.2
     clear hW h1
     clear hkp
     try simp only [Act.put,sI,sZ,sS]
     refine wpAnyH_ready (rs:=[15]) (by kernel_rfl) (by simp) ?_
     refine AllReadyH.cons (o:=_) rfl (fun K hK=>?_) AllReadyH.nil
     dsimp only [List.getElem_toArray,List.getElem_cons_succ,List.getElem_cons_zero]
     go_simp
     have h1:=own_first HB1.out
     refine hK.out _ _ (hid h1.1) (fun hHeld=>?_)
     clear hK K
     obtain ⟨W2,hW⟩ : ∃ x,x=W1.alloc (.cells #[] 9):=⟨_,rfl⟩
     have hkp : ∀ (g : Nat) (X : Obj),W1.heap[g]?=some X→W2.heap[g]?=some X:=by rw [hW];exact alloc_keep W1 _
     have HSZ2:=hid (show W2.heap.size=W1.heap.size+1 by rw [hW];simp)
     rw [← hW] at h1 hHeld ⊢
     have HB2:=hid h1.1
     have HO:=hid h1.2
     clear hW h1
     replace HG:=hid (hkp _ _ HG.out)
     clear hkp
     try simp only [Act.put,sI,sZ,sS]
     refine wpAnyH_ready (rs:=[17]) (by kernel_rfl) (by simp) ?_
     refine AllReadyH.cons (o:=_) rfl (fun K hK=>?_) AllReadyH.nil
     dsimp only [List.getElem_toArray,List.getElem_cons_succ,List.getElem_cons_zero]
     obtain ⟨v3,W3,hr,ho,hbb,hkg⟩:=own_copy HNA.out (by rw [HNL.out];omega) HN3.out HB2.out HO.out
     rw [HNL.out] at hr
     refine step_append_runI (by rfl) (.tmp 55) (.tmp 56) 26 26 rfl _ _ (by simp [Act.eval]) (by simp [Act.eval]) hr ?_
     refine hK.out _ _ (hid hbb) (fun hHeld=>?_)
     clear hK K hr
     have HB3:=hid hbb
     replace HG:=hid (hkg _ _ HG.out (by have:=HSZ1.out;simp [Value.ownBlock];omega))
     clear HO
     have HO:=hid ho
     clear ho hbb hkg
     try simp only [Act.put,sI,sZ,sS]
     refine wpAnyH_ready (rs:=[25]) (by kernel_rfl) (by simp) ?_
     refine AllReadyH.cons (o:=_) rfl (fun K hK=>?_) AllReadyH.nil
     dsimp only [List.getElem_toArray,List.getElem_cons_succ,List.getElem_cons_zero]
     obtain ⟨v5,w5t,hr,ho,hbb⟩:=own_more (u:=u) HN3.out HB3.out HO.out HG.out
     refine step_append_runI (by rfl) (.tmp 57) (.tmp 64) 26 26 rfl _ _ (by simp [Act.eval]) (by simp [Act.eval]) hr ?_
     refine hK.out _ _ (hid hbb) (fun hHeld=>?_)
     clear hK K hr
     have HBM:=hid hbb
     have HOM:=hid ho
     clear ho hbb HO HG
     try simp only [Act.put,sI,sZ,sS]
     have HA9:=hid (acc_own HQ.out HS.out.bd (HBA.out.trans (HBM.out.mono HBA.out.size)) HOM.out (by have:=HN3.out;simp;omega) HZ.out HACC.out)
     refine wpAnyH_ready (rs:=[26]) (by kernel_rfl) (by simp) ?_
     refine AllReadyH.cons (o:=_) rfl (fun K hK=>?_) AllReadyH.nil
     dsimp only [List.getElem_toArray,List.getElem_cons_succ,List.getElem_cons_zero]
     go_simp
     go_at_call 15
     (with_reducible refine HA9.out.mono ?_)
     rintro e w9 ⟨rfl,hb⟩
     have HB99:=hid (HBM.out.trans (hb.mono HBM.out.size))
     clear hb
     go_wp2_with fail
     refine hK.out _ _ HB99 (fun hHeld=>?_)
     clear hK K
     try simp only [Act.put,sI,sZ,sS]
     refine tK 27 67 (h:=?_)
     try simp only [Act.put,sI,sZ,sS]
     refine tK 28 68 (h:=?_)
     try simp only [Act.put,sI,sZ,sS]
     refine wpAnyH_done (by kernel_rfl) ?_ _
     go_wp2_with fail
     go_meet
     exact ⟨rfl,HB99⟩
   ·rw [decide_eq_false hin] at hhas
    have HHas:=hid hhas
    clear hhas hin
    refine wp_region_held_drew (S:=fun W=>Hid (Below wa.heap.size wa W)) (by kernel_rfl) (by assumption) (fun hHeld=>?_)
    refine tK 0 40 (h:=?_)
    try simp only [Act.put,sI,sZ,sS]
    refine ttakeH 1 41 (v:=?vb1) rfl (by kernel_rfl) (by kernel_rfl) (by kernel_rfl) rfl (fun _ _ _ h=>h) (by rfl) ?yb1 (by assumption) ?rb1
    case yb1=>(intro W hSw;(try dsimp only at hSw);have k0:=tkeep hSw.out f3;go_simp;(try rw [if_neg (by omega)]);try with_reducible rfl)
    try simp only [Act.put,sI,sZ,sS]
    refine tK 2 42 (h:=?_)
    try simp only [Act.put,sI,sZ,sS]
    refine tK 3 43 (h:=?_)
    try simp only [Act.put,sI,sZ,sS]
    refine ttakeH 4 44 (v:=?vb4) rfl (by kernel_rfl) (by kernel_rfl) (by kernel_rfl) rfl (fun _ _ _ h=>h) (by rfl) ?yb4 (by assumption) ?rb4
    case yb4=>(intro W hSw;(try dsimp only at hSw);have k0:=tkeep hSw.out f0;have k1:=tkeep hSw.out f1;have k2:=tkeep hSw.out f2;have k3:=tkeep hSw.out f3;go_simp;(try rw [if_neg (by omega)]);try with_reducible rfl)
    try simp only [Act.put,sI,sZ,sS]
    refine tK 5 45 (h:=?_)
    try simp only [Act.put,sI,sZ,sS]
    refine tK 6 46 (h:=?_)
    try simp only [Act.put,sI,sZ,sS]
    refine tK 7 47 (h:=?_)
    try simp only [Act.put,sI,sZ,sS]
    refine tK 8 48 (h:=?_)
    try simp only [Act.put,sI,sZ,sS]
    refine tK 9 49 (h:=?_)
    try simp only [Act.put,sI,sZ,sS]
    refine ttakeH 10 50 (v:=?vb10) rfl (by kernel_rfl) (by kernel_rfl) (by kernel_rfl) rfl (fun _ _ _ h=>h) (by rfl) ?yb10 (by assumption) ?rb10
    case yb10=>(intro W hSw;(try dsimp only at hSw);have k0:=tkeep hSw.out hc;go_simp;(try rw [if_neg (by omega)]);try with_reducible rfl)
    try simp only [Act.put,sI,sZ,sS]
    refine wpAnyH_ready (rs:=[11]) (by kernel_rfl) (by simp) ?_
    refine AllReadyH.cons (o:=_) rfl (fun K hK=>?_) AllReadyH.nil
    dsimp only [List.getElem_toArray,List.getElem_cons_succ,List.getElem_cons_zero]
    go_simp
    go_at_call 18
    (with_reducible refine HHas.out.mono ?_)
    rintro e v1 ⟨rfl,hb⟩
    have HB9:=hid (HBd.out.trans (hb.mono HBd.out.size))
    clear hb
    go_wp2_with fail
    refine hK.out _ _ HB9 (fun hHeld=>?_)
    clear hK K
    try simp only [Act.put,sI,sZ,sS]
    refine tK 12 52 (h:=?_)
    try simp only [Act.put,sI,sZ,sS]
    refine tK 13 53 (h:=?_)
    try simp only [Act.put,sI,sZ,sS]
    refine passH 14 54 (by kernel_rfl) (by kernel_rfl) (by kernel_rfl) (by kernel_rfl) (by rfl) (fun _ _ _ h=>h) (by assumption) ?_
    try simp only [Act.put,sI,sZ,sS]
    refine passH 15 55 (by kernel_rfl) (by kernel_rfl) (by kernel_rfl) (by kernel_rfl) (by rfl) (fun _ _ _ h=>h) (by assumption) ?_
    try simp only [Act.put,sI,sZ,sS]
    refine passH 16 56 (by kernel_rfl) (by kernel_rfl) (by kernel_rfl) (by kernel_rfl) (by rfl) (fun _ _ _ h=>h) (by assumption) ?_
    try simp only [Act.put,sI,sZ,sS]
    refine passH 17 57 (by kernel_rfl) (by kernel_rfl) (by kernel_rfl) (by kernel_rfl) (by rfl) (fun _ _ _ h=>h) (by assumption) ?_
    try simp only [Act.put,sI,sZ,sS]
    refine passH 18 58 (by kernel_rfl) (by kernel_rfl) (by kernel_rfl) (by kernel_rfl) (by rfl) (fun _ _ _ h=>h) (by assumption) ?_
    try simp only [Act.put,sI,sZ,sS]
    refine passH 19 59 (by kernel_rfl) (by kernel_rfl) (by kernel_rfl) (by kernel_rfl) (by rfl) (fun _ _ _ h=>h) (by assumption) ?_
    try simp only [Act.put,sI,sZ,sS]
    refine passH 20 60 (by kernel_rfl) (by kernel_rfl) (by kernel_rfl) (by kernel_rfl) (by rfl) (fun _ _ _ h=>h) (by assumption) ?_
    try simp only [Act.put,sI,sZ,sS]
    refine passH 21 61 (by kernel_rfl) (by kernel_rfl) (by kernel_rfl) (by kernel_rfl) (by rfl) (fun _ _ _ h=>h) (by assumption) ?_
    try simp only [Act.put,sI,sZ,sS]
    refine passH 22 62 (by kernel_rfl) (by kernel_rfl) (by kernel_rfl) (by kernel_rfl) (by rfl) (fun _ _ _ h=>h) (by assumption) ?_
    try simp only [Act.put,sI,sZ,sS]
    refine passH 23 63 (by kernel_rfl) (by kernel_rfl) (by kernel_rfl) (by kernel_rfl) (by rfl) (fun _ _ _ h=>h) (by assumption) ?_
    try simp only [Act.put,sI,sZ,sS]
    refine passH 24 64 (by kernel_rfl) (by kernel_rfl) (by kernel_rfl) (by kernel_rfl) (by rfl) (fun _ _ _ h=>h) (by assumption) ?_
    try simp only [Act.put,sI,sZ,sS]
    refine passH 25 65 (by kernel_rfl) (by kernel_rfl) (by kernel_rfl) (by kernel_rfl) (by rfl) (fun _ _ _ h=>h) (by assumption) ?_
    try simp only [Act.put,sI,sZ,sS]
    refine passH 26 66 (by kernel_rfl) (by kernel_rfl) (by kernel_rfl) (by kernel_rfl) (by rfl) (fun _ _ _ h=>h) (by assumption) ?_
    try simp only [Act.put,sI,sZ,sS]
    refine passH 27 67 (by kernel_rfl) (by kernel_rfl) (by kernel_rfl) (by kernel_rfl) (by rfl) (fun _ _ _ h=>h) (by assumption) ?_
    try simp only [Act.put,sI,sZ,sS]
    refine tK 28 68 (h:=?_)
    try simp only [Act.put,sI,sZ,sS]
    refine wpAnyH_done (by kernel_rfl) ?_ _
    go_wp2_with fail
    go_meet
    exact ⟨rfl,HB9⟩
  ·have t2 : (y.mode == 2)=false:=beq_eq_false_iff_ne.2 hm
   clear hm
   refine wp_region_held_drew (S:=fun W=>Hid (Below wa.heap.size wa W)) (by kernel_rfl) (by assumption) (fun hHeld=>?_)
   refine tK 0 40 (h:=?_)
   try simp only [Act.put,sI,sZ,sS]
   refine ttakeH 1 41 (v:=?va1) rfl (by kernel_rfl) (by kernel_rfl) (by kernel_rfl) rfl (fun _ _ _ h=>h) (by rfl) ?ya1 (by assumption) ?ra1
   case ya1=>(intro W hSw;(try dsimp only at hSw);have k0:=tkeep hSw.out f3;go_simp;(try rw [if_neg (by omega)]);try with_reducible rfl)
   try simp only [Act.put,sI,sZ,sS]
   refine tK 2 42 (h:=?_)
   try simp only [Act.put,sI,sZ,sS]
   refine tK 3 43 (h:=?_)
   try simp only [Act.put,sI,sZ,sS]
   refine passH 4 44 (by kernel_rfl) (by kernel_rfl) (by kernel_rfl) (by kernel_rfl) (by rfl) (fun _ _ _ h=>h) (by assumption) ?_
   try simp only [Act.put,sI,sZ,sS]
   refine passH 5 45 (by kernel_rfl) (by kernel_rfl) (by kernel_rfl) (by kernel_rfl) (by rfl) (fun _ _ _ h=>h) (by assumption) ?_
   try simp only [Act.put,sI,sZ,sS]
   refine passH 6 46 (by kernel_rfl) (by kernel_rfl) (by kernel_rfl) (by kernel_rfl) (by rfl) (fun _ _ _ h=>h) (by assumption) ?_
   try simp only [Act.put,sI,sZ,sS]
   refine passH 7 47 (by kernel_rfl) (by kernel_rfl) (by kernel_rfl) (by kernel_rfl) (by rfl) (fun _ _ _ h=>h) (by assumption) ?_
   try simp only [Act.put,sI,sZ,sS]
   refine passH 8 48 (by kernel_rfl) (by kernel_rfl) (by kernel_rfl) (by kernel_rfl) (by rfl) (fun _ _ _ h=>h) (by assumption) ?_
   try simp only [Act.put,sI,sZ,sS]
   refine passH 9 49 (by kernel_rfl) (by kernel_rfl) (by kernel_rfl) (by kernel_rfl) (by rfl) (fun _ _ _ h=>h) (by assumption) ?_
   try simp only [Act.put,sI,sZ,sS]
   refine passH 10 50 (by kernel_rfl) (by kernel_rfl) (by kernel_rfl) (by kernel_rfl) (by rfl) (fun _ _ _ h=>h) (by assumption) ?_
   try simp only [Act.put,sI,sZ,sS]
   refine passH 11 51 (by kernel_rfl) (by kernel_rfl) (by kernel_rfl) (by kernel_rfl) (by rfl) (fun _ _ _ h=>h) (by assumption) ?_
   try simp only [Act.put,sI,sZ,sS]
   refine tK 12 52 (h:=?_)
   try simp only [Act.put,sI,sZ,sS]
   refine tK 13 53 (h:=?_)
   try simp only [Act.put,sI,sZ,sS]
   refine passH 14 54 (by kernel_rfl) (by kernel_rfl) (by kernel_rfl) (by kernel_rfl) (by rfl) (fun _ _ _ h=>h) (by assumption) ?_
   try simp only [Act.put,sI,sZ,sS]
   refine passH 15 55 (by kernel_rfl) (by kernel_rfl) (by kernel_rfl) (by kernel_rfl) (by rfl) (fun _ _ _ h=>h) (by assumption) ?_
   try simp only [Act.put,sI,sZ,sS]
   refine passH 16 56 (by kernel_rfl) (by kernel_rfl) (by kernel_rfl) (by kernel_rfl) (by rfl) (fun _ _ _ h=>h) (by assumption) ?_
   try simp only [Act.put,sI,sZ,sS]
   refine passH 17 57 (by kernel_rfl) (by kernel_rfl) (by kernel_rfl) (by kernel_rfl) (by rfl) (fun _ _ _ h=>h) (by assumption) ?_
   try simp only [Act.put,sI,sZ,sS]
   refine passH 18 58 (by kernel_rfl) (by kernel_rfl) (by kernel_rfl) (by kernel_rfl) (by rfl) (fun _ _ _ h=>h) (by assumption) ?_
   try simp only [Act.put,sI,sZ,sS]
   refine passH 19 59 (by kernel_rfl) (by kernel_rfl) (by kernel_rfl) (by kernel_rfl) (by rfl) (fun _ _ _ h=>h) (by assumption) ?_
   try simp only [Act.put,sI,sZ,sS]
   refine passH 20 60 (by kernel_rfl) (by kernel_rfl) (by kernel_rfl) (by kernel_rfl) (by rfl) (fun _ _ _ h=>h) (by assumption) ?_
   try simp only [Act.put,sI,sZ,sS]
   refine passH 21 61 (by kernel_rfl) (by kernel_rfl) (by kernel_rfl) (by kernel_rfl) (by rfl) (fun _ _ _ h=>h) (by assumption) ?_
   try simp only [Act.put,sI,sZ,sS]
   refine passH 22 62 (by kernel_rfl) (by kernel_rfl) (by kernel_rfl) (by kernel_rfl) (by rfl) (fun _ _ _ h=>h) (by assumption) ?_
   try simp only [Act.put,sI,sZ,sS]
   refine passH 23 63 (by kernel_rfl) (by kernel_rfl) (by kernel_rfl) (by kernel_rfl) (by rfl) (fun _ _ _ h=>h) (by assumption) ?_
   try simp only [Act.put,sI,sZ,sS]
   refine passH 24 64 (by kernel_rfl) (by kernel_rfl) (by kernel_rfl) (by kernel_rfl) (by rfl) (fun _ _ _ h=>h) (by assumption) ?_
   try simp only [Act.put,sI,sZ,sS]
   refine passH 25 65 (by kernel_rfl) (by kernel_rfl) (by kernel_rfl) (by kernel_rfl) (by rfl) (fun _ _ _ h=>h) (by assumption) ?_
   try simp only [Act.put,sI,sZ,sS]
   refine passH 26 66 (by kernel_rfl) (by kernel_rfl) (by kernel_rfl) (by kernel_rfl) (by rfl) (fun _ _ _ h=>h) (by assumption) ?_
   try simp only [Act.put,sI,sZ,sS]
   refine passH 27 67 (by kernel_rfl) (by kernel_rfl) (by kernel_rfl) (by kernel_rfl) (by rfl) (fun _ _ _ h=>h) (by assumption) ?_
   try simp only [Act.put,sI,sZ,sS]
   refine tK 28 68 (h:=?_)
   try simp only [Act.put,sI,sZ,sS]
   refine wpAnyH_done (by kernel_rfl) ?_ _
   go_wp2_with fail
   go_meet
   exact ⟨rfl,hHeld⟩
 case rest =>
 obtain ⟨rfl,HBC⟩:=hcut
 have HBc:=hid (HBA.out.trans (HBC.out.mono HBA.out.size))
 have XC:=hid (HQX.out.low HBC.out)
 clear hba hbx hqx HQX HBC
 have x0:=tcell XC.out (k:=0) rfl
 have x1:=tcell XC.out (k:=1) rfl
 have x2:=tcell XC.out (k:=2) rfl
 have x3:=tcell XC.out (k:=3) rfl
 have x4:=tcell XC.out (k:=4) rfl
 by_cases h6 : 6≤q
 ·have t6 : decide ((6 : Int)≤(q : Int))=true:=decide_eq_true (by omega)
  go_wp2
  go_ret
  exact ⟨rfl,HBc.out⟩
 have t6 : decide ((6 : Int)≤(q : Int))=false:=decide_eq_false (by omega)
 have hb1 : Below wc.heap.size wc (wc.alloc (.cells #[.slice (some ⟨g,o,none⟩) q c,.slice b r e,.int .i64 p.within,.string (strB p.by_),.int .i64 p.pick] 25)):=(Below.refl _ wc).alloc (Nat.le_refl _) _
 have hb2 : Below wc.heap.size wc ((wc.alloc (.cells #[.slice (some ⟨g,o,none⟩) q c,.slice b r e,.int .i64 p.within,.string (strB p.by_),.int .i64 p.pick] 25)).alloc (.cells #[] 38)):=hb1.alloc hb1.size _
 have hsz2 : ((wc.alloc (.cells #[.slice (some ⟨g,o,none⟩) q c,.slice b r e,.int .i64 p.within,.string (strB p.by_),.int .i64 p.pick] 25)).alloc (.cells #[] 38)).heap.size=wc.heap.size+2:=by simp
 have hsz1 : (wc.alloc (.cells #[.slice (some ⟨g,o,none⟩) q c,.slice b r e,.int .i64 p.within,.string (strB p.by_),.int .i64 p.pick] 25)).heap.size=wc.heap.size+1:=by simp
 have ho:=OwnQ.empty (W:=((wc.alloc (.cells #[.slice (some ⟨g,o,none⟩) q c,.slice b r e,.int .i64 p.within,.string (strB p.by_),.int .i64 p.pick] 25)).alloc (.cells #[] 38))) (B:=wc.heap.size+1) (N:=wc.heap.size) (g:=wc.heap.size+1) (Nat.le_refl _) (by have h:=heap_alloc_new (wc.alloc (.cells #[.slice (some ⟨g,o,none⟩) q c,.slice b r e,.int .i64 p.within,.string (strB p.by_),.int .i64 p.pick] 25)) (.cells #[] 38);rw [hsz1] at h;exact h)
 obtain ⟨v6,w6,hr1,ho6,hb6,_⟩:=all_rows (w0:=wc) (l:=p.its) (g:=g) (o:=o) (c:=c) (by have h:=HQ.out.1.low HBc.out;rw [HQL.out] at h;exact h) (by rw [← HQL.out];exact hlen6) (Nat.le_succ _) hb2 (by omega) ho
 rw [← HQL.out] at hr1
 have hv6:=ho6.own
 have hs6:=hb6.size
 have hb7 : Below (wc.heap.size+1) w6 (w6.alloc (.cells #[.string ⟨#[122]⟩] 9)):=(Below.refl _ w6).alloc (by omega) _
 have hb8 : Below (wc.heap.size+1) w6 ((w6.alloc (.cells #[.string ⟨#[122]⟩] 9)).alloc (.cells #[.bool false,.slice (some ⟨w6.heap.size,0,none⟩) 1 1,.string ⟨#[122,122]⟩,.int .i64 3] 38)):=hb7.alloc (by have:=hb7.size;omega) _
 have hbz : Below w6.heap.size w6 ((w6.alloc (.cells #[.string ⟨#[122]⟩] 9)).alloc (.cells #[.bool false,.slice (some ⟨w6.heap.size,0,none⟩) 1 1,.string ⟨#[122,122]⟩,.int .i64 3] 38)):=((Below.refl _ w6).alloc (Nat.le_refl _) _).alloc (by simp) _
 have hs7 : (w6.alloc (.cells #[.string ⟨#[122]⟩] 9)).heap.size=w6.heap.size+1:=by simp
 obtain ⟨a8,c8,w8,hr2,hrow8,hb9⟩:=more_item (ho6.low hbz) (Nat.lt_succ_self _) (by have:=hbz.size;omega) (by rw [← HQL.out];omega) (gi:=w6.heap.size+1) (gs:=w6.heap.size) (by have h:=heap_alloc_new (w6.alloc (.cells #[.string ⟨#[122]⟩] 9)) (.cells #[.bool false,.slice (some ⟨w6.heap.size,0,none⟩) 1 1,.string ⟨#[122,122]⟩,.int .i64 3] 38);rw [hs7] at h;exact h)
  (alloc_keep _ _ _ _ (heap_alloc_new w6 _)) (fun e=>by have:=hv6 _ e;omega) (by omega)
 rw [← HQL.out] at hr2 hrow8
 have hball : Below (wc.heap.size+1) (wc.alloc (.cells #[.slice (some ⟨g,o,none⟩) q c,.slice b r e,.int .i64 p.within,.string (strB p.by_),.int .i64 p.pick] 25)) w8:=(((Below.refl _ (wc.alloc (.cells #[.slice (some ⟨g,o,none⟩) q c,.slice b r e,.int .i64 p.within,.string (strB p.by_),.int .i64 p.pick] 25))).alloc (by omega) (.cells #[] 38)).trans hb6).trans (hb8.trans hb9)
 have hbox8 : Blk w8 wc.heap.size #[.slice (some ⟨g,o,none⟩) q c,.slice b r e,.int .i64 p.within,.string (strB p.by_),.int .i64 p.pick] 25:=(hball.block _ (Nat.lt_succ_self _)).trans (Blk.new wc #[.slice (some ⟨g,o,none⟩) q c,.slice b r e,.int .i64 p.within,.string (strB p.by_),.int .i64 p.pick] 25)
 have m0:=tcell hbox8 (k:=0) rfl
 have n0:=tfrozen hbox8 (k:=0)
 have y0:=tkeep hb1 x0
 have y1:=tkeep hb2 x0
 have HBOX:=hid hbox8
 have HROW:=hid hrow8
 have HBALL:=hid hball
 have HB1:=hid hb1
 clear hb1 hb2 hsz2 hsz1 ho ho6 hb6 hv6 hs6 hb7 hb8 hbz hs7 hrow8 hb9 hball hbox8 h6
 go_upto_region 11 with (first
  | (at_builtin;refine Lib.wpList_append_run _ rfl _ _ _ _ rfl _ _ rfl rfl _ _ hr1 ?_;clear hr1)
  | (at_builtin;refine Lib.wpList_append_run _ rfl _ _ _ _ rfl _ _ rfl rfl _ _ hr2 ?_;clear hr2))
 obtain ⟨W9,hW9⟩ : ∃ W9,W9=w8.setCell ⟨wc.heap.size,0,none⟩ (.slice a8 (q+1) c8):=⟨_,rfl⟩
 rw [← hW9]
 clear m0 n0 y0 y1 t6 x0 x1 x2 x3 x4
 have hbox9 : Blk W9 wc.heap.size #[.slice a8 (q+1) c8,.slice b r e,.int .i64 p.within,.string (strB p.by_),.int .i64 p.pick] 25:=by rw [hW9];exact HBOX.out.set 0 _ rfl
 have hb9 : Below wc.heap.size wc W9:=by
  rw [hW9]
  exact ((TFr.of_below (K:=(wc.heap.size≤·)) (HB1.out.trans (HBALL.out.mono (Nat.le_succ _)))).setCell (p:=⟨wc.heap.size,0,none⟩) (fun _=>Nat.le_refl _) _).below (Nat.le_refl _) (fun k hk=>hk)
 have hrow9 : RowK itemD (fun _=>False) W9 (.slice a8 (q+1) c8) (p.its++[zIt]):=by
  rw [hW9]
  exact (HROW.out.keep (TFr.at wc.heap.size 0 _)).mono (fun _ h=>h.elim)
 have hbw9:=HBc.out.trans (hb9.mono HBc.out.size)
 have hqa : QuAt (fun _=>False) W9 a8 (q+1) c8 b r e ⟨p.its++[zIt],p.prs,p.within,p.by_,p.pick⟩:=⟨hrow9,HQ.out.2.low hbw9⟩
 have hqb : QuB ⟨p.its++[zIt],p.prs,p.within,p.by_,p.pick⟩:=⟨fun i hi=>by
  rcases List.mem_append.1 hi with hi|hi
  ·exact HS.out.bd.1 i hi
  ·rw [List.mem_singleton.1 hi]
   exact ⟨by decide,by decide,by decide⟩,HS.out.bd.2.1,HS.out.bd.2.2⟩
 have hrs:=right_said (fun _=>False) W9 a8 b (q+1) c8 r e _ hqa hqb
 obtain ⟨z2,hz2⟩ : ∃ z,rightQ ⟨p.its++[zIt],p.prs,p.within,p.by_,p.pick⟩=z:=⟨_,rfl⟩
 rw [hz2] at hrs
 have HRS:=hid hrs
 have HZ2:=hid hz2
 have HQA:=hid hqa
 have HQB:=hid hqb
 have HBW:=hid hbw9
 have HX9:=hid hbox9
 have q0:=tcell hbox9 (k:=0) rfl
 have q1:=tcell hbox9 (k:=1) rfl
 have q2:=tcell hbox9 (k:=2) rfl
 have q3:=tcell hbox9 (k:=3) rfl
 have q4:=tcell hbox9 (k:=4) rfl
 clear hW9 hbox9 hb9 hrow9 hbw9 hqa hqb hrs hz2
 go_wp2_with fail
 with_reducible refine HRS.out.mono ?_
 rintro e10 wa2 ⟨rfl,hb⟩
 have HB10:=hid (HBW.out.trans (hb.mono HBW.out.size))
 have HX10:=hid (HX9.out.low hb)
 have HBT:=hid hb
 clear hb HRS q0 q1 q2 q3 q4 HX9
 cases z2 with
 | false =>
   go_wp2
   go_ret
   exact ⟨rfl,HB10.out⟩
 | true =>
 have hao:=accQ_opt (z:=zIt) rfl rfl (a:=[122]) (by decide) HAC.out
 obtain ⟨y',hy'⟩ : ∃ y,names[0]?=some y:=⟨_,List.getElem?_eq_getElem (by rw [HNL.out];omega)⟩
 have hna:=HN.out.low HB10.out
 have HAO:=hid hao
 have HNA:=hid hna
 have HA3 : Hid (Calls Try.prog 15 #[.agg #[.slice a8 (q+1) c8,.slice b r e,.int .i64 p.within,.string (strB p.by_),.int .i64 p.pick],.slice a2 nl c2] wa2.drew fun e w'=>e=.returned (.bool true)∧Below wa2.drew.heap.size wa2.drew w'):=by
  have hbd:=vbelow_drew (Below.refl wa2.heap.size wa2)
  have h:=naccepts_calls (w:=wa2.drew) (K:=fun _=>False) (p:=⟨p.its++[zIt],p.prs,p.within,p.by_,p.pick⟩) ⟨(HQA.out.1.low HBT.out).low hbd,(HQA.out.2.low HBT.out).low hbd⟩ HQB.out (hna.low hbd) HN2.out
  rw [HZ2.out,show accQ (PQu.its ⟨p.its++[zIt],p.prs,p.within,p.by_,p.pick⟩) names=true from hao.1,HNL.out] at h
  exact h
 have f0:=tcell HX10.out (k:=0) rfl
 have f1:=tcell HX10.out (k:=1) rfl
 have f2:=tcell HX10.out (k:=2) rfl
 have f3:=tcell HX10.out (k:=3) rfl
 have f4:=tcell HX10.out (k:=4) rfl
 have HBd : Hid (Below wa2.heap.size wa2 wa2.drew):=vbelow_drew (Below.refl _ wa2)
 clear hao hy' hna
 go_upto_region 13 with fail
 refine wp_region_held_drew (S:=fun W=>Hid (Below wa2.heap.size wa2 W)) (by kernel_rfl) (by assumption) (fun hHeld=>?_)
 refine tK 0 88 (h:=?_)
 try simp only [Act.put,sI,sZ,sS]
 refine tK 1 89 (h:=?_)
 try simp only [Act.put,sI,sZ,sS]
 refine ttakeH 2 90 (v:=?vd2) rfl (by kernel_rfl) (by kernel_rfl) (by kernel_rfl) rfl (fun _ _ _ h=>h) (by rfl) ?yd2 (by assumption) ?rd2
 case yd2=>(intro W hSw;(try dsimp only at hSw);have k0:=tkeep hSw.out f0;have k1:=tkeep hSw.out f1;have k2:=tkeep hSw.out f2;have k3:=tkeep hSw.out f3;have k4:=tkeep hSw.out f4;go_simp;(try rw [if_neg (by omega)]);try with_reducible rfl)
 try simp only [Act.put,sI,sZ,sS]
 refine tK 3 91 (h:=?_)
 try simp only [Act.put,sI,sZ,sS]
 refine wpAnyH_ready (rs:=[4]) (by kernel_rfl) (by simp) ?_
 refine AllReadyH.cons (o:=_) rfl (fun K hK=>?_) AllReadyH.nil
 dsimp only [List.getElem_toArray,List.getElem_cons_succ,List.getElem_cons_zero]
 go_simp
 go_at_call 15
 (with_reducible refine HA3.out.mono ?_)
 rintro e v1 ⟨rfl,hb⟩
 have HB9:=hid (HBd.out.trans (hb.mono HBd.out.size))
 clear hb
 go_wp2_with fail
 refine hK.out _ _ HB9 (fun hHeld=>?_)
 clear hK K
 try simp only [Act.put,sI,sZ,sS]
 refine tK 5 93 (h:=?_)
 try simp only [Act.put,sI,sZ,sS]
 refine tK 6 94 (h:=?_)
 try simp only [Act.put,sI,sZ,sS]
 refine ttakeH 7 95 (v:=?vd7) rfl (by kernel_rfl) (by kernel_rfl) (by kernel_rfl) rfl (fun _ _ _ h=>h) (by rfl) ?yd7 (by assumption) ?rd7
 case yd7=>(intro W hSw;(try dsimp only at hSw);have k0:=tkeep hSw.out f0;have k1:=tkeep hSw.out f1;have k2:=tkeep hSw.out f2;have k3:=tkeep hSw.out f3;have k4:=tkeep hSw.out f4;go_simp;(try rw [if_neg (by omega)]);try with_reducible rfl)
 try simp only [Act.put,sI,sZ,sS]
 refine tK 9 97 (h:=?_)
 try simp only [Act.put,sI,sZ,sS]
 refine wpAnyH_ready (rs:=[8,11]) (by kernel_rfl) (by simp) ?_
 refine AllReadyH.cons (o:=_) rfl (fun K hK=>?_) (AllReadyH.cons (o:=_) rfl (fun K hK=>?_) AllReadyH.nil)
 ·dsimp only [List.getElem_toArray,List.getElem_cons_succ,List.getElem_cons_zero]
  go_simp
  have h1:=own_first HB9.out
  refine hK.out _ _ (hid h1.1) (fun hHeld=>?_)
  clear hK K
  obtain ⟨W1,hW⟩ : ∃ x,x=v1.alloc (.cells #[] 9):=⟨_,rfl⟩
  have hkp : ∀ (g : Nat) (X : Obj),v1.heap[g]?=some X→W1.heap[g]?=some X:=by rw [hW];exact alloc_keep v1 _
  have HSZ1:=hid (show W1.heap.size=v1.heap.size+1 by rw [hW];simp)
  rw [← hW] at h1 hHeld ⊢
  have HB1:=hid h1.1
  have HO:=hid h1.2
  clear hW h1
  clear hkp
  try simp only [Act.put,sI,sZ,sS]
  refine wpAnyH_ready (rs:=[10,11]) (by kernel_rfl) (by simp) ?_
  refine AllReadyH.cons (o:=_) rfl (fun K hK=>?_) (AllReadyH.cons (o:=_) rfl (fun K hK=>?_) AllReadyH.nil)
  ·dsimp only [List.getElem_toArray,List.getElem_cons_succ,List.getElem_cons_zero]
   obtain ⟨v3,W2,hr,ho,hbb,hkg⟩:=own_copy HNA.out (by rw [HNL.out];omega) HN3.out HB1.out HO.out
   rw [HNL.out] at hr
   refine step_append_runI (by rfl) (.tmp 96) (.tmp 97) 26 26 rfl _ _ (by simp [Act.eval]) (by simp [Act.eval]) hr ?_
   refine hK.out _ _ (hid hbb) (fun hHeld=>?_)
   clear hK K hr
   have HB2:=hid hbb
   clear HO
   have HO:=hid ho
   clear ho hbb hkg
   try simp only [Act.put,sI,sZ,sS]
   refine wpAnyH_ready (rs:=[11]) (by kernel_rfl) (by simp) ?_
   refine AllReadyH.cons (o:=_) rfl (fun K hK=>?_) AllReadyH.nil
   dsimp only [List.getElem_toArray,List.getElem_cons_succ,List.getElem_cons_zero]
   go_simp
   have h1:=own_new [122] HB2.out
   rw [show Value.string (strB [122])=.string ⟨#[122]⟩ from rfl] at h1
   refine hK.out _ _ (hid h1.1) (fun hHeld=>?_)
   clear hK K
   obtain ⟨W3,hW⟩ : ∃ x,x=W2.alloc (.cells #[.string ⟨#[122]⟩] 9):=⟨_,rfl⟩
   have hkp : ∀ (g : Nat) (X : Obj),W2.heap[g]?=some X→W3.heap[g]?=some X:=by rw [hW];exact alloc_keep W2 _
   have HSZ2:=hid (show W3.heap.size=W2.heap.size+1 by rw [hW];simp)
   rw [← hW] at h1 hHeld ⊢
   have HB3:=hid h1.1
   have HG:=hid h1.2
   clear hW h1
   replace HO:=hid (own_keep HO.out hkp)
   clear hkp
   try simp only [Act.put,sI,sZ,sS]
   refine wpAnyH_ready (rs:=[12]) (by kernel_rfl) (by simp) ?_
   refine AllReadyH.cons (o:=_) rfl (fun K hK=>?_) AllReadyH.nil
   dsimp only [List.getElem_toArray,List.getElem_cons_succ,List.getElem_cons_zero]
   obtain ⟨v5,w5t,hr,ho,hbb⟩:=own_more (u:=[122]) HN3.out HB3.out HO.out HG.out
   refine step_append_runI (by rfl) (.tmp 98) (.tmp 99) 26 26 rfl _ _ (by simp [Act.eval]) (by simp [Act.eval]) hr ?_
   refine hK.out _ _ (hid hbb) (fun hHeld=>?_)
   clear hK K hr
   have HBM:=hid hbb
   have HOM:=hid ho
   clear ho hbb HO HG
   try simp only [Act.put,sI,sZ,sS]
   have HA9:=hid (acc_own HQA.out HQB.out (HBT.out.trans (HBM.out.mono HBT.out.size)) HOM.out (by have:=HN3.out;simp;omega) HZ2.out HAO.out.2)
   refine wpAnyH_ready (rs:=[13]) (by kernel_rfl) (by simp) ?_
   refine AllReadyH.cons (o:=_) rfl (fun K hK=>?_) AllReadyH.nil
   dsimp only [List.getElem_toArray,List.getElem_cons_succ,List.getElem_cons_zero]
   go_simp
   go_at_call 15
   (with_reducible refine HA9.out.mono ?_)
   rintro e w9 ⟨rfl,hb⟩
   have HB99:=hid (HBM.out.trans (hb.mono HBM.out.size))
   clear hb
   go_wp2_with fail
   refine hK.out _ _ HB99 (fun hHeld=>?_)
   clear hK K
   try simp only [Act.put,sI,sZ,sS]
   refine tK 14 102 (h:=?_)
   try simp only [Act.put,sI,sZ,sS]
   refine tK 15 4 (h:=?_)
   try simp only [Act.put,sI,sZ,sS]
   refine wpAnyH_done (by kernel_rfl) ?_ _
   go_wp2
   go_ret
   exact ⟨rfl,HB10.out.trans (HB99.out.mono HB10.out.size)⟩
  ·dsimp only [List.getElem_toArray,List.getElem_cons_succ,List.getElem_cons_zero]
   go_simp
   have h1:=own_new [122] HB1.out
   rw [show Value.string (strB [122])=.string ⟨#[122]⟩ from rfl] at h1
   refine hK.out _ _ (hid h1.1) (fun hHeld=>?_)
   clear hK K
   obtain ⟨W2,hW⟩ : ∃ x,x=W1.alloc (.cells #[.string ⟨#[122]⟩] 9):=⟨_,rfl⟩
   have hkp : ∀ (g : Nat) (X : Obj),W1.heap[g]?=some X→W2.heap[g]?=some X:=by rw [hW];exact alloc_keep W1 _
   have HSZ2:=hid (show W2.heap.size=W1.heap.size+1 by rw [hW];simp)
   rw [← hW] at h1 hHeld ⊢
   have HB2:=hid h1.1
   have HG:=hid h1.2
   clear hW h1
   replace HO:=hid (own_keep HO.out hkp)
   clear hkp
   try simp only [Act.put,sI,sZ,sS]
   refine wpAnyH_ready (rs:=[10]) (by kernel_rfl) (by simp) ?_
   refine AllReadyH.cons (o:=_) rfl (fun K hK=>?_) AllReadyH.nil
   dsimp only [List.getElem_toArray,List.getElem_cons_succ,List.getElem_cons_zero]
   obtain ⟨v3,W3,hr,ho,hbb,hkg⟩:=own_copy HNA.out (by rw [HNL.out];omega) HN3.out HB2.out HO.out
   rw [HNL.out] at hr
   refine step_append_runI (by rfl) (.tmp 96) (.tmp 97) 26 26 rfl _ _ (by simp [Act.eval]) (by simp [Act.eval]) hr ?_
   refine hK.out _ _ (hid hbb) (fun hHeld=>?_)
   clear hK K hr
   have HB3:=hid hbb
   replace HG:=hid (hkg _ _ HG.out (by have:=HSZ1.out;simp [Value.ownBlock];omega))
   clear HO
   have HO:=hid ho
   clear ho hbb hkg
   try simp only [Act.put,sI,sZ,sS]
   refine wpAnyH_ready (rs:=[12]) (by kernel_rfl) (by simp) ?_
   refine AllReadyH.cons (o:=_) rfl (fun K hK=>?_) AllReadyH.nil
   dsimp only [List.getElem_toArray,List.getElem_cons_succ,List.getElem_cons_zero]
   obtain ⟨v5,w5t,hr,ho,hbb⟩:=own_more (u:=[122]) HN3.out HB3.out HO.out HG.out
   refine step_append_runI (by rfl) (.tmp 98) (.tmp 99) 26 26 rfl _ _ (by simp [Act.eval]) (by simp [Act.eval]) hr ?_
   refine hK.out _ _ (hid hbb) (fun hHeld=>?_)
   clear hK K hr
   have HBM:=hid hbb
   have HOM:=hid ho
   clear ho hbb HO HG
   try simp only [Act.put,sI,sZ,sS]
   have HA9:=hid (acc_own HQA.out HQB.out (HBT.out.trans (HBM.out.mono HBT.out.size)) HOM.out (by have:=HN3.out;simp;omega) HZ2.out HAO.out.2)
   refine wpAnyH_ready (rs:=[13]) (by kernel_rfl) (by simp) ?_
   refine AllReadyH.cons (o:=_) rfl (fun K hK=>?_) AllReadyH.nil
   dsimp only [List.getElem_toArray,List.getElem_cons_succ,List.getElem_cons_zero]
   go_simp
   go_at_call 15
   (with_reducible refine HA9.out.mono ?_)
   rintro e w9 ⟨rfl,hb⟩
   have HB99:=hid (HBM.out.trans (hb.mono HBM.out.size))
   clear hb
   go_wp2_with fail
   refine hK.out _ _ HB99 (fun hHeld=>?_)
   clear hK K
   try simp only [Act.put,sI,sZ,sS]
   refine tK 14 102 (h:=?_)
   try simp only [Act.put,sI,sZ,sS]
   refine tK 15 4 (h:=?_)
   try simp only [Act.put,sI,sZ,sS]
   refine wpAnyH_done (by kernel_rfl) ?_ _
   go_wp2
   go_ret
   exact ⟨rfl,HB10.out.trans (HB99.out.mono HB10.out.size)⟩
 ·dsimp only [List.getElem_toArray,List.getElem_cons_succ,List.getElem_cons_zero]
  go_simp
  have h1:=own_new [122] HB9.out
  rw [show Value.string (strB [122])=.string ⟨#[122]⟩ from rfl] at h1
  refine hK.out _ _ (hid h1.1) (fun hHeld=>?_)
  clear hK K
  obtain ⟨W1,hW⟩ : ∃ x,x=v1.alloc (.cells #[.string ⟨#[122]⟩] 9):=⟨_,rfl⟩
  have hkp : ∀ (g : Nat) (X : Obj),v1.heap[g]?=some X→W1.heap[g]?=some X:=by rw [hW];exact alloc_keep v1 _
  have HSZ1:=hid (show W1.heap.size=v1.heap.size+1 by rw [hW];simp)
  rw [← hW] at h1 hHeld ⊢
  have HB1:=hid h1.1
  have HG:=hid h1.2
  clear hW h1
  clear hkp
  try simp only [Act.put,sI,sZ,sS]
  refine wpAnyH_ready (rs:=[8]) (by kernel_rfl) (by simp) ?_
  refine AllReadyH.cons (o:=_) rfl (fun K hK=>?_) AllReadyH.nil
  dsimp only [List.getElem_toArray,List.getElem_cons_succ,List.getElem_cons_zero]
  go_simp
  have h1:=own_first HB1.out
  refine hK.out _ _ (hid h1.1) (fun hHeld=>?_)
  clear hK K
  obtain ⟨W2,hW⟩ : ∃ x,x=W1.alloc (.cells #[] 9):=⟨_,rfl⟩
  have hkp : ∀ (g : Nat) (X : Obj),W1.heap[g]?=some X→W2.heap[g]?=some X:=by rw [hW];exact alloc_keep W1 _
  have HSZ2:=hid (show W2.heap.size=W1.heap.size+1 by rw [hW];simp)
  rw [← hW] at h1 hHeld ⊢
  have HB2:=hid h1.1
  have HO:=hid h1.2
  clear hW h1
  replace HG:=hid (hkp _ _ HG.out)
  clear hkp
  try simp only [Act.put,sI,sZ,sS]
  refine wpAnyH_ready (rs:=[10]) (by kernel_rfl) (by simp) ?_
  refine AllReadyH.cons (o:=_) rfl (fun K hK=>?_) AllReadyH.nil
  dsimp only [List.getElem_toArray,List.getElem_cons_succ,List.getElem_cons_zero]
  obtain ⟨v3,W3,hr,ho,hbb,hkg⟩:=own_copy HNA.out (by rw [HNL.out];omega) HN3.out HB2.out HO.out
  rw [HNL.out] at hr
  refine step_append_runI (by rfl) (.tmp 96) (.tmp 97) 26 26 rfl _ _ (by simp [Act.eval]) (by simp [Act.eval]) hr ?_
  refine hK.out _ _ (hid hbb) (fun hHeld=>?_)
  clear hK K hr
  have HB3:=hid hbb
  replace HG:=hid (hkg _ _ HG.out (by have:=HSZ1.out;simp [Value.ownBlock];omega))
  clear HO
  have HO:=hid ho
  clear ho hbb hkg
  try simp only [Act.put,sI,sZ,sS]
  refine wpAnyH_ready (rs:=[12]) (by kernel_rfl) (by simp) ?_
  refine AllReadyH.cons (o:=_) rfl (fun K hK=>?_) AllReadyH.nil
  dsimp only [List.getElem_toArray,List.getElem_cons_succ,List.getElem_cons_zero]
  obtain ⟨v5,w5t,hr,ho,hbb⟩:=own_more (u:=[122]) HN3.out HB3.out HO.out HG.out
  refine step_append_runI (by rfl) (.tmp 98) (.tmp 99) 26 26 rfl _ _ (by simp [Act.eval]) (by simp [Act.eval]) hr ?_
  refine hK.out _ _ (hid hbb) (fun hHeld=>?_)
  clear hK K hr
  have HBM:=hid hbb
  have HOM:=hid ho
  clear ho hbb HO HG
  try simp only [Act.put,sI,sZ,sS]
  have HA9:=hid (acc_own HQA.out HQB.out (HBT.out.trans (HBM.out.mono HBT.out.size)) HOM.out (by have:=HN3.out;simp;omega) HZ2.out HAO.out.2)
  refine wpAnyH_ready (rs:=[13]) (by kernel_rfl) (by simp) ?_
  refine AllReadyH.cons (o:=_) rfl (fun K hK=>?_) AllReadyH.nil
  dsimp only [List.getElem_toArray,List.getElem_cons_succ,List.getElem_cons_zero]
  go_simp
  go_at_call 15
  (with_reducible refine HA9.out.mono ?_)
  rintro e w9 ⟨rfl,hb⟩
  have HB99:=hid (HBM.out.trans (hb.mono HBM.out.size))
  clear hb
  go_wp2_with fail
  refine hK.out _ _ HB99 (fun hHeld=>?_)
  clear hK K
  try simp only [Act.put,sI,sZ,sS]
  refine tK 14 102 (h:=?_)
  try simp only [Act.put,sI,sZ,sS]
  refine tK 15 4 (h:=?_)
  try simp only [Act.put,sI,sZ,sS]
  refine wpAnyH_done (by kernel_rfl) ?_ _
  go_wp2
  go_ret
  exact ⟨rfl,HB10.out.trans (HB99.out.mono HB10.out.size)⟩
end Go.Proofs.Ytefcbgnckgapgaa
