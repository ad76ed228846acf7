/- Texts that others want. -/
import Derived.Test.YtkmlfkbpcgkpaaaGreatDoorM4
import Derived.Test.YtkmlfkbpcgkpaaaGreatDoorM5
import Derived.Test.YtkmlfkbpcgkpaaaGreatDoorWE1e
import Derived.Test.YtkmlfkbpcgkpaaaGreatDoorWV4
import Derived.Test.YtkmlfkbpcgkpaaaGreatDoorWF0
import Derived.Deep.RegionHeld
import Derived.Deep.DeepCutAuto
import Derived.Deep.QuietTactic
import Derived.BigQuiet
namespace Go.Proofs.YtkmlfkbpcgkpaaaGreatDoor
open Go.RowKit Go.Lib Go.Op
set_option maxHeartbeats 8000000
set_option maxRecDepth 100000
structure OwnF {α : Type} (D : RowD α) (Kf : Nat→Nat→Prop) (w : World) (B : Nat) (t : TypeId) (v : Value) (l : List α) (css : List (List Value)) : Prop where
 n : css.length=l.length
 row : w.ownsRow B t D.k v l.length css.flatten
 k : ∀ c∈css,c.length=D.k
 p : ∀ (j : Nat) (x : α),l[j]?=some x→∃ cs,css[j]?=some cs∧D.P (Kf j) w cs x
def kf (K N : Nat→Prop) (j : Nat) : Nat→Nat→Prop:=fun i g=>K g∨(i < j∧N g)
section
variable {α : Type} {D : RowD α} {K N : Nat→Prop} {w w3 w2 : World} {B : Nat} {t : TypeId} {v : Value} {l : List α} {css : List (List Value)}
theorem OwnF.g {j : Nat} (h : OwnF D (kf K N j) w B t v l css) : OwnG D K w B t v l css :=
 ⟨h.n,h.row,h.k,fun i x hi=>by obtain ⟨cs,h1,h2⟩:=h.p i x hi;exact ⟨cs,h1,D.mono (fun g hg=>.inl hg) h2⟩⟩
theorem OwnG.f (h : OwnG D K w B t v l css) : OwnF D (kf K N 0) w B t v l css :=
 ⟨h.n,h.row,h.k,fun i x hi=>by obtain ⟨cs,h1,h2⟩:=h.p i x hi;exact ⟨cs,h1,D.mono (fun g hg=>hg.elim id (fun h=>absurd h.1 (Nat.not_lt_zero _))) h2⟩⟩
theorem OwnF.all {j : Nat} (h : OwnF D (kf K N j) w B t v l css) (hj : l.length≤j) : OwnG D (fun g=>K g∨N g) w B t v l css :=
 ⟨h.n,h.row,h.k,fun i x hi=>by
   obtain ⟨cs,h1,h2⟩:=h.p i x hi
   have hl:=(List.getElem?_eq_some_iff.1 hi).1
   exact ⟨cs,h1,D.mono (fun g hg=>hg.imp id (fun h=>⟨by omega,h⟩)) h2⟩⟩
theorem OwnF.put {j : Nat} (h : OwnF D (kf K N j) w B t v l css) (hD : GeD D) {g : Nat} (hg : v.ownBlock=some g) (hK : K g) {r : Nat} {cs : List Value} {u : Value} (hb : Below w.heap.size w w3) (hj : css[j]?=some cs) (hr : r < D.k) (hf : TFr (fun b=>w.heap.size≤b) (w3.setCell ⟨g,j*D.k+r,none⟩ u) w2) (hx : ∀ x,l[j]?=some x→D.P (fun g=>K g∨N g) w2 (cs.set r u) x) :
 OwnF D (kf K N (j+1)) w2 B t v l (css.set j (cs.set r u)):=by
 have e:=h.g.put hD hg hK hb hj hr hf (fun x hx'=>D.mono (fun g hg=>.inl hg) (hx x hx'))
 have hjl:=(List.getElem?_eq_some_iff.1 hj).1
 refine ⟨e.n,e.row,e.k,fun i x hi=>?_⟩
 by_cases e : i=j
 ·subst e
  exact ⟨_,by rw [List.getElem?_set_self hjl],D.mono (fun g hg=>hg.imp id (fun h=>h.2)) (hx x hi)⟩
 ·obtain ⟨c,h1,h2⟩:=h.p i x hi
  refine ⟨c,by rw [List.getElem?_set_ne (fun h=>e h.symm)];exact h1,?_⟩
  have e1:=D.keep (TFr.of_below (K:=fun b=>kf K N j i b∨w.heap.size≤b) hb) (hD _ _ _ _ h2)
  have e2:=D.keep ((TFr.at g (j*D.k+r) u).mono (fun k _ e=>.inl (.inl (e ▸ hK)))) e1
  refine D.mono (fun b hb=>.inl (hb.imp id (fun h=>⟨by have:=h.1;omega,h.2⟩))) (D.keep (hf.mono (fun k _ e=>.inr e)) e2)
theorem OwnG.anyV {t : TypeId} {l : List PVal} {K' : Nat→Prop} (h : OwnG valD K w B t v l css) : OwnG valD K' w B t v l css:=⟨h.n,h.row,h.k,fun j x hj=>h.p j x hj⟩
end
section
variable {K : Nat→Prop} {w : World} {a : Option Addr} {c : Nat} {b : List (List PEv)}
theorem zdQ (h : RowK evsD K w (.slice a b.length c) b) (hK : ∀ g,K g→g < w.heap.size) (hs : BdS b) : Calls Tryz.prog 90 #[.slice a b.length c] w fun e w'=>∃ v,e=.returned v∧RowK evsD (fun g=>g < w.heap.size) w' v b∧Below w.heap.size w w':=by
 obtain ⟨N,hN⟩ : ∃ N : Nat→Prop,N=fun g=>g < w.heap.size:=⟨_,rfl⟩
 have HNd : Hid (∀ g,N g→g < w.heap.size):=fun g hg=>by rw [hN] at hg;exact hg
 have HNe : Hid (∀ g,g < w.heap.size→N g):=fun g hg=>by rw [hN];exact hg
 clear hN
 have HC:=hid (zbm h hK (by have:=hs.1;omega))
 have HS:=hid hs
 have HK:=hid hK
 obtain ⟨n,hn⟩ : ∃ n,b.length=n:=⟨_,rfl⟩
 have HN:=hid hn
 have hnl : n≤100000:=by rw [← hn];exact hs.1
 rw [hn] at HC ⊢
 clear h hK hs hn
 go_enter Tryz.func90,Tryz.ntmps90
 go_wp2_with fail
 with_reducible refine HC.out.mono ?_
 rintro e w1 ⟨v,css,rfl,ho,hb1⟩
 obtain ⟨va,vc,rfl⟩:=ho.slice
 rw [HN.out] at ho ⊢
 obtain ⟨K1,hK1⟩ : ∃ K1 : Nat→Prop,K1=fun g=>K g∨(Value.slice va n vc).ownBlock=some g:=⟨_,rfl⟩
 rw [← hK1] at ho
 have HK1 : Hid (∀ g,K1 g→K g∨(Value.slice va n vc).ownBlock=some g):=fun g hg=>by rw [hK1] at hg;exact hg
 have HK2 : Hid (∀ g,(Value.slice va n vc).ownBlock=some g→K1 g):=fun g hg=>by rw [hK1];exact .inr hg
 have HK3 : Hid (∀ g,K g→K1 g):=fun g hg=>by rw [hK1];exact .inl hg
 have HO : Hid (∃ css,OwnF evsD (kf K1 N 0) w1 w.heap.size 27 (.slice va n vc) b css):=⟨css,ho.f⟩
 have HB1:=hid hb1
 clear ho hb1 HC hK1 css
 go_wp2
 go_loopw [10] (fun i wr=>∃ j : Nat,i=.int .i64 j∧j≤n∧Hid (∃ css,OwnF evsD (kf K1 N j) wr w.heap.size 27 (.slice va n vc) b css)∧Hid (Below w.heap.size w wr)) (fun i _=>n - (RowKit.intOf i).toNat)
 case atStart=>exact ⟨0,rfl,Nat.zero_le _,HO,HB1⟩
 case round =>
  clear HO HB1
  obtain ⟨j,rfl,hj,HO,HB⟩:=hrel
  obtain ⟨wo,rfl⟩ : ∃ wo,wo=wr:=⟨_,rfl⟩
  by_cases hlt : j < n
  ·obtain ⟨css,hf0⟩:=HO.out
   have ho:=hf0.g
   have HF0:=hid hf0
   clear hf0
   obtain ⟨l,hl⟩ : ∃ l,b[j]?=some l:=⟨_,List.getElem?_eq_getElem (by rw [HN.out];exact hlt)⟩
   obtain ⟨cs,hcs,a2,c2,rfl,hr2⟩:=ho.p j l hl
   obtain ⟨g1,rfl⟩:=ho.base hl
   have c0 : wo.cell? ⟨g1,j,none⟩=some (.slice a2 l.length c2):=by
    have e:=ho.cells (g:=g1) rfl hcs (r:=0) rfl
    rwa [show j*evsD.k+0=j by show j*1+0=j;omega] at e
   have f0:=ho.frozen (g:=g1) rfl j
   have hg1:=(ho.own g1 rfl).2
   have hK1w : ∀ g,K1 g→g < wo.heap.size:=fun g hg=>(HK1.out g hg).elim (fun h=>Nat.lt_of_lt_of_le (HK.out g h) HB.out.size) (fun h=>(ho.own g h).2)
   have hls:=HS.out.2 l (List.mem_of_getElem? hl)
   have hce:=zdb hr2 hK1w (by have:=hls.1;omega)
   obtain ⟨m,hm⟩ : ∃ m,l.length=m:=⟨_,rfl⟩
   have HM:=hid hm
   have hml : m≤100000:=by rw [← hm];exact hls.1
   rw [hm] at hce c0
   have HCE:=hid hce
   have HOW:=hid ho
   have HCS:=hid hcs
   have HLS:=hid hls.2
   have HL:=hid hl
   have HKW:=hid hK1w
   have hk0 : (0 : Int)≤(j : Int):=by omega
   have hk1 : (j : Int) < (n : Int):=by omega
   clear ho hl hcs hr2 hK1w hls hce hm HO
   go_upto_region 6 with (go_at_call 131;(with_reducible refine HCE.out.mono ?_);rintro e w3 ⟨v3,css3,rfl,h3,hb3⟩;obtain ⟨a3,c3,rfl⟩:=h3.slice;rw [HM.out] at h3 ⊢;have d0:=zaa hb3 c0;have e0:=zaB hb3 c0 f0)
   obtain ⟨K3,hK3⟩ : ∃ K3 : Nat→Prop,K3=fun g=>K1 g∨(Value.slice a3 m c3).ownBlock=some g:=⟨_,rfl⟩
   rw [← hK3] at h3
   have HK31 : Hid (∀ g,K3 g→K1 g∨(Value.slice a3 m c3).ownBlock=some g):=fun g hg=>by rw [hK3] at hg;exact hg
   have HK32 : Hid (∀ g,(Value.slice a3 m c3).ownBlock=some g→K3 g):=fun g hg=>by rw [hK3];exact .inr hg
   have HK33 : Hid (∀ g,K1 g→K3 g):=fun g hg=>by rw [hK3];exact .inl hg
   clear hK3
   have HB3:=hid hb3
   have hg13 : g1 < w3.heap.size:=Nat.lt_of_lt_of_le hg1 hb3.size
   have H3 : Hid (∃ css3,OwnF evD (kf K3 N 0) (w3.setCell ⟨g1,j,none⟩ (.slice a3 m c3)) wo.heap.size 41 (.slice a3 m c3) l css3):=⟨css3,by
    rw [← HM.out] at h3 ⊢
    exact (h3.keep (T:=(·=g1)) (TFr.at g1 j _) (fun g _ e=>e ▸ HK33.out g1 (HK2.out g1 rfl)) (fun g hg e=>by have:=(h3.own g hg).1;omega)).f⟩
   have H4 : Hid (TFr (fun g=>wo.heap.size≤g) (w3.setCell ⟨g1,j,none⟩ (.slice a3 m c3)) (w3.setCell ⟨g1,j,none⟩ (.slice a3 m c3))):=TFr.refl _ _
   have q0 : (w3.setCell ⟨g1,j,none⟩ (.slice a3 m c3)).cell? ⟨g1,j,none⟩=some (.slice a3 m c3):=World.cell?_setCell_same' _ _ _ (by rw [d0];rfl)
   have Q0:=hid q0
   have HBS : Hid (Below w.heap.size w (w3.setCell ⟨g1,j,none⟩ (.slice a3 m c3))):=(HB.out.trans (hb3.mono HB.out.size)).setCell (p:=⟨g1,j,none⟩) ((HOW.out.own g1 rfl).1) _
   obtain ⟨W3,hW3⟩ : ∃ W3,w3.setCell ⟨g1,j,none⟩ (.slice a3 m c3)=W3:=⟨_,rfl⟩
   have HW3:=hid hW3
   have hgW : g1 < W3.heap.size:=by rw [← hW3];simpa using hg13
   rw [hW3] at H3 H4 q0 Q0 HBS ⊢
   clear h3 hb3 d0 e0 c0 f0 HCE hW3 css3
   go_wp2
   go_loopw [26] (fun i2 wq=>∃ j2 : Nat,i2=.int .i64 j2∧j2≤m∧Hid (∃ css3,OwnF evD (kf K3 N j2) wq wo.heap.size 41 (.slice a3 m c3) l css3)∧Hid (TFr (fun g=>wo.heap.size≤g) W3 wq)) (fun i2 _=>m - (RowKit.intOf i2).toNat)
   case atStart=>exact ⟨0,rfl,Nat.zero_le _,H3,H4⟩
   case round =>
    clear H3 H4 q0
    obtain ⟨j2,rfl,hj2,H3,H4⟩:=hrel
    obtain ⟨wq,rfl⟩ : ∃ wq,wq=wr:=⟨_,rfl⟩
    by_cases hlt2 : j2 < m
    ·obtain ⟨css3,hf3⟩:=H3.out
     have h3:=hf3.g
     have HF3:=hid hf3
     clear hf3
     obtain ⟨x,hx⟩ : ∃ x,l[j2]?=some x:=⟨_,List.getElem?_eq_getElem (by rw [HM.out];exact hlt2)⟩
     obtain ⟨cs3,hcs3,a4,c4,rfl,hr4,hnm⟩:=h3.p j2 x hx
     obtain ⟨g3,rfl⟩:=h3.base hx
     have p0 : wq.cell? ⟨g1,j,none⟩=some (.slice (some ⟨g3,0,none⟩) m c3):=H4.out.cell Q0.out (by show ¬ wo.heap.size≤g1;omega)
     have p1 : wq.cell? ⟨g3,j2*5+4,none⟩=some (.slice a4 x.vals.length c4):=h3.cells (g:=g3) rfl hcs3 (r:=4) rfl
     have p2:=h3.frozen (g:=g3) rfl (j2*5+4)
     have hg3:=h3.own g3 rfl
     have hK3w : ∀ g,K3 g→g < wq.heap.size:=fun g hg=>(HK31.out g hg).elim (fun h=>by
      have e1:=HKW.out g h
      have e2:=H4.out.size
      have e3:=HB3.out.size
      have e4 : w3.heap.size≤W3.heap.size:=by rw [← HW3.out];simp
      omega) (fun h=>(h3.own g h).2)
     have hxs:=HLS.out x (List.mem_of_getElem? hx)
     have hcv:=fun (W : World) (hW : Below wq.heap.size wq W)=>zcx (hr4.low hW) (fun g hg=>Nat.lt_of_lt_of_le (hK3w g hg) hW.size) (by omega)
     obtain ⟨m4,hm4⟩ : ∃ m4,x.vals.length=m4:=⟨_,rfl⟩
     have HM4:=hid hm4
     rw [hm4] at hcv p1
     have HCV:=hid hcv
     have HO3:=hid h3
     have HCS3:=hid hcs3
     have HNM:=hid hnm
     have HX:=hid hx
     have HK3W:=hid hK3w
     have hi0 : (0 : Int)≤(j2 : Int):=by omega
     have hi1 : (j2 : Int) < (m : Int):=by omega
     have f0 : wq.drew.cell? ⟨g1,j,none⟩=some (.slice (some ⟨g3,0,none⟩) m c3):=p0
     have f1 : wq.drew.cell? ⟨g3,j2*5+4,none⟩=some (.slice a4 m4 c4):=p1
     clear h3 hx hcs3 hr4 hK3w hxs hcv hm4 hnm H3
     go_wp2_with fail
     clear p0 p1
     refine wp_region_held_drew (S:=fun W=>W.cell? ⟨g1,j,none⟩=some (.slice (some ⟨g3,0,none⟩) m c3)) (by kernel_rfl) (by assumption) (fun hHeld=>?_)
     refine rK 0 29 (h:=?_)
     try simp only [Act.put,rI,rZ,rS]
     refine rK 1 30 (h:=?_)
     try simp only [Act.put,rI,rZ,rS]
     refine rK 2 31 (h:=?_)
     try simp only [Act.put,rI,rZ,rS]
     refine rK 3 32 (h:=?_)
     try simp only [Act.put,rI,rZ,rS]
     refine rK 4 33 (h:=?_)
     try simp only [Act.put,rI,rZ,rS]
     refine rK 5 34 (h:=?_)
     try simp only [Act.put,rI,rZ,rS]
     refine rK 6 35 (h:=?_)
     try simp only [Act.put,rI,rZ,rS]
     refine rK 7 36 (h:=?_)
     try simp only [Act.put,rI,rZ,rS]
     refine rK 8 37 (h:=?_)
     try simp only [Act.put,rI,rZ,rS]
     refine rK 9 38 (h:=?_)
     try simp only [Act.put,rI,rZ,rS]
     refine rK 10 39 (h:=?_)
     try simp only [Act.put,rI,rZ,rS]
     refine rK 11 40 (h:=?_)
     try simp only [Act.put,rI,rZ,rS]
     refine rA 12 (h:=fun K hK=>?_)
     dsimp only [List.getElem_toArray,List.getElem_cons_succ,List.getElem_cons_zero]
     focus go_simp
     refine hK.out _ _ f0 (fun hHeld=>?_)
     clear hK K
     try simp only [Act.put,rI,rZ,rS]
     refine rA 13 (h:=fun K hK=>?_)
     dsimp only [List.getElem_toArray,List.getElem_cons_succ,List.getElem_cons_zero]
     go_simp
     go_at_call 132
     (with_reducible refine (HCV.out _ (zae (Below.refl _ _))).mono ?_)
     rintro e w5 ⟨v5,css5,rfl,h5,hb5⟩
     obtain ⟨a5,c5,rfl⟩:=h5.slice
     rw [HM4.out] at h5 ⊢
     have b5 : Below wq.heap.size wq w5:=⟨hb5.os,hb5.tape,hb5.output,hb5.size,hb5.block⟩
     have k0:=zaa hb5 f0
     have k1:=zaa hb5 f1
     have k2:=zaB b5 f1 p2
     have H5:=hid h5
     have HB5:=hid b5
     clear h5 b5 hb5 f0 f1
     go_wp2_with fail
     refine hK.out _ _ k0 (fun hHeld=>?_)
     clear hK K
     try simp only [Act.put,rI,rZ,rS]
     refine rK 14 43 (h:=?_)
     try simp only [Act.put,rI,rZ,rS]
     refine rK 15 44 (h:=?_)
     try simp only [Act.put,rI,rZ,rS]
     refine rA 16 (h:=fun K hK=>?_)
     dsimp only [List.getElem_toArray,List.getElem_cons_succ,List.getElem_cons_zero]
     focus go_simp
     have hwq : w.heap.size≤wq.heap.size:=by
      have e1:=HB.out.size
      have e2:=H4.out.size
      have e3:=HB3.out.size
      have e4 : w3.heap.size≤W3.heap.size:=by rw [← HW3.out];simp
      omega
     have hr5 : RowK valD (fun g=>K3 g∨N g) (w5.setCell ⟨g3,j2*5+4,none⟩ (.slice a5 m4 c5)) (.slice a5 m4 c5) x.vals:=(H5.out.anyV.row' (K':=fun g=>K3 g∨N g) (K:=fun g=>K3 g∨N g) (fun g hg=>hg) (fun g hg hk=>by have e2 : wq.heap.size≤g:=(H5.out.own g hg).1;exact hk.elim (fun hk=>by have e1:=HK3W.out g hk;omega) (fun hk=>by have e1:=HNd.out g hk;omega))).set (.inl (HK32.out g3 rfl)) _ _
     have hn:=HF3.out.put (w3:=w5) (w2:=w5.setCell ⟨g3,j2*5+4,none⟩ (.slice a5 m4 c5)) (g:=g3) (j:=j2) (r:=4) (u:=.slice a5 m4 c5) zjX rfl (HK32.out g3 rfl) HB5.out HCS3.out (by decide) (TFr.refl _ _) (fun y hy=>by (rw [HX.out] at hy;injection hy with hy;subst hy;exact ⟨a5,c5,by rw [HM4.out];rfl,by rw [HM4.out];exact hr5,HNM.out⟩))
     have HNEW : Hid (∃ css3,OwnF evD (kf K3 N (j2+1)) (w5.setCell ⟨g3,j2*5+4,none⟩ (.slice a5 m4 c5)) wo.heap.size 41 (.slice (some ⟨g3,0,none⟩) m c3) l css3):=⟨_,hn⟩
     have HFR : Hid (TFr (fun g=>wo.heap.size≤g) W3 (w5.setCell ⟨g3,j2*5+4,none⟩ (.slice a5 m4 c5))):=(H4.out.trans (TFr.of_below HB5.out)).setCell (p:=⟨g3,j2*5+4,none⟩) (fun _=>hg3.1) _
     have k3 : (w5.setCell ⟨g3,j2*5+4,none⟩ (.slice a5 m4 c5)).cell? ⟨g1,j,none⟩=some (.slice (some ⟨g3,0,none⟩) m c3):=by (rw [World.cell?_setCell_other _ _ _ _ (fun e=>by first|(simp at e;done)|(simp at e;omega))];exact k0)
     clear hr5 hn hwq
     refine hK.out _ _ k3 (fun hHeld=>?_)
     clear hK K
     try simp only [Act.put,rI,rZ,rS]
     refine wpAnyH_done (by kernel_rfl) ?_ _
     go_wp2
     go_roundw
     case rel=>exact ⟨j2+1,by go_num,by omega,HNEW,HFR⟩
     case measure=>simp [RowKit.intOf];omega
    ·have hjm : j2=m:=by omega
     subst hjm
     have hge:=HF0.out.put (w3:=w3) (w2:=wq) (g:=g1) (j:=j) (r:=0) zbR rfl (HK2.out g1 rfl) HB3.out HCS.out (u:=.slice a3 j2 c3) (by decide) (by
      rw [show j*evsD.k+0=j by show j*1+0=j;omega,HW3.out]
      exact H4.out) (fun y hy=>by
      rw [HL.out] at hy
      injection hy with hy
      subst hy
      obtain ⟨css3,h3⟩:=H3.out
      have h3:=h3.all (by rw [HM.out];exact Nat.le_refl _)
      have hr:=h3.row' (K':=fun g=>K1 g∨N g) (fun g hg=>hg.imp (HK33.out g) id) (fun g hg hk=>by
       have e2:=(h3.own g hg).1
       have e3:=HB.out.size
       exact hk.elim (fun hk=>by have e1:=HKW.out g hk;omega) (fun hk=>by have e1:=HNd.out g hk;omega))
      exact ⟨a3,c3,by rw [HM.out];rfl,by rw [HM.out];exact hr⟩)
     have HNEW : Hid (∃ css,OwnF evsD (kf K1 N (j+1)) wq w.heap.size 27 (.slice (some ⟨g1,0,none⟩) n vc) b css):=⟨_,hge⟩
     have HBN : Hid (Below w.heap.size w wq):=((TFr.of_below (K:=fun g=>w.heap.size≤g) HBS.out).trans (H4.out.mono (fun g _ hg=>Nat.le_trans HB.out.size hg))).below (Nat.le_refl _) (fun g hg=>hg)
     clear hge
     go_wp2
     go_roundw
     case rel=>exact ⟨j+1,by go_num,by omega,HNEW,HBN⟩
     case measure=>simp [RowKit.intOf];omega
  ·have hjn : j=n:=by omega
   subst hjn
   obtain ⟨css,ho⟩:=HO.out
   have ho:=ho.all (by rw [HN.out];exact Nat.le_refl _)
   have hr:=ho.row' (K':=fun g=>g < w.heap.size) (fun g hg=>.inr (HNe.out g hg)) (fun g hg hk=>by
    have e2:=(ho.own g hg).1
    omega)
   have HR:=hid hr
   clear hr ho
   go_wp2
   go_ret
   exact ⟨_,rfl,HR.out,HB.out⟩
end
section
variable {α : Type} {D : RowD α} {Kf : Nat→Nat→Prop} {w w' : World} {B : Nat} {t : TypeId} {v : Value} {l : List α} {css : List (List Value)}
theorem OwnF.own (h : OwnF D Kf w B t v l css) : ∀ g,v.ownBlock=some g→B≤g∧g < w.heap.size:=by
 intro g hg
 rcases h.row.2 with ⟨rfl,h0⟩|⟨g',cap,cur,rfl,hb,hh,_⟩
 ·cases hg
 ·obtain rfl : g'=g:=Option.some.inj hg
  exact ⟨hb,(Array.getElem?_eq_some_iff.1 hh).1⟩
theorem OwnF.keep (h : OwnF D Kf w B t v l css) {T : Nat→Prop} (hf : TFr T w w') (hT : ∀ i g,g < w.heap.size→T g→Kf i g) (hv : ∀ g,v.ownBlock=some g→¬ T g) : OwnF D Kf w' B t v l css:=by
 have ho:=h.own
 refine ⟨h.n,zbn h.row (fun g hg=>hf.block g (ho g hg).2 (hv g hg)),h.k,fun j x hj=>?_⟩
 obtain ⟨cs,hc,hp⟩:=h.p j x hj
 exact ⟨cs,hc,D.keep (hf.mono (hT j)) hp⟩
theorem OwnF.low (h : OwnF D Kf w B t v l css) (hb : Below w.heap.size w w') : OwnF D Kf w' B t v l css :=
 h.keep (T:=fun _=>False) (TFr.of_below hb) (fun _ _ _ h=>h.elim) (fun _ _ h=>h)
end
def OvX (X : Nat→Prop) (B : Nat) (W : World) (v1 v2 : Value) (l1 : List PRun) (l2 : List PMt) : Prop :=
 ∃ css1 css2,OwnG runD (fun g=>OK2 v1 v2 g∨X g) W B 59 v1 l1 css1∧OwnG mtD (fun g=>OK2 v1 v2 g∨X g) W B 37 v2 l2 css2∧∀ g,v1.ownBlock=some g→v2.ownBlock≠some g
def OvF (N : Nat→Prop) (B : Nat) (W : World) (v1 v2 : Value) (l1 : List PRun) (l2 : List PMt) (i j : Nat) : Prop :=
 ∃ css1 css2,OwnF runD (kf (OK2 v1 v2) N i) W B 59 v1 l1 css1∧OwnF mtD (kf (OK2 v1 v2) N j) W B 37 v2 l2 css2∧∀ g,v1.ownBlock=some g→v2.ownBlock≠some g
section
variable {N X : Nat→Prop} {B : Nat} {W W' : World} {v1 v2 : Value} {l1 : List PRun} {l2 : List PMt}
theorem OvX.own (h : OvX X B W v1 v2 l1 l2) : ∀ g,OK2 v1 v2 g→B≤g∧g < W.heap.size:=by
 obtain ⟨c1,c2,h1,h2,h3⟩:=h
 exact fun g hg=>hg.elim (h1.own g) (h2.own g)
theorem OvX.sl1 (h : OvX X B W v1 v2 l1 l2) : ∃ a c,v1=.slice a l1.length c:=by
 obtain ⟨c1,c2,h1,h2,h3⟩:=h
 exact h1.slice
theorem OvX.sl2 (h : OvX X B W v1 v2 l1 l2) : ∃ a c,v2=.slice a l2.length c:=by
 obtain ⟨c1,c2,h1,h2,h3⟩:=h
 exact h2.slice
theorem OvX.ovI (h : OvX X B W v1 v2 l1 l2) : OvI B W v1 v2 l1 l2:=by
 obtain ⟨c1,c2,h1,h2,h3⟩:=h
 exact ⟨c1,c2,h1.mono (fun g hg=>.inl hg),h2.mono (fun g hg=>.inl hg),h3⟩
theorem OvX.mono {X' : Nat→Prop} (h : OvX X B W v1 v2 l1 l2) (hX : ∀ g,X' g→X g) : OvX X' B W v1 v2 l1 l2:=by
 obtain ⟨c1,c2,h1,h2,h3⟩:=h
 exact ⟨c1,c2,h1.mono (fun g hg=>hg.imp id (hX g)),h2.mono (fun g hg=>hg.imp id (hX g)),h3⟩
theorem OwnG.base' {α : Type} {D : RowD α} {K : Nat→Prop} {w : World} {B B' : Nat} {t : TypeId} {v : Value} {l : List α} {css : List (List Value)} (h : OwnG D K w B t v l css) (hb : B'≤B) : OwnG D K w B' t v l css:=by
 refine ⟨h.n,⟨h.row.1,?_⟩,h.k,h.p⟩
 rcases h.row.2 with h2|⟨g,cap,cur,e,h1,h3⟩
 ·exact .inl h2
 ·exact .inr ⟨g,cap,cur,e,Nat.le_trans hb h1,h3⟩
theorem OvX.base {B' : Nat} (h : OvX X B W v1 v2 l1 l2) (hb : B'≤B) : OvX X B' W v1 v2 l1 l2:=by
 obtain ⟨c1,c2,h1,h2,h3⟩:=h
 exact ⟨c1,c2,h1.base' hb,h2.base' hb,h3⟩
theorem OvX.rows (h : OvX X B W v1 v2 l1 l2) (hX : ∀ g,X g→g < B) : RowK runD (fun g=>v2.ownBlock=some g∨X g) W v1 l1∧RowK mtD (fun g=>v1.ownBlock=some g∨X g) W v2 l2:=by
 obtain ⟨c1,c2,h1,h2,h3⟩:=h
 exact ⟨h1.row' (fun g hg=>hg.imp .inr id) (fun g hg hk=>hk.elim (h3 g hg) (fun hx=>by have e1:=(h1.own g hg).1;have e2:=hX g hx;omega)),h2.row' (fun g hg=>hg.imp .inl id) (fun g hg hk=>hk.elim (fun e=>h3 g e hg) (fun hx=>by have e1:=(h2.own g hg).1;have e2:=hX g hx;omega))⟩
theorem OvI.f (h : OvI B W v1 v2 l1 l2) : OvF N B W v1 v2 l1 l2 0 0:=by
 obtain ⟨c1,c2,h1,h2,h3⟩:=h
 exact ⟨c1,c2,h1.f,h2.f,h3⟩
theorem OvF.ovI {i j : Nat} (h : OvF N B W v1 v2 l1 l2 i j) : OvI B W v1 v2 l1 l2:=by
 obtain ⟨c1,c2,h1,h2,h3⟩:=h
 exact ⟨c1,c2,h1.g,h2.g,h3⟩
theorem OvF.all {i j : Nat} (h : OvF N B W v1 v2 l1 l2 i j) (hi : l1.length≤i) (hj : l2.length≤j) (hX : ∀ g,X g→N g) : OvX X B W v1 v2 l1 l2:=by
 obtain ⟨c1,c2,h1,h2,h3⟩:=h
 exact ⟨c1,c2,(h1.all hi).mono (fun g hg=>hg.imp id (hX g)),(h2.all hj).mono (fun g hg=>hg.imp id (hX g)),h3⟩
end
def ApN (X : Nat→Prop) (B : Nat) (l1 : List PRun) (l2 : List PMt) (w : World) (e : Ending) (w' : World) : Prop:=∃ v1 v2,e=.returned (.tuple #[v1,v2])∧OvX X B w' v1 v2 l1 l2∧Below B w w'
section
variable {B : Nat} {w : World} {a1 a2 : Option Addr} {c1 c2 : Nat} {l1 : List PRun} {l2 : List PMt}
theorem zer (h : OvI B w (.slice a1 l1.length c1) (.slice a2 l2.length c2) l1 l2) (_hB : B≤w.heap.size) (hs1 : ∀ r∈l1,BdS r.bound) (hs2 : ∀ r∈l2,BdS r.bound) (hl1 : l1.length≤1000000) (hl2 : l2.length≤1000000) : Calls Tryz.prog 55 #[.slice a1 l1.length c1,.slice a2 l2.length c2] w (ApN (fun g=>g < w.heap.size) B l1 l2 w):=by
 obtain ⟨N,hN⟩ : ∃ N : Nat→Prop,N=fun g=>g < w.heap.size:=⟨_,rfl⟩
 have HNd : Hid (∀ g,N g→g < w.heap.size):=fun g hg=>by rw [hN] at hg;exact hg
 have HNe : Hid (∀ g,g < w.heap.size→N g):=fun g hg=>by rw [hN];exact hg
 clear hN
 have HO : Hid (OvF N B w (.slice a1 l1.length c1) (.slice a2 l2.length c2) l1 l2 0 0):=h.f
 have HB0 : Hid (Below B w w):=Below.refl _ _
 have HS1:=hid hs1
 have HS2:=hid hs2
 obtain ⟨n1,hn1⟩ : ∃ n1,l1.length=n1:=⟨_,rfl⟩
 obtain ⟨n2,hn2⟩ : ∃ n2,l2.length=n2:=⟨_,rfl⟩
 have HN1:=hid hn1
 have HN2:=hid hn2
 rw [hn1,hn2] at HO ⊢
 rw [hn1] at hl1
 rw [hn2] at hl2
 clear h hs1 hs2 hn1 hn2
 go_enter Tryz.func55,Tryz.ntmps55
 go_wp2
 go_loopw [10] (fun i wr=>∃ j : Nat,i=.int .i64 j∧j≤n1∧Hid (OvF N B wr (.slice a1 n1 c1) (.slice a2 n2 c2) l1 l2 j 0)∧Hid (Below B w wr)) (fun i _=>n1 - (RowKit.intOf i).toNat)
 case atStart=>exact ⟨0,rfl,Nat.zero_le _,HO,HB0⟩
 case round =>
  clear HO HB0
  obtain ⟨j,rfl,hj,HO,HB⟩:=hrel
  by_cases hlt : j < n1
  ·obtain ⟨css1,css2,q1,q2,h3⟩:=HO.out;have h1:=q1.g;have h2:=q2.g;have HF1:=hid q1;have HF2:=hid q2;clear q1 q2
   obtain ⟨r,hr⟩ : ∃ r,l1[j]?=some r:=⟨_,List.getElem?_eq_getElem (by rw [HN1.out];exact hlt)⟩
   obtain ⟨cs,hcs,a5,c5,rfl,hb⟩:=h1.p j r hr
   obtain ⟨g1,rfl⟩:=h1.base hr
   have c0 : wr.cell? ⟨g1,j*2+1,none⟩=some (.slice a5 r.bound.length c5):=h1.cells (g:=g1) rfl hcs (r:=1) rfl
   have f0:=h1.frozen (g:=g1) rfl (j*2+1)
   have hown:=HO.out.ovI.own
   have HOWN:=hid hown;have hce:=zdQ hb (fun g hg=>(hown g hg).2) (HS1.out r (List.mem_of_getElem? hr))
   obtain ⟨m,hm⟩ : ∃ m,r.bound.length=m:=⟨_,rfl⟩
   have HM:=hid hm
   rw [hm] at hce c0
   have HCE:=hid hce
   have HH1:=hid h1
   have HH2:=hid h2
   have HH3:=hid h3
   have HCS:=hid hcs
   have HR:=hid hr
   have hg1:=h1.own g1 rfl
   have hk0 : (0 : Int)≤(j : Int):=by omega
   have hk1 : (j : Int) < (n1 : Int):=by omega
   clear h1 h2 h3 hr hcs hb hce hm HO hown
   go_wp2_with (go_at_call 90;(with_reducible refine HCE.out.mono ?_);rintro e w3 ⟨v3,rfl,h4,hb3⟩;obtain ⟨a3,c3,rfl⟩:=h4.slice;rw [HM.out] at h4 ⊢;have d0:=zaa hb3 c0;have e0:=zaB hb3 c0 f0)
   have hfr : TFr (fun b=>wr.heap.size≤b) (w3.setCell ⟨g1,j*2+1,none⟩ (.slice a3 m c3)) (w3.setCell ⟨g1,j*2+1,none⟩ (.slice a3 m c3)):=TFr.refl _ _
   have hN:=HF1.out.put (w3:=w3) (w2:=w3.setCell ⟨g1,j*2+1,none⟩ (.slice a3 m c3)) (g:=g1) (j:=j) (r:=1) (u:=.slice a3 m c3) zfW rfl (.inl rfl) hb3 HCS.out (by decide) hfr (fun y hy=>by
    rw [HR.out] at hy
    injection hy with hy
    subst hy
    exact ⟨a3,c3,by rw [HM.out];rfl,by rw [HM.out];exact (h4.set (b:=g1) hg1.2 _ _).mono (fun g hg=>hg.elim (fun h=>(HOWN.out g h).2) (fun h=>Nat.lt_of_lt_of_le (HNd.out g h) HB.out.size))⟩)
   have hO:=(HF2.out.low hb3).keep (TFr.at g1 (j*2+1) (.slice a3 m c3)) (fun _ g _ e=>by rw [e];exact .inl (.inl rfl)) (fun g hg e=>by subst e;exact HH3.out g rfl hg)
   have HN : Hid (OvF N B (w3.setCell ⟨g1,j*2+1,none⟩ (.slice a3 m c3)) (.slice (some ⟨g1,0,none⟩) n1 c1) (.slice a2 n2 c2) l1 l2 (j+1) 0):=⟨_,_,hN,hO,HH3.out⟩
   have HBN : Hid (Below B w (w3.setCell ⟨g1,j*2+1,none⟩ (.slice a3 m c3))):=(HB.out.trans (hb3.mono (Nat.le_trans hg1.1 (Nat.le_of_lt hg1.2)))).setCell (p:=⟨g1,j*2+1,none⟩) hg1.1 _
   clear hN hO hfr h4 hb3 d0 e0 c0 f0
   go_roundw
   case rel=>exact ⟨j+1,by go_num,by omega,HN,HBN⟩
   case measure=>simp [RowKit.intOf];omega
  ·have hjn : n1=j:=by omega
   subst hjn
   have HO2:=HO
   have HB2:=HB
   go_wp2
   go_loopw [26] (fun i wr=>∃ j : Nat,i=.int .i64 j∧j≤n2∧Hid (OvF N B wr (.slice a1 n1 c1) (.slice a2 n2 c2) l1 l2 n1 j)∧Hid (Below B w wr)) (fun i _=>n2 - (RowKit.intOf i).toNat)
   case atStart=>exact ⟨0,rfl,Nat.zero_le _,HO2,HB2⟩
   case round =>
    clear HO HB HO2 HB2
    obtain ⟨j,rfl,hj,HO,HB⟩:=hrel
    by_cases hlt : j < n2
    ·obtain ⟨css1,css2,q1,q2,h3⟩:=HO.out;have h1:=q1.g;have h2:=q2.g;have HF1:=hid q1;have HF2:=hid q2;clear q1 q2
     obtain ⟨r,hr⟩ : ∃ r,l2[j]?=some r:=⟨_,List.getElem?_eq_getElem (by rw [HN2.out];exact hlt)⟩
     obtain ⟨cs,hcs,a5,c5,rfl,hb⟩:=h2.p j r hr
     obtain ⟨g1,rfl⟩:=h2.base hr
     have c0 : wr.cell? ⟨g1,j*2+1,none⟩=some (.slice a5 r.bound.length c5):=h2.cells (g:=g1) rfl hcs (r:=1) rfl
     have f0:=h2.frozen (g:=g1) rfl (j*2+1)
     have hown:=HO.out.ovI.own
     have HOWN:=hid hown;have hce:=zdQ hb (fun g hg=>(hown g hg).2) (HS2.out r (List.mem_of_getElem? hr))
     obtain ⟨m,hm⟩ : ∃ m,r.bound.length=m:=⟨_,rfl⟩
     have HM:=hid hm
     rw [hm] at hce c0
     have HCE:=hid hce
     have HH1:=hid h1
     have HH2:=hid h2
     have HH3:=hid h3
     have HCS:=hid hcs
     have HR:=hid hr
     have hg1:=h2.own g1 rfl
     have hk0 : (0 : Int)≤(j : Int):=by omega
     have hk1 : (j : Int) < (n2 : Int):=by omega
     clear h1 h2 h3 hr hcs hb hce hm HO hown
     go_wp2_with (go_at_call 90;(with_reducible refine HCE.out.mono ?_);rintro e w3 ⟨v3,rfl,h4,hb3⟩;obtain ⟨a3,c3,rfl⟩:=h4.slice;rw [HM.out] at h4 ⊢;have d0:=zaa hb3 c0;have e0:=zaB hb3 c0 f0)
     have hfr : TFr (fun b=>wr.heap.size≤b) (w3.setCell ⟨g1,j*2+1,none⟩ (.slice a3 m c3)) (w3.setCell ⟨g1,j*2+1,none⟩ (.slice a3 m c3)):=TFr.refl _ _
     have hN:=HF2.out.put (w3:=w3) (w2:=w3.setCell ⟨g1,j*2+1,none⟩ (.slice a3 m c3)) (g:=g1) (j:=j) (r:=1) (u:=.slice a3 m c3) zjj rfl (.inr rfl) hb3 HCS.out (by decide) hfr (fun y hy=>by
      rw [HR.out] at hy
      injection hy with hy
      subst hy
      exact ⟨a3,c3,by rw [HM.out];rfl,by rw [HM.out];exact (h4.set (b:=g1) hg1.2 _ _).mono (fun g hg=>hg.elim (fun h=>(HOWN.out g h).2) (fun h=>Nat.lt_of_lt_of_le (HNd.out g h) HB.out.size))⟩)
     have hO:=(HF1.out.low hb3).keep (TFr.at g1 (j*2+1) (.slice a3 m c3)) (fun _ g _ e=>by rw [e];exact .inl (.inr rfl)) (fun g hg e=>by subst e;exact HH3.out g hg rfl)
     have HN : Hid (OvF N B (w3.setCell ⟨g1,j*2+1,none⟩ (.slice a3 m c3)) (.slice a1 n1 c1) (.slice (some ⟨g1,0,none⟩) n2 c2) l1 l2 n1 (j+1)):=⟨_,_,hO,hN,HH3.out⟩
     have HBN : Hid (Below B w (w3.setCell ⟨g1,j*2+1,none⟩ (.slice a3 m c3))):=(HB.out.trans (hb3.mono (Nat.le_trans hg1.1 (Nat.le_of_lt hg1.2)))).setCell (p:=⟨g1,j*2+1,none⟩) hg1.1 _
     clear hN hO hfr h4 hb3 d0 e0 c0 f0
     go_roundw
     case rel=>exact ⟨j+1,by go_num,by omega,HN,HBN⟩
     case measure=>simp [RowKit.intOf];omega
    ·have hjn : n2=j:=by omega
     subst hjn
     have HO2:=HO
     have HB2:=HB
     go_wp2
     refine bodyPost_ret (v:=.tuple #[.slice a1 n1 c1,.slice a2 n2 c2]) (by simp [results,Tryz.results55,go_sem]) rfl ?_
     exact ⟨_,_,rfl,HO2.out.all (by rw [HN1.out];exact Nat.le_refl _) (by rw [HN2.out];exact Nat.le_refl _) HNe.out,HB2.out⟩
end
theorem zjA {W : World} {p : Addr} {v : Value} (o : Obj) (h : W.cell? p=some v) : (W.alloc o).cell? p=some v:=(World.cell?_alloc_lt _ _ _ (World.block_lt_of_cell? _ _ h)).trans h
abbrev evV (t d s : Int) (n : ByteArray) (v : Value) : Value:=.agg #[.int .i64 t,.int .i64 d,.int .i64 s,.string n,v]
def efld (A : Addr) (s j f : Nat) : Addr:=⟨(A.add (j*s)).block,(A.add (j*s)).off+f,none⟩
abbrev VIn:=Int × Int × ByteArray
def pv (x : VIn) : PVal:=⟨x.1,x.2.1,x.2.2.data.toList⟩
def VRow (w : World) (a : Option Addr) (vs : List VIn) : Prop:=∀ j x,vs[j]?=some x→∃ A,a=some A∧w.cell? (A.add (j*3))=some (.int .i64 x.1)∧w.cell? (efld A 3 j 1)=some (.int .i64 x.2.1)∧w.cell? (efld A 3 j 2)=some (.string x.2.2)∧x.2.2.size≤maxLen
theorem za8 {w w' : World} (hb : Below w.heap.size w w') {p : Addr} {v : Value} (h : w.cell? p=some v) : w'.cell? p=some v:=(hb.cell (World.block_lt_of_cell? _ _ h)).trans h
theorem VRow.below {w w' : World} {a : Option Addr} {vs : List VIn} (h : VRow w a vs) (hb : Below w.heap.size w w') : VRow w' a vs:=fun j x hj=>by
 obtain ⟨A,h1,h2,h3,h4,h5⟩:=h j x hj
 exact ⟨A,h1,za8 hb h2,za8 hb h3,za8 hb h4,h5⟩
theorem zey (k n : Int) (s : ByteArray) (w : World) (hs : s.size≤maxLen) :
 Calls Tryz.prog 192 #[.agg #[.int .i64 k,.int .i64 n,.string s]] w fun e w'=>e=.returned (.bool (!rightV k n s))∧Below w.heap.size w w':=by
 go_enter Tryz.func192,Tryz.ntmps192
 go_wp2_with (go_at_call 193;refine (zb9 _ _ _ _ (by assumption)).mono ?_;rintro e w1 ⟨rfl,rfl⟩)
 go_ret
 exact ⟨rfl,by repeat' (first|exact Below.refl _ _|refine Below.alloc ?_ (by simp <;> omega) _)⟩
def RightTo (vs : List VIn) (k : Nat) : Prop:=∀ j x,j < k→vs[j]?=some x→rightB (pv x)=true
theorem RightTo.step {vs : List VIn} {k : Nat} (h : RightTo vs k) {x : VIn} (hk : vs[k]?=some x) (hx : rightB (pv x)=true) : RightTo vs (k+1):=fun j y hj hy=>by
 by_cases e : j=k
 ·subst e
  rw [hk] at hy
  injection hy with hy
  rw [← hy];exact hx
 ·exact h j y (by omega) hy
theorem RightTo.all {vs : List VIn} (h : RightTo vs vs.length) : (vs.map pv).all rightB=true:=by
 rw [List.all_eq_true]
 intro y hy
 obtain ⟨x,hx,rfl⟩:=List.mem_map.1 hy
 obtain ⟨j,hj,rfl⟩:=List.mem_iff_getElem.1 hx
 exact h j _ hj (List.getElem?_eq_getElem hj)
theorem zgc {vs : List VIn} {k : Nat} {x : VIn} (hk : vs[k]?=some x) (hx : rightB (pv x)=false) : (vs.map pv).all rightB=false:=by
 rw [List.all_eq_false]
 exact ⟨pv x,List.mem_map_of_mem (List.mem_of_getElem? hk),by simp [hx]⟩
def IdxPost (w : World) (b : Bool) (e : Ending) (w' : World) : Prop:=∃ z : Int,e=.returned (.int .i64 z)∧decide (0≤z)=b∧Below w.heap.size w w'
theorem zez (a : Option Addr) (c : Nat) (vs : List VIn) (w : World) (hv : VRow w a vs) (hl : vs.length≤maxLen) :
 Calls Tryz.prog 219 #[.slice a vs.length c,.func (.func 192) #[] #[]] w (IdxPost w (!(vs.map pv).all rightB)):=by
 have HV:=hid hv
 obtain ⟨l,hll⟩ : ∃ l,vs.length=l:=⟨_,rfl⟩
 rw [hll] at hl ⊢
 have Hl:=hid hll
 unfold maxLen at hl
 clear hv hll
 go_enter Tryz.func219,Tryz.ntmps219
 go_wp2
 go_loopw [5,8] (fun x i wr=>∃ k : Nat,i=.int .i64 k∧k≤l∧Hid (RightTo vs k)∧Hid (Below w.heap.size w wr)) (fun _ i _=>l - (RowKit.intOf i).toNat)
 case atStart=>exact ⟨0,rfl,Nat.zero_le _,fun j x hj=>by omega,Below.refl _ _⟩
 case round =>
  obtain ⟨k,rfl,hk,HR,HB⟩:=hrel
  by_cases hlt : k < l
  ·obtain ⟨x,hx⟩ : ∃ x,vs[k]?=some x:=⟨_,List.getElem?_eq_getElem (by rw [Hl.out];exact hlt)⟩
   obtain ⟨A,rfl,c0,c1,c2,hs⟩:=(HV.out.below HB.out) k x hx
   have hcall:=zey x.1 x.2.1 x.2.2 wr hs
   unfold efld at c1 c2
   have hrv : rightV x.1 x.2.1 x.2.2=rightB (pv x):=rfl
   rw [hrv] at hcall
   cases hr : rightB (pv x) with
   | true =>
     have hst:=hid (HR.out.step hx hr)
     rw [hr] at hcall
     obtain ⟨k1,n1,s1⟩:=x
     dsimp only at c0 c1 c2 hcall
     clear hx hrv hr
     go_wp2_with (go_at_call 192;refine hcall.mono ?_;rintro e w1 ⟨rfl,hb1⟩)
     have HB1 : Hid (Below w.heap.size w w1):=HB.out.trans (hb1.mono HB.out.size)
     clear hcall
     go_roundw
     case rel=>exact ⟨k+1,by go_num,by omega,hst,HB1⟩
     case measure=>simp [RowKit.intOf];omega
   | false =>
     have hno:=hid (zgc hx hr)
     rw [hr] at hcall
     obtain ⟨k1,n1,s1⟩:=x
     dsimp only at c0 c1 c2 hcall
     clear hx hrv hr
     go_wp2_with (go_at_call 192;refine hcall.mono ?_;rintro e w1 ⟨rfl,hb1⟩)
     have HB1 : Hid (Below w.heap.size w w1):=HB.out.trans (hb1.mono HB.out.size)
     go_ret
     exact ⟨k,rfl,by rw [hno.out];simp,HB1.out⟩
  ·obtain rfl : k=l:=by omega
   have hall : Hid ((vs.map pv).all rightB=true):=RightTo.all (by rw [Hl.out];exact HR.out)
   go_wp2
   go_ret
   exact ⟨-1,rfl,by rw [hall.out];rfl,HB.out⟩
theorem zcL (a : Option Addr) (c : Nat) (vs : List VIn) (w : World) (hv : VRow w a vs) (hl : vs.length≤maxLen) :
 Calls Tryz.prog 194 #[.slice a vs.length c,.func (.func 192) #[] #[]] w fun e w'=>e=.returned (.bool (!(vs.map pv).all rightB))∧Below w.heap.size w w':=by
 have hc:=zez a c vs w hv hl
 obtain ⟨l,hll⟩ : ∃ l,vs.length=l:=⟨_,rfl⟩
 rw [hll] at hc ⊢
 generalize (!(vs.map pv).all rightB)=b at hc ⊢
 clear hv hl hll
 go_enter Tryz.func194,Tryz.ntmps194
 go_wp2_with (go_at_call 219;refine hc.mono ?_;rintro e w1 ⟨z,rfl,hz,hb1⟩)
 go_ret
 exact ⟨rfl,hb1⟩
def pe (t d s : Int) (n : ByteArray) (vs : List VIn) : PEv:=⟨t,d,s,n.data.toList,vs.map pv⟩
theorem zcg (t d s : Int) (n : ByteArray) (vs : List VIn) : rightE (pe t d s n vs)=(numB t && (numB s && (decide (0≤d∧d≤3) && (wordB n.data.toList && (decide (vs.length≤8) && (vs.map pv).all rightB))))):=by
 unfold rightE pe
 simp only [List.length_map]
theorem zex (t d s : Int) (n : ByteArray) (a : Option Addr) (c : Nat) (vs : List VIn) (w : World) (hn : n.size≤maxLen) (hv : VRow w a vs) (hl : vs.length≤maxLen) :
 Calls Tryz.prog 153 #[evV t d s n (.slice a vs.length c)] w fun e w'=>e=.returned (.bool (rightE (pe t d s n vs)))∧Below w.heap.size w w':=by
 rw [zcg]
 have hw:=fun W=>zdl n W hn
 have hc:=fun W (hb : Below w.heap.size w W)=>zcL a c vs W (hv.below hb) hl
 have HN1:=hid (fun W=>zbT t W)
 have HN2:=hid (fun W=>zbT s W)
 obtain ⟨l,hll⟩ : ∃ l,vs.length=l:=⟨_,rfl⟩
 rw [hll] at hc hl ⊢
 have HC:=hid hc
 generalize (vs.map pv).all rightB=ball at HC ⊢
 unfold maxLen at hl
 clear hv hc hll
 cases h1 : numB t with
 | false =>
   rw [h1] at HN1
   go_enter Tryz.func153,Tryz.ntmps153
   go_wp2_with (go_at_call 191;refine (HN1.out _).mono ?_;rintro e w1 ⟨rfl,rfl⟩)
   go_ret
   exact ⟨rfl,(Below.refl _ _).alloc (Nat.le_refl _) _⟩
 | true =>
 cases h2 : numB s with
 | false =>
   rw [h1] at HN1
   rw [h2] at HN2
   go_enter Tryz.func153,Tryz.ntmps153
   go_wp2_with (go_at_call 191;(first|(with_reducible refine (HN1.out _).mono ?_)|(with_reducible refine (HN2.out _).mono ?_));rintro e w1 ⟨rfl,rfl⟩)
   go_ret
   exact ⟨rfl,(Below.refl _ _).alloc (Nat.le_refl _) _⟩
 | true =>
 rw [h1] at HN1
 rw [h2] at HN2
 by_cases h3 : d < 0
 ·rw [decide_eq_false (show ¬ (0≤d∧d≤3) by omega)]
  go_enter Tryz.func153,Tryz.ntmps153
  go_wp2_with (go_at_call 191;(first|(with_reducible refine (HN1.out _).mono ?_)|(with_reducible refine (HN2.out _).mono ?_));rintro e w1 ⟨rfl,rfl⟩)
  go_ret
  exact ⟨rfl,(Below.refl _ _).alloc (Nat.le_refl _) _⟩
 by_cases h4 : 3 < d
 ·rw [decide_eq_false (show ¬ (0≤d∧d≤3) by omega)]
  go_enter Tryz.func153,Tryz.ntmps153
  go_wp2_with (go_at_call 191;(first|(with_reducible refine (HN1.out _).mono ?_)|(with_reducible refine (HN2.out _).mono ?_));rintro e w1 ⟨rfl,rfl⟩)
  go_ret
  exact ⟨rfl,(Below.refl _ _).alloc (Nat.le_refl _) _⟩
 rw [decide_eq_true (show 0≤d∧d≤3 by omega)]
 have HW:=hid (hw (w.alloc (.cells #[.int .i64 t,.int .i64 d,.int .i64 s,.string n,.slice a l c] 41)))
 clear hw
 cases h5 : wordB n.data.toList with
 | false =>
   rw [h5] at HW
   go_enter Tryz.func153,Tryz.ntmps153
   go_wp2_with (first|(go_at_call 191;(first|(with_reducible refine (HN1.out _).mono ?_)|(with_reducible refine (HN2.out _).mono ?_));rintro e w1 ⟨rfl,rfl⟩)|(go_at_call 165;refine HW.out.mono ?_;rintro e w1 ⟨rfl,hb1⟩))
   go_ret
   exact ⟨rfl,((Below.refl _ _).alloc (Nat.le_refl _) _).trans (hb1.mono (by simp))⟩
 | true =>
 rw [h5] at HW
 by_cases h6 : 8 < l
 ·rw [decide_eq_false (show ¬ l≤8 by omega)]
  go_enter Tryz.func153,Tryz.ntmps153
  go_wp2_with (first|(go_at_call 191;(first|(with_reducible refine (HN1.out _).mono ?_)|(with_reducible refine (HN2.out _).mono ?_));rintro e w1 ⟨rfl,rfl⟩)|(go_at_call 165;refine HW.out.mono ?_;rintro e w1 ⟨rfl,hb1⟩;have x4 : w1.cell? ⟨w.heap.size,4,none⟩=some (.slice a l c):=za8 hb1 (by simp)))
  go_ret
  exact ⟨rfl,((Below.refl _ _).alloc (Nat.le_refl _) _).trans (hb1.mono (by simp))⟩
 ·rw [decide_eq_true (show l≤8 by omega)]
  go_enter Tryz.func153,Tryz.ntmps153
  go_wp2_with (first
   | (go_at_call 191;(first|(with_reducible refine (HN1.out _).mono ?_)|(with_reducible refine (HN2.out _).mono ?_));rintro e w1 ⟨rfl,rfl⟩)
   | (go_at_call 165;refine HW.out.mono ?_;rintro e w1 ⟨rfl,hb1⟩;have x4 : w1.cell? ⟨w.heap.size,4,none⟩=some (.slice a l c):=za8 hb1 (by simp);have HB1 : Hid (Below w.heap.size w w1):=((Below.refl _ _).alloc (Nat.le_refl _) _).trans (hb1.mono (by simp));clear hb1)
   | (go_at_call 194;refine (HC.out _ HB1.out).mono ?_;rintro e w2 ⟨rfl,hb2⟩))
  go_ret
  exact ⟨by simp,HB1.out.trans (hb2.mono HB1.out.size)⟩
abbrev FIn:=ByteArray × Int
def FRow (w : World) (a : Option Addr) (fs : List FIn) : Prop:=∀ j x,fs[j]?=some x→∃ A,a=some A∧w.cell? (A.add (j*2))=some (.string x.1)∧w.cell? (efld A 2 j 1)=some (.int .i64 x.2)∧x.1.size≤maxLen
theorem FRow.below {w w' : World} {a : Option Addr} {fs : List FIn} (h : FRow w a fs) (hb : Below w.heap.size w w') : FRow w' a fs:=fun j x hj=>by
 obtain ⟨A,h1,h2,h3,h4⟩:=h j x hj
 exact ⟨A,h1,za8 hb h2,za8 hb h3,h4⟩
structure SIn where
 name : ByteArray
 fa : Option Addr
 fc : Nat
 fs : List FIn
def SRow (w : World) (a : Option Addr) (l : List SIn) : Prop:=∀ j x,l[j]?=some x→∃ A,a=some A∧w.cell? (A.add (j*2))=some (.string x.name)∧w.cell? (efld A 2 j 1)=some (.slice x.fa x.fs.length x.fc)∧FRow w x.fa x.fs∧x.fs.length≤maxLen∧x.name.size≤maxLen
theorem SRow.below {w w' : World} {a : Option Addr} {l : List SIn} (h : SRow w a l) (hb : Below w.heap.size w w') : SRow w' a l:=fun j x hj=>by
 obtain ⟨A,h1,h2,h3,h4,h5⟩:=h j x hj
 exact ⟨A,h1,za8 hb h2,za8 hb h3,h4.below hb,h5⟩
def idxI {α : Type} (xs : List α) (q : α→Bool) : Int:=match xs.findIdx? q with
 | some k=>(k : Int)
 | none=>-1
def NoneTo {α : Type} (xs : List α) (q : α→Bool) (k : Nat) : Prop:=∀ j y,j < k→xs[j]?=some y→q y=false
theorem NoneTo.step {α : Type} {xs : List α} {q : α→Bool} {k : Nat} (h : NoneTo xs q k) {x : α} (hk : xs[k]?=some x) (hx : q x=false) : NoneTo xs q (k+1):=fun j y hj hy=>by
 by_cases e : j=k
 ·subst e
  rw [hk] at hy
  injection hy with hy
  rw [← hy];exact hx
 ·exact h j y (by omega) hy
theorem zjy {α : Type} {xs : List α} {q : α→Bool} {k : Nat} {x : α} (h : xs[k]?=some x) (hq : q x=true) (hb : NoneTo xs q k) : xs.findIdx? q=some k:=by
 obtain ⟨hk,rfl⟩:=List.getElem?_eq_some_iff.1 h
 rw [List.findIdx?_eq_some_iff_getElem]
 exact ⟨hk,hq,fun j hj=>by simp [hb j _ hj (List.getElem?_eq_getElem (by omega))]⟩
theorem ziI {α : Type} {xs : List α} {q : α→Bool} (hb : NoneTo xs q xs.length) : xs.findIdx? q=none:=by
 rw [List.findIdx?_eq_none_iff]
 intro x hx
 obtain ⟨j,hj,rfl⟩:=List.mem_iff_getElem.1 hx
 exact hb j _ hj (List.getElem?_eq_getElem hj)
theorem zet {α : Type} {xs : List α} {q : α→Bool} {k : Nat} (h : xs.findIdx? q=some k) : idxI xs q=k:=by unfold idxI;rw [h]
theorem zeu {α : Type} {xs : List α} {q : α→Bool} (h : xs.findIdx? q=none) : idxI xs q=-1:=by unfold idxI;rw [h]
def nameIs (name s : ByteArray) : Bool:=s.toList == name.toList
theorem zev (name s : ByteArray) (fv : Value) (nb : Nat) (w : World) (hc : w.cell? ⟨nb,0,none⟩=some (.string name)) :
 Calls Tryz.prog 177 #[.agg #[.string s,fv],.pointer (some ⟨nb,0,none⟩)] w fun e w'=>e=.returned (.bool (nameIs name s))∧Below w.heap.size w w':=by
 have hc2:=zjA (.cells #[.string s,fv] 78) hc
 go_enter Tryz.func177,Tryz.ntmps177
 go_wp2
 go_ret
 exact ⟨rfl,(Below.refl _ _).alloc (Nat.le_refl _) _⟩
theorem zew (a : Option Addr) (c : Nat) (xs : List SIn) (name : ByteArray) (nb : Nat) (w : World) (hv : SRow w a xs) (hl : xs.length≤maxLen) (hc : w.cell? ⟨nb,0,none⟩=some (.string name)) :
 Calls Tryz.prog 176 #[.slice a xs.length c,.func (.func 177) #[] #[.pointer (some ⟨nb,0,none⟩)]] w fun e w'=>e=.returned (.int .i64 (idxI xs fun x=>nameIs name x.name))∧Below w.heap.size w w':=by
 have HV:=hid hv
 have HC:=hid hc
 obtain ⟨l,hll⟩ : ∃ l,xs.length=l:=⟨_,rfl⟩
 rw [hll] at hl ⊢
 have Hl:=hid hll
 unfold maxLen at hl
 clear hv hll hc
 go_enter Tryz.func176,Tryz.ntmps176
 go_wp2
 go_loopw [5,8] (fun x i wr=>∃ k : Nat,i=.int .i64 k∧k≤l∧Hid (NoneTo xs (fun x=>nameIs name x.name) k)∧Hid (Below w.heap.size w wr)) (fun _ i _=>l - (RowKit.intOf i).toNat)
 case atStart=>exact ⟨0,rfl,Nat.zero_le _,fun j x hj=>by omega,Below.refl _ _⟩
 case round =>
  obtain ⟨k,rfl,hk,HR,HB⟩:=hrel
  by_cases hlt : k < l
  ·obtain ⟨x,hx⟩ : ∃ x,xs[k]?=some x:=⟨_,List.getElem?_eq_getElem (by rw [Hl.out];exact hlt)⟩
   obtain ⟨A,rfl,c0,c1,_,_,_⟩:=(HV.out.below HB.out) k x hx
   have hcall:=zev name x.name (.slice x.fa x.fs.length x.fc) nb wr (za8 HB.out HC.out)
   unfold efld at c1
   cases hr : nameIs name x.name with
   | false =>
     have hst:=hid (HR.out.step hx hr)
     rw [hr] at hcall
     obtain ⟨nm,fa,fc,fs⟩:=x
     dsimp only at c0 c1 hcall
     clear hx hr
     go_wp2_with (go_at_call 177;refine hcall.mono ?_;rintro e w1 ⟨rfl,hb1⟩)
     have HB1 : Hid (Below w.heap.size w w1):=HB.out.trans (hb1.mono HB.out.size)
     clear hcall
     go_roundw
     case rel=>exact ⟨k+1,by go_num,by omega,hst,HB1⟩
     case measure=>simp [RowKit.intOf];omega
   | true =>
     have hno:=hid (zet (zjy (q:=fun x=>nameIs name x.name) hx hr HR.out))
     rw [hr] at hcall
     obtain ⟨nm,fa,fc,fs⟩:=x
     dsimp only at c0 c1 hcall
     clear hx hr
     go_wp2_with (go_at_call 177;refine hcall.mono ?_;rintro e w1 ⟨rfl,hb1⟩)
     have HB1 : Hid (Below w.heap.size w w1):=HB.out.trans (hb1.mono HB.out.size)
     go_ret
     exact ⟨by rw [hno.out];rfl,HB1.out⟩
  ·obtain rfl : k=l:=by omega
   have hall:=hid (zeu (ziI (q:=fun x=>nameIs name x.name) (xs:=xs) (by rw [Hl.out];exact HR.out)))
   go_wp2
   go_ret
   exact ⟨by rw [hall.out];rfl,HB.out⟩
theorem zfs (a : Option Addr) (c : Nat) (xs : List SIn) (name : ByteArray) (w : World) (hv : SRow w a xs) (hl : xs.length≤maxLen) :
 Calls Tryz.prog 120 #[.slice a xs.length c,.string name] w fun e w'=>e=.returned (.int .i64 (idxI xs fun x=>nameIs name x.name))∧Below w.heap.size w w':=by
 have hc:=zew a c xs name w.heap.size (w.alloc (.cells #[.string name] 9)) (hv.below ((Below.refl _ _).alloc (Nat.le_refl _) _)) hl (by simp)
 generalize (idxI xs fun x=>nameIs name x.name)=z at hc ⊢
 go_enter Tryz.func120,Tryz.ntmps120
 go_wp2_with (go_at_call 176;refine hc.mono ?_;rintro e w1 ⟨rfl,hb1⟩)
 go_ret
 exact ⟨rfl,((Below.refl _ _).alloc (Nat.le_refl _) _).trans (hb1.mono (by simp))⟩
theorem zjz {α : Type} {xs : List α} {q : α→Bool} {k : Nat} (h : xs.findIdx? q=some k) : ∃ x,xs[k]?=some x∧k < xs.length∧q x=true:=by
 rw [List.findIdx?_eq_some_iff_getElem] at h
 obtain ⟨hk,hq,_⟩:=h
 exact ⟨_,List.getElem?_eq_getElem hk,hk,hq⟩
theorem zfr (k n : Int) (s nm : ByteArray) (kd : Int) (w : World) :
 Calls Tryz.prog 154 #[.agg #[.int .i64 k,.int .i64 n,.string s],.agg #[.string nm,.int .i64 kd]] w fun e w'=>e=.returned (.bool (k == kd))∧Below w.heap.size w w':=by
 go_enter Tryz.func154,Tryz.ntmps154
 go_wp2
 go_ret
 exact ⟨rfl,by repeat' (first|exact Below.refl _ _|refine Below.alloc ?_ (by simp <;> omega) _)⟩
def kindsB (vs : List VIn) (fs : List FIn) : Bool:=decide (vs.map (·.1)=fs.map (·.2))
def KindsTo (vs : List VIn) (fs : List FIn) (k : Nat) : Prop:=∀ j x y,j < k→vs[j]?=some x→fs[j]?=some y→x.1=y.2
theorem KindsTo.step {vs : List VIn} {fs : List FIn} {k : Nat} (h : KindsTo vs fs k) {x : VIn} {y : FIn} (hx : vs[k]?=some x) (hy : fs[k]?=some y) (he : x.1=y.2) : KindsTo vs fs (k+1):=fun j x' y' hj hx' hy'=>by
 by_cases e : j=k
 ·subst e
  rw [hx] at hx'
  rw [hy] at hy'
  injection hx' with hx'
  injection hy' with hy'
  rw [← hx',← hy'];exact he
 ·exact h j x' y' (by omega) hx' hy'
theorem KindsTo.all {vs : List VIn} {fs : List FIn} (h : KindsTo vs fs vs.length) (hl : vs.length=fs.length) : kindsB vs fs=true:=by
 refine decide_eq_true (List.ext_getElem (by simpa using hl) fun j h1 h2=>?_)
 simp only [List.length_map] at h1 h2
 simp only [List.getElem_map]
 exact h j _ _ h1 (List.getElem?_eq_getElem h1) (List.getElem?_eq_getElem h2)
theorem zgB {vs : List VIn} {fs : List FIn} (h : vs.length≠fs.length) : kindsB vs fs=false:=by
 refine decide_eq_false fun e=>h ?_
 have:=congrArg List.length e
 simpa using this
theorem zhz {vs : List VIn} {fs : List FIn} {k : Nat} {x : VIn} {y : FIn} (hx : vs[k]?=some x) (hy : fs[k]?=some y) (he : x.1≠y.2) : kindsB vs fs=false:=by
 refine decide_eq_false fun e=>he ?_
 have:=congrArg (·[k]?) e
 simp only [List.getElem?_map,hx,hy,Option.map_some,Option.some.injEq] at this
 exact this
theorem zes (va : Option Addr) (vc : Nat) (vs : List VIn) (fa : Option Addr) (fc : Nat) (fs : List FIn) (w : World) (hv : VRow w va vs) (hvl : vs.length≤maxLen) (hf : FRow w fa fs) (hfl : fs.length≤maxLen) :
 Calls Tryz.prog 155 #[.slice va vs.length vc,.slice fa fs.length fc,.func (.func 154) #[] #[]] w fun e w'=>e=.returned (.bool (kindsB vs fs))∧Below w.heap.size w w':=by
 have HV:=hid hv
 have HF:=hid hf
 obtain ⟨l,hll⟩ : ∃ l,vs.length=l:=⟨_,rfl⟩
 obtain ⟨m,hmm⟩ : ∃ m,fs.length=m:=⟨_,rfl⟩
 have Hl:=hid hll
 have Hm:=hid hmm
 rw [hll] at hvl ⊢
 rw [hmm] at hfl ⊢
 unfold maxLen at hvl hfl
 clear hv hf hll hmm
 by_cases hlm : l=m
 ·subst hlm
  clear hfl
  go_enter Tryz.func155,Tryz.ntmps155
  go_wp2
  go_loopw [7,8,9,17] (fun x y z i wr=>∃ k : Nat,i=.int .i64 k∧k≤l∧Hid (KindsTo vs fs k)∧Hid (Below w.heap.size w wr)) (fun _ _ _ i _=>l - (RowKit.intOf i).toNat)
  case atStart=>exact ⟨0,rfl,Nat.zero_le _,fun j x y hj=>by omega,Below.refl _ _⟩
  case round =>
   obtain ⟨k,rfl,hk,HR,HB⟩:=hrel
   by_cases hlt : k < l
   ·obtain ⟨x,hx⟩ : ∃ x,vs[k]?=some x:=⟨_,List.getElem?_eq_getElem (by rw [Hl.out];exact hlt)⟩
    obtain ⟨y,hy⟩ : ∃ y,fs[k]?=some y:=⟨_,List.getElem?_eq_getElem (by rw [Hm.out];exact hlt)⟩
    obtain ⟨A,rfl,c0,c1,c2,_⟩:=(HV.out.below HB.out) k x hx
    have HFb:=hid ((HF.out.below HB.out).below ((Below.refl _ wr).alloc (Nat.le_refl _) (.cells #[.int .i64 x.1,.int .i64 x.2.1,.string x.2.2] 70)))
    obtain ⟨B,rfl,d0,d1,_⟩:=HFb.out k y hy
    unfold efld at c1 c2 d1
    have hst:=fun h=>hid (HR.out.step hx hy h)
    have hno:=fun h=>hid (zhz hx hy h)
    obtain ⟨k1,n1,s1⟩:=x
    obtain ⟨nm,kd⟩:=y
    dsimp only at c0 c1 c2 d0 d1 hst hno HFb
    have hbb : Hid (Below w.heap.size w ((wr.alloc (.cells #[.int .i64 k1,.int .i64 n1,.string s1] 70)).alloc (.cells #[.string nm,.int .i64 kd] 85))):=(HB.out.alloc HB.out.size _).alloc (by have:=HB.out.size;simp;omega) _
    have HCall:=hid (zfr k1 n1 s1 nm kd ((wr.alloc (.cells #[.int .i64 k1,.int .i64 n1,.string s1] 70)).alloc (.cells #[.string nm,.int .i64 kd] 85)))
    clear hx hy HFb
    by_cases he : k1=kd
    ·have Hst:=hst he
     have h1 : (k1 == kd)=true:=by simpa using he
     rw [h1] at HCall
     clear hst hno he h1
     go_wp2_with (go_at_call 154;refine HCall.out.mono ?_;rintro e w1 ⟨rfl,hb1⟩)
     have HB1 : Hid (Below w.heap.size w w1):=hbb.out.trans (hb1.mono hbb.out.size)
     go_roundw
     case rel=>exact ⟨k+1,by go_num,by omega,Hst,HB1⟩
     case measure=>simp [RowKit.intOf];omega
    ·have Hno:=hno he
     have h1 : (k1 == kd)=false:=by simpa using he
     rw [h1] at HCall
     clear hst hno he h1
     go_wp2_with (go_at_call 154;refine HCall.out.mono ?_;rintro e w1 ⟨rfl,hb1⟩)
     have HB1 : Hid (Below w.heap.size w w1):=hbb.out.trans (hb1.mono hbb.out.size)
     go_ret
     exact ⟨by rw [Hno.out];rfl,HB1.out⟩
   ·obtain rfl : k=l:=by omega
    have hall:=hid (KindsTo.all (vs:=vs) (fs:=fs) (by rw [Hl.out];exact HR.out) (by rw [Hl.out,Hm.out]))
    go_wp2
    go_ret
    exact ⟨by rw [hall.out];rfl,HB.out⟩
 ·have hno:=hid (zgB (vs:=vs) (fs:=fs) (by rw [Hl.out,Hm.out];exact hlm))
  have hd : ((l : Int) != (m : Int))=true:=by rw [bne_iff_ne];omega
  go_enter Tryz.func155,Tryz.ntmps155
  go_wp2
  go_ret
  exact ⟨by rw [hno.out];rfl,Below.refl _ _⟩
def fitsI (xs : List SIn) (nm : ByteArray) (vs : List VIn) : Int:=match xs.findIdx? fun x=>nameIs nm x.name with
 | none=>12
 | some k=>if kindsB vs ((xs[k]?.map (·.fs)).getD []) then 0 else 42
theorem zgC {xs : List SIn} {nm : ByteArray} {vs : List VIn} (h : xs.findIdx? (fun x=>nameIs nm x.name)=none) : fitsI xs nm vs=12:=by unfold fitsI;rw [h]
theorem zgD {xs : List SIn} {nm : ByteArray} {vs : List VIn} {k : Nat} {x : SIn} (h : xs.findIdx? (fun x=>nameIs nm x.name)=some k) (hx : xs[k]?=some x) : fitsI xs nm vs=if kindsB vs x.fs then 0 else 42:=by unfold fitsI;rw [h];simp [hx]
theorem zgE (sa : Option Addr) (sc : Nat) (xs : List SIn) (t d s : Int) (n : ByteArray) (a : Option Addr) (c : Nat) (vs : List VIn) (w : World) (hs : SRow w sa xs) (hsl : xs.length≤maxLen) (hn : n.size≤maxLen) (hv : VRow w a vs) (hl : vs.length≤maxLen) :
 Calls Tryz.prog 92 #[.slice sa xs.length sc,evV t d s n (.slice a vs.length c)] w fun e w'=>e=.returned (.int .i64 (if rightE (pe t d s n vs) then fitsI xs n vs else 1))∧Below w.heap.size w w':=by
 have hb0 : Below w.heap.size w (w.alloc (.cells #[.int .i64 t,.int .i64 d,.int .i64 s,.string n,.slice a vs.length c] 41)):=(Below.refl _ _).alloc (Nat.le_refl _) _
 have HR:=hid (zex t d s n a c vs (w.alloc (.cells #[.int .i64 t,.int .i64 d,.int .i64 s,.string n,.slice a vs.length c] 41)) hn (hv.below hb0) hl)
 have HP:=hid (fun W (hb : Below w.heap.size w W)=>zfs sa sc xs n W (hs.below hb) hsl)
 have HE:=hid (fun W (hb : Below w.heap.size w W) (x : SIn) (hx : FRow W x.fa x.fs) (hxl : x.fs.length≤maxLen)=>zes a c vs x.fa x.fc x.fs W (hv.below hb) hl hx hxl)
 have HS:=hid hs
 obtain ⟨l,hll⟩ : ∃ l,vs.length=l:=⟨_,rfl⟩
 obtain ⟨m,hmm⟩ : ∃ m,xs.length=m:=⟨_,rfl⟩
 have Hm:=hid hmm
 rw [hll] at HR HE hl hb0 ⊢
 rw [hmm] at HP hsl ⊢
 have HB0:=hid hb0
 unfold maxLen at hl hsl
 clear hv hs hll hmm hb0
 cases hr : rightE (pe t d s n vs) with
 | false =>
   rw [hr] at HR
   go_enter Tryz.func92,Tryz.ntmps92
   go_wp2_with (go_at_call 153;refine HR.out.mono ?_;rintro e w1 ⟨rfl,hb1⟩)
   go_ret
   exact ⟨rfl,HB0.out.trans (hb1.mono HB0.out.size)⟩
 | true =>
 rw [hr] at HR
 cases hf : xs.findIdx? (fun x=>nameIs n x.name) with
 | none =>
   rw [zeu hf] at HP
   have HN:=hid (zgC (vs:=vs) hf)
   clear hf
   go_enter Tryz.func92,Tryz.ntmps92
   go_wp2_with (first
    | (go_at_call 153;refine HR.out.mono ?_;rintro e w1 ⟨rfl,hb1⟩;have x3 : w1.cell? ⟨w.heap.size,3,none⟩=some (.string n):=za8 hb1 (by simp);have HB1 : Hid (Below w.heap.size w w1):=HB0.out.trans (hb1.mono HB0.out.size);clear hb1)
    | (go_at_call 120;refine (HP.out _ HB1.out).mono ?_;rintro e w2 ⟨rfl,hb2⟩))
   go_ret
   exact ⟨by rw [HN.out];rfl,HB1.out.trans (hb2.mono HB1.out.size)⟩
 | some k =>
   obtain ⟨x,hx,hk,_⟩:=zjz hf
   rw [zet hf] at HP
   have HN:=hid (zgD (vs:=vs) hf hx)
   have Hx:=hid hx
   rw [Hm.out] at hk
   clear hf hx
   go_enter Tryz.func92,Tryz.ntmps92
   go_upto_region 7 with (first
    | (go_at_call 153;refine HR.out.mono ?_;rintro e w1 ⟨rfl,hb1⟩;have x3 : w1.cell? ⟨w.heap.size,3,none⟩=some (.string n):=za8 hb1 (by simp);have x4 : w1.cell? ⟨w.heap.size,4,none⟩=some (.slice a l c):=za8 hb1 (by simp);have HB1 : Hid (Below w.heap.size w w1):=HB0.out.trans (hb1.mono HB0.out.size);clear hb1)
    | (go_at_call 120;refine (HP.out _ HB1.out).mono ?_;rintro e w2 ⟨rfl,hb2⟩))
   have HB2 : Hid (Below w.heap.size w w2):=HB1.out.trans (hb2.mono HB1.out.size)
   have y4 : w2.drew.cell? ⟨w.heap.size,4,none⟩=some (.slice a l c):=za8 hb2 x4
   obtain ⟨A,rfl,c0,c1,hfr,hfl,_⟩:=(HS.out.below HB2.out) k x Hx.out
   have HCall:=hid (HE.out w2.drew (zae HB2.out) x hfr hfl)
   obtain ⟨nm,fa,fc,fs⟩:=x
   dsimp only at c0 c1 hfr hfl HCall HN
   unfold efld at c1
   have c1' : w2.drew.cell? ⟨(A.add (k*2)).block,(A.add (k*2)).off+1,none⟩=some (.slice fa fs.length fc):=c1
   have hk0 : (0 : Int)≤(k : Int):=by omega
   have hk1 : (k : Int) < (m : Int):=by omega
   have HB2d : Hid (Below w.heap.size w w2.drew):=zae HB2.out
   clear c0 c1 hfr hb2 x3 x4
   cases hkb : kindsB vs fs with
   | true =>
     rw [hkb] at HCall HN
     go_region_held3 (fun W=>W.cell? ⟨w.heap.size,4,none⟩=some (.slice a l c)∧W.cell? ⟨(A.add (k*2)).block,(A.add (k*2)).off+1,none⟩=some (.slice fa fs.length fc))
      ((refine ⟨?_,?_⟩ <;> with_reducible assumption))
      (first|(go_at_call 155;refine HCall.out.mono ?_;rintro e w4 ⟨rfl,hb4⟩;have z0:=za8 hb4 y4;have z1:=za8 hb4 c1'))
     all_goals
      go_wp2
      go_ret
      exact ⟨by rw [HN.out];rfl,HB2d.out.trans (hb4.mono HB2d.out.size)⟩
   | false =>
     rw [hkb] at HCall HN
     go_region_held3 (fun W=>W.cell? ⟨w.heap.size,4,none⟩=some (.slice a l c)∧W.cell? ⟨(A.add (k*2)).block,(A.add (k*2)).off+1,none⟩=some (.slice fa fs.length fc))
      ((refine ⟨?_,?_⟩ <;> with_reducible assumption))
      (first|(go_at_call 155;refine HCall.out.mono ?_;rintro e w4 ⟨rfl,hb4⟩;have z0:=za8 hb4 y4;have z1:=za8 hb4 c1'))
     all_goals
      go_wp2
      go_ret
      exact ⟨by rw [HN.out];rfl,HB2d.out.trans (hb4.mono HB2d.out.size)⟩
def RunsS (runs : List PRun) : Prop:=runs.length≤100000∧∀ r∈runs,BdS r.bound
theorem zbc {p : PQu} (h : rightQ p=true) : 0≤p.within∧p.within≤1099511627776:=by
 unfold rightQ at h
 simp only [Bool.and_eq_true,decide_eq_true_eq] at h
 exact h.2.2.2.1
theorem zdz {p : PQu} {time : Int} {runs : List PRun} : ovA (rightQ p) p.its p.within time runs=(timeP p runs time).1∧ovB (rightQ p) p.its p.within time runs=(timeP p runs time).2:=by
 unfold ovA ovB timeP
 cases rightQ p <;> exact ⟨rfl,rfl⟩
theorem zdg {p : PQu} {time : Int} {runs : List PRun} (h : RunsS runs) : (∀ r∈(timeP p runs time).1,BdS r.bound)∧(∀ m∈(timeP p runs time).2,BdS m.bound):=by
 unfold timeP
 split
 ·refine ⟨fun r hr=>h.2 r (List.mem_filter.1 hr).1,fun m hm=>?_⟩
  obtain ⟨r,hr,e⟩:=List.mem_filterMap.1 hm
  unfold doneR at e
  split at e
  ·injection e with e
   rw [← e]
   exact h.2 r hr
  ·cases e
 ·exact ⟨fun r hr=>(by cases hr),fun r hr=>(by cases hr)⟩
def TiTo (l1 : List PRun) (l2 : List PMt) (w : World) (e : Ending) (w' : World) : Prop:=∃ v1 v2,e=.returned (.tuple #[v1,v2])∧OvX (fun g=>g < w.heap.size) w.heap.size w' v1 v2 l1 l2∧Below w.heap.size w w'
section
variable {K K2 : Nat→Prop} {w : World} {a qa qb : Option Addr} {c q qc r d : Nat} {p : PQu} {runs : List PRun}
theorem zcw (hq : QuAt K w qa q qc qb r d p) (hb : QuB p) (h : RowK runD (fun _=>False) w (.slice a runs.length c) runs) (hs : RunsS runs) {time : Int} (ht : -9223372036854775808≤time∧time≤9223372036854775807) : Calls Tryz.prog 27 #[.agg #[.slice qa q qc,.slice qb r d,.int .i64 p.within,.string (strB p.by_),.int .i64 p.pick],.slice a runs.length c,.int .i64 time] w (TiTo (timeP p runs time).1 (timeP p runs time).2 w):=by
 have hb0:=(Below.refl w.heap.size w).alloc (Nat.le_refl _) (.cells #[.slice qa q qc,.slice qb r d,.int .i64 p.within,.string (strB p.by_),.int .i64 p.pick] 26)
 have HX:=hid (Blk.new w #[.slice qa q qc,.slice qb r d,.int .i64 p.within,.string (strB p.by_),.int .i64 p.pick] 26)
 have HB0:=hid hb0
 have hwd:=zae hb0
 have HC:=hid (zaC (w:=(w.alloc (.cells #[.slice qa q qc,.slice qb r d,.int .i64 p.within,.string (strB p.by_),.int .i64 p.pick] 26)).drew) ⟨hq.1.low hwd,hq.2.low hwd⟩ hb)
 have HOV : Hid (∀ (W : World) (va : Option Addr) (m vc : Nat),Below w.heap.size w W→RowK stateD (fun g=>g < (w.alloc (.cells #[.slice qa q qc,.slice qb r d,.int .i64 p.within,.string (strB p.by_),.int .i64 p.pick] 26)).drew.heap.size) W (.slice va m vc) (if rightQ p then stsN p.its else [])→Calls Tryz.prog 56 #[.agg #[.slice qa q qc,.slice qb r d,.int .i64 p.within,.string (strB p.by_),.int .i64 p.pick],.slice va m vc,.slice a runs.length c,.int .i64 time] W (OverTo (rightQ p) p.its p.within time runs W)):=fun W va m vc hW hst=>by
  obtain rfl:=hq.1.len
  exact zdh (rightQ p) (hq.1.low hW) hst (h.low hW) zbc (fun hz=>by
   obtain ⟨_,_,_,_,_,h6⟩:=zaw hz
   exact h6) ht (by have:=hs.1;omega) (strB p.by_)
 have HS:=hid hs
 have HSM:=hid (zdg (p:=p) (time:=time) hs)
 obtain ⟨n,hn⟩ : ∃ n,runs.length=n:=⟨_,rfl⟩
 have HN:=hid hn
 rw [hn] at HOV ⊢
 obtain ⟨x0,x1,x2,x3,x4⟩:=c5w HX.out
 clear hq hb h hs hb0 hwd hn
 go_enter Tryz.func27,Tryz.ntmps27
 go_wp2_with fail
 have f0 : (w.alloc (.cells #[.slice qa q qc,.slice qb r d,.int .i64 p.within,.string (strB p.by_),.int .i64 p.pick] 26)).drew.cell? ⟨w.heap.size,0,none⟩=some (.slice qa q qc):=x0
 have f1 : (w.alloc (.cells #[.slice qa q qc,.slice qb r d,.int .i64 p.within,.string (strB p.by_),.int .i64 p.pick] 26)).drew.cell? ⟨w.heap.size,1,none⟩=some (.slice qb r d):=x1
 have f2 : (w.alloc (.cells #[.slice qa q qc,.slice qb r d,.int .i64 p.within,.string (strB p.by_),.int .i64 p.pick] 26)).drew.cell? ⟨w.heap.size,2,none⟩=some (.int .i64 p.within):=x2
 have f3 : (w.alloc (.cells #[.slice qa q qc,.slice qb r d,.int .i64 p.within,.string (strB p.by_),.int .i64 p.pick] 26)).drew.cell? ⟨w.heap.size,3,none⟩=some (.string (strB p.by_)):=x3
 have f4 : (w.alloc (.cells #[.slice qa q qc,.slice qb r d,.int .i64 p.within,.string (strB p.by_),.int .i64 p.pick] 26)).drew.cell? ⟨w.heap.size,4,none⟩=some (.int .i64 p.pick):=x4
 clear x0 x1 x2 x3 x4
 refine wp_region_held_drew (S:=fun W=>W.cell? ⟨w.heap.size,0,none⟩=some (.slice qa q qc)∧W.cell? ⟨w.heap.size,1,none⟩=some (.slice qb r d)∧W.cell? ⟨w.heap.size,2,none⟩=some (.int .i64 p.within)∧W.cell? ⟨w.heap.size,3,none⟩=some (.string (strB p.by_))∧W.cell? ⟨w.heap.size,4,none⟩=some (.int .i64 p.pick)) (by kernel_rfl) ⟨by assumption,by assumption,by assumption,by assumption,by assumption⟩ (fun hHeld=>?_)
 refine rK 0 8 (h:=?_)
 try simp only [Act.put,rI,rZ,rS]
 refine rK 1 9 (h:=?_)
 try simp only [Act.put,rI,rZ,rS]
 refine rK 3 11 (h:=?_)
 try simp only [Act.put,rI,rZ,rS]
 refine rK 4 12 (h:=?_)
 try simp only [Act.put,rI,rZ,rS]
 refine rA 2 (h:=fun K hK=>?_)
 dsimp only [List.getElem_toArray,List.getElem_cons_succ,List.getElem_cons_zero]
 go_simp
 go_at_call 57
 (with_reducible refine HC.out.mono ?_)
 rintro e w1 ⟨v,rfl,hst,hb1⟩
 obtain ⟨va,vc,rfl⟩:=hst.slice
 have hb2 : Below w.heap.size w w1:=(zae HB0.out).trans (hb1.mono (zae HB0.out).size)
 have HO1:=hid (HOV.out w1 _ _ _ hb2 hst)
 obtain ⟨m,hm⟩ : ∃ m,(if rightQ p then stsN p.its else []).length=m:=⟨_,rfl⟩
 rw [hm] at HO1 ⊢
 have HB2:=hid hb2
 have k0:=zaa hb1 f0
 have k1:=zaa hb1 f1
 have k2:=zaa hb1 f2
 have k3:=zaa hb1 f3
 have k4:=zaa hb1 f4
 clear hb1 hb2 hst hm HC HOV f0 f1 f2 f3 f4
 go_wp2_with fail
 refine hK.out _ _ ⟨k0,k1,k2,k3,k4⟩ (fun hHeld=>?_)
 clear hK K
 try simp only [Act.put,rI,rZ,rS]
 refine rA 5 (h:=fun K hK=>?_)
 dsimp only [List.getElem_toArray,List.getElem_cons_succ,List.getElem_cons_zero]
 go_simp
 go_at_call 56
 (with_reducible refine HO1.out.mono ?_)
 rintro e w2 ⟨u1,u2,rfl,ho,hb3⟩
 obtain ⟨a1,c1,rfl⟩:=ho.sl1
 obtain ⟨a2,c2,rfl⟩:=ho.sl2
 rw [zdz.1,zdz.2] at ho ⊢
 have hsz:=HB2.out.size
 have hap:=zer (B:=w1.heap.size) ho (by have:=hb3.size;omega) HSM.out.1 HSM.out.2 (by have:=(zbN (q:=p) (runs:=runs) (b:=time)).1;have:=HS.out.1;omega) (by have:=(zbN (q:=p) (runs:=runs) (b:=time)).2;have:=HS.out.1;omega)
 have HAP:=hid hap
 obtain ⟨m1,hm1⟩ : ∃ m1,(timeP p runs time).1.length=m1:=⟨_,rfl⟩
 obtain ⟨m2,hm2⟩ : ∃ m2,(timeP p runs time).2.length=m2:=⟨_,rfl⟩
 rw [hm1,hm2] at HAP ⊢
 have HB3:=hid hb3
 have l0:=zaa hb3 k0
 have l1:=zaa hb3 k1
 have l2:=zaa hb3 k2
 have l3:=zaa hb3 k3
 have l4:=zaa hb3 k4
 have hwl : w.heap.size < w1.heap.size:=World.block_lt_of_cell? _ _ k0
 clear hb3 ho hm1 hm2 hap HO1 k0 k1 k2 k3 k4
 go_wp2_with fail
 refine hK.out _ _ ⟨l0,l1,l2,l3,l4⟩ (fun hHeld=>?_)
 clear hK K
 try simp only [Act.put,rI,rZ,rS]
 refine rK 6 14 (h:=?_)
 try simp only [Act.put,rI,rZ,rS]
 refine rK 7 15 (h:=?_)
 try simp only [Act.put,rI,rZ,rS]
 refine rA 8 (h:=fun K hK=>?_)
 dsimp only [List.getElem_toArray,List.getElem_cons_succ,List.getElem_cons_zero]
 go_simp
 go_at_call 55
 (with_reducible refine HAP.out.mono ?_)
 rintro e w3 ⟨b1,b2,rfl,ho3,hb4⟩
 have HO9 : Hid (OvX (fun g=>g < w.heap.size) w.heap.size w3 b1 b2 (timeP p runs time).1 (timeP p runs time).2):=(ho3.mono (fun g hg=>Nat.lt_of_lt_of_le hg (Nat.le_trans hsz HB3.out.size))).base hsz
 have HB9 : Hid (Below w.heap.size w w3):=HB2.out.trans ((HB3.out.trans (hb4.mono (by have:=HB3.out.size;omega))).mono hsz)
 have y0:=(hb4.cell (p:=⟨w.heap.size,0,none⟩) hwl).trans l0
 have y1:=(hb4.cell (p:=⟨w.heap.size,1,none⟩) hwl).trans l1
 have y2:=(hb4.cell (p:=⟨w.heap.size,2,none⟩) hwl).trans l2
 have y3:=(hb4.cell (p:=⟨w.heap.size,3,none⟩) hwl).trans l3
 have y4:=(hb4.cell (p:=⟨w.heap.size,4,none⟩) hwl).trans l4
 clear hb4 ho3 l0 l1 l2 l3 l4
 go_wp2_with fail
 refine hK.out _ _ ⟨y0,y1,y2,y3,y4⟩ (fun hHeld=>?_)
 clear hK K
 try simp only [Act.put,rI,rZ,rS]
 refine rK 9 17 (h:=?_)
 try simp only [Act.put,rI,rZ,rS]
 refine rK 10 18 (h:=?_)
 try simp only [Act.put,rI,rZ,rS]
 refine rK 11 6 (h:=?_)
 try simp only [Act.put,rI,rZ,rS]
 refine rK 12 7 (h:=?_)
 try simp only [Act.put,rI,rZ,rS]
 refine wpAnyH_done (by kernel_rfl) ?_ _
 go_wp2
 refine bodyPost_ret (v:=.tuple #[b1,b2]) (by simp [results,Tryz.results27,go_sem]) rfl ?_
 exact ⟨_,_,rfl,HO9.out,HB9.out⟩
end
def pvIn (v : PVal) : VIn:=(v.k,v.n,strB v.s)
theorem zkl (v : PVal) : pv (pvIn v)=v:=by
 unfold pv pvIn
 rw [zax]
theorem zjU (l : List PVal) : (l.map pvIn).map pv=l:=by
 rw [List.map_map]
 have e : pv ∘ pvIn=id:=funext zkl
 rw [e,List.map_id]
theorem RowK.vrow {K : Nat→Prop} {w : World} {a : Option Addr} {n c : Nat} {l : List PVal} (h : RowK valD K w (.slice a n c) l) : VRow w a (l.map pvIn):=by
 obtain ⟨a',c',e,_,h⟩:=h
 injection e with e1 e2 e3
 subst e1
 intro j x hj
 rw [List.getElem?_map] at hj
 obtain ⟨v,hv,rfl⟩:=Option.map_eq_some_iff.1 hj
 obtain ⟨g,o,cs,ea,hg,⟨hcs,hs⟩,hc⟩:=h j v hv
 subst hcs
 have e : (⟨g,o,none⟩ : Addr).add (j*3)=⟨g,o+j*3,none⟩:=by unfold Addr.add;split <;> simp_all
 refine ⟨⟨g,o,none⟩,ea,?_,?_,?_,?_⟩
 ·rw [e];exact hc 0 _ rfl
 ·unfold efld;rw [e];exact hc 1 _ rfl
 ·unfold efld;rw [e];exact hc 2 _ rfl
 ·show (strB v.s).size≤_
  rw [zap];exact hs
def evV' (e : PEv) (a : Option Addr) (c : Nat) : Value:=.agg #[.int .i64 e.ts,.int .i64 e.dep,.int .i64 e.seq,.string (strB e.name),.slice a e.vals.length c]
theorem zjV (e : PEv) : pe e.ts e.dep e.seq (strB e.name) (e.vals.map pvIn)=e:=by
 unfold pe
 rw [zax,zjU]
theorem zcn {K : Nat→Prop} {w : World} {a : Option Addr} {c : Nat} {e : PEv} (h : RowK valD K w (.slice a e.vals.length c) e.vals) (hn : e.name.length≤maxLen) (hl : e.vals.length≤1000000) : Calls Tryz.prog 58 #[evV' e a c] w fun en w'=>en=.returned (.bool (rightE e))∧Below w.heap.size w w':=by
 have hb0:=(Below.refl w.heap.size w).alloc (Nat.le_refl _) (.cells #[.int .i64 e.ts,.int .i64 e.dep,.int .i64 e.seq,.string (strB e.name),.slice a e.vals.length c] 41)
 have hf:=zgE none 0 [] e.ts e.dep e.seq (strB e.name) a c (e.vals.map pvIn) (w.alloc (.cells #[.int .i64 e.ts,.int .i64 e.dep,.int .i64 e.seq,.string (strB e.name),.slice a e.vals.length c] 41)) (fun j x hj=>by simp at hj) (Nat.zero_le _) (by rw [zap];exact hn) (h.low hb0).vrow (by rw [List.length_map];unfold maxLen;omega)
 rw [zjV,List.length_map,List.length_nil] at hf
 unfold evV at hf
 have HF:=hid hf
 have HB:=hid hb0
 unfold evV'
 obtain ⟨n,hn2⟩ : ∃ n,e.vals.length=n:=⟨_,rfl⟩
 rw [hn2] at HF HB ⊢
 cases hr : rightE e with
 | true =>
   rw [hr,if_pos rfl] at HF
   obtain ⟨z,hz⟩ : ∃ z,fitsI [] (strB e.name) (e.vals.map pvIn)=z:=⟨_,rfl⟩
   have hz1 : z=12:=by rw [← hz];rfl
   subst hz1
   rw [hz] at HF
   clear h hn hl hb0 hf hn2 hr hz
   go_enter Tryz.func58,Tryz.ntmps58
   go_wp2_with (go_at_call 92;(with_reducible refine HF.out.mono ?_);rintro en w1 ⟨rfl,hb1⟩;have HB1:=hid (HB.out.trans (hb1.mono HB.out.size));clear hb1)
   go_ret
   exact ⟨rfl,HB1.out⟩
 | false =>
   rw [hr] at HF
   clear h hn hl hb0 hf hn2 hr
   go_enter Tryz.func58,Tryz.ntmps58
   go_wp2_with (go_at_call 92;(with_reducible refine HF.out.mono ?_);rintro en w1 ⟨rfl,hb1⟩;have HB1:=hid (HB.out.trans (hb1.mono HB.out.size));clear hb1)
   go_ret
   exact ⟨rfl,HB1.out⟩
theorem zft (a : Option Addr) (c : Nat) (b : Option Addr) (d : Nat) (vs : List VIn) (w : World) (ha : VRow w a vs) (hb : VRow w b vs) (hl : vs.length≤maxLen) :
 Calls Tryz.prog 97 #[.slice a vs.length c,.slice b vs.length d] w fun e w'=>e=.returned (.bool true)∧Below w.heap.size w w':=by
 have HA:=hid ha
 have HB:=hid hb
 obtain ⟨l,hll⟩ : ∃ l,vs.length=l:=⟨_,rfl⟩
 rw [hll] at hl ⊢
 have Hl:=hid hll
 unfold maxLen at hl
 clear ha hb hll
 go_enter Tryz.func97,Tryz.ntmps97
 go_wp2
 go_loopw [5] (fun i wr=>∃ k : Nat,i=.int .i64 k∧k≤l∧Hid (Below w.heap.size w wr)) (fun i _=>l - (RowKit.intOf i).toNat)
 case atStart=>exact ⟨0,rfl,Nat.zero_le _,Below.refl _ _⟩
 case round =>
  obtain ⟨k,rfl,hk,HBl⟩:=hrel
  by_cases hlt : k < l
  ·obtain ⟨x,hx⟩ : ∃ x,vs[k]?=some x:=⟨_,List.getElem?_eq_getElem (by rw [Hl.out];exact hlt)⟩
   obtain ⟨A,rfl,c0,c1,c2,_⟩:=(HA.out.below HBl.out) k x hx
   obtain ⟨B,rfl,d0,d1,d2,_⟩:=(HB.out.below HBl.out) k x hx
   obtain ⟨k1,n1,s1⟩:=x
   dsimp only at c0 c1 c2 d0 d1 d2
   unfold efld at c1 c2 d1 d2
   have hk0 : (0 : Int)≤(k : Int):=by omega
   have hk1 : (k : Int) < (l : Int):=by omega
   clear hx
   go_wp2_with fail
   go_quiet (fail)
   have HB1 : Hid (Below w.heap.size w (wr.drewN nq)):=zaF HBl.out _
   go_wp2_with fail
   go_roundw
   case rel=>exact ⟨k+1,by go_num,by omega,HB1⟩
   case measure=>simp [RowKit.intOf];omega
  ·go_wp2
   go_ret
   exact ⟨rfl,HBl.out⟩
theorem zdR (t d s : Int) (n : ByteArray) (a : Option Addr) (c : Nat) (b : Option Addr) (c' : Nat) (vs : List VIn) (w : World) (ha : VRow w a vs) (hb : VRow w b vs) (hl : vs.length≤maxLen) :
 Calls Tryz.prog 62 #[evV t d s n (.slice a vs.length c),evV t d s n (.slice b vs.length c')] w fun e w'=>e=.returned (.bool true)∧Below w.heap.size w w':=by
 have hB0 : Below w.heap.size w ((w.alloc (.cells #[.int .i64 t,.int .i64 d,.int .i64 s,.string n,.slice a vs.length c] 41)).alloc (.cells #[.int .i64 t,.int .i64 d,.int .i64 s,.string n,.slice b vs.length c'] 41)):=((Below.refl _ _).alloc (Nat.le_refl _) _).alloc (by simp) _
 have HS:=hid (zft a c b c' vs _ (ha.below hB0) (hb.below hB0) hl)
 obtain ⟨l,hll⟩ : ∃ l,vs.length=l:=⟨_,rfl⟩
 rw [hll] at hB0 HS ⊢
 have HB0:=hid hB0
 clear ha hb hll hB0 hl
 go_enter Tryz.func62,Tryz.ntmps62
 go_wp2_with (go_at_call 97;refine HS.out.mono ?_;rintro e w1 ⟨rfl,hb1⟩)
 go_ret
 exact ⟨by simp,HB0.out.trans (hb1.mono HB0.out.size)⟩
end Go.Proofs.YtkmlfkbpcgkpaaaGreatDoor
