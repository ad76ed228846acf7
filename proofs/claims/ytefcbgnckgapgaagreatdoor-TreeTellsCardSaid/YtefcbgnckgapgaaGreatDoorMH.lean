/- Queries: texts that are joined. | Queries: Print. | Queries in plain words: a query is read of its own tokens, and what is printed is read as the same query, unless it is too long. | Queries in plain words: the tokens of what is printed of a query; what is printed is read as the same query, unless it is too long. | Queries: depths; under and place. | Queries: depths; the map by where Kids stand. | Queries: depths; the map's lookup. | Queries: depths; the map read and written. | Queries: depths; the map written. -/
import Derived.Test.YtefcbgnckgapgaaGreatDoorM7
import Derived.Test.YtefcbgnckgapgaaGreatDoorMG
import Derived.LaidEql
import Derived.Maps.Keyed
namespace Go.Proofs.YtefcbgnckgapgaaGreatDoor
open Go.RowKit Go.Lib Go.Op
theorem inter_len (sep : List UInt8) (m : Nat) : ∀ (l : List (List UInt8)),(∀ b∈l,b.length≤m)→(sep.intercalate l).length≤l.length*(m+sep.length)
 | [],_=>by simp [List.intercalate]
 | [b],h=>by
   have:=h b (by simp)
   simp [List.intercalate]
   omega
 | b :: b' :: r,h=>by
   have ih:=inter_len sep m (b' :: r) (fun x hx=>h x (List.mem_cons_of_mem _ hx))
   have h1:=h b List.mem_cons_self
   have e : (sep.intercalate (b :: b' :: r))=b++(sep++sep.intercalate (b' :: r)):=by simp [List.intercalate]
   rw [e,List.length_append,List.length_append,List.length_cons (a:=b),Nat.succ_mul]
   omega
theorem unlikeB_names {l : List (List UInt8)} (h : unlikeB l=true) : ∀ b∈l,b.length≤16:=fun b hb=>by
 unfold unlikeB at h
 rw [Bool.and_eq_true,List.all_eq_true] at h
 exact nameB_len (h.1 b hb)
theorem rightI_parts {i : PIt} (h : rightI i=true) : (1≤i.mode∧i.mode≤3)∧0 < i.ns.length∧i.ns.length≤3∧∀ b∈i.ns,b.length≤16:=by
 unfold rightI at h
 split at h
 ·cases h
 ·rename_i hn
  rw [Bool.and_eq_true,decide_eq_true_eq] at h
  refine ⟨⟨?_,?_⟩,h.1.1,h.1.2,unlikeB_names h.2⟩
  ·exact Int.not_lt.1 (fun e=>hn (.inl e))
  ·exact Int.not_lt.1 (fun e=>hn (.inr (.inl e)))
theorem orjoin_len {i : PIt} (h : rightI i=true) : ([32,111,114,32].intercalate i.ns).length≤1000:=by
 obtain ⟨_,_,h3,h4⟩:=rightI_parts h
 have h1:=inter_len [32,111,114,32] 16 i.ns h4
 have : i.ns.length*(16+[32,111,114,32].length)≤3*20:=Nat.mul_le_mul h3 (by decide)
 omega
theorem itemTx_len {i : PIt} (h : rightI i=true) (hx : i.x.length≤100) : (itemTx i).length≤1200:=by
 unfold itemTx
 have h1:=orjoin_len h
 have h2:=atL_short (l:=modesL) (by decide) i.mode
 have h3 : (if i.no then ([110,111,116,32] : List UInt8) else []).length≤4:=by split <;> decide
 simp only [List.length_append,List.length_cons]
 omega
theorem predTx_len {p : PPr} (h : rightP p=true) : (predTx p).length≤200000:=by
 unfold rightP at h
 rw [Bool.and_eq_true,Bool.and_eq_true] at h
 have h1:=exprTx_len 6 p.l h.2.1
 have h2:=exprTx_len 6 p.r h.2.2
 have h3:=atL_short (l:=cmpsL) (by decide) p.cmp
 have e : (3 : Nat) ^ 6=729:=rfl
 unfold predTx
 simp only [List.length_append,List.length_cons]
 omega
theorem itemText_calls {K : Nat→Prop} {w : World} {a : Option Addr} {c : Nat} (i : PIt) (h : RowK nameD K w (.slice a i.ns.length c) i.ns) (hr : rightI i=true) (hx : i.x.length≤100) : Calls Tryz.prog 19 #[.agg #[.bool i.no,.slice a i.ns.length c,.string (strB i.x),.int .i64 i.mode]] w fun e w'=>e=.returned (.string (strB (itemTx i)))∧Below w.heap.size w w':=by
 obtain ⟨hm,h0,h3,h4⟩:=rightI_parts hr
 have hj:=orjoin_len hr
 have hjoin:=fun W (hW : Below w.heap.size w W)=>joinRow_calls (h.low hW) (fun e=>by rw [e] at h0;simp at h0) [32,111,114,32] (by omega) (by omega)
 obtain ⟨no,ns,x,mode⟩:=i
 cases no with
 | false=>exact it_false hm hx hj hjoin
 | true=>exact it_true hm hx hj hjoin
theorem predText_calls {K : Nat→Prop} {w : World} {a b : Option Addr} {c d e1 e2 : Nat} (p : PPr) (h1 : ExK K w e1 (.slice a p.l.ks.length c) p.l.ks) (h2 : ExK K w e2 (.slice b p.r.ks.length d) p.r.ks) (hr : rightP p=true) (hv : PVars w) : Calls Tryz.prog 21 #[.agg #[.int .i64 p.cmp,.int .i64 p.l.k,.int .i64 p.l.v.k,.int .i64 p.l.v.n,.string (strB p.l.v.s),.string (strB p.l.x),.string (strB p.l.f),.slice a p.l.ks.length c,.int .i64 p.r.k,.int .i64 p.r.v.k,.int .i64 p.r.v.n,.string (strB p.r.v.s),.string (strB p.r.x),.string (strB p.r.f),.slice b p.r.ks.length d]] w fun e w'=>e=.returned (.string (strB (predTx p)))∧Below w.heap.size w w':=by
 unfold rightP at hr
 rw [Bool.and_eq_true,Bool.and_eq_true,decide_eq_true_eq] at hr
 have l1:=exprTx_len 6 p.l hr.2.1
 have l2:=exprTx_len 6 p.r hr.2.2
 have e : (3 : Nat) ^ 6=729:=rfl
 exact pt_text (t0:=exprTx 6 p.l) (t1:=exprTx 6 p.r) hr.1 (by omega) (by omega)
  (fun W hW=>exprText_calls 6 (by decide) p.l hr.2.1 W (hv.below hW) e1 a c (h1.keep (TFr.of_below hW)))
  (fun W hW=>exprText_calls 6 (by decide) p.r hr.2.2 W (hv.below hW) e2 b d (h2.keep (TFr.of_below hW)))
set_option maxHeartbeats 2000000 in
set_option maxRecDepth 100000 in
theorem joinedI_calls {K : Nat→Prop} {w : World} {a : Option Addr} {c : Nat} {l : List PIt} (h : RowK itemD K w (.slice a l.length c) l) (hne : l≠[]) (hl : l.length≤6) (hg : ∀ y∈l,rightI y=true∧y.x.length≤100) (hv : PVars w) (sep : List UInt8) (hs : sep.length≤100) :
 Calls Tryz.prog 18 #[.slice a l.length c,.string (strB sep),.func (.func 19) #[] #[]] w fun e w'=>e=.returned (.string (strB (sep.intercalate (l.map itemTx))))∧Below w.heap.size w w':=by
 have H:=hid h
 have HV:=hid hv
 obtain ⟨q,hq⟩ : ∃ q,l.length=q:=⟨_,rfl⟩
 have HQ:=hid hq
 have HG:=hid hg
 have HNE:=hid hne
 obtain ⟨rs,hrs⟩ : ∃ rs,strB (sep.intercalate (l.map itemTx))=rs:=⟨_,rfl⟩
 have HRS:=hid hrs
 rw [hrs]
 rw [hq] at hl ⊢
 clear h hq hg hv hrs hne
 go_enter Tryz.func18,Tryz.ntmps18
 go_wp2
 go_loopw [7,12] (fun v k wr=>∃ j : Nat,k=.int .i64 j∧j≤q∧Hid (OwnP nameD wr w.heap.size 9 v ((l.take j).map itemTx))∧Hid (Below w.heap.size w wr)) (fun _ k _=>q - (RowKit.intOf k).toNat)
 case atStart=>exact ⟨0,rfl,Nat.zero_le _,⟨[],rfl,World.ownsRow_nil _ _ _ _,fun c hc=>(by cases hc),fun j x hj=>(by simp at hj)⟩,Below.refl _ _⟩
 case round =>
  obtain ⟨j,rfl,hj,HO,HB⟩:=hrel
  obtain ⟨va,vc,rfl⟩:=HO.out.slice
  by_cases hlt : j < q
  ·obtain ⟨y,hy⟩ : ∃ y,l[j]?=some y:=⟨_,List.getElem?_eq_getElem (by rw [HQ.out];exact hlt)⟩
   have hyg:=HG.out y (List.mem_of_getElem? hy)
   obtain ⟨g,o,a2,c2,rfl,d0,d1,d2,d3,hr⟩:=(H.out.low HB.out).itemAt hy
   obtain ⟨m,hm⟩ : ∃ m,y.ns.length=m:=⟨_,rfl⟩
   have hba:=(Below.refl wr.heap.size wr).alloc (Nat.le_refl _) (.cells #[.bool y.no,.slice a2 m c2,.string (strB y.x),.int .i64 y.mode] 35)
   have htx:=itemText_calls y (hr.low ((Below.refl wr.heap.size wr).alloc (Nat.le_refl _) (.cells #[.bool y.no,.slice a2 m c2,.string (strB y.x),.int .i64 y.mode] 35))) hyg.1 hyg.2
   rw [hm] at htx d1
   have HTX:=hid htx
   have HBA:=hid (HB.out.alloc HB.out.size (.cells #[.bool y.no,.slice a2 m c2,.string (strB y.x),.int .i64 y.mode] 35))
   have HBA1:=hid hba
   have HY:=hid hy
   obtain ⟨p,hp⟩ : ∃ p,((l.take j).map itemTx).length=p:=⟨_,rfl⟩
   rw [hp] at HO ⊢
   obtain ⟨ty,hty⟩ : ∃ ty,strB (itemTx y)=ty:=⟨_,rfl⟩
   have HTY:=hid hty
   rw [hty] at HTX
   have HAP : Hid (∀ w1,Below (wr.alloc (.cells #[.bool y.no,.slice a2 m c2,.string (strB y.x),.int .i64 y.mode] 35)).heap.size (wr.alloc (.cells #[.bool y.no,.slice a2 m c2,.string (strB y.x),.int .i64 y.mode] 35)) w1→∃ a9 l9 c9 w9,(Builtin.append_ #[33,33] 33 #[.slice va p vc,.slice (some ⟨w1.heap.size,0,none⟩) 1 1]).run Tryz.prog (w1.alloc (.cells #[.string ty] 9))=.ok (.slice a9 l9 c9) w9∧Hid (OwnP nameD w9 w.heap.size 9 (.slice a9 l9 c9) ((l.take (j+1)).map itemTx))∧Hid (Below w.heap.size w w9)):=fun w1 hb1=>by
    have hb2 : Below wr.heap.size wr w1:=HBA1.out.trans (hb1.mono HBA1.out.size)
    have hb5:=(Below.refl w1.heap.size w1).alloc (Nat.le_refl _) (.cells #[.string ty] 9)
    have o5:=(HO.out.keep (TFr.of_below (K:=fun _=>False) hb2) (fun _ h=>h.elim)).keep (TFr.of_below (K:=fun _=>False) hb5) (fun _ h=>h.elim)
    have hsz:=HB.out.size
    obtain ⟨v9,w9,hr,ho,hg⟩:=OwnP.append (ts:=33) (ty:=33) (x:=itemTx y) (by kernel_rfl) strI rfl (by decide) (by decide) o5 (by have:=hb2.size;have:=hb5.size;omega) (by rw [List.length_map,List.length_take];omega) (show nameD.P _ _ [.string ty] (itemTx y) from by rw [← HTY.out];rfl) (heap_alloc_new w1 _)
    obtain ⟨a9,c9,rfl⟩:=ho.slice
    refine ⟨a9,_,c9,w9,hr,?_,?_⟩
    ·show OwnP _ _ _ _ _ _
     rw [List.take_add_one,HY.out]
     simpa using ho
    ·have hall : Below w.heap.size w (w1.alloc (.cells #[.string ty] 9)):=(HB.out.trans (hb2.mono hsz)).trans (hb5.mono (by have:=hb2.size;omega))
     exact hall.grown hg hall.size (fun k hk=>(o5.own k hk).1)
   clear hba hy hp hty htx hr hm hyg
   go_wp2_with (first
    | (go_at_call 19;(with_reducible refine HTX.out.mono ?_);rintro e w1 ⟨rfl,hb1⟩;obtain ⟨a9,l9,c9,w9,hr9,O9,B9⟩:=HAP.out w1 hb1;clear hb1)
    | (at_builtin;refine Lib.wpList_append_run _ rfl _ _ _ _ rfl _ _ rfl rfl _ _ hr9 ?_;clear hr9))
   go_round
   case rel=>exact ⟨j+1,by go_num,by omega,O9,B9⟩
   case measure=>simp [RowKit.intOf];omega
  ·have hjq : j=l.length:=by rw [HQ.out];omega
   have hmap : (l.take j).map itemTx=l.map itemTx:=by rw [hjq,List.take_length]
   rw [hmap] at HO ⊢
   have hjn:=joinRow_calls HO.out.row (by simpa using HNE.out) sep (by
    have h1:=inter_len sep 1200 (l.map itemTx) (fun b hb=>by
     obtain ⟨y,hy,rfl⟩:=List.mem_map.1 hb
     have hyg:=HG.out y hy
     exact itemTx_len hyg.1 hyg.2)
    rw [List.length_map] at h1
    have : l.length*(1200+sep.length)≤6*(1200+100):=Nat.mul_le_mul (by rw [HQ.out];exact hl) (by omega)
    omega) (by rw [List.length_map,HQ.out];omega)
   rw [HRS.out] at hjn
   obtain ⟨p,hp⟩ : ∃ p,(l.map itemTx).length=p:=⟨_,rfl⟩
   rw [hp] at hjn ⊢
   have HJ:=hid hjn
   clear hjn hp hmap hjq HO
   go_wp2_with (go_at_call 64;(with_reducible refine HJ.out.mono ?_);rintro e w1 ⟨rfl,hb1⟩;have HB1:=hid (HB.out.trans (hb1.mono HB.out.size));clear hb1)
   go_ret
   exact ⟨rfl,HB1.out⟩
set_option maxHeartbeats 2000000 in
set_option maxRecDepth 100000 in
theorem joinedP_calls {K : Nat→Prop} {w : World} {a : Option Addr} {c : Nat} {l : List PPr} (h : RowK predD K w (.slice a l.length c) l) (hne : l≠[]) (hl : l.length≤8) (hg : ∀ y∈l,rightP y=true) (hv : PVars w) (sep : List UInt8) (hs : sep.length≤100) :
 Calls Tryz.prog 20 #[.slice a l.length c,.string (strB sep),.func (.func 21) #[] #[]] w fun e w'=>e=.returned (.string (strB (sep.intercalate (l.map predTx))))∧Below w.heap.size w w':=by
 have H:=hid h
 have HV:=hid hv
 obtain ⟨q,hq⟩ : ∃ q,l.length=q:=⟨_,rfl⟩
 have HQ:=hid hq
 have HG:=hid hg
 have HNE:=hid hne
 obtain ⟨rs,hrs⟩ : ∃ rs,strB (sep.intercalate (l.map predTx))=rs:=⟨_,rfl⟩
 have HRS:=hid hrs
 rw [hrs]
 rw [hq] at hl ⊢
 clear h hq hg hv hrs hne
 go_enter Tryz.func20,Tryz.ntmps20
 go_wp2
 go_loopw [7,12] (fun v k wr=>∃ j : Nat,k=.int .i64 j∧j≤q∧Hid (OwnP nameD wr w.heap.size 9 v ((l.take j).map predTx))∧Hid (Below w.heap.size w wr)) (fun _ k _=>q - (RowKit.intOf k).toNat)
 case atStart=>exact ⟨0,rfl,Nat.zero_le _,⟨[],rfl,World.ownsRow_nil _ _ _ _,fun c hc=>(by cases hc),fun j x hj=>(by simp at hj)⟩,Below.refl _ _⟩
 case round =>
  obtain ⟨j,rfl,hj,HO,HB⟩:=hrel
  obtain ⟨va,vc,rfl⟩:=HO.out.slice
  by_cases hlt : j < q
  ·obtain ⟨y,hy⟩ : ∃ y,l[j]?=some y:=⟨_,List.getElem?_eq_getElem (by rw [HQ.out];exact hlt)⟩
   have hyg:=HG.out y (List.mem_of_getElem? hy)
   obtain ⟨g,o,a1,q1,c1,b1,r1,d1,ed,rfl,hcell,hq1,hr1,h1,h2⟩:=(H.out.low HB.out).predAt hy
   have m0:=hcell 0 _ rfl
   have m1:=hcell 1 _ rfl
   have m2:=hcell 2 _ rfl
   have m3:=hcell 3 _ rfl
   have m4:=hcell 4 _ rfl
   have m5:=hcell 5 _ rfl
   have m6:=hcell 6 _ rfl
   have m7:=hcell 7 _ rfl
   have m8:=hcell 8 _ rfl
   have m9:=hcell 9 _ rfl
   have m10:=hcell 10 _ rfl
   have m11:=hcell 11 _ rfl
   have m12:=hcell 12 _ rfl
   have m13:=hcell 13 _ rfl
   have m14:=hcell 14 _ rfl
   simp only [Nat.add_zero] at m0
   have hba:=(Below.refl wr.heap.size wr).alloc (Nat.le_refl _) (.cells #[.int .i64 y.cmp,.int .i64 y.l.k,.int .i64 y.l.v.k,.int .i64 y.l.v.n,.string (strB y.l.v.s),.string (strB y.l.x),.string (strB y.l.f),.slice a1 q1 c1,.int .i64 y.r.k,.int .i64 y.r.v.k,.int .i64 y.r.v.n,.string (strB y.r.v.s),.string (strB y.r.x),.string (strB y.r.f),.slice b1 r1 d1] 42)
   have htx:=predText_calls y (h1.keep (TFr.of_below hba)) (h2.keep (TFr.of_below hba)) hyg ((HV.out.below HB.out).below hba)
   rw [← hq1,← hr1] at htx
   have HTX:=hid htx
   have HBA:=hid (HB.out.alloc HB.out.size (.cells #[.int .i64 y.cmp,.int .i64 y.l.k,.int .i64 y.l.v.k,.int .i64 y.l.v.n,.string (strB y.l.v.s),.string (strB y.l.x),.string (strB y.l.f),.slice a1 q1 c1,.int .i64 y.r.k,.int .i64 y.r.v.k,.int .i64 y.r.v.n,.string (strB y.r.v.s),.string (strB y.r.x),.string (strB y.r.f),.slice b1 r1 d1] 42))
   have HBA1:=hid hba
   have HY:=hid hy
   obtain ⟨p,hp⟩ : ∃ p,((l.take j).map predTx).length=p:=⟨_,rfl⟩
   rw [hp] at HO ⊢
   obtain ⟨ty,hty⟩ : ∃ ty,strB (predTx y)=ty:=⟨_,rfl⟩
   have HTY:=hid hty
   rw [hty] at HTX
   have HAP : Hid (∀ w1,Below (wr.alloc (.cells #[.int .i64 y.cmp,.int .i64 y.l.k,.int .i64 y.l.v.k,.int .i64 y.l.v.n,.string (strB y.l.v.s),.string (strB y.l.x),.string (strB y.l.f),.slice a1 q1 c1,.int .i64 y.r.k,.int .i64 y.r.v.k,.int .i64 y.r.v.n,.string (strB y.r.v.s),.string (strB y.r.x),.string (strB y.r.f),.slice b1 r1 d1] 42)).heap.size (wr.alloc (.cells #[.int .i64 y.cmp,.int .i64 y.l.k,.int .i64 y.l.v.k,.int .i64 y.l.v.n,.string (strB y.l.v.s),.string (strB y.l.x),.string (strB y.l.f),.slice a1 q1 c1,.int .i64 y.r.k,.int .i64 y.r.v.k,.int .i64 y.r.v.n,.string (strB y.r.v.s),.string (strB y.r.x),.string (strB y.r.f),.slice b1 r1 d1] 42)) w1→∃ a9 l9 c9 w9,(Builtin.append_ #[33,33] 33 #[.slice va p vc,.slice (some ⟨w1.heap.size,0,none⟩) 1 1]).run Tryz.prog (w1.alloc (.cells #[.string ty] 9))=.ok (.slice a9 l9 c9) w9∧Hid (OwnP nameD w9 w.heap.size 9 (.slice a9 l9 c9) ((l.take (j+1)).map predTx))∧Hid (Below w.heap.size w w9)):=fun w1 hb1=>by
    have hb2 : Below wr.heap.size wr w1:=HBA1.out.trans (hb1.mono HBA1.out.size)
    have hb5:=(Below.refl w1.heap.size w1).alloc (Nat.le_refl _) (.cells #[.string ty] 9)
    have o5:=(HO.out.keep (TFr.of_below (K:=fun _=>False) hb2) (fun _ h=>h.elim)).keep (TFr.of_below (K:=fun _=>False) hb5) (fun _ h=>h.elim)
    have hsz:=HB.out.size
    obtain ⟨v9,w9,hr,ho,hg⟩:=OwnP.append (ts:=33) (ty:=33) (x:=predTx y) (by kernel_rfl) strI rfl (by decide) (by decide) o5 (by have:=hb2.size;have:=hb5.size;omega) (by rw [List.length_map,List.length_take];omega) (show nameD.P _ _ [.string ty] (predTx y) from by rw [← HTY.out];rfl) (heap_alloc_new w1 _)
    obtain ⟨a9,c9,rfl⟩:=ho.slice
    refine ⟨a9,_,c9,w9,hr,?_,?_⟩
    ·show OwnP _ _ _ _ _ _
     rw [List.take_add_one,HY.out]
     simpa using ho
    ·have hall : Below w.heap.size w (w1.alloc (.cells #[.string ty] 9)):=(HB.out.trans (hb2.mono hsz)).trans (hb5.mono (by have:=hb2.size;omega))
     exact hall.grown hg hall.size (fun k hk=>(o5.own k hk).1)
   clear hba hy hp hty htx hcell h1 h2 hq1 hr1 hyg
   go_wp2_with (first
    | (go_at_call 21;(with_reducible refine HTX.out.mono ?_);rintro e w1 ⟨rfl,hb1⟩;obtain ⟨a9,l9,c9,w9,hr9,O9,B9⟩:=HAP.out w1 hb1;clear hb1)
    | (at_builtin;refine Lib.wpList_append_run _ rfl _ _ _ _ rfl _ _ rfl rfl _ _ hr9 ?_;clear hr9))
   go_round
   case rel=>exact ⟨j+1,by go_num,by omega,O9,B9⟩
   case measure=>simp [RowKit.intOf];omega
  ·have hjq : j=l.length:=by rw [HQ.out];omega
   have hmap : (l.take j).map predTx=l.map predTx:=by rw [hjq,List.take_length]
   rw [hmap] at HO ⊢
   have hjn:=joinRow_calls HO.out.row (by simpa using HNE.out) sep (by
    have h1:=inter_len sep 200000 (l.map predTx) (fun b hb=>by
     obtain ⟨y,hy,rfl⟩:=List.mem_map.1 hb
     have hyg:=HG.out y hy
     exact predTx_len hyg)
    rw [List.length_map] at h1
    have : l.length*(200000+sep.length)≤8*(200000+100):=Nat.mul_le_mul (by rw [HQ.out];exact hl) (by omega)
    omega) (by rw [List.length_map,HQ.out];omega)
   rw [HRS.out] at hjn
   obtain ⟨p,hp⟩ : ∃ p,(l.map predTx).length=p:=⟨_,rfl⟩
   rw [hp] at hjn ⊢
   have HJ:=hid hjn
   clear hjn hp hmap hjq HO
   go_wp2_with (go_at_call 64;(with_reducible refine HJ.out.mono ?_);rintro e w1 ⟨rfl,hb1⟩;have HB1:=hid (HB.out.trans (hb1.mono HB.out.size));clear hb1)
   go_ret
   exact ⟨rfl,HB1.out⟩
end Go.Proofs.YtefcbgnckgapgaaGreatDoor
namespace Go.Proofs.YtefcbgnckgapgaaGreatDoor
open Go.RowKit Go.Lib Go.Op
section
variable {w : World} {a b : Option Addr} {q c r d : Nat} {wi pk : Int} {bb : List UInt8} {ti tp tf pt : ByteArray}
set_option maxHeartbeats 2000000 in
set_option maxRecDepth 100000 in
theorem pr_no (hR : ∀ W,Below w.heap.size w W→Calls Tryz.prog 9 #[.agg #[.slice a q c,.slice b r d,.int .i64 wi,.string (strB bb),.int .i64 pk]] W fun e w'=>e=.returned (.bool false)∧Below W.heap.size W w') : Calls Tryz.prog 8 #[.agg #[.slice a q c,.slice b r d,.int .i64 wi,.string (strB bb),.int .i64 pk]] w fun e w'=>e=.returned (.string (strB []))∧Below w.heap.size w w':=by
 have hb0:=(Below.refl w.heap.size w).alloc (Nat.le_refl _) (.cells #[.slice a q c,.slice b r d,.int .i64 wi,.string (strB bb),.int .i64 pk] 26)
 have HB0:=hid hb0
 have HR:=hid (hR _ hb0)
 clear hR hb0
 go_enter Tryz.func8,Tryz.ntmps8
 go_wp2_with (go_at_call 9;(with_reducible refine HR.out.mono ?_);rintro e w1 ⟨rfl,hb1⟩;have HB1:=hid (HB0.out.trans (hb1.mono HB0.out.size));clear hb1)
 go_ret
 exact ⟨rfl,HB1.out⟩
set_option maxHeartbeats 2000000 in
set_option maxRecDepth 100000 in
theorem pr_nn (hR : ∀ W,Below w.heap.size w W→Calls Tryz.prog 9 #[.agg #[.slice a q c,.slice b r d,.int .i64 wi,.string (strB bb),.int .i64 pk]] W fun e w'=>e=.returned (.bool true)∧Below W.heap.size W w') (hI : ∀ W,Below w.heap.size w W→Calls Tryz.prog 18 #[.slice a q c,.string ⟨#[32,116,104,101,110,32]⟩,.func (.func 19) #[] #[]] W fun e w'=>e=.returned (.string ti)∧Below W.heap.size W w') (hF : ∀ W,Below w.heap.size w W→Calls Tryz.prog 22 #[.int .i64 wi,.int .i64 10] W fun e w'=>e=.returned (.string tf)∧Below W.heap.size W w') (hr : ¬ 0 < r) (hbb : bb=[])
 (si : ti.size≤10000) (sf : tf.size≤100) (_ : (strB bb).size≤100) (st : pt.size≤10)
 (hix : ∀ W,(Instr.index 65 (textsV picksL) (.int .i64 pk)).run Tryz.prog W=.ok (.string pt) W) :
 Calls Tryz.prog 8 #[.agg #[.slice a q c,.slice b r d,.int .i64 wi,.string (strB bb),.int .i64 pk]] w fun e w'=>e=.returned (.string ((((⟨#[115,101,113,32]⟩++ti)++(⟨#[32,119,105,116,104,105,110,32]⟩++tf))++⟨#[32,112,105,99,107,32]⟩)++pt))∧Below w.heap.size w w':=by
 have hb0:=(Below.refl w.heap.size w).alloc (Nat.le_refl _) (.cells #[.slice a q c,.slice b r d,.int .i64 wi,.string (strB bb),.int .i64 pk] 26)
 have HB0:=hid hb0
 have HR:=hid (hR _ hb0)
 have HI:=hid hI
 have HF:=hid hF
 have HC:=hid (fun W=>picks_calls W)
 have t0 : decide (0 < r)=false:=decide_eq_false hr
 have t1 : ((strB bb).toList == [])=true:=by rw [tB_list,hbb];rfl
 have z0 : (⟨#[115,101,113,32]⟩ : ByteArray).size=4:=rfl
 have z1 : (⟨#[32,119,104,101,114,101,32]⟩ : ByteArray).size=7:=rfl
 have z2 : (⟨#[32,119,105,116,104,105,110,32]⟩ : ByteArray).size=8:=rfl
 have z3 : (⟨#[32,98,121,32]⟩ : ByteArray).size=4:=rfl
 have z4 : (⟨#[32,112,105,99,107,32]⟩ : ByteArray).size=6:=rfl
 clear hR hI hF hb0 hr hbb
 go_enter Tryz.func8,Tryz.ntmps8
 go_wp2_with (first
  | (go_at_call 9;(with_reducible refine HR.out.mono ?_);rintro e w1 ⟨rfl,hb1⟩;have m0:=tkeep hb1 (tnew w #[.slice a q c,.slice b r d,.int .i64 wi,.string (strB bb),.int .i64 pk] 26 0 rfl);have m1:=tkeep hb1 (tnew w #[.slice a q c,.slice b r d,.int .i64 wi,.string (strB bb),.int .i64 pk] 26 1 rfl);have m2:=tkeep hb1 (tnew w #[.slice a q c,.slice b r d,.int .i64 wi,.string (strB bb),.int .i64 pk] 26 2 rfl);have m3:=tkeep hb1 (tnew w #[.slice a q c,.slice b r d,.int .i64 wi,.string (strB bb),.int .i64 pk] 26 3 rfl);have m4:=tkeep hb1 (tnew w #[.slice a q c,.slice b r d,.int .i64 wi,.string (strB bb),.int .i64 pk] 26 4 rfl);have HB1:=hid (HB0.out.trans (hb1.mono HB0.out.size));clear hb1)
  | (go_at_call 18;(with_reducible refine (HI.out _ HB1.out).mono ?_);rintro e w2 ⟨rfl,hb2⟩;have n0:=tkeep hb2 m0;have n1:=tkeep hb2 m1;have n2:=tkeep hb2 m2;have n3:=tkeep hb2 m3;have n4:=tkeep hb2 m4;have HB2:=hid (HB1.out.trans (hb2.mono HB1.out.size));clear hb2)
  | (go_at_call 22;(with_reducible refine (HF.out _ HB2.out).mono ?_);rintro e w4 ⟨rfl,hb4⟩;have k0:=tkeep hb4 n0;have k1:=tkeep hb4 n1;have k2:=tkeep hb4 n2;have k3:=tkeep hb4 n3;have k4:=tkeep hb4 n4;have HB4:=hid (HB2.out.trans (hb4.mono HB2.out.size));clear hb4))
 have d3 : w4.drew.cell? ⟨w.heap.size,3,none⟩=some (.string (strB bb)):=k3
 have d4 : w4.drew.cell? ⟨w.heap.size,4,none⟩=some (.int .i64 pk):=k4
 refine wp_region_held_drew (S:=fun W=>W.cell? ⟨w.heap.size,3,none⟩=some (.string (strB bb))∧W.cell? ⟨w.heap.size,4,none⟩=some (.int .i64 pk)) (by kernel_rfl) ⟨d3,d4⟩ (fun hHeld=>?_)
 refine tK 0 35 (h:=?_)
 try simp only [Act.put,sI,sZ,sS]
 refine tK 1 36 (h:=?_)
 try simp only [Act.put,sI,sZ,sS]
 refine tK 3 38 (h:=?_)
 try simp only [Act.put,sI,sZ,sS]
 refine tK 4 39 (h:=?_)
 try simp only [Act.put,sI,sZ,sS]
 refine wpAnyH_ready (rs:=[2]) (by kernel_rfl) (by simp) ?_
 refine AllReadyH.cons (o:=_) rfl (fun K hK=>?_) AllReadyH.nil
 dsimp only [List.getElem_toArray,List.getElem_cons_succ,List.getElem_cons_zero]
 go_simp
 go_at_call 23
 (with_reducible refine (HC.out _).mono ?_)
 rintro e w5 ⟨rfl,hb5⟩
 have HB5:=hid ((vbelow_drew HB4.out).trans (hb5.mono (show _≤w4.drew.heap.size from HB4.out.size)))
 have f3:=tkeep hb5 d3
 have f4:=tkeep hb5 d4
 clear hb5
 go_wp2_with fail
 refine hK.out _ _ ⟨f3,f4⟩ (fun hHelda2=>?_)
 clear hK K
 try simp only [Act.put,sI,sZ,sS]
 refine tK 5 40 (h:=?_)
 try simp only [Act.put,sI,sZ,sS]
 refine tK 6 41 (h:=?_)
 try simp only [Act.put,sI,sZ,sS]
 refine tK 7 2 (h:=?_)
 try simp only [Act.put,sI,sZ,sS]
 refine wpAnyH_done (by kernel_rfl) ?_ _
 go_wp2
 go_ret
 exact ⟨rfl,HB5.out⟩
set_option maxHeartbeats 2000000 in
set_option maxRecDepth 100000 in
theorem pr_nb (hR : ∀ W,Below w.heap.size w W→Calls Tryz.prog 9 #[.agg #[.slice a q c,.slice b r d,.int .i64 wi,.string (strB bb),.int .i64 pk]] W fun e w'=>e=.returned (.bool true)∧Below W.heap.size W w') (hI : ∀ W,Below w.heap.size w W→Calls Tryz.prog 18 #[.slice a q c,.string ⟨#[32,116,104,101,110,32]⟩,.func (.func 19) #[] #[]] W fun e w'=>e=.returned (.string ti)∧Below W.heap.size W w') (hF : ∀ W,Below w.heap.size w W→Calls Tryz.prog 22 #[.int .i64 wi,.int .i64 10] W fun e w'=>e=.returned (.string tf)∧Below W.heap.size W w') (hr : ¬ 0 < r) (hbb : bb≠[])
 (si : ti.size≤10000) (sf : tf.size≤100) (_ : (strB bb).size≤100) (st : pt.size≤10)
 (hix : ∀ W,(Instr.index 65 (textsV picksL) (.int .i64 pk)).run Tryz.prog W=.ok (.string pt) W) :
 Calls Tryz.prog 8 #[.agg #[.slice a q c,.slice b r d,.int .i64 wi,.string (strB bb),.int .i64 pk]] w fun e w'=>e=.returned (.string (((((⟨#[115,101,113,32]⟩++ti)++(⟨#[32,119,105,116,104,105,110,32]⟩++tf))++(⟨#[32,98,121,32]⟩++strB bb))++⟨#[32,112,105,99,107,32]⟩)++pt))∧Below w.heap.size w w':=by
 have hb0:=(Below.refl w.heap.size w).alloc (Nat.le_refl _) (.cells #[.slice a q c,.slice b r d,.int .i64 wi,.string (strB bb),.int .i64 pk] 26)
 have HB0:=hid hb0
 have HR:=hid (hR _ hb0)
 have HI:=hid hI
 have HF:=hid hF
 have HC:=hid (fun W=>picks_calls W)
 have t0 : decide (0 < r)=false:=decide_eq_false hr
 have t1 : ((strB bb).toList == [])=false:=by rw [tB_list,beq_eq_false_iff_ne];exact hbb
 have z0 : (⟨#[115,101,113,32]⟩ : ByteArray).size=4:=rfl
 have z1 : (⟨#[32,119,104,101,114,101,32]⟩ : ByteArray).size=7:=rfl
 have z2 : (⟨#[32,119,105,116,104,105,110,32]⟩ : ByteArray).size=8:=rfl
 have z3 : (⟨#[32,98,121,32]⟩ : ByteArray).size=4:=rfl
 have z4 : (⟨#[32,112,105,99,107,32]⟩ : ByteArray).size=6:=rfl
 clear hR hI hF hb0 hr hbb
 go_enter Tryz.func8,Tryz.ntmps8
 go_wp2_with (first
  | (go_at_call 9;(with_reducible refine HR.out.mono ?_);rintro e w1 ⟨rfl,hb1⟩;have m0:=tkeep hb1 (tnew w #[.slice a q c,.slice b r d,.int .i64 wi,.string (strB bb),.int .i64 pk] 26 0 rfl);have m1:=tkeep hb1 (tnew w #[.slice a q c,.slice b r d,.int .i64 wi,.string (strB bb),.int .i64 pk] 26 1 rfl);have m2:=tkeep hb1 (tnew w #[.slice a q c,.slice b r d,.int .i64 wi,.string (strB bb),.int .i64 pk] 26 2 rfl);have m3:=tkeep hb1 (tnew w #[.slice a q c,.slice b r d,.int .i64 wi,.string (strB bb),.int .i64 pk] 26 3 rfl);have m4:=tkeep hb1 (tnew w #[.slice a q c,.slice b r d,.int .i64 wi,.string (strB bb),.int .i64 pk] 26 4 rfl);have HB1:=hid (HB0.out.trans (hb1.mono HB0.out.size));clear hb1)
  | (go_at_call 18;(with_reducible refine (HI.out _ HB1.out).mono ?_);rintro e w2 ⟨rfl,hb2⟩;have n0:=tkeep hb2 m0;have n1:=tkeep hb2 m1;have n2:=tkeep hb2 m2;have n3:=tkeep hb2 m3;have n4:=tkeep hb2 m4;have HB2:=hid (HB1.out.trans (hb2.mono HB1.out.size));clear hb2)
  | (go_at_call 22;(with_reducible refine (HF.out _ HB2.out).mono ?_);rintro e w4 ⟨rfl,hb4⟩;have k0:=tkeep hb4 n0;have k1:=tkeep hb4 n1;have k2:=tkeep hb4 n2;have k3:=tkeep hb4 n3;have k4:=tkeep hb4 n4;have HB4:=hid (HB2.out.trans (hb4.mono HB2.out.size));clear hb4))
 have d3 : w4.drew.cell? ⟨w.heap.size,3,none⟩=some (.string (strB bb)):=k3
 have d4 : w4.drew.cell? ⟨w.heap.size,4,none⟩=some (.int .i64 pk):=k4
 refine wp_region_held_drew (S:=fun W=>W.cell? ⟨w.heap.size,3,none⟩=some (.string (strB bb))∧W.cell? ⟨w.heap.size,4,none⟩=some (.int .i64 pk)) (by kernel_rfl) ⟨d3,d4⟩ (fun hHeld=>?_)
 refine tK 0 35 (h:=?_)
 try simp only [Act.put,sI,sZ,sS]
 refine tK 1 36 (h:=?_)
 try simp only [Act.put,sI,sZ,sS]
 refine tK 3 38 (h:=?_)
 try simp only [Act.put,sI,sZ,sS]
 refine tK 4 39 (h:=?_)
 try simp only [Act.put,sI,sZ,sS]
 refine wpAnyH_ready (rs:=[2]) (by kernel_rfl) (by simp) ?_
 refine AllReadyH.cons (o:=_) rfl (fun K hK=>?_) AllReadyH.nil
 dsimp only [List.getElem_toArray,List.getElem_cons_succ,List.getElem_cons_zero]
 go_simp
 go_at_call 23
 (with_reducible refine (HC.out _).mono ?_)
 rintro e w5 ⟨rfl,hb5⟩
 have HB5:=hid ((vbelow_drew HB4.out).trans (hb5.mono (show _≤w4.drew.heap.size from HB4.out.size)))
 have f3:=tkeep hb5 d3
 have f4:=tkeep hb5 d4
 clear hb5
 go_wp2_with fail
 refine hK.out _ _ ⟨f3,f4⟩ (fun hHelda2=>?_)
 clear hK K
 try simp only [Act.put,sI,sZ,sS]
 refine tK 5 40 (h:=?_)
 try simp only [Act.put,sI,sZ,sS]
 refine tK 6 41 (h:=?_)
 try simp only [Act.put,sI,sZ,sS]
 refine tK 7 2 (h:=?_)
 try simp only [Act.put,sI,sZ,sS]
 refine wpAnyH_done (by kernel_rfl) ?_ _
 go_wp2
 go_ret
 exact ⟨rfl,HB5.out⟩
set_option maxHeartbeats 2000000 in
set_option maxRecDepth 100000 in
theorem pr_pn (hR : ∀ W,Below w.heap.size w W→Calls Tryz.prog 9 #[.agg #[.slice a q c,.slice b r d,.int .i64 wi,.string (strB bb),.int .i64 pk]] W fun e w'=>e=.returned (.bool true)∧Below W.heap.size W w') (hI : ∀ W,Below w.heap.size w W→Calls Tryz.prog 18 #[.slice a q c,.string ⟨#[32,116,104,101,110,32]⟩,.func (.func 19) #[] #[]] W fun e w'=>e=.returned (.string ti)∧Below W.heap.size W w') (hP : ∀ W,Below w.heap.size w W→Calls Tryz.prog 20 #[.slice b r d,.string ⟨#[32,97,110,100,32]⟩,.func (.func 21) #[] #[]] W fun e w'=>e=.returned (.string tp)∧Below W.heap.size W w') (hF : ∀ W,Below w.heap.size w W→Calls Tryz.prog 22 #[.int .i64 wi,.int .i64 10] W fun e w'=>e=.returned (.string tf)∧Below W.heap.size W w') (hr : 0 < r) (hbb : bb=[])
 (si : ti.size≤10000) (sp : tp.size≤2000000) (sf : tf.size≤100) (_ : (strB bb).size≤100) (st : pt.size≤10)
 (hix : ∀ W,(Instr.index 65 (textsV picksL) (.int .i64 pk)).run Tryz.prog W=.ok (.string pt) W) :
 Calls Tryz.prog 8 #[.agg #[.slice a q c,.slice b r d,.int .i64 wi,.string (strB bb),.int .i64 pk]] w fun e w'=>e=.returned (.string (((((⟨#[115,101,113,32]⟩++ti)++(⟨#[32,119,104,101,114,101,32]⟩++tp))++(⟨#[32,119,105,116,104,105,110,32]⟩++tf))++⟨#[32,112,105,99,107,32]⟩)++pt))∧Below w.heap.size w w':=by
 have hb0:=(Below.refl w.heap.size w).alloc (Nat.le_refl _) (.cells #[.slice a q c,.slice b r d,.int .i64 wi,.string (strB bb),.int .i64 pk] 26)
 have HB0:=hid hb0
 have HR:=hid (hR _ hb0)
 have HI:=hid hI
 have HP:=hid hP
 have HF:=hid hF
 have HC:=hid (fun W=>picks_calls W)
 have t0 : decide (0 < r)=true:=decide_eq_true hr
 have t1 : ((strB bb).toList == [])=true:=by rw [tB_list,hbb];rfl
 have z0 : (⟨#[115,101,113,32]⟩ : ByteArray).size=4:=rfl
 have z1 : (⟨#[32,119,104,101,114,101,32]⟩ : ByteArray).size=7:=rfl
 have z2 : (⟨#[32,119,105,116,104,105,110,32]⟩ : ByteArray).size=8:=rfl
 have z3 : (⟨#[32,98,121,32]⟩ : ByteArray).size=4:=rfl
 have z4 : (⟨#[32,112,105,99,107,32]⟩ : ByteArray).size=6:=rfl
 clear hR hI hP hF hb0 hr hbb
 go_enter Tryz.func8,Tryz.ntmps8
 go_wp2_with (first
  | (go_at_call 9;(with_reducible refine HR.out.mono ?_);rintro e w1 ⟨rfl,hb1⟩;have m0:=tkeep hb1 (tnew w #[.slice a q c,.slice b r d,.int .i64 wi,.string (strB bb),.int .i64 pk] 26 0 rfl);have m1:=tkeep hb1 (tnew w #[.slice a q c,.slice b r d,.int .i64 wi,.string (strB bb),.int .i64 pk] 26 1 rfl);have m2:=tkeep hb1 (tnew w #[.slice a q c,.slice b r d,.int .i64 wi,.string (strB bb),.int .i64 pk] 26 2 rfl);have m3:=tkeep hb1 (tnew w #[.slice a q c,.slice b r d,.int .i64 wi,.string (strB bb),.int .i64 pk] 26 3 rfl);have m4:=tkeep hb1 (tnew w #[.slice a q c,.slice b r d,.int .i64 wi,.string (strB bb),.int .i64 pk] 26 4 rfl);have HB1:=hid (HB0.out.trans (hb1.mono HB0.out.size));clear hb1)
  | (go_at_call 18;(with_reducible refine (HI.out _ HB1.out).mono ?_);rintro e w2 ⟨rfl,hb2⟩;have n0:=tkeep hb2 m0;have n1:=tkeep hb2 m1;have n2:=tkeep hb2 m2;have n3:=tkeep hb2 m3;have n4:=tkeep hb2 m4;have HB2:=hid (HB1.out.trans (hb2.mono HB1.out.size));clear hb2)
  | (go_at_call 20;(with_reducible refine (HP.out _ HB2.out).mono ?_);rintro e w3 ⟨rfl,hb3⟩;have p0:=tkeep hb3 n0;have p1:=tkeep hb3 n1;have p2:=tkeep hb3 n2;have p3:=tkeep hb3 n3;have p4:=tkeep hb3 n4;have HB3:=hid (HB2.out.trans (hb3.mono HB2.out.size));clear hb3)
  | (go_at_call 22;(with_reducible refine (HF.out _ HB3.out).mono ?_);rintro e w4 ⟨rfl,hb4⟩;have k0:=tkeep hb4 p0;have k1:=tkeep hb4 p1;have k2:=tkeep hb4 p2;have k3:=tkeep hb4 p3;have k4:=tkeep hb4 p4;have HB4:=hid (HB3.out.trans (hb4.mono HB3.out.size));clear hb4))
 have d3 : w4.drew.cell? ⟨w.heap.size,3,none⟩=some (.string (strB bb)):=k3
 have d4 : w4.drew.cell? ⟨w.heap.size,4,none⟩=some (.int .i64 pk):=k4
 refine wp_region_held_drew (S:=fun W=>W.cell? ⟨w.heap.size,3,none⟩=some (.string (strB bb))∧W.cell? ⟨w.heap.size,4,none⟩=some (.int .i64 pk)) (by kernel_rfl) ⟨d3,d4⟩ (fun hHeld=>?_)
 refine tK 0 35 (h:=?_)
 try simp only [Act.put,sI,sZ,sS]
 refine tK 1 36 (h:=?_)
 try simp only [Act.put,sI,sZ,sS]
 refine tK 3 38 (h:=?_)
 try simp only [Act.put,sI,sZ,sS]
 refine tK 4 39 (h:=?_)
 try simp only [Act.put,sI,sZ,sS]
 refine wpAnyH_ready (rs:=[2]) (by kernel_rfl) (by simp) ?_
 refine AllReadyH.cons (o:=_) rfl (fun K hK=>?_) AllReadyH.nil
 dsimp only [List.getElem_toArray,List.getElem_cons_succ,List.getElem_cons_zero]
 go_simp
 go_at_call 23
 (with_reducible refine (HC.out _).mono ?_)
 rintro e w5 ⟨rfl,hb5⟩
 have HB5:=hid ((vbelow_drew HB4.out).trans (hb5.mono (show _≤w4.drew.heap.size from HB4.out.size)))
 have f3:=tkeep hb5 d3
 have f4:=tkeep hb5 d4
 clear hb5
 go_wp2_with fail
 refine hK.out _ _ ⟨f3,f4⟩ (fun hHelda2=>?_)
 clear hK K
 try simp only [Act.put,sI,sZ,sS]
 refine tK 5 40 (h:=?_)
 try simp only [Act.put,sI,sZ,sS]
 refine tK 6 41 (h:=?_)
 try simp only [Act.put,sI,sZ,sS]
 refine tK 7 2 (h:=?_)
 try simp only [Act.put,sI,sZ,sS]
 refine wpAnyH_done (by kernel_rfl) ?_ _
 go_wp2
 go_ret
 exact ⟨rfl,HB5.out⟩
set_option maxHeartbeats 2000000 in
set_option maxRecDepth 100000 in
theorem pr_pb (hR : ∀ W,Below w.heap.size w W→Calls Tryz.prog 9 #[.agg #[.slice a q c,.slice b r d,.int .i64 wi,.string (strB bb),.int .i64 pk]] W fun e w'=>e=.returned (.bool true)∧Below W.heap.size W w') (hI : ∀ W,Below w.heap.size w W→Calls Tryz.prog 18 #[.slice a q c,.string ⟨#[32,116,104,101,110,32]⟩,.func (.func 19) #[] #[]] W fun e w'=>e=.returned (.string ti)∧Below W.heap.size W w') (hP : ∀ W,Below w.heap.size w W→Calls Tryz.prog 20 #[.slice b r d,.string ⟨#[32,97,110,100,32]⟩,.func (.func 21) #[] #[]] W fun e w'=>e=.returned (.string tp)∧Below W.heap.size W w') (hF : ∀ W,Below w.heap.size w W→Calls Tryz.prog 22 #[.int .i64 wi,.int .i64 10] W fun e w'=>e=.returned (.string tf)∧Below W.heap.size W w') (hr : 0 < r) (hbb : bb≠[])
 (si : ti.size≤10000) (sp : tp.size≤2000000) (sf : tf.size≤100) (_ : (strB bb).size≤100) (st : pt.size≤10)
 (hix : ∀ W,(Instr.index 65 (textsV picksL) (.int .i64 pk)).run Tryz.prog W=.ok (.string pt) W) :
 Calls Tryz.prog 8 #[.agg #[.slice a q c,.slice b r d,.int .i64 wi,.string (strB bb),.int .i64 pk]] w fun e w'=>e=.returned (.string ((((((⟨#[115,101,113,32]⟩++ti)++(⟨#[32,119,104,101,114,101,32]⟩++tp))++(⟨#[32,119,105,116,104,105,110,32]⟩++tf))++(⟨#[32,98,121,32]⟩++strB bb))++⟨#[32,112,105,99,107,32]⟩)++pt))∧Below w.heap.size w w':=by
 have hb0:=(Below.refl w.heap.size w).alloc (Nat.le_refl _) (.cells #[.slice a q c,.slice b r d,.int .i64 wi,.string (strB bb),.int .i64 pk] 26)
 have HB0:=hid hb0
 have HR:=hid (hR _ hb0)
 have HI:=hid hI
 have HP:=hid hP
 have HF:=hid hF
 have HC:=hid (fun W=>picks_calls W)
 have t0 : decide (0 < r)=true:=decide_eq_true hr
 have t1 : ((strB bb).toList == [])=false:=by rw [tB_list,beq_eq_false_iff_ne];exact hbb
 have z0 : (⟨#[115,101,113,32]⟩ : ByteArray).size=4:=rfl
 have z1 : (⟨#[32,119,104,101,114,101,32]⟩ : ByteArray).size=7:=rfl
 have z2 : (⟨#[32,119,105,116,104,105,110,32]⟩ : ByteArray).size=8:=rfl
 have z3 : (⟨#[32,98,121,32]⟩ : ByteArray).size=4:=rfl
 have z4 : (⟨#[32,112,105,99,107,32]⟩ : ByteArray).size=6:=rfl
 clear hR hI hP hF hb0 hr hbb
 go_enter Tryz.func8,Tryz.ntmps8
 go_wp2_with (first
  | (go_at_call 9;(with_reducible refine HR.out.mono ?_);rintro e w1 ⟨rfl,hb1⟩;have m0:=tkeep hb1 (tnew w #[.slice a q c,.slice b r d,.int .i64 wi,.string (strB bb),.int .i64 pk] 26 0 rfl);have m1:=tkeep hb1 (tnew w #[.slice a q c,.slice b r d,.int .i64 wi,.string (strB bb),.int .i64 pk] 26 1 rfl);have m2:=tkeep hb1 (tnew w #[.slice a q c,.slice b r d,.int .i64 wi,.string (strB bb),.int .i64 pk] 26 2 rfl);have m3:=tkeep hb1 (tnew w #[.slice a q c,.slice b r d,.int .i64 wi,.string (strB bb),.int .i64 pk] 26 3 rfl);have m4:=tkeep hb1 (tnew w #[.slice a q c,.slice b r d,.int .i64 wi,.string (strB bb),.int .i64 pk] 26 4 rfl);have HB1:=hid (HB0.out.trans (hb1.mono HB0.out.size));clear hb1)
  | (go_at_call 18;(with_reducible refine (HI.out _ HB1.out).mono ?_);rintro e w2 ⟨rfl,hb2⟩;have n0:=tkeep hb2 m0;have n1:=tkeep hb2 m1;have n2:=tkeep hb2 m2;have n3:=tkeep hb2 m3;have n4:=tkeep hb2 m4;have HB2:=hid (HB1.out.trans (hb2.mono HB1.out.size));clear hb2)
  | (go_at_call 20;(with_reducible refine (HP.out _ HB2.out).mono ?_);rintro e w3 ⟨rfl,hb3⟩;have p0:=tkeep hb3 n0;have p1:=tkeep hb3 n1;have p2:=tkeep hb3 n2;have p3:=tkeep hb3 n3;have p4:=tkeep hb3 n4;have HB3:=hid (HB2.out.trans (hb3.mono HB2.out.size));clear hb3)
  | (go_at_call 22;(with_reducible refine (HF.out _ HB3.out).mono ?_);rintro e w4 ⟨rfl,hb4⟩;have k0:=tkeep hb4 p0;have k1:=tkeep hb4 p1;have k2:=tkeep hb4 p2;have k3:=tkeep hb4 p3;have k4:=tkeep hb4 p4;have HB4:=hid (HB3.out.trans (hb4.mono HB3.out.size));clear hb4))
 have d3 : w4.drew.cell? ⟨w.heap.size,3,none⟩=some (.string (strB bb)):=k3
 have d4 : w4.drew.cell? ⟨w.heap.size,4,none⟩=some (.int .i64 pk):=k4
 refine wp_region_held_drew (S:=fun W=>W.cell? ⟨w.heap.size,3,none⟩=some (.string (strB bb))∧W.cell? ⟨w.heap.size,4,none⟩=some (.int .i64 pk)) (by kernel_rfl) ⟨d3,d4⟩ (fun hHeld=>?_)
 refine tK 0 35 (h:=?_)
 try simp only [Act.put,sI,sZ,sS]
 refine tK 1 36 (h:=?_)
 try simp only [Act.put,sI,sZ,sS]
 refine tK 3 38 (h:=?_)
 try simp only [Act.put,sI,sZ,sS]
 refine tK 4 39 (h:=?_)
 try simp only [Act.put,sI,sZ,sS]
 refine wpAnyH_ready (rs:=[2]) (by kernel_rfl) (by simp) ?_
 refine AllReadyH.cons (o:=_) rfl (fun K hK=>?_) AllReadyH.nil
 dsimp only [List.getElem_toArray,List.getElem_cons_succ,List.getElem_cons_zero]
 go_simp
 go_at_call 23
 (with_reducible refine (HC.out _).mono ?_)
 rintro e w5 ⟨rfl,hb5⟩
 have HB5:=hid ((vbelow_drew HB4.out).trans (hb5.mono (show _≤w4.drew.heap.size from HB4.out.size)))
 have f3:=tkeep hb5 d3
 have f4:=tkeep hb5 d4
 clear hb5
 go_wp2_with fail
 refine hK.out _ _ ⟨f3,f4⟩ (fun hHelda2=>?_)
 clear hK K
 try simp only [Act.put,sI,sZ,sS]
 refine tK 5 40 (h:=?_)
 try simp only [Act.put,sI,sZ,sS]
 refine tK 6 41 (h:=?_)
 try simp only [Act.put,sI,sZ,sS]
 refine tK 7 2 (h:=?_)
 try simp only [Act.put,sI,sZ,sS]
 refine wpAnyH_done (by kernel_rfl) ?_ _
 go_wp2
 go_ret
 exact ⟨rfl,HB5.out⟩
end
theorem rightQ_parts {p : PQu} (h : rightQ p=true) : rightIs p.its=true∧p.prs.length≤8∧(∀ y∈p.prs,rightP y=true)∧(0≤p.within∧p.within≤1099511627776)∧(p.by_=[]∨nameB p.by_=true)∧1≤p.pick∧p.pick≤3:=by
 unfold rightQ at h
 simp only [Bool.and_eq_true,Bool.or_eq_true,decide_eq_true_eq,List.all_eq_true] at h
 exact ⟨h.1,h.2.1,h.2.2.1,h.2.2.2.1,h.2.2.2.2.1,h.2.2.2.2.2⟩
theorem rightIs_parts {l : List PIt} (h : rightIs l=true) : l≠[]∧l.length≤6∧(∀ y∈l,rightI y=true∧y.x.length≤100):=by
 unfold rightIs at h
 cases l with
 | nil=>cases h
 | cons i r =>
   simp only [Bool.and_eq_true,Bool.not_eq_true',Bool.or_eq_false_iff,decide_eq_false_iff_not] at h
   refine ⟨by simp,by have:=h.1.1;omega,fun y hy=>⟨List.all_eq_true.1 h.2.1 y hy,?_⟩⟩
   have:=unlikeB_names h.2.2 y.x (List.mem_map_of_mem hy)
   omega
theorem print_calls {K : Nat→Prop} {w : World} {a b : Option Addr} {q c r d : Nat} {p : PQu} (h : QuAt K w a q c b r d p) (hb : QuB p) (hv : PVars w) :
 Calls Tryz.prog 8 #[.agg #[.slice a q c,.slice b r d,.int .i64 p.within,.string (strB p.by_),.int .i64 p.pick]] w fun e w'=>e=.returned (.string (strB (printQ p)))∧Below w.heap.size w w':=by
 have hR:=fun W (hW : Below w.heap.size w W)=>right_calls (p:=p) (K:=K) (w:=W) (a:=a) (b:=b) (q:=q) (c:=c) (r:=r) (d:=d) ⟨h.1.low hW,h.2.low hW⟩ hb
 unfold printQ
 cases hr : rightQ p with
 | false =>
   rw [hr] at hR
   rw [if_neg (by simp)]
   exact pr_no hR
 | true =>
   rw [hr] at hR
   rw [if_pos rfl]
   obtain ⟨hIs,h8,hPs,hw,hby,hpk⟩:=rightQ_parts hr
   obtain ⟨hne,h6,hg⟩:=rightIs_parts hIs
   obtain ⟨h1,h2⟩:=h
   obtain rfl:=h1.len
   obtain rfl:=h2.len
   have hI:=fun W (hW : Below w.heap.size w W)=>joinedI_calls (h1.low hW) hne h6 hg (hv.below hW) [32,116,104,101,110,32] (by decide)
   have hF:=fun W (hW : Below w.heap.size w W)=>(Tryz.strconv_FormatInt_10 p.within (by omega) (by omega) W (hv.below hW).tab).mono (fun e w' ⟨he,hg⟩=>(⟨he,tgrow_below hg⟩ : e=Ending.returned (.string ⟨(itoa p.within).toArray⟩)∧Below W.heap.size W w'))
   have li : ([32,116,104,101,110,32].intercalate (p.its.map itemTx)).length≤10000:=by
    have h3:=inter_len [32,116,104,101,110,32] 1200 (p.its.map itemTx) (fun x hx=>by
     obtain ⟨y,hy,rfl⟩:=List.mem_map.1 hx
     exact itemTx_len (hg y hy).1 (hg y hy).2)
    rw [List.length_map] at h3
    have h4 : p.its.length*(1200+[32,116,104,101,110,(32 : UInt8)].length)≤6*(1200+6):=Nat.mul_le_mul h6 (Nat.le_refl _)
    omega
   have lf : (strB (itoa p.within)).size≤100:=by
    rw [strB_size]
    exact Nat.le_trans (itoa_short p.within (by omega)) (by decide)
   have lb : (strB p.by_).size≤100:=by
    rw [strB_size]
    rcases hby with e|e
    ·rw [e];decide
    ·have:=nameB_len e
     omega
   have lt : (strB (atL picksL p.pick)).size≤10:=by rw [strB_size];exact atL_short (by decide) p.pick
   have hix:=picks_index p.pick hpk
   by_cases hp : p.prs=[]
   ·have hp0 : ¬ 0 < p.prs.length:=by rw [hp];simp
    rw [if_pos hp]
    by_cases hbb : p.by_=[]
    ·rw [if_pos hbb]
     refine (pr_nn hR hI hF hp0 hbb (by rw [strB_size];exact li) lf lb lt hix).mono ?_
     rintro e w' ⟨rfl,hb'⟩
     refine ⟨?_,hb'⟩
     congr 2
     show ((strB _++strB _)++(strB _++strB (itoa p.within)))++strB _++strB _=_
     simp only [catT]
     congr 1
     simp
    ·rw [if_neg hbb]
     refine (pr_nb hR hI hF hp0 hbb (by rw [strB_size];exact li) lf lb lt hix).mono ?_
     rintro e w' ⟨rfl,hb'⟩
     refine ⟨?_,hb'⟩
     congr 2
     show (((strB _++strB _)++(strB _++strB (itoa p.within)))++(strB _++strB _))++strB _++strB _=_
     simp only [catT]
     congr 1
     simp
   ·have hp0 : 0 < p.prs.length:=List.length_pos_iff.2 hp
    have hP:=fun W (hW : Below w.heap.size w W)=>joinedP_calls (h2.low hW) hp h8 hPs (hv.below hW) [32,97,110,100,32] (by decide)
    have lp : ([32,97,110,100,32].intercalate (p.prs.map predTx)).length≤2000000:=by
     have h3:=inter_len [32,97,110,100,32] 200000 (p.prs.map predTx) (fun x hx=>by
      obtain ⟨y,hy,rfl⟩:=List.mem_map.1 hx
      exact predTx_len (hPs y hy))
     rw [List.length_map] at h3
     have h4 : p.prs.length*(200000+[32,97,110,100,(32 : UInt8)].length)≤8*(200000+5):=Nat.mul_le_mul h8 (Nat.le_refl _)
     omega
    rw [if_neg hp]
    by_cases hbb : p.by_=[]
    ·rw [if_pos hbb]
     refine (pr_pn hR hI hP hF hp0 hbb (by rw [strB_size];exact li) (by rw [strB_size];exact lp) lf lb lt hix).mono ?_
     rintro e w' ⟨rfl,hb'⟩
     refine ⟨?_,hb'⟩
     congr 2
     show (((strB _++strB _)++(strB _++strB _))++(strB _++strB (itoa p.within)))++strB _++strB _=_
     simp only [catT]
     congr 1
     simp
    ·rw [if_neg hbb]
     refine (pr_pb hR hI hP hF hp0 hbb (by rw [strB_size];exact li) (by rw [strB_size];exact lp) lf lb lt hix).mono ?_
     rintro e w' ⟨rfl,hb'⟩
     refine ⟨?_,hb'⟩
     congr 2
     show ((((strB _++strB _)++(strB _++strB _))++(strB _++strB (itoa p.within)))++(strB _++strB _))++strB _++strB _=_
     simp only [catT]
     congr 1
     simp
end Go.Proofs.YtefcbgnckgapgaaGreatDoor
namespace Go.Proofs.YtefcbgnckgapgaaGreatDoor
open Go.Lib
section
variable {E n : Nat}
end
end Go.Proofs.YtefcbgnckgapgaaGreatDoor
namespace Go.Proofs.YtefcbgnckgapgaaGreatDoor
open Go.Lib
end Go.Proofs.YtefcbgnckgapgaaGreatDoor
namespace Go.Proofs.YtefcbgnckgapgaaGreatDoor
open Go.RowKit Go.Lib Go.Op
section
variable {w : World} {a : Option Addr} {c n : Nat} {v : PVal} {x f : List UInt8}
set_option maxHeartbeats 1000000 in
set_option maxRecDepth 100000 in
theorem under_yes {k : Int} (hk : k=7∨k=8) : Calls Tryz.prog 27 #[.agg #[.int .i64 k,.int .i64 v.k,.int .i64 v.n,.string (strB v.s),.string (strB x),.string (strB f),.slice a n c]] w fun e w'=>e=.returned (.slice a n c)∧Below w.heap.size w w':=by
 have hb0:=(Below.refl w.heap.size w).alloc (Nat.le_refl _) (.cells #[.int .i64 k,.int .i64 v.k,.int .i64 v.n,.string (strB v.s),.string (strB x),.string (strB f),.slice a n c] 40)
 have HB0:=hid hb0
 have hd:=double_calls k
 rw [decide_eq_true hk] at hd
 have HD:=hid hd
 clear hb0 hk hd
 go_enter Tryz.func27,Tryz.ntmps27
 go_wp2_with (go_at_call 76;(with_reducible refine (HD.out _).mono ?_);rintro e w1 ⟨rfl,rfl⟩)
 go_ret
 exact ⟨rfl,HB0.out⟩
set_option maxHeartbeats 1000000 in
set_option maxRecDepth 100000 in
theorem under_no {k : Int} (hk : ¬ (k=7∨k=8)) : Calls Tryz.prog 27 #[.agg #[.int .i64 k,.int .i64 v.k,.int .i64 v.n,.string (strB v.s),.string (strB x),.string (strB f),.slice a n c]] w fun e w'=>e=.returned (.slice none 0 0)∧Below w.heap.size w w':=by
 have hb0:=(Below.refl w.heap.size w).alloc (Nat.le_refl _) (.cells #[.int .i64 k,.int .i64 v.k,.int .i64 v.n,.string (strB v.s),.string (strB x),.string (strB f),.slice a n c] 40)
 have HB0:=hid hb0
 have hd:=double_calls k
 rw [decide_eq_false hk] at hd
 have HD:=hid hd
 clear hb0 hk hd
 go_enter Tryz.func27,Tryz.ntmps27
 go_wp2_with (go_at_call 76;(with_reducible refine (HD.out _).mono ?_);rintro e w1 ⟨rfl,rfl⟩)
 go_ret
 exact ⟨rfl,HB0.out⟩
end
section
variable {w : World} {g o n c : Nat} {a : Option Addr}
set_option maxHeartbeats 1000000 in
set_option maxRecDepth 100000 in
theorem place_nil : Calls Tryz.prog 28 #[.slice a 0 c] w fun e w'=>e=.returned (.agg #[.pointer none,.int .i64 0])∧Below w.heap.size w w':=by
 have hb0:=(Below.refl w.heap.size w).alloc (Nat.le_refl _) (.cells #[.pointer none,.int .i64 0] 71)
 have HB0:=hid hb0
 clear hb0
 go_enter Tryz.func28,Tryz.ntmps28
 go_wp2
 refine bodyPost_ret (v:=.agg #[.pointer none,.int .i64 0]) (by simp [results,Tryz.results28,go_sem]) rfl ⟨rfl,HB0.out⟩
set_option maxHeartbeats 1000000 in
set_option maxRecDepth 100000 in
theorem place_some (hn : 0 < n) : Calls Tryz.prog 28 #[.slice (some ⟨g,o,none⟩) n c] w fun e w'=>e=.returned (.agg #[.pointer (some ⟨g,o,none⟩),.int .i64 n])∧Below w.heap.size w w':=by
 have hb0:=(Below.refl w.heap.size w).alloc (Nat.le_refl _) (.cells #[.pointer (some ⟨g,o,none⟩),.int .i64 n] 71)
 have HB0:=hid hb0
 have t0 : ((n : Int) == 0)=false:=by rw [beq_eq_false_iff_ne];omega
 clear hb0
 go_enter Tryz.func28,Tryz.ntmps28
 go_wp2
 refine bodyPost_ret (v:=.agg #[.pointer (some ⟨g,o,none⟩),.int .i64 n]) (by simp [results,Tryz.results28,go_sem]) rfl ⟨rfl,HB0.out⟩
end
end Go.Proofs.YtefcbgnckgapgaaGreatDoor
namespace Go.Proofs.YtefcbgnckgapgaaGreatDoor
open Go.RowKit Go.Lib Go.Op
def keyV (k : Option Addr × Nat) : Value:=.agg #[.pointer k.1,.int .i64 k.2]
def KBlk (w : World) (k : Option Addr × Nat) : Prop:=∀ a,k.1=some a→∃ cs t,w.heap[a.block]?=some (.cells cs t (0,0))
theorem ptr_eqd (d : Nat) {a b : Option Addr} {W : World} (ha : ∀ x,a=some x→∃ cs t,W.heap[x.block]?=some (.cells cs t (0,0))) (hb : ∀ x,b=some x→∃ cs t,W.heap[x.block]?=some (.cells cs t (0,0))) :
 (Op.equalIn (d+1) 69 (.pointer a) (.pointer b)).run Tryz.prog W=.ok (decide (a=b)) W:=by
 have hu : Tryz.prog.underlying 69=some (.pointer 40):=by kernel_rfl
 cases a with
 | none=>cases b <;> simp [Op.equalIn,run_underlying hu]
 | some x =>
   cases b with
   | none=>simp [Op.equalIn,run_underlying hu]
   | some y =>
     have hs : (sizeOf 40).run Tryz.prog W=.ok 7 W:=by kernel_rfl
     simp only [Op.equalIn,Sem.run_bind,run_underlying hu,Result.andThen_ok,hs]
     rw [if_pos (by decide)]
     by_cases he : x=y
     ·subst he
      rw [run_sameAddr_same]
      simp
     ·obtain ⟨cs,t,h1⟩:=ha x rfl
      obtain ⟨cs',t',h2⟩:=hb y rfl
      rw [run_sameAddr_other W he h1 h2]
      simp [he]
theorem ptr_eq {a b : Option Addr} {W : World} (ha : ∀ x,a=some x→∃ cs t,W.heap[x.block]?=some (.cells cs t (0,0))) (hb : ∀ x,b=some x→∃ cs t,W.heap[x.block]?=some (.cells cs t (0,0))) :
 (Op.equalIn 9999 69 (.pointer a) (.pointer b)).run Tryz.prog W=.ok (decide (a=b)) W:=ptr_eqd 9998 ha hb
theorem kids_eq {k l : Option Addr × Nat} {W : World} (hk : KBlk W k) (hl : KBlk W l) : (Op.equal 71 (keyV k) (keyV l)).run Tryz.prog W=.ok (decide (k=l)) W:=by
 have hp:=ptr_eq hk hl
 obtain ⟨a,n⟩:=k
 obtain ⟨b,m⟩:=l
 dsimp only at hp
 unfold Op.equal keyV
 rw [show Op.maxDepth=9999+1 from rfl,Go.run_equalIn_struct W 9999 71 _ _ (by kernel_rfl) (by kernel_rfl)]
 simp [go_sem,hp]
 by_cases h1 : a=b <;> by_cases h2 : n=m <;> simp [h1,h2] <;> omega
end Go.Proofs.YtefcbgnckgapgaaGreatDoor
namespace Go.Proofs.YtefcbgnckgapgaaGreatDoor
open Go.RowKit Go.Lib Go.Op
theorem keyV_inj {k l : Option Addr × Nat} (h : keyV k=keyV l) : k=l:=by
 obtain ⟨a,n⟩:=k
 obtain ⟨b,m⟩:=l
 unfold keyV at h
 simp only [Value.agg.injEq,Array.mk.injEq,List.cons.injEq,Value.pointer.injEq,Value.int.injEq,and_true,true_and] at h
 obtain ⟨rfl,h2⟩:=h
 congr 1
 omega
structure DEs (W : World) (es : List MapEntry) (f : Option Addr × Nat→Int) : Prop where
 ent : ∀ e∈es,∃ k,e.key=keyV k∧KBlk W k∧e.val=.int .i64 (f k)
 has : ∀ k,f k≠0→∃ e∈es,e.key=keyV k
 one : es.Pairwise (fun a b=>a.key≠b.key)
theorem ask_run {W : World} {k : Option Addr × Nat} (hk : KBlk W k) : ∀ (es : List MapEntry) (i : Nat),(∀ e∈es,∃ l,e.key=keyV l∧KBlk W l) →
 (((Instr.findAsking 71 (keyV k) es i).run Tryz.prog W=.ok none W∧∀ e∈es,e.key≠keyV k)∨∃ j e,(Instr.findAsking 71 (keyV k) es i).run Tryz.prog W=.ok (some (i+j,e.val)) W∧es[j]?=some e∧e.key=keyV k)
 | [],i,_=>Or.inl ⟨rfl,fun e h=>by simp at h⟩
 | e :: es,i,h=>by
   obtain ⟨l,hl,hb⟩:=h e List.mem_cons_self
   have hq:=kids_eq hk hb
   by_cases he : k=l
   ·subst he
    refine Or.inr ⟨0,e,?_,rfl,hl⟩
    simp only [Instr.findAsking,Sem.run_bind,hl,hq,Result.andThen_ok,decide_true,if_true,Sem.run_pure,Nat.add_zero]
   ·have hne : e.key≠keyV k:=fun hc=>he (keyV_inj (hl.symm.trans hc)).symm
    have hs : (Instr.findAsking 71 (keyV k) (e :: es) i).run Tryz.prog W=(Instr.findAsking 71 (keyV k) es (i+1)).run Tryz.prog W:=by
     simp only [Instr.findAsking,Sem.run_bind,hl,hq,Result.andThen_ok,decide_eq_false he,Bool.false_eq_true,if_false]
    rcases ask_run hk es (i+1) (fun e' he'=>h e' (List.mem_cons_of_mem _ he')) with ⟨h1,h2⟩|⟨j,e',h1,h2,h3⟩
    ·refine Or.inl ⟨hs.trans h1,fun e' he'=>?_⟩
     rcases List.mem_cons.1 he' with rfl|h4
     ·exact hne
     ·exact h2 e' h4
    ·exact Or.inr ⟨j+1,e',by rw [hs,h1,show i+1+j=i+(j+1) by omega],h2,h3⟩
theorem key_run {W : World} {k : Option Addr × Nat} (hk : KBlk W k) (es : List MapEntry) (h : ∀ e∈es,∃ l,e.key=keyV l∧KBlk W l) :
 (((Instr.findKey 71 (keyV k) es).run Tryz.prog W=.ok none W∧∀ e∈es,e.key≠keyV k)∨∃ j e,(Instr.findKey 71 (keyV k) es).run Tryz.prog W=.ok (some (j,e.val)) W∧es[j]?=some e∧e.key=keyV k):=by
 have hu : Tryz.prog.underlying 71=some (.struct (Tryz.prog.fieldsOf 71)):=by kernel_rfl
 cases es with
 | nil=>exact Or.inl ⟨by simp only [Instr.findKey,Sem.run_bind,run_underlying hu,Result.andThen_ok,Instr.findNow,Sem.run_pure],fun e h=>by simp at h⟩
 | cons e es =>
   have hs : (Instr.findKey 71 (keyV k) (e :: es)).run Tryz.prog W=(Instr.findAsking 71 (keyV k) (e :: es) 0).run Tryz.prog W:=by
    simp only [Instr.findKey,Sem.run_bind,run_underlying hu,Result.andThen_ok,Instr.findNow,Instr.sameNow]
   rw [hs]
   rcases ask_run hk (e :: es) 0 h with h1|⟨j,e',h1,h2,h3⟩
   ·exact Or.inl h1
   ·exact Or.inr ⟨j,e',by rw [h1,Nat.zero_add],h2,h3⟩
end Go.Proofs.YtefcbgnckgapgaaGreatDoor
namespace Go.Proofs.YtefcbgnckgapgaaGreatDoor
open Go.RowKit Go.Lib Go.Op
theorem check_run (em : Bool) (d : Nat) (k : Option Addr × Nat) (W : World) : (Instr.checkKey em (d+2) 71 (keyV k)).run Tryz.prog W=.ok () W:=by
 have hu : Tryz.prog.underlying 71=some (.struct (Tryz.prog.fieldsOf 71)):=by kernel_rfl
 have h1 : Tryz.prog.underlying 69=some (.pointer 40):=by kernel_rfl
 have h2 : Tryz.prog.underlying 3=some (.int .i64):=by kernel_rfl
 unfold keyV
 rw [Instr.checkKey]
 simp only [Sem.run_bind,run_underlying hu,Result.andThen_ok]
 rw [← Array.forIn_toList]
 simp [go_sem,Instr.checkKey,run_underlying h1,run_underlying h2]
def DMap (W : World) (m : Nat) (f : Option Addr × Nat→Int) : Prop:=∃ es clock,W.heap[m]?=some (.map es clock)∧DEs W es.toList f
theorem DEs.keys {W : World} {es : List MapEntry} {f : Option Addr × Nat→Int} (h : DEs W es f) : ∀ e∈es,∃ l,e.key=keyV l∧KBlk W l:=fun e he=>by
 obtain ⟨k,h1,h2,_⟩:=h.ent e he
 exact ⟨k,h1,h2⟩
theorem DMap.look {W : World} {m : Nat} {f : Option Addr × Nat→Int} (h : DMap W m f) {k : Option Addr × Nat} (hk : KBlk W k) :
 (Instr.lookup 73 (.map (some m)) (keyV k) false).run Tryz.prog W=.ok (.int .i64 (f k)) W:=by
 obtain ⟨es,clock,hb,he⟩:=h
 have hm : Tryz.prog.underlying 73=some (.map 71 3):=by kernel_rfl
 have hz : (zeroValue 3).run Tryz.prog W=.ok (.int .i64 0) W:=by kernel_rfl
 rcases key_run hk es.toList he.keys with ⟨h1,h2⟩|⟨j,e,h1,h2,h3⟩
 ·have hf : f k=0:=by
   rcases Decidable.em (f k=0) with h0|h0
   ·exact h0
   ·obtain ⟨e,h4,h5⟩:=he.has k h0
    exact absurd h5 (h2 e h4)
  simp only [Instr.lookup,Sem.run_bind,run_underlying hm,Result.andThen_ok,MapKept.run_getObj_map hb,check_run _ 9998,h1,hz,Sem.run_pure,hf]
  rfl
 ·obtain ⟨l,h4,_,h5⟩:=he.ent e (List.mem_of_getElem? h2)
  obtain rfl:=keyV_inj (h3.symm.trans h4)
  simp only [Instr.lookup,Sem.run_bind,run_underlying hm,Result.andThen_ok,MapKept.run_getObj_map hb,check_run _ 9998,h1,h5,Sem.run_pure]
  rfl
end Go.Proofs.YtefcbgnckgapgaaGreatDoor
namespace Go.Proofs.YtefcbgnckgapgaaGreatDoor
open Go.RowKit Go.Lib Go.Op
theorem bits_kids (k : Option Addr × Nat) (d : Nat) : Instr.sameBits (d+2) (keyV k) (keyV k)=true:=by
 unfold keyV
 simp [Instr.sameBits]
theorem stays_kids (k : Option Addr × Nat) (W : World) : (Instr.keyThatStays (keyV k) (keyV k)).run Tryz.prog W=.ok (keyV k) W:=by
 simp only [Instr.keyThatStays,show (10000 : Nat)=9998+2 from rfl,bits_kids k 9998,if_true,Sem.run_pure]
def updF (f : Option Addr × Nat→Int) (k : Option Addr × Nat) (v : Int) : Option Addr × Nat→Int:=fun l=>if l=k then v else f l
theorem KBlk.set {W : World} {m : Nat} {es : Array MapEntry} {c : Nat} (hm : W.heap[m]?=some (.map es c)) {k : Option Addr × Nat} (h : KBlk W k) (o : Obj) : KBlk { W with heap:=W.heap.setIfInBounds m o } k:=fun a ha=>by
 obtain ⟨cs,t,hb⟩:=h a ha
 have hne : m≠a.block:=fun e=>by
  rw [← e,hm] at hb
  simp at hb
 exact ⟨cs,t,by rw [show ({ W with heap:=W.heap.setIfInBounds m o } : World).heap=W.heap.setIfInBounds m o from rfl,Array.getElem?_setIfInBounds_ne hne];exact hb⟩
def KeysIn (W : World) (m L : Nat) : Prop:=∀ es c,W.heap[m]?=some (.map es c)→∀ e∈es.toList,∀ k,e.key=keyV k→∀ a,k.1=some a→a.block < L
theorem DMap.upd {W : World} {m : Nat} {f : Option Addr × Nat→Int} (h : DMap W m f) {k : Option Addr × Nat} (hk : KBlk W k) (v : Int) :
 ∃ o,(Instr.mapUpdate 73 (.map (some m)) (keyV k) (.int .i64 v)).run Tryz.prog W=.ok () { W with heap:=W.heap.setIfInBounds m o }∧DMap { W with heap:=W.heap.setIfInBounds m o } m (updF f k v) ∧
   ∀ L,KeysIn W m L→(∀ a,k.1=some a→a.block < L)→KeysIn { W with heap:=W.heap.setIfInBounds m o } m L:=by
 obtain ⟨es,clock,hb,he⟩:=h
 have hm : Tryz.prog.underlying 73=some (.map 71 3):=by kernel_rfl
 have hlt : m < W.heap.size:=(Array.getElem?_eq_some_iff.1 hb).1
 have hself : ∀ o : Obj,({ W with heap:=W.heap.setIfInBounds m o } : World).heap[m]?=some o:=fun o=>by
  show (W.heap.setIfInBounds m o)[m]?=some o
  rw [Array.getElem?_setIfInBounds_self_of_lt hlt]
 rcases key_run hk es.toList he.keys with ⟨h1,h2⟩|⟨j,e,h1,h2,h3⟩
 ·refine ⟨.map (es.push { key:=keyV k,val:=.int .i64 v,born:=clock }) (clock+1),?_,⟨_,_,hself _,?_⟩,fun L hL hkL es' c' hes e' he' l hl a ha=>?_⟩
  rotate_left
  rotate_left
  ·rw [hself] at hes
   injection hes with hes
   injection hes with hes _
   subst hes
   rw [Array.toList_push] at he'
   rcases List.mem_append.1 he' with h4|h4
   ·exact hL _ _ hb e' h4 l hl a ha
   ·rw [List.mem_singleton.1 h4] at hl
    obtain rfl:=keyV_inj hl
    exact hkL a ha
  ·simp only [Instr.mapUpdate,Sem.run_bind,run_underlying hm,Result.andThen_ok,MapKept.run_getObj_map hb,check_run _ 9998,h1,MapKept.run_setObj_map _ hb]
  ·rw [Array.toList_push]
   refine ⟨fun e' he'=>?_,fun l hl=>?_,?_⟩
   ·rcases List.mem_append.1 he' with h4|h4
    ·obtain ⟨l,h5,h6,h7⟩:=he.ent e' h4
     refine ⟨l,h5,h6.set hb _,?_⟩
     rw [h7,updF,if_neg (fun e=>h2 e' h4 (by rw [h5,e]))]
    ·rw [List.mem_singleton.1 h4]
     exact ⟨k,rfl,hk.set hb _,by simp [updF]⟩
   ·by_cases hlk : l=k
    ·subst hlk
     exact ⟨_,List.mem_append_right _ (List.mem_singleton.2 rfl),rfl⟩
    ·rw [updF,if_neg hlk] at hl
     obtain ⟨e',h4,h5⟩:=he.has l hl
     exact ⟨e',List.mem_append_left _ h4,h5⟩
   ·rw [List.pairwise_append]
    refine ⟨he.one,by simp,fun a ha b hb'=>?_⟩
    rw [List.mem_singleton.1 hb']
    exact h2 a ha
 ·have hj : j < es.toList.length:=(List.getElem?_eq_some_iff.1 h2).1
  refine ⟨.map (es.modify j fun e=>{ e with key:=keyV k,val:=.int .i64 v }) clock,?_,⟨_,_,hself _,?_⟩,fun L hL hkL es' c' hes e' he' l hl a ha=>?_⟩
  rotate_left
  rotate_left
  ·rw [hself] at hes
   injection hes with hes
   injection hes with hes _
   subst hes
   obtain ⟨i,hi⟩:=List.getElem?_of_mem he'
   rw [Array.getElem?_toList,Array.getElem?_modify] at hi
   split at hi
   ·cases hx : es[i]? with
    | none=>rw [hx] at hi;cases hi
    | some y =>
      rw [hx] at hi
      have hi:=Option.some.inj hi
      rw [← hi] at hl
      obtain rfl:=keyV_inj hl
      exact hkL a ha
   ·exact hL _ _ hb e' (List.mem_of_getElem? (by rw [Array.getElem?_toList];exact hi)) l hl a ha
  ·have hej : ((es[j]?).map (·.key)).getD (keyV k)=keyV k:=by
    rw [← Array.getElem?_toList,h2]
    exact h3
   simp only [Instr.mapUpdate,Sem.run_bind,run_underlying hm,Result.andThen_ok,MapKept.run_getObj_map hb,check_run _ 9998,h1,hej,stays_kids,MapKept.run_setObj_map _ hb]
  ·have hms : (es.modify j fun e=>{ e with key:=keyV k,val:=.int .i64 v }).toList=es.toList.set j { e with key:=keyV k,val:=.int .i64 v }:=by
    apply List.ext_getElem?
    intro i
    rw [Array.getElem?_toList,Array.getElem?_modify,List.getElem?_set,← Array.getElem?_toList]
    by_cases hij : j=i
    ·subst hij
     rw [if_pos rfl,if_pos rfl,if_pos hj,h2]
     rfl
    ·rw [if_neg hij,if_neg hij]
   rw [hms]
   have hat : ∀ e'∈es.toList,e'.key=keyV k→e'=e:=fun e' h4 h5=>by
    obtain ⟨i,h6⟩:=List.getElem?_of_mem h4
    have hp:=List.pairwise_iff_getElem.1 he.one
    rcases Nat.lt_trichotomy i j with h7|h7|h7
    ·have:=hp i j (List.getElem?_eq_some_iff.1 h6).1 hj h7
     rw [(List.getElem?_eq_some_iff.1 h6).2,(List.getElem?_eq_some_iff.1 h2).2] at this
     exact absurd (h5.trans h3.symm) this
    ·rw [h7,h2] at h6
     exact (Option.some.inj h6).symm
    ·have:=hp j i hj (List.getElem?_eq_some_iff.1 h6).1 h7
     rw [(List.getElem?_eq_some_iff.1 h6).2,(List.getElem?_eq_some_iff.1 h2).2] at this
     exact absurd (h3.trans h5.symm) this
   have hkeys : (es.toList.set j { e with key:=keyV k,val:=.int .i64 v }).map (·.key)=es.toList.map (·.key):=by
    rw [List.map_set]
    apply List.ext_getElem?
    intro i
    rw [List.getElem?_set,List.length_map]
    by_cases hij : j=i
    ·subst hij
     rw [if_pos rfl,if_pos hj,List.getElem?_map,h2]
     simp [h3]
    ·rw [if_neg hij]
   refine ⟨fun e' he'=>?_,fun l hl=>?_,?_⟩
   ·rcases List.mem_or_eq_of_mem_set he' with h4|h4
    ·obtain ⟨l,h5,h6,h7⟩:=he.ent e' h4
     by_cases hlk : l=k
     ·subst hlk
      have:=hat e' h4 h5
      subst this
      obtain ⟨i,h8⟩:=List.getElem?_of_mem he'
      by_cases hij : j=i
      ·subst hij
       rw [List.getElem?_set_self hj] at h8
       have h9:=Option.some.inj h8
       exact ⟨l,h5,h6.set hb _,by rw [← h9];simp [updF]⟩
      ·rw [List.getElem?_set_ne hij] at h8
       exfalso
       have hp:=List.pairwise_iff_getElem.1 he.one
       have hi:=(List.getElem?_eq_some_iff.1 h8)
       have hjj:=(List.getElem?_eq_some_iff.1 h2)
       rcases Nat.lt_or_gt_of_ne hij with h9|h9
       ·have:=hp j i hj hi.1 h9
        rw [hi.2,hjj.2] at this
        exact this rfl
       ·have:=hp i j hi.1 hj h9
        rw [hi.2,hjj.2] at this
        exact this rfl
     ·refine ⟨l,h5,h6.set hb _,?_⟩
      rw [h7,updF,if_neg hlk]
    ·rw [h4]
     exact ⟨k,rfl,hk.set hb _,by simp [updF]⟩
   ·have : keyV l∈(es.toList.set j { e with key:=keyV k,val:=.int .i64 v }).map (·.key):=by
     rw [hkeys]
     by_cases hlk : l=k
     ·subst hlk
      exact List.mem_map.2 ⟨e,List.mem_of_getElem? h2,h3⟩
     ·rw [updF,if_neg hlk] at hl
      obtain ⟨e',h4,h5⟩:=he.has l hl
      exact List.mem_map.2 ⟨e',h4,h5⟩
    obtain ⟨e',h4,h5⟩:=List.mem_map.1 this
    exact ⟨e',h4,h5⟩
   ·have h4 : ((es.toList.set j { e with key:=keyV k,val:=.int .i64 v }).map (·.key)).Pairwise (·≠·):=by
     rw [hkeys]
     exact List.pairwise_map.2 he.one
    exact List.pairwise_map.1 h4
end Go.Proofs.YtefcbgnckgapgaaGreatDoor
