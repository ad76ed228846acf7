/- Queries: names, items, predicates in rows. | Queries: names, one behind the other. | Queries: items. | Queries: items, one behind the other. | Queries: predicates. | Queries: predicates, one behind the other. | Queries: whole ones. | Queries: what may be a name; names that are unlike. | Queries: which items are right. | Queries: which rows of items are right. | Queries: what a value may be that has a text; what an expression has. -/
import Derived.Test.YtefcbgnckgapgaaM0
import Derived.Test.YtefcbgnckgapgaaV4
import Derived.Deep.DeepCutAuto
import Derived.Test.YtefcbgnckgapgaaTS
namespace Go.Proofs.Ytefcbgnckgapgaa
open Go.RowKit Go.Lib Go.Op
def nameD : RowD (List UInt8) where
 k:=1
 P:=fun _ _ cs b=>cs=[.string (strB b)]
 len:=fun h=>by rw [h];rfl
 one:=fun h u hu=>by rw [h] at hu;rw [List.mem_singleton.1 hu];rfl
 keep:=fun _ h=>h
 mono:=fun _ h=>h
 ne:=fun _ h=>h
def itemD : RowD PIt where
 k:=4
 P:=fun K w cs i=>∃ a c,cs=[.bool i.no,.slice a i.ns.length c,.string (strB i.x),.int .i64 i.mode]∧RowK nameD K w (.slice a i.ns.length c) i.ns
 len:=fun ⟨a,c,h,_⟩=>by rw [h];rfl
 one:=fun ⟨a,c,h,_⟩ u hu=>by
  rw [h] at hu
  simp only [List.mem_cons,List.not_mem_nil,or_false] at hu
  rcases hu with rfl|rfl|rfl|rfl <;> rfl
 keep:=fun hf ⟨a,c,h,hr⟩=>⟨a,c,h,hr.keep hf⟩
 mono:=fun hs ⟨a,c,h,hr⟩=>⟨a,c,h,hr.mono hs⟩
 ne:=fun hb ⟨a,c,h,hr⟩=>⟨a,c,h,hr.ne (by decide) hb⟩
def exL (x : PEx) (kv : Value) : List Value:=[.int .i64 x.k,.int .i64 x.v.k,.int .i64 x.v.n,.string (strB x.v.s),.string (strB x.x),.string (strB x.f),kv]
def predD : RowD PPr where
 k:=15
 P:=fun K w cs p=>∃ a q c b r e d,cs=.int .i64 p.cmp :: (exL p.l (.slice a q c)++exL p.r (.slice b r e))∧ExK K w d (.slice a q c) p.l.ks∧ExK K w d (.slice b r e) p.r.ks
 len:=fun ⟨a,q,c,b,r,e,d,h,_⟩=>by rw [h];rfl
 one:=fun ⟨a,q,c,b,r,e,d,h,_⟩ u hu=>by
  rw [h] at hu
  simp only [exL,List.cons_append,List.nil_append,List.mem_cons,List.not_mem_nil,or_false] at hu
  rcases hu with rfl|rfl|rfl|rfl|rfl|rfl|rfl|rfl|rfl|rfl|rfl|rfl|rfl|rfl|rfl <;> rfl
 keep:=fun hf ⟨a,q,c,b,r,e,d,h,h1,h2⟩=>⟨a,q,c,b,r,e,d,h,h1.keep hf,h2.keep hf⟩
 mono:=fun hs ⟨a,q,c,b,r,e,d,h,h1,h2⟩=>⟨a,q,c,b,r,e,d,h,h1.mono hs,h2.mono hs⟩
 ne:=fun hb ⟨a,q,c,b,r,e,d,h,h1,h2⟩=>⟨a,q,c,b,r,e,d,h,ExK.ne hb h1,ExK.ne hb h2⟩
theorem strI : (Try.prog.info? 9).map (fun i=>(i.zero,i.size,i.bytes))=some (some (.string .empty),1,16):=by kernel_rfl
theorem itemI : (Try.prog.info? 38).map (fun i=>(i.zero,i.size,i.bytes))=some (some (.agg #[.bool false,.slice none 0 0,.string .empty,.int .i64 0]),4,56):=by kernel_rfl
theorem predI : (Try.prog.info? 52).map (fun i=>(i.zero,i.size,i.bytes))=some (some (.agg #[.int .i64 0,.int .i64 0,.int .i64 0,.int .i64 0,.string .empty,.string .empty,.string .empty,.slice none 0 0,.int .i64 0,.int .i64 0,.int .i64 0,.string .empty,.string .empty,.string .empty,.slice none 0 0]),15,200):=by kernel_rfl
section
variable {α : Type} {E : Nat} {b : List UInt8} {one : RS→α × RS} {n : Nat} {l : List α} {s : RS}
theorem rowT_end (h : isT E s 1 b=false) : rowT E b one n l s=(l,s):=by
 cases n with
 | zero=>rfl
 | succ n=>rw [rowT,h];rfl
theorem rowT_more (h : isT E s 1 b=true) : rowT E b one (n+1) l s=rowT E b one n (l++[(one (takeT E s 1 b).2).1]) (one (takeT E s 1 b).2).2:=by rw [rowT,h];rfl
theorem rowT_le (hle : ∀ s,(one s).2.l.length≤s.l.length) : ∀ (n : Nat) (l : List α) (s : RS),(rowT E b one n l s).2.l.length≤s.l.length
 | 0,l,s=>Nat.le_refl _
 | n+1,l,s=>by
   rw [rowT]
   split
   ·exact Nat.le_trans (rowT_le hle n _ _) (Nat.le_trans (hle _) (takeT_le _ _))
   ·exact Nat.le_refl _
theorem rowT_deep (hdp : ∀ s,(one s).2.deep=s.deep) : ∀ (n : Nat) (l : List α) (s : RS),(rowT E b one n l s).2.deep=s.deep
 | 0,l,s=>rfl
 | n+1,l,s=>by
   rw [rowT]
   split
   ·rw [rowT_deep hdp n _ _,hdp,takeT_deep]
   ·rfl
theorem row1T_le (hle : ∀ s,(one s).2.l.length≤s.l.length) (n : Nat) (s : RS) : (row1T E b one n s).2.l.length≤s.l.length:=Nat.le_trans (rowT_le hle n _ _) (hle s)
theorem row1T_deep (hdp : ∀ s,(one s).2.deep=s.deep) (n : Nat) (s : RS) : (row1T E b one n s).2.deep=s.deep:=(rowT_deep hdp n _ _).trans (hdp s)
end
end Go.Proofs.Ytefcbgnckgapgaa
namespace Go.Proofs.Ytefcbgnckgapgaa
open Go.RowKit Go.Lib Go.Op
end Go.Proofs.Ytefcbgnckgapgaa
namespace Go.Proofs.Ytefcbgnckgapgaa
open Go.RowKit Go.Lib Go.Op
def Blk (w : World) (b : Nat) (cs : Array Value) (t : TypeId) : Prop:=w.heap[b]?=some (.cells cs t (0,0))
section
variable {w w' : World} {b : Nat} {cs : Array Value} {t : TypeId}
theorem Blk.new (w : World) (cs : Array Value) (t : TypeId) : Blk (w.alloc (.cells cs t)) w.heap.size cs t:=heap_alloc_new w _
theorem Blk.keep {K : Nat→Prop} (h : Blk w b cs t) (hf : TFr K w w') (hk : ¬ K b) : Blk w' b cs t:=(hf.block b (Array.getElem?_eq_some_iff.1 h).1 hk).trans h
theorem Blk.low (h : Blk w b cs t) (hb : Below w.heap.size w w') : Blk w' b cs t:=h.keep (TFr.of_below (K:=fun _=>False) hb) id
theorem Blk.set (h : Blk w b cs t) (k : Nat) (v : Value) {cs' : Array Value} (hc : cs.setIfInBounds k v=cs') : Blk (w.setCell ⟨b,k,none⟩ v) b cs' t:=by
 subst hc
 exact tsetCell_blk h v
theorem Blk.at (h : Blk w b cs t) {b' : Nat} (hne : b≠b') (k : Nat) (v : Value) : Blk (w.setCell ⟨b',k,none⟩ v) b cs t:=h.keep (TFr.at b' k v) hne
theorem Blk.lt (h : Blk w b cs t) : b < w.heap.size:=(Array.getElem?_eq_some_iff.1 h).1
end
theorem takeT_fst {E : Nat} {s : RS} (k : Nat) (b : List UInt8) : (takeT E s k b).1=isT E s k b:=by
 unfold takeT
 cases isT E s k b <;> rfl
theorem RowK.set {α : Type} {D : RowD α} {K : Nat→Prop} {w : World} {v : Value} {l : List α} (h : RowK D K w v l) {b : Nat} (hb : K b) (k : Nat) (u : Value) : RowK D K (w.setCell ⟨b,k,none⟩ u) v l:=h.keepR (TFr.at b k u) hb
theorem RowK.low {α : Type} {D : RowD α} {K : Nat→Prop} {w w' : World} {v : Value} {l : List α} (h : RowK D K w v l) (hb : Below w.heap.size w w') : RowK D K w' v l:=h.keep (TFr.of_below hb)
section
variable {E : Nat} {s : RS} {n : Nat}
theorem itemT_le : (itemT E n s).2.l.length≤s.l.length:=by
 unfold itemT
 exact Nat.le_trans (amongT_le _ _ _) (Nat.le_trans nameT_le (Nat.le_trans (row1T_le (fun _=>nameT_le) n _) (takeT_le _ _)))
theorem itemT_deep : (itemT E n s).2.deep=s.deep:=by
 unfold itemT
 dsimp only
 rw [amongT_deep,nameT_deep,row1T_deep (fun _=>nameT_deep),takeT_deep]
theorem predT_le : (predT E n s).2.l.length≤s.l.length:=by
 unfold predT
 exact Nat.le_trans (exprT_le (termT_le n) n _) (Nat.le_trans (chooseT_le _ _) (exprT_le (termT_le n) n _))
theorem predT_deep : (predT E n s).2.deep=s.deep:=by
 unfold predT
 dsimp only
 rw [exprT_deep (termT_deep n),chooseT_deep,exprT_deep (termT_deep n)]
end
end Go.Proofs.Ytefcbgnckgapgaa
namespace Go.Proofs.Ytefcbgnckgapgaa
open Go.RowKit Go.Lib Go.Op
end Go.Proofs.Ytefcbgnckgapgaa
namespace Go.Proofs.Ytefcbgnckgapgaa
open Go.RowKit Go.Lib Go.Op
end Go.Proofs.Ytefcbgnckgapgaa
namespace Go.Proofs.Ytefcbgnckgapgaa
open Go.RowKit Go.Lib Go.Op
end Go.Proofs.Ytefcbgnckgapgaa
namespace Go.Proofs.Ytefcbgnckgapgaa
open Go.RowKit Go.Lib Go.Op
section
variable {R T E : Nat} {w wc w' : World} {s s' : RS} {c0 c1 c2 c3 c4 : Value} {its : List PIt} {prs : List PPr}
end
end Go.Proofs.Ytefcbgnckgapgaa
namespace Go.Proofs.Ytefcbgnckgapgaa
open Go.RowKit Go.Lib Go.Op
set_option maxRecDepth 100000 in
theorem nameOk_calls (b : List UInt8) (w : World) (hb : b.length≤1000000) : Calls Try.prog 35 #[.string (strB b)] w fun e w'=>e=.returned (.bool (nameB b))∧Below w.heap.size w w':=by
 have hw:=word_calls (strB b) w (by rw [strB_size];unfold maxLen;omega)
 rw [strB_list] at hw
 have HK:=hid (fun W=>key_calls b W)
 unfold nameB
 cases h1 : wordB b with
 | false =>
   rw [h1] at hw
   have HW:=hid hw
   clear hw hb h1
   go_enter Try.func35,Try.ntmps35
   go_wp2_with (go_at_call 60;(with_reducible refine HW.out.mono ?_);rintro e w1 ⟨rfl,hb1⟩;have HB1:=hid hb1;clear hb1)
   go_ret
   exact ⟨rfl,HB1.out⟩
 | true =>
   rw [h1] at hw
   have HW:=hid hw
   obtain ⟨z,hz⟩ : ∃ z,keyB b=z:=⟨_,rfl⟩
   rw [hz] at HK ⊢
   clear hw hb h1 hz
   go_enter Try.func35,Try.ntmps35
   go_wp2_with (first
    | (go_at_call 60;(with_reducible refine HW.out.mono ?_);rintro e w1 ⟨rfl,hb1⟩;have HB1:=hid hb1;clear hb1)
    | (go_at_call 61;(with_reducible refine (HK.out _).mono ?_);rintro e w2 ⟨rfl,rfl⟩))
   go_ret
   exact ⟨tbool (by cases z <;> rfl),HB1.out⟩
theorem RowK.nameAt {K : Nat→Prop} {w : World} {a : Option Addr} {c : Nat} {l : List (List UInt8)} (h : RowK nameD K w (.slice a l.length c) l) {j : Nat} {b : List UInt8} (hj : l[j]?=some b) : ∃ g o,a=some ⟨g,o,none⟩∧w.cell? ⟨g,o+j,none⟩=some (.string (strB b)):=by
 obtain ⟨a',c',e,_,h⟩:=h
 injection e with e1 e2 e3
 obtain ⟨g,o,cs,ea,hg,hp,hc⟩:=h j b hj
 have hp' : cs=[.string (strB b)]:=hp
 subst hp'
 have:=hc 0 _ rfl
 exact ⟨g,o,e1.trans ea,by simpa [nameD] using this⟩
theorem containsRow_calls {K : Nat→Prop} {w : World} {a : Option Addr} {c : Nat} {l : List (List UInt8)} (h : RowK nameD K w (.slice a l.length c) l) (hl : l.length≤1000000) (m : Nat) (hm : m≤l.length) (c' : Nat) (x : List UInt8) :
 Calls Try.prog 36 #[.slice a m c',.string (strB x)] w fun e w'=>e=.returned (.bool (decide (x∈l.take m)))∧w'=w:=by
 by_cases h0 : m=0
 ·subst h0
  refine (Try.slices_Contains_string_empty a c' (strB x) w).mono ?_
  rintro e w' ⟨rfl,rfl⟩
  exact ⟨by simp,rfl⟩
 ·have h1 : ∃ b,l[0]?=some b:=⟨_,List.getElem?_eq_getElem (by omega)⟩
  obtain ⟨b0,hb0⟩:=h1
  obtain ⟨g,o,rfl,_⟩:=h.nameAt hb0
  refine (Try.slices_Contains_string g o m c' (l.map strB) (strB x) w (by simpa using hm) (by omega) (fun j hj=>?_)).mono ?_
  ·rw [List.length_map] at hj
   obtain ⟨g',o',e,h2⟩:=h.nameAt (List.getElem?_eq_getElem hj)
   injection e with e
   injection e with e1 e2
   subst e1 e2
   rw [h2]
   simp [List.getD,hj]
  ·rintro e w' ⟨rfl,rfl⟩
   refine ⟨?_,rfl⟩
   have e1 : containsS ((l.map strB).take m) (strB x)=decide (x∈l.take m):=by
    rw [← List.map_take,Bool.eq_iff_iff,containsS_iff,decide_eq_true_eq,List.mem_map]
    exact ⟨fun ⟨y,hy,e⟩=>by
     have : y=x:=by rw [← strB_list y,← strB_list x,e]
     rw [← this];exact hy,fun h=>⟨x,h,rfl⟩⟩
   rw [e1]
def UnTo (l : List (List UInt8)) (j : Nat) : Prop:=(∀ b∈l.take j,nameB b=true)∧(l.take j).Nodup
theorem UnTo.next {l : List (List UInt8)} {j : Nat} {x : List UInt8} (h : UnTo l j) (hx : l[j]?=some x) (h1 : nameB x=true) (h2 : x ∉ l.take j) : UnTo l (j+1):=by
 unfold UnTo
 rw [List.take_add_one,hx]
 refine ⟨fun b hb=>?_,?_⟩
 ·rcases List.mem_append.1 hb with hb|hb
  ·exact h.1 b hb
  ·obtain rfl : b=x:=by simpa using hb
   exact h1
 ·rw [List.nodup_append]
  exact ⟨h.2,by simp,fun a ha b hb=>by
   obtain rfl : b=x:=by simpa using hb
   exact fun e=>h2 (e ▸ ha)⟩
theorem unlikeB_name {l : List (List UInt8)} {j : Nat} {x : List UInt8} (hx : l[j]?=some x) (h1 : nameB x=false) : unlikeB l=false:=by
 unfold unlikeB
 have : l.all nameB=false:=List.all_eq_false.2 ⟨x,List.mem_of_getElem? hx,by simp [h1]⟩
 rw [this];rfl
theorem unlikeB_twice {l : List (List UInt8)} {j : Nat} {x : List UInt8} (hx : l[j]?=some x) (h2 : x∈l.take j) : unlikeB l=false:=by
 unfold unlikeB
 have : ¬ l.Nodup:=fun hn=>by
  have h3 : (l.take (j+1)).Nodup:=hn.sublist (List.take_sublist _ _)
  rw [List.take_add_one,hx,List.nodup_append] at h3
  exact h3.2.2 x h2 x (by simp) rfl
 simp [this]
theorem unlikeB_all {l : List (List UInt8)} (h : UnTo l l.length) : unlikeB l=true:=by
 obtain ⟨h1,h2⟩:=h
 rw [List.take_length] at h1 h2
 unfold unlikeB
 simp only [Bool.and_eq_true,List.all_eq_true,decide_eq_true_eq]
 exact ⟨h1,h2⟩
theorem names_upto (a : Option Addr) (n c m : Nat) (hm : m≤n) (hn : n≤c) (W : World) : (Instr.slice 26 (.slice a n c) none (some (.int .i64 m)) none).run Try.prog W=.ok (.slice a m c) W:=by
 have hz : (sizeOf 9).run Try.prog W=.ok 1 W:=by kernel_rfl
 rw [run_slice_h (P:=Try.prog) W 26 a n c (by kernel_rfl) .i64 (m : Int) (by omega) (by omega)]
 have he : Try.prog.elem 26=9:=by kernel_rfl
 rw [he,hz]
 cases a <;> simp [Result.andThen,sliced,Addr.add]
set_option maxHeartbeats 1000000 in
set_option maxRecDepth 100000 in
theorem unlike_calls {K : Nat→Prop} {w : World} {a : Option Addr} {c : Nat} {l : List (List UInt8)} (h : RowK nameD K w (.slice a l.length c) l) (hl : l.length≤1000000) (hb : ∀ b∈l,b.length≤1000000) :
 Calls Try.prog 56 #[.slice a l.length c] w fun e w'=>e=.returned (.bool (unlikeB l))∧Below w.heap.size w w':=by
 have hc:=h.cap
 have H:=hid h
 obtain ⟨q,hq⟩ : ∃ q,l.length=q:=⟨_,rfl⟩
 have HQ:=hid hq
 have HBD:=hid hb
 obtain ⟨z,hz⟩ : ∃ z,unlikeB l=z:=⟨_,rfl⟩
 have HZ:=hid hz
 rw [hz]
 rw [hq] at hc hl ⊢
 clear h hq hb hz
 go_enter Try.func56,Try.ntmps56
 go_wp2
 go_loopw [7] (fun i wr=>∃ j : Nat,i=.int .i64 j∧j≤q∧Hid (UnTo l j)∧Hid (Below w.heap.size w wr)) (fun i _=>q - (RowKit.intOf i).toNat)
 case atStart=>exact ⟨0,rfl,Nat.zero_le _,⟨fun b hb=>by simp at hb,by simp⟩,Below.refl _ _⟩
 case round =>
  obtain ⟨j,rfl,hj,HU,HB⟩:=hrel
  by_cases hlt : j < q
  ·obtain ⟨x,hx⟩ : ∃ x,l[j]?=some x:=⟨_,List.getElem?_eq_getElem (by rw [HQ.out];exact hlt)⟩
   have hr:=H.out.low HB.out
   obtain ⟨g,o,rfl,hcell⟩:=hr.nameAt hx
   have HN:=hid (nameOk_calls x wr (HBD.out x (List.mem_of_getElem? hx)))
   have HX:=hid hx
   cases hnm : nameB x with
   | false =>
     rw [hnm] at HN
     have hz0 : z=false:=HZ.out.symm.trans (unlikeB_name hx hnm)
     subst hz0
     clear hr hx hnm
     go_wp2_with (go_at_call 35;(with_reducible refine HN.out.mono ?_);rintro e w1 ⟨rfl,hb1⟩;have HB1:=hid (HB.out.trans (hb1.mono HB.out.size));clear hb1)
     go_ret
     exact ⟨rfl,HB1.out⟩
   | true =>
     rw [hnm] at HN
     have hsl:=names_upto (some ⟨g,o,none⟩) q c j (by omega) hc
     have hr':=hr
     rw [HQ.out] at hr'
     have HCT : Hid (∀ W,Below wr.heap.size wr W→Calls Try.prog 36 #[.slice (some ⟨g,o,none⟩) j c,.string (strB x)] W fun e w'=>e=.returned (.bool (decide (x∈l.take j)))∧w'=W):=fun W hW=>containsRow_calls (hr.low hW) (by rw [HQ.out];exact hl) j (by rw [HQ.out];exact hj) c x
     have HNM:=hid hnm
     obtain ⟨t,ht⟩ : ∃ t,decide (x∈l.take j)=t:=⟨_,rfl⟩
     rw [ht] at HCT
     have HT:=hid ht
     clear hr hr' hx hnm ht
     cases t with
     | true =>
       have hz0 : z=false:=HZ.out.symm.trans (unlikeB_twice HX.out (of_decide_eq_true HT.out))
       subst hz0
       go_wp2_with (first
        | (go_at_call 35;(with_reducible refine HN.out.mono ?_);rintro e w1 ⟨rfl,hb1⟩;have HB1:=hid (HB.out.trans (hb1.mono HB.out.size));have HC1:=hid (HCT.out _ hb1);clear hb1)
        | (go_at_call 36;(with_reducible refine HC1.out.mono ?_);rintro e w2 ⟨rfl,rfl⟩))
       go_ret
       exact ⟨rfl,HB1.out⟩
     | false =>
       have HU2:=hid (HU.out.next HX.out HNM.out (of_decide_eq_false HT.out))
       go_wp2_with (first
        | (go_at_call 35;(with_reducible refine HN.out.mono ?_);rintro e w1 ⟨rfl,hb1⟩;have HB1:=hid (HB.out.trans (hb1.mono HB.out.size));have HC1:=hid (HCT.out _ hb1);clear hb1)
        | (go_at_call 36;(with_reducible refine HC1.out.mono ?_);rintro e w2 ⟨rfl,rfl⟩))
       go_round
       case rel=>exact ⟨j+1,by go_num,by omega,HU2,HB1⟩
       case measure=>simp [RowKit.intOf];omega
  ·have hz0 : z=true:=HZ.out.symm.trans (unlikeB_all (by rw [HQ.out,show q=j by omega];exact HU.out))
   subst hz0
   go_wp2
   go_ret
   exact ⟨rfl,HB.out⟩
end Go.Proofs.Ytefcbgnckgapgaa
namespace Go.Proofs.Ytefcbgnckgapgaa
open Go.RowKit Go.Lib Go.Op
section
variable {w : World} {a : Option Addr} {c : Nat} {l : List (List UInt8)}
set_option maxRecDepth 100000 in
theorem ritem_low (n : Nat) (no : Bool) (x : ByteArray) (mode : Int) (h1 : mode < 1) : Calls Try.prog 55 #[.agg #[.bool no,.slice a n c,.string x,.int .i64 mode]] w fun e w'=>e=.returned (.bool false)∧Below w.heap.size w w':=by
 have HB:=hid ((Below.refl w.heap.size w).alloc (Nat.le_refl _) (.cells #[.bool no,.slice a n c,.string x,.int .i64 mode] 38))
 have t1 : decide (mode < 1)=true:=decide_eq_true h1
 clear h1
 go_enter Try.func55,Try.ntmps55
 go_wp2
 go_ret
 exact ⟨rfl,HB.out⟩
set_option maxRecDepth 100000 in
theorem ritem_high (n : Nat) (no : Bool) (x : ByteArray) (mode : Int) (h1 : ¬ mode < 1) (h2 : 3 < mode) : Calls Try.prog 55 #[.agg #[.bool no,.slice a n c,.string x,.int .i64 mode]] w fun e w'=>e=.returned (.bool false)∧Below w.heap.size w w':=by
 have HB:=hid ((Below.refl w.heap.size w).alloc (Nat.le_refl _) (.cells #[.bool no,.slice a n c,.string x,.int .i64 mode] 38))
 have t1 : decide (mode < 1)=false:=decide_eq_false h1
 have t2 : decide (3 < mode)=true:=decide_eq_true h2
 clear h1 h2
 go_enter Try.func55,Try.ntmps55
 go_wp2
 go_ret
 exact ⟨rfl,HB.out⟩
set_option maxRecDepth 100000 in
theorem ritem_not (n : Nat) (no : Bool) (x : ByteArray) (mode : Int) (h1 : ¬ mode < 1) (h2 : ¬ 3 < mode) (hno : no=true) (h3 : mode≠1) : Calls Try.prog 55 #[.agg #[.bool no,.slice a n c,.string x,.int .i64 mode]] w fun e w'=>e=.returned (.bool false)∧Below w.heap.size w w':=by
 have HB:=hid ((Below.refl w.heap.size w).alloc (Nat.le_refl _) (.cells #[.bool no,.slice a n c,.string x,.int .i64 mode] 38))
 have t1 : decide (mode < 1)=false:=decide_eq_false h1
 have t2 : decide (3 < mode)=false:=decide_eq_false h2
 have t3 : (mode != 1)=true:=by rw [bne_iff_ne];exact h3
 subst hno
 clear h1 h2 h3
 go_enter Try.func55,Try.ntmps55
 go_wp2
 go_ret
 exact ⟨rfl,HB.out⟩
set_option maxRecDepth 100000 in
theorem ritem_none (no : Bool) (x : ByteArray) (mode : Int) (h1 : ¬ mode < 1) (h2 : ¬ 3 < mode) (h3 : no=false∨mode=1) (n : Nat) (hn : n=0) : Calls Try.prog 55 #[.agg #[.bool no,.slice a n c,.string x,.int .i64 mode]] w fun e w'=>e=.returned (.bool false)∧Below w.heap.size w w':=by
 have t1 : decide (mode < 1)=false:=decide_eq_false h1
 have t2 : decide (3 < mode)=false:=decide_eq_false h2
 subst hn
 have HB:=hid ((Below.refl w.heap.size w).alloc (Nat.le_refl _) (.cells #[.bool no,.slice a 0 c,.string x,.int .i64 mode] 38))
 clear h1 h2
 cases no with
 | false =>
   clear h3
   go_enter Try.func55,Try.ntmps55
   go_wp2
   go_ret
   exact ⟨rfl,HB.out⟩
 | true =>
   have h3' : mode=1:=h3.resolve_left (by simp)
   subst h3'
   have t3 : ((1 : Int) != 1)=false:=rfl
   clear h3
   go_enter Try.func55,Try.ntmps55
   go_wp2
   go_ret
   exact ⟨rfl,HB.out⟩
set_option maxRecDepth 100000 in
theorem ritem_many (no : Bool) (x : ByteArray) (mode : Int) (h1 : ¬ mode < 1) (h2 : ¬ 3 < mode) (h3 : no=false∨mode=1) (n : Nat) (hn : 3 < n) : Calls Try.prog 55 #[.agg #[.bool no,.slice a n c,.string x,.int .i64 mode]] w fun e w'=>e=.returned (.bool false)∧Below w.heap.size w w':=by
 have t1 : decide (mode < 1)=false:=decide_eq_false h1
 have t2 : decide (3 < mode)=false:=decide_eq_false h2
 have u1 : decide (0 < n)=true:=decide_eq_true (by omega)
 have u2 : decide ((n : Int)≤3)=false:=decide_eq_false (by omega)
 have HB:=hid ((Below.refl w.heap.size w).alloc (Nat.le_refl _) (.cells #[.bool no,.slice a n c,.string x,.int .i64 mode] 38))
 clear h1 h2
 cases no with
 | false =>
   clear h3
   go_enter Try.func55,Try.ntmps55
   go_wp2
   go_ret
   exact ⟨rfl,HB.out⟩
 | true =>
   have h3' : mode=1:=h3.resolve_left (by simp)
   subst h3'
   have t3 : ((1 : Int) != 1)=false:=rfl
   clear h3
   go_enter Try.func55,Try.ntmps55
   go_wp2
   go_ret
   exact ⟨rfl,HB.out⟩
set_option maxRecDepth 100000 in
theorem ritem_some (no : Bool) (x : ByteArray) (mode : Int) (h1 : ¬ mode < 1) (h2 : ¬ 3 < mode) (h3 : no=false∨mode=1) (n : Nat) (hn : 0 < n) (hn3 : n≤3) (z : Bool) (hu : ∀ W,Below w.heap.size w W→Calls Try.prog 56 #[.slice a n c] W fun e w'=>e=.returned (.bool z)∧Below W.heap.size W w') : Calls Try.prog 55 #[.agg #[.bool no,.slice a n c,.string x,.int .i64 mode]] w fun e w'=>e=.returned (.bool z)∧Below w.heap.size w w':=by
 have t1 : decide (mode < 1)=false:=decide_eq_false h1
 have t2 : decide (3 < mode)=false:=decide_eq_false h2
 have u1 : decide (0 < n)=true:=decide_eq_true hn
 have u2 : decide ((n : Int)≤3)=true:=decide_eq_true (by omega)
 have HU:=hid hu
 clear hu hn hn3
 have HB:=hid ((Below.refl w.heap.size w).alloc (Nat.le_refl _) (.cells #[.bool no,.slice a n c,.string x,.int .i64 mode] 38))
 clear h1 h2
 cases no with
 | false =>
   clear h3
   go_enter Try.func55,Try.ntmps55
   go_wp2_with (go_at_call 56;(with_reducible refine (HU.out _ HB.out).mono ?_);rintro e w1 ⟨rfl,hb1⟩;have HB1:=hid (HB.out.trans (hb1.mono HB.out.size));clear hb1)
   go_ret
   exact ⟨tbool (by cases z <;> rfl),HB1.out⟩
 | true =>
   have h3' : mode=1:=h3.resolve_left (by simp)
   subst h3'
   have t3 : ((1 : Int) != 1)=false:=rfl
   clear h3
   go_enter Try.func55,Try.ntmps55
   go_wp2_with (go_at_call 56;(with_reducible refine (HU.out _ HB.out).mono ?_);rintro e w1 ⟨rfl,hb1⟩;have HB1:=hid (HB.out.trans (hb1.mono HB.out.size));clear hb1)
   go_ret
   exact ⟨tbool (by cases z <;> rfl),HB1.out⟩
theorem rightItem_calls {K : Nat→Prop} (i : PIt) (h : RowK nameD K w (.slice a i.ns.length c) i.ns) (hl : i.ns.length≤1000000) (hb : ∀ b∈i.ns,b.length≤1000000) (x : ByteArray) :
 Calls Try.prog 55 #[.agg #[.bool i.no,.slice a i.ns.length c,.string x,.int .i64 i.mode]] w fun e w'=>e=.returned (.bool (rightI i))∧Below w.heap.size w w':=by
 unfold rightI
 by_cases h1 : i.mode < 1
 ·rw [if_pos (.inl h1)]
  exact ritem_low _ _ _ _ h1
 by_cases h2 : 3 < i.mode
 ·rw [if_pos (.inr (.inl h2))]
  exact ritem_high _ _ _ _ h1 h2
 by_cases h3 : i.no=true∧i.mode≠1
 ·rw [if_pos (.inr (.inr h3))]
  exact ritem_not _ _ _ _ h1 h2 h3.1 h3.2
 rw [if_neg (fun e=>e.elim h1 (fun e=>e.elim h2 h3))]
 have h3' : i.no=false∨i.mode=1:=by
  cases hno : i.no with
  | false=>exact .inl rfl
  | true =>
    right
    by_cases hm : i.mode=1
    ·exact hm
    ·exact absurd ⟨hno,hm⟩ h3
 by_cases hn : i.ns.length=0
 ·rw [show decide (0 < i.ns.length∧i.ns.length≤3)=false by simp;omega]
  exact ritem_none _ _ _ h1 h2 h3' _ hn
 by_cases hn3 : 3 < i.ns.length
 ·rw [show decide (0 < i.ns.length∧i.ns.length≤3)=false by simp;omega]
  exact ritem_many _ _ _ h1 h2 h3' _ hn3
 rw [show decide (0 < i.ns.length∧i.ns.length≤3)=true by simp;omega,Bool.true_and]
 exact ritem_some _ _ _ h1 h2 h3' _ (by omega) (by omega) _ (fun W hW=>unlike_calls (h.low hW) hl hb)
end
end Go.Proofs.Ytefcbgnckgapgaa
namespace Go.Proofs.Ytefcbgnckgapgaa
open Go.RowKit Go.Lib Go.Op
def ItB (i : PIt) : Prop:=i.ns.length≤1000000∧(∀ b∈i.ns,b.length≤1000000)∧i.x.length≤1000000
theorem RowK.itemAt {K : Nat→Prop} {w : World} {a : Option Addr} {n c : Nat} {l : List PIt} (h : RowK itemD K w (.slice a n c) l) {j : Nat} {i : PIt} (hj : l[j]?=some i) : ∃ g o a' c',a=some ⟨g,o,none⟩∧w.cell? ⟨g,o+j*4,none⟩=some (.bool i.no)∧w.cell? ⟨g,o+j*4+1,none⟩=some (.slice a' i.ns.length c')∧w.cell? ⟨g,o+j*4+2,none⟩=some (.string (strB i.x))∧w.cell? ⟨g,o+j*4+3,none⟩=some (.int .i64 i.mode)∧RowK nameD K w (.slice a' i.ns.length c') i.ns:=by
 obtain ⟨a1,c1,e,_,h⟩:=h
 injection e with e1 e2 e3
 obtain ⟨g,o,cs,ea,hg,⟨a',c',hcs,hr⟩,hc⟩:=h j i hj
 subst hcs
 exact ⟨g,o,a',c',e1.trans ea,hc 0 _ rfl,hc 1 _ rfl,hc 2 _ rfl,hc 3 _ rfl,hr⟩
theorem rightIs_nil : rightIs []=false:=rfl
theorem rightIs_bad {l : List PIt} {i : PIt} (h0 : l[0]?=some i) (h : 6 < l.length∨i.no=true∨i.mode=3) : rightIs l=false:=by
 cases l with
 | nil=>rfl
 | cons i' r =>
   obtain rfl : i'=i:=by simpa using h0
   unfold rightIs
   have : (decide (6 < (i' :: r).length) || (i'.no || decide (i'.mode=3)))=true:=by
    rcases h with h|h|h
    ·simp only [h,decide_true,Bool.true_or]
    ·simp [h]
    ·simp [h]
   show (!(decide (6 < (i' :: r).length) || (i'.no || decide (i'.mode=3))) && ((i' :: r).all rightI && unlikeB ((i' :: r).map (·.x))))=_
   rw [this];rfl
theorem rightIs_good {l : List PIt} {i : PIt} (h0 : l[0]?=some i) (h1 : ¬ 6 < l.length) (h2 : i.no=false) (h3 : i.mode≠3) : rightIs l=(l.all rightI && unlikeB (l.map (·.x))):=by
 cases l with
 | nil=>simp at h0
 | cons i' r =>
   obtain rfl : i'=i:=by simpa using h0
   unfold rightIs
   have : (decide (6 < (i' :: r).length) || (i'.no || decide (i'.mode=3)))=false:=by
    rw [decide_eq_false h1,h2,decide_eq_false h3];rfl
   show (!(decide (6 < (i' :: r).length) || (i'.no || decide (i'.mode=3))) && ((i' :: r).all rightI && unlikeB ((i' :: r).map (·.x))))=_
   rw [this];rfl
section
variable {K : Nat→Prop} {w : World} {a : Option Addr} {c : Nat} {l : List PIt}
set_option maxHeartbeats 1000000 in
set_option maxRecDepth 100000 in
theorem ritems_bad (h : RowK itemD K w (.slice a l.length c) l) (hbad : l=[]∨∃ i,l[0]?=some i∧(6 < l.length∨i.no=true∨i.mode=3)) :
 Calls Try.prog 33 #[.slice a l.length c] w fun e w'=>e=.returned (.bool false)∧Below w.heap.size w w':=by
 rcases hbad with rfl|⟨i,h0,hb⟩
 ·clear h
  go_enter Try.func33,Try.ntmps33
  go_wp2
  go_ret
  exact ⟨rfl,Below.refl _ _⟩
 ·obtain ⟨g,o,a',c',rfl,c0,c1,c2,c3,_⟩:=h.itemAt h0
  have hpos : 0 < l.length:=(List.getElem?_eq_some_iff.1 h0).1
  obtain ⟨q,hq⟩ : ∃ q,l.length=q:=⟨_,rfl⟩
  rw [hq] at hpos hb ⊢
  simp only [Nat.zero_mul,Nat.add_zero] at c0 c1 c2 c3
  have t0 : ((q : Int) == 0)=false:=by rw [beq_eq_false_iff_ne];omega
  clear h h0 hq
  by_cases h6 : 6 < q
  ·have t1 : decide (6 < (q : Int))=true:=decide_eq_true (by omega)
   clear hb
   go_enter Try.func33,Try.ntmps33
   go_wp2
   go_ret
   exact ⟨rfl,Below.refl _ _⟩
  have t1 : decide (6 < (q : Int))=false:=decide_eq_false (by omega)
  have hb2:=hb.resolve_left h6
  clear hb
  cases hno : i.no with
  | true =>
    rw [hno] at c0
    clear hb2 hno
    go_enter Try.func33,Try.ntmps33
    go_wp2
    go_ret
    exact ⟨rfl,Below.refl _ _⟩
  | false =>
    have hm:=hb2.resolve_left (by rw [hno];simp)
    rw [hno] at c0
    rw [hm] at c3
    have t3 : ((3 : Int) == 3)=true:=rfl
    clear hb2 hno hm
    go_enter Try.func33,Try.ntmps33
    go_wp2
    go_ret
    exact ⟨rfl,Below.refl _ _⟩
set_option maxHeartbeats 2000000 in
set_option maxRecDepth 100000 in
theorem ritems_good (h : RowK itemD K w (.slice a l.length c) l) {i : PIt} (h0 : l[0]?=some i) (h6 : ¬ 6 < l.length) (hno : i.no=false) (hm : i.mode≠3) (hbd : ∀ i∈l,ItB i) :
 Calls Try.prog 33 #[.slice a l.length c] w fun e w'=>e=.returned (.bool (l.all rightI && unlikeB (l.map (·.x))))∧Below w.heap.size w w':=by
 obtain ⟨z,hz⟩ : ∃ z,(l.all rightI && unlikeB (l.map (·.x)))=z:=⟨_,rfl⟩
 rw [hz]
 obtain ⟨g,o,a',c',rfl,c0,c1,c2,c3,_⟩:=h.itemAt h0
 have hpos : 0 < l.length:=(List.getElem?_eq_some_iff.1 h0).1
 have H:=hid h
 obtain ⟨q,hq⟩ : ∃ q,l.length=q:=⟨_,rfl⟩
 have HQ:=hid hq
 have HZ:=hid hz
 have HBD:=hid hbd
 rw [hq] at hpos h6 ⊢
 simp only [Nat.zero_mul,Nat.add_zero] at c0 c1 c2 c3
 have t0 : ((q : Int) == 0)=false:=by rw [beq_eq_false_iff_ne];omega
 have t1 : decide (6 < (q : Int))=false:=decide_eq_false (by omega)
 have t3 : (i.mode == 3)=false:=by rw [beq_eq_false_iff_ne];exact hm
 rw [hno] at c0
 clear h h0 hq hz hbd hno hm
 go_enter Try.func33,Try.ntmps33
 go_wp2
 clear c0 c1 c2 c3 t0 t1 t3
 go_loopw [3,29] (fun v k wr=>∃ j : Nat,k=.int .i64 j∧j≤q∧Hid (∀ i∈l.take j,rightI i=true)∧Hid (OwnP nameD wr w.heap.size 9 v ((l.take j).map (·.x)))∧Hid (Below w.heap.size w wr)) (fun _ k _=>q - (RowKit.intOf k).toNat)
 case atStart=>exact ⟨0,rfl,Nat.zero_le _,fun i hi=>(by simp at hi),⟨[],rfl,World.ownsRow_nil _ _ _ _,fun c hc=>(by cases hc),fun j x hj=>(by simp at hj)⟩,Below.refl _ _⟩
 case round =>
  obtain ⟨j,rfl,hj,HA,HO,HB⟩:=hrel
  obtain ⟨va,vc,rfl⟩:=HO.out.slice
  by_cases hlt : j < q
  ·obtain ⟨y,hy⟩ : ∃ y,l[j]?=some y:=⟨_,List.getElem?_eq_getElem (by rw [HQ.out];exact hlt)⟩
   have hyb:=HBD.out y (List.mem_of_getElem? hy)
   obtain ⟨g',o',a2,c2,e,d0,d1,d2,d3,hr⟩:=(H.out.low HB.out).itemAt hy
   injection e with e
   injection e with e1 e2
   subst e1 e2
   have hba:=(Below.refl wr.heap.size wr).alloc (Nat.le_refl _) (.cells #[.bool y.no,.slice a2 y.ns.length c2,.string (strB y.x),.int .i64 y.mode] 38)
   have HRI:=hid (rightItem_calls y (hr.low hba) hyb.1 hyb.2.1 (strB y.x))
   obtain ⟨m,hm⟩ : ∃ m,y.ns.length=m:=⟨_,rfl⟩
   rw [hm] at d1 HRI hba
   have HBA:=hid (HB.out.alloc HB.out.size (.cells #[.bool y.no,.slice a2 m c2,.string (strB y.x),.int .i64 y.mode] 38))
   have HBA1:=hid hba
   have HY:=hid hy
   obtain ⟨t,ht⟩ : ∃ t,rightI y=t:=⟨_,rfl⟩
   rw [ht] at HRI
   have HT:=hid ht
   obtain ⟨p,hp⟩ : ∃ p,((l.take j).map (·.x)).length=p:=⟨_,rfl⟩
   have HP:=hid hp
   rw [hp] at HO ⊢
   clear hr hba hm hy ht hyb hp
   cases t with
   | false =>
     have hz0 : z=false:=by
      rw [← HZ.out,List.all_eq_false.2 ⟨y,List.mem_of_getElem? HY.out,by rw [HT.out];simp⟩]
      rfl
     subst hz0
     go_wp2_with (go_at_call 55;(with_reducible refine HRI.out.mono ?_);rintro e w1 ⟨rfl,hb1⟩;have HB1:=hid (HBA.out.trans (hb1.mono HBA.out.size));clear hb1)
     go_ret
     exact ⟨rfl,HB1.out⟩
   | true =>
     have HA2 : Hid (∀ i∈l.take (j+1),rightI i=true):=fun i hi=>by
      rw [List.take_add_one,HY.out] at hi
      rcases List.mem_append.1 hi with hi|hi
      ·exact HA.out i hi
      ·obtain rfl : i=y:=by simpa using hi
       exact HT.out
     have HAP : Hid (∀ w1,Below (wr.alloc (.cells #[.bool y.no,.slice a2 m c2,.string (strB y.x),.int .i64 y.mode] 38)).heap.size (wr.alloc (.cells #[.bool y.no,.slice a2 m c2,.string (strB y.x),.int .i64 y.mode] 38)) w1→∃ a9 l9 c9 w9,(Builtin.append_ #[26,26] 26 #[.slice va p vc,.slice (some ⟨w1.heap.size,0,none⟩) 1 1]).run Try.prog (w1.alloc (.cells #[.string (strB y.x)] 9))=.ok (.slice a9 l9 c9) w9∧Hid (OwnP nameD w9 w.heap.size 9 (.slice a9 l9 c9) ((l.take (j+1)).map (·.x)))∧Hid (Below w.heap.size w w9)):=fun w1 hb1=>by
      have hb2 : Below wr.heap.size wr w1:=HBA1.out.trans (hb1.mono HBA1.out.size)
      have hb5:=(Below.refl w1.heap.size w1).alloc (Nat.le_refl _) (.cells #[.string (strB y.x)] 9)
      have o5:=(HO.out.keep (TFr.of_below (K:=fun _=>False) hb2) (fun _ h=>h.elim)).keep (TFr.of_below (K:=fun _=>False) hb5) (fun _ h=>h.elim)
      have hsz:=HB.out.size
      obtain ⟨v9,w9,hr,ho,hg⟩:=OwnP.append (ts:=26) (ty:=26) (x:=y.x) (by kernel_rfl) strI rfl (by decide) (by decide) o5 (by have:=hb2.size;have:=hb5.size;omega) (by rw [List.length_map,List.length_take];omega) (show nameD.P _ _ [.string (strB y.x)] y.x from rfl) (heap_alloc_new w1 _)
      obtain ⟨a9,c9,rfl⟩:=ho.slice
      refine ⟨a9,_,c9,w9,hr,?_,?_⟩
      ·show OwnP _ _ _ _ _ _
       rw [List.take_add_one,HY.out]
       simpa using ho
      ·have hall : Below w.heap.size w (w1.alloc (.cells #[.string (strB y.x)] 9)):=(HB.out.trans (hb2.mono hsz)).trans (hb5.mono (by have:=hb2.size;omega))
       exact hall.grown hg hall.size (fun k hk=>(o5.own k hk).1)
     go_wp2_with (first
      | (go_at_call 55;(with_reducible refine HRI.out.mono ?_);rintro e w1 ⟨rfl,hb1⟩;have e2:=tkeep hb1 (tnew wr #[.bool y.no,.slice a2 m c2,.string (strB y.x),.int .i64 y.mode] 38 2 rfl);obtain ⟨a9,l9,c9,w9,hr9,O9,B9⟩:=HAP.out w1 hb1;clear hb1)
      | (at_builtin;refine Lib.wpList_append_run _ rfl _ _ _ _ rfl _ _ rfl rfl _ _ hr9 ?_;clear hr9))
     go_round
     case rel=>exact ⟨j+1,by go_num,by omega,HA2,O9,B9⟩
     case measure=>simp [RowKit.intOf];omega
  ·have hjq : j=l.length:=by rw [HQ.out];omega
   have hall : l.all rightI=true:=List.all_eq_true.2 (fun i hi=>HA.out i (by rw [hjq,List.take_length];exact hi))
   have hmap : (l.take j).map (·.x)=l.map (·.x):=by rw [hjq,List.take_length]
   rw [hmap] at HO ⊢
   have hz2 : unlikeB (l.map (·.x))=z:=by rw [← HZ.out,hall];rfl
   have hun:=unlike_calls HO.out.row (by rw [List.length_map,HQ.out];omega) (fun b hb=>by
    obtain ⟨i,hi,rfl⟩:=List.mem_map.1 hb
    exact (HBD.out i hi).2.2)
   obtain ⟨p,hp⟩ : ∃ p,(l.map (·.x)).length=p:=⟨_,rfl⟩
   rw [hp,hz2] at hun
   rw [hp]
   have HU:=hid hun
   clear hun hp hz2 hmap hall hjq HO HZ
   go_wp2_with (go_at_call 56;(with_reducible refine HU.out.mono ?_);rintro e w1 ⟨rfl,hb1⟩;have HB1:=hid (HB.out.trans (hb1.mono HB.out.size));clear hb1)
   go_ret
   exact ⟨rfl,HB1.out⟩
theorem rightItems_calls (h : RowK itemD K w (.slice a l.length c) l) (hbd : ∀ i∈l,ItB i) :
 Calls Try.prog 33 #[.slice a l.length c] w fun e w'=>e=.returned (.bool (rightIs l))∧Below w.heap.size w w':=by
 cases h0 : l[0]? with
 | none =>
   have hn : l=[]:=by
    cases l with
    | nil=>rfl
    | cons a r=>simp at h0
   have e:=ritems_bad h (.inl hn)
   subst hn
   exact e
 | some i =>
   by_cases hb : 6 < l.length∨i.no=true∨i.mode=3
   ·rw [rightIs_bad h0 hb]
    exact ritems_bad h (.inr ⟨i,h0,hb⟩)
   ·have h1 : ¬ 6 < l.length:=fun e=>hb (.inl e)
    have h2 : i.no=false:=by
     cases hn : i.no with
     | false=>rfl
     | true=>exact absurd (.inr (.inl hn)) hb
    have h3 : i.mode≠3:=fun e=>hb (.inr (.inr e))
    rw [rightIs_good h0 h1 h2 h3]
    exact ritems_good h h0 h1 h2 h3 hbd
end
end Go.Proofs.Ytefcbgnckgapgaa
namespace Go.Proofs.Ytefcbgnckgapgaa
open Go.RowKit Go.Lib Go.Op
def inkB (c : UInt8) : Bool:=decide (32≤c.toNat∧c.toNat≤126∧c.toNat≠39)
def writeB (v : PVal) : Bool:=v.s.all inkB && rightB v
set_option maxHeartbeats 1000000 in
set_option maxRecDepth 100000 in
theorem writable_calls (k n : Int) (s : List UInt8) (w : World) (hs : s.length≤1000000) : Calls Try.prog 69 #[.agg #[.int .i64 k,.int .i64 n,.string (strB s)]] w fun e w'=>e=.returned (.bool (writeB ⟨k,n,s⟩))∧Below w.heap.size w w':=by
 obtain ⟨z,hz⟩ : ∃ z,writeB ⟨k,n,s⟩=z:=⟨_,rfl⟩
 rw [hz]
 have hb0:=(Below.refl w.heap.size w).alloc (Nat.le_refl _) (.cells #[.int .i64 k,.int .i64 n,.string (strB s)] 47)
 obtain ⟨W,c,hcv,hbW,hcell⟩:=conv_bytes (w.alloc (.cells #[.int .i64 k,.int .i64 n,.string (strB s)] 47)) (strB s)
 have m0:=tkeep hbW (tnew w #[.int .i64 k,.int .i64 n,.string (strB s)] 47 0 rfl)
 have m1:=tkeep hbW (tnew w #[.int .i64 k,.int .i64 n,.string (strB s)] 47 1 rfl)
 have m2:=tkeep hbW (tnew w #[.int .i64 k,.int .i64 n,.string (strB s)] 47 2 rfl)
 have HB:=hid (hb0.trans (hbW.mono hb0.size))
 obtain ⟨q,hq⟩ : ∃ q,(strB s).size=q:=⟨_,rfl⟩
 have hql : q=s.length:=by rw [← hq,strB_size]
 rw [strB_list] at hcell
 simp only [World.size_alloc] at hcell hcv
 have HC:=hid hcell
 have HQ:=hid hql
 have HZ:=hid hz
 rw [hq] at hcv
 have hvr:=vright_calls k n (strB s) W (by rw [strB_size];unfold maxLen;omega)
 have hrv : rightV k n (strB s)=rightB ⟨k,n,s⟩:=by unfold rightV;rw [strB_list]
 rw [hrv] at hvr
 have HVR:=hid hvr
 have hqb : q≤1000000:=by omega
 clear hz hb0 hbW hcell hq hql hvr hrv
 go_enter Try.func69,Try.ntmps69
 go_wp2
 go_loop [9] (fun i=>∃ j : Nat,i=.int .i64 j∧j≤q∧Hid (∀ x∈s.take j,inkB x=true)) (fun i=>q - (RowKit.intOf i).toNat)
 case atStart=>exact ⟨0,rfl,Nat.zero_le _,fun x hx=>by simp at hx⟩
 case round =>
  obtain ⟨j,rfl,hj,HK⟩:=hrel
  by_cases hlt : j < q
  ·obtain ⟨x,hx⟩ : ∃ x,s[j]?=some x:=⟨_,List.getElem?_eq_getElem (by rw [← HQ.out];exact hlt)⟩
   have hcx:=HC.out j x hx
   have Hx:=hid hx
   have hx8:=x.toNat_lt
   have hstep:=fun hch : inkB x=true=>(fun y hy=>by
    rw [List.take_add_one,Hx.out] at hy
    rcases List.mem_append.1 hy with hy|hy
    ·exact HK.out y hy
    ·obtain rfl : y=x:=by simpa using hy
     exact hch : ∀ y∈s.take (j+1),inkB y=true)
   have hfail:=fun hch : inkB x=false=>(show z=false by
    rw [← HZ.out]
    unfold writeB
    rw [show s.all inkB=false from List.all_eq_false.2 ⟨x,List.mem_of_getElem? Hx.out,by simp [hch]⟩]
    rfl)
   unfold inkB at hstep hfail
   clear hx
   generalize x.toNat=n at *
   by_cases a1 : n < 32
   ·have hz0:=hfail (by simp;omega)
    subst hz0
    have t1 : decide (n < 32)=true:=decide_eq_true a1
    clear hstep hfail
    go_wp2
    go_ret
    exact ⟨rfl,HB.out⟩
   have t1 : decide ((n : Int) < 32)=false:=decide_eq_false (by omega)
   by_cases a2 : 126 < n
   ·have hz0:=hfail (by simp;omega)
    subst hz0
    have t2 : decide (126 < n)=true:=decide_eq_true a2
    clear hstep hfail
    go_wp2
    go_ret
    exact ⟨rfl,HB.out⟩
   have t2 : decide (126 < (n : Int))=false:=decide_eq_false (by omega)
   by_cases a3 : n=39
   ·have hz0:=hfail (by simp [a3])
    subst hz0
    subst a3
    clear hstep hfail
    go_wp2
    go_ret
    exact ⟨rfl,HB.out⟩
   have t3 : ((n : Int) == 39)=false:=by rw [beq_eq_false_iff_ne];omega
   have HS:=hid (hstep (by simp;omega))
   clear hstep hfail
   go_wp2
   go_round
   case rel=>exact ⟨j+1,by go_num,by omega,HS⟩
   case measure=>simp [RowKit.intOf];omega
  ·have hall : s.all inkB=true:=List.all_eq_true.2 (fun x hx=>HK.out x (by rw [show j=s.length by rw [← HQ.out];omega,List.take_length];exact hx))
   have hz2 : rightB ⟨k,n,s⟩=z:=by rw [← HZ.out];unfold writeB;rw [hall];rfl
   rw [hz2] at HVR
   clear hall hz2 HZ
   go_wp2_with (go_at_call 73;(with_reducible refine HVR.out.mono ?_);rintro e w1 ⟨rfl,rfl⟩)
   go_ret
   exact ⟨rfl,HB.out.alloc HB.out.size _⟩
section
variable {w : World} {a : Option Addr} {c n : Nat} {vs x f : List UInt8} {vk vn : Int}
set_option maxHeartbeats 1000000 in
set_option maxRecDepth 100000 in
theorem bare_val : Calls Try.prog 68 #[.agg #[.int .i64 1,.int .i64 vk,.int .i64 vn,.string (strB vs),.string (strB x),.string (strB f),.slice a n c]] w fun e w'=>e=.returned (.bool (decide (x=[]∧f=[]∧n=0)))∧Below w.heap.size w w':=by
 go_enter Try.func68,Try.ntmps68
 go_wp2
 all_goals
  go_ret
  exact ⟨tbool (by simp_all [tB_list] <;> omega),((Below.refl w.heap.size w).alloc (Nat.le_refl _) _).alloc (by simp) _⟩
set_option maxHeartbeats 1000000 in
set_option maxRecDepth 100000 in
theorem bare_count : Calls Try.prog 68 #[.agg #[.int .i64 3,.int .i64 vk,.int .i64 vn,.string (strB vs),.string (strB x),.string (strB f),.slice a n c]] w fun e w'=>e=.returned (.bool (decide ((⟨vk,vn,vs⟩ : PVal)=noV∧f=[]∧n=0)))∧Below w.heap.size w w':=by
 go_enter Try.func68,Try.ntmps68
 go_wp2
 all_goals
  go_ret
  exact ⟨tbool (by simp_all [tB_list,noV] <;> omega),((Below.refl w.heap.size w).alloc (Nat.le_refl _) _).alloc (by simp) _⟩
set_option maxHeartbeats 1000000 in
set_option maxRecDepth 100000 in
theorem bare_field : Calls Try.prog 68 #[.agg #[.int .i64 2,.int .i64 vk,.int .i64 vn,.string (strB vs),.string (strB x),.string (strB f),.slice a n c]] w fun e w'=>e=.returned (.bool (decide ((⟨vk,vn,vs⟩ : PVal)=noV∧n=0)))∧Below w.heap.size w w':=by
 go_enter Try.func68,Try.ntmps68
 go_wp2
 all_goals
  go_ret
  exact ⟨tbool (by simp_all [tB_list,noV] <;> omega),((Below.refl w.heap.size w).alloc (Nat.le_refl _) _).alloc (by simp) _⟩
set_option maxHeartbeats 1000000 in
set_option maxRecDepth 100000 in
theorem bare_sum : Calls Try.prog 68 #[.agg #[.int .i64 4,.int .i64 vk,.int .i64 vn,.string (strB vs),.string (strB x),.string (strB f),.slice a n c]] w fun e w'=>e=.returned (.bool (decide ((⟨vk,vn,vs⟩ : PVal)=noV∧n=0)))∧Below w.heap.size w w':=by
 go_enter Try.func68,Try.ntmps68
 go_wp2
 all_goals
  go_ret
  exact ⟨tbool (by simp_all [tB_list,noV] <;> omega),((Below.refl w.heap.size w).alloc (Nat.le_refl _) _).alloc (by simp) _⟩
set_option maxHeartbeats 1000000 in
set_option maxRecDepth 100000 in
theorem bare_min : Calls Try.prog 68 #[.agg #[.int .i64 5,.int .i64 vk,.int .i64 vn,.string (strB vs),.string (strB x),.string (strB f),.slice a n c]] w fun e w'=>e=.returned (.bool (decide ((⟨vk,vn,vs⟩ : PVal)=noV∧n=0)))∧Below w.heap.size w w':=by
 go_enter Try.func68,Try.ntmps68
 go_wp2
 all_goals
  go_ret
  exact ⟨tbool (by simp_all [tB_list,noV] <;> omega),((Below.refl w.heap.size w).alloc (Nat.le_refl _) _).alloc (by simp) _⟩
set_option maxHeartbeats 1000000 in
set_option maxRecDepth 100000 in
theorem bare_max : Calls Try.prog 68 #[.agg #[.int .i64 6,.int .i64 vk,.int .i64 vn,.string (strB vs),.string (strB x),.string (strB f),.slice a n c]] w fun e w'=>e=.returned (.bool (decide ((⟨vk,vn,vs⟩ : PVal)=noV∧n=0)))∧Below w.heap.size w w':=by
 go_enter Try.func68,Try.ntmps68
 go_wp2
 all_goals
  go_ret
  exact ⟨tbool (by simp_all [tB_list,noV] <;> omega),((Below.refl w.heap.size w).alloc (Nat.le_refl _) _).alloc (by simp) _⟩
set_option maxHeartbeats 1000000 in
set_option maxRecDepth 100000 in
theorem bare_add : Calls Try.prog 68 #[.agg #[.int .i64 7,.int .i64 vk,.int .i64 vn,.string (strB vs),.string (strB x),.string (strB f),.slice a n c]] w fun e w'=>e=.returned (.bool (decide ((⟨vk,vn,vs⟩ : PVal)=noV∧x=[]∧f=[]∧n=2)))∧Below w.heap.size w w':=by
 go_enter Try.func68,Try.ntmps68
 go_wp2
 all_goals
  go_ret
  exact ⟨tbool (by simp_all [tB_list,noV] <;> omega),((Below.refl w.heap.size w).alloc (Nat.le_refl _) _).alloc (by simp) _⟩
set_option maxHeartbeats 1000000 in
set_option maxRecDepth 100000 in
theorem bare_sub : Calls Try.prog 68 #[.agg #[.int .i64 8,.int .i64 vk,.int .i64 vn,.string (strB vs),.string (strB x),.string (strB f),.slice a n c]] w fun e w'=>e=.returned (.bool (decide ((⟨vk,vn,vs⟩ : PVal)=noV∧x=[]∧f=[]∧n=2)))∧Below w.heap.size w w':=by
 go_enter Try.func68,Try.ntmps68
 go_wp2
 all_goals
  go_ret
  exact ⟨tbool (by simp_all [tB_list,noV] <;> omega),((Below.refl w.heap.size w).alloc (Nat.le_refl _) _).alloc (by simp) _⟩
set_option maxHeartbeats 1000000 in
set_option maxRecDepth 100000 in
theorem bare_none {k : Int} (h1 : k≠1) (h2 : k≠2) (h3 : k≠3) (h4 : k≠4) (h5 : k≠5) (h6 : k≠6) (h7 : k≠7) (h8 : k≠8) : Calls Try.prog 68 #[.agg #[.int .i64 k,.int .i64 vk,.int .i64 vn,.string (strB vs),.string (strB x),.string (strB f),.slice a n c]] w fun e w'=>e=.returned (.bool (false))∧Below w.heap.size w w':=by
 have t1 : (k == 1)=false:=by rw [beq_eq_false_iff_ne];exact h1
 have t2 : (k == 2)=false:=by rw [beq_eq_false_iff_ne];exact h2
 have t3 : (k == 3)=false:=by rw [beq_eq_false_iff_ne];exact h3
 have t4 : (k == 4)=false:=by rw [beq_eq_false_iff_ne];exact h4
 have t5 : (k == 5)=false:=by rw [beq_eq_false_iff_ne];exact h5
 have t6 : (k == 6)=false:=by rw [beq_eq_false_iff_ne];exact h6
 have t7 : (k == 7)=false:=by rw [beq_eq_false_iff_ne];exact h7
 have t8 : (k == 8)=false:=by rw [beq_eq_false_iff_ne];exact h8
 clear h1 h2 h3 h4 h5 h6 h7 h8
 go_enter Try.func68,Try.ntmps68
 go_wp2
 all_goals
  go_ret
  exact ⟨tbool (by rfl),((Below.refl w.heap.size w).alloc (Nat.le_refl _) _).alloc (by simp) _⟩
end
end Go.Proofs.Ytefcbgnckgapgaa
