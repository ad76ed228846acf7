/- States: the live question of the layer's statements. | The statement NfaPlain: its walk. | The statement NfaNots: its walk. -/
import Derived.Test.YtefcbgnckgapgaaM3
import Derived.Test.YtefcbgnckgapgaaM5
import Derived.Test.YtefcbgnckgapgaaM7
import Derived.Test.YtefcbgnckgapgaaMH
namespace Go.Proofs.Ytefcbgnckgapgaa
open Go.RowKit Go.Lib Go.Op
theorem row_blk1 {α : Type} {D : RowD α} (hk : D.k=1) {K : Nat→Prop} {W : World} (enc : α→Value) (hP : ∀ x,D.P K W [enc x] x) {g : Nat} {t : TypeId} {l : List α} (h : Blk W g (l.map enc).toArray t) (hg : ¬ K g) : RowK D K W (.slice (some ⟨g,0,none⟩) l.length l.length) l:=by
 refine ⟨_,_,rfl,Nat.le_refl _,fun j x hj=>⟨g,0,[enc x],rfl,hg,hP x,fun r u hu=>?_⟩⟩
 match r,hu with
 | 0,hu =>
   obtain rfl : enc x=u:=by simpa using hu
   rw [hk]
   refine tcell h ?_
   simp [hj]
 | r+1,hu=>simp at hu
theorem names_blk {K : Nat→Prop} {W : World} {g : Nat} {l : List (List UInt8)} (h : Blk W g (l.map fun b=>Value.string (strB b)).toArray 9) (hg : ¬ K g) : RowK nameD K W (.slice (some ⟨g,0,none⟩) l.length l.length) l :=
 row_blk1 rfl (fun b=>Value.string (strB b)) (fun _=>rfl) h hg
theorem nums_blk {K : Nat→Prop} {W : World} {g : Nat} {l : List Nat} (h : Blk W g (l.map (fun (n : Nat)=>Value.int .i64 (n : Int))).toArray 3) (hg : ¬ K g) : RowK numD K W (.slice (some ⟨g,0,none⟩) l.length l.length) l :=
 row_blk1 rfl (fun (n : Nat)=>Value.int .i64 (n : Int)) (fun _=>rfl) h hg
def hNT : List UInt8:=[115,101,113,32,97,32,112,43,32,116,104,101,110,32,110,111,116,32,98,32,110,32,116,104,101,110,32,99,32,114,63,32,116,104,101,110,32,100,32,115,32,119,105,116,104,105,110,32,53]
def hNQ : PQu:=⟨[⟨false,[[97]],[112],2⟩,⟨true,[[98]],[110],1⟩,⟨false,[[99]],[114],3⟩,⟨false,[[100]],[115],1⟩],[],5,[],1⟩
theorem hNT_is : parseI hNT=(hNQ,0,0):=by kernel_rfl
theorem hNQ_right : rightQ hNQ=true:=by kernel_rfl
theorem hNQ_b : QuB hNQ:=by
 have h:=parse_bd hNT (by decide)
 rw [hNT_is] at h
 exact h
theorem hNQ_1 : accQ hNQ.its [[97],[97],[99],[100]]=true:=by decide
theorem hNQ_2 : accQ hNQ.its [[97],[100]]=true:=by decide
theorem hNQ_3 : accQ hNQ.its [[97],[99]]=false:=by decide
theorem hNQ_4 : accQ hNQ.its []=false:=by decide
theorem hNQ_s1 : (stsN hNQ.its)[1]?=some ⟨[0,2,3],[1],false⟩:=by rfl
theorem hNQ_s4 : (stsN hNQ.its)[4]?=some ⟨[],[],true⟩:=by rfl
set_option maxHeartbeats 4000000 in
set_option maxRecDepth 100000 in
theorem nhead_calls {w : World} : Calls Try.prog 9 #[] w fun e w'=>e=.returned (.bool true)∧Below w.heap.size w w':=by
 obtain ⟨p,hp⟩ : ∃ p,hNQ=p:=⟨_,rfl⟩
 have HR1 : Hid (∀ (s : ByteArray),s.data.toList=hNT→Calls Try.prog 19 #[.string s] w (PaTo (p,0,0) w)):=fun s hs=>by
  have h:=rparse_calls right_said (w:=w) hNT (by decide)
  rw [hNT_is,hp] at h
  rw [← strB_eq' s,hs]
  exact h
 have HP:=hid hp
 clear hp
 go_enter Try.func9,Try.ntmps9
 go_wp2_with fail
 refine (HR1.out _ (by kernel_rfl)).mono ?_
 rintro e w1 ⟨a,q,c,b,r,d,rfl,hq,hb1⟩
 dsimp only at hq
 obtain rfl:=hq.1.len
 obtain rfl:=hq.2.len
 have hba:=(Below.refl w1.heap.size w1).alloc (Nat.le_refl _) (.cells #[.slice a p.its.length c,.slice b p.prs.length d,.int .i64 p.within,.string (strB p.by_),.int .i64 p.pick] 25)
 have HB1:=hid hb1
 have HBA:=hid hba
 have HQ : Hid (QuAt (fun _=>False) w1 a p.its.length c b p.prs.length d p):=⟨hq.1.mono (fun _ h=>h.elim),hq.2.mono (fun _ h=>h.elim)⟩
 have HX:=hid (Blk.new w1 #[.slice a p.its.length c,.slice b p.prs.length d,.int .i64 p.within,.string (strB p.by_),.int .i64 p.pick] 25)
 have HQB : Hid (QuB p):=by rw [← HP.out];exact hNQ_b
 have HRT : Hid (rightQ p=true):=by rw [← HP.out];exact hNQ_right
 have HC:=hid (ncompile_calls (w:=w1.alloc (.cells #[.slice a p.its.length c,.slice b p.prs.length d,.int .i64 p.within,.string (strB p.by_),.int .i64 p.pick] 25)) ⟨HQ.out.1.low hba,HQ.out.2.low hba⟩ HQB.out)
 clear hq hb1 hba HR1
 go_wp2_with fail
 with_reducible refine HC.out.mono ?_
 rintro e w2 ⟨v,rfl,hrow,hb2⟩
 rw [HRT.out,if_pos rfl] at hrow
 obtain ⟨va,vc,rfl⟩:=hrow.slice
 have hlen : (stsN p.its).length=5:=by rw [← HP.out];rfl
 rw [hlen] at hrow ⊢
 obtain ⟨gs,os,a1,c1,a2,c2,rfl,g0,g1,g2,r1,r2⟩:=hrow.stateAt (show (stsN p.its)[1]?=some ⟨[0,2,3],[1],false⟩ by rw [← HP.out];exact hNQ_s1)
 obtain ⟨gs',os',a3,c3,a4,c4,eg,h0,h1,h2,_,_⟩:=hrow.stateAt (show (stsN p.its)[4]?=some ⟨[],[],true⟩ by rw [← HP.out];exact hNQ_s4)
 injection eg with eg
 injection eg with eg1 eg2
 subst eg1 eg2
 dsimp only [Nat.one_mul,List.length_cons,List.length_nil,Nat.zero_add,Nat.reduceAdd,Nat.reduceMul] at g0 g1 g2 h0 h2 r1 r2
 have hx2:=HX.out.low hb2
 have m0:=tcell hx2 (k:=0) rfl
 have m1:=tcell hx2 (k:=1) rfl
 have m2:=tcell hx2 (k:=2) rfl
 have m3:=tcell hx2 (k:=3) rfl
 have m4:=tcell hx2 (k:=4) rfl
 have HB12:=hid (HBA.out.trans (hb2.mono HBA.out.size))
 have R1:=hid (r1.mono (K':=fun _=>False) (fun _ h=>h.elim))
 have R2:=hid (r2.mono (K':=fun _=>False) (fun _ h=>h.elim))
 have HB20 : Hid (Below w2.heap.size w2 w2):=Below.refl _ _
 have HW2:=hid (HB1.out.trans (HB12.out.mono HB1.out.size))
 have hal:=fun (W : World) (o : Obj)=>(Below.refl W.heap.size W).alloc (Nat.le_refl _) o
 have H0 : Hid (∀ W,Below w2.heap.size w2 W→Calls Try.prog 20 #[.slice a1 3 c1,.slice (some ⟨W.heap.size,0,none⟩) 3 3] (W.alloc (.cells #[.int .i64 0,.int .i64 2,.int .i64 3] 3)) fun e w'=>e=.returned (.bool true)∧Below W.heap.size W w'):=fun W hW=>(nrsameInts_calls (K:=fun _=>False) (l:=[0,2,3]) ((R1.out.low hW).low (hal W _)) (nums_blk (l:=[0,2,3]) (Blk.new W _ 3) id) (by decide)).mono (fun e w' ⟨h1,h2⟩=>⟨h1,(hal W _).trans (h2.mono (hal W (.cells #[.int .i64 0,.int .i64 2,.int .i64 3] 3)).size)⟩)
 have H1 : Hid (∀ W,Below w2.heap.size w2 W→Calls Try.prog 20 #[.slice a2 1 c2,.slice (some ⟨W.heap.size,0,none⟩) 1 1] (W.alloc (.cells #[.int .i64 1] 3)) fun e w'=>e=.returned (.bool true)∧Below W.heap.size W w'):=fun W hW=>(nrsameInts_calls (K:=fun _=>False) (l:=[1]) ((R2.out.low hW).low (hal W _)) (nums_blk (l:=[1]) (Blk.new W _ 3) id) (by decide)).mono (fun e w' ⟨h1,h2⟩=>⟨h1,(hal W _).trans (h2.mono (hal W (.cells #[.int .i64 1] 3)).size)⟩)
 have H2 : Hid (∀ W,Below w2.heap.size w2 W→Calls Try.prog 15 #[.agg #[.slice a p.its.length c,.slice b p.prs.length d,.int .i64 p.within,.string (strB p.by_),.int .i64 p.pick],.slice (some ⟨W.heap.size,0,none⟩) 4 4] (W.alloc (.cells #[.string ⟨#[97]⟩,.string ⟨#[97]⟩,.string ⟨#[99]⟩,.string ⟨#[100]⟩] 9)) fun e w'=>e=.returned (.bool true)∧Below W.heap.size W w'):=fun W hW=>by
  have hbw:=HB12.out.trans (hW.mono HB12.out.size)
  have hbx:=hbw.trans ((hal W (.cells #[.string ⟨#[97]⟩,.string ⟨#[97]⟩,.string ⟨#[99]⟩,.string ⟨#[100]⟩] 9)).mono hbw.size)
  have h:=naccepts_calls (w:=W.alloc (.cells #[.string ⟨#[97]⟩,.string ⟨#[97]⟩,.string ⟨#[99]⟩,.string ⟨#[100]⟩] 9)) (K:=fun _=>False) (names:=[[97],[97],[99],[100]]) ⟨HQ.out.1.low hbx,HQ.out.2.low hbx⟩ HQB.out (names_blk (l:=[[97],[97],[99],[100]]) (Blk.new W _ 9) id) (by decide)
  rw [HRT.out,Bool.true_and,show accQ p.its [[97],[97],[99],[100]]=true by rw [← HP.out];exact hNQ_1] at h
  exact h.mono (fun e w' ⟨h1,h2⟩=>⟨h1,(hal W _).trans (h2.mono (hal W (.cells #[.string ⟨#[97]⟩,.string ⟨#[97]⟩,.string ⟨#[99]⟩,.string ⟨#[100]⟩] 9)).size)⟩)
 have H3 : Hid (∀ W,Below w2.heap.size w2 W→Calls Try.prog 15 #[.agg #[.slice a p.its.length c,.slice b p.prs.length d,.int .i64 p.within,.string (strB p.by_),.int .i64 p.pick],.slice (some ⟨W.heap.size,0,none⟩) 2 2] (W.alloc (.cells #[.string ⟨#[97]⟩,.string ⟨#[100]⟩] 9)) fun e w'=>e=.returned (.bool true)∧Below W.heap.size W w'):=fun W hW=>by
  have hbw:=HB12.out.trans (hW.mono HB12.out.size)
  have hbx:=hbw.trans ((hal W (.cells #[.string ⟨#[97]⟩,.string ⟨#[100]⟩] 9)).mono hbw.size)
  have h:=naccepts_calls (w:=W.alloc (.cells #[.string ⟨#[97]⟩,.string ⟨#[100]⟩] 9)) (K:=fun _=>False) (names:=[[97],[100]]) ⟨HQ.out.1.low hbx,HQ.out.2.low hbx⟩ HQB.out (names_blk (l:=[[97],[100]]) (Blk.new W _ 9) id) (by decide)
  rw [HRT.out,Bool.true_and,show accQ p.its [[97],[100]]=true by rw [← HP.out];exact hNQ_2] at h
  exact h.mono (fun e w' ⟨h1,h2⟩=>⟨h1,(hal W _).trans (h2.mono (hal W (.cells #[.string ⟨#[97]⟩,.string ⟨#[100]⟩] 9)).size)⟩)
 have H4 : Hid (∀ W,Below w2.heap.size w2 W→Calls Try.prog 15 #[.agg #[.slice a p.its.length c,.slice b p.prs.length d,.int .i64 p.within,.string (strB p.by_),.int .i64 p.pick],.slice (some ⟨W.heap.size,0,none⟩) 2 2] (W.alloc (.cells #[.string ⟨#[97]⟩,.string ⟨#[99]⟩] 9)) fun e w'=>e=.returned (.bool false)∧Below W.heap.size W w'):=fun W hW=>by
  have hbw:=HB12.out.trans (hW.mono HB12.out.size)
  have hbx:=hbw.trans ((hal W (.cells #[.string ⟨#[97]⟩,.string ⟨#[99]⟩] 9)).mono hbw.size)
  have h:=naccepts_calls (w:=W.alloc (.cells #[.string ⟨#[97]⟩,.string ⟨#[99]⟩] 9)) (K:=fun _=>False) (names:=[[97],[99]]) ⟨HQ.out.1.low hbx,HQ.out.2.low hbx⟩ HQB.out (names_blk (l:=[[97],[99]]) (Blk.new W _ 9) id) (by decide)
  rw [HRT.out,Bool.true_and,show accQ p.its [[97],[99]]=false by rw [← HP.out];exact hNQ_3] at h
  exact h.mono (fun e w' ⟨h1,h2⟩=>⟨h1,(hal W _).trans (h2.mono (hal W (.cells #[.string ⟨#[97]⟩,.string ⟨#[99]⟩] 9)).size)⟩)
 have H5 : Hid (∀ W,Below w2.heap.size w2 W→Calls Try.prog 15 #[.agg #[.slice a p.its.length c,.slice b p.prs.length d,.int .i64 p.within,.string (strB p.by_),.int .i64 p.pick],.slice none 0 0] W fun e w'=>e=.returned (.bool false)∧Below W.heap.size W w'):=fun W hW=>by
  have hbw:=HB12.out.trans (hW.mono HB12.out.size)
  have h:=naccepts_calls (w:=W) (K:=fun _=>False) (names:=[]) (a2:=Option.none) (c2:=0) ⟨HQ.out.1.low hbw,HQ.out.2.low hbw⟩ HQB.out (RowK.nil _ _ _) (by decide)
  rw [HRT.out,Bool.true_and,show accQ p.its []=false by rw [← HP.out];exact hNQ_4] at h
  exact h
 have H6 : Hid (∀ W,Calls Try.prog 13 #[.agg #[.slice none 0 0,.slice none 0 0,.int .i64 0,.string ⟨#[]⟩,.int .i64 0]] W fun e w'=>(∃ va vc,e=.returned (.slice va 0 vc))∧Below W.heap.size W w'):=fun W=>by
  have h:=ncompile_calls (w:=W) (K:=fun _=>False) (p:=noQ) (a:=Option.none) (b:=Option.none) (q:=0) (c:=0) (r:=0) (d:=0) ⟨RowK.nil _ _ _,RowK.nil _ _ _⟩ ⟨fun i hi=>(by cases hi),fun p hp=>(by cases hp),Nat.zero_le _⟩
  refine h.mono ?_
  rintro e w' ⟨v,rfl,hr,hb⟩
  obtain ⟨x1,x2,rfl⟩:=hr.slice
  exact ⟨⟨x1,x2,rfl⟩,hb⟩
 clear hrow hb2 hlen r1 r2 h1 hx2 HC hal
 go_wp2_with (first
  | (go_at_call 20;(with_reducible refine (H0.out _ HB20.out).mono ?_);rintro e w3 ⟨rfl,hb⟩;replace g0:=tkeep hb g0;replace g1:=tkeep hb g1;replace g2:=tkeep hb g2;replace h0:=tkeep hb h0;replace h2:=tkeep hb h2;replace m0:=tkeep hb m0;replace m1:=tkeep hb m1;replace m2:=tkeep hb m2;replace m3:=tkeep hb m3;replace m4:=tkeep hb m4;have HB21:=hid (HB20.out.trans (hb.mono HB20.out.size));clear hb H0)
  | (go_at_call 20;(with_reducible refine (H1.out _ HB21.out).mono ?_);rintro e w4 ⟨rfl,hb⟩;replace g0:=tkeep hb g0;replace g1:=tkeep hb g1;replace g2:=tkeep hb g2;replace h0:=tkeep hb h0;replace h2:=tkeep hb h2;replace m0:=tkeep hb m0;replace m1:=tkeep hb m1;replace m2:=tkeep hb m2;replace m3:=tkeep hb m3;replace m4:=tkeep hb m4;have HB22:=hid (HB21.out.trans (hb.mono HB21.out.size));clear hb H1)
  | (go_at_call 15;(with_reducible refine (H2.out _ HB22.out).mono ?_);rintro e w5 ⟨rfl,hb⟩;replace g0:=tkeep hb g0;replace g1:=tkeep hb g1;replace g2:=tkeep hb g2;replace h0:=tkeep hb h0;replace h2:=tkeep hb h2;replace m0:=tkeep hb m0;replace m1:=tkeep hb m1;replace m2:=tkeep hb m2;replace m3:=tkeep hb m3;replace m4:=tkeep hb m4;have HB23:=hid (HB22.out.trans (hb.mono HB22.out.size));clear hb H2)
  | (go_at_call 15;(with_reducible refine (H3.out _ HB23.out).mono ?_);rintro e w6 ⟨rfl,hb⟩;replace g0:=tkeep hb g0;replace g1:=tkeep hb g1;replace g2:=tkeep hb g2;replace h0:=tkeep hb h0;replace h2:=tkeep hb h2;replace m0:=tkeep hb m0;replace m1:=tkeep hb m1;replace m2:=tkeep hb m2;replace m3:=tkeep hb m3;replace m4:=tkeep hb m4;have HB24:=hid (HB23.out.trans (hb.mono HB23.out.size));clear hb H3)
  | (go_at_call 15;(with_reducible refine (H4.out _ HB24.out).mono ?_);rintro e w7 ⟨rfl,hb⟩;replace g0:=tkeep hb g0;replace g1:=tkeep hb g1;replace g2:=tkeep hb g2;replace h0:=tkeep hb h0;replace h2:=tkeep hb h2;replace m0:=tkeep hb m0;replace m1:=tkeep hb m1;replace m2:=tkeep hb m2;replace m3:=tkeep hb m3;replace m4:=tkeep hb m4;have HB25:=hid (HB24.out.trans (hb.mono HB24.out.size));clear hb H4)
  | (go_at_call 15;(with_reducible refine (H5.out _ HB25.out).mono ?_);rintro e w8 ⟨rfl,hb⟩;replace g0:=tkeep hb g0;replace g1:=tkeep hb g1;replace g2:=tkeep hb g2;replace h0:=tkeep hb h0;replace h2:=tkeep hb h2;replace m0:=tkeep hb m0;replace m1:=tkeep hb m1;replace m2:=tkeep hb m2;replace m3:=tkeep hb m3;replace m4:=tkeep hb m4;have HB26:=hid (HB25.out.trans (hb.mono HB25.out.size));clear hb H5)
  | (go_at_call 13;(with_reducible refine (H6.out _).mono ?_);rintro e w9 ⟨⟨x1,x2,rfl⟩,hb⟩;have HB27:=hid (HB26.out.trans (hb.mono HB26.out.size));clear hb H6))
 go_ret
 exact ⟨rfl,HW2.out.trans (HB27.out.mono HW2.out.size)⟩
end Go.Proofs.Ytefcbgnckgapgaa
namespace Go.Proofs.Ytefcbgnckgapgaa
open Go.RowKit Go.Lib Go.Op
section
variable {P : Program} {ops : Array Oper} {Q : Exit→Act→World→Prop} {md : Region.Mode} {S : World→Prop}
theorem passH (i d : Nat) {fuel : Nat} {listed : Array Bool} {a : Act} {w : World} (hs : Region.noSelect ops=true) (hf : Region.free md ops listed i=true)
 (hr : (Region.ready md ops listed).contains i=true) (hd : (ops[i]?).map (·.dst)=some (some d)) (hw : ((ops[i]?).map fun o=>Region.wanted o (yielded ops a.tmps))=some false)
 (hQ : ∀ c a w,Q (.panic c) (a.put (some d) undef) w→Q (.panic c) a w) (hS : S w)
 (h : wpAnyH P md ops Q S fuel (listed.setIfInBounds i true) (a.put (some d) undef) w) : wpAnyH P md ops Q S (fuel+1) listed a w:=by
 cases ho : ops[i]? with
 | none=>rw [ho] at hd;cases hd
 | some o =>
   rw [ho] at hd hw
   simp only [Option.map_some,Option.some.injEq] at hd hw
   refine wpAnyH_take ho hs hf hr ?_ (Or.inr ⟨hw,rfl⟩) hS ?_
   ·rw [hd];exact hQ
   ·rw [hd];exact h
end
def FitTo (names : List (List UInt8)) (l : List PIt) (j : Nat) : Prop:=names.length=l.length∧∀ (i : Nat) (x : PIt),i < j→l[i]?=some x→∃ nm : List UInt8,names[i]?=some nm∧nm∈x.ns
theorem FitTo.low {names : List (List UInt8)} {l : List PIt} {j : Nat} (h : FitTo names l (j+1)) : FitTo names l j:=⟨h.1,fun i x hi hx=>h.2 i x (by omega) hx⟩
theorem FitTo.next {names : List (List UInt8)} {l : List PIt} {j : Nat} (h : FitTo names l j) {y : PIt} {u : List UInt8} (hy : l[j]?=some y) (hu : names[j]?=some u) (hm : u∈y.ns) : FitTo names l (j+1):=⟨h.1,fun i x hi hx=>by
 by_cases e : i=j
 ·subst e
  rw [hy] at hx
  cases hx
  exact ⟨u,hu,hm⟩
 ·exact h.2 i x (by omega) hx⟩
theorem FitTo.at_ {names : List (List UInt8)} {l : List PIt} {j : Nat} (h : FitTo names l (j+1)) {y : PIt} {u : List UInt8} (hy : l[j]?=some y) (hu : names[j]?=some u) : u∈y.ns:=by
 obtain ⟨nm,h1,h2⟩:=h.2 j y (by omega) hy
 rw [hu] at h1
 cases h1
 exact h2
theorem fitTo_all {names : List (List UInt8)} {l : List PIt} : FitTo names l l.length ↔ fitsN l names=true:=by
 rw [fitsN_iff]
 exact ⟨fun h=>⟨h.1,fun i x hx=>h.2 i x (List.getElem?_eq_some_iff.1 hx).1 hx⟩,fun h=>⟨h.1,fun i x _ hx=>h.2 i x hx⟩⟩
set_option maxHeartbeats 8000000 in
set_option maxRecDepth 100000 in
theorem nplain_walk (w : World) {a b : Option Addr} {q c r e : Nat} {p : PQu} (h : QuAt (fun _=>False) w a q c b r e p) (hl : QLn p) {a2 : Option Addr} {c2 : Nat} {names : List (List UInt8)} (hn : RowK nameD (fun _=>False) w (.slice a2 names.length c2) names) (hnl : names.length≤140737488355328) (hnb : ∀ x∈names,x.length≤maxLen) :
 Calls Try.prog 5 #[.agg #[.slice a q c,.slice b r e,.int .i64 p.within,.string (strB p.by_),.int .i64 p.pick],.slice a2 names.length c2] w fun e w'=>e=.returned (.bool true)∧Below w.heap.size w w':=by
 have hb0:=(Below.refl w.heap.size w).alloc (Nat.le_refl _) (.cells #[.slice a q c,.slice b r e,.int .i64 p.within,.string (strB p.by_),.int .i64 p.pick] 25)
 have HX:=hid (Blk.new w #[.slice a q c,.slice b r e,.int .i64 p.within,.string (strB p.by_),.int .i64 p.pick] 25)
 have HB0:=hid hb0
 have HQ:=hid h
 have HL:=hid hl
 have HN:=hid hn
 have HNB:=hid hnb
 obtain ⟨nl,hnlq⟩ : ∃ nl,names.length=nl:=⟨_,rfl⟩
 have HNL:=hid hnlq
 have HN2:=hid hnl
 rw [hnlq] at hnl ⊢
 clear hn hnb hnlq
 have HH:=hid (nhead_calls (w:=w.alloc (.cells #[.slice a q c,.slice b r e,.int .i64 p.within,.string (strB p.by_),.int .i64 p.pick] 25)))
 clear h hl hb0
 go_enter Try.func5,Try.ntmps5
 go_wp2_with fail
 with_reducible refine HH.out.mono ?_
 rintro e1 w1 ⟨rfl,hb1⟩
 have HB1:=hid (HB0.out.trans (hb1.mono HB0.out.size))
 have X1:=hid (HX.out.low hb1)
 have x0:=tcell X1.out (k:=0) rfl
 have x1:=tcell X1.out (k:=1) rfl
 have x2:=tcell X1.out (k:=2) rfl
 have x3:=tcell X1.out (k:=3) rfl
 have x4:=tcell X1.out (k:=4) rfl
 have HG:=hid (great_calls (w:=w1) ⟨HQ.out.1.low HB1.out,HQ.out.2.low HB1.out⟩ HL.out)
 clear hb1 HH HX HB0
 go_wp2_with fail
 with_reducible refine HG.out.mono ?_
 rintro e2 w2 ⟨g,rfl,hsm,hb2⟩
 have HB2:=hid (HB1.out.trans (hb2.mono HB1.out.size))
 have X2:=hid (X1.out.low hb2)
 clear hb2 HG X1 HB1 x0 x1 x2 x3 x4
 cases g with
 | true =>
   clear hsm
   go_wp2
   go_ret
   exact ⟨rfl,HB2.out⟩
 | false =>
 have HS:=hid (hsm rfl)
 clear hsm
 have x0:=tcell X2.out (k:=0) rfl
 have x1:=tcell X2.out (k:=1) rfl
 have x2:=tcell X2.out (k:=2) rfl
 have x3:=tcell X2.out (k:=3) rfl
 have x4:=tcell X2.out (k:=4) rfl
 have hgn:=ngreat_calls (w:=w2) (HN.out.low HB2.out) HN2.out HNB.out
 obtain ⟨gz,hgz⟩ : ∃ z,decide (3000≤greatN names names.length)=z:=⟨_,rfl⟩
 rw [hgz,HNL.out] at hgn
 have HGN:=hid hgn
 have HGZ:=hid hgz
 clear hgn hgz
 go_wp2_with fail
 with_reducible refine HGN.out.mono ?_
 rintro e3 w3 ⟨rfl,hb3⟩
 have HB3:=hid (HB2.out.trans (hb3.mono HB2.out.size))
 have X3:=hid (X2.out.low hb3)
 clear hb3 HGN X2 HB2 x0 x1 x2 x3 x4
 cases gz with
 | true =>
   go_wp2
   go_ret
   exact ⟨rfl,HB3.out⟩
 | false =>
 have x0:=tcell X3.out (k:=0) rfl
 have x1:=tcell X3.out (k:=1) rfl
 have x2:=tcell X3.out (k:=2) rfl
 have x3:=tcell X3.out (k:=3) rfl
 have x4:=tcell X3.out (k:=4) rfl
 have hr:=right_said (fun _=>False) w3 a b q c r e p ⟨HQ.out.1.low HB3.out,HQ.out.2.low HB3.out⟩ HS.out.bd
 obtain ⟨z,hz⟩ : ∃ z,rightQ p=z:=⟨_,rfl⟩
 rw [hz] at hr
 have HR:=hid hr
 have HZ:=hid hz
 clear hr hz
 go_wp2_with fail
 with_reducible refine HR.out.mono ?_
 rintro e4 w4 ⟨rfl,hb4⟩
 have HB4:=hid (HB3.out.trans (hb4.mono HB3.out.size))
 have X4:=hid (X3.out.low hb4)
 clear hb4 HR X3 HB3 x0 x1 x2 x3 x4
 cases z with
 | false =>
   go_wp2
   go_ret
   exact ⟨rfl,HB4.out⟩
 | true =>
 have x0:=tcell X4.out (k:=0) rfl
 have x1:=tcell X4.out (k:=1) rfl
 have x2:=tcell X4.out (k:=2) rfl
 have x3:=tcell X4.out (k:=3) rfl
 have x4:=tcell X4.out (k:=4) rfl
 obtain ⟨i0,rr,hi0,hno0,hm0,hlen6⟩:=rightQ_first HZ.out
 have HQL:=hid HQ.out.1.len
 rw [← HQL.out] at hlen6
 clear hi0 hno0 hm0
 go_wp2
 have HB40 : Hid (Below w4.heap.size w4 w4):=Below.refl _ _
 go_loopw [6,7] (fun t i wr=>∃ (j : Nat) (fb : Bool),t=.bool fb∧i=.int .i64 j∧j≤q∧Hid (∀ x∈p.its.take j,x.no=false∧x.mode=1)∧Hid (fb=true ↔ FitTo names p.its j)∧Hid (Below w4.heap.size w4 wr)) (fun _ i _=>q - (RowKit.intOf i).toNat)
 case atStart =>
  refine ⟨0,((nl : Int) == (q : Int)),rfl,rfl,Nat.zero_le _,fun x hx=>by simp at hx,?_,HB40⟩
  show _ ↔ _
  unfold FitTo
  rw [HNL.out,← HQL.out,beq_iff_eq]
  exact ⟨fun h=>⟨by omega,fun i x hi=>by omega⟩,fun h=>by have:=h.1;omega⟩
 case round =>
  obtain ⟨j,fb,rfl,rfl,hj,HA,HF,HB⟩:=hrel
  have xr:=X4.out.low HB.out
  have x0:=tcell xr (k:=0) rfl
  have HBw:=hid (HB4.out.trans (HB.out.mono HB4.out.size))
  by_cases hlt : j < q
  ·obtain ⟨y,hy⟩ : ∃ y,p.its[j]?=some y:=⟨_,List.getElem?_eq_getElem (by rw [← HQL.out];exact hlt)⟩
   obtain ⟨g,o,a1,c1,rfl,d0,d1,d2,d3,hr⟩:=(HQ.out.1.low HBw.out).itemAt hy
   have HY:=hid hy
   clear xr hy
   cases hno : y.no with
   | true =>
     rw [hno] at d0
     clear hno hr
     go_wp2
     go_ret
     exact ⟨rfl,HBw.out⟩
   | false =>
   rw [hno] at d0
   by_cases hm : y.mode=1
   ·rw [hm] at d3
    have HA2 : Hid (∀ x∈p.its.take (j+1),x.no=false∧x.mode=1):=by
     show ∀ x∈_,_
     rw [List.take_add_one,HY.out]
     intro x hx
     rcases List.mem_append.1 hx with hx|hx
     ·exact HA.out x hx
     ·obtain rfl : x=y:=by simpa using hx
      exact ⟨hno,hm⟩
    clear hno hm
    have hw : IntKind.i64.wrap ((j : Int)+1)=((j+1 : Nat) : Int):=by rw [IntWalk.i64_in _ (by omega)];omega
    have HBd:=hid (vbelow_drew HB.out)
    cases fb with
    | false =>
      have HF2 : Hid (false=true ↔ FitTo names p.its (j+1)):=by
       show _ ↔ _
       exact ⟨(fun e=>by cases e),fun e=>HF.out.2 e.low⟩
      clear hr
      go_wp2_with fail
      clear d0 d1 d2 d3 x0
      refine wp_region_held_drew (S:=fun _=>True) (by kernel_rfl) trivial (fun hHeld=>?_)
      refine ttakeH 0 50 (v:=?va0) rfl (by kernel_rfl) (by kernel_rfl) (by kernel_rfl) rfl (fun _ _ _ h=>h) (by rfl) ?ya0 (by assumption) ?ra0
      case ya0=>(intro W hSw;(try dsimp only at hSw);(try obtain hS0:=hSw);go_simp;(try rw [if_neg (by omega)]);try with_reducible rfl)
      try simp only [Act.put,sI,sZ,sS]
      refine ttakeH 1 51 (v:=?va1) rfl (by kernel_rfl) (by kernel_rfl) (by kernel_rfl) rfl (fun _ _ _ h=>h) (by rfl) ?ya1 (by assumption) ?ra1
      case ya1=>(intro W hSw;(try dsimp only at hSw);(try obtain hS0:=hSw);go_simp;(try rw [if_neg (by omega)]);try with_reducible rfl)
      try simp only [Act.put,sI,sZ,sS]
      refine passH 2 52 (by kernel_rfl) (by kernel_rfl) (by kernel_rfl) (by kernel_rfl) (by rfl) (fun _ _ _ h=>h) (by assumption) ?_
      try simp only [Act.put,sI,sZ,sS]
      refine passH 3 53 (by kernel_rfl) (by kernel_rfl) (by kernel_rfl) (by kernel_rfl) (by rfl) (fun _ _ _ h=>h) (by assumption) ?_
      try simp only [Act.put,sI,sZ,sS]
      refine passH 4 54 (by kernel_rfl) (by kernel_rfl) (by kernel_rfl) (by kernel_rfl) (by rfl) (fun _ _ _ h=>h) (by assumption) ?_
      try simp only [Act.put,sI,sZ,sS]
      refine passH 5 55 (by kernel_rfl) (by kernel_rfl) (by kernel_rfl) (by kernel_rfl) (by rfl) (fun _ _ _ h=>h) (by assumption) ?_
      try simp only [Act.put,sI,sZ,sS]
      refine ttakeH 6 56 (v:=?va6) rfl (by kernel_rfl) (by kernel_rfl) (by kernel_rfl) rfl (fun _ _ _ h=>h) (by rfl) ?ya6 (by assumption) ?ra6
      case ya6=>(intro W hSw;(try dsimp only at hSw);(try obtain hS0:=hSw);go_simp;(try rw [if_neg (by omega)]);try with_reducible rfl)
      try simp only [Act.put,sI,sZ,sS]
      refine ttakeH 7 57 (v:=?va7) rfl (by kernel_rfl) (by kernel_rfl) (by kernel_rfl) rfl (fun _ _ _ h=>h) (by rfl) ?ya7 (by assumption) ?ra7
      case ya7=>(intro W hSw;(try dsimp only at hSw);(try obtain hS0:=hSw);go_simp;(try rw [if_neg (by omega)]);try with_reducible rfl)
      try simp only [Act.put,sI,sZ,sS]
      refine passH 8 58 (by kernel_rfl) (by kernel_rfl) (by kernel_rfl) (by kernel_rfl) (by rfl) (fun _ _ _ h=>h) (by assumption) ?_
      try simp only [Act.put,sI,sZ,sS]
      refine passH 9 59 (by kernel_rfl) (by kernel_rfl) (by kernel_rfl) (by kernel_rfl) (by rfl) (fun _ _ _ h=>h) (by assumption) ?_
      try simp only [Act.put,sI,sZ,sS]
      refine passH 10 60 (by kernel_rfl) (by kernel_rfl) (by kernel_rfl) (by kernel_rfl) (by rfl) (fun _ _ _ h=>h) (by assumption) ?_
      try simp only [Act.put,sI,sZ,sS]
      refine passH 11 61 (by kernel_rfl) (by kernel_rfl) (by kernel_rfl) (by kernel_rfl) (by rfl) (fun _ _ _ h=>h) (by assumption) ?_
      try simp only [Act.put,sI,sZ,sS]
      refine passH 12 62 (by kernel_rfl) (by kernel_rfl) (by kernel_rfl) (by kernel_rfl) (by rfl) (fun _ _ _ h=>h) (by assumption) ?_
      try simp only [Act.put,sI,sZ,sS]
      refine passH 13 63 (by kernel_rfl) (by kernel_rfl) (by kernel_rfl) (by kernel_rfl) (by rfl) (fun _ _ _ h=>h) (by assumption) ?_
      try simp only [Act.put,sI,sZ,sS]
      refine passH 14 64 (by kernel_rfl) (by kernel_rfl) (by kernel_rfl) (by kernel_rfl) (by rfl) (fun _ _ _ h=>h) (by assumption) ?_
      try simp only [Act.put,sI,sZ,sS]
      refine passH 15 65 (by kernel_rfl) (by kernel_rfl) (by kernel_rfl) (by kernel_rfl) (by rfl) (fun _ _ _ h=>h) (by assumption) ?_
      try simp only [Act.put,sI,sZ,sS]
      refine passH 16 66 (by kernel_rfl) (by kernel_rfl) (by kernel_rfl) (by kernel_rfl) (by rfl) (fun _ _ _ h=>h) (by assumption) ?_
      try simp only [Act.put,sI,sZ,sS]
      refine passH 17 67 (by kernel_rfl) (by kernel_rfl) (by kernel_rfl) (by kernel_rfl) (by rfl) (fun _ _ _ h=>h) (by assumption) ?_
      try simp only [Act.put,sI,sZ,sS]
      refine ttakeH 18 68 (v:=?va18) rfl (by kernel_rfl) (by kernel_rfl) (by kernel_rfl) rfl (fun _ _ _ h=>h) (by rfl) ?ya18 (by assumption) ?ra18
      case ya18=>(intro W hSw;(try dsimp only at hSw);(try obtain hS0:=hSw);go_simp;(try rw [if_neg (by omega)]);try with_reducible rfl)
      try simp only [Act.put,sI,sZ,sS]
      refine ttakeH 19 6 (v:=?va19) rfl (by kernel_rfl) (by kernel_rfl) (by kernel_rfl) rfl (fun _ _ _ h=>h) (by rfl) ?ya19 (by assumption) ?ra19
      case ya19=>(intro W hSw;(try dsimp only at hSw);(try obtain hS0:=hSw);go_simp;(try rw [if_neg (by omega)]);try with_reducible rfl)
      try simp only [Act.put,sI,sZ,sS]
      refine wpAnyH_done (by kernel_rfl) ?_ _
      go_wp2
      exact ⟨⟨j+1,false,rfl,rfl,hlt,HA2,HF2,HBd⟩,by simp [RowKit.intOf];omega⟩
    | true =>
    have hF:=HF.out.1 rfl
    by_cases hjn : j < nl
    ·obtain ⟨u,hu⟩ : ∃ u,names[j]?=some u:=⟨_,List.getElem?_eq_getElem (by rw [HNL.out];exact hjn)⟩
     obtain ⟨gn,on,rfl,hc⟩:=RowK.nameAt (HN.out.low HBw.out) hu
     have t0 : decide ((j : Int) < (nl : Int))=true:=decide_eq_true (by omega)
     have hbi:=HS.out.bd.1 y (List.mem_of_getElem? HY.out)
     have hhas:=nrhas_calls (w:=wr.drew) (hr.low (vbelow_drew (Below.refl _ wr))) (by have:=hbi.1;omega) false (strB y.x) 1 u
     obtain ⟨z,hz⟩ : ∃ z,decide (u∈y.ns)=z:=⟨_,rfl⟩
     obtain ⟨m,hm⟩ : ∃ m,y.ns.length=m:=⟨_,rfl⟩
     rw [hz,hm] at hhas
     rw [hm] at d1
     have HHas:=hid hhas
     have HF2 : Hid (z=true ↔ FitTo names p.its (j+1)):=by
      show _ ↔ _
      rw [← hz,decide_eq_true_eq]
      exact ⟨fun h=>hF.next HY.out hu h,fun h=>h.at_ HY.out hu⟩
     have f0 : wr.drew.cell? ⟨w.heap.size,0,none⟩=some (.slice (some ⟨g,o,none⟩) q c):=x0
     have f1 : wr.drew.cell? ⟨g,o+j*4,none⟩=some (.bool false):=d0
     have f2 : wr.drew.cell? ⟨g,o+j*4+1,none⟩=some (.slice a1 m c1):=d1
     have f3 : wr.drew.cell? ⟨g,o+j*4+2,none⟩=some (.string (strB y.x)):=d2
     have f4 : wr.drew.cell? ⟨g,o+j*4+3,none⟩=some (.int .i64 1):=d3
     have f5 : wr.drew.cell? ⟨gn,on+j,none⟩=some (.string (strB u)):=hc
     clear hr hu hhas hz hm hbi hF
     go_wp2_with fail
     clear d0 d1 d2 d3 x0 hc
     refine wp_region_held_drew (S:=fun W=>W.cell? ⟨w.heap.size,0,none⟩=some (.slice (some ⟨g,o,none⟩) q c)∧W.cell? ⟨g,o+j*4,none⟩=some (.bool false)∧W.cell? ⟨g,o+j*4+1,none⟩=some (.slice a1 m c1)∧W.cell? ⟨g,o+j*4+2,none⟩=some (.string (strB y.x))∧W.cell? ⟨g,o+j*4+3,none⟩=some (.int .i64 1)∧W.cell? ⟨gn,on+j,none⟩=some (.string (strB u))) (by kernel_rfl) ⟨by assumption,by assumption,by assumption,by assumption,by assumption,by assumption⟩ (fun hHeld=>?_)
     refine tK 0 50 (h:=?_)
     try simp only [Act.put,sI,sZ,sS]
     refine tK 1 51 (h:=?_)
     try simp only [Act.put,sI,sZ,sS]
     refine tK 2 52 (h:=?_)
     try simp only [Act.put,sI,sZ,sS]
     refine tK 3 53 (h:=?_)
     try simp only [Act.put,sI,sZ,sS]
     refine tK 4 54 (h:=?_)
     try simp only [Act.put,sI,sZ,sS]
     refine tK 5 55 (h:=?_)
     try simp only [Act.put,sI,sZ,sS]
     refine tK 6 56 (h:=?_)
     try simp only [Act.put,sI,sZ,sS]
     refine tK 7 57 (h:=?_)
     try simp only [Act.put,sI,sZ,sS]
     refine tK 8 58 (h:=?_)
     try simp only [Act.put,sI,sZ,sS]
     refine tK 9 59 (h:=?_)
     try simp only [Act.put,sI,sZ,sS]
     refine tK 10 60 (h:=?_)
     try simp only [Act.put,sI,sZ,sS]
     refine tK 11 61 (h:=?_)
     try simp only [Act.put,sI,sZ,sS]
     refine tK 12 62 (h:=?_)
     try simp only [Act.put,sI,sZ,sS]
     refine tK 13 63 (h:=?_)
     try simp only [Act.put,sI,sZ,sS]
     refine tK 14 64 (h:=?_)
     try simp only [Act.put,sI,sZ,sS]
     refine tK 15 65 (h:=?_)
     try simp only [Act.put,sI,sZ,sS]
     refine tK 16 66 (h:=?_)
     try simp only [Act.put,sI,sZ,sS]
     refine wpAnyH_ready (rs:=[17]) (by kernel_rfl) (by simp) ?_
     refine AllReadyH.cons (o:=_) rfl (fun K hK=>?_) AllReadyH.nil
     dsimp only [List.getElem_toArray,List.getElem_cons_succ,List.getElem_cons_zero]
     go_simp
     go_at_call 18
     (with_reducible refine HHas.out.mono ?_)
     rintro e v1 ⟨rfl,hb⟩
     have HB9:=hid (HBd.out.trans (hb.mono HBd.out.size))
     have k0:=tkeep hb f0
     have k1:=tkeep hb f1
     have k2:=tkeep hb f2
     have k3:=tkeep hb f3
     have k4:=tkeep hb f4
     have k5:=tkeep hb f5
     clear hb
     go_wp2_with fail
     refine hK.out _ _ ⟨k0,k1,k2,k3,k4,k5⟩ (fun hHeld=>?_)
     clear hK K
     try simp only [Act.put,sI,sZ,sS]
     refine tK 18 68 (h:=?_)
     try simp only [Act.put,sI,sZ,sS]
     refine tK 19 6 (h:=?_)
     try simp only [Act.put,sI,sZ,sS]
     refine wpAnyH_done (by kernel_rfl) ?_ _
     go_wp2
     exact ⟨⟨j+1,z,rfl,rfl,hlt,HA2,HF2,HB9⟩,by simp [RowKit.intOf];omega⟩
    ·have t0 : decide ((j : Int) < (nl : Int))=false:=decide_eq_false (by omega)
     have hlen:=hF.1
     rw [HNL.out,← HQL.out] at hlen
     exact absurd (by omega) hjn
   ·have t0 : (y.mode != 1)=true:=by simp [hm]
    clear hno hr hm
    go_wp2
    go_ret
    exact ⟨rfl,HBw.out⟩
  ·have hjq : j=q:=by omega
   have hall : ∀ x∈p.its,x.no=false∧x.mode=1:=by
    have h:=HA.out
    rw [hjq,HQL.out,List.take_length] at h
    exact h
   have hne : p.its≠[]:=by
    obtain ⟨i1,r1,h1,_⟩:=rightQ_first HZ.out
    rw [h1]
    simp
   have hacc:=naccepts_calls (w:=wr) (K:=fun _=>False) ⟨HQ.out.1.low HBw.out,HQ.out.2.low HBw.out⟩ HS.out.bd (HN.out.low HBw.out) HN2.out
   have hz : (rightQ p && accQ p.its names)=fb:=by
    rw [HZ.out,Bool.true_and,accQ_plain hall hne,Bool.eq_iff_iff,HF.out,hjq,HQL.out]
    exact fitTo_all.symm
   rw [hz,HNL.out] at hacc
   have HACC:=hid hacc
   have x1:=tcell xr (k:=1) rfl
   have x2:=tcell xr (k:=2) rfl
   have x3:=tcell xr (k:=3) rfl
   have x4:=tcell xr (k:=4) rfl
   have t0 : (fb == fb)=true:=by cases fb <;> rfl
   clear hjq hall hne hacc hz xr
   go_wp2_with (go_at_call 15;(with_reducible refine HACC.out.mono ?_);rintro e w9 ⟨rfl,hb9⟩;have HB9:=hid (HBw.out.trans (hb9.mono HBw.out.size));clear hb9)
   go_ret
   exact ⟨rfl,HB9.out⟩
end Go.Proofs.Ytefcbgnckgapgaa
namespace Go.Proofs.Ytefcbgnckgapgaa
open Go.RowKit Go.Lib Go.Op
structure NoIn (w w4 wr : World) (p : PQu) (l : List PIt) (j : Nat) (v : Value) : Prop where
 low : Below w4.heap.size w4 wr
 row : OwnQ wr (w4.heap.size+1) w.heap.size v (noNots (l.take j))
 box : Blk wr w4.heap.size #[v,.slice none 0 0,.int .i64 p.within,.string (strB p.by_),.int .i64 p.pick] 25
theorem noNots_at {l : List PIt} {j : Nat} {y : PIt} (h : l[j]?=some y) : noNots (l.take (j+1))=if y.no then noNots (l.take j) else noNots (l.take j)++[y]:=by
 unfold noNots
 rw [List.take_add_one,h,List.filter_append]
 cases hn : y.no <;> simp [hn]
theorem NoIn.skip {w w4 wr : World} {p : PQu} {l : List PIt} {j : Nat} {v : Value} (h : NoIn w w4 wr p l j v) {y : PIt} (hy : l[j]?=some y) (hn : y.no=true) : NoIn w w4 wr p l (j+1) v :=
 ⟨h.low,by rw [noNots_at hy,if_pos hn];exact h.row,h.box⟩
theorem NoIn.put {w w4 wr : World} {p : PQu} {l : List PIt} {j : Nat} {v : Value} (h : NoIn w w4 wr p l j v) (hw : Below w.heap.size w w4) {y : PIt} (hy : l[j]?=some y) (hn : y.no=false) (hlen : j≤6) {cs : List Value} (hP : itemD.P (fun _=>False) w cs y) :
 ∃ a9 l9 c9 w9,(Builtin.append_ #[22,22] 22 #[v,.slice (some ⟨wr.heap.size,0,none⟩) 1 1]).run Try.prog (wr.drew.alloc (.cells cs.toArray 38))=.ok (.slice a9 l9 c9) w9∧NoIn w w4 (w9.setCell ⟨w4.heap.size,0,none⟩ (.slice a9 l9 c9)) p l (j+1) (.slice a9 l9 c9)∧Blk w9 w4.heap.size #[v,.slice none 0 0,.int .i64 p.within,.string (strB p.by_),.int .i64 p.pick] 25:=by
 have hsz:=h.low.size
 have hbd:=vbelow_drew (Below.refl wr.heap.size wr)
 have hba:=(Below.refl wr.drew.heap.size wr.drew).alloc (Nat.le_refl _) (.cells cs.toArray 38)
 have hbx:=hbd.trans (hba.mono hbd.size)
 have hrow:=h.row.low hbx
 have hlt:=h.box.lt
 have hws:=hw.size
 obtain ⟨v9,w9,hr,ho,hg⟩:=hrow.append (l2:=[y]) (A:=⟨wr.heap.size,0,none⟩) (c:=1) (css2:=[cs]) (by omega) (by have:=hbx.size;omega) (by
  unfold noNots
  have:=List.length_filter_le (fun x : PIt=>!x.no) (l.take j)
  have h3 : (l.take j).length≤j:=by rw [List.length_take];omega
  omega) (by simp) rfl (fun c hc=>by rw [List.mem_singleton.1 hc];exact itemD.len hP) (fun k x hk=>by
  match k,hk with
  | 0,hk =>
    obtain rfl : y=x:=by simpa using hk
    exact ⟨cs,rfl,itemD.keep (TFr.of_below ((hw.trans (h.low.mono hws)).trans (hbx.mono (by have:=h.low.size;omega)))) (item_old hP)⟩
  | k+1,hk=>simp at hk) (fun i u hi=>by
  rw [add_at rfl,Nat.zero_add]
  refine tcell (heap_alloc_new wr.drew _) ?_
  simpa using hi)
 obtain ⟨a9,c9,rfl⟩:=ho.slice
 have hnb : ∀ g,v.ownBlock=some g→w4.heap.size+1≤g:=fun g hg=>(hrow.own g hg).1
 have hbox : Blk w9 w4.heap.size #[v,.slice none 0 0,.int .i64 p.within,.string (strB p.by_),.int .i64 p.pick] 25:=((hg.block _ (by have:=hbx.size;omega) (fun e=>by have:=hnb _ e.symm;omega))).trans (h.box.low hbx)
 refine ⟨a9,_,c9,w9,hr,⟨?_,?_,hbox.set 0 _ rfl⟩,hbox⟩
 ·have hl:=(h.low.trans (hbx.mono h.low.size)).grown hg (by have:=hbx.size;have:=h.low.size;omega) (fun k hk=>by have:=hnb k hk;omega)
  exact ((TFr.of_below (K:=(w4.heap.size≤·)) hl).setCell (p:=⟨w4.heap.size,0,none⟩) (fun _=>Nat.le_refl _) _).below (Nat.le_refl _) (fun k hk=>hk)
 ·rw [noNots_at hy,if_neg (by rw [hn];simp)]
  exact ho.keep (TFr.at w4.heap.size 0 _) (fun b hb=>by rw [hb];exact hws) (fun g hg=>by
   have:=(ho.own g hg).1
   intro e
   omega)
set_option maxHeartbeats 8000000 in
set_option maxRecDepth 100000 in
theorem nnots_walk (w : World) {a b : Option Addr} {q c r e : Nat} {p : PQu} (h : QuAt (fun _=>False) w a q c b r e p) (hl : QLn p) {a2 : Option Addr} {c2 : Nat} {names : List (List UInt8)} (hn : RowK nameD (fun _=>False) w (.slice a2 names.length c2) names) (hnl : names.length≤140737488355328) (hnb : ∀ x∈names,x.length≤maxLen) :
 Calls Try.prog 7 #[.agg #[.slice a q c,.slice b r e,.int .i64 p.within,.string (strB p.by_),.int .i64 p.pick],.slice a2 names.length c2] w fun e w'=>e=.returned (.bool true)∧Below w.heap.size w w':=by
 have hb0:=(Below.refl w.heap.size w).alloc (Nat.le_refl _) (.cells #[.slice a q c,.slice b r e,.int .i64 p.within,.string (strB p.by_),.int .i64 p.pick] 25)
 have HX:=hid (Blk.new w #[.slice a q c,.slice b r e,.int .i64 p.within,.string (strB p.by_),.int .i64 p.pick] 25)
 have HB0:=hid hb0
 have HQ:=hid h
 have HL:=hid hl
 have HN:=hid hn
 have HNB:=hid hnb
 obtain ⟨nl,hnlq⟩ : ∃ nl,names.length=nl:=⟨_,rfl⟩
 have HNL:=hid hnlq
 have HN2:=hid hnl
 rw [hnlq] at hnl ⊢
 clear hn hnb hnlq
 have HH:=hid (nhead_calls (w:=w.alloc (.cells #[.slice a q c,.slice b r e,.int .i64 p.within,.string (strB p.by_),.int .i64 p.pick] 25)))
 clear h hl hb0
 go_enter Try.func7,Try.ntmps7
 go_wp2_with fail
 with_reducible refine HH.out.mono ?_
 rintro e1 w1 ⟨rfl,hb1⟩
 have HB1:=hid (HB0.out.trans (hb1.mono HB0.out.size))
 have X1:=hid (HX.out.low hb1)
 have x0:=tcell X1.out (k:=0) rfl
 have x1:=tcell X1.out (k:=1) rfl
 have x2:=tcell X1.out (k:=2) rfl
 have x3:=tcell X1.out (k:=3) rfl
 have x4:=tcell X1.out (k:=4) rfl
 have HG:=hid (great_calls (w:=w1) ⟨HQ.out.1.low HB1.out,HQ.out.2.low HB1.out⟩ HL.out)
 clear hb1 HH HX HB0
 go_wp2_with fail
 with_reducible refine HG.out.mono ?_
 rintro e2 w2 ⟨g,rfl,hsm,hb2⟩
 have HB2:=hid (HB1.out.trans (hb2.mono HB1.out.size))
 have X2:=hid (X1.out.low hb2)
 clear hb2 HG X1 HB1 x0 x1 x2 x3 x4
 cases g with
 | true =>
   clear hsm
   go_wp2
   go_ret
   exact ⟨rfl,HB2.out⟩
 | false =>
 have HS:=hid (hsm rfl)
 clear hsm
 have x0:=tcell X2.out (k:=0) rfl
 have x1:=tcell X2.out (k:=1) rfl
 have x2:=tcell X2.out (k:=2) rfl
 have x3:=tcell X2.out (k:=3) rfl
 have x4:=tcell X2.out (k:=4) rfl
 have hgn:=ngreat_calls (w:=w2) (HN.out.low HB2.out) HN2.out HNB.out
 obtain ⟨gz,hgz⟩ : ∃ z,decide (3000≤greatN names names.length)=z:=⟨_,rfl⟩
 rw [hgz,HNL.out] at hgn
 have HGN:=hid hgn
 have HGZ:=hid hgz
 clear hgn hgz
 go_wp2_with fail
 with_reducible refine HGN.out.mono ?_
 rintro e3 w3 ⟨rfl,hb3⟩
 have HB3:=hid (HB2.out.trans (hb3.mono HB2.out.size))
 have X3:=hid (X2.out.low hb3)
 clear hb3 HGN X2 HB2 x0 x1 x2 x3 x4
 cases gz with
 | true =>
   go_wp2
   go_ret
   exact ⟨rfl,HB3.out⟩
 | false =>
 have x0:=tcell X3.out (k:=0) rfl
 have x1:=tcell X3.out (k:=1) rfl
 have x2:=tcell X3.out (k:=2) rfl
 have x3:=tcell X3.out (k:=3) rfl
 have x4:=tcell X3.out (k:=4) rfl
 have hr:=right_said (fun _=>False) w3 a b q c r e p ⟨HQ.out.1.low HB3.out,HQ.out.2.low HB3.out⟩ HS.out.bd
 obtain ⟨z,hz⟩ : ∃ z,rightQ p=z:=⟨_,rfl⟩
 rw [hz] at hr
 have HR:=hid hr
 have HZ:=hid hz
 clear hr hz
 go_wp2_with fail
 with_reducible refine HR.out.mono ?_
 rintro e4 w4 ⟨rfl,hb4⟩
 have HB4:=hid (HB3.out.trans (hb4.mono HB3.out.size))
 have X4:=hid (X3.out.low hb4)
 clear hb4 HR X3 HB3 x0 x1 x2 x3 x4
 cases z with
 | false =>
   go_wp2
   go_ret
   exact ⟨rfl,HB4.out⟩
 | true =>
 have x0:=tcell X4.out (k:=0) rfl
 have x1:=tcell X4.out (k:=1) rfl
 have x2:=tcell X4.out (k:=2) rfl
 have x3:=tcell X4.out (k:=3) rfl
 have x4:=tcell X4.out (k:=4) rfl
 obtain ⟨i0,rr,hi0,hno0,hm0,hlen6⟩:=rightQ_first HZ.out
 have HQL:=hid HQ.out.1.len
 rw [← HQL.out] at hlen6
 have HI0:=hid hi0
 have HNO0:=hid hno0
 clear hi0 hno0 hm0
 have hb5:=(Below.refl w4.heap.size w4).alloc (Nat.le_refl _) (.cells #[.slice none 0 0,.slice none 0 0,.int .i64 p.within,.string (strB p.by_),.int .i64 p.pick] 25)
 have HB5:=hid hb5
 have HI5 : Hid (NoIn w w4 (w4.alloc (.cells #[.slice none 0 0,.slice none 0 0,.int .i64 p.within,.string (strB p.by_),.int .i64 p.pick] 25)) p p.its 0 (.slice none 0 0)):=⟨hb5,⟨[],rfl,World.ownsRow_nil _ _ _ _,fun c hc=>(by cases hc),fun j x hj=>(by simp [noNots] at hj)⟩,Blk.new w4 #[.slice none 0 0,.slice none 0 0,.int .i64 p.within,.string (strB p.by_),.int .i64 p.pick] 25⟩
 clear hb5
 go_wp2
 clear x0 x1 x2 x3 x4
 go_loopw [7] (fun i wr=>∃ j : Nat,i=.int .i64 j∧j≤q∧∃ v,Hid (NoIn w w4 wr p p.its j v)) (fun i _=>q - (RowKit.intOf i).toNat)
 case atStart=>exact ⟨0,rfl,Nat.zero_le _,_,HI5⟩
 case round =>
  obtain ⟨j,rfl,hj,v,HI⟩:=hrel
  obtain ⟨va,vc,rfl⟩:=HI.out.row.slice
  have xr:=X4.out.low HI.out.low
  have x0:=tcell xr (k:=0) rfl
  have HBw:=hid (HB4.out.trans (HI.out.low.mono HB4.out.size))
  by_cases hlt : j < q
  ·obtain ⟨y,hy⟩ : ∃ y,p.its[j]?=some y:=⟨_,List.getElem?_eq_getElem (by rw [← HQL.out];exact hlt)⟩
   obtain ⟨g,o,a1,c1,rfl,d0,d1,d2,d3,hr⟩:=HQ.out.1.itemAt hy
   have hP : itemD.P (fun _=>False) w [.bool y.no,.slice a1 y.ns.length c1,.string (strB y.x),.int .i64 y.mode] y:=⟨a1,c1,rfl,hr⟩
   replace d0:=tkeep HBw.out d0
   replace d1:=tkeep HBw.out d1
   replace d2:=tkeep HBw.out d2
   replace d3:=tkeep HBw.out d3
   have HY:=hid hy
   have hw : IntKind.i64.wrap ((j : Int)+1)=((j+1 : Nat) : Int):=by rw [IntWalk.i64_in _ (by omega)];omega
   cases hno : y.no with
   | true =>
     rw [hno] at d0
     have HI2:=hid (HI.out.skip HY.out hno)
     clear hno hr xr hy
     go_wp2
     exact ⟨⟨j+1,rfl,hlt,_,HI2⟩,by simp [RowKit.intOf];omega⟩
   | false =>
     rw [hno] at d0
     rw [hno] at hP
     obtain ⟨a9,l9,c9,w9,hr9,hI9,hB9⟩:=HI.out.put HB4.out HY.out hno (by omega) hP
     obtain ⟨n1,hn1⟩ : ∃ n1,(noNots (p.its.take j)).length=n1:=⟨_,rfl⟩
     rw [hn1] at hr9
     have HI2:=hid hI9
     have b0:=tcell HI.out.box (k:=0) rfl
     rw [hn1] at b0
     have b9:=tcell hB9 (k:=0) rfl
     have q9:=tfrozen hB9 (k:=0)
     have e0 : ((wr.alloc (.cells #[.bool false,.slice a1 y.ns.length c1,.string (strB y.x),.int .i64 y.mode] 38)).drew).cell? ⟨w4.heap.size,0,none⟩=some (.slice va n1 vc):=tkeepAl b0 _
     have e1 : ((wr.alloc (.cells #[.bool false,.slice a1 y.ns.length c1,.string (strB y.x),.int .i64 y.mode] 38)).drew).cell? ⟨w.heap.size,0,none⟩=some (.slice (some ⟨g,o,none⟩) q c):=tkeepAl x0 _
     have e2 : ((wr.alloc (.cells #[.bool false,.slice a1 y.ns.length c1,.string (strB y.x),.int .i64 y.mode] 38)).drew).cell? ⟨g,o+j*4,none⟩=some (.bool false):=tkeepAl d0 _
     have e3 : ((wr.alloc (.cells #[.bool false,.slice a1 y.ns.length c1,.string (strB y.x),.int .i64 y.mode] 38)).drew).cell? ⟨g,o+j*4+1,none⟩=some (.slice a1 y.ns.length c1):=tkeepAl d1 _
     have e4 : ((wr.alloc (.cells #[.bool false,.slice a1 y.ns.length c1,.string (strB y.x),.int .i64 y.mode] 38)).drew).cell? ⟨g,o+j*4+2,none⟩=some (.string (strB y.x)):=tkeepAl d2 _
     have e5 : ((wr.alloc (.cells #[.bool false,.slice a1 y.ns.length c1,.string (strB y.x),.int .i64 y.mode] 38)).drew).cell? ⟨g,o+j*4+3,none⟩=some (.int .i64 y.mode):=tkeepAl d3 _
     clear hno hr xr hy hI9 hB9 hn1 hP
     go_wp2_with fail
     go_region_law (refine step_append_runI (by rfl) (.tmp 39) (.tmp 45) 22 22 rfl _ _ (by simp [Act.eval]) (by simp [Act.eval]) hr9 ?_;clear hr9)
     all_goals
      go_wp2
      exact ⟨⟨j+1,rfl,hlt,_,HI2⟩,by simp [RowKit.intOf];omega⟩
  ·have hjq : j=q:=by omega
   have hrow:=HI.out.row.row
   have hall : noNots (p.its.take j)=noNots p.its:=by rw [hjq,HQL.out,List.take_length]
   have hbox:=HI.out.box
   rw [hall] at hrow hbox
   obtain ⟨n1,hn1⟩ : ∃ n1,(noNots p.its).length=n1:=⟨_,rfl⟩
   have hr2 : rightQ ⟨noNots p.its,[],p.within,p.by_,p.pick⟩=true:=by
    rw [HI0.out,nots_first HNO0.out]
    exact rightQ_sub HZ.out HI0.out List.filter_sublist
   have hac : accQ (noNots p.its) names=accQ p.its names:=by rw [HI0.out];exact accQ_nots HNO0.out names
   have hbd2 : QuB ⟨noNots p.its,[],p.within,p.by_,p.pick⟩:=⟨fun i hi=>HS.out.bd.1 i (List.mem_filter.1 hi).1,fun p hp=>(by cases hp),HS.out.bd.2.2⟩
   have hq2 : QuAt (fun _=>False) wr va n1 vc Option.none 0 0 ⟨noNots p.its,[],p.within,p.by_,p.pick⟩:=⟨by rw [← hn1];exact hrow,RowK.nil _ _ _⟩
   obtain ⟨z,hz⟩ : ∃ z,accQ p.its names=z:=⟨_,rfl⟩
   have HA1 : Hid (∀ W,Below wr.heap.size wr W→Calls Try.prog 15 #[.agg #[.slice va n1 vc,.slice none 0 0,.int .i64 p.within,.string (strB p.by_),.int .i64 p.pick],.slice a2 nl c2] W fun e w'=>e=.returned (.bool z)∧Below W.heap.size W w'):=fun W hW=>by
    have h:=naccepts_calls (w:=W) (K:=fun _=>False) (p:=⟨noNots p.its,[],p.within,p.by_,p.pick⟩) ⟨hq2.1.low hW,hq2.2.low hW⟩ hbd2 (HN.out.low (HBw.out.trans (hW.mono HBw.out.size))) HN2.out
    rw [hr2,Bool.true_and,show accQ (PQu.its ⟨noNots p.its,[],p.within,p.by_,p.pick⟩) names=z from hac.trans hz,HNL.out] at h
    exact h
   have HA2 : Hid (∀ W,Below wr.heap.size wr W→Calls Try.prog 15 #[.agg #[.slice a q c,.slice b r e,.int .i64 p.within,.string (strB p.by_),.int .i64 p.pick],.slice a2 nl c2] W fun e w'=>e=.returned (.bool z)∧Below W.heap.size W w'):=fun W hW=>by
    have hbw:=HBw.out.trans (hW.mono HBw.out.size)
    have h:=naccepts_calls (w:=W) (K:=fun _=>False) ⟨HQ.out.1.low hbw,HQ.out.2.low hbw⟩ HS.out.bd (HN.out.low hbw) HN2.out
    rw [HZ.out,Bool.true_and,hz,HNL.out] at h
    exact h
   rw [hn1] at hbox
   have f0 : wr.drew.cell? ⟨w4.heap.size,0,none⟩=some (.slice va n1 vc):=tcell hbox (k:=0) rfl
   have f1 : wr.drew.cell? ⟨w4.heap.size,1,none⟩=some (.slice none 0 0):=tcell hbox (k:=1) rfl
   have f2 : wr.drew.cell? ⟨w4.heap.size,2,none⟩=some (.int .i64 p.within):=tcell hbox (k:=2) rfl
   have f3 : wr.drew.cell? ⟨w4.heap.size,3,none⟩=some (.string (strB p.by_)):=tcell hbox (k:=3) rfl
   have f4 : wr.drew.cell? ⟨w4.heap.size,4,none⟩=some (.int .i64 p.pick):=tcell hbox (k:=4) rfl
   have f5 : wr.drew.cell? ⟨w.heap.size,0,none⟩=some (.slice a q c):=x0
   have f6 : wr.drew.cell? ⟨w.heap.size,1,none⟩=some (.slice b r e):=tcell xr (k:=1) rfl
   have f7 : wr.drew.cell? ⟨w.heap.size,2,none⟩=some (.int .i64 p.within):=tcell xr (k:=2) rfl
   have f8 : wr.drew.cell? ⟨w.heap.size,3,none⟩=some (.string (strB p.by_)):=tcell xr (k:=3) rfl
   have f9 : wr.drew.cell? ⟨w.heap.size,4,none⟩=some (.int .i64 p.pick):=tcell xr (k:=4) rfl
   have HW : Hid (Below wr.heap.size wr wr.drew):=vbelow_drew (Below.refl _ wr)
   have t0 : (z == z)=true:=by cases z <;> rfl
   clear hjq hrow hall hbox hr2 hac hbd2 hq2 hz hn1 xr
   go_wp2_with fail
   clear x0
   refine wp_region_held_drew (S:=fun W=>W.cell? ⟨w4.heap.size,0,none⟩=some (.slice va n1 vc)∧W.cell? ⟨w4.heap.size,1,none⟩=some (.slice none 0 0)∧W.cell? ⟨w4.heap.size,2,none⟩=some (.int .i64 p.within)∧W.cell? ⟨w4.heap.size,3,none⟩=some (.string (strB p.by_))∧W.cell? ⟨w4.heap.size,4,none⟩=some (.int .i64 p.pick)∧W.cell? ⟨w.heap.size,0,none⟩=some (.slice a q c)∧W.cell? ⟨w.heap.size,1,none⟩=some (.slice b r e)∧W.cell? ⟨w.heap.size,2,none⟩=some (.int .i64 p.within)∧W.cell? ⟨w.heap.size,3,none⟩=some (.string (strB p.by_))∧W.cell? ⟨w.heap.size,4,none⟩=some (.int .i64 p.pick)) (by kernel_rfl) ⟨by assumption,by assumption,by assumption,by assumption,by assumption,by assumption,by assumption,by assumption,by assumption,by assumption⟩ (fun hHeld=>?_)
   refine tK 0 48 (h:=?_)
   try simp only [Act.put,sI,sZ,sS]
   refine tK 1 49 (h:=?_)
   try simp only [Act.put,sI,sZ,sS]
   refine tK 2 50 (h:=?_)
   try simp only [Act.put,sI,sZ,sS]
   refine tK 3 51 (h:=?_)
   try simp only [Act.put,sI,sZ,sS]
   refine tK 5 53 (h:=?_)
   try simp only [Act.put,sI,sZ,sS]
   refine tK 6 54 (h:=?_)
   try simp only [Act.put,sI,sZ,sS]
   refine wpAnyH_ready (rs:=[4]) (by kernel_rfl) (by simp) ?_
   refine AllReadyH.cons (o:=_) rfl (fun K hK=>?_) AllReadyH.nil
   dsimp only [List.getElem_toArray,List.getElem_cons_succ,List.getElem_cons_zero]
   go_simp
   go_at_call 15
   (with_reducible refine (HA1.out _ HW.out).mono ?_)
   rintro e w7 ⟨rfl,hb⟩
   have HW2:=hid (HW.out.trans (hb.mono HW.out.size))
   have g0:=tkeep hb f0
   have g1:=tkeep hb f1
   have g2:=tkeep hb f2
   have g3:=tkeep hb f3
   have g4:=tkeep hb f4
   have g5:=tkeep hb f5
   have g6:=tkeep hb f6
   have g7:=tkeep hb f7
   have g8:=tkeep hb f8
   have g9:=tkeep hb f9
   clear hb
   go_wp2_with fail
   refine hK.out _ _ ⟨g0,g1,g2,g3,g4,g5,g6,g7,g8,g9⟩ (fun hHeld=>?_)
   clear hK K
   try simp only [Act.put,sI,sZ,sS]
   refine wpAnyH_ready (rs:=[7]) (by kernel_rfl) (by simp) ?_
   refine AllReadyH.cons (o:=_) rfl (fun K hK=>?_) AllReadyH.nil
   dsimp only [List.getElem_toArray,List.getElem_cons_succ,List.getElem_cons_zero]
   go_simp
   go_at_call 15
   (with_reducible refine (HA2.out _ HW2.out).mono ?_)
   rintro e w8 ⟨rfl,hb⟩
   have HW3:=hid (HW2.out.trans (hb.mono HW2.out.size))
   have h0:=tkeep hb g0
   have h1:=tkeep hb g1
   have h2:=tkeep hb g2
   have h3:=tkeep hb g3
   have h4:=tkeep hb g4
   have h5:=tkeep hb g5
   have h6:=tkeep hb g6
   have h7:=tkeep hb g7
   have h8:=tkeep hb g8
   have h9:=tkeep hb g9
   clear hb
   go_wp2_with fail
   refine hK.out _ _ ⟨h0,h1,h2,h3,h4,h5,h6,h7,h8,h9⟩ (fun hHeld=>?_)
   clear hK K
   try simp only [Act.put,sI,sZ,sS]
   refine tK 8 56 (h:=?_)
   try simp only [Act.put,sI,sZ,sS]
   refine tK 9 57 (h:=?_)
   try simp only [Act.put,sI,sZ,sS]
   refine tK 10 4 (h:=?_)
   try simp only [Act.put,sI,sZ,sS]
   refine wpAnyH_done (by kernel_rfl) ?_ _
   go_wp2
   go_ret
   exact ⟨rfl,HBw.out.trans (HW3.out.mono HBw.out.size)⟩
end Go.Proofs.Ytefcbgnckgapgaa
