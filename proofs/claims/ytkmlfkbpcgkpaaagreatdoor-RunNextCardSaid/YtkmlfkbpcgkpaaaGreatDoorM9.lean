/- Texts that others want. -/
import Derived.Test.YtkmlfkbpcgkpaaaGreatDoorM6
import Derived.Test.YtkmlfkbpcgkpaaaGreatDoorM8
import Derived.Test.YtkmlfkbpcgkpaaaGreatDoorProg
import Derived.RangeFuncNested
import Derived.RangeFuncBound
import Derived.RangeFuncCalls
import Derived.RangeFuncLeaves
import Derived.Shelf.RegionOpen
import Derived.WalkKit
import Derived.OwnWalkIn
import Derived.TacticsInMore
import Derived.LoopNIn
import Derived.LoopIn
import Derived.Lib.Walk
namespace Go.Proofs.YtkmlfkbpcgkpaaaGreatDoor
open Go.RowKit Go.Lib Go.Shelf
def EndsM {α : Type} (B : Nat) (Kp : World→World→Prop) (I : List α→World→Prop) (xs : List α) (W : World) : Exit→Act→World→Prop
 | .normal,_,W'=>KeepsFrom B W W'∧Kp W W'∧I xs W'
 | .ret,_,_=>False
 | .exit _,_,_=>False
 | .goto _,_,_=>False
 | .panic _,_,_=>False
 | .outgrown,_,_=>False
def SeqM {α : Type} (F : Fence) (n : Nat) (P : Program) (gf : Nat) (lb : Array Value) (encs : α→Array Value) (Kp : World→World→Prop) (C : World→Prop) (M : List α→α→World→Prop) (S : List α→Prop) (w0 : World) : Prop :=
 ∀ (l : Nat) (J : List α→World→Prop) (V : World),Below w0.heap.size w0 V→OwnFrom V.heap.size J→(∀ pre U,J pre U→C U) →
   (∀ pre x U,J pre U→M pre x U→YieldAt F (n - 1) P l (encs x) U fun e U'=>e=.returned (.bool true)∧J (pre++[x]) U'∧Kp U U'∧KeepsFrom V.heap.size U U') →
   J [] V→CallsIn F n P gf (#[.func (.yield l) #[] #[]]++lb) V fun e V'=>(∃ v,e=.returned v)∧∃ xs,S xs∧J xs V'
variable {F : Fence} {n : Nat} {P : Program} {w : World}
def recM (fn : FuncId) (a : Act) (ps : Array Tmp) (assign body : Code) (D : Nat) (st : LoopState) : Loop:={ state:=st,pending:=none,fn,tmps:=a.tmps,params:=ps,assign,body,defers:=D }
theorem zcP {α : Type} {g : Operand} {ps : Array Tmp} {assign body : Code} {Q : Exit→Act→World→Prop} {a : Act}
 (hro : F.round=none) (h1 : 1≤n) {gf : Nat} {lb : Array Value} (hg : a.eval g=.func (.func gf) #[] lb) (hFg : F.fn gf) (eg : ∀ args w,(callFunc gf args).run P w=.ok (.enter gf args) w)
 {encs : α→Array Value} {Kp : World→World→Prop} {C : World→Prop} {M : List α→α→World→Prop} {S : List α→Prop} {w0 : World} (hseq : SeqM F (n - 1) P gf lb encs Kp C M S w0)
 (hKt : ∀ {A B D : World},Kp A B→Kp B D→Kp A D) (hKb : ∀ (W : World) (l : Nat) (o o' : Obj),w.heap.size≤l→W.heap[l]?=some o→o.isCells=false→C W→Kp W (W.putObj l o'))
 (hb0 : Below w0.heap.size w0 w) (hps : ∀ x,(encs x).size=ps.size) (I : List α→World→Prop) (hI : OwnFrom w.heap.size I) (hC : ∀ pre V,I pre V→C V) (h0 : I [] w)
 (hround : ∀ (l : Nat) (pre : List α) (x : α) (W : World),w.heap.size≤l→I pre W→M pre x W→assign.wpIn (F.inRound l) (n - 1 - 1) P
   (Exit.then (fun a' Wa=>KeepsFrom w.heap.size W Wa∧Kp W Wa∧I pre Wa∧∀ Wb : World,Wa.grownBy Wb (some l)→(∃ o : Obj,Wa.heap[l]?=some o∧o.isCells=false)→I pre Wb→body.wpIn (F.inRound l) (n - 1 - 1) P (EndsM w.heap.size Kp I (pre++[x]) Wb) a' Wb) (fun _ _ _=>False))
   { tmps:=(ps.zip (encs x)).foldl (fun t (p,v)=>t.setIfInBounds p v) a.tmps,defers:=[] } W)
 (hdone : ∀ (D : Nat) (xs : List α) (W : World),w.heap.size≤D→S xs→I xs W→W.heap[D]?=some (.deferred (some []))→Q .normal { a with defers:={ target:=.collected D,args:=#[] } :: a.defers } W) :
 (Code.rangeFunc g ps assign body).wpIn F n P Q a w:=by
 refine wpIn_rangeFunc fun fn hfn=>?_
 rw [hro]
 obtain ⟨rec,hrec⟩ : ∃ rec,recM fn a ps assign body w.heap.size=rec:=⟨_,rfl⟩
 have hpm : ∀ st,(rec st).params=ps:=fun st=>by rw [← hrec];rfl
 have hrst : ∀ st,(rec st).state=st:=fun st=>by rw [← hrec];rfl
 have hrpn : ∀ st,(rec st).pending=none:=fun st=>by rw [← hrec];rfl
 obtain ⟨V,hV⟩ : ∃ V,(w.alloc (.deferred (some []))).alloc (.loop (rec .ready))=V:=⟨_,rfl⟩
 have hVs : V.heap.size=w.heap.size+2:=by rw [← hV];simp
 have hrecV : V.heap[w.heap.size+1]?=some (.loop (rec .ready)):=by
  rw [← hV]
  have e:=World.alloc_heap_new (w.alloc (.deferred (some []))) (.loop (rec .ready))
  rwa [World.size_alloc] at e
 have hdefV : V.heap[w.heap.size]?=some (.deferred (some [])):=by
  rw [← hV]
  exact (Below.heap_alloc _ _ _ (by simp)).trans (World.alloc_heap_new w _)
 have hIV : I [] V:=by rw [← hV];exact hI.alloc _ (hI.alloc _ h0)
 have hbV : Below w0.heap.size w0 V:=by
  rw [← hV]
  exact hb0.trans ((((Below.refl _ w).alloc (Nat.le_refl _) _).alloc (by simp) _).mono hb0.size)
 have hnl : ∀ (X : World) (o : Obj) (k : Nat) (U U' : World) (row : Option Nat),(∀ r,row=some r→V.heap.size≤r∧∃ o : Obj,U.heap[r]?=some o∧o.isCells=false)→k < V.heap.size→row=some k→False:=fun _ _ k U U' row hr hk e=>by
  have:=(hr k e).1
  omega
 refine ⟨w.heap.size+1,[{ target:=.collected w.heap.size,args:=#[] }],V,{ target:=.fn (.func gf) lb,args:=#[.func (.yield (w.heap.size+1)) #[] #[]] },V,gf,#[.func (.yield (w.heap.size+1)) #[] #[]]++lb,V,?_,?_,?_,?_,fun _=>h1,?_⟩
 ·rw [← hV,← hrec]
  exact run_enterLoop_outer _ _ _ _ _
 ·simp only [resolve,hg]
  simp [go_sem]
 ·intro f' hf'
  simp [Target.leads] at hf'
  subst hf'
  exact hFg
 ·simp [invoke,go_sem,eg]
 have hcall:=hseq (w.heap.size+1) (fun pre U=>I pre U∧U.heap[w.heap.size+1]?=some (.loop (rec .ready))∧U.heap[w.heap.size]?=some (.deferred (some []))) V hbV
  (fun s U U' row hs hgr hr=>⟨hI s U U' row hs.1 hgr (fun r e=>⟨by have:=(hr r e).1;omega,(hr r e).2⟩),(hgr.block _ (Array.getElem?_eq_some_iff.1 hs.2.1).1 (fun e=>hnl w (.deferred none) _ U U' row hr (by omega) e.symm)).trans hs.2.1,(hgr.block _ (Array.getElem?_eq_some_iff.1 hs.2.2).1 (fun e=>hnl w (.deferred none) _ U U' row hr (by omega) e.symm)).trans hs.2.2⟩)
  (fun pre U hs=>hC pre U hs.1)
  (by
    rintro pre x U ⟨hi,hl,hk⟩ hm
    have hy:=run_yield (P:=P) (args:=encs x) hl (by rw [hpm];exact hps x)
    rw [← hrec] at hy
    refine ⟨fn,_,assign,body,hy,roundIn_of_wpIn hfn (wpIn_mono (hround (w.heap.size+1) pre x U (by omega) hi hm) ?_)⟩
    intro e a' Ua hp
    cases e with
    | normal =>
      obtain ⟨hka,hkpa,hia,hbody⟩:=hp
      have hla:=hka.same _ _ (by omega) hl rfl
      have hda:=hka.same _ _ (Nat.le_refl _) hk rfl
      have hlt:=(Array.getElem?_eq_some_iff.1 hla).1
      have hib : I pre (Ua.putObj (w.heap.size+1) (.loop { rec .ready with state:=.busy })):=hI.putObj _ hia (by omega) hla rfl
      have hKb1:=hKb Ua _ _ (.loop { rec .ready with state:=.busy }) (by omega) hla rfl (hC _ _ hia)
      refine ⟨_,run_beginRound hla (hrst _),wpIn_mono (hbody _ (grownBy_putObj' Ua _ _) ⟨_,hla,rfl⟩ hib) ?_⟩
      intro e2 a2 Uc hp2
      cases e2 with
      | normal =>
        obtain ⟨hkc,hkpc,hic⟩:=hp2
        have hlc:=hkc.same _ _ (by omega) (World.putObj_heap_same (o:=.loop { rec .ready with state:=.busy }) hlt) rfl
        have hdc:=hkc.same _ _ (Nat.le_refl _) ((World.putObj_heap_other (by omega)).trans hda) rfl
        have hend:=run_endRound (P:=P) none hlc
        have hready : ({ ({ rec .ready with state:=.busy } : Loop) with state:=if (none : Option Code).isNone then LoopState.ready else .done,pending:=none } : Loop)=rec .ready:=by rw [← hrec];rfl
        rw [hready] at hend
        exact ⟨_,_,hend,rfl,⟨hI.putObj _ hic (by omega) hlc rfl,World.putObj_heap_same (Array.getElem?_eq_some_iff.1 hlc).1,(World.putObj_heap_other (by omega)).trans hdc⟩,hKt hkpa (hKt (hKt hKb1 hkpc) (hKb _ _ _ _ (by omega) hlc rfl (hC _ _ hic))),⟨by
         have e1:=hka.size
         have e2:=hkc.size
         simp [World.putObj] at e2 ⊢
         omega,fun k o hk ho hc=>(World.putObj_heap_other (by omega)).trans (hkc.same k o (by omega) ((World.putObj_heap_other (by omega)).trans (hka.same k o (by omega) ho hc)) hc)⟩⟩
      | ret=>exact hp2.elim
      | exit id=>exact hp2.elim
      | goto t=>exact hp2.elim
      | panic ch=>exact hp2.elim
      | outgrown=>exact hp2.elim
    | ret=>exact hp.elim
    | exit id=>exact hp.elim
    | goto t=>exact hp.elim
    | panic ch=>exact hp.elim
    | outgrown=>exact hp.elim)
  ⟨hIV,hrecV,hdefV⟩
 refine hcall.mono ?_
 rintro e U ⟨⟨v,rfl⟩,xs,hS,hi,hl,hk⟩
 have hend:=run_endLoop (P:=P) hl (by rw [hrst];simp)
 rw [hrpn] at hend
 exact ⟨none,_,hend,hdone _ xs _ (Nat.le_refl _) hS (hI.putObj _ hi (by omega) hl rfl) ((World.putObj_heap_other (by omega)).trans hk)⟩
end Go.Proofs.YtkmlfkbpcgkpaaaGreatDoor
namespace Go.Proofs.YtkmlfkbpcgkpaaaGreatDoor
open Go.RowKit Go.Lib Go.Op Go.Shelf
theorem zgI {W : World} {p : Addr} {u : Value} (h : W.cell? p=some u) : ∃ c t fr,W.heap[p.block]?=some (.cells c t fr):=by
 unfold World.cell? at h
 cases ho : W.heap[p.block]? with
 | none=>simp [ho] at h
 | some o=>cases o <;> simp_all
def NoC (W : World) (g : Nat) : Prop:=∀ c t fr,W.heap[g]?≠some (.cells c t fr)
def NcD {α : Type} (D : RowD α) : Prop:=∀ K w cs x,D.P K w cs x→D.P (fun g=>K g∨NoC w g) w cs x
theorem RowK.nc {α : Type} {D : RowD α} (hD : NcD D) (hk : 0 < D.k) {K : Nat→Prop} {w : World} {v : Value} {l : List α} (h : RowK D K w v l) : RowK D (fun g=>K g∨NoC w g) w v l:=by
 obtain ⟨a,c,e,hcap,h⟩:=h
 refine ⟨a,c,e,hcap,fun j x hj=>?_⟩
 obtain ⟨g,o,cs,ea,hg,hp,hc⟩:=h j x hj
 have hl:=D.len hp
 have h0:=hc 0 (cs[0]'(by omega)) (List.getElem?_eq_getElem _)
 obtain ⟨c1,t1,f1,hh⟩:=zgI h0
 exact ⟨g,o,cs,ea,fun hn=>hn.elim hg (fun e=>e _ _ _ hh),hD _ _ _ _ hp,hc⟩
theorem zja : NcD valD:=fun _ _ _ _ h=>h
theorem zks : NcD evD:=fun _ _ _ _ ⟨a,c,h,h1,h2⟩=>⟨a,c,h,h1.nc zja (by decide),h2⟩
theorem zbK : NcD evsD:=fun _ _ _ _ ⟨a,c,h,h1⟩=>⟨a,c,h,h1.nc zks (by decide)⟩
theorem zbX : NcD runD:=fun _ _ _ _ ⟨a,c,h,h1⟩=>⟨a,c,h,h1.nc zbK (by decide)⟩
theorem zjb : NcD numD:=fun _ _ _ _ h=>h
theorem ziL : NcD stateD:=fun _ _ _ _ ⟨a,c,b,d,h,h1,h2⟩=>⟨a,c,b,d,h,h1.nc zjb (by decide),h2.nc zjb (by decide)⟩
theorem zjB : NcD nameD:=fun _ _ _ _ h=>h
theorem zjC : NcD itemD:=fun _ _ _ _ ⟨a,c,h,h1⟩=>⟨a,c,h,h1.nc zjB (by decide)⟩
structure KpW (Sw : World→Nat→Prop) (W W' : World) : Prop where
 os : W'.os=W.os
 tape : W'.tape=W.tape
 output : W'.output=W.output
 size : W.heap.size≤W'.heap.size
 blk : ∀ (b : Nat) (c : Array Value) (t : TypeId) (fr : Nat × Nat),W.heap[b]?=some (.cells c t fr)→¬ Sw W b→W'.heap[b]?=some (.cells c t fr)
 sw : ∀ b,b < W.heap.size→Sw W' b→Sw W b
theorem KpW.trans {Sw : World→Nat→Prop} {A B C : World} (h : KpW Sw A B) (k : KpW Sw B C) : KpW Sw A C :=
 ⟨k.os.trans h.os,k.tape.trans h.tape,k.output.trans h.output,Nat.le_trans h.size k.size,fun b c t fr hb hn=>by
   have h1:=h.blk b c t fr hb hn
   exact k.blk b c t fr h1 (fun e=>hn (h.sw b (Array.getElem?_eq_some_iff.1 hb).1 e)),fun b hb hs=>h.sw b hb (k.sw b (Nat.lt_of_lt_of_le hb h.size) hs)⟩
theorem KpW.tfr {Sw : World→Nat→Prop} {W W' : World} (h : KpW Sw W W') : TFr (fun g=>Sw W g∨NoC W g) W W' :=
 ⟨h.os,h.tape,h.output,h.size,fun k hk hn=>by
   by_cases hc : NoC W k
   ·exact absurd (.inr hc) hn
   ·unfold NoC at hc
    simp only [ne_eq,Classical.not_forall,Classical.not_not] at hc
    obtain ⟨c,t,fr,hh⟩:=hc
    exact (h.blk k c t fr hh (fun e=>hn (.inl e))).trans hh.symm⟩
theorem KpW.out {Sw : World→Nat→Prop} {W W' : World} (h : KpW Sw W W') {g : Nat} (hg : Sw W' g) : Sw W g∨NoC W g:=by
 rcases Nat.lt_or_ge g W.heap.size with hl|hl
 ·exact .inl (h.sw g hl hg)
 ·refine .inr (fun c t fr e=>?_)
  rw [Array.getElem?_eq_none hl] at e
  cases e
theorem RowK.kp {α : Type} {D : RowD α} (hD : NcD D) (hk : 0 < D.k) {Sw : World→Nat→Prop} {W W' : World} {v : Value} {l : List α} (h : RowK D (Sw W) W v l) (hp : KpW Sw W W') : RowK D (Sw W') W' v l :=
 ((h.nc hD hk).keep hp.tfr).mono (fun _ hg=>hp.out hg)
theorem ComAt.kp {Sw : World→Nat→Prop} {W W' : World} {qa va ea : Option Addr} {q qc m vc en ec : Nat} {p : PQu} {e : PEv} (h : ComAt (Sw W) W qa q qc va m vc ea en ec p e) (hp : KpW Sw W W') : ComAt (Sw W') W' qa q qc va m vc ea en ec p e:=⟨h.1.kp zjC (by decide) hp,h.2.1.kp ziL (by decide) hp,h.2.2.kp zja (by decide) hp⟩
theorem Blk.kp {Sw : World→Nat→Prop} {W W' : World} {b : Nat} {cs : Array Value} {t : TypeId} (h : Blk W b cs t) (hn : ¬ Sw W b) (hp : KpW Sw W W') : Blk W' b cs t∧¬ Sw W' b:=⟨hp.blk _ _ _ _ h hn,fun e=>hn (hp.sw b h.lt e)⟩
structure SwOk (Sw : World→Nat→Prop) (C : World→Prop) : Prop where
 lt : ∀ W,C W→∀ b,Sw W b→b < W.heap.size
 low : ∀ W W',C W→Below W.heap.size W W'→∀ b,Sw W' b→Sw W b
 grow : ∀ (W W' : World) (row : Option Nat),C W→W.grownBy W' row→(∀ r,row=some r→∃ o : Obj,W.heap[r]?=some o∧o.isCells=false)→∀ b,Sw W' b→Sw W b
theorem KpW.grown {Sw : World→Nat→Prop} {C : World→Prop} (hS : SwOk Sw C) {W W' : World} {row : Option Nat} (hC : C W) (hg : W.grownBy W' row) (hr : ∀ r,row=some r→∃ o : Obj,W.heap[r]?=some o∧o.isCells=false) : KpW Sw W W' :=
 ⟨hg.os,hg.tape,hg.output,hg.size,fun b c t fr hb _=>(hg.block b (Array.getElem?_eq_some_iff.1 hb).1 (fun e=>by
   obtain ⟨o,ho,hoc⟩:=hr b e.symm
   rw [ho] at hb
   injection hb with hb
   rw [hb] at hoc
   cases hoc)).trans hb,fun b _ hs=>hS.grow W W' row hC hg hr b hs⟩
theorem KpW.put {Sw : World→Nat→Prop} {C : World→Prop} (hS : SwOk Sw C) (W : World) (l : Nat) (o o' : Obj) (hl : W.heap[l]?=some o) (ho : o.isCells=false) (hC : C W) : KpW Sw W (W.putObj l o') :=
 KpW.grown hS hC (grownBy_putObj' W l o') (fun r e=>by cases e;exact ⟨o,hl,ho⟩)
theorem RoundIn.within {m n l k : Nat} {P : Program} {f : FuncId} {t : Array Value} {x y : Code} {w : World} {R : Ending→World→Prop} (h : RoundIn Fence.wide n P l f t x y w R) : RoundIn (Fence.wide.inRound k) m P l f t x y w R :=
 ⟨h.1,fun c cs _=>h.2 c cs (by simp [Fence.room,Fence.wide])⟩
structure DV where
 d : PDe
 a : Option Addr
 c : Nat
def DV.enc (x : DV) : Array Value:=#[.agg #[.int .i64 x.d.run.place,.slice x.a x.d.run.bound.length x.c,.bool x.d.on,.bool x.d.fd]]
def DM (Sw : World→Nat→Prop) (N : Nat) (pre : List DV) (x : DV) (V : World) : Prop:=pre.length < N∧RowK evsD (Sw V) V (.slice x.a x.d.run.bound.length x.c) x.d.run.bound
theorem zdu {w : World} {K : Nat→Prop} {a : Option Addr} {n c k : Nat} {l : List PRun} (h : RowK runD K w (.slice a n c) l) (hk : k≤n) : (∀ W : World,(Instr.slice 48 (.slice a n c) none (some (.int .i64 k)) none).run Tryz.prog W=.ok (.slice a k c) W)∧RowK runD K w (.slice a k c) (l.take k):=by
 have hn : n=l.length:=h.len
 have hc:=h.cap
 refine ⟨fun W=>?_,?_⟩
 ·have hz : (sizeOf 59).run Tryz.prog W=.ok 2 W:=by kernel_rfl
  rw [run_slice_h (P:=Tryz.prog) W 48 a n c (by kernel_rfl) .i64 (k : Int) (by omega) (by omega)]
  have he : Tryz.prog.elem 48=59:=by kernel_rfl
  rw [he,hz]
  cases a <;> simp [Result.andThen,sliced,Addr.add]
 ·obtain ⟨a',c',e,hcap,h⟩:=h
  injection e with e1 e2 e3
  subst e1 e3
  have hlen : (l.take k).length=k:=by rw [List.length_take];omega
  refine ⟨a,c,by rw [hlen],by rw [hlen];omega,fun j x hj=>h j x ?_⟩
  have hjk : j < k:=by have:=(List.getElem?_eq_some_iff.1 hj).1;omega
  rwa [List.getElem?_take_of_lt hjk] at hj
set_option maxHeartbeats 8000000
set_option maxRecDepth 100000
attribute [local go_sem] Oper.semAt_some
theorem zaP {w w' : World} (h : Below w.heap.size w w') : w.grownBy w' none:=⟨h.os,h.tape,h.output,h.size,fun k hk _=>h.block k hk⟩
theorem zkb {its : List PIt} {pl : Int} {i : Nat} (hpl : pl+1=i) {s : PSt} (hs : (stsN its)[i]?=some s) : stQ its pl=s:=by
 unfold stQ
 rw [hpl,Int.toNat_natCast,hs]
 rfl
theorem zfw {A : List (List PEv)→Nat→Bool} {its : List PIt} {e : PEv} {b : List (List PEv)} {k : Nat} {t : PRun} (h : takesP A its e b k=some t) : t.place=(k : Int)∧t.bound.length=b.length∧k < its.length:=by
 unfold takesP at h
 cases hk : its[k]? with
 | none=>rw [hk] at h;cases h
 | some y =>
   rw [hk] at h
   dsimp only at h
   split at h
   ·injection h with h
    rw [← h]
    exact ⟨rfl,by unfold withP;simp,(List.getElem?_eq_some_iff.1 hk).1⟩
   ·cases h
theorem zgd {A : List (List PEv)→Nat→Bool} {its : List PIt} {e : PEv} {b : List (List PEv)} {nx : List Nat} {t : PRun} (h : t∈nx.filterMap (takesP A its e b)) : ∃ k : Nat,t.place=(k : Int)∧t.place+1=((k+1 : Nat) : Int)∧k < its.length∧(stsN its)[k+1]?=some (stQ its t.place):=by
 obtain ⟨k,_,hk⟩:=List.mem_filterMap.1 h
 obtain ⟨h1,_,h3⟩:=zfw hk
 refine ⟨k,h1,by rw [h1];omega,h3,?_⟩
 have:=zd9 (its:=its) (k:=t.place) (by omega) (by omega)
 rwa [show (t.place+1).toNat=k+1 by omega] at this
structure DoS (Sw : World→Nat→Prop) (W : World) (xc : Nat) (cs : Array Value) (v : Value) (T : List PRun) (qa : Option Addr) (q qc : Nat) (va : Option Addr) (m vc : Nat) (ea : Option Addr) (en ec : Nat) (p : PQu) (e : PEv) : Prop where
 x : Blk W xc cs 107
 xn : ¬ Sw W xc
 com : ComAt (Sw W) W qa q qc va m vc ea en ec p e
 t : RowK runD (Sw W) W v T
section
variable {Sw : World→Nat→Prop} {C : World→Prop} {W W' : World} {xc : Nat} {cs : Array Value} {v : Value} {T : List PRun} {qa va ea : Option Addr} {q qc m vc en ec : Nat} {p : PQu} {e : PEv}
theorem DoS.low (h : DoS Sw W xc cs v T qa q qc va m vc ea en ec p e) (hS : SwOk Sw C) (hC : C W) (hb : Below W.heap.size W W') : DoS Sw W' xc cs v T qa q qc va m vc ea en ec p e :=
 ⟨h.x.low hb,fun hn=>h.xn (hS.low _ _ hC hb _ hn),(h.com.low hb).mono (hS.low _ _ hC hb),(h.t.low hb).mono (hS.low _ _ hC hb)⟩
theorem DoS.kp (h : DoS Sw W xc cs v T qa q qc va m vc ea en ec p e) (hp : KpW Sw W W') : DoS Sw W' xc cs v T qa q qc va m vc ea en ec p e :=
 ⟨(h.x.kp h.xn hp).1,(h.x.kp h.xn hp).2,h.com.kp hp,h.t.kp zbX (by decide) hp⟩
end
section
variable {sa qa qb va ea : Option Addr} {sn sc qc r d vc ec q m en : Nat} {p : PQu} {e : PEv} {a : Option Addr} {n c : Nat} {A : List (List PEv)→Nat→Bool} {b : List (List PEv)} {Sw : World→Nat→Prop} {C : World→Prop}
theorem ziK (hS : SwOk Sw C) (nf : Nat) (hnf : 1≤nf) {w0 : World} {xc xr : Nat} (hC0 : C w0) (hX : Blk w0 xc #[.slice sa sn sc,.slice qa q qc,.slice qb r d,.int .i64 p.within,.string (strB p.by_),.int .i64 p.pick,.slice va m vc,.int .i64 e.ts,.int .i64 e.dep,.int .i64 e.seq,.string (strB e.name),.slice ea en ec] 107) (hXn : ¬ Sw w0 xc) {pl : Int} (hY : Blk w0 xr #[.int .i64 pl,.slice a n c] 59) (_hYn : ¬ Sw w0 xr)
 (hall : AllSaid A sa sn sc qa q qc qb r d p) (h : ComAt (Sw w0) w0 qa q qc va m vc ea en ec p e) (hb : RowK evsD (Sw w0) w0 (.slice a n c) b) (hbn : b.length=q) (hys : ∀ y∈p.its,y.ns.length≤1000000) (hq6 : q≤6) (hbs : ∀ l∈b,l.length≤100000) (hnm : e.name.length≤maxLen) {i : Nat} (hpl : pl+1=i) (hi : i≤1000000) {s : PSt} (hs : (stsN p.its)[i]?=some s) (hnx : (∀ k∈s.nx,k < q)∧(∀ k∈s.gd,k < q)) (hnl : s.nx.length≤1000∧s.gd.length≤1000) (hpk : p.pick=1∨p.pick=2∨p.pick=3) :
 SeqM Fence.wide nf Tryz.prog 156 #[.pointer (some ⟨xc,0,none⟩),.pointer (some ⟨xr,0,none⟩)] DV.enc (KpW Sw) C (DM Sw (doesP A p.its e p.pick ⟨pl,b⟩).length) (fun xs=>xs.map (·.d)=doesP A p.its e p.pick ⟨pl,b⟩) w0:=by
 intro l J V hV hJ hJC hYI h0
 have hCV:=hJC [] V h0
 have hsw:=hS.low w0 V hC0 hV
 have hst : stQ p.its pl=s:=zkb hpl hs
 obtain ⟨DL,hDL⟩ : ∃ DL,doesP A p.its e p.pick ⟨pl,b⟩=DL:=⟨_,rfl⟩
 rw [hDL] at hYI ⊢
 unfold doesP at hDL
 have HREF:=hid (fun (W : World) (hW : Below V.heap.size V W) (hCW : C W)=>zdS (K:=Sw W) (a:=a) (n:=n) (c:=c) hall (((h.low hV).low hW).mono (fun g hg=>hsw g (hS.low _ _ hCV hW g hg))) (hS.lt _ hCW) (((hb.low hV).low hW).mono (fun g hg=>hsw g (hS.low _ _ hCV hW g hg))) hbn hys hq6 hbs hnm hpl hi hs hnx.2 hnl.2)
 have HTAK:=hid (fun (W : World) (hW : Below V.heap.size V W) (hCW : C W)=>zcN (K:=Sw W) (a:=a) (n:=n) (c:=c) hall (((h.low hV).low hW).mono (fun g hg=>hsw g (hS.low _ _ hCV hW g hg))) (hS.lt _ hCW) (((hb.low hV).low hW).mono (fun g hg=>hsw g (hS.low _ _ hCV hW g hg))) hbn hys hq6 hbs hnm hpl hi hs hnx.1 hnl.1)
 have HSTA:=hid (fun (W : World) (hW : Below V.heap.size V W)=>zbi (K:=fun _=>False) (sa:=sa) (sn:=sn) (sc:=sc) (qb:=qb) (r:=r) (d:=d) (a:=a) (n:=n) (c:=c) (((h.low hV).low hW).mono (fun _ h=>h.elim)) hpl hi hs)
 have HCOM : Hid (∀ W,Below V.heap.size V W→C W→ComAt (Sw W) W qa q qc va m vc ea en ec p e):=fun W hW hCW=>((h.low hV).low hW).mono (fun g hg=>hsw g (hS.low _ _ hCV hW g hg))
 have HROWB : Hid (∀ W,Below V.heap.size V W→C W→RowK evsD (Sw W) W (.slice a n c) b):=fun W hW hCW=>((hb.low hV).low hW).mono (fun g hg=>hsw g (hS.low _ _ hCV hW g hg))
 have HXV : Hid (Blk V xc #[.slice sa sn sc,.slice qa q qc,.slice qb r d,.int .i64 p.within,.string (strB p.by_),.int .i64 p.pick,.slice va m vc,.int .i64 e.ts,.int .i64 e.dep,.int .i64 e.seq,.string (strB e.name),.slice ea en ec] 107):=hX.low hV
 have HYV : Hid (Blk V xr #[.int .i64 pl,.slice a n c] 59):=hY.low hV
 have HXN : Hid (∀ W,Below V.heap.size V W→¬ Sw W xc):=fun W hW hn=>hXn (hsw _ (hS.low _ _ hCV hW _ hn))
 have HJ:=hid hJ
 have HJC:=hid hJC
 have HYI:=hid hYI
 have H0 : Hid (J [] V):=h0
 have HS:=hid hS
 have HNB : Hid (n=b.length):=hb.len
 have HAB : Hid (∀ pre U U',J pre U→Below U.heap.size U U'→J pre U'):=fun pre U U' hj hb=>hJ pre U U' none hj (zaP hb) (fun r e=>by cases e)
 obtain ⟨zr,hzr⟩ : ∃ zr,(s.gd.any fun k=>(takesP A p.its e b k).isSome)=zr:=⟨_,rfl⟩
 obtain ⟨TL,hTL⟩ : ∃ TL,s.nx.filterMap (takesP A p.its e b)=TL:=⟨_,rfl⟩
 have hTLb : TL.length≤1000:=by rw [← hTL];exact Nat.le_trans (List.length_filterMap_le _ _) hnl.1
 have HTAT : Hid (∀ t∈TL,∃ k : Nat,t.place=(k : Int)∧t.place+1=((k+1 : Nat) : Int)∧k < p.its.length∧(stsN p.its)[k+1]?=some (stQ p.its t.place)):=fun t ht=>zgd (by rw [hTL];exact ht)
 have hqq : q=p.its.length:=h.1.len
 have HQQ : Hid (q=p.its.length∧q≤6):=⟨hqq,hq6⟩
 rw [hzr] at HREF
 rw [hTL] at HTAK
 have hDL2 : (if zr=true then [] else (if staysP A p.its e p.pick ⟨pl,b⟩ then [⟨⟨pl,b⟩,true,false⟩] else [])++(goesP A p.its e p.pick ⟨pl,b⟩).map (behindP p.its))=DL:=by
  rw [← hDL,← hzr]
  unfold refusedP
  rw [hst]
 have hTP : takenP A p.its e ⟨pl,b⟩=TL:=by unfold takenP;rw [hst];exact hTL
 have hWS : waitsS (stQ p.its pl)=waitsS s:=by rw [hst]
 unfold staysP goesP at hDL2
 rw [hTP] at hDL2
 have HDL:=hid hDL2
 have HWS:=hid hWS
 have HNL : Hid (n=b.length):=hb.len
 have hx1:=zab (hX.low hV) (k:=0) rfl
 have x0:=zab (hX.low hV) (k:=0) rfl
 have x1:=zab (hX.low hV) (k:=1) rfl
 have x2:=zab (hX.low hV) (k:=2) rfl
 have x3:=zab (hX.low hV) (k:=3) rfl
 have x4:=zab (hX.low hV) (k:=4) rfl
 have x5:=zab (hX.low hV) (k:=5) rfl
 have x6:=zab (hX.low hV) (k:=6) rfl
 have x7:=zab (hX.low hV) (k:=7) rfl
 have x8:=zab (hX.low hV) (k:=8) rfl
 have x9:=zab (hX.low hV) (k:=9) rfl
 have x10:=zab (hX.low hV) (k:=10) rfl
 have x11:=zab (hX.low hV) (k:=11) rfl
 have y0:=zab (hY.low hV) (k:=0) rfl
 have y1:=zab (hY.low hV) (k:=1) rfl
 clear hV hsw hst hDL hDL2 hTP hWS hzr hTL hqq hall h hb hbn hys hq6 hbs hnm hpl hi hs hnx hnl hX hXn hY _hYn hC0 hJ hJC hYI h0 hx1
 refine callsIn_of_wp Tryz.func156 rfl trivial ?_ rfl
 simp only [Tryz.ntmps156,List.size_toArray,List.length_cons,List.length_nil,Nat.reduceAdd,Nat.reduceSub,Array.replicate_succ,Array.replicate_zero,List.push_toArray,List.append_toArray,List.nil_append,List.cons_append]
 gi_wp2
 refine ⟨trivial,(callsIn_wide.2 (HREF.out V (Below.refl _ _) hCV)).mono ?_⟩
 rintro e1 W1 ⟨rfl,hb1⟩
 have hJ1:=HAB.out [] V W1 H0.out hb1
 have hC1:=HJC.out [] W1 hJ1
 have HJ1:=hid hJ1
 have HB1:=hid hb1
 have x0:=zab (HXV.out.low hb1) (k:=0) rfl
 have x1:=zab (HXV.out.low hb1) (k:=1) rfl
 have x2:=zab (HXV.out.low hb1) (k:=2) rfl
 have x3:=zab (HXV.out.low hb1) (k:=3) rfl
 have x4:=zab (HXV.out.low hb1) (k:=4) rfl
 have x5:=zab (HXV.out.low hb1) (k:=5) rfl
 have x6:=zab (HXV.out.low hb1) (k:=6) rfl
 have x7:=zab (HXV.out.low hb1) (k:=7) rfl
 have x8:=zab (HXV.out.low hb1) (k:=8) rfl
 have x9:=zab (HXV.out.low hb1) (k:=9) rfl
 have x10:=zab (HXV.out.low hb1) (k:=10) rfl
 have x11:=zab (HXV.out.low hb1) (k:=11) rfl
 have y0:=zab (HYV.out.low hb1) (k:=0) rfl
 have y1:=zab (HYV.out.low hb1) (k:=1) rfl
 cases zr with
 | true =>
   have hD0 : ([] : List PDe)=DL:=HDL.out
   have HD0:=hid hD0
   clear hD0
   gi_wp2
   refine bodyPost_ret (results_none rfl _ _ _) rfl ?_
   exact ⟨⟨_,rfl⟩,[],by rw [← HD0.out];rfl,HJ1.out⟩
 | false =>
 gi_wp2
 refine ⟨trivial,(callsIn_wide.2 (HTAK.out W1 hb1 hC1)).mono ?_⟩
 rintro e2 W2 ⟨v,css,rfl,ho,hb2⟩
 obtain ⟨va1,vc1,rfl⟩:=ho.slice
 have hb12:=hb1.trans (hb2.mono hb1.size)
 have hJ2:=HAB.out [] W1 W2 hJ1 hb2
 have hC2:=HJC.out [] W2 hJ2
 have hrow:=ho.row' (K':=Sw W2) (fun g hg=>.inl (HS.out.low _ _ hC1 hb2 g hg)) (fun g hg hk=>by
  have e1:=(ho.own g hg).1
  have e2:=HS.out.lt _ hC1 g (HS.out.low _ _ hC1 hb2 g hk)
  omega)
 obtain ⟨tl,htl⟩ : ∃ tl,TL.length=tl:=⟨_,rfl⟩
 have HTLN:=hid htl
 rw [htl] at hrow hTLb ⊢
 have HD2 : Hid (DoS Sw W2 xc #[.slice sa sn sc,.slice qa q qc,.slice qb r d,.int .i64 p.within,.string (strB p.by_),.int .i64 p.pick,.slice va m vc,.int .i64 e.ts,.int .i64 e.dep,.int .i64 e.seq,.string (strB e.name),.slice ea en ec] (.slice va1 tl vc1) TL qa q qc va m vc ea en ec p e):=⟨HXV.out.low hb12,HXN.out W2 hb12,HCOM.out W2 hb12 hC2,hrow⟩
 have HRB2 : Hid (RowK evsD (Sw W2) W2 (.slice a n c) b):=HROWB.out W2 hb12 hC2
 have HJ2:=hid hJ2
 have HC2:=hid hC2
 have HB12:=hid hb12
 have x0:=zab (HXV.out.low hb12) (k:=0) rfl
 have x1:=zab (HXV.out.low hb12) (k:=1) rfl
 have x2:=zab (HXV.out.low hb12) (k:=2) rfl
 have x3:=zab (HXV.out.low hb12) (k:=3) rfl
 have x4:=zab (HXV.out.low hb12) (k:=4) rfl
 have x5:=zab (HXV.out.low hb12) (k:=5) rfl
 have x6:=zab (HXV.out.low hb12) (k:=6) rfl
 have x7:=zab (HXV.out.low hb12) (k:=7) rfl
 have x8:=zab (HXV.out.low hb12) (k:=8) rfl
 have x9:=zab (HXV.out.low hb12) (k:=9) rfl
 have x10:=zab (HXV.out.low hb12) (k:=10) rfl
 have x11:=zab (HXV.out.low hb12) (k:=11) rfl
 have y0:=zab (HYV.out.low hb12) (k:=0) rfl
 have y1:=zab (HYV.out.low hb12) (k:=1) rfl
 clear ho hb2 hb12 hJ2 hC2 hrow htl hJ1 hC1 hb1
 rcases hpk with hp1|hp1|hp1
 ·rw [hp1] at x5
  have hp3 : (p.pick == 3)=false:=by rw [hp1];rfl
  have hp2 : (p.pick == 2)=false:=by rw [hp1];rfl
  have HDE : Hid ([(⟨⟨pl,b⟩,true,false⟩ : PDe)]++TL.map (behindP p.its)=DL):=by
   have e1:=HDL.out
   rw [hp1] at e1
   exact e1
  have HLEN:=HTLN
  have HDT:=HD2
  clear hp1
  have hx0:=HYI.out [] (⟨⟨⟨pl,b⟩,true,false⟩,a,c⟩ : DV) W2 HJ2.out ⟨by rw [← HDE.out];simp,by show RowK evsD (Sw W2) W2 (.slice a b.length c) b;rw [← HNL.out];exact HRB2.out⟩
  obtain ⟨fn,tmps,assign,body,hy,hR⟩:=hx0
  simp only [DV.enc] at hy
  rw [← HNL.out] at hy
  gi_wp2
  refine hR.mono ?_
  rintro e3 W3 ⟨rfl,hJ3,hk3,-⟩
  have HD3:=hid (HDT.out.kp hk3)
  have HJ3 : Hid (∃ pre : List DV,pre.map (·.d)=[(⟨⟨pl,b⟩,true,false⟩ : PDe)]++((TL).take 0).map (behindP p.its)∧J pre W3):=⟨_,rfl,hJ3⟩
  clear hJ3 hk3
  gi_wp2
  gi_loopw [46] (fun i wr=>∃ j : Nat,i=.int .i64 j∧j≤tl∧Hid (∃ pre : List DV,pre.map (·.d)=[(⟨⟨pl,b⟩,true,false⟩ : PDe)]++((TL).take j).map (behindP p.its)∧J pre wr)∧Hid (DoS Sw wr xc #[.slice sa sn sc,.slice qa q qc,.slice qb r d,.int .i64 p.within,.string (strB p.by_),.int .i64 p.pick,.slice va m vc,.int .i64 e.ts,.int .i64 e.dep,.int .i64 e.seq,.string (strB e.name),.slice ea en ec] (.slice va1 tl vc1) (TL) qa q qc va m vc ea en ec p e)) (fun i _=>tl - (RowKit.intOf i).toNat)
  case atStart=>exact ⟨0,rfl,Nat.zero_le _,HJ3,HD3⟩
  case round =>
   clear HJ3 HD3
   obtain ⟨j,rfl,hj,HJP,HDP⟩:=hrel
   obtain ⟨pre,hpre,hJp⟩:=HJP.out
   have hCp:=HJC.out pre wr hJp
   by_cases hlt : j < tl
   ·obtain ⟨t,ht⟩ : ∃ t,(TL)[j]?=some t:=⟨_,List.getElem?_eq_getElem (by rw [HLEN.out];exact hlt)⟩
    obtain ⟨k,hk1,hk2,hkq,hsq⟩:=HTAT.out t (List.mem_of_getElem? ht)
    obtain ⟨g5,o5,a5,c5,eg,d0,d1,hr5⟩:=HDP.out.t.runAt ht
    obtain ⟨m5,hm5⟩ : ∃ m5,t.bound.length=m5:=⟨_,rfl⟩
    rw [hm5] at d1 hr5
    have hb5 : Below wr.heap.size wr (wr.alloc (.cells #[.int .i64 t.place,.slice a5 m5 c5] 59)):=(Below.refl _ _).alloc (Nat.le_refl _) _
    have hDb:=HDP.out.low HS.out hCp hb5
    have hbeh:=zaQ (sa:=sa) (sn:=sn) (sc:=sc) (qb:=qb) (r:=r) (d:=d) (a:=a5) (n:=m5) (c:=c5) hDb.com hk2 (by have:=HQQ.out;omega) hsq
    have HBEH:=hid hbeh
    have HPRE:=hid hpre
    have HJPR:=hid hJp
    have HR5:=hid hr5
    have HDB:=hid hDb
    have HCP:=hid hCp
    have HBW5:=hid hb5
    have HM5:=hid hm5
    have HTJ:=hid ht
    have x0:=zab hDb.x (k:=0) rfl
    have x1:=zab hDb.x (k:=1) rfl
    have x2:=zab hDb.x (k:=2) rfl
    have x3:=zab hDb.x (k:=3) rfl
    have x4:=zab hDb.x (k:=4) rfl
    have x5:=zab hDb.x (k:=5) rfl
    have x6:=zab hDb.x (k:=6) rfl
    have x7:=zab hDb.x (k:=7) rfl
    have x8:=zab hDb.x (k:=8) rfl
    have x9:=zab hDb.x (k:=9) rfl
    have x10:=zab hDb.x (k:=10) rfl
    have x11:=zab hDb.x (k:=11) rfl
    have hj0 : (0 : Int)≤(j : Int):=by omega
    have hj1 : (j : Int) < (tl : Int):=by omega
    subst eg
    clear hk1 hk2 hkq hsq hr5 hb5 hDb hbeh hpre hJp hCp hm5 ht HJP
    gi_wp2
    refine ⟨trivial,(callsIn_wide.2 HBEH.out).mono ?_⟩
    rintro e4 W4 ⟨rfl,hb4⟩
    have hb45:=HBW5.out.trans (hb4.mono HBW5.out.size)
    have hJ4:=HAB.out pre wr W4 HJPR.out hb45
    have hD4:=HDP.out.low HS.out HCP.out hb45
    have hx4:=HYI.out pre (⟨behindP p.its t,a5,c5⟩ : DV) W4 hJ4 ⟨by
     have e1:=congrArg List.length HPRE.out
     have e2:=congrArg List.length HDE.out
     have e3:=HLEN.out
     have e4:=HTLN.out
     simp only [List.length_map,List.length_append,List.length_take] at e1 e2
     (try simp only [List.length_take] at e3)
     omega,by
     show RowK evsD (Sw W4) W4 (.slice a5 t.bound.length c5) t.bound
     rw [HM5.out]
     exact (HR5.out.low hb45).mono (HS.out.low _ _ HCP.out hb45)⟩
    obtain ⟨fn4,tmps4,assign4,body4,hy4,hR4⟩:=hx4
    simp only [DV.enc,behindP] at hy4
    rw [HM5.out] at hy4
    have HD4:=hid hD4
    simp only [onB,fdB]
    clear hb45 hJ4 hD4 hb4 x0 x1 x2 x3 x4 x5 x6 x7 x8 x9 x10 x11 d0 d1
    gi_wp2
    refine hR4.mono ?_
    rintro e5 W5 ⟨rfl,hJ5,hk5,-⟩
    have HJ5 : Hid (∃ pre : List DV,pre.map (·.d)=[(⟨⟨pl,b⟩,true,false⟩ : PDe)]++((TL).take (j+1)).map (behindP p.its)∧J pre W5):=⟨_,by
     rw [List.map_append,HPRE.out,List.take_add_one,HTJ.out]
     simp,hJ5⟩
    have HD5:=hid (HD4.out.kp hk5)
    clear hJ5 hk5
    gi_wp2
    try (refine ⟨fun _ h=>(by cases h),?_⟩)
    try gi_wp2
    go_roundw
    case rel=>exact ⟨j+1,by go_num,by omega,HJ5,HD5⟩
    case measure=>simp [RowKit.intOf];omega
   ·have hjt : tl=j:=by omega
    have htk : (TL).take j=TL:=by rw [← hjt];exact List.take_of_length_le (Nat.le_of_eq HLEN.out)
    have HFIN : Hid (∃ pre : List DV,pre.map (·.d)=DL∧J pre wr):=⟨pre,by rw [hpre,htk];exact HDE.out,hJp⟩
    clear hpre hJp htk HJP
    gi_wp2
    go_end0
    obtain ⟨pre2,h1,h2⟩:=HFIN.out
    exact ⟨⟨_,rfl⟩,pre2,h1,h2⟩
 ·rw [hp1] at x5
  have hp3 : (p.pick == 3)=false:=by rw [hp1];rfl
  have hp2 : (p.pick == 2)=true:=by rw [hp1];rfl
  obtain ⟨tn,htn⟩ : ∃ tn,min tl 1=tn:=⟨_,rfl⟩
  have hmin : min (tl : Int) 1=(tn : Int):=by omega
  have hmin2 : (if (1 : Int) < (tl : Int) then (1 : Int) else (tl : Int))=(tn : Int):=by split <;> omega
  obtain ⟨hsl,hrt⟩:=zdu HD2.out.t (k:=tn) (by omega)
  have HDT : Hid (DoS Sw W2 xc #[.slice sa sn sc,.slice qa q qc,.slice qb r d,.int .i64 p.within,.string (strB p.by_),.int .i64 p.pick,.slice va m vc,.int .i64 e.ts,.int .i64 e.dep,.int .i64 e.seq,.string (strB e.name),.slice ea en ec] (.slice va1 tn vc1) (TL.take tn) qa q qc va m vc ea en ec p e):=⟨HD2.out.x,HD2.out.xn,HD2.out.com,hrt⟩
  have HLEN : Hid ((TL.take tn).length=tn):=by show _=_;rw [List.length_take,HTLN.out];omega
  clear hrt
  have HDE0 : Hid ((if TL.isEmpty=true then [(⟨⟨pl,b⟩,true,false⟩ : PDe)] else [])++(TL.take 1).map (behindP p.its)=DL):=by
   have e1:=HDL.out
   rw [hp1] at e1
   exact e1
  clear hp1
  by_cases h0 : tl=0
  ·have z0 : ((tl : Int) == 0)=true:=by rw [h0];rfl
   have hTLe : TL=[]:=List.eq_nil_of_length_eq_zero (by have:=HTLN.out;omega)
   have HDE : Hid ([(⟨⟨pl,b⟩,true,false⟩ : PDe)]++(TL.take tn).map (behindP p.its)=DL):=by
    have e1:=HDE0.out
    rw [hTLe] at e1 ⊢
    have e2 : ([] : List PRun).take tn=([] : List PRun).take 1:=by simp
    rw [e2]
    exact e1
   clear hTLe
   have hx0:=HYI.out [] (⟨⟨⟨pl,b⟩,true,false⟩,a,c⟩ : DV) W2 HJ2.out ⟨by rw [← HDE.out];simp,by show RowK evsD (Sw W2) W2 (.slice a b.length c) b;rw [← HNL.out];exact HRB2.out⟩
   obtain ⟨fn,tmps,assign,body,hy,hR⟩:=hx0
   simp only [DV.enc] at hy
   rw [← HNL.out] at hy
   gi_wp2
   refine hR.mono ?_
   rintro e3 W3 ⟨rfl,hJ3,hk3,-⟩
   have HD3:=hid (HDT.out.kp hk3)
   have HJ3 : Hid (∃ pre : List DV,pre.map (·.d)=[(⟨⟨pl,b⟩,true,false⟩ : PDe)]++((TL.take tn).take 0).map (behindP p.its)∧J pre W3):=⟨_,rfl,hJ3⟩
   clear hJ3 hk3
   gi_wp2
   gi_loopw [46] (fun i wr=>∃ j : Nat,i=.int .i64 j∧j≤tn∧Hid (∃ pre : List DV,pre.map (·.d)=[(⟨⟨pl,b⟩,true,false⟩ : PDe)]++((TL.take tn).take j).map (behindP p.its)∧J pre wr)∧Hid (DoS Sw wr xc #[.slice sa sn sc,.slice qa q qc,.slice qb r d,.int .i64 p.within,.string (strB p.by_),.int .i64 p.pick,.slice va m vc,.int .i64 e.ts,.int .i64 e.dep,.int .i64 e.seq,.string (strB e.name),.slice ea en ec] (.slice va1 tn vc1) (TL.take tn) qa q qc va m vc ea en ec p e)) (fun i _=>tn - (RowKit.intOf i).toNat)
   case atStart=>exact ⟨0,rfl,Nat.zero_le _,HJ3,HD3⟩
   case round =>
    clear HJ3 HD3
    obtain ⟨j,rfl,hj,HJP,HDP⟩:=hrel
    obtain ⟨pre,hpre,hJp⟩:=HJP.out
    have hCp:=HJC.out pre wr hJp
    by_cases hlt : j < tn
    ·exfalso;omega
    ·have hjt : tn=j:=by omega
     have htk : (TL.take tn).take j=TL.take tn:=by rw [← hjt];exact List.take_of_length_le (Nat.le_of_eq HLEN.out)
     have HFIN : Hid (∃ pre : List DV,pre.map (·.d)=DL∧J pre wr):=⟨pre,by rw [hpre,htk];exact HDE.out,hJp⟩
     clear hpre hJp htk HJP
     gi_wp2
     go_end0
     obtain ⟨pre2,h1,h2⟩:=HFIN.out
     exact ⟨⟨_,rfl⟩,pre2,h1,h2⟩
  ·have z0 : ((tl : Int) == 0)=false:=beq_eq_false_iff_ne.2 (by omega)
   have HDE : Hid ([]++(TL.take tn).map (behindP p.its)=DL):=by
    have e1:=HDE0.out
    have e2 : TL.isEmpty=false:=by cases TL with
     | nil=>exact absurd HTLN.out.symm h0
     | cons x l=>rfl
    rw [e2] at e1
    have e3 : tn=1:=by omega
    rw [e3]
    exact e1
   have HD3:=HDT
   have HJ3 : Hid (∃ pre : List DV,pre.map (·.d)=[]++((TL.take tn).take 0).map (behindP p.its)∧J pre W2):=⟨_,rfl,HJ2.out⟩
   gi_wp2
   try (refine ⟨fun _ h=>(by cases h),?_⟩)
   gi_wp2
   gi_loopw [46] (fun i wr=>∃ j : Nat,i=.int .i64 j∧j≤tn∧Hid (∃ pre : List DV,pre.map (·.d)=[]++((TL.take tn).take j).map (behindP p.its)∧J pre wr)∧Hid (DoS Sw wr xc #[.slice sa sn sc,.slice qa q qc,.slice qb r d,.int .i64 p.within,.string (strB p.by_),.int .i64 p.pick,.slice va m vc,.int .i64 e.ts,.int .i64 e.dep,.int .i64 e.seq,.string (strB e.name),.slice ea en ec] (.slice va1 tn vc1) (TL.take tn) qa q qc va m vc ea en ec p e)) (fun i _=>tn - (RowKit.intOf i).toNat)
   case atStart=>exact ⟨0,rfl,Nat.zero_le _,HJ3,HD3⟩
   case round =>
    clear HJ3 HD3
    obtain ⟨j,rfl,hj,HJP,HDP⟩:=hrel
    obtain ⟨pre,hpre,hJp⟩:=HJP.out
    have hCp:=HJC.out pre wr hJp
    by_cases hlt : j < tn
    ·obtain ⟨t,ht⟩ : ∃ t,(TL.take tn)[j]?=some t:=⟨_,List.getElem?_eq_getElem (by rw [HLEN.out];exact hlt)⟩
     obtain ⟨k,hk1,hk2,hkq,hsq⟩:=HTAT.out t (List.mem_of_mem_take (List.mem_of_getElem? ht))
     obtain ⟨g5,o5,a5,c5,eg,d0,d1,hr5⟩:=HDP.out.t.runAt ht
     obtain ⟨m5,hm5⟩ : ∃ m5,t.bound.length=m5:=⟨_,rfl⟩
     rw [hm5] at d1 hr5
     have hb5 : Below wr.heap.size wr (wr.alloc (.cells #[.int .i64 t.place,.slice a5 m5 c5] 59)):=(Below.refl _ _).alloc (Nat.le_refl _) _
     have hDb:=HDP.out.low HS.out hCp hb5
     have hbeh:=zaQ (sa:=sa) (sn:=sn) (sc:=sc) (qb:=qb) (r:=r) (d:=d) (a:=a5) (n:=m5) (c:=c5) hDb.com hk2 (by have:=HQQ.out;omega) hsq
     have HBEH:=hid hbeh
     have HPRE:=hid hpre
     have HJPR:=hid hJp
     have HR5:=hid hr5
     have HDB:=hid hDb
     have HCP:=hid hCp
     have HBW5:=hid hb5
     have HM5:=hid hm5
     have HTJ:=hid ht
     have x0:=zab hDb.x (k:=0) rfl
     have x1:=zab hDb.x (k:=1) rfl
     have x2:=zab hDb.x (k:=2) rfl
     have x3:=zab hDb.x (k:=3) rfl
     have x4:=zab hDb.x (k:=4) rfl
     have x5:=zab hDb.x (k:=5) rfl
     have x6:=zab hDb.x (k:=6) rfl
     have x7:=zab hDb.x (k:=7) rfl
     have x8:=zab hDb.x (k:=8) rfl
     have x9:=zab hDb.x (k:=9) rfl
     have x10:=zab hDb.x (k:=10) rfl
     have x11:=zab hDb.x (k:=11) rfl
     have hj0 : (0 : Int)≤(j : Int):=by omega
     have hj1 : (j : Int) < (tn : Int):=by omega
     subst eg
     clear hk1 hk2 hkq hsq hr5 hb5 hDb hbeh hpre hJp hCp hm5 ht HJP
     gi_wp2
     refine ⟨trivial,(callsIn_wide.2 HBEH.out).mono ?_⟩
     rintro e4 W4 ⟨rfl,hb4⟩
     have hb45:=HBW5.out.trans (hb4.mono HBW5.out.size)
     have hJ4:=HAB.out pre wr W4 HJPR.out hb45
     have hD4:=HDP.out.low HS.out HCP.out hb45
     have hx4:=HYI.out pre (⟨behindP p.its t,a5,c5⟩ : DV) W4 hJ4 ⟨by
      have e1:=congrArg List.length HPRE.out
      have e2:=congrArg List.length HDE.out
      have e3:=HLEN.out
      have e4:=HTLN.out
      simp only [List.length_map,List.length_append,List.length_take] at e1 e2
      (try simp only [List.length_take] at e3)
      omega,by
      show RowK evsD (Sw W4) W4 (.slice a5 t.bound.length c5) t.bound
      rw [HM5.out]
      exact (HR5.out.low hb45).mono (HS.out.low _ _ HCP.out hb45)⟩
     obtain ⟨fn4,tmps4,assign4,body4,hy4,hR4⟩:=hx4
     simp only [DV.enc,behindP] at hy4
     rw [HM5.out] at hy4
     have HD4:=hid hD4
     simp only [onB,fdB]
     clear hb45 hJ4 hD4 hb4 x0 x1 x2 x3 x4 x5 x6 x7 x8 x9 x10 x11 d0 d1
     gi_wp2
     refine hR4.mono ?_
     rintro e5 W5 ⟨rfl,hJ5,hk5,-⟩
     have HJ5 : Hid (∃ pre : List DV,pre.map (·.d)=[]++((TL.take tn).take (j+1)).map (behindP p.its)∧J pre W5):=⟨_,by
      rw [List.map_append,HPRE.out,List.take_add_one,HTJ.out]
      simp,hJ5⟩
     have HD5:=hid (HD4.out.kp hk5)
     clear hJ5 hk5
     gi_wp2
     try (refine ⟨fun _ h=>(by cases h),?_⟩)
     try gi_wp2
     go_roundw
     case rel=>exact ⟨j+1,by go_num,by omega,HJ5,HD5⟩
     case measure=>simp [RowKit.intOf];omega
    ·have hjt : tn=j:=by omega
     have htk : (TL.take tn).take j=TL.take tn:=by rw [← hjt];exact List.take_of_length_le (Nat.le_of_eq HLEN.out)
     have HFIN : Hid (∃ pre : List DV,pre.map (·.d)=DL∧J pre wr):=⟨pre,by rw [hpre,htk];exact HDE.out,hJp⟩
     clear hpre hJp htk HJP
     gi_wp2
     go_end0
     obtain ⟨pre2,h1,h2⟩:=HFIN.out
     exact ⟨⟨_,rfl⟩,pre2,h1,h2⟩
 ·have hp3 : (p.pick == 3)=true:=by rw [hp1];rfl
  have hp2 : (p.pick == 2)=false:=by rw [hp1];rfl
  obtain ⟨tn,htn⟩ : ∃ tn,min tl 1=tn:=⟨_,rfl⟩
  have hmin : min (tl : Int) 1=(tn : Int):=by omega
  have hmin2 : (if (1 : Int) < (tl : Int) then (1 : Int) else (tl : Int))=(tn : Int):=by split <;> omega
  obtain ⟨hsl,hrt⟩:=zdu HD2.out.t (k:=tn) (by omega)
  have HDT : Hid (DoS Sw W2 xc #[.slice sa sn sc,.slice qa q qc,.slice qb r d,.int .i64 p.within,.string (strB p.by_),.int .i64 p.pick,.slice va m vc,.int .i64 e.ts,.int .i64 e.dep,.int .i64 e.seq,.string (strB e.name),.slice ea en ec] (.slice va1 tn vc1) (TL.take tn) qa q qc va m vc ea en ec p e):=⟨HD2.out.x,HD2.out.xn,HD2.out.com,hrt⟩
  have HLEN : Hid ((TL.take tn).length=tn):=by show _=_;rw [List.length_take,HTLN.out];omega
  clear hrt
  obtain ⟨zw,hzw⟩ : ∃ zw,waitsS s=zw:=⟨_,rfl⟩
  have HDE0 : Hid ((if (zw && TL.isEmpty)=true then [(⟨⟨pl,b⟩,true,false⟩ : PDe)] else [])++(TL.take 1).map (behindP p.its)=DL):=by
   have e1:=HDL.out
   rw [hp1] at e1
   rw [← hzw,← HWS.out]
   exact e1
  have HRW : Hid (∀ (W : World) (a3 a4 : Option Addr) (c3 c4 : Nat),Calls Tryz.prog 84 #[.agg #[.slice a3 s.nx.length c3,.slice a4 s.gd.length c4,.bool s.fin]] W fun e w'=>e=.returned (.bool zw)∧Below W.heap.size W w'):=fun W a3 a4 c3 c4=>by rw [← hzw];exact za3 s
  clear hp1 hzw
  gi_wp2
  refine ⟨trivial,(callsIn_wide.2 (HSTA.out W2 HB12.out)).mono ?_⟩
  rintro e3 W6 ⟨a3,c3,a4,c4,rfl,_,_,hb6⟩
  have HB6:=hid hb6
  clear hb6 x0 x1 x2 x3 x4 x5 x6 x7 x8 x9 x10 x11 y0 y1
  gi_wp2
  refine ⟨trivial,(callsIn_wide.2 (HRW.out W6 _ _ _ _)).mono ?_⟩
  rintro e4 W7 ⟨rfl,hb7⟩
  have hb27:=HB6.out.trans (hb7.mono HB6.out.size)
  have hb17:=HB12.out.trans (hb27.mono HB12.out.size)
  have hJ7:=HAB.out [] W2 W7 HJ2.out hb27
  have hC7:=HJC.out [] W7 hJ7
  have HDTN:=hid (HDT.out.low HS.out HC2.out hb27)
  have HRB7 : Hid (RowK evsD (Sw W7) W7 (.slice a n c) b):=HROWB.out W7 hb17 hC7
  have HJ7:=hid hJ7
  have y0:=zab (HYV.out.low hb17) (k:=0) rfl
  have y1:=zab (HYV.out.low hb17) (k:=1) rfl
  clear HDT HJ2 HRB2 hb7 hb27 hb17 hJ7 hC7
  have HDT:=HDTN
  have HJ2:=HJ7
  have HRB2:=HRB7
  clear HDTN HJ7 HRB7
  cases zw with
  | false =>
    have HDE : Hid ([]++(TL.take tn).map (behindP p.its)=DL):=by
     have e1:=HDE0.out
     rw [Bool.false_and] at e1
     have e2 : TL.take tn=TL.take 1:=by
      have e3:=HTLN.out
      rcases Nat.eq_zero_or_pos tl with h|h
      ·rw [List.eq_nil_of_length_eq_zero (show TL.length=0 by omega)];simp
      ·rw [show tn=1 by omega]
     rw [e2]
     exact e1
    have HD3:=HDT
    have HJ3 : Hid (∃ pre : List DV,pre.map (·.d)=[]++((TL.take tn).take 0).map (behindP p.its)∧J pre W7):=⟨_,rfl,HJ2.out⟩
    gi_wp2
    try (refine ⟨fun _ h=>(by cases h),?_⟩)
    gi_wp2
    gi_loopw [46] (fun i wr=>∃ j : Nat,i=.int .i64 j∧j≤tn∧Hid (∃ pre : List DV,pre.map (·.d)=[]++((TL.take tn).take j).map (behindP p.its)∧J pre wr)∧Hid (DoS Sw wr xc #[.slice sa sn sc,.slice qa q qc,.slice qb r d,.int .i64 p.within,.string (strB p.by_),.int .i64 p.pick,.slice va m vc,.int .i64 e.ts,.int .i64 e.dep,.int .i64 e.seq,.string (strB e.name),.slice ea en ec] (.slice va1 tn vc1) (TL.take tn) qa q qc va m vc ea en ec p e)) (fun i _=>tn - (RowKit.intOf i).toNat)
    case atStart=>exact ⟨0,rfl,Nat.zero_le _,HJ3,HD3⟩
    case round =>
     clear HJ3 HD3
     obtain ⟨j,rfl,hj,HJP,HDP⟩:=hrel
     obtain ⟨pre,hpre,hJp⟩:=HJP.out
     have hCp:=HJC.out pre wr hJp
     by_cases hlt : j < tn
     ·obtain ⟨t,ht⟩ : ∃ t,(TL.take tn)[j]?=some t:=⟨_,List.getElem?_eq_getElem (by rw [HLEN.out];exact hlt)⟩
      obtain ⟨k,hk1,hk2,hkq,hsq⟩:=HTAT.out t (List.mem_of_mem_take (List.mem_of_getElem? ht))
      obtain ⟨g5,o5,a5,c5,eg,d0,d1,hr5⟩:=HDP.out.t.runAt ht
      obtain ⟨m5,hm5⟩ : ∃ m5,t.bound.length=m5:=⟨_,rfl⟩
      rw [hm5] at d1 hr5
      have hb5 : Below wr.heap.size wr (wr.alloc (.cells #[.int .i64 t.place,.slice a5 m5 c5] 59)):=(Below.refl _ _).alloc (Nat.le_refl _) _
      have hDb:=HDP.out.low HS.out hCp hb5
      have hbeh:=zaQ (sa:=sa) (sn:=sn) (sc:=sc) (qb:=qb) (r:=r) (d:=d) (a:=a5) (n:=m5) (c:=c5) hDb.com hk2 (by have:=HQQ.out;omega) hsq
      have HBEH:=hid hbeh
      have HPRE:=hid hpre
      have HJPR:=hid hJp
      have HR5:=hid hr5
      have HDB:=hid hDb
      have HCP:=hid hCp
      have HBW5:=hid hb5
      have HM5:=hid hm5
      have HTJ:=hid ht
      have x0:=zab hDb.x (k:=0) rfl
      have x1:=zab hDb.x (k:=1) rfl
      have x2:=zab hDb.x (k:=2) rfl
      have x3:=zab hDb.x (k:=3) rfl
      have x4:=zab hDb.x (k:=4) rfl
      have x5:=zab hDb.x (k:=5) rfl
      have x6:=zab hDb.x (k:=6) rfl
      have x7:=zab hDb.x (k:=7) rfl
      have x8:=zab hDb.x (k:=8) rfl
      have x9:=zab hDb.x (k:=9) rfl
      have x10:=zab hDb.x (k:=10) rfl
      have x11:=zab hDb.x (k:=11) rfl
      have hj0 : (0 : Int)≤(j : Int):=by omega
      have hj1 : (j : Int) < (tn : Int):=by omega
      subst eg
      clear hk1 hk2 hkq hsq hr5 hb5 hDb hbeh hpre hJp hCp hm5 ht HJP
      gi_wp2
      refine ⟨trivial,(callsIn_wide.2 HBEH.out).mono ?_⟩
      rintro e4 W4 ⟨rfl,hb4⟩
      have hb45:=HBW5.out.trans (hb4.mono HBW5.out.size)
      have hJ4:=HAB.out pre wr W4 HJPR.out hb45
      have hD4:=HDP.out.low HS.out HCP.out hb45
      have hx4:=HYI.out pre (⟨behindP p.its t,a5,c5⟩ : DV) W4 hJ4 ⟨by
       have e1:=congrArg List.length HPRE.out
       have e2:=congrArg List.length HDE.out
       have e3:=HLEN.out
       have e4:=HTLN.out
       simp only [List.length_map,List.length_append,List.length_take] at e1 e2
       (try simp only [List.length_take] at e3)
       omega,by
       show RowK evsD (Sw W4) W4 (.slice a5 t.bound.length c5) t.bound
       rw [HM5.out]
       exact (HR5.out.low hb45).mono (HS.out.low _ _ HCP.out hb45)⟩
      obtain ⟨fn4,tmps4,assign4,body4,hy4,hR4⟩:=hx4
      simp only [DV.enc,behindP] at hy4
      rw [HM5.out] at hy4
      have HD4:=hid hD4
      simp only [onB,fdB]
      clear hb45 hJ4 hD4 hb4 x0 x1 x2 x3 x4 x5 x6 x7 x8 x9 x10 x11 d0 d1
      gi_wp2
      refine hR4.mono ?_
      rintro e5 W5 ⟨rfl,hJ5,hk5,-⟩
      have HJ5 : Hid (∃ pre : List DV,pre.map (·.d)=[]++((TL.take tn).take (j+1)).map (behindP p.its)∧J pre W5):=⟨_,by
       rw [List.map_append,HPRE.out,List.take_add_one,HTJ.out]
       simp,hJ5⟩
      have HD5:=hid (HD4.out.kp hk5)
      clear hJ5 hk5
      gi_wp2
      try (refine ⟨fun _ h=>(by cases h),?_⟩)
      try gi_wp2
      go_roundw
      case rel=>exact ⟨j+1,by go_num,by omega,HJ5,HD5⟩
      case measure=>simp [RowKit.intOf];omega
     ·have hjt : tn=j:=by omega
      have htk : (TL.take tn).take j=TL.take tn:=by rw [← hjt];exact List.take_of_length_le (Nat.le_of_eq HLEN.out)
      have HFIN : Hid (∃ pre : List DV,pre.map (·.d)=DL∧J pre wr):=⟨pre,by rw [hpre,htk];exact HDE.out,hJp⟩
      clear hpre hJp htk HJP
      gi_wp2
      go_end0
      obtain ⟨pre2,h1,h2⟩:=HFIN.out
      exact ⟨⟨_,rfl⟩,pre2,h1,h2⟩
  | true =>
  by_cases h0 : tl=0
  ·have z0 : ((tl : Int) == 0)=true:=by rw [h0];rfl
   have hTLe : TL=[]:=List.eq_nil_of_length_eq_zero (by have:=HTLN.out;omega)
   have HDE : Hid ([(⟨⟨pl,b⟩,true,false⟩ : PDe)]++(TL.take tn).map (behindP p.its)=DL):=by
    have e1:=HDE0.out
    rw [hTLe] at e1 ⊢
    have e2 : ([] : List PRun).take tn=([] : List PRun).take 1:=by simp
    rw [e2]
    exact e1
   clear hTLe
   have hx0:=HYI.out [] (⟨⟨⟨pl,b⟩,true,false⟩,a,c⟩ : DV) W7 HJ2.out ⟨by rw [← HDE.out];simp,by show RowK evsD (Sw W7) W7 (.slice a b.length c) b;rw [← HNL.out];exact HRB2.out⟩
   obtain ⟨fn,tmps,assign,body,hy,hR⟩:=hx0
   simp only [DV.enc] at hy
   rw [← HNL.out] at hy
   gi_wp2
   refine hR.mono ?_
   rintro e3 W3 ⟨rfl,hJ3,hk3,-⟩
   have HD3:=hid (HDT.out.kp hk3)
   have HJ3 : Hid (∃ pre : List DV,pre.map (·.d)=[(⟨⟨pl,b⟩,true,false⟩ : PDe)]++((TL.take tn).take 0).map (behindP p.its)∧J pre W3):=⟨_,rfl,hJ3⟩
   clear hJ3 hk3
   gi_wp2
   gi_loopw [46] (fun i wr=>∃ j : Nat,i=.int .i64 j∧j≤tn∧Hid (∃ pre : List DV,pre.map (·.d)=[(⟨⟨pl,b⟩,true,false⟩ : PDe)]++((TL.take tn).take j).map (behindP p.its)∧J pre wr)∧Hid (DoS Sw wr xc #[.slice sa sn sc,.slice qa q qc,.slice qb r d,.int .i64 p.within,.string (strB p.by_),.int .i64 p.pick,.slice va m vc,.int .i64 e.ts,.int .i64 e.dep,.int .i64 e.seq,.string (strB e.name),.slice ea en ec] (.slice va1 tn vc1) (TL.take tn) qa q qc va m vc ea en ec p e)) (fun i _=>tn - (RowKit.intOf i).toNat)
   case atStart=>exact ⟨0,rfl,Nat.zero_le _,HJ3,HD3⟩
   case round =>
    clear HJ3 HD3
    obtain ⟨j,rfl,hj,HJP,HDP⟩:=hrel
    obtain ⟨pre,hpre,hJp⟩:=HJP.out
    have hCp:=HJC.out pre wr hJp
    by_cases hlt : j < tn
    ·exfalso;omega
    ·have hjt : tn=j:=by omega
     have htk : (TL.take tn).take j=TL.take tn:=by rw [← hjt];exact List.take_of_length_le (Nat.le_of_eq HLEN.out)
     have HFIN : Hid (∃ pre : List DV,pre.map (·.d)=DL∧J pre wr):=⟨pre,by rw [hpre,htk];exact HDE.out,hJp⟩
     clear hpre hJp htk HJP
     gi_wp2
     go_end0
     obtain ⟨pre2,h1,h2⟩:=HFIN.out
     exact ⟨⟨_,rfl⟩,pre2,h1,h2⟩
  ·have z0 : ((tl : Int) == 0)=false:=beq_eq_false_iff_ne.2 (by omega)
   have HDE : Hid ([]++(TL.take tn).map (behindP p.its)=DL):=by
    have e1:=HDE0.out
    have e2 : TL.isEmpty=false:=by cases TL with
     | nil=>exact absurd HTLN.out.symm h0
     | cons x l=>rfl
    rw [e2] at e1
    have e3 : tn=1:=by omega
    rw [e3]
    exact e1
   have HD3:=HDT
   have HJ3 : Hid (∃ pre : List DV,pre.map (·.d)=[]++((TL.take tn).take 0).map (behindP p.its)∧J pre W7):=⟨_,rfl,HJ2.out⟩
   gi_wp2
   try (refine ⟨fun _ h=>(by cases h),?_⟩)
   gi_wp2
   gi_loopw [46] (fun i wr=>∃ j : Nat,i=.int .i64 j∧j≤tn∧Hid (∃ pre : List DV,pre.map (·.d)=[]++((TL.take tn).take j).map (behindP p.its)∧J pre wr)∧Hid (DoS Sw wr xc #[.slice sa sn sc,.slice qa q qc,.slice qb r d,.int .i64 p.within,.string (strB p.by_),.int .i64 p.pick,.slice va m vc,.int .i64 e.ts,.int .i64 e.dep,.int .i64 e.seq,.string (strB e.name),.slice ea en ec] (.slice va1 tn vc1) (TL.take tn) qa q qc va m vc ea en ec p e)) (fun i _=>tn - (RowKit.intOf i).toNat)
   case atStart=>exact ⟨0,rfl,Nat.zero_le _,HJ3,HD3⟩
   case round =>
    clear HJ3 HD3
    obtain ⟨j,rfl,hj,HJP,HDP⟩:=hrel
    obtain ⟨pre,hpre,hJp⟩:=HJP.out
    have hCp:=HJC.out pre wr hJp
    by_cases hlt : j < tn
    ·obtain ⟨t,ht⟩ : ∃ t,(TL.take tn)[j]?=some t:=⟨_,List.getElem?_eq_getElem (by rw [HLEN.out];exact hlt)⟩
     obtain ⟨k,hk1,hk2,hkq,hsq⟩:=HTAT.out t (List.mem_of_mem_take (List.mem_of_getElem? ht))
     obtain ⟨g5,o5,a5,c5,eg,d0,d1,hr5⟩:=HDP.out.t.runAt ht
     obtain ⟨m5,hm5⟩ : ∃ m5,t.bound.length=m5:=⟨_,rfl⟩
     rw [hm5] at d1 hr5
     have hb5 : Below wr.heap.size wr (wr.alloc (.cells #[.int .i64 t.place,.slice a5 m5 c5] 59)):=(Below.refl _ _).alloc (Nat.le_refl _) _
     have hDb:=HDP.out.low HS.out hCp hb5
     have hbeh:=zaQ (sa:=sa) (sn:=sn) (sc:=sc) (qb:=qb) (r:=r) (d:=d) (a:=a5) (n:=m5) (c:=c5) hDb.com hk2 (by have:=HQQ.out;omega) hsq
     have HBEH:=hid hbeh
     have HPRE:=hid hpre
     have HJPR:=hid hJp
     have HR5:=hid hr5
     have HDB:=hid hDb
     have HCP:=hid hCp
     have HBW5:=hid hb5
     have HM5:=hid hm5
     have HTJ:=hid ht
     have x0:=zab hDb.x (k:=0) rfl
     have x1:=zab hDb.x (k:=1) rfl
     have x2:=zab hDb.x (k:=2) rfl
     have x3:=zab hDb.x (k:=3) rfl
     have x4:=zab hDb.x (k:=4) rfl
     have x5:=zab hDb.x (k:=5) rfl
     have x6:=zab hDb.x (k:=6) rfl
     have x7:=zab hDb.x (k:=7) rfl
     have x8:=zab hDb.x (k:=8) rfl
     have x9:=zab hDb.x (k:=9) rfl
     have x10:=zab hDb.x (k:=10) rfl
     have x11:=zab hDb.x (k:=11) rfl
     have hj0 : (0 : Int)≤(j : Int):=by omega
     have hj1 : (j : Int) < (tn : Int):=by omega
     subst eg
     clear hk1 hk2 hkq hsq hr5 hb5 hDb hbeh hpre hJp hCp hm5 ht HJP
     gi_wp2
     refine ⟨trivial,(callsIn_wide.2 HBEH.out).mono ?_⟩
     rintro e4 W4 ⟨rfl,hb4⟩
     have hb45:=HBW5.out.trans (hb4.mono HBW5.out.size)
     have hJ4:=HAB.out pre wr W4 HJPR.out hb45
     have hD4:=HDP.out.low HS.out HCP.out hb45
     have hx4:=HYI.out pre (⟨behindP p.its t,a5,c5⟩ : DV) W4 hJ4 ⟨by
      have e1:=congrArg List.length HPRE.out
      have e2:=congrArg List.length HDE.out
      have e3:=HLEN.out
      have e4:=HTLN.out
      simp only [List.length_map,List.length_append,List.length_take] at e1 e2
      (try simp only [List.length_take] at e3)
      omega,by
      show RowK evsD (Sw W4) W4 (.slice a5 t.bound.length c5) t.bound
      rw [HM5.out]
      exact (HR5.out.low hb45).mono (HS.out.low _ _ HCP.out hb45)⟩
     obtain ⟨fn4,tmps4,assign4,body4,hy4,hR4⟩:=hx4
     simp only [DV.enc,behindP] at hy4
     rw [HM5.out] at hy4
     have HD4:=hid hD4
     simp only [onB,fdB]
     clear hb45 hJ4 hD4 hb4 x0 x1 x2 x3 x4 x5 x6 x7 x8 x9 x10 x11 d0 d1
     gi_wp2
     refine hR4.mono ?_
     rintro e5 W5 ⟨rfl,hJ5,hk5,-⟩
     have HJ5 : Hid (∃ pre : List DV,pre.map (·.d)=[]++((TL.take tn).take (j+1)).map (behindP p.its)∧J pre W5):=⟨_,by
      rw [List.map_append,HPRE.out,List.take_add_one,HTJ.out]
      simp,hJ5⟩
     have HD5:=hid (HD4.out.kp hk5)
     clear hJ5 hk5
     gi_wp2
     try (refine ⟨fun _ h=>(by cases h),?_⟩)
     try gi_wp2
     go_roundw
     case rel=>exact ⟨j+1,by go_num,by omega,HJ5,HD5⟩
     case measure=>simp [RowKit.intOf];omega
    ·have hjt : tn=j:=by omega
     have htk : (TL.take tn).take j=TL.take tn:=by rw [← hjt];exact List.take_of_length_le (Nat.le_of_eq HLEN.out)
     have HFIN : Hid (∃ pre : List DV,pre.map (·.d)=DL∧J pre wr):=⟨pre,by rw [hpre,htk];exact HDE.out,hJp⟩
     clear hpre hJp htk HJP
     gi_wp2
     go_end0
     obtain ⟨pre2,h1,h2⟩:=HFIN.out
     exact ⟨⟨_,rfl⟩,pre2,h1,h2⟩
end
end Go.Proofs.YtkmlfkbpcgkpaaaGreatDoor
namespace Go.Proofs.YtkmlfkbpcgkpaaaGreatDoor
open Go.RowKit Go.Lib Go.Op Go.Shelf
section
variable {sa qa qb va ea : Option Addr} {sn sc qc r d vc ec q m en : Nat} {p : PQu} {e : PEv} {a : Option Addr} {n c : Nat} {w : World}
theorem zgH {pl : Int} : Calls Tryz.prog 94 #[.agg #[.slice sa sn sc,.slice qa q qc,.slice qb r d,.int .i64 p.within,.string (strB p.by_),.int .i64 p.pick,.slice va m vc,.int .i64 e.ts,.int .i64 e.dep,.int .i64 e.seq,.string (strB e.name),.slice ea en ec],.agg #[.int .i64 pl,.slice a n c]] w fun ed w'=>ed=.returned (.func (.func 156) #[] #[.pointer (some ⟨w.heap.size,0,none⟩),.pointer (some ⟨w.heap.size+1,0,none⟩)])∧w'=(w.alloc (.cells #[.slice sa sn sc,.slice qa q qc,.slice qb r d,.int .i64 p.within,.string (strB p.by_),.int .i64 p.pick,.slice va m vc,.int .i64 e.ts,.int .i64 e.dep,.int .i64 e.seq,.string (strB e.name),.slice ea en ec] 107)).alloc (.cells #[.int .i64 pl,.slice a n c] 59):=by
 go_enter Tryz.func94,Tryz.ntmps94
 go_wp2
 go_ret
 simp
theorem zfv : Calls Tryz.prog 59 #[.agg #[.slice sa sn sc,.slice qa q qc,.slice qb r d,.int .i64 p.within,.string (strB p.by_),.int .i64 p.pick,.slice va m vc,.int .i64 e.ts,.int .i64 e.dep,.int .i64 e.seq,.string (strB e.name),.slice ea en ec],.slice a n c] w fun ed w'=>ed=.returned (.func (.func 93) #[] #[.pointer (some ⟨w.heap.size+1,0,none⟩),.pointer (some ⟨w.heap.size,0,none⟩)])∧w'=(w.alloc (.cells #[.slice sa sn sc,.slice qa q qc,.slice qb r d,.int .i64 p.within,.string (strB p.by_),.int .i64 p.pick,.slice va m vc,.int .i64 e.ts,.int .i64 e.dep,.int .i64 e.seq,.string (strB e.name),.slice ea en ec] 107)).alloc (.cells #[.slice a n c] 48):=by
 go_enter Tryz.func59,Tryz.ntmps59
 go_wp2
 go_ret
 simp
end
end Go.Proofs.YtkmlfkbpcgkpaaaGreatDoor
namespace Go.Proofs.YtkmlfkbpcgkpaaaGreatDoor
open Go.RowKit Go.Lib Go.Op
theorem zkc : NcD mtD:=fun _ _ _ _ ⟨a,c,h,h1⟩=>⟨a,c,h,h1.nc zbK (by decide)⟩
section
variable {X : Nat→Prop} {B : Nat} {W W' w w1 : World} {v1 v2 : Value} {l1 : List PRun} {l2 : List PMt}
theorem OwnG.isCells {α : Type} {D : RowD α} {K : Nat→Prop} {w : World} {B : Nat} {t : TypeId} {v : Value} {l : List α} {css : List (List Value)} (h : OwnG D K w B t v l css) {g : Nat} (hg : v.ownBlock=some g) : ∃ c,w.heap[g]?=some (.cells c t (0,0)):=by
 rcases h.row.2 with ⟨rfl,h0⟩|⟨g',cap,cur,rfl,hb,hh,_⟩
 ·cases hg
 ·cases hg
  exact ⟨_,hh⟩
theorem OwnG.grown {α : Type} {D : RowD α} {K : Nat→Prop} {w w' : World} {B : Nat} {t : TypeId} {v : Value} {l : List α} {css : List (List Value)} {row : Option Nat} (h : OwnG D K w B t v l css) (hD : NcD D) (hg : w.grownBy w' row) (hr : ∀ r,row=some r→∃ o : Obj,w.heap[r]?=some o∧o.isCells=false) : OwnG D K w' B t v l css:=by
 have hno : ∀ g,row=some g→NoC w g:=fun g e c t fr hh=>by
  obtain ⟨o,ho,hoc⟩:=hr g e
  rw [ho] at hh
  injection hh with hh
  rw [hh] at hoc
  cases hoc
 have h1 : OwnG D (fun g=>K g∨NoC w g) w B t v l css:=⟨h.n,h.row,h.k,fun j x hj=>by obtain ⟨cs,e1,e2⟩:=h.p j x hj;exact ⟨cs,e1,hD _ _ _ _ e2⟩⟩
 refine (h1.keep (TFr.of_grown hg (K:=fun g=>row=some g) (fun k hk=>hk)) (fun g _ e=>.inr (hno g e)) (fun g e e2=>?_)).mono (fun g hg=>.inl hg)
 obtain ⟨c,hc⟩:=h.isCells e
 exact hno g e2 _ _ _ hc
theorem OvX.grown {row : Option Nat} (h : OvX X B W v1 v2 l1 l2) (hg : W.grownBy W' row) (hr : ∀ r,row=some r→∃ o : Obj,W.heap[r]?=some o∧o.isCells=false) : OvX X B W' v1 v2 l1 l2:=by
 obtain ⟨c1,c2,h1,h2,h3⟩:=h
 exact ⟨c1,c2,h1.grown zbX hg hr,h2.grown zkc hg hr,h3⟩
theorem OvX.on (h : OvX X B w v1 v2 l1 l2) (hB : B≤w.heap.size) (hl : l1.length≤1000000) {x : PRun} {cs : List Value} (hb : Below w.heap.size w w1) (hx : runD.P (fun g=>OK2 v1 v2 g∨X g) w1 cs x) :
 ∃ a9 c9 w9,(Builtin.append_ #[48,48] 48 #[v1,.slice (some ⟨w1.heap.size,0,none⟩) 1 1]).run Tryz.prog (w1.alloc (.cells cs.toArray 59))=.ok (.slice a9 (l1.length+1) c9) w9∧OvX X B w9 (.slice a9 (l1.length+1) c9) v2 (l1++[x]) l2∧(w1.alloc (.cells cs.toArray 59)).grownBy w9 v1.ownBlock∧((Value.slice a9 (l1.length+1) c9).ownBlock=v1.ownBlock∨(Value.slice a9 (l1.length+1) c9).ownBlock=some (w1.heap.size+1)):=by
 obtain ⟨c1,c2,h1,h2,h3⟩:=h
 have hba:=hb.alloc hb.size (.cells cs.toArray 59)
 have hbb:=(Below.refl w1.heap.size w1).alloc (Nat.le_refl _) (.cells cs.toArray 59)
 have hsz:=hb.size
 obtain ⟨v9,w9,hr,ho,hg,hd⟩:=(h1.low hba).append (ts:=48) (ty:=48) (z:=.agg #[.int .i64 0,.slice none 0 0]) (bytes:=32) Tryz.underlying48 runI rfl (by decide) (by decide) (fun g hg=>.inl (.inl hg)) (by simp;omega) hl (runD.keep (TFr.of_below hbb) hx) (heap_alloc_new w1 _)
 obtain ⟨a9,c9,rfl⟩:=ho.slice
 rw [List.length_append,List.length_singleton] at hr ho hd
 have h2' : OwnG mtD (fun g=>(OK2 v1 v2 g∨X g)∨g=(w1.alloc (.cells cs.toArray 59)).heap.size) w9 B 37 v2 l2 c2:=((h2.low hba).ne (Nat.le_refl _)).keep (TFr.of_grown hg (K:=fun g=>v1.ownBlock=some g) (fun k hk=>hk)) (fun g _ hg=>.inl (.inl (.inl hg))) (fun g hg hn=>h3 g hn hg)
 refine ⟨a9,c9,w9,hr,⟨c1++[cs],c2,?_,h2'.mono (fun g hg=>?_),fun g hg hn=>?_⟩,hg,by simpa using hd⟩
 ·rw [show l1.length+1=(l1++[x]).length by simp] at ho ⊢
  exact ho.mono (fun g hg=>hg.elim (fun e=>e.elim .inr (fun e=>.inl (.inl (.inr e)))) (fun e=>.inl (.inr e)))
 ·rcases hg with (hg|hg)|hg
  ·rcases hd with e|e
   ·exact .inl (.inl (.inl (by rw [← e];exact hg)))
   ·rw [hg] at e
    exact .inr (Option.some.inj e)
  ·exact .inl (.inl (.inr hg))
  ·exact .inl (.inr hg)
 ·rcases hd with e|e
  ·exact h3 g (by rw [← e];exact hg) hn
  ·rw [hg] at e
   have e2:=Option.some.inj e
   have e3:=(h2.own g hn).2
   simp at e2
   omega
theorem OvX.fnd (h : OvX X B w v1 v2 l1 l2) (hB : B≤w.heap.size) (hl : l2.length≤1000000) {x : PMt} {cs : List Value} (hb : Below w.heap.size w w1) (hx : mtD.P (fun g=>OK2 v1 v2 g∨X g) w1 cs x) :
 ∃ a9 c9 w9,(Builtin.append_ #[32,32] 32 #[v2,.slice (some ⟨w1.heap.size,0,none⟩) 1 1]).run Tryz.prog (w1.alloc (.cells cs.toArray 37))=.ok (.slice a9 (l2.length+1) c9) w9∧OvX X B w9 v1 (.slice a9 (l2.length+1) c9) l1 (l2++[x])∧(w1.alloc (.cells cs.toArray 37)).grownBy w9 v2.ownBlock∧((Value.slice a9 (l2.length+1) c9).ownBlock=v2.ownBlock∨(Value.slice a9 (l2.length+1) c9).ownBlock=some (w1.heap.size+1)):=by
 obtain ⟨c1,c2,h1,h2,h3⟩:=h
 have hba:=hb.alloc hb.size (.cells cs.toArray 37)
 have hbb:=(Below.refl w1.heap.size w1).alloc (Nat.le_refl _) (.cells cs.toArray 37)
 have hsz:=hb.size
 obtain ⟨v9,w9,hr,ho,hg,hd⟩:=(h2.low hba).append (ts:=32) (ty:=32) (z:=.agg #[.int .i64 0,.slice none 0 0]) (bytes:=32) Tryz.underlying32 mtI rfl (by decide) (by decide) (fun g hg=>.inl (.inr hg)) (by simp;omega) hl (mtD.keep (TFr.of_below hbb) hx) (heap_alloc_new w1 _)
 obtain ⟨a9,c9,rfl⟩:=ho.slice
 rw [List.length_append,List.length_singleton] at hr ho hd
 have h1' : OwnG runD (fun g=>(OK2 v1 v2 g∨X g)∨g=(w1.alloc (.cells cs.toArray 37)).heap.size) w9 B 59 v1 l1 c1:=((h1.low hba).ne (Nat.le_refl _)).keep (TFr.of_grown hg (K:=fun g=>v2.ownBlock=some g) (fun k hk=>hk)) (fun g _ hg=>.inl (.inl (.inr hg))) (fun g hg hn=>h3 g hg hn)
 refine ⟨a9,c9,w9,hr,⟨c1,c2++[cs],h1'.mono (fun g hg=>?_),?_,fun g hg hn=>?_⟩,hg,by simpa using hd⟩
 ·rcases hg with (hg|hg)|hg
  ·exact .inl (.inl (.inl hg))
  ·rcases hd with e|e
   ·exact .inl (.inl (.inr (by rw [← e];exact hg)))
   ·rw [hg] at e
    exact .inr (Option.some.inj e)
  ·exact .inl (.inr hg)
 ·rw [show l2.length+1=(l2++[x]).length by simp] at ho ⊢
  exact ho.mono (fun g hg=>hg.elim (fun e=>e.elim (fun e=>.inl (.inl (.inl e))) .inr) (fun e=>.inl (.inr e)))
 ·rcases hd with e|e
  ·exact h3 g hg (by rw [← e];exact hn)
  ·rw [hn] at e
   have e2:=Option.some.inj e
   have e3:=(h1.own g hg).2
   simp at e2
   omega
end
def SwS (bo bf : Nat) (W : World) (g : Nat) : Prop:=(g=bo∨g=bf)∨∃ v1 v2,Blk W bo #[v1] 48∧Blk W bf #[v2] 32∧OK2 v1 v2 g
def CSt (bo bf : Nat) (W : World) : Prop:=∃ v1 v2,Blk W bo #[v1] 48∧Blk W bf #[v2] 32∧∀ g,OK2 v1 v2 g→g < W.heap.size
theorem Blk.val {W : World} {b : Nat} {v v' : Value} {t t' : TypeId} (h : Blk W b #[v] t) (h' : Blk W b #[v'] t') : v=v':=by
 unfold Blk at h h'
 rw [h] at h'
 injection h' with h'
 injection h' with h' _
 simpa using h'
theorem Blk.grown {W W' : World} {b : Nat} {cs : Array Value} {t : TypeId} {row : Option Nat} (h : Blk W b cs t) (hg : W.grownBy W' row) (hr : ∀ r,row=some r→∃ o : Obj,W.heap[r]?=some o∧o.isCells=false) : Blk W' b cs t :=
 (hg.block b h.lt (fun e=>by
   obtain ⟨o,ho,hoc⟩:=hr b e.symm
   unfold Blk at h
   rw [ho] at h
   injection h with h
   rw [h] at hoc
   cases hoc)).trans h
theorem SwS.is {bo bf : Nat} {W : World} {v1 v2 : Value} (ho : Blk W bo #[v1] 48) (hf : Blk W bf #[v2] 32) {g : Nat} : SwS bo bf W g ↔ OK2 v1 v2 g∨(g=bo∨g=bf):=by
 constructor
 ·rintro (h|⟨u1,u2,h1,h2,h3⟩)
  ·exact .inr h
  ·rw [ho.val h1,hf.val h2]
   exact .inl h3
 ·rintro (h|h)
  ·exact .inr ⟨v1,v2,ho,hf,h⟩
  ·exact .inl h
theorem zgf {bo bf : Nat} (W W' : World) (row : Option Nat) (hC : CSt bo bf W) (hg : W.grownBy W' row) (hr : ∀ r,row=some r→∃ o : Obj,W.heap[r]?=some o∧o.isCells=false) (b : Nat) (hb : SwS bo bf W' b) : SwS bo bf W b:=by
 obtain ⟨v1,v2,h1,h2,h3⟩:=hC
 rw [SwS.is (h1.grown hg hr) (h2.grown hg hr)] at hb
 exact (SwS.is h1 h2).2 hb
theorem zcR (bo bf : Nat) : SwOk (SwS bo bf) (CSt bo bf) where
 lt:=fun W ⟨v1,v2,h1,h2,h3⟩ b hb=>by
  rcases (SwS.is h1 h2).1 hb with h|rfl|rfl
  ·exact h3 b h
  ·exact h1.lt
  ·exact h2.lt
 low:=fun W W' hC hb b h=>zgf W W' none hC ⟨hb.os,hb.tape,hb.output,hb.size,fun k hk _=>hb.block k hk⟩ (fun r e=>by cases e) b h
 grow:=zgf
structure StI (bo bf B : Nat) (W : World) (v1 v2 : Value) (l1 : List PRun) (l2 : List PMt) : Prop where
 ne : bo≠bf
 o : Blk W bo #[v1] 48
 f : Blk W bf #[v2] 32
 b : ∀ g,OK2 v1 v2 g→g≠bo∧g≠bf
 r : OvX (fun g=>g=bo∨g=bf) B W v1 v2 l1 l2
section
variable {bo bf B : Nat} {w w1 w' : World} {v1 v2 : Value} {l1 : List PRun} {l2 : List PMt}
theorem StI.c (h : StI bo bf B w v1 v2 l1 l2) : CSt bo bf w:=⟨v1,v2,h.o,h.f,fun g hg=>(h.r.own g hg).2⟩
theorem StI.sw (h : StI bo bf B w v1 v2 l1 l2) {g : Nat} : SwS bo bf w g ↔ OK2 v1 v2 g∨(g=bo∨g=bf):=SwS.is h.o h.f
theorem StI.grown {row : Option Nat} (h : StI bo bf B w v1 v2 l1 l2) (hg : w.grownBy w' row) (hr : ∀ r,row=some r→∃ o : Obj,w.heap[r]?=some o∧o.isCells=false) : StI bo bf B w' v1 v2 l1 l2 :=
 ⟨h.ne,h.o.grown hg hr,h.f.grown hg hr,h.b,h.r.grown hg hr⟩
theorem StI.on (h : StI bo bf B w v1 v2 l1 l2) (hB : B≤w.heap.size) (hl : l1.length≤1000000) {x : PRun} {cs : List Value} (hb : Below w.heap.size w w1) (hx : runD.P (SwS bo bf w) w1 cs x) :
 ∃ a9 c9 w9,(Builtin.append_ #[48,48] 48 #[v1,.slice (some ⟨w1.heap.size,0,none⟩) 1 1]).run Tryz.prog (w1.alloc (.cells cs.toArray 59))=.ok (.slice a9 (l1.length+1) c9) w9∧w9.cell? ⟨bo,0,none⟩=some v1∧w9.frozen? ⟨bo,0,none⟩=false∧StI bo bf B (w9.setCell ⟨bo,0,none⟩ (.slice a9 (l1.length+1) c9)) (.slice a9 (l1.length+1) c9) v2 (l1++[x]) l2∧KpW (SwS bo bf) w (w9.setCell ⟨bo,0,none⟩ (.slice a9 (l1.length+1) c9))∧KeepsFrom 0 w (w9.setCell ⟨bo,0,none⟩ (.slice a9 (l1.length+1) c9)):=by
 obtain ⟨a9,c9,w9,hr,h9,hg,hd⟩:=h.r.on hB hl hb (runD.mono (fun g hg=>h.sw.2 hg) hx)
 have hba:=hb.alloc hb.size (.cells cs.toArray 59)
 have hf : TFr (fun k=>v1.ownBlock=some k) w w9:=(TFr.of_below (K:=fun k=>v1.ownBlock=some k) hba).trans (TFr.of_grown hg (K:=fun g=>v1.ownBlock=some g) (fun k hk=>hk))
 have ho9 : Blk w9 bo #[v1] 48:=h.o.keep hf (fun e=>(h.b bo (.inl e)).1 rfl)
 have hf9 : Blk w9 bf #[v2] 32:=h.f.keep hf (fun e=>(h.b bf (.inl e)).2 rfl)
 have hsz:=hb.size
 have hold : ∀ g,w.heap.size≤g→g≠bo∧g≠bf:=fun g hg=>⟨fun e=>by have:=h.o.lt;omega,fun e=>by have:=h.f.lt;omega⟩
 obtain ⟨W,hW⟩ : ∃ W,w9.setCell ⟨bo,0,none⟩ (.slice a9 (l1.length+1) c9)=W:=⟨_,rfl⟩
 have hput : TFr (·=bo) w9 W:=by rw [← hW];exact TFr.at bo 0 _
 have hall : TFr (fun k=>v1.ownBlock=some k∨k=bo) w W:=(hf.mono (fun k _ hk=>.inl hk)).trans (hput.mono (fun k _ hk=>.inr hk))
 have hbb : ∀ g,OK2 (.slice a9 (l1.length+1) c9) v2 g→g≠bo∧g≠bf:=by
  rintro g hg
  rcases hg with hg|hg
  ·rcases hd with e|e
   ·exact h.b g (.inl (by rw [← e];exact hg))
   ·rw [hg] at e
    exact hold g (by have:=Option.some.inj e;omega)
  ·exact h.b g (.inr hg)
 have hneo : ∀ g,OK2 (.slice a9 (l1.length+1) c9) v2 g→¬ g=bo:=fun g hg=>(hbb g hg).1
 have hback : ∀ b,b < w.heap.size→OK2 (.slice a9 (l1.length+1) c9) v2 b→OK2 v1 v2 b:=fun g hlt hg=>by
  rcases hg with hg|hg
  ·rcases hd with e|e
   ·exact .inl (by rw [← e];exact hg)
   ·rw [hg] at e
    have:=Option.some.inj e
    omega
  ·exact .inr hg
 have hI : StI bo bf B W (.slice a9 (l1.length+1) c9) v2 (l1++[x]) l2:=by
  refine ⟨h.ne,?_,?_,?_,?_⟩
  ·rw [← hW];exact ho9.set 0 _ rfl
  ·rw [← hW];exact hf9.at (fun e=>h.ne e.symm) 0 _
  ·exact hbb
  ·obtain ⟨c1,c2,e1,e2,e3⟩:=h9
   exact ⟨c1,c2,e1.keep hput (fun g _ e=>.inr (.inl e)) (fun g e=>hneo g (.inl e)),e2.keep hput (fun g _ e=>.inr (.inl e)) (fun g e=>hneo g (.inr e)),e3⟩
 refine ⟨a9,c9,w9,hr,zab ho9 (k:=0) rfl,zac ho9,?_⟩
 rw [hW]
 refine ⟨hI,?_,?_⟩
 ·refine ⟨hall.os,hall.tape,hall.output,hall.size,fun b c t fr hb2 hn=>(hall.block b (Array.getElem?_eq_some_iff.1 hb2).1 (fun e=>hn (h.sw.2 (e.elim (fun e=>.inl (.inl e)) (fun e=>.inr (.inl e)))))).trans hb2,fun b hb2 hs=>?_⟩
  rcases hI.sw.1 hs with hs|hs
  ·exact h.sw.2 (.inl (hback b hb2 hs))
  ·exact h.sw.2 (.inr hs)
 ·refine ⟨hall.size,fun k o _ hk hc=>(hall.block k (Array.getElem?_eq_some_iff.1 hk).1 (fun e=>?_)).trans hk⟩
  rcases e with e|e
  ·obtain ⟨c1,c2,e1,e2,e3⟩:=h.r
   obtain ⟨c,hcc⟩:=e1.isCells e
   rw [hcc] at hk
   injection hk with hk
   rw [← hk] at hc
   cases hc
  ·have hbx:=h.o
   unfold Blk at hbx
   rw [e,hbx] at hk
   injection hk with hk
   rw [← hk] at hc
   cases hc
theorem StI.fnd (h : StI bo bf B w v1 v2 l1 l2) (hB : B≤w.heap.size) (hl : l2.length≤1000000) {x : PMt} {cs : List Value} (hb : Below w.heap.size w w1) (hx : mtD.P (SwS bo bf w) w1 cs x) :
 ∃ a9 c9 w9,(Builtin.append_ #[32,32] 32 #[v2,.slice (some ⟨w1.heap.size,0,none⟩) 1 1]).run Tryz.prog (w1.alloc (.cells cs.toArray 37))=.ok (.slice a9 (l2.length+1) c9) w9∧w9.cell? ⟨bf,0,none⟩=some v2∧w9.frozen? ⟨bf,0,none⟩=false∧StI bo bf B (w9.setCell ⟨bf,0,none⟩ (.slice a9 (l2.length+1) c9)) v1 (.slice a9 (l2.length+1) c9) l1 (l2++[x])∧KpW (SwS bo bf) w (w9.setCell ⟨bf,0,none⟩ (.slice a9 (l2.length+1) c9))∧KeepsFrom 0 w (w9.setCell ⟨bf,0,none⟩ (.slice a9 (l2.length+1) c9)):=by
 obtain ⟨a9,c9,w9,hr,h9,hg,hd⟩:=h.r.fnd hB hl hb (mtD.mono (fun g hg=>h.sw.2 hg) hx)
 have hba:=hb.alloc hb.size (.cells cs.toArray 37)
 have hf : TFr (fun k=>v2.ownBlock=some k) w w9:=(TFr.of_below (K:=fun k=>v2.ownBlock=some k) hba).trans (TFr.of_grown hg (K:=fun g=>v2.ownBlock=some g) (fun k hk=>hk))
 have ho9 : Blk w9 bo #[v1] 48:=h.o.keep hf (fun e=>(h.b bo (.inr e)).1 rfl)
 have hf9 : Blk w9 bf #[v2] 32:=h.f.keep hf (fun e=>(h.b bf (.inr e)).2 rfl)
 have hsz:=hb.size
 have hold : ∀ g,w.heap.size≤g→g≠bo∧g≠bf:=fun g hg=>⟨fun e=>by have:=h.o.lt;omega,fun e=>by have:=h.f.lt;omega⟩
 obtain ⟨W,hW⟩ : ∃ W,w9.setCell ⟨bf,0,none⟩ (.slice a9 (l2.length+1) c9)=W:=⟨_,rfl⟩
 have hput : TFr (·=bf) w9 W:=by rw [← hW];exact TFr.at bf 0 _
 have hall : TFr (fun k=>v2.ownBlock=some k∨k=bf) w W:=(hf.mono (fun k _ hk=>.inl hk)).trans (hput.mono (fun k _ hk=>.inr hk))
 have hbb : ∀ g,OK2 v1 (.slice a9 (l2.length+1) c9) g→g≠bo∧g≠bf:=by
  rintro g hg
  rcases hg with hg|hg
  ·exact h.b g (.inl hg)
  ·rcases hd with e|e
   ·exact h.b g (.inr (by rw [← e];exact hg))
   ·rw [hg] at e
    exact hold g (by have:=Option.some.inj e;omega)
 have hneo : ∀ g,OK2 v1 (.slice a9 (l2.length+1) c9) g→¬ g=bf:=fun g hg=>(hbb g hg).2
 have hback : ∀ b,b < w.heap.size→OK2 v1 (.slice a9 (l2.length+1) c9) b→OK2 v1 v2 b:=fun g hlt hg=>by
  rcases hg with hg|hg
  ·exact .inl hg
  ·rcases hd with e|e
   ·exact .inr (by rw [← e];exact hg)
   ·rw [hg] at e
    have:=Option.some.inj e
    omega
 have hI : StI bo bf B W v1 (.slice a9 (l2.length+1) c9) l1 (l2++[x]):=by
  refine ⟨h.ne,?_,?_,?_,?_⟩
  ·rw [← hW];exact ho9.at h.ne 0 _
  ·rw [← hW];exact hf9.set 0 _ rfl
  ·exact hbb
  ·obtain ⟨c1,c2,e1,e2,e3⟩:=h9
   exact ⟨c1,c2,e1.keep hput (fun g _ e=>.inr (.inr e)) (fun g e=>hneo g (.inl e)),e2.keep hput (fun g _ e=>.inr (.inr e)) (fun g e=>hneo g (.inr e)),e3⟩
 refine ⟨a9,c9,w9,hr,zab hf9 (k:=0) rfl,zac hf9,?_⟩
 rw [hW]
 refine ⟨hI,?_,?_⟩
 ·refine ⟨hall.os,hall.tape,hall.output,hall.size,fun b c t fr hb2 hn=>(hall.block b (Array.getElem?_eq_some_iff.1 hb2).1 (fun e=>hn (h.sw.2 (e.elim (fun e=>.inl (.inr e)) (fun e=>.inr (.inr e)))))).trans hb2,fun b hb2 hs=>?_⟩
  rcases hI.sw.1 hs with hs|hs
  ·exact h.sw.2 (.inl (hback b hb2 hs))
  ·exact h.sw.2 (.inr hs)
 ·refine ⟨hall.size,fun k o _ hk hc=>(hall.block k (Array.getElem?_eq_some_iff.1 hk).1 (fun e=>?_)).trans hk⟩
  rcases e with e|e
  ·obtain ⟨c1,c2,e1,e2,e3⟩:=h.r
   obtain ⟨c,hcc⟩:=e2.isCells e
   rw [hcc] at hk
   injection hk with hk
   rw [← hk] at hc
   cases hc
  ·have hbx:=h.f
   unfold Blk at hbx
   rw [e,hbx] at hk
   injection hk with hk
   rw [← hk] at hc
   cases hc
end
end Go.Proofs.YtkmlfkbpcgkpaaaGreatDoor
