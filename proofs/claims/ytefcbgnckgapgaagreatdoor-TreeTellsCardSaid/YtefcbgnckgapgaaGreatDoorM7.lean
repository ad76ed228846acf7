/- Queries: what a text says; its tokens, and the reader that is made of them. | Queries: Parse. | Queries: texts that are joined; what a query's text is, in plain words. | Queries: the text of a value. | Queries in plain words: tokens that a text is made of, and how they are read. | Queries in plain words: what stands ahead of what is wrong has nothing wrong ahead of its own end. | Queries: texts of expressions. | The variables are in memory as the row lists them. -/
import Derived.Test.YtefcbgnckgapgaaGreatDoorM0
import Derived.Test.YtefcbgnckgapgaaGreatDoorM6
import Derived.Test.YtefcbgnckgapgaaGreatDoorL6x
import Derived.Deep.RegionHeld3
import Derived.Test.YtefcbgnckgapgaaGreatDoorTSJ
import Derived.Lib.AppendIntMem
import Derived.Lib.ItoaLen
import Derived.Test.YtefcbgnckgapgaaGreatDoorTie
import Derived.Test.YtefcbgnckgapgaaGreatDoorCards
import Derived.ProofKit
import Derived.LaidMore
import Derived.LaidLaws
import Derived.OpenShut
import Derived.ShutString
import Derived.ChangeOld
import Derived.Stop.Joined
import Derived.Lib.SmallJoins
import Derived.Lib.LaidTab
import Derived.SizedLaws
import Derived.SevenTiedAt
namespace Go.Proofs.YtefcbgnckgapgaaGreatDoor
open Go.RowKit Go.Lib Go.Op
theorem plX_mem {l : List UInt8} : ∀ {a : Nat} {ts : List XTok},PlX l a ts→∀ t∈ts,t.at_+(saidX t).length≤l.length
 | _,[],_,t,ht=>by cases ht
 | _,u :: r,h,t,ht=>by
   obtain ⟨_,_,_,_,h5,_,h7⟩:=h
   rcases List.mem_cons.1 ht with rfl|ht
   ·exact h5
   ·exact plX_mem h7 t ht
theorem said_len (t : XTok) : t.b.length≤(saidX t).length:=by
 unfold saidX
 split
 ·simp;omega
 ·exact Nat.le_refl _
theorem digits_parse {c : UInt8} {r : List UInt8} (hc : xdigit c=true) (h : rightN (c :: r)=true) : ∃ v : Int,parseIntB 64 (c :: r)=.ok v∧0≤v∧v≤1099511627776:=by
 unfold xdigit at hc
 simp only [Bool.and_eq_true,decide_eq_true_eq] at hc
 unfold rightN at h
 cases hp : parseIntB 64 (c :: r) with
 | ok v =>
   rw [hp] at h
   simp only [Bool.and_eq_true,decide_eq_true_eq] at h
   refine ⟨v,rfl,?_,h.1⟩
   unfold parseIntB at hp
   dsimp only at hp
   rw [if_neg (by omega)] at hp
   split at hp
   ·cases hp
   ·cases hp
   ·split at hp
    ·cases hp
    ·split at hp
     ·cases hp
     ·rw [if_neg (by omega)] at hp
      injection hp with hp
      omega
 | _=>rw [hp] at h;cases h
theorem goodT_two {t : XTok} (h : GoodT t) (hk : t.k=2) : ∃ v : Int,parseIntB 64 t.b=.ok v∧0≤v∧v≤1099511627776:=by
 obtain ⟨r,z,h1,h2,h3,_⟩:=h
 rw [hk] at h1 h3
 have h3' : t.b=r.take z:=h3
 cases r with
 | nil=>rw [firstX] at h1;injection h1 with e _;cases e
 | cons c u =>
   have h4 : firstC c u=(2,z):=h1
   unfold firstC at h4
   split at h4
   ·split at h4
    ·injection h4 with e _;cases e
    ·injection h4 with e _;cases e
   ·split at h4
    ·rename_i hd
     split at h4
     ·rename_i hr
      injection h4 with _ hz
      rw [hz] at hr
      obtain ⟨y,rfl⟩ : ∃ y,z=y+1:=⟨z - 1,by omega⟩
      rw [h3',List.take_succ_cons]
      rw [List.take_succ_cons] at hr
      exact digits_parse hd hr
     ·injection h4 with e _;cases e
    ·split at h4
     ·split at h4
      ·injection h4 with e _;cases e
      ·injection h4 with e _;cases e
     ·split at h4
      ·injection h4 with e _;cases e
      ·split at h4
       ·injection h4 with e _;cases e
       ·injection h4 with e _;cases e
theorem readX_toks {l : List UInt8} {ts : List XTok} {p : Nat} (h : readX l=(ts,0,p)) : (∀ t∈ts,TokOk t)∧ts.length≤128∧(∀ t∈ts,GoodT t)∧PlX l 0 ts∧l.length≤512:=by
 unfold readX at h
 split at h
 ·injection h with _ h;injection h with h _;cases h
 ·rename_i hl
  obtain ⟨h1,h2⟩:=lexX_good _ _ _ _ _ _ h (by omega)
  have h3:=lexX_places l (l.length+1) 0 0 ts p (Nat.zero_le _) (by rw [List.drop_zero];exact h)
  refine ⟨fun t ht=>?_,by omega,h1,h3,by omega⟩
  have h4:=plX_mem h3 t ht
  have h5:=said_len t
  exact ⟨by omega,by omega,fun hk=>goodT_two (h1 t ht) hk⟩
theorem var_lt {w : World} {n : String} {g : Nat} (hg : Tryz.prog.globalNamed n=some g) {x : Array Value} (h : w.var? Tryz.prog n=some x) : g < w.heap.size:=by
 simp only [World.var?,hg,Option.bind_some] at h
 cases hh : w.heap[g]? with
 | none=>rw [hh] at h;simp at h
 | some o=>exact (Array.getElem?_eq_some_iff.1 hh).1
theorem TVars.gl {w : World} (h : TVars w) {R : Nat} (hR : w.heap.size≤R) : 2 < R∧3 < R∧0 < R:=by
 obtain ⟨⟨⟨t,p,h1⟩,⟨t',p',h2⟩⟩,h3,h4⟩:=h
 have a:=var_lt xgSyn h1
 have b:=var_lt xgRan h2
 have c : 0 < w.heap.size:=World.block_lt_of_cell? _ _ h3
 omega
theorem RdR.made {W : World} {v : Value} {ts : List XTok} {B E : Nat} (ho : XOwn W B v ts) (hts : ∀ t∈ts,TokOk t) (hE : E≤1000000) (hv : TVars W) (hpos : 0 < W.heap.size) : ∃ T,RdR (W.alloc (.cells #[v,.int .i64 E,.int .i64 0,.int .i64 (-1)] 50)) W.heap.size T E ⟨ts,0,-1⟩:=by
 have hb:=(Below.refl W.heap.size W).alloc (Nat.le_refl _) (.cells #[v,.int .i64 E,.int .i64 0,.int .i64 (-1)] 50)
 have hblk : (W.alloc (.cells #[v,.int .i64 E,.int .i64 0,.int .i64 (-1)] 50)).heap[W.heap.size]?=some (.cells #[v,.int .i64 E,.int .i64 0,.int .i64 (-1)] 50 (0,0)):=heap_alloc_new W _
 rcases ho.2 with ⟨rfl,h0⟩|⟨g,cap,cur,rfl,hB,hg,hn,hc,hs,ht⟩
 ·have hnil : ts=[]:=List.eq_nil_of_length_eq_zero h0
  subst hnil
  exact ⟨0,none,0,⟨hblk,Nat.le_refl _,Nat.zero_le _,fun _=>rfl,fun j x hj=>(by simp at hj),hpos,fun t ht=>(by cases ht),Nat.zero_le _,hE,hv.below hb,hv.gl (Nat.le_refl _)⟩⟩
 ·have hglt : g < W.heap.size:=(Array.getElem?_eq_some_iff.1 hg).1
  have hcl : ∀ j t,ts[j]?=some t→∀ r u,t.cells[r]?=some u→W.cell? ⟨g,j*3+r,none⟩=some u:=fun j t hj r u hu=>by
   have e : ∀ (l : List XTok) (j : Nat),l[j]?=some t→(flatX l)[j*3+r]?=some u:=fun l=>by
    induction l with
    | nil=>intro j h;simp at h
    | cons y l ih =>
      intro j h
      have hyl : y.cells.length=3:=by simp [XTok.cells]
      cases j with
      | zero =>
        obtain rfl : y=t:=by simpa using h
        have hr : r < y.cells.length:=(List.getElem?_eq_some_iff.1 hu).1
        rw [flatX,Nat.zero_mul,Nat.zero_add,List.getElem?_append_left hr]
        exact hu
      | succ j =>
        rw [flatX,List.getElem?_append_right (by rw [hyl];omega),hyl,show (j+1)*3+r - 3=j*3+r by omega]
        exact ih j (by simpa using h)
   have h1:=e ts j hj
   have h2:=(List.getElem?_eq_some_iff.1 h1).1
   rw [cell_of_row W g _ cur 56 (0,0) hg]
   rw [← ht,List.getElem?_take,if_pos (by rw [← flatX_len];exact h2)] at h1
   simpa using h1
  refine ⟨g,some ⟨g,0,none⟩,cap,⟨hblk,hn,hc,fun e=>(by cases e),fun j t hj=>?_,hglt,hts,Nat.zero_le _,hE,hv.below hb,hv.gl (Nat.le_refl _)⟩⟩
  refine ⟨0,rfl,?_,?_,?_⟩
  ·rw [Nat.zero_add];exact tkeep hb (hcl j t hj 0 _ rfl)
  ·rw [Nat.zero_add];exact tkeep hb (hcl j t hj 1 _ rfl)
  ·rw [Nat.zero_add];exact tkeep hb (hcl j t hj 2 _ rfl)
def parseI (l : List UInt8) : PQu × Int × Int :=
 if (readX l).2.1≠0 then (noQ,(readX l).2.1,(readX l).2.2)
 else if (queryT l.length ((readX l).1.length+1) ⟨(readX l).1,0,-1⟩).2.wrong≠-1 then (noQ,81,(queryT l.length ((readX l).1.length+1) ⟨(readX l).1,0,-1⟩).2.wrong)
 else if rightQ (queryT l.length ((readX l).1.length+1) ⟨(readX l).1,0,-1⟩).1 then ((queryT l.length ((readX l).1.length+1) ⟨(readX l).1,0,-1⟩).1,0,0) else (noQ,2,0)
end Go.Proofs.YtefcbgnckgapgaaGreatDoor
namespace Go.Proofs.YtefcbgnckgapgaaGreatDoor
open Go.RowKit Go.Lib Go.Op
section
variable {P : Program} {ops : Array Oper} {Q : Exit→Act→World→Prop} {md : Region.Mode} {S : World→Prop}
theorem ttakeH (i d : Nat) {o : Oper} {v : Value} {fuel : Nat} {listed : Array Bool} {a : Act} {w : World} (ho : ops[i]?=some o) (hs : Region.noSelect ops=true) (hf : Region.free md ops listed i=true)
 (hr : (Region.ready md ops listed).contains i=true) (hd : o.dst=some d)
 (hQ : ∀ c a w,Q (.panic c) (a.put (some d) v) w→Q (.panic c) a w) (hw : Region.wanted o (yielded ops a.tmps)=true) (hy : ∀ w,S w→(execOp a.eval o).run P w=.ok (.value v) w) (hS : S w)
 (h : wpAnyH P md ops Q S fuel (listed.setIfInBounds i true) (a.put (some d) v) w) : wpAnyH P md ops Q S (fuel+1) listed a w :=
 wpAnyH_take ho hs hf hr (by rw [hd];exact hQ) (Or.inl ⟨hw,hy⟩) hS (by rw [hd];exact h)
theorem tK (i d : Nat) {o : Oper} {v : Value} {fuel : Nat} {listed : Array Bool} {a : Act} {w : World} (ho : ops[i]?=some o:=by rfl) (hs : Region.noSelect ops=true:=by kernel_rfl) (hf : Region.free md ops listed i=true:=by kernel_rfl)
 (hr : (Region.ready md ops listed).contains i=true:=by kernel_rfl) (hd : o.dst=some d:=by rfl)
 (hQ : ∀ c a w,Q (.panic c) (a.put (some d) v) w→Q (.panic c) a w:=by exact fun _ _ _ h=>h) (hw : Region.wanted o (yielded ops a.tmps)=true:=by rfl) (hy : ∀ w,S w→(execOp a.eval o).run P w=.ok (.value v) w:=by (intro W hSw;(try dsimp only at hSw);(try go_split_ands);go_simp;(try rw [if_neg (by omega)]);try with_reducible rfl)) (hS : S w:=by assumption)
 (h : wpAnyH P md ops Q S fuel (listed.setIfInBounds i true) (a.put (some d) v) w) : wpAnyH P md ops Q S (fuel+1) listed a w:=ttakeH i d ho hs hf hr hd hQ hw hy hS h
theorem sI {α : Type _} {l : List α} {i : Nat} {a : α} : l.toArray.setIfInBounds i a=(l.set i a).toArray:=by simp
theorem sZ {α : Type _} {x y : α} {l : List α} : (x :: l).set 0 y=y :: l:=rfl
theorem sS {α : Type _} {x y : α} {l : List α} {n : Nat} : (x :: l).set (n+1) y=x :: l.set n y:=rfl
end
def PaTo (p : PQu × Int × Int) (w : World) (e : Ending) (w' : World) : Prop:=∃ a q c b r d,e=.returned (.tuple #[.agg #[.slice a q c,.slice b r d,.int .i64 p.1.within,.string (strB p.1.by_),.int .i64 p.1.pick],.int .i64 p.2.1,.int .i64 p.2.2])∧QuAt (· < w.heap.size) w' a q c b r d p.1∧Below w.heap.size w w'
theorem PaTo.zero {w w' : World} {x y : Int} (hb : Below w.heap.size w w') : PaTo (noQ,x,y) w (.returned (.tuple #[.agg #[.slice none 0 0,.slice none 0 0,.int .i64 0,.string ⟨#[]⟩,.int .i64 0],.int .i64 x,.int .i64 y])) w' :=
 ⟨Option.none,0,0,Option.none,0,0,rfl,⟨RowK.nil _ _ _,RowK.nil _ _ _⟩,hb⟩
theorem bset {w w' : World} (h : Below w.heap.size w w') {b : Nat} (hb : w.heap.size≤b) (k : Nat) (v : Value) : Below w.heap.size w (w'.setCell ⟨b,k,none⟩ v):=h.setCell (p:=⟨b,k,none⟩) hb v
theorem bset5 {w w' : World} (h : Below w.heap.size w w') {b : Nat} (hb : w.heap.size≤b) (v0 v1 v2 v3 v4 : Value) : Below w.heap.size w (((((w'.setCell ⟨b,0,none⟩ v0).setCell ⟨b,1,none⟩ v1).setCell ⟨b,2,none⟩ v2).setCell ⟨b,3,none⟩ v3).setCell ⟨b,4,none⟩ v4) :=
 bset (bset (bset (bset (bset h hb _ _) hb _ _) hb _ _) hb _ _) hb _ _
theorem set5_cell {W : World} {g b k : Nat} {u : Value} (hne : g≠b) (h : W.cell? ⟨g,k,none⟩=some u) (v0 v1 v2 v3 v4 : Value) : (((((W.setCell ⟨b,0,none⟩ v0).setCell ⟨b,1,none⟩ v1).setCell ⟨b,2,none⟩ v2).setCell ⟨b,3,none⟩ v3).setCell ⟨b,4,none⟩ v4).cell? ⟨g,k,none⟩=some u :=
 (TFr.at b 4 v4).cell ((TFr.at b 3 v3).cell ((TFr.at b 2 v2).cell ((TFr.at b 1 v1).cell ((TFr.at b 0 v0).cell h hne) hne) hne) hne) hne
set_option maxHeartbeats 2000000 in
set_option maxRecDepth 100000 in
theorem parse_calls {w : World} (hv : TVars w) (l : List UInt8) (hl : l.length≤100000) : Calls Tryz.prog 5 #[.string (strB l)] w (PaTo (parseI l) w):=by
 have hb0:=(Below.refl w.heap.size w).alloc (Nat.le_refl _) (.cells #[.slice none 0 0,.slice none 0 0,.int .i64 0,.string ⟨#[]⟩,.int .i64 0] 26)
 have hx2:=Blk.new w #[.slice none 0 0,.slice none 0 0,.int .i64 0,.string ⟨#[]⟩,.int .i64 0] 26
 have hrd:=read_calls (hv.below hb0).xv (strB l) l (strB_list l) (by rw [strB_size];exact hl)
 obtain ⟨⟨ts,er,at_⟩,hts⟩ : ∃ z,readX l=z:=⟨_,rfl⟩
 rw [hts] at hrd
 have HRD : Hid (Calls Tryz.prog 11 #[.string (strB l)] (w.alloc (.cells #[.slice none 0 0,.slice none 0 0,.int .i64 0,.string ⟨#[]⟩,.int .i64 0] 26)) fun e w'=>∃ v,e=.returned (.tuple #[v,.int .i64 er,.int .i64 at_])∧XOwn w' (w.alloc (.cells #[.slice none 0 0,.slice none 0 0,.int .i64 0,.string ⟨#[]⟩,.int .i64 0] 26)).heap.size v ts∧Below (w.alloc (.cells #[.slice none 0 0,.slice none 0 0,.int .i64 0,.string ⟨#[]⟩,.int .i64 0] 26)).heap.size (w.alloc (.cells #[.slice none 0 0,.slice none 0 0,.int .i64 0,.string ⟨#[]⟩,.int .i64 0] 26)) w'):=hrd
 have HB0:=hid hb0
 have HX2:=hid hx2
 have HV:=hid (hv.below hb0)
 by_cases he : ¬ er=0
 ·have hp : parseI l=(noQ,(er : Int),(at_ : Int)):=by
   unfold parseI
   rw [hts]
   rw [if_pos he]
  rw [hp]
  have ht : ((er : Int) != 0)=true:=by rw [bne_iff_ne];omega
  clear hv hl hb0 hx2 hrd hts hp he
  go_enter Tryz.func5,Tryz.ntmps5
  go_wp2_with fail
  with_reducible refine HRD.out.mono ?_
  rintro e w1 ⟨v,rfl,ho,hb1⟩
  obtain ⟨va,vc,rfl⟩:=ho.slice
  have q2:=HX2.out.low hb1
  have r0:=tcell q2 (k:=0) rfl
  have r1:=tcell q2 (k:=1) rfl
  have r2:=tcell q2 (k:=2) rfl
  have r3:=tcell q2 (k:=3) rfl
  have r4:=tcell q2 (k:=4) rfl
  have fr0:=tfrozen q2 (k:=0)
  have fr1:=tfrozen q2 (k:=1)
  have fr2:=tfrozen q2 (k:=2)
  have fr3:=tfrozen q2 (k:=3)
  have fr4:=tfrozen q2 (k:=4)
  have HB1:=hid (HB0.out.trans (hb1.mono HB0.out.size))
  clear ho hb1 q2
  go_wp2
  refine bodyPost_ret (v:=.tuple #[.agg #[.slice none 0 0,.slice none 0 0,.int .i64 0,.string ⟨#[]⟩,.int .i64 0],.int .i64 er,.int .i64 at_]) (by simp [results,Tryz.results5,go_sem,r0,r1,r2,r3,r4]) rfl (PaTo.zero ?_)
  exact bset5 HB1.out (Nat.le_refl _) _ _ _ _ _
 have he:=Decidable.not_not.1 he
 subst he
 have HRD0 : Hid (Calls Tryz.prog 11 #[.string (strB l)] (w.alloc (.cells #[.slice none 0 0,.slice none 0 0,.int .i64 0,.string ⟨#[]⟩,.int .i64 0] 26)) fun e w'=>∃ v,e=.returned (.tuple #[v,.int .i64 0,.int .i64 at_])∧XOwn w' (w.alloc (.cells #[.slice none 0 0,.slice none 0 0,.int .i64 0,.string ⟨#[]⟩,.int .i64 0] 26)).heap.size v ts∧Below (w.alloc (.cells #[.slice none 0 0,.slice none 0 0,.int .i64 0,.string ⟨#[]⟩,.int .i64 0] 26)).heap.size (w.alloc (.cells #[.slice none 0 0,.slice none 0 0,.int .i64 0,.string ⟨#[]⟩,.int .i64 0] 26)) w'):=HRD
 clear HRD he
 have HRD:=HRD0
 clear HRD0
 obtain ⟨htk,hlen,_,_,hl5⟩:=readX_toks hts
 obtain ⟨⟨qq,sq⟩,hq⟩ : ∃ z,queryT l.length (ts.length+1) ⟨ts,0,-1⟩=z:=⟨_,rfl⟩
 have hqb:=queryT_sb (E:=l.length) (s:=⟨ts,0,-1⟩) (ts.length+1) ⟨fun t ht=>(htk t ht).1,by show ts.length≤_;omega⟩
 rw [hq] at hqb
 have hp : parseI l=if sq.wrong≠-1 then (noQ,81,sq.wrong) else if rightQ qq then (qq,0,0) else (noQ,2,0):=by
  unfold parseI
  rw [hts]
  dsimp only
  rw [if_neg (by simp),hq]
 rw [hp]
 obtain ⟨res,hres⟩ : ∃ z,(if sq.wrong≠-1 then (noQ,81,sq.wrong) else if rightQ qq then (qq,0,0) else (noQ,2,0) : PQu × Int × Int)=z:=⟨_,rfl⟩
 rw [hres]
 have HRES:=hid hres
 have HTK:=hid (And.intro htk hlen)
 have HQ:=hid (And.intro hq hqb)
 obtain ⟨E,hE⟩ : ∃ E,l.length=E:=⟨_,rfl⟩
 have hsE : (strB l).size=E:=by rw [strB_size];exact hE
 rw [hE] at HQ
 have HE:=hid (show E≤1000000 by omega)
 obtain ⟨sv,hsv⟩ : ∃ sv,strB l=sv:=⟨_,rfl⟩
 rw [hsv] at HRD hsE ⊢
 clear hv hl hb0 hx2 hrd hts hp htk hlen hl5 hq hqb hres hE hsv
 go_enter Tryz.func5,Tryz.ntmps5
 go_wp2_with fail
 with_reducible refine HRD.out.mono ?_
 rintro e w1 ⟨v,rfl,ho,hb1⟩
 have hv1:=HV.out.below hb1
 obtain ⟨va,vc,rfl⟩:=ho.slice
 obtain ⟨nt,hnt⟩ : ∃ n,ts.length=n:=⟨_,rfl⟩
 obtain ⟨T,hmade⟩:=RdR.made (E:=E) ho HTK.out.1 HE.out hv1 (by have:=hb1.size;have:=HX2.out.lt;omega)
 have hqc:=query_calls hmade (.inl (Nat.zero_le _)) (n:=ts.length+1) (Nat.lt_succ_self _) (by show ts.length≤_;have:=HTK.out.2;omega)
 rw [HQ.out.1] at hqc
 rw [hnt] at hqc ⊢
 have HQC:=hid hqc
 have hba:=(Below.refl w1.heap.size w1).alloc (Nat.le_refl _) (.cells #[.slice va nt vc,.int .i64 E,.int .i64 0,.int .i64 (-1)] 50)
 have X3:=hid ((HX2.out.low hb1).low hba)
 have hsz1 : w.heap.size < w1.heap.size:=by have:=hb1.size;have:=HX2.out.lt;omega
 have HB1:=hid ((HB0.out.trans (hb1.mono HB0.out.size)).trans (hba.mono (Nat.le_of_lt hsz1)))
 have hszE : ((sv.size : Nat) : Int)=(E : Int):=by rw [hsE]
 have HSZ:=hid hsz1
 clear ho hb1 hv1 hmade hba hqc hnt hsz1 HTK HV HRD
 go_wp2_with fail
 with_reducible refine HQC.out.mono ?_
 rintro e w2 ⟨a,q,c,b,r,d,rfl,hits,hprs,hrt⟩
 have hb3:=(Below.refl w2.heap.size w2).alloc (Nat.le_refl _) (.cells #[.slice a q c,.slice b r d,.int .i64 qq.within,.string (strB qq.by_),.int .i64 qq.pick] 26)
 have x4:=(X3.out.keep hrt.fr (by have:=HSZ.out;omega)).low hb3
 have X4:=hid x4
 have hsa : (w1.alloc (.cells #[.slice va nt vc,.int .i64 E,.int .i64 0,.int .i64 (-1)] 50)).heap.size=w1.heap.size+1:=by simp
 have hb2 : Below w.heap.size w w2:=HB1.out.trans (hrt.fr.below (B:=w.heap.size) (by rw [hsa];have:=HSZ.out;omega) (fun k hk=>by rw [hk];exact Nat.le_of_lt HSZ.out))
 have HB3:=hid (hb2.trans (hb3.mono hb2.size))
 obtain ⟨ra,rc,hrd⟩:=hrt.rd
 have m3:=hrd.c3
 have m3':=tkeepAl m3
 have hK : ∀ k,k < w.heap.size→k < (w1.alloc (.cells #[.slice va nt vc,.int .i64 E,.int .i64 0,.int .i64 (-1)] 50)).heap.size:=fun k hk=>by rw [hsa];have:=HSZ.out;omega
 have KI:=hid (hits.low hb3)
 have KP:=hid (hprs.low hb3)
 have HK:=hid hK
 have hKb : w.heap.size < (w1.alloc (.cells #[.slice va nt vc,.int .i64 E,.int .i64 0,.int .i64 (-1)] 50)).heap.size:=by rw [hsa];have:=HSZ.out;omega
 have HKB:=hid hKb
 clear hKb
 have r0:=tcell x4 (k:=0) rfl
 have r1:=tcell x4 (k:=1) rfl
 have r2:=tcell x4 (k:=2) rfl
 have r3:=tcell x4 (k:=3) rfl
 have r4:=tcell x4 (k:=4) rfl
 have fr0:=tfrozen x4 (k:=0)
 have fr1:=tfrozen x4 (k:=1)
 have fr2:=tfrozen x4 (k:=2)
 have fr3:=tfrozen x4 (k:=3)
 have fr4:=tfrozen x4 (k:=4)
 clear hits hprs hrt hrd hb2 hb3 hK x4 X3 HQC hsa m3
 by_cases hw : ¬ sq.wrong=-1
 ·have hr:=HRES.out
  rw [if_pos hw] at hr
  subst hr
  have tw : (sq.wrong != -1)=true:=by rw [bne_iff_ne];exact hw
  clear KI KP HRES hw
  go_wp2_with fail
  have hne : w1.heap.size≠w.heap.size:=by have:=HSZ.out;omega
  have m3w:=m3' (.cells #[.slice a q c,.slice b r d,.int .i64 qq.within,.string (strB qq.by_),.int .i64 qq.pick] 26)
  have m3d : (w2.alloc (.cells #[.slice a q c,.slice b r d,.int .i64 qq.within,.string (strB qq.by_),.int .i64 qq.pick] 26)).drew.cell? ⟨w1.heap.size,3,none⟩=some (.int .i64 sq.wrong):=m3w
  clear m3'
  have g0 : (w2.alloc (.cells #[.slice a q c,.slice b r d,.int .i64 qq.within,.string (strB qq.by_),.int .i64 qq.pick] 26)).drew.cell? ⟨w.heap.size,0,none⟩=some (.slice none 0 0):=r0
  have fg0 : (w2.alloc (.cells #[.slice a q c,.slice b r d,.int .i64 qq.within,.string (strB qq.by_),.int .i64 qq.pick] 26)).drew.frozen? ⟨w.heap.size,0,none⟩=false:=fr0
  have g1 : (w2.alloc (.cells #[.slice a q c,.slice b r d,.int .i64 qq.within,.string (strB qq.by_),.int .i64 qq.pick] 26)).drew.cell? ⟨w.heap.size,1,none⟩=some (.slice none 0 0):=r1
  have fg1 : (w2.alloc (.cells #[.slice a q c,.slice b r d,.int .i64 qq.within,.string (strB qq.by_),.int .i64 qq.pick] 26)).drew.frozen? ⟨w.heap.size,1,none⟩=false:=fr1
  have g2 : (w2.alloc (.cells #[.slice a q c,.slice b r d,.int .i64 qq.within,.string (strB qq.by_),.int .i64 qq.pick] 26)).drew.cell? ⟨w.heap.size,2,none⟩=some (.int .i64 0):=r2
  have fg2 : (w2.alloc (.cells #[.slice a q c,.slice b r d,.int .i64 qq.within,.string (strB qq.by_),.int .i64 qq.pick] 26)).drew.frozen? ⟨w.heap.size,2,none⟩=false:=fr2
  have g3 : (w2.alloc (.cells #[.slice a q c,.slice b r d,.int .i64 qq.within,.string (strB qq.by_),.int .i64 qq.pick] 26)).drew.cell? ⟨w.heap.size,3,none⟩=some (.string ⟨#[]⟩):=r3
  have fg3 : (w2.alloc (.cells #[.slice a q c,.slice b r d,.int .i64 qq.within,.string (strB qq.by_),.int .i64 qq.pick] 26)).drew.frozen? ⟨w.heap.size,3,none⟩=false:=fr3
  have g4 : (w2.alloc (.cells #[.slice a q c,.slice b r d,.int .i64 qq.within,.string (strB qq.by_),.int .i64 qq.pick] 26)).drew.cell? ⟨w.heap.size,4,none⟩=some (.int .i64 0):=r4
  have fg4 : (w2.alloc (.cells #[.slice a q c,.slice b r d,.int .i64 qq.within,.string (strB qq.by_),.int .i64 qq.pick] 26)).drew.frozen? ⟨w.heap.size,4,none⟩=false:=fr4
  clear HX2 HB0 HQ HE X4 HB1 HSZ HK HKB
  refine wp_region_held_drew (S:=fun W=>W.cell? ⟨w1.heap.size,3,none⟩=some (.int .i64 sq.wrong)) (by kernel_rfl) m3d (fun hHeld=>?_)
  refine tK 0 33 (h:=?_)
  try simp only [Act.put,sI,sZ,sS]
  refine tK 1 34 (h:=?_)
  try simp only [Act.put,sI,sZ,sS]
  refine tK 2 35 (h:=?_)
  try simp only [Act.put,sI,sZ,sS]
  refine tK 3 36 (h:=?_)
  try simp only [Act.put,sI,sZ,sS]
  refine tK 4 37 (h:=?_)
  try simp only [Act.put,sI,sZ,sS]
  refine wpAnyH_ready (rs:=[5]) (by kernel_rfl) (by simp) ?_
  refine AllReadyH.cons (o:=_) rfl (fun K hK=>?_) AllReadyH.nil
  dsimp only [List.getElem_toArray,List.getElem_cons_succ,List.getElem_cons_zero]
  go_simp
  refine hK.out _ _ (set5_cell hne m3d _ _ _ _ _) (fun hHeld2=>?_)
  clear hK K
  try simp only [Act.put,sI,sZ,sS]
  refine tK 6 3 (h:=?_)
  try simp only [Act.put,sI,sZ,sS]
  refine tK 7 4 (h:=?_)
  try simp only [Act.put,sI,sZ,sS]
  clear hHeld hHeld2 g0 g1 g2 g3 g4 fg0 fg1 fg2 fg3 fg4 m3w m3d tw hne
  refine wpAnyH_done (by kernel_rfl) ?_ _
  go_wp2
  refine bodyPost_ret (v:=.tuple #[.agg #[.slice none 0 0,.slice none 0 0,.int .i64 0,.string ⟨#[]⟩,.int .i64 0],.int .i64 81,.int .i64 sq.wrong]) (by simp [results,Tryz.results5,go_sem,r0,r1,r2,r3,r4]) rfl (PaTo.zero ?_)
  exact vbelow_drew (bset5 HB3.out (Nat.le_refl _) _ _ _ _ _)
 ·have hw1:=Decidable.not_not.1 hw
  have hr:=HRES.out
  rw [if_neg (fun h=>h hw1)] at hr
  rw [hw1] at m3'
  have HRT:=hid (right_calls (w:=w2.alloc (.cells #[.slice a q c,.slice b r d,.int .i64 qq.within,.string (strB qq.by_),.int .i64 qq.pick] 26)) ⟨KI.out,KP.out⟩ HQ.out.2)
  clear hw hw1 HRES
  cases hz : rightQ qq with
  | false =>
    rw [hz] at HRT hr
    rw [if_neg (by simp)] at hr
    subst hr
    clear KI KP hz
    go_wp2_with (go_at_call 9;(with_reducible refine HRT.out.mono ?_);rintro e w5 ⟨rfl,hb5⟩;have x5:=X4.out.low hb5;have s0:=tcell x5 (k:=0) rfl;have s1:=tcell x5 (k:=1) rfl;have s2:=tcell x5 (k:=2) rfl;have s3:=tcell x5 (k:=3) rfl;have s4:=tcell x5 (k:=4) rfl;have fs0:=tfrozen x5 (k:=0);have fs1:=tfrozen x5 (k:=1);have fs2:=tfrozen x5 (k:=2);have fs3:=tfrozen x5 (k:=3);have fs4:=tfrozen x5 (k:=4);have HB5:=hid (HB3.out.trans (hb5.mono HB3.out.size));clear hb5 x5)
    refine bodyPost_ret (v:=.tuple #[.agg #[.slice none 0 0,.slice none 0 0,.int .i64 0,.string ⟨#[]⟩,.int .i64 0],.int .i64 2,.int .i64 0]) (by simp [results,Tryz.results5,go_sem,s0,s1,s2,s3,s4]) rfl (PaTo.zero ?_)
    exact bset5 HB5.out (Nat.le_refl _) _ _ _ _ _
  | true =>
    rw [hz] at HRT hr
    rw [if_pos rfl] at hr
    subst hr
    clear hz
    go_wp2_with (go_at_call 9;(with_reducible refine HRT.out.mono ?_);rintro e w5 ⟨rfl,hb5⟩;have x5:=X4.out.low hb5;have y5:=(Blk.new w2 #[.slice a q c,.slice b r d,.int .i64 qq.within,.string (strB qq.by_),.int .i64 qq.pick] 26).low hb5;have s0:=tcell x5 (k:=0) rfl;have s1:=tcell x5 (k:=1) rfl;have s2:=tcell x5 (k:=2) rfl;have s3:=tcell x5 (k:=3) rfl;have s4:=tcell x5 (k:=4) rfl;have fs0:=tfrozen x5 (k:=0);have fs1:=tfrozen x5 (k:=1);have fs2:=tfrozen x5 (k:=2);have fs3:=tfrozen x5 (k:=3);have fs4:=tfrozen x5 (k:=4);have y0:=tcell y5 (k:=0) rfl;have y1:=tcell y5 (k:=1) rfl;have y2:=tcell y5 (k:=2) rfl;have y3:=tcell y5 (k:=3) rfl;have y4:=tcell y5 (k:=4) rfl;have HB5:=hid (HB3.out.trans (hb5.mono HB3.out.size));have KI5:=hid (KI.out.low hb5);have KP5:=hid (KP.out.low hb5);clear hb5 x5 y5)
    refine bodyPost_ret (v:=.tuple #[.agg #[.slice a q c,.slice b r d,.int .i64 qq.within,.string (strB qq.by_),.int .i64 qq.pick],.int .i64 0,.int .i64 0]) (by simp [results,Tryz.results5,go_sem,s0,s1,s2,s3,s4]) rfl ⟨a,q,c,b,r,d,rfl,⟨?_,?_⟩,bset5 HB5.out (Nat.le_refl _) _ _ _ _ _⟩
    ·exact (((((KI5.out.set (b:=w.heap.size) HKB.out _ _).set (b:=w.heap.size) HKB.out _ _).set (b:=w.heap.size) HKB.out _ _).set (b:=w.heap.size) HKB.out _ _).set (b:=w.heap.size) HKB.out _ _).mono HK.out
    ·exact (((((KP5.out.set (b:=w.heap.size) HKB.out _ _).set (b:=w.heap.size) HKB.out _ _).set (b:=w.heap.size) HKB.out _ _).set (b:=w.heap.size) HKB.out _ _).set (b:=w.heap.size) HKB.out _ _).mono HK.out
end Go.Proofs.YtefcbgnckgapgaaGreatDoor
namespace Go.Proofs.YtefcbgnckgapgaaGreatDoor
open Go.RowKit Go.Lib Go.Op Go.Shelf
theorem textra : Builder.Extra Tryz.prog Tryz.lays156_ren where
 sizeBuilder:=by kernel_rfl
 liesBuilder:=by kernel_rfl
 t5:=Tryz.underlying5
 a5:=Tryz.isAgg5
 z5:=Tryz.sizeOf5
 v5:=Tryz.zeroValue5
 infoByte:=by kernel_rfl
 cellsByte:=by kernel_rfl
 sizeByte:=by kernel_rfl
 neB5:=by decide
theorem joinRow_calls {K : Nat→Prop} {w : World} {a : Option Addr} {c : Nat} {l : List (List UInt8)} (h : RowK nameD K w (.slice a l.length c) l) (hne : l≠[]) (sep : List UInt8) (hlen : (sep.intercalate l).length≤140737488355328) (hl : l.length≤1000000) :
 Calls Tryz.prog 64 #[.slice a l.length c,.string (strB sep)] w fun e w'=>e=.returned (.string (strB (sep.intercalate l)))∧Below w.heap.size w w':=by
 obtain ⟨b0,hb0⟩ : ∃ b,l[0]?=some b:=⟨_,List.getElem?_eq_getElem (by
  cases l with
  | nil=>exact absurd rfl hne
  | cons x r=>simp)⟩
 obtain ⟨g,o,rfl,hc0⟩:=h.nameAt hb0
 have hcap:=h.cap
 have e1 : (l.map strB).map (·.data.toList)=l:=by
  rw [List.map_map]
  exact List.map_id'' (fun x=>strB_list x) l
 have e2 : Lib.join ((l.map strB).map (·.data.toList)) (strB sep).data.toList=sep.intercalate l:=by
  rw [e1,strB_list]
  rfl
 have hj:=Any.strings_Join Tryz.lays156 textra g o c (l.map strB) (strB sep) w (fun j x hx=>by
  rw [List.getElem?_map] at hx
  cases hj : l[j]? with
  | none=>rw [hj] at hx;cases hx
  | some b =>
    rw [hj] at hx
    injection hx with hx
    obtain ⟨g',o',e,hc⟩:=h.nameAt hj
    injection e with e
    injection e with e3 e4
    subst e3 e4
    rw [← hx]
    exact hc) (World.block_lt_of_cell? _ _ hc0) (by rw [List.length_map];omega) (by rw [List.length_map];exact hcap) (by rw [e2];exact hlen)
 rw [e2,List.length_map] at hj
 exact hj
def valTx (v : PVal) : List UInt8:=if v.k=2 then 39 :: (v.s++[39]) else if v.k=3 then (if v.n=1 then bTrue else bFalse) else itoa v.n
def atL (l : List (List UInt8)) (k : Int) : List UInt8:=l.getD k.toNat []
def exprTx : Nat→PEx→List UInt8
 | 0,_=>[]
 | d+1,.mk k v x f ks =>
   if k=1 then valTx v
   else if k=2 then x++46 :: f
   else if k=3 then atL callsL k++40 :: (x++[41])
   else if k=4∨k=5∨k=6 then atL callsL k++40 :: (x++46 :: (f++[41]))
   else match ks with
    | [a,b]=>exprTx d a++32 :: (atL sumsL k++32 :: (if b.k=7∨b.k=8 then 40 :: (exprTx d b++[41]) else exprTx d b))
    | _=>[]
def itemTx (i : PIt) : List UInt8:=(if i.no then [110,111,116,32] else [])++([32,111,114,32].intercalate i.ns++32 :: (i.x++atL modesL i.mode))
def predTx (p : PPr) : List UInt8:=exprTx 6 p.l++32 :: (atL cmpsL p.cmp++32 :: exprTx 6 p.r)
def printQ (q : PQu) : List UInt8 :=
 if rightQ q then
  [115,101,113,32]++([32,116,104,101,110,32].intercalate (q.its.map itemTx)++((if q.prs=[] then [] else [32,119,104,101,114,101,32]++[32,97,110,100,32].intercalate (q.prs.map predTx)) ++
    ([32,119,105,116,104,105,110,32]++(itoa q.within++((if q.by_=[] then [] else [32,98,121,32]++q.by_)++([32,112,105,99,107,32]++atL picksL q.pick))))))
 else []
end Go.Proofs.YtefcbgnckgapgaaGreatDoor
namespace Go.Proofs.YtefcbgnckgapgaaGreatDoor
open Go.RowKit Go.Lib Go.Op Go.Shelf Go.Sort
structure PVars (w : World) : Prop where
 tab : TabIs Tryz.prog w "internal/strconv.uint64pow10" .u64 pow10Tab
 t0 : w.cell? ⟨0,0,none⟩=some (.string ⟨#[102,97,108,115,101]⟩)
 t1 : w.cell? ⟨0,1,none⟩=some (.string ⟨#[116,114,117,101]⟩)
theorem tgTab : Tryz.prog.globalNamed "internal/strconv.uint64pow10"=some 1:=by kernel_rfl
theorem PVars.below {w w' : World} (h : PVars w) (hb : Below w.heap.size w w') : PVars w':=⟨by
 have ht:=h.tab
 unfold TabIs at ht ⊢
 exact xvar_keep hb tgTab ht,tkeep hb h.t0,tkeep hb h.t1⟩
theorem tgrow_below {w w' : World} (h : ∃ k os,w'=grow (w.drewN k) os) : Below w.heap.size w w':=by
 obtain ⟨k,os,rfl⟩:=h
 exact below_grow _ w (Nat.le_refl _) k os
set_option maxHeartbeats 1000000 in
set_option maxRecDepth 100000 in
theorem valText_calls {w : World} (hv : PVars w) (v : PVal) (hr : rightB v=true) : Calls Tryz.prog 102 #[.agg #[.int .i64 v.k,.int .i64 v.n,.string (strB v.s)]] w fun e w'=>e=.returned (.string (strB (valTx v)))∧Below w.heap.size w w':=by
 have hb0:=(Below.refl w.heap.size w).alloc (Nat.le_refl _) (.cells #[.int .i64 v.k,.int .i64 v.n,.string (strB v.s)] 37)
 have HB0:=hid hb0
 obtain ⟨k,n,s⟩:=v
 rcases rightB_kind hr with hk|hk|hk
 ·dsimp only at hk
  subst hk
  have hn : -1099511627776≤n∧n≤1099511627776:=by
   unfold rightB at hr
   simp only [if_true,decide_eq_true_eq] at hr
   exact ⟨hr.1,hr.2.1⟩
  have HF:=hid (Tryz.strconv_FormatInt_10 n (by omega) (by omega) _ (hv.below hb0).tab)
  have e1 : valTx ⟨1,n,s⟩=itoa n:=rfl
  rw [e1]
  clear hv hr hb0 e1 hn
  go_enter Tryz.func102,Tryz.ntmps102
  go_wp2_with (go_at_call 22;(with_reducible refine HF.out.mono ?_);rintro e w1 ⟨rfl,hb1⟩;have HB1:=hid (HB0.out.trans ((tgrow_below hb1).mono HB0.out.size));clear hb1)
  go_ret
  exact ⟨rfl,HB1.out⟩
 ·dsimp only at hk
  subst hk
  have hs : s.length≤64:=by
   unfold rightB at hr
   rw [if_neg (by simp),if_pos rfl,decide_eq_true_eq] at hr
   exact hr.2
  have hsz : (strB s).size≤64:=by rw [strB_size];exact hs
  have he : (⟨#[39]⟩ : ByteArray)++strB s++⟨#[39]⟩=strB (valTx ⟨2,n,s⟩):=by
   show strB [39]++strB s++strB [39]=strB (39 :: (s++[39]))
   apply ByteArray.ext
   apply Array.ext'
   simp [strB]
  have HE:=hid he
  have hc1 : (⟨#[39]⟩ : ByteArray).size=1:=rfl
  clear hv hr hb0 hs he
  go_enter Tryz.func102,Tryz.ntmps102
  go_wp2
  go_ret
  exact ⟨by rw [← HE.out];rfl,HB0.out⟩
 ·dsimp only at hk
  subst hk
  have hn : n=0∨n=1:=by
   unfold rightB at hr
   rw [if_neg (by simp),if_neg (by simp),if_pos rfl,decide_eq_true_eq] at hr
   dsimp only at hr
   omega
  have hv0:=(hv.below hb0)
  have t0:=hv0.t0
  have t1:=hv0.t1
  clear hv hr hb0 hv0
  rcases hn with rfl|rfl
  ·go_enter Tryz.func102,Tryz.ntmps102
   go_wp2
   go_ret
   exact ⟨rfl,HB0.out⟩
  ·go_enter Tryz.func102,Tryz.ntmps102
   go_wp2
   go_ret
   exact ⟨rfl,HB0.out⟩
end Go.Proofs.YtefcbgnckgapgaaGreatDoor
namespace Go.Proofs.YtefcbgnckgapgaaGreatDoor
open Go.Lib
def saidB (k : Nat) (b : List UInt8) : List UInt8:=if k=3 then 39 :: (b++[39]) else b
structure Fits (k : Nat) (b r : List UInt8) : Prop where
 first : firstX (saidB k b++r)=(k,(saidB k b).length)
 len : (saidB k b).length≠0
 text : textX k (saidB k b)=b
 head : ∀ x,(saidB k b++r)[0]?=some x→xblank x=false
inductive Lx : List UInt8→List (Nat × List UInt8)→Prop
 | nil : Lx [] []
 | blank {l : List UInt8} {ts : List (Nat × List UInt8)} (h : Lx l ts) : Lx (32 :: l) ts
 | tok {r : List UInt8} {ts : List (Nat × List UInt8)} (k : Nat) (b : List UInt8) (hf : Fits k b r) (h : Lx r ts) : Lx (saidB k b++r) ((k,b) :: ts)
/-! Which tokens fit. -/
end Go.Proofs.YtefcbgnckgapgaaGreatDoor
namespace Go.Proofs.YtefcbgnckgapgaaGreatDoor
open Go.Lib
def Dn (P : Int→Prop) (s : RS) : Prop:=s.l=[]∧P s.wrong
section
variable {E : Nat} {P : Int→Prop} {s : RS}
theorem Dn.isT (h : Dn P s) {k : Nat} (hk : k≠0) (b : List UInt8) : isT E s k b=false:=by
 unfold Go.Proofs.YtefcbgnckgapgaaGreatDoor.isT nextT
 rw [h.1]
 simp
 intro e
 exact absurd e.symm hk
theorem Dn.next (h : Dn P s) : nextT E s=⟨0,[],E⟩:=by unfold nextT;rw [h.1]
theorem Dn.take (h : Dn P s) {k : Nat} (hk : k≠0) (b : List UInt8) : takeT E s k b=(false,s):=by
 unfold takeT
 rw [h.isT hk,if_neg (by simp)]
theorem Dn.among (h : Dn P s) {k : Nat} (hk : k≠0) (l : List (List UInt8)) (n : Nat) : amongT E s k n l=(0,s):=amongT_none k l n (fun b _=>h.isT hk b)
end
structure Sim where
 E : Nat
 T : Nat
 P : Int
 r : List XTok
section
variable (X : Sim)
def Sync (s s' : RS) : Prop:=s'.l≠[]∧s.l=s'.l++X.r∧s.deep=s'.deep∧s.wrong=-1∧s'.wrong=-1∧∀ u∈s'.l,(u.at_ : Int)≠X.P
def Over (s : RS) : Prop:=Dn (fun x=>x=-1∨x=X.T) s
def Bad (s : RS) : Prop:=Dn (fun x=>x≠-1∧x≠X.P) s
def Rl {α : Type} (a a' : α × RS) : Prop:=(Sync X a.2 a'.2∧a.1=a'.1)∨Over X a'.2∨Bad X a.2
structure GoodR {α : Type} (m m' : Nat) (f f' : RS→α × RS) : Prop where
 sync : ∀ s s',s.l.length≤m→s'.l.length≤m'→Sync X s s'→Rl X (f s) (f' s')
 over : ∀ s,Over X s→Over X (f' s).2
 bad : ∀ s,Bad X s→Bad X (f s).2
 le : ∀ s,(f s).2.l.length≤s.l.length
 le' : ∀ s,(f' s).2.l.length≤s.l.length
end
section
variable {X : Sim} {α β : Type} {m m' : Nat}
end
end Go.Proofs.YtefcbgnckgapgaaGreatDoor
namespace Go.Proofs.YtefcbgnckgapgaaGreatDoor
open Go.RowKit Go.Lib Go.Op
theorem catT (a b : List UInt8) : strB a++strB b=strB (a++b):=by
 apply ByteArray.ext
 apply Array.ext'
 simp [strB]
theorem double_calls (k : Int) (w : World) : Calls Tryz.prog 76 #[.int .i64 k] w fun e w'=>e=.returned (.bool (decide (k=7∨k=8)))∧w=w':=by
 by_cases h7 : k=7
 ·subst h7
  go_enter Tryz.func76,Tryz.ntmps76
  go_wp2
  go_ret
  exact ⟨rfl,rfl⟩
 ·have t7 : (k == 7)=false:=by rw [beq_eq_false_iff_ne];exact h7
  by_cases h8 : k=8
  ·subst h8
   go_enter Tryz.func76,Tryz.ntmps76
   go_wp2
   go_ret
   exact ⟨rfl,rfl⟩
  ·have t8 : (k == 8)=false:=by rw [beq_eq_false_iff_ne];exact h8
   have hd : decide (k=7∨k=8)=false:=decide_eq_false (fun e=>e.elim h7 h8)
   rw [hd]
   clear h7 h8 hd
   go_enter Tryz.func76,Tryz.ntmps76
   go_wp2
   go_ret
   exact ⟨rfl,rfl⟩
section
variable {w : World} {a : Option Addr} {c n : Nat} {v : PVal} {x f : List UInt8}
set_option maxHeartbeats 2000000 in
set_option maxRecDepth 100000 in
theorem xt_val (hv : PVars w) (hr : rightB v=true) : Calls Tryz.prog 66 #[.agg #[.int .i64 1,.int .i64 v.k,.int .i64 v.n,.string (strB v.s),.string (strB x),.string (strB f),.slice a n c]] w fun e w'=>e=.returned (.string (strB (valTx v)))∧Below w.heap.size w w':=by
 have hb0:=(Below.refl w.heap.size w).alloc (Nat.le_refl _) (.cells #[.int .i64 1,.int .i64 v.k,.int .i64 v.n,.string (strB v.s),.string (strB x),.string (strB f),.slice a n c] 40)
 have HB0:=hid hb0
 have HV:=hid (valText_calls (hv.below hb0) v hr)
 clear hv hr hb0
 go_enter Tryz.func66,Tryz.ntmps66
 go_wp2_with (go_at_call 102;(with_reducible refine HV.out.mono ?_);rintro e w1 ⟨rfl,hb1⟩;have HB1:=hid (HB0.out.trans (hb1.mono HB0.out.size));clear hb1)
 go_ret
 exact ⟨rfl,HB1.out⟩
set_option maxHeartbeats 2000000 in
set_option maxRecDepth 100000 in
theorem xt_field (hx : x.length≤100) (hf : f.length≤100) : Calls Tryz.prog 66 #[.agg #[.int .i64 2,.int .i64 v.k,.int .i64 v.n,.string (strB v.s),.string (strB x),.string (strB f),.slice a n c]] w fun e w'=>e=.returned (.string (strB (x++46 :: f)))∧Below w.heap.size w w':=by
 have hb0:=(Below.refl w.heap.size w).alloc (Nat.le_refl _) (.cells #[.int .i64 2,.int .i64 v.k,.int .i64 v.n,.string (strB v.s),.string (strB x),.string (strB f),.slice a n c] 40)
 have HB0:=hid hb0
 have hsx : (strB x).size≤100:=by rw [strB_size];exact hx
 have hsf : (strB f).size≤100:=by rw [strB_size];exact hf
 have z1 : (⟨#[46]⟩ : ByteArray).size=1:=rfl
 have HR : Hid (strB x++⟨#[46]⟩++strB f=strB (x++46 :: f)):=by
  show strB x++strB [46]++strB f=_
  rw [catT,catT]
  simp only [List.append_assoc,List.cons_append,List.nil_append]
 clear hb0 hx hf
 go_enter Tryz.func66,Tryz.ntmps66
 go_wp2
 go_ret
 exact ⟨by rw [← HR.out];rfl,HB0.out⟩
set_option maxHeartbeats 2000000 in
set_option maxRecDepth 100000 in
theorem xt_count (hx : x.length≤100) : Calls Tryz.prog 66 #[.agg #[.int .i64 3,.int .i64 v.k,.int .i64 v.n,.string (strB v.s),.string (strB x),.string (strB f),.slice a n c]] w fun e w'=>e=.returned (.string (strB (atL callsL 3++40 :: (x++[41]))))∧Below w.heap.size w w':=by
 have hb0:=(Below.refl w.heap.size w).alloc (Nat.le_refl _) (.cells #[.int .i64 3,.int .i64 v.k,.int .i64 v.n,.string (strB v.s),.string (strB x),.string (strB f),.slice a n c] 40)
 have HB0:=hid hb0
 have hsx : (strB x).size≤100:=by rw [strB_size];exact hx
 have hix : ∀ W : World,(Instr.index 65 (textsV callsL) (.int .i64 3)).run Tryz.prog W=.ok (.string ⟨#[99,111,117,110,116]⟩) W:=fun W=>by kernel_rfl
 have HR : Hid ((⟨#[99,111,117,110,116]⟩ : ByteArray)++⟨#[40]⟩++strB x++⟨#[41]⟩=strB (atL callsL 3++40 :: (x++[41]))):=by
  show strB [99,111,117,110,116]++strB [40]++strB x++strB [41]=_
  rw [catT,catT,catT]
  show strB _=strB ([99,111,117,110,116]++40 :: (x++[41]))
  simp only [List.cons_append,List.nil_append]
 have HC:=hid (fun W=>calls_calls W)
 have z0 : (⟨#[99,111,117,110,116]⟩ : ByteArray).size=5:=rfl
 have z1 : (⟨#[40]⟩ : ByteArray).size=1:=rfl
 have z2 : (⟨#[41]⟩ : ByteArray).size=1:=rfl
 have z3 : (⟨#[46]⟩ : ByteArray).size=1:=rfl
 have d0 : (w.alloc (.cells #[.int .i64 3,.int .i64 v.k,.int .i64 v.n,.string (strB v.s),.string (strB x),.string (strB f),.slice a n c] 40)).drew.cell? ⟨w.heap.size,0,none⟩=some (.int .i64 3):=tnew w _ _ 0 rfl
 have d4 : (w.alloc (.cells #[.int .i64 3,.int .i64 v.k,.int .i64 v.n,.string (strB v.s),.string (strB x),.string (strB f),.slice a n c] 40)).drew.cell? ⟨w.heap.size,4,none⟩=some (.string (strB x)):=tnew w _ _ 4 rfl
 clear hb0 hx
 go_enter Tryz.func66,Tryz.ntmps66
 go_wp2_with fail
 refine wp_region_held_drew (S:=fun W=>W.cell? ⟨w.heap.size,0,none⟩=some (.int .i64 3)∧W.cell? ⟨w.heap.size,4,none⟩=some (.string (strB x))∧True) (by kernel_rfl) ⟨d0,d4,trivial⟩ (fun hHeld=>?_)
 refine tK 1 22 (h:=?_)
 try simp only [Act.put,sI,sZ,sS]
 refine tK 2 23 (h:=?_)
 try simp only [Act.put,sI,sZ,sS]
 refine tK 5 26 (h:=?_)
 try simp only [Act.put,sI,sZ,sS]
 refine tK 6 27 (h:=?_)
 try simp only [Act.put,sI,sZ,sS]
 refine wpAnyH_ready (rs:=[0]) (by kernel_rfl) (by simp) ?_
 refine AllReadyH.cons (o:=_) rfl (fun K hK=>?_) AllReadyH.nil
 dsimp only [List.getElem_toArray,List.getElem_cons_succ,List.getElem_cons_zero]
 go_simp
 go_at_call 103
 (with_reducible refine (HC.out _).mono ?_)
 rintro e w1 ⟨rfl,hb1⟩
 have HB1:=hid ((vbelow_drew HB0.out).trans (hb1.mono (show _≤(w.alloc (.cells #[.int .i64 3,.int .i64 v.k,.int .i64 v.n,.string (strB v.s),.string (strB x),.string (strB f),.slice a n c] 40)).drew.heap.size from HB0.out.size)))
 have e0:=tkeep hb1 d0
 have e4:=tkeep hb1 d4
 clear hb1
 go_wp2_with fail
 refine hK.out _ _ ⟨e0,e4,trivial⟩ (fun hHelda0=>?_)
 clear hK K
 try simp only [Act.put,sI,sZ,sS]
 refine tK 3 24 (h:=?_)
 try simp only [Act.put,sI,sZ,sS]
 refine tK 4 25 (h:=?_)
 try simp only [Act.put,sI,sZ,sS]
 refine tK 7 28 (h:=?_)
 try simp only [Act.put,sI,sZ,sS]
 refine tK 8 29 (h:=?_)
 try simp only [Act.put,sI,sZ,sS]
 refine tK 9 2 (h:=?_)
 try simp only [Act.put,sI,sZ,sS]
 refine wpAnyH_done (by kernel_rfl) ?_ _
 go_wp2
 go_ret
 exact ⟨by rw [← HR.out];rfl,HB1.out⟩
set_option maxHeartbeats 2000000 in
set_option maxRecDepth 100000 in
theorem xt_sum (hx : x.length≤100) (hf : f.length≤100) : Calls Tryz.prog 66 #[.agg #[.int .i64 4,.int .i64 v.k,.int .i64 v.n,.string (strB v.s),.string (strB x),.string (strB f),.slice a n c]] w fun e w'=>e=.returned (.string (strB (atL callsL 4++40 :: (x++46 :: (f++[41])))))∧Below w.heap.size w w':=by
 have hb0:=(Below.refl w.heap.size w).alloc (Nat.le_refl _) (.cells #[.int .i64 4,.int .i64 v.k,.int .i64 v.n,.string (strB v.s),.string (strB x),.string (strB f),.slice a n c] 40)
 have HB0:=hid hb0
 have hsx : (strB x).size≤100:=by rw [strB_size];exact hx
 have hsf : (strB f).size≤100:=by rw [strB_size];exact hf
 have hix : ∀ W : World,(Instr.index 65 (textsV callsL) (.int .i64 4)).run Tryz.prog W=.ok (.string ⟨#[115,117,109]⟩) W:=fun W=>by kernel_rfl
 have HR : Hid ((⟨#[115,117,109]⟩ : ByteArray)++⟨#[40]⟩++strB x++⟨#[46]⟩++strB f++⟨#[41]⟩=strB (atL callsL 4++40 :: (x++46 :: (f++[41])))):=by
  show strB [115,117,109]++strB [40]++strB x++strB [46]++strB f++strB [41]=_
  rw [catT,catT,catT,catT,catT]
  show strB _=strB ([115,117,109]++40 :: (x++46 :: (f++[41])))
  simp only [List.append_assoc,List.cons_append,List.nil_append]
 have HC:=hid (fun W=>calls_calls W)
 have z0 : (⟨#[115,117,109]⟩ : ByteArray).size=3:=rfl
 have z1 : (⟨#[40]⟩ : ByteArray).size=1:=rfl
 have z2 : (⟨#[41]⟩ : ByteArray).size=1:=rfl
 have z3 : (⟨#[46]⟩ : ByteArray).size=1:=rfl
 have d0 : (w.alloc (.cells #[.int .i64 4,.int .i64 v.k,.int .i64 v.n,.string (strB v.s),.string (strB x),.string (strB f),.slice a n c] 40)).drew.cell? ⟨w.heap.size,0,none⟩=some (.int .i64 4):=tnew w _ _ 0 rfl
 have d4 : (w.alloc (.cells #[.int .i64 4,.int .i64 v.k,.int .i64 v.n,.string (strB v.s),.string (strB x),.string (strB f),.slice a n c] 40)).drew.cell? ⟨w.heap.size,4,none⟩=some (.string (strB x)):=tnew w _ _ 4 rfl
 have d5 : (w.alloc (.cells #[.int .i64 4,.int .i64 v.k,.int .i64 v.n,.string (strB v.s),.string (strB x),.string (strB f),.slice a n c] 40)).drew.cell? ⟨w.heap.size,5,none⟩=some (.string (strB f)):=tnew w _ _ 5 rfl
 clear hb0 hx hf
 go_enter Tryz.func66,Tryz.ntmps66
 go_wp2_with fail
 refine wp_region_held_drew (S:=fun W=>W.cell? ⟨w.heap.size,0,none⟩=some (.int .i64 4)∧W.cell? ⟨w.heap.size,4,none⟩=some (.string (strB x))∧W.cell? ⟨w.heap.size,5,none⟩=some (.string (strB f))) (by kernel_rfl) ⟨d0,d4,d5⟩ (fun hHeld=>?_)
 refine tK 1 35 (h:=?_)
 try simp only [Act.put,sI,sZ,sS]
 refine tK 2 36 (h:=?_)
 try simp only [Act.put,sI,sZ,sS]
 refine tK 5 39 (h:=?_)
 try simp only [Act.put,sI,sZ,sS]
 refine tK 6 40 (h:=?_)
 try simp only [Act.put,sI,sZ,sS]
 refine tK 9 43 (h:=?_)
 try simp only [Act.put,sI,sZ,sS]
 refine tK 10 44 (h:=?_)
 try simp only [Act.put,sI,sZ,sS]
 refine wpAnyH_ready (rs:=[0]) (by kernel_rfl) (by simp) ?_
 refine AllReadyH.cons (o:=_) rfl (fun K hK=>?_) AllReadyH.nil
 dsimp only [List.getElem_toArray,List.getElem_cons_succ,List.getElem_cons_zero]
 go_simp
 go_at_call 103
 (with_reducible refine (HC.out _).mono ?_)
 rintro e w1 ⟨rfl,hb1⟩
 have HB1:=hid ((vbelow_drew HB0.out).trans (hb1.mono (show _≤(w.alloc (.cells #[.int .i64 4,.int .i64 v.k,.int .i64 v.n,.string (strB v.s),.string (strB x),.string (strB f),.slice a n c] 40)).drew.heap.size from HB0.out.size)))
 have e0:=tkeep hb1 d0
 have e4:=tkeep hb1 d4
 have e5:=tkeep hb1 d5
 clear hb1
 go_wp2_with fail
 refine hK.out _ _ ⟨e0,e4,e5⟩ (fun hHelda0=>?_)
 clear hK K
 try simp only [Act.put,sI,sZ,sS]
 refine tK 3 37 (h:=?_)
 try simp only [Act.put,sI,sZ,sS]
 refine tK 4 38 (h:=?_)
 try simp only [Act.put,sI,sZ,sS]
 refine tK 7 41 (h:=?_)
 try simp only [Act.put,sI,sZ,sS]
 refine tK 8 42 (h:=?_)
 try simp only [Act.put,sI,sZ,sS]
 refine tK 11 45 (h:=?_)
 try simp only [Act.put,sI,sZ,sS]
 refine tK 12 46 (h:=?_)
 try simp only [Act.put,sI,sZ,sS]
 refine tK 13 2 (h:=?_)
 try simp only [Act.put,sI,sZ,sS]
 refine wpAnyH_done (by kernel_rfl) ?_ _
 go_wp2
 go_ret
 exact ⟨by rw [← HR.out];rfl,HB1.out⟩
set_option maxHeartbeats 2000000 in
set_option maxRecDepth 100000 in
theorem xt_min (hx : x.length≤100) (hf : f.length≤100) : Calls Tryz.prog 66 #[.agg #[.int .i64 5,.int .i64 v.k,.int .i64 v.n,.string (strB v.s),.string (strB x),.string (strB f),.slice a n c]] w fun e w'=>e=.returned (.string (strB (atL callsL 5++40 :: (x++46 :: (f++[41])))))∧Below w.heap.size w w':=by
 have hb0:=(Below.refl w.heap.size w).alloc (Nat.le_refl _) (.cells #[.int .i64 5,.int .i64 v.k,.int .i64 v.n,.string (strB v.s),.string (strB x),.string (strB f),.slice a n c] 40)
 have HB0:=hid hb0
 have hsx : (strB x).size≤100:=by rw [strB_size];exact hx
 have hsf : (strB f).size≤100:=by rw [strB_size];exact hf
 have hix : ∀ W : World,(Instr.index 65 (textsV callsL) (.int .i64 5)).run Tryz.prog W=.ok (.string ⟨#[109,105,110]⟩) W:=fun W=>by kernel_rfl
 have HR : Hid ((⟨#[109,105,110]⟩ : ByteArray)++⟨#[40]⟩++strB x++⟨#[46]⟩++strB f++⟨#[41]⟩=strB (atL callsL 5++40 :: (x++46 :: (f++[41])))):=by
  show strB [109,105,110]++strB [40]++strB x++strB [46]++strB f++strB [41]=_
  rw [catT,catT,catT,catT,catT]
  show strB _=strB ([109,105,110]++40 :: (x++46 :: (f++[41])))
  simp only [List.append_assoc,List.cons_append,List.nil_append]
 have HC:=hid (fun W=>calls_calls W)
 have z0 : (⟨#[109,105,110]⟩ : ByteArray).size=3:=rfl
 have z1 : (⟨#[40]⟩ : ByteArray).size=1:=rfl
 have z2 : (⟨#[41]⟩ : ByteArray).size=1:=rfl
 have z3 : (⟨#[46]⟩ : ByteArray).size=1:=rfl
 have d0 : (w.alloc (.cells #[.int .i64 5,.int .i64 v.k,.int .i64 v.n,.string (strB v.s),.string (strB x),.string (strB f),.slice a n c] 40)).drew.cell? ⟨w.heap.size,0,none⟩=some (.int .i64 5):=tnew w _ _ 0 rfl
 have d4 : (w.alloc (.cells #[.int .i64 5,.int .i64 v.k,.int .i64 v.n,.string (strB v.s),.string (strB x),.string (strB f),.slice a n c] 40)).drew.cell? ⟨w.heap.size,4,none⟩=some (.string (strB x)):=tnew w _ _ 4 rfl
 have d5 : (w.alloc (.cells #[.int .i64 5,.int .i64 v.k,.int .i64 v.n,.string (strB v.s),.string (strB x),.string (strB f),.slice a n c] 40)).drew.cell? ⟨w.heap.size,5,none⟩=some (.string (strB f)):=tnew w _ _ 5 rfl
 clear hb0 hx hf
 go_enter Tryz.func66,Tryz.ntmps66
 go_wp2_with fail
 refine wp_region_held_drew (S:=fun W=>W.cell? ⟨w.heap.size,0,none⟩=some (.int .i64 5)∧W.cell? ⟨w.heap.size,4,none⟩=some (.string (strB x))∧W.cell? ⟨w.heap.size,5,none⟩=some (.string (strB f))) (by kernel_rfl) ⟨d0,d4,d5⟩ (fun hHeld=>?_)
 refine tK 1 35 (h:=?_)
 try simp only [Act.put,sI,sZ,sS]
 refine tK 2 36 (h:=?_)
 try simp only [Act.put,sI,sZ,sS]
 refine tK 5 39 (h:=?_)
 try simp only [Act.put,sI,sZ,sS]
 refine tK 6 40 (h:=?_)
 try simp only [Act.put,sI,sZ,sS]
 refine tK 9 43 (h:=?_)
 try simp only [Act.put,sI,sZ,sS]
 refine tK 10 44 (h:=?_)
 try simp only [Act.put,sI,sZ,sS]
 refine wpAnyH_ready (rs:=[0]) (by kernel_rfl) (by simp) ?_
 refine AllReadyH.cons (o:=_) rfl (fun K hK=>?_) AllReadyH.nil
 dsimp only [List.getElem_toArray,List.getElem_cons_succ,List.getElem_cons_zero]
 go_simp
 go_at_call 103
 (with_reducible refine (HC.out _).mono ?_)
 rintro e w1 ⟨rfl,hb1⟩
 have HB1:=hid ((vbelow_drew HB0.out).trans (hb1.mono (show _≤(w.alloc (.cells #[.int .i64 5,.int .i64 v.k,.int .i64 v.n,.string (strB v.s),.string (strB x),.string (strB f),.slice a n c] 40)).drew.heap.size from HB0.out.size)))
 have e0:=tkeep hb1 d0
 have e4:=tkeep hb1 d4
 have e5:=tkeep hb1 d5
 clear hb1
 go_wp2_with fail
 refine hK.out _ _ ⟨e0,e4,e5⟩ (fun hHelda0=>?_)
 clear hK K
 try simp only [Act.put,sI,sZ,sS]
 refine tK 3 37 (h:=?_)
 try simp only [Act.put,sI,sZ,sS]
 refine tK 4 38 (h:=?_)
 try simp only [Act.put,sI,sZ,sS]
 refine tK 7 41 (h:=?_)
 try simp only [Act.put,sI,sZ,sS]
 refine tK 8 42 (h:=?_)
 try simp only [Act.put,sI,sZ,sS]
 refine tK 11 45 (h:=?_)
 try simp only [Act.put,sI,sZ,sS]
 refine tK 12 46 (h:=?_)
 try simp only [Act.put,sI,sZ,sS]
 refine tK 13 2 (h:=?_)
 try simp only [Act.put,sI,sZ,sS]
 refine wpAnyH_done (by kernel_rfl) ?_ _
 go_wp2
 go_ret
 exact ⟨by rw [← HR.out];rfl,HB1.out⟩
set_option maxHeartbeats 2000000 in
set_option maxRecDepth 100000 in
theorem xt_max (hx : x.length≤100) (hf : f.length≤100) : Calls Tryz.prog 66 #[.agg #[.int .i64 6,.int .i64 v.k,.int .i64 v.n,.string (strB v.s),.string (strB x),.string (strB f),.slice a n c]] w fun e w'=>e=.returned (.string (strB (atL callsL 6++40 :: (x++46 :: (f++[41])))))∧Below w.heap.size w w':=by
 have hb0:=(Below.refl w.heap.size w).alloc (Nat.le_refl _) (.cells #[.int .i64 6,.int .i64 v.k,.int .i64 v.n,.string (strB v.s),.string (strB x),.string (strB f),.slice a n c] 40)
 have HB0:=hid hb0
 have hsx : (strB x).size≤100:=by rw [strB_size];exact hx
 have hsf : (strB f).size≤100:=by rw [strB_size];exact hf
 have hix : ∀ W : World,(Instr.index 65 (textsV callsL) (.int .i64 6)).run Tryz.prog W=.ok (.string ⟨#[109,97,120]⟩) W:=fun W=>by kernel_rfl
 have HR : Hid ((⟨#[109,97,120]⟩ : ByteArray)++⟨#[40]⟩++strB x++⟨#[46]⟩++strB f++⟨#[41]⟩=strB (atL callsL 6++40 :: (x++46 :: (f++[41])))):=by
  show strB [109,97,120]++strB [40]++strB x++strB [46]++strB f++strB [41]=_
  rw [catT,catT,catT,catT,catT]
  show strB _=strB ([109,97,120]++40 :: (x++46 :: (f++[41])))
  simp only [List.append_assoc,List.cons_append,List.nil_append]
 have HC:=hid (fun W=>calls_calls W)
 have z0 : (⟨#[109,97,120]⟩ : ByteArray).size=3:=rfl
 have z1 : (⟨#[40]⟩ : ByteArray).size=1:=rfl
 have z2 : (⟨#[41]⟩ : ByteArray).size=1:=rfl
 have z3 : (⟨#[46]⟩ : ByteArray).size=1:=rfl
 have d0 : (w.alloc (.cells #[.int .i64 6,.int .i64 v.k,.int .i64 v.n,.string (strB v.s),.string (strB x),.string (strB f),.slice a n c] 40)).drew.cell? ⟨w.heap.size,0,none⟩=some (.int .i64 6):=tnew w _ _ 0 rfl
 have d4 : (w.alloc (.cells #[.int .i64 6,.int .i64 v.k,.int .i64 v.n,.string (strB v.s),.string (strB x),.string (strB f),.slice a n c] 40)).drew.cell? ⟨w.heap.size,4,none⟩=some (.string (strB x)):=tnew w _ _ 4 rfl
 have d5 : (w.alloc (.cells #[.int .i64 6,.int .i64 v.k,.int .i64 v.n,.string (strB v.s),.string (strB x),.string (strB f),.slice a n c] 40)).drew.cell? ⟨w.heap.size,5,none⟩=some (.string (strB f)):=tnew w _ _ 5 rfl
 clear hb0 hx hf
 go_enter Tryz.func66,Tryz.ntmps66
 go_wp2_with fail
 refine wp_region_held_drew (S:=fun W=>W.cell? ⟨w.heap.size,0,none⟩=some (.int .i64 6)∧W.cell? ⟨w.heap.size,4,none⟩=some (.string (strB x))∧W.cell? ⟨w.heap.size,5,none⟩=some (.string (strB f))) (by kernel_rfl) ⟨d0,d4,d5⟩ (fun hHeld=>?_)
 refine tK 1 35 (h:=?_)
 try simp only [Act.put,sI,sZ,sS]
 refine tK 2 36 (h:=?_)
 try simp only [Act.put,sI,sZ,sS]
 refine tK 5 39 (h:=?_)
 try simp only [Act.put,sI,sZ,sS]
 refine tK 6 40 (h:=?_)
 try simp only [Act.put,sI,sZ,sS]
 refine tK 9 43 (h:=?_)
 try simp only [Act.put,sI,sZ,sS]
 refine tK 10 44 (h:=?_)
 try simp only [Act.put,sI,sZ,sS]
 refine wpAnyH_ready (rs:=[0]) (by kernel_rfl) (by simp) ?_
 refine AllReadyH.cons (o:=_) rfl (fun K hK=>?_) AllReadyH.nil
 dsimp only [List.getElem_toArray,List.getElem_cons_succ,List.getElem_cons_zero]
 go_simp
 go_at_call 103
 (with_reducible refine (HC.out _).mono ?_)
 rintro e w1 ⟨rfl,hb1⟩
 have HB1:=hid ((vbelow_drew HB0.out).trans (hb1.mono (show _≤(w.alloc (.cells #[.int .i64 6,.int .i64 v.k,.int .i64 v.n,.string (strB v.s),.string (strB x),.string (strB f),.slice a n c] 40)).drew.heap.size from HB0.out.size)))
 have e0:=tkeep hb1 d0
 have e4:=tkeep hb1 d4
 have e5:=tkeep hb1 d5
 clear hb1
 go_wp2_with fail
 refine hK.out _ _ ⟨e0,e4,e5⟩ (fun hHelda0=>?_)
 clear hK K
 try simp only [Act.put,sI,sZ,sS]
 refine tK 3 37 (h:=?_)
 try simp only [Act.put,sI,sZ,sS]
 refine tK 4 38 (h:=?_)
 try simp only [Act.put,sI,sZ,sS]
 refine tK 7 41 (h:=?_)
 try simp only [Act.put,sI,sZ,sS]
 refine tK 8 42 (h:=?_)
 try simp only [Act.put,sI,sZ,sS]
 refine tK 11 45 (h:=?_)
 try simp only [Act.put,sI,sZ,sS]
 refine tK 12 46 (h:=?_)
 try simp only [Act.put,sI,sZ,sS]
 refine tK 13 2 (h:=?_)
 try simp only [Act.put,sI,sZ,sS]
 refine wpAnyH_done (by kernel_rfl) ?_ _
 go_wp2
 go_ret
 exact ⟨by rw [← HR.out];rfl,HB1.out⟩
end
end Go.Proofs.YtefcbgnckgapgaaGreatDoor
namespace Go.Proofs.YtefcbgnckgapgaaGreatDoor
open Go.ChangeShapes Go.WideShapes Go.ChangeAt Go.RowKit Go.Lib Go.Joins
theorem xown_ : ownKnob Tryz.prog.godebug=none:=by kernel_rfl
theorem xlaidOut : laidOutB Tryz.prog=true:=by kernel_rfl
theorem ytTab : (Tryz.prog.globals[1]?).map (·.type)=some 144:=by kernel_rfl
theorem ytSyn : (Tryz.prog.globals[2]?).map (·.type)=some 115:=by kernel_rfl
theorem ytRan : (Tryz.prog.globals[3]?).map (·.type)=some 115:=by kernel_rfl
theorem ytTru : (Tryz.prog.globals[0]?).map (·.type)=some 141:=by kernel_rfl
theorem ygTru : Tryz.prog.globalNamed "augury/tree.truths"=some 0:=by kernel_rfl
def laidX {H : Type} : List (String × DataW H):=[("math/bits.deBruijn32tab",Rows.laid_math_bits_deBruijn32tab),("math/bits.deBruijn64tab",Rows.laid_math_bits_deBruijn64tab),("internal/strconv.uint64pow10",Rows.laid_internal_strconv_uint64pow10),("strconv.ErrRange",Rows.laid_strconv_ErrRange),("strconv.ErrSyntax",Rows.laid_strconv_ErrSyntax),("augury/tree.truths",Rows.laid_augury_tree_truths)]
set_option maxRecDepth 100000 in
theorem xdoor_met (os : Os) (args : Array Value) : laidMetH Tryz.prog laidX ((World.doorLaid Tryz.prog 74 os).forCall (fun _ _=>0) ⟨#[],args,[]⟩).memory :=
 laidMetH_of_parts3 (fuel:=8) (laidMet_of_run' 8 (by kernel_rfl) (by kernel_rfl)) (by kernel_rfl) (by kernel_rfl)
section
variable {H : Type} {enc : TypeId × Value→H} {P : Program} {w : World} {base : Nat} {sp : Nat→Bool} {held : Bool}
theorem array_at {fuel : Nat} {t e : TypeId} {n m : Nat} {cs : List Value} {ds : List (DataW H)} {p : List MemPlace} (ht : P.underlying t=some (.array n e)) (hce : P.cellsOf e=m)
 (h : DataW.trod enc P w base sp held fuel t cs=some (.agg ds,p)) : ∀ i d,ds[i]?=some d→∃ f q,DataW.trod enc P w base sp held f e ((cs.drop (i*m)).take m)=some (d,q):=by
 obtain ⟨xs,f,_,hx,hlen,hn,hel⟩:=DataW.trod_array ht h
 intro i d hd
 have hds : ds=xs.map (·.1):=by
  have:=congrArg Prod.fst hx
  simpa using this
 rw [hds,List.getElem?_map] at hd
 obtain ⟨x,hx1,rfl⟩:=Option.map_eq_some_iff.1 hd
 have hin : i < n:=by rw [← hn];exact (List.getElem?_eq_some_iff.1 hx1).1
 have h1:=hel i hin
 rw [hce] at h1
 refine ⟨f,x.2,?_⟩
 rw [h1,hx1]
theorem str_at {fuel : Nat} {t : TypeId} {cs : List Value} {b : List UInt8} {p : List MemPlace} (ht : P.underlying t=some .string) (h : DataW.trod enc P w base sp held fuel t cs=some (.lit (.string b),p)) : cs=[.string (strB b)]:=by
 obtain ⟨s,rfl,hx,_⟩:=DataW.trod_string ht h
 simp only [Prod.mk.injEq,DataW.lit.injEq,Lit.string.injEq] at hx
 have e : strB s.data.toList=s:=by
  apply ByteArray.ext
  simp [strB]
 rw [hx.1,e]
end
set_option maxRecDepth 100000 in
theorem vars_of_laid {W : World} (h : laidMetH Tryz.prog laidX W) : TVars W∧PVars W:=by
 rw [MakeChecks.laidMetH_plain _ _ _ (by kernel_rfl)] at h
 obtain ⟨ps,⟨g0,t0,cs0,f0,p0,q0,hg0,ht0,hv0,hd0,⟨g1,t1,cs1,f1,p1,q1,hg1,ht1,hv1,hd1,⟨g2,t2,cs2,f2,p2,q2,hg2,ht2,hv2,hd2,⟨g3,t3,cs3,f3,p3,q3,hg3,ht3,hv3,hd3,⟨g4,t4,cs4,f4,p4,q4,hg4,ht4,hv4,hd4,⟨g5,t5,cs5,f5,p5,q5,hg5,ht5,hv5,hd5,_,_⟩,_⟩,_⟩,_⟩,_⟩,_⟩,_⟩:=h
 obtain rfl:=Option.some.inj (tgTab.symm.trans hg2)
 obtain rfl:=Option.some.inj (xgRan.symm.trans hg3)
 obtain rfl:=Option.some.inj (xgSyn.symm.trans hg4)
 obtain rfl:=Option.some.inj (ygTru.symm.trans hg5)
 obtain rfl:=Option.some.inj (ytTab.symm.trans ht2)
 obtain rfl:=Option.some.inj (ytRan.symm.trans ht3)
 obtain rfl:=Option.some.inj (ytSyn.symm.trans ht4)
 obtain rfl:=Option.some.inj (ytTru.symm.trans ht5)
 have e2:=cells_of_tab (zs:=pow10Tab) Tryz.underlying144 Tryz.underlying129 (by kernel_rfl) (by kernel_rfl) hd2
 obtain ⟨l3⟩:=cs3
 obtain ⟨l4⟩:=cs4
 obtain ⟨_,u3,v3,e3,_,_⟩:=iface_of_trod Tryz.underlying115 hd3
 obtain ⟨_,u4,v4,e4,_,_⟩:=iface_of_trod Tryz.underlying115 hd4
 have e3' : l3=[.iface u3 v3]:=e3
 have e4' : l4=[.iface u4 v4]:=e4
 subst e3' e4'
 have c1 : Tryz.prog.cellsOf 9=1:=by kernel_rfl
 have key : ∀ (i : Nat) (b : List UInt8),((match (Rows.laid_augury_tree_truths (H:=Unit)) with|.agg l=>l|_=>[])[i]?=some (.lit (.string b)))→W.cell? ⟨0,i,none⟩=some (.string (strB b)):=by
  intro i b hi
  obtain ⟨f,q,h1⟩:=array_at Tryz.underlying141 c1 hd5 i _ hi
  have h4:=str_at Tryz.underlying9 h1
  have h5:=World.var?_cell ygTru hv5 i
  rw [h5]
  have h6:=congrArg (·[0]?) h4
  simp only [Nat.mul_one,List.getElem?_take,List.getElem?_drop,List.getElem?_cons_zero] at h6
  simpa using h6
 have k0:=key 0 _ rfl
 have k1:=key 1 _ rfl
 refine ⟨⟨⟨⟨u4,v4,hv4⟩,⟨u3,v3,hv3⟩⟩,k0,k1⟩,?_,k0,k1⟩
 unfold TabIs
 rw [hv2]
 congr 1
 apply Array.ext'
 rw [e2]
end Go.Proofs.YtefcbgnckgapgaaGreatDoor
