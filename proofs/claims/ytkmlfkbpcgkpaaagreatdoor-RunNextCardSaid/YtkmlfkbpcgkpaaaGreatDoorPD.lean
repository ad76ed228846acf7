/- RunNext (P13.1): of a query that picks the next there are no more matches than of one that picks any, and each of its is one of those, if nothing must not come, and there are no predicates, for any schemas, query, events and time. No condition. -/
import Derived.Test.YtkmlfkbpcgkpaaaGreatDoorP1
import Derived.Test.YtkmlfkbpcgkpaaaGreatDoorM3
namespace Go.Proofs.YtkmlfkbpcgkpaaaGreatDoor
open Go.ChangeShapes Go.WideShapes Go.ChangeAt Go.RowKit Go.Lib Go.Deep Go.Joins
open Go.ChangeMaps (open_string shut_string)
set_option maxHeartbeats 8000000
set_option maxRecDepth 100000
namespace runNext
theorem lifted (os : Os) (started : os.Started) (H : Type) (enc : TypeId × Value→H) :
 ReturnsInHanded {} Tryz.checked os 6 .any (fun w args=>(Rows.runNextSpec.pre enc Tryz.prog Tryz.f6 [] false w args∧laidMetH Tryz.prog laidR w)∧sizedMet enc Tryz.prog Tryz.f6 (OpenSpec.ofChange Rows.runNextSpec) false w args)
  (Rows.runNextSpec.post enc Tryz.prog Tryz.f6 false true false false):=by
 refine returnsInHanded_of_change_and (C:=Tryz.checked) (X:=fun w _=>laidMetH Tryz.prog laidR w) (fun _ _ _ hh h=>h.of_heap hh) zkk started (by kernel_rfl) Tryz.func6
  (ChangeSpec.witness_shaped (enc:=enc) (C:=Tryz.checked) (os:=os) (X:=fun w _=>laidMetH Tryz.prog laidR w) false (World.doorLaid Tryz.prog 20 os) #[.slice none 0 0,.agg #[.slice none 0 0,.slice none 0 0,.int .i64 0,.string .empty,.int .i64 0],.slice none 0 0,.int .i64 0] 8 rfl (World.shaped_of_RefB (by kernel_rfl) (by kernel_rfl)) (by kernel_rfl) (by kernel_rfl) (by kernel_rfl) (ze3 os _)) ?_
 intro W base args ds gs before hval0 hW _ hsz hL _
 have hval : ∀ (j : Nat) t v,Tryz.f6.params[j]?=some t→args[j]?=some v→Value.okWide Tryz.prog W .any base t v:=hval0
 have hW':=hW
 obtain ⟨p,q,hA0,hV,rfl,_,_⟩:=hW
 have hA : DataW.TrodAll enc Tryz.prog W 0 (fun _=>true) true Tryz.f6.params.toList args.toList ds p:=hA0
 rw [Tryz.params6] at hA hval
 obtain ⟨v0,vs0,d0,ds0,p0,q0,hargs,rfl,rfl,h0,r0⟩:=trodAll_cons hA
 obtain ⟨v1,vs1,d1,ds1,p1,q1,rfl,rfl,rfl,h1,r1⟩:=trodAll_cons r0
 obtain ⟨v2,vs2,d2,ds2,p2,q2,rfl,rfl,rfl,h2,r2⟩:=trodAll_cons r1
 obtain ⟨v3,vs3,d3,ds3,p3,q3,rfl,rfl,rfl,h3,r3⟩:=trodAll_cons r2
 obtain ⟨rfl,rfl,rfl⟩:=trodAll_nil r3
 obtain rfl : args=#[v0,v1,v2,v3]:=by cases args;simp_all
 obtain ⟨rfl,rfl⟩:=trodVars_none hV
 have lt0 : ∀ x∈p0,x.block < W.heap.size:=by obtain ⟨m,hm⟩:=h0;exact DataW.trod_lt m _ _ _ hm
 have lt1 : ∀ x∈p1,x.block < W.heap.size:=by obtain ⟨m,hm⟩:=h1;exact DataW.trod_lt m _ _ _ hm
 have lt2 : ∀ x∈p2,x.block < W.heap.size:=by obtain ⟨m,hm⟩:=h2;exact DataW.trod_lt m _ _ _ hm
 have lt3 : ∀ x∈p3,x.block < W.heap.size:=by obtain ⟨m,hm⟩:=h3;exact DataW.trod_lt m _ _ _ hm
 have k_0:=h0
 have k_1:=h1
 have k_2:=h2
 have k_3:=h3
 obtain ⟨a0,l0_,c0,rfl⟩:=okWide_slice Tryz.underlying22 (hval 0 22 v0 rfl rfl)
 obtain ⟨m0,hm0⟩:=h0
 obtain ⟨ss0,rfl,hl0,hr0,_⟩:=ze8 hm0 (fun q hq=>by
  have h8:=List.all_eq_true.1 hsz q (DataW.weights_mem_each (j:=0) (t:=22) (d:=d0) (by kernel_rfl) rfl q hq)
  simpa using h8)
 obtain ⟨a1,q1_,c1,b1,r1_,e1,qu1,rfl,hq1,hl1⟩:=zdo (hval 1 26 v1 rfl rfl) h1 (fun q hq=>by
  have h8:=List.all_eq_true.1 hsz q (DataW.weights_mem_each (j:=1) (t:=26) (d:=d1) (by kernel_rfl) rfl q hq)
  simpa using h8)
 obtain ⟨a2_,l2_,c2_,rfl⟩:=okWide_slice Tryz.underlying27 (hval 2 27 v2 rfl rfl)
 obtain ⟨m2,hm2⟩:=h2
 obtain ⟨es2,⟨a2,c2,he2,hr2⟩,hl2⟩:=zeA hm2 (fun q hq=>by
  have h8:=List.all_eq_true.1 hsz q (DataW.weights_mem_each (j:=2) (t:=27) (d:=d2) (by kernel_rfl) rfl q hq)
  simpa using h8)
 injection he2 with he2
 injection he2 with he2a he2b he2c
 subst he2a he2b he2c
 obtain ⟨n3,rfl,_,_,hw3⟩:=open_int Tryz.underlying2 (hval 3 2 v3 rfl rfl) h3
 have hn3 : (-9223372036854775808 : Int)≤n3∧n3≤9223372036854775807:=by
  have h8 : (decide ((-9223372036854775808 : Int)≤n3) && decide (n3≤9223372036854775807))=true:=hw3
  simpa using h8
 clear hA0 hval0
 refine (zgY W hr0 hl0 hq1 hl1 hr2 hl2.lnE n3 hn3).mono fun e W' ⟨he,bel⟩=>?_
 subst he
 exact ⟨_,rfl,_,_,_,[],_,[],hW',trodAll_mk1 (shut_bool Tryz.underlying4 _),(trodAll_cons_mk (Below.trod za7 (by kernel_rfl) (of_decide_eq_true (by kernel_rfl)) k_0 bel lt0) (trodAll_cons_mk (Below.trod za7 (by kernel_rfl) (of_decide_eq_true (by kernel_rfl)) k_1 bel lt1) (trodAll_cons_mk (Below.trod za7 (by kernel_rfl) (of_decide_eq_true (by kernel_rfl)) k_2 bel lt2) (trodAll_cons_mk (Below.trod za7 (by kernel_rfl) (of_decide_eq_true (by kernel_rfl)) k_3 bel lt3) trodAll_mk0)))),rfl,bel.frame _,fun h=>by cases h⟩
set_option maxHeartbeats 400000000 in
theorem closed : joinedFacts Tryz.pinned.checked.prog 6 Tryz.f6 Rows.runNextSpec Rows.runNextRow=true:=by
 unfold joinedFacts
 repeat' with_reducible refine Bool.and_eq_true_iff.2 ⟨?_,?_⟩
 all_goals as_aux_lemma=>kernel_rfl
theorem row_holds : Rows.RunNextSaid :=
 OpenClaim.holds_of_wide 6 Tryz.f6 rfl rfl rfl rfl rfl rfl rfl ⟨rfl,rfl,rfl,rfl,rfl⟩ rfl rfl rfl rfl rfl (by kernel_rfl) Tryz.func6 closed
  (of_decide_eq_true (by kernel_rfl)) (by unfold Func.isWrapper;first|(rw [if_pos (by decide +kernel)];kernel_rfl)|(rw [if_neg (by decide +kernel)];exact ⟨rfl,rfl⟩))
  (fun os started H enc _=>lifted os started H enc)
theorem holds : Rows.RunNextCardSaid :=
 Claim7.holds_tied_plain_at .later [] [.data] true _ false row_holds (fun _ h=>by cases h) (by as_aux_lemma=>kernel_rfl) (fun _ h=>by cases h) runNext_row_tie rfl ⟨rfl,rfl⟩ (by as_aux_lemma=>kernel_rfl) rfl
  (fun f fn hf hfn=>by
    obtain rfl : f=6:=Option.some.inj ((show Tryz.prog.funcNamed "augury/augurylaw13.RunNext"=some 6 by as_aux_lemma=>kernel_rfl).symm.trans hf) |>.symm
    obtain rfl : fn=Tryz.f6:=(Option.some.inj (Tryz.func6.symm.trans hfn)).symm
    exact ⟨by as_aux_lemma=>kernel_rfl,fun j t ht=>by
     rw [Tryz.params6] at ht
     have hm : t∈[22,26,27,2]:=by simpa using Array.mem_of_getElem? ht
     have hall : ([22,26,27,2].all fun u=>!Tryz.prog.wantsStandIn u)=true:=by as_aux_lemma=>kernel_rfl
     exact (show Tryz.prog.wantsStandIn t=false by simpa using List.all_eq_true.1 hall t hm)⟩)
  (by as_aux_lemma=>kernel_rfl)
end runNext
end Go.Proofs.YtkmlfkbpcgkpaaaGreatDoor
