/- RunTimes (P13.4): behind Time no run is left whose time is over, those that are left were there, and a time that comes in two steps finds the same as at once, for every query, any runs and any two times. No condition. -/
import Derived.Test.YtkmlfkbpcgkpaaaGreatDoorNB
import Derived.Test.YtkmlfkbpcgkpaaaGreatDoorM3
namespace Go.Proofs.YtkmlfkbpcgkpaaaGreatDoor
open Go.ChangeShapes Go.WideShapes Go.ChangeAt Go.RowKit Go.Lib Go.Deep Go.Joins
open Go.ChangeMaps (open_string shut_string)
set_option maxHeartbeats 8000000
set_option maxRecDepth 100000
namespace runTimes
theorem lifted (os : Os) (started : os.Started) (H : Type) (enc : TypeId × Value→H) :
 ReturnsInHanded {} Tryz.checked os 5 .any (fun w args=>(Rows.runTimesSpec.pre enc Tryz.prog Tryz.f5 [] false w args∧laidMetH Tryz.prog laidR w)∧sizedMet enc Tryz.prog Tryz.f5 (OpenSpec.ofChange Rows.runTimesSpec) false w args)
  (Rows.runTimesSpec.post enc Tryz.prog Tryz.f5 false true false false):=by
 refine returnsInHanded_of_change_and (C:=Tryz.checked) (X:=fun w _=>laidMetH Tryz.prog laidR w) (fun _ _ _ hh h=>h.of_heap hh) zkk started (by kernel_rfl) Tryz.func5
  (ChangeSpec.witness_shaped (enc:=enc) (C:=Tryz.checked) (os:=os) (X:=fun w _=>laidMetH Tryz.prog laidR w) false (World.doorLaid Tryz.prog 20 os) #[.agg #[.slice none 0 0,.slice none 0 0,.int .i64 0,.string .empty,.int .i64 0],.slice none 0 0,.int .i64 0,.int .i64 0] 8 rfl (World.shaped_of_RefB (by kernel_rfl) (by kernel_rfl)) (by kernel_rfl) (by kernel_rfl) (by kernel_rfl) (ze3 os _)) ?_
 intro W base args ds gs before hval0 hW _ hsz hL _
 have hval : ∀ (j : Nat) t v,Tryz.f5.params[j]?=some t→args[j]?=some v→Value.okWide Tryz.prog W .any base t v:=hval0
 have hW':=hW
 obtain ⟨p,q,hA0,hV,rfl,_,_⟩:=hW
 have hA : DataW.TrodAll enc Tryz.prog W 0 (fun _=>true) true Tryz.f5.params.toList args.toList ds p:=hA0
 rw [Tryz.params5] at hA hval
 obtain ⟨v0,vs0,d0,ds0,p0,q0,hargs,rfl,rfl,h0,r0⟩:=trodAll_cons hA
 obtain ⟨v1,vs1,d1,ds1,p1,q1,rfl,rfl,rfl,h1,r1⟩:=trodAll_cons r0
 obtain ⟨v2,vs2,d2,ds2,p2,q2,rfl,rfl,rfl,h2,r2⟩:=trodAll_cons r1
 obtain ⟨v3,vs3,d3,ds3,p3,q3,rfl,rfl,rfl,h3,r3⟩:=trodAll_cons r2
 obtain ⟨rfl,rfl,rfl⟩:=trodAll_nil r3
 obtain rfl : args=#[v0,v1,v2,v3]:=by cases args;simp_all
 obtain ⟨rfl,rfl⟩:=trodVars_none hV
 have lt0 : ∀ x∈p0,x.block < W.heap.size:=by obtain ⟨m,hm⟩:=h0;exact DataW.trod_lt m _ _ _ hm
 have lt1 : ∀ x∈p1,x.block < W.heap.size:=by obtain ⟨m,hm⟩:=h1;exact DataW.trod_lt m _ _ _ hm
 have lt2 : ∀ x∈p2,x.block < W.heap.size:=by obtain ⟨m,hm⟩:=h2;exact DataW.trod_lt m _ _ _ hm
 have lt3 : ∀ x∈p3,x.block < W.heap.size:=by obtain ⟨m,hm⟩:=h3;exact DataW.trod_lt m _ _ _ hm
 have k_0:=h0
 have k_1:=h1
 have k_2:=h2
 have k_3:=h3
 obtain ⟨a0,q0_,c0,b0,r0_,e0,qu0,rfl,hq0,hl0⟩:=zdo (hval 0 26 v0 rfl rfl) h0 (fun q hq=>by
  have h8:=List.all_eq_true.1 hsz q (DataW.weights_mem_each (j:=0) (t:=26) (d:=d0) (by kernel_rfl) rfl q hq)
  simpa using h8)
 obtain ⟨a1_,l1_,c1_,rfl⟩:=okWide_slice Tryz.underlying48 (hval 1 48 v1 rfl rfl)
 obtain ⟨m1,hm1⟩:=h1
 obtain ⟨rs1,a1,c1,he1,hr1,hl1,hb1⟩:=zgF hm1 (fun q hq=>by
  have h8:=List.all_eq_true.1 hsz q (DataW.weights_mem_each (j:=1) (t:=48) (d:=d1) (by kernel_rfl) rfl q hq)
  simpa using h8)
 injection he1 with he1
 injection he1 with he1a he1b he1c
 subst he1a he1b he1c
 obtain ⟨n2,rfl,_,_,hw2⟩:=open_int Tryz.underlying2 (hval 2 2 v2 rfl rfl) h2
 have hn2 : (-9223372036854775808 : Int)≤n2∧n2≤9223372036854775807:=by
  have h8 : (decide ((-9223372036854775808 : Int)≤n2) && decide (n2≤9223372036854775807))=true:=hw2
  simpa using h8
 obtain ⟨n3,rfl,_,_,hw3⟩:=open_int Tryz.underlying2 (hval 3 2 v3 rfl rfl) h3
 have hn3 : (-9223372036854775808 : Int)≤n3∧n3≤9223372036854775807:=by
  have h8 : (decide ((-9223372036854775808 : Int)≤n3) && decide (n3≤9223372036854775807))=true:=hw3
  simpa using h8
 clear hA0 hval0
 refine (ze9 W hq0 hl0 hr1 hl1 hb1 n2 n3 hn2 hn3).mono fun e W' ⟨he,bel⟩=>?_
 subst he
 exact ⟨_,rfl,_,_,_,[],_,[],hW',trodAll_mk1 (shut_bool Tryz.underlying4 _),(trodAll_cons_mk (Below.trod za7 (by kernel_rfl) (of_decide_eq_true (by kernel_rfl)) k_0 bel lt0) (trodAll_cons_mk (Below.trod za7 (by kernel_rfl) (of_decide_eq_true (by kernel_rfl)) k_1 bel lt1) (trodAll_cons_mk (Below.trod za7 (by kernel_rfl) (of_decide_eq_true (by kernel_rfl)) k_2 bel lt2) (trodAll_cons_mk (Below.trod za7 (by kernel_rfl) (of_decide_eq_true (by kernel_rfl)) k_3 bel lt3) trodAll_mk0)))),rfl,bel.frame _,fun h=>by cases h⟩
set_option maxHeartbeats 400000000 in
theorem closed : joinedFacts Tryz.pinned.checked.prog 5 Tryz.f5 Rows.runTimesSpec Rows.runTimesRow=true:=by
 unfold joinedFacts
 repeat' with_reducible refine Bool.and_eq_true_iff.2 ⟨?_,?_⟩
 all_goals as_aux_lemma=>kernel_rfl
theorem row_holds : Rows.RunTimesSaid :=
 OpenClaim.holds_of_wide 5 Tryz.f5 rfl rfl rfl rfl rfl rfl rfl ⟨rfl,rfl,rfl,rfl,rfl⟩ rfl rfl rfl rfl rfl (by kernel_rfl) Tryz.func5 closed
  (of_decide_eq_true (by kernel_rfl)) (by unfold Func.isWrapper;first|(rw [if_pos (by decide +kernel)];kernel_rfl)|(rw [if_neg (by decide +kernel)];exact ⟨rfl,rfl⟩))
  (fun os started H enc _=>lifted os started H enc)
theorem holds : Rows.RunTimesCardSaid :=
 Claim7.holds_tied_plain_at .later [] [.data] true _ false row_holds (fun _ h=>by cases h) (by as_aux_lemma=>kernel_rfl) (fun _ h=>by cases h) runTimes_row_tie rfl ⟨rfl,rfl⟩ (by as_aux_lemma=>kernel_rfl) rfl
  (fun f fn hf hfn=>by
    obtain rfl : f=5:=Option.some.inj ((show Tryz.prog.funcNamed "augury/augurylaw13.RunTimes"=some 5 by as_aux_lemma=>kernel_rfl).symm.trans hf) |>.symm
    obtain rfl : fn=Tryz.f5:=(Option.some.inj (Tryz.func5.symm.trans hfn)).symm
    exact ⟨by as_aux_lemma=>kernel_rfl,fun j t ht=>by
     rw [Tryz.params5] at ht
     have hm : t∈[26,48,2,2]:=by simpa using Array.mem_of_getElem? ht
     have hall : ([26,48,2,2].all fun u=>!Tryz.prog.wantsStandIn u)=true:=by as_aux_lemma=>kernel_rfl
     exact (show Tryz.prog.wantsStandIn t=false by simpa using List.all_eq_true.1 hall t hm)⟩)
  (by as_aux_lemma=>kernel_rfl)
end runTimes
end Go.Proofs.YtkmlfkbpcgkpaaaGreatDoor
