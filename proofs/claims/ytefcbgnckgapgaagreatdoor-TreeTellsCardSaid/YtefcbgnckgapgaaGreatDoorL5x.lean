/- Words: all tokens of a text. -/
import Derived.Test.YtefcbgnckgapgaaGreatDoorL4x
import Derived.Maps.AppendAt
import Derived.Laws.OwnMore
import Derived.Lib.AppendZeros
namespace Go.Proofs.YtefcbgnckgapgaaGreatDoor
open Go.RowKit Go.Lib Go.Op
theorem lexX_end {f : Nat} {l : List UInt8} {a n : Nat} (h : l.length≤manyL xblank l) : lexX (f+1) l a n=([],0,0):=by rw [lexX,if_pos h]
theorem lexX_none {f : Nat} {l : List UInt8} {a n : Nat} (h : ¬ l.length≤manyL xblank l) (h2 : (firstX (l.drop (manyL xblank l))).2=0) : lexX (f+1) l a n=([],71,a+manyL xblank l):=by rw [lexX,if_neg h,if_pos h2]
theorem lexX_many {f : Nat} {l : List UInt8} {a n : Nat} (h : ¬ l.length≤manyL xblank l) (h2 : (firstX (l.drop (manyL xblank l))).2≠0) (hn : n=128) : lexX (f+1) l a n=([],2,a+manyL xblank l):=by rw [lexX,if_neg h,if_neg h2,if_pos hn]
theorem lexX_more {f : Nat} {l : List UInt8} {a n : Nat} (h : ¬ l.length≤manyL xblank l) (h2 : (firstX (l.drop (manyL xblank l))).2≠0) (hn : n≠128) :
 lexX (f+1) l a n=consX ⟨(firstX (l.drop (manyL xblank l))).1,textX (firstX (l.drop (manyL xblank l))).1 ((l.drop (manyL xblank l)).take (firstX (l.drop (manyL xblank l))).2),a+manyL xblank l⟩
  (lexX f ((l.drop (manyL xblank l)).drop (firstX (l.drop (manyL xblank l))).2) (a+manyL xblank l+(firstX (l.drop (manyL xblank l))).2) (n+1)):=by rw [lexX,if_neg h,if_neg h2,if_neg hn]
theorem firstX_three {l : List UInt8} (h : (firstX l).1=3) : 2≤(firstX l).2:=by
 cases l with
 | nil=>cases h
 | cons c t =>
   have h' : (firstC c t).1=3:=h
   show 2≤(firstC c t).2
   unfold firstC at h' ⊢
   split at h'
   ·split at h' <;> cases h'
   ·rename_i n1
    rw [if_neg n1]
    split at h'
    ·split at h' <;> cases h'
    ·rename_i n2
     rw [if_neg n2]
     split at h'
     ·rename_i hc
      rw [if_pos hc]
      split at h'
      ·cases h'
      ·rename_i hq
       rw [if_neg hq]
       show 2≤1+_+1
       omega
     ·split at h'
      ·cases h'
      ·split at h' <;> cases h'
theorem bsize (s : ByteArray) : s.data.toList.length=s.size:=by simp
theorem wp_scope_jumps_from {P : Program} {a : Act} {w : World} {Q : Exit→Act→World→Prop} {c rest : Code} (l : Nat) (J : Act→World→Prop) (μ : Act→World→Nat) (hf : findLabel c l=some (.seq .skip rest))
 (hfirst : ∀ R : Exit→Act→World→Prop,(∀ a w,R .ret a w=Q .ret a w)→(∀ a1 w1,J a1 w1→rest.wp P R a1 w1)→c.wp P R a w)
 (pass : ∀ a w,J a w→rest.wp P (Exit.jump l (fun a' w'=>J a' w'∧μ a' w' < μ a w) Q) a w) : (Code.scope c).wp P Q a w :=
 wp_scope_jumps l J μ hf (hfirst _ (fun _ _=>rfl) (fun a1 w1 hJ=>Code.wp_mono (fun e a w q=>by
  cases e with
  | goto l'=>exact ⟨q.1,q.2.1⟩
  | _=>exact q) (pass a1 w1 hJ))) (fun a w h=>wp_seq (wp_skip (pass a w h)))
def XTok.cells (t : XTok) : List Value:=[.int .i64 t.k,.string (strB t.b),.int .i64 t.at_]
def flatX : List XTok→List Value
 | []=>[]
 | t :: l=>t.cells++flatX l
theorem flatX_append : ∀ (l m : List XTok),flatX (l++m)=flatX l++flatX m
 | [],_=>rfl
 | t :: l,m=>by rw [List.cons_append,flatX,flatX,flatX_append l m,List.append_assoc]
theorem flatX_len : ∀ (l : List XTok),(flatX l).length=l.length*3
 | []=>rfl
 | t :: l=>by rw [flatX,List.length_append,flatX_len l,List.length_cons];simp [XTok.cells];omega
theorem flatX_one : ∀ (l : List XTok),∀ u∈flatX l,u.oneCell'=true
 | [],u,h=>by cases h
 | t :: l,u,h=>by
   rw [flatX,List.mem_append] at h
   rcases h with h|h
   ·simp only [XTok.cells,List.mem_cons,List.not_mem_nil,or_false] at h
    rcases h with rfl|rfl|rfl <;> rfl
   ·exact flatX_one l u h
theorem infoX : (Tryz.prog.info? 56).map (fun i=>(i.zero,i.size,i.bytes))=some (some (.agg #[.int .i64 0,.string .empty,.int .i64 0]),3,32):=by kernel_rfl
def XOwn (w : World) (B : Nat) (v : Value) (l : List XTok) : Prop:=w.ownsRow B 56 3 v l.length (flatX l)
theorem XOwn.nil (w : World) (B : Nat) : XOwn w B (.slice none 0 0) []:=World.ownsRow_nil _ _ _ _
theorem XOwn.below {w w' : World} {B : Nat} {v : Value} {l : List XTok} (h : XOwn w B v l) (hb : Below w.heap.size w w') : XOwn w' B v l:=by
 refine ⟨h.1,?_⟩
 rcases h.2 with h2|⟨g,cap,cur,rfl,hg,hh,r⟩
 ·exact Or.inl h2
 ·exact Or.inr ⟨g,cap,cur,rfl,hg,(hb.block g (Array.getElem?_eq_some_iff.1 hh).1).trans hh,r⟩
theorem XOwn.slice {w : World} {B : Nat} {v : Value} {l : List XTok} (h : XOwn w B v l) : ∃ a c,v=.slice a l.length c:=by
 rcases h.2 with ⟨rfl,h0⟩|⟨g,cap,cur,rfl,_⟩
 ·exact ⟨none,0,by rw [h0]⟩
 ·exact ⟨_,cap,rfl⟩
theorem XOwn.append {w : World} {B : Nat} {v : Value} {l : List XTok} (h : XOwn w B v l) (hB : B≤w.heap.size) (hl : l.length≤1000) (x : XTok) (vb : Nat) (hvb : w.heap[vb]?=some (.cells x.cells.toArray 56 (0,0))) (ty : TypeId) :
 ∃ v' w',(Builtin.append_ #[45,45] ty #[v,.slice (some ⟨vb,0,none⟩) 1 1]).run Tryz.prog w=.ok v' w'∧XOwn w' B v' (l++[x])∧w.grownBy w' v.ownBlock:=by
 obtain ⟨i0,hi,hz0,hz1,hz2⟩:=info_parts infoX
 have hsrc : ∀ j u,x.cells[j]?=some u→w.cell? ((⟨vb,0,none⟩ : Addr).add j)=some u:=fun j u hj=>by
  have e : (⟨vb,0,none⟩ : Addr).add j=⟨vb,j,none⟩:=by unfold Addr.add;split <;> simp_all
  rw [e,cell_of_row w vb j _ 56 (0,0) hvb]
  simpa using hj
 obtain ⟨v',w',hr,h2,h3,_,h5⟩:=run_append_own_at (P:=Tryz.prog) w B 45 ty 56 i0 _ 3 32 Tryz.underlying45 hi hz0 hz1 hz2 rfl (by decide) v l.length (flatX l) h ⟨vb,0,none⟩ 1 1 x.cells (by simp [XTok.cells]) hsrc (fun u hu=>flatX_one [x] u (by simpa [flatX] using hu)) (by unfold maxLen;omega) (by omega) hB
 refine ⟨v',w',hr,?_,h3⟩
 unfold XOwn
 rw [flatX_append,List.length_append]
 simpa [flatX] using h2
def ReadQ (w : World) (r : List XTok × Nat × Nat) (e : Ending) (w' : World) : Prop :=
 ∃ v,e=.returned (.tuple #[v,.int .i64 r.2.1,.int .i64 r.2.2])∧XOwn w' w.heap.size v r.1∧Below w.heap.size w w'
theorem ReadQ.mk {w : World} {r : List XTok × Nat × Nat} {l : List XTok} {x p : Nat} {x' p' : Int} {v : Value} {w' : World} (h : r=(l,x,p)) (hx : x'=x) (hp : p'=p) (ho : XOwn w' w.heap.size v l) (hb : Below w.heap.size w w') : ReadQ w r (.returned (.tuple #[v,.int .i64 x',.int .i64 p'])) w':=by
 subst h hx hp
 exact ⟨v,rfl,ho,hb⟩
def XIn (w : World) (l : List UInt8) (f at_ : Nat) (acc : List XTok) (v : Value) (W : World) : Prop :=
 at_≤l.length∧l.length - at_ < f∧readX l=appX acc (lexX f (l.drop at_) at_ acc.length)∧acc.length≤128∧XOwn W w.heap.size v acc∧Below w.heap.size w W
theorem XIn.step {w : World} {l : List UInt8} {f a : Nat} {acc : List XTok} {v v2 : Value} {W w2 : World} (h : XIn w l (f+1) a acc v W) {b : Nat} (hb : manyL xblank (l.drop a)=b) (_hne : ¬ a+b=l.length) {k z : Nat} (hz : firstX (l.drop (a+b))=(k,z)) (h0 : z≠0) (h128 : acc.length≠128)
 (ho : XOwn w2 w.heap.size v2 (acc++[⟨k,textX k ((l.drop (a+b)).take z),a+b⟩])) (hbw : Below w.heap.size w w2) : XIn w l f (a+b+z) (acc++[⟨k,textX k ((l.drop (a+b)).take z),a+b⟩]) v2 w2:=by
 obtain ⟨h1,h2,h3,h4,_,_⟩:=h
 have hble:=manyL_le xblank (l.drop a)
 rw [List.length_drop,hb] at hble
 have hle:=firstX_le (l.drop (a+b))
 rw [hz,List.length_drop] at hle
 dsimp only at hle
 have hdd : (l.drop a).drop (manyL xblank (l.drop a))=l.drop (a+b):=by rw [hb,List.drop_drop]
 refine ⟨by omega,by omega,?_,by rw [List.length_append];simp;omega,ho,hbw⟩
 rw [h3,lexX_more (by rw [List.length_drop,hb];omega) (by rw [hdd,hz];exact h0) h128,hdd,hz,hb,appX_cons]
 dsimp only
 rw [List.drop_drop,List.length_append]
 rfl
set_option maxHeartbeats 4000000 in
set_option maxRecDepth 100000 in
theorem read_calls {w : World} (hv : XVars w) (s : ByteArray) (l : List UInt8) (hl : s.data.toList=l) (hs : s.size≤100000) :
 Calls Tryz.prog 11 #[.string s] w (ReadQ w (readX l)):=by
 have hlen : l.length=s.size:=by rw [← hl];simp
 by_cases hlong : 512 < s.size
 ·have hr : readX l=([],2,0):=by unfold readX;rw [if_pos (by omega)]
  have Hr:=hid hr
  clear hr hl hlen hv
  go_enter Tryz.func11,Tryz.ntmps11
  go_wp2
  refine wp_scope_goes' 0 (fun C HC=>?_)
  clear HC
  go_wp2
  rw [Exit.goes_ret]
  refine bodyPost_ret (v:=.tuple #[.slice none 0 0,.int .i64 2,.int .i64 0]) (by simp [results,Tryz.results11,go_sem]) rfl ?_
  exact ReadQ.mk Hr.out rfl rfl (XOwn.nil _ _) (Below.refl _ _)
 have Hl:=hid hl
 have Hlen:=hid hlen
 have Hv:=hid hv
 have HC:=hid (sclone_calls s w (by omega))
 have HR0 : Hid (readX l=appX [] (lexX (s.size+1) (l.drop 0) 0 ([] : List XTok).length)):=by
  show _=_
  rw [appX_nil _ (lexX_form _ _ _ _).1]
  unfold readX
  rw [if_neg (by omega),hlen]
  rfl
 clear hl hlen hv
 go_enter Tryz.func11,Tryz.ntmps11
 go_wp2
 refine wp_scope_jumps_from 0 (fun a' W=>∃ (f a : Nat) (acc : List XTok) (v u7 u8 u9 u10 u11 u12 u13 u14 u15 u16 u17 u18 u19 u20 u21 u22 u23 u24 u25 u26 u27 u28 u29 u30 u31 u32 u33 u34 u35 u36 u37 u38 u39 u40 u41 u42 u43 u44 u45 u46 u47 u48 u49 u50 u51 u52 u53 : Value),a'={ tmps:=#[.string s,undef,.slice none 0 0,.int .i64 0,.int .i64 0,v,.int .i64 a,u7,u8,u9,u10,u11,u12,u13,u14,u15,u16,u17,u18,u19,u20,u21,u22,u23,u24,u25,u26,u27,u28,u29,u30,u31,u32,u33,u34,u35,u36,u37,u38,u39,u40,u41,u42,u43,u44,u45,u46,u47,u48,u49,u50,u51,u52,u53],defers:=[] }∧Hid (XIn w l f a acc v W)) (fun a' _=>s.size - (RowKit.intOf (a'.eval (.tmp 6))).toNat) rfl ?_ ?_
 ·intro R hRr hR
  go_wp2_with (go_at_call 30;(with_reducible refine HC.out.mono ?_);rintro e w1 ⟨rfl,hb1⟩)
  have HX : Hid (XIn w l (s.size+1) 0 [] (.slice none 0 0) w1):=⟨Nat.zero_le _,by rw [Hlen.out];omega,HR0.out,by simp,XOwn.nil _ _,hb1⟩
  clear hb1
  go_step3
  rename_i K hK
  exact hK _ _ (hR _ _ ⟨s.size+1,0,[],_,_,_,_,_,_,_,_,_,_,_,_,_,_,_,_,_,_,_,_,_,_,_,_,_,_,_,_,_,_,_,_,_,_,_,_,_,_,_,_,_,_,_,_,_,_,_,_,rfl,HX⟩)
 ·rintro a' W ⟨f,a,acc,v,u7,u8,u9,u10,u11,u12,u13,u14,u15,u16,u17,u18,u19,u20,u21,u22,u23,u24,u25,u26,u27,u28,u29,u30,u31,u32,u33,u34,u35,u36,u37,u38,u39,u40,u41,u42,u43,u44,u45,u46,u47,u48,u49,u50,u51,u52,u53,rfl,HX⟩
  have hX:=HX.out
  obtain ⟨h1,h2,h3,h4,h5,h6⟩:=hX
  rw [Hlen.out] at h1 h2
  obtain ⟨f,rfl⟩ : ∃ g,f=g+1:=⟨f - 1,by omega⟩
  have H3:=hid h3
  have HO:=hid h5
  have HB:=hid h6
  obtain ⟨va,vc,rfl⟩:=h5.slice
  clear h3 h5 h6
  obtain ⟨b,hb⟩ : ∃ b,manyL xblank (l.drop a)=b:=⟨_,rfl⟩
  have hble:=manyL_le xblank (l.drop a)
  rw [List.length_drop,hb,Hlen.out] at hble
  have Hb:=hid hb
  have hxl : (s.extract a s.size).data.toList=l.drop a:=by rw [Pa.extract_from,Hl.out]
  have hxz : (s.extract a s.size).size≤1000:=by
   have e:=bsize (s.extract a s.size)
   rw [← e,hxl,List.length_drop,Hlen.out];omega
  have HM : Hid (∀ W,Calls Tryz.prog 31 #[.string (s.extract a s.size),.func (.func 32) #[] #[]] W fun e w'=>e=.returned (.int .i64 b)∧W=w'):=fun W=>by rw [← hb,← hxl];exact many_xblank _ W hxz
  clear hb hxl hxz
  by_cases hend : a+b=s.size
  ·have hres : readX l=(acc,0,0):=by
    rw [H3.out,lexX_end (by rw [List.length_drop,Hb.out,Hlen.out];omega)]
    unfold appX
    simp
   have Hres:=hid hres
   have t1 : ((a : Int)+(b : Int) == (s.size : Int))=true:=by rw [beq_iff_eq];omega
   clear hres
   go_wp2_with (go_at_call 31;(with_reducible refine (HM.out _).mono ?_);rintro e w1 ⟨rfl,rfl⟩)
   simp only [Exit.jump]
   refine bodyPost_ret (v:=.tuple #[.slice va acc.length vc,.int .i64 0,.int .i64 0]) (by simp [results,Tryz.results11,go_sem]) rfl ?_
   exact ReadQ.mk Hres.out rfl rfl HO.out HB.out
  have t1 : ((a : Int)+(b : Int) == (s.size : Int))=false:=by rw [beq_eq_false_iff_ne];omega
  have hab : (a : Int)+(b : Int)≤(s.size : Int):=by omega
  have habn : ((a : Int)+(b : Int)).toNat=a+b:=by omega
  have hab0 : (0 : Int)≤(a : Int)+(b : Int):=by omega
  have hyl : (s.extract (a+b) s.size).data.toList=l.drop (a+b):=by rw [Pa.extract_from,Hl.out]
  have hyz : 0 < (s.extract (a+b) s.size).size∧(s.extract (a+b) s.size).size≤1000:=by
   have e:=bsize (s.extract (a+b) s.size)
   rw [← e,hyl,List.length_drop,Hlen.out];omega
  obtain ⟨⟨k,z⟩,hkz⟩ : ∃ p,firstX (l.drop (a+b))=p:=⟨_,rfl⟩
  have HF : Hid (Calls Tryz.prog 33 #[.string (s.extract (a+b) s.size)] W fun e w'=>e=.returned (.tuple #[.int .i64 k,.int .i64 z])∧Below W.heap.size W w'):=by
   show Calls _ _ _ _ _
   have h:=first_calls (Hv.out.below HB.out) (s.extract (a+b) s.size) (l.drop (a+b)) hyl hyz.1 hyz.2
   unfold XFirst at h
   rw [hkz] at h
   exact h
  have hzle:=firstX_le (l.drop (a+b))
  rw [hkz,List.length_drop,Hlen.out] at hzle
  dsimp only at hzle
  have h3z:=fun (e : k=3)=>(firstX_three (l:=l.drop (a+b)) (by rw [hkz];exact e))
  rw [hkz] at h3z
  dsimp only at h3z
  have Hkz:=hid hkz
  have H3z:=hid h3z
  clear hkz hyl hyz h3z
  have hdd : (l.drop a).drop (manyL xblank (l.drop a))=l.drop (a+b):=by rw [Hb.out,List.drop_drop]
  have hnb : ¬ (l.drop a).length≤manyL xblank (l.drop a):=by rw [List.length_drop,Hb.out,Hlen.out];omega
  have Hdd:=hid hdd
  have Hnb:=hid hnb
  clear hdd hnb
  by_cases hz0 : z=0
  ·have hres : readX l=([],71,a+b):=by
    rw [H3.out,lexX_none Hnb.out (by rw [Hdd.out,Hkz.out];exact hz0),Hb.out]
    unfold appX
    simp
   have Hres:=hid hres
   subst hz0
   clear hres
   go_wp2_with (first|(go_at_call 31;(with_reducible refine (HM.out _).mono ?_);rintro e w1 ⟨rfl,rfl⟩)|(go_at_call 33;(with_reducible refine HF.out.mono ?_);rintro e w1 ⟨rfl,hb1⟩;have HB1:=hid (HB.out.trans (hb1.mono HB.out.size));clear hb1))
   simp only [Exit.jump]
   refine bodyPost_ret (v:=.tuple #[.slice none 0 0,.int .i64 71,.int .i64 ((a : Int)+(b : Int))]) (by simp [results,Tryz.results11,go_sem]) rfl ?_
   exact ReadQ.mk Hres.out rfl (by omega) (XOwn.nil _ _) HB1.out
  have tz : ((z : Int) == 0)=false:=by rw [beq_eq_false_iff_ne];omega
  obtain ⟨q,hq⟩ : ∃ q,acc.length=q:=⟨_,rfl⟩
  have Hq:=hid hq
  rw [hq] at h4 ⊢
  clear hq
  by_cases h128 : q=128
  ·have hres : readX l=([],2,a+b):=by
    rw [H3.out,lexX_many Hnb.out (by rw [Hdd.out,Hkz.out];exact hz0) (by rw [Hq.out];exact h128),Hb.out]
    unfold appX
    simp
   have Hres:=hid hres
   have tq : ((q : Int) == 128)=true:=by rw [beq_iff_eq];omega
   clear hres
   go_wp2_with (first|(go_at_call 31;(with_reducible refine (HM.out _).mono ?_);rintro e w1 ⟨rfl,rfl⟩)|(go_at_call 33;(with_reducible refine HF.out.mono ?_);rintro e w1 ⟨rfl,hb1⟩;have HB1:=hid (HB.out.trans (hb1.mono HB.out.size));clear hb1))
   simp only [Exit.jump]
   refine bodyPost_ret (v:=.tuple #[.slice none 0 0,.int .i64 2,.int .i64 ((a : Int)+(b : Int))]) (by simp [results,Tryz.results11,go_sem]) rfl ?_
   exact ReadQ.mk Hres.out rfl (by omega) (XOwn.nil _ _) HB1.out
  have tq : ((q : Int) == 128)=false:=by rw [beq_eq_false_iff_ne];omega
  have hz1 : (0 : Int)≤(a : Int)+(b : Int)+(z : Int):=by omega
  have hz2 : (a : Int)+(b : Int)+(z : Int)≤(s.size : Int):=by omega
  have hz3 : ((a : Int)+(b : Int)+(z : Int)).toNat=a+b+z:=by omega
  have hz4 : (a : Int)+(b : Int)≤(a : Int)+(b : Int)+(z : Int):=by omega
  have hxt : (s.extract (a+b) (a+b+z)).data.toList=(l.drop (a+b)).take z:=by
   rw [ext_list,Hl.out,List.drop_take]
   congr 1
   omega
  have hxs : (s.extract (a+b) (a+b+z)).size=z:=by
   have e:=bsize (s.extract (a+b) (a+b+z))
   rw [← e,hxt,List.length_take,List.length_drop,Hlen.out];omega
  have HT : Hid (∀ W,Calls Tryz.prog 34 #[.int .i64 k,.string (s.extract (a+b) (a+b+z)),.int .i64 ((a+b : Nat) : Int)] W (TokQ W k ((l.drop (a+b)).take z) (a+b))):=fun W=>by
   rw [← hxt]
   exact token_calls k _ (a+b) W (fun e=>by rw [hxs];exact H3z.out e) (by omega)
  have hcast : ((a+b : Nat) : Int)=(a : Int)+(b : Int):=by omega
  rw [hcast] at HT
  have HAP : Hid (∀ w2,Below W.heap.size W w2→∃ a9 l9 c9 w9,(Builtin.append_ #[45,45] 45 #[.slice va q vc,.slice (some ⟨w2.heap.size,0,none⟩) 1 1]).run Tryz.prog (w2.alloc (.cells #[.int .i64 k,.string (strB (textX k ((l.drop (a+b)).take z))),.int .i64 ((a : Int)+(b : Int))] 56))=.ok (.slice a9 l9 c9) w9∧Hid (XIn w l f (a+b+z) (acc++[⟨k,textX k ((l.drop (a+b)).take z),a+b⟩]) (.slice a9 l9 c9) w9)):=fun w2 hb2=>by
   have hbw : Below w.heap.size w w2:=HB.out.trans (hb2.mono HB.out.size)
   have hba:=hbw.alloc hbw.size (.cells #[.int .i64 k,.string (strB (textX k ((l.drop (a+b)).take z))),.int .i64 ((a : Int)+(b : Int))] 56)
   have hown : XOwn (w2.alloc (.cells #[.int .i64 k,.string (strB (textX k ((l.drop (a+b)).take z))),.int .i64 ((a : Int)+(b : Int))] 56)) w.heap.size (.slice va q vc) acc:=by
    have h:=(HO.out.below hb2).below ((Below.refl _ _).alloc (Nat.le_refl _) (.cells #[.int .i64 k,.string (strB (textX k ((l.drop (a+b)).take z))),.int .i64 ((a : Int)+(b : Int))] 56))
    rw [Hq.out] at h
    exact h
   obtain ⟨v9,w9,hr9,ho9,hg9⟩:=hown.append hba.size (by rw [Hq.out];omega) ⟨k,textX k ((l.drop (a+b)).take z),a+b⟩ w2.heap.size (by rw [show (⟨k,textX k ((l.drop (a+b)).take z),a+b⟩ : XTok).cells.toArray=#[.int .i64 k,.string (strB (textX k ((l.drop (a+b)).take z))),.int .i64 ((a : Int)+(b : Int))] by rw [← hcast];rfl];exact heap_alloc_new w2 _) 45
   obtain ⟨a9,c9,rfl⟩:=ho9.slice
   refine ⟨a9,_,c9,w9,hr9,?_⟩
   exact XIn.step HX.out Hb.out (by rw [Hlen.out];exact hend) Hkz.out hz0 (by rw [Hq.out];exact h128) ho9 (hba.grown hg9 hba.size (fun j hj=>(hown.lt j hj).1))
  clear hxt hxs hcast H3z
  go_wp2_with (first
   | (go_at_call 31;(with_reducible refine (HM.out _).mono ?_);rintro e w1 ⟨rfl,rfl⟩)
   | (go_at_call 33;(with_reducible refine HF.out.mono ?_);rintro e w1 ⟨rfl,hb1⟩;have HB1:=hid hb1;clear hb1)
   | (go_at_call 34;(with_reducible refine (HT.out _).mono ?_);rintro e w2 ⟨rfl,hb2⟩;obtain ⟨a9,l9,c9,w9,hr9,HF9⟩:=HAP.out _ (HB1.out.trans (hb2.mono HB1.out.size));clear hb2)
   | (at_builtin;refine Lib.wpList_append_run _ rfl _ _ _ _ rfl _ _ rfl rfl _ _ hr9 ?_;clear hr9))
  go_step3
  refine ⟨rfl,⟨f,a+b+z,_,_,_,_,_,_,_,_,_,_,_,_,_,_,_,_,_,_,_,_,_,_,_,_,_,_,_,_,_,_,_,_,_,_,_,_,_,_,_,_,_,_,_,_,_,_,_,_,_,rfl,HF9⟩,?_⟩
  simp [RowKit.intOf,Act.eval]
  omega
end Go.Proofs.YtefcbgnckgapgaaGreatDoor
