/- TreeTells holds: the program's Parse says of every text what the document's says. No condition. -/
import Derived.Test.YtefcbgnckgapgaaGreatDoorM7
import Derived.Test.YtefcbgnckgapgaaGreatDoorMF
import Derived.Test.YtefcbgnckgapgaaGreatDoorMK
namespace Go.Proofs.YtefcbgnckgapgaaGreatDoor
open Go.RowKit Go.Lib Go.Op
theorem parse_bd (l : List UInt8) (_ : l.length≤100000) : QuB (parseI l).1:=by
 have h0 : QuB noQ:=⟨fun i hi=>(by cases hi),fun p hp=>(by cases hp),Nat.zero_le _⟩
 obtain ⟨⟨ts,er,at_⟩,hts⟩ : ∃ z,readX l=z:=⟨_,rfl⟩
 unfold parseI
 rw [hts]
 split
 ·exact h0
 ·rename_i he
  have he : er=0:=Decidable.not_not.1 he
  subst he
  obtain ⟨htk,hlen,_,_,hl5⟩:=readX_toks hts
  have hqb:=queryT_sb (E:=l.length) (s:=⟨ts,0,-1⟩) (ts.length+1) ⟨fun t ht=>(htk t ht).1,by show ts.length≤_;omega⟩
  split
  ·exact h0
  ·split
   ·exact hqb
   ·exact h0
def hT1 : List UInt8:=[115,101,113,32,97,32,120,32,116,104,101,110,32,110,111,116,32,98,32,111,114,32,99,32,110,32,116,104,101,110,32,98,32,121,43,32,119,104,101,114,101,32,115,117,109,40,121,46,120,41,32,45,32,40,120,46,120,32,45,32,49,41,32,62,61,32,45,51,32,119,105,116,104,105,110,32,53,32,98,121,32,105,100,32,112,105,99,107,32,110,101,120,116]
def hL : PEx:=.mk 8 noV [] [] [.mk 4 noV [121] [120] [],.mk 8 noV [] [] [.mk 2 noV [120] [120] [],.mk 1 ⟨1,1,[]⟩ [] [] []]]
def hP : PPr:=⟨hL,6,.mk 1 ⟨1,-3,[]⟩ [] [] []⟩
def hQ : PQu:=⟨[⟨false,[[97]],[120],1⟩,⟨true,[[98],[99]],[110],1⟩,⟨false,[[98]],[121],2⟩],[hP],5,[105,100],2⟩
theorem hT1_is : parseI hT1=(hQ,0,0):=by kernel_rfl
theorem hT2_is : parseI [115,101,113,32,97,32,120,32,116,104,101,110]=(noQ,81,12):=by kernel_rfl
theorem hT3_is : parseI [115,101,113,32,97,32,115,101,113,32,119,105,116,104,105,110,32,53]=(noQ,81,6):=by kernel_rfl
theorem hT4_is : parseI [115,101,113,32,110,111,116,32,97,32,120,32,119,105,116,104,105,110,32,53]=(noQ,2,0):=by kernel_rfl
theorem hQ_print : strB (printQ hQ)=⟨([115,101,113,32,97,32,120,32,116,104,101,110,32,110,111,116,32,98,32,111,114,32,99,32,110,32,116,104,101,110,32,98,32,121,43,32,119,104,101,114,101,32,115,117,109,40].append [121,46,120,41,32,45,32,40,120,46,120,32,45,32,49,41,32,62,61,32,45,51,32,119,105,116,104,105,110,32,53,32,98,121,32,105,100,32,112,105,99,107,32,110,101,120,116]).toArray⟩:=by kernel_rfl
theorem hQ_right : rightQ hQ=true:=by kernel_rfl
theorem hQ_deep : deepI hL=3:=by
 simp [hL,deepI_mk,deepIs_cons,deepIs_nil]
 decide
theorem hQ_size : sizeI hL=5:=by
 simp [hL,sizeI_mk,sizeIs_cons,sizeIs_nil]
theorem hQ_b : QuB hQ:=by
 have h:=parse_bd hT1 (by decide)
 rw [hT1_is] at h
 exact h
def HdP (w : World) (e : Ending) (w' : World) : Prop:=∃ (a : Option Addr) (c : Nat) (b : Option Addr) (d : Nat),e=.returned (.tuple #[.agg #[.slice a 3 c,.slice b 1 d,.int .i64 5,.string ⟨#[105,100]⟩,.int .i64 2],.int .i64 0,.int .i64 0])∧QuAt (· < w.heap.size) w' a 3 c b 1 d hQ∧Below w.heap.size w w'
theorem strB_eq' (s : ByteArray) : strB s.data.toList=s:=by apply ByteArray.ext;simp [strB]
theorem hd_parse {w : World} (hv : TVars w) (s : ByteArray) (hs : s.data.toList=hT1) : Calls Tryz.prog 5 #[.string s] w (HdP w):=by
 have h:=parse_calls hv hT1 (by decide)
 rw [hT1_is] at h
 rw [← strB_eq' s,hs]
 refine h.mono ?_
 rintro e w' ⟨a,q,c,b,r,d,rfl,hq,hb⟩
 obtain rfl:=hq.1.len
 obtain rfl:=hq.2.len
 exact ⟨a,c,b,d,rfl,hq,hb⟩
def NoP (w : World) (x p : Int) (e : Ending) (w' : World) : Prop:=∃ (a : Option Addr) (q c : Nat) (b : Option Addr) (r d : Nat),e=.returned (.tuple #[.agg #[.slice a q c,.slice b r d,.int .i64 0,.string ⟨#[]⟩,.int .i64 0],.int .i64 x,.int .i64 p])∧Below w.heap.size w w'
theorem no_parse {w : World} (hv : TVars w) (s : ByteArray) (l : List UInt8) (hs : s.data.toList=l) (hl : l.length≤100000) {x p : Int} (hp : parseI l=(noQ,x,p)) : Calls Tryz.prog 5 #[.string s] w (NoP w x p):=by
 have h:=parse_calls hv l hl
 rw [hp] at h
 rw [← strB_eq' s,hs]
 refine h.mono ?_
 rintro e w' ⟨a,q,c,b,r,d,rfl,hq,hb⟩
 exact ⟨a,q,c,b,r,d,rfl,hb⟩
structure HdM (w : World) (a : Option Addr) (b : Option Addr) : Prop where
 its : ∃ g o n1 c1,a=some ⟨g,o,none⟩∧w.cell? ⟨g,o+4,none⟩=some (.bool true)∧w.cell? ⟨g,o+5,none⟩=some (.slice n1 2 c1)∧w.cell? ⟨g,o+11,none⟩=some (.int .i64 2)
 prs : ∃ g o n1 c1,b=some ⟨g,o,none⟩∧w.cell? ⟨g,o,none⟩=some (.int .i64 6)∧w.cell? ⟨g,o+1,none⟩=some (.int .i64 8)∧w.cell? ⟨g,o+2,none⟩=some (.int .i64 0)∧w.cell? ⟨g,o+3,none⟩=some (.int .i64 0)∧w.cell? ⟨g,o+4,none⟩=some (.string (strB []))∧w.cell? ⟨g,o+5,none⟩=some (.string (strB []))∧w.cell? ⟨g,o+6,none⟩=some (.string (strB []))∧w.cell? ⟨g,o+7,none⟩=some (.slice n1 2 c1) ∧
  ∀ W,Below w.heap.size w W→Calls Tryz.prog 10 #[exV hL (.slice n1 2 c1)] W fun e w'=>e=.returned (.int .i64 3)∧Below W.heap.size W w'
theorem HdM.of {w0 w : World} {a b : Option Addr} {c d : Nat} (h0 : 0 < w0.heap.size) (h : QuAt (· < w0.heap.size) w a 3 c b 1 d hQ) : HdM w a b:=by
 constructor
 ·obtain ⟨g,o,a1,c1,rfl,d0,d1,d2,d3,hr⟩:=h.1.itemAt (j:=1) rfl
  obtain ⟨g',o',a2,c2,e,d4,d5,d6,d7,hr2⟩:=h.1.itemAt (j:=2) rfl
  injection e with e
  injection e with e1 e2
  subst e1 e2
  exact ⟨g,o,a1,c1,rfl,d0,d1,d7⟩
 ·obtain ⟨g,o,a1,q,c1,b1,r,d1,e,rfl,hcell,hq,hr,h1,h2⟩:=h.2.predAt (j:=0) rfl
  obtain rfl : q=2:=hq
  refine ⟨g,o,a1,c1,rfl,hcell 0 _ rfl,hcell 1 _ rfl,hcell 2 _ rfl,hcell 3 _ rfl,hcell 4 _ rfl,hcell 5 _ rfl,hcell 6 _ rfl,hcell 7 _ rfl,fun W hW=>?_⟩
  have hd:=deep_calls (K:=(· < w0.heap.size)) h0 (w:=W) (x:=hL) (a:=a1) (c:=c1) (h1.keep (TFr.of_below hW)) (by rw [hQ_size];decide)
  rw [hQ_deep] at hd
  exact hd
set_option maxHeartbeats 4000000 in
set_option maxRecDepth 100000 in
theorem thead_calls {w : World} (hv : TVars w) (hp : PVars w) : Calls Tryz.prog 4 #[] w fun e w'=>e=.returned (.bool true)∧Below w.heap.size w w':=by
 have h0 : 0 < w.heap.size:=Nat.lt_of_le_of_lt (Nat.zero_le _) (World.block_lt_of_cell? _ _ hv.t0)
 have HR1:=hid (hd_parse hv)
 have HV:=hid hv
 have HPV:=hid hp
 clear hv hp
 go_enter Tryz.func4,Tryz.ntmps4
 go_wp2_with fail
 refine (HR1.out _ (by kernel_rfl)).mono ?_
 rintro e w1 ⟨a,c,b,d,rfl,hq,hb1⟩
 have hba:=(Below.refl w1.heap.size w1).alloc (Nat.le_refl _) (.cells #[.slice a 3 c,.slice b 1 d,.int .i64 5,.string ⟨#[105,100]⟩,.int .i64 2] 26)
 have HB1:=hid hb1
 have HX:=hid (Blk.new w1 #[.slice a 3 c,.slice b 1 d,.int .i64 5,.string ⟨#[105,100]⟩,.int .i64 2] 26)
 have HBA:=hid hba
 have HQ:=hid hq
 have HPr : Hid (Calls Tryz.prog 8 #[.agg #[.slice a 3 c,.slice b 1 d,.int .i64 5,.string ⟨#[105,100]⟩,.int .i64 2]] (w1.alloc (.cells #[.slice a 3 c,.slice b 1 d,.int .i64 5,.string ⟨#[105,100]⟩,.int .i64 2] 26)) fun e w'=>e=.returned (.string ⟨([115,101,113,32,97,32,120,32,116,104,101,110,32,110,111,116,32,98,32,111,114,32,99,32,110,32,116,104,101,110,32,98,32,121,43,32,119,104,101,114,101,32,115,117,109,40].append [121,46,120,41,32,45,32,40,120,46,120,32,45,32,49,41,32,62,61,32,45,51,32,119,105,116,104,105,110,32,53,32,98,121,32,105,100,32,112,105,99,107,32,110,101,120,116]).toArray⟩)∧Below (w1.alloc (.cells #[.slice a 3 c,.slice b 1 d,.int .i64 5,.string ⟨#[105,100]⟩,.int .i64 2] 26)).heap.size (w1.alloc (.cells #[.slice a 3 c,.slice b 1 d,.int .i64 5,.string ⟨#[105,100]⟩,.int .i64 2] 26)) w'):=by
  have h:=print_calls (p:=hQ) (K:=(· < w.heap.size)) ⟨hq.1.low hba,hq.2.low hba⟩ hQ_b ((HPV.out.below hb1).below hba)
  rw [hQ_print] at h
  exact h
 clear hq hb1 hba HR1
 go_wp2_with fail
 with_reducible refine HPr.out.mono ?_
 rintro e w2 ⟨rfl,hb2⟩
 have HB2:=hid hb2
 have HB02:=hid ((HB1.out.trans (HBA.out.mono HB1.out.size)).trans (hb2.mono (Nat.le_trans HB1.out.size HBA.out.size)))
 have HR2:=hid (no_parse (HV.out.below HB02.out))
 clear hb2 HPr
 go_wp2_with fail
 refine (HR2.out _ _ rfl (by decide) hT2_is).mono ?_
 rintro e w3 ⟨a2,q2,c2,b2,r2,d2,rfl,hb3⟩
 have HB3:=hid ((hb3.trans ((Below.refl w3.heap.size w3).alloc (Nat.le_refl _) (.cells #[.slice a2 q2 c2,.slice b2 r2 d2,.int .i64 0,.string ⟨#[]⟩,.int .i64 0] 26) |>.mono hb3.size)))
 have HB03:=hid (HB02.out.trans (HB3.out.mono HB02.out.size))
 have HR3:=hid (no_parse (HV.out.below HB03.out))
 clear hb3 HR2
 go_wp2_with fail
 refine (HR3.out _ _ rfl (by decide) hT3_is).mono ?_
 rintro e w4 ⟨a3,q3,c3,b3,r3,d3,rfl,hb4⟩
 have HB4:=hid (HB3.out.trans ((hb4.trans ((Below.refl w4.heap.size w4).alloc (Nat.le_refl _) (.cells #[.slice a3 q3 c3,.slice b3 r3 d3,.int .i64 0,.string ⟨#[]⟩,.int .i64 0] 26) |>.mono hb4.size)).mono HB3.out.size))
 have HB04:=hid (HB02.out.trans (HB4.out.mono HB02.out.size))
 have HR4:=hid (no_parse (HV.out.below HB04.out))
 clear hb4 HR3
 go_wp2_with fail
 refine (HR4.out _ _ rfl (by decide) hT4_is).mono ?_
 rintro e w5 ⟨a4,q4,c4,b4,r4,d4,rfl,hb5⟩
 have HB5:=hid (HB4.out.trans ((hb5.trans ((Below.refl w5.heap.size w5).alloc (Nat.le_refl _) (.cells #[.slice a4 q4 c4,.slice b4 r4 d4,.int .i64 0,.string ⟨#[]⟩,.int .i64 0] 26) |>.mono hb5.size)).mono HB4.out.size))
 have HB05:=hid (HB02.out.trans (HB5.out.mono HB02.out.size))
 clear hb5 HR4
 have hm1:=HdM.of h0 HQ.out
 obtain ⟨gi,oi,n1,c1,rfl,i0,i1,i2⟩:=hm1.its
 obtain ⟨gp,op,n2,c2,rfl,p0,p1,p2,p3,p4,p5,p6,p7,hdp⟩:=hm1.prs
 have hB15 : Below w1.heap.size w1 (w5.alloc (.cells #[.slice a4 q4 c4,.slice b4 r4 d4,.int .i64 0,.string ⟨#[]⟩,.int .i64 0] 26)):=HBA.out.trans ((HB2.out.trans (HB5.out.mono HB2.out.size)).mono HBA.out.size)
 have hx:=(HX.out.low HB2.out).low HB5.out
 have x0:=tcell hx (k:=0) rfl
 have x1:=tcell hx (k:=1) rfl
 have x2:=tcell hx (k:=2) rfl
 have x3:=tcell hx (k:=3) rfl
 have x4:=tcell hx (k:=4) rfl
 have j0:=tkeep hB15 i0
 have j1:=tkeep hB15 i1
 have j2:=tkeep hB15 i2
 have u0:=tkeep hB15 p0
 have u1:=tkeep hB15 p1
 have u2:=tkeep hB15 p2
 have u3:=tkeep hB15 p3
 have u4:=tkeep hB15 p4
 have u5:=tkeep hB15 p5
 have u6:=tkeep hB15 p6
 have u7:=tkeep hB15 p7
 have HRt : Hid (Calls Tryz.prog 9 #[.agg #[.slice (some ⟨gi,oi,none⟩) 3 c,.slice (some ⟨gp,op,none⟩) 1 d,.int .i64 5,.string ⟨#[105,100]⟩,.int .i64 2]] (w5.alloc (.cells #[.slice a4 q4 c4,.slice b4 r4 d4,.int .i64 0,.string ⟨#[]⟩,.int .i64 0] 26)) fun e w'=>e=.returned (.bool true)∧Below (w5.alloc (.cells #[.slice a4 q4 c4,.slice b4 r4 d4,.int .i64 0,.string ⟨#[]⟩,.int .i64 0] 26)).heap.size (w5.alloc (.cells #[.slice a4 q4 c4,.slice b4 r4 d4,.int .i64 0,.string ⟨#[]⟩,.int .i64 0] 26)) w'):=by
  have h:=right_calls (p:=hQ) (K:=(· < w.heap.size)) (w:=(w5.alloc (.cells #[.slice a4 q4 c4,.slice b4 r4 d4,.int .i64 0,.string ⟨#[]⟩,.int .i64 0] 26))) ⟨HQ.out.1.low hB15,HQ.out.2.low hB15⟩ hQ_b
  rw [hQ_right] at h
  exact h
 have HDp : Hid (∀ W,Below (w5.alloc (.cells #[.slice a4 q4 c4,.slice b4 r4 d4,.int .i64 0,.string ⟨#[]⟩,.int .i64 0] 26)).heap.size (w5.alloc (.cells #[.slice a4 q4 c4,.slice b4 r4 d4,.int .i64 0,.string ⟨#[]⟩,.int .i64 0] 26)) W→Calls Tryz.prog 10 #[.agg #[.int .i64 8,.int .i64 0,.int .i64 0,.string (strB []),.string (strB []),.string (strB []),.slice n2 2 c2]] W fun e w'=>e=.returned (.int .i64 3)∧Below W.heap.size W w'):=fun W hW=>hdp W (hB15.trans (hW.mono hB15.size))
 have HB05:=hid (HB02.out.trans (HB5.out.mono HB02.out.size))
 clear hm1 i0 i1 i2 p0 p1 p2 p3 p4 p5 p6 p7 hdp hB15 hx HQ HX
 go_wp2_with (first
  | (go_at_call 9;(with_reducible refine HRt.out.mono ?_);rintro e w6 ⟨rfl,hb6⟩;have HB6:=hid hb6;have s1:=tkeep hb6 x1;have y1:=tkeep hb6 u1;have y2:=tkeep hb6 u2;have y3:=tkeep hb6 u3;have y4:=tkeep hb6 u4;have y5:=tkeep hb6 u5;have y6:=tkeep hb6 u6;have y7:=tkeep hb6 u7;clear hb6)
  | (go_at_call 10;(with_reducible refine (HDp.out _ HB6.out).mono ?_);rintro e w7 ⟨rfl,hb7⟩;have HB7:=hid (HB6.out.trans (hb7.mono HB6.out.size));clear hb7))
 go_ret
 exact ⟨rfl,HB05.out.trans (HB7.out.mono HB05.out.size)⟩
end Go.Proofs.YtefcbgnckgapgaaGreatDoor
namespace Go.Proofs.YtefcbgnckgapgaaGreatDoor
open Go.Lib
theorem parse_right {l : List UInt8} (h : (parseI l).2.1=0) : rightQ (parseI l).1=true:=by
 unfold parseI at h ⊢
 split at h
 ·rename_i hn
  dsimp only at h
  exact absurd (by exact_mod_cast h) hn
 ·rename_i hn
  rw [if_neg hn]
  split at h
  ·cases h
  ·rename_i hn2
   rw [if_neg hn2]
   split at h
   ·rename_i hr
    rw [if_pos hr]
    exact hr
   ·cases h
theorem ln_of_right : ∀ (d : Nat) (x : PEx),rightX d x=true→XBd x→XLn x
 | 0,x,h,_=>by
   cases x
   rw [rightX] at h
   cases h
 | d+1,x,h,hb=>by
   obtain ⟨k,v,x,f,ks,hv,hx,hf,hk⟩:=hb
   have hM : 1000000≤maxLen:=by unfold maxLen;decide
   rcases rightX_kinds h with h0|h0|h0|⟨_,y,z,rfl,h1,h2⟩
   all_goals first
    | (refine .mk _ _ _ _ _ (by omega) (by omega) (by omega) (by simp only [List.length_cons,List.length_nil];omega) (fun t ht=>?_)
       rcases List.mem_cons.1 ht with rfl|ht
       ·exact ln_of_right d _ h1 (hk _ List.mem_cons_self)
       ·obtain rfl:=List.mem_singleton.1 ht
        exact ln_of_right d _ h2 (hk _ (List.mem_cons_of_mem _ List.mem_cons_self)))
    | (have hks : ks=[]:=by
        by_cases h1 : k=1
        ·subst h1
         rw [rightX_one] at h
         simp only [Bool.and_eq_true,decide_eq_true_eq] at h
         exact List.eq_nil_of_length_eq_zero h.1.2.2
        ·by_cases h3 : k=3
         ·subst h3
          rw [rightX_three] at h
          simp only [Bool.and_eq_true,decide_eq_true_eq] at h
          exact List.eq_nil_of_length_eq_zero h.1.2.2
         ·have h5 : k=2∨k=4∨k=5∨k=6:=by omega
          rw [rightX_field _ _ h5] at h
          simp only [Bool.and_eq_true,decide_eq_true_eq] at h
          exact List.eq_nil_of_length_eq_zero h.1.2
       subst hks
       exact .mk _ _ _ _ _ (by omega) (by omega) (by omega) (Nat.zero_le _) (fun t ht=>by cases ht))
theorem ln_query {p : PQu} (h : rightQ p=true) (hb : QuB p) : p.its.length≤maxLen∧p.prs.length≤maxLen∧QLs p:=by
 obtain ⟨h1,h2,h3,_⟩:=rightQ_parts h
 have hM : 1000000≤maxLen:=by unfold maxLen;decide
 have h4:=(rightIs_parts h1).2.1
 refine ⟨by omega,by omega,fun i hi=>?_,fun x hx=>?_⟩
 ·have:=(rightI_parts ((rightIs_parts h1).2.2 i hi).1).2.2.1
  omega
 ·have h5:=h3 x hx
  unfold rightP at h5
  simp only [Bool.and_eq_true,decide_eq_true_eq] at h5
  exact ⟨ln_of_right 6 _ h5.2.1 (hb.2.1 x hx).1,ln_of_right 6 _ h5.2.2 (hb.2.1 x hx).2⟩
end Go.Proofs.YtefcbgnckgapgaaGreatDoor
namespace Go.Proofs.YtefcbgnckgapgaaGreatDoor
open Go.Lib
theorem parse_none {l : List UInt8} (h : (parseI l).2.1≠0) : (parseI l).1=noQ:=by
 unfold parseI at h ⊢
 split at h
 ·rename_i hn
  rw [if_pos hn]
 ·rename_i hn
  rw [if_neg hn]
  split at h
  ·rename_i hn2
   rw [if_pos hn2]
  ·rename_i hn2
   rw [if_neg hn2]
   split at h
   ·exact absurd rfl h
   ·rename_i hr
    rw [if_neg hr]
end Go.Proofs.YtefcbgnckgapgaaGreatDoor
namespace Go.Proofs.YtefcbgnckgapgaaGreatDoor
open Go.RowKit Go.Lib Go.Op
theorem noQ_ls' : QLs noQ:=by
 simp [QLs,noQ]
theorem parse_ls (l : List UInt8) (hl : l.length≤100000) : (parseI l).1.its.length≤maxLen∧(parseI l).1.prs.length≤maxLen∧QLs (parseI l).1:=by
 by_cases h : (parseI l).2.1=0
 ·exact ln_query (parse_right h) (parse_bd l hl)
 ·rw [parse_none h]
  exact ⟨Nat.zero_le _,Nat.zero_le _,noQ_ls'⟩
set_option maxHeartbeats 4000000 in
set_option maxRecDepth 100000 in
theorem ttells_walk (w : World) (hv : TVars w) (hp : PVars w) (s : ByteArray) (hs : s.size≤maxLen) : Calls Tryz.prog 3 #[.string s] w fun e w'=>e=.returned (.bool true)∧Below w.heap.size w w':=by
 have HH:=hid (thead_calls hv hp)
 have HV:=hid hv
 unfold maxLen at hs
 clear hv hp
 go_enter Tryz.func3,Tryz.ntmps3
 go_wp2_with fail
 with_reducible refine HH.out.mono ?_
 rintro e w1 ⟨rfl,hb1⟩
 have HB1:=hid hb1
 clear HH hb1
 by_cases h3 : 3000 < s.size
 ·go_wp2
  go_ret
  exact ⟨rfl,HB1.out⟩
 have hl1 : s.data.toList.length=s.size:=by simp
 have hpa:=parse_calls (HV.out.below HB1.out) s.data.toList (by rw [hl1];omega)
 rw [strB_eq'] at hpa
 have hpb:=fun W=>rparse_calls right_said (w:=W) s.data.toList (by rw [hl1];omega)
 rw [strB_eq'] at hpb
 have hls:=parse_ls s.data.toList (by rw [hl1];omega)
 obtain ⟨⟨p,er,at_⟩,hr⟩ : ∃ z,parseI s.data.toList=z:=⟨_,rfl⟩
 rw [hr] at hpa hpb hls
 dsimp only at hls
 have HP:=hid hpa
 have HPB:=hid hpb
 have HLS:=hid hls
 clear hpa hpb hr hl1 hls
 go_wp2_with fail
 with_reducible refine HP.out.mono ?_
 rintro e w2 ⟨a1,m1,c1,b1,r1,d1,rfl,hQ2,hb2⟩
 dsimp only at hQ2
 have HB2:=hid (HB1.out.trans (hb2.mono HB1.out.size))
 have hba:=(Below.refl w2.heap.size w2).alloc (Nat.le_refl _) (.cells #[.slice a1 m1 c1,.slice b1 r1 d1,.int .i64 p.within,.string (strB p.by_),.int .i64 p.pick] 26)
 have HBA:=hid hba
 have HB2a:=hid (HB2.out.trans (hba.mono HB2.out.size))
 have HQ2:=hid (show QuAt _ (w2.alloc (.cells #[.slice a1 m1 c1,.slice b1 r1 d1,.int .i64 p.within,.string (strB p.by_),.int .i64 p.pick] 26)) a1 m1 c1 b1 r1 d1 p from ⟨hQ2.1.low hba,hQ2.2.low hba⟩)
 have HX2:=hid (Blk.new w2 #[.slice a1 m1 c1,.slice b1 r1 d1,.int .i64 p.within,.string (strB p.by_),.int .i64 p.pick] 26)
 have HP2:=hid (HPB.out (w2.alloc (.cells #[.slice a1 m1 c1,.slice b1 r1 d1,.int .i64 p.within,.string (strB p.by_),.int .i64 p.pick] 26)))
 clear HP HPB hb2 hba hQ2
 go_wp2_with fail
 with_reducible refine HP2.out.mono ?_
 rintro e w3 ⟨a3,m3,c3,b3,r3,d3,rfl,hQ3,hb3⟩
 dsimp only at hQ3
 have hbb:=(Below.refl w3.heap.size w3).alloc (Nat.le_refl _) (.cells #[.slice a3 m3 c3,.slice b3 r3 d3,.int .i64 p.within,.string (strB p.by_),.int .i64 p.pick] 26)
 have hb4:=hb3.trans (hbb.mono hb3.size)
 have x2:=HX2.out.low hb4
 have x0:=tcell x2 (k:=0) rfl
 have x1:=tcell x2 (k:=1) rfl
 have x3:=tcell x2 (k:=3) rfl
 have x4:=tcell x2 (k:=4) rfl
 have x5:=tcell x2 (k:=2) rfl
 have HBB:=hid (HB2a.out.trans (hb4.mono HB2a.out.size))
 have hsm:=same_calls (w:=w3.alloc (.cells #[.slice a3 m3 c3,.slice b3 r3 d3,.int .i64 p.within,.string (strB p.by_),.int .i64 p.pick] 26)) p p ⟨HQ2.out.1.low hb4,HQ2.out.2.low hb4⟩ ⟨hQ3.1.low hbb,hQ3.2.low hbb⟩ HLS.out.1 HLS.out.2.1 HLS.out.2.2
 rw [sameB_yes rfl] at hsm
 have HSM:=hid hsm
 clear hb3 hbb hb4 x2 hsm hQ3 HP2 HX2 HBA HQ2
 go_wp2_with fail
 with_reducible refine HSM.out.mono ?_
 rintro e w5 ⟨rfl,hb5⟩
 have HB5:=hid (HBB.out.trans (hb5.mono HBB.out.size))
 clear hb5
 go_wp2
 all_goals
  go_ret
  exact ⟨rfl,HB5.out⟩
end Go.Proofs.YtefcbgnckgapgaaGreatDoor
namespace Go.Proofs.YtefcbgnckgapgaaGreatDoor
open Go.ChangeShapes Go.WideShapes Go.ChangeAt Go.RowKit Go.Lib Go.Deep Go.Joins
open Go.ChangeMaps (open_string shut_string)
namespace treeTells
set_option maxRecDepth 100000 in
theorem lifted (os : Os) (started : os.Started) (H : Type) (enc : TypeId × Value→H) :
 ReturnsInHanded {} Tryz.checked os 3 .any (fun w args=>(Rows.treeTellsSpec.pre enc Tryz.prog Tryz.f3 [] false w args∧laidMetH Tryz.prog laidX w)∧sizedMet enc Tryz.prog Tryz.f3 (OpenSpec.ofChange Rows.treeTellsSpec) false w args)
  (Rows.treeTellsSpec.post enc Tryz.prog Tryz.f3 false true false false):=by
 refine returnsInHanded_of_change_and (C:=Tryz.checked) (X:=fun w _=>laidMetH Tryz.prog laidX w) (fun _ _ _ hh h=>h.of_heap hh) xown_ started (by kernel_rfl) Tryz.func3
  (ChangeSpec.witness_shaped (enc:=enc) (C:=Tryz.checked) (os:=os) (X:=fun w _=>laidMetH Tryz.prog laidX w) false (World.doorLaid Tryz.prog 74 os) #[.string .empty] 8 rfl (World.shaped_of_RefB (by kernel_rfl) (by kernel_rfl)) (by kernel_rfl) (by kernel_rfl) (by kernel_rfl) (xdoor_met os _)) ?_
 intro W base args ds gs before hval0 hW _ hsz hL _
 have hT:=vars_of_laid hL
 have hval : ∀ (j : Nat) t v,Tryz.f3.params[j]?=some t→args[j]?=some v→Value.okWide Tryz.prog W .any base t v:=hval0
 have hW':=hW
 obtain ⟨p,q,hA0,hV,rfl,_,_⟩:=hW
 have hA : DataW.TrodAll enc Tryz.prog W 0 (fun _=>true) true Tryz.f3.params.toList args.toList ds p:=hA0
 rw [Tryz.params3] at hA hval
 obtain ⟨v0,vs0,d0,ds0,p0,q0,hargs,rfl,rfl,h0,r0⟩:=trodAll_cons hA
 obtain ⟨rfl,rfl,rfl⟩:=trodAll_nil r0
 obtain rfl : args=#[v0]:=by cases args;simp_all
 obtain ⟨rfl,rfl⟩:=trodVars_none hV
 have lt0 : ∀ x∈p0,x.block < W.heap.size:=by obtain ⟨m,hm⟩:=h0;exact DataW.trod_lt m _ _ _ hm
 have k_0:=h0
 obtain ⟨s0,rfl,hd0,_,hs0⟩:=open_string Tryz.underlying9 (hval 0 9 v0 rfl rfl) h0
 have hr0 : s0.size≤140737488351232:=by
  have h8:=sized_string hsz (j:=0) (t:=9) (bytes:=s0.data.toList) (by kernel_rfl) (by rw [hd0];rfl)
  simpa [reachBytes] using h8
 clear hA0 hval0
 refine (ttells_walk W hT.1 hT.2 s0 hs0).mono fun e W' ⟨he,bel⟩=>?_
 subst he
 exact ⟨_,rfl,_,_,_,[],_,[],hW',trodAll_mk1 (shut_bool Tryz.underlying4 _),(trodAll_cons_mk (Below.trod xlaidOut (by kernel_rfl) (of_decide_eq_true (by kernel_rfl)) k_0 bel lt0) trodAll_mk0),rfl,bel.frame _,fun h=>by cases h⟩
set_option maxHeartbeats 400000000 in
theorem closed : joinedFacts Tryz.pinned.checked.prog 3 Tryz.f3 Rows.treeTellsSpec Rows.treeTellsRow=true:=by
 unfold joinedFacts
 repeat' with_reducible refine Bool.and_eq_true_iff.2 ⟨?_,?_⟩
 all_goals as_aux_lemma=>kernel_rfl
theorem row_holds : Rows.TreeTellsSaid :=
 OpenClaim.holds_of_wide 3 Tryz.f3 rfl rfl rfl rfl rfl rfl rfl ⟨rfl,rfl,rfl,rfl,rfl⟩ rfl rfl rfl rfl rfl (by kernel_rfl) Tryz.func3 closed
  (of_decide_eq_true (by kernel_rfl)) (by unfold Func.isWrapper;first|(rw [if_pos (by decide +kernel)];kernel_rfl)|(rw [if_neg (by decide +kernel)];exact ⟨rfl,rfl⟩))
  (fun os started H enc _=>lifted os started H enc)
theorem holds : Rows.TreeTellsCardSaid :=
 Claim7.holds_tied_plain_at .later [] [.data,.data,.data,.sentinel,.sentinel,.data] true _ true row_holds (fun _ h=>by cases h) (by as_aux_lemma=>kernel_rfl) (fun _ h=>by cases h) treeTells_row_tie rfl ⟨rfl,rfl⟩ (by as_aux_lemma=>kernel_rfl) rfl
  (fun f fn hf hfn=>by
    obtain rfl : f=3:=Option.some.inj ((show Tryz.prog.funcNamed "augury/augurylaw08.TreeTells"=some 3 by as_aux_lemma=>kernel_rfl).symm.trans hf) |>.symm
    obtain rfl : fn=Tryz.f3:=(Option.some.inj (Tryz.func3.symm.trans hfn)).symm
    exact ⟨by as_aux_lemma=>kernel_rfl,fun j t ht=>by
     rw [Tryz.params3] at ht
     have hm : t∈[9]:=by simpa using Array.mem_of_getElem? ht
     have hall : ([9].all fun u=>!Tryz.prog.wantsStandIn u)=true:=by as_aux_lemma=>kernel_rfl
     exact (show Tryz.prog.wantsStandIn t=false by simpa using List.all_eq_true.1 hall t hm)⟩)
  (by as_aux_lemma=>kernel_rfl)
end treeTells
end Go.Proofs.YtefcbgnckgapgaaGreatDoor
