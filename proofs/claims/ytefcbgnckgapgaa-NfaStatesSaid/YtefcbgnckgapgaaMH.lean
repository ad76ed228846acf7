/- Queries: what the document's reader is made of. | Queries: the document's Parse. | Queries: which queries are right, as the document asks. | All states of a query: the document's. | The document's words on names and rows of places: Has, SameInts; how much names are. -/
import Derived.Test.YtefcbgnckgapgaaM3
import Derived.Test.YtefcbgnckgapgaaM7
import Derived.Test.YtefcbgnckgapgaaMB
import Derived.Test.YtefcbgnckgapgaaMC
import Derived.Test.YtefcbgnckgapgaaME
import Derived.Test.YtefcbgnckgapgaaMG
namespace Go.Proofs.Ytefcbgnckgapgaa
open Go.RowKit Go.Lib Go.Op
theorem goodT_w {t : XTok} (h : GoodT t) : WTok t:=by
 obtain ⟨r,z,h1,h2,h3,_⟩:=h
 cases r with
 | nil =>
   rw [firstX] at h1
   injection h1 with _ e
   exact absurd e.symm h2
 | cons c u =>
   have h4 : firstC c u=(t.k,z):=h1
   unfold firstC at h4
   split at h4
   ·rename_i hc
    split at h4
    ·injection h4 with _ e
     exact absurd e.symm h2
    ·rename_i hn
     injection h4 with e1 e2
     rw [← e1,← e2] at h3
     have h3' : t.b=(c :: u).take (manyL xin (c :: u)):=h3
     have hm : manyL xin (c :: u)=manyL xin u+1:=by
      rw [manyL_cons,if_pos]
      unfold xin
      rw [hc]
      rfl
     have hall:=manyL_take xin (c :: u)
     rw [← h3'] at hall
     rw [hm,List.take_succ_cons] at h3'
     rw [h3'] at hall
     have hlet : letterB c=true:=by
      unfold xletter at hc
      unfold letterB
      simp only [Bool.and_eq_true,decide_eq_true_eq] at hc ⊢
      exact hc
     refine ⟨fun _=>?_,fun hk=>(by rw [← e1] at hk;cases hk),fun _=>by rw [h3'];simp⟩
     rw [h3']
     show (letterB c && (decide ((u.take (manyL xin u)).length≤15) && (u.take (manyL xin u)).all charB))=true
     rw [hlet,Bool.true_and,Bool.and_eq_true,decide_eq_true_eq,List.all_eq_true]
     refine ⟨?_,fun x hx=>?_⟩
     ·rw [List.length_take]
      omega
     ·have hx2:=hall x (List.mem_cons_of_mem _ hx)
      unfold xin xletter xdigit at hx2
      unfold charB letterB
      simp only [Bool.and_eq_true,Bool.or_eq_true,decide_eq_true_eq] at hx2 ⊢
      omega
   ·split at h4
    ·rename_i hd
     split at h4
     ·rename_i hr
      injection h4 with e1 e2
      rw [← e1,← e2] at h3
      have h3' : t.b=(c :: u).take (manyL xdigit (c :: u)):=h3
      have hm : manyL xdigit (c :: u)=manyL xdigit u+1:=by rw [manyL_cons,if_pos hd]
      have hall:=manyL_take xdigit (c :: u)
      rw [hm,List.take_succ_cons] at h3' hr hall
      refine ⟨fun hk=>(by rw [← e1] at hk;cases hk),fun _=>?_,fun hk=>(by rw [← e1] at hk;rcases hk with hk|hk <;> cases hk)⟩
      rw [h3']
      obtain ⟨v,hv,h0,h9⟩:=digits_parse hd hr
      have hp:=parse_dig hall
      rw [hv] at hp
      split at hp
      ·injection hp with hp
       refine ⟨?_,hall,?_⟩
       ·unfold numZ
        rw [hv]
        exact hp
       ·unfold decN
        omega
      ·cases hp
     ·injection h4 with _ e
      exact absurd e.symm h2
    ·split at h4
     ·split at h4
      ·injection h4 with _ e
       exact absurd e.symm h2
      ·injection h4 with e1 e2
       exact ⟨fun hk=>(by rw [← e1] at hk;cases hk),fun hk=>(by rw [← e1] at hk;cases hk),fun hk=>(by rw [← e1] at hk;rcases hk with hk|hk <;> cases hk)⟩
     ·have hsign : ∀ m,(4,m+1)=(t.k,z)→WTok t:=fun m hm=>by
       injection hm with e1 e2
       rw [← e1,← e2] at h3
       have h3' : t.b=(c :: u).take (m+1):=h3
       exact ⟨fun hk=>(by rw [← e1] at hk;cases hk),fun hk=>(by rw [← e1] at hk;cases hk),fun _=>by rw [h3',List.take_succ_cons];simp⟩
      split at h4
      ·exact hsign 1 h4
      ·split at h4
       ·exact hsign 0 h4
       ·injection h4 with _ e
        exact absurd e.symm h2
theorem DdR.made {W : World} {v : Value} {ts : List XTok} {B : Nat} (ho : XOwn W B v ts) (hts : ∀ t∈ts,DTok t) (hlen : ts.length≤500) (hpos : 0 < W.heap.size) : ∃ T,DdR (W.alloc (.cells #[v,.int .i64 0,.bool false,.int .i64 0] 69)) W.heap.size T ts ⟨ts,0,false⟩∧T < W.heap.size∧(ts≠[]→B≤T)∧∀ a n c,v=.slice a n c→TokL T (W.alloc (.cells #[v,.int .i64 0,.bool false,.int .i64 0] 69)) a ts:=by
 have hb:=(Below.refl W.heap.size W).alloc (Nat.le_refl _) (.cells #[v,.int .i64 0,.bool false,.int .i64 0] 69)
 have hblk : (W.alloc (.cells #[v,.int .i64 0,.bool false,.int .i64 0] 69)).heap[W.heap.size]?=some (.cells #[v,.int .i64 0,.bool false,.int .i64 0] 69 (0,0)):=heap_alloc_new W _
 rcases ho.2 with ⟨rfl,h0⟩|⟨g,cap,cur,rfl,hB,hg,hn,hc,hs,ht⟩
 ·have hnil : ts=[]:=List.eq_nil_of_length_eq_zero h0
  subst hnil
  exact ⟨0,⟨none,0,⟨hblk,List.suffix_refl _,fun j x hj=>(by simp at hj),hpos,Nat.zero_le _,fun t ht=>(by cases ht),Nat.zero_le _⟩⟩,hpos,fun h=>absurd rfl h,fun a n c _ j x hj=>(by simp at hj)⟩
 ·have hglt : g < W.heap.size:=(Array.getElem?_eq_some_iff.1 hg).1
  have hcl : ∀ j t,ts[j]?=some t→∀ r u,t.cells[r]?=some u→W.cell? ⟨g,j*3+r,none⟩=some u:=fun j t hj r u hu=>by
   have e : ∀ (l : List XTok) (j : Nat),l[j]?=some t→(flatX l)[j*3+r]?=some u:=fun l=>by
    induction l with
    | nil=>intro j h;simp at h
    | cons y l ih =>
      intro j h
      have hyl : y.cells.length=3:=by simp [XTok.cells]
      cases j with
      | zero =>
        obtain rfl : y=t:=by simpa using h
        have hr : r < y.cells.length:=(List.getElem?_eq_some_iff.1 hu).1
        rw [flatX,Nat.zero_mul,Nat.zero_add,List.getElem?_append_left hr]
        exact hu
      | succ j =>
        rw [flatX,List.getElem?_append_right (by rw [hyl];omega),hyl,show (j+1)*3+r - 3=j*3+r by omega]
        exact ih j (by simpa using h)
   have h1:=e ts j hj
   have h2:=(List.getElem?_eq_some_iff.1 h1).1
   rw [cell_of_row W g _ cur 72 (0,0) hg]
   rw [← ht,List.getElem?_take,if_pos (by rw [← flatX_len];exact h2)] at h1
   simpa using h1
  have htk : TokL g (W.alloc (.cells #[.slice (some ⟨g,0,none⟩) ts.length cap,.int .i64 0,.bool false,.int .i64 0] 69)) (some ⟨g,0,none⟩) ts:=fun j t hj=>by
   refine ⟨0,rfl,?_,?_,?_⟩
   ·rw [Nat.zero_add];exact tkeep hb (hcl j t hj 0 _ rfl)
   ·rw [Nat.zero_add];exact tkeep hb (hcl j t hj 1 _ rfl)
   ·rw [Nat.zero_add];exact tkeep hb (hcl j t hj 2 _ rfl)
  refine ⟨g,⟨some ⟨g,0,none⟩,cap,⟨by rw [hblk];simp,List.suffix_refl _,htk,hglt,hlen,hts,Nat.zero_le _⟩⟩,hglt,fun _=>hB,fun a n c e=>?_⟩
  injection e with e1 e2 e3
  subst e1
  exact htk
theorem dquery_same {l : List UInt8} {ts : List XTok} (hts : ∀ t∈ts,GoodT t) (n : Nat) :
 ((dQuery n ⟨ts,0,false⟩).2.bad=false∧(queryT l.length n ⟨ts,0,-1⟩).2.wrong=-1∧(dQuery n ⟨ts,0,false⟩).1=(queryT l.length n ⟨ts,0,-1⟩).1) ∨
 ((dQuery n ⟨ts,0,false⟩).2.bad=true∧(queryT l.length n ⟨ts,0,-1⟩).2.wrong=dAt l.length (dQuery n ⟨ts,0,false⟩).2):=by
 rcases (queryGD (E:=l.length) n).good ⟨ts,0,false⟩ ⟨rfl,Nat.zero_le _,fun t ht=>goodT_w (hts t ht)⟩ with ⟨h1,h2,h3⟩|⟨h1,_,h3⟩
 ·exact .inl ⟨h1.1,by rw [show (⟨ts,0,-1⟩ : RS)=lift ⟨ts,0,false⟩ from rfl,h2];rfl,h3⟩
 ·exact .inr ⟨h1,h3⟩
end Go.Proofs.Ytefcbgnckgapgaa
namespace Go.Proofs.Ytefcbgnckgapgaa
open Go.RowKit Go.Lib Go.Op
def RightSaid : Prop:=∀ (K : Nat→Prop) (w : World) (a b : Option Addr) (q c r d : Nat) (p : PQu),QuAt K w a q c b r d p→QuB p →
 Calls Try.prog 17 #[.agg #[.slice a q c,.slice b r d,.int .i64 p.within,.string (strB p.by_),.int .i64 p.pick]] w fun e w'=>e=.returned (.bool (rightQ p))∧Below w.heap.size w w'
set_option maxHeartbeats 4000000 in
set_option maxRecDepth 100000 in
theorem rparse_calls (hright : RightSaid) {w : World} (l : List UInt8) (hl : l.length≤100000) : Calls Try.prog 19 #[.string (strB l)] w (PaTo (parseI l) w):=by
 have hb0:=(Below.refl w.heap.size w).alloc (Nat.le_refl _) (.cells #[.slice none 0 0,.slice none 0 0,.int .i64 0,.string ⟨#[]⟩,.int .i64 0] 25)
 have hx2:=Blk.new w #[.slice none 0 0,.slice none 0 0,.int .i64 0,.string ⟨#[]⟩,.int .i64 0] 25
 have hrd:=xread_calls (w.alloc (.cells #[.slice none 0 0,.slice none 0 0,.int .i64 0,.string ⟨#[]⟩,.int .i64 0] 25)) (strB l) l (strB_list l) (by rw [strB_size];exact hl)
 obtain ⟨⟨ts,er,at_⟩,hts⟩ : ∃ z,readX l=z:=⟨_,rfl⟩
 rw [hts] at hrd
 have HRD : Hid (Calls Try.prog 31 #[.string (strB l)] (w.alloc (.cells #[.slice none 0 0,.slice none 0 0,.int .i64 0,.string ⟨#[]⟩,.int .i64 0] 25)) fun e w'=>∃ v,e=.returned (.tuple #[v,.int .i64 er,.int .i64 at_])∧XOwn w' (w.alloc (.cells #[.slice none 0 0,.slice none 0 0,.int .i64 0,.string ⟨#[]⟩,.int .i64 0] 25)).heap.size v ts∧Below (w.alloc (.cells #[.slice none 0 0,.slice none 0 0,.int .i64 0,.string ⟨#[]⟩,.int .i64 0] 25)).heap.size (w.alloc (.cells #[.slice none 0 0,.slice none 0 0,.int .i64 0,.string ⟨#[]⟩,.int .i64 0] 25)) w'):=hid hrd
 have HB0:=hid hb0
 have HX2:=hid hx2
 by_cases he : ¬ er=0
 ·have hp : parseI l=(noQ,(er : Int),(at_ : Int)):=by
   unfold parseI
   rw [hts]
   rw [if_pos he]
  rw [hp]
  have ht : ((er : Int) != 0)=true:=by rw [bne_iff_ne];omega
  clear hl hb0 hx2 hrd hts hp he hright
  go_enter Try.func19,Try.ntmps19
  go_wp2_with fail
  with_reducible refine HRD.out.mono ?_
  rintro e w1 ⟨v,rfl,ho,hb1⟩
  obtain ⟨va,vc,rfl⟩:=ho.slice
  have q2:=HX2.out.low hb1
  have r0:=tcell q2 (k:=0) rfl
  have fr0:=tfrozen q2 (k:=0)
  have r1:=tcell q2 (k:=1) rfl
  have fr1:=tfrozen q2 (k:=1)
  have r2:=tcell q2 (k:=2) rfl
  have fr2:=tfrozen q2 (k:=2)
  have r3:=tcell q2 (k:=3) rfl
  have fr3:=tfrozen q2 (k:=3)
  have r4:=tcell q2 (k:=4) rfl
  have fr4:=tfrozen q2 (k:=4)
  have HB1:=hid (HB0.out.trans (hb1.mono HB0.out.size))
  clear ho hb1 q2
  go_wp2
  refine bodyPost_ret (v:=.tuple #[.agg #[.slice none 0 0,.slice none 0 0,.int .i64 0,.string ⟨#[]⟩,.int .i64 0],.int .i64 er,.int .i64 at_]) (by simp [results,Try.results19,go_sem,r0,r1,r2,r3,r4]) rfl (PaTo.zero ?_)
  exact bset5 HB1.out (Nat.le_refl _) _ _ _ _ _
 have he:=Decidable.not_not.1 he
 subst he
 have HRD0 : Hid (Calls Try.prog 31 #[.string (strB l)] (w.alloc (.cells #[.slice none 0 0,.slice none 0 0,.int .i64 0,.string ⟨#[]⟩,.int .i64 0] 25)) fun e w'=>∃ v,e=.returned (.tuple #[v,.int .i64 0,.int .i64 at_])∧XOwn w' (w.alloc (.cells #[.slice none 0 0,.slice none 0 0,.int .i64 0,.string ⟨#[]⟩,.int .i64 0] 25)).heap.size v ts∧Below (w.alloc (.cells #[.slice none 0 0,.slice none 0 0,.int .i64 0,.string ⟨#[]⟩,.int .i64 0] 25)).heap.size (w.alloc (.cells #[.slice none 0 0,.slice none 0 0,.int .i64 0,.string ⟨#[]⟩,.int .i64 0] 25)) w'):=HRD
 clear HRD he
 have HRD:=HRD0
 clear HRD0
 obtain ⟨htk,hlen,hgt,_,hl5⟩:=readX_toks hts
 obtain ⟨⟨qq,sq⟩,hq⟩ : ∃ z,dQuery (ts.length+1) ⟨ts,0,false⟩=z:=⟨_,rfl⟩
 have hsame:=dquery_same (l:=l) hgt (ts.length+1)
 have hqb:=(queryT_sb (E:=l.length) (s:=⟨ts,0,-1⟩) (ts.length+1) ⟨fun t ht=>(htk t ht).1,by show ts.length≤_;omega⟩)
 rw [hq] at hsame
 dsimp only at hsame
 obtain ⟨res,hres⟩ : ∃ z,parseI l=z:=⟨_,rfl⟩
 rw [hres]
 obtain ⟨⟨qt,st⟩,hqt⟩ : ∃ z,queryT l.length (ts.length+1) ⟨ts,0,-1⟩=z:=⟨_,rfl⟩
 rw [hqt] at hsame hqb
 dsimp only at hsame hqb
 have hp0 : parseI l=if st.wrong≠-1 then (noQ,81,st.wrong) else if rightQ qt then (qt,0,0) else (noQ,2,0):=by
  unfold parseI
  rw [hts]
  dsimp only
  rw [if_neg (by simp),hqt]
 have hp : (sq.bad=false∧QuB qq∧(if rightQ qq then (qq,0,0) else (noQ,2,0))=res)∨(sq.bad=true∧(noQ,81,((dAt l.length sq : Nat) : Int))=res):=by
  rw [← hres,hp0]
  rcases hsame with ⟨h1,h2,h3⟩|⟨h1,h2⟩
  ·subst h3
   exact .inl ⟨h1,hqb,(if_neg (fun h=>h h2)).symm⟩
  ·have hne : st.wrong≠-1:=by omega
   refine .inr ⟨h1,?_⟩
   rw [if_pos hne,h2]
 have HRES:=hid hp
 have HTK : Hid ((∀ t∈ts,DTok t)∧ts.length≤128):=hid ⟨fun t ht=>⟨goodT_w (hgt t ht),(htk t ht).1,(htk t ht).2.1⟩,hlen⟩
 have HQ:=hid hq
 have HRG:=hid hright
 obtain ⟨E,hE⟩ : ∃ E,l.length=E:=⟨_,rfl⟩
 have hsE : (strB l).size=E:=by rw [strB_size];exact hE
 rw [hE] at HRES
 have HE:=hid (show E≤1000000 by omega)
 obtain ⟨sv,hsv⟩ : ∃ sv,strB l=sv:=⟨_,rfl⟩
 rw [hsv] at HRD hsE ⊢
 clear hl hb0 hx2 hrd hts hp htk hlen hgt hl5 hq hqb hsame hres hE hsv hright hqt hp0
 go_enter Try.func19,Try.ntmps19
 go_wp2_with fail
 with_reducible refine HRD.out.mono ?_
 rintro e w1 ⟨v,rfl,ho,hb1⟩
 obtain ⟨va,vc,rfl⟩:=ho.slice
 obtain ⟨nt,hnt⟩ : ∃ n,ts.length=n:=⟨_,rfl⟩
 obtain ⟨T,hmade,hTlt,hTB,htoks⟩:=DdR.made ho HTK.out.1 (by have:=HTK.out.2;omega) (by have:=hb1.size;have:=HX2.out.lt;omega)
 have hqc:=dquery_calls hmade (Nat.zero_le _) (n:=ts.length+1) (Nat.lt_succ_self _)
 rw [HQ.out] at hqc
 rw [hnt] at hqc ⊢
 have HNT:=hid hnt
 have HQC:=hid hqc
 have hba:=(Below.refl w1.heap.size w1).alloc (Nat.le_refl _) (.cells #[.slice va nt vc,.int .i64 0,.bool false,.int .i64 0] 69)
 have X3:=hid ((HX2.out.low hb1).low hba)
 have hsz1 : w.heap.size < w1.heap.size:=by have:=hb1.size;have:=HX2.out.lt;omega
 have HB1:=hid ((HB0.out.trans (hb1.mono HB0.out.size)).trans (hba.mono (Nat.le_of_lt hsz1)))
 have hszE : ((sv.size : Nat) : Int)=(E : Int):=by rw [hsE]
 have HSZ:=hid hsz1
 have HTS:=hid (And.intro hTlt (And.intro (fun hne : ts≠[]=>show w.heap.size < T from by have:=hTB hne;have:=HX2.out.lt;have h8 : (w.alloc (.cells #[.slice none 0 0,.slice none 0 0,.int .i64 0,.string ⟨#[]⟩,.int .i64 0] 25)).heap.size=w.heap.size+1:=by simp
                                                                                         omega) (htoks _ _ _ rfl)))
 rw [hnt] at HTS
 clear ho hb1 hmade hba hqc hnt hsz1 HTK HRD HQ hTlt hTB htoks
 go_wp2_with fail
 with_reducible refine HQC.out.mono ?_
 rintro e w2 ⟨a,q,c,b,r,d,rfl,hits,hprs,hrt⟩
 have hb3:=(Below.refl w2.heap.size w2).alloc (Nat.le_refl _) (.cells #[.slice a q c,.slice b r d,.int .i64 qq.within,.string (strB qq.by_),.int .i64 qq.pick] 25)
 have x4:=(X3.out.keep hrt.fr (by have:=HSZ.out;omega)).low hb3
 have X4:=hid x4
 have hsa : (w1.alloc (.cells #[.slice va nt vc,.int .i64 0,.bool false,.int .i64 0] 69)).heap.size=w1.heap.size+1:=by simp
 have hb2 : Below w.heap.size w w2:=HB1.out.trans (hrt.fr.below (B:=w.heap.size) (by rw [hsa];have:=HSZ.out;omega) (fun k hk=>by rw [hk];exact Nat.le_of_lt HSZ.out))
 have HB3:=hid (hb2.trans (hb3.mono hb2.size))
 obtain ⟨ra,rc,hrd⟩:=hrt.rd
 have hrd3:=hrd.keep hb3
 have HR3:=hid hrd3
 have HT3:=hid ((HTS.out.2.2.keep hrt.fr (Nat.ne_of_lt HTS.out.1)).keep (TFr.of_below (K:=fun _=>False) hb3) id)
 have m0:=hrd3.c0
 have m1:=hrd3.c1
 have m2:=hrd3.c2
 rw [HNT.out] at m0 m1
 have hK : ∀ k,k < w.heap.size→k < (w1.alloc (.cells #[.slice va nt vc,.int .i64 0,.bool false,.int .i64 0] 69)).heap.size:=fun k hk=>by rw [hsa];have:=HSZ.out;omega
 have KI:=hid (hits.low hb3)
 have KP:=hid (hprs.low hb3)
 have HK:=hid hK
 have hKb : w.heap.size < (w1.alloc (.cells #[.slice va nt vc,.int .i64 0,.bool false,.int .i64 0] 69)).heap.size:=by rw [hsa];have:=HSZ.out;omega
 have HKB:=hid hKb
 clear hKb
 have r0:=tcell x4 (k:=0) rfl
 have fr0:=tfrozen x4 (k:=0)
 have r1:=tcell x4 (k:=1) rfl
 have fr1:=tfrozen x4 (k:=1)
 have r2:=tcell x4 (k:=2) rfl
 have fr2:=tfrozen x4 (k:=2)
 have r3:=tcell x4 (k:=3) rfl
 have fr3:=tfrozen x4 (k:=3)
 have r4:=tcell x4 (k:=4) rfl
 have fr4:=tfrozen x4 (k:=4)
 clear hits hprs hrt hrd hrd3 hb2 hb3 hK x4 X3 HQC hsa
 rcases HRES.out with ⟨hbad,hqb,hr⟩|⟨hbad,hr⟩
 ·rw [hbad] at m2
  have HRT:=hid (HRG.out _ (w2.alloc (.cells #[.slice a q c,.slice b r d,.int .i64 qq.within,.string (strB qq.by_),.int .i64 qq.pick] 25)) _ _ _ _ _ _ _ ⟨KI.out,KP.out⟩ hqb)
  clear hbad hqb HRES m0 m1
  cases hz : rightQ qq with
  | false =>
    rw [hz] at HRT hr
    rw [if_neg (by simp)] at hr
    subst hr
    clear KI KP hz
    clear r0 r1 r2 r3 r4 fr0 fr1 fr2 fr3 fr4
    have x9:=tcell (Blk.new w2 #[.slice a q c,.slice b r d,.int .i64 qq.within,.string (strB qq.by_),.int .i64 qq.pick] 25) (k:=0) rfl
    go_wp2_with fail
    with_reducible refine HRT.out.mono ?_
    rintro e w5 ⟨rfl,hb5⟩
    have x5:=X4.out.low hb5
    have r0:=tcell x5 (k:=0) rfl
    have fr0:=tfrozen x5 (k:=0)
    have r1:=tcell x5 (k:=1) rfl
    have fr1:=tfrozen x5 (k:=1)
    have r2:=tcell x5 (k:=2) rfl
    have fr2:=tfrozen x5 (k:=2)
    have r3:=tcell x5 (k:=3) rfl
    have fr3:=tfrozen x5 (k:=3)
    have r4:=tcell x5 (k:=4) rfl
    have fr4:=tfrozen x5 (k:=4)
    have HB5:=hid (HB3.out.trans (hb5.mono HB3.out.size))
    clear hb5 x5 m2 x9
    go_wp2
    refine bodyPost_ret (v:=.tuple #[.agg #[.slice none 0 0,.slice none 0 0,.int .i64 0,.string ⟨#[]⟩,.int .i64 0],.int .i64 2,.int .i64 0]) (by simp [results,Try.results19,go_sem,r0,r1,r2,r3,r4]) rfl (PaTo.zero ?_)
    exact bset5 HB5.out (Nat.le_refl _) _ _ _ _ _
  | true =>
    rw [hz] at HRT hr
    rw [if_pos rfl] at hr
    subst hr
    clear hz
    clear r0 r1 r2 r3 r4 fr0 fr1 fr2 fr3 fr4
    go_wp2_with fail
    with_reducible refine HRT.out.mono ?_
    rintro e w5 ⟨rfl,hb5⟩
    have x5:=X4.out.low hb5
    have y5:=(Blk.new w2 #[.slice a q c,.slice b r d,.int .i64 qq.within,.string (strB qq.by_),.int .i64 qq.pick] 25).low hb5
    have r0:=tcell x5 (k:=0) rfl
    have fr0:=tfrozen x5 (k:=0)
    have r1:=tcell x5 (k:=1) rfl
    have fr1:=tfrozen x5 (k:=1)
    have r2:=tcell x5 (k:=2) rfl
    have fr2:=tfrozen x5 (k:=2)
    have r3:=tcell x5 (k:=3) rfl
    have fr3:=tfrozen x5 (k:=3)
    have r4:=tcell x5 (k:=4) rfl
    have fr4:=tfrozen x5 (k:=4)
    have s0:=tcell y5 (k:=0) rfl
    have s1:=tcell y5 (k:=1) rfl
    have s2:=tcell y5 (k:=2) rfl
    have s3:=tcell y5 (k:=3) rfl
    have s4:=tcell y5 (k:=4) rfl
    have HB5:=hid (HB3.out.trans (hb5.mono HB3.out.size))
    have KI5:=hid (KI.out.low hb5)
    have KP5:=hid (KP.out.low hb5)
    clear hb5 x5 y5 m2
    go_wp2
    refine bodyPost_ret (v:=.tuple #[.agg #[.slice a q c,.slice b r d,.int .i64 qq.within,.string (strB qq.by_),.int .i64 qq.pick],.int .i64 0,.int .i64 0]) (by simp [results,Try.results19,go_sem,r0,r1,r2,r3,r4]) rfl ⟨a,q,c,b,r,d,rfl,⟨?_,?_⟩,bset5 HB5.out (Nat.le_refl _) _ _ _ _ _⟩
    ·exact (((((KI5.out.set (b:=w.heap.size) HKB.out _ _).set (b:=w.heap.size) HKB.out _ _).set (b:=w.heap.size) HKB.out _ _).set (b:=w.heap.size) HKB.out _ _).set (b:=w.heap.size) HKB.out _ _).mono HK.out
    ·exact (((((KP5.out.set (b:=w.heap.size) HKB.out _ _).set (b:=w.heap.size) HKB.out _ _).set (b:=w.heap.size) HKB.out _ _).set (b:=w.heap.size) HKB.out _ _).set (b:=w.heap.size) HKB.out _ _).mono HK.out
 ·rw [hbad] at m2
  obtain ⟨z,hz⟩ : ∃ z : Int,((dAt E sq : Nat) : Int)=z:=⟨_,rfl⟩
  rw [hz] at hr
  subst hr
  clear KI KP HRES HRG hbad
  cases hsl : sq.l with
  | nil =>
    rw [hsl,List.length_nil,Nat.sub_zero] at m1
    have hat : dAt E sq=E:=by unfold dAt;rw [hsl]
    rw [hat] at hz
    subst hz
    clear hsl hat HR3 HT3
    go_wp2
    refine bodyPost_ret (v:=.tuple #[.agg #[.slice none 0 0,.slice none 0 0,.int .i64 0,.string ⟨#[]⟩,.int .i64 0],.int .i64 81,.int .i64 E]) (by simp [results,Try.results19,go_sem,r0,r1,r2,r3,r4]) rfl (PaTo.zero ?_)
    exact bset5 HB3.out (Nat.le_refl _) _ _ _ _ _
  | cons t rr =>
    obtain ⟨o,hva,hlt,hTw,d2⟩ : ∃ o,va=some ⟨T,o,none⟩∧nt - sq.l.length < nt∧w.heap.size < T∧(w2.alloc (.cells #[.slice a q c,.slice b r d,.int .i64 qq.within,.string (strB qq.by_),.int .i64 qq.pick] 25)).cell? ⟨T,o+(nt - sq.l.length)*3+2,none⟩=some (.int .i64 t.at_):=by
     obtain ⟨pre,hpre⟩:=HR3.out.suf
     rw [hsl] at hpre
     have hlen : pre.length+(rr.length+1)=nt:=by rw [← HNT.out,← hpre];simp
     have hj : ts[nt - sq.l.length]?=some t:=by
      rw [hsl,List.length_cons,← hpre,List.getElem?_append_right (by omega),show nt - (rr.length+1) - pre.length=0 by omega]
      rfl
     obtain ⟨o,e,_,_,h2⟩:=HT3.out _ _ hj
     exact ⟨o,e,by rw [hsl,List.length_cons];omega,HTS.out.2.1 (by rw [← hpre];simp),h2⟩
    subst hva
    have hat : dAt E sq=t.at_:=by unfold dAt;rw [hsl]
    rw [hat] at hz
    subst hz
    obtain ⟨p,hp⟩ : ∃ p,nt - sq.l.length=p:=⟨_,rfl⟩
    rw [hp] at m1 hlt d2
    have hne1 : w1.heap.size≠w.heap.size:=by have:=HSZ.out;omega
    have hne2 : T≠w.heap.size:=by omega
    clear hsl hat HR3 HT3 HTS hp
    go_wp2_with fail
    have g1 : (w2.alloc (.cells #[.slice a q c,.slice b r d,.int .i64 qq.within,.string (strB qq.by_),.int .i64 qq.pick] 25)).drew.cell? ⟨w1.heap.size,1,none⟩=some (.int .i64 (p : Nat)):=m1
    have g2 : (w2.alloc (.cells #[.slice a q c,.slice b r d,.int .i64 qq.within,.string (strB qq.by_),.int .i64 qq.pick] 25)).drew.cell? ⟨T,o+p*3+2,none⟩=some (.int .i64 t.at_):=d2
    have u0 : (w2.alloc (.cells #[.slice a q c,.slice b r d,.int .i64 qq.within,.string (strB qq.by_),.int .i64 qq.pick] 25)).drew.cell? ⟨w.heap.size,0,none⟩=_:=r0
    have fu0 : (w2.alloc (.cells #[.slice a q c,.slice b r d,.int .i64 qq.within,.string (strB qq.by_),.int .i64 qq.pick] 25)).drew.frozen? ⟨w.heap.size,0,none⟩=false:=fr0
    have u1 : (w2.alloc (.cells #[.slice a q c,.slice b r d,.int .i64 qq.within,.string (strB qq.by_),.int .i64 qq.pick] 25)).drew.cell? ⟨w.heap.size,1,none⟩=_:=r1
    have fu1 : (w2.alloc (.cells #[.slice a q c,.slice b r d,.int .i64 qq.within,.string (strB qq.by_),.int .i64 qq.pick] 25)).drew.frozen? ⟨w.heap.size,1,none⟩=false:=fr1
    have u2 : (w2.alloc (.cells #[.slice a q c,.slice b r d,.int .i64 qq.within,.string (strB qq.by_),.int .i64 qq.pick] 25)).drew.cell? ⟨w.heap.size,2,none⟩=_:=r2
    have fu2 : (w2.alloc (.cells #[.slice a q c,.slice b r d,.int .i64 qq.within,.string (strB qq.by_),.int .i64 qq.pick] 25)).drew.frozen? ⟨w.heap.size,2,none⟩=false:=fr2
    have u3 : (w2.alloc (.cells #[.slice a q c,.slice b r d,.int .i64 qq.within,.string (strB qq.by_),.int .i64 qq.pick] 25)).drew.cell? ⟨w.heap.size,3,none⟩=_:=r3
    have fu3 : (w2.alloc (.cells #[.slice a q c,.slice b r d,.int .i64 qq.within,.string (strB qq.by_),.int .i64 qq.pick] 25)).drew.frozen? ⟨w.heap.size,3,none⟩=false:=fr3
    have u4 : (w2.alloc (.cells #[.slice a q c,.slice b r d,.int .i64 qq.within,.string (strB qq.by_),.int .i64 qq.pick] 25)).drew.cell? ⟨w.heap.size,4,none⟩=_:=r4
    have fu4 : (w2.alloc (.cells #[.slice a q c,.slice b r d,.int .i64 qq.within,.string (strB qq.by_),.int .i64 qq.pick] 25)).drew.frozen? ⟨w.heap.size,4,none⟩=false:=fr4
    refine wp_region_held_drew (S:=fun W=>W.cell? ⟨w1.heap.size,1,none⟩=some (.int .i64 (p : Nat))∧W.cell? ⟨T,o+p*3+2,none⟩=some (.int .i64 t.at_)) (by kernel_rfl) ⟨g1,g2⟩ (fun hHeld=>?_)
    refine tK 0 37 (h:=?_)
    try simp only [Act.put,sI,sZ,sS]
    refine tK 1 38 (h:=?_)
    try simp only [Act.put,sI,sZ,sS]
    refine tK 2 39 (h:=?_)
    try simp only [Act.put,sI,sZ,sS]
    refine tK 3 40 (h:=?_)
    try simp only [Act.put,sI,sZ,sS]
    refine tK 4 41 (h:=?_)
    try simp only [Act.put,sI,sZ,sS]
    refine tK 5 42 (h:=?_)
    try simp only [Act.put,sI,sZ,sS]
    refine tK 6 43 (h:=?_)
    try simp only [Act.put,sI,sZ,sS]
    refine tK 7 44 (h:=?_)
    try simp only [Act.put,sI,sZ,sS]
    refine tK 8 45 (h:=?_)
    try simp only [Act.put,sI,sZ,sS]
    refine wpAnyH_ready (rs:=[9]) (by kernel_rfl) (by simp) ?_
    refine AllReadyH.cons (o:=_) rfl (fun K hK=>?_) AllReadyH.nil
    dsimp only [List.getElem_toArray,List.getElem_cons_succ,List.getElem_cons_zero]
    go_simp
    refine hK.out _ _ ⟨set5_cell hne1 g1 _ _ _ _ _,set5_cell hne2 g2 _ _ _ _ _⟩ (fun hHeld2=>?_)
    clear hK K
    try simp only [Act.put,sI,sZ,sS]
    refine tK 10 3 (h:=?_)
    try simp only [Act.put,sI,sZ,sS]
    refine tK 11 4 (h:=?_)
    try simp only [Act.put,sI,sZ,sS]
    refine wpAnyH_done (by kernel_rfl) ?_ _
    clear hHeld hHeld2 g1 g2 u0 u1 u2 u3 u4 fu0 fu1 fu2 fu3 fu4 m0 m1 m2 d2
    go_wp2
    refine bodyPost_ret (v:=.tuple #[.agg #[.slice none 0 0,.slice none 0 0,.int .i64 0,.string ⟨#[]⟩,.int .i64 0],.int .i64 81,.int .i64 t.at_]) (by simp [results,Try.results19,go_sem,r0,r1,r2,r3,r4]) rfl (PaTo.zero ?_)
    exact vbelow_drew (bset5 HB3.out (Nat.le_refl _) _ _ _ _ _)
end Go.Proofs.Ytefcbgnckgapgaa
namespace Go.Proofs.Ytefcbgnckgapgaa
open Go.RowKit Go.Lib Go.Op
set_option maxHeartbeats 8000000 in
set_option maxRecDepth 100000 in
theorem right_said : RightSaid:=by
 intro K w a b q c r d p h hqb
 obtain ⟨its,prs,wi,by_,pk⟩:=p
 have HI0:=hid (show RowK itemD K w (.slice a q c) its from h.1)
 have HP0:=hid (show RowK predD K w (.slice b r d) prs from h.2)
 have HQ:=hid (show its.length=q from h.1.len.symm)
 have HRr:=hid (show prs.length=r from h.2.len.symm)
 have HQB:=hid hqb
 obtain ⟨z,hz⟩ : ∃ z,rightQ ⟨its,prs,wi,by_,pk⟩=z:=⟨_,rfl⟩
 rw [hz]
 have HZ:=hid hz
 dsimp only
 have HB0:=hid ((Below.refl w.heap.size w).alloc (Nat.le_refl _) (.cells #[.slice a q c,.slice b r d,.int .i64 wi,.string (strB by_),.int .i64 pk] 25))
 have M0:=hid (tnew w #[.slice a q c,.slice b r d,.int .i64 wi,.string (strB by_),.int .i64 pk] 25 0 rfl)
 have M1:=hid (tnew w #[.slice a q c,.slice b r d,.int .i64 wi,.string (strB by_),.int .i64 pk] 25 1 rfl)
 have M2:=hid (tnew w #[.slice a q c,.slice b r d,.int .i64 wi,.string (strB by_),.int .i64 pk] 25 2 rfl)
 have M3:=hid (tnew w #[.slice a q c,.slice b r d,.int .i64 wi,.string (strB by_),.int .i64 pk] 25 3 rfl)
 have M4:=hid (tnew w #[.slice a q c,.slice b r d,.int .i64 wi,.string (strB by_),.int .i64 pk] 25 4 rfl)
 clear h hqb hz
 by_cases e1 : q < 1
 ·have t1 : decide ((q : Int) < 1)=true:=by rw [decide_eq_true_eq];omega
  have t1n : decide (q < 1)=true:=by rw [decide_eq_true_eq];omega
  have hz0 : z=false:=by
   rw [← HZ.out]
   unfold rightQ
   dsimp only
   rw [show rightIs its=false from Bool.eq_false_iff.2 (fun ht=>by have h1:=((rightIs_iff its).1 ht).1;rw [HQ.out] at h1;omega)]
   rfl
  subst hz0
  go_enter Try.func17,Try.ntmps17
  go_wp2
  go_ret
  exact ⟨rfl,HB0.out⟩
 by_cases e2 : 6 < q
 ·have t1 : decide ((q : Int) < 1)=false:=by rw [decide_eq_false_iff_not];omega
  have t1n : decide (q < 1)=false:=by rw [decide_eq_false_iff_not];omega
  have t2 : decide (6 < (q : Int))=true:=by rw [decide_eq_true_eq];omega
  have t2n : decide (6 < q)=true:=by rw [decide_eq_true_eq];omega
  have hz0 : z=false:=by
   rw [← HZ.out]
   unfold rightQ
   dsimp only
   rw [show rightIs its=false from Bool.eq_false_iff.2 (fun ht=>by have h1:=((rightIs_iff its).1 ht).1;rw [HQ.out] at h1;omega)]
   rfl
  subst hz0
  go_enter Try.func17,Try.ntmps17
  go_wp2
  go_ret
  exact ⟨rfl,HB0.out⟩
 by_cases e3 : 8 < r
 ·have t1 : decide ((q : Int) < 1)=false:=by rw [decide_eq_false_iff_not];omega
  have t1n : decide (q < 1)=false:=by rw [decide_eq_false_iff_not];omega
  have t2 : decide (6 < (q : Int))=false:=by rw [decide_eq_false_iff_not];omega
  have t2n : decide (6 < q)=false:=by rw [decide_eq_false_iff_not];omega
  have t3 : decide (8 < (r : Int))=true:=by rw [decide_eq_true_eq];omega
  have t3n : decide (8 < r)=true:=by rw [decide_eq_true_eq];omega
  have hz0 : z=false:=by
   rw [← HZ.out]
   unfold rightQ
   dsimp only
   rw [show (decide (prs.length≤8) && (prs.all rightP && (decide (0≤wi∧wi≤1099511627776) && ((decide (by_=[]) || nameB by_) && decide (1≤pk∧pk≤3)))))=false from by rw [show decide (prs.length≤8)=false from decide_eq_false (by rw [HRr.out];omega)];rfl,Bool.and_false]
  subst hz0
  go_enter Try.func17,Try.ntmps17
  go_wp2
  go_ret
  exact ⟨rfl,HB0.out⟩
 have t1 : decide ((q : Int) < 1)=false:=by rw [decide_eq_false_iff_not];omega
 have t1n : decide (q < 1)=false:=by rw [decide_eq_false_iff_not];omega
 have t2 : decide (6 < (q : Int))=false:=by rw [decide_eq_false_iff_not];omega
 have t2n : decide (6 < q)=false:=by rw [decide_eq_false_iff_not];omega
 have t3 : decide (8 < (r : Int))=false:=by rw [decide_eq_false_iff_not];omega
 have t3n : decide (8 < r)=false:=by rw [decide_eq_false_iff_not];omega
 go_enter Try.func17,Try.ntmps17
 go_wp2
 clear t1 t1n t2 t2n t3 t3n
 go_loopw [3,4] (fun i _ wr=>∃ j : Nat,i=.int .i64 j∧j≤q∧Hid (∀ (k : Nat) (u : PIt),k < j→its[k]?=some u→dItemR u (decide (k=0))=true∧∀ (l : Nat) (v : PIt),l < k→its[l]?=some v→v.x≠u.x)∧Hid (Below (w.alloc (.cells #[.slice a q c,.slice b r d,.int .i64 wi,.string (strB by_),.int .i64 pk] 25)).heap.size (w.alloc (.cells #[.slice a q c,.slice b r d,.int .i64 wi,.string (strB by_),.int .i64 pk] 25)) wr)) (fun i _ _=>q - (RowKit.intOf i).toNat)
 case atStart=>exact ⟨0,rfl,Nat.zero_le _,hid (fun k u hk=>absurd hk (Nat.not_lt_zero _)),hid (Below.refl _ _)⟩
 case round =>
  obtain ⟨j,rfl,hj,HU,HA⟩:=hrel
  have HBW:=hid (HB0.out.trans (HA.out.mono HB0.out.size))
  have m0:=tkeep HA.out M0.out
  have m1:=tkeep HA.out M1.out
  have m2:=tkeep HA.out M2.out
  have m3:=tkeep HA.out M3.out
  have m4:=tkeep HA.out M4.out
  by_cases hlt : j < q
  ·obtain ⟨y,hy⟩ : ∃ y,its[j]?=some y:=⟨_,List.getElem?_eq_getElem (by rw [HQ.out];exact hlt)⟩
   have hr:=HI0.out.low HBW.out
   obtain ⟨g,o,a',c',rfl,k0,k1,k2,k3,hrow⟩:=hr.itemAt hy
   obtain ⟨fb,hfb⟩ : ∃ fb,((j : Int) == 0)=fb:=⟨_,rfl⟩
   have hfb2 : decide (j=0)=fb:=by
    rw [← hfb]
    by_cases h0 : j=0
    ·subst h0;rfl
    ·rw [decide_eq_false h0];exact (beq_eq_false_iff_ne.2 (by omega)).symm
   have hib:=HQB.out.1 y (List.mem_of_getElem? hy)
   have hrc:=rritem_calls (no:=y.no) (x:=y.x) (md:=y.mode) hrow hib.1 hib.2.1 hib.2.2 fb
   obtain ⟨nn,hnn⟩ : ∃ nn,y.ns.length=nn:=⟨_,rfl⟩
   obtain ⟨t,ht⟩ : ∃ t,dItemR ⟨y.no,y.ns,y.x,y.mode⟩ fb=t:=⟨_,rfl⟩
   have hye : dItemR y (decide (j=0))=t:=by rw [hfb2];exact ht
   rw [hnn] at k1
   rw [hnn,ht] at hrc
   have HRC:=hid hrc
   have HY:=hid hy
   have HYE:=hid hye
   clear hr hrow hib hrc hnn ht hye hfb2
   cases t with
   | false =>
     have hz0 : z=false:=by
      rw [← HZ.out]
      unfold rightQ
      dsimp only
      rw [show rightIs its=false from Bool.eq_false_iff.2 (fun ht=>by have h1:=(((rightIs_iff its).1 ht).2 j y HY.out).1;rw [HYE.out] at h1;cases h1)]
      rfl
     subst hz0
     clear hy
     go_wp2_with fail
     with_reducible refine HRC.out.mono ?_
     rintro e w2 ⟨rfl,hb2⟩
     have HB2:=hid (HBW.out.trans (hb2.mono HBW.out.size))
     clear hb2
     go_wp2
     go_ret
     exact ⟨rfl,HB2.out⟩
   | true =>
     clear hy
     go_wp2_with fail
     with_reducible refine HRC.out.mono ?_
     rintro e w2 ⟨rfl,hb2⟩
     have HA2:=hid (HA.out.trans (hb2.mono HA.out.size))
     have HBW2:=hid (HBW.out.trans (hb2.mono HBW.out.size))
     clear hb2 k0 k1 k2 k3 m0 m1 m2 m3 m4 HA HBW HRC hfb
     go_wp2
     go_loopw [4] (fun i wr=>∃ k : Nat,i=.int .i64 k∧k≤j∧Hid (∀ (l : Nat) (v : PIt),l < k→its[l]?=some v→v.x≠y.x)∧Hid (Below w2.heap.size w2 wr)) (fun i _=>j - (RowKit.intOf i).toNat)
     case atStart=>exact ⟨0,rfl,Nat.zero_le _,hid (fun l v hl=>absurd hl (Nat.not_lt_zero _)),hid (Below.refl _ _)⟩
     case round =>
      obtain ⟨k,rfl,hk,HD,HB⟩:=hrel
      have HA:=hid (HA2.out.trans (HB.out.mono HA2.out.size))
      have HBW:=hid (HBW2.out.trans (HB.out.mono HBW2.out.size))
      have hr:=HI0.out.low HBW.out
      have m0:=tkeep HA.out M0.out
      have m1:=tkeep HA.out M1.out
      have m2:=tkeep HA.out M2.out
      have m3:=tkeep HA.out M3.out
      have m4:=tkeep HA.out M4.out
      by_cases hkl : k < j
      ·obtain ⟨u,hu⟩ : ∃ u,its[k]?=some u:=⟨_,List.getElem?_eq_getElem (by rw [HQ.out];omega)⟩
       have hkq : k < q:=by omega
       obtain ⟨g1,o1,_,_,eg,_,_,hcu,_,_⟩:=hr.itemAt hu
       injection eg with eg
       injection eg with eg1 eg2
       subst eg1 eg2
       obtain ⟨g2,o2,_,_,eg,_,_,hcy,_,_⟩:=hr.itemAt HY.out
       injection eg with eg
       injection eg with eg1 eg2
       subst eg1 eg2
       have hw : IntKind.i64.wrap ((k : Int)+1)=((k+1 : Nat) : Int):=by rw [IntWalk.i64_in _ (by omega)];omega
       by_cases heq : u.x=y.x
       ·have hne : ((strB u.x).toList == (strB y.x).toList)=true:=by rw [tB_list,tB_list,beq_iff_eq];exact heq
        have hz0 : z=false:=by
         rw [← HZ.out]
         unfold rightQ
         dsimp only
         rw [show rightIs its=false from Bool.eq_false_iff.2 (fun ht=>(((rightIs_iff its).1 ht).2 j y HY.out).2 k u hkl hu heq)]
         rfl
        subst hz0
        clear hr hu heq
        go_wp2_with fail
        go_quiet (fail)
        have HB9:=hid (below_drewN HBW.out nq)
        go_wp2
        go_ret
        exact ⟨rfl,HB9.out⟩
       ·have hne : ((strB u.x).toList == (strB y.x).toList)=false:=by rw [tB_list,tB_list,beq_eq_false_iff_ne];exact heq
        have HD2 : Hid (∀ (l : Nat) (v : PIt),l < k+1→its[l]?=some v→v.x≠y.x):=hid (fun l v hl hv=>by
         by_cases hlk : l < k
         ·exact HD.out l v hlk hv
         ·obtain rfl : l=k:=by omega
          rw [hu] at hv
          injection hv with hv
          subst hv
          exact heq)
        clear hr hu heq
        go_wp2_with fail
        go_quiet (fail)
        have HB9:=hid (below_drewN HB.out nq)
        go_wp2
        exact ⟨⟨k+1,rfl,hkl,HD2,HB9⟩,by simp [RowKit.intOf];omega⟩
      ·have hkj : k=j:=by omega
       subst hkj
       have HU2 : Hid (∀ (l : Nat) (u : PIt),l < k+1→its[l]?=some u→dItemR u (decide (l=0))=true∧∀ (l' : Nat) (v : PIt),l' < l→its[l']?=some v→v.x≠u.x):=hid (fun l u hl hu=>by
        by_cases hlk : l < k
        ·exact HU.out l u hlk hu
        ·obtain rfl : l=k:=by omega
         rw [HY.out] at hu
         injection hu with hu
         subst hu
         exact ⟨HYE.out,HD.out⟩)
       have hw : IntKind.i64.wrap ((k : Int)+1)=((k+1 : Nat) : Int):=by rw [IntWalk.i64_in _ (by omega)];omega
       clear hr hkl
       go_wp2
       exact ⟨⟨k+1,rfl,hlt,HU2,HA⟩,by simp [RowKit.intOf];omega⟩
  ·have hjq : q=j:=by omega
   subst hjq
   have HRI : Hid (rightIs its=true):=hid ((rightIs_iff its).2 ⟨by rw [HQ.out];omega,fun k u hu=>HU.out k u (by rw [← HQ.out];exact (List.getElem?_eq_some_iff.1 hu).1) hu⟩)
   clear HU hlt
   have HA0:=HA
   go_wp2
   clear m0 m1 m2 m3 m4 HA HBW
   go_loopw [5,6] (fun i _ wr=>∃ j : Nat,i=.int .i64 j∧j≤r∧Hid (∀ (k : Nat) (u : PPr),k < j→prs[k]?=some u→rightP u=true)∧Hid (Below (w.alloc (.cells #[.slice a q c,.slice b r d,.int .i64 wi,.string (strB by_),.int .i64 pk] 25)).heap.size (w.alloc (.cells #[.slice a q c,.slice b r d,.int .i64 wi,.string (strB by_),.int .i64 pk] 25)) wr)) (fun i _ _=>r - (RowKit.intOf i).toNat)
   case atStart=>exact ⟨0,rfl,Nat.zero_le _,hid (fun k u hk=>absurd hk (Nat.not_lt_zero _)),HA0⟩
   case round =>
    clear HA0
    obtain ⟨j,rfl,hj,HU,HA⟩:=hrel
    have HBW:=hid (HB0.out.trans (HA.out.mono HB0.out.size))
    have m0:=tkeep HA.out M0.out
    have m1:=tkeep HA.out M1.out
    have m2:=tkeep HA.out M2.out
    have m3:=tkeep HA.out M3.out
    have m4:=tkeep HA.out M4.out
    by_cases hlt : j < r
    ·obtain ⟨y,hy⟩ : ∃ y,prs[j]?=some y:=⟨_,List.getElem?_eq_getElem (by rw [HRr.out];exact hlt)⟩
     have hr:=HP0.out.low HBW.out
     obtain ⟨g,o,a1,q1,c1,b1,r1,d1,ee,rfl,hcell,hq1,hr1,hx1,hx2⟩:=hr.predAt hy
     have hpb:=HQB.out.2.1 y (List.mem_of_getElem? hy)
     have hbp:=(Below.refl wr.heap.size wr).alloc (Nat.le_refl _) (.cells #[.int .i64 y.cmp,.int .i64 y.l.k,.int .i64 y.l.v.k,.int .i64 y.l.v.n,.string (strB y.l.v.s),.string (strB y.l.x),.string (strB y.l.f),.slice a1 q1 c1,.int .i64 y.r.k,.int .i64 y.r.v.k,.int .i64 y.r.v.n,.string (strB y.r.v.s),.string (strB y.r.x),.string (strB y.r.f),.slice b1 r1 d1] 52)
     have i1:=rrE_calls 6 (by omega) y.l hpb.1 (wr.alloc (.cells #[.int .i64 y.cmp,.int .i64 y.l.k,.int .i64 y.l.v.k,.int .i64 y.l.v.n,.string (strB y.l.v.s),.string (strB y.l.x),.string (strB y.l.f),.slice a1 q1 c1,.int .i64 y.r.k,.int .i64 y.r.v.k,.int .i64 y.r.v.n,.string (strB y.r.v.s),.string (strB y.r.x),.string (strB y.r.f),.slice b1 r1 d1] 52)) ee a1 c1 (hx1.keep (TFr.of_below hbp))
     have i2:=fun W (hW : Below wr.heap.size wr W)=>rrE_calls 6 (by omega) y.r hpb.2 W ee b1 d1 (hx2.keep (TFr.of_below hW))
     rw [← hq1] at i1
     rw [← hr1] at i2
     obtain ⟨t1,ht1⟩ : ∃ t,rightX 6 y.l=t:=⟨_,rfl⟩
     obtain ⟨t2,ht2⟩ : ∃ t,rightX 6 y.r=t:=⟨_,rfl⟩
     rw [ht1] at i1
     rw [ht2] at i2
     have I1 : Hid (Calls Try.prog 29 #[.agg #[.int .i64 y.l.k,.int .i64 y.l.v.k,.int .i64 y.l.v.n,.string (strB y.l.v.s),.string (strB y.l.x),.string (strB y.l.f),.slice a1 q1 c1],.int .i64 6] (wr.alloc (.cells #[.int .i64 y.cmp,.int .i64 y.l.k,.int .i64 y.l.v.k,.int .i64 y.l.v.n,.string (strB y.l.v.s),.string (strB y.l.x),.string (strB y.l.f),.slice a1 q1 c1,.int .i64 y.r.k,.int .i64 y.r.v.k,.int .i64 y.r.v.n,.string (strB y.r.v.s),.string (strB y.r.x),.string (strB y.r.f),.slice b1 r1 d1] 52)) fun e w'=>e=.returned (.bool t1)∧Below (wr.alloc (.cells #[.int .i64 y.cmp,.int .i64 y.l.k,.int .i64 y.l.v.k,.int .i64 y.l.v.n,.string (strB y.l.v.s),.string (strB y.l.x),.string (strB y.l.f),.slice a1 q1 c1,.int .i64 y.r.k,.int .i64 y.r.v.k,.int .i64 y.r.v.n,.string (strB y.r.v.s),.string (strB y.r.x),.string (strB y.r.f),.slice b1 r1 d1] 52)).heap.size (wr.alloc (.cells #[.int .i64 y.cmp,.int .i64 y.l.k,.int .i64 y.l.v.k,.int .i64 y.l.v.n,.string (strB y.l.v.s),.string (strB y.l.x),.string (strB y.l.f),.slice a1 q1 c1,.int .i64 y.r.k,.int .i64 y.r.v.k,.int .i64 y.r.v.n,.string (strB y.r.v.s),.string (strB y.r.x),.string (strB y.r.f),.slice b1 r1 d1] 52)) w'):=hid i1
     have I2 : Hid (∀ W,Below wr.heap.size wr W→Calls Try.prog 29 #[.agg #[.int .i64 y.r.k,.int .i64 y.r.v.k,.int .i64 y.r.v.n,.string (strB y.r.v.s),.string (strB y.r.x),.string (strB y.r.f),.slice b1 r1 d1],.int .i64 6] W fun e w'=>e=.returned (.bool t2)∧Below W.heap.size W w'):=hid i2
     have HT:=hid (And.intro ht1 ht2)
     have HBP:=hid hbp
     have HY:=hid hy
     have k0:=hcell 0 _ rfl
     have k1:=hcell 1 _ rfl
     have k2:=hcell 2 _ rfl
     have k3:=hcell 3 _ rfl
     have k4:=hcell 4 _ rfl
     have k5:=hcell 5 _ rfl
     have k6:=hcell 6 _ rfl
     have k7:=hcell 7 _ rfl
     have k8:=hcell 8 _ rfl
     have k9:=hcell 9 _ rfl
     have k10:=hcell 10 _ rfl
     have k11:=hcell 11 _ rfl
     have k12:=hcell 12 _ rfl
     have k13:=hcell 13 _ rfl
     have k14:=hcell 14 _ rfl
     rw [Nat.add_zero] at k0
     have P8:=hid (tnew wr #[.int .i64 y.cmp,.int .i64 y.l.k,.int .i64 y.l.v.k,.int .i64 y.l.v.n,.string (strB y.l.v.s),.string (strB y.l.x),.string (strB y.l.f),.slice a1 q1 c1,.int .i64 y.r.k,.int .i64 y.r.v.k,.int .i64 y.r.v.n,.string (strB y.r.v.s),.string (strB y.r.x),.string (strB y.r.f),.slice b1 r1 d1] 52 8 rfl)
     have P9:=hid (tnew wr #[.int .i64 y.cmp,.int .i64 y.l.k,.int .i64 y.l.v.k,.int .i64 y.l.v.n,.string (strB y.l.v.s),.string (strB y.l.x),.string (strB y.l.f),.slice a1 q1 c1,.int .i64 y.r.k,.int .i64 y.r.v.k,.int .i64 y.r.v.n,.string (strB y.r.v.s),.string (strB y.r.x),.string (strB y.r.f),.slice b1 r1 d1] 52 9 rfl)
     have P10:=hid (tnew wr #[.int .i64 y.cmp,.int .i64 y.l.k,.int .i64 y.l.v.k,.int .i64 y.l.v.n,.string (strB y.l.v.s),.string (strB y.l.x),.string (strB y.l.f),.slice a1 q1 c1,.int .i64 y.r.k,.int .i64 y.r.v.k,.int .i64 y.r.v.n,.string (strB y.r.v.s),.string (strB y.r.x),.string (strB y.r.f),.slice b1 r1 d1] 52 10 rfl)
     have P11:=hid (tnew wr #[.int .i64 y.cmp,.int .i64 y.l.k,.int .i64 y.l.v.k,.int .i64 y.l.v.n,.string (strB y.l.v.s),.string (strB y.l.x),.string (strB y.l.f),.slice a1 q1 c1,.int .i64 y.r.k,.int .i64 y.r.v.k,.int .i64 y.r.v.n,.string (strB y.r.v.s),.string (strB y.r.x),.string (strB y.r.f),.slice b1 r1 d1] 52 11 rfl)
     have P12:=hid (tnew wr #[.int .i64 y.cmp,.int .i64 y.l.k,.int .i64 y.l.v.k,.int .i64 y.l.v.n,.string (strB y.l.v.s),.string (strB y.l.x),.string (strB y.l.f),.slice a1 q1 c1,.int .i64 y.r.k,.int .i64 y.r.v.k,.int .i64 y.r.v.n,.string (strB y.r.v.s),.string (strB y.r.x),.string (strB y.r.f),.slice b1 r1 d1] 52 12 rfl)
     have P13:=hid (tnew wr #[.int .i64 y.cmp,.int .i64 y.l.k,.int .i64 y.l.v.k,.int .i64 y.l.v.n,.string (strB y.l.v.s),.string (strB y.l.x),.string (strB y.l.f),.slice a1 q1 c1,.int .i64 y.r.k,.int .i64 y.r.v.k,.int .i64 y.r.v.n,.string (strB y.r.v.s),.string (strB y.r.x),.string (strB y.r.f),.slice b1 r1 d1] 52 13 rfl)
     have P14:=hid (tnew wr #[.int .i64 y.cmp,.int .i64 y.l.k,.int .i64 y.l.v.k,.int .i64 y.l.v.n,.string (strB y.l.v.s),.string (strB y.l.x),.string (strB y.l.f),.slice a1 q1 c1,.int .i64 y.r.k,.int .i64 y.r.v.k,.int .i64 y.r.v.n,.string (strB y.r.v.s),.string (strB y.r.x),.string (strB y.r.f),.slice b1 r1 d1] 52 14 rfl)
     clear hr hpb hbp i1 i2 ht1 ht2 hx1 hx2 hq1 hr1 hcell hy
     have HB1:=hid (HBW.out.trans (HBP.out.mono HBW.out.size))
     by_cases f1 : y.cmp < 1
     ·have u1 : decide (y.cmp < 1)=true:=by rw [decide_eq_true_eq];omega
      have hz0 : z=false:=by
       rw [← HZ.out]
       unfold rightQ
       dsimp only
       rw [show (decide (prs.length≤8) && (prs.all rightP && (decide (0≤wi∧wi≤1099511627776) && ((decide (by_=[]) || nameB by_) && decide (1≤pk∧pk≤3)))))=false from by rw [show prs.all rightP=false from List.all_eq_false.2 ⟨y,List.mem_of_getElem? HY.out,by unfold rightP;rw [show decide (1≤y.cmp∧y.cmp≤6)=false from decide_eq_false (by omega)];simp⟩,Bool.false_and,Bool.and_false],Bool.and_false]
      subst hz0
      go_wp2
      go_ret
      exact ⟨rfl,HB1.out⟩
     by_cases f2 : 6 < y.cmp
     ·have u1 : decide (y.cmp < 1)=false:=by rw [decide_eq_false_iff_not];omega
      have u2 : decide (6 < y.cmp)=true:=by rw [decide_eq_true_eq];omega
      have hz0 : z=false:=by
       rw [← HZ.out]
       unfold rightQ
       dsimp only
       rw [show (decide (prs.length≤8) && (prs.all rightP && (decide (0≤wi∧wi≤1099511627776) && ((decide (by_=[]) || nameB by_) && decide (1≤pk∧pk≤3)))))=false from by rw [show prs.all rightP=false from List.all_eq_false.2 ⟨y,List.mem_of_getElem? HY.out,by unfold rightP;rw [show decide (1≤y.cmp∧y.cmp≤6)=false from decide_eq_false (by omega)];simp⟩,Bool.false_and,Bool.and_false],Bool.and_false]
      subst hz0
      go_wp2
      go_ret
      exact ⟨rfl,HB1.out⟩
     have u1 : decide (y.cmp < 1)=false:=by rw [decide_eq_false_iff_not];omega
     have u2 : decide (6 < y.cmp)=false:=by rw [decide_eq_false_iff_not];omega
     cases t1 with
     | false =>
       have hz0 : z=false:=by
        rw [← HZ.out]
        unfold rightQ
        dsimp only
        rw [show (decide (prs.length≤8) && (prs.all rightP && (decide (0≤wi∧wi≤1099511627776) && ((decide (by_=[]) || nameB by_) && decide (1≤pk∧pk≤3)))))=false from by rw [show prs.all rightP=false from List.all_eq_false.2 ⟨y,List.mem_of_getElem? HY.out,by unfold rightP;rw [HT.out.1];simp⟩,Bool.false_and,Bool.and_false],Bool.and_false]
       subst hz0
       go_wp2_with fail
       with_reducible refine I1.out.mono ?_
       rintro e w2 ⟨rfl,hb2⟩
       have HB2:=hid (HB1.out.trans (hb2.mono HB1.out.size))
       clear hb2
       go_wp2
       go_ret
       exact ⟨rfl,HB2.out⟩
     | true =>
       go_wp2_with fail
       with_reducible refine I1.out.mono ?_
       rintro e w2 ⟨rfl,hb2⟩
       have HB2:=hid (HB1.out.trans (hb2.mono HB1.out.size))
       have HA2:=hid ((HA.out.trans (HBP.out.mono HA.out.size)).trans (hb2.mono (Nat.le_trans HA.out.size HBP.out.size)))
       have I3:=hid (I2.out w2 (HBP.out.trans (hb2.mono HBP.out.size)))
       have p8:=tkeep hb2 P8.out
       have p9:=tkeep hb2 P9.out
       have p10:=tkeep hb2 P10.out
       have p11:=tkeep hb2 P11.out
       have p12:=tkeep hb2 P12.out
       have p13:=tkeep hb2 P13.out
       have p14:=tkeep hb2 P14.out
       clear hb2 k0 k1 k2 k3 k4 k5 k6 k7 k8 k9 k10 k11 k12 k13 k14 m0 m1 m2 m3 m4 I1 I2
       cases t2 with
       | false =>
         have hz0 : z=false:=by
          rw [← HZ.out]
          unfold rightQ
          dsimp only
          rw [show (decide (prs.length≤8) && (prs.all rightP && (decide (0≤wi∧wi≤1099511627776) && ((decide (by_=[]) || nameB by_) && decide (1≤pk∧pk≤3)))))=false from by rw [show prs.all rightP=false from List.all_eq_false.2 ⟨y,List.mem_of_getElem? HY.out,by unfold rightP;rw [HT.out.2];simp⟩,Bool.false_and,Bool.and_false],Bool.and_false]
         subst hz0
         go_wp2_with fail
         with_reducible refine I3.out.mono ?_
         rintro e w3 ⟨rfl,hb3⟩
         have HB3:=hid (HB2.out.trans (hb3.mono HB2.out.size))
         clear hb3
         go_wp2
         go_ret
         exact ⟨rfl,HB3.out⟩
       | true =>
         have hw : IntKind.i64.wrap ((j : Int)+1)=((j+1 : Nat) : Int):=by rw [IntWalk.i64_in _ (by omega)];omega
         have HU2 : Hid (∀ (k : Nat) (u : PPr),k < j+1→prs[k]?=some u→rightP u=true):=hid (fun k u hk hu=>by
          by_cases hkj : k < j
          ·exact HU.out k u hkj hu
          ·obtain rfl : k=j:=by omega
           rw [HY.out] at hu
           injection hu with hu
           subst hu
           unfold rightP
           rw [HT.out.1,HT.out.2,decide_eq_true (by omega)]
           rfl)
         go_wp2_with fail
         with_reducible refine I3.out.mono ?_
         rintro e w3 ⟨rfl,hb3⟩
         have HA3:=hid (HA2.out.trans (hb3.mono HA2.out.size))
         clear hb3
         go_wp2
         exact ⟨⟨j+1,rfl,hlt,HU2,HA3⟩,by simp [RowKit.intOf];omega⟩
    ·have hjr : r=j:=by omega
     have hall : prs.all rightP=true:=List.all_eq_true.2 (fun u hu=>by
      obtain ⟨k,hk⟩:=List.getElem?_of_mem hu
      exact HU.out k u (by have:=(List.getElem?_eq_some_iff.1 hk).1;rw [HRr.out] at this;omega) hk)
     have hz0:=HZ.out
     unfold rightQ at hz0
     dsimp only at hz0
     rw [HRI.out,hall,show decide (prs.length≤8)=true from decide_eq_true (by rw [HRr.out];omega),Bool.true_and,Bool.true_and,Bool.true_and] at hz0
     have HNM:=hid (rname_calls' by_ wr HQB.out.2.2)
     clear hall HZ HU
     by_cases g1 : ¬ 0≤wi
     ·have v1 : decide (0≤wi)=false:=by rw [decide_eq_false_iff_not];omega
      rw [show decide (0≤wi∧wi≤1099511627776)=false from decide_eq_false (by omega),Bool.false_and] at hz0
      subst hz0
      go_wp2
      go_ret
      exact ⟨rfl,HBW.out⟩
     have v1 : decide (0≤wi)=true:=decide_eq_true (by omega)
     by_cases g2 : ¬ wi≤1099511627776
     ·have v2 : decide (wi≤1099511627776)=false:=by rw [decide_eq_false_iff_not];omega
      rw [show decide (0≤wi∧wi≤1099511627776)=false from decide_eq_false (by omega),Bool.false_and] at hz0
      subst hz0
      go_wp2
      go_ret
      exact ⟨rfl,HBW.out⟩
     have v2 : decide (wi≤1099511627776)=true:=decide_eq_true (by omega)
     rw [show decide (0≤wi∧wi≤1099511627776)=true from decide_eq_true (by omega),Bool.true_and] at hz0
     obtain ⟨p1,hp1⟩ : ∃ p,decide (1≤pk)=p:=⟨_,rfl⟩
     obtain ⟨p3,hp3⟩ : ∃ p,decide (pk≤3)=p:=⟨_,rfl⟩
     rw [show decide (1≤pk∧pk≤3)=(p1 && p3) by rw [← hp1,← hp3,Bool.decide_and]] at hz0
     by_cases hby : by_=[]
     ·subst hby
      rw [show (decide (([] : List UInt8)=[]) || nameB [])=true by simp,Bool.true_and] at hz0
      subst hz0
      have m3e : wr.cell? ⟨w.heap.size,3,none⟩=some (.string ⟨#[]⟩):=m3
      clear m3
      cases p1 <;> cases p3
      all_goals
       go_wp2
       all_goals
        go_ret
        exact ⟨rfl,HBW.out⟩
     ·have hne : ¬ (strB by_).toList=[]:=strB_ne hby
      have hne2 : (strB by_).toList.isEmpty=false:=by
       rw [Bool.eq_false_iff]
       intro h
       exact hne (List.isEmpty_iff.1 h)
      rw [show decide (by_=[])=false from decide_eq_false hby,Bool.false_or] at hz0
      obtain ⟨nb,hnb⟩ : ∃ n,nameB by_=n:=⟨_,rfl⟩
      rw [hnb] at hz0 HNM
      subst hz0
      clear hnb hby
      cases nb <;> cases p1 <;> cases p3
      all_goals
       go_wp2_with fail
       with_reducible refine HNM.out.mono ?_
       rintro e w5 ⟨rfl,hb5⟩
       have m4':=tkeep hb5 m4
       have HB5:=hid (HBW.out.trans (hb5.mono HBW.out.size))
       clear hb5
       go_wp2
       all_goals
        go_ret
        exact ⟨rfl,HB5.out⟩
end Go.Proofs.Ytefcbgnckgapgaa
namespace Go.Proofs.Ytefcbgnckgapgaa
open Go.RowKit Go.Lib Go.Op
theorem stsN_take1 {l : List PIt} {j : Nat} {s : PSt} (h : (stsN l)[j]?=some s) : (stsN l).take (j+1)=(stsN l).take j++[s]:=by
 rw [List.take_add_one (i:=j),h]
 rfl
section
variable {K : Nat→Prop} {w : World} {a b : Option Addr} {q c r d : Nat} {p : PQu}
set_option maxHeartbeats 1000000 in
set_option maxRecDepth 100000 in
theorem nrcompile_calls (h : QuAt K w a q c b r d p) (hb : QuB p) : Calls Try.prog 14 #[.agg #[.slice a q c,.slice b r d,.int .i64 p.within,.string (strB p.by_),.int .i64 p.pick]] w (CoTo p w):=by
 obtain rfl:=h.1.len
 have hb0:=(Below.refl w.heap.size w).alloc (Nat.le_refl _) (.cells #[.slice a p.its.length c,.slice b r d,.int .i64 p.within,.string (strB p.by_),.int .i64 p.pick] 25)
 have hx:=Blk.new w #[.slice a p.its.length c,.slice b r d,.int .i64 p.within,.string (strB p.by_),.int .i64 p.pick] 25
 have hR:=right_said K (w.alloc (.cells #[.slice a p.its.length c,.slice b r d,.int .i64 p.within,.string (strB p.by_),.int .i64 p.pick] 25)) a b p.its.length c r d p ⟨h.1.low hb0,h.2.low hb0⟩ hb
 obtain ⟨z,hz⟩ : ∃ z,rightQ p=z:=⟨_,rfl⟩
 rw [hz] at hR
 have HR:=hid hR
 have HZ:=hid hz
 have HI:=hid h.1
 have HB0:=hid hb0
 have HX:=hid hx
 obtain ⟨l,hl⟩ : ∃ l,p.its=l:=⟨_,rfl⟩
 have HL:=hid hl
 rw [hl] at HR HI HX HB0 ⊢
 obtain ⟨q,hq⟩ : ∃ q,l.length=q:=⟨_,rfl⟩
 have HQ:=hid hq
 rw [hq] at HR HX HB0 ⊢
 clear h hb hb0 hx hR hz hl hq
 cases z with
 | false =>
   have m0:=tcell HX.out (k:=0) rfl
   have m1:=tcell HX.out (k:=1) rfl
   have m2:=tcell HX.out (k:=2) rfl
   have m3:=tcell HX.out (k:=3) rfl
   have m4:=tcell HX.out (k:=4) rfl
   go_enter Try.func14,Try.ntmps14
   go_wp2_with fail
   with_reducible refine HR.out.mono ?_
   rintro e w1 ⟨rfl,hb1⟩
   have HB1:=hid (HB0.out.trans (hb1.mono HB0.out.size))
   clear hb1
   go_wp2
   go_ret
   exact CoTo.no HZ.out HB1.out
 | true =>
   obtain ⟨x0,rr,hi0,hno0,hm0,hlen6⟩:=rightQ_first HZ.out
   rw [HL.out,HQ.out] at hlen6
   have m0:=tcell HX.out (k:=0) rfl
   have m1:=tcell HX.out (k:=1) rfl
   have m2:=tcell HX.out (k:=2) rfl
   have m3:=tcell HX.out (k:=3) rfl
   have m4:=tcell HX.out (k:=4) rfl
   clear hi0 hno0 hm0
   go_enter Try.func14,Try.ntmps14
   go_wp2_with fail
   with_reducible refine HR.out.mono ?_
   rintro e w1 ⟨rfl,hb1⟩
   have HB1:=hid hb1
   clear hb1 m0 m1 m2 m3 m4
   go_wp2
   go_loopw [3,4] (fun v k wr=>∃ j : Nat,k=.int .i64 ((j : Int) - 1)∧j≤q+1∧Hid (OwnP stateD wr (w.alloc (.cells #[.slice a q c,.slice b r d,.int .i64 p.within,.string (strB p.by_),.int .i64 p.pick] 25)).heap.size 36 v ((stsN l).take j))∧Hid (Below (w.alloc (.cells #[.slice a q c,.slice b r d,.int .i64 p.within,.string (strB p.by_),.int .i64 p.pick] 25)).heap.size (w.alloc (.cells #[.slice a q c,.slice b r d,.int .i64 p.within,.string (strB p.by_),.int .i64 p.pick] 25)) wr)) (fun _ k _=>q+1 - (RowKit.intOf k+1).toNat)
   case atStart=>exact ⟨0,rfl,Nat.zero_le _,⟨[],rfl,World.ownsRow_nil _ _ _ _,fun c hc=>(by cases hc),fun j x hj=>(by simp at hj)⟩,HB1⟩
   case round =>
    obtain ⟨j,rfl,hj,HO,HB⟩:=hrel
    have hxr:=HX.out.low HB.out
    have m0:=tcell hxr (k:=0) rfl
    have m1:=tcell hxr (k:=1) rfl
    have m2:=tcell hxr (k:=2) rfl
    have m3:=tcell hxr (k:=3) rfl
    have m4:=tcell hxr (k:=4) rfl
    clear hxr
    obtain ⟨va,vc,rfl⟩:=HO.out.slice
    have hw : IntKind.i64.wrap ((j : Int) - 1+1)=((j+1 : Nat) : Int) - 1:=by rw [IntWalk.i64_in _ (by omega)];omega
    have hw2 : IntKind.i64.wrap (j : Int)=((j+1 : Nat) : Int) - 1:=by rw [IntWalk.i64_in _ (by omega)];omega
    by_cases hlt : j < q+1
    ·have hsj : ∃ s,(stsN l)[j]?=some s∧Calls Try.prog 24 #[.agg #[.slice a q c,.slice b r d,.int .i64 p.within,.string (strB p.by_),.int .i64 p.pick],.int .i64 ((j : Int) - 1)] wr (StTo s wr):=by
      cases j with
      | zero=>exact ⟨st0,rfl,nrstate_first⟩
      | succ k =>
        obtain ⟨y,hy⟩ : ∃ y,l[k]?=some y:=⟨_,List.getElem?_eq_getElem (by rw [HQ.out];omega)⟩
        refine ⟨_,stsN_at hy,?_⟩
        rw [show ((k+1 : Nat) : Int) - 1=(k : Int) by omega]
        exact nrstate_calls (K:=K) ((HI.out.low HB0.out).low HB.out) (by rw [HQ.out];exact hlen6) hy HQ.out.symm
     obtain ⟨s,hs,hst⟩:=hsj
     have HBH:=hid hst
     obtain ⟨m,hm⟩ : ∃ m,((stsN l).take j).length=m:=⟨_,rfl⟩
     have hm2 : m≤7:=by rw [← hm,List.length_take,stsN_len,HQ.out];omega
     have HAP : Hid (∀ w1 cs,stateD.P (· < wr.heap.size) w1 cs s→Below wr.heap.size wr w1→∃ a9 c9 w9,(Builtin.append_ #[31,31] 31 #[.slice va m vc,.slice (some ⟨w1.heap.size,0,none⟩) 1 1]).run Try.prog (w1.alloc (.cells cs.toArray 36))=.ok (.slice a9 (m+1) c9) w9∧Hid (OwnP stateD w9 (w.alloc (.cells #[.slice a q c,.slice b r d,.int .i64 p.within,.string (strB p.by_),.int .i64 p.pick] 25)).heap.size 36 (.slice a9 (m+1) c9) ((stsN l).take (j+1)))∧Hid (Below (w.alloc (.cells #[.slice a q c,.slice b r d,.int .i64 p.within,.string (strB p.by_),.int .i64 p.pick] 25)).heap.size (w.alloc (.cells #[.slice a q c,.slice b r d,.int .i64 p.within,.string (strB p.by_),.int .i64 p.pick] 25)) w9)):=fun w1 cs hs1 hb=>by
      have h:=HO.out.state HB.out (by rw [hm];omega) hs1 hb
      rw [hm,← stsN_take1 hs] at h
      exact h
     rw [hm] at HO ⊢
     have hlt2 : decide ((j : Int) - 1 < (q : Int))=true:=decide_eq_true (by omega)
     clear hst hm hs
     go_wp2_with (first
      | (go_at_call 24;(with_reducible refine HBH.out.mono ?_);rintro e w5 ⟨a5,c5,b5,d5,rfl,hs5,hb5⟩;obtain ⟨a9,c9,w9,hr9,O9,B9⟩:=HAP.out w5 _ hs5 hb5;clear hs5 hb5)
      | (at_builtin;refine Lib.wpList_append_run _ rfl _ _ _ _ rfl _ _ rfl rfl _ _ hr9 ?_;clear hr9))
     refine ⟨⟨j+1,by go_num,by omega,O9,B9⟩,?_⟩
     simp [RowKit.intOf]
     omega
    ·have hjq : j=q+1:=by omega
     subst hjq
     have hall : (stsN l).take (q+1)=stsN l:=by rw [← HQ.out,← stsN_len,List.take_length]
     have ho:=HO.out
     rw [hall] at ho
     have HRW:=hid ho.row
     have hlt2 : decide (((q+1 : Nat) : Int) - 1 < (q : Int))=false:=decide_eq_false (by omega)
     clear ho
     go_wp2
     go_ret
     refine ⟨_,rfl,?_,HB0.out.trans (HB.out.mono HB0.out.size)⟩
     rw [HZ.out,if_pos rfl,HL.out]
     show RowK stateD _ _ (.slice va ((stsN l).take (q+1)).length vc) _
     rw [hall]
     exact HRW.out.mono (fun g hg=>Nat.lt_of_lt_of_le hg HB0.out.size)
end
end Go.Proofs.Ytefcbgnckgapgaa
namespace Go.Proofs.Ytefcbgnckgapgaa
open Go.RowKit Go.Lib Go.Op
set_option maxHeartbeats 1000000 in
set_option maxRecDepth 100000 in
theorem nrhas_calls {K : Nat→Prop} {w : World} {a : Option Addr} {c : Nat} {l : List (List UInt8)} (h : RowK nameD K w (.slice a l.length c) l) (hl : l.length≤140737488355328) (no : Bool) (xs : ByteArray) (md : Int) (x : List UInt8) :
 Calls Try.prog 18 #[.agg #[.bool no,.slice a l.length c,.string xs,.int .i64 md],.string (strB x)] w fun e w'=>e=.returned (.bool (decide (x∈l)))∧Below w.heap.size w w':=by
 have H:=hid h
 obtain ⟨q,hq⟩ : ∃ q,l.length=q:=⟨_,rfl⟩
 have HQ:=hid hq
 rw [hq] at hl ⊢
 have hb0:=(Below.refl w.heap.size w).alloc (Nat.le_refl _) (.cells #[.bool no,.slice a q c,.string xs,.int .i64 md] 38)
 have HB0:=hid hb0
 have HX:=hid (Blk.new w #[.bool no,.slice a q c,.string xs,.int .i64 md] 38)
 have HS0 : Hid (Below (w.alloc (.cells #[.bool no,.slice a q c,.string xs,.int .i64 md] 38)).heap.size (w.alloc (.cells #[.bool no,.slice a q c,.string xs,.int .i64 md] 38)) (w.alloc (.cells #[.bool no,.slice a q c,.string xs,.int .i64 md] 38))):=Below.refl _ _
 obtain ⟨z,hz⟩ : ∃ z,decide (x∈l)=z:=⟨_,rfl⟩
 have HZ:=hid hz
 rw [hz]
 clear h hq hb0 hz
 go_enter Try.func18,Try.ntmps18
 go_wp2
 go_loopw [5] (fun i wr=>∃ j : Nat,i=.int .i64 j∧j≤q∧Hid (x ∉ l.take j)∧Hid (Below (w.alloc (.cells #[.bool no,.slice a q c,.string xs,.int .i64 md] 38)).heap.size (w.alloc (.cells #[.bool no,.slice a q c,.string xs,.int .i64 md] 38)) wr)) (fun i _=>q - (RowKit.intOf i).toNat)
 case atStart=>exact ⟨0,rfl,Nat.zero_le _,by show x ∉ _;simp,HS0⟩
 case round =>
  obtain ⟨j,rfl,hj,HN,HB⟩:=hrel
  have m1:=tcell (HX.out.low HB.out) (k:=1) rfl
  have HBw:=hid (HB0.out.trans (HB.out.mono HB0.out.size))
  by_cases hlt : j < q
  ·obtain ⟨y,hy⟩ : ∃ y,l[j]?=some y:=⟨_,List.getElem?_eq_getElem (by rw [HQ.out];exact hlt)⟩
   obtain ⟨g,o,rfl,hc⟩:=RowK.nameAt (H.out.low HBw.out) hy
   have hw : IntKind.i64.wrap ((j : Int)+1)=((j+1 : Nat) : Int):=by rw [IntWalk.i64_in _ (by omega)];omega
   by_cases hv : y=x
   ·subst hv
    have t0 : ((strB y).toList == (strB y).toList)=true:=by simp
    obtain rfl : z=true:=HZ.out.symm.trans (decide_eq_true (List.mem_of_getElem? hy))
    clear hy
    go_wp2
    go_ret
    exact ⟨rfl,HBw.out⟩
   ·have t0 : ((strB y).toList == (strB x).toList)=false:=by rw [tB_list,tB_list,beq_eq_false_iff_ne];exact hv
    have HN2 : Hid (x ∉ l.take (j+1)):=by
     show x ∉ _
     rw [List.take_add_one,hy]
     intro hm
     rcases List.mem_append.1 hm with hm|hm
     ·exact HN.out hm
     ·exact hv (by have:=hm;simp at this;exact this.symm)
    clear hy hv
    go_wp2
    exact ⟨⟨j+1,by go_num,by omega,HN2,HB⟩,by simp [RowKit.intOf];omega⟩
  ·have hjq : j=l.length:=by rw [HQ.out];omega
   have hno : x ∉ l:=by
    have:=HN.out
    rw [hjq,List.take_length] at this
    exact this
   obtain rfl : z=false:=HZ.out.symm.trans (decide_eq_false hno)
   clear hno hjq
   go_wp2
   go_ret
   exact ⟨rfl,HBw.out⟩
set_option maxHeartbeats 1000000 in
set_option maxRecDepth 100000 in
theorem nrsameInts_calls {K : Nat→Prop} {w : World} {a b : Option Addr} {c d : Nat} {l : List Nat} (h : RowK numD K w (.slice a l.length c) l) (h2 : RowK numD K w (.slice b l.length d) l) (hl : l.length≤1000) :
 Calls Try.prog 20 #[.slice a l.length c,.slice b l.length d] w fun e w'=>e=.returned (.bool true)∧Below w.heap.size w w':=by
 have H:=hid h
 have H2:=hid h2
 obtain ⟨q,hq⟩ : ∃ q,l.length=q:=⟨_,rfl⟩
 have HQ:=hid hq
 rw [hq] at hl ⊢
 have t1 : ((q : Int) != (q : Int))=false:=by simp
 have HS0 : Hid (Below w.heap.size w w):=Below.refl _ _
 clear h h2 hq
 go_enter Try.func20,Try.ntmps20
 go_wp2
 go_loopw [5] (fun i wr=>∃ j : Nat,i=.int .i64 j∧j≤q∧Hid (Below w.heap.size w wr)) (fun i _=>q - (RowKit.intOf i).toNat)
 case atStart=>exact ⟨0,rfl,Nat.zero_le _,HS0⟩
 case round =>
  obtain ⟨j,rfl,hj,HB⟩:=hrel
  by_cases hlt : j < q
  ·obtain ⟨y,hy⟩ : ∃ y,l[j]?=some y:=⟨_,List.getElem?_eq_getElem (by rw [HQ.out];exact hlt)⟩
   obtain ⟨g,o,rfl,hc⟩:=RowK.numAt (H.out.low HB.out) hy
   obtain ⟨g2,o2,rfl,hc2⟩:=RowK.numAt (H2.out.low HB.out) hy
   have t0 : ((y : Int) != (y : Int))=false:=by simp
   have hw : IntKind.i64.wrap ((j : Int)+1)=((j+1 : Nat) : Int):=by rw [IntWalk.i64_in _ (by omega)];omega
   clear hy t1
   go_wp2_with fail
   go_quiet (fail)
   have HB9:=hid (below_drewN HB.out nq)
   go_wp2
   exact ⟨⟨j+1,rfl,hlt,HB9⟩,by simp [RowKit.intOf];omega⟩
  ·have hjq : j=q:=by omega
   clear t1
   go_wp2
   go_ret
   exact ⟨rfl,HB.out⟩
def greatN : List (List UInt8)→Nat→Nat
 | [],n=>n
 | x :: r,n=>if n < 3000 then greatN r (n+min x.length 3000) else n
theorem greatN_end {l : List (List UInt8)} {j : Nat} (h : l.length≤j) (n : Nat) : greatN (l.drop j) n=n:=by
 rw [List.drop_eq_nil_of_le h]
 rfl
theorem greatN_stop (l : List (List UInt8)) {n : Nat} (h : ¬ n < 3000) : greatN l n=n:=by
 cases l with
 | nil=>rfl
 | cons x r=>unfold greatN;rw [if_neg h]
theorem greatN_at {l : List (List UInt8)} {j : Nat} {y : List UInt8} (h : l[j]?=some y) {n : Nat} (hn : n < 3000) : greatN (l.drop j) n=greatN (l.drop (j+1)) (n+min y.length 3000):=by
 obtain ⟨hj,rfl⟩:=List.getElem?_eq_some_iff.1 h
 rw [List.drop_eq_getElem_cons hj]
 conv=>lhs;unfold greatN
 rw [if_pos hn]
theorem greatN_le : ∀ (l : List (List UInt8)) (n : Nat),n≤greatN l n
 | [],n=>Nat.le_refl _
 | x :: r,n=>by
   unfold greatN
   split
   ·exact Nat.le_trans (Nat.le_add_right _ _) (greatN_le r _)
   ·exact Nat.le_refl _
theorem greatN_small {l : List (List UInt8)} {n : Nat} (h : greatN l n < 3000) : ∀ x∈l,x.length < 3000:=by
 induction l generalizing n with
 | nil=>intro x hx;cases hx
 | cons y r ih =>
   unfold greatN at h
   by_cases hn : n < 3000
   ·rw [if_pos hn] at h
    intro x hx
    rcases List.mem_cons.1 hx with rfl|hx
    ·have:=greatN_le r (n+min x.length 3000)
     omega
    ·exact ih h x hx
   ·rw [if_neg hn] at h
    omega
set_option maxHeartbeats 1000000 in
set_option maxRecDepth 100000 in
theorem ngreat_calls {K : Nat→Prop} {w : World} {a : Option Addr} {c : Nat} {l : List (List UInt8)} (h : RowK nameD K w (.slice a l.length c) l) (hl : l.length≤140737488355328) (hb : ∀ x∈l,x.length≤maxLen) :
 Calls Try.prog 11 #[.slice a l.length c] w fun e w'=>e=.returned (.bool (decide (3000≤greatN l l.length)))∧Below w.heap.size w w':=by
 have H:=hid h
 have HBD:=hid hb
 obtain ⟨z,hz⟩ : ∃ z,decide (3000≤greatN l l.length)=z:=⟨_,rfl⟩
 have HZ:=hid hz
 rw [hz]
 obtain ⟨q,hq⟩ : ∃ q,l.length=q:=⟨_,rfl⟩
 have HQ:=hid hq
 rw [hq] at hl ⊢
 have HS0 : Hid (Below w.heap.size w w):=Below.refl _ _
 clear h hq hb hz
 go_enter Try.func11,Try.ntmps11
 go_wp2
 go_loopw [3,4] (fun s i wr=>∃ (j n : Nat),i=.int .i64 j∧j≤q∧s=.int .i64 n∧n≤q+6000∧Hid (greatN l l.length=greatN (l.drop j) n)∧Hid (Below w.heap.size w wr)) (fun _ i _=>q - (RowKit.intOf i).toNat)
 case atStart=>exact ⟨0,q,rfl,Nat.zero_le _,rfl,by omega,by show _=_;rw [HQ.out];rfl,HS0⟩
 case round =>
  obtain ⟨j,n,rfl,hj,rfl,hn,HG,HB⟩:=hrel
  by_cases hlt : j < q
  ·by_cases h3 : n < 3000
   ·obtain ⟨y,hy⟩ : ∃ y,l[j]?=some y:=⟨_,List.getElem?_eq_getElem (by rw [HQ.out];exact hlt)⟩
    obtain ⟨g,o,rfl,hc⟩:=RowK.nameAt (H.out.low HB.out) hy
    have HG2 : Hid (greatN l l.length=greatN (l.drop (j+1)) (n+min y.length 3000)):=HG.out.trans (greatN_at hy h3)
    have hyl:=HBD.out y (List.mem_of_getElem? hy)
    unfold maxLen at hyl
    have hsz:=strB_size y
    obtain ⟨sb,hsb⟩ : ∃ sb,strB y=sb:=⟨_,rfl⟩
    rw [hsb] at hc hsz
    obtain ⟨yl,hyl2⟩ : ∃ yl,y.length=yl:=⟨_,rfl⟩
    rw [hyl2] at HG2 hyl hsz
    have hw : IntKind.i64.wrap ((j : Int)+1)=((j+1 : Nat) : Int):=by rw [IntWalk.i64_in _ (by omega)];omega
    clear hy hsb hyl2
    go_wp2
    exact ⟨⟨j+1,n+min yl 3000,by go_num,by omega,by rw [show ((n+min yl 3000 : Nat) : Int)=(n : Int)+min (yl : Int) 3000 by omega],by omega,HG2,HB⟩,by simp [RowKit.intOf];omega⟩
   ·obtain rfl : z=true:=HZ.out.symm.trans (decide_eq_true (by rw [HG.out,greatN_stop _ h3];omega))
    have t0 : decide ((n : Int) < 3000)=false:=decide_eq_false (by omega)
    have t1 : decide ((3000 : Int)≤n)=true:=decide_eq_true (by omega)
    clear h3
    go_wp2
    go_ret
    exact ⟨rfl,HB.out⟩
  ·have hz : z=decide (3000≤n):=by rw [← HZ.out,HG.out,greatN_end (by rw [HQ.out];omega)]
   by_cases h3 : 3000≤n
   ·obtain rfl : z=true:=hz.trans (decide_eq_true h3)
    have t1 : decide ((3000 : Int)≤n)=true:=decide_eq_true (by omega)
    clear hz h3
    go_wp2
    go_ret
    exact ⟨rfl,HB.out⟩
   ·obtain rfl : z=false:=hz.trans (decide_eq_false h3)
    have t1 : decide ((3000 : Int)≤n)=false:=decide_eq_false (by omega)
    clear hz h3
    go_wp2
    go_ret
    exact ⟨rfl,HB.out⟩
end Go.Proofs.Ytefcbgnckgapgaa
