/- Rows of names that are accepted: what the statements say, in plain words. | All states of a query: the program's. | The places to which ways go on when a name comes: the program's. | Whether names are accepted: the program's. -/
import Derived.Test.YtefcbgnckgapgaaM0
import Derived.Test.YtefcbgnckgapgaaM6
import Derived.Deep.QuietTactic
import Derived.WalkMore
namespace Go.Proofs.Ytefcbgnckgapgaa
open Go.Lib
theorem accGo_mono {f g : Option PIt→List PIt→Bool} {name : List UInt8} : ∀ {r : List PIt},(∀ x r',(x :: r') <:+ r→f (plusO x) r'=true→g (plusO x) r'=true)→accGo f name r=true→accGo g name r=true
 | [],_,h=>by simp [accGo] at h
 | x :: r,hm,h=>by
   have hm' : ∀ y r',(y :: r') <:+ r→f (plusO y) r'=true→g (plusO y) r'=true:=fun y r' hs=>hm y r' (hs.trans (List.suffix_cons x r))
   unfold accGo at h ⊢
   split
   ·rename_i hn
    rw [if_pos hn] at h
    exact accGo_mono hm' h
   ·rename_i hn
    rw [if_neg hn] at h
    simp only [Bool.or_eq_true,Bool.and_eq_true] at h ⊢
    rcases h with ⟨h1,h2⟩|⟨h1,h2⟩
    ·exact .inl ⟨h1,hm x r (List.suffix_refl _) h2⟩
    ·exact .inr ⟨h1,accGo_mono hm' h2⟩
def fitsN : List PIt→List (List UInt8)→Bool
 | [],[]=>true
 | x :: r,name :: ns=>decide (name∈x.ns) && fitsN r ns
 | _,_=>false
theorem accR_plain : ∀ {ns : List (List UInt8)} {r : List PIt},(∀ x∈r,x.no=false∧x.mode=1)→accR ns none r=fitsN r ns
 | [],r,h=>by
   unfold accR
   cases r with
   | nil=>rfl
   | cons x r =>
     have:=h x List.mem_cons_self
     simp [fitsN,this.1,this.2]
 | name :: ns,[],_=>by simp [accR,accGo,fitsN]
 | name :: ns,x :: r,h=>by
   have hx:=h x List.mem_cons_self
   have ih:=accR_plain (ns:=ns) (r:=r) (fun y hy=>h y (List.mem_cons_of_mem _ hy))
   have hp : plusO x=none:=by unfold plusO;rw [if_neg (by rw [hx.2];decide)]
   unfold accR accGo fitsN
   simp [hx.1,hx.2,hp,ih]
theorem accQ_plain {l : List PIt} (h : ∀ x∈l,x.no=false∧x.mode=1) (h0 : l≠[]) (ns : List (List UInt8)) : accQ l ns=fitsN l ns:=by
 cases l with
 | nil=>exact absurd rfl h0
 | cons x r =>
   have hx:=h x List.mem_cons_self
   have hp : plusO x=none:=by unfold plusO;rw [if_neg (by rw [hx.2];decide)]
   cases ns with
   | nil=>rfl
   | cons name ns =>
     rw [accQ_cons]
     unfold fitsN
     rw [hp,accR_plain (fun y hy=>h y (List.mem_cons_of_mem _ hy))]
theorem fitsN_iff : ∀ {l : List PIt} {ns : List (List UInt8)},fitsN l ns=true ↔ ns.length=l.length∧∀ (i : Nat) (x : PIt),l[i]?=some x→∃ name : List UInt8,ns[i]?=some name∧name∈x.ns
 | [],[]=>by simp [fitsN]
 | [],name :: ns=>by simp [fitsN]
 | x :: r,[]=>by simp [fitsN]
 | x :: r,name :: ns=>by
   unfold fitsN
   rw [Bool.and_eq_true,decide_eq_true_eq,fitsN_iff]
   constructor
   ·rintro ⟨h1,h2,h3⟩
    refine ⟨by simp [h2],fun i y hy=>?_⟩
    cases i with
    | zero =>
      obtain rfl : x=y:=by simpa using hy
      exact ⟨name,rfl,h1⟩
    | succ i=>exact h3 i y (by simpa using hy)
   ·rintro ⟨h1,h2⟩
    refine ⟨?_,by simpa using h1,fun i y hy=>h2 (i+1) y (by simpa using hy)⟩
    obtain ⟨nm,h3,h4⟩:=h2 0 x rfl
    obtain rfl : name=nm:=by simpa using h3
    exact h4
theorem accR_plus {y : PIt} (hy : y.mode=2) (hn : y.no=false) {a : List UInt8} (ha : a∈y.ns) : ∀ {ns : List (List UInt8)} {p : Option PIt} {r : List PIt},(r=[]∧p=some y∨∃ r',r=r'++[y])→accR ns p r=true→accR (ns++[a]) p r=true
 | [],p,r,hi,h=>by
   rcases hi with ⟨rfl,rfl⟩|⟨r',rfl⟩
   ·simp [accR,accGo,ha]
   ·simp [accR,hn,hy] at h
 | name :: ns,p,r,hi,h=>by
   have hgo : ∀ x r',(x :: r') <:+ r→accR ns (plusO x) r'=true→accR (ns++[a]) (plusO x) r'=true:=fun x r' hs h1=>by
    refine accR_plus hy hn ha ?_ h1
    rcases hi with ⟨rfl,_⟩|⟨r0,rfl⟩
    ·simp at hs
    ·obtain ⟨A,hA⟩:=hs
     rcases List.eq_nil_or_concat r' with rfl|⟨L,b,rfl⟩
     ·have e:=congrArg List.getLast? hA
      simp at e
      subst e
      exact .inl ⟨rfl,by unfold plusO;rw [if_pos hy]⟩
     ·have e:=congrArg List.getLast? hA
      rw [List.concat_eq_append,← List.cons_append] at e
      rw [← List.append_assoc] at e
      simp only [List.getLast?_append,List.getLast?_singleton,Option.some_or,Option.some.injEq] at e
      subst e
      exact .inr ⟨L,by simp⟩
   rw [List.cons_append]
   unfold accR at h ⊢
   rw [Bool.or_eq_true] at h ⊢
   rcases h with h|h
   ·left
    cases p with
    | none=>simp at h
    | some z =>
      simp only [Bool.and_eq_true] at h ⊢
      exact ⟨h.1,accR_plus hy hn ha hi h.2⟩
   ·exact .inr (accGo_mono hgo h)
theorem accQ_plus {l : List PIt} {y : PIt} (hl : l.getLast?=some y) (hy : y.mode=2) (hn : y.no=false) {a : List UInt8} (ha : a∈y.ns) {ns : List (List UInt8)} (h : accQ l ns=true) : accQ l (ns++[a])=true:=by
 cases l with
 | nil=>simp [accQ] at h
 | cons x r =>
   cases ns with
   | nil=>simp [accQ] at h
   | cons name ns =>
     rw [List.cons_append]
     rw [accQ_cons,Bool.and_eq_true] at h ⊢
     refine ⟨h.1,accR_plus hy hn ha ?_ h.2⟩
     rcases List.eq_nil_or_concat r with rfl|⟨L,b,rfl⟩
     ·simp at hl
      subst hl
      exact .inl ⟨rfl,by unfold plusO;rw [if_pos hy]⟩
     ·have hb : b=y:=by simpa [List.getLast?_cons] using hl
      subst hb
      exact .inr ⟨L,by simp⟩
theorem accGo_tail {f : Option PIt→List PIt→Bool} {z : PIt} (hz : z.mode=3) (hn : z.no=false) {a : List UInt8} (ha : a∈z.ns) (hf : f none []=true) : ∀ {r : List PIt},(r.all fun x=>x.no || decide (x.mode=3))=true→accGo f a (r++[z])=true
 | [],_=>by
   have hp : plusO z=none:=by unfold plusO;rw [if_neg (by rw [hz];decide)]
   simp [accGo,hn,ha,hp,hf]
 | x :: r,h=>by
   simp only [List.all_cons,Bool.and_eq_true] at h
   have ih:=accGo_tail (f:=f) hz hn ha hf h.2
   rw [List.cons_append]
   unfold accGo
   split
   ·exact ih
   ·rename_i hx
    have h3 : decide (x.mode=3)=true:=by
     have:=h.1
     simpa [hx] using this
    simp [h3,ih]
theorem accGo_app {f g : Option PIt→List PIt→Bool} {z : PIt} {name : List UInt8} (hm : ∀ p r,f p r=true→g p (r++[z])=true) : ∀ {r : List PIt},accGo f name r=true→accGo g name (r++[z])=true
 | [],h=>by simp [accGo] at h
 | x :: r,h=>by
   rw [List.cons_append]
   unfold accGo at h ⊢
   split
   ·rename_i hn
    rw [if_pos hn] at h
    exact accGo_app hm h
   ·rename_i hn
    rw [if_neg hn] at h
    simp only [Bool.or_eq_true,Bool.and_eq_true] at h ⊢
    rcases h with ⟨h1,h2⟩|⟨h1,h2⟩
    ·exact .inl ⟨h1,hm _ _ h2⟩
    ·exact .inr ⟨h1,accGo_app hm h2⟩
theorem accR_opt {z : PIt} (hz : z.mode=3) (hn : z.no=false) {a : List UInt8} (ha : a∈z.ns) : ∀ {ns : List (List UInt8)} {p : Option PIt} {r : List PIt},accR ns p r=true→accR ns p (r++[z])=true∧accR (ns++[a]) p (r++[z])=true
 | [],p,r,h=>by
   unfold accR at h
   constructor
   ·unfold accR
    rw [List.all_append,h]
    simp [hz]
   ·rw [List.nil_append]
    unfold accR
    rw [Bool.or_eq_true]
    exact .inr (accGo_tail hz hn ha (by simp [accR]) h)
 | name :: ns,p,r,h=>by
   have hgo:=fun (p : Option PIt) (r : List PIt) (h1 : accR ns p r=true)=>accR_opt hz hn ha h1
   rw [List.cons_append]
   unfold accR at h ⊢
   rw [Bool.or_eq_true] at h
   rw [Bool.or_eq_true,Bool.or_eq_true]
   rcases h with h|h
   ·cases p with
    | none=>simp at h
    | some x =>
      simp only [Bool.and_eq_true] at h ⊢
      exact ⟨.inl ⟨h.1,(hgo _ _ h.2).1⟩,.inl ⟨h.1,(hgo _ _ h.2).2⟩⟩
   ·exact ⟨.inr (accGo_app (fun p r h1=>(hgo p r h1).1) h),.inr (accGo_app (fun p r h1=>(hgo p r h1).2) h)⟩
theorem accQ_opt {z : PIt} (hz : z.mode=3) (hn : z.no=false) {a : List UInt8} (ha : a∈z.ns) {l : List PIt} {ns : List (List UInt8)} (h : accQ l ns=true) : accQ (l++[z]) ns=true∧accQ (l++[z]) (ns++[a])=true:=by
 cases l with
 | nil=>simp [accQ] at h
 | cons x r =>
   cases ns with
   | nil=>simp [accQ] at h
   | cons name ns =>
     rw [List.cons_append,List.cons_append,accQ_cons,accQ_cons]
     rw [accQ_cons,Bool.and_eq_true] at h
     have:=accR_opt hz hn ha h.2
     rw [this.1,this.2,h.1]
     exact ⟨rfl,rfl⟩
def noNots (l : List PIt) : List PIt:=l.filter (fun x=>!x.no)
theorem accGo_nots {f : Option PIt→List PIt→Bool} {name : List UInt8} (hf : ∀ p r,f p (noNots r)=f p r) : ∀ r : List PIt,accGo f name (noNots r)=accGo f name r
 | []=>rfl
 | x :: r=>by
   have ih:=accGo_nots (name:=name) hf r
   unfold noNots at ih hf ⊢
   rw [List.filter_cons]
   cases hx : x.no with
   | true =>
     rw [if_neg (by simp)]
     rw [ih]
     conv=>rhs;unfold accGo
     rw [if_pos hx]
   | false =>
     rw [if_pos (by simp)]
     unfold accGo
     rw [hx,ih,hf]
theorem accR_nots : ∀ (ns : List (List UInt8)) (p : Option PIt) (r : List PIt),accR ns p (noNots r)=accR ns p r
 | [],p,r=>by
   unfold accR noNots
   induction r with
   | nil=>rfl
   | cons x r ih =>
     rw [List.filter_cons]
     cases hx : x.no with
     | true =>
       rw [if_neg (by simp),List.all_cons,hx,ih]
       simp
     | false =>
       rw [if_pos (by simp),List.all_cons,List.all_cons,ih]
 | name :: ns,p,r=>by
   unfold accR
   rw [accGo_nots (fun p r=>accR_nots ns p r) r]
   cases p with
   | none=>rfl
   | some x=>simp only [accR_nots ns]
theorem accQ_nots {x : PIt} {r : List PIt} (hx : x.no=false) (ns : List (List UInt8)) : accQ (noNots (x :: r)) ns=accQ (x :: r) ns:=by
 have e : noNots (x :: r)=x :: noNots r:=by
  unfold noNots
  rw [List.filter_cons,hx]
  rfl
 rw [e]
 cases ns with
 | nil=>rfl
 | cons name ns =>
   rw [accQ_cons,accQ_cons,accR_nots]
theorem accGo_out {f : Option PIt→List PIt→Bool} {name : List UInt8} {x : PIt} {B : List PIt} (hx : x.mode=3) (hn : x.no=false) (ha : name ∉ x.ns) (hf : ∀ p A,f p (A++x :: B)=f p (A++B)) : ∀ A : List PIt,accGo f name (A++x :: B)=accGo f name (A++B)
 | []=>by
   rw [List.nil_append,List.nil_append]
   conv=>lhs;unfold accGo
   simp [hn,hx,ha]
 | y :: A=>by
   have ih:=accGo_out hx hn ha hf A
   rw [List.cons_append,List.cons_append]
   unfold accGo
   rw [ih,hf]
theorem accR_out {x : PIt} {B : List PIt} (hx : x.mode=3) (hn : x.no=false) : ∀ {ns : List (List UInt8)},(∀ a∈ns,a ∉ x.ns)→∀ (p : Option PIt) (A : List PIt),accR ns p (A++x :: B)=accR ns p (A++B)
 | [],_,p,A=>by
   unfold accR
   simp [hx]
 | name :: ns,h,p,A=>by
   have ih:=accR_out hx hn (B:=B) (ns:=ns) (fun a ha=>h a (List.mem_cons_of_mem _ ha))
   unfold accR
   rw [accGo_out hx hn (h name List.mem_cons_self) ih A]
   cases p with
   | none=>rfl
   | some y=>simp only [ih]
theorem accQ_out {y x : PIt} {A B : List PIt} (hx : x.mode=3) (hn : x.no=false) {ns : List (List UInt8)} (h : ∀ a∈ns,a ∉ x.ns) : accQ (y :: A++B) ns=accQ (y :: A++x :: B) ns:=by
 cases ns with
 | nil=>rfl
 | cons name ns =>
   rw [List.cons_append,List.cons_append,accQ_cons,accQ_cons]
   rw [accR_out hx hn (fun a ha=>h a (List.mem_cons_of_mem _ ha))]
theorem rightIs_cons {x : PIt} {r : List PIt} : rightIs (x :: r)=true ↔ r.length≤5∧x.no=false∧x.mode≠3∧(∀ y∈x :: r,rightI y=true)∧(∀ y∈x :: r,nameB y.x=true)∧((x :: r).map (·.x)).Nodup:=by
 unfold rightIs unlikeB
 simp only [Bool.and_eq_true,Bool.not_eq_true',Bool.or_eq_false_iff,decide_eq_false_iff_not,List.all_eq_true,decide_eq_true_eq,List.length_cons,List.mem_map,forall_exists_index,and_imp,forall_apply_eq_imp_iff₂]
 constructor
 ·rintro ⟨⟨h1,h2,h3⟩,h4,h5,h6⟩
  exact ⟨by omega,h2,h3,h4,h5,h6⟩
 ·rintro ⟨h1,h2,h3,h4,h5,h6⟩
  exact ⟨⟨by omega,h2,h3⟩,h4,h5,h6⟩
theorem rightIs_sub {x : PIt} {r r' : List PIt} (h : rightIs (x :: r)=true) (hs : r'.Sublist r) : rightIs (x :: r')=true:=by
 rw [rightIs_cons] at h ⊢
 obtain ⟨h1,h2,h3,h4,h5,h6⟩:=h
 have hs2 : (x :: r').Sublist (x :: r):=hs.cons_cons x
 exact ⟨Nat.le_trans hs.length_le h1,h2,h3,fun y hy=>h4 y (hs2.subset hy),fun y hy=>h5 y (hs2.subset hy),h6.sublist (hs2.map _)⟩
theorem rightQ_its {q : PQu} (h : rightQ q=true) : rightIs q.its=true:=by
 unfold rightQ at h
 rw [Bool.and_eq_true] at h
 exact h.1
theorem rightQ_sub {q : PQu} (h : rightQ q=true) {x : PIt} {r r' : List PIt} (hi : q.its=x :: r) (hs : r'.Sublist r) : rightQ ⟨x :: r',[],q.within,q.by_,q.pick⟩=true:=by
 have h1:=rightQ_its h
 rw [hi] at h1
 unfold rightQ at h ⊢
 simp only [Bool.and_eq_true] at h ⊢
 exact ⟨rightIs_sub h1 hs,rfl,rfl,h.2.2.2⟩
theorem rightQ_first {q : PQu} (h : rightQ q=true) : ∃ x r,q.its=x :: r∧x.no=false∧x.mode≠3∧q.its.length≤6:=by
 have h1:=rightQ_its h
 cases hi : q.its with
 | nil=>rw [hi] at h1;cases h1
 | cons x r =>
   rw [hi,rightIs_cons] at h1
   obtain ⟨h2,h3,h4,_⟩:=h1
   exact ⟨x,r,rfl,h3,h4,by simp;omega⟩
theorem rightQ_item {q : PQu} (h : rightQ q=true) {x : PIt} (hx : x∈q.its) : 1≤x.mode∧x.mode≤3∧(x.no=true→x.mode=1)∧x.ns.length≤3∧0 < x.ns.length∧∀ b∈x.ns,nameB b=true:=by
 have h1:=rightQ_its h
 cases hi : q.its with
 | nil=>rw [hi] at hx;cases hx
 | cons y r =>
   rw [hi] at hx
   rw [hi,rightIs_cons] at h1
   have h2:=h1.2.2.2.1 x hx
   unfold rightI at h2
   split at h2
   ·cases h2
   ·rename_i h3
    simp only [not_or,not_and,Int.not_lt] at h3
    unfold unlikeB at h2
    simp only [Bool.and_eq_true,decide_eq_true_eq,List.all_eq_true] at h2
    exact ⟨h3.1,h3.2.1,fun e=>Decidable.not_not.1 (h3.2.2 e),h2.1.2,h2.1.1,h2.2.1⟩
theorem nots_first {x : PIt} {r : List PIt} (hx : x.no=false) : noNots (x :: r)=x :: noNots r:=by
 unfold noNots
 rw [List.filter_cons,hx]
 rfl
theorem goL_asc : ∀ (r : List PIt) (j : Nat),(goL r j).Pairwise (· < ·)
 | [],_=>List.Pairwise.nil
 | x :: r,j=>by
   unfold goL
   split
   ·exact goL_asc r (j+1)
   ·split
    ·refine List.Pairwise.cons (fun k hk=>?_) (goL_asc r (j+1))
     have:=goL_mem hk
     omega
    ·exact List.pairwise_singleton _ _
theorem goL_no {l : List PIt} : ∀ {r : List PIt} {j k : Nat},l.drop j=r→k∈goL r j→∃ y,l[k]?=some y∧y.no=false
 | [],j,k,_,h=>by simp [goL] at h
 | x :: r,j,k,hd,h=>by
   have hx : l[j]?=some x:=by
    have:=congrArg (fun z=>z[0]?) hd
    simpa using this
   have hr : l.drop (j+1)=r:=by
    have:=congrArg List.tail hd
    simpa using this
   unfold goL at h
   split at h
   ·exact goL_no hr h
   ·rename_i hn
    have hn : x.no=false:=by simpa using hn
    split at h
    ·rcases List.mem_cons.1 h with rfl|h
     ·exact ⟨x,hx,hn⟩
     ·exact goL_no hr h
    ·obtain rfl:=List.mem_singleton.1 h
     exact ⟨x,hx,hn⟩
theorem goL_fin {l : List PIt} : ∀ {r : List PIt} {j k : Nat},l.drop j=r→k∈goL r j→(r.all fun x=>x.no || decide (x.mode=3))=true→∃ y,l[k]?=some y∧y.mode=3
 | [],j,k,_,h,_=>by simp [goL] at h
 | x :: r,j,k,hd,h,ha=>by
   have hx : l[j]?=some x:=by
    have:=congrArg (fun z=>z[0]?) hd
    simpa using this
   have hr : l.drop (j+1)=r:=by
    have:=congrArg List.tail hd
    simpa using this
   simp only [List.all_cons,Bool.and_eq_true] at ha
   unfold goL at h
   split at h
   ·exact goL_fin hr h ha.2
   ·rename_i hn
    have h3 : x.mode=3:=by
     have:=ha.1
     simpa [hn] using this
    rw [if_pos h3] at h
    rcases List.mem_cons.1 h with rfl|h
    ·exact ⟨x,hx,h3⟩
    ·exact goL_fin hr h ha.2
def gdL : List PIt→Nat→List Nat
 | [],_=>[]
 | x :: r,j=>if x.no then j :: gdL r (j+1) else if x.mode=3 then gdL r (j+1) else []
theorem behT_gd : ∀ (r : List PIt) (j : Nat) (n g : List Nat),(behT r j n g).gd=g++gdL r j
 | [],_,n,g=>by simp [behT,gdL]
 | x :: r,j,n,g=>by
   unfold behT gdL
   split
   ·rw [behT_gd r]
    simp
   ·split
    ·rw [behT_gd r]
    ·simp
theorem gdL_mem {l : List PIt} : ∀ {r : List PIt} {j k : Nat},l.drop j=r→k∈gdL r j→j≤k∧k < j+r.length∧∃ y,l[k]?=some y∧y.no=true
 | [],j,k,_,h=>by simp [gdL] at h
 | x :: r,j,k,hd,h=>by
   have hx : l[j]?=some x:=by
    have:=congrArg (fun z=>z[0]?) hd
    simpa using this
   have hr : l.drop (j+1)=r:=by
    have:=congrArg List.tail hd
    simpa using this
   unfold gdL at h
   split at h
   ·rename_i hn
    rcases List.mem_cons.1 h with rfl|h
    ·exact ⟨Nat.le_refl _,by simp,x,hx,hn⟩
    ·have:=gdL_mem hr h
     exact ⟨by omega,by simp;omega,this.2.2⟩
   ·split at h
    ·have:=gdL_mem hr h
     exact ⟨by omega,by simp;omega,this.2.2⟩
    ·simp at h
theorem gdL_low : ∀ {r : List PIt} {j k : Nat},k∈gdL r j→j≤k
 | [],j,k,h=>by simp [gdL] at h
 | x :: r,j,k,h=>by
   unfold gdL at h
   split at h
   ·rcases List.mem_cons.1 h with rfl|h
    ·exact Nat.le_refl _
    ·have:=gdL_low h
     omega
   ·split at h
    ·have:=gdL_low h
     omega
    ·simp at h
theorem gdL_asc : ∀ (r : List PIt) (j : Nat),(gdL r j).Pairwise (· < ·)
 | [],_=>List.Pairwise.nil
 | x :: r,j=>by
   unfold gdL
   split
   ·refine List.Pairwise.cons (fun k hk=>?_) (gdL_asc r (j+1))
    have:=gdL_low hk
    omega
   ·split
    ·exact gdL_asc r (j+1)
    ·exact List.Pairwise.nil
structure StOk (l : List PIt) (k : Nat) (s : PSt) : Prop where
 nx : ∀ (i n : Nat),s.nx[i]?=some n→k≤n∧n < l.length∧(∀ y,l[n]?=some y→(y.no=true→n=k)∧(n=k→y.mode=2)∧(s.fin=true→n≠k→y.mode=3))∧∀ m,0 < i→s.nx[i - 1]?=some m→m < n
 gd : ∀ (i n : Nat),s.gd[i]?=some n→k+1≤n∧n < l.length∧(∀ y,l[n]?=some y→y.no=true)∧∀ m,0 < i→s.gd[i - 1]?=some m→m < n
 fin : s.fin=(l.drop (k+1)).all fun x=>x.no || decide (x.mode=3)
theorem asc_at {l : List Nat} (h : l.Pairwise (· < ·)) {i n m : Nat} (h1 : l[i]?=some n) (h0 : 0 < i) (h2 : l[i - 1]?=some m) : m < n:=by
 obtain ⟨hi,rfl⟩:=List.getElem?_eq_some_iff.1 h1
 obtain ⟨hj,rfl⟩:=List.getElem?_eq_some_iff.1 h2
 exact List.pairwise_iff_getElem.1 h (i - 1) i hj hi (by omega)
theorem stAt_ok {l : List PIt} {k : Nat} {x : PIt} (h : l[k]?=some x) : StOk l k (stAt l k x):=by
 have hk:=(List.getElem?_eq_some_iff.1 h).1
 have hfin : (stAt l k x).fin=(l.drop (k+1)).all fun x=>x.no || decide (x.mode=3):=by
  unfold stAt
  rw [behT_fin]
 have hgo : ∀ n,n∈goL (l.drop (k+1)) (k+1)→k+1≤n∧n < l.length:=fun n hn=>by
  have:=goL_mem hn
  rw [List.length_drop] at this
  omega
 refine ⟨fun i n hn=>?_,fun i n hn=>?_,hfin⟩
 ·have hasc : (stAt l k x).nx.Pairwise (· < ·):=by
   unfold stAt
   rw [behT_nx]
   split
   ·exact List.Pairwise.cons (fun m hm=>by have:=hgo m hm;omega) (goL_asc _ _)
   ·exact goL_asc _ _
  have hm:=List.mem_of_getElem? hn
  have hm2 : (n=k∧x.mode=2)∨n∈goL (l.drop (k+1)) (k+1):=by
   unfold stAt at hm
   rw [behT_nx] at hm
   split at hm
   ·rename_i h2
    rcases List.mem_append.1 hm with hm|hm
    ·exact .inl ⟨List.mem_singleton.1 hm,h2⟩
    ·exact .inr hm
   ·exact .inr (by simpa using hm)
  refine ⟨?_,?_,fun y hy=>⟨fun hno=>?_,fun e=>?_,fun hf hne=>?_⟩,fun m h0 h1=>asc_at hasc hn h0 h1⟩
  ·rcases hm2 with ⟨e,_⟩|hm2
   ·omega
   ·have:=hgo n hm2;omega
  ·rcases hm2 with ⟨e,_⟩|hm2
   ·omega
   ·exact (hgo n hm2).2
  ·rcases hm2 with ⟨e,_⟩|hm2
   ·exact e
   ·obtain ⟨z,hz,hz2⟩:=goL_no rfl hm2
    rw [hy] at hz
    cases hz
    rw [hz2] at hno
    cases hno
  ·rcases hm2 with ⟨_,e2⟩|hm2
   ·subst e
    rw [h] at hy
    cases hy
    exact e2
   ·have:=hgo n hm2;omega
  ·rcases hm2 with ⟨e,_⟩|hm2
   ·exact absurd e hne
   ·rw [hfin] at hf
    obtain ⟨z,hz,hz2⟩:=goL_fin rfl hm2 hf
    rw [hy] at hz
    cases hz
    exact hz2
 ·have he : (stAt l k x).gd=gdL (l.drop (k+1)) (k+1):=by
   unfold stAt
   rw [behT_gd]
   rfl
  rw [he] at hn
  have hm:=gdL_mem rfl (List.mem_of_getElem? hn)
  rw [List.length_drop] at hm
  refine ⟨hm.1,by omega,fun y hy=>?_,fun m h0 h1=>?_⟩
  ·obtain ⟨z,hz,hz2⟩:=hm.2.2
   rw [hy] at hz
   cases hz
   exact hz2
  ·rw [he] at h1
   exact asc_at (gdL_asc _ _) hn h0 h1
end Go.Proofs.Ytefcbgnckgapgaa
namespace Go.Proofs.Ytefcbgnckgapgaa
open Go.RowKit Go.Lib Go.Op
def CoTo (p : PQu) (w : World) (e : Ending) (w' : World) : Prop:=∃ v,e=.returned v∧RowK stateD (· < w.heap.size) w' v (if rightQ p then stsN p.its else [])∧Below w.heap.size w w'
theorem CoTo.no {p : PQu} {w w' : World} (h : rightQ p=false) (hb : Below w.heap.size w w') : CoTo p w (.returned (.slice none 0 0)) w':=⟨_,rfl,by rw [h];exact RowK.nil _ _ _,hb⟩
theorem OwnP.state {wb wr w1 : World} {va : Option Addr} {n vc : Nat} {L : List PSt} (h : OwnP stateD wr wb.heap.size 36 (.slice va n vc) L) (hB : Below wb.heap.size wb wr) (hl : L.length≤1000) {s : PSt} {cs : List Value} (hs : stateD.P (· < wr.heap.size) w1 cs s) (hb : Below wr.heap.size wr w1) :
 ∃ a9 c9 w9,(Builtin.append_ #[31,31] 31 #[.slice va n vc,.slice (some ⟨w1.heap.size,0,none⟩) 1 1]).run Try.prog (w1.alloc (.cells cs.toArray 36))=.ok (.slice a9 (L.length+1) c9) w9∧OwnP stateD w9 wb.heap.size 36 (.slice a9 (L.length+1) c9) (L++[s])∧Below wb.heap.size wb w9:=by
 have hsz:=hB.size
 have hsz2:=hb.size
 have hb5:=(Below.refl w1.heap.size w1).alloc (Nat.le_refl _) (.cells cs.toArray 36)
 have o5:=(h.keep (TFr.of_below (K:=fun _=>False) hb) (fun _ h=>h.elim)).keep (TFr.of_below (K:=fun _=>False) hb5) (fun _ h=>h.elim)
 have hx : stateD.P (fun g=>g < wb.heap.size∨(Value.slice va n vc).ownBlock=some g) (w1.alloc (.cells cs.toArray 36)) cs s:=stateD.keep (TFr.of_below hb5) (stateD.mono (fun g hg=>by
  rcases hg with hg|hg
  ·exact Nat.lt_of_lt_of_le hg hsz
  ·exact (h.own g hg).2) hs)
 obtain ⟨v9,w9,hr,ho,hg⟩:=OwnP.append (ts:=31) (ty:=31) (by kernel_rfl) stateI rfl (by decide) (by decide) o5 (by have:=hb5.size;omega) hl hx (heap_alloc_new w1 _)
 obtain ⟨a9,c9,rfl⟩:=ho.slice
 rw [List.length_append,List.length_singleton] at hr ho
 refine ⟨a9,c9,w9,hr,ho,?_⟩
 have hall : Below wb.heap.size wb (w1.alloc (.cells cs.toArray 36)):=(hB.trans (hb.mono hsz)).trans (hb5.mono (by omega))
 exact hall.grown hg hall.size (fun k hk=>(o5.own k hk).1)
theorem stsN_take {l : List PIt} {j : Nat} {x : PIt} (h : l[j]?=some x) : (stsN l).take (j+2)=(stsN l).take (j+1)++[stAt l j x]:=by
 rw [List.take_add_one (i:=j+1),stsN_at h]
 rfl
section
variable {K : Nat→Prop} {w : World} {a b : Option Addr} {q c r d : Nat} {p : PQu}
set_option maxHeartbeats 1000000 in
set_option maxRecDepth 100000 in
theorem ncompile_calls (h : QuAt K w a q c b r d p) (hb : QuB p) : Calls Try.prog 13 #[.agg #[.slice a q c,.slice b r d,.int .i64 p.within,.string (strB p.by_),.int .i64 p.pick]] w (CoTo p w):=by
 obtain rfl:=h.1.len
 have hb0:=(Below.refl w.heap.size w).alloc (Nat.le_refl _) (.cells #[.slice a p.its.length c,.slice b r d,.int .i64 p.within,.string (strB p.by_),.int .i64 p.pick] 25)
 have hx:=Blk.new w #[.slice a p.its.length c,.slice b r d,.int .i64 p.within,.string (strB p.by_),.int .i64 p.pick] 25
 have hR:=right_calls (w:=w.alloc (.cells #[.slice a p.its.length c,.slice b r d,.int .i64 p.within,.string (strB p.by_),.int .i64 p.pick] 25)) (p:=p) (K:=K) ⟨h.1.low hb0,h.2.low hb0⟩ hb
 obtain ⟨z,hz⟩ : ∃ z,rightQ p=z:=⟨_,rfl⟩
 rw [hz] at hR
 have HR:=hid hR
 have HZ:=hid hz
 have HI:=hid h.1
 have HB0:=hid hb0
 have HX:=hid hx
 obtain ⟨l,hl⟩ : ∃ l,p.its=l:=⟨_,rfl⟩
 have HL:=hid hl
 rw [hl] at HR HI HX HB0 ⊢
 obtain ⟨q,hq⟩ : ∃ q,l.length=q:=⟨_,rfl⟩
 have HQ:=hid hq
 rw [hq] at HR HX HB0 ⊢
 clear h hb hb0 hx hR hz hl hq
 cases z with
 | false =>
   have m0:=tcell HX.out (k:=0) rfl
   have m1:=tcell HX.out (k:=1) rfl
   have m2:=tcell HX.out (k:=2) rfl
   have m3:=tcell HX.out (k:=3) rfl
   have m4:=tcell HX.out (k:=4) rfl
   go_enter Try.func13,Try.ntmps13
   go_wp2_with fail
   with_reducible refine HR.out.mono ?_
   rintro e w1 ⟨rfl,hb1⟩
   have HB1:=hid (HB0.out.trans (hb1.mono HB0.out.size))
   clear hb1
   go_wp2
   go_ret
   exact CoTo.no HZ.out HB1.out
 | true =>
   obtain ⟨x0,rr,hi0,hno0,hm0,hlen6⟩:=rightQ_first HZ.out
   rw [HL.out,HQ.out] at hlen6
   have m0:=tcell HX.out (k:=0) rfl
   have m1:=tcell HX.out (k:=1) rfl
   have m2:=tcell HX.out (k:=2) rfl
   have m3:=tcell HX.out (k:=3) rfl
   have m4:=tcell HX.out (k:=4) rfl
   clear hi0
   go_enter Try.func13,Try.ntmps13
   go_wp2_with fail
   with_reducible refine HR.out.mono ?_
   rintro e w1 ⟨rfl,hb1⟩
   have HX1:=hid (HX.out.low hb1)
   have n0:=tcell HX1.out (k:=0) rfl
   have HB1:=hid hb1
   have hc1:=(Below.refl w1.heap.size w1).alloc (Nat.le_refl _) (.cells #[.int .i64 0] 3)
   have hc2:=hc1.alloc hc1.size (.cells #[.slice (some ⟨w1.heap.size,0,none⟩) 1 1,.slice none 0 0,.bool false] 36)
   have hin:=(Blk.new w1 #[.int .i64 ((0 : Nat) : Int)] 3).low ((Below.refl _ _).alloc (Nat.le_refl _) (.cells #[.slice (some ⟨w1.heap.size,0,none⟩) 1 1,.slice none 0 0,.bool false] 36))
   have hst:=Blk.new (w1.alloc (.cells #[.int .i64 0] 3)) #[.slice (some ⟨w1.heap.size,0,none⟩) 1 1,.slice none 0 0,.bool false] 36
   rw [show (w1.alloc (.cells #[.int .i64 0] 3)).heap.size=w1.heap.size+1 by simp] at hst
   have HC2:=hid hc2
   have HO : Hid (OwnP stateD ((w1.alloc (.cells #[.int .i64 0] 3)).alloc (.cells #[.slice (some ⟨w1.heap.size,0,none⟩) 1 1,.slice none 0 0,.bool false] 36)) (w.alloc (.cells #[.slice a q c,.slice b r d,.int .i64 p.within,.string (strB p.by_),.int .i64 p.pick] 25)).heap.size 36 (.slice (some ⟨w1.heap.size+1,0,none⟩) 1 1) ((stsN l).take 1)):=by
    have hs1:=hb1.size
    refine OwnP.first (x:=st0) (b:=w1.heap.size+1) (cs:=[.slice (some ⟨w1.heap.size,0,none⟩) 1 1,.slice none 0 0,.bool false]) (by omega) hst ⟨_,_,_,_,rfl,?_,RowK.nil _ _ _⟩
    exact num_one hin (by show ¬ (_ < _∨_=_);omega)
   have HX2:=hid (HX1.out.low hc2)
   have n0:=tcell HX2.out (k:=0) rfl
   have HB2:=hid (hb1.trans (hc2.mono hb1.size))
   clear hb1 m0 m1 m2 m3 m4 hc1 hc2 hin hst HB1 HC2 HX1
   go_wp2
   clear n0
   go_loopw [3,14] (fun v k wr=>∃ j : Nat,k=.int .i64 j∧j≤q∧Hid (OwnP stateD wr (w.alloc (.cells #[.slice a q c,.slice b r d,.int .i64 p.within,.string (strB p.by_),.int .i64 p.pick] 25)).heap.size 36 v ((stsN l).take (j+1)))∧Hid (Below (w.alloc (.cells #[.slice a q c,.slice b r d,.int .i64 p.within,.string (strB p.by_),.int .i64 p.pick] 25)).heap.size (w.alloc (.cells #[.slice a q c,.slice b r d,.int .i64 p.within,.string (strB p.by_),.int .i64 p.pick] 25)) wr)) (fun _ k _=>q - (RowKit.intOf k).toNat)
   case atStart=>exact ⟨0,rfl,Nat.zero_le _,HO,HB2⟩
   case round =>
    obtain ⟨j,rfl,hj,HO,HB⟩:=hrel
    have hxr:=HX.out.low HB.out
    have n0:=tcell hxr (k:=0) rfl
    clear hxr
    obtain ⟨va,vc,rfl⟩:=HO.out.slice
    by_cases hlt : j < q
    ·obtain ⟨y,hy⟩ : ∃ y,l[j]?=some y:=⟨_,List.getElem?_eq_getElem (by rw [HQ.out];exact hlt)⟩
     have hbh:=nbehind_calls (w:=wr) (a:=a) (c:=c) (K:=K) (l:=l) ((HI.out.low HB0.out).low HB.out) (by rw [HQ.out];exact hlen6) hy
     rw [HQ.out] at hbh
     have HBH:=hid hbh
     obtain ⟨m,hm⟩ : ∃ m,((stsN l).take (j+1)).length=m:=⟨_,rfl⟩
     have hm2 : m≤7:=by rw [← hm,List.length_take,stsN_len,HQ.out];omega
     have HAP : Hid (∀ w1 cs,stateD.P (· < wr.heap.size) w1 cs (stAt l j y)→Below wr.heap.size wr w1→∃ a9 c9 w9,(Builtin.append_ #[31,31] 31 #[.slice va m vc,.slice (some ⟨w1.heap.size,0,none⟩) 1 1]).run Try.prog (w1.alloc (.cells cs.toArray 36))=.ok (.slice a9 (m+1) c9) w9∧Hid (OwnP stateD w9 (w.alloc (.cells #[.slice a q c,.slice b r d,.int .i64 p.within,.string (strB p.by_),.int .i64 p.pick] 25)).heap.size 36 (.slice a9 (m+1) c9) ((stsN l).take (j+1+1)))∧Hid (Below (w.alloc (.cells #[.slice a q c,.slice b r d,.int .i64 p.within,.string (strB p.by_),.int .i64 p.pick] 25)).heap.size (w.alloc (.cells #[.slice a q c,.slice b r d,.int .i64 p.within,.string (strB p.by_),.int .i64 p.pick] 25)) w9)):=fun w1 cs hs hb=>by
      have h:=HO.out.state HB.out (by rw [hm];omega) hs hb
      rw [hm,← stsN_take hy] at h
      exact h
     rw [hm] at HO ⊢
     clear hbh hm hy
     go_wp2_with (first
      | (go_at_call 23;(with_reducible refine HBH.out.mono ?_);rintro e w5 ⟨a5,c5,b5,d5,rfl,hs5,hb5⟩;obtain ⟨a9,c9,w9,hr9,O9,B9⟩:=HAP.out w5 _ hs5 hb5;clear hs5 hb5)
      | (at_builtin;refine Lib.wpList_append_run _ rfl _ _ _ _ rfl _ _ rfl rfl _ _ hr9 ?_;clear hr9))
     exact ⟨⟨j+1,by go_num,by omega,O9,B9⟩,by simp [RowKit.intOf];omega⟩
    ·have hjq : j=q:=by omega
     subst hjq
     have hall : (stsN l).take (j+1)=stsN l:=by rw [← HQ.out,← stsN_len,List.take_length]
     have ho:=HO.out
     rw [hall] at ho
     have HRW:=hid ho.row
     clear ho
     go_wp2
     go_ret
     refine ⟨_,rfl,?_,HB0.out.trans (HB.out.mono HB0.out.size)⟩
     rw [HZ.out,if_pos rfl,HL.out]
     show RowK stateD _ _ (.slice va ((stsN l).take (j+1)).length vc) _
     rw [hall]
     exact HRW.out.mono (fun g hg=>Nat.lt_of_lt_of_le hg HB0.out.size)
end
end Go.Proofs.Ytefcbgnckgapgaa
namespace Go.Proofs.Ytefcbgnckgapgaa
open Go.RowKit Go.Lib Go.Op
theorem RowK.numAt {K : Nat→Prop} {w : World} {a : Option Addr} {n c : Nat} {l : List Nat} (h : RowK numD K w (.slice a n c) l) {j x : Nat} (hj : l[j]?=some x) : ∃ g o,a=some ⟨g,o,none⟩∧w.cell? ⟨g,o+j,none⟩=some (.int .i64 (x : Int)):=by
 obtain ⟨a',c',e,_,h⟩:=h
 injection e with e1 e2 e3
 obtain ⟨g,o,cs,ea,hg,hp,hc⟩:=h j x hj
 have hp' : cs=[.int .i64 (x : Int)]:=hp
 subst hp'
 have:=hc 0 _ rfl
 exact ⟨g,o,e1.trans ea,by simpa [numD] using this⟩
theorem RowK.stateAt {K : Nat→Prop} {w : World} {a : Option Addr} {n c : Nat} {l : List PSt} (h : RowK stateD K w (.slice a n c) l) {j : Nat} {s : PSt} (hj : l[j]?=some s) : ∃ g o a1 c1 a2 c2,a=some ⟨g,o,none⟩∧w.cell? ⟨g,o+j*3,none⟩=some (.slice a1 s.nx.length c1)∧w.cell? ⟨g,o+j*3+1,none⟩=some (.slice a2 s.gd.length c2)∧w.cell? ⟨g,o+j*3+2,none⟩=some (.bool s.fin)∧RowK numD K w (.slice a1 s.nx.length c1) s.nx∧RowK numD K w (.slice a2 s.gd.length c2) s.gd:=by
 obtain ⟨a',c',e,_,h⟩:=h
 injection e with e1 e2 e3
 obtain ⟨g,o,cs,ea,hg,⟨a1,c1,a2,c2,hcs,hr1,hr2⟩,hc⟩:=h j s hj
 subst hcs
 exact ⟨g,o,a1,c1,a2,c2,e1.trans ea,hc 0 _ rfl,hc 1 _ rfl,hc 2 _ rfl,hr1,hr2⟩
set_option maxHeartbeats 1000000 in
set_option maxRecDepth 100000 in
theorem nindex_calls {K : Nat→Prop} {w : World} {a : Option Addr} {c : Nat} {l : List Nat} (h : RowK numD K w (.slice a l.length c) l) (hl : l.length≤1000) (v : Nat) :
 Calls Try.prog 63 #[.slice a l.length c,.int .i64 v] w fun e w'=>(∃ i : Int,e=.returned (.int .i64 i)∧(v∈l→0≤i)∧(v ∉ l→i < 0))∧Below w.heap.size w w':=by
 have H:=hid h
 obtain ⟨q,hq⟩ : ∃ q,l.length=q:=⟨_,rfl⟩
 have HQ:=hid hq
 rw [hq] at hl ⊢
 have HP : Hid (∀ i : Int,(v∈l→0≤i)∧(v ∉ l→i < 0)→∀ W,Below w.heap.size w W→(∃ j : Int,Ending.returned (.int .i64 i)=.returned (.int .i64 j)∧(v∈l→0≤j)∧(v ∉ l→j < 0))∧Below w.heap.size w W):=fun i hi W hW=>⟨⟨i,rfl,hi⟩,hW⟩
 obtain ⟨P,hPd⟩ : ∃ P : Ending→World→Prop,P=fun e w'=>(∃ i : Int,e=.returned (.int .i64 i)∧(v∈l→0≤i)∧(v ∉ l→i < 0))∧Below w.heap.size w w':=⟨_,rfl⟩
 rw [← hPd]
 have HP2 : Hid (∀ i : Int,(v∈l→0≤i)∧(v ∉ l→i < 0)→∀ W,Below w.heap.size w W→P (.returned (.int .i64 i)) W):=fun i hi W hW=>by rw [hPd];exact HP.out i hi W hW
 clear h hq hPd HP
 go_enter Try.func63,Try.ntmps63
 go_wp2
 go_loopw [8] (fun i wr=>∃ j : Nat,i=.int .i64 j∧j≤q∧Hid (v ∉ l.take j)∧Hid (Below w.heap.size w wr)) (fun i _=>q - (RowKit.intOf i).toNat)
 case atStart=>exact ⟨0,rfl,Nat.zero_le _,by show v ∉ _;simp,Below.refl _ _⟩
 case round =>
  obtain ⟨j,rfl,hj,HN,HB⟩:=hrel
  by_cases hlt : j < q
  ·obtain ⟨y,hy⟩ : ∃ y,l[j]?=some y:=⟨_,List.getElem?_eq_getElem (by rw [HQ.out];exact hlt)⟩
   obtain ⟨g,o,rfl,hc⟩:=(H.out.low HB.out).numAt hy
   by_cases hv : v=y
   ·subst hv
    have t0 : ((v : Int) == (v : Int))=true:=beq_iff_eq.2 rfl
    have HM:=hid (List.mem_of_getElem? hy)
    clear hy
    go_wp2
    exact HP2.out _ ⟨fun _=>by omega,fun h=>absurd HM.out h⟩ _ HB.out
   ·have t0 : ((v : Int) == (y : Int))=false:=by rw [beq_eq_false_iff_ne];omega
    have HN2 : Hid (v ∉ l.take (j+1)):=by
     show v ∉ _
     rw [List.take_add_one,hy]
     intro hm
     rcases List.mem_append.1 hm with hm|hm
     ·exact HN.out hm
     ·exact hv (by simpa using hm)
    clear hy hv
    go_wp2
    exact ⟨⟨j+1,by go_num,by omega,HN2,HB⟩,by simp [RowKit.intOf];omega⟩
  ·have hjq : j=l.length:=by rw [HQ.out];omega
   have hno : v ∉ l:=by
    have:=HN.out
    rw [hjq,List.take_length] at this
    exact this
   have HNO:=hid hno
   clear hno hjq
   go_wp2
   exact HP2.out _ ⟨fun h=>absurd h HNO.out,fun _=>by omega⟩ _ HB.out
set_option maxHeartbeats 1000000 in
set_option maxRecDepth 100000 in
theorem ncontains_calls {K : Nat→Prop} {w : World} {a : Option Addr} {c : Nat} {l : List Nat} (h : RowK numD K w (.slice a l.length c) l) (hl : l.length≤1000) (v : Nat) :
 Calls Try.prog 37 #[.slice a l.length c,.int .i64 v] w fun e w'=>e=.returned (.bool (decide (v∈l)))∧Below w.heap.size w w':=by
 have HI:=hid (nindex_calls h hl v)
 obtain ⟨n,hn⟩ : ∃ n,l.length=n:=⟨_,rfl⟩
 rw [hn] at HI ⊢
 by_cases hv : v∈l
 ·rw [decide_eq_true hv]
  have HV:=hid hv
  clear h hl hn hv
  go_enter Try.func37,Try.ntmps37
  go_wp2_with fail
  with_reducible refine HI.out.mono ?_
  rintro e w1 ⟨⟨i,rfl,hi,_⟩,hb⟩
  have HB:=hid hb
  have t0 : decide (0≤i)=true:=decide_eq_true (hi HV.out)
  clear hb hi
  go_wp2
  go_ret
  exact ⟨rfl,HB.out⟩
 ·rw [decide_eq_false hv]
  have HV:=hid hv
  clear h hl hn hv
  go_enter Try.func37,Try.ntmps37
  go_wp2_with fail
  with_reducible refine HI.out.mono ?_
  rintro e w1 ⟨⟨i,rfl,_,hi⟩,hb⟩
  have HB:=hid hb
  have t0 : decide (0≤i)=false:=decide_eq_false (by have:=hi HV.out;omega)
  clear hb hi
  go_wp2
  go_ret
  exact ⟨rfl,HB.out⟩
theorem strsContains_calls {K : Nat→Prop} {w : World} {a : Option Addr} {c : Nat} {l : List (List UInt8)} (h : RowK nameD K w (.slice a l.length c) l) (hl : l.length≤1000000) (x : List UInt8) :
 Calls Try.prog 36 #[.slice a l.length c,.string (strB x)] w fun e w'=>e=.returned (.bool (decide (x∈l)))∧w'=w:=by
 have h1:=containsRow_calls h hl l.length (Nat.le_refl _) c x
 rw [List.take_length] at h1
 exact h1
section
variable {K : Nat→Prop} {w : World} {a b : Option Addr} {c d : Nat} {l : List PIt}
theorem stepTo_yes {l : List PIt} {v : Nat} {name : List UInt8} {i : Nat} (h : takesN l v name i=true) : stepTo l v name (i+1)=stepTo l v name i ||| 2 ^ (i+1):=by
 rw [stepTo,if_pos h]
theorem stepTo_no {l : List PIt} {v : Nat} {name : List UInt8} {i : Nat} (h : takesN l v name i=false) : stepTo l v name (i+1)=stepTo l v name i:=by
 rw [stepTo,if_neg (by rw [h];simp)]
set_option maxHeartbeats 1000000 in
set_option maxRecDepth 100000 in
theorem ntaken_calls (hI : RowK itemD K w (.slice a l.length c) l) (hl : l.length≤6) (hbd : ∀ i∈l,i.ns.length≤1000000) (hS : RowK stateD K w (.slice b (stsN l).length d) (stsN l)) (v : Nat) (hv : v < 2 ^ 64) (name : List UInt8) :
 Calls Try.prog 26 #[.slice a l.length c,.slice b (l.length+1) d,.int .u64 v,.string (strB name)] w fun e w'=>e=.returned (.int .u64 (stepN l v name))∧Below w.heap.size w w':=by
 rw [stsN_len] at hS
 obtain ⟨P,hPd⟩ : ∃ P : Ending→World→Prop,P=fun e w'=>e=.returned (.int .u64 (stepN l v name))∧Below w.heap.size w w':=⟨_,rfl⟩
 rw [← hPd]
 have HP : Hid (∀ W,Below w.heap.size w W→P (.returned (.int .u64 (stepN l v name))) W):=fun W hW=>by rw [hPd];exact ⟨rfl,hW⟩
 have HI:=hid hI
 have HS:=hid hS
 have HBD:=hid hbd
 obtain ⟨q,hq⟩ : ∃ q,l.length=q:=⟨_,rfl⟩
 have HQ:=hid hq
 rw [hq] at hl ⊢
 have HV:=hid hv
 clear hI hS hbd hq hPd hv
 go_enter Try.func26,Try.ntmps26
 go_wp2
 go_step3
 go_wp2
 go_step3
 go_wp2
 go_loopw [9,14] (fun t i wr=>∃ j : Nat,i=.int .i64 j∧j≤q∧t=.int .u64 (stepTo l v name j)∧Hid (Below w.heap.size w wr)) (fun _ i _=>q - (RowKit.intOf i).toNat)
 case atStart=>exact ⟨0,rfl,Nat.zero_le _,rfl,Below.refl _ _⟩
 case round =>
  obtain ⟨j,rfl,hj,rfl,HB⟩:=hrel
  by_cases hlt : j < q
  ·obtain ⟨y,hy⟩ : ∃ y,l[j]?=some y:=⟨_,List.getElem?_eq_getElem (by rw [HQ.out];exact hlt)⟩
   obtain ⟨g,o,a1,c1,rfl,d0,d1,d2,d3,hr⟩:=(HI.out.low HB.out).itemAt hy
   have hcn:=strsContains_calls hr (HBD.out y (List.mem_of_getElem? hy)) name
   have HY:=hid hy
   obtain ⟨m,hm⟩ : ∃ m,y.ns.length=m:=⟨_,rfl⟩
   rw [hm] at hcn d1
   by_cases hin : name∈y.ns
   ·rw [decide_eq_true hin] at hcn
    have HCN:=hid hcn
    have HIN:=hid hin
    clear hcn hy hm hr hin
    go_wp2_with fail
    with_reducible refine HCN.out.mono ?_
    rintro e w1 ⟨rfl,rfl⟩
    go_wp2
    have HBI:=hid HB.out
    clear d0 d1 d2 d3 HCN
    go_loopw [9,27] (fun t i wr=>∃ k : Nat,i=.int .i64 k∧k≤q+1∧t=.int .u64 (stepTo l v name j)∧Hid (∀ k' s,k' < k→(stsN l)[k']?=some s→v.testBit k'=true→j ∉ s.nx)∧Hid (Below w.heap.size w wr)) (fun _ i _=>q+1 - (RowKit.intOf i).toNat)
    case atStart=>exact ⟨0,rfl,Nat.zero_le _,rfl,fun k' s h=>by omega,HBI⟩
    case round =>
     obtain ⟨k,rfl,hk,rfl,HN,HB⟩:=hrel
     clear HBI
     by_cases hkl : k < q+1
     ·obtain ⟨s,hs⟩ : ∃ s,(stsN l)[k]?=some s:=⟨_,List.getElem?_eq_getElem (by rw [stsN_len,HQ.out];exact hkl)⟩
      obtain ⟨g2,o2,a2,c2,a3,c3,rfl,e0,e1,e2,hr1,hr2⟩:=(HS.out.low HB.out).stateAt hs
      have HHas:=hid (nhas_calls v k HV.out (by omega))
      have HSS:=hid hs
      have hnl : s.nx.length≤1000:=by
       cases k with
       | zero =>
         rw [stsN_zero] at hs
         cases hs
         simp [st0]
       | succ k =>
         obtain ⟨x,hx⟩ : ∃ x,l[k]?=some x:=⟨_,List.getElem?_eq_getElem (by rw [HQ.out];omega)⟩
         rw [stsN_at hx] at hs
         cases hs
         unfold stAt
         have:=(behT_len (l.drop (k+1)) (k+1) (if x.mode=2 then [k] else []) []).1
         rw [List.length_drop,HQ.out] at this
         split at this <;> rename_i h2
         ·rw [if_pos h2];simp at this;omega
         ·rw [if_neg h2];simp at this;omega
      have hco:=ncontains_calls hr1 hnl j
      obtain ⟨m2,hm2⟩ : ∃ m,s.nx.length=m:=⟨_,rfl⟩
      rw [hm2] at hco e0
      have hskip : (v.testBit k=true→j ∉ s.nx)→∀ k' s,k' < k+1→(stsN l)[k']?=some s→v.testBit k'=true→j ∉ s.nx:=fun h0 k' s' h1 h2 h3=>by
       by_cases hkk : k'=k
       ·subst hkk
        rw [HSS.out] at h2
        cases h2
        exact h0 h3
       ·exact HN.out k' s' (by omega) h2 h3
      cases htb : v.testBit k with
      | false =>
        have HN2:=hid (hskip (fun e=>by rw [htb] at e;cases e))
        rw [htb] at HHas
        clear hs hr1 hr2 hnl hco hm2 hskip htb
        go_wp2_with (go_at_call 27;(with_reducible refine (HHas.out _).mono ?_);rintro e w1 ⟨rfl,rfl⟩)
        exact ⟨⟨k+1,by go_num,by omega,rfl,HN2,HB⟩,by simp [RowKit.intOf];omega⟩
      | true =>
        rw [htb] at HHas
        by_cases hjn : j∈s.nx
        ·rw [decide_eq_true hjn] at hco
         have HCO:=hid hco
         have hyes : takesN l v name j=true:=takesN_iff.2 ⟨⟨y,HY.out,HIN.out⟩,k,s,HSS.out,htb,hjn⟩
         have HST : Hid (Value.int .u64 ((stepTo l v name j ||| 2 ^ (j+1) : Nat) : Int)=.int .u64 (stepTo l v name (j+1))):=by
          show Value.int .u64 _=_
          rw [stepTo_yes hyes]
         have hlt7:=stepTo_lt l v name j
         have h27 : (2 : Nat) ^ (j+1)≤2 ^ 7:=Nat.pow_le_pow_right (by decide) (by omega)
         have hwi:=nwith_calls (stepTo l v name j) (j+1) (by omega) (by omega)
         rw [show ((j+1 : Nat) : Int)=(j : Int)+1 by omega] at hwi
         have HWI:=hid hwi
         have hw1 : IntKind.i64.wrap ((j : Int)+1)=((j+1 : Nat) : Int):=by rw [IntWalk.i64_in _ (by omega)];omega
         clear hs hr1 hr2 hnl hco hm2 hskip htb hjn hyes hlt7 h27 hwi
         go_wp2_with (first
          | (go_at_call 27;(with_reducible refine (HHas.out _).mono ?_);rintro e w1 ⟨rfl,rfl⟩)
          | (go_at_call 37;(with_reducible refine HCO.out.mono ?_);rintro e w2 ⟨rfl,hb2⟩;have HB2:=hid (HB.out.trans (hb2.mono HB.out.size));clear hb2)
          | (go_at_call 25;(with_reducible refine (HWI.out _).mono ?_);rintro e w3 ⟨rfl,rfl⟩))
         exact ⟨⟨j+1,by go_num,by omega,HST.out,HB2⟩,by simp [RowKit.intOf];omega⟩
        ·rw [decide_eq_false hjn] at hco
         have HCO:=hid hco
         have HN2:=hid (hskip (fun _=>hjn))
         clear hs hr1 hr2 hnl hco hm2 hskip htb hjn
         go_wp2_with (first
          | (go_at_call 27;(with_reducible refine (HHas.out _).mono ?_);rintro e w1 ⟨rfl,rfl⟩)
          | (go_at_call 37;(with_reducible refine HCO.out.mono ?_);rintro e w2 ⟨rfl,hb2⟩;have HB2:=hid (HB.out.trans (hb2.mono HB.out.size));clear hb2))
         exact ⟨⟨k+1,by go_num,by omega,rfl,HN2,HB2⟩,by simp [RowKit.intOf];omega⟩
     ·have hno : takesN l v name j=false:=by
       rw [← Bool.not_eq_true,takesN_iff]
       rintro ⟨_,k',s,h1,h2,h3⟩
       have hk':=(List.getElem?_eq_some_iff.1 h1).1
       rw [stsN_len,HQ.out] at hk'
       exact HN.out k' s (by omega) h1 h2 h3
      have HST : Hid (Value.int .u64 (stepTo l v name j)=.int .u64 (stepTo l v name (j+1))):=by
       show Value.int .u64 _=_
       rw [stepTo_no hno]
      clear hno
      go_wp2
      exact ⟨⟨j+1,by go_num,by omega,HST.out,HB⟩,by simp [RowKit.intOf];omega⟩
   ·rw [decide_eq_false hin] at hcn
    have HCN:=hid hcn
    have hno : takesN l v name j=false:=by
     rw [← Bool.not_eq_true,takesN_iff]
     rintro ⟨⟨x,hx,h⟩,_⟩
     rw [HY.out] at hx
     cases hx
     exact hin h
    have HST : Hid (Value.int .u64 (stepTo l v name j)=.int .u64 (stepTo l v name (j+1))):=by
     show Value.int .u64 _=_
     rw [stepTo_no hno]
    clear hcn hy hm hr hin hno
    go_wp2_with fail
    with_reducible refine HCN.out.mono ?_
    rintro e w1 ⟨rfl,rfl⟩
    go_wp2
    exact ⟨⟨j+1,by go_num,by omega,HST.out,HB⟩,by simp [RowKit.intOf];omega⟩
  ·have hjq : j=q:=by omega
   have HEQ : Hid (stepTo l v name j=stepN l v name):=by
    show _=_
    unfold stepN
    rw [HQ.out,hjq]
   clear hjq
   go_wp2
   have h9:=HP.out _ HB.out
   rw [← HEQ.out] at h9
   exact h9
end
end Go.Proofs.Ytefcbgnckgapgaa
namespace Go.Proofs.Ytefcbgnckgapgaa
open Go.RowKit Go.Lib Go.Op
theorem endN_at {l : List PIt} {v k : Nat} {s : PSt} (hs : (stsN l)[k]?=some s) (hv : v.testBit k=true) (hf : s.fin=true) : endN l v=true:=by
 have hk:=(List.getElem?_eq_some_iff.1 hs).1
 rw [stsN_len] at hk
 unfold endN
 rw [List.any_eq_true]
 exact ⟨k,List.mem_range.2 hk,by rw [hs,hv];simpa using hf⟩
theorem endN_no {l : List PIt} {v : Nat} (h : ∀ k s,(stsN l)[k]?=some s→v.testBit k=true→s.fin=false) : endN l v=false:=by
 rw [← Bool.not_eq_true]
 unfold endN
 rw [List.any_eq_true]
 rintro ⟨k,_,hk⟩
 rw [Bool.and_eq_true] at hk
 obtain ⟨h1,h2⟩:=hk
 split at h2
 ·rename_i s hs
  rw [h k s hs h1] at h2
  cases h2
 ·cases h2
theorem runN_at {l : List PIt} {v : Nat} {names : List (List UInt8)} {j : Nat} {x : List UInt8} (h : names[j]?=some x) : runN l v (names.drop j)=runN l (stepN l v x) (names.drop (j+1)):=by
 obtain ⟨hj,rfl⟩:=List.getElem?_eq_some_iff.1 h
 rw [List.drop_eq_getElem_cons hj]
 rfl
section
variable {K : Nat→Prop} {w : World} {a b a2 : Option Addr} {q c r d c2 : Nat} {p : PQu} {names : List (List UInt8)}
set_option maxHeartbeats 2000000 in
set_option maxRecDepth 100000 in
theorem naccepts_calls (h : QuAt K w a q c b r d p) (hb : QuB p) (hn : RowK nameD K w (.slice a2 names.length c2) names) (hnl : names.length≤140737488355328) :
 Calls Try.prog 15 #[.agg #[.slice a q c,.slice b r d,.int .i64 p.within,.string (strB p.by_),.int .i64 p.pick],.slice a2 names.length c2] w fun e w'=>e=.returned (.bool (rightQ p && accQ p.its names))∧Below w.heap.size w w':=by
 obtain rfl:=h.1.len
 have hb0:=(Below.refl w.heap.size w).alloc (Nat.le_refl _) (.cells #[.slice a p.its.length c,.slice b r d,.int .i64 p.within,.string (strB p.by_),.int .i64 p.pick] 25)
 have hx:=Blk.new w #[.slice a p.its.length c,.slice b r d,.int .i64 p.within,.string (strB p.by_),.int .i64 p.pick] 25
 have hC:=ncompile_calls (w:=w.alloc (.cells #[.slice a p.its.length c,.slice b r d,.int .i64 p.within,.string (strB p.by_),.int .i64 p.pick] 25)) (p:=p) (K:=K) ⟨h.1.low hb0,h.2.low hb0⟩ hb
 obtain ⟨z,hz⟩ : ∃ z,rightQ p=z:=⟨_,rfl⟩
 have HI:=hid (h.1.mono (K':=fun _=>False) (fun _ h=>h.elim))
 have HBI:=hid hb.1
 have HC:=hid hC
 have HZ:=hid hz
 have HB0:=hid hb0
 have HX:=hid hx
 have HN:=hid hn
 rw [hz]
 obtain ⟨l,hl⟩ : ∃ l,p.its=l:=⟨_,rfl⟩
 have HL:=hid hl
 rw [hl] at HC HI HX HB0 HBI ⊢
 obtain ⟨q,hq⟩ : ∃ q,l.length=q:=⟨_,rfl⟩
 have HQ:=hid hq
 rw [hq] at HC HX HB0 ⊢
 obtain ⟨n,hnn⟩ : ∃ n,names.length=n:=⟨_,rfl⟩
 have HNN:=hid hnn
 rw [hnn] at hnl ⊢
 have m0:=tcell HX.out (k:=0) rfl
 have m1:=tcell HX.out (k:=1) rfl
 have m2:=tcell HX.out (k:=2) rfl
 have m3:=tcell HX.out (k:=3) rfl
 have m4:=tcell HX.out (k:=4) rfl
 clear h hb hb0 hx hC hz hl hq hn hnn
 cases z with
 | false =>
   rw [Bool.false_and]
   go_enter Try.func15,Try.ntmps15
   go_wp2_with fail
   with_reducible refine HC.out.mono ?_
   rintro e w1 ⟨v,rfl,hrow,hb1⟩
   rw [HZ.out,if_neg (by simp)] at hrow
   obtain ⟨va,vc,rfl⟩:=hrow.slice
   have HB1:=hid (HB0.out.trans (hb1.mono HB0.out.size))
   clear hb1 hrow m0 m1 m2 m3 m4
   go_wp2
   go_ret
   exact ⟨rfl,HB1.out⟩
 | true =>
   rw [Bool.true_and]
   obtain ⟨zz,hzz⟩ : ∃ zz,accQ l names=zz:=⟨_,rfl⟩
   have HZZ:=hid hzz
   rw [hzz]
   clear hzz
   obtain ⟨x0,rr,hi0,hno0,hm0,hlen6⟩:=rightQ_first HZ.out
   rw [HL.out,HQ.out] at hlen6
   clear hi0 hno0 hm0
   have HWI : Hid (∀ W,Calls Try.prog 25 #[.int .u64 0,.int .i64 0] W fun e w'=>e=.returned (.int .u64 1)∧w'=W):=fun W=>nwith_calls 0 0 (by decide) (by decide) W
   go_enter Try.func15,Try.ntmps15
   go_wp2_with fail
   with_reducible refine HC.out.mono ?_
   rintro e w1 ⟨v,rfl,hrow,hb1⟩
   rw [HZ.out,if_pos rfl,HL.out] at hrow
   obtain ⟨va,vc,rfl⟩:=hrow.slice
   have HS:=hid (hrow.mono (K':=fun _=>False) (fun _ h=>h.elim))
   have HX1:=hid (HX.out.low hb1)
   have HB1:=hid (HB0.out.trans (hb1.mono HB0.out.size))
   have n0:=tcell HX1.out (k:=0) rfl
   obtain ⟨m,hm⟩ : ∃ m,(stsN l).length=m:=⟨_,rfl⟩
   have hmq : m=q+1:=by rw [← hm,stsN_len,HQ.out]
   subst hmq
   have HM:=hid hm
   rw [hm]
   have t0 : (((q+1 : Nat) : Int) == 0)=false:=by rw [beq_eq_false_iff_ne];omega
   have t1 : ((q : Int)+1 == 0)=false:=by rw [beq_eq_false_iff_ne];omega
   clear hb1 hrow hm m0 m1 m2 m3 m4
   go_wp2_with fail
   with_reducible refine (HWI.out _).mono ?_
   rintro e w2 ⟨rfl,hw2⟩
   have hw3:=hw2.symm
   subst hw3
   go_wp2
   clear n0 t0 t1 HC HWI
   go_loopw [6,18] (fun v i wr=>∃ (j sv : Nat),i=.int .i64 j∧j≤n∧v=.int .u64 sv∧sv < 2 ^ 64∧Hid (runN l 1 names=runN l sv (names.drop j))∧Hid (Below w1.heap.size w1 wr)) (fun _ i _=>n - (RowKit.intOf i).toNat)
   case atStart=>exact ⟨0,1,rfl,Nat.zero_le _,rfl,by decide,rfl,Below.refl _ _⟩
   case round =>
    obtain ⟨j,sv,rfl,hj,rfl,hsv,HR,HB⟩:=hrel
    have n0:=tcell (HX1.out.low HB.out) (k:=0) rfl
    by_cases hlt : j < n
    ·obtain ⟨y,hy⟩ : ∃ y,names[j]?=some y:=⟨_,List.getElem?_eq_getElem (by rw [HNN.out];exact hlt)⟩
     have hBw:=HB1.out.trans (HB.out.mono HB1.out.size)
     have hnr:=HN.out.low hBw
     have hcap:=hnr.cap
     obtain ⟨g,o,rfl,hcn⟩:=RowK.nameAt hnr hy
     have htk:=ntaken_calls (w:=wr) (K:=fun _=>False) (l:=l) (HI.out.low hBw) (by rw [HQ.out];exact hlen6) (fun i hi=>(HBI.out i hi).1) (HS.out.low HB.out) sv hsv y
     rw [HQ.out] at htk
     have HR2 : Hid (runN l 1 names=runN l (stepN l sv y) (names.drop (j+1))):=HR.out.trans (runN_at hy)
     have hst7:=stepTo_lt l sv y l.length
     rw [HQ.out] at hst7
     have h27 : (2 : Nat) ^ (q+1)≤2 ^ 7:=Nat.pow_le_pow_right (by decide) (by omega)
     obtain ⟨st,hst⟩ : ∃ st,stepN l sv y=st:=⟨_,rfl⟩
     have hst8 : st < 2 ^ 64:=by
      rw [← hst]
      unfold stepN
      rw [HQ.out]
      omega
     rw [hst] at htk HR2
     have HTK:=hid htk
     have HST8:=hid hst8
     clear hy hnr hst7 h27 hst htk hst8 hsv
     by_cases h0 : st=0
     ·subst h0
      have hacc : accQ l names=false:=by
       rw [← run_is,HR2.out,runN_zero]
      obtain rfl : zz=false:=HZZ.out.symm.trans hacc
      have t2 : (((0 : Nat) : Int) == 0)=true:=rfl
      clear hacc
      go_wp2_with fail
      with_reducible refine HTK.out.mono ?_
      rintro e w3 ⟨rfl,hb3⟩
      have HB3:=hid (HB1.out.trans ((HB.out.trans (hb3.mono HB.out.size)).mono HB1.out.size))
      clear hb3 hBw
      go_wp2
      go_ret
      exact ⟨rfl,HB3.out⟩
     ·have t2 : ((st : Int) == 0)=false:=by rw [beq_eq_false_iff_ne];omega
      clear h0
      go_wp2_with fail
      with_reducible refine HTK.out.mono ?_
      rintro e w3 ⟨rfl,hb3⟩
      have HB3:=hid (HB.out.trans (hb3.mono HB.out.size))
      clear hb3 hBw
      go_wp2
      exact ⟨⟨j+1,st,by go_num,by omega,rfl,HST8.out,HR2,HB3⟩,by simp [RowKit.intOf];omega⟩
    ·have hjn : names.length≤j:=by rw [HNN.out];omega
     have hacc : accQ l names=endN l sv:=by
      have h:=HR.out
      rw [List.drop_eq_nil_of_le hjn] at h
      rw [← run_is,h]
      rfl
     have HACC:=hid hacc
     have HSV:=hid hsv
     clear hjn hacc n0
     go_wp2
     go_loopw [33] (fun i wr=>∃ k : Nat,i=.int .i64 k∧k≤q+1∧Hid (∀ k' s,k' < k→(stsN l)[k']?=some s→sv.testBit k'=true→s.fin=false)∧Hid (Below w1.heap.size w1 wr)) (fun i _=>q+1 - (RowKit.intOf i).toNat)
     case atStart=>exact ⟨0,rfl,Nat.zero_le _,fun k' s h=>by omega,HB⟩
     case round =>
      clear HB
      obtain ⟨k,rfl,hk,HNF,HB⟩:=hrel
      by_cases hkl : k < q+1
      ·obtain ⟨s,hs⟩ : ∃ s,(stsN l)[k]?=some s:=⟨_,List.getElem?_eq_getElem (by rw [HM.out];exact hkl)⟩
       obtain ⟨g2,o2,a5,c5,a6,c6,rfl,e0,e1,e2,hr1,hr2⟩:=(HS.out.low HB.out).stateAt hs
       have HHas:=hid (nhas_calls sv k HSV.out (by omega))
       have hskip : (sv.testBit k=true→s.fin=false)→∀ k' s,k' < k+1→(stsN l)[k']?=some s→sv.testBit k'=true→s.fin=false:=fun h0 k' s' h1 h2 h3=>by
        by_cases hkk : k'=k
        ·subst hkk
         rw [hs] at h2
         cases h2
         exact h0 h3
        ·exact HNF.out k' s' (by omega) h2 h3
       have hBw:=HB1.out.trans (HB.out.mono HB1.out.size)
       have HBw:=hid hBw
       cases htb : sv.testBit k with
       | false =>
         have HN2:=hid (hskip (fun e=>by rw [htb] at e;cases e))
         rw [htb] at HHas
         clear hs hr1 hr2 hskip htb hBw
         go_wp2_with (go_at_call 27;(with_reducible refine (HHas.out _).mono ?_);rintro e w3 ⟨rfl,rfl⟩)
         exact ⟨⟨k+1,by go_num,by omega,HN2,HB⟩,by simp [RowKit.intOf];omega⟩
       | true =>
         rw [htb] at HHas
         cases hfi : s.fin with
         | true =>
           have hyes:=endN_at hs htb hfi
           obtain rfl : zz=true:=HZZ.out.symm.trans (HACC.out.trans hyes)
           rw [hfi] at e2
           clear hs hr1 hr2 hskip htb hfi hyes hBw
           go_wp2_with (go_at_call 27;(with_reducible refine (HHas.out _).mono ?_);rintro e w3 ⟨rfl,rfl⟩)
           go_ret
           exact ⟨rfl,HBw.out⟩
         | false =>
           have HN2:=hid (hskip (fun _=>hfi))
           rw [hfi] at e2
           clear hs hr1 hr2 hskip htb hfi hBw
           go_wp2_with (go_at_call 27;(with_reducible refine (HHas.out _).mono ?_);rintro e w3 ⟨rfl,rfl⟩)
           exact ⟨⟨k+1,by go_num,by omega,HN2,HB⟩,by simp [RowKit.intOf];omega⟩
      ·have hno:=endN_no (l:=l) (v:=sv) (fun k' s h1 h2=>HNF.out k' s (by
        have:=(List.getElem?_eq_some_iff.1 h1).1
        rw [HM.out] at this
        omega) h1 h2)
       obtain rfl : zz=false:=HZZ.out.symm.trans (HACC.out.trans hno)
       have HBw:=hid (HB1.out.trans (HB.out.mono HB1.out.size))
       clear hno
       go_wp2
       go_ret
       exact ⟨rfl,HBw.out⟩
end
end Go.Proofs.Ytefcbgnckgapgaa
