/- Queries in plain words: an expression is read of its own tokens. | Queries in plain words: what the document's own reader of tokens does, call by call. | Queries in plain words: the document's reader reads as the program's does. | Queries in plain words: nothing that the document's reader reads makes more tokens; how deep it is. -/
import Derived.Test.YtefcbgnckgapgaaM9
import Derived.Test.YtefcbgnckgapgaaCCw
namespace Go.Proofs.Ytefcbgnckgapgaa
open Go.Lib
section
variable {E : Nat}
theorem amongT_yes {s : RS} {t : XTok} {r : List XTok} (h : s.l=t :: r) {k : Nat} (hk : t.k=k) : ∀ (l : List (List UInt8)) (n : Nat),t.b∈l→amongT E s k n l=(n+l.idxOf t.b,⟨r,s.deep,s.wrong⟩)
 | [],_,hm=>by cases hm
 | b :: l,n,hm=>by
   by_cases hb : t.b=b
   ·rw [amongT_hit (by rw [isT_head h];simp [hk,hb]),takeT_yes h hk hb,hb,List.idxOf_cons_self]
    rfl
   ·rw [amongT_step (by rw [isT_head h];simp [hb])]
    have h2 : t.b∈l:=by
     rcases List.mem_cons.1 hm with h2|h2
     ·exact absurd h2 hb
     ·exact h2
    rw [amongT_yes h hk l (n+1) h2,List.idxOf_cons,beq_false_of_ne (fun e=>hb e.symm),cond_false]
    congr 1
    omega
theorem nextT_of {s : RS} {t : XTok} {r : List XTok} (h : s.l=t :: r) : nextT E s=t:=by
 unfold nextT
 rw [h]
theorem valT_none {s : RS} {t : XTok} {r : List XTok} (h : s.l=t :: r) (h2 : t.k≠2) (h3 : t.k≠3) (h4 : t.k=4→t.b≠[45]) (h1 : t.k=1→t.b≠bFalse∧t.b≠bTrue) : valT E s=(noV,false,s):=by
 unfold valT
 rw [nextT_of h,if_neg h2,isT_head h,if_neg (by simp;exact h4),if_neg h3,isT_head h,if_neg (by simp;exact fun e=>(h1 e).1),isT_head h,if_neg (by simp;exact fun e=>(h1 e).2)]
theorem fieldT_yes {s : RS} {t1 t2 t3 : XTok} {r : List XTok} (h : s.l=t1 :: t2 :: t3 :: r) (k1 : t1.k=1) (b1 : nameB t1.b=true) (k2 : t2.k=4) (b2 : t2.b=[46]) (k3 : t3.k=1) (b3 : nameB t3.b=true) (k : Int) : fieldT E s k=(.mk k noV t1.b t3.b [],⟨r,s.deep,s.wrong⟩):=by
 unfold fieldT
 dsimp only
 rw [nameT_yes h k1 b1]
 dsimp only
 rw [needT_yes (s:=⟨t2 :: t3 :: r,s.deep,s.wrong⟩) rfl k2 b2]
 dsimp only
 rw [nameT_yes (s:=⟨t3 :: r,s.deep,s.wrong⟩) rfl k3 b3]
theorem name_notbool {b : List UInt8} (h : nameB b=true) : b≠bFalse∧b≠bTrue:=⟨fun e=>name_key h (e ▸ by decide),fun e=>name_key h (e ▸ by decide)⟩
theorem name_notcall {b : List UInt8} (h : nameB b=true) : b ∉ callsL:=fun hm=>by
 have h1:=name_key h
 have h2:=name_ne h
 simp only [callsL,List.mem_cons,List.not_mem_nil,or_false] at hm
 rcases hm with e|e|e|e|e|e|e|e|e
 ·exact h2 e
 ·exact h2 e
 ·exact h2 e
 ·exact h1 (e ▸ by decide)
 ·exact h1 (e ▸ by decide)
 ·exact h1 (e ▸ by decide)
 ·exact h1 (e ▸ by decide)
 ·exact h2 e
 ·exact h2 e
theorem term_of {d n : Nat} {x : PEx} (hr : rightX (d+1) x=true) (h7 : ¬ (x.k=7∨x.k=8)) {s : RS} {us rest : List XTok} (hs : s.l=us++rest) (hu : us.map bare=tokX (d+1) x) : termT E (n+1) s=(x,⟨rest,s.deep,s.wrong⟩):=by
 obtain ⟨k,v,x,f,ks⟩:=x
 have h7 : ¬ (k=7∨k=8):=h7
 rw [tokX_s] at hu
 rw [termT]
 by_cases h1 : k=1
 ·subst h1
  rw [if_pos rfl] at hu
  rw [rightX_one] at hr
  simp only [Bool.and_eq_true,decide_eq_true_eq] at hr
  obtain ⟨⟨rfl,rfl,hk⟩,hw⟩:=hr
  obtain rfl:=List.eq_nil_of_length_eq_zero hk
  unfold writeB at hw
  rw [Bool.and_eq_true] at hw
  rw [val_of hw.2 hs hu,if_pos rfl]
 ·rw [if_neg h1] at hu
  by_cases h2 : k=2
  ·subst h2
   rw [if_pos rfl] at hu
   rw [rightX_field _ _ (.inl rfl)] at hr
   simp only [Bool.and_eq_true,decide_eq_true_eq] at hr
   obtain ⟨⟨rfl,hk⟩,hx,hf⟩:=hr
   obtain rfl:=List.eq_nil_of_length_eq_zero hk
   obtain ⟨t1,u1,rfl,k1,b1,hu⟩:=bare_cons hu
   obtain ⟨t2,u2,rfl,k2,b2,hu⟩:=bare_cons hu
   obtain ⟨t3,u3,rfl,k3,b3,hu⟩:=bare_cons hu
   rw [bare_nil hu] at hs
   have hs : s.l=t1 :: t2 :: t3 :: rest:=hs
   rw [valT_none hs (by omega) (by omega) (by omega) (fun _=>by rw [b1];exact name_notbool hx),if_neg (by simp),isT_head hs,if_neg (by simp;omega)]
   rw [amongT_no hs (.inr (by rw [b1];exact name_notcall hx)),if_pos rfl]
   rw [fieldT_yes hs k1 (by rw [b1];exact hx) k2 b2 k3 (by rw [b3];exact hf),b1,b3]
  ·rw [if_neg h2] at hu
   by_cases h3 : k=3
   ·subst h3
    rw [if_pos rfl] at hu
    rw [rightX_three] at hr
    simp only [Bool.and_eq_true,decide_eq_true_eq] at hr
    obtain ⟨⟨rfl,rfl,hk⟩,hx⟩:=hr
    obtain rfl:=List.eq_nil_of_length_eq_zero hk
    obtain ⟨t1,u1,rfl,k1,b1,hu⟩:=bare_cons hu
    obtain ⟨t2,u2,rfl,k2,b2,hu⟩:=bare_cons hu
    obtain ⟨t3,u3,rfl,k3,b3,hu⟩:=bare_cons hu
    obtain ⟨t4,u4,rfl,k4,b4,hu⟩:=bare_cons hu
    rw [bare_nil hu] at hs
    have hs : s.l=t1 :: t2 :: t3 :: t4 :: rest:=hs
    have hi : ((callsL.idxOf t1.b : Nat) : Int)=3:=by rw [b1];decide
    rw [valT_none hs (by omega) (by omega) (by omega) (fun _=>by rw [b1];decide),if_neg (by simp),isT_head hs,if_neg (by simp;omega)]
    rw [amongT_yes hs k1 callsL 0 (by rw [b1];decide),Nat.zero_add,if_neg (by dsimp only;omega)]
    dsimp only
    rw [hi]
    unfold callT
    dsimp only
    rw [needT_yes (s:=⟨t2 :: t3 :: t4 :: rest,s.deep,s.wrong⟩) rfl k2 b2]
    dsimp only
    rw [if_pos rfl,nameT_yes (s:=⟨t3 :: t4 :: rest,s.deep,s.wrong⟩) rfl k3 (by rw [b3];exact hx)]
    dsimp only
    rw [needT_yes (s:=⟨t4 :: rest,s.deep,s.wrong⟩) rfl k4 b4,b3]
   ·rw [if_neg h3] at hu
    by_cases h4 : k=4∨k=5∨k=6
    ·rw [if_pos h4] at hu
     rw [rightX_field _ _ (.inr h4)] at hr
     simp only [Bool.and_eq_true,decide_eq_true_eq] at hr
     obtain ⟨⟨rfl,hk⟩,hx,hf⟩:=hr
     obtain rfl:=List.eq_nil_of_length_eq_zero hk
     obtain ⟨t1,u1,rfl,k1,b1,hu⟩:=bare_cons hu
     obtain ⟨t2,u2,rfl,k2,b2,hu⟩:=bare_cons hu
     obtain ⟨t3,u3,rfl,k3,b3,hu⟩:=bare_cons hu
     obtain ⟨t4,u4,rfl,k4,b4,hu⟩:=bare_cons hu
     obtain ⟨t5,u5,rfl,k5,b5,hu⟩:=bare_cons hu
     obtain ⟨t6,u6,rfl,k6,b6,hu⟩:=bare_cons hu
     rw [bare_nil hu] at hs
     have hs : s.l=t1 :: t2 :: t3 :: t4 :: t5 :: t6 :: rest:=hs
     have hi : ((callsL.idxOf t1.b : Nat) : Int)=k:=by rw [b1];rcases h4 with rfl|rfl|rfl <;> decide
     have hm : t1.b∈callsL:=by rw [b1];rcases h4 with rfl|rfl|rfl <;> decide
     have hb : t1.b≠bFalse∧t1.b≠bTrue:=by rw [b1];rcases h4 with rfl|rfl|rfl <;> decide
     rw [valT_none hs (by omega) (by omega) (by omega) (fun _=>hb),if_neg (by simp),isT_head hs,if_neg (by simp;omega)]
     rw [amongT_yes hs k1 callsL 0 hm,Nat.zero_add,if_neg (by dsimp only;omega)]
     dsimp only
     rw [hi]
     unfold callT
     dsimp only
     rw [needT_yes (s:=⟨t2 :: t3 :: t4 :: t5 :: t6 :: rest,s.deep,s.wrong⟩) rfl k2 b2]
     dsimp only
     rw [if_neg h3,fieldT_yes (s:=⟨t3 :: t4 :: t5 :: t6 :: rest,s.deep,s.wrong⟩) rfl k3 (by rw [b3];exact hx) k4 b4 k5 (by rw [b5];exact hf)]
     dsimp only
     rw [needT_yes (s:=⟨t6 :: rest,s.deep,s.wrong⟩) rfl k6 b6,b3,b5]
    ·rw [rightX_none d k h1 h3 (by omega) h7] at hr
     cases hr
theorem sumsT_stop {tm : RS→PEx × RS} {n : Nat} {x : PEx} {s : RS} {t : XTok} {r : List XTok} (h : s.l=t :: r) (hn : t.k≠4∨t.b ∉ sumsL) : sumsT E tm n x s=(x,s):=by
 cases n with
 | zero=>rfl
 | succ n=>rw [sumsT,amongT_no h hn,if_pos rfl]
theorem tokX_ne {d : Nat} {x : PEx} (hr : rightX d x=true) : tokX d x≠[]:=by
 cases d with
 | zero =>
   cases x
   rw [rightX] at hr
   cases hr
 | succ d =>
   obtain ⟨k,v,x,f,ks⟩:=x
   rw [tokX_s]
   by_cases h1 : k=1
   ·rw [if_pos h1]
    unfold tokPV
    split
    ·simp
    ·split
     ·simp
     ·split <;> simp
   ·rw [if_neg h1]
    by_cases h2 : k=2
    ·rw [if_pos h2]
     simp
    ·rw [if_neg h2]
     by_cases h3 : k=3
     ·rw [if_pos h3]
      simp
     ·rw [if_neg h3]
      by_cases h4 : k=4∨k=5∨k=6
      ·rw [if_pos h4]
       simp
      ·rw [if_neg h4]
       by_cases h7 : k=7∨k=8
       ·rw [rightX_two d k h7,Bool.and_eq_true] at hr
        by_cases hl : ks.length=2
        ·obtain ⟨a,b,rfl⟩:=two_of hl
         simp
        ·rw [twoB_no hl] at hr
         cases hr.2
       ·rw [rightX_none d k h1 h3 (by omega) h7] at hr
        cases hr
theorem expr_of : ∀ (d : Nat) (x : PEx) (n : Nat) (s : RS) (us rest : List XTok),rightX d x=true→s.l=us++rest→us.map bare=tokX d x→s.l.length≤n→s.deep+d≤6→exprT E (termT E n) n s=sumsT E (termT E n) n x ⟨rest,s.deep,s.wrong⟩
 | 0,x,n,s,us,rest,hr,_,_,_,_=>by
   cases x
   rw [rightX] at hr
   cases hr
 | d+1,x,n,s,us,rest,hr,hs,hu,hn,hd=>by
   have hne:=tokX_ne hr
   have hlen : 0 < us.length:=by
    rw [← hu] at hne
    cases us with
    | nil=>exact absurd rfl hne
    | cons t r=>simp
   have hsl : s.l.length=us.length+rest.length:=by rw [hs,List.length_append]
   obtain ⟨m,rfl⟩ : ∃ m,n=m+1:=⟨n - 1,by omega⟩
   by_cases h7 : x.k=7∨x.k=8
   ·obtain ⟨k,v,x,f,ks⟩:=x
    have h7 : k=7∨k=8:=h7
    rw [rightX_two d k h7] at hr
    simp only [Bool.and_eq_true,decide_eq_true_eq] at hr
    obtain ⟨⟨rfl,rfl,rfl⟩,hr⟩:=hr
    by_cases hl : ks.length=2
    ·obtain ⟨a,b,rfl⟩:=two_of hl
     have h8 : rightX d a=true∧rightX d b=true:=by
      unfold twoB at hr
      simpa using hr
     rw [tokX_s,if_neg (by omega),if_neg (by omega),if_neg (by omega),if_neg (by omega)] at hu
     dsimp only at hu
     obtain ⟨ua,uz,rfl,hua,huz⟩:=bare_app hu
     obtain ⟨t,ub,rfl,tk,tb,hub⟩:=bare_cons huz
     have hs1 : s.l=ua++(t :: (ub++rest)):=by rw [hs];simp
     have hl1 : s.l.length=ua.length+(1+(ub.length+rest.length)):=by rw [hs1];simp;omega
     rw [expr_of d a (m+1) s ua (t :: (ub++rest)) h8.1 hs1 hua hn (by omega)]
     have hi : ((sumsL.idxOf t.b : Nat) : Int)=k:=by rw [tb];rcases h7 with rfl|rfl <;> decide
     have hm : t.b∈sumsL:=by rw [tb];rcases h7 with rfl|rfl <;> decide
     rw [sumsT,amongT_yes (s:=⟨t :: (ub++rest),s.deep,s.wrong⟩) rfl tk sumsL 0 hm,Nat.zero_add,if_neg (by dsimp only;omega)]
     dsimp only
     rw [hi]
     have hT : termT E (m+1) ⟨ub++rest,s.deep,s.wrong⟩=(b,⟨rest,s.deep,s.wrong⟩):=by
      by_cases hb7 : b.k=7∨b.k=8
      ·rw [if_pos hb7] at hub
       obtain ⟨t2,u2,rfl,k2,b2,hub⟩:=bare_cons hub
       obtain ⟨u3,u4,rfl,hu3,hu4⟩:=bare_app hub
       obtain ⟨t5,u5,rfl,k5,b5,hu5⟩:=bare_cons hu4
       obtain rfl:=bare_nil hu5
       have hl2 : (t2 :: (u3++[t5])).length=u3.length+2:=by simp
       have hs2 : (⟨(t2 :: (u3++[t5]))++rest,s.deep,s.wrong⟩ : RS).l=t2 :: (u3++(t5 :: rest)):=by simp
       rw [termT,valT_none hs2 (by omega) (by omega) (fun _=>by rw [b2];decide) (by omega),if_neg (by simp),isT_head hs2,if_pos (by simp [k2,b2])]
       unfold innerT
       dsimp only
       rw [if_neg (by omega),needT_yes hs2 k2 b2]
       dsimp only
       rw [expr_of d b m ⟨u3++(t5 :: rest),s.deep+1,s.wrong⟩ u3 (t5 :: rest) h8.2 rfl hu3 (by simp;omega) (by dsimp only;omega)]
       rw [sumsT_stop (s:=⟨t5 :: rest,s.deep+1,s.wrong⟩) rfl (.inr (by rw [b5];decide))]
       dsimp only
       rw [Nat.add_sub_cancel,needT_yes (s:=⟨t5 :: rest,s.deep,s.wrong⟩) rfl k5 b5]
      ·rw [if_neg hb7] at hub
       cases d with
       | zero =>
         cases b
         have:=h8.2
         rw [rightX] at this
         cases this
       | succ d=>exact term_of h8.2 hb7 rfl hub
     rw [hT]
     exact sumsT_fuel (fun s=>termT_le _ s) m (m+1) _ _ (by dsimp only;omega) (by dsimp only;omega)
    ·rw [twoB_no hl] at hr
     cases hr
   ·unfold exprT
    rw [term_of hr h7 hs hu]
end
end Go.Proofs.Ytefcbgnckgapgaa
namespace Go.Proofs.Ytefcbgnckgapgaa
open Go.Lib
structure DS where
 l : List XTok
 deep : Nat
 bad : Bool
def dFail (s : DS) : DS:=⟨s.l,s.deep,true⟩
def dIs (s : DS) (k : Nat) (b : List UInt8) : Bool:=!s.bad && (match s.l with
 | []=>false
 | t :: _=>decide (t.k=k∧t.b=b))
def dSkip (s : DS) : DS:=⟨s.l.tail,s.deep,s.bad⟩
def dTake (s : DS) (k : Nat) (b : List UInt8) : DS:=if dIs s k b then dSkip s else s
def dMust (s : DS) (k : Nat) (b : List UInt8) : DS:=if dIs s k b then dSkip s else dFail s
def dHead (s : DS) : List UInt8:=match s.l with
 | []=>[]
 | t :: _=>t.b
def dKind (s : DS) : Nat:=match s.l with
 | []=>0
 | t :: _=>t.k
def dNamed (s : DS) : Bool:=!s.bad && (match s.l with
 | []=>false
 | t :: _=>decide (t.k=1) && nameB t.b)
def dName (s : DS) : List UInt8 × DS:=if dNamed s then (dHead s,dSkip s) else ([],dFail s)
def decN (b : List UInt8) : Nat:=decF 0 b
def dNum (s : DS) : Int × DS:=if s.bad=false∧dKind s=2 then ((decN (dHead s) : Nat),dSkip s) else (0,dFail s)
def dField (s : DS) (k : Int) : PEx × DS:=(.mk k noV (dName s).1 (dName (dMust (dName s).2 4 [46])).1 [],(dName (dMust (dName s).2 4 [46])).2)
def dCount (s : DS) : PEx × DS:=(.mk 3 noV (dName (dMust s 4 [40])).1 [] [],dMust (dName (dMust s 4 [40])).2 4 [41])
def dCall (s : DS) (k : Int) : PEx × DS:=((dField (dMust s 4 [40]) k).1,dMust (dField (dMust s 4 [40]) k).2 4 [41])
def valX (v : PVal) : PEx:=.mk 1 v [] [] []
def wCount : List UInt8:=[99,111,117,110,116]
def wSum : List UInt8:=[115,117,109]
def wMin : List UInt8:=[109,105,110]
def wMax : List UInt8:=[109,97,120]
def dSums (term : DS→PEx × DS) : Nat→PEx→DS→PEx × DS
 | 0,x,s=>(x,s)
 | n+1,x,s =>
   if dIs s 4 [43] then dSums term n (.mk 7 noV [] [] [x,(term (dSkip s)).1]) (term (dSkip s)).2
   else if dIs s 4 [45] then dSums term n (.mk 8 noV [] [] [x,(term (dSkip s)).1]) (term (dSkip s)).2
   else (x,s)
def dExpr (term : DS→PEx × DS) (n : Nat) (s : DS) : PEx × DS:=dSums term n (term s).1 (term s).2
def dOpen (s : DS) : DS:=⟨s.l.tail,s.deep+1,s.bad⟩
def dShut (s : DS) : DS:=⟨s.l,s.deep - 1,s.bad⟩
def dInner (term : DS→PEx × DS) (n : Nat) (s : DS) : PEx × DS:=((dExpr term n (dOpen s)).1,dShut (dMust (dExpr term n (dOpen s)).2 4 [41]))
def dTerm : Nat→DS→PEx × DS
 | 0,s=>(noX,s)
 | n+1,s =>
   if s.bad=true∨s.l=[] then (noX,dFail s)
   else if dKind s=2 then (valX ⟨1,(dNum s).1,[]⟩,(dNum s).2)
   else if dKind s=3 then (valX ⟨2,0,dHead s⟩,dSkip s)
   else if dIs s 4 [45] then (valX ⟨1,-(dNum (dSkip s)).1,[]⟩,(dNum (dSkip s)).2)
   else if dIs s 1 bTrue then (valX ⟨3,1,[]⟩,dSkip s)
   else if dIs s 1 bFalse then (valX ⟨3,0,[]⟩,dSkip s)
   else if dIs s 1 wCount then dCount (dSkip s)
   else if dIs s 1 wSum then dCall (dSkip s) 4
   else if dIs s 1 wMin then dCall (dSkip s) 5
   else if dIs s 1 wMax then dCall (dSkip s) 6
   else if dIs s 4 [40]=true∧s.deep < 6 then dInner (dTerm n) n s
   else dField s 2
def dRow {α : Type} (b : List UInt8) (one : DS→α × DS) : Nat→List α→DS→List α × DS
 | 0,l,s=>(l,s)
 | n+1,l,s=>if dIs s 1 b then dRow b one n (l++[(one (dSkip s)).1]) (one (dSkip s)).2 else (l,s)
def dRow1 {α : Type} (b : List UInt8) (one : DS→α × DS) (n : Nat) (s : DS) : List α × DS:=dRow b one n [(one s).1] (one s).2
def dAmong (s : DS) (k : Nat) : Nat→List (List UInt8)→Nat × DS
 | _,[]=>(0,s)
 | n,b :: r=>if dIs s k b then (n,dSkip s) else dAmong s k (n+1) r
def dChoose (s : DS) (k : Nat) (l : List (List UInt8)) : Nat × DS:=if (dAmong s k 1 l).1=0 then (0,dFail (dAmong s k 1 l).2) else dAmong s k 1 l
def dCmps : List (List UInt8):=[[61],[33,61],[60],[60,61],[62],[62,61]]
def dPicks : List (List UInt8):=[[97,110,121],[110,101,120,116],[115,116,114,105,99,116]]
def dMode (s : DS) : Int × DS:=if dIs s 4 [43] then (2,dSkip s) else if dIs s 4 [63] then (3,dSkip s) else (1,s)
def dItem (n : Nat) (s : DS) : PIt × DS :=
 let a:=dRow1 wOr dName n (dTake s 1 wNot)
 let b:=dName a.2
 let c:=dMode b.2
 (⟨dIs s 1 wNot,a.1,b.1,c.1⟩,c.2)
def dPred (n : Nat) (s : DS) : PPr × DS :=
 let a:=dExpr (dTerm n) n s
 let c:=dChoose a.2 4 dCmps
 let b:=dExpr (dTerm n) n c.2
 (⟨a.1,(c.1 : Int),b.1⟩,b.2)
def dQuery (n : Nat) (s : DS) : PQu × DS :=
 let a:=dRow1 wThen (dItem n) n (dMust s 1 wSeq)
 let p:=if dIs a.2 1 wWhere then dRow1 wAnd (dPred n) n (dSkip a.2) else ([],a.2)
 let c:=dNum (dMust p.2 1 wWithin)
 let b:=if dIs c.2 1 wBy then dName (dSkip c.2) else ([],c.2)
 let k:=if dIs b.2 1 wPick then dChoose (dSkip b.2) 1 dPicks else (1,b.2)
 (⟨a.1,p.1,c.1,b.1,(k.1 : Int)⟩,if k.2.l=[] then k.2 else dFail k.2)
def WTok (t : XTok) : Prop:=(t.k=1→wordB t.b=true)∧(t.k=2→numZ t.b=(decN t.b : Nat)∧(∀ c∈t.b,xdigit c=true)∧decN t.b≤1099511627776)∧(t.k=1∨t.k=4→t.b≠[])
def Oks (s : DS) : Prop:=s.bad=false∧s.deep≤6∧∀ t∈s.l,WTok t
def dAt (E : Nat) (s : DS) : Nat:=match s.l with
 | []=>E
 | t :: _=>t.at_
def lift (s : DS) : RS:=⟨s.l,s.deep,-1⟩
def Alk (E : Nat) {α : Type} (p : α × DS) (q : α × RS) : Prop:=(Oks p.2∧q.2=lift p.2∧p.1=q.1)∨(p.2.bad=true∧q.2.l=[]∧q.2.wrong=dAt E p.2)
structure GoodD (E : Nat) {α : Type} (f : DS→α × DS) (g : RS→α × RS) : Prop where
 good : ∀ s,Oks s→Alk E (f s) (g (lift s))
 badl : ∀ s,s.bad=true→(f s).2.bad=true∧(f s).2.l=s.l
 badr : ∀ s : RS,s.l=[]→s.wrong≠-1→(g s).2.l=[]∧(g s).2.wrong=s.wrong
section
variable {E : Nat} {α β : Type}
theorem dAt_l {s s' : DS} (h : s'.l=s.l) : dAt E s'=dAt E s:=by unfold dAt;rw [h]
theorem GoodD.bind {f : DS→α × DS} {g : RS→α × RS} {f' : α→DS→β × DS} {g' : α→RS→β × RS} (h : GoodD E f g) (h' : ∀ a,GoodD E (f' a) (g' a)) : GoodD E (fun s=>f' (f s).1 (f s).2) (fun s=>g' (g s).1 (g s).2) :=
 ⟨fun s hs=>by
   rcases h.good s hs with ⟨h1,h2,h3⟩|⟨h1,h2,h3⟩
   ·show Alk E (f' (f s).1 (f s).2) (g' (g (lift s)).1 (g (lift s)).2)
    rw [h2,← h3]
    exact (h' _).good _ h1
   ·refine .inr ?_
    have a1:=(h' (f s).1).badl _ h1
    have a2:=(h' (g (lift s)).1).badr _ h2 (by rw [h3];omega)
    exact ⟨a1.1,a2.1,by rw [a2.2,h3,dAt_l a1.2]⟩,
  fun s hs=>by
   have a:=h.badl s hs
   have b:=(h' (f s).1).badl _ a.1
   exact ⟨b.1,b.2.trans a.2⟩,
  fun s hl hw=>by
   have a:=h.badr s hl hw
   have b:=(h' (g s).1).badr _ a.1 (by rw [a.2];exact hw)
   exact ⟨b.1,b.2.trans a.2⟩⟩
theorem GoodD.pure (a : α) : GoodD E (fun s=>(a,s)) (fun s=>(a,s)):=⟨fun _ hs=>.inl ⟨hs,rfl,rfl⟩,fun _ hs=>⟨hs,rfl⟩,fun _ hl _=>⟨hl,rfl⟩⟩
theorem GoodD.map {f : DS→α × DS} {g : RS→α × RS} (h : GoodD E f g) (p : α→β) : GoodD E (fun s=>(p (f s).1,(f s).2)) (fun s=>(p (g s).1,(g s).2)):=h.bind (f':=fun a s=>(p a,s)) (g':=fun a s=>(p a,s)) (fun a=>GoodD.pure (p a))
theorem GoodD.ite {f f' : DS→α × DS} {g g' : RS→α × RS} {c : DS→Bool} {c' : RS→Bool} (hc : ∀ s,Oks s→c s=c' (lift s)) (h : GoodD E f g) (h' : GoodD E f' g') : GoodD E (fun s=>if c s then f s else f' s) (fun s=>if c' s then g s else g' s) :=
 ⟨fun s hs=>by
   show Alk E (if c s then f s else f' s) (if c' (lift s) then g (lift s) else g' (lift s))
   rw [hc s hs]
   split
   ·exact h.good s hs
   ·exact h'.good s hs,
  fun s hs=>by
   show (if c s then f s else f' s).2.bad=true∧(if c s then f s else f' s).2.l=s.l
   split
   ·exact h.badl s hs
   ·exact h'.badl s hs,
  fun s hl hw=>by
   show (if c' s then g s else g' s).2.l=[]∧(if c' s then g s else g' s).2.wrong=s.wrong
   split
   ·exact h.badr s hl hw
   ·exact h'.badr s hl hw⟩
theorem dn_of {s : RS} (hl : s.l=[]) (hw : s.wrong≠-1) : Dn (·≠-1) s:=⟨hl,hw⟩
theorem is_bad {s : DS} (h : s.bad=true) (k : Nat) (b : List UInt8) : dIs s k b=false:=by unfold dIs;rw [h];rfl
theorem is_same {s : DS} (h : Oks s) {k : Nat} (hk : k≠0) (b : List UInt8) : dIs s k b=isT E (lift s) k b:=by
 unfold dIs isT nextT lift
 rw [h.1]
 dsimp only
 cases s.l with
 | nil=>simp;intro e;exact absurd e.symm hk
 | cons t r=>simp
theorem Oks.skip {s : DS} (h : Oks s) : Oks (dSkip s):=⟨h.1,h.2.1,fun t ht=>h.2.2 t (List.mem_of_mem_tail ht)⟩
theorem failGD (a : α) : GoodD E (fun s=>(a,dFail s)) (fun s=>(a,failT E s)) :=
 ⟨fun s hs=>.inr ⟨rfl,rfl,by
   show (failT E (lift s)).wrong=((dAt E (dFail s) : Nat) : Int)
   unfold failT lift dAt dFail nextT
   rw [if_pos rfl]
   dsimp only
   cases s.l <;> rfl⟩,fun s hs=>⟨rfl,rfl⟩,fun s hl hw=>by
   refine ⟨rfl,?_⟩
   show (failT E s).wrong=_
   unfold failT
   rw [if_neg hw]⟩
theorem takeGD {k : Nat} (hk : k≠0) (b : List UInt8) : GoodD E (fun s=>(dIs s k b,dTake s k b)) (fun s=>takeT E s k b) :=
 ⟨fun s hs=>by
   show Alk E (dIs s k b,dTake s k b) (takeT E (lift s) k b)
   unfold dTake takeT
   rw [is_same (E:=E) hs hk b]
   cases hz : isT E (lift s) k b with
   | true=>exact .inl ⟨hs.skip,rfl,rfl⟩
   | false=>exact .inl ⟨hs,rfl,rfl⟩,
  fun s hs=>by
   show (dTake s k b).bad=true∧(dTake s k b).l=s.l
   unfold dTake
   rw [is_bad hs]
   exact ⟨hs,rfl⟩,
  fun s hl hw=>by
   show (takeT E s k b).2.l=[]∧(takeT E s k b).2.wrong=s.wrong
   rw [(dn_of hl hw).take hk]
   exact ⟨hl,rfl⟩⟩
theorem mustGD {k : Nat} (hk : k≠0) (b : List UInt8) : GoodD E (fun s=>((),dMust s k b)) (fun s=>((),needT E s k b)) :=
 ⟨fun s hs=>by
   show Alk E ((),dMust s k b) ((),needT E (lift s) k b)
   unfold dMust needT takeT
   rw [is_same (E:=E) hs hk b]
   cases hz : isT E (lift s) k b with
   | true=>exact .inl ⟨hs.skip,rfl,rfl⟩
   | false=>exact (failGD ()).good s hs,
  fun s hs=>by
   show (dMust s k b).bad=true∧(dMust s k b).l=s.l
   unfold dMust
   rw [is_bad hs]
   exact ⟨rfl,rfl⟩,
  fun s hl hw=>by
   show (needT E s k b).l=[]∧(needT E s k b).wrong=s.wrong
   unfold needT
   rw [(dn_of hl hw).take hk]
   exact (failGD (α:=Unit) ()).badr s hl hw⟩
theorem skipGD {k : Nat} {b : List UInt8} (hk : k≠0) {f f' : DS→α × DS} {g g' : RS→α × RS} (h : GoodD E f g) (h' : GoodD E f' g') : GoodD E (fun s=>if dIs s k b then f (dSkip s) else f' s) (fun s=>if isT E s k b then g (takeT E s k b).2 else g' s) :=
 ⟨fun s hs=>by
   show Alk E (if dIs s k b then f (dSkip s) else f' s) (if isT E (lift s) k b then g (takeT E (lift s) k b).2 else g' (lift s))
   rw [is_same (E:=E) hs hk b]
   cases hz : isT E (lift s) k b with
   | true =>
     have e : (takeT E (lift s) k b).2=lift (dSkip s):=by unfold takeT;rw [hz];rfl
     rw [if_pos rfl,if_pos rfl,e]
     exact h.good _ hs.skip
   | false=>exact h'.good s hs,
  fun s hs=>by
   show (if dIs s k b then f (dSkip s) else f' s).2.bad=true∧(if dIs s k b then f (dSkip s) else f' s).2.l=s.l
   rw [is_bad hs]
   exact h'.badl s hs,
  fun s hl hw=>by
   show (if isT E s k b then g (takeT E s k b).2 else g' s).2.l=[]∧(if isT E s k b then g (takeT E s k b).2 else g' s).2.wrong=s.wrong
   rw [(dn_of hl hw).isT hk]
   exact h'.badr s hl hw⟩
theorem word_key {b : List UInt8} (h : wordB b=true) : nameB b=!keyB b:=by unfold nameB;rw [h];rfl
theorem ofT_bad {s : RS} (hl : s.l=[]) (hw : s.wrong≠-1) {k : Nat} (hk : k≠0) : (ofT E s k).2.l=[]∧(ofT E s k).2.wrong=s.wrong:=by
 unfold ofT
 rw [(dn_of hl hw).next,if_neg (fun e=>hk e.symm)]
 exact (failGD (α:=Unit) ()).badr s hl hw
theorem nameGD : GoodD E dName (nameT E) :=
 ⟨fun s hs=>by
   unfold dName dNamed
   rw [hs.1]
   cases hl : s.l with
   | nil =>
     have e : nameT E (lift s)=([],failT E (lift s)):=by
      unfold nameT nextT lift ofT nextT
      dsimp only
      rw [hl]
      rfl
     rw [e]
     exact (failGD []).good s hs
   | cons t r =>
     have hw:=hs.2.2 t (by rw [hl];exact List.mem_cons_self)
     have hl' : (lift s).l=t :: r:=hl
     have hn : nextT E (lift s)=t:=nextT_of hl'
     by_cases h1 : t.k=1
     ·have hk:=word_key (hw.1 h1)
      rw [show (!false && (decide (t.k=1) && nameB t.b))=!keyB t.b by rw [hk];simp [h1]]
      cases hb : keyB t.b with
      | false =>
        rw [nameT_yes hl' h1 (by rw [hk,hb];rfl)]
        refine .inl ⟨hs.skip,?_,?_⟩
        ·show _=lift (dSkip s)
         unfold lift dSkip
         rw [hl]
         rfl
        ·show dHead s=t.b
         unfold dHead
         rw [hl]
      | true =>
        have e : nameT E (lift s)=([],failT E (failT E (lift s))):=by
         unfold nameT
         rw [hn,hb,if_pos rfl]
         unfold ofT
         rw [show (nextT E (failT E (lift s))).k=0 from rfl,if_neg (by decide)]
        rw [e]
        have a:=(failGD (E:=E) ([] : List UInt8)).good s hs
        have b:=(failGD (E:=E) ([] : List UInt8)).badr (failT E (lift s)) rfl (by
         rcases a with ⟨a1,_⟩|⟨_,_,a3⟩
         ·exact absurd (show true=false from a1.1) (by decide)
         ·have : (failT E (lift s)).wrong=_:=a3
          rw [this];omega)
        rcases a with ⟨a1,_⟩|⟨a1,a2,a3⟩
        ·exact absurd (show true=false from a1.1) (by decide)
        ·exact .inr ⟨a1,b.1,b.2.trans a3⟩
     ·rw [show (!false && (decide (t.k=1) && nameB t.b))=false by simp [h1]]
      have a:=(failGD (E:=E) ([] : List UInt8)).good s hs
      rcases a with ⟨a1,_⟩|⟨a1,a2,a3⟩
      ·exact absurd (show true=false from a1.1) (by decide)
      have a3' : (failT E (lift s)).wrong=dAt E (dFail s):=a3
      refine .inr ⟨a1,?_⟩
      unfold nameT
      rw [hn]
      split
      ·have b:=ofT_bad (E:=E) (s:=failT E (lift s)) rfl (by rw [a3'];omega) (k:=1) (by decide)
       exact ⟨b.1,b.2.trans a3⟩
      ·unfold ofT
       rw [hn,if_neg h1]
       exact ⟨rfl,a3⟩,
  fun s hs=>by
   unfold dName dNamed
   rw [hs]
   exact ⟨rfl,rfl⟩,
  fun s hl hw=>by
   unfold nameT
   rw [(dn_of hl hw).next]
   rw [show keyB ([] : List UInt8)=false by decide]
   exact ofT_bad hl hw (by decide)⟩
theorem numGD : GoodD E dNum (numberT E) :=
 ⟨fun s hs=>by
   unfold dNum dKind
   rw [hs.1]
   cases hl : s.l with
   | nil =>
     have e : numberT E (lift s)=(0,failT E (lift s)):=by
      have e2 : ofT E (lift s) 2=([],failT E (lift s)):=by
       unfold ofT nextT
       rw [show (lift s).l=[] from hl]
       rfl
      unfold numberT
      rw [e2]
      rw [show numZ []=0 by decide]
     rw [e,if_neg (by simp)]
     exact (failGD 0).good s hs
   | cons t r =>
     have hw:=hs.2.2 t (by rw [hl];exact List.mem_cons_self)
     have hl' : (lift s).l=t :: r:=hl
     dsimp only
     by_cases h2 : t.k=2
     ·rw [if_pos ⟨rfl,h2⟩,numberT_yes hl' h2]
      refine .inl ⟨hs.skip,?_,?_⟩
      ·show _=lift (dSkip s)
       unfold lift dSkip
       rw [hl]
       rfl
      ·show ((decN (dHead s) : Nat) : Int)=numZ t.b
       unfold dHead
       rw [hl,(hw.2.1 h2).1]
     ·rw [if_neg (fun e=>h2 e.2)]
      have e : numberT E (lift s)=(0,failT E (lift s)):=by
       unfold numberT ofT
       rw [nextT_of hl',if_neg h2]
       rw [show numZ []=0 by decide]
      rw [e]
      exact (failGD 0).good s hs,
  fun s hs=>by
   unfold dNum
   rw [hs,if_neg (by simp)]
   exact ⟨rfl,rfl⟩,
  fun s hl hw=>ofT_bad hl hw (by decide)⟩
end
end Go.Proofs.Ytefcbgnckgapgaa
namespace Go.Proofs.Ytefcbgnckgapgaa
open Go.Lib
section
variable {E : Nat}
theorem isT_nil {s : DS} (h : Oks s) {k : Nat} (hk : k=1∨k=4) : isT E (lift s) k []=false:=by
 unfold isT nextT lift
 dsimp only
 cases hl : s.l with
 | nil=>simp;omega
 | cons t r =>
   have hw:=(h.2.2 t (by rw [hl];exact List.mem_cons_self)).2.2
   simp
   intro e
   exact hw (by omega)
theorem among_one {s : DS} (h : Oks s) {k : Nat} (hk : k≠0) (n : Nat) (b : List UInt8) (r : List (List UInt8)) : amongT E (lift s) k n (b :: r)=if dIs s k b then (n,lift (dSkip s)) else amongT E (lift s) k (n+1) r:=by
 rw [amongT,is_same (E:=E) h hk b]
 cases hz : isT E (lift s) k b with
 | true =>
   have e : (takeT E (lift s) k b).2=lift (dSkip s):=by unfold takeT;rw [hz];rfl
   rw [if_pos rfl,if_pos rfl,e]
 | false=>rfl
theorem among_like {s : DS} (h : Oks s) {k : Nat} (hk : k=1∨k=4) (es : List (List UInt8)) (he : ∀ b∈es,b=[]) : ∀ (l : List (List UInt8)) (n : Nat),amongT E (lift s) k n (l++es)=((dAmong s k n l).1,lift (dAmong s k n l).2)
 | [],n=>by
   rw [List.nil_append,amongT_none k es n (fun b hb=>by rw [he b hb];exact isT_nil h hk)]
   rfl
 | b :: l,n=>by
   rw [List.cons_append,among_one h (by omega),dAmong]
   split
   ·rfl
   ·exact among_like h hk es he l (n+1)
theorem dAmong_bad {s : DS} (h : s.bad=true) (k : Nat) : ∀ (l : List (List UInt8)) (n : Nat),dAmong s k n l=(0,s)
 | [],n=>rfl
 | b :: l,n=>by
   rw [dAmong,is_bad h]
   exact dAmong_bad h k l (n+1)
theorem dAmong_oks {s : DS} (h : Oks s) (k : Nat) : ∀ (l : List (List UInt8)) (n : Nat),Oks (dAmong s k n l).2
 | [],n=>h
 | b :: l,n=>by
   rw [dAmong]
   split
   ·exact h.skip
   ·exact dAmong_oks h k l (n+1)
theorem amongGD {k : Nat} (hk : k=1∨k=4) (l es : List (List UInt8)) (he : ∀ b∈es,b=[]) (n : Nat) : GoodD E (fun s=>dAmong s k n l) (fun s=>amongT E s k n (l++es)) :=
 ⟨fun s hs=>by
   show Alk E (dAmong s k n l) (amongT E (lift s) k n (l++es))
   rw [among_like hs hk es he l n]
   exact .inl ⟨dAmong_oks hs k l n,rfl,rfl⟩,
  fun s hs=>by
   show (dAmong s k n l).2.bad=true∧(dAmong s k n l).2.l=s.l
   rw [dAmong_bad hs]
   exact ⟨hs,rfl⟩,
  fun s hl hw=>by
   show (amongT E s k n (l++es)).2.l=[]∧(amongT E s k n (l++es)).2.wrong=s.wrong
   rw [(dn_of hl hw).among (by omega)]
   exact ⟨hl,rfl⟩⟩
theorem among_skip {s : RS} {k : Nat} (h : isT E s k []=false) (n : Nat) (r : List (List UInt8)) : amongT E s k n ([] :: r)=amongT E s k (n+1) r:=amongT_step h
theorem chooseGD {k : Nat} (hk : k=1∨k=4) (l es : List (List UInt8)) (he : ∀ b∈es,b=[]) : GoodD E (fun s=>dChoose s k l) (fun s=>chooseT E s k ([] :: (l++es))) :=
 ⟨fun s hs=>by
   show Alk E (dChoose s k l) (chooseT E (lift s) k ([] :: (l++es)))
   unfold dChoose chooseT
   rw [among_skip (isT_nil hs hk),among_like hs hk es he l 1]
   dsimp only
   split
   ·exact (failGD 0).good _ (dAmong_oks hs k l 1)
   ·exact .inl ⟨dAmong_oks hs k l 1,rfl,rfl⟩,
  fun s hs=>by
   show (dChoose s k l).2.bad=true∧(dChoose s k l).2.l=s.l
   unfold dChoose
   rw [dAmong_bad hs,if_pos rfl]
   exact ⟨rfl,rfl⟩,
  fun s hl hw=>by
   show (chooseT E s k ([] :: (l++es))).2.l=[]∧(chooseT E s k ([] :: (l++es))).2.wrong=s.wrong
   unfold chooseT
   rw [(dn_of hl hw).among (by omega),if_pos rfl]
   exact (failGD (α:=Unit) ()).badr s hl hw⟩
theorem modeGD : GoodD E dMode (fun s=>(if (amongT E s 4 0 modesL).1=0 then 1 else ((amongT E s 4 0 modesL).1 : Int),(amongT E s 4 0 modesL).2)) :=
 ⟨fun s hs=>by
   have h0:=isT_nil (E:=E) hs (k:=4) (.inr rfl)
   show Alk E (dMode s) (if (amongT E (lift s) 4 0 modesL).1=0 then 1 else ((amongT E (lift s) 4 0 modesL).1 : Int),(amongT E (lift s) 4 0 modesL).2)
   have e : amongT E (lift s) 4 0 modesL=((dAmong s 4 2 [[43],[63]]).1,lift (dAmong s 4 2 [[43],[63]]).2):=by
    unfold modesL
    rw [among_skip h0,among_skip h0]
    exact among_like hs (.inr rfl) [[],[],[],[],[]] (by simp) [[43],[63]] 2
   rw [e]
   unfold dMode dAmong dAmong dAmong
   cases dIs s 4 [43] with
   | true=>exact .inl ⟨hs.skip,rfl,rfl⟩
   | false =>
     cases dIs s 4 [63] with
     | true=>exact .inl ⟨hs.skip,rfl,rfl⟩
     | false=>exact .inl ⟨hs,rfl,rfl⟩,
  fun s hs=>by
   unfold dMode
   rw [is_bad hs,is_bad hs]
   exact ⟨hs,rfl⟩,
  fun s hl hw=>by
   show (amongT E s 4 0 modesL).2.l=[]∧(amongT E s 4 0 modesL).2.wrong=s.wrong
   rw [(dn_of hl hw).among (by decide)]
   exact ⟨hl,rfl⟩⟩
theorem fieldGD (k : Int) : GoodD E (fun s=>dField s k) (fun s=>fieldT E s k) :=
 nameGD.bind (f':=fun a s=>(PEx.mk k noV a (dName (dMust s 4 [46])).1 [],(dName (dMust s 4 [46])).2)) (g':=fun a s=>(PEx.mk k noV a (nameT E (needT E s 4 [46])).1 [],(nameT E (needT E s 4 [46])).2))
  (fun a=>((mustGD (E:=E) (k:=4) (by decide) [46]).bind (f':=fun _ s=>dName s) (g':=fun _ s=>nameT E s) (fun _=>nameGD)).map (fun b=>PEx.mk k noV a b []))
theorem shutGD {α : Type} {f : DS→α × DS} {g : RS→α × RS} (h : GoodD E f g) (b : List UInt8) : GoodD E (fun s=>((f s).1,dMust (f s).2 4 b)) (fun s=>((g s).1,needT E (g s).2 4 b)) :=
 h.bind (f':=fun a s=>(a,dMust s 4 b)) (g':=fun a s=>(a,needT E s 4 b)) (fun a=>(mustGD (E:=E) (k:=4) (by decide) b).map (fun _=>a))
theorem countGD : GoodD E dCount (fun s=>callT E s 3) :=
 shutGD (f:=fun s=>(PEx.mk 3 noV (dName (dMust s 4 [40])).1 [] [],(dName (dMust s 4 [40])).2)) (g:=fun s=>(PEx.mk 3 noV (nameT E (needT E s 4 [40])).1 [] [],(nameT E (needT E s 4 [40])).2))
  (((mustGD (E:=E) (k:=4) (by decide) [40]).bind (f':=fun _ s=>dName s) (g':=fun _ s=>nameT E s) (fun _=>nameGD)).map (fun a=>PEx.mk 3 noV a [] [])) [41]
theorem callGD {k : Int} (hk : k≠3) : GoodD E (fun s=>dCall s k) (fun s=>callT E s k):=by
 have h:=shutGD (f:=fun s=>dField (dMust s 4 [40]) k) (g:=fun s=>fieldT E (needT E s 4 [40]) k) ((mustGD (E:=E) (k:=4) (by decide) [40]).bind (f':=fun _ s=>dField s k) (g':=fun _ s=>fieldT E s k) (fun _=>fieldGD k)) [41]
 have e : (fun s=>callT E s k)=fun s=>((fieldT E (needT E s 4 [40]) k).1,needT E (fieldT E (needT E s 4 [40]) k).2 4 [41]):=by
  funext s
  unfold callT
  dsimp only
  rw [if_neg hk]
 rw [e]
 exact h
theorem among_sums {s : DS} (h : Oks s) : amongT E (lift s) 4 0 sumsL=if dIs s 4 [43] then (7,lift (dSkip s)) else if dIs s 4 [45] then (8,lift (dSkip s)) else (0,lift s):=by
 have h0:=isT_nil (E:=E) h (k:=4) (.inr rfl)
 unfold sumsL
 rw [among_skip h0,among_skip h0,among_skip h0,among_skip h0,among_skip h0,among_skip h0,among_skip h0,among_one h (by decide),among_one h (by decide)]
 rfl
theorem sumsGD {tm : DS→PEx × DS} {tm' : RS→PEx × RS} (ht : GoodD E tm tm') : ∀ (n : Nat) (x : PEx),GoodD E (fun s=>dSums tm n x s) (fun s=>sumsT E tm' n x s)
 | 0,x=>GoodD.pure x
 | n+1,x=>⟨fun s hs=>by
    show Alk E (dSums tm (n+1) x s) (sumsT E tm' (n+1) x (lift s))
    rw [dSums,sumsT,among_sums hs]
    cases h43 : dIs s 4 [43] with
    | true=>exact (ht.bind (f':=fun a s=>dSums tm n (.mk 7 noV [] [] [x,a]) s) (g':=fun a s=>sumsT E tm' n (.mk 7 noV [] [] [x,a]) s) (fun a=>sumsGD ht n _)).good (dSkip s) hs.skip
    | false =>
      cases h45 : dIs s 4 [45] with
      | true=>exact (ht.bind (f':=fun a s=>dSums tm n (.mk 8 noV [] [] [x,a]) s) (g':=fun a s=>sumsT E tm' n (.mk 8 noV [] [] [x,a]) s) (fun a=>sumsGD ht n _)).good (dSkip s) hs.skip
      | false=>exact .inl ⟨hs,rfl,rfl⟩,
   fun s hs=>by
    show (dSums tm (n+1) x s).2.bad=true∧(dSums tm (n+1) x s).2.l=s.l
    rw [dSums,is_bad hs,is_bad hs]
    exact ⟨hs,rfl⟩,
   fun s hl hw=>by
    show (sumsT E tm' (n+1) x s).2.l=[]∧(sumsT E tm' (n+1) x s).2.wrong=s.wrong
    rw [sumsT,(dn_of hl hw).among (by decide),if_pos rfl]
    exact ⟨hl,rfl⟩⟩
theorem exprGD {tm : DS→PEx × DS} {tm' : RS→PEx × RS} (ht : GoodD E tm tm') (n : Nat) : GoodD E (fun s=>dExpr tm n s) (fun s=>exprT E tm' n s) :=
 ht.bind (f':=fun a s=>dSums tm n a s) (g':=fun a s=>sumsT E tm' n a s) (fun a=>sumsGD ht n a)
theorem innerGD {tm : DS→PEx × DS} {tm' : RS→PEx × RS} (ht : GoodD E tm tm') (n : Nat) : GoodD E (fun s=>((dExpr tm n s).1,dShut (dMust (dExpr tm n s).2 4 [41]))) (fun s=>((exprT E tm' n s).1,needT E ⟨(exprT E tm' n s).2.l,(exprT E tm' n s).2.deep - 1,(exprT E tm' n s).2.wrong⟩ 4 [41])) :=
 (exprGD ht n).bind (f':=fun a s=>(a,dShut (dMust s 4 [41]))) (g':=fun a s=>(a,needT E ⟨s.l,s.deep - 1,s.wrong⟩ 4 [41])) (fun a=>⟨fun s hs=>by
   have hs' : Oks (dShut s):=⟨hs.1,by show s.deep - 1≤6;have:=hs.2.1;omega,hs.2.2⟩
   have h:=((mustGD (E:=E) (k:=4) (by decide) [41]).map (fun _=>a)).good (dShut s) hs'
   have e : dMust (dShut s) 4 [41]=dShut (dMust s 4 [41]):=by
    unfold dMust dIs dShut
    dsimp only
    split <;> rfl
   rw [e] at h
   exact h,
  fun s hs=>by
   show (dShut (dMust s 4 [41])).bad=true∧(dShut (dMust s 4 [41])).l=s.l
   unfold dMust
   rw [is_bad hs]
   exact ⟨rfl,rfl⟩,
  fun s hl hw=>(mustGD (E:=E) (k:=4) (by decide) [41]).badr ⟨s.l,s.deep - 1,s.wrong⟩ hl hw⟩)
theorem inner_is (tm' : RS→PEx × RS) (n : Nat) (s : RS) : innerT E tm' n s=(fun s=>((exprT E tm' n s).1,needT E ⟨(exprT E tm' n s).2.l,(exprT E tm' n s).2.deep - 1,(exprT E tm' n s).2.wrong⟩ 4 [41])) ⟨(needT E (if s.deep=6 then failT E s else s) 4 [40]).l,(needT E (if s.deep=6 then failT E s else s) 4 [40]).deep+1,(needT E (if s.deep=6 then failT E s else s) 4 [40]).wrong⟩:=rfl
theorem inner_badr {tm : DS→PEx × DS} {tm' : RS→PEx × RS} (ht : GoodD E tm tm') (n : Nat) {s : RS} (hl : s.l=[]) (hw : s.wrong≠-1) : (innerT E tm' n s).2.l=[]∧(innerT E tm' n s).2.wrong=s.wrong:=by
 rw [inner_is]
 have h1 : (if s.deep=6 then failT E s else s).l=[]∧(if s.deep=6 then failT E s else s).wrong=s.wrong:=by
  split
  ·exact (failGD (α:=Unit) ()).badr s hl hw
  ·exact ⟨hl,rfl⟩
 have h2:=(mustGD (E:=E) (k:=4) (by decide) [40]).badr _ h1.1 (by rw [h1.2];exact hw)
 have h3:=(innerGD ht n).badr ⟨(needT E (if s.deep=6 then failT E s else s) 4 [40]).l,(needT E (if s.deep=6 then failT E s else s) 4 [40]).deep+1,(needT E (if s.deep=6 then failT E s else s) 4 [40]).wrong⟩ h2.1 (by show (needT E (if s.deep=6 then failT E s else s) 4 [40]).wrong≠-1;rw [show (needT E (if s.deep=6 then failT E s else s) 4 [40]).wrong=_ from h2.2,h1.2];exact hw)
 refine ⟨h3.1,h3.2.trans ?_⟩
 show (needT E (if s.deep=6 then failT E s else s) 4 [40]).wrong=s.wrong
 rw [show (needT E (if s.deep=6 then failT E s else s) 4 [40]).wrong=_ from h2.2,h1.2]
theorem termT_val {n : Nat} {s s' : RS} {v : PVal} (h : valT E s=(v,true,s')) : termT E (n+1) s=(valX v,s'):=by
 rw [termT,h]
 rfl
theorem termT_not {n : Nat} {s : RS} (h : valT E s=(noV,false,s)) : termT E (n+1) s=if isT E s 4 [40] then innerT E (termT E n) n s else if (amongT E s 1 0 callsL).1=0 then fieldT E (amongT E s 1 0 callsL).2 2 else callT E (amongT E s 1 0 callsL).2 (amongT E s 1 0 callsL).1:=by
 rw [termT,h]
 rfl
theorem among_callsL {s : DS} (h : Oks s) : amongT E (lift s) 1 0 callsL=if dIs s 1 wCount then (3,lift (dSkip s)) else if dIs s 1 wSum then (4,lift (dSkip s)) else if dIs s 1 wMin then (5,lift (dSkip s)) else if dIs s 1 wMax then (6,lift (dSkip s)) else (0,lift s):=by
 have h0:=isT_nil (E:=E) h (k:=1) (.inl rfl)
 unfold callsL
 rw [among_skip h0,among_skip h0,among_skip h0,among_one h (by decide),among_one h (by decide),among_one h (by decide),among_one h (by decide),among_skip h0,among_skip h0]
 rfl
theorem val_nil {s : RS} (hl : s.l=[]) : valT E s=(noV,false,s):=by
 have hd : Dn (fun _=>True) s:=⟨hl,trivial⟩
 unfold valT
 rw [hd.next,hd.isT (by decide),hd.isT (by decide),hd.isT (by decide)]
 rfl
theorem field_fails {s : DS} (hs : Oks s) (hn : dNamed s=false) (k : Int) : (fieldT E (lift s) k).2.l=[]∧(fieldT E (lift s) k).2.wrong=dAt E s∧(dField s k).2.bad=true∧(dField s k).2.l=s.l:=by
 have h1 : dName s=([],dFail s):=by unfold dName;rw [hn];rfl
 have h2:=(mustGD (E:=E) (k:=4) (by decide) [46]).badl (dFail s) rfl
 have h3:=(nameGD (E:=E)).badl (dMust (dFail s) 4 [46]) h2.1
 have h4 : (dField s k).2=(dName (dMust (dFail s) 4 [46])).2:=by unfold dField;rw [h1]
 have h5 : (dField s k).2.bad=true∧(dField s k).2.l=s.l:=by rw [h4];exact ⟨h3.1,h3.2.trans h2.2⟩
 rcases (fieldGD (E:=E) k).good s hs with ⟨a1,_⟩|⟨_,a2,a3⟩
 ·exact absurd a1.1 (by rw [h5.1];decide)
 ·exact ⟨a2,by rw [a3,dAt_l h5.2],h5⟩
theorem is_head {s : DS} {t : XTok} {r : List XTok} (hb : s.bad=false) (hl : s.l=t :: r) (k : Nat) (b : List UInt8) : dIs s k b=decide (t.k=k∧t.b=b):=by
 unfold dIs
 rw [hb,hl]
 rfl
theorem termGD : ∀ n : Nat,GoodD E (dTerm n) (termT E n)
 | 0=>GoodD.pure noX
 | n+1=>⟨fun s hs=>by
    have ih:=termGD n
    cases hl : s.l with
    | nil =>
      rw [dTerm,if_pos (.inr hl),termT_not (val_nil (show (lift s).l=[] from hl))]
      have hd : Dn (fun _=>True) (lift s):=⟨hl,trivial⟩
      rw [hd.isT (by decide),hd.among (by decide),if_neg (by decide),if_pos rfl]
      obtain ⟨h1,h2,h3,h4⟩:=field_fails (E:=E) hs (by unfold dNamed;rw [hl];simp) 2
      exact .inr ⟨rfl,h1,h2⟩
    | cons t r =>
      have hl' : (lift s).l=t :: r:=hl
      have hi:=is_head hs.1 hl
      have hti:=fun k b=>isT_head (E:=E) hl' k b
      have hw:=hs.2.2 t (by rw [hl];exact List.mem_cons_self)
      have hkd : dKind s=t.k:=by unfold dKind;rw [hl]
      have hhd : dHead s=t.b:=by unfold dHead;rw [hl]
      have hsk : lift (dSkip s)=⟨r,(lift s).deep,(lift s).wrong⟩:=by unfold lift dSkip;rw [hl];rfl
      have htk : ∀ {k : Nat} {b : List UInt8},t.k=k→t.b=b→(takeT E (lift s) k b).2=lift (dSkip s):=fun h1 h2=>by rw [takeT_yes hl' h1 h2,hsk]
      rw [dTerm,if_neg (by rw [hs.1,hl];simp),hkd]
      by_cases h2 : t.k=2
      ·rw [if_pos h2]
       have e : valT E (lift s)=(⟨1,(numberT E (lift s)).1,[]⟩,true,(numberT E (lift s)).2):=by unfold valT;rw [nextT_of hl',if_pos h2]
       rw [termT_val e]
       exact (numGD.map (fun m=>valX ⟨1,m,[]⟩)).good s hs
      rw [if_neg h2]
      by_cases h3 : t.k=3
      ·rw [if_pos h3]
       have e : valT E (lift s)=(⟨2,0,t.b⟩,true,lift (dSkip s)):=by
        unfold valT
        rw [nextT_of hl',if_neg h2,hti,if_neg (by simp [h3]),if_pos h3,ofT_yes hl' h3,hsk]
       rw [termT_val e,hhd]
       exact .inl ⟨hs.skip,rfl,rfl⟩
      rw [if_neg h3]
      by_cases hm : t.k=4∧t.b=[45]
      ·have e : valT E (lift s)=(⟨1,-(numberT E (lift (dSkip s))).1,[]⟩,true,(numberT E (lift (dSkip s))).2):=by
        unfold valT
        rw [nextT_of hl',if_neg h2,hti,if_pos (by simp [hm]),htk hm.1 hm.2]
       rw [hi,if_pos (by simp [hm]),termT_val e]
       exact (numGD.map (fun m=>valX ⟨1,-m,[]⟩)).good (dSkip s) hs.skip
      rw [hi,if_neg (by simpa using hm)]
      by_cases ht : t.k=1∧t.b=bTrue
      ·have e : valT E (lift s)=(⟨3,1,[]⟩,true,lift (dSkip s)):=by
        unfold valT
        rw [nextT_of hl',if_neg h2,hti,if_neg (by simpa using hm),if_neg h3,hti,if_neg (by rw [ht.2];simp;intro _;decide),hti,if_pos (by simp [ht]),htk ht.1 ht.2]
       rw [hi,if_pos (by simp [ht]),termT_val e]
       exact .inl ⟨hs.skip,rfl,rfl⟩
      rw [hi,if_neg (by simpa using ht)]
      by_cases hf : t.k=1∧t.b=bFalse
      ·have e : valT E (lift s)=(⟨3,0,[]⟩,true,lift (dSkip s)):=by
        unfold valT
        rw [nextT_of hl',if_neg h2,hti,if_neg (by simpa using hm),if_neg h3,hti,if_pos (by simp [hf]),htk hf.1 hf.2]
       rw [hi,if_pos (by simp [hf]),termT_val e]
       exact .inl ⟨hs.skip,rfl,rfl⟩
      rw [hi,if_neg (by simpa using hf)]
      rw [termT_not (valT_none hl' h2 h3 (fun a b=>hm ⟨a,b⟩) (fun a=>⟨fun b=>hf ⟨a,b⟩,fun b=>ht ⟨a,b⟩⟩))]
      have hac:=among_callsL (E:=E) hs
      by_cases hc3 : t.k=1∧t.b=wCount
      ·rw [hi 1 wCount,if_pos (show decide (t.k=1∧t.b=wCount)=true by simp [hc3])] at hac
       rw [hi 1 wCount,if_pos (show decide (t.k=1∧t.b=wCount)=true by simp [hc3]),hti,if_neg (show ¬ decide (t.k=4∧t.b=[40])=true by simp [hc3.1]),hac,if_neg (show ¬ 3=0 by decide)]
       exact countGD.good (dSkip s) hs.skip
      rw [hi 1 wCount,if_neg (show ¬ decide (t.k=1∧t.b=wCount)=true by simpa using hc3)] at hac
      rw [hi 1 wCount,if_neg (show ¬ decide (t.k=1∧t.b=wCount)=true by simpa using hc3)]
      by_cases hc4 : t.k=1∧t.b=wSum
      ·rw [hi 1 wSum,if_pos (show decide (t.k=1∧t.b=wSum)=true by simp [hc4])] at hac
       rw [hi 1 wSum,if_pos (show decide (t.k=1∧t.b=wSum)=true by simp [hc4]),hti,if_neg (show ¬ decide (t.k=4∧t.b=[40])=true by simp [hc4.1]),hac,if_neg (show ¬ 4=0 by decide)]
       exact (callGD (k:=4) (by decide)).good (dSkip s) hs.skip
      rw [hi 1 wSum,if_neg (show ¬ decide (t.k=1∧t.b=wSum)=true by simpa using hc4)] at hac
      rw [hi 1 wSum,if_neg (show ¬ decide (t.k=1∧t.b=wSum)=true by simpa using hc4)]
      by_cases hc5 : t.k=1∧t.b=wMin
      ·rw [hi 1 wMin,if_pos (show decide (t.k=1∧t.b=wMin)=true by simp [hc5])] at hac
       rw [hi 1 wMin,if_pos (show decide (t.k=1∧t.b=wMin)=true by simp [hc5]),hti,if_neg (show ¬ decide (t.k=4∧t.b=[40])=true by simp [hc5.1]),hac,if_neg (show ¬ 5=0 by decide)]
       exact (callGD (k:=5) (by decide)).good (dSkip s) hs.skip
      rw [hi 1 wMin,if_neg (show ¬ decide (t.k=1∧t.b=wMin)=true by simpa using hc5)] at hac
      rw [hi 1 wMin,if_neg (show ¬ decide (t.k=1∧t.b=wMin)=true by simpa using hc5)]
      by_cases hc6 : t.k=1∧t.b=wMax
      ·rw [hi 1 wMax,if_pos (show decide (t.k=1∧t.b=wMax)=true by simp [hc6])] at hac
       rw [hi 1 wMax,if_pos (show decide (t.k=1∧t.b=wMax)=true by simp [hc6]),hti,if_neg (show ¬ decide (t.k=4∧t.b=[40])=true by simp [hc6.1]),hac,if_neg (show ¬ 6=0 by decide)]
       exact (callGD (k:=6) (by decide)).good (dSkip s) hs.skip
      rw [hi 1 wMax,if_neg (show ¬ decide (t.k=1∧t.b=wMax)=true by simpa using hc6)] at hac
      rw [hi 1 wMax,if_neg (show ¬ decide (t.k=1∧t.b=wMax)=true by simpa using hc6)]
      rw [hac,hti]
      dsimp only
      rw [if_pos (rfl : (0 : Nat)=0)]
      by_cases hp : t.k=4∧t.b=[40]
      ·have h40 : dIs s 4 [40]=true:=by rw [hi];simp [hp]
       rw [if_pos (show decide (t.k=4∧t.b=[40])=true by simp [hp])]
       by_cases hd : s.deep < 6
       ·rw [if_pos ⟨h40,hd⟩,inner_is,if_neg (show ¬ (lift s).deep=6 by show ¬ s.deep=6;omega),needT_yes hl' hp.1 hp.2]
        have ho : Oks (dOpen s):=⟨hs.1,by show s.deep+1≤6;omega,fun u hu=>hs.2.2 u (List.mem_of_mem_tail hu)⟩
        have h:=(innerGD ih n).good (dOpen s) ho
        have e : lift (dOpen s)=⟨r,(lift s).deep+1,(lift s).wrong⟩:=by unfold lift dOpen;rw [hl];rfl
        rw [e] at h
        exact h
       ·rw [if_neg (fun h=>hd h.2)]
        have hd6 : s.deep=6:=by have:=hs.2.1;omega
        obtain ⟨h1,h2,h3,h4⟩:=field_fails (E:=E) hs (by unfold dNamed;rw [hl];simp [hp.1]) 2
        have hfw : (failT E (lift s)).wrong=dAt E s:=by
         unfold failT lift dAt
         rw [if_pos rfl,show nextT E ⟨s.l,s.deep,-1⟩=t from nextT_of hl,hl]
        have hb:=inner_badr ih n (s:=failT E (lift s)) rfl (by rw [hfw];omega)
        have e : innerT E (termT E n) n (lift s)=innerT E (termT E n) n (failT E (lift s)):=by
         rw [inner_is,inner_is,if_pos (show (lift s).deep=6 from hd6),if_pos (show (failT E (lift s)).deep=6 from hd6)]
         have e2 : failT E (failT E (lift s))=failT E (lift s):=by
          rw [show failT E (failT E (lift s))=⟨[],(failT E (lift s)).deep,(failT E (failT E (lift s))).wrong⟩ from rfl,((failGD (E:=E) (α:=Unit) ()).badr (failT E (lift s)) rfl (by rw [hfw];omega)).2]
          rfl
         rw [e2]
        rw [e]
        exact .inr ⟨h3,hb.1,by rw [hb.2,hfw,dAt_l h4]⟩
      ·have h40 : dIs s 4 [40]=false:=by rw [hi];simpa using hp
       rw [if_neg (fun h=>by rw [h40] at h;cases h.1),if_neg (show ¬ decide (t.k=4∧t.b=[40])=true by simpa using hp)]
       exact (fieldGD 2).good s hs,
   fun s hs=>by
    rw [dTerm,if_pos (.inl hs)]
    exact ⟨rfl,rfl⟩,
   fun s hl hw=>by
    rw [termT_not (val_nil hl),(dn_of hl hw).isT (by decide),(dn_of hl hw).among (by decide),if_neg (by decide),if_pos rfl]
    exact (fieldGD 2).badr s hl hw⟩
theorem rowGD {α : Type} {one : DS→α × DS} {one' : RS→α × RS} (ho : GoodD E one one') (b : List UInt8) : ∀ (n : Nat) (l : List α),GoodD E (fun s=>dRow b one n l s) (fun s=>rowT E b one' n l s)
 | 0,l=>GoodD.pure l
 | n+1,l=>by
   have h:=skipGD (E:=E) (k:=1) (b:=b) (by decide) (ho.bind (f':=fun a s=>dRow b one n (l++[a]) s) (g':=fun a s=>rowT E b one' n (l++[a]) s) (fun a=>rowGD ho b n (l++[a]))) (GoodD.pure l)
   exact h
theorem row1GD {α : Type} {one : DS→α × DS} {one' : RS→α × RS} (ho : GoodD E one one') (b : List UInt8) (n : Nat) : GoodD E (fun s=>dRow1 b one n s) (fun s=>row1T E b one' n s) :=
 ho.bind (f':=fun a s=>dRow b one n [a] s) (g':=fun a s=>rowT E b one' n [a] s) (fun a=>rowGD ho b n [a])
theorem itemGD (n : Nat) : GoodD E (dItem n) (itemT E n):=by
 have h:=(takeGD (E:=E) (k:=1) (by decide) wNot).bind (f':=fun c s=>(PIt.mk c (dRow1 wOr dName n s).1 (dName (dRow1 wOr dName n s).2).1 (dMode (dName (dRow1 wOr dName n s).2).2).1,(dMode (dName (dRow1 wOr dName n s).2).2).2))
  (g':=fun c s=>(PIt.mk c (row1T E wOr (nameT E) n s).1 (nameT E (row1T E wOr (nameT E) n s).2).1 (if (amongT E (nameT E (row1T E wOr (nameT E) n s).2).2 4 0 modesL).1=0 then 1 else ((amongT E (nameT E (row1T E wOr (nameT E) n s).2).2 4 0 modesL).1 : Int)),(amongT E (nameT E (row1T E wOr (nameT E) n s).2).2 4 0 modesL).2))
  (fun c=>(row1GD nameGD wOr n).bind (f':=fun ns s=>(PIt.mk c ns (dName s).1 (dMode (dName s).2).1,(dMode (dName s).2).2)) (g':=fun ns s=>(PIt.mk c ns (nameT E s).1 (if (amongT E (nameT E s).2 4 0 modesL).1=0 then 1 else ((amongT E (nameT E s).2 4 0 modesL).1 : Int)),(amongT E (nameT E s).2 4 0 modesL).2))
    (fun ns=>nameGD.bind (f':=fun x s=>(PIt.mk c ns x (dMode s).1,(dMode s).2)) (g':=fun x s=>(PIt.mk c ns x (if (amongT E s 4 0 modesL).1=0 then 1 else ((amongT E s 4 0 modesL).1 : Int)),(amongT E s 4 0 modesL).2))
      (fun x=>modeGD.map (fun m=>PIt.mk c ns x m))))
 exact h
theorem predGD (n : Nat) : GoodD E (dPred n) (predT E n):=by
 have h:=(exprGD (E:=E) (termGD n) n).bind (f':=fun a s=>(PPr.mk a ((dChoose s 4 dCmps).1 : Int) (dExpr (dTerm n) n (dChoose s 4 dCmps).2).1,(dExpr (dTerm n) n (dChoose s 4 dCmps).2).2))
  (g':=fun a s=>(PPr.mk a ((chooseT E s 4 cmpsL).1 : Int) (exprT E (termT E n) n (chooseT E s 4 cmpsL).2).1,(exprT E (termT E n) n (chooseT E s 4 cmpsL).2).2))
  (fun a=>((chooseGD (E:=E) (k:=4) (.inr rfl) dCmps [[],[]] (by simp)).map (fun c=>(c : Int))).bind (f':=fun (c : Int) s=>(PPr.mk a c (dExpr (dTerm n) n s).1,(dExpr (dTerm n) n s).2)) (g':=fun (c : Int) s=>(PPr.mk a c (exprT E (termT E n) n s).1,(exprT E (termT E n) n s).2))
    (fun c=>(exprGD (E:=E) (termGD n) n).map (fun b=>PPr.mk a c b)))
 exact h
theorem endGD : GoodD E (fun s=>((),if s.l=[] then s else dFail s)) (fun s=>((),if s.l=[] then s else failT E s)) :=
 ⟨fun s hs=>by
   show Alk E ((),if s.l=[] then s else dFail s) ((),if (lift s).l=[] then lift s else failT E (lift s))
   by_cases hl : s.l=[]
   ·rw [if_pos hl,if_pos (show (lift s).l=[] from hl)]
    exact .inl ⟨hs,rfl,rfl⟩
   ·rw [if_neg hl,if_neg (show ¬ (lift s).l=[] from hl)]
    exact (failGD ()).good s hs,
  fun s hs=>by
   show (if s.l=[] then s else dFail s).bad=true∧(if s.l=[] then s else dFail s).l=s.l
   split
   ·exact ⟨hs,rfl⟩
   ·exact ⟨rfl,rfl⟩,
  fun s hl hw=>by
   show (if s.l=[] then s else failT E s).l=[]∧(if s.l=[] then s else failT E s).wrong=s.wrong
   rw [if_pos hl]
   exact ⟨hl,rfl⟩⟩
def dQ4 (its : List PIt) (prs : List PPr) (n : Int) (b : List UInt8) (s : DS) : PQu × DS :=
 (⟨its,prs,n,b,(((if dIs s 1 wPick then dChoose (dSkip s) 1 dPicks else (1,s) : Nat × DS)).1 : Int)⟩,if (if dIs s 1 wPick then dChoose (dSkip s) 1 dPicks else (1,s) : Nat × DS).2.l=[] then (if dIs s 1 wPick then dChoose (dSkip s) 1 dPicks else (1,s) : Nat × DS).2 else dFail (if dIs s 1 wPick then dChoose (dSkip s) 1 dPicks else (1,s) : Nat × DS).2)
def tQ4 (E : Nat) (its : List PIt) (prs : List PPr) (n : Int) (b : List UInt8) (s : RS) : PQu × RS :=
 (⟨its,prs,n,b,(((if isT E s 1 wPick then chooseT E (takeT E s 1 wPick).2 1 picksL else (1,s) : Nat × RS)).1 : Int)⟩,if (if isT E s 1 wPick then chooseT E (takeT E s 1 wPick).2 1 picksL else (1,s) : Nat × RS).2.l=[] then (if isT E s 1 wPick then chooseT E (takeT E s 1 wPick).2 1 picksL else (1,s) : Nat × RS).2 else failT E (if isT E s 1 wPick then chooseT E (takeT E s 1 wPick).2 1 picksL else (1,s) : Nat × RS).2)
theorem q4GD (its : List PIt) (prs : List PPr) (n : Int) (b : List UInt8) : GoodD E (dQ4 its prs n b) (tQ4 E its prs n b) :=
 ((skipGD (E:=E) (k:=1) (b:=wPick) (by decide) (chooseGD (E:=E) (k:=1) (.inl rfl) dPicks [[],[],[],[],[]] (by simp)) (GoodD.pure 1)).map (fun k=>(k : Int))).bind
   (f':=fun (k : Int) s=>(PQu.mk its prs n b k,if s.l=[] then s else dFail s)) (g':=fun (k : Int) s=>(PQu.mk its prs n b k,if s.l=[] then s else failT E s)) (fun k=>endGD.map (fun _=>PQu.mk its prs n b k))
def dQ3 (its : List PIt) (prs : List PPr) (n : Int) (s : DS) : PQu × DS:=dQ4 its prs n (if dIs s 1 wBy then dName (dSkip s) else ([],s)).1 (if dIs s 1 wBy then dName (dSkip s) else ([],s)).2
def tQ3 (E : Nat) (its : List PIt) (prs : List PPr) (n : Int) (s : RS) : PQu × RS:=tQ4 E its prs n (if isT E s 1 wBy then nameT E (takeT E s 1 wBy).2 else ([],s)).1 (if isT E s 1 wBy then nameT E (takeT E s 1 wBy).2 else ([],s)).2
theorem q3GD (its : List PIt) (prs : List PPr) (n : Int) : GoodD E (dQ3 its prs n) (tQ3 E its prs n) :=
 (skipGD (E:=E) (k:=1) (b:=wBy) (by decide) nameGD (GoodD.pure [])).bind (f':=fun b s=>dQ4 its prs n b s) (g':=fun b s=>tQ4 E its prs n b s) (fun b=>q4GD its prs n b)
def dQ2 (its : List PIt) (prs : List PPr) (s : DS) : PQu × DS:=dQ3 its prs (dNum (dMust s 1 wWithin)).1 (dNum (dMust s 1 wWithin)).2
def tQ2 (E : Nat) (its : List PIt) (prs : List PPr) (s : RS) : PQu × RS:=tQ3 E its prs (numberT E (needT E s 1 wWithin)).1 (numberT E (needT E s 1 wWithin)).2
theorem q2GD (its : List PIt) (prs : List PPr) : GoodD E (dQ2 its prs) (tQ2 E its prs) :=
 ((mustGD (E:=E) (k:=1) (by decide) wWithin).bind (f':=fun _ s=>dNum s) (g':=fun _ s=>numberT E s) (fun _=>numGD)).bind (f':=fun n s=>dQ3 its prs n s) (g':=fun n s=>tQ3 E its prs n s) (fun n=>q3GD its prs n)
def dQ1 (n : Nat) (its : List PIt) (s : DS) : PQu × DS:=dQ2 its (if dIs s 1 wWhere then dRow1 wAnd (dPred n) n (dSkip s) else ([],s)).1 (if dIs s 1 wWhere then dRow1 wAnd (dPred n) n (dSkip s) else ([],s)).2
def tQ1 (E n : Nat) (its : List PIt) (s : RS) : PQu × RS:=tQ2 E its (if isT E s 1 wWhere then row1T E wAnd (predT E n) n (takeT E s 1 wWhere).2 else ([],s)).1 (if isT E s 1 wWhere then row1T E wAnd (predT E n) n (takeT E s 1 wWhere).2 else ([],s)).2
theorem q1GD (n : Nat) (its : List PIt) : GoodD E (dQ1 n its) (tQ1 E n its) :=
 (skipGD (E:=E) (k:=1) (b:=wWhere) (by decide) (row1GD (predGD n) wAnd n) (GoodD.pure [])).bind (f':=fun prs s=>dQ2 its prs s) (g':=fun prs s=>tQ2 E its prs s) (fun prs=>q2GD its prs)
theorem queryGD (n : Nat) : GoodD E (dQuery n) (queryT E n):=by
 have h:=((mustGD (E:=E) (k:=1) (by decide) wSeq).bind (f':=fun _ s=>dRow1 wThen (dItem n) n s) (g':=fun _ s=>row1T E wThen (itemT E n) n s) (fun _=>row1GD (itemGD n) wThen n)).bind (f':=fun its s=>dQ1 n its s) (g':=fun its s=>tQ1 E n its s) (fun its=>q1GD n its)
 exact h
end
end Go.Proofs.Ytefcbgnckgapgaa
namespace Go.Proofs.Ytefcbgnckgapgaa
open Go.Lib
section
variable {s : DS}
theorem dSkip_le : (dSkip s).l.length≤s.l.length:=by unfold dSkip;rw [List.length_tail];omega
theorem dSkip_deep : (dSkip s).deep=s.deep:=rfl
theorem dFail_le : (dFail s).l.length≤s.l.length:=Nat.le_refl _
theorem dFail_deep : (dFail s).deep=s.deep:=rfl
theorem dTake_le (k : Nat) (b : List UInt8) : (dTake s k b).l.length≤s.l.length:=by
 unfold dTake
 split
 ·exact dSkip_le
 ·exact Nat.le_refl _
theorem dTake_deep (k : Nat) (b : List UInt8) : (dTake s k b).deep=s.deep:=by
 unfold dTake
 split <;> rfl
theorem dIs_cons {k : Nat} {b : List UInt8} (h : dIs s k b=true) : s.bad=false∧∃ t r,s.l=t :: r:=by
 unfold dIs at h
 rw [Bool.and_eq_true,Bool.not_eq_true'] at h
 refine ⟨h.1,?_⟩
 cases hl : s.l with
 | nil=>rw [hl] at h;simp at h
 | cons t r=>exact ⟨t,r,rfl⟩
theorem dSkip_lt {k : Nat} {b : List UInt8} (h : dIs s k b=true) : (dSkip s).l.length < s.l.length:=by
 obtain ⟨_,t,r,hl⟩:=dIs_cons h
 unfold dSkip
 rw [hl]
 simp
theorem dTake_no {k : Nat} {b : List UInt8} (h : dIs s k b=false) : dTake s k b=s:=by unfold dTake;rw [h];rfl
theorem dTake_yes {k : Nat} {b : List UInt8} (h : dIs s k b=true) : dTake s k b=dSkip s:=by unfold dTake;rw [h];rfl
theorem dMust_le (k : Nat) (b : List UInt8) : (dMust s k b).l.length≤s.l.length:=by
 unfold dMust
 split
 ·exact dSkip_le
 ·exact Nat.le_refl _
theorem dMust_deep (k : Nat) (b : List UInt8) : (dMust s k b).deep=s.deep:=by
 unfold dMust
 split <;> rfl
theorem dName_le : (dName s).2.l.length≤s.l.length:=by
 unfold dName
 split
 ·exact dSkip_le
 ·exact Nat.le_refl _
theorem dName_deep : (dName s).2.deep=s.deep:=by
 unfold dName
 split <;> rfl
theorem dNum_le : (dNum s).2.l.length≤s.l.length:=by
 unfold dNum
 split
 ·exact dSkip_le
 ·exact Nat.le_refl _
theorem dNum_deep : (dNum s).2.deep=s.deep:=by
 unfold dNum
 split <;> rfl
theorem dField_le (k : Int) : (dField s k).2.l.length≤s.l.length:=Nat.le_trans dName_le (Nat.le_trans (dMust_le _ _) dName_le)
theorem dField_deep (k : Int) : (dField s k).2.deep=s.deep:=by
 unfold dField
 dsimp only
 rw [dName_deep,dMust_deep,dName_deep]
theorem dCount_le : (dCount s).2.l.length≤s.l.length:=Nat.le_trans (dMust_le _ _) (Nat.le_trans dName_le (dMust_le _ _))
theorem dCount_deep : (dCount s).2.deep=s.deep:=by
 unfold dCount
 dsimp only
 rw [dMust_deep,dName_deep,dMust_deep]
theorem dCall_le (k : Int) : (dCall s k).2.l.length≤s.l.length:=Nat.le_trans (dMust_le _ _) (Nat.le_trans (dField_le k) (dMust_le _ _))
theorem dCall_deep (k : Int) : (dCall s k).2.deep=s.deep:=by
 unfold dCall
 dsimp only
 rw [dMust_deep,dField_deep,dMust_deep]
theorem dAmong_le (k : Nat) : ∀ (l : List (List UInt8)) (n : Nat),(dAmong s k n l).2.l.length≤s.l.length
 | [],_=>Nat.le_refl _
 | b :: l,n=>by
   rw [dAmong]
   split
   ·exact dSkip_le
   ·exact dAmong_le k l (n+1)
theorem dAmong_deep (k : Nat) : ∀ (l : List (List UInt8)) (n : Nat),(dAmong s k n l).2.deep=s.deep
 | [],_=>rfl
 | b :: l,n=>by
   rw [dAmong]
   split
   ·rfl
   ·exact dAmong_deep k l (n+1)
theorem dChoose_le (k : Nat) (l : List (List UInt8)) : (dChoose s k l).2.l.length≤s.l.length:=by
 unfold dChoose
 split
 ·exact dAmong_le k l 1
 ·exact dAmong_le k l 1
theorem dChoose_deep (k : Nat) (l : List (List UInt8)) : (dChoose s k l).2.deep=s.deep:=by
 unfold dChoose
 split
 ·exact dAmong_deep k l 1
 ·exact dAmong_deep k l 1
theorem dMode_le : (dMode s).2.l.length≤s.l.length:=by
 unfold dMode
 split
 ·exact dSkip_le
 ·split
  ·exact dSkip_le
  ·exact Nat.le_refl _
theorem dMode_deep : (dMode s).2.deep=s.deep:=by
 unfold dMode
 split
 ·rfl
 ·split <;> rfl
end
theorem dSums_le {tm : DS→PEx × DS} (ht : ∀ s,(tm s).2.l.length≤s.l.length) : ∀ (n : Nat) (x : PEx) (s : DS),(dSums tm n x s).2.l.length≤s.l.length
 | 0,x,s=>Nat.le_refl _
 | n+1,x,s=>by
   rw [dSums]
   split
   ·exact Nat.le_trans (dSums_le ht n _ _) (Nat.le_trans (ht _) dSkip_le)
   ·split
    ·exact Nat.le_trans (dSums_le ht n _ _) (Nat.le_trans (ht _) dSkip_le)
    ·exact Nat.le_refl _
theorem dSums_deep {tm : DS→PEx × DS} (ht : ∀ s,(tm s).2.deep=s.deep) : ∀ (n : Nat) (x : PEx) (s : DS),(dSums tm n x s).2.deep=s.deep
 | 0,x,s=>rfl
 | n+1,x,s=>by
   rw [dSums]
   split
   ·rw [dSums_deep ht n _ _,ht];rfl
   ·split
    ·rw [dSums_deep ht n _ _,ht];rfl
    ·rfl
theorem dExpr_le {tm : DS→PEx × DS} (ht : ∀ s,(tm s).2.l.length≤s.l.length) (n : Nat) (s : DS) : (dExpr tm n s).2.l.length≤s.l.length:=Nat.le_trans (dSums_le ht n _ _) (ht s)
theorem dExpr_deep {tm : DS→PEx × DS} (ht : ∀ s,(tm s).2.deep=s.deep) (n : Nat) (s : DS) : (dExpr tm n s).2.deep=s.deep:=(dSums_deep ht n _ _).trans (ht s)
theorem dInner_le {tm : DS→PEx × DS} (ht : ∀ s,(tm s).2.l.length≤s.l.length) (n : Nat) (s : DS) : (dInner tm n s).2.l.length≤s.l.length:=by
 refine Nat.le_trans (dMust_le _ _) (Nat.le_trans (dExpr_le ht n _) ?_)
 show s.l.tail.length≤_
 rw [List.length_tail]
 omega
theorem dInner_deep {tm : DS→PEx × DS} (ht : ∀ s,(tm s).2.deep=s.deep) (n : Nat) (s : DS) : (dInner tm n s).2.deep=s.deep:=by
 show (dMust (dExpr tm n (dOpen s)).2 4 [41]).deep - 1=s.deep
 rw [dMust_deep,dExpr_deep ht]
 show s.deep+1 - 1=s.deep
 omega
theorem dTerm_le : ∀ (n : Nat) (s : DS),(dTerm n s).2.l.length≤s.l.length
 | 0,s=>Nat.le_refl _
 | n+1,s=>by
   rw [dTerm]
   repeat' split
   ·exact Nat.le_refl _
   ·exact dNum_le
   ·exact dSkip_le
   ·exact Nat.le_trans dNum_le dSkip_le
   ·exact dSkip_le
   ·exact dSkip_le
   ·exact Nat.le_trans dCount_le dSkip_le
   ·exact Nat.le_trans (dCall_le _) dSkip_le
   ·exact Nat.le_trans (dCall_le _) dSkip_le
   ·exact Nat.le_trans (dCall_le _) dSkip_le
   ·exact dInner_le (dTerm_le n) n s
   ·exact dField_le 2
theorem dTerm_deep : ∀ (n : Nat) (s : DS),(dTerm n s).2.deep=s.deep
 | 0,s=>rfl
 | n+1,s=>by
   rw [dTerm]
   repeat' split
   ·rfl
   ·exact dNum_deep
   ·rfl
   ·exact dNum_deep
   ·rfl
   ·rfl
   ·exact dCount_deep
   ·exact dCall_deep _
   ·exact dCall_deep _
   ·exact dCall_deep _
   ·exact dInner_deep (dTerm_deep n) n s
   ·exact dField_deep 2
end Go.Proofs.Ytefcbgnckgapgaa
