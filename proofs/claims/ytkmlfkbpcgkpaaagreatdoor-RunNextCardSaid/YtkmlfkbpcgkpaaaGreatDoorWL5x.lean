/- Words: all tokens of a text. -/
import Derived.Test.YtkmlfkbpcgkpaaaGreatDoorWL4x
import Derived.Maps.AppendAt
import Derived.Laws.OwnMore
import Derived.Lib.AppendZeros
namespace Go.Proofs.YtkmlfkbpcgkpaaaGreatDoor
open Go.RowKit Go.Lib Go.Op
theorem zf1 {f : Nat} {l : List UInt8} {a n : Nat} (h : l.length≤manyL xblank l) : lexX (f+1) l a n=([],0,0):=by rw [lexX,if_pos h]
theorem zbp {f : Nat} {l : List UInt8} {a n : Nat} (h : ¬ l.length≤manyL xblank l) (h2 : (firstX (l.drop (manyL xblank l))).2=0) : lexX (f+1) l a n=([],71,a+manyL xblank l):=by rw [lexX,if_neg h,if_pos h2]
theorem zbq {f : Nat} {l : List UInt8} {a n : Nat} (h : ¬ l.length≤manyL xblank l) (h2 : (firstX (l.drop (manyL xblank l))).2≠0) (hn : n=128) : lexX (f+1) l a n=([],2,a+manyL xblank l):=by rw [lexX,if_neg h,if_neg h2,if_pos hn]
theorem zee {f : Nat} {l : List UInt8} {a n : Nat} (h : ¬ l.length≤manyL xblank l) (h2 : (firstX (l.drop (manyL xblank l))).2≠0) (hn : n≠128) :
 lexX (f+1) l a n=consX ⟨(firstX (l.drop (manyL xblank l))).1,textX (firstX (l.drop (manyL xblank l))).1 ((l.drop (manyL xblank l)).take (firstX (l.drop (manyL xblank l))).2),a+manyL xblank l⟩
  (lexX f ((l.drop (manyL xblank l)).drop (firstX (l.drop (manyL xblank l))).2) (a+manyL xblank l+(firstX (l.drop (manyL xblank l))).2) (n+1)):=by rw [lexX,if_neg h,if_neg h2,if_neg hn]
theorem zkp (s : ByteArray) : s.data.toList.length=s.size:=by simp
def XTok.cells (t : XTok) : List Value:=[.int .i64 t.k,.string (strB t.b),.int .i64 t.at_]
def flatX : List XTok→List Value
 | []=>[]
 | t :: l=>t.cells++flatX l
theorem zca : ∀ (l m : List XTok),flatX (l++m)=flatX l++flatX m
 | [],_=>rfl
 | t :: l,m=>by rw [List.cons_append,flatX,flatX,zca l m,List.append_assoc]
theorem zef : ∀ (l : List XTok),(flatX l).length=l.length*3
 | []=>rfl
 | t :: l=>by rw [flatX,List.length_append,zef l,List.length_cons];simp [XTok.cells];omega
theorem zeg : ∀ (l : List XTok),∀ u∈flatX l,u.oneCell'=true
 | [],u,h=>by cases h
 | t :: l,u,h=>by
   rw [flatX,List.mem_append] at h
   rcases h with h|h
   ·simp only [XTok.cells,List.mem_cons,List.not_mem_nil,or_false] at h
    rcases h with rfl|rfl|rfl <;> rfl
   ·exact zeg l u h
theorem zkq : (Tryz.prog.info? 148).map (fun i=>(i.zero,i.size,i.bytes))=some (some (.agg #[.int .i64 0,.string .empty,.int .i64 0]),3,32):=by kernel_rfl
def XOwn (w : World) (B : Nat) (v : Value) (l : List XTok) : Prop:=w.ownsRow B 148 3 v l.length (flatX l)
theorem XOwn.nil (w : World) (B : Nat) : XOwn w B (.slice none 0 0) []:=World.ownsRow_nil _ _ _ _
theorem XOwn.below {w w' : World} {B : Nat} {v : Value} {l : List XTok} (h : XOwn w B v l) (hb : Below w.heap.size w w') : XOwn w' B v l:=by
 refine ⟨h.1,?_⟩
 rcases h.2 with h2|⟨g,cap,cur,rfl,hg,hh,r⟩
 ·exact Or.inl h2
 ·exact Or.inr ⟨g,cap,cur,rfl,hg,(hb.block g (Array.getElem?_eq_some_iff.1 hh).1).trans hh,r⟩
theorem XOwn.slice {w : World} {B : Nat} {v : Value} {l : List XTok} (h : XOwn w B v l) : ∃ a c,v=.slice a l.length c:=by
 rcases h.2 with ⟨rfl,h0⟩|⟨g,cap,cur,rfl,_⟩
 ·exact ⟨none,0,by rw [h0]⟩
 ·exact ⟨_,cap,rfl⟩
theorem XOwn.append {w : World} {B : Nat} {v : Value} {l : List XTok} (h : XOwn w B v l) (hB : B≤w.heap.size) (hl : l.length≤1000) (x : XTok) (vb : Nat) (hvb : w.heap[vb]?=some (.cells x.cells.toArray 148 (0,0))) (ty : TypeId) :
 ∃ v' w',(Builtin.append_ #[140,140] ty #[v,.slice (some ⟨vb,0,none⟩) 1 1]).run Tryz.prog w=.ok v' w'∧XOwn w' B v' (l++[x])∧w.grownBy w' v.ownBlock:=by
 obtain ⟨i0,hi,hz0,hz1,hz2⟩:=info_parts zkq
 have hsrc : ∀ j u,x.cells[j]?=some u→w.cell? ((⟨vb,0,none⟩ : Addr).add j)=some u:=fun j u hj=>by
  have e : (⟨vb,0,none⟩ : Addr).add j=⟨vb,j,none⟩:=by unfold Addr.add;split <;> simp_all
  rw [e,cell_of_row w vb j _ 148 (0,0) hvb]
  simpa using hj
 obtain ⟨v',w',hr,h2,h3,_,h5⟩:=run_append_own_at (P:=Tryz.prog) w B 140 ty 148 i0 _ 3 32 Tryz.underlying140 hi hz0 hz1 hz2 rfl (by decide) v l.length (flatX l) h ⟨vb,0,none⟩ 1 1 x.cells (by simp [XTok.cells]) hsrc (fun u hu=>zeg [x] u (by simpa [flatX] using hu)) (by unfold maxLen;omega) (by omega) hB
 refine ⟨v',w',hr,?_,h3⟩
 unfold XOwn
 rw [zca,List.length_append]
 simpa [flatX] using h2
def ReadQ (w : World) (r : List XTok × Nat × Nat) (e : Ending) (w' : World) : Prop :=
 ∃ v,e=.returned (.tuple #[v,.int .i64 r.2.1,.int .i64 r.2.2])∧XOwn w' w.heap.size v r.1∧Below w.heap.size w w'
theorem ReadQ.mk {w : World} {r : List XTok × Nat × Nat} {l : List XTok} {x p : Nat} {x' p' : Int} {v : Value} {w' : World} (h : r=(l,x,p)) (hx : x'=x) (hp : p'=p) (ho : XOwn w' w.heap.size v l) (hb : Below w.heap.size w w') : ReadQ w r (.returned (.tuple #[v,.int .i64 x',.int .i64 p'])) w':=by
 subst h hx hp
 exact ⟨v,rfl,ho,hb⟩
def XIn (w : World) (l : List UInt8) (f at_ : Nat) (acc : List XTok) (v : Value) (W : World) : Prop :=
 at_≤l.length∧l.length - at_ < f∧readX l=appX acc (lexX f (l.drop at_) at_ acc.length)∧acc.length≤128∧XOwn W w.heap.size v acc∧Below w.heap.size w W
theorem XIn.step {w : World} {l : List UInt8} {f a : Nat} {acc : List XTok} {v v2 : Value} {W w2 : World} (h : XIn w l (f+1) a acc v W) {b : Nat} (hb : manyL xblank (l.drop a)=b) (_hne : ¬ a+b=l.length) {k z : Nat} (hz : firstX (l.drop (a+b))=(k,z)) (h0 : z≠0) (h128 : acc.length≠128)
 (ho : XOwn w2 w.heap.size v2 (acc++[⟨k,textX k ((l.drop (a+b)).take z),a+b⟩])) (hbw : Below w.heap.size w w2) : XIn w l f (a+b+z) (acc++[⟨k,textX k ((l.drop (a+b)).take z),a+b⟩]) v2 w2:=by
 obtain ⟨h1,h2,h3,h4,_,_⟩:=h
 have hble:=zbx xblank (l.drop a)
 rw [List.length_drop,hb] at hble
 have hle:=zcz (l.drop (a+b))
 rw [hz,List.length_drop] at hle
 dsimp only at hle
 have hdd : (l.drop a).drop (manyL xblank (l.drop a))=l.drop (a+b):=by rw [hb,List.drop_drop]
 refine ⟨by omega,by omega,?_,by rw [List.length_append];simp;omega,ho,hbw⟩
 rw [h3,zee (by rw [List.length_drop,hb];omega) (by rw [hdd,hz];exact h0) h128,hdd,hz,hb,zg9]
 dsimp only
 rw [List.drop_drop,List.length_append]
 rfl
end Go.Proofs.YtkmlfkbpcgkpaaaGreatDoor
