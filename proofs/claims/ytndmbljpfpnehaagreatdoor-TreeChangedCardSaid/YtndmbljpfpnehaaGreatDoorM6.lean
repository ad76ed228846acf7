/- All records of the frames that bytes begin with: Cut. | Words: a token; all tokens of a text. | Words: all tokens of a text. | Queries: rows of one's own, of elements that have memory of their own. | Queries: names, items, predicates in rows. | Queries: names, one behind the other. | Values: the sign of two. -/
import Derived.Test.YtndmbljpfpnehaaGreatDoorM5
import Derived.Maps.AppendAt
import Derived.Deep.QuietTactic
import Derived.BigQuiet
import Derived.IntWalk
import Derived.Laws.OwnMore
import Derived.Lib.AppendZeros
import Derived.Deep.RegionHeld3
import Derived.Deep.RegionLaw
namespace Go.Proofs.YtndmbljpfpnehaaGreatDoor
open Go.RowKit Go.Lib

theorem wp_scope_jumps_at {P : Program} {a : Act} {w : World} {Q : Exit → Act → World → Prop} {c rest : Code} (a1 : Act) (l : Nat) (J : Act → World → Prop) (μ : Act → World → Nat) (hf : findLabel c l = some (.seq .skip rest))
    (hfirst : ∀ R : Exit → Act → World → Prop, rest.wp P R a1 w → c.wp P R a w) (hJ : J a1 w)
    (pass : ∀ a w, J a w → rest.wp P (Exit.jump l (fun a' w' => J a' w' ∧ μ a' w' < μ a w) Q) a w) : (Code.scope c).wp P Q a w :=
  wp_scope_jumps l J μ hf (hfirst _ (Code.wp_mono (fun e a w q => by
    cases e with
    | goto l' => exact ⟨q.1, q.2.1⟩
    | _ => exact q) (pass a1 w hJ))) (fun a w h => wp_seq (wp_skip (pass a w h)))

theorem firstB_le {l r : List UInt8} (h : firstB l = some r) : r.length + 5 ≤ l.length ∧ r.length ≤ 4096 ∧ l.take (r.length + 5) = frameB r := by
  unfold firstB at h
  split at h; · cases h
  rename_i h5
  split at h; · cases h
  rename_i h82
  split at h; · cases h
  rename_i hbig
  split at h; · cases h
  rename_i hmore
  split at h; · cases h
  rename_i hsum
  injection h with h
  have hlen : r.length = saysN l := by rw [← h, List.length_take, List.length_drop]; omega
  refine ⟨by omega, by omega, ?_⟩
  obtain ⟨x0, x1, x2, x3, x4, t, rfl⟩ : ∃ x0 x1 x2 x3 x4 t, l = x0 :: x1 :: x2 :: x3 :: x4 :: t := by
    match l, h5 with
    | x0 :: x1 :: x2 :: x3 :: x4 :: t, _ => exact ⟨_, _, _, _, _, _, rfl⟩
    | [], h => simp at h
    | [_], h => simp at h
    | [_, _], h => simp at h
    | [_, _, _], h => simp at h
    | [_, _, _, _], h => simp at h
  have e0 : x0 = 82 := by
    have : x0.toNat = 82 := by simpa [byteN] using h82
    exact UInt8.toNat_inj.1 this
  have hs : saysN (x0 :: x1 :: x2 :: x3 :: x4 :: t) = 256 * x1.toNat + x2.toNat := rfl
  have h3 : byteN (x0 :: x1 :: x2 :: x3 :: x4 :: t) 3 = x3.toNat := rfl
  have h4 : byteN (x0 :: x1 :: x2 :: x3 :: x4 :: t) 4 = x4.toNat := rfl
  rw [h3, h4] at hsum
  have b1 := x1.toNat_lt
  have b2 := x2.toNat_lt
  have b3 := x3.toNat_lt
  have b4 := x4.toNat_lt
  have hr : sumN r = 256 * x3.toNat + x4.toNat := by rw [← h]; omega
  have e1 : UInt8.ofNat (r.length / 256) = x1 := by
    rw [hlen, hs, show (256 * x1.toNat + x2.toNat) / 256 = x1.toNat by omega]; simp
  have e2 : UInt8.ofNat (r.length % 256) = x2 := by
    rw [hlen, hs, show (256 * x1.toNat + x2.toNat) % 256 = x2.toNat by omega]; simp
  have e3 : UInt8.ofNat (sumN r / 256) = x3 := by
    rw [hr, show (256 * x3.toNat + x4.toNat) / 256 = x3.toNat by omega]; simp
  have e4 : UInt8.ofNat (sumN r % 256) = x4 := by
    rw [hr, show (256 * x3.toNat + x4.toNat) % 256 = x4.toNat by omega]; simp
  have h' : t.take (saysN (x0 :: x1 :: x2 :: x3 :: x4 :: t)) = r := h
  rw [frameB, e1, e2, e3, e4, e0, hlen]
  show 82 :: x1 :: x2 :: x3 :: x4 :: t.take (saysN (x0 :: x1 :: x2 :: x3 :: x4 :: t)) = _
  rw [h']
  rfl

/-- The records of the frames that bytes begin with. -/
def cutB (l : List UInt8) : List (List UInt8) :=
  match h : firstB l with
  | none => []
  | some r => r :: cutB (l.drop (r.length + 5))
termination_by l.length
decreasing_by
  have := (firstB_le h).1
  rw [List.length_drop]
  omega

theorem cutB_none {l : List UInt8} (h : firstB l = none) : cutB l = [] := by
  rw [cutB]; split
  · rfl
  · rename_i r hr; rw [h] at hr; cases hr
theorem cutB_some {l r : List UInt8} (h : firstB l = some r) : cutB l = r :: cutB (l.drop (r.length + 5)) := by
  rw [cutB]; split
  · rename_i hr; rw [h] at hr; cases hr
  · rename_i r' hr; rw [h] at hr; injection hr with hr; rw [hr]

/-- How many bytes records' frames have. -/
def lensN (rs : List (List UInt8)) : Nat := (rs.map fun r => r.length + 5).sum
def cutN (l : List UInt8) : Nat := lensN (cutB l)

theorem lensN_append (a b : List (List UInt8)) : lensN (a ++ b) = lensN a + lensN b := by simp [lensN]
theorem lensN_one (r : List UInt8) : lensN [r] = r.length + 5 := by simp [lensN]
theorem lensN_ge (rs : List (List UInt8)) : rs.length * 5 ≤ lensN rs := by
  induction rs with
  | nil => simp [lensN]
  | cons r rs ih => simp only [lensN, List.map_cons, List.sum_cons, List.length_cons] at *; omega

theorem cutN_le : ∀ (n : Nat) (l : List UInt8), l.length = n → cutN l ≤ l.length := by
  intro n
  induction n using Nat.strongRecOn with
  | _ n ih =>
    intro l hl
    cases h : firstB l with
    | none => simp [cutN, cutB_none h, lensN]
    | some r =>
      have h1 := (firstB_le h).1
      have h2 := ih (l.drop (r.length + 5)).length (by rw [List.length_drop]; omega) _ rfl
      rw [List.length_drop] at h2
      simp only [cutN, cutB_some h, lensN, List.map_cons, List.sum_cons] at h2 ⊢
      omega

theorem infoS16 : (Tryz.prog.info? 9).map (fun i => (i.zero, i.size, i.bytes)) = some (some (.string .empty), 1, 16) := by kernel_rfl

/-- Texts as cells. -/
def recCells (rs : List (List UInt8)) : List Value := rs.map fun r => Value.string (strB r)
theorem recCells_one (rs : List (List UInt8)) : ∀ u ∈ recCells rs, u.oneCell' = true := by
  intro u hu
  simp only [recCells, List.mem_map] at hu
  obtain ⟨r, _, rfl⟩ := hu
  rfl
theorem recCells_length (rs : List (List UInt8)) : (recCells rs).length = rs.length := by simp [recCells]

/-- What Cut answers. -/
def CutPost (w : World) (bs : List UInt8) (e : Ending) (w' : World) : Prop :=
  ∃ v, e = .returned (.tuple #[v, .int .i64 (cutN bs)]) ∧ w'.ownsRow w.heap.size 9 1 v (cutB bs).length (recCells (cutB bs)) ∧ Below w.heap.size w w'

theorem ret_two {v : Value} {a b : Int} (h : a = b) : Ending.returned (.tuple #[v, .int .i64 a]) = .returned (.tuple #[v, .int .i64 b]) := by rw [h]

theorem fbelow_drewN {B : Nat} {a w : World} (h : Below B a w) (n : Nat) : Below B a (w.drewN n) := ⟨h.os, h.tape, h.output, h.size, h.block⟩

theorem vals_new (w : World) (vs : List Value) (cs : Array Value) (t : TypeId) (fr : Nat × Nat) (h : cs.toList = vs) : ∀ j u, vs[j]? = some u → (w.alloc (.cells cs t fr)).cell? ((⟨w.heap.size, 0, none⟩ : Addr).add j) = some u := by
  intro j u hu
  have hadd : (⟨w.heap.size, 0, none⟩ : Addr).add j = ⟨w.heap.size, j, none⟩ := by unfold Addr.add; split <;> simp_all
  rw [hadd]
  refine fcell_of_blk (heap_alloc_new w _) ?_
  rw [← h] at hu
  simpa using hu

end Go.Proofs.YtndmbljpfpnehaaGreatDoor
namespace Go.Proofs.YtndmbljpfpnehaaGreatDoor
open Go.RowKit Go.Lib Go.Op

theorem ext_list (s : ByteArray) (i j : Nat) : (s.extract i j).data.toList = (s.data.toList.take j).drop i := by
  rw [ByteArray.data_extract]
  simp [List.extract_eq_take_drop, List.drop_take]
theorem str_of {s : ByteArray} {l : List UInt8} (h : s.data.toList = l) : s = strB l := by
  apply ByteArray.ext
  apply Array.ext'
  rw [h]
  simp [strB]

def TokQ (w : World) (k : Nat) (l : List UInt8) (a : Nat) (e : Ending) (w' : World) : Prop := e = .returned (.agg #[.int .i64 k, .string (strB (textX k l)), .int .i64 a]) ∧ Below w.heap.size w w'

set_option maxHeartbeats 1000000 in
set_option maxRecDepth 100000 in
theorem token_calls (k : Nat) (s : ByteArray) (a : Nat) (w : World) (h3 : k = 3 → 2 ≤ s.size) (hs : s.size ≤ 1000) :
    Calls Tryz.prog 73 #[.int .i64 k, .string s, .int .i64 a] w (TokQ w k s.data.toList a) := by
  by_cases hk : k = 3
  · subst hk
    have hz := h3 rfl
    have hT : Hid (∀ W, Below w.heap.size w W → TokQ w 3 s.data.toList a (.returned (.agg #[.int .i64 (3 : Nat), .string (s.extract 1 (s.size - 1)), .int .i64 a])) W) := fun W hW => by
      refine ⟨?_, hW⟩
      have e : s.extract 1 (s.size - 1) = strB (textX 3 s.data.toList) := str_of (by
        rw [ext_list]
        unfold textX
        rw [if_pos rfl]
        have : s.data.toList.length = s.size := by simp
        rw [this, List.drop_take]
        congr 1)
      rw [e]
    clear h3
    have hn1 : (0 : Int) ≤ (s.size : Int) - 1 := by omega
    have hn2 : ((s.size : Int) - 1).toNat = s.size - 1 := by omega
    have hn3 : (1 : Int) ≤ (s.size : Int) - 1 := by omega
    have hn4 : (s.size : Int) - 1 ≤ (s.size : Int) := by omega
    go_enter Tryz.func73, Tryz.ntmps73
    go_wp2
    refine bodyPost_ret (v := .agg #[.int .i64 (3 : Nat), .string (s.extract 1 (s.size - 1)), .int .i64 a]) (by simp [results, Tryz.results73, go_sem]) rfl (hT.out _ ((Below.refl _ _).alloc (Nat.le_refl _) _))
  · have hd : ((k : Int) == 3) = false := by rw [beq_eq_false_iff_ne]; omega
    have hT : Hid (∀ W, Below w.heap.size w W → TokQ w k s.data.toList a (.returned (.agg #[.int .i64 k, .string s, .int .i64 a])) W) := fun W hW => by
      refine ⟨?_, hW⟩
      have e : s = strB (textX k s.data.toList) := str_of (by unfold textX; rw [if_neg hk])
      rw [← e]
    clear h3
    go_enter Tryz.func73, Tryz.ntmps73
    go_wp2
    refine bodyPost_ret (v := .agg #[.int .i64 k, .string s, .int .i64 a]) (by simp [results, Tryz.results73, go_sem]) rfl (hT.out _ ((Below.refl _ _).alloc (Nat.le_refl _) _))

end Go.Proofs.YtndmbljpfpnehaaGreatDoor
namespace Go.Proofs.YtndmbljpfpnehaaGreatDoor
open Go.RowKit Go.Lib Go.Op

theorem lexX_end {f : Nat} {l : List UInt8} {a n : Nat} (h : l.length ≤ manyL xblank l) : lexX (f + 1) l a n = ([], 0, 0) := by rw [lexX, if_pos h]
theorem lexX_none {f : Nat} {l : List UInt8} {a n : Nat} (h : ¬ l.length ≤ manyL xblank l) (h2 : (firstX (l.drop (manyL xblank l))).2 = 0) : lexX (f + 1) l a n = ([], 71, a + manyL xblank l) := by rw [lexX, if_neg h, if_pos h2]
theorem lexX_many {f : Nat} {l : List UInt8} {a n : Nat} (h : ¬ l.length ≤ manyL xblank l) (h2 : (firstX (l.drop (manyL xblank l))).2 ≠ 0) (hn : n = 128) : lexX (f + 1) l a n = ([], 2, a + manyL xblank l) := by rw [lexX, if_neg h, if_neg h2, if_pos hn]
theorem lexX_more {f : Nat} {l : List UInt8} {a n : Nat} (h : ¬ l.length ≤ manyL xblank l) (h2 : (firstX (l.drop (manyL xblank l))).2 ≠ 0) (hn : n ≠ 128) :
    lexX (f + 1) l a n = consX ⟨(firstX (l.drop (manyL xblank l))).1, textX (firstX (l.drop (manyL xblank l))).1 ((l.drop (manyL xblank l)).take (firstX (l.drop (manyL xblank l))).2), a + manyL xblank l⟩
      (lexX f ((l.drop (manyL xblank l)).drop (firstX (l.drop (manyL xblank l))).2) (a + manyL xblank l + (firstX (l.drop (manyL xblank l))).2) (n + 1)) := by rw [lexX, if_neg h, if_neg h2, if_neg hn]

theorem firstX_three {l : List UInt8} (h : (firstX l).1 = 3) : 2 ≤ (firstX l).2 := by
  cases l with
  | nil => cases h
  | cons c t =>
    have h' : (firstC c t).1 = 3 := h
    show 2 ≤ (firstC c t).2
    unfold firstC at h' ⊢
    split at h'
    · split at h' <;> cases h'
    · rename_i n1
      rw [if_neg n1]
      split at h'
      · split at h' <;> cases h'
      · rename_i n2
        rw [if_neg n2]
        split at h'
        · rename_i hc
          rw [if_pos hc]
          split at h'
          · cases h'
          · rename_i hq
            rw [if_neg hq]
            show 2 ≤ 1 + _ + 1
            omega
        · split at h'
          · cases h'
          · split at h' <;> cases h'

theorem bsize (s : ByteArray) : s.data.toList.length = s.size := by simp

theorem wp_scope_jumps_from {P : Program} {a : Act} {w : World} {Q : Exit → Act → World → Prop} {c rest : Code} (l : Nat) (J : Act → World → Prop) (μ : Act → World → Nat) (hf : findLabel c l = some (.seq .skip rest))
    (hfirst : ∀ R : Exit → Act → World → Prop, (∀ a w, R .ret a w = Q .ret a w) → (∀ a1 w1, J a1 w1 → rest.wp P R a1 w1) → c.wp P R a w)
    (pass : ∀ a w, J a w → rest.wp P (Exit.jump l (fun a' w' => J a' w' ∧ μ a' w' < μ a w) Q) a w) : (Code.scope c).wp P Q a w :=
  wp_scope_jumps l J μ hf (hfirst _ (fun _ _ => rfl) (fun a1 w1 hJ => Code.wp_mono (fun e a w q => by
    cases e with
    | goto l' => exact ⟨q.1, q.2.1⟩
    | _ => exact q) (pass a1 w1 hJ))) (fun a w h => wp_seq (wp_skip (pass a w h)))

def XTok.cells (t : XTok) : List Value := [.int .i64 t.k, .string (strB t.b), .int .i64 t.at_]
def flatX : List XTok → List Value
  | [] => []
  | t :: l => t.cells ++ flatX l
theorem flatX_append : ∀ (l m : List XTok), flatX (l ++ m) = flatX l ++ flatX m
  | [], _ => rfl
  | t :: l, m => by rw [List.cons_append, flatX, flatX, flatX_append l m, List.append_assoc]
theorem flatX_len : ∀ (l : List XTok), (flatX l).length = l.length * 3
  | [] => rfl
  | t :: l => by rw [flatX, List.length_append, flatX_len l, List.length_cons]; simp [XTok.cells]; omega
theorem flatX_one : ∀ (l : List XTok), ∀ u ∈ flatX l, u.oneCell' = true
  | [], u, h => by cases h
  | t :: l, u, h => by
    rw [flatX, List.mem_append] at h
    rcases h with h | h
    · simp only [XTok.cells, List.mem_cons, List.not_mem_nil, or_false] at h
      rcases h with rfl | rfl | rfl <;> rfl
    · exact flatX_one l u h

theorem infoX : (Tryz.prog.info? 76).map (fun i => (i.zero, i.size, i.bytes)) = some (some (.agg #[.int .i64 0, .string .empty, .int .i64 0]), 3, 32) := by kernel_rfl

/-- Tokens in a row of one's own. -/
def XOwn (w : World) (B : Nat) (v : Value) (l : List XTok) : Prop := w.ownsRow B 76 3 v l.length (flatX l)
theorem XOwn.nil (w : World) (B : Nat) : XOwn w B (.slice none 0 0) [] := World.ownsRow_nil _ _ _ _
theorem XOwn.below {w w' : World} {B : Nat} {v : Value} {l : List XTok} (h : XOwn w B v l) (hb : Below w.heap.size w w') : XOwn w' B v l := by
  refine ⟨h.1, ?_⟩
  rcases h.2 with h2 | ⟨g, cap, cur, rfl, hg, hh, r⟩
  · exact Or.inl h2
  · exact Or.inr ⟨g, cap, cur, rfl, hg, (hb.block g (Array.getElem?_eq_some_iff.1 hh).1).trans hh, r⟩
theorem XOwn.slice {w : World} {B : Nat} {v : Value} {l : List XTok} (h : XOwn w B v l) : ∃ a c, v = .slice a l.length c := by
  rcases h.2 with ⟨rfl, h0⟩ | ⟨g, cap, cur, rfl, _⟩
  · exact ⟨none, 0, by rw [h0]⟩
  · exact ⟨_, cap, rfl⟩
theorem XOwn.append {w : World} {B : Nat} {v : Value} {l : List XTok} (h : XOwn w B v l) (hB : B ≤ w.heap.size) (hl : l.length ≤ 1000) (x : XTok) (vb : Nat) (hvb : w.heap[vb]? = some (.cells x.cells.toArray 76 (0, 0))) (ty : TypeId) :
    ∃ v' w', (Builtin.append_ #[42, 42] ty #[v, .slice (some ⟨vb, 0, none⟩) 1 1]).run Tryz.prog w = .ok v' w' ∧ XOwn w' B v' (l ++ [x]) ∧ w.grownBy w' v.ownBlock := by
  obtain ⟨i0, hi, hz0, hz1, hz2⟩ := info_parts infoX
  have hsrc : ∀ j u, x.cells[j]? = some u → w.cell? ((⟨vb, 0, none⟩ : Addr).add j) = some u := fun j u hj => by
    have e : (⟨vb, 0, none⟩ : Addr).add j = ⟨vb, j, none⟩ := by unfold Addr.add; split <;> simp_all
    rw [e, cell_of_row w vb j _ 76 (0, 0) hvb]
    simpa using hj
  obtain ⟨v', w', hr, h2, h3, _, h5⟩ := run_append_own_at (P := Tryz.prog) w B 42 ty 76 i0 _ 3 32 Tryz.underlying42 hi hz0 hz1 hz2 rfl (by decide) v l.length (flatX l) h ⟨vb, 0, none⟩ 1 1 x.cells (by simp [XTok.cells]) hsrc (fun u hu => flatX_one [x] u (by simpa [flatX] using hu)) (by unfold maxLen; omega) (by omega) hB
  refine ⟨v', w', hr, ?_, h3⟩
  unfold XOwn
  rw [flatX_append, List.length_append]
  simpa [flatX] using h2

/-- What Read leaves. -/
def ReadQ (w : World) (r : List XTok × Nat × Nat) (e : Ending) (w' : World) : Prop :=
  ∃ v, e = .returned (.tuple #[v, .int .i64 r.2.1, .int .i64 r.2.2]) ∧ XOwn w' w.heap.size v r.1 ∧ Below w.heap.size w w'
theorem ReadQ.mk {w : World} {r : List XTok × Nat × Nat} {l : List XTok} {x p : Nat} {x' p' : Int} {v : Value} {w' : World} (h : r = (l, x, p)) (hx : x' = x) (hp : p' = p) (ho : XOwn w' w.heap.size v l) (hb : Below w.heap.size w w') : ReadQ w r (.returned (.tuple #[v, .int .i64 x', .int .i64 p'])) w' := by
  subst h hx hp
  exact ⟨v, rfl, ho, hb⟩

/-- What is held at the label. -/
def XIn (w : World) (l : List UInt8) (f at_ : Nat) (acc : List XTok) (v : Value) (W : World) : Prop :=
  at_ ≤ l.length ∧ l.length - at_ < f ∧ readX l = appX acc (lexX f (l.drop at_) at_ acc.length) ∧ acc.length ≤ 128 ∧ XOwn W w.heap.size v acc ∧ Below w.heap.size w W

theorem XIn.step {w : World} {l : List UInt8} {f a : Nat} {acc : List XTok} {v v2 : Value} {W w2 : World} (h : XIn w l (f + 1) a acc v W) {b : Nat} (hb : manyL xblank (l.drop a) = b) (_hne : ¬ a + b = l.length) {k z : Nat} (hz : firstX (l.drop (a + b)) = (k, z)) (h0 : z ≠ 0) (h128 : acc.length ≠ 128)
    (ho : XOwn w2 w.heap.size v2 (acc ++ [⟨k, textX k ((l.drop (a + b)).take z), a + b⟩])) (hbw : Below w.heap.size w w2) : XIn w l f (a + b + z) (acc ++ [⟨k, textX k ((l.drop (a + b)).take z), a + b⟩]) v2 w2 := by
  obtain ⟨h1, h2, h3, h4, _, _⟩ := h
  have hble := manyL_le xblank (l.drop a)
  rw [List.length_drop, hb] at hble
  have hle := firstX_le (l.drop (a + b))
  rw [hz, List.length_drop] at hle
  dsimp only at hle
  have hdd : (l.drop a).drop (manyL xblank (l.drop a)) = l.drop (a + b) := by rw [hb, List.drop_drop]
  refine ⟨by omega, by omega, ?_, by rw [List.length_append]; simp; omega, ho, hbw⟩
  rw [h3, lexX_more (by rw [List.length_drop, hb]; omega) (by rw [hdd, hz]; exact h0) h128, hdd, hz, hb, appX_cons]
  dsimp only
  rw [List.drop_drop, List.length_append]
  rfl

set_option maxHeartbeats 4000000 in
set_option maxRecDepth 100000 in
theorem read_calls {w : World} (hv : XVars w) (s : ByteArray) (l : List UInt8) (hl : s.data.toList = l) (hs : s.size ≤ 100000) :
    Calls Tryz.prog 32 #[.string s] w (ReadQ w (readX l)) := by
  have hlen : l.length = s.size := by rw [← hl]; simp
  by_cases hlong : 512 < s.size
  · have hr : readX l = ([], 2, 0) := by unfold readX; rw [if_pos (by omega)]
    have Hr := Lib.hid hr
    clear hr hl hlen hv
    go_enter Tryz.func32, Tryz.ntmps32
    go_wp2
    refine wp_scope_goes' 0 (fun C HC => ?_)
    clear HC
    go_wp2
    rw [Exit.goes_ret]
    refine bodyPost_ret (v := .tuple #[.slice none 0 0, .int .i64 2, .int .i64 0]) (by simp [results, Tryz.results32, go_sem]) rfl ?_
    exact ReadQ.mk Hr.out rfl rfl (XOwn.nil _ _) (Below.refl _ _)
  have Hl := Lib.hid hl
  have Hlen := Lib.hid hlen
  have Hv := Lib.hid hv
  have HC := Lib.hid (sclone_calls s w (by omega))
  have HR0 : Hid (readX l = appX [] (lexX (s.size + 1) (l.drop 0) 0 ([] : List XTok).length)) := by
    show _ = _
    rw [appX_nil _ (lexX_form _ _ _ _).1]
    unfold readX
    rw [if_neg (by omega), hlen]
    rfl
  clear hl hlen hv
  go_enter Tryz.func32, Tryz.ntmps32
  go_wp2
  refine wp_scope_jumps_from 0 (fun a' W => ∃ (f a : Nat) (acc : List XTok) (v u7 u8 u9 u10 u11 u12 u13 u14 u15 u16 u17 u18 u19 u20 u21 u22 u23 u24 u25 u26 u27 u28 u29 u30 u31 u32 u33 u34 u35 u36 u37 u38 u39 u40 u41 u42 u43 u44 u45 u46 u47 u48 u49 u50 u51 u52 u53 : Value), a' = { tmps := #[.string s, undef, .slice none 0 0, .int .i64 0, .int .i64 0, v, .int .i64 a, u7, u8, u9, u10, u11, u12, u13, u14, u15, u16, u17, u18, u19, u20, u21, u22, u23, u24, u25, u26, u27, u28, u29, u30, u31, u32, u33, u34, u35, u36, u37, u38, u39, u40, u41, u42, u43, u44, u45, u46, u47, u48, u49, u50, u51, u52, u53], defers := [] } ∧ Hid (XIn w l f a acc v W)) (fun a' _ => s.size - (RowKit.intOf (a'.eval (.tmp 6))).toNat) rfl ?_ ?_
  · intro R hRr hR
    go_wp2_with (go_at_call 69; (with_reducible refine HC.out.mono ?_); rintro e w1 ⟨rfl, hb1⟩)
    have HX : Hid (XIn w l (s.size + 1) 0 [] (.slice none 0 0) w1) := ⟨Nat.zero_le _, by rw [Hlen.out]; omega, HR0.out, by simp, XOwn.nil _ _, hb1⟩
    clear hb1
    go_step3
    rename_i K hK
    exact hK _ _ (hR _ _ ⟨s.size + 1, 0, [], _, _, _, _, _, _, _, _, _, _, _, _, _, _, _, _, _, _, _, _, _, _, _, _, _, _, _, _, _, _, _, _, _, _, _, _, _, _, _, _, _, _, _, _, _, _, _, _, rfl, HX⟩)
  · rintro a' W ⟨f, a, acc, v, u7, u8, u9, u10, u11, u12, u13, u14, u15, u16, u17, u18, u19, u20, u21, u22, u23, u24, u25, u26, u27, u28, u29, u30, u31, u32, u33, u34, u35, u36, u37, u38, u39, u40, u41, u42, u43, u44, u45, u46, u47, u48, u49, u50, u51, u52, u53, rfl, HX⟩
    have hX := HX.out
    obtain ⟨h1, h2, h3, h4, h5, h6⟩ := hX
    rw [Hlen.out] at h1 h2
    obtain ⟨f, rfl⟩ : ∃ g, f = g + 1 := ⟨f - 1, by omega⟩
    have H3 := Lib.hid h3
    have HO := Lib.hid h5
    have HB := Lib.hid h6
    obtain ⟨va, vc, rfl⟩ := h5.slice
    clear h3 h5 h6
    obtain ⟨b, hb⟩ : ∃ b, manyL xblank (l.drop a) = b := ⟨_, rfl⟩
    have hble := manyL_le xblank (l.drop a)
    rw [List.length_drop, hb, Hlen.out] at hble
    have Hb := Lib.hid hb
    have hxl : (s.extract a s.size).data.toList = l.drop a := by rw [Pa.extract_from, Hl.out]
    have hxz : (s.extract a s.size).size ≤ 1000 := by
      have e := bsize (s.extract a s.size)
      rw [← e, hxl, List.length_drop, Hlen.out]; omega
    have HM : Hid (∀ W, Calls Tryz.prog 70 #[.string (s.extract a s.size), .func (.func 71) #[] #[]] W fun e w' => e = .returned (.int .i64 b) ∧ W = w') := fun W => by rw [← hb, ← hxl]; exact many_xblank _ W hxz
    clear hb hxl hxz
    by_cases hend : a + b = s.size
    · have hres : readX l = (acc, 0, 0) := by
        rw [H3.out, lexX_end (by rw [List.length_drop, Hb.out, Hlen.out]; omega)]
        unfold appX
        simp
      have Hres := Lib.hid hres
      have t1 : ((a : Int) + (b : Int) == (s.size : Int)) = true := by rw [beq_iff_eq]; omega
      clear hres
      go_wp2_with (go_at_call 70; (with_reducible refine (HM.out _).mono ?_); rintro e w1 ⟨rfl, rfl⟩)
      simp only [Exit.jump]
      refine bodyPost_ret (v := .tuple #[.slice va acc.length vc, .int .i64 0, .int .i64 0]) (by simp [results, Tryz.results32, go_sem]) rfl ?_
      exact ReadQ.mk Hres.out rfl rfl HO.out HB.out
    have t1 : ((a : Int) + (b : Int) == (s.size : Int)) = false := by rw [beq_eq_false_iff_ne]; omega
    have hab : (a : Int) + (b : Int) ≤ (s.size : Int) := by omega
    have habn : ((a : Int) + (b : Int)).toNat = a + b := by omega
    have hab0 : (0 : Int) ≤ (a : Int) + (b : Int) := by omega
    have hyl : (s.extract (a + b) s.size).data.toList = l.drop (a + b) := by rw [Pa.extract_from, Hl.out]
    have hyz : 0 < (s.extract (a + b) s.size).size ∧ (s.extract (a + b) s.size).size ≤ 1000 := by
      have e := bsize (s.extract (a + b) s.size)
      rw [← e, hyl, List.length_drop, Hlen.out]; omega
    obtain ⟨⟨k, z⟩, hkz⟩ : ∃ p, firstX (l.drop (a + b)) = p := ⟨_, rfl⟩
    have HF : Hid (Calls Tryz.prog 72 #[.string (s.extract (a + b) s.size)] W fun e w' => e = .returned (.tuple #[.int .i64 k, .int .i64 z]) ∧ Below W.heap.size W w') := by
      show Calls _ _ _ _ _
      have h := first_calls (Hv.out.below HB.out) (s.extract (a + b) s.size) (l.drop (a + b)) hyl hyz.1 hyz.2
      unfold XFirst at h
      rw [hkz] at h
      exact h
    have hzle := firstX_le (l.drop (a + b))
    rw [hkz, List.length_drop, Hlen.out] at hzle
    dsimp only at hzle
    have h3z := fun (e : k = 3) => (firstX_three (l := l.drop (a + b)) (by rw [hkz]; exact e))
    rw [hkz] at h3z
    dsimp only at h3z
    have Hkz := Lib.hid hkz
    have H3z := Lib.hid h3z
    clear hkz hyl hyz h3z
    have hdd : (l.drop a).drop (manyL xblank (l.drop a)) = l.drop (a + b) := by rw [Hb.out, List.drop_drop]
    have hnb : ¬ (l.drop a).length ≤ manyL xblank (l.drop a) := by rw [List.length_drop, Hb.out, Hlen.out]; omega
    have Hdd := Lib.hid hdd
    have Hnb := Lib.hid hnb
    clear hdd hnb
    by_cases hz0 : z = 0
    · have hres : readX l = ([], 71, a + b) := by
        rw [H3.out, lexX_none Hnb.out (by rw [Hdd.out, Hkz.out]; exact hz0), Hb.out]
        unfold appX
        simp
      have Hres := Lib.hid hres
      subst hz0
      clear hres
      go_wp2_with (first | (go_at_call 70; (with_reducible refine (HM.out _).mono ?_); rintro e w1 ⟨rfl, rfl⟩) | (go_at_call 72; (with_reducible refine HF.out.mono ?_); rintro e w1 ⟨rfl, hb1⟩; have HB1 := Lib.hid (HB.out.trans (hb1.mono HB.out.size)); clear hb1))
      simp only [Exit.jump]
      refine bodyPost_ret (v := .tuple #[.slice none 0 0, .int .i64 71, .int .i64 ((a : Int) + (b : Int))]) (by simp [results, Tryz.results32, go_sem]) rfl ?_
      exact ReadQ.mk Hres.out rfl (by omega) (XOwn.nil _ _) HB1.out
    have tz : ((z : Int) == 0) = false := by rw [beq_eq_false_iff_ne]; omega
    obtain ⟨q, hq⟩ : ∃ q, acc.length = q := ⟨_, rfl⟩
    have Hq := Lib.hid hq
    rw [hq] at h4 ⊢
    clear hq
    by_cases h128 : q = 128
    · have hres : readX l = ([], 2, a + b) := by
        rw [H3.out, lexX_many Hnb.out (by rw [Hdd.out, Hkz.out]; exact hz0) (by rw [Hq.out]; exact h128), Hb.out]
        unfold appX
        simp
      have Hres := Lib.hid hres
      have tq : ((q : Int) == 128) = true := by rw [beq_iff_eq]; omega
      clear hres
      go_wp2_with (first | (go_at_call 70; (with_reducible refine (HM.out _).mono ?_); rintro e w1 ⟨rfl, rfl⟩) | (go_at_call 72; (with_reducible refine HF.out.mono ?_); rintro e w1 ⟨rfl, hb1⟩; have HB1 := Lib.hid (HB.out.trans (hb1.mono HB.out.size)); clear hb1))
      simp only [Exit.jump]
      refine bodyPost_ret (v := .tuple #[.slice none 0 0, .int .i64 2, .int .i64 ((a : Int) + (b : Int))]) (by simp [results, Tryz.results32, go_sem]) rfl ?_
      exact ReadQ.mk Hres.out rfl (by omega) (XOwn.nil _ _) HB1.out
    have tq : ((q : Int) == 128) = false := by rw [beq_eq_false_iff_ne]; omega
    have hz1 : (0 : Int) ≤ (a : Int) + (b : Int) + (z : Int) := by omega
    have hz2 : (a : Int) + (b : Int) + (z : Int) ≤ (s.size : Int) := by omega
    have hz3 : ((a : Int) + (b : Int) + (z : Int)).toNat = a + b + z := by omega
    have hz4 : (a : Int) + (b : Int) ≤ (a : Int) + (b : Int) + (z : Int) := by omega
    have hxt : (s.extract (a + b) (a + b + z)).data.toList = (l.drop (a + b)).take z := by
      rw [ext_list, Hl.out, List.drop_take]
      congr 1
      omega
    have hxs : (s.extract (a + b) (a + b + z)).size = z := by
      have e := bsize (s.extract (a + b) (a + b + z))
      rw [← e, hxt, List.length_take, List.length_drop, Hlen.out]; omega
    have HT : Hid (∀ W, Calls Tryz.prog 73 #[.int .i64 k, .string (s.extract (a + b) (a + b + z)), .int .i64 ((a + b : Nat) : Int)] W (TokQ W k ((l.drop (a + b)).take z) (a + b))) := fun W => by
      rw [← hxt]
      exact token_calls k _ (a + b) W (fun e => by rw [hxs]; exact H3z.out e) (by omega)
    have hcast : ((a + b : Nat) : Int) = (a : Int) + (b : Int) := by omega
    rw [hcast] at HT
    have HAP : Hid (∀ w2, Below W.heap.size W w2 → ∃ a9 l9 c9 w9, (Builtin.append_ #[42, 42] 42 #[.slice va q vc, .slice (some ⟨w2.heap.size, 0, none⟩) 1 1]).run Tryz.prog (w2.alloc (.cells #[.int .i64 k, .string (strB (textX k ((l.drop (a + b)).take z))), .int .i64 ((a : Int) + (b : Int))] 76)) = .ok (.slice a9 l9 c9) w9 ∧ Hid (XIn w l f (a + b + z) (acc ++ [⟨k, textX k ((l.drop (a + b)).take z), a + b⟩]) (.slice a9 l9 c9) w9)) := fun w2 hb2 => by
      have hbw : Below w.heap.size w w2 := HB.out.trans (hb2.mono HB.out.size)
      have hba := hbw.alloc hbw.size (.cells #[.int .i64 k, .string (strB (textX k ((l.drop (a + b)).take z))), .int .i64 ((a : Int) + (b : Int))] 76)
      have hown : XOwn (w2.alloc (.cells #[.int .i64 k, .string (strB (textX k ((l.drop (a + b)).take z))), .int .i64 ((a : Int) + (b : Int))] 76)) w.heap.size (.slice va q vc) acc := by
        have h := (HO.out.below hb2).below ((Below.refl _ _).alloc (Nat.le_refl _) (.cells #[.int .i64 k, .string (strB (textX k ((l.drop (a + b)).take z))), .int .i64 ((a : Int) + (b : Int))] 76))
        rw [Hq.out] at h
        exact h
      obtain ⟨v9, w9, hr9, ho9, hg9⟩ := hown.append hba.size (by rw [Hq.out]; omega) ⟨k, textX k ((l.drop (a + b)).take z), a + b⟩ w2.heap.size (by rw [show (⟨k, textX k ((l.drop (a + b)).take z), a + b⟩ : XTok).cells.toArray = #[.int .i64 k, .string (strB (textX k ((l.drop (a + b)).take z))), .int .i64 ((a : Int) + (b : Int))] by rw [← hcast]; rfl]; exact heap_alloc_new w2 _) 42
      obtain ⟨a9, c9, rfl⟩ := ho9.slice
      refine ⟨a9, _, c9, w9, hr9, ?_⟩
      exact XIn.step HX.out Hb.out (by rw [Hlen.out]; exact hend) Hkz.out hz0 (by rw [Hq.out]; exact h128) ho9 (hba.grown hg9 hba.size (fun j hj => (hown.lt j hj).1))
    clear hxt hxs hcast H3z
    go_wp2_with (first
      | (go_at_call 70; (with_reducible refine (HM.out _).mono ?_); rintro e w1 ⟨rfl, rfl⟩)
      | (go_at_call 72; (with_reducible refine HF.out.mono ?_); rintro e w1 ⟨rfl, hb1⟩; have HB1 := Lib.hid hb1; clear hb1)
      | (go_at_call 73; (with_reducible refine (HT.out _).mono ?_); rintro e w2 ⟨rfl, hb2⟩; obtain ⟨a9, l9, c9, w9, hr9, HF9⟩ := HAP.out _ (HB1.out.trans (hb2.mono HB1.out.size)); clear hb2)
      | (at_builtin; refine Lib.wpList_append_run _ rfl _ _ _ _ rfl _ _ rfl rfl _ _ hr9 ?_; clear hr9))
    go_step3
    refine ⟨rfl, ⟨f, a + b + z, _, _, _, _, _, _, _, _, _, _, _, _, _, _, _, _, _, _, _, _, _, _, _, _, _, _, _, _, _, _, _, _, _, _, _, _, _, _, _, _, _, _, _, _, _, _, _, _, _, rfl, HF9⟩, ?_⟩
    simp [RowKit.intOf, Act.eval]
    omega

end Go.Proofs.YtndmbljpfpnehaaGreatDoor
namespace Go.Proofs.YtndmbljpfpnehaaGreatDoor
open Go.RowKit Go.Lib Go.Op

/-- What an element of a row is: how many cells, and what they say. -/
structure RowD (α : Type) where
  k : Nat
  P : (Nat → Prop) → World → List Value → α → Prop
  len : ∀ {K w cs x}, P K w cs x → cs.length = k
  one : ∀ {K w cs x}, P K w cs x → ∀ u ∈ cs, u.oneCell' = true
  keep : ∀ {K w w' cs x}, TFr K w w' → P K w cs x → P K w' cs x
  mono : ∀ {K K' w cs x}, (∀ g, K' g → K g) → P K w cs x → P K' w cs x
  ne : ∀ {K w cs x} {b : Nat}, w.heap.size ≤ b → P K w cs x → P (fun g => K g ∨ g = b) w cs x

theorem RowD.ne' {α : Type} {D : RowD α} {w w1 : World} {cs : List Value} {x : α} {o : Obj} (hb : Below w1.heap.size w1 (w1.alloc o)) (h : D.P (· < w.heap.size) w1 cs x) : D.P (fun g => g < w.heap.size ∨ g = w1.heap.size) (w1.alloc o) cs x :=
  D.keep (TFr.of_below hb) (D.ne (Nat.le_refl _) h)
theorem RowD.at' {α : Type} {D : RowD α} {w3 w4 : World} {cs : List Value} {x : α} {o : Obj} {B : Nat} {v : Value} (hb : Below w4.heap.size w4 (w4.alloc o)) (hv : ∀ g, v.ownBlock = some g → B ≤ g ∧ g < w3.heap.size) (hB : B ≤ w3.heap.size) (h : D.P (· < w3.heap.size) w4 cs x) : D.P (fun g => g < B ∨ v.ownBlock = some g) (w4.alloc o) cs x :=
  D.keep (TFr.of_below hb) (D.mono (fun _ hg => hg.elim (fun h => Nat.lt_of_lt_of_le h hB) (fun h => (hv _ h).2)) h)
theorem flat_at {k : Nat} : ∀ {css : List (List Value)} {j : Nat} {cs : List Value}, (∀ c ∈ css, c.length = k) → css[j]? = some cs → ∀ r u, cs[r]? = some u → css.flatten[j * k + r]? = some u
  | [], j, cs, _, h, _, _, _ => by simp at h
  | c :: l, 0, cs, hk, h, r, u, hu => by
    obtain rfl : c = cs := by simpa using h
    rw [List.flatten_cons, Nat.zero_mul, Nat.zero_add, List.getElem?_append_left (List.getElem?_eq_some_iff.1 hu).1]
    exact hu
  | c :: l, j + 1, cs, hk, h, r, u, hu => by
    have hc := hk c List.mem_cons_self
    rw [List.flatten_cons, List.getElem?_append_right (by rw [hc, Nat.succ_mul]; omega), hc, show (j + 1) * k + r - k = j * k + r by rw [Nat.succ_mul]; omega]
    exact flat_at (fun c hc => hk c (List.mem_cons_of_mem _ hc)) (by simpa using h) r u hu
theorem flat_len {k : Nat} : ∀ {css : List (List Value)}, (∀ c ∈ css, c.length = k) → css.flatten.length = css.length * k
  | [], _ => by simp
  | c :: l, hk => by
    rw [List.flatten_cons, List.length_append, hk c List.mem_cons_self, flat_len (fun c hc => hk c (List.mem_cons_of_mem _ hc)), List.length_cons, Nat.succ_mul]
    omega

variable {α : Type}

/-- A row that is read only. -/
def RowK (D : RowD α) (K : Nat → Prop) (w : World) (v : Value) (l : List α) : Prop := ∃ a c, v = .slice a l.length c ∧ l.length ≤ c ∧ ∀ (j : Nat) (x : α), l[j]? = some x → ∃ g o cs, a = some ⟨g, o, none⟩ ∧ ¬ K g ∧ D.P K w cs x ∧ ∀ r u, cs[r]? = some u → w.cell? ⟨g, o + j * D.k + r, none⟩ = some u
theorem RowK.slice {D : RowD α} {K : Nat → Prop} {w : World} {v : Value} {l : List α} (h : RowK D K w v l) : ∃ a c, v = .slice a l.length c := by
  obtain ⟨a, c, e, _⟩ := h
  exact ⟨a, c, e⟩
theorem RowK.keep {D : RowD α} {K : Nat → Prop} {w w' : World} {v : Value} {l : List α} (h : RowK D K w v l) (hf : TFr K w w') : RowK D K w' v l := by
  obtain ⟨a, c, e, hcap, h⟩ := h
  refine ⟨a, c, e, hcap, fun j x hj => ?_⟩
  obtain ⟨g, o, cs, ea, hg, hp, hc⟩ := h j x hj
  exact ⟨g, o, cs, ea, hg, D.keep hf hp, fun r u hu => hf.cell (hc r u hu) hg⟩
theorem RowK.keepR {D : RowD α} {K : Nat → Prop} {R : Nat} {w w' : World} {v : Value} {l : List α} (h : RowK D K w v l) (hf : TFr (· = R) w w') (hR : K R) : RowK D K w' v l := h.keep (hf.mono (fun _ _ e => e ▸ hR))
theorem RowK.mono {D : RowD α} {K K' : Nat → Prop} (hs : ∀ k, K' k → K k) {w : World} {v : Value} {l : List α} (h : RowK D K w v l) : RowK D K' w v l := by
  obtain ⟨a, c, e, hcap, h⟩ := h
  refine ⟨a, c, e, hcap, fun j x hj => ?_⟩
  obtain ⟨g, o, cs, ea, hg, hp, hc⟩ := h j x hj
  exact ⟨g, o, cs, ea, fun hn => hg (hs g hn), D.mono hs hp, hc⟩
theorem RowK.nil (D : RowD α) (K : Nat → Prop) (w : World) : RowK D K w (.slice none 0 0) [] := ⟨none, 0, rfl, Nat.le_refl _, fun j x hj => by simp at hj⟩
theorem RowK.ne {D : RowD α} {K : Nat → Prop} {w : World} {v : Value} {l : List α} {b : Nat} (h : RowK D K w v l) (hk : 0 < D.k) (hb : w.heap.size ≤ b) : RowK D (fun g => K g ∨ g = b) w v l := by
  obtain ⟨a, c, e, hcap, h⟩ := h
  refine ⟨a, c, e, hcap, fun j x hj => ?_⟩
  obtain ⟨g, o, cs, ea, hg, hp, hc⟩ := h j x hj
  have hl := D.len hp
  have h0 := hc 0 (cs[0]'(by omega)) (List.getElem?_eq_getElem _)
  have hlt : g < w.heap.size := World.block_lt_of_cell? _ _ h0
  exact ⟨g, o, cs, ea, fun hn => hn.elim hg (fun e => by omega), D.ne hb hp, hc⟩

theorem RowK.cap {D : RowD α} {K : Nat → Prop} {w : World} {a : Option Addr} {n c : Nat} {l : List α} (h : RowK D K w (.slice a n c) l) : l.length ≤ c := by
  obtain ⟨a', c', e, hc, _⟩ := h
  injection e with e1 e2 e3
  omega

/-- A row of one's own. -/
def OwnP (D : RowD α) (w : World) (B : Nat) (t : TypeId) (v : Value) (l : List α) : Prop := ∃ css : List (List Value), css.length = l.length ∧ w.ownsRow B t D.k v l.length css.flatten ∧ (∀ c ∈ css, c.length = D.k) ∧ ∀ (j : Nat) (x : α), l[j]? = some x → ∃ cs, css[j]? = some cs ∧ D.P (fun g => g < B ∨ v.ownBlock = some g) w cs x
theorem OwnP.slice {D : RowD α} {w : World} {B : Nat} {t : TypeId} {v : Value} {l : List α} (h : OwnP D w B t v l) : ∃ a c, v = .slice a l.length c := by
  obtain ⟨css, h1, h2, h3, h4⟩ := h
  rcases h2.2 with ⟨rfl, h0⟩ | ⟨g, cap, cur, rfl, _⟩
  · exact ⟨none, 0, by rw [h0]⟩
  · exact ⟨_, cap, rfl⟩
theorem OwnP.first {D : RowD α} {w : World} {B b : Nat} {t : TypeId} {cs : List Value} {x : α} (hb : B ≤ b) (hw : w.heap[b]? = some (.cells cs.toArray t (0, 0))) (hx : D.P (fun g => g < B ∨ g = b) w cs x) : OwnP D w B t (.slice (some ⟨b, 0, none⟩) 1 1) [x] := by
  have hl := D.len hx
  refine ⟨[cs], rfl, ⟨by simp [hl], .inr ⟨b, 1, cs.toArray, rfl, hb, hw, Nat.le_refl _, by unfold maxLen; omega, by simp [hl], by simp [← hl]⟩⟩, fun c hc => by rw [List.mem_singleton.1 hc]; exact hl, fun j y hj => ?_⟩
  match j, hj with
  | 0, hj =>
    obtain rfl : x = y := by simpa using hj
    exact ⟨cs, rfl, D.mono (fun g hg => hg.imp id (fun e => (Option.some.inj e).symm)) hx⟩
  | n + 1, hj => simp at hj
theorem OwnP.own {D : RowD α} {w : World} {B : Nat} {t : TypeId} {v : Value} {l : List α} (h : OwnP D w B t v l) : ∀ g, v.ownBlock = some g → B ≤ g ∧ g < w.heap.size := by
  obtain ⟨css, h1, h2, h3, h4⟩ := h
  intro g hg
  rcases h2.2 with ⟨rfl, h0⟩ | ⟨g', cap, cur, rfl, hb, hh, _⟩
  · cases hg
  · obtain rfl : g' = g := Option.some.inj hg
    exact ⟨hb, (Array.getElem?_eq_some_iff.1 hh).1⟩
/-- What is done to other blocks leaves it. -/
theorem OwnP.keep {D : RowD α} {w w' : World} {B : Nat} {t : TypeId} {v : Value} {l : List α} (h : OwnP D w B t v l) {K : Nat → Prop} (hf : TFr K w w') (hK : ∀ g, K g → g < B) : OwnP D w' B t v l := by
  have ho := h.own
  obtain ⟨css, h1, h2, h3, h4⟩ := h
  refine ⟨css, h1, ⟨h2.1, ?_⟩, h3, fun j x hj => ?_⟩
  · rcases h2.2 with h0 | ⟨g, cap, cur, e, hb, hh, r⟩
    · exact .inl h0
    · exact .inr ⟨g, cap, cur, e, hb, (hf.block g (Array.getElem?_eq_some_iff.1 hh).1 (fun hk => by have := hK g hk; omega)).trans hh, r⟩
  · obtain ⟨cs, hc, hp⟩ := h4 j x hj
    exact ⟨cs, hc, D.keep (hf.mono (fun k _ hk => .inl (hK k hk))) hp⟩
theorem OwnP.append {D : RowD α} {w : World} {B : Nat} {t ts ty : TypeId} {z : Value} {bytes : Nat} (hu : Tryz.prog.underlying ts = some (.slice t)) (hi : (Tryz.prog.info? t).map (fun i => (i.zero, i.size, i.bytes)) = some (some z, D.k, bytes)) (hzs : z.cells.size = D.k) (hk : 0 < D.k) (hby : bytes ≤ 1000)
    {v : Value} {l : List α} (h : OwnP D w B t v l) (hB : B ≤ w.heap.size) (hl : l.length ≤ 1000) {x : α} {cs : List Value} (hx : D.P (fun g => g < B ∨ v.ownBlock = some g) w cs x) {vb : Nat} (hvb : w.heap[vb]? = some (.cells cs.toArray t (0, 0))) :
    ∃ v' w', (Builtin.append_ #[ts, ts] ty #[v, .slice (some ⟨vb, 0, none⟩) 1 1]).run Tryz.prog w = .ok v' w' ∧ OwnP D w' B t v' (l ++ [x]) ∧ w.grownBy w' v.ownBlock := by
  have hown := h.own
  obtain ⟨css, h1, h2, h3, h4⟩ := h
  obtain ⟨i0, hi, hz0, hz1, hz2⟩ := info_parts hi
  have hcl := D.len hx
  have hsrc : ∀ j u, cs[j]? = some u → w.cell? ((⟨vb, 0, none⟩ : Addr).add j) = some u := fun j u hj => by
    have e : (⟨vb, 0, none⟩ : Addr).add j = ⟨vb, j, none⟩ := by unfold Addr.add; split <;> simp_all
    rw [e, cell_of_row w vb j _ t (0, 0) hvb]
    simpa using hj
  obtain ⟨v', w', hr, g2, g3, _, g5⟩ := run_append_own_at (P := Tryz.prog) w B ts ty t i0 _ D.k bytes hu hi hz0 hz1 hz2 hzs hk v l.length css.flatten h2 ⟨vb, 0, none⟩ 1 1 cs (by omega) hsrc (D.one hx) (by unfold maxLen; omega) (by
    have : (l.length + 1) * bytes ≤ 1001 * 1000 := Nat.mul_le_mul (by omega) hby
    omega) hB
  refine ⟨v', w', hr, ⟨css ++ [cs], by simp [h1], ?_, fun c hc => ?_, fun j y hj => ?_⟩, g3⟩
  · rw [List.length_append, List.flatten_append]
    simpa using g2
  · rcases List.mem_append.1 hc with hc | hc
    · exact h3 c hc
    · rw [List.mem_singleton.1 hc]; exact hcl
  · have key : ∀ {cs : List Value} {y : α}, D.P (fun g => g < B ∨ v.ownBlock = some g) w cs y → D.P (fun g => g < B ∨ v'.ownBlock = some g) w' cs y := fun {cs y} hp => by
      rcases g5 with e | e
      · rw [e]
        exact D.keep (TFr.of_grown g3 (fun k hk => .inr hk)) hp
      · rw [e]
        exact D.mono (fun g hg => hg.elim (fun h => .inl (.inl h)) (fun h => .inr (Option.some.inj h).symm)) (D.keep (TFr.of_grown g3 (fun k hk => .inl (.inr hk))) (D.ne (Nat.le_refl _) hp))
    by_cases hlt : j < l.length
    · rw [List.getElem?_append_left hlt] at hj
      obtain ⟨c, hc, hp⟩ := h4 j y hj
      exact ⟨c, by rw [List.getElem?_append_left (by omega)]; exact hc, key hp⟩
    · have hj2 : j = l.length := by
        have := (List.getElem?_eq_some_iff.1 hj).1
        simp at this
        omega
      subst hj2
      obtain rfl : x = y := by simpa using hj
      exact ⟨cs, by rw [← h1]; simp, key hx⟩
theorem OwnP.row {D : RowD α} {w : World} {B : Nat} {t : TypeId} {v : Value} {l : List α} (h : OwnP D w B t v l) : RowK D (· < B) w v l := by
  obtain ⟨css, h1, h2, h3, h4⟩ := h
  rcases h2.2 with ⟨rfl, h0⟩ | ⟨g, cap, cur, rfl, hb, hh, hn, hc, hs, ht⟩
  · exact ⟨none, 0, by rw [h0], by omega, fun j x hj => by have := (List.getElem?_eq_some_iff.1 hj).1; omega⟩
  · refine ⟨_, cap, rfl, hn, fun j x hj => ?_⟩
    obtain ⟨cs, hcs, hp⟩ := h4 j x hj
    refine ⟨g, 0, cs, rfl, Nat.not_lt.2 hb, D.mono (fun k hk => .inl hk) hp, fun r u hu => ?_⟩
    have e1 := flat_at h3 hcs r u hu
    have e2 := (List.getElem?_eq_some_iff.1 e1).1
    rw [cell_of_row w g _ cur t (0, 0) hh, Nat.zero_add]
    rw [← ht, List.getElem?_take, if_pos (by rw [← h1, ← flat_len h3]; exact e2)] at e1
    simpa using e1

theorem RdTo.grown {w W W' : World} {R T E : Nat} {s : RS} (h : RdTo R T E s w W) (hR : R < w.heap.size) {row : Option Nat} (hg : W.grownBy W' row) (hb : ∀ k, row = some k → w.heap.size ≤ k) : RdTo R T E s w W' := by
  have hf : TFr (fun k => row = some k) W W' := TFr.of_grown hg (fun k hk => hk)
  exact ⟨h.rd.other hf (fun k hk e => by have := hb k e; omega), ⟨hf.os.trans h.fr.os, hf.tape.trans h.fr.tape, hf.output.trans h.fr.output, Nat.le_trans h.fr.size hf.size, fun i hi hn => (hf.block i (Nat.lt_of_lt_of_le hi h.fr.size) (fun e => by have := hb i e; omega)).trans (h.fr.block i hi hn)⟩⟩

end Go.Proofs.YtndmbljpfpnehaaGreatDoor
namespace Go.Proofs.YtndmbljpfpnehaaGreatDoor
open Go.RowKit Go.Lib Go.Op

def nameD : RowD (List UInt8) where
  k := 1
  P := fun _ _ cs b => cs = [.string (strB b)]
  len := fun h => by rw [h]; rfl
  one := fun h u hu => by rw [h] at hu; rw [List.mem_singleton.1 hu]; rfl
  keep := fun _ h => h
  mono := fun _ h => h
  ne := fun _ h => h
def itemD : RowD PIt where
  k := 4
  P := fun K w cs i => ∃ a c, cs = [.bool i.no, .slice a i.ns.length c, .string (strB i.x), .int .i64 i.mode] ∧ RowK nameD K w (.slice a i.ns.length c) i.ns
  len := fun ⟨a, c, h, _⟩ => by rw [h]; rfl
  one := fun ⟨a, c, h, _⟩ u hu => by
    rw [h] at hu
    simp only [List.mem_cons, List.not_mem_nil, or_false] at hu
    rcases hu with rfl | rfl | rfl | rfl <;> rfl
  keep := fun hf ⟨a, c, h, hr⟩ => ⟨a, c, h, hr.keep hf⟩
  mono := fun hs ⟨a, c, h, hr⟩ => ⟨a, c, h, hr.mono hs⟩
  ne := fun hb ⟨a, c, h, hr⟩ => ⟨a, c, h, hr.ne (by decide) hb⟩
def exL (x : PEx) (kv : Value) : List Value := [.int .i64 x.k, .int .i64 x.v.k, .int .i64 x.v.n, .string (strB x.v.s), .string (strB x.x), .string (strB x.f), kv]
def predD : RowD PPr where
  k := 15
  P := fun K w cs p => ∃ a q c b r e d, cs = .int .i64 p.cmp :: (exL p.l (.slice a q c) ++ exL p.r (.slice b r e)) ∧ ExK K w d (.slice a q c) p.l.ks ∧ ExK K w d (.slice b r e) p.r.ks
  len := fun ⟨a, q, c, b, r, e, d, h, _⟩ => by rw [h]; rfl
  one := fun ⟨a, q, c, b, r, e, d, h, _⟩ u hu => by
    rw [h] at hu
    simp only [exL, List.cons_append, List.nil_append, List.mem_cons, List.not_mem_nil, or_false] at hu
    rcases hu with rfl | rfl | rfl | rfl | rfl | rfl | rfl | rfl | rfl | rfl | rfl | rfl | rfl | rfl | rfl <;> rfl
  keep := fun hf ⟨a, q, c, b, r, e, d, h, h1, h2⟩ => ⟨a, q, c, b, r, e, d, h, h1.keep hf, h2.keep hf⟩
  mono := fun hs ⟨a, q, c, b, r, e, d, h, h1, h2⟩ => ⟨a, q, c, b, r, e, d, h, h1.mono hs, h2.mono hs⟩
  ne := fun hb ⟨a, q, c, b, r, e, d, h, h1, h2⟩ => ⟨a, q, c, b, r, e, d, h, ExK.ne hb h1, ExK.ne hb h2⟩

theorem strI : (Tryz.prog.info? 9).map (fun i => (i.zero, i.size, i.bytes)) = some (some (.string .empty), 1, 16) := by kernel_rfl
theorem itemI : (Tryz.prog.info? 49).map (fun i => (i.zero, i.size, i.bytes)) = some (some (.agg #[.bool false, .slice none 0 0, .string .empty, .int .i64 0]), 4, 56) := by kernel_rfl
theorem predI : (Tryz.prog.info? 40).map (fun i => (i.zero, i.size, i.bytes)) = some (some (.agg #[.int .i64 0, .int .i64 0, .int .i64 0, .int .i64 0, .string .empty, .string .empty, .string .empty, .slice none 0 0, .int .i64 0, .int .i64 0, .int .i64 0, .string .empty, .string .empty, .string .empty, .slice none 0 0]), 15, 200) := by kernel_rfl

section
variable {α : Type} {E : Nat} {b : List UInt8} {one : RS → α × RS} {n : Nat} {l : List α} {s : RS}
theorem rowT_end (h : isT E s 1 b = false) : rowT E b one n l s = (l, s) := by
  cases n with
  | zero => rfl
  | succ n => rw [rowT, h]; rfl
theorem rowT_more (h : isT E s 1 b = true) : rowT E b one (n + 1) l s = rowT E b one n (l ++ [(one (takeT E s 1 b).2).1]) (one (takeT E s 1 b).2).2 := by rw [rowT, h]; rfl
theorem rowT_le (hle : ∀ s, (one s).2.l.length ≤ s.l.length) : ∀ (n : Nat) (l : List α) (s : RS), (rowT E b one n l s).2.l.length ≤ s.l.length
  | 0, l, s => Nat.le_refl _
  | n + 1, l, s => by
    rw [rowT]
    split
    · exact Nat.le_trans (rowT_le hle n _ _) (Nat.le_trans (hle _) (takeT_le _ _))
    · exact Nat.le_refl _
theorem rowT_deep (hdp : ∀ s, (one s).2.deep = s.deep) : ∀ (n : Nat) (l : List α) (s : RS), (rowT E b one n l s).2.deep = s.deep
  | 0, l, s => rfl
  | n + 1, l, s => by
    rw [rowT]
    split
    · rw [rowT_deep hdp n _ _, hdp, takeT_deep]
    · rfl
theorem row1T_le (hle : ∀ s, (one s).2.l.length ≤ s.l.length) (n : Nat) (s : RS) : (row1T E b one n s).2.l.length ≤ s.l.length := Nat.le_trans (rowT_le hle n _ _) (hle s)
theorem row1T_deep (hdp : ∀ s, (one s).2.deep = s.deep) (n : Nat) (s : RS) : (row1T E b one n s).2.deep = s.deep := (rowT_deep hdp n _ _).trans (hdp s)
end

/-- What is held in a round of row: l is read so far; what comes of all, is z. -/
structure RowIn {α : Type} (D : RowD α) (R T E m : Nat) (t : TypeId) (b : List UInt8) (one : RS → α × RS) (z : List α × RS) (w wr : World) (v : Value) (n : Nat) (l : List α) (s : RS) : Prop where
  own : OwnP D wr w.heap.size t v l
  rt : RdTo R T E s w wr
  is : rowT E b one n l s = z
  len : s.l.length ≤ n ∧ s.l.length ≤ m ∧ l.length + s.l.length ≤ 501
  ok : DeepOk s
/-- What a call of row leaves. -/
def RowTo {α : Type} (D : RowD α) (R T E : Nat) (p : List α × RS) (w : World) (e : Ending) (w' : World) : Prop := ∃ v, e = .returned v ∧ RowK D (· < w.heap.size) w' v p.1 ∧ RdTo R T E p.2 w w'

end Go.Proofs.YtndmbljpfpnehaaGreatDoor
namespace Go.Proofs.YtndmbljpfpnehaaGreatDoor
open Go.RowKit Go.Lib Go.Op

set_option maxHeartbeats 1000000 in
set_option maxRecDepth 100000 in
theorem rowS_calls {w : World} {R T E : Nat} {s : RS} {one : RS → (List UInt8) × RS} {m n : Nat} (hone : ∀ (w : World) (s : RS), RdR w R T E s → DeepOk s → s.l.length ≤ m → Calls Tryz.prog 82 #[.pointer (some ⟨R, 0, none⟩)] w fun e w' => e = .returned (.string (strB (one s).1)) ∧ RdTo R T E (one s).2 w w')
    (hle : ∀ s, (one s).2.l.length ≤ s.l.length) (hdp : ∀ s, (one s).2.deep = s.deep) (b : List UInt8) (h : RdR w R T E s) (hok : DeepOk s) (hm : s.l.length ≤ m) (hn : s.l.length ≤ n) (h5 : s.l.length ≤ 500) :
    Calls Tryz.prog 135 #[.pointer (some ⟨R, 0, none⟩), .string (strB b), .func (.func 82) #[.pointer (some ⟨R, 0, none⟩)] #[]] w (RowTo nameD R T E (row1T E b one n s) w) := by
  have hR := h.lt
  obtain ⟨z, hz⟩ : ∃ z, row1T E b one n s = z := ⟨_, rfl⟩
  rw [hz]
  obtain ⟨⟨y, s1⟩, hys⟩ : ∃ z, one s = z := ⟨_, rfl⟩
  have HO := hone w s h hok hm
  have hl1 := hle s
  have hp1 := hdp s
  rw [hys] at HO hl1 hp1
  dsimp only at HO hl1 hp1
  have HO1 := Lib.hid HO
  have HON := Lib.hid hone
  have hz1 : rowT E b one n [y] s1 = z := by rw [← hz]; unfold row1T; rw [hys]
  have HW := Lib.hid (fun W => word_mark (strB b) W)
  have HX := Lib.hid (And.intro hz1 (And.intro (show s1.l.length ≤ n ∧ s1.l.length ≤ m ∧ [y].length + s1.l.length ≤ 501 from ⟨by omega, by omega, by simp; omega⟩) (hok.le hp1 hl1)))
  clear hone HO hz hz1 hl1 hp1 hys h hok hm hn h5
  go_enter Tryz.func135, Tryz.ntmps135
  go_wp2_with fail
  with_reducible refine HO1.out.mono ?_
  rintro e w1 ⟨rfl, hd1⟩
  have HI : Hid (RowIn nameD R T E m 9 b one z w (w1.alloc (.cells #[.string (strB y)] 9)) (.slice (some ⟨w1.heap.size, 0, none⟩) 1 1) n [y] s1) := by
    have hb1 := (Below.refl w1.heap.size w1).alloc (Nat.le_refl _) (.cells #[.string (strB y)] 9)
    refine ⟨OwnP.first hd1.fr.size (heap_alloc_new w1 _) ?_, hd1.then hb1, HX.out.1, HX.out.2.1, HX.out.2.2⟩
    exact nameD.ne' hb1 (show nameD.P (· < w.heap.size) w1 [.string (strB y)] y from rfl)
  clear hd1 HX HO1 
  go_wp2
  go_loopw [7] (fun v wr => ∃ (n : Nat) (l : List (List UInt8)) (s : RS), Hid (RowIn nameD R T E m 9 b one z w wr v n l s)) (fun _ wr => leftN R wr)
  case atStart => exact ⟨n, [y], s1, HI⟩
  case round =>
    clear HI
    obtain ⟨n2, l, s2, HE⟩ := hrel
    have hE := HE.out
    obtain ⟨va, vc, rfl⟩ := hE.own.slice
    have HL := Lib.hid (leftN_is hE.rt.rd)
    go_wp2_with fail
    with_reducible refine (HW.out _).mono ?_
    rintro e w2 ⟨rfl, hb2⟩
    have D2 := Lib.hid (hE.rt.then hb2)
    have O2 := Lib.hid (hE.own.keep (TFr.of_below (K := fun _ => False) hb2) (fun _ h => h.elim))
    have HZ := Lib.hid (And.intro hE.is (And.intro hE.len hE.ok))
    have htk := takeW_calls D2.out.rd b
    have HTK := Lib.hid htk
    clear hb2 hE HE htk
    cases hp : isT E s2 1 b with
    | false =>
      have hz := HZ.out.1
      rw [rowT_end hp] at hz
      subst hz
      rw [hp, takeT_no hp] at HTK
      clear hp HZ
      go_wp2_with fail
      with_reducible refine HTK.out.mono ?_
      rintro e w3 ⟨rfl, hd3⟩
      have D3 := Lib.hid (D2.out.trans hd3)
      have O3 := Lib.hid (O2.out.keep hd3.fr (fun k e => by omega))
      clear hd3 D2 O2
      go_wp2
      go_ret
      exact ⟨_, rfl, O3.out.row, D3.out⟩
    | true =>
      obtain ⟨n3, rfl⟩ : ∃ n3, n2 = n3 + 1 := by
        have h1 := takeT_lt hp (by decide)
        have h2 := HZ.out.2.1.1
        exact ⟨n2 - 1, by omega⟩
      have hlt := takeT_lt hp (by decide)
      obtain ⟨s3, hs3⟩ : ∃ s3, (takeT E s2 1 b).2 = s3 := ⟨_, rfl⟩
      have hdp3 := takeT_deep (E := E) (s := s2) 1 b
      rw [hs3] at hlt hdp3
      obtain ⟨⟨y2, s4⟩, hys⟩ : ∃ z, one s3 = z := ⟨_, rfl⟩
      have hok3 : DeepOk s3 := HZ.out.2.2.le hdp3 (Nat.le_of_lt hlt)
      have hle4 := hle s3
      have hdp4 := hdp s3
      have his := HZ.out.1
      rw [rowT_more hp, hs3, hys] at his
      rw [hp, hs3] at HTK
      rw [hys] at hle4 hdp4
      dsimp only at hle4 hdp4 his
      have HN := Lib.hid (And.intro his (And.intro (show s4.l.length ≤ n3 ∧ s4.l.length ≤ m ∧ (l ++ [y2]).length + s4.l.length ≤ 501 by have := HZ.out.2.1; rw [List.length_append]; simp; omega) (hok3.le hdp4 hle4)))
      have HLT := Lib.hid (And.intro (show s4.l.length < s2.l.length by omega) (show l.length ≤ 1000 by have := HZ.out.2.1; omega))
      have HT2 : Hid (∀ W, RdR W R T E s3 → Calls Tryz.prog 82 #[.pointer (some ⟨R, 0, none⟩)] W fun e w' => e = .returned (.string (strB y2)) ∧ RdTo R T E s4 W w') := fun W hW => by
        have h := HON.out W s3 hW hok3 (by have := HZ.out.2.1; omega)
        rw [hys] at h
        exact h
      obtain ⟨q, hq⟩ : ∃ q, l.length = q := ⟨_, rfl⟩
      have HQ := Lib.hid hq
      rw [hq] at O2 ⊢
      clear hlt hdp3 hok3 hle4 hdp4 hys his HZ hp hq hs3
      go_wp2_with fail
      with_reducible refine HTK.out.mono ?_
      rintro e w3 ⟨rfl, hd3⟩
      have HT3 := Lib.hid (HT2.out w3 hd3.rd)
      have D3 := Lib.hid (D2.out.trans hd3)
      have O3 := Lib.hid (O2.out.keep hd3.fr (fun k e => by omega))
      clear hd3 D2 O2 HTK HT2
      go_wp2_with fail
      with_reducible refine HT3.out.mono ?_
      rintro e w4 ⟨rfl, hd4⟩
      have HAP : ∃ a9 l9 c9 w9, (Builtin.append_ #[47, 47] 47 #[.slice va q vc, .slice (some ⟨w4.heap.size, 0, none⟩) 1 1]).run Tryz.prog (w4.alloc (.cells #[.string (strB y2)] 9)) = .ok (.slice a9 l9 c9) w9 ∧ Hid (OwnP nameD w9 w.heap.size 9 (.slice a9 l9 c9) (l ++ [y2])) ∧ Hid (RdTo R T E s4 w w9) := by
        have hb5 := (Below.refl w4.heap.size w4).alloc (Nat.le_refl _) (.cells #[.string (strB y2)] 9)
        have o5 := (O3.out.keep hd4.fr (fun k e => by omega)).keep (TFr.of_below (K := fun _ => False) hb5) (fun _ h => h.elim)
        have hw3 := O3.out.own
        have hB := D3.out.fr.size
        have hpp := nameD.at' (B := w.heap.size) (v := .slice va q vc) hb5 hw3 hB (show nameD.P (· < w3.heap.size) w4 [.string (strB y2)] y2 from rfl)
        obtain ⟨v9, w9, hr, ho, hg⟩ := OwnP.append (ts := 47) (ty := 47) (by kernel_rfl) strI rfl (by decide) (by decide) o5 (by have := hd4.fr.size; have := hb5.size; omega) HLT.out.2 hpp (heap_alloc_new w4 _)
        obtain ⟨a9, c9, rfl⟩ := ho.slice
        exact ⟨a9, _, c9, w9, hr, ho, ((D3.out.trans hd4).then hb5).grown hR hg (fun k hk => (o5.own k hk).1)⟩
      obtain ⟨a9, l9, c9, w9, hr9, O9, D9⟩ := HAP
      clear hd4 O3 D3 HT3 
      go_wp2_with (at_builtin; refine Lib.wpList_append_run _ rfl _ _ _ _ rfl _ _ rfl rfl _ _ hr9 ?_; clear hr9)
      refine ⟨⟨n3, l ++ [y2], s4, ?_⟩, ?_⟩
      · exact ⟨O9.out, D9.out, HN.out.1, HN.out.2.1, HN.out.2.2⟩
      · rw [leftN_is D9.out.rd, HL.out]
        exact HLT.out.1

end Go.Proofs.YtndmbljpfpnehaaGreatDoor
namespace Go.Proofs.YtndmbljpfpnehaaGreatDoor
open Go.RowKit Go.Lib Go.Op

set_option maxRecDepth 100000 in
theorem or_calls (x y : Int) (b c : Nat) (w : World) (hx : w.cell? ⟨b, 0, none⟩ = some (.int .i64 x)) (hy : w.cell? ⟨b, 1, none⟩ = some (.int .i64 y)) :
    Calls Tryz.prog 136 #[.slice (some ⟨b, 0, none⟩) 2 c] w fun e w' => e = .returned (.int .i64 (if x ≠ 0 then x else y)) ∧ w = w' := by
  by_cases h : x = 0
  · rw [if_neg (fun e => e h)]
    subst h
    by_cases h2 : y = 0
    · subst h2
      go_enter Tryz.func136, Tryz.ntmps136
      go_wp2
      go_loop [8] (fun i => ∃ k : Nat, k ≤ 2 ∧ i = .int .i64 k) (fun i => 2 - (intOf i).toNat)
      case atStart => exact ⟨0, by omega, rfl⟩
      case round =>
        obtain ⟨k, hk, rfl⟩ := hrel
        obtain rfl | rfl | rfl : k = 0 ∨ k = 1 ∨ k = 2 := by omega
        · go_wp2
          go_round
          case rel => exact ⟨1, by omega, by go_num⟩
          case measure => simp [intOf]
        · go_wp2
          go_round
          case rel => exact ⟨2, by omega, by go_num⟩
          case measure => simp [intOf]
        · go_wp2
          go_ret
          exact ⟨rfl, rfl⟩
    · go_enter Tryz.func136, Tryz.ntmps136
      go_wp2
      go_loop [8] (fun i => ∃ k : Nat, k ≤ 1 ∧ i = .int .i64 k) (fun i => 2 - (intOf i).toNat)
      case atStart => exact ⟨0, by omega, rfl⟩
      case round =>
        obtain ⟨k, hk, rfl⟩ := hrel
        obtain rfl | rfl : k = 0 ∨ k = 1 := by omega
        · go_wp2
          go_round
          case rel => exact ⟨1, by omega, by go_num⟩
          case measure => simp [intOf]
        · go_wp2
          go_ret
          exact ⟨rfl, rfl⟩
  · rw [if_pos h]
    go_enter Tryz.func136, Tryz.ntmps136
    go_wp2
    go_loop [8] (fun i => i = .int .i64 0) (fun i => 2 - (intOf i).toNat)
    case atStart => exact rfl
    case round =>
      subst hrel
      go_wp2
      go_ret
      exact ⟨rfl, rfl⟩

theorem vbelow_drewN {w w' : World} (h : Below w.heap.size w w') (n : Nat) : Below w.heap.size w (w'.drewN n) := ⟨h.os, h.tape, h.output, h.size, h.block⟩
theorem vbelow_drew {w w' : World} (h : Below w.heap.size w w') : Below w.heap.size w w'.drew := ⟨h.os, h.tape, h.output, h.size, h.block⟩

/-- The parts of a value, as the model has it. -/
abbrev aggV (k n : Int) (s : ByteArray) : Value := .agg #[.int .i64 k, .int .i64 n, .string s]
def cellsV (k n : Int) (s : ByteArray) : Obj := .cells #[.int .i64 k, .int .i64 n, .string s] 35

def SignPost (w : World) (z : Int) (e : Ending) (w' : World) : Prop := e = .returned (.int .i64 z) ∧ Below w.heap.size w w'

end Go.Proofs.YtndmbljpfpnehaaGreatDoor
