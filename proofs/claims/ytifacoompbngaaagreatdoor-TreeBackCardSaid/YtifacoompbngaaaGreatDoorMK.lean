/- Queries: what Deep holds in a round. | Queries: Deep. | Queries: the live question of the layer's statements. | Queries in plain words: what is printed tells which query it is; how long what is right is. | Queries in plain words: how the words of what is printed of a query are read. -/
import Derived.Test.YtifacoompbngaaaGreatDoorMJ
namespace Go.Proofs.YtifacoompbngaaaGreatDoor
open Go.RowKit Go.Lib Go.Op

def lenV : Value → Nat
  | .slice _ n _ => n
  | _ => 0
/-- The top of a row of one's own. -/
theorem OwnP.top {w : World} {B n c : Nat} {a : Option Addr} {t : TypeId} {l : List (Option Addr × Nat × Nat)} {e : Option Addr × Nat × Nat} (h : OwnP sliceD w B t (.slice a n c) (l ++ [e])) :
    ∃ g, a = some ⟨g, 0, none⟩ ∧ n = l.length + 1 ∧ w.cell? ⟨g, l.length, none⟩ = some (.slice e.1 e.2.1 e.2.2) ∧ n ≤ c := by
  obtain ⟨css, h1, h2, h3, h4⟩ := h
  rw [List.length_append, List.length_singleton] at h1 h2
  obtain ⟨cs, h5, h6⟩ := h4 l.length e (by simp)
  have h6 : cs = [.slice e.1 e.2.1 e.2.2] := h6
  subst h6
  rcases h2.2 with ⟨_, h0⟩ | ⟨g, cap, cur, e1, hb, hh, hn, hc, hs, ht⟩
  · omega
  · injection e1 with e1 e2 e3
    subst e1 e2 e3
    refine ⟨g, rfl, rfl, ?_, hn⟩
    have h7 := flat_at (k := 1) (j := l.length) h3 h5 0 _ rfl
    rw [Nat.mul_one, Nat.add_zero, ← ht, List.getElem?_take, if_pos (by show l.length < (l.length + 1) * 1; omega)] at h7
    rw [cell_of_row w g l.length _ t (0, 0) hh]
    simpa using h7
theorem OwnP.map_kept {w : World} {B m : Nat} {t : TypeId} {v : Value} {l : List (Option Addr × Nat × Nat)} (h : OwnP sliceD w B t v l) (hm : m < B) (o : Obj) : OwnP sliceD { w with heap := w.heap.setIfInBounds m o } B t v l := by
  obtain ⟨css, h1, h2, h3, h4⟩ := h
  refine ⟨css, h1, ⟨h2.1, ?_⟩, h3, fun j x hj => ?_⟩
  · rcases h2.2 with h0 | ⟨g, cap, cur, e, hb, hh, r⟩
    · exact .inl h0
    · refine .inr ⟨g, cap, cur, e, hb, ?_, r⟩
      show (w.heap.setIfInBounds m o)[g]? = _
      rw [Array.getElem?_setIfInBounds_ne (by omega)]
      exact hh
  · exact h4 j x hj
theorem below_map {B m : Nat} {w W : World} (h : Below B w W) (hm : B ≤ m) (o : Obj) : Below B w { W with heap := W.heap.setIfInBounds m o } :=
  h.trans ⟨rfl, rfl, rfl, by simp, fun k hk => Array.getElem?_setIfInBounds_ne (by omega)⟩
theorem blk_map {w : World} {b m : Nat} {o o' : Obj} (h : w.heap[b]? = some o') (hm : m ≠ b) : ({ w with heap := w.heap.setIfInBounds m o } : World).heap[b]? = some o' := by
  show (w.heap.setIfInBounds m o)[b]? = _
  rw [Array.getElem?_setIfInBounds_ne hm]
  exact h
theorem placeE_calls {w : World} (e : Option Addr × Nat × Nat) (h : e.2.1 ≠ 0 → ∃ g o, e.1 = some ⟨g, o, none⟩) : Calls Tryz.prog 50 #[.slice e.1 e.2.1 e.2.2] w fun r w' => r = .returned (keyV (key3 e)) ∧ Below w.heap.size w w' := by
  obtain ⟨a, n, c⟩ := e
  unfold key3
  dsimp only at h ⊢
  by_cases hn : n = 0
  · subst hn
    rw [if_pos rfl]
    exact place_nil
  · rw [if_neg hn]
    obtain ⟨g, o, rfl⟩ := h hn
    exact place_some (Nat.pos_of_ne_zero hn)

theorem DMap.lt {W : World} {m : Nat} {f : Option Addr × Nat → Int} (h : DMap W m f) : m < W.heap.size := by
  obtain ⟨es, c, h1, _⟩ := h
  exact (Array.getElem?_eq_some_iff.1 h1).1
theorem DMap.keepL {W W' : World} {m L : Nat} {f : Option Addr × Nat → Int} (h : DMap W m f) (hk : KeysIn W m L) {K : Nat → Prop} (hf : TFr K W W') (hm : ¬ K m) (hL : ∀ b, b < L → ¬ K b) : DMap W' m f ∧ KeysIn W' m L := by
  have hlt := h.lt
  have hmb := hf.block m hlt hm
  refine ⟨?_, fun es c he => hk es c (by rw [← hmb]; exact he)⟩
  obtain ⟨es, c, h1, h2⟩ := h
  refine ⟨es, c, hmb.trans h1, ⟨fun e he => ?_, h2.has, h2.one⟩⟩
  obtain ⟨k, h3, h4, h5⟩ := h2.ent e he
  refine ⟨k, h3, fun a ha => ?_, h5⟩
  obtain ⟨cs, t, h6⟩ := h4 a ha
  exact ⟨cs, t, (hf.block a.block (Array.getElem?_eq_some_iff.1 h6).1 (hL _ (hk es c h1 e he k h3 a ha))).trans h6⟩
theorem KeysIn.below {W W' : World} {m L : Nat} (h : KeysIn W m L) (hb : Below W.heap.size W W') (hm : m < W.heap.size) : KeysIn W' m L := fun es c he => h es c (by rw [← hb.block m hm]; exact he)
/-- What the walk of Deep knows of the expression's rows. -/
structure DTree (w : World) (R : List (Option Addr × Nat)) (dep : Option Addr × Nat → Int) : Prop where
  rows : DRows R (kidsF w) dep
  at_ : ∀ s ∈ R, s ≠ (none, 0) → 0 < s.2 ∧ ∃ l : List PEx, s.2 = l.length ∧ l.length ≤ 10000 ∧ KidsAt w s.1 l (kidsF w s) ∧ KBlk w s
  dep : ∀ s ∈ R, dep s ≤ 10001
  wt : ∀ f, wtS R (kidsF w) f ≤ 200000000
theorem DTree.low {w : World} {R : List (Option Addr × Nat)} {dep : Option Addr × Nat → Int} (T : DTree w R dep) {s : Option Addr × Nat} (hs : s ∈ R) : ∀ a, s.1 = some a → a.block < w.heap.size := fun a ha => by
  by_cases h : s = (none, 0)
  · rw [h] at ha
    cases ha
  · obtain ⟨_, _, _, _, _, hk⟩ := T.at_ s hs h
    obtain ⟨cs, t, hb⟩ := hk a ha
    exact (Array.getElem?_eq_some_iff.1 hb).1
theorem DTree.blk {w : World} {R : List (Option Addr × Nat)} {dep : Option Addr × Nat → Int} (T : DTree w R dep) {s : Option Addr × Nat} (hs : s ∈ R) : KBlk w s := by
  by_cases h : s = (none, 0)
  · rw [h]; exact KBlk.nil w
  · obtain ⟨_, _, _, _, _, h⟩ := T.at_ s hs h
    exact h
theorem DTree.addr {w : World} {R : List (Option Addr × Nat)} {dep : Option Addr × Nat → Int} (T : DTree w R dep) {e : Option Addr × Nat × Nat} (hs : key3 e ∈ R) (hn : e.2.1 ≠ 0) : ∃ g o, e.1 = some ⟨g, o, none⟩ := by
  have hk : key3 e = (e.1, e.2.1) := by unfold key3; rw [if_neg hn]
  rw [hk] at hs
  obtain ⟨h1, l, h2, _, h3, _⟩ := T.at_ _ hs (fun h => hn (congrArg Prod.snd h))
  dsimp only at h1 h2 h3
  obtain ⟨x, hx⟩ : ∃ x, l[0]? = some x := ⟨_, List.getElem?_eq_getElem (by omega)⟩
  obtain ⟨g, o, _, _, ha, _⟩ := h3.2 0 x hx
  exact ⟨g, o, ha⟩
/-- What Deep holds in a round: the map in block m, the worklist's rows from B on, the root's key. -/
structure DeepIn (w : World) (X : Obj) (wr : World) (R : List (Option Addr × Nat)) (dep f : Option Addr × Nat → Int) (root : Option Addr × Nat) (v : Value) (st : List (Option Addr × Nat × Nat)) : Prop where
  own : OwnP sliceD wr (w.heap.size + 2) 36 v st
  map : DMap wr (w.heap.size + 1) f
  inv : DInv R (kidsF w) dep f (st.reverse.map key3)
  low : Below (w.heap.size + 1) (w.alloc X) wr
  len : st.length + wtS R (kidsF w) f ≤ 200000001
  top : ∀ k, f k ≤ 1000000
  root : 0 < f root ∨ root ∈ st.map key3
  big : w.heap.size + 2 ≤ wr.heap.size
  keys : KeysIn wr (w.heap.size + 1) w.heap.size
theorem rev_top (st : List (Option Addr × Nat × Nat)) (e : Option Addr × Nat × Nat) : (st ++ [e]).reverse.map key3 = key3 e :: st.reverse.map key3 := by
  rw [List.reverse_append]
  rfl
section
variable {w wr W : World} {X : Obj} {R : List (Option Addr × Nat)} {dep f : Option Addr × Nat → Int} {root : Option Addr × Nat} {v : Value} {st : List (Option Addr × Nat × Nat)} {e : Option Addr × Nat × Nat}
theorem DeepIn.low0 (h : DeepIn w X wr R dep f root v st) : Below w.heap.size w wr := ((Below.refl w.heap.size w).alloc (Nat.le_refl _) X).trans (h.low.mono (Nat.le_succ _))
theorem DeepIn.wt_eq (T : DTree w R dep) (h : DeepIn w X wr R dep f root v st) : wtS R (kidsF w) (fOf Tryz.prog (w.heap.size + 1) wr) = wtS R (kidsF w) f := wtS_congr fun _ hr => h.map.fOf ((T.blk hr).below h.low0)
theorem DeepIn.mem (h : DeepIn w X wr R dep f root v (st ++ [e])) : key3 e ∈ R := h.inv.inR _ (by rw [rev_top]; exact List.mem_cons_self)
theorem DeepIn.below (h : DeepIn w X wr R dep f root v st) (hb : Below wr.heap.size wr W) : DeepIn w X W R dep f root v st :=
  ⟨h.own.keep (TFr.of_below (K := fun _ => False) hb) (fun _ h => h.elim), h.map.below hb, h.inv, h.low.trans (hb.mono (Nat.le_of_succ_le h.big)), h.len, h.top, h.root, Nat.le_trans h.big hb.size, h.keys.below hb (Nat.lt_of_lt_of_le (Nat.lt_succ_self _) h.big)⟩
/-- A row that was not seen is begun; its Kids are still to be pushed. -/
structure DeepPush (w : World) (X : Obj) (wr : World) (R : List (Option Addr × Nat)) (dep f : Option Addr × Nat → Int) (root : Option Addr × Nat) (e : Option Addr × Nat × Nat) (v : Value) (st : List (Option Addr × Nat × Nat)) (j : Nat) : Prop where
  own : ∃ ps : List (Option Addr × Nat × Nat), OwnP sliceD wr (w.heap.size + 2) 36 v (st ++ e :: ps) ∧ ps.map key3 = (kidsF w (key3 e)).take j
  map : DMap wr (w.heap.size + 1) (updF f (key3 e) (-1))
  low : Below (w.heap.size + 1) (w.alloc X) wr
  big : w.heap.size + 2 ≤ wr.heap.size
  keys : KeysIn wr (w.heap.size + 1) w.heap.size
theorem DeepPush.low0 {e : Option Addr × Nat × Nat} {j : Nat} (h : DeepPush w X wr R dep f root e v st j) : Below w.heap.size w wr := ((Below.refl w.heap.size w).alloc (Nat.le_refl _) X).trans (h.low.mono (Nat.le_succ _))
theorem DeepIn.done (h : DeepIn w X wr R dep f root v (st ++ [e])) (hf : 0 < f (key3 e)) {v' : Value} (hv : OwnP sliceD wr (w.heap.size + 2) 36 v' st) : DeepIn w X wr R dep f root v' st :=
  ⟨hv, h.map, (by have := h.inv; rw [rev_top] at this; exact this.done hf), h.low, by have := h.len; rw [List.length_append] at this; omega, h.top, by
    rcases h.root with h1 | h1
    · exact .inl h1
    · rw [List.map_append, List.mem_append] at h1
      rcases h1 with h1 | h1
      · exact .inr h1
      · rw [List.map_singleton, List.mem_singleton] at h1
        exact .inl (h1 ▸ hf), h.big, h.keys⟩
theorem DeepIn.begun (T : DTree w R dep) (h : DeepIn w X wr R dep f root v (st ++ [e])) (hf : f (key3 e) = -1) {W : World} {o : Obj} (hm : DMap { W with heap := W.heap.setIfInBounds (w.heap.size + 1) o } (w.heap.size + 1) (updF f (key3 e) (1 + mostF f (kidsF w (key3 e))))) (hb : Below wr.heap.size wr W) (hky : KeysIn { W with heap := W.heap.setIfInBounds (w.heap.size + 1) o } (w.heap.size + 1) w.heap.size) :
    DeepIn w X { W with heap := W.heap.setIfInBounds (w.heap.size + 1) o } R dep (updF f (key3 e) (1 + mostF f (kidsF w (key3 e)))) root v (st ++ [e]) ∧ wtS R (kidsF w) (updF f (key3 e) (1 + mostF f (kidsF w (key3 e)))) < wtS R (kidsF w) f := by
  have hi := h.inv
  rw [rev_top] at hi
  have hi2 := hi.begun T.rows hf
  have hw := wtS_begun T.rows h.mem hf
  rw [hi2.1] at hm ⊢
  have hd := T.dep _ h.mem
  have hp := T.rows.pos h.mem
  refine ⟨⟨((h.own.keep (TFr.of_below (K := fun _ => False) hb) (fun _ h => h.elim)).map_kept (by omega) o), hm, by rw [rev_top]; exact hi2.2, below_map (h.low.trans (hb.mono (Nat.le_of_succ_le h.big))) (Nat.le_refl _) o, by have := h.len; omega, fun k => ?_, ?_, ?_, hky⟩, by omega⟩
  · unfold updF
    split
    · omega
    · exact h.top k
  · rcases h.root with h1 | h1
    · left
      unfold updF
      split
      · exact hp
      · exact h1
    · exact .inr h1
  · have := h.big
    have := hb.size
    simp only [Array.size_setIfInBounds]
    omega
theorem DeepIn.push (_ : DTree w R dep) (h : DeepIn w X wr R dep f root v (st ++ [e])) {W : World} {o : Obj} (hm : DMap { W with heap := W.heap.setIfInBounds (w.heap.size + 1) o } (w.heap.size + 1) (updF f (key3 e) (-1))) (hb : Below wr.heap.size wr W) (hky : KeysIn { W with heap := W.heap.setIfInBounds (w.heap.size + 1) o } (w.heap.size + 1) w.heap.size) :
    DeepPush w X { W with heap := W.heap.setIfInBounds (w.heap.size + 1) o } R dep f root e v st 0 :=
  ⟨⟨[], (h.own.keep (TFr.of_below (K := fun _ => False) hb) (fun _ h => h.elim)).map_kept (by omega) o, rfl⟩, hm, below_map (h.low.trans (hb.mono (Nat.le_of_succ_le h.big))) (Nat.le_refl _) o, by
    have := h.big
    have := hb.size
    simp only [Array.size_setIfInBounds]
    omega, hky⟩
theorem DeepIn.pushed (T : DTree w R dep) (h : DeepIn w X wr R dep f root v (st ++ [e])) (hf : f (key3 e) = 0) {j : Nat} (hj : (kidsF w (key3 e)).length ≤ j) {W : World} {v' : Value} (hp : DeepPush w X W R dep f root e v' st j) :
    ∃ st', DeepIn w X W R dep (updF f (key3 e) (-1)) root v' st' ∧ st'.length + wtS R (kidsF w) (updF f (key3 e) (-1)) < (st ++ [e]).length + wtS R (kidsF w) f := by
  obtain ⟨ps, ho, hk⟩ := hp.own
  rw [List.take_of_length_le hj] at hk
  have hi := h.inv
  rw [rev_top] at hi
  have hi2 := hi.unseen T.rows hf
  have hw := wtS_unseen T.rows h.mem hf
  have hl : ps.length = (kidsF w (key3 e)).length := by rw [← hk, List.length_map]
  have hlen := h.len
  rw [List.length_append, List.length_singleton] at hlen
  refine ⟨st ++ e :: ps, ⟨ho, hp.map, ?_, hp.low, ?_, fun k => ?_, ?_, hp.big, hp.keys⟩, ?_⟩
  · have e1 : (st ++ e :: ps).reverse.map key3 = (kidsF w (key3 e)).reverse ++ key3 e :: st.reverse.map key3 := by
      rw [← hk, List.reverse_append, List.reverse_cons, List.map_append, List.map_append, List.map_reverse]
      simp
    rw [e1]
    exact hi2
  · rw [List.length_append, List.length_cons]
    omega
  · unfold updF
    split
    · decide
    · exact h.top k
  · rcases h.root with h1 | h1
    · left
      have hr : root ≠ key3 e := fun hr => by
        rw [hr, hf] at h1
        cases h1
      unfold updF
      rw [if_neg hr]
      exact h1
    · right
      rw [List.map_append, List.mem_append] at h1 ⊢
      rcases h1 with h1 | h1
      · exact .inl h1
      · rw [List.map_singleton, List.mem_singleton] at h1
        exact .inr (by rw [h1]; simp)
  · rw [List.length_append, List.length_append, List.length_cons, List.length_singleton]
    omega
end
end Go.Proofs.YtifacoompbngaaaGreatDoor
namespace Go.Proofs.YtifacoompbngaaaGreatDoor
open Go.RowKit Go.Lib Go.Op

theorem DMap.put {W : World} {m : Nat} {f : Option Addr × Nat → Int} (h : DMap W m f) {k : Option Addr × Nat} (hk : KBlk W k) (v : Int) :
    ∃ o W2, (Instr.mapUpdate 102 (.map (some m)) (keyV k) (.int .i64 v)).run Tryz.prog W = .ok () W2 ∧ Hid (W2 = { W with heap := W.heap.setIfInBounds m o }) ∧ Hid (DMap W2 m (updF f k v)) ∧ Hid (∀ L, KeysIn W m L → (∀ a, k.1 = some a → a.block < L) → KeysIn W2 m L) := by
  obtain ⟨o, h1, h2, h3⟩ := h.upd hk v
  exact ⟨o, _, h1, rfl, h2, h3⟩
theorem DeepIn.start {w : World} {X : Obj} {R : List (Option Addr × Nat)} {dep : Option Addr × Nat → Int} (T : DTree w R dep) {W3 : World} {e : Option Addr × Nat × Nat} (he : key3 e ∈ R) (hm : DMap W3 (w.heap.size + 1) (updF (fun _ => 0) (none, 0) 1)) (hl : Below (w.heap.size + 1) (w.alloc X) W3) (hb : w.heap.size + 2 ≤ W3.heap.size) (hky : KeysIn W3 (w.heap.size + 1) w.heap.size) :
    DeepIn w X (W3.alloc (.cells #[.slice e.1 e.2.1 e.2.2] 36)) R dep (updF (fun _ => 0) (none, 0) 1) (key3 e) (.slice (some ⟨W3.heap.size, 0, none⟩) 1 1) [e] := by
  have hba := (Below.refl W3.heap.size W3).alloc (Nat.le_refl _) (.cells #[.slice e.1 e.2.1 e.2.2] 36)
  have h0 : ∀ r, updF (fun _ => 0) (none, 0) 1 r = if r = (none, 0) then 1 else 0 := fun r => rfl
  refine ⟨OwnP.first (cs := [.slice e.1 e.2.1 e.2.2]) hb (heap_alloc_new W3 _) rfl, hm.below hba, ⟨fun r hr => ?_, ?_, fun r hr => ?_, fun r hr => ?_⟩, hl.trans (hba.mono (by omega)), ?_, fun k => ?_, .inr (by simp), ?_, hky.below hba (by omega)⟩
  · rw [h0]
    split
    · rename_i h
      exact .inr (.inr (by rw [h, T.rows.dn]))
    · exact .inl rfl
  · rw [h0, if_pos rfl]
  · have : r = key3 e := by simpa using hr
    rw [this]
    exact he
  · rw [h0] at hr
    split at hr <;> omega
  · have := T.wt (updF (fun _ => 0) (none, 0) 1)
    rw [List.length_singleton]
    omega
  · rw [h0]
    split <;> decide
  · have := hba.size
    omega
theorem DeepIn.last {w wr : World} {X : Obj} {R : List (Option Addr × Nat)} {dep f : Option Addr × Nat → Int} {root : Option Addr × Nat} {v : Value} (h : DeepIn w X wr R dep f root v []) (hr : root ∈ R) : f root = dep root := by
  have h1 : 0 < f root := h.root.elim id (fun h => by simp at h)
  rcases h.inv.vals root hr with h2 | h2 | h2
  · omega
  · omega
  · exact h2

set_option maxHeartbeats 4000000 in
set_option maxRecDepth 100000 in
theorem deep_calls {K : Nat → Prop} (hK : K 0) {w : World} {d : Nat} {x : PEx} {a : Option Addr} {c : Nat} (h : ExK K w d (.slice a x.ks.length c) x.ks) (hs : sizeI x ≤ 10000) :
    Calls Tryz.prog 20 #[exV x (.slice a x.ks.length c)] w fun e w' => e = .returned (.int .i64 (deepI x)) ∧ Below w.heap.size w w' := by
  obtain ⟨R, dep, hR, hroot, hdep, hat, hdb, hwt⟩ := rows_of hK h hs
  have T : DTree w R dep := ⟨hR, hat, hdb, hwt⟩
  obtain ⟨_, hadr⟩ := h.addr
  have hadr2 : x.ks.length ≠ 0 → ∃ g o, a = some ⟨g, o, none⟩ := fun hn => by
    obtain ⟨g, o, e, _⟩ := hadr hn
    exact ⟨g, o, e⟩
  obtain ⟨n, hn⟩ : ∃ n, x.ks.length = n := ⟨_, rfl⟩
  rw [hn] at hroot hdep hadr2 ⊢
  rw [← hdep]
  have HT := Lib.hid T
  have HR := Lib.hid hroot
  have HA := Lib.hid hadr2
  have hbx := (Below.refl (w.heap.size + 1) (w.alloc (.cells #[.int .i64 x.k, .int .i64 x.v.k, .int .i64 x.v.n, .string (strB x.v.s), .string (strB x.x), .string (strB x.f), .slice a n c] 38)))
  have hX := XBlk.new w (.int .i64 x.k) (.int .i64 x.v.k) (.int .i64 x.v.n) (.string (strB x.v.s)) (.string (strB x.x)) (.string (strB x.f)) (.slice a n c)
  obtain ⟨X, hXo⟩ : ∃ X, Obj.cells #[.int .i64 x.k, .int .i64 x.v.k, .int .i64 x.v.n, .string (strB x.v.s), .string (strB x.x), .string (strB x.f), .slice a n c] 38 = X := ⟨_, rfl⟩
  have HXo := Lib.hid hXo
  rw [hXo] at hX hbx
  have hsz : (w.alloc X).heap.size = w.heap.size + 1 := by simp
  have hm1 : DMap ((w.alloc X).alloc (.map #[] 0)) (w.heap.size + 1) (fun _ => 0) := DMap.start (by rw [← hsz]; exact heap_alloc_new (w.alloc X) _)
  obtain ⟨o1, W2, hr1, HW2, HM2, hky2⟩ := hm1.put (KBlk.nil _) 1
  have HKY2 : Hid (KeysIn W2 (w.heap.size + 1) w.heap.size) := hky2.out _ (fun es c he e hm => by
    rw [← hsz, heap_alloc_new (w.alloc X) _] at he
    injection he with he
    injection he with he _
    rw [← he] at hm
    simp at hm) (fun a ha => by cases ha)
  clear hky2
  rw [keyV_nil] at hr1
  have hl2 : Below (w.heap.size + 1) (w.alloc X) W2 := by
    rw [HW2.out]
    exact below_map (hbx.alloc (by omega) (.map #[] 0)) (Nat.le_refl _) o1
  have hb2 : w.heap.size + 2 ≤ W2.heap.size := by
    rw [HW2.out]
    simp
  have hX2 : XBlk W2 w.heap.size (.int .i64 x.k) (.int .i64 x.v.k) (.int .i64 x.v.n) (.string (strB x.v.s)) (.string (strB x.x)) (.string (strB x.f)) (.slice a n c) := (hl2.block w.heap.size (Nat.lt_succ_self _)).trans hX
  have HX := Lib.hid hX
  have HU := Lib.hid (fun W => under_calls (w := W) (k := x.k) (a := a) (c := c) (n := n) (v := x.v) (x := x.x) (f := x.f))
  have HP0 := Lib.hid (fun W => place_calls (w := W) (k := x.k) (a := a) (c := c) (n := n) hadr2)
  obtain ⟨c0, c1, c2, c3, c4, c5, c6, _, _, _, _, _, _, _⟩ := hX2.all
  rw [← hXo] at hr1
  have HL2 := Lib.hid (And.intro hl2 hb2)
  have hk3 := key3_und x.k a n c
  obtain ⟨⟨ua, un, uc⟩, hu⟩ : ∃ z, undV x.k a n c = z := ⟨_, rfl⟩
  rw [hu] at HU HP0 hk3
  have HK3 := Lib.hid hk3
  clear h hs hR hroot hdep hat hdb hwt T hadr hadr2 hbx hX hXo hm1 hl2 hb2 hX2 hk3 hu hn hsz
  simp only [xexV]
  have hmm := @run_makeMap Tryz.prog
  go_enter Tryz.func20, Tryz.ntmps20
  go_wp2_with fail
  with_reducible refine (HU.out _).mono ?_
  rintro e w3 ⟨rfl, hb3⟩
  have HI : Hid (DeepIn w X (w3.alloc (.cells #[.slice ua un uc] 36)) R dep (updF (fun _ => 0) (none, 0) 1) (keyX x.k a n) (.slice (some ⟨w3.heap.size, 0, none⟩) 1 1) [(ua, un, uc)]) := by
    have h3 := HL2.out
    have := DeepIn.start (X := X) HT.out (W3 := w3) (e := (ua, un, uc)) (by rw [HK3.out]; exact HR.out) (HM2.out.below hb3) (h3.1.trans (hb3.mono (by omega))) (by have := hb3.size; omega) (HKY2.out.below hb3 (by omega))
    rw [HK3.out] at this
    exact this
  clear hb3 hr1 c0 c1 c2 c3 c4 c5 c6
  go_wp2
  go_loopw [4] (fun v wr => ∃ (st : List (Option Addr × Nat × Nat)) (f : Option Addr × Nat → Int), Hid (DeepIn w X wr R dep f (keyX x.k a n) v st)) (fun v wr => lenV v + wtS R (kidsF w) (fOf Tryz.prog (w.heap.size + 1) wr))
  case atStart => exact ⟨_, _, HI⟩
  case round =>
    obtain ⟨st, f, HD⟩ := hrel
    obtain ⟨va, vc, rfl⟩ := HD.out.own.slice
    have HWT := Lib.hid (HD.out.wt_eq HT.out)
    have HLOW := Lib.hid HD.out.low0
    have hst : st = [] ∨ ∃ st' e, st = st' ++ [e] := by
      rcases List.eq_nil_or_concat st with h | ⟨a, b, h⟩
      · exact .inl h
      · exact .inr ⟨a, b, by rw [h, List.concat_eq_append]⟩
    rcases hst with rfl | ⟨st', e, rfl⟩
    · have hf := HD.out.last HR.out
      have hx := (HD.out.low.block w.heap.size (Nat.lt_succ_self _)).trans HX.out
      obtain ⟨c0, c1, c2, c3, c4, c5, c6, _, _, _, _, _, _, _⟩ := XBlk.all hx
      have HL := Lib.hid (fun W (hW : Below wr.heap.size wr W) => (HD.out.map.below hW).look (((HT.out.blk HR.out).below HLOW.out).below hW))
      rw [hf] at HL
      clear hf hx HWT
      simp only [List.length_nil]
      go_wp2_with fail
      with_reducible refine (HU.out _).mono ?_
      rintro e w5 ⟨rfl, hb5⟩
      have HB5 := Lib.hid hb5
      clear hb5
      go_wp2_with fail
      with_reducible refine (HP0.out _).mono ?_
      rintro e w6 ⟨rfl, hb6⟩
      have HB6 := Lib.hid (HB5.out.trans (hb6.mono HB5.out.size))
      have hl := HL.out w6 HB6.out
      clear hb6
      go_wp2
      go_ret
      exact ⟨rfl, HLOW.out.trans (HB6.out.mono HLOW.out.size)⟩
    · have hmem := HD.out.mem
      obtain ⟨q, hq⟩ : ∃ q, (st' ++ [e]).length = q := ⟨_, rfl⟩
      have HQ := Lib.hid hq
      have hown := HD.out.own
      rw [hq] at HD hown ⊢
      obtain ⟨g, rfl, hq1, hct, hcap⟩ := hown.top
      obtain ⟨p, hp⟩ : ∃ p, st'.length = p := ⟨_, rfl⟩
      rw [hp] at hq1 hct
      subst hq1
      have HP := Lib.hid hp
      have HPE := Lib.hid (fun W => placeE_calls (w := W) e (fun hn => HT.out.addr hmem hn))
      have HL := Lib.hid (fun W (hW : Below wr.heap.size wr W) => (HD.out.map.below hW).look (((HT.out.blk hmem).below HLOW.out).below hW))
      have HM := Lib.hid hmem
      obtain ⟨z, hz⟩ : ∃ z, f (key3 e) = z := ⟨_, rfl⟩
      have hv := HD.out.inv.vals _ hmem
      have hpos := HT.out.rows.pos hmem
      rw [hz] at HL hv
      have HZ := Lib.hid hz
      have hnil := HD.out.inv.nil
      have hen : z ≤ 0 → e.2.1 ≠ 0 := fun hz0 he => by
        have : key3 e = (none, 0) := by unfold key3; rw [if_pos he]
        rw [this, hnil] at hz
        omega
      have HEN := Lib.hid hen
      have hpb : p ≤ 200000001 := by
        have := HD.out.len
        rw [List.length_append, hp] at this
        omega
      clear hq hown hp hmem hz hnil hen
      obtain ⟨ea, en, ec⟩ := e
      dsimp only at hct HPE
      go_wp2_with fail
      with_reducible refine (HPE.out _).mono ?_
      rintro e1 w5 ⟨rfl, hb5⟩
      have hl := HL.out w5 hb5
      have HB5 := Lib.hid hb5
      clear hb5
      by_cases hz0 : z = 0
      · subst hz0
        have hne := HEN.out (Int.le_refl _)
        have hk3 : key3 (ea, en, ec) = (ea, en) := by unfold key3; rw [if_neg hne]
        obtain ⟨hn0, l, hll, hl4, hka, _⟩ := HT.out.at_ _ HM.out (by rw [hk3]; exact fun e => hne (congrArg Prod.snd e))
        rw [hk3] at hll hka hn0
        dsimp only at hll hka hn0
        have HKA := Lib.hid hka
        have HLL := Lib.hid hll
        have HE := Lib.hid (And.intro hl4 hn0)
        have HK3e := Lib.hid hk3
        clear hv hpos hct hk3 hll hl4 hka hn0 hne
        go_wp2_with fail
        with_reducible refine (HPE.out _).mono ?_
        rintro e1 w6 ⟨rfl, hb6⟩
        have HB6 := Lib.hid (HB5.out.trans (hb6.mono HB5.out.size))
        obtain ⟨o7, W7, hr7, HW7, HM7, HKY7⟩ := (HD.out.map.below HB6.out).put (((HT.out.blk HM.out).below HLOW.out).below HB6.out) (-1)
        have HPU : Hid (DeepPush w X W7 R dep f (keyX x.k a n) (ea, en, ec) (.slice (some ⟨g, 0, none⟩) (p + 1) vc) st' 0) := by
          have h := HD.out.push HT.out (o := o7) (by rw [← HW7.out]; exact HM7.out) HB6.out (by rw [← HW7.out]; exact HKY7.out _ (HD.out.keys.below HB6.out (by have := HD.out.big; omega)) (HT.out.low HM.out))
          rw [← HW7.out] at h
          exact h
        clear hb6 hl HB5
        go_wp2
        go_loopw [4, 39] (fun v k wr => ∃ j : Nat, k = .int .i64 j ∧ j ≤ en ∧ Hid (DeepPush w X wr R dep f (keyX x.k a n) (ea, en, ec) v st' j)) (fun _ k _ => en - (RowKit.intOf k).toNat)
        case atStart => exact ⟨0, rfl, Nat.zero_le _, HPU⟩
        case round =>
          obtain ⟨j, rfl, hj, HPj⟩ := hrel
          by_cases hlt : j < en
          · obtain ⟨ps, ho, hk⟩ := HPj.out.own
            obtain ⟨va, vc', rfl⟩ := ho.slice
            obtain ⟨y, hy⟩ : ∃ y, l[j]? = some y := ⟨_, List.getElem?_eq_getElem (by rw [← HLL.out]; exact hlt)⟩
            obtain ⟨g2, o2, a2, c2, hea, ⟨d0, d1, d2, d3, d4, d5, d6⟩, hne2, hkb2, hks2⟩ := (HKA.out.below HPj.out.low0).2 j y hy
            obtain ⟨n2, hn2⟩ : ∃ n2, y.ks.length = n2 := ⟨_, rfl⟩
            rw [hn2] at d6 hne2 hkb2 hks2
            have hen4 : en ≤ 10000 := by rw [HLL.out]; exact HE.out.1
            obtain ⟨len, hlen⟩ : ∃ len, (st' ++ (ea, en, ec) :: ps).length = len := ⟨_, rfl⟩
            have hlb : len ≤ 500000000 := by
              have h1 : ps.length = j := by
                have := congrArg List.length hk
                rw [List.length_map, List.length_take, kidsF_len] at this
                have h2 : en ≤ 10000 := by rw [HLL.out]; exact HE.out.1
                have h3 : (key3 (ea, en, ec)).2 = en := by rw [HK3e.out]
                omega
              have h2 : en ≤ 10000 := by rw [HLL.out]; exact HE.out.1
              rw [← hlen, List.length_append, List.length_cons, HP.out, h1]
              omega
            have hba := (Below.refl wr.heap.size wr).alloc (Nat.le_refl _) (.cells #[.int .i64 y.k, .int .i64 y.v.k, .int .i64 y.v.n, .string (strB y.v.s), .string (strB y.x), .string (strB y.f), .slice a2 n2 c2] 38)
            have HBA := Lib.hid hba
            have HU2 := Lib.hid (fun W => under_calls (w := W) (k := y.k) (a := a2) (c := c2) (n := n2) (v := y.v) (x := y.x) (f := y.f))
            have hk32 := key3_und y.k a2 n2 c2
            obtain ⟨⟨ua2, un2, uc2⟩, hu2⟩ : ∃ z, undV y.k a2 n2 c2 = z := ⟨_, rfl⟩
            rw [hu2] at HU2 hk32
            have HAP : Hid (∀ w1, Below wr.heap.size wr w1 → ∃ a9 l9 c9 w9, (Builtin.append_ #[104, 104] 104 #[.slice va len vc', .slice (some ⟨w1.heap.size, 0, none⟩) 1 1]).run Tryz.prog (w1.alloc (.cells #[.slice ua2 un2 uc2] 36)) = .ok (.slice a9 l9 c9) w9 ∧ Hid (DeepPush w X w9 R dep f (keyX x.k a n) (ea, en, ec) (.slice a9 l9 c9) st' (j + 1))) := fun w1 hb1 => by
              have hb5 := (Below.refl w1.heap.size w1).alloc (Nat.le_refl _) (.cells #[.slice ua2 un2 uc2] 36)
              have hb15 := hb1.trans (hb5.mono hb1.size)
              have o5 := ho.keep (TFr.of_below (K := fun _ => False) hb15) (fun _ h => h.elim)
              have hbig := HPj.out.big
              rw [hlen] at o5
              obtain ⟨v9, w9, hr, ho9, hg⟩ := appRows o5 (by have := hb15.size; omega) (by rw [hlen]; omega) (ua2, un2, uc2) (heap_alloc_new w1 _)
              obtain ⟨a9, c9, rfl⟩ := ho9.slice
              refine ⟨a9, _, c9, w9, hr, ?_⟩
              have hown := o5.own
              have hmk := (HPj.out.map.below hb15).keepL (L := w.heap.size) (HPj.out.keys.below hb15 (by omega)) (TFr.of_grown (K := fun b => w.heap.size + 2 ≤ b) hg (fun k hk => (hown k hk).1)) (by omega) (fun b hb => by omega)
              refine ⟨⟨ps ++ [(ua2, un2, uc2)], ?_, ?_⟩, hmk.1, (HPj.out.low.trans (hb15.mono (by omega))).grown hg (by have := hb15.size; omega) (fun k hk => by have := (hown k hk).1; omega), ?_, hmk.2⟩
              · rw [← List.cons_append, ← List.append_assoc]
                exact ho9
              · rw [List.map_append, hk, HK3e.out, List.take_add_one, hks2, List.map_singleton, hk32]
                rfl
              · have := hb15.size
                have := hg.size
                omega
            subst hea
            rw [hlen]
            clear ho hk hy hne2 hkb2 hks2 hn2 hlen hk32 hu2 hba hr7
            go_wp2_with (first
              | (go_at_call 49; (with_reducible refine (HU2.out _).mono ?_); rintro e1 w9 ⟨rfl, hb9⟩; obtain ⟨a9, l9, c9, w10, hr9, HP9⟩ := HAP.out w9 (HBA.out.trans (hb9.mono HBA.out.size)); clear hb9)
              | (at_builtin; refine Lib.wpList_append_run _ rfl _ _ _ _ rfl _ _ rfl rfl _ _ hr9 ?_; clear hr9))
            go_round
            case rel => exact ⟨j + 1, by go_num, by omega, HP9⟩
            case measure => simp [RowKit.intOf]; omega
          · obtain ⟨st9, HD9, hlt9⟩ := HD.out.pushed HT.out HZ.out (j := j) (by rw [kidsF_len, HK3e.out]; show en ≤ j; omega) HPj.out
            obtain ⟨va, vc', rfl⟩ := HD9.own.slice
            have HD9 := Lib.hid HD9
            have HLT9 := Lib.hid hlt9
            clear hlt9 hr7
            go_wp2
            refine ⟨⟨_, _, HD9⟩, ?_⟩
            rw [HD9.out.wt_eq HT.out, HWT.out]
            have h1 := HLT9.out
            rw [HQ.out] at h1
            exact h1
      · have tz0 : (z == 0) = false := by rw [beq_eq_false_iff_ne]; exact hz0
        by_cases hz1 : z = -1
        · subst hz1
          have hne := HEN.out (by decide)
          have hk3 : key3 (ea, en, ec) = (ea, en) := by unfold key3; rw [if_neg hne]
          obtain ⟨hn0, l, hll, hl4, hka, _⟩ := HT.out.at_ _ HM.out (by rw [hk3]; exact fun e => hne (congrArg Prod.snd e))
          have hab := fun W (hW : Below wr.heap.size wr W) => above_calls (w := W) (c := ec) ((hka.below HLOW.out).below hW) (HD.out.map.below hW) HD.out.top (by omega)
          rw [hk3] at hll
          dsimp only at hll
          have hk1 : (key3 (ea, en, ec)).1 = ea := by rw [hk3]
          rw [← hll, hk1] at hab
          have HAB := Lib.hid hab
          clear hv hpos hct hll hl4 hka hn0 hne hab hk1 hk3
          go_wp2_with fail
          with_reducible refine (HPE.out _).mono ?_
          rintro e1 w6 ⟨rfl, hb6⟩
          have HB6 := Lib.hid (HB5.out.trans (hb6.mono HB5.out.size))
          clear hb6 hl HB5
          go_wp2_with fail
          with_reducible refine (HAB.out _ HB6.out).mono ?_
          rintro e1 w7 ⟨rfl, hb7⟩
          have HB7 := Lib.hid (HB6.out.trans (hb7.mono HB6.out.size))
          obtain ⟨o8, W8, hr8, HW8, HM8, HKY8⟩ := (HD.out.map.below HB7.out).put (((HT.out.blk HM.out).below HLOW.out).below HB7.out) (1 + mostF f (kidsF w (key3 (ea, en, ec))))
          have HD8 : Hid (DeepIn w X W8 R dep (updF f (key3 (ea, en, ec)) (1 + mostF f (kidsF w (key3 (ea, en, ec))))) (keyX x.k a n) (.slice (some ⟨g, 0, none⟩) (p + 1) vc) (st' ++ [(ea, en, ec)]) ∧ wtS R (kidsF w) (updF f (key3 (ea, en, ec)) (1 + mostF f (kidsF w (key3 (ea, en, ec))))) < wtS R (kidsF w) f) := by
            have h := HD.out.begun HT.out HZ.out (o := o8) (by rw [← HW8.out]; exact HM8.out) HB7.out (by rw [← HW8.out]; exact HKY8.out _ (HD.out.keys.below HB7.out (by have := HD.out.big; omega)) (HT.out.low HM.out))
            rw [← HW8.out] at h
            exact h
          clear hb7 HAB HB6
          go_wp2
          refine ⟨⟨_, _, HD8.out.1⟩, ?_⟩
          rw [HD8.out.1.wt_eq HT.out, HWT.out]
          have := HD8.out.2
          omega
        · have tz1 : (z == -1) = false := by rw [beq_eq_false_iff_ne]; exact hz1
          have hzp : 0 < z := by
            rcases hv with h | h | h
            · exact absurd h hz0
            · exact absurd h hz1
            · omega
          have HD5 := Lib.hid ((HD.out.below HB5.out).done (by rw [HZ.out]; exact hzp) (((HD.out.below HB5.out).own).pop))
          clear hv hpos hct
          go_wp2
          refine ⟨⟨_, _, HD5⟩, ?_⟩
          show lenV (.slice _ p _) + _ < lenV (.slice _ (p + 1) _) + _
          rw [HD5.out.wt_eq HT.out, HWT.out]
          show p + _ < p + 1 + _
          omega
end Go.Proofs.YtifacoompbngaaaGreatDoor
namespace Go.Proofs.YtifacoompbngaaaGreatDoor
open Go.RowKit Go.Lib Go.Op

/-- What is parsed is bounded. -/
theorem parse_bd (l : List UInt8) (_ : l.length ≤ 100000) : QuB (parseI l).1 := by
  have h0 : QuB noQ := ⟨fun i hi => (by cases hi), fun p hp => (by cases hp), Nat.zero_le _⟩
  obtain ⟨⟨ts, er, at_⟩, hts⟩ : ∃ z, readX l = z := ⟨_, rfl⟩
  unfold parseI
  rw [hts]
  split
  · exact h0
  · rename_i he
    have he : er = 0 := Decidable.not_not.1 he
    subst he
    obtain ⟨htk, hlen, _, _, hl5⟩ := readX_toks hts
    have hqb := queryT_sb (E := l.length) (s := ⟨ts, 0, -1⟩) (ts.length + 1) ⟨fun t ht => (htk t ht).1, by show ts.length ≤ _; omega⟩
    split
    · exact h0
    · split
      · exact hqb
      · exact h0

def hT1 : List UInt8 := [115, 101, 113, 32, 97, 32, 120, 32, 116, 104, 101, 110, 32, 110, 111, 116, 32, 98, 32, 111, 114, 32, 99, 32, 110, 32, 116, 104, 101, 110, 32, 98, 32, 121, 43, 32, 119, 104, 101, 114, 101, 32, 115, 117, 109, 40, 121, 46, 120, 41, 32, 45, 32, 40, 120, 46, 120, 32, 45, 32, 49, 41, 32, 62, 61, 32, 45, 51, 32, 119, 105, 116, 104, 105, 110, 32, 53, 32, 98, 121, 32, 105, 100, 32, 112, 105, 99, 107, 32, 110, 101, 120, 116]
def hL : PEx := .mk 8 noV [] [] [.mk 4 noV [121] [120] [], .mk 8 noV [] [] [.mk 2 noV [120] [120] [], .mk 1 ⟨1, 1, []⟩ [] [] []]]
def hP : PPr := ⟨hL, 6, .mk 1 ⟨1, -3, []⟩ [] [] []⟩
def hQ : PQu := ⟨[⟨false, [[97]], [120], 1⟩, ⟨true, [[98], [99]], [110], 1⟩, ⟨false, [[98]], [121], 2⟩], [hP], 5, [105, 100], 2⟩
theorem hT1_is : parseI hT1 = (hQ, 0, 0) := by kernel_rfl
theorem hT2_is : parseI [115, 101, 113, 32, 97, 32, 120, 32, 116, 104, 101, 110] = (noQ, 81, 12) := by kernel_rfl
theorem hT3_is : parseI [115, 101, 113, 32, 97, 32, 115, 101, 113, 32, 119, 105, 116, 104, 105, 110, 32, 53] = (noQ, 81, 6) := by kernel_rfl
theorem hT4_is : parseI [115, 101, 113, 32, 110, 111, 116, 32, 97, 32, 120, 32, 119, 105, 116, 104, 105, 110, 32, 53] = (noQ, 2, 0) := by kernel_rfl
theorem hQ_print : strB (printQ hQ) = ⟨([115, 101, 113, 32, 97, 32, 120, 32, 116, 104, 101, 110, 32, 110, 111, 116, 32, 98, 32, 111, 114, 32, 99, 32, 110, 32, 116, 104, 101, 110, 32, 98, 32, 121, 43, 32, 119, 104, 101, 114, 101, 32, 115, 117, 109, 40].append [121, 46, 120, 41, 32, 45, 32, 40, 120, 46, 120, 32, 45, 32, 49, 41, 32, 62, 61, 32, 45, 51, 32, 119, 105, 116, 104, 105, 110, 32, 53, 32, 98, 121, 32, 105, 100, 32, 112, 105, 99, 107, 32, 110, 101, 120, 116]).toArray⟩ := by kernel_rfl
theorem hQ_right : rightQ hQ = true := by kernel_rfl
theorem hQ_deep : deepI hL = 3 := by
  simp [hL, deepI_mk, deepIs_cons, deepIs_nil]
  decide
theorem hQ_size : sizeI hL = 5 := by
  simp [hL, sizeI_mk, sizeIs_cons, sizeIs_nil]
theorem hQ_b : QuB hQ := by
  have h := parse_bd hT1 (by decide)
  rw [hT1_is] at h
  exact h

/-- What the parse of the head's text leaves. -/
def HdP (w : World) (e : Ending) (w' : World) : Prop := ∃ (a : Option Addr) (c : Nat) (b : Option Addr) (d : Nat), e = .returned (.tuple #[.agg #[.slice a 3 c, .slice b 1 d, .int .i64 5, .string ⟨#[105, 100]⟩, .int .i64 2], .int .i64 0, .int .i64 0]) ∧ QuAt (· < w.heap.size) w' a 3 c b 1 d hQ ∧ Below w.heap.size w w'
theorem strB_eq' (s : ByteArray) : strB s.data.toList = s := by apply ByteArray.ext; simp [strB]
theorem hd_parse {w : World} (hv : TVars w) (s : ByteArray) (hs : s.data.toList = hT1) : Calls Tryz.prog 16 #[.string s] w (HdP w) := by
  have h := parse_calls hv hT1 (by decide)
  rw [hT1_is] at h
  rw [← strB_eq' s, hs]
  refine h.mono ?_
  rintro e w' ⟨a, q, c, b, r, d, rfl, hq, hb⟩
  obtain rfl := hq.1.len
  obtain rfl := hq.2.len
  exact ⟨a, c, b, d, rfl, hq, hb⟩
/-- What a parse leaves that fails. -/
def NoP (w : World) (x p : Int) (e : Ending) (w' : World) : Prop := ∃ (a : Option Addr) (q c : Nat) (b : Option Addr) (r d : Nat), e = .returned (.tuple #[.agg #[.slice a q c, .slice b r d, .int .i64 0, .string ⟨#[]⟩, .int .i64 0], .int .i64 x, .int .i64 p]) ∧ Below w.heap.size w w'
theorem no_parse {w : World} (hv : TVars w) (s : ByteArray) (l : List UInt8) (hs : s.data.toList = l) (hl : l.length ≤ 100000) {x p : Int} (hp : parseI l = (noQ, x, p)) : Calls Tryz.prog 16 #[.string s] w (NoP w x p) := by
  have h := parse_calls hv l hl
  rw [hp] at h
  rw [← strB_eq' s, hs]
  refine h.mono ?_
  rintro e w' ⟨a, q, c, b, r, d, rfl, hq, hb⟩
  exact ⟨a, q, c, b, r, d, rfl, hb⟩

/-- What the head finds in memory of what it parsed first. -/
structure HdM (w : World) (a : Option Addr) (b : Option Addr) : Prop where
  its : ∃ g o n1 c1, a = some ⟨g, o, none⟩ ∧ w.cell? ⟨g, o + 4, none⟩ = some (.bool true) ∧ w.cell? ⟨g, o + 5, none⟩ = some (.slice n1 2 c1) ∧ w.cell? ⟨g, o + 11, none⟩ = some (.int .i64 2)
  prs : ∃ g o n1 c1, b = some ⟨g, o, none⟩ ∧ w.cell? ⟨g, o, none⟩ = some (.int .i64 6) ∧ w.cell? ⟨g, o + 1, none⟩ = some (.int .i64 8) ∧ w.cell? ⟨g, o + 2, none⟩ = some (.int .i64 0) ∧ w.cell? ⟨g, o + 3, none⟩ = some (.int .i64 0) ∧ w.cell? ⟨g, o + 4, none⟩ = some (.string (strB [])) ∧ w.cell? ⟨g, o + 5, none⟩ = some (.string (strB [])) ∧ w.cell? ⟨g, o + 6, none⟩ = some (.string (strB [])) ∧ w.cell? ⟨g, o + 7, none⟩ = some (.slice n1 2 c1) ∧
    ∀ W, Below w.heap.size w W → Calls Tryz.prog 20 #[exV hL (.slice n1 2 c1)] W fun e w' => e = .returned (.int .i64 3) ∧ Below W.heap.size W w'
theorem HdM.of {w0 w : World} {a b : Option Addr} {c d : Nat} (h0 : 0 < w0.heap.size) (h : QuAt (· < w0.heap.size) w a 3 c b 1 d hQ) : HdM w a b := by
  constructor
  · obtain ⟨g, o, a1, c1, rfl, d0, d1, d2, d3, hr⟩ := h.1.itemAt (j := 1) rfl
    obtain ⟨g', o', a2, c2, e, d4, d5, d6, d7, hr2⟩ := h.1.itemAt (j := 2) rfl
    injection e with e
    injection e with e1 e2
    subst e1 e2
    exact ⟨g, o, a1, c1, rfl, d0, d1, d7⟩
  · obtain ⟨g, o, a1, q, c1, b1, r, d1, e, rfl, hcell, hq, hr, h1, h2⟩ := h.2.predAt (j := 0) rfl
    obtain rfl : q = 2 := hq
    refine ⟨g, o, a1, c1, rfl, hcell 0 _ rfl, hcell 1 _ rfl, hcell 2 _ rfl, hcell 3 _ rfl, hcell 4 _ rfl, hcell 5 _ rfl, hcell 6 _ rfl, hcell 7 _ rfl, fun W hW => ?_⟩
    have hd := deep_calls (K := (· < w0.heap.size)) h0 (w := W) (x := hL) (a := a1) (c := c1) (h1.keep (TFr.of_below hW)) (by rw [hQ_size]; decide)
    rw [hQ_deep] at hd
    exact hd

set_option maxHeartbeats 4000000 in
set_option maxRecDepth 100000 in
theorem thead_calls {w : World} (hv : TVars w) (hp : PVars w) : Calls Tryz.prog 15 #[] w fun e w' => e = .returned (.bool true) ∧ Below w.heap.size w w' := by
  have h0 : 0 < w.heap.size := Nat.lt_of_le_of_lt (Nat.zero_le _) (World.block_lt_of_cell? _ _ hv.t0)
  have HR1 := Lib.hid (hd_parse hv)
  have HV := Lib.hid hv
  have HPV := Lib.hid hp
  clear hv hp
  go_enter Tryz.func15, Tryz.ntmps15
  go_wp2_with fail
  refine (HR1.out _ (by kernel_rfl)).mono ?_
  rintro e w1 ⟨a, c, b, d, rfl, hq, hb1⟩
  have hba := (Below.refl w1.heap.size w1).alloc (Nat.le_refl _) (.cells #[.slice a 3 c, .slice b 1 d, .int .i64 5, .string ⟨#[105, 100]⟩, .int .i64 2] 26)
  have HB1 := Lib.hid hb1
  have HX := Lib.hid (Blk.new w1 #[.slice a 3 c, .slice b 1 d, .int .i64 5, .string ⟨#[105, 100]⟩, .int .i64 2] 26)
  have HBA := Lib.hid hba
  have HQ := Lib.hid hq
  have HPr : Hid (Calls Tryz.prog 24 #[.agg #[.slice a 3 c, .slice b 1 d, .int .i64 5, .string ⟨#[105, 100]⟩, .int .i64 2]] (w1.alloc (.cells #[.slice a 3 c, .slice b 1 d, .int .i64 5, .string ⟨#[105, 100]⟩, .int .i64 2] 26)) fun e w' => e = .returned (.string ⟨([115, 101, 113, 32, 97, 32, 120, 32, 116, 104, 101, 110, 32, 110, 111, 116, 32, 98, 32, 111, 114, 32, 99, 32, 110, 32, 116, 104, 101, 110, 32, 98, 32, 121, 43, 32, 119, 104, 101, 114, 101, 32, 115, 117, 109, 40].append [121, 46, 120, 41, 32, 45, 32, 40, 120, 46, 120, 32, 45, 32, 49, 41, 32, 62, 61, 32, 45, 51, 32, 119, 105, 116, 104, 105, 110, 32, 53, 32, 98, 121, 32, 105, 100, 32, 112, 105, 99, 107, 32, 110, 101, 120, 116]).toArray⟩) ∧ Below (w1.alloc (.cells #[.slice a 3 c, .slice b 1 d, .int .i64 5, .string ⟨#[105, 100]⟩, .int .i64 2] 26)).heap.size (w1.alloc (.cells #[.slice a 3 c, .slice b 1 d, .int .i64 5, .string ⟨#[105, 100]⟩, .int .i64 2] 26)) w') := by
    have h := print_calls (p := hQ) (K := (· < w.heap.size)) ⟨hq.1.low hba, hq.2.low hba⟩ hQ_b ((HPV.out.below hb1).below hba)
    rw [hQ_print] at h
    exact h
  clear hq hb1 hba HR1
  go_wp2_with fail
  with_reducible refine HPr.out.mono ?_
  rintro e w2 ⟨rfl, hb2⟩
  have HB2 := Lib.hid hb2
  have HB02 := Lib.hid ((HB1.out.trans (HBA.out.mono HB1.out.size)).trans (hb2.mono (Nat.le_trans HB1.out.size HBA.out.size)))
  have HR2 := Lib.hid (no_parse (HV.out.below HB02.out))
  clear hb2 HPr
  go_wp2_with fail
  refine (HR2.out _ _ rfl (by decide) hT2_is).mono ?_
  rintro e w3 ⟨a2, q2, c2, b2, r2, d2, rfl, hb3⟩
  have HB3 := Lib.hid ((hb3.trans ((Below.refl w3.heap.size w3).alloc (Nat.le_refl _) (.cells #[.slice a2 q2 c2, .slice b2 r2 d2, .int .i64 0, .string ⟨#[]⟩, .int .i64 0] 26) |>.mono hb3.size)))
  have HB03 := Lib.hid (HB02.out.trans (HB3.out.mono HB02.out.size))
  have HR3 := Lib.hid (no_parse (HV.out.below HB03.out))
  clear hb3 HR2
  go_wp2_with fail
  refine (HR3.out _ _ rfl (by decide) hT3_is).mono ?_
  rintro e w4 ⟨a3, q3, c3, b3, r3, d3, rfl, hb4⟩
  have HB4 := Lib.hid (HB3.out.trans ((hb4.trans ((Below.refl w4.heap.size w4).alloc (Nat.le_refl _) (.cells #[.slice a3 q3 c3, .slice b3 r3 d3, .int .i64 0, .string ⟨#[]⟩, .int .i64 0] 26) |>.mono hb4.size)).mono HB3.out.size))
  have HB04 := Lib.hid (HB02.out.trans (HB4.out.mono HB02.out.size))
  have HR4 := Lib.hid (no_parse (HV.out.below HB04.out))
  clear hb4 HR3
  go_wp2_with fail
  refine (HR4.out _ _ rfl (by decide) hT4_is).mono ?_
  rintro e w5 ⟨a4, q4, c4, b4, r4, d4, rfl, hb5⟩
  have HB5 := Lib.hid (HB4.out.trans ((hb5.trans ((Below.refl w5.heap.size w5).alloc (Nat.le_refl _) (.cells #[.slice a4 q4 c4, .slice b4 r4 d4, .int .i64 0, .string ⟨#[]⟩, .int .i64 0] 26) |>.mono hb5.size)).mono HB4.out.size))
  have HB05 := Lib.hid (HB02.out.trans (HB5.out.mono HB02.out.size))
  clear hb5 HR4
  have hm1 := HdM.of h0 HQ.out
  obtain ⟨gi, oi, n1, c1, rfl, i0, i1, i2⟩ := hm1.its
  obtain ⟨gp, op, n2, c2, rfl, p0, p1, p2, p3, p4, p5, p6, p7, hdp⟩ := hm1.prs
  have hB15 : Below w1.heap.size w1 (w5.alloc (.cells #[.slice a4 q4 c4, .slice b4 r4 d4, .int .i64 0, .string ⟨#[]⟩, .int .i64 0] 26)) := HBA.out.trans ((HB2.out.trans (HB5.out.mono HB2.out.size)).mono HBA.out.size)
  have hx := (HX.out.low HB2.out).low HB5.out
  have x0 := tcell_of_blk hx (k := 0) rfl
  have x1 := tcell_of_blk hx (k := 1) rfl
  have x2 := tcell_of_blk hx (k := 2) rfl
  have x3 := tcell_of_blk hx (k := 3) rfl
  have x4 := tcell_of_blk hx (k := 4) rfl
  have j0 := tkeep hB15 i0
  have j1 := tkeep hB15 i1
  have j2 := tkeep hB15 i2
  have u0 := tkeep hB15 p0
  have u1 := tkeep hB15 p1
  have u2 := tkeep hB15 p2
  have u3 := tkeep hB15 p3
  have u4 := tkeep hB15 p4
  have u5 := tkeep hB15 p5
  have u6 := tkeep hB15 p6
  have u7 := tkeep hB15 p7
  have HRt : Hid (Calls Tryz.prog 22 #[.agg #[.slice (some ⟨gi, oi, none⟩) 3 c, .slice (some ⟨gp, op, none⟩) 1 d, .int .i64 5, .string ⟨#[105, 100]⟩, .int .i64 2]] (w5.alloc (.cells #[.slice a4 q4 c4, .slice b4 r4 d4, .int .i64 0, .string ⟨#[]⟩, .int .i64 0] 26)) fun e w' => e = .returned (.bool true) ∧ Below (w5.alloc (.cells #[.slice a4 q4 c4, .slice b4 r4 d4, .int .i64 0, .string ⟨#[]⟩, .int .i64 0] 26)).heap.size (w5.alloc (.cells #[.slice a4 q4 c4, .slice b4 r4 d4, .int .i64 0, .string ⟨#[]⟩, .int .i64 0] 26)) w') := by
    have h := right_calls (p := hQ) (K := (· < w.heap.size)) (w := (w5.alloc (.cells #[.slice a4 q4 c4, .slice b4 r4 d4, .int .i64 0, .string ⟨#[]⟩, .int .i64 0] 26))) ⟨HQ.out.1.low hB15, HQ.out.2.low hB15⟩ hQ_b
    rw [hQ_right] at h
    exact h
  have HDp : Hid (∀ W, Below (w5.alloc (.cells #[.slice a4 q4 c4, .slice b4 r4 d4, .int .i64 0, .string ⟨#[]⟩, .int .i64 0] 26)).heap.size (w5.alloc (.cells #[.slice a4 q4 c4, .slice b4 r4 d4, .int .i64 0, .string ⟨#[]⟩, .int .i64 0] 26)) W → Calls Tryz.prog 20 #[.agg #[.int .i64 8, .int .i64 0, .int .i64 0, .string (strB []), .string (strB []), .string (strB []), .slice n2 2 c2]] W fun e w' => e = .returned (.int .i64 3) ∧ Below W.heap.size W w') := fun W hW => hdp W (hB15.trans (hW.mono hB15.size))
  have HB05 := Lib.hid (HB02.out.trans (HB5.out.mono HB02.out.size))
  clear hm1 i0 i1 i2 p0 p1 p2 p3 p4 p5 p6 p7 hdp hB15 hx HQ HX
  go_wp2_with (first
    | (go_at_call 22; (with_reducible refine HRt.out.mono ?_); rintro e w6 ⟨rfl, hb6⟩; have HB6 := Lib.hid hb6; have s1 := tkeep hb6 x1; have y1 := tkeep hb6 u1; have y2 := tkeep hb6 u2; have y3 := tkeep hb6 u3; have y4 := tkeep hb6 u4; have y5 := tkeep hb6 u5; have y6 := tkeep hb6 u6; have y7 := tkeep hb6 u7; clear hb6)
    | (go_at_call 20; (with_reducible refine (HDp.out _ HB6.out).mono ?_); rintro e w7 ⟨rfl, hb7⟩; have HB7 := Lib.hid (HB6.out.trans (hb7.mono HB6.out.size)); clear hb7))
  go_ret
  exact ⟨rfl, HB05.out.trans (HB7.out.mono HB05.out.size)⟩
end Go.Proofs.YtifacoompbngaaaGreatDoor
namespace Go.Proofs.YtifacoompbngaaaGreatDoor
open Go.Lib

theorem print_inj {p q : PQu} (hp : rightQ p = true) (hq : rightQ q = true) (h : printQ p = printQ q) : p = q := by
  have h1 := lx_query p hp
  rw [h] at h1
  have h2 : tokQ p = tokQ q := h1.one (lx_query q hq)
  have h3 : ((tokQ p).map fun t => (⟨t.1, t.2, 0⟩ : XTok)).map bare = tokQ p := by
    rw [List.map_map]
    exact List.map_id'' (fun x => rfl) _
  have h4 := query_of (E := 0) p hp _ h3 (Nat.le_refl _)
  have h5 := query_of (E := 0) q hq _ (h3.trans h2) (Nat.le_refl _)
  rw [h4] at h5
  exact congrArg Prod.fst h5
theorem parse_right {l : List UInt8} (h : (parseI l).2.1 = 0) : rightQ (parseI l).1 = true := by
  unfold parseI at h ⊢
  split at h
  · rename_i hn
    dsimp only at h
    exact absurd (by exact_mod_cast h) hn
  · rename_i hn
    rw [if_neg hn]
    split at h
    · cases h
    · rename_i hn2
      rw [if_neg hn2]
      split at h
      · rename_i hr
        rw [if_pos hr]
        exact hr
      · cases h
theorem ln_of_right : ∀ (d : Nat) (x : PEx), rightX d x = true → XBd x → XLn x
  | 0, x, h, _ => by
    cases x
    rw [rightX] at h
    cases h
  | d + 1, x, h, hb => by
    obtain ⟨k, v, x, f, ks, hv, hx, hf, hk⟩ := hb
    have hM : 1000000 ≤ maxLen := by unfold maxLen; decide
    rcases rightX_kinds h with h0 | h0 | h0 | ⟨_, y, z, rfl, h1, h2⟩
    all_goals first
      | (refine .mk _ _ _ _ _ (by omega) (by omega) (by omega) (by simp only [List.length_cons, List.length_nil]; omega) (fun t ht => ?_)
         rcases List.mem_cons.1 ht with rfl | ht
         · exact ln_of_right d _ h1 (hk _ List.mem_cons_self)
         · obtain rfl := List.mem_singleton.1 ht
           exact ln_of_right d _ h2 (hk _ (List.mem_cons_of_mem _ List.mem_cons_self)))
      | (have hks : ks = [] := by
           by_cases h1 : k = 1
           · subst h1
             rw [rightX_one] at h
             simp only [Bool.and_eq_true, decide_eq_true_eq] at h
             exact List.eq_nil_of_length_eq_zero h.1.2.2
           · by_cases h3 : k = 3
             · subst h3
               rw [rightX_three] at h
               simp only [Bool.and_eq_true, decide_eq_true_eq] at h
               exact List.eq_nil_of_length_eq_zero h.1.2.2
             · have h5 : k = 2 ∨ k = 4 ∨ k = 5 ∨ k = 6 := by omega
               rw [rightX_field _ _ h5] at h
               simp only [Bool.and_eq_true, decide_eq_true_eq] at h
               exact List.eq_nil_of_length_eq_zero h.1.2
         subst hks
         exact .mk _ _ _ _ _ (by omega) (by omega) (by omega) (Nat.zero_le _) (fun t ht => by cases ht))
theorem ln_query {p : PQu} (h : rightQ p = true) (hb : QuB p) : p.its.length ≤ maxLen ∧ p.prs.length ≤ maxLen ∧ QLs p := by
  obtain ⟨h1, h2, h3, _⟩ := rightQ_parts h
  have hM : 1000000 ≤ maxLen := by unfold maxLen; decide
  have h4 := (rightIs_parts h1).2.1
  refine ⟨by omega, by omega, fun i hi => ?_, fun x hx => ?_⟩
  · have := (rightI_parts ((rightIs_parts h1).2.2 i hi).1).2.2.1
    omega
  · have h5 := h3 x hx
    unfold rightP at h5
    simp only [Bool.and_eq_true, decide_eq_true_eq] at h5
    exact ⟨ln_of_right 6 _ h5.2.1 (hb.2.1 x hx).1, ln_of_right 6 _ h5.2.2 (hb.2.1 x hx).2⟩
end Go.Proofs.YtifacoompbngaaaGreatDoor
namespace Go.Proofs.YtifacoompbngaaaGreatDoor
open Go.Lib

theorem Lx.count {l : List UInt8} {ts : List (Nat × List UInt8)} (h : Lx l ts) : ts.length ≤ l.length := by
  induction h with
  | nil => exact Nat.le_refl _
  | blank _ ih => rw [List.length_cons]; omega
  | tok k b hf _ ih =>
    have := hf.len
    rw [List.length_append, List.length_cons]
    omega
/-- A right query's text is read as it, and its words as tokens; or it is too long for both. -/
theorem back_print {q : PQu} (h : rightQ q = true) : (parseI (printQ q) = (q, 0, 0) ∧ (readX (printQ q)).2.1 = 0) ∨ ((∃ p, parseI (printQ q) = (noQ, 2, p)) ∧ (readX (printQ q)).2.1 = 2 ∧ 128 ≤ (printQ q).length) := by
  have hL := lx_query q h
  by_cases hs : (printQ q).length ≤ 512 ∧ (tokQ q).length ≤ 128
  · refine .inl ⟨(parse_print q h).1 hs, ?_⟩
    obtain ⟨us, h3, _⟩ := hL.lex ((printQ q).length + 1) 0 0 (Nat.lt_succ_self _) (by omega)
    unfold readX
    rw [if_neg (by omega), h3]
  · refine .inr ⟨(parse_print q h).2 hs, ?_, ?_⟩
    · unfold readX
      split
      · rfl
      · exact hL.long _ 0 0 (Nat.lt_succ_self _) (by omega) (by omega)
    · have := hL.count
      omega
theorem print_ne {q : PQu} (h : rightQ q = true) : printQ q ≠ [] := fun e => by
  unfold printQ at e
  rw [if_pos h] at e
  simp at e

theorem exprTx_short : ∀ (d : Nat) (x : PEx), rightX d x = true → (exprTx d x).length + 15 ≤ 58 * 2 ^ d
  | 0, x, h => by cases x; cases h
  | d + 1, .mk k v x f ks, h => by
    have hp : 0 < 2 ^ d := Nat.pow_pos (by decide)
    rw [Nat.pow_succ]
    rcases rightX_kinds h with ⟨rfl, hv⟩ | ⟨rfl, hx⟩ | ⟨hk, hx, hf⟩ | ⟨hk, y, z, rfl, h1, h2⟩
    · show (valTx v).length + 15 ≤ _
      have := valTx_len hv
      omega
    · show (atL callsL 3 ++ 40 :: (x ++ [41])).length + 15 ≤ _
      have := nameB_len hx
      have e : (atL callsL 3).length = 5 := rfl
      simp only [List.length_append, List.length_cons, List.length_nil, e]
      omega
    · have hx := nameB_len hx
      have hf := nameB_len hf
      rcases hk with rfl | rfl | rfl | rfl
      · show (x ++ 46 :: f).length + 15 ≤ _
        simp only [List.length_append, List.length_cons]
        omega
      · show (atL callsL 4 ++ 40 :: (x ++ 46 :: (f ++ [41]))).length + 15 ≤ _
        have e : (atL callsL 4).length = 3 := rfl
        simp only [List.length_append, List.length_cons, List.length_nil, e]
        omega
      · show (atL callsL 5 ++ 40 :: (x ++ 46 :: (f ++ [41]))).length + 15 ≤ _
        have e : (atL callsL 5).length = 3 := rfl
        simp only [List.length_append, List.length_cons, List.length_nil, e]
        omega
      · show (atL callsL 6 ++ 40 :: (x ++ 46 :: (f ++ [41]))).length + 15 ≤ _
        have e : (atL callsL 6).length = 3 := rfl
        simp only [List.length_append, List.length_cons, List.length_nil, e]
        omega
    · have h1 := exprTx_short d y h1
      have h2 := exprTx_short d z h2
      have e7 : (atL sumsL 7).length = 1 := rfl
      have e8 : (atL sumsL 8).length = 1 := rfl
      rcases hk with rfl | rfl
      · show (exprTx d y ++ 32 :: (atL sumsL 7 ++ 32 :: (if z.k = 7 ∨ z.k = 8 then 40 :: (exprTx d z ++ [41]) else exprTx d z))).length + 15 ≤ _
        split <;> simp only [List.length_append, List.length_cons, List.length_nil, e7] <;> omega
      · show (exprTx d y ++ 32 :: (atL sumsL 8 ++ 32 :: (if z.k = 7 ∨ z.k = 8 then 40 :: (exprTx d z ++ [41]) else exprTx d z))).length + 15 ≤ _
        split <;> simp only [List.length_append, List.length_cons, List.length_nil, e8] <;> omega

theorem exprTx_six {x : PEx} (h : rightX 6 x = true) : (exprTx 6 x).length ≤ 3700 := by
  have h1 := exprTx_short 6 x h
  have e : (2 : Nat) ^ 6 = 64 := rfl
  omega
theorem print_short {q : PQu} (h : rightQ q = true) : (printQ q).length ≤ 100000 := by
  obtain ⟨h1, h2, h3, h4, h5, h6⟩ := rightQ_parts h
  obtain ⟨_, h8, h9⟩ := rightIs_parts h1
  have a1 := inter_len [32, 116, 104, 101, 110, 32] 1200 (q.its.map itemTx) (fun b hb => by
    obtain ⟨i, hi, rfl⟩ := List.mem_map.1 hb
    exact itemTx_len (h9 i hi).1 (h9 i hi).2)
  have a2 := inter_len [32, 97, 110, 100, 32] 7500 (q.prs.map predTx) (fun b hb => by
    obtain ⟨x, hx, rfl⟩ := List.mem_map.1 hb
    have hr := h3 x hx
    unfold rightP at hr
    rw [Bool.and_eq_true, Bool.and_eq_true] at hr
    have b1 := exprTx_six hr.2.1
    have b2 := exprTx_six hr.2.2
    have b3 := atL_short (l := cmpsL) (by decide) x.cmp
    unfold predTx
    simp only [List.length_append, List.length_cons]
    omega)
  rw [List.length_map] at a1 a2
  have a3 := itoa_short q.within (by omega)
  have a4 := atL_short (l := picksL) (by decide) q.pick
  have a5 : q.by_.length ≤ 16 := by
    rcases h5 with e | e
    · rw [e]; simp
    · exact (name_word e).2.2
  have a6 : q.its.length * (1200 + ([32, 116, 104, 101, 110, 32] : List UInt8).length) ≤ 6 * 1206 := Nat.mul_le_mul h8 (by decide)
  have a7 : q.prs.length * (7500 + ([32, 97, 110, 100, 32] : List UInt8).length) ≤ 8 * 7505 := Nat.mul_le_mul h2 (by decide)
  unfold printQ
  rw [if_pos h]
  simp only [List.length_append]
  have a8 : (if q.prs = [] then [] else [32, 119, 104, 101, 114, 101, 32] ++ ([32, 97, 110, 100, 32] : List UInt8).intercalate (q.prs.map predTx)).length ≤ 7 + (([32, 97, 110, 100, 32] : List UInt8).intercalate (q.prs.map predTx)).length := by
    split
    · simp
    · rw [List.length_append]; exact Nat.le_refl _
  have a9 : (if q.by_ = [] then [] else ([32, 98, 121, 32] : List UInt8) ++ q.by_).length ≤ 4 + q.by_.length := by
    split
    · simp
    · rw [List.length_append]; exact Nat.le_refl _
  have e1 : ([115, 101, 113, 32] : List UInt8).length = 4 := rfl
  have e2 : ([32, 119, 105, 116, 104, 105, 110, 32] : List UInt8).length = 8 := rfl
  have e3 : ([32, 112, 105, 99, 107, 32] : List UInt8).length = 6 := rfl
  omega
theorem parse_none {l : List UInt8} (h : (parseI l).2.1 ≠ 0) : (parseI l).1 = noQ := by
  unfold parseI at h ⊢
  split at h
  · rename_i hn
    rw [if_pos hn]
  · rename_i hn
    rw [if_neg hn]
    split at h
    · rename_i hn2
      rw [if_pos hn2]
    · rename_i hn2
      rw [if_neg hn2]
      split at h
      · exact absurd rfl h
      · rename_i hr
        rw [if_neg hr]

end Go.Proofs.YtifacoompbngaaaGreatDoor
